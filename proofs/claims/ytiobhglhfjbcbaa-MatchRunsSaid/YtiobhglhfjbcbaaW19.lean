import Derived.Test.YtiobhglhfjbcbaaW10
namespace Go.Proofs.Ytiobhglhfjbcbaa
open Go.RowKit

theorem rep_get (n : Nat) (c : UInt8) (i : Nat) (h : i < n) : (List.replicate n c).getD i 0 = c := by
  rw [List.getD_eq_getElem?_getD, List.getElem?_replicate, if_pos h]; rfl
theorem alkF_rep (n : Nat) (c : UInt8) (f a k : Nat) (h : f ≤ a) (ha : a ≤ n) : alkF (List.replicate n c) f a k = min k (n - a) := by
  induction k generalizing f a with
  | zero => simp [alkF]
  | succ k ih =>
    rw [alkF, List.length_replicate]
    split
    · rename_i h1
      rw [ih (f + 1) (a + 1) (by omega) (by omega)]; omega
    · rename_i h1
      have : ¬ a < n := fun h2 => h1 ⟨h2, by rw [rep_get n c f (by omega), rep_get n c a h2]⟩
      omega
theorem bestF_rep (n : Nat) (c : UInt8) (a D : Nat) (ha : a ≤ n) : bestF (List.replicate n c) a D = if D = 0 ∨ min 18 (n - a) < 3 then (2, 0) else (min 18 (n - a), 1) := by
  induction D with
  | zero => simp [bestF]
  | succ D ih =>
    rw [bestF, ih, alkF_rep n c _ a 18 (by omega) ha]
    generalize min 18 (n - a) = m
    by_cases h : m < 3
    · simp [h]; omega
    · by_cases hD : D = 0
      · subst hD
        simp [h]; omega
      · simp [h, hD]
/-- What is left, by tokens. -/
def wantF (c : UInt8) : Nat → Nat → List Tok
  | 0, _ => []
  | k + 1, left => if left = 0 then [] else if min left 18 < 3 then ⟨c, 0, 0⟩ :: wantF c k (left - 1) else ⟨0, (min left 18 : Nat), 1⟩ :: wantF c k (left - min left 18)
theorem nextT_rep (n : Nat) (c : UInt8) (a : Nat) (h0 : 1 ≤ a) (ha : a < n) : nextT (List.replicate n c) a = if min (n - a) 18 < 3 then ⟨c, 0, 0⟩ else ⟨0, (min (n - a) 18 : Nat), 1⟩ := by
  unfold nextT
  rw [bestF_rep n c a _ (by omega)]
  by_cases h : min 18 (n - a) < 3
  · rw [if_pos (Or.inr h), if_pos rfl, if_pos (by omega), rep_get n c a ha]
  · rw [show (if min a 256 = 0 ∨ min 18 (n - a) < 3 then ((2 : Nat), (0 : Nat)) else (min 18 (n - a), 1)) = (min 18 (n - a), 1) from if_neg (by omega), if_neg (by simp), if_neg (by omega), Nat.min_comm]; rfl
theorem toksF_rep (n : Nat) (c : UInt8) (k a : Nat) (h0 : 1 ≤ a) (ha : a ≤ n) : toksF (List.replicate n c) k a = wantF c k (n - a) := by
  induction k generalizing a with
  | zero => rfl
  | succ k ih =>
    rw [toksF, wantF, List.length_replicate]
    by_cases h : a < n
    · rw [if_pos h, if_neg (by omega), nextT_rep n c a h0 h]
      by_cases h3 : min (n - a) 18 < 3
      · rw [if_pos h3, if_pos h3, show a + (sizeT ⟨c, 0, 0⟩).toNat = a + 1 from rfl, ih (a + 1) (by omega) (by omega), show n - (a + 1) = n - a - 1 by omega]
      · rw [if_neg h3, if_neg h3]
        have hs : (sizeT ⟨0, (min (n - a) 18 : Nat), 1⟩).toNat = min (n - a) 18 := by
          unfold sizeT
          simp only []
          rw [if_neg (by omega)]
          exact Int.toNat_natCast _
        rw [hs, ih _ (by omega) (by omega), show n - (a + min (n - a) 18) = n - a - min (n - a) 18 by omega]
    · rw [if_neg h, if_pos (by omega)]
theorem toksB_rep (n : Nat) (c : UInt8) (h : 1 ≤ n) : toksB (List.replicate n c) = [⟨c, 0, 0⟩] ++ wantF c (n - 1) (n - 1) := by
  unfold toksB
  rw [List.length_replicate]
  obtain ⟨m, rfl⟩ : ∃ m, n = m + 1 := ⟨n - 1, by omega⟩
  rw [toksF, if_pos (by simp)]
  have hn : nextT (List.replicate (m + 1) c) 0 = ⟨c, 0, 0⟩ := by
    unfold nextT
    rw [show min 0 256 = 0 from rfl, bestF]
    rw [if_pos rfl, rep_get (m + 1) c 0 (by omega)]
  rw [hn, show 0 + (sizeT ⟨c, 0, 0⟩).toNat = 1 from rfl, toksF_rep (m + 1) c m 1 (by omega) (by omega)]
  rfl
theorem wantF_lit {c : UInt8} {k left : Nat} (h : left ≤ k) (h1 : 1 ≤ left) (h3 : left < 3) : ∃ k', left - 1 ≤ k' ∧ wantF c k left = [⟨c, 0, 0⟩] ++ wantF c k' (left - 1) := by
  obtain ⟨k', rfl⟩ : ∃ k', k = k' + 1 := ⟨k - 1, by omega⟩
  exact ⟨k', by omega, by rw [wantF, if_neg (by omega), if_pos (by omega)]; rfl⟩
theorem wantF_rep {c : UInt8} {k left m : Nat} (h : left ≤ k) (h1 : 3 ≤ left) (hm : m = min left 18) : ∃ k', left - m ≤ k' ∧ wantF c k left = [⟨0, (m : Nat), 1⟩] ++ wantF c k' (left - m) := by
  subst hm
  obtain ⟨k', rfl⟩ : ∃ k', k = k' + 1 := ⟨k - 1, by omega⟩
  exact ⟨k', by omega, by rw [wantF, if_neg (by omega), if_neg (by omega)]; rfl⟩
theorem wantF_zero (c : UInt8) (k : Nat) : wantF c k 0 = [] := by cases k <;> rfl

/-- The cells of a row of which 'k' are laid. -/
def laid (n : Nat) (c : UInt8) (k : Nat) : Array Value := (List.replicate k (u8v c) ++ List.replicate (n - k) (Value.int .u8 0)).toArray
theorem laid_size (n : Nat) (c : UInt8) (k : Nat) (h : k ≤ n) : (laid n c k).size = n := by
  simp [laid]; omega
theorem laid_set (n : Nat) (c : UInt8) (k : Nat) (h : k < n) : (laid n c k).setIfInBounds k (.int .u8 (n8 c)) = laid n c (k + 1) := by
  unfold laid
  rw [List.setIfInBounds_toArray]
  congr 1
  rw [List.set_append_right _ _ (by simp), List.length_replicate, Nat.sub_self]
  have h2 : n - k = (n - (k + 1)) + 1 := by omega
  rw [h2, List.replicate_succ, List.set_cons_zero, List.replicate_succ', List.append_assoc]
  rfl
theorem laid_get (n : Nat) (c : UInt8) (k : Nat) (h : k < n) : (laid n c k)[k]? = some (.int .u8 0) := by
  unfold laid
  rw [List.getElem?_toArray, List.getElem?_append_right (by simp), List.length_replicate, Nat.sub_self, List.getElem?_replicate, if_pos (by omega)]
theorem laid_all {w : World} {g n : Nat} {c : UInt8} (h : Blk w g 5 (laid n c n)) (hl : n ≤ 9223372036854775807) : Bs 0 w.heap.size w (.slice (some ⟨g, 0, none⟩) n n) (List.replicate n c) := by
  refine ⟨_, n, by rw [List.length_replicate], by simp, hl, fun _ => ⟨g, 0, rfl, Nat.zero_le _, h.lt, fun i hi => ?_⟩⟩
  rw [h.cell]
  simp at hi
  simp [laid, hi]
theorem laid_make (n : Nat) (c : UInt8) : laid n c 0 = madeCells (Value.int .u8 0).cells (n * 1) := by
  unfold laid madeCells
  refine Array.ext (by simp) fun i h1 h2 => ?_
  simp [Value.cells, Nat.mod_one]
end Go.Proofs.Ytiobhglhfjbcbaa
