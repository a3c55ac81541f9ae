import Derived.Test.YthkccpemgmpadaaGreatDoorU3
import Derived.Test.YthkccpemgmpadaaGreatDoorU9
import Derived.Test.YthkccpemgmpadaaGreatDoorU15
namespace Go.Proofs.YthkccpemgmpadaaGreatDoor.P
set_option maxRecDepth 100000
def numB (c : Int) (n : Nat) : Nat → Nat → List Bit
  | 0, _ => []
  | k + 1, m => ⟨c + m, n / 2 ^ k % 2 == 1⟩ :: numB c n k (2 * m + n / 2 ^ k % 2)
def tokB (t : Tok) : List Bit := ⟨0, decide (0 < t.len)⟩ :: (if t.len = 0 then numB 0 t.lit.toNat 8 1 else numB 256 (t.len - 3).toNat 4 1 ++ numB 272 (t.dist - 1).toNat 8 1)
def bitsF (l : List Tok) : List Bit := l.flatMap tokB
theorem numB_len (c : Int) (n k m : Nat) : (numB c n k m).length = k := by
  induction k generalizing m with
  | zero => rfl
  | succ k ih => simp [numB, ih]
theorem tokB_len {t : Tok} (h : okT t = true) : (tokB t).length = 9 + (if 0 < t.len then 4 else 0) := by
  unfold tokB
  by_cases h0 : t.len = 0
  · rw [if_pos h0, if_neg (by omega)]; simp [numB_len]
  · have := okT_len h h0
    rw [if_neg h0, if_pos (by omega)]; simp [numB_len]
theorem numB_in {c : Int} {n k m W : Nat} (hm : 1 ≤ m) (h : (m + 1) * 2 ^ k ≤ 2 ^ (W + 1)) : ∀ x ∈ numB c n k m, c + 1 ≤ x.at_ ∧ x.at_ < c + 2 ^ W := by
  induction k generalizing m with
  | zero => intro x hx; simp [numB] at hx
  | succ k ih =>
    intro x hx
    rw [numB, List.mem_cons] at hx
    have h1 : (m + 1) * 2 ≤ 2 ^ (W + 1) := Nat.le_trans (Nat.mul_le_mul_left _ (by rw [Nat.pow_succ]; have := Nat.one_le_two_pow (n := k); omega)) h
    rw [Nat.pow_succ] at h1
    have h2 : m < 2 ^ W := by omega
    have h2' : ((m : Nat) : Int) < 2 ^ W := by
      have : ((m : Nat) : Int) < ((2 ^ W : Nat) : Int) := by omega
      simpa using this
    rcases hx with rfl | hx
    · simp only []; omega
    · refine ih (by omega) ?_ x hx
      refine Nat.le_trans ?_ h
      rw [Nat.pow_succ, Nat.mul_comm (2 ^ k) 2, ← Nat.mul_assoc]
      exact Nat.mul_le_mul_right _ (by have := Nat.mod_lt (n / 2 ^ k) (show 0 < 2 by omega); omega)
theorem tokB_in (t : Tok) : ∀ x ∈ tokB t, inB 528 x = true := by
  intro x hx
  rw [inB_iff]
  unfold tokB at hx
  rw [List.mem_cons] at hx
  rcases hx with rfl | hx
  · simp
  · split at hx
    · have := numB_in (W := 8) (by omega) (by decide) x hx
      simp at this; omega
    · rcases List.mem_append.1 hx with hx | hx
      · have := numB_in (W := 4) (by omega) (by decide) x hx
        simp at this; omega
      · have := numB_in (W := 8) (by omega) (by decide) x hx
        simp at this; omega
theorem bitsF_in (l : List Tok) : ∀ x ∈ bitsF l, inB 528 x = true := by
  intro x hx
  obtain ⟨t, _, h⟩ := List.mem_flatMap.1 hx
  exact tokB_in t x h
theorem bitsF_append (p q : List Tok) : bitsF (p ++ q) = bitsF p ++ bitsF q := by simp [bitsF]
theorem bitsF_len {n : Int} {l : List Tok} (h : okL n l = true) : ((bitsF l).length : Int) ≤ 9 * sumT l := by
  induction l generalizing n with
  | nil => simp [bitsF, sumT]
  | cons t r ih =>
    obtain ⟨h1, h2, h3⟩ := okL_cons.1 h
    have := ih h3
    have e : (bitsF (t :: r)).length = (tokB t).length + (bitsF r).length := by simp [bitsF]
    have hs : sumT (t :: r) = sizeT t + sumT r := rfl
    rw [e, hs, tokB_len h1]
    by_cases h0 : t.len = 0
    · rw [if_neg (by omega)]
      have : sizeT t = 1 := by unfold sizeT; rw [if_pos h0]
      omega
    · have ho := okT_len h1 h0
      rw [if_pos (by omega)]
      have : sizeT t = t.len := by unfold sizeT; rw [if_neg h0]
      omega
theorem bitsF_cnt {n : Int} {l : List Tok} (h : okL n l = true) : (bitsF l).length = (l.map fun t => 9 + (if 0 < t.len then 4 else 0)).sum := by
  induction l generalizing n with
  | nil => simp [bitsF]
  | cons t r ih =>
    obtain ⟨h1, h2, h3⟩ := okL_cons.1 h
    have e : (bitsF (t :: r)).length = (tokB t).length + (bitsF r).length := by simp [bitsF]
    rw [e, tokB_len h1, ih h3]; simp
def treeR (t : List Int) (c : Int) : Nat → Nat → Rdr → Option (Nat × Rdr)
  | 0, m, r => some (m, r)
  | k + 1, m, r => if (nextR t r (c + m)).2.2 = 0 then treeR t c k (2 * m + (if (nextR t r (c + m)).1 then 1 else 0)) (nextR t r (c + m)).2.1 else none
def tokR (t : List Int) (r : Rdr) : Option (Tok × Rdr) :=
  if (nextR t r 0).2.2 = 0 then
    if (nextR t r 0).1 then
      match treeR t 256 4 1 (nextR t r 0).2.1 with
      | none => none
      | some (m, r1) => match treeR t 272 8 1 r1 with
        | none => none
        | some (q, r2) => some (⟨0, (m : Int) - 16 + 3, (q : Int) - 256 + 1⟩, r2)
    else match treeR t 0 8 1 (nextR t r 0).2.1 with
      | none => none
      | some (m, r1) => some (⟨UInt8.ofNat (m - 256), 0, 0⟩, r1)
  else none
def toksR (t : List Int) (n : Int) : Nat → Int → Rdr → List Tok → Option (List Tok × Rdr)
  | 0, _, r, acc => some (acc, r)
  | f + 1, told, r, acc => if told < n then (match tokR t r with | none => none | some (x, r') => toksR t n f (told + sizeT x) r' (acc ++ [x])) else some (acc, r)
def octs (b : List UInt8) : List Int := b.map fun x => (x.toNat : Int)
theorem octs_ok (b : List UInt8) : okB (octs b) := fun x hx => by
  obtain ⟨y, _, rfl⟩ := List.mem_map.1 hx
  have := y.toNat_lt
  omega
def le4 (n : Int) : List Int := [n % 256, n / 256 % 256, n / 65536 % 256, n / 16777216 % 256]
def packT (b : List UInt8) : List Int := le4 b.length ++ encT 528 (bitsF (toksB b))
def longN (t : List Int) : Int := t.getD 0 0 + 256 * t.getD 1 0 + 65536 * t.getD 2 0 + 16777216 * t.getD 3 0
def longR (t : List Int) : Int × Int := if t.length < 9 ∨ 65536 < longN t then (0, 2) else (longN t, 0)
def unpackR (t : List Int) (most : Int) : List UInt8 × Int :=
  if most < 0 then ([], 1)
  else if (longR t).2 ≠ 0 then ([], 2)
  else if most < longN t then ([], 3)
  else if startE 528 (t.drop 4) ≠ 0 then ([], 2)
  else match toksR (t.drop 4) (longN t) (longN t).toNat 0 (startR 528 (t.drop 4)) [] with
    | none => ([], 2)
    | some (l, r) => if okL 0 l && decide (sumT l ≤ longN t) && decide (r.used = (t.drop 4).length) then (textF [] l, 0) else ([], 2)
theorem toksB_bits {b : List UInt8} (hb : b.length ≤ 65536) : encE 528 (bitsF (toksB b)) = 0 := by
  have h1 := bitsF_len (toksB_text b).2
  rw [toksB_sum] at h1
  have hx : (bitsF (toksB b)).all (inB 528) = true := List.all_eq_true.2 (bitsF_in _)
  unfold encE
  rw [if_neg (by simp [newN]), if_neg (by omega), if_neg (by simpa using hx)]
theorem packT_len {b : List UInt8} (hb : b.length ≤ 65536) : (packT b).length = 4 + (encT 528 (bitsF (toksB b))).length ∧ 9 ≤ (packT b).length := by
  have := (short_len (toksB_bits hb)).1
  simp only [packT, List.length_append]
  have : (le4 (b.length : Int)).length = 4 := rfl
  omega
end Go.Proofs.YthkccpemgmpadaaGreatDoor.P

namespace Go.Proofs.YthkccpemgmpadaaGreatDoor.P
set_option maxRecDepth 100000
open Go.RowKit
theorem octs_len (b : List UInt8) : (octs b).length = b.length := by simp [octs]
theorem octs_byc (b : List UInt8) : (octs b).flatMap byc = b.map M.u8v := by
  induction b with
  | nil => rfl
  | cons x r ih =>
    have e : (octs (x :: r)).flatMap byc = byc (x.toNat : Int) ++ (octs r).flatMap byc := by simp [octs]
    rw [e, ih]
    rfl
theorem octs_get (b : List UInt8) (i : Nat) (h : i < b.length) : (octs b)[i]'(by rw [octs_len]; exact h) = (b[i].toNat : Int) := by simp [octs]
theorem os_of {lo hi : Nat} {w : World} {v : Value} {b : List UInt8} (h : M.Bs lo hi w v b) : Os lo hi w v (octs b) := by
  obtain ⟨A, c, rfl, h1, h2, h3⟩ := h
  refine ⟨A, c, by rw [octs_len], by rw [octs_len]; exact h1, h2, fun h0 => ?_⟩
  rw [octs_len] at h0
  obtain ⟨g, o, rfl, g1, g2, g3⟩ := h3 h0
  refine ⟨g, o, rfl, g1, g2, fun i hi j u hu => ?_⟩
  have hi' : i < b.length := by rw [octs_len] at hi; exact hi
  rw [octs_get b i hi'] at hu
  have hj : j = 0 := by
    have := (List.getElem?_eq_some_iff.1 hu).1
    simp [byc] at this; exact this
  subst hj
  simp [byc] at hu
  subst hu
  simpa [M.u8v, M.n8] using g3 i hi'
def oct4 (n : Int) : Nat → Array Value
  | 0 => #[.int .u8 0, .int .u8 0, .int .u8 0, .int .u8 0]
  | 1 => #[.int .u8 (n % 256), .int .u8 0, .int .u8 0, .int .u8 0]
  | 2 => #[.int .u8 (n % 256), .int .u8 (n / 256 % 256), .int .u8 0, .int .u8 0]
  | 3 => #[.int .u8 (n % 256), .int .u8 (n / 256 % 256), .int .u8 (n / 65536 % 256), .int .u8 0]
  | _ => #[.int .u8 (n % 256), .int .u8 (n / 256 % 256), .int .u8 (n / 65536 % 256), .int .u8 (n / 16777216 % 256)]
theorem mk4 (W : World) : (Instr.makeSlice 29 (.int .i64 4) (.int .i64 4)).run Tryz.prog W = .ok (.slice (some ⟨W.heap.size, 0, none⟩) 4 4) (W.alloc (.cells (oct4 0 0) 5)) := by
  obtain ⟨i5, hi5, iz0, iz1, iz2⟩ := info5'
  have := run_mk (P := Tryz.prog) 29 5 i5 _ 1 Tryz.underlying29 hi5 iz0 iz1 4 (by rw [iz2]; omega) (by omega) W
  have hz : (madeCells (Value.int .u8 0).cells (4 * 1)).toList = List.replicate (4 * 1) (.int .u8 0) := toList_madeCells_one _ _
  have hz' : madeCells (Value.int .u8 0).cells (4 * 1) = oct4 0 0 := by rw [← Array.toArray_toList (xs := madeCells (Value.int .u8 0).cells (4 * 1)), hz]; rfl
  rw [hz'] at this
  exact this
theorem own_le4 {w : World} {base g : Nat} {n : Int} (h : Blk w g 5 (oct4 n 4)) (hb : base ≤ g) : w.ownsRow base 5 1 (.slice (some ⟨g, 0, none⟩) 4 4) 4 ((le4 n).flatMap byc) :=
  ⟨rfl, .inr ⟨g, 4, _, rfl, hb, h, Nat.le_refl _, by simp [maxLen], rfl, rfl⟩⟩
set_option maxHeartbeats 1000000 in
theorem octets_any (n : Int) (h0 : 0 ≤ n) (h : n < 4294967296) (w : World) :
    Calls Tryz.prog 57 #[.int .i64 n] w fun e w' => ∃ g, e = .returned (.slice (some ⟨g, 0, none⟩) 4 4) ∧ w'.ownsRow w.heap.size 5 1 (.slice (some ⟨g, 0, none⟩) 4 4) 4 ((le4 n).flatMap byc) ∧ Below w.heap.size w w' := by
  have hmk := mk4
  obtain ⟨g, hg⟩ : ∃ g, g = w.heap.size := ⟨_, rfl⟩
  go_enter Tryz.func57, Tryz.ntmps57
  go_wp2_with (first | fail)
  rw [← hg]
  clear hmk
  replace hg := hide hg
  go_loopw [6] (fun i wr => ∃ (k : Nat), k ≤ 4 ∧ i = .int .i64 k ∧ Hid (Below w.heap.size w wr) ∧ Hid (Blk wr g 5 (oct4 n k))) (fun i _ => 4 - (intOf i).toNat)
  case atStart => exact ⟨0, by omega, rfl, hide (by (repeat (first | with_reducible exact Below.refl _ _ | with_reducible assumption | with_reducible refine Below.drew ?_ | with_reducible refine bl_alloc ?_ _ | with_reducible refine bl_call ?_ (by assumption) | (focus (with_reducible refine Below.setCell ?_ ?_ _; rotate_left; focus (first | omega | (simp <;> omega)))) | fail))), hide (Blk.new (unhide hg))⟩
  case round =>
    obtain ⟨k, hk, rfl, hB, hK⟩ := hrel
    have kk := (unhide hK).lt
    rcases (show k = 0 ∨ k = 1 ∨ k = 2 ∨ k = 3 ∨ k = 4 by omega) with rfl | rfl | rfl | rfl | rfl
    · have q := (unhide hK).cell 0
      have f := (unhide hK).frozen 0
      simp [oct4] at q
      go_wp2_with fail
      go_roundw
      case rel => exact ⟨1, by omega, rfl, hide ((unhide hB).setCell (by rw [unhide hg]; exact Nat.le_refl _) _), hide ((unhide hK).set 0 _)⟩
      case measure => decide
    · have q := (unhide hK).cell 1
      have f := (unhide hK).frozen 1
      simp [oct4] at q
      go_wp2_with fail
      go_roundw
      case rel => exact ⟨2, by omega, rfl, hide ((unhide hB).setCell (by rw [unhide hg]; exact Nat.le_refl _) _), hide ((unhide hK).set 1 _)⟩
      case measure => decide
    · have q := (unhide hK).cell 2
      have f := (unhide hK).frozen 2
      simp [oct4] at q
      go_wp2_with fail
      go_roundw
      case rel => exact ⟨3, by omega, rfl, hide ((unhide hB).setCell (by rw [unhide hg]; exact Nat.le_refl _) _), hide ((unhide hK).set 2 _)⟩
      case measure => decide
    · have q := (unhide hK).cell 3
      have f := (unhide hK).frozen 3
      simp [oct4] at q
      go_wp2_with fail
      go_roundw
      case rel => exact ⟨4, by omega, rfl, hide ((unhide hB).setCell (by rw [unhide hg]; exact Nat.le_refl _) _), hide (by rw [show oct4 n (3 + 1) = (oct4 n 3).setIfInBounds 3 (.int .u8 (n / 16777216)) from by simp [oct4]; omega]; exact (unhide hK).set 3 _)⟩
      case measure => decide
    · go_wp2_with fail
      go_ret
      exact ⟨_, rfl, own_le4 (unhide hK) (by rw [unhide hg]; exact Nat.le_refl _), unhide hB⟩
end Go.Proofs.YthkccpemgmpadaaGreatDoor.P

namespace Go.Proofs.YthkccpemgmpadaaGreatDoor.P
set_option maxRecDepth 100000
open Go.RowKit
theorem i64_join (i : Nat) (hi : i ≤ 40) (x y : Int) (hx₀ : 0 ≤ x) (hx : x % 2 ^ i = 0) (hx₁ : x < 1099511627776) (hy₀ : 0 ≤ y) (hy : y < 2 ^ i) : bits .or .i64 x y = x + y := by
  have hp : (2 : Int) ^ i ≤ 2 ^ 40 := by
    have h := Nat.pow_le_pow_right (show 0 < 2 by omega) hi
    exact_mod_cast h
  refine bits_join .i64 40 (by decide) (fun n h0 h1 => ?_) i x y hx₀ hx hx₁ hy₀ hy (by omega)
  exact IntWalk.i64_in _ (by omega)
theorem i64_join' (i : Nat) (hi : i ≤ 40) (x y : Int) (hx₀ : 0 ≤ x) (hx : x % 2 ^ i = 0) (hx₁ : x < 1099511627776) (hy₀ : 0 ≤ y) (hy : y < 2 ^ i) : bits .or .i64 y x = y + x := by
  have hc : bits .or .i64 y x = bits .or .i64 x y := by simp only [bits, BitVec.or_comm]
  rw [hc, i64_join i hi x y hx₀ hx hx₁ hy₀ hy]; omega
theorem i64_and1 (n : Int) : bits .and .i64 n 1 = n % 2 := by
  have h1 : (BitVec.ofInt 64 1).toNat = 2 ^ 1 - 1 := by decide
  have key : (BitVec.ofInt 64 n &&& BitVec.ofInt 64 1).toNat = (n % ((2 ^ 64 : Nat) : Int)).toNat % 2 ^ 1 := by
    rw [BitVec.toNat_and, BitVec.toNat_ofInt, h1, Nat.and_two_pow_sub_one_eq_mod]
  show IntKind.i64.wrap ((BitVec.ofInt 64 n &&& BitVec.ofInt 64 1).toNat : Nat) = n % 2
  rw [key, IntKind.wrap_i64]
  omega
set_option maxHeartbeats 1000000 in
theorem pnumber_any (a b c d : Int) (ha : 0 ≤ a ∧ a < 256) (hb : 0 ≤ b ∧ b < 256) (hc : 0 ≤ c ∧ c < 256) (hd : 0 ≤ d ∧ d < 256) (w : World) :
    Calls Tryz.prog 107 #[.agg #[.int .u8 a, .int .u8 b, .int .u8 c, .int .u8 d]] w fun e w' => e = .returned (.int .i64 (a + 256 * b + 65536 * c + 16777216 * d)) ∧ Below w.heap.size w w' := by
  obtain ⟨g, hg⟩ : ∃ g, g = w.heap.size := ⟨_, rfl⟩
  go_enter Tryz.func107, Tryz.ntmps107
  go_wp2_with (first | fail)
  rw [← hg]
  replace hg := hide hg
  have o0 : bits .or .i64 0 a = a := by rw [i64_join 8 (by omega) 0 a (by omega) (by decide) (by omega) ha.1 ha.2]; omega
  have o1 : bits .or .i64 a (b * 256) = a + 256 * b := by rw [i64_join' 8 (by omega) (b * 256) a (by omega) (by omega) (by omega) ha.1 ha.2]; omega
  have o2 : bits .or .i64 (a + 256 * b) (c * 65536) = a + 256 * b + 65536 * c := by rw [i64_join' 16 (by omega) (c * 65536) (a + 256 * b) (by omega) (by omega) (by omega) (by omega) (by omega)]; omega
  have o3 : bits .or .i64 (a + 256 * b + 65536 * c) (d * 16777216) = a + 256 * b + 65536 * c + 16777216 * d := by rw [i64_join' 24 (by omega) (d * 16777216) (a + 256 * b + 65536 * c) (by omega) (by omega) (by omega) (by omega) (by omega)]; omega
  replace o0 := hide o0; replace o1 := hide o1; replace o2 := hide o2; replace o3 := hide o3
  go_loopw [3, 5] (fun n i wr => ((i = .int .i64 0 ∧ n = .int .i64 0) ∨ (i = .int .i64 1 ∧ n = .int .i64 a) ∨ (i = .int .i64 2 ∧ n = .int .i64 (a + 256 * b)) ∨ (i = .int .i64 3 ∧ n = .int .i64 (a + 256 * b + 65536 * c)) ∨ (i = .int .i64 4 ∧ n = .int .i64 (a + 256 * b + 65536 * c + 16777216 * d))) ∧ Hid (Below w.heap.size w wr) ∧ Hid (Blk wr g 93 #[.int .u8 a, .int .u8 b, .int .u8 c, .int .u8 d])) (fun _ i _ => 4 - (intOf i).toNat)
  case atStart => exact ⟨.inl ⟨rfl, rfl⟩, hide (by (repeat (first | with_reducible exact Below.refl _ _ | with_reducible assumption | with_reducible refine Below.drew ?_ | with_reducible refine bl_alloc ?_ _ | with_reducible refine bl_call ?_ (by assumption) | (focus (with_reducible refine Below.setCell ?_ ?_ _; rotate_left; focus (first | omega | (simp <;> omega)))) | fail))), hide (Blk.new (unhide hg))⟩
  case round =>
    obtain ⟨hk, hB, hK⟩ := hrel
    have kk := (unhide hK).lt
    have q0 := (unhide hK).cell 0
    have q1 := (unhide hK).cell 1
    have q2 := (unhide hK).cell 2
    have q3 := (unhide hK).cell 3
    simp at q0 q1 q2 q3
    rcases hk with ⟨rfl, rfl⟩ | ⟨rfl, rfl⟩ | ⟨rfl, rfl⟩ | ⟨rfl, rfl⟩ | ⟨rfl, rfl⟩
    · go_wp2_with fail
      go_roundw
      case rel => exact ⟨.inr (.inl ⟨rfl, by rw [unhide o0]⟩), hB, hK⟩
      case measure => decide
    · go_wp2_with fail
      go_roundw
      case rel => exact ⟨.inr (.inr (.inl ⟨rfl, by rw [unhide o1]⟩)), hB, hK⟩
      case measure => decide
    · go_wp2_with fail
      go_roundw
      case rel => exact ⟨.inr (.inr (.inr (.inl ⟨rfl, by rw [unhide o2]⟩))), hB, hK⟩
      case measure => decide
    · go_wp2_with fail
      go_roundw
      case rel => exact ⟨.inr (.inr (.inr (.inr ⟨rfl, by rw [unhide o3]⟩))), hB, hK⟩
      case measure => decide
    · go_wp2_with fail
      go_ret
      exact ⟨rfl, unhide hB⟩
theorem longN_get {t : List Int} (h : 4 ≤ t.length) : longN t = t[0] + (256 : Int) * t[1] + (65536 : Int) * t[2] + (16777216 : Int) * t[3] := by
  unfold longN
  rw [getD_get (k := 0) (by omega), getD_get (k := 1) (by omega), getD_get (k := 2) (by omega), getD_get (k := 3) (by omega)]
set_option maxHeartbeats 1000000 in
theorem Long_any (lo : Nat) (v : Value) (t : List Int) (w : World) (hv : Os lo w.heap.size w v t) (ht : okB t) :
    Calls Tryz.prog 73 #[v] w fun e w' => e = .returned (.tuple #[.int .i64 (longR t).1, .int .i64 (longR t).2]) ∧ Below w.heap.size w w' := by
  obtain ⟨A, c, rfl, x1, x2, x3⟩ := hv.open
  by_cases h9 : t.length < 9
  · have hr : longR t = (0, 2) := by unfold longR; rw [if_pos (.inl h9)]
    rw [hr]
    clear hv x3
    have h9' : (t.length : Int) < 9 := by omega
    go_enter Tryz.func73, Tryz.ntmps73
    go_wp2_with fail
    go_ret2
    exact ⟨rfl, Below.refl _ _⟩
  · obtain ⟨b, off, rfl, y1, y2, q0⟩ := x3 0 (by omega)
    have qq : ∀ i (hi : i < t.length), w.cell? ⟨b, off + i, none⟩ = some (.int .u8 t[i]) := fun i hi => by
      obtain ⟨b', off', e, _, _, hc⟩ := x3 i hi
      injection e with e; injection e with e1 e2; subst e1 e2
      exact hc
    have q1 := qq 1 (by omega); have q2 := qq 2 (by omega); have q3 := qq 3 (by omega)
    rw [Nat.add_zero] at q0
    have hN := fun W => pnumber_any t[0] t[1] t[2] t[3] (ht _ (List.getElem_mem _)) (ht _ (List.getElem_mem _)) (ht _ (List.getElem_mem _)) (ht _ (List.getElem_mem _)) W
    rw [← longN_get (by omega)] at hN
    have hL : 9 ≤ (t.length : Int) := by omega
    have ra : ∀ W, (Instr.arrayAt 93 (.slice (some ⟨b, off, none⟩) t.length c)).run Tryz.prog W = .ok (.pointer (some ⟨b, off, none⟩)) W := fun W => by
      have h4 : ¬ t.length < 4 := by omega
      simp [Instr.arrayAt, run_underlying Tryz.underlying93, h4]
    have hr : longR t = if 65536 < longN t then (0, 2) else (longN t, 0) := by unfold longR; simp [h9]
    rw [hr]
    have y3 : b < w.heap.size := by omega
    generalize longN t = N at *
    generalize t[0] = o0 at *; generalize t[1] = o1 at *; generalize t[2] = o2 at *; generalize t[3] = o3 at *
    clear x3 qq hv ht hr
    replace hN := hide hN
    by_cases hb : 65536 < N
    · rw [if_pos hb]
      go_enter Tryz.func73, Tryz.ntmps73
      go_wp2_with (first
        | (go_at_call 107; refine (unhide hN _).mono ?_; rintro e w1 ⟨rfl, hb1⟩)
        | fail)
      go_ret2
      exact ⟨rfl, by (repeat (first | with_reducible exact Below.refl _ _ | with_reducible assumption | with_reducible refine Below.drew ?_ | with_reducible refine bl_alloc ?_ _ | with_reducible refine bl_call ?_ (by assumption) | (focus (with_reducible refine Below.setCell ?_ ?_ _; rotate_left; focus (first | omega | (simp <;> omega)))) | fail))⟩
    · rw [if_neg hb]
      go_enter Tryz.func73, Tryz.ntmps73
      go_wp2_with (first
        | (go_at_call 107; refine (unhide hN _).mono ?_; rintro e w1 ⟨rfl, hb1⟩)
        | fail)
      go_ret2
      exact ⟨rfl, by (repeat (first | with_reducible exact Below.refl _ _ | with_reducible assumption | with_reducible refine Below.drew ?_ | with_reducible refine bl_alloc ?_ _ | with_reducible refine bl_call ?_ (by assumption) | (focus (with_reducible refine Below.setCell ?_ ?_ _; rotate_left; focus (first | omega | (simp <;> omega)))) | fail))⟩
end Go.Proofs.YthkccpemgmpadaaGreatDoor.P

namespace Go.Proofs.YthkccpemgmpadaaGreatDoor.P
set_option maxRecDepth 100000
open Go.RowKit
theorem bt_src {w : World} {g : Nat} {x : Bit} (h : Blk w g 121 #[.int .i64 x.at_, .bool x.b]) : SrcOk w (some ⟨g, 0, none⟩) 1 (btc x) :=
  SrcOk.blk (cur := [.int .i64 x.at_, .bool x.b]) h fun j u hu => by rw [Nat.zero_add]; exact hu
theorem bt_snoc (l : List Bit) (x : Bit) : l.flatMap btc ++ btc x = (l ++ [x]).flatMap btc := by simp
theorem numB_step (c : Int) (n k m : Nat) : numB c n (k + 1) m = ⟨c + m, n / 2 ^ k % 2 == 1⟩ :: numB c n k (2 * m + n / 2 ^ k % 2) := rfl
theorem bb_alloc {B : Nat} {a w : World} (h : Below B a w) (hB : B ≤ a.heap.size) (o : Obj) : Below B a (w.alloc o) := h.alloc (Nat.le_trans hB h.size) o
def Kept (e : TypeId) (w w' : World) : Prop := ∀ g t cs, e ≠ t → Blk w g t cs → Blk w' g t cs
theorem Kept.refl (e : TypeId) (w : World) : Kept e w w := fun _ _ _ _ h => h
theorem Kept.trans {e : TypeId} {a b c : World} (h : Kept e a b) (k : Kept e b c) : Kept e a c := fun g t cs ht hb => k g t cs ht (h g t cs ht hb)
theorem Kept.alloc {e : TypeId} {a b : World} (h : Kept e a b) (o : Obj) : Kept e a (b.alloc o) := fun g t cs ht hb => (h g t cs ht hb).alloc o
theorem Kept.drew {e : TypeId} {a b : World} (h : Kept e a b) : Kept e a b.drew := fun g t cs ht hb => (h g t cs ht hb).drew
theorem Kept.below {e : TypeId} {a b c : World} (h : Kept e a b) (hb : Below b.heap.size b c) : Kept e a c := fun g t cs ht hB => (h g t cs ht hB).below hb (h g t cs ht hB).lt
theorem Kept.grown {e : TypeId} {a b c : World} {base size n : Nat} {v : Value} {xs : List Value} (h : Kept e a b) (ho : b.ownsRow base e size v n xs) (hg : b.grownBy c v.ownBlock) : Kept e a c := fun g t cs ht hB =>
  (h g t cs ht hB).grown hg (own_ne ho (h g t cs ht hB) ht)
theorem Kept.own {e t : TypeId} {a b : World} {base size n : Nat} {v : Value} {xs : List Value} (h : Kept e a b) (ho : a.ownsRow base t size v n xs) (hne : e ≠ t) : b.ownsRow base t size v n xs := by
  refine ⟨ho.1, ?_⟩
  rcases ho.2 with hn | ⟨g, cap, cur, h1, h2, h3, h4⟩
  · exact .inl hn
  · exact .inr ⟨g, cap, cur, h1, h2, h g t cur hne h3, h4⟩
set_option maxHeartbeats 1000000 in
theorem putNum_any (base n c0 k V : Nat) (A : Option Addr) (c : Int) (l : List Bit) (w : World) (h : w.ownsRow base 121 2 (.slice A n c0) n (l.flatMap btc)) (hb : base ≤ w.heap.size) (hk : k ≤ 8) (hc : 0 ≤ c ∧ c ≤ 528) (hn : n ≤ 1000000000) :
    Calls Tryz.prog 116 #[.slice A n c0, .int .i64 k, .int .i64 c, .int .i64 V] w fun e w' => ∃ A' c', e = .returned (.slice A' (n + k) c') ∧ w'.ownsRow base 121 2 (.slice A' (n + k) c') (n + k) ((l ++ numB c V k 1).flatMap btc) ∧ Below base w w' ∧ Kept 121 w w' := by
  obtain ⟨i0, hi0, iz0, iz1, iz2⟩ := info_parts info51
  replace hb := hide hb
  replace h := hide h
  go_enter Tryz.func116, Tryz.ntmps116
  go_wp2_with fail
  go_loopw [0, 9, 13] (fun s0 s9 i wr => ∃ (j m n' c' : Nat) (A' : Option Addr) (lj : List Bit), j ≤ k ∧ s0 = .slice A' n' c' ∧ s9 = .int .i64 m ∧ i = .int .i64 j ∧ Hid (m < 2 ^ (j + 1)) ∧ m < 1024 ∧ n' = n + j ∧ Hid (l ++ numB c V k 1 = lj ++ numB c V (k - j) m) ∧ Hid (wr.ownsRow base 121 2 (.slice A' n' c') n' (lj.flatMap btc)) ∧ Hid (Below base w wr) ∧ Hid (Kept 121 w wr)) (fun _ _ i _ => 8 - (intOf i).toNat)
  case atStart => exact ⟨0, 1, n, c0, A, l, by omega, rfl, rfl, rfl, hide (by decide), by omega, rfl, hide rfl, h, hide (Below.refl _ _), hide (Kept.refl _ _)⟩
  case round =>
    obtain ⟨j, m, n', c', A', lj, hj, rfl, rfl, rfl, hm, hm2, hn', hl, ho, hB, hE⟩ := hrel
    by_cases hlt : j < k
    · have hq2 : V / 2 ^ (k - 1 - j) % 2 < 2 := Nat.mod_lt _ (by omega)
      have hbit : bits .and .i64 ((V : Int) / 2 ^ (k - 1 - j)) 1 = ((V / 2 ^ (k - 1 - j) % 2 : Nat) : Int) := by rw [i64_and1]; simp
      have hnx := numB_step c V (k - (j + 1)) m
      rw [show k - (j + 1) + 1 = k - j by omega, show k - (j + 1) = k - 1 - j by omega] at hnx
      obtain ⟨q, hq⟩ : ∃ q, q = V / 2 ^ (k - 1 - j) % 2 := ⟨_, rfl⟩
      rw [← hq] at hbit hnx hq2
      obtain ⟨B, hBq⟩ : ∃ B, B = (q == 1) := ⟨_, rfl⟩
      have hb1 : ((q : Int) == 1) = B := by rw [hBq, Bool.eq_iff_iff]; simp; omega
      rw [← hBq] at hnx
      obtain ⟨m', hm'⟩ : ∃ m', m' = 2 * m + q := ⟨_, rfl⟩
      rw [← hm'] at hnx
      have hor : bits .or .i64 ((m : Int) * 2) q = (m' : Int) := by rw [i64_join 1 (by omega) _ _ (by omega) (by omega) (by omega) (by omega) (by omega)]; omega
      have hm3 : m' < 2 ^ (j + 1 + 1) := by rw [Nat.pow_succ]; have := unhide hm; omega
      have hm4 : m' < 1024 := by
        have : 2 ^ (j + 1 + 1) ≤ 2 ^ 9 := Nat.pow_le_pow_right (by omega) (by omega)
        omega
      have u1 : n' + 1 ≤ maxLen := by simp only [maxLen]; omega
      have u2 : (n' + 1) * 16 ≤ 140737488355328 := by omega
      have hto := btc_one ⟨c + m, B⟩
      have hfl := bt_snoc lj ⟨c + m, B⟩
      have hsz := (unhide hB).size
      have hl2 : l ++ numB c V k 1 = (lj ++ [⟨c + m, B⟩]) ++ numB c V (k - (j + 1)) m' := by rw [unhide hl, hnx, show k - (j + 1) = k - 1 - j by omega]; simp
      replace hl2 := hide hl2; replace hm3 := hide hm3; replace hto := hide hto; replace hfl := hide hfl; replace u1 := hide u1; replace u2 := hide u2; replace hsz := hide hsz; replace hm' := hide hm'; replace hn' := hide hn'
      clear hl hnx hBq hq
      go_wp2_with (first
        | (at_builtin
           refine wpList_app _ rfl (.tmp 23) (.tmp 30) 85 rfl base 121 i0 _ 2 16 Tryz.underlying85 hi0 iz0 iz1 iz2 rfl (Nat.succ_pos _) _ n' (lj.flatMap btc) rfl ((unhide ho).alloc _) (some ⟨wr.heap.size, 0, none⟩) 1 1 (btc ⟨c + m, B⟩) rfl rfl (bt_src (x := ⟨c + m, B⟩) (Blk.new rfl)) (unhide hto) (unhide u1) (unhide u2) (by have := unhide hsz; have := unhide hb; simp; omega) ?_
           intro v2 w2 hown2 hg2
           obtain ⟨A2, c2, rfl⟩ := ownsRow_form hown2
           rw [unhide hfl] at hown2)
        | fail)
      go_roundw
      case rel => exact ⟨j + 1, m', n' + 1, c2, A2, lj ++ [⟨c + m, B⟩], by omega, rfl, rfl, by go_num, hm3, hm4, by have := unhide hn'; omega, hl2, hide hown2, hide ((bb_alloc (unhide hB) (unhide hb) _).grown hg2 (by have := unhide hsz; have := unhide hb; simp; omega) (own_base (unhide ho))), hide (((unhide hE).alloc _).grown ((unhide ho).alloc _) hg2)⟩
      case measure => simp [intOf]; omega
    · obtain rfl : j = k := by omega
      have e : l ++ numB c V j 1 = lj := by rw [unhide hl, Nat.sub_self]; simp [numB]
      subst hn'
      clear hl hlt
      replace e := hide e
      go_wp2_with fail
      go_ret
      rw [unhide e]
      exact ⟨_, _, rfl, unhide ho, unhide hB, unhide hE⟩
abbrev tkV (t : Tok) : Value := .agg #[.int .u8 (M.n8 t.lit), .int .i64 t.len, .int .i64 t.dist]
set_option maxHeartbeats 2000000 in
theorem putTok_any (base n c0 : Nat) (A : Option Addr) (l : List Bit) (t : Tok) (w : World) (h : w.ownsRow base 121 2 (.slice A n c0) n (l.flatMap btc)) (hb : base ≤ w.heap.size) (hok : okT t = true) (hn : n ≤ 900000000) :
    Calls Tryz.prog 87 #[.slice A n c0, tkV t] w fun e w' => ∃ A' c', e = .returned (.slice A' (n + (tokB t).length) c') ∧ w'.ownsRow base 121 2 (.slice A' (n + (tokB t).length) c') (n + (tokB t).length) ((l ++ tokB t).flatMap btc) ∧ Below base w w' ∧ Kept 121 w w' := by
  obtain ⟨i0, hi0, iz0, iz1, iz2⟩ := info_parts info51
  have u1 : n + 1 ≤ maxLen := by simp only [maxLen]; omega
  have u2 : (n + 1) * 16 ≤ 140737488355328 := by omega
  by_cases h0 : t.len = 0
  · have hT : tokB t = ⟨0, false⟩ :: numB 0 t.lit.toNat 8 1 := by unfold tokB; rw [if_pos h0, h0]; rfl
    have hlen : (tokB t).length = 1 + 8 := by rw [hT]; simp [numB_len]
    rw [hlen, hT]
    have hP := fun (A : Option Addr) (c1 : Nat) (W : World) (k : W.ownsRow base 121 2 (.slice A (n + 1) c1) (n + 1) ((l ++ [(⟨0, false⟩ : Bit)]).flatMap btc)) (hs : base ≤ W.heap.size) => putNum_any base (n + 1) c1 8 t.lit.toNat A 0 (l ++ [(⟨0, false⟩ : Bit)]) W k hs (by omega) (by omega) (by omega)
    have hx8 : t.lit.toNat < 256 := t.lit.toNat_lt
    obtain ⟨x, tl, td⟩ := t
    simp only [] at h0 hP hx8
    subst h0
    have hto := btc_one ⟨0, false⟩
    have hfl := bt_snoc l ⟨0, false⟩
    rw [List.append_cons]
    change Calls Tryz.prog 87 #[.slice A n c0, .agg #[.int .u8 ((x.toNat : Nat) : Int), .int .i64 0, .int .i64 td]] w _
    replace hP := hide hP; replace h := hide h; replace hb := hide hb; replace u1 := hide u1; replace u2 := hide u2; replace hto := hide hto; replace hfl := hide hfl
    clear hlen hT hok
    generalize x.toNat = V at *
    go_enter Tryz.func87, Tryz.ntmps87
    go_wp2_with (first
      | (at_builtin; (
         refine wpList_app _ rfl (.tmp 8) (.tmp 10) 85 rfl base 121 i0 _ 2 16 Tryz.underlying85 hi0 iz0 iz1 iz2 rfl (Nat.succ_pos _) _ n (l.flatMap btc) rfl (((unhide h).alloc _).alloc _) (some ⟨w.heap.size + 1, 0, none⟩) 1 1 (btc ⟨0, false⟩) rfl rfl (bt_src (x := ⟨0, false⟩) (by (repeat (first | with_reducible assumption | (focus (with_reducible refine Blk.new ?_; focus (simp <;> fail))) | with_reducible refine Blk.set3 (a := .int .u8 0) (b := .int .i64 0) (c := .int .i64 0) ?_ | with_reducible refine Blk.alloc ?_ _ | with_reducible refine Blk.drew ?_ | (focus (with_reducible refine Blk.far ?_ ?_ _; rotate_left; focus (first | omega | (simp <;> omega)))) | (focus (with_reducible refine Blk.below ?_ hb1 ?_; rotate_left; focus (first | omega | (simp <;> omega)))) | (focus (with_reducible refine Blk.below ?_ hb2 ?_; rotate_left; focus (first | omega | (simp <;> omega)))) | (focus (with_reducible refine Blk.below ?_ hb3 ?_; rotate_left; focus (first | omega | (simp <;> omega)))) | (focus (with_reducible refine Blk.below ?_ hb4 ?_; rotate_left; focus (first | omega | (simp <;> omega)))) | (focus (with_reducible refine Blk.below ?_ hb5 ?_; rotate_left; focus (first | omega | (simp <;> omega)))) | (focus (with_reducible refine Blk.below ?_ hb6 ?_; rotate_left; focus (first | omega | (simp <;> omega)))) | (focus (with_reducible refine Blk.below ?_ hb7 ?_; rotate_left; focus (first | omega | (simp <;> omega)))) | (focus (with_reducible refine Blk.below ?_ hb8 ?_; rotate_left; focus (first | omega | (simp <;> omega)))) | (focus (with_reducible refine Blk.below ?_ hb9 ?_; rotate_left; focus (first | omega | (simp <;> omega)))) | (focus (with_reducible refine Blk.below ?_ hb10 ?_; rotate_left; focus (first | omega | (simp <;> omega)))) | (focus (with_reducible refine Blk.below ?_ hb11 ?_; rotate_left; focus (first | omega | (simp <;> omega)))) | (focus (with_reducible refine Blk.below ?_ hb12 ?_; rotate_left; focus (first | omega | (simp <;> omega)))) | fail)))) (unhide hto) (unhide u1) (unhide u2) (by have := unhide hb; simp; omega) ?_
         intro v2 w2 hown2 hg2
         obtain ⟨A2, c2, rfl⟩ := ownsRow_form hown2
         rw [unhide hfl] at hown2
         have K2 : Kept 121 w w2 := (((Kept.refl 121 w).alloc _).alloc _).grown (((unhide h).alloc _).alloc _) hg2
         have B2 : Below base w w2 := (bb_alloc (bb_alloc (Below.refl _ _) (unhide hb) _) (unhide hb) _).grown hg2 (by have := unhide hb; simp; omega) (own_base (unhide h))
         have k3 : Blk w2 w.heap.size 79 #[.int .u8 (V : Int), .int .i64 0, .int .i64 td] := ((Kept.refl 121 _).alloc _).grown (((unhide h).alloc _).alloc _) hg2 _ 79 _ (by decide) (Blk.new rfl)
         have q0 := k3.cell 0
         have y0 := k3.lt
         simp at q0
         replace K2 := hide K2; replace B2 := hide B2; replace k3 := hide k3; replace hown2 := hide hown2))
      | (go_at_call 116; refine (unhide hP _ _ _ (unhide hown2) (by have := (unhide B2).size; have := unhide hb; omega)).mono ?_; rintro e w3 ⟨A3, c3, rfl, o3, B3, K3⟩)
      | fail)
    go_ret
    exact ⟨_, _, rfl, o3, (unhide B2).trans B3, (unhide K2).trans K3⟩
  · obtain ⟨l0, l1, l2, l3, l4⟩ := okT_len hok h0
    have hd : decide (0 < t.len) = true := decide_eq_true (by omega)
    have hT : tokB t = ⟨0, true⟩ :: (numB 256 (t.len - 3).toNat 4 1 ++ numB 272 (t.dist - 1).toNat 8 1) := by unfold tokB; rw [if_neg h0, hd]
    have hlen : (tokB t).length = 1 + 4 + 8 := by rw [hT]; simp [numB_len]
    rw [hlen, hT]
    have hP := fun (A : Option Addr) (c1 : Nat) (W : World) (k : W.ownsRow base 121 2 (.slice A (n + 1) c1) (n + 1) ((l ++ [(⟨0, true⟩ : Bit)]).flatMap btc)) (hs : base ≤ W.heap.size) => putNum_any base (n + 1) c1 4 (t.len - 3).toNat A 256 (l ++ [(⟨0, true⟩ : Bit)]) W k hs (by omega) (by omega) (by omega)
    have hP2 := fun (A : Option Addr) (c1 : Nat) (W : World) (k : W.ownsRow base 121 2 (.slice A (n + 1 + 4) c1) (n + 1 + 4) ((l ++ [(⟨0, true⟩ : Bit)] ++ numB 256 (t.len - 3).toNat 4 1).flatMap btc)) (hs : base ≤ W.heap.size) => putNum_any base (n + 1 + 4) c1 8 (t.dist - 1).toNat A 272 (l ++ [(⟨0, true⟩ : Bit)] ++ numB 256 (t.len - 3).toNat 4 1) W k hs (by omega) (by omega) (by omega)
    have hL : (((t.len - 3).toNat : Nat) : Int) = t.len - 3 := by omega
    have hD : (((t.dist - 1).toNat : Nat) : Int) = t.dist - 1 := by omega
    obtain ⟨x, tl, td⟩ := t
    simp only [] at h0 hP hP2 l1 l2 l3 l4 hL hD
    have hto := btc_one ⟨0, true⟩
    have hfl := bt_snoc l ⟨0, true⟩
    have hF : l ++ ⟨0, true⟩ :: (numB 256 (tl - 3).toNat 4 1 ++ numB 272 (td - 1).toNat 8 1) = l ++ [⟨0, true⟩] ++ numB 256 (tl - 3).toNat 4 1 ++ numB 272 (td - 1).toNat 8 1 := by simp
    rw [hF]
    change Calls Tryz.prog 87 #[.slice A n c0, .agg #[.int .u8 ((x.toNat : Nat) : Int), .int .i64 tl, .int .i64 td]] w _
    rw [hL] at hP
    rw [hD] at hP2
    generalize numB 272 (td - 1).toNat 8 1 = Q at *
    generalize numB 256 (tl - 3).toNat 4 1 = N4 at *
    have hne : (tl == 0) = false := by simpa using h0
    replace hP := hide hP; replace hP2 := hide hP2; replace h := hide h; replace hb := hide hb; replace u1 := hide u1; replace u2 := hide u2; replace hto := hide hto; replace hfl := hide hfl
    clear hlen hT hok hF hL hD hd h0 l0
    generalize x.toNat = V at *
    go_enter Tryz.func87, Tryz.ntmps87
    go_wp2_with (first
      | (at_builtin; (
         refine wpList_app _ rfl (.tmp 17) (.tmp 19) 85 rfl base 121 i0 _ 2 16 Tryz.underlying85 hi0 iz0 iz1 iz2 rfl (Nat.succ_pos _) _ n (l.flatMap btc) rfl (((unhide h).alloc _).alloc _) (some ⟨w.heap.size + 1, 0, none⟩) 1 1 (btc ⟨0, true⟩) rfl rfl (bt_src (x := ⟨0, true⟩) (by (repeat (first | with_reducible assumption | (focus (with_reducible refine Blk.new ?_; focus (simp <;> fail))) | with_reducible refine Blk.set3 (a := .int .u8 0) (b := .int .i64 0) (c := .int .i64 0) ?_ | with_reducible refine Blk.alloc ?_ _ | with_reducible refine Blk.drew ?_ | (focus (with_reducible refine Blk.far ?_ ?_ _; rotate_left; focus (first | omega | (simp <;> omega)))) | (focus (with_reducible refine Blk.below ?_ hb1 ?_; rotate_left; focus (first | omega | (simp <;> omega)))) | (focus (with_reducible refine Blk.below ?_ hb2 ?_; rotate_left; focus (first | omega | (simp <;> omega)))) | (focus (with_reducible refine Blk.below ?_ hb3 ?_; rotate_left; focus (first | omega | (simp <;> omega)))) | (focus (with_reducible refine Blk.below ?_ hb4 ?_; rotate_left; focus (first | omega | (simp <;> omega)))) | (focus (with_reducible refine Blk.below ?_ hb5 ?_; rotate_left; focus (first | omega | (simp <;> omega)))) | (focus (with_reducible refine Blk.below ?_ hb6 ?_; rotate_left; focus (first | omega | (simp <;> omega)))) | (focus (with_reducible refine Blk.below ?_ hb7 ?_; rotate_left; focus (first | omega | (simp <;> omega)))) | (focus (with_reducible refine Blk.below ?_ hb8 ?_; rotate_left; focus (first | omega | (simp <;> omega)))) | (focus (with_reducible refine Blk.below ?_ hb9 ?_; rotate_left; focus (first | omega | (simp <;> omega)))) | (focus (with_reducible refine Blk.below ?_ hb10 ?_; rotate_left; focus (first | omega | (simp <;> omega)))) | (focus (with_reducible refine Blk.below ?_ hb11 ?_; rotate_left; focus (first | omega | (simp <;> omega)))) | (focus (with_reducible refine Blk.below ?_ hb12 ?_; rotate_left; focus (first | omega | (simp <;> omega)))) | fail)))) (unhide hto) (unhide u1) (unhide u2) (by have := unhide hb; simp; omega) ?_
         intro v2 w2 hown2 hg2
         obtain ⟨A2, c2, rfl⟩ := ownsRow_form hown2
         rw [unhide hfl] at hown2
         have K2 : Kept 121 w w2 := (((Kept.refl 121 w).alloc _).alloc _).grown (((unhide h).alloc _).alloc _) hg2
         have B2 : Below base w w2 := (bb_alloc (bb_alloc (Below.refl _ _) (unhide hb) _) (unhide hb) _).grown hg2 (by have := unhide hb; simp; omega) (own_base (unhide h))
         have k3 : Blk w2 w.heap.size 79 #[.int .u8 (V : Int), .int .i64 tl, .int .i64 td] := ((Kept.refl 121 _).alloc _).grown (((unhide h).alloc _).alloc _) hg2 _ 79 _ (by decide) (Blk.new rfl)
         have q1 := k3.cell 1
         have q2 := k3.cell 2
         have y0 := k3.lt
         simp at q1 q2
         replace K2 := hide K2; replace B2 := hide B2; replace k3 := hide k3; replace hown2 := hide hown2
         have tok1 : True := trivial))
      | (have _t := tok1; go_at_call 116; refine (unhide hP _ _ _ (unhide hown2) (by have := (unhide B2).size; have := unhide hb; omega)).mono ?_; rintro e w3 ⟨A3, c3, rfl, o3, B3, K3⟩
         clear tok1 _t q1 y0
         have k4 := K3 _ 79 _ (by decide) (unhide k3)
         have q3 := k4.cell 2
         have y1 := k4.lt
         simp at q3
         have B4 := (unhide B2).trans B3
         have K4 := (unhide K2).trans K3
         replace o3 := hide o3; replace B4 := hide B4; replace K4 := hide K4
         clear k4 K3 B3
         have tok2 : True := trivial)
      | (have _t := tok2; go_at_call 116; refine (unhide hP2 _ _ _ (unhide o3) (by have := (unhide B4).size; have := unhide hb; omega)).mono ?_; rintro e w5 ⟨A5, c5, rfl, o5, B5, K5⟩)
      | fail)
    go_ret
    exact ⟨_, _, rfl, o5, (unhide B4).trans B5, (unhide K4).trans K5⟩
end Go.Proofs.YthkccpemgmpadaaGreatDoor.P

namespace Go.Proofs.YthkccpemgmpadaaGreatDoor.P
set_option maxRecDepth 100000
open Go.RowKit
theorem bitsF_snoc {l : List Tok} {k : Nat} (h : k < l.length) : bitsF (l.take (k + 1)) = bitsF (l.take k) ++ tokB l[k] := by
  rw [List.take_succ_eq_append_getElem h, bitsF_append]; simp [bitsF]
theorem bitsF_take_len {l : List Tok} (h : okL 0 l = true) (hl : l.length ≤ 65536) (k : Nat) : (bitsF (l.take k)).length ≤ 900000 := by
  have ho := okL_take k h
  rw [bitsF_cnt ho]
  have h1 : ∀ m : List Tok, (m.map fun t => 9 + (if 0 < t.len then 4 else 0)).sum ≤ 13 * m.length := by
    intro m
    induction m with
    | nil => simp
    | cons t r ih => simp; split <;> omega
  have h2 := h1 (l.take k)
  have h3 : (l.take k).length ≤ l.length := by rw [List.length_take]; exact Nat.min_le_right _ _
  omega
set_option maxHeartbeats 2000000 in
theorem Bits_good (lo : Nat) (v : Value) (l : List Tok) (w : World) (h : M.Tks lo w.heap.size w v l) (ho : M.okB l = true) :
    Calls Tryz.prog 55 #[v] w fun e w' => ∃ A c, e = .returned (.tuple #[.slice A (bitsF l).length c, .int .i64 0]) ∧ w'.ownsRow w.heap.size 121 2 (.slice A (bitsF l).length c) (bitsF l).length ((bitsF l).flatMap btc) ∧ Below w.heap.size w w' := by
  have hC := M.Check_any lo v l w h
  rw [ho] at hC
  replace hC : Calls Tryz.prog 86 #[v] w fun e w' => e = .returned (.int .i64 0) ∧ Below w.heap.size w w' := hC
  obtain ⟨hl, hok⟩ := M.okB_iff.1 ho
  obtain ⟨A, c, rfl, h1, h2, h3⟩ := h.open
  clear h ho
  replace hC := hide hC; replace h3 := hide h3; replace hok := hide hok; replace hl := hide hl
  go_enter Tryz.func55, Tryz.ntmps55
  go_wp2_with (first
    | (go_at_call 86; refine (unhide hC).mono ?_; rintro e w1 ⟨rfl, hb1⟩; replace hb1 := hide hb1)
    | fail)
  go_loopw [5, 15] (fun s5 i wr => ∃ (k n c' : Nat) (A' : Option Addr), k ≤ l.length ∧ s5 = .slice A' n c' ∧ i = .int .i64 k ∧ Hid (n = (bitsF (l.take k)).length) ∧ Hid (wr.ownsRow w.heap.size 121 2 (.slice A' n c') n ((bitsF (l.take k)).flatMap btc)) ∧ Hid (Below w.heap.size w wr)) (fun _ i _ => l.length - (intOf i).toNat)
  case atStart => exact ⟨0, 0, 0, none, by omega, rfl, rfl, hide (by simp [bitsF]), hide (World.ownsRow_nil _ _ _ _), hb1⟩
  case round =>
    obtain ⟨k, n, c', A', hk, rfl, rfl, hn, hw, hB⟩ := hrel
    by_cases hlt : k < l.length
    · obtain ⟨b, off, rfl, g1, g2, q0, q1, q2⟩ := unhide h3 k hlt
      have c0 := ((unhide hB).cell (p := ⟨b, off + k * 3, none⟩) g2).trans q0
      have c1 := ((unhide hB).cell (p := ⟨b, off + k * 3 + 1, none⟩) g2).trans q1
      have c2 := ((unhide hB).cell (p := ⟨b, off + k * 3 + 2, none⟩) g2).trans q2
      have hs := bitsF_snoc hlt
      obtain ⟨hot, _⟩ := okL_get hlt (unhide hok)
      have hnn := bitsF_take_len (unhide hok) (unhide hl) k
      rw [← unhide hn] at hnn
      have hP := fun W (a : W.ownsRow w.heap.size 121 2 (.slice A' n c') n ((bitsF (l.take k)).flatMap btc)) (hs : w.heap.size ≤ W.heap.size) => putTok_any w.heap.size n c' A' (bitsF (l.take k)) l[k] W a hs hot (by omega)
      rw [← hs] at hP
      have hn2 : n + (tokB l[k]).length = (bitsF (l.take (k + 1))).length := by rw [hs, List.length_append, unhide hn]
      have hsz := (unhide hB).size
      generalize l[k] = t at *
      obtain ⟨T2, hT2⟩ : ∃ T2, T2 = bitsF (l.take (k + 1)) := ⟨_, rfl⟩
      rw [← hT2] at hP hn2
      replace hT2 := hide hT2
      rw [hn2] at hP
      obtain ⟨n2, hn3⟩ : ∃ n2, n2 = T2.length := ⟨_, rfl⟩
      rw [← hn3] at hP
      replace hn3 := hide hn3
      unfold tkV at hP
      obtain ⟨x, tl, td⟩ := t
      simp only [] at hP c0 c1 c2
      replace hP := hide hP; replace hsz := hide hsz; replace hk := hide hk
      clear hs hn2 hn q0 q1 q2 hot g1 g2
      go_wp2_with (first
        | (go_at_call 87; refine (unhide hP _ ((unhide hw).alloc _) (by have := unhide hsz; simp; omega)).mono ?_; rintro e w3 ⟨A3, c3, rfl, o3, B3, _⟩)
        | fail)
      go_roundw
      case rel => exact ⟨k + 1, n2, c3, A3, by omega, rfl, by go_num, by rw [← unhide hT2]; exact hn3, by rw [← unhide hT2]; exact hide o3, hide ((bb_alloc (unhide hB) (Nat.le_refl _) _).trans B3)⟩
      case measure => simp [intOf]; omega
    · obtain rfl : k = l.length := by omega
      rw [List.take_length] at hw hn
      go_wp2_with fail
      go_ret2
      rw [← unhide hn]
      exact ⟨_, _, rfl, unhide hw, unhide hB⟩
end Go.Proofs.YthkccpemgmpadaaGreatDoor.P
