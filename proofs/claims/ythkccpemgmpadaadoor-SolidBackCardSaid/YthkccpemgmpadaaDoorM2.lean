import Derived.Test.YthkccpemgmpadaaDoorProg
import Derived.WalkKit
import Derived.Handy
import Derived.Lib.SliceRun
import Derived.WalkSpells
import Derived.WalkLawsBesides
import Derived.Lib.Hide
import Derived.Deep.QuietTactic
import Derived.BigQuiet
import Derived.Deep.RegionHeld3
import Derived.Laws.CopyOwn
import Derived.Deep.AppendLies
import Derived.Deep.LoopGhost
import Derived.StillTailTactics
import Derived.Lib.AppendZerosOnto
import Derived.Lib.Bytes
import Derived.Lib.AppendZeros
import Derived.Deep.DeepCutAuto
import Derived.Laws.MathBits
import Derived.Maps.AppendAt
namespace Go.Proofs.YthkccpemgmpadaaDoor.P
set_option maxRecDepth 100000
/-! match/E0.lean -/

/-- A token. -/
structure Tok where
  lit : UInt8
  len : Int
  dist : Int

theorem Tok.eq {s t : Tok} (h0 : s.lit = t.lit) (h1 : s.len = t.len) (h2 : s.dist = t.dist) : s = t := by
  cases s; cases t; simp_all
instance : DecidableEq Tok := fun s t =>
  if h : s.lit = t.lit ∧ s.len = t.len ∧ s.dist = t.dist then isTrue (Tok.eq h.1 h.2.1 h.2.2) else isFalse (by rintro rfl; exact h ⟨rfl, rfl, rfl⟩)

/-- May it be one? -/
def okT (t : Tok) : Bool := if t.len = 0 then decide (t.dist = 0) else decide (t.lit = 0) && decide (3 ≤ t.len) && decide (t.len ≤ 18) && decide (1 ≤ t.dist) && decide (t.dist ≤ 256)
/-- How many octets it tells. -/
def sizeT (t : Tok) : Int := if t.len = 0 then 1 else t.len
/-- May these be, behind so many octets? -/
def okL : Int → List Tok → Bool
  | _, [] => true
  | n, t :: r => okT t && decide (t.dist ≤ n) && okL (n + sizeT t) r
def sumT : List Tok → Int
  | [] => 0
  | t :: r => sizeT t + sumT r

theorem okT_size {t : Tok} (h : okT t = true) : 1 ≤ sizeT t ∧ sizeT t ≤ 18 := by
  unfold okT at h; unfold sizeT
  split at h <;> rename_i h0
  · simp [h0]
  · simp at h; simp [h0]; omega
theorem okT_dist {t : Tok} (h : okT t = true) : 0 ≤ t.dist ∧ t.dist ≤ 256 := by
  unfold okT at h
  split at h <;> rename_i h0 <;> simp at h <;> omega
theorem okT_len {t : Tok} (h : okT t = true) (h0 : t.len ≠ 0) : t.lit = 0 ∧ 3 ≤ t.len ∧ t.len ≤ 18 ∧ 1 ≤ t.dist ∧ t.dist ≤ 256 := by
  unfold okT at h
  rw [if_neg h0] at h; simp at h; exact ⟨h.1.1.1.1, by omega, by omega, by omega, by omega⟩
theorem okL_cons {n : Int} {t : Tok} {r : List Tok} : okL n (t :: r) = true ↔ okT t = true ∧ t.dist ≤ n ∧ okL (n + sizeT t) r = true := by
  simp [okL, and_assoc]
theorem sumT_append (p q : List Tok) : sumT (p ++ q) = sumT p + sumT q := by
  induction p with
  | nil => simp [sumT]
  | cons t r ih => simp [sumT, ih]; omega
theorem okL_append {n : Int} {p q : List Tok} : okL n (p ++ q) = true ↔ okL n p = true ∧ okL (n + sumT p) q = true := by
  induction p generalizing n with
  | nil => simp [okL, sumT]
  | cons t r ih => simp only [List.cons_append, okL_cons, ih, sumT, Int.add_assoc, and_assoc]
theorem okL_sum {n : Int} {l : List Tok} (h : okL n l = true) : (l.length : Int) ≤ sumT l ∧ sumT l ≤ 18 * l.length := by
  induction l generalizing n with
  | nil => simp [sumT]
  | cons t r ih =>
    rw [okL_cons] at h
    have h1 := okT_size h.1
    have h2 := ih h.2.2
    simp only [sumT, List.length_cons]
    omega
theorem okL_take {n : Int} {l : List Tok} (k : Nat) (h : okL n l = true) : okL n (l.take k) = true := by
  have : l.take k ++ l.drop k = l := List.take_append_drop k l
  rw [← this, okL_append] at h
  exact h.1
theorem sumT_snoc {l : List Tok} {k : Nat} (h : k < l.length) : sumT (l.take (k + 1)) = sumT (l.take k) + sizeT l[k] := by
  rw [List.take_add_one, List.getElem?_eq_getElem h, Option.toList_some, sumT_append]; simp [sumT]
theorem okL_get {n : Int} {l : List Tok} {k : Nat} (h : k < l.length) (ho : okL n l = true) : okT l[k] = true ∧ l[k].dist ≤ n + sumT (l.take k) := by
  have : l.take k ++ l.drop k = l := List.take_append_drop k l
  rw [← this, okL_append, List.drop_eq_getElem_cons h, okL_cons] at ho
  exact ⟨ho.2.1, ho.2.2.1⟩

/-! ### what tokens tell -/
def tellN (b : List UInt8) (d : Nat) : Nat → List UInt8
  | 0 => b
  | k + 1 => tellN b d k ++ [(tellN b d k).getD ((tellN b d k).length - d) 0]
def tellT (b : List UInt8) (t : Tok) : List UInt8 := if t.len = 0 then b ++ [t.lit] else tellN b t.dist.toNat t.len.toNat
def textF : List UInt8 → List Tok → List UInt8
  | b, [] => b
  | b, t :: r => textF (tellT b t) r
theorem tellN_len (b : List UInt8) (d k : Nat) : (tellN b d k).length = b.length + k := by
  induction k with
  | zero => rfl
  | succ k ih => simp [tellN, ih]; omega
theorem tellT_len {b : List UInt8} {t : Tok} (h : okT t = true) : ((tellT b t).length : Int) = b.length + sizeT t := by
  unfold tellT sizeT
  split
  · simp
  · rename_i h0; have := okT_len h h0; rw [tellN_len]; omega
theorem textF_append (b : List UInt8) (p q : List Tok) : textF b (p ++ q) = textF (textF b p) q := by
  induction p generalizing b with
  | nil => rfl
  | cons t r ih => simp [textF, ih]
theorem textF_len {n : Int} {b : List UInt8} {l : List Tok} (h : okL n l = true) : ((textF b l).length : Int) = b.length + sumT l := by
  induction l generalizing n b with
  | nil => simp [textF, sumT]
  | cons t r ih =>
    rw [okL_cons] at h
    rw [textF, ih h.2.2, tellT_len h.1]; simp only [sumT]; omega
theorem textF_snoc {b : List UInt8} {l : List Tok} {k : Nat} (h : k < l.length) : textF b (l.take (k + 1)) = tellT (textF b (l.take k)) l[k] := by
  rw [List.take_add_one, List.getElem?_eq_getElem h, Option.toList_some, textF_append]; rfl
/-- What was there stays. -/
theorem tellN_take (b : List UInt8) (d k : Nat) : (tellN b d k).take b.length = b := by
  induction k with
  | zero => simp [tellN]
  | succ k ih =>
    rw [tellN, List.take_append_of_le_length (by rw [tellN_len]; omega)]
    exact ih
theorem tellT_take (b : List UInt8) (t : Tok) : (tellT b t).take b.length = b := by
  unfold tellT; split
  · simp
  · exact tellN_take _ _ _
theorem tellN_pre (b : List UInt8) (d k : Nat) : ∃ c, tellN b d k = b ++ c := by
  induction k with
  | zero => exact ⟨[], by simp [tellN]⟩
  | succ k ih => obtain ⟨c, hc⟩ := ih; exact ⟨c ++ [(tellN b d k).getD ((tellN b d k).length - d) 0], by rw [tellN]; rw [hc]; simp⟩
theorem tellT_pre (b : List UInt8) (t : Tok) : ∃ c, tellT b t = b ++ c := by
  unfold tellT; split
  · exact ⟨_, rfl⟩
  · exact tellN_pre _ _ _
theorem textF_pre (b : List UInt8) (l : List Tok) : ∃ c, textF b l = b ++ c := by
  induction l generalizing b with
  | nil => exact ⟨[], by simp [textF]⟩
  | cons t r ih =>
    obtain ⟨c, hc⟩ := tellT_pre b t
    obtain ⟨d, hd⟩ := ih (tellT b t)
    exact ⟨c ++ d, by rw [textF, hd, hc, List.append_assoc]⟩
/-- Each octet of what is told again is the one so far behind. -/
theorem tellN_get {b : List UInt8} {d k i : Nat} (h1 : b.length ≤ i) (h2 : i < b.length + k) (hd : 1 ≤ d) (hd' : d ≤ b.length) : (tellN b d k).getD i 0 = (tellN b d k).getD (i - d) 0 := by
  induction k with
  | zero => omega
  | succ k ih =>
    have hl := tellN_len b d k
    have hg : ∀ j, j < b.length + k → (tellN b d (k + 1)).getD j 0 = (tellN b d k).getD j 0 := fun j hj => by
      rw [tellN, List.getD_eq_getElem?_getD, List.getElem?_append_left (by omega), ← List.getD_eq_getElem?_getD]
    rcases Nat.lt_or_ge i (b.length + k) with h | h
    · rw [hg i h, hg (i - d) (by omega)]; exact ih h
    · obtain rfl : i = b.length + k := by omega
      rw [hg (b.length + k - d) (by omega), tellN, List.getD_eq_getElem?_getD, List.getElem?_append_right (by omega), hl]
      simp

/-! ### what was there already -/
def alkF (b : List UInt8) (f a : Nat) : Nat → Nat
  | 0 => 0
  | k + 1 => if a < b.length ∧ b.getD f 0 = b.getD a 0 then alkF b (f + 1) (a + 1) k + 1 else 0
theorem alkF_le (b : List UInt8) (f a k : Nat) : alkF b f a k ≤ k := by
  induction k generalizing f a with
  | zero => exact Nat.le_refl _
  | succ k ih => rw [alkF]; split
                 · have := ih (f + 1) (a + 1); omega
                 · omega
theorem alkF_end (b : List UInt8) (f a k : Nat) (h : a ≤ b.length) : a + alkF b f a k ≤ b.length := by
  induction k generalizing f a with
  | zero => exact h
  | succ k ih =>
    rw [alkF]
    split
    · rename_i h1; have := ih (f + 1) (a + 1) (by omega); omega
    · exact h
theorem alkF_same (b : List UInt8) (f a k i : Nat) (h : i < alkF b f a k) : b.getD (f + i) 0 = b.getD (a + i) 0 := by
  induction k generalizing f a i with
  | zero => rw [alkF] at h; omega
  | succ k ih =>
    rw [alkF] at h
    split at h
    · rename_i h1
      cases i with
      | zero => exact h1.2
      | succ i =>
        have := ih (f + 1) (a + 1) i (by omega)
        rw [show f + (i + 1) = f + 1 + i by omega, show a + (i + 1) = a + 1 + i by omega]; exact this
    · omega
theorem alkF_ge (b : List UInt8) (f a k n : Nat) (h1 : n ≤ k) (h2 : a + n ≤ b.length) (h : ∀ i, i < n → b.getD (f + i) 0 = b.getD (a + i) 0) : n ≤ alkF b f a k := by
  induction k generalizing f a n with
  | zero => omega
  | succ k ih =>
    cases n with
    | zero => omega
    | succ n =>
      rw [alkF, if_pos ⟨by omega, by simpa using h 0 (by omega)⟩]
      have := ih (f + 1) (a + 1) n (by omega) (by omega) fun i hi => by
        have := h (i + 1) (by omega)
        rw [show f + 1 + i = f + (i + 1) by omega, show a + 1 + i = a + (i + 1) by omega]; exact this
      omega

theorem alkF_go {b : List UInt8} {f a k N : Nat} (h : N = k + alkF b (f + k) (a + k) (18 - k)) (h1 : k < 18) (h2 : a + k < b.length) (h3 : b.getD (f + k) 0 = b.getD (a + k) 0) : N = (k + 1) + alkF b (f + (k + 1)) (a + (k + 1)) (18 - (k + 1)) := by
  rw [h, show 18 - k = (18 - (k + 1)) + 1 by omega, alkF, if_pos ⟨h2, h3⟩]
  rw [show f + (k + 1) = f + k + 1 by omega, show a + (k + 1) = a + k + 1 by omega]
  omega
theorem alkF_stop {b : List UInt8} {f a k N : Nat} (h : N = k + alkF b (f + k) (a + k) (18 - k)) (h1 : ¬ (k < 18 ∧ a + k < b.length ∧ b.getD (f + k) 0 = b.getD (a + k) 0)) : N = k := by
  rw [h]
  rcases Nat.lt_or_ge k 18 with h2 | h2
  · rw [show 18 - k = (18 - (k + 1)) + 1 by omega, alkF, if_neg (fun h => h1 ⟨h2, h⟩)]; rfl
  · rw [show 18 - k = 0 by omega, alkF]; rfl

/-- The longest one, and how far behind it is, of those at most so far behind. -/
def bestF (b : List UInt8) (a : Nat) : Nat → Nat × Nat
  | 0 => (2, 0)
  | D + 1 => if (bestF b a D).1 < alkF b (a - (D + 1)) a 18 then (alkF b (a - (D + 1)) a 18, D + 1) else bestF b a D
theorem bestF_two (b : List UInt8) (a D : Nat) : 2 ≤ (bestF b a D).1 ∧ (bestF b a D).1 ≤ 18 ∧ (bestF b a D).2 ≤ D ∧ ((bestF b a D).2 = 0 → (bestF b a D).1 = 2) ∧
    (0 < (bestF b a D).2 → 3 ≤ (bestF b a D).1 ∧ alkF b (a - (bestF b a D).2) a 18 = (bestF b a D).1) := by
  induction D with
  | zero => simp [bestF]
  | succ D ih =>
    obtain ⟨h1, h2, h3, h4, h5⟩ := ih
    rw [bestF]
    have := alkF_le b (a - (D + 1)) a 18
    split
    · exact ⟨by simp only []; omega, this, Nat.le_refl _, fun h => by simp at h, fun _ => ⟨by simp only []; omega, rfl⟩⟩
    · exact ⟨h1, h2, by omega, h4, h5⟩
theorem bestF_most (b : List UInt8) (a D d : Nat) (h0 : 1 ≤ d) (hd : d ≤ D) : alkF b (a - d) a 18 ≤ (bestF b a D).1 ∧ (3 ≤ alkF b (a - d) a 18 → alkF b (a - d) a 18 = (bestF b a D).1 → (bestF b a D).2 ≤ d) := by
  induction D with
  | zero => omega
  | succ D ih =>
    have h2 := bestF_two b a D
    rw [bestF]
    rcases Nat.lt_or_ge D d with h | h
    · obtain rfl : d = D + 1 := by omega
      split
      · exact ⟨Nat.le_refl _, fun _ _ => Nat.le_refl _⟩
      · exact ⟨by omega, fun _ _ => by omega⟩
    · obtain ⟨g1, g2⟩ := ih h
      split
      · exact ⟨by simp only []; omega, fun _ h => by simp only [] at h; omega⟩
      · exact ⟨g1, g2⟩
def noT : Tok := ⟨0, 0, 0⟩
/-- What Find answers. -/
def findR (b : List UInt8) (at_ : Int) : Tok × Int :=
  if 65536 < b.length then (noT, 3) else if at_ < 0 ∨ (b.length : Int) ≤ at_ then (noT, 1) else
    if (bestF b at_.toNat (min at_.toNat 256)).2 = 0 then (noT, 4) else (⟨0, (bestF b at_.toNat (min at_.toNat 256)).1, (bestF b at_.toNat (min at_.toNat 256)).2⟩, 0)
/-- The token of a place. -/
def nextT (b : List UInt8) (a : Nat) : Tok := if (bestF b a (min a 256)).2 = 0 then ⟨b.getD a 0, 0, 0⟩ else ⟨0, (bestF b a (min a 256)).1, (bestF b a (min a 256)).2⟩
theorem nextT_ok {b : List UInt8} {a : Nat} (h : a < b.length) : okT (nextT b a) = true ∧ (nextT b a).dist ≤ a ∧ a + sizeT (nextT b a) ≤ b.length ∧ 1 ≤ sizeT (nextT b a) := by
  have h2 := bestF_two b a (min a 256)
  unfold nextT
  split
  · simp [okT, sizeT]; omega
  · rename_i h0
    obtain ⟨_, h18, hle, _, h5⟩ := h2
    obtain ⟨h3, h6⟩ := h5 (by omega)
    have := alkF_end b (a - (bestF b a (min a 256)).2) a 18 (by omega)
    have hne : ¬ (((bestF b a (min a 256)).1 : Nat) : Int) = 0 := by omega
    refine ⟨?_, by simp only []; omega, ?_, ?_⟩
    · simp only [okT, if_neg hne]; simp; omega
    · simp only [sizeT, if_neg hne]; omega
    · simp only [sizeT, if_neg hne]; omega
def toksF (b : List UInt8) : Nat → Nat → List Tok
  | 0, _ => []
  | k + 1, a => if a < b.length then nextT b a :: toksF b k (a + (sizeT (nextT b a)).toNat) else []
def toksB (b : List UInt8) : List Tok := toksF b b.length 0
theorem tellN_again {b : List UInt8} {a d : Nat} (hd : 1 ≤ d) (hda : d ≤ a) (n : Nat) (hn : a + n ≤ b.length) (h : ∀ i, i < n → b.getD (a - d + i) 0 = b.getD (a + i) 0) : tellN (b.take a) d n = b.take (a + n) := by
  induction n with
  | zero => rfl
  | succ n ih =>
    have ih' := ih (by omega) fun i hi => h i (by omega)
    have h1 := h n (by omega)
    rw [tellN, ih']
    have hlen : (b.take (a + n)).length = a + n := by rw [List.length_take]; omega
    rw [hlen]
    have hg : (b.take (a + n)).getD (a + n - d) 0 = b.getD (a + n) 0 := by
      rw [← h1, List.getD_eq_getElem?_getD, List.getElem?_take, if_pos (by omega), show a + n - d = a - d + n by omega, List.getD_eq_getElem?_getD]
    rw [hg, show a + (n + 1) = a + n + 1 by omega, List.take_add_one, List.getElem?_eq_getElem (by omega), List.getD_eq_getElem?_getD, List.getElem?_eq_getElem (by omega)]
    rfl
/-- A place's token tells what is there. -/
theorem nextT_tell {b : List UInt8} {a : Nat} (h : a < b.length) : tellT (b.take a) (nextT b a) = b.take (a + (sizeT (nextT b a)).toNat) := by
  have h2 := bestF_two b a (min a 256)
  unfold nextT
  split
  · simp only [tellT, sizeT, if_pos]
    rw [show a + (1 : Int).toNat = a + 1 from rfl, List.take_add_one, List.getElem?_eq_getElem h, List.getD_eq_getElem?_getD, List.getElem?_eq_getElem h]
    rfl
  · rename_i h0
    obtain ⟨_, h18, hle, _, h5⟩ := h2
    obtain ⟨h3, h6⟩ := h5 (by omega)
    have hend := alkF_end b (a - (bestF b a (min a 256)).2) a 18 (by omega)
    have hne : ¬ (((bestF b a (min a 256)).1 : Nat) : Int) = 0 := by omega
    simp only [tellT, sizeT, if_neg hne]
    rw [Int.toNat_natCast, Int.toNat_natCast]
    refine tellN_again (by omega) (by omega) _ (by omega) fun i hi => alkF_same b _ a 18 i (by omega)
theorem toksF_text (b : List UInt8) (k a : Nat) (h : b.length ≤ a + k) (ha : a ≤ b.length) : textF (b.take a) (toksF b k a) = b ∧ okL a (toksF b k a) = true := by
  induction k generalizing a with
  | zero => simp [toksF, textF, okL]; exact List.take_of_length_le (by omega)
  | succ k ih =>
    rw [toksF]
    split
    · rename_i h1
      obtain ⟨h2, h3, h4, h5⟩ := nextT_ok h1
      obtain ⟨g1, g2⟩ := ih (a + (sizeT (nextT b a)).toNat) (by omega) (by omega)
      rw [textF, nextT_tell h1, okL_cons]
      refine ⟨g1, h2, h3, ?_⟩
      rw [show (a : Int) + sizeT (nextT b a) = ((a + (sizeT (nextT b a)).toNat : Nat) : Int) by omega]
      exact g2
    · simp [textF, okL]; exact List.take_of_length_le (by omega)
theorem toksB_text (b : List UInt8) : textF [] (toksB b) = b ∧ okL 0 (toksB b) = true := toksF_text b b.length 0 (by omega) (by omega)
theorem toksB_sum (b : List UInt8) : sumT (toksB b) = b.length := by
  obtain ⟨h1, h2⟩ := toksB_text b
  have := textF_len (b := []) h2
  rw [h1] at this
  simp at this; omega
theorem toksB_len (b : List UInt8) : (toksB b).length ≤ b.length := by
  have h1 := toksB_sum b
  have h2 := okL_sum (toksB_text b).2
  omega
/-! coder/E0.lean -/

/-- A bit, and whose. -/
structure Bit where
  at_ : Int
  b : Bool

/-- Is it a chance? -/
def isC (p : Int) : Bool := decide (31 ≤ p) && decide (p ≤ 2017)
/-- A chance behind a bit. -/
def lrn (p : Int) (b : Bool) : Int := if b then p - p / 32 else p + (2048 - p) / 32
theorem isC_iff {p : Int} : isC p = true ↔ 31 ≤ p ∧ p ≤ 2017 := by simp [isC]
theorem lrn_ok {p : Int} (b : Bool) (h : isC p = true) : isC (lrn p b) = true := by
  rw [isC_iff] at *
  cases b <;> simp [lrn] <;> omega
theorem lrn_up {p : Int} (h : isC p = true) : p ≤ lrn p false := by rw [isC_iff] at h; simp [lrn]; omega
theorem lrn_down {p : Int} (h : isC p = true) : lrn p true ≤ p := by rw [isC_iff] at h; simp [lrn]; omega

/-- A chance behind the same bit, again and again. -/
def itL (b : Bool) : Nat → Int → Int
  | 0, p => p
  | n + 1, p => itL b n (lrn p b)
theorem itL_succ (b : Bool) (n : Nat) (p : Int) : itL b (n + 1) p = lrn (itL b n p) b := by
  induction n generalizing p with
  | zero => rfl
  | succ n ih => rw [itL, ih]; rfl
theorem itL_ok (b : Bool) (n : Nat) {p : Int} (h : isC p = true) : isC (itL b n p) = true := by
  induction n generalizing p with
  | zero => exact h
  | succ n ih => exact ih (lrn_ok b h)
theorem lrn_mono {p q : Int} (h : p ≤ q) : lrn p true ≤ lrn q true := by simp [lrn]; omega
theorem itL_mono (n : Nat) {p q : Int} (h : p ≤ q) : itL true n p ≤ itL true n q := by
  induction n generalizing p q with
  | zero => exact h
  | succ n ih => exact ih (lrn_mono h)
theorem itL_flip (n : Nat) (p : Int) : itL false n (2048 - p) = 2048 - itL true n p := by
  induction n generalizing p with
  | zero => rfl
  | succ n ih =>
    have : lrn (2048 - p) false = 2048 - lrn p true := by simp [lrn]; omega
    rw [itL, this, ih, itL]
theorem itL_top : itL true 400 2017 = 31 := by decide +kernel
theorem itL_end_true {p : Int} (h : isC p = true) : itL true 400 p = 31 := by
  have h1 := isC_iff.1 (itL_ok true 400 h)
  have h2 := itL_mono 400 (isC_iff.1 h).2
  rw [itL_top] at h2
  omega
theorem itL_end_false {p : Int} (h : isC p = true) : itL false 400 p = 2017 := by
  have h1 : isC (2048 - p) = true := by rw [isC_iff] at *; omega
  have h2 := itL_flip 400 (2048 - p)
  rw [itL_end_true h1, show 2048 - (2048 - p) = p by omega] at h2
  omega

/-- May they be chances? -/
def okC (l : List Int) : Bool := decide (l.length ≤ 1024) && l.all isC
/-- Is the bit by one of so many? -/
def inB (n : Nat) (x : Bit) : Bool := decide (0 ≤ x.at_) && decide (x.at_ < n)
def stepA (l : List Int) (x : Bit) : List Int := l.set x.at_.toNat (lrn (l.getD x.at_.toNat 0) x.b)
def allF (l : List Int) (bs : List Bit) : List Int := bs.foldl stepA l
/-- What All answers. -/
def allR (l : List Int) (bs : List Bit) : List Int × Int := if okC l = false then ([], 1) else if bs.all (inB l.length) = false then ([], 4) else (allF l bs, 0)

theorem okC_iff {l : List Int} : okC l = true ↔ l.length ≤ 1024 ∧ ∀ p ∈ l, isC p = true := by simp [okC]
theorem inB_iff {n : Nat} {x : Bit} : inB n x = true ↔ 0 ≤ x.at_ ∧ x.at_ < n := by simp [inB]
theorem stepA_len (l : List Int) (x : Bit) : (stepA l x).length = l.length := by simp [stepA]
theorem allF_len (l : List Int) (bs : List Bit) : (allF l bs).length = l.length := by
  induction bs generalizing l with
  | nil => rfl
  | cons x r ih => exact (ih (stepA l x)).trans (stepA_len l x)
theorem stepA_ok {l : List Int} {x : Bit} (h : okC l = true) : okC (stepA l x) = true := by
  rw [okC_iff] at *
  refine ⟨by rw [stepA_len]; exact h.1, fun p hp => ?_⟩
  by_cases hi : x.at_.toNat < l.length
  · rcases List.mem_or_eq_of_mem_set hp with h1 | h1
    · exact h.2 p h1
    · rw [h1]
      refine lrn_ok _ (h.2 _ ?_)
      rw [List.getD_eq_getElem?_getD, List.getElem?_eq_getElem hi]
      exact List.getElem_mem _
  · unfold stepA at hp
    rw [List.set_eq_of_length_le (by omega)] at hp
    exact h.2 p hp
theorem allF_ok {l : List Int} {bs : List Bit} (h : okC l = true) : okC (allF l bs) = true := by
  induction bs generalizing l with
  | nil => exact h
  | cons x r ih => exact ih (stepA_ok h)
theorem allF_append (l : List Int) (a b : List Bit) : allF l (a ++ b) = allF (allF l a) b := by simp [allF]
theorem allF_snoc (l : List Int) {bs : List Bit} {k : Nat} (h : k < bs.length) : allF l (bs.take (k + 1)) = stepA (allF l (bs.take k)) bs[k] := by
  rw [List.take_succ_eq_append_getElem h, allF_append]; rfl
/-- What one of them learns. -/
def oneF (at_ p : Int) (bs : List Bit) : Int := bs.foldl (fun p x => if x.at_ = at_ then lrn p x.b else p) p
theorem oneF_snoc (i p : Int) {bs : List Bit} {k : Nat} (h : k < bs.length) : oneF i p (bs.take (k + 1)) = if bs[k].at_ = i then lrn (oneF i p (bs.take k)) bs[k].b else oneF i p (bs.take k) := by
  rw [List.take_succ_eq_append_getElem h]; unfold oneF; rw [List.foldl_append]; rfl
theorem oneF_ok (i : Int) {p : Int} (bs : List Bit) (h : isC p = true) : isC (oneF i p bs) = true := by
  induction bs generalizing p with
  | nil => exact h
  | cons x r ih =>
    unfold oneF
    rw [List.foldl_cons]
    split
    · exact ih (lrn_ok _ h)
    · exact ih h
theorem allF_at {l : List Int} {bs : List Bit} {i : Int} (h0 : 0 ≤ i) (h1 : i < l.length) (hb : ∀ x ∈ bs, inB l.length x = true) : (allF l bs).getD i.toNat 0 = oneF i (l.getD i.toNat 0) bs := by
  induction bs generalizing l with
  | nil => rfl
  | cons x r ih =>
    have hx := inB_iff.1 (hb x (by simp))
    have h2 := ih (l := stepA l x) (by rw [stepA_len]; exact h1) (fun y hy => by rw [stepA_len]; exact hb y (by simp [hy]))
    unfold allF at *
    rw [List.foldl_cons, h2]
    unfold oneF
    rw [List.foldl_cons]
    congr 1
    unfold stepA
    rw [List.getD_eq_getElem?_getD, List.getElem?_set]
    by_cases e : x.at_ = i
    · subst e
      simp [show x.at_.toNat < l.length by omega]
    · have : ¬ x.at_.toNat = i.toNat := by omega
      simp [this, e]
/-! coder/E1.lean -/

/-! ### numbers of octets -/
def numR : List Int → Int
  | [] => 0
  | x :: r => x + 256 * numR r
/-- The number of octets, the highest one first. -/
def num (l : List Int) : Int := numR l.reverse
def okB (l : List Int) : Prop := ∀ x ∈ l, 0 ≤ x ∧ x < 256
theorem num_snoc (l : List Int) (x : Int) : num (l ++ [x]) = num l * 256 + x := by simp [num, numR]; omega
theorem num_nil : num [] = 0 := rfl
theorem numR_lt {l : List Int} (h : okB l) : 0 ≤ numR l ∧ numR l < 256 ^ l.length := by
  induction l with
  | nil => simp [numR]
  | cons x r ih =>
    have h1 := ih fun y hy => h y (by simp [hy])
    have h2 := h x (by simp)
    rw [numR, List.length_cons, Int.pow_succ]
    generalize (256 : Int) ^ r.length = P at *
    omega
theorem okB_rev {l : List Int} (h : okB l) : okB l.reverse := fun x hx => h x (by simpa using hx)
theorem num_lt {l : List Int} (h : okB l) : 0 ≤ num l ∧ num l < 256 ^ l.length := by
  have := numR_lt (okB_rev h)
  simpa [num] using this
theorem okB_app {a b : List Int} (ha : okB a) (hb : okB b) : okB (a ++ b) := fun x hx => by
  rcases List.mem_append.1 hx with h | h
  · exact ha x h
  · exact hb x h
theorem okB_left {a b : List Int} (h : okB (a ++ b)) : okB a := fun x hx => h x (by simp [hx])
theorem okB_one {x : Int} (h : 0 ≤ x ∧ x < 256) : okB [x] := fun y hy => by simp at hy; subst hy; exact h
theorem okB_take {a : List Int} (n : Nat) (h : okB a) : okB (a.take n) := fun x hx => h x (List.mem_of_mem_take hx)
/-- The number of a beginning. -/
theorem num_take {l : List Int} (h : okB l) (u d : Nat) (hd : u + d ≤ l.length) : num (l.take u) * 256 ^ d ≤ num (l.take (u + d)) ∧ num (l.take (u + d)) < (num (l.take u) + 1) * 256 ^ d := by
  induction d with
  | zero => exact ⟨by simp, by simp; omega⟩
  | succ d ih =>
    obtain ⟨h1, h2⟩ := ih (by omega)
    have hlt : u + d < l.length := by omega
    have hx := h l[u + d] (List.getElem_mem _)
    rw [← Nat.add_assoc, List.take_succ_eq_append_getElem hlt, num_snoc, Int.pow_succ, ← Int.mul_assoc, ← Int.mul_assoc]
    generalize num (l.take u) * 256 ^ d = A at *
    generalize (num (l.take u) + 1) * 256 ^ d = B at *
    generalize l[u + d] = x at *
    omega

/-! ### a number, one more -/
def incR : List Int → List Int
  | [] => []
  | x :: r => if x = 255 then 0 :: incR r else (x + 1) :: r
def inc (l : List Int) : List Int := (incR l.reverse).reverse
theorem incR_len (l : List Int) : (incR l).length = l.length := by
  induction l with
  | nil => rfl
  | cons x r ih => rw [incR]; split <;> simp [ih]
theorem inc_len (l : List Int) : (inc l).length = l.length := by simp [inc, incR_len]
theorem incR_ok {l : List Int} (h : okB l) : okB (incR l) := by
  induction l with
  | nil => exact h
  | cons x r ih =>
    have h1 := ih fun y hy => h y (by simp [hy])
    have h2 := h x (by simp)
    rw [incR]
    split
    · intro y hy
      rcases List.mem_cons.1 hy with rfl | hy
      · omega
      · exact h1 y hy
    · intro y hy
      rcases List.mem_cons.1 hy with rfl | hy
      · omega
      · exact h y (by simp [hy])
theorem inc_ok {l : List Int} (h : okB l) : okB (inc l) := okB_rev (incR_ok (okB_rev h))
theorem incR_num {l : List Int} (h : okB l) (hl : numR l + 1 < 256 ^ l.length) : numR (incR l) = numR l + 1 := by
  induction l with
  | nil => simp [numR] at hl
  | cons x r ih =>
    have h2 := h x (by simp)
    rw [incR]
    split
    · rename_i e
      subst e
      rw [numR, List.length_cons, Int.pow_succ] at hl
      have := ih (fun y hy => h y (by simp [hy])) (by generalize (256 : Int) ^ r.length = P at *; omega)
      rw [numR, numR, this]
      omega
    · rw [numR, numR]; omega
theorem inc_num {l : List Int} (h : okB l) (hl : num l + 1 < 256 ^ l.length) : num (inc l) = num l + 1 := by
  have := incR_num (okB_rev h) (by simpa [num] using hl)
  simpa [num, inc] using this

/-! ### to encode -/
/-- The part of a span. -/
def partP (s : Int) (c : List Int) (i : Int) : Int := s / 2048 * c.getD i.toNat 0
theorem getD_ok {c : List Int} {i : Int} (h : okC c = true) (h0 : 0 ≤ i) (h1 : i < c.length) : isC (c.getD i.toNat 0) = true := by
  rw [List.getD_eq_getElem?_getD, List.getElem?_eq_getElem (by omega)]
  exact (okC_iff.1 h).2 _ (List.getElem_mem _)
theorem part_ok {s : Int} {c : List Int} {i : Int} (hc : okC c = true) (h0 : 0 ≤ i) (h1 : i < c.length) (hs : 16777216 ≤ s ∧ s < 4294967296) : 253952 ≤ partP s c i ∧ partP s c i ≤ s - 253952 ∧ s - 2047 ≤ 67 * partP s c i ∧ s ≤ 67 * (s - partP s c i) := by
  obtain ⟨p0, p1⟩ := isC_iff.1 (getD_ok hc h0 h1)
  have m1 : s / 2048 * 31 ≤ s / 2048 * c.getD i.toNat 0 := Int.mul_le_mul_of_nonneg_left p0 (by omega)
  have m2 : s / 2048 * c.getD i.toNat 0 ≤ s / 2048 * 2017 := Int.mul_le_mul_of_nonneg_left p1 (by omega)
  unfold partP
  generalize s / 2048 * c.getD i.toNat 0 = z at *
  omega

structure Enc where
  c : List Int
  span : Int
  low : Int
  text : List Int
/-- Behind a bit, ahead of what is put behind the text. -/
def put1 (s : Enc) (x : Bit) : Enc :=
  { c := stepA s.c x
    span := if x.b then s.span - partP s.span s.c x.at_ else partP s.span s.c x.at_
    low := if x.b then (s.low + partP s.span s.c x.at_) % 4294967296 else s.low
    text := if x.b = true ∧ 4294967296 ≤ s.low + partP s.span s.c x.at_ then inc s.text else s.text }
/-- The highest octet of low put behind the text. -/
def shf (s : Enc) : Enc := { c := s.c, span := s.span * 256, low := s.low % 16777216 * 256, text := s.text ++ [s.low / 16777216] }
def put (s : Enc) (x : Bit) : Enc := if (put1 s x).span < 16777216 then shf (put1 s x) else put1 s x
def putAll (s : Enc) (xs : List Bit) : Enc := xs.foldl put s
def start0 (n : Int) : Enc := ⟨List.replicate n.toNat 1024, 4294967295, 0, [0]⟩
def be4 (n : Int) : List Int := [n / 16777216, n / 65536 % 256, n / 256 % 256, n % 256]
def endT (s : Enc) : List Int := s.text ++ be4 s.low

structure OkE (s : Enc) : Prop where
  c : okC s.c = true
  span : 16777216 ≤ s.span ∧ s.span < 4294967296
  low : 0 ≤ s.low ∧ s.low < 4294967296
  text : okB s.text
  one : 0 < s.text.length
/-- The number that a text and low are. -/
def numE (s : Enc) : Int := num s.text * 4294967296 + s.low
structure InvE (s : Enc) : Prop extends OkE s where
  top : numE s + s.span ≤ 4294967295 * 256 ^ (s.text.length - 1)

theorem put1_len (s : Enc) (x : Bit) : (put1 s x).text.length = s.text.length := by
  simp only [put1]
  split
  · exact inc_len _
  · rfl
theorem put1_c (s : Enc) (x : Bit) : (put1 s x).c.length = s.c.length := stepA_len _ _
theorem put_c (s : Enc) (x : Bit) : (put s x).c.length = s.c.length := by
  unfold put
  split
  · exact put1_c s x
  · exact put1_c s x
theorem putAll_c (s : Enc) (xs : List Bit) : (putAll s xs).c.length = s.c.length := by
  induction xs generalizing s with
  | nil => rfl
  | cons x r ih => exact (ih (put s x)).trans (put_c s x)
/-- What a bit makes of the number. -/
theorem put1_ok {s : Enc} {x : Bit} (h : InvE s) (hx : inB s.c.length x = true) :
    okC (put1 s x).c = true ∧ 253952 ≤ (put1 s x).span ∧ (put1 s x).span < 4294967296 ∧ (0 ≤ (put1 s x).low ∧ (put1 s x).low < 4294967296) ∧ okB (put1 s x).text ∧
    numE (put1 s x) = numE s + (if x.b then partP s.span s.c x.at_ else 0) ∧ numE (put1 s x) + (put1 s x).span ≤ numE s + s.span := by
  obtain ⟨h0, h1⟩ := inB_iff.1 hx
  have hp := part_ok h.c h0 h1 h.span
  have hs := h.span
  have hl := h.low
  have ht := h.top
  have hb := num_lt h.text
  have h1' := h.one
  have hpow : (256 : Int) ^ s.text.length = 256 ^ (s.text.length - 1) * 256 := by
    obtain ⟨m, hm⟩ : ∃ m, s.text.length = m + 1 := ⟨s.text.length - 1, by omega⟩
    rw [hm, Int.pow_succ, Nat.add_sub_cancel]
  unfold put1 numE
  unfold numE at ht
  simp only []
  generalize partP s.span s.c x.at_ = p at *
  refine ⟨stepA_ok h.c, ?_⟩
  cases hxb : x.b
  · simp only [Bool.false_eq_true, if_false, false_and]
    exact ⟨by omega, by omega, by omega, h.text, by omega, by omega⟩
  · simp only [if_true, true_and]
    split
    · rename_i hc
      have hn := inc_num h.text (by
        rw [hpow]
        generalize (256 : Int) ^ (s.text.length - 1) = P at *
        omega)
      have hi := inc_ok h.text
      rw [hn]
      exact ⟨by omega, by omega, by omega, hi, by omega, by omega⟩
    · exact ⟨by omega, by omega, by omega, h.text, by omega, by omega⟩
theorem shf_num (s : Enc) : numE (shf s) = numE s * 256 := by
  unfold shf numE
  simp only [num_snoc]
  omega
theorem be4_num (l : List Int) (n : Int) : num (l ++ be4 n) = num l * 4294967296 + n := by
  unfold be4
  rw [show l ++ [n / 16777216, n / 65536 % 256, n / 256 % 256, n % 256] = (((l ++ [n / 16777216]) ++ [n / 65536 % 256]) ++ [n / 256 % 256]) ++ [n % 256] by simp]
  simp only [num_snoc]
  omega
theorem be4_ok {n : Int} (h : 0 ≤ n ∧ n < 4294967296) : okB (be4 n) := by
  intro x hx
  simp [be4] at hx
  omega
theorem endT_num (s : Enc) : num (endT s) = numE s := be4_num _ _
theorem endT_len (s : Enc) : (endT s).length = s.text.length + 4 := by simp [endT, be4]
theorem endT_ok {s : Enc} (h : OkE s) : okB (endT s) := okB_app h.text (be4_ok h.low)

/-- How far a bit goes: no octet, or one. -/
theorem put_ok {s : Enc} {x : Bit} (h : InvE s) (hx : inB s.c.length x = true) :
    InvE (put s x) ∧ ∃ d, (put s x).text.length = s.text.length + d ∧ numE s * 256 ^ d ≤ numE (put s x) ∧ numE (put s x) + (put s x).span ≤ (numE s + s.span) * 256 ^ d := by
  obtain ⟨a1, a2, a3, a4, a5, a6, a7⟩ := put1_ok h hx
  have hl := put1_len s x
  have ht := h.top
  have h1 := h.one
  obtain ⟨h0', h1'⟩ := inB_iff.1 hx
  have hp := part_ok h.c h0' h1' h.span
  have a8 : numE s ≤ numE (put1 s x) := by rw [a6]; split <;> omega
  clear a6 hp
  unfold put
  generalize put1 s x = t at *
  split
  · rename_i hlt
    refine ⟨⟨⟨a1, ?_, ?_, okB_app a5 (okB_one ?_), ?_⟩, ?_⟩, 1, ?_, ?_, ?_⟩
    · simp only [shf]; omega
    · simp only [shf]; omega
    · omega
    · simp [shf]
    · rw [shf_num]
      simp only [shf, List.length_append, List.length_singleton, hl]
      rw [show s.text.length + 1 - 1 = s.text.length - 1 + 1 by omega, Int.pow_succ]
      generalize (256 : Int) ^ (s.text.length - 1) = P at *
      omega
    · simp [shf, hl]
    · rw [shf_num]; omega
    · rw [shf_num]; simp only [shf]; omega
  · rename_i hge
    refine ⟨⟨⟨a1, by omega, a4, a5, by omega⟩, ?_⟩, 0, ?_, ?_, ?_⟩
    · rw [hl]; omega
    · omega
    · simpa using a8
    · simpa using a7
theorem putAll_ok {s : Enc} {xs : List Bit} (h : InvE s) (hx : ∀ x ∈ xs, inB s.c.length x = true) :
    InvE (putAll s xs) ∧ ∃ d, (putAll s xs).text.length = s.text.length + d ∧ numE s * 256 ^ d ≤ numE (putAll s xs) ∧ numE (putAll s xs) + (putAll s xs).span ≤ (numE s + s.span) * 256 ^ d := by
  induction xs generalizing s with
  | nil => exact ⟨h, 0, rfl, by simp [putAll], by simp [putAll]⟩
  | cons x r ih =>
    obtain ⟨g, d, d1, d2, d3⟩ := put_ok h (hx x (by simp))
    obtain ⟨g', e, e1, e2, e3⟩ := ih g fun y hy => by rw [put_c]; exact hx y (by simp [hy])
    have hd : (0 : Int) ≤ 256 ^ e := Int.pow_nonneg (by omega)
    refine ⟨g', d + e, ?_, ?_, ?_⟩
    · show (putAll (put s x) r).text.length = _
      omega
    · show _ ≤ numE (putAll (put s x) r)
      rw [Int.pow_add, ← Int.mul_assoc]
      exact Int.le_trans (Int.mul_le_mul_of_nonneg_right d2 hd) e2
    · show numE (putAll (put s x) r) + (putAll (put s x) r).span ≤ _
      rw [Int.pow_add, ← Int.mul_assoc]
      exact Int.le_trans e3 (Int.mul_le_mul_of_nonneg_right d3 hd)
theorem start_ok {n : Int} (h1 : n ≤ 1024) : InvE (start0 n) := by
  refine ⟨⟨okC_iff.2 ⟨by simp [start0]; omega, fun p hp => ?_⟩, ?_, ?_, ?_, ?_⟩, ?_⟩
  · rw [(List.mem_replicate.1 hp).2]; rfl
  · simp [start0]
  · simp [start0]
  · exact okB_one (by omega)
  · simp [start0]
  · simp [start0, numE, num, numR]
theorem start_c (n : Int) : (start0 n).c.length = n.toNat := by simp [start0]

/-! ### to read -/
structure Rdr where
  c : List Int
  span : Int
  code : Int
  used : Nat
def bitR (r : Rdr) (i : Int) : Bool := decide (partP r.span r.c i ≤ r.code)
def spanR (r : Rdr) (i : Int) : Int := if bitR r i then r.span - partP r.span r.c i else partP r.span r.c i
def codeR (r : Rdr) (i : Int) : Int := if bitR r i then r.code - partP r.span r.c i else r.code
/-- The next bit, the reader behind it, the error. -/
def nextR (t : List Int) (r : Rdr) (i : Int) : Bool × Rdr × Int :=
  if ¬ (0 ≤ i ∧ i < r.c.length) then (false, r, 4)
  else if spanR r i < 16777216 then
    if r.used < t.length then (bitR r i, ⟨stepA r.c ⟨i, bitR r i⟩, spanR r i * 256, codeR r i * 256 + t.getD r.used 0, r.used + 1⟩, 0) else (false, r, 2)
  else (bitR r i, ⟨stepA r.c ⟨i, bitR r i⟩, spanR r i, codeR r i, r.used⟩, 0)
theorem nextR_in {t : List Int} {r : Rdr} {i : Int} (h : 0 ≤ i ∧ i < r.c.length) : nextR t r i =
  if spanR r i < 16777216 then
    if r.used < t.length then (bitR r i, ⟨stepA r.c ⟨i, bitR r i⟩, spanR r i * 256, codeR r i * 256 + t.getD r.used 0, r.used + 1⟩, 0) else (false, r, 2)
  else (bitR r i, ⟨stepA r.c ⟨i, bitR r i⟩, spanR r i, codeR r i, r.used⟩, 0) := by
  unfold nextR
  rw [if_neg (not_not_intro h)]
/-- All bits, behind those that were read. -/
def rdA (t : List Int) : List Bool → Rdr → List Int → List Bool × Nat × Int
  | acc, r, [] => (acc, r.used, 0)
  | acc, r, i :: is => if (nextR t r i).2.2 = 0 then rdA t (acc ++ [(nextR t r i).1]) (nextR t r i).2.1 is else ([], 0, (nextR t r i).2.2)
structure OkR (r : Rdr) : Prop where
  c : okC r.c = true
  span : 16777216 ≤ r.span ∧ r.span < 4294967296
  code : 0 ≤ r.code ∧ r.code < r.span
/-- What a bit leaves, ahead of the next octet. -/
theorem half_ok {r : Rdr} {i : Int} (h : OkR r) (h0 : 0 ≤ i) (h1 : i < r.c.length) : 253952 ≤ spanR r i ∧ spanR r i < 4294967296 ∧ 0 ≤ codeR r i ∧ codeR r i < spanR r i := by
  have hp := part_ok h.c h0 h1 h.span
  have hs := h.span
  have hc := h.code
  unfold spanR codeR
  cases hb : bitR r i
  · have := of_decide_eq_false hb
    simp only [Bool.false_eq_true, if_false]
    omega
  · have := of_decide_eq_true hb
    simp only [if_true]
    omega
theorem nextR_ok {t : List Int} {r : Rdr} {i : Int} (ht : okB t) (h : OkR r) : OkR (nextR t r i).2.1 := by
  unfold nextR
  split
  · exact h
  · rename_i hi
    have hi' : 0 ≤ i ∧ i < r.c.length := Decidable.not_not.1 hi
    obtain ⟨a1, a2, a3, a4⟩ := half_ok h hi'.1 hi'.2
    split
    · split
      · rename_i hu
        have hx := ht (t.getD r.used 0) (by rw [List.getD_eq_getElem?_getD, List.getElem?_eq_getElem hu]; exact List.getElem_mem _)
        exact ⟨stepA_ok h.c, by simp only []; omega, by simp only []; omega⟩
      · exact h
    · exact ⟨stepA_ok h.c, by simp only []; omega, by simp only []; omega⟩
theorem nextR_c (t : List Int) (r : Rdr) (i : Int) : (nextR t r i).2.1.c.length = r.c.length := by
  unfold nextR
  split
  · rfl
  · split
    · split
      · exact stepA_len _ _
      · rfl
    · exact stepA_len _ _
def startR (n : Int) (t : List Int) : Rdr := ⟨List.replicate n.toNat 1024, 4294967295, num ((t.drop 1).take 4), 5⟩
def newN (n : Int) : Bool := decide (0 ≤ n) && decide (n ≤ 1024)
theorem newN_iff {n : Int} : newN n = true ↔ 0 ≤ n ∧ n ≤ 1024 := by simp [newN]
/-- NewReader's error. -/
def startE (n : Int) (t : List Int) : Int := if newN n = false then 1 else if t.length < 5 ∨ t.getD 0 0 ≠ 0 ∨ num ((t.drop 1).take 4) = 4294967295 then 2 else 0
theorem startE_iff {n : Int} {t : List Int} : startE n t = 0 ↔ newN n = true ∧ 5 ≤ t.length ∧ t.getD 0 0 = 0 ∧ num ((t.drop 1).take 4) ≠ 4294967295 := by
  unfold startE
  generalize num ((t.drop 1).take 4) = z
  generalize t.getD 0 0 = y
  cases hn : newN n
  · simp
  · rw [if_neg (by simp)]
    by_cases h : t.length < 5 ∨ y ≠ 0 ∨ z = 4294967295
    · rw [if_pos h]
      exact ⟨fun h => (by cases h), fun ⟨_, h1, h2, h3⟩ => (by omega)⟩
    · rw [if_neg h]
      exact ⟨fun _ => ⟨rfl, by omega, by omega, by omega⟩, fun _ => rfl⟩
def decR (n : Int) (t : List Int) (at_ : List Int) : List Bool × Nat × Int := if startE n t = 0 then rdA t [] (startR n t) at_ else ([], 0, startE n t)
/-- Encode's answer. -/
def encE (n : Int) (bs : List Bit) : Int := if newN n = false then 1 else if 1048576 < bs.length then 3 else if bs.all (inB n.toNat) = false then 4 else 0
def encT (n : Int) (bs : List Bit) : List Int := if encE n bs = 0 then endT (putAll (start0 n) bs) else []

/-! ### what is encoded is read -/
/-- A reader of the text 't' stands where the writer stood. -/
structure Ties (t : List Int) (s : Enc) (r : Rdr) : Prop where
  c : r.c = s.c
  span : r.span = s.span
  used : r.used = s.text.length + 4
  code : r.code = num (t.take r.used) - numE s

/-- What the text's beginning is, seen from the end. -/
theorem seen {t : List Int} (ht : okB t) (u d : Nat) (hd : u + d ≤ t.length) {A B : Int} (h1 : A * 256 ^ d ≤ num (t.take (u + d))) (h2 : num (t.take (u + d)) < B * 256 ^ d) : A ≤ num (t.take u) ∧ num (t.take u) < B := by
  obtain ⟨g1, g2⟩ := num_take ht u d hd
  have hp : (0 : Int) < 256 ^ d := Int.pow_pos (by omega)
  constructor
  · have := Int.lt_of_mul_lt_mul_right (Int.lt_of_le_of_lt h1 g2) (Int.le_of_lt hp)
    omega
  · exact Int.lt_of_mul_lt_mul_right (Int.lt_of_le_of_lt g1 h2) (Int.le_of_lt hp)

/-- One bit read. The end 'S' of all is where the whole text's octets stand. -/
theorem ties_next {t : List Int} {s : Enc} {r : Rdr} {x : Bit} {ys : List Bit} (ht : okB t) (h : InvE s) (hx : ∀ y ∈ x :: ys, inB s.c.length y = true) (hr : Ties t s r)
    (hlen : (putAll s (x :: ys)).text.length + 4 ≤ t.length) (hnum : num (t.take ((putAll s (x :: ys)).text.length + 4)) = numE (putAll s (x :: ys))) :
    (nextR t r x.at_).1 = x.b ∧ (nextR t r x.at_).2.2 = 0 ∧ Ties t (put s x) (nextR t r x.at_).2.1 := by
  have hx0 := hx x (by simp)
  obtain ⟨h0, h1⟩ := inB_iff.1 hx0
  obtain ⟨a1, a2, a3, a4, a5, a6, a7⟩ := put1_ok h hx0
  obtain ⟨g, d1, e1, _, _⟩ := put_ok h hx0
  obtain ⟨g', d, e2, e3, e4⟩ := putAll_ok (xs := ys) g (fun y hy => by rw [put_c]; exact hx y (by simp [hy]))
  have hput : putAll s (x :: ys) = putAll (put s x) ys := rfl
  rw [hput] at hlen hnum
  have hsp := g'.span
  -- seen from behind this bit
  have s1 := seen ht ((put s x).text.length + 4) d (by omega) (A := numE (put s x)) (B := numE (put s x) + (put s x).span)
    (by rw [show (put s x).text.length + 4 + d = (putAll (put s x) ys).text.length + 4 by omega, hnum]; exact e3)
    (by rw [show (put s x).text.length + 4 + d = (putAll (put s x) ys).text.length + 4 by omega, hnum]; omega)
  have hc := hr.c
  have hs := hr.span
  have hu := hr.used
  have hcode := hr.code
  have hpl := put1_len s x
  have key : numE (put1 s x) ≤ num (t.take (s.text.length + 4)) ∧ num (t.take (s.text.length + 4)) < numE (put1 s x) + (put1 s x).span := by
    by_cases hlt : (put1 s x).span < 16777216
    · have hp : put s x = shf (put1 s x) := by unfold put; rw [if_pos hlt]
      rw [hp] at s1 hlen e2
      have hl1 : (shf (put1 s x)).text.length = s.text.length + 1 := by simp [shf, hpl]
      rw [hl1] at s1 e2
      have := seen ht (s.text.length + 4) 1 (by omega) (A := numE (put1 s x)) (B := numE (put1 s x) + (put1 s x).span)
        (by rw [show s.text.length + 4 + 1 = s.text.length + 1 + 4 by omega]; have := s1.1; rw [shf_num] at this; omega)
        (by rw [show s.text.length + 4 + 1 = s.text.length + 1 + 4 by omega]; have := s1.2; rw [shf_num] at this; simp only [shf] at this; omega)
      exact this
    · have hp : put s x = put1 s x := by unfold put; rw [if_neg hlt]
      rw [hp, hpl] at s1
      exact s1
  have hbit : bitR r x.at_ = x.b := by
    unfold bitR
    rw [hs, hc, hcode, hu]
    have hps : (put1 s x).span = if x.b then s.span - partP s.span s.c x.at_ else partP s.span s.c x.at_ := rfl
    cases hb : x.b
    · rw [hb] at a6 hps
      simp only [Bool.false_eq_true, if_false] at a6 hps
      rw [decide_eq_false]
      omega
    · rw [hb] at a6
      simp only [if_true] at a6
      rw [decide_eq_true]
      omega
  have hspan : spanR r x.at_ = (put1 s x).span := by
    unfold spanR
    rw [hbit, hs, hc]
    rfl
  have hcodeR : codeR r x.at_ = num (t.take (s.text.length + 4)) - numE (put1 s x) := by
    unfold codeR
    rw [hbit, hs, hc, hcode, hu, a6]
    cases x.b
    · simp
    · simp only [if_true]; omega
  have hstep : stepA r.c ⟨x.at_, bitR r x.at_⟩ = (put1 s x).c := by rw [hc, hbit]; rfl
  unfold nextR
  rw [if_neg (by rw [hc]; exact not_not_intro ⟨h0, h1⟩), hspan]
  by_cases hlt : (put1 s x).span < 16777216
  · have hp : put s x = shf (put1 s x) := by unfold put; rw [if_pos hlt]
    have hl1 : (shf (put1 s x)).text.length = s.text.length + 1 := by simp [shf, hpl]
    have e3' : (putAll (put s x) ys).text.length = s.text.length + 1 + d := by rw [e2, hp, hl1]
    have hul : r.used < t.length := by omega
    have hg : t.getD r.used 0 = t[r.used] := by rw [List.getD_eq_getElem?_getD, List.getElem?_eq_getElem hul]; rfl
    rw [if_pos hlt, if_pos hul, hp]
    refine ⟨hbit, rfl, hstep, rfl, ?_, ?_⟩
    · simp only [hl1]; omega
    · simp only []
      rw [shf_num, List.take_succ_eq_append_getElem hul, num_snoc, hcodeR, hg, ← hu]
      omega
  · have hp : put s x = put1 s x := by unfold put; rw [if_neg hlt]
    rw [if_neg hlt, hp]
    refine ⟨hbit, rfl, hstep, rfl, ?_, ?_⟩
    · rw [hpl]; exact hu
    · simp only []
      rw [hcodeR, hu]

/-- All bits of a beginning are read. -/
theorem ties_all {t : List Int} {s : Enc} {r : Rdr} {xs ys : List Bit} (acc : List Bool) (ht : okB t) (h : InvE s) (hx : ∀ y ∈ xs ++ ys, inB s.c.length y = true) (hr : Ties t s r)
    (hlen : (putAll s (xs ++ ys)).text.length + 4 ≤ t.length) (hnum : num (t.take ((putAll s (xs ++ ys)).text.length + 4)) = numE (putAll s (xs ++ ys))) :
    rdA t acc r (xs.map Bit.at_) = (acc ++ xs.map Bit.b, (putAll s xs).text.length + 4, 0) := by
  induction xs generalizing s r acc with
  | nil => simp [rdA, putAll, hr.used]
  | cons x xs ih =>
    obtain ⟨b1, b2, b3⟩ := ties_next (ys := xs ++ ys) ht h hx hr hlen hnum
    have hx0 := hx x (by simp)
    obtain ⟨g, _⟩ := put_ok h hx0
    rw [List.map_cons, rdA, if_pos b2, b1, ih (acc ++ [x.b]) g (fun y hy => by rw [put_c]; exact hx y (by simp at hy ⊢; rcases hy with h | h <;> simp [h])) b3 hlen hnum]
    simp [putAll]

/-- Without its last octet a text is not read to its end. -/
theorem ties_short {t : List Int} {s : Enc} {r : Rdr} {xs : List Bit} (acc : List Bool) (ht : okB t) (h : InvE s) (hx : ∀ y ∈ xs, inB s.c.length y = true) (hr : Ties t s r)
    (hlen : t.length = (putAll s xs).text.length + 4) (hnum : num t = numE (putAll s xs)) (hmore : s.text.length < (putAll s xs).text.length) :
    rdA (t.take (t.length - 1)) acc r (xs.map Bit.at_) = ([], 0, 2) := by
  induction xs generalizing s r acc with
  | nil => exact absurd hmore (Nat.lt_irrefl _)
  | cons x xs ih =>
    have hx0 := hx x (by simp)
    have htk : t.take ((putAll s (x :: xs)).text.length + 4) = t := List.take_of_length_le (by omega)
    obtain ⟨b1, b2, b3⟩ := ties_next (ys := xs) ht h hx hr (by omega) (by rw [htk]; exact hnum)
    obtain ⟨g, d1, e1, _, _⟩ := put_ok h hx0
    obtain ⟨g', d, e2, _, _⟩ := putAll_ok (xs := xs) g (fun y hy => by rw [put_c]; exact hx y (by simp [hy]))
    have hput : putAll s (x :: xs) = putAll (put s x) xs := rfl
    rw [hput] at hlen hmore
    have hu := hr.used
    obtain ⟨h0, h1⟩ := inB_iff.1 hx0
    -- what is read of the text without its last octet
    have hsame : nextR (t.take (t.length - 1)) r x.at_ = if (put s x).text.length + 4 < t.length ∨ (put s x).text.length = s.text.length then nextR t r x.at_ else (false, r, 2) := by
      rw [nextR_in (by rw [hr.c]; exact ⟨h0, h1⟩), nextR_in (by rw [hr.c]; exact ⟨h0, h1⟩)]
      by_cases hlt : spanR r x.at_ < 16777216
      · simp only [if_pos hlt]
        have hue : (nextR t r x.at_).2.1.used = r.used + 1 := by
          have := b2
          rw [nextR_in (by rw [hr.c]; exact ⟨h0, h1⟩), if_pos hlt] at this ⊢
          split at this
          · rw [if_pos (by assumption)]
          · simp at this
        have h3 := b3.used
        by_cases hl : r.used < t.length - 1
        · have e5 : (t.take (t.length - 1)).getD r.used 0 = t.getD r.used 0 := by
            rw [List.getD_eq_getElem?_getD, List.getD_eq_getElem?_getD, List.getElem?_take, if_pos hl]
          rw [if_pos (by rw [List.length_take]; omega), if_pos (by omega : r.used < t.length), e5, if_pos (by omega)]
        · rw [if_neg (by rw [List.length_take]; omega), if_neg (by omega)]
      · simp only [if_neg hlt]
        have hue : (nextR t r x.at_).2.1.used = r.used := by
          rw [nextR_in (by rw [hr.c]; exact ⟨h0, h1⟩), if_neg hlt]
        have h3 := b3.used
        rw [if_pos (Or.inr (by omega))]
    rw [List.map_cons, rdA, hsame]
    by_cases hl : (put s x).text.length + 4 < t.length ∨ (put s x).text.length = s.text.length
    · rw [if_pos hl, if_pos b2]
      exact ih _ g (fun y hy => by rw [put_c]; exact hx y (by simp [hy])) b3 hlen hnum (by omega)
    · rw [if_neg hl]
      simp

theorem encE_ok {n : Int} {bs : List Bit} (h : encE n bs = 0) : (0 ≤ n ∧ n ≤ 1024) ∧ bs.length ≤ 1048576 ∧ ∀ x ∈ bs, inB n.toNat x = true := by
  unfold encE at h
  split at h
  · cases h
  · rename_i h1
    split at h
    · cases h
    · rename_i h2
      split at h
      · cases h
      · rename_i h3
        refine ⟨newN_iff.1 (by simpa using h1), by omega, ?_⟩
        simpa using h3
theorem enc_inv {n : Int} {bs : List Bit} (h : encE n bs = 0) : InvE (putAll (start0 n) bs) ∧ ∃ d, (putAll (start0 n) bs).text.length = 1 + d ∧ numE (putAll (start0 n) bs) + (putAll (start0 n) bs).span ≤ 4294967295 * 256 ^ d := by
  obtain ⟨h1, h2, h3⟩ := encE_ok h
  obtain ⟨g, d, d1, d2, d3⟩ := putAll_ok (xs := bs) (start_ok h1.2) (by rw [start_c]; exact h3)
  refine ⟨g, d, d1, ?_⟩
  simpa [start0, numE, num, numR] using d3
theorem encE_prefix {n : Int} {xs ys : List Bit} (h : encE n (xs ++ ys) = 0) : encE n xs = 0 := by
  obtain ⟨h1, h2, h3⟩ := encE_ok h
  have hx : xs.all (inB n.toNat) = true := List.all_eq_true.2 fun x hx => h3 x (by simp [hx])
  unfold encE
  rw [if_neg (by simp [newN_iff.2 h1]), if_neg (by simp at h2; omega), if_neg (by simp [hx])]

/-- A reader of such a text begins where the writer began. -/
theorem ties_start {n : Int} {bs : List Bit} (h : encE n bs = 0) (more : List Int) (hm : okB more) :
    startE n (encT n bs ++ more) = 0 ∧ Ties (encT n bs ++ more) (start0 n) (startR n (encT n bs ++ more)) := by
  obtain ⟨h1, h2, h3⟩ := encE_ok h
  obtain ⟨g, d, d1, d3⟩ := enc_inv h
  have he : encT n bs = endT (putAll (start0 n) bs) := by unfold encT; rw [if_pos h]
  rw [he]
  generalize hS : putAll (start0 n) bs = S at *
  have hl := endT_len S
  have ht : okB (endT S ++ more) := okB_app (endT_ok g.toOkE) hm
  have hlow := g.low
  have hspan := g.span
  have hnn := (num_lt g.text).1
  have hn : num ((endT S ++ more).take (5 + d)) = numE S := by
    rw [List.take_append_of_le_length (by omega), List.take_of_length_le (by omega)]
    exact endT_num S
  have s1 := seen ht 5 d (by simp; omega) (A := 0) (B := 4294967295) (by rw [hn, Int.zero_mul]; unfold numE; omega) (by rw [hn]; omega)
  have s2 := seen ht 1 4 (by simp; omega) (A := 0) (B := 1) (by rw [Int.zero_mul]; exact s1.1) (by rw [Int.one_mul, show (256 : Int) ^ 4 = 4294967296 by decide]; have := s1.2; change num (List.take 5 _) < _; omega)
  have hlt : 5 ≤ (endT S ++ more).length := by simp; omega
  generalize endT S ++ more = t at *
  match t, hlt with
  | x :: r, hlt =>
    have hx0 : x = 0 := by
      have h5 : num ((x :: r).take 1) = x := by simp [num, numR]
      rw [h5] at s2
      omega
    subst hx0
    have hd : (0 :: r).take 5 = 0 :: ((0 :: r : List Int).drop 1).take 4 := by simp
    have hnum0 : ∀ l : List Int, num (0 :: l) = num l := by
      intro l
      unfold num
      rw [List.reverse_cons]
      generalize l.reverse = m
      induction m with
      | nil => simp [numR]
      | cons a m ih => rw [List.cons_append, numR, numR, ih]
    have hcode : num ((0 :: r).take 5) = num (((0 :: r : List Int).drop 1).take 4) := by rw [hd, hnum0]
    rw [hcode] at s1
    refine ⟨?_, rfl, rfl, ?_, ?_⟩
    · unfold startE
      rw [if_neg (by simp [newN_iff.2 h1]), if_neg]
      simp only [not_or]
      refine ⟨by omega, by simp, ?_⟩
      omega
    · simp [startR, start0]
    · simp only [startR]
      rw [hcode]
      simp [start0, numE, num, numR]

theorem encT_ok {n : Int} {bs : List Bit} (h : encE n bs = 0) : encT n bs = endT (putAll (start0 n) bs) := by unfold encT; rw [if_pos h]
theorem encT_len {n : Int} {bs : List Bit} (h : encE n bs = 0) : (encT n bs).length = (putAll (start0 n) bs).text.length + 4 := by rw [encT_ok h, endT_len]
theorem encT_okB {n : Int} {bs : List Bit} (h : encE n bs = 0) : okB (encT n bs) := by rw [encT_ok h]; exact endT_ok (enc_inv h).1.toOkE
/-- P6.4: what is encoded is read; a beginning, too. -/
theorem back_all {n : Int} {xs ys : List Bit} (h : encE n (xs ++ ys) = 0) (more : List Int) (hm : okB more) :
    decR n (encT n (xs ++ ys) ++ more) (xs.map Bit.at_) = (xs.map Bit.b, (encT n xs).length, 0) := by
  obtain ⟨h1, h2, h3⟩ := encE_ok h
  obtain ⟨a, b⟩ := ties_start h more hm
  have hl := encT_len h
  have hlt : (encT n (xs ++ ys)).length ≤ (encT n (xs ++ ys) ++ more).length := by simp
  unfold decR
  rw [if_pos a, ties_all [] (okB_app (encT_okB h) hm) (start_ok h1.2) (by rw [start_c]; exact h3) b (by omega) (by
    rw [← hl, List.take_append_of_le_length (Nat.le_refl _), List.take_length, encT_ok h]
    exact endT_num _), encT_len (encE_prefix h)]
  simp
theorem short_all {n : Int} {bs : List Bit} (h : encE n bs = 0) : (decR n ((encT n bs).take ((encT n bs).length - 1)) (bs.map Bit.at_)).2.2 = 2 := by
  obtain ⟨h1, h2, h3⟩ := encE_ok h
  obtain ⟨a, b⟩ := ties_start h [] (fun x hx => by simp at hx)
  rw [List.append_nil] at a b
  have hl := encT_len h
  obtain ⟨g, d, d1, _⟩ := enc_inv h
  unfold decR
  by_cases h5 : (encT n bs).length = 5
  · have : startE n ((encT n bs).take ((encT n bs).length - 1)) = 2 := by
      unfold startE
      rw [if_neg (by simp [newN_iff.2 h1]), if_pos (Or.inl (by simp; omega))]
    rw [if_neg (by rw [this]; decide), this]
  · have e1 : (((encT n bs).take ((encT n bs).length - 1)).drop 1).take 4 = ((encT n bs).drop 1).take 4 := by
      rw [List.drop_take, List.take_take, Nat.min_eq_left (by omega)]
    have e2 : ((encT n bs).take ((encT n bs).length - 1)).getD 0 0 = (encT n bs).getD 0 0 := by
      rw [List.getD_eq_getElem?_getD, List.getD_eq_getElem?_getD, List.getElem?_take, if_pos (by omega)]
    have e3 : startE n ((encT n bs).take ((encT n bs).length - 1)) = 0 := by
      obtain ⟨a1, a2, a3, a4⟩ := startE_iff.1 a
      exact startE_iff.2 ⟨a1, by rw [List.length_take]; omega, by rw [e2]; exact a3, by rw [e1]; exact a4⟩
    have e4 : startR n ((encT n bs).take ((encT n bs).length - 1)) = startR n (encT n bs) := by
      unfold startR
      rw [e1]
    rw [if_pos e3, e4, ties_short [] (encT_okB h) (start_ok h1.2) (by rw [start_c]; exact h3) b hl (by rw [encT_ok h]; exact endT_num _) (by rw [show (start0 n).text.length = 1 from rfl]; omega)]
theorem len_mono {n : Int} {xs ys : List Bit} (h : encE n (xs ++ ys) = 0) : (encT n xs).length ≤ (encT n (xs ++ ys)).length := by
  have h3 := (encE_ok h).2.2
  rw [encT_len h, encT_len (encE_prefix h)]
  have hp := (enc_inv (encE_prefix h)).1
  have hc : (putAll (start0 n) xs).c.length = n.toNat := by rw [putAll_c, start_c]
  obtain ⟨_, d, d1, _⟩ := putAll_ok (xs := ys) hp (by rw [hc]; exact fun x hx => h3 x (by simp [hx]))
  have : putAll (start0 n) (xs ++ ys) = putAll (putAll (start0 n) xs) ys := by simp [putAll]
  rw [this]
  omega

/-! ### how long a text is -/
theorem put_more {s : Enc} {x : Bit} (h : InvE s) (hx : inB s.c.length x = true) : ∃ d, (put s x).text.length = s.text.length + d ∧ s.span * 256 ^ d ≤ 100 * (put s x).span := by
  obtain ⟨h0, h1⟩ := inB_iff.1 hx
  have hp := part_ok h.c h0 h1 h.span
  have hs := h.span
  have e : s.span ≤ 100 * (put1 s x).span := by
    have : (put1 s x).span = if x.b then s.span - partP s.span s.c x.at_ else partP s.span s.c x.at_ := rfl
    rw [this]
    split <;> omega
  have hl := put1_len s x
  unfold put
  split
  · exact ⟨1, by simp [shf, hl], by simp only [shf]; omega⟩
  · exact ⟨0, by omega, by omega⟩
theorem putAll_more {s : Enc} {xs : List Bit} (h : InvE s) (hx : ∀ x ∈ xs, inB s.c.length x = true) :
    ∃ d, (putAll s xs).text.length = s.text.length + d ∧ s.span * 256 ^ d ≤ 100 ^ xs.length * (putAll s xs).span := by
  induction xs generalizing s with
  | nil => exact ⟨0, rfl, by simp [putAll]⟩
  | cons x r ih =>
    obtain ⟨g, _⟩ := put_ok h (hx x (by simp))
    obtain ⟨d, d1, d2⟩ := put_more h (hx x (by simp))
    obtain ⟨e, e1, e2⟩ := ih g fun y hy => by rw [put_c]; exact hx y (by simp [hy])
    have hd : (0 : Int) ≤ 256 ^ e := Int.pow_nonneg (by omega)
    refine ⟨d + e, ?_, ?_⟩
    · show (putAll (put s x) r).text.length = _
      omega
    · show _ ≤ _ * (putAll (put s x) r).span
      rw [Int.pow_add, ← Int.mul_assoc, List.length_cons, Int.pow_succ, Int.mul_assoc _ 100, Int.mul_left_comm]
      have h3 := Int.mul_le_mul_of_nonneg_right d2 hd
      rw [Int.mul_assoc 100] at h3
      exact Int.le_trans h3 (Int.mul_le_mul_of_nonneg_left e2 (by omega))
theorem short_len {n : Int} {bs : List Bit} (h : encE n bs = 0) : 5 ≤ (encT n bs).length ∧ (encT n bs).length ≤ 5 + (bs.length + 7) / 8 * 7 := by
  obtain ⟨h1, h2, h3⟩ := encE_ok h
  obtain ⟨d, d1, d2⟩ := putAll_more (xs := bs) (start_ok h1.2) (by rw [start_c]; exact h3)
  have hl := encT_len h
  have hs := (enc_inv h).1.span
  have h0 : (start0 n).text.length = 1 := rfl
  have h0' : (start0 n).span = 4294967295 := rfl
  rw [h0'] at d2
  refine ⟨by omega, ?_⟩
  have hp : (0 : Int) < 100 ^ bs.length := Int.pow_pos (by omega)
  have h4 : (256 : Int) ^ d ≤ 100 ^ bs.length := by
    have h5 : (100 : Int) ^ bs.length * (putAll (start0 n) bs).span ≤ 100 ^ bs.length * 4294967295 := Int.mul_le_mul_of_nonneg_left (by omega) (by omega)
    generalize (256 : Int) ^ d = A at *
    generalize (100 : Int) ^ bs.length = B at *
    omega
  have h6 : (256 : Nat) ^ d ≤ 100 ^ bs.length := by
    apply Int.ofNat_le.1
    rw [Int.natCast_pow, Int.natCast_pow]
    exact h4
  have h7 : (100 : Nat) ^ bs.length ≤ 100 ^ (8 * ((bs.length + 7) / 8)) := Nat.pow_le_pow_right (by omega) (by omega)
  have h8 : (100 : Nat) ^ (8 * ((bs.length + 7) / 8)) ≤ 256 ^ (7 * ((bs.length + 7) / 8)) := by
    rw [Nat.pow_mul, Nat.pow_mul]
    exact Nat.pow_le_pow_left (by decide) _
  have h9 : d ≤ 7 * ((bs.length + 7) / 8) := (Nat.pow_le_pow_iff_right (by omega)).1 (Nat.le_trans h6 (Nat.le_trans h7 h8))
  omega
theorem enc_zero {n : Int} {bs : List Bit} (h : encE n bs = 0) : (encT n bs).getD 0 0 = 0 := by
  obtain ⟨a, _⟩ := ties_start h [] (fun x hx => by simp at hx)
  rw [List.append_nil] at a
  unfold startE at a
  split at a
  · cases a
  · split at a
    · cases a
    · rename_i _ h1
      simp only [not_or, Decidable.not_not] at h1
      exact h1.2.1
theorem apart_all {n : Int} {xs ys : List Bit} (h : encE n xs = 0) (h' : encE n ys = 0) (ha : xs.map Bit.at_ = ys.map Bit.at_) (ht : encT n xs = encT n ys) : xs.map Bit.b = ys.map Bit.b := by
  have e1 := back_all (xs := xs) (ys := []) (by rw [List.append_nil]; exact h) [] (fun x hx => by simp at hx)
  have e2 := back_all (xs := ys) (ys := []) (by rw [List.append_nil]; exact h') [] (fun x hx => by simp at hx)
  rw [List.append_nil, List.append_nil] at e1 e2
  rw [ha, ht] at e1
  rw [e1] at e2
  exact (Prod.ext_iff.1 e2).1
theorem encE_ats {n : Int} {xs ys : List Bit} (ha : xs.map Bit.at_ = ys.map Bit.at_) : encE n xs = encE n ys := by
  have hl : xs.length = ys.length := by have := congrArg List.length ha; simpa using this
  have hall : ∀ l : List Bit, l.all (inB n.toNat) = (l.map Bit.at_).all (fun i => decide (0 ≤ i) && decide (i < n.toNat)) := by
    intro l
    rw [List.all_map]
    rfl
  unfold encE
  rw [hl, hall xs, hall ys, ha]
end Go.Proofs.YthkccpemgmpadaaDoor.P

namespace Go.Proofs.YthkccpemgmpadaaDoor.P
set_option maxRecDepth 100000
open Go.RowKit

/-- The slice value 'v' reads as the list 'l', each thing of which is the cells that 'f' tells, 'k' of them. -/
def Rd {α : Type} (k : Nat) (f : α → List Value) (lo hi : Nat) (w : World) (v : Value) (l : List α) : Prop :=
  ∃ A c, v = .slice A l.length c ∧ l.length ≤ c ∧ c ≤ 9223372036854775807 ∧
    (0 < l.length → ∃ b off, A = some ⟨b, off, none⟩ ∧ lo ≤ b ∧ b < hi ∧ ∀ i (h : i < l.length) j u, (f l[i])[j]? = some u → w.cell? ⟨b, off + i * k + j, none⟩ = some u)

/-- The two worlds agree on the blocks from 'lo' on and below 'hi'. -/
def Agree (lo hi : Nat) (w w' : World) : Prop := ∀ k, lo ≤ k → k < hi → w'.heap[k]? = w.heap[k]?

theorem Agree.of_below {lo hi B : Nat} {w w' : World} (h : Below B w w') (hb : hi ≤ B) : Agree lo hi w w' := fun k _ hk => h.block k (by omega)
theorem Agree.refl (lo hi : Nat) (w : World) : Agree lo hi w w := fun _ _ _ => rfl

section
variable {α : Type} {k : Nat} {f : α → List Value} {lo hi : Nat} {w w' : World} {v : Value} {l : List α}
theorem Rd.keep (h : Rd k f lo hi w v l) (ha : Agree lo hi w w') : Rd k f lo hi w' v l := by
  obtain ⟨A, c, rfl, h1, h2, h3⟩ := h
  refine ⟨A, c, rfl, h1, h2, fun h0 => ?_⟩
  obtain ⟨b, off, rfl, hb, hb', hc⟩ := h3 h0
  exact ⟨b, off, rfl, hb, hb', fun i hi j u hu => (World.cell?_of_block (ha b hb hb')).trans (hc i hi j u hu)⟩
theorem Rd.mono {lo' hi' : Nat} (h : Rd k f lo hi w v l) (h1 : lo' ≤ lo) (h2 : hi ≤ hi') : Rd k f lo' hi' w v l := by
  obtain ⟨A, c, rfl, a1, a2, h3⟩ := h
  refine ⟨A, c, rfl, a1, a2, fun h0 => ?_⟩
  obtain ⟨b, off, rfl, hb, hb', hc⟩ := h3 h0
  exact ⟨b, off, rfl, by omega, by omega, hc⟩
theorem Rd.below {B : Nat} (h : Rd k f lo hi w v l) (hb : Below B w w') (hB : hi ≤ B) : Rd k f lo hi w' v l := h.keep (Agree.of_below hb hB)
/-- .. in a world that has grown. -/
theorem Rd.grow (h : Rd k f lo w.heap.size w v l) (hb : Below w.heap.size w w') : Rd k f lo w'.heap.size w' v l := (h.below hb (Nat.le_refl _)).mono (Nat.le_refl _) hb.size
theorem Rd.nil (k : Nat) (f : α → List Value) (lo hi : Nat) (w : World) : Rd k f lo hi w (.slice none 0 0) [] := ⟨none, 0, rfl, by simp, by omega, fun h => absurd h (by simp)⟩
theorem flat_len (hf : ∀ x, (f x).length = k) (l : List α) : (l.flatMap f).length = l.length * k := by
  induction l with
  | nil => simp
  | cons x r ih => rw [List.flatMap_cons, List.length_append, ih, hf, List.length_cons, Nat.add_mul]; omega
theorem flat_get (hf : ∀ x, (f x).length = k) (l : List α) (i : Nat) (h : i < l.length) (j : Nat) (hj : j < k) : (l.flatMap f)[i * k + j]? = (f l[i])[j]? := by
  induction l generalizing i with
  | nil => simp at h
  | cons x r ih =>
    rw [List.flatMap_cons]
    cases i with
    | zero => rw [Nat.zero_mul, Nat.zero_add, List.getElem?_append_left (by rw [hf]; exact hj)]; rfl
    | succ i =>
      rw [List.getElem?_append_right (by rw [hf, Nat.add_mul]; omega), hf, show (i + 1) * k + j - k = i * k + j by rw [Nat.add_mul]; omega]
      exact ih i (by simpa using h)
/-- What the call owns as a row reads as it. -/
theorem Rd.of_own {base n : Nat} {e : TypeId} (hf : ∀ x, (f x).length = k) (hk : 0 < k) (h : w.ownsRow base e k v n (l.flatMap f)) : Rd k f base w.heap.size w v l := by
  have hn : l.length = n := by
    have h1 := h.1
    rw [flat_len hf] at h1
    exact Nat.eq_of_mul_eq_mul_right hk h1
  subst hn
  rcases h.2 with ⟨rfl, h0⟩ | ⟨g, cap, cur, rfl, hb, hg, hnc, hcm, hcs, htake⟩
  · obtain rfl : l = [] := List.eq_nil_of_length_eq_zero h0
    exact Rd.nil _ _ _ _ _
  · have hlt : g < w.heap.size := by
      rcases Nat.lt_or_ge g w.heap.size with h1 | h1
      · exact h1
      · rw [Array.getElem?_eq_none h1] at hg; cases hg
    refine ⟨_, cap, rfl, hnc, by simpa [maxLen] using hcm, fun _ => ⟨g, 0, rfl, hb, hlt, fun i hi j u hu => ?_⟩⟩
    have hj : j < k := by rw [← hf l[i]]; exact (List.getElem?_eq_some_iff.1 hu).1
    have hm : i * k + j < l.length * k := by
      have : (i + 1) * k ≤ l.length * k := Nat.mul_le_mul_right k (by omega)
      rw [Nat.add_mul] at this; omega
    have hc := World.ownsRow.cellAt (w := w) (base := base) (e := e) (size := k) (g := g) (n := l.length) (cap := cap) (xs := l.flatMap f) h (i * k + j) hm
    rw [Nat.zero_add, hc, flat_get hf l i hi j hj, hu]
end
theorem bl_alloc {a w : World} (h : Below a.heap.size a w) (o : Obj) : Below a.heap.size a (w.alloc o) := h.alloc h.size o
theorem bl_call {a w w' : World} (h : Below a.heap.size a w) (h' : Below w.heap.size w w') : Below a.heap.size a w' := h.trans (h'.mono h.size)
theorem bl_grown {a w w' : World} {row : Option Nat} (h : Below a.heap.size a w) (hg : w.grownBy w' row) (hr : ∀ k, row = some k → a.heap.size ≤ k) : Below a.heap.size a w' := h.grown hg h.size hr
theorem bcell {W w1 : World} (hb : Below W.heap.size W w1) : (∀ b o, b < W.heap.size → w1.cell? ⟨b, o, none⟩ = W.cell? ⟨b, o, none⟩) ∧ (∀ b o, b < W.heap.size → w1.frozen? ⟨b, o, none⟩ = W.frozen? ⟨b, o, none⟩) :=
  ⟨fun b o h => hb.cell (p := ⟨b, o, none⟩) h, fun b o h => hb.frozen (p := ⟨b, o, none⟩) h⟩
theorem hide {p : Prop} (h : p) : Hid p := h
theorem unhide {p : Prop} (h : Hid p) : p := h
theorem ret_v {v v' : Value} (h : v = v') : Ending.returned v = .returned v' := by rw [h]
theorem ret_b {v : Value} {b b' : Bool} (h : v = .bool b) (e : b = b') : Ending.returned v = .returned (.bool b') := by rw [h, e]
theorem ret_i {v : Value} {k : IntKind} {b b' : Int} (h : v = .int k b) (e : b = b') : Ending.returned v = .returned (.int k b') := by rw [h, e]

/-! ### append onto a row of the call's own, whatever the source -/
/-- A source of an append: where there is an element there is an address with the cells 'news'. -/
def SrcOk (w : World) (A : Option Addr) (m : Nat) (news : List Value) : Prop := 0 < m → ∃ ad, A = some ad ∧ ∀ j u, news[j]? = some u → w.cell? (ad.add j) = some u
theorem SrcOk.below {w w' : World} {A : Option Addr} {m : Nat} {news : List Value} (h : SrcOk w A m news) (hb : Below w.heap.size w w') : SrcOk w' A m news := fun h0 => by
  obtain ⟨ad, e, hc⟩ := h h0
  exact ⟨ad, e, fun j u hu => (hb.cell (World.block_lt_of_cell? w _ (hc j u hu))).trans (hc j u hu)⟩
section
variable {P : Program} (w : World)
theorem run_app (base : Nat) (t ty e : TypeId) (i : TypeInfo) (z : Value) (size bytes : Nat) (ht : P.underlying t = some (.slice e)) (hi : P.info? e = some i) (hz : i.zero = some z)
    (hsize : i.size = size) (hby : i.bytes = bytes) (hzs : z.cells.size = size) (hsz : 0 < size)
    (v : Value) (n : Nat) (xs : List Value) (hown : w.ownsRow base e size v n xs)
    (A : Option Addr) (m c : Nat) (news : List Value) (hl : news.length = m * size) (hr : SrcOk w A m news) (h1 : ∀ u ∈ news, u.oneCell' = true)
    (h63 : n + m ≤ maxLen) (hbytes : (n + m) * bytes ≤ 140737488355328) (hbase : base ≤ w.heap.size) :
    ∃ v' w', (Builtin.append_ #[t, t] ty #[v, .slice A m c]).run P w = .ok v' w' ∧ w'.ownsRow base e size v' (n + m) (xs ++ news) ∧ w.grownBy w' v.ownBlock := by
  rcases Nat.eq_zero_or_pos m with rfl | hm
  · have hn : news = [] := List.eq_nil_of_length_eq_zero (by simpa using hl)
    subst hn
    rcases A with _ | ad
    · refine ⟨v, w, ?_, by simpa using hown, World.grownBy.refl w _⟩
      rcases hown.2 with ⟨rfl, rfl⟩ | ⟨g, cap, cur, rfl, _, _, hnc, _⟩
      · simp [Builtin.append_, run_underlying ht, sizeOf, typeInfo, hi, Builtin.lenOf, Builtin.firstCells]
      · simp [Builtin.append_, run_underlying ht, sizeOf, typeInfo, hi, Builtin.lenOf, Builtin.firstCells, hnc, storeCells]
    · obtain ⟨v', w', a, b, c', _⟩ := run_append_own (P := P) w base t ty e i z size bytes ht hi hz hsize hby hzs hsz v n xs hown ad 0 c [] hl (by simp) h1 h63 hbytes hbase
      exact ⟨v', w', a, b, c'⟩
  · obtain ⟨ad, rfl, hc⟩ := hr hm
    obtain ⟨v', w', a, b, c', _⟩ := run_append_own (P := P) w base t ty e i z size bytes ht hi hz hsize hby hzs hsz v n xs hown ad m c news hl hc h1 h63 hbytes hbase
    exact ⟨v', w', a, b, c'⟩

theorem wp_app {o : Oper} {a : Act} {K : Act → World → Prop} {Q : Exit → Act → World → Prop} (s x : Operand) (t : TypeId)
    (ho : o.op = .call { callee := .builtin .append, args := #[s, x], argTypes := #[t, t] })
    (base : Nat) (e : TypeId) (i : TypeInfo) (z : Value) (size bytes : Nat) (ht : P.underlying t = some (.slice e)) (hi : P.info? e = some i) (hz : i.zero = some z)
    (hsize : i.size = size) (hby : i.bytes = bytes) (hzs : z.cells.size = size) (hsz : 0 < size)
    (v : Value) (n : Nat) (xs : List Value) (hs : a.eval s = v) (hown : w.ownsRow base e size v n xs)
    (A : Option Addr) (m c : Nat) (news : List Value) (hx : a.eval x = .slice A m c) (hl : news.length = m * size) (hr : SrcOk w A m news) (h1 : ∀ u ∈ news, u.oneCell' = true)
    (h63 : n + m ≤ maxLen) (hbytes : (n + m) * bytes ≤ 140737488355328) (hbase : base ≤ w.heap.size)
    (h : ∀ v' w', w'.ownsRow base e size v' (n + m) (xs ++ news) → w.grownBy w' v.ownBlock → K (a.put o.dst v') w') : o.wp P a w K Q := by
  obtain ⟨v', w', hr, h2, h3⟩ := run_app (P := P) w base t o.type e i z size bytes ht hi hz hsize hby hzs hsz v n xs hown A m c news hl hr h1 h63 hbytes hbase
  unfold Oper.wp execOp
  simp only [ho, resolve, invoke, builtin, Sem.run_bind, Sem.run_pure, Result.andThen_ok, List.map_toArray, List.map_cons, List.map_nil, hs, hx, hr]
  exact h v' w' h2 h3

theorem wpList_app {ops : Array Oper} {rest : List Oper} {o : Oper} {a : Act} {Q : Exit → Act → World → Prop} (hgd : o.guard = none) (s x : Operand) (t : TypeId)
    (ho : o.op = .call { callee := .builtin .append, args := #[s, x], argTypes := #[t, t] })
    (base : Nat) (e : TypeId) (i : TypeInfo) (z : Value) (size bytes : Nat) (ht : P.underlying t = some (.slice e)) (hi : P.info? e = some i) (hz : i.zero = some z)
    (hsize : i.size = size) (hby : i.bytes = bytes) (hzs : z.cells.size = size) (hsz : 0 < size)
    (v : Value) (n : Nat) (xs : List Value) (hs : a.eval s = v) (hown : w.ownsRow base e size v n xs)
    (A : Option Addr) (m c : Nat) (news : List Value) (hx : a.eval x = .slice A m c) (hl : news.length = m * size) (hr : SrcOk w A m news) (h1 : ∀ u ∈ news, u.oneCell' = true)
    (h63 : n + m ≤ maxLen) (hbytes : (n + m) * bytes ≤ 140737488355328) (hbase : base ≤ w.heap.size)
    (h : ∀ v' w', w'.ownsRow base e size v' (n + m) (xs ++ news) → w.grownBy w' v.ownBlock → wpList P ops Q rest (a.put o.dst v') w') : wpList P ops Q (o :: rest) a w :=
  wpList_plain hgd fun _ hK => wp_app w s x t ho base e i z size bytes ht hi hz hsize hby hzs hsz v n xs hs hown A m c news hx hl hr h1 h63 hbytes hbase fun v' w' h2 h3 => hK _ _ (h v' w' h2 h3)
end

/-- 'make([]T, n)', for every world. -/
theorem run_mk {P : Program} (t e : TypeId) (i : TypeInfo) (z : Value) (size : Nat) (ht : P.underlying t = some (.slice e)) (hi : P.info? e = some i) (hz : i.zero = some z) (hsize : i.size = size)
    (n : Nat) (hbytes : i.bytes * n ≤ 281474976710656) (h63 : n ≤ 9223372036854775807) (W : World) :
    (Instr.makeSlice t (.int .i64 (n : Int)) (.int .i64 (n : Int))).run P W = .ok (.slice (some ⟨W.heap.size, 0, none⟩) n n) (W.alloc (.cells (madeCells z.cells (n * size)) e)) := by
  subst hsize
  have hb' : (i.bytes : Int) * (n : Int) ≤ 281474976710656 := by
    have h : ((i.bytes * n : Nat) : Int) ≤ 281474976710656 := by omega
    rwa [Int.natCast_mul] at h
  have hr := run_make (P := P) W t e i z ht hi hz .i64 .i64 n n (by omega) (Int.le_refl _) hb' (by omega)
  simp only [Int.toNat_natCast] at hr
  exact hr

/-! ### bytes that the call owns -/
theorem ownsRow_len {w : World} {base : Nat} {e : TypeId} {size : Nat} {v : Value} {n : Nat} {xs : List Value} (h : w.ownsRow base e size v n xs) : xs.length = n * size := h.1

theorem ownsRow_mono {w : World} {base base' : Nat} {e : TypeId} {size : Nat} {v : Value} {n : Nat} {xs : List Value} (h : w.ownsRow base e size v n xs) (hb : base' ≤ base) : w.ownsRow base' e size v n xs := by
  obtain ⟨h1, h2⟩ := h
  refine ⟨h1, ?_⟩
  rcases h2 with h2 | ⟨g, cap, cur, hv, hg, r⟩
  · exact .inl h2
  · exact .inr ⟨g, cap, cur, hv, by omega, r⟩
theorem ownsRow_form {w : World} {base : Nat} {e : TypeId} {size : Nat} {v : Value} {n : Nat} {xs : List Value} (h : w.ownsRow base e size v n xs) : ∃ A c, v = .slice A n c := by
  rcases h.2 with ⟨rfl, rfl⟩ | ⟨g, cap, cur, rfl, _⟩
  · exact ⟨_, _, rfl⟩
  · exact ⟨_, _, rfl⟩
/-- A row of the call's own stays while a cell of a block below its base is written. -/
theorem ownsRow_setCell' {w : World} {base : Nat} {e : TypeId} {size : Nat} {v : Value} {n : Nat} {xs : List Value} (h : w.ownsRow base e size v n xs) {a : Addr} (ha : a.block < base) (u : Value) : (w.setCell a u).ownsRow base e size v n xs :=
  ownsRow_setCell_below h ha u

/-- The cells of a slice that reads so, as an append asks for them. -/
theorem Rd.src {α : Type} {k : Nat} {f : α → List Value} {lo hi : Nat} {w : World} {A : Option Addr} {n c : Nat} {l : List α} (hf : ∀ x, (f x).length = k) (h : Rd k f lo hi w (.slice A n c) l) : n = l.length ∧ SrcOk w A n (l.flatMap f) := by
  obtain ⟨A', c', e, _, _, h3⟩ := h
  injection e with e1 e2 e3
  subst e1 e2 e3
  refine ⟨rfl, fun h0 => ?_⟩
  obtain ⟨b, off, rfl, _, _, hc⟩ := h3 h0
  refine ⟨_, rfl, fun m u hu => ?_⟩
  have hm : m < (l.flatMap f).length := (List.getElem?_eq_some_iff.1 hu).1
  rw [flat_len hf] at hm
  have hk : 0 < k := by rcases Nat.eq_zero_or_pos k with h | h; (· subst h; omega); exact h
  have hi : m / k < l.length := Nat.div_lt_of_lt_mul (by rw [Nat.mul_comm]; exact hm)
  have hj : m % k < k := Nat.mod_lt _ hk
  have e : m / k * k + m % k = m := Nat.div_add_mod' m k
  have := hc (m / k) hi (m % k) u (by rw [← flat_get hf l _ hi _ hj, e]; exact hu)
  rw [Nat.add_assoc, e] at this
  unfold Addr.add
  split
  · rename_i h0; subst h0; simpa using this
  · exact this
theorem flat_one {α : Type} {f : α → List Value} (h1 : ∀ x, ∀ u ∈ f x, u.oneCell' = true) (l : List α) : ∀ u ∈ l.flatMap f, u.oneCell' = true := by
  intro u hu
  obtain ⟨x, _, h⟩ := List.mem_flatMap.1 hu
  exact h1 x u h

/-! ### a block that is known whole -/
def Blk (w : World) (g : Nat) (t : TypeId) (cs : Array Value) : Prop := w.heap[g]? = some (.cells cs t (0, 0))
section
variable {w w' : World} {g : Nat} {t : TypeId} {cs : Array Value}
theorem Blk.lt (h : Blk w g t cs) : g < w.heap.size := by
  rcases Nat.lt_or_ge g w.heap.size with h1 | h1
  · exact h1
  · unfold Blk at h; rw [Array.getElem?_eq_none h1] at h; cases h
theorem Blk.cell (h : Blk w g t cs) (i : Nat) : w.cell? ⟨g, i, none⟩ = cs[i]? := cell_of_row w g i cs t (0, 0) h
theorem Blk.frozen (h : Blk w g t cs) (i : Nat) : w.frozen? ⟨g, i, none⟩ = false := frozen_of_row w g i cs t h
theorem Blk.new (hg : g = w.heap.size) : Blk (w.alloc (.cells cs t)) g t cs := by subst hg; exact heap_alloc_new w _
theorem Blk.drew (h : Blk w g t cs) : Blk w.drew g t cs := h
theorem Blk.drewN (h : Blk w g t cs) (n : Nat) : Blk (w.drewN n) g t cs := h
theorem Blk.alloc (h : Blk w g t cs) (o : Obj) : Blk (w.alloc o) g t cs := (Below.heap_alloc w o g h.lt).trans h
theorem Blk.set (h : Blk w g t cs) (i : Nat) (u : Value) : Blk (w.setCell ⟨g, i, none⟩ u) g t (cs.setIfInBounds i u) := heap_setCell_same w g i cs t u h
theorem Blk.far (h : Blk w g t cs) {p : Addr} (hp : g ≠ p.block) (u : Value) : Blk (w.setCell p u) g t cs := (Below.heap_setCell w p u g hp).trans h
theorem Blk.below {B : Nat} (h : Blk w g t cs) (hb : Below B w w') (hg : g < B) : Blk w' g t cs := (hb.block g hg).trans h
theorem Blk.ne_ {g' : Nat} {t' : TypeId} {cs' : Array Value} (h : Blk w g t cs) (h' : Blk w g' t' cs') (hne : t ≠ t') : g ≠ g' := by
  rintro rfl
  unfold Blk at h h'
  rw [h] at h'
  injection h' with h'
  injection h' with _ ht
  exact hne ht
theorem Blk.uniq {cs' : Array Value} (h : Blk w g t cs) (h' : Blk w g t cs') : cs = cs' := by
  unfold Blk at h h'
  rw [h] at h'
  injection h' with h'
  injection h'
end

theorem own_below {w w' : World} {base B : Nat} {e : TypeId} {size : Nat} {v : Value} {n : Nat} {xs : List Value} (h : w.ownsRow base e size v n xs) (hb : Below B w w') (hB : w.heap.size ≤ B) : w'.ownsRow base e size v n xs := by
  obtain ⟨h1, h2⟩ := h
  refine ⟨h1, ?_⟩
  rcases h2 with h2 | ⟨g, cap, cur, hv, hg, hh, r⟩
  · exact .inl h2
  · have hl : g < w.heap.size := Blk.lt (t := e) (cs := cur) hh
    exact .inr ⟨g, cap, cur, hv, hg, (hb.block g (by omega)).trans hh, r⟩
theorem own_far {w : World} {base : Nat} {e : TypeId} {size : Nat} {v : Value} {n : Nat} {xs : List Value} (h : w.ownsRow base e size v n xs) {g : Nat} {t : TypeId} {cs : Array Value} (hg : Blk w g t cs) (hne : e ≠ t) (i : Nat) (u : Value) : (w.setCell ⟨g, i, none⟩ u).ownsRow base e size v n xs := by
  obtain ⟨h1, h2⟩ := h
  refine ⟨h1, ?_⟩
  rcases h2 with h2 | ⟨g', cap, cur, hv, hb, hh, r⟩
  · exact .inl h2
  · have : g' ≠ g := Blk.ne_ (t := e) (cs := cur) hh hg hne
    exact .inr ⟨g', cap, cur, hv, hb, (Below.heap_setCell w ⟨g, i, none⟩ u g' this).trans hh, r⟩


theorem Blk.set3 {w : World} {g : Nat} {t : TypeId} {a b c x y z : Value} (h : Blk w g t #[a, b, c]) : Blk (((w.setCell ⟨g, 0, none⟩ x).setCell ⟨g, 1, none⟩ y).setCell ⟨g, 2, none⟩ z) g t #[x, y, z] := by
  simpa using ((h.set 0 x).set 1 y).set 2 z
theorem Blk.set2 {w : World} {g : Nat} {t : TypeId} {a b x y : Value} (h : Blk w g t #[a, b]) : Blk ((w.setCell ⟨g, 0, none⟩ x).setCell ⟨g, 1, none⟩ y) g t #[x, y] := by
  simpa using (h.set 0 x).set 1 y
theorem own_set3 {w : World} {base : Nat} {e : TypeId} {size : Nat} {v : Value} {n : Nat} {xs : List Value} {g : Nat} {t : TypeId} {a b c x y z : Value} (h : w.ownsRow base e size v n xs) (hg : Blk w g t #[a, b, c]) (hne : e ≠ t) :
    (((w.setCell ⟨g, 0, none⟩ x).setCell ⟨g, 1, none⟩ y).setCell ⟨g, 2, none⟩ z).ownsRow base e size v n xs :=
  own_far (own_far (own_far h hg hne 0 x) (hg.set 0 x) hne 1 y) ((hg.set 0 x).set 1 y) hne 2 z


/-- The block of a slice value lies below 'B'. -/
def VBelow (B : Nat) (v : Value) : Prop := ∀ a n c, v = .slice (some a) n c → a.block < B
theorem own_below2 {w w' : World} {base B : Nat} {e : TypeId} {size : Nat} {v : Value} {n : Nat} {xs : List Value} (h : w.ownsRow base e size v n xs) (hb : Below B w w') (hB : VBelow B v) : w'.ownsRow base e size v n xs := by
  obtain ⟨h1, h2⟩ := h
  refine ⟨h1, ?_⟩
  rcases h2 with h2 | ⟨g, cap, cur, hv, hg, hh, r⟩
  · exact .inl h2
  · exact .inr ⟨g, cap, cur, hv, hg, (hb.block g (hB _ _ _ hv)).trans hh, r⟩
theorem own_vbelow {w : World} {base : Nat} {e : TypeId} {size : Nat} {v : Value} {n : Nat} {xs : List Value} (h : w.ownsRow base e size v n xs) : VBelow w.heap.size v := by
  intro a n' c hv
  rcases h.2 with ⟨h1, _⟩ | ⟨g, cap, cur, h1, _, hh, _⟩
  · rw [h1] at hv; injection hv with hv; cases hv
  · rw [h1] at hv
    injection hv with hv
    injection hv with hv
    subst hv
    exact Blk.lt (t := e) (cs := cur) hh



/-- Only block 'g' has turned. -/
structure Only (g : Nat) (w w' : World) : Prop where
  os : w'.os = w.os
  tape : w'.tape = w.tape
  output : w'.output = w.output
  size : w'.heap.size = w.heap.size
  block : ∀ k, k ≠ g → w'.heap[k]? = w.heap[k]?
theorem Only.below {g B : Nat} {w w' : World} (h : Only g w w') (hB : B ≤ g) : Below B w w' := ⟨h.os, h.tape, h.output, Nat.le_of_eq h.size.symm, fun k hk => h.block k (by omega)⟩


/-! ### numbers, bits, and bools -/
def ivc (z : Int) : List Value := [.int .i64 z]
def bvc (b : Bool) : List Value := [.bool b]
def btc (x : Bit) : List Value := [.int .i64 x.at_, .bool x.b]
/-- A bit, by value. -/
abbrev btV (x : Bit) : Value := .agg #[.int .i64 x.at_, .bool x.b]
abbrev Is (lo hi : Nat) (w : World) (v : Value) (l : List Int) : Prop := Rd 1 ivc lo hi w v l
abbrev Bos (lo hi : Nat) (w : World) (v : Value) (l : List Bool) : Prop := Rd 1 bvc lo hi w v l
abbrev Bts (lo hi : Nat) (w : World) (v : Value) (l : List Bit) : Prop := Rd 2 btc lo hi w v l
theorem ivc_len : ∀ x, (ivc x).length = 1 := fun _ => rfl
theorem bvc_len : ∀ x, (bvc x).length = 1 := fun _ => rfl
theorem btc_len : ∀ x, (btc x).length = 2 := fun _ => rfl
theorem ivc_one : ∀ x, ∀ u ∈ ivc x, u.oneCell' = true := by intro x u h; simp [ivc] at h; subst h; rfl
theorem btc_one : ∀ x, ∀ u ∈ btc x, u.oneCell' = true := by intro x u h; simp [btc] at h; rcases h with rfl | rfl <;> rfl
theorem Rd.open1 {α : Type} {f : α → List Value} {lo hi : Nat} {w : World} {v : Value} {l : List α} (h : Rd 1 f lo hi w v l) : ∃ A c, v = .slice A l.length c ∧ l.length ≤ c ∧ c ≤ 9223372036854775807 ∧
    ∀ i (hi' : i < l.length), ∃ b off, A = some ⟨b, off, none⟩ ∧ lo ≤ b ∧ b < hi ∧ ∀ u, (f l[i])[0]? = some u → w.cell? ⟨b, off + i, none⟩ = some u := by
  obtain ⟨A, c, rfl, h1, h2, h3⟩ := h
  refine ⟨A, c, rfl, h1, h2, fun i hi => ?_⟩
  obtain ⟨b, off, rfl, g1, g2, g3⟩ := h3 (by omega)
  exact ⟨b, off, rfl, g1, g2, fun u hu => by simpa using g3 i hi 0 u hu⟩
theorem Is.open {lo hi : Nat} {w : World} {v : Value} {l : List Int} (h : Is lo hi w v l) : ∃ A c, v = .slice A l.length c ∧ l.length ≤ c ∧ c ≤ 9223372036854775807 ∧
    ∀ i (hi' : i < l.length), ∃ b off, A = some ⟨b, off, none⟩ ∧ lo ≤ b ∧ b < hi ∧ w.cell? ⟨b, off + i, none⟩ = some (.int .i64 l[i]) := by
  obtain ⟨A, c, e, h1, h2, h3⟩ := h.open1
  exact ⟨A, c, e, h1, h2, fun i hi => by obtain ⟨b, off, e, g1, g2, g3⟩ := h3 i hi; exact ⟨b, off, e, g1, g2, g3 _ rfl⟩⟩
theorem Bos.open {lo hi : Nat} {w : World} {v : Value} {l : List Bool} (h : Bos lo hi w v l) : ∃ A c, v = .slice A l.length c ∧ l.length ≤ c ∧ c ≤ 9223372036854775807 ∧
    ∀ i (hi' : i < l.length), ∃ b off, A = some ⟨b, off, none⟩ ∧ lo ≤ b ∧ b < hi ∧ w.cell? ⟨b, off + i, none⟩ = some (.bool l[i]) := by
  obtain ⟨A, c, e, h1, h2, h3⟩ := h.open1
  exact ⟨A, c, e, h1, h2, fun i hi => by obtain ⟨b, off, e, g1, g2, g3⟩ := h3 i hi; exact ⟨b, off, e, g1, g2, g3 _ rfl⟩⟩
theorem Bts.open {lo hi : Nat} {w : World} {v : Value} {l : List Bit} (h : Bts lo hi w v l) : ∃ A c, v = .slice A l.length c ∧ l.length ≤ c ∧ c ≤ 9223372036854775807 ∧
    ∀ i (hi' : i < l.length), ∃ b off, A = some ⟨b, off, none⟩ ∧ lo ≤ b ∧ b < hi ∧ w.cell? ⟨b, off + i * 2, none⟩ = some (.int .i64 l[i].at_) ∧ w.cell? ⟨b, off + i * 2 + 1, none⟩ = some (.bool l[i].b) := by
  obtain ⟨A, c, rfl, h1, h2, h3⟩ := h
  refine ⟨A, c, rfl, h1, h2, fun i hi => ?_⟩
  obtain ⟨b, off, rfl, g1, g2, g3⟩ := h3 (by omega)
  exact ⟨b, off, rfl, g1, g2, by simpa using g3 i hi 0 _ rfl, by simpa using g3 i hi 1 _ rfl⟩
theorem Is.of_blk {w : World} {g c : Nat} {l : List Int} (h : Blk w g 3 (l.flatMap ivc).toArray) (hc : c = l.length) (hl : l.length ≤ 9223372036854775807) (n : Nat) (hn : n = l.length) : Is 0 w.heap.size w (.slice (some ⟨g, 0, none⟩) n c) l := by
  subst hc hn
  refine ⟨_, _, rfl, Nat.le_refl _, hl, fun _ => ⟨g, 0, rfl, Nat.zero_le _, h.lt, fun i hi j u hu => ?_⟩⟩
  have hj : j < 1 := (List.getElem?_eq_some_iff.1 hu).1
  rw [h.cell, Nat.zero_add]
  have := flat_get ivc_len l i hi j hj
  simp at this ⊢
  rw [this, hu]
theorem own_fresh (w : World) (base g : Nat) (e : TypeId) (size c : Nat) (cs : Array Value) (hg : g = w.heap.size) (hb : base ≤ w.heap.size) (hc : c ≤ maxLen) (hs : cs.size = c * size) :
    (w.alloc (.cells cs e)).ownsRow base e size (.slice (some ⟨g, 0, none⟩) 0 c) 0 [] := by
  subst hg
  exact ⟨by simp, .inr ⟨w.heap.size, c, cs, rfl, hb, heap_alloc_new w _, Nat.zero_le _, hc, hs, by simp⟩⟩
theorem own_drew {w : World} {base : Nat} {e : TypeId} {size : Nat} {v : Value} {n : Nat} {xs : List Value} (h : w.ownsRow base e size v n xs) : w.drew.ownsRow base e size v n xs := h
theorem own_base {w : World} {base : Nat} {e : TypeId} {size : Nat} {v : Value} {n : Nat} {xs : List Value} (h : w.ownsRow base e size v n xs) : ∀ k, v.ownBlock = some k → base ≤ k := by
  intro k hk
  rcases h.2 with ⟨rfl, _⟩ | ⟨g, cap, cur, rfl, hb, _⟩
  · simp [Value.ownBlock] at hk
  · simp [Value.ownBlock] at hk; omega
theorem info3 : (Tryd.prog.info? 3).map (fun i => (i.zero, i.size, i.bytes)) = some (some (.int .i64 0), 1, 8) := by kernel_rfl
theorem info51 : (Tryd.prog.info? 104).map (fun i => (i.zero, i.size, i.bytes)) = some (some (.agg #[.int .i64 0, .bool false]), 2, 16) := by kernel_rfl
end Go.Proofs.YthkccpemgmpadaaDoor.P

namespace Go.Proofs.YthkccpemgmpadaaDoor.P
set_option maxRecDepth 100000
open Go.RowKit

theorem Blk.only {g g' : Nat} {t : TypeId} {cs : Array Value} {w w' : World} (h : Blk w g' t cs) (ho : Only g w w') (hne : g' ≠ g) : Blk w' g' t cs := (ho.block g' hne).trans h
theorem own_only {w w' : World} {base : Nat} {e : TypeId} {size : Nat} {v : Value} {n : Nat} {xs : List Value} {g : Nat} (h : w.ownsRow base e size v n xs) (ho : Only g w w') (hne : VBelow g v) : w'.ownsRow base e size v n xs := by
  obtain ⟨h1, h2⟩ := h
  refine ⟨h1, ?_⟩
  rcases h2 with h2 | ⟨g', cap, cur, hv, hg, hh, r⟩
  · exact .inl h2
  · have := hne _ _ _ hv
    exact .inr ⟨g', cap, cur, hv, hg, (ho.block g' (by simp at this; omega)).trans hh, r⟩

/-- copy of things of 'k' cells each into a row that is known whole; nil and empty let in. -/
theorem run_copyN {P : Program} (w : World) (dT sT ty elem : TypeId) (k : Nat) (hu : P.underlying dT = some (.slice elem)) (hsz : (P.info? elem).map (·.size) = some k)
    (dp sp : Option Addr) (dLen dCap sLen sCap : Nat) (g off : Nat) (cur : List Value) (t : TypeId) (hg : Blk w g t cur.toArray) (cs : List Value) (m : Nat) (hm : m = Nat.min sLen dLen) (hn : cs.length = m * k)
    (hpos : 0 < cs.length → dp = some ⟨g, off, none⟩ ∧ SrcOk w sp cs.length cs) (hfit : off + cs.length ≤ cur.length) (h1 : ∀ v ∈ cs, v.oneCell' = true) :
    ∃ w', (Builtin.copy_ #[dT, sT] ty #[.slice dp dLen dCap, .slice sp sLen sCap]).run P w = .ok (goInt m) w' ∧ Blk w' g t (splice cur off cs).toArray ∧ Only g w w' := by
  cases hq : P.info? elem with
  | none => simp [hq] at hsz
  | some i =>
    have hi : i.size = k := by simpa [hq] using hsz
    by_cases h0 : cs.length = 0
    · obtain rfl : cs = [] := List.eq_nil_of_length_eq_zero h0
      have hl : ∀ (x : Addr), (loadCells x 0).run P w = .ok #[] w := fun x => by simpa using run_loadCells_list (P := P) w x [] (by simp)
      have hmk : m * k = 0 := by simpa using hn.symm
      refine ⟨w, ?_, by simpa [splice] using hg, ⟨rfl, rfl, rfl, rfl, fun _ _ => rfl⟩⟩
      cases dp <;> cases sp <;> simp [Builtin.copy_, run_underlying hu, Builtin.lenOf, Builtin.firstCells, sizeOf, typeInfo, hq, hi, ← hm, hmk, storeCells, hl]
    · obtain ⟨rfl, hs⟩ := hpos (by omega)
      obtain ⟨ad, rfl, hsrc⟩ := hs (by omega)
      have hl := run_loadCells_list (P := P) w ad cs hsrc
      have hst := run_storeCells_at P g off t cs 0 cur.toArray w hg (by simpa using hfit) h1
      refine ⟨w.setRow g (cur.take off ++ cs ++ cur.drop (off + cs.length)).toArray, ?_, ?_, ?_⟩
      · simp [Builtin.copy_, run_underlying hu, Builtin.lenOf, Builtin.firstCells, sizeOf, typeInfo, hq, hi, ← hm, ← hn, hl, hst]
      · have := setRow_heap w g _ (splice cur off cs).toArray t _ hg
        simpa [Blk, splice] using this
      · exact ⟨rfl, rfl, rfl, by simp [World.setRow], fun j hj => setRow_other w g j _ hj⟩

theorem step_copyN {P : Program} {ops : Array Oper} {o : Oper} {a : Act} {w : World} {K : Act → World → Prop} {Q : Exit → Act → World → Prop} {E : Prop} (hgd : o.guard = none) (d s : Operand) (dT sT : TypeId)
    (ho : o.op = .call { callee := .builtin .copy, args := #[d, s], argTypes := #[dT, sT] }) (elem : TypeId) (k : Nat) (hu : P.underlying dT = some (.slice elem)) (hsz : (P.info? elem).map (·.size) = some k)
    (dp sp : Option Addr) (dLen dCap sLen sCap : Nat) (hd : a.eval d = .slice dp dLen dCap) (hs : a.eval s = .slice sp sLen sCap)
    (g off : Nat) (cur : List Value) (t : TypeId) (hg : Blk w g t cur.toArray) (cs : List Value) (m : Nat) (hm : m = Nat.min sLen dLen) (hn : cs.length = m * k)
    (hpos : 0 < cs.length → dp = some ⟨g, off, none⟩ ∧ SrcOk w sp cs.length cs) (hfit : off + cs.length ≤ cur.length) (h1 : ∀ v ∈ cs, v.oneCell' = true)
    (h : ∀ w', Hid (Blk w' g t (splice cur off cs).toArray) → Only g w w' → K (a.put o.dst (goInt m)) w') :
    if Region.wanted o (yielded ops a.tmps) = true then Oper.wp P o a w K Q else E := by
  have hw : Region.wanted o (yielded ops a.tmps) = true := by simp [Region.wanted, hgd]
  rw [if_pos hw]
  obtain ⟨w', hrun, hb, ho'⟩ := run_copyN (P := P) w dT sT o.type elem k hu hsz dp sp dLen dCap sLen sCap g off cur t hg cs m hm hn hpos hfit h1
  unfold Oper.wp
  simp [execOp, ho, resolve, invoke, builtin, hd, hs, hrun, Result.andThen]
  exact h _ hb ho'

theorem wpList_copyN {P : Program} {ops : Array Oper} {rest : List Oper} {o : Oper} {a : Act} {w : World} {Q : Exit → Act → World → Prop} (hgd : o.guard = none) (d s : Operand) (dT sT : TypeId)
    (ho : o.op = .call { callee := .builtin .copy, args := #[d, s], argTypes := #[dT, sT] }) (elem : TypeId) (k : Nat) (hu : P.underlying dT = some (.slice elem)) (hsz : (P.info? elem).map (·.size) = some k)
    (dp sp : Option Addr) (dLen dCap sLen sCap : Nat) (hd : a.eval d = .slice dp dLen dCap) (hs : a.eval s = .slice sp sLen sCap)
    (g off : Nat) (cur : List Value) (t : TypeId) (hg : Blk w g t cur.toArray) (cs : List Value) (m : Nat) (hm : m = Nat.min sLen dLen) (hn : cs.length = m * k)
    (hpos : 0 < cs.length → dp = some ⟨g, off, none⟩ ∧ SrcOk w sp cs.length cs) (hfit : off + cs.length ≤ cur.length) (h1 : ∀ v ∈ cs, v.oneCell' = true)
    (h : ∀ w', Hid (Blk w' g t (splice cur off cs).toArray) → Only g w w' → wpList P ops Q rest (a.put o.dst (goInt m)) w') : wpList P ops Q (o :: rest) a w := by
  refine wpList_plain hgd fun K hK => ?_
  have h2 := step_copyN (P := P) (ops := ops) (o := o) (a := a) (w := w) (K := K) (Q := Q) (E := False) hgd d s dT sT ho elem k hu hsz dp sp dLen dCap sLen sCap hd hs g off cur t hg cs m hm hn hpos hfit h1 (fun w' a1 a2 => hK _ _ (h w' a1 a2))
  have hw : Region.wanted o (yielded ops a.tmps) = true := by simp [Region.wanted, hgd]
  rw [if_pos hw] at h2
  exact h2

/-- The cells of a block from a place on, as an append or a copy asks for them. -/
theorem SrcOk.blk {w : World} {g off m : Nat} {t : TypeId} {cur : List Value} {cs : List Value} (hg : Blk w g t cur.toArray) (h : ∀ j u, cs[j]? = some u → cur[off + j]? = some u) : SrcOk w (some ⟨g, off, none⟩) m cs := fun _ => by
  refine ⟨_, rfl, fun j u hu => ?_⟩
  have := h j u hu
  have hc := (hg.cell (off + j)).trans (by simpa using this)
  unfold Addr.add
  split
  · rename_i h0; subst h0; simpa using hc
  · exact hc

end Go.Proofs.YthkccpemgmpadaaDoor.P

namespace Go.Proofs.YthkccpemgmpadaaDoor.P
set_option maxRecDepth 100000
open Go.RowKit

theorem ret_ii {v v' : Value} {k : IntKind} {a b a' b' : Int} (h : v = .int k a) (h' : v' = .int .i64 b) (e : a = a') (e' : b = b') : Ending.returned (.tuple #[v, v']) = .returned (.tuple #[.int k a', .int .i64 b']) := by rw [h, h', e, e']
/-- OK or ErrArg. -/
def badE (b : Bool) : Int := if b then 0 else 1
theorem badE_t : badE true = 0 := rfl
theorem badE_f : badE false = 1 := rfl

set_option maxHeartbeats 400000 in
theorem isC_any (p : Int) (w : World) : Calls Tryd.prog 89 #[.int .i64 p] w fun e w' => e = .returned (.bool (isC p)) ∧ w = w' := by
  go_enter Tryd.func89, Tryd.ntmps89
  go_wp2
  all_goals go_ret
  all_goals exact ⟨ret_b rfl (by rw [Bool.eq_iff_iff]; simp only [isC_iff, decide_eq_true_eq, Bool.false_eq_true, false_iff] at *; omega), rfl⟩

set_option maxHeartbeats 400000 in
theorem behind_any (p : Int) (b : Bool) (w : World) (h : isC p = true) : Calls Tryd.prog 90 #[.int .i64 p, .bool b] w fun e w' => e = .returned (.int .i64 (lrn p b)) ∧ w = w' := by
  rw [isC_iff] at h
  obtain ⟨h1, h2⟩ := h
  have i1 : IntKind.i64.wrap (2048 - p) = 2048 - p := IntWalk.i64_in _ (by omega)
  have i2 : IntKind.i64.wrap (p - p / 32) = p - p / 32 := IntWalk.i64_in _ (by omega)
  have i3 : IntKind.i64.wrap (p + (2048 - p) / 32) = p + (2048 - p) / 32 := IntWalk.i64_in _ (by omega)
  cases b
  · go_enter Tryd.func90, Tryd.ntmps90
    go_wp2
    all_goals go_ret
    all_goals exact ⟨ret_i rfl (by simp [lrn]), rfl⟩
  · go_enter Tryd.func90, Tryd.ntmps90
    go_wp2
    all_goals go_ret
    all_goals exact ⟨ret_i rfl (by simp [lrn]), rfl⟩

/-- What Learn answers. -/
def lrnR (p : Int) (b : Bool) : Int := if isC p then lrn p b else 0

set_option maxHeartbeats 400000 in
theorem Learn_any (p : Int) (b : Bool) (w : World) : Calls Tryd.prog 85 #[.int .i64 p, .bool b] w fun e w' => e = .returned (.tuple #[.int .i64 (lrnR p b), .int .i64 (badE (isC p))]) ∧ w = w' := by
  have hi := fun W => isC_any p W
  have hl := fun W (h : isC p = true) => behind_any p b W h
  replace hi := hide hi; replace hl := hide hl
  cases hc : isC p
  · go_enter Tryd.func85, Tryd.ntmps85
    go_wp2_with (go_at_call 89; refine (unhide hi _).mono ?_; rintro e w1 ⟨rfl, rfl⟩; rw [hc])
    all_goals go_ret2
    all_goals exact ⟨ret_ii rfl rfl (by simp [lrnR, hc]) (by simp [badE]), rfl⟩
  · go_enter Tryd.func85, Tryd.ntmps85
    go_wp2_with (first
      | (go_at_call 89; refine (unhide hi _).mono ?_; rintro e w1 ⟨rfl, rfl⟩; rw [hc])
      | (go_at_call 90; refine (unhide hl _ hc).mono ?_; rintro e w1 ⟨rfl, rfl⟩))
    all_goals go_ret2
    all_goals exact ⟨ret_ii rfl rfl (by simp [lrnR, hc]) (by simp [badE]), rfl⟩

end Go.Proofs.YthkccpemgmpadaaDoor.P

namespace Go.Proofs.YthkccpemgmpadaaDoor.P
set_option maxRecDepth 100000
open Go.RowKit

/-- What Split answers. -/
def splR (s p : Int) : Int := if 16777216 ≤ s ∧ isC p = true then s / 2048 * p else 0
def splE (s p : Int) : Int := if 16777216 ≤ s ∧ isC p = true then 0 else 1

set_option maxHeartbeats 1000000 in
theorem Split_any (s p : Int) (w : World) (hs : 0 ≤ s ∧ s < 4294967296) : Calls Tryd.prog 84 #[.int .u32 s, .int .i64 p] w fun e w' => e = .returned (.tuple #[.int .u32 (splR s p), .int .i64 (splE s p)]) ∧ w = w' := by
  have hi := fun W => isC_any p W
  replace hi := hide hi
  obtain ⟨s0, s1⟩ := hs
  by_cases hsp : 16777216 ≤ s
  · cases hp : isC p
    · have e1 : splR s p = 0 := by simp [splR, hp]
      have e2 : splE s p = 1 := by simp [splE, hp]
      rw [e1, e2]
      clear e1 e2
      go_enter Tryd.func84, Tryd.ntmps84
      go_wp2_with (go_at_call 89; refine (unhide hi _).mono ?_; rintro e w1 ⟨rfl, rfl⟩; rw [hp])
      all_goals go_ret2
      all_goals exact ⟨rfl, rfl⟩
    · have e1 : splR s p = s / 2048 * p := by simp [splR, hp, hsp]
      have e2 : splE s p = 0 := by simp [splE, hp, hsp]
      rw [e1, e2]
      clear e1 e2
      obtain ⟨p0, p1⟩ := isC_iff.1 hp
      have m1 : 0 ≤ s / 2048 * p := Int.mul_nonneg (by omega) (by omega)
      have m2 : s / 2048 * p ≤ 2097151 * 2017 := Int.mul_le_mul (by omega) p1 (by omega) (by omega)
      have i1 : IntKind.u32.wrap p = p := IntWalk.u32_in _ (by omega)
      have i2 : IntKind.u32.wrap (s / 2048 * p) = s / 2048 * p := IntWalk.u32_in _ (by omega)
      have i3 : s.tdiv 2048 = s / 2048 := Int.tdiv_eq_ediv_of_nonneg (by omega)
      go_enter Tryd.func84, Tryd.ntmps84
      go_wp2_with (go_at_call 89; refine (unhide hi _).mono ?_; rintro e w1 ⟨rfl, rfl⟩; rw [hp])
      all_goals go_ret2
      all_goals exact ⟨rfl, rfl⟩
  · have e1 : splR s p = 0 := by simp [splR, hsp]
    have e2 : splE s p = 1 := by simp [splE, hsp]
    rw [e1, e2]
    clear e1 e2
    go_enter Tryd.func84, Tryd.ntmps84
    go_wp2
    all_goals go_ret2
    all_goals exact ⟨rfl, rfl⟩
end Go.Proofs.YthkccpemgmpadaaDoor.P

namespace Go.Proofs.YthkccpemgmpadaaDoor.P
set_option maxRecDepth 100000
open Go.RowKit

set_option maxHeartbeats 1000000 in
theorem Mul64_one (n : Nat) (hn : n ≤ 1024) (w : World) : Calls Tryd.prog 93 #[.int .u64 1, .int .u64 n] w fun e w' => e = .returned (.tuple #[.int .u64 0, .int .u64 n]) ∧ w = w' := by
  have e0 : bits .and .u64 1 4294967295 = 1 := and_low32 1 (by omega) (by omega)
  have e1 : bits .and .u64 (n : Int) 4294967295 = n := (and_low32 n (by omega) (by omega)).trans (by omega)
  have e2 : (n : Int) / 4294967296 = 0 := by omega
  have e3 : IntKind.u64.wrap (n : Int) = n := by rw [IntKind.wrap_u64]; omega
  have e5 : bits .and .u64 0 4294967295 = 0 := and_low32 0 (by omega) (by omega)
  go_enter Tryd.func93, Tryd.ntmps93
  go_wp2
  go_ret2
  exact ⟨rfl, rfl⟩

set_option maxHeartbeats 1000000 in
theorem Mul_one (n : Nat) (hn : n ≤ 1024) (w : World) : Calls Tryd.prog 88 #[.int .u64 1, .int .u64 n] w fun e w' => e = .returned (.tuple #[.int .u64 0, .int .u64 n]) ∧ w = w' := by
  have h := fun W => Mul64_one n hn W
  replace h := hide h
  go_enter Tryd.func88, Tryd.ntmps88
  go_wp2_with (go_at_call 93; refine (unhide h _).mono ?_; rintro e w1 ⟨rfl, rfl⟩)
  go_ret2
  exact ⟨rfl, rfl⟩
end Go.Proofs.YthkccpemgmpadaaDoor.P

namespace Go.Proofs.YthkccpemgmpadaaDoor.P
set_option maxRecDepth 100000
open Go.RowKit

theorem elem22 : Tryd.prog.underlying 97 = some (.slice (Tryd.prog.elem 97)) := by kernel_rfl
theorem size3 : ∀ W, (sizeOf (Tryd.prog.elem 97)).run Tryd.prog W = .ok 1 W := fun W => by kernel_rfl
theorem slice_h22 (A : Option Addr) (n c j : Nat) (hj : j ≤ c) (W : World) :
    (Instr.slice 97 (.slice A n c) none (some (.int .i64 (j : Int))) none).run Tryd.prog W = .ok (sliced A 0 j c 1) W := by
  rw [run_slice_h (P := Tryd.prog) W 97 A n c elem22 .i64 j (by omega) (by omega), size3]
  simp [Result.andThen]
theorem slice_l22 (A : Option Addr) (n c i : Nat) (hi : i ≤ n) (W : World) :
    (Instr.slice 97 (.slice A n c) (some (.int .i64 (i : Int))) none none).run Tryd.prog W = .ok (sliced A i n c 1) W := by
  rw [run_slice_l (P := Tryd.prog) W 97 A n c elem22 .i64 i (by omega) (by omega), size3]
  simp [Result.andThen]

/-- The first 'k' of 'n' cells are laid. -/
def rep (n k : Nat) : List Value := List.replicate k (.int .i64 1024) ++ List.replicate (n - k) (.int .i64 0)
theorem rep_len {n k : Nat} (h : k ≤ n) : (rep n k).length = n := by simp [rep]; omega
theorem rep_splice {n k m : Nat} (h : k + m ≤ n) : splice (rep n k) k (List.replicate m (.int .i64 1024)) = rep n (k + m) := by
  unfold splice rep
  rw [List.take_left' (by simp), List.length_replicate, List.drop_append, List.drop_eq_nil_of_le (by simp), List.drop_replicate, List.length_replicate, List.nil_append, ← List.append_assoc, List.replicate_append_replicate, show n - k - (k + m - k) = n - (k + m) by omega]
theorem rep_get {n k i : Nat} (h : i < k) : (rep n k)[i]? = some (.int .i64 1024) := by
  unfold rep
  rw [List.getElem?_append_left (by simpa using h)]
  simp [h]
theorem info3' : ∃ i, Tryd.prog.info? 3 = some i ∧ i.zero = some (.int .i64 0) ∧ i.size = 1 ∧ i.bytes = 8 := info_parts info3
theorem made_rep (n : Nat) : madeCells (Value.int .i64 0).cells (n * 1) = (rep n 0).toArray := by
  have hz : (madeCells (Value.int .i64 0).cells (n * 1)).toList = List.replicate (n * 1) (.int .i64 0) := toList_madeCells_one _ _
  rw [← Array.toArray_toList (xs := madeCells (Value.int .i64 0).cells (n * 1)), hz]
  simp [rep]
theorem addk (g k : Nat) : (⟨g, 0, none⟩ : Addr).add k = ⟨g, k, none⟩ := by
  unfold Addr.add
  split
  · rename_i h; subst h; rfl
  · simp
set_option maxHeartbeats 1000000 in
theorem repeat_any (n : Nat) (hn : n ≤ 1024) (g0 : Nat) (w : World) (hg : Blk w g0 3 #[.int .i64 1024]) :
    Calls Tryd.prog 83 #[.slice (some ⟨g0, 0, none⟩) 1 1, .int .i64 n] w fun e w' => ∃ g, e = .returned (.slice (some ⟨g, 0, none⟩) n n) ∧ Blk w' g 3 (rep n n).toArray ∧ w.heap.size ≤ g ∧ Below w.heap.size w w' := by
  obtain ⟨i0, hi0, hz0, hz1, hz2⟩ := info3'
  have hmk := run_mk (P := Tryd.prog) 97 3 i0 _ 1 Tryd.underlying97 hi0 hz0 hz1 n (by rw [hz2]; omega) (by omega)
  rw [made_rep] at hmk
  have hM := fun W => Mul_one n hn W
  have e1 : IntKind.u64.wrap (n : Int) = n := by rw [IntKind.wrap_u64]; omega
  have e2 : IntKind.i64.wrap (n : Int) = n := IntWalk.i64_in _ (by omega)
  have k0 : ¬ (n : Int) < 0 := by omega
  replace hmk := hide hmk; replace hM := hide hM
  obtain ⟨m0, hm0⟩ : ∃ m0, m0 = Nat.min 1 n := ⟨_, rfl⟩
  have f0 : (rep n 0).length = n := rep_len (by omega)
  have f1 : (List.replicate m0 (Value.int .i64 1024)).length = m0 * 1 := by simp
  have f2 : SrcOk w (some ⟨g0, 0, none⟩) m0 (List.replicate m0 (.int .i64 1024)) := SrcOk.blk (cur := [.int .i64 1024]) hg fun j u hu => by
    have hj : j < m0 := by simpa using (List.getElem?_eq_some_iff.1 hu).1
    have hm1 : m0 ≤ 1 := by rw [hm0]; exact Nat.min_le_left _ _
    obtain rfl : j = 0 := by omega
    simp [List.getElem?_replicate] at hu
    simpa using hu.2
  have f3 : 0 + (List.replicate m0 (Value.int .i64 1024)).length ≤ (rep n 0).length := by
    have : m0 ≤ n := by rw [hm0]; exact Nat.min_le_right _ _
    simp [f0]; omega
  have f4 : ∀ k, ∀ v ∈ List.replicate k (Value.int .i64 1024), v.oneCell' = true := fun k v hv => by rw [(List.mem_replicate.1 hv).2]; rfl
  have f5 := rep_splice (n := n) (k := 0) (m := m0) (by have : m0 ≤ n := (by rw [hm0]; exact Nat.min_le_right _ _); omega)
  have m01 : m0 ≤ n := by rw [hm0]; exact Nat.min_le_right _ _
  have m02 : n ≠ 0 → m0 = 1 := fun h => by rw [hm0]; exact Nat.min_eq_left (by omega)
  rw [Nat.zero_add] at f5
  have hl := hg.lt
  have f6 : SrcOk (w.alloc (.cells (rep n 0).toArray 3)) (some ⟨g0, 0, none⟩) (List.replicate m0 (Value.int .i64 1024)).length (List.replicate m0 (.int .i64 1024)) := by
    rw [List.length_replicate]; exact f2.below ((Below.refl _ _).alloc (Nat.le_refl _) _)
  replace f6 := hide f6; replace f0 := hide f0; replace f1 := hide f1; replace f2 := hide f2; replace f3 := hide f3; replace f4 := hide f4; replace f5 := hide f5; replace hm0 := hide hm0; replace m02 := hide m02
  go_enter Tryd.func83, Tryd.ntmps83
  go_wp2_with (first
    | (go_at_call 88; refine (unhide hM _).mono ?_; rintro e w1 ⟨rfl, rfl⟩; have hmk' := unhide hmk)
    | (refine wpList_copyN rfl (.tmp 31) (.tmp 32) 97 97 rfl 3 1 Tryd.underlying97 (by kernel_rfl) _ _ _ _ _ _ rfl rfl w.heap.size 0 (rep n 0) 3 (Blk.new rfl) (List.replicate m0 (.int .i64 1024)) m0 (unhide hm0) (unhide f1) (fun _ => ⟨rfl, unhide f6⟩) (unhide f3) (unhide f4 _) ?_
       clear hmk'
       intro w3 B3 O3
       rw [unhide f5] at B3)
    | fail)
  have hB3 : Below w.heap.size w w3 := ((Below.refl w.heap.size w).alloc (Nat.le_refl _) _).trans (O3.below (Nat.le_refl _))
  replace hB3 := hide hB3
  clear O3
  obtain ⟨g, hgg⟩ : ∃ g, g = w.heap.size := ⟨_, rfl⟩
  rw [← hgg] at B3
  have hge : w.heap.size ≤ g := by omega
  clear f2 hM hg
  rw [← hgg]
  replace hgg := hide hgg
  go_loopw [8] (fun i wr => ∃ (k : Nat), k ≤ n ∧ (n ≠ 0 → 0 < k) ∧ i = .int .i64 k ∧ Hid (Blk wr g 3 (rep n k).toArray) ∧ Hid (Below w.heap.size w wr)) (fun i _ => n - (intOf i).toNat)
  case atStart => exact ⟨m0, m01, fun h => by have := unhide m02 h; omega, rfl, B3, hB3⟩
  case round =>
    obtain ⟨k, hk, hk1, rfl, hB, hb⟩ := hrel
    by_cases hlt : k < n
    · have s1 := slice_l22 (some ⟨g, 0, none⟩) n n k (by omega)
      have s2 := slice_h22 (some ⟨g, 0, none⟩) n n k (by omega)
      unfold sliced at s1 s2
      rw [if_neg (by omega)] at s1 s2
      simp only [Option.map_some, Nat.mul_one, addk, Nat.sub_zero] at s1 s2
      obtain ⟨m, hm⟩ : ∃ m, m = Nat.min k (n - k) := ⟨_, rfl⟩
      have mk1 : m ≤ k := by rw [hm]; exact Nat.min_le_left _ _
      have mk2 : m ≤ n - k := by rw [hm]; exact Nat.min_le_right _ _
      have mk3 : 0 < m := by
        rw [hm]
        exact Nat.lt_min.2 ⟨hk1 (by omega), by omega⟩
      have x1 : (List.replicate m (Value.int .i64 1024)).length = m * 1 := by simp
      have x2 : SrcOk wr (some ⟨g, 0, none⟩) m (List.replicate m (.int .i64 1024)) := SrcOk.blk (cur := rep n k) (unhide hB) fun j u hu => by
        have hj : j < m := by simpa using (List.getElem?_eq_some_iff.1 hu).1
        rw [Nat.zero_add, rep_get (by omega), ← hu]
        simp [hj]
      have x3 : k + (List.replicate m (Value.int .i64 1024)).length ≤ (rep n k).length := by rw [rep_len hk]; simp; omega
      have x4 := rep_splice (n := n) (k := k) (m := m) (by omega)
      have i1 : IntKind.i64.wrap ((k : Int) + (m : Int)) = ((k + m : Nat) : Int) := by rw [← Int.natCast_add]; exact IntWalk.i64_in _ (by omega)
      replace x1 := hide x1; replace x2 := hide x2; replace x3 := hide x3; replace x4 := hide x4; replace hm := hide hm
      clear hk1 m01
      go_wp2_with fail
      go_region_held3 (fun _ => True) (trivial) (first | (refine step_copyN rfl (.tmp 41) (.tmp 44) 97 97 rfl 3 1 Tryd.underlying97 (by kernel_rfl) _ _ _ _ _ _ rfl rfl g k (rep n k) 3 (Blk.drew (unhide hB)) (List.replicate m (.int .i64 1024)) m (unhide hm) (unhide x1) (fun _ => ⟨rfl, by rw [List.length_replicate]; exact (show SrcOk wr.drew _ _ _ from unhide x2)⟩) (unhide x3) (unhide f4 _) ?_; intro w4 B4 O4))
      have hw4 : Below w.heap.size w w4 := ((unhide hb).drew).trans (O4.below hge)
      rw [unhide x4] at B4
      clear O4 i1
      replace hw4 := hide hw4
      go_wp2_with fail
      go_roundw
      case rel => exact ⟨k + m, by omega, fun _ => by omega, by simp, B4, hw4⟩
      case measure => simp [intOf]; omega
    · obtain rfl : k = n := by omega
      go_wp2_with fail
      go_ret
      exact ⟨g, rfl, unhide hB, hge, unhide hb⟩

theorem rep_flat (n : Nat) : rep n n = (List.replicate n (1024 : Int)).flatMap ivc := by
  unfold rep
  rw [Nat.sub_self, List.replicate_zero, List.append_nil]
  induction n with
  | zero => rfl
  | succ n ih => rw [List.replicate_succ, List.replicate_succ, List.flatMap_cons, ih]; rfl

set_option maxHeartbeats 1000000 in
theorem New_good (n : Nat) (hn : n ≤ 1024) (w : World) :
    Calls Tryd.prog 70 #[.int .i64 n] w fun e w' => ∃ A c, e = .returned (.tuple #[.slice A n c, .int .i64 0]) ∧ Is 0 w'.heap.size w' (.slice A n c) (List.replicate n 1024) ∧ Below w.heap.size w w' := by
  have hR := fun g W hg => repeat_any n hn g W hg
  have k0 : ¬ (n : Int) < 0 := by omega
  have k1 : ¬ (1024 : Int) < (n : Int) := by omega
  replace hR := hide hR
  go_enter Tryd.func70, Tryd.ntmps70
  go_wp2_with (first
    | (go_at_call 83; refine (unhide hR _ _ (Blk.new rfl)).mono ?_; rintro e w1 ⟨g, rfl, hB, hg, hb1⟩; replace hB := hide hB)
    | fail)
  go_ret2
  have hB' := unhide hB
  rw [rep_flat] at hB'
  exact ⟨_, n, rfl, Is.of_blk (l := List.replicate n 1024) hB' (by simp) (by simp; omega) n (by simp), by (repeat (first | with_reducible exact Below.refl _ _ | with_reducible assumption | with_reducible refine Below.drew ?_ | with_reducible refine bl_alloc ?_ _ | with_reducible refine bl_call ?_ (by assumption) | (focus (with_reducible refine Below.setCell ?_ ?_ _; rotate_left; focus (first | omega | (simp <;> omega)))) | fail))⟩

set_option maxHeartbeats 1000000 in
theorem New_bad (n : Int) (hn : newN n = false) (w : World) :
    Calls Tryd.prog 70 #[.int .i64 n] w fun e w' => e = .returned (.tuple #[.slice none 0 0, .int .i64 1]) ∧ Below w.heap.size w w' := by
  by_cases k0 : n < 0
  · clear hn
    go_enter Tryd.func70, Tryd.ntmps70
    go_wp2
    go_ret2
    exact ⟨rfl, by (repeat (first | with_reducible exact Below.refl _ _ | with_reducible assumption | with_reducible refine Below.drew ?_ | with_reducible refine bl_alloc ?_ _ | with_reducible refine bl_call ?_ (by assumption) | (focus (with_reducible refine Below.setCell ?_ ?_ _; rotate_left; focus (first | omega | (simp <;> omega)))) | fail))⟩
  · have k1 : 1024 < n := by simp [newN] at hn; omega
    clear hn
    go_enter Tryd.func70, Tryd.ntmps70
    go_wp2
    go_ret2
    exact ⟨rfl, by (repeat (first | with_reducible exact Below.refl _ _ | with_reducible assumption | with_reducible refine Below.drew ?_ | with_reducible refine bl_alloc ?_ _ | with_reducible refine bl_call ?_ (by assumption) | (focus (with_reducible refine Below.setCell ?_ ?_ _; rotate_left; focus (first | omega | (simp <;> omega)))) | fail))⟩

end Go.Proofs.YthkccpemgmpadaaDoor.P

namespace Go.Proofs.YthkccpemgmpadaaDoor.P
set_option maxRecDepth 100000
open Go.RowKit

set_option maxHeartbeats 400000 in
/-- 'has': is there such a chance? -/
theorem has_any (g n : Nat) (A : Option Addr) (c : Nat) (i : Int) (w : World) (h1 : w.cell? ⟨g, 1, none⟩ = some (.slice A n c)) :
    Calls Tryd.prog 55 #[.pointer (some ⟨g, 0, none⟩), .int .i64 i] w fun e w' => e = .returned (.bool (decide (0 ≤ i) && decide (i < n))) ∧ w = w' := by
  by_cases h0 : 0 ≤ i
  · go_enter Tryd.func55, Tryd.ntmps55
    go_wp2
    go_ret
    exact ⟨ret_b rfl (by rw [Bool.eq_iff_iff]; simp <;> omega), rfl⟩
  · go_enter Tryd.func55, Tryd.ntmps55
    go_wp2
    go_ret
    exact ⟨ret_b rfl (by rw [Bool.eq_iff_iff]; simp; omega), rfl⟩

set_option maxHeartbeats 400000 in
/-- 'left'. -/
theorem left_any (g : Nat) (s p : Int) (b : Bool) (w : World) (h0 : w.cell? ⟨g, 0, none⟩ = some (.int .u32 s)) (hp : 0 ≤ p) (hs : p ≤ s ∧ s < 4294967296) :
    Calls Tryd.prog 74 #[.pointer (some ⟨g, 0, none⟩), .int .u32 p, .bool b] w fun e w' => e = .returned (.int .u32 (if b then s - p else p)) ∧ w = w' := by
  have i1 : IntKind.u32.wrap (s - p) = s - p := IntWalk.u32_in _ (by omega)
  cases b
  · go_enter Tryd.func74, Tryd.ntmps74
    go_wp2
    go_ret
    exact ⟨rfl, rfl⟩
  · go_enter Tryd.func74, Tryd.ntmps74
    go_wp2
    go_ret
    exact ⟨rfl, rfl⟩

set_option maxHeartbeats 400000 in
/-- 'part'. -/
theorem part_any (g gc n cap k : Nat) (s p : Int) (w : World) (h0 : w.cell? ⟨g, 0, none⟩ = some (.int .u32 s)) (h1 : w.cell? ⟨g, 1, none⟩ = some (.slice (some ⟨gc, 0, none⟩) n cap)) (hk : k < n) (hx : w.cell? ⟨gc, k, none⟩ = some (.int .i64 p))
    (hs : 16777216 ≤ s ∧ s < 4294967296) (hp : isC p = true) :
    Calls Tryd.prog 72 #[.pointer (some ⟨g, 0, none⟩), .int .i64 k] w fun e w' => e = .returned (.int .u32 (s / 2048 * p)) ∧ ∃ m, w' = w.drewN m := by
  have hS := fun W => Split_any s p W (by omega)
  have e1 : splR s p = s / 2048 * p := by simp [splR, hp, hs.1]
  have e2 : splE s p = 0 := by simp [splE, hp, hs.1]
  rw [e1, e2] at hS
  replace hS := hide hS
  have hk0 : (0 : Int) ≤ (k : Int) := by omega
  have hk1 : (k : Int) < (n : Int) := by omega
  go_enter Tryd.func72, Tryd.ntmps72
  go_wp2_with fail
  go_quiet ((go_at_call 84; refine Calls.quiet_of_same ((unhide hS _).mono fun e w' h => ⟨h.1, h.2.symm⟩)))
  go_wp2_with fail
  go_ret
  exact ⟨rfl, _, rfl⟩

theorem lrnR_ok {p : Int} (b : Bool) (h : isC p = true) : lrnR p b = lrn p b := by rw [lrnR, if_pos h]
end Go.Proofs.YthkccpemgmpadaaDoor.P

namespace Go.Proofs.YthkccpemgmpadaaDoor.P
set_option maxRecDepth 100000
open Go.RowKit

/-- Only these blocks have turned, and there may be new ones. -/
structure But (S : List Nat) (w w' : World) : Prop where
  os : w'.os = w.os
  tape : w'.tape = w.tape
  output : w'.output = w.output
  size : w.heap.size ≤ w'.heap.size
  block : ∀ k, k < w.heap.size → k ∉ S → w'.heap[k]? = w.heap[k]?
theorem But.refl (S : List Nat) (w : World) : But S w w := ⟨rfl, rfl, rfl, Nat.le_refl _, fun _ _ _ => rfl⟩
theorem But.trans {S : List Nat} {a b c : World} (h : But S a b) (k : But S b c) : But S a c :=
  ⟨k.os.trans h.os, k.tape.trans h.tape, k.output.trans h.output, Nat.le_trans h.size k.size, fun i hi hS => (k.block i (Nat.lt_of_lt_of_le hi h.size) hS).trans (h.block i hi hS)⟩
theorem But.mono {S T : List Nat} {a b : World} (h : But S a b) (hs : ∀ k ∈ S, k ∈ T) : But T a b := ⟨h.os, h.tape, h.output, h.size, fun i hi hT => h.block i hi fun hS => hT (hs i hS)⟩
theorem But.below {S : List Nat} {B : Nat} {a b : World} (h : But S a b) (hs : ∀ k ∈ S, B ≤ k) (hB : B ≤ a.heap.size) : Below B a b := ⟨h.os, h.tape, h.output, h.size, fun k hk => h.block k (by omega) fun hS => by have := hs k hS; omega⟩
theorem But.of_below {S : List Nat} {a b c : World} (h : But S a b) (hb : Below b.heap.size b c) : But S a c :=
  ⟨hb.os.trans h.os, hb.tape.trans h.tape, hb.output.trans h.output, Nat.le_trans h.size hb.size, fun k hk hS => (hb.block k (by have := h.size; omega)).trans (h.block k hk hS)⟩
theorem But.drew {S : List Nat} {a b : World} (h : But S a b) : But S a b.drew := ⟨h.os, h.tape, h.output, h.size, h.block⟩
theorem But.drewN {S : List Nat} {a b : World} (h : But S a b) (n : Nat) : But S a (b.drewN n) := ⟨h.os, h.tape, h.output, h.size, h.block⟩
theorem But.set {S : List Nat} {a b : World} (h : But S a b) {p : Addr} (hp : p.block ∈ S) (u : Value) : But S a (b.setCell p u) := by
  have hb : Below p.block b (b.setCell p u) := Below.setCell (Below.refl _ _) (Nat.le_refl _) u
  exact ⟨hb.os.trans h.os, hb.tape.trans h.tape, hb.output.trans h.output, Nat.le_trans h.size hb.size, fun k hk hS => (Below.heap_setCell b p u k (fun e => hS (e ▸ hp))).trans (h.block k hk hS)⟩
theorem But.alloc {S : List Nat} {a b : World} (h : But S a b) (o : Obj) : But S a (b.alloc o) := h.of_below ((Below.refl _ _).alloc (Nat.le_refl _) o)
theorem Blk.but {w w' : World} {g : Nat} {t : TypeId} {cs : Array Value} {S : List Nat} (h : Blk w g t cs) (hb : But S w w') (hS : g ∉ S) : Blk w' g t cs := (hb.block g h.lt hS).trans h

section
variable {w : World} {base n size : Nat} {e : TypeId} {A : Option Addr} {c : Nat} {xs : List Value}
theorem own_pos (h : w.ownsRow base e size (.slice A n c) n xs) (h0 : 0 < n) : ∃ g cur, A = some ⟨g, 0, none⟩ ∧ base ≤ g ∧ Blk w g e cur := by
  obtain ⟨h1, h2⟩ := h
  rcases h2 with ⟨h2, h3⟩ | ⟨g', cap', cur, hv, hb, hh, r1, r2, r3, r4⟩
  · omega
  · injection hv with e1 _ e3
    exact ⟨g', cur, e1, hb, hh⟩
theorem own_cell {g : Nat} (h : w.ownsRow base e 1 (.slice (some ⟨g, 0, none⟩) n c) n xs) (k : Nat) (hk : k < n) : w.cell? ⟨g, k, none⟩ = xs[k]? :=
  World.ownsRow.cellAt (w := w) (base := base) (e := e) (size := 1) (g := g) (n := n) (cap := c) (xs := xs) h k (by omega)
theorem own_put {g k : Nat} (h : w.ownsRow base e size (.slice (some ⟨g, 0, none⟩) n c) n xs) (u : Value) :
    (w.setCell ⟨g, k, none⟩ u).ownsRow base e size (.slice (some ⟨g, 0, none⟩) n c) n (xs.set k u) := by
  obtain ⟨h1, h2⟩ := h
  refine ⟨by rw [List.length_set]; exact h1, ?_⟩
  rcases h2 with ⟨h2, _⟩ | ⟨g', cap', cur, hv, hb, hh, r1, r2, r3, r4⟩
  · cases h2
  · injection hv with e1 _ e3
    injection e1 with e1
    injection e1 with e1
    subst e1 e3
    refine .inr ⟨g, c, cur.setIfInBounds k u, rfl, hb, heap_setCell_same w g k cur e u hh, r1, r2, by simpa using r3, ?_⟩
    rw [Array.toList_setIfInBounds, List.take_set, r4]
theorem own_len (h : w.ownsRow base e size (.slice A n c) n xs) : n ≤ c ∧ c ≤ 9223372036854775807 := by
  rcases h.2 with ⟨h1, h2⟩ | ⟨g', cap', cur, hv, hb, hh, r1, r2, r3, r4⟩
  · injection h1 with _ h3 h4
    omega
  · injection hv with _ _ h4
    subst h4
    exact ⟨r1, by simpa [maxLen] using r2⟩
theorem own_but {w' : World} {v : Value} {S : List Nat} (h : w.ownsRow base e size v n xs) (hb : But S w w') (hS : ∀ k ∈ S, ∀ cs, ¬ Blk w k e cs) : w'.ownsRow base e size v n xs := by
  obtain ⟨h1, h2⟩ := h
  refine ⟨h1, ?_⟩
  rcases h2 with h2 | ⟨g, cap, cur, hv, hg, hh, r⟩
  · exact .inl h2
  · exact .inr ⟨g, cap, cur, hv, hg, Blk.but (t := e) (cs := cur) hh hb (fun hg' => hS g hg' cur hh), r⟩
end
theorem ivc_at (l : List Int) (k : Nat) (hk : k < l.length) : (l.flatMap ivc)[k]? = some (.int .i64 l[k]) := by
  have := flat_get ivc_len l k hk 0 (by omega)
  simpa [ivc] using this
theorem ivc_set (l : List Int) (k : Nat) (z : Int) : (l.flatMap ivc).set k (.int .i64 z) = (l.set k z).flatMap ivc := by
  induction l generalizing k with
  | nil => rfl
  | cons x r ih =>
    cases k with
    | zero => rfl
    | succ k => rw [List.set_cons_succ, List.flatMap_cons, List.flatMap_cons, ← ih]; rfl
theorem getD_get {l : List Int} {k : Nat} (hk : k < l.length) : l.getD k 0 = l[k] := by rw [List.getD_eq_getElem?_getD, List.getElem?_eq_getElem hk]; rfl
theorem stepA_nat {l : List Int} {k : Nat} (hk : k < l.length) (b : Bool) : stepA l ⟨k, b⟩ = l.set k (lrn l[k] b) := by
  unfold stepA
  simp only [Int.toNat_natCast]
  rw [getD_get hk]

set_option maxHeartbeats 1000000 in
/-- 'learn'. -/
theorem learn_any (g gc cap k base : Nat) (c : List Int) (b : Bool) (w : World) (h1 : w.cell? ⟨g, 1, none⟩ = some (.slice (some ⟨gc, 0, none⟩) c.length cap)) (hk : k < c.length)
    (ho : w.ownsRow base 3 1 (.slice (some ⟨gc, 0, none⟩) c.length cap) c.length (c.flatMap ivc)) (hc : okC c = true) :
    Calls Tryd.prog 75 #[.pointer (some ⟨g, 0, none⟩), .int .i64 k, .bool b] w fun e w' => e = .returned (.tuple #[]) ∧ w'.ownsRow base 3 1 (.slice (some ⟨gc, 0, none⟩) c.length cap) c.length ((stepA c ⟨k, b⟩).flatMap ivc) ∧ But [gc] w w' := by
  have hx := (own_cell ho k hk).trans (ivc_at c k hk)
  obtain ⟨g0, cur, e0, hb0, hB⟩ := own_pos ho (by omega)
  injection e0 with e0
  injection e0 with e0
  subst e0
  have hf := hB.frozen k
  rw [stepA_nat hk]
  have hp := (okC_iff.1 hc).2 _ (List.getElem_mem hk)
  have ho2 := own_put (k := k) ho (.int .i64 (lrn c[k] b))
  rw [ivc_set] at ho2
  generalize c.set k (lrn c[k] b) = c2 at *
  generalize c[k] = p at *
  have hL := fun W => Learn_any p b W
  rw [lrnR_ok b hp, hp, badE_t] at hL
  have hk0 : (0 : Int) ≤ (k : Int) := by omega
  have hk1 : (k : Int) < (c.length : Int) := by omega
  replace hL := hide hL; replace ho := hide ho; replace ho2 := hide ho2
  clear hB hc hp
  generalize lrn p b = q at *
  go_enter Tryd.func75, Tryd.ntmps75
  go_region_with
    (first
      | (go_at_call 85; refine (unhide hL _).mono ?_; rintro e w1 ⟨rfl, rfl⟩))
  all_goals go_wp2_with fail
  all_goals refine bodyPost_end (results_none rfl _ _ _) rfl ?_
  all_goals exact ⟨rfl, own_drew (unhide ho2), But.drew (But.set (But.refl _ _) (by simp) _)⟩
end Go.Proofs.YthkccpemgmpadaaDoor.P

namespace Go.Proofs.YthkccpemgmpadaaDoor.P
set_option maxRecDepth 100000
open Go.RowKit

def byc (z : Int) : List Value := [.int .u8 z]
theorem byc_len : ∀ x, (byc x).length = 1 := fun _ => rfl
theorem byc_at (l : List Int) (k : Nat) (hk : k < l.length) : (l.flatMap byc)[k]? = some (.int .u8 l[k]) := by
  have := flat_get byc_len l k hk 0 (by omega)
  simpa [byc] using this
theorem byc_set (l : List Int) (k : Nat) (z : Int) : (l.flatMap byc).set k (.int .u8 z) = (l.set k z).flatMap byc := by
  induction l generalizing k with
  | nil => rfl
  | cons x r ih =>
    cases k with
    | zero => rfl
    | succ k => rw [List.set_cons_succ, List.flatMap_cons, List.flatMap_cons, ← ih]; rfl
theorem incR_rep (z : Nat) (r : List Int) : incR (List.replicate z 255 ++ r) = List.replicate z 0 ++ incR r := by
  induction z with
  | zero => rfl
  | succ z ih => rw [List.replicate_succ, List.cons_append, incR, if_pos rfl, ih, List.replicate_succ, List.cons_append]
theorem inc_at (p : List Int) (x : Int) (z : Nat) (hx : x ≠ 255) : inc (p ++ x :: List.replicate z 255) = p ++ (x + 1) :: List.replicate z 0 := by
  unfold inc
  rw [List.reverse_append, List.reverse_cons, List.reverse_replicate, List.append_assoc, incR_rep, List.singleton_append, incR, if_neg hx]
  simp
theorem inc_all (z : Nat) : inc (List.replicate z 255) = List.replicate z 0 := by
  have := incR_rep z []
  rw [List.append_nil] at this
  unfold inc
  rw [List.reverse_replicate, this]
  simp [incR]
/-- The text while the carry is at the place 'j': what is behind it is 0 already. -/
def car (l : List Int) (j : Nat) : List Int := l.take j ++ List.replicate (l.length - j) 0
theorem car_len {l : List Int} {j : Nat} (h : j ≤ l.length) : (car l j).length = l.length := by simp [car]; omega
theorem car_top (l : List Int) : car l l.length = l := by simp [car]
theorem car_get {l : List Int} {j : Nat} (h : j < l.length) : (car l (j + 1))[j]'(by rw [car_len (by omega)]; exact h) = l[j] := by
  unfold car
  rw [List.getElem_append_left (by simp; omega), List.getElem_take]
theorem car_set {l : List Int} {j : Nat} (h : j < l.length) : (car l (j + 1)).set j 0 = car l j := by
  unfold car
  rw [List.take_succ_eq_append_getElem h, List.append_assoc, List.set_append_right _ _ (by simp; omega)]
  simp only [List.length_take, Nat.min_eq_left (Nat.le_of_lt h), Nat.sub_self, List.singleton_append, List.set_cons_zero]
  rw [← List.replicate_succ, show l.length - (j + 1) + 1 = l.length - j by omega]
theorem car_inc {l : List Int} {j : Nat} (h : j < l.length) (h5 : l.drop (j + 1) = List.replicate (l.length - (j + 1)) 255) (hx : l[j] ≠ 255) : (car l (j + 1)).set j (l[j] + 1) = inc l := by
  have e : l = l.take j ++ l[j] :: List.replicate (l.length - (j + 1)) 255 := by
    rw [← h5, ← List.drop_eq_getElem_cons h, List.take_append_drop]
  have e2 : inc l = l.take j ++ (l[j] + 1) :: List.replicate (l.length - (j + 1)) 0 := by
    conv => lhs; rw [e]
    exact inc_at _ _ _ hx
  rw [e2]
  unfold car
  rw [List.take_succ_eq_append_getElem h, List.append_assoc, List.set_append_right _ _ (by simp; omega)]
  simp only [List.length_take, Nat.min_eq_left (Nat.le_of_lt h), Nat.sub_self, List.singleton_append, List.set_cons_zero]
theorem car_zero {l : List Int} (h5 : l.drop 0 = List.replicate (l.length - 0) 255) : car l 0 = inc l := by
  rw [List.drop_zero, Nat.sub_zero] at h5
  have : inc l = List.replicate l.length 0 := by
    conv => lhs; rw [h5]
    exact inc_all _
  rw [this]
  simp [car]
theorem car_next {l : List Int} {j : Nat} (h : j < l.length) (h5 : l.drop (j + 1) = List.replicate (l.length - (j + 1)) 255) (hx : l[j] = 255) : l.drop j = List.replicate (l.length - j) 255 := by
  rw [List.drop_eq_getElem_cons h, h5, hx, ← List.replicate_succ, show l.length - (j + 1) + 1 = l.length - j by omega]
theorem wrap8 {x : Int} (h : 0 ≤ x ∧ x < 256) : IntKind.u8.wrap (x + 1) = if x = 255 then 0 else x + 1 := by
  split
  · rename_i e; subst e; decide
  · exact IntWalk.u8_in _ (by omega)

set_option maxHeartbeats 1000000 in
/-- 'add'. -/
theorem add_any (g gt cap base : Nat) (s low p : Int) (cv : Value) (l : List Int) (w : World) (hK : Blk w g 108 #[.int .u32 s, cv, .slice (some ⟨gt, 0, none⟩) l.length cap, .int .u32 low])
    (ho : w.ownsRow base 5 1 (.slice (some ⟨gt, 0, none⟩) l.length cap) l.length (l.flatMap byc)) (hB : okB l) (hl : l.length ≤ 9223372036854775807) (h1 : 0 ≤ low ∧ low < 4294967296) (h2 : 0 ≤ p ∧ p < 4294967296) :
    Calls Tryd.prog 73 #[.pointer (some ⟨g, 0, none⟩), .int .u32 p] w fun e w' => e = .returned (.tuple #[]) ∧ Blk w' g 108 #[.int .u32 s, cv, .slice (some ⟨gt, 0, none⟩) l.length cap, .int .u32 ((low + p) % 4294967296)] ∧
      w'.ownsRow base 5 1 (.slice (some ⟨gt, 0, none⟩) l.length cap) l.length ((if 4294967296 ≤ low + p then inc l else l).flatMap byc) ∧ But [g, gt] w w' := by
  have hw : IntKind.u32.wrap (low + p) = (low + p) % 4294967296 := IntKind.wrap_u32 _
  have c0 := hK.cell 2
  have c1 := hK.cell 3
  have c2 := hK.frozen 3
  simp at c0 c1
  have K1 := hK.set 3 (.int .u32 ((low + p) % 4294967296))
  simp at K1
  have ho1 := own_far ho hK (by decide) 3 (.int .u32 ((low + p) % 4294967296))
  have hb1 := (But.refl [g, gt] w).set (p := ⟨g, 3, none⟩) (by simp) (.int .u32 ((low + p) % 4294967296))
  by_cases hc : 4294967296 ≤ low + p
  · rw [if_pos hc]
    have hlt : (low + p) % 4294967296 < p := by omega
    generalize (low + p) % 4294967296 = z at *
    have i0 : IntKind.i64.wrap ((l.length : Int) - 1) = (l.length : Int) - 1 := IntWalk.i64_in _ (by omega)
    have hd : decide (p ≤ z) = false := by simp; omega
    have hgt : g ≠ gt := by
      rintro rfl
      rcases ho.2 with ⟨e, _⟩ | ⟨g', _, cur, e, _, hh, _⟩
      · cases e
      · injection e with e
        injection e with e
        injection e with e
        subst e
        exact (Blk.ne_ (t := 5) (cs := cur) hh hK (by decide)) rfl
    replace K1 := hide K1; replace ho1 := hide ho1; replace hb1 := hide hb1
    clear hK ho hc hlt
    go_enter Tryd.func73, Tryd.ntmps73
    go_wp2_with fail
    generalize w.setCell ⟨g, 3, none⟩ (.int .u32 z) = w1 at *
    have c0' := (unhide K1).cell 2
    simp at c0'
    clear i0 hw c0 c1 c2 hd
    go_loopw [4] (fun i wr => ∃ (j : Nat), j ≤ l.length ∧ i = .int .i64 ((j : Int) - 1) ∧ Hid (l.drop j = List.replicate (l.length - j) 255) ∧ Hid (Blk wr g 108 #[.int .u32 s, cv, .slice (some ⟨gt, 0, none⟩) l.length cap, .int .u32 z]) ∧ Hid (wr.ownsRow base 5 1 (.slice (some ⟨gt, 0, none⟩) l.length cap) l.length ((car l j).flatMap byc)) ∧ Hid (But [g, gt] w wr)) (fun i _ => (intOf i + 1).toNat)
    case atStart => exact ⟨l.length, Nat.le_refl _, rfl, hide (by simp), K1, hide (by rw [car_top]; exact unhide ho1), hb1⟩
    case round =>
      obtain ⟨j, hj, rfl, h5, hK, ho1, hb⟩ := hrel
      cases j with
      | zero =>
        have e1 := car_zero (unhide h5)
        have ho2 := unhide ho1
        rw [e1] at ho2
        replace ho2 := hide ho2
        clear ho1 e1 h5
        go_wp2_with fail
        refine bodyPost_end (results_none rfl _ _ _) rfl ?_
        exact ⟨rfl, unhide hK, unhide ho2, unhide hb⟩
      | succ j =>
        have hjl : j < l.length := by omega
        obtain ⟨g0, cur, e0, hb0, hG⟩ := own_pos (unhide ho1) (by omega)
        injection e0 with e0
        injection e0 with e0
        subst e0
        have hx := (own_cell (unhide ho1) j hjl).trans (byc_at _ j (by rw [car_len (by omega)]; exact hjl))
        rw [car_get hjl] at hx
        have hf := hG.frozen j
        have hx8 := hB l[j] (List.getElem_mem _)
        have hwr := wrap8 hx8
        have c3 := (unhide hK).cell 2
        simp at c3
        have j0 : IntKind.i64.wrap ((j : Int) - 1) = (j : Int) - 1 := IntWalk.i64_in _ (by omega)
        have j1 : ((j + 1 : Nat) : Int) - 1 = (j : Int) := by omega
        have j2 : (0 : Int) ≤ (j : Int) := by omega
        have j3 : (j : Int) < (l.length : Int) := by omega
        rw [j1]
        by_cases h255 : l[j] = 255
        · have ho2 := own_put (k := j) (unhide ho1) (.int .u8 0)
          rw [byc_set, car_set hjl] at ho2
          have h5' := car_next hjl (unhide h5) h255
          rw [h255] at hx hwr
          simp only [if_true] at hwr
          have hb2 := (unhide hb).set (p := ⟨gt, j, none⟩) (by simp) (.int .u8 0)
          have hK2 := (unhide hK).far (p := ⟨gt, j, none⟩) hgt (.int .u8 0)
          replace ho2 := hide ho2; replace h5' := hide h5'; replace hb2 := hide hb2; replace hK2 := hide hK2
          clear ho1 h5 hb hG h255 hx8 hK
          go_wp2_with fail
          clear j0 hwr
          go_roundw
          case rel => exact ⟨j, by omega, rfl, h5', hK2, ho2, hb2⟩
          case measure => simp [intOf]
        · have ho2 := own_put (k := j) (unhide ho1) (.int .u8 (l[j] + 1))
          rw [byc_set, car_inc hjl (unhide h5) h255] at ho2
          rw [if_neg h255] at hwr
          have hne : (l[j] + 1 == 0) = false := by simp; omega
          have hne' : (l[j] + 1 != 0) = true := by simp; omega
          have hb2 := (unhide hb).set (p := ⟨gt, j, none⟩) (by simp) (.int .u8 (l[j] + 1))
          have hK2 := (unhide hK).far (p := ⟨gt, j, none⟩) hgt (.int .u8 (l[j] + 1))
          replace ho2 := hide ho2; replace hb2 := hide hb2; replace hK2 := hide hK2
          clear ho1 h5 hb hG h255 hx8 hK
          generalize l[j] = x at *
          go_wp2_with fail
          refine bodyPost_ret (results_none rfl _ _ _) rfl ?_
          exact ⟨rfl, unhide hK2, unhide ho2, unhide hb2⟩
  · rw [if_neg hc]
    have hge : decide (p ≤ (low + p) % 4294967296) = true := by simp; omega
    generalize (low + p) % 4294967296 = z at *
    replace K1 := hide K1; replace ho1 := hide ho1; replace hb1 := hide hb1
    clear hK ho hc
    go_enter Tryd.func73, Tryd.ntmps73
    go_wp2_with fail
    refine bodyPost_ret (results_none rfl _ _ _) rfl ?_
    exact ⟨rfl, unhide K1, unhide ho1, unhide hb1⟩
end Go.Proofs.YthkccpemgmpadaaDoor.P

namespace Go.Proofs.YthkccpemgmpadaaDoor.P
set_option maxRecDepth 100000
open Go.RowKit

/-- An append, and where the new row lies. -/
theorem run_app_at {P : Program} (w : World) (base : Nat) (t ty e : TypeId) (i : TypeInfo) (z : Value) (size bytes : Nat) (ht : P.underlying t = some (.slice e)) (hi : P.info? e = some i) (hz : i.zero = some z)
    (hsize : i.size = size) (hby : i.bytes = bytes) (hzs : z.cells.size = size) (hsz : 0 < size)
    (v : Value) (n : Nat) (xs : List Value) (hown : w.ownsRow base e size v n xs)
    (A : Option Addr) (m c : Nat) (news : List Value) (hl : news.length = m * size) (hr : SrcOk w A m news) (h1 : ∀ u ∈ news, u.oneCell' = true)
    (h63 : n + m ≤ maxLen) (hbytes : (n + m) * bytes ≤ 140737488355328) (hbase : base ≤ w.heap.size) :
    ∃ v' w', (Builtin.append_ #[t, t] ty #[v, .slice A m c]).run P w = .ok v' w' ∧ w'.ownsRow base e size v' (n + m) (xs ++ news) ∧ w.grownBy w' v.ownBlock ∧ (v'.ownBlock = v.ownBlock ∨ v'.ownBlock = some w.heap.size) := by
  rcases Nat.eq_zero_or_pos m with rfl | hm
  · have hn : news = [] := List.eq_nil_of_length_eq_zero (by simpa using hl)
    subst hn
    rcases A with _ | ad
    · refine ⟨v, w, ?_, by simpa using hown, World.grownBy.refl w _, .inl rfl⟩
      rcases hown.2 with ⟨rfl, rfl⟩ | ⟨g, cap, cur, rfl, _, _, hnc, _⟩
      · simp [Builtin.append_, run_underlying ht, sizeOf, typeInfo, hi, Builtin.lenOf, Builtin.firstCells]
      · simp [Builtin.append_, run_underlying ht, sizeOf, typeInfo, hi, Builtin.lenOf, Builtin.firstCells, hnc, storeCells]
    · obtain ⟨v', w', a, b, c', _, d⟩ := run_append_own_at (P := P) w base t ty e i z size bytes ht hi hz hsize hby hzs hsz v n xs hown ad 0 c [] hl (by simp) h1 h63 hbytes hbase
      exact ⟨v', w', a, b, c', d⟩
  · obtain ⟨ad, rfl, hc⟩ := hr hm
    obtain ⟨v', w', a, b, c', _, d⟩ := run_append_own_at (P := P) w base t ty e i z size bytes ht hi hz hsize hby hzs hsz v n xs hown ad m c news hl hc h1 h63 hbytes hbase
    exact ⟨v', w', a, b, c', d⟩
theorem wp_app_at {P : Program} (w : World) {o : Oper} {a : Act} {K : Act → World → Prop} {Q : Exit → Act → World → Prop} (s x : Operand) (t : TypeId)
    (ho : o.op = .call { callee := .builtin .append, args := #[s, x], argTypes := #[t, t] })
    (base : Nat) (e : TypeId) (i : TypeInfo) (z : Value) (size bytes : Nat) (ht : P.underlying t = some (.slice e)) (hi : P.info? e = some i) (hz : i.zero = some z)
    (hsize : i.size = size) (hby : i.bytes = bytes) (hzs : z.cells.size = size) (hsz : 0 < size)
    (v : Value) (n : Nat) (xs : List Value) (hs : a.eval s = v) (hown : w.ownsRow base e size v n xs)
    (A : Option Addr) (m c : Nat) (news : List Value) (hx : a.eval x = .slice A m c) (hl : news.length = m * size) (hr : SrcOk w A m news) (h1 : ∀ u ∈ news, u.oneCell' = true)
    (h63 : n + m ≤ maxLen) (hbytes : (n + m) * bytes ≤ 140737488355328) (hbase : base ≤ w.heap.size)
    (h : ∀ v' w', w'.ownsRow base e size v' (n + m) (xs ++ news) → w.grownBy w' v.ownBlock → (v'.ownBlock = v.ownBlock ∨ v'.ownBlock = some w.heap.size) → K (a.put o.dst v') w') : o.wp P a w K Q := by
  obtain ⟨v', w', hr, h2, h3, h4⟩ := run_app_at (P := P) w base t o.type e i z size bytes ht hi hz hsize hby hzs hsz v n xs hown A m c news hl hr h1 h63 hbytes hbase
  unfold Oper.wp execOp
  simp only [ho, resolve, invoke, builtin, Sem.run_bind, Sem.run_pure, Result.andThen_ok, List.map_toArray, List.map_cons, List.map_nil, hs, hx, hr]
  exact h v' w' h2 h3 h4
theorem wpList_app_at {P : Program} (w : World) {ops : Array Oper} {rest : List Oper} {o : Oper} {a : Act} {Q : Exit → Act → World → Prop} (hgd : o.guard = none) (s x : Operand) (t : TypeId)
    (ho : o.op = .call { callee := .builtin .append, args := #[s, x], argTypes := #[t, t] })
    (base : Nat) (e : TypeId) (i : TypeInfo) (z : Value) (size bytes : Nat) (ht : P.underlying t = some (.slice e)) (hi : P.info? e = some i) (hz : i.zero = some z)
    (hsize : i.size = size) (hby : i.bytes = bytes) (hzs : z.cells.size = size) (hsz : 0 < size)
    (v : Value) (n : Nat) (xs : List Value) (hs : a.eval s = v) (hown : w.ownsRow base e size v n xs)
    (A : Option Addr) (m c : Nat) (news : List Value) (hx : a.eval x = .slice A m c) (hl : news.length = m * size) (hr : SrcOk w A m news) (h1 : ∀ u ∈ news, u.oneCell' = true)
    (h63 : n + m ≤ maxLen) (hbytes : (n + m) * bytes ≤ 140737488355328) (hbase : base ≤ w.heap.size)
    (h : ∀ v' w', w'.ownsRow base e size v' (n + m) (xs ++ news) → w.grownBy w' v.ownBlock → (v'.ownBlock = v.ownBlock ∨ v'.ownBlock = some w.heap.size) → wpList P ops Q rest (a.put o.dst v') w') : wpList P ops Q (o :: rest) a w :=
  wpList_plain hgd fun _ hK => wp_app_at w s x t ho base e i z size bytes ht hi hz hsize hby hzs hsz v n xs hs hown A m c news hx hl hr h1 h63 hbytes hbase fun v' w' h2 h3 h4 => hK _ _ (h v' w' h2 h3 h4)
theorem step_app_at {P : Program} {ops : Array Oper} {o : Oper} {a : Act} {w : World} {K : Act → World → Prop} {Q : Exit → Act → World → Prop} {E : Prop} (hgd : o.guard = none) (s x : Operand) (t : TypeId)
    (ho : o.op = .call { callee := .builtin .append, args := #[s, x], argTypes := #[t, t] })
    (base : Nat) (e : TypeId) (i : TypeInfo) (z : Value) (size bytes : Nat) (ht : P.underlying t = some (.slice e)) (hi : P.info? e = some i) (hz : i.zero = some z)
    (hsize : i.size = size) (hby : i.bytes = bytes) (hzs : z.cells.size = size) (hsz : 0 < size)
    (v : Value) (n : Nat) (xs : List Value) (hs : a.eval s = v) (hown : w.ownsRow base e size v n xs)
    (A : Option Addr) (m c : Nat) (news : List Value) (hx : a.eval x = .slice A m c) (hl : news.length = m * size) (hr : SrcOk w A m news) (h1 : ∀ u ∈ news, u.oneCell' = true)
    (h63 : n + m ≤ maxLen) (hbytes : (n + m) * bytes ≤ 140737488355328) (hbase : base ≤ w.heap.size)
    (h : ∀ v' w', w'.ownsRow base e size v' (n + m) (xs ++ news) → w.grownBy w' v.ownBlock → (v'.ownBlock = v.ownBlock ∨ v'.ownBlock = some w.heap.size) → K (a.put o.dst v') w') :
    if Region.wanted o (yielded ops a.tmps) = true then Oper.wp P o a w K Q else E := by
  have hw : Region.wanted o (yielded ops a.tmps) = true := by simp [Region.wanted, hgd]
  rw [if_pos hw]
  exact wp_app_at w s x t ho base e i z size bytes ht hi hz hsize hby hzs hsz v n xs hs hown A m c news hx hl hr h1 h63 hbytes hbase h


theorem Blk.grown {w w' : World} {g : Nat} {t : TypeId} {cs : Array Value} {row : Option Nat} (h : Blk w g t cs) (hg : w.grownBy w' row) (hne : some g ≠ row) : Blk w' g t cs := (hg.block g h.lt hne).trans h
theorem own_ne {w : World} {base : Nat} {e : TypeId} {size : Nat} {v : Value} {n : Nat} {xs : List Value} (h : w.ownsRow base e size v n xs) {g : Nat} {t : TypeId} {cs : Array Value} (hg : Blk w g t cs) (hne : e ≠ t) : some g ≠ v.ownBlock := by
  intro q
  rcases h.2 with ⟨rfl, _⟩ | ⟨g', cap, cur, rfl, _, hh, _⟩
  · cases q
  · injection q with q
    exact Blk.ne_ (t := e) (cs := cur) hh hg hne q.symm
theorem own_grown {w w' : World} {base : Nat} {e : TypeId} {size : Nat} {v : Value} {n : Nat} {xs : List Value} {row : Option Nat} (h : w.ownsRow base e size v n xs) (hg : w.grownBy w' row) (hne : ∀ k, v.ownBlock = some k → some k ≠ row) : w'.ownsRow base e size v n xs := by
  obtain ⟨h1, h2⟩ := h
  refine ⟨h1, ?_⟩
  rcases h2 with h2 | ⟨g, cap, cur, hv, hb, hh, r⟩
  · exact .inl h2
  · exact .inr ⟨g, cap, cur, hv, hb, (hg.block g (Blk.lt (t := e) (cs := cur) hh) (hne g (by rw [hv]; rfl))).trans hh, r⟩
theorem own_own {w : World} {base base' : Nat} {e e' : TypeId} {size size' : Nat} {v v' : Value} {n n' : Nat} {xs xs' : List Value} (h : w.ownsRow base e size v n xs) (h' : w.ownsRow base' e' size' v' n' xs') (hne : e ≠ e') : ∀ k, v.ownBlock = some k → some k ≠ v'.ownBlock := by
  intro k hk
  rcases h.2 with ⟨rfl, _⟩ | ⟨g, cap, cur, rfl, _, hh, _⟩
  · cases hk
  · injection hk with hk
    subst hk
    exact own_ne h' (t := e) (cs := cur) hh (Ne.symm hne)
theorem But.grown {S : List Nat} {a b c : World} {row : Option Nat} (h : But S a b) (hg : b.grownBy c row) (hr : ∀ k, row = some k → k ∈ S ∨ a.heap.size ≤ k) : But S a c :=
  ⟨hg.os.trans h.os, hg.tape.trans h.tape, hg.output.trans h.output, Nat.le_trans h.size hg.size, fun k hk hS => (hg.block k (by have := h.size; omega) (fun e => by rcases hr k e.symm with h1 | h1; exact hS h1; omega)).trans (h.block k hk hS)⟩
theorem info5 : (Tryd.prog.info? 5).map (fun i => (i.zero, i.size, i.bytes)) = some (some (.int .u8 0), 1, 1) := by kernel_rfl
theorem info4 : (Tryd.prog.info? 4).map (fun i => (i.zero, i.size, i.bytes)) = some (some (.bool false), 1, 1) := by kernel_rfl
theorem info5' : ∃ i, Tryd.prog.info? 5 = some i ∧ i.zero = some (.int .u8 0) ∧ i.size = 1 ∧ i.bytes = 1 := info_parts info5
theorem info4' : ∃ i, Tryd.prog.info? 4 = some i ∧ i.zero = some (.bool false) ∧ i.size = 1 ∧ i.bytes = 1 := info_parts info4
end Go.Proofs.YthkccpemgmpadaaDoor.P

namespace Go.Proofs.YthkccpemgmpadaaDoor.P
set_option maxRecDepth 100000
open Go.RowKit

/-- The writer 'g' holds 's'; its chances and its text are rows of the call's own. -/
structure Wrt (base g gc cc gt ct : Nat) (w : World) (c : List Int) (span low : Int) (text : List Int) : Prop where
  blk : Blk w g 108 #[.int .u32 span, .slice (some ⟨gc, 0, none⟩) c.length cc, .slice (some ⟨gt, 0, none⟩) text.length ct, .int .u32 low]
  c : w.ownsRow base 3 1 (.slice (some ⟨gc, 0, none⟩) c.length cc) c.length (c.flatMap ivc)
  text : w.ownsRow base 5 1 (.slice (some ⟨gt, 0, none⟩) text.length ct) text.length (text.flatMap byc)
theorem own_not {w : World} {base : Nat} {e : TypeId} {size g n c : Nat} {xs : List Value} (h : w.ownsRow base e size (.slice (some ⟨g, 0, none⟩) n c) n xs) {t : TypeId} {cs : Array Value} (hne : e ≠ t) : ¬ Blk w g t cs := by
  intro hB
  exact own_ne h hB hne rfl

set_option maxHeartbeats 4000000 in
theorem put_true (base g gc cc gt ct k : Nat) (s : Enc) (w : World) (hW : Wrt base g gc cc gt ct w s.c s.span s.low s.text) (hk : k < s.c.length) (h : OkE s) (hl : s.text.length ≤ 1000000) :
    Calls Tryd.prog 56 #[.pointer (some ⟨g, 0, none⟩), .agg #[.int .i64 k, .bool true]] w fun e w' => e = .returned (.tuple #[]) ∧ ∃ gt' ct', Wrt base g gc cc gt' ct' w' (put s ⟨k, true⟩).c (put s ⟨k, true⟩).span (put s ⟨k, true⟩).low (put s ⟨k, true⟩).text ∧ But [g, gc, gt] w w' := by
  have hx := (own_cell hW.c k hk).trans (ivc_at s.c k hk)
  have hpc := (okC_iff.1 h.c).2 _ (List.getElem_mem hk)
  have hpo := part_ok h.c (i := (k : Int)) (by omega) (by omega) h.span
  have hpp : partP s.span s.c (k : Int) = s.span / 2048 * s.c[k] := by unfold partP; rw [Int.toNat_natCast, getD_get hk]
  have hP := fun W (a : W.cell? ⟨g, 0, none⟩ = some (.int .u32 s.span)) (b : W.cell? ⟨g, 1, none⟩ = some (.slice (some ⟨gc, 0, none⟩) s.c.length cc)) (c : W.cell? ⟨gc, k, none⟩ = some (.int .i64 s.c[k])) => part_any g gc s.c.length cc k s.span s.c[k] W a b hk c h.span hpc
  rw [← hpp] at hP
  have hsp := h.span
  have hlo := h.low
  have hA := fun W a b => add_any g gt ct base s.span s.low (partP s.span s.c (k : Int)) (.slice (some ⟨gc, 0, none⟩) s.c.length cc) s.text W a b h.text (by omega) h.low (by omega)
  have hLf := fun W a => left_any g s.span (partP s.span s.c (k : Int)) true W a (by omega) (by omega)
  have hLn := fun W a b => learn_any g gc cc k base s.c true W a hk b h.c
  obtain ⟨hK, hc, ht⟩ := hW
  have c0 := hK.cell 0
  have c1 := hK.cell 1
  simp at c0 c1
  have hgl := hK.lt
  have hgc : gc < w.heap.size := World.block_lt_of_cell? w _ hx
  have hb0 : Blk (w.alloc (.cells #[.int .i64 k, .bool true] 104)) w.heap.size 104 #[.int .i64 k, .bool true] := Blk.new rfl
  have hK0 := hK.alloc (.cells #[.int .i64 k, .bool true] 104)
  have hc0 := hc.alloc (.cells #[.int .i64 k, .bool true] 104)
  have ht0 := ht.alloc (.cells #[.int .i64 k, .bool true] 104)
  have hx0 := (own_cell hc0 k hk).trans (ivc_at s.c k hk)
  obtain ⟨w1, hw1⟩ : ∃ w1, w1 = w.alloc (.cells #[.int .i64 k, .bool true] 104) := ⟨_, rfl⟩
  rw [← hw1] at hb0 hK0 hc0 ht0 hx0
  have d0 : w1.cell? ⟨g, 0, none⟩ = some (.int .u32 s.span) := hK0.cell 0
  have d1 : w1.cell? ⟨g, 1, none⟩ = some (.slice (some ⟨gc, 0, none⟩) s.c.length cc) := hK0.cell 1
  have e0 : w1.cell? ⟨w.heap.size, 0, none⟩ = some (.int .i64 k) := hb0.cell 0
  have e1 : w1.cell? ⟨w.heap.size, 1, none⟩ = some (.bool true) := hb0.cell 1
  have hB0 : But [g, gc, gt] w w1 := by rw [hw1]; exact (But.refl _ _).alloc _
  replace hP := hide hP; replace hA := hide hA; replace hLf := hide hLf; replace hLn := hide hLn; replace hpo := hide hpo
  replace hK0 := hide hK0; replace hc0 := hide hc0; replace ht0 := hide ht0; replace hb0 := hide hb0; replace hB0 := hide hB0
  generalize hz : partP s.span s.c (k : Int) = z at *
  generalize s.c[k] = p at *
  clear hpp hpc hK hc ht c0 c1 hx
  go_enter Tryd.func56, Tryd.ntmps56
  go_wp2_with fail
  rw [← hw1]
  clear hw1
  generalize w.heap.size = gb at *
  go_quiet ((go_at_call 72; exact Calls.quiet_of (unhide hP _ d0 d1 hx0)))
  obtain ⟨w2, hw2⟩ : ∃ w2, w2 = w1.drewN nq := ⟨_, rfl⟩
  have K2 := (unhide hK0).drewN nq
  have b2 := (unhide hb0).drewN nq
  have r2 : (w1.drewN nq).ownsRow base 3 1 (.slice (some ⟨gc, 0, none⟩) s.c.length cc) s.c.length (s.c.flatMap ivc) := unhide hc0
  have t2 : (w1.drewN nq).ownsRow base 5 1 (.slice (some ⟨gt, 0, none⟩) s.text.length ct) s.text.length (s.text.flatMap byc) := unhide ht0
  have B2 := (unhide hB0).drewN nq
  rw [← hw2] at K2 b2 r2 t2 B2 ⊢
  clear hw2 hK0 hb0 hc0 ht0 hB0 d0 d1 e0 e1 hx0
  have n1 : gb ≠ g := b2.ne_ K2 (by decide)
  have n2 : gb ≠ gt := fun e => own_not t2 (by decide : (5 : TypeId) ≠ 104) (e ▸ b2)
  have n3 : gb ≠ gc := fun e => own_not r2 (by decide : (3 : TypeId) ≠ 104) (e ▸ b2)
  have n4 : g ≠ gc := fun e => own_not r2 (by decide : (3 : TypeId) ≠ 108) (e ▸ K2)
  have n5 : g ≠ gt := fun e => own_not t2 (by decide : (5 : TypeId) ≠ 108) (e ▸ K2)
  have n6 : gt ≠ gc := fun e => by
    obtain ⟨_, cur, e1, _, hh⟩ := own_pos r2 (by omega)
    injection e1 with e1
    injection e1 with e1
    subst e1 e
    exact own_not t2 (by decide : (5 : TypeId) ≠ 3) hh
  have e1 : w2.cell? ⟨gb, 1, none⟩ = some (.bool true) := b2.cell 1
  replace K2 := hide K2; replace b2 := hide b2; replace r2 := hide r2; replace t2 := hide t2; replace B2 := hide B2
  replace n1 := hide n1; replace n2 := hide n2; replace n3 := hide n3; replace n4 := hide n4; replace n5 := hide n5; replace n6 := hide n6
  go_wp2_with (first
    | (go_at_call 73; refine (unhide hA _ (unhide K2) (unhide t2)).mono ?_; rintro e w3 ⟨rfl, K3, t3, B3⟩)
    | fail)
  have r3 := own_but (unhide r2) B3 (fun q hq cs hcs => by
    simp only [List.mem_cons, List.not_mem_nil, or_false] at hq
    rcases hq with rfl | rfl
    · exact (hcs.ne_ (unhide K2) (by decide)) rfl
    · exact own_not (unhide t2) (by decide : (5 : TypeId) ≠ 3) hcs)
  have b3 := (unhide b2).but B3 (by simp [unhide n1, unhide n2])
  replace B3 := (unhide B2).trans (B3.mono (by simp))
  have f1 : w3.cell? ⟨gb, 1, none⟩ = some (.bool true) := b3.cell 1
  have f0 : w3.cell? ⟨g, 0, none⟩ = some (.int .u32 s.span) := K3.cell 0
  have f2 := K3.frozen 0
  have hl1 : (if 4294967296 ≤ s.low + z then inc s.text else s.text).length = s.text.length := by split; exact inc_len _; rfl
  generalize hT : (if 4294967296 ≤ s.low + z then inc s.text else s.text) = T at *
  generalize hL : (s.low + z) % 4294967296 = L at *
  clear e1 b2 r2 t2 K2 B2
  replace K3 := hide K3; replace b3 := hide b3; replace r3 := hide r3; replace t3 := hide t3; replace B3 := hide B3; replace hT := hide hT; replace hL := hide hL; replace hl1 := hide hl1
  simp only [if_true] at hLf
  go_region_held3 (fun W => W.cell? ⟨gb, 1, none⟩ = some (.bool true)) (first | assumption | go_simp)
    (first
      | (go_at_call 74; refine (unhide hLf _ (by first | assumption | exact f0)).mono ?_; rintro e w1 ⟨rfl, rfl⟩))
  obtain ⟨w4, hw4⟩ : ∃ w4, w4 = (w3.setCell ⟨g, 0, none⟩ (.int .u32 (s.span - z))).drew := ⟨_, rfl⟩
  have K4 := ((unhide K3).set 0 (.int .u32 (s.span - z))).drew
  simp at K4
  have b4 := ((unhide b3).far (p := ⟨g, 0, none⟩) (unhide n1) (.int .u32 (s.span - z))).drew
  have r4 := own_drew (own_far (unhide r3) (unhide K3) (by decide) 0 (.int .u32 (s.span - z)))
  have t4 := own_drew (own_far (unhide t3) (unhide K3) (by decide) 0 (.int .u32 (s.span - z)))
  have B4 := ((unhide B3).set (p := ⟨g, 0, none⟩) (by simp) (.int .u32 (s.span - z))).drew
  rw [← hw4] at K4 b4 r4 t4 B4 ⊢
  clear hw4 K3 b3 r3 t3 B3 f0 f1 f2
  have g0 : w4.cell? ⟨gb, 0, none⟩ = some (.int .i64 k) := b4.cell 0
  have g1 : w4.cell? ⟨gb, 1, none⟩ = some (.bool true) := b4.cell 1
  have g2 : w4.cell? ⟨g, 1, none⟩ = some (.slice (some ⟨gc, 0, none⟩) s.c.length cc) := K4.cell 1
  replace K4 := hide K4; replace b4 := hide b4; replace r4 := hide r4; replace t4 := hide t4; replace B4 := hide B4
  generalize hG : s.span - z = G at *
  replace hG := hide hG
  go_wp2_with fail
  go_region_held3 (fun W => W.cell? ⟨gb, 0, none⟩ = some (.int .i64 k) ∧ W.cell? ⟨gb, 1, none⟩ = some (.bool true)) (first | exact ⟨by assumption, by assumption⟩ | exact ⟨by go_simp, by go_simp⟩)
    (first
      | (go_at_call 75; refine (unhide hLn w4.drew g2 (own_drew (unhide r4))).mono ?_; rintro e w5 ⟨rfl, r5, B5⟩
         have h0 : w5.cell? ⟨gb, 0, none⟩ = some (.int .i64 k) := ((unhide b4).drew.but B5 (by simp [unhide n3])).cell 0
         have h1 : w5.cell? ⟨gb, 1, none⟩ = some (.bool true) := ((unhide b4).drew.but B5 (by simp [unhide n3])).cell 1
         replace r5 := hide r5; replace B5 := hide B5))
  have K5 := (unhide K4).drew.but (unhide B5) (by simp [unhide n4])
  have t5 := own_but (own_drew (unhide t4)) (unhide B5) (fun q hq cs hcs => by
    simp only [List.mem_cons, List.not_mem_nil, or_false] at hq
    subst hq
    obtain ⟨_, cur, e1, _, hh⟩ := own_pos (unhide r4) (by omega)
    injection e1 with e1
    injection e1 with e1
    subst e1
    exact (Blk.ne_ (w := w4.drew) hh hcs (by decide)) rfl)
  have B6 : But [g, gc, gt] w w5 := (unhide B4).drew.trans ((unhide B5).mono (by simp))
  have hbase : base ≤ w5.heap.size := by
    obtain ⟨_, cur, e1, h2, hh⟩ := own_pos (unhide r5) (by omega)
    have := hh.lt
    omega
  clear K4 b4 r4 t4 B4 B5 g0 g1 g2 h0 h1
  replace K5 := hide K5; replace t5 := hide t5; replace B6 := hide B6; replace hbase := hide hbase
  have hL0 : 0 ≤ L ∧ L < 4294967296 := by have := unhide hL; omega
  have hG0 : 253952 ≤ G ∧ G < 4294967296 := by have := unhide hG; have := unhide hpo; omega
  have hT1 : T.length = s.text.length := unhide hl1
  have hput1 : put1 s ⟨k, true⟩ = ⟨stepA s.c ⟨k, true⟩, G, L, T⟩ := by
    unfold put1
    simp only [hz, unhide hG, if_true, true_and, unhide hL, unhide hT]
  replace hput1 := hide hput1; replace hT1 := hide hT1
  clear hpo hG hL hT hA hLf hLn hP hl1
  obtain ⟨i5, hi5, iz0, iz1, iz2⟩ := info5'
  go_wp2_with fail
  go_loopg [] 1 (fun kk wr => ∃ (sp lo : Int) (tx : List Int) (gt' ct' : Nat), ((kk = 1 ∧ sp = G ∧ lo = L ∧ tx = T ∧ gt' = gt) ∨ (kk = 0 ∧ G < 16777216 ∧ sp = G * 256 ∧ lo = L % 16777216 * 256 ∧ tx = T ++ [L / 16777216])) ∧
    Hid (Blk wr g 108 #[.int .u32 sp, .slice (some ⟨gc, 0, none⟩) s.c.length cc, .slice (some ⟨gt', 0, none⟩) tx.length ct', .int .u32 lo]) ∧
    Hid (wr.ownsRow base 3 1 (.slice (some ⟨gc, 0, none⟩) s.c.length cc) s.c.length ((stepA s.c ⟨k, true⟩).flatMap ivc)) ∧ Hid (wr.ownsRow base 5 1 (.slice (some ⟨gt', 0, none⟩) tx.length ct') tx.length (tx.flatMap byc)) ∧ Hid (But [g, gc, gt] w wr) ∧ Hid (base ≤ wr.heap.size))
  case atStart => exact ⟨G, L, T, gt, ct, .inl ⟨rfl, rfl, rfl, rfl, rfl⟩, by rw [unhide hT1]; exact K5, r5, by rw [unhide hT1]; exact t5, B6, hbase⟩
  case round =>
    obtain ⟨sp, lo, tx, gt', ct', hcase, hK, hr, ht, hB, hbs⟩ := hrel
    have c0 : wr.cell? ⟨g, 0, none⟩ = some (.int .u32 sp) := (unhide hK).cell 0
    have c2 : wr.cell? ⟨g, 2, none⟩ = some (.slice (some ⟨gt', 0, none⟩) tx.length ct') := (unhide hK).cell 2
    have c3 : wr.cell? ⟨g, 3, none⟩ = some (.int .u32 lo) := (unhide hK).cell 3
    have f0 := (unhide hK).frozen 0
    have f2 := (unhide hK).frozen 2
    have f3 := (unhide hK).frozen 3
    have hgl' := (unhide hK).lt
    rcases hcase with ⟨rfl, rfl, rfl, rfl, rfl⟩ | ⟨rfl, hlt, rfl, rfl, rfl⟩
    · by_cases hlt : sp < 16777216
      · have j1 : IntKind.u8.wrap (lo / 16777216) = lo / 16777216 := IntWalk.u8_in _ (by omega)
        have j2 : IntKind.u32.wrap (lo * 256) = lo % 16777216 * 256 := by rw [IntKind.wrap_u32]; omega
        have j3 : IntKind.u32.wrap (sp * 256) = sp * 256 := IntWalk.u32_in _ (by omega)
        have oA := own_drew ((unhide ht).alloc (.cells #[.int .u8 (lo / 16777216)] 5))
        have KA := ((unhide hK).alloc (.cells #[.int .u8 (lo / 16777216)] 5)).drew
        have sA : SrcOk (wr.alloc (.cells #[.int .u8 (lo / 16777216)] 5)).drew (some ⟨wr.heap.size, 0, none⟩) 1 [.int .u8 (lo / 16777216)] := SrcOk.blk (cur := [.int .u8 (lo / 16777216)]) (Blk.drew (Blk.new rfl)) fun j u hu => by simpa using hu
        have s1 : ∀ u ∈ [Value.int .u8 (lo / 16777216)], u.oneCell' = true := by intro u hu; simp at hu; subst hu; rfl
        have b0 := unhide hT1
        have b1 : tx.length + 1 ≤ maxLen := by simp only [maxLen]; omega
        have b2 : (tx.length + 1) * 1 ≤ 140737488355328 := by omega
        have b3 : base ≤ (wr.alloc (.cells #[.int .u8 (lo / 16777216)] 5)).drew.heap.size := by simp; have := unhide hbs; omega
        replace b0 := hide b0; replace oA := hide oA; replace KA := hide KA; replace sA := hide sA; replace s1 := hide s1; replace b1 := hide b1; replace b2 := hide b2; replace b3 := hide b3
        go_wp2_with fail
        go_region_law (first
          | (refine step_app_at rfl (.tmp 54) (.tmp 61) 31 rfl base 5 i5 _ 1 1 Tryd.underlying31 hi5 iz0 iz1 iz2 rfl (Nat.succ_pos _) _ tx.length (tx.flatMap byc) rfl (unhide oA) (some ⟨wr.heap.size, 0, none⟩) 1 1 [.int .u8 (lo / 16777216)] rfl rfl (unhide sA) (unhide s1) (unhide b1) (unhide b2) (unhide b3) ?_
             intro v6 w6 o6 g6 l6
             obtain ⟨A6, ct6, rfl⟩ := ownsRow_form o6
             have K6 := Blk.grown (unhide KA) g6 (own_ne (unhide oA) (unhide KA) (by decide))
             have x6 := K6.frozen 2
             have y6 := K6.cell 2
             simp at y6
             replace K6 := hide K6; replace o6 := hide o6; replace g6 := hide g6; replace l6 := hide l6))
        all_goals
          clear c0 c2 c3 f0 f2 f3 x6 y6
          obtain ⟨g7, _, e7, _, _⟩ := own_pos (unhide o6) (by omega)
          subst e7
          have K7 := (unhide K6).set 2 (.slice (some ⟨g7, 0, none⟩) (tx.length + 1) ct6)
          have o7 := own_far (unhide o6) (unhide K6) (by decide) 2 (.slice (some ⟨g7, 0, none⟩) (tx.length + 1) ct6)
          have r6 := own_grown (own_drew ((unhide hr).alloc (.cells #[.int .u8 (lo / 16777216)] 5))) (unhide g6) (own_own (own_drew ((unhide hr).alloc (.cells #[.int .u8 (lo / 16777216)] 5))) (unhide oA) (by decide))
          have r7 := own_far r6 (unhide K6) (by decide) 2 (.slice (some ⟨g7, 0, none⟩) (tx.length + 1) ct6)
          have B7 := ((((unhide hB).alloc (.cells #[.int .u8 (lo / 16777216)] 5)).drew.grown (unhide g6) (fun q hq => .inl (by injection hq with hq; simp [← hq]))).set (p := ⟨g, 2, none⟩) (by simp) (.slice (some ⟨g7, 0, none⟩) (tx.length + 1) ct6))
          have hbs7 : base ≤ w6.heap.size := Nat.le_trans (unhide b3) (unhide g6).size
          clear r6 hK hr ht hB hbs oA KA sA s1 b1 b2 b3 K6 o6 g6 l6
          have z7 : w6.heap.size = (w6.setCell ⟨g, 2, none⟩ (.slice (some ⟨g7, 0, none⟩) (tx.length + 1) ct6)).heap.size := by simp
          rw [z7] at hbs7
          clear z7
          generalize w6.setCell ⟨g, 2, none⟩ (.slice (some ⟨g7, 0, none⟩) (tx.length + 1) ct6) = w7 at *
          simp at K7
          have c3 : w7.cell? ⟨g, 3, none⟩ = some (.int .u32 lo) := K7.cell 3
          have c0 : w7.cell? ⟨g, 0, none⟩ = some (.int .u32 sp) := K7.cell 0
          have f0 := K7.frozen 0
          have f3 := K7.frozen 3
          have K8 := K7.set 3 (.int .u32 (lo % 16777216 * 256))
          simp at K8
          have K9 := K8.set 0 (.int .u32 (sp * 256))
          simp at K9
          have o9 := own_far (own_far o7 K7 (by decide) 3 (.int .u32 (lo % 16777216 * 256))) K8 (by decide) 0 (.int .u32 (sp * 256))
          have r9 := own_far (own_far r7 K7 (by decide) 3 (.int .u32 (lo % 16777216 * 256))) K8 (by decide) 0 (.int .u32 (sp * 256))
          have B9 := ((B7.set (p := ⟨g, 3, none⟩) (by simp) (.int .u32 (lo % 16777216 * 256))).set (p := ⟨g, 0, none⟩) (by simp) (.int .u32 (sp * 256)))
          clear o7 r7 B7 K8 K7
          replace K9 := hide K9; replace o9 := hide o9; replace r9 := hide r9; replace B9 := hide B9; replace hbs7 := hide hbs7
          go_wp2_with fail
          clear j1 j2 j3
          go_roundg 0
          case measure => omega
          case rel =>
            refine ⟨sp * 256, lo % 16777216 * 256, tx ++ [lo / 16777216], g7, ct6, .inr ⟨rfl, hlt, rfl, rfl, rfl⟩, ?_, r9, ?_, B9, ?_⟩
            · rw [List.length_append]; exact K9
            · rw [List.length_append, List.flatMap_append]; exact o9
            · exact hide (by simp; exact unhide hbs7)
      · have hp : put s ⟨k, true⟩ = ⟨stepA s.c ⟨k, true⟩, sp, lo, tx⟩ := by
          unfold put
          rw [unhide hput1]
          exact if_neg hlt
        replace hp := hide hp
        clear hput1
        go_wp2_with fail
        refine bodyPost_end (results_none rfl _ _ _) rfl ?_
        rw [unhide hp]
        exact ⟨rfl, ⟨gt', ct', ⟨by rw [stepA_len]; exact unhide hK, by rw [stepA_len]; exact unhide hr, unhide ht⟩⟩, unhide hB⟩
    · have hp : put s ⟨k, true⟩ = ⟨stepA s.c ⟨k, true⟩, G * 256, L % 16777216 * 256, T ++ [L / 16777216]⟩ := by
        unfold put
        rw [unhide hput1]
        exact if_pos hlt
      replace hp := hide hp
      clear hput1
      go_wp2_with fail
      refine bodyPost_end (results_none rfl _ _ _) rfl ?_
      rw [unhide hp]
      exact ⟨rfl, gt', ct', ⟨by rw [stepA_len]; exact unhide hK, by rw [stepA_len]; exact unhide hr, unhide ht⟩, unhide hB⟩
end Go.Proofs.YthkccpemgmpadaaDoor.P

namespace Go.Proofs.YthkccpemgmpadaaDoor.P
set_option maxRecDepth 100000
open Go.RowKit

set_option maxHeartbeats 4000000 in
theorem put_false (base g gc cc gt ct k : Nat) (s : Enc) (w : World) (hW : Wrt base g gc cc gt ct w s.c s.span s.low s.text) (hk : k < s.c.length) (h : OkE s) (hl : s.text.length ≤ 1000000) :
    Calls Tryd.prog 56 #[.pointer (some ⟨g, 0, none⟩), .agg #[.int .i64 k, .bool false]] w fun e w' => e = .returned (.tuple #[]) ∧ ∃ gt' ct', Wrt base g gc cc gt' ct' w' (put s ⟨k, false⟩).c (put s ⟨k, false⟩).span (put s ⟨k, false⟩).low (put s ⟨k, false⟩).text ∧ But [g, gc, gt] w w' := by
  have hx := (own_cell hW.c k hk).trans (ivc_at s.c k hk)
  have hpc := (okC_iff.1 h.c).2 _ (List.getElem_mem hk)
  have hpo := part_ok h.c (i := (k : Int)) (by omega) (by omega) h.span
  have hpp : partP s.span s.c (k : Int) = s.span / 2048 * s.c[k] := by unfold partP; rw [Int.toNat_natCast, getD_get hk]
  have hP := fun W (a : W.cell? ⟨g, 0, none⟩ = some (.int .u32 s.span)) (b : W.cell? ⟨g, 1, none⟩ = some (.slice (some ⟨gc, 0, none⟩) s.c.length cc)) (c : W.cell? ⟨gc, k, none⟩ = some (.int .i64 s.c[k])) => part_any g gc s.c.length cc k s.span s.c[k] W a b hk c h.span hpc
  rw [← hpp] at hP
  have hsp := h.span
  have hlo := h.low
  have hLf := fun W a => left_any g s.span (partP s.span s.c (k : Int)) false W a (by omega) (by omega)
  have hLn := fun W a b => learn_any g gc cc k base s.c false W a hk b h.c
  obtain ⟨hK, hc, ht⟩ := hW
  have c0 := hK.cell 0
  have c1 := hK.cell 1
  simp at c0 c1
  have hgl := hK.lt
  have hgc : gc < w.heap.size := World.block_lt_of_cell? w _ hx
  have hb0 : Blk (w.alloc (.cells #[.int .i64 k, .bool false] 104)) w.heap.size 104 #[.int .i64 k, .bool false] := Blk.new rfl
  have hK0 := hK.alloc (.cells #[.int .i64 k, .bool false] 104)
  have hc0 := hc.alloc (.cells #[.int .i64 k, .bool false] 104)
  have ht0 := ht.alloc (.cells #[.int .i64 k, .bool false] 104)
  have hx0 := (own_cell hc0 k hk).trans (ivc_at s.c k hk)
  obtain ⟨w1, hw1⟩ : ∃ w1, w1 = w.alloc (.cells #[.int .i64 k, .bool false] 104) := ⟨_, rfl⟩
  rw [← hw1] at hb0 hK0 hc0 ht0 hx0
  have d0 : w1.cell? ⟨g, 0, none⟩ = some (.int .u32 s.span) := hK0.cell 0
  have d1 : w1.cell? ⟨g, 1, none⟩ = some (.slice (some ⟨gc, 0, none⟩) s.c.length cc) := hK0.cell 1
  have e0 : w1.cell? ⟨w.heap.size, 0, none⟩ = some (.int .i64 k) := hb0.cell 0
  have e1 : w1.cell? ⟨w.heap.size, 1, none⟩ = some (.bool false) := hb0.cell 1
  have hB0 : But [g, gc, gt] w w1 := by rw [hw1]; exact (But.refl _ _).alloc _
  replace hP := hide hP; replace hLf := hide hLf; replace hLn := hide hLn; replace hpo := hide hpo
  replace hK0 := hide hK0; replace hc0 := hide hc0; replace ht0 := hide ht0; replace hb0 := hide hb0; replace hB0 := hide hB0
  generalize hz : partP s.span s.c (k : Int) = z at *
  generalize s.c[k] = p at *
  clear hpp hpc hK hc ht c0 c1 hx
  go_enter Tryd.func56, Tryd.ntmps56
  go_wp2_with fail
  rw [← hw1]
  clear hw1
  generalize w.heap.size = gb at *
  go_quiet ((go_at_call 72; exact Calls.quiet_of (unhide hP _ d0 d1 hx0)))
  obtain ⟨w2, hw2⟩ : ∃ w2, w2 = w1.drewN nq := ⟨_, rfl⟩
  have K2 := (unhide hK0).drewN nq
  have b2 := (unhide hb0).drewN nq
  have r2 : (w1.drewN nq).ownsRow base 3 1 (.slice (some ⟨gc, 0, none⟩) s.c.length cc) s.c.length (s.c.flatMap ivc) := unhide hc0
  have t2 : (w1.drewN nq).ownsRow base 5 1 (.slice (some ⟨gt, 0, none⟩) s.text.length ct) s.text.length (s.text.flatMap byc) := unhide ht0
  have B2 := (unhide hB0).drewN nq
  rw [← hw2] at K2 b2 r2 t2 B2 ⊢
  clear hw2 hK0 hb0 hc0 ht0 hB0 d0 d1 e0 e1 hx0
  have n1 : gb ≠ g := b2.ne_ K2 (by decide)
  have n2 : gb ≠ gt := fun e => own_not t2 (by decide : (5 : TypeId) ≠ 104) (e ▸ b2)
  have n3 : gb ≠ gc := fun e => own_not r2 (by decide : (3 : TypeId) ≠ 104) (e ▸ b2)
  have n4 : g ≠ gc := fun e => own_not r2 (by decide : (3 : TypeId) ≠ 108) (e ▸ K2)
  have n5 : g ≠ gt := fun e => own_not t2 (by decide : (5 : TypeId) ≠ 108) (e ▸ K2)
  have n6 : gt ≠ gc := fun e => by
    obtain ⟨_, cur, e1, _, hh⟩ := own_pos r2 (by omega)
    injection e1 with e1
    injection e1 with e1
    subst e1 e
    exact own_not t2 (by decide : (5 : TypeId) ≠ 3) hh
  have e1 : w2.cell? ⟨gb, 1, none⟩ = some (.bool false) := b2.cell 1
  replace K2 := hide K2; replace b2 := hide b2; replace r2 := hide r2; replace t2 := hide t2; replace B2 := hide B2
  replace n1 := hide n1; replace n2 := hide n2; replace n3 := hide n3; replace n4 := hide n4; replace n5 := hide n5; replace n6 := hide n6
  go_wp2_with fail
  generalize w2 = w3 at *
  have K3 := unhide K2; have r3 := unhide r2; have t3 := unhide t2; have b3 := unhide b2; have B3 := unhide B2
  have f1 : w3.cell? ⟨gb, 1, none⟩ = some (.bool false) := b3.cell 1
  have f0 : w3.cell? ⟨g, 0, none⟩ = some (.int .u32 s.span) := K3.cell 0
  have f2 := K3.frozen 0
  obtain ⟨T, hT⟩ : ∃ T, s.text = T := ⟨_, rfl⟩
  obtain ⟨L, hL⟩ : ∃ L, s.low = L := ⟨_, rfl⟩
  have hl1 : T.length = s.text.length := by rw [hT]
  rw [← hl1] at K3 t3
  rw [hL] at K3
  rw [hT] at t3
  clear e1 b2 r2 t2 K2 B2
  replace K3 := hide K3; replace b3 := hide b3; replace r3 := hide r3; replace t3 := hide t3; replace B3 := hide B3; replace hT := hide hT; replace hL := hide hL; replace hl1 := hide hl1
  simp only [Bool.false_eq_true, if_false] at hLf
  go_region_held3 (fun W => W.cell? ⟨gb, 1, none⟩ = some (.bool false)) (first | assumption | go_simp)
    (first
      | (go_at_call 74; refine (unhide hLf _ (by first | assumption | exact f0)).mono ?_; rintro e w1 ⟨rfl, rfl⟩))
  obtain ⟨w4, hw4⟩ : ∃ w4, w4 = (w3.setCell ⟨g, 0, none⟩ (.int .u32 z)).drew := ⟨_, rfl⟩
  have K4 := ((unhide K3).set 0 (.int .u32 z)).drew
  simp at K4
  have b4 := ((unhide b3).far (p := ⟨g, 0, none⟩) (unhide n1) (.int .u32 z)).drew
  have r4 := own_drew (own_far (unhide r3) (unhide K3) (by decide) 0 (.int .u32 z))
  have t4 := own_drew (own_far (unhide t3) (unhide K3) (by decide) 0 (.int .u32 z))
  have B4 := ((unhide B3).set (p := ⟨g, 0, none⟩) (by simp) (.int .u32 z)).drew
  rw [← hw4] at K4 b4 r4 t4 B4 ⊢
  clear hw4 K3 b3 r3 t3 B3 f0 f1 f2
  have g0 : w4.cell? ⟨gb, 0, none⟩ = some (.int .i64 k) := b4.cell 0
  have g1 : w4.cell? ⟨gb, 1, none⟩ = some (.bool false) := b4.cell 1
  have g2 : w4.cell? ⟨g, 1, none⟩ = some (.slice (some ⟨gc, 0, none⟩) s.c.length cc) := K4.cell 1
  replace K4 := hide K4; replace b4 := hide b4; replace r4 := hide r4; replace t4 := hide t4; replace B4 := hide B4
  obtain ⟨G, hG⟩ : ∃ G, z = G := ⟨_, rfl⟩
  rw [hG] at K4
  replace hG := hide hG
  go_wp2_with fail
  go_region_held3 (fun W => W.cell? ⟨gb, 0, none⟩ = some (.int .i64 k) ∧ W.cell? ⟨gb, 1, none⟩ = some (.bool false)) (first | exact ⟨by assumption, by assumption⟩ | exact ⟨by go_simp, by go_simp⟩)
    (first
      | (go_at_call 75; refine (unhide hLn w4.drew g2 (own_drew (unhide r4))).mono ?_; rintro e w5 ⟨rfl, r5, B5⟩
         have h0 : w5.cell? ⟨gb, 0, none⟩ = some (.int .i64 k) := ((unhide b4).drew.but B5 (by simp [unhide n3])).cell 0
         have h1 : w5.cell? ⟨gb, 1, none⟩ = some (.bool false) := ((unhide b4).drew.but B5 (by simp [unhide n3])).cell 1
         replace r5 := hide r5; replace B5 := hide B5))
  have K5 := (unhide K4).drew.but (unhide B5) (by simp [unhide n4])
  have t5 := own_but (own_drew (unhide t4)) (unhide B5) (fun q hq cs hcs => by
    simp only [List.mem_cons, List.not_mem_nil, or_false] at hq
    subst hq
    obtain ⟨_, cur, e1, _, hh⟩ := own_pos (unhide r4) (by omega)
    injection e1 with e1
    injection e1 with e1
    subst e1
    exact (Blk.ne_ (w := w4.drew) hh hcs (by decide)) rfl)
  have B6 : But [g, gc, gt] w w5 := (unhide B4).drew.trans ((unhide B5).mono (by simp))
  have hbase : base ≤ w5.heap.size := by
    obtain ⟨_, cur, e1, h2, hh⟩ := own_pos (unhide r5) (by omega)
    have := hh.lt
    omega
  clear K4 b4 r4 t4 B4 B5 g0 g1 g2 h0 h1
  replace K5 := hide K5; replace t5 := hide t5; replace B6 := hide B6; replace hbase := hide hbase
  have hL0 : 0 ≤ L ∧ L < 4294967296 := by have := unhide hL; omega
  have hG0 : 253952 ≤ G ∧ G < 4294967296 := by have := unhide hG; have := unhide hpo; omega
  have hT1 : T.length = s.text.length := unhide hl1
  have hput1 : put1 s ⟨k, false⟩ = ⟨stepA s.c ⟨k, false⟩, G, L, T⟩ := by
    unfold put1
    simp only [hz, unhide hG, Bool.false_eq_true, if_false, false_and, unhide hL, unhide hT]
  replace hput1 := hide hput1; replace hT1 := hide hT1
  clear hpo hG hL hT hLf hLn hP hl1
  obtain ⟨i5, hi5, iz0, iz1, iz2⟩ := info5'
  go_wp2_with fail
  go_loopg [] 1 (fun kk wr => ∃ (sp lo : Int) (tx : List Int) (gt' ct' : Nat), ((kk = 1 ∧ sp = G ∧ lo = L ∧ tx = T ∧ gt' = gt) ∨ (kk = 0 ∧ G < 16777216 ∧ sp = G * 256 ∧ lo = L % 16777216 * 256 ∧ tx = T ++ [L / 16777216])) ∧
    Hid (Blk wr g 108 #[.int .u32 sp, .slice (some ⟨gc, 0, none⟩) s.c.length cc, .slice (some ⟨gt', 0, none⟩) tx.length ct', .int .u32 lo]) ∧
    Hid (wr.ownsRow base 3 1 (.slice (some ⟨gc, 0, none⟩) s.c.length cc) s.c.length ((stepA s.c ⟨k, false⟩).flatMap ivc)) ∧ Hid (wr.ownsRow base 5 1 (.slice (some ⟨gt', 0, none⟩) tx.length ct') tx.length (tx.flatMap byc)) ∧ Hid (But [g, gc, gt] w wr) ∧ Hid (base ≤ wr.heap.size))
  case atStart => exact ⟨G, L, T, gt, ct, .inl ⟨rfl, rfl, rfl, rfl, rfl⟩, K5, r5, t5, B6, hbase⟩
  case round =>
    obtain ⟨sp, lo, tx, gt', ct', hcase, hK, hr, ht, hB, hbs⟩ := hrel
    have c0 : wr.cell? ⟨g, 0, none⟩ = some (.int .u32 sp) := (unhide hK).cell 0
    have c2 : wr.cell? ⟨g, 2, none⟩ = some (.slice (some ⟨gt', 0, none⟩) tx.length ct') := (unhide hK).cell 2
    have c3 : wr.cell? ⟨g, 3, none⟩ = some (.int .u32 lo) := (unhide hK).cell 3
    have f0 := (unhide hK).frozen 0
    have f2 := (unhide hK).frozen 2
    have f3 := (unhide hK).frozen 3
    have hgl' := (unhide hK).lt
    rcases hcase with ⟨rfl, rfl, rfl, rfl, rfl⟩ | ⟨rfl, hlt, rfl, rfl, rfl⟩
    · by_cases hlt : sp < 16777216
      · have j1 : IntKind.u8.wrap (lo / 16777216) = lo / 16777216 := IntWalk.u8_in _ (by omega)
        have j2 : IntKind.u32.wrap (lo * 256) = lo % 16777216 * 256 := by rw [IntKind.wrap_u32]; omega
        have j3 : IntKind.u32.wrap (sp * 256) = sp * 256 := IntWalk.u32_in _ (by omega)
        have oA := own_drew ((unhide ht).alloc (.cells #[.int .u8 (lo / 16777216)] 5))
        have KA := ((unhide hK).alloc (.cells #[.int .u8 (lo / 16777216)] 5)).drew
        have sA : SrcOk (wr.alloc (.cells #[.int .u8 (lo / 16777216)] 5)).drew (some ⟨wr.heap.size, 0, none⟩) 1 [.int .u8 (lo / 16777216)] := SrcOk.blk (cur := [.int .u8 (lo / 16777216)]) (Blk.drew (Blk.new rfl)) fun j u hu => by simpa using hu
        have s1 : ∀ u ∈ [Value.int .u8 (lo / 16777216)], u.oneCell' = true := by intro u hu; simp at hu; subst hu; rfl
        have b0 := unhide hT1
        have b1 : tx.length + 1 ≤ maxLen := by simp only [maxLen]; omega
        have b2 : (tx.length + 1) * 1 ≤ 140737488355328 := by omega
        have b3 : base ≤ (wr.alloc (.cells #[.int .u8 (lo / 16777216)] 5)).drew.heap.size := by simp; have := unhide hbs; omega
        replace b0 := hide b0; replace oA := hide oA; replace KA := hide KA; replace sA := hide sA; replace s1 := hide s1; replace b1 := hide b1; replace b2 := hide b2; replace b3 := hide b3
        go_wp2_with fail
        go_region_law (first
          | (refine step_app_at rfl (.tmp 54) (.tmp 61) 31 rfl base 5 i5 _ 1 1 Tryd.underlying31 hi5 iz0 iz1 iz2 rfl (Nat.succ_pos _) _ tx.length (tx.flatMap byc) rfl (unhide oA) (some ⟨wr.heap.size, 0, none⟩) 1 1 [.int .u8 (lo / 16777216)] rfl rfl (unhide sA) (unhide s1) (unhide b1) (unhide b2) (unhide b3) ?_
             intro v6 w6 o6 g6 l6
             obtain ⟨A6, ct6, rfl⟩ := ownsRow_form o6
             have K6 := Blk.grown (unhide KA) g6 (own_ne (unhide oA) (unhide KA) (by decide))
             have x6 := K6.frozen 2
             have y6 := K6.cell 2
             simp at y6
             replace K6 := hide K6; replace o6 := hide o6; replace g6 := hide g6; replace l6 := hide l6))
        all_goals
          clear c0 c2 c3 f0 f2 f3 x6 y6
          obtain ⟨g7, _, e7, _, _⟩ := own_pos (unhide o6) (by omega)
          subst e7
          have K7 := (unhide K6).set 2 (.slice (some ⟨g7, 0, none⟩) (tx.length + 1) ct6)
          have o7 := own_far (unhide o6) (unhide K6) (by decide) 2 (.slice (some ⟨g7, 0, none⟩) (tx.length + 1) ct6)
          have r6 := own_grown (own_drew ((unhide hr).alloc (.cells #[.int .u8 (lo / 16777216)] 5))) (unhide g6) (own_own (own_drew ((unhide hr).alloc (.cells #[.int .u8 (lo / 16777216)] 5))) (unhide oA) (by decide))
          have r7 := own_far r6 (unhide K6) (by decide) 2 (.slice (some ⟨g7, 0, none⟩) (tx.length + 1) ct6)
          have B7 := ((((unhide hB).alloc (.cells #[.int .u8 (lo / 16777216)] 5)).drew.grown (unhide g6) (fun q hq => .inl (by injection hq with hq; simp [← hq]))).set (p := ⟨g, 2, none⟩) (by simp) (.slice (some ⟨g7, 0, none⟩) (tx.length + 1) ct6))
          have hbs7 : base ≤ w6.heap.size := Nat.le_trans (unhide b3) (unhide g6).size
          clear r6 hK hr ht hB hbs oA KA sA s1 b1 b2 b3 K6 o6 g6 l6
          have z7 : w6.heap.size = (w6.setCell ⟨g, 2, none⟩ (.slice (some ⟨g7, 0, none⟩) (tx.length + 1) ct6)).heap.size := by simp
          rw [z7] at hbs7
          clear z7
          generalize w6.setCell ⟨g, 2, none⟩ (.slice (some ⟨g7, 0, none⟩) (tx.length + 1) ct6) = w7 at *
          simp at K7
          have c3 : w7.cell? ⟨g, 3, none⟩ = some (.int .u32 lo) := K7.cell 3
          have c0 : w7.cell? ⟨g, 0, none⟩ = some (.int .u32 sp) := K7.cell 0
          have f0 := K7.frozen 0
          have f3 := K7.frozen 3
          have K8 := K7.set 3 (.int .u32 (lo % 16777216 * 256))
          simp at K8
          have K9 := K8.set 0 (.int .u32 (sp * 256))
          simp at K9
          have o9 := own_far (own_far o7 K7 (by decide) 3 (.int .u32 (lo % 16777216 * 256))) K8 (by decide) 0 (.int .u32 (sp * 256))
          have r9 := own_far (own_far r7 K7 (by decide) 3 (.int .u32 (lo % 16777216 * 256))) K8 (by decide) 0 (.int .u32 (sp * 256))
          have B9 := ((B7.set (p := ⟨g, 3, none⟩) (by simp) (.int .u32 (lo % 16777216 * 256))).set (p := ⟨g, 0, none⟩) (by simp) (.int .u32 (sp * 256)))
          clear o7 r7 B7 K8 K7
          replace K9 := hide K9; replace o9 := hide o9; replace r9 := hide r9; replace B9 := hide B9; replace hbs7 := hide hbs7
          go_wp2_with fail
          clear j1 j2 j3
          go_roundg 0
          case measure => omega
          case rel =>
            refine ⟨sp * 256, lo % 16777216 * 256, tx ++ [lo / 16777216], g7, ct6, .inr ⟨rfl, hlt, rfl, rfl, rfl⟩, ?_, r9, ?_, B9, ?_⟩
            · rw [List.length_append]; exact K9
            · rw [List.length_append, List.flatMap_append]; exact o9
            · exact hide (by simp; exact unhide hbs7)
      · have hp : put s ⟨k, false⟩ = ⟨stepA s.c ⟨k, false⟩, sp, lo, tx⟩ := by
          unfold put
          rw [unhide hput1]
          exact if_neg hlt
        replace hp := hide hp
        clear hput1
        go_wp2_with fail
        refine bodyPost_end (results_none rfl _ _ _) rfl ?_
        rw [unhide hp]
        exact ⟨rfl, ⟨gt', ct', ⟨by rw [stepA_len]; exact unhide hK, by rw [stepA_len]; exact unhide hr, unhide ht⟩⟩, unhide hB⟩
    · have hp : put s ⟨k, false⟩ = ⟨stepA s.c ⟨k, false⟩, G * 256, L % 16777216 * 256, T ++ [L / 16777216]⟩ := by
        unfold put
        rw [unhide hput1]
        exact if_pos hlt
      replace hp := hide hp
      clear hput1
      go_wp2_with fail
      refine bodyPost_end (results_none rfl _ _ _) rfl ?_
      rw [unhide hp]
      exact ⟨rfl, gt', ct', ⟨by rw [stepA_len]; exact unhide hK, by rw [stepA_len]; exact unhide hr, unhide ht⟩, unhide hB⟩
end Go.Proofs.YthkccpemgmpadaaDoor.P
