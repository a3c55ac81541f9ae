
namespace Go.Proofs.YthkccpemgmpadaaGreatDoor.P
set_option maxRecDepth 100000
structure Tok where
  lit : UInt8
  len : Int
  dist : Int
theorem Tok.eq {s t : Tok} (h0 : s.lit = t.lit) (h1 : s.len = t.len) (h2 : s.dist = t.dist) : s = t := by
  cases s; cases t; simp_all
instance : DecidableEq Tok := fun s t =>
  if h : s.lit = t.lit ∧ s.len = t.len ∧ s.dist = t.dist then isTrue (Tok.eq h.1 h.2.1 h.2.2) else isFalse (by rintro rfl; exact h ⟨rfl, rfl, rfl⟩)
def okT (t : Tok) : Bool := if t.len = 0 then decide (t.dist = 0) else decide (t.lit = 0) && decide (3 ≤ t.len) && decide (t.len ≤ 18) && decide (1 ≤ t.dist) && decide (t.dist ≤ 256)
def sizeT (t : Tok) : Int := if t.len = 0 then 1 else t.len
def okL : Int → List Tok → Bool
  | _, [] => true
  | n, t :: r => okT t && decide (t.dist ≤ n) && okL (n + sizeT t) r
def sumT : List Tok → Int
  | [] => 0
  | t :: r => sizeT t + sumT r
theorem okT_size {t : Tok} (h : okT t = true) : 1 ≤ sizeT t ∧ sizeT t ≤ 18 := by
  unfold okT at h; unfold sizeT
  split at h <;> rename_i h0
  · simp [h0]
  · simp at h; simp [h0]; omega
theorem okT_len {t : Tok} (h : okT t = true) (h0 : t.len ≠ 0) : t.lit = 0 ∧ 3 ≤ t.len ∧ t.len ≤ 18 ∧ 1 ≤ t.dist ∧ t.dist ≤ 256 := by
  unfold okT at h
  rw [if_neg h0] at h; simp at h; exact ⟨h.1.1.1.1, by omega, by omega, by omega, by omega⟩
theorem okL_cons {n : Int} {t : Tok} {r : List Tok} : okL n (t :: r) = true ↔ okT t = true ∧ t.dist ≤ n ∧ okL (n + sizeT t) r = true := by
  simp [okL, and_assoc]
theorem sumT_append (p q : List Tok) : sumT (p ++ q) = sumT p + sumT q := by
  induction p with
  | nil => simp [sumT]
  | cons t r ih => simp [sumT, ih]; omega
theorem okL_append {n : Int} {p q : List Tok} : okL n (p ++ q) = true ↔ okL n p = true ∧ okL (n + sumT p) q = true := by
  induction p generalizing n with
  | nil => simp [okL, sumT]
  | cons t r ih => simp only [List.cons_append, okL_cons, ih, sumT, Int.add_assoc, and_assoc]
theorem okL_sum {n : Int} {l : List Tok} (h : okL n l = true) : (l.length : Int) ≤ sumT l ∧ sumT l ≤ 18 * l.length := by
  induction l generalizing n with
  | nil => simp [sumT]
  | cons t r ih =>
    rw [okL_cons] at h
    have h1 := okT_size h.1
    have h2 := ih h.2.2
    simp only [sumT, List.length_cons]
    omega
theorem okL_take {n : Int} {l : List Tok} (k : Nat) (h : okL n l = true) : okL n (l.take k) = true := by
  have : l.take k ++ l.drop k = l := List.take_append_drop k l
  rw [← this, okL_append] at h
  exact h.1
theorem sumT_snoc {l : List Tok} {k : Nat} (h : k < l.length) : sumT (l.take (k + 1)) = sumT (l.take k) + sizeT l[k] := by
  rw [List.take_add_one, List.getElem?_eq_getElem h, Option.toList_some, sumT_append]; simp [sumT]
theorem okL_get {n : Int} {l : List Tok} {k : Nat} (h : k < l.length) (ho : okL n l = true) : okT l[k] = true ∧ l[k].dist ≤ n + sumT (l.take k) := by
  have : l.take k ++ l.drop k = l := List.take_append_drop k l
  rw [← this, okL_append, List.drop_eq_getElem_cons h, okL_cons] at ho
  exact ⟨ho.2.1, ho.2.2.1⟩
def tellN (b : List UInt8) (d : Nat) : Nat → List UInt8
  | 0 => b
  | k + 1 => tellN b d k ++ [(tellN b d k).getD ((tellN b d k).length - d) 0]
def tellT (b : List UInt8) (t : Tok) : List UInt8 := if t.len = 0 then b ++ [t.lit] else tellN b t.dist.toNat t.len.toNat
def textF : List UInt8 → List Tok → List UInt8
  | b, [] => b
  | b, t :: r => textF (tellT b t) r
theorem tellN_len (b : List UInt8) (d k : Nat) : (tellN b d k).length = b.length + k := by
  induction k with
  | zero => rfl
  | succ k ih => simp [tellN, ih]; omega
theorem tellT_len {b : List UInt8} {t : Tok} (h : okT t = true) : ((tellT b t).length : Int) = b.length + sizeT t := by
  unfold tellT sizeT
  split
  · simp
  · rename_i h0; have := okT_len h h0; rw [tellN_len]; omega
theorem textF_append (b : List UInt8) (p q : List Tok) : textF b (p ++ q) = textF (textF b p) q := by
  induction p generalizing b with
  | nil => rfl
  | cons t r ih => simp [textF, ih]
theorem textF_len {n : Int} {b : List UInt8} {l : List Tok} (h : okL n l = true) : ((textF b l).length : Int) = b.length + sumT l := by
  induction l generalizing n b with
  | nil => simp [textF, sumT]
  | cons t r ih =>
    rw [okL_cons] at h
    rw [textF, ih h.2.2, tellT_len h.1]; simp only [sumT]; omega
theorem textF_snoc {b : List UInt8} {l : List Tok} {k : Nat} (h : k < l.length) : textF b (l.take (k + 1)) = tellT (textF b (l.take k)) l[k] := by
  rw [List.take_add_one, List.getElem?_eq_getElem h, Option.toList_some, textF_append]; rfl
theorem tellN_get {b : List UInt8} {d k i : Nat} (h1 : b.length ≤ i) (h2 : i < b.length + k) (hd : 1 ≤ d) (hd' : d ≤ b.length) : (tellN b d k).getD i 0 = (tellN b d k).getD (i - d) 0 := by
  induction k with
  | zero => omega
  | succ k ih =>
    have hl := tellN_len b d k
    have hg : ∀ j, j < b.length + k → (tellN b d (k + 1)).getD j 0 = (tellN b d k).getD j 0 := fun j hj => by
      rw [tellN, List.getD_eq_getElem?_getD, List.getElem?_append_left (by omega), ← List.getD_eq_getElem?_getD]
    rcases Nat.lt_or_ge i (b.length + k) with h | h
    · rw [hg i h, hg (i - d) (by omega)]; exact ih h
    · obtain rfl : i = b.length + k := by omega
      rw [hg (b.length + k - d) (by omega), tellN, List.getD_eq_getElem?_getD, List.getElem?_append_right (by omega), hl]
      simp
def alkF (b : List UInt8) (f a : Nat) : Nat → Nat
  | 0 => 0
  | k + 1 => if a < b.length ∧ b.getD f 0 = b.getD a 0 then alkF b (f + 1) (a + 1) k + 1 else 0
theorem alkF_le (b : List UInt8) (f a k : Nat) : alkF b f a k ≤ k := by
  induction k generalizing f a with
  | zero => exact Nat.le_refl _
  | succ k ih => rw [alkF]; split
                 · have := ih (f + 1) (a + 1); omega
                 · omega
theorem alkF_end (b : List UInt8) (f a k : Nat) (h : a ≤ b.length) : a + alkF b f a k ≤ b.length := by
  induction k generalizing f a with
  | zero => exact h
  | succ k ih =>
    rw [alkF]
    split
    · rename_i h1; have := ih (f + 1) (a + 1) (by omega); omega
    · exact h
theorem alkF_same (b : List UInt8) (f a k i : Nat) (h : i < alkF b f a k) : b.getD (f + i) 0 = b.getD (a + i) 0 := by
  induction k generalizing f a i with
  | zero => rw [alkF] at h; omega
  | succ k ih =>
    rw [alkF] at h
    split at h
    · rename_i h1
      cases i with
      | zero => exact h1.2
      | succ i =>
        have := ih (f + 1) (a + 1) i (by omega)
        rw [show f + (i + 1) = f + 1 + i by omega, show a + (i + 1) = a + 1 + i by omega]; exact this
    · omega
theorem alkF_ge (b : List UInt8) (f a k n : Nat) (h1 : n ≤ k) (h2 : a + n ≤ b.length) (h : ∀ i, i < n → b.getD (f + i) 0 = b.getD (a + i) 0) : n ≤ alkF b f a k := by
  induction k generalizing f a n with
  | zero => omega
  | succ k ih =>
    cases n with
    | zero => omega
    | succ n =>
      rw [alkF, if_pos ⟨by omega, by simpa using h 0 (by omega)⟩]
      have := ih (f + 1) (a + 1) n (by omega) (by omega) fun i hi => by
        have := h (i + 1) (by omega)
        rw [show f + 1 + i = f + (i + 1) by omega, show a + 1 + i = a + (i + 1) by omega]; exact this
      omega
theorem alkF_go {b : List UInt8} {f a k N : Nat} (h : N = k + alkF b (f + k) (a + k) (18 - k)) (h1 : k < 18) (h2 : a + k < b.length) (h3 : b.getD (f + k) 0 = b.getD (a + k) 0) : N = (k + 1) + alkF b (f + (k + 1)) (a + (k + 1)) (18 - (k + 1)) := by
  rw [h, show 18 - k = (18 - (k + 1)) + 1 by omega, alkF, if_pos ⟨h2, h3⟩]
  rw [show f + (k + 1) = f + k + 1 by omega, show a + (k + 1) = a + k + 1 by omega]
  omega
theorem alkF_stop {b : List UInt8} {f a k N : Nat} (h : N = k + alkF b (f + k) (a + k) (18 - k)) (h1 : ¬ (k < 18 ∧ a + k < b.length ∧ b.getD (f + k) 0 = b.getD (a + k) 0)) : N = k := by
  rw [h]
  rcases Nat.lt_or_ge k 18 with h2 | h2
  · rw [show 18 - k = (18 - (k + 1)) + 1 by omega, alkF, if_neg (fun h => h1 ⟨h2, h⟩)]; rfl
  · rw [show 18 - k = 0 by omega, alkF]; rfl
def bestF (b : List UInt8) (a : Nat) : Nat → Nat × Nat
  | 0 => (2, 0)
  | D + 1 => if (bestF b a D).1 < alkF b (a - (D + 1)) a 18 then (alkF b (a - (D + 1)) a 18, D + 1) else bestF b a D
theorem bestF_two (b : List UInt8) (a D : Nat) : 2 ≤ (bestF b a D).1 ∧ (bestF b a D).1 ≤ 18 ∧ (bestF b a D).2 ≤ D ∧ ((bestF b a D).2 = 0 → (bestF b a D).1 = 2) ∧
    (0 < (bestF b a D).2 → 3 ≤ (bestF b a D).1 ∧ alkF b (a - (bestF b a D).2) a 18 = (bestF b a D).1) := by
  induction D with
  | zero => simp [bestF]
  | succ D ih =>
    obtain ⟨h1, h2, h3, h4, h5⟩ := ih
    rw [bestF]
    have := alkF_le b (a - (D + 1)) a 18
    split
    · exact ⟨by simp only []; omega, this, Nat.le_refl _, fun h => by simp at h, fun _ => ⟨by simp only []; omega, rfl⟩⟩
    · exact ⟨h1, h2, by omega, h4, h5⟩
theorem bestF_most (b : List UInt8) (a D d : Nat) (h0 : 1 ≤ d) (hd : d ≤ D) : alkF b (a - d) a 18 ≤ (bestF b a D).1 ∧ (3 ≤ alkF b (a - d) a 18 → alkF b (a - d) a 18 = (bestF b a D).1 → (bestF b a D).2 ≤ d) := by
  induction D with
  | zero => omega
  | succ D ih =>
    have h2 := bestF_two b a D
    rw [bestF]
    rcases Nat.lt_or_ge D d with h | h
    · obtain rfl : d = D + 1 := by omega
      split
      · exact ⟨Nat.le_refl _, fun _ _ => Nat.le_refl _⟩
      · exact ⟨by omega, fun _ _ => by omega⟩
    · obtain ⟨g1, g2⟩ := ih h
      split
      · exact ⟨by simp only []; omega, fun _ h => by simp only [] at h; omega⟩
      · exact ⟨g1, g2⟩
def noT : Tok := ⟨0, 0, 0⟩
def findR (b : List UInt8) (at_ : Int) : Tok × Int :=
  if 65536 < b.length then (noT, 3) else if at_ < 0 ∨ (b.length : Int) ≤ at_ then (noT, 1) else
    if (bestF b at_.toNat (min at_.toNat 256)).2 = 0 then (noT, 4) else (⟨0, (bestF b at_.toNat (min at_.toNat 256)).1, (bestF b at_.toNat (min at_.toNat 256)).2⟩, 0)
def nextT (b : List UInt8) (a : Nat) : Tok := if (bestF b a (min a 256)).2 = 0 then ⟨b.getD a 0, 0, 0⟩ else ⟨0, (bestF b a (min a 256)).1, (bestF b a (min a 256)).2⟩
theorem nextT_ok {b : List UInt8} {a : Nat} (h : a < b.length) : okT (nextT b a) = true ∧ (nextT b a).dist ≤ a ∧ a + sizeT (nextT b a) ≤ b.length ∧ 1 ≤ sizeT (nextT b a) := by
  have h2 := bestF_two b a (min a 256)
  unfold nextT
  split
  · simp [okT, sizeT]; omega
  · rename_i h0
    obtain ⟨_, h18, hle, _, h5⟩ := h2
    obtain ⟨h3, h6⟩ := h5 (by omega)
    have := alkF_end b (a - (bestF b a (min a 256)).2) a 18 (by omega)
    have hne : ¬ (((bestF b a (min a 256)).1 : Nat) : Int) = 0 := by omega
    refine ⟨?_, by simp only []; omega, ?_, ?_⟩
    · simp only [okT, if_neg hne]; simp; omega
    · simp only [sizeT, if_neg hne]; omega
    · simp only [sizeT, if_neg hne]; omega
def toksF (b : List UInt8) : Nat → Nat → List Tok
  | 0, _ => []
  | k + 1, a => if a < b.length then nextT b a :: toksF b k (a + (sizeT (nextT b a)).toNat) else []
def toksB (b : List UInt8) : List Tok := toksF b b.length 0
theorem tellN_again {b : List UInt8} {a d : Nat} (hd : 1 ≤ d) (hda : d ≤ a) (n : Nat) (hn : a + n ≤ b.length) (h : ∀ i, i < n → b.getD (a - d + i) 0 = b.getD (a + i) 0) : tellN (b.take a) d n = b.take (a + n) := by
  induction n with
  | zero => rfl
  | succ n ih =>
    have ih' := ih (by omega) fun i hi => h i (by omega)
    have h1 := h n (by omega)
    rw [tellN, ih']
    have hlen : (b.take (a + n)).length = a + n := by rw [List.length_take]; omega
    rw [hlen]
    have hg : (b.take (a + n)).getD (a + n - d) 0 = b.getD (a + n) 0 := by
      rw [← h1, List.getD_eq_getElem?_getD, List.getElem?_take, if_pos (by omega), show a + n - d = a - d + n by omega, List.getD_eq_getElem?_getD]
    rw [hg, show a + (n + 1) = a + n + 1 by omega, List.take_add_one, List.getElem?_eq_getElem (by omega), List.getD_eq_getElem?_getD, List.getElem?_eq_getElem (by omega)]
    rfl
theorem nextT_tell {b : List UInt8} {a : Nat} (h : a < b.length) : tellT (b.take a) (nextT b a) = b.take (a + (sizeT (nextT b a)).toNat) := by
  have h2 := bestF_two b a (min a 256)
  unfold nextT
  split
  · simp only [tellT, sizeT, if_pos]
    rw [show a + (1 : Int).toNat = a + 1 from rfl, List.take_add_one, List.getElem?_eq_getElem h, List.getD_eq_getElem?_getD, List.getElem?_eq_getElem h]
    rfl
  · rename_i h0
    obtain ⟨_, h18, hle, _, h5⟩ := h2
    obtain ⟨h3, h6⟩ := h5 (by omega)
    have hend := alkF_end b (a - (bestF b a (min a 256)).2) a 18 (by omega)
    have hne : ¬ (((bestF b a (min a 256)).1 : Nat) : Int) = 0 := by omega
    simp only [tellT, sizeT, if_neg hne]
    rw [Int.toNat_natCast, Int.toNat_natCast]
    refine tellN_again (by omega) (by omega) _ (by omega) fun i hi => alkF_same b _ a 18 i (by omega)
theorem toksF_text (b : List UInt8) (k a : Nat) (h : b.length ≤ a + k) (ha : a ≤ b.length) : textF (b.take a) (toksF b k a) = b ∧ okL a (toksF b k a) = true := by
  induction k generalizing a with
  | zero => simp [toksF, textF, okL]; exact List.take_of_length_le (by omega)
  | succ k ih =>
    rw [toksF]
    split
    · rename_i h1
      obtain ⟨h2, h3, h4, h5⟩ := nextT_ok h1
      obtain ⟨g1, g2⟩ := ih (a + (sizeT (nextT b a)).toNat) (by omega) (by omega)
      rw [textF, nextT_tell h1, okL_cons]
      refine ⟨g1, h2, h3, ?_⟩
      rw [show (a : Int) + sizeT (nextT b a) = ((a + (sizeT (nextT b a)).toNat : Nat) : Int) by omega]
      exact g2
    · simp [textF, okL]; exact List.take_of_length_le (by omega)
theorem toksB_text (b : List UInt8) : textF [] (toksB b) = b ∧ okL 0 (toksB b) = true := toksF_text b b.length 0 (by omega) (by omega)
theorem toksB_sum (b : List UInt8) : sumT (toksB b) = b.length := by
  obtain ⟨h1, h2⟩ := toksB_text b
  have := textF_len (b := []) h2
  rw [h1] at this
  simp at this; omega
theorem toksB_len (b : List UInt8) : (toksB b).length ≤ b.length := by
  have h1 := toksB_sum b
  have h2 := okL_sum (toksB_text b).2
  omega
structure Bit where
  at_ : Int
  b : Bool
def isC (p : Int) : Bool := decide (31 ≤ p) && decide (p ≤ 2017)
def lrn (p : Int) (b : Bool) : Int := if b then p - p / 32 else p + (2048 - p) / 32
theorem isC_iff {p : Int} : isC p = true ↔ 31 ≤ p ∧ p ≤ 2017 := by simp [isC]
theorem lrn_ok {p : Int} (b : Bool) (h : isC p = true) : isC (lrn p b) = true := by
  rw [isC_iff] at *
  cases b <;> simp [lrn] <;> omega
def okC (l : List Int) : Bool := decide (l.length ≤ 1024) && l.all isC
def inB (n : Nat) (x : Bit) : Bool := decide (0 ≤ x.at_) && decide (x.at_ < n)
def stepA (l : List Int) (x : Bit) : List Int := l.set x.at_.toNat (lrn (l.getD x.at_.toNat 0) x.b)
theorem okC_iff {l : List Int} : okC l = true ↔ l.length ≤ 1024 ∧ ∀ p ∈ l, isC p = true := by simp [okC]
theorem inB_iff {n : Nat} {x : Bit} : inB n x = true ↔ 0 ≤ x.at_ ∧ x.at_ < n := by simp [inB]
theorem stepA_len (l : List Int) (x : Bit) : (stepA l x).length = l.length := by simp [stepA]
theorem stepA_ok {l : List Int} {x : Bit} (h : okC l = true) : okC (stepA l x) = true := by
  rw [okC_iff] at *
  refine ⟨by rw [stepA_len]; exact h.1, fun p hp => ?_⟩
  by_cases hi : x.at_.toNat < l.length
  · rcases List.mem_or_eq_of_mem_set hp with h1 | h1
    · exact h.2 p h1
    · rw [h1]
      refine lrn_ok _ (h.2 _ ?_)
      rw [List.getD_eq_getElem?_getD, List.getElem?_eq_getElem hi]
      exact List.getElem_mem _
  · unfold stepA at hp
    rw [List.set_eq_of_length_le (by omega)] at hp
    exact h.2 p hp
def numR : List Int → Int
  | [] => 0
  | x :: r => x + 256 * numR r
def num (l : List Int) : Int := numR l.reverse
def okB (l : List Int) : Prop := ∀ x ∈ l, 0 ≤ x ∧ x < 256
theorem num_snoc (l : List Int) (x : Int) : num (l ++ [x]) = num l * 256 + x := by simp [num, numR]; omega
theorem numR_lt {l : List Int} (h : okB l) : 0 ≤ numR l ∧ numR l < 256 ^ l.length := by
  induction l with
  | nil => simp [numR]
  | cons x r ih =>
    have h1 := ih fun y hy => h y (by simp [hy])
    have h2 := h x (by simp)
    rw [numR, List.length_cons, Int.pow_succ]
    generalize (256 : Int) ^ r.length = P at *
    omega
theorem okB_rev {l : List Int} (h : okB l) : okB l.reverse := fun x hx => h x (by simpa using hx)
theorem num_lt {l : List Int} (h : okB l) : 0 ≤ num l ∧ num l < 256 ^ l.length := by
  have := numR_lt (okB_rev h)
  simpa [num] using this
theorem okB_app {a b : List Int} (ha : okB a) (hb : okB b) : okB (a ++ b) := fun x hx => by
  rcases List.mem_append.1 hx with h | h
  · exact ha x h
  · exact hb x h
theorem okB_one {x : Int} (h : 0 ≤ x ∧ x < 256) : okB [x] := fun y hy => by simp at hy; subst hy; exact h
def incR : List Int → List Int
  | [] => []
  | x :: r => if x = 255 then 0 :: incR r else (x + 1) :: r
def inc (l : List Int) : List Int := (incR l.reverse).reverse
theorem incR_len (l : List Int) : (incR l).length = l.length := by
  induction l with
  | nil => rfl
  | cons x r ih => rw [incR]; split <;> simp [ih]
theorem inc_len (l : List Int) : (inc l).length = l.length := by simp [inc, incR_len]
theorem incR_ok {l : List Int} (h : okB l) : okB (incR l) := by
  induction l with
  | nil => exact h
  | cons x r ih =>
    have h1 := ih fun y hy => h y (by simp [hy])
    have h2 := h x (by simp)
    rw [incR]
    split
    · intro y hy
      rcases List.mem_cons.1 hy with rfl | hy
      · omega
      · exact h1 y hy
    · intro y hy
      rcases List.mem_cons.1 hy with rfl | hy
      · omega
      · exact h y (by simp [hy])
theorem inc_ok {l : List Int} (h : okB l) : okB (inc l) := okB_rev (incR_ok (okB_rev h))
theorem incR_num {l : List Int} (h : okB l) (hl : numR l + 1 < 256 ^ l.length) : numR (incR l) = numR l + 1 := by
  induction l with
  | nil => simp [numR] at hl
  | cons x r ih =>
    have h2 := h x (by simp)
    rw [incR]
    split
    · rename_i e
      subst e
      rw [numR, List.length_cons, Int.pow_succ] at hl
      have := ih (fun y hy => h y (by simp [hy])) (by generalize (256 : Int) ^ r.length = P at *; omega)
      rw [numR, numR, this]
      omega
    · rw [numR, numR]; omega
theorem inc_num {l : List Int} (h : okB l) (hl : num l + 1 < 256 ^ l.length) : num (inc l) = num l + 1 := by
  have := incR_num (okB_rev h) (by simpa [num] using hl)
  simpa [num, inc] using this
def partP (s : Int) (c : List Int) (i : Int) : Int := s / 2048 * c.getD i.toNat 0
theorem getD_ok {c : List Int} {i : Int} (h : okC c = true) (h0 : 0 ≤ i) (h1 : i < c.length) : isC (c.getD i.toNat 0) = true := by
  rw [List.getD_eq_getElem?_getD, List.getElem?_eq_getElem (by omega)]
  exact (okC_iff.1 h).2 _ (List.getElem_mem _)
theorem part_ok {s : Int} {c : List Int} {i : Int} (hc : okC c = true) (h0 : 0 ≤ i) (h1 : i < c.length) (hs : 16777216 ≤ s ∧ s < 4294967296) : 253952 ≤ partP s c i ∧ partP s c i ≤ s - 253952 ∧ s - 2047 ≤ 67 * partP s c i ∧ s ≤ 67 * (s - partP s c i) := by
  obtain ⟨p0, p1⟩ := isC_iff.1 (getD_ok hc h0 h1)
  have m1 : s / 2048 * 31 ≤ s / 2048 * c.getD i.toNat 0 := Int.mul_le_mul_of_nonneg_left p0 (by omega)
  have m2 : s / 2048 * c.getD i.toNat 0 ≤ s / 2048 * 2017 := Int.mul_le_mul_of_nonneg_left p1 (by omega)
  unfold partP
  generalize s / 2048 * c.getD i.toNat 0 = z at *
  omega
structure Enc where
  c : List Int
  span : Int
  low : Int
  text : List Int
def put1 (s : Enc) (x : Bit) : Enc :=
  { c := stepA s.c x
    span := if x.b then s.span - partP s.span s.c x.at_ else partP s.span s.c x.at_
    low := if x.b then (s.low + partP s.span s.c x.at_) % 4294967296 else s.low
    text := if x.b = true ∧ 4294967296 ≤ s.low + partP s.span s.c x.at_ then inc s.text else s.text }
def shf (s : Enc) : Enc := { c := s.c, span := s.span * 256, low := s.low % 16777216 * 256, text := s.text ++ [s.low / 16777216] }
def put (s : Enc) (x : Bit) : Enc := if (put1 s x).span < 16777216 then shf (put1 s x) else put1 s x
def putAll (s : Enc) (xs : List Bit) : Enc := xs.foldl put s
def start0 (n : Int) : Enc := ⟨List.replicate n.toNat 1024, 4294967295, 0, [0]⟩
def be4 (n : Int) : List Int := [n / 16777216, n / 65536 % 256, n / 256 % 256, n % 256]
def endT (s : Enc) : List Int := s.text ++ be4 s.low
structure OkE (s : Enc) : Prop where
  c : okC s.c = true
  span : 16777216 ≤ s.span ∧ s.span < 4294967296
  low : 0 ≤ s.low ∧ s.low < 4294967296
  text : okB s.text
  one : 0 < s.text.length
def numE (s : Enc) : Int := num s.text * 4294967296 + s.low
structure InvE (s : Enc) : Prop extends OkE s where
  top : numE s + s.span ≤ 4294967295 * 256 ^ (s.text.length - 1)
theorem put1_len (s : Enc) (x : Bit) : (put1 s x).text.length = s.text.length := by
  simp only [put1]
  split
  · exact inc_len _
  · rfl
theorem put1_c (s : Enc) (x : Bit) : (put1 s x).c.length = s.c.length := stepA_len _ _
theorem put_c (s : Enc) (x : Bit) : (put s x).c.length = s.c.length := by
  unfold put
  split
  · exact put1_c s x
  · exact put1_c s x
theorem putAll_c (s : Enc) (xs : List Bit) : (putAll s xs).c.length = s.c.length := by
  induction xs generalizing s with
  | nil => rfl
  | cons x r ih => exact (ih (put s x)).trans (put_c s x)
theorem put1_ok {s : Enc} {x : Bit} (h : InvE s) (hx : inB s.c.length x = true) :
    okC (put1 s x).c = true ∧ 253952 ≤ (put1 s x).span ∧ (put1 s x).span < 4294967296 ∧ (0 ≤ (put1 s x).low ∧ (put1 s x).low < 4294967296) ∧ okB (put1 s x).text ∧
    numE (put1 s x) = numE s + (if x.b then partP s.span s.c x.at_ else 0) ∧ numE (put1 s x) + (put1 s x).span ≤ numE s + s.span := by
  obtain ⟨h0, h1⟩ := inB_iff.1 hx
  have hp := part_ok h.c h0 h1 h.span
  have hs := h.span
  have hl := h.low
  have ht := h.top
  have hb := num_lt h.text
  have h1' := h.one
  have hpow : (256 : Int) ^ s.text.length = 256 ^ (s.text.length - 1) * 256 := by
    obtain ⟨m, hm⟩ : ∃ m, s.text.length = m + 1 := ⟨s.text.length - 1, by omega⟩
    rw [hm, Int.pow_succ, Nat.add_sub_cancel]
  unfold put1 numE
  unfold numE at ht
  simp only []
  generalize partP s.span s.c x.at_ = p at *
  refine ⟨stepA_ok h.c, ?_⟩
  cases hxb : x.b
  · simp only [Bool.false_eq_true, if_false, false_and]
    exact ⟨by omega, by omega, by omega, h.text, by omega, by omega⟩
  · simp only [if_true, true_and]
    split
    · rename_i hc
      have hn := inc_num h.text (by
        rw [hpow]
        generalize (256 : Int) ^ (s.text.length - 1) = P at *
        omega)
      have hi := inc_ok h.text
      rw [hn]
      exact ⟨by omega, by omega, by omega, hi, by omega, by omega⟩
    · exact ⟨by omega, by omega, by omega, h.text, by omega, by omega⟩
theorem shf_num (s : Enc) : numE (shf s) = numE s * 256 := by
  unfold shf numE
  simp only [num_snoc]
  omega
theorem be4_ok {n : Int} (h : 0 ≤ n ∧ n < 4294967296) : okB (be4 n) := by
  intro x hx
  simp [be4] at hx
  omega
theorem endT_len (s : Enc) : (endT s).length = s.text.length + 4 := by simp [endT, be4]
theorem endT_ok {s : Enc} (h : OkE s) : okB (endT s) := okB_app h.text (be4_ok h.low)
theorem put_ok {s : Enc} {x : Bit} (h : InvE s) (hx : inB s.c.length x = true) :
    InvE (put s x) ∧ ∃ d, (put s x).text.length = s.text.length + d ∧ numE s * 256 ^ d ≤ numE (put s x) ∧ numE (put s x) + (put s x).span ≤ (numE s + s.span) * 256 ^ d := by
  obtain ⟨a1, a2, a3, a4, a5, a6, a7⟩ := put1_ok h hx
  have hl := put1_len s x
  have ht := h.top
  have h1 := h.one
  obtain ⟨h0', h1'⟩ := inB_iff.1 hx
  have hp := part_ok h.c h0' h1' h.span
  have a8 : numE s ≤ numE (put1 s x) := by rw [a6]; split <;> omega
  clear a6 hp
  unfold put
  generalize put1 s x = t at *
  split
  · rename_i hlt
    refine ⟨⟨⟨a1, ?_, ?_, okB_app a5 (okB_one ?_), ?_⟩, ?_⟩, 1, ?_, ?_, ?_⟩
    · simp only [shf]; omega
    · simp only [shf]; omega
    · omega
    · simp [shf]
    · rw [shf_num]
      simp only [shf, List.length_append, List.length_singleton, hl]
      rw [show s.text.length + 1 - 1 = s.text.length - 1 + 1 by omega, Int.pow_succ]
      generalize (256 : Int) ^ (s.text.length - 1) = P at *
      omega
    · simp [shf, hl]
    · rw [shf_num]; omega
    · rw [shf_num]; simp only [shf]; omega
  · rename_i hge
    refine ⟨⟨⟨a1, by omega, a4, a5, by omega⟩, ?_⟩, 0, ?_, ?_, ?_⟩
    · rw [hl]; omega
    · omega
    · simpa using a8
    · simpa using a7
theorem putAll_ok {s : Enc} {xs : List Bit} (h : InvE s) (hx : ∀ x ∈ xs, inB s.c.length x = true) :
    InvE (putAll s xs) ∧ ∃ d, (putAll s xs).text.length = s.text.length + d ∧ numE s * 256 ^ d ≤ numE (putAll s xs) ∧ numE (putAll s xs) + (putAll s xs).span ≤ (numE s + s.span) * 256 ^ d := by
  induction xs generalizing s with
  | nil => exact ⟨h, 0, rfl, by simp [putAll], by simp [putAll]⟩
  | cons x r ih =>
    obtain ⟨g, d, d1, d2, d3⟩ := put_ok h (hx x (by simp))
    obtain ⟨g', e, e1, e2, e3⟩ := ih g fun y hy => by rw [put_c]; exact hx y (by simp [hy])
    have hd : (0 : Int) ≤ 256 ^ e := Int.pow_nonneg (by omega)
    refine ⟨g', d + e, ?_, ?_, ?_⟩
    · show (putAll (put s x) r).text.length = _
      omega
    · show _ ≤ numE (putAll (put s x) r)
      rw [Int.pow_add, ← Int.mul_assoc]
      exact Int.le_trans (Int.mul_le_mul_of_nonneg_right d2 hd) e2
    · show numE (putAll (put s x) r) + (putAll (put s x) r).span ≤ _
      rw [Int.pow_add, ← Int.mul_assoc]
      exact Int.le_trans e3 (Int.mul_le_mul_of_nonneg_right d3 hd)
theorem start_ok {n : Int} (h1 : n ≤ 1024) : InvE (start0 n) := by
  refine ⟨⟨okC_iff.2 ⟨by simp [start0]; omega, fun p hp => ?_⟩, ?_, ?_, ?_, ?_⟩, ?_⟩
  · rw [(List.mem_replicate.1 hp).2]; rfl
  · simp [start0]
  · simp [start0]
  · exact okB_one (by omega)
  · simp [start0]
  · simp [start0, numE, num, numR]
theorem start_c (n : Int) : (start0 n).c.length = n.toNat := by simp [start0]
structure Rdr where
  c : List Int
  span : Int
  code : Int
  used : Nat
def bitR (r : Rdr) (i : Int) : Bool := decide (partP r.span r.c i ≤ r.code)
def spanR (r : Rdr) (i : Int) : Int := if bitR r i then r.span - partP r.span r.c i else partP r.span r.c i
def codeR (r : Rdr) (i : Int) : Int := if bitR r i then r.code - partP r.span r.c i else r.code
def nextR (t : List Int) (r : Rdr) (i : Int) : Bool × Rdr × Int :=
  if ¬ (0 ≤ i ∧ i < r.c.length) then (false, r, 4)
  else if spanR r i < 16777216 then
    if r.used < t.length then (bitR r i, ⟨stepA r.c ⟨i, bitR r i⟩, spanR r i * 256, codeR r i * 256 + t.getD r.used 0, r.used + 1⟩, 0) else (false, r, 2)
  else (bitR r i, ⟨stepA r.c ⟨i, bitR r i⟩, spanR r i, codeR r i, r.used⟩, 0)
theorem nextR_in {t : List Int} {r : Rdr} {i : Int} (h : 0 ≤ i ∧ i < r.c.length) : nextR t r i =
  if spanR r i < 16777216 then
    if r.used < t.length then (bitR r i, ⟨stepA r.c ⟨i, bitR r i⟩, spanR r i * 256, codeR r i * 256 + t.getD r.used 0, r.used + 1⟩, 0) else (false, r, 2)
  else (bitR r i, ⟨stepA r.c ⟨i, bitR r i⟩, spanR r i, codeR r i, r.used⟩, 0) := by
  unfold nextR
  rw [if_neg (not_not_intro h)]
structure OkR (r : Rdr) : Prop where
  c : okC r.c = true
  span : 16777216 ≤ r.span ∧ r.span < 4294967296
  code : 0 ≤ r.code ∧ r.code < r.span
theorem half_ok {r : Rdr} {i : Int} (h : OkR r) (h0 : 0 ≤ i) (h1 : i < r.c.length) : 253952 ≤ spanR r i ∧ spanR r i < 4294967296 ∧ 0 ≤ codeR r i ∧ codeR r i < spanR r i := by
  have hp := part_ok h.c h0 h1 h.span
  have hs := h.span
  have hc := h.code
  unfold spanR codeR
  cases hb : bitR r i
  · have := of_decide_eq_false hb
    simp only [Bool.false_eq_true, if_false]
    omega
  · have := of_decide_eq_true hb
    simp only [if_true]
    omega
theorem nextR_ok {t : List Int} {r : Rdr} {i : Int} (ht : okB t) (h : OkR r) : OkR (nextR t r i).2.1 := by
  unfold nextR
  split
  · exact h
  · rename_i hi
    have hi' : 0 ≤ i ∧ i < r.c.length := Decidable.not_not.1 hi
    obtain ⟨a1, a2, a3, a4⟩ := half_ok h hi'.1 hi'.2
    split
    · split
      · rename_i hu
        have hx := ht (t.getD r.used 0) (by rw [List.getD_eq_getElem?_getD, List.getElem?_eq_getElem hu]; exact List.getElem_mem _)
        exact ⟨stepA_ok h.c, by simp only []; omega, by simp only []; omega⟩
      · exact h
    · exact ⟨stepA_ok h.c, by simp only []; omega, by simp only []; omega⟩
theorem nextR_c (t : List Int) (r : Rdr) (i : Int) : (nextR t r i).2.1.c.length = r.c.length := by
  unfold nextR
  split
  · rfl
  · split
    · split
      · exact stepA_len _ _
      · rfl
    · exact stepA_len _ _
def startR (n : Int) (t : List Int) : Rdr := ⟨List.replicate n.toNat 1024, 4294967295, num ((t.drop 1).take 4), 5⟩
def newN (n : Int) : Bool := decide (0 ≤ n) && decide (n ≤ 1024)
theorem newN_iff {n : Int} : newN n = true ↔ 0 ≤ n ∧ n ≤ 1024 := by simp [newN]
def startE (n : Int) (t : List Int) : Int := if newN n = false then 1 else if t.length < 5 ∨ t.getD 0 0 ≠ 0 ∨ num ((t.drop 1).take 4) = 4294967295 then 2 else 0
theorem startE_iff {n : Int} {t : List Int} : startE n t = 0 ↔ newN n = true ∧ 5 ≤ t.length ∧ t.getD 0 0 = 0 ∧ num ((t.drop 1).take 4) ≠ 4294967295 := by
  unfold startE
  generalize num ((t.drop 1).take 4) = z
  generalize t.getD 0 0 = y
  cases hn : newN n
  · simp
  · rw [if_neg (by simp)]
    by_cases h : t.length < 5 ∨ y ≠ 0 ∨ z = 4294967295
    · rw [if_pos h]
      exact ⟨fun h => (by cases h), fun ⟨_, h1, h2, h3⟩ => (by omega)⟩
    · rw [if_neg h]
      exact ⟨fun _ => ⟨rfl, by omega, by omega, by omega⟩, fun _ => rfl⟩
def encE (n : Int) (bs : List Bit) : Int := if newN n = false then 1 else if 1048576 < bs.length then 3 else if bs.all (inB n.toNat) = false then 4 else 0
def encT (n : Int) (bs : List Bit) : List Int := if encE n bs = 0 then endT (putAll (start0 n) bs) else []
structure Ties (t : List Int) (s : Enc) (r : Rdr) : Prop where
  c : r.c = s.c
  span : r.span = s.span
  used : r.used = s.text.length + 4
  code : r.code = num (t.take r.used) - numE s
theorem encE_ok {n : Int} {bs : List Bit} (h : encE n bs = 0) : (0 ≤ n ∧ n ≤ 1024) ∧ bs.length ≤ 1048576 ∧ ∀ x ∈ bs, inB n.toNat x = true := by
  unfold encE at h
  split at h
  · cases h
  · rename_i h1
    split at h
    · cases h
    · rename_i h2
      split at h
      · cases h
      · rename_i h3
        refine ⟨newN_iff.1 (by simpa using h1), by omega, ?_⟩
        simpa using h3
theorem enc_inv {n : Int} {bs : List Bit} (h : encE n bs = 0) : InvE (putAll (start0 n) bs) ∧ ∃ d, (putAll (start0 n) bs).text.length = 1 + d ∧ numE (putAll (start0 n) bs) + (putAll (start0 n) bs).span ≤ 4294967295 * 256 ^ d := by
  obtain ⟨h1, h2, h3⟩ := encE_ok h
  obtain ⟨g, d, d1, d2, d3⟩ := putAll_ok (xs := bs) (start_ok h1.2) (by rw [start_c]; exact h3)
  refine ⟨g, d, d1, ?_⟩
  simpa [start0, numE, num, numR] using d3
theorem encT_ok {n : Int} {bs : List Bit} (h : encE n bs = 0) : encT n bs = endT (putAll (start0 n) bs) := by unfold encT; rw [if_pos h]
theorem encT_len {n : Int} {bs : List Bit} (h : encE n bs = 0) : (encT n bs).length = (putAll (start0 n) bs).text.length + 4 := by rw [encT_ok h, endT_len]
theorem encT_okB {n : Int} {bs : List Bit} (h : encE n bs = 0) : okB (encT n bs) := by rw [encT_ok h]; exact endT_ok (enc_inv h).1.toOkE
theorem put_more {s : Enc} {x : Bit} (h : InvE s) (hx : inB s.c.length x = true) : ∃ d, (put s x).text.length = s.text.length + d ∧ s.span * 256 ^ d ≤ 100 * (put s x).span := by
  obtain ⟨h0, h1⟩ := inB_iff.1 hx
  have hp := part_ok h.c h0 h1 h.span
  have hs := h.span
  have e : s.span ≤ 100 * (put1 s x).span := by
    have : (put1 s x).span = if x.b then s.span - partP s.span s.c x.at_ else partP s.span s.c x.at_ := rfl
    rw [this]
    split <;> omega
  have hl := put1_len s x
  unfold put
  split
  · exact ⟨1, by simp [shf, hl], by simp only [shf]; omega⟩
  · exact ⟨0, by omega, by omega⟩
theorem putAll_more {s : Enc} {xs : List Bit} (h : InvE s) (hx : ∀ x ∈ xs, inB s.c.length x = true) :
    ∃ d, (putAll s xs).text.length = s.text.length + d ∧ s.span * 256 ^ d ≤ 100 ^ xs.length * (putAll s xs).span := by
  induction xs generalizing s with
  | nil => exact ⟨0, rfl, by simp [putAll]⟩
  | cons x r ih =>
    obtain ⟨g, _⟩ := put_ok h (hx x (by simp))
    obtain ⟨d, d1, d2⟩ := put_more h (hx x (by simp))
    obtain ⟨e, e1, e2⟩ := ih g fun y hy => by rw [put_c]; exact hx y (by simp [hy])
    have hd : (0 : Int) ≤ 256 ^ e := Int.pow_nonneg (by omega)
    refine ⟨d + e, ?_, ?_⟩
    · show (putAll (put s x) r).text.length = _
      omega
    · show _ ≤ _ * (putAll (put s x) r).span
      rw [Int.pow_add, ← Int.mul_assoc, List.length_cons, Int.pow_succ, Int.mul_assoc _ 100, Int.mul_left_comm]
      have h3 := Int.mul_le_mul_of_nonneg_right d2 hd
      rw [Int.mul_assoc 100] at h3
      exact Int.le_trans h3 (Int.mul_le_mul_of_nonneg_left e2 (by omega))
theorem short_len {n : Int} {bs : List Bit} (h : encE n bs = 0) : 5 ≤ (encT n bs).length ∧ (encT n bs).length ≤ 5 + (bs.length + 7) / 8 * 7 := by
  obtain ⟨h1, h2, h3⟩ := encE_ok h
  obtain ⟨d, d1, d2⟩ := putAll_more (xs := bs) (start_ok h1.2) (by rw [start_c]; exact h3)
  have hl := encT_len h
  have hs := (enc_inv h).1.span
  have h0 : (start0 n).text.length = 1 := rfl
  have h0' : (start0 n).span = 4294967295 := rfl
  rw [h0'] at d2
  refine ⟨by omega, ?_⟩
  have hp : (0 : Int) < 100 ^ bs.length := Int.pow_pos (by omega)
  have h4 : (256 : Int) ^ d ≤ 100 ^ bs.length := by
    have h5 : (100 : Int) ^ bs.length * (putAll (start0 n) bs).span ≤ 100 ^ bs.length * 4294967295 := Int.mul_le_mul_of_nonneg_left (by omega) (by omega)
    generalize (256 : Int) ^ d = A at *
    generalize (100 : Int) ^ bs.length = B at *
    omega
  have h6 : (256 : Nat) ^ d ≤ 100 ^ bs.length := by
    apply Int.ofNat_le.1
    rw [Int.natCast_pow, Int.natCast_pow]
    exact h4
  have h7 : (100 : Nat) ^ bs.length ≤ 100 ^ (8 * ((bs.length + 7) / 8)) := Nat.pow_le_pow_right (by omega) (by omega)
  have h8 : (100 : Nat) ^ (8 * ((bs.length + 7) / 8)) ≤ 256 ^ (7 * ((bs.length + 7) / 8)) := by
    rw [Nat.pow_mul, Nat.pow_mul]
    exact Nat.pow_le_pow_left (by decide) _
  have h9 : d ≤ 7 * ((bs.length + 7) / 8) := (Nat.pow_le_pow_iff_right (by omega)).1 (Nat.le_trans h6 (Nat.le_trans h7 h8))
  omega
end Go.Proofs.YthkccpemgmpadaaGreatDoor.P
