namespace Go.Proofs.Ytiobhglhfjbcbaa

/-- A token. -/
structure Tok where
  lit : UInt8
  len : Int
  dist : Int

theorem Tok.eq {s t : Tok} (h0 : s.lit = t.lit) (h1 : s.len = t.len) (h2 : s.dist = t.dist) : s = t := by
  cases s; cases t; simp_all
instance : DecidableEq Tok := fun s t =>
  if h : s.lit = t.lit ∧ s.len = t.len ∧ s.dist = t.dist then isTrue (Tok.eq h.1 h.2.1 h.2.2) else isFalse (by rintro rfl; exact h ⟨rfl, rfl, rfl⟩)

/-- May it be one? -/
def okT (t : Tok) : Bool := if t.len = 0 then decide (t.dist = 0) else decide (t.lit = 0) && decide (3 ≤ t.len) && decide (t.len ≤ 18) && decide (1 ≤ t.dist) && decide (t.dist ≤ 256)
/-- How many octets it tells. -/
def sizeT (t : Tok) : Int := if t.len = 0 then 1 else t.len
/-- May these be, behind so many octets? -/
def okL : Int → List Tok → Bool
  | _, [] => true
  | n, t :: r => okT t && decide (t.dist ≤ n) && okL (n + sizeT t) r
def sumT : List Tok → Int
  | [] => 0
  | t :: r => sizeT t + sumT r

theorem okT_size {t : Tok} (h : okT t = true) : 1 ≤ sizeT t ∧ sizeT t ≤ 18 := by
  unfold okT at h; unfold sizeT
  split at h <;> rename_i h0
  · simp [h0]
  · simp at h; simp [h0]; omega
theorem okT_dist {t : Tok} (h : okT t = true) : 0 ≤ t.dist ∧ t.dist ≤ 256 := by
  unfold okT at h
  split at h <;> rename_i h0 <;> simp at h <;> omega
theorem okT_len {t : Tok} (h : okT t = true) (h0 : t.len ≠ 0) : t.lit = 0 ∧ 3 ≤ t.len ∧ t.len ≤ 18 ∧ 1 ≤ t.dist ∧ t.dist ≤ 256 := by
  unfold okT at h
  rw [if_neg h0] at h; simp at h; exact ⟨h.1.1.1.1, by omega, by omega, by omega, by omega⟩
theorem okL_cons {n : Int} {t : Tok} {r : List Tok} : okL n (t :: r) = true ↔ okT t = true ∧ t.dist ≤ n ∧ okL (n + sizeT t) r = true := by
  simp [okL, and_assoc]
theorem sumT_append (p q : List Tok) : sumT (p ++ q) = sumT p + sumT q := by
  induction p with
  | nil => simp [sumT]
  | cons t r ih => simp [sumT, ih]; omega
theorem okL_append {n : Int} {p q : List Tok} : okL n (p ++ q) = true ↔ okL n p = true ∧ okL (n + sumT p) q = true := by
  induction p generalizing n with
  | nil => simp [okL, sumT]
  | cons t r ih => simp only [List.cons_append, okL_cons, ih, sumT, Int.add_assoc, and_assoc]
theorem okL_sum {n : Int} {l : List Tok} (h : okL n l = true) : (l.length : Int) ≤ sumT l ∧ sumT l ≤ 18 * l.length := by
  induction l generalizing n with
  | nil => simp [sumT]
  | cons t r ih =>
    rw [okL_cons] at h
    have h1 := okT_size h.1
    have h2 := ih h.2.2
    simp only [sumT, List.length_cons]
    omega
theorem okL_take {n : Int} {l : List Tok} (k : Nat) (h : okL n l = true) : okL n (l.take k) = true := by
  have : l.take k ++ l.drop k = l := List.take_append_drop k l
  rw [← this, okL_append] at h
  exact h.1
theorem sumT_snoc {l : List Tok} {k : Nat} (h : k < l.length) : sumT (l.take (k + 1)) = sumT (l.take k) + sizeT l[k] := by
  rw [List.take_add_one, List.getElem?_eq_getElem h, Option.toList_some, sumT_append]; simp [sumT]
theorem okL_get {n : Int} {l : List Tok} {k : Nat} (h : k < l.length) (ho : okL n l = true) : okT l[k] = true ∧ l[k].dist ≤ n + sumT (l.take k) := by
  have : l.take k ++ l.drop k = l := List.take_append_drop k l
  rw [← this, okL_append, List.drop_eq_getElem_cons h, okL_cons] at ho
  exact ⟨ho.2.1, ho.2.2.1⟩

/-! ### what tokens tell -/
def tellN (b : List UInt8) (d : Nat) : Nat → List UInt8
  | 0 => b
  | k + 1 => tellN b d k ++ [(tellN b d k).getD ((tellN b d k).length - d) 0]
def tellT (b : List UInt8) (t : Tok) : List UInt8 := if t.len = 0 then b ++ [t.lit] else tellN b t.dist.toNat t.len.toNat
def textF : List UInt8 → List Tok → List UInt8
  | b, [] => b
  | b, t :: r => textF (tellT b t) r
theorem tellN_len (b : List UInt8) (d k : Nat) : (tellN b d k).length = b.length + k := by
  induction k with
  | zero => rfl
  | succ k ih => simp [tellN, ih]; omega
theorem tellT_len {b : List UInt8} {t : Tok} (h : okT t = true) : ((tellT b t).length : Int) = b.length + sizeT t := by
  unfold tellT sizeT
  split
  · simp
  · rename_i h0; have := okT_len h h0; rw [tellN_len]; omega
theorem textF_append (b : List UInt8) (p q : List Tok) : textF b (p ++ q) = textF (textF b p) q := by
  induction p generalizing b with
  | nil => rfl
  | cons t r ih => simp [textF, ih]
theorem textF_len {n : Int} {b : List UInt8} {l : List Tok} (h : okL n l = true) : ((textF b l).length : Int) = b.length + sumT l := by
  induction l generalizing n b with
  | nil => simp [textF, sumT]
  | cons t r ih =>
    rw [okL_cons] at h
    rw [textF, ih h.2.2, tellT_len h.1]; simp only [sumT]; omega
theorem textF_snoc {b : List UInt8} {l : List Tok} {k : Nat} (h : k < l.length) : textF b (l.take (k + 1)) = tellT (textF b (l.take k)) l[k] := by
  rw [List.take_add_one, List.getElem?_eq_getElem h, Option.toList_some, textF_append]; rfl
/-- What was there stays. -/
theorem tellN_take (b : List UInt8) (d k : Nat) : (tellN b d k).take b.length = b := by
  induction k with
  | zero => simp [tellN]
  | succ k ih =>
    rw [tellN, List.take_append_of_le_length (by rw [tellN_len]; omega)]
    exact ih
theorem tellT_take (b : List UInt8) (t : Tok) : (tellT b t).take b.length = b := by
  unfold tellT; split
  · simp
  · exact tellN_take _ _ _
theorem tellN_pre (b : List UInt8) (d k : Nat) : ∃ c, tellN b d k = b ++ c := by
  induction k with
  | zero => exact ⟨[], by simp [tellN]⟩
  | succ k ih => obtain ⟨c, hc⟩ := ih; exact ⟨c ++ [(tellN b d k).getD ((tellN b d k).length - d) 0], by rw [tellN]; rw [hc]; simp⟩
theorem tellT_pre (b : List UInt8) (t : Tok) : ∃ c, tellT b t = b ++ c := by
  unfold tellT; split
  · exact ⟨_, rfl⟩
  · exact tellN_pre _ _ _
theorem textF_pre (b : List UInt8) (l : List Tok) : ∃ c, textF b l = b ++ c := by
  induction l generalizing b with
  | nil => exact ⟨[], by simp [textF]⟩
  | cons t r ih =>
    obtain ⟨c, hc⟩ := tellT_pre b t
    obtain ⟨d, hd⟩ := ih (tellT b t)
    exact ⟨c ++ d, by rw [textF, hd, hc, List.append_assoc]⟩
/-- Each octet of what is told again is the one so far behind. -/
theorem tellN_get {b : List UInt8} {d k i : Nat} (h1 : b.length ≤ i) (h2 : i < b.length + k) (hd : 1 ≤ d) (hd' : d ≤ b.length) : (tellN b d k).getD i 0 = (tellN b d k).getD (i - d) 0 := by
  induction k with
  | zero => omega
  | succ k ih =>
    have hl := tellN_len b d k
    have hg : ∀ j, j < b.length + k → (tellN b d (k + 1)).getD j 0 = (tellN b d k).getD j 0 := fun j hj => by
      rw [tellN, List.getD_eq_getElem?_getD, List.getElem?_append_left (by omega), ← List.getD_eq_getElem?_getD]
    rcases Nat.lt_or_ge i (b.length + k) with h | h
    · rw [hg i h, hg (i - d) (by omega)]; exact ih h
    · obtain rfl : i = b.length + k := by omega
      rw [hg (b.length + k - d) (by omega), tellN, List.getD_eq_getElem?_getD, List.getElem?_append_right (by omega), hl]
      simp

/-! ### what was there already -/
def alkF (b : List UInt8) (f a : Nat) : Nat → Nat
  | 0 => 0
  | k + 1 => if a < b.length ∧ b.getD f 0 = b.getD a 0 then alkF b (f + 1) (a + 1) k + 1 else 0
theorem alkF_le (b : List UInt8) (f a k : Nat) : alkF b f a k ≤ k := by
  induction k generalizing f a with
  | zero => exact Nat.le_refl _
  | succ k ih => rw [alkF]; split
                 · have := ih (f + 1) (a + 1); omega
                 · omega
theorem alkF_end (b : List UInt8) (f a k : Nat) (h : a ≤ b.length) : a + alkF b f a k ≤ b.length := by
  induction k generalizing f a with
  | zero => exact h
  | succ k ih =>
    rw [alkF]
    split
    · rename_i h1; have := ih (f + 1) (a + 1) (by omega); omega
    · exact h
theorem alkF_same (b : List UInt8) (f a k i : Nat) (h : i < alkF b f a k) : b.getD (f + i) 0 = b.getD (a + i) 0 := by
  induction k generalizing f a i with
  | zero => rw [alkF] at h; omega
  | succ k ih =>
    rw [alkF] at h
    split at h
    · rename_i h1
      cases i with
      | zero => exact h1.2
      | succ i =>
        have := ih (f + 1) (a + 1) i (by omega)
        rw [show f + (i + 1) = f + 1 + i by omega, show a + (i + 1) = a + 1 + i by omega]; exact this
    · omega
theorem alkF_ge (b : List UInt8) (f a k n : Nat) (h1 : n ≤ k) (h2 : a + n ≤ b.length) (h : ∀ i, i < n → b.getD (f + i) 0 = b.getD (a + i) 0) : n ≤ alkF b f a k := by
  induction k generalizing f a n with
  | zero => omega
  | succ k ih =>
    cases n with
    | zero => omega
    | succ n =>
      rw [alkF, if_pos ⟨by omega, by simpa using h 0 (by omega)⟩]
      have := ih (f + 1) (a + 1) n (by omega) (by omega) fun i hi => by
        have := h (i + 1) (by omega)
        rw [show f + 1 + i = f + (i + 1) by omega, show a + 1 + i = a + (i + 1) by omega]; exact this
      omega

theorem alkF_go {b : List UInt8} {f a k N : Nat} (h : N = k + alkF b (f + k) (a + k) (18 - k)) (h1 : k < 18) (h2 : a + k < b.length) (h3 : b.getD (f + k) 0 = b.getD (a + k) 0) : N = (k + 1) + alkF b (f + (k + 1)) (a + (k + 1)) (18 - (k + 1)) := by
  rw [h, show 18 - k = (18 - (k + 1)) + 1 by omega, alkF, if_pos ⟨h2, h3⟩]
  rw [show f + (k + 1) = f + k + 1 by omega, show a + (k + 1) = a + k + 1 by omega]
  omega
theorem alkF_stop {b : List UInt8} {f a k N : Nat} (h : N = k + alkF b (f + k) (a + k) (18 - k)) (h1 : ¬ (k < 18 ∧ a + k < b.length ∧ b.getD (f + k) 0 = b.getD (a + k) 0)) : N = k := by
  rw [h]
  rcases Nat.lt_or_ge k 18 with h2 | h2
  · rw [show 18 - k = (18 - (k + 1)) + 1 by omega, alkF, if_neg (fun h => h1 ⟨h2, h⟩)]; rfl
  · rw [show 18 - k = 0 by omega, alkF]; rfl

/-- The longest one, and how far behind it is, of those at most so far behind. -/
def bestF (b : List UInt8) (a : Nat) : Nat → Nat × Nat
  | 0 => (2, 0)
  | D + 1 => if (bestF b a D).1 < alkF b (a - (D + 1)) a 18 then (alkF b (a - (D + 1)) a 18, D + 1) else bestF b a D
theorem bestF_two (b : List UInt8) (a D : Nat) : 2 ≤ (bestF b a D).1 ∧ (bestF b a D).1 ≤ 18 ∧ (bestF b a D).2 ≤ D ∧ ((bestF b a D).2 = 0 → (bestF b a D).1 = 2) ∧
    (0 < (bestF b a D).2 → 3 ≤ (bestF b a D).1 ∧ alkF b (a - (bestF b a D).2) a 18 = (bestF b a D).1) := by
  induction D with
  | zero => simp [bestF]
  | succ D ih =>
    obtain ⟨h1, h2, h3, h4, h5⟩ := ih
    rw [bestF]
    have := alkF_le b (a - (D + 1)) a 18
    split
    · exact ⟨by simp only []; omega, this, Nat.le_refl _, fun h => by simp at h, fun _ => ⟨by simp only []; omega, rfl⟩⟩
    · exact ⟨h1, h2, by omega, h4, h5⟩
theorem bestF_most (b : List UInt8) (a D d : Nat) (h0 : 1 ≤ d) (hd : d ≤ D) : alkF b (a - d) a 18 ≤ (bestF b a D).1 ∧ (3 ≤ alkF b (a - d) a 18 → alkF b (a - d) a 18 = (bestF b a D).1 → (bestF b a D).2 ≤ d) := by
  induction D with
  | zero => omega
  | succ D ih =>
    have h2 := bestF_two b a D
    rw [bestF]
    rcases Nat.lt_or_ge D d with h | h
    · obtain rfl : d = D + 1 := by omega
      split
      · exact ⟨Nat.le_refl _, fun _ _ => Nat.le_refl _⟩
      · exact ⟨by omega, fun _ _ => by omega⟩
    · obtain ⟨g1, g2⟩ := ih h
      split
      · exact ⟨by simp only []; omega, fun _ h => by simp only [] at h; omega⟩
      · exact ⟨g1, g2⟩
def noT : Tok := ⟨0, 0, 0⟩
/-- What Find answers. -/
def findR (b : List UInt8) (at_ : Int) : Tok × Int :=
  if 65536 < b.length then (noT, 3) else if at_ < 0 ∨ (b.length : Int) ≤ at_ then (noT, 1) else
    if (bestF b at_.toNat (min at_.toNat 256)).2 = 0 then (noT, 4) else (⟨0, (bestF b at_.toNat (min at_.toNat 256)).1, (bestF b at_.toNat (min at_.toNat 256)).2⟩, 0)
/-- The token of a place. -/
def nextT (b : List UInt8) (a : Nat) : Tok := if (bestF b a (min a 256)).2 = 0 then ⟨b.getD a 0, 0, 0⟩ else ⟨0, (bestF b a (min a 256)).1, (bestF b a (min a 256)).2⟩
theorem nextT_ok {b : List UInt8} {a : Nat} (h : a < b.length) : okT (nextT b a) = true ∧ (nextT b a).dist ≤ a ∧ a + sizeT (nextT b a) ≤ b.length ∧ 1 ≤ sizeT (nextT b a) := by
  have h2 := bestF_two b a (min a 256)
  unfold nextT
  split
  · simp [okT, sizeT]; omega
  · rename_i h0
    obtain ⟨_, h18, hle, _, h5⟩ := h2
    obtain ⟨h3, h6⟩ := h5 (by omega)
    have := alkF_end b (a - (bestF b a (min a 256)).2) a 18 (by omega)
    have hne : ¬ (((bestF b a (min a 256)).1 : Nat) : Int) = 0 := by omega
    refine ⟨?_, by simp only []; omega, ?_, ?_⟩
    · simp only [okT, if_neg hne]; simp; omega
    · simp only [sizeT, if_neg hne]; omega
    · simp only [sizeT, if_neg hne]; omega
def toksF (b : List UInt8) : Nat → Nat → List Tok
  | 0, _ => []
  | k + 1, a => if a < b.length then nextT b a :: toksF b k (a + (sizeT (nextT b a)).toNat) else []
def toksB (b : List UInt8) : List Tok := toksF b b.length 0
theorem tellN_again {b : List UInt8} {a d : Nat} (hd : 1 ≤ d) (hda : d ≤ a) (n : Nat) (hn : a + n ≤ b.length) (h : ∀ i, i < n → b.getD (a - d + i) 0 = b.getD (a + i) 0) : tellN (b.take a) d n = b.take (a + n) := by
  induction n with
  | zero => rfl
  | succ n ih =>
    have ih' := ih (by omega) fun i hi => h i (by omega)
    have h1 := h n (by omega)
    rw [tellN, ih']
    have hlen : (b.take (a + n)).length = a + n := by rw [List.length_take]; omega
    rw [hlen]
    have hg : (b.take (a + n)).getD (a + n - d) 0 = b.getD (a + n) 0 := by
      rw [← h1, List.getD_eq_getElem?_getD, List.getElem?_take, if_pos (by omega), show a + n - d = a - d + n by omega, List.getD_eq_getElem?_getD]
    rw [hg, show a + (n + 1) = a + n + 1 by omega, List.take_add_one, List.getElem?_eq_getElem (by omega), List.getD_eq_getElem?_getD, List.getElem?_eq_getElem (by omega)]
    rfl
/-- A place's token tells what is there. -/
theorem nextT_tell {b : List UInt8} {a : Nat} (h : a < b.length) : tellT (b.take a) (nextT b a) = b.take (a + (sizeT (nextT b a)).toNat) := by
  have h2 := bestF_two b a (min a 256)
  unfold nextT
  split
  · simp only [tellT, sizeT, if_pos]
    rw [show a + (1 : Int).toNat = a + 1 from rfl, List.take_add_one, List.getElem?_eq_getElem h, List.getD_eq_getElem?_getD, List.getElem?_eq_getElem h]
    rfl
  · rename_i h0
    obtain ⟨_, h18, hle, _, h5⟩ := h2
    obtain ⟨h3, h6⟩ := h5 (by omega)
    have hend := alkF_end b (a - (bestF b a (min a 256)).2) a 18 (by omega)
    have hne : ¬ (((bestF b a (min a 256)).1 : Nat) : Int) = 0 := by omega
    simp only [tellT, sizeT, if_neg hne]
    rw [Int.toNat_natCast, Int.toNat_natCast]
    refine tellN_again (by omega) (by omega) _ (by omega) fun i hi => alkF_same b _ a 18 i (by omega)
theorem toksF_text (b : List UInt8) (k a : Nat) (h : b.length ≤ a + k) (ha : a ≤ b.length) : textF (b.take a) (toksF b k a) = b ∧ okL a (toksF b k a) = true := by
  induction k generalizing a with
  | zero => simp [toksF, textF, okL]; exact List.take_of_length_le (by omega)
  | succ k ih =>
    rw [toksF]
    split
    · rename_i h1
      obtain ⟨h2, h3, h4, h5⟩ := nextT_ok h1
      obtain ⟨g1, g2⟩ := ih (a + (sizeT (nextT b a)).toNat) (by omega) (by omega)
      rw [textF, nextT_tell h1, okL_cons]
      refine ⟨g1, h2, h3, ?_⟩
      rw [show (a : Int) + sizeT (nextT b a) = ((a + (sizeT (nextT b a)).toNat : Nat) : Int) by omega]
      exact g2
    · simp [textF, okL]; exact List.take_of_length_le (by omega)
theorem toksB_text (b : List UInt8) : textF [] (toksB b) = b ∧ okL 0 (toksB b) = true := toksF_text b b.length 0 (by omega) (by omega)
theorem toksB_sum (b : List UInt8) : sumT (toksB b) = b.length := by
  obtain ⟨h1, h2⟩ := toksB_text b
  have := textF_len (b := []) h2
  rw [h1] at this
  simp at this; omega
theorem toksB_len (b : List UInt8) : (toksB b).length ≤ b.length := by
  have h1 := toksB_sum b
  have h2 := okL_sum (toksB_text b).2
  omega
end Go.Proofs.Ytiobhglhfjbcbaa
