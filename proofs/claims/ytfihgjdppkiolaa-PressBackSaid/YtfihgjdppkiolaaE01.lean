namespace Go.Proofs.Ytfihgjdppkiolaa
/-! match/E0.lean -/

/-- A token. -/
structure Tok where
  lit : UInt8
  len : Int
  dist : Int

theorem Tok.eq {s t : Tok} (h0 : s.lit = t.lit) (h1 : s.len = t.len) (h2 : s.dist = t.dist) : s = t := by
  cases s; cases t; simp_all
instance : DecidableEq Tok := fun s t =>
  if h : s.lit = t.lit ∧ s.len = t.len ∧ s.dist = t.dist then isTrue (Tok.eq h.1 h.2.1 h.2.2) else isFalse (by rintro rfl; exact h ⟨rfl, rfl, rfl⟩)

/-- May it be one? -/
def okT (t : Tok) : Bool := if t.len = 0 then decide (t.dist = 0) else decide (t.lit = 0) && decide (3 ≤ t.len) && decide (t.len ≤ 18) && decide (1 ≤ t.dist) && decide (t.dist ≤ 256)
/-- How many octets it tells. -/
def sizeT (t : Tok) : Int := if t.len = 0 then 1 else t.len
/-- May these be, behind so many octets? -/
def okL : Int → List Tok → Bool
  | _, [] => true
  | n, t :: r => okT t && decide (t.dist ≤ n) && okL (n + sizeT t) r
def sumT : List Tok → Int
  | [] => 0
  | t :: r => sizeT t + sumT r

theorem okT_size {t : Tok} (h : okT t = true) : 1 ≤ sizeT t ∧ sizeT t ≤ 18 := by
  unfold okT at h; unfold sizeT
  split at h <;> rename_i h0
  · simp [h0]
  · simp at h; simp [h0]; omega
theorem okT_dist {t : Tok} (h : okT t = true) : 0 ≤ t.dist ∧ t.dist ≤ 256 := by
  unfold okT at h
  split at h <;> rename_i h0 <;> simp at h <;> omega
theorem okT_len {t : Tok} (h : okT t = true) (h0 : t.len ≠ 0) : t.lit = 0 ∧ 3 ≤ t.len ∧ t.len ≤ 18 ∧ 1 ≤ t.dist ∧ t.dist ≤ 256 := by
  unfold okT at h
  rw [if_neg h0] at h; simp at h; exact ⟨h.1.1.1.1, by omega, by omega, by omega, by omega⟩
theorem okL_cons {n : Int} {t : Tok} {r : List Tok} : okL n (t :: r) = true ↔ okT t = true ∧ t.dist ≤ n ∧ okL (n + sizeT t) r = true := by
  simp [okL, and_assoc]
theorem sumT_append (p q : List Tok) : sumT (p ++ q) = sumT p + sumT q := by
  induction p with
  | nil => simp [sumT]
  | cons t r ih => simp [sumT, ih]; omega
theorem okL_append {n : Int} {p q : List Tok} : okL n (p ++ q) = true ↔ okL n p = true ∧ okL (n + sumT p) q = true := by
  induction p generalizing n with
  | nil => simp [okL, sumT]
  | cons t r ih => simp only [List.cons_append, okL_cons, ih, sumT, Int.add_assoc, and_assoc]
theorem okL_sum {n : Int} {l : List Tok} (h : okL n l = true) : (l.length : Int) ≤ sumT l ∧ sumT l ≤ 18 * l.length := by
  induction l generalizing n with
  | nil => simp [sumT]
  | cons t r ih =>
    rw [okL_cons] at h
    have h1 := okT_size h.1
    have h2 := ih h.2.2
    simp only [sumT, List.length_cons]
    omega
theorem okL_take {n : Int} {l : List Tok} (k : Nat) (h : okL n l = true) : okL n (l.take k) = true := by
  have : l.take k ++ l.drop k = l := List.take_append_drop k l
  rw [← this, okL_append] at h
  exact h.1
theorem sumT_snoc {l : List Tok} {k : Nat} (h : k < l.length) : sumT (l.take (k + 1)) = sumT (l.take k) + sizeT l[k] := by
  rw [List.take_add_one, List.getElem?_eq_getElem h, Option.toList_some, sumT_append]; simp [sumT]
theorem okL_get {n : Int} {l : List Tok} {k : Nat} (h : k < l.length) (ho : okL n l = true) : okT l[k] = true ∧ l[k].dist ≤ n + sumT (l.take k) := by
  have : l.take k ++ l.drop k = l := List.take_append_drop k l
  rw [← this, okL_append, List.drop_eq_getElem_cons h, okL_cons] at ho
  exact ⟨ho.2.1, ho.2.2.1⟩

/-! ### what tokens tell -/
def tellN (b : List UInt8) (d : Nat) : Nat → List UInt8
  | 0 => b
  | k + 1 => tellN b d k ++ [(tellN b d k).getD ((tellN b d k).length - d) 0]
def tellT (b : List UInt8) (t : Tok) : List UInt8 := if t.len = 0 then b ++ [t.lit] else tellN b t.dist.toNat t.len.toNat
def textF : List UInt8 → List Tok → List UInt8
  | b, [] => b
  | b, t :: r => textF (tellT b t) r
theorem tellN_len (b : List UInt8) (d k : Nat) : (tellN b d k).length = b.length + k := by
  induction k with
  | zero => rfl
  | succ k ih => simp [tellN, ih]; omega
theorem tellT_len {b : List UInt8} {t : Tok} (h : okT t = true) : ((tellT b t).length : Int) = b.length + sizeT t := by
  unfold tellT sizeT
  split
  · simp
  · rename_i h0; have := okT_len h h0; rw [tellN_len]; omega
theorem textF_append (b : List UInt8) (p q : List Tok) : textF b (p ++ q) = textF (textF b p) q := by
  induction p generalizing b with
  | nil => rfl
  | cons t r ih => simp [textF, ih]
theorem textF_len {n : Int} {b : List UInt8} {l : List Tok} (h : okL n l = true) : ((textF b l).length : Int) = b.length + sumT l := by
  induction l generalizing n b with
  | nil => simp [textF, sumT]
  | cons t r ih =>
    rw [okL_cons] at h
    rw [textF, ih h.2.2, tellT_len h.1]; simp only [sumT]; omega
theorem textF_snoc {b : List UInt8} {l : List Tok} {k : Nat} (h : k < l.length) : textF b (l.take (k + 1)) = tellT (textF b (l.take k)) l[k] := by
  rw [List.take_add_one, List.getElem?_eq_getElem h, Option.toList_some, textF_append]; rfl
/-- What was there stays. -/
theorem tellN_take (b : List UInt8) (d k : Nat) : (tellN b d k).take b.length = b := by
  induction k with
  | zero => simp [tellN]
  | succ k ih =>
    rw [tellN, List.take_append_of_le_length (by rw [tellN_len]; omega)]
    exact ih
theorem tellT_take (b : List UInt8) (t : Tok) : (tellT b t).take b.length = b := by
  unfold tellT; split
  · simp
  · exact tellN_take _ _ _
theorem tellN_pre (b : List UInt8) (d k : Nat) : ∃ c, tellN b d k = b ++ c := by
  induction k with
  | zero => exact ⟨[], by simp [tellN]⟩
  | succ k ih => obtain ⟨c, hc⟩ := ih; exact ⟨c ++ [(tellN b d k).getD ((tellN b d k).length - d) 0], by rw [tellN]; rw [hc]; simp⟩
theorem tellT_pre (b : List UInt8) (t : Tok) : ∃ c, tellT b t = b ++ c := by
  unfold tellT; split
  · exact ⟨_, rfl⟩
  · exact tellN_pre _ _ _
theorem textF_pre (b : List UInt8) (l : List Tok) : ∃ c, textF b l = b ++ c := by
  induction l generalizing b with
  | nil => exact ⟨[], by simp [textF]⟩
  | cons t r ih =>
    obtain ⟨c, hc⟩ := tellT_pre b t
    obtain ⟨d, hd⟩ := ih (tellT b t)
    exact ⟨c ++ d, by rw [textF, hd, hc, List.append_assoc]⟩
/-- Each octet of what is told again is the one so far behind. -/
theorem tellN_get {b : List UInt8} {d k i : Nat} (h1 : b.length ≤ i) (h2 : i < b.length + k) (hd : 1 ≤ d) (hd' : d ≤ b.length) : (tellN b d k).getD i 0 = (tellN b d k).getD (i - d) 0 := by
  induction k with
  | zero => omega
  | succ k ih =>
    have hl := tellN_len b d k
    have hg : ∀ j, j < b.length + k → (tellN b d (k + 1)).getD j 0 = (tellN b d k).getD j 0 := fun j hj => by
      rw [tellN, List.getD_eq_getElem?_getD, List.getElem?_append_left (by omega), ← List.getD_eq_getElem?_getD]
    rcases Nat.lt_or_ge i (b.length + k) with h | h
    · rw [hg i h, hg (i - d) (by omega)]; exact ih h
    · obtain rfl : i = b.length + k := by omega
      rw [hg (b.length + k - d) (by omega), tellN, List.getD_eq_getElem?_getD, List.getElem?_append_right (by omega), hl]
      simp

/-! ### what was there already -/
def alkF (b : List UInt8) (f a : Nat) : Nat → Nat
  | 0 => 0
  | k + 1 => if a < b.length ∧ b.getD f 0 = b.getD a 0 then alkF b (f + 1) (a + 1) k + 1 else 0
theorem alkF_le (b : List UInt8) (f a k : Nat) : alkF b f a k ≤ k := by
  induction k generalizing f a with
  | zero => exact Nat.le_refl _
  | succ k ih => rw [alkF]; split
                 · have := ih (f + 1) (a + 1); omega
                 · omega
theorem alkF_end (b : List UInt8) (f a k : Nat) (h : a ≤ b.length) : a + alkF b f a k ≤ b.length := by
  induction k generalizing f a with
  | zero => exact h
  | succ k ih =>
    rw [alkF]
    split
    · rename_i h1; have := ih (f + 1) (a + 1) (by omega); omega
    · exact h
theorem alkF_same (b : List UInt8) (f a k i : Nat) (h : i < alkF b f a k) : b.getD (f + i) 0 = b.getD (a + i) 0 := by
  induction k generalizing f a i with
  | zero => rw [alkF] at h; omega
  | succ k ih =>
    rw [alkF] at h
    split at h
    · rename_i h1
      cases i with
      | zero => exact h1.2
      | succ i =>
        have := ih (f + 1) (a + 1) i (by omega)
        rw [show f + (i + 1) = f + 1 + i by omega, show a + (i + 1) = a + 1 + i by omega]; exact this
    · omega
theorem alkF_ge (b : List UInt8) (f a k n : Nat) (h1 : n ≤ k) (h2 : a + n ≤ b.length) (h : ∀ i, i < n → b.getD (f + i) 0 = b.getD (a + i) 0) : n ≤ alkF b f a k := by
  induction k generalizing f a n with
  | zero => omega
  | succ k ih =>
    cases n with
    | zero => omega
    | succ n =>
      rw [alkF, if_pos ⟨by omega, by simpa using h 0 (by omega)⟩]
      have := ih (f + 1) (a + 1) n (by omega) (by omega) fun i hi => by
        have := h (i + 1) (by omega)
        rw [show f + 1 + i = f + (i + 1) by omega, show a + 1 + i = a + (i + 1) by omega]; exact this
      omega

theorem alkF_go {b : List UInt8} {f a k N : Nat} (h : N = k + alkF b (f + k) (a + k) (18 - k)) (h1 : k < 18) (h2 : a + k < b.length) (h3 : b.getD (f + k) 0 = b.getD (a + k) 0) : N = (k + 1) + alkF b (f + (k + 1)) (a + (k + 1)) (18 - (k + 1)) := by
  rw [h, show 18 - k = (18 - (k + 1)) + 1 by omega, alkF, if_pos ⟨h2, h3⟩]
  rw [show f + (k + 1) = f + k + 1 by omega, show a + (k + 1) = a + k + 1 by omega]
  omega
theorem alkF_stop {b : List UInt8} {f a k N : Nat} (h : N = k + alkF b (f + k) (a + k) (18 - k)) (h1 : ¬ (k < 18 ∧ a + k < b.length ∧ b.getD (f + k) 0 = b.getD (a + k) 0)) : N = k := by
  rw [h]
  rcases Nat.lt_or_ge k 18 with h2 | h2
  · rw [show 18 - k = (18 - (k + 1)) + 1 by omega, alkF, if_neg (fun h => h1 ⟨h2, h⟩)]; rfl
  · rw [show 18 - k = 0 by omega, alkF]; rfl

/-- The longest one, and how far behind it is, of those at most so far behind. -/
def bestF (b : List UInt8) (a : Nat) : Nat → Nat × Nat
  | 0 => (2, 0)
  | D + 1 => if (bestF b a D).1 < alkF b (a - (D + 1)) a 18 then (alkF b (a - (D + 1)) a 18, D + 1) else bestF b a D
theorem bestF_two (b : List UInt8) (a D : Nat) : 2 ≤ (bestF b a D).1 ∧ (bestF b a D).1 ≤ 18 ∧ (bestF b a D).2 ≤ D ∧ ((bestF b a D).2 = 0 → (bestF b a D).1 = 2) ∧
    (0 < (bestF b a D).2 → 3 ≤ (bestF b a D).1 ∧ alkF b (a - (bestF b a D).2) a 18 = (bestF b a D).1) := by
  induction D with
  | zero => simp [bestF]
  | succ D ih =>
    obtain ⟨h1, h2, h3, h4, h5⟩ := ih
    rw [bestF]
    have := alkF_le b (a - (D + 1)) a 18
    split
    · exact ⟨by simp only []; omega, this, Nat.le_refl _, fun h => by simp at h, fun _ => ⟨by simp only []; omega, rfl⟩⟩
    · exact ⟨h1, h2, by omega, h4, h5⟩
theorem bestF_most (b : List UInt8) (a D d : Nat) (h0 : 1 ≤ d) (hd : d ≤ D) : alkF b (a - d) a 18 ≤ (bestF b a D).1 ∧ (3 ≤ alkF b (a - d) a 18 → alkF b (a - d) a 18 = (bestF b a D).1 → (bestF b a D).2 ≤ d) := by
  induction D with
  | zero => omega
  | succ D ih =>
    have h2 := bestF_two b a D
    rw [bestF]
    rcases Nat.lt_or_ge D d with h | h
    · obtain rfl : d = D + 1 := by omega
      split
      · exact ⟨Nat.le_refl _, fun _ _ => Nat.le_refl _⟩
      · exact ⟨by omega, fun _ _ => by omega⟩
    · obtain ⟨g1, g2⟩ := ih h
      split
      · exact ⟨by simp only []; omega, fun _ h => by simp only [] at h; omega⟩
      · exact ⟨g1, g2⟩
def noT : Tok := ⟨0, 0, 0⟩
/-- What Find answers. -/
def findR (b : List UInt8) (at_ : Int) : Tok × Int :=
  if 65536 < b.length then (noT, 3) else if at_ < 0 ∨ (b.length : Int) ≤ at_ then (noT, 1) else
    if (bestF b at_.toNat (min at_.toNat 256)).2 = 0 then (noT, 4) else (⟨0, (bestF b at_.toNat (min at_.toNat 256)).1, (bestF b at_.toNat (min at_.toNat 256)).2⟩, 0)
/-- The token of a place. -/
def nextT (b : List UInt8) (a : Nat) : Tok := if (bestF b a (min a 256)).2 = 0 then ⟨b.getD a 0, 0, 0⟩ else ⟨0, (bestF b a (min a 256)).1, (bestF b a (min a 256)).2⟩
theorem nextT_ok {b : List UInt8} {a : Nat} (h : a < b.length) : okT (nextT b a) = true ∧ (nextT b a).dist ≤ a ∧ a + sizeT (nextT b a) ≤ b.length ∧ 1 ≤ sizeT (nextT b a) := by
  have h2 := bestF_two b a (min a 256)
  unfold nextT
  split
  · simp [okT, sizeT]; omega
  · rename_i h0
    obtain ⟨_, h18, hle, _, h5⟩ := h2
    obtain ⟨h3, h6⟩ := h5 (by omega)
    have := alkF_end b (a - (bestF b a (min a 256)).2) a 18 (by omega)
    have hne : ¬ (((bestF b a (min a 256)).1 : Nat) : Int) = 0 := by omega
    refine ⟨?_, by simp only []; omega, ?_, ?_⟩
    · simp only [okT, if_neg hne]; simp; omega
    · simp only [sizeT, if_neg hne]; omega
    · simp only [sizeT, if_neg hne]; omega
def toksF (b : List UInt8) : Nat → Nat → List Tok
  | 0, _ => []
  | k + 1, a => if a < b.length then nextT b a :: toksF b k (a + (sizeT (nextT b a)).toNat) else []
def toksB (b : List UInt8) : List Tok := toksF b b.length 0
theorem tellN_again {b : List UInt8} {a d : Nat} (hd : 1 ≤ d) (hda : d ≤ a) (n : Nat) (hn : a + n ≤ b.length) (h : ∀ i, i < n → b.getD (a - d + i) 0 = b.getD (a + i) 0) : tellN (b.take a) d n = b.take (a + n) := by
  induction n with
  | zero => rfl
  | succ n ih =>
    have ih' := ih (by omega) fun i hi => h i (by omega)
    have h1 := h n (by omega)
    rw [tellN, ih']
    have hlen : (b.take (a + n)).length = a + n := by rw [List.length_take]; omega
    rw [hlen]
    have hg : (b.take (a + n)).getD (a + n - d) 0 = b.getD (a + n) 0 := by
      rw [← h1, List.getD_eq_getElem?_getD, List.getElem?_take, if_pos (by omega), show a + n - d = a - d + n by omega, List.getD_eq_getElem?_getD]
    rw [hg, show a + (n + 1) = a + n + 1 by omega, List.take_add_one, List.getElem?_eq_getElem (by omega), List.getD_eq_getElem?_getD, List.getElem?_eq_getElem (by omega)]
    rfl
/-- A place's token tells what is there. -/
theorem nextT_tell {b : List UInt8} {a : Nat} (h : a < b.length) : tellT (b.take a) (nextT b a) = b.take (a + (sizeT (nextT b a)).toNat) := by
  have h2 := bestF_two b a (min a 256)
  unfold nextT
  split
  · simp only [tellT, sizeT, if_pos]
    rw [show a + (1 : Int).toNat = a + 1 from rfl, List.take_add_one, List.getElem?_eq_getElem h, List.getD_eq_getElem?_getD, List.getElem?_eq_getElem h]
    rfl
  · rename_i h0
    obtain ⟨_, h18, hle, _, h5⟩ := h2
    obtain ⟨h3, h6⟩ := h5 (by omega)
    have hend := alkF_end b (a - (bestF b a (min a 256)).2) a 18 (by omega)
    have hne : ¬ (((bestF b a (min a 256)).1 : Nat) : Int) = 0 := by omega
    simp only [tellT, sizeT, if_neg hne]
    rw [Int.toNat_natCast, Int.toNat_natCast]
    refine tellN_again (by omega) (by omega) _ (by omega) fun i hi => alkF_same b _ a 18 i (by omega)
theorem toksF_text (b : List UInt8) (k a : Nat) (h : b.length ≤ a + k) (ha : a ≤ b.length) : textF (b.take a) (toksF b k a) = b ∧ okL a (toksF b k a) = true := by
  induction k generalizing a with
  | zero => simp [toksF, textF, okL]; exact List.take_of_length_le (by omega)
  | succ k ih =>
    rw [toksF]
    split
    · rename_i h1
      obtain ⟨h2, h3, h4, h5⟩ := nextT_ok h1
      obtain ⟨g1, g2⟩ := ih (a + (sizeT (nextT b a)).toNat) (by omega) (by omega)
      rw [textF, nextT_tell h1, okL_cons]
      refine ⟨g1, h2, h3, ?_⟩
      rw [show (a : Int) + sizeT (nextT b a) = ((a + (sizeT (nextT b a)).toNat : Nat) : Int) by omega]
      exact g2
    · simp [textF, okL]; exact List.take_of_length_le (by omega)
theorem toksB_text (b : List UInt8) : textF [] (toksB b) = b ∧ okL 0 (toksB b) = true := toksF_text b b.length 0 (by omega) (by omega)
theorem toksB_sum (b : List UInt8) : sumT (toksB b) = b.length := by
  obtain ⟨h1, h2⟩ := toksB_text b
  have := textF_len (b := []) h2
  rw [h1] at this
  simp at this; omega
theorem toksB_len (b : List UInt8) : (toksB b).length ≤ b.length := by
  have h1 := toksB_sum b
  have h2 := okL_sum (toksB_text b).2
  omega
/-! coder/E0.lean -/

/-- A bit, and whose. -/
structure Bit where
  at_ : Int
  b : Bool

/-- Is it a chance? -/
def isC (p : Int) : Bool := decide (31 ≤ p) && decide (p ≤ 2017)
/-- A chance behind a bit. -/
def lrn (p : Int) (b : Bool) : Int := if b then p - p / 32 else p + (2048 - p) / 32
theorem isC_iff {p : Int} : isC p = true ↔ 31 ≤ p ∧ p ≤ 2017 := by simp [isC]
theorem lrn_ok {p : Int} (b : Bool) (h : isC p = true) : isC (lrn p b) = true := by
  rw [isC_iff] at *
  cases b <;> simp [lrn] <;> omega
theorem lrn_up {p : Int} (h : isC p = true) : p ≤ lrn p false := by rw [isC_iff] at h; simp [lrn]; omega
theorem lrn_down {p : Int} (h : isC p = true) : lrn p true ≤ p := by rw [isC_iff] at h; simp [lrn]; omega

/-- A chance behind the same bit, again and again. -/
def itL (b : Bool) : Nat → Int → Int
  | 0, p => p
  | n + 1, p => itL b n (lrn p b)
theorem itL_succ (b : Bool) (n : Nat) (p : Int) : itL b (n + 1) p = lrn (itL b n p) b := by
  induction n generalizing p with
  | zero => rfl
  | succ n ih => rw [itL, ih]; rfl
theorem itL_ok (b : Bool) (n : Nat) {p : Int} (h : isC p = true) : isC (itL b n p) = true := by
  induction n generalizing p with
  | zero => exact h
  | succ n ih => exact ih (lrn_ok b h)
theorem lrn_mono {p q : Int} (h : p ≤ q) : lrn p true ≤ lrn q true := by simp [lrn]; omega
theorem itL_mono (n : Nat) {p q : Int} (h : p ≤ q) : itL true n p ≤ itL true n q := by
  induction n generalizing p q with
  | zero => exact h
  | succ n ih => exact ih (lrn_mono h)
theorem itL_flip (n : Nat) (p : Int) : itL false n (2048 - p) = 2048 - itL true n p := by
  induction n generalizing p with
  | zero => rfl
  | succ n ih =>
    have : lrn (2048 - p) false = 2048 - lrn p true := by simp [lrn]; omega
    rw [itL, this, ih, itL]
theorem itL_top : itL true 400 2017 = 31 := by decide +kernel
theorem itL_end_true {p : Int} (h : isC p = true) : itL true 400 p = 31 := by
  have h1 := isC_iff.1 (itL_ok true 400 h)
  have h2 := itL_mono 400 (isC_iff.1 h).2
  rw [itL_top] at h2
  omega
theorem itL_end_false {p : Int} (h : isC p = true) : itL false 400 p = 2017 := by
  have h1 : isC (2048 - p) = true := by rw [isC_iff] at *; omega
  have h2 := itL_flip 400 (2048 - p)
  rw [itL_end_true h1, show 2048 - (2048 - p) = p by omega] at h2
  omega

/-- May they be chances? -/
def okC (l : List Int) : Bool := decide (l.length ≤ 1024) && l.all isC
/-- Is the bit by one of so many? -/
def inB (n : Nat) (x : Bit) : Bool := decide (0 ≤ x.at_) && decide (x.at_ < n)
def stepA (l : List Int) (x : Bit) : List Int := l.set x.at_.toNat (lrn (l.getD x.at_.toNat 0) x.b)
def allF (l : List Int) (bs : List Bit) : List Int := bs.foldl stepA l
/-- What All answers. -/
def allR (l : List Int) (bs : List Bit) : List Int × Int := if okC l = false then ([], 1) else if bs.all (inB l.length) = false then ([], 4) else (allF l bs, 0)

theorem okC_iff {l : List Int} : okC l = true ↔ l.length ≤ 1024 ∧ ∀ p ∈ l, isC p = true := by simp [okC]
theorem inB_iff {n : Nat} {x : Bit} : inB n x = true ↔ 0 ≤ x.at_ ∧ x.at_ < n := by simp [inB]
theorem stepA_len (l : List Int) (x : Bit) : (stepA l x).length = l.length := by simp [stepA]
theorem allF_len (l : List Int) (bs : List Bit) : (allF l bs).length = l.length := by
  induction bs generalizing l with
  | nil => rfl
  | cons x r ih => exact (ih (stepA l x)).trans (stepA_len l x)
theorem stepA_ok {l : List Int} {x : Bit} (h : okC l = true) : okC (stepA l x) = true := by
  rw [okC_iff] at *
  refine ⟨by rw [stepA_len]; exact h.1, fun p hp => ?_⟩
  by_cases hi : x.at_.toNat < l.length
  · rcases List.mem_or_eq_of_mem_set hp with h1 | h1
    · exact h.2 p h1
    · rw [h1]
      refine lrn_ok _ (h.2 _ ?_)
      rw [List.getD_eq_getElem?_getD, List.getElem?_eq_getElem hi]
      exact List.getElem_mem _
  · unfold stepA at hp
    rw [List.set_eq_of_length_le (by omega)] at hp
    exact h.2 p hp
theorem allF_ok {l : List Int} {bs : List Bit} (h : okC l = true) : okC (allF l bs) = true := by
  induction bs generalizing l with
  | nil => exact h
  | cons x r ih => exact ih (stepA_ok h)
theorem allF_append (l : List Int) (a b : List Bit) : allF l (a ++ b) = allF (allF l a) b := by simp [allF]
theorem allF_snoc (l : List Int) {bs : List Bit} {k : Nat} (h : k < bs.length) : allF l (bs.take (k + 1)) = stepA (allF l (bs.take k)) bs[k] := by
  rw [List.take_succ_eq_append_getElem h, allF_append]; rfl
/-- What one of them learns. -/
def oneF (at_ p : Int) (bs : List Bit) : Int := bs.foldl (fun p x => if x.at_ = at_ then lrn p x.b else p) p
theorem oneF_snoc (i p : Int) {bs : List Bit} {k : Nat} (h : k < bs.length) : oneF i p (bs.take (k + 1)) = if bs[k].at_ = i then lrn (oneF i p (bs.take k)) bs[k].b else oneF i p (bs.take k) := by
  rw [List.take_succ_eq_append_getElem h]; unfold oneF; rw [List.foldl_append]; rfl
theorem oneF_ok (i : Int) {p : Int} (bs : List Bit) (h : isC p = true) : isC (oneF i p bs) = true := by
  induction bs generalizing p with
  | nil => exact h
  | cons x r ih =>
    unfold oneF
    rw [List.foldl_cons]
    split
    · exact ih (lrn_ok _ h)
    · exact ih h
theorem allF_at {l : List Int} {bs : List Bit} {i : Int} (h0 : 0 ≤ i) (h1 : i < l.length) (hb : ∀ x ∈ bs, inB l.length x = true) : (allF l bs).getD i.toNat 0 = oneF i (l.getD i.toNat 0) bs := by
  induction bs generalizing l with
  | nil => rfl
  | cons x r ih =>
    have hx := inB_iff.1 (hb x (by simp))
    have h2 := ih (l := stepA l x) (by rw [stepA_len]; exact h1) (fun y hy => by rw [stepA_len]; exact hb y (by simp [hy]))
    unfold allF at *
    rw [List.foldl_cons, h2]
    unfold oneF
    rw [List.foldl_cons]
    congr 1
    unfold stepA
    rw [List.getD_eq_getElem?_getD, List.getElem?_set]
    by_cases e : x.at_ = i
    · subst e
      simp [show x.at_.toNat < l.length by omega]
    · have : ¬ x.at_.toNat = i.toNat := by omega
      simp [this, e]
/-! coder/E1.lean -/

/-! ### numbers of octets -/
def numR : List Int → Int
  | [] => 0
  | x :: r => x + 256 * numR r
/-- The number of octets, the highest one first. -/
def num (l : List Int) : Int := numR l.reverse
def okB (l : List Int) : Prop := ∀ x ∈ l, 0 ≤ x ∧ x < 256
theorem num_snoc (l : List Int) (x : Int) : num (l ++ [x]) = num l * 256 + x := by simp [num, numR]; omega
theorem num_nil : num [] = 0 := rfl
theorem numR_lt {l : List Int} (h : okB l) : 0 ≤ numR l ∧ numR l < 256 ^ l.length := by
  induction l with
  | nil => simp [numR]
  | cons x r ih =>
    have h1 := ih fun y hy => h y (by simp [hy])
    have h2 := h x (by simp)
    rw [numR, List.length_cons, Int.pow_succ]
    generalize (256 : Int) ^ r.length = P at *
    omega
theorem okB_rev {l : List Int} (h : okB l) : okB l.reverse := fun x hx => h x (by simpa using hx)
theorem num_lt {l : List Int} (h : okB l) : 0 ≤ num l ∧ num l < 256 ^ l.length := by
  have := numR_lt (okB_rev h)
  simpa [num] using this
theorem okB_app {a b : List Int} (ha : okB a) (hb : okB b) : okB (a ++ b) := fun x hx => by
  rcases List.mem_append.1 hx with h | h
  · exact ha x h
  · exact hb x h
theorem okB_left {a b : List Int} (h : okB (a ++ b)) : okB a := fun x hx => h x (by simp [hx])
theorem okB_one {x : Int} (h : 0 ≤ x ∧ x < 256) : okB [x] := fun y hy => by simp at hy; subst hy; exact h
theorem okB_take {a : List Int} (n : Nat) (h : okB a) : okB (a.take n) := fun x hx => h x (List.mem_of_mem_take hx)
/-- The number of a beginning. -/
theorem num_take {l : List Int} (h : okB l) (u d : Nat) (hd : u + d ≤ l.length) : num (l.take u) * 256 ^ d ≤ num (l.take (u + d)) ∧ num (l.take (u + d)) < (num (l.take u) + 1) * 256 ^ d := by
  induction d with
  | zero => exact ⟨by simp, by simp; omega⟩
  | succ d ih =>
    obtain ⟨h1, h2⟩ := ih (by omega)
    have hlt : u + d < l.length := by omega
    have hx := h l[u + d] (List.getElem_mem _)
    rw [← Nat.add_assoc, List.take_succ_eq_append_getElem hlt, num_snoc, Int.pow_succ, ← Int.mul_assoc, ← Int.mul_assoc]
    generalize num (l.take u) * 256 ^ d = A at *
    generalize (num (l.take u) + 1) * 256 ^ d = B at *
    generalize l[u + d] = x at *
    omega

/-! ### a number, one more -/
def incR : List Int → List Int
  | [] => []
  | x :: r => if x = 255 then 0 :: incR r else (x + 1) :: r
def inc (l : List Int) : List Int := (incR l.reverse).reverse
theorem incR_len (l : List Int) : (incR l).length = l.length := by
  induction l with
  | nil => rfl
  | cons x r ih => rw [incR]; split <;> simp [ih]
theorem inc_len (l : List Int) : (inc l).length = l.length := by simp [inc, incR_len]
theorem incR_ok {l : List Int} (h : okB l) : okB (incR l) := by
  induction l with
  | nil => exact h
  | cons x r ih =>
    have h1 := ih fun y hy => h y (by simp [hy])
    have h2 := h x (by simp)
    rw [incR]
    split
    · intro y hy
      rcases List.mem_cons.1 hy with rfl | hy
      · omega
      · exact h1 y hy
    · intro y hy
      rcases List.mem_cons.1 hy with rfl | hy
      · omega
      · exact h y (by simp [hy])
theorem inc_ok {l : List Int} (h : okB l) : okB (inc l) := okB_rev (incR_ok (okB_rev h))
theorem incR_num {l : List Int} (h : okB l) (hl : numR l + 1 < 256 ^ l.length) : numR (incR l) = numR l + 1 := by
  induction l with
  | nil => simp [numR] at hl
  | cons x r ih =>
    have h2 := h x (by simp)
    rw [incR]
    split
    · rename_i e
      subst e
      rw [numR, List.length_cons, Int.pow_succ] at hl
      have := ih (fun y hy => h y (by simp [hy])) (by generalize (256 : Int) ^ r.length = P at *; omega)
      rw [numR, numR, this]
      omega
    · rw [numR, numR]; omega
theorem inc_num {l : List Int} (h : okB l) (hl : num l + 1 < 256 ^ l.length) : num (inc l) = num l + 1 := by
  have := incR_num (okB_rev h) (by simpa [num] using hl)
  simpa [num, inc] using this

/-! ### to encode -/
/-- The part of a span. -/
def partP (s : Int) (c : List Int) (i : Int) : Int := s / 2048 * c.getD i.toNat 0
theorem getD_ok {c : List Int} {i : Int} (h : okC c = true) (h0 : 0 ≤ i) (h1 : i < c.length) : isC (c.getD i.toNat 0) = true := by
  rw [List.getD_eq_getElem?_getD, List.getElem?_eq_getElem (by omega)]
  exact (okC_iff.1 h).2 _ (List.getElem_mem _)
theorem part_ok {s : Int} {c : List Int} {i : Int} (hc : okC c = true) (h0 : 0 ≤ i) (h1 : i < c.length) (hs : 16777216 ≤ s ∧ s < 4294967296) : 253952 ≤ partP s c i ∧ partP s c i ≤ s - 253952 ∧ s - 2047 ≤ 67 * partP s c i ∧ s ≤ 67 * (s - partP s c i) := by
  obtain ⟨p0, p1⟩ := isC_iff.1 (getD_ok hc h0 h1)
  have m1 : s / 2048 * 31 ≤ s / 2048 * c.getD i.toNat 0 := Int.mul_le_mul_of_nonneg_left p0 (by omega)
  have m2 : s / 2048 * c.getD i.toNat 0 ≤ s / 2048 * 2017 := Int.mul_le_mul_of_nonneg_left p1 (by omega)
  unfold partP
  generalize s / 2048 * c.getD i.toNat 0 = z at *
  omega

structure Enc where
  c : List Int
  span : Int
  low : Int
  text : List Int
/-- Behind a bit, ahead of what is put behind the text. -/
def put1 (s : Enc) (x : Bit) : Enc :=
  { c := stepA s.c x
    span := if x.b then s.span - partP s.span s.c x.at_ else partP s.span s.c x.at_
    low := if x.b then (s.low + partP s.span s.c x.at_) % 4294967296 else s.low
    text := if x.b = true ∧ 4294967296 ≤ s.low + partP s.span s.c x.at_ then inc s.text else s.text }
/-- The highest octet of low put behind the text. -/
def shf (s : Enc) : Enc := { c := s.c, span := s.span * 256, low := s.low % 16777216 * 256, text := s.text ++ [s.low / 16777216] }
def put (s : Enc) (x : Bit) : Enc := if (put1 s x).span < 16777216 then shf (put1 s x) else put1 s x
def putAll (s : Enc) (xs : List Bit) : Enc := xs.foldl put s
def start0 (n : Int) : Enc := ⟨List.replicate n.toNat 1024, 4294967295, 0, [0]⟩
def be4 (n : Int) : List Int := [n / 16777216, n / 65536 % 256, n / 256 % 256, n % 256]
def endT (s : Enc) : List Int := s.text ++ be4 s.low

structure OkE (s : Enc) : Prop where
  c : okC s.c = true
  span : 16777216 ≤ s.span ∧ s.span < 4294967296
  low : 0 ≤ s.low ∧ s.low < 4294967296
  text : okB s.text
  one : 0 < s.text.length
/-- The number that a text and low are. -/
def numE (s : Enc) : Int := num s.text * 4294967296 + s.low
structure InvE (s : Enc) : Prop extends OkE s where
  top : numE s + s.span ≤ 4294967295 * 256 ^ (s.text.length - 1)

theorem put1_len (s : Enc) (x : Bit) : (put1 s x).text.length = s.text.length := by
  simp only [put1]
  split
  · exact inc_len _
  · rfl
theorem put1_c (s : Enc) (x : Bit) : (put1 s x).c.length = s.c.length := stepA_len _ _
theorem put_c (s : Enc) (x : Bit) : (put s x).c.length = s.c.length := by
  unfold put
  split
  · exact put1_c s x
  · exact put1_c s x
theorem putAll_c (s : Enc) (xs : List Bit) : (putAll s xs).c.length = s.c.length := by
  induction xs generalizing s with
  | nil => rfl
  | cons x r ih => exact (ih (put s x)).trans (put_c s x)
/-- What a bit makes of the number. -/
theorem put1_ok {s : Enc} {x : Bit} (h : InvE s) (hx : inB s.c.length x = true) :
    okC (put1 s x).c = true ∧ 253952 ≤ (put1 s x).span ∧ (put1 s x).span < 4294967296 ∧ (0 ≤ (put1 s x).low ∧ (put1 s x).low < 4294967296) ∧ okB (put1 s x).text ∧
    numE (put1 s x) = numE s + (if x.b then partP s.span s.c x.at_ else 0) ∧ numE (put1 s x) + (put1 s x).span ≤ numE s + s.span := by
  obtain ⟨h0, h1⟩ := inB_iff.1 hx
  have hp := part_ok h.c h0 h1 h.span
  have hs := h.span
  have hl := h.low
  have ht := h.top
  have hb := num_lt h.text
  have h1' := h.one
  have hpow : (256 : Int) ^ s.text.length = 256 ^ (s.text.length - 1) * 256 := by
    obtain ⟨m, hm⟩ : ∃ m, s.text.length = m + 1 := ⟨s.text.length - 1, by omega⟩
    rw [hm, Int.pow_succ, Nat.add_sub_cancel]
  unfold put1 numE
  unfold numE at ht
  simp only []
  generalize partP s.span s.c x.at_ = p at *
  refine ⟨stepA_ok h.c, ?_⟩
  cases hxb : x.b
  · simp only [Bool.false_eq_true, if_false, false_and]
    exact ⟨by omega, by omega, by omega, h.text, by omega, by omega⟩
  · simp only [if_true, true_and]
    split
    · rename_i hc
      have hn := inc_num h.text (by
        rw [hpow]
        generalize (256 : Int) ^ (s.text.length - 1) = P at *
        omega)
      have hi := inc_ok h.text
      rw [hn]
      exact ⟨by omega, by omega, by omega, hi, by omega, by omega⟩
    · exact ⟨by omega, by omega, by omega, h.text, by omega, by omega⟩
theorem shf_num (s : Enc) : numE (shf s) = numE s * 256 := by
  unfold shf numE
  simp only [num_snoc]
  omega
theorem be4_num (l : List Int) (n : Int) : num (l ++ be4 n) = num l * 4294967296 + n := by
  unfold be4
  rw [show l ++ [n / 16777216, n / 65536 % 256, n / 256 % 256, n % 256] = (((l ++ [n / 16777216]) ++ [n / 65536 % 256]) ++ [n / 256 % 256]) ++ [n % 256] by simp]
  simp only [num_snoc]
  omega
theorem be4_ok {n : Int} (h : 0 ≤ n ∧ n < 4294967296) : okB (be4 n) := by
  intro x hx
  simp [be4] at hx
  omega
theorem endT_num (s : Enc) : num (endT s) = numE s := be4_num _ _
theorem endT_len (s : Enc) : (endT s).length = s.text.length + 4 := by simp [endT, be4]
theorem endT_ok {s : Enc} (h : OkE s) : okB (endT s) := okB_app h.text (be4_ok h.low)

/-- How far a bit goes: no octet, or one. -/
theorem put_ok {s : Enc} {x : Bit} (h : InvE s) (hx : inB s.c.length x = true) :
    InvE (put s x) ∧ ∃ d, (put s x).text.length = s.text.length + d ∧ numE s * 256 ^ d ≤ numE (put s x) ∧ numE (put s x) + (put s x).span ≤ (numE s + s.span) * 256 ^ d := by
  obtain ⟨a1, a2, a3, a4, a5, a6, a7⟩ := put1_ok h hx
  have hl := put1_len s x
  have ht := h.top
  have h1 := h.one
  obtain ⟨h0', h1'⟩ := inB_iff.1 hx
  have hp := part_ok h.c h0' h1' h.span
  have a8 : numE s ≤ numE (put1 s x) := by rw [a6]; split <;> omega
  clear a6 hp
  unfold put
  generalize put1 s x = t at *
  split
  · rename_i hlt
    refine ⟨⟨⟨a1, ?_, ?_, okB_app a5 (okB_one ?_), ?_⟩, ?_⟩, 1, ?_, ?_, ?_⟩
    · simp only [shf]; omega
    · simp only [shf]; omega
    · omega
    · simp [shf]
    · rw [shf_num]
      simp only [shf, List.length_append, List.length_singleton, hl]
      rw [show s.text.length + 1 - 1 = s.text.length - 1 + 1 by omega, Int.pow_succ]
      generalize (256 : Int) ^ (s.text.length - 1) = P at *
      omega
    · simp [shf, hl]
    · rw [shf_num]; omega
    · rw [shf_num]; simp only [shf]; omega
  · rename_i hge
    refine ⟨⟨⟨a1, by omega, a4, a5, by omega⟩, ?_⟩, 0, ?_, ?_, ?_⟩
    · rw [hl]; omega
    · omega
    · simpa using a8
    · simpa using a7
theorem putAll_ok {s : Enc} {xs : List Bit} (h : InvE s) (hx : ∀ x ∈ xs, inB s.c.length x = true) :
    InvE (putAll s xs) ∧ ∃ d, (putAll s xs).text.length = s.text.length + d ∧ numE s * 256 ^ d ≤ numE (putAll s xs) ∧ numE (putAll s xs) + (putAll s xs).span ≤ (numE s + s.span) * 256 ^ d := by
  induction xs generalizing s with
  | nil => exact ⟨h, 0, rfl, by simp [putAll], by simp [putAll]⟩
  | cons x r ih =>
    obtain ⟨g, d, d1, d2, d3⟩ := put_ok h (hx x (by simp))
    obtain ⟨g', e, e1, e2, e3⟩ := ih g fun y hy => by rw [put_c]; exact hx y (by simp [hy])
    have hd : (0 : Int) ≤ 256 ^ e := Int.pow_nonneg (by omega)
    refine ⟨g', d + e, ?_, ?_, ?_⟩
    · show (putAll (put s x) r).text.length = _
      omega
    · show _ ≤ numE (putAll (put s x) r)
      rw [Int.pow_add, ← Int.mul_assoc]
      exact Int.le_trans (Int.mul_le_mul_of_nonneg_right d2 hd) e2
    · show numE (putAll (put s x) r) + (putAll (put s x) r).span ≤ _
      rw [Int.pow_add, ← Int.mul_assoc]
      exact Int.le_trans e3 (Int.mul_le_mul_of_nonneg_right d3 hd)
theorem start_ok {n : Int} (h1 : n ≤ 1024) : InvE (start0 n) := by
  refine ⟨⟨okC_iff.2 ⟨by simp [start0]; omega, fun p hp => ?_⟩, ?_, ?_, ?_, ?_⟩, ?_⟩
  · rw [(List.mem_replicate.1 hp).2]; rfl
  · simp [start0]
  · simp [start0]
  · exact okB_one (by omega)
  · simp [start0]
  · simp [start0, numE, num, numR]
theorem start_c (n : Int) : (start0 n).c.length = n.toNat := by simp [start0]

/-! ### to read -/
structure Rdr where
  c : List Int
  span : Int
  code : Int
  used : Nat
def bitR (r : Rdr) (i : Int) : Bool := decide (partP r.span r.c i ≤ r.code)
def spanR (r : Rdr) (i : Int) : Int := if bitR r i then r.span - partP r.span r.c i else partP r.span r.c i
def codeR (r : Rdr) (i : Int) : Int := if bitR r i then r.code - partP r.span r.c i else r.code
/-- The next bit, the reader behind it, the error. -/
def nextR (t : List Int) (r : Rdr) (i : Int) : Bool × Rdr × Int :=
  if ¬ (0 ≤ i ∧ i < r.c.length) then (false, r, 4)
  else if spanR r i < 16777216 then
    if r.used < t.length then (bitR r i, ⟨stepA r.c ⟨i, bitR r i⟩, spanR r i * 256, codeR r i * 256 + t.getD r.used 0, r.used + 1⟩, 0) else (false, r, 2)
  else (bitR r i, ⟨stepA r.c ⟨i, bitR r i⟩, spanR r i, codeR r i, r.used⟩, 0)
theorem nextR_in {t : List Int} {r : Rdr} {i : Int} (h : 0 ≤ i ∧ i < r.c.length) : nextR t r i =
  if spanR r i < 16777216 then
    if r.used < t.length then (bitR r i, ⟨stepA r.c ⟨i, bitR r i⟩, spanR r i * 256, codeR r i * 256 + t.getD r.used 0, r.used + 1⟩, 0) else (false, r, 2)
  else (bitR r i, ⟨stepA r.c ⟨i, bitR r i⟩, spanR r i, codeR r i, r.used⟩, 0) := by
  unfold nextR
  rw [if_neg (not_not_intro h)]
/-- All bits, behind those that were read. -/
def rdA (t : List Int) : List Bool → Rdr → List Int → List Bool × Nat × Int
  | acc, r, [] => (acc, r.used, 0)
  | acc, r, i :: is => if (nextR t r i).2.2 = 0 then rdA t (acc ++ [(nextR t r i).1]) (nextR t r i).2.1 is else ([], 0, (nextR t r i).2.2)
structure OkR (r : Rdr) : Prop where
  c : okC r.c = true
  span : 16777216 ≤ r.span ∧ r.span < 4294967296
  code : 0 ≤ r.code ∧ r.code < r.span
/-- What a bit leaves, ahead of the next octet. -/
theorem half_ok {r : Rdr} {i : Int} (h : OkR r) (h0 : 0 ≤ i) (h1 : i < r.c.length) : 253952 ≤ spanR r i ∧ spanR r i < 4294967296 ∧ 0 ≤ codeR r i ∧ codeR r i < spanR r i := by
  have hp := part_ok h.c h0 h1 h.span
  have hs := h.span
  have hc := h.code
  unfold spanR codeR
  cases hb : bitR r i
  · have := of_decide_eq_false hb
    simp only [Bool.false_eq_true, if_false]
    omega
  · have := of_decide_eq_true hb
    simp only [if_true]
    omega
theorem nextR_ok {t : List Int} {r : Rdr} {i : Int} (ht : okB t) (h : OkR r) : OkR (nextR t r i).2.1 := by
  unfold nextR
  split
  · exact h
  · rename_i hi
    have hi' : 0 ≤ i ∧ i < r.c.length := Decidable.not_not.1 hi
    obtain ⟨a1, a2, a3, a4⟩ := half_ok h hi'.1 hi'.2
    split
    · split
      · rename_i hu
        have hx := ht (t.getD r.used 0) (by rw [List.getD_eq_getElem?_getD, List.getElem?_eq_getElem hu]; exact List.getElem_mem _)
        exact ⟨stepA_ok h.c, by simp only []; omega, by simp only []; omega⟩
      · exact h
    · exact ⟨stepA_ok h.c, by simp only []; omega, by simp only []; omega⟩
theorem nextR_c (t : List Int) (r : Rdr) (i : Int) : (nextR t r i).2.1.c.length = r.c.length := by
  unfold nextR
  split
  · rfl
  · split
    · split
      · exact stepA_len _ _
      · rfl
    · exact stepA_len _ _
def startR (n : Int) (t : List Int) : Rdr := ⟨List.replicate n.toNat 1024, 4294967295, num ((t.drop 1).take 4), 5⟩
def newN (n : Int) : Bool := decide (0 ≤ n) && decide (n ≤ 1024)
theorem newN_iff {n : Int} : newN n = true ↔ 0 ≤ n ∧ n ≤ 1024 := by simp [newN]
/-- NewReader's error. -/
def startE (n : Int) (t : List Int) : Int := if newN n = false then 1 else if t.length < 5 ∨ t.getD 0 0 ≠ 0 ∨ num ((t.drop 1).take 4) = 4294967295 then 2 else 0
theorem startE_iff {n : Int} {t : List Int} : startE n t = 0 ↔ newN n = true ∧ 5 ≤ t.length ∧ t.getD 0 0 = 0 ∧ num ((t.drop 1).take 4) ≠ 4294967295 := by
  unfold startE
  generalize num ((t.drop 1).take 4) = z
  generalize t.getD 0 0 = y
  cases hn : newN n
  · simp
  · rw [if_neg (by simp)]
    by_cases h : t.length < 5 ∨ y ≠ 0 ∨ z = 4294967295
    · rw [if_pos h]
      exact ⟨fun h => (by cases h), fun ⟨_, h1, h2, h3⟩ => (by omega)⟩
    · rw [if_neg h]
      exact ⟨fun _ => ⟨rfl, by omega, by omega, by omega⟩, fun _ => rfl⟩
def decR (n : Int) (t : List Int) (at_ : List Int) : List Bool × Nat × Int := if startE n t = 0 then rdA t [] (startR n t) at_ else ([], 0, startE n t)
/-- Encode's answer. -/
def encE (n : Int) (bs : List Bit) : Int := if newN n = false then 1 else if 1048576 < bs.length then 3 else if bs.all (inB n.toNat) = false then 4 else 0
def encT (n : Int) (bs : List Bit) : List Int := if encE n bs = 0 then endT (putAll (start0 n) bs) else []

/-! ### what is encoded is read -/
/-- A reader of the text 't' stands where the writer stood. -/
structure Ties (t : List Int) (s : Enc) (r : Rdr) : Prop where
  c : r.c = s.c
  span : r.span = s.span
  used : r.used = s.text.length + 4
  code : r.code = num (t.take r.used) - numE s

/-- What the text's beginning is, seen from the end. -/
theorem seen {t : List Int} (ht : okB t) (u d : Nat) (hd : u + d ≤ t.length) {A B : Int} (h1 : A * 256 ^ d ≤ num (t.take (u + d))) (h2 : num (t.take (u + d)) < B * 256 ^ d) : A ≤ num (t.take u) ∧ num (t.take u) < B := by
  obtain ⟨g1, g2⟩ := num_take ht u d hd
  have hp : (0 : Int) < 256 ^ d := Int.pow_pos (by omega)
  constructor
  · have := Int.lt_of_mul_lt_mul_right (Int.lt_of_le_of_lt h1 g2) (Int.le_of_lt hp)
    omega
  · exact Int.lt_of_mul_lt_mul_right (Int.lt_of_le_of_lt g1 h2) (Int.le_of_lt hp)

/-- One bit read. The end 'S' of all is where the whole text's octets stand. -/
theorem ties_next {t : List Int} {s : Enc} {r : Rdr} {x : Bit} {ys : List Bit} (ht : okB t) (h : InvE s) (hx : ∀ y ∈ x :: ys, inB s.c.length y = true) (hr : Ties t s r)
    (hlen : (putAll s (x :: ys)).text.length + 4 ≤ t.length) (hnum : num (t.take ((putAll s (x :: ys)).text.length + 4)) = numE (putAll s (x :: ys))) :
    (nextR t r x.at_).1 = x.b ∧ (nextR t r x.at_).2.2 = 0 ∧ Ties t (put s x) (nextR t r x.at_).2.1 := by
  have hx0 := hx x (by simp)
  obtain ⟨h0, h1⟩ := inB_iff.1 hx0
  obtain ⟨a1, a2, a3, a4, a5, a6, a7⟩ := put1_ok h hx0
  obtain ⟨g, d1, e1, _, _⟩ := put_ok h hx0
  obtain ⟨g', d, e2, e3, e4⟩ := putAll_ok (xs := ys) g (fun y hy => by rw [put_c]; exact hx y (by simp [hy]))
  have hput : putAll s (x :: ys) = putAll (put s x) ys := rfl
  rw [hput] at hlen hnum
  have hsp := g'.span
  -- seen from behind this bit
  have s1 := seen ht ((put s x).text.length + 4) d (by omega) (A := numE (put s x)) (B := numE (put s x) + (put s x).span)
    (by rw [show (put s x).text.length + 4 + d = (putAll (put s x) ys).text.length + 4 by omega, hnum]; exact e3)
    (by rw [show (put s x).text.length + 4 + d = (putAll (put s x) ys).text.length + 4 by omega, hnum]; omega)
  have hc := hr.c
  have hs := hr.span
  have hu := hr.used
  have hcode := hr.code
  have hpl := put1_len s x
  have key : numE (put1 s x) ≤ num (t.take (s.text.length + 4)) ∧ num (t.take (s.text.length + 4)) < numE (put1 s x) + (put1 s x).span := by
    by_cases hlt : (put1 s x).span < 16777216
    · have hp : put s x = shf (put1 s x) := by unfold put; rw [if_pos hlt]
      rw [hp] at s1 hlen e2
      have hl1 : (shf (put1 s x)).text.length = s.text.length + 1 := by simp [shf, hpl]
      rw [hl1] at s1 e2
      have := seen ht (s.text.length + 4) 1 (by omega) (A := numE (put1 s x)) (B := numE (put1 s x) + (put1 s x).span)
        (by rw [show s.text.length + 4 + 1 = s.text.length + 1 + 4 by omega]; have := s1.1; rw [shf_num] at this; omega)
        (by rw [show s.text.length + 4 + 1 = s.text.length + 1 + 4 by omega]; have := s1.2; rw [shf_num] at this; simp only [shf] at this; omega)
      exact this
    · have hp : put s x = put1 s x := by unfold put; rw [if_neg hlt]
      rw [hp, hpl] at s1
      exact s1
  have hbit : bitR r x.at_ = x.b := by
    unfold bitR
    rw [hs, hc, hcode, hu]
    have hps : (put1 s x).span = if x.b then s.span - partP s.span s.c x.at_ else partP s.span s.c x.at_ := rfl
    cases hb : x.b
    · rw [hb] at a6 hps
      simp only [Bool.false_eq_true, if_false] at a6 hps
      rw [decide_eq_false]
      omega
    · rw [hb] at a6
      simp only [if_true] at a6
      rw [decide_eq_true]
      omega
  have hspan : spanR r x.at_ = (put1 s x).span := by
    unfold spanR
    rw [hbit, hs, hc]
    rfl
  have hcodeR : codeR r x.at_ = num (t.take (s.text.length + 4)) - numE (put1 s x) := by
    unfold codeR
    rw [hbit, hs, hc, hcode, hu, a6]
    cases x.b
    · simp
    · simp only [if_true]; omega
  have hstep : stepA r.c ⟨x.at_, bitR r x.at_⟩ = (put1 s x).c := by rw [hc, hbit]; rfl
  unfold nextR
  rw [if_neg (by rw [hc]; exact not_not_intro ⟨h0, h1⟩), hspan]
  by_cases hlt : (put1 s x).span < 16777216
  · have hp : put s x = shf (put1 s x) := by unfold put; rw [if_pos hlt]
    have hl1 : (shf (put1 s x)).text.length = s.text.length + 1 := by simp [shf, hpl]
    have e3' : (putAll (put s x) ys).text.length = s.text.length + 1 + d := by rw [e2, hp, hl1]
    have hul : r.used < t.length := by omega
    have hg : t.getD r.used 0 = t[r.used] := by rw [List.getD_eq_getElem?_getD, List.getElem?_eq_getElem hul]; rfl
    rw [if_pos hlt, if_pos hul, hp]
    refine ⟨hbit, rfl, hstep, rfl, ?_, ?_⟩
    · simp only [hl1]; omega
    · simp only []
      rw [shf_num, List.take_succ_eq_append_getElem hul, num_snoc, hcodeR, hg, ← hu]
      omega
  · have hp : put s x = put1 s x := by unfold put; rw [if_neg hlt]
    rw [if_neg hlt, hp]
    refine ⟨hbit, rfl, hstep, rfl, ?_, ?_⟩
    · rw [hpl]; exact hu
    · simp only []
      rw [hcodeR, hu]

/-- All bits of a beginning are read. -/
theorem ties_all {t : List Int} {s : Enc} {r : Rdr} {xs ys : List Bit} (acc : List Bool) (ht : okB t) (h : InvE s) (hx : ∀ y ∈ xs ++ ys, inB s.c.length y = true) (hr : Ties t s r)
    (hlen : (putAll s (xs ++ ys)).text.length + 4 ≤ t.length) (hnum : num (t.take ((putAll s (xs ++ ys)).text.length + 4)) = numE (putAll s (xs ++ ys))) :
    rdA t acc r (xs.map Bit.at_) = (acc ++ xs.map Bit.b, (putAll s xs).text.length + 4, 0) := by
  induction xs generalizing s r acc with
  | nil => simp [rdA, putAll, hr.used]
  | cons x xs ih =>
    obtain ⟨b1, b2, b3⟩ := ties_next (ys := xs ++ ys) ht h hx hr hlen hnum
    have hx0 := hx x (by simp)
    obtain ⟨g, _⟩ := put_ok h hx0
    rw [List.map_cons, rdA, if_pos b2, b1, ih (acc ++ [x.b]) g (fun y hy => by rw [put_c]; exact hx y (by simp at hy ⊢; rcases hy with h | h <;> simp [h])) b3 hlen hnum]
    simp [putAll]

/-- Without its last octet a text is not read to its end. -/
theorem ties_short {t : List Int} {s : Enc} {r : Rdr} {xs : List Bit} (acc : List Bool) (ht : okB t) (h : InvE s) (hx : ∀ y ∈ xs, inB s.c.length y = true) (hr : Ties t s r)
    (hlen : t.length = (putAll s xs).text.length + 4) (hnum : num t = numE (putAll s xs)) (hmore : s.text.length < (putAll s xs).text.length) :
    rdA (t.take (t.length - 1)) acc r (xs.map Bit.at_) = ([], 0, 2) := by
  induction xs generalizing s r acc with
  | nil => exact absurd hmore (Nat.lt_irrefl _)
  | cons x xs ih =>
    have hx0 := hx x (by simp)
    have htk : t.take ((putAll s (x :: xs)).text.length + 4) = t := List.take_of_length_le (by omega)
    obtain ⟨b1, b2, b3⟩ := ties_next (ys := xs) ht h hx hr (by omega) (by rw [htk]; exact hnum)
    obtain ⟨g, d1, e1, _, _⟩ := put_ok h hx0
    obtain ⟨g', d, e2, _, _⟩ := putAll_ok (xs := xs) g (fun y hy => by rw [put_c]; exact hx y (by simp [hy]))
    have hput : putAll s (x :: xs) = putAll (put s x) xs := rfl
    rw [hput] at hlen hmore
    have hu := hr.used
    obtain ⟨h0, h1⟩ := inB_iff.1 hx0
    -- what is read of the text without its last octet
    have hsame : nextR (t.take (t.length - 1)) r x.at_ = if (put s x).text.length + 4 < t.length ∨ (put s x).text.length = s.text.length then nextR t r x.at_ else (false, r, 2) := by
      rw [nextR_in (by rw [hr.c]; exact ⟨h0, h1⟩), nextR_in (by rw [hr.c]; exact ⟨h0, h1⟩)]
      by_cases hlt : spanR r x.at_ < 16777216
      · simp only [if_pos hlt]
        have hue : (nextR t r x.at_).2.1.used = r.used + 1 := by
          have := b2
          rw [nextR_in (by rw [hr.c]; exact ⟨h0, h1⟩), if_pos hlt] at this ⊢
          split at this
          · rw [if_pos (by assumption)]
          · simp at this
        have h3 := b3.used
        by_cases hl : r.used < t.length - 1
        · have e5 : (t.take (t.length - 1)).getD r.used 0 = t.getD r.used 0 := by
            rw [List.getD_eq_getElem?_getD, List.getD_eq_getElem?_getD, List.getElem?_take, if_pos hl]
          rw [if_pos (by rw [List.length_take]; omega), if_pos (by omega : r.used < t.length), e5, if_pos (by omega)]
        · rw [if_neg (by rw [List.length_take]; omega), if_neg (by omega)]
      · simp only [if_neg hlt]
        have hue : (nextR t r x.at_).2.1.used = r.used := by
          rw [nextR_in (by rw [hr.c]; exact ⟨h0, h1⟩), if_neg hlt]
        have h3 := b3.used
        rw [if_pos (Or.inr (by omega))]
    rw [List.map_cons, rdA, hsame]
    by_cases hl : (put s x).text.length + 4 < t.length ∨ (put s x).text.length = s.text.length
    · rw [if_pos hl, if_pos b2]
      exact ih _ g (fun y hy => by rw [put_c]; exact hx y (by simp [hy])) b3 hlen hnum (by omega)
    · rw [if_neg hl]
      simp

theorem encE_ok {n : Int} {bs : List Bit} (h : encE n bs = 0) : (0 ≤ n ∧ n ≤ 1024) ∧ bs.length ≤ 1048576 ∧ ∀ x ∈ bs, inB n.toNat x = true := by
  unfold encE at h
  split at h
  · cases h
  · rename_i h1
    split at h
    · cases h
    · rename_i h2
      split at h
      · cases h
      · rename_i h3
        refine ⟨newN_iff.1 (by simpa using h1), by omega, ?_⟩
        simpa using h3
theorem enc_inv {n : Int} {bs : List Bit} (h : encE n bs = 0) : InvE (putAll (start0 n) bs) ∧ ∃ d, (putAll (start0 n) bs).text.length = 1 + d ∧ numE (putAll (start0 n) bs) + (putAll (start0 n) bs).span ≤ 4294967295 * 256 ^ d := by
  obtain ⟨h1, h2, h3⟩ := encE_ok h
  obtain ⟨g, d, d1, d2, d3⟩ := putAll_ok (xs := bs) (start_ok h1.2) (by rw [start_c]; exact h3)
  refine ⟨g, d, d1, ?_⟩
  simpa [start0, numE, num, numR] using d3
theorem encE_prefix {n : Int} {xs ys : List Bit} (h : encE n (xs ++ ys) = 0) : encE n xs = 0 := by
  obtain ⟨h1, h2, h3⟩ := encE_ok h
  have hx : xs.all (inB n.toNat) = true := List.all_eq_true.2 fun x hx => h3 x (by simp [hx])
  unfold encE
  rw [if_neg (by simp [newN_iff.2 h1]), if_neg (by simp at h2; omega), if_neg (by simp [hx])]

/-- A reader of such a text begins where the writer began. -/
theorem ties_start {n : Int} {bs : List Bit} (h : encE n bs = 0) (more : List Int) (hm : okB more) :
    startE n (encT n bs ++ more) = 0 ∧ Ties (encT n bs ++ more) (start0 n) (startR n (encT n bs ++ more)) := by
  obtain ⟨h1, h2, h3⟩ := encE_ok h
  obtain ⟨g, d, d1, d3⟩ := enc_inv h
  have he : encT n bs = endT (putAll (start0 n) bs) := by unfold encT; rw [if_pos h]
  rw [he]
  generalize hS : putAll (start0 n) bs = S at *
  have hl := endT_len S
  have ht : okB (endT S ++ more) := okB_app (endT_ok g.toOkE) hm
  have hlow := g.low
  have hspan := g.span
  have hnn := (num_lt g.text).1
  have hn : num ((endT S ++ more).take (5 + d)) = numE S := by
    rw [List.take_append_of_le_length (by omega), List.take_of_length_le (by omega)]
    exact endT_num S
  have s1 := seen ht 5 d (by simp; omega) (A := 0) (B := 4294967295) (by rw [hn, Int.zero_mul]; unfold numE; omega) (by rw [hn]; omega)
  have s2 := seen ht 1 4 (by simp; omega) (A := 0) (B := 1) (by rw [Int.zero_mul]; exact s1.1) (by rw [Int.one_mul, show (256 : Int) ^ 4 = 4294967296 by decide]; have := s1.2; change num (List.take 5 _) < _; omega)
  have hlt : 5 ≤ (endT S ++ more).length := by simp; omega
  generalize endT S ++ more = t at *
  match t, hlt with
  | x :: r, hlt =>
    have hx0 : x = 0 := by
      have h5 : num ((x :: r).take 1) = x := by simp [num, numR]
      rw [h5] at s2
      omega
    subst hx0
    have hd : (0 :: r).take 5 = 0 :: ((0 :: r : List Int).drop 1).take 4 := by simp
    have hnum0 : ∀ l : List Int, num (0 :: l) = num l := by
      intro l
      unfold num
      rw [List.reverse_cons]
      generalize l.reverse = m
      induction m with
      | nil => simp [numR]
      | cons a m ih => rw [List.cons_append, numR, numR, ih]
    have hcode : num ((0 :: r).take 5) = num (((0 :: r : List Int).drop 1).take 4) := by rw [hd, hnum0]
    rw [hcode] at s1
    refine ⟨?_, rfl, rfl, ?_, ?_⟩
    · unfold startE
      rw [if_neg (by simp [newN_iff.2 h1]), if_neg]
      simp only [not_or]
      refine ⟨by omega, by simp, ?_⟩
      omega
    · simp [startR, start0]
    · simp only [startR]
      rw [hcode]
      simp [start0, numE, num, numR]

theorem encT_ok {n : Int} {bs : List Bit} (h : encE n bs = 0) : encT n bs = endT (putAll (start0 n) bs) := by unfold encT; rw [if_pos h]
theorem encT_len {n : Int} {bs : List Bit} (h : encE n bs = 0) : (encT n bs).length = (putAll (start0 n) bs).text.length + 4 := by rw [encT_ok h, endT_len]
theorem encT_okB {n : Int} {bs : List Bit} (h : encE n bs = 0) : okB (encT n bs) := by rw [encT_ok h]; exact endT_ok (enc_inv h).1.toOkE
/-- P6.4: what is encoded is read; a beginning, too. -/
theorem back_all {n : Int} {xs ys : List Bit} (h : encE n (xs ++ ys) = 0) (more : List Int) (hm : okB more) :
    decR n (encT n (xs ++ ys) ++ more) (xs.map Bit.at_) = (xs.map Bit.b, (encT n xs).length, 0) := by
  obtain ⟨h1, h2, h3⟩ := encE_ok h
  obtain ⟨a, b⟩ := ties_start h more hm
  have hl := encT_len h
  have hlt : (encT n (xs ++ ys)).length ≤ (encT n (xs ++ ys) ++ more).length := by simp
  unfold decR
  rw [if_pos a, ties_all [] (okB_app (encT_okB h) hm) (start_ok h1.2) (by rw [start_c]; exact h3) b (by omega) (by
    rw [← hl, List.take_append_of_le_length (Nat.le_refl _), List.take_length, encT_ok h]
    exact endT_num _), encT_len (encE_prefix h)]
  simp
theorem short_all {n : Int} {bs : List Bit} (h : encE n bs = 0) : (decR n ((encT n bs).take ((encT n bs).length - 1)) (bs.map Bit.at_)).2.2 = 2 := by
  obtain ⟨h1, h2, h3⟩ := encE_ok h
  obtain ⟨a, b⟩ := ties_start h [] (fun x hx => by simp at hx)
  rw [List.append_nil] at a b
  have hl := encT_len h
  obtain ⟨g, d, d1, _⟩ := enc_inv h
  unfold decR
  by_cases h5 : (encT n bs).length = 5
  · have : startE n ((encT n bs).take ((encT n bs).length - 1)) = 2 := by
      unfold startE
      rw [if_neg (by simp [newN_iff.2 h1]), if_pos (Or.inl (by simp; omega))]
    rw [if_neg (by rw [this]; decide), this]
  · have e1 : (((encT n bs).take ((encT n bs).length - 1)).drop 1).take 4 = ((encT n bs).drop 1).take 4 := by
      rw [List.drop_take, List.take_take, Nat.min_eq_left (by omega)]
    have e2 : ((encT n bs).take ((encT n bs).length - 1)).getD 0 0 = (encT n bs).getD 0 0 := by
      rw [List.getD_eq_getElem?_getD, List.getD_eq_getElem?_getD, List.getElem?_take, if_pos (by omega)]
    have e3 : startE n ((encT n bs).take ((encT n bs).length - 1)) = 0 := by
      obtain ⟨a1, a2, a3, a4⟩ := startE_iff.1 a
      exact startE_iff.2 ⟨a1, by rw [List.length_take]; omega, by rw [e2]; exact a3, by rw [e1]; exact a4⟩
    have e4 : startR n ((encT n bs).take ((encT n bs).length - 1)) = startR n (encT n bs) := by
      unfold startR
      rw [e1]
    rw [if_pos e3, e4, ties_short [] (encT_okB h) (start_ok h1.2) (by rw [start_c]; exact h3) b hl (by rw [encT_ok h]; exact endT_num _) (by rw [show (start0 n).text.length = 1 from rfl]; omega)]
theorem len_mono {n : Int} {xs ys : List Bit} (h : encE n (xs ++ ys) = 0) : (encT n xs).length ≤ (encT n (xs ++ ys)).length := by
  have h3 := (encE_ok h).2.2
  rw [encT_len h, encT_len (encE_prefix h)]
  have hp := (enc_inv (encE_prefix h)).1
  have hc : (putAll (start0 n) xs).c.length = n.toNat := by rw [putAll_c, start_c]
  obtain ⟨_, d, d1, _⟩ := putAll_ok (xs := ys) hp (by rw [hc]; exact fun x hx => h3 x (by simp [hx]))
  have : putAll (start0 n) (xs ++ ys) = putAll (putAll (start0 n) xs) ys := by simp [putAll]
  rw [this]
  omega

/-! ### how long a text is -/
theorem put_more {s : Enc} {x : Bit} (h : InvE s) (hx : inB s.c.length x = true) : ∃ d, (put s x).text.length = s.text.length + d ∧ s.span * 256 ^ d ≤ 100 * (put s x).span := by
  obtain ⟨h0, h1⟩ := inB_iff.1 hx
  have hp := part_ok h.c h0 h1 h.span
  have hs := h.span
  have e : s.span ≤ 100 * (put1 s x).span := by
    have : (put1 s x).span = if x.b then s.span - partP s.span s.c x.at_ else partP s.span s.c x.at_ := rfl
    rw [this]
    split <;> omega
  have hl := put1_len s x
  unfold put
  split
  · exact ⟨1, by simp [shf, hl], by simp only [shf]; omega⟩
  · exact ⟨0, by omega, by omega⟩
theorem putAll_more {s : Enc} {xs : List Bit} (h : InvE s) (hx : ∀ x ∈ xs, inB s.c.length x = true) :
    ∃ d, (putAll s xs).text.length = s.text.length + d ∧ s.span * 256 ^ d ≤ 100 ^ xs.length * (putAll s xs).span := by
  induction xs generalizing s with
  | nil => exact ⟨0, rfl, by simp [putAll]⟩
  | cons x r ih =>
    obtain ⟨g, _⟩ := put_ok h (hx x (by simp))
    obtain ⟨d, d1, d2⟩ := put_more h (hx x (by simp))
    obtain ⟨e, e1, e2⟩ := ih g fun y hy => by rw [put_c]; exact hx y (by simp [hy])
    have hd : (0 : Int) ≤ 256 ^ e := Int.pow_nonneg (by omega)
    refine ⟨d + e, ?_, ?_⟩
    · show (putAll (put s x) r).text.length = _
      omega
    · show _ ≤ _ * (putAll (put s x) r).span
      rw [Int.pow_add, ← Int.mul_assoc, List.length_cons, Int.pow_succ, Int.mul_assoc _ 100, Int.mul_left_comm]
      have h3 := Int.mul_le_mul_of_nonneg_right d2 hd
      rw [Int.mul_assoc 100] at h3
      exact Int.le_trans h3 (Int.mul_le_mul_of_nonneg_left e2 (by omega))
theorem short_len {n : Int} {bs : List Bit} (h : encE n bs = 0) : 5 ≤ (encT n bs).length ∧ (encT n bs).length ≤ 5 + (bs.length + 7) / 8 * 7 := by
  obtain ⟨h1, h2, h3⟩ := encE_ok h
  obtain ⟨d, d1, d2⟩ := putAll_more (xs := bs) (start_ok h1.2) (by rw [start_c]; exact h3)
  have hl := encT_len h
  have hs := (enc_inv h).1.span
  have h0 : (start0 n).text.length = 1 := rfl
  have h0' : (start0 n).span = 4294967295 := rfl
  rw [h0'] at d2
  refine ⟨by omega, ?_⟩
  have hp : (0 : Int) < 100 ^ bs.length := Int.pow_pos (by omega)
  have h4 : (256 : Int) ^ d ≤ 100 ^ bs.length := by
    have h5 : (100 : Int) ^ bs.length * (putAll (start0 n) bs).span ≤ 100 ^ bs.length * 4294967295 := Int.mul_le_mul_of_nonneg_left (by omega) (by omega)
    generalize (256 : Int) ^ d = A at *
    generalize (100 : Int) ^ bs.length = B at *
    omega
  have h6 : (256 : Nat) ^ d ≤ 100 ^ bs.length := by
    apply Int.ofNat_le.1
    rw [Int.natCast_pow, Int.natCast_pow]
    exact h4
  have h7 : (100 : Nat) ^ bs.length ≤ 100 ^ (8 * ((bs.length + 7) / 8)) := Nat.pow_le_pow_right (by omega) (by omega)
  have h8 : (100 : Nat) ^ (8 * ((bs.length + 7) / 8)) ≤ 256 ^ (7 * ((bs.length + 7) / 8)) := by
    rw [Nat.pow_mul, Nat.pow_mul]
    exact Nat.pow_le_pow_left (by decide) _
  have h9 : d ≤ 7 * ((bs.length + 7) / 8) := (Nat.pow_le_pow_iff_right (by omega)).1 (Nat.le_trans h6 (Nat.le_trans h7 h8))
  omega
theorem enc_zero {n : Int} {bs : List Bit} (h : encE n bs = 0) : (encT n bs).getD 0 0 = 0 := by
  obtain ⟨a, _⟩ := ties_start h [] (fun x hx => by simp at hx)
  rw [List.append_nil] at a
  unfold startE at a
  split at a
  · cases a
  · split at a
    · cases a
    · rename_i _ h1
      simp only [not_or, Decidable.not_not] at h1
      exact h1.2.1
theorem apart_all {n : Int} {xs ys : List Bit} (h : encE n xs = 0) (h' : encE n ys = 0) (ha : xs.map Bit.at_ = ys.map Bit.at_) (ht : encT n xs = encT n ys) : xs.map Bit.b = ys.map Bit.b := by
  have e1 := back_all (xs := xs) (ys := []) (by rw [List.append_nil]; exact h) [] (fun x hx => by simp at hx)
  have e2 := back_all (xs := ys) (ys := []) (by rw [List.append_nil]; exact h') [] (fun x hx => by simp at hx)
  rw [List.append_nil, List.append_nil] at e1 e2
  rw [ha, ht] at e1
  rw [e1] at e2
  exact (Prod.ext_iff.1 e2).1
theorem encE_ats {n : Int} {xs ys : List Bit} (ha : xs.map Bit.at_ = ys.map Bit.at_) : encE n xs = encE n ys := by
  have hl : xs.length = ys.length := by have := congrArg List.length ha; simpa using this
  have hall : ∀ l : List Bit, l.all (inB n.toNat) = (l.map Bit.at_).all (fun i => decide (0 ≤ i) && decide (i < n.toNat)) := by
    intro l
    rw [List.all_map]
    rfl
  unfold encE
  rw [hl, hall xs, hall ys, ha]
end Go.Proofs.Ytfihgjdppkiolaa
