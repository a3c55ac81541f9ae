import Derived.Test.YtnjepbehfioclaaA0
import Derived.Test.YtnjepbehfioclaaA1
namespace Go.Proofs.Ytnjepbehfioclaa

/-- A file. -/
structure Fl where
  nm : List UInt8
  rk : Nat
  sm : Int
  bk : Int
  fr : Int
  ln : Int
def noF : Fl := ⟨[], 0, 0, 0, 0, 0⟩
instance : Inhabited Fl := ⟨noF⟩
/-- .. as it comes in: its name is no longer than that, its rank a word. -/
def SmF (f : Fl) : Prop := f.nm.length ≤ 300 ∧ f.rk < 18446744073709551616
def SmL (l : List Fl) : Prop := ∀ f ∈ l, SmF f
def ltN (p q : List UInt8) : Bool := decide (lex (parts p) (parts q) < 0)
def upB (n m : Int) : Bool := decide (0 ≤ n) && decide (n ≤ m)
def okF (f : Fl) : Bool := nameB f.nm && upB f.bk 8192 && upB f.fr 65536 && upB f.ln (65536 - f.fr)
def nth (l : List Fl) (i : Nat) : Fl := l.getD i default
def okAt (l : List Fl) (i : Nat) : Bool := okF (nth l i) && (decide (i = 0) || ltN (nth l (i - 1)).nm (nth l i).nm)
def tabB (l : List Fl) : Bool := decide (l.length ≤ 256) && (List.range l.length).all (okAt l)
def fOne (a b : Fl) : Bool := a.nm == b.nm && keyF a.rk == keyF b.rk && a.sm == b.sm && a.bk == b.bk && a.fr == b.fr && a.ln == b.ln
def sameB (l m : List Fl) : Bool := decide (l.length = m.length) && (List.range l.length).all (fun i => fOne (nth l i) (nth m i))

theorem nth_get {l : List Fl} {i : Nat} (h : i < l.length) : nth l i = l[i] := by unfold nth; simp [List.getD, h]
theorem nth_mem {l : List Fl} {i : Nat} (h : i < l.length) : nth l i ∈ l := by rw [nth_get h]; exact List.getElem_mem h

/-! ### names, in order -/
theorem lt_self (p : List UInt8) : ltN p p = false := by unfold ltN; rw [lex_self]; rfl
theorem lt_trans {p q r : List UInt8} (h : ltN p q = true) (h' : ltN q r = true) : ltN p r = true := by
  unfold ltN at *
  exact decide_eq_true (lex_trans _ _ _ (of_decide_eq_true h) (of_decide_eq_true h'))
theorem lt_asymm {p q : List UInt8} (h : ltN p q = true) : ltN q p = false := by
  cases h' : ltN q p with
  | false => rfl
  | true => have := lt_trans h h'; rw [lt_self] at this; cases this
theorem lt_ne {p q : List UInt8} (h : ltN p q = true) : p ≠ q := by rintro rfl; rw [lt_self] at h; cases h
theorem lt_total (p q : List UInt8) : ltN p q = true ∨ p = q ∨ ltN q p = true := by
  unfold ltN
  have h1 := lex_range (parts p) (parts q)
  have h2 := lex_anti (parts p) (parts q)
  rcases h1 with h | h | h
  · left; rw [h]; rfl
  · right; left; exact lex_eq.1 h
  · right; right; rw [h2, h]; rfl
/-- What comes of a comparison. -/
theorem lex_cases (p q : List UInt8) : (lex (parts p) (parts q) = -1 ∧ ltN p q = true) ∨ (lex (parts p) (parts q) = 0 ∧ p = q) ∨ (lex (parts p) (parts q) = 1 ∧ ltN q p = true) := by
  have h2 := lex_anti (parts p) (parts q)
  unfold ltN
  rcases lex_range (parts p) (parts q) with h | h | h
  · left; exact ⟨h, by rw [h]; rfl⟩
  · right; left; exact ⟨h, lex_eq.1 h⟩
  · right; right; exact ⟨h, by rw [h2, h]; rfl⟩

/-! ### tables -/
def Up (l : List Fl) : Prop := l.Pairwise (fun a b => ltN a.nm b.nm = true)
theorem up_get {l : List Fl} (h : ∀ i, 0 < i → i < l.length → ltN (nth l (i - 1)).nm (nth l i).nm = true) : ∀ j, j < l.length → ∀ i, i < j → ltN (nth l i).nm (nth l j).nm = true := by
  intro j
  induction j with
  | zero => intro _ i hi; omega
  | succ j ih =>
    intro hj i hi
    have h1 := h (j + 1) (by omega) hj
    rw [Nat.add_sub_cancel] at h1
    rcases Nat.lt_or_ge i j with h2 | h2
    · exact lt_trans (ih (by omega) i h2) h1
    · rw [show i = j by omega]; exact h1
theorem tab_iff {l : List Fl} : tabB l = true ↔ l.length ≤ 256 ∧ (∀ f ∈ l, okF f = true) ∧ Up l := by
  unfold tabB
  rw [Bool.and_eq_true, decide_eq_true_eq, List.all_eq_true]
  constructor
  · rintro ⟨h1, h2⟩
    have h3 : ∀ i, i < l.length → okF (nth l i) = true ∧ (i = 0 ∨ ltN (nth l (i - 1)).nm (nth l i).nm = true) := fun i hi => by
      have := h2 i (List.mem_range.2 hi)
      unfold okAt at this
      simpa using this
    refine ⟨h1, fun f hf => ?_, ?_⟩
    · obtain ⟨i, hi, rfl⟩ := List.mem_iff_getElem.1 hf
      rw [← nth_get hi]; exact (h3 i hi).1
    · unfold Up
      rw [List.pairwise_iff_getElem]
      intro i j hi hj hij
      rw [← nth_get hi, ← nth_get hj]
      refine up_get (fun k h0 hk => ?_) j hj i hij
      rcases (h3 k hk).2 with h | h
      · omega
      · exact h
  · rintro ⟨h1, h2, h3⟩
    refine ⟨h1, fun i hi => ?_⟩
    have hi := List.mem_range.1 hi
    unfold okAt
    rw [h2 _ (nth_mem hi), Bool.true_and]
    by_cases h0 : i = 0
    · simp [h0]
    · unfold Up at h3
      rw [List.pairwise_iff_getElem] at h3
      have := h3 (i - 1) i (by omega) hi (by omega)
      rw [← nth_get, ← nth_get] at this
      simp [this]
theorem tab_up {l : List Fl} (h : tabB l = true) : Up l := (tab_iff.1 h).2.2
theorem tab_ok {l : List Fl} (h : tabB l = true) {f : Fl} (hf : f ∈ l) : okF f = true := (tab_iff.1 h).2.1 f hf
theorem tab_len {l : List Fl} (h : tabB l = true) : l.length ≤ 256 := (tab_iff.1 h).1
theorem ok_name {f : Fl} (h : okF f = true) : nameB f.nm = true := by unfold okF at h; simp at h; exact h.1.1.1
theorem tab_nil : tabB [] = true := by decide

/-! ### what is ahead of a name, of it, behind it -/
def lowF (l : List Fl) (p : List UInt8) : List Fl := l.filter (fun x => ltN x.nm p)
def midF (l : List Fl) (p : List UInt8) : List Fl := l.filter (fun x => x.nm == p)
def highF (l : List Fl) (p : List UInt8) : List Fl := l.filter (fun x => ltN p x.nm)
def thereB (l : List Fl) (p : List UInt8) : Bool := l.any (fun x => x.nm == p)
def posn (l : List Fl) (p : List UInt8) : Nat := (lowF l p).length
def putF (l : List Fl) (f : Fl) : List Fl := lowF l f.nm ++ f :: highF l f.nm
def delF (l : List Fl) (p : List UInt8) : List Fl := lowF l p ++ highF l p
theorem filter_none {α : Type} {p : α → Bool} {l : List α} (h : ∀ x ∈ l, p x = false) : l.filter p = [] := by
  rw [List.filter_eq_nil_iff]; intro x hx; rw [h x hx]; simp
theorem filter_all {α : Type} {p : α → Bool} {l : List α} (h : ∀ x ∈ l, p x = true) : l.filter p = l := List.filter_eq_self.2 h
theorem up_split {l : List Fl} (h : Up l) (p : List UInt8) : l = lowF l p ++ (midF l p ++ highF l p) := by
  induction l with
  | nil => rfl
  | cons x r ih =>
    have h' := List.pairwise_cons.1 h
    have ih := ih h'.2
    unfold lowF midF highF at *
    rcases lt_total x.nm p with h1 | h1 | h1
    · have h2 : (x.nm == p) = false := beq_eq_false_iff_ne.2 (lt_ne h1)
      rw [List.filter_cons, if_pos h1, List.filter_cons, if_neg (by rw [h2]; simp), List.filter_cons, if_neg (by rw [lt_asymm h1]; simp), List.cons_append, ← ih]
    · subst h1
      have hr : ∀ y ∈ r, ltN x.nm y.nm = true := h'.1
      rw [List.filter_cons, if_neg (by rw [lt_self]; simp), List.filter_cons, if_pos (by simp), List.filter_cons, if_neg (by rw [lt_self]; simp)]
      rw [filter_none (fun y hy => lt_asymm (hr y hy)), filter_none (l := r) (p := fun y => y.nm == x.nm) (fun y hy => beq_eq_false_iff_ne.2 (fun e => lt_ne (hr y hy) e.symm)), filter_all hr]
      rfl
    · have h2 : (x.nm == p) = false := beq_eq_false_iff_ne.2 (fun e => lt_ne h1 e.symm)
      have hr : ∀ y ∈ r, ltN p y.nm = true := fun y hy => lt_trans h1 (h'.1 y hy)
      rw [List.filter_cons, if_neg (by rw [lt_asymm h1]; simp), List.filter_cons, if_neg (by rw [h2]; simp), List.filter_cons, if_pos h1]
      rw [filter_none (fun y hy => lt_asymm (hr y hy)), filter_none (l := r) (p := fun y => y.nm == p) (fun y hy => beq_eq_false_iff_ne.2 (fun e => lt_ne (hr y hy) e.symm)), filter_all hr]
      rfl
theorem there_iff {l : List Fl} {p : List UInt8} : thereB l p = true ↔ ∃ x ∈ l, x.nm = p := by unfold thereB; simp
theorem there_no {l : List Fl} {p : List UInt8} : thereB l p = false ↔ ∀ x ∈ l, x.nm ≠ p := by unfold thereB; simp
/-- Where a name is not, or stands. -/
theorem up_cases {l : List Fl} (h : Up l) (p : List UInt8) : (thereB l p = false ∧ l = lowF l p ++ highF l p) ∨ ∃ x, thereB l p = true ∧ x.nm = p ∧ l = lowF l p ++ x :: highF l p := by
  have hs := up_split h p
  cases hm : midF l p with
  | nil =>
    left
    rw [hm, List.nil_append] at hs
    refine ⟨there_no.2 (fun x hx e => ?_), hs⟩
    have : x ∈ midF l p := List.mem_filter.2 ⟨hx, by simpa using e⟩
    rw [hm] at this; cases this
  | cons x r =>
    right
    have hx : x ∈ midF l p := by rw [hm]; simp
    obtain ⟨hx1, hx2⟩ := List.mem_filter.1 hx
    have hxp : x.nm = p := by simpa using hx2
    have hr : r = [] := by
      cases r with
      | nil => rfl
      | cons y r =>
        exfalso
        have hu : Up (midF l p) := List.Pairwise.filter _ h
        rw [hm] at hu
        have := (List.pairwise_cons.1 hu).1 y (by simp)
        have hy : y ∈ midF l p := by rw [hm]; simp
        have hyp : y.nm = p := by simpa using (List.mem_filter.1 hy).2
        exact lt_ne this (hxp.trans hyp.symm)
    rw [hm, hr] at hs
    exact ⟨x, there_iff.2 ⟨x, hx1, hxp⟩, hxp, hs⟩
theorem low_take {l : List Fl} (h : Up l) (p : List UInt8) : lowF l p = l.take (posn l p) := by
  have hs := up_split h p
  unfold posn
  generalize lowF l p = A at *
  generalize midF l p ++ highF l p = B at *
  subst hs
  simp
theorem posn_le {l : List Fl} (p : List UInt8) : posn l p ≤ l.length := List.length_filter_le _ _
theorem high_drop {l : List Fl} (h : Up l) (p : List UInt8) : highF l p = l.drop (posn l p + if thereB l p then 1 else 0) := by
  rcases up_cases h p with ⟨h1, h2⟩ | ⟨x, h1, _, h2⟩
  · rw [h1]
    unfold posn
    generalize lowF l p = A at *
    generalize highF l p = B at *
    rw [h2]
    simp
  · rw [h1]
    unfold posn
    generalize lowF l p = A at *
    generalize highF l p = B at *
    rw [h2]
    simp
theorem posn_get {l : List Fl} (h : Up l) {p : List UInt8} (ht : thereB l p = true) : posn l p < l.length ∧ (nth l (posn l p)).nm = p := by
  rcases up_cases h p with ⟨h1, h2⟩ | ⟨x, h1, h3, h2⟩
  · rw [h1] at ht; cases ht
  · have hl : l.length = (lowF l p).length + ((highF l p).length + 1) := by
      conv => lhs; rw [h2]
      simp
    have hlt : posn l p < l.length := by unfold posn; omega
    refine ⟨hlt, ?_⟩
    have e : l[posn l p]? = some x := by
      unfold posn
      generalize lowF l p = A at *
      generalize highF l p = C at *
      subst h2
      simp
    rw [nth_get hlt, Option.some_inj.1 ((List.getElem?_eq_getElem hlt).symm.trans e)]
    exact h3
/-- Where a search ends. -/
theorem posn_is {l : List Fl} {p : List UInt8} {i : Nat} (hi : i ≤ l.length) (h1 : ∀ j, j < i → ltN (nth l j).nm p = true) (h2 : ∀ j, i ≤ j → j < l.length → ltN (nth l j).nm p = false) : posn l p = i := by
  have e : lowF l p = l.take i := by
    unfold lowF
    conv => lhs; rw [← List.take_append_drop i l]
    rw [List.filter_append, filter_all, filter_none, List.append_nil]
    · intro x hx
      obtain ⟨j, hj, rfl⟩ := List.mem_iff_getElem.1 hx
      rw [List.length_drop] at hj
      rw [List.getElem_drop, ← nth_get]
      exact h2 _ (by omega) (by omega)
    · intro x hx
      obtain ⟨j, hj, rfl⟩ := List.mem_iff_getElem.1 hx
      rw [List.length_take] at hj
      rw [List.getElem_take, ← nth_get]
      exact h1 _ (by omega)
  unfold posn
  rw [e, List.length_take]; omega
theorem there_at {l : List Fl} (h : Up l) {p : List UInt8} : thereB l p = (decide (posn l p < l.length) && ((nth l (posn l p)).nm == p)) := by
  cases ht : thereB l p with
  | true =>
    obtain ⟨h1, h2⟩ := posn_get h ht
    simp [h1, h2]
  | false =>
    symm
    rw [Bool.and_eq_false_iff]
    by_cases h1 : posn l p < l.length
    · right
      rw [beq_eq_false_iff_ne]
      exact there_no.1 ht _ (nth_mem h1)
    · left; simpa using h1

/-! ### two tables of the same files are one -/
theorem up_nodup {l : List Fl} (h : Up l) : l.Nodup := List.Pairwise.imp (R := fun a b : Fl => ltN a.nm b.nm = true) (fun {a b} hab e => by rw [e, lt_self] at hab; cases hab) h
theorem up_ext {l m : List Fl} (h : Up l) (h' : Up m) (hm : ∀ x, x ∈ l ↔ x ∈ m) : l = m :=
  List.Perm.eq_of_pairwise (le := fun a b : Fl => ltN a.nm b.nm = true) (fun a b _ _ h1 h2 => by rw [lt_asymm h1] at h2; cases h2) h h' ((List.perm_ext_iff_of_nodup (up_nodup h) (up_nodup h')).2 hm)
theorem up_uniq {l : List Fl} (h : Up l) {x y : Fl} (hx : x ∈ l) (hy : y ∈ l) (e : x.nm = y.nm) : x = y := by
  rcases up_cases h x.nm with ⟨h1, _⟩ | ⟨z, _, _, h2⟩
  · exact absurd rfl (there_no.1 h1 x hx)
  · have hm : ∀ w ∈ l, w.nm = x.nm → w = z := fun w hw e => by
      rw [h2] at hw
      rcases List.mem_append.1 hw with hw | hw
      · exact absurd e (lt_ne (List.mem_filter.1 hw).2)
      · rcases List.mem_cons.1 hw with hw | hw
        · exact hw
        · exact absurd e.symm (lt_ne (List.mem_filter.1 hw).2)
    rw [hm x hx rfl, hm y hy e.symm]
theorem mem_put {l : List Fl} {f x : Fl} : x ∈ putF l f ↔ x = f ∨ (x ∈ l ∧ x.nm ≠ f.nm) := by
  unfold putF lowF highF
  simp only [List.mem_append, List.mem_cons, List.mem_filter]
  constructor
  · rintro (⟨h1, h2⟩ | h | ⟨h1, h2⟩)
    · exact .inr ⟨h1, lt_ne h2⟩
    · exact .inl h
    · exact .inr ⟨h1, fun e => lt_ne h2 e.symm⟩
  · rintro (h | ⟨h1, h2⟩)
    · exact .inr (.inl h)
    · rcases lt_total x.nm f.nm with h | h | h
      · exact .inl ⟨h1, h⟩
      · exact absurd h h2
      · exact .inr (.inr ⟨h1, h⟩)
theorem mem_del {l : List Fl} {p : List UInt8} {x : Fl} : x ∈ delF l p ↔ x ∈ l ∧ x.nm ≠ p := by
  unfold delF lowF highF
  simp only [List.mem_append, List.mem_filter]
  constructor
  · rintro (⟨h1, h2⟩ | ⟨h1, h2⟩)
    · exact ⟨h1, lt_ne h2⟩
    · exact ⟨h1, fun e => lt_ne h2 e.symm⟩
  · rintro ⟨h1, h2⟩
    rcases lt_total x.nm p with h | h | h
    · exact .inl ⟨h1, h⟩
    · exact absurd h h2
    · exact .inr ⟨h1, h⟩
theorem up_put {l : List Fl} (h : Up l) (f : Fl) : Up (putF l f) := by
  unfold Up putF
  rw [List.pairwise_append, List.pairwise_cons]
  have hl : ∀ a ∈ lowF l f.nm, ltN a.nm f.nm = true := fun a ha => (List.mem_filter.1 ha).2
  have hh : ∀ a ∈ highF l f.nm, ltN f.nm a.nm = true := fun a ha => (List.mem_filter.1 ha).2
  refine ⟨List.Pairwise.filter _ h, ⟨hh, List.Pairwise.filter _ h⟩, fun a ha b hb => ?_⟩
  rcases List.mem_cons.1 hb with rfl | hb
  · exact hl a ha
  · exact lt_trans (hl a ha) (hh b hb)
theorem up_del {l : List Fl} (h : Up l) (p : List UInt8) : Up (delF l p) := by
  unfold Up delF
  rw [List.pairwise_append]
  exact ⟨List.Pairwise.filter _ h, List.Pairwise.filter _ h, fun a ha b hb => lt_trans (List.mem_filter.1 ha).2 (List.mem_filter.1 hb).2⟩
theorem del_filter {l : List Fl} (h : Up l) (p : List UInt8) : l.filter (fun x => x.nm != p) = delF l p :=
  up_ext (List.Pairwise.filter _ h) (up_del h p) (fun x => by rw [mem_del, List.mem_filter]; simp)
theorem len_split {l : List Fl} (h : Up l) (p : List UInt8) : (lowF l p).length + (highF l p).length + (if thereB l p then 1 else 0) = l.length := by
  rcases up_cases h p with ⟨h1, h2⟩ | ⟨x, h1, _, h2⟩
  · rw [h1]
    conv => rhs; rw [h2]
    simp
  · rw [h1]
    conv => rhs; rw [h2]
    simp; omega
theorem len_put {l : List Fl} (h : Up l) (f : Fl) : (putF l f).length = l.length + (if thereB l f.nm then 0 else 1) := by
  have := len_split h f.nm
  unfold putF
  rw [List.length_append, List.length_cons]
  cases hh : thereB l f.nm
  · rw [hh, if_neg (by simp)] at this; rw [if_neg (by simp)]; omega
  · rw [hh, if_pos rfl] at this; rw [if_pos rfl]; omega
theorem len_del {l : List Fl} (h : Up l) (p : List UInt8) : (delF l p).length + (if thereB l p then 1 else 0) = l.length := by
  have := len_split h p
  unfold delF
  rw [List.length_append]
  exact this
theorem tab_put {l : List Fl} {f : Fl} (h : tabB l = true) (hf : okF f = true) (hn : thereB l f.nm = true ∨ l.length < 256) : tabB (putF l f) = true := by
  obtain ⟨h1, h2, h3⟩ := tab_iff.1 h
  refine tab_iff.2 ⟨?_, fun x hx => ?_, up_put h3 f⟩
  · rw [len_put h3]
    rcases hn with hn | hn
    · rw [hn]; simpa using h1
    · cases thereB l f.nm <;> simp <;> omega
  · rcases mem_put.1 hx with rfl | ⟨hx, _⟩
    · exact hf
    · exact h2 x hx
theorem tab_del {l : List Fl} (h : tabB l = true) (p : List UInt8) : tabB (delF l p) = true := by
  obtain ⟨h1, h2, h3⟩ := tab_iff.1 h
  refine tab_iff.2 ⟨?_, fun x hx => h2 x (mem_del.1 hx).1, up_del h3 p⟩
  have := len_del h3 p
  omega
theorem one_self (a : Fl) : fOne a a = true := by unfold fOne; simp
theorem same_self (l : List Fl) : sameB l l = true := by unfold sameB; simp [one_self]
end Go.Proofs.Ytnjepbehfioclaa
