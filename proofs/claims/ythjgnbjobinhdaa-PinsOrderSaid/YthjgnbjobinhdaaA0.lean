import Derived.Test.YthjgnbjobinhdaaProg
namespace Go.Proofs.Ythjgnbjobinhdaa

/-- A pin: a generation, and how often. -/
structure Pn where
  g : Int
  n : Int
instance : Inhabited Pn := ⟨⟨0, 0⟩⟩
def nth (l : List Pn) (i : Nat) : Pn := l.getD i default
theorem nth_get {l : List Pn} {i : Nat} (h : i < l.length) : nth l i = l[i] := by unfold nth; simp [List.getD, h]
theorem nth_mem {l : List Pn} {i : Nat} (h : i < l.length) : nth l i ∈ l := by rw [nth_get h]; exact List.getElem_mem h
theorem pn_ext {a b : Pn} (h1 : a.g = b.g) (h2 : a.n = b.n) : a = b := by cases a; cases b; simp_all

/-! ### pins -/
def okP (p : Pn) : Bool := decide (p.g ≤ 1099511627776) && (decide (1 ≤ p.n) && decide (p.n ≤ 64))
/-- Each one is a pin, of a generation from 'z' on, above the one ahead of it. -/
def rise : Int → List Pn → Bool
  | _, [] => true
  | z, p :: r => !decide (p.g < z) && (okP p && rise (p.g + 1) r)
def pinsB (l : List Pn) : Bool := decide (l.length ≤ 64) && rise 0 l
def Up (l : List Pn) : Prop := l.Pairwise (fun a b => a.g < b.g)
/-- Their numbers are words of the machine. -/
def Sm (p : Pn) : Prop := 0 ≤ p.g ∧ p.g ≤ 18446744073709551615 ∧ -9223372036854775808 ≤ p.n ∧ p.n ≤ 9223372036854775807
def SmL (l : List Pn) : Prop := ∀ p ∈ l, Sm p
theorem okP_iff {p : Pn} : okP p = true ↔ p.g ≤ 1099511627776 ∧ 1 ≤ p.n ∧ p.n ≤ 64 := by unfold okP; simp
theorem up_cons {p : Pn} {r : List Pn} : Up (p :: r) ↔ (∀ q ∈ r, p.g < q.g) ∧ Up r := List.pairwise_cons
theorem rise_iff {l : List Pn} : ∀ z, rise z l = true ↔ (∀ p ∈ l, okP p = true ∧ z ≤ p.g) ∧ Up l := by
  induction l with
  | nil => intro z; simp [rise, Up]
  | cons p r ih =>
    intro z
    rw [rise, Bool.and_eq_true, Bool.and_eq_true, ih, up_cons]
    simp only [Bool.not_eq_true', decide_eq_false_iff_not, List.mem_cons, forall_eq_or_imp]
    constructor
    · rintro ⟨h1, h2, h3, h4⟩
      exact ⟨⟨⟨h2, by omega⟩, fun q hq => ⟨(h3 q hq).1, by have := (h3 q hq).2; omega⟩⟩, fun q hq => by have := (h3 q hq).2; omega, h4⟩
    · rintro ⟨⟨⟨h2, h1⟩, h3⟩, h5, h4⟩
      exact ⟨by omega, h2, fun q hq => ⟨(h3 q hq).1, by have := h5 q hq; omega⟩, h4⟩
structure Pins (l : List Pn) : Prop where
  len : l.length ≤ 64
  ok : ∀ p ∈ l, p.g ≤ 1099511627776 ∧ 1 ≤ p.n ∧ p.n ≤ 64
  lo : ∀ p ∈ l, 0 ≤ p.g
  up : Up l
theorem pins_iff {l : List Pn} : pinsB l = true ↔ Pins l := by
  unfold pinsB
  rw [Bool.and_eq_true, decide_eq_true_eq, rise_iff]
  exact ⟨fun ⟨h1, h2, h3⟩ => ⟨h1, fun p hp => okP_iff.1 (h2 p hp).1, fun p hp => (h2 p hp).2, h3⟩, fun h => ⟨h.len, fun p hp => ⟨okP_iff.2 (h.ok p hp), h.lo p hp⟩, h.up⟩⟩
theorem Pins.sm {l : List Pn} (h : Pins l) : SmL l := fun p hp => by have h1 := h.ok p hp; have h2 := h.lo p hp; exact ⟨by omega, by omega, by omega, by omega⟩
theorem pins_nil : Pins [] := ⟨by simp, fun _ h => absurd h (by simp), fun _ h => absurd h (by simp), List.Pairwise.nil⟩

/-! ### how often -/
def manyP : List Pn → Int → Int
  | [], _ => 0
  | p :: r, g => if p.g = g then p.n else manyP r g
def lowP (l : List Pn) (g : Int) : List Pn := l.filter (fun p => decide (p.g < g))
def highP (l : List Pn) (g : Int) : List Pn := l.filter (fun p => decide (g < p.g))
def oneP (g n : Int) : List Pn := if 0 < n then [⟨g, n⟩] else []
/-- .. with a generation so often. -/
def putP (l : List Pn) (g n : Int) : List Pn := lowP l g ++ (oneP g n ++ highP l g)
theorem mem_low {l : List Pn} {g : Int} {p : Pn} : p ∈ lowP l g ↔ p ∈ l ∧ p.g < g := by unfold lowP; simp [List.mem_filter]
theorem mem_high {l : List Pn} {g : Int} {p : Pn} : p ∈ highP l g ↔ p ∈ l ∧ g < p.g := by unfold highP; simp [List.mem_filter]
theorem mem_one {g n : Int} {p : Pn} : p ∈ oneP g n ↔ 0 < n ∧ p = ⟨g, n⟩ := by unfold oneP; split <;> rename_i h <;> simp [h]
theorem mem_put {l : List Pn} {g n : Int} {p : Pn} : p ∈ putP l g n ↔ (p ∈ l ∧ p.g ≠ g) ∨ (0 < n ∧ p = ⟨g, n⟩) := by
  unfold putP
  rw [List.mem_append, List.mem_append, mem_low, mem_high, mem_one]
  constructor
  · rintro (⟨h1, h2⟩ | h | ⟨h1, h2⟩)
    · exact .inl ⟨h1, by omega⟩
    · exact .inr h
    · exact .inl ⟨h1, by omega⟩
  · rintro (⟨h1, h2⟩ | h)
    · rcases Int.lt_or_le p.g g with h3 | h3
      · exact .inl ⟨h1, h3⟩
      · exact .inr (.inr ⟨h1, by omega⟩)
    · exact .inr (.inl h)
theorem up_nodup {l : List Pn} (h : Up l) : l.Nodup := h.imp fun hab e => by rw [e] at hab; omega
theorem up_ext {l m : List Pn} (h : Up l) (h' : Up m) (hm : ∀ x, x ∈ l ↔ x ∈ m) : l = m :=
  List.Perm.eq_of_pairwise (le := fun a b : Pn => a.g < b.g) (fun a b _ _ h1 h2 => by omega) h h' ((List.perm_ext_iff_of_nodup (up_nodup h) (up_nodup h')).2 hm)
theorem up_low {l : List Pn} (h : Up l) (g : Int) : Up (lowP l g) := List.Pairwise.filter _ h
theorem up_high {l : List Pn} (h : Up l) (g : Int) : Up (highP l g) := List.Pairwise.filter _ h
theorem up_one (g n : Int) : Up (oneP g n) := by unfold oneP Up; split <;> simp
theorem up_put {l : List Pn} (h : Up l) (g n : Int) : Up (putP l g n) := by
  unfold putP
  refine List.pairwise_append.2 ⟨up_low h g, List.pairwise_append.2 ⟨up_one g n, up_high h g, ?_⟩, ?_⟩
  · intro a ha b hb
    obtain ⟨_, rfl⟩ := mem_one.1 ha
    exact (mem_high.1 hb).2
  · intro a ha b hb
    have h1 := (mem_low.1 ha).2
    rcases List.mem_append.1 hb with hb | hb
    · obtain ⟨_, rfl⟩ := mem_one.1 hb; exact h1
    · have := (mem_high.1 hb).2; omega
theorem many_mem {l : List Pn} (h : Up l) {p : Pn} (hp : p ∈ l) : manyP l p.g = p.n := by
  induction l with
  | nil => cases hp
  | cons q r ih =>
    rw [manyP]
    obtain ⟨h1, h2⟩ := up_cons.1 h
    rcases List.mem_cons.1 hp with rfl | hp
    · rw [if_pos rfl]
    · rw [if_neg (by have := h1 p hp; omega)]; exact ih h2 hp
theorem many_no {l : List Pn} {g : Int} (h : ∀ p ∈ l, p.g ≠ g) : manyP l g = 0 := by
  induction l with
  | nil => rfl
  | cons q r ih => rw [manyP, if_neg (h q List.mem_cons_self)]; exact ih fun p hp => h p (List.mem_cons_of_mem _ hp)
theorem there_cases (l : List Pn) (g : Int) : (∃ p ∈ l, p.g = g) ∨ ∀ p ∈ l, p.g ≠ g := by
  by_cases h : ∃ p ∈ l, p.g = g
  · exact .inl h
  · exact .inr fun p hp e => h ⟨p, hp, e⟩
theorem many_cases {l : List Pn} (h : Pins l) (g : Int) : (manyP l g = 0 ∧ ∀ p ∈ l, p.g ≠ g) ∨ (1 ≤ manyP l g ∧ manyP l g ≤ 64 ∧ (⟨g, manyP l g⟩ : Pn) ∈ l) := by
  rcases there_cases l g with ⟨p, hp, rfl⟩ | h1
  · right
    rw [many_mem h.up hp]
    exact ⟨(h.ok p hp).2.1, (h.ok p hp).2.2, hp⟩
  · exact .inl ⟨many_no h1, h1⟩
theorem many_lo {l : List Pn} (h : Pins l) (g : Int) : 0 ≤ manyP l g ∧ manyP l g ≤ 64 := by
  rcases many_cases h g with ⟨h1, _⟩ | ⟨h1, h2, _⟩ <;> omega
theorem many_ext {l m : List Pn} (h : Pins l) (h' : Pins m) (e : ∀ g, manyP l g = manyP m g) : l = m := by
  refine up_ext h.up h'.up fun x => ⟨fun hx => ?_, fun hx => ?_⟩
  · have h1 := many_mem h.up hx
    rw [e] at h1
    rcases many_cases h' x.g with ⟨h2, _⟩ | ⟨_, _, h2⟩
    · have := (h.ok x hx).2.1; omega
    · rw [h1] at h2; exact h2
  · have h1 := many_mem h'.up hx
    rw [← e] at h1
    rcases many_cases h x.g with ⟨h2, _⟩ | ⟨_, _, h2⟩
    · have := (h'.ok x hx).2.1; omega
    · rw [h1] at h2; exact h2
theorem many_put {l : List Pn} (h : Up l) {g n : Int} (hn : 0 ≤ n) (x : Int) : manyP (putP l g n) x = if x = g then n else manyP l x := by
  by_cases e : x = g
  · subst e
    rw [if_pos rfl]
    by_cases h0 : 0 < n
    · exact many_mem (p := ⟨x, n⟩) (up_put h x n) (mem_put.2 (.inr ⟨h0, rfl⟩))
    · obtain rfl : n = 0 := by omega
      refine many_no fun p hp => ?_
      rcases mem_put.1 hp with ⟨_, h1⟩ | ⟨h1, _⟩
      · exact h1
      · omega
  · rw [if_neg e]
    rcases there_cases l x with ⟨p, hp, rfl⟩ | h1
    · rw [many_mem h hp]; exact many_mem (up_put h g n) (mem_put.2 (.inl ⟨hp, e⟩))
    · rw [many_no h1]
      refine many_no fun p hp => ?_
      rcases mem_put.1 hp with ⟨h2, _⟩ | ⟨_, rfl⟩
      · exact h1 p h2
      · exact fun h => e h.symm
theorem up_cases {l : List Pn} (h : Up l) (g : Int) : ((∀ p ∈ l, p.g ≠ g) ∧ l = lowP l g ++ highP l g) ∨ ∃ n, l = lowP l g ++ ⟨g, n⟩ :: highP l g := by
  induction l with
  | nil => exact .inl ⟨fun _ h => (by cases h), rfl⟩
  | cons p r ih =>
    obtain ⟨h1, h2⟩ := up_cons.1 h
    rcases Int.lt_trichotomy p.g g with h3 | h3 | h3
    · have e1 : lowP (p :: r) g = p :: lowP r g := by unfold lowP; rw [List.filter_cons_of_pos (by simpa using h3)]
      have e2 : highP (p :: r) g = highP r g := by unfold highP; rw [List.filter_cons_of_neg (by simp; omega)]
      rw [e1, e2]
      rcases ih h2 with ⟨h4, h5⟩ | ⟨n, h5⟩
      · refine .inl ⟨fun q hq => ?_, by rw [List.cons_append, ← h5]⟩
        rcases List.mem_cons.1 hq with rfl | hq
        · omega
        · exact h4 q hq
      · exact .inr ⟨n, by rw [List.cons_append, ← h5]⟩
    · have e1 : lowP (p :: r) g = [] := by
        unfold lowP; rw [List.filter_eq_nil_iff]; intro q hq
        rcases List.mem_cons.1 hq with rfl | hq
        · simp; omega
        · have := h1 q hq; simp; omega
      have e2 : highP (p :: r) g = r := by
        unfold highP; rw [List.filter_cons_of_neg (by simp; omega), List.filter_eq_self]; intro q hq; have := h1 q hq; simp; omega
      rw [e1, e2]
      exact .inr ⟨p.n, by rw [List.nil_append, ← h3]⟩
    · have e1 : lowP (p :: r) g = [] := by
        unfold lowP; rw [List.filter_eq_nil_iff]; intro q hq
        rcases List.mem_cons.1 hq with rfl | hq
        · simp; omega
        · have := h1 q hq; simp; omega
      have e2 : highP (p :: r) g = p :: r := by
        unfold highP; rw [List.filter_eq_self]; intro q hq
        rcases List.mem_cons.1 hq with rfl | hq
        · simp; omega
        · have := h1 q hq; simp; omega
      rw [e1, e2]
      refine .inl ⟨fun q hq => ?_, rfl⟩
      rcases List.mem_cons.1 hq with rfl | hq
      · omega
      · have := h1 q hq; omega
/-- How many there are behind it. -/
theorem len_put {l : List Pn} (h : Pins l) (g n : Int) : (putP l g n).length + (if manyP l g = 0 then 0 else 1) = l.length + (if 0 < n then 1 else 0) := by
  have h6 : (putP l g n).length = (lowP l g).length + ((if 0 < n then 1 else 0) + (highP l g).length) := by
    unfold putP oneP
    rw [List.length_append, List.length_append]
    by_cases h0 : 0 < n
    · rw [if_pos h0, if_pos h0]; rfl
    · rw [if_neg h0, if_neg h0]; rfl
  rw [h6]
  rcases up_cases h.up g with ⟨h1, h2⟩ | ⟨m, h2⟩
  · rw [many_no h1, if_pos rfl]
    have h7 := congrArg List.length h2
    rw [List.length_append] at h7
    omega
  · have hm : (⟨g, m⟩ : Pn) ∈ l := by rw [h2]; simp
    have h3 := many_mem h.up hm
    have h4 : 1 ≤ m := (h.ok _ hm).2.1
    have h5 : manyP l g = m := h3
    clear h3 h6
    rw [h5, if_neg (show ¬ m = 0 by omega)]
    have h7 := congrArg List.length h2
    rw [List.length_append, List.length_cons] at h7
    clear h2 h5 hm
    omega
theorem pins_put {l : List Pn} (h : Pins l) {g n : Int} (h0 : 0 ≤ g) (h1 : g ≤ 1099511627776) (hn : n ≤ 64) (hl : manyP l g ≠ 0 ∨ n ≤ 0 ∨ l.length < 64) : Pins (putP l g n) := by
  refine ⟨?_, fun p hp => ?_, fun p hp => ?_, up_put h.up g n⟩
  · have h2 := len_put h g n
    have h3 := h.len
    split at h2 <;> split at h2 <;> omega
  · rcases mem_put.1 hp with ⟨h2, _⟩ | ⟨h2, rfl⟩
    · exact h.ok p h2
    · exact ⟨h1, by simp only []; omega, hn⟩
  · rcases mem_put.1 hp with ⟨h2, _⟩ | ⟨h2, rfl⟩
    · exact h.lo p h2
    · exact h0
theorem put_same {l : List Pn} (h : Pins l) (g : Int) (h0 : 0 ≤ g) (h1 : g ≤ 1099511627776) : putP l g (manyP l g) = l := by
  have h2 := many_lo h g
  refine many_ext (pins_put h h0 h1 h2.2 ?_) h fun x => ?_
  · rcases Int.lt_or_le 0 (manyP l g) with h3 | h3
    · exact .inl (by omega)
    · exact .inr (.inl h3)
  · rw [many_put h.up h2.1]
    split
    · rename_i e; rw [e]
    · rfl
theorem put_put {l : List Pn} (g a b : Int) : putP (putP l g a) g b = putP l g b := by
  have e1 : lowP (putP l g a) g = lowP l g := by
    unfold putP
    unfold lowP
    rw [List.filter_append, List.filter_filter, List.filter_append]
    have e2 : (oneP g a).filter (fun p => decide (p.g < g)) = [] := by
      rw [List.filter_eq_nil_iff]; intro q hq; obtain ⟨_, rfl⟩ := mem_one.1 hq; simp
    have e3 : (highP l g).filter (fun p => decide (p.g < g)) = [] := by
      rw [List.filter_eq_nil_iff]; intro q hq; have := (mem_high.1 hq).2; simp; omega
    rw [e2, e3]; simp
  have e1' : highP (putP l g a) g = highP l g := by
    unfold putP
    unfold highP
    rw [List.filter_append, List.filter_append, List.filter_filter]
    have e2 : (oneP g a).filter (fun p => decide (g < p.g)) = [] := by
      rw [List.filter_eq_nil_iff]; intro q hq; obtain ⟨_, rfl⟩ := mem_one.1 hq; simp
    have e3 : (lowP l g).filter (fun p => decide (g < p.g)) = [] := by
      rw [List.filter_eq_nil_iff]; intro q hq; have := (mem_low.1 hq).2; simp; omega
    rw [e2, e3]; simp
  unfold putP at *
  rw [e1, e1']

/-! ### what is answered -/
def may (l : List Pn) (g : Int) : Bool := decide (g ≤ 1099511627776) && pinsB l
def openE (l : List Pn) (g : Int) : Int := if may l g = true then (if manyP l g = 64 ∨ (manyP l g = 0 ∧ l.length = 64) then 6 else 0) else 1
def openL (l : List Pn) (g : Int) : List Pn := if openE l g = 0 then putP l g (manyP l g + 1) else []
def closeE (l : List Pn) (g : Int) : Int := if may l g = true then (if manyP l g = 0 then 4 else 0) else 1
def closeL (l : List Pn) (g : Int) : List Pn := if closeE l g = 0 then putP l g (manyP l g - 1) else []
def manyE (l : List Pn) (g : Int) : Int := if may l g = true then 0 else 1
def manyN (l : List Pn) (g : Int) : Int := if may l g = true then manyP l g else 0
def leastE (l : List Pn) : Int := if pinsB l = true then (if l.length = 0 then 4 else 0) else 1
def leastG (l : List Pn) : Int := if leastE l = 0 then (nth l 0).g else 0
def checkE (l : List Pn) : Int := if pinsB l = true then 0 else 1
theorem may_iff {l : List Pn} {g : Int} : may l g = true ↔ g ≤ 1099511627776 ∧ Pins l := by unfold may; rw [Bool.and_eq_true, decide_eq_true_eq, pins_iff]
theorem open_ok {l : List Pn} {g : Int} : openE l g = 0 ↔ may l g = true ∧ manyP l g ≠ 64 ∧ (manyP l g = 0 → l.length ≠ 64) := by
  unfold openE
  by_cases h : may l g = true
  · rw [if_pos h]
    by_cases h2 : manyP l g = 64 ∨ (manyP l g = 0 ∧ l.length = 64)
    · rw [if_pos h2]; simp [h]; intro h3; rcases h2 with h2 | h2; (· exact absurd h2 h3); exact h2
    · rw [if_neg h2]; simp [h]; exact ⟨fun e => h2 (.inl e), fun e1 e2 => h2 (.inr ⟨e1, e2⟩)⟩
  · rw [if_neg h]; simp [h]
theorem close_ok {l : List Pn} {g : Int} : closeE l g = 0 ↔ may l g = true ∧ manyP l g ≠ 0 := by
  unfold closeE
  by_cases h : may l g = true
  · rw [if_pos h]
    by_cases h2 : manyP l g = 0
    · rw [if_pos h2]; simp [h2]
    · rw [if_neg h2]; simp [h, h2]
  · rw [if_neg h]; simp [h]
theorem openL_ok {l : List Pn} {g : Int} (h : openE l g = 0) : openL l g = putP l g (manyP l g + 1) := by unfold openL; rw [if_pos h]
theorem openL_no {l : List Pn} {g : Int} (h : openE l g ≠ 0) : openL l g = [] := by unfold openL; rw [if_neg h]
theorem closeL_ok {l : List Pn} {g : Int} (h : closeE l g = 0) : closeL l g = putP l g (manyP l g - 1) := by unfold closeL; rw [if_pos h]
theorem closeL_no {l : List Pn} {g : Int} (h : closeE l g ≠ 0) : closeL l g = [] := by unfold closeL; rw [if_neg h]
theorem pins_open (l : List Pn) {g : Int} (h0 : 0 ≤ g) : Pins (openL l g) := by
  by_cases h : openE l g = 0
  · rw [openL_ok h]
    obtain ⟨h1, h2, h3⟩ := open_ok.1 h
    obtain ⟨h4, h5⟩ := may_iff.1 h1
    have h6 := many_lo h5 g
    refine pins_put h5 h0 h4 (by omega) ?_
    by_cases h7 : manyP l g = 0
    · right; right; have := h5.len; have := h3 h7; omega
    · exact .inl h7
  · rw [openL_no h]; exact pins_nil
theorem pins_close (l : List Pn) {g : Int} (h0 : 0 ≤ g) : Pins (closeL l g) := by
  by_cases h : closeE l g = 0
  · rw [closeL_ok h]
    obtain ⟨h1, h2⟩ := close_ok.1 h
    obtain ⟨h4, h5⟩ := may_iff.1 h1
    have h6 := many_lo h5 g
    exact pins_put h5 h0 h4 (by omega) (.inl h2)
  · rw [closeL_no h]; exact pins_nil
end Go.Proofs.Ythjgnbjobinhdaa
