import Derived.Test.YthjgnbjobinhdaaM0
namespace Go.Proofs.Ythjgnbjobinhdaa
open Go.RowKit

/-- Pins behind so many acts. -/
structure PI (l : List Pn) (k : Nat) : Prop where
  pins : Pins l
  low : ∀ p ∈ l, p.g < 8
  many : ∀ g, manyP l g ≤ k
  len : l.length ≤ k
theorem pi_nil : PI [] 0 := ⟨pins_nil, fun _ h => absurd h (by simp), fun _ => Int.le_refl _, Nat.le_refl _⟩
theorem PI.step {l : List Pn} {k : Nat} (h : PI l k) : PI l (k + 1) := ⟨h.pins, h.low, fun g => by have := h.many g; omega, by have := h.len; omega⟩
theorem PI.open_ {l : List Pn} {k : Nat} (h : PI l k) (hk : k < 60) {g : Int} (h0 : 0 ≤ g) (h8 : g < 8) :
    openE l g = 0 ∧ PI (openL l g) (k + 1) ∧ (∀ x, x ≠ g → manyP (openL l g) x = manyP l x) ∧ manyP (openL l g) g = manyP l g + 1 := by
  have hm := h.many g
  have hl := h.len
  have hlo := many_lo h.pins g
  have hE : openE l g = 0 := open_ok.2 ⟨may_iff.2 ⟨by omega, h.pins⟩, by omega, fun _ => by omega⟩
  have e1 : ∀ x, manyP (openL l g) x = if x = g then manyP l g + 1 else manyP l x := fun x => by rw [openL_ok hE, many_put h.pins.up (by omega)]
  refine ⟨hE, ⟨pins_open l h0, fun p hp => ?_, fun x => ?_, ?_⟩, fun x hx => by rw [e1, if_neg hx], by rw [e1, if_pos rfl]⟩
  · rw [openL_ok hE] at hp
    rcases mem_put.1 hp with ⟨h1, _⟩ | ⟨_, rfl⟩
    · exact h.low p h1
    · exact h8
  · rw [e1]
    have := h.many x
    split <;> omega
  · have := len_put h.pins g (manyP l g + 1)
    rw [openL_ok hE]
    split at this <;> split at this <;> omega
theorem PI.close_ {l : List Pn} {k : Nat} (h : PI l k) {g : Int} (h0 : 0 ≤ g) (h8 : g < 8) (hn : manyP l g ≠ 0) :
    closeE l g = 0 ∧ PI (closeL l g) (k + 1) ∧ (∀ x, x ≠ g → manyP (closeL l g) x = manyP l x) ∧ manyP (closeL l g) g = manyP l g - 1 := by
  have hl := h.len
  have hlo := many_lo h.pins g
  have hE : closeE l g = 0 := close_ok.2 ⟨may_iff.2 ⟨by omega, h.pins⟩, hn⟩
  have e1 : ∀ x, manyP (closeL l g) x = if x = g then manyP l g - 1 else manyP l x := fun x => by rw [closeL_ok hE, many_put h.pins.up (by omega)]
  refine ⟨hE, ⟨pins_close l h0, fun p hp => ?_, fun x => ?_, ?_⟩, fun x hx => by rw [e1, if_neg hx], by rw [e1, if_pos rfl]⟩
  · rw [closeL_ok hE] at hp
    rcases mem_put.1 hp with ⟨h1, _⟩ | ⟨_, rfl⟩
    · exact h.low p h1
    · exact h8
  · rw [e1]
    have h1 := h.many x
    have h2 := h.many g
    split <;> omega
  · have := len_put h.pins g (manyP l g - 1)
    rw [closeL_ok hE]
    split at this <;> split at this <;> omega
theorem PI.no {l : List Pn} {k : Nat} (h : PI l k) {g : Int} (h8 : g < 8) (hn : manyP l g = 0) : closeE l g = 4 := by
  unfold closeE
  rw [if_pos (may_iff.2 ⟨by omega, h.pins⟩), if_pos hn]

/-! ### counted kind by kind -/
def lstP : List Pn → Int
  | [] => 99
  | p :: _ => p.g
theorem low_zero {l : List Pn} (h : Pins l) : lowP l 0 = [] := by
  unfold lowP; rw [List.filter_eq_nil_iff]; intro p hp; have := h.lo p hp; simp; omega
theorem low_all {l : List Pn} {z : Int} (h : ∀ p ∈ l, p.g < z) : lowP l z = l := by
  unfold lowP; rw [List.filter_eq_self]; intro p hp; have := h p hp; simp; omega
theorem low_same {l : List Pn} (h : Pins l) {j : Int} (hn : manyP l j = 0) : lowP l (j + 1) = lowP l j := by
  refine up_ext (up_low h.up _) (up_low h.up _) fun p => ?_
  rw [mem_low, mem_low]
  constructor
  · rintro ⟨h1, h2⟩
    refine ⟨h1, ?_⟩
    rcases many_cases h j with ⟨_, h3⟩ | ⟨h3, _⟩
    · have := h3 p h1; omega
    · omega
  · rintro ⟨h1, h2⟩
    exact ⟨h1, by omega⟩
theorem low_more {l : List Pn} (h : Pins l) {j : Int} (hn : manyP l j ≠ 0) : lowP l (j + 1) = lowP l j ++ [⟨j, manyP l j⟩] := by
  have hu : Up (lowP l j ++ [⟨j, manyP l j⟩]) := by
    refine List.pairwise_append.2 ⟨up_low h.up j, List.pairwise_singleton _ _, fun a ha b hb => ?_⟩
    rw [List.mem_singleton] at hb
    subst hb
    exact (mem_low.1 ha).2
  refine up_ext (up_low h.up _) hu fun p => ?_
  rw [mem_low, List.mem_append, mem_low, List.mem_singleton]
  constructor
  · rintro ⟨h1, h2⟩
    rcases Int.lt_or_le p.g j with h3 | h3
    · exact .inl ⟨h1, h3⟩
    · have e : p.g = j := by omega
      have h4 := many_mem h.up h1
      exact .inr (pn_ext e (by rw [← e, h4]))
  · rintro (⟨h1, h2⟩ | rfl)
    · exact ⟨h1, by omega⟩
    · rcases many_cases h j with ⟨h3, _⟩ | ⟨_, _, h3⟩
      · exact absurd h3 hn
      · exact ⟨h3, by show j < j + 1; omega⟩
theorem lst_min {l : List Pn} {j n : Int} (h : ∀ p ∈ l, p.g < j) (hj : j < 99) : (¬ j < lstP l ∧ lstP (l ++ [⟨j, n⟩]) = lstP l) ∨ (j < lstP l ∧ lstP (l ++ [⟨j, n⟩]) = j) := by
  cases l with
  | nil => exact .inr ⟨by show j < 99; exact hj, rfl⟩
  | cons p r => exact .inl ⟨by show ¬ j < p.g; have := h p List.mem_cons_self; omega, rfl⟩
theorem least_ok {l : List Pn} (h : Pins l) : (l.length = 0 ∧ leastE l = 4) ∨ (0 < l.length ∧ leastE l = 0 ∧ leastG l = lstP l) := by
  have hp := pins_iff.2 h
  cases l with
  | nil => exact .inl ⟨rfl, rfl⟩
  | cons p r =>
    have e : leastE (p :: r) = 0 := by unfold leastE; rw [hp, if_pos rfl]; rfl
    refine .inr ⟨by simp, e, ?_⟩
    unfold leastG
    rw [e, if_pos rfl]; rfl
end Go.Proofs.Ythjgnbjobinhdaa
