import Derived.Test.YtommlgdolahfbaaDoorW20
import Derived.Test.YtommlgdolahfbaaDoorL14
namespace Go.Proofs.YtommlgdolahfbaaDoor
set_option maxRecDepth 100000
open Go.RowKit

theorem wetFrom_make (n last : Int) (ps : List Pg) (h : ∀ q ∈ ps, last < q.at_ ∧ q.at_ < n ∧ q.b.length = 32) (hr : ps.Pairwise (fun p q => p.at_ < q.at_)) : wetFrom n last ps = true := by
  induction ps generalizing last with
  | nil => rfl
  | cons p ps ih =>
    rw [List.pairwise_cons] at hr
    simp only [wetFrom, Bool.and_eq_true, decide_eq_true_eq]
    exact ⟨h p List.mem_cons_self, ih _ (fun q hq => ⟨hr.1 q hq, (h q (List.mem_cons_of_mem _ hq)).2⟩) hr.2⟩
theorem rises_iff {ps : List Pg} : Rises ps ↔ ps.Pairwise (fun p q => p.at_ < q.at_) := by
  rw [List.pairwise_iff_getElem]
  exact Iff.rfl
theorem mem_wrPg {ps : List Pg} {at_ : Int} {b : List UInt8} {q : Pg} : q ∈ wrPg ps at_ b ↔ (q ∈ ps ∧ q.at_ ≠ at_) ∨ q = ⟨at_, b⟩ := by
  unfold wrPg
  simp only [List.mem_append, List.mem_cons, List.mem_filter, decide_eq_true_eq]
  constructor
  · rintro (⟨h1, h2⟩ | h | ⟨h1, h2⟩)
    · exact .inl ⟨h1, by omega⟩
    · exact .inr h
    · exact .inl ⟨h1, by omega⟩
  · rintro (⟨h1, h2⟩ | h)
    · rcases Int.lt_or_lt_of_ne h2 with h3 | h3
      · exact .inl ⟨h1, h3⟩
      · exact .inr (.inr ⟨h1, h3⟩)
    · exact .inr (.inl h)
theorem rises_wrPg {ps : List Pg} {at_ : Int} {b : List UInt8} (h : Rises ps) : Rises (wrPg ps at_ b) := by
  rw [rises_iff] at h ⊢
  unfold wrPg
  rw [List.pairwise_append, List.pairwise_cons]
  refine ⟨h.filter _, ⟨fun q hq => ?_, h.filter _⟩, fun p hp q hq => ?_⟩
  · simpa using (List.mem_filter.1 hq).2
  · have h1 : p.at_ < at_ := by simpa using (List.mem_filter.1 hp).2
    rcases List.mem_cons.1 hq with rfl | hq
    · exact h1
    · have h2 : at_ < q.at_ := by simpa using (List.mem_filter.1 hq).2
      omega
/-- The page of a sector, of rising pages. -/
theorem find_iff {ps : List Pg} (h : Rises ps) (o : Int) (q : Pg) : ps.find? (fun p => decide (p.at_ = o)) = some q ↔ q ∈ ps ∧ q.at_ = o := by
  constructor
  · intro hf
    exact ⟨List.mem_of_find?_eq_some hf, by simpa using List.find?_some hf⟩
  · rintro ⟨hq, ho⟩
    cases hf : ps.find? (fun p => decide (p.at_ = o)) with
    | none =>
      rw [List.find?_eq_none] at hf
      exact absurd ho (by simpa using hf q hq)
    | some p =>
      have hp := List.mem_of_find?_eq_some hf
      have hpo : p.at_ = o := by simpa using List.find?_some hf
      obtain ⟨i, hi, rfl⟩ := List.mem_iff_getElem.1 hp
      obtain ⟨j, hj, rfl⟩ := List.mem_iff_getElem.1 hq
      rcases Nat.lt_trichotomy i j with hij | hij | hij
      · have := h i j hi hj hij; omega
      · subst hij; rfl
      · have := h j i hj hi hij; omega
theorem find_wr_same {ps : List Pg} (h : Rises ps) (at_ : Int) (b : List UInt8) : (wrPg ps at_ b).find? (fun p => decide (p.at_ = at_)) = some ⟨at_, b⟩ :=
  (find_iff (rises_wrPg h) at_ _).2 ⟨mem_wrPg.2 (.inr rfl), rfl⟩
theorem find_wr_other {ps : List Pg} (h : Rises ps) (at_ o : Int) (b : List UInt8) (hne : o ≠ at_) : (wrPg ps at_ b).find? (fun p => decide (p.at_ = o)) = ps.find? (fun p => decide (p.at_ = o)) := by
  apply Option.ext
  intro q
  rw [find_iff (rises_wrPg h), find_iff h, mem_wrPg]
  constructor
  · rintro ⟨⟨h1, _⟩ | rfl, h2⟩
    · exact ⟨h1, h2⟩
    · exact absurd h2.symm hne
  · rintro ⟨h1, h2⟩
    exact ⟨.inl ⟨h1, by omega⟩, h2⟩
theorem less_left {l : Int} (h : leftB l = true) (_h0 : l ≠ 0) : leftB (less l) = true := by
  simp only [leftB, decide_eq_true_eq] at h ⊢
  unfold less
  split <;> omega
theorem okD_make {dry : List UInt8} {wet : List Pg} {l : Int} (h1 : dry.length % 32 = 0) (h2 : 1 ≤ dry.length / 32) (h3 : dry.length / 32 ≤ 8192) (h4 : leftB l = true) (h5 : Rises wet)
    (h6 : ∀ q ∈ wet, 0 ≤ q.at_ ∧ q.at_ < ((dry.length / 32 : Nat) : Int) ∧ q.b.length = 32) : okD ⟨dry, wet, l⟩ = true := by
  simp only [okD, Bool.and_eq_true, decide_eq_true_eq]
  refine ⟨⟨⟨⟨h1, h2⟩, h3⟩, h4⟩, wetFrom_make _ _ _ (fun q hq => ?_) (rises_iff.1 h5)⟩
  obtain ⟨a, b, c⟩ := h6 q hq
  exact ⟨by omega, b, c⟩
theorem okD_mem {d : Dk} (h : okD d = true) : ∀ q ∈ d.wet, 0 ≤ q.at_ ∧ q.at_ < ((d.dry.length / 32 : Nat) : Int) ∧ q.b.length = 32 := by
  intro q hq
  obtain ⟨i, hi, rfl⟩ := List.mem_iff_getElem.1 hq
  exact (okD_parts h).2.2.2.2.2 i _ (List.getElem?_eq_getElem hi)
theorem okD_wr {d : Dk} (h : okD d = true) {at_ : Int} (hh : hasB d.dry.length at_ = true) {b : List UInt8} (hb : b.length = 32) {l : Int} (hl : leftB l = true) : okD ⟨d.dry, wrPg d.wet at_ b, l⟩ = true := by
  obtain ⟨a1, a2, a3, _, a5, _⟩ := okD_parts h
  refine okD_make a1 a2 a3 hl (rises_wrPg a5) fun q hq => ?_
  simp only [hasB, decide_eq_true_eq] at hh
  rcases mem_wrPg.1 hq with ⟨hq, _⟩ | rfl
  · exact okD_mem h q hq
  · exact ⟨hh.1, hh.2, hb⟩
/-- A sector's cell behind a sync. -/
theorem syAt_none {dry : List UInt8} {wet : List Pg} (h : PgsOk dry wet) (a : Nat) (k : Nat) (hn : ∀ (j : Nat) (q : Pg), j < k → wet[j]? = some q → q.at_ ≠ (a : Int)) (i : Nat) (hi : i / 32 = a) : (syAt dry wet k)[i]? = dry[i]? := by
  induction k with
  | zero => rfl
  | succ k ih =>
    have ih := ih (fun j q hj => hn j q (by omega))
    simp only [syAt]
    split
    · rename_i p hp
      obtain ⟨a0, a1, a2⟩ := h.2 k p hp
      have hne := hn k p (by omega) hp
      rw [splice_get _ _ _ (by rw [syAt_length dry wet k h.2]; omega), a2]
      by_cases c : i < p.at_.toNat * 32
      · rw [if_pos c, ih]
      · rw [if_neg c, if_neg (by omega), ih]
    · exact ih
theorem syAt_some {dry : List UInt8} {wet : List Pg} (h : PgsOk dry wet) (j : Nat) (q : Pg) (hq : wet[j]? = some q) (k : Nat) (hk : j < k) (i : Nat) (hi : (i / 32 : Nat) = q.at_.toNat) : (syAt dry wet k)[i]? = q.b[i % 32]? := by
  induction k with
  | zero => omega
  | succ k ih =>
    obtain ⟨b0, b1, b2⟩ := h.2 j q hq
    have e1 : i - q.at_.toNat * 32 = i % 32 := by omega
    by_cases hjk : j = k
    · subst hjk
      rw [syAt_succ hq, splice_get _ _ _ (by rw [syAt_length dry wet j h.2]; omega), b2, if_neg (by omega), if_pos (by omega), e1]
    · have ih := ih (by omega)
      simp only [syAt]
      split
      · rename_i p hp
        obtain ⟨a0, a1, a2⟩ := h.2 k p hp
        obtain ⟨x, hx⟩ := List.getElem?_eq_some_iff.1 hq
        obtain ⟨y, hy⟩ := List.getElem?_eq_some_iff.1 hp
        have := h.1 j k x y (by omega)
        rw [hx, hy] at this
        rw [splice_get _ _ _ (by rw [syAt_length dry wet k h.2]; omega), a2]
        by_cases c : i < p.at_.toNat * 32
        · rw [if_pos c, ih]
        · rw [if_neg c, if_neg (by omega), ih]
      · exact ih
/-- What is synced is dry. -/
theorem sync_sector {dry : List UInt8} {wet : List Pg} (h : PgsOk dry wet) {q : Pg} (hq : q ∈ wet) : ((syAt dry wet wet.length).drop (q.at_.toNat * 32)).take 32 = q.b := by
  obtain ⟨j, hj, rfl⟩ := List.mem_iff_getElem.1 hq
  have hs := h.2 j _ (List.getElem?_eq_getElem hj)
  apply List.ext_getElem?
  intro t
  rw [sec_get]
  by_cases ht : t < 32
  · rw [if_pos ht, syAt_some h j _ (List.getElem?_eq_getElem hj) _ hj _ (by omega)]
    congr 1
    omega
  · rw [if_neg ht, List.getElem?_eq_none (by omega)]
end Go.Proofs.YtommlgdolahfbaaDoor
