import Derived.Test.YtcgfcdbchcehmaaL21
import Derived.Test.YtcgfcdbchcehmaaW13
import Derived.Test.YtcgfcdbchcehmaaW25
import Derived.Test.YtcgfcdbchcehmaaW15
namespace Go.Proofs.Ytcgfcdbchcehmaa
open Go.RowKit

/-- Rising lists of the same pages are the same. -/
theorem rises_ext {l m : List Pg} (h1 : l.Pairwise (fun p q => p.at_ < q.at_)) (h2 : m.Pairwise (fun p q => p.at_ < q.at_)) (hm : ∀ q, q ∈ l ↔ q ∈ m) : l = m := by
  induction l generalizing m with
  | nil =>
    cases m with
    | nil => rfl
    | cons q m => exact absurd ((hm q).2 List.mem_cons_self) (by simp)
  | cons p r ih =>
    cases m with
    | nil => exact absurd ((hm p).1 List.mem_cons_self) (by simp)
    | cons q s =>
      rw [List.pairwise_cons] at h1 h2
      have hpq : p = q := by
        rcases List.mem_cons.1 ((hm p).1 List.mem_cons_self) with h | h
        · exact h
        · rcases List.mem_cons.1 ((hm q).2 List.mem_cons_self) with h' | h'
          · exact h'.symm
          · have a := h2.1 p h
            have b := h1.1 q h'
            omega
      subst hpq
      rw [ih h1.2 h2.2 fun x => ⟨fun hx => ?_, fun hx => ?_⟩]
      · rcases List.mem_cons.1 ((hm x).1 (List.mem_cons_of_mem _ hx)) with rfl | h
        · have := h1.1 x hx; omega
        · exact h
      · rcases List.mem_cons.1 ((hm x).2 (List.mem_cons_of_mem _ hx)) with rfl | h
        · have := h2.1 x hx; omega
        · exact h
theorem wrPg_twice {ps : List Pg} (h : Rises ps) (at_ : Int) (a b : List UInt8) : wrPg (wrPg ps at_ a) at_ b = wrPg ps at_ b := by
  refine rises_ext (rises_iff.1 (rises_wrPg (rises_wrPg h))) (rises_iff.1 (rises_wrPg h)) fun q => ?_
  rw [mem_wrPg, mem_wrPg, mem_wrPg]
  constructor
  · rintro (⟨⟨h1, h2⟩ | h1, h3⟩ | h1)
    · exact .inl ⟨h1, h2⟩
    · subst h1; exact absurd rfl h3
    · exact .inr h1
  · rintro (⟨h1, h2⟩ | h1)
    · exact .inl ⟨.inl ⟨h1, h2⟩, h2⟩
    · exact .inr h1
theorem wrPg_swap {ps : List Pg} (h : Rises ps) (at_ o_ : Int) (a b : List UInt8) (hne : at_ ≠ o_) : wrPg (wrPg ps o_ b) at_ a = wrPg (wrPg ps at_ a) o_ b := by
  refine rises_ext (rises_iff.1 (rises_wrPg (rises_wrPg h))) (rises_iff.1 (rises_wrPg (rises_wrPg h))) fun q => ?_
  rw [mem_wrPg, mem_wrPg, mem_wrPg, mem_wrPg]
  constructor
  · rintro (⟨⟨h1, h2⟩ | h1, h3⟩ | h1)
    · exact .inl ⟨.inl ⟨h1, h3⟩, h2⟩
    · exact .inr h1
    · subst h1; exact .inl ⟨.inr rfl, hne⟩
  · rintro (⟨⟨h1, h2⟩ | h1, h3⟩ | h1)
    · exact .inl ⟨.inl ⟨h1, h3⟩, h2⟩
    · exact .inr h1
    · subst h1; exact .inl ⟨.inr rfl, Ne.symm hne⟩
theorem wrPg_len1 (ps : List Pg) (at_ : Int) (b : List UInt8) : (wrPg ps at_ b).length ≤ 2 * ps.length + 1 := by
  unfold wrPg
  rw [List.length_append, List.length_cons]
  have h1 := List.length_filter_le (fun p : Pg => decide (p.at_ < at_)) ps
  have h2 := List.length_filter_le (fun p : Pg => decide (at_ < p.at_)) ps
  omega
theorem few_sixty' {d : Dk} (h : fewB d = true) : d.dry.length ≤ 1000000 ∧ d.wet.length ≤ 60 := by
  simp only [fewB, Bool.and_eq_true, Bool.or_eq_true, decide_eq_true_eq] at h
  omega
theorem Agree.setCell2 {lo hi : Nat} {a w : World} (h : Agree lo hi a w) {p : Addr} (hp : p.block < lo) (u : Value) : Agree lo hi a (w.setCell p u) := h.setCell hp u
theorem Dsk.set3 {lo hi : Nat} {w : World} {v : Value} {d : Dk} (h : Dsk lo hi w v d) {g : Nat} (hg : g < lo) (x y z : Value) : Dsk lo hi (((w.setCell ⟨g, 0, none⟩ x).setCell ⟨g, 1, none⟩ y).setCell ⟨g, 2, none⟩ z) v d :=
  h.keep ((((Agree.refl _ _ _).setCell (p := ⟨g, 0, none⟩) hg x).setCell (p := ⟨g, 1, none⟩) hg y).setCell (p := ⟨g, 2, none⟩) hg z)
theorem Dsk.of_eq {lo hi : Nat} {w : World} {v : Value} {d e : Dk} (h : Dsk lo hi w v d) (he : d = e) : Dsk lo hi w v e := he ▸ h
/-- A crash behind a crash changes nothing. -/
theorem crash_twice {d : Dk} (h : okD d = true) (ms more : List UInt8) : crD (crD d ms).1 more = ((crD d ms).1, 0) := by
  have hlen := crAt_length d.dry d.wet ms (min d.wet.length ms.length) (okD_ok h).2
  have h1 : (crD d ms).1 = ⟨crAt d.dry d.wet ms (min d.wet.length ms.length), [], -1⟩ := by simp [crD, h]
  rw [h1]
  have h2 := ok_bare h _ hlen
  simp [crD, h2, crAt]
end Go.Proofs.Ytcgfcdbchcehmaa
