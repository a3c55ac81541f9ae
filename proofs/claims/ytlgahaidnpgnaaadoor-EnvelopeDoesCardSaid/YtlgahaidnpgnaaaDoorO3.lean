import Derived.Test.YtlgahaidnpgnaaaDoorO2
import Derived.Test.YtlgahaidnpgnaaaDoorN18
namespace Go.Proofs.YtlgahaidnpgnaaaDoor
open Go.RowKit Go.ChangeShapes Go.WideShapes Go.ChangeAt Go.Deep Go.Joins
section
variable {H : Type} {enc : TypeId × Value → H} {w : World} {base : Nat} {spare : Nat → Bool} {held : Bool}
/-- A parameter that is a list of texts. -/
theorem open_list {r : Reach} {b0 : Nat} {v : Value} {d : DataW H} {p : List MemPlace} (hv : Value.okWide Tryd.prog w r b0 49 v) (h : DataW.Trod enc Tryd.prog w base spare held 49 v d p) : ∃ l, Bss w.heap.size w v l := by
  obtain ⟨a1, n1, c1, rfl⟩ := okWide_slice Tryd.underlying49 hv
  obtain ⟨fuel, hf⟩ := h
  have hcs : (Value.slice a1 n1 c1).cells.toList = [.slice a1 n1 c1] := rfl
  rw [hcs] at hf
  rcases open_slice Tryd.underlying49 hf with ⟨e, _⟩ | ⟨a, len, cap, m, n, D, Pl, e, _, hl, hm, hmm, _, hel⟩
  · simp only [List.cons.injEq, and_true] at e
    injection e with e1 e2 e3
    subst e1 e2 e3
    exact ⟨[], none, 0, rfl, fun i x hx => by simp at hx⟩
  · simp only [List.cons.injEq, and_true] at e
    injection e with e1 e2 e3
    subst e1 e2 e3
    have hml : n1 ≤ m := by rw [hmm]; split <;> omega
    have key : ∀ i, i < n1 → ∃ x : List UInt8, ∃ Ai ci, w.cell? (a.add (i * 1)) = some (.slice Ai x.length ci) ∧ Bs 0 w.heap.size w (.slice Ai x.length ci) x := by
      intro i hil
      obtain ⟨cs', hcs', ht'⟩ := hel i (by omega)
      rw [cells28] at hcs'
      obtain ⟨_, hcl, hat⟩ := World.cells?_some hcs'
      obtain ⟨Ai, ci, x, ex, hb⟩ := open_bs Tryd.underlying28 Tryd.underlying5 cells5 ht'
      have hc0 := hat 0 (by omega)
      subst ex
      refine ⟨x, Ai, ci, ?_, hb⟩
      have h0 : ∀ q : Addr, q.add 0 = q := fun q => by unfold Addr.add; rw [if_pos rfl]
      rw [h0] at hc0
      simpa using hc0
    let g : Nat → List UInt8 := fun i => if hi : i < n1 then (key i hi).choose else []
    have hg : ∀ i, i < n1 → ∃ Ai ci, w.cell? (a.add (i * 1)) = some (.slice Ai (g i).length ci) ∧ Bs 0 w.heap.size w (.slice Ai (g i).length ci) (g i) := fun i hi => by
      have := (key i hi).choose_spec
      simp only [g, hi, dif_pos]
      exact this
    have hll : ((List.range n1).map g).length = n1 := by simp
    refine ⟨(List.range n1).map g, some a, c1, by rw [hll], fun i x hx => ?_⟩
    have hi : i < n1 := by
      have := (List.getElem?_eq_some_iff.1 hx).1
      rwa [hll] at this
    have hxg : x = g i := by
      rw [List.getElem?_map, List.getElem?_range hi] at hx
      exact (Option.some.inj hx).symm
    subst hxg
    obtain ⟨Ai, ci, hc, hb⟩ := hg i hi
    obtain ⟨b, off, spot⟩ := a
    obtain rfl : spot = none := by
      obtain ⟨A0, c0, hc0, _⟩ := hg 0 (by omega)
      rw [Nat.zero_mul] at hc0
      exact spot_none hc0
    rw [add_none, Nat.mul_one] at hc
    exact ⟨b, off, Ai, ci, rfl, World.block_lt_of_cell? w _ hc, hc, hb⟩
end
end Go.Proofs.YtlgahaidnpgnaaaDoor
