import Derived.Test.YtdnahdogohdmjaaW14
import Derived.Test.YtdnahdogohdmjaaRows
import Derived.ProofKit
import Derived.OpenShut
import Derived.ChangeOld
import Derived.ChangeSame
import Derived.Below
import Derived.Deep.Slices
import Derived.Deep.Fields
import Derived.Lib.SmallJoins
namespace Go.Proofs.Ytdnahdogohdmjaa
open Go.RowKit Go.ChangeShapes Go.WideShapes Go.ChangeAt Go.Deep Go.Joins

theorem list_of {α : Type} {Q : Nat → α → Prop} (n : Nat) (h : ∀ i, i < n → ∃ x, Q i x) : ∃ l : List α, l.length = n ∧ ∀ i (hi : i < l.length), Q i l[i] := by
  induction n with
  | zero => exact ⟨[], rfl, fun i hi => absurd hi (Nat.not_lt_zero _)⟩
  | succ n ih =>
    obtain ⟨l, hl, hq⟩ := ih fun i hi => h i (by omega)
    obtain ⟨x, hx⟩ := h n (by omega)
    refine ⟨l ++ [x], by simp [hl], fun i hi => ?_⟩
    by_cases h1 : i < l.length
    · rw [List.getElem_append_left h1]; exact hq i h1
    · obtain rfl : i = n := by simp at hi; omega
      rw [List.getElem_append_right (by omega)]
      simpa [hl] using hx
theorem spot_none {w : World} {a : Addr} {u : Value} (h : w.cell? (a.add 0) = some u) : a.spot = none := by
  have h1 := World.cell?_spot h
  unfold Addr.add at h1
  simpa using h1
theorem f64_of {b : Nat} (h : (Lit.float .f64 b).wf = true) : b < 18446744073709551616 := by simpa [Lit.wf] using h

section
variable {H : Type} {enc : TypeId × Value → H} {P : Program} {w : World} {base : Nat} {spare : Nat → Bool} {held : Bool}
/-- A parameter that is a slice, whatever its elements are, of each of which 'T' is known. -/
theorem open_rd {α : Type} {k : Nat} {f : α → List Value} (T : α → Prop) {r : Reach} {b0 : Nat} {v : Value} {d : DataW H} {p : List MemPlace} {t e : TypeId} (ht : P.underlying t = some (.slice e)) (hC : P.cellsOf e = k) (hk : 0 < k) (hfl : ∀ x, (f x).length = k)
    (hE : ∀ n cs y, cs.length = k → DataW.trod enc P w base spare held n e cs = some y → ∃ x, cs = f x ∧ T x)
    (hv : Value.okWide P w r b0 t v) (h : DataW.Trod enc P w base spare held t v d p) : ∃ l, Rd k f 0 w.heap.size w v l ∧ ∀ x ∈ l, T x := by
  obtain ⟨a1, n1, c1, rfl⟩ := okWide_slice ht hv
  obtain ⟨fuel, hf⟩ := h
  rcases open_slice ht hf with ⟨hcs, _⟩ | ⟨a, len, cap, m, n, D, Pl, hcs, hb, hl, hm, hmm, hx, hi⟩
  · have e : Value.slice a1 n1 c1 = .slice none 0 0 := by simpa [Value.cells] using hcs
    rw [e]
    exact ⟨[], Rd.nil _ _ _ _ _, fun x hx => by cases hx⟩
  · have e' : Value.slice a1 n1 c1 = .slice (some a) len cap := by simpa [Value.cells] using hcs
    rw [e']
    have hml : len ≤ m := by rw [hmm]; split <;> omega
    rw [hC] at hi
    obtain ⟨l, hll, hq⟩ := list_of (Q := fun i x => (∀ j, j < k → w.cell? ((a.add (i * k)).add j) = (f x)[j]?) ∧ T x) len (fun i hil => by
      obtain ⟨cs', hc, ht'⟩ := hi i (by omega)
      obtain ⟨_, hcl, hat⟩ := World.cells?_some hc
      obtain ⟨x, rfl, hT⟩ := hE _ _ _ hcl ht'
      exact ⟨x, fun j hj => hat j hj, hT⟩)
    unfold maxLen at hm
    refine ⟨l, ⟨some a, cap, by rw [hll], by omega, by omega, fun h0 => ?_⟩, fun x hx => ?_⟩
    · obtain ⟨b, off, spot⟩ := a
      have hu : ∃ u, (f l[0])[0]? = some u := ⟨_, List.getElem?_eq_getElem (by rw [hfl]; exact hk)⟩
      obtain ⟨u, hu⟩ := hu
      have hc0 := ((hq 0 h0).1 0 hk).trans hu
      rw [add_add, Nat.zero_mul] at hc0
      obtain rfl : spot = none := spot_none hc0
      rw [add_none] at hc0
      have hb' := World.block_lt_of_cell? w _ hc0
      refine ⟨b, off, rfl, Nat.zero_le _, hb', fun i hil j u hu => ?_⟩
      have hj : j < k := by rw [← hfl l[i]]; exact (List.getElem?_eq_some_iff.1 hu).1
      have := ((hq i hil).1 j hj).trans hu
      rw [add_add, add_none] at this
      rwa [← Nat.add_assoc] at this
    · obtain ⟨i, hi', rfl⟩ := List.getElem_of_mem hx
      exact (hq i hi').2
theorem elem_float {e : TypeId} (he : P.underlying e = some (.float .f64)) (n : Nat) (cs : List Value) (y : DataW H × List MemPlace) (hl : cs.length = 1) (h : DataW.trod enc P w base spare held n e cs = some y) : ∃ x, cs = fl x ∧ x < 18446744073709551616 := by
  cases n with
  | zero => simp [DataW.trod] at h
  | succ n =>
    match cs, hl with
    | [v], _ =>
      unfold DataW.trod at h
      rw [he] at h
      cases v <;> simp at h
      rename_i k b hl'
      obtain ⟨⟨rfl, hw⟩, _⟩ := h
      exact ⟨b, rfl, f64_of hw⟩
end
theorem own : ownKnob Try.prog.godebug = none := by kernel_rfl
theorem laidOut : laidOutB Try.prog = true := by kernel_rfl
theorem cells22 : Try.prog.cellsOf 22 = 1 := by kernel_rfl
theorem u64_of {z : Int} (h : (Lit.int .u64 z).wf = true) : 0 ≤ z ∧ z < 18446744073709551616 := by
  have e : IntKind.u64.min ≤ z ∧ z ≤ IntKind.u64.max := by simpa [Lit.wf] using h
  have e1 : IntKind.u64.min = 0 := by decide
  have e2 : IntKind.u64.max = 18446744073709551615 := by decide
  omega
end Go.Proofs.Ytdnahdogohdmjaa
