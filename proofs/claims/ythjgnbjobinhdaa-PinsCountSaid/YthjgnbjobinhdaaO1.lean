import Derived.Test.YthjgnbjobinhdaaP13
import Derived.Test.YthjgnbjobinhdaaRows
import Derived.ProofKit
import Derived.OpenShut
import Derived.ChangeOld
import Derived.ChangeSame
import Derived.Below
import Derived.Deep.Slices
import Derived.Deep.Fields
import Derived.Lib.SmallJoins
namespace Go.Proofs.Ythjgnbjobinhdaa
open Go.RowKit Go.ChangeShapes Go.WideShapes Go.ChangeAt Go.Deep Go.Joins

theorem list_of {α : Type} {Q : Nat → α → Prop} (n : Nat) (h : ∀ i, i < n → ∃ x, Q i x) : ∃ l : List α, l.length = n ∧ ∀ i (hi : i < l.length), Q i l[i] := by
  induction n with
  | zero => exact ⟨[], rfl, fun i hi => absurd hi (Nat.not_lt_zero _)⟩
  | succ n ih =>
    obtain ⟨l, hl, hq⟩ := ih fun i hi => h i (by omega)
    obtain ⟨x, hx⟩ := h n (by omega)
    refine ⟨l ++ [x], by simp [hl], fun i hi => ?_⟩
    by_cases h1 : i < l.length
    · rw [List.getElem_append_left h1]; exact hq i h1
    · obtain rfl : i = n := by simp at hi; omega
      rw [List.getElem_append_right (by omega)]
      simpa [hl] using hx
theorem add_none (b off i : Nat) : (⟨b, off, none⟩ : Addr).add i = ⟨b, off + i, none⟩ := by
  unfold Addr.add
  split
  · rename_i h; subst h; rfl
  · rfl
theorem spot_none {w : World} {a : Addr} {u : Value} (h : w.cell? (a.add 0) = some u) : a.spot = none := by
  have h1 := World.cell?_spot h
  unfold Addr.add at h1
  simpa using h1
section
variable {H : Type} {enc : TypeId × Value → H} {P : Program} {w : World} {base : Nat} {spare : Nat → Bool} {held : Bool}
/-- A parameter that is a slice, whatever its elements are, of each of which 'T' is known. -/
theorem open_rd {α : Type} {k : Nat} {f : α → List Value} (T : α → Prop) {r : Reach} {b0 : Nat} {v : Value} {d : DataW H} {p : List MemPlace} {t e : TypeId} (ht : P.underlying t = some (.slice e)) (hC : P.cellsOf e = k) (hk : 0 < k) (hfl : ∀ x, (f x).length = k)
    (hE : ∀ n cs y, cs.length = k → DataW.trod enc P w base spare held n e cs = some y → ∃ x, cs = f x ∧ T x)
    (hv : Value.okWide P w r b0 t v) (h : DataW.Trod enc P w base spare held t v d p) : ∃ l, Rd k f 0 w.heap.size w v l ∧ ∀ x ∈ l, T x := by
  obtain ⟨a1, n1, c1, rfl⟩ := okWide_slice ht hv
  obtain ⟨fuel, hf⟩ := h
  rcases open_slice ht hf with ⟨hcs, _⟩ | ⟨a, len, cap, m, n, D, Pl, hcs, hb, hl, hm, hmm, hx, hi⟩
  · have e : Value.slice a1 n1 c1 = .slice none 0 0 := by simpa [Value.cells] using hcs
    rw [e]
    exact ⟨[], Rd.nil _ _ _ _ _, fun x hx => by cases hx⟩
  · have e' : Value.slice a1 n1 c1 = .slice (some a) len cap := by simpa [Value.cells] using hcs
    rw [e']
    have hml : len ≤ m := by rw [hmm]; split <;> omega
    rw [hC] at hi
    obtain ⟨l, hll, hq⟩ := list_of (Q := fun i x => (∀ j, j < k → w.cell? ((a.add (i * k)).add j) = (f x)[j]?) ∧ T x) len (fun i hil => by
      obtain ⟨cs', hc, ht'⟩ := hi i (by omega)
      obtain ⟨_, hcl, hat⟩ := World.cells?_some hc
      obtain ⟨x, rfl, hT⟩ := hE _ _ _ hcl ht'
      exact ⟨x, fun j hj => hat j hj, hT⟩)
    unfold maxLen at hm
    refine ⟨l, ⟨some a, cap, by rw [hll], by omega, by omega, fun h0 => ?_⟩, fun x hx => ?_⟩
    · obtain ⟨b, off, spot⟩ := a
      have hu : ∃ u, (f l[0])[0]? = some u := ⟨_, List.getElem?_eq_getElem (by rw [hfl]; exact hk)⟩
      obtain ⟨u, hu⟩ := hu
      have hc0 := ((hq 0 h0).1 0 hk).trans hu
      rw [add_add, Nat.zero_mul] at hc0
      obtain rfl : spot = none := spot_none hc0
      rw [add_none] at hc0
      have hb' := World.block_lt_of_cell? w _ hc0
      refine ⟨b, off, rfl, Nat.zero_le _, hb', fun i hil j u hu => ?_⟩
      have hj : j < k := by rw [← hfl l[i]]; exact (List.getElem?_eq_some_iff.1 hu).1
      have := ((hq i hil).1 j hj).trans hu
      rw [add_add, add_none] at this
      rwa [← Nat.add_assoc] at this
    · obtain ⟨i, hi', rfl⟩ := List.getElem_of_mem hx
      exact (hq i hi').2
/-- The cells of a struct, each by its field. -/
theorem elem_fields {e : TypeId} {fs : Array Field} (he : P.underlying e = some (.struct fs)) (hone : oneCellFields P fs = true) (hC : P.cellsOf e = fs.size) {n : Nat} {cs : List Value} {y : DataW H × List MemPlace} (h : DataW.trod enc P w base spare held n e cs = some y) :
    cs.length = fs.size ∧ ∀ (j : Nat) (f : Field), fs[j]? = some f → ∃ (m : Nat) (v : Value) (z : DataW H × List MemPlace), cs[j]? = some v ∧ DataW.trod enc P w base spare held m f.type [v] = some z := by
  obtain ⟨ys, n', hn', hy, hlen, hyl, hf⟩ := DataW.trod_struct he h
  rw [hC] at hlen
  refine ⟨hlen, fun j f hj => ?_⟩
  obtain ⟨ho, hk⟩ := hone_of hone j f hj
  have hjl : j < fs.size := (Array.getElem?_eq_some_iff.1 hj).1
  have h1 := hf j f hj
  rw [ho, hk] at h1
  have hone' : (cs.drop j).take 1 = [cs[j]'(by omega)] := by rw [List.drop_eq_getElem_cons (by omega)]; rfl
  rw [hone'] at h1
  have hys : ys[j]? = some (ys[j]'(by omega)) := List.getElem?_eq_getElem (by omega)
  exact ⟨_, _, _, List.getElem?_eq_getElem (by omega), h1.trans hys⟩
theorem wf_u64 {z : Int} (h : (Lit.int .u64 z).wf = true) : 0 ≤ z ∧ z ≤ 18446744073709551615 := by
  have e : IntKind.u64.min ≤ z ∧ z ≤ IntKind.u64.max := by simpa [Lit.wf] using h
  have e1 : IntKind.u64.min = 0 := by decide
  have e2 : IntKind.u64.max = 18446744073709551615 := by decide
  omega
theorem wf_i64 {z : Int} (h : (Lit.int .i64 z).wf = true) : -9223372036854775808 ≤ z ∧ z ≤ 9223372036854775807 := by
  have e : IntKind.i64.min ≤ z ∧ z ≤ IntKind.i64.max := by simpa [Lit.wf] using h
  have e1 : IntKind.i64.min = -9223372036854775808 := by decide
  have e2 : IntKind.i64.max = 9223372036854775807 := by decide
  omega
theorem wf_i8 {z : Int} (h : (Lit.int .i8 z).wf = true) : -128 ≤ z ∧ z ≤ 127 := by
  have e : IntKind.i8.min ≤ z ∧ z ≤ IntKind.i8.max := by simpa [Lit.wf] using h
  have e1 : IntKind.i8.min = -128 := by decide
  have e2 : IntKind.i8.max = 127 := by decide
  omega
/-- The cells of a pin. -/
theorem elem_pin {e tu ti : TypeId} {f0 f1 : Field} (he : P.underlying e = some (.struct #[f0, f1])) (hone : oneCellFields P #[f0, f1] = true) (hC : P.cellsOf e = 2)
    (e0 : f0.type = tu) (e1 : f1.type = ti) (hu : P.underlying tu = some (.int .u64)) (hi : P.underlying ti = some (.int .i64))
    (n : Nat) (cs : List Value) (y : DataW H × List MemPlace) (_ : cs.length = 2) (h : DataW.trod enc P w base spare held n e cs = some y) : ∃ x, cs = pc x ∧ Sm x := by
  obtain ⟨hl, hj⟩ := elem_fields he hone hC h
  obtain ⟨m0, v0, z0, c0, t0⟩ := hj 0 f0 rfl
  obtain ⟨m1, v1, z1, c1, t1⟩ := hj 1 f1 rfl
  rw [e0] at t0
  rw [e1] at t1
  obtain ⟨a0, ea0, _, w0⟩ := DataW.trod_int hu t0
  obtain ⟨a1, ea1, _, w1⟩ := DataW.trod_int hi t1
  simp only [List.cons.injEq, and_true] at ea0 ea1
  subst ea0 ea1
  refine ⟨⟨a0, a1⟩, ?_, (wf_u64 w0).1, (wf_u64 w0).2, (wf_i64 w1).1, (wf_i64 w1).2⟩
  unfold pc
  match cs, hl with
  | [u0, u1], _ =>
    simp at c0 c1
    subst c0 c1
    rfl
end
theorem own : ownKnob Try.prog.godebug = none := by kernel_rfl
theorem laidOut : laidOutB Try.prog = true := by kernel_rfl
theorem cells35 : Try.prog.cellsOf 35 = 2 := by kernel_rfl
theorem cells40 : Try.prog.cellsOf 40 = 1 := by kernel_rfl
section
variable {H : Type} {enc : TypeId × Value → H} {w : World} {base : Nat} {spare : Nat → Bool} {held : Bool}
theorem elem35 (n : Nat) (cs : List Value) (y : DataW H × List MemPlace) (hl : cs.length = 2) (h : DataW.trod enc Try.prog w base spare held n 35 cs = some y) : ∃ x, cs = pc x ∧ Sm x :=
  elem_pin Try.underlying35 (by kernel_rfl) cells35 rfl rfl Try.underlying23 Try.underlying3 n cs y hl h
/-- A parameter that is a list of pins. -/
theorem open_pins {r : Reach} {b0 : Nat} {v : Value} {d : DataW H} {p : List MemPlace} (hv : Value.okWide Try.prog w r b0 22 v) (h : DataW.Trod enc Try.prog w base spare held 22 v d p) : ∃ l, Pns 0 w.heap.size w v l ∧ ∀ x ∈ l, Sm x :=
  open_rd Sm Try.underlying22 cells35 (Nat.succ_pos _) pc_len (hE := elem35) hv h
theorem elem40 (n : Nat) (cs : List Value) (y : DataW H × List MemPlace) (_ : cs.length = 1) (h : DataW.trod enc Try.prog w base spare held n 40 cs = some y) : ∃ x, cs = i8c x ∧ (-128 ≤ x ∧ x ≤ 127) := by
  obtain ⟨z, rfl, _, hz⟩ := DataW.trod_int Try.underlying40 h
  exact ⟨z, rfl, wf_i8 hz⟩
/-- A parameter that is a list of int8. -/
theorem open_i8s {r : Reach} {b0 : Nat} {v : Value} {d : DataW H} {p : List MemPlace} (hv : Value.okWide Try.prog w r b0 38 v) (h : DataW.Trod enc Try.prog w base spare held 38 v d p) : ∃ l, Rd 1 i8c 0 w.heap.size w v l ∧ ∀ x ∈ l, -128 ≤ x ∧ x ≤ 127 :=
  open_rd (fun x : Int => -128 ≤ x ∧ x ≤ 127) Try.underlying38 cells40 (Nat.succ_pos _) i8c_len (hE := elem40) hv h
end
end Go.Proofs.Ythjgnbjobinhdaa
