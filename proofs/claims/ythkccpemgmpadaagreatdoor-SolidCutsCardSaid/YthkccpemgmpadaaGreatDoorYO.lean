import Derived.Test.YthkccpemgmpadaaGreatDoorU37
import Derived.Test.YthkccpemgmpadaaGreatDoorPP7
/- only Z -/
namespace Go.Proofs.YthkccpemgmpadaaGreatDoor
set_option maxRecDepth 100000
open Go.RowKit Go.ChangeShapes Go.WideShapes Go.ChangeAt Go.Deep Go.Joins
theorem cellsP : Tryz.prog.cellsOf 44 = 3 := by kernel_rfl
theorem elem_pc {H : Type} {enc : TypeId × Value → H} {Pg : Program} {w : World} {base : Nat} {spare : Nat → Bool} {held : Bool} {e ti tu : TypeId} {f0 f1 f2 : Field} (he : Pg.underlying e = some (.struct #[f0, f1, f2])) (hone : oneCellFields Pg #[f0, f1, f2] = true) (hC : Pg.cellsOf e = 3) (e0 : f0.type = ti) (e1 : f1.type = ti) (e2 : f2.type = tu) (hi : Pg.underlying ti = some (.int .i64)) (hu : Pg.underlying tu = some (.int .u32))
    (n : Nat) (cs : List Value) (y : DataW H × List MemPlace) (_ : cs.length = 3) (h : DataW.trod enc Pg w base spare held n e cs = some y) : ∃ x : {p : Pc // OkP p}, cs = pcL x.1 := by
  obtain ⟨hl, hj⟩ := P.elem_fields he hone hC h
  obtain ⟨m0, v0, z0, c0, t0⟩ := hj 0 f0 rfl
  obtain ⟨m1, v1, z1, c1, t1⟩ := hj 1 f1 rfl
  obtain ⟨m2, v2, z2, c2, t2⟩ := hj 2 f2 rfl
  rw [e0] at t0
  rw [e1] at t1
  rw [e2] at t2
  obtain ⟨a, ea, wa⟩ := DataW.trod_int hi t0
  obtain ⟨b, eb, wb⟩ := DataW.trod_int hi t1
  obtain ⟨u, eu, wu⟩ := DataW.trod_int hu t2
  simp only [List.cons.injEq, and_true] at ea eb eu
  subst ea eb eu
  have ha : IntKind.i64.min ≤ a ∧ a ≤ IntKind.i64.max := by simpa [Lit.wf] using wa.2
  have hb : IntKind.i64.min ≤ b ∧ b ≤ IntKind.i64.max := by simpa [Lit.wf] using wb.2
  have q1 : IntKind.i64.min = -9223372036854775808 := by decide
  have q2 : IntKind.i64.max = 9223372036854775807 := by decide
  have hu' := u32v_of wu.2
  match cs, hl with
  | [x0, x1, x2], _ =>
    simp at c0 c1 c2
    subst c0 c1 c2
    exact ⟨⟨⟨a, b, BitVec.ofInt 32 u⟩, ⟨by show _ ≤ a; omega, by show a ≤ _; omega, by show _ ≤ b; omega, by show b ≤ _; omega⟩⟩, by rw [hu']; rfl⟩
theorem open_pieces {H : Type} {enc : TypeId × Value → H} {w : World} {base : Nat} {spare : Nat → Bool} {held : Bool} {r : Reach} {b0 : Nat} {v : Value} {d : DataW H} {p : List MemPlace} (hv : Value.okWide Tryz.prog w r b0 32 v) (h : DataW.Trod enc Tryz.prog w base spare held 32 v d p) :
    ∃ l, Pcs 0 w.heap.size w v l ∧ (∀ q ∈ l, OkP q) := by
  obtain ⟨l, A, c, e, h1, h2, h3⟩ := P.open_rd (k := 3) (f := fun x : {p : Pc // OkP p} => pcL x.1) (hk := Nat.succ_pos _) (hfl := fun _ => rfl) Tryz.underlying32 cellsP (hE := elem_pc Tryz.underlying44 (by kernel_rfl) cellsP rfl rfl rfl Tryz.underlying3 Tryz.underlying22) hv h
  refine ⟨l.map (·.1), ⟨A, c, by rw [List.length_map]; exact e, fun h0 => ?_, fun b off hA k hk => ?_⟩, fun q hq => ?_⟩
  · rw [List.length_map] at h0
    obtain ⟨b, off, e, _, g2, _⟩ := h3 h0
    exact ⟨b, off, e, Nat.zero_le _, g2⟩
  · rw [List.length_map] at hk
    obtain ⟨b', off', e', _, g2, g3⟩ := h3 (by omega)
    rw [hA] at e'; injection e' with e'; injection e' with e1 e2; subst e1 e2
    have q0 := g3 k hk 0 _ rfl
    have q1 := g3 k hk 1 _ rfl
    have q2 := g3 k hk 2 _ rfl
    simp only [List.getElem_map]
    exact ⟨q0, q1, q2⟩
  · obtain ⟨x, _, rfl⟩ := List.mem_map.1 hq
    exact x.2
end Go.Proofs.YthkccpemgmpadaaGreatDoor
