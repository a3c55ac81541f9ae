import Derived.Test.YtfihgjdppkiolaaP27
namespace Go.Proofs.Ytfihgjdppkiolaa
set_option maxRecDepth 100000
open Go.RowKit

theorem results_cct {fn : Func} {p q u : Tmp} {ty tz : TypeId} (h : fn.results = #[.cell p ty, .cell q tz, .tmp u]) (tmps : Array Value) (P : Program) (w : World) :
    (results fn tmps).run P w =
      ((asAddr (tmps.getD p undef)).run P w).andThen fun a w₁ => ((loadVar ty a).run P w₁).andThen fun v w₂ => ((asAddr (tmps.getD q undef)).run P w₂).andThen fun b w₃ => ((loadVar tz b).run P w₃).andThen fun y w₄ => .ok (.tuple #[v, y, tmps.getD u undef]) w₄ := by
  simp only [results, h]
  simp [Sem.run_bind, Result.andThen]
theorem ret_tok {fn : Func} {p q u : Tmp} {R : Ending → World → Prop} {a : Act} {w : World} (h : fn.results = #[.cell p 40, .cell q 60, .tmp u]) (g4 g5 : Nat) (x y z : Value) (a1 a2 a3 a4 : Value) (v : Value)
    (hp : a.tmps.getD p undef = .pointer (some ⟨g4, 0, none⟩)) (hq : a.tmps.getD q undef = .pointer (some ⟨g5, 0, none⟩)) (hu : a.tmps.getD u undef = v) (hg4 : Blk w g4 40 #[x, y, z]) (hg5 : Blk w g5 60 #[a1, a2, a3, a4]) (hd : a.defers = []) (hR : R (.returned (.tuple #[.agg #[x, y, z], .agg #[a1, a2, a3, a4], v])) w) : bodyPost Try.prog fn R .ret a w := by
  refine bodyPost_ret (v := .tuple #[.agg #[x, y, z], .agg #[a1, a2, a3, a4], v]) ?_ hd hR
  rw [results_cct h, hp, hq, hu]
  have hl := run_loadVar_row (P := Try.prog) w g4 40 40 #[x, y, z] (0, 0) _ hg4 Try.underlying40 rfl ((by kernel_rfl : (Try.prog.info? 40).map (·.size) = some 3))
  have hl2 := run_loadVar_row (P := Try.prog) w g5 60 60 #[a1, a2, a3, a4] (0, 0) _ hg5 Try.underlying60 rfl ((by kernel_rfl : (Try.prog.info? 60).map (·.size) = some 4))
  simp [asAddr, Result.andThen, hl, hl2]

/-- Three boxes: what is read, a token, another reading. -/
structure Bx (g2 g4 g5 : Nat) (w0 w : World) (a b c d : Value) : Prop where
  k2 : Blk w g2 60 #[a, b, c, d]
  k4 : Blk w g4 40 #[.int .u8 0, .int .i64 0, .int .i64 0]
  k5 : Blk w g5 60 #[.slice none 0 0, .int .u32 0, .int .u32 0, .int .i64 0]
  below : Below w0.heap.size w0 w
  p2 : w0.heap.size ≤ g2
  p4 : w0.heap.size ≤ g4
  p5 : w0.heap.size ≤ g5
  n25 : g5 ≠ g2
  n24 : g4 ≠ g2
  n45 : g4 ≠ g5
section
variable {g2 g4 g5 : Nat} {w0 w w1 : World} {a b c d : Value}
theorem Bx.init (w : World) (a b c d : Value) :
    Bx w.heap.size (w.heap.size + 1) (w.heap.size + 2) w (((w.alloc (.cells #[a, b, c, d] 60)).alloc (.cells #[.int .u8 0, .int .i64 0, .int .i64 0] 40)).alloc (.cells #[.slice none 0 0, .int .u32 0, .int .u32 0, .int .i64 0] 60)) a b c d :=
  ⟨((Blk.new rfl).alloc _).alloc _, (Blk.new (by simp)).alloc _, Blk.new (by simp), bl_alloc (bl_alloc (bl_alloc (Below.refl _ _) _) _) _, by omega, by omega, by omega, by omega, by omega, by omega⟩
/-- Behind a call. -/
theorem Bx.call (h : Bx g2 g4 g5 w0 w a b c d) (hb : Below w.heap.size w w1) : Bx g2 g4 g5 w0 w1 a b c d :=
  ⟨h.k2.below hb h.k2.lt, h.k4.below hb h.k4.lt, h.k5.below hb h.k5.lt, bl_call h.below hb, h.p2, h.p4, h.p5, h.n25, h.n24, h.n45⟩
/-- Another reading is stored. -/
theorem Bx.put (h : Bx g2 g4 g5 w0 w a b c d) (x y z u : Value) :
    Bx g2 g4 g5 w0 ((((w.setCell ⟨g2, 0, none⟩ x).setCell ⟨g2, 1, none⟩ y).setCell ⟨g2, 2, none⟩ z).setCell ⟨g2, 3, none⟩ u) x y z u :=
  ⟨h.k2.set4, set4_blk h.k4 h.n24, set4_blk h.k5 h.n25, set4_below h.below h.p2, h.p2, h.p4, h.p5, h.n25, h.n24, h.n45⟩
theorem Bx.row (h : Bx g2 g4 g5 w0 w a b c d) {base n : Nat} {v : Value} {xs : List Value} (o : w.ownsRow base 3 1 v n xs) (x y z u : Value) :
    ((((w.setCell ⟨g2, 0, none⟩ x).setCell ⟨g2, 1, none⟩ y).setCell ⟨g2, 2, none⟩ z).setCell ⟨g2, 3, none⟩ u).ownsRow base 3 1 v n xs := set4_own o h.k2 (by decide)
/-- The cells of the first box. -/
theorem Bx.cells2 (h : Bx g2 g4 g5 w0 w a b c d) :
    g2 < w.heap.size ∧ w.cell? ⟨g2, 0, none⟩ = some a ∧ w.cell? ⟨g2, 1, none⟩ = some b ∧ w.cell? ⟨g2, 2, none⟩ = some c ∧ w.cell? ⟨g2, 3, none⟩ = some d ∧
      w.frozen? ⟨g2, 0, none⟩ = false ∧ w.frozen? ⟨g2, 1, none⟩ = false ∧ w.frozen? ⟨g2, 2, none⟩ = false ∧ w.frozen? ⟨g2, 3, none⟩ = false :=
  ⟨h.k2.lt, h.k2.cell 0, h.k2.cell 1, h.k2.cell 2, h.k2.cell 3, h.k2.frozen 0, h.k2.frozen 1, h.k2.frozen 2, h.k2.frozen 3⟩
/-- The cells of the three boxes, for a walk. -/
theorem Bx.cells (h : Bx g2 g4 g5 w0 w a b c d) :
    (g2 < w.heap.size ∧ w.cell? ⟨g2, 0, none⟩ = some a ∧ w.cell? ⟨g2, 1, none⟩ = some b ∧ w.cell? ⟨g2, 2, none⟩ = some c ∧ w.cell? ⟨g2, 3, none⟩ = some d ∧
      w.frozen? ⟨g2, 0, none⟩ = false ∧ w.frozen? ⟨g2, 1, none⟩ = false ∧ w.frozen? ⟨g2, 2, none⟩ = false ∧ w.frozen? ⟨g2, 3, none⟩ = false) ∧
    (g4 < w.heap.size ∧ w.cell? ⟨g4, 0, none⟩ = some (.int .u8 0) ∧ w.cell? ⟨g4, 1, none⟩ = some (.int .i64 0) ∧ w.cell? ⟨g4, 2, none⟩ = some (.int .i64 0) ∧ w.frozen? ⟨g4, 0, none⟩ = false ∧ w.frozen? ⟨g4, 1, none⟩ = false ∧ w.frozen? ⟨g4, 2, none⟩ = false) ∧
    (g5 < w.heap.size ∧ w.cell? ⟨g5, 0, none⟩ = some (.slice none 0 0) ∧ w.cell? ⟨g5, 1, none⟩ = some (.int .u32 0) ∧ w.cell? ⟨g5, 2, none⟩ = some (.int .u32 0) ∧ w.cell? ⟨g5, 3, none⟩ = some (.int .i64 0) ∧
      w.frozen? ⟨g5, 0, none⟩ = false ∧ w.frozen? ⟨g5, 1, none⟩ = false ∧ w.frozen? ⟨g5, 2, none⟩ = false ∧ w.frozen? ⟨g5, 3, none⟩ = false) ∧
    (g4 ≠ g5 ∧ g4 ≠ g2 ∧ g5 ≠ g2 ∧ g5 ≠ g4 ∧ g2 ≠ g4 ∧ g2 ≠ g5) :=
  ⟨h.cells2, ⟨h.k4.lt, h.k4.cell 0, h.k4.cell 1, h.k4.cell 2, h.k4.frozen 0, h.k4.frozen 1, h.k4.frozen 2⟩,
   ⟨h.k5.lt, h.k5.cell 0, h.k5.cell 1, h.k5.cell 2, h.k5.cell 3, h.k5.frozen 0, h.k5.frozen 1, h.k5.frozen 2, h.k5.frozen 3⟩, h.n45, h.n24, h.n25, h.n45.symm, h.n24.symm, h.n25.symm⟩
/-- The world at the end. -/
abbrev outW (w : World) (g4 g5 : Nat) (x y z a1 a2 a3 a4 : Value) : World :=
  (((((((w.setCell ⟨g4, 0, none⟩ x).setCell ⟨g4, 1, none⟩ y).setCell ⟨g4, 2, none⟩ z).setCell ⟨g5, 0, none⟩ a1).setCell ⟨g5, 1, none⟩ a2).setCell ⟨g5, 2, none⟩ a3).setCell ⟨g5, 3, none⟩ a4).drew
theorem Bx.out (h : Bx g2 g4 g5 w0 w a b c d) (x y z a1 a2 a3 a4 : Value) :
    Blk (outW w g4 g5 x y z a1 a2 a3 a4) g4 40 #[x, y, z] ∧ Blk (outW w g4 g5 x y z a1 a2 a3 a4) g5 60 #[a1, a2, a3, a4] ∧ Below w0.heap.size w0 (outW w g4 g5 x y z a1 a2 a3 a4) ∧
    ∀ (base n : Nat) (v : Value) (xs : List Value), w.ownsRow base 3 1 v n xs → (outW w g4 g5 x y z a1 a2 a3 a4).ownsRow base 3 1 v n xs := by
  have k4 : Blk (((w.setCell ⟨g4, 0, none⟩ x).setCell ⟨g4, 1, none⟩ y).setCell ⟨g4, 2, none⟩ z) g4 40 #[x, y, z] := h.k4.set3
  have k5 : Blk (((w.setCell ⟨g4, 0, none⟩ x).setCell ⟨g4, 1, none⟩ y).setCell ⟨g4, 2, none⟩ z) g5 60 #[.slice none 0 0, .int .u32 0, .int .u32 0, .int .i64 0] :=
    ((h.k5.far (p := ⟨g4, 0, none⟩) h.n45.symm x).far (p := ⟨g4, 1, none⟩) h.n45.symm y).far (p := ⟨g4, 2, none⟩) h.n45.symm z
  have bl : Below w0.heap.size w0 (((w.setCell ⟨g4, 0, none⟩ x).setCell ⟨g4, 1, none⟩ y).setCell ⟨g4, 2, none⟩ z) := ((h.below.setCell (p := ⟨g4, 0, none⟩) h.p4 x).setCell (p := ⟨g4, 1, none⟩) h.p4 y).setCell (p := ⟨g4, 2, none⟩) h.p4 z
  refine ⟨(set4_blk k4 h.n45).drew, k5.set4.drew, Below.drew (set4_below bl h.p5), fun base n v xs o => own_drew (set4_own ?_ k5 (by decide))⟩
  exact own_far (own_far (own_far o h.k4 (by decide) 0 x) (h.k4.set 0 x) (by decide) 1 y) ((h.k4.set 0 x).set 1 y) (by decide) 2 z
end
end Go.Proofs.Ytfihgjdppkiolaa
