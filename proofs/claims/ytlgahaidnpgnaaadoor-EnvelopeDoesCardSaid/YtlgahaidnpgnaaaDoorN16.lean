import Derived.Test.YtlgahaidnpgnaaaDoorN15
namespace Go.Proofs.YtlgahaidnpgnaaaDoor
open Go.RowKit

set_option maxHeartbeats 400000 in
theorem equal_any (lo hi lo' hi' : Nat) (v1 v2 : Value) (a b : List UInt8) (w : World) (h1 : Bs lo hi w v1 a) (h2 : Bs lo' hi' w v2 b) : Calls Tryd.prog 40 #[v1, v2] w fun e w' => e = .returned (.bool (decide (a = b))) ∧ w = w' := by
  have c1 := h1.convert
  have c2 := h2.convert
  clear h1 h2
  have hs := strU_eq a b
  go_enter Tryd.func40, Tryd.ntmps40
  go_wp2
  go_ret
  exact ⟨rfl, rfl⟩
/-- Are two boxes the same? -/
def sameX (x y : Bx) : Bool := decide (x.n = y.n) && sameS x.tag y.tag && decide (x.text = y.text)
theorem sameX_iff {x y : Bx} : sameX x y = true ↔ x = y := by
  cases x; cases y
  simp [sameX, sameS_iff]
  constructor
  · rintro ⟨⟨a, b⟩, c⟩; exact ⟨a, c, b⟩
  · rintro ⟨a, c, b⟩; exact ⟨⟨a, b⟩, c⟩
theorem n64_beq (a b : Nx) : (n64 a == n64 b) = decide (a = b) := by
  rw [Bool.eq_iff_iff, beq_iff_eq, decide_eq_true_iff]
  exact ⟨n64_inj, fun h => by rw [h]⟩
section
attribute [local go_sem] guard24
set_option maxHeartbeats 1000000 in
theorem Same_any (x y : Bx) (v u : Value) (w : World) (h : Bs 0 w.heap.size w v x.text) (h' : Bs 0 w.heap.size w u y.text) :
    Calls Tryd.prog 24 #[bxV x.n v x.tag, bxV y.n u y.tag] w fun e w' => e = .returned (.bool (sameX x y)) ∧ Below w.heap.size w w' := by
  obtain ⟨n, l, t⟩ := x
  obtain ⟨n', l', t'⟩ := y
  simp only [sameX] at *
  obtain ⟨A, c, rfl⟩ := h.form
  obtain ⟨A', c', rfl⟩ := h'.form
  have hb : Below w.heap.size w ((w.alloc (.cells (bxC n (.slice A l.length c) t) 30)).alloc (.cells (bxC n' (.slice A' l'.length c') t') 30)) := bl_alloc (bl_alloc (Below.refl _ _) _) _
  have X0 : Fx w ((w.alloc (.cells (bxC n (.slice A l.length c) t) 30)).alloc (.cells (bxC n' (.slice A' l'.length c') t') 30)) [(w.heap.size, 30, bxC n (.slice A l.length c) t), (w.heap.size + 1, 30, bxC n' (.slice A' l'.length c') t')] [] [(.slice A l.length c, l), (.slice A' l'.length c', l')] :=
    Fx.addZ (Fx.addZ (((Fx.nil w).newB w.heap.size rfl (bxC n (.slice A l.length c) t) 30).newB (w.heap.size + 1) (by simp) (bxC n' (.slice A' l'.length c') t') 30) (h.to hb)) (h'.to hb)
  have hq := fun W (h1 : Bs 0 W.heap.size W (.slice A l.length c) l) (h2 : Bs 0 W.heap.size W (.slice A' l'.length c') l') => equal_any _ _ _ _ _ _ _ _ W h1 h2
  have hE := fun W => eql_st W t t'
  have hN := n64_beq n n'
  generalize l.length = m at *
  generalize l'.length = m' at *
  generalize decide (l = l') = z3 at *
  generalize sameS t t' = z2 at *
  generalize decide (n = n') = z1 at *
  replace X0 := hide X0; replace hq := hide hq
  clear h h' hb
  go_enter Tryd.func24, Tryd.ntmps24
  go_upto_region 1 with (fail)
  generalize hW : World.alloc (World.alloc w _) _ = W at *
  clear hW
  have b0 : W.cell? ⟨w.heap.size, 0, none⟩ = some (u64v n) := ((unhide X0).get 0 rfl).cell 0
  have b1 : W.cell? ⟨w.heap.size, 1, none⟩ = some (.slice A m c) := ((unhide X0).get 0 rfl).cell 1
  have b2 : W.cell? ⟨w.heap.size, 2, none⟩ = some (u32v t.a) := ((unhide X0).get 0 rfl).cell 2
  have b3 : W.cell? ⟨w.heap.size, 3, none⟩ = some (u32v t.b) := ((unhide X0).get 0 rfl).cell 3
  have b4 : W.cell? ⟨w.heap.size, 4, none⟩ = some (u32v t.c) := ((unhide X0).get 0 rfl).cell 4
  have b5 : W.cell? ⟨w.heap.size, 5, none⟩ = some (u32v t.d) := ((unhide X0).get 0 rfl).cell 5
  have d0 : W.cell? ⟨w.heap.size + 1, 0, none⟩ = some (u64v n') := ((unhide X0).get 1 rfl).cell 0
  have d1 : W.cell? ⟨w.heap.size + 1, 1, none⟩ = some (.slice A' m' c') := ((unhide X0).get 1 rfl).cell 1
  have d2 : W.cell? ⟨w.heap.size + 1, 2, none⟩ = some (u32v t'.a) := ((unhide X0).get 1 rfl).cell 2
  have d3 : W.cell? ⟨w.heap.size + 1, 3, none⟩ = some (u32v t'.b) := ((unhide X0).get 1 rfl).cell 3
  have d4 : W.cell? ⟨w.heap.size + 1, 4, none⟩ = some (u32v t'.c) := ((unhide X0).get 1 rfl).cell 4
  have d5 : W.cell? ⟨w.heap.size + 1, 5, none⟩ = some (u32v t'.d) := ((unhide X0).get 1 rfl).cell 5
  cases z1
  · go_wp2_with (fail)
    go_ret
    exact ⟨rfl, (unhide X0).bl⟩
  · cases z2
    · go_wp2_with (fail)
      go_ret
      exact ⟨rfl, (unhide X0).bl⟩
    · go_wp2_with (go_at_call 40; refine (unhide hq _ ((unhide X0).rd 0 rfl) ((unhide X0).rd 1 rfl)).mono ?_; rintro e w1 ⟨rfl, rfl⟩)
      go_ret
      exact ⟨by simp, (unhide X0).bl⟩
end
end Go.Proofs.YtlgahaidnpgnaaaDoor
