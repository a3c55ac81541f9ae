import Derived.Test.YthmhhgodjpgjnaaW51
namespace Go.Proofs.Ythmhhgodjpgjnaa
open Go.RowKit

theorem results_tct {fn : Func} {t p u : Tmp} {ty : TypeId} (h : fn.results = #[.tmp t, .cell p ty, .tmp u]) (tmps : Array Value) (P : Program) (w : World) :
    (results fn tmps).run P w =
      ((asAddr (tmps.getD p undef)).run P w).andThen fun a w₁ => ((loadVar ty a).run P w₁).andThen fun v w₂ => .ok (.tuple #[tmps.getD t undef, v, tmps.getD u undef]) w₂ := by
  simp only [results, h]
  simp [Sem.run_bind, Result.andThen]
theorem ret_nx {fn : Func} {s p u : Tmp} {R : Ending → World → Prop} {a : Act} {w : World} (h : fn.results = #[.tmp s, .cell p 40, .tmp u]) (g : Nat) (x y z t : Value) (q v : Value)
    (hp : a.tmps.getD p undef = .pointer (some ⟨g, 0, none⟩)) (hs : a.tmps.getD s undef = q) (hu : a.tmps.getD u undef = v) (hg : Blk w g 40 #[x, y, z, t]) (hd : a.defers = []) (hR : R (.returned (.tuple #[q, .agg #[x, y, z, t], v])) w) : bodyPost Try.prog fn R .ret a w := by
  refine bodyPost_ret (v := .tuple #[q, .agg #[x, y, z, t], v]) ?_ hd hR
  rw [results_tct h, hp, hs, hu]
  have hl := run_loadVar_row (P := Try.prog) w g 40 40 #[x, y, z, t] (0, 0) _ hg Try.underlying40 rfl ((by kernel_rfl : (Try.prog.info? 40).map (·.size) = some 4))
  simp [asAddr, Result.andThen, hl]

set_option maxHeartbeats 2000000 in
theorem refNext_none (lo : Nat) (v v' : Value) (i : Int) (r : Rdr) (w : World) (hv : RgO lo w v r) (hi : ¬ (0 ≤ i ∧ i < r.c.length)) :
    Calls Try.prog 20 #[v, v', .int .i64 i] w fun e w' => ∃ v', e = .returned (.tuple #[.bool false, v', .int .i64 4]) ∧ RgO lo w' v' r ∧ Below w.heap.size w w' := by
  obtain ⟨A, c, rfl, hI⟩ := hv
  have hfin := fun W (hb : Below w.heap.size w W) => own_below hI hb (Nat.le_refl _)
  clear hI
  replace hfin := hide hfin
  by_cases h0 : i < 0
  · have d0 : decide (i < 0) = true := by simpa using h0
    clear hi h0
    go_enter Try.func20, Try.ntmps20
    go_wp2_with fail
    go_region
    all_goals go_wp2_with fail
    all_goals
      refine ret_nx rfl (w.heap.size + 1) (.slice A r.c.length c) (.int .u32 r.span) (.int .u32 r.code) (.int .i64 r.used) (.bool false) (.int .i64 4) rfl rfl rfl (by first | exact (Blk.new (by simp)).drew | exact Blk.new (by simp)) rfl ?_
      exact ⟨_, rfl, ⟨A, c, rfl, unhide hfin _ (by (repeat (first | with_reducible exact Below.refl _ _ | with_reducible assumption | with_reducible refine Below.drew ?_ | with_reducible refine bl_alloc ?_ _ | with_reducible refine bl_call ?_ (by assumption) | (focus (with_reducible refine Below.setCell ?_ ?_ _; rotate_left; focus (first | omega | (simp <;> omega)))) | fail)))⟩, by (repeat (first | with_reducible exact Below.refl _ _ | with_reducible assumption | with_reducible refine Below.drew ?_ | with_reducible refine bl_alloc ?_ _ | with_reducible refine bl_call ?_ (by assumption) | (focus (with_reducible refine Below.setCell ?_ ?_ _; rotate_left; focus (first | omega | (simp <;> omega)))) | fail))⟩
  · have d0 : decide (i < 0) = false := by simpa using h0
    have d1 : decide ((r.c.length : Int) ≤ i) = true := by simp; omega
    clear hi h0
    go_enter Try.func20, Try.ntmps20
    go_wp2_with fail
    go_region
    all_goals go_wp2_with fail
    all_goals
      refine ret_nx rfl (w.heap.size + 1) (.slice A r.c.length c) (.int .u32 r.span) (.int .u32 r.code) (.int .i64 r.used) (.bool false) (.int .i64 4) rfl rfl rfl (by first | exact (Blk.new (by simp)).drew | exact Blk.new (by simp)) rfl ?_
      exact ⟨_, rfl, ⟨A, c, rfl, unhide hfin _ (by (repeat (first | with_reducible exact Below.refl _ _ | with_reducible assumption | with_reducible refine Below.drew ?_ | with_reducible refine bl_alloc ?_ _ | with_reducible refine bl_call ?_ (by assumption) | (focus (with_reducible refine Below.setCell ?_ ?_ _; rotate_left; focus (first | omega | (simp <;> omega)))) | fail)))⟩, by (repeat (first | with_reducible exact Below.refl _ _ | with_reducible assumption | with_reducible refine Below.drew ?_ | with_reducible refine bl_alloc ?_ _ | with_reducible refine bl_call ?_ (by assumption) | (focus (with_reducible refine Below.setCell ?_ ?_ _; rotate_left; focus (first | omega | (simp <;> omega)))) | fail))⟩
end Go.Proofs.Ythmhhgodjpgjnaa
