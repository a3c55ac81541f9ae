import Derived.Test.YtlgahaidnpgnaaaDoorN7
namespace Go.Proofs.YtlgahaidnpgnaaaDoor
open Go.RowKit

section
set_option maxHeartbeats 400000 in
theorem Stream18_neg (s : St) (n : Nx) (z : Int) (w : World) (hz : z < 0) :
    Calls Tryd.prog 18 #[stV s, u64v n, .int .i64 z] w fun e w' => e = .returned (.tuple #[.slice none 0 0, .int .i64 1]) ∧ Below w.heap.size w w' := by
  go_enter Tryd.func18, Tryd.ntmps18
  go_wp2
  go_ret2
  exact ⟨rfl, by (repeat (first | with_reducible exact Below.refl _ _ | with_reducible assumption | with_reducible refine Below.drew ?_ | with_reducible refine bl_alloc ?_ _ | with_reducible refine bl_call ?_ (by assumption) | (focus (with_reducible refine Below.setCell ?_ ?_ _; rotate_left; focus (first | omega | (simp <;> omega)))) | fail))⟩
set_option maxHeartbeats 400000 in
theorem Stream18_long (s : St) (n : Nx) (z : Int) (w : World) (hz : 65536 < z) :
    Calls Tryd.prog 18 #[stV s, u64v n, .int .i64 z] w fun e w' => e = .returned (.tuple #[.slice none 0 0, .int .i64 3]) ∧ Below w.heap.size w w' := by
  go_enter Tryd.func18, Tryd.ntmps18
  go_wp2
  go_ret2
  exact ⟨rfl, by (repeat (first | with_reducible exact Below.refl _ _ | with_reducible assumption | with_reducible refine Below.drew ?_ | with_reducible refine bl_alloc ?_ _ | with_reducible refine bl_call ?_ (by assumption) | (focus (with_reducible refine Below.setCell ?_ ?_ _; rotate_left; focus (first | omega | (simp <;> omega)))) | fail))⟩
set_option maxHeartbeats 400000 in
theorem Stream19_neg (s : St) (n : Nx) (z : Int) (w : World) (hz : z < 0) :
    Calls Tryd.prog 19 #[stV s, u64v n, .int .i64 z] w fun e w' => e = .returned (.tuple #[.slice none 0 0, .int .i64 1]) ∧ Below w.heap.size w w' := by
  go_enter Tryd.func19, Tryd.ntmps19
  go_wp2
  go_ret2
  exact ⟨rfl, by (repeat (first | with_reducible exact Below.refl _ _ | with_reducible assumption | with_reducible refine Below.drew ?_ | with_reducible refine bl_alloc ?_ _ | with_reducible refine bl_call ?_ (by assumption) | (focus (with_reducible refine Below.setCell ?_ ?_ _; rotate_left; focus (first | omega | (simp <;> omega)))) | fail))⟩
set_option maxHeartbeats 400000 in
theorem Stream19_long (s : St) (n : Nx) (z : Int) (w : World) (hz : 65536 < z) :
    Calls Tryd.prog 19 #[stV s, u64v n, .int .i64 z] w fun e w' => e = .returned (.tuple #[.slice none 0 0, .int .i64 3]) ∧ Below w.heap.size w w' := by
  go_enter Tryd.func19, Tryd.ntmps19
  go_wp2
  go_ret2
  exact ⟨rfl, by (repeat (first | with_reducible exact Below.refl _ _ | with_reducible assumption | with_reducible refine Below.drew ?_ | with_reducible refine bl_alloc ?_ _ | with_reducible refine bl_call ?_ (by assumption) | (focus (with_reducible refine Below.setCell ?_ ?_ _; rotate_left; focus (first | omega | (simp <;> omega)))) | fail))⟩
set_option maxHeartbeats 400000 in
theorem Tag20_long (lo : Nat) (s : St) (n : Nx) (v : Value) (l : List UInt8) (w : World) (h : Bs lo w.heap.size w v l) (hl : 65536 < l.length) :
    Calls Tryd.prog 20 #[stV s, u64v n, v] w fun e w' => e = .returned (.tuple #[stV zS, .int .i64 3]) ∧ Below w.heap.size w w' := by
  obtain ⟨A, c, rfl, _⟩ := h
  have h1 : (65536 : Int) < (l.length : Int) := by omega
  have hZ : Blk ((w.alloc (.cells (stC s) 24)).alloc (.cells zC 24)) (w.heap.size + 1) 24 zC := Blk.new (by simp)
  have hb : Below w.heap.size w ((w.alloc (.cells (stC s) 24)).alloc (.cells zC 24)) := bl_alloc (bl_alloc (Below.refl _ _) _) _
  replace hZ := hide hZ; replace hb := hide hb
  clear hl
  go_enter Tryd.func20, Tryd.ntmps20
  go_wp2_with (first
    | (refine wpList_store_row rfl 24 (.tmp 6) (.tmp 11) rfl (w.heap.size + 1) zC rfl rfl 24 zC (unhide hZ) size24 rfl (stC_one zS) ?_)
    | fail)
  exact ret_st2 rfl (w.heap.size + 1) zS _ rfl rfl ((unhide hZ).row _) rfl ⟨rfl, bl_row (unhide hb) _ (by omega)⟩
set_option maxHeartbeats 400000 in
theorem Tag21_long (lo : Nat) (s : St) (n : Nx) (v : Value) (l : List UInt8) (w : World) (h : Bs lo w.heap.size w v l) (hl : 65536 < l.length) :
    Calls Tryd.prog 21 #[stV s, u64v n, v] w fun e w' => e = .returned (.tuple #[stV zS, .int .i64 3]) ∧ Below w.heap.size w w' := by
  obtain ⟨A, c, rfl, _⟩ := h
  have h1 : (65536 : Int) < (l.length : Int) := by omega
  have hZ : Blk ((w.alloc (.cells (stC s) 24)).alloc (.cells zC 24)) (w.heap.size + 1) 24 zC := Blk.new (by simp)
  have hb : Below w.heap.size w ((w.alloc (.cells (stC s) 24)).alloc (.cells zC 24)) := bl_alloc (bl_alloc (Below.refl _ _) _) _
  replace hZ := hide hZ; replace hb := hide hb
  clear hl
  go_enter Tryd.func21, Tryd.ntmps21
  go_wp2_with (first
    | (refine wpList_store_row rfl 24 (.tmp 6) (.tmp 11) rfl (w.heap.size + 1) zC rfl rfl 24 zC (unhide hZ) size24 rfl (stC_one zS) ?_)
    | fail)
  exact ret_st2 rfl (w.heap.size + 1) zS _ rfl rfl ((unhide hZ).row _) rfl ⟨rfl, bl_row (unhide hb) _ (by omega)⟩
end
end Go.Proofs.YtlgahaidnpgnaaaDoor
