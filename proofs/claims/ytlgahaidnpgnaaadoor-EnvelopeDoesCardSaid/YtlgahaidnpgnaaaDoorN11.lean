import Derived.Test.YtlgahaidnpgnaaaDoorN10
namespace Go.Proofs.YtlgahaidnpgnaaaDoor
open Go.RowKit

theorem bx_one {n : Nx} {A : Option Addr} {m c : Nat} {t : St} : (bxC n (.slice A m c) t).all (·.oneCell') = true := by simp [Value.oneCell']
theorem rg_one {s : St} {n : Nx} : (rgC s n).all (·.oneCell') = true := by simp [Value.oneCell']
theorem zbx_one : zBx.all (·.oneCell') = true := by simp [Value.oneCell']
theorem zrg_one : zRg.all (·.oneCell') = true := by simp [Value.oneCell']
theorem bl_row2 {B g g' : Nat} {a w : World} (h : Below B a w) (C C' : Array Value) (hg : B ≤ g) (hg' : B ≤ g') : Below B a ((w.setRow g C).setRow g' C') := bl_row (bl_row h C hg) C' hg'
set_option maxHeartbeats 1000000 in
theorem Seal_long (lo : Nat) (s : St) (n : Nx) (v : Value) (l : List UInt8) (w : World) (h : Bs lo w.heap.size w v l) (hl : 65536 < l.length) :
    Calls Tryd.prog 10 #[rgV s n, v] w fun e w' => e = .returned (.tuple #[.agg zBx, .agg zRg, .int .i64 3]) ∧ Below w.heap.size w w' := by
  obtain ⟨A, c, rfl⟩ := h.form
  have h1 : (65536 : Int) < (l.length : Int) := by omega
  have X0 : Fx w (((w.alloc (.cells (rgC s n) 27)).alloc (.cells zBx 30)).alloc (.cells zRg 27)) [(w.heap.size, 27, rgC s n), (w.heap.size + 1, 30, zBx), (w.heap.size + 1 + 1, 27, zRg)] [] [] := (((Fx.nil w).newB w.heap.size rfl (rgC s n) 27).newB (w.heap.size + 1) (by simp) zBx 30).newB (w.heap.size + 1 + 1) (by simp) zRg 27
  replace X0 := hide X0
  clear h hl
  go_enter Tryd.func10, Tryd.ntmps10
  go_upto_region 1 with (fail)
  generalize hW : World.alloc (World.alloc (World.alloc w _) _) _ = W at *
  clear hW
  have B1 := (unhide X0).get 1 rfl
  have B2 := (unhide X0).get 2 rfl
  have hb := (unhide X0).bl
  have B2' : Blk (W.setRow (w.heap.size + 1) zBx) (w.heap.size + 1 + 1) 27 zRg := B2.row_other zBx (by omega)
  have F1 : Blk ((W.setRow (w.heap.size + 1) zBx).setRow (w.heap.size + 1 + 1) zRg) (w.heap.size + 1) 30 zBx := (B1.row zBx).row_other zRg (by omega)
  have F2 : Blk ((W.setRow (w.heap.size + 1) zBx).setRow (w.heap.size + 1 + 1) zRg) (w.heap.size + 1 + 1) 27 zRg := B2'.row zRg
  replace B1 := hide B1; replace B2' := hide B2'; replace F1 := hide F1; replace F2 := hide F2; replace hb := hide hb
  clear B2
  go_wp2_with (first
    | (refine wpList_store_row rfl 30 (.tmp 4) (.tmp 14) rfl (w.heap.size + 1) zBx rfl rfl 30 zBx (unhide B1) size30 rfl zbx_one ?_)
    | (refine wpList_store_row rfl 27 (.tmp 5) (.tmp 15) rfl (w.heap.size + 1 + 1) zRg rfl rfl 27 zRg (unhide B2') size27 rfl zrg_one ?_)
    | fail)
  exact ret_br3 rfl (w.heap.size + 1) (w.heap.size + 1 + 1) zBx zRg (.int .i64 3) rfl rfl rfl rfl rfl (unhide F1) (unhide F2) rfl ⟨rfl, bl_row2 (unhide hb) _ _ (by omega) (by omega)⟩
theorem full_eq : n64 18446744073709551615#64 = (18446744073709551615 : Int) := by decide
theorem full_ne {n : Nx} (h : n ≠ 18446744073709551615#64) : ¬ n64 n = (18446744073709551615 : Int) := by
  intro e
  rw [← full_eq] at e
  exact h (n64_inj e)
set_option maxHeartbeats 1000000 in
theorem Seal_full (lo : Nat) (s : St) (v : Value) (l : List UInt8) (w : World) (h : Bs lo w.heap.size w v l) (hl : l.length ≤ 65536) :
    Calls Tryd.prog 10 #[rgV s 18446744073709551615#64, v] w fun e w' => e = .returned (.tuple #[.agg zBx, .agg zRg, .int .i64 6]) ∧ Below w.heap.size w w' := by
  obtain ⟨A, c, rfl⟩ := h.form
  have h1 : ¬ (65536 : Int) < (l.length : Int) := by omega
  have hf := full_eq
  generalize (18446744073709551615#64 : Nx) = n at *
  have X0 : Fx w (((w.alloc (.cells (rgC s n) 27)).alloc (.cells zBx 30)).alloc (.cells zRg 27)) [(w.heap.size, 27, rgC s n), (w.heap.size + 1, 30, zBx), (w.heap.size + 1 + 1, 27, zRg)] [] [] := (((Fx.nil w).newB w.heap.size rfl (rgC s n) 27).newB (w.heap.size + 1) (by simp) zBx 30).newB (w.heap.size + 1 + 1) (by simp) zRg 27
  replace X0 := hide X0
  clear h hl
  go_enter Tryd.func10, Tryd.ntmps10
  go_upto_region 1 with (fail)
  generalize hW : World.alloc (World.alloc (World.alloc w _) _) _ = W at *
  clear hW
  have c4 : W.cell? ⟨w.heap.size, 4, none⟩ = some (u64v n) := ((unhide X0).get 0 rfl).cell 4
  have B1 := (unhide X0).get 1 rfl
  have B2 := (unhide X0).get 2 rfl
  have hb := (unhide X0).bl
  have B2' : Blk (W.setRow (w.heap.size + 1) zBx) (w.heap.size + 1 + 1) 27 zRg := B2.row_other zBx (by omega)
  have F1 : Blk ((W.setRow (w.heap.size + 1) zBx).setRow (w.heap.size + 1 + 1) zRg) (w.heap.size + 1) 30 zBx := (B1.row zBx).row_other zRg (by omega)
  have F2 : Blk ((W.setRow (w.heap.size + 1) zBx).setRow (w.heap.size + 1 + 1) zRg) (w.heap.size + 1 + 1) 27 zRg := B2'.row zRg
  replace B1 := hide B1; replace B2' := hide B2'; replace F1 := hide F1; replace F2 := hide F2; replace hb := hide hb
  clear B2
  go_wp2_with (first
    | (refine wpList_store_row rfl 30 (.tmp 4) (.tmp 19) rfl (w.heap.size + 1) zBx rfl rfl 30 zBx (unhide B1) size30 rfl zbx_one ?_)
    | (refine wpList_store_row rfl 27 (.tmp 5) (.tmp 20) rfl (w.heap.size + 1 + 1) zRg rfl rfl 27 zRg (unhide B2') size27 rfl zrg_one ?_)
    | fail)
  exact ret_br3 rfl (w.heap.size + 1) (w.heap.size + 1 + 1) zBx zRg (.int .i64 6) rfl rfl rfl rfl rfl (unhide F1) (unhide F2) rfl ⟨rfl, bl_row2 (unhide hb) _ _ (by omega) (by omega)⟩
end Go.Proofs.YtlgahaidnpgnaaaDoor
