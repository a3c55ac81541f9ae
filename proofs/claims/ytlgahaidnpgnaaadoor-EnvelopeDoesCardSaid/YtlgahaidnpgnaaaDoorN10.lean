import Derived.Test.YtlgahaidnpgnaaaDoorN9
namespace Go.Proofs.YtlgahaidnpgnaaaDoor
open Go.RowKit

/-! ### boxes and rings, by value and as cells -/
abbrev bxC (n : Nx) (v : Value) (t : St) : Array Value := #[u64v n, v, u32v t.a, u32v t.b, u32v t.c, u32v t.d]
abbrev bxV (n : Nx) (v : Value) (t : St) : Value := .agg (bxC n v t)
abbrev rgC (s : St) (n : Nx) : Array Value := #[u32v s.a, u32v s.b, u32v s.c, u32v s.d, u64v n]
abbrev rgV (s : St) (n : Nx) : Value := .agg (rgC s n)
abbrev zBx : Array Value := #[.int .u64 0, .slice none 0 0, .int .u32 0, .int .u32 0, .int .u32 0, .int .u32 0]
abbrev zRg : Array Value := #[.int .u32 0, .int .u32 0, .int .u32 0, .int .u32 0, .int .u64 0]
theorem size30 : (Tryd.prog.info? 30).map (·.size) = some 6 := by kernel_rfl
theorem size27 : (Tryd.prog.info? 27).map (·.size) = some 5 := by kernel_rfl
theorem ret_br3 {fn : Func} {p q u : Tmp} {R : Ending → World → Prop} {a : Act} {w : World} (h : fn.results = #[.cell p 30, .cell q 27, .tmp u]) (g g' : Nat) (cs ds : Array Value) (v : Value) (hcs : cs.size = 6) (hds : ds.size = 5)
    (hp : a.tmps.getD p undef = .pointer (some ⟨g, 0, none⟩)) (hq : a.tmps.getD q undef = .pointer (some ⟨g', 0, none⟩)) (hu : a.tmps.getD u undef = v) (hg : Blk w g 30 cs) (hg' : Blk w g' 27 ds) (hd : a.defers = []) (hR : R (.returned (.tuple #[.agg cs, .agg ds, v])) w) : bodyPost Tryd.prog fn R .ret a w := by
  refine bodyPost_ret (v := .tuple #[.agg cs, .agg ds, v]) ?_ hd hR
  have hl := run_loadVar_row (P := Tryd.prog) w g 30 30 cs (0, 0) _ hg Tryd.underlying30 rfl (by rw [hcs]; exact size30)
  have hl' := run_loadVar_row (P := Tryd.prog) w g' 27 27 ds (0, 0) _ hg' Tryd.underlying27 rfl (by rw [hds]; exact size27)
  have hp' : a.tmps[p]?.getD undef = .pointer (some ⟨g, 0, none⟩) := by simpa using hp
  have hq' : a.tmps[q]?.getD undef = .pointer (some ⟨g', 0, none⟩) := by simpa using hq
  have hu' : a.tmps[u]?.getD undef = v := by simpa using hu
  simp [results, h, hp', hq', hu', asAddr, Result.andThen, hl, hl']
theorem ret_b2 {fn : Func} {p u : Tmp} {R : Ending → World → Prop} {a : Act} {w : World} (h : fn.results = #[.cell p 30, .tmp u]) (g : Nat) (cs : Array Value) (v : Value) (hcs : cs.size = 6)
    (hp : a.tmps.getD p undef = .pointer (some ⟨g, 0, none⟩)) (hu : a.tmps.getD u undef = v) (hg : Blk w g 30 cs) (hd : a.defers = []) (hR : R (.returned (.tuple #[.agg cs, v])) w) : bodyPost Tryd.prog fn R .ret a w := by
  refine bodyPost_ret (v := .tuple #[.agg cs, v]) ?_ hd hR
  rw [results_cell_tmp h, hp, hu]
  have hl := run_loadVar_row (P := Tryd.prog) w g 30 30 cs (0, 0) _ hg Tryd.underlying30 rfl (by rw [hcs]; exact size30)
  simp [asAddr, Result.andThen, hl]
end Go.Proofs.YtlgahaidnpgnaaaDoor
