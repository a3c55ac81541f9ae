import Derived.Test.YtjjamplgecioaaaDoorW9
namespace Go.Proofs.YtjjamplgecioaaaDoor
open Go.RowKit

theorem ret_st2 {fn : Func} {p u : Tmp} {R : Ending → World → Prop} {a : Act} {w : World} (h : fn.results = #[.cell p 24, .tmp u]) (g : Nat) (s : St) (v : Value)
    (hp : a.tmps.getD p undef = .pointer (some ⟨g, 0, none⟩)) (hu : a.tmps.getD u undef = v) (hg : Blk w g 24 (stC s)) (hd : a.defers = []) (hR : R (.returned (.tuple #[stV s, v])) w) : bodyPost Tryd.prog fn R .ret a w := by
  refine bodyPost_ret (v := .tuple #[stV s, v]) ?_ hd hR
  rw [results_cell_tmp h, hp, hu]
  have hl := run_loadVar_row (P := Tryd.prog) w g 24 24 (stC s) (0, 0) _ hg Tryd.underlying24 rfl size24
  simp [asAddr, Result.andThen, hl]
theorem zC_st : zC = stC zS := rfl

theorem Blk.set4 {w : World} {g : Nat} {t : TypeId} {a b c d x y z u : Value} (h : Blk w g t #[a, b, c, d]) : Blk ((((w.setCell ⟨g, 0, none⟩ x).setCell ⟨g, 1, none⟩ y).setCell ⟨g, 2, none⟩ z).setCell ⟨g, 3, none⟩ u) g t #[x, y, z, u] := by
  simpa using (((h.set 0 x).set 1 y).set 2 z).set 3 u
theorem below_set4 {B g : Nat} {a w : World} {x y z u : Value} (h : Below B a w) (hg : B ≤ g) : Below B a ((((w.setCell ⟨g, 0, none⟩ x).setCell ⟨g, 1, none⟩ y).setCell ⟨g, 2, none⟩ z).setCell ⟨g, 3, none⟩ u) :=
  (((h.setCell hg _).setCell hg _).setCell hg _).setCell hg _
end Go.Proofs.YtjjamplgecioaaaDoor
