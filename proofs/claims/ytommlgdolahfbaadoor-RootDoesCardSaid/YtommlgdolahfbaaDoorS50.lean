import Derived.Test.YtommlgdolahfbaaDoorW25
namespace Go.Proofs.YtommlgdolahfbaaDoor
set_option maxRecDepth 100000
open Go.RowKit

deriving instance DecidableEq for Pg
deriving instance DecidableEq for Dk

theorem Pg.eq {p q : Pg} (h1 : p.at_ = q.at_) (h2 : p.b = q.b) : p = q := by cases p; cases q; simp_all
theorem Dk.eq {p q : Dk} (h1 : p.dry = q.dry) (h2 : p.wet = q.wet) (h3 : p.left = q.left) : p = q := by cases p; cases q; simp_all
/-- Are two disks the same? -/
def sameD (a b : Dk) : Bool := decide (a = b)
theorem sameD_parts (a b : Dk) : sameD a b = (decide (a.left = b.left) && decide (a.dry = b.dry) && decide (a.wet = b.wet)) := by
  unfold sameD
  rw [Bool.eq_iff_iff]
  simp only [Bool.and_eq_true, decide_eq_true_eq]
  constructor
  · rintro rfl; exact ⟨⟨rfl, rfl⟩, rfl⟩
  · rintro ⟨⟨h1, h2⟩, h3⟩; exact Dk.eq h2 h3 h1

end Go.Proofs.YtommlgdolahfbaaDoor
