import Derived.Test.YtlgahaidnpgnaaaDoorD3
import Derived.Test.YtlgahaidnpgnaaaDoorD4
namespace Go.Proofs.YtlgahaidnpgnaaaDoor
open Go.RowKit

theorem does_law (s : St) (n : Nx) (vb vx vy : Value) (b : List UInt8) (x y : Bx) (z : Int) (w : World) (ht : Tab w) (h : Bs 0 w.heap.size w vb b) (hx : Bs 0 w.heap.size w vx x.text) (hy : Bs 0 w.heap.size w vy y.text) :
    Calls Tryd.prog 3 #[rgV s n, vb, bxV x.n vx x.tag, bxV y.n vy y.tag, .int .i64 z] w fun e w' => e = .returned (.bool true) ∧ Below w.heap.size w w' := by
  cases hg : gateB b.length x.text.length y.text.length z with
  | true => exact does_gate s n vb vx vy b x y z w ht h hx hy hg
  | false => exact does_main s n vb vx vy b x y z w ht h hx hy hg
end Go.Proofs.YtlgahaidnpgnaaaDoor
