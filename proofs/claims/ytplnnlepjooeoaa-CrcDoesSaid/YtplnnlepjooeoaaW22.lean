import Derived.Test.YtplnnlepjooeoaaW21
namespace Go.Proofs.Ytplnnlepjooeoaa
open Go.RowKit
theorem does_any (lo : Nat) (x1 v : Value) (r : Reg) (l : List UInt8) (w : World) (e1 : x1 = u32v r) (h : Bs lo w.heap.size w v l) :
    Calls Try.prog 3 #[x1, v] w fun e w' => e = .returned (.bool true) ∧ Below w.heap.size w w' := by
  subst e1
  by_cases hl : l.length ≤ 500
  · exact does_go lo r v l w h hl
  · obtain ⟨A, ca, rfl, _⟩ := h
    exact does_gate _ A l.length ca w (by omega)
end Go.Proofs.Ytplnnlepjooeoaa
