import Derived.Test.YtplnnlepjooeoaaW14
namespace Go.Proofs.Ytplnnlepjooeoaa
open Go.RowKit

theorem one_any (lo : Nat) (v x2 x3 x4 : Value) (l : List UInt8) (at_ : Int) (c : UInt8) (r s : Reg) (w : World) (h : Bs lo w.heap.size w v l) (e2 : x2 = u8v c) (e3 : x3 = u32v r) (e4 : x4 = u32v s) :
    Calls Try.prog 4 #[v, .int .i64 at_, x2, x3, x4] w fun e w' => e = .returned (.bool true) ∧ Below w.heap.size w w' := by
  by_cases hl : l.length ≤ 500
  · subst e2 e3 e4
    exact one_go lo v l at_ c r s w h hl
  · obtain ⟨A, ca, rfl, _⟩ := h
    exact one_gate A l.length ca _ _ _ _ w (by omega)
end Go.Proofs.Ytplnnlepjooeoaa
