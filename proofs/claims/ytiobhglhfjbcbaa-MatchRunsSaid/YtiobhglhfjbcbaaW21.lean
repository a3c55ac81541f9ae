import Derived.Test.YtiobhglhfjbcbaaW20
namespace Go.Proofs.Ytiobhglhfjbcbaa
open Go.RowKit
theorem runs_any (v : Value) (c : UInt8) (n : Int) (w : World) (hv : v = u8v c) : Calls Try.prog 9 #[v, .int .i64 n] w fun e w' => e = .returned (.bool true) ∧ Below w.heap.size w w' := by
  subst hv
  by_cases hg : 1 ≤ n ∧ n ≤ 300
  · obtain ⟨k, rfl⟩ : ∃ k : Nat, n = k := ⟨n.toNat, by omega⟩
    exact runs_main c k w (by omega) (by omega)
  · exact runs_gate c n w hg
end Go.Proofs.Ytiobhglhfjbcbaa
