import Derived.Test.YthmhhgodjpgjnaaW65
namespace Go.Proofs.Ythmhhgodjpgjnaa
open Go.RowKit

theorem reads_law (n : Int) (v v' : Value) (t a : List Int) (lo lo' : Nat) (w : World) (h2 : Os lo w.heap.size w v t) (ht : okB t) (h3 : Is lo' w.heap.size w v' a) :
    Calls Try.prog 4 #[.int .i64 n, v, v'] w fun e w' => e = .returned (.bool true) ∧ Below w.heap.size w w' := by
  by_cases hg : 500 < t.length ∨ 300 < a.length ∨ (60 < n ∧ n ≤ 1024)
  · exact reads_gate n v v' t a lo lo' w h2 h3 hg
  · by_cases h : startE n t = 0
    · obtain ⟨n0, n1⟩ := newN_iff.1 (startE_iff.1 h).1
      obtain ⟨m, rfl⟩ : ∃ m : Nat, n = (m : Int) := ⟨n.toNat, by omega⟩
      exact reads_main m v v' t a lo lo' w h2 h3 ht (by omega) (by omega) (by omega) h
    · by_cases hn : n ≤ 60
      · exact reads_err n v v' t a lo lo' w h2 h3 ht (by omega) (by omega) hn h
      · exact reads_far n v v' t a lo lo' w h2 h3 ht (by omega) (by omega) (by omega) (by omega) h
end Go.Proofs.Ythmhhgodjpgjnaa
