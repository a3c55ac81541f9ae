import Derived.Test.YthmhhgodjpgjnaaW38
namespace Go.Proofs.Ythmhhgodjpgjnaa
open Go.RowKit
theorem apart_law (n : Int) (lo lo' : Nat) (v1 v2 : Value) (l m : List Bit) (w : World) (h1 : Bts lo w.heap.size w v1 l) (h2 : Bts lo' w.heap.size w v2 m) :
    Calls Try.prog 8 #[.int .i64 n, v1, v2] w fun e w' => e = .returned (.bool true) ∧ Below w.heap.size w w' := by
  by_cases hg : 200 < l.length ∨ l.length ≠ m.length ∨ 60 < n
  · exact apart_gate n v1 v2 l m lo lo' w h1 h2 hg
  · exact apart_main n v1 v2 l m lo lo' w h1 h2 (by omega) (by omega) (by omega)
end Go.Proofs.Ythmhhgodjpgjnaa
