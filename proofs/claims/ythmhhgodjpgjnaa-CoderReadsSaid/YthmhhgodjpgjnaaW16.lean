import Derived.Test.YthmhhgodjpgjnaaW1
import Derived.Laws.MathBits
namespace Go.Proofs.Ythmhhgodjpgjnaa
open Go.RowKit

set_option maxHeartbeats 1000000 in
theorem Mul64_one (n : Nat) (hn : n ≤ 1024) (w : World) : Calls Try.prog 48 #[.int .u64 1, .int .u64 n] w fun e w' => e = .returned (.tuple #[.int .u64 0, .int .u64 n]) ∧ w = w' := by
  have e0 : bits .and .u64 1 4294967295 = 1 := and_low32 1 (by omega) (by omega)
  have e1 : bits .and .u64 (n : Int) 4294967295 = n := (and_low32 n (by omega) (by omega)).trans (by omega)
  have e2 : (n : Int) / 4294967296 = 0 := by omega
  have e3 : IntKind.u64.wrap (n : Int) = n := by rw [IntKind.wrap_u64]; omega
  have e5 : bits .and .u64 0 4294967295 = 0 := and_low32 0 (by omega) (by omega)
  go_enter Try.func48, Try.ntmps48
  go_wp2
  go_ret2
  exact ⟨rfl, rfl⟩

set_option maxHeartbeats 1000000 in
theorem Mul_one (n : Nat) (hn : n ≤ 1024) (w : World) : Calls Try.prog 46 #[.int .u64 1, .int .u64 n] w fun e w' => e = .returned (.tuple #[.int .u64 0, .int .u64 n]) ∧ w = w' := by
  have h := fun W => Mul64_one n hn W
  replace h := hide h
  go_enter Try.func46, Try.ntmps46
  go_wp2_with (go_at_call 48; refine (unhide h _).mono ?_; rintro e w1 ⟨rfl, rfl⟩)
  go_ret2
  exact ⟨rfl, rfl⟩
end Go.Proofs.Ythmhhgodjpgjnaa
