import Derived.Test.YtlgahaidnpgnaaaDoorN17
namespace Go.Proofs.YtlgahaidnpgnaaaDoor
open Go.RowKit

/-- The slice value 'v' reads as the texts 'l'. -/
def Bss (hi : Nat) (w : World) (v : Value) (l : List (List UInt8)) : Prop :=
  ∃ A c, v = .slice A l.length c ∧ ∀ i x, l[i]? = some x → ∃ b off Ai ci, A = some ⟨b, off, none⟩ ∧ b < hi ∧ w.cell? ⟨b, off + i, none⟩ = some (.slice Ai x.length ci) ∧ Bs 0 hi w (.slice Ai x.length ci) x
/-- A number, and some more. -/
def upN (n : Nx) (k : Nat) : Nx := n + BitVec.ofNat 64 k
theorem upN_zero (n : Nx) : upN n 0 = n := by simp [upN]
theorem upN_succ (n : Nx) (k : Nat) : upN n k + 1#64 = upN n (k + 1) := by
  unfold upN
  rw [BitVec.add_assoc, ← BitVec.ofNat_add]
theorem upN_wrap (n : Nx) (k : Nat) (h : k < 18446744073709551616) : IntKind.u64.wrap (n64 n + (k : Int)) = n64 (upN n k) := by
  rw [n64_lit k h, IntKind.wrap_u64]
  exact q_add n _
theorem upN_mod (n : Nx) (k : Nat) (h : k < 18446744073709551616) : (n64 n + (k : Int)) % 18446744073709551616 = n64 (upN n k) := by
  rw [n64_lit k h]
  exact q_add n _
theorem upN_ne (n : Nx) (k : Nat) (h : n64 n ≤ 4611686018427387904) (hk : k ≤ 20) : upN n k ≠ 18446744073709551615#64 := by
  intro e
  have := upN_mod n k (by omega)
  rw [e, full_eq] at this
  have h0 : 0 ≤ n64 n := by unfold n64; omega
  omega
end Go.Proofs.YtlgahaidnpgnaaaDoor
