/- What comes of a register's bits, plain: nothing of the program. -/
import Derived.Test.YtplnnlepjooeoaaDoorE0
import Derived.Lib.TrailingZeros
namespace Go.Proofs.YtplnnlepjooeoaaDoor

/-- So many octets 0. -/
def itZ : Nat → Reg → Reg
  | 0, r => r
  | n + 1, r => itZ n (halfN 8 r)
theorem itZ_xor (n : Nat) : ∀ (a b : Reg), itZ n (a ^^^ b) = itZ n a ^^^ itZ n b := by
  induction n with
  | zero => intro a b; rfl
  | succ n ih => intro a b; simp only [itZ]; rw [halfN_xor, ih]
theorem itZ_add (m : Nat) : ∀ (n : Nat) (r : Reg), itZ (m + n) r = itZ m (itZ n r) := by
  intro n
  induction n with
  | zero => intro r; rfl
  | succ n ih => intro r; rw [← Nat.add_assoc]; simp only [itZ]; exact ih _
theorem stepR_xor : ∀ (b : List UInt8) (x y : Reg), stepR (x ^^^ y) b = stepR x b ^^^ itZ b.length y := by
  intro b
  induction b with
  | nil => intro x y; rfl
  | cons c b ih =>
    intro x y
    have h : step1 (x ^^^ y) c = step1 x c ^^^ halfN 8 y := by
      unfold step1
      rw [← halfN_xor]
      congr 1
      rw [BitVec.xor_assoc, BitVec.xor_comm y, ← BitVec.xor_assoc]
    rw [stepR_cons, stepR_cons, h, ih]
    rfl
theorem ones_not (q : Reg) : q = 4294967295#32 ^^^ ~~~ q := by
  have e : (4294967295#32 : Reg) = BitVec.allOnes 32 := by decide
  rw [e]
  ext i hi
  simp only [BitVec.getElem_xor, BitVec.getElem_not, BitVec.getElem_allOnes]
  cases q[i] <;> rfl
theorem sum_join (a b : List UInt8) : itZ b.length (sumR a) ^^^ sumR b = sumR (a ++ b) := by
  unfold sumR
  rw [stepR_append]
  have h := ones_not (stepR 4294967295#32 a)
  conv => rhs; rw [h]
  rw [stepR_xor]
  generalize itZ b.length (~~~ stepR 4294967295#32 a) = u
  generalize stepR 4294967295#32 b = v
  ext i hi
  simp only [BitVec.getElem_xor, BitVec.getElem_not]
  cases u[i] <;> cases v[i] <;> rfl

theorem low_nat (k m : Nat) : (2 ^ k * (2 * m + 1)) &&& (2 ^ k * (2 * m + 1) - 1) = 2 ^ (k + 1) * m ∧ (2 ^ (k + 1) * m) ^^^ 2 ^ k = 2 ^ k * (2 * m + 1) := by
  have hp : 0 < 2 ^ k := Nat.pow_pos (by omega)
  have e1 : 2 ^ k * (2 * m + 1) = 2 ^ (k + 1) * m + 2 ^ k := by rw [Nat.pow_succ, Nat.mul_add, Nat.mul_assoc]; omega
  have e2 : 2 ^ k * (2 * m + 1) - 1 = 2 ^ (k + 1) * m + (2 ^ k - 1) := by omega
  have l1 : 2 ^ k < 2 ^ (k + 1) := by rw [Nat.pow_succ]; omega
  have l2 : 2 ^ k - 1 < 2 ^ (k + 1) := by omega
  have z : 2 ^ (k + 1) * m = 2 ^ (k + 1) * m + 0 := rfl
  constructor
  · rw [e2, e1]
    apply Nat.eq_of_testBit_eq
    intro j
    rw [Nat.testBit_and, Nat.testBit_two_pow_mul_add _ l1, Nat.testBit_two_pow_mul_add _ l2, z, Nat.testBit_two_pow_mul_add _ (by omega : 0 < 2 ^ (k + 1))]
    by_cases hj : j < k + 1
    · simp only [hj, if_true]
      rw [Nat.testBit_two_pow, Nat.testBit_two_pow_sub_one]
      by_cases hk : k = j
      · subst hk; simp
      · simp [hk]
    · simp [hj]
  · rw [e1]
    apply Nat.eq_of_testBit_eq
    intro j
    rw [Nat.testBit_xor, Nat.testBit_two_pow_mul_add _ l1, z, Nat.testBit_two_pow_mul_add _ (by omega : 0 < 2 ^ (k + 1)), Nat.testBit_two_pow]
    by_cases hj : j < k + 1
    · simp [hj]
    · have : ¬ k = j := by omega
      simp [hj, this]

/-- The lowest bit that is set. -/
theorem low_bit (r : Reg) (h : r ≠ 0#32) : Lib.ctz 32 r.toNat < 32 ∧ (r &&& - r).toNat = 2 ^ Lib.ctz 32 r.toNat ∧ (r &&& (r - 1#32)) ^^^ (1#32 <<< Lib.ctz 32 r.toNat) = r ∧ (r &&& (r - 1#32)).toNat < r.toNat := by
  have h0 : r.toNat ≠ 0 := fun e => h (BitVec.eq_of_toNat_eq (by simpa using e))
  have hlt := r.isLt
  obtain ⟨h1, h2⟩ := Lib.lowest_bit 32 r.toNat h0 hlt
  obtain ⟨m, hm, _⟩ := Lib.ctzFrom_spec 32 r.toNat (by omega) hlt
  have e : Lib.ctz 32 r.toNat = Lib.ctzFrom 32 r.toNat := by simp [Lib.ctz, h0]
  rw [← e] at hm
  generalize Lib.ctz 32 r.toNat = k at *
  obtain ⟨n1, n2⟩ := low_nat k m
  rw [← hm] at n1 n2
  have hsub : (r - 1#32).toNat = r.toNat - 1 := by
    rw [BitVec.toNat_sub]
    simp
    omega
  have hand : (r &&& (r - 1#32)).toNat = 2 ^ (k + 1) * m := by rw [BitVec.toNat_and, hsub, n1]
  have hneg : (- r).toNat = 2 ^ 32 - r.toNat := by rw [BitVec.toNat_neg]; omega
  have hp : 0 < 2 ^ k := Nat.pow_pos (by omega)
  have hk2 : 2 ^ k < 2 ^ 32 := Nat.pow_lt_pow_right (by omega) h2
  refine ⟨h2, ?_, ?_, ?_⟩
  · rw [BitVec.toNat_and, hneg]; exact h1
  · apply BitVec.eq_of_toNat_eq
    rw [BitVec.toNat_xor, hand, BitVec.toNat_shiftLeft]
    have : (1#32).toNat <<< k % 2 ^ 32 = 2 ^ k := by
      rw [Nat.shiftLeft_eq]
      show 1 * 2 ^ k % 2 ^ 32 = 2 ^ k
      rw [Nat.one_mul, Nat.mod_eq_of_lt hk2]
    rw [this]
    exact n2
  · rw [hand]
    have : 2 ^ k * (2 * m + 1) = 2 ^ (k + 1) * m + 2 ^ k := by rw [Nat.pow_succ, Nat.mul_add, Nat.mul_assoc]; omega
    omega
end Go.Proofs.YtplnnlepjooeoaaDoor
