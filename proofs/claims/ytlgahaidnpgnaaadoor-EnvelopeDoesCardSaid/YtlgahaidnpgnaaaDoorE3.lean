import Derived.Test.YtlgahaidnpgnaaaDoorE2
namespace Go.Proofs.YtlgahaidnpgnaaaDoor

/-! ### a number's eight octets, one by one -/
/-- The octet of a number at a place. -/
def oct8 (n : Nx) (i : Nat) : UInt8 := ⟨(n >>> (8 * i)).setWidth 8⟩
/-- The first 'k' octets. -/
def eightK (n : Nx) : Nat → List UInt8
  | 0 => []
  | k + 1 => eightK n k ++ [oct8 n k]
theorem eightK_len (n : Nx) (k : Nat) : (eightK n k).length = k := by
  induction k with
  | zero => rfl
  | succ k ih => rw [eightK, List.length_append, ih]; rfl
theorem lo_oct (n : Nx) (i : Nat) (h : i < 4) : (⟨(n.setWidth 32 >>> (8 * i)).setWidth 8⟩ : UInt8) = oct8 n i := by
  unfold oct8
  congr 1
  apply BitVec.eq_of_getLsbD_eq
  intro j hj
  have h1 : 8 * i + j < 32 := by omega
  simp only [BitVec.getLsbD_setWidth, BitVec.getLsbD_ushiftRight, hj, h1, decide_true, Bool.true_and]
theorem hi_oct (n : Nx) (i : Nat) (h : i < 4) : (⟨((n >>> 32).setWidth 32 >>> (8 * i)).setWidth 8⟩ : UInt8) = oct8 n (4 + i) := by
  unfold oct8
  congr 1
  apply BitVec.eq_of_getLsbD_eq
  intro j hj
  have h1 : 8 * i + j < 32 := by omega
  have h2 : 32 + (8 * i + j) = 8 * (4 + i) + j := by omega
  simp only [BitVec.getLsbD_setWidth, BitVec.getLsbD_ushiftRight, hj, h1, h2, decide_true, Bool.true_and]
theorem eightK_all (n : Nx) : eightK n 8 = eight n := by
  have l0 := lo_oct n 0 (by omega); have l1 := lo_oct n 1 (by omega); have l2 := lo_oct n 2 (by omega); have l3 := lo_oct n 3 (by omega)
  have h0 := hi_oct n 0 (by omega); have h1 := hi_oct n 1 (by omega); have h2 := hi_oct n 2 (by omega); have h3 := hi_oct n 3 (by omega)
  unfold eight oct
  simp only [eightK, List.nil_append, List.cons_append]
  simp only [Nat.mul_zero, Nat.mul_one, Nat.reduceMul, Nat.reduceAdd, BitVec.ushiftRight_zero, Nat.add_zero] at l0 l1 l2 l3 h0 h1 h2 h3
  rw [l0, l1, l2, l3, h0, h1, h2, h3]
/-- A number moved down by 'k' octets. -/
def shrK (n : Nx) (k : Nat) : Nx := n >>> (8 * k)
theorem shrK_zero (n : Nx) : shrK n 0 = n := by simp [shrK]
theorem shrK_succ (n : Nx) (k : Nat) : shrK n k >>> 8 = shrK n (k + 1) := by
  unfold shrK
  rw [← BitVec.shiftRight_add]; rfl
theorem shrK_oct (n : Nx) (k : Nat) : (⟨(shrK n k).setWidth 8⟩ : UInt8) = oct8 n k := rfl

/-! ### the number of eight octets, one by one -/
def oc8 (c : UInt8) : Nx := c.toBitVec.setWidth 64
/-- From the lowest one. -/
def numK (l : List UInt8) : Nat → Nx
  | 0 => 0#64
  | k + 1 => numK l k ||| oc8 (l.getD k 0) <<< (8 * k)
theorem oc_wide (c : UInt8) (k : Nat) (h : k ≤ 24) : (oc c <<< k).setWidth 64 = oc8 c <<< k := by
  unfold oc oc8
  apply BitVec.eq_of_getLsbD_eq
  intro i hi
  simp only [BitVec.getLsbD_setWidth, BitVec.getLsbD_shiftLeft]
  by_cases h8 : i - k < 8
  · have h1 : i < 32 := by omega
    have h2 : i - k < 32 := by omega
    have h3 : i - k < 64 := by omega
    simp [h1, h2, h3, hi]
  · have z : c.toBitVec.getLsbD (i - k) = false := BitVec.getLsbD_of_ge _ _ (by omega)
    simp [z]
theorem oc_wide0 (c : UInt8) : (oc c).setWidth 64 = oc8 c := by
  have := oc_wide c 0 (by omega)
  simpa using this
theorem four_wide (l : List UInt8) : (four l).setWidth 64 = oc8 (l.getD 0 0) ||| oc8 (l.getD 1 0) <<< 8 ||| oc8 (l.getD 2 0) <<< 16 ||| oc8 (l.getD 3 0) <<< 24 := by
  unfold four
  rw [BitVec.setWidth_or, BitVec.setWidth_or, BitVec.setWidth_or, oc_wide _ 8 (by omega), oc_wide _ 16 (by omega), oc_wide _ 24 (by omega), oc_wide0]
theorem getD_take4 (l : List UInt8) (i : Nat) (h : i < 4) : (l.take 4).getD i 0 = l.getD i 0 := by
  simp [List.getD_eq_getElem?_getD, h]
theorem getD_drop4 (l : List UInt8) (i : Nat) (h : i < 4) : ((l.drop 4).take 4).getD i 0 = l.getD (4 + i) 0 := by
  simp [List.getD_eq_getElem?_getD, List.getElem?_drop, h]
theorem numK_all (l : List UInt8) : numK l 8 = of8 l := by
  unfold of8
  rw [four_wide, four_wide, getD_take4 l 0 (by omega), getD_take4 l 1 (by omega), getD_take4 l 2 (by omega), getD_take4 l 3 (by omega),
    getD_drop4 l 0 (by omega), getD_drop4 l 1 (by omega), getD_drop4 l 2 (by omega), getD_drop4 l 3 (by omega)]
  simp only [BitVec.shiftLeft_or_distrib, ← BitVec.shiftLeft_add, numK, Nat.mul_zero, Nat.mul_one, Nat.reduceMul, Nat.reduceAdd, BitVec.shiftLeft_zero, BitVec.zero_or, BitVec.or_assoc, Nat.add_zero]
/-- From the greatest one: the last 'k' of eight octets. -/
def horK (l : List UInt8) : Nat → Nx
  | 0 => 0#64
  | k + 1 => 256#64 * horK l k + oc8 (l.getD (7 - k) 0)
theorem hor_step (x : Nx) (c : UInt8) : 256#64 * x + oc8 c = x <<< 8 ||| oc8 c := by
  have e : 256#64 * x = x <<< 8 := by
    rw [BitVec.mul_comm]
    have := BitVec.shiftLeft_eq_mul_twoPow x 8
    rw [this]; rfl
  rw [e]
  apply BitVec.add_eq_or_of_and_eq_zero
  apply BitVec.eq_of_getLsbD_eq
  intro i hi
  simp only [BitVec.getLsbD_and, BitVec.getLsbD_shiftLeft, oc8, BitVec.getLsbD_setWidth, BitVec.getLsbD_zero]
  by_cases h : i < 8
  · simp [h]
  · have z : c.toBitVec.getLsbD i = false := BitVec.getLsbD_of_ge _ _ (by omega)
    simp [z]
theorem horK_all (l : List UInt8) : horK l 8 = of8 l := by
  rw [← numK_all]
  simp only [horK, hor_step, numK, BitVec.shiftLeft_or_distrib, ← BitVec.shiftLeft_add, Nat.mul_zero, Nat.mul_one, Nat.reduceMul, Nat.reduceAdd, Nat.reduceSub, BitVec.shiftLeft_zero, BitVec.zero_or, BitVec.zero_shiftLeft, Nat.sub_zero, Nat.sub_self]
  generalize oc8 (l.getD 0 0) = c0, oc8 (l.getD 1 0) <<< 8 = c1, oc8 (l.getD 2 0) <<< 16 = c2, oc8 (l.getD 3 0) <<< 24 = c3, oc8 (l.getD 4 0) <<< 32 = c4, oc8 (l.getD 5 0) <<< 40 = c5, oc8 (l.getD 6 0) <<< 48 = c6, oc8 (l.getD 7 0) <<< 56 = c7
  ac_rfl
end Go.Proofs.YtlgahaidnpgnaaaDoor
