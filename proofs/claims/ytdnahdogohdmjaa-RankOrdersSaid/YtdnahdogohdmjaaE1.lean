import Derived.Test.YtdnahdogohdmjaaE0
namespace Go.Proofs.Ytdnahdogohdmjaa
open Ieee

theorem signed_sg (s : Bool) (m k : Nat) : signed s m k = sg s (m * 2 ^ k) := by
  unfold signed sg; rw [Nat.shiftLeft_eq]
theorem sg_mul (s : Bool) (x k : Nat) : sg s (x * k) = sg s x * (k : Int) := by
  unfold sg; cases s <;> simp [Int.natCast_mul, Int.neg_mul]
theorem mul_pos_lt {x y : Int} {k : Nat} (hk : 0 < k) : x * (k : Int) < y * (k : Int) ↔ x < y :=
  ⟨fun h => Int.lt_of_mul_lt_mul_right h (by omega), fun h => Int.mul_lt_mul_of_pos_right h (by omega)⟩
theorem mul_pos_eq {x y : Int} {k : Nat} (hk : 0 < k) : x * (k : Int) = y * (k : Int) ↔ x = y := by
  have h1 := @mul_pos_lt x y k hk
  have h2 := @mul_pos_lt y x k hk
  omega
/-- A number with its place above the least. -/
theorem sg_place (s : Bool) (r p : Nat) (hp : p ≤ pp r) : sg s (mm r * 2 ^ (pp r - p)) * ((2 ^ p : Nat) : Int) = sg s (mg r) := by
  rw [← sg_mul, Nat.mul_assoc, ← Nat.pow_add, Nat.sub_add_cancel hp]; rfl
theorem toNat_place (p q : Nat) : ((-1074 + (p : Int)) - min (-1074 + (p : Int)) (-1074 + (q : Int))).toNat = p - min p q := by omega
theorem toNat_place' (p q : Nat) : ((-1074 + (q : Int)) - min (-1074 + (p : Int)) (-1074 + (q : Int))).toNat = q - min p q := by omega

theorem order_num {a b : Nat} (ha : rng a < infR) (hb : rng b < infR) : double.order a b = some (compare (sr a) (sr b)) := by
  unfold Format.order
  rw [read_num ha, read_num hb]
  simp only [Datum.order]
  rw [toNat_place, toNat_place', signed_sg, signed_sg]
  congr 1
  have hp : 0 < 2 ^ min (pp (rng a)) (pp (rng b)) := Nat.two_pow_pos _
  have e1 := sg_place (sgn a) (rng a) _ (Nat.min_le_left (pp (rng a)) (pp (rng b)))
  have e2 := sg_place (sgn b) (rng b) _ (Nat.min_le_right (pp (rng a)) (pp (rng b)))
  refine cmp_same ?_ ?_
  · rw [← mul_pos_lt hp, e1, e2]; exact sv_lt a b
  · rw [← mul_pos_eq hp, e1, e2]; exact sv_eq a b

theorem sg_bound (s : Bool) {r u : Nat} (h : r ≤ u) : -(u : Int) ≤ sg s r ∧ sg s r ≤ u := by unfold sg; split <;> omega
theorem sgb (s : Bool) (r : Nat) : sg s r = r ∧ s = false ∨ sg s r = -(r : Int) ∧ s = true := by unfold sg; cases s <;> simp

theorem cmp_l {x y : Int} (h : x < y) : compare x y = .lt := by rw [Int.compare_eq_ite_lt, if_pos h]
theorem cmp_g {x y : Int} (h : y < x) : compare x y = .gt := by rw [Int.compare_eq_ite_lt, if_neg (by omega), if_pos h]
theorem sr_fin {a : Nat} (h : rng a < infR) : -(infR : Int) < sr a ∧ sr a < (infR : Int) := by
  have h1 := sgb (sgn a) (rng a)
  have h0 : sr a = sg (sgn a) (rng a) := rfl
  simp only [infR] at *
  omega
theorem sr_inf {a : Nat} (h : rng a = infR) : sr a = if sgn a then -(infR : Int) else (infR : Int) := by unfold sr sg; rw [h]
theorem order_some {a b : Nat} (ha : rng a ≤ infR) (hb : rng b ≤ infR) : double.order a b = some (compare (sr a) (sr b)) := by
  rcases Nat.lt_or_ge (rng a) infR with h1 | h1
  · rcases Nat.lt_or_ge (rng b) infR with h2 | h2
    · exact order_num h1 h2
    · have e2 : rng b = infR := by omega
      unfold Format.order
      rw [read_num h1, read_inf e2]
      show some (if sgn b = true then Ordering.gt else .lt) = _
      have e := sr_inf e2
      obtain ⟨l1, l2⟩ := sr_fin h1
      cases h : sgn b
      · rw [h, if_neg (by decide)] at e; rw [e, cmp_l l2]; rfl
      · rw [h, if_pos rfl] at e; rw [e, cmp_g l1]; rfl
  · have e1 : rng a = infR := by omega
    rcases Nat.lt_or_ge (rng b) infR with h2 | h2
    · unfold Format.order
      rw [read_num h2, read_inf e1]
      show some (if sgn a = true then Ordering.lt else .gt) = _
      have e := sr_inf e1
      obtain ⟨l1, l2⟩ := sr_fin h2
      cases h : sgn a
      · rw [h, if_neg (by decide)] at e; rw [e, cmp_g l2]; rfl
      · rw [h, if_pos rfl] at e; rw [e, cmp_l l1]; rfl
    · have e2 : rng b = infR := by omega
      unfold Format.order
      rw [read_inf e1, read_inf e2]
      simp only [Datum.order]
      have ea : sr a = sg (sgn a) infR := by unfold sr; rw [e1]
      have eb : sr b = sg (sgn b) infR := by unfold sr; rw [e2]
      rw [ea, eb]
      cases sgn a <;> cases sgn b <;> decide
theorem read_nan_is {b : Nat} (h : infR < rng b) : ∃ s t, double.read b = .nan s t := ⟨_, _, read_nan h⟩
theorem order_nan {a b : Nat} (h : infR < rng a ∨ infR < rng b) : double.order a b = none := by
  unfold Format.order
  rcases h with h | h
  · obtain ⟨s, t, e⟩ := read_nan_is h
    rw [e]; cases double.read b <;> rfl
  · obtain ⟨s, t, e⟩ := read_nan_is h
    rw [e]; cases double.read a <;> rfl

/-- The five comparisons, plain. -/
def fLt (a b : Nat) : Bool := !nanB a && !nanB b && decide (sr a < sr b)
def fEq (a b : Nat) : Bool := !nanB a && !nanB b && decide (sr a = sr b)
theorem ord_cases (a b : Nat) : (nanB a = false ∧ nanB b = false ∧ double.order a b = some (compare (sr a) (sr b))) ∨ ((nanB a = true ∨ nanB b = true) ∧ double.order a b = none) := by
  cases h1 : nanB a
  · cases h2 : nanB b
    · unfold nanB at h1 h2
      simp only [decide_eq_false_iff_not, Nat.not_lt] at h1 h2
      exact .inl ⟨rfl, rfl, order_some h1 h2⟩
    · unfold nanB at h2
      simp only [decide_eq_true_eq] at h2
      exact .inr ⟨.inr rfl, order_nan (.inr h2)⟩
  · unfold nanB at h1
    simp only [decide_eq_true_eq] at h1
    exact .inr ⟨.inl rfl, order_nan (.inl h1)⟩
theorem cmp_int (x y : Int) : compare x y = if x < y then .lt else if y < x then .gt else .eq := Int.compare_eq_ite_lt x y
theorem ord_lt (a b : Nat) : (double.order a b == some .lt) = fLt a b := by
  unfold fLt
  rcases ord_cases a b with ⟨h1, h2, h3⟩ | ⟨h1, h3⟩
  · rw [h1, h2, h3, cmp_int]
    by_cases h : sr a < sr b
    · simp [h]
    · by_cases h' : sr b < sr a <;> simp [h, h']
  · rw [h3]; rcases h1 with h1 | h1 <;> simp [h1]
theorem ord_gt (a b : Nat) : (double.order a b == some .gt) = fLt b a := by
  unfold fLt
  rcases ord_cases a b with ⟨h1, h2, h3⟩ | ⟨h1, h3⟩
  · rw [h1, h2, h3, cmp_int]
    by_cases h : sr a < sr b
    · have : ¬ sr b < sr a := by omega
      simp [h, this]
    · by_cases h' : sr b < sr a <;> simp [h, h']
  · rw [h3]; rcases h1 with h1 | h1 <;> simp [h1]
theorem ord_eq (a b : Nat) : (double.order a b == some .eq) = fEq a b := by
  unfold fEq
  rcases ord_cases a b with ⟨h1, h2, h3⟩ | ⟨h1, h3⟩
  · rw [h1, h2, h3, cmp_int]
    by_cases h : sr a < sr b
    · have : ¬ sr a = sr b := by omega
      simp [h, this]
    · by_cases h' : sr b < sr a
      · have : ¬ sr a = sr b := by omega
        simp [h, h', this]
      · have : sr a = sr b := by omega
        simp [this]
  · rw [h3]; rcases h1 with h1 | h1 <;> simp [h1]
end Go.Proofs.Ytdnahdogohdmjaa
