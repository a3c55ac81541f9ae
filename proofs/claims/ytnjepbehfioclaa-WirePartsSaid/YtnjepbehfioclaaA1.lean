import Ieee.Arith
namespace Go.Proofs.Ytnjepbehfioclaa
open Ieee

/-! ### words of 64 bits: sign, rung, what they are worth in the smallest unit -/
def rng (b : Nat) : Nat := b % 9223372036854775808
def sgn (b : Nat) : Bool := b / 9223372036854775808 % 2 == 1
abbrev infR : Nat := 9218868437227405312
def nanB (b : Nat) : Bool := decide (infR < rng b)
def sg (s : Bool) (r : Nat) : Int := if s then -(r : Int) else r
/-- The signed rung. -/
def sr (b : Nat) : Int := sg (sgn b) (rng b)
def mm (r : Nat) : Nat := if r < 4503599627370496 then r else 4503599627370496 + r % 4503599627370496
def pp (r : Nat) : Nat := r / 4503599627370496 - 1
/-- What a rung is worth, in the smallest unit. -/
def mg (r : Nat) : Nat := mm r * 2 ^ pp r
def sv (b : Nat) : Int := sg (sgn b) (mg (rng b))
/-- The word of a sign and a rung. -/
def wd (s : Bool) (r : Nat) : Nat := if s then 9223372036854775808 + r else r

theorem rng_lt (b : Nat) : rng b < 9223372036854775808 := Nat.mod_lt _ (by decide)
theorem rng_wd (s : Bool) {r : Nat} (h : r < 9223372036854775808) : rng (wd s r) = r := by
  unfold rng wd; cases s <;> simp <;> omega
theorem sgn_wd (s : Bool) {r : Nat} (h : r < 9223372036854775808) : sgn (wd s r) = s := by
  unfold sgn wd; cases s
  · simp; omega
  · simp; omega
theorem wd_lt (s : Bool) {r : Nat} (h : r < 9223372036854775808) : wd s r < 18446744073709551616 := by unfold wd; split <;> omega
theorem wd_eq {b : Nat} (h : b < 18446744073709551616) : wd (sgn b) (rng b) = b := by
  unfold wd sgn rng
  split
  · rename_i h1; simp at h1; omega
  · rename_i h1; simp at h1; omega
theorem sr_wd (s : Bool) {r : Nat} (h : r < 9223372036854775808) : sr (wd s r) = sg s r := by unfold sr; rw [rng_wd s h, sgn_wd s h]
theorem sv_wd (s : Bool) {r : Nat} (h : r < 9223372036854775808) : sv (wd s r) = sg s (mg r) := by unfold sv; rw [rng_wd s h, sgn_wd s h]

theorem d_sw : double.signWeight = 9223372036854775808 := by decide
theorem d_bin : double.binade = 4503599627370496 := by decide
theorem d_inf : double.infRung = 9218868437227405312 := by decide
theorem d_lp : double.leastPlace = -1074 := by decide
theorem d_word (s : Bool) (r : Nat) : double.word s r = wd s r := by unfold Format.word wd; rw [d_sw]

theorem read_num {b : Nat} (h : rng b < infR) : double.read b = .number (sgn b) (mm (rng b)) (-1074 + (pp (rng b) : Nat)) := by
  unfold Format.read
  rw [d_sw, d_bin, d_inf, d_lp]
  show (if rng b < _ then Datum.number (sgn b) (rng b) _ else _) = _
  by_cases h1 : rng b < 4503599627370496
  · rw [if_pos h1]
    have e1 : mm (rng b) = rng b := by unfold mm; rw [if_pos h1]
    have e2 : pp (rng b) = 0 := by unfold pp; omega
    rw [e1, e2]; rfl
  · rw [if_neg h1]
    show (if rng b < _ then _ else _) = _
    rw [if_pos h]
    have e1 : mm (rng b) = 4503599627370496 + rng b % 4503599627370496 := by unfold mm; rw [if_neg h1]
    rw [e1]; rfl
theorem read_inf {b : Nat} (h : rng b = infR) : double.read b = .infinity (sgn b) := by
  unfold Format.read
  rw [d_sw, d_bin, d_inf, d_lp]
  show (if rng b < _ then _ else if rng b < _ then _ else if rng b = _ then _ else _) = _
  rw [h]; rfl
theorem read_nan {b : Nat} (h : infR < rng b) : double.read b = .nan (sgn b) (rng b - infR) := by
  unfold Format.read
  rw [d_sw, d_bin, d_inf, d_lp]
  show (if rng b < _ then _ else if rng b < _ then _ else if rng b = _ then _ else Datum.nan (sgn b) (rng b - _)) = _
  rw [if_neg (by simp only [infR] at h; omega), if_neg (by simp only [infR] at h; omega), if_neg (by simp only [infR] at h; omega)]

/-! ### what rungs are worth goes up -/
theorem mg_succ (r : Nat) : mg r < mg (r + 1) := by
  unfold mg mm pp
  by_cases h1 : r + 1 < 4503599627370496
  · rw [if_pos (by omega), if_pos h1, show r / 4503599627370496 - 1 = 0 by omega, show (r + 1) / 4503599627370496 - 1 = 0 by omega]; omega
  · by_cases h2 : r < 4503599627370496
    · obtain rfl : r = 4503599627370495 := by omega
      decide
    · rw [if_neg h2, if_neg h1]
      by_cases h3 : (r + 1) % 4503599627370496 = 0
      · have e : (r + 1) / 4503599627370496 - 1 = (r / 4503599627370496 - 1) + 1 := by omega
        rw [e, h3, Nat.pow_succ]
        have hp : 0 < 2 ^ (r / 4503599627370496 - 1) := Nat.two_pow_pos _
        generalize 2 ^ (r / 4503599627370496 - 1) = P at *
        have h4 : r % 4503599627370496 = 4503599627370495 := by omega
        rw [h4]; omega
      · have e : (r + 1) / 4503599627370496 - 1 = r / 4503599627370496 - 1 := by omega
        have e2 : (r + 1) % 4503599627370496 = r % 4503599627370496 + 1 := by omega
        rw [e, e2]
        have hp : 0 < 2 ^ (r / 4503599627370496 - 1) := Nat.two_pow_pos _
        exact Nat.mul_lt_mul_of_pos_right (by omega) hp
theorem mg_lt {r u : Nat} (h : r < u) : mg r < mg u := by
  induction u with
  | zero => omega
  | succ u ih =>
    rcases Nat.lt_or_ge r u with h1 | h1
    · exact Nat.lt_trans (ih h1) (mg_succ u)
    · obtain rfl : r = u := by omega
      exact mg_succ r
theorem mg_lt_iff {r u : Nat} : mg r < mg u ↔ r < u := by
  refine ⟨fun h => ?_, mg_lt⟩
  rcases Nat.lt_trichotomy r u with h1 | h1 | h1
  · exact h1
  · subst h1; omega
  · have := mg_lt h1; omega
theorem mg_inj {r u : Nat} : mg r = mg u ↔ r = u := by
  refine ⟨fun h => ?_, fun h => by rw [h]⟩
  rcases Nat.lt_trichotomy r u with h1 | h1 | h1
  · have := mg_lt h1; omega
  · exact h1
  · have := mg_lt h1; omega
theorem mg_zero : mg 0 = 0 := by decide
theorem sg_lt (s t : Bool) (r u : Nat) : sg s (mg r) < sg t (mg u) ↔ sg s r < sg t u := by
  have h1 := @mg_lt_iff r u
  have h2 := @mg_lt_iff u r
  have h3 : 0 < mg r ↔ 0 < r := by have := @mg_lt_iff 0 r; rwa [mg_zero] at this
  have h4 : 0 < mg u ↔ 0 < u := by have := @mg_lt_iff 0 u; rwa [mg_zero] at this
  unfold sg
  cases s <;> cases t <;> simp <;> omega
theorem sg_eq (s t : Bool) (r u : Nat) : sg s (mg r) = sg t (mg u) ↔ sg s r = sg t u := by
  have h1 := sg_lt s t r u
  have h2 := sg_lt t s u r
  omega
theorem sv_lt (a b : Nat) : sv a < sv b ↔ sr a < sr b := sg_lt _ _ _ _
theorem sv_eq (a b : Nat) : sv a = sv b ↔ sr a = sr b := sg_eq _ _ _ _

/-! ### order -/
theorem cmp_same {x y z u : Int} (h1 : x < y ↔ z < u) (h2 : x = y ↔ z = u) : compare x y = compare z u := by
  rw [Int.compare_eq_ite_lt, Int.compare_eq_ite_lt] <;> skip
  by_cases h : x < y
  · rw [if_pos h, if_pos (h1.1 h)]
  · rw [if_neg h, if_neg (fun h' => h (h1.2 h'))]
    by_cases h' : y < x
    · rw [if_pos h', if_pos (by omega)]
    · rw [if_neg h', if_neg (by omega)]

theorem signed_sg (s : Bool) (m k : Nat) : signed s m k = sg s (m * 2 ^ k) := by
  unfold signed sg; rw [Nat.shiftLeft_eq]
theorem sg_mul (s : Bool) (x k : Nat) : sg s (x * k) = sg s x * (k : Int) := by
  unfold sg; cases s <;> simp [Int.natCast_mul, Int.neg_mul]
theorem mul_pos_lt {x y : Int} {k : Nat} (hk : 0 < k) : x * (k : Int) < y * (k : Int) ↔ x < y :=
  ⟨fun h => Int.lt_of_mul_lt_mul_right h (by omega), fun h => Int.mul_lt_mul_of_pos_right h (by omega)⟩
theorem mul_pos_eq {x y : Int} {k : Nat} (hk : 0 < k) : x * (k : Int) = y * (k : Int) ↔ x = y := by
  have h1 := @mul_pos_lt x y k hk
  have h2 := @mul_pos_lt y x k hk
  omega
/-- A number with its place above the least. -/
theorem sg_place (s : Bool) (r p : Nat) (hp : p ≤ pp r) : sg s (mm r * 2 ^ (pp r - p)) * ((2 ^ p : Nat) : Int) = sg s (mg r) := by
  rw [← sg_mul, Nat.mul_assoc, ← Nat.pow_add, Nat.sub_add_cancel hp]; rfl
theorem toNat_place (p q : Nat) : ((-1074 + (p : Int)) - min (-1074 + (p : Int)) (-1074 + (q : Int))).toNat = p - min p q := by omega
theorem toNat_place' (p q : Nat) : ((-1074 + (q : Int)) - min (-1074 + (p : Int)) (-1074 + (q : Int))).toNat = q - min p q := by omega

theorem order_num {a b : Nat} (ha : rng a < infR) (hb : rng b < infR) : double.order a b = some (compare (sr a) (sr b)) := by
  unfold Format.order
  rw [read_num ha, read_num hb]
  simp only [Datum.order]
  rw [toNat_place, toNat_place', signed_sg, signed_sg]
  congr 1
  have hp : 0 < 2 ^ min (pp (rng a)) (pp (rng b)) := Nat.two_pow_pos _
  have e1 := sg_place (sgn a) (rng a) _ (Nat.min_le_left (pp (rng a)) (pp (rng b)))
  have e2 := sg_place (sgn b) (rng b) _ (Nat.min_le_right (pp (rng a)) (pp (rng b)))
  refine cmp_same ?_ ?_
  · rw [← mul_pos_lt hp, e1, e2]; exact sv_lt a b
  · rw [← mul_pos_eq hp, e1, e2]; exact sv_eq a b

theorem sg_bound (s : Bool) {r u : Nat} (h : r ≤ u) : -(u : Int) ≤ sg s r ∧ sg s r ≤ u := by unfold sg; split <;> omega
theorem sgb (s : Bool) (r : Nat) : sg s r = r ∧ s = false ∨ sg s r = -(r : Int) ∧ s = true := by unfold sg; cases s <;> simp

theorem cmp_l {x y : Int} (h : x < y) : compare x y = .lt := by rw [Int.compare_eq_ite_lt, if_pos h]
theorem cmp_g {x y : Int} (h : y < x) : compare x y = .gt := by rw [Int.compare_eq_ite_lt, if_neg (by omega), if_pos h]
theorem sr_fin {a : Nat} (h : rng a < infR) : -(infR : Int) < sr a ∧ sr a < (infR : Int) := by
  have h1 := sgb (sgn a) (rng a)
  have h0 : sr a = sg (sgn a) (rng a) := rfl
  simp only [infR] at *
  omega
theorem sr_inf {a : Nat} (h : rng a = infR) : sr a = if sgn a then -(infR : Int) else (infR : Int) := by unfold sr sg; rw [h]
theorem order_some {a b : Nat} (ha : rng a ≤ infR) (hb : rng b ≤ infR) : double.order a b = some (compare (sr a) (sr b)) := by
  rcases Nat.lt_or_ge (rng a) infR with h1 | h1
  · rcases Nat.lt_or_ge (rng b) infR with h2 | h2
    · exact order_num h1 h2
    · have e2 : rng b = infR := by omega
      unfold Format.order
      rw [read_num h1, read_inf e2]
      show some (if sgn b = true then Ordering.gt else .lt) = _
      have e := sr_inf e2
      obtain ⟨l1, l2⟩ := sr_fin h1
      cases h : sgn b
      · rw [h, if_neg (by decide)] at e; rw [e, cmp_l l2]; rfl
      · rw [h, if_pos rfl] at e; rw [e, cmp_g l1]; rfl
  · have e1 : rng a = infR := by omega
    rcases Nat.lt_or_ge (rng b) infR with h2 | h2
    · unfold Format.order
      rw [read_num h2, read_inf e1]
      show some (if sgn a = true then Ordering.lt else .gt) = _
      have e := sr_inf e1
      obtain ⟨l1, l2⟩ := sr_fin h2
      cases h : sgn a
      · rw [h, if_neg (by decide)] at e; rw [e, cmp_g l2]; rfl
      · rw [h, if_pos rfl] at e; rw [e, cmp_l l1]; rfl
    · have e2 : rng b = infR := by omega
      unfold Format.order
      rw [read_inf e1, read_inf e2]
      simp only [Datum.order]
      have ea : sr a = sg (sgn a) infR := by unfold sr; rw [e1]
      have eb : sr b = sg (sgn b) infR := by unfold sr; rw [e2]
      rw [ea, eb]
      cases sgn a <;> cases sgn b <;> decide
theorem read_nan_is {b : Nat} (h : infR < rng b) : ∃ s t, double.read b = .nan s t := ⟨_, _, read_nan h⟩
theorem order_nan {a b : Nat} (h : infR < rng a ∨ infR < rng b) : double.order a b = none := by
  unfold Format.order
  rcases h with h | h
  · obtain ⟨s, t, e⟩ := read_nan_is h
    rw [e]; cases double.read b <;> rfl
  · obtain ⟨s, t, e⟩ := read_nan_is h
    rw [e]; cases double.read a <;> rfl

/-- The five comparisons, plain. -/
def fLt (a b : Nat) : Bool := !nanB a && !nanB b && decide (sr a < sr b)
def fEq (a b : Nat) : Bool := !nanB a && !nanB b && decide (sr a = sr b)
theorem ord_cases (a b : Nat) : (nanB a = false ∧ nanB b = false ∧ double.order a b = some (compare (sr a) (sr b))) ∨ ((nanB a = true ∨ nanB b = true) ∧ double.order a b = none) := by
  cases h1 : nanB a
  · cases h2 : nanB b
    · unfold nanB at h1 h2
      simp only [decide_eq_false_iff_not, Nat.not_lt] at h1 h2
      exact .inl ⟨rfl, rfl, order_some h1 h2⟩
    · unfold nanB at h2
      simp only [decide_eq_true_eq] at h2
      exact .inr ⟨.inr rfl, order_nan (.inr h2)⟩
  · unfold nanB at h1
    simp only [decide_eq_true_eq] at h1
    exact .inr ⟨.inl rfl, order_nan (.inl h1)⟩
theorem cmp_int (x y : Int) : compare x y = if x < y then .lt else if y < x then .gt else .eq := Int.compare_eq_ite_lt x y
theorem ord_lt (a b : Nat) : (double.order a b == some .lt) = fLt a b := by
  unfold fLt
  rcases ord_cases a b with ⟨h1, h2, h3⟩ | ⟨h1, h3⟩
  · rw [h1, h2, h3, cmp_int]
    by_cases h : sr a < sr b
    · simp [h]
    · by_cases h' : sr b < sr a <;> simp [h, h']
  · rw [h3]; rcases h1 with h1 | h1 <;> simp [h1]
theorem ord_gt (a b : Nat) : (double.order a b == some .gt) = fLt b a := by
  unfold fLt
  rcases ord_cases a b with ⟨h1, h2, h3⟩ | ⟨h1, h3⟩
  · rw [h1, h2, h3, cmp_int]
    by_cases h : sr a < sr b
    · have : ¬ sr b < sr a := by omega
      simp [h, this]
    · by_cases h' : sr b < sr a <;> simp [h, h']
  · rw [h3]; rcases h1 with h1 | h1 <;> simp [h1]
theorem ord_eq (a b : Nat) : (double.order a b == some .eq) = fEq a b := by
  unfold fEq
  rcases ord_cases a b with ⟨h1, h2, h3⟩ | ⟨h1, h3⟩
  · rw [h1, h2, h3, cmp_int]
    by_cases h : sr a < sr b
    · have : ¬ sr a = sr b := by omega
      simp [h, this]
    · by_cases h' : sr b < sr a
      · have : ¬ sr a = sr b := by omega
        simp [h, h', this]
      · have : sr a = sr b := by omega
        simp [this]
  · rw [h3]; rcases h1 with h1 | h1 <;> simp [h1]

/-! ### keys -/
def keyF (b : Nat) : Nat := if nanB b then 18446744073709551615 else if b < 9223372036854775808 then b + 9223372036854775808 else 18446744073709551615 - b
def cmpN (x y : Nat) : Int := if x < y then -1 else if y < x then 1 else 0
theorem bcase {b : Nat} (h : b < 18446744073709551616) : (b < 9223372036854775808 ∧ rng b = b ∧ sgn b = false ∧ sr b = b) ∨ (9223372036854775808 ≤ b ∧ rng b = b - 9223372036854775808 ∧ sgn b = true ∧ sr b = -((b - 9223372036854775808 : Nat) : Int)) := by
  rcases Nat.lt_or_ge b 9223372036854775808 with h1 | h1
  · have e1 : rng b = b := by unfold rng; omega
    have e2 : sgn b = false := by unfold sgn; rw [show b / 9223372036854775808 = 0 by omega]; rfl
    exact .inl ⟨h1, e1, e2, by unfold sr sg; rw [e1, e2]; simp⟩
  · have e1 : rng b = b - 9223372036854775808 := by unfold rng; omega
    have e2 : sgn b = true := by unfold sgn; rw [show b / 9223372036854775808 = 1 by omega]; rfl
    exact .inr ⟨h1, e1, e2, by unfold sr sg; rw [e1, e2]; simp⟩
theorem nan_iff {b : Nat} : nanB b = true ↔ 9218868437227405312 < rng b := by unfold nanB; simp [infR]
theorem nan_iff' {b : Nat} : nanB b = false ↔ rng b ≤ 9218868437227405312 := by unfold nanB; simp [infR]
theorem key_lt (b : Nat) : keyF b ≤ 18446744073709551615 ∨ 18446744073709551616 ≤ b := by unfold keyF; split <;> (try split) <;> omega
theorem key_bound (b : Nat) : keyF b < 18446744073709551616 := by unfold keyF; split <;> (try split) <;> omega
theorem nan_key {b : Nat} (h : nanB b = true) : keyF b = 18446744073709551615 := by unfold keyF; rw [if_pos h]
/-- What a key is, in omega's words. -/
theorem key_cases {b : Nat} (h : b < 18446744073709551616) : (nanB b = true ∧ keyF b = 18446744073709551615) ∨
    (nanB b = false ∧ (b < 9223372036854775808 ∧ sr b = b ∧ b ≤ 9218868437227405312 ∧ keyF b = b + 9223372036854775808 ∨
      9223372036854775808 ≤ b ∧ sr b = 9223372036854775808 - (b : Int) ∧ b ≤ 18442240474082181120 ∧ keyF b + b = 18446744073709551615)) := by
  cases hn : nanB b
  · refine .inr ⟨rfl, ?_⟩
    have := nan_iff'.1 hn
    have e : keyF b = if b < 9223372036854775808 then b + 9223372036854775808 else 18446744073709551615 - b := by unfold keyF; rw [hn]; rfl
    rcases bcase h with ⟨h1, h2, _, h4⟩ | ⟨h1, h2, _, h4⟩
    · rw [if_pos h1] at e; exact .inl ⟨h1, h4, by omega, e⟩
    · rw [if_neg (by omega)] at e; exact .inr ⟨h1, by omega, by omega, by omega⟩
  · exact .inl ⟨rfl, nan_key hn⟩
theorem lt_iff {a b : Nat} : fLt a b = true ↔ nanB a = false ∧ nanB b = false ∧ sr a < sr b := by unfold fLt; simp; exact and_assoc
theorem eq_iff {a b : Nat} : fEq a b = true ↔ nanB a = false ∧ nanB b = false ∧ sr a = sr b := by unfold fEq; simp; exact and_assoc
theorem eq_self (a : Nat) : fEq a a = !nanB a := by unfold fEq; cases nanB a <;> simp

end Go.Proofs.Ytnjepbehfioclaa
