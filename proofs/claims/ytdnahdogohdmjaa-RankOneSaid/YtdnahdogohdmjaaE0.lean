import Ieee.Arith
namespace Go.Proofs.Ytdnahdogohdmjaa
open Ieee

/-! ### words of 64 bits: sign, rung, what they are worth in the smallest unit -/
def rng (b : Nat) : Nat := b % 9223372036854775808
def sgn (b : Nat) : Bool := b / 9223372036854775808 % 2 == 1
abbrev infR : Nat := 9218868437227405312
def nanB (b : Nat) : Bool := decide (infR < rng b)
def sg (s : Bool) (r : Nat) : Int := if s then -(r : Int) else r
/-- The signed rung. -/
def sr (b : Nat) : Int := sg (sgn b) (rng b)
def mm (r : Nat) : Nat := if r < 4503599627370496 then r else 4503599627370496 + r % 4503599627370496
def pp (r : Nat) : Nat := r / 4503599627370496 - 1
/-- What a rung is worth, in the smallest unit. -/
def mg (r : Nat) : Nat := mm r * 2 ^ pp r
def sv (b : Nat) : Int := sg (sgn b) (mg (rng b))
/-- The word of a sign and a rung. -/
def wd (s : Bool) (r : Nat) : Nat := if s then 9223372036854775808 + r else r

theorem rng_lt (b : Nat) : rng b < 9223372036854775808 := Nat.mod_lt _ (by decide)
theorem rng_wd (s : Bool) {r : Nat} (h : r < 9223372036854775808) : rng (wd s r) = r := by
  unfold rng wd; cases s <;> simp <;> omega
theorem sgn_wd (s : Bool) {r : Nat} (h : r < 9223372036854775808) : sgn (wd s r) = s := by
  unfold sgn wd; cases s
  · simp; omega
  · simp; omega
theorem wd_lt (s : Bool) {r : Nat} (h : r < 9223372036854775808) : wd s r < 18446744073709551616 := by unfold wd; split <;> omega
theorem wd_eq {b : Nat} (h : b < 18446744073709551616) : wd (sgn b) (rng b) = b := by
  unfold wd sgn rng
  split
  · rename_i h1; simp at h1; omega
  · rename_i h1; simp at h1; omega
theorem sr_wd (s : Bool) {r : Nat} (h : r < 9223372036854775808) : sr (wd s r) = sg s r := by unfold sr; rw [rng_wd s h, sgn_wd s h]
theorem sv_wd (s : Bool) {r : Nat} (h : r < 9223372036854775808) : sv (wd s r) = sg s (mg r) := by unfold sv; rw [rng_wd s h, sgn_wd s h]

theorem d_sw : double.signWeight = 9223372036854775808 := by decide
theorem d_bin : double.binade = 4503599627370496 := by decide
theorem d_inf : double.infRung = 9218868437227405312 := by decide
theorem d_lp : double.leastPlace = -1074 := by decide
theorem d_word (s : Bool) (r : Nat) : double.word s r = wd s r := by unfold Format.word wd; rw [d_sw]

theorem read_num {b : Nat} (h : rng b < infR) : double.read b = .number (sgn b) (mm (rng b)) (-1074 + (pp (rng b) : Nat)) := by
  unfold Format.read
  rw [d_sw, d_bin, d_inf, d_lp]
  show (if rng b < _ then Datum.number (sgn b) (rng b) _ else _) = _
  by_cases h1 : rng b < 4503599627370496
  · rw [if_pos h1]
    have e1 : mm (rng b) = rng b := by unfold mm; rw [if_pos h1]
    have e2 : pp (rng b) = 0 := by unfold pp; omega
    rw [e1, e2]; rfl
  · rw [if_neg h1]
    show (if rng b < _ then _ else _) = _
    rw [if_pos h]
    have e1 : mm (rng b) = 4503599627370496 + rng b % 4503599627370496 := by unfold mm; rw [if_neg h1]
    rw [e1]; rfl
theorem read_inf {b : Nat} (h : rng b = infR) : double.read b = .infinity (sgn b) := by
  unfold Format.read
  rw [d_sw, d_bin, d_inf, d_lp]
  show (if rng b < _ then _ else if rng b < _ then _ else if rng b = _ then _ else _) = _
  rw [h]; rfl
theorem read_nan {b : Nat} (h : infR < rng b) : double.read b = .nan (sgn b) (rng b - infR) := by
  unfold Format.read
  rw [d_sw, d_bin, d_inf, d_lp]
  show (if rng b < _ then _ else if rng b < _ then _ else if rng b = _ then _ else Datum.nan (sgn b) (rng b - _)) = _
  rw [if_neg (by simp only [infR] at h; omega), if_neg (by simp only [infR] at h; omega), if_neg (by simp only [infR] at h; omega)]

/-! ### what rungs are worth goes up -/
theorem mg_succ (r : Nat) : mg r < mg (r + 1) := by
  unfold mg mm pp
  by_cases h1 : r + 1 < 4503599627370496
  · rw [if_pos (by omega), if_pos h1, show r / 4503599627370496 - 1 = 0 by omega, show (r + 1) / 4503599627370496 - 1 = 0 by omega]; omega
  · by_cases h2 : r < 4503599627370496
    · obtain rfl : r = 4503599627370495 := by omega
      decide
    · rw [if_neg h2, if_neg h1]
      by_cases h3 : (r + 1) % 4503599627370496 = 0
      · have e : (r + 1) / 4503599627370496 - 1 = (r / 4503599627370496 - 1) + 1 := by omega
        rw [e, h3, Nat.pow_succ]
        have hp : 0 < 2 ^ (r / 4503599627370496 - 1) := Nat.two_pow_pos _
        generalize 2 ^ (r / 4503599627370496 - 1) = P at *
        have h4 : r % 4503599627370496 = 4503599627370495 := by omega
        rw [h4]; omega
      · have e : (r + 1) / 4503599627370496 - 1 = r / 4503599627370496 - 1 := by omega
        have e2 : (r + 1) % 4503599627370496 = r % 4503599627370496 + 1 := by omega
        rw [e, e2]
        have hp : 0 < 2 ^ (r / 4503599627370496 - 1) := Nat.two_pow_pos _
        exact Nat.mul_lt_mul_of_pos_right (by omega) hp
theorem mg_lt {r u : Nat} (h : r < u) : mg r < mg u := by
  induction u with
  | zero => omega
  | succ u ih =>
    rcases Nat.lt_or_ge r u with h1 | h1
    · exact Nat.lt_trans (ih h1) (mg_succ u)
    · obtain rfl : r = u := by omega
      exact mg_succ r
theorem mg_lt_iff {r u : Nat} : mg r < mg u ↔ r < u := by
  refine ⟨fun h => ?_, mg_lt⟩
  rcases Nat.lt_trichotomy r u with h1 | h1 | h1
  · exact h1
  · subst h1; omega
  · have := mg_lt h1; omega
theorem mg_inj {r u : Nat} : mg r = mg u ↔ r = u := by
  refine ⟨fun h => ?_, fun h => by rw [h]⟩
  rcases Nat.lt_trichotomy r u with h1 | h1 | h1
  · have := mg_lt h1; omega
  · exact h1
  · have := mg_lt h1; omega
theorem mg_zero : mg 0 = 0 := by decide
theorem sg_lt (s t : Bool) (r u : Nat) : sg s (mg r) < sg t (mg u) ↔ sg s r < sg t u := by
  have h1 := @mg_lt_iff r u
  have h2 := @mg_lt_iff u r
  have h3 : 0 < mg r ↔ 0 < r := by have := @mg_lt_iff 0 r; rwa [mg_zero] at this
  have h4 : 0 < mg u ↔ 0 < u := by have := @mg_lt_iff 0 u; rwa [mg_zero] at this
  unfold sg
  cases s <;> cases t <;> simp <;> omega
theorem sg_eq (s t : Bool) (r u : Nat) : sg s (mg r) = sg t (mg u) ↔ sg s r = sg t u := by
  have h1 := sg_lt s t r u
  have h2 := sg_lt t s u r
  omega
theorem sv_lt (a b : Nat) : sv a < sv b ↔ sr a < sr b := sg_lt _ _ _ _
theorem sv_eq (a b : Nat) : sv a = sv b ↔ sr a = sr b := sg_eq _ _ _ _

/-! ### order -/
theorem cmp_same {x y z u : Int} (h1 : x < y ↔ z < u) (h2 : x = y ↔ z = u) : compare x y = compare z u := by
  rw [Int.compare_eq_ite_lt, Int.compare_eq_ite_lt] <;> skip
  by_cases h : x < y
  · rw [if_pos h, if_pos (h1.1 h)]
  · rw [if_neg h, if_neg (fun h' => h (h1.2 h'))]
    by_cases h' : y < x
    · rw [if_pos h', if_pos (by omega)]
    · rw [if_neg h', if_neg (by omega)]
end Go.Proofs.Ytdnahdogohdmjaa
