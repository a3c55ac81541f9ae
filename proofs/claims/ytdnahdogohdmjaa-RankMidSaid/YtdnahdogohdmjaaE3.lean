import Derived.Test.YtdnahdogohdmjaaE2
namespace Go.Proofs.Ytdnahdogohdmjaa
open Ieee

abbrev two : Nat := 4611686018427387904
abbrev nanC : Nat := 9221120237041090561
/-- Half of a rung. -/
def Hf (r : Nat) : Nat := if r < 9007199254740992 then rd r 1 else r - 4503599627370496

theorem read_two : double.read two = .number false 4503599627370496 (-51) := by decide
theorem mm_lt (r : Nat) : mm r < 9007199254740992 := by unfold mm; split <;> omega
theorem rd_one_le (r : Nat) : rd r 1 ≤ r / 2 + 1 := by have := rd_le r 1; omega
theorem Hf_lt {r : Nat} (h : r < infR) : Hf r < infR := by
  unfold Hf
  split
  · rename_i h1; have := rd_one_le r; simp only [infR] at *; omega
  · simp only [infR] at *; omega

theorem div_num {a : Nat} (h : rng a < infR) : double.div a two = some (wd (sgn a) (Hf (rng a))) := by
  unfold Format.div
  rw [read_num h, read_two]
  simp only [show double.fractionBits = 52 from rfl]
  have hq : Datum.quotient (52 + 2) (.number (sgn a) (mm (rng a)) (-1074 + (pp (rng a) : Int))) (.number false 4503599627370496 (-51)) =
      some (.number (sgn a) (mm (rng a) * 2 ^ (106 - (mm (rng a)).log2 - 51)) (-1074 + (pp (rng a) : Int) + 50 - ((106 - (mm (rng a)).log2 : Nat) : Int))) := by
    have hlog : (4503599627370496 : Nat).log2 = 52 := log2_is (by decide) (by decide)
    have hl : (mm (rng a)).log2 ≤ 52 := by
      by_cases h0 : mm (rng a) = 0
      · rw [h0]; decide
      · have := (Nat.log2_lt h0).2 (show mm (rng a) < 2 ^ 53 from mm_lt _); omega
    unfold Datum.quotient
    simp only [hlog, Bool.xor_false, show ((4503599627370496 : Nat) = 0) = False by simp, if_false]
    generalize (mm (rng a)).log2 = L at *
    have e1 : 52 + 2 + 52 - L = 106 - L := by omega
    rw [e1, Nat.shiftLeft_eq]
    have e2 : mm (rng a) * 2 ^ (106 - L) = mm (rng a) * 2 ^ (106 - L - 52) * 4503599627370496 := by
      rw [Nat.mul_assoc, show (4503599627370496 : Nat) = 2 ^ 52 by decide, ← Nat.pow_add, show 106 - L - 52 + 52 = 106 - L by omega]
    rw [e2, Nat.mul_div_cancel _ (by decide), Nat.mul_mod_left]
    have e3 : mm (rng a) * 2 ^ (106 - L - 51) = 2 * (mm (rng a) * 2 ^ (106 - L - 52)) := by
      rw [show 106 - L - 51 = (106 - L - 52) + 1 by omega, Nat.pow_succ, Nat.mul_comm (2 ^ _) 2, ← Nat.mul_assoc, Nat.mul_comm _ 2, Nat.mul_assoc]
    rw [e3]
    congr 2
    omega
  rw [hq]
  show some (double.nearest _ _ _) = _
  have hl : (mm (rng a)).log2 ≤ 52 := by
    by_cases h0 : mm (rng a) = 0
    · rw [h0]; decide
    · have := (Nat.log2_lt h0).2 (show mm (rng a) < 2 ^ 53 from mm_lt _); omega
  generalize hM : 106 - (mm (rng a)).log2 = M at *
  congr 1
  by_cases h1 : rng a < 9007199254740992
  · have ep : pp (rng a) = 0 := by unfold pp; omega
    have em : mm (rng a) = rng a := by unfold mm; split <;> omega
    have eh : Hf (rng a) = rd (rng a) 1 := by unfold Hf; rw [if_pos h1]
    rw [ep, em, eh]
    by_cases h0 : rng a = 0
    · rw [h0, Nat.zero_mul]; unfold Format.nearest; rw [if_pos rfl, d_word]; rfl
    · rw [show (-1074 + ((0 : Nat) : Int) + 50 - (M : Int)) = -1075 - ((M - 51 : Nat) : Int) by omega]
      exact near_half _ _ _ h0 h1
  · have eh : Hf (rng a) = rng a - 4503599627370496 := by unfold Hf; rw [if_neg h1]
    have ep : pp (rng a) = pp (rng a - 4503599627370496) + 1 := by unfold pp; omega
    have em : mm (rng a) = mm (rng a - 4503599627370496) := by unfold mm; rw [if_neg (by omega), if_neg (by omega)]; omega
    have hR : R (mm (rng a) * 2 ^ (pp (rng a) - 1)) = Hf (rng a) := by
      rw [eh, ep, em, Nat.add_sub_cancel]
      exact R_mg (by simp only [infR] at *; omega)
    have hm0 : mm (rng a) ≠ 0 := by unfold mm; rw [if_neg (by omega)]; omega
    have hp1 : 1 ≤ pp (rng a) := by omega
    generalize pp (rng a) = p at *
    generalize mm (rng a) = m at *
    rw [← hR]
    rcases Nat.le_total (M - 51) (p - 1) with h2 | h2
    · rw [show (-1074 + (p : Int) + 50 - (M : Int)) = -1074 + ((p - 1 - (M - 51) : Nat) : Int) by omega, near_up, Nat.mul_assoc, ← Nat.pow_add, show M - 51 + (p - 1 - (M - 51)) = p - 1 by omega]
    · rw [show (-1074 + (p : Int) + 50 - (M : Int)) = -1074 - ((M - 51 - (p - 1) : Nat) : Int) by omega,
        show m * 2 ^ (M - 51) = m * 2 ^ (p - 1) * 2 ^ (M - 51 - (p - 1)) by rw [Nat.mul_assoc, ← Nat.pow_add, show p - 1 + (M - 51 - (p - 1)) = M - 51 by omega]]
      exact near_down _ _ _ (Nat.mul_ne_zero hm0 (by have := Nat.two_pow_pos (p - 1); omega))
theorem div_inf {a : Nat} (h : rng a = infR) (hb : a < 18446744073709551616) : double.div a two = some a := by
  unfold Format.div
  rw [read_inf h, read_two]
  show some (double.write (.infinity (sgn a ^^ false))) = _
  rw [Bool.xor_false]
  show some (double.word (sgn a) double.infRung) = _
  rw [d_word, d_inf]
  have := wd_eq hb; rw [h] at this; exact congrArg some this
theorem div_nan {a : Nat} (h : infR < rng a) : double.div a two = none := by
  unfold Format.div
  rw [read_nan h, read_two]; rfl

/-! ### sums -/
theorem add_comm_ (a b : Nat) : double.add a b = double.add b a := by
  unfold Format.add
  congr 1
  cases double.read a <;> cases double.read b <;> simp only [Datum.sum]
  · rename_i s m i t n j
    rw [Int.min_comm j i, Int.add_comm (signed t n _), Bool.and_comm t s]
  · rename_i s t
    cases s <;> cases t <;> rfl
theorem add_nan {a b : Nat} (h : infR < rng a ∨ infR < rng b) : double.add a b = none := by
  rcases h with h | h
  · unfold Format.add; rw [read_nan h]; cases double.read b <;> rfl
  · rw [add_comm_]; unfold Format.add; rw [read_nan h]; cases double.read a <;> rfl
theorem add_inf {a b : Nat} (h : rng a = infR) (hb : rng b < infR) (ha : a < 18446744073709551616) : double.add a b = some a := by
  unfold Format.add
  rw [read_inf h, read_num hb]
  show some (double.word (sgn a) double.infRung) = _
  rw [d_word, d_inf]
  have := wd_eq ha; rw [h] at this; exact congrArg some this
theorem add_inf2 {a b : Nat} (h : rng a = infR) (hb : rng b = infR) (ha : a < 18446744073709551616) : double.add a b = if sgn a = sgn b then some a else none := by
  unfold Format.add
  rw [read_inf h, read_inf hb]
  simp only [Datum.sum]
  split
  · show some (double.word (sgn a) double.infRung) = _
    rw [d_word, d_inf]
    have := wd_eq ha; rw [h] at this; exact congrArg some this
  · rfl
theorem natAbs_mul_nat (x : Int) (k : Nat) : (x * (k : Int)).natAbs = x.natAbs * k := by rw [Int.natAbs_mul]; rfl
theorem add_num {a b : Nat} (ha : rng a < infR) (hb : rng b < infR) : ∃ s, double.add a b = some (wd s (R (sv a + sv b).natAbs)) ∧ (sv a + sv b ≠ 0 → s = decide (sv a + sv b < 0)) := by
  unfold Format.add
  rw [read_num ha, read_num hb]
  simp only [Datum.sum]
  rw [toNat_place, toNat_place', signed_sg, signed_sg]
  have hp : 0 < 2 ^ min (pp (rng a)) (pp (rng b)) := Nat.two_pow_pos _
  have e1 := sg_place (sgn a) (rng a) _ (Nat.min_le_left (pp (rng a)) (pp (rng b)))
  have e2 := sg_place (sgn b) (rng b) _ (Nat.min_le_right (pp (rng a)) (pp (rng b)))
  have e3 : min (-1074 + (pp (rng a) : Int)) (-1074 + (pp (rng b) : Int)) = -1074 + ((min (pp (rng a)) (pp (rng b)) : Nat) : Int) := by omega
  rw [e3]
  generalize sg (sgn a) (mm (rng a) * 2 ^ (pp (rng a) - min (pp (rng a)) (pp (rng b)))) = X at *
  generalize sg (sgn b) (mm (rng b) * 2 ^ (pp (rng b) - min (pp (rng a)) (pp (rng b)))) = Y at *
  generalize min (pp (rng a)) (pp (rng b)) = p at *
  have eT : (X + Y) * ((2 ^ p : Nat) : Int) = sv a + sv b := by rw [Int.add_mul, e1, e2]; rfl
  have hz : X + Y = 0 ↔ sv a + sv b = 0 := by
    have := @mul_pos_eq (X + Y) 0 (2 ^ p) hp
    rw [eT, Int.zero_mul] at this; exact this.symm
  have hlt : X + Y < 0 ↔ sv a + sv b < 0 := by
    have := @mul_pos_lt (X + Y) 0 (2 ^ p) hp
    rw [eT, Int.zero_mul] at this; exact this.symm
  refine ⟨if X + Y = 0 then (sgn a && sgn b) else decide (X + Y < 0), ?_, fun h => ?_⟩
  · show some (double.nearest _ (X + Y).natAbs _) = _
    rw [near_up, ← eT, natAbs_mul_nat]
  · rw [if_neg (fun h' => h (hz.1 h')), decide_eq_decide.2 hlt]

/-! ### the middle -/
/-- What is between two: the program's way. -/
def midF (a b : Nat) : Nat :=
  match double.div a two, double.div b two with
  | some x, some y => match double.add x y with
    | some c => if nanB c then nanC else c
    | none => nanC
  | _, _ => nanC
theorem midF_comm (a b : Nat) : midF a b = midF b a := by
  unfold midF
  cases double.div a two <;> cases double.div b two <;> simp only []
  rw [add_comm_]
theorem midF_nan {a b : Nat} (h : infR < rng a ∨ infR < rng b) : midF a b = nanC := by
  unfold midF
  rcases h with h | h
  · rw [div_nan h]
  · rw [div_nan h]; cases double.div a two <;> rfl
theorem not_nan {c : Nat} (h : rng c ≤ infR) : nanB c = false := by unfold nanB; simp only [decide_eq_false_iff_not]; omega
theorem midF_inf2 {a b : Nat} (ha : rng a = infR) (hb : rng b = infR) (h : a < 18446744073709551616) (h' : b < 18446744073709551616) : midF a b = if sgn a = sgn b then a else nanC := by
  unfold midF
  rw [div_inf ha h, div_inf hb h']
  simp only []
  rw [add_inf2 ha hb h]
  by_cases hs : sgn a = sgn b
  · rw [if_pos hs, if_pos hs]
    exact if_neg (by rw [not_nan (by omega)]; decide)
  · rw [if_neg hs, if_neg hs]
theorem midF_inf1 {a b : Nat} (ha : rng a = infR) (hb : rng b < infR) (h : a < 18446744073709551616) : midF a b = a := by
  unfold midF
  rw [div_inf ha h, div_num hb]
  simp only []
  have hH := Hf_lt hb
  have h63 : Hf (rng b) < 9223372036854775808 := by simp only [infR] at hH; omega
  rw [add_inf ha (by rw [rng_wd _ h63]; exact hH) h]
  exact if_neg (by rw [not_nan (by omega)]; decide)
theorem midF_num {a b : Nat} (ha : rng a < infR) (hb : rng b < infR) : ∃ x y c s, double.div a two = some x ∧ double.div b two = some y ∧ double.add x y = some c ∧ midF a b = c ∧ c < 18446744073709551616 ∧ rng c ≤ infR ∧
    x = wd (sgn a) (Hf (rng a)) ∧ y = wd (sgn b) (Hf (rng b)) ∧ c = wd s (R (sv x + sv y).natAbs) ∧ (sv x + sv y ≠ 0 → s = decide (sv x + sv y < 0)) := by
  have hA := Hf_lt ha
  have hB := Hf_lt hb
  have h63 : Hf (rng a) < 9223372036854775808 := by simp only [infR] at hA; omega
  have h63' : Hf (rng b) < 9223372036854775808 := by simp only [infR] at hB; omega
  obtain ⟨s, e, hs⟩ := add_num (a := wd (sgn a) (Hf (rng a))) (b := wd (sgn b) (Hf (rng b))) (by rw [rng_wd _ h63]; exact hA) (by rw [rng_wd _ h63']; exact hB)
  have hR := R_le (sv (wd (sgn a) (Hf (rng a))) + sv (wd (sgn b) (Hf (rng b)))).natAbs
  have hr : rng (wd s (R (sv (wd (sgn a) (Hf (rng a))) + sv (wd (sgn b) (Hf (rng b)))).natAbs)) ≤ infR := by
    rw [rng_wd _ (by simp only [infR] at hR; omega)]; exact hR
  refine ⟨_, _, _, s, div_num ha, div_num hb, e, ?_, wd_lt _ (by simp only [infR] at hR; omega), hr, rfl, rfl, rfl, hs⟩
  unfold midF
  rw [div_num ha, div_num hb]
  simp only []
  rw [e]
  exact if_neg (by rw [not_nan hr]; decide)

def sR (t : Int) : Int := if t < 0 then -(R t.natAbs : Int) else R t.natAbs
theorem sR_mono {t u : Int} (h : t ≤ u) : sR t ≤ sR u := by
  unfold sR
  by_cases h1 : t < 0
  · rw [if_pos h1]
    by_cases h2 : u < 0
    · rw [if_pos h2]
      have := R_mono (show u.natAbs ≤ t.natAbs by omega); omega
    · rw [if_neg h2]; omega
  · rw [if_neg h1, if_neg (by omega)]
    have := R_mono (show t.natAbs ≤ u.natAbs by omega); omega
theorem sR_sv {a : Nat} (h : rng a ≤ infR) : sR (sv a) = sr a := by
  have hR := R_mg h
  have hz : mg (rng a) = 0 → rng a = 0 := fun e => mg_inj.1 (e.trans mg_zero.symm)
  unfold sR sv sr sg
  cases sgn a
  · simp only [Bool.false_eq_true, if_false]
    rw [if_neg (by omega), Int.natAbs_natCast, hR]
  · simp only [if_true]
    rw [Int.natAbs_neg, Int.natAbs_natCast, hR]
    by_cases h0 : mg (rng a) = 0
    · rw [hz h0]; split <;> simp
    · rw [if_pos (by omega)]
/-- Half of what is 0, or not too small, is half of it. -/
theorem half_is {a : Nat} (h : rng a < infR) (hb : rng a = 0 ∨ 103582791429521408 ≤ rng a) : 2 * sv (wd (sgn a) (Hf (rng a))) = sv a := by
  have hH := Hf_lt h
  rw [sv_wd _ (by simp only [infR] at hH; omega)]
  unfold sv
  rcases hb with h0 | h0
  · rw [h0]; have e : Hf 0 = 0 := by decide
    rw [e, mg_zero]; cases sgn a <;> rfl
  · have eh : Hf (rng a) = rng a - 4503599627370496 := by unfold Hf; rw [if_neg (by omega)]
    have e : mg (rng a) = 2 * mg (rng a - 4503599627370496) := by
      unfold mg
      have ep : pp (rng a) = pp (rng a - 4503599627370496) + 1 := by unfold pp; omega
      have em : mm (rng a) = mm (rng a - 4503599627370496) := by unfold mm; rw [if_neg (by omega), if_neg (by omega)]; omega
      rw [ep, em, Nat.pow_succ, Nat.mul_comm 2, Nat.mul_assoc]
    rw [eh, e]
    unfold sg
    cases sgn a <;> simp <;> omega
/-- A middle is not outside. -/
theorem mid_in {a b : Nat} (ha : rng a < infR) (hb : rng b < infR) (sa : rng a = 0 ∨ 103582791429521408 ≤ rng a) (sb : rng b = 0 ∨ 103582791429521408 ≤ rng b) (h : sr a ≤ sr b) : sr a ≤ sr (midF a b) ∧ sr (midF a b) ≤ sr b := by
  obtain ⟨x, y, c, s, _, _, _, hm, hc, hcr, rfl, rfl, hcw, hs⟩ := midF_num ha hb
  have h1 := half_is ha sa
  have h2 := half_is hb sb
  have hR := R_le (sv (wd (sgn a) (Hf (rng a))) + sv (wd (sgn b) (Hf (rng b)))).natAbs
  have e : sr c = sR (sv (wd (sgn a) (Hf (rng a))) + sv (wd (sgn b) (Hf (rng b)))) := by
    rw [hcw, sr_wd _ (by simp only [infR] at hR; omega)]
    unfold sR sg
    by_cases h0 : sv (wd (sgn a) (Hf (rng a))) + sv (wd (sgn b) (Hf (rng b))) = 0
    · rw [h0]; have : R (0 : Int).natAbs = 0 := rfl
      rw [this]; cases s <;> rfl
    · rw [hs h0]
      by_cases h3 : sv (wd (sgn a) (Hf (rng a))) + sv (wd (sgn b) (Hf (rng b))) < 0
      · simp [h3]
      · simp [h3]
  rw [hm, e, ← sR_sv (Nat.le_of_lt ha), ← sR_sv (Nat.le_of_lt hb)]
  have hv : sv a ≤ sv b := by
    have := sv_lt b a
    omega
  exact ⟨sR_mono (by omega), sR_mono (by omega)⟩
end Go.Proofs.Ytdnahdogohdmjaa
