import Derived.Test.YtdnahdogohdmjaaE1
namespace Go.Proofs.Ytdnahdogohdmjaa
open Ieee

/-! ### rounding to nearest, on what is worth so much in the smallest unit -/
def rd (n d : Nat) : Nat := n / 2 ^ d + (decide (2 ^ d < 2 * (n % 2 ^ d)) || (2 ^ d == 2 * (n % 2 ^ d) && n / 2 ^ d % 2 == 1)).toNat
def ex (n : Nat) : Nat := n.log2 - 52
def R (n : Nat) : Nat := if n = 0 then 0 else min (ex n * 4503599627370496 + rd n (ex n)) infR

theorem rd_scale (n d q : Nat) : rd (n * 2 ^ q) (d + q) = rd n d := by
  unfold rd
  have hq : 0 < 2 ^ q := Nat.two_pow_pos _
  rw [Nat.pow_add, Nat.mul_div_mul_right _ _ hq, Nat.mul_mod_mul_right]
  have e1 : (2 ^ d * 2 ^ q < 2 * (n % 2 ^ d * 2 ^ q)) ↔ (2 ^ d < 2 * (n % 2 ^ d)) := by
    rw [← Nat.mul_assoc]; exact Nat.mul_lt_mul_right hq
  have e2 : (2 ^ d * 2 ^ q = 2 * (n % 2 ^ d * 2 ^ q)) ↔ (2 ^ d = 2 * (n % 2 ^ d)) := by
    rw [← Nat.mul_assoc]; exact Nat.mul_left_inj (by omega)
  have e3 : (2 ^ d * 2 ^ q == 2 * (n % 2 ^ d * 2 ^ q)) = (2 ^ d == 2 * (n % 2 ^ d)) := by
    rw [Bool.eq_iff_iff]; simp only [beq_iff_eq]; exact e2
  rw [decide_eq_decide.2 e1, e3]
theorem rd_zero (n : Nat) : rd n 0 = n := by unfold rd; simp [Nat.mod_one]
theorem rd_le (n d : Nat) : rd n d ≤ n / 2 ^ d + 1 := by unfold rd; have := Bool.toNat_le (decide (2 ^ d < 2 * (n % 2 ^ d)) || (2 ^ d == 2 * (n % 2 ^ d) && n / 2 ^ d % 2 == 1)); omega
theorem rd_ge (n d : Nat) : n / 2 ^ d ≤ rd n d := by unfold rd; omega
theorem rd_mono {n m : Nat} (d : Nat) (h : n ≤ m) : rd n d ≤ rd m d := by
  have hd : n / 2 ^ d ≤ m / 2 ^ d := Nat.div_le_div_right h
  rcases Nat.lt_or_ge (n / 2 ^ d) (m / 2 ^ d) with h1 | h1
  · have := rd_le n d; have := rd_ge m d; omega
  · have e : n / 2 ^ d = m / 2 ^ d := by omega
    have hn := Nat.div_add_mod n (2 ^ d)
    have hm := Nat.div_add_mod m (2 ^ d)
    have hr : n % 2 ^ d ≤ m % 2 ^ d := by rw [e] at hn; omega
    unfold rd
    rw [e]
    generalize n % 2 ^ d = x at *
    generalize m % 2 ^ d = y at *
    generalize m / 2 ^ d = z at *
    generalize 2 ^ d = g at *
    by_cases a1 : g < 2 * x
    · have a2 : g < 2 * y := by omega
      simp [a1, a2]
    · by_cases a2 : g = 2 * x
      · by_cases a3 : g < 2 * y
        · simp only [a3, decide_true, Bool.true_or, Bool.toNat_true]
          have := Bool.toNat_le (decide (g < 2 * x) || (g == 2 * x && z % 2 == 1)); omega
        · have : x = y := by omega
          rw [this]; exact Nat.le_refl _
      · have : (g == 2 * x) = false := by simp [a2]
        simp [a1, this]
theorem cut_rd (s : Bool) (n d : Nat) (h : d ≤ n.log2 + 2) : Toward.even.cut s n d = rd n d := by
  unfold Toward.cut rd
  simp only [Nat.min_eq_left h, Nat.shiftLeft_eq, Nat.one_mul]

theorem log2_mul (n q : Nat) (hn : n ≠ 0) : (n * 2 ^ q).log2 = n.log2 + q := by
  have h1 := Nat.log2_self_le hn
  have h2 := @Nat.lt_log2_self n
  have hq : 0 < 2 ^ q := Nat.two_pow_pos _
  have hne : n * 2 ^ q ≠ 0 := Nat.mul_ne_zero hn (by omega)
  apply Nat.le_antisymm
  · have : (n * 2 ^ q).log2 < n.log2 + q + 1 := by
      rw [Nat.log2_lt hne, show n.log2 + q + 1 = (n.log2 + 1) + q by omega, Nat.pow_add]
      exact Nat.mul_lt_mul_of_pos_right h2 hq
    omega
  · rw [Nat.le_log2 hne, Nat.pow_add]
    exact Nat.mul_le_mul_right _ h1

/-- The nearest word, where the place is not below the least. -/
theorem near_up (s : Bool) (m p : Nat) : double.nearest s m (-1074 + (p : Int)) = wd s (R (m * 2 ^ p)) := by
  by_cases hm : m = 0
  · subst hm
    unfold Format.nearest
    rw [if_pos rfl, d_word, Nat.zero_mul]; rfl
  · have hN : m * 2 ^ p ≠ 0 := Nat.mul_ne_zero hm (by have := Nat.two_pow_pos p; omega)
    unfold Format.nearest R
    rw [if_neg hm, if_neg hN, d_word, d_lp, d_inf, d_bin]
    simp only [show double.fractionBits = 52 from rfl]
    refine congrArg (wd s) (congrArg (fun x => min x infR) ?_)
    have hl := log2_mul m p hm
    have hL : max (-1074 + (p : Int) + (m.log2 : Int) - ((52 : Nat) : Int)) (-1074) = -1074 + (ex (m * 2 ^ p) : Int) := by unfold ex; rw [hl]; omega
    rw [hL]
    have e1 : (-1074 + (ex (m * 2 ^ p) : Int) - -1074).toNat = ex (m * 2 ^ p) := by omega
    rw [e1]
    refine congrArg (HAdd.hAdd _) ?_
    have he : ex (m * 2 ^ p) ≤ m.log2 + p := by unfold ex; rw [hl]; omega
    generalize hE : ex (m * 2 ^ p) = E at *
    rcases Nat.le_total E p with h1 | h1
    · have e2 : (-1074 + (p : Int) - (-1074 + (E : Int))).toNat = p - E := by omega
      have e3 : (-1074 + (E : Int) - (-1074 + (p : Int))).toNat = 0 := by omega
      rw [e2, e3, cut_rd _ _ _ (by omega), rd_zero, Nat.shiftLeft_eq]
      have := rd_scale (m * 2 ^ (p - E)) 0 E
      rw [Nat.mul_assoc, ← Nat.pow_add, Nat.sub_add_cancel h1, rd_zero, Nat.zero_add] at this
      exact this.symm
    · have e2 : (-1074 + (p : Int) - (-1074 + (E : Int))).toNat = 0 := by omega
      have e3 : (-1074 + (E : Int) - (-1074 + (p : Int))).toNat = E - p := by omega
      rw [e2, e3, Nat.shiftLeft_eq, Nat.pow_zero, Nat.mul_one, cut_rd _ _ _ (by omega)]
      have := rd_scale m (E - p) p
      rw [Nat.sub_add_cancel h1] at this
      exact this.symm
/-- .. and where it is below. -/
theorem near_down (s : Bool) (n q : Nat) (hn : n ≠ 0) : double.nearest s (n * 2 ^ q) (-1074 - (q : Int)) = wd s (R n) := by
  have hN : n * 2 ^ q ≠ 0 := Nat.mul_ne_zero hn (by have := Nat.two_pow_pos q; omega)
  unfold Format.nearest R
  rw [if_neg hn, if_neg hN, d_word, d_lp, d_inf, d_bin]
  simp only [show double.fractionBits = 52 from rfl]
  refine congrArg (wd s) (congrArg (fun x => min x infR) ?_)
  have hl := log2_mul n q hn
  have hL : max (-1074 - (q : Int) + ((n * 2 ^ q).log2 : Int) - ((52 : Nat) : Int)) (-1074) = -1074 + (ex n : Int) := by unfold ex; rw [hl]; omega
  rw [hL]
  have e1 : (-1074 + (ex n : Int) - -1074).toNat = ex n := by omega
  rw [e1]
  refine congrArg (HAdd.hAdd _) ?_
  have he : ex n ≤ n.log2 := by unfold ex; omega
  generalize ex n = E at *
  have e2 : (-1074 - (q : Int) - (-1074 + (E : Int))).toNat = 0 := by omega
  have e3 : (-1074 + (E : Int) - (-1074 - (q : Int))).toNat = E + q := by omega
  rw [e2, e3, Nat.shiftLeft_eq, Nat.pow_zero, Nat.mul_one, cut_rd _ _ _ (by omega)]
  exact rd_scale n E q
/-- .. and where it is less than a half below the least. -/
theorem near_half (s : Bool) (n q : Nat) (hn : n ≠ 0) (h53 : n < 9007199254740992) : double.nearest s (n * 2 ^ q) (-1075 - (q : Int)) = wd s (rd n 1) := by
  have hN : n * 2 ^ q ≠ 0 := Nat.mul_ne_zero hn (by have := Nat.two_pow_pos q; omega)
  unfold Format.nearest
  rw [if_neg hN, d_word, d_lp, d_inf, d_bin]
  simp only [show double.fractionBits = 52 from rfl]
  refine congrArg (wd s) ?_
  have hl := log2_mul n q hn
  have h2 : n.log2 < 53 := (Nat.log2_lt hn).2 h53
  have hL : max (-1075 - (q : Int) + ((n * 2 ^ q).log2 : Int) - ((52 : Nat) : Int)) (-1074) = -1074 := by rw [hl]; omega
  rw [hL]
  have e1 : (-1074 - -1074 : Int).toNat = 0 := by omega
  have e2 : (-1075 - (q : Int) - -1074).toNat = 0 := by omega
  have e3 : (-1074 - (-1075 - (q : Int))).toNat = 1 + q := by omega
  rw [e1, e2, e3, Nat.shiftLeft_eq, Nat.pow_zero, Nat.mul_one, cut_rd _ _ _ (by omega), rd_scale n 1 q]
  have := rd_le n 1
  omega

/-! ### rounding goes up with what is rounded, and leaves what has a word -/
theorem ex_mono {n m : Nat} (h : n ≤ m) (hn : n ≠ 0) : ex n ≤ ex m := by
  unfold ex
  have : n.log2 ≤ m.log2 := by
    rw [Nat.le_log2 (by omega)]
    exact Nat.le_trans (Nat.log2_self_le hn) h
  omega
theorem rd_ex_le (n : Nat) (hn : n ≠ 0) : rd n (ex n) ≤ 9007199254740992 := by
  have h1 := @Nat.lt_log2_self n
  rcases Nat.lt_or_ge n.log2 53 with h | h
  · have e : ex n = 0 := by unfold ex; omega
    rw [e, rd_zero]
    have : n < 2 ^ 53 := (Nat.log2_lt hn).1 h
    omega
  · have e : n.log2 + 1 = 53 + ex n := by unfold ex; omega
    rw [e, Nat.pow_add] at h1
    have := rd_le n (ex n)
    have h2 : n / 2 ^ ex n < 2 ^ 53 := (Nat.div_lt_iff_lt_mul (Nat.two_pow_pos _)).2 h1
    omega
theorem rd_ex_ge (n : Nat) (hn : n ≠ 0) (h : 0 < ex n) : 4503599627370496 ≤ rd n (ex n) := by
  have h1 := Nat.log2_self_le hn
  have e : n.log2 = 52 + ex n := by unfold ex at *; omega
  rw [e, Nat.pow_add] at h1
  have h2 : 2 ^ 52 ≤ n / 2 ^ ex n := (Nat.le_div_iff_mul_le (Nat.two_pow_pos _)).2 h1
  have := rd_ge n (ex n)
  omega
theorem R_mono {n m : Nat} (h : n ≤ m) : R n ≤ R m := by
  unfold R
  by_cases hn : n = 0
  · rw [if_pos hn]; exact Nat.zero_le _
  · rw [if_neg hn, if_neg (by omega)]
    have he := ex_mono h hn
    rcases Nat.lt_or_ge (ex n) (ex m) with h1 | h1
    · have a := rd_ex_le n hn
      have b := rd_ex_ge m (by omega) (by omega)
      omega
    · have e : ex n = ex m := by omega
      have := rd_mono (ex n) h
      rw [← e]
      omega
theorem R_le (n : Nat) : R n ≤ infR := by unfold R; split; (· exact Nat.zero_le _); exact Nat.min_le_right _ _
theorem log2_is {n k : Nat} (h1 : 2 ^ k ≤ n) (h2 : n < 2 ^ (k + 1)) : n.log2 = k := by
  have hn : n ≠ 0 := by have := Nat.two_pow_pos k; omega
  apply Nat.le_antisymm
  · have := (Nat.log2_lt hn).2 h2; omega
  · exact (Nat.le_log2 hn).2 h1
theorem R_mg {r : Nat} (h : r ≤ infR) : R (mg r) = r := by
  by_cases h0 : r = 0
  · subst h0; rw [mg_zero]; rfl
  · have hne : mg r ≠ 0 := by rw [← mg_zero]; exact fun e => h0 (mg_inj.1 e)
    by_cases h1 : r < 4503599627370496
    · have e1 : mg r = r := by unfold mg mm pp; rw [if_pos h1, show r / 4503599627370496 - 1 = 0 by omega]; omega
      have e2 : ex r = 0 := by
        unfold ex
        have : r.log2 < 53 := (Nat.log2_lt h0).2 (by omega)
        omega
      rw [e1]
      unfold R
      rw [if_neg h0, e2, rd_zero]
      simp only [infR] at *; omega
    · have hm : mm r = 4503599627370496 + r % 4503599627370496 := by unfold mm; rw [if_neg h1]
      have hl : (mm r).log2 = 52 := log2_is (by omega) (by omega)
      have hl2 : (mg r).log2 = 52 + pp r := by unfold mg; rw [log2_mul _ _ (by omega), hl]
      have he : ex (mg r) = pp r := by unfold ex; omega
      unfold R
      rw [if_neg hne, he]
      have hs := rd_scale (mm r) 0 (pp r)
      rw [rd_zero, Nat.zero_add] at hs
      change rd (mg r) (pp r) = mm r at hs
      rw [hs, hm]
      unfold pp
      simp only [infR] at *
      omega
end Go.Proofs.Ytdnahdogohdmjaa
