import Derived.Test.YtdnahdogohdmjaaW3
namespace Go.Proofs.Ytdnahdogohdmjaa
open Go.RowKit
set_option maxRecDepth 100000

theorem rng_u64 (b : Nat) : rng b < 18446744073709551616 := by have := rng_lt b; omega
theorem rng_rng (b : Nat) : rng (rng b) = rng b := by have := rng_lt b; unfold rng at *; omega
theorem inf_abs (b : Nat) : fLt 9218868437227405311 (rng b) = decide (rng b = infR) := by
  rw [Bool.eq_iff_iff, lt_iff, decide_eq_true_eq]
  have h := rng_lt b
  have hn : nanB (rng b) = nanB b := by unfold nanB; rw [rng_rng]
  have e0 : sr 9218868437227405311 = 9218868437227405311 := by decide
  have e1 : nanB 9218868437227405311 = false := by decide
  rw [e1, hn, nan_iff', e0]
  rcases bcase (rng_u64 b) with ⟨h1, h2, _, h4⟩ | ⟨h1, _⟩
  · rw [h4]; simp only [true_and, infR]; omega
  · omega
theorem inf_is {b : Nat} (hb : b < 18446744073709551616) : (fLt 9218868437227405311 b || fLt b 18442240474082181119) = decide (rng b = infR) := by
  rw [Bool.eq_iff_iff, Bool.or_eq_true, lt_iff, lt_iff, decide_eq_true_eq]
  have e0 : sr 9218868437227405311 = 9218868437227405311 := by decide
  have e1 : nanB 9218868437227405311 = false := by decide
  have e2 : sr 18442240474082181119 = -9218868437227405311 := by decide
  have e3 : nanB 18442240474082181119 = false := by decide
  rw [e0, e2, e1, e3, nan_iff']
  simp only [true_and, infR]
  rcases bcase hb with ⟨h1, h2, _, h4⟩ | ⟨h1, h2, _, h4⟩ <;> rw [h4] <;> omega

attribute [local go_sem] run_store_float m_neg m_lt m_gt m_eq m_ne x_bits x_from eq_self_ Bool.not_not
theorem Abs_any (b : Nat) (hb : b < 18446744073709551616) (w : World) : Calls Try.prog 27 #[.float .f64 b] w fun e w' => e = .returned (.float .f64 (rng b)) ∧ w = w' := by
  have ha := m_abs b hb
  have hx := x_from (rng b)
  clear hb
  go_enter Try.func27, Try.ntmps27
  go_wp2
  go_ret
  exact ⟨rfl, rfl⟩
theorem IsInf_any (b : Nat) (hb : b < 18446744073709551616) (w : World) : Calls Try.prog 26 #[.float .f64 b, .int .i64 0] w fun e w' => e = .returned (.bool (decide (rng b = infR))) ∧ w = w' := by
  have h1 := fun W => Abs_any b hb W
  have h2 := inf_abs b
  replace h1 := hide h1; replace h2 := hide h2
  clear hb
  go_enter Try.func26, Try.ntmps26
  go_wp2_with (go_at_call 27; refine (unhide h1 _).mono ?_; rintro e w1 ⟨rfl, rfl⟩)
  all_goals go_ret
  all_goals exact ⟨ret_b rfl (unhide h2), rfl⟩
theorem endless_any (b : Nat) (hb : b < 18446744073709551616) (w : World) : Calls Try.prog 34 #[.float .f64 b] w fun e w' => e = .returned (.bool (decide (rng b = infR))) ∧ w = w' := by
  have h2 := inf_is hb
  clear hb
  cases e1 : fLt 9218868437227405311 b
  · rw [e1, Bool.false_or] at h2
    replace h2 := hide h2
    go_enter Try.func34, Try.ntmps34
    go_wp2
    all_goals go_ret
    all_goals exact ⟨ret_b rfl (unhide h2), rfl⟩
  · rw [e1, Bool.true_or] at h2
    replace h2 := hide h2
    go_enter Try.func34, Try.ntmps34
    go_wp2
    all_goals go_ret
    all_goals exact ⟨ret_b rfl (unhide h2), rfl⟩
theorem Copysign_any (w : World) : Calls Try.prog 24 #[.float .f64 0, .float .f64 13830554455654793216] w fun e w' => e = .returned (.float .f64 9223372036854775808) ∧ w = w' := by
  have a1 : bits .andNot .u64 (0 : Int) (9223372036854775808 : Int) = 0 := by decide
  have a2 : bits .and .u64 (13830554455654793216 : Int) (9223372036854775808 : Int) = 9223372036854775808 := by decide
  have a3 : bits .or .u64 (0 : Int) (9223372036854775808 : Int) = 9223372036854775808 := by decide
  have hx : ∀ w, (callFunc 29 #[.int .u64 9223372036854775808]).run Try.prog w = .ok (.value (.float .f64 9223372036854775808)) w := fun w => x_from 9223372036854775808 w
  have hy : ∀ w, (callFunc 32 #[.float .f64 0]).run Try.prog w = .ok (.value (.int .u64 0)) w := fun w => x_bits 0 w
  have hz : ∀ w, (callFunc 32 #[.float .f64 13830554455654793216]).run Try.prog w = .ok (.value (.int .u64 13830554455654793216)) w := fun w => x_bits 13830554455654793216 w
  go_enter Try.func24, Try.ntmps24
  go_wp2
  go_ret
  exact ⟨rfl, rfl⟩

/-- What a quotient or a sum is, in whatever world. -/
theorem arith (op : BinOp) (hop : op = .quo ∨ op = .add) (t : TypeId) (x y : Nat) (w : World) : ∃ c n, c < 18446744073709551616 ∧ (binOp op t (.float .f64 x) (.float .f64 y)).run Try.prog w = .ok (.float .f64 c) (w.drewN n) ∧
    (floatBits op .f64 x y = some c ∨ floatBits op .f64 x y = none ∧ nanB c = true) := by
  cases h : floatBits op .f64 x y with
  | some r =>
    have hw := floatBits_wf h
    have hr : r < 18446744073709551616 := by simpa [Lit.wf] using hw
    exact ⟨r, 0, hr, run_float_arith w op t .f64 x y r h, .inl rfl⟩
  | none =>
    have hq : ∀ T : Nat, (T % 2) * 2 ^ 63 + 0x7ff0000000000000 + 1 + (T / 2) % (2 ^ 52 - 1) < 18446744073709551616 ∧ nanB ((T % 2) * 2 ^ 63 + 0x7ff0000000000000 + 1 + (T / 2) % (2 ^ 52 - 1)) = true := fun T => by
      have h1 : (T / 2) % (2 ^ 52 - 1) < 2 ^ 52 - 1 := Nat.mod_lt _ (by decide)
      have h2 : T % 2 < 2 := Nat.mod_lt _ (by decide)
      rw [nan_iff]
      unfold rng
      generalize (T / 2) % (2 ^ 52 - 1) = v at *
      generalize T % 2 = u at *
      omega
    refine ⟨_, 1, (hq (w.tape w.drawn (.nanBits .f64 x y))).1, ?_, .inr ⟨rfl, (hq _).2⟩⟩
    rcases hop with rfl | rfl
    · have h' : FloatKind.f64.format.div x y = none := h
      simp [binOp, Op.floatArith, h', Question.cut, Question.forced]
      rfl
    · have h' : FloatKind.f64.format.add x y = none := h
      simp [binOp, Op.floatArith, h', Question.cut, Question.forced]
      rfl
theorem mid_of {a b c1 c2 c3 : Nat} (h1 : floatBits .quo .f64 a two = some c1 ∨ floatBits .quo .f64 a two = none ∧ nanB c1 = true) (h2 : floatBits .quo .f64 b two = some c2 ∨ floatBits .quo .f64 b two = none ∧ nanB c2 = true)
    (h3 : floatBits .add .f64 c1 c2 = some c3 ∨ floatBits .add .f64 c1 c2 = none ∧ nanB c3 = true) : midF a b = if nanB c3 then nanC else c3 := by
  have q1 : floatBits .quo .f64 a two = Ieee.double.div a two := rfl
  have q2 : floatBits .quo .f64 b two = Ieee.double.div b two := rfl
  have q3 : floatBits .add .f64 c1 c2 = Ieee.double.add c1 c2 := rfl
  rw [q1] at h1; rw [q2] at h2; rw [q3] at h3
  clear q1 q2 q3
  have n3 : (nanB c1 = true ∨ nanB c2 = true) → nanB c3 = true := fun h => by
    have : Ieee.double.add c1 c2 = none := add_nan (h.imp nan_iff.1 nan_iff.1)
    rcases h3 with h3 | h3
    · rw [this] at h3; cases h3
    · exact h3.2
  unfold midF
  rcases h1 with h1 | ⟨h1, h1'⟩
  · rw [h1]
    rcases h2 with h2 | ⟨h2, h2'⟩
    · rw [h2]
      rcases h3 with h3 | ⟨h3, h3'⟩
      · simp only []; rw [h3]
      · simp only []; rw [h3, h3']; rfl
    · rw [h2, n3 (.inr h2')]; rfl
  · rw [h1, n3 (.inl h1')]; rfl
end Go.Proofs.Ytdnahdogohdmjaa
