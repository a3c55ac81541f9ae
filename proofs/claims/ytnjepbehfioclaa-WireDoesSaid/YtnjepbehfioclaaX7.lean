import Derived.Test.YtnjepbehfioclaaX1
import Derived.Test.YtnjepbehfioclaaA3
namespace Go.Proofs.Ytnjepbehfioclaa
open Go.RowKit
set_option maxRecDepth 100000

theorem x_from (n : Nat) (w : World) : (callFunc 45 #[.int .u64 (n : Int)]).run Try.prog w = .ok (.value (.float .f64 n)) w := by
  rw [run_callFunc_extern Try.func45 (by kernel_rfl) (by kernel_rfl) (by kernel_rfl) (e := Extern.MathFloatBits.float64frombits) (by kernel_rfl)]
  rfl
theorem ret_f {v : Value} {b b' : Nat} (h : v = .float .f64 b) (e : b = b') : Ending.returned v = .returned (.float .f64 b') := by rw [h, e]

attribute [local go_sem] run_store_float m_lt m_gt m_eq m_ne x_bits eq_self_ Bool.not_not
theorem NaN_any (w : World) : Calls Try.prog 44 #[] w fun e w' => e = .returned (.float .f64 nanC) ∧ w = w' := by
  have h : ∀ w, (callFunc 45 #[.int .u64 9221120237041090561]).run Try.prog w = .ok (.value (.float .f64 9221120237041090561)) w := fun w => x_from 9221120237041090561 w
  go_enter Try.func44, Try.ntmps44
  go_wp2
  go_ret
  exact ⟨rfl, rfl⟩
theorem ret_fe {v v' : Value} {b b' : Nat} {z z' : Int} (h : v = .float .f64 b) (h' : v' = .int .i64 z) (e : b = b') (e' : z = z') : Ending.returned (.tuple #[v, v']) = .returned (.tuple #[.float .f64 b', .int .i64 z']) := by rw [h, h', e, e']
theorem of_facts (k : Nat) (hk : k < 18446744073709551616) : (k = 18446744073709551615 ∧ ofF k = nanC ∧ ofE k = 0) ∨
    (((k : Int) == 18446744073709551615) = false ∧ (∃ o, o < 18446744073709551616 ∧ ofF k = (if nanB o then 0 else o) ∧ ofE k = (if nanB o then 2 else 0) ∧
      ((decide ((k : Int) ≥ 9223372036854775808) = true ∧ IntKind.u64.wrap (18446744073709551615 - (k : Int)) = 18446744073709551615 - (k : Int) ∧ IntKind.u64.wrap ((k : Int) - 9223372036854775808) = (k : Int) - 9223372036854775808 ∧ ∀ w, (callFunc 45 #[.int .u64 ((k : Int) - 9223372036854775808)]).run Try.prog w = .ok (.value (.float .f64 o)) w) ∨
       (decide ((k : Int) ≥ 9223372036854775808) = false ∧ IntKind.u64.wrap (18446744073709551615 - (k : Int)) = 18446744073709551615 - (k : Int) ∧ ∀ w, (callFunc 45 #[.int .u64 (18446744073709551615 - (k : Int))]).run Try.prog w = .ok (.value (.float .f64 o)) w)))) := by
  by_cases h1 : k = 18446744073709551615
  · exact .inl ⟨h1, by unfold ofF; rw [if_pos h1], by unfold ofE; rw [if_pos h1]⟩
  · refine .inr ⟨by rw [beq_eq_false_iff_ne]; omega, ofB k, by unfold ofB; split <;> omega, by unfold ofF; rw [if_neg h1], by unfold ofE; rw [if_neg h1], ?_⟩
    have hb : ofB k = if 9223372036854775808 ≤ k then k - 9223372036854775808 else 18446744073709551615 - k := rfl
    by_cases h2 : 9223372036854775808 ≤ k
    · rw [if_pos h2] at hb
      refine .inl ⟨decide_eq_true (by omega), u64_in _ (by omega) (by omega), u64_in _ (by omega) (by omega), fun w => ?_⟩
      have := x_from (ofB k) w
      rwa [show ((ofB k : Nat) : Int) = (k : Int) - 9223372036854775808 by omega] at this
    · rw [if_neg h2] at hb
      refine .inr ⟨decide_eq_false (by omega), u64_in _ (by omega) (by omega), fun w => ?_⟩
      have := x_from (ofB k) w
      rwa [show ((ofB k : Nat) : Int) = 18446744073709551615 - (k : Int) by omega] at this
theorem Of_any (k : Nat) (hk : k < 18446744073709551616) (w : World) : Calls Try.prog 59 #[.int .u64 (k : Int)] w fun e w' => e = .returned (.tuple #[.float .f64 (ofF k), .int .i64 (ofE k)]) ∧ w = w' := by
  have hn := fun W => NaN_any W
  replace hn := hide hn
  rcases of_facts k hk with ⟨h1, h2, h3⟩ | ⟨h1, o, _, h2, h3, ⟨d1, i1, i2, x1⟩ | ⟨d1, i1, x1⟩⟩
  · subst h1
    replace h2 := hide h2; replace h3 := hide h3
    clear hk
    go_enter Try.func59, Try.ntmps59
    go_wp2_with (go_at_call 44; refine (unhide hn _).mono ?_; rintro e w1 ⟨rfl, rfl⟩)
    all_goals go_ret2
    all_goals exact ⟨ret_fe rfl rfl (unhide h2).symm (unhide h3).symm, rfl⟩
  · have hi := fun W => IsNaN_any o W
    replace hi := hide hi; replace h2 := hide h2; replace h3 := hide h3
    clear hk
    cases hq : nanB o
    all_goals
      rw [hq] at h2 h3
      go_enter Try.func59, Try.ntmps59
      go_wp2_with (go_at_call 50; refine (unhide hi _).mono ?_; rintro e w1 ⟨rfl, rfl⟩; rw [hq])
      all_goals go_ret2
      all_goals exact ⟨ret_fe rfl rfl (unhide h2).symm (unhide h3).symm, rfl⟩
  · have hi := fun W => IsNaN_any o W
    replace hi := hide hi; replace h2 := hide h2; replace h3 := hide h3
    clear hk
    cases hq : nanB o
    all_goals
      rw [hq] at h2 h3
      go_enter Try.func59, Try.ntmps59
      go_wp2_with (go_at_call 50; refine (unhide hi _).mono ?_; rintro e w1 ⟨rfl, rfl⟩; rw [hq])
      all_goals go_ret2
      all_goals exact ⟨ret_fe rfl rfl (unhide h2).symm (unhide h3).symm, rfl⟩

theorem refOf_any (k : Nat) (hk : k < 18446744073709551616) (w : World) : Calls Try.prog 30 #[.int .u64 (k : Int)] w fun e w' => e = .returned (.tuple #[.float .f64 (ofF k), .int .i64 (ofE k)]) ∧ w = w' := by
  have hn := fun W => NaN_any W
  replace hn := hide hn
  rcases of_facts k hk with ⟨h1, h2, h3⟩ | ⟨h1, o, _, h2, h3, ⟨d1, i1, i2, x1⟩ | ⟨d1, i1, x1⟩⟩
  · subst h1
    replace h2 := hide h2; replace h3 := hide h3
    clear hk
    go_enter Try.func30, Try.ntmps30
    go_wp2_with (go_at_call 44; refine (unhide hn _).mono ?_; rintro e w1 ⟨rfl, rfl⟩)
    all_goals go_ret2
    all_goals exact ⟨ret_fe rfl rfl (unhide h2).symm (unhide h3).symm, rfl⟩
  · have hi := fun W => none_any o W
    replace hi := hide hi; replace h2 := hide h2; replace h3 := hide h3
    clear hk
    cases hq : nanB o
    all_goals
      rw [hq] at h2 h3
      go_enter Try.func30, Try.ntmps30
      go_wp2_with (go_at_call 39; refine (unhide hi _).mono ?_; rintro e w1 ⟨rfl, rfl⟩; rw [hq])
      all_goals go_ret2
      all_goals exact ⟨ret_fe rfl rfl (unhide h2).symm (unhide h3).symm, rfl⟩
  · have hi := fun W => none_any o W
    replace hi := hide hi; replace h2 := hide h2; replace h3 := hide h3
    clear hk
    cases hq : nanB o
    all_goals
      rw [hq] at h2 h3
      go_enter Try.func30, Try.ntmps30
      go_wp2_with (go_at_call 39; refine (unhide hi _).mono ?_; rintro e w1 ⟨rfl, rfl⟩; rw [hq])
      all_goals go_ret2
      all_goals exact ⟨ret_fe rfl rfl (unhide h2).symm (unhide h3).symm, rfl⟩
end Go.Proofs.Ytnjepbehfioclaa
