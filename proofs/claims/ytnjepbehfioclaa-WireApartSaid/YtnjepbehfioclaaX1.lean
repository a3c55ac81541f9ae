import Derived.Test.YtnjepbehfioclaaBase
namespace Go.Proofs.Ytnjepbehfioclaa
open Go.RowKit
set_option maxRecDepth 100000

theorem x_bits (b : Nat) (w : World) : (callFunc 40 #[.float .f64 b]).run Try.prog w = .ok (.value (.int .u64 b)) w := by
  rw [run_callFunc_extern Try.func40 (by kernel_rfl) (by kernel_rfl) (by kernel_rfl) (e := Extern.MathFloatBits.float64bits) (by kernel_rfl)]
  rfl

attribute [local go_sem] run_store_float m_lt m_gt m_eq m_ne x_bits eq_self_ Bool.not_not

theorem IsNaN_any (b : Nat) (w : World) : Calls Try.prog 50 #[.float .f64 b] w fun e w' => e = .returned (.bool (nanB b)) ∧ w = w' := by
  go_enter Try.func50, Try.ntmps50
  go_wp2
  go_ret
  exact ⟨rfl, rfl⟩
theorem none_any (b : Nat) (w : World) : Calls Try.prog 39 #[.float .f64 b] w fun e w' => e = .returned (.bool (nanB b)) ∧ w = w' := by
  go_enter Try.func39, Try.ntmps39
  go_wp2
  go_ret
  exact ⟨rfl, rfl⟩

theorem u64_in (z : Int) (h : 0 ≤ z) (h' : z < 18446744073709551616) : IntKind.u64.wrap z = z := by
  have := IntWalk.u64_in z (by omega); exact this

theorem Key_any (b : Nat) (hb : b < 18446744073709551616) (w : World) : Calls Try.prog 36 #[.float .f64 b] w fun e w' => e = .returned (.int .u64 (keyF b : Nat)) ∧ w = w' := by
  have hi := fun W => IsNaN_any b W
  replace hi := hide hi
  rcases key_cases hb with ⟨hn, hk⟩ | ⟨hn, ⟨h1, _, h3, hk⟩ | ⟨h1, _, h3, hk⟩⟩
  · clear hb
    go_enter Try.func36, Try.ntmps36
    go_wp2_with (go_at_call 50; refine (unhide hi _).mono ?_; rintro e w1 ⟨rfl, rfl⟩; rw [hn])
    all_goals go_ret
    all_goals exact ⟨ret_i rfl (by rw [hk]; rfl), rfl⟩
  · have i1 : IntKind.u64.wrap ((b : Int) + 9223372036854775808) = (b : Int) + 9223372036854775808 := u64_in _ (by omega) (by omega)
    have d1 : decide ((b : Int) < 9223372036854775808) = true := decide_eq_true (by omega)
    replace hk := hide hk
    clear hb h1 h3
    go_enter Try.func36, Try.ntmps36
    go_wp2_with (go_at_call 50; refine (unhide hi _).mono ?_; rintro e w1 ⟨rfl, rfl⟩; rw [hn])
    all_goals go_ret
    all_goals exact ⟨ret_i rfl (by have := unhide hk; omega), rfl⟩
  · have i1 : IntKind.u64.wrap (18446744073709551615 - (b : Int)) = 18446744073709551615 - (b : Int) := u64_in _ (by omega) (by omega)
    have d1 : decide ((b : Int) < 9223372036854775808) = false := decide_eq_false (by omega)
    replace hk := hide hk
    clear hb h1 h3
    go_enter Try.func36, Try.ntmps36
    go_wp2_with (go_at_call 50; refine (unhide hi _).mono ?_; rintro e w1 ⟨rfl, rfl⟩; rw [hn])
    all_goals go_ret
    all_goals exact ⟨ret_i rfl (by have := unhide hk; omega), rfl⟩

theorem refKey_any (b : Nat) (hb : b < 18446744073709551616) (w : World) : Calls Try.prog 27 #[.float .f64 b] w fun e w' => e = .returned (.int .u64 (keyF b : Nat)) ∧ w = w' := by
  have hi := fun W => none_any b W
  replace hi := hide hi
  rcases key_cases hb with ⟨hn, hk⟩ | ⟨hn, ⟨h1, _, h3, hk⟩ | ⟨h1, _, h3, hk⟩⟩
  · clear hb
    go_enter Try.func27, Try.ntmps27
    go_wp2_with (go_at_call 39; refine (unhide hi _).mono ?_; rintro e w1 ⟨rfl, rfl⟩; rw [hn])
    all_goals go_ret
    all_goals exact ⟨ret_i rfl (by rw [hk]; rfl), rfl⟩
  · have i1 : IntKind.u64.wrap ((b : Int) + 9223372036854775808) = (b : Int) + 9223372036854775808 := u64_in _ (by omega) (by omega)
    have d1 : decide ((b : Int) < 9223372036854775808) = true := decide_eq_true (by omega)
    replace hk := hide hk
    clear hb h1 h3
    go_enter Try.func27, Try.ntmps27
    go_wp2_with (go_at_call 39; refine (unhide hi _).mono ?_; rintro e w1 ⟨rfl, rfl⟩; rw [hn])
    all_goals go_ret
    all_goals exact ⟨ret_i rfl (by have := unhide hk; omega), rfl⟩
  · have i1 : IntKind.u64.wrap (18446744073709551615 - (b : Int)) = 18446744073709551615 - (b : Int) := u64_in _ (by omega) (by omega)
    have d1 : decide ((b : Int) < 9223372036854775808) = false := decide_eq_false (by omega)
    replace hk := hide hk
    clear hb h1 h3
    go_enter Try.func27, Try.ntmps27
    go_wp2_with (go_at_call 39; refine (unhide hi _).mono ?_; rintro e w1 ⟨rfl, rfl⟩; rw [hn])
    all_goals go_ret
    all_goals exact ⟨ret_i rfl (by have := unhide hk; omega), rfl⟩

theorem cmp_cases (x y : Nat) : (x < y ∧ cmpN x y = -1) ∨ (y < x ∧ cmpN x y = 1) ∨ (x = y ∧ cmpN x y = 0) := by
  unfold cmpN; split; (· exact .inl ⟨by assumption, rfl⟩); split; (· exact .inr (.inl ⟨by assumption, rfl⟩)); exact .inr (.inr ⟨by omega, rfl⟩)
theorem Same_any (a b : Nat) (ha : a < 18446744073709551616) (hb : b < 18446744073709551616) (w : World) : Calls Try.prog 49 #[.float .f64 a, .float .f64 b] w fun e w' => e = .returned (.bool (keyF a == keyF b)) ∧ w = w' := by
  have h1 := fun W => Key_any a ha W
  have h2 := fun W => Key_any b hb W
  replace h1 := hide h1; replace h2 := hide h2
  clear ha hb
  generalize keyF a = x at *
  generalize keyF b = y at *
  have t1 : True := trivial
  go_enter Try.func49, Try.ntmps49
  go_wp2_with (first
    | (have _t := t1; clear t1 _t; go_at_call 36; refine (unhide h1 _).mono ?_; rintro e w1 ⟨rfl, rfl⟩)
    | (go_at_call 36; refine (unhide h2 _).mono ?_; rintro e w1 ⟨rfl, rfl⟩))
  go_ret
  exact ⟨ret_b rfl (by rw [Bool.eq_iff_iff]; simp only [beq_iff_eq]; omega), rfl⟩
theorem refSame_any (a b : Nat) (ha : a < 18446744073709551616) (hb : b < 18446744073709551616) (w : World) : Calls Try.prog 46 #[.float .f64 a, .float .f64 b] w fun e w' => e = .returned (.bool (keyF a == keyF b)) ∧ w = w' := by
  have h1 := fun W => refKey_any a ha W
  have h2 := fun W => refKey_any b hb W
  replace h1 := hide h1; replace h2 := hide h2
  clear ha hb
  generalize keyF a = x at *
  generalize keyF b = y at *
  have t1 : True := trivial
  go_enter Try.func46, Try.ntmps46
  go_wp2_with (first
    | (have _t := t1; clear t1 _t; go_at_call 27; refine (unhide h1 _).mono ?_; rintro e w1 ⟨rfl, rfl⟩)
    | (go_at_call 27; refine (unhide h2 _).mono ?_; rintro e w1 ⟨rfl, rfl⟩))
  go_ret
  exact ⟨ret_b rfl (by rw [Bool.eq_iff_iff]; simp only [beq_iff_eq]; omega), rfl⟩

end Go.Proofs.Ytnjepbehfioclaa
