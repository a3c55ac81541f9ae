import Derived.Test.YtdnahdogohdmjaaW1
namespace Go.Proofs.Ytdnahdogohdmjaa
open Go.RowKit
set_option maxRecDepth 100000

theorem u64_in (z : Int) (h : 0 ≤ z) (h' : z < 18446744073709551616) : IntKind.u64.wrap z = z := by
  have := IntWalk.u64_in z (by omega); exact this

attribute [local go_sem] run_store_float m_neg m_lt m_gt m_eq m_ne x_bits x_from eq_self_ Bool.not_not
theorem Key_any (b : Nat) (hb : b < 18446744073709551616) (w : World) : Calls Try.prog 13 #[.float .f64 b] w fun e w' => e = .returned (.int .u64 (keyF b : Nat)) ∧ w = w' := by
  have hi := fun W => IsNaN_any b W
  replace hi := hide hi
  rcases key_cases hb with ⟨hn, hk⟩ | ⟨hn, ⟨h1, _, h3, hk⟩ | ⟨h1, _, h3, hk⟩⟩
  · clear hb
    go_enter Try.func13, Try.ntmps13
    go_wp2_with (go_at_call 30; refine (unhide hi _).mono ?_; rintro e w1 ⟨rfl, rfl⟩; rw [hn])
    all_goals go_ret
    all_goals exact ⟨ret_i rfl (by rw [hk]; rfl), rfl⟩
  · have i1 : IntKind.u64.wrap ((b : Int) + 9223372036854775808) = (b : Int) + 9223372036854775808 := u64_in _ (by omega) (by omega)
    have d1 : decide ((b : Int) < 9223372036854775808) = true := decide_eq_true (by omega)
    replace hk := hide hk
    clear hb h1 h3
    go_enter Try.func13, Try.ntmps13
    go_wp2_with (go_at_call 30; refine (unhide hi _).mono ?_; rintro e w1 ⟨rfl, rfl⟩; rw [hn])
    all_goals go_ret
    all_goals exact ⟨ret_i rfl (by have := unhide hk; omega), rfl⟩
  · have i1 : IntKind.u64.wrap (18446744073709551615 - (b : Int)) = 18446744073709551615 - (b : Int) := u64_in _ (by omega) (by omega)
    have d1 : decide ((b : Int) < 9223372036854775808) = false := decide_eq_false (by omega)
    replace hk := hide hk
    clear hb h1 h3
    go_enter Try.func13, Try.ntmps13
    go_wp2_with (go_at_call 30; refine (unhide hi _).mono ?_; rintro e w1 ⟨rfl, rfl⟩; rw [hn])
    all_goals go_ret
    all_goals exact ⟨ret_i rfl (by have := unhide hk; omega), rfl⟩

theorem refKey_any (b : Nat) (hb : b < 18446744073709551616) (w : World) : Calls Try.prog 14 #[.float .f64 b] w fun e w' => e = .returned (.int .u64 (keyF b : Nat)) ∧ w = w' := by
  have hi := fun W => none_any b W
  replace hi := hide hi
  rcases key_cases hb with ⟨hn, hk⟩ | ⟨hn, ⟨h1, _, h3, hk⟩ | ⟨h1, _, h3, hk⟩⟩
  · clear hb
    go_enter Try.func14, Try.ntmps14
    go_wp2_with (go_at_call 31; refine (unhide hi _).mono ?_; rintro e w1 ⟨rfl, rfl⟩; rw [hn])
    all_goals go_ret
    all_goals exact ⟨ret_i rfl (by rw [hk]; rfl), rfl⟩
  · have i1 : IntKind.u64.wrap ((b : Int) + 9223372036854775808) = (b : Int) + 9223372036854775808 := u64_in _ (by omega) (by omega)
    have d1 : decide ((b : Int) < 9223372036854775808) = true := decide_eq_true (by omega)
    replace hk := hide hk
    clear hb h1 h3
    go_enter Try.func14, Try.ntmps14
    go_wp2_with (go_at_call 31; refine (unhide hi _).mono ?_; rintro e w1 ⟨rfl, rfl⟩; rw [hn])
    all_goals go_ret
    all_goals exact ⟨ret_i rfl (by have := unhide hk; omega), rfl⟩
  · have i1 : IntKind.u64.wrap (18446744073709551615 - (b : Int)) = 18446744073709551615 - (b : Int) := u64_in _ (by omega) (by omega)
    have d1 : decide ((b : Int) < 9223372036854775808) = false := decide_eq_false (by omega)
    replace hk := hide hk
    clear hb h1 h3
    go_enter Try.func14, Try.ntmps14
    go_wp2_with (go_at_call 31; refine (unhide hi _).mono ?_; rintro e w1 ⟨rfl, rfl⟩; rw [hn])
    all_goals go_ret
    all_goals exact ⟨ret_i rfl (by have := unhide hk; omega), rfl⟩

theorem isNaNu_any (x : Int) (w : World) : Calls Try.prog 37 #[.int .u64 x] w fun e w' => e = .returned (.bool false) ∧ w = w' := by
  go_enter Try.func37, Try.ntmps37
  go_wp2
  all_goals go_ret
  all_goals exact ⟨rfl, rfl⟩
theorem cmp_cases (x y : Nat) : (x < y ∧ cmpN x y = -1) ∨ (y < x ∧ cmpN x y = 1) ∨ (x = y ∧ cmpN x y = 0) := by
  unfold cmpN; split; (· exact .inl ⟨by assumption, rfl⟩); split; (· exact .inr (.inl ⟨by assumption, rfl⟩)); exact .inr (.inr ⟨by omega, rfl⟩)
theorem Compare_any (x y : Nat) (w : World) : Calls Try.prog 33 #[.int .u64 (x : Int), .int .u64 (y : Int)] w fun e w' => e = .returned (.int .i64 (cmpN x y)) ∧ w = w' := by
  have hi := fun (z : Int) W => isNaNu_any z W
  replace hi := hide hi
  rcases cmp_cases x y with ⟨h1, hk⟩ | ⟨h1, hk⟩ | ⟨h1, hk⟩
  · go_enter Try.func33, Try.ntmps33
    go_wp2_with (go_at_call 37; refine (unhide hi _ _).mono ?_; rintro e w1 ⟨rfl, rfl⟩)
    all_goals go_ret
    all_goals exact ⟨ret_i rfl (by rw [hk]), rfl⟩
  · have h2 : ¬ (x : Int) < y := by omega
    go_enter Try.func33, Try.ntmps33
    go_wp2_with (go_at_call 37; refine (unhide hi _ _).mono ?_; rintro e w1 ⟨rfl, rfl⟩)
    all_goals go_ret
    all_goals exact ⟨ret_i rfl (by rw [hk]), rfl⟩
  · subst h1
    go_enter Try.func33, Try.ntmps33
    go_wp2_with (go_at_call 37; refine (unhide hi _ _).mono ?_; rintro e w1 ⟨rfl, rfl⟩)
    all_goals go_ret
    all_goals exact ⟨ret_i rfl (by rw [hk]), rfl⟩
theorem Cmp_any (a b : Nat) (ha : a < 18446744073709551616) (hb : b < 18446744073709551616) (w : World) : Calls Try.prog 16 #[.float .f64 a, .float .f64 b] w fun e w' => e = .returned (.int .i64 (cmpN (keyF a) (keyF b))) ∧ w = w' := by
  have h1 := fun W => Key_any a ha W
  have h2 := fun W => Key_any b hb W
  have h3 := fun W => Compare_any (keyF a) (keyF b) W
  replace h1 := hide h1; replace h2 := hide h2; replace h3 := hide h3
  clear ha hb
  generalize keyF a = x at *
  generalize keyF b = y at *
  have t1 : True := trivial
  go_enter Try.func16, Try.ntmps16
  go_wp2_with (first
    | (have _t := t1; clear t1 _t; go_at_call 13; refine (unhide h1 _).mono ?_; rintro e w1 ⟨rfl, rfl⟩)
    | (go_at_call 13; refine (unhide h2 _).mono ?_; rintro e w1 ⟨rfl, rfl⟩)
    | (go_at_call 33; refine (unhide h3 _).mono ?_; rintro e w1 ⟨rfl, rfl⟩))
  go_ret
  exact ⟨rfl, rfl⟩
theorem Same_any (a b : Nat) (ha : a < 18446744073709551616) (hb : b < 18446744073709551616) (w : World) : Calls Try.prog 18 #[.float .f64 a, .float .f64 b] w fun e w' => e = .returned (.bool (keyF a == keyF b)) ∧ w = w' := by
  have h1 := fun W => Key_any a ha W
  have h2 := fun W => Key_any b hb W
  replace h1 := hide h1; replace h2 := hide h2
  clear ha hb
  generalize keyF a = x at *
  generalize keyF b = y at *
  have t1 : True := trivial
  go_enter Try.func18, Try.ntmps18
  go_wp2_with (first
    | (have _t := t1; clear t1 _t; go_at_call 13; refine (unhide h1 _).mono ?_; rintro e w1 ⟨rfl, rfl⟩)
    | (go_at_call 13; refine (unhide h2 _).mono ?_; rintro e w1 ⟨rfl, rfl⟩))
  go_ret
  exact ⟨ret_b rfl (by rw [Bool.eq_iff_iff]; simp only [beq_iff_eq]; omega), rfl⟩
theorem refSame_any (a b : Nat) (ha : a < 18446744073709551616) (hb : b < 18446744073709551616) (w : World) : Calls Try.prog 15 #[.float .f64 a, .float .f64 b] w fun e w' => e = .returned (.bool (keyF a == keyF b)) ∧ w = w' := by
  have h1 := fun W => refKey_any a ha W
  have h2 := fun W => refKey_any b hb W
  replace h1 := hide h1; replace h2 := hide h2
  clear ha hb
  generalize keyF a = x at *
  generalize keyF b = y at *
  have t1 : True := trivial
  go_enter Try.func15, Try.ntmps15
  go_wp2_with (first
    | (have _t := t1; clear t1 _t; go_at_call 14; refine (unhide h1 _).mono ?_; rintro e w1 ⟨rfl, rfl⟩)
    | (go_at_call 14; refine (unhide h2 _).mono ?_; rintro e w1 ⟨rfl, rfl⟩))
  go_ret
  exact ⟨ret_b rfl (by rw [Bool.eq_iff_iff]; simp only [beq_iff_eq]; omega), rfl⟩
end Go.Proofs.Ytdnahdogohdmjaa
