import Derived.Test.YtkgfmiicfegnlaaBase
namespace Go.Proofs.Ytkgfmiicfegnlaa
open Go.RowKit
set_option maxRecDepth 100000

theorem x_bits (b : Nat) (w : World) : (callFunc 77 #[.float .f64 b]).run Try.prog w = .ok (.value (.int .u64 b)) w := by
  rw [run_callFunc_extern Try.func77 (by kernel_rfl) (by kernel_rfl) (by kernel_rfl) (e := Extern.MathFloatBits.float64bits) (by kernel_rfl)]
  rfl

attribute [local go_sem] run_store_float m_lt m_gt m_eq m_ne x_bits eq_self_ Bool.not_not

theorem IsNaN_any (b : Nat) (w : World) : Calls Try.prog 78 #[.float .f64 b] w fun e w' => e = .returned (.bool (nanB b)) ∧ w = w' := by
  go_enter Try.func78, Try.ntmps78
  go_wp2
  go_ret
  exact ⟨rfl, rfl⟩
theorem none_any (b : Nat) (w : World) : Calls Try.prog 83 #[.float .f64 b] w fun e w' => e = .returned (.bool (nanB b)) ∧ w = w' := by
  go_enter Try.func83, Try.ntmps83
  go_wp2
  go_ret
  exact ⟨rfl, rfl⟩

theorem u64_in (z : Int) (h : 0 ≤ z) (h' : z < 18446744073709551616) : IntKind.u64.wrap z = z := by
  have := IntWalk.u64_in z (by omega); exact this

theorem Key_any (b : Nat) (hb : b < 18446744073709551616) (w : World) : Calls Try.prog 59 #[.float .f64 b] w fun e w' => e = .returned (.int .u64 (keyF b : Nat)) ∧ w = w' := by
  have hi := fun W => IsNaN_any b W
  replace hi := hide hi
  rcases key_cases hb with ⟨hn, hk⟩ | ⟨hn, ⟨h1, _, h3, hk⟩ | ⟨h1, _, h3, hk⟩⟩
  · clear hb
    go_enter Try.func59, Try.ntmps59
    go_wp2_with (go_at_call 78; refine (unhide hi _).mono ?_; rintro e w1 ⟨rfl, rfl⟩; rw [hn])
    all_goals go_ret
    all_goals exact ⟨ret_i rfl (by rw [hk]; rfl), rfl⟩
  · have i1 : IntKind.u64.wrap ((b : Int) + 9223372036854775808) = (b : Int) + 9223372036854775808 := u64_in _ (by omega) (by omega)
    have d1 : decide ((b : Int) < 9223372036854775808) = true := decide_eq_true (by omega)
    replace hk := hide hk
    clear hb h1 h3
    go_enter Try.func59, Try.ntmps59
    go_wp2_with (go_at_call 78; refine (unhide hi _).mono ?_; rintro e w1 ⟨rfl, rfl⟩; rw [hn])
    all_goals go_ret
    all_goals exact ⟨ret_i rfl (by have := unhide hk; omega), rfl⟩
  · have i1 : IntKind.u64.wrap (18446744073709551615 - (b : Int)) = 18446744073709551615 - (b : Int) := u64_in _ (by omega) (by omega)
    have d1 : decide ((b : Int) < 9223372036854775808) = false := decide_eq_false (by omega)
    replace hk := hide hk
    clear hb h1 h3
    go_enter Try.func59, Try.ntmps59
    go_wp2_with (go_at_call 78; refine (unhide hi _).mono ?_; rintro e w1 ⟨rfl, rfl⟩; rw [hn])
    all_goals go_ret
    all_goals exact ⟨ret_i rfl (by have := unhide hk; omega), rfl⟩

theorem refKey_any (b : Nat) (hb : b < 18446744073709551616) (w : World) : Calls Try.prog 69 #[.float .f64 b] w fun e w' => e = .returned (.int .u64 (keyF b : Nat)) ∧ w = w' := by
  have hi := fun W => none_any b W
  replace hi := hide hi
  rcases key_cases hb with ⟨hn, hk⟩ | ⟨hn, ⟨h1, _, h3, hk⟩ | ⟨h1, _, h3, hk⟩⟩
  · clear hb
    go_enter Try.func69, Try.ntmps69
    go_wp2_with (go_at_call 83; refine (unhide hi _).mono ?_; rintro e w1 ⟨rfl, rfl⟩; rw [hn])
    all_goals go_ret
    all_goals exact ⟨ret_i rfl (by rw [hk]; rfl), rfl⟩
  · have i1 : IntKind.u64.wrap ((b : Int) + 9223372036854775808) = (b : Int) + 9223372036854775808 := u64_in _ (by omega) (by omega)
    have d1 : decide ((b : Int) < 9223372036854775808) = true := decide_eq_true (by omega)
    replace hk := hide hk
    clear hb h1 h3
    go_enter Try.func69, Try.ntmps69
    go_wp2_with (go_at_call 83; refine (unhide hi _).mono ?_; rintro e w1 ⟨rfl, rfl⟩; rw [hn])
    all_goals go_ret
    all_goals exact ⟨ret_i rfl (by have := unhide hk; omega), rfl⟩
  · have i1 : IntKind.u64.wrap (18446744073709551615 - (b : Int)) = 18446744073709551615 - (b : Int) := u64_in _ (by omega) (by omega)
    have d1 : decide ((b : Int) < 9223372036854775808) = false := decide_eq_false (by omega)
    replace hk := hide hk
    clear hb h1 h3
    go_enter Try.func69, Try.ntmps69
    go_wp2_with (go_at_call 83; refine (unhide hi _).mono ?_; rintro e w1 ⟨rfl, rfl⟩; rw [hn])
    all_goals go_ret
    all_goals exact ⟨ret_i rfl (by have := unhide hk; omega), rfl⟩

theorem isNaNu_any (x : Int) (w : World) : Calls Try.prog 76 #[.int .u64 x] w fun e w' => e = .returned (.bool false) ∧ w = w' := by
  go_enter Try.func76, Try.ntmps76
  go_wp2
  all_goals go_ret
  all_goals exact ⟨rfl, rfl⟩
theorem cmp_cases (x y : Nat) : (x < y ∧ cmpN x y = -1) ∨ (y < x ∧ cmpN x y = 1) ∨ (x = y ∧ cmpN x y = 0) := by
  unfold cmpN; split; (· exact .inl ⟨by assumption, rfl⟩); split; (· exact .inr (.inl ⟨by assumption, rfl⟩)); exact .inr (.inr ⟨by omega, rfl⟩)
theorem Compare_any (x y : Nat) (w : World) : Calls Try.prog 58 #[.int .u64 (x : Int), .int .u64 (y : Int)] w fun e w' => e = .returned (.int .i64 (cmpN x y)) ∧ w = w' := by
  have hi := fun (z : Int) W => isNaNu_any z W
  replace hi := hide hi
  rcases cmp_cases x y with ⟨h1, hk⟩ | ⟨h1, hk⟩ | ⟨h1, hk⟩
  · go_enter Try.func58, Try.ntmps58
    go_wp2_with (go_at_call 76; refine (unhide hi _ _).mono ?_; rintro e w1 ⟨rfl, rfl⟩)
    all_goals go_ret
    all_goals exact ⟨ret_i rfl (by rw [hk]), rfl⟩
  · have h2 : ¬ (x : Int) < y := by omega
    go_enter Try.func58, Try.ntmps58
    go_wp2_with (go_at_call 76; refine (unhide hi _ _).mono ?_; rintro e w1 ⟨rfl, rfl⟩)
    all_goals go_ret
    all_goals exact ⟨ret_i rfl (by rw [hk]), rfl⟩
  · subst h1
    go_enter Try.func58, Try.ntmps58
    go_wp2_with (go_at_call 76; refine (unhide hi _ _).mono ?_; rintro e w1 ⟨rfl, rfl⟩)
    all_goals go_ret
    all_goals exact ⟨ret_i rfl (by rw [hk]), rfl⟩
theorem Cmp_any (a b : Nat) (ha : a < 18446744073709551616) (hb : b < 18446744073709551616) (w : World) : Calls Try.prog 30 #[.float .f64 a, .float .f64 b] w fun e w' => e = .returned (.int .i64 (cmpN (keyF a) (keyF b))) ∧ w = w' := by
  have h1 := fun W => Key_any a ha W
  have h2 := fun W => Key_any b hb W
  have h3 := fun W => Compare_any (keyF a) (keyF b) W
  replace h1 := hide h1; replace h2 := hide h2; replace h3 := hide h3
  clear ha hb
  generalize keyF a = x at *
  generalize keyF b = y at *
  have t1 : True := trivial
  go_enter Try.func30, Try.ntmps30
  go_wp2_with (first
    | (have _t := t1; clear t1 _t; go_at_call 59; refine (unhide h1 _).mono ?_; rintro e w1 ⟨rfl, rfl⟩)
    | (go_at_call 59; refine (unhide h2 _).mono ?_; rintro e w1 ⟨rfl, rfl⟩)
    | (go_at_call 58; refine (unhide h3 _).mono ?_; rintro e w1 ⟨rfl, rfl⟩))
  go_ret
  exact ⟨rfl, rfl⟩
theorem Same_any (a b : Nat) (ha : a < 18446744073709551616) (hb : b < 18446744073709551616) (w : World) : Calls Try.prog 70 #[.float .f64 a, .float .f64 b] w fun e w' => e = .returned (.bool (keyF a == keyF b)) ∧ w = w' := by
  have h1 := fun W => Key_any a ha W
  have h2 := fun W => Key_any b hb W
  replace h1 := hide h1; replace h2 := hide h2
  clear ha hb
  generalize keyF a = x at *
  generalize keyF b = y at *
  have t1 : True := trivial
  go_enter Try.func70, Try.ntmps70
  go_wp2_with (first
    | (have _t := t1; clear t1 _t; go_at_call 59; refine (unhide h1 _).mono ?_; rintro e w1 ⟨rfl, rfl⟩)
    | (go_at_call 59; refine (unhide h2 _).mono ?_; rintro e w1 ⟨rfl, rfl⟩))
  go_ret
  exact ⟨ret_b rfl (by rw [Bool.eq_iff_iff]; simp only [beq_iff_eq]; omega), rfl⟩
theorem refSame_any (a b : Nat) (ha : a < 18446744073709551616) (hb : b < 18446744073709551616) (w : World) : Calls Try.prog 44 #[.float .f64 a, .float .f64 b] w fun e w' => e = .returned (.bool (keyF a == keyF b)) ∧ w = w' := by
  have h1 := fun W => refKey_any a ha W
  have h2 := fun W => refKey_any b hb W
  replace h1 := hide h1; replace h2 := hide h2
  clear ha hb
  generalize keyF a = x at *
  generalize keyF b = y at *
  have t1 : True := trivial
  go_enter Try.func44, Try.ntmps44
  go_wp2_with (first
    | (have _t := t1; clear t1 _t; go_at_call 69; refine (unhide h1 _).mono ?_; rintro e w1 ⟨rfl, rfl⟩)
    | (go_at_call 69; refine (unhide h2 _).mono ?_; rintro e w1 ⟨rfl, rfl⟩))
  go_ret
  exact ⟨ret_b rfl (by rw [Bool.eq_iff_iff]; simp only [beq_iff_eq]; omega), rfl⟩

set_option maxHeartbeats 1000000 in
theorem refCmp_any (a b : Nat) (ha : a < 18446744073709551616) (hb : b < 18446744073709551616) (w : World) : Calls Try.prog 54 #[.float .f64 a, .float .f64 b] w fun e w' => e = .returned (.int .i64 (cmpN (keyF a) (keyF b))) ∧ w = w' := by
  have h1 := fun W => refKey_any a ha W
  have h2 := fun W => refKey_any b hb W
  replace h1 := hide h1; replace h2 := hide h2
  clear ha hb
  generalize keyF a = x at *
  generalize keyF b = y at *
  have t1 : True := trivial
  have t2 : True := trivial
  have t3 : True := trivial
  rcases cmp_cases x y with ⟨hl, hk⟩ | ⟨hl, hk⟩ | ⟨hl, hk⟩
  · replace hk := hide hk
    go_enter Try.func54, Try.ntmps54
    go_wp2_with (first
      | (have _t := t1; clear t1 _t; go_at_call 69; refine (unhide h1 _).mono ?_; rintro e w1 ⟨rfl, rfl⟩)
      | (go_at_call 69; refine (unhide h2 _).mono ?_; rintro e w1 ⟨rfl, rfl⟩))
    all_goals go_ret
    all_goals exact ⟨ret_i rfl (by rw [unhide hk]), rfl⟩
  · replace hk := hide hk
    have hl2 : ¬ x < y := by omega
    go_enter Try.func54, Try.ntmps54
    go_wp2_with (first
      | (have _t := t1; clear t1 _t; go_at_call 69; refine (unhide h1 _).mono ?_; rintro e w1 ⟨rfl, rfl⟩)
      | (have _t := t2; clear t2 _t; go_at_call 69; refine (unhide h2 _).mono ?_; rintro e w1 ⟨rfl, rfl⟩)
      | (have _t := t3; clear t3 _t; go_at_call 69; refine (unhide h1 _).mono ?_; rintro e w1 ⟨rfl, rfl⟩)
      | (go_at_call 69; refine (unhide h2 _).mono ?_; rintro e w1 ⟨rfl, rfl⟩))
    all_goals go_ret
    all_goals exact ⟨ret_i rfl (by rw [unhide hk]), rfl⟩
  · replace hk := hide hk
    have hl1 : ¬ x < y := by omega
    have hl2 : ¬ y < x := by omega
    clear hl
    go_enter Try.func54, Try.ntmps54
    go_wp2_with (first
      | (have _t := t1; clear t1 _t; go_at_call 69; refine (unhide h1 _).mono ?_; rintro e w1 ⟨rfl, rfl⟩)
      | (have _t := t2; clear t2 _t; go_at_call 69; refine (unhide h2 _).mono ?_; rintro e w1 ⟨rfl, rfl⟩)
      | (have _t := t3; clear t3 _t; go_at_call 69; refine (unhide h1 _).mono ?_; rintro e w1 ⟨rfl, rfl⟩)
      | (go_at_call 69; refine (unhide h2 _).mono ?_; rintro e w1 ⟨rfl, rfl⟩))
    all_goals go_ret
    all_goals exact ⟨ret_i rfl (by rw [unhide hk]), rfl⟩

end Go.Proofs.Ytkgfmiicfegnlaa
