import Derived.Test.YtdnahdogohdmjaaW4
namespace Go.Proofs.Ytdnahdogohdmjaa
open Go.RowKit
set_option maxRecDepth 100000

theorem drew3 (w : World) (a b c : Nat) : ((w.drewN a).drewN b).drewN c = w.drewN (a + b + c) := by simp [World.drewN, Nat.add_assoc]
/-- The three operations of a middle. -/
theorem mid_ops (a b : Nat) (w : World) : ∃ c1 c2 c3 w1 w2 w3, c3 < 18446744073709551616 ∧
    (binOp .quo 22 (.float .f64 a) (.float .f64 4611686018427387904)).run Try.prog w = .ok (.float .f64 c1) w1 ∧
    (binOp .quo 22 (.float .f64 b) (.float .f64 4611686018427387904)).run Try.prog w1 = .ok (.float .f64 c2) w2 ∧
    (binOp .add 22 (.float .f64 c1) (.float .f64 c2)).run Try.prog w2 = .ok (.float .f64 c3) w3 ∧
    midF a b = (if nanB c3 then nanC else c3) ∧ ∃ n, w3 = w.drewN n := by
  obtain ⟨c1, n1, _, e1, h1⟩ := arith .quo (.inl rfl) 22 a two w
  obtain ⟨c2, n2, _, e2, h2⟩ := arith .quo (.inl rfl) 22 b two (w.drewN n1)
  obtain ⟨c3, n3, h, e3, h3⟩ := arith .add (.inr rfl) 22 c1 c2 ((w.drewN n1).drewN n2)
  exact ⟨c1, c2, c3, _, _, _, h, e1, e2, e3, mid_of h1 h2 h3, _, drew3 w n1 n2 n3⟩

attribute [local go_sem] run_store_float m_neg m_lt m_gt m_eq m_ne x_bits x_from eq_self_ Bool.not_not
theorem Mid_any (a b : Nat) (w : World) : Calls Try.prog 19 #[.float .f64 a, .float .f64 b] w fun e w' => e = .returned (.float .f64 (midF a b)) ∧ ∃ n, w' = w.drewN n := by
  obtain ⟨c1, c2, c3, w1, w2, w3, h, e1, e2, e3, hm, hw⟩ := mid_ops a b w
  have hi := fun W => IsNaN_any c3 W
  have hn := fun W => NaN_any W
  replace hi := hide hi; replace hn := hide hn; replace hw := hide hw
  clear h
  cases hq : nanB c3
  all_goals
    rw [hq] at hm
    replace hm := hide hm
    go_enter Try.func19, Try.ntmps19
    go_wp2_with (first
      | (go_at_call 30; refine (unhide hi _).mono ?_; rintro e w4 ⟨rfl, rfl⟩; rw [hq])
      | (go_at_call 25; refine (unhide hn _).mono ?_; rintro e w4 ⟨rfl, rfl⟩))
    all_goals go_ret
    all_goals exact ⟨ret_f rfl (unhide hm).symm, unhide hw⟩

/-- What is between two: the document's way. -/
theorem mid_ref {a b : Nat} (ha : a < 18446744073709551616) (hb : b < 18446744073709551616) :
    ((nanB a = true ∨ nanB b = true) ∧ midF a b = nanC) ∨ (nanB a = false ∧ nanB b = false ∧
      ((rng a = infR ∧ rng b = infR ∧ midF a b = if fEq a b then a else nanC) ∨ (rng a = infR ∧ rng b ≠ infR ∧ midF a b = a) ∨ (rng a ≠ infR ∧ rng b = infR ∧ midF a b = b) ∨
       (rng a ≠ infR ∧ rng b ≠ infR ∧ ∃ x y, floatBits .quo .f64 a two = some x ∧ floatBits .quo .f64 b two = some y ∧ floatBits .add .f64 x y = some (midF a b)))) := by
  cases na : nanB a
  · cases nb : nanB b
    · refine .inr ⟨rfl, rfl, ?_⟩
      have la := nan_iff'.1 na
      have lb := nan_iff'.1 nb
      by_cases ia : rng a = infR
      · by_cases ib : rng b = infR
        · refine .inl ⟨ia, ib, ?_⟩
          rw [midF_inf2 ia ib ha hb]
          have e : fEq a b = decide (sgn a = sgn b) := by
            unfold fEq sr
            rw [na, nb, ia, ib]
            cases sgn a <;> cases sgn b <;> rfl
          rw [e]
          by_cases h : sgn a = sgn b
          · rw [if_pos h, if_pos (decide_eq_true h)]
          · rw [if_neg h, if_neg (by rw [decide_eq_false h]; decide)]
        · exact .inr (.inl ⟨ia, ib, midF_inf1 ia (by simp only [infR] at *; omega) ha⟩)
      · by_cases ib : rng b = infR
        · exact .inr (.inr (.inl ⟨ia, ib, by rw [midF_comm]; exact midF_inf1 ib (by simp only [infR] at *; omega) hb⟩))
        · obtain ⟨x, y, c, _, h1, h2, h3, h4, _⟩ := midF_num (a := a) (b := b) (by simp only [infR] at *; omega) (by simp only [infR] at *; omega)
          exact .inr (.inr (.inr ⟨ia, ib, x, y, h1, h2, by rw [h4]; exact h3⟩))
    · exact .inl ⟨.inr rfl, midF_nan (.inr (nan_iff.1 nb))⟩
  · exact .inl ⟨.inl rfl, midF_nan (.inl (nan_iff.1 na))⟩

set_option maxHeartbeats 1000000 in
theorem refMid_any (a b : Nat) (ha : a < 18446744073709551616) (hb : b < 18446744073709551616) (w : World) : Calls Try.prog 20 #[.float .f64 a, .float .f64 b] w fun e w' => e = .returned (.float .f64 (midF a b)) ∧ w = w' := by
  have n1 := fun W => none_any a W
  have n2 := fun W => none_any b W
  have n3 := fun W => NaN_any W
  have i1 := fun W => endless_any a ha W
  have i2 := fun W => endless_any b hb W
  have hm := mid_ref ha hb
  replace n1 := hide n1; replace n2 := hide n2; replace n3 := hide n3; replace i1 := hide i1; replace i2 := hide i2
  clear ha hb
  rcases hm with ⟨hn, hm⟩ | ⟨NA, NB, ⟨ia, ib, hm⟩ | ⟨ia, ib, hm⟩ | ⟨ia, ib, hm⟩ | ⟨ia, ib, x, y, o1, o2, o3⟩⟩
  · replace hm := hide hm
    cases NA : nanB a
    · have NB : nanB b = true := by rcases hn with h | h; (· rw [NA] at h; cases h); exact h
      clear hn
      have t0 : True := trivial
      have t1 : True := trivial
      have t2 : True := trivial
      go_enter Try.func20, Try.ntmps20
      go_wp2_with (first
        | (have _t := t0; clear t0 _t; go_at_call 31; refine (unhide n1 _).mono ?_; rintro e wz ⟨rfl, rfl⟩; rw [NA])
        | (have _t := t1; clear t1 _t; go_at_call 31; refine (unhide n2 _).mono ?_; rintro e wz ⟨rfl, rfl⟩; rw [NB])
        | (have _t := t2; clear t2 _t; go_at_call 25; refine (unhide n3 _).mono ?_; rintro e wz ⟨rfl, rfl⟩))
      all_goals go_ret
      all_goals exact ⟨ret_f rfl (unhide hm).symm, rfl⟩
    · clear hn
      have t0 : True := trivial
      have t1 : True := trivial
      go_enter Try.func20, Try.ntmps20
      go_wp2_with (first
        | (have _t := t0; clear t0 _t; go_at_call 31; refine (unhide n1 _).mono ?_; rintro e wz ⟨rfl, rfl⟩; rw [NA])
        | (have _t := t1; clear t1 _t; go_at_call 25; refine (unhide n3 _).mono ?_; rintro e wz ⟨rfl, rfl⟩))
      all_goals go_ret
      all_goals exact ⟨ret_f rfl (unhide hm).symm, rfl⟩
  · have EA : decide (rng a = infR) = true := decide_eq_true ia
    have EB : decide (rng b = infR) = true := decide_eq_true ib
    clear ia ib
    cases he : fEq a b
    all_goals
      rw [he] at hm
      replace hm := hide hm
      have t0 : True := trivial
      have t1 : True := trivial
      have t2 : True := trivial
      have t3 : True := trivial
      have t4 : True := trivial
      go_enter Try.func20, Try.ntmps20
      go_wp2_with (first
        | (have _t := t0; clear t0 _t; go_at_call 31; refine (unhide n1 _).mono ?_; rintro e wz ⟨rfl, rfl⟩; rw [NA])
        | (have _t := t1; clear t1 _t; go_at_call 31; refine (unhide n2 _).mono ?_; rintro e wz ⟨rfl, rfl⟩; rw [NB])
        | (have _t := t2; clear t2 _t; go_at_call 34; refine (unhide i1 _).mono ?_; rintro e wz ⟨rfl, rfl⟩; rw [EA])
        | (have _t := t3; clear t3 _t; go_at_call 34; refine (unhide i2 _).mono ?_; rintro e wz ⟨rfl, rfl⟩; rw [EB])
        | (have _t := t4; clear t4 _t; go_at_call 25; refine (unhide n3 _).mono ?_; rintro e wz ⟨rfl, rfl⟩))
      all_goals go_ret
      all_goals exact ⟨ret_f rfl (unhide hm).symm, rfl⟩
  · have EA : decide (rng a = infR) = true := decide_eq_true ia
    have EB : decide (rng b = infR) = false := decide_eq_false ib
    clear ia ib
    replace hm := hide hm
    have t0 : True := trivial
    have t1 : True := trivial
    have t2 : True := trivial
    have t3 : True := trivial
    have t4 : True := trivial
    go_enter Try.func20, Try.ntmps20
    go_wp2_with (first
      | (have _t := t0; clear t0 _t; go_at_call 31; refine (unhide n1 _).mono ?_; rintro e wz ⟨rfl, rfl⟩; rw [NA])
      | (have _t := t1; clear t1 _t; go_at_call 31; refine (unhide n2 _).mono ?_; rintro e wz ⟨rfl, rfl⟩; rw [NB])
      | (have _t := t2; clear t2 _t; go_at_call 34; refine (unhide i1 _).mono ?_; rintro e wz ⟨rfl, rfl⟩; rw [EA])
      | (have _t := t3; clear t3 _t; go_at_call 34; refine (unhide i2 _).mono ?_; rintro e wz ⟨rfl, rfl⟩; rw [EB])
      | (have _t := t4; clear t4 _t; go_at_call 34; refine (unhide i1 _).mono ?_; rintro e wz ⟨rfl, rfl⟩; rw [EA]))
    all_goals go_ret
    all_goals exact ⟨ret_f rfl (unhide hm).symm, rfl⟩
  · have EA : decide (rng a = infR) = false := decide_eq_false ia
    have EB : decide (rng b = infR) = true := decide_eq_true ib
    clear ia ib
    replace hm := hide hm
    have t0 : True := trivial
    have t1 : True := trivial
    have t2 : True := trivial
    have t3 : True := trivial
    have t4 : True := trivial
    go_enter Try.func20, Try.ntmps20
    go_wp2_with (first
      | (have _t := t0; clear t0 _t; go_at_call 31; refine (unhide n1 _).mono ?_; rintro e wz ⟨rfl, rfl⟩; rw [NA])
      | (have _t := t1; clear t1 _t; go_at_call 31; refine (unhide n2 _).mono ?_; rintro e wz ⟨rfl, rfl⟩; rw [NB])
      | (have _t := t2; clear t2 _t; go_at_call 34; refine (unhide i1 _).mono ?_; rintro e wz ⟨rfl, rfl⟩; rw [EA])
      | (have _t := t3; clear t3 _t; go_at_call 34; refine (unhide i1 _).mono ?_; rintro e wz ⟨rfl, rfl⟩; rw [EA])
      | (have _t := t4; clear t4 _t; go_at_call 34; refine (unhide i2 _).mono ?_; rintro e wz ⟨rfl, rfl⟩; rw [EB]))
    all_goals go_ret
    all_goals exact ⟨ret_f rfl (unhide hm).symm, rfl⟩
  · have EA : decide (rng a = infR) = false := decide_eq_false ia
    have EB : decide (rng b = infR) = false := decide_eq_false ib
    clear ia ib
    have r1 := fun W => run_float_arith (P := Try.prog) W .quo 22 .f64 a 4611686018427387904 x o1
    have r2 := fun W => run_float_arith (P := Try.prog) W .quo 22 .f64 b 4611686018427387904 y o2
    have r3 := fun W => run_float_arith (P := Try.prog) W .add 22 .f64 x y _ o3
    clear o1 o2 o3
    generalize midF a b = m at *
    have t0 : True := trivial
    have t1 : True := trivial
    have t2 : True := trivial
    have t3 : True := trivial
    have t4 : True := trivial
    go_enter Try.func20, Try.ntmps20
    go_wp2_with (first
      | (have _t := t0; clear t0 _t; go_at_call 31; refine (unhide n1 _).mono ?_; rintro e wz ⟨rfl, rfl⟩; rw [NA])
      | (have _t := t1; clear t1 _t; go_at_call 31; refine (unhide n2 _).mono ?_; rintro e wz ⟨rfl, rfl⟩; rw [NB])
      | (have _t := t2; clear t2 _t; go_at_call 34; refine (unhide i1 _).mono ?_; rintro e wz ⟨rfl, rfl⟩; rw [EA])
      | (have _t := t3; clear t3 _t; go_at_call 34; refine (unhide i1 _).mono ?_; rintro e wz ⟨rfl, rfl⟩; rw [EA])
      | (have _t := t4; clear t4 _t; go_at_call 34; refine (unhide i2 _).mono ?_; rintro e wz ⟨rfl, rfl⟩; rw [EB]))
    all_goals go_ret
    all_goals exact ⟨ret_f rfl rfl, rfl⟩
end Go.Proofs.Ytdnahdogohdmjaa
