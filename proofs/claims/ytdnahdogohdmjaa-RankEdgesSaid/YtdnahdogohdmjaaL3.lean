import Derived.Test.YtdnahdogohdmjaaW17
namespace Go.Proofs.Ytdnahdogohdmjaa
open Go.RowKit
set_option maxRecDepth 100000

attribute [local go_sem] run_store_float m_neg m_lt m_gt m_eq m_ne x_bits x_from eq_self_ Bool.not_not
set_option maxHeartbeats 2000000 in
theorem RankEdges_any (a b : Nat) (ha : a < 18446744073709551616) (hb : b < 18446744073709551616) (w : World) : Calls Try.prog 6 #[.float .f64 a, .float .f64 b] w fun e w' => e = .returned (.bool true) ∧ Below w.heap.size w w' := by
  have hL := live_any w
  have g0 := fun W => Copysign_any W
  have g1 : ∀ W, Calls Try.prog 13 #[.float .f64 9223372036854775808] W fun e w' => e = .returned (.int .u64 9223372036854775807) ∧ W = w' := fun W => Key_any 9223372036854775808 (by decide) W
  have g2 : ∀ W, Calls Try.prog 13 #[.float .f64 0] W fun e w' => e = .returned (.int .u64 9223372036854775808) ∧ W = w' := fun W => Key_any 0 (by decide) W
  have g3 : ∀ W, Calls Try.prog 16 #[.float .f64 9223372036854775808, .float .f64 0] W fun e w' => e = .returned (.int .i64 (-1)) ∧ W = w' := fun W => Cmp_any 9223372036854775808 0 (by decide) (by decide) W
  have g4 : ∀ W, Calls Try.prog 18 #[.float .f64 9223372036854775808, .float .f64 0] W fun e w' => e = .returned (.bool false) ∧ W = w' := fun W => Same_any 9223372036854775808 0 (by decide) (by decide) W
  have g5 := fun W => NaN_any W
  have g6 := fun W => Same_any a nanC ha (by decide) W
  have h1 := fun W => Cmp_any a b ha hb W
  have h2 := fun W => Cmp_any b a hb ha W
  have h3 := fun W => Same_any a b ha hb W
  have kn : keyF nanC = 18446744073709551615 := by decide
  replace hL := hide hL; replace g0 := hide g0; replace g1 := hide g1; replace g2 := hide g2; replace g3 := hide g3; replace g4 := hide g4; replace g5 := hide g5
  have ka := key_cases ha
  have kb := key_cases hb
  rcases ka with ⟨na, ka⟩ | ⟨na, ka⟩
  · have l1 : fLt a b = false := by unfold fLt; rw [na]; rfl
    have l2 : fLt b a = false := by unfold fLt; rw [na]; simp
    have e6 : (keyF a == keyF nanC) = true := by rw [ka, kn]; rfl
    rw [e6] at g6
    rcases kb with ⟨nb, kb⟩ | ⟨nb, kb⟩
    · clear ha hb ka kb kn e6 h1 h2 h3
      replace g6 := hide g6
      have tk0 : True := trivial
      have tk1 : True := trivial
      have tk2 : True := trivial
      have tk3 : True := trivial
      have tk4 : True := trivial
      have tk5 : True := trivial
      have tk6 : True := trivial
      have tk7 : True := trivial
      go_enter Try.func6, Try.ntmps6
      go_wp2_with (first
        | (have _t := tk0; clear tk0 _t; go_at_call 10; refine (unhide hL).mono ?_; rintro ez wz0 ⟨rfl, hbl⟩; replace hbl := hide hbl)
        | (have _t := tk1; clear tk1 _t; go_at_call 24; refine (unhide g0 _).mono ?_; rintro ez wz1 ⟨rfl, rfl⟩)
        | (have _t := tk2; clear tk2 _t; go_at_call 13; refine (unhide g1 _).mono ?_; rintro ez wz2 ⟨rfl, rfl⟩)
        | (have _t := tk3; clear tk3 _t; go_at_call 13; refine (unhide g2 _).mono ?_; rintro ez wz3 ⟨rfl, rfl⟩)
        | (have _t := tk4; clear tk4 _t; go_at_call 16; refine (unhide g3 _).mono ?_; rintro ez wz4 ⟨rfl, rfl⟩)
        | (have _t := tk5; clear tk5 _t; go_at_call 18; refine (unhide g4 _).mono ?_; rintro ez wz5 ⟨rfl, rfl⟩)
        | (have _t := tk6; clear tk6 _t; go_at_call 25; refine (unhide g5 _).mono ?_; rintro ez wz6 ⟨rfl, rfl⟩)
        | (have _t := tk7; clear tk7 _t; go_at_call 18; refine (unhide g6 _).mono ?_; rintro ez wz7 ⟨rfl, rfl⟩)
        | fail)
      all_goals go_ret
      all_goals exact ⟨rfl, unhide hbl⟩
    · have e1 : cmpN (keyF a) (keyF b) = 1 := by unfold cmpN; rw [if_neg (by omega), if_pos (by omega)]
      have e2 : cmpN (keyF b) (keyF a) = -1 := by unfold cmpN; rw [if_pos (by omega)]
      rw [e1] at h1
      rw [e2] at h2
      clear ha hb ka kb kn e6 h3 e1 e2
      replace g6 := hide g6; replace h1 := hide h1; replace h2 := hide h2
      have tk0 : True := trivial
      have tk1 : True := trivial
      have tk2 : True := trivial
      have tk3 : True := trivial
      have tk4 : True := trivial
      have tk5 : True := trivial
      have tk6 : True := trivial
      have tk7 : True := trivial
      have tk8 : True := trivial
      have tk9 : True := trivial
      go_enter Try.func6, Try.ntmps6
      go_wp2_with (first
        | (have _t := tk0; clear tk0 _t; go_at_call 10; refine (unhide hL).mono ?_; rintro ez wz0 ⟨rfl, hbl⟩; replace hbl := hide hbl)
        | (have _t := tk1; clear tk1 _t; go_at_call 24; refine (unhide g0 _).mono ?_; rintro ez wz1 ⟨rfl, rfl⟩)
        | (have _t := tk2; clear tk2 _t; go_at_call 13; refine (unhide g1 _).mono ?_; rintro ez wz2 ⟨rfl, rfl⟩)
        | (have _t := tk3; clear tk3 _t; go_at_call 13; refine (unhide g2 _).mono ?_; rintro ez wz3 ⟨rfl, rfl⟩)
        | (have _t := tk4; clear tk4 _t; go_at_call 16; refine (unhide g3 _).mono ?_; rintro ez wz4 ⟨rfl, rfl⟩)
        | (have _t := tk5; clear tk5 _t; go_at_call 18; refine (unhide g4 _).mono ?_; rintro ez wz5 ⟨rfl, rfl⟩)
        | (have _t := tk6; clear tk6 _t; go_at_call 25; refine (unhide g5 _).mono ?_; rintro ez wz6 ⟨rfl, rfl⟩)
        | (have _t := tk7; clear tk7 _t; go_at_call 18; refine (unhide g6 _).mono ?_; rintro ez wz7 ⟨rfl, rfl⟩)
        | (have _t := tk8; clear tk8 _t; go_at_call 16; refine (unhide h2 _).mono ?_; rintro ez wz8 ⟨rfl, rfl⟩)
        | (have _t := tk9; clear tk9 _t; go_at_call 16; refine (unhide h1 _).mono ?_; rintro ez wz9 ⟨rfl, rfl⟩)
        | fail)
      all_goals go_ret
      all_goals exact ⟨rfl, unhide hbl⟩
  · clear g6 kn
    rcases kb with ⟨nb, kb⟩ | ⟨nb, kb⟩
    · have l1 : fLt a b = false := by unfold fLt; rw [nb]; simp
      have l2 : fLt b a = false := by unfold fLt; rw [nb]; rfl
      have l3 : fEq a b = false := by unfold fEq; rw [nb]; simp
      clear ha hb ka kb h1 h2 h3
      have tk0 : True := trivial
      have tk1 : True := trivial
      have tk2 : True := trivial
      have tk3 : True := trivial
      have tk4 : True := trivial
      have tk5 : True := trivial
      go_enter Try.func6, Try.ntmps6
      go_wp2_with (first
        | (have _t := tk0; clear tk0 _t; go_at_call 10; refine (unhide hL).mono ?_; rintro ez wz0 ⟨rfl, hbl⟩; replace hbl := hide hbl)
        | (have _t := tk1; clear tk1 _t; go_at_call 24; refine (unhide g0 _).mono ?_; rintro ez wz1 ⟨rfl, rfl⟩)
        | (have _t := tk2; clear tk2 _t; go_at_call 13; refine (unhide g1 _).mono ?_; rintro ez wz2 ⟨rfl, rfl⟩)
        | (have _t := tk3; clear tk3 _t; go_at_call 13; refine (unhide g2 _).mono ?_; rintro ez wz3 ⟨rfl, rfl⟩)
        | (have _t := tk4; clear tk4 _t; go_at_call 16; refine (unhide g3 _).mono ?_; rintro ez wz4 ⟨rfl, rfl⟩)
        | (have _t := tk5; clear tk5 _t; go_at_call 18; refine (unhide g4 _).mono ?_; rintro ez wz5 ⟨rfl, rfl⟩)
        | fail)
      all_goals go_ret
      all_goals exact ⟨rfl, unhide hbl⟩
    · rcases Int.lt_trichotomy (sr a) (sr b) with hs | hs | hs
      · have l1 : fLt a b = true := lt_iff.2 ⟨na, nb, hs⟩
        have l2 : fLt b a = false := by rw [Bool.eq_false_iff]; intro h; have := (lt_iff.1 h).2.2; omega
        have l3 : fEq a b = false := by rw [Bool.eq_false_iff]; intro h; have := (eq_iff.1 h).2.2; omega
        have e1 : cmpN (keyF a) (keyF b) = -1 := by unfold cmpN; rw [if_pos (by omega)]
        rw [e1] at h1
        clear ha hb ka kb h2 h3 hs e1
        replace h1 := hide h1
        have tk0 : True := trivial
        have tk1 : True := trivial
        have tk2 : True := trivial
        have tk3 : True := trivial
        have tk4 : True := trivial
        have tk5 : True := trivial
        have tk6 : True := trivial
        go_enter Try.func6, Try.ntmps6
        go_wp2_with (first
          | (have _t := tk0; clear tk0 _t; go_at_call 10; refine (unhide hL).mono ?_; rintro ez wz0 ⟨rfl, hbl⟩; replace hbl := hide hbl)
          | (have _t := tk1; clear tk1 _t; go_at_call 24; refine (unhide g0 _).mono ?_; rintro ez wz1 ⟨rfl, rfl⟩)
          | (have _t := tk2; clear tk2 _t; go_at_call 13; refine (unhide g1 _).mono ?_; rintro ez wz2 ⟨rfl, rfl⟩)
          | (have _t := tk3; clear tk3 _t; go_at_call 13; refine (unhide g2 _).mono ?_; rintro ez wz3 ⟨rfl, rfl⟩)
          | (have _t := tk4; clear tk4 _t; go_at_call 16; refine (unhide g3 _).mono ?_; rintro ez wz4 ⟨rfl, rfl⟩)
          | (have _t := tk5; clear tk5 _t; go_at_call 18; refine (unhide g4 _).mono ?_; rintro ez wz5 ⟨rfl, rfl⟩)
          | (have _t := tk6; clear tk6 _t; go_at_call 16; refine (unhide h1 _).mono ?_; rintro ez wz6 ⟨rfl, rfl⟩)
          | fail)
        all_goals go_ret
        all_goals exact ⟨rfl, unhide hbl⟩
      · have l1 : fLt a b = false := by rw [Bool.eq_false_iff]; intro h; have := (lt_iff.1 h).2.2; omega
        have l2 : fLt b a = false := by rw [Bool.eq_false_iff]; intro h; have := (lt_iff.1 h).2.2; omega
        have l3 : fEq a b = true := eq_iff.2 ⟨na, nb, hs⟩
        by_cases hk : keyF a = keyF b
        · have e3 : (keyF a == keyF b) = true := by simp [hk]
          rw [e3] at h3
          clear ha hb ka kb h1 h2 hs e3 hk
          replace h3 := hide h3
          have tk0 : True := trivial
          have tk1 : True := trivial
          have tk2 : True := trivial
          have tk3 : True := trivial
          have tk4 : True := trivial
          have tk5 : True := trivial
          have tk6 : True := trivial
          go_enter Try.func6, Try.ntmps6
          go_wp2_with (first
            | (have _t := tk0; clear tk0 _t; go_at_call 10; refine (unhide hL).mono ?_; rintro ez wz0 ⟨rfl, hbl⟩; replace hbl := hide hbl)
            | (have _t := tk1; clear tk1 _t; go_at_call 24; refine (unhide g0 _).mono ?_; rintro ez wz1 ⟨rfl, rfl⟩)
            | (have _t := tk2; clear tk2 _t; go_at_call 13; refine (unhide g1 _).mono ?_; rintro ez wz2 ⟨rfl, rfl⟩)
            | (have _t := tk3; clear tk3 _t; go_at_call 13; refine (unhide g2 _).mono ?_; rintro ez wz3 ⟨rfl, rfl⟩)
            | (have _t := tk4; clear tk4 _t; go_at_call 16; refine (unhide g3 _).mono ?_; rintro ez wz4 ⟨rfl, rfl⟩)
            | (have _t := tk5; clear tk5 _t; go_at_call 18; refine (unhide g4 _).mono ?_; rintro ez wz5 ⟨rfl, rfl⟩)
            | (have _t := tk6; clear tk6 _t; go_at_call 18; refine (unhide h3 _).mono ?_; rintro ez wz6 ⟨rfl, rfl⟩)
            | fail)
          all_goals go_ret
          all_goals exact ⟨rfl, unhide hbl⟩
        · have e3 : (keyF a == keyF b) = false := by simp [hk]
          rw [e3] at h3
          have l4 : fEq a 0 = true := eq_iff.2 ⟨na, by decide, by have : sr 0 = 0 := by decide
                                                                  rw [this]; omega⟩
          clear ha hb ka kb h1 h2 hs e3 hk
          replace h3 := hide h3
          have tk0 : True := trivial
          have tk1 : True := trivial
          have tk2 : True := trivial
          have tk3 : True := trivial
          have tk4 : True := trivial
          have tk5 : True := trivial
          have tk6 : True := trivial
          go_enter Try.func6, Try.ntmps6
          go_wp2_with (first
            | (have _t := tk0; clear tk0 _t; go_at_call 10; refine (unhide hL).mono ?_; rintro ez wz0 ⟨rfl, hbl⟩; replace hbl := hide hbl)
            | (have _t := tk1; clear tk1 _t; go_at_call 24; refine (unhide g0 _).mono ?_; rintro ez wz1 ⟨rfl, rfl⟩)
            | (have _t := tk2; clear tk2 _t; go_at_call 13; refine (unhide g1 _).mono ?_; rintro ez wz2 ⟨rfl, rfl⟩)
            | (have _t := tk3; clear tk3 _t; go_at_call 13; refine (unhide g2 _).mono ?_; rintro ez wz3 ⟨rfl, rfl⟩)
            | (have _t := tk4; clear tk4 _t; go_at_call 16; refine (unhide g3 _).mono ?_; rintro ez wz4 ⟨rfl, rfl⟩)
            | (have _t := tk5; clear tk5 _t; go_at_call 18; refine (unhide g4 _).mono ?_; rintro ez wz5 ⟨rfl, rfl⟩)
            | (have _t := tk6; clear tk6 _t; go_at_call 18; refine (unhide h3 _).mono ?_; rintro ez wz6 ⟨rfl, rfl⟩)
            | fail)
          all_goals go_ret
          all_goals exact ⟨rfl, unhide hbl⟩
      · have l1 : fLt a b = false := by rw [Bool.eq_false_iff]; intro h; have := (lt_iff.1 h).2.2; omega
        have l2 : fLt b a = true := lt_iff.2 ⟨nb, na, hs⟩
        have l3 : fEq a b = false := by rw [Bool.eq_false_iff]; intro h; have := (eq_iff.1 h).2.2; omega
        have e1 : cmpN (keyF a) (keyF b) = 1 := by unfold cmpN; rw [if_neg (by omega), if_pos (by omega)]
        rw [e1] at h1
        clear ha hb ka kb h2 h3 hs e1
        replace h1 := hide h1
        have tk0 : True := trivial
        have tk1 : True := trivial
        have tk2 : True := trivial
        have tk3 : True := trivial
        have tk4 : True := trivial
        have tk5 : True := trivial
        have tk6 : True := trivial
        go_enter Try.func6, Try.ntmps6
        go_wp2_with (first
          | (have _t := tk0; clear tk0 _t; go_at_call 10; refine (unhide hL).mono ?_; rintro ez wz0 ⟨rfl, hbl⟩; replace hbl := hide hbl)
          | (have _t := tk1; clear tk1 _t; go_at_call 24; refine (unhide g0 _).mono ?_; rintro ez wz1 ⟨rfl, rfl⟩)
          | (have _t := tk2; clear tk2 _t; go_at_call 13; refine (unhide g1 _).mono ?_; rintro ez wz2 ⟨rfl, rfl⟩)
          | (have _t := tk3; clear tk3 _t; go_at_call 13; refine (unhide g2 _).mono ?_; rintro ez wz3 ⟨rfl, rfl⟩)
          | (have _t := tk4; clear tk4 _t; go_at_call 16; refine (unhide g3 _).mono ?_; rintro ez wz4 ⟨rfl, rfl⟩)
          | (have _t := tk5; clear tk5 _t; go_at_call 18; refine (unhide g4 _).mono ?_; rintro ez wz5 ⟨rfl, rfl⟩)
          | (have _t := tk6; clear tk6 _t; go_at_call 16; refine (unhide h1 _).mono ?_; rintro ez wz6 ⟨rfl, rfl⟩)
          | fail)
        all_goals go_ret
        all_goals exact ⟨rfl, unhide hbl⟩
end Go.Proofs.Ytdnahdogohdmjaa
