import Derived.Test.YtdnahdogohdmjaaW18
namespace Go.Proofs.Ytdnahdogohdmjaa
open Go.RowKit
set_option maxRecDepth 100000

attribute [local go_sem] run_store_float m_neg m_lt m_gt m_eq m_ne x_bits x_from eq_self_ Bool.not_not
attribute [local go_sem] m_le
theorem Rank_midF_lt (a b : Nat) (ha : a < 18446744073709551616) (hb : b < 18446744073709551616) : midF a b < 18446744073709551616 := by
  rcases mid_ref ha hb with ⟨_, e⟩ | ⟨_, _, ⟨_, _, e⟩ | ⟨_, _, e⟩ | ⟨_, _, e⟩ | ⟨_, _, x, y, _, _, e⟩⟩
  · rw [e]; decide
  · rw [e]; split; (· exact ha); decide
  · rw [e]; exact ha
  · rw [e]; exact hb
  · have := floatBits_wf e; simpa [Lit.wf] using this

set_option maxHeartbeats 4000000 in
theorem RankMid_any (a b : Nat) (ha : a < 18446744073709551616) (hb : b < 18446744073709551616) (w : World) : Calls Try.prog 8 #[.float .f64 a, .float .f64 b] w fun e w' => e = .returned (.bool true) ∧ Below w.heap.size w w' := by
  have hL := live_any w
  have m1 := fun W => Mid_any a b W
  have m2 := fun W => Mid_any b a W
  rw [midF_comm b a] at m2
  have hm := Rank_midF_lt a b ha hb
  have s1 := fun W => Same_any (midF a b) (midF a b) hm hm W
  have s2 : (keyF (midF a b) == keyF (midF a b)) = true := beq_self_eq_true _
  rw [s2] at s1
  have i1 := fun W => IsInf_any a ha W
  have i2 := fun W => IsInf_any b hb W
  have a1 := fun W => Abs_any a ha W
  have a2 := fun W => Abs_any b hb W
  have q9 := nan_nanC
  clear s2 hm
  replace hL := hide hL; replace m1 := hide m1; replace m2 := hide m2; replace s1 := hide s1; replace i1 := hide i1; replace i2 := hide i2; replace a1 := hide a1; replace a2 := hide a2
  cases na : nanB a
  · cases nb : nanB b
    · by_cases hi : rng a = infR ∧ rng b = infR
      · have e : midF a b = if fEq a b then a else nanC := by
          rcases mid_ref ha hb with ⟨h, _⟩ | ⟨_, _, ⟨_, _, e⟩ | ⟨_, h, _⟩ | ⟨h, _⟩ | ⟨h, _⟩⟩
          · rw [na, nb] at h; rcases h with h | h <;> cases h
          · exact e
          · exact absurd hi.2 h
          · exact absurd hi.1 h
          · exact absurd hi.1 h
        have v1 : decide (rng a = infR) = true := decide_eq_true hi.1
        have v2 : decide (rng b = infR) = true := decide_eq_true hi.2
        rw [v1] at i1
        rw [v2] at i2
        clear v1 v2 hi ha hb a1 a2
        cases he : fEq a b
        · rw [he, if_neg (by decide)] at e
          rw [e] at m1 m2 s1
          clear e
          have tk0 : True := trivial
          have tk1 : True := trivial
          have tk2 : True := trivial
          have tk3 : True := trivial
          have tk4 : True := trivial
          have tk5 : True := trivial
          go_enter Try.func8, Try.ntmps8
          go_wp2_with (first
            | (have _t := tk0; clear tk0 _t; go_at_call 10; refine (unhide hL).mono ?_; rintro ez wz0 ⟨rfl, hbl⟩; replace hbl := hide hbl)
            | (have _t := tk1; clear tk1 _t; go_at_call 19; refine (unhide m1 _).mono ?_; rintro ez wz1 ⟨rfl, n1, rfl⟩)
            | (have _t := tk2; clear tk2 _t; go_at_call 19; refine (unhide m2 _).mono ?_; rintro ez wz2 ⟨rfl, n2, rfl⟩)
            | (have _t := tk3; clear tk3 _t; go_at_call 18; refine (unhide s1 _).mono ?_; rintro ez wz3 ⟨rfl, rfl⟩)
            | (have _t := tk4; clear tk4 _t; go_at_call 26; refine (unhide i1 _).mono ?_; rintro ez wz4 ⟨rfl, rfl⟩)
            | (have _t := tk5; clear tk5 _t; go_at_call 26; refine (unhide i2 _).mono ?_; rintro ez wz5 ⟨rfl, rfl⟩)
            | fail)
          all_goals go_ret
          all_goals exact ⟨rfl, below_drewN (unhide hbl) _⟩
        · rw [he, if_pos rfl] at e
          rw [e] at m1 m2 s1
          clear e
          have tk0 : True := trivial
          have tk1 : True := trivial
          have tk2 : True := trivial
          have tk3 : True := trivial
          have tk4 : True := trivial
          have tk5 : True := trivial
          go_enter Try.func8, Try.ntmps8
          go_wp2_with (first
            | (have _t := tk0; clear tk0 _t; go_at_call 10; refine (unhide hL).mono ?_; rintro ez wz0 ⟨rfl, hbl⟩; replace hbl := hide hbl)
            | (have _t := tk1; clear tk1 _t; go_at_call 19; refine (unhide m1 _).mono ?_; rintro ez wz1 ⟨rfl, n1, rfl⟩)
            | (have _t := tk2; clear tk2 _t; go_at_call 19; refine (unhide m2 _).mono ?_; rintro ez wz2 ⟨rfl, n2, rfl⟩)
            | (have _t := tk3; clear tk3 _t; go_at_call 18; refine (unhide s1 _).mono ?_; rintro ez wz3 ⟨rfl, rfl⟩)
            | (have _t := tk4; clear tk4 _t; go_at_call 26; refine (unhide i1 _).mono ?_; rintro ez wz4 ⟨rfl, rfl⟩)
            | (have _t := tk5; clear tk5 _t; go_at_call 26; refine (unhide i2 _).mono ?_; rintro ez wz5 ⟨rfl, rfl⟩)
            | fail)
          all_goals go_ret
          all_goals exact ⟨rfl, below_drewN (unhide hbl) _⟩
      · have f1 := fun (W : World) => run_min_f (P := Try.prog) #[22, 22] 22 a b na nb W
        have f2 := fun (W : World) => run_max_f (P := Try.prog) #[22, 22] 22 a b na nb W
        have zA := zero_is ha na
        have zB := zero_is hb nb
        have yA := small_is na
        have yB := small_is nb
        have hbet := fun sa sb => mid_bet ha hb na nb hi sa sb
        have hia : decide (rng a = infR) = true → decide (rng b = infR) = false := fun h => decide_eq_false fun h' => hi ⟨of_decide_eq_true h, h'⟩
        clear ha hb hi
        generalize midF a b = m at *
        generalize minF a b = p at *
        generalize maxF a b = r at *
        generalize decide (rng a = infR) = VA at *
        generalize decide (rng b = infR) = VB at *
        generalize rng a = ra at *
        generalize rng b = rb at *
        replace hbet := hide hbet
        by_cases ea : ra = 0
        · have w1 : Hid (ra = 0 ∨ 103582791429521408 ≤ ra) := hide (.inl ea)
          have x1 : fEq a 0 = true := by rw [zA]; exact decide_eq_true ea
          by_cases eb : rb = 0
          · have w2 : Hid (rb = 0 ∨ 103582791429521408 ≤ rb) := hide (.inl eb)
            have x2 : fEq b 0 = true := by rw [zB]; exact decide_eq_true eb
            obtain ⟨t1, t2⟩ := (unhide hbet) (unhide w1) (unhide w2)
            clear zA zB yA yB ea eb
            cases VA
            · have tk0 : True := trivial
              have tk1 : True := trivial
              have tk2 : True := trivial
              have tk3 : True := trivial
              have tk4 : True := trivial
              go_enter Try.func8, Try.ntmps8
              go_wp2_with (first
                | (have _t := tk0; clear tk0 _t; go_at_call 10; refine (unhide hL).mono ?_; rintro ez wz0 ⟨rfl, hbl⟩; replace hbl := hide hbl)
                | (have _t := tk1; clear tk1 _t; go_at_call 19; refine (unhide m1 _).mono ?_; rintro ez wz1 ⟨rfl, n1, rfl⟩)
                | (have _t := tk2; clear tk2 _t; go_at_call 19; refine (unhide m2 _).mono ?_; rintro ez wz2 ⟨rfl, n2, rfl⟩)
                | (have _t := tk3; clear tk3 _t; go_at_call 18; refine (unhide s1 _).mono ?_; rintro ez wz3 ⟨rfl, rfl⟩)
                | (have _t := tk4; clear tk4 _t; go_at_call 26; refine (unhide i1 _).mono ?_; rintro ez wz4 ⟨rfl, rfl⟩)
                | fail)
              all_goals go_ret
              all_goals exact ⟨rfl, below_drewN (unhide hbl) _⟩
            · have v2 := hia rfl
              rw [v2] at i2
              have tk0 : True := trivial
              have tk1 : True := trivial
              have tk2 : True := trivial
              have tk3 : True := trivial
              have tk4 : True := trivial
              have tk5 : True := trivial
              go_enter Try.func8, Try.ntmps8
              go_wp2_with (first
                | (have _t := tk0; clear tk0 _t; go_at_call 10; refine (unhide hL).mono ?_; rintro ez wz0 ⟨rfl, hbl⟩; replace hbl := hide hbl)
                | (have _t := tk1; clear tk1 _t; go_at_call 19; refine (unhide m1 _).mono ?_; rintro ez wz1 ⟨rfl, n1, rfl⟩)
                | (have _t := tk2; clear tk2 _t; go_at_call 19; refine (unhide m2 _).mono ?_; rintro ez wz2 ⟨rfl, n2, rfl⟩)
                | (have _t := tk3; clear tk3 _t; go_at_call 18; refine (unhide s1 _).mono ?_; rintro ez wz3 ⟨rfl, rfl⟩)
                | (have _t := tk4; clear tk4 _t; go_at_call 26; refine (unhide i1 _).mono ?_; rintro ez wz4 ⟨rfl, rfl⟩)
                | (have _t := tk5; clear tk5 _t; go_at_call 26; refine (unhide i2 _).mono ?_; rintro ez wz5 ⟨rfl, rfl⟩)
                | fail)
              all_goals go_ret
              all_goals exact ⟨rfl, below_drewN (unhide hbl) _⟩
          · have x2 : fEq b 0 = false := by rw [zB]; exact decide_eq_false eb
            by_cases sb : rb < 103582791429521408
            · have x4 : fLt rb 103582791429521408 = true := by rw [yB]; exact decide_eq_true sb
              clear zA zB yA yB ea eb sb f1 f2
              cases VA
              · have tk0 : True := trivial
                have tk1 : True := trivial
                have tk2 : True := trivial
                have tk3 : True := trivial
                have tk4 : True := trivial
                have tk5 : True := trivial
                go_enter Try.func8, Try.ntmps8
                go_wp2_with (first
                  | (have _t := tk0; clear tk0 _t; go_at_call 10; refine (unhide hL).mono ?_; rintro ez wz0 ⟨rfl, hbl⟩; replace hbl := hide hbl)
                  | (have _t := tk1; clear tk1 _t; go_at_call 19; refine (unhide m1 _).mono ?_; rintro ez wz1 ⟨rfl, n1, rfl⟩)
                  | (have _t := tk2; clear tk2 _t; go_at_call 19; refine (unhide m2 _).mono ?_; rintro ez wz2 ⟨rfl, n2, rfl⟩)
                  | (have _t := tk3; clear tk3 _t; go_at_call 18; refine (unhide s1 _).mono ?_; rintro ez wz3 ⟨rfl, rfl⟩)
                  | (have _t := tk4; clear tk4 _t; go_at_call 26; refine (unhide i1 _).mono ?_; rintro ez wz4 ⟨rfl, rfl⟩)
                  | (have _t := tk5; clear tk5 _t; go_at_call 27; refine (unhide a2 _).mono ?_; rintro ez wz5 ⟨rfl, rfl⟩)
                  | fail)
                all_goals go_ret
                all_goals exact ⟨rfl, below_drewN (unhide hbl) _⟩
              · have v2 := hia rfl
                rw [v2] at i2
                have tk0 : True := trivial
                have tk1 : True := trivial
                have tk2 : True := trivial
                have tk3 : True := trivial
                have tk4 : True := trivial
                have tk5 : True := trivial
                have tk6 : True := trivial
                go_enter Try.func8, Try.ntmps8
                go_wp2_with (first
                  | (have _t := tk0; clear tk0 _t; go_at_call 10; refine (unhide hL).mono ?_; rintro ez wz0 ⟨rfl, hbl⟩; replace hbl := hide hbl)
                  | (have _t := tk1; clear tk1 _t; go_at_call 19; refine (unhide m1 _).mono ?_; rintro ez wz1 ⟨rfl, n1, rfl⟩)
                  | (have _t := tk2; clear tk2 _t; go_at_call 19; refine (unhide m2 _).mono ?_; rintro ez wz2 ⟨rfl, n2, rfl⟩)
                  | (have _t := tk3; clear tk3 _t; go_at_call 18; refine (unhide s1 _).mono ?_; rintro ez wz3 ⟨rfl, rfl⟩)
                  | (have _t := tk4; clear tk4 _t; go_at_call 26; refine (unhide i1 _).mono ?_; rintro ez wz4 ⟨rfl, rfl⟩)
                  | (have _t := tk5; clear tk5 _t; go_at_call 26; refine (unhide i2 _).mono ?_; rintro ez wz5 ⟨rfl, rfl⟩)
                  | (have _t := tk6; clear tk6 _t; go_at_call 27; refine (unhide a2 _).mono ?_; rintro ez wz6 ⟨rfl, rfl⟩)
                  | fail)
                all_goals go_ret
                all_goals exact ⟨rfl, below_drewN (unhide hbl) _⟩
            · have w2 : Hid (rb = 0 ∨ 103582791429521408 ≤ rb) := hide (.inr (Nat.not_lt.1 sb))
              have x4 : fLt rb 103582791429521408 = false := by rw [yB]; exact decide_eq_false sb
              obtain ⟨t1, t2⟩ := (unhide hbet) (unhide w1) (unhide w2)
              clear zA zB yA yB ea eb sb
              cases VA
              · have tk0 : True := trivial
                have tk1 : True := trivial
                have tk2 : True := trivial
                have tk3 : True := trivial
                have tk4 : True := trivial
                have tk5 : True := trivial
                go_enter Try.func8, Try.ntmps8
                go_wp2_with (first
                  | (have _t := tk0; clear tk0 _t; go_at_call 10; refine (unhide hL).mono ?_; rintro ez wz0 ⟨rfl, hbl⟩; replace hbl := hide hbl)
                  | (have _t := tk1; clear tk1 _t; go_at_call 19; refine (unhide m1 _).mono ?_; rintro ez wz1 ⟨rfl, n1, rfl⟩)
                  | (have _t := tk2; clear tk2 _t; go_at_call 19; refine (unhide m2 _).mono ?_; rintro ez wz2 ⟨rfl, n2, rfl⟩)
                  | (have _t := tk3; clear tk3 _t; go_at_call 18; refine (unhide s1 _).mono ?_; rintro ez wz3 ⟨rfl, rfl⟩)
                  | (have _t := tk4; clear tk4 _t; go_at_call 26; refine (unhide i1 _).mono ?_; rintro ez wz4 ⟨rfl, rfl⟩)
                  | (have _t := tk5; clear tk5 _t; go_at_call 27; refine (unhide a2 _).mono ?_; rintro ez wz5 ⟨rfl, rfl⟩)
                  | fail)
                all_goals go_ret
                all_goals exact ⟨rfl, below_drewN (unhide hbl) _⟩
              · have v2 := hia rfl
                rw [v2] at i2
                have tk0 : True := trivial
                have tk1 : True := trivial
                have tk2 : True := trivial
                have tk3 : True := trivial
                have tk4 : True := trivial
                have tk5 : True := trivial
                have tk6 : True := trivial
                go_enter Try.func8, Try.ntmps8
                go_wp2_with (first
                  | (have _t := tk0; clear tk0 _t; go_at_call 10; refine (unhide hL).mono ?_; rintro ez wz0 ⟨rfl, hbl⟩; replace hbl := hide hbl)
                  | (have _t := tk1; clear tk1 _t; go_at_call 19; refine (unhide m1 _).mono ?_; rintro ez wz1 ⟨rfl, n1, rfl⟩)
                  | (have _t := tk2; clear tk2 _t; go_at_call 19; refine (unhide m2 _).mono ?_; rintro ez wz2 ⟨rfl, n2, rfl⟩)
                  | (have _t := tk3; clear tk3 _t; go_at_call 18; refine (unhide s1 _).mono ?_; rintro ez wz3 ⟨rfl, rfl⟩)
                  | (have _t := tk4; clear tk4 _t; go_at_call 26; refine (unhide i1 _).mono ?_; rintro ez wz4 ⟨rfl, rfl⟩)
                  | (have _t := tk5; clear tk5 _t; go_at_call 26; refine (unhide i2 _).mono ?_; rintro ez wz5 ⟨rfl, rfl⟩)
                  | (have _t := tk6; clear tk6 _t; go_at_call 27; refine (unhide a2 _).mono ?_; rintro ez wz6 ⟨rfl, rfl⟩)
                  | fail)
                all_goals go_ret
                all_goals exact ⟨rfl, below_drewN (unhide hbl) _⟩
        · have x1 : fEq a 0 = false := by rw [zA]; exact decide_eq_false ea
          by_cases sa : ra < 103582791429521408
          · have x3 : fLt ra 103582791429521408 = true := by rw [yA]; exact decide_eq_true sa
            clear zA zB yA yB ea sa f1 f2
            cases VA
            · have tk0 : True := trivial
              have tk1 : True := trivial
              have tk2 : True := trivial
              have tk3 : True := trivial
              have tk4 : True := trivial
              have tk5 : True := trivial
              go_enter Try.func8, Try.ntmps8
              go_wp2_with (first
                | (have _t := tk0; clear tk0 _t; go_at_call 10; refine (unhide hL).mono ?_; rintro ez wz0 ⟨rfl, hbl⟩; replace hbl := hide hbl)
                | (have _t := tk1; clear tk1 _t; go_at_call 19; refine (unhide m1 _).mono ?_; rintro ez wz1 ⟨rfl, n1, rfl⟩)
                | (have _t := tk2; clear tk2 _t; go_at_call 19; refine (unhide m2 _).mono ?_; rintro ez wz2 ⟨rfl, n2, rfl⟩)
                | (have _t := tk3; clear tk3 _t; go_at_call 18; refine (unhide s1 _).mono ?_; rintro ez wz3 ⟨rfl, rfl⟩)
                | (have _t := tk4; clear tk4 _t; go_at_call 26; refine (unhide i1 _).mono ?_; rintro ez wz4 ⟨rfl, rfl⟩)
                | (have _t := tk5; clear tk5 _t; go_at_call 27; refine (unhide a1 _).mono ?_; rintro ez wz5 ⟨rfl, rfl⟩)
                | fail)
              all_goals go_ret
              all_goals exact ⟨rfl, below_drewN (unhide hbl) _⟩
            · have v2 := hia rfl
              rw [v2] at i2
              have tk0 : True := trivial
              have tk1 : True := trivial
              have tk2 : True := trivial
              have tk3 : True := trivial
              have tk4 : True := trivial
              have tk5 : True := trivial
              have tk6 : True := trivial
              go_enter Try.func8, Try.ntmps8
              go_wp2_with (first
                | (have _t := tk0; clear tk0 _t; go_at_call 10; refine (unhide hL).mono ?_; rintro ez wz0 ⟨rfl, hbl⟩; replace hbl := hide hbl)
                | (have _t := tk1; clear tk1 _t; go_at_call 19; refine (unhide m1 _).mono ?_; rintro ez wz1 ⟨rfl, n1, rfl⟩)
                | (have _t := tk2; clear tk2 _t; go_at_call 19; refine (unhide m2 _).mono ?_; rintro ez wz2 ⟨rfl, n2, rfl⟩)
                | (have _t := tk3; clear tk3 _t; go_at_call 18; refine (unhide s1 _).mono ?_; rintro ez wz3 ⟨rfl, rfl⟩)
                | (have _t := tk4; clear tk4 _t; go_at_call 26; refine (unhide i1 _).mono ?_; rintro ez wz4 ⟨rfl, rfl⟩)
                | (have _t := tk5; clear tk5 _t; go_at_call 26; refine (unhide i2 _).mono ?_; rintro ez wz5 ⟨rfl, rfl⟩)
                | (have _t := tk6; clear tk6 _t; go_at_call 27; refine (unhide a1 _).mono ?_; rintro ez wz6 ⟨rfl, rfl⟩)
                | fail)
              all_goals go_ret
              all_goals exact ⟨rfl, below_drewN (unhide hbl) _⟩
          · have w1 : Hid (ra = 0 ∨ 103582791429521408 ≤ ra) := hide (.inr (Nat.not_lt.1 sa))
            have x3 : fLt ra 103582791429521408 = false := by rw [yA]; exact decide_eq_false sa
            by_cases eb : rb = 0
            · have w2 : Hid (rb = 0 ∨ 103582791429521408 ≤ rb) := hide (.inl eb)
              have x2 : fEq b 0 = true := by rw [zB]; exact decide_eq_true eb
              obtain ⟨t1, t2⟩ := (unhide hbet) (unhide w1) (unhide w2)
              clear zA zB yA yB ea eb sa
              cases VA
              · have tk0 : True := trivial
                have tk1 : True := trivial
                have tk2 : True := trivial
                have tk3 : True := trivial
                have tk4 : True := trivial
                have tk5 : True := trivial
                go_enter Try.func8, Try.ntmps8
                go_wp2_with (first
                  | (have _t := tk0; clear tk0 _t; go_at_call 10; refine (unhide hL).mono ?_; rintro ez wz0 ⟨rfl, hbl⟩; replace hbl := hide hbl)
                  | (have _t := tk1; clear tk1 _t; go_at_call 19; refine (unhide m1 _).mono ?_; rintro ez wz1 ⟨rfl, n1, rfl⟩)
                  | (have _t := tk2; clear tk2 _t; go_at_call 19; refine (unhide m2 _).mono ?_; rintro ez wz2 ⟨rfl, n2, rfl⟩)
                  | (have _t := tk3; clear tk3 _t; go_at_call 18; refine (unhide s1 _).mono ?_; rintro ez wz3 ⟨rfl, rfl⟩)
                  | (have _t := tk4; clear tk4 _t; go_at_call 26; refine (unhide i1 _).mono ?_; rintro ez wz4 ⟨rfl, rfl⟩)
                  | (have _t := tk5; clear tk5 _t; go_at_call 27; refine (unhide a1 _).mono ?_; rintro ez wz5 ⟨rfl, rfl⟩)
                  | fail)
                all_goals go_ret
                all_goals exact ⟨rfl, below_drewN (unhide hbl) _⟩
              · have v2 := hia rfl
                rw [v2] at i2
                have tk0 : True := trivial
                have tk1 : True := trivial
                have tk2 : True := trivial
                have tk3 : True := trivial
                have tk4 : True := trivial
                have tk5 : True := trivial
                have tk6 : True := trivial
                go_enter Try.func8, Try.ntmps8
                go_wp2_with (first
                  | (have _t := tk0; clear tk0 _t; go_at_call 10; refine (unhide hL).mono ?_; rintro ez wz0 ⟨rfl, hbl⟩; replace hbl := hide hbl)
                  | (have _t := tk1; clear tk1 _t; go_at_call 19; refine (unhide m1 _).mono ?_; rintro ez wz1 ⟨rfl, n1, rfl⟩)
                  | (have _t := tk2; clear tk2 _t; go_at_call 19; refine (unhide m2 _).mono ?_; rintro ez wz2 ⟨rfl, n2, rfl⟩)
                  | (have _t := tk3; clear tk3 _t; go_at_call 18; refine (unhide s1 _).mono ?_; rintro ez wz3 ⟨rfl, rfl⟩)
                  | (have _t := tk4; clear tk4 _t; go_at_call 26; refine (unhide i1 _).mono ?_; rintro ez wz4 ⟨rfl, rfl⟩)
                  | (have _t := tk5; clear tk5 _t; go_at_call 26; refine (unhide i2 _).mono ?_; rintro ez wz5 ⟨rfl, rfl⟩)
                  | (have _t := tk6; clear tk6 _t; go_at_call 27; refine (unhide a1 _).mono ?_; rintro ez wz6 ⟨rfl, rfl⟩)
                  | fail)
                all_goals go_ret
                all_goals exact ⟨rfl, below_drewN (unhide hbl) _⟩
            · have x2 : fEq b 0 = false := by rw [zB]; exact decide_eq_false eb
              by_cases sb : rb < 103582791429521408
              · have x4 : fLt rb 103582791429521408 = true := by rw [yB]; exact decide_eq_true sb
                clear zA zB yA yB ea eb sa sb f1 f2
                cases VA
                · have tk0 : True := trivial
                  have tk1 : True := trivial
                  have tk2 : True := trivial
                  have tk3 : True := trivial
                  have tk4 : True := trivial
                  have tk5 : True := trivial
                  have tk6 : True := trivial
                  go_enter Try.func8, Try.ntmps8
                  go_wp2_with (first
                    | (have _t := tk0; clear tk0 _t; go_at_call 10; refine (unhide hL).mono ?_; rintro ez wz0 ⟨rfl, hbl⟩; replace hbl := hide hbl)
                    | (have _t := tk1; clear tk1 _t; go_at_call 19; refine (unhide m1 _).mono ?_; rintro ez wz1 ⟨rfl, n1, rfl⟩)
                    | (have _t := tk2; clear tk2 _t; go_at_call 19; refine (unhide m2 _).mono ?_; rintro ez wz2 ⟨rfl, n2, rfl⟩)
                    | (have _t := tk3; clear tk3 _t; go_at_call 18; refine (unhide s1 _).mono ?_; rintro ez wz3 ⟨rfl, rfl⟩)
                    | (have _t := tk4; clear tk4 _t; go_at_call 26; refine (unhide i1 _).mono ?_; rintro ez wz4 ⟨rfl, rfl⟩)
                    | (have _t := tk5; clear tk5 _t; go_at_call 27; refine (unhide a1 _).mono ?_; rintro ez wz5 ⟨rfl, rfl⟩)
                    | (have _t := tk6; clear tk6 _t; go_at_call 27; refine (unhide a2 _).mono ?_; rintro ez wz6 ⟨rfl, rfl⟩)
                    | fail)
                  all_goals go_ret
                  all_goals exact ⟨rfl, below_drewN (unhide hbl) _⟩
                · have v2 := hia rfl
                  rw [v2] at i2
                  have tk0 : True := trivial
                  have tk1 : True := trivial
                  have tk2 : True := trivial
                  have tk3 : True := trivial
                  have tk4 : True := trivial
                  have tk5 : True := trivial
                  have tk6 : True := trivial
                  have tk7 : True := trivial
                  go_enter Try.func8, Try.ntmps8
                  go_wp2_with (first
                    | (have _t := tk0; clear tk0 _t; go_at_call 10; refine (unhide hL).mono ?_; rintro ez wz0 ⟨rfl, hbl⟩; replace hbl := hide hbl)
                    | (have _t := tk1; clear tk1 _t; go_at_call 19; refine (unhide m1 _).mono ?_; rintro ez wz1 ⟨rfl, n1, rfl⟩)
                    | (have _t := tk2; clear tk2 _t; go_at_call 19; refine (unhide m2 _).mono ?_; rintro ez wz2 ⟨rfl, n2, rfl⟩)
                    | (have _t := tk3; clear tk3 _t; go_at_call 18; refine (unhide s1 _).mono ?_; rintro ez wz3 ⟨rfl, rfl⟩)
                    | (have _t := tk4; clear tk4 _t; go_at_call 26; refine (unhide i1 _).mono ?_; rintro ez wz4 ⟨rfl, rfl⟩)
                    | (have _t := tk5; clear tk5 _t; go_at_call 26; refine (unhide i2 _).mono ?_; rintro ez wz5 ⟨rfl, rfl⟩)
                    | (have _t := tk6; clear tk6 _t; go_at_call 27; refine (unhide a1 _).mono ?_; rintro ez wz6 ⟨rfl, rfl⟩)
                    | (have _t := tk7; clear tk7 _t; go_at_call 27; refine (unhide a2 _).mono ?_; rintro ez wz7 ⟨rfl, rfl⟩)
                    | fail)
                  all_goals go_ret
                  all_goals exact ⟨rfl, below_drewN (unhide hbl) _⟩
              · have w2 : Hid (rb = 0 ∨ 103582791429521408 ≤ rb) := hide (.inr (Nat.not_lt.1 sb))
                have x4 : fLt rb 103582791429521408 = false := by rw [yB]; exact decide_eq_false sb
                obtain ⟨t1, t2⟩ := (unhide hbet) (unhide w1) (unhide w2)
                clear zA zB yA yB ea eb sa sb
                cases VA
                · have tk0 : True := trivial
                  have tk1 : True := trivial
                  have tk2 : True := trivial
                  have tk3 : True := trivial
                  have tk4 : True := trivial
                  have tk5 : True := trivial
                  have tk6 : True := trivial
                  go_enter Try.func8, Try.ntmps8
                  go_wp2_with (first
                    | (have _t := tk0; clear tk0 _t; go_at_call 10; refine (unhide hL).mono ?_; rintro ez wz0 ⟨rfl, hbl⟩; replace hbl := hide hbl)
                    | (have _t := tk1; clear tk1 _t; go_at_call 19; refine (unhide m1 _).mono ?_; rintro ez wz1 ⟨rfl, n1, rfl⟩)
                    | (have _t := tk2; clear tk2 _t; go_at_call 19; refine (unhide m2 _).mono ?_; rintro ez wz2 ⟨rfl, n2, rfl⟩)
                    | (have _t := tk3; clear tk3 _t; go_at_call 18; refine (unhide s1 _).mono ?_; rintro ez wz3 ⟨rfl, rfl⟩)
                    | (have _t := tk4; clear tk4 _t; go_at_call 26; refine (unhide i1 _).mono ?_; rintro ez wz4 ⟨rfl, rfl⟩)
                    | (have _t := tk5; clear tk5 _t; go_at_call 27; refine (unhide a1 _).mono ?_; rintro ez wz5 ⟨rfl, rfl⟩)
                    | (have _t := tk6; clear tk6 _t; go_at_call 27; refine (unhide a2 _).mono ?_; rintro ez wz6 ⟨rfl, rfl⟩)
                    | fail)
                  all_goals go_ret
                  all_goals exact ⟨rfl, below_drewN (unhide hbl) _⟩
                · have v2 := hia rfl
                  rw [v2] at i2
                  have tk0 : True := trivial
                  have tk1 : True := trivial
                  have tk2 : True := trivial
                  have tk3 : True := trivial
                  have tk4 : True := trivial
                  have tk5 : True := trivial
                  have tk6 : True := trivial
                  have tk7 : True := trivial
                  go_enter Try.func8, Try.ntmps8
                  go_wp2_with (first
                    | (have _t := tk0; clear tk0 _t; go_at_call 10; refine (unhide hL).mono ?_; rintro ez wz0 ⟨rfl, hbl⟩; replace hbl := hide hbl)
                    | (have _t := tk1; clear tk1 _t; go_at_call 19; refine (unhide m1 _).mono ?_; rintro ez wz1 ⟨rfl, n1, rfl⟩)
                    | (have _t := tk2; clear tk2 _t; go_at_call 19; refine (unhide m2 _).mono ?_; rintro ez wz2 ⟨rfl, n2, rfl⟩)
                    | (have _t := tk3; clear tk3 _t; go_at_call 18; refine (unhide s1 _).mono ?_; rintro ez wz3 ⟨rfl, rfl⟩)
                    | (have _t := tk4; clear tk4 _t; go_at_call 26; refine (unhide i1 _).mono ?_; rintro ez wz4 ⟨rfl, rfl⟩)
                    | (have _t := tk5; clear tk5 _t; go_at_call 26; refine (unhide i2 _).mono ?_; rintro ez wz5 ⟨rfl, rfl⟩)
                    | (have _t := tk6; clear tk6 _t; go_at_call 27; refine (unhide a1 _).mono ?_; rintro ez wz6 ⟨rfl, rfl⟩)
                    | (have _t := tk7; clear tk7 _t; go_at_call 27; refine (unhide a2 _).mono ?_; rintro ez wz7 ⟨rfl, rfl⟩)
                    | fail)
                  all_goals go_ret
                  all_goals exact ⟨rfl, below_drewN (unhide hbl) _⟩
    · have e : midF a b = nanC := midF_nan (.inr (nan_iff.1 nb))
      rw [e] at m1 m2 s1
      clear e ha hb i1 i2 a1 a2
      have tk0 : True := trivial
      have tk1 : True := trivial
      have tk2 : True := trivial
      have tk3 : True := trivial
      go_enter Try.func8, Try.ntmps8
      go_wp2_with (first
        | (have _t := tk0; clear tk0 _t; go_at_call 10; refine (unhide hL).mono ?_; rintro ez wz0 ⟨rfl, hbl⟩; replace hbl := hide hbl)
        | (have _t := tk1; clear tk1 _t; go_at_call 19; refine (unhide m1 _).mono ?_; rintro ez wz1 ⟨rfl, n1, rfl⟩)
        | (have _t := tk2; clear tk2 _t; go_at_call 19; refine (unhide m2 _).mono ?_; rintro ez wz2 ⟨rfl, n2, rfl⟩)
        | (have _t := tk3; clear tk3 _t; go_at_call 18; refine (unhide s1 _).mono ?_; rintro ez wz3 ⟨rfl, rfl⟩)
        | fail)
      all_goals go_ret
      all_goals exact ⟨rfl, below_drewN (unhide hbl) _⟩
  · have e : midF a b = nanC := midF_nan (.inl (nan_iff.1 na))
    rw [e] at m1 m2 s1
    clear e ha hb i1 i2 a1 a2
    have tk0 : True := trivial
    have tk1 : True := trivial
    have tk2 : True := trivial
    have tk3 : True := trivial
    go_enter Try.func8, Try.ntmps8
    go_wp2_with (first
      | (have _t := tk0; clear tk0 _t; go_at_call 10; refine (unhide hL).mono ?_; rintro ez wz0 ⟨rfl, hbl⟩; replace hbl := hide hbl)
      | (have _t := tk1; clear tk1 _t; go_at_call 19; refine (unhide m1 _).mono ?_; rintro ez wz1 ⟨rfl, n1, rfl⟩)
      | (have _t := tk2; clear tk2 _t; go_at_call 19; refine (unhide m2 _).mono ?_; rintro ez wz2 ⟨rfl, n2, rfl⟩)
      | (have _t := tk3; clear tk3 _t; go_at_call 18; refine (unhide s1 _).mono ?_; rintro ez wz3 ⟨rfl, rfl⟩)
      | fail)
    all_goals go_ret
    all_goals exact ⟨rfl, below_drewN (unhide hbl) _⟩
end Go.Proofs.Ytdnahdogohdmjaa
