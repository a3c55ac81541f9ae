import Derived.Test.YtdnahdogohdmjaaW17
namespace Go.Proofs.Ytdnahdogohdmjaa
open Go.RowKit
set_option maxRecDepth 100000

attribute [local go_sem] run_store_float m_neg m_lt m_gt m_eq m_ne x_bits x_from eq_self_ Bool.not_not
set_option maxHeartbeats 2000000 in
theorem RankFlip_any (a b : Nat) (ha : a < 18446744073709551616) (hb : b < 18446744073709551616) (w : World) : Calls Try.prog 9 #[.float .f64 a, .float .f64 b] w fun e w' => e = .returned (.bool true) ∧ Below w.heap.size w w' := by
  have hL := live_any w
  obtain ⟨ha', _, na', _⟩ := ng_all ha
  obtain ⟨hb', _, nb', _⟩ := ng_all hb
  have h1 := fun W => Key_any a ha W
  have h2 := fun W => Key_any (ngF a) ha' W
  have h3 := fun W => Cmp_any a b ha hb W
  have h4 := fun W => Cmp_any (ngF a) (ngF b) ha' hb' W
  replace hL := hide hL
  cases na : nanB a
  · cases nb : nanB b
    · have e1 := key_flip ha na
      have e2 := cmp_flip ha hb na nb
      have i1 : IntKind.u64.wrap (((keyF a : Nat) : Int) + ((keyF (ngF a) : Nat) : Int)) = 18446744073709551615 := by rw [u64_in _ (by omega) (by omega)]; omega
      rw [e2] at h3
      have k3 := cmp_cases (keyF (ngF a)) (keyF (ngF b))
      clear e1 e2 ha hb ha' hb' na' nb'
      generalize keyF a = x at *
      generalize keyF (ngF a) = y at *
      generalize keyF (ngF b) = z at *
      rcases k3 with ⟨u6, e6⟩ | ⟨u6, e6⟩ | ⟨u6, e6⟩
      all_goals
        rw [e6] at h3 h4
        clear e6 u6
        replace h1 := hide h1; replace h2 := hide h2; replace h3 := hide h3; replace h4 := hide h4
        have tk0 : True := trivial
        have tk1 : True := trivial
        have tk2 : True := trivial
        have tk3 : True := trivial
        have tk4 : True := trivial
        go_enter Try.func9, Try.ntmps9
        go_wp2_with (first
          | (have _t := tk0; clear tk0 _t; go_at_call 10; refine (unhide hL).mono ?_; rintro ez wz0 ⟨rfl, hbl⟩; replace hbl := hide hbl)
          | (have _t := tk1; clear tk1 _t; go_at_call 13; refine (unhide h1 _).mono ?_; rintro ez wz1 ⟨rfl, rfl⟩)
          | (have _t := tk2; clear tk2 _t; go_at_call 13; refine (unhide h2 _).mono ?_; rintro ez wz2 ⟨rfl, rfl⟩)
          | (have _t := tk3; clear tk3 _t; go_at_call 16; refine (unhide h3 _).mono ?_; rintro ez wz3 ⟨rfl, rfl⟩)
          | (have _t := tk4; clear tk4 _t; go_at_call 16; refine (unhide h4 _).mono ?_; rintro ez wz4 ⟨rfl, rfl⟩)
          | fail)
        all_goals go_ret
        all_goals exact ⟨rfl, unhide hbl⟩
    · clear ha hb ha' hb' na' nb' h1 h2 h3 h4
      have tk0 : True := trivial
      go_enter Try.func9, Try.ntmps9
      go_wp2_with (first
        | (have _t := tk0; clear tk0 _t; go_at_call 10; refine (unhide hL).mono ?_; rintro ez wz0 ⟨rfl, hbl⟩; replace hbl := hide hbl)
        | fail)
      all_goals go_ret
      all_goals exact ⟨rfl, unhide hbl⟩
  · have e1 := nan_key na
    have e2 : keyF (ngF a) = keyF a := (nan_key (na'.trans na)).trans e1.symm
    rw [e2] at h2
    generalize keyF a = K at *
    clear ha hb ha' hb' na' nb' h3 h4 e1 e2
    replace h1 := hide h1; replace h2 := hide h2
    have tk0 : True := trivial
    have tk1 : True := trivial
    have tk2 : True := trivial
    go_enter Try.func9, Try.ntmps9
    go_wp2_with (first
      | (have _t := tk0; clear tk0 _t; go_at_call 10; refine (unhide hL).mono ?_; rintro ez wz0 ⟨rfl, hbl⟩; replace hbl := hide hbl)
      | (have _t := tk1; clear tk1 _t; go_at_call 13; refine (unhide h2 _).mono ?_; rintro ez wz1 ⟨rfl, rfl⟩)
      | (have _t := tk2; clear tk2 _t; go_at_call 13; refine (unhide h1 _).mono ?_; rintro ez wz2 ⟨rfl, rfl⟩)
      | fail)
    all_goals go_ret
    all_goals exact ⟨rfl, unhide hbl⟩
end Go.Proofs.Ytdnahdogohdmjaa
