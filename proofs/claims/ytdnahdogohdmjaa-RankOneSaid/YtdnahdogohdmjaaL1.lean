import Derived.Test.YtdnahdogohdmjaaW17
namespace Go.Proofs.Ytdnahdogohdmjaa
open Go.RowKit
set_option maxRecDepth 100000

attribute [local go_sem] run_store_float m_neg m_lt m_gt m_eq m_ne x_bits x_from eq_self_ Bool.not_not
set_option maxHeartbeats 2000000 in
theorem RankOne_any (a b c : Nat) (ha : a < 18446744073709551616) (hb : b < 18446744073709551616) (hc : c < 18446744073709551616) (w : World) : Calls Try.prog 7 #[.float .f64 a, .float .f64 b, .float .f64 c] w fun e w' => e = .returned (.bool true) ∧ Below w.heap.size w w' := by
  have hL := live_any w
  have h1 := fun W => Cmp_any a b ha hb W
  have h2 := fun W => Cmp_any b a hb ha W
  have h3 := fun W => Same_any a b ha hb W
  have h4 := fun W => Cmp_any a a ha ha W
  have h5 := fun W => Cmp_any b c hb hc W
  have h6 := fun W => Cmp_any a c ha hc W
  generalize keyF a = x at *
  generalize keyF b = y at *
  generalize keyF c = z at *
  have e4 : cmpN x x = 0 := by unfold cmpN; rw [if_neg (by omega), if_neg (by omega)]
  rw [e4] at h4
  clear ha hb hc e4
  replace hL := hide hL
  have k1 : (x < y ∧ cmpN x y = -1 ∧ cmpN y x = 1 ∧ (x == y) = false) ∨ (y < x ∧ cmpN x y = 1 ∧ cmpN y x = -1 ∧ (x == y) = false) ∨ (x = y ∧ cmpN x y = 0 ∧ cmpN y x = 0 ∧ (x == y) = true) := by
    rcases cmp_cases x y with ⟨u, e⟩ | ⟨u, e⟩ | ⟨u, e⟩
    · exact .inl ⟨u, e, by unfold cmpN; rw [if_neg (by omega), if_pos u], by simp; omega⟩
    · exact .inr (.inl ⟨u, e, by unfold cmpN; rw [if_pos u], by simp; omega⟩)
    · exact .inr (.inr ⟨u, e, by rw [u] at e ⊢; exact e, by simp [u]⟩)
  have k2 := cmp_cases y z
  have k3 := cmp_cases x z
  rcases k1 with ⟨u1, e1, e2, e3⟩ | ⟨u1, e1, e2, e3⟩ | ⟨u1, e1, e2, e3⟩ <;> rcases k2 with ⟨u2, e5⟩ | ⟨u2, e5⟩ | ⟨u2, e5⟩ <;> rcases k3 with ⟨u3, e6⟩ | ⟨u3, e6⟩ | ⟨u3, e6⟩ <;> (try (exfalso; omega))
  all_goals
    rw [e1] at h1
    rw [e2] at h2
    rw [e3] at h3
    rw [e5] at h5
    rw [e6] at h6
    clear u1 u2 u3 e1 e2 e3 e5 e6
    replace h1 := hide h1; replace h2 := hide h2; replace h3 := hide h3; replace h4 := hide h4; replace h5 := hide h5; replace h6 := hide h6
    have tk0 : True := trivial
    have tk1 : True := trivial
    have tk2 : True := trivial
    have tk3 : True := trivial
    have tk4 : True := trivial
    have tk5 : True := trivial
    have tk6 : True := trivial
    go_enter Try.func7, Try.ntmps7
    go_wp2_with (first
      | (have _t := tk0; clear tk0 _t; go_at_call 10; refine (unhide hL).mono ?_; rintro ez wz0 ⟨rfl, hbl⟩; replace hbl := hide hbl)
      | (have _t := tk1; clear tk1 _t; go_at_call 16; refine (unhide h1 _).mono ?_; rintro ez wz1 ⟨rfl, rfl⟩)
      | (have _t := tk2; clear tk2 _t; go_at_call 16; refine (unhide h2 _).mono ?_; rintro ez wz2 ⟨rfl, rfl⟩)
      | (have _t := tk3; clear tk3 _t; go_at_call 18; refine (unhide h3 _).mono ?_; rintro ez wz3 ⟨rfl, rfl⟩)
      | (have _t := tk4; clear tk4 _t; go_at_call 16; refine (unhide h4 _).mono ?_; rintro ez wz4 ⟨rfl, rfl⟩)
      | (have _t := tk5; clear tk5 _t; go_at_call 16; refine (unhide h5 _).mono ?_; rintro ez wz5 ⟨rfl, rfl⟩)
      | (have _t := tk6; clear tk6 _t; go_at_call 16; refine (unhide h6 _).mono ?_; rintro ez wz6 ⟨rfl, rfl⟩)
      | fail)
    all_goals go_ret
    all_goals exact ⟨rfl, unhide hbl⟩
end Go.Proofs.Ytdnahdogohdmjaa
