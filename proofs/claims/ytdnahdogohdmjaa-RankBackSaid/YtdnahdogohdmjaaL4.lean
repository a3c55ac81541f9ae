import Derived.Test.YtdnahdogohdmjaaW17
namespace Go.Proofs.Ytdnahdogohdmjaa
open Go.RowKit
set_option maxRecDepth 100000

attribute [local go_sem] run_store_float m_neg m_lt m_gt m_eq m_ne x_bits x_from eq_self_ Bool.not_not
set_option maxHeartbeats 2000000 in
theorem RankBack_any (f k : Nat) (hf : f < 18446744073709551616) (hk : k < 18446744073709551616) (w : World) : Calls Try.prog 5 #[.float .f64 f, .int .u64 (k : Int)] w fun e w' => e = .returned (.bool true) ∧ Below w.heap.size w w' := by
  have hL := live_any w
  have h1 := fun W => Key_any f hf W
  have h2 := fun W => Of_any (keyF f) (key_bound f) W
  obtain ⟨o1, o2, o3⟩ := of_key hf
  rw [o1] at h2
  have h5 := fun W => Of_any k hk W
  have nk := nan_key_iff hf
  have hq : (∃ g, ofF (keyF f) = g ∧ g < 18446744073709551616 ∧ keyF f = keyF g ∧ (nanB f = false → g = f)) := by
    cases nf : nanB f
    · exact ⟨f, o2 nf, hf, rfl, fun _ => rfl⟩
    · exact ⟨nanC, o3 nf, by decide, by rw [nan_key nf]; decide, fun h => by cases h⟩
  obtain ⟨g, hg, hg64, hgk, hgf⟩ := hq
  rw [hg] at h2
  have h3 := fun W => Same_any f g hf hg64 W
  have e3 : (keyF f == keyF g) = true := by simp [hgk]
  rw [e3] at h3
  clear e3 hg hgk o1 o2 o3
  have hk5 := of_cases hk
  have hkk := @key_of k hk
  obtain ⟨hh64, hk5⟩ := hk5
  have h6 := fun W => Key_any (ofF k) hh64 W
  have q0 : nanB 0 = false := by decide
  clear hf hg64 hk hh64
  have hE : (ofE k = 0 ∧ keyF (ofF k) = k) ∨ (ofE k = 2 ∧ ofF k = 0) := by
    rcases hk5 with ⟨_, _, e⟩ | ⟨_, _, e, e'⟩ | ⟨_, _, _, e, _⟩
    · exact .inl ⟨e, hkk e⟩
    · exact .inr ⟨e', e⟩
    · exact .inl ⟨e, hkk e⟩
  clear hk5 hkk
  generalize keyF f = x at *
  replace hL := hide hL
  cases nf : nanB f
  all_goals
    rw [nf] at nk
    have nk3 : decide (x = 18446744073709551615) = ((x : Int) == 18446744073709551615) := by rw [Bool.eq_iff_iff, decide_eq_true_eq, beq_iff_eq]; omega
    rw [nk3] at nk
    have nk2 := nk.symm
    clear nk nk3
    rcases hE with ⟨e1, e2⟩ | ⟨e1, e2⟩
  · rw [hgf nf] at h2 h3
    rw [e1] at h5
    rw [e2] at h6
    generalize ofF k = o at *
    clear e1 e2 hgf
    replace h1 := hide h1; replace h2 := hide h2; replace h3 := hide h3; replace h5 := hide h5; replace h6 := hide h6
    have tk0 : True := trivial
    have tk1 : True := trivial
    have tk2 : True := trivial
    have tk3 : True := trivial
    have tk4 : True := trivial
    have tk5 : True := trivial
    have tk6 : True := trivial
    go_enter Try.func5, Try.ntmps5
    go_wp2_with (first
      | (have _t := tk0; clear tk0 _t; go_at_call 10; refine (unhide hL).mono ?_; rintro ez wz0 ⟨rfl, hbl⟩; replace hbl := hide hbl)
      | (have _t := tk1; clear tk1 _t; go_at_call 13; refine (unhide h1 _).mono ?_; rintro ez wz1 ⟨rfl, rfl⟩)
      | (have _t := tk2; clear tk2 _t; go_at_call 11; refine (unhide h2 _).mono ?_; rintro ez wz2 ⟨rfl, rfl⟩)
      | (have _t := tk3; clear tk3 _t; go_at_call 18; refine (unhide h3 _).mono ?_; rintro ez wz3 ⟨rfl, rfl⟩)
      | (have _t := tk4; clear tk4 _t; go_at_call 13; refine (unhide h1 _).mono ?_; rintro ez wz4 ⟨rfl, rfl⟩)
      | (have _t := tk5; clear tk5 _t; go_at_call 11; refine (unhide h5 _).mono ?_; rintro ez wz5 ⟨rfl, rfl⟩)
      | (have _t := tk6; clear tk6 _t; go_at_call 13; refine (unhide h6 _).mono ?_; rintro ez wz6 ⟨rfl, rfl⟩)
      | fail)
    all_goals go_ret
    all_goals exact ⟨rfl, unhide hbl⟩
  · rw [hgf nf] at h2 h3
    rw [e1, e2] at h5
    clear e1 e2 hgf h6
    replace h1 := hide h1; replace h2 := hide h2; replace h3 := hide h3; replace h5 := hide h5
    have tk0 : True := trivial
    have tk1 : True := trivial
    have tk2 : True := trivial
    have tk3 : True := trivial
    have tk4 : True := trivial
    have tk5 : True := trivial
    go_enter Try.func5, Try.ntmps5
    go_wp2_with (first
      | (have _t := tk0; clear tk0 _t; go_at_call 10; refine (unhide hL).mono ?_; rintro ez wz0 ⟨rfl, hbl⟩; replace hbl := hide hbl)
      | (have _t := tk1; clear tk1 _t; go_at_call 13; refine (unhide h1 _).mono ?_; rintro ez wz1 ⟨rfl, rfl⟩)
      | (have _t := tk2; clear tk2 _t; go_at_call 11; refine (unhide h2 _).mono ?_; rintro ez wz2 ⟨rfl, rfl⟩)
      | (have _t := tk3; clear tk3 _t; go_at_call 18; refine (unhide h3 _).mono ?_; rintro ez wz3 ⟨rfl, rfl⟩)
      | (have _t := tk4; clear tk4 _t; go_at_call 13; refine (unhide h1 _).mono ?_; rintro ez wz4 ⟨rfl, rfl⟩)
      | (have _t := tk5; clear tk5 _t; go_at_call 11; refine (unhide h5 _).mono ?_; rintro ez wz5 ⟨rfl, rfl⟩)
      | fail)
    all_goals go_ret
    all_goals exact ⟨rfl, unhide hbl⟩
  · rw [e1] at h5
    rw [e2] at h6
    generalize ofF k = o at *
    clear e1 e2 hgf
    replace h1 := hide h1; replace h2 := hide h2; replace h3 := hide h3; replace h5 := hide h5; replace h6 := hide h6
    have tk0 : True := trivial
    have tk1 : True := trivial
    have tk2 : True := trivial
    have tk3 : True := trivial
    have tk4 : True := trivial
    have tk5 : True := trivial
    have tk6 : True := trivial
    go_enter Try.func5, Try.ntmps5
    go_wp2_with (first
      | (have _t := tk0; clear tk0 _t; go_at_call 10; refine (unhide hL).mono ?_; rintro ez wz0 ⟨rfl, hbl⟩; replace hbl := hide hbl)
      | (have _t := tk1; clear tk1 _t; go_at_call 13; refine (unhide h1 _).mono ?_; rintro ez wz1 ⟨rfl, rfl⟩)
      | (have _t := tk2; clear tk2 _t; go_at_call 11; refine (unhide h2 _).mono ?_; rintro ez wz2 ⟨rfl, rfl⟩)
      | (have _t := tk3; clear tk3 _t; go_at_call 18; refine (unhide h3 _).mono ?_; rintro ez wz3 ⟨rfl, rfl⟩)
      | (have _t := tk4; clear tk4 _t; go_at_call 13; refine (unhide h1 _).mono ?_; rintro ez wz4 ⟨rfl, rfl⟩)
      | (have _t := tk5; clear tk5 _t; go_at_call 11; refine (unhide h5 _).mono ?_; rintro ez wz5 ⟨rfl, rfl⟩)
      | (have _t := tk6; clear tk6 _t; go_at_call 13; refine (unhide h6 _).mono ?_; rintro ez wz6 ⟨rfl, rfl⟩)
      | fail)
    all_goals go_ret
    all_goals exact ⟨rfl, unhide hbl⟩
  · rw [e1, e2] at h5
    clear e1 e2 hgf h6
    replace h1 := hide h1; replace h2 := hide h2; replace h3 := hide h3; replace h5 := hide h5
    have tk0 : True := trivial
    have tk1 : True := trivial
    have tk2 : True := trivial
    have tk3 : True := trivial
    have tk4 : True := trivial
    have tk5 : True := trivial
    go_enter Try.func5, Try.ntmps5
    go_wp2_with (first
      | (have _t := tk0; clear tk0 _t; go_at_call 10; refine (unhide hL).mono ?_; rintro ez wz0 ⟨rfl, hbl⟩; replace hbl := hide hbl)
      | (have _t := tk1; clear tk1 _t; go_at_call 13; refine (unhide h1 _).mono ?_; rintro ez wz1 ⟨rfl, rfl⟩)
      | (have _t := tk2; clear tk2 _t; go_at_call 11; refine (unhide h2 _).mono ?_; rintro ez wz2 ⟨rfl, rfl⟩)
      | (have _t := tk3; clear tk3 _t; go_at_call 18; refine (unhide h3 _).mono ?_; rintro ez wz3 ⟨rfl, rfl⟩)
      | (have _t := tk4; clear tk4 _t; go_at_call 13; refine (unhide h1 _).mono ?_; rintro ez wz4 ⟨rfl, rfl⟩)
      | (have _t := tk5; clear tk5 _t; go_at_call 11; refine (unhide h5 _).mono ?_; rintro ez wz5 ⟨rfl, rfl⟩)
      | fail)
    all_goals go_ret
    all_goals exact ⟨rfl, unhide hbl⟩
end Go.Proofs.Ytdnahdogohdmjaa
