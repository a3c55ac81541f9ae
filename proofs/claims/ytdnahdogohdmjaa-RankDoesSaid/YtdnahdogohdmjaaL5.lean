import Derived.Test.YtdnahdogohdmjaaW17
namespace Go.Proofs.Ytdnahdogohdmjaa
open Go.RowKit
set_option maxRecDepth 100000

attribute [local go_sem] run_store_float m_neg m_lt m_gt m_eq m_ne x_bits x_from eq_self_ Bool.not_not
theorem midF_lt (a b : Nat) (ha : a < 18446744073709551616) (hb : b < 18446744073709551616) : midF a b < 18446744073709551616 := by
  rcases mid_ref ha hb with ⟨_, e⟩ | ⟨_, _, ⟨_, _, e⟩ | ⟨_, _, e⟩ | ⟨_, _, e⟩ | ⟨_, _, x, y, _, _, e⟩⟩
  · rw [e]; decide
  · rw [e]; split; (· exact ha); decide
  · rw [e]; exact ha
  · rw [e]; exact hb
  · have := floatBits_wf e; simpa [Lit.wf] using this

set_option maxHeartbeats 2000000 in
theorem RankDoes_any (a b k : Nat) (ha : a < 18446744073709551616) (hb : b < 18446744073709551616) (hk : k < 18446744073709551616) (w : World) : Calls Try.prog 3 #[.float .f64 a, .float .f64 b, .int .u64 (k : Int)] w fun e w' => e = .returned (.bool true) ∧ Below w.heap.size w w' := by
  have hL := live_any w
  have hh := (of_cases hk).1
  have h1 := fun W => Of_any k hk W
  have h2 := fun W => refOf_any k hk W
  have h3 := fun W => Key_any a ha W
  have h4 := fun W => refKey_any a ha W
  have h5 := fun W => refSame_any (ofF k) (ofF k) hh hh W
  have h6 := fun W => Cmp_any a b ha hb W
  have h7 := fun W => refCmp_any a b ha hb W
  have h8 := fun W => Same_any a b ha hb W
  have h9 := fun W => refSame_any a b ha hb W
  have m1 := fun W => Mid_any a b W
  have m2 := fun W => refMid_any a b ha hb W
  have hm := midF_lt a b ha hb
  have m3 := fun W => refSame_any (midF a b) (midF a b) hm hm W
  have s5 : (keyF (ofF k) == keyF (ofF k)) = true := beq_self_eq_true _
  have s3 : (keyF (midF a b) == keyF (midF a b)) = true := beq_self_eq_true _
  rw [s5] at h5
  rw [s3] at m3
  clear s5 s3 hh hm ha hb hk
  generalize midF a b = m at *
  generalize (keyF a == keyF b) = S at *
  generalize cmpN (keyF a) (keyF b) = C at *
  generalize keyF a = x at *
  generalize ofF k = o at *
  generalize ofE k = z at *
  replace hL := hide hL; replace h1 := hide h1; replace h2 := hide h2; replace h3 := hide h3; replace h4 := hide h4; replace h5 := hide h5; replace h6 := hide h6; replace h7 := hide h7; replace h8 := hide h8; replace h9 := hide h9; replace m1 := hide m1; replace m2 := hide m2; replace m3 := hide m3
  have tk0 : True := trivial
  have tk1 : True := trivial
  have tk2 : True := trivial
  have tk3 : True := trivial
  have tk4 : True := trivial
  have tk5 : True := trivial
  have tk6 : True := trivial
  have tk7 : True := trivial
  have tk8 : True := trivial
  have tk9 : True := trivial
  have tk10 : True := trivial
  have tk11 : True := trivial
  have tk12 : True := trivial
  go_enter Try.func3, Try.ntmps3
  go_wp2_with (first
    | (have _t := tk0; clear tk0 _t; go_at_call 10; refine (unhide hL).mono ?_; rintro ez wz0 ⟨rfl, hbl⟩; replace hbl := hide hbl)
    | (have _t := tk1; clear tk1 _t; go_at_call 11; refine (unhide h1 _).mono ?_; rintro ez wz1 ⟨rfl, rfl⟩)
    | (have _t := tk2; clear tk2 _t; go_at_call 12; refine (unhide h2 _).mono ?_; rintro ez wz2 ⟨rfl, rfl⟩)
    | (have _t := tk3; clear tk3 _t; go_at_call 13; refine (unhide h3 _).mono ?_; rintro ez wz3 ⟨rfl, rfl⟩)
    | (have _t := tk4; clear tk4 _t; go_at_call 14; refine (unhide h4 _).mono ?_; rintro ez wz4 ⟨rfl, rfl⟩)
    | (have _t := tk5; clear tk5 _t; go_at_call 15; refine (unhide h5 _).mono ?_; rintro ez wz5 ⟨rfl, rfl⟩)
    | (have _t := tk6; clear tk6 _t; go_at_call 16; refine (unhide h6 _).mono ?_; rintro ez wz6 ⟨rfl, rfl⟩)
    | (have _t := tk7; clear tk7 _t; go_at_call 17; refine (unhide h7 _).mono ?_; rintro ez wz7 ⟨rfl, rfl⟩)
    | (have _t := tk8; clear tk8 _t; go_at_call 18; refine (unhide h8 _).mono ?_; rintro ez wz8 ⟨rfl, rfl⟩)
    | (have _t := tk9; clear tk9 _t; go_at_call 15; refine (unhide h9 _).mono ?_; rintro ez wz9 ⟨rfl, rfl⟩)
    | (have _t := tk10; clear tk10 _t; go_at_call 19; refine (unhide m1 _).mono ?_; rintro ez wz10 ⟨rfl, nz, rfl⟩; have hb2 := hide (below_drewN (unhide hbl) nz))
    | (have _t := tk11; clear tk11 _t; go_at_call 20; refine (unhide m2 _).mono ?_; rintro ez wz11 ⟨rfl, rfl⟩)
    | (have _t := tk12; clear tk12 _t; go_at_call 15; refine (unhide m3 _).mono ?_; rintro ez wz12 ⟨rfl, rfl⟩)
    | fail)
  all_goals go_ret
  all_goals exact ⟨rfl, unhide hb2⟩
end Go.Proofs.Ytdnahdogohdmjaa
