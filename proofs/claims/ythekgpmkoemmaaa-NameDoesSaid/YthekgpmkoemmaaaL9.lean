import Derived.Test.YthekgpmkoemmaaaF7
namespace Go.Proofs.Ythekgpmkoemmaaa
open Go.RowKit
attribute [local go_sem] bz_size bz_toList

set_option maxRecDepth 100000 in
set_option maxHeartbeats 1000000 in
theorem does_law (s t : List UInt8) (w : World) : Calls Try.prog 3 #[.string (bz s), .string (bz t)] w fun e w' => e = .returned (.bool true) ∧ Below w.heap.size w w' := by
  have hL := fun W => live_any W
  replace hL := hide hL
  by_cases hs : s.length ≤ 300
  · by_cases ht : t.length ≤ 300
    · have H1 := fun W => clean_any s (by omega) W
      have H2 := fun W => refClean_any s (by omega) W
      have H3 := fun W => join_any s t (by omega) (by omega) W
      have H4 := fun W => refJoinN_any s t (by omega) (by omega) W
      have H5 := fun W => split_any s (by omega) W
      have H6 := fun W => refSplit_any s (by omega) W
      have H7 := fun W => within_any s t (by omega) (by omega) W
      have H8 := fun W => refWithin_any s t (by omega) (by omega) W
      have H9 := fun W => cmp_any s t (by omega) (by omega) W
      have H10 := fun W => refCmp_any s t (by omega) (by omega) W
      have H11 := fun W => check_any s (by omega) W
      have H12 := fun W => refCheck_any s (by omega) W
      obtain ⟨⟨p1, e1⟩, q1⟩ : ∃ q, q = cleanF s := ⟨_, rfl⟩
      obtain ⟨⟨p2, e2⟩, q2⟩ : ∃ q, q = joinF s t := ⟨_, rfl⟩
      obtain ⟨⟨p3, p3', e3⟩, q3⟩ : ∃ q, q = splitF s := ⟨_, rfl⟩
      obtain ⟨⟨p4, e4⟩, q4⟩ : ∃ q, q = withinF s t := ⟨_, rfl⟩
      obtain ⟨⟨p5, e5⟩, q5⟩ : ∃ q, q = cmpF s t := ⟨_, rfl⟩
      obtain ⟨e6, q6⟩ : ∃ q : Int, q = if nameB s then 0 else 1 := ⟨_, rfl⟩
      rw [← q1] at H1 H2
      rw [← q2] at H3 H4
      rw [← q3] at H5 H6
      rw [← q4] at H7 H8
      rw [← q5] at H9 H10
      rw [← q6] at H11 H12
      clear q1 q2 q3 q4 q5 q6
      have ds : decide ((300 : Int) < (s.length : Int)) = false := decide_eq_false (by omega)
      have dt : decide ((300 : Int) < (t.length : Int)) = false := decide_eq_false (by omega)
      replace H1 := hide H1; replace H2 := hide H2; replace H3 := hide H3; replace H4 := hide H4; replace H5 := hide H5; replace H6 := hide H6; replace H7 := hide H7; replace H8 := hide H8; replace H9 := hide H9; replace H10 := hide H10; replace H11 := hide H11; replace H12 := hide H12
      go_enter Try.func3, Try.ntmps3
      go_wp2_with (first
        | (go_at_call 9; refine (unhide hL _).mono ?_; rintro e w0 ⟨rfl, B0⟩)
        | (go_at_call 10; refine (unhide H1 _).mono ?_; rintro e w1 ⟨rfl, B1⟩)
        | (go_at_call 11; refine (unhide H2 _).mono ?_; rintro e w2 ⟨rfl, B2⟩)
        | (go_at_call 12; refine (unhide H3 _).mono ?_; rintro e w3 ⟨rfl, B3⟩)
        | (go_at_call 13; refine (unhide H4 _).mono ?_; rintro e w4 ⟨rfl, B4⟩)
        | (go_at_call 14; refine (unhide H5 _).mono ?_; rintro e w5 ⟨rfl, B5⟩)
        | (go_at_call 15; refine (unhide H6 _).mono ?_; rintro e w6 ⟨rfl, B6⟩)
        | (go_at_call 16; refine (unhide H7 _).mono ?_; rintro e w7 ⟨rfl, B7⟩)
        | (go_at_call 17; refine (unhide H8 _).mono ?_; rintro e w8 ⟨rfl, B8⟩)
        | (go_at_call 18; refine (unhide H9 _).mono ?_; rintro e w9 ⟨rfl, B9⟩)
        | (go_at_call 19; refine (unhide H10 _).mono ?_; rintro e w10 ⟨rfl, B10⟩)
        | (go_at_call 20; refine (unhide H11 _).mono ?_; rintro e w11 ⟨rfl, B11⟩)
        | (go_at_call 21; refine (unhide H12 _).mono ?_; rintro e w12 ⟨rfl, B12⟩))
      go_ret
      exact ⟨rfl, (ret_live (ret_live (ret_live (ret_live (ret_live (ret_live (ret_live (ret_live (ret_live (ret_live (ret_live (ret_live B0 B1) B2) B3) B4) B5) B6) B7) B8) B9) B10) B11) B12)⟩
    · have ds : decide ((300 : Int) < (s.length : Int)) = false := decide_eq_false (by omega)
      have dt : decide ((300 : Int) < (t.length : Int)) = true := decide_eq_true (by omega)
      go_enter Try.func3, Try.ntmps3
      go_wp2_with (first
        | (go_at_call 9; refine (unhide hL _).mono ?_; rintro e w0 ⟨rfl, B0⟩))
      go_ret
      exact ⟨rfl, B0⟩
  · have ds : decide ((300 : Int) < (s.length : Int)) = true := decide_eq_true (by omega)
    go_enter Try.func3, Try.ntmps3
    go_wp2_with (first
      | (go_at_call 9; refine (unhide hL _).mono ?_; rintro e w0 ⟨rfl, B0⟩))
    go_ret
    exact ⟨rfl, B0⟩
end Go.Proofs.Ythekgpmkoemmaaa
