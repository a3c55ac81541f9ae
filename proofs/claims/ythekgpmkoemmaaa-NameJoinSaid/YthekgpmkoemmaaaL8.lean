import Derived.Test.YthekgpmkoemmaaaL7
namespace Go.Proofs.Ythekgpmkoemmaaa
open Go.RowKit
attribute [local go_sem] bz_size bz_toList

set_option maxRecDepth 100000 in
set_option maxHeartbeats 1000000 in
theorem join_err (d a b : List UInt8) (hd3 : d.length ≤ 300) (ha3 : a.length ≤ 300) (hb3 : b.length ≤ 300) (h0 : (joinF d a).2 ≠ 0) (w : World) : Calls Try.prog 8 #[.string (bz d), .string (bz a), .string (bz b)] w fun e w' => e = .returned (.bool true) ∧ Below w.heap.size w w' := by
  have hL := fun W => live_any W
  replace hL := hide hL
  have H1 := fun W => join_any d a (by omega) (by omega) W
  have dd : decide ((300 : Int) < (d.length : Int)) = false := decide_eq_false (by omega)
  have da : decide ((300 : Int) < (a.length : Int)) = false := decide_eq_false (by omega)
  have db : decide ((300 : Int) < (b.length : Int)) = false := decide_eq_false (by omega)
  rw [joinF_err h0] at H1
  obtain ⟨er, her⟩ : ∃ er, er = (joinF d a).2 := ⟨_, rfl⟩
  rw [← her] at H1 h0
  have e1 : (er == 0) = false := beq_eq_false_iff_ne.2 h0
  have e2 : (er != 0) = true := bne_iff_ne.2 h0
  clear her
  replace h0 := hide h0
  replace H1 := hide H1
  go_enter Try.func8, Try.ntmps8
  go_wp2_with (first
    | (go_at_call 9; refine (unhide hL _).mono ?_; rintro e w0 ⟨rfl, B0⟩)
    | (go_at_call 12; refine (unhide H1 _).mono ?_; rintro e w1 ⟨rfl, B1⟩))
  go_ret
  exact ⟨rfl, (ret_live B0 B1)⟩

set_option maxRecDepth 100000 in
set_option maxHeartbeats 1000000 in
theorem join_main (d a b x : List UInt8) (hd3 : d.length ≤ 300) (ha3 : a.length ≤ 300) (hb3 : b.length ≤ 300) (h0 : joinF d a = (x, 0)) (hx : nameB x = true) (hw : nameB a = true → withinB d x = true) (hf : folderB d = true)
    (y : List UInt8) (g : Int) (hy : joinF x b = (y, g)) (z : List UInt8) (h : Int) (hz : joinF d (a ++ 47 :: b) = (z, h)) (htwo : g ≠ 0 ∨ h = 3 ∨ (h = 0 ∧ z = y)) (w : World) : Calls Try.prog 8 #[.string (bz d), .string (bz a), .string (bz b)] w fun e w' => e = .returned (.bool true) ∧ Below w.heap.size w w' := by
  have hL := fun W => live_any W
  replace hL := hide hL
  have hxl : x.length ≤ 96 := (name_parts.1 hx).1
  have H1 := fun W => join_any d a (by omega) (by omega) W
  have HK := fun W => check_any a (by omega) W
  have HW := fun W => within_any d x (by omega) (by omega) W
  have H2 := fun W => join_any x b (by omega) (by omega) W
  have H3 := fun W => join_any d (a ++ 47 :: b) (by omega) (by simp; omega) W
  have HX := fun W => check_any x (by omega) W
  rw [h0] at H1
  rw [withinF_yes hf hx] at HW
  rw [hy] at H2
  rw [hz, ← bz_cat] at H3
  rw [hx] at HX
  have dd : decide ((300 : Int) < (d.length : Int)) = false := decide_eq_false (by omega)
  have da : decide ((300 : Int) < (a.length : Int)) = false := decide_eq_false (by omega)
  have db : decide ((300 : Int) < (b.length : Int)) = false := decide_eq_false (by omega)
  clear h0 hx hf hy hz hxl
  cases hn : nameB a with
  | false =>
    rw [hn] at HK
    clear hn hw HW
    replace H1 := hide H1; replace HK := hide HK; replace H2 := hide H2; replace H3 := hide H3; replace HX := hide HX
    rcases htwo with hg | rfl | ⟨rfl, rfl⟩
    · have e1 : (g == 0) = false := beq_eq_false_iff_ne.2 hg
      have e2 : (g != 0) = true := bne_iff_ne.2 hg
      replace hg := hide hg
      have tk1 : True := trivial
      have tk2 : True := trivial
      have tk3 : True := trivial
      go_enter Try.func8, Try.ntmps8
      go_wp2_with (first
        | (go_at_call 9; refine (unhide hL _).mono ?_; rintro e w0 ⟨rfl, B0⟩)
        | (go_at_call 12; have _t := tk1; refine (unhide H1 _).mono ?_; rintro e w1 ⟨rfl, B1⟩; clear tk1 _t)
        | (go_at_call 20; have _t := tk2; refine (unhide HK _).mono ?_; rintro e w2 ⟨rfl, B2⟩; clear tk2 _t)
        | (go_at_call 12; have _t := tk3; refine (unhide H2 _).mono ?_; rintro e w3 ⟨rfl, B3⟩; clear tk3 _t)
        | (go_at_call 12; refine (unhide H3 _).mono ?_; rintro e w4 ⟨rfl, B4⟩)
        | (go_at_call 20; refine (unhide HX _).mono ?_; rintro e w5 ⟨rfl, B5⟩))
      go_ret
      exact ⟨rfl, (ret_live (ret_live (ret_live (ret_live (ret_live B0 B1) B2) B3) B4) B5)⟩
    · by_cases hg : g = 0
      · subst hg
        have tk1 : True := trivial
        have tk2 : True := trivial
        have tk3 : True := trivial
        go_enter Try.func8, Try.ntmps8
        go_wp2_with (first
          | (go_at_call 9; refine (unhide hL _).mono ?_; rintro e w0 ⟨rfl, B0⟩)
          | (go_at_call 12; have _t := tk1; refine (unhide H1 _).mono ?_; rintro e w1 ⟨rfl, B1⟩; clear tk1 _t)
          | (go_at_call 20; have _t := tk2; refine (unhide HK _).mono ?_; rintro e w2 ⟨rfl, B2⟩; clear tk2 _t)
          | (go_at_call 12; have _t := tk3; refine (unhide H2 _).mono ?_; rintro e w3 ⟨rfl, B3⟩; clear tk3 _t)
          | (go_at_call 12; refine (unhide H3 _).mono ?_; rintro e w4 ⟨rfl, B4⟩)
          | (go_at_call 20; refine (unhide HX _).mono ?_; rintro e w5 ⟨rfl, B5⟩))
        go_ret
        exact ⟨rfl, (ret_live (ret_live (ret_live (ret_live (ret_live B0 B1) B2) B3) B4) B5)⟩
      · have e1 : (g == 0) = false := beq_eq_false_iff_ne.2 hg
        have e2 : (g != 0) = true := bne_iff_ne.2 hg
        replace hg := hide hg
        have tk1 : True := trivial
        have tk2 : True := trivial
        have tk3 : True := trivial
        go_enter Try.func8, Try.ntmps8
        go_wp2_with (first
          | (go_at_call 9; refine (unhide hL _).mono ?_; rintro e w0 ⟨rfl, B0⟩)
          | (go_at_call 12; have _t := tk1; refine (unhide H1 _).mono ?_; rintro e w1 ⟨rfl, B1⟩; clear tk1 _t)
          | (go_at_call 20; have _t := tk2; refine (unhide HK _).mono ?_; rintro e w2 ⟨rfl, B2⟩; clear tk2 _t)
          | (go_at_call 12; have _t := tk3; refine (unhide H2 _).mono ?_; rintro e w3 ⟨rfl, B3⟩; clear tk3 _t)
          | (go_at_call 12; refine (unhide H3 _).mono ?_; rintro e w4 ⟨rfl, B4⟩)
          | (go_at_call 20; refine (unhide HX _).mono ?_; rintro e w5 ⟨rfl, B5⟩))
        go_ret
        exact ⟨rfl, (ret_live (ret_live (ret_live (ret_live (ret_live B0 B1) B2) B3) B4) B5)⟩
    · by_cases hg : g = 0
      · subst hg
        have tk1 : True := trivial
        have tk2 : True := trivial
        have tk3 : True := trivial
        go_enter Try.func8, Try.ntmps8
        go_wp2_with (first
          | (go_at_call 9; refine (unhide hL _).mono ?_; rintro e w0 ⟨rfl, B0⟩)
          | (go_at_call 12; have _t := tk1; refine (unhide H1 _).mono ?_; rintro e w1 ⟨rfl, B1⟩; clear tk1 _t)
          | (go_at_call 20; have _t := tk2; refine (unhide HK _).mono ?_; rintro e w2 ⟨rfl, B2⟩; clear tk2 _t)
          | (go_at_call 12; have _t := tk3; refine (unhide H2 _).mono ?_; rintro e w3 ⟨rfl, B3⟩; clear tk3 _t)
          | (go_at_call 12; refine (unhide H3 _).mono ?_; rintro e w4 ⟨rfl, B4⟩)
          | (go_at_call 20; refine (unhide HX _).mono ?_; rintro e w5 ⟨rfl, B5⟩))
        go_ret
        exact ⟨rfl, (ret_live (ret_live (ret_live (ret_live (ret_live B0 B1) B2) B3) B4) B5)⟩
      · have e1 : (g == 0) = false := beq_eq_false_iff_ne.2 hg
        have e2 : (g != 0) = true := bne_iff_ne.2 hg
        replace hg := hide hg
        have tk1 : True := trivial
        have tk2 : True := trivial
        have tk3 : True := trivial
        go_enter Try.func8, Try.ntmps8
        go_wp2_with (first
          | (go_at_call 9; refine (unhide hL _).mono ?_; rintro e w0 ⟨rfl, B0⟩)
          | (go_at_call 12; have _t := tk1; refine (unhide H1 _).mono ?_; rintro e w1 ⟨rfl, B1⟩; clear tk1 _t)
          | (go_at_call 20; have _t := tk2; refine (unhide HK _).mono ?_; rintro e w2 ⟨rfl, B2⟩; clear tk2 _t)
          | (go_at_call 12; have _t := tk3; refine (unhide H2 _).mono ?_; rintro e w3 ⟨rfl, B3⟩; clear tk3 _t)
          | (go_at_call 12; refine (unhide H3 _).mono ?_; rintro e w4 ⟨rfl, B4⟩)
          | (go_at_call 20; refine (unhide HX _).mono ?_; rintro e w5 ⟨rfl, B5⟩))
        go_ret
        exact ⟨rfl, (ret_live (ret_live (ret_live (ret_live (ret_live B0 B1) B2) B3) B4) B5)⟩
  | true =>
    rw [hn] at HK
    rw [hw hn] at HW
    clear hn hw
    replace H1 := hide H1; replace HK := hide HK; replace HW := hide HW; replace H2 := hide H2; replace H3 := hide H3; replace HX := hide HX
    rcases htwo with hg | rfl | ⟨rfl, rfl⟩
    · have e1 : (g == 0) = false := beq_eq_false_iff_ne.2 hg
      have e2 : (g != 0) = true := bne_iff_ne.2 hg
      replace hg := hide hg
      have tk1 : True := trivial
      have tk2 : True := trivial
      have tk4 : True := trivial
      go_enter Try.func8, Try.ntmps8
      go_wp2_with (first
        | (go_at_call 9; refine (unhide hL _).mono ?_; rintro e w0 ⟨rfl, B0⟩)
        | (go_at_call 12; have _t := tk1; refine (unhide H1 _).mono ?_; rintro e w1 ⟨rfl, B1⟩; clear tk1 _t)
        | (go_at_call 20; have _t := tk2; refine (unhide HK _).mono ?_; rintro e w2 ⟨rfl, B2⟩; clear tk2 _t)
        | (go_at_call 16; refine (unhide HW _).mono ?_; rintro e w3 ⟨rfl, B3⟩)
        | (go_at_call 12; have _t := tk4; refine (unhide H2 _).mono ?_; rintro e w4 ⟨rfl, B4⟩; clear tk4 _t)
        | (go_at_call 12; refine (unhide H3 _).mono ?_; rintro e w5 ⟨rfl, B5⟩)
        | (go_at_call 20; refine (unhide HX _).mono ?_; rintro e w6 ⟨rfl, B6⟩))
      go_ret
      exact ⟨rfl, (ret_live (ret_live (ret_live (ret_live (ret_live (ret_live B0 B1) B2) B3) B4) B5) B6)⟩
    · by_cases hg : g = 0
      · subst hg
        have tk1 : True := trivial
        have tk2 : True := trivial
        have tk4 : True := trivial
        go_enter Try.func8, Try.ntmps8
        go_wp2_with (first
          | (go_at_call 9; refine (unhide hL _).mono ?_; rintro e w0 ⟨rfl, B0⟩)
          | (go_at_call 12; have _t := tk1; refine (unhide H1 _).mono ?_; rintro e w1 ⟨rfl, B1⟩; clear tk1 _t)
          | (go_at_call 20; have _t := tk2; refine (unhide HK _).mono ?_; rintro e w2 ⟨rfl, B2⟩; clear tk2 _t)
          | (go_at_call 16; refine (unhide HW _).mono ?_; rintro e w3 ⟨rfl, B3⟩)
          | (go_at_call 12; have _t := tk4; refine (unhide H2 _).mono ?_; rintro e w4 ⟨rfl, B4⟩; clear tk4 _t)
          | (go_at_call 12; refine (unhide H3 _).mono ?_; rintro e w5 ⟨rfl, B5⟩)
          | (go_at_call 20; refine (unhide HX _).mono ?_; rintro e w6 ⟨rfl, B6⟩))
        go_ret
        exact ⟨rfl, (ret_live (ret_live (ret_live (ret_live (ret_live (ret_live B0 B1) B2) B3) B4) B5) B6)⟩
      · have e1 : (g == 0) = false := beq_eq_false_iff_ne.2 hg
        have e2 : (g != 0) = true := bne_iff_ne.2 hg
        replace hg := hide hg
        have tk1 : True := trivial
        have tk2 : True := trivial
        have tk4 : True := trivial
        go_enter Try.func8, Try.ntmps8
        go_wp2_with (first
          | (go_at_call 9; refine (unhide hL _).mono ?_; rintro e w0 ⟨rfl, B0⟩)
          | (go_at_call 12; have _t := tk1; refine (unhide H1 _).mono ?_; rintro e w1 ⟨rfl, B1⟩; clear tk1 _t)
          | (go_at_call 20; have _t := tk2; refine (unhide HK _).mono ?_; rintro e w2 ⟨rfl, B2⟩; clear tk2 _t)
          | (go_at_call 16; refine (unhide HW _).mono ?_; rintro e w3 ⟨rfl, B3⟩)
          | (go_at_call 12; have _t := tk4; refine (unhide H2 _).mono ?_; rintro e w4 ⟨rfl, B4⟩; clear tk4 _t)
          | (go_at_call 12; refine (unhide H3 _).mono ?_; rintro e w5 ⟨rfl, B5⟩)
          | (go_at_call 20; refine (unhide HX _).mono ?_; rintro e w6 ⟨rfl, B6⟩))
        go_ret
        exact ⟨rfl, (ret_live (ret_live (ret_live (ret_live (ret_live (ret_live B0 B1) B2) B3) B4) B5) B6)⟩
    · by_cases hg : g = 0
      · subst hg
        have tk1 : True := trivial
        have tk2 : True := trivial
        have tk4 : True := trivial
        go_enter Try.func8, Try.ntmps8
        go_wp2_with (first
          | (go_at_call 9; refine (unhide hL _).mono ?_; rintro e w0 ⟨rfl, B0⟩)
          | (go_at_call 12; have _t := tk1; refine (unhide H1 _).mono ?_; rintro e w1 ⟨rfl, B1⟩; clear tk1 _t)
          | (go_at_call 20; have _t := tk2; refine (unhide HK _).mono ?_; rintro e w2 ⟨rfl, B2⟩; clear tk2 _t)
          | (go_at_call 16; refine (unhide HW _).mono ?_; rintro e w3 ⟨rfl, B3⟩)
          | (go_at_call 12; have _t := tk4; refine (unhide H2 _).mono ?_; rintro e w4 ⟨rfl, B4⟩; clear tk4 _t)
          | (go_at_call 12; refine (unhide H3 _).mono ?_; rintro e w5 ⟨rfl, B5⟩)
          | (go_at_call 20; refine (unhide HX _).mono ?_; rintro e w6 ⟨rfl, B6⟩))
        go_ret
        exact ⟨rfl, (ret_live (ret_live (ret_live (ret_live (ret_live (ret_live B0 B1) B2) B3) B4) B5) B6)⟩
      · have e1 : (g == 0) = false := beq_eq_false_iff_ne.2 hg
        have e2 : (g != 0) = true := bne_iff_ne.2 hg
        replace hg := hide hg
        have tk1 : True := trivial
        have tk2 : True := trivial
        have tk4 : True := trivial
        go_enter Try.func8, Try.ntmps8
        go_wp2_with (first
          | (go_at_call 9; refine (unhide hL _).mono ?_; rintro e w0 ⟨rfl, B0⟩)
          | (go_at_call 12; have _t := tk1; refine (unhide H1 _).mono ?_; rintro e w1 ⟨rfl, B1⟩; clear tk1 _t)
          | (go_at_call 20; have _t := tk2; refine (unhide HK _).mono ?_; rintro e w2 ⟨rfl, B2⟩; clear tk2 _t)
          | (go_at_call 16; refine (unhide HW _).mono ?_; rintro e w3 ⟨rfl, B3⟩)
          | (go_at_call 12; have _t := tk4; refine (unhide H2 _).mono ?_; rintro e w4 ⟨rfl, B4⟩; clear tk4 _t)
          | (go_at_call 12; refine (unhide H3 _).mono ?_; rintro e w5 ⟨rfl, B5⟩)
          | (go_at_call 20; refine (unhide HX _).mono ?_; rintro e w6 ⟨rfl, B6⟩))
        go_ret
        exact ⟨rfl, (ret_live (ret_live (ret_live (ret_live (ret_live (ret_live B0 B1) B2) B3) B4) B5) B6)⟩

set_option maxRecDepth 100000 in
set_option maxHeartbeats 1000000 in
theorem join_law (d a b : List UInt8) (w : World) : Calls Try.prog 8 #[.string (bz d), .string (bz a), .string (bz b)] w fun e w' => e = .returned (.bool true) ∧ Below w.heap.size w w' := by
  by_cases hd : d.length ≤ 300
  · by_cases ha : a.length ≤ 300
    · by_cases hb : b.length ≤ 300
      · by_cases h0 : (joinF d a).2 = 0
        · obtain ⟨hf, _, _, _, k, _, _, e, hn, _⟩ := joinF_ok h0
          refine join_main d a b (joinF d a).1 hd ha hb (by rw [← h0]) (by rw [e]; exact hn) (fun h => join_within h0 h) hf (joinF (joinF d a).1 b).1 (joinF (joinF d a).1 b).2 rfl (joinF d (a ++ 47 :: b)).1 (joinF d (a ++ 47 :: b)).2 rfl ?_ w
          by_cases hg : (joinF (joinF d a).1 b).2 = 0
          · rcases join_two h0 hg with h | h
            · exact .inr (.inl h)
            · have h1 : (joinF d (a ++ 47 :: b)).2 = 0 := by rw [h]
              have h2 : (joinF d (a ++ 47 :: b)).1 = (joinF (joinF d a).1 b).1 := by rw [h]
              exact .inr (.inr ⟨h1, h2⟩)
          · exact .inl hg
        · exact join_err d a b hd ha hb h0 w
      · have hL := fun W => live_any W
        replace hL := hide hL
        have dd : decide ((300 : Int) < (d.length : Int)) = false := decide_eq_false (by omega)
        have da : decide ((300 : Int) < (a.length : Int)) = false := decide_eq_false (by omega)
        have db : decide ((300 : Int) < (b.length : Int)) = true := decide_eq_true (by omega)
        go_enter Try.func8, Try.ntmps8
        go_wp2_with (first
          | (go_at_call 9; refine (unhide hL _).mono ?_; rintro e w0 ⟨rfl, B0⟩))
        go_ret
        exact ⟨rfl, B0⟩
    · have hL := fun W => live_any W
      replace hL := hide hL
      have dd : decide ((300 : Int) < (d.length : Int)) = false := decide_eq_false (by omega)
      have da : decide ((300 : Int) < (a.length : Int)) = true := decide_eq_true (by omega)
      go_enter Try.func8, Try.ntmps8
      go_wp2_with (first
        | (go_at_call 9; refine (unhide hL _).mono ?_; rintro e w0 ⟨rfl, B0⟩))
      go_ret
      exact ⟨rfl, B0⟩
  · have hL := fun W => live_any W
    replace hL := hide hL
    have dd : decide ((300 : Int) < (d.length : Int)) = true := decide_eq_true (by omega)
    go_enter Try.func8, Try.ntmps8
    go_wp2_with (first
      | (go_at_call 9; refine (unhide hL _).mono ?_; rintro e w0 ⟨rfl, B0⟩))
    go_ret
    exact ⟨rfl, B0⟩
end Go.Proofs.Ythekgpmkoemmaaa
