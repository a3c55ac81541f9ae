import Derived.Test.YthekgpmkoemmaaaL3
namespace Go.Proofs.Ythekgpmkoemmaaa
open Go.RowKit
attribute [local go_sem] bz_size bz_toList
theorem withinF_no {d p : List UInt8} (h : folderB d = false ∨ nameB p = false) : withinF d p = (false, 1) := by unfold withinF; rw [if_pos h]
theorem withinF_yes {d p : List UInt8} (h1 : folderB d = true) (h2 : nameB p = true) : withinF d p = (withinB d p, 0) := by unfold withinF; rw [if_neg (by rw [h1, h2]; simp)]
theorem between {d a b c : List UInt8} (hx : withinB d a = true) (hz : withinB d c = true) (h1 : lex (parts a) (parts b) ≤ 0) (h2 : lex (parts b) (parts c) ≤ 0) : withinB d b = true := by
  by_cases hd : d = []
  · subst hd; rfl
  · obtain ⟨x, hx, ex⟩ := (withinB_iff hd).1 hx
    obtain ⟨z, hz, ez⟩ := (withinB_iff hd).1 hz
    rw [ex] at h1
    rw [ez] at h2
    exact (withinB_iff hd).2 (lex_between _ _ _ _ hx h1 h2)
theorem ahead {d a : List UInt8} (hd : d ≠ []) (hx : withinB d a = true) : lex (parts d) (parts a) = -1 := by
  obtain ⟨x, hx, ex⟩ := (withinB_iff hd).1 hx
  rw [ex]
  exact lex_longer _ _ hx
theorem yes_of {b : Bool} (h : ¬ b = false) : b = true := by cases b with
  | true => rfl
  | false => exact absurd rfl h

set_option maxRecDepth 100000 in
set_option maxHeartbeats 1000000 in
theorem together_no (d a b c : List UInt8) (hd3 : d.length ≤ 300) (ha3 : a.length ≤ 300) (hb3 : b.length ≤ 300) (hc3 : c.length ≤ 300) (hn : folderB d = false ∨ nameB a = false ∨ nameB b = false ∨ nameB c = false) (w : World) : Calls Try.prog 7 #[.string (bz d), .string (bz a), .string (bz b), .string (bz c)] w fun e w' => e = .returned (.bool true) ∧ Below w.heap.size w w' := by
  have hL := fun W => live_any W
  replace hL := hide hL
  have H1 := fun W => within_any d a (by omega) (by omega) W
  have H2 := fun W => within_any d b (by omega) (by omega) W
  have H3 := fun W => within_any d c (by omega) (by omega) W
  have H4 := fun W => cmp_any a b (by omega) (by omega) W
  have H5 := fun W => cmp_any b c (by omega) (by omega) W
  have dd : decide ((300 : Int) < (d.length : Int)) = false := decide_eq_false (by omega)
  have da : decide ((300 : Int) < (a.length : Int)) = false := decide_eq_false (by omega)
  have db : decide ((300 : Int) < (b.length : Int)) = false := decide_eq_false (by omega)
  have dc : decide ((300 : Int) < (c.length : Int)) = false := decide_eq_false (by omega)
  obtain ⟨⟨x4, y4⟩, q4⟩ : ∃ p, p = cmpF a b := ⟨_, rfl⟩
  rw [← q4] at H4
  clear q4
  obtain ⟨⟨x5, y5⟩, q5⟩ : ∃ p, p = cmpF b c := ⟨_, rfl⟩
  rw [← q5] at H5
  clear q5
  by_cases h1 : folderB d = false ∨ nameB a = false
  · rw [withinF_no h1] at H1
    clear h1 hn
    obtain ⟨⟨x2, y2⟩, q2⟩ : ∃ p, p = withinF d b := ⟨_, rfl⟩
    rw [← q2] at H2
    clear q2
    obtain ⟨⟨x3, y3⟩, q3⟩ : ∃ p, p = withinF d c := ⟨_, rfl⟩
    rw [← q3] at H3
    clear q3
    replace H1 := hide H1; replace H2 := hide H2; replace H3 := hide H3; replace H4 := hide H4; replace H5 := hide H5
    have tk1 : True := trivial
    have tk2 : True := trivial
    have tk4 : True := trivial
    go_enter Try.func7, Try.ntmps7
    go_wp2_with (first
      | (go_at_call 9; refine (unhide hL _).mono ?_; rintro e w0 ⟨rfl, B0⟩)
      | (go_at_call 16; have _t := tk1; refine (unhide H1 _).mono ?_; rintro e w1 ⟨rfl, B1⟩; clear tk1 _t)
      | (go_at_call 16; have _t := tk2; refine (unhide H2 _).mono ?_; rintro e w2 ⟨rfl, B2⟩; clear tk2 _t)
      | (go_at_call 16; refine (unhide H3 _).mono ?_; rintro e w3 ⟨rfl, B3⟩)
      | (go_at_call 18; have _t := tk4; refine (unhide H4 _).mono ?_; rintro e w4 ⟨rfl, B4⟩; clear tk4 _t)
      | (go_at_call 18; refine (unhide H5 _).mono ?_; rintro e w5 ⟨rfl, B5⟩))
    go_ret
    exact ⟨rfl, (ret_live (ret_live (ret_live (ret_live (ret_live B0 B1) B2) B3) B4) B5)⟩
  · have hf := yes_of (fun h => h1 (.inl h))
    have ha := yes_of (fun h => h1 (.inr h))
    rw [withinF_yes hf ha] at H1
    obtain ⟨X, hX⟩ : ∃ X, X = withinB d a := ⟨_, rfl⟩
    rw [← hX] at H1
    by_cases h2 : nameB b = false
    · rw [withinF_no (.inr h2)] at H2
      clear h1 h2 hn hf ha hX
      obtain ⟨⟨x3, y3⟩, q3⟩ : ∃ p, p = withinF d c := ⟨_, rfl⟩
      rw [← q3] at H3
      clear q3
      replace H1 := hide H1; replace H2 := hide H2; replace H3 := hide H3; replace H4 := hide H4; replace H5 := hide H5
      have tk1 : True := trivial
      have tk2 : True := trivial
      have tk4 : True := trivial
      go_enter Try.func7, Try.ntmps7
      go_wp2_with (first
        | (go_at_call 9; refine (unhide hL _).mono ?_; rintro e w0 ⟨rfl, B0⟩)
        | (go_at_call 16; have _t := tk1; refine (unhide H1 _).mono ?_; rintro e w1 ⟨rfl, B1⟩; clear tk1 _t)
        | (go_at_call 16; have _t := tk2; refine (unhide H2 _).mono ?_; rintro e w2 ⟨rfl, B2⟩; clear tk2 _t)
        | (go_at_call 16; refine (unhide H3 _).mono ?_; rintro e w3 ⟨rfl, B3⟩)
        | (go_at_call 18; have _t := tk4; refine (unhide H4 _).mono ?_; rintro e w4 ⟨rfl, B4⟩; clear tk4 _t)
        | (go_at_call 18; refine (unhide H5 _).mono ?_; rintro e w5 ⟨rfl, B5⟩))
      go_ret
      exact ⟨rfl, (ret_live (ret_live (ret_live (ret_live (ret_live B0 B1) B2) B3) B4) B5)⟩
    · have hb := yes_of h2
      have hc : nameB c = false := by
        rcases hn with h | h | h | h
        · rw [hf] at h; cases h
        · rw [ha] at h; cases h
        · exact absurd h h2
        · exact h
      rw [withinF_yes hf hb] at H2
      rw [withinF_no (.inr hc)] at H3
      obtain ⟨Y, hY⟩ : ∃ X, X = withinB d b := ⟨_, rfl⟩
      rw [← hY] at H2
      clear h1 h2 hn hf ha hb hc hX hY
      replace H1 := hide H1; replace H2 := hide H2; replace H3 := hide H3; replace H4 := hide H4; replace H5 := hide H5
      have tk1 : True := trivial
      have tk2 : True := trivial
      have tk4 : True := trivial
      go_enter Try.func7, Try.ntmps7
      go_wp2_with (first
        | (go_at_call 9; refine (unhide hL _).mono ?_; rintro e w0 ⟨rfl, B0⟩)
        | (go_at_call 16; have _t := tk1; refine (unhide H1 _).mono ?_; rintro e w1 ⟨rfl, B1⟩; clear tk1 _t)
        | (go_at_call 16; have _t := tk2; refine (unhide H2 _).mono ?_; rintro e w2 ⟨rfl, B2⟩; clear tk2 _t)
        | (go_at_call 16; refine (unhide H3 _).mono ?_; rintro e w3 ⟨rfl, B3⟩)
        | (go_at_call 18; have _t := tk4; refine (unhide H4 _).mono ?_; rintro e w4 ⟨rfl, B4⟩; clear tk4 _t)
        | (go_at_call 18; refine (unhide H5 _).mono ?_; rintro e w5 ⟨rfl, B5⟩))
      go_ret
      exact ⟨rfl, (ret_live (ret_live (ret_live (ret_live (ret_live B0 B1) B2) B3) B4) B5)⟩

set_option maxRecDepth 100000 in
set_option maxHeartbeats 1000000 in
theorem together_main (d a b c : List UInt8) (hd3 : d.length ≤ 300) (ha3 : a.length ≤ 300) (hb3 : b.length ≤ 300) (hc3 : c.length ≤ 300) (hf : folderB d = true) (ha : nameB a = true) (hb : nameB b = true) (hc : nameB c = true) (w : World) : Calls Try.prog 7 #[.string (bz d), .string (bz a), .string (bz b), .string (bz c)] w fun e w' => e = .returned (.bool true) ∧ Below w.heap.size w w' := by
  have hL := fun W => live_any W
  replace hL := hide hL
  have H1 := fun W => within_any d a (by omega) (by omega) W
  have H2 := fun W => within_any d b (by omega) (by omega) W
  have H3 := fun W => within_any d c (by omega) (by omega) W
  have H4 := fun W => cmp_any a b (by omega) (by omega) W
  have H5 := fun W => cmp_any b c (by omega) (by omega) W
  have H6 := fun W => cmp_any d a (by omega) (by omega) W
  have dd : decide ((300 : Int) < (d.length : Int)) = false := decide_eq_false (by omega)
  have da : decide ((300 : Int) < (a.length : Int)) = false := decide_eq_false (by omega)
  have db : decide ((300 : Int) < (b.length : Int)) = false := decide_eq_false (by omega)
  have dc : decide ((300 : Int) < (c.length : Int)) = false := decide_eq_false (by omega)
  rw [withinF_yes hf ha] at H1
  rw [withinF_yes hf hb] at H2
  rw [withinF_yes hf hc] at H3
  rw [cmpF_yes ha hb] at H4
  rw [cmpF_yes hb hc] at H5
  have hbw := @between d a b c
  obtain ⟨L, hLL⟩ : ∃ L, L = lex (parts a) (parts b) := ⟨_, rfl⟩
  obtain ⟨M, hM⟩ : ∃ M, M = lex (parts b) (parts c) := ⟨_, rfl⟩
  obtain ⟨Y, hY⟩ : ∃ X, X = withinB d b := ⟨_, rfl⟩
  obtain ⟨Z, hZ⟩ : ∃ X, X = withinB d c := ⟨_, rfl⟩
  rw [← hLL] at H4 hbw
  rw [← hM] at H5 hbw
  rw [← hY] at H2 hbw
  rw [← hZ] at H3 hbw
  cases hx : withinB d a with
  | false =>
    have hne : d ≠ [] := by rintro rfl; cases hx
    have e0 : d.isEmpty = false := by simpa using hne
    rw [hx] at H1
    clear hbw hLL hM hY hZ hx hne H6 hf ha hb hc
    replace H1 := hide H1; replace H2 := hide H2; replace H3 := hide H3; replace H4 := hide H4; replace H5 := hide H5
    have tk1 : True := trivial
    have tk2 : True := trivial
    have tk4 : True := trivial
    go_enter Try.func7, Try.ntmps7
    go_wp2_with (first
      | (go_at_call 9; refine (unhide hL _).mono ?_; rintro e w0 ⟨rfl, B0⟩)
      | (go_at_call 16; have _t := tk1; refine (unhide H1 _).mono ?_; rintro e w1 ⟨rfl, B1⟩; clear tk1 _t)
      | (go_at_call 16; have _t := tk2; refine (unhide H2 _).mono ?_; rintro e w2 ⟨rfl, B2⟩; clear tk2 _t)
      | (go_at_call 16; refine (unhide H3 _).mono ?_; rintro e w3 ⟨rfl, B3⟩)
      | (go_at_call 18; have _t := tk4; refine (unhide H4 _).mono ?_; rintro e w4 ⟨rfl, B4⟩; clear tk4 _t)
      | (go_at_call 18; refine (unhide H5 _).mono ?_; rintro e w5 ⟨rfl, B5⟩))
    go_ret
    exact ⟨rfl, (ret_live (ret_live (ret_live (ret_live (ret_live B0 B1) B2) B3) B4) B5)⟩
  | true =>
    replace hbw := hbw hx
    rw [hx] at H1
    by_cases hne : d = []
    · have e0 : d.isEmpty = true := by simp [hne]
      have hZt : Z = true := by rw [hZ, hne]; rfl
      subst hZt
      replace hbw := hbw rfl
      clear hLL hM hY hZ hx hne H6 hf ha hb hc
      replace H1 := hide H1; replace H2 := hide H2; replace H3 := hide H3; replace H4 := hide H4; replace H5 := hide H5
      by_cases h1 : L ≤ 0
      · by_cases h2 : M ≤ 0
        · obtain rfl : Y = true := hbw h1 h2
          clear hbw
          have tk1 : True := trivial
          have tk2 : True := trivial
          have tk4 : True := trivial
          go_enter Try.func7, Try.ntmps7
          go_wp2_with (first
            | (go_at_call 9; refine (unhide hL _).mono ?_; rintro e w0 ⟨rfl, B0⟩)
            | (go_at_call 16; have _t := tk1; refine (unhide H1 _).mono ?_; rintro e w1 ⟨rfl, B1⟩; clear tk1 _t)
            | (go_at_call 16; have _t := tk2; refine (unhide H2 _).mono ?_; rintro e w2 ⟨rfl, B2⟩; clear tk2 _t)
            | (go_at_call 16; refine (unhide H3 _).mono ?_; rintro e w3 ⟨rfl, B3⟩)
            | (go_at_call 18; have _t := tk4; refine (unhide H4 _).mono ?_; rintro e w4 ⟨rfl, B4⟩; clear tk4 _t)
            | (go_at_call 18; refine (unhide H5 _).mono ?_; rintro e w5 ⟨rfl, B5⟩))
          go_ret
          exact ⟨rfl, (ret_live (ret_live (ret_live (ret_live (ret_live B0 B1) B2) B3) B4) B5)⟩
        · clear hbw
          replace h2 : 0 < M := by omega
          have tk1 : True := trivial
          have tk2 : True := trivial
          have tk4 : True := trivial
          go_enter Try.func7, Try.ntmps7
          go_wp2_with (first
            | (go_at_call 9; refine (unhide hL _).mono ?_; rintro e w0 ⟨rfl, B0⟩)
            | (go_at_call 16; have _t := tk1; refine (unhide H1 _).mono ?_; rintro e w1 ⟨rfl, B1⟩; clear tk1 _t)
            | (go_at_call 16; have _t := tk2; refine (unhide H2 _).mono ?_; rintro e w2 ⟨rfl, B2⟩; clear tk2 _t)
            | (go_at_call 16; refine (unhide H3 _).mono ?_; rintro e w3 ⟨rfl, B3⟩)
            | (go_at_call 18; have _t := tk4; refine (unhide H4 _).mono ?_; rintro e w4 ⟨rfl, B4⟩; clear tk4 _t)
            | (go_at_call 18; refine (unhide H5 _).mono ?_; rintro e w5 ⟨rfl, B5⟩))
          go_ret
          exact ⟨rfl, (ret_live (ret_live (ret_live (ret_live (ret_live B0 B1) B2) B3) B4) B5)⟩
      · clear hbw
        replace h1 : 0 < L := by omega
        have tk1 : True := trivial
        have tk2 : True := trivial
        have tk4 : True := trivial
        go_enter Try.func7, Try.ntmps7
        go_wp2_with (first
          | (go_at_call 9; refine (unhide hL _).mono ?_; rintro e w0 ⟨rfl, B0⟩)
          | (go_at_call 16; have _t := tk1; refine (unhide H1 _).mono ?_; rintro e w1 ⟨rfl, B1⟩; clear tk1 _t)
          | (go_at_call 16; have _t := tk2; refine (unhide H2 _).mono ?_; rintro e w2 ⟨rfl, B2⟩; clear tk2 _t)
          | (go_at_call 16; refine (unhide H3 _).mono ?_; rintro e w3 ⟨rfl, B3⟩)
          | (go_at_call 18; have _t := tk4; refine (unhide H4 _).mono ?_; rintro e w4 ⟨rfl, B4⟩; clear tk4 _t)
          | (go_at_call 18; refine (unhide H5 _).mono ?_; rintro e w5 ⟨rfl, B5⟩))
        go_ret
        exact ⟨rfl, (ret_live (ret_live (ret_live (ret_live (ret_live B0 B1) B2) B3) B4) B5)⟩
    · have e0 : d.isEmpty = false := by simpa using hne
      have hdn : nameB d = true := (folder_cases hf).resolve_left hne
      rw [cmpF_yes hdn ha, ahead hne hx] at H6
      clear hLL hM hY hZ hx hne hf ha hb hc hdn
      cases Z with
      | false =>
        clear hbw
        replace H1 := hide H1; replace H2 := hide H2; replace H3 := hide H3; replace H4 := hide H4; replace H5 := hide H5; replace H6 := hide H6
        have tk1 : True := trivial
        have tk2 : True := trivial
        have tk4 : True := trivial
        have tk5 : True := trivial
        go_enter Try.func7, Try.ntmps7
        go_wp2_with (first
          | (go_at_call 9; refine (unhide hL _).mono ?_; rintro e w0 ⟨rfl, B0⟩)
          | (go_at_call 16; have _t := tk1; refine (unhide H1 _).mono ?_; rintro e w1 ⟨rfl, B1⟩; clear tk1 _t)
          | (go_at_call 16; have _t := tk2; refine (unhide H2 _).mono ?_; rintro e w2 ⟨rfl, B2⟩; clear tk2 _t)
          | (go_at_call 16; refine (unhide H3 _).mono ?_; rintro e w3 ⟨rfl, B3⟩)
          | (go_at_call 18; have _t := tk4; refine (unhide H4 _).mono ?_; rintro e w4 ⟨rfl, B4⟩; clear tk4 _t)
          | (go_at_call 18; have _t := tk5; refine (unhide H5 _).mono ?_; rintro e w5 ⟨rfl, B5⟩; clear tk5 _t)
          | (go_at_call 18; refine (unhide H6 _).mono ?_; rintro e w6 ⟨rfl, B6⟩))
        go_ret
        exact ⟨rfl, (ret_live (ret_live (ret_live (ret_live (ret_live (ret_live B0 B1) B2) B3) B4) B5) B6)⟩
      | true =>
        replace hbw := hbw rfl
        replace H1 := hide H1; replace H2 := hide H2; replace H3 := hide H3; replace H4 := hide H4; replace H5 := hide H5; replace H6 := hide H6
        by_cases h1 : L ≤ 0
        · by_cases h2 : M ≤ 0
          · obtain rfl : Y = true := hbw h1 h2
            clear hbw
            have tk1 : True := trivial
            have tk2 : True := trivial
            have tk4 : True := trivial
            have tk5 : True := trivial
            go_enter Try.func7, Try.ntmps7
            go_wp2_with (first
              | (go_at_call 9; refine (unhide hL _).mono ?_; rintro e w0 ⟨rfl, B0⟩)
              | (go_at_call 16; have _t := tk1; refine (unhide H1 _).mono ?_; rintro e w1 ⟨rfl, B1⟩; clear tk1 _t)
              | (go_at_call 16; have _t := tk2; refine (unhide H2 _).mono ?_; rintro e w2 ⟨rfl, B2⟩; clear tk2 _t)
              | (go_at_call 16; refine (unhide H3 _).mono ?_; rintro e w3 ⟨rfl, B3⟩)
              | (go_at_call 18; have _t := tk4; refine (unhide H4 _).mono ?_; rintro e w4 ⟨rfl, B4⟩; clear tk4 _t)
              | (go_at_call 18; have _t := tk5; refine (unhide H5 _).mono ?_; rintro e w5 ⟨rfl, B5⟩; clear tk5 _t)
              | (go_at_call 18; refine (unhide H6 _).mono ?_; rintro e w6 ⟨rfl, B6⟩))
            go_ret
            exact ⟨rfl, (ret_live (ret_live (ret_live (ret_live (ret_live (ret_live B0 B1) B2) B3) B4) B5) B6)⟩
          · clear hbw
            replace h2 : 0 < M := by omega
            have tk1 : True := trivial
            have tk2 : True := trivial
            have tk4 : True := trivial
            have tk5 : True := trivial
            go_enter Try.func7, Try.ntmps7
            go_wp2_with (first
              | (go_at_call 9; refine (unhide hL _).mono ?_; rintro e w0 ⟨rfl, B0⟩)
              | (go_at_call 16; have _t := tk1; refine (unhide H1 _).mono ?_; rintro e w1 ⟨rfl, B1⟩; clear tk1 _t)
              | (go_at_call 16; have _t := tk2; refine (unhide H2 _).mono ?_; rintro e w2 ⟨rfl, B2⟩; clear tk2 _t)
              | (go_at_call 16; refine (unhide H3 _).mono ?_; rintro e w3 ⟨rfl, B3⟩)
              | (go_at_call 18; have _t := tk4; refine (unhide H4 _).mono ?_; rintro e w4 ⟨rfl, B4⟩; clear tk4 _t)
              | (go_at_call 18; have _t := tk5; refine (unhide H5 _).mono ?_; rintro e w5 ⟨rfl, B5⟩; clear tk5 _t)
              | (go_at_call 18; refine (unhide H6 _).mono ?_; rintro e w6 ⟨rfl, B6⟩))
            go_ret
            exact ⟨rfl, (ret_live (ret_live (ret_live (ret_live (ret_live (ret_live B0 B1) B2) B3) B4) B5) B6)⟩
        · clear hbw
          replace h1 : 0 < L := by omega
          have tk1 : True := trivial
          have tk2 : True := trivial
          have tk4 : True := trivial
          have tk5 : True := trivial
          go_enter Try.func7, Try.ntmps7
          go_wp2_with (first
            | (go_at_call 9; refine (unhide hL _).mono ?_; rintro e w0 ⟨rfl, B0⟩)
            | (go_at_call 16; have _t := tk1; refine (unhide H1 _).mono ?_; rintro e w1 ⟨rfl, B1⟩; clear tk1 _t)
            | (go_at_call 16; have _t := tk2; refine (unhide H2 _).mono ?_; rintro e w2 ⟨rfl, B2⟩; clear tk2 _t)
            | (go_at_call 16; refine (unhide H3 _).mono ?_; rintro e w3 ⟨rfl, B3⟩)
            | (go_at_call 18; have _t := tk4; refine (unhide H4 _).mono ?_; rintro e w4 ⟨rfl, B4⟩; clear tk4 _t)
            | (go_at_call 18; have _t := tk5; refine (unhide H5 _).mono ?_; rintro e w5 ⟨rfl, B5⟩; clear tk5 _t)
            | (go_at_call 18; refine (unhide H6 _).mono ?_; rintro e w6 ⟨rfl, B6⟩))
          go_ret
          exact ⟨rfl, (ret_live (ret_live (ret_live (ret_live (ret_live (ret_live B0 B1) B2) B3) B4) B5) B6)⟩

set_option maxRecDepth 100000 in
set_option maxHeartbeats 1000000 in
theorem together_law (d a b c : List UInt8) (w : World) : Calls Try.prog 7 #[.string (bz d), .string (bz a), .string (bz b), .string (bz c)] w fun e w' => e = .returned (.bool true) ∧ Below w.heap.size w w' := by
  by_cases hg : d.length ≤ 300 ∧ a.length ≤ 300 ∧ b.length ≤ 300 ∧ c.length ≤ 300
  · by_cases hn : folderB d = false ∨ nameB a = false ∨ nameB b = false ∨ nameB c = false
    · exact together_no d a b c hg.1 hg.2.1 hg.2.2.1 hg.2.2.2 hn w
    · exact together_main d a b c hg.1 hg.2.1 hg.2.2.1 hg.2.2.2 (yes_of fun h => hn (.inl h)) (yes_of fun h => hn (.inr (.inl h))) (yes_of fun h => hn (.inr (.inr (.inl h)))) (yes_of fun h => hn (.inr (.inr (.inr h)))) w
  · have hL := fun W => live_any W
    replace hL := hide hL
    by_cases hd : d.length ≤ 300
    · have dd : decide ((300 : Int) < (d.length : Int)) = false := decide_eq_false (by omega)
      by_cases ha : a.length ≤ 300
      · have da : decide ((300 : Int) < (a.length : Int)) = false := decide_eq_false (by omega)
        by_cases hb : b.length ≤ 300
        · have db : decide ((300 : Int) < (b.length : Int)) = false := decide_eq_false (by omega)
          have dc : decide ((300 : Int) < (c.length : Int)) = true := decide_eq_true (by omega)
          clear hg
          go_enter Try.func7, Try.ntmps7
          go_wp2_with (first
            | (go_at_call 9; refine (unhide hL _).mono ?_; rintro e w0 ⟨rfl, B0⟩))
          go_ret
          exact ⟨rfl, B0⟩
        · have db : decide ((300 : Int) < (b.length : Int)) = true := decide_eq_true (by omega)
          clear hg
          go_enter Try.func7, Try.ntmps7
          go_wp2_with (first
            | (go_at_call 9; refine (unhide hL _).mono ?_; rintro e w0 ⟨rfl, B0⟩))
          go_ret
          exact ⟨rfl, B0⟩
      · have da : decide ((300 : Int) < (a.length : Int)) = true := decide_eq_true (by omega)
        clear hg
        go_enter Try.func7, Try.ntmps7
        go_wp2_with (first
          | (go_at_call 9; refine (unhide hL _).mono ?_; rintro e w0 ⟨rfl, B0⟩))
        go_ret
        exact ⟨rfl, B0⟩
    · have dd : decide ((300 : Int) < (d.length : Int)) = true := decide_eq_true (by omega)
      clear hg
      go_enter Try.func7, Try.ntmps7
      go_wp2_with (first
        | (go_at_call 9; refine (unhide hL _).mono ?_; rintro e w0 ⟨rfl, B0⟩))
      go_ret
      exact ⟨rfl, B0⟩
end Go.Proofs.Ythekgpmkoemmaaa
