import Derived.Test.YthekgpmkoemmaaaL3
namespace Go.Proofs.Ythekgpmkoemmaaa
open Go.RowKit
attribute [local go_sem] bz_size bz_toList

set_option maxRecDepth 100000 in
set_option maxHeartbeats 1000000 in
theorem order_main (a b c : List UInt8) (ha3 : a.length ≤ 300) (hb3 : b.length ≤ 300) (hc3 : c.length ≤ 300) (w : World) : Calls Try.prog 6 #[.string (bz a), .string (bz b), .string (bz c)] w fun e w' => e = .returned (.bool true) ∧ Below w.heap.size w w' := by
  have hL := fun W => live_any W
  replace hL := hide hL
  have H1 := fun W => cmp_any a b (by omega) (by omega) W
  have H2 := fun W => cmp_any b a (by omega) (by omega) W
  have H3 := fun W => cmp_any b c (by omega) (by omega) W
  have H4 := fun W => cmp_any a c (by omega) (by omega) W
  have d1 : decide ((300 : Int) < (a.length : Int)) = false := decide_eq_false (by omega)
  have d2 : decide ((300 : Int) < (b.length : Int)) = false := decide_eq_false (by omega)
  have d3 : decide ((300 : Int) < (c.length : Int)) = false := decide_eq_false (by omega)
  by_cases hn : nameB a = false ∨ nameB b = false
  · rw [cmpF_no hn] at H1
    rw [cmpF_no (or_comm.1 hn)] at H2
    obtain ⟨⟨Z, g⟩, hz⟩ : ∃ p, p = cmpF b c := ⟨_, rfl⟩
    obtain ⟨⟨Y, h⟩, hy⟩ : ∃ p, p = cmpF a c := ⟨_, rfl⟩
    rw [← hz] at H3
    rw [← hy] at H4
    clear hn hz hy
    replace H1 := hide H1; replace H2 := hide H2; replace H3 := hide H3; replace H4 := hide H4
    have tk1 : True := trivial
    have tk2 : True := trivial
    have tk3 : True := trivial
    go_enter Try.func6, Try.ntmps6
    go_wp2_with (first
      | (go_at_call 9; refine (unhide hL _).mono ?_; rintro e w0 ⟨rfl, B0⟩)
      | (go_at_call 18; have _t := tk1; refine (unhide H1 _).mono ?_; rintro e w1 ⟨rfl, B1⟩; clear tk1 _t)
      | (go_at_call 18; have _t := tk2; refine (unhide H2 _).mono ?_; rintro e w2 ⟨rfl, B2⟩; clear tk2 _t)
      | (go_at_call 18; have _t := tk3; refine (unhide H3 _).mono ?_; rintro e w3 ⟨rfl, B3⟩; clear tk3 _t)
      | (go_at_call 18; refine (unhide H4 _).mono ?_; rintro e w4 ⟨rfl, B4⟩))
    go_ret
    exact ⟨rfl, (ret_live (ret_live (ret_live (ret_live B0 B1) B2) B3) B4)⟩
  · have ha : nameB a = true := by cases h' : nameB a with
      | true => rfl
      | false => exact absurd (.inl h') hn
    have hb : nameB b = true := by cases h' : nameB b with
      | true => rfl
      | false => exact absurd (.inr h') hn
    clear hn
    rw [cmpF_yes ha hb] at H1
    rw [cmpF_yes hb ha] at H2
    have hanti := lex_anti (parts a) (parts b)
    have hrange := lex_range (parts a) (parts b)
    have heq := @lex_eq a b
    have htr := lex_trans (parts a) (parts b) (parts c)
    cases hc : nameB c with
    | false =>
      rw [cmpF_no (.inr hc)] at H3 H4
      clear htr hc ha hb
      obtain ⟨X, hX⟩ : ∃ X, X = lex (parts a) (parts b) := ⟨_, rfl⟩
      obtain ⟨X', hX'⟩ : ∃ X, X = lex (parts b) (parts a) := ⟨_, rfl⟩
      rw [← hX] at H1 hanti hrange heq
      rw [← hX'] at H2 hanti
      clear hX hX'
      rcases hrange with rfl | rfl | rfl
      · have e1 : (a == b) = false := beq_eq_false_iff_ne.2 (fun e => by have := heq.2 e; omega)
        obtain rfl : X' = 1 := by omega
        replace H1 := hide H1; replace H2 := hide H2; replace H3 := hide H3; replace H4 := hide H4
        clear heq hanti
        have tk1 : True := trivial
        have tk2 : True := trivial
        have tk3 : True := trivial
        go_enter Try.func6, Try.ntmps6
        go_wp2_with (first
          | (go_at_call 9; refine (unhide hL _).mono ?_; rintro e w0 ⟨rfl, B0⟩)
          | (go_at_call 18; have _t := tk1; refine (unhide H1 _).mono ?_; rintro e w1 ⟨rfl, B1⟩; clear tk1 _t)
          | (go_at_call 18; have _t := tk2; refine (unhide H2 _).mono ?_; rintro e w2 ⟨rfl, B2⟩; clear tk2 _t)
          | (go_at_call 18; have _t := tk3; refine (unhide H3 _).mono ?_; rintro e w3 ⟨rfl, B3⟩; clear tk3 _t)
          | (go_at_call 18; refine (unhide H4 _).mono ?_; rintro e w4 ⟨rfl, B4⟩))
        go_ret
        exact ⟨rfl, (ret_live (ret_live (ret_live (ret_live B0 B1) B2) B3) B4)⟩
      · have e1 : (a == b) = true := beq_iff_eq.2 (heq.1 rfl)
        obtain rfl : X' = 0 := by omega
        replace H1 := hide H1; replace H2 := hide H2; replace H3 := hide H3; replace H4 := hide H4
        clear heq hanti
        have tk1 : True := trivial
        have tk2 : True := trivial
        have tk3 : True := trivial
        go_enter Try.func6, Try.ntmps6
        go_wp2_with (first
          | (go_at_call 9; refine (unhide hL _).mono ?_; rintro e w0 ⟨rfl, B0⟩)
          | (go_at_call 18; have _t := tk1; refine (unhide H1 _).mono ?_; rintro e w1 ⟨rfl, B1⟩; clear tk1 _t)
          | (go_at_call 18; have _t := tk2; refine (unhide H2 _).mono ?_; rintro e w2 ⟨rfl, B2⟩; clear tk2 _t)
          | (go_at_call 18; have _t := tk3; refine (unhide H3 _).mono ?_; rintro e w3 ⟨rfl, B3⟩; clear tk3 _t)
          | (go_at_call 18; refine (unhide H4 _).mono ?_; rintro e w4 ⟨rfl, B4⟩))
        go_ret
        exact ⟨rfl, (ret_live (ret_live (ret_live (ret_live B0 B1) B2) B3) B4)⟩
      · have e1 : (a == b) = false := beq_eq_false_iff_ne.2 (fun e => by have := heq.2 e; omega)
        obtain rfl : X' = -1 := by omega
        replace H1 := hide H1; replace H2 := hide H2; replace H3 := hide H3; replace H4 := hide H4
        clear heq hanti
        have tk1 : True := trivial
        have tk2 : True := trivial
        have tk3 : True := trivial
        go_enter Try.func6, Try.ntmps6
        go_wp2_with (first
          | (go_at_call 9; refine (unhide hL _).mono ?_; rintro e w0 ⟨rfl, B0⟩)
          | (go_at_call 18; have _t := tk1; refine (unhide H1 _).mono ?_; rintro e w1 ⟨rfl, B1⟩; clear tk1 _t)
          | (go_at_call 18; have _t := tk2; refine (unhide H2 _).mono ?_; rintro e w2 ⟨rfl, B2⟩; clear tk2 _t)
          | (go_at_call 18; have _t := tk3; refine (unhide H3 _).mono ?_; rintro e w3 ⟨rfl, B3⟩; clear tk3 _t)
          | (go_at_call 18; refine (unhide H4 _).mono ?_; rintro e w4 ⟨rfl, B4⟩))
        go_ret
        exact ⟨rfl, (ret_live (ret_live (ret_live (ret_live B0 B1) B2) B3) B4)⟩
    | true =>
      rw [cmpF_yes hb hc] at H3
      rw [cmpF_yes ha hc] at H4
      clear hc ha hb
      obtain ⟨X, hX⟩ : ∃ X, X = lex (parts a) (parts b) := ⟨_, rfl⟩
      obtain ⟨X', hX'⟩ : ∃ X, X = lex (parts b) (parts a) := ⟨_, rfl⟩
      obtain ⟨Z, hZ⟩ : ∃ X, X = lex (parts b) (parts c) := ⟨_, rfl⟩
      obtain ⟨Y, hY⟩ : ∃ X, X = lex (parts a) (parts c) := ⟨_, rfl⟩
      rw [← hX] at H1 hanti hrange heq htr
      rw [← hX'] at H2 hanti
      rw [← hZ] at H3 htr
      rw [← hY] at H4 htr
      clear hX hX' hZ hY
      rcases hrange with rfl | rfl | rfl
      · have e1 : (a == b) = false := beq_eq_false_iff_ne.2 (fun e => by have := heq.2 e; omega)
        obtain rfl : X' = 1 := by omega
        replace H1 := hide H1; replace H2 := hide H2; replace H3 := hide H3; replace H4 := hide H4
        clear heq hanti
        by_cases hz : 0 ≤ Z
        · clear htr
          have tk1 : True := trivial
          have tk2 : True := trivial
          have tk3 : True := trivial
          go_enter Try.func6, Try.ntmps6
          go_wp2_with (first
            | (go_at_call 9; refine (unhide hL _).mono ?_; rintro e w0 ⟨rfl, B0⟩)
            | (go_at_call 18; have _t := tk1; refine (unhide H1 _).mono ?_; rintro e w1 ⟨rfl, B1⟩; clear tk1 _t)
            | (go_at_call 18; have _t := tk2; refine (unhide H2 _).mono ?_; rintro e w2 ⟨rfl, B2⟩; clear tk2 _t)
            | (go_at_call 18; have _t := tk3; refine (unhide H3 _).mono ?_; rintro e w3 ⟨rfl, B3⟩; clear tk3 _t)
            | (go_at_call 18; refine (unhide H4 _).mono ?_; rintro e w4 ⟨rfl, B4⟩))
          go_ret
          exact ⟨rfl, (ret_live (ret_live (ret_live (ret_live B0 B1) B2) B3) B4)⟩
        · have hz' : Z < 0 := by omega
          have hy := htr (by decide) hz'
          clear htr hz
          have tk1 : True := trivial
          have tk2 : True := trivial
          have tk3 : True := trivial
          go_enter Try.func6, Try.ntmps6
          go_wp2_with (first
            | (go_at_call 9; refine (unhide hL _).mono ?_; rintro e w0 ⟨rfl, B0⟩)
            | (go_at_call 18; have _t := tk1; refine (unhide H1 _).mono ?_; rintro e w1 ⟨rfl, B1⟩; clear tk1 _t)
            | (go_at_call 18; have _t := tk2; refine (unhide H2 _).mono ?_; rintro e w2 ⟨rfl, B2⟩; clear tk2 _t)
            | (go_at_call 18; have _t := tk3; refine (unhide H3 _).mono ?_; rintro e w3 ⟨rfl, B3⟩; clear tk3 _t)
            | (go_at_call 18; refine (unhide H4 _).mono ?_; rintro e w4 ⟨rfl, B4⟩))
          go_ret
          exact ⟨rfl, (ret_live (ret_live (ret_live (ret_live B0 B1) B2) B3) B4)⟩
      · have e1 : (a == b) = true := beq_iff_eq.2 (heq.1 rfl)
        obtain rfl : X' = 0 := by omega
        replace H1 := hide H1; replace H2 := hide H2; replace H3 := hide H3; replace H4 := hide H4
        clear heq hanti
        clear htr
        have tk1 : True := trivial
        have tk2 : True := trivial
        have tk3 : True := trivial
        go_enter Try.func6, Try.ntmps6
        go_wp2_with (first
          | (go_at_call 9; refine (unhide hL _).mono ?_; rintro e w0 ⟨rfl, B0⟩)
          | (go_at_call 18; have _t := tk1; refine (unhide H1 _).mono ?_; rintro e w1 ⟨rfl, B1⟩; clear tk1 _t)
          | (go_at_call 18; have _t := tk2; refine (unhide H2 _).mono ?_; rintro e w2 ⟨rfl, B2⟩; clear tk2 _t)
          | (go_at_call 18; have _t := tk3; refine (unhide H3 _).mono ?_; rintro e w3 ⟨rfl, B3⟩; clear tk3 _t)
          | (go_at_call 18; refine (unhide H4 _).mono ?_; rintro e w4 ⟨rfl, B4⟩))
        go_ret
        exact ⟨rfl, (ret_live (ret_live (ret_live (ret_live B0 B1) B2) B3) B4)⟩
      · have e1 : (a == b) = false := beq_eq_false_iff_ne.2 (fun e => by have := heq.2 e; omega)
        obtain rfl : X' = -1 := by omega
        replace H1 := hide H1; replace H2 := hide H2; replace H3 := hide H3; replace H4 := hide H4
        clear heq hanti
        clear htr
        have tk1 : True := trivial
        have tk2 : True := trivial
        have tk3 : True := trivial
        go_enter Try.func6, Try.ntmps6
        go_wp2_with (first
          | (go_at_call 9; refine (unhide hL _).mono ?_; rintro e w0 ⟨rfl, B0⟩)
          | (go_at_call 18; have _t := tk1; refine (unhide H1 _).mono ?_; rintro e w1 ⟨rfl, B1⟩; clear tk1 _t)
          | (go_at_call 18; have _t := tk2; refine (unhide H2 _).mono ?_; rintro e w2 ⟨rfl, B2⟩; clear tk2 _t)
          | (go_at_call 18; have _t := tk3; refine (unhide H3 _).mono ?_; rintro e w3 ⟨rfl, B3⟩; clear tk3 _t)
          | (go_at_call 18; refine (unhide H4 _).mono ?_; rintro e w4 ⟨rfl, B4⟩))
        go_ret
        exact ⟨rfl, (ret_live (ret_live (ret_live (ret_live B0 B1) B2) B3) B4)⟩

set_option maxRecDepth 100000 in
set_option maxHeartbeats 1000000 in
theorem order_law (a b c : List UInt8) (w : World) : Calls Try.prog 6 #[.string (bz a), .string (bz b), .string (bz c)] w fun e w' => e = .returned (.bool true) ∧ Below w.heap.size w w' := by
  by_cases ha : a.length ≤ 300
  · by_cases hb : b.length ≤ 300
    · by_cases hc : c.length ≤ 300
      · exact order_main a b c ha hb hc w
      · have hL := fun W => live_any W
        replace hL := hide hL
        have d1 : decide ((300 : Int) < (a.length : Int)) = false := decide_eq_false (by omega)
        have d2 : decide ((300 : Int) < (b.length : Int)) = false := decide_eq_false (by omega)
        have d3 : decide ((300 : Int) < (c.length : Int)) = true := decide_eq_true (by omega)
        go_enter Try.func6, Try.ntmps6
        go_wp2_with (first
          | (go_at_call 9; refine (unhide hL _).mono ?_; rintro e w0 ⟨rfl, B0⟩))
        go_ret
        exact ⟨rfl, B0⟩
    · have hL := fun W => live_any W
      replace hL := hide hL
      have d1 : decide ((300 : Int) < (a.length : Int)) = false := decide_eq_false (by omega)
      have d2 : decide ((300 : Int) < (b.length : Int)) = true := decide_eq_true (by omega)
      go_enter Try.func6, Try.ntmps6
      go_wp2_with (first
        | (go_at_call 9; refine (unhide hL _).mono ?_; rintro e w0 ⟨rfl, B0⟩))
      go_ret
      exact ⟨rfl, B0⟩
  · have hL := fun W => live_any W
    replace hL := hide hL
    have d1 : decide ((300 : Int) < (a.length : Int)) = true := decide_eq_true (by omega)
    go_enter Try.func6, Try.ntmps6
    go_wp2_with (first
      | (go_at_call 9; refine (unhide hL _).mono ?_; rintro e w0 ⟨rfl, B0⟩))
    go_ret
    exact ⟨rfl, B0⟩
end Go.Proofs.Ythekgpmkoemmaaa
