import Derived.Test.YthekgpmkoemmaaaL1
namespace Go.Proofs.Ythekgpmkoemmaaa
open Go.RowKit
attribute [local go_sem] bz_size bz_toList

theorem ret_live {w w1 w' : World} (B1 : Below w.heap.size w w1) (B2 : Below w1.heap.size w1 w') : Below w.heap.size w w' := B1.trans (B2.mono B1.size)

set_option maxRecDepth 100000 in
set_option maxHeartbeats 1000000 in
theorem clean_law (s : List UInt8) (w : World) : Calls Try.prog 4 #[.string (bz s)] w fun e w' => e = .returned (.bool true) ∧ Below w.heap.size w w' := by
  have hL := fun W => live_any W
  replace hL := hide hL
  by_cases h300 : s.length ≤ 300
  · have HC := fun W => clean_any s (by omega) W
    have HK := fun W => check_any s (by omega) W
    have hiff := clean_iff s
    have herr := @cleanF_err s
    have hok := clean_facts s
    obtain ⟨⟨p, er⟩, hp⟩ : ∃ p, p = cleanF s := ⟨_, rfl⟩
    rw [← hp] at HC hiff herr hok
    clear hp
    have hd : decide ((300 : Int) < (s.length : Int)) = false := decide_eq_false (by omega)
    by_cases h0 : er = 0
    · subst h0
      obtain ⟨o1, o2, o3⟩ := hok rfl
      replace o1 : nameB p = true := o1
      replace o2 : cleanF p = (p, 0) := o2
      replace o3 : p.length ≤ s.length := o3
      have HP := fun W => clean_any p (by omega) W
      have HQ := fun W => check_any p (by omega) W
      rw [o2] at HP
      rw [o1] at HQ
      have c3 : (p.length : Int) ≤ (s.length : Int) := by omega
      clear o1 o2 o3 hok herr
      have tk1 : True := trivial
      have tk2 : True := trivial
      replace HC := hide HC
      replace HP := hide HP
      replace HQ := hide HQ
      by_cases hps : p = s
      · have hn : nameB s = true := hiff.2 ⟨rfl, hps⟩
        have e1 : (p == s) = true := beq_iff_eq.2 hps
        rw [hn] at HK
        replace HK := hide HK
        clear hn hiff hps
        go_enter Try.func4, Try.ntmps4
        go_wp2_with (first
          | (go_at_call 9; refine (unhide hL _).mono ?_; rintro e w1 ⟨rfl, B1⟩)
          | (go_at_call 10; have _t := tk1; refine (unhide HC _).mono ?_; rintro e w2 ⟨rfl, B2⟩; clear tk1 _t)
          | (go_at_call 10; refine (unhide HP _).mono ?_; rintro e w4 ⟨rfl, B4⟩)
          | (go_at_call 20; have _t := tk2; refine (unhide HK _).mono ?_; rintro e w3 ⟨rfl, B3⟩; clear tk2 _t)
          | (go_at_call 20; refine (unhide HQ _).mono ?_; rintro e w5 ⟨rfl, B5⟩))
        go_ret
        exact ⟨rfl, ret_live (ret_live (ret_live (ret_live B1 B2) B3) B4) B5⟩
      · have hn : nameB s = false := by
          cases h : nameB s with
          | false => rfl
          | true => exact absurd (hiff.1 h).2 hps
        have e1 : (p == s) = false := beq_eq_false_iff_ne.2 hps
        rw [hn] at HK
        replace HK := hide HK
        clear hn hiff hps
        go_enter Try.func4, Try.ntmps4
        go_wp2_with (first
          | (go_at_call 9; refine (unhide hL _).mono ?_; rintro e w1 ⟨rfl, B1⟩)
          | (go_at_call 10; have _t := tk1; refine (unhide HC _).mono ?_; rintro e w2 ⟨rfl, B2⟩; clear tk1 _t)
          | (go_at_call 10; refine (unhide HP _).mono ?_; rintro e w4 ⟨rfl, B4⟩)
          | (go_at_call 20; have _t := tk2; refine (unhide HK _).mono ?_; rintro e w3 ⟨rfl, B3⟩; clear tk2 _t)
          | (go_at_call 20; refine (unhide HQ _).mono ?_; rintro e w5 ⟨rfl, B5⟩))
        go_ret
        exact ⟨rfl, ret_live (ret_live (ret_live (ret_live B1 B2) B3) B4) B5⟩
    · have hp0 : p = [] := herr h0
      subst hp0
      have hn : nameB s = false := by
        cases h : nameB s with
        | false => rfl
        | true => exact absurd (hiff.1 h).1 h0
      have e1 : (er == 0) = false := beq_eq_false_iff_ne.2 h0
      have e2 : (er != 0) = true := bne_iff_ne.2 h0
      rw [hn] at HK
      clear hn hiff hok herr
      replace HK := hide HK
      replace HC := hide HC
      replace h0 := hide h0
      go_enter Try.func4, Try.ntmps4
      go_wp2_with (first
        | (go_at_call 9; refine (unhide hL _).mono ?_; rintro e w1 ⟨rfl, B1⟩)
        | (go_at_call 10; refine (unhide HC _).mono ?_; rintro e w2 ⟨rfl, B2⟩)
        | (go_at_call 20; refine (unhide HK _).mono ?_; rintro e w3 ⟨rfl, B3⟩))
      go_ret
      exact ⟨rfl, ret_live (ret_live B1 B2) B3⟩
  · have hd : decide ((300 : Int) < (s.length : Int)) = true := decide_eq_true (by omega)
    go_enter Try.func4, Try.ntmps4
    go_wp2_with (go_at_call 9; refine (unhide hL _).mono ?_; rintro e w1 ⟨rfl, B1⟩)
    go_ret
    exact ⟨rfl, B1⟩
end Go.Proofs.Ythekgpmkoemmaaa
