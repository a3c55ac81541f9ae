import Derived.Test.YtplnnlepjooeoaaW13
namespace Go.Proofs.Ytplnnlepjooeoaa
open Go.RowKit

set_option maxHeartbeats 1000000 in
theorem one_gate (A : Option Addr) (n ca : Nat) (a1 a2 a3 a4 : Value) (w : World) (h : 500 < n) :
    Calls Try.prog 4 #[.slice A n ca, a1, a2, a3, a4] w fun e w' => e = .returned (.bool true) ∧ Below w.heap.size w w' := by
  have h' : (500 : Int) < (n : Int) := by omega
  go_enter Try.func4, Try.ntmps4
  go_wp2_with (go_at_call 7; refine (live_any _).mono ?_; rintro e w1 ⟨rfl, hb1⟩)
  go_ret
  exact ⟨rfl, hb1⟩

theorem open_good (lo n : Nat) (v : Value) (l t : List UInt8) (w : World) (h : Bs lo w.heap.size w v t) (hm : t.length = n + 4) (hL : n ≤ 900000) (ho : okO t n = true) (hl : t.take n = l) :
    Calls Try.prog 8 #[v] w fun e w' => ∃ A c, e = .returned (.tuple #[.slice A n c, .int .i64 0]) ∧ w'.ownsRow w.heap.size 5 1 (.slice A n c) n (l.map u8v) ∧ Below w.heap.size w w' := by
  refine (open_any lo n v t w h hm hL).mono fun e w' hh => ?_
  rw [ho] at hh
  simp only [if_true] at hh
  rw [hl] at hh
  obtain ⟨A, c, er, h1, rfl, h2, h3⟩ := hh
  exact ⟨A, c, h1, h2, h3⟩
theorem open_wrong (lo n : Nat) (v : Value) (t : List UInt8) (w : World) (h : Bs lo w.heap.size w v t) (hm : t.length = n + 4) (hL : n ≤ 900000) (ho : okO t n = false) :
    Calls Try.prog 8 #[v] w fun e w' => ∃ A c, e = .returned (.tuple #[.slice A 0 c, .int .i64 7]) ∧ Below w.heap.size w w' := by
  refine (open_any lo n v t w h hm hL).mono fun e w' hh => ?_
  rw [ho] at hh
  simp only [Bool.false_eq_true, if_false] at hh
  obtain ⟨A, c, er, h1, rfl, h2, h3⟩ := hh
  exact ⟨A, c, h1, h3⟩

/-- What is known of the second argument: where it leads. -/
inductive Way (l : List UInt8) (at_ : Int) (c : UInt8) : Prop
  | low (h : at_ < 0)
  | high (h : (l.length : Int) + 4 ≤ at_)
  | same (k : Nat) (e : at_ = k) (hk : k < (sealL l).length) (h : (sealL l)[k] = c)
  | other (k : Nat) (e : at_ = k) (hk : k < (sealL l).length) (h : (sealL l)[k] ≠ c)
theorem way (l : List UInt8) (at_ : Int) (c : UInt8) : Way l at_ c := by
  rcases Int.lt_or_le at_ 0 with h | h
  · exact .low h
  · obtain ⟨k, rfl⟩ := Int.eq_ofNat_of_zero_le h
    rcases Nat.lt_or_ge k (sealL l).length with h1 | h1
    · by_cases h2 : (sealL l)[k] = c
      · exact .same k rfl h1 h2
      · exact .other k rfl h1 h2
    · rw [sealL_len] at h1
      exact .high (by omega)

section
attribute [local go_sem] u32v_eql eqGuard_u32
set_option maxHeartbeats 2000000 in
theorem one_go (lo : Nat) (v : Value) (l : List UInt8) (at_ : Int) (c : UInt8) (r s : Reg) (w : World) (h : Bs lo w.heap.size w v l) (hl : l.length ≤ 500) :
    Calls Try.prog 4 #[v, .int .i64 at_, u8v c, u32v r, u32v s] w fun e w' => e = .returned (.bool true) ∧ Below w.heap.size w w' := by
  have hw := way l at_ c
  have hseal := fun W (hb : Below w.heap.size w W) => seal_any 0 v l W ((h.below hb (Nat.le_refl _)).mono (Nat.zero_le _) hb.size) (by omega)
  have hstep := fun q W (hb : Below w.heap.size w W) => step_any lo w.heap.size v l q W (h.below hb (Nat.le_refl _))
  have hsame := fun W u (hb : Below w.heap.size w W) (hu : Bs 0 W.heap.size W u l) => sameb_any 0 W.heap.size lo w.heap.size u v l l W hu (h.below hb (Nat.le_refl _))
  have hdec : decide (stepR r l = stepR s l) = decide (r = s) := by rw [Bool.eq_iff_iff]; simp [stepR_iff]
  have hgood := fun W u (hu : Bs 0 W.heap.size W u (sealL l)) => open_good 0 l.length u l (sealL l) W hu (sealL_len l) (by omega) (okO_seal l) (take_seal l)
  obtain ⟨A, ca, rfl, h1, h2, _⟩ := id h
  simp only [decide_true] at hsame
  change ∀ W, _ → Calls Try.prog 10 _ W fun e w' => ∃ A c, e = _ ∧ w'.ownsRow W.heap.size 5 1 _ _ ((sealL l).map u8v) ∧ _ at hseal
  have hsl := sealL_len l
  have hset := fun k hk d => @okO_set l k hk d
  obtain ⟨n, hn⟩ : ∃ n, n = l.length := ⟨_, rfl⟩
  obtain ⟨t, ht⟩ : ∃ t, t = sealL l := ⟨_, rfl⟩
  rw [← ht] at hgood hseal hsl hset
  rw [← hn] at hseal hgood hsl hset hl h1 hsame hstep ⊢
  replace hw := hide hw; replace hseal := hide hseal; replace hstep := hide hstep; replace hsame := hide hsame; replace hgood := hide hgood
  replace hsl := hide hsl; replace hset := hide hset; replace h := hide h; replace hn := hide hn; replace ht := hide ht
  change Calls Try.prog 4 #[.slice A n ca, .int .i64 at_, .int .u8 (n8 c), u32v r, u32v s] w _
  have hL := unhide hn
  have hT := unhide ht
  have hSL := unhide hsl
  rcases unhide hw with h0 | h0 | ⟨k, rfl, hk, hx⟩ | ⟨k, rfl, hk, hx⟩
  · clear hL hT hSL
    have tok1 : True := trivial
    have tok2 : True := trivial
    have tok3 : True := trivial
    have tok4 : True := trivial
    go_enter Try.func4, Try.ntmps4
    go_wp2_with (first
      | (go_at_call 7; refine (live_any _).mono ?_; rintro e w1 ⟨rfl, hb1⟩)
      | (go_at_call 10; refine (unhide hseal _ (by assumption)).mono ?_; rintro e w2 ⟨A2, c2, rfl, hown, hb2⟩; have hbw1 := hb1; have hbw2 := bl_call hb1 hb2; have hown' := hown; replace hown := hide hown; obtain ⟨g, cur, rfl, hg1, hg2, hg3, hg4⟩ := own_pos hown' (by omega); clear hown'; replace hg2 := hide hg2; replace hg4 := hide hg4)
      | (go_at_call 8; have _t := tok1; refine (unhide hgood _ _ ((Bs.own (unhide hown)).mono (Nat.zero_le _) (Nat.le_refl _))).mono ?_; rintro e w3 ⟨A3, c3, rfl, hown3, hb3⟩; have hbw3 := bl_call hbw2 hb3; replace hown3 := hide hown3; clear tok1 _t)
      | (go_at_call 15; refine (unhide hsame _ _ hbw3 ((Bs.own (unhide hown3)).mono (Nat.zero_le _) (Nat.le_refl _))).mono ?_; rintro e w4 ⟨rfl, rfl⟩)
      | (go_at_call 11; have _t := tok2; refine (unhide hstep r _ hbw3).mono ?_; rintro e w4 ⟨rfl, rfl⟩; clear tok2 _t)
      | (go_at_call 11; have _t := tok3; refine (unhide hstep s _ hbw3).mono ?_; rintro e w4 ⟨rfl, rfl⟩; clear tok3 _t)
      | fail)
    go_ret
    exact ⟨rfl, hbw3⟩
  · have h0' : (n : Int) + 4 ≤ at_ := by rw [hL]; exact h0
    have h0'' : ¬ at_ < 0 := by omega
    clear hL hT hSL h0
    have tok1 : True := trivial
    have tok2 : True := trivial
    have tok3 : True := trivial
    have tok4 : True := trivial
    go_enter Try.func4, Try.ntmps4
    go_wp2_with (first
      | (go_at_call 7; refine (live_any _).mono ?_; rintro e w1 ⟨rfl, hb1⟩)
      | (go_at_call 10; refine (unhide hseal _ (by assumption)).mono ?_; rintro e w2 ⟨A2, c2, rfl, hown, hb2⟩; have hbw1 := hb1; have hbw2 := bl_call hb1 hb2; have hown' := hown; replace hown := hide hown; obtain ⟨g, cur, rfl, hg1, hg2, hg3, hg4⟩ := own_pos hown' (by omega); clear hown'; replace hg2 := hide hg2; replace hg4 := hide hg4)
      | (go_at_call 8; have _t := tok1; refine (unhide hgood _ _ ((Bs.own (unhide hown)).mono (Nat.zero_le _) (Nat.le_refl _))).mono ?_; rintro e w3 ⟨A3, c3, rfl, hown3, hb3⟩; have hbw3 := bl_call hbw2 hb3; replace hown3 := hide hown3; clear tok1 _t)
      | (go_at_call 15; refine (unhide hsame _ _ hbw3 ((Bs.own (unhide hown3)).mono (Nat.zero_le _) (Nat.le_refl _))).mono ?_; rintro e w4 ⟨rfl, rfl⟩)
      | (go_at_call 11; have _t := tok2; refine (unhide hstep r _ hbw3).mono ?_; rintro e w4 ⟨rfl, rfl⟩; clear tok2 _t)
      | (go_at_call 11; have _t := tok3; refine (unhide hstep s _ hbw3).mono ?_; rintro e w4 ⟨rfl, rfl⟩; clear tok3 _t)
      | fail)
    go_ret
    exact ⟨rfl, hbw3⟩
  · have hk' : k < n + 4 := by rw [← hSL, hT]; exact hk
    have hq : (t.map u8v)[k]? = some (.int .u8 (n8 c)) := by
      subst hT
      rw [List.getElem?_map, List.getElem?_eq_getElem hk, hx]
      rfl
    have i1 : (k : Int) < (n : Int) + 4 := by omega
    have i0 : (0 : Int) ≤ (k : Int) := by omega
    replace hq := hide hq
    clear hL hT hSL hx hk
    have tok1 : True := trivial
    have tok2 : True := trivial
    have tok3 : True := trivial
    have tok4 : True := trivial
    go_enter Try.func4, Try.ntmps4
    go_wp2_with (first
      | (go_at_call 7; refine (live_any _).mono ?_; rintro e w1 ⟨rfl, hb1⟩)
      | (go_at_call 10; refine (unhide hseal _ (by assumption)).mono ?_; rintro e w2 ⟨A2, c2, rfl, hown, hb2⟩; have hbw1 := hb1; have hbw2 := bl_call hb1 hb2; have hown' := hown; replace hown := hide hown; obtain ⟨g, cur, rfl, hg1, hg2, hg3, hg4⟩ := own_pos hown' (by omega); clear hown'; replace hg2 := hide hg2; replace hg4 := hide hg4)
      | (go_at_call 8; have _t := tok1; refine (unhide hgood _ _ ((Bs.own (unhide hown)).mono (Nat.zero_le _) (Nat.le_refl _))).mono ?_; rintro e w3 ⟨A3, c3, rfl, hown3, hb3⟩; have hbw3 := bl_call hbw2 hb3; replace hown3 := hide hown3; clear tok1 _t; have hB3 := Blk.below (unhide hg2) hb3 (unhide hg2).lt; have hcell := (hB3.cell k).trans ((unhide hg4 k (by omega)).trans (unhide hq)); have hfr := hB3.frozen k; have hgw : w.heap.size ≤ g := Nat.le_trans hbw1.size hg1; replace hB3 := hide hB3)
      | (go_at_call 15; refine (unhide hsame _ _ hbw3 ((Bs.own (unhide hown3)).mono (Nat.zero_le _) (Nat.le_refl _))).mono ?_; rintro e w4 ⟨rfl, rfl⟩)
      | (go_at_call 11; have _t := tok2; refine (unhide hstep r _ hbw3).mono ?_; rintro e w4 ⟨rfl, rfl⟩; clear tok2 _t)
      | (go_at_call 11; have _t := tok3; refine (unhide hstep s _ hbw3).mono ?_; rintro e w4 ⟨rfl, rfl⟩; clear tok3 _t)
      | fail)
    go_ret
    exact ⟨rfl, hbw3⟩
  · have hk' : k < n + 4 := by rw [← hSL, hT]; exact hk
    obtain ⟨x, hq, hxc⟩ : ∃ x, (t.map u8v)[k]? = some (.int .u8 (n8 x)) ∧ x ≠ c := by
      subst hT
      refine ⟨_, ?_, hx⟩
      rw [List.getElem?_map, List.getElem?_eq_getElem hk]
      rfl
    have i1 : (k : Int) < (n : Int) + 4 := by omega
    have i0 : (0 : Int) ≤ (k : Int) := by omega
    have hne : (n8 x == n8 c) = false := by rw [beq_eq_false_iff_ne, ne_eq, n8_inj]; exact hxc
    have hms : (t.map u8v).set k (.int .u8 (n8 c)) = (t.set k c).map u8v := by rw [List.map_set]; rfl
    have hbad := fun W u (hu : Bs 0 W.heap.size W u (t.set k c)) => open_wrong 0 n u (t.set k c) W hu (by rw [List.length_set]; exact hSL) (by omega) (by rw [hT]; rw [hL]; exact okO_set hk hx)
    replace hq := hide hq; replace hms := hide hms; replace hbad := hide hbad
    clear hL hT hSL hx hk hxc
    have tok1 : True := trivial
    have tok2 : True := trivial
    have tok3 : True := trivial
    have tok4 : True := trivial
    go_enter Try.func4, Try.ntmps4
    go_wp2_with (first
      | (go_at_call 7; refine (live_any _).mono ?_; rintro e w1 ⟨rfl, hb1⟩)
      | (go_at_call 10; refine (unhide hseal _ (by assumption)).mono ?_; rintro e w2 ⟨A2, c2, rfl, hown, hb2⟩; have hbw1 := hb1; have hbw2 := bl_call hb1 hb2; have hown' := hown; replace hown := hide hown; obtain ⟨g, cur, rfl, hg1, hg2, hg3, hg4⟩ := own_pos hown' (by omega); clear hown'; replace hg2 := hide hg2; replace hg4 := hide hg4)
      | (go_at_call 8; have _t := tok1; refine (unhide hgood _ _ ((Bs.own (unhide hown)).mono (Nat.zero_le _) (Nat.le_refl _))).mono ?_; rintro e w3 ⟨A3, c3, rfl, hown3, hb3⟩; have hbw3 := bl_call hbw2 hb3; replace hown3 := hide hown3; clear tok1 _t; have hB3 := Blk.below (unhide hg2) hb3 (unhide hg2).lt; have hcell := (hB3.cell k).trans ((unhide hg4 k (by omega)).trans (unhide hq)); have hfr := hB3.frozen k; have hgw : w.heap.size ≤ g := Nat.le_trans hbw1.size hg1; replace hB3 := hide hB3; have ho4 := own_put (k := k) (own_below (unhide hown) hb3 (Nat.le_refl _)) (.int .u8 (n8 c)); rw [unhide hms] at ho4; replace ho4 := hide ho4; have hb4 := hbw3.setCell (p := ⟨g, k, none⟩) hgw (.int .u8 (n8 c)); replace hb4 := hide hb4)
      | (go_at_call 15; refine (unhide hsame _ _ hbw3 ((Bs.own (unhide hown3)).mono (Nat.zero_le _) (Nat.le_refl _))).mono ?_; rintro e w4 ⟨rfl, rfl⟩)
      | (go_at_call 11; have _t := tok2; refine (unhide hstep r _ hbw3).mono ?_; rintro e w4 ⟨rfl, rfl⟩; clear tok2 _t)
      | (go_at_call 11; have _t := tok3; refine (unhide hstep s _ hbw3).mono ?_; rintro e w4 ⟨rfl, rfl⟩; clear tok3 _t)
      | (go_at_call 8; have _t := tok4; refine (unhide hbad _ _ ((Bs.own (unhide ho4)).mono (Nat.zero_le _) (Nat.le_refl _))).mono ?_; rintro e w5 ⟨A5, c5, rfl, hb5⟩; have hbw5 := bl_call (unhide hb4) hb5; clear tok4 _t)
      | fail)
    go_ret
    exact ⟨rfl, hbw5⟩
end
end Go.Proofs.Ytplnnlepjooeoaa
