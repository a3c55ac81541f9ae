import Derived.Test.YthekgpmkoemmaaaF6
namespace Go.Proofs.Ythekgpmkoemmaaa
open Go.RowKit
attribute [local go_sem] bz_size bz_toList

set_option maxHeartbeats 400000 in
theorem refWithin_any (d p : List UInt8) (hdl : d.length ≤ 390) (hl : p.length ≤ 609) (w : World) :
    Calls Try.prog 17 #[.string (bz d), .string (bz p)] w fun e W' => e = .returned (.tuple #[.bool (withinF d p).1, .int .i64 (withinF d p).2]) ∧ Below w.heap.size w W' := by
  have HF := fun W => refFolder_any d (by omega) W
  cases hf : folderB d with
  | false =>
    rw [withinF_no (.inl hf)]
    rw [hf] at HF
    clear hf
    replace HF := hide HF
    go_enter Try.func17, Try.ntmps17
    go_wp2_with (go_at_call 30; refine (unhide HF _).mono ?_; rintro e w1 ⟨rfl, B1⟩)
    go_ret2
    exact ⟨rfl, B1⟩
  | true =>
    cases hn : nameB p with
    | false =>
      rw [withinF_no (.inr hn)]
      rw [hf] at HF
      have HK : ∀ W, Calls Try.prog 21 #[.string (bz p)] W fun e w' => e = .returned (.int .i64 1) ∧ Below W.heap.size W w' := fun W => by
        have := refCheck_any p (by omega) W
        rwa [hn] at this
      clear hf hn
      replace HF := hide HF; replace HK := hide HK
      go_enter Try.func17, Try.ntmps17
      go_wp2_with (first | (go_at_call 30; refine (unhide HF _).mono ?_; rintro e w1 ⟨rfl, B1⟩) | (go_at_call 21; refine (unhide HK _).mono ?_; rintro e w2 ⟨rfl, B2⟩))
      go_ret2
      exact ⟨rfl, ret_live B1 B2⟩
    | true =>
      rw [withinF_yes hf hn]
      by_cases hd : d = []
      · subst hd
        rw [withinB_nil]
        rw [hf] at HF
        have HK : ∀ W, Calls Try.prog 21 #[.string (bz p)] W fun e w' => e = .returned (.int .i64 0) ∧ Below W.heap.size W w' := fun W => by
          have := refCheck_any p (by omega) W
          rwa [hn] at this
        clear hf hn
        replace HF := hide HF; replace HK := hide HK
        go_enter Try.func17, Try.ntmps17
        go_wp2_with (first | (go_at_call 30; refine (unhide HF _).mono ?_; rintro e w1 ⟨rfl, B1⟩) | (go_at_call 21; refine (unhide HK _).mono ?_; rintro e w2 ⟨rfl, B2⟩))
        go_ret2
        exact ⟨rfl, ret_live B1 B2⟩
      · exact refWithin_yes d p hl hdl hd hf hn w

/-! ### the reference's Less -/
theorem less_cb : ∀ (a b : List UInt8), Op.bytesLess a b = decide (Lib.compareBytes a b < 0)
  | [], [] => rfl
  | [], _ :: _ => rfl
  | _ :: _, [] => rfl
  | x :: a, y :: b => by
    have ih := less_cb a b
    rw [Op.bytesLess, Lib.compareBytes, ih]
    by_cases h1 : x < y
    · rw [if_pos h1]; simp [h1]
    · rw [if_neg h1]
      by_cases h2 : y < x
      · rw [if_pos h2]
        have h3 : (x == y) = false := beq_eq_false_iff_ne.2 (fun e => by rw [e] at h2; exact UInt8.lt_irrefl _ h2)
        simp [h1, h3]
      · have e : x = y := UInt8.le_antisymm (UInt8.not_lt.1 h2) (UInt8.not_lt.1 h1)
        rw [if_neg h2, e]; simp [UInt8.lt_irrefl]
theorem lex_drop : ∀ (j : Nat) (x y : List (List UInt8)), x.take j = y.take j → j ≤ x.length → j ≤ y.length → lex x y = lex (x.drop j) (y.drop j)
  | 0, x, y, _, _, _ => rfl
  | j + 1, [], _, _, h, _ => by simp at h
  | j + 1, _ :: _, [], _, _, h => by simp at h
  | j + 1, a :: x, b :: y, h, h1, h2 => by
    simp only [List.take_succ_cons, List.cons.injEq] at h
    have ih := lex_drop j x y h.2 (by simpa using h1) (by simpa using h2)
    rw [lex, h.1, if_neg (by rw [cb_self]; simp), ih]
    rfl
theorem lex_at {x y : List (List UInt8)} {j : Nat} (h : x.take j = y.take j) (h1 : j < x.length) (h2 : j < y.length) (hne : x[j] ≠ y[j]) : lex x y = Lib.compareBytes x[j] y[j] := by
  rw [lex_drop j x y h (by omega) (by omega), List.drop_eq_getElem_cons h1, List.drop_eq_getElem_cons h2, lex, if_pos (fun e => hne (cb_zero _ _ e))]
theorem lex_end {x y : List (List UInt8)} {j : Nat} (h : x.take j = y.take j) (h1 : j ≤ x.length) (h2 : j ≤ y.length) (he : ¬ (j < x.length ∧ j < y.length)) : decide (lex x y < 0) = decide (x.length < y.length) := by
  rw [lex_drop j x y h h1 h2]
  by_cases hx : j = x.length
  · rw [List.drop_of_length_le (l := x) (by omega)]
    by_cases hy : j = y.length
    · rw [List.drop_of_length_le (l := y) (by omega)]
      have : ¬ x.length < y.length := by omega
      simp [lex, this]
    · rw [List.drop_eq_getElem_cons (show j < y.length by omega)]
      have : x.length < y.length := by omega
      simp [lex, this]
  · have hy : j = y.length := by omega
    rw [List.drop_of_length_le (l := y) (by omega), List.drop_eq_getElem_cons (show j < x.length by omega)]
    have : ¬ x.length < y.length := by omega
    simp [lex, this]

set_option maxHeartbeats 400000 in
theorem refLess_any (a b : List UInt8) (ha : a.length ≤ 400) (hb : b.length ≤ 400) (w : World) :
    Calls Try.prog 36 #[.string (bz a), .string (bz b)] w fun e W' => e = .returned (.bool (decide (lex (parts a) (parts b) < 0))) ∧ Below w.heap.size w W' := by
  have HA := fun W => refParts_any a (by omega) W
  have HB := fun W => refParts_any b (by omega) W
  have hal : (parts a).length ≤ 1000 := by have := jn_length (parts a) (parts_ne a); rw [jn_parts] at this; omega
  have hbl : (parts b).length ≤ 1000 := by have := jn_length (parts b) (parts_ne b); rw [jn_parts] at this; omega
  obtain ⟨x, hx⟩ : ∃ x, x = parts a := ⟨_, rfl⟩
  obtain ⟨y, hy⟩ : ∃ x, x = parts b := ⟨_, rfl⟩
  rw [← hx] at HA hal ⊢
  rw [← hy] at HB hbl ⊢
  clear hx hy ha hb
  obtain ⟨res, hres⟩ : ∃ r, r = decide (lex x y < 0) := ⟨_, rfl⟩
  rw [← hres]
  replace hres := hide hres; replace HA := hide HA; replace HB := hide HB
  have tk1 : True := trivial
  go_enter Try.func36, Try.ntmps36
  go_wp2_with (first
    | (go_at_call 27; have _t := tk1; refine (unhide HA _).mono ?_; rintro e w1 ⟨⟨A1, c1, rfl, O1⟩, B1⟩; have S1 := O1.ss; replace S1 := hide S1; clear O1 tk1 _t)
    | (go_at_call 27; refine (unhide HB _).mono ?_; rintro e w2 ⟨⟨A2, c2, rfl, O2⟩, B2⟩; have S2 := O2.ss; replace S2 := hide S2; clear O2))
  go_loopw [7] (fun i wr => ∃ (j n : Nat), j ≤ x.length ∧ j ≤ y.length ∧ i = .int .i64 j ∧ wr = w2.drewN n ∧ Hid (x.take j = y.take j)) (fun i _ => x.length - (intOf i).toNat)
  case atStart => exact ⟨0, 0, Nat.zero_le _, Nat.zero_le _, rfl, rfl, hide rfl⟩
  case round =>
    obtain ⟨j, n, hj1, hj2, rfl, hV, ht⟩ := hrel
    generalize wr = V at *
    have Sx : Ss w.heap.size w1.heap.size V (.slice A1 x.length c1) x := by rw [hV]; exact Rd.below (unhide S1) (bl_drewN B2 n) (Nat.le_refl _)
    have Sy : Ss w1.heap.size w2.heap.size V (.slice A2 y.length c2) y := by rw [hV]; exact unhide S2
    obtain ⟨A0, c0, he, _, _, h3⟩ := Sx.open
    injection he with e1 e2 e3
    subst e1 e3
    clear e2
    obtain ⟨A0, c0, he, _, _, h4⟩ := Sy.open
    injection he with e1 e2 e3
    subst e1 e3
    clear e2 Sx Sy
    replace hV := hide hV
    by_cases hl : j < x.length ∧ j < y.length
    · obtain ⟨hl1, hl2⟩ := hl
      obtain ⟨b1, o1, rfl, _, _, hc1⟩ := h3 j hl1
      obtain ⟨b2, o2, rfl, _, _, hc2⟩ := h4 j hl2
      clear h3 h4
      have hat := lex_at (unhide ht) hl1 hl2
      have hx1 := take_one hl1
      have hy1 := take_one hl2
      obtain ⟨p, hp⟩ : ∃ p, p = x[j] := ⟨_, rfl⟩
      obtain ⟨q, hq⟩ : ∃ p, p = y[j] := ⟨_, rfl⟩
      rw [← hp] at hc1 hat hx1
      rw [← hq] at hc2 hat hy1
      clear hp hq
      replace hat := hide hat; replace hx1 := hide hx1; replace hy1 := hide hy1
      cases he : p == q with
      | true =>
        have hb : (p != q) = false := by simp [bne, he]
        go_wp2
        go_quiet (fail)
        go_wp2
        go_roundw
        case rel => exact ⟨j + 1, n + nq, by omega, by omega, by go_num, by rw [unhide hV, World.drewN_drewN], hide (by rw [unhide hx1, unhide hy1, unhide ht, eq_of_beq he])⟩
        case measure => simp [intOf]; omega
      | false =>
        have hb : (p != q) = true := by simp [bne, he]
        have hr : res = Op.bytesLess p q := by rw [unhide hres, unhide hat (ne_of_beq_false he), less_cb]
        replace hr := hide hr
        go_wp2
        go_quiet (fail)
        go_wp2
        go_quiet (fail)
        go_wp2
        go_ret
        refine ⟨ret_b rfl (unhide hr).symm, ?_⟩
        simp only [unhide hV, World.drewN_drewN]
        exact bl_drewN (B1.trans (B2.mono B1.size)) _
    · have hr := lex_end (unhide ht) hj1 hj2 hl
      rw [← unhide hres] at hr
      clear h3 h4
      replace hr := hide hr
      have BV : Below w.heap.size w V := by rw [unhide hV]; exact bl_drewN (B1.trans (B2.mono B1.size)) _
      replace BV := hide BV
      by_cases hl1 : j < x.length
      · have hl2 : ¬ j < y.length := fun h => hl ⟨hl1, h⟩
        clear hl
        go_wp2
        go_ret
        exact ⟨ret_b rfl (unhide hr).symm, unhide BV⟩
      · clear hl
        go_wp2
        go_ret
        exact ⟨ret_b rfl (unhide hr).symm, unhide BV⟩

set_option maxHeartbeats 400000 in
theorem refCmp_any (a b : List UInt8) (ha : a.length ≤ 400) (hb : b.length ≤ 400) (w : World) :
    Calls Try.prog 19 #[.string (bz a), .string (bz b)] w fun e W' => e = .returned (.tuple #[.int .i64 (cmpF a b).1, .int .i64 (cmpF a b).2]) ∧ Below w.heap.size w W' := by
  have HA := fun W => refCheck_any a (by omega) W
  have HB := fun W => refCheck_any b (by omega) W
  have tk1 : True := trivial
  have tk2 : True := trivial
  cases hna : nameB a with
  | false =>
    rw [cmpF_no (.inl hna)]
    replace HA : ∀ W, Calls Try.prog 21 #[.string (bz a)] W fun e w' => e = .returned (.int .i64 1) ∧ Below W.heap.size W w' := fun W => by
      have := HA W
      rwa [hna] at this
    clear hna HB
    replace HA := hide HA
    go_enter Try.func19, Try.ntmps19
    go_wp2_with (go_at_call 21; refine (unhide HA _).mono ?_; rintro e w1 ⟨rfl, B1⟩)
    go_ret2
    exact ⟨rfl, B1⟩
  | true =>
    replace HA : ∀ W, Calls Try.prog 21 #[.string (bz a)] W fun e w' => e = .returned (.int .i64 0) ∧ Below W.heap.size W w' := fun W => by
      have := HA W
      rwa [hna] at this
    cases hnb : nameB b with
    | false =>
      rw [cmpF_no (.inr hnb)]
      replace HB : ∀ W, Calls Try.prog 21 #[.string (bz b)] W fun e w' => e = .returned (.int .i64 1) ∧ Below W.heap.size W w' := fun W => by
        have := HB W
        rwa [hnb] at this
      clear hna hnb
      replace HA := hide HA; replace HB := hide HB
      go_enter Try.func19, Try.ntmps19
      go_wp2_with (first
        | (go_at_call 21; have _t := tk1; refine (unhide HA _).mono ?_; rintro e w1 ⟨rfl, B1⟩; clear tk1 _t)
        | (go_at_call 21; refine (unhide HB _).mono ?_; rintro e w2 ⟨rfl, B2⟩))
      go_ret2
      exact ⟨rfl, ret_live B1 B2⟩
    | true =>
      rw [cmpF_yes hna hnb]
      replace HB : ∀ W, Calls Try.prog 21 #[.string (bz b)] W fun e w' => e = .returned (.int .i64 0) ∧ Below W.heap.size W w' := fun W => by
        have := HB W
        rwa [hnb] at this
      have L1 := fun W => refLess_any a b ha hb W
      have L2 := fun W => refLess_any b a hb ha W
      have hanti := lex_anti (parts a) (parts b)
      have hrange := lex_range (parts a) (parts b)
      obtain ⟨X, hX⟩ : ∃ X, X = lex (parts a) (parts b) := ⟨_, rfl⟩
      rw [hanti, ← hX] at L2
      rw [← hX] at L1 hrange ⊢
      clear hX hanti hna hnb
      replace HA := hide HA; replace HB := hide HB
      rcases hrange with rfl | rfl | rfl
      · replace L1 : ∀ W, Calls Try.prog 36 #[.string (bz a), .string (bz b)] W fun e w' => e = .returned (.bool true) ∧ Below W.heap.size W w' := L1
        clear L2
        replace L1 := hide L1
        go_enter Try.func19, Try.ntmps19
        go_wp2_with (first
          | (go_at_call 21; have _t := tk1; refine (unhide HA _).mono ?_; rintro e w1 ⟨rfl, B1⟩; clear tk1 _t)
          | (go_at_call 21; refine (unhide HB _).mono ?_; rintro e w2 ⟨rfl, B2⟩)
          | (go_at_call 36; refine (unhide L1 _).mono ?_; rintro e w3 ⟨rfl, B3⟩))
        go_ret2
        exact ⟨rfl, ret_live (ret_live B1 B2) B3⟩
      · replace L1 : ∀ W, Calls Try.prog 36 #[.string (bz a), .string (bz b)] W fun e w' => e = .returned (.bool false) ∧ Below W.heap.size W w' := L1
        replace L2 : ∀ W, Calls Try.prog 36 #[.string (bz b), .string (bz a)] W fun e w' => e = .returned (.bool false) ∧ Below W.heap.size W w' := L2
        replace L1 := hide L1; replace L2 := hide L2
        go_enter Try.func19, Try.ntmps19
        go_wp2_with (first
          | (go_at_call 21; have _t := tk1; refine (unhide HA _).mono ?_; rintro e w1 ⟨rfl, B1⟩; clear tk1 _t)
          | (go_at_call 21; refine (unhide HB _).mono ?_; rintro e w2 ⟨rfl, B2⟩)
          | (go_at_call 36; have _t := tk2; refine (unhide L1 _).mono ?_; rintro e w3 ⟨rfl, B3⟩; clear tk2 _t)
          | (go_at_call 36; refine (unhide L2 _).mono ?_; rintro e w4 ⟨rfl, B4⟩))
        go_ret2
        exact ⟨rfl, ret_live (ret_live (ret_live B1 B2) B3) B4⟩
      · replace L1 : ∀ W, Calls Try.prog 36 #[.string (bz a), .string (bz b)] W fun e w' => e = .returned (.bool false) ∧ Below W.heap.size W w' := L1
        replace L2 : ∀ W, Calls Try.prog 36 #[.string (bz b), .string (bz a)] W fun e w' => e = .returned (.bool true) ∧ Below W.heap.size W w' := L2
        replace L1 := hide L1; replace L2 := hide L2
        go_enter Try.func19, Try.ntmps19
        go_wp2_with (first
          | (go_at_call 21; have _t := tk1; refine (unhide HA _).mono ?_; rintro e w1 ⟨rfl, B1⟩; clear tk1 _t)
          | (go_at_call 21; refine (unhide HB _).mono ?_; rintro e w2 ⟨rfl, B2⟩)
          | (go_at_call 36; have _t := tk2; refine (unhide L1 _).mono ?_; rintro e w3 ⟨rfl, B3⟩; clear tk2 _t)
          | (go_at_call 36; refine (unhide L2 _).mono ?_; rintro e w4 ⟨rfl, B4⟩))
        go_ret2
        exact ⟨rfl, ret_live (ret_live (ret_live B1 B2) B3) B4⟩
end Go.Proofs.Ythekgpmkoemmaaa
