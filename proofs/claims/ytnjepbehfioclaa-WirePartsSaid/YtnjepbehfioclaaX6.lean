import Derived.Test.YtnjepbehfioclaaX5
namespace Go.Proofs.Ytnjepbehfioclaa
open Go.RowKit
attribute [local go_sem] bz_size bz_toList

/-! ### the reference's Check, Folder -/
theorem all_take {ps : List (List UInt8)} {i : Nat} (hi : i < ps.length) (h : (ps.take i).all okP = true) (hk : okP ps[i] = true) : (ps.take (i + 1)).all okP = true := by
  rw [List.take_succ_eq_append_getElem hi, List.all_append, h]
  simp [hk]
theorem all_bad {ps : List (List UInt8)} {i : Nat} (hi : i < ps.length) (hk : okP ps[i] = false) : ps.all okP = false := by
  rw [List.all_eq_false]
  exact ⟨ps[i], List.getElem_mem hi, by simp [hk]⟩
set_option maxHeartbeats 400000 in
theorem refCheck_loop (t : List UInt8) (h1 : 1 ≤ t.length) (h96 : t.length ≤ 96) (ho : ofName t = true) (w : World) :
    Calls Try.prog 38 #[.string (bz t)] w fun e w' => e = .returned (.int .i64 (if (parts t).all okP then 0 else 1)) ∧ Below w.heap.size w w' := by
  have HO := fun W => octets_any t (by omega) W
  rw [ho] at HO
  have HP := fun W => refParts_any t (by omega) W
  have hpl : (parts t).length ≤ 97 := by have := jn_length (parts t) (parts_ne t); rw [jn_parts] at this; omega
  obtain ⟨ps, hps⟩ : ∃ ps, ps = parts t := ⟨_, rfl⟩
  rw [← hps] at HP hpl ⊢
  clear ho hps
  obtain ⟨er, her⟩ : ∃ er : Int, er = if ps.all okP then 0 else 1 := ⟨_, rfl⟩
  rw [← her]
  replace her := hide her
  replace HO := hide HO
  replace HP := hide HP
  have d1 : ¬ ((t.length : Int) < 1) := by omega
  have d2 : ¬ ((96 : Int) < (t.length : Int)) := by omega
  go_enter Try.func38, Try.ntmps38
  go_wp2_with (first
    | (go_at_call 52; refine (unhide HO _).mono ?_; rintro e w' ⟨rfl, rfl⟩)
    | (go_at_call 51; refine (unhide HP _).mono ?_; rintro e w1 ⟨⟨A, c, rfl, O1⟩, B1⟩; have S1 := O1.ss; obtain ⟨A', c', he, _, _, h3⟩ := S1.open; replace he := hide he; replace h3 := hide h3; clear O1 S1))
  go_loop [21] (fun i => ∃ (j : Nat), j ≤ ps.length ∧ i = .int .i64 j ∧ Hid ((ps.take j).all okP = true)) (fun i => ps.length - (intOf i).toNat)
  case atStart => exact ⟨0, Nat.zero_le _, rfl, hide rfl⟩
  case round =>
    obtain ⟨j, hj, rfl, hall⟩ := hrel
    have he' := unhide he
    injection he' with e1 e2 e3
    subst e1 e3
    clear e2
    by_cases hlt : j < ps.length
    · obtain ⟨b, off, rfl, _, _, hc⟩ := unhide h3 j hlt
      have hg := all_take hlt (unhide hall)
      have hb := all_bad hlt
      obtain ⟨x, hx⟩ : ∃ x, x = ps[j] := ⟨_, rfl⟩
      rw [← hx] at hc hg hb
      clear hx hall
      have hbad : x.isEmpty = true ∨ (x == [46]) = true ∨ (x == [46, 46]) = true → er = 1 := fun h => by
        have h1 := unhide her
        have h2 : okP x = false := by
          have := okP_bad (pre := []) h
          simpa using this
        rw [hb h2] at h1
        simpa using h1
      have hgood : x.isEmpty = false → (x == [46]) = false → (x == [46, 46]) = false → (ps.take (j + 1)).all okP = true := fun a1 a2 a3 => hg (by simp [okP, isE, isD, isU, a1, a2, a3])
      clear hg hb
      replace hbad := hide hbad
      replace hgood := hide hgood
      cases e1 : x.isEmpty with
      | true =>
        go_wp2
        go_ret
        exact ⟨by rw [unhide hbad (.inl e1)]; rfl, B1⟩
      | false =>
        cases e2 : x == [46] with
        | true =>
          go_wp2
          go_ret
          exact ⟨by rw [unhide hbad (.inr (.inl e2))]; rfl, B1⟩
        | false =>
          cases e3 : x == [46, 46] with
          | true =>
            go_wp2
            go_ret
            exact ⟨by rw [unhide hbad (.inr (.inr e3))]; rfl, B1⟩
          | false =>
            go_wp2
            go_round
            case rel => exact ⟨j + 1, by omega, by go_num, hide (unhide hgood e1 e2 e3)⟩
            case measure => simp [intOf]; omega
    · obtain rfl : j = ps.length := by omega
      have h1 := unhide her
      have h2 := unhide hall
      rw [List.take_length] at h2
      rw [h2] at h1
      clear hall h2 h3
      replace h1 := hide h1
      go_wp2
      go_ret
      exact ⟨by rw [unhide h1]; rfl, B1⟩

set_option maxHeartbeats 400000 in
theorem refCheck_any (t : List UInt8) (hl : t.length ≤ 1000) (w : World) :
    Calls Try.prog 38 #[.string (bz t)] w fun e w' => e = .returned (.int .i64 (if nameB t then 0 else 1)) ∧ Below w.heap.size w w' := by
  by_cases h1 : 1 ≤ t.length
  · by_cases h96 : t.length ≤ 96
    · cases ho : ofName t with
      | true =>
        have e : nameB t = (parts t).all okP := by simp [nameB, h96, ho]
        rw [e]
        exact refCheck_loop t h1 h96 ho w
      | false =>
        have hn : nameB t = false := by simp [nameB, ho]
        rw [hn]
        have HO := fun W => octets_any t hl W
        rw [ho] at HO
        clear ho hn
        replace HO := hide HO
        have d1 : ¬ ((t.length : Int) < 1) := by omega
        have d2 : ¬ ((96 : Int) < (t.length : Int)) := by omega
        go_enter Try.func38, Try.ntmps38
        go_wp2_with (go_at_call 52; refine (unhide HO _).mono ?_; rintro e w' ⟨rfl, rfl⟩)
        go_ret
        exact ⟨rfl, Below.refl _ _⟩
    · have hn : nameB t = false := by simp [nameB]; intro h; omega
      rw [hn]
      clear hn
      have d1 : ¬ ((t.length : Int) < 1) := by omega
      have d2 : ((96 : Int) < (t.length : Int)) := by omega
      go_enter Try.func38, Try.ntmps38
      go_wp2_with fail
      go_ret
      exact ⟨rfl, Below.refl _ _⟩
  · obtain rfl : t = [] := List.eq_nil_of_length_eq_zero (by omega)
    have hn : nameB [] = false := by decide
    rw [hn]
    go_enter Try.func38, Try.ntmps38
    go_wp2_with fail
    go_ret
    exact ⟨rfl, Below.refl _ _⟩
theorem take_one {ps : List (List UInt8)} {j : Nat} (hj : j < ps.length) : ps.take (j + 1) = ps.take j ++ [ps[j]] := List.take_succ_eq_append_getElem hj

theorem ret_live {w w1 w' : World} (B1 : Below w.heap.size w w1) (B2 : Below w1.heap.size w1 w') : Below w.heap.size w w' := B1.trans (B2.mono B1.size)

/-! ### the reference's Within -/
theorem within_ref {d p : List UInt8} (hd : d ≠ []) : withinB d p = (decide ((parts d).length < (parts p).length) && (jn ((parts p).take (parts d).length) == d)) := by
  rw [Bool.eq_iff_iff, withinB_iff hd, Bool.and_eq_true, decide_eq_true_eq, beq_iff_eq]
  constructor
  · rintro ⟨qs, hq, e⟩
    rw [e]
    have := List.length_pos_iff.2 hq
    refine ⟨by simp; omega, ?_⟩
    rw [List.take_append_of_le_length (Nat.le_refl _), List.take_length, jn_parts]
  · rintro ⟨h1, h2⟩
    refine ⟨(parts p).drop (parts d).length, fun e => ?_, ?_⟩
    · have := congrArg List.length e
      rw [List.length_drop, List.length_nil] at this
      omega
    · have h3 : parts (jn ((parts p).take (parts d).length)) = (parts p).take (parts d).length := by
        refine parts_jn _ (fun e => ?_) (fun x hx => parts_no p x ((List.take_sublist _ _).subset hx))
        have := congrArg List.length e
        rw [List.length_take, List.length_nil] at this
        have := List.length_pos_iff.2 (parts_ne d)
        omega
      rw [h2] at h3
      conv => lhs; rw [← List.take_append_drop (parts d).length (parts p)]
      rw [← h3]

/-! ### the reference's Less -/
theorem less_cb : ∀ (a b : List UInt8), Op.bytesLess a b = decide (Lib.compareBytes a b < 0)
  | [], [] => rfl
  | [], _ :: _ => rfl
  | _ :: _, [] => rfl
  | x :: a, y :: b => by
    have ih := less_cb a b
    rw [Op.bytesLess, Lib.compareBytes, ih]
    by_cases h1 : x < y
    · rw [if_pos h1]; simp [h1]
    · rw [if_neg h1]
      by_cases h2 : y < x
      · rw [if_pos h2]
        have h3 : (x == y) = false := beq_eq_false_iff_ne.2 (fun e => by rw [e] at h2; exact UInt8.lt_irrefl _ h2)
        simp [h1, h3]
      · have e : x = y := UInt8.le_antisymm (UInt8.not_lt.1 h2) (UInt8.not_lt.1 h1)
        rw [if_neg h2, e]; simp [UInt8.lt_irrefl]
theorem lex_drop : ∀ (j : Nat) (x y : List (List UInt8)), x.take j = y.take j → j ≤ x.length → j ≤ y.length → lex x y = lex (x.drop j) (y.drop j)
  | 0, x, y, _, _, _ => rfl
  | j + 1, [], _, _, h, _ => by simp at h
  | j + 1, _ :: _, [], _, _, h => by simp at h
  | j + 1, a :: x, b :: y, h, h1, h2 => by
    simp only [List.take_succ_cons, List.cons.injEq] at h
    have ih := lex_drop j x y h.2 (by simpa using h1) (by simpa using h2)
    rw [lex, h.1, if_neg (by rw [cb_self]; simp), ih]
    rfl
theorem lex_at {x y : List (List UInt8)} {j : Nat} (h : x.take j = y.take j) (h1 : j < x.length) (h2 : j < y.length) (hne : x[j] ≠ y[j]) : lex x y = Lib.compareBytes x[j] y[j] := by
  rw [lex_drop j x y h (by omega) (by omega), List.drop_eq_getElem_cons h1, List.drop_eq_getElem_cons h2, lex, if_pos (fun e => hne (cb_zero _ _ e))]
theorem lex_end {x y : List (List UInt8)} {j : Nat} (h : x.take j = y.take j) (h1 : j ≤ x.length) (h2 : j ≤ y.length) (he : ¬ (j < x.length ∧ j < y.length)) : decide (lex x y < 0) = decide (x.length < y.length) := by
  rw [lex_drop j x y h h1 h2]
  by_cases hx : j = x.length
  · rw [List.drop_of_length_le (l := x) (by omega)]
    by_cases hy : j = y.length
    · rw [List.drop_of_length_le (l := y) (by omega)]
      have : ¬ x.length < y.length := by omega
      simp [lex, this]
    · rw [List.drop_eq_getElem_cons (show j < y.length by omega)]
      have : x.length < y.length := by omega
      simp [lex, this]
  · have hy : j = y.length := by omega
    rw [List.drop_of_length_le (l := y) (by omega), List.drop_eq_getElem_cons (show j < x.length by omega)]
    have : ¬ x.length < y.length := by omega
    simp [lex, this]

set_option maxHeartbeats 400000 in
theorem refLess_any (a b : List UInt8) (ha : a.length ≤ 400) (hb : b.length ≤ 400) (w : World) :
    Calls Try.prog 37 #[.string (bz a), .string (bz b)] w fun e W' => e = .returned (.bool (decide (lex (parts a) (parts b) < 0))) ∧ Below w.heap.size w W' := by
  have HA := fun W => refParts_any a (by omega) W
  have HB := fun W => refParts_any b (by omega) W
  have hal : (parts a).length ≤ 1000 := by have := jn_length (parts a) (parts_ne a); rw [jn_parts] at this; omega
  have hbl : (parts b).length ≤ 1000 := by have := jn_length (parts b) (parts_ne b); rw [jn_parts] at this; omega
  obtain ⟨x, hx⟩ : ∃ x, x = parts a := ⟨_, rfl⟩
  obtain ⟨y, hy⟩ : ∃ x, x = parts b := ⟨_, rfl⟩
  rw [← hx] at HA hal ⊢
  rw [← hy] at HB hbl ⊢
  clear hx hy ha hb
  obtain ⟨res, hres⟩ : ∃ r, r = decide (lex x y < 0) := ⟨_, rfl⟩
  rw [← hres]
  replace hres := hide hres; replace HA := hide HA; replace HB := hide HB
  have tk1 : True := trivial
  go_enter Try.func37, Try.ntmps37
  go_wp2_with (first
    | (go_at_call 51; have _t := tk1; refine (unhide HA _).mono ?_; rintro e w1 ⟨⟨A1, c1, rfl, O1⟩, B1⟩; have S1 := O1.ss; replace S1 := hide S1; clear O1 tk1 _t)
    | (go_at_call 51; refine (unhide HB _).mono ?_; rintro e w2 ⟨⟨A2, c2, rfl, O2⟩, B2⟩; have S2 := O2.ss; replace S2 := hide S2; clear O2))
  go_loopw [7] (fun i wr => ∃ (j n : Nat), j ≤ x.length ∧ j ≤ y.length ∧ i = .int .i64 j ∧ wr = w2.drewN n ∧ Hid (x.take j = y.take j)) (fun i _ => x.length - (intOf i).toNat)
  case atStart => exact ⟨0, 0, Nat.zero_le _, Nat.zero_le _, rfl, rfl, hide rfl⟩
  case round =>
    obtain ⟨j, n, hj1, hj2, rfl, hV, ht⟩ := hrel
    generalize wr = V at *
    have Sx : Ss w.heap.size w1.heap.size V (.slice A1 x.length c1) x := by rw [hV]; exact Rd.below (unhide S1) (bl_drewN B2 n) (Nat.le_refl _)
    have Sy : Ss w1.heap.size w2.heap.size V (.slice A2 y.length c2) y := by rw [hV]; exact unhide S2
    obtain ⟨A0, c0, he, _, _, h3⟩ := Sx.open
    injection he with e1 e2 e3
    subst e1 e3
    clear e2
    obtain ⟨A0, c0, he, _, _, h4⟩ := Sy.open
    injection he with e1 e2 e3
    subst e1 e3
    clear e2 Sx Sy
    replace hV := hide hV
    by_cases hl : j < x.length ∧ j < y.length
    · obtain ⟨hl1, hl2⟩ := hl
      obtain ⟨b1, o1, rfl, _, _, hc1⟩ := h3 j hl1
      obtain ⟨b2, o2, rfl, _, _, hc2⟩ := h4 j hl2
      clear h3 h4
      have hat := lex_at (unhide ht) hl1 hl2
      have hx1 := take_one hl1
      have hy1 := take_one hl2
      obtain ⟨p, hp⟩ : ∃ p, p = x[j] := ⟨_, rfl⟩
      obtain ⟨q, hq⟩ : ∃ p, p = y[j] := ⟨_, rfl⟩
      rw [← hp] at hc1 hat hx1
      rw [← hq] at hc2 hat hy1
      clear hp hq
      replace hat := hide hat; replace hx1 := hide hx1; replace hy1 := hide hy1
      cases he : p == q with
      | true =>
        have hb : (p != q) = false := by simp [bne, he]
        go_wp2
        go_quiet (fail)
        go_wp2
        go_roundw
        case rel => exact ⟨j + 1, n + nq, by omega, by omega, by go_num, by rw [unhide hV, World.drewN_drewN], hide (by rw [unhide hx1, unhide hy1, unhide ht, eq_of_beq he])⟩
        case measure => simp [intOf]; omega
      | false =>
        have hb : (p != q) = true := by simp [bne, he]
        have hr : res = Op.bytesLess p q := by rw [unhide hres, unhide hat (ne_of_beq_false he), less_cb]
        replace hr := hide hr
        go_wp2
        go_quiet (fail)
        go_wp2
        go_quiet (fail)
        go_wp2
        go_ret
        refine ⟨ret_b rfl (unhide hr).symm, ?_⟩
        simp only [unhide hV, World.drewN_drewN]
        exact bl_drewN (B1.trans (B2.mono B1.size)) _
    · have hr := lex_end (unhide ht) hj1 hj2 hl
      rw [← unhide hres] at hr
      clear h3 h4
      replace hr := hide hr
      have BV : Below w.heap.size w V := by rw [unhide hV]; exact bl_drewN (B1.trans (B2.mono B1.size)) _
      replace BV := hide BV
      by_cases hl1 : j < x.length
      · have hl2 : ¬ j < y.length := fun h => hl ⟨hl1, h⟩
        clear hl
        go_wp2
        go_ret
        exact ⟨ret_b rfl (unhide hr).symm, unhide BV⟩
      · clear hl
        go_wp2
        go_ret
        exact ⟨ret_b rfl (unhide hr).symm, unhide BV⟩

end Go.Proofs.Ytnjepbehfioclaa
