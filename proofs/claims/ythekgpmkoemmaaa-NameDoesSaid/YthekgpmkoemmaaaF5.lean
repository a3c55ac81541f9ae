import Derived.Test.YthekgpmkoemmaaaF4
namespace Go.Proofs.Ythekgpmkoemmaaa
open Go.RowKit
attribute [local go_sem] bz_size bz_toList

set_option maxHeartbeats 400000 in
theorem refCheck_any (t : List UInt8) (hl : t.length ≤ 1000) (w : World) :
    Calls Try.prog 21 #[.string (bz t)] w fun e w' => e = .returned (.int .i64 (if nameB t then 0 else 1)) ∧ Below w.heap.size w w' := by
  by_cases h1 : 1 ≤ t.length
  · by_cases h96 : t.length ≤ 96
    · cases ho : ofName t with
      | true =>
        have e : nameB t = (parts t).all okP := by simp [nameB, h96, ho]
        rw [e]
        exact refCheck_loop t h1 h96 ho w
      | false =>
        have hn : nameB t = false := by simp [nameB, ho]
        rw [hn]
        have HO := fun W => octets_any t hl W
        rw [ho] at HO
        clear ho hn
        replace HO := hide HO
        have d1 : ¬ ((t.length : Int) < 1) := by omega
        have d2 : ¬ ((96 : Int) < (t.length : Int)) := by omega
        go_enter Try.func21, Try.ntmps21
        go_wp2_with (go_at_call 26; refine (unhide HO _).mono ?_; rintro e w' ⟨rfl, rfl⟩)
        go_ret
        exact ⟨rfl, Below.refl _ _⟩
    · have hn : nameB t = false := by simp [nameB]; intro h; omega
      rw [hn]
      clear hn
      have d1 : ¬ ((t.length : Int) < 1) := by omega
      have d2 : ((96 : Int) < (t.length : Int)) := by omega
      go_enter Try.func21, Try.ntmps21
      go_wp2_with fail
      go_ret
      exact ⟨rfl, Below.refl _ _⟩
  · obtain rfl : t = [] := List.eq_nil_of_length_eq_zero (by omega)
    have hn : nameB [] = false := by decide
    rw [hn]
    go_enter Try.func21, Try.ntmps21
    go_wp2_with fail
    go_ret
    exact ⟨rfl, Below.refl _ _⟩
set_option maxHeartbeats 400000 in
theorem refFolder_any (t : List UInt8) (hl : t.length ≤ 1000) (w : World) :
    Calls Try.prog 30 #[.string (bz t)] w fun e W' => e = .returned (.bool (folderB t)) ∧ Below w.heap.size w W' := by
  have HN := fun W => refCheck_any t hl W
  cases e1 : t.isEmpty with
  | true =>
    have hn : folderB t = true := by simp [folderB, isE, e1]
    rw [hn]
    clear hn
    go_enter Try.func30, Try.ntmps30
    go_wp2_with fail
    go_ret
    exact ⟨rfl, Below.refl _ _⟩
  | false =>
    have hn : folderB t = nameB t := by simp [folderB, isE, e1]
    rw [hn]
    clear hn
    cases e2 : nameB t with
    | true =>
      rw [e2] at HN
      clear e2
      replace HN := hide HN
      go_enter Try.func30, Try.ntmps30
      go_wp2_with (go_at_call 21; refine (unhide HN _).mono ?_; rintro e w1 ⟨rfl, B1⟩)
      go_ret
      exact ⟨rfl, B1⟩
    | false =>
      rw [e2] at HN
      clear e2
      replace HN := hide HN
      go_enter Try.func30, Try.ntmps30
      go_wp2_with (go_at_call 21; refine (unhide HN _).mono ?_; rintro e w1 ⟨rfl, B1⟩)
      go_ret
      exact ⟨rfl, B1⟩

/-! ### the reference's Clean -/
theorem take_one {ps : List (List UInt8)} {j : Nat} (hj : j < ps.length) : ps.take (j + 1) = ps.take j ++ [ps[j]] := List.take_succ_eq_append_getElem hj
theorem run_none {ps : List (List UInt8)} {j : Nat} (h : runK [] (ps.take j) = none) : runK [] ps = none := by
  conv => lhs; rw [← List.take_append_drop j ps]
  rw [runK_append, h]; rfl
theorem strs_one (k : List (List UInt8)) : ∀ u ∈ strs k, u.oneCell' = true := flat_one svc_one k

set_option maxRecDepth 100000 in
set_option maxHeartbeats 1000000 in
theorem refClean_loop (t : List UInt8) (h96 : t.length ≤ 96) (ho : ofName t = true) (w : World) (p : List UInt8) (er : Int) (hout : endK (runK [] (parts t)) = (p, er)) :
    Calls Try.prog 11 #[.string (bz t)] w fun e W' => e = .returned (.tuple #[.string (bz p), .int .i64 er]) ∧ Below w.heap.size w W' := by
  have HO := fun W => octets_any t (by omega) W
  rw [ho] at HO
  have HP := fun W => refParts_any t (by omega) W
  have hpl : (parts t).length ≤ 97 := by have := jn_length (parts t) (parts_ne t); rw [jn_parts] at this; omega
  have hjl : ∀ k, runK [] (parts t) = some k → (jn k).length ≤ t.length := fun k h => kept_jn h
  obtain ⟨ps, hps⟩ : ∃ ps, ps = parts t := ⟨_, rfl⟩
  rw [← hps] at HP hpl hout hjl
  clear ho hps
  replace hjl := hide hjl
  replace hout := hide hout
  replace HO := hide HO
  replace HP := hide HP
  have d2 : ¬ ((96 : Int) < (t.length : Int)) := by omega
  obtain ⟨i0, hi, hz0, hz1, hz2⟩ := info_parts info9
  go_enter Try.func11, Try.ntmps11
  go_wp2_with (first
    | (go_at_call 26; refine (unhide HO _).mono ?_; rintro e w' ⟨rfl, rfl⟩)
    | (go_at_call 27; refine (unhide HP _).mono ?_; rintro e w1 ⟨⟨A, c, rfl, O1⟩, B1⟩; have S1 := O1.ss; replace S1 := hide S1; clear O1))
  go_loopw [4, 16] (fun o i wr => ∃ (j : Nat) (k : List (List UInt8)) (A' : Option Addr) (c' : Nat), j ≤ ps.length ∧ o = .slice A' k.length c' ∧ i = .int .i64 j ∧ Hid (OwnS wr w1.heap.size (.slice A' k.length c') k) ∧ Hid (runK [] (ps.take j) = some k) ∧ k.length ≤ j ∧ Hid (Below w1.heap.size w1 wr)) (fun _ i _ => ps.length - (intOf i).toNat)
  case atStart => exact ⟨0, [], none, 0, Nat.zero_le _, rfl, rfl, hide (World.ownsRow_nil _ _ _ _), hide rfl, Nat.zero_le _, hide (Below.refl _ _)⟩
  case round =>
    obtain ⟨j, k, A', c', hj, rfl, rfl, ho, hrun, hkj, hB⟩ := hrel
    have Sr : Ss w.heap.size w1.heap.size wr (.slice A ps.length c) ps := (unhide S1).below (unhide hB) (Nat.le_refl _)
    obtain ⟨A0, c0, he, _, _, h3⟩ := Sr.open
    injection he with e1 e2 e3
    subst e1 e3
    clear e2 Sr
    by_cases hlt : j < ps.length
    · obtain ⟨b, off, rfl, _, hbl, hc⟩ := h3 j hlt
      clear h3
      have ht := take_one hlt
      obtain ⟨x, hx⟩ : ∃ x, x = ps[j] := ⟨_, rfl⟩
      rw [← hx] at hc ht
      clear hx
      replace ht := hide ht
      cases e1 : x.isEmpty with
      | true =>
        have hr := run_pass (unhide hrun) (.inl e1)
        rw [← unhide ht] at hr
        replace hr := hide hr
        clear hrun ht
        go_wp2
        go_roundw
        case rel => exact ⟨j + 1, k, A', c', by omega, rfl, by go_num, ho, hr, by omega, hB⟩
        case measure => simp [intOf]; omega
      | false =>
        cases e2 : x == [46] with
        | true =>
          have hr := run_pass (unhide hrun) (.inr e2)
          rw [← unhide ht] at hr
          replace hr := hide hr
          clear hrun ht
          go_wp2
          go_roundw
          case rel => exact ⟨j + 1, k, A', c', by omega, rfl, by go_num, ho, hr, by omega, hB⟩
          case measure => simp [intOf]; omega
        | false =>
          cases e3 : x == [46, 46] with
          | false =>
            have hr := run_keep (unhide hrun) e1 e2 e3
            rw [← unhide ht] at hr
            replace hr := hide hr
            clear hrun ht
            have u1 : k.length + 1 ≤ maxLen := by simp only [maxLen]; omega
            have u2 : (k.length + 1) * 16 ≤ 140737488355328 := by omega
            replace u1 := hide u1; replace u2 := hide u2
            go_wp2_with (first
              | (at_builtin
                 refine wpList_app _ rfl (.tmp 28) (.tmp 30) 38 rfl w1.heap.size 9 i0 _ 1 16 Try.underlying38 hi hz0 hz1 hz2 rfl (Nat.succ_pos _) _ k.length (strs k) rfl ((unhide ho).alloc _) (some ⟨wr.heap.size, 0, none⟩) 1 1 [.string (bz x)] rfl rfl (src_one _ _ _ _ rfl) (by simp [Value.oneCell']) (unhide u1) (unhide u2) (by have := (unhide hB).size; simp; omega) ?_
                 intro v3 w3 o3 hg3
                 obtain ⟨A3, c3, rfl⟩ := ownsRow_form o3
                 have B3 := ((unhide hB).alloc (unhide hB).size _).grown hg3 (by have := (unhide hB).size; simp; omega) (own_base (unhide ho))
                 rw [strs_snoc] at o3
                 replace B3 := hide B3; replace o3 := hide o3)
              | fail)
            have HO3 : OwnS w3 w1.heap.size (.slice A3 (k ++ [x]).length c3) (k ++ [x]) := by
              have := unhide o3
              simpa [OwnS] using this
            go_roundw
            case rel => exact ⟨j + 1, k ++ [x], A3, c3, by omega, by simp, by go_num, hide HO3, hr, by simp; omega, B3⟩
            case measure => simp [intOf]; omega
          | true =>
            have hr := run_up (unhide hrun) e1 e2 e3
            rw [← unhide ht] at hr
            cases k with
            | nil =>
              rw [if_pos rfl] at hr
              have ho1 := unhide hout
              rw [run_none hr] at ho1
              clear hr hrun ht hout
              replace ho1 := hide ho1
              go_wp2_with fail
              go_ret2
              refine ⟨?_, B1.trans ((unhide hB).mono B1.size)⟩
              have := unhide ho1
              injection this with q1 q2
              rw [← q1, ← q2]; rfl
            | cons k0 kr =>
              rw [if_neg (by simp)] at hr
              obtain ⟨kk, hkk⟩ : ∃ kk, k0 :: kr = kk := ⟨_, rfl⟩
              obtain ⟨m, hm⟩ : ∃ m, kk.length = m + 1 := ⟨kr.length, by rw [← hkk]; simp⟩
              rw [hkk] at ho hr hkj ⊢
              clear hkk hrun ht
              rw [take_last hm] at hr
              obtain ⟨A2, c2, hcut, hown', _⟩ := own_cut (unhide ho) m (m : Int) rfl (by omega)
              have hlen2 : (kk.take m).length = m := by rw [List.length_take]; omega
              have hsrc := (Rd.src svc_len hown'.ss).2
              rw [hm] at hcut hkj ⊢
              have hm0 : ((m : Int) + 1 == 0) = false := by rw [beq_eq_false_iff_ne]; omega
              have hl2 : (strs (kk.take m)).length = m * 1 := by rw [strs_len, hlen2, Nat.mul_one]
              have u1 : 0 + m ≤ maxLen := by simp only [maxLen]; omega
              have u2 : (0 + m) * 16 ≤ 140737488355328 := by omega
              replace hr := hide hr; replace hsrc := hide hsrc; replace hlen2 := hide hlen2; replace hl2 := hide hl2; replace u1 := hide u1; replace u2 := hide u2
              clear hm ho hown'
              go_wp2_with (first
                | (at_builtin
                   refine wpList_app _ rfl (.const (.slice none 0 0)) (.tmp 39) 38 rfl w1.heap.size 9 i0 _ 1 16 Try.underlying38 hi hz0 hz1 hz2 rfl (Nat.succ_pos _) _ 0 [] rfl (World.ownsRow_nil _ _ _ _) A2 m c2 (strs (kk.take m)) rfl (unhide hl2) (unhide hsrc) (strs_one _) (unhide u1) (unhide u2) (unhide hB).size ?_
                   intro v3 w3 o3 hg3
                   obtain ⟨A3, c3, rfl⟩ := ownsRow_form o3
                   have B3 := (unhide hB).grown hg3 (unhide hB).size (own_base (World.ownsRow_nil wr w1.heap.size 9 1))
                   rw [List.nil_append, Nat.zero_add] at o3
                   replace B3 := hide B3; replace o3 := hide o3)
                | fail)
              have HO3 : OwnS w3 w1.heap.size (.slice A3 (kk.take m).length c3) (kk.take m) := by
                have := unhide o3
                unfold OwnS
                rw [unhide hlen2]
                exact this
              go_roundw
              case rel => exact ⟨j + 1, kk.take m, A3, c3, by omega, by rw [unhide hlen2], by go_num, hide HO3, hr, by rw [unhide hlen2]; omega, B3⟩
              case measure => simp [intOf]; omega
    · obtain rfl : j = ps.length := by omega
      have hr := unhide hrun
      rw [List.take_length] at hr
      have hjk := unhide hjl k hr
      have ho1 := unhide hout
      rw [hr] at ho1
      have hS := (unhide ho).ss
      clear hrun hr hlt hj h3 hout hjl
      cases k with
      | nil =>
        replace ho1 := hide ho1
        clear hS hjk
        go_wp2_with fail
        go_ret2
        refine ⟨?_, B1.trans ((unhide hB).mono B1.size)⟩
        have := unhide ho1
        injection this with q1 q2
        rw [← q1, ← q2]; rfl
      | cons k0 kr =>
        obtain ⟨kk, hkk⟩ : ∃ kk, k0 :: kr = kk := ⟨_, rfl⟩
        have hne : ((kk.length : Int) == 0) = false := by rw [beq_eq_false_iff_ne, ← hkk]; simp; omega
        have ho2 : jn kk = p ∧ (0 : Int) = er := by
          have : endK (some (k0 :: kr)) = (jn (k0 :: kr), 0) := by simp [endK]
          rw [this, hkk] at ho1
          injection ho1 with e1 e2
          exact ⟨e1, e2⟩
        rw [hkk] at hS hjk hkj ⊢
        clear ho1 hkk ho
        have HJ := refJoin_any _ _ _ _ wr hS (by omega) (by omega)
        replace ho2 := hide ho2; replace HJ := hide HJ
        clear hS hjk
        go_wp2_with (go_at_call 28; refine (unhide HJ).mono ?_; rintro e w' ⟨rfl, rfl⟩)
        go_ret2
        refine ⟨?_, B1.trans ((unhide hB).mono B1.size)⟩
        rw [← (unhide ho2).1, ← (unhide ho2).2]
        rfl

set_option maxHeartbeats 400000 in
theorem refClean_any (t : List UInt8) (hl : t.length ≤ 1000) (w : World) :
    Calls Try.prog 11 #[.string (bz t)] w fun e W' => e = .returned (.tuple #[.string (bz (cleanF t).1), .int .i64 (cleanF t).2]) ∧ Below w.heap.size w W' := by
  by_cases h96 : t.length ≤ 96
  · cases ho : ofName t with
    | true =>
      have e : cleanF t = endK (runK [] (parts t)) := by unfold cleanF; rw [if_neg (by omega), if_neg (by rw [ho]; simp)]
      rw [e]
      exact refClean_loop t h96 ho w _ _ rfl
    | false =>
      have e : cleanF t = ([], 2) := by unfold cleanF; rw [if_neg (by omega), if_pos ho]
      rw [e]
      have HO := fun W => octets_any t hl W
      rw [ho] at HO
      clear ho e
      replace HO := hide HO
      have d2 : ¬ ((96 : Int) < (t.length : Int)) := by omega
      go_enter Try.func11, Try.ntmps11
      go_wp2_with (go_at_call 26; refine (unhide HO _).mono ?_; rintro e w' ⟨rfl, rfl⟩)
      go_ret2
      exact ⟨rfl, Below.refl _ _⟩
  · have e : cleanF t = ([], 3) := by simp only [cleanF]; rw [if_pos (by omega)]
    rw [e]
    clear e
    have d2 : ((96 : Int) < (t.length : Int)) := by omega
    go_enter Try.func11, Try.ntmps11
    go_wp2_with fail
    go_ret2
    exact ⟨rfl, Below.refl _ _⟩
set_option maxHeartbeats 400000 in
theorem refJoinN_any (d t : List UInt8) (hd : d.length ≤ 390) (hl : t.length ≤ 609) (w : World) :
    Calls Try.prog 13 #[.string (bz d), .string (bz t)] w fun e W' => e = .returned (.tuple #[.string (bz (joinF d t).1), .int .i64 (joinF d t).2]) ∧ Below w.heap.size w W' := by
  have HN := fun W => refFolder_any d (by omega) W
  cases e1 : folderB d with
  | false =>
    have hj : joinF d t = ([], 1) := by unfold joinF; rw [if_pos e1]
    rw [hj]
    rw [e1] at HN
    clear e1 hj
    replace HN := hide HN
    go_enter Try.func13, Try.ntmps13
    go_wp2_with (go_at_call 30; refine (unhide HN _).mono ?_; rintro e w1 ⟨rfl, B1⟩)
    go_ret2
    exact ⟨rfl, B1⟩
  | true =>
    have hj : joinF d t = cleanF (d ++ 47 :: t) := by unfold joinF; rw [if_neg (by rw [e1]; simp)]
    rw [hj]
    rw [e1] at HN
    have HC := fun W => refClean_any (d ++ 47 :: t) (by simp; omega) W
    clear e1 hj
    rw [← bz_cat] at HC
    obtain ⟨⟨p, er⟩, hp⟩ : ∃ p, p = cleanF (d ++ 47 :: t) := ⟨_, rfl⟩
    rw [← hp] at HC ⊢
    clear hp
    replace HN := hide HN
    replace HC := hide HC
    go_enter Try.func13, Try.ntmps13
    go_wp2_with (first | (go_at_call 30; refine (unhide HN _).mono ?_; rintro e w1 ⟨rfl, B1⟩) | (go_at_call 11; refine (unhide HC _).mono ?_; rintro e w2 ⟨rfl, B2⟩))
    go_ret2
    exact ⟨rfl, B1.trans (B2.mono B1.size)⟩
end Go.Proofs.Ythekgpmkoemmaaa
