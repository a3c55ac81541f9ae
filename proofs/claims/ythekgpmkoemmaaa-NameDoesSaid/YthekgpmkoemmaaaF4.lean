import Derived.Test.YthekgpmkoemmaaaF3
namespace Go.Proofs.Ythekgpmkoemmaaa
open Go.RowKit
attribute [local go_sem] bz_size bz_toList

/-! ### the reference's Check, Folder -/
theorem all_take {ps : List (List UInt8)} {i : Nat} (hi : i < ps.length) (h : (ps.take i).all okP = true) (hk : okP ps[i] = true) : (ps.take (i + 1)).all okP = true := by
  rw [List.take_succ_eq_append_getElem hi, List.all_append, h]
  simp [hk]
theorem all_bad {ps : List (List UInt8)} {i : Nat} (hi : i < ps.length) (hk : okP ps[i] = false) : ps.all okP = false := by
  rw [List.all_eq_false]
  exact ⟨ps[i], List.getElem_mem hi, by simp [hk]⟩
set_option maxHeartbeats 400000 in
theorem refCheck_loop (t : List UInt8) (h1 : 1 ≤ t.length) (h96 : t.length ≤ 96) (ho : ofName t = true) (w : World) :
    Calls Try.prog 21 #[.string (bz t)] w fun e w' => e = .returned (.int .i64 (if (parts t).all okP then 0 else 1)) ∧ Below w.heap.size w w' := by
  have HO := fun W => octets_any t (by omega) W
  rw [ho] at HO
  have HP := fun W => refParts_any t (by omega) W
  have hpl : (parts t).length ≤ 97 := by have := jn_length (parts t) (parts_ne t); rw [jn_parts] at this; omega
  obtain ⟨ps, hps⟩ : ∃ ps, ps = parts t := ⟨_, rfl⟩
  rw [← hps] at HP hpl ⊢
  clear ho hps
  obtain ⟨er, her⟩ : ∃ er : Int, er = if ps.all okP then 0 else 1 := ⟨_, rfl⟩
  rw [← her]
  replace her := hide her
  replace HO := hide HO
  replace HP := hide HP
  have d1 : ¬ ((t.length : Int) < 1) := by omega
  have d2 : ¬ ((96 : Int) < (t.length : Int)) := by omega
  go_enter Try.func21, Try.ntmps21
  go_wp2_with (first
    | (go_at_call 26; refine (unhide HO _).mono ?_; rintro e w' ⟨rfl, rfl⟩)
    | (go_at_call 27; refine (unhide HP _).mono ?_; rintro e w1 ⟨⟨A, c, rfl, O1⟩, B1⟩; have S1 := O1.ss; obtain ⟨A', c', he, _, _, h3⟩ := S1.open; replace he := hide he; replace h3 := hide h3; clear O1 S1))
  go_loop [21] (fun i => ∃ (j : Nat), j ≤ ps.length ∧ i = .int .i64 j ∧ Hid ((ps.take j).all okP = true)) (fun i => ps.length - (intOf i).toNat)
  case atStart => exact ⟨0, Nat.zero_le _, rfl, hide rfl⟩
  case round =>
    obtain ⟨j, hj, rfl, hall⟩ := hrel
    have he' := unhide he
    injection he' with e1 e2 e3
    subst e1 e3
    clear e2
    by_cases hlt : j < ps.length
    · obtain ⟨b, off, rfl, _, _, hc⟩ := unhide h3 j hlt
      have hg := all_take hlt (unhide hall)
      have hb := all_bad hlt
      obtain ⟨x, hx⟩ : ∃ x, x = ps[j] := ⟨_, rfl⟩
      rw [← hx] at hc hg hb
      clear hx hall
      have hbad : x.isEmpty = true ∨ (x == [46]) = true ∨ (x == [46, 46]) = true → er = 1 := fun h => by
        have h1 := unhide her
        have h2 : okP x = false := by
          have := okP_bad (pre := []) h
          simpa using this
        rw [hb h2] at h1
        simpa using h1
      have hgood : x.isEmpty = false → (x == [46]) = false → (x == [46, 46]) = false → (ps.take (j + 1)).all okP = true := fun a1 a2 a3 => hg (by simp [okP, isE, isD, isU, a1, a2, a3])
      clear hg hb
      replace hbad := hide hbad
      replace hgood := hide hgood
      cases e1 : x.isEmpty with
      | true =>
        go_wp2
        go_ret
        exact ⟨by rw [unhide hbad (.inl e1)]; rfl, B1⟩
      | false =>
        cases e2 : x == [46] with
        | true =>
          go_wp2
          go_ret
          exact ⟨by rw [unhide hbad (.inr (.inl e2))]; rfl, B1⟩
        | false =>
          cases e3 : x == [46, 46] with
          | true =>
            go_wp2
            go_ret
            exact ⟨by rw [unhide hbad (.inr (.inr e3))]; rfl, B1⟩
          | false =>
            go_wp2
            go_round
            case rel => exact ⟨j + 1, by omega, by go_num, hide (unhide hgood e1 e2 e3)⟩
            case measure => simp [intOf]; omega
    · obtain rfl : j = ps.length := by omega
      have h1 := unhide her
      have h2 := unhide hall
      rw [List.take_length] at h2
      rw [h2] at h1
      clear hall h2 h3
      replace h1 := hide h1
      go_wp2
      go_ret
      exact ⟨by rw [unhide h1]; rfl, B1⟩
end Go.Proofs.Ythekgpmkoemmaaa
