import Derived.Test.YthekgpmkoemmaaaF5
import Derived.Test.YthekgpmkoemmaaaL7
namespace Go.Proofs.Ythekgpmkoemmaaa
open Go.RowKit
attribute [local go_sem] bz_size bz_toList

theorem lastD_eq {ps : List (List UInt8)} {m : Nat} (hm : ps.length = m + 1) : ps[m]? = some (ps.getLastD []) := by
  rcases List.eq_nil_or_concat ps with rfl | ⟨k', x, rfl⟩
  · cases hm
  · rw [List.concat_eq_append] at hm ⊢
    rw [List.getLastD_concat]
    have : m = k'.length := by simp at hm; omega
    subst this
    simp
set_option maxHeartbeats 400000 in
theorem refSplit_yes (t : List UInt8) (hl : t.length ≤ 1000) (hn : nameB t = true) (w : World) :
    Calls Try.prog 15 #[.string (bz t)] w fun e W' => e = .returned (.tuple #[.string (bz (jn (parts t).dropLast)), .string (bz ((parts t).getLastD [])), .int .i64 0]) ∧ Below w.heap.size w W' := by
  have HK : ∀ W, Calls Try.prog 21 #[.string (bz t)] W fun e w' => e = .returned (.int .i64 0) ∧ Below W.heap.size W w' := fun W => by
    have := refCheck_any t hl W
    rwa [hn] at this
  have HP := fun W => refParts_any t hl W
  have h96 := (name_parts.1 hn).1
  have hpl : (parts t).length ≤ 97 := by have := jn_length (parts t) (parts_ne t); rw [jn_parts] at this; omega
  have hjl : (jn (parts t).dropLast).length ≤ 1000 := by
    rcases List.eq_nil_or_concat (parts t) with e | ⟨k', x, e⟩
    · rw [e]; simp [jn]
    · have h1 := congrArg jn e
      rw [jn_parts, List.concat_eq_append] at h1
      rw [e, List.concat_eq_append, List.dropLast_concat]
      by_cases hk : k' = []
      · rw [hk]; simp [jn]
      · rw [jn_append _ _ hk] at h1
        have := congrArg List.length h1
        simp at this; omega
  obtain ⟨m, hm⟩ : ∃ m, (parts t).length = m + 1 := ⟨(parts t).length - 1, by have := List.length_pos_iff.2 (parts_ne t); omega⟩
  have hlast := lastD_eq hm
  rw [take_last hm] at hjl ⊢
  obtain ⟨ps, hps⟩ : ∃ ps, ps = parts t := ⟨_, rfl⟩
  obtain ⟨x, hx⟩ : ∃ x, x = (parts t).getLastD [] := ⟨_, rfl⟩
  rw [← hx] at hlast ⊢
  rw [← hps] at HP hpl hjl hm hlast ⊢
  have hx' : ∀ (h : m < ps.length), x = ps[m] := fun h => by rw [List.getElem?_eq_getElem h] at hlast; injection hlast with e; exact e.symm
  clear hps hx hn h96 hlast
  replace hjl := hide hjl; replace hx' := hide hx'
  replace HK := hide HK; replace HP := hide HP
  go_enter Try.func15, Try.ntmps15
  go_wp2_with (first
    | (go_at_call 21; refine (unhide HK _).mono ?_; rintro e w1 ⟨rfl, B1⟩)
    | (go_at_call 27; refine (unhide HP _).mono ?_; rintro e w2 ⟨⟨A, c, rfl, O2⟩, B2⟩; have S2 := O2.ss; replace S2 := hide S2; clear O2))
  obtain ⟨A0, c0, he, hc1, hc2, h3⟩ := (show Ss w1.heap.size w2.heap.size w2 (.slice A ps.length c) ps from unhide S2).open
  injection he with e1 e2 e3
  subst e1 e3
  clear e2
  obtain ⟨b, off, rfl, _, hbl, hc⟩ := h3 m (by omega)
  rw [← unhide hx' (by omega)] at hc
  obtain ⟨A2, hsl, hpart⟩ := Ss.part (unhide S2) m (by omega)
  have hcut : ∀ W, (Instr.slice 38 (.slice (some ⟨b, off, none⟩) (m + 1) c) none (some (.int .i64 (m : Int))) none).run Try.prog W = .ok (.slice A2 m c) W := fun W => by rw [slice_h _ _ c m (by omega), hsl]
  have hlen2 : (ps.take m).length = m := by rw [List.length_take]; omega
  have HJ : ∀ n, Calls Try.prog 28 #[.slice A2 m c] (w2.drewN n) fun e w' => e = .returned (.string (bz (jn (ps.take m)))) ∧ w2.drewN n = w' := fun n =>
    refJoin_any w1.heap.size w2.heap.size _ _ _ (by exact (show Ss _ _ (w2.drewN n) _ _ from hpart)) (by omega) (unhide hjl)
  replace HJ := hide HJ
  have c1 : IntKind.i64.wrap (m : Int) = (m : Int) := IntWalk.i64_in _ (by omega)
  have c2 : (m : Int) < (m : Int) + 1 := by omega
  have c3 : (m : Int) ≤ (c : Int) := by omega
  have c4 : m < m + 1 := by omega
  clear h3 hpart hm hlen2 hsl S2 hx'
  go_quiet ((go_at_call 28; refine Calls.quiet_of_same ((unhide HJ _).mono fun e w' h => ⟨h.1, h.2.symm⟩)))
  go_wp2_with fail
  go_ret3
  exact ⟨rfl, bl_drewN (B1.trans (B2.mono B1.size)) nq⟩

set_option maxHeartbeats 400000 in
theorem refSplit_any (t : List UInt8) (hl : t.length ≤ 1000) (w : World) :
    Calls Try.prog 15 #[.string (bz t)] w fun e W' => e = .returned (.tuple #[.string (bz (splitF t).1), .string (bz (splitF t).2.1), .int .i64 (splitF t).2.2]) ∧ Below w.heap.size w W' := by
  cases hn : nameB t with
  | true =>
    have hj : splitF t = (jn (parts t).dropLast, (parts t).getLastD [], 0) := by unfold splitF; rw [if_neg (by rw [hn]; simp)]
    rw [hj]
    exact refSplit_yes t hl hn w
  | false =>
    rw [splitF_no hn]
    have HK : ∀ W, Calls Try.prog 21 #[.string (bz t)] W fun e w' => e = .returned (.int .i64 1) ∧ Below W.heap.size W w' := fun W => by
      have := refCheck_any t hl W
      rwa [hn] at this
    clear hn
    replace HK := hide HK
    go_enter Try.func15, Try.ntmps15
    go_wp2_with (go_at_call 21; refine (unhide HK _).mono ?_; rintro e w1 ⟨rfl, B1⟩)
    go_ret3
    exact ⟨rfl, B1⟩

/-! ### the reference's Within -/
theorem within_ref {d p : List UInt8} (hd : d ≠ []) : withinB d p = (decide ((parts d).length < (parts p).length) && (jn ((parts p).take (parts d).length) == d)) := by
  rw [Bool.eq_iff_iff, withinB_iff hd, Bool.and_eq_true, decide_eq_true_eq, beq_iff_eq]
  constructor
  · rintro ⟨qs, hq, e⟩
    rw [e]
    have := List.length_pos_iff.2 hq
    refine ⟨by simp; omega, ?_⟩
    rw [List.take_append_of_le_length (Nat.le_refl _), List.take_length, jn_parts]
  · rintro ⟨h1, h2⟩
    refine ⟨(parts p).drop (parts d).length, fun e => ?_, ?_⟩
    · have := congrArg List.length e
      rw [List.length_drop, List.length_nil] at this
      omega
    · have h3 : parts (jn ((parts p).take (parts d).length)) = (parts p).take (parts d).length := by
        refine parts_jn _ (fun e => ?_) (fun x hx => parts_no p x ((List.take_sublist _ _).subset hx))
        have := congrArg List.length e
        rw [List.length_take, List.length_nil] at this
        have := List.length_pos_iff.2 (parts_ne d)
        omega
      rw [h2] at h3
      conv => lhs; rw [← List.take_append_drop (parts d).length (parts p)]
      rw [← h3]

set_option maxHeartbeats 400000 in
theorem refWithin_yes (d p : List UInt8) (hl : p.length ≤ 609) (hdl : d.length ≤ 390) (hd : d ≠ []) (hf : folderB d = true) (hn : nameB p = true) (w : World) :
    Calls Try.prog 17 #[.string (bz d), .string (bz p)] w fun e W' => e = .returned (.tuple #[.bool (withinB d p), .int .i64 0]) ∧ Below w.heap.size w W' := by
  have HF := fun W => refFolder_any d (by omega) W
  rw [hf] at HF
  have HK : ∀ W, Calls Try.prog 21 #[.string (bz p)] W fun e w' => e = .returned (.int .i64 0) ∧ Below W.heap.size W w' := fun W => by
    have := refCheck_any p (by omega) W
    rwa [hn] at this
  have HP := fun W => refParts_any p (by omega) W
  have HD := fun W => refParts_any d (by omega) W
  have e0 : d.isEmpty = false := by simpa using hd
  rw [within_ref hd]
  have hpl : (parts p).length ≤ 1000 := by have := jn_length (parts p) (parts_ne p); rw [jn_parts] at this; omega
  have hdp : (parts d).length ≤ 1000 := by have := jn_length (parts d) (parts_ne d); rw [jn_parts] at this; omega
  have hjl : ∀ n, (jn ((parts p).take n)).length ≤ 1000 := fun n => by have := jn_take_le (parts p) n; rw [jn_parts] at this; omega
  obtain ⟨ps, hps⟩ : ∃ ps, ps = parts p := ⟨_, rfl⟩
  obtain ⟨m, hm⟩ : ∃ m, m = (parts d).length := ⟨_, rfl⟩
  rw [← hps] at HP hpl hjl ⊢
  rw [← hm] at hdp ⊢
  rw [← hm] at HD
  clear hps hf hn hd
  replace hjl := hide hjl
  replace HF := hide HF; replace HK := hide HK; replace HP := hide HP; replace HD := hide HD
  clear hm
  have tk1 : True := trivial
  by_cases hlt : m < ps.length
  · have d1 : decide (m < ps.length) = true := decide_eq_true hlt
    rw [d1, Bool.true_and]
    go_enter Try.func17, Try.ntmps17
    go_wp2_with (first
      | (go_at_call 30; refine (unhide HF _).mono ?_; rintro e w1 ⟨rfl, B1⟩)
      | (go_at_call 21; refine (unhide HK _).mono ?_; rintro e w2 ⟨rfl, B2⟩)
      | (go_at_call 27; have _t := tk1; refine (unhide HD _).mono ?_; rintro e w3 ⟨⟨A3, c3, rfl, _⟩, B3⟩; clear tk1 _t)
      | (go_at_call 27; refine (unhide HP _).mono ?_; rintro e w4 ⟨⟨A, c, rfl, O4⟩, B4⟩; (have S4 : Ss w3.heap.size w4.heap.size w4 (.slice A ps.length c) ps := O4.ss); (obtain ⟨A2, hsl, hpart⟩ := Ss.part S4 m (by omega)); (have hcm : m ≤ c := by obtain ⟨_, _, q, q1, _⟩ := S4; injection q with _ _ q3; omega); (have hcut : ∀ W, (Instr.slice 38 (.slice A ps.length c) none (some (.int .i64 (m : Int))) none).run Try.prog W = .ok (.slice A2 m c) W := fun W => by rw [slice_h _ _ c m hcm, hsl]); (have HJ := refJoin_any _ _ _ _ _ hpart (by rw [List.length_take]; omega) (unhide hjl m)); replace HJ := hide HJ; clear O4 S4 hsl hpart)
      | (go_at_call 28; refine (unhide HJ).mono ?_; rintro e w5 ⟨rfl, rfl⟩))
    go_ret2
    exact ⟨rfl, ret_live (ret_live (ret_live B1 B2) B3) B4⟩
  · have d1 : decide (m < ps.length) = false := decide_eq_false hlt
    rw [d1, Bool.false_and]
    go_enter Try.func17, Try.ntmps17
    go_wp2_with (first
      | (go_at_call 30; refine (unhide HF _).mono ?_; rintro e w1 ⟨rfl, B1⟩)
      | (go_at_call 21; refine (unhide HK _).mono ?_; rintro e w2 ⟨rfl, B2⟩)
      | (go_at_call 27; have _t := tk1; refine (unhide HD _).mono ?_; rintro e w3 ⟨⟨A3, c3, rfl, _⟩, B3⟩; clear tk1 _t)
      | (go_at_call 27; refine (unhide HP _).mono ?_; rintro e w4 ⟨⟨A, c, rfl, _⟩, B4⟩))
    go_ret2
    exact ⟨rfl, ret_live (ret_live (ret_live B1 B2) B3) B4⟩
end Go.Proofs.Ythekgpmkoemmaaa
