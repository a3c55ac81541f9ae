import Derived.Test.YtfihgjdppkiolaaP15
namespace Go.Proofs.Ytfihgjdppkiolaa
set_option maxRecDepth 100000
open Go.RowKit

theorem os_drop {lo hi : Nat} {w : World} {b off c : Nat} {t : List Int} (h : Os lo hi w (.slice (some ⟨b, off, none⟩) t.length c) t) (k : Nat) (hk : k < t.length) :
    Os lo hi w (.slice (some ⟨b, off + k, none⟩) (t.length - k) (c - k)) (t.drop k) := by
  obtain ⟨A, c', e, h1, h2, h3⟩ := h
  injection e with e1 e2 e3
  subst e3
  refine ⟨some ⟨b, off + k, none⟩, c - k, by rw [List.length_drop], by rw [List.length_drop]; omega, by omega, fun h0 => ?_⟩
  obtain ⟨b', off', e, g1, g2, g3⟩ := h3 (by omega)
  rw [← e1] at e
  injection e with e; injection e with e1 e2; subst e1 e2
  refine ⟨b, off + k, rfl, g1, g2, fun i hi' j u hu => ?_⟩
  rw [List.length_drop] at hi'
  have hg : (t.drop k)[i]'(by rw [List.length_drop]; exact hi') = t[k + i]'(by omega) := by rw [List.getElem_drop]
  rw [hg] at hu
  have := g3 (k + i) (by omega) j u hu
  rw [show off + k + i * 1 + j = off + (k + i) * 1 + j by omega]
  exact this
theorem textR_is {l : List Tok} {n : Int} (hn0 : 0 ≤ n) (hn : n ≤ 65536) : ∃ er, M.textR l n = (if okL 0 l && decide (sumT l ≤ n) then textF [] l else [], er) ∧ (er = 0 ↔ (okL 0 l && decide (sumT l ≤ n)) = true) := by
  unfold M.textR
  by_cases ho : M.okB l = true
  · obtain ⟨h1, h2⟩ := M.okB_iff.1 ho
    rw [if_neg (by rw [ho]; simp), if_neg (by omega)]
    by_cases hs : sumT l ≤ n
    · exact ⟨0, by rw [if_pos ⟨hs, by omega⟩, if_pos (by simp [h2, hs])], by simp [h2, hs]⟩
    · exact ⟨3, by rw [if_neg (fun h => hs h.1), if_neg (by simp [hs])], by simp [hs]⟩
  · have hf : (okL 0 l && decide (sumT l ≤ n)) = false := by
      cases hh : okL 0 l && decide (sumT l ≤ n) with
      | false => rfl
      | true =>
        simp at hh
        have := (okL_sum hh.1).1
        exact absurd (M.okB_iff.2 ⟨by omega, hh.1⟩) ho
    have ho' : M.okB l = false := by simpa using ho
    refine ⟨1, by rw [if_pos ho', hf]; rfl, by rw [hf]; simp⟩

/-- What Unpack answers of what is behind the four octets. -/
def tailR (d : List Int) (N most : Int) : List UInt8 × Int :=
  if most < N then ([], 3)
  else if startE 528 d ≠ 0 then ([], 2)
  else match toksR d N N.toNat 0 (startR 528 d) [] with
    | none => ([], 2)
    | some (l, r) => if okL 0 l && decide (sumT l ≤ N) && decide (r.used = d.length) then (textF [] l, 0) else ([], 2)
theorem unpackR_tail {t : List Int} {most : Int} (h0 : ¬ most < 0) (h9 : (longR t).2 = 0) : unpackR t most = tailR (t.drop 4) (longN t) most := by
  unfold unpackR tailR
  rw [if_neg h0, if_neg (by rw [h9]; simp)]
  cases toksR (t.drop 4) (longN t) (longN t).toNat 0 (startR 528 (t.drop 4)) [] <;> rfl
theorem tailR_long {d : List Int} {N most : Int} (h : most < N) : tailR d N most = ([], 3) := by unfold tailR; rw [if_pos h]
theorem tailR_start {d : List Int} {N most : Int} (h : ¬ most < N) (h1 : startE 528 d ≠ 0) : tailR d N most = ([], 2) := by unfold tailR; rw [if_neg h, if_pos h1]
theorem tailR_none {d : List Int} {N most : Int} (h : ¬ most < N) (h1 : startE 528 d = 0) (h2 : toksR d N N.toNat 0 (startR 528 d) [] = none) : tailR d N most = ([], 2) := by unfold tailR; rw [if_neg h, if_neg (by rw [h1]; simp), h2]
theorem tailR_some {d : List Int} {N most : Int} (h : ¬ most < N) (h1 : startE 528 d = 0) {l : List Tok} {r : Rdr} (h2 : toksR d N N.toNat 0 (startR 528 d) [] = some (l, r)) : tailR d N most = if okL 0 l && decide (sumT l ≤ N) && decide (r.used = d.length) then (textF [] l, 0) else ([], 2) := by unfold tailR; rw [if_neg h, if_neg (by rw [h1]; simp), h2]

section
variable (lo : Nat) (v : Value) (t : List Int) (most : Int) (w : World) (hv : Os lo w.heap.size w v t) (ht : okB t) (hl : t.length ≤ 1000000)
/-- What Unpack answers, and where. -/
def UnpackOut (t : List Int) (most : Int) (w : World) (e : Ending) (w' : World) : Prop :=
  ∃ A n c, e = .returned (.tuple #[.slice A n c, .int .i64 (unpackR t most).2]) ∧ w'.ownsRow w.heap.size 5 1 (.slice A n c) n ((unpackR t most).1.map M.u8v) ∧ Below w.heap.size w w'
theorem UnpackOut.bad {t : List Int} {most : Int} {w w' : World} {er : Int} {e : Ending} (h : unpackR t most = ([], er)) (he : e = .returned (.tuple #[.slice none 0 0, .int .i64 er])) (hb : Below w.heap.size w w') : UnpackOut t most w e w' := by
  unfold UnpackOut
  rw [h]
  exact ⟨none, 0, 0, he, World.ownsRow_nil _ _ _ _, hb⟩

set_option maxHeartbeats 1000000 in
include hv ht hl in
theorem Unpack_any : Calls Try.prog 18 #[v, .int .i64 most] w (UnpackOut t most w) := by
  have hL := fun (W : World) (h : Os lo W.heap.size W v t) => Long_any lo v t W h ht
  by_cases h0 : most < 0
  · have hr : unpackR t most = ([], 1) := by unfold unpackR; rw [if_pos h0]
    replace hr := hide hr
    clear hL hv
    go_enter Try.func18, Try.ntmps18
    go_wp2_with fail
    go_ret2
    exact UnpackOut.bad (unhide hr) rfl (Below.refl _ _)
  by_cases h9 : (longR t).2 = 0
  · have hlen : ¬ (t.length < 9 ∨ 65536 < longN t) := fun h => by
      unfold longR at h9; rw [if_pos h] at h9; exact absurd h9 (by simp)
    have hL9 : 9 ≤ t.length := by omega
    have hN1 : longN t ≤ 65536 := by omega
    have hN0 : 0 ≤ longN t := by
      rw [longN_get (by omega)]
      have a0 := ht t[0] (List.getElem_mem _); have a1 := ht t[1] (List.getElem_mem _); have a2 := ht t[2] (List.getElem_mem _); have a3 := ht t[3] (List.getElem_mem _)
      omega
    have e2 : longR t = (longN t, 0) := by unfold longR; rw [if_neg hlen]
    rw [e2] at hL
    simp only [] at hL
    have hU := unpackR_tail h0 h9
    obtain ⟨A, c, rfl, x1, x2, x3⟩ := hv.open
    obtain ⟨b, off, rfl, xx⟩ := x3 0 (by omega)
    clear xx
    have hD := fun (W : World) (h : Os lo W.heap.size W (.slice (some ⟨b, off, none⟩) t.length c) t) => os_drop h 4 (by omega)
    have hsl := fun W => slice_l23 (some ⟨b, off, none⟩) t.length c 4 (by omega) W
    unfold sliced at hsl
    rw [if_neg (by omega)] at hsl
    have htd : okB (t.drop 4) := fun x hx => ht x (List.mem_of_mem_drop hx)
    have hdl : (t.drop 4).length ≤ 1000000 := by rw [List.length_drop]; omega
    have hBad := fun (W : World) (h : Os lo W.heap.size W (.slice (some ⟨b, off + 4, none⟩) (t.length - 4) (c - 4)) (t.drop 4)) (k : startE 528 (t.drop 4) ≠ 0) => readAll_bad lo _ (t.drop 4) (longN t) W h htd k
    have hNone := fun (hx : toksR (t.drop 4) (longN t) (longN t).toNat 0 (startR 528 (t.drop 4)) [] = none) (W : World) (h : Os lo W.heap.size W (.slice (some ⟨b, off + 4, none⟩) (t.length - 4) (c - 4)) (t.drop 4)) (k : startE 528 (t.drop 4) = 0) => readAll_none lo _ (t.drop 4) (longN t) hx W h htd hdl k hN0 hN1
    have hSome := fun (l : List Tok) (r' : Rdr) (hx : toksR (t.drop 4) (longN t) (longN t).toNat 0 (startR 528 (t.drop 4)) [] = some (l, r')) (W : World) (h : Os lo W.heap.size W (.slice (some ⟨b, off + 4, none⟩) (t.length - 4) (c - 4)) (t.drop 4)) (k : startE 528 (t.drop 4) = 0) => readAll_some lo _ (t.drop 4) (longN t) l r' hx W h htd hdl k hN0 hN1
    have hT9 : (9 : Int) ≤ (t.length : Int) := by omega
    clear x3 e2 hlen h9
    generalize t.drop 4 = d at *
    generalize longN t = N at *
    clear htd hdl
    replace hL := hide hL; replace hD := hide hD; replace hv := hide hv; replace hN0 := hide hN0; replace hN1 := hide hN1
    by_cases h3 : most < N
    · rw [tailR_long h3] at hU
      replace hU := hide hU
      clear hBad hNone hSome
      go_enter Try.func18, Try.ntmps18
      go_wp2_with (first
        | (go_at_call 14; refine (unhide hL _ (unhide hv)).mono ?_; rintro e w1 ⟨rfl, hb1⟩)
        | fail)
      go_ret2
      exact UnpackOut.bad (unhide hU) rfl hb1
    by_cases hst : startE 528 d = 0
    · clear hBad
      cases hx : toksR d N N.toNat 0 (startR 528 d) [] with
      | none =>
        have hA := fun W h => hNone hx W h hst
        rw [tailR_none h3 hst hx] at hU
        replace hA := hide hA; replace hU := hide hU
        clear hSome hNone hx hst
        go_enter Try.func18, Try.ntmps18
        go_wp2_with (first
          | (go_at_call 14; refine (unhide hL _ (unhide hv)).mono ?_; rintro e w1 ⟨rfl, hb1⟩; have v1 := hide (unhide hD _ ((unhide hv).grow hb1)); replace hb1 := hide hb1)
          | (go_at_call 31; refine (unhide hA _ (unhide v1)).mono ?_; rintro e w2 ⟨rfl, hb2⟩)
          | fail)
        go_ret2
        exact UnpackOut.bad (unhide hU) rfl (bl_call (unhide hb1) hb2)
      | some x =>
        obtain ⟨l, r'⟩ := x
        have hA := fun W h => hSome l r' hx W h hst
        rw [tailR_some h3 hst hx] at hU
        obtain ⟨er, ht1, ht2⟩ := textR_is (l := l) (unhide hN0) (unhide hN1)
        have hTx := fun (v : Value) (W : World) (lo : Nat) (k : M.Tks lo W.heap.size W v l) => M.Text_any lo v l N _ er W k ht1
        by_cases hus : r'.used = d.length
        · have hd1 : decide (r'.used = d.length) = true := decide_eq_true hus
          rw [hd1] at hA hU
          rw [Bool.and_true] at hU
          clear hSome hNone hx hst
          by_cases her : er = 0
          · rw [ht2.1 her] at hTx hU
            subst her
            simp only [if_true] at hTx hU
            replace hA := hide hA; replace hU := hide hU; replace hTx := hide hTx
            clear ht1 ht2 hus hd1
            go_enter Try.func18, Try.ntmps18
            go_wp2_with (first
              | (go_at_call 14; refine (unhide hL _ (unhide hv)).mono ?_; rintro e w1 ⟨rfl, hb1⟩; have v1 := hide (unhide hD _ ((unhide hv).grow hb1)); replace hb1 := hide hb1)
              | (go_at_call 31; refine (unhide hA _ (unhide v1)).mono ?_; rintro e w2 ⟨A2, c2, rfl, o2, hb2⟩; have t2 := hide (M.Tks.own o2); clear o2; replace hb2 := hide (bl_call (unhide hb1) hb2))
              | (go_at_call 32; refine (unhide hTx _ _ _ (unhide t2)).mono ?_; rintro e w3 ⟨A3, n3, c3, rfl, o3, hb3⟩)
              | fail)
            go_ret2
            unfold UnpackOut
            rw [unhide hU]
            exact ⟨_, _, _, rfl, ownsRow_mono o3 (unhide hb2).size, bl_call (unhide hb2) hb3⟩
          · have hc : (okL 0 l && decide (sumT l ≤ N)) = false := by
              cases hh : okL 0 l && decide (sumT l ≤ N) with
              | false => rfl
              | true => exact absurd (ht2.2 hh) her
            rw [hc] at hTx hU
            have her' : (er == 0) = false := by simpa using her
            simp only [Bool.false_eq_true, if_false] at hTx hU
            replace hA := hide hA; replace hU := hide hU; replace hTx := hide hTx
            clear ht1 ht2 hus hd1 hc
            go_enter Try.func18, Try.ntmps18
            go_wp2_with (first
              | (go_at_call 14; refine (unhide hL _ (unhide hv)).mono ?_; rintro e w1 ⟨rfl, hb1⟩; have v1 := hide (unhide hD _ ((unhide hv).grow hb1)); replace hb1 := hide hb1)
              | (go_at_call 31; refine (unhide hA _ (unhide v1)).mono ?_; rintro e w2 ⟨A2, c2, rfl, o2, hb2⟩; have t2 := hide (M.Tks.own o2); clear o2; replace hb2 := hide (bl_call (unhide hb1) hb2))
              | (go_at_call 32; refine (unhide hTx _ _ _ (unhide t2)).mono ?_; rintro e w3 ⟨A3, n3, c3, rfl, o3, hb3⟩)
              | fail)
            go_ret2
            exact UnpackOut.bad (unhide hU) rfl (bl_call (unhide hb2) hb3)
        · have hd1 : decide (r'.used = d.length) = false := decide_eq_false hus
          rw [hd1] at hA hU
          rw [Bool.and_false] at hU
          simp only [Bool.false_eq_true, if_false] at hU
          replace hA := hide hA; replace hU := hide hU
          clear hSome hNone hx hst hTx ht1 ht2 hus hd1
          go_enter Try.func18, Try.ntmps18
          go_wp2_with (first
            | (go_at_call 14; refine (unhide hL _ (unhide hv)).mono ?_; rintro e w1 ⟨rfl, hb1⟩; have v1 := hide (unhide hD _ ((unhide hv).grow hb1)); replace hb1 := hide hb1)
            | (go_at_call 31; refine (unhide hA _ (unhide v1)).mono ?_; rintro e w2 ⟨A2, c2, rfl, _, hb2⟩)
            | fail)
          go_ret2
          exact UnpackOut.bad (unhide hU) rfl (bl_call (unhide hb1) hb2)
    · rw [tailR_start h3 hst] at hU
      have hA := fun W h => hBad W h hst
      replace hA := hide hA; replace hU := hide hU
      clear hSome hNone hBad hst
      go_enter Try.func18, Try.ntmps18
      go_wp2_with (first
        | (go_at_call 14; refine (unhide hL _ (unhide hv)).mono ?_; rintro e w1 ⟨rfl, hb1⟩; have v1 := hide (unhide hD _ ((unhide hv).grow hb1)); replace hb1 := hide hb1)
        | (go_at_call 31; refine (unhide hA _ (unhide v1)).mono ?_; rintro e w2 ⟨rfl, hb2⟩)
        | fail)
      go_ret2
      exact UnpackOut.bad (unhide hU) rfl (bl_call (unhide hb1) hb2)
  · have hr : unpackR t most = ([], 2) := by unfold unpackR; rw [if_neg h0, if_pos h9]
    have e2 : longR t = (0, 2) := by
      unfold longR at h9 ⊢
      split
      · rfl
      · rename_i h; rw [if_neg h] at h9; exact absurd rfl h9
    rw [e2] at hL
    replace hL := hide hL; replace hr := hide hr; replace hv := hide hv
    clear h9 e2
    go_enter Try.func18, Try.ntmps18
    go_wp2_with (first
      | (go_at_call 14; refine (unhide hL _ (unhide hv)).mono ?_; rintro e w1 ⟨rfl, hb1⟩)
      | fail)
    go_ret2
    exact UnpackOut.bad (unhide hr) rfl hb1
end
end Go.Proofs.Ytfihgjdppkiolaa
