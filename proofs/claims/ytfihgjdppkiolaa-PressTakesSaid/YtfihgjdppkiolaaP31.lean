import Derived.Test.YtfihgjdppkiolaaP30
import Derived.Test.YtfihgjdppkiolaaP17
namespace Go.Proofs.Ytfihgjdppkiolaa
set_option maxRecDepth 100000
open Go.RowKit

set_option maxHeartbeats 2000000 in
theorem refUnpack_any (lo : Nat) (v : Value) (t : List Int) (most : Int) (w : World) (hv : Os lo w.heap.size w v t) (ht : okB t) (hl : t.length ≤ 1000000) :
    Calls Try.prog 19 #[v, .int .i64 most] w (UnpackOut t most w) := by
  have hL := fun (W : World) (h : Os lo W.heap.size W v t) => refLong_any lo v t W h ht
  by_cases h0 : most < 0
  · have hr : unpackR t most = ([], 1) := by unfold unpackR; rw [if_pos h0]
    replace hr := hide hr
    clear hL hv
    go_enter Try.func19, Try.ntmps19
    go_wp2_with fail
    go_ret2
    exact UnpackOut.bad (unhide hr) rfl (Below.refl _ _)
  by_cases h9 : (longR t).2 = 0
  · have hlen : ¬ (t.length < 9 ∨ 65536 < longN t) := fun h => by
      unfold longR at h9; rw [if_pos h] at h9; exact absurd h9 (by simp)
    have hL9 : 9 ≤ t.length := by omega
    have hN1 : longN t ≤ 65536 := by omega
    have hN0 : 0 ≤ longN t := by
      rw [longN_get (by omega)]
      have a0 := ht t[0] (List.getElem_mem _); have a1 := ht t[1] (List.getElem_mem _); have a2 := ht t[2] (List.getElem_mem _); have a3 := ht t[3] (List.getElem_mem _)
      omega
    have e2 : longR t = (longN t, 0) := by unfold longR; rw [if_neg hlen]
    have hU := unpackR_tail h0 h9
    have hv2 := hv
    obtain ⟨A, c, rfl, x1, x2, x3⟩ := hv.open
    obtain ⟨b, off, rfl, xx⟩ := x3 0 (by omega)
    clear xx x3
    by_cases h3 : most < longN t
    · rw [tailR_long h3] at hU
      rw [e2] at hL
      simp only [] at hL
      generalize longN t = N at *
      clear e2 hlen h9 hL9
      replace hL := hide hL; replace hU := hide hU; replace hv2 := hide hv2
      clear hv hN0 hN1
      go_enter Try.func19, Try.ntmps19
      go_wp2_with (first
        | (go_at_call 15; refine (unhide hL _ (unhide hv2)).mono ?_; rintro e w1 ⟨rfl, hb1⟩)
        | fail)
      go_ret2
      exact UnpackOut.bad (unhide hU) rfl hb1
    by_cases hst : startE 528 (t.drop 4) = 0
    · exact refUnpack_main lo b off c t most (longN t) w hv ht hl h0 e2 hL9 hN0 hN1 h3 hst hU
    · rw [tailR_start h3 hst] at hU
      have hD := fun (W : World) (h : Os lo W.heap.size W (.slice (some ⟨b, off, none⟩) t.length c) t) => os_drop h 4 (by omega)
      have hsl := fun W => slice_l23 (some ⟨b, off, none⟩) t.length c 4 (by omega) W
      unfold sliced at hsl
      rw [if_neg (by omega)] at hsl
      have htd : okB (t.drop 4) := fun x hx => ht x (List.mem_of_mem_drop hx)
      have hB := fun (W : World) (h : Os lo W.heap.size W (.slice (some ⟨b, off + 4, none⟩) (t.length - 4) (c - 4)) (t.drop 4)) => refStart_bad 528 lo _ (t.drop 4) W h htd hst
      have hst' : (startE 528 (t.drop 4) == 0) = false := by simpa using hst
      rw [e2] at hL
      simp only [] at hL
      have hc4 : ¬ c = 4 := by omega
      have hT9 : (9 : Int) ≤ (t.length : Int) := by omega
      have hcI : (t.length : Int) ≤ (c : Int) := by omega
      clear e2 hlen h9 hst htd
      generalize startE 528 (t.drop 4) = er at *
      generalize t.drop 4 = d at *
      generalize longN t = N at *
      replace hL := hide hL; replace hU := hide hU; replace hv2 := hide hv2; replace hD := hide hD; replace hB := hide hB
      clear hv ht hL9 hN0 hN1 hl
      go_enter Try.func19, Try.ntmps19
      go_wp2_with (first
        | (go_at_call 15; refine (unhide hL _ (unhide hv2)).mono ?_; rintro e w1 ⟨rfl, hb1⟩; have v1 := hide (unhide hD _ ((unhide hv2).grow hb1)); replace hb1 := hide hb1)
        | (go_at_call 33; refine (unhide hB _ (unhide v1)).mono ?_; rintro e w2 ⟨rfl, hb2⟩)
        | fail)
      go_ret2
      exact UnpackOut.bad (unhide hU) rfl (bl_alloc (bl_call (unhide hb1) hb2) _)
  · have hr : unpackR t most = ([], 2) := by unfold unpackR; rw [if_neg h0, if_pos h9]
    have e2 : longR t = (0, 2) := by
      unfold longR at h9 ⊢
      split
      · rfl
      · rename_i h; rw [if_neg h] at h9; exact absurd rfl h9
    rw [e2] at hL
    replace hL := hide hL; replace hr := hide hr; replace hv := hide hv
    clear h9 e2
    go_enter Try.func19, Try.ntmps19
    go_wp2_with (first
      | (go_at_call 15; refine (unhide hL _ (unhide hv)).mono ?_; rintro e w1 ⟨rfl, hb1⟩)
      | fail)
    go_ret2
    exact UnpackOut.bad (unhide hr) rfl hb1
theorem refUnpack_is (lo : Nat) (t : List Int) (most : Int) (ht : okB t) (hl : t.length ≤ 1000000) (bs : List UInt8) (er : Int) (hu : unpackR t most = (bs, er)) (v : Value) (w : World) (hv : Os lo w.heap.size w v t) :
    Calls Try.prog 19 #[v, .int .i64 most] w fun e w' => ∃ A c, e = .returned (.tuple #[.slice A bs.length c, .int .i64 er]) ∧ w'.ownsRow w.heap.size 5 1 (.slice A bs.length c) bs.length (bs.map M.u8v) ∧ Below w.heap.size w w' :=
  (refUnpack_any lo v t most w hv ht hl).mono fun e w' ⟨A, n, c, h1, h2, h3⟩ => by
    rw [hu] at h1 h2
    have hn : n = bs.length := by have := ownsRow_len h2; simp at this; omega
    subst hn
    exact ⟨A, c, h1, h2, h3⟩
end Go.Proofs.Ytfihgjdppkiolaa
