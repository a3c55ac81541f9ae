import Derived.Test.YtfihgjdppkiolaaP31
namespace Go.Proofs.Ytfihgjdppkiolaa
set_option maxRecDepth 100000
open Go.RowKit

set_option maxHeartbeats 2000000 in
theorem takes_any (lo : Nat) (v : Value) (b : List UInt8) (most : Int) (w : World) (h : M.Bs lo w.heap.size w v b) :
    Calls Try.prog 4 #[v, .int .i64 most] w fun e w' => e = .returned (.bool true) ∧ Below w.heap.size w w' := by
  have ht := octs_ok b
  have hL := fun W => live_any W
  have hLg := fun (W : World) (k : M.Bs lo W.heap.size W v b) => Long_any lo v (octs b) W (os_of k) ht
  obtain ⟨⟨bs, er⟩, hbe⟩ : ∃ X : List UInt8 × Int, unpackR (octs b) most = X := ⟨_, rfl⟩
  have hU := fun (hl : b.length ≤ 120) (W : World) (k : M.Bs lo W.heap.size W v b) => Unpack_is lo (octs b) most ht (by rw [octs_len]; omega) bs er hbe v W (os_of k)
  have hRU := fun (hl : b.length ≤ 120) (W : World) (k : M.Bs lo W.heap.size W v b) => refUnpack_is lo (octs b) most ht (by rw [octs_len]; omega) bs er hbe v W (os_of k)
  have hS := fun (v1 v2 : Value) (lo1 hi1 lo2 hi2 : Nat) (W : World) (k1 : M.Bs lo1 hi1 W v1 bs) (k2 : M.Bs lo2 hi2 W v2 bs) => M.sameb_any lo1 hi1 lo2 hi2 v1 v2 bs bs W k1 k2
  rw [decide_eq_true (rfl : bs = bs)] at hS
  have herr := longR_err (octs b)
  have hcv := fun (W : World) (k : M.Bs lo W.heap.size W v b) => M.Bs.convert k
  generalize longR (octs b) = NE at *
  obtain ⟨N, E⟩ := NE
  simp only [] at hLg herr
  have hv := h
  obtain ⟨A, c, rfl, x1, x2, _⟩ := h.open
  clear h hbe
  generalize b.length = m at *
  obtain ⟨nb, hnb⟩ : ∃ nb, nb = bs.length := ⟨_, rfl⟩
  rw [← hnb] at hU hRU
  clear hnb
  replace hL := hide hL; replace hLg := hide hLg; replace hv := hide hv; replace hS := hide hS; replace hcv := hide hcv
  by_cases hg : 120 < m
  · have hg' : (120 : Int) < (m : Int) := by omega
    clear herr hU hRU
    go_enter Try.func4, Try.ntmps4
    go_wp2_with (first
      | (go_at_call 9; refine (unhide hL _).mono ?_; rintro e w1 ⟨rfl, hb1⟩; have v1 := hide ((unhide hv).grow hb1); replace hb1 := hide hb1)
      | (go_at_call 14; refine (unhide hLg _ (unhide v1)).mono ?_; rintro e w2 ⟨rfl, hb2⟩; have v2 := hide ((unhide v1).grow hb2); replace hb2 := hide (bl_call (unhide hb1) hb2))
      | fail)
    go_ret
    exact ⟨rfl, unhide hb2⟩
  have hA := hU (by omega)
  have hR := hRU (by omega)
  have hm3 : ¬ (120 : Int) < (m : Int) := by omega
  replace hA := hide hA; replace hR := hide hR
  clear hU hRU hg
  by_cases hE : E = 0 ∧ 400 < N
  · obtain ⟨rfl, hN⟩ := hE
    clear herr
    go_enter Try.func4, Try.ntmps4
    go_wp2_with (first
      | (go_at_call 9; refine (unhide hL _).mono ?_; rintro e w1 ⟨rfl, hb1⟩; have v1 := hide ((unhide hv).grow hb1); replace hb1 := hide hb1)
      | (go_at_call 14; refine (unhide hLg _ (unhide v1)).mono ?_; rintro e w2 ⟨rfl, hb2⟩; have v2 := hide ((unhide v1).grow hb2); replace hb2 := hide (bl_call (unhide hb1) hb2))
      | fail)
    go_ret
    exact ⟨rfl, unhide hb2⟩
  have hE' : (E = 0 ∧ ¬ 400 < N) ∨ E = 2 := by omega
  clear hE herr
  rcases hE' with ⟨rfl, hN⟩ | rfl
  all_goals
    go_enter Try.func4, Try.ntmps4
    go_wp2_with (first
      | (go_at_call 9; refine (unhide hL _).mono ?_; rintro e w1 ⟨rfl, hb1⟩; have v1 := hide ((unhide hv).grow hb1); replace hb1 := hide hb1)
      | (go_at_call 14; refine (unhide hLg _ (unhide v1)).mono ?_; rintro e w2 ⟨rfl, hb2⟩; have v2 := hide ((unhide v1).grow hb2); replace hb2 := hide (bl_call (unhide hb1) hb2); have cv1 := unhide hcv _ (unhide v2))
      | (go_at_call 18; refine (unhide hA _ (unhide v2)).mono ?_; rintro e w3 ⟨A3, c3, rfl, o3, hb3⟩; have v3 := hide ((unhide v2).grow hb3); replace hb3 := hide (bl_call (unhide hb2) hb3); have q3 := hide (M.Bs.own o3); clear o3 cv1)
      | (go_at_call 19; refine (unhide hR _ (unhide v3)).mono ?_; rintro e w4 ⟨A4, c4, rfl, o4, hb4⟩; have v4 := hide ((unhide v3).grow hb4); have p4 := hide ((unhide q3).grow hb4); replace hb4 := hide (bl_call (unhide hb3) hb4); have q4 := hide (M.Bs.own o4); have cv2 := unhide hcv _ (unhide v4); clear o4)
      | (go_at_call 17; refine (unhide hS _ _ _ _ _ _ _ (unhide p4) (unhide q4)).mono ?_; rintro e w5 ⟨rfl, rfl⟩)
      | fail)
    go_ret
    exact ⟨rfl, unhide hb4⟩
end Go.Proofs.Ytfihgjdppkiolaa
