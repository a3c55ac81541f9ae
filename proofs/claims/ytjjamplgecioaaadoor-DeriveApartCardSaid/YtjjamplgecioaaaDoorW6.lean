import Derived.Test.YtjjamplgecioaaaDoorW5
namespace Go.Proofs.YtjjamplgecioaaaDoor
open Go.RowKit

theorem u32_lit {k : Nat} (h : k < 4294967296) : Value.int .u32 (k : Int) = u32v (BitVec.ofNat 32 k) := by rw [n32_lit k h]
theorem unrs_last (k : Nat) (s : St) : unrs (k + 1) s = unrs k (unr k s) := rfl
/-- The last 'j' of eight rounds taken back. -/
def unl : Nat → St → St
  | 0, s => s
  | j + 1, s => unr (7 - j) (unl j s)
theorem unl_unrs (j : Nat) (h : j ≤ 8) (s : St) : unrs (8 - j) (unl j s) = unrs 8 s := by
  induction j with
  | zero => rfl
  | succ j ih =>
    rw [← ih (by omega), unl]
    have e : 8 - j = (8 - (j + 1)) + 1 := by omega
    rw [e, unrs]
    have e2 : 8 - (j + 1) = 7 - j := by omega
    rw [e2]
theorem unl_back (s : St) : unl 8 s = backF s := unl_unrs 8 (Nat.le_refl _) s

set_option maxHeartbeats 1000000 in
theorem perm_any (s : St) (w : World) (ht : Tab w) : Calls Tryd.prog 20 #[stV s] w fun e w' => e = .returned (stV (permF s)) ∧ Below w.heap.size w w' := by
  have hr := fun (k : Nat) (hk : k < 8) (S : St) W (hb : Below w.heap.size w W) => show Calls Tryd.prog 24 #[stV S, .int .u32 ((k : Nat) : Int)] W _ by rw [u32_lit (by omega)]; exact round_any S k W (ht.below hb (Nat.le_refl _))
  have hb : Below w.heap.size w ((w.alloc (.cells (stC s) 24)).alloc (.cells zC 24)) := bl_alloc (bl_alloc (Below.refl _ _) _) _
  have hB : Blk ((w.alloc (.cells (stC s) 24)).alloc (.cells zC 24)) w.heap.size 24 (stC (rnds 0 s)) := Blk.alloc (Blk.new rfl) _
  have hZ : Blk ((w.alloc (.cells (stC s) 24)).alloc (.cells zC 24)) (w.heap.size + 1) 24 zC := Blk.new (by simp)
  replace hZ := hide hZ; replace hB := hide hB; replace hb := hide hb; replace hr := hide hr
  go_enter Tryd.func20, Tryd.ntmps20
  go_upto_region 1 with (fail)
  generalize hW : World.alloc (World.alloc w _) _ = W at *
  clear hW
  go_wp2
  go_loopw [4] (fun i wr => ∃ k : Nat, k ≤ 8 ∧ i = .int .u32 k ∧ Hid (Blk wr w.heap.size 24 (stC (rnds k s))) ∧ Hid (Blk wr (w.heap.size + 1) 24 zC) ∧ Hid (Below w.heap.size w wr)) (fun i _ => 8 - (intOf i).toNat)
  case atStart => exact ⟨0, by omega, rfl, hB, hZ, hb⟩
  case round =>
    obtain ⟨k, hk, rfl, B0, B1, b⟩ := hrel
    by_cases hlt : k < 8
    · have hcall := unhide hr k hlt (rnds k s) wr (unhide b)
      have l0 := (unhide B0).lt
      have l1 := (unhide B1).lt
      have hn : rnd k (rnds k s) = rnds (k + 1) s := rfl
      have k1 : (k : Int) < 8 := by omega
      have k2 : (0 : Int) ≤ (k : Int) := by omega
      skip
      replace hn := hide hn
      generalize rnds k s = S at *
      generalize hS' : rnd k S = S' at *
      clear hS'
      replace hcall := hide hcall
      go_wp2_with (first
        | (refine wpList_load_row rfl 24 (.tmp 1) rfl w.heap.size rfl 24 (stC S) (0, 0) _ (unhide B0) Tryd.underlying24 rfl size24 ?_)
        | (go_at_call 24; refine (unhide hcall).mono ?_; rintro e w1 ⟨rfl, hb1⟩; have C0 := Blk.below (unhide B0) hb1 l0; have C1 := Blk.below (unhide B1) hb1 l1; have bb := bl_call (unhide b) hb1; replace C0 := hide C0; replace C1 := hide C1; replace bb := hide bb)
        | (refine wpList_store_row rfl 24 (.tmp 1) (.tmp 9) rfl w.heap.size (stC S') rfl rfl 24 (stC S) (unhide C0) size24 rfl (stC_one _) ?_)
        | fail)
      have D0 := (unhide C0).row (stC S')
      have D1 := (unhide C1).row_other (g' := w.heap.size) (stC S') (by omega)
      have db := bl_row (g := w.heap.size) (unhide bb) (stC S') (Nat.le_refl _)
      rw [unhide hn] at D0 D1 db ⊢
      go_roundw
      case rel => exact ⟨k + 1, by omega, by go_num, D0, D1, db⟩
      case measure => simp [intOf]; omega
    · obtain rfl : k = 8 := by omega
      have hs : rnds 8 s = permF s := rfl
      rw [hs] at B0
      clear hs
      obtain ⟨S, hS⟩ : ∃ S, S = permF s := ⟨_, rfl⟩
      rw [← hS] at B0
      replace hS := hide hS
      go_wp2_with (first
        | (refine wpList_load_row rfl 24 (.tmp 1) rfl w.heap.size rfl 24 (stC S) (0, 0) _ (unhide B0) Tryd.underlying24 rfl size24 ?_)
        | (refine wpList_store_row rfl 24 (.tmp 2) (.tmp 11) rfl (w.heap.size + 1) (stC S) rfl rfl 24 zC (unhide B1) size24 rfl (stC_one _) ?_)
        | fail)
      exact bodyPost_ret (v := stV _) (results_cell_row Tryd.results20 _ _ _ _ _ (0, 0) _ rfl ((unhide B1).row _) Tryd.underlying24 rfl size24) rfl ⟨by rw [unhide hS], bl_row (unhide b) _ (by omega)⟩

set_option maxHeartbeats 1000000 in
theorem permR_any (s : St) (w : World) : Calls Tryd.prog 21 #[stV s] w fun e w' => e = .returned (stV (permF s)) ∧ Below w.heap.size w w' := by
  have hr := fun (k : Nat) (hk : k < 8) (S : St) W (hb : Below w.heap.size w W) => show Calls Tryd.prog 25 #[stV S, .int .u32 ((k : Nat) : Int)] W _ by rw [u32_lit (by omega)]; exact roundR_any S k W
  have hb : Below w.heap.size w ((w.alloc (.cells (stC s) 24)).alloc (.cells zC 24)) := bl_alloc (bl_alloc (Below.refl _ _) _) _
  have hB : Blk ((w.alloc (.cells (stC s) 24)).alloc (.cells zC 24)) w.heap.size 24 (stC (rnds 0 s)) := Blk.alloc (Blk.new rfl) _
  have hZ : Blk ((w.alloc (.cells (stC s) 24)).alloc (.cells zC 24)) (w.heap.size + 1) 24 zC := Blk.new (by simp)
  replace hZ := hide hZ; replace hB := hide hB; replace hb := hide hb; replace hr := hide hr
  go_enter Tryd.func21, Tryd.ntmps21
  go_upto_region 1 with (fail)
  generalize hW : World.alloc (World.alloc w _) _ = W at *
  clear hW
  go_wp2
  go_loopw [4] (fun i wr => ∃ k : Nat, k ≤ 8 ∧ i = .int .i64 k ∧ Hid (Blk wr w.heap.size 24 (stC (rnds k s))) ∧ Hid (Blk wr (w.heap.size + 1) 24 zC) ∧ Hid (Below w.heap.size w wr)) (fun i _ => 8 - (intOf i).toNat)
  case atStart => exact ⟨0, by omega, rfl, hB, hZ, hb⟩
  case round =>
    obtain ⟨k, hk, rfl, B0, B1, b⟩ := hrel
    by_cases hlt : k < 8
    · have hcall := unhide hr k hlt (rnds k s) wr (unhide b)
      have l0 := (unhide B0).lt
      have l1 := (unhide B1).lt
      have hn : rnd k (rnds k s) = rnds (k + 1) s := rfl
      have k1 : (k : Int) < 8 := by omega
      have k2 : (0 : Int) ≤ (k : Int) := by omega
      skip
      replace hn := hide hn
      generalize rnds k s = S at *
      generalize hS' : rnd k S = S' at *
      clear hS'
      replace hcall := hide hcall
      go_wp2_with (first
        | (refine wpList_load_row rfl 24 (.tmp 1) rfl w.heap.size rfl 24 (stC S) (0, 0) _ (unhide B0) Tryd.underlying24 rfl size24 ?_)
        | (go_at_call 25; refine (unhide hcall).mono ?_; rintro e w1 ⟨rfl, hb1⟩; have C0 := Blk.below (unhide B0) hb1 l0; have C1 := Blk.below (unhide B1) hb1 l1; have bb := bl_call (unhide b) hb1; replace C0 := hide C0; replace C1 := hide C1; replace bb := hide bb)
        | (refine wpList_store_row rfl 24 (.tmp 1) (.tmp 10) rfl w.heap.size (stC S') rfl rfl 24 (stC S) (unhide C0) size24 rfl (stC_one _) ?_)
        | fail)
      have D0 := (unhide C0).row (stC S')
      have D1 := (unhide C1).row_other (g' := w.heap.size) (stC S') (by omega)
      have db := bl_row (g := w.heap.size) (unhide bb) (stC S') (Nat.le_refl _)
      rw [unhide hn] at D0 D1 db ⊢
      go_roundw
      case rel => exact ⟨k + 1, by omega, by go_num, D0, D1, db⟩
      case measure => simp [intOf]; omega
    · obtain rfl : k = 8 := by omega
      have hs : rnds 8 s = permF s := rfl
      rw [hs] at B0
      clear hs
      obtain ⟨S, hS⟩ : ∃ S, S = permF s := ⟨_, rfl⟩
      rw [← hS] at B0
      replace hS := hide hS
      go_wp2_with (first
        | (refine wpList_load_row rfl 24 (.tmp 1) rfl w.heap.size rfl 24 (stC S) (0, 0) _ (unhide B0) Tryd.underlying24 rfl size24 ?_)
        | (refine wpList_store_row rfl 24 (.tmp 2) (.tmp 12) rfl (w.heap.size + 1) (stC S) rfl rfl 24 zC (unhide B1) size24 rfl (stC_one _) ?_)
        | fail)
      exact bodyPost_ret (v := stV _) (results_cell_row Tryd.results21 _ _ _ _ _ (0, 0) _ rfl ((unhide B1).row _) Tryd.underlying24 rfl size24) rfl ⟨by rw [unhide hS], bl_row (unhide b) _ (by omega)⟩

end Go.Proofs.YtjjamplgecioaaaDoor
