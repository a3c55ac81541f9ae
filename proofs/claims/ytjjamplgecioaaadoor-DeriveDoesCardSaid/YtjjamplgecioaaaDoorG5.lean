import Derived.Test.YtjjamplgecioaaaDoorG4
namespace Go.Proofs.YtjjamplgecioaaaDoor
open Go.RowKit

/-- Go, in one. -/
theorem go_any (s : St) (v : Value) (a : List UInt8) (z : Int) (w W : World) (ht : Tab w) (h1 : Bs 0 w.heap.size w v a) (hb : Below w.heap.size w W) :
    Calls Tryd.prog 11 #[stV s, v, .int .i64 z] W fun e w' => e = .returned (.tuple #[stV (goE s a z).1, .int .i64 ((goE s a z).2 : Nat)]) ∧ Below W.heap.size W w' := by
  by_cases h : 64 < a.length
  · rw [goE_long h]; exact go_long s v a z W (h1.at hb) h
  · by_cases hz : z < 0 ∨ 4096 < z
    · rw [goE_arg (by omega) hz]; exact go_arg s v a z W (h1.at hb) (by omega) hz
    · obtain ⟨n, rfl⟩ : ∃ n : Nat, z = n := ⟨z.toNat, by omega⟩
      rw [goE_good (by omega) rfl (by omega)]
      exact go_good s v a n W (ht.below hb (Nat.le_refl _)) (h1.at hb) (by omega) (by omega)

set_option maxHeartbeats 400000 in
theorem goR_long (s : St) (v : Value) (a : List UInt8) (z : Int) (w : World) (h1 : Bs 0 w.heap.size w v a) (hl : 64 < a.length) :
    Calls Tryd.prog 12 #[stV s, v, .int .i64 z] w fun e w' => e = .returned (.tuple #[stV zS, .int .i64 3]) ∧ Below w.heap.size w w' := by
  obtain ⟨A, c, rfl⟩ := h1.form
  have F1 : Fx w ((w.alloc (.cells (stC s) 24)).alloc (.cells zC 24)) [(w.heap.size + 1, zC)] := ((Fx.nil w).alloc _).newB _ (by simp) _
  have k1 : (64 : Int) < (a.length : Int) := by omega
  replace F1 := hide F1
  clear hl h1
  generalize a.length = n at *
  go_enter Tryd.func12, Tryd.ntmps12
  go_wp2_with (first
    | (refine wpList_store_row rfl 24 (.tmp 6) (.tmp 11) rfl (w.heap.size + 1) zC rfl rfl 24 zC ((unhide F1).get 0 rfl) size24 rfl (stC_one zS) ?_)
    | fail)
  exact ret_st2 rfl (w.heap.size + 1) zS _ rfl rfl (((unhide F1).get 0 rfl).row _) rfl ⟨rfl, bl_row (unhide F1).bl _ (by omega)⟩

set_option maxHeartbeats 400000 in
theorem goR_arg (s : St) (v : Value) (a : List UInt8) (z : Int) (w : World) (h1 : Bs 0 w.heap.size w v a) (hl : a.length ≤ 64) (hz : z < 0 ∨ 4096 < z) :
    Calls Tryd.prog 12 #[stV s, v, .int .i64 z] w fun e w' => e = .returned (.tuple #[stV zS, .int .i64 1]) ∧ Below w.heap.size w w' := by
  obtain ⟨A, c, rfl⟩ := h1.form
  have F1 : Fx w ((w.alloc (.cells (stC s) 24)).alloc (.cells zC 24)) [(w.heap.size + 1, zC)] := ((Fx.nil w).alloc _).newB _ (by simp) _
  have k1 : ¬ (64 : Int) < (a.length : Int) := by omega
  replace F1 := hide F1
  clear hl h1
  generalize a.length = n at *
  rcases Classical.em (z < 0) with hz0 | hz0
  · clear hz
    go_enter Tryd.func12, Tryd.ntmps12
    go_wp2_with (first
      | (refine wpList_store_row rfl 24 (.tmp 6) (.tmp 18) rfl (w.heap.size + 1) zC rfl rfl 24 zC ((unhide F1).get 0 rfl) size24 rfl (stC_one zS) ?_)
      | fail)
    exact ret_st2 rfl (w.heap.size + 1) zS _ rfl rfl (((unhide F1).get 0 rfl).row _) rfl ⟨rfl, bl_row (unhide F1).bl _ (by omega)⟩
  · have hz1 : 4096 < z := by omega
    clear hz
    go_enter Tryd.func12, Tryd.ntmps12
    go_wp2_with (first
      | (refine wpList_store_row rfl 24 (.tmp 6) (.tmp 18) rfl (w.heap.size + 1) zC rfl rfl 24 zC ((unhide F1).get 0 rfl) size24 rfl (stC_one zS) ?_)
      | fail)
    exact ret_st2 rfl (w.heap.size + 1) zS _ rfl rfl (((unhide F1).get 0 rfl).row _) rfl ⟨rfl, bl_row (unhide F1).bl _ (by omega)⟩

set_option maxHeartbeats 1000000 in
theorem goR_good (s : St) (v : Value) (a : List UInt8) (N : Nat) (w : World) (h1 : Bs 0 w.heap.size w v a) (hl : a.length ≤ 64) (hN : N ≤ 4096) :
    Calls Tryd.prog 12 #[stV s, v, .int .i64 (N : Int)] w fun e w' => e = .returned (.tuple #[stV (goF N s a), .int .i64 0]) ∧ Below w.heap.size w w' := by
  obtain ⟨A, c, rfl⟩ := h1.form
  have F1 : Fx w ((w.alloc (.cells (stC s) 24)).alloc (.cells zC 24)) [(w.heap.size, stC s), (w.heap.size + 1, zC)] := ((Fx.nil w).newB _ rfl _).newB _ (by simp) _
  have l1 : ¬ (64 : Int) < (a.length : Int) := by omega
  have hc := fun S W hb => absorbR_any S _ a w W h1 (by omega) hb
  have hk : ∀ (k : Nat) W (_ : Below w.heap.size w W), Calls Tryd.prog 19 #[stV (goF k s a), .slice A a.length c] W fun e w' => e = .returned (.tuple #[stV (goF (k + 1) s a), .int .i64 0]) ∧ Below W.heap.size W w' := fun k W hb => hc (goF k s a) W hb
  have F1' : Fx w ((w.alloc (.cells (stC s) 24)).alloc (.cells zC 24)) [(w.heap.size, stC (goF 0 s a)), (w.heap.size + 1, zC)] := F1
  have z0 : (0 : Int) ≤ (N : Int) := by omega
  have z1 : (N : Int) ≤ 4096 := by omega
  clear hc F1 hl h1
  replace F1' := hide F1'; replace hk := hide hk
  obtain ⟨S, hS⟩ : ∃ S : Nat → St, S = fun k => goF k s a := ⟨_, rfl⟩
  have hk' : Hid (∀ (k : Nat) W (_ : Below w.heap.size w W), Calls Tryd.prog 19 #[stV (S k), .slice A a.length c] W fun e w' => e = .returned (.tuple #[stV (S (k + 1)), .int .i64 0]) ∧ Below W.heap.size W w') := by rw [hS]; exact hk
  have F2 : Hid (Fx w ((w.alloc (.cells (stC s) 24)).alloc (.cells zC 24)) [(w.heap.size, stC (S 0)), (w.heap.size + 1, zC)]) := by rw [hS]; exact F1'
  have hSN : goF N s a = S N := by rw [hS]
  rw [hSN]
  clear hS hSN hk F1'
  generalize a.length = n at *
  go_enter Tryd.func12, Tryd.ntmps12
  go_upto_region 5 with (fail)
  generalize hW : World.alloc (World.alloc w _) _ = W at *
  clear hW
  go_wp2
  go_loopw [20] (fun v wr => ∃ k : Nat, k ≤ N ∧ v = .int .i64 k ∧ Hid (Fx w wr [(w.heap.size, stC (S k)), (w.heap.size + 1, zC)])) (fun v _ => N - (intOf v).toNat)
  case atStart => exact ⟨0, Nat.zero_le _, rfl, F2⟩
  case round =>
    obtain ⟨k, hkk, rfl, F⟩ := hrel
    by_cases hlt : k < N
    · have k1 : (k : Int) < (N : Int) := by omega
      have hc := unhide hk' k wr (unhide F).bl
      obtain ⟨s', hs'⟩ : ∃ s', S (k + 1) = s' := ⟨_, rfl⟩
      rw [hs'] at hc
      generalize S k = s0 at *
      replace hs' := hide hs'
      replace hc := hide hc
      go_wp2_with (first
        | (refine wpList_load_row rfl 24 (.tmp 3) rfl w.heap.size rfl 24 (stC s0) (0, 0) _ ((unhide F).get 0 rfl) Tryd.underlying24 rfl size24 ?_)
        | (go_at_call 19; refine (unhide hc).mono ?_; rintro e w1 ⟨rfl, hb1⟩; have F3 : Fx w w1 [(w.heap.size, stC s0), (w.heap.size + 1, zC)] := (unhide F).call hb1; replace F3 := hide F3; clear hb1)
        | (refine wpList_store_row rfl 24 (.tmp 3) (.tmp 26) rfl w.heap.size (stC s') rfl rfl 24 (stC s0) ((unhide F3).get 0 rfl) size24 rfl (stC_one _) ?_)
        | fail)
      have F4 : Fx w _ _ := ((unhide F3).sub (L' := [(w.heap.size + 1, zC)]) (by simp)).row w.heap.size (stC s') (by omega) (by simp) ((unhide F3).get 0 rfl)
      have F5 := F4.sub (L' := [(w.heap.size, stC s'), (w.heap.size + 1, zC)]) (by simp)
      go_roundw
      case rel => exact ⟨k + 1, by omega, by go_num, by rw [unhide hs']; exact hide F5⟩
      case measure => simp [intOf]; omega
    · obtain rfl : k = N := by omega
      obtain ⟨s1, hs⟩ : ∃ s1, S k = s1 := ⟨_, rfl⟩
      rw [hs] at F
      replace hs := hide hs
      go_wp2_with (first
        | (refine wpList_load_row rfl 24 (.tmp 3) rfl w.heap.size rfl 24 (stC s1) (0, 0) _ ((unhide F).get 0 rfl) Tryd.underlying24 rfl size24 ?_)
        | (refine wpList_store_row rfl 24 (.tmp 6) (.tmp 29) rfl (w.heap.size + 1) (stC s1) rfl rfl 24 zC ((unhide F).get 1 rfl) size24 rfl (stC_one _) ?_)
        | fail)
      exact ret_st2 rfl (w.heap.size + 1) s1 (.int .i64 0) rfl rfl (((unhide F).get 1 rfl).row _) rfl ⟨by rw [unhide hs], bl_row (unhide F).bl _ (by omega)⟩
theorem goR_any (s : St) (v : Value) (a : List UInt8) (z : Int) (w W : World) (h1 : Bs 0 w.heap.size w v a) (hb : Below w.heap.size w W) :
    Calls Tryd.prog 12 #[stV s, v, .int .i64 z] W fun e w' => e = .returned (.tuple #[stV (goE s a z).1, .int .i64 ((goE s a z).2 : Nat)]) ∧ Below W.heap.size W w' := by
  by_cases h : 64 < a.length
  · rw [goE_long h]; exact goR_long s v a z W (h1.at hb) h
  · by_cases hz : z < 0 ∨ 4096 < z
    · rw [goE_arg (by omega) hz]; exact goR_arg s v a z W (h1.at hb) (by omega) hz
    · obtain ⟨n, rfl⟩ : ∃ n : Nat, z = n := ⟨z.toNat, by omega⟩
      rw [goE_good (by omega) rfl (by omega)]
      exact goR_good s v a n W (h1.at hb) (by omega) (by omega)
end Go.Proofs.YtjjamplgecioaaaDoor
