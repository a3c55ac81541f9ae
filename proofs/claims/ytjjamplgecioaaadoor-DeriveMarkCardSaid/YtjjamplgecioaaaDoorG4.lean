import Derived.Test.YtjjamplgecioaaaDoorG3
namespace Go.Proofs.YtjjamplgecioaaaDoor
open Go.RowKit

set_option maxHeartbeats 400000 in
theorem go_long (s : St) (v : Value) (a : List UInt8) (z : Int) (w : World) (h1 : Bs 0 w.heap.size w v a) (hl : 64 < a.length) :
    Calls Tryd.prog 11 #[stV s, v, .int .i64 z] w fun e w' => e = .returned (.tuple #[stV zS, .int .i64 3]) ∧ Below w.heap.size w w' := by
  obtain ⟨A, c, rfl⟩ := h1.form
  have F0 : Fx w ((w.alloc (.cells (stC s) 24)).alloc (.cells zC 24)) [(w.heap.size + 1, zC)] := ((Fx.nil w).alloc _).newB _ (by simp) _
  have F1 := F0.alloc (.cells #[.slice A a.length c] 25)
  have K1 : Blk (((w.alloc (.cells (stC s) 24)).alloc (.cells zC 24)).alloc (.cells #[.slice A a.length c] 25)) (w.heap.size + 2) 25 #[.slice A a.length c] := Blk.new (by simp)
  have C1 := short1 K1 false ⟨fun h => (nomatch h), fun h => by omega⟩
  replace F1 := hide F1; replace C1 := hide C1
  clear K1 F0 hl h1
  generalize a.length = n at *
  go_enter Tryd.func11, Tryd.ntmps11
  go_wp2_with (first
    | (go_at_call 17; refine (unhide C1).mono ?_; rintro e w1 ⟨rfl, rfl⟩)
    | (refine wpList_store_row rfl 24 (.tmp 6) (.tmp 14) rfl (w.heap.size + 1) zC rfl rfl 24 zC ((unhide F1).get 0 rfl) size24 rfl (stC_one zS) ?_)
    | fail)
  exact ret_st2 rfl (w.heap.size + 1) zS _ rfl rfl (((unhide F1).get 0 rfl).row _) rfl ⟨rfl, bl_row (unhide F1).bl _ (by omega)⟩

set_option maxHeartbeats 400000 in
theorem go_arg (s : St) (v : Value) (a : List UInt8) (z : Int) (w : World) (h1 : Bs 0 w.heap.size w v a) (hl : a.length ≤ 64) (hz : z < 0 ∨ 4096 < z) :
    Calls Tryd.prog 11 #[stV s, v, .int .i64 z] w fun e w' => e = .returned (.tuple #[stV zS, .int .i64 1]) ∧ Below w.heap.size w w' := by
  obtain ⟨A, c, rfl⟩ := h1.form
  have F0 : Fx w ((w.alloc (.cells (stC s) 24)).alloc (.cells zC 24)) [(w.heap.size + 1, zC)] := ((Fx.nil w).alloc _).newB _ (by simp) _
  have F1 := F0.alloc (.cells #[.slice A a.length c] 25)
  have K1 : Blk (((w.alloc (.cells (stC s) 24)).alloc (.cells zC 24)).alloc (.cells #[.slice A a.length c] 25)) (w.heap.size + 2) 25 #[.slice A a.length c] := Blk.new (by simp)
  have C1 := short1 K1 true ⟨fun _ => hl, fun _ => rfl⟩
  replace F1 := hide F1; replace C1 := hide C1
  clear K1 F0 hl h1
  generalize a.length = n at *
  rcases Classical.em (z < 0) with hz0 | hz0
  · clear hz
    go_enter Tryd.func11, Tryd.ntmps11
    go_wp2_with (first
      | (go_at_call 17; refine (unhide C1).mono ?_; rintro e w1 ⟨rfl, rfl⟩)
      | (refine wpList_store_row rfl 24 (.tmp 6) (.tmp 21) rfl (w.heap.size + 1) zC rfl rfl 24 zC ((unhide F1).get 0 rfl) size24 rfl (stC_one zS) ?_)
      | fail)
    exact ret_st2 rfl (w.heap.size + 1) zS _ rfl rfl (((unhide F1).get 0 rfl).row _) rfl ⟨rfl, bl_row (unhide F1).bl _ (by omega)⟩
  · have hz1 : 4096 < z := by omega
    clear hz
    go_enter Tryd.func11, Tryd.ntmps11
    go_wp2_with (first
      | (go_at_call 17; refine (unhide C1).mono ?_; rintro e w1 ⟨rfl, rfl⟩)
      | (refine wpList_store_row rfl 24 (.tmp 6) (.tmp 21) rfl (w.heap.size + 1) zC rfl rfl 24 zC ((unhide F1).get 0 rfl) size24 rfl (stC_one zS) ?_)
      | fail)
    exact ret_st2 rfl (w.heap.size + 1) zS _ rfl rfl (((unhide F1).get 0 rfl).row _) rfl ⟨rfl, bl_row (unhide F1).bl _ (by omega)⟩

set_option maxHeartbeats 1000000 in
theorem go_good (s : St) (v : Value) (a : List UInt8) (N : Nat) (w : World) (ht : Tab w) (h1 : Bs 0 w.heap.size w v a) (hl : a.length ≤ 64) (hN : N ≤ 4096) :
    Calls Tryd.prog 11 #[stV s, v, .int .i64 (N : Int)] w fun e w' => e = .returned (.tuple #[stV (goF N s a), .int .i64 0]) ∧ Below w.heap.size w w' := by
  obtain ⟨A, c, rfl⟩ := h1.form
  have F0 : Fx w ((w.alloc (.cells (stC s) 24)).alloc (.cells zC 24)) [(w.heap.size, stC s), (w.heap.size + 1, zC)] := ((Fx.nil w).newB _ rfl _).newB _ (by simp) _
  have F1 := F0.alloc (.cells #[.slice A a.length c] 25)
  have K1 : Blk (((w.alloc (.cells (stC s) 24)).alloc (.cells zC 24)).alloc (.cells #[.slice A a.length c] 25)) (w.heap.size + 2) 25 #[.slice A a.length c] := Blk.new (by simp)
  have C1 := short1 K1 true ⟨fun _ => hl, fun _ => rfl⟩
  have hc := fun S W hb => absorb_any S _ a w W ht h1 (by omega) hb
  have hk : ∀ (k : Nat) W (_ : Below w.heap.size w W), Calls Tryd.prog 18 #[stV (goF k s a), .slice A a.length c] W fun e w' => e = .returned (.tuple #[stV (goF (k + 1) s a), .int .i64 0]) ∧ Below W.heap.size W w' := fun k W hb => hc (goF k s a) W hb
  have h0S : goF 0 s a = s := rfl
  have F1' : Fx w (((w.alloc (.cells (stC s) 24)).alloc (.cells zC 24)).alloc (.cells #[.slice A a.length c] 25)) [(w.heap.size, stC (goF 0 s a)), (w.heap.size + 1, zC)] := F1
  have z0 : (0 : Int) ≤ (N : Int) := by omega
  have z1 : (N : Int) ≤ 4096 := by omega
  clear h0S hc K1 F0 F1 hl h1 ht
  replace F1' := hide F1'; replace C1 := hide C1; replace hk := hide hk
  obtain ⟨S, hS⟩ : ∃ S : Nat → St, S = fun k => goF k s a := ⟨_, rfl⟩
  have hk' : Hid (∀ (k : Nat) W (_ : Below w.heap.size w W), Calls Tryd.prog 18 #[stV (S k), .slice A a.length c] W fun e w' => e = .returned (.tuple #[stV (S (k + 1)), .int .i64 0]) ∧ Below W.heap.size W w') := by rw [hS]; exact hk
  have F2 : Hid (Fx w (((w.alloc (.cells (stC s) 24)).alloc (.cells zC 24)).alloc (.cells #[.slice A a.length c] 25)) [(w.heap.size, stC (S 0)), (w.heap.size + 1, zC)]) := by rw [hS]; exact F1'
  have hSN : goF N s a = S N := by rw [hS]
  rw [hSN]
  clear hS hSN hk F1'
  generalize a.length = n at *
  go_enter Tryd.func11, Tryd.ntmps11
  go_upto_region 5 with (first
    | (go_at_call 17; refine (unhide C1).mono ?_; rintro e w1 ⟨rfl, rfl⟩)
    | fail)
  generalize hW : World.alloc (World.alloc (World.alloc w _) _) _ = W at *
  clear hW C1
  go_wp2
  go_loopw [23] (fun v wr => ∃ k : Nat, k ≤ N ∧ v = .int .i64 k ∧ Hid (Fx w wr [(w.heap.size, stC (S k)), (w.heap.size + 1, zC)])) (fun v _ => N - (intOf v).toNat)
  case atStart => exact ⟨0, Nat.zero_le _, rfl, F2⟩
  case round =>
    obtain ⟨k, hkk, rfl, F⟩ := hrel
    by_cases hlt : k < N
    · have k1 : (k : Int) < (N : Int) := by omega
      have hc := unhide hk' k wr (unhide F).bl
      obtain ⟨s', hs'⟩ : ∃ s', S (k + 1) = s' := ⟨_, rfl⟩
      rw [hs'] at hc
      generalize S k = s0 at *
      replace hs' := hide hs'
      replace hc := hide hc
      go_wp2_with (first
        | (refine wpList_load_row rfl 24 (.tmp 3) rfl w.heap.size rfl 24 (stC s0) (0, 0) _ ((unhide F).get 0 rfl) Tryd.underlying24 rfl size24 ?_)
        | (go_at_call 18; refine (unhide hc).mono ?_; rintro e w1 ⟨rfl, hb1⟩; have F3 : Fx w w1 [(w.heap.size, stC s0), (w.heap.size + 1, zC)] := (unhide F).call hb1; replace F3 := hide F3; clear hb1)
        | (refine wpList_store_row rfl 24 (.tmp 3) (.tmp 35) rfl w.heap.size (stC s') rfl rfl 24 (stC s0) (((unhide F3).alloc _).get 0 rfl) size24 rfl (stC_one _) ?_)
        | fail)
      have F4 : Fx w _ _ := (((unhide F3).sub (L' := [(w.heap.size + 1, zC)]) (by simp)).alloc (.cells (stC s') 24)).row w.heap.size (stC s') (by omega) (by simp) (((unhide F3).alloc (.cells (stC s') 24)).get 0 rfl)
      have F5 := F4.sub (L' := [(w.heap.size, stC s'), (w.heap.size + 1, zC)]) (by simp)
      go_roundw
      case rel => exact ⟨k + 1, by omega, by go_num, by rw [unhide hs']; exact hide F5⟩
      case measure => simp [intOf]; omega
    · obtain rfl : k = N := by omega
      obtain ⟨s1, hs⟩ : ∃ s1, S k = s1 := ⟨_, rfl⟩
      rw [hs] at F
      replace hs := hide hs
      go_wp2_with (first
        | (refine wpList_load_row rfl 24 (.tmp 3) rfl w.heap.size rfl 24 (stC s1) (0, 0) _ ((unhide F).get 0 rfl) Tryd.underlying24 rfl size24 ?_)
        | (refine wpList_store_row rfl 24 (.tmp 6) (.tmp 37) rfl (w.heap.size + 1) (stC s1) rfl rfl 24 zC ((unhide F).get 1 rfl) size24 rfl (stC_one _) ?_)
        | fail)
      exact ret_st2 rfl (w.heap.size + 1) s1 (.int .i64 0) rfl rfl (((unhide F).get 1 rfl).row _) rfl ⟨by rw [unhide hs], bl_row (unhide F).bl _ (by omega)⟩
end Go.Proofs.YtjjamplgecioaaaDoor
