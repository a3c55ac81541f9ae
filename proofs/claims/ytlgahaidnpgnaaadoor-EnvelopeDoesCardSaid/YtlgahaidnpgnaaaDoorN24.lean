import Derived.Test.YtlgahaidnpgnaaaDoorN23
namespace Go.Proofs.YtlgahaidnpgnaaaDoor
open Go.RowKit

set_option maxHeartbeats 1000000 in
theorem FromR_short (lo : Nat) (v : Value) (l : List UInt8) (w : World) (h : Bs lo w.heap.size w v l) (hl : l.length < 24) :
    Calls Tryd.prog 17 #[v] w fun e w' => e = .returned (.tuple #[.agg zBx, .int .i64 2]) ∧ Below w.heap.size w w' := by
  obtain ⟨A, c, rfl⟩ := h.form
  have h1 : (l.length : Int) < 24 := by omega
  have hB : Blk (w.alloc (.cells zBx 30)) w.heap.size 30 zBx := Blk.new rfl
  have hb : Below w.heap.size w (w.alloc (.cells zBx 30)) := bl_alloc (Below.refl _ _) _
  replace hB := hide hB; replace hb := hide hb
  clear h hl
  go_enter Tryd.func17, Tryd.ntmps17
  go_wp2_with (first
    | (refine wpList_store_row rfl 30 (.tmp 2) (.tmp 11) rfl w.heap.size zBx rfl rfl 30 zBx (unhide hB) size30 rfl zbx_one ?_)
    | fail)
  exact ret_b2 rfl w.heap.size zBx _ rfl rfl rfl ((unhide hB).row _) rfl ⟨rfl, bl_row (unhide hb) _ (Nat.le_refl _)⟩
set_option maxHeartbeats 1000000 in
theorem FromR_long (lo : Nat) (v : Value) (l : List UInt8) (w : World) (h : Bs lo w.heap.size w v l) (hl : 65560 < l.length) :
    Calls Tryd.prog 17 #[v] w fun e w' => e = .returned (.tuple #[.agg zBx, .int .i64 3]) ∧ Below w.heap.size w w' := by
  obtain ⟨A, c, rfl⟩ := h.form
  have h0 : ¬ (l.length : Int) < 24 := by omega
  have h1 : (65560 : Int) < (l.length : Int) := by omega
  have hB : Blk (w.alloc (.cells zBx 30)) w.heap.size 30 zBx := Blk.new rfl
  have hb : Below w.heap.size w (w.alloc (.cells zBx 30)) := bl_alloc (Below.refl _ _) _
  replace hB := hide hB; replace hb := hide hb
  clear h hl
  go_enter Tryd.func17, Tryd.ntmps17
  go_wp2_with (first
    | (refine wpList_store_row rfl 30 (.tmp 2) (.tmp 15) rfl w.heap.size zBx rfl rfl 30 zBx (unhide hB) size30 rfl zbx_one ?_)
    | fail)
  exact ret_b2 rfl w.heap.size zBx _ rfl rfl rfl ((unhide hB).row _) rfl ⟨rfl, bl_row (unhide hb) _ (Nat.le_refl _)⟩


theorem wrap_mul256 (y : Nx) : IntKind.u64.wrap ((256 : Int) * n64 y) = n64 (256#64 * y) := by rw [IntKind.wrap_u64]; exact q_mul256 y
theorem wrap_sum (x y : Nx) : IntKind.u64.wrap (n64 x + n64 y) = n64 (x + y) := by rw [IntKind.wrap_u64]; exact q_add x y
theorem wrap_conv (c : UInt8) : IntKind.u64.wrap (n8 c) = n64 (oc8 c) := by rw [IntKind.wrap_u64]; exact q_conv c
section
attribute [local go_sem] wrap_mul256 wrap_sum wrap_conv q_mul256 q_add q_conv
set_option maxHeartbeats 2000000 in
theorem FromR_good (v : Value) (l : List UInt8) (w : World) (h : Bs 0 w.heap.size w v l) (hl : 24 ≤ l.length) (hl2 : l.length ≤ 65560) :
    Calls Tryd.prog 17 #[v] w fun e w' => ∃ A c, e = .returned (.tuple #[bxV (fromF l).n (.slice A (fromF l).text.length c) (fromF l).tag, .int .i64 0]) ∧ OwnB w' w.heap.size (.slice A (fromF l).text.length c) (fromF l).text ∧ Below w.heap.size w w' := by
  obtain ⟨i0, hi0, hz0, hz1, hz2⟩ := info_parts info5
  obtain ⟨A, c, rfl⟩ := h.form
  have h0 : ¬ (l.length : Int) < 24 := by omega
  have h1 : ¬ (65560 : Int) < (l.length : Int) := by omega
  obtain ⟨A1, c1, s1, b1⟩ := h.cut_lh 8 24 8 24 rfl rfl (by omega) (by omega)
  obtain ⟨A3, c3, s3, b3⟩ := h.cut_l 24 24 rfl (by omega)
  have hO := fun W (hb : Below w.heap.size w W) => OfR_good 0 _ _ W (b1.to hb) (by rw [List.length_take, List.length_drop]; omega)
  have hC := fun W (hb : Below w.heap.size w W) => (b3.to hb).src.2
  have e16 : 24 - 8 = 16 := rfl
  rw [e16] at s1 hO
  have hdl : l.length - 24 = (l.drop 24).length := (List.length_drop ..).symm
  rw [hdl] at s3 hC
  have f1 : (fromF l).n = of8 (l.take 8) := rfl
  have f2 : (fromF l).text = l.drop 24 := rfl
  have f3 : (fromF l).tag = ofF ((l.drop 8).take 16) := rfl
  rw [f1, f2, f3]
  have hN : horK (l.take 8) 8 = of8 (l.take 8) := horK_all _
  have hstep : ∀ k (J : Nat), J + k = 7 → ∃ b off x, A = some ⟨b, off, none⟩ ∧ b < w.heap.size ∧ w.cell? ⟨b, off + J, none⟩ = some (u8v x) ∧ 256#64 * horK (l.take 8) k + oc8 x = horK (l.take 8) (k + 1) := fun k J hJ => by
    obtain ⟨b, off, e, lb, hc⟩ := Bs.atR h (k := J) (List.getElem?_eq_getElem (by omega))
    refine ⟨b, off, _, e, lb, hc, ?_⟩
    show _ = 256#64 * horK (l.take 8) k + oc8 ((l.take 8).getD (7 - k) 0)
    have e7 : 7 - k = J := by omega
    have e8 : J < 8 := by omega
    rw [e7]
    congr 2
    simp [List.getD_eq_getElem?_getD, e8, show J < l.length by omega]
  have hz : horK (l.take 8) 0 = 0#64 := rfl
  generalize of8 (l.take 8) = n at *
  generalize ofF ((l.drop 8).take 16) = T at *
  obtain ⟨out, hout⟩ : ∃ out, out = l.drop 24 := ⟨_, rfl⟩
  rw [← hout] at hC s3 ⊢
  have ho3 := u8s_one out
  have hml : (out.map u8v).length = out.length * 1 := by simp
  have hb5 : 0 + out.length ≤ maxLen := by rw [hout, List.length_drop]; simp only [maxLen]; omega
  have hb6 : (0 + out.length) * 1 ≤ 140737488355328 := by rw [hout, List.length_drop]; omega
  have z1 : (24 : Int) ≤ (l.length : Int) := by omega
  have z2 : 24 ≤ l.length := hl
  generalize l.length = m at *
  have X0 : Fx w (w.alloc (.cells zBx 30)) [(w.heap.size, 30, zBx)] [] [] := (Fx.nil w).newB w.heap.size rfl zBx 30
  obtain ⟨xo, hxo⟩ : ∃ xs, xs = out.map u8v := ⟨_, rfl⟩
  rw [← hxo] at hC hml ho3
  replace X0 := hide X0; replace hO := hide hO; replace hC := hide hC; replace hN := hide hN; replace hstep := hide hstep; replace hz := hide hz; replace ho3 := hide ho3; replace hml := hide hml; replace hb5 := hide hb5; replace hb6 := hide hb6; replace hxo := hide hxo
  clear h hl hl2 b1 b3 e16 hdl f1 f2 f3 hout
  go_enter Tryd.func17, Tryd.ntmps17
  go_upto_region 1 with (fail)
  generalize hW : World.alloc w _ = W at *
  clear hW
  go_wp2_with (fail)
  go_loopw [4, 5] (fun r i wr => ∃ (k : Nat) (z : Int), k ≤ 8 ∧ i = .int .i64 z ∧ Hid (z = 7 - (k : Int)) ∧ r = u64v (horK (l.take 8) k) ∧ W = wr) (fun _ i _ => (intOf i + 1).toNat)
  case atStart => exact ⟨0, 7, by omega, rfl, hide rfl, by rw [unhide hz]; rfl, rfl⟩
  case round =>
    obtain ⟨k, z, hk8, rfl, hzk, rfl, rfl⟩ := hrel
    by_cases hlt : k < 8
    · obtain ⟨J, rfl⟩ : ∃ J : Nat, z = (J : Int) := ⟨(7 - k : Nat), by have := unhide hzk; omega⟩
      have hJ : J + k = 7 := by have := unhide hzk; omega
      obtain ⟨b, off, x, rfl, lb, hc, hs⟩ := unhide hstep k J hJ
      have hc' : W.cell? ⟨b, off + J, none⟩ = some (u8v x) := ((unhide X0).bl.cell (p := ⟨b, off + J, none⟩) lb).trans hc
      have j0 : (0 : Int) ≤ (J : Int) := by omega
      have j1 : (J : Int) < (m : Int) := by omega
      have j2 : J < m := by omega
      have j3 : J ≤ 7 := by omega
      replace hJ := hide hJ; replace hs := hide hs
      generalize horK (l.take 8) k = p at *
      clear hc
      go_wp2_with (fail)
      go_roundw
      case rel => exact ⟨k + 1, (J : Int) - 1, by omega, by go_num, hide (by have := unhide hJ; omega), by rw [unhide hs], trivial⟩
      case measure => simp [intOf]
    · obtain rfl : k = 8 := by omega
      obtain rfl : z = -1 := by have := unhide hzk; omega
      have hN' := unhide hN
      rw [hN']
      clear hN'
      go_upto_region 11 with (first
        | (go_at_call 35; refine (unhide hO _ (unhide X0).bl).mono ?_; rintro e w2 ⟨rfl, hb2⟩
           have X2 : Fx w (w2.alloc (.cells (stC T) 24)) [(w.heap.size, 30, zBx), (w2.heap.size, 24, stC T)] [] [] := ((unhide X0).call hb2).newB w2.heap.size rfl (stC T) 24
           have l2 : w.heap.size < w2.heap.size := (((unhide X0).call hb2).get 0 rfl).lt
           replace X2 := hide X2
           clear hb2)
        | fail)
      generalize w2.heap.size = g2 at *
      generalize World.alloc w2 _ = V at *
      have k0 : w.heap.size < V.heap.size := ((unhide X2).get 0 rfl).lt
      have k2 : g2 < V.heap.size := ((unhide X2).get 1 rfl).lt
      have t0 : V.cell? ⟨g2, 0, none⟩ = some (u32v T.a) := ((unhide X2).get 1 rfl).cell 0
      have t1 : V.cell? ⟨g2, 1, none⟩ = some (u32v T.b) := ((unhide X2).get 1 rfl).cell 1
      have t2 : V.cell? ⟨g2, 2, none⟩ = some (u32v T.c) := ((unhide X2).get 1 rfl).cell 2
      have t3 : V.cell? ⟨g2, 3, none⟩ = some (u32v T.d) := ((unhide X2).get 1 rfl).cell 3
      have n1 : ¬ g2 = w.heap.size := by omega
      have n2 : ¬ w.heap.size = g2 := by omega
      go_region_held3 (fun W => W.cell? ⟨g2, 0, none⟩ = some (u32v T.a) ∧ W.cell? ⟨g2, 1, none⟩ = some (u32v T.b) ∧ W.cell? ⟨g2, 2, none⟩ = some (u32v T.c) ∧ W.cell? ⟨g2, 3, none⟩ = some (u32v T.d)) (first | exact ⟨by with_reducible assumption, by with_reducible assumption, by with_reducible assumption, by with_reducible assumption⟩ | exact ⟨by go_simp, by go_simp, by go_simp, by go_simp⟩)
        (first
        | (refine step_app rfl (.const (.slice none 0 0)) (.tmp 36) 28 rfl (w.heap.size + 1) 5 i0 _ 1 1 Tryd.underlying28 hi0 hz0 hz1 hz2 rfl (Nat.succ_pos _) _ 0 [] rfl (World.ownsRow_nil _ _ _ _) A3 out.length c3 xo rfl (unhide hml) (unhide hC _ (unhide X2).drew.bl) (unhide ho3) (unhide hb5) (unhide hb6) (Nat.succ_le_of_lt k0) ?_
           intro v6 w6 o6 hg6
           have X6 : Fx w w6 [(w.heap.size, 30, zBx), (g2, 24, stC T)] [] [] := Fx.grown (unhide X2).drew (World.ownsRow_nil _ (w.heap.size + 1) 5 1) hg6 (Nat.le_succ _) (by simp)
           rw [Nat.zero_add, List.nil_append, unhide hxo] at o6
           obtain ⟨A6, c6, rfl⟩ : ∃ A c, v6 = .slice A out.length c := ownsRow_form o6
           have o6' : OwnB w6 w.heap.size (.slice A6 out.length c6) out := ownsRow_mono o6 (Nat.le_succ _)
           have k6 : w.heap.size < w6.heap.size := (X6.get 0 rfl).lt
           have f0 : w6.cell? ⟨g2, 0, none⟩ = some (u32v T.a) := (X6.get 1 rfl).cell 0
           have f1 : w6.cell? ⟨g2, 1, none⟩ = some (u32v T.b) := (X6.get 1 rfl).cell 1
           have f2 : w6.cell? ⟨g2, 2, none⟩ = some (u32v T.c) := (X6.get 1 rfl).cell 2
           have f3 : w6.cell? ⟨g2, 3, none⟩ = some (u32v T.d) := (X6.get 1 rfl).cell 3
           have zz0 : w6.cell? ⟨w.heap.size, 0, none⟩ = some (.int .u64 0) := (X6.get 0 rfl).cell 0
           have fzz0 : w6.frozen? ⟨w.heap.size, 0, none⟩ = false := (X6.get 0 rfl).frozen 0
           have zz1 : w6.cell? ⟨w.heap.size, 1, none⟩ = some (.slice none 0 0) := (X6.get 0 rfl).cell 1
           have fzz1 : w6.frozen? ⟨w.heap.size, 1, none⟩ = false := (X6.get 0 rfl).frozen 1
           have zz2 : w6.cell? ⟨w.heap.size, 2, none⟩ = some (.int .u32 0) := (X6.get 0 rfl).cell 2
           have fzz2 : w6.frozen? ⟨w.heap.size, 2, none⟩ = false := (X6.get 0 rfl).frozen 2
           have zz3 : w6.cell? ⟨w.heap.size, 3, none⟩ = some (.int .u32 0) := (X6.get 0 rfl).cell 3
           have fzz3 : w6.frozen? ⟨w.heap.size, 3, none⟩ = false := (X6.get 0 rfl).frozen 3
           have zz4 : w6.cell? ⟨w.heap.size, 4, none⟩ = some (.int .u32 0) := (X6.get 0 rfl).cell 4
           have fzz4 : w6.frozen? ⟨w.heap.size, 4, none⟩ = false := (X6.get 0 rfl).frozen 4
           have zz5 : w6.cell? ⟨w.heap.size, 5, none⟩ = some (.int .u32 0) := (X6.get 0 rfl).cell 5
           have fzz5 : w6.frozen? ⟨w.heap.size, 5, none⟩ = false := (X6.get 0 rfl).frozen 5
           replace X6 := hide X6; replace o6' := hide o6'
           clear o6 hg6))
      all_goals go_wp2_with (fail)
      all_goals exact ret_b2 rfl w.heap.size (bxC n (.slice A6 out.length c6) T) (.int .i64 0) rfl rfl rfl (Blk.set6 ((unhide X6).get 0 rfl)) rfl ⟨A6, c6, rfl, own_set6 ((unhide X6).get 0 rfl) (unhide o6'), below_set6 (unhide X6).bl (Nat.le_refl _)⟩
end
end Go.Proofs.YtlgahaidnpgnaaaDoor
