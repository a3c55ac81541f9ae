import Derived.Test.YthkccpemgmpadaaGreatDoorU32
namespace Go.Proofs.YthkccpemgmpadaaGreatDoor
set_option maxRecDepth 100000
open Go.RowKit
section
attribute [local go_sem] guard24
end
set_option maxHeartbeats 2000000 in
theorem BytesR_good (n : Nx) (v : Value) (l : List UInt8) (t : St) (w : World) (h : Bs 0 w.heap.size w v l) (hl : l.length ≤ 65536) :
    Calls Tryz.prog 34 #[bxV n v t] w fun e w' => ∃ A c, e = .returned (.tuple #[.slice A (bytesF ⟨n, l, t⟩).length c, .int .i64 0]) ∧ OwnB w' w.heap.size (.slice A (bytesF ⟨n, l, t⟩).length c) (bytesF ⟨n, l, t⟩) ∧ Below w.heap.size w w' := by
  obtain ⟨i0, hi0, hz0, hz1, hz2⟩ := info_parts info5
  have hl8 := eight_len n
  have hl16 := octs_len t
  have hL := bytes_len ⟨n, l, t⟩
  have hF : bytesF ⟨n, l, t⟩ = eight n ++ octs4 t ++ l := rfl
  obtain ⟨A, c, rfl⟩ := h.form
  have X0 : Fx w (w.alloc (.cells (bxC n (.slice A l.length c) t) 55)) [(w.heap.size, 55, bxC n (.slice A l.length c) t)] [] [] := (Fx.nil w).newB w.heap.size rfl (bxC n (.slice A l.length c) t) 55
  have h1 : ¬ (65536 : Int) < (l.length : Int) := by omega
  have hsrc' := fun W (hb : Below w.heap.size w W) => (show SrcOk W A l.length (l.map u8v) from (h.to hb).src.2)
  have ho3 := u8s_one l
  have ho2 := u8s_one (octs4 t)
  have hml : (l.map u8v).length = l.length * 1 := by simp
  have hml2 : ((octs4 t).map u8v).length = 16 * 1 := by simp [hl16]
  have b3 : 8 + 16 ≤ maxLen := by simp only [maxLen]; omega
  have b4 : (8 + 16) * 1 ≤ 140737488355328 := by omega
  have b5 : 24 + l.length ≤ maxLen := by simp only [maxLen]; omega
  have b6 : (24 + l.length) * 1 ≤ 140737488355328 := by omega
  have hL' : (bytesF ⟨n, l, t⟩).length = 24 + l.length := by rw [hL]; exact Nat.add_comm _ _
  have hcat : ((eight n).map u8v ++ (octs4 t).map u8v) ++ l.map u8v = (bytesF ⟨n, l, t⟩).map u8v := by rw [hF]; simp
  generalize bytesF ⟨n, l, t⟩ = out at *
  obtain ⟨m, hm⟩ : ∃ m, m = l.length := ⟨_, rfl⟩
  rw [← hm] at X0 h1 hsrc' hml b5 b6 hL' ⊢
  obtain ⟨x8, hx8⟩ : ∃ xs, xs = (eight n).map u8v := ⟨_, rfl⟩
  obtain ⟨x16, hx16⟩ : ∃ xs, xs = (octs4 t).map u8v := ⟨_, rfl⟩
  obtain ⟨xl, hxl⟩ : ∃ xs, xs = l.map u8v := ⟨_, rfl⟩
  rw [← hxl] at hsrc' hml hcat ho3
  rw [← hx8, ← hx16] at hcat
  rw [← hx16] at hml2 ho2
  replace X0 := hide X0
  replace hl8 := hide hl8
  replace hl16 := hide hl16
  replace hsrc' := hide hsrc'
  replace ho2 := hide ho2
  replace ho3 := hide ho3
  replace hml := hide hml
  replace hml2 := hide hml2
  replace b3 := hide b3
  replace b4 := hide b4
  replace b5 := hide b5
  replace b6 := hide b6
  replace hL' := hide hL'
  replace hcat := hide hcat
  replace hx8 := hide hx8
  replace hx16 := hide hx16
  clear h hl hF hm hxl hL
  go_enter Tryz.func34, Tryz.ntmps34
  go_upto_region 1 with (fail)
  generalize hW : World.alloc w _ = W at *
  clear hW
  have k0 : w.heap.size < W.heap.size := ((unhide X0).get 0 rfl).lt
  have cc0 : W.cell? ⟨w.heap.size, 0, none⟩ = some (u64v n) := ((unhide X0).get 0 rfl).cell 0
  have cc1 : W.cell? ⟨w.heap.size, 1, none⟩ = some (.slice A m c) := ((unhide X0).get 0 rfl).cell 1
  have cc2 : W.cell? ⟨w.heap.size, 2, none⟩ = some (u32v t.a) := ((unhide X0).get 0 rfl).cell 2
  have cc3 : W.cell? ⟨w.heap.size, 3, none⟩ = some (u32v t.b) := ((unhide X0).get 0 rfl).cell 3
  have cc4 : W.cell? ⟨w.heap.size, 4, none⟩ = some (u32v t.c) := ((unhide X0).get 0 rfl).cell 4
  have cc5 : W.cell? ⟨w.heap.size, 5, none⟩ = some (u32v t.d) := ((unhide X0).get 0 rfl).cell 5
  go_upto_region 3 with (fail)
  go_region_held3 (fun W => W.cell? ⟨w.heap.size, 0, none⟩ = some (u64v n) ∧ W.cell? ⟨w.heap.size, 1, none⟩ = some (.slice A m c) ∧ W.cell? ⟨w.heap.size, 2, none⟩ = some (u32v t.a) ∧ W.cell? ⟨w.heap.size, 3, none⟩ = some (u32v t.b) ∧ W.cell? ⟨w.heap.size, 4, none⟩ = some (u32v t.c) ∧ W.cell? ⟨w.heap.size, 5, none⟩ = some (u32v t.d)) (first | exact ⟨by with_reducible assumption, by with_reducible assumption, by with_reducible assumption, by with_reducible assumption, by with_reducible assumption, by with_reducible assumption⟩ | exact ⟨by go_simp, by go_simp, by go_simp, by go_simp, by go_simp, by go_simp⟩)
    (first
    | (go_at_call 66; refine (eightR_any n W.drew).mono ?_; rintro e w5 ⟨v5, rfl, o5, hb5⟩
       obtain ⟨A5, c5, rfl⟩ : ∃ A c, v5 = .slice A 8 c := by obtain ⟨A, c, e⟩ := o5.form; exact ⟨A, c, by rw [e, unhide hl8]⟩
       have o5' : w5.ownsRow (w.heap.size + 1) 5 1 (.slice A5 8 c5) 8 x8 := by rw [unhide hx8]; exact own_n (ownsRow_mono (base' := w.heap.size + 1) o5 (Nat.succ_le_of_lt k0)) (unhide hl8)
       have X5 : Fx w w5 [(w.heap.size, 55, bxC n (.slice A m c) t)] [] [] := Fx.call (unhide X0).drew hb5
       have k5 : w.heap.size < w5.heap.size := (X5.get 0 rfl).lt
       have d0 : w5.cell? ⟨w.heap.size, 0, none⟩ = some (u64v n) := (X5.get 0 rfl).cell 0
       have d1 : w5.cell? ⟨w.heap.size, 1, none⟩ = some (.slice A m c) := (X5.get 0 rfl).cell 1
       have d2 : w5.cell? ⟨w.heap.size, 2, none⟩ = some (u32v t.a) := (X5.get 0 rfl).cell 2
       have d3 : w5.cell? ⟨w.heap.size, 3, none⟩ = some (u32v t.b) := (X5.get 0 rfl).cell 3
       have d4 : w5.cell? ⟨w.heap.size, 4, none⟩ = some (u32v t.c) := (X5.get 0 rfl).cell 4
       have d5 : w5.cell? ⟨w.heap.size, 5, none⟩ = some (u32v t.d) := (X5.get 0 rfl).cell 5
       replace X5 := hide X5; replace o5' := hide o5'
       clear o5 hb5)
    | (go_at_call 67; refine (OctetsR_any t w5).mono ?_; rintro e w6 ⟨v6, rfl, o6, hb6⟩
       obtain ⟨A6, c6, rfl⟩ : ∃ A c, v6 = .slice A 16 c := by obtain ⟨A, c, e⟩ := o6.form; exact ⟨A, c, by rw [e, unhide hl16]⟩
       have s6 : SrcOk w6 A6 16 x16 := by rw [unhide hx16]; exact (Bs.of_own o6).src.2
       have o6' : w6.ownsRow (w.heap.size + 1) 5 1 (.slice A5 8 c5) 8 x8 := own_below (unhide o5') hb6 (Nat.le_refl _)
       have X6 : Fx w w6 [(w.heap.size, 55, bxC n (.slice A m c) t)] [] [] := Fx.call (unhide X5) hb6
       have k6 : w.heap.size < w6.heap.size := (X6.get 0 rfl).lt
       have f0 : w6.cell? ⟨w.heap.size, 0, none⟩ = some (u64v n) := (X6.get 0 rfl).cell 0
       have f1 : w6.cell? ⟨w.heap.size, 1, none⟩ = some (.slice A m c) := (X6.get 0 rfl).cell 1
       have f2 : w6.cell? ⟨w.heap.size, 2, none⟩ = some (u32v t.a) := (X6.get 0 rfl).cell 2
       have f3 : w6.cell? ⟨w.heap.size, 3, none⟩ = some (u32v t.b) := (X6.get 0 rfl).cell 3
       have f4 : w6.cell? ⟨w.heap.size, 4, none⟩ = some (u32v t.c) := (X6.get 0 rfl).cell 4
       have f5 : w6.cell? ⟨w.heap.size, 5, none⟩ = some (u32v t.d) := (X6.get 0 rfl).cell 5
       replace X6 := hide X6; replace o6' := hide o6'; replace s6 := hide s6
       clear o6 hb6)
    | (refine step_app rfl (.tmp 10) (.tmp 13) 29 rfl (w.heap.size + 1) 5 i0 _ 1 1 Tryz.underlying29 hi0 hz0 hz1 hz2 rfl (Nat.succ_pos _) _ 8 x8 rfl (unhide o6') A6 16 c6 x16 rfl (unhide hml2) (unhide s6) (unhide ho2) (unhide b3) (unhide b4) (Nat.succ_le_of_lt k6) ?_
       intro v7 w7 o7 hg7
       have X7 : Fx w w7 [(w.heap.size, 55, bxC n (.slice A m c) t)] [] [] := Fx.grown (unhide X6) (unhide o6') hg7 (Nat.le_succ _) (by simp)
       obtain ⟨A7, c7, rfl⟩ : ∃ A c, v7 = .slice A 24 c := ownsRow_form o7
       obtain ⟨y7, hy7⟩ : ∃ xs, xs = x8 ++ x16 := ⟨_, rfl⟩
       have o7' : w7.ownsRow (w.heap.size + 1) 5 1 (.slice A7 24 c7) 24 y7 := by rw [hy7]; exact o7
       have k7 : w.heap.size < w7.heap.size := (X7.get 0 rfl).lt
       have g0 : w7.cell? ⟨w.heap.size, 0, none⟩ = some (u64v n) := (X7.get 0 rfl).cell 0
       have g1 : w7.cell? ⟨w.heap.size, 1, none⟩ = some (.slice A m c) := (X7.get 0 rfl).cell 1
       have g2 : w7.cell? ⟨w.heap.size, 2, none⟩ = some (u32v t.a) := (X7.get 0 rfl).cell 2
       have g3 : w7.cell? ⟨w.heap.size, 3, none⟩ = some (u32v t.b) := (X7.get 0 rfl).cell 3
       have g4 : w7.cell? ⟨w.heap.size, 4, none⟩ = some (u32v t.c) := (X7.get 0 rfl).cell 4
       have g5 : w7.cell? ⟨w.heap.size, 5, none⟩ = some (u32v t.d) := (X7.get 0 rfl).cell 5
       replace X7 := hide X7; replace o7' := hide o7'; replace hy7 := hide hy7
       clear o7 hg7)
    | (refine step_app rfl (.tmp 14) (.tmp 16) 29 rfl (w.heap.size + 1) 5 i0 _ 1 1 Tryz.underlying29 hi0 hz0 hz1 hz2 rfl (Nat.succ_pos _) _ 24 y7 rfl (unhide o7') A m c xl rfl (unhide hml) (unhide hsrc' w7 (unhide X7).bl) (unhide ho3) (unhide b5) (unhide b6) (Nat.succ_le_of_lt k7) ?_
       intro v8 w8 o8 hg8
       have X8 : Fx w w8 [(w.heap.size, 55, bxC n (.slice A m c) t)] [] [] := Fx.grown (unhide X7) (unhide o7') hg8 (Nat.le_succ _) (by simp)
       rw [unhide hy7, unhide hcat, ← unhide hL'] at o8
       obtain ⟨A8, c8, rfl⟩ : ∃ A c, v8 = .slice A out.length c := ownsRow_form o8
       have j0 : w8.cell? ⟨w.heap.size, 0, none⟩ = some (u64v n) := (X8.get 0 rfl).cell 0
       have j1 : w8.cell? ⟨w.heap.size, 1, none⟩ = some (.slice A m c) := (X8.get 0 rfl).cell 1
       have j2 : w8.cell? ⟨w.heap.size, 2, none⟩ = some (u32v t.a) := (X8.get 0 rfl).cell 2
       have j3 : w8.cell? ⟨w.heap.size, 3, none⟩ = some (u32v t.b) := (X8.get 0 rfl).cell 3
       have j4 : w8.cell? ⟨w.heap.size, 4, none⟩ = some (u32v t.c) := (X8.get 0 rfl).cell 4
       have j5 : w8.cell? ⟨w.heap.size, 5, none⟩ = some (u32v t.d) := (X8.get 0 rfl).cell 5
       replace X8 := hide X8; replace o8 := hide o8
       clear hg8))
  all_goals go_wp2_with (fail)
  all_goals go_ret2
  all_goals exact ⟨A8, c8, rfl, ownsRow_mono (unhide o8) (Nat.le_succ _), (unhide X8).bl⟩
end Go.Proofs.YthkccpemgmpadaaGreatDoor

namespace Go.Proofs.YthkccpemgmpadaaGreatDoor
set_option maxRecDepth 100000
open Go.RowKit
set_option maxHeartbeats 1000000 in
theorem FromR_short (lo : Nat) (v : Value) (l : List UInt8) (w : World) (h : Bs lo w.heap.size w v l) (hl : l.length < 24) :
    Calls Tryz.prog 25 #[v] w fun e w' => e = .returned (.tuple #[.agg zBx, .int .i64 2]) ∧ Below w.heap.size w w' := by
  obtain ⟨A, c, rfl⟩ := h.form
  have h1 : (l.length : Int) < 24 := by omega
  have hB : Blk (w.alloc (.cells zBx 55)) w.heap.size 55 zBx := Blk.new rfl
  have hb : Below w.heap.size w (w.alloc (.cells zBx 55)) := bl_alloc (Below.refl _ _) _
  replace hB := hide hB; replace hb := hide hb
  clear h hl
  go_enter Tryz.func25, Tryz.ntmps25
  go_wp2_with (first
    | (refine wpList_store_row rfl 55 (.tmp 2) (.tmp 11) rfl w.heap.size zBx rfl rfl 55 zBx (unhide hB) size30 rfl zbx_one ?_)
    | fail)
  exact ret_b2 rfl w.heap.size zBx _ rfl rfl rfl ((unhide hB).row _) rfl ⟨rfl, bl_row (unhide hb) _ (Nat.le_refl _)⟩
theorem wrap_mul256 (y : Nx) : IntKind.u64.wrap ((256 : Int) * n64 y) = n64 (256#64 * y) := by rw [IntKind.wrap_u64]; exact q_mul256 y
theorem wrap_sum (x y : Nx) : IntKind.u64.wrap (n64 x + n64 y) = n64 (x + y) := by rw [IntKind.wrap_u64]; exact q_add x y
theorem wrap_conv (c : UInt8) : IntKind.u64.wrap (n8 c) = n64 (oc8 c) := by rw [IntKind.wrap_u64]; exact q_conv c
section
attribute [local go_sem] wrap_mul256 wrap_sum wrap_conv q_mul256 q_add q_conv
set_option maxHeartbeats 2000000 in
theorem FromR_good (v : Value) (l : List UInt8) (w : World) (h : Bs 0 w.heap.size w v l) (hl : 24 ≤ l.length) (hl2 : l.length ≤ 65560) :
    Calls Tryz.prog 25 #[v] w fun e w' => ∃ A c, e = .returned (.tuple #[bxV (fromF l).n (.slice A (fromF l).text.length c) (fromF l).tag, .int .i64 0]) ∧ OwnB w' w.heap.size (.slice A (fromF l).text.length c) (fromF l).text ∧ Below w.heap.size w w' := by
  obtain ⟨i0, hi0, hz0, hz1, hz2⟩ := info_parts info5
  obtain ⟨A, c, rfl⟩ := h.form
  have h0 : ¬ (l.length : Int) < 24 := by omega
  have h1 : ¬ (65560 : Int) < (l.length : Int) := by omega
  obtain ⟨A1, c1, s1, b1⟩ := h.cut_lh 8 24 8 24 rfl rfl (by omega) (by omega)
  obtain ⟨A3, c3, s3, b3⟩ := h.cut_l 24 24 rfl (by omega)
  have hO := fun W (hb : Below w.heap.size w W) => OfR_good 0 _ _ W (b1.to hb) (by rw [List.length_take, List.length_drop]; omega)
  have hC := fun W (hb : Below w.heap.size w W) => (b3.to hb).src.2
  have e16 : 24 - 8 = 16 := rfl
  rw [e16] at s1 hO
  have hdl : l.length - 24 = (l.drop 24).length := (List.length_drop ..).symm
  rw [hdl] at s3 hC
  have f1 : (fromF l).n = of8 (l.take 8) := rfl
  have f2 : (fromF l).text = l.drop 24 := rfl
  have f3 : (fromF l).tag = ofF ((l.drop 8).take 16) := rfl
  rw [f1, f2, f3]
  have hN : horK (l.take 8) 8 = of8 (l.take 8) := horK_all _
  have hstep : ∀ k (J : Nat), J + k = 7 → ∃ b off x, A = some ⟨b, off, none⟩ ∧ b < w.heap.size ∧ w.cell? ⟨b, off + J, none⟩ = some (u8v x) ∧ 256#64 * horK (l.take 8) k + oc8 x = horK (l.take 8) (k + 1) := fun k J hJ => by
    obtain ⟨b, off, e, lb, hc⟩ := Bs.atR h (k := J) (List.getElem?_eq_getElem (by omega))
    refine ⟨b, off, _, e, lb, hc, ?_⟩
    show _ = 256#64 * horK (l.take 8) k + oc8 ((l.take 8).getD (7 - k) 0)
    have e7 : 7 - k = J := by omega
    have e8 : J < 8 := by omega
    rw [e7]
    congr 2
    simp [List.getD_eq_getElem?_getD, e8, show J < l.length by omega]
  have hz : horK (l.take 8) 0 = 0#64 := rfl
  generalize of8 (l.take 8) = n at *
  generalize ofF ((l.drop 8).take 16) = T at *
  obtain ⟨out, hout⟩ : ∃ out, out = l.drop 24 := ⟨_, rfl⟩
  rw [← hout] at hC s3 ⊢
  have ho3 := u8s_one out
  have hml : (out.map u8v).length = out.length * 1 := by simp
  have hb5 : 0 + out.length ≤ maxLen := by rw [hout, List.length_drop]; simp only [maxLen]; omega
  have hb6 : (0 + out.length) * 1 ≤ 140737488355328 := by rw [hout, List.length_drop]; omega
  have z1 : (24 : Int) ≤ (l.length : Int) := by omega
  have z2 : 24 ≤ l.length := hl
  generalize l.length = m at *
  have X0 : Fx w (w.alloc (.cells zBx 55)) [(w.heap.size, 55, zBx)] [] [] := (Fx.nil w).newB w.heap.size rfl zBx 55
  obtain ⟨xo, hxo⟩ : ∃ xs, xs = out.map u8v := ⟨_, rfl⟩
  rw [← hxo] at hC hml ho3
  replace X0 := hide X0; replace hO := hide hO; replace hC := hide hC; replace hN := hide hN; replace hstep := hide hstep; replace hz := hide hz; replace ho3 := hide ho3; replace hml := hide hml; replace hb5 := hide hb5; replace hb6 := hide hb6; replace hxo := hide hxo
  clear h hl hl2 b1 b3 e16 hdl f1 f2 f3 hout
  go_enter Tryz.func25, Tryz.ntmps25
  go_upto_region 1 with (fail)
  generalize hW : World.alloc w _ = W at *
  clear hW
  go_wp2_with (fail)
  go_loopw [4, 5] (fun r i wr => ∃ (k : Nat) (z : Int), k ≤ 8 ∧ i = .int .i64 z ∧ Hid (z = 7 - (k : Int)) ∧ r = u64v (horK (l.take 8) k) ∧ W = wr) (fun _ i _ => (intOf i + 1).toNat)
  case atStart => exact ⟨0, 7, by omega, rfl, hide rfl, by rw [unhide hz]; rfl, rfl⟩
  case round =>
    obtain ⟨k, z, hk8, rfl, hzk, rfl, rfl⟩ := hrel
    by_cases hlt : k < 8
    · obtain ⟨J, rfl⟩ : ∃ J : Nat, z = (J : Int) := ⟨(7 - k : Nat), by have := unhide hzk; omega⟩
      have hJ : J + k = 7 := by have := unhide hzk; omega
      obtain ⟨b, off, x, rfl, lb, hc, hs⟩ := unhide hstep k J hJ
      have hc' : W.cell? ⟨b, off + J, none⟩ = some (u8v x) := ((unhide X0).bl.cell (p := ⟨b, off + J, none⟩) lb).trans hc
      have j0 : (0 : Int) ≤ (J : Int) := by omega
      have j1 : (J : Int) < (m : Int) := by omega
      have j2 : J < m := by omega
      have j3 : J ≤ 7 := by omega
      replace hJ := hide hJ; replace hs := hide hs
      generalize horK (l.take 8) k = p at *
      clear hc
      go_wp2_with (fail)
      go_roundw
      case rel => exact ⟨k + 1, (J : Int) - 1, by omega, by go_num, hide (by have := unhide hJ; omega), by rw [unhide hs], trivial⟩
      case measure => simp [intOf]
    · obtain rfl : k = 8 := by omega
      obtain rfl : z = -1 := by have := unhide hzk; omega
      have hN' := unhide hN
      rw [hN']
      clear hN'
      go_upto_region 11 with (first
        | (go_at_call 47; refine (unhide hO _ (unhide X0).bl).mono ?_; rintro e w2 ⟨rfl, hb2⟩
           have X2 : Fx w (w2.alloc (.cells (stC T) 24)) [(w.heap.size, 55, zBx), (w2.heap.size, 24, stC T)] [] [] := ((unhide X0).call hb2).newB w2.heap.size rfl (stC T) 24
           have l2 : w.heap.size < w2.heap.size := (((unhide X0).call hb2).get 0 rfl).lt
           replace X2 := hide X2
           clear hb2)
        | fail)
      generalize w2.heap.size = g2 at *
      generalize World.alloc w2 _ = V at *
      have k0 : w.heap.size < V.heap.size := ((unhide X2).get 0 rfl).lt
      have k2 : g2 < V.heap.size := ((unhide X2).get 1 rfl).lt
      have t0 : V.cell? ⟨g2, 0, none⟩ = some (u32v T.a) := ((unhide X2).get 1 rfl).cell 0
      have t1 : V.cell? ⟨g2, 1, none⟩ = some (u32v T.b) := ((unhide X2).get 1 rfl).cell 1
      have t2 : V.cell? ⟨g2, 2, none⟩ = some (u32v T.c) := ((unhide X2).get 1 rfl).cell 2
      have t3 : V.cell? ⟨g2, 3, none⟩ = some (u32v T.d) := ((unhide X2).get 1 rfl).cell 3
      have n1 : ¬ g2 = w.heap.size := by omega
      have n2 : ¬ w.heap.size = g2 := by omega
      go_region_held3 (fun W => W.cell? ⟨g2, 0, none⟩ = some (u32v T.a) ∧ W.cell? ⟨g2, 1, none⟩ = some (u32v T.b) ∧ W.cell? ⟨g2, 2, none⟩ = some (u32v T.c) ∧ W.cell? ⟨g2, 3, none⟩ = some (u32v T.d)) (first | exact ⟨by with_reducible assumption, by with_reducible assumption, by with_reducible assumption, by with_reducible assumption⟩ | exact ⟨by go_simp, by go_simp, by go_simp, by go_simp⟩)
        (first
        | (refine step_app rfl (.const (.slice none 0 0)) (.tmp 36) 29 rfl (w.heap.size + 1) 5 i0 _ 1 1 Tryz.underlying29 hi0 hz0 hz1 hz2 rfl (Nat.succ_pos _) _ 0 [] rfl (World.ownsRow_nil _ _ _ _) A3 out.length c3 xo rfl (unhide hml) (unhide hC _ (unhide X2).drew.bl) (unhide ho3) (unhide hb5) (unhide hb6) (Nat.succ_le_of_lt k0) ?_
           intro v6 w6 o6 hg6
           have X6 : Fx w w6 [(w.heap.size, 55, zBx), (g2, 24, stC T)] [] [] := Fx.grown (unhide X2).drew (World.ownsRow_nil _ (w.heap.size + 1) 5 1) hg6 (Nat.le_succ _) (by simp)
           rw [Nat.zero_add, List.nil_append, unhide hxo] at o6
           obtain ⟨A6, c6, rfl⟩ : ∃ A c, v6 = .slice A out.length c := ownsRow_form o6
           have o6' : OwnB w6 w.heap.size (.slice A6 out.length c6) out := ownsRow_mono o6 (Nat.le_succ _)
           have k6 : w.heap.size < w6.heap.size := (X6.get 0 rfl).lt
           have f0 : w6.cell? ⟨g2, 0, none⟩ = some (u32v T.a) := (X6.get 1 rfl).cell 0
           have f1 : w6.cell? ⟨g2, 1, none⟩ = some (u32v T.b) := (X6.get 1 rfl).cell 1
           have f2 : w6.cell? ⟨g2, 2, none⟩ = some (u32v T.c) := (X6.get 1 rfl).cell 2
           have f3 : w6.cell? ⟨g2, 3, none⟩ = some (u32v T.d) := (X6.get 1 rfl).cell 3
           have zz0 : w6.cell? ⟨w.heap.size, 0, none⟩ = some (.int .u64 0) := (X6.get 0 rfl).cell 0
           have fzz0 : w6.frozen? ⟨w.heap.size, 0, none⟩ = false := (X6.get 0 rfl).frozen 0
           have zz1 : w6.cell? ⟨w.heap.size, 1, none⟩ = some (.slice none 0 0) := (X6.get 0 rfl).cell 1
           have fzz1 : w6.frozen? ⟨w.heap.size, 1, none⟩ = false := (X6.get 0 rfl).frozen 1
           have zz2 : w6.cell? ⟨w.heap.size, 2, none⟩ = some (.int .u32 0) := (X6.get 0 rfl).cell 2
           have fzz2 : w6.frozen? ⟨w.heap.size, 2, none⟩ = false := (X6.get 0 rfl).frozen 2
           have zz3 : w6.cell? ⟨w.heap.size, 3, none⟩ = some (.int .u32 0) := (X6.get 0 rfl).cell 3
           have fzz3 : w6.frozen? ⟨w.heap.size, 3, none⟩ = false := (X6.get 0 rfl).frozen 3
           have zz4 : w6.cell? ⟨w.heap.size, 4, none⟩ = some (.int .u32 0) := (X6.get 0 rfl).cell 4
           have fzz4 : w6.frozen? ⟨w.heap.size, 4, none⟩ = false := (X6.get 0 rfl).frozen 4
           have zz5 : w6.cell? ⟨w.heap.size, 5, none⟩ = some (.int .u32 0) := (X6.get 0 rfl).cell 5
           have fzz5 : w6.frozen? ⟨w.heap.size, 5, none⟩ = false := (X6.get 0 rfl).frozen 5
           replace X6 := hide X6; replace o6' := hide o6'
           clear o6 hg6))
      all_goals go_wp2_with (fail)
      all_goals exact ret_b2 rfl w.heap.size (bxC n (.slice A6 out.length c6) T) (.int .i64 0) rfl rfl rfl (Blk.set6 ((unhide X6).get 0 rfl)) rfl ⟨A6, c6, rfl, own_set6 ((unhide X6).get 0 rfl) (unhide o6'), below_set6 (unhide X6).bl (Nat.le_refl _)⟩
end
end Go.Proofs.YthkccpemgmpadaaGreatDoor

namespace Go.Proofs.YthkccpemgmpadaaGreatDoor
set_option maxRecDepth 100000
open Go.RowKit
theorem equalIn_stD (d : Nat) (w : World) (s t : St) : (Op.equalIn (d + 1 + 1) 24 (stV s) (stV t)).run Tryz.prog w = .ok (sameS s t) w := by
  rw [← same4_iff]
  obtain ⟨a, b, c, e⟩ := s
  obtain ⟨a', b', c', e'⟩ := t
  show (Op.equalIn (d + 1 + 1) 24 (.agg #[.int .u32 (n32 a), .int .u32 (n32 b), .int .u32 (n32 c), .int .u32 (n32 e)]) (.agg #[.int .u32 (n32 a'), .int .u32 (n32 b'), .int .u32 (n32 c'), .int .u32 (n32 e')])).run Tryz.prog w = _
  simp only []
  generalize n32 a = xa, n32 b = xb, n32 c = xc, n32 e = xd, n32 a' = ya, n32 b' = yb, n32 c' = yc, n32 e' = yd
  rw [Op.equalIn]
  simp only [Sem.run_bind, run_underlying Tryz.underlying24, Result.andThen_ok, size22]
  simp only [Std.Legacy.Range.forIn_eq_forIn_range', Std.Legacy.Range.size, List.range', Nat.sub_zero, Nat.add_one_sub_one, Nat.div_one, List.forIn_cons, List.forIn_nil, Sem.run_bind, Nat.mul_one, part22_0, Result.andThen_ok, Nat.zero_add, Nat.reduceAdd, eqInt22]
  cases h0 : xa == ya <;> cases h1 : xb == yb <;> cases h2 : xc == yc <;> cases h3 : xd == yd <;> simp [part22_1, part22_2, part22_3, eqInt22, h1, h2, h3, Result.andThen]
theorem part27_0 (w : World) (a b c d e : Value) : (part 24 #[a, b, c, d, e] 0).run Tryz.prog w = .ok (.agg #[a, b, c, d]) w := by kernel_rfl
theorem part27_1 (w : World) (a b c d e : Value) : (part 25 #[a, b, c, d, e] 4).run Tryz.prog w = .ok e w := by kernel_rfl
theorem fields27 : (Tryz.prog.fieldsOf 27).toList = [{ name := "Key", type := 24, offset := 0, embedded := false, tag := "", pkgPath := "", byteOffset := 0 }, { name := "Next", type := 25, offset := 4, embedded := false, tag := "", pkgPath := "", byteOffset := 16 }] := by kernel_rfl
theorem under27 : Tryz.prog.underlying 27 = some (.struct (Tryz.prog.fieldsOf 27)) := by kernel_rfl
theorem held27 : Tryz.prog.stoodInHeld 27 = false := by kernel_rfl
theorem part27_a (w : World) (s : St) (n : Nx) : (part 24 (rgC s n) 0).run Tryz.prog w = .ok (stV s) w := part27_0 w _ _ _ _ _
theorem part27_b (w : World) (s : St) (n : Nx) : (part 25 (rgC s n) 4).run Tryz.prog w = .ok (u64v n) w := part27_1 w _ _ _ _ _
theorem eql_ring (w : World) (s : St) (n : Nx) : (binOp .eql 27 (rgV s n) (rgV s n)).run Tryz.prog w = .ok (.bool true) w := by
  have h : (Op.equalIn 10000 27 (rgV s n) (rgV s n)).run Tryz.prog w = .ok true w := by
    rw [show (10000 : Nat) = 9999 + 1 from rfl, run_equalIn_struct w _ 27 _ _ under27 held27, fields27]
    have e1 : (Op.equalIn 9999 24 (stV s) (stV s)).run Tryz.prog w = .ok true w := by
      have := equalIn_stD 9997 w s s
      rwa [sameS_self] at this
    have e2 : (Op.equalIn 9999 25 (u64v n) (u64v n)).run Tryz.prog w = .ok true w := by
      have := run_equalIn_int (P := Tryz.prog) w 9998 25 .u64 .u64 (n64 n) (n64 n) Tryz.underlying25
      simpa using this
    simp [Op.eqFields, part27_a, part27_b, e1, e2, Result.andThen]
  rw [run_eql_struct, h]
  rfl
theorem guard27 : Tryz.prog.eqGuardType Tryz.prog.depth 27 = false := by kernel_rfl
end Go.Proofs.YthkccpemgmpadaaGreatDoor
