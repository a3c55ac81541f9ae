import Derived.Test.YthkccpemgmpadaaGreatDoorYE
/- only Z -/
namespace Go.Proofs.YthkccpemgmpadaaGreatDoor
set_option maxRecDepth 100000
open Go.RowKit
set_option maxHeartbeats 4000000 in
theorem rBuild_good1 (s : St) (n : Nx) (v : Value) (l : List (List UInt8)) (w : World) (h : Bss w.heap.size w v l) (hn : l.length ≤ 1000) (hL : l.flatten.length ≤ 1000) (hne : n ≠ 18446744073709551615#64) (b off c : Nat) (hv : v = .slice (some ⟨b, off, none⟩) l.length c) (ht : Tx b off w l) :
    Calls Tryz.prog 8 #[rgV s n, v] w fun e w' => ∃ A c A2 c2, e = .returned (.tuple #[.slice A (sealS s n l.flatten).length c, .slice A2 l.length c2, rgV s (n + 1#64), .int .i64 0]) ∧ OwnB w' w.heap.size (.slice A (sealS s n l.flatten).length c) (sealS s n l.flatten) ∧ w'.ownsRow w.heap.size 44 3 (.slice A2 l.length c2) l.length ((pcsF 0 l).flatMap pcL) ∧ Below w.heap.size w w' := by
  have hS := fun v2 W (hb : Below w.heap.size w W) (h2 : Bs 0 W.heap.size W v2 l.flatten) => rSeal_good s n v2 l.flatten W h2 hL hne
  subst hv
  have hfl := C.flat_le l
  rw [upto_eq] at hfl
  have hSum := fun k (hk : k < l.length) (A : Option Addr) (c : Nat) (W : World) (h : Bs 0 W.heap.size W (.slice A l[k].length c) l[k]) => rsum_u 0 W.heap.size _ l[k] W h
  obtain ⟨ip, hip, pz0, pz1, pz2⟩ := info_parts infoP
  obtain ⟨i0, hi0, hz0, hz1, hz2⟩ := info_parts info5
  obtain ⟨ml, hml⟩ : ∃ ml, ml = l.length := ⟨_, rfl⟩
  have hT : l.flatten = C.cat l ml := by rw [hml, cat_eq]
  have he : pcsF 0 l = pcsF 0 (l.take ml) := by rw [hml, List.take_length]
  rw [he]
  rw [hT] at hS
  rw [hT]
  rw [← hml] at hn ⊢
  generalize sealS s n (C.cat l ml) = Z at *
  obtain ⟨mz, hmz⟩ : ∃ mz, Z.length = mz := ⟨_, rfl⟩
  rw [hmz] at hS ⊢
  have X0 : Fx w ((w.alloc (.cells (rgC s n) 27)).alloc (.cells zRg 27)) [(w.heap.size, 27, rgC s n), (w.heap.size + 1, 27, zRg)] [] [] := ((Fx.nil w).newB w.heap.size rfl (rgC s n) 27).newB (w.heap.size + 1) (by simp) zRg 27
  replace X0 := hide X0; replace hS := hide hS
  replace ht := hide ht; replace hfl := hide hfl; replace hSum := hide hSum; replace hml := hide hml
  have hL2 : ∀ k, C.upto l k ≤ 1000 := fun k => Nat.le_trans (unhide hfl k) hL
  replace hL2 := hide hL2
  clear h hL hne hT hmz he
  go_enter Tryz.func8, Tryz.ntmps8
  go_upto_region 1 with (fail)
  generalize hW : World.alloc (World.alloc w _) _ = W at *
  clear hW
  have l1 := ((unhide X0).get 1 rfl).lt
  go_wp2_with fail
  go_loopw [8, 9, 17] (fun s8 s9 s17 wr => ∃ (k c1 c2 : Nat) (A1 A2 : Option Addr), k ≤ ml ∧ s17 = .int .i64 k ∧ s8 = .slice A1 (C.upto l k) c1 ∧ s9 = .slice A2 k c2 ∧ Hid (wr.ownsRow (w.heap.size + 2) 5 1 (.slice A1 (C.upto l k) c1) (C.upto l k) ((C.cat l k).map u8v)) ∧ Hid (wr.ownsRow (w.heap.size + 2) 44 3 (.slice A2 k c2) k ((pcsF 0 (l.take k)).flatMap pcL)) ∧ Hid (Fx w wr [(w.heap.size, 27, rgC s n), (w.heap.size + 1, 27, zRg)] [] []) ∧ Hid (w.heap.size + 2 ≤ wr.heap.size)) (fun _ _ i _ => ml - (intOf i).toNat)
  case atStart => exact ⟨0, 0, 0, none, none, by omega, rfl, rfl, rfl, hide (World.ownsRow_nil _ _ _ _), hide (World.ownsRow_nil _ _ _ _), X0, hide (by omega)⟩
  case round =>
    obtain ⟨k, c1, c2, A1, A2, hk, rfl, rfl, rfl, o2, q2, X2, b2⟩ := hrel
    by_cases hlt : k < ml
    · have hlt' : k < l.length := by rw [← unhide hml]; exact hlt
      obtain ⟨A, c, hc0, hx0⟩ := (unhide ht).at_ k hlt'
      have hc := ((unhide X2).bl.cell (p := ⟨b, off + k, none⟩) (unhide ht).lt).trans hc0
      have hx := hx0.to (unhide X2).bl
      have hbl := Nat.lt_of_lt_of_le (unhide ht).lt (unhide X2).bl.size
      have ha : C.cat l (k + 1) = C.cat l k ++ l[k] := C.cat_succ hlt'
      have ha' : C.upto l (k + 1) = C.upto l k + l[k].length := C.upto_succ hlt'
      have hb := unhide hL2 (k + 1)
      rw [ha'] at hb
      have hq := unhide hSum k hlt' A c
      have hp := pcs_take l k hlt'
      obtain ⟨p, hp0⟩ : ∃ p : Pc, p = ⟨(C.upto l k : Nat), l[k].length, C.sumR l[k]⟩ := ⟨_, rfl⟩
      rw [← hp0] at hp
      have hfp := flat_pc (pcsF 0 (l.take k)) p
      rw [← hp] at hfp
      have hpc : pcC p = #[.int .i64 (C.upto l k : Nat), .int .i64 l[k].length, u32v (C.sumR l[k])] := by rw [hp0]; rfl
      have hp1 := pcL_one p
      have hpl : (pcL p).length = 1 * 3 := rfl
      have hnl : (l[k].map u8v).length = l[k].length * 1 := by simp
      have hno := u8s_one l[k]
      generalize C.sumR l[k] = S at *
      generalize l[k] = N at *
      generalize hm : C.upto l k = m at *
      have u1 : k + 1 ≤ maxLen := by simp only [maxLen]; omega
      have u2 : (k + 1) * 24 ≤ 140737488355328 := by omega
      have y1 : m + N.length ≤ maxLen := by simp only [maxLen]; omega
      have y2 : (m + N.length) * 1 ≤ 140737488355328 := by omega
      replace ha := hide ha; replace ha' := hide ha'; replace hq := hide hq; replace hfp := hide hfp; replace hpc := hide hpc; replace hp1 := hide hp1; replace u1 := hide u1; replace u2 := hide u2; replace hx := hide hx; replace hx0 := hide hx0; replace hpl := hide hpl; replace y1 := hide y1; replace y2 := hide y2; replace hnl := hide hnl; replace hno := hide hno
      clear hp hp0 hb hc0
      go_wp2_with (first
        | (go_at_call 22; refine (unhide hq _ (unhide hx)).mono ?_; rintro e wz ⟨rfl, rfl⟩)
        | (at_builtin
           refine wpList_app _ rfl (.tmp 21) (.tmp 29) 32 rfl (w.heap.size + 2) 44 ip _ 3 24 Tryz.underlying32 hip pz0 pz1 pz2 rfl (Nat.succ_pos _) _ k ((pcsF 0 (l.take k)).flatMap pcL) rfl ((unhide q2).alloc _) (some ⟨wr.heap.size, 0, none⟩) 1 1 (pcL p) rfl (unhide hpl) (pc_src (by rw [unhide hpc]; exact Blk.new rfl)) (unhide hp1) (unhide u1) (unhide u2) (by have := unhide b2; simp; omega) ?_
           intro v3 w3 q3 hg3
           obtain ⟨A3, c3, rfl⟩ := ownsRow_form q3
           rw [unhide hfp] at q3
           have X3 := ((unhide X2).alloc (.cells #[.int .i64 m, .int .i64 N.length, u32v S] 44)).rows ((unhide q2).alloc _) hg3 (by omega) (by simp) (by have := unhide b2; simp; omega)
           have o3 := own_other ((unhide o2).alloc _) ((unhide q2).alloc _) (by decide) hg3
           have b3 : w.heap.size + 2 ≤ w3.heap.size := by have := unhide b2; have := hg3.size; simp at this; omega
           have x3 := hide ((unhide hx0).to X3.bl)
           replace X3 := hide X3; replace o3 := hide o3; replace q3 := hide q3; replace b3 := hide b3
           clear hg3)
        | (at_builtin
           refine wpList_app _ rfl (.tmp 31) (.tmp 32) 29 rfl (w.heap.size + 2) 5 i0 _ 1 1 Tryz.underlying29 hi0 hz0 hz1 hz2 rfl (Nat.succ_pos _) _ m ((C.cat l k).map u8v) rfl (unhide o3) A N.length c (N.map u8v) rfl (unhide hnl) (unhide x3).src.2 (unhide hno) (unhide y1) (unhide y2) (unhide b3) ?_
           intro v4 w4 o4 hg4
           obtain ⟨A4, c4, rfl⟩ := ownsRow_form o4
           rw [show (C.cat l k).map u8v ++ N.map u8v = (C.cat l (k + 1)).map u8v by rw [unhide ha, List.map_append], ← unhide ha'] at o4
           have X4 := (unhide X3).rows (unhide o3) hg4 (by omega) (by simp) (unhide b3)
           have q4 := own_other (unhide q3) (unhide o3) (by decide) hg4
           have b4 : w.heap.size + 2 ≤ w4.heap.size := Nat.le_trans (unhide b3) hg4.size
           replace X4 := hide X4; replace o4 := hide o4; replace q4 := hide q4; replace b4 := hide b4
           clear hg4)
        | fail)
      go_roundw
      case rel => exact ⟨k + 1, c4, c3, A4, A3, by omega, by go_num, by rw [unhide ha'], rfl, o4, q4, X4, b4⟩
      case measure => simp [intOf]; omega
    · obtain rfl : k = ml := by omega
      have o5 := o2; have q5 := q2; have X5 := X2
      have b5 := unhide b2
      have m5 : C.upto l k ≤ 1000 := unhide hL2 k
      clear o2 q2 X2 b2
      have hc0 : wr.cell? ⟨w.heap.size, 0, none⟩ = some (u32v s.a) := ((unhide X5).get 0 rfl).cell 0
      have hc1 : wr.cell? ⟨w.heap.size, 1, none⟩ = some (u32v s.b) := ((unhide X5).get 0 rfl).cell 1
      have hc2 : wr.cell? ⟨w.heap.size, 2, none⟩ = some (u32v s.c) := ((unhide X5).get 0 rfl).cell 2
      have hc3 : wr.cell? ⟨w.heap.size, 3, none⟩ = some (u32v s.d) := ((unhide X5).get 0 rfl).cell 3
      have hc4 : wr.cell? ⟨w.heap.size, 4, none⟩ = some (u64v n) := ((unhide X5).get 0 rfl).cell 4
      go_upto_region 14 with (first
        | (go_at_call 14; refine (unhide hS _ _ (unhide X5).bl (bs_row2 (unhide o5))).mono ?_; rintro e w6 ⟨A6, c6, rfl, o6, hb6⟩
           have X6 := ((unhide X5).call hb6).newB w6.heap.size rfl (rgC s (n + 1#64)) 27
           have bg := bl_alloc (Below.refl w6.heap.size w6) (.cells (rgC s (n + 1#64)) 27)
           have o6' := hide (own_below (ownsRow_mono (base' := w.heap.size) o6 (unhide X5).bl.size) bg (Nat.le_refl _))
           have q6 := hide (own_below (own_below (ownsRow_mono (base' := w.heap.size) (unhide q5) (by omega)) hb6 (Nat.le_refl _)) bg (Nat.le_refl _))
           replace X6 := hide X6
           clear o6 hb6 bg)
        | fail)
      generalize w6.heap.size = g6 at *
      generalize hW7 : World.alloc w6 _ = w7 at *
      clear hW7
      have r0 : w7.cell? ⟨g6, 0, none⟩ = some (u32v s.a) := ((unhide X6).get 2 rfl).cell 0
      have r1 : w7.cell? ⟨g6, 1, none⟩ = some (u32v s.b) := ((unhide X6).get 2 rfl).cell 1
      have r2 : w7.cell? ⟨g6, 2, none⟩ = some (u32v s.c) := ((unhide X6).get 2 rfl).cell 2
      have r3 : w7.cell? ⟨g6, 3, none⟩ = some (u32v s.d) := ((unhide X6).get 2 rfl).cell 3
      have r4 : w7.cell? ⟨g6, 4, none⟩ = some (u64v (n + 1#64)) := ((unhide X6).get 2 rfl).cell 4
      have u0 : w7.cell? ⟨w.heap.size + 1, 0, none⟩ = some (.int .u32 0) := ((unhide X6).get 1 rfl).cell 0
      have u1 : w7.cell? ⟨w.heap.size + 1, 1, none⟩ = some (.int .u32 0) := ((unhide X6).get 1 rfl).cell 1
      have u2 : w7.cell? ⟨w.heap.size + 1, 2, none⟩ = some (.int .u32 0) := ((unhide X6).get 1 rfl).cell 2
      have u3 : w7.cell? ⟨w.heap.size + 1, 3, none⟩ = some (.int .u32 0) := ((unhide X6).get 1 rfl).cell 3
      have u4 : w7.cell? ⟨w.heap.size + 1, 4, none⟩ = some (.int .u64 0) := ((unhide X6).get 1 rfl).cell 4
      have t0 : w7.frozen? ⟨w.heap.size + 1, 0, none⟩ = false := ((unhide X6).get 1 rfl).frozen 0
      have t1 : w7.frozen? ⟨w.heap.size + 1, 1, none⟩ = false := ((unhide X6).get 1 rfl).frozen 1
      have t2 : w7.frozen? ⟨w.heap.size + 1, 2, none⟩ = false := ((unhide X6).get 1 rfl).frozen 2
      have t3 : w7.frozen? ⟨w.heap.size + 1, 3, none⟩ = false := ((unhide X6).get 1 rfl).frozen 3
      have t4 : w7.frozen? ⟨w.heap.size + 1, 4, none⟩ = false := ((unhide X6).get 1 rfl).frozen 4
      go_region
      all_goals
        have X8 := unhide X6
        have R8 : Blk _ (w.heap.size + 1) 27 (rgC s (n + 1#64)) := Blk.set5 (x := u32v s.a) (y := u32v s.b) (z := u32v s.c) (u := u32v s.d) (q := u64v (n + 1#64)) (X8.get 1 rfl)
        have b8 := below_set5 (g := w.heap.size + 1) (x := u32v s.a) (y := u32v s.b) (z := u32v s.c) (u := u32v s.d) (q := u64v (n + 1#64)) X8.bl (Nat.le_succ _)
        have o8 := own_set5 (x := u32v s.a) (y := u32v s.b) (z := u32v s.c) (u := u32v s.d) (q := u64v (n + 1#64)) (unhide o6') (X8.get 1 rfl) (by decide)
        have p8 := own_set5 (x := u32v s.a) (y := u32v s.b) (z := u32v s.c) (u := u32v s.d) (q := u64v (n + 1#64)) (unhide q6) (X8.get 1 rfl) (by decide)
        replace R8 := hide R8; replace b8 := hide b8; replace o8 := hide o8; replace p8 := hide p8
        clear X8
        go_wp2_with fail
        exact ret_sprt rfl (w.heap.size + 1) (.slice A6 mz c6) (.slice A2 k c2) (rgC s (n + 1#64)) (.int .i64 0) rfl rfl rfl rfl rfl (unhide R8) rfl ⟨A6, c6, A2, c2, rfl, unhide o8, unhide p8, (unhide b8).drew⟩
set_option maxHeartbeats 4000000 in
theorem rBuild_good (s : St) (n : Nx) (v : Value) (l : List (List UInt8)) (w : World) (h : Bss w.heap.size w v l) (hn : l.length ≤ 1000) (hL : l.flatten.length ≤ 1000) (hne : n ≠ 18446744073709551615#64) :
    Calls Tryz.prog 8 #[rgV s n, v] w fun e w' => ∃ A c A2 c2, e = .returned (.tuple #[.slice A (sealS s n l.flatten).length c, .slice A2 l.length c2, rgV s (n + 1#64), .int .i64 0]) ∧ OwnB w' w.heap.size (.slice A (sealS s n l.flatten).length c) (sealS s n l.flatten) ∧ w'.ownsRow w.heap.size 44 3 (.slice A2 l.length c2) l.length ((pcsF 0 l).flatMap pcL) ∧ Below w.heap.size w w' := by
  rcases h.parts with ⟨hl0, A, c, hv⟩ | ⟨b, off, c, hv, ht⟩
  · exact rBuild_good0 s n v l w h hn hL hne A c hv hl0
  · exact rBuild_good1 s n v l w h hn hL hne b off c hv ht
end Go.Proofs.YthkccpemgmpadaaGreatDoor
