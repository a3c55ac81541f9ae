import Derived.Test.YthkccpemgmpadaaGreatDoorU37
/- only Z -/
namespace Go.Proofs.YthkccpemgmpadaaGreatDoor
set_option maxRecDepth 100000
open Go.RowKit
set_option maxHeartbeats 4000000 in
theorem rSeal_good (s : St) (n : Nx) (v : Value) (b : List UInt8) (w : World) (h : Bs 0 w.heap.size w v b) (hl : b.length ≤ 1000) (hn : n ≠ 18446744073709551615#64) :
    Calls Tryz.prog 14 #[rgV s n, v] w fun e w' => ∃ A c, e = .returned (.tuple #[.slice A (sealS s n b).length c, rgV s (n + 1#64), .int .i64 0]) ∧ OwnB w' w.heap.size (.slice A (sealS s n b).length c) (sealS s n b) ∧ Below w.heap.size w w' := by
  have hpl := pkU_le (b := b) (by omega)
  have hP := fun W (hb : Below w.heap.size w W) => rPack_u 0 v b W (h.to hb) hl
  have hE := fun v2 W (h2 : Bs 0 W.heap.size W v2 (pkU b)) => SealR_good s n v2 (pkU b) W h2 (by omega) hn
  have hH := hid_len s n (pkU b)
  have hB := fun v3 W (h3 : Bs 0 W.heap.size W v3 (hidF s n (pkU b))) => BytesR_good n v3 (hidF s n (pkU b)) (tagF s n (hidF s n (pkU b))) W h3 (by omega)
  have hyl : (bytesF ⟨n, hidF s n (pkU b), tagF s n (hidF s n (pkU b))⟩).length ≤ 900000 := by rw [bytes_len]; show (hidF s n (pkU b)).length + 24 ≤ _; omega
  have hC := fun v4 W (h4 : Bs 0 W.heap.size W v4 (bytesF ⟨n, hidF s n (pkU b), tagF s n (hidF s n (pkU b))⟩)) => rseal_u 0 v4 _ W h4 hyl
  have hZ : sealS s n b = C.sealL (bytesF ⟨n, hidF s n (pkU b), tagF s n (hidF s n (pkU b))⟩) := rfl
  rw [hZ]
  unfold Ans at hP
  simp only [] at hP
  obtain ⟨A, c, rfl⟩ := h.form
  generalize C.sealL (bytesF ⟨n, hidF s n (pkU b), tagF s n (hidF s n (pkU b))⟩) = Z at *
  generalize bytesF ⟨n, hidF s n (pkU b), tagF s n (hidF s n (pkU b))⟩ = Y at *
  generalize tagF s n (hidF s n (pkU b)) = T at *
  generalize hidF s n (pkU b) = Hh at *
  generalize pkU b = Pk at *
  generalize b.length = mb at *
  obtain ⟨mp, hmp⟩ : ∃ mp, Pk.length = mp := ⟨_, rfl⟩
  rw [hmp] at hP hE hH
  generalize Y.length = my at *
  obtain ⟨mz, hmz⟩ : ∃ mz, Z.length = mz := ⟨_, rfl⟩
  rw [hmz] at hC ⊢
  have X0 : Fx w ((w.alloc (.cells (rgC s n) 27)).alloc (.cells zRg 27)) [(w.heap.size, 27, rgC s n), (w.heap.size + 1, 27, zRg)] [] [] := ((Fx.nil w).newB w.heap.size rfl (rgC s n) 27).newB (w.heap.size + 1) (by simp) zRg 27
  replace X0 := hide X0; replace hP := hide hP; replace hE := hide hE; replace hB := hide hB; replace hC := hide hC; replace hH := hide hH; replace hmp := hide hmp; replace hmz := hide hmz
  clear h hl hn hZ hpl hyl
  go_enter Tryz.func14, Tryz.ntmps14
  go_upto_region 1 with (fail)
  generalize hW : World.alloc (World.alloc w _) _ = W at *
  clear hW
  have c0 : W.cell? ⟨w.heap.size, 0, none⟩ = some (u32v s.a) := ((unhide X0).get 0 rfl).cell 0
  have c1 : W.cell? ⟨w.heap.size, 1, none⟩ = some (u32v s.b) := ((unhide X0).get 0 rfl).cell 1
  have c2 : W.cell? ⟨w.heap.size, 2, none⟩ = some (u32v s.c) := ((unhide X0).get 0 rfl).cell 2
  have c3 : W.cell? ⟨w.heap.size, 3, none⟩ = some (u32v s.d) := ((unhide X0).get 0 rfl).cell 3
  have c4 : W.cell? ⟨w.heap.size, 4, none⟩ = some (u64v n) := ((unhide X0).get 0 rfl).cell 4
  go_upto_region 10 with (first
    | (go_at_call 32; refine (unhide hP _ (unhide X0).bl).mono ?_; rintro e w2 ⟨A2, c2, rfl, o2, hb2⟩
       have X2 : Fx w w2 [(w.heap.size, 27, rgC s n), (w.heap.size + 1, 27, zRg)] [] [(.slice A2 mp c2, Pk)] := Fx.addZ ((unhide X0).call hb2) (Bs.of_own0 o2)
       have d0 : w2.cell? ⟨w.heap.size, 0, none⟩ = some (u32v s.a) := (X2.get 0 rfl).cell 0
       have d1 : w2.cell? ⟨w.heap.size, 1, none⟩ = some (u32v s.b) := (X2.get 0 rfl).cell 1
       have d2 : w2.cell? ⟨w.heap.size, 2, none⟩ = some (u32v s.c) := (X2.get 0 rfl).cell 2
       have d3 : w2.cell? ⟨w.heap.size, 3, none⟩ = some (u32v s.d) := (X2.get 0 rfl).cell 3
       have d4 : w2.cell? ⟨w.heap.size, 4, none⟩ = some (u64v n) := (X2.get 0 rfl).cell 4
       replace X2 := hide X2
       clear o2 hb2)
    | (go_at_call 33; refine (unhide hE _ _ ((unhide X2).rd 0 rfl)).mono ?_; rintro e w3 ⟨A3, c3, rfl, o3, hb3⟩
       have X3' : Fx w w3 [(w.heap.size, 27, rgC s n), (w.heap.size + 1, 27, zRg)] [] [(.slice A3 mp c3, Hh)] := Fx.addZ (Fx.sub (Z' := []) ((unhide X2).call hb3) (fun _ h => h) (fun _ h => h) (fun _ h => (nomatch h))) (Bs.of_own0 o3)
       have X3 : Fx w ((w3.alloc (.cells (bxC n (.slice A3 mp c3) T) 55)).alloc (.cells (rgC s (n + 1#64)) 27)) [(w.heap.size, 27, rgC s n), (w.heap.size + 1, 27, zRg), (w3.heap.size, 55, bxC n (.slice A3 mp c3) T), (w3.heap.size + 1, 27, rgC s (n + 1#64))] [] [(.slice A3 mp c3, Hh)] := (X3'.newB w3.heap.size rfl (bxC n (.slice A3 mp c3) T) 55).newB (w3.heap.size + 1) (by simp) (rgC s (n + 1#64)) 27
       replace X3 := hide X3
       clear o3 hb3 X3')
    | (go_at_call 34; refine (unhide hB _ _ ((unhide X3).rd 0 rfl)).mono ?_; rintro e w4 ⟨A4, c4', rfl, o4, hb4⟩
       have X4 : Fx w w4 [(w.heap.size, 27, rgC s n), (w.heap.size + 1, 27, zRg), (w3.heap.size, 55, bxC n (.slice A3 mp c3) T), (w3.heap.size + 1, 27, rgC s (n + 1#64))] [] [(.slice A4 my c4', Y)] := Fx.addZ (Fx.sub (Z' := []) ((unhide X3).call hb4) (fun _ h => h) (fun _ h => h) (fun _ h => (nomatch h))) (Bs.of_own0 o4)
       replace X4 := hide X4
       clear o4 hb4)
    | fail)
  generalize w3.heap.size = g3 at *
  have p0 : w4.cell? ⟨g3 + 1, 0, none⟩ = some (u32v s.a) := ((unhide X4).get 3 rfl).cell 0
  have p1 : w4.cell? ⟨g3 + 1, 1, none⟩ = some (u32v s.b) := ((unhide X4).get 3 rfl).cell 1
  have p2 : w4.cell? ⟨g3 + 1, 2, none⟩ = some (u32v s.c) := ((unhide X4).get 3 rfl).cell 2
  have p3 : w4.cell? ⟨g3 + 1, 3, none⟩ = some (u32v s.d) := ((unhide X4).get 3 rfl).cell 3
  have p4 : w4.cell? ⟨g3 + 1, 4, none⟩ = some (u64v (n + 1#64)) := ((unhide X4).get 3 rfl).cell 4
  have q0 : w4.frozen? ⟨w.heap.size + 1, 0, none⟩ = false := ((unhide X4).get 1 rfl).frozen 0
  have q1 : w4.frozen? ⟨w.heap.size + 1, 1, none⟩ = false := ((unhide X4).get 1 rfl).frozen 1
  have q2 : w4.frozen? ⟨w.heap.size + 1, 2, none⟩ = false := ((unhide X4).get 1 rfl).frozen 2
  have q3 : w4.frozen? ⟨w.heap.size + 1, 3, none⟩ = false := ((unhide X4).get 1 rfl).frozen 3
  have q4 : w4.frozen? ⟨w.heap.size + 1, 4, none⟩ = false := ((unhide X4).get 1 rfl).frozen 4
  go_region_law (first
    | (go_simp; go_at_call 35; refine (unhide hC _ _ (by first | exact (unhide X4).rd 0 rfl | exact ((unhide X4).drew).rd 0 rfl)).mono ?_; rintro e w5 ⟨A5, c5, rfl, o5, hb5⟩
       have X5 := (unhide X4).drew.call hb5
       have r0 : w5.cell? ⟨g3 + 1, 0, none⟩ = some (u32v s.a) := (X5.get 3 rfl).cell 0
       have r1 : w5.cell? ⟨g3 + 1, 1, none⟩ = some (u32v s.b) := (X5.get 3 rfl).cell 1
       have r2 : w5.cell? ⟨g3 + 1, 2, none⟩ = some (u32v s.c) := (X5.get 3 rfl).cell 2
       have r3 : w5.cell? ⟨g3 + 1, 3, none⟩ = some (u32v s.d) := (X5.get 3 rfl).cell 3
       have r4 : w5.cell? ⟨g3 + 1, 4, none⟩ = some (u64v (n + 1#64)) := (X5.get 3 rfl).cell 4
       have u0 : w5.cell? ⟨w.heap.size + 1, 0, none⟩ = some (.int .u32 0) := (X5.get 1 rfl).cell 0
       have u1 : w5.cell? ⟨w.heap.size + 1, 1, none⟩ = some (.int .u32 0) := (X5.get 1 rfl).cell 1
       have u2 : w5.cell? ⟨w.heap.size + 1, 2, none⟩ = some (.int .u32 0) := (X5.get 1 rfl).cell 2
       have u3 : w5.cell? ⟨w.heap.size + 1, 3, none⟩ = some (.int .u32 0) := (X5.get 1 rfl).cell 3
       have u4 : w5.cell? ⟨w.heap.size + 1, 4, none⟩ = some (.int .u64 0) := (X5.get 1 rfl).cell 4
       have t0 : w5.frozen? ⟨w.heap.size + 1, 0, none⟩ = false := (X5.get 1 rfl).frozen 0
       have t1 : w5.frozen? ⟨w.heap.size + 1, 1, none⟩ = false := (X5.get 1 rfl).frozen 1
       have t2 : w5.frozen? ⟨w.heap.size + 1, 2, none⟩ = false := (X5.get 1 rfl).frozen 2
       have t3 : w5.frozen? ⟨w.heap.size + 1, 3, none⟩ = false := (X5.get 1 rfl).frozen 3
       have t4 : w5.frozen? ⟨w.heap.size + 1, 4, none⟩ = false := (X5.get 1 rfl).frozen 4
       have o5' := hide (ownsRow_mono (base' := w.heap.size) o5 (unhide X4).bl.size)
       replace X5 := hide X5
       clear o5 hb5)
    | fail)
  all_goals
    have X6 := unhide X5
    have R6 : Blk _ (w.heap.size + 1) 27 (rgC s (n + 1#64)) := Blk.set5 (x := u32v s.a) (y := u32v s.b) (z := u32v s.c) (u := u32v s.d) (q := u64v (n + 1#64)) (X6.get 1 rfl)
    have b6 := below_set5 (g := w.heap.size + 1) (x := u32v s.a) (y := u32v s.b) (z := u32v s.c) (u := u32v s.d) (q := u64v (n + 1#64)) X6.bl (Nat.le_succ _)
    have o6 := own_set5 (x := u32v s.a) (y := u32v s.b) (z := u32v s.c) (u := u32v s.d) (q := u64v (n + 1#64)) (unhide o5') (X6.get 1 rfl) (by decide)
    replace R6 := hide R6; replace b6 := hide b6; replace o6 := hide o6
    clear X6
    go_wp2_with fail
    exact ret_srt rfl (w.heap.size + 1) (.slice A5 mz c5) (rgC s (n + 1#64)) (.int .i64 0) rfl rfl rfl rfl (unhide R6) rfl ⟨A5, c5, rfl, unhide o6, unhide b6⟩
set_option maxHeartbeats 4000000 in
theorem rSeal_full (s : St) (n : Nx) (v : Value) (b : List UInt8) (w : World) (h : Bs 0 w.heap.size w v b) (hl : b.length ≤ 1000) (hn : n = 18446744073709551615#64) :
    Calls Tryz.prog 14 #[rgV s n, v] w fun e w' => e = .returned (.tuple #[.slice none 0 0, .agg zRg, .int .i64 6]) ∧ Below w.heap.size w w' := by
  have hpl := pkU_le (b := b) (by omega)
  have hP := fun W (hb : Below w.heap.size w W) => rPack_u 0 v b W (h.to hb) hl
  have hE := fun v2 W (h2 : Bs 0 W.heap.size W v2 (pkU b)) => SealR_full 0 s v2 (pkU b) W h2 (by omega)
  rw [← hn] at hE
  unfold Ans at hP
  simp only [] at hP
  obtain ⟨A, c, rfl⟩ := h.form
  generalize pkU b = Pk at *
  generalize b.length = mb at *
  obtain ⟨mp, hmp⟩ : ∃ mp, Pk.length = mp := ⟨_, rfl⟩
  rw [hmp] at hP
  have X0 : Fx w ((w.alloc (.cells (rgC s n) 27)).alloc (.cells zRg 27)) [(w.heap.size, 27, rgC s n), (w.heap.size + 1, 27, zRg)] [] [] := ((Fx.nil w).newB w.heap.size rfl (rgC s n) 27).newB (w.heap.size + 1) (by simp) zRg 27
  replace X0 := hide X0; replace hP := hide hP; replace hE := hide hE
  clear h hl hn hpl hmp
  go_enter Tryz.func14, Tryz.ntmps14
  go_upto_region 1 with (fail)
  generalize hW : World.alloc (World.alloc w _) _ = W at *
  clear hW
  have c0 : W.cell? ⟨w.heap.size, 0, none⟩ = some (u32v s.a) := ((unhide X0).get 0 rfl).cell 0
  have c1 : W.cell? ⟨w.heap.size, 1, none⟩ = some (u32v s.b) := ((unhide X0).get 0 rfl).cell 1
  have c2 : W.cell? ⟨w.heap.size, 2, none⟩ = some (u32v s.c) := ((unhide X0).get 0 rfl).cell 2
  have c3 : W.cell? ⟨w.heap.size, 3, none⟩ = some (u32v s.d) := ((unhide X0).get 0 rfl).cell 3
  have c4 : W.cell? ⟨w.heap.size, 4, none⟩ = some (u64v n) := ((unhide X0).get 0 rfl).cell 4
  go_upto_region 6 with (first
    | (go_at_call 32; refine (unhide hP _ (unhide X0).bl).mono ?_; rintro e w2 ⟨A2, c2, rfl, o2, hb2⟩
       have X2 : Fx w w2 [(w.heap.size, 27, rgC s n), (w.heap.size + 1, 27, zRg)] [] [(.slice A2 mp c2, Pk)] := Fx.addZ ((unhide X0).call hb2) (Bs.of_own0 o2)
       have d0 : w2.cell? ⟨w.heap.size, 0, none⟩ = some (u32v s.a) := (X2.get 0 rfl).cell 0
       have d1 : w2.cell? ⟨w.heap.size, 1, none⟩ = some (u32v s.b) := (X2.get 0 rfl).cell 1
       have d2 : w2.cell? ⟨w.heap.size, 2, none⟩ = some (u32v s.c) := (X2.get 0 rfl).cell 2
       have d3 : w2.cell? ⟨w.heap.size, 3, none⟩ = some (u32v s.d) := (X2.get 0 rfl).cell 3
       have d4 : w2.cell? ⟨w.heap.size, 4, none⟩ = some (u64v n) := (X2.get 0 rfl).cell 4
       replace X2 := hide X2
       clear o2 hb2)
    | (go_at_call 33; refine (unhide hE _ _ ((unhide X2).rd 0 rfl)).mono ?_; rintro e w3 ⟨rfl, hb3⟩
       have X3 : Fx w ((w3.alloc (.cells zBx 55)).alloc (.cells zRg 27)) [(w.heap.size, 27, rgC s n), (w.heap.size + 1, 27, zRg)] [] [] := ((Fx.sub (Z' := []) ((unhide X2).call hb3) (fun _ h => h) (fun _ h => h) (fun _ h => (nomatch h))).alloc _).alloc _
       replace X3 := hide X3
       clear hb3)
    | fail)
  generalize hW4 : World.alloc (World.alloc w3 _) _ = w4 at *
  clear hW4
  have B1 := (unhide X3).get 1 rfl
  have b3 := (unhide X3).bl
  have F1 : Blk (w4.setRow (w.heap.size + 1) zRg) (w.heap.size + 1) 27 zRg := B1.row zRg
  replace B1 := hide B1; replace F1 := hide F1; replace b3 := hide b3
  go_wp2_with (first
    | (refine wpList_store_row rfl 27 (.tmp 5) (.tmp 30) rfl (w.heap.size + 1) zRg rfl rfl 27 zRg (unhide B1) size27 rfl zrg_one ?_)
    | fail)
  exact ret_srt rfl (w.heap.size + 1) (.slice none 0 0) zRg (.int .i64 6) rfl rfl rfl rfl (unhide F1) rfl ⟨rfl, bl_row (unhide b3) _ (by omega)⟩
end Go.Proofs.YthkccpemgmpadaaGreatDoor
