import Derived.Test.YthkccpemgmpadaaGreatDoorU35
namespace Go.Proofs.YthkccpemgmpadaaGreatDoor
set_option maxRecDepth 100000
open Go.RowKit
theorem Blk.set5 {w : World} {g : Nat} {t : TypeId} {a b c d e x y z u q : Value} (h : Blk w g t #[a, b, c, d, e]) : Blk (((((w.setCell ⟨g, 0, none⟩ x).setCell ⟨g, 1, none⟩ y).setCell ⟨g, 2, none⟩ z).setCell ⟨g, 3, none⟩ u).setCell ⟨g, 4, none⟩ q) g t #[x, y, z, u, q] := by
  simpa using ((((h.set 0 x).set 1 y).set 2 z).set 3 u).set 4 q
theorem below_set5 {B : Nat} {a w : World} {g : Nat} {x y z u q : Value} (h : Below B a w) (hg : B ≤ g) : Below B a (((((w.setCell ⟨g, 0, none⟩ x).setCell ⟨g, 1, none⟩ y).setCell ⟨g, 2, none⟩ z).setCell ⟨g, 3, none⟩ u).setCell ⟨g, 4, none⟩ q) :=
  ((((h.setCell hg x).setCell hg y).setCell hg z).setCell hg u).setCell hg q
theorem own_set5 {w : World} {base n size : Nat} {e t : TypeId} {v : Value} {xs : List Value} {g : Nat} {a b c d f x y z u q : Value} (h : w.ownsRow base e size v n xs) (hg : Blk w g t #[a, b, c, d, f]) (hne : e ≠ t) :
    (((((w.setCell ⟨g, 0, none⟩ x).setCell ⟨g, 1, none⟩ y).setCell ⟨g, 2, none⟩ z).setCell ⟨g, 3, none⟩ u).setCell ⟨g, 4, none⟩ q).ownsRow base e size v n xs :=
  own_far (own_far (own_far (own_far (own_far h hg hne 0 x) (hg.set 0 x) hne 1 y) ((hg.set 0 x).set 1 y) hne 2 z) (((hg.set 0 x).set 1 y).set 2 z) hne 3 u) ((((hg.set 0 x).set 1 y).set 2 z).set 3 u) hne 4 q
theorem ret_srt {fn : Func} {p q u : Tmp} {R : Ending → World → Prop} {a : Act} {w : World} (h : fn.results = #[.tmp p, .cell q 27, .tmp u]) (g : Nat) (x : Value) (ds : Array Value) (v : Value) (hds : ds.size = 5)
    (hp : a.tmps.getD p undef = x) (hq : a.tmps.getD q undef = .pointer (some ⟨g, 0, none⟩)) (hu : a.tmps.getD u undef = v) (hg : Blk w g 27 ds) (hd : a.defers = []) (hR : R (.returned (.tuple #[x, .agg ds, v])) w) : bodyPost Tryz.prog fn R .ret a w := by
  refine bodyPost_ret (v := .tuple #[x, .agg ds, v]) ?_ hd hR
  have hl := run_loadVar_row (P := Tryz.prog) w g 27 27 ds (0, 0) _ hg Tryz.underlying27 rfl (by rw [hds]; exact size27)
  have hp' : a.tmps[p]?.getD undef = x := by simpa using hp
  have hq' : a.tmps[q]?.getD undef = .pointer (some ⟨g, 0, none⟩) := by simpa using hq
  have hu' : a.tmps[u]?.getD undef = v := by simpa using hu
  simp [results, h, hp', hq', hu', asAddr, Result.andThen, hl]
theorem ret_sprt {fn : Func} {p p2 q u : Tmp} {R : Ending → World → Prop} {a : Act} {w : World} (h : fn.results = #[.tmp p, .tmp p2, .cell q 27, .tmp u]) (g : Nat) (x x2 : Value) (ds : Array Value) (v : Value) (hds : ds.size = 5)
    (hp : a.tmps.getD p undef = x) (hp2 : a.tmps.getD p2 undef = x2) (hq : a.tmps.getD q undef = .pointer (some ⟨g, 0, none⟩)) (hu : a.tmps.getD u undef = v) (hg : Blk w g 27 ds) (hd : a.defers = []) (hR : R (.returned (.tuple #[x, x2, .agg ds, v])) w) : bodyPost Tryz.prog fn R .ret a w := by
  refine bodyPost_ret (v := .tuple #[x, x2, .agg ds, v]) ?_ hd hR
  have hl := run_loadVar_row (P := Tryz.prog) w g 27 27 ds (0, 0) _ hg Tryz.underlying27 rfl (by rw [hds]; exact size27)
  have hp' : a.tmps[p]?.getD undef = x := by simpa using hp
  have hp2' : a.tmps[p2]?.getD undef = x2 := by simpa using hp2
  have hq' : a.tmps[q]?.getD undef = .pointer (some ⟨g, 0, none⟩) := by simpa using hq
  have hu' : a.tmps[u]?.getD undef = v := by simpa using hu
  simp [results, h, hp', hp2', hq', hu', asAddr, Result.andThen, hl]
set_option maxHeartbeats 4000000 in
theorem sSeal_good (s : St) (n : Nx) (v : Value) (b : List UInt8) (w : World) (ht : Tab w) (h : Bs 0 w.heap.size w v b) (hl : b.length ≤ 1000) (hn : n ≠ 18446744073709551615#64) :
    Calls Tryz.prog 13 #[rgV s n, v] w fun e w' => ∃ A c, e = .returned (.tuple #[.slice A (sealS s n b).length c, rgV s (n + 1#64), .int .i64 0]) ∧ OwnB w' w.heap.size (.slice A (sealS s n b).length c) (sealS s n b) ∧ Below w.heap.size w w' := by
  have hpl := pkU_le (b := b) (by omega)
  have hP := fun W (hb : Below w.heap.size w W) => Pack_u 0 v b W (h.to hb) hl
  have hE := fun v2 W (hb : Below w.heap.size w W) (h2 : Bs 0 W.heap.size W v2 (pkU b)) => Seal_good s n v2 (pkU b) W (ht.below hb (Nat.le_refl _)) h2 (by omega) hn
  have hH := hid_len s n (pkU b)
  have hB := fun v3 W (h3 : Bs 0 W.heap.size W v3 (hidF s n (pkU b))) => Bytes_good n v3 (hidF s n (pkU b)) (tagF s n (hidF s n (pkU b))) W h3 (by omega)
  have hyl : (bytesF ⟨n, hidF s n (pkU b), tagF s n (hidF s n (pkU b))⟩).length ≤ 900000 := by rw [bytes_len]; show (hidF s n (pkU b)).length + 24 ≤ _; omega
  have hC := fun v4 W (h4 : Bs 0 W.heap.size W v4 (bytesF ⟨n, hidF s n (pkU b), tagF s n (hidF s n (pkU b))⟩)) => crcSeal_u 0 v4 _ W h4 hyl
  have hZ : sealS s n b = C.sealL (bytesF ⟨n, hidF s n (pkU b), tagF s n (hidF s n (pkU b))⟩) := rfl
  rw [hZ]
  unfold Ans at hP
  simp only [] at hP
  obtain ⟨A, c, rfl⟩ := h.form
  generalize C.sealL (bytesF ⟨n, hidF s n (pkU b), tagF s n (hidF s n (pkU b))⟩) = Z at *
  generalize bytesF ⟨n, hidF s n (pkU b), tagF s n (hidF s n (pkU b))⟩ = Y at *
  generalize tagF s n (hidF s n (pkU b)) = T at *
  generalize hidF s n (pkU b) = Hh at *
  generalize pkU b = Pk at *
  generalize b.length = mb at *
  obtain ⟨mp, hmp⟩ : ∃ mp, Pk.length = mp := ⟨_, rfl⟩
  rw [hmp] at hP hE hH
  generalize Y.length = my at *
  obtain ⟨mz, hmz⟩ : ∃ mz, Z.length = mz := ⟨_, rfl⟩
  rw [hmz] at hC ⊢
  have X0 : Fx w ((w.alloc (.cells (rgC s n) 27)).alloc (.cells zRg 27)) [(w.heap.size, 27, rgC s n), (w.heap.size + 1, 27, zRg)] [] [] := ((Fx.nil w).newB w.heap.size rfl (rgC s n) 27).newB (w.heap.size + 1) (by simp) zRg 27
  replace X0 := hide X0; replace hP := hide hP; replace hE := hide hE; replace hB := hide hB; replace hC := hide hC; replace hH := hide hH; replace hmp := hide hmp; replace hmz := hide hmz
  clear h hl hn ht hZ hpl hyl
  go_enter Tryz.func13, Tryz.ntmps13
  go_upto_region 1 with (fail)
  generalize hW : World.alloc (World.alloc w _) _ = W at *
  clear hW
  have c0 : W.cell? ⟨w.heap.size, 0, none⟩ = some (u32v s.a) := ((unhide X0).get 0 rfl).cell 0
  have c1 : W.cell? ⟨w.heap.size, 1, none⟩ = some (u32v s.b) := ((unhide X0).get 0 rfl).cell 1
  have c2 : W.cell? ⟨w.heap.size, 2, none⟩ = some (u32v s.c) := ((unhide X0).get 0 rfl).cell 2
  have c3 : W.cell? ⟨w.heap.size, 3, none⟩ = some (u32v s.d) := ((unhide X0).get 0 rfl).cell 3
  have c4 : W.cell? ⟨w.heap.size, 4, none⟩ = some (u64v n) := ((unhide X0).get 0 rfl).cell 4
  go_upto_region 10 with (first
    | (go_at_call 28; refine (unhide hP _ (unhide X0).bl).mono ?_; rintro e w2 ⟨A2, c2, rfl, o2, hb2⟩
       have X2 : Fx w w2 [(w.heap.size, 27, rgC s n), (w.heap.size + 1, 27, zRg)] [] [(.slice A2 mp c2, Pk)] := Fx.addZ ((unhide X0).call hb2) (Bs.of_own0 o2)
       have d0 : w2.cell? ⟨w.heap.size, 0, none⟩ = some (u32v s.a) := (X2.get 0 rfl).cell 0
       have d1 : w2.cell? ⟨w.heap.size, 1, none⟩ = some (u32v s.b) := (X2.get 0 rfl).cell 1
       have d2 : w2.cell? ⟨w.heap.size, 2, none⟩ = some (u32v s.c) := (X2.get 0 rfl).cell 2
       have d3 : w2.cell? ⟨w.heap.size, 3, none⟩ = some (u32v s.d) := (X2.get 0 rfl).cell 3
       have d4 : w2.cell? ⟨w.heap.size, 4, none⟩ = some (u64v n) := (X2.get 0 rfl).cell 4
       replace X2 := hide X2
       clear o2 hb2)
    | (go_at_call 29; refine (unhide hE _ _ (unhide X2).bl ((unhide X2).rd 0 rfl)).mono ?_; rintro e w3 ⟨A3, c3, rfl, o3, hb3⟩
       have X3' : Fx w w3 [(w.heap.size, 27, rgC s n), (w.heap.size + 1, 27, zRg)] [] [(.slice A3 mp c3, Hh)] := Fx.addZ (Fx.sub (Z' := []) ((unhide X2).call hb3) (fun _ h => h) (fun _ h => h) (fun _ h => (nomatch h))) (Bs.of_own0 o3)
       have X3 : Fx w ((w3.alloc (.cells (bxC n (.slice A3 mp c3) T) 55)).alloc (.cells (rgC s (n + 1#64)) 27)) [(w.heap.size, 27, rgC s n), (w.heap.size + 1, 27, zRg), (w3.heap.size, 55, bxC n (.slice A3 mp c3) T), (w3.heap.size + 1, 27, rgC s (n + 1#64))] [] [(.slice A3 mp c3, Hh)] := (X3'.newB w3.heap.size rfl (bxC n (.slice A3 mp c3) T) 55).newB (w3.heap.size + 1) (by simp) (rgC s (n + 1#64)) 27
       replace X3 := hide X3
       clear o3 hb3 X3')
    | (go_at_call 30; refine (unhide hB _ _ ((unhide X3).rd 0 rfl)).mono ?_; rintro e w4 ⟨A4, c4', rfl, o4, hb4⟩
       have X4 : Fx w w4 [(w.heap.size, 27, rgC s n), (w.heap.size + 1, 27, zRg), (w3.heap.size, 55, bxC n (.slice A3 mp c3) T), (w3.heap.size + 1, 27, rgC s (n + 1#64))] [] [(.slice A4 my c4', Y)] := Fx.addZ (Fx.sub (Z' := []) ((unhide X3).call hb4) (fun _ h => h) (fun _ h => h) (fun _ h => (nomatch h))) (Bs.of_own0 o4)
       replace X4 := hide X4
       clear o4 hb4)
    | fail)
  generalize w3.heap.size = g3 at *
  have p0 : w4.cell? ⟨g3 + 1, 0, none⟩ = some (u32v s.a) := ((unhide X4).get 3 rfl).cell 0
  have p1 : w4.cell? ⟨g3 + 1, 1, none⟩ = some (u32v s.b) := ((unhide X4).get 3 rfl).cell 1
  have p2 : w4.cell? ⟨g3 + 1, 2, none⟩ = some (u32v s.c) := ((unhide X4).get 3 rfl).cell 2
  have p3 : w4.cell? ⟨g3 + 1, 3, none⟩ = some (u32v s.d) := ((unhide X4).get 3 rfl).cell 3
  have p4 : w4.cell? ⟨g3 + 1, 4, none⟩ = some (u64v (n + 1#64)) := ((unhide X4).get 3 rfl).cell 4
  have q0 : w4.frozen? ⟨w.heap.size + 1, 0, none⟩ = false := ((unhide X4).get 1 rfl).frozen 0
  have q1 : w4.frozen? ⟨w.heap.size + 1, 1, none⟩ = false := ((unhide X4).get 1 rfl).frozen 1
  have q2 : w4.frozen? ⟨w.heap.size + 1, 2, none⟩ = false := ((unhide X4).get 1 rfl).frozen 2
  have q3 : w4.frozen? ⟨w.heap.size + 1, 3, none⟩ = false := ((unhide X4).get 1 rfl).frozen 3
  have q4 : w4.frozen? ⟨w.heap.size + 1, 4, none⟩ = false := ((unhide X4).get 1 rfl).frozen 4
  go_region_law (first
    | (go_simp; go_at_call 31; refine (unhide hC _ _ (by first | exact (unhide X4).rd 0 rfl | exact ((unhide X4).drew).rd 0 rfl)).mono ?_; rintro e w5 ⟨A5, c5, rfl, o5, hb5⟩
       have X5 := (unhide X4).drew.call hb5
       have r0 : w5.cell? ⟨g3 + 1, 0, none⟩ = some (u32v s.a) := (X5.get 3 rfl).cell 0
       have r1 : w5.cell? ⟨g3 + 1, 1, none⟩ = some (u32v s.b) := (X5.get 3 rfl).cell 1
       have r2 : w5.cell? ⟨g3 + 1, 2, none⟩ = some (u32v s.c) := (X5.get 3 rfl).cell 2
       have r3 : w5.cell? ⟨g3 + 1, 3, none⟩ = some (u32v s.d) := (X5.get 3 rfl).cell 3
       have r4 : w5.cell? ⟨g3 + 1, 4, none⟩ = some (u64v (n + 1#64)) := (X5.get 3 rfl).cell 4
       have u0 : w5.cell? ⟨w.heap.size + 1, 0, none⟩ = some (.int .u32 0) := (X5.get 1 rfl).cell 0
       have u1 : w5.cell? ⟨w.heap.size + 1, 1, none⟩ = some (.int .u32 0) := (X5.get 1 rfl).cell 1
       have u2 : w5.cell? ⟨w.heap.size + 1, 2, none⟩ = some (.int .u32 0) := (X5.get 1 rfl).cell 2
       have u3 : w5.cell? ⟨w.heap.size + 1, 3, none⟩ = some (.int .u32 0) := (X5.get 1 rfl).cell 3
       have u4 : w5.cell? ⟨w.heap.size + 1, 4, none⟩ = some (.int .u64 0) := (X5.get 1 rfl).cell 4
       have t0 : w5.frozen? ⟨w.heap.size + 1, 0, none⟩ = false := (X5.get 1 rfl).frozen 0
       have t1 : w5.frozen? ⟨w.heap.size + 1, 1, none⟩ = false := (X5.get 1 rfl).frozen 1
       have t2 : w5.frozen? ⟨w.heap.size + 1, 2, none⟩ = false := (X5.get 1 rfl).frozen 2
       have t3 : w5.frozen? ⟨w.heap.size + 1, 3, none⟩ = false := (X5.get 1 rfl).frozen 3
       have t4 : w5.frozen? ⟨w.heap.size + 1, 4, none⟩ = false := (X5.get 1 rfl).frozen 4
       have o5' := hide (ownsRow_mono (base' := w.heap.size) o5 (unhide X4).bl.size)
       replace X5 := hide X5
       clear o5 hb5)
    | fail)
  all_goals
    have X6 := unhide X5
    have R6 : Blk _ (w.heap.size + 1) 27 (rgC s (n + 1#64)) := Blk.set5 (x := u32v s.a) (y := u32v s.b) (z := u32v s.c) (u := u32v s.d) (q := u64v (n + 1#64)) (X6.get 1 rfl)
    have b6 := below_set5 (g := w.heap.size + 1) (x := u32v s.a) (y := u32v s.b) (z := u32v s.c) (u := u32v s.d) (q := u64v (n + 1#64)) X6.bl (Nat.le_succ _)
    have o6 := own_set5 (x := u32v s.a) (y := u32v s.b) (z := u32v s.c) (u := u32v s.d) (q := u64v (n + 1#64)) (unhide o5') (X6.get 1 rfl) (by decide)
    replace R6 := hide R6; replace b6 := hide b6; replace o6 := hide o6
    clear X6
    go_wp2_with fail
    exact ret_srt rfl (w.heap.size + 1) (.slice A5 mz c5) (rgC s (n + 1#64)) (.int .i64 0) rfl rfl rfl rfl (unhide R6) rfl ⟨A5, c5, rfl, unhide o6, unhide b6⟩
set_option maxHeartbeats 4000000 in
theorem sSeal_full (s : St) (n : Nx) (v : Value) (b : List UInt8) (w : World) (h : Bs 0 w.heap.size w v b) (hl : b.length ≤ 1000) (hn : n = 18446744073709551615#64) :
    Calls Tryz.prog 13 #[rgV s n, v] w fun e w' => e = .returned (.tuple #[.slice none 0 0, .agg zRg, .int .i64 6]) ∧ Below w.heap.size w w' := by
  have hpl := pkU_le (b := b) (by omega)
  have hP := fun W (hb : Below w.heap.size w W) => Pack_u 0 v b W (h.to hb) hl
  have hE := fun v2 W (h2 : Bs 0 W.heap.size W v2 (pkU b)) => Seal_full 0 s v2 (pkU b) W h2 (by omega)
  rw [← hn] at hE
  unfold Ans at hP
  simp only [] at hP
  obtain ⟨A, c, rfl⟩ := h.form
  generalize pkU b = Pk at *
  generalize b.length = mb at *
  obtain ⟨mp, hmp⟩ : ∃ mp, Pk.length = mp := ⟨_, rfl⟩
  rw [hmp] at hP
  have X0 : Fx w ((w.alloc (.cells (rgC s n) 27)).alloc (.cells zRg 27)) [(w.heap.size, 27, rgC s n), (w.heap.size + 1, 27, zRg)] [] [] := ((Fx.nil w).newB w.heap.size rfl (rgC s n) 27).newB (w.heap.size + 1) (by simp) zRg 27
  replace X0 := hide X0; replace hP := hide hP; replace hE := hide hE
  clear h hl hn hpl hmp
  go_enter Tryz.func13, Tryz.ntmps13
  go_upto_region 1 with (fail)
  generalize hW : World.alloc (World.alloc w _) _ = W at *
  clear hW
  have c0 : W.cell? ⟨w.heap.size, 0, none⟩ = some (u32v s.a) := ((unhide X0).get 0 rfl).cell 0
  have c1 : W.cell? ⟨w.heap.size, 1, none⟩ = some (u32v s.b) := ((unhide X0).get 0 rfl).cell 1
  have c2 : W.cell? ⟨w.heap.size, 2, none⟩ = some (u32v s.c) := ((unhide X0).get 0 rfl).cell 2
  have c3 : W.cell? ⟨w.heap.size, 3, none⟩ = some (u32v s.d) := ((unhide X0).get 0 rfl).cell 3
  have c4 : W.cell? ⟨w.heap.size, 4, none⟩ = some (u64v n) := ((unhide X0).get 0 rfl).cell 4
  go_upto_region 6 with (first
    | (go_at_call 28; refine (unhide hP _ (unhide X0).bl).mono ?_; rintro e w2 ⟨A2, c2, rfl, o2, hb2⟩
       have X2 : Fx w w2 [(w.heap.size, 27, rgC s n), (w.heap.size + 1, 27, zRg)] [] [(.slice A2 mp c2, Pk)] := Fx.addZ ((unhide X0).call hb2) (Bs.of_own0 o2)
       have d0 : w2.cell? ⟨w.heap.size, 0, none⟩ = some (u32v s.a) := (X2.get 0 rfl).cell 0
       have d1 : w2.cell? ⟨w.heap.size, 1, none⟩ = some (u32v s.b) := (X2.get 0 rfl).cell 1
       have d2 : w2.cell? ⟨w.heap.size, 2, none⟩ = some (u32v s.c) := (X2.get 0 rfl).cell 2
       have d3 : w2.cell? ⟨w.heap.size, 3, none⟩ = some (u32v s.d) := (X2.get 0 rfl).cell 3
       have d4 : w2.cell? ⟨w.heap.size, 4, none⟩ = some (u64v n) := (X2.get 0 rfl).cell 4
       replace X2 := hide X2
       clear o2 hb2)
    | (go_at_call 29; refine (unhide hE _ _ ((unhide X2).rd 0 rfl)).mono ?_; rintro e w3 ⟨rfl, hb3⟩
       have X3 : Fx w ((w3.alloc (.cells zBx 55)).alloc (.cells zRg 27)) [(w.heap.size, 27, rgC s n), (w.heap.size + 1, 27, zRg)] [] [] := ((Fx.sub (Z' := []) ((unhide X2).call hb3) (fun _ h => h) (fun _ h => h) (fun _ h => (nomatch h))).alloc _).alloc _
       replace X3 := hide X3
       clear hb3)
    | fail)
  generalize hW4 : World.alloc (World.alloc w3 _) _ = w4 at *
  clear hW4
  have B1 := (unhide X3).get 1 rfl
  have b3 := (unhide X3).bl
  have F1 : Blk (w4.setRow (w.heap.size + 1) zRg) (w.heap.size + 1) 27 zRg := B1.row zRg
  replace B1 := hide B1; replace F1 := hide F1; replace b3 := hide b3
  go_wp2_with (first
    | (refine wpList_store_row rfl 27 (.tmp 5) (.tmp 30) rfl (w.heap.size + 1) zRg rfl rfl 27 zRg (unhide B1) size27 rfl zrg_one ?_)
    | fail)
  exact ret_srt rfl (w.heap.size + 1) (.slice none 0 0) zRg (.int .i64 6) rfl rfl rfl rfl (unhide F1) rfl ⟨rfl, bl_row (unhide b3) _ (by omega)⟩
end Go.Proofs.YthkccpemgmpadaaGreatDoor

namespace Go.Proofs.YthkccpemgmpadaaGreatDoor
set_option maxRecDepth 100000
open Go.RowKit
theorem Fx.ring {w0 W : World} {L : List (Nat × TypeId × Array Value)} {b : Nat} {v : Value} {l : List UInt8} (h : Fx w0 W L [(b, v, l)] []) {g : Nat} {a c d e f : Value} (hK : Blk W g 27 #[a, c, d, e, f]) (hg : w0.heap.size ≤ g) (hL : ∀ p ∈ L, p.1 ≠ g) (x y z u q : Value) :
    Fx w0 (((((W.setCell ⟨g, 0, none⟩ x).setCell ⟨g, 1, none⟩ y).setCell ⟨g, 2, none⟩ z).setCell ⟨g, 3, none⟩ u).setCell ⟨g, 4, none⟩ q) (L ++ [(g, 27, #[x, y, z, u, q])]) [(b, v, l)] [] := by
  refine Fx.addB (R := [(b, v, l)]) (Z := []) ⟨below_set5 h.bl hg, fun p hp => ?_, fun p hp => ?_, fun _ hp => (nomatch hp)⟩ (Blk.set5 hK)
  · have hk := h.blk p hp
    have hn := hL p hp
    exact ((((hk.far (p := ⟨g, 0, none⟩) hn x).far (p := ⟨g, 1, none⟩) hn y).far (p := ⟨g, 2, none⟩) hn z).far (p := ⟨g, 3, none⟩) hn u).far (p := ⟨g, 4, none⟩) hn q
  · rw [List.mem_singleton.1 hp]
    obtain ⟨o, hb⟩ := h.row (b, v, l) (by simp)
    exact ⟨own_set5 o hK (by decide), by simp; exact hb⟩
section
set_option maxHeartbeats 8000000 in
theorem Build_good (s : St) (n : Nx) (v : Value) (l : List (List UInt8)) (w : World) (ht : Tab w) (h : Bss w.heap.size w v l) (hn : l.length ≤ 1000) (hL : l.flatten.length ≤ 1000) (hne : n ≠ 18446744073709551615#64) :
    Calls Tryz.prog 7 #[rgV s n, v] w fun e w' => ∃ A c A2 c2, e = .returned (.tuple #[.slice A (sealS s n l.flatten).length c, .slice A2 l.length c2, rgV s (n + 1#64), .int .i64 0]) ∧ OwnB w' w.heap.size (.slice A (sealS s n l.flatten).length c) (sealS s n l.flatten) ∧ w'.ownsRow w.heap.size 44 3 (.slice A2 l.length c2) l.length ((pcsF 0 l).flatMap pcL) ∧ Below w.heap.size w w' := by
  have hF := fun W (hb : Below w.heap.size w W) => fit_any v l W (h.grow hb) hn (by omega)
  have hC := fun W (hb : Below w.heap.size w W) => concat_bss v l W (h.grow hb) hn (by omega)
  have hS := fun v2 W (hb : Below w.heap.size w W) (h2 : Bs 0 W.heap.size W v2 l.flatten) => sSeal_good s n v2 l.flatten W (ht.below hb (Nat.le_refl _)) h2 hL hne
  have hP := fun W (hb : Below w.heap.size w W) => pieces_any v l W (h.grow hb) hn (by omega)
  obtain ⟨A, c, rfl, _⟩ := h
  generalize sealS s n l.flatten = Z at *
  generalize l.flatten = T at *
  generalize (pcsF 0 l).flatMap pcL = Q at *
  generalize l.length = ml at *
  generalize T.length = mt at *
  obtain ⟨mz, hmz⟩ : ∃ mz, Z.length = mz := ⟨_, rfl⟩
  rw [hmz] at hS ⊢
  have X0 : Fx w ((w.alloc (.cells (rgC s n) 27)).alloc (.cells zRg 27)) [(w.heap.size, 27, rgC s n), (w.heap.size + 1, 27, zRg)] [] [] := ((Fx.nil w).newB w.heap.size rfl (rgC s n) 27).newB (w.heap.size + 1) (by simp) zRg 27
  replace X0 := hide X0; replace hF := hide hF; replace hC := hide hC; replace hS := hide hS; replace hP := hide hP
  clear hn hL hne ht hmz
  go_enter Tryz.func7, Tryz.ntmps7
  go_upto_region 1 with (fail)
  generalize hW : World.alloc (World.alloc w _) _ = W at *
  clear hW
  have hc0 : W.cell? ⟨w.heap.size, 0, none⟩ = some (u32v s.a) := ((unhide X0).get 0 rfl).cell 0
  have hc1 : W.cell? ⟨w.heap.size, 1, none⟩ = some (u32v s.b) := ((unhide X0).get 0 rfl).cell 1
  have hc2 : W.cell? ⟨w.heap.size, 2, none⟩ = some (u32v s.c) := ((unhide X0).get 0 rfl).cell 2
  have hc3 : W.cell? ⟨w.heap.size, 3, none⟩ = some (u32v s.d) := ((unhide X0).get 0 rfl).cell 3
  have hc4 : W.cell? ⟨w.heap.size, 4, none⟩ = some (u64v n) := ((unhide X0).get 0 rfl).cell 4
  have l0 : w.heap.size < W.heap.size := ((unhide X0).get 0 rfl).lt
  have l1 : w.heap.size + 1 < W.heap.size := ((unhide X0).get 1 rfl).lt
  go_upto_region 3 with (first
    | (go_at_call 19; refine (unhide hF _ (unhide X0).bl).mono ?_; rintro e wz ⟨rfl, rfl⟩)
    | fail)
  go_cut [8, 9, 10] (fun s8 s9 s10 wc => ∃ A c g, s8 = .slice A mz c ∧ s9 = .pointer (some ⟨g, 0, none⟩) ∧ s10 = .int .i64 0 ∧ Hid (Fx w wc [(w.heap.size, 27, rgC s n), (w.heap.size + 1, 27, zRg), (g, 27, rgC s (n + 1#64))] [(w.heap.size, .slice A mz c, Z)] []))
  case first =>
    go_region_held3 (fun W => W.cell? ⟨w.heap.size, 0, none⟩ = some (u32v s.a) ∧ W.cell? ⟨w.heap.size, 1, none⟩ = some (u32v s.b) ∧ W.cell? ⟨w.heap.size, 2, none⟩ = some (u32v s.c) ∧ W.cell? ⟨w.heap.size, 3, none⟩ = some (u32v s.d) ∧ W.cell? ⟨w.heap.size, 4, none⟩ = some (u64v n)) (first | exact ⟨by with_reducible assumption, by with_reducible assumption, by with_reducible assumption, by with_reducible assumption, by with_reducible assumption⟩ | exact ⟨by go_simp, by go_simp, by go_simp, by go_simp, by go_simp⟩) (first
      | (go_at_call 20; refine (unhide hC W.drew (unhide X0).drew.bl).mono ?_; rintro e w5 ⟨A5, c5, rfl, o5, hb5⟩
         have X5 : Fx w w5 [(w.heap.size, 27, rgC s n), (w.heap.size + 1, 27, zRg)] [] [(.slice A5 mt c5, T)] := Fx.addZ ((unhide X0).drew.call hb5) (Bs.of_own0 o5)
         have d0 : w5.cell? ⟨w.heap.size, 0, none⟩ = some (u32v s.a) := (X5.get 0 rfl).cell 0
         have d1 : w5.cell? ⟨w.heap.size, 1, none⟩ = some (u32v s.b) := (X5.get 0 rfl).cell 1
         have d2 : w5.cell? ⟨w.heap.size, 2, none⟩ = some (u32v s.c) := (X5.get 0 rfl).cell 2
         have d3 : w5.cell? ⟨w.heap.size, 3, none⟩ = some (u32v s.d) := (X5.get 0 rfl).cell 3
         have d4 : w5.cell? ⟨w.heap.size, 4, none⟩ = some (u64v n) := (X5.get 0 rfl).cell 4
         have l5 : w.heap.size + 1 < w5.heap.size := (X5.get 1 rfl).lt
         have l5' : w.heap.size < w5.heap.size := (X5.get 0 rfl).lt
         replace X5 := hide X5
         clear o5 hb5)
      | (go_at_call 20; refine (unhide hC (W.drew.alloc (.cells zRg 27)) ((unhide X0).drew.alloc (.cells zRg 27)).bl).mono ?_; rintro e w5 ⟨A5, c5, rfl, o5, hb5⟩
         have X5 : Fx w w5 [(w.heap.size, 27, rgC s n), (w.heap.size + 1, 27, zRg)] [] [(.slice A5 mt c5, T)] := Fx.addZ (((unhide X0).drew.alloc (.cells zRg 27)).call hb5) (Bs.of_own0 o5)
         have K5 : Blk w5 W.heap.size 27 zRg := Blk.call (V := (W.drew.alloc (.cells zRg 27))) (Blk.new (w := W.drew) (t := 27) (cs := zRg) rfl) hb5
         replace K5 := hide K5
         have d0 : w5.cell? ⟨w.heap.size, 0, none⟩ = some (u32v s.a) := (X5.get 0 rfl).cell 0
         have d1 : w5.cell? ⟨w.heap.size, 1, none⟩ = some (u32v s.b) := (X5.get 0 rfl).cell 1
         have d2 : w5.cell? ⟨w.heap.size, 2, none⟩ = some (u32v s.c) := (X5.get 0 rfl).cell 2
         have d3 : w5.cell? ⟨w.heap.size, 3, none⟩ = some (u32v s.d) := (X5.get 0 rfl).cell 3
         have d4 : w5.cell? ⟨w.heap.size, 4, none⟩ = some (u64v n) := (X5.get 0 rfl).cell 4
         have l5 : w.heap.size + 1 < w5.heap.size := (X5.get 1 rfl).lt
         have l5' : w.heap.size < w5.heap.size := (X5.get 0 rfl).lt
         replace X5 := hide X5
         clear o5 hb5)
      | (go_at_call 13; refine (unhide hS _ w5 (unhide X5).bl ((unhide X5).rd 0 rfl)).mono ?_; rintro e w6 ⟨A6, c6, rfl, o6, hb6⟩
         have X6 : Fx w w6 [(w.heap.size, 27, rgC s n), (w.heap.size + 1, 27, zRg)] [(w.heap.size, .slice A6 mz c6, Z)] [] := Fx.addR (Fx.sub (Z' := []) (R' := []) ((unhide X5).call hb6) (fun _ h => h) (fun _ h => h) (fun _ h => (nomatch h))) (ownsRow_mono o6 (unhide X5).bl.size) ((unhide X5).call hb6).bl.size
         have K6 : Blk w6 W.heap.size 27 zRg := (unhide K5).call hb6
         have k0 : w6.cell? ⟨W.heap.size, 0, none⟩ = some (.int .u32 0) := K6.cell 0
         have kf0 : w6.frozen? ⟨W.heap.size, 0, none⟩ = false := K6.frozen 0
         have k1 : w6.cell? ⟨W.heap.size, 1, none⟩ = some (.int .u32 0) := K6.cell 1
         have kf1 : w6.frozen? ⟨W.heap.size, 1, none⟩ = false := K6.frozen 1
         have k2 : w6.cell? ⟨W.heap.size, 2, none⟩ = some (.int .u32 0) := K6.cell 2
         have kf2 : w6.frozen? ⟨W.heap.size, 2, none⟩ = false := K6.frozen 2
         have k3 : w6.cell? ⟨W.heap.size, 3, none⟩ = some (.int .u32 0) := K6.cell 3
         have kf3 : w6.frozen? ⟨W.heap.size, 3, none⟩ = false := K6.frozen 3
         have k4 : w6.cell? ⟨W.heap.size, 4, none⟩ = some (.int .u64 0) := K6.cell 4
         have kf4 : w6.frozen? ⟨W.heap.size, 4, none⟩ = false := K6.frozen 4
         replace K6 := hide K6
         have e0 : w6.cell? ⟨w.heap.size, 0, none⟩ = some (u32v s.a) := (X6.get 0 rfl).cell 0
         have e1 : w6.cell? ⟨w.heap.size, 1, none⟩ = some (u32v s.b) := (X6.get 0 rfl).cell 1
         have e2 : w6.cell? ⟨w.heap.size, 2, none⟩ = some (u32v s.c) := (X6.get 0 rfl).cell 2
         have e3 : w6.cell? ⟨w.heap.size, 3, none⟩ = some (u32v s.d) := (X6.get 0 rfl).cell 3
         have e4 : w6.cell? ⟨w.heap.size, 4, none⟩ = some (u64v n) := (X6.get 0 rfl).cell 4
         have l6 : w.heap.size < w6.heap.size := (X6.get 0 rfl).lt
         replace X6 := hide X6
         clear o6 hb6)
      | (go_at_call 13; refine (unhide hS _ w5 (unhide X5).bl ((unhide X5).rd 0 rfl)).mono ?_; rintro e w6 ⟨A6, c6, rfl, o6, hb6⟩
         have X6 : Fx w w6 [(w.heap.size, 27, rgC s n), (w.heap.size + 1, 27, zRg)] [(w.heap.size, .slice A6 mz c6, Z)] [] := Fx.addR (Fx.sub (Z' := []) (R' := []) ((unhide X5).call hb6) (fun _ h => h) (fun _ h => h) (fun _ h => (nomatch h))) (ownsRow_mono o6 (unhide X5).bl.size) ((unhide X5).call hb6).bl.size
         have e0 : w6.cell? ⟨w.heap.size, 0, none⟩ = some (u32v s.a) := (X6.get 0 rfl).cell 0
         have e1 : w6.cell? ⟨w.heap.size, 1, none⟩ = some (u32v s.b) := (X6.get 0 rfl).cell 1
         have e2 : w6.cell? ⟨w.heap.size, 2, none⟩ = some (u32v s.c) := (X6.get 0 rfl).cell 2
         have e3 : w6.cell? ⟨w.heap.size, 3, none⟩ = some (u32v s.d) := (X6.get 0 rfl).cell 3
         have e4 : w6.cell? ⟨w.heap.size, 4, none⟩ = some (u64v n) := (X6.get 0 rfl).cell 4
         have l6 : w.heap.size < w6.heap.size := (X6.get 0 rfl).lt
         replace X6 := hide X6
         clear o6 hb6)
      | (go_at_call 13; refine (unhide hS _ (w5.alloc (.cells zRg 27)) ((unhide X5).alloc (.cells zRg 27)).bl (((unhide X5).alloc (.cells zRg 27)).rd 0 rfl)).mono ?_; rintro e w6 ⟨A6, c6, rfl, o6, hb6⟩
         have X6 : Fx w w6 [(w.heap.size, 27, rgC s n), (w.heap.size + 1, 27, zRg)] [(w.heap.size, .slice A6 mz c6, Z)] [] := Fx.addR (Fx.sub (Z' := []) (R' := []) (((unhide X5).alloc (.cells zRg 27)).call hb6) (fun _ h => h) (fun _ h => h) (fun _ h => (nomatch h))) (ownsRow_mono o6 ((unhide X5).alloc (.cells zRg 27)).bl.size) (((unhide X5).alloc (.cells zRg 27)).call hb6).bl.size
         have K6 : Blk w6 w5.heap.size 27 zRg := Blk.call (V := (w5.alloc (.cells zRg 27))) (Blk.new (w := w5) (t := 27) (cs := zRg) rfl) hb6
         have k0 : w6.cell? ⟨w5.heap.size, 0, none⟩ = some (.int .u32 0) := K6.cell 0
         have kf0 : w6.frozen? ⟨w5.heap.size, 0, none⟩ = false := K6.frozen 0
         have k1 : w6.cell? ⟨w5.heap.size, 1, none⟩ = some (.int .u32 0) := K6.cell 1
         have kf1 : w6.frozen? ⟨w5.heap.size, 1, none⟩ = false := K6.frozen 1
         have k2 : w6.cell? ⟨w5.heap.size, 2, none⟩ = some (.int .u32 0) := K6.cell 2
         have kf2 : w6.frozen? ⟨w5.heap.size, 2, none⟩ = false := K6.frozen 2
         have k3 : w6.cell? ⟨w5.heap.size, 3, none⟩ = some (.int .u32 0) := K6.cell 3
         have kf3 : w6.frozen? ⟨w5.heap.size, 3, none⟩ = false := K6.frozen 3
         have k4 : w6.cell? ⟨w5.heap.size, 4, none⟩ = some (.int .u64 0) := K6.cell 4
         have kf4 : w6.frozen? ⟨w5.heap.size, 4, none⟩ = false := K6.frozen 4
         replace K6 := hide K6
         have e0 : w6.cell? ⟨w.heap.size, 0, none⟩ = some (u32v s.a) := (X6.get 0 rfl).cell 0
         have e1 : w6.cell? ⟨w.heap.size, 1, none⟩ = some (u32v s.b) := (X6.get 0 rfl).cell 1
         have e2 : w6.cell? ⟨w.heap.size, 2, none⟩ = some (u32v s.c) := (X6.get 0 rfl).cell 2
         have e3 : w6.cell? ⟨w.heap.size, 3, none⟩ = some (u32v s.d) := (X6.get 0 rfl).cell 3
         have e4 : w6.cell? ⟨w.heap.size, 4, none⟩ = some (u64v n) := (X6.get 0 rfl).cell 4
         have l6 : w.heap.size < w6.heap.size := (X6.get 0 rfl).lt
         replace X6 := hide X6
         clear o6 hb6)
      | fail)
    all_goals
      go_wp2_with fail
      go_meet
      first
        | exact ⟨A6, c6, _, rfl, rfl, rfl, hide ((unhide X6).newB _ rfl (rgC s (n + 1#64)) 27)⟩
        | exact ⟨A6, c6, _, rfl, rfl, rfl, hide ((unhide X6).ring (unhide K6) (by omega) (by simp; omega) (u32v s.a) (u32v s.b) (u32v s.c) (u32v s.d) (u64v (n + 1#64)))⟩
  case rest =>
    obtain ⟨A3, c3, g, rfl, rfl, rfl, X3⟩ := hcut
    clear X0 hc0 hc1 hc2 hc3 hc4 l0 l1
    go_upto_region 6 with (fail)
    have p0 : wc.cell? ⟨g, 0, none⟩ = some (u32v s.a) := ((unhide X3).get 2 rfl).cell 0
    have p1 : wc.cell? ⟨g, 1, none⟩ = some (u32v s.b) := ((unhide X3).get 2 rfl).cell 1
    have p2 : wc.cell? ⟨g, 2, none⟩ = some (u32v s.c) := ((unhide X3).get 2 rfl).cell 2
    have p3 : wc.cell? ⟨g, 3, none⟩ = some (u32v s.d) := ((unhide X3).get 2 rfl).cell 3
    have p4 : wc.cell? ⟨g, 4, none⟩ = some (u64v (n + 1#64)) := ((unhide X3).get 2 rfl).cell 4
    have y0 : wc.cell? ⟨w.heap.size + 1, 0, none⟩ = some (.int .u32 0) := ((unhide X3).get 1 rfl).cell 0
    have y1 : wc.cell? ⟨w.heap.size + 1, 1, none⟩ = some (.int .u32 0) := ((unhide X3).get 1 rfl).cell 1
    have y2 : wc.cell? ⟨w.heap.size + 1, 2, none⟩ = some (.int .u32 0) := ((unhide X3).get 1 rfl).cell 2
    have y3 : wc.cell? ⟨w.heap.size + 1, 3, none⟩ = some (.int .u32 0) := ((unhide X3).get 1 rfl).cell 3
    have y4 : wc.cell? ⟨w.heap.size + 1, 4, none⟩ = some (.int .u64 0) := ((unhide X3).get 1 rfl).cell 4
    have q0 : wc.frozen? ⟨w.heap.size + 1, 0, none⟩ = false := ((unhide X3).get 1 rfl).frozen 0
    have q1 : wc.frozen? ⟨w.heap.size + 1, 1, none⟩ = false := ((unhide X3).get 1 rfl).frozen 1
    have q2 : wc.frozen? ⟨w.heap.size + 1, 2, none⟩ = false := ((unhide X3).get 1 rfl).frozen 2
    have q3 : wc.frozen? ⟨w.heap.size + 1, 3, none⟩ = false := ((unhide X3).get 1 rfl).frozen 3
    have q4 : wc.frozen? ⟨w.heap.size + 1, 4, none⟩ = false := ((unhide X3).get 1 rfl).frozen 4
    go_region_law (first
      | (go_simp; go_at_call 21; refine (unhide hP _ (unhide X3).drew.bl).mono ?_; rintro e w7 ⟨A7, c7, rfl, o7, hb7⟩
         have X7 := (unhide X3).drew.call hb7
         have r0 : w7.cell? ⟨g, 0, none⟩ = some (u32v s.a) := (X7.get 2 rfl).cell 0
         have r1 : w7.cell? ⟨g, 1, none⟩ = some (u32v s.b) := (X7.get 2 rfl).cell 1
         have r2 : w7.cell? ⟨g, 2, none⟩ = some (u32v s.c) := (X7.get 2 rfl).cell 2
         have r3 : w7.cell? ⟨g, 3, none⟩ = some (u32v s.d) := (X7.get 2 rfl).cell 3
         have r4 : w7.cell? ⟨g, 4, none⟩ = some (u64v (n + 1#64)) := (X7.get 2 rfl).cell 4
         have u0 : w7.cell? ⟨w.heap.size + 1, 0, none⟩ = some (.int .u32 0) := (X7.get 1 rfl).cell 0
         have u1 : w7.cell? ⟨w.heap.size + 1, 1, none⟩ = some (.int .u32 0) := (X7.get 1 rfl).cell 1
         have u2 : w7.cell? ⟨w.heap.size + 1, 2, none⟩ = some (.int .u32 0) := (X7.get 1 rfl).cell 2
         have u3 : w7.cell? ⟨w.heap.size + 1, 3, none⟩ = some (.int .u32 0) := (X7.get 1 rfl).cell 3
         have u4 : w7.cell? ⟨w.heap.size + 1, 4, none⟩ = some (.int .u64 0) := (X7.get 1 rfl).cell 4
         have t0 : w7.frozen? ⟨w.heap.size + 1, 0, none⟩ = false := (X7.get 1 rfl).frozen 0
         have t1 : w7.frozen? ⟨w.heap.size + 1, 1, none⟩ = false := (X7.get 1 rfl).frozen 1
         have t2 : w7.frozen? ⟨w.heap.size + 1, 2, none⟩ = false := (X7.get 1 rfl).frozen 2
         have t3 : w7.frozen? ⟨w.heap.size + 1, 3, none⟩ = false := (X7.get 1 rfl).frozen 3
         have t4 : w7.frozen? ⟨w.heap.size + 1, 4, none⟩ = false := (X7.get 1 rfl).frozen 4
         have o7' := hide (ownsRow_mono (base' := w.heap.size) o7 (unhide X3).bl.size)
         replace X7 := hide X7
         clear o7 hb7)
      | fail)
    all_goals
      have X8 := unhide X7
      have R8 : Blk _ (w.heap.size + 1) 27 (rgC s (n + 1#64)) := Blk.set5 (x := u32v s.a) (y := u32v s.b) (z := u32v s.c) (u := u32v s.d) (q := u64v (n + 1#64)) (X8.get 1 rfl)
      have b8 := below_set5 (g := w.heap.size + 1) (x := u32v s.a) (y := u32v s.b) (z := u32v s.c) (u := u32v s.d) (q := u64v (n + 1#64)) X8.bl (Nat.le_succ _)
      have o8 := own_set5 (x := u32v s.a) (y := u32v s.b) (z := u32v s.c) (u := u32v s.d) (q := u64v (n + 1#64)) (X8.own 0 rfl) (X8.get 1 rfl) (by decide)
      have p8 := own_set5 (x := u32v s.a) (y := u32v s.b) (z := u32v s.c) (u := u32v s.d) (q := u64v (n + 1#64)) (unhide o7') (X8.get 1 rfl) (by decide)
      replace R8 := hide R8; replace b8 := hide b8; replace o8 := hide o8; replace p8 := hide p8
      clear X8
      go_wp2_with fail
      exact ret_sprt rfl (w.heap.size + 1) (.slice A3 mz c3) (.slice A7 ml c7) (rgC s (n + 1#64)) (.int .i64 0) rfl rfl rfl rfl rfl (unhide R8) rfl ⟨A3, c3, A7, c7, rfl, unhide o8, unhide p8, unhide b8⟩
end
end Go.Proofs.YthkccpemgmpadaaGreatDoor

namespace Go.Proofs.YthkccpemgmpadaaGreatDoor
set_option maxRecDepth 100000
open Go.RowKit
theorem Fx.ring0 {w0 W : World} {L : List (Nat × TypeId × Array Value)} (h : Fx w0 W L [] []) {g : Nat} (hg : w0.heap.size ≤ g) (hL : ∀ p ∈ L, p.1 ≠ g) (x y z u q : Value) :
    Fx w0 (((((W.setCell ⟨g, 0, none⟩ x).setCell ⟨g, 1, none⟩ y).setCell ⟨g, 2, none⟩ z).setCell ⟨g, 3, none⟩ u).setCell ⟨g, 4, none⟩ q) L [] [] := by
  refine ⟨below_set5 h.bl hg, fun p hp => ?_, fun _ hp => (nomatch hp), fun _ hp => (nomatch hp)⟩
  have hk := h.blk p hp
  have hn := hL p hp
  exact ((((hk.far (p := ⟨g, 0, none⟩) hn x).far (p := ⟨g, 1, none⟩) hn y).far (p := ⟨g, 2, none⟩) hn z).far (p := ⟨g, 3, none⟩) hn u).far (p := ⟨g, 4, none⟩) hn q
set_option maxHeartbeats 8000000 in
theorem Build_full (s : St) (n : Nx) (v : Value) (l : List (List UInt8)) (w : World) (h : Bss w.heap.size w v l) (hn : l.length ≤ 1000) (hL : l.flatten.length ≤ 1000) (hne : n = 18446744073709551615#64) :
    Calls Tryz.prog 7 #[rgV s n, v] w fun e w' => e = .returned (.tuple #[.slice none 0 0, .slice none 0 0, .agg zRg, .int .i64 6]) ∧ Below w.heap.size w w' := by
  have hF := fun W (hb : Below w.heap.size w W) => fit_any v l W (h.grow hb) hn (by omega)
  have hC := fun W (hb : Below w.heap.size w W) => concat_bss v l W (h.grow hb) hn (by omega)
  have hS := fun v2 W (h2 : Bs 0 W.heap.size W v2 l.flatten) => sSeal_full s n v2 l.flatten W h2 hL hne
  obtain ⟨A, c, rfl, _⟩ := h
  generalize l.flatten = T at *
  generalize l.length = ml at *
  generalize T.length = mt at *
  have X0 : Fx w ((w.alloc (.cells (rgC s n) 27)).alloc (.cells zRg 27)) [(w.heap.size, 27, rgC s n), (w.heap.size + 1, 27, zRg)] [] [] := ((Fx.nil w).newB w.heap.size rfl (rgC s n) 27).newB (w.heap.size + 1) (by simp) zRg 27
  replace X0 := hide X0; replace hF := hide hF; replace hC := hide hC; replace hS := hide hS
  clear hn hL hne
  go_enter Tryz.func7, Tryz.ntmps7
  go_upto_region 1 with (fail)
  generalize hW : World.alloc (World.alloc w _) _ = W at *
  clear hW
  have hc0 : W.cell? ⟨w.heap.size, 0, none⟩ = some (u32v s.a) := ((unhide X0).get 0 rfl).cell 0
  have hc1 : W.cell? ⟨w.heap.size, 1, none⟩ = some (u32v s.b) := ((unhide X0).get 0 rfl).cell 1
  have hc2 : W.cell? ⟨w.heap.size, 2, none⟩ = some (u32v s.c) := ((unhide X0).get 0 rfl).cell 2
  have hc3 : W.cell? ⟨w.heap.size, 3, none⟩ = some (u32v s.d) := ((unhide X0).get 0 rfl).cell 3
  have hc4 : W.cell? ⟨w.heap.size, 4, none⟩ = some (u64v n) := ((unhide X0).get 0 rfl).cell 4
  have l0 : w.heap.size < W.heap.size := ((unhide X0).get 0 rfl).lt
  have l1 : w.heap.size + 1 < W.heap.size := ((unhide X0).get 1 rfl).lt
  go_upto_region 3 with (first
    | (go_at_call 19; refine (unhide hF _ (unhide X0).bl).mono ?_; rintro e wz ⟨rfl, rfl⟩)
    | fail)
  go_cut [8, 9, 10] (fun s8 s9 s10 wc => ∃ g, s8 = .slice none 0 0 ∧ s9 = .pointer (some ⟨g, 0, none⟩) ∧ s10 = .int .i64 6 ∧ Hid (Fx w wc [(w.heap.size, 27, rgC s n), (w.heap.size + 1, 27, zRg)] [] []))
  case first =>
    go_region_held3 (fun W => W.cell? ⟨w.heap.size, 0, none⟩ = some (u32v s.a) ∧ W.cell? ⟨w.heap.size, 1, none⟩ = some (u32v s.b) ∧ W.cell? ⟨w.heap.size, 2, none⟩ = some (u32v s.c) ∧ W.cell? ⟨w.heap.size, 3, none⟩ = some (u32v s.d) ∧ W.cell? ⟨w.heap.size, 4, none⟩ = some (u64v n)) (first | exact ⟨by with_reducible assumption, by with_reducible assumption, by with_reducible assumption, by with_reducible assumption, by with_reducible assumption⟩ | exact ⟨by go_simp, by go_simp, by go_simp, by go_simp, by go_simp⟩) (first
      | (go_at_call 20; refine (unhide hC W.drew (unhide X0).drew.bl).mono ?_; rintro e w5 ⟨A5, c5, rfl, o5, hb5⟩
         have X5 : Fx w w5 [(w.heap.size, 27, rgC s n), (w.heap.size + 1, 27, zRg)] [] [(.slice A5 mt c5, T)] := Fx.addZ ((unhide X0).drew.call hb5) (Bs.of_own0 o5)
         have d0 : w5.cell? ⟨w.heap.size, 0, none⟩ = some (u32v s.a) := (X5.get 0 rfl).cell 0
         have d1 : w5.cell? ⟨w.heap.size, 1, none⟩ = some (u32v s.b) := (X5.get 0 rfl).cell 1
         have d2 : w5.cell? ⟨w.heap.size, 2, none⟩ = some (u32v s.c) := (X5.get 0 rfl).cell 2
         have d3 : w5.cell? ⟨w.heap.size, 3, none⟩ = some (u32v s.d) := (X5.get 0 rfl).cell 3
         have d4 : w5.cell? ⟨w.heap.size, 4, none⟩ = some (u64v n) := (X5.get 0 rfl).cell 4
         have l5 : w.heap.size + 1 < w5.heap.size := (X5.get 1 rfl).lt
         have l5' : w.heap.size < w5.heap.size := (X5.get 0 rfl).lt
         replace X5 := hide X5
         clear o5 hb5)
      | (go_at_call 20; refine (unhide hC (W.drew.alloc (.cells zRg 27)) ((unhide X0).drew.alloc (.cells zRg 27)).bl).mono ?_; rintro e w5 ⟨A5, c5, rfl, o5, hb5⟩
         have X5 : Fx w w5 [(w.heap.size, 27, rgC s n), (w.heap.size + 1, 27, zRg)] [] [(.slice A5 mt c5, T)] := Fx.addZ (((unhide X0).drew.alloc (.cells zRg 27)).call hb5) (Bs.of_own0 o5)
         have K5 : Blk w5 W.heap.size 27 zRg := Blk.call (V := (W.drew.alloc (.cells zRg 27))) (Blk.new (w := W.drew) (t := 27) (cs := zRg) rfl) hb5
         replace K5 := hide K5
         have d0 : w5.cell? ⟨w.heap.size, 0, none⟩ = some (u32v s.a) := (X5.get 0 rfl).cell 0
         have d1 : w5.cell? ⟨w.heap.size, 1, none⟩ = some (u32v s.b) := (X5.get 0 rfl).cell 1
         have d2 : w5.cell? ⟨w.heap.size, 2, none⟩ = some (u32v s.c) := (X5.get 0 rfl).cell 2
         have d3 : w5.cell? ⟨w.heap.size, 3, none⟩ = some (u32v s.d) := (X5.get 0 rfl).cell 3
         have d4 : w5.cell? ⟨w.heap.size, 4, none⟩ = some (u64v n) := (X5.get 0 rfl).cell 4
         have l5 : w.heap.size + 1 < w5.heap.size := (X5.get 1 rfl).lt
         have l5' : w.heap.size < w5.heap.size := (X5.get 0 rfl).lt
         replace X5 := hide X5
         clear o5 hb5)
      | (go_at_call 13; refine (unhide hS _ w5 ((unhide X5).rd 0 rfl)).mono ?_; rintro e w6 ⟨rfl, hb6⟩
         have X6 : Fx w w6 [(w.heap.size, 27, rgC s n), (w.heap.size + 1, 27, zRg)] [] [] := Fx.sub (Z' := []) (R' := []) ((unhide X5).call hb6) (fun _ h => h) (fun _ h => h) (fun _ h => (nomatch h))
         have K6 : Blk w6 W.heap.size 27 zRg := (unhide K5).call hb6
         have k0 : w6.cell? ⟨W.heap.size, 0, none⟩ = some (.int .u32 0) := K6.cell 0
         have kf0 : w6.frozen? ⟨W.heap.size, 0, none⟩ = false := K6.frozen 0
         have k1 : w6.cell? ⟨W.heap.size, 1, none⟩ = some (.int .u32 0) := K6.cell 1
         have kf1 : w6.frozen? ⟨W.heap.size, 1, none⟩ = false := K6.frozen 1
         have k2 : w6.cell? ⟨W.heap.size, 2, none⟩ = some (.int .u32 0) := K6.cell 2
         have kf2 : w6.frozen? ⟨W.heap.size, 2, none⟩ = false := K6.frozen 2
         have k3 : w6.cell? ⟨W.heap.size, 3, none⟩ = some (.int .u32 0) := K6.cell 3
         have kf3 : w6.frozen? ⟨W.heap.size, 3, none⟩ = false := K6.frozen 3
         have k4 : w6.cell? ⟨W.heap.size, 4, none⟩ = some (.int .u64 0) := K6.cell 4
         have kf4 : w6.frozen? ⟨W.heap.size, 4, none⟩ = false := K6.frozen 4
         replace K6 := hide K6
         have e0 : w6.cell? ⟨w.heap.size, 0, none⟩ = some (u32v s.a) := (X6.get 0 rfl).cell 0
         have e1 : w6.cell? ⟨w.heap.size, 1, none⟩ = some (u32v s.b) := (X6.get 0 rfl).cell 1
         have e2 : w6.cell? ⟨w.heap.size, 2, none⟩ = some (u32v s.c) := (X6.get 0 rfl).cell 2
         have e3 : w6.cell? ⟨w.heap.size, 3, none⟩ = some (u32v s.d) := (X6.get 0 rfl).cell 3
         have e4 : w6.cell? ⟨w.heap.size, 4, none⟩ = some (u64v n) := (X6.get 0 rfl).cell 4
         have l6 : w.heap.size < w6.heap.size := (X6.get 0 rfl).lt
         replace X6 := hide X6
         clear hb6)
      | (go_at_call 13; refine (unhide hS _ w5 ((unhide X5).rd 0 rfl)).mono ?_; rintro e w6 ⟨rfl, hb6⟩
         have X6 : Fx w w6 [(w.heap.size, 27, rgC s n), (w.heap.size + 1, 27, zRg)] [] [] := Fx.sub (Z' := []) (R' := []) ((unhide X5).call hb6) (fun _ h => h) (fun _ h => h) (fun _ h => (nomatch h))
         have e0 : w6.cell? ⟨w.heap.size, 0, none⟩ = some (u32v s.a) := (X6.get 0 rfl).cell 0
         have e1 : w6.cell? ⟨w.heap.size, 1, none⟩ = some (u32v s.b) := (X6.get 0 rfl).cell 1
         have e2 : w6.cell? ⟨w.heap.size, 2, none⟩ = some (u32v s.c) := (X6.get 0 rfl).cell 2
         have e3 : w6.cell? ⟨w.heap.size, 3, none⟩ = some (u32v s.d) := (X6.get 0 rfl).cell 3
         have e4 : w6.cell? ⟨w.heap.size, 4, none⟩ = some (u64v n) := (X6.get 0 rfl).cell 4
         have l6 : w.heap.size < w6.heap.size := (X6.get 0 rfl).lt
         replace X6 := hide X6
         clear hb6)
      | (go_at_call 13; refine (unhide hS _ (w5.alloc (.cells zRg 27)) (((unhide X5).alloc (.cells zRg 27)).rd 0 rfl)).mono ?_; rintro e w6 ⟨rfl, hb6⟩
         have X6 : Fx w w6 [(w.heap.size, 27, rgC s n), (w.heap.size + 1, 27, zRg)] [] [] := Fx.sub (Z' := []) (R' := []) (((unhide X5).alloc (.cells zRg 27)).call hb6) (fun _ h => h) (fun _ h => h) (fun _ h => (nomatch h))
         have K6 : Blk w6 w5.heap.size 27 zRg := Blk.call (V := (w5.alloc (.cells zRg 27))) (Blk.new (w := w5) (t := 27) (cs := zRg) rfl) hb6
         have k0 : w6.cell? ⟨w5.heap.size, 0, none⟩ = some (.int .u32 0) := K6.cell 0
         have kf0 : w6.frozen? ⟨w5.heap.size, 0, none⟩ = false := K6.frozen 0
         have k1 : w6.cell? ⟨w5.heap.size, 1, none⟩ = some (.int .u32 0) := K6.cell 1
         have kf1 : w6.frozen? ⟨w5.heap.size, 1, none⟩ = false := K6.frozen 1
         have k2 : w6.cell? ⟨w5.heap.size, 2, none⟩ = some (.int .u32 0) := K6.cell 2
         have kf2 : w6.frozen? ⟨w5.heap.size, 2, none⟩ = false := K6.frozen 2
         have k3 : w6.cell? ⟨w5.heap.size, 3, none⟩ = some (.int .u32 0) := K6.cell 3
         have kf3 : w6.frozen? ⟨w5.heap.size, 3, none⟩ = false := K6.frozen 3
         have k4 : w6.cell? ⟨w5.heap.size, 4, none⟩ = some (.int .u64 0) := K6.cell 4
         have kf4 : w6.frozen? ⟨w5.heap.size, 4, none⟩ = false := K6.frozen 4
         replace K6 := hide K6
         have e0 : w6.cell? ⟨w.heap.size, 0, none⟩ = some (u32v s.a) := (X6.get 0 rfl).cell 0
         have e1 : w6.cell? ⟨w.heap.size, 1, none⟩ = some (u32v s.b) := (X6.get 0 rfl).cell 1
         have e2 : w6.cell? ⟨w.heap.size, 2, none⟩ = some (u32v s.c) := (X6.get 0 rfl).cell 2
         have e3 : w6.cell? ⟨w.heap.size, 3, none⟩ = some (u32v s.d) := (X6.get 0 rfl).cell 3
         have e4 : w6.cell? ⟨w.heap.size, 4, none⟩ = some (u64v n) := (X6.get 0 rfl).cell 4
         have l6 : w.heap.size < w6.heap.size := (X6.get 0 rfl).lt
         replace X6 := hide X6
         clear hb6)
      | fail)
    all_goals
      go_wp2_with fail
      go_meet
      first
        | exact ⟨_, rfl, rfl, rfl, hide ((unhide X6).alloc _)⟩
        | exact ⟨_, rfl, rfl, rfl, hide ((unhide X6).ring0 (by omega) (by simp; omega) (.int .u32 0) (.int .u32 0) (.int .u32 0) (.int .u32 0) (.int .u64 0))⟩
  case rest =>
    obtain ⟨g, rfl, rfl, rfl, X3⟩ := hcut
    clear X0 hc0 hc1 hc2 hc3 hc4 l0 l1
    have B1 := (unhide X3).get 1 rfl
    have b3 := (unhide X3).bl
    have F1 : Blk (wc.setRow (w.heap.size + 1) zRg) (w.heap.size + 1) 27 zRg := B1.row zRg
    replace B1 := hide B1; replace F1 := hide F1; replace b3 := hide b3
    go_wp2_with (first
      | (refine wpList_store_row rfl 27 (.tmp 6) (.tmp 25) rfl (w.heap.size + 1) zRg rfl rfl 27 zRg (unhide B1) size27 rfl zrg_one ?_)
      | fail)
    exact ret_sprt rfl (w.heap.size + 1) (.slice none 0 0) (.slice none 0 0) zRg (.int .i64 6) rfl rfl rfl rfl rfl (unhide F1) rfl ⟨rfl, bl_row (unhide b3) _ (by omega)⟩
end Go.Proofs.YthkccpemgmpadaaGreatDoor
