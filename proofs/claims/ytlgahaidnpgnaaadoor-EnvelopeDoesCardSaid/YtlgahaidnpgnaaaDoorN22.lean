import Derived.Test.YtlgahaidnpgnaaaDoorN21
namespace Go.Proofs.YtlgahaidnpgnaaaDoor
open Go.RowKit

set_option maxHeartbeats 1000000 in
theorem SealR_long (lo : Nat) (s : St) (n : Nx) (v : Value) (l : List UInt8) (w : World) (h : Bs lo w.heap.size w v l) (hl : 65536 < l.length) :
    Calls Tryd.prog 11 #[rgV s n, v] w fun e w' => e = .returned (.tuple #[.agg zBx, .agg zRg, .int .i64 3]) ∧ Below w.heap.size w w' := by
  obtain ⟨A, c, rfl⟩ := h.form
  have h1 : (65536 : Int) < (l.length : Int) := by omega
  have X0 : Fx w (((w.alloc (.cells (rgC s n) 27)).alloc (.cells zBx 30)).alloc (.cells zRg 27)) [(w.heap.size, 27, rgC s n), (w.heap.size + 1, 30, zBx), (w.heap.size + 1 + 1, 27, zRg)] [] [] := (((Fx.nil w).newB w.heap.size rfl (rgC s n) 27).newB (w.heap.size + 1) (by simp) zBx 30).newB (w.heap.size + 1 + 1) (by simp) zRg 27
  replace X0 := hide X0
  clear h hl
  go_enter Tryd.func11, Tryd.ntmps11
  go_upto_region 1 with (fail)
  generalize hW : World.alloc (World.alloc (World.alloc w _) _) _ = W at *
  clear hW
  have B1 := (unhide X0).get 1 rfl
  have B2 := (unhide X0).get 2 rfl
  have hb := (unhide X0).bl
  have B2' : Blk (W.setRow (w.heap.size + 1) zBx) (w.heap.size + 1 + 1) 27 zRg := B2.row_other zBx (by omega)
  have F1 : Blk ((W.setRow (w.heap.size + 1) zBx).setRow (w.heap.size + 1 + 1) zRg) (w.heap.size + 1) 30 zBx := (B1.row zBx).row_other zRg (by omega)
  have F2 : Blk ((W.setRow (w.heap.size + 1) zBx).setRow (w.heap.size + 1 + 1) zRg) (w.heap.size + 1 + 1) 27 zRg := B2'.row zRg
  replace B1 := hide B1; replace B2' := hide B2'; replace F1 := hide F1; replace F2 := hide F2; replace hb := hide hb
  clear B2
  go_wp2_with (first
    | (refine wpList_store_row rfl 30 (.tmp 4) (.tmp 13) rfl (w.heap.size + 1) zBx rfl rfl 30 zBx (unhide B1) size30 rfl zbx_one ?_)
    | (refine wpList_store_row rfl 27 (.tmp 5) (.tmp 14) rfl (w.heap.size + 1 + 1) zRg rfl rfl 27 zRg (unhide B2') size27 rfl zrg_one ?_)
    | fail)
  exact ret_br3 rfl (w.heap.size + 1) (w.heap.size + 1 + 1) zBx zRg (.int .i64 3) rfl rfl rfl rfl rfl (unhide F1) (unhide F2) rfl ⟨rfl, bl_row2 (unhide hb) _ _ (by omega) (by omega)⟩
set_option maxHeartbeats 1000000 in
theorem SealR_full (lo : Nat) (s : St) (v : Value) (l : List UInt8) (w : World) (h : Bs lo w.heap.size w v l) (hl : l.length ≤ 65536) :
    Calls Tryd.prog 11 #[rgV s 18446744073709551615#64, v] w fun e w' => e = .returned (.tuple #[.agg zBx, .agg zRg, .int .i64 6]) ∧ Below w.heap.size w w' := by
  obtain ⟨A, c, rfl⟩ := h.form
  have h1 : ¬ (65536 : Int) < (l.length : Int) := by omega
  have hf := full_eq
  generalize (18446744073709551615#64 : Nx) = n at *
  have X0 : Fx w (((w.alloc (.cells (rgC s n) 27)).alloc (.cells zBx 30)).alloc (.cells zRg 27)) [(w.heap.size, 27, rgC s n), (w.heap.size + 1, 30, zBx), (w.heap.size + 1 + 1, 27, zRg)] [] [] := (((Fx.nil w).newB w.heap.size rfl (rgC s n) 27).newB (w.heap.size + 1) (by simp) zBx 30).newB (w.heap.size + 1 + 1) (by simp) zRg 27
  replace X0 := hide X0
  clear h hl
  go_enter Tryd.func11, Tryd.ntmps11
  go_upto_region 1 with (fail)
  generalize hW : World.alloc (World.alloc (World.alloc w _) _) _ = W at *
  clear hW
  have c4 : W.cell? ⟨w.heap.size, 4, none⟩ = some (u64v n) := ((unhide X0).get 0 rfl).cell 4
  have B1 := (unhide X0).get 1 rfl
  have B2 := (unhide X0).get 2 rfl
  have hb := (unhide X0).bl
  have B2' : Blk (W.setRow (w.heap.size + 1) zBx) (w.heap.size + 1 + 1) 27 zRg := B2.row_other zBx (by omega)
  have F1 : Blk ((W.setRow (w.heap.size + 1) zBx).setRow (w.heap.size + 1 + 1) zRg) (w.heap.size + 1) 30 zBx := (B1.row zBx).row_other zRg (by omega)
  have F2 : Blk ((W.setRow (w.heap.size + 1) zBx).setRow (w.heap.size + 1 + 1) zRg) (w.heap.size + 1 + 1) 27 zRg := B2'.row zRg
  replace B1 := hide B1; replace B2' := hide B2'; replace F1 := hide F1; replace F2 := hide F2; replace hb := hide hb
  clear B2
  go_wp2_with (first
    | (refine wpList_store_row rfl 30 (.tmp 4) (.tmp 18) rfl (w.heap.size + 1) zBx rfl rfl 30 zBx (unhide B1) size30 rfl zbx_one ?_)
    | (refine wpList_store_row rfl 27 (.tmp 5) (.tmp 19) rfl (w.heap.size + 1 + 1) zRg rfl rfl 27 zRg (unhide B2') size27 rfl zrg_one ?_)
    | fail)
  exact ret_br3 rfl (w.heap.size + 1) (w.heap.size + 1 + 1) zBx zRg (.int .i64 6) rfl rfl rfl rfl rfl (unhide F1) (unhide F2) rfl ⟨rfl, bl_row2 (unhide hb) _ _ (by omega) (by omega)⟩
section
attribute [local go_sem] q_add1 wrap_add1
set_option maxHeartbeats 4000000 in
theorem SealR_good (s : St) (n : Nx) (v : Value) (l : List UInt8) (w : World) (h : Bs 0 w.heap.size w v l) (hl : l.length ≤ 65536) (hn : n ≠ 18446744073709551615#64) :
    Calls Tryd.prog 11 #[rgV s n, v] w fun e w' => ∃ A c, e = .returned (.tuple #[bxV n (.slice A l.length c) (tagF s n (hidF s n l)), rgV s (n + 1#64), .int .i64 0]) ∧ OwnB w' w.heap.size (.slice A l.length c) (hidF s n l) ∧ Below w.heap.size w w' := by
  have hlen := hid_len s n l
  have hT := fun W (hb : Below w.heap.size w W) => hidR_any s n v l W (h.to hb) hl
  have hG := fun v' W (h' : Bs 0 W.heap.size W v' (hidF s n l)) => TagR_good s n v' (hidF s n l) W h' (by omega)
  obtain ⟨A, c, rfl⟩ := h.form
  generalize hidF s n l = H at *
  generalize tagF s n H = T at *
  obtain ⟨m, hm⟩ : ∃ m, m = l.length := ⟨_, rfl⟩
  rw [← hm] at hlen hl hT ⊢
  have h1 : ¬ (65536 : Int) < (m : Int) := by omega
  have hf := full_ne hn
  have X0 : Fx w (((w.alloc (.cells (rgC s n) 27)).alloc (.cells zBx 30)).alloc (.cells zRg 27)) [(w.heap.size, 27, rgC s n), (w.heap.size + 1, 30, zBx), (w.heap.size + 1 + 1, 27, zRg)] [] [] := (((Fx.nil w).newB w.heap.size rfl (rgC s n) 27).newB (w.heap.size + 1) (by simp) zBx 30).newB (w.heap.size + 1 + 1) (by simp) zRg 27
  replace X0 := hide X0; replace hT := hide hT; replace hG := hide hG; replace hlen := hide hlen
  clear h hl hn hm
  go_enter Tryd.func11, Tryd.ntmps11
  go_upto_region 1 with (fail)
  generalize hW : World.alloc (World.alloc (World.alloc w _) _) _ = W at *
  clear hW
  have c0 : W.cell? ⟨w.heap.size, 0, none⟩ = some (u32v s.a) := ((unhide X0).get 0 rfl).cell 0
  have c1 : W.cell? ⟨w.heap.size, 1, none⟩ = some (u32v s.b) := ((unhide X0).get 0 rfl).cell 1
  have c2 : W.cell? ⟨w.heap.size, 2, none⟩ = some (u32v s.c) := ((unhide X0).get 0 rfl).cell 2
  have c3 : W.cell? ⟨w.heap.size, 3, none⟩ = some (u32v s.d) := ((unhide X0).get 0 rfl).cell 3
  have c4 : W.cell? ⟨w.heap.size, 4, none⟩ = some (u64v n) := ((unhide X0).get 0 rfl).cell 4
  go_upto_region 7 with (first
    | (go_at_call 26; refine (unhide hT _ (unhide X0).bl).mono ?_; rintro e w2 ⟨A2, c2', rfl, o2, hb2⟩
       have X2 : Fx w w2 [(w.heap.size, 27, rgC s n), (w.heap.size + 1, 30, zBx), (w.heap.size + 1 + 1, 27, zRg)] [(w.heap.size, .slice A2 m c2', H)] [] := Fx.addR ((unhide X0).call hb2) (ownsRow_mono o2 (unhide X0).bl.size) ((unhide X0).call hb2).bl.size
       have d0 : w2.cell? ⟨w.heap.size, 0, none⟩ = some (u32v s.a) := (X2.get 0 rfl).cell 0
       have d1 : w2.cell? ⟨w.heap.size, 1, none⟩ = some (u32v s.b) := (X2.get 0 rfl).cell 1
       have d2 : w2.cell? ⟨w.heap.size, 2, none⟩ = some (u32v s.c) := (X2.get 0 rfl).cell 2
       have d3 : w2.cell? ⟨w.heap.size, 3, none⟩ = some (u32v s.d) := (X2.get 0 rfl).cell 3
       have d4 : w2.cell? ⟨w.heap.size, 4, none⟩ = some (u64v n) := (X2.get 0 rfl).cell 4
       replace X2 := hide X2
       clear o2 hb2)
    | (go_at_call 21; refine (unhide hG _ _ (Bs.of_own0 ((unhide X2).own 0 rfl))).mono ?_; rintro e w3 ⟨rfl, hb3⟩
       have l3 : w.heap.size + 1 + 1 < w3.heap.size := (((unhide X2).call hb3).get 2 rfl).lt
       have X3 : Fx w (w3.alloc (.cells (stC T) 24)) [(w.heap.size, 27, rgC s n), (w.heap.size + 1, 30, zBx), (w.heap.size + 1 + 1, 27, zRg), (w3.heap.size, 24, stC T)] [(w.heap.size, .slice A2 m c2', H)] [] := ((unhide X2).call hb3).newB w3.heap.size rfl (stC T) 24
       replace X3 := hide X3
       clear hb3)
    | fail)
  clear d0 d1 d2 d3 d4 c0 c1 c2 c3 c4
  generalize w3.heap.size = g9 at *
  generalize World.alloc w3 _ = V at *
  have d0 : V.cell? ⟨w.heap.size, 0, none⟩ = some (u32v s.a) := ((unhide X3).get 0 rfl).cell 0
  have d1 : V.cell? ⟨w.heap.size, 1, none⟩ = some (u32v s.b) := ((unhide X3).get 0 rfl).cell 1
  have d2 : V.cell? ⟨w.heap.size, 2, none⟩ = some (u32v s.c) := ((unhide X3).get 0 rfl).cell 2
  have d3 : V.cell? ⟨w.heap.size, 3, none⟩ = some (u32v s.d) := ((unhide X3).get 0 rfl).cell 3
  have d4 : V.cell? ⟨w.heap.size, 4, none⟩ = some (u64v n) := ((unhide X3).get 0 rfl).cell 4
  have t0 : V.cell? ⟨g9, 0, none⟩ = some (u32v T.a) := ((unhide X3).get 3 rfl).cell 0
  have t1 : V.cell? ⟨g9, 1, none⟩ = some (u32v T.b) := ((unhide X3).get 3 rfl).cell 1
  have t2 : V.cell? ⟨g9, 2, none⟩ = some (u32v T.c) := ((unhide X3).get 3 rfl).cell 2
  have t3 : V.cell? ⟨g9, 3, none⟩ = some (u32v T.d) := ((unhide X3).get 3 rfl).cell 3
  have p0 : V.cell? ⟨w.heap.size + 1, 0, none⟩ = some (.int .u64 0) := ((unhide X3).get 1 rfl).cell 0
  have fp0 : V.frozen? ⟨w.heap.size + 1, 0, none⟩ = false := ((unhide X3).get 1 rfl).frozen 0
  have p1 : V.cell? ⟨w.heap.size + 1, 1, none⟩ = some (.slice none 0 0) := ((unhide X3).get 1 rfl).cell 1
  have fp1 : V.frozen? ⟨w.heap.size + 1, 1, none⟩ = false := ((unhide X3).get 1 rfl).frozen 1
  have p2 : V.cell? ⟨w.heap.size + 1, 2, none⟩ = some (.int .u32 0) := ((unhide X3).get 1 rfl).cell 2
  have fp2 : V.frozen? ⟨w.heap.size + 1, 2, none⟩ = false := ((unhide X3).get 1 rfl).frozen 2
  have p3 : V.cell? ⟨w.heap.size + 1, 3, none⟩ = some (.int .u32 0) := ((unhide X3).get 1 rfl).cell 3
  have fp3 : V.frozen? ⟨w.heap.size + 1, 3, none⟩ = false := ((unhide X3).get 1 rfl).frozen 3
  have p4 : V.cell? ⟨w.heap.size + 1, 4, none⟩ = some (.int .u32 0) := ((unhide X3).get 1 rfl).cell 4
  have fp4 : V.frozen? ⟨w.heap.size + 1, 4, none⟩ = false := ((unhide X3).get 1 rfl).frozen 4
  have p5 : V.cell? ⟨w.heap.size + 1, 5, none⟩ = some (.int .u32 0) := ((unhide X3).get 1 rfl).cell 5
  have fp5 : V.frozen? ⟨w.heap.size + 1, 5, none⟩ = false := ((unhide X3).get 1 rfl).frozen 5
  have q0 : V.cell? ⟨w.heap.size + 1 + 1, 0, none⟩ = some (.int .u32 0) := ((unhide X3).get 2 rfl).cell 0
  have fq0 : V.frozen? ⟨w.heap.size + 1 + 1, 0, none⟩ = false := ((unhide X3).get 2 rfl).frozen 0
  have q1 : V.cell? ⟨w.heap.size + 1 + 1, 1, none⟩ = some (.int .u32 0) := ((unhide X3).get 2 rfl).cell 1
  have fq1 : V.frozen? ⟨w.heap.size + 1 + 1, 1, none⟩ = false := ((unhide X3).get 2 rfl).frozen 1
  have q2 : V.cell? ⟨w.heap.size + 1 + 1, 2, none⟩ = some (.int .u32 0) := ((unhide X3).get 2 rfl).cell 2
  have fq2 : V.frozen? ⟨w.heap.size + 1 + 1, 2, none⟩ = false := ((unhide X3).get 2 rfl).frozen 2
  have q3 : V.cell? ⟨w.heap.size + 1 + 1, 3, none⟩ = some (.int .u32 0) := ((unhide X3).get 2 rfl).cell 3
  have fq3 : V.frozen? ⟨w.heap.size + 1 + 1, 3, none⟩ = false := ((unhide X3).get 2 rfl).frozen 3
  have q4 : V.cell? ⟨w.heap.size + 1 + 1, 4, none⟩ = some (.int .u64 0) := ((unhide X3).get 2 rfl).cell 4
  have fq4 : V.frozen? ⟨w.heap.size + 1 + 1, 4, none⟩ = false := ((unhide X3).get 2 rfl).frozen 4
  have k0 : w.heap.size < V.heap.size := ((unhide X3).get 0 rfl).lt
  have k9 : g9 < V.heap.size := ((unhide X3).get 3 rfl).lt
  have n1 : ¬ w.heap.size + 1 = g9 := by omega
  have n2 : ¬ w.heap.size + 1 + 1 = g9 := by omega
  have n3 : ¬ g9 = w.heap.size + 1 := by omega
  have n4 : ¬ g9 = w.heap.size + 1 + 1 := by omega
  go_region_held3 (fun W => W.cell? ⟨w.heap.size, 0, none⟩ = some (u32v s.a) ∧ W.cell? ⟨w.heap.size, 1, none⟩ = some (u32v s.b) ∧ W.cell? ⟨w.heap.size, 2, none⟩ = some (u32v s.c) ∧ W.cell? ⟨w.heap.size, 3, none⟩ = some (u32v s.d) ∧ W.cell? ⟨w.heap.size, 4, none⟩ = some (u64v n) ∧ W.cell? ⟨g9, 0, none⟩ = some (u32v T.a) ∧ W.cell? ⟨g9, 1, none⟩ = some (u32v T.b) ∧ W.cell? ⟨g9, 2, none⟩ = some (u32v T.c) ∧ W.cell? ⟨g9, 3, none⟩ = some (u32v T.d)) (first | exact ⟨by with_reducible assumption, by with_reducible assumption, by with_reducible assumption, by with_reducible assumption, by with_reducible assumption, by with_reducible assumption, by with_reducible assumption, by with_reducible assumption, by with_reducible assumption⟩ | exact ⟨by go_simp, by go_simp, by go_simp, by go_simp, by go_simp, by go_simp, by go_simp, by go_simp, by go_simp⟩) (fail)
  go_wp2_with (fail)
  obtain ⟨F1, F2, F3, F4⟩ := two_put (x0 := u64v n) (x1 := .slice A2 m c2') (x2 := u32v T.a) (x3 := u32v T.b) (x4 := u32v T.c) (x5 := u32v T.d) (y0 := u32v s.a) (y1 := u32v s.b) (y2 := u32v s.c) (y3 := u32v s.d) (y4 := u64v (n + 1#64)) ((unhide X3).get 1 rfl) ((unhide X3).get 2 rfl) (by omega) ((unhide X3).own 0 rfl) (unhide X3).bl (by omega) (by omega)
  refine ret_br3 rfl (w.heap.size + 1) (w.heap.size + 1 + 1) (bxC n (.slice A2 m c2') T) (rgC s (n + 1#64)) (.int .i64 0) rfl rfl rfl rfl rfl F1 F2 rfl ⟨A2, c2', rfl, F3, F4⟩
end
set_option maxHeartbeats 1000000 in
theorem OpenR_long (lo : Nat) (s : St) (n : Nx) (v : Value) (l : List UInt8) (t : St) (w : World) (h : Bs lo w.heap.size w v l) (hl : 65536 < l.length) :
    Calls Tryd.prog 13 #[stV s, bxV n v t] w fun e w' => e = .returned (.tuple #[.slice none 0 0, .int .i64 3]) ∧ Below w.heap.size w w' := by
  have hT := fun W (hb : Below w.heap.size w W) => Tag21_long lo s n v l W (h.to hb) hl
  obtain ⟨A, c, rfl⟩ := h.form
  have X0 : Fx w ((w.alloc (.cells (stC s) 24)).alloc (.cells (bxC n (.slice A l.length c) t) 30)) [(w.heap.size, 24, stC s), (w.heap.size + 1, 30, bxC n (.slice A l.length c) t)] [] [] := ((Fx.nil w).newB w.heap.size rfl (stC s) 24).newB (w.heap.size + 1) (by simp) (bxC n (.slice A l.length c) t) 30
  generalize l.length = m at *
  replace X0 := hide X0; replace hT := hide hT
  clear h hl
  go_enter Tryd.func13, Tryd.ntmps13
  go_upto_region 1 with (fail)
  generalize hW : World.alloc (World.alloc w _) _ = W at *
  clear hW
  have c0 : W.cell? ⟨w.heap.size, 0, none⟩ = some (u32v s.a) := ((unhide X0).get 0 rfl).cell 0
  have c1 : W.cell? ⟨w.heap.size, 1, none⟩ = some (u32v s.b) := ((unhide X0).get 0 rfl).cell 1
  have c2 : W.cell? ⟨w.heap.size, 2, none⟩ = some (u32v s.c) := ((unhide X0).get 0 rfl).cell 2
  have c3 : W.cell? ⟨w.heap.size, 3, none⟩ = some (u32v s.d) := ((unhide X0).get 0 rfl).cell 3
  have b0 : W.cell? ⟨w.heap.size + 1, 0, none⟩ = some (u64v n) := ((unhide X0).get 1 rfl).cell 0
  have b1 : W.cell? ⟨w.heap.size + 1, 1, none⟩ = some (.slice A m c) := ((unhide X0).get 1 rfl).cell 1
  go_wp2_with (first
    | (go_at_call 21; refine (unhide hT _ (unhide X0).bl).mono ?_; rintro e w2 ⟨rfl, hb2⟩)
    | fail)
  go_ret2
  exact ⟨rfl, bl_alloc (bl_call (unhide X0).bl hb2) _⟩

set_option maxHeartbeats 1000000 in
theorem OpenR_any (s : St) (n : Nx) (v : Value) (l : List UInt8) (t : St) (w : World) (h : Bs 0 w.heap.size w v l) (hl : l.length ≤ 65536) :
    Calls Tryd.prog 13 #[stV s, bxV n v t] w fun e w' => (if sameS (tagF s n l) t = true then ∃ A c, e = .returned (.tuple #[.slice A l.length c, .int .i64 0]) ∧ OwnB w' w.heap.size (.slice A l.length c) (hidF s n l) else e = .returned (.tuple #[.slice none 0 0, .int .i64 8])) ∧ Below w.heap.size w w' := by
  have hT := fun W (hb : Below w.heap.size w W) => TagR_good s n v l W (h.to hb) hl
  have hG := fun W (hb : Below w.heap.size w W) => hidR_any s n v l W (h.to hb) hl
  obtain ⟨A, c, rfl⟩ := h.form
  have X0 : Fx w ((w.alloc (.cells (stC s) 24)).alloc (.cells (bxC n (.slice A l.length c) t) 30)) [(w.heap.size, 24, stC s), (w.heap.size + 1, 30, bxC n (.slice A l.length c) t)] [] [] := ((Fx.nil w).newB w.heap.size rfl (stC s) 24).newB (w.heap.size + 1) (by simp) (bxC n (.slice A l.length c) t) 30
  generalize hidF s n l = H at *
  generalize tagF s n l = T at *
  generalize l.length = m at *
  have hE := fun W => neq_st W T t
  have hz : ∃ z, z = sameS T t := ⟨_, rfl⟩
  obtain ⟨z, hz⟩ := hz
  rw [← hz] at hE ⊢
  replace X0 := hide X0; replace hT := hide hT; replace hG := hide hG
  clear h hl hz
  go_enter Tryd.func13, Tryd.ntmps13
  go_upto_region 1 with (fail)
  generalize hW : World.alloc (World.alloc w _) _ = W at *
  clear hW
  have c0 : W.cell? ⟨w.heap.size, 0, none⟩ = some (u32v s.a) := ((unhide X0).get 0 rfl).cell 0
  have c1 : W.cell? ⟨w.heap.size, 1, none⟩ = some (u32v s.b) := ((unhide X0).get 0 rfl).cell 1
  have c2 : W.cell? ⟨w.heap.size, 2, none⟩ = some (u32v s.c) := ((unhide X0).get 0 rfl).cell 2
  have c3 : W.cell? ⟨w.heap.size, 3, none⟩ = some (u32v s.d) := ((unhide X0).get 0 rfl).cell 3
  have b0 : W.cell? ⟨w.heap.size + 1, 0, none⟩ = some (u64v n) := ((unhide X0).get 1 rfl).cell 0
  have b1 : W.cell? ⟨w.heap.size + 1, 1, none⟩ = some (.slice A m c) := ((unhide X0).get 1 rfl).cell 1
  go_upto_region 4 with (first
    | (go_at_call 21; refine (unhide hT _ (unhide X0).bl).mono ?_; rintro e w2 ⟨rfl, hb2⟩
       have X2 : Fx w (w2.alloc (.cells (stC T) 24)) [(w.heap.size, 24, stC s), (w.heap.size + 1, 30, bxC n (.slice A m c) t), (w2.heap.size, 24, stC T)] [] [] := ((unhide X0).call hb2).newB w2.heap.size rfl (stC T) 24
       replace X2 := hide X2
       clear hb2)
    | fail)
  generalize w2.heap.size = g2 at *
  generalize World.alloc w2 _ = W2 at *
  clear c0 c1 c2 c3 b0 b1
  have c0 : W2.cell? ⟨w.heap.size, 0, none⟩ = some (u32v s.a) := ((unhide X2).get 0 rfl).cell 0
  have c1 : W2.cell? ⟨w.heap.size, 1, none⟩ = some (u32v s.b) := ((unhide X2).get 0 rfl).cell 1
  have c2 : W2.cell? ⟨w.heap.size, 2, none⟩ = some (u32v s.c) := ((unhide X2).get 0 rfl).cell 2
  have c3 : W2.cell? ⟨w.heap.size, 3, none⟩ = some (u32v s.d) := ((unhide X2).get 0 rfl).cell 3
  have b0 : W2.cell? ⟨w.heap.size + 1, 0, none⟩ = some (u64v n) := ((unhide X2).get 1 rfl).cell 0
  have b1 : W2.cell? ⟨w.heap.size + 1, 1, none⟩ = some (.slice A m c) := ((unhide X2).get 1 rfl).cell 1
  have b2 : W2.cell? ⟨w.heap.size + 1, 2, none⟩ = some (u32v t.a) := ((unhide X2).get 1 rfl).cell 2
  have b3 : W2.cell? ⟨w.heap.size + 1, 3, none⟩ = some (u32v t.b) := ((unhide X2).get 1 rfl).cell 3
  have b4 : W2.cell? ⟨w.heap.size + 1, 4, none⟩ = some (u32v t.c) := ((unhide X2).get 1 rfl).cell 4
  have b5 : W2.cell? ⟨w.heap.size + 1, 5, none⟩ = some (u32v t.d) := ((unhide X2).get 1 rfl).cell 5
  have t0 : W2.cell? ⟨g2, 0, none⟩ = some (u32v T.a) := ((unhide X2).get 2 rfl).cell 0
  have t1 : W2.cell? ⟨g2, 1, none⟩ = some (u32v T.b) := ((unhide X2).get 2 rfl).cell 1
  have t2 : W2.cell? ⟨g2, 2, none⟩ = some (u32v T.c) := ((unhide X2).get 2 rfl).cell 2
  have t3 : W2.cell? ⟨g2, 3, none⟩ = some (u32v T.d) := ((unhide X2).get 2 rfl).cell 3
  cases z with
  | false =>
    go_wp2_with (fail)
    go_ret2
    exact ⟨rfl, (unhide X2).bl⟩
  | true =>
    go_wp2_with (first
      | (go_at_call 26; refine (unhide hG _ (unhide X2).bl).mono ?_; rintro e w3 ⟨A3, c3', rfl, o3, hb3⟩)
      | fail)
    go_ret2
    exact ⟨⟨A3, c3', rfl, ownsRow_mono o3 (unhide X2).bl.size⟩, bl_call (unhide X2).bl hb3⟩
end Go.Proofs.YtlgahaidnpgnaaaDoor
