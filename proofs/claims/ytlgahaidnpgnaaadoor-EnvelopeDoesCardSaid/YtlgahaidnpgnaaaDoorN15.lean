import Derived.Test.YtlgahaidnpgnaaaDoorN14
namespace Go.Proofs.YtlgahaidnpgnaaaDoor
open Go.RowKit

set_option maxHeartbeats 1000000 in
theorem From_short (lo : Nat) (v : Value) (l : List UInt8) (w : World) (h : Bs lo w.heap.size w v l) (hl : l.length < 24) :
    Calls Tryd.prog 16 #[v] w fun e w' => e = .returned (.tuple #[.agg zBx, .int .i64 2]) ∧ Below w.heap.size w w' := by
  obtain ⟨A, c, rfl⟩ := h.form
  have h1 : (l.length : Int) < 24 := by omega
  have hB : Blk (w.alloc (.cells zBx 30)) w.heap.size 30 zBx := Blk.new rfl
  have hb : Below w.heap.size w (w.alloc (.cells zBx 30)) := bl_alloc (Below.refl _ _) _
  replace hB := hide hB; replace hb := hide hb
  clear h hl
  go_enter Tryd.func16, Tryd.ntmps16
  go_wp2_with (first
    | (refine wpList_store_row rfl 30 (.tmp 2) (.tmp 9) rfl w.heap.size zBx rfl rfl 30 zBx (unhide hB) size30 rfl zbx_one ?_)
    | fail)
  exact ret_b2 rfl w.heap.size zBx _ rfl rfl rfl ((unhide hB).row _) rfl ⟨rfl, bl_row (unhide hb) _ (Nat.le_refl _)⟩
set_option maxHeartbeats 1000000 in
theorem From_long (lo : Nat) (v : Value) (l : List UInt8) (w : World) (h : Bs lo w.heap.size w v l) (hl : 65560 < l.length) :
    Calls Tryd.prog 16 #[v] w fun e w' => e = .returned (.tuple #[.agg zBx, .int .i64 3]) ∧ Below w.heap.size w w' := by
  obtain ⟨A, c, rfl⟩ := h.form
  have h0 : ¬ (l.length : Int) < 24 := by omega
  have h1 : (65560 : Int) < (l.length : Int) := by omega
  have hB : Blk (w.alloc (.cells zBx 30)) w.heap.size 30 zBx := Blk.new rfl
  have hb : Below w.heap.size w (w.alloc (.cells zBx 30)) := bl_alloc (Below.refl _ _) _
  replace hB := hide hB; replace hb := hide hb
  clear h hl
  go_enter Tryd.func16, Tryd.ntmps16
  go_wp2_with (first
    | (refine wpList_store_row rfl 30 (.tmp 2) (.tmp 13) rfl w.heap.size zBx rfl rfl 30 zBx (unhide hB) size30 rfl zbx_one ?_)
    | fail)
  exact ret_b2 rfl w.heap.size zBx _ rfl rfl rfl ((unhide hB).row _) rfl ⟨rfl, bl_row (unhide hb) _ (Nat.le_refl _)⟩

theorem Blk.set6 {V : World} {g : Nat} {t : TypeId} {a0 a1 a2 a3 a4 a5 x0 x1 x2 x3 x4 x5 : Value} (h1 : Blk V g t #[a0, a1, a2, a3, a4, a5]) :
    Blk ((((((V.setCell ⟨g, 0, none⟩ x0).setCell ⟨g, 1, none⟩ x1).setCell ⟨g, 2, none⟩ x2).setCell ⟨g, 3, none⟩ x3).setCell ⟨g, 4, none⟩ x4).setCell ⟨g, 5, none⟩ x5) g t #[x0, x1, x2, x3, x4, x5] := by
  simpa using (((((h1.set 0 x0).set 1 x1).set 2 x2).set 3 x3).set 4 x4).set 5 x5
theorem own_set6 {V : World} {g1 base : Nat} {v : Value} {l : List UInt8} {a0 a1 a2 a3 a4 a5 x0 x1 x2 x3 x4 x5 : Value} (h1 : Blk V g1 30 #[a0, a1, a2, a3, a4, a5]) (ho : OwnB V base v l) :
    OwnB ((((((V.setCell ⟨g1, 0, none⟩ x0).setCell ⟨g1, 1, none⟩ x1).setCell ⟨g1, 2, none⟩ x2).setCell ⟨g1, 3, none⟩ x3).setCell ⟨g1, 4, none⟩ x4).setCell ⟨g1, 5, none⟩ x5) base v l :=
  own_far (own_far (own_far (own_far (own_far (own_far ho h1 (by decide) 0 x0) (h1.set 0 x0) (by decide) 1 x1) ((h1.set 0 x0).set 1 x1) (by decide) 2 x2) (((h1.set 0 x0).set 1 x1).set 2 x2) (by decide) 3 x3) ((((h1.set 0 x0).set 1 x1).set 2 x2).set 3 x3) (by decide) 4 x4) (((((h1.set 0 x0).set 1 x1).set 2 x2).set 3 x3).set 4 x4) (by decide) 5 x5
theorem below_set6 {B g1 : Nat} {a V : World} {x0 x1 x2 x3 x4 x5 : Value} (hb : Below B a V) (hg1 : B ≤ g1) :
    Below B a ((((((V.setCell ⟨g1, 0, none⟩ x0).setCell ⟨g1, 1, none⟩ x1).setCell ⟨g1, 2, none⟩ x2).setCell ⟨g1, 3, none⟩ x3).setCell ⟨g1, 4, none⟩ x4).setCell ⟨g1, 5, none⟩ x5) :=
  (((((hb.setCell (p := ⟨g1, 0, none⟩) hg1 x0).setCell (p := ⟨g1, 1, none⟩) hg1 x1).setCell (p := ⟨g1, 2, none⟩) hg1 x2).setCell (p := ⟨g1, 3, none⟩) hg1 x3).setCell (p := ⟨g1, 4, none⟩) hg1 x4).setCell (p := ⟨g1, 5, none⟩) hg1 x5

set_option maxHeartbeats 1000000 in
theorem From_good (v : Value) (l : List UInt8) (w : World) (h : Bs 0 w.heap.size w v l) (hl : 24 ≤ l.length) (hl2 : l.length ≤ 65560) :
    Calls Tryd.prog 16 #[v] w fun e w' => ∃ A c, e = .returned (.tuple #[bxV (fromF l).n (.slice A (fromF l).text.length c) (fromF l).tag, .int .i64 0]) ∧ OwnB w' w.heap.size (.slice A (fromF l).text.length c) (fromF l).text ∧ Below w.heap.size w w' := by
  obtain ⟨A, c, rfl⟩ := h.form
  have h0 : ¬ (l.length : Int) < 24 := by omega
  have h1 : ¬ (65560 : Int) < (l.length : Int) := by omega
  obtain ⟨A1, c1, s1, b1⟩ := h.cut_lh 8 24 8 24 rfl rfl (by omega) (by omega)
  obtain ⟨A2, c2, s2, b2⟩ := h.cut_h 8 8 rfl (by omega)
  obtain ⟨A3, c3, s3, b3⟩ := h.cut_l 24 24 rfl (by omega)
  have hO := fun W (hb : Below w.heap.size w W) => Of_good 0 _ _ W (b1.to hb) (by rw [List.length_take, List.length_drop]; omega)
  have hN := fun W (hb : Below w.heap.size w W) => number8_any 0 _ _ _ W (b2.to hb) (by rw [List.length_take]; omega)
  have hC := fun W (hb : Below w.heap.size w W) => bclone 0 _ _ W (b3.to hb) (by rw [List.length_drop]; omega)
  have e16 : 24 - 8 = 16 := rfl
  rw [e16] at s1 hO
  have hdl : l.length - 24 = (l.drop 24).length := (List.length_drop ..).symm
  rw [hdl] at s3 hC
  have f1 : (fromF l).n = of8 (l.take 8) := rfl
  have f2 : (fromF l).text = l.drop 24 := rfl
  have f3 : (fromF l).tag = ofF ((l.drop 8).take 16) := rfl
  rw [f1, f2, f3]
  generalize of8 (l.take 8) = n at *
  generalize ofF ((l.drop 8).take 16) = T at *
  generalize l.drop 24 = out at *
  have z1 : (24 : Int) ≤ (l.length : Int) := by omega
  generalize l.length = m at *
  have X0 : Fx w (w.alloc (.cells zBx 30)) [(w.heap.size, 30, zBx)] [] [] := (Fx.nil w).newB w.heap.size rfl zBx 30
  replace X0 := hide X0; replace hO := hide hO; replace hN := hide hN; replace hC := hide hC
  clear h hl hl2 b1 b2 b3 e16 hdl f1 f2 f3
  go_enter Tryd.func16, Tryd.ntmps16
  go_upto_region 8 with (first
    | (go_at_call 32; refine (unhide hO _ (unhide X0).bl).mono ?_; rintro e w2 ⟨rfl, hb2⟩
       have X2 : Fx w (w2.alloc (.cells (stC T) 24)) [(w.heap.size, 30, zBx), (w2.heap.size, 24, stC T)] [] [] := ((unhide X0).call hb2).newB w2.heap.size rfl (stC T) 24
       have l2 : w.heap.size < w2.heap.size := (((unhide X0).call hb2).get 0 rfl).lt
       replace X2 := hide X2
       clear hb2)
    | fail)
  generalize w2.heap.size = g2 at *
  generalize World.alloc w2 _ = W at *
  have k0 : w.heap.size < W.heap.size := ((unhide X2).get 0 rfl).lt
  have k2 : g2 < W.heap.size := ((unhide X2).get 1 rfl).lt
  have t0 : W.cell? ⟨g2, 0, none⟩ = some (u32v T.a) := ((unhide X2).get 1 rfl).cell 0
  have t1 : W.cell? ⟨g2, 1, none⟩ = some (u32v T.b) := ((unhide X2).get 1 rfl).cell 1
  have t2 : W.cell? ⟨g2, 2, none⟩ = some (u32v T.c) := ((unhide X2).get 1 rfl).cell 2
  have t3 : W.cell? ⟨g2, 3, none⟩ = some (u32v T.d) := ((unhide X2).get 1 rfl).cell 3
  have n1 : ¬ g2 = w.heap.size := by omega
  have n2 : ¬ w.heap.size = g2 := by omega
  go_region_held3 (fun W => W.cell? ⟨g2, 0, none⟩ = some (u32v T.a) ∧ W.cell? ⟨g2, 1, none⟩ = some (u32v T.b) ∧ W.cell? ⟨g2, 2, none⟩ = some (u32v T.c) ∧ W.cell? ⟨g2, 3, none⟩ = some (u32v T.d)) (first | exact ⟨by with_reducible assumption, by with_reducible assumption, by with_reducible assumption, by with_reducible assumption⟩ | exact ⟨by go_simp, by go_simp, by go_simp, by go_simp⟩)
    (first
    | (go_at_call 33; refine (unhide hN _ (unhide X2).drew.bl).mono ?_; rintro e w5 ⟨rfl, rfl⟩)
    | (go_at_call 34; refine (unhide hC _ (unhide X2).drew.bl).mono ?_; rintro e w6 ⟨A6, c6, rfl, o6, hb6⟩
       have X6 : Fx w w6 [(w.heap.size, 30, zBx), (g2, 24, stC T)] [(w.heap.size, .slice A6 out.length c6, out)] [] := Fx.addR (Fx.call (unhide X2).drew hb6) (ownsRow_mono o6 (unhide X2).bl.size) (Fx.call (unhide X2).drew hb6).bl.size
       have k6 : w.heap.size < w6.heap.size := (X6.get 0 rfl).lt
       have f0 : w6.cell? ⟨g2, 0, none⟩ = some (u32v T.a) := (X6.get 1 rfl).cell 0
       have f1 : w6.cell? ⟨g2, 1, none⟩ = some (u32v T.b) := (X6.get 1 rfl).cell 1
       have f2 : w6.cell? ⟨g2, 2, none⟩ = some (u32v T.c) := (X6.get 1 rfl).cell 2
       have f3 : w6.cell? ⟨g2, 3, none⟩ = some (u32v T.d) := (X6.get 1 rfl).cell 3
       have z0 : w6.cell? ⟨w.heap.size, 0, none⟩ = some (.int .u64 0) := (X6.get 0 rfl).cell 0
       have z1 : w6.cell? ⟨w.heap.size, 1, none⟩ = some (.slice none 0 0) := (X6.get 0 rfl).cell 1
       have z2 : w6.cell? ⟨w.heap.size, 2, none⟩ = some (.int .u32 0) := (X6.get 0 rfl).cell 2
       have z3 : w6.cell? ⟨w.heap.size, 3, none⟩ = some (.int .u32 0) := (X6.get 0 rfl).cell 3
       have z4 : w6.cell? ⟨w.heap.size, 4, none⟩ = some (.int .u32 0) := (X6.get 0 rfl).cell 4
       have z5 : w6.cell? ⟨w.heap.size, 5, none⟩ = some (.int .u32 0) := (X6.get 0 rfl).cell 5
       have r0 : w6.frozen? ⟨w.heap.size, 0, none⟩ = false := (X6.get 0 rfl).frozen 0
       have r1 : w6.frozen? ⟨w.heap.size, 1, none⟩ = false := (X6.get 0 rfl).frozen 1
       have r2 : w6.frozen? ⟨w.heap.size, 2, none⟩ = false := (X6.get 0 rfl).frozen 2
       have r3 : w6.frozen? ⟨w.heap.size, 3, none⟩ = false := (X6.get 0 rfl).frozen 3
       have r4 : w6.frozen? ⟨w.heap.size, 4, none⟩ = false := (X6.get 0 rfl).frozen 4
       have r5 : w6.frozen? ⟨w.heap.size, 5, none⟩ = false := (X6.get 0 rfl).frozen 5
       replace X6 := hide X6
       clear o6 hb6))
  go_wp2_with (fail)
  exact ret_b2 rfl w.heap.size (bxC n (.slice A6 out.length c6) T) (.int .i64 0) rfl rfl rfl (Blk.set6 ((unhide X6).get 0 rfl)) rfl ⟨A6, c6, rfl, own_set6 ((unhide X6).get 0 rfl) ((unhide X6).own 0 rfl), below_set6 (unhide X6).bl (Nat.le_refl _)⟩
end Go.Proofs.YtlgahaidnpgnaaaDoor
