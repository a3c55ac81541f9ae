import Derived.Test.YtdencbdbagikbaaDoorW19
import Derived.Test.YtdencbdbagikbaaDoorW17
namespace Go.Proofs.YtdencbdbagikbaaDoor
open Go.RowKit

set_option maxHeartbeats 400000 in
theorem blocks_gate (s : St) (v : Value) (l : List UInt8) (lo : Nat) (w : World) (h : Bs lo w.heap.size w v l) (hg : l.length < 8 ∨ 300 < l.length) :
    Calls Tryd.prog 8 #[stV s, v] w fun e w' => e = .returned (.bool true) ∧ Below w.heap.size w w' := by
  obtain ⟨A, c, rfl, _⟩ := h
  rcases hg with hg | hg
  · have k1 : (l.length : Int) < 8 := by omega
    go_enter Tryd.func8, Tryd.ntmps8
    go_wp2_with (first
      | (go_at_call 9; refine (live_any _).mono ?_; rintro e w1 ⟨rfl, hb1⟩)
      | fail)
    go_ret
    exact ⟨rfl, by (repeat (first | with_reducible exact Below.refl _ _ | with_reducible assumption | with_reducible refine Below.drew ?_ | with_reducible refine bl_alloc ?_ _ | with_reducible refine bl_call ?_ (by assumption) | (focus (with_reducible refine Below.setCell ?_ ?_ _; rotate_left; focus (first | omega | (simp <;> omega)))) | fail))⟩
  · have k1 : ¬ (l.length : Int) < 8 := by omega
    have k2 : (300 : Int) < (l.length : Int) := by omega
    go_enter Tryd.func8, Tryd.ntmps8
    go_wp2_with (first
      | (go_at_call 9; refine (live_any _).mono ?_; rintro e w1 ⟨rfl, hb1⟩)
      | fail)
    go_ret
    exact ⟨rfl, by (repeat (first | with_reducible exact Below.refl _ _ | with_reducible assumption | with_reducible refine Below.drew ?_ | with_reducible refine bl_alloc ?_ _ | with_reducible refine bl_call ?_ (by assumption) | (focus (with_reducible refine Below.setCell ?_ ?_ _; rotate_left; focus (first | omega | (simp <;> omega)))) | fail))⟩

theorem alloc_lt (w : World) (o : Obj) : w.heap.size < (w.alloc o).heap.size := by simp
theorem Bs.eight {lo hi : Nat} {w : World} {v : Value} {l : List UInt8} (h : Bs lo hi w v l) (h8 : 8 ≤ l.length) : ∃ b off c a0 a1 a2 a3 a4 a5 a6 a7 r, l = a0 :: a1 :: a2 :: a3 :: a4 :: a5 :: a6 :: a7 :: r ∧ v = .slice (some ⟨b, off, none⟩) l.length c ∧ b < hi ∧
    w.cell? ⟨b, off, none⟩ = some (u8v a0) ∧ w.cell? ⟨b, off + 1, none⟩ = some (u8v a1) ∧ w.cell? ⟨b, off + 2, none⟩ = some (u8v a2) ∧ w.cell? ⟨b, off + 3, none⟩ = some (u8v a3) ∧
    w.cell? ⟨b, off + 4, none⟩ = some (u8v a4) ∧ w.cell? ⟨b, off + 5, none⟩ = some (u8v a5) ∧ w.cell? ⟨b, off + 6, none⟩ = some (u8v a6) ∧ w.cell? ⟨b, off + 7, none⟩ = some (u8v a7) := by
  obtain ⟨A, c, rfl, h1, h2, h3⟩ := h
  obtain ⟨b, off, rfl, _, hb, hc⟩ := h3 (by omega)
  match l, h8 with
  | a0 :: a1 :: a2 :: a3 :: a4 :: a5 :: a6 :: a7 :: r, _ =>
    exact ⟨b, off, c, a0, a1, a2, a3, a4, a5, a6, a7, r, rfl, rfl, hb, hc 0 (by simp), hc 1 (by simp), hc 2 (by simp), hc 3 (by simp), hc 4 (by simp), hc 5 (by simp), hc 6 (by simp), hc 7 (by simp)⟩

section
attribute [local go_sem] r_xor r_or r_shl8 r_shl16 r_shl24 r_conv guard24
set_option maxHeartbeats 1000000 in
theorem blocks_main (s : St) (v : Value) (l : List UInt8) (lo : Nat) (w : World) (ht : Tab w) (h : Bs lo w.heap.size w v l) (h8 : 8 ≤ l.length) (h300 : l.length ≤ 300) :
    Calls Tryd.prog 8 #[stV s, v] w fun e w' => e = .returned (.bool true) ∧ Below w.heap.size w w' := by
  obtain ⟨b, off, c, a0, a1, a2, a3, a4, a5, a6, a7, r, hl, rfl, hbh, c0, c1, c2, c3, c4, c5, c6, c7⟩ := h.eight h8
  have hA : Blk (w.alloc (.cells (stC s) 24)) w.heap.size 24 (stC s) := Blk.new rfl
  have hb : Below w.heap.size w (w.alloc (.cells (stC s) 24)) := bl_alloc (Below.refl _ _) _
  have q0 := fun W' (hb : Below w.heap.size w W') => Absorb_good lo s _ l W' (ht.below hb (Nat.le_refl _)) (h.to hb) (by omega)
  have hp := fun S W' (hb : Below w.heap.size w W') => perm_any S W' (ht.below hb (Nat.le_refl _))
  obtain ⟨A', c', sl, hd⟩ := h.cut_l 8 8 rfl h8
  have q1 := fun W' (hb : Below w.heap.size w W') => Absorb_good lo (inF s l) _ _ W' (ht.below hb (Nat.le_refl _)) (hd.to hb) (by rw [List.length_drop]; omega)
  have e1 : inF s l = permF ⟨s.a ^^^ (oc a0 ||| oc a1 <<< 8 ||| oc a2 <<< 16 ||| oc a3 <<< 24), s.b ^^^ (oc a4 ||| oc a5 <<< 8 ||| oc a6 <<< 16 ||| oc a7 <<< 24), s.c, s.d⟩ := by rw [hl]; rfl
  have e2 : absorbF (inF s l) (l.drop 8) = absorbF s l := (absorb_blocks h8).symm
  rw [e2] at q1
  have k8 : (8 : Int) ≤ (l.length : Int) := by omega
  have k8' : ¬ (l.length : Int) < 8 := by omega
  have k300 : ¬ (300 : Int) < (l.length : Int) := by omega
  generalize absorbF s l = X at *
  generalize inF s l = Y at *
  obtain ⟨y0, hy0⟩ : ∃ y, y = oc a0 ||| oc a1 <<< 8 ||| oc a2 <<< 16 ||| oc a3 <<< 24 := ⟨_, rfl⟩
  obtain ⟨y1, hy1⟩ : ∃ y, y = oc a4 ||| oc a5 <<< 8 ||| oc a6 <<< 16 ||| oc a7 <<< 24 := ⟨_, rfl⟩
  rw [← hy0, ← hy1] at e1
  generalize hn : l.length = n at *
  have n0 : (0 : Int) < (n : Int) := by omega
  have n1 : (1 : Int) < (n : Int) := by omega
  have n2 : (2 : Int) < (n : Int) := by omega
  have n3 : (3 : Int) < (n : Int) := by omega
  have n4 : (4 : Int) < (n : Int) := by omega
  have n5 : (5 : Int) < (n : Int) := by omega
  have n6 : (6 : Int) < (n : Int) := by omega
  have n7 : (7 : Int) < (n : Int) := by omega
  have m0 : 0 < n := by omega
  have m1 : 1 < n := by omega
  have m2 : 2 < n := by omega
  have m3 : 3 < n := by omega
  have m4 : 4 < n := by omega
  have m5 : 5 < n := by omega
  have m6 : 6 < n := by omega
  have m7 : 7 < n := by omega
  replace q0 := hide q0; replace q1 := hide q1; replace hp := hide hp; replace hA := hide hA; replace hb := hide hb; replace e1 := hide e1; replace hy0 := hide hy0; replace hy1 := hide hy1
  have hcell : ∀ W', Below w.heap.size w W' → ∀ o, W'.cell? ⟨b, o, none⟩ = w.cell? ⟨b, o, none⟩ := fun W' hb o => hb.cell (p := ⟨b, o, none⟩) hbh
  replace hcell := hide hcell
  clear e2 hl h hd hn ht
  go_enter Tryd.func8, Tryd.ntmps8
  go_upto_region 1 with (fail)
  generalize hW : World.alloc w _ = W at *
  clear hW
  go_upto_region 6 with (first
    | (go_at_call 9; refine (live_any _).mono ?_; rintro e w1 ⟨rfl, hb1⟩
       have b1 : Below w.heap.size w w1 := bl_call (unhide hb) hb1
       have A1 : Blk w1 w.heap.size 24 (stC s) := Blk.below (unhide hA) hb1 (unhide hA).lt
       replace b1 := hide b1; replace A1 := hide A1; clear hb1)
    | (refine wpList_load_row rfl 24 (.tmp 2) rfl w.heap.size rfl 24 (stC s) (0, 0) _ (unhide A1) Tryd.underlying24 rfl size24 ?_)
    | (refine wpList_load_row rfl 24 (.tmp 2) rfl w.heap.size rfl 24 (stC s) (0, 0) _ ((unhide A2).alloc _) Tryd.underlying24 rfl size24 ?_)
    | (go_at_call 17; refine (unhide q0 _ (unhide b1)).mono ?_; rintro e w2 ⟨rfl, hb2⟩
       have b2 : Below w.heap.size w w2 := bl_call (unhide b1) hb2
       have A2 : Blk w2 w.heap.size 24 (stC s) := Blk.below (unhide A1) hb2 (unhide A1).lt
       replace b2 := hide b2; replace A2 := hide A2; clear hb2)
    | fail)
  have X6 : Blk ((w2.alloc (.cells (stC X) 24)).alloc (.cells (stC s) 24)) w2.heap.size 24 (stC X) := Blk.alloc (Blk.new rfl) _
  have T8 : Blk ((w2.alloc (.cells (stC X) 24)).alloc (.cells (stC s) 24)) (w2.heap.size + 1) 24 (stC s) := Blk.new (by simp)
  have b3 : Below w.heap.size w ((w2.alloc (.cells (stC X) 24)).alloc (.cells (stC s) 24)) := bl_alloc (bl_alloc (unhide b2) _) _
  have hbw : b < w2.heap.size := Nat.lt_of_lt_of_le hbh (unhide b2).size
  have hgw : w.heap.size ≤ w2.heap.size := (unhide b2).size
  generalize (w2.alloc (.cells (stC X) 24)).alloc (.cells (stC s) 24) = V at *
  generalize w2.heap.size = g at *
  replace b3 := hide b3
  have d0 : V.cell? ⟨b, off, none⟩ = some (u8v a0) := (unhide hcell V (unhide b3) _).trans c0
  have d1 : V.cell? ⟨b, off + 1, none⟩ = some (u8v a1) := (unhide hcell V (unhide b3) _).trans c1
  have d2 : V.cell? ⟨b, off + 2, none⟩ = some (u8v a2) := (unhide hcell V (unhide b3) _).trans c2
  have d3 : V.cell? ⟨b, off + 3, none⟩ = some (u8v a3) := (unhide hcell V (unhide b3) _).trans c3
  have d4 : V.cell? ⟨b, off + 4, none⟩ = some (u8v a4) := (unhide hcell V (unhide b3) _).trans c4
  have d5 : V.cell? ⟨b, off + 5, none⟩ = some (u8v a5) := (unhide hcell V (unhide b3) _).trans c5
  have d6 : V.cell? ⟨b, off + 6, none⟩ = some (u8v a6) := (unhide hcell V (unhide b3) _).trans c6
  have d7 : V.cell? ⟨b, off + 7, none⟩ = some (u8v a7) := (unhide hcell V (unhide b3) _).trans c7
  have x0 : V.cell? ⟨g + 1, 0, none⟩ = some (u32v s.a) := T8.cell 0
  have f0 : V.frozen? ⟨g + 1, 0, none⟩ = false := T8.frozen 0
  obtain ⟨sa, sb, sc, sd⟩ := s
  simp only [] at x0
  replace X6 := hide X6; replace T8 := hide T8
  clear c0 c1 c2 c3 c4 c5 c6 c7 A1 A2 hA
  go_still_tail 26, (by kernel_rfl)
  change wpList _ _ _ _ _ V.drew
  go_wp2_with (fail)
  have T1 : Blk ((V.setCell ⟨g + 1, 0, none⟩ (.int .u32 (n32 (sa ^^^ (oc a0 ||| oc a1 <<< 8 ||| oc a2 <<< 16 ||| oc a3 <<< 24))))).drew) (g + 1) 24 (stC ⟨sa ^^^ y0, sb, sc, sd⟩) := by rw [← unhide hy0]; exact ((unhide T8).set 0 _).drew
  have X1 : Blk ((V.setCell ⟨g + 1, 0, none⟩ (.int .u32 (n32 (sa ^^^ (oc a0 ||| oc a1 <<< 8 ||| oc a2 <<< 16 ||| oc a3 <<< 24))))).drew) g 24 (stC X) := ((unhide X6).far (by simp) _).drew
  have v1 : Below w.heap.size w ((V.setCell ⟨g + 1, 0, none⟩ (.int .u32 (n32 (sa ^^^ (oc a0 ||| oc a1 <<< 8 ||| oc a2 <<< 16 ||| oc a3 <<< 24))))).drew) := ((unhide b3).setCell (by simp; omega) _).drew
  have E1 : ∀ o, ((V.setCell ⟨g + 1, 0, none⟩ (.int .u32 (n32 (sa ^^^ (oc a0 ||| oc a1 <<< 8 ||| oc a2 <<< 16 ||| oc a3 <<< 24))))).drew).cell? ⟨b, o, none⟩ = V.cell? ⟨b, o, none⟩ := fun o => (unhide hcell _ v1 o).trans (unhide hcell _ (unhide b3) o).symm
  generalize (V.setCell ⟨g + 1, 0, none⟩ (.int .u32 (n32 (sa ^^^ (oc a0 ||| oc a1 <<< 8 ||| oc a2 <<< 16 ||| oc a3 <<< 24))))).drew = V1 at *
  have x1 : V1.cell? ⟨g + 1, 1, none⟩ = some (u32v sb) := T1.cell 1
  have f1 : V1.frozen? ⟨g + 1, 1, none⟩ = false := T1.frozen 1
  replace d4 : V1.cell? ⟨b, off + 4, none⟩ = some (u8v a4) := (E1 _).trans d4
  replace d5 : V1.cell? ⟨b, off + 5, none⟩ = some (u8v a5) := (E1 _).trans d5
  replace d6 : V1.cell? ⟨b, off + 6, none⟩ = some (u8v a6) := (E1 _).trans d6
  replace d7 : V1.cell? ⟨b, off + 7, none⟩ = some (u8v a7) := (E1 _).trans d7
  replace T1 := hide T1; replace X1 := hide X1; replace v1 := hide v1
  clear d0 d1 d2 d3 E1 x0 f0 T8 X6 b3
  go_upto_region 7 with (fail)
  go_still_tail 26, (by kernel_rfl)
  change wpList _ _ _ _ _ V1.drew
  go_wp2_with (fail)
  simp only [r_conv, r_shl8, r_shl16, r_shl24, r_or, r_xor]
  have T2 : Blk ((V1.setCell ⟨g + 1, 1, none⟩ (.int .u32 (n32 (sb ^^^ (oc a4 ||| oc a5 <<< 8 ||| oc a6 <<< 16 ||| oc a7 <<< 24))))).drew) (g + 1) 24 (stC ⟨sa ^^^ y0, sb ^^^ y1, sc, sd⟩) := by rw [← unhide hy1]; exact ((unhide T1).set 1 _).drew
  have X2 : Blk ((V1.setCell ⟨g + 1, 1, none⟩ (.int .u32 (n32 (sb ^^^ (oc a4 ||| oc a5 <<< 8 ||| oc a6 <<< 16 ||| oc a7 <<< 24))))).drew) g 24 (stC X) := ((unhide X1).far (by simp) _).drew
  have v2 : Below w.heap.size w ((V1.setCell ⟨g + 1, 1, none⟩ (.int .u32 (n32 (sb ^^^ (oc a4 ||| oc a5 <<< 8 ||| oc a6 <<< 16 ||| oc a7 <<< 24))))).drew) := ((unhide v1).setCell (by simp; omega) _).drew
  generalize (V1.setCell ⟨g + 1, 1, none⟩ (.int .u32 (n32 (sb ^^^ (oc a4 ||| oc a5 <<< 8 ||| oc a6 <<< 16 ||| oc a7 <<< 24))))).drew = V2 at *
  have q12 := fun W' (hb : Below w.heap.size w W') => unhide hp ⟨sa ^^^ y0, sb ^^^ y1, sc, sd⟩ W' hb
  have e1' := unhide e1
  rw [← e1'] at q12
  replace q12 := hide q12; replace T2 := hide T2; replace X2 := hide X2; replace v2 := hide v2
  clear e1' e1 d4 d5 d6 d7 x1 f1 T1 X1 v1
  have c80 : V2.cell? ⟨g + 1, 0, none⟩ = some (u32v (sa ^^^ y0)) := (unhide T2).cell 0
  have c81 : V2.cell? ⟨g + 1, 1, none⟩ = some (u32v (sb ^^^ y1)) := (unhide T2).cell 1
  have c82 : V2.cell? ⟨g + 1, 2, none⟩ = some (u32v sc) := (unhide T2).cell 2
  have c83 : V2.cell? ⟨g + 1, 3, none⟩ = some (u32v sd) := (unhide T2).cell 3
  have hgV : g + 1 < V2.heap.size := (unhide T2).lt
  have hgV1 : ¬ g + 1 = V2.heap.size := Nat.ne_of_lt hgV
  have hgV2 : ¬ V2.heap.size = g + 1 := fun h => hgV1 h.symm
  go_region_held3 (fun W => W.cell? ⟨g + 1, 0, none⟩ = some (u32v (sa ^^^ y0)) ∧ W.cell? ⟨g + 1, 1, none⟩ = some (u32v (sb ^^^ y1)) ∧ W.cell? ⟨g + 1, 2, none⟩ = some (u32v sc) ∧ W.cell? ⟨g + 1, 3, none⟩ = some (u32v sd)) (first | exact ⟨by with_reducible assumption, by with_reducible assumption, by with_reducible assumption, by with_reducible assumption⟩ | exact ⟨by go_simp, by go_simp, by go_simp, by go_simp⟩) (first
    | (go_at_call 12; refine (unhide q12 (V2.drew) (unhide v2).drew).mono ?_; rintro e x0 ⟨rfl, hx⟩
       have vx : Below w.heap.size w x0 := bl_call (unhide v2).drew hx
       have X3 : Blk x0 g 24 (stC X) := Blk.below ((unhide X2).drew) hx ((unhide X2).drew).lt
       have T3 : Blk x0 (g + 1) 24 (stC ⟨sa ^^^ y0, sb ^^^ y1, sc, sd⟩) := Blk.below ((unhide T2).drew) hx ((unhide T2).drew).lt
       have t30 : x0.cell? ⟨g + 1, 0, none⟩ = some (u32v (sa ^^^ y0)) := T3.cell 0
       have t31 : x0.cell? ⟨g + 1, 1, none⟩ = some (u32v (sb ^^^ y1)) := T3.cell 1
       have t32 : x0.cell? ⟨g + 1, 2, none⟩ = some (u32v sc) := T3.cell 2
       have t33 : x0.cell? ⟨g + 1, 3, none⟩ = some (u32v sd) := T3.cell 3
       have gx : g + 1 < x0.heap.size := T3.lt
       have gx1 : ¬ g + 1 = x0.heap.size := Nat.ne_of_lt gx
       have gx2 : ¬ x0.heap.size = g + 1 := fun h => gx1 h.symm
       replace vx := hide vx; replace X3 := hide X3; replace T3 := hide T3; clear hx)
    | (go_at_call 12; refine (unhide q12 (V2.drew.alloc (.cells zC 24)) (bl_alloc (unhide v2).drew _)).mono ?_; rintro e x0 ⟨rfl, hx⟩
       have vx : Below w.heap.size w x0 := bl_call (bl_alloc (unhide v2).drew _) hx
       have X3 : Blk x0 g 24 (stC X) := Blk.below ((unhide X2).drew.alloc _) hx ((unhide X2).drew.alloc _).lt
       have T3 : Blk x0 (g + 1) 24 (stC ⟨sa ^^^ y0, sb ^^^ y1, sc, sd⟩) := Blk.below ((unhide T2).drew.alloc _) hx ((unhide T2).drew.alloc _).lt
       have Z3 : Blk x0 V2.heap.size 24 zC := Blk.below (w := V2.drew.alloc (.cells zC 24)) (Blk.new rfl) hx (alloc_lt V2.drew _)
       replace Z3 := hide Z3
       have t30 : x0.cell? ⟨g + 1, 0, none⟩ = some (u32v (sa ^^^ y0)) := T3.cell 0
       have t31 : x0.cell? ⟨g + 1, 1, none⟩ = some (u32v (sb ^^^ y1)) := T3.cell 1
       have t32 : x0.cell? ⟨g + 1, 2, none⟩ = some (u32v sc) := T3.cell 2
       have t33 : x0.cell? ⟨g + 1, 3, none⟩ = some (u32v sd) := T3.cell 3
       have gx : g + 1 < x0.heap.size := T3.lt
       have gx1 : ¬ g + 1 = x0.heap.size := Nat.ne_of_lt gx
       have gx2 : ¬ x0.heap.size = g + 1 := fun h => gx1 h.symm
       replace vx := hide vx; replace X3 := hide X3; replace T3 := hide T3; clear hx)
    | (go_at_call 17; refine (unhide q1 (x0) (unhide vx)).mono ?_; rintro e x1 ⟨rfl, hx⟩
       have vy : Below w.heap.size w x1 := bl_call (unhide vx) hx
       have X4 : Blk x1 g 24 (stC X) := Blk.below ((unhide X3)) hx ((unhide X3)).lt
       have T4 : Blk x1 (g + 1) 24 (stC ⟨sa ^^^ y0, sb ^^^ y1, sc, sd⟩) := Blk.below ((unhide T3)) hx ((unhide T3)).lt
       have Z4 : Blk x1 V2.heap.size 24 zC := Blk.below (unhide Z3) hx (unhide Z3).lt
       have z40 : x1.cell? ⟨V2.heap.size, 0, none⟩ = some (.int .u32 0) := Z4.cell 0
       have z41 : x1.cell? ⟨V2.heap.size, 1, none⟩ = some (.int .u32 0) := Z4.cell 1
       have z42 : x1.cell? ⟨V2.heap.size, 2, none⟩ = some (.int .u32 0) := Z4.cell 2
       have z43 : x1.cell? ⟨V2.heap.size, 3, none⟩ = some (.int .u32 0) := Z4.cell 3
       have h40 : x1.frozen? ⟨V2.heap.size, 0, none⟩ = false := Z4.frozen 0
       have h41 : x1.frozen? ⟨V2.heap.size, 1, none⟩ = false := Z4.frozen 1
       have h42 : x1.frozen? ⟨V2.heap.size, 2, none⟩ = false := Z4.frozen 2
       have h43 : x1.frozen? ⟨V2.heap.size, 3, none⟩ = false := Z4.frozen 3
       replace Z4 := hide Z4
       have t40 : x1.cell? ⟨g + 1, 0, none⟩ = some (u32v (sa ^^^ y0)) := T4.cell 0
       have t41 : x1.cell? ⟨g + 1, 1, none⟩ = some (u32v (sb ^^^ y1)) := T4.cell 1
       have t42 : x1.cell? ⟨g + 1, 2, none⟩ = some (u32v sc) := T4.cell 2
       have t43 : x1.cell? ⟨g + 1, 3, none⟩ = some (u32v sd) := T4.cell 3
       have gy : g + 1 < x1.heap.size := T4.lt
       have gy1 : ¬ g + 1 = x1.heap.size := Nat.ne_of_lt gy
       have gy2 : ¬ x1.heap.size = g + 1 := fun h => gy1 h.symm
       replace vy := hide vy; replace X4 := hide X4; clear hx T4)
    | (go_at_call 17; refine (unhide q1 (x0) (unhide vx)).mono ?_; rintro e x1 ⟨rfl, hx⟩
       have vy : Below w.heap.size w x1 := bl_call (unhide vx) hx
       have X4 : Blk x1 g 24 (stC X) := Blk.below ((unhide X3)) hx ((unhide X3)).lt
       have T4 : Blk x1 (g + 1) 24 (stC ⟨sa ^^^ y0, sb ^^^ y1, sc, sd⟩) := Blk.below ((unhide T3)) hx ((unhide T3)).lt
       have t40 : x1.cell? ⟨g + 1, 0, none⟩ = some (u32v (sa ^^^ y0)) := T4.cell 0
       have t41 : x1.cell? ⟨g + 1, 1, none⟩ = some (u32v (sb ^^^ y1)) := T4.cell 1
       have t42 : x1.cell? ⟨g + 1, 2, none⟩ = some (u32v sc) := T4.cell 2
       have t43 : x1.cell? ⟨g + 1, 3, none⟩ = some (u32v sd) := T4.cell 3
       have gy : g + 1 < x1.heap.size := T4.lt
       have gy1 : ¬ g + 1 = x1.heap.size := Nat.ne_of_lt gy
       have gy2 : ¬ x1.heap.size = g + 1 := fun h => gy1 h.symm
       replace vy := hide vy; replace X4 := hide X4; clear hx T4)
    | (go_at_call 17; refine (unhide q1 (x0.alloc (.cells zC 24)) (bl_alloc (unhide vx) _)).mono ?_; rintro e x1 ⟨rfl, hx⟩
       have vy : Below w.heap.size w x1 := bl_call (bl_alloc (unhide vx) _) hx
       have X4 : Blk x1 g 24 (stC X) := Blk.below ((unhide X3).alloc _) hx ((unhide X3).alloc _).lt
       have T4 : Blk x1 (g + 1) 24 (stC ⟨sa ^^^ y0, sb ^^^ y1, sc, sd⟩) := Blk.below ((unhide T3).alloc _) hx ((unhide T3).alloc _).lt
       have Z4 : Blk x1 x0.heap.size 24 zC := Blk.below (w := x0.alloc (.cells zC 24)) (Blk.new rfl) hx (alloc_lt x0 _)
       have z40 : x1.cell? ⟨x0.heap.size, 0, none⟩ = some (.int .u32 0) := Z4.cell 0
       have z41 : x1.cell? ⟨x0.heap.size, 1, none⟩ = some (.int .u32 0) := Z4.cell 1
       have z42 : x1.cell? ⟨x0.heap.size, 2, none⟩ = some (.int .u32 0) := Z4.cell 2
       have z43 : x1.cell? ⟨x0.heap.size, 3, none⟩ = some (.int .u32 0) := Z4.cell 3
       have h40 : x1.frozen? ⟨x0.heap.size, 0, none⟩ = false := Z4.frozen 0
       have h41 : x1.frozen? ⟨x0.heap.size, 1, none⟩ = false := Z4.frozen 1
       have h42 : x1.frozen? ⟨x0.heap.size, 2, none⟩ = false := Z4.frozen 2
       have h43 : x1.frozen? ⟨x0.heap.size, 3, none⟩ = false := Z4.frozen 3
       replace Z4 := hide Z4
       have t40 : x1.cell? ⟨g + 1, 0, none⟩ = some (u32v (sa ^^^ y0)) := T4.cell 0
       have t41 : x1.cell? ⟨g + 1, 1, none⟩ = some (u32v (sb ^^^ y1)) := T4.cell 1
       have t42 : x1.cell? ⟨g + 1, 2, none⟩ = some (u32v sc) := T4.cell 2
       have t43 : x1.cell? ⟨g + 1, 3, none⟩ = some (u32v sd) := T4.cell 3
       have gy : g + 1 < x1.heap.size := T4.lt
       have gy1 : ¬ g + 1 = x1.heap.size := Nat.ne_of_lt gy
       have gy2 : ¬ x1.heap.size = g + 1 := fun h => gy1 h.symm
       replace vy := hide vy; replace X4 := hide X4; clear hx T4))
  · have XF : Blk (x1.alloc (.cells (stC X) 24)) g 24 (stC X) := (unhide X4).alloc _
    have RF : Blk (x1.alloc (.cells (stC X) 24)) x1.heap.size 24 (stC X) := Blk.new rfl
    have vF : Below w.heap.size w (x1.alloc (.cells (stC X) 24)) := bl_alloc (unhide vy) _
    generalize x1.alloc (.cells (stC X) 24) = VF at *
    have p0 : VF.cell? ⟨g, 0, none⟩ = some (u32v X.a) := XF.cell 0
    have p1 : VF.cell? ⟨g, 1, none⟩ = some (u32v X.b) := XF.cell 1
    have p2 : VF.cell? ⟨g, 2, none⟩ = some (u32v X.c) := XF.cell 2
    have p3 : VF.cell? ⟨g, 3, none⟩ = some (u32v X.d) := XF.cell 3
    have r0 : VF.cell? ⟨x1.heap.size, 0, none⟩ = some (u32v X.a) := RF.cell 0
    have r1 : VF.cell? ⟨x1.heap.size, 1, none⟩ = some (u32v X.b) := RF.cell 1
    have r2 : VF.cell? ⟨x1.heap.size, 2, none⟩ = some (u32v X.c) := RF.cell 2
    have r3 : VF.cell? ⟨x1.heap.size, 3, none⟩ = some (u32v X.d) := RF.cell 3
    have E := fun W => eql_self W X
    replace vF := hide vF
    clear XF RF
    go_wp2_with (fail)
    go_ret
    exact ⟨rfl, unhide vF⟩
  · have hne : g ≠ x0.heap.size := by omega
    have XF : Blk ((((x1.setCell ⟨x0.heap.size, 0, none⟩ (u32v X.a)).setCell ⟨x0.heap.size, 1, none⟩ (u32v X.b)).setCell ⟨x0.heap.size, 2, none⟩ (u32v X.c)).setCell ⟨x0.heap.size, 3, none⟩ (u32v X.d)) g 24 (stC X) := ((((unhide X4).far hne _).far hne _).far hne _).far hne _
    have RF : Blk ((((x1.setCell ⟨x0.heap.size, 0, none⟩ (u32v X.a)).setCell ⟨x0.heap.size, 1, none⟩ (u32v X.b)).setCell ⟨x0.heap.size, 2, none⟩ (u32v X.c)).setCell ⟨x0.heap.size, 3, none⟩ (u32v X.d)) x0.heap.size 24 (stC X) := Blk.set4 (unhide Z4)
    have vF : Below w.heap.size w ((((x1.setCell ⟨x0.heap.size, 0, none⟩ (u32v X.a)).setCell ⟨x0.heap.size, 1, none⟩ (u32v X.b)).setCell ⟨x0.heap.size, 2, none⟩ (u32v X.c)).setCell ⟨x0.heap.size, 3, none⟩ (u32v X.d)) := below_set4 (unhide vy) (by omega)
    generalize (((x1.setCell ⟨x0.heap.size, 0, none⟩ (u32v X.a)).setCell ⟨x0.heap.size, 1, none⟩ (u32v X.b)).setCell ⟨x0.heap.size, 2, none⟩ (u32v X.c)).setCell ⟨x0.heap.size, 3, none⟩ (u32v X.d) = VF at *
    have p0 : VF.cell? ⟨g, 0, none⟩ = some (u32v X.a) := XF.cell 0
    have p1 : VF.cell? ⟨g, 1, none⟩ = some (u32v X.b) := XF.cell 1
    have p2 : VF.cell? ⟨g, 2, none⟩ = some (u32v X.c) := XF.cell 2
    have p3 : VF.cell? ⟨g, 3, none⟩ = some (u32v X.d) := XF.cell 3
    have r0 : VF.cell? ⟨x0.heap.size, 0, none⟩ = some (u32v X.a) := RF.cell 0
    have r1 : VF.cell? ⟨x0.heap.size, 1, none⟩ = some (u32v X.b) := RF.cell 1
    have r2 : VF.cell? ⟨x0.heap.size, 2, none⟩ = some (u32v X.c) := RF.cell 2
    have r3 : VF.cell? ⟨x0.heap.size, 3, none⟩ = some (u32v X.d) := RF.cell 3
    have E := fun W => eql_self W X
    replace vF := hide vF
    clear XF RF
    go_wp2_with (fail)
    go_ret
    exact ⟨rfl, unhide vF⟩
  · have hne : g ≠ V2.heap.size := by omega
    have XF : Blk ((((x1.setCell ⟨V2.heap.size, 0, none⟩ (u32v X.a)).setCell ⟨V2.heap.size, 1, none⟩ (u32v X.b)).setCell ⟨V2.heap.size, 2, none⟩ (u32v X.c)).setCell ⟨V2.heap.size, 3, none⟩ (u32v X.d)) g 24 (stC X) := ((((unhide X4).far hne _).far hne _).far hne _).far hne _
    have RF : Blk ((((x1.setCell ⟨V2.heap.size, 0, none⟩ (u32v X.a)).setCell ⟨V2.heap.size, 1, none⟩ (u32v X.b)).setCell ⟨V2.heap.size, 2, none⟩ (u32v X.c)).setCell ⟨V2.heap.size, 3, none⟩ (u32v X.d)) V2.heap.size 24 (stC X) := Blk.set4 (unhide Z4)
    have vF : Below w.heap.size w ((((x1.setCell ⟨V2.heap.size, 0, none⟩ (u32v X.a)).setCell ⟨V2.heap.size, 1, none⟩ (u32v X.b)).setCell ⟨V2.heap.size, 2, none⟩ (u32v X.c)).setCell ⟨V2.heap.size, 3, none⟩ (u32v X.d)) := below_set4 (unhide vy) (by omega)
    generalize (((x1.setCell ⟨V2.heap.size, 0, none⟩ (u32v X.a)).setCell ⟨V2.heap.size, 1, none⟩ (u32v X.b)).setCell ⟨V2.heap.size, 2, none⟩ (u32v X.c)).setCell ⟨V2.heap.size, 3, none⟩ (u32v X.d) = VF at *
    have p0 : VF.cell? ⟨g, 0, none⟩ = some (u32v X.a) := XF.cell 0
    have p1 : VF.cell? ⟨g, 1, none⟩ = some (u32v X.b) := XF.cell 1
    have p2 : VF.cell? ⟨g, 2, none⟩ = some (u32v X.c) := XF.cell 2
    have p3 : VF.cell? ⟨g, 3, none⟩ = some (u32v X.d) := XF.cell 3
    have r0 : VF.cell? ⟨V2.heap.size, 0, none⟩ = some (u32v X.a) := RF.cell 0
    have r1 : VF.cell? ⟨V2.heap.size, 1, none⟩ = some (u32v X.b) := RF.cell 1
    have r2 : VF.cell? ⟨V2.heap.size, 2, none⟩ = some (u32v X.c) := RF.cell 2
    have r3 : VF.cell? ⟨V2.heap.size, 3, none⟩ = some (u32v X.d) := RF.cell 3
    have E := fun W => eql_self W X
    replace vF := hide vF
    clear XF RF
    go_wp2_with (fail)
    go_ret
    exact ⟨rfl, unhide vF⟩
end
theorem blocks_law (s : St) (v : Value) (l : List UInt8) (lo : Nat) (w : World) (ht : Tab w) (h : Bs lo w.heap.size w v l) :
    Calls Tryd.prog 8 #[stV s, v] w fun e w' => e = .returned (.bool true) ∧ Below w.heap.size w w' := by
  by_cases hg : l.length < 8 ∨ 300 < l.length
  · exact blocks_gate s v l lo w h hg
  · exact blocks_main s v l lo w ht h (by omega) (by omega)
end Go.Proofs.YtdencbdbagikbaaDoor
