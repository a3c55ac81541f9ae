import Derived.Test.YtdencbdbagikbaaDoorW21
namespace Go.Proofs.YtdencbdbagikbaaDoor
open Go.RowKit

set_option maxHeartbeats 400000 in
theorem apart_gate (s t : St) (v1 v2 v3 : Value) (l a c : List UInt8) (w : World) (h1 : Bs 0 w.heap.size w v1 l) (h2 : Bs 0 w.heap.size w v2 a) (h3 : Bs 0 w.heap.size w v3 c) (hg : 300 < l.length ∨ 7 < a.length ∨ 7 < c.length) :
    Calls Tryd.prog 6 #[stV s, stV t, v1, v2, v3] w fun e w' => e = .returned (.bool true) ∧ Below w.heap.size w w' := by
  obtain ⟨A1, c1, rfl⟩ : ∃ A c, v1 = .slice A l.length c := by obtain ⟨A, c, e, _⟩ := id h1; exact ⟨A, c, e⟩
  obtain ⟨A2, c2, rfl⟩ : ∃ A c, v2 = .slice A a.length c := by obtain ⟨A, c, e, _⟩ := id h2; exact ⟨A, c, e⟩
  obtain ⟨A3, c3, rfl⟩ : ∃ A k, v3 = .slice A c.length k := by obtain ⟨A, c, e, _⟩ := id h3; exact ⟨A, c, e⟩
  clear h1 h2 h3
  by_cases k1 : 300 < l.length
  · have g1 : (300 : Int) < (l.length : Int) := by omega
    go_enter Tryd.func6, Tryd.ntmps6
    go_wp2_with (first
      | (go_at_call 9; refine (live_any _).mono ?_; rintro e w1 ⟨rfl, hb1⟩)
      | fail)
    go_ret
    exact ⟨rfl, by (repeat (first | with_reducible exact Below.refl _ _ | with_reducible assumption | with_reducible refine Below.drew ?_ | with_reducible refine bl_alloc ?_ _ | with_reducible refine bl_call ?_ (by assumption) | (focus (with_reducible refine Below.setCell ?_ ?_ _; rotate_left; focus (first | omega | (simp <;> omega)))) | fail))⟩
  · by_cases k2 : 7 < a.length
    · have g1 : ¬ (300 : Int) < (l.length : Int) := by omega
      have g2 : (7 : Int) < (a.length : Int) := by omega
      go_enter Tryd.func6, Tryd.ntmps6
      go_wp2_with (first
        | (go_at_call 9; refine (live_any _).mono ?_; rintro e w1 ⟨rfl, hb1⟩)
        | fail)
      go_ret
      exact ⟨rfl, by (repeat (first | with_reducible exact Below.refl _ _ | with_reducible assumption | with_reducible refine Below.drew ?_ | with_reducible refine bl_alloc ?_ _ | with_reducible refine bl_call ?_ (by assumption) | (focus (with_reducible refine Below.setCell ?_ ?_ _; rotate_left; focus (first | omega | (simp <;> omega)))) | fail))⟩
    · have g1 : ¬ (300 : Int) < (l.length : Int) := by omega
      have g2 : ¬ (7 : Int) < (a.length : Int) := by omega
      have g3 : (7 : Int) < (c.length : Int) := by omega
      go_enter Tryd.func6, Tryd.ntmps6
      go_wp2_with (first
        | (go_at_call 9; refine (live_any _).mono ?_; rintro e w1 ⟨rfl, hb1⟩)
        | fail)
      go_ret
      exact ⟨rfl, by (repeat (first | with_reducible exact Below.refl _ _ | with_reducible assumption | with_reducible refine Below.drew ?_ | with_reducible refine bl_alloc ?_ _ | with_reducible refine bl_call ?_ (by assumption) | (focus (with_reducible refine Below.setCell ?_ ?_ _; rotate_left; focus (first | omega | (simp <;> omega)))) | fail))⟩

section
attribute [local go_sem] guard24
set_option maxHeartbeats 1000000 in
theorem apart_main (s t : St) (v1 v2 v3 : Value) (l a c : List UInt8) (w : World) (ht : Tab w) (h1 : Bs 0 w.heap.size w v1 l) (h2 : Bs 0 w.heap.size w v2 a) (h3 : Bs 0 w.heap.size w v3 c) (k1 : l.length ≤ 300) (k2 : a.length ≤ 7) (k3 : c.length ≤ 7) :
    Calls Tryd.prog 6 #[stV s, stV t, v1, v2, v3] w fun e w' => e = .returned (.bool true) ∧ Below w.heap.size w w' := by
  have hA : Blk ((w.alloc (.cells (stC s) 24)).alloc (.cells (stC t) 24)) w.heap.size 24 (stC s) := Blk.alloc (Blk.new rfl) _
  have hB : Blk ((w.alloc (.cells (stC s) 24)).alloc (.cells (stC t) 24)) (w.heap.size + 1) 24 (stC t) := Blk.new (by simp)
  have hb : Below w.heap.size w ((w.alloc (.cells (stC s) 24)).alloc (.cells (stC t) 24)) := bl_alloc (bl_alloc (Below.refl _ _) _) _
  have q0 := fun W' (hb : Below w.heap.size w W') => Absorb_good 0 s _ l W' (ht.below hb (Nat.le_refl _)) (h1.to hb) (by omega)
  have q1 := fun W' (hb : Below w.heap.size w W') => Absorb_good 0 t _ l W' (ht.below hb (Nat.le_refl _)) (h1.to hb) (by omega)
  have q2 := fun W' (hb : Below w.heap.size w W') => Absorb_good 0 s _ a W' (ht.below hb (Nat.le_refl _)) (h2.to hb) (by omega)
  have q3 := fun W' (hb : Below w.heap.size w W') => Absorb_good 0 s _ c W' (ht.below hb (Nat.le_refl _)) (h3.to hb) (by omega)
  have r2 := fun W' (hb : Below w.heap.size w W') => (h2.to hb).convert
  have r3 := fun W' (hb : Below w.heap.size w W') => (h3.to hb).convert
  have e1 : sameS (absorbF s l) (absorbF t l) = sameS s t := by rw [Bool.eq_iff_iff, sameS_iff, sameS_iff, absorb_inj]
  have e2 : sameS (absorbF s a) (absorbF s c) = decide (a = c) := by rw [Bool.eq_iff_iff, sameS_iff, decide_eq_true_eq, absorb_short (by omega) (by omega)]
  have e3 := strU_eq a c
  have g1 : ¬ (300 : Int) < (l.length : Int) := by omega
  have g2 : ¬ (7 : Int) < (a.length : Int) := by omega
  have g3 : ¬ (7 : Int) < (c.length : Int) := by omega
  obtain ⟨A1, c1, rfl⟩ : ∃ A c, v1 = .slice A l.length c := by obtain ⟨A, c, e, _⟩ := id h1; exact ⟨A, c, e⟩
  obtain ⟨A2, c2, rfl⟩ : ∃ A c, v2 = .slice A a.length c := by obtain ⟨A, c, e, _⟩ := id h2; exact ⟨A, c, e⟩
  obtain ⟨A3, c3, rfl⟩ : ∃ A k, v3 = .slice A c.length k := by obtain ⟨A, c, e, _⟩ := id h3; exact ⟨A, c, e⟩
  generalize absorbF s l = X at *
  generalize absorbF t l = Y at *
  generalize absorbF s a = P at *
  generalize absorbF s c = Q at *
  generalize strU a = u1 at *
  generalize strU c = u2 at *
  have E1 := fun W => eql_st W X Y
  have E2 := fun W => eql_st W s t
  have E3 := fun W => eql_st W P Q
  rw [e1] at E1; rw [e2, ← e3] at E3
  generalize sameS s t = z at *
  generalize hz2 : (u1.toList == u2.toList) = z2 at *
  generalize l.length = nl at *
  generalize a.length = na at *
  generalize c.length = nc at *
  replace q0 := hide q0; replace q1 := hide q1; replace q2 := hide q2; replace q3 := hide q3; replace r2 := hide r2; replace r3 := hide r3
  replace hA := hide hA; replace hB := hide hB; replace hb := hide hb
  clear e1 e2 e3 ht h1 h2 h3 k1 k2 k3
  have tl0 : True := trivial
  have tl1 : True := trivial
  have tl2 : True := trivial
  have tl3 : True := trivial
  have tk0 : True := trivial
  have tk1 : True := trivial
  have tk2 : True := trivial
  go_enter Tryd.func6, Tryd.ntmps6
  go_upto_region 1 with (fail)
  generalize hW : World.alloc (World.alloc w _) _ = W at *
  clear hW
  go_upto_region 8 with (first
    | (go_at_call 9; refine (live_any _).mono ?_; rintro e w1 ⟨rfl, hb1⟩
       have b1 : Below w.heap.size w w1 := bl_call (unhide hb) hb1
       have A1 : Blk w1 w.heap.size 24 (stC s) := Blk.below (unhide hA) hb1 (unhide hA).lt
       have B1 : Blk w1 (w.heap.size + 1) 24 (stC t) := Blk.below (unhide hB) hb1 (unhide hB).lt
       replace b1 := hide b1; replace A1 := hide A1; replace B1 := hide B1; clear hb1)
    | (have _t := tl0; refine wpList_load_row rfl 24 (.tmp 5) rfl w.heap.size rfl 24 (stC s) (0, 0) _ (unhide A1) Tryd.underlying24 rfl size24 ?_; clear tl0 _t)
    | (have _t := tl1; refine wpList_load_row rfl 24 (.tmp 6) rfl (w.heap.size + 1) rfl 24 (stC t) (0, 0) _ ((unhide B2).alloc _) Tryd.underlying24 rfl size24 ?_; clear tl1 _t)
    | (have _t := tl2; refine wpList_load_row rfl 24 (.tmp 5) rfl w.heap.size rfl 24 (stC s) (0, 0) _ ((unhide A3).alloc _) Tryd.underlying24 rfl size24 ?_; clear tl2 _t)
    | (have _t := tl3; refine wpList_load_row rfl 24 (.tmp 5) rfl w.heap.size rfl 24 (stC s) (0, 0) _ ((unhide A4).alloc _) Tryd.underlying24 rfl size24 ?_; clear tl3 _t)
    | (go_at_call 17; have _t := tk0; refine (unhide q0 w1 (unhide b1)).mono ?_; rintro e w2 ⟨rfl, hx⟩
       have b2 : Below w.heap.size w w2 := bl_call (unhide b1) hx
       have A2 : Blk w2 w.heap.size 24 (stC s) := Blk.below (unhide A1) hx (unhide A1).lt
       have B2 : Blk w2 (w.heap.size + 1) 24 (stC t) := Blk.below (unhide B1) hx (unhide B1).lt
       replace b2 := hide b2; replace A2 := hide A2; replace B2 := hide B2; clear hx tk0 _t)
    | (go_at_call 17; have _t := tk1; refine (unhide q1 (w2.alloc (.cells (stC X) 24)) (bl_alloc (unhide b2) _)).mono ?_; rintro e w3 ⟨rfl, hx⟩
       have b3 : Below w.heap.size w w3 := bl_call (bl_alloc (unhide b2) _) hx
       have A3 : Blk w3 w.heap.size 24 (stC s) := Blk.below ((unhide A2).alloc _) hx ((unhide A2).alloc _).lt
       have B3 : Blk w3 (w.heap.size + 1) 24 (stC t) := Blk.below ((unhide B2).alloc _) hx ((unhide B2).alloc _).lt
       have X3 : Blk w3 w2.heap.size 24 (stC X) := Blk.below (w := w2.alloc (.cells (stC X) 24)) (Blk.new rfl) hx (alloc_lt w2 _)
       replace b3 := hide b3; replace A3 := hide A3; replace B3 := hide B3; replace X3 := hide X3; clear hx tk1 _t)
    | (go_at_call 17; have _t := tk2; refine (unhide q2 (w3.alloc (.cells (stC Y) 24)) (bl_alloc (unhide b3) _)).mono ?_; rintro e w4 ⟨rfl, hx⟩
       have b4 : Below w.heap.size w w4 := bl_call (bl_alloc (unhide b3) _) hx
       have A4 : Blk w4 w.heap.size 24 (stC s) := Blk.below ((unhide A3).alloc _) hx ((unhide A3).alloc _).lt
       have B4 : Blk w4 (w.heap.size + 1) 24 (stC t) := Blk.below ((unhide B3).alloc _) hx ((unhide B3).alloc _).lt
       have X4 : Blk w4 w2.heap.size 24 (stC X) := Blk.below ((unhide X3).alloc _) hx ((unhide X3).alloc _).lt
       have Y4 : Blk w4 w3.heap.size 24 (stC Y) := Blk.below (w := w3.alloc (.cells (stC Y) 24)) (Blk.new rfl) hx (alloc_lt w3 _)
       replace b4 := hide b4; replace A4 := hide A4; replace B4 := hide B4; replace X4 := hide X4; replace Y4 := hide Y4; clear hx tk2 _t)
    | (go_at_call 17; refine (unhide q3 (w4.alloc (.cells (stC P) 24)) (bl_alloc (unhide b4) _)).mono ?_; rintro e w5 ⟨rfl, hx⟩
       have b5 : Below w.heap.size w w5 := bl_call (bl_alloc (unhide b4) _) hx
       have A5 : Blk w5 w.heap.size 24 (stC s) := Blk.below ((unhide A4).alloc _) hx ((unhide A4).alloc _).lt
       have B5 : Blk w5 (w.heap.size + 1) 24 (stC t) := Blk.below ((unhide B4).alloc _) hx ((unhide B4).alloc _).lt
       have X5 : Blk w5 w2.heap.size 24 (stC X) := Blk.below ((unhide X4).alloc _) hx ((unhide X4).alloc _).lt
       have Y5 : Blk w5 w3.heap.size 24 (stC Y) := Blk.below ((unhide Y4).alloc _) hx ((unhide Y4).alloc _).lt
       have P5 : Blk w5 w4.heap.size 24 (stC P) := Blk.below (w := w4.alloc (.cells (stC P) 24)) (Blk.new rfl) hx (alloc_lt w4 _)
       replace b5 := hide b5; replace A5 := hide A5; replace B5 := hide B5; replace X5 := hide X5; replace Y5 := hide Y5; replace P5 := hide P5; clear hx)
    | fail)
  have b6 : Below w.heap.size w (w5.alloc (.cells (stC Q) 24)) := bl_alloc (unhide b5) _
  have A6 := (unhide A5).alloc (.cells (stC Q) 24)
  have B6 := (unhide B5).alloc (.cells (stC Q) 24)
  have X6 := (unhide X5).alloc (.cells (stC Q) 24)
  have Y6 := (unhide Y5).alloc (.cells (stC Q) 24)
  have P6 := (unhide P5).alloc (.cells (stC Q) 24)
  have Q6 : Blk (w5.alloc (.cells (stC Q) 24)) w5.heap.size 24 (stC Q) := Blk.new rfl
  have R2 := fun n => unhide r2 _ (below_drewN b6 n)
  have R3 := fun n => unhide r3 _ (below_drewN b6 n)
  generalize w5.alloc (.cells (stC Q) 24) = V at *
  have kA0 : V.cell? ⟨w.heap.size, 0, none⟩ = some (u32v s.a) := A6.cell 0
  have kA1 : V.cell? ⟨w.heap.size, 1, none⟩ = some (u32v s.b) := A6.cell 1
  have kA2 : V.cell? ⟨w.heap.size, 2, none⟩ = some (u32v s.c) := A6.cell 2
  have kA3 : V.cell? ⟨w.heap.size, 3, none⟩ = some (u32v s.d) := A6.cell 3
  have kA := A6.lt
  have kB0 : V.cell? ⟨w.heap.size + 1, 0, none⟩ = some (u32v t.a) := B6.cell 0
  have kB1 : V.cell? ⟨w.heap.size + 1, 1, none⟩ = some (u32v t.b) := B6.cell 1
  have kB2 : V.cell? ⟨w.heap.size + 1, 2, none⟩ = some (u32v t.c) := B6.cell 2
  have kB3 : V.cell? ⟨w.heap.size + 1, 3, none⟩ = some (u32v t.d) := B6.cell 3
  have kB := B6.lt
  have kX0 : V.cell? ⟨w2.heap.size, 0, none⟩ = some (u32v X.a) := X6.cell 0
  have kX1 : V.cell? ⟨w2.heap.size, 1, none⟩ = some (u32v X.b) := X6.cell 1
  have kX2 : V.cell? ⟨w2.heap.size, 2, none⟩ = some (u32v X.c) := X6.cell 2
  have kX3 : V.cell? ⟨w2.heap.size, 3, none⟩ = some (u32v X.d) := X6.cell 3
  have kX := X6.lt
  have kY0 : V.cell? ⟨w3.heap.size, 0, none⟩ = some (u32v Y.a) := Y6.cell 0
  have kY1 : V.cell? ⟨w3.heap.size, 1, none⟩ = some (u32v Y.b) := Y6.cell 1
  have kY2 : V.cell? ⟨w3.heap.size, 2, none⟩ = some (u32v Y.c) := Y6.cell 2
  have kY3 : V.cell? ⟨w3.heap.size, 3, none⟩ = some (u32v Y.d) := Y6.cell 3
  have kY := Y6.lt
  have kP0 : V.cell? ⟨w4.heap.size, 0, none⟩ = some (u32v P.a) := P6.cell 0
  have kP1 : V.cell? ⟨w4.heap.size, 1, none⟩ = some (u32v P.b) := P6.cell 1
  have kP2 : V.cell? ⟨w4.heap.size, 2, none⟩ = some (u32v P.c) := P6.cell 2
  have kP3 : V.cell? ⟨w4.heap.size, 3, none⟩ = some (u32v P.d) := P6.cell 3
  have kP := P6.lt
  have kQ0 : V.cell? ⟨w5.heap.size, 0, none⟩ = some (u32v Q.a) := Q6.cell 0
  have kQ1 : V.cell? ⟨w5.heap.size, 1, none⟩ = some (u32v Q.b) := Q6.cell 1
  have kQ2 : V.cell? ⟨w5.heap.size, 2, none⟩ = some (u32v Q.c) := Q6.cell 2
  have kQ3 : V.cell? ⟨w5.heap.size, 3, none⟩ = some (u32v Q.d) := Q6.cell 3
  have kQ := Q6.lt
  replace b6 := hide b6
  clear hA hB hb A1 B1 b1 A2 B2 b2 A3 B3 b3 A4 B4 b4 A5 B5 b5 X3 X4 X5 Y4 Y5 P5 A6 B6 X6 Y6 P6 Q6 r2 r3 q0 q1 q2 q3
  go_quiet (fail)
  go_wp2_with (fail)
  go_ret
  exact ⟨rfl, below_drewN (unhide b6) _⟩
end
theorem apart_law (s t : St) (v1 v2 v3 : Value) (l a c : List UInt8) (w : World) (ht : Tab w) (h1 : Bs 0 w.heap.size w v1 l) (h2 : Bs 0 w.heap.size w v2 a) (h3 : Bs 0 w.heap.size w v3 c) :
    Calls Tryd.prog 6 #[stV s, stV t, v1, v2, v3] w fun e w' => e = .returned (.bool true) ∧ Below w.heap.size w w' := by
  by_cases hg : 300 < l.length ∨ 7 < a.length ∨ 7 < c.length
  · exact apart_gate s t v1 v2 v3 l a c w h1 h2 h3 hg
  · exact apart_main s t v1 v2 v3 l a c w ht h1 h2 h3 (by omega) (by omega) (by omega)
end Go.Proofs.YtdencbdbagikbaaDoor
