import Derived.Test.YtdencbdbagikbaaDoorW23
namespace Go.Proofs.YtdencbdbagikbaaDoor
open Go.RowKit

set_option maxHeartbeats 400000 in
theorem does_gate (s : St) (v : Value) (l : List UInt8) (w : World) (h : Bs 0 w.heap.size w v l) (hg : 100 < l.length) :
    Calls Tryd.prog 3 #[stV s, v] w fun e w' => e = .returned (.bool true) ∧ Below w.heap.size w w' := by
  obtain ⟨A1, c1, rfl⟩ : ∃ A c, v = .slice A l.length c := by obtain ⟨A, c, e, _⟩ := id h; exact ⟨A, c, e⟩
  have g1 : (100 : Int) < (l.length : Int) := by omega
  clear h
  go_enter Tryd.func3, Tryd.ntmps3
  go_wp2_with (first
    | (go_at_call 9; refine (live_any _).mono ?_; rintro e w1 ⟨rfl, hb1⟩)
    | fail)
  go_ret
  exact ⟨rfl, by (repeat (first | with_reducible exact Below.refl _ _ | with_reducible assumption | with_reducible refine Below.drew ?_ | with_reducible refine bl_alloc ?_ _ | with_reducible refine bl_call ?_ (by assumption) | (focus (with_reducible refine Below.setCell ?_ ?_ _; rotate_left; focus (first | omega | (simp <;> omega)))) | fail))⟩
/-- Of, and the reference's: the same. -/
theorem of_both (v : Value) (l : List UInt8) (w : World) (h : Bs 0 w.heap.size w v l) : ∃ (X : St) (er : Int),
    (∀ W', Below w.heap.size w W' → Calls Tryd.prog 10 #[v] W' fun e w' => e = .returned (.tuple #[stV X, .int .i64 er]) ∧ Below W'.heap.size W' w') ∧
    (∀ W', Below w.heap.size w W' → Calls Tryd.prog 11 #[v] W' fun e w' => e = .returned (.tuple #[stV X, .int .i64 er]) ∧ Below W'.heap.size W' w') := by
  by_cases hl : l.length = 16
  · exact ⟨ofF l, 0, fun W' hb => Of_good 0 v l W' (h.to hb) hl, fun W' hb => OfR_good 0 v l W' (h.to hb) hl⟩
  · exact ⟨zS, 2, fun W' hb => Of_bad 0 v l W' (h.to hb) hl, fun W' hb => OfR_bad 0 v l W' (h.to hb) hl⟩

section
attribute [local go_sem] guard24
set_option maxHeartbeats 1000000 in
theorem does_main (s : St) (v : Value) (l : List UInt8) (w : World) (ht : Tab w) (h : Bs 0 w.heap.size w v l) (hl : l.length ≤ 100) :
    Calls Tryd.prog 3 #[stV s, v] w fun e w' => e = .returned (.bool true) ∧ Below w.heap.size w w' := by
  have hA : Blk (w.alloc (.cells (stC s) 24)) w.heap.size 24 (stC s) := Blk.new rfl
  have hb : Below w.heap.size w (w.alloc (.cells (stC s) 24)) := bl_alloc (Below.refl _ _) _
  obtain ⟨X, er, q10, q11⟩ := of_both v l w h
  have q12 := fun W' (hb : Below w.heap.size w W') => perm_any s W' (ht.below hb (Nat.le_refl _))
  have q13 := fun W' (_ : Below w.heap.size w W') => permR_any s W'
  have q15 := fun W' (_ : Below w.heap.size w W') => Octets_any s W'
  have q16 := fun W' (_ : Below w.heap.size w W') => OctetsR_any s W'
  have g1 : ¬ (100 : Int) < (l.length : Int) := by omega
  obtain ⟨A1, c1, rfl⟩ : ∃ A c, v = .slice A l.length c := by obtain ⟨A, c, e, _⟩ := id h; exact ⟨A, c, e⟩
  generalize permF s = P at *
  have E1 := fun W => eql_self W P
  have E2 := fun W => eql_self W X
  replace q10 := hide q10; replace q11 := hide q11; replace q12 := hide q12; replace q13 := hide q13; replace q15 := hide q15; replace q16 := hide q16; replace hA := hide hA; replace hb := hide hb
  clear h hl ht
  go_enter Tryd.func3, Tryd.ntmps3
  go_upto_region 1 with (fail)
  generalize hW : World.alloc w _ = W at *
  clear hW
  go_upto_region 6 with (first
    | (go_at_call 9; refine (live_any _).mono ?_; rintro e w1 ⟨rfl, hb1⟩
       have b1 : Below w.heap.size w w1 := bl_call (unhide hb) hb1
       have A1 : Blk w1 w.heap.size 24 (stC s) := Blk.below (unhide hA) hb1 (unhide hA).lt
       replace b1 := hide b1; replace A1 := hide A1; clear hb1)
    | (go_at_call 10; refine (unhide q10 w1 (unhide b1)).mono ?_; rintro e w2 ⟨rfl, hx⟩
       have b2 : Below w.heap.size w w2 := bl_call (unhide b1) hx
       have A2 : Blk w2 w.heap.size 24 (stC s) := Blk.below (unhide A1) hx (unhide A1).lt
       replace b2 := hide b2; replace A2 := hide A2; clear hx)
    | (go_at_call 11; refine (unhide q11 (w2.alloc (.cells (stC X) 24)) (bl_alloc (unhide b2) _)).mono ?_; rintro e w3 ⟨rfl, hx⟩
       have b3 : Below w.heap.size w w3 := bl_call (bl_alloc (unhide b2) _) hx
       have A3 : Blk w3 w.heap.size 24 (stC s) := Blk.below ((unhide A2).alloc _) hx ((unhide A2).alloc _).lt
       have X3 : Blk w3 w2.heap.size 24 (stC X) := Blk.below (w := w2.alloc (.cells (stC X) 24)) (Blk.new rfl) hx (alloc_lt w2 _)
       replace b3 := hide b3; replace A3 := hide A3; replace X3 := hide X3; clear hx)
    | fail)
  have b0 : Below w.heap.size w (w3.alloc (.cells (stC X) 24)) := bl_alloc (unhide b3) _
  have A0 := (unhide A3).alloc (.cells (stC X) 24)
  have X0 := (unhide X3).alloc (.cells (stC X) 24)
  have Y0 : Blk (w3.alloc (.cells (stC X) 24)) w3.heap.size 24 (stC X) := Blk.new rfl
  generalize w3.alloc (.cells (stC X) 24) = V at *
  generalize w2.heap.size = g1 at *
  generalize w3.heap.size = g2 at *
  have c0t0 : V.cell? ⟨w.heap.size, 0, none⟩ = some (u32v s.a) := A0.cell 0
  have c0t1 : V.cell? ⟨w.heap.size, 1, none⟩ = some (u32v s.b) := A0.cell 1
  have c0t2 : V.cell? ⟨w.heap.size, 2, none⟩ = some (u32v s.c) := A0.cell 2
  have c0t3 : V.cell? ⟨w.heap.size, 3, none⟩ = some (u32v s.d) := A0.cell 3
  have c0x0 : V.cell? ⟨g1, 0, none⟩ = some (u32v X.a) := X0.cell 0
  have c0x1 : V.cell? ⟨g1, 1, none⟩ = some (u32v X.b) := X0.cell 1
  have c0x2 : V.cell? ⟨g1, 2, none⟩ = some (u32v X.c) := X0.cell 2
  have c0x3 : V.cell? ⟨g1, 3, none⟩ = some (u32v X.d) := X0.cell 3
  have c0y0 : V.cell? ⟨g2, 0, none⟩ = some (u32v X.a) := Y0.cell 0
  have c0y1 : V.cell? ⟨g2, 1, none⟩ = some (u32v X.b) := Y0.cell 1
  have c0y2 : V.cell? ⟨g2, 2, none⟩ = some (u32v X.c) := Y0.cell 2
  have c0y3 : V.cell? ⟨g2, 3, none⟩ = some (u32v X.d) := Y0.cell 3
  replace b0 := hide b0; replace A0 := hide A0; replace X0 := hide X0; replace Y0 := hide Y0
  clear hA hb A1 b1 A2 b2 A3 b3 X3 q10 q11
  go_region_held3 (fun W => W.cell? ⟨w.heap.size, 0, none⟩ = some (u32v s.a) ∧ W.cell? ⟨w.heap.size, 1, none⟩ = some (u32v s.b) ∧ W.cell? ⟨w.heap.size, 2, none⟩ = some (u32v s.c) ∧ W.cell? ⟨w.heap.size, 3, none⟩ = some (u32v s.d) ∧ W.cell? ⟨g1, 0, none⟩ = some (u32v X.a) ∧ W.cell? ⟨g1, 1, none⟩ = some (u32v X.b) ∧ W.cell? ⟨g1, 2, none⟩ = some (u32v X.c) ∧ W.cell? ⟨g1, 3, none⟩ = some (u32v X.d) ∧ W.cell? ⟨g2, 0, none⟩ = some (u32v X.a) ∧ W.cell? ⟨g2, 1, none⟩ = some (u32v X.b) ∧ W.cell? ⟨g2, 2, none⟩ = some (u32v X.c) ∧ W.cell? ⟨g2, 3, none⟩ = some (u32v X.d)) (first | exact ⟨by with_reducible assumption, by with_reducible assumption, by with_reducible assumption, by with_reducible assumption, by with_reducible assumption, by with_reducible assumption, by with_reducible assumption, by with_reducible assumption, by with_reducible assumption, by with_reducible assumption, by with_reducible assumption, by with_reducible assumption⟩ | exact ⟨by go_simp, by go_simp, by go_simp, by go_simp, by go_simp, by go_simp, by go_simp, by go_simp, by go_simp, by go_simp, by go_simp, by go_simp⟩) (first
    | (go_at_call 12; refine (unhide q12 (V.drew) (unhide b0).drew).mono ?_; rintro e w1 ⟨rfl, hx⟩
       have b1 : Below w.heap.size w w1 := bl_call (unhide b0).drew hx
       have A1 : Blk w1 w.heap.size 24 (stC s) := Blk.below ((unhide A0).drew) hx ((unhide A0).drew).lt
       have X1 : Blk w1 g1 24 (stC X) := Blk.below ((unhide X0).drew) hx ((unhide X0).drew).lt
       have Y1 : Blk w1 g2 24 (stC X) := Blk.below ((unhide Y0).drew) hx ((unhide Y0).drew).lt
       have c1t0 : w1.cell? ⟨w.heap.size, 0, none⟩ = some (u32v s.a) := A1.cell 0
       have c1t1 : w1.cell? ⟨w.heap.size, 1, none⟩ = some (u32v s.b) := A1.cell 1
       have c1t2 : w1.cell? ⟨w.heap.size, 2, none⟩ = some (u32v s.c) := A1.cell 2
       have c1t3 : w1.cell? ⟨w.heap.size, 3, none⟩ = some (u32v s.d) := A1.cell 3
       have c1x0 : w1.cell? ⟨g1, 0, none⟩ = some (u32v X.a) := X1.cell 0
       have c1x1 : w1.cell? ⟨g1, 1, none⟩ = some (u32v X.b) := X1.cell 1
       have c1x2 : w1.cell? ⟨g1, 2, none⟩ = some (u32v X.c) := X1.cell 2
       have c1x3 : w1.cell? ⟨g1, 3, none⟩ = some (u32v X.d) := X1.cell 3
       have c1y0 : w1.cell? ⟨g2, 0, none⟩ = some (u32v X.a) := Y1.cell 0
       have c1y1 : w1.cell? ⟨g2, 1, none⟩ = some (u32v X.b) := Y1.cell 1
       have c1y2 : w1.cell? ⟨g2, 2, none⟩ = some (u32v X.c) := Y1.cell 2
       have c1y3 : w1.cell? ⟨g2, 3, none⟩ = some (u32v X.d) := Y1.cell 3
       replace b1 := hide b1; replace A1 := hide A1; replace X1 := hide X1; replace Y1 := hide Y1; clear hx)
    | (go_at_call 13; refine (unhide q13 (w1) (unhide b1)).mono ?_; rintro e w2 ⟨rfl, hx⟩
       have b2 : Below w.heap.size w w2 := bl_call (unhide b1) hx
       have A2 : Blk w2 w.heap.size 24 (stC s) := Blk.below ((unhide A1)) hx ((unhide A1)).lt
       have X2 : Blk w2 g1 24 (stC X) := Blk.below ((unhide X1)) hx ((unhide X1)).lt
       have Y2 : Blk w2 g2 24 (stC X) := Blk.below ((unhide Y1)) hx ((unhide Y1)).lt
       have c2t0 : w2.cell? ⟨w.heap.size, 0, none⟩ = some (u32v s.a) := A2.cell 0
       have c2t1 : w2.cell? ⟨w.heap.size, 1, none⟩ = some (u32v s.b) := A2.cell 1
       have c2t2 : w2.cell? ⟨w.heap.size, 2, none⟩ = some (u32v s.c) := A2.cell 2
       have c2t3 : w2.cell? ⟨w.heap.size, 3, none⟩ = some (u32v s.d) := A2.cell 3
       have c2x0 : w2.cell? ⟨g1, 0, none⟩ = some (u32v X.a) := X2.cell 0
       have c2x1 : w2.cell? ⟨g1, 1, none⟩ = some (u32v X.b) := X2.cell 1
       have c2x2 : w2.cell? ⟨g1, 2, none⟩ = some (u32v X.c) := X2.cell 2
       have c2x3 : w2.cell? ⟨g1, 3, none⟩ = some (u32v X.d) := X2.cell 3
       have c2y0 : w2.cell? ⟨g2, 0, none⟩ = some (u32v X.a) := Y2.cell 0
       have c2y1 : w2.cell? ⟨g2, 1, none⟩ = some (u32v X.b) := Y2.cell 1
       have c2y2 : w2.cell? ⟨g2, 2, none⟩ = some (u32v X.c) := Y2.cell 2
       have c2y3 : w2.cell? ⟨g2, 3, none⟩ = some (u32v X.d) := Y2.cell 3
       replace b2 := hide b2; replace A2 := hide A2; replace X2 := hide X2; replace Y2 := hide Y2; clear hx)
    | (go_at_call 15; refine (unhide q15 (w2) (unhide b2)).mono ?_; rintro e w3 ⟨v1, rfl, o1, hx⟩
       have b3 : Below w.heap.size w w3 := bl_call (unhide b2) hx
       have A3 : Blk w3 w.heap.size 24 (stC s) := Blk.below ((unhide A2)) hx ((unhide A2)).lt
       have X3 : Blk w3 g1 24 (stC X) := Blk.below ((unhide X2)) hx ((unhide X2)).lt
       have Y3 : Blk w3 g2 24 (stC X) := Blk.below ((unhide Y2)) hx ((unhide Y2)).lt
       obtain ⟨Aa, ca, rfl⟩ := (show ∃ A c, v1 = .slice A 16 c from o1.form)
       have O3 : Bs w2.heap.size w3.heap.size w3 (.slice Aa 16 ca) (octs4 s) := Bs.of_own o1
       replace O3 := hide O3; clear o1
       have c3t0 : w3.cell? ⟨w.heap.size, 0, none⟩ = some (u32v s.a) := A3.cell 0
       have c3t1 : w3.cell? ⟨w.heap.size, 1, none⟩ = some (u32v s.b) := A3.cell 1
       have c3t2 : w3.cell? ⟨w.heap.size, 2, none⟩ = some (u32v s.c) := A3.cell 2
       have c3t3 : w3.cell? ⟨w.heap.size, 3, none⟩ = some (u32v s.d) := A3.cell 3
       have c3x0 : w3.cell? ⟨g1, 0, none⟩ = some (u32v X.a) := X3.cell 0
       have c3x1 : w3.cell? ⟨g1, 1, none⟩ = some (u32v X.b) := X3.cell 1
       have c3x2 : w3.cell? ⟨g1, 2, none⟩ = some (u32v X.c) := X3.cell 2
       have c3x3 : w3.cell? ⟨g1, 3, none⟩ = some (u32v X.d) := X3.cell 3
       have c3y0 : w3.cell? ⟨g2, 0, none⟩ = some (u32v X.a) := Y3.cell 0
       have c3y1 : w3.cell? ⟨g2, 1, none⟩ = some (u32v X.b) := Y3.cell 1
       have c3y2 : w3.cell? ⟨g2, 2, none⟩ = some (u32v X.c) := Y3.cell 2
       have c3y3 : w3.cell? ⟨g2, 3, none⟩ = some (u32v X.d) := Y3.cell 3
       replace b3 := hide b3; replace A3 := hide A3; replace X3 := hide X3; replace Y3 := hide Y3; clear hx)
    | (go_at_call 16; refine (unhide q16 (w3) (unhide b3)).mono ?_; rintro e w4 ⟨v2, rfl, o2, hx⟩
       have b4 : Below w.heap.size w w4 := bl_call (unhide b3) hx
       have A4 : Blk w4 w.heap.size 24 (stC s) := Blk.below ((unhide A3)) hx ((unhide A3)).lt
       have X4 : Blk w4 g1 24 (stC X) := Blk.below ((unhide X3)) hx ((unhide X3)).lt
       have Y4 : Blk w4 g2 24 (stC X) := Blk.below ((unhide Y3)) hx ((unhide Y3)).lt
       obtain ⟨Ab, cb, rfl⟩ := (show ∃ A c, v2 = .slice A 16 c from o2.form)
       have P4 : Bs w3.heap.size w4.heap.size w4 (.slice Ab 16 cb) (octs4 s) := Bs.of_own o2
       have O4 : Bs w2.heap.size w4.heap.size w4 (.slice Aa 16 ca) (octs4 s) := Bs.to (unhide O3) hx
       replace O4 := hide O4; replace P4 := hide P4; clear o2
       have c4t0 : w4.cell? ⟨w.heap.size, 0, none⟩ = some (u32v s.a) := A4.cell 0
       have c4t1 : w4.cell? ⟨w.heap.size, 1, none⟩ = some (u32v s.b) := A4.cell 1
       have c4t2 : w4.cell? ⟨w.heap.size, 2, none⟩ = some (u32v s.c) := A4.cell 2
       have c4t3 : w4.cell? ⟨w.heap.size, 3, none⟩ = some (u32v s.d) := A4.cell 3
       have c4x0 : w4.cell? ⟨g1, 0, none⟩ = some (u32v X.a) := X4.cell 0
       have c4x1 : w4.cell? ⟨g1, 1, none⟩ = some (u32v X.b) := X4.cell 1
       have c4x2 : w4.cell? ⟨g1, 2, none⟩ = some (u32v X.c) := X4.cell 2
       have c4x3 : w4.cell? ⟨g1, 3, none⟩ = some (u32v X.d) := X4.cell 3
       have c4y0 : w4.cell? ⟨g2, 0, none⟩ = some (u32v X.a) := Y4.cell 0
       have c4y1 : w4.cell? ⟨g2, 1, none⟩ = some (u32v X.b) := Y4.cell 1
       have c4y2 : w4.cell? ⟨g2, 2, none⟩ = some (u32v X.c) := Y4.cell 2
       have c4y3 : w4.cell? ⟨g2, 3, none⟩ = some (u32v X.d) := Y4.cell 3
       replace b4 := hide b4; replace A4 := hide A4; replace X4 := hide X4; replace Y4 := hide Y4; clear hx)
    | (go_at_call 14; refine (same_true _ _ _ _ _ _ _ _ w4 (unhide O4) (unhide P4) rfl).mono ?_; rintro e w7 ⟨rfl, rfl⟩))
  all_goals go_wp2_with (fail)
  all_goals go_ret
  all_goals exact ⟨rfl, unhide b4⟩
end
theorem does_law (s : St) (v : Value) (l : List UInt8) (w : World) (ht : Tab w) (h : Bs 0 w.heap.size w v l) :
    Calls Tryd.prog 3 #[stV s, v] w fun e w' => e = .returned (.bool true) ∧ Below w.heap.size w w' := by
  by_cases hg : 100 < l.length
  · exact does_gate s v l w h hg
  · exact does_main s v l w ht h (by omega)
end Go.Proofs.YtdencbdbagikbaaDoor
