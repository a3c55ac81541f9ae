import Derived.Test.YteokimebfbnlkaaW12
namespace Go.Proofs.Yteokimebfbnlkaa
open Go.RowKit

theorem Agree.alloc {lo hi : Nat} {w w' : World} (h : Agree lo hi w w') (o : Obj) (hh : hi ≤ w'.heap.size) : Agree lo hi w (w'.alloc o) := fun k h1 h2 => (Below.heap_alloc w' o k (by omega)).trans (h k h1 h2)
theorem XsR.via {lo hi : Nat} {w W : World} {v : Value} {x : Xs} (h : XsR lo hi w v x) (ha : Agree lo hi w W) (hh : hi ≤ W.heap.size) : XsR lo W.heap.size W v x := by
  obtain ⟨b, rfl, h1⟩ := h
  exact ⟨b, rfl, (h1.keep ha).mono (Nat.le_refl _) hh⟩

set_option maxHeartbeats 2000000 in
theorem live_any (w : World) : Calls Try.prog 9 #[] w fun e w' => e = .returned (.bool true) ∧ Below w.heap.size w w' := by
  go_enter Try.func9, Try.ntmps9
  go_wp2_with (first
    | (go_at_call 11; have _t := tok4; refine (live_t3 _ A4 c4 _ (hx4.via (by (repeat (first | exact Agree.refl _ _ _ | refine Agree.alloc ?_ _ (by simp <;> omega) | refine Agree.set ?_ (by simp <;> omega) _))) (by simp))).mono ?_; rintro e w5 ⟨A5, c5, rfl, hx5, hb5⟩; have hz5 := hb5.size; simp at hz5; have y15 : w1.heap.size < w5.heap.size := (by omega); clear tok4 _t)
    | (go_at_call 15; refine (live_g _ A3 c3 _ (hx3.via (by (repeat (first | exact Agree.refl _ _ _ | refine Agree.alloc ?_ _ (by simp <;> omega) | refine Agree.set ?_ (by simp <;> omega) _))) (by simp))).mono ?_; rintro e w4 ⟨A4, c4, rfl, hx4, hb4⟩; have hz4 := hb4.size; simp at hz4; have y14 : w1.heap.size < w4.heap.size := (by omega); have Md : Blk w4 w1.heap.size 24 #[.int .i64 8, .slice A3 1 c3] := Blk.below (by first | exact Blk.set2 (Blk.alloc Mb _) | exact Blk.alloc (Blk.set2 Mb) _) hb4 (by simp; omega); have Mdc0 := Md.cell 0; have Mdc1 := Md.cell 1; have Mdf0 := Md.frozen 0; have Mdf1 := Md.frozen 1; simp at Mdc0 Mdc1; have tok4 : True := trivial)
    | (go_at_call 11; have _t := tok2; refine (live_t2 _ A2 c2 _ (hx2.via (by (repeat (first | exact Agree.refl _ _ _ | refine Agree.alloc ?_ _ (by simp <;> omega) | refine Agree.set ?_ (by simp <;> omega) _))) (by simp))).mono ?_; rintro e w3 ⟨A3, c3, rfl, hx3, hb3⟩; have hz3 := hb3.size; simp at hz3; have y13 : w1.heap.size < w3.heap.size := (by omega); have y23 : w2.heap.size < w3.heap.size := (by omega); have Mb : Blk w3 w1.heap.size 24 #[.int .i64 8, .slice A2 1 c2] := Blk.below (by first | exact Blk.set2 (Blk.alloc Ma _) | exact Blk.alloc (Blk.set2 Ma) _) hb3 (by simp; omega); have Mc : Blk w3 w2.heap.size 26 #[.int .i64 0, .int .i64 3] := Blk.below (by first | exact Blk.far (Blk.far (Blk.new rfl) (by omega) _) (by omega) _ | exact Blk.new (by simp)) hb3 (by simp); have Mbc0 := Mb.cell 0; have Mbc1 := Mb.cell 1; have Mbf0 := Mb.frozen 0; have Mbf1 := Mb.frozen 1; simp at Mbc0 Mbc1; have Mcc0 := Mc.cell 0; have Mcc1 := Mc.cell 1; have Mcf0 := Mc.frozen 0; have Mcf1 := Mc.frozen 1; simp at Mcc0 Mcc1; clear tok2 _t; have tok3 : True := trivial)
    | (go_at_call 11; have _t := tok1; refine (live_t1 _ A1 c1 _ (hx1.via (by (repeat (first | exact Agree.refl _ _ _ | refine Agree.alloc ?_ _ (by simp <;> omega) | refine Agree.set ?_ (by simp <;> omega) _))) (by simp))).mono ?_; rintro e w2 ⟨A2, c2, rfl, hx2, hb2⟩; have hz2 := hb2.size; simp at hz2; have y12 : w1.heap.size < w2.heap.size := (by omega); have Ma : Blk w2 w1.heap.size 24 #[.int .i64 8, .slice A1 1 c1] := Blk.below (Blk.new rfl) hb2 (by simp); have Mac0 := Ma.cell 0; have Mac1 := Ma.cell 1; have Maf0 := Ma.frozen 0; have Maf1 := Ma.frozen 1; simp at Mac0 Mac1; clear tok1 _t; have tok2 : True := trivial)
    | (go_at_call 17; refine (live_new _).mono ?_; rintro e w1 ⟨A1, c1, rfl, hx1, hb1⟩; have hz1 := hb1.size; have tok1 : True := trivial))
  go_ret
  exact ⟨rfl, by (repeat (first | with_reducible exact Below.refl _ _ | with_reducible assumption | with_reducible refine Below.drew ?_ | with_reducible refine bl_alloc ?_ _ | with_reducible refine bl_call ?_ (by assumption) | (focus (with_reducible refine Below.setCell ?_ ?_ _; rotate_left; focus (first | omega | (simp <;> omega)))) | fail))⟩
end Go.Proofs.Yteokimebfbnlkaa
