import Derived.Test.YtdencbdbagikbaaDoorW25
namespace Go.Proofs.YtdencbdbagikbaaDoor
open Go.RowKit

/-- Absorb, and the reference's: the same. -/
theorem abs_both (s : St) (v : Value) (l : List UInt8) (w : World) (ht : Tab w) (h : Bs 0 w.heap.size w v l) : ∃ (X : St) (er : Int),
    (∀ W', Below w.heap.size w W' → Calls Tryd.prog 17 #[stV s, v] W' fun e w' => e = .returned (.tuple #[stV X, .int .i64 er]) ∧ Below W'.heap.size W' w') ∧
    (∀ W', Below w.heap.size w W' → Calls Tryd.prog 18 #[stV s, v] W' fun e w' => e = .returned (.tuple #[stV X, .int .i64 er]) ∧ Below W'.heap.size W' w') := by
  by_cases hl : l.length ≤ 131072
  · exact ⟨absorbF s l, 0, fun W' hb => Absorb_good 0 s v l W' (ht.below hb (Nat.le_refl _)) (h.to hb) hl, fun W' hb => AbsorbR_good 0 s v l W' (h.to hb) hl⟩
  · exact ⟨zS, 3, fun W' hb => Absorb_long 0 s v l W' (h.to hb) (by omega), fun W' hb => AbsorbR_long 0 s v l W' (h.to hb) (by omega)⟩
theorem Bs.empty (lo hi : Nat) (w : World) : Bs lo hi w (.slice none 0 0) [] := ⟨none, 0, rfl, by simp, by omega, fun h => absurd h (by simp)⟩
/-- Squeeze, and the reference's: the same. -/
theorem sq_both (s : St) (z : Int) (w : World) (ht : Tab w) : ∃ (L : List UInt8) (er : Int),
    (∀ W', Below w.heap.size w W' → Calls Tryd.prog 19 #[stV s, .int .i64 z] W' fun e w' => ∃ A c, e = .returned (.tuple #[.slice A L.length c, .int .i64 er]) ∧ Bs 0 w'.heap.size w' (.slice A L.length c) L ∧ Below W'.heap.size W' w') ∧
    (∀ W', Below w.heap.size w W' → Calls Tryd.prog 20 #[stV s, .int .i64 z] W' fun e w' => ∃ A c, e = .returned (.tuple #[.slice A L.length c, .int .i64 er]) ∧ Bs 0 w'.heap.size w' (.slice A L.length c) L ∧ Below W'.heap.size W' w') := by
  by_cases h0 : z < 0
  · refine ⟨[], 1, fun W' hb => (Squeeze_neg s z W' h0).mono ?_, fun W' hb => (SqueezeR_neg s z W' h0).mono ?_⟩
    · rintro e w' ⟨rfl, hx⟩; exact ⟨none, 0, rfl, Bs.empty _ _ _, hx⟩
    · rintro e w' ⟨rfl, hx⟩; exact ⟨none, 0, rfl, Bs.empty _ _ _, hx⟩
  · by_cases h1 : 131072 < z
    · refine ⟨[], 3, fun W' hb => (Squeeze_long s z W' h1).mono ?_, fun W' hb => (SqueezeR_long s z W' h1).mono ?_⟩
      · rintro e w' ⟨rfl, hx⟩; exact ⟨none, 0, rfl, Bs.empty _ _ _, hx⟩
      · rintro e w' ⟨rfl, hx⟩; exact ⟨none, 0, rfl, Bs.empty _ _ _, hx⟩
    · obtain ⟨n, rfl⟩ := Int.eq_ofNat_of_zero_le (show 0 ≤ z by omega)
      have hl := squeeze_len s n
      refine ⟨squeezeF s n, 0, fun W' hb => (Squeeze_good s n W' (ht.below hb (Nat.le_refl _)) (by omega)).mono ?_, fun W' hb => (SqueezeR_good s n W' (by omega)).mono ?_⟩
      · rintro e w' ⟨A, c, rfl, hB, hx⟩; rw [hl]; exact ⟨A, c, rfl, hB.mono (Nat.zero_le _) (Nat.le_refl _), hx⟩
      · rintro e w' ⟨A, c, rfl, hB, hx⟩; rw [hl]; exact ⟨A, c, rfl, hB.mono (Nat.zero_le _) (Nat.le_refl _), hx⟩

set_option maxHeartbeats 400000 in
theorem takes_gate1 (s : St) (A : Option Addr) (n c : Nat) (z : Int) (w : World) (p0 : (300 : Int) < (n : Int)) (p1 : (n : Int) ≤ 131072) :
    Calls Tryd.prog 4 #[stV s, .slice A n c, .int .i64 z] w fun e w' => e = .returned (.bool true) ∧ Below w.heap.size w w' := by
  go_enter Tryd.func4, Tryd.ntmps4
  go_wp2_with (first
    | (go_at_call 9; refine (live_any _).mono ?_; rintro e w1 ⟨rfl, hb1⟩)
    | fail)
  go_ret
  exact ⟨rfl, by (repeat (first | with_reducible exact Below.refl _ _ | with_reducible assumption | with_reducible refine Below.drew ?_ | with_reducible refine bl_alloc ?_ _ | with_reducible refine bl_call ?_ (by assumption) | (focus (with_reducible refine Below.setCell ?_ ?_ _; rotate_left; focus (first | omega | (simp <;> omega)))) | fail))⟩
set_option maxHeartbeats 400000 in
theorem takes_gate2 (s : St) (A : Option Addr) (n c : Nat) (z : Int) (w : World) (p0 : (300 : Int) < (n : Int)) (p1 : ¬ (n : Int) ≤ 131072) (p2 : (131080 : Int) < (n : Int)) :
    Calls Tryd.prog 4 #[stV s, .slice A n c, .int .i64 z] w fun e w' => e = .returned (.bool true) ∧ Below w.heap.size w w' := by
  go_enter Tryd.func4, Tryd.ntmps4
  go_wp2_with (first
    | (go_at_call 9; refine (live_any _).mono ?_; rintro e w1 ⟨rfl, hb1⟩)
    | fail)
  go_ret
  exact ⟨rfl, by (repeat (first | with_reducible exact Below.refl _ _ | with_reducible assumption | with_reducible refine Below.drew ?_ | with_reducible refine bl_alloc ?_ _ | with_reducible refine bl_call ?_ (by assumption) | (focus (with_reducible refine Below.setCell ?_ ?_ _; rotate_left; focus (first | omega | (simp <;> omega)))) | fail))⟩
set_option maxHeartbeats 400000 in
theorem takes_gate3 (s : St) (A : Option Addr) (n c : Nat) (z : Int) (w : World) (p0 : ¬ (300 : Int) < (n : Int)) (p1 : ¬ (131080 : Int) < (n : Int)) (p2 : (300 : Int) < z) (p3 : z ≤ 131072) :
    Calls Tryd.prog 4 #[stV s, .slice A n c, .int .i64 z] w fun e w' => e = .returned (.bool true) ∧ Below w.heap.size w w' := by
  go_enter Tryd.func4, Tryd.ntmps4
  go_wp2_with (first
    | (go_at_call 9; refine (live_any _).mono ?_; rintro e w1 ⟨rfl, hb1⟩)
    | fail)
  go_ret
  exact ⟨rfl, by (repeat (first | with_reducible exact Below.refl _ _ | with_reducible assumption | with_reducible refine Below.drew ?_ | with_reducible refine bl_alloc ?_ _ | with_reducible refine bl_call ?_ (by assumption) | (focus (with_reducible refine Below.setCell ?_ ?_ _; rotate_left; focus (first | omega | (simp <;> omega)))) | fail))⟩
set_option maxHeartbeats 400000 in
theorem takes_gate4 (s : St) (A : Option Addr) (n c : Nat) (z : Int) (w : World) (p0 : (300 : Int) < (n : Int)) (p1 : ¬ (n : Int) ≤ 131072) (p2 : ¬ (131080 : Int) < (n : Int)) (p3 : (300 : Int) < z) (p4 : z ≤ 131072) :
    Calls Tryd.prog 4 #[stV s, .slice A n c, .int .i64 z] w fun e w' => e = .returned (.bool true) ∧ Below w.heap.size w w' := by
  go_enter Tryd.func4, Tryd.ntmps4
  go_wp2_with (first
    | (go_at_call 9; refine (live_any _).mono ?_; rintro e w1 ⟨rfl, hb1⟩)
    | fail)
  go_ret
  exact ⟨rfl, by (repeat (first | with_reducible exact Below.refl _ _ | with_reducible assumption | with_reducible refine Below.drew ?_ | with_reducible refine bl_alloc ?_ _ | with_reducible refine bl_call ?_ (by assumption) | (focus (with_reducible refine Below.setCell ?_ ?_ _; rotate_left; focus (first | omega | (simp <;> omega)))) | fail))⟩
section
attribute [local go_sem] guard24
set_option maxHeartbeats 1000000 in
theorem takes_main1 (s : St) (A : Option Addr) (n c : Nat) (z : Int) (l : List UInt8) (w : World) (ht : Tab w) (h : Bs 0 w.heap.size w (.slice A n c) l) (p0 : ¬ (300 : Int) < (n : Int)) (p1 : ¬ (131080 : Int) < (n : Int)) (p2 : ¬ (300 : Int) < z) :
    Calls Tryd.prog 4 #[stV s, .slice A n c, .int .i64 z] w fun e w' => e = .returned (.bool true) ∧ Below w.heap.size w w' := by
  have hA : Blk (w.alloc (.cells (stC s) 24)) w.heap.size 24 (stC s) := Blk.new rfl
  have hb : Below w.heap.size w (w.alloc (.cells (stC s) 24)) := bl_alloc (Below.refl _ _) _
  obtain ⟨X, er, q17, q18⟩ := abs_both s _ l w ht h
  obtain ⟨L, er2, q19, q20⟩ := sq_both s z w ht
  have r := fun W' (hb : Below w.heap.size w W') => (h.to hb).convert
  have E2 := fun W => eql_self W X
  have hss : ((strU l).toList == (strU l).toList) = true := by rw [strU_eq]; simp
  generalize strU l = u at *
  generalize hnL : L.length = nL at *
  replace q17 := hide q17; replace q18 := hide q18; replace q19 := hide q19; replace q20 := hide q20; replace r := hide r; replace hA := hide hA; replace hb := hide hb
  clear h ht
  have tl0 : True := trivial
  have tl1 : True := trivial
  have tl2 : True := trivial
  go_enter Tryd.func4, Tryd.ntmps4
  go_upto_region 1 with (fail)
  generalize hW : World.alloc w _ = W at *
  clear hW
  go_wp2_with (first
    | (go_at_call 9; refine (live_any _).mono ?_; rintro e w1 ⟨rfl, hb1⟩
       have b1 : Below w.heap.size w w1 := bl_call (unhide hb) hb1
       have A1 : Blk w1 w.heap.size 24 (stC s) := Blk.below (unhide hA) hb1 (unhide hA).lt
       have R1 := unhide r _ b1
       replace b1 := hide b1; replace A1 := hide A1; clear hb1)
    | (have _t := tl0; refine wpList_load_row rfl 24 (.tmp 3) rfl w.heap.size rfl 24 (stC s) (0, 0) _ (unhide A1) Tryd.underlying24 rfl size24 ?_; clear tl0 _t)
    | (have _t := tl1; refine wpList_load_row rfl 24 (.tmp 3) rfl w.heap.size rfl 24 (stC s) (0, 0) _ ((unhide A2).alloc _) Tryd.underlying24 rfl size24 ?_; clear tl1 _t)
    | (have _t := tl2; refine wpList_load_row rfl 24 (.tmp 3) rfl w.heap.size rfl 24 (stC s) (0, 0) _ ((unhide A3).alloc _) Tryd.underlying24 rfl size24 ?_; clear tl2 _t)
    | (refine wpList_load_row rfl 24 (.tmp 3) rfl w.heap.size rfl 24 (stC s) (0, 0) _ (unhide A4) Tryd.underlying24 rfl size24 ?_)
    | (go_at_call 17; refine (unhide q17 w1 (unhide b1)).mono ?_; rintro e w2 ⟨rfl, hx⟩
       have b2 : Below w.heap.size w w2 := bl_call (unhide b1) hx
       have A2 : Blk w2 w.heap.size 24 (stC s) := Blk.below (unhide A1) hx (unhide A1).lt
       replace b2 := hide b2; replace A2 := hide A2; clear hx)
    | (go_at_call 18; refine (unhide q18 (w2.alloc (.cells (stC X) 24)) (bl_alloc (unhide b2) _)).mono ?_; rintro e w3 ⟨rfl, hx⟩
       have b3 : Below w.heap.size w w3 := bl_call (bl_alloc (unhide b2) _) hx
       have A3 : Blk w3 w.heap.size 24 (stC s) := Blk.below ((unhide A2).alloc _) hx ((unhide A2).alloc _).lt
       have X3 : Blk w3 w2.heap.size 24 (stC X) := Blk.below (w := w2.alloc (.cells (stC X) 24)) (Blk.new rfl) hx (alloc_lt w2 _)
       replace b3 := hide b3; replace A3 := hide A3; replace X3 := hide X3; clear hx)
    | (go_at_call 19; refine (unhide q19 (w3.alloc (.cells (stC X) 24)) (bl_alloc (unhide b3) _)).mono ?_; rintro e w4 ⟨Aa, ca, rfl, Ba, hx⟩
       have b4 : Below w.heap.size w w4 := bl_call (bl_alloc (unhide b3) _) hx
       have A4 : Blk w4 w.heap.size 24 (stC s) := Blk.below ((unhide A3).alloc _) hx ((unhide A3).alloc _).lt
       have X4 : Blk w4 w2.heap.size 24 (stC X) := Blk.below ((unhide X3).alloc _) hx ((unhide X3).alloc _).lt
       have Y4 : Blk w4 w3.heap.size 24 (stC X) := Blk.below (w := w3.alloc (.cells (stC X) 24)) (Blk.new rfl) hx (alloc_lt w3 _)
       replace b4 := hide b4; replace A4 := hide A4; replace X4 := hide X4; replace Y4 := hide Y4; replace Ba := hide Ba; clear hx)
    | (go_at_call 20; refine (unhide q20 w4 (unhide b4)).mono ?_; rintro e w5 ⟨Ab, cb, rfl, Bb, hx⟩
       have b5 : Below w.heap.size w w5 := bl_call (unhide b4) hx
       have X5 : Blk w5 w2.heap.size 24 (stC X) := Blk.below (unhide X4) hx (unhide X4).lt
       have Y5 : Blk w5 w3.heap.size 24 (stC X) := Blk.below (unhide Y4) hx (unhide Y4).lt
       have Ba5 := Bs.to (unhide Ba) hx
       have R5 := unhide r _ b5
       have cx0 : w5.cell? ⟨w2.heap.size, 0, none⟩ = some (u32v X.a) := X5.cell 0
       have cx1 : w5.cell? ⟨w2.heap.size, 1, none⟩ = some (u32v X.b) := X5.cell 1
       have cx2 : w5.cell? ⟨w2.heap.size, 2, none⟩ = some (u32v X.c) := X5.cell 2
       have cx3 : w5.cell? ⟨w2.heap.size, 3, none⟩ = some (u32v X.d) := X5.cell 3
       have cy0 : w5.cell? ⟨w3.heap.size, 0, none⟩ = some (u32v X.a) := Y5.cell 0
       have cy1 : w5.cell? ⟨w3.heap.size, 1, none⟩ = some (u32v X.b) := Y5.cell 1
       have cy2 : w5.cell? ⟨w3.heap.size, 2, none⟩ = some (u32v X.c) := Y5.cell 2
       have cy3 : w5.cell? ⟨w3.heap.size, 3, none⟩ = some (u32v X.d) := Y5.cell 3
       have kx := X5.lt
       have ky := Y5.lt
       replace b5 := hide b5; replace Ba5 := hide Ba5; replace Bb := hide Bb; clear hx X5 Y5)
    | (go_at_call 14; refine (same_true _ _ _ _ _ _ _ _ w5 (unhide Ba5) (unhide Bb) rfl).mono ?_; rintro e w7 ⟨rfl, rfl⟩)
    | fail)
  go_ret
  exact ⟨rfl, unhide b5⟩
end
section
attribute [local go_sem] guard24
set_option maxHeartbeats 1000000 in
theorem takes_main2 (s : St) (A : Option Addr) (n c : Nat) (z : Int) (l : List UInt8) (w : World) (ht : Tab w) (h : Bs 0 w.heap.size w (.slice A n c) l) (p0 : ¬ (300 : Int) < (n : Int)) (p1 : ¬ (131080 : Int) < (n : Int)) (p2 : (300 : Int) < z) (p3 : ¬ z ≤ 131072) :
    Calls Tryd.prog 4 #[stV s, .slice A n c, .int .i64 z] w fun e w' => e = .returned (.bool true) ∧ Below w.heap.size w w' := by
  have hA : Blk (w.alloc (.cells (stC s) 24)) w.heap.size 24 (stC s) := Blk.new rfl
  have hb : Below w.heap.size w (w.alloc (.cells (stC s) 24)) := bl_alloc (Below.refl _ _) _
  obtain ⟨X, er, q17, q18⟩ := abs_both s _ l w ht h
  obtain ⟨L, er2, q19, q20⟩ := sq_both s z w ht
  have r := fun W' (hb : Below w.heap.size w W') => (h.to hb).convert
  have E2 := fun W => eql_self W X
  have hss : ((strU l).toList == (strU l).toList) = true := by rw [strU_eq]; simp
  generalize strU l = u at *
  generalize hnL : L.length = nL at *
  replace q17 := hide q17; replace q18 := hide q18; replace q19 := hide q19; replace q20 := hide q20; replace r := hide r; replace hA := hide hA; replace hb := hide hb
  clear h ht
  have tl0 : True := trivial
  have tl1 : True := trivial
  have tl2 : True := trivial
  go_enter Tryd.func4, Tryd.ntmps4
  go_upto_region 1 with (fail)
  generalize hW : World.alloc w _ = W at *
  clear hW
  go_wp2_with (first
    | (go_at_call 9; refine (live_any _).mono ?_; rintro e w1 ⟨rfl, hb1⟩
       have b1 : Below w.heap.size w w1 := bl_call (unhide hb) hb1
       have A1 : Blk w1 w.heap.size 24 (stC s) := Blk.below (unhide hA) hb1 (unhide hA).lt
       have R1 := unhide r _ b1
       replace b1 := hide b1; replace A1 := hide A1; clear hb1)
    | (have _t := tl0; refine wpList_load_row rfl 24 (.tmp 3) rfl w.heap.size rfl 24 (stC s) (0, 0) _ (unhide A1) Tryd.underlying24 rfl size24 ?_; clear tl0 _t)
    | (have _t := tl1; refine wpList_load_row rfl 24 (.tmp 3) rfl w.heap.size rfl 24 (stC s) (0, 0) _ ((unhide A2).alloc _) Tryd.underlying24 rfl size24 ?_; clear tl1 _t)
    | (have _t := tl2; refine wpList_load_row rfl 24 (.tmp 3) rfl w.heap.size rfl 24 (stC s) (0, 0) _ ((unhide A3).alloc _) Tryd.underlying24 rfl size24 ?_; clear tl2 _t)
    | (refine wpList_load_row rfl 24 (.tmp 3) rfl w.heap.size rfl 24 (stC s) (0, 0) _ (unhide A4) Tryd.underlying24 rfl size24 ?_)
    | (go_at_call 17; refine (unhide q17 w1 (unhide b1)).mono ?_; rintro e w2 ⟨rfl, hx⟩
       have b2 : Below w.heap.size w w2 := bl_call (unhide b1) hx
       have A2 : Blk w2 w.heap.size 24 (stC s) := Blk.below (unhide A1) hx (unhide A1).lt
       replace b2 := hide b2; replace A2 := hide A2; clear hx)
    | (go_at_call 18; refine (unhide q18 (w2.alloc (.cells (stC X) 24)) (bl_alloc (unhide b2) _)).mono ?_; rintro e w3 ⟨rfl, hx⟩
       have b3 : Below w.heap.size w w3 := bl_call (bl_alloc (unhide b2) _) hx
       have A3 : Blk w3 w.heap.size 24 (stC s) := Blk.below ((unhide A2).alloc _) hx ((unhide A2).alloc _).lt
       have X3 : Blk w3 w2.heap.size 24 (stC X) := Blk.below (w := w2.alloc (.cells (stC X) 24)) (Blk.new rfl) hx (alloc_lt w2 _)
       replace b3 := hide b3; replace A3 := hide A3; replace X3 := hide X3; clear hx)
    | (go_at_call 19; refine (unhide q19 (w3.alloc (.cells (stC X) 24)) (bl_alloc (unhide b3) _)).mono ?_; rintro e w4 ⟨Aa, ca, rfl, Ba, hx⟩
       have b4 : Below w.heap.size w w4 := bl_call (bl_alloc (unhide b3) _) hx
       have A4 : Blk w4 w.heap.size 24 (stC s) := Blk.below ((unhide A3).alloc _) hx ((unhide A3).alloc _).lt
       have X4 : Blk w4 w2.heap.size 24 (stC X) := Blk.below ((unhide X3).alloc _) hx ((unhide X3).alloc _).lt
       have Y4 : Blk w4 w3.heap.size 24 (stC X) := Blk.below (w := w3.alloc (.cells (stC X) 24)) (Blk.new rfl) hx (alloc_lt w3 _)
       replace b4 := hide b4; replace A4 := hide A4; replace X4 := hide X4; replace Y4 := hide Y4; replace Ba := hide Ba; clear hx)
    | (go_at_call 20; refine (unhide q20 w4 (unhide b4)).mono ?_; rintro e w5 ⟨Ab, cb, rfl, Bb, hx⟩
       have b5 : Below w.heap.size w w5 := bl_call (unhide b4) hx
       have X5 : Blk w5 w2.heap.size 24 (stC X) := Blk.below (unhide X4) hx (unhide X4).lt
       have Y5 : Blk w5 w3.heap.size 24 (stC X) := Blk.below (unhide Y4) hx (unhide Y4).lt
       have Ba5 := Bs.to (unhide Ba) hx
       have R5 := unhide r _ b5
       have cx0 : w5.cell? ⟨w2.heap.size, 0, none⟩ = some (u32v X.a) := X5.cell 0
       have cx1 : w5.cell? ⟨w2.heap.size, 1, none⟩ = some (u32v X.b) := X5.cell 1
       have cx2 : w5.cell? ⟨w2.heap.size, 2, none⟩ = some (u32v X.c) := X5.cell 2
       have cx3 : w5.cell? ⟨w2.heap.size, 3, none⟩ = some (u32v X.d) := X5.cell 3
       have cy0 : w5.cell? ⟨w3.heap.size, 0, none⟩ = some (u32v X.a) := Y5.cell 0
       have cy1 : w5.cell? ⟨w3.heap.size, 1, none⟩ = some (u32v X.b) := Y5.cell 1
       have cy2 : w5.cell? ⟨w3.heap.size, 2, none⟩ = some (u32v X.c) := Y5.cell 2
       have cy3 : w5.cell? ⟨w3.heap.size, 3, none⟩ = some (u32v X.d) := Y5.cell 3
       have kx := X5.lt
       have ky := Y5.lt
       replace b5 := hide b5; replace Ba5 := hide Ba5; replace Bb := hide Bb; clear hx X5 Y5)
    | (go_at_call 14; refine (same_true _ _ _ _ _ _ _ _ w5 (unhide Ba5) (unhide Bb) rfl).mono ?_; rintro e w7 ⟨rfl, rfl⟩)
    | fail)
  go_ret
  exact ⟨rfl, unhide b5⟩
end
section
attribute [local go_sem] guard24
set_option maxHeartbeats 1000000 in
theorem takes_main3 (s : St) (A : Option Addr) (n c : Nat) (z : Int) (l : List UInt8) (w : World) (ht : Tab w) (h : Bs 0 w.heap.size w (.slice A n c) l) (p0 : (300 : Int) < (n : Int)) (p1 : ¬ (n : Int) ≤ 131072) (p2 : ¬ (131080 : Int) < (n : Int)) (p3 : ¬ (300 : Int) < z) :
    Calls Tryd.prog 4 #[stV s, .slice A n c, .int .i64 z] w fun e w' => e = .returned (.bool true) ∧ Below w.heap.size w w' := by
  have hA : Blk (w.alloc (.cells (stC s) 24)) w.heap.size 24 (stC s) := Blk.new rfl
  have hb : Below w.heap.size w (w.alloc (.cells (stC s) 24)) := bl_alloc (Below.refl _ _) _
  obtain ⟨X, er, q17, q18⟩ := abs_both s _ l w ht h
  obtain ⟨L, er2, q19, q20⟩ := sq_both s z w ht
  have r := fun W' (hb : Below w.heap.size w W') => (h.to hb).convert
  have E2 := fun W => eql_self W X
  have hss : ((strU l).toList == (strU l).toList) = true := by rw [strU_eq]; simp
  generalize strU l = u at *
  generalize hnL : L.length = nL at *
  replace q17 := hide q17; replace q18 := hide q18; replace q19 := hide q19; replace q20 := hide q20; replace r := hide r; replace hA := hide hA; replace hb := hide hb
  clear h ht
  have tl0 : True := trivial
  have tl1 : True := trivial
  have tl2 : True := trivial
  go_enter Tryd.func4, Tryd.ntmps4
  go_upto_region 1 with (fail)
  generalize hW : World.alloc w _ = W at *
  clear hW
  go_wp2_with (first
    | (go_at_call 9; refine (live_any _).mono ?_; rintro e w1 ⟨rfl, hb1⟩
       have b1 : Below w.heap.size w w1 := bl_call (unhide hb) hb1
       have A1 : Blk w1 w.heap.size 24 (stC s) := Blk.below (unhide hA) hb1 (unhide hA).lt
       have R1 := unhide r _ b1
       replace b1 := hide b1; replace A1 := hide A1; clear hb1)
    | (have _t := tl0; refine wpList_load_row rfl 24 (.tmp 3) rfl w.heap.size rfl 24 (stC s) (0, 0) _ (unhide A1) Tryd.underlying24 rfl size24 ?_; clear tl0 _t)
    | (have _t := tl1; refine wpList_load_row rfl 24 (.tmp 3) rfl w.heap.size rfl 24 (stC s) (0, 0) _ ((unhide A2).alloc _) Tryd.underlying24 rfl size24 ?_; clear tl1 _t)
    | (have _t := tl2; refine wpList_load_row rfl 24 (.tmp 3) rfl w.heap.size rfl 24 (stC s) (0, 0) _ ((unhide A3).alloc _) Tryd.underlying24 rfl size24 ?_; clear tl2 _t)
    | (refine wpList_load_row rfl 24 (.tmp 3) rfl w.heap.size rfl 24 (stC s) (0, 0) _ (unhide A4) Tryd.underlying24 rfl size24 ?_)
    | (go_at_call 17; refine (unhide q17 w1 (unhide b1)).mono ?_; rintro e w2 ⟨rfl, hx⟩
       have b2 : Below w.heap.size w w2 := bl_call (unhide b1) hx
       have A2 : Blk w2 w.heap.size 24 (stC s) := Blk.below (unhide A1) hx (unhide A1).lt
       replace b2 := hide b2; replace A2 := hide A2; clear hx)
    | (go_at_call 18; refine (unhide q18 (w2.alloc (.cells (stC X) 24)) (bl_alloc (unhide b2) _)).mono ?_; rintro e w3 ⟨rfl, hx⟩
       have b3 : Below w.heap.size w w3 := bl_call (bl_alloc (unhide b2) _) hx
       have A3 : Blk w3 w.heap.size 24 (stC s) := Blk.below ((unhide A2).alloc _) hx ((unhide A2).alloc _).lt
       have X3 : Blk w3 w2.heap.size 24 (stC X) := Blk.below (w := w2.alloc (.cells (stC X) 24)) (Blk.new rfl) hx (alloc_lt w2 _)
       replace b3 := hide b3; replace A3 := hide A3; replace X3 := hide X3; clear hx)
    | (go_at_call 19; refine (unhide q19 (w3.alloc (.cells (stC X) 24)) (bl_alloc (unhide b3) _)).mono ?_; rintro e w4 ⟨Aa, ca, rfl, Ba, hx⟩
       have b4 : Below w.heap.size w w4 := bl_call (bl_alloc (unhide b3) _) hx
       have A4 : Blk w4 w.heap.size 24 (stC s) := Blk.below ((unhide A3).alloc _) hx ((unhide A3).alloc _).lt
       have X4 : Blk w4 w2.heap.size 24 (stC X) := Blk.below ((unhide X3).alloc _) hx ((unhide X3).alloc _).lt
       have Y4 : Blk w4 w3.heap.size 24 (stC X) := Blk.below (w := w3.alloc (.cells (stC X) 24)) (Blk.new rfl) hx (alloc_lt w3 _)
       replace b4 := hide b4; replace A4 := hide A4; replace X4 := hide X4; replace Y4 := hide Y4; replace Ba := hide Ba; clear hx)
    | (go_at_call 20; refine (unhide q20 w4 (unhide b4)).mono ?_; rintro e w5 ⟨Ab, cb, rfl, Bb, hx⟩
       have b5 : Below w.heap.size w w5 := bl_call (unhide b4) hx
       have X5 : Blk w5 w2.heap.size 24 (stC X) := Blk.below (unhide X4) hx (unhide X4).lt
       have Y5 : Blk w5 w3.heap.size 24 (stC X) := Blk.below (unhide Y4) hx (unhide Y4).lt
       have Ba5 := Bs.to (unhide Ba) hx
       have R5 := unhide r _ b5
       have cx0 : w5.cell? ⟨w2.heap.size, 0, none⟩ = some (u32v X.a) := X5.cell 0
       have cx1 : w5.cell? ⟨w2.heap.size, 1, none⟩ = some (u32v X.b) := X5.cell 1
       have cx2 : w5.cell? ⟨w2.heap.size, 2, none⟩ = some (u32v X.c) := X5.cell 2
       have cx3 : w5.cell? ⟨w2.heap.size, 3, none⟩ = some (u32v X.d) := X5.cell 3
       have cy0 : w5.cell? ⟨w3.heap.size, 0, none⟩ = some (u32v X.a) := Y5.cell 0
       have cy1 : w5.cell? ⟨w3.heap.size, 1, none⟩ = some (u32v X.b) := Y5.cell 1
       have cy2 : w5.cell? ⟨w3.heap.size, 2, none⟩ = some (u32v X.c) := Y5.cell 2
       have cy3 : w5.cell? ⟨w3.heap.size, 3, none⟩ = some (u32v X.d) := Y5.cell 3
       have kx := X5.lt
       have ky := Y5.lt
       replace b5 := hide b5; replace Ba5 := hide Ba5; replace Bb := hide Bb; clear hx X5 Y5)
    | (go_at_call 14; refine (same_true _ _ _ _ _ _ _ _ w5 (unhide Ba5) (unhide Bb) rfl).mono ?_; rintro e w7 ⟨rfl, rfl⟩)
    | fail)
  go_ret
  exact ⟨rfl, unhide b5⟩
end
section
attribute [local go_sem] guard24
set_option maxHeartbeats 1000000 in
theorem takes_main4 (s : St) (A : Option Addr) (n c : Nat) (z : Int) (l : List UInt8) (w : World) (ht : Tab w) (h : Bs 0 w.heap.size w (.slice A n c) l) (p0 : (300 : Int) < (n : Int)) (p1 : ¬ (n : Int) ≤ 131072) (p2 : ¬ (131080 : Int) < (n : Int)) (p3 : (300 : Int) < z) (p4 : ¬ z ≤ 131072) :
    Calls Tryd.prog 4 #[stV s, .slice A n c, .int .i64 z] w fun e w' => e = .returned (.bool true) ∧ Below w.heap.size w w' := by
  have hA : Blk (w.alloc (.cells (stC s) 24)) w.heap.size 24 (stC s) := Blk.new rfl
  have hb : Below w.heap.size w (w.alloc (.cells (stC s) 24)) := bl_alloc (Below.refl _ _) _
  obtain ⟨X, er, q17, q18⟩ := abs_both s _ l w ht h
  obtain ⟨L, er2, q19, q20⟩ := sq_both s z w ht
  have r := fun W' (hb : Below w.heap.size w W') => (h.to hb).convert
  have E2 := fun W => eql_self W X
  have hss : ((strU l).toList == (strU l).toList) = true := by rw [strU_eq]; simp
  generalize strU l = u at *
  generalize hnL : L.length = nL at *
  replace q17 := hide q17; replace q18 := hide q18; replace q19 := hide q19; replace q20 := hide q20; replace r := hide r; replace hA := hide hA; replace hb := hide hb
  clear h ht
  have tl0 : True := trivial
  have tl1 : True := trivial
  have tl2 : True := trivial
  go_enter Tryd.func4, Tryd.ntmps4
  go_upto_region 1 with (fail)
  generalize hW : World.alloc w _ = W at *
  clear hW
  go_wp2_with (first
    | (go_at_call 9; refine (live_any _).mono ?_; rintro e w1 ⟨rfl, hb1⟩
       have b1 : Below w.heap.size w w1 := bl_call (unhide hb) hb1
       have A1 : Blk w1 w.heap.size 24 (stC s) := Blk.below (unhide hA) hb1 (unhide hA).lt
       have R1 := unhide r _ b1
       replace b1 := hide b1; replace A1 := hide A1; clear hb1)
    | (have _t := tl0; refine wpList_load_row rfl 24 (.tmp 3) rfl w.heap.size rfl 24 (stC s) (0, 0) _ (unhide A1) Tryd.underlying24 rfl size24 ?_; clear tl0 _t)
    | (have _t := tl1; refine wpList_load_row rfl 24 (.tmp 3) rfl w.heap.size rfl 24 (stC s) (0, 0) _ ((unhide A2).alloc _) Tryd.underlying24 rfl size24 ?_; clear tl1 _t)
    | (have _t := tl2; refine wpList_load_row rfl 24 (.tmp 3) rfl w.heap.size rfl 24 (stC s) (0, 0) _ ((unhide A3).alloc _) Tryd.underlying24 rfl size24 ?_; clear tl2 _t)
    | (refine wpList_load_row rfl 24 (.tmp 3) rfl w.heap.size rfl 24 (stC s) (0, 0) _ (unhide A4) Tryd.underlying24 rfl size24 ?_)
    | (go_at_call 17; refine (unhide q17 w1 (unhide b1)).mono ?_; rintro e w2 ⟨rfl, hx⟩
       have b2 : Below w.heap.size w w2 := bl_call (unhide b1) hx
       have A2 : Blk w2 w.heap.size 24 (stC s) := Blk.below (unhide A1) hx (unhide A1).lt
       replace b2 := hide b2; replace A2 := hide A2; clear hx)
    | (go_at_call 18; refine (unhide q18 (w2.alloc (.cells (stC X) 24)) (bl_alloc (unhide b2) _)).mono ?_; rintro e w3 ⟨rfl, hx⟩
       have b3 : Below w.heap.size w w3 := bl_call (bl_alloc (unhide b2) _) hx
       have A3 : Blk w3 w.heap.size 24 (stC s) := Blk.below ((unhide A2).alloc _) hx ((unhide A2).alloc _).lt
       have X3 : Blk w3 w2.heap.size 24 (stC X) := Blk.below (w := w2.alloc (.cells (stC X) 24)) (Blk.new rfl) hx (alloc_lt w2 _)
       replace b3 := hide b3; replace A3 := hide A3; replace X3 := hide X3; clear hx)
    | (go_at_call 19; refine (unhide q19 (w3.alloc (.cells (stC X) 24)) (bl_alloc (unhide b3) _)).mono ?_; rintro e w4 ⟨Aa, ca, rfl, Ba, hx⟩
       have b4 : Below w.heap.size w w4 := bl_call (bl_alloc (unhide b3) _) hx
       have A4 : Blk w4 w.heap.size 24 (stC s) := Blk.below ((unhide A3).alloc _) hx ((unhide A3).alloc _).lt
       have X4 : Blk w4 w2.heap.size 24 (stC X) := Blk.below ((unhide X3).alloc _) hx ((unhide X3).alloc _).lt
       have Y4 : Blk w4 w3.heap.size 24 (stC X) := Blk.below (w := w3.alloc (.cells (stC X) 24)) (Blk.new rfl) hx (alloc_lt w3 _)
       replace b4 := hide b4; replace A4 := hide A4; replace X4 := hide X4; replace Y4 := hide Y4; replace Ba := hide Ba; clear hx)
    | (go_at_call 20; refine (unhide q20 w4 (unhide b4)).mono ?_; rintro e w5 ⟨Ab, cb, rfl, Bb, hx⟩
       have b5 : Below w.heap.size w w5 := bl_call (unhide b4) hx
       have X5 : Blk w5 w2.heap.size 24 (stC X) := Blk.below (unhide X4) hx (unhide X4).lt
       have Y5 : Blk w5 w3.heap.size 24 (stC X) := Blk.below (unhide Y4) hx (unhide Y4).lt
       have Ba5 := Bs.to (unhide Ba) hx
       have R5 := unhide r _ b5
       have cx0 : w5.cell? ⟨w2.heap.size, 0, none⟩ = some (u32v X.a) := X5.cell 0
       have cx1 : w5.cell? ⟨w2.heap.size, 1, none⟩ = some (u32v X.b) := X5.cell 1
       have cx2 : w5.cell? ⟨w2.heap.size, 2, none⟩ = some (u32v X.c) := X5.cell 2
       have cx3 : w5.cell? ⟨w2.heap.size, 3, none⟩ = some (u32v X.d) := X5.cell 3
       have cy0 : w5.cell? ⟨w3.heap.size, 0, none⟩ = some (u32v X.a) := Y5.cell 0
       have cy1 : w5.cell? ⟨w3.heap.size, 1, none⟩ = some (u32v X.b) := Y5.cell 1
       have cy2 : w5.cell? ⟨w3.heap.size, 2, none⟩ = some (u32v X.c) := Y5.cell 2
       have cy3 : w5.cell? ⟨w3.heap.size, 3, none⟩ = some (u32v X.d) := Y5.cell 3
       have kx := X5.lt
       have ky := Y5.lt
       replace b5 := hide b5; replace Ba5 := hide Ba5; replace Bb := hide Bb; clear hx X5 Y5)
    | (go_at_call 14; refine (same_true _ _ _ _ _ _ _ _ w5 (unhide Ba5) (unhide Bb) rfl).mono ?_; rintro e w7 ⟨rfl, rfl⟩)
    | fail)
  go_ret
  exact ⟨rfl, unhide b5⟩
end
theorem takes_law (s : St) (v : Value) (z : Int) (l : List UInt8) (w : World) (ht : Tab w) (h : Bs 0 w.heap.size w v l) :
    Calls Tryd.prog 4 #[stV s, v, .int .i64 z] w fun e w' => e = .returned (.bool true) ∧ Below w.heap.size w w' := by
  obtain ⟨A, c, rfl⟩ : ∃ A c, v = .slice A l.length c := by obtain ⟨A, c, e, _⟩ := id h; exact ⟨A, c, e⟩
  by_cases p0 : (300 : Int) < (l.length : Int)
  · by_cases p1 : (l.length : Int) ≤ 131072
    · exact takes_gate1 s A _ c z w p0 p1
    · by_cases p2 : (131080 : Int) < (l.length : Int)
      · exact takes_gate2 s A _ c z w p0 p1 p2
      · by_cases p3 : (300 : Int) < z
        · by_cases p4 : z ≤ 131072
          · exact takes_gate4 s A _ c z w p0 p1 p2 p3 p4
          · exact takes_main4 s A _ c z l w ht h p0 p1 p2 p3 p4
        · exact takes_main3 s A _ c z l w ht h p0 p1 p2 p3
  · have p2 : ¬ (131080 : Int) < (l.length : Int) := by omega
    by_cases p3 : (300 : Int) < z
    · by_cases p4 : z ≤ 131072
      · exact takes_gate3 s A _ c z w p0 p2 p3 p4
      · exact takes_main2 s A _ c z l w ht h p0 p2 p3 p4
    · exact takes_main1 s A _ c z l w ht h p0 p2 p3
end Go.Proofs.YtdencbdbagikbaaDoor
