import Derived.Test.YtcgfcdbchcehmaaW9
import Derived.Test.YtcgfcdbchcehmaaW10
import Derived.Test.YtcgfcdbchcehmaaW12
namespace Go.Proofs.Ytcgfcdbchcehmaa
open Go.RowKit

theorem crash_any (lo : Nat) (v mv : Value) (d : Dk) (ms : List UInt8) (w : World) (h : Dsk lo w.heap.size w v d) (hm : Bs lo w.heap.size w mv ms) (hL : d.dry.length ≤ 1000000) (hW : d.wet.length ≤ 1000) :
    Calls Try.prog 27 #[v, mv] w fun e w' => ∃ v' E, e = .returned (.tuple #[v', .int .i64 E]) ∧ Dsk w.heap.size w'.heap.size w' v' (crD d ms).1 ∧ E = (crD d ms).2 ∧ Below w.heap.size w w' := by
  cases hq : okD d
  · refine (crash_bad lo v d mv w h hq).mono ?_
    rintro e w' ⟨rfl, hb⟩
    have : crD d ms = (⟨[], [], 0⟩, 1) := by simp [crD, hq]
    rw [this]
    exact ⟨_, _, rfl, noDk_dsk _ _ _, rfl, hb⟩
  · have hm' := hm
    obtain ⟨A, c, rfl, _⟩ := hm'
    refine (crash_good lo v d A c ms w h hm hq hL hW).mono ?_
    rintro e w' ⟨v', rfl, hx, hb⟩
    exact ⟨_, _, rfl, hx, by simp [crD, hq], hb⟩

/-- The example's page. -/
def liveP : List UInt8 := [7, 0, 0, 0, 9, 0, 0, 0, 0, 0, 0, 0, 0, 0, 0, 0, 0, 0, 0, 0, 0, 0, 0, 0, 0, 0, 0, 0, 0, 0, 0, 0]
def liveD1 : Dk := (newD 2).1
def liveD2 : Dk := (wrD liveD1 1 liveP).1
def liveD3 : Dk := (crD liveD2 [1]).1
theorem live_e1 : (newD 2).2 = 0 := by decide
theorem live_e2 : (wrD liveD1 1 liveP).2 = 0 := by decide
theorem live_e3 : (crD liveD2 [1]).2 = 0 := by decide
theorem live_e4 : (rdD liveD3 1).2 = 0 := by decide
theorem live_x : (rdD liveD3 1).1 = [7, 0, 0, 0, 0, 0, 0, 0, 0, 0, 0, 0, 0, 0, 0, 0, 0, 0, 0, 0, 0, 0, 0, 0, 0, 0, 0, 0, 0, 0, 0, 0] := by decide
theorem live_l : liveD1.dry.length = 64 ∧ liveD1.wet.length = 0 ∧ liveD2.dry.length = 64 ∧ liveD2.wet.length = 1 ∧ liveD3.dry.length = 64 ∧ liveD3.wet.length = 0 := by decide

theorem liveP_bs {w : World} {g : Nat} (h : Blk w g 5 (liveP.map u8v).toArray) : Bs 0 w.heap.size w (.slice (some ⟨g, 0, none⟩) 32 32) liveP :=
  ⟨_, 32, rfl, by decide, by omega, fun _ => ⟨g, 0, rfl, Nat.zero_le _, h.lt, fun i hi => by rw [Nat.zero_add, h.cell, List.getElem?_toArray, List.getElem?_map, List.getElem?_eq_getElem hi]; rfl⟩⟩

theorem one_bs {w : World} {g : Nat} (h : Blk w g 5 #[.int .u8 1]) : Bs 0 w.heap.size w (.slice (some ⟨g, 0, none⟩) 1 1) [1] :=
  ⟨_, 1, rfl, by decide, by omega, fun _ => ⟨g, 0, rfl, Nat.zero_le _, h.lt, fun i hi => by
    obtain rfl : i = 0 := by simp at hi; omega
    rw [Nat.zero_add, h.cell]; rfl⟩⟩

set_option maxHeartbeats 4000000 in
theorem live_any (w : World) : Calls Try.prog 9 #[] w fun e w' => e = .returned (.bool true) ∧ Below w.heap.size w w' := by
  obtain ⟨i1, hi1, hy0, hy1, hy2⟩ := info_parts info5b
  have hmk : ∀ W : World, (Instr.makeSlice 22 (.int .i64 32) (.int .i64 32)).run Try.prog W = .ok (.slice (some ⟨W.heap.size, 0, none⟩) 32 32) (W.alloc (.cells #[.int .u8 0, .int .u8 0, .int .u8 0, .int .u8 0, .int .u8 0, .int .u8 0, .int .u8 0, .int .u8 0, .int .u8 0, .int .u8 0, .int .u8 0, .int .u8 0, .int .u8 0, .int .u8 0, .int .u8 0, .int .u8 0, .int .u8 0, .int .u8 0, .int .u8 0, .int .u8 0, .int .u8 0, .int .u8 0, .int .u8 0, .int .u8 0, .int .u8 0, .int .u8 0, .int .u8 0, .int .u8 0, .int .u8 0, .int .u8 0, .int .u8 0, .int .u8 0] 5)) := by
    intro W
    have h := run_mk (P := Try.prog) 22 5 i1 _ 1 Try.underlying22 hi1 hy0 hy1 32 (by rw [hy2]; omega) (by omega) W
    rw [show madeCells (Value.int .u8 0).cells (32 * 1) = #[.int .u8 0, .int .u8 0, .int .u8 0, .int .u8 0, .int .u8 0, .int .u8 0, .int .u8 0, .int .u8 0, .int .u8 0, .int .u8 0, .int .u8 0, .int .u8 0, .int .u8 0, .int .u8 0, .int .u8 0, .int .u8 0, .int .u8 0, .int .u8 0, .int .u8 0, .int .u8 0, .int .u8 0, .int .u8 0, .int .u8 0, .int .u8 0, .int .u8 0, .int .u8 0, .int .u8 0, .int .u8 0, .int .u8 0, .int .u8 0, .int .u8 0, .int .u8 0] from by kernel_rfl] at h
    exact h
  clear hy0 hy1 hy2 hi1
  go_enter Try.func9, Try.ntmps9
  go_wp2_with (first
    | (go_at_call 18; refine (new_any 2 _).mono ?_; rintro e w1 ⟨v1, E, rfl, hd1, hE, hb1⟩
       obtain ⟨A1, c1, A1', c1', rfl⟩ := hd1.form
       obtain rfl : E = 0 := hE.trans live_e1
       clear hE
       have HB1 : Below w.heap.size w w1 := bl_call (by (repeat (first | with_reducible exact Below.refl _ _ | with_reducible assumption | with_reducible refine Below.drew ?_ | with_reducible refine bl_alloc ?_ _ | with_reducible refine bl_call ?_ (by assumption) | (focus (with_reducible refine Below.setCell ?_ ?_ _; rotate_left; focus (first | omega | (simp <;> omega)))) | fail))) hb1
       have kp := hide (Blk.below (g := w.heap.size) (t := 5) (cs := (liveP.map u8v).toArray) (Blk.new rfl) hb1 (by simp))
       have y0 : w.heap.size < w1.heap.size := (unhide kp).lt
       replace hd1 := hide hd1)
    | (go_at_call 12; refine (write_any 0 _ _ liveD1 1 liveP _ (((unhide hd1).below (bl_alloc (Below.refl _ _) _) (Nat.le_refl _)).mono (Nat.zero_le _) (by simp)) (liveP_bs ((unhide kp).alloc _)) (by decide) (by decide)).mono ?_; rintro e w2 ⟨v2, E, rfl, hd2, hE, hb2⟩
       obtain ⟨A2, c2, A2', c2', rfl⟩ := hd2.form
       obtain rfl : E = 0 := hE.trans live_e2
       clear hE
       have HB2 : Below w.heap.size w w2 := bl_call (by (repeat (first | with_reducible exact Below.refl _ _ | with_reducible assumption | with_reducible refine Below.drew ?_ | with_reducible refine bl_alloc ?_ _ | with_reducible refine bl_call ?_ (by assumption) | (focus (with_reducible refine Below.setCell ?_ ?_ _; rotate_left; focus (first | omega | (simp <;> omega)))) | fail))) hb2
       have kd := hide (Blk.below (g := w1.heap.size) (t := 25) (cs := #[.slice A1 (newD 2).1.dry.length c1, .slice A1' (newD 2).1.wet.length c1', .int .i64 (newD 2).1.left]) (Blk.new rfl) hb2 (by simp))
       have y1 : w1.heap.size < w2.heap.size := (unhide kd).lt
       have r0 : w2.cell? ⟨w1.heap.size, 0, none⟩ = _ := (unhide kd).cell 0
       have r1 : w2.cell? ⟨w1.heap.size, 1, none⟩ = _ := (unhide kd).cell 1
       have r2 : w2.cell? ⟨w1.heap.size, 2, none⟩ = _ := (unhide kd).cell 2
       have f0 := (unhide kd).frozen 0; have f1 := (unhide kd).frozen 1; have f2 := (unhide kd).frozen 2
       simp at r0 r1 r2
       replace hd2 := hide hd2)
    | (go_at_call 27; refine (crash_any 0 _ _ liveD2 [1] _ (((unhide hd2).keep ((((Agree.refl _ _ _).setCell (by simp) _).setCell (by simp) _).setCell (by simp) _ |>.alloc (by simp) _)).mono (Nat.zero_le _) (by simp)) (one_bs (Blk.new (by simp))) (by decide) (by decide)).mono ?_; rintro e w3 ⟨v3, E, rfl, hd3, hE, hb3⟩
       obtain ⟨A3, c3, A3', c3', rfl⟩ := hd3.form
       obtain rfl : E = 0 := hE.trans live_e3
       clear hE
       have HB2' : Below w.heap.size w _ := ((HB2.setCell (p := ⟨w1.heap.size, 0, none⟩) HB1.size (.slice A2 (wrD liveD1 1 liveP).1.dry.length c2)).setCell (p := ⟨w1.heap.size, 1, none⟩) HB1.size (.slice A2' (wrD liveD1 1 liveP).1.wet.length c2')).setCell (p := ⟨w1.heap.size, 2, none⟩) HB1.size (.int .i64 (wrD liveD1 1 liveP).1.left)
       have HB3 : Below w.heap.size w w3 := bl_call (bl_alloc HB2' _) hb3
       have kd3 := hide (Blk.below ((unhide kd).set3.alloc _) hb3 (by simp; omega))
       have y2 : w1.heap.size < w3.heap.size := (unhide kd3).lt
       have t0 : w3.cell? ⟨w1.heap.size, 0, none⟩ = _ := (unhide kd3).cell 0
       have t1 : w3.cell? ⟨w1.heap.size, 1, none⟩ = _ := (unhide kd3).cell 1
       have t2 : w3.cell? ⟨w1.heap.size, 2, none⟩ = _ := (unhide kd3).cell 2
       have h0 := (unhide kd3).frozen 0; have h1 := (unhide kd3).frozen 1; have h2 := (unhide kd3).frozen 2
       simp at t0 t1 t2
       replace hd3 := hide hd3)
    | (go_at_call 14; refine (read_any 0 _ liveD3 1 _ (((unhide hd3).keep ((((Agree.refl _ _ _).setCell (by simp; omega) _).setCell (by simp; omega) _).setCell (by simp; omega) _)).mono (Nat.zero_le _) (by simp)) (by decide) (by decide)).mono ?_; rintro e w4 ⟨v4, E, rfl, hx, hE, hb4⟩
       obtain rfl : E = 0 := hE.trans live_e4
       clear hE
       rw [live_x] at hx
       obtain ⟨A4, c4, rfl, x1, x2, x3⟩ := hx
       obtain ⟨b4, o4, rfl, _, _, x4⟩ := x3 (by decide)
       have x5 := x4 0 (by decide)
       have x6 := x4 4 (by decide)
       clear x3 x4
       have HB3' : Below w.heap.size w _ := ((HB3.setCell (p := ⟨w1.heap.size, 0, none⟩) HB1.size (.slice A3 (crD liveD2 [1]).1.dry.length c3)).setCell (p := ⟨w1.heap.size, 1, none⟩) HB1.size (.slice A3' (crD liveD2 [1]).1.wet.length c3')).setCell (p := ⟨w1.heap.size, 2, none⟩) HB1.size (.int .i64 (crD liveD2 [1]).1.left)
       have HB4 : Below w.heap.size w w4 := bl_call HB3' hb4
       simp [u8v] at x5 x6 x1)
    | fail)
  go_ret
  exact ⟨rfl, HB4⟩

end Go.Proofs.Ytcgfcdbchcehmaa
