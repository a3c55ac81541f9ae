import Derived.Test.YtcgfcdbchcehmaaS61
namespace Go.Proofs.Ytcgfcdbchcehmaa
open Go.RowKit

set_option maxRecDepth 100000 in
set_option maxHeartbeats 8000000 in
theorem does_maina (v vo : Value) (d o : Dk) (at_ sec deeds : Int) (Ab : Option Addr) (cb : Nat) (b : List UInt8) (w : World) (h : Dsk 0 w.heap.size w v d) (ho : Dsk 0 w.heap.size w vo o) (hb : Bs 0 w.heap.size w (.slice Ab b.length cb) b)
    (hx : fewB d = true) (hy : fewB o = true) (hbl : b.length ≤ 100) (hs1 : ¬ 200 < sec) :
    Calls Try.prog 3 #[v, vo, .int .i64 at_, .slice Ab b.length cb, .int .i64 sec, .int .i64 deeds] w fun e w' => e = .returned (.bool true) ∧ Below w.heap.size w w' := by
  obtain ⟨fl, fw, fp⟩ := few_parts0 hx
  have hF : ∀ W, Below w.heap.size w W → Calls Try.prog 10 #[v] W fun e w' => e = .returned (.bool true) ∧ Below W.heap.size W w' := fun W hb => by
    have := few_any 0 v d W (h.grow hb); rwa [hx] at this
  have hF' : ∀ W, Below w.heap.size w W → Calls Try.prog 10 #[vo] W fun e w' => e = .returned (.bool true) ∧ Below W.heap.size W w' := fun W hb => by
    have := few_any 0 vo o W (ho.grow hb); rwa [hy] at this
  have h11 := fun W (hB : Below w.heap.size w W) => form_copy (refcopy_any 0 v d W (h.grow hB) fl fw fp)
  have h12 := fun W (hB : Below w.heap.size w W) => form_fix (write_any 0 v _ d at_ b W (h.grow hB) (hb.grow hB) fl fw)
  have h13 := fun W (hB : Below w.heap.size w W) => form_fix (refwrite_any 0 v _ d at_ b W (h.grow hB) (hb.grow hB) fl fw)
  have h14 := fun W (hB : Below w.heap.size w W) => read_own 0 v d at_ W (h.grow hB) fl fw
  have h15 := fun W (hB : Below w.heap.size w W) => form_bs (refread_any 0 v d at_ W (h.grow hB) fl fw)
  have h16 := fun W (hB : Below w.heap.size w W) => sync_own 0 v d W (h.grow hB) fl fw
  have h17 := fun W (hB : Below w.heap.size w W) => form_fix (refsync_any 0 v d W (h.grow hB) fl fw)
  have h18 := fun W => form_fix (new_any sec W)
  have h19 := fun W => form_fix (refnew_any sec W)
  have h20 := fun W (hB : Below w.heap.size w W) => limit_own 0 v d deeds W (h.grow hB) fl fw
  have h21 := fun W (hB : Below w.heap.size w W) => form_fix (reflimit_any 0 v d deeds W (h.grow hB) fl fw)
  have hck := fun W (hB : Below w.heap.size w W) => check_any 0 v d W (h.grow hB)
  have hrck := fun W (hB : Below w.heap.size w W) => refcheck_any 0 v d W (h.grow hB)
  generalize (wrD d at_ b).1 = yW at *
  generalize (wrD d at_ b).2 = eW at *
  generalize (rdD d at_).1 = yR at *
  generalize (rdD d at_).2 = eR at *
  generalize (synD d).1 = yS at *
  generalize (synD d).2 = eS at *
  generalize (newD sec).1 = yN at *
  generalize (newD sec).2 = eN at *
  generalize (limE d deeds).1 = yL at *
  generalize (limE d deeds).2 = eL at *
  generalize badE (okD d) = EE at *
  have hb0 : Dsk 0 w.heap.size w v d := h
  have hb1 : Dsk 0 w.heap.size w vo o := ho
  obtain ⟨A1, c1, A2, c2, rfl⟩ := h.form
  obtain ⟨A3, c3, A4, c4, rfl⟩ := ho.form
  have b4 : ¬ 100 < (b.length : Int) := by omega
  clear h ho hb fl fw fp hx hy hbl
  generalize b.length = nb at *
  replace hF := hide hF; replace hF' := hide hF'; replace h11 := hide h11; replace h12 := hide h12; replace h13 := hide h13; replace h14 := hide h14; replace h15 := hide h15; replace h16 := hide h16; replace h17 := hide h17; replace h18 := hide h18; replace h19 := hide h19; replace h20 := hide h20; replace h21 := hide h21; replace hck := hide hck; replace hrck := hide hrck
  replace hb0 := hide hb0; replace hb1 := hide hb1
  go_enter Try.func3, Try.ntmps3
  obtain ⟨w0, hw0⟩ : ∃ w0, w0 = (w.alloc (.cells #[.slice A1 d.dry.length c1, .slice A2 d.wet.length c2, .int .i64 d.left] 25)).alloc (.cells #[.slice A3 o.dry.length c3, .slice A4 o.wet.length c4, .int .i64 o.left] 25) := ⟨_, rfl⟩
  have X0 : Fx w0 [(w.heap.size, 25, #[.slice A1 d.dry.length c1, .slice A2 d.wet.length c2, .int .i64 d.left]), (w.heap.size + 1, 25, #[.slice A3 o.dry.length c3, .slice A4 o.wet.length c4, .int .i64 o.left])] [(0, w.heap.size, (.agg #[.slice A1 d.dry.length c1, .slice A2 d.wet.length c2, .int .i64 d.left]), d), (0, w.heap.size, (.agg #[.slice A3 o.dry.length c3, .slice A4 o.wet.length c4, .int .i64 o.left]), o)] [] [] [] := by
    rw [hw0]
    exact (((((Fx.nil _).addD (Nat.le_refl _) (unhide hb0)).addD (Nat.le_refl _) (unhide hb1)).alloc _).alloc _).addB ((Blk.new rfl).alloc _) |>.addB (Blk.new (by simp))
  have B0 : Below w.heap.size w w0 := by rw [hw0]; (repeat (first | with_reducible exact Below.refl _ _ | with_reducible assumption | with_reducible refine Below.drew ?_ | with_reducible refine bl_alloc ?_ _ | with_reducible refine bl_call ?_ (by assumption) | (focus (with_reducible refine Below.setCell ?_ ?_ _; rotate_left; focus (first | omega | (simp <;> omega)))) | fail))
  replace X0 := hide X0; replace B0 := hide B0
  have tok1 : True := trivial
  go_upto_region 15 with (first
    | (go_at_call 9; rw [← hw0]; refine (live_any _).mono ?_; rintro e w1 ⟨rfl, hb1⟩
       have X1 := (unhide X0).below hb1
       have B1 := bl_call (unhide B0) hb1
       have x0 := (X1.get 0 rfl).cell 0; have x1 := (X1.get 0 rfl).cell 1; have x2 := (X1.get 0 rfl).cell 2
       simp at x0 x1 x2
       have yx : w.heap.size < w1.heap.size := (X1.get 0 rfl).lt
       have yo : w.heap.size + 1 < w1.heap.size := (X1.get 1 rfl).lt
       have o0 := (X1.get 1 rfl).cell 0; have o1 := (X1.get 1 rfl).cell 1; have o2 := (X1.get 1 rfl).cell 2
       simp at o0 o1 o2
       replace X1 := hide X1; replace B1 := hide B1
       clear hb1)
    | (go_at_call 10; have _t := tok1; refine (unhide hF _ (unhide B1)).mono ?_; clear tok1 _t; rintro e w2 ⟨rfl, hb2⟩
       have X2 := (unhide X1).below hb2
       have B2 := bl_call (unhide B1) hb2
       have x0 := (X2.get 0 rfl).cell 0; have x1 := (X2.get 0 rfl).cell 1; have x2 := (X2.get 0 rfl).cell 2
       simp at x0 x1 x2
       have yx : w.heap.size < w2.heap.size := (X2.get 0 rfl).lt
       have yo : w.heap.size + 1 < w2.heap.size := (X2.get 1 rfl).lt
       have o0 := (X2.get 1 rfl).cell 0; have o1 := (X2.get 1 rfl).cell 1; have o2 := (X2.get 1 rfl).cell 2
       simp at o0 o1 o2
       replace X2 := hide X2; replace B2 := hide B2
       clear hb2)
    | (go_at_call 10; refine (unhide hF' _ (unhide B2)).mono ?_; rintro e w3 ⟨rfl, hb3⟩
       have X3 := (unhide X2).below hb3
       have B3 := bl_call (unhide B2) hb3
       have x0 := (X3.get 0 rfl).cell 0; have x1 := (X3.get 0 rfl).cell 1; have x2 := (X3.get 0 rfl).cell 2
       simp at x0 x1 x2
       have yx : w.heap.size < w3.heap.size := (X3.get 0 rfl).lt
       have yo : w.heap.size + 1 < w3.heap.size := (X3.get 1 rfl).lt
       replace X3 := hide X3; replace B3 := hide B3
       clear hb3)
    | (go_at_call 11; refine (unhide h11 _ (unhide B3)).mono ?_; rintro e w4 ⟨A5, c5, P5, k5, rfl, dd, hb4⟩
       have X4' := ((unhide X3).below hb4).addD (Nat.le_refl _) dd
       have B4' := bl_call (unhide B3) hb4
       have s4 := hb4.size
       replace s4 := hide s4
       have x0 := (X4'.get 0 rfl).cell 0; have x1 := (X4'.get 0 rfl).cell 1; have x2 := (X4'.get 0 rfl).cell 2
       simp at x0 x1 x2
       have yx : w.heap.size < w4.heap.size := (X4'.get 0 rfl).lt
       have yo : w.heap.size + 1 < w4.heap.size := (X4'.get 1 rfl).lt
       have X4 := (X4'.alloc (.cells #[.slice A5 d.dry.length c5, .slice P5 d.wet.length k5, .int .i64 d.left] 25)).addB (Blk.new (w := w4) (g := w4.heap.size) rfl)
       have B4 := B4'.alloc B4'.size (.cells #[.slice A5 d.dry.length c5, .slice P5 d.wet.length k5, .int .i64 d.left] 25)
       replace X4 := hide X4; replace B4 := hide B4
       clear hb4 dd X4' B4')
    | (go_at_call 12; refine (unhide h12 _ (unhide B4)).mono ?_; rintro e w5 ⟨A6, c6, P6, k6, rfl, dd, hb5⟩
       have X5' := ((unhide X4).below hb5).addD (Nat.le_refl _) dd
       have B5' := bl_call (unhide B4) hb5
       have s5 := hb5.size
       replace s5 := hide s5
       have x0 := (X5'.get 0 rfl).cell 0; have x1 := (X5'.get 0 rfl).cell 1; have x2 := (X5'.get 0 rfl).cell 2
       simp at x0 x1 x2
       have yx : w.heap.size < w5.heap.size := (X5'.get 0 rfl).lt
       have yo : w.heap.size + 1 < w5.heap.size := (X5'.get 1 rfl).lt
       have X5 := (X5'.alloc (.cells #[.slice A6 yW.dry.length c6, .slice P6 yW.wet.length k6, .int .i64 yW.left] 25)).addB (Blk.new (w := w5) (g := w5.heap.size) rfl)
       have B5 := B5'.alloc B5'.size (.cells #[.slice A6 yW.dry.length c6, .slice P6 yW.wet.length k6, .int .i64 yW.left] 25)
       replace X5 := hide X5; replace B5 := hide B5
       clear hb5 dd X5' B5')
    | (go_at_call 13; refine (unhide h13 _ (unhide B5)).mono ?_; rintro e w6 ⟨A7, c7, P7, k7, rfl, dd, hb6⟩
       have X6' := ((unhide X5).below hb6).addD (Nat.le_refl _) dd
       have B6' := bl_call (unhide B5) hb6
       have s6 := hb6.size
       replace s6 := hide s6
       have x0 := (X6'.get 0 rfl).cell 0; have x1 := (X6'.get 0 rfl).cell 1; have x2 := (X6'.get 0 rfl).cell 2
       simp at x0 x1 x2
       have yx : w.heap.size < w6.heap.size := (X6'.get 0 rfl).lt
       have yo : w.heap.size + 1 < w6.heap.size := (X6'.get 1 rfl).lt
       have X6 := (X6'.alloc (.cells #[.slice A7 yW.dry.length c7, .slice P7 yW.wet.length k7, .int .i64 yW.left] 25)).addB (Blk.new (w := w6) (g := w6.heap.size) rfl)
       have B6 := B6'.alloc B6'.size (.cells #[.slice A7 yW.dry.length c7, .slice P7 yW.wet.length k7, .int .i64 yW.left] 25)
       replace X6 := hide X6; replace B6 := hide B6
       clear hb6 dd X6' B6')
    | (go_at_call 14; refine (unhide h14 _ (unhide B6)).mono ?_; rintro e w7 ⟨A8, c8, rfl, dd, u8, hb7⟩
       have X7' := (((unhide X6).below hb7).addS (Nat.le_refl _) dd).addU (Nat.le_refl _) u8
       have B7' := bl_call (unhide B6) hb7
       have s7 := hb7.size
       replace s7 := hide s7
       have x0 := (X7'.get 0 rfl).cell 0; have x1 := (X7'.get 0 rfl).cell 1; have x2 := (X7'.get 0 rfl).cell 2
       simp at x0 x1 x2
       have yx : w.heap.size < w7.heap.size := (X7'.get 0 rfl).lt
       have yo : w.heap.size + 1 < w7.heap.size := (X7'.get 1 rfl).lt
       have hLR : yR.length ≤ 9223372036854775807 := by obtain ⟨_, _, e, h1, h2, _⟩ := dd; omega
       replace hLR := hide hLR
       have X7 := X7'
       have B7 := B7'
       replace X7 := hide X7; replace B7 := hide B7
       clear hb7 dd u8 X7' B7')
    | (go_at_call 15; refine (unhide h15 _ (unhide B7)).mono ?_; rintro e w8 ⟨A9, c9, rfl, dd, hb8⟩
       have X8' := ((unhide X7).below hb8).addS (Nat.le_refl _) dd
       have B8' := bl_call (unhide B7) hb8
       have s8 := hb8.size
       replace s8 := hide s8
       have x0 := (X8'.get 0 rfl).cell 0; have x1 := (X8'.get 0 rfl).cell 1; have x2 := (X8'.get 0 rfl).cell 2
       simp at x0 x1 x2
       have yx : w.heap.size < w8.heap.size := (X8'.get 0 rfl).lt
       have yo : w.heap.size + 1 < w8.heap.size := (X8'.get 1 rfl).lt
       have X8 := X8'
       have B8 := B8'
       replace X8 := hide X8; replace B8 := hide B8
       clear hb8 dd X8' B8')
    | (go_at_call 16; refine (unhide h16 _ (unhide B8)).mono ?_; rintro e w9 ⟨A10, c10, P10, k10, rfl, dd, u8, hb9⟩
       have X9' := (((unhide X8).below hb9).addD (Nat.le_refl _) dd).addU (Nat.le_refl _) u8
       have B9' := bl_call (unhide B8) hb9
       have s9 := hb9.size
       replace s9 := hide s9
       have x0 := (X9'.get 0 rfl).cell 0; have x1 := (X9'.get 0 rfl).cell 1; have x2 := (X9'.get 0 rfl).cell 2
       simp at x0 x1 x2
       have yx : w.heap.size < w9.heap.size := (X9'.get 0 rfl).lt
       have yo : w.heap.size + 1 < w9.heap.size := (X9'.get 1 rfl).lt
       have hLS : yS.dry.length ≤ 9223372036854775807 := by obtain ⟨_, _, _, ⟨_, _, _, h1, h2, _⟩, _⟩ := dd; omega
       replace hLS := hide hLS
       have X9 := (X9'.alloc (.cells #[.slice A10 yS.dry.length c10, .slice P10 yS.wet.length k10, .int .i64 yS.left] 25)).addB (Blk.new (w := w9) (g := w9.heap.size) rfl)
       have B9 := B9'.alloc B9'.size (.cells #[.slice A10 yS.dry.length c10, .slice P10 yS.wet.length k10, .int .i64 yS.left] 25)
       replace X9 := hide X9; replace B9 := hide B9
       clear hb9 dd u8 X9' B9')
    | (go_at_call 17; refine (unhide h17 _ (unhide B9)).mono ?_; rintro e w10 ⟨A11, c11, P11, k11, rfl, dd, hb10⟩
       have X10' := ((unhide X9).below hb10).addD (Nat.le_refl _) dd
       have B10' := bl_call (unhide B9) hb10
       have s10 := hb10.size
       replace s10 := hide s10
       have x0 := (X10'.get 0 rfl).cell 0; have x1 := (X10'.get 0 rfl).cell 1; have x2 := (X10'.get 0 rfl).cell 2
       simp at x0 x1 x2
       have yx : w.heap.size < w10.heap.size := (X10'.get 0 rfl).lt
       have yo : w.heap.size + 1 < w10.heap.size := (X10'.get 1 rfl).lt
       have X10 := (X10'.alloc (.cells #[.slice A11 yS.dry.length c11, .slice P11 yS.wet.length k11, .int .i64 yS.left] 25)).addB (Blk.new (w := w10) (g := w10.heap.size) rfl)
       have B10 := B10'.alloc B10'.size (.cells #[.slice A11 yS.dry.length c11, .slice P11 yS.wet.length k11, .int .i64 yS.left] 25)
       replace X10 := hide X10; replace B10 := hide B10
       clear hb10 dd X10' B10')
    | (go_at_call 18; refine (unhide h18 _).mono ?_; rintro e w11 ⟨A12, c12, P12, k12, rfl, dd, hb11⟩
       have X11' := ((unhide X10).below hb11).addD (Nat.le_refl _) dd
       have B11' := bl_call (unhide B10) hb11
       have s11 := hb11.size
       replace s11 := hide s11
       have x0 := (X11'.get 0 rfl).cell 0; have x1 := (X11'.get 0 rfl).cell 1; have x2 := (X11'.get 0 rfl).cell 2
       simp at x0 x1 x2
       have yx : w.heap.size < w11.heap.size := (X11'.get 0 rfl).lt
       have yo : w.heap.size + 1 < w11.heap.size := (X11'.get 1 rfl).lt
       have X11 := (X11'.alloc (.cells #[.slice A12 yN.dry.length c12, .slice P12 yN.wet.length k12, .int .i64 yN.left] 25)).addB (Blk.new (w := w11) (g := w11.heap.size) rfl)
       have B11 := B11'.alloc B11'.size (.cells #[.slice A12 yN.dry.length c12, .slice P12 yN.wet.length k12, .int .i64 yN.left] 25)
       replace X11 := hide X11; replace B11 := hide B11
       clear hb11 dd X11' B11')
    | (go_at_call 19; refine (unhide h19 _).mono ?_; rintro e w12 ⟨A13, c13, P13, k13, rfl, dd, hb12⟩
       have X12' := ((unhide X11).below hb12).addD (Nat.le_refl _) dd
       have B12' := bl_call (unhide B11) hb12
       have s12 := hb12.size
       replace s12 := hide s12
       have x0 := (X12'.get 0 rfl).cell 0; have x1 := (X12'.get 0 rfl).cell 1; have x2 := (X12'.get 0 rfl).cell 2
       simp at x0 x1 x2
       have yx : w.heap.size < w12.heap.size := (X12'.get 0 rfl).lt
       have yo : w.heap.size + 1 < w12.heap.size := (X12'.get 1 rfl).lt
       have X12 := (X12'.alloc (.cells #[.slice A13 yN.dry.length c13, .slice P13 yN.wet.length k13, .int .i64 yN.left] 25)).addB (Blk.new (w := w12) (g := w12.heap.size) rfl)
       have B12 := B12'.alloc B12'.size (.cells #[.slice A13 yN.dry.length c13, .slice P13 yN.wet.length k13, .int .i64 yN.left] 25)
       replace X12 := hide X12; replace B12 := hide B12
       clear hb12 dd X12' B12')
    | (go_at_call 20; refine (unhide h20 _ (unhide B12)).mono ?_; rintro e w13 ⟨A14, c14, P14, k14, rfl, dd, v8, hb13⟩
       have X13' := (((unhide X12).below hb13).addD (Nat.le_refl _) dd).addV (Nat.le_refl _) v8
       have B13' := bl_call (unhide B12) hb13
       have s13 := hb13.size
       replace s13 := hide s13
       have x0 := (X13'.get 0 rfl).cell 0; have x1 := (X13'.get 0 rfl).cell 1; have x2 := (X13'.get 0 rfl).cell 2
       simp at x0 x1 x2
       have yx : w.heap.size < w13.heap.size := (X13'.get 0 rfl).lt
       have yo : w.heap.size + 1 < w13.heap.size := (X13'.get 1 rfl).lt
       have hLL : yL.wet.length ≤ 9223372036854775807 := by obtain ⟨_, _, _, _, ⟨_, _, _, h1, h2, _⟩⟩ := dd; omega
       replace hLL := hide hLL
       have X13 := (X13'.alloc (.cells #[.slice A14 yL.dry.length c14, .slice P14 yL.wet.length k14, .int .i64 yL.left] 25)).addB (Blk.new (w := w13) (g := w13.heap.size) rfl)
       have B13 := B13'.alloc B13'.size (.cells #[.slice A14 yL.dry.length c14, .slice P14 yL.wet.length k14, .int .i64 yL.left] 25)
       replace X13 := hide X13; replace B13 := hide B13
       clear hb13 dd v8 X13' B13')
    | (go_at_call 21; refine (unhide h21 _ (unhide B13)).mono ?_; rintro e w14 ⟨A15, c15, P15, k15, rfl, dd, hb14⟩
       have X14' := ((unhide X13).below hb14).addD (Nat.le_refl _) dd
       have B14' := bl_call (unhide B13) hb14
       have s14 := hb14.size
       replace s14 := hide s14
       have x0 := (X14'.get 0 rfl).cell 0; have x1 := (X14'.get 0 rfl).cell 1; have x2 := (X14'.get 0 rfl).cell 2
       simp at x0 x1 x2
       have yx : w.heap.size < w14.heap.size := (X14'.get 0 rfl).lt
       have yo : w.heap.size + 1 < w14.heap.size := (X14'.get 1 rfl).lt
       have X14 := (X14'.alloc (.cells #[.slice A15 yL.dry.length c15, .slice P15 yL.wet.length k15, .int .i64 yL.left] 25)).addB (Blk.new (w := w14) (g := w14.heap.size) rfl)
       have B14 := B14'.alloc B14'.size (.cells #[.slice A15 yL.dry.length c15, .slice P15 yL.wet.length k15, .int .i64 yL.left] 25)
       replace X14 := hide X14; replace B14 := hide B14
       clear hb14 dd X14' B14')
    | fail)
  clear x0 x1 x2 yx yo
  have hsx := fun W (h1 : Dsk 0 W.heap.size W (.agg #[.slice A1 d.dry.length c1, .slice A2 d.wet.length c2, .int .i64 d.left]) d) (h2 : Dsk 0 W.heap.size W (.agg #[.slice A3 o.dry.length c3, .slice A4 o.wet.length c4, .int .i64 o.left]) o) => same_any 0 0 _ _ d o W h1 h2
  have hsy := fun W (h1 : Dsk 0 W.heap.size W (.agg #[.slice A1 d.dry.length c1, .slice A2 d.wet.length c2, .int .i64 d.left]) d) (h2 : Dsk 0 W.heap.size W (.agg #[.slice A3 o.dry.length c3, .slice A4 o.wet.length c4, .int .i64 o.left]) o) => refsame_any 0 0 _ _ d o W h1 h2
  have h22 := fun (y : Dk) l l' v v' W (h1 : Dsk l W.heap.size W v y) (h2 : Dsk l' W.heap.size W v' y) => (refsame_any l l' v v' y y W h1 h2).mono fun _ _ h => (by rwa [show sameD y y = true by simp [sameD]] at h : _ = Ending.returned (.bool true) ∧ Below W.heap.size W _)
  have h23 := fun lo hi lo' hi' v v' (y : List UInt8) W (h1 : Bs lo hi W v y) (h2 : Bs lo' hi' W v' y) => sameb_true lo hi lo' hi' v v' y W h1 h2
  generalize sameD d o = SB at *
  replace hsx := hide hsx; replace hsy := hide hsy; replace h22 := hide h22; replace h23 := hide h23
  generalize w14.alloc (.cells #[.slice A15 yL.dry.length c15, .slice P15 yL.wet.length k15, .int .i64 yL.left] 25) = w15 at *
  have X15 := X14; have B15' := B14
  clear X14 B14
  have d0 := ((unhide X15).get 0 rfl).cell 0; have d1 := ((unhide X15).get 0 rfl).cell 1; have d2 := ((unhide X15).get 0 rfl).cell 2; have l0 := ((unhide X15).get 0 rfl).lt
  have d3 := ((unhide X15).get 1 rfl).cell 0; have d4 := ((unhide X15).get 1 rfl).cell 1; have d5 := ((unhide X15).get 1 rfl).cell 2; have l1 := ((unhide X15).get 1 rfl).lt
  have d6 := ((unhide X15).get 3 rfl).cell 0; have d7 := ((unhide X15).get 3 rfl).cell 1; have d8 := ((unhide X15).get 3 rfl).cell 2; have l2 := ((unhide X15).get 3 rfl).lt
  have d9 := ((unhide X15).get 4 rfl).cell 0; have d10 := ((unhide X15).get 4 rfl).cell 1; have d11 := ((unhide X15).get 4 rfl).cell 2; have l3 := ((unhide X15).get 4 rfl).lt
  have d12 := ((unhide X15).get 5 rfl).cell 0; have d13 := ((unhide X15).get 5 rfl).cell 1; have d14 := ((unhide X15).get 5 rfl).cell 2; have l4 := ((unhide X15).get 5 rfl).lt
  have d15 := ((unhide X15).get 6 rfl).cell 0; have d16 := ((unhide X15).get 6 rfl).cell 1; have d17 := ((unhide X15).get 6 rfl).cell 2; have l5 := ((unhide X15).get 6 rfl).lt
  have d18 := ((unhide X15).get 7 rfl).cell 0; have d19 := ((unhide X15).get 7 rfl).cell 1; have d20 := ((unhide X15).get 7 rfl).cell 2; have l6 := ((unhide X15).get 7 rfl).lt
  have d21 := ((unhide X15).get 8 rfl).cell 0; have d22 := ((unhide X15).get 8 rfl).cell 1; have d23 := ((unhide X15).get 8 rfl).cell 2; have l7 := ((unhide X15).get 8 rfl).lt
  have d24 := ((unhide X15).get 9 rfl).cell 0; have d25 := ((unhide X15).get 9 rfl).cell 1; have d26 := ((unhide X15).get 9 rfl).cell 2; have l8 := ((unhide X15).get 9 rfl).lt
  have d27 := ((unhide X15).get 10 rfl).cell 0; have d28 := ((unhide X15).get 10 rfl).cell 1; have d29 := ((unhide X15).get 10 rfl).cell 2; have l9 := ((unhide X15).get 10 rfl).lt
  simp at d0 d1 d2 d3 d4 d5 d6 d7 d8 d9 d10 d11 d12 d13 d14 d15 d16 d17 d18 d19 d20 d21 d22 d23 d24 d25 d26 d27 d28 d29
  have tok1 : True := trivial; have tok2 : True := trivial; have tok3 : True := trivial; have tok4 : True := trivial
  go_cut [35] (fun s35 wc => s35 = .bool true ∧ Hid (Fx wc [(w.heap.size, 25, #[.slice A1 d.dry.length c1, .slice A2 d.wet.length c2, .int .i64 d.left]), (w4.heap.size, 25, #[.slice A5 d.dry.length c5, .slice P5 d.wet.length k5, .int .i64 d.left]), (w9.heap.size, 25, #[.slice A10 yS.dry.length c10, .slice P10 yS.wet.length k10, .int .i64 yS.left]), (w13.heap.size, 25, #[.slice A14 yL.dry.length c14, .slice P14 yL.wet.length k14, .int .i64 yL.left])] [(0, w.heap.size, (.agg #[.slice A1 d.dry.length c1, .slice A2 d.wet.length c2, .int .i64 d.left]), d), (w3.heap.size, w4.heap.size, (.agg #[.slice A5 d.dry.length c5, .slice P5 d.wet.length k5, .int .i64 d.left]), d)] [] [((w6.alloc (.cells #[.slice A7 yW.dry.length c7, .slice P7 yW.wet.length k7, .int .i64 yW.left] 25)).heap.size, w7.heap.size, A8, yR.length), (w8.heap.size, w9.heap.size, A10, yS.dry.length)] [((w12.alloc (.cells #[.slice A13 yN.dry.length c13, .slice P13 yN.wet.length k13, .int .i64 yN.left] 25)).heap.size, w13.heap.size, P14, yL.wet.length)]) ∧ Hid (Below w.heap.size w wc))
  case first =>
    simp only [List.append]
    go_region_held3 (fun W => W.cell? ⟨w.heap.size, 0, none⟩ = some (.slice A1 d.dry.length c1) ∧ W.cell? ⟨w.heap.size, 1, none⟩ = some (.slice A2 d.wet.length c2) ∧ W.cell? ⟨w.heap.size, 2, none⟩ = some (.int .i64 d.left) ∧ W.cell? ⟨(w.heap.size + 1), 0, none⟩ = some (.slice A3 o.dry.length c3) ∧ W.cell? ⟨(w.heap.size + 1), 1, none⟩ = some (.slice A4 o.wet.length c4) ∧ W.cell? ⟨(w.heap.size + 1), 2, none⟩ = some (.int .i64 o.left) ∧ W.cell? ⟨w5.heap.size, 0, none⟩ = some (.slice A6 yW.dry.length c6) ∧ W.cell? ⟨w5.heap.size, 1, none⟩ = some (.slice P6 yW.wet.length k6) ∧ W.cell? ⟨w5.heap.size, 2, none⟩ = some (.int .i64 yW.left) ∧ W.cell? ⟨w6.heap.size, 0, none⟩ = some (.slice A7 yW.dry.length c7) ∧ W.cell? ⟨w6.heap.size, 1, none⟩ = some (.slice P7 yW.wet.length k7) ∧ W.cell? ⟨w6.heap.size, 2, none⟩ = some (.int .i64 yW.left) ∧ W.cell? ⟨w9.heap.size, 0, none⟩ = some (.slice A10 yS.dry.length c10) ∧ W.cell? ⟨w9.heap.size, 1, none⟩ = some (.slice P10 yS.wet.length k10) ∧ W.cell? ⟨w9.heap.size, 2, none⟩ = some (.int .i64 yS.left) ∧ W.cell? ⟨w10.heap.size, 0, none⟩ = some (.slice A11 yS.dry.length c11) ∧ W.cell? ⟨w10.heap.size, 1, none⟩ = some (.slice P11 yS.wet.length k11) ∧ W.cell? ⟨w10.heap.size, 2, none⟩ = some (.int .i64 yS.left) ∧ W.cell? ⟨w11.heap.size, 0, none⟩ = some (.slice A12 yN.dry.length c12) ∧ W.cell? ⟨w11.heap.size, 1, none⟩ = some (.slice P12 yN.wet.length k12) ∧ W.cell? ⟨w11.heap.size, 2, none⟩ = some (.int .i64 yN.left) ∧ W.cell? ⟨w12.heap.size, 0, none⟩ = some (.slice A13 yN.dry.length c13) ∧ W.cell? ⟨w12.heap.size, 1, none⟩ = some (.slice P13 yN.wet.length k13) ∧ W.cell? ⟨w12.heap.size, 2, none⟩ = some (.int .i64 yN.left) ∧ W.cell? ⟨w13.heap.size, 0, none⟩ = some (.slice A14 yL.dry.length c14) ∧ W.cell? ⟨w13.heap.size, 1, none⟩ = some (.slice P14 yL.wet.length k14) ∧ W.cell? ⟨w13.heap.size, 2, none⟩ = some (.int .i64 yL.left) ∧ W.cell? ⟨w14.heap.size, 0, none⟩ = some (.slice A15 yL.dry.length c15) ∧ W.cell? ⟨w14.heap.size, 1, none⟩ = some (.slice P15 yL.wet.length k15) ∧ W.cell? ⟨w14.heap.size, 2, none⟩ = some (.int .i64 yL.left)) (first | exact ⟨by with_reducible assumption, by with_reducible assumption, by with_reducible assumption, by with_reducible assumption, by with_reducible assumption, by with_reducible assumption, by with_reducible assumption, by with_reducible assumption, by with_reducible assumption, by with_reducible assumption, by with_reducible assumption, by with_reducible assumption, by with_reducible assumption, by with_reducible assumption, by with_reducible assumption, by with_reducible assumption, by with_reducible assumption, by with_reducible assumption, by with_reducible assumption, by with_reducible assumption, by with_reducible assumption, by with_reducible assumption, by with_reducible assumption, by with_reducible assumption, by with_reducible assumption, by with_reducible assumption, by with_reducible assumption, by with_reducible assumption, by with_reducible assumption, by with_reducible assumption⟩ | exact ⟨by go_simp, by go_simp, by go_simp, by go_simp, by go_simp, by go_simp, by go_simp, by go_simp, by go_simp, by go_simp, by go_simp, by go_simp, by go_simp, by go_simp, by go_simp, by go_simp, by go_simp, by go_simp, by go_simp, by go_simp, by go_simp, by go_simp, by go_simp, by go_simp, by go_simp, by go_simp, by go_simp, by go_simp, by go_simp, by go_simp⟩)
      (first
        | (go_at_call 22; have _t := tok1; clear tok1 _t; refine (unhide h22 yW _ _ _ _ _ (((unhide X15).drew).dr 3 rfl) (((unhide X15).drew).dr 4 rfl)).mono ?_; rintro e w16 ⟨rfl, hb16⟩
           have X16 := Fx.below ((unhide X15).drew) hb16
           have Z16 := bl_call ((unhide B15').drew) hb16
           have r16_0 := (X16.get 0 rfl).cell 0; have r16_1 := (X16.get 0 rfl).cell 1; have r16_2 := (X16.get 0 rfl).cell 2
           have r16_3 := (X16.get 1 rfl).cell 0; have r16_4 := (X16.get 1 rfl).cell 1; have r16_5 := (X16.get 1 rfl).cell 2
           have r16_6 := (X16.get 3 rfl).cell 0; have r16_7 := (X16.get 3 rfl).cell 1; have r16_8 := (X16.get 3 rfl).cell 2
           have r16_9 := (X16.get 4 rfl).cell 0; have r16_10 := (X16.get 4 rfl).cell 1; have r16_11 := (X16.get 4 rfl).cell 2
           have r16_12 := (X16.get 5 rfl).cell 0; have r16_13 := (X16.get 5 rfl).cell 1; have r16_14 := (X16.get 5 rfl).cell 2
           have r16_15 := (X16.get 6 rfl).cell 0; have r16_16 := (X16.get 6 rfl).cell 1; have r16_17 := (X16.get 6 rfl).cell 2
           have r16_18 := (X16.get 7 rfl).cell 0; have r16_19 := (X16.get 7 rfl).cell 1; have r16_20 := (X16.get 7 rfl).cell 2
           have r16_21 := (X16.get 8 rfl).cell 0; have r16_22 := (X16.get 8 rfl).cell 1; have r16_23 := (X16.get 8 rfl).cell 2
           have r16_24 := (X16.get 9 rfl).cell 0; have r16_25 := (X16.get 9 rfl).cell 1; have r16_26 := (X16.get 9 rfl).cell 2
           have r16_27 := (X16.get 10 rfl).cell 0; have r16_28 := (X16.get 10 rfl).cell 1; have r16_29 := (X16.get 10 rfl).cell 2
           simp at r16_0 r16_1 r16_2 r16_3 r16_4 r16_5 r16_6 r16_7 r16_8 r16_9 r16_10 r16_11 r16_12 r16_13 r16_14 r16_15 r16_16 r16_17 r16_18 r16_19 r16_20 r16_21 r16_22 r16_23 r16_24 r16_25 r16_26 r16_27 r16_28 r16_29
           replace X16 := hide X16; replace Z16 := hide Z16
           clear hb16)
        | (go_at_call 23; refine (unhide h23 _ _ _ _ _ _ yR _ ((unhide X16).br 0 rfl) ((unhide X16).br 1 rfl)).mono ?_; rintro e w99 ⟨rfl, rfl⟩)
        | (go_at_call 22; have _t := tok2; clear tok2 _t; refine (unhide h22 yS _ _ _ _ _ (((unhide X16)).dr 5 rfl) (((unhide X16)).dr 6 rfl)).mono ?_; rintro e w17 ⟨rfl, hb17⟩
           have X17 := Fx.below ((unhide X16)) hb17
           have Z17 := bl_call ((unhide Z16)) hb17
           have r17_0 := (X17.get 0 rfl).cell 0; have r17_1 := (X17.get 0 rfl).cell 1; have r17_2 := (X17.get 0 rfl).cell 2
           have r17_3 := (X17.get 1 rfl).cell 0; have r17_4 := (X17.get 1 rfl).cell 1; have r17_5 := (X17.get 1 rfl).cell 2
           have r17_6 := (X17.get 3 rfl).cell 0; have r17_7 := (X17.get 3 rfl).cell 1; have r17_8 := (X17.get 3 rfl).cell 2
           have r17_9 := (X17.get 4 rfl).cell 0; have r17_10 := (X17.get 4 rfl).cell 1; have r17_11 := (X17.get 4 rfl).cell 2
           have r17_12 := (X17.get 5 rfl).cell 0; have r17_13 := (X17.get 5 rfl).cell 1; have r17_14 := (X17.get 5 rfl).cell 2
           have r17_15 := (X17.get 6 rfl).cell 0; have r17_16 := (X17.get 6 rfl).cell 1; have r17_17 := (X17.get 6 rfl).cell 2
           have r17_18 := (X17.get 7 rfl).cell 0; have r17_19 := (X17.get 7 rfl).cell 1; have r17_20 := (X17.get 7 rfl).cell 2
           have r17_21 := (X17.get 8 rfl).cell 0; have r17_22 := (X17.get 8 rfl).cell 1; have r17_23 := (X17.get 8 rfl).cell 2
           have r17_24 := (X17.get 9 rfl).cell 0; have r17_25 := (X17.get 9 rfl).cell 1; have r17_26 := (X17.get 9 rfl).cell 2
           have r17_27 := (X17.get 10 rfl).cell 0; have r17_28 := (X17.get 10 rfl).cell 1; have r17_29 := (X17.get 10 rfl).cell 2
           simp at r17_0 r17_1 r17_2 r17_3 r17_4 r17_5 r17_6 r17_7 r17_8 r17_9 r17_10 r17_11 r17_12 r17_13 r17_14 r17_15 r17_16 r17_17 r17_18 r17_19 r17_20 r17_21 r17_22 r17_23 r17_24 r17_25 r17_26 r17_27 r17_28 r17_29
           replace X17 := hide X17; replace Z17 := hide Z17
           clear hb17)
        | (go_at_call 22; have _t := tok3; clear tok3 _t; refine (unhide h22 yN _ _ _ _ _ (((unhide X17)).dr 7 rfl) (((unhide X17)).dr 8 rfl)).mono ?_; rintro e w18 ⟨rfl, hb18⟩
           have X18 := Fx.below ((unhide X17)) hb18
           have Z18 := bl_call ((unhide Z17)) hb18
           have r18_0 := (X18.get 0 rfl).cell 0; have r18_1 := (X18.get 0 rfl).cell 1; have r18_2 := (X18.get 0 rfl).cell 2
           have r18_3 := (X18.get 1 rfl).cell 0; have r18_4 := (X18.get 1 rfl).cell 1; have r18_5 := (X18.get 1 rfl).cell 2
           have r18_6 := (X18.get 3 rfl).cell 0; have r18_7 := (X18.get 3 rfl).cell 1; have r18_8 := (X18.get 3 rfl).cell 2
           have r18_9 := (X18.get 4 rfl).cell 0; have r18_10 := (X18.get 4 rfl).cell 1; have r18_11 := (X18.get 4 rfl).cell 2
           have r18_12 := (X18.get 5 rfl).cell 0; have r18_13 := (X18.get 5 rfl).cell 1; have r18_14 := (X18.get 5 rfl).cell 2
           have r18_15 := (X18.get 6 rfl).cell 0; have r18_16 := (X18.get 6 rfl).cell 1; have r18_17 := (X18.get 6 rfl).cell 2
           have r18_18 := (X18.get 7 rfl).cell 0; have r18_19 := (X18.get 7 rfl).cell 1; have r18_20 := (X18.get 7 rfl).cell 2
           have r18_21 := (X18.get 8 rfl).cell 0; have r18_22 := (X18.get 8 rfl).cell 1; have r18_23 := (X18.get 8 rfl).cell 2
           have r18_24 := (X18.get 9 rfl).cell 0; have r18_25 := (X18.get 9 rfl).cell 1; have r18_26 := (X18.get 9 rfl).cell 2
           have r18_27 := (X18.get 10 rfl).cell 0; have r18_28 := (X18.get 10 rfl).cell 1; have r18_29 := (X18.get 10 rfl).cell 2
           simp at r18_0 r18_1 r18_2 r18_3 r18_4 r18_5 r18_6 r18_7 r18_8 r18_9 r18_10 r18_11 r18_12 r18_13 r18_14 r18_15 r18_16 r18_17 r18_18 r18_19 r18_20 r18_21 r18_22 r18_23 r18_24 r18_25 r18_26 r18_27 r18_28 r18_29
           replace X18 := hide X18; replace Z18 := hide Z18
           clear hb18)
        | (go_at_call 22; have _t := tok4; clear tok4 _t; refine (unhide h22 yL _ _ _ _ _ (((unhide X18)).dr 9 rfl) (((unhide X18)).dr 10 rfl)).mono ?_; rintro e w19 ⟨rfl, hb19⟩
           have X19 := Fx.below ((unhide X18)) hb19
           have Z19 := bl_call ((unhide Z18)) hb19
           have r19_0 := (X19.get 0 rfl).cell 0; have r19_1 := (X19.get 0 rfl).cell 1; have r19_2 := (X19.get 0 rfl).cell 2
           have r19_3 := (X19.get 1 rfl).cell 0; have r19_4 := (X19.get 1 rfl).cell 1; have r19_5 := (X19.get 1 rfl).cell 2
           have r19_6 := (X19.get 3 rfl).cell 0; have r19_7 := (X19.get 3 rfl).cell 1; have r19_8 := (X19.get 3 rfl).cell 2
           have r19_9 := (X19.get 4 rfl).cell 0; have r19_10 := (X19.get 4 rfl).cell 1; have r19_11 := (X19.get 4 rfl).cell 2
           have r19_12 := (X19.get 5 rfl).cell 0; have r19_13 := (X19.get 5 rfl).cell 1; have r19_14 := (X19.get 5 rfl).cell 2
           have r19_15 := (X19.get 6 rfl).cell 0; have r19_16 := (X19.get 6 rfl).cell 1; have r19_17 := (X19.get 6 rfl).cell 2
           have r19_18 := (X19.get 7 rfl).cell 0; have r19_19 := (X19.get 7 rfl).cell 1; have r19_20 := (X19.get 7 rfl).cell 2
           have r19_21 := (X19.get 8 rfl).cell 0; have r19_22 := (X19.get 8 rfl).cell 1; have r19_23 := (X19.get 8 rfl).cell 2
           have r19_24 := (X19.get 9 rfl).cell 0; have r19_25 := (X19.get 9 rfl).cell 1; have r19_26 := (X19.get 9 rfl).cell 2
           have r19_27 := (X19.get 10 rfl).cell 0; have r19_28 := (X19.get 10 rfl).cell 1; have r19_29 := (X19.get 10 rfl).cell 2
           simp at r19_0 r19_1 r19_2 r19_3 r19_4 r19_5 r19_6 r19_7 r19_8 r19_9 r19_10 r19_11 r19_12 r19_13 r19_14 r19_15 r19_16 r19_17 r19_18 r19_19 r19_20 r19_21 r19_22 r19_23 r19_24 r19_25 r19_26 r19_27 r19_28 r19_29
           replace X19 := hide X19; replace Z19 := hide Z19
           clear hb19)
        | (go_at_call 24; refine (unhide hck _ ((unhide Z19))).mono ?_; rintro e w20 ⟨rfl, hb20⟩
           have X20 := Fx.below ((unhide X19)) hb20
           have Z20 := bl_call ((unhide Z19)) hb20
           have r20_0 := (X20.get 0 rfl).cell 0; have r20_1 := (X20.get 0 rfl).cell 1; have r20_2 := (X20.get 0 rfl).cell 2
           have r20_3 := (X20.get 1 rfl).cell 0; have r20_4 := (X20.get 1 rfl).cell 1; have r20_5 := (X20.get 1 rfl).cell 2
           have r20_6 := (X20.get 3 rfl).cell 0; have r20_7 := (X20.get 3 rfl).cell 1; have r20_8 := (X20.get 3 rfl).cell 2
           have r20_9 := (X20.get 4 rfl).cell 0; have r20_10 := (X20.get 4 rfl).cell 1; have r20_11 := (X20.get 4 rfl).cell 2
           have r20_12 := (X20.get 5 rfl).cell 0; have r20_13 := (X20.get 5 rfl).cell 1; have r20_14 := (X20.get 5 rfl).cell 2
           have r20_15 := (X20.get 6 rfl).cell 0; have r20_16 := (X20.get 6 rfl).cell 1; have r20_17 := (X20.get 6 rfl).cell 2
           have r20_18 := (X20.get 7 rfl).cell 0; have r20_19 := (X20.get 7 rfl).cell 1; have r20_20 := (X20.get 7 rfl).cell 2
           have r20_21 := (X20.get 8 rfl).cell 0; have r20_22 := (X20.get 8 rfl).cell 1; have r20_23 := (X20.get 8 rfl).cell 2
           have r20_24 := (X20.get 9 rfl).cell 0; have r20_25 := (X20.get 9 rfl).cell 1; have r20_26 := (X20.get 9 rfl).cell 2
           have r20_27 := (X20.get 10 rfl).cell 0; have r20_28 := (X20.get 10 rfl).cell 1; have r20_29 := (X20.get 10 rfl).cell 2
           simp at r20_0 r20_1 r20_2 r20_3 r20_4 r20_5 r20_6 r20_7 r20_8 r20_9 r20_10 r20_11 r20_12 r20_13 r20_14 r20_15 r20_16 r20_17 r20_18 r20_19 r20_20 r20_21 r20_22 r20_23 r20_24 r20_25 r20_26 r20_27 r20_28 r20_29
           replace X20 := hide X20; replace Z20 := hide Z20
           clear hb20)
        | (go_at_call 25; refine (unhide hrck _ ((unhide Z20))).mono ?_; rintro e w21 ⟨rfl, hb21⟩
           have X21 := Fx.below ((unhide X20)) hb21
           have Z21 := bl_call ((unhide Z20)) hb21
           have r21_0 := (X21.get 0 rfl).cell 0; have r21_1 := (X21.get 0 rfl).cell 1; have r21_2 := (X21.get 0 rfl).cell 2
           have r21_3 := (X21.get 1 rfl).cell 0; have r21_4 := (X21.get 1 rfl).cell 1; have r21_5 := (X21.get 1 rfl).cell 2
           have r21_6 := (X21.get 3 rfl).cell 0; have r21_7 := (X21.get 3 rfl).cell 1; have r21_8 := (X21.get 3 rfl).cell 2
           have r21_9 := (X21.get 4 rfl).cell 0; have r21_10 := (X21.get 4 rfl).cell 1; have r21_11 := (X21.get 4 rfl).cell 2
           have r21_12 := (X21.get 5 rfl).cell 0; have r21_13 := (X21.get 5 rfl).cell 1; have r21_14 := (X21.get 5 rfl).cell 2
           have r21_15 := (X21.get 6 rfl).cell 0; have r21_16 := (X21.get 6 rfl).cell 1; have r21_17 := (X21.get 6 rfl).cell 2
           have r21_18 := (X21.get 7 rfl).cell 0; have r21_19 := (X21.get 7 rfl).cell 1; have r21_20 := (X21.get 7 rfl).cell 2
           have r21_21 := (X21.get 8 rfl).cell 0; have r21_22 := (X21.get 8 rfl).cell 1; have r21_23 := (X21.get 8 rfl).cell 2
           have r21_24 := (X21.get 9 rfl).cell 0; have r21_25 := (X21.get 9 rfl).cell 1; have r21_26 := (X21.get 9 rfl).cell 2
           have r21_27 := (X21.get 10 rfl).cell 0; have r21_28 := (X21.get 10 rfl).cell 1; have r21_29 := (X21.get 10 rfl).cell 2
           simp at r21_0 r21_1 r21_2 r21_3 r21_4 r21_5 r21_6 r21_7 r21_8 r21_9 r21_10 r21_11 r21_12 r21_13 r21_14 r21_15 r21_16 r21_17 r21_18 r21_19 r21_20 r21_21 r21_22 r21_23 r21_24 r21_25 r21_26 r21_27 r21_28 r21_29
           replace X21 := hide X21; replace Z21 := hide Z21
           clear hb21)
        | (go_at_call 26; refine (unhide hsx _ (((unhide X21)).dr 0 rfl) (((unhide X21)).dr 1 rfl)).mono ?_; rintro e w22 ⟨rfl, hb22⟩
           have X22 := Fx.below ((unhide X21)) hb22
           have Z22 := bl_call ((unhide Z21)) hb22
           have r22_0 := (X22.get 0 rfl).cell 0; have r22_1 := (X22.get 0 rfl).cell 1; have r22_2 := (X22.get 0 rfl).cell 2
           have r22_3 := (X22.get 1 rfl).cell 0; have r22_4 := (X22.get 1 rfl).cell 1; have r22_5 := (X22.get 1 rfl).cell 2
           have r22_6 := (X22.get 3 rfl).cell 0; have r22_7 := (X22.get 3 rfl).cell 1; have r22_8 := (X22.get 3 rfl).cell 2
           have r22_9 := (X22.get 4 rfl).cell 0; have r22_10 := (X22.get 4 rfl).cell 1; have r22_11 := (X22.get 4 rfl).cell 2
           have r22_12 := (X22.get 5 rfl).cell 0; have r22_13 := (X22.get 5 rfl).cell 1; have r22_14 := (X22.get 5 rfl).cell 2
           have r22_15 := (X22.get 6 rfl).cell 0; have r22_16 := (X22.get 6 rfl).cell 1; have r22_17 := (X22.get 6 rfl).cell 2
           have r22_18 := (X22.get 7 rfl).cell 0; have r22_19 := (X22.get 7 rfl).cell 1; have r22_20 := (X22.get 7 rfl).cell 2
           have r22_21 := (X22.get 8 rfl).cell 0; have r22_22 := (X22.get 8 rfl).cell 1; have r22_23 := (X22.get 8 rfl).cell 2
           have r22_24 := (X22.get 9 rfl).cell 0; have r22_25 := (X22.get 9 rfl).cell 1; have r22_26 := (X22.get 9 rfl).cell 2
           have r22_27 := (X22.get 10 rfl).cell 0; have r22_28 := (X22.get 10 rfl).cell 1; have r22_29 := (X22.get 10 rfl).cell 2
           simp at r22_0 r22_1 r22_2 r22_3 r22_4 r22_5 r22_6 r22_7 r22_8 r22_9 r22_10 r22_11 r22_12 r22_13 r22_14 r22_15 r22_16 r22_17 r22_18 r22_19 r22_20 r22_21 r22_22 r22_23 r22_24 r22_25 r22_26 r22_27 r22_28 r22_29
           replace X22 := hide X22; replace Z22 := hide Z22
           clear hb22)
        | (go_at_call 22; refine (unhide hsy _ (((unhide X22)).dr 0 rfl) (((unhide X22)).dr 1 rfl)).mono ?_; rintro e w23 ⟨rfl, hb23⟩
           have X23 := Fx.below ((unhide X22)) hb23
           have Z23 := bl_call ((unhide Z22)) hb23
           have r23_0 := (X23.get 0 rfl).cell 0; have r23_1 := (X23.get 0 rfl).cell 1; have r23_2 := (X23.get 0 rfl).cell 2
           have r23_3 := (X23.get 1 rfl).cell 0; have r23_4 := (X23.get 1 rfl).cell 1; have r23_5 := (X23.get 1 rfl).cell 2
           have r23_6 := (X23.get 3 rfl).cell 0; have r23_7 := (X23.get 3 rfl).cell 1; have r23_8 := (X23.get 3 rfl).cell 2
           have r23_9 := (X23.get 4 rfl).cell 0; have r23_10 := (X23.get 4 rfl).cell 1; have r23_11 := (X23.get 4 rfl).cell 2
           have r23_12 := (X23.get 5 rfl).cell 0; have r23_13 := (X23.get 5 rfl).cell 1; have r23_14 := (X23.get 5 rfl).cell 2
           have r23_15 := (X23.get 6 rfl).cell 0; have r23_16 := (X23.get 6 rfl).cell 1; have r23_17 := (X23.get 6 rfl).cell 2
           have r23_18 := (X23.get 7 rfl).cell 0; have r23_19 := (X23.get 7 rfl).cell 1; have r23_20 := (X23.get 7 rfl).cell 2
           have r23_21 := (X23.get 8 rfl).cell 0; have r23_22 := (X23.get 8 rfl).cell 1; have r23_23 := (X23.get 8 rfl).cell 2
           have r23_24 := (X23.get 9 rfl).cell 0; have r23_25 := (X23.get 9 rfl).cell 1; have r23_26 := (X23.get 9 rfl).cell 2
           have r23_27 := (X23.get 10 rfl).cell 0; have r23_28 := (X23.get 10 rfl).cell 1; have r23_29 := (X23.get 10 rfl).cell 2
           simp at r23_0 r23_1 r23_2 r23_3 r23_4 r23_5 r23_6 r23_7 r23_8 r23_9 r23_10 r23_11 r23_12 r23_13 r23_14 r23_15 r23_16 r23_17 r23_18 r23_19 r23_20 r23_21 r23_22 r23_23 r23_24 r23_25 r23_26 r23_27 r23_28 r23_29
           replace X23 := hide X23; replace Z23 := hide Z23
           clear hb23)
        | fail)
    all_goals
      go_wp2_with fail
      go_meet
      exact ⟨rfl, hide (((Fx.nil _).addB ((unhide X23).get 0 rfl)).addB ((unhide X23).get 2 rfl) |>.addB ((unhide X23).get 5 rfl) |>.addB ((unhide X23).get 9 rfl) |>.addD ((unhide X23).dsk _ (List.mem_of_getElem? (i := 0) rfl)).1 ((unhide X23).dsk _ (List.mem_of_getElem? (i := 0) rfl)).2 |>.addD ((unhide X23).dsk _ (List.mem_of_getElem? (i := 2) rfl)).1 ((unhide X23).dsk _ (List.mem_of_getElem? (i := 2) rfl)).2 |>.addU ((unhide X23).u8 _ (List.mem_of_getElem? (i := 0) rfl)).1 ((unhide X23).u8 _ (List.mem_of_getElem? (i := 0) rfl)).2 |>.addU ((unhide X23).u8 _ (List.mem_of_getElem? (i := 1) rfl)).1 ((unhide X23).u8 _ (List.mem_of_getElem? (i := 1) rfl)).2 |>.addV ((unhide X23).w8 _ (List.mem_of_getElem? (i := 0) rfl)).1 ((unhide X23).w8 _ (List.mem_of_getElem? (i := 0) rfl)).2), Z23⟩
  case rest =>
    obtain ⟨rfl, X9, B9⟩ := hcut
    have q0 : w.heap.size ≤ w4.heap.size := by have := ((unhide X9).get 0 rfl).lt; have := (unhide X9).dsk _ (List.mem_of_getElem? (i := 1) rfl); have a1 := (unhide B4).size; have := unhide s4; simp at a1; omega
    have q1 : w4.heap.size ≤ (w6.alloc (.cells #[.slice A7 yW.dry.length c7, .slice P7 yW.wet.length k7, .int .i64 yW.left] 25)).heap.size := by have a1 := unhide s5; have a2 := unhide s6; simp at a1 a2 ⊢; omega
    have q1' : (w6.alloc (.cells #[.slice A7 yW.dry.length c7, .slice P7 yW.wet.length k7, .int .i64 yW.left] 25)).heap.size ≤ w7.heap.size := unhide s7
    have q2 : w7.heap.size ≤ w8.heap.size := unhide s8
    have q2' : w8.heap.size ≤ w9.heap.size := unhide s9
    have q3 : w9.heap.size ≤ (w12.alloc (.cells #[.slice A13 yN.dry.length c13, .slice P13 yN.wet.length k13, .int .i64 yN.left] 25)).heap.size := by have a1 := unhide s10; have a2 := unhide s11; have a3 := unhide s12; simp at a1 a2 a3 ⊢; omega
    have hlenR : yR.length ≤ 9223372036854775807 := unhide hLR
    have hlenS : yS.dry.length ≤ 9223372036854775807 := unhide hLS
    have hlenL : yL.wet.length ≤ 9223372036854775807 := unhide hLL
    generalize (w6.alloc (.cells #[.slice A7 yW.dry.length c7, .slice P7 yW.wet.length k7, .int .i64 yW.left] 25)).heap.size = m7 at *
    generalize (w12.alloc (.cells #[.slice A13 yN.dry.length c13, .slice P13 yN.wet.length k13, .int .i64 yN.left] 25)).heap.size = m13 at *
    generalize w4.heap.size = m4 at *
    generalize w8.heap.size = m8 at *
    generalize w9.heap.size = m9 at *
    generalize w13.heap.size = g13 at *
    generalize w7.heap.size = h7 at *
    have hq : Hid (w.heap.size ≤ m4 ∧ m4 ≤ m7 ∧ m7 ≤ h7 ∧ h7 ≤ m8 ∧ m8 ≤ m9 ∧ m9 ≤ m13) := hide ⟨q0, q1, q1', q2, q2', q3⟩
    clear q0 q1 q1' q2 q2' q3
    clear hsx hsy h22 h23 X15 B15'
    have RR : Hid (U8x wc m7 h7 A8 yR.length) := hide ((unhide X9).ur 0 rfl)
    have ZR : Hid (Fx wc [(w.heap.size, 25, #[.slice A1 d.dry.length c1, .slice A2 d.wet.length c2, .int .i64 d.left]), (m4, 25, #[.slice A5 d.dry.length c5, .slice P5 d.wet.length k5, .int .i64 d.left]), (m9, 25, #[.slice A10 yS.dry.length c10, .slice P10 yS.wet.length k10, .int .i64 yS.left]), (g13, 25, #[.slice A14 yL.dry.length c14, .slice P14 yL.wet.length k14, .int .i64 yL.left])] [(0, w.heap.size, (.agg #[.slice A1 d.dry.length c1, .slice A2 d.wet.length c2, .int .i64 d.left]), d), (w3.heap.size, m4, (.agg #[.slice A5 d.dry.length c5, .slice P5 d.wet.length k5, .int .i64 d.left]), d)] [] [(m8, m9, A10, yS.dry.length)] [(m13, g13, P14, yL.wet.length)]) := hide ⟨(unhide X9).blk, (unhide X9).dsk, fun p hp => (nomatch hp), fun p hp => (unhide X9).u8 p (List.mem_cons_of_mem _ hp), (unhide X9).w8⟩
    go_wp2_with fail
    go_loopw [188] (fun i wr => ∃ (k : Nat), k ≤ yR.length ∧ i = .int .i64 k ∧ Hid (U8x wr m7 h7 A8 yR.length) ∧ Hid (Fx wr [(w.heap.size, 25, #[.slice A1 d.dry.length c1, .slice A2 d.wet.length c2, .int .i64 d.left]), (m4, 25, #[.slice A5 d.dry.length c5, .slice P5 d.wet.length k5, .int .i64 d.left]), (m9, 25, #[.slice A10 yS.dry.length c10, .slice P10 yS.wet.length k10, .int .i64 yS.left]), (g13, 25, #[.slice A14 yL.dry.length c14, .slice P14 yL.wet.length k14, .int .i64 yL.left])] [(0, w.heap.size, (.agg #[.slice A1 d.dry.length c1, .slice A2 d.wet.length c2, .int .i64 d.left]), d), (w3.heap.size, m4, (.agg #[.slice A5 d.dry.length c5, .slice P5 d.wet.length k5, .int .i64 d.left]), d)] [] [(m8, m9, A10, yS.dry.length)] [(m13, g13, P14, yL.wet.length)]) ∧ Hid (Below w.heap.size w wr)) (fun i _ => yR.length - (intOf i).toNat)
    case atStart => exact ⟨0, Nat.zero_le _, rfl, RR, ZR, B9⟩
    case round =>
      clear RR ZR X9 B9
      obtain ⟨k, hk, rfl, hR, hZ, hB⟩ := hrel
      by_cases hlt : k < yR.length
      · obtain ⟨g, of, z, cs, rfl, hMg, hgH, hkg, hc⟩ := unhide hR k hlt
        have c0 : wr.cell? ⟨g, of + k, none⟩ = some (.int .u8 z) := by rw [hkg.cell]; exact hc
        have c1 := hkg.frozen (of + k)
        have yg := hkg.lt
        obtain ⟨z1, hz1⟩ : ∃ z1, z1 = IntKind.u8.wrap (z + 1) := ⟨_, rfl⟩
        have hz2 := hz1.symm
        have R2 := (unhide hR).put hkg k z1
        have Z2 := (unhide hZ).put (k := of + k) (u := .int .u8 z1) hkg (by simp) (by have := unhide hq; simp only [List.mem_cons, List.not_mem_nil, or_false]; rintro p (rfl | rfl) <;> (simp only []; omega)) (by have := unhide hq; simp only [List.mem_cons, List.not_mem_nil, or_false]; rintro p rfl; simp only []; omega) (by have := unhide hq; simp only [List.mem_cons, List.not_mem_nil, or_false]; rintro p rfl; simp only []; omega)
        have B2 := (unhide hB).setCell (p := ⟨g, of + k, none⟩) (by have := unhide hq; show w.heap.size ≤ g; omega) (.int .u8 z1)
        have i1 : IntKind.i64.wrap ((k : Int) + 1) = (k : Int) + 1 := IntWalk.i64_in _ (by omega)
        have hk0 : (0 : Int) ≤ (k : Int) := by omega
        have hk1 : (k : Int) < (yR.length : Int) := by omega
        replace R2 := hide R2; replace Z2 := hide Z2; replace B2 := hide B2
        clear hz1 hkg hc hMg hgH hR hZ hB
        go_wp2_with fail
        clear i1 hz2
        go_roundw
        case rel => exact ⟨k + 1, by omega, by go_num, R2, Z2, B2⟩
        case measure => simp [intOf]; omega
      · obtain rfl : k = yR.length := by omega
        clear hR
        have RS : Hid (U8x wr m8 m9 A10 yS.dry.length) := hide ((unhide hZ).ur 0 rfl)
        have ZS : Hid (Fx wr [(w.heap.size, 25, #[.slice A1 d.dry.length c1, .slice A2 d.wet.length c2, .int .i64 d.left]), (m4, 25, #[.slice A5 d.dry.length c5, .slice P5 d.wet.length k5, .int .i64 d.left]), (m9, 25, #[.slice A10 yS.dry.length c10, .slice P10 yS.wet.length k10, .int .i64 yS.left]), (g13, 25, #[.slice A14 yL.dry.length c14, .slice P14 yL.wet.length k14, .int .i64 yL.left])] [(0, w.heap.size, (.agg #[.slice A1 d.dry.length c1, .slice A2 d.wet.length c2, .int .i64 d.left]), d), (w3.heap.size, m4, (.agg #[.slice A5 d.dry.length c5, .slice P5 d.wet.length k5, .int .i64 d.left]), d)] [] [] [(m13, g13, P14, yL.wet.length)]) := hide ⟨(unhide hZ).blk, (unhide hZ).dsk, fun p hp => (nomatch hp), fun p hp => (unhide hZ).u8 p (List.mem_cons_of_mem _ hp), (unhide hZ).w8⟩
        have KT := (unhide hZ).get 2 rfl
        have t0 := KT.cell 0
        simp at t0
        have tl' := KT.lt
        clear KT
        go_wp2_with fail
        clear t0 tl'
        go_loopw [201] (fun i wr => ∃ (k : Nat), k ≤ yS.dry.length ∧ i = .int .i64 k ∧ Hid (U8x wr m8 m9 A10 yS.dry.length) ∧ Hid (Fx wr [(w.heap.size, 25, #[.slice A1 d.dry.length c1, .slice A2 d.wet.length c2, .int .i64 d.left]), (m4, 25, #[.slice A5 d.dry.length c5, .slice P5 d.wet.length k5, .int .i64 d.left]), (m9, 25, #[.slice A10 yS.dry.length c10, .slice P10 yS.wet.length k10, .int .i64 yS.left]), (g13, 25, #[.slice A14 yL.dry.length c14, .slice P14 yL.wet.length k14, .int .i64 yL.left])] [(0, w.heap.size, (.agg #[.slice A1 d.dry.length c1, .slice A2 d.wet.length c2, .int .i64 d.left]), d), (w3.heap.size, m4, (.agg #[.slice A5 d.dry.length c5, .slice P5 d.wet.length k5, .int .i64 d.left]), d)] [] [] [(m13, g13, P14, yL.wet.length)]) ∧ Hid (Below w.heap.size w wr)) (fun i _ => yS.dry.length - (intOf i).toNat)
        case atStart => exact ⟨0, Nat.zero_le _, rfl, RS, ZS, hB⟩
        case round =>
          clear RS ZS hZ hB
          obtain ⟨k, hk, rfl, hR, hZ, hB⟩ := hrel
          by_cases hlt : k < yS.dry.length
          · obtain ⟨g, of, z, cs, rfl, hMg, hgH, hkg, hc⟩ := unhide hR k hlt
            have c0 : wr.cell? ⟨g, of + k, none⟩ = some (.int .u8 z) := by rw [hkg.cell]; exact hc
            have c1 := hkg.frozen (of + k)
            have yg := hkg.lt
            obtain ⟨z1, hz1⟩ : ∃ z1, z1 = IntKind.u8.wrap (z + 1) := ⟨_, rfl⟩
            have hz2 := hz1.symm
            have R2 := (unhide hR).put hkg k z1
            have Z2 := (unhide hZ).put (k := of + k) (u := .int .u8 z1) hkg (by simp) (by have := unhide hq; simp only [List.mem_cons, List.not_mem_nil, or_false]; rintro p (rfl | rfl) <;> (simp only []; omega)) (fun _ hp => nomatch hp) (by have := unhide hq; simp only [List.mem_cons, List.not_mem_nil, or_false]; rintro p rfl; simp only []; omega)
            have B2 := (unhide hB).setCell (p := ⟨g, of + k, none⟩) (by have := unhide hq; show w.heap.size ≤ g; omega) (.int .u8 z1)
            have KT := (unhide hZ).get 2 rfl
            have t0 := KT.cell 0
            simp at t0
            have tl' := KT.lt
            clear KT
            have i1 : IntKind.i64.wrap ((k : Int) + 1) = (k : Int) + 1 := IntWalk.i64_in _ (by omega)
            have hk0 : (0 : Int) ≤ (k : Int) := by omega
            have hk1 : (k : Int) < (yS.dry.length : Int) := by omega
            replace R2 := hide R2; replace Z2 := hide Z2; replace B2 := hide B2
            clear hz1 hkg hc hMg hgH hR hZ hB
            go_wp2_with fail
            clear i1 hz2
            go_roundw
            case rel => exact ⟨k + 1, by omega, by go_num, R2, Z2, B2⟩
            case measure => simp [intOf]; omega
          · obtain rfl : k = yS.dry.length := by omega
            clear hR
            have RL : Hid (W8x wr m13 g13 P14 yL.wet.length) := hide ((unhide hZ).vr 0 rfl)
            have ZL : Hid (Fx wr [(w.heap.size, 25, #[.slice A1 d.dry.length c1, .slice A2 d.wet.length c2, .int .i64 d.left]), (m4, 25, #[.slice A5 d.dry.length c5, .slice P5 d.wet.length k5, .int .i64 d.left]), (m9, 25, #[.slice A10 yS.dry.length c10, .slice P10 yS.wet.length k10, .int .i64 yS.left]), (g13, 25, #[.slice A14 yL.dry.length c14, .slice P14 yL.wet.length k14, .int .i64 yL.left])] [(0, w.heap.size, (.agg #[.slice A1 d.dry.length c1, .slice A2 d.wet.length c2, .int .i64 d.left]), d), (w3.heap.size, m4, (.agg #[.slice A5 d.dry.length c5, .slice P5 d.wet.length k5, .int .i64 d.left]), d)] [] [] []) := hide ⟨(unhide hZ).blk, (unhide hZ).dsk, fun p hp => (nomatch hp), fun p hp => (nomatch hp), fun p hp => (nomatch hp)⟩
            have KT := (unhide hZ).get 3 rfl
            have t0 := KT.cell 1
            simp at t0
            have tl' := KT.lt
            clear KT
            go_wp2_with fail
            clear t0 tl'
            go_loopw [215] (fun i wr => ∃ (k : Nat), k ≤ yL.wet.length ∧ i = .int .i64 k ∧ Hid (W8x wr m13 g13 P14 yL.wet.length) ∧ Hid (Fx wr [(w.heap.size, 25, #[.slice A1 d.dry.length c1, .slice A2 d.wet.length c2, .int .i64 d.left]), (m4, 25, #[.slice A5 d.dry.length c5, .slice P5 d.wet.length k5, .int .i64 d.left]), (m9, 25, #[.slice A10 yS.dry.length c10, .slice P10 yS.wet.length k10, .int .i64 yS.left]), (g13, 25, #[.slice A14 yL.dry.length c14, .slice P14 yL.wet.length k14, .int .i64 yL.left])] [(0, w.heap.size, (.agg #[.slice A1 d.dry.length c1, .slice A2 d.wet.length c2, .int .i64 d.left]), d), (w3.heap.size, m4, (.agg #[.slice A5 d.dry.length c5, .slice P5 d.wet.length k5, .int .i64 d.left]), d)] [] [] []) ∧ Hid (Below w.heap.size w wr)) (fun i _ => yL.wet.length - (intOf i).toNat)
            case atStart => exact ⟨0, Nat.zero_le _, rfl, RL, ZL, hB⟩
            case round =>
              clear RL ZL hZ hB
              obtain ⟨k, hk, rfl, hR, hZ, hB⟩ := hrel
              by_cases hlt : k < yL.wet.length
              · obtain ⟨gw, ow, g, of, nn, cc, z, ws, cs, rfl, a1, a2, hMg, hgH, hkw, hcw, hnn, hkg, hc⟩ := unhide hR k hlt
                have c0 : wr.cell? ⟨g, of, none⟩ = some (.int .u8 z) := by rw [hkg.cell]; exact hc
                have c1 := hkg.frozen of
                have yg := hkg.lt
                have e0 : wr.cell? ⟨gw, ow + k * 2 + 1, none⟩ = some (.slice (some ⟨g, of, none⟩) nn cc) := by rw [hkw.cell]; exact hcw
                have yw := hkw.lt
                have i0 : (0 : Int) < (nn : Int) := by omega
                obtain ⟨z1, hz1⟩ : ∃ z1, z1 = IntKind.u8.wrap (z + 1) := ⟨_, rfl⟩
                have hz2 := hz1.symm
                have R2 := (unhide hR).put hkg (o := of) z1
                have Z2 := (unhide hZ).put (k := of) (u := .int .u8 z1) hkg (by simp) (by have := unhide hq; simp only [List.mem_cons, List.not_mem_nil, or_false]; rintro p (rfl | rfl) <;> (simp only []; omega)) (fun _ hp => nomatch hp) (fun _ hp => nomatch hp)
                have B2 := (unhide hB).setCell (p := ⟨g, of, none⟩) (by have := unhide hq; show w.heap.size ≤ g; omega) (.int .u8 z1)
                clear a1 a2 hkw hcw
                have KT := (unhide hZ).get 3 rfl
                have t0 := KT.cell 1
                simp at t0
                have tl' := KT.lt
                clear KT
                have i1 : IntKind.i64.wrap ((k : Int) + 1) = (k : Int) + 1 := IntWalk.i64_in _ (by omega)
                have hk0 : (0 : Int) ≤ (k : Int) := by omega
                have hk1 : (k : Int) < (yL.wet.length : Int) := by omega
                replace R2 := hide R2; replace Z2 := hide Z2; replace B2 := hide B2
                clear hz1 hkg hc hMg hgH hR hZ hB
                go_wp2_with fail
                clear i1 hz2
                go_roundw
                case rel => exact ⟨k + 1, by omega, by go_num, R2, Z2, B2⟩
                case measure => simp [intOf]; omega
              · obtain rfl : k = yL.wet.length := by omega
                clear hR
                have KX := (unhide hZ).get 0 rfl
                have t0 := KX.cell 0; have t1' := KX.cell 1; have t2' := KX.cell 2
                have KW := (unhide hZ).get 1 rfl
                have u0 := KW.cell 0; have u1' := KW.cell 1; have u2' := KW.cell 2
                simp at t0 t1' t2' u0 u1' u2'
                have tl' := KX.lt
                have ul' := KW.lt
                clear KX KW
                have hS := refsame_any 0 w3.heap.size (.agg #[.slice A1 d.dry.length c1, .slice A2 d.wet.length c2, .int .i64 d.left]) (.agg #[.slice A5 d.dry.length c5, .slice P5 d.wet.length k5, .int .i64 d.left]) d d wr ((unhide hZ).dr 0 rfl) ((unhide hZ).dr 1 rfl)
                rw [show sameD d d = true by simp [sameD]] at hS
                replace hS := hide hS
                go_wp2_with (first
                  | (go_at_call 22; refine (unhide hS).mono ?_; rintro e wz ⟨rfl, hbz⟩
                     have Bz := bl_call (unhide hB) hbz
                     replace Bz := hide Bz
                     clear hbz)
                  | fail)
                go_ret
                exact ⟨rfl, unhide Bz⟩
end Go.Proofs.Ytcgfcdbchcehmaa
