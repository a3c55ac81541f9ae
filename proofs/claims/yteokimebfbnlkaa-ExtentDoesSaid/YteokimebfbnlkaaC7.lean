import Derived.Test.YteokimebfbnlkaaC4
namespace Go.Proofs.Yteokimebfbnlkaa
open Go.RowKit

attribute [-go_sem] run_eql_struct run_neq_struct
attribute [local go_sem] run_neq_ex run_eql_ex guard26

set_option maxRecDepth 100000 in
set_option maxHeartbeats 8000000 in
theorem does_main (lo lo' : Nat) (v vo : Value) (x o : Xs) (n m : Int) (s : Ex) (w : World) (h : XsR lo w.heap.size w v x) (hr : Rgs x.free) (ho : XsR lo' w.heap.size w vo o) (hs : s.len ≤ 9223372036854775807)
    (hx : (x.size ≤ 100 ∨ 8192 < x.size) ∧ x.free.length ≤ 60) (hy : (o.size ≤ 100 ∨ 8192 < o.size) ∧ o.free.length ≤ 60) (hm : m ≤ 200) :
    Calls Try.prog 3 #[v, vo, .int .i64 n, exV s, .int .i64 m] w fun e w' => e = .returned (.bool true) ∧ Below w.heap.size w w' := by
  obtain ⟨i26, hi26, iz0, iz1, iz2⟩ := info_parts info26
  obtain ⟨sT, yT, eT, hT⟩ := take_ex x n
  obtain ⟨yK, eK, hK⟩ := keep_ex x s
  obtain ⟨yG, eG, hG⟩ := give_ex x s
  obtain ⟨yN, eN, hN⟩ := new_ex m
  have hF : ∀ W, Below w.heap.size w W → Calls Try.prog 10 #[v] W fun e w' => e = .returned (.bool true) ∧ Below W.heap.size W w' := fun W hb => by
    have := few_any v x lo W (h.grow hb); rwa [show decide ((x.size ≤ 100 ∨ 8192 < x.size) ∧ x.free.length ≤ 60) = true by simpa using hx] at this
  have hF' : ∀ W, Below w.heap.size w W → Calls Try.prog 10 #[vo] W fun e w' => e = .returned (.bool true) ∧ Below W.heap.size W w' := fun W hb => by
    have := few_any vo o lo' W (ho.grow hb); rwa [show decide ((o.size ≤ 100 ∨ 8192 < o.size) ∧ o.free.length ≤ 60) = true by simpa using hy] at this
  have h11 := fun W (hb : Below w.heap.size w W) => take_fixO hT (h.grow hb) hr
  have h12 := fun W (hb : Below w.heap.size w W) => rtake_fixO hT (h.grow hb)
  have h13 := fun W (hb : Below w.heap.size w W) => keep_fixO hK (h.grow hb) hr hs
  have h14 := fun W (hb : Below w.heap.size w W) => rkeep_fixO hK (h.grow hb)
  have h15 := fun W (hb : Below w.heap.size w W) => give_fixO hG (h.grow hb) hr hs
  have h16 := fun W (hb : Below w.heap.size w W) => rgive_fixO hG (h.grow hb)
  have h17 := fun W => new_fixO hN W
  have h18 := fun W => rnew_fixO hN W
  have h19 := fun W (hb : Below w.heap.size w W) => room_any lo v x W (h.grow hb) hr
  have h20 := fun W (hb : Below w.heap.size w W) => refroom_any lo v x W (h.grow hb)
  have hck := fun W (hb : Below w.heap.size w W) => check_any lo v x W (h.grow hb) hr
  have hrck := fun W (hb : Below w.heap.size w W) => refcheck_any lo v x W (h.grow hb)
  have hsrc := fun W (hb : Below w.heap.size w W) => h.grow hb
  obtain ⟨bb, rfl, hb⟩ := h
  obtain ⟨bo, rfl, hbo⟩ := ho
  obtain ⟨A, c, rfl, g1, g2, g9⟩ := hb.open
  obtain ⟨sa, sl⟩ := s
  obtain ⟨ta, tl⟩ := sT
  unfold exV at *
  try dsimp only at h11 h12 h13 h14 h15 h16
  have b4 : ¬ 200 < m := by omega
  have hl60 : x.free.length ≤ 60 := hx.2
  have t1 : 0 + x.free.length ≤ maxLen := by simp only [maxLen]; omega
  have t2 : (0 + x.free.length) * 16 ≤ 140737488355328 := by omega
  have t3 : (x.free.flatMap exv).length = x.free.length * 2 := flat_len _
  have t4 := flat_one x.free
  have t5 : SrcOk w A x.free.length (x.free.flatMap exv) := (Exs.src hb).2
  generalize roomR x = RR at *
  generalize badE (okX x) = EE at *
  replace hF := hide hF; replace hF' := hide hF'; replace h11 := hide h11; replace h12 := hide h12; replace h13 := hide h13; replace h14 := hide h14; replace h15 := hide h15; replace h16 := hide h16; replace h17 := hide h17; replace h18 := hide h18; replace h19 := hide h19; replace h20 := hide h20; replace hck := hide hck; replace hrck := hide hrck
  replace hsrc := hide hsrc; replace hb := hide hb; replace hbo := hide hbo; replace g9 := hide g9; replace t1 := hide t1; replace t2 := hide t2; replace t3 := hide t3; replace t4 := hide t4; replace t5 := hide t5; replace hx := hide hx; replace hy := hide hy; replace hT := hide hT; replace hK := hide hK; replace hG := hide hG; replace hN := hide hN; replace hr := hide hr
  go_enter Try.func3, Try.ntmps3
  obtain ⟨w0, hw0⟩ : ∃ w0, w0 = ((w.alloc (.cells #[.int .i64 x.size, .slice A x.free.length c] 24)).alloc (.cells #[.int .i64 o.size, bo] 24)).alloc (.cells #[.int .i64 sa, .int .i64 sl] 26) := ⟨_, rfl⟩
  have X0 : Fx w0 [(w.heap.size, 24, #[.int .i64 x.size, .slice A x.free.length c]), (w.heap.size + 1, 24, #[.int .i64 o.size, bo]), (w.heap.size + 1 + 1, 26, #[.int .i64 sa, .int .i64 sl])] [] [(lo, w.heap.size, .agg #[.int .i64 x.size, .slice A x.free.length c], x), (lo', w.heap.size, .agg #[.int .i64 o.size, bo], o)] := by
    rw [hw0]
    exact ((((((Fx.nil _).addX (Nat.le_refl _) ⟨_, rfl, unhide hb⟩).addX (Nat.le_refl _) ⟨_, rfl, unhide hbo⟩).alloc _).alloc _).alloc _).addB (((Blk.new rfl).alloc _).alloc _) |>.addB ((Blk.new (by simp)).alloc _) |>.addB (Blk.new (by simp))
  have B0 : Below w.heap.size w w0 := by rw [hw0]; (repeat (first | with_reducible exact Below.refl _ _ | with_reducible assumption | with_reducible refine Below.drew ?_ | with_reducible refine bl_alloc ?_ _ | with_reducible refine bl_call ?_ (by assumption) | (focus (with_reducible refine Below.setCell ?_ ?_ _; rotate_left; focus (first | omega | (simp <;> omega)))) | fail))
  replace X0 := hide X0; replace B0 := hide B0
  have tok1 : True := trivial
  go_upto_region 15 with (first
    | (go_at_call 9; rw [← hw0]; refine (live_any _).mono ?_; rintro e w1 ⟨rfl, hb1⟩
       have X1 := (unhide X0).below hb1
       have B1 := bl_call (unhide B0) hb1
       have x0 := (X1.get 0 rfl).cell 0; have x1 := (X1.get 0 rfl).cell 1; have s0 := (X1.get 2 rfl).cell 0; have s1 := (X1.get 2 rfl).cell 1
       simp at x0 x1 s0 s1
       have yx : w.heap.size < w1.heap.size := (X1.get 0 rfl).lt
       have ys : w.heap.size + 1 + 1 < w1.heap.size := (X1.get 2 rfl).lt
       have yo : w.heap.size + 1 < w1.heap.size := (X1.get 1 rfl).lt
       have o0 := (X1.get 1 rfl).cell 0; have o1 := (X1.get 1 rfl).cell 1
       simp at o0 o1
       replace X1 := hide X1; replace B1 := hide B1
       clear hb1)
    | (go_at_call 10; have _t := tok1; refine (unhide hF _ (unhide B1)).mono ?_; clear tok1 _t; rintro e w2 ⟨rfl, hb2⟩
       have X2 := (unhide X1).below hb2
       have B2 := bl_call (unhide B1) hb2
       have x0 := (X2.get 0 rfl).cell 0; have x1 := (X2.get 0 rfl).cell 1; have s0 := (X2.get 2 rfl).cell 0; have s1 := (X2.get 2 rfl).cell 1
       simp at x0 x1 s0 s1
       have yx : w.heap.size < w2.heap.size := (X2.get 0 rfl).lt
       have ys : w.heap.size + 1 + 1 < w2.heap.size := (X2.get 2 rfl).lt
       have yo : w.heap.size + 1 < w2.heap.size := (X2.get 1 rfl).lt
       have o0 := (X2.get 1 rfl).cell 0; have o1 := (X2.get 1 rfl).cell 1
       simp at o0 o1
       replace X2 := hide X2; replace B2 := hide B2
       clear hb2)
    | (go_at_call 10; refine (unhide hF' _ (unhide B2)).mono ?_; rintro e w3 ⟨rfl, hb3⟩
       have X3 := (unhide X2).below hb3
       have B3 := bl_call (unhide B2) hb3
       have x0 := (X3.get 0 rfl).cell 0; have x1 := (X3.get 0 rfl).cell 1; have s0 := (X3.get 2 rfl).cell 0; have s1 := (X3.get 2 rfl).cell 1
       simp at x0 x1 s0 s1
       have yx : w.heap.size < w3.heap.size := (X3.get 0 rfl).lt
       have ys : w.heap.size + 1 + 1 < w3.heap.size := (X3.get 2 rfl).lt
       have yo : w.heap.size + 1 < w3.heap.size := (X3.get 1 rfl).lt
       have hS := SrcOk.below (unhide t5) B3
       replace X3 := hide X3; replace B3 := hide B3; replace hS := hide hS
       clear hb3)
    | (at_builtin
       refine wpList_app _ rfl (.const (.slice none 0 0)) (.tmp 58) 22 rfl w.heap.size 26 i26 _ 2 16 Try.underlying22 hi26 iz0 iz1 iz2 rfl (Nat.succ_pos _) _ 0 [] rfl (World.ownsRow_nil _ _ _ _) A x.free.length c (x.free.flatMap exv) rfl (unhide t3) (unhide hS) (unhide t4) (unhide t1) (unhide t2) (unhide B3).size ?_
       intro v4 w4 o4 g4
       rw [Nat.zero_add, List.nil_append] at o4
       obtain ⟨A4, c4, rfl⟩ := ownsRow_form o4
       have B4 : Below w.heap.size w w4 := bl_grown (unhide B3) g4 (own_base (World.ownsRow_nil w3 w.heap.size 26 2))
       have b34 : Below w3.heap.size w3 w4 := (Below.refl w3.heap.size w3).grown g4 (Nat.le_refl _) (by intro k hk; cases hk)
       have X4 := (((unhide X3).below b34).addR o4).addX (v := .agg #[.int .i64 x.size, .slice A4 x.free.length c4]) (x := x) (Nat.le_refl _) ⟨_, rfl, Exs.of_own o4⟩
       have x0 := (X4.get 0 rfl).cell 0; have x1 := (X4.get 0 rfl).cell 1; have s0 := (X4.get 2 rfl).cell 0; have s1 := (X4.get 2 rfl).cell 1
       simp at x0 x1 s0 s1
       have yx : w.heap.size < w4.heap.size := (X4.get 0 rfl).lt
       have ys : w.heap.size + 1 + 1 < w4.heap.size := (X4.get 2 rfl).lt
       have yo : w.heap.size + 1 < w4.heap.size := (X4.get 1 rfl).lt
       replace X4 := hide X4; replace B4 := hide B4
       clear g4 b34)
    | (go_at_call 11; refine (unhide h11 _ (unhide B4)).mono ?_; rintro e w5 ⟨A5, c5, rfl, o5, hb5⟩
       have X5' := ((unhide X4).below hb5).addR o5
       have B5' := bl_call (unhide B4) hb5
       have x0 := (X5'.get 0 rfl).cell 0; have x1 := (X5'.get 0 rfl).cell 1; have s0 := (X5'.get 2 rfl).cell 0; have s1 := (X5'.get 2 rfl).cell 1
       simp at x0 x1 s0 s1
       have yx : w.heap.size < w5.heap.size := (X5'.get 0 rfl).lt
       have ys : w.heap.size + 1 + 1 < w5.heap.size := (X5'.get 2 rfl).lt
       have yo : w.heap.size + 1 < w5.heap.size := (X5'.get 1 rfl).lt
       have X5 := (((X5'.alloc (.cells #[.int .i64 ta, .int .i64 tl] 26)).alloc (.cells #[.int .i64 yT.size, .slice A5 yT.free.length c5] 24)).addB ((Blk.new (g := w5.heap.size) rfl).alloc (.cells #[.int .i64 yT.size, .slice A5 yT.free.length c5] 24))).addB (Blk.new (w := w5.alloc (.cells #[.int .i64 ta, .int .i64 tl] 26)) (g := w5.heap.size + 1) (by simp))
       have B5 := (B5'.alloc B5'.size (.cells #[.int .i64 ta, .int .i64 tl] 26)).alloc (B5'.alloc B5'.size (.cells #[.int .i64 ta, .int .i64 tl] 26)).size (.cells #[.int .i64 yT.size, .slice A5 yT.free.length c5] 24)
       replace X5 := hide X5; replace B5 := hide B5
       clear hb5 o5 X5' B5')
    | (go_at_call 12; refine (unhide h12 _ (unhide B5)).mono ?_; rintro e w6 ⟨A6, c6, rfl, o6, hb6⟩
       have X6' := ((unhide X5).below hb6).addR o6
       have B6' := bl_call (unhide B5) hb6
       have x0 := (X6'.get 0 rfl).cell 0; have x1 := (X6'.get 0 rfl).cell 1; have s0 := (X6'.get 2 rfl).cell 0; have s1 := (X6'.get 2 rfl).cell 1
       simp at x0 x1 s0 s1
       have yx : w.heap.size < w6.heap.size := (X6'.get 0 rfl).lt
       have ys : w.heap.size + 1 + 1 < w6.heap.size := (X6'.get 2 rfl).lt
       have yo : w.heap.size + 1 < w6.heap.size := (X6'.get 1 rfl).lt
       have X6 := (((X6'.alloc (.cells #[.int .i64 ta, .int .i64 tl] 26)).alloc (.cells #[.int .i64 yT.size, .slice A6 yT.free.length c6] 24)).addB ((Blk.new (g := w6.heap.size) rfl).alloc (.cells #[.int .i64 yT.size, .slice A6 yT.free.length c6] 24))).addB (Blk.new (w := w6.alloc (.cells #[.int .i64 ta, .int .i64 tl] 26)) (g := w6.heap.size + 1) (by simp))
       have B6 := (B6'.alloc B6'.size (.cells #[.int .i64 ta, .int .i64 tl] 26)).alloc (B6'.alloc B6'.size (.cells #[.int .i64 ta, .int .i64 tl] 26)).size (.cells #[.int .i64 yT.size, .slice A6 yT.free.length c6] 24)
       replace X6 := hide X6; replace B6 := hide B6
       clear hb6 o6 X6' B6')
    | (go_at_call 13; refine (unhide h13 _ (unhide B6)).mono ?_; rintro e w7 ⟨A7, c7, rfl, o7, hb7⟩
       have s7 := hb7.size
       replace s7 := hide s7
       have vT := own_vbelow ((unhide X6).own 1 rfl)
       have hz7 := ((unhide X6).xs _ (List.mem_of_getElem? (i := 2) rfl)).1
       replace vT := hide vT; replace hz7 := hide hz7
       have X7' := ((unhide X6).below hb7).addR o7
       have B7' := bl_call (unhide B6) hb7
       have x0 := (X7'.get 0 rfl).cell 0; have x1 := (X7'.get 0 rfl).cell 1; have s0 := (X7'.get 2 rfl).cell 0; have s1 := (X7'.get 2 rfl).cell 1
       simp at x0 x1 s0 s1
       have yx : w.heap.size < w7.heap.size := (X7'.get 0 rfl).lt
       have ys : w.heap.size + 1 + 1 < w7.heap.size := (X7'.get 2 rfl).lt
       have yo : w.heap.size + 1 < w7.heap.size := (X7'.get 1 rfl).lt
       have X7 := (X7'.alloc (.cells #[.int .i64 yK.size, .slice A7 yK.free.length c7] 24)).addB (Blk.new (w := w7) (g := w7.heap.size) rfl)
       have B7 := B7'.alloc B7'.size (.cells #[.int .i64 yK.size, .slice A7 yK.free.length c7] 24)
       replace X7 := hide X7; replace B7 := hide B7
       clear hb7 o7 X7' B7')
    | (go_at_call 14; refine (unhide h14 _ (unhide B7)).mono ?_; rintro e w8 ⟨A8, c8, rfl, o8, hb8⟩
       have s8 := hb8.size
       replace s8 := hide s8
       have X8' := ((unhide X7).below hb8).addR o8
       have B8' := bl_call (unhide B7) hb8
       have x0 := (X8'.get 0 rfl).cell 0; have x1 := (X8'.get 0 rfl).cell 1; have s0 := (X8'.get 2 rfl).cell 0; have s1 := (X8'.get 2 rfl).cell 1
       simp at x0 x1 s0 s1
       have yx : w.heap.size < w8.heap.size := (X8'.get 0 rfl).lt
       have ys : w.heap.size + 1 + 1 < w8.heap.size := (X8'.get 2 rfl).lt
       have yo : w.heap.size + 1 < w8.heap.size := (X8'.get 1 rfl).lt
       have X8 := (X8'.alloc (.cells #[.int .i64 yK.size, .slice A8 yK.free.length c8] 24)).addB (Blk.new (w := w8) (g := w8.heap.size) rfl)
       have B8 := B8'.alloc B8'.size (.cells #[.int .i64 yK.size, .slice A8 yK.free.length c8] 24)
       replace X8 := hide X8; replace B8 := hide B8
       clear hb8 o8 X8' B8')
    | (go_at_call 15; refine (unhide h15 _ (unhide B8)).mono ?_; rintro e w9 ⟨A9, c9, rfl, o9, hb9⟩
       have vK := own_vbelow ((unhide X8).own 3 rfl)
       have hz9 := Nat.le_trans (unhide s7) (Nat.le_trans (World.size_alloc_le w7 _) (Nat.le_trans (unhide s8) (World.size_alloc_le w8 (.cells #[.int .i64 yK.size, .slice A8 yK.free.length c8] 24))))
       replace vK := hide vK; replace hz9 := hide hz9
       have X9' := ((unhide X8).below hb9).addR o9
       have B9' := bl_call (unhide B8) hb9
       have x0 := (X9'.get 0 rfl).cell 0; have x1 := (X9'.get 0 rfl).cell 1; have s0 := (X9'.get 2 rfl).cell 0; have s1 := (X9'.get 2 rfl).cell 1
       simp at x0 x1 s0 s1
       have yx : w.heap.size < w9.heap.size := (X9'.get 0 rfl).lt
       have ys : w.heap.size + 1 + 1 < w9.heap.size := (X9'.get 2 rfl).lt
       have yo : w.heap.size + 1 < w9.heap.size := (X9'.get 1 rfl).lt
       have X9 := (X9'.alloc (.cells #[.int .i64 yG.size, .slice A9 yG.free.length c9] 24)).addB (Blk.new (w := w9) (g := w9.heap.size) rfl)
       have B9 := B9'.alloc B9'.size (.cells #[.int .i64 yG.size, .slice A9 yG.free.length c9] 24)
       replace X9 := hide X9; replace B9 := hide B9
       clear hb9 o9 X9' B9')
    | (go_at_call 16; refine (unhide h16 _ (unhide B9)).mono ?_; rintro e w10 ⟨A10, c10, rfl, o10, hb10⟩
       have X10' := ((unhide X9).below hb10).addR o10
       have B10' := bl_call (unhide B9) hb10
       have x0 := (X10'.get 0 rfl).cell 0; have x1 := (X10'.get 0 rfl).cell 1; have s0 := (X10'.get 2 rfl).cell 0; have s1 := (X10'.get 2 rfl).cell 1
       simp at x0 x1 s0 s1
       have yx : w.heap.size < w10.heap.size := (X10'.get 0 rfl).lt
       have ys : w.heap.size + 1 + 1 < w10.heap.size := (X10'.get 2 rfl).lt
       have yo : w.heap.size + 1 < w10.heap.size := (X10'.get 1 rfl).lt
       have X10 := (X10'.alloc (.cells #[.int .i64 yG.size, .slice A10 yG.free.length c10] 24)).addB (Blk.new (w := w10) (g := w10.heap.size) rfl)
       have B10 := B10'.alloc B10'.size (.cells #[.int .i64 yG.size, .slice A10 yG.free.length c10] 24)
       replace X10 := hide X10; replace B10 := hide B10
       clear hb10 o10 X10' B10')
    | (go_at_call 17; refine (unhide h17 _).mono ?_; rintro e w11 ⟨A11, c11, rfl, o11, hb11⟩
       have X11' := ((unhide X10).below hb11).addX (Nat.le_refl _) o11
       have B11' := bl_call (unhide B10) hb11
       have x0 := (X11'.get 0 rfl).cell 0; have x1 := (X11'.get 0 rfl).cell 1; have s0 := (X11'.get 2 rfl).cell 0; have s1 := (X11'.get 2 rfl).cell 1
       simp at x0 x1 s0 s1
       have yx : w.heap.size < w11.heap.size := (X11'.get 0 rfl).lt
       have ys : w.heap.size + 1 + 1 < w11.heap.size := (X11'.get 2 rfl).lt
       have yo : w.heap.size + 1 < w11.heap.size := (X11'.get 1 rfl).lt
       have X11 := (X11'.alloc (.cells #[.int .i64 yN.size, .slice A11 yN.free.length c11] 24)).addB (Blk.new (w := w11) (g := w11.heap.size) rfl)
       have B11 := B11'.alloc B11'.size (.cells #[.int .i64 yN.size, .slice A11 yN.free.length c11] 24)
       replace X11 := hide X11; replace B11 := hide B11
       clear hb11 o11 X11' B11')
    | (go_at_call 18; refine (unhide h18 _).mono ?_; rintro e w12 ⟨A12, c12, rfl, o12, hb12⟩
       have X12' := ((unhide X11).below hb12).addX (Nat.le_refl _) o12
       have B12' := bl_call (unhide B11) hb12
       have x0 := (X12'.get 0 rfl).cell 0; have x1 := (X12'.get 0 rfl).cell 1; have s0 := (X12'.get 2 rfl).cell 0; have s1 := (X12'.get 2 rfl).cell 1
       simp at x0 x1 s0 s1
       have yx : w.heap.size < w12.heap.size := (X12'.get 0 rfl).lt
       have ys : w.heap.size + 1 + 1 < w12.heap.size := (X12'.get 2 rfl).lt
       have yo : w.heap.size + 1 < w12.heap.size := (X12'.get 1 rfl).lt
       have X12 := (X12'.alloc (.cells #[.int .i64 yN.size, .slice A12 yN.free.length c12] 24)).addB (Blk.new (w := w12) (g := w12.heap.size) rfl)
       have B12 := B12'.alloc B12'.size (.cells #[.int .i64 yN.size, .slice A12 yN.free.length c12] 24)
       replace X12 := hide X12; replace B12 := hide B12
       clear hb12 o12 X12' B12')
    | (go_at_call 19; refine (unhide h19 _ (unhide B12)).mono ?_; rintro e w13 ⟨rfl, hb13⟩
       have X13 := (unhide X12).below hb13
       have B13 := bl_call (unhide B12) hb13
       have x0 := (X13.get 0 rfl).cell 0; have x1 := (X13.get 0 rfl).cell 1; have s0 := (X13.get 2 rfl).cell 0; have s1 := (X13.get 2 rfl).cell 1
       simp at x0 x1 s0 s1
       have yx : w.heap.size < w13.heap.size := (X13.get 0 rfl).lt
       have ys : w.heap.size + 1 + 1 < w13.heap.size := (X13.get 2 rfl).lt
       have yo : w.heap.size + 1 < w13.heap.size := (X13.get 1 rfl).lt
       replace X13 := hide X13; replace B13 := hide B13
       clear hb13)
    | (go_at_call 20; refine (unhide h20 _ (unhide B13)).mono ?_; rintro e w14 ⟨rfl, hb14⟩
       have X14 := (unhide X13).below hb14
       have B14 := bl_call (unhide B13) hb14
       have x0 := (X14.get 0 rfl).cell 0; have x1 := (X14.get 0 rfl).cell 1; have s0 := (X14.get 2 rfl).cell 0; have s1 := (X14.get 2 rfl).cell 1
       simp at x0 x1 s0 s1
       have yx : w.heap.size < w14.heap.size := (X14.get 0 rfl).lt
       have ys : w.heap.size + 1 + 1 < w14.heap.size := (X14.get 2 rfl).lt
       have yo : w.heap.size + 1 < w14.heap.size := (X14.get 1 rfl).lt
       replace X14 := hide X14; replace B14 := hide B14
       clear hb14)
    | fail)
  clear x0 x1 s0 s1 yx ys yo
  have hE : eqE ta tl ta tl = true := by simp [eqE]
  have hsx := fun W (h1 : XsR lo W.heap.size W (.agg #[.int .i64 x.size, .slice A x.free.length c]) x) (h2 : XsR lo' W.heap.size W (.agg #[.int .i64 o.size, bo]) o) => same_any lo lo' _ _ x o W h1 h2
  have hsy := fun W (h1 : XsR lo W.heap.size W (.agg #[.int .i64 x.size, .slice A x.free.length c]) x) (h2 : XsR lo' W.heap.size W (.agg #[.int .i64 o.size, bo]) o) => refsame_any lo lo' _ _ x o W h1 h2
  have h21 := fun (y : Xs) l l' v v' W (h1 : XsR l W.heap.size W v y) (h2 : XsR l' W.heap.size W v' y) => (refsame_any l l' v v' y y W h1 h2).mono fun _ _ h => (by rwa [show sameB y y = true by simp [sameB]] at h : _ = Ending.returned (.bool true) ∧ Below W.heap.size W _)
  generalize sameB x o = SB at *
  replace hsx := hide hsx; replace hsy := hide hsy; replace h21 := hide h21
  have d0 := ((unhide X14).get 0 rfl).cell 0; have d1 := ((unhide X14).get 0 rfl).cell 1; have l0 := ((unhide X14).get 0 rfl).lt
  have d2 := ((unhide X14).get 1 rfl).cell 0; have d3 := ((unhide X14).get 1 rfl).cell 1; have l1 := ((unhide X14).get 1 rfl).lt
  have d4 := ((unhide X14).get 3 rfl).cell 0; have d5 := ((unhide X14).get 3 rfl).cell 1; have l2 := ((unhide X14).get 3 rfl).lt
  have d6 := ((unhide X14).get 4 rfl).cell 0; have d7 := ((unhide X14).get 4 rfl).cell 1; have l3 := ((unhide X14).get 4 rfl).lt
  have d8 := ((unhide X14).get 5 rfl).cell 0; have d9 := ((unhide X14).get 5 rfl).cell 1; have l4 := ((unhide X14).get 5 rfl).lt
  have d10 := ((unhide X14).get 6 rfl).cell 0; have d11 := ((unhide X14).get 6 rfl).cell 1; have l5 := ((unhide X14).get 6 rfl).lt
  have d12 := ((unhide X14).get 7 rfl).cell 0; have d13 := ((unhide X14).get 7 rfl).cell 1; have l6 := ((unhide X14).get 7 rfl).lt
  have d14 := ((unhide X14).get 8 rfl).cell 0; have d15 := ((unhide X14).get 8 rfl).cell 1; have l7 := ((unhide X14).get 8 rfl).lt
  have d16 := ((unhide X14).get 9 rfl).cell 0; have d17 := ((unhide X14).get 9 rfl).cell 1; have l8 := ((unhide X14).get 9 rfl).lt
  have d18 := ((unhide X14).get 10 rfl).cell 0; have d19 := ((unhide X14).get 10 rfl).cell 1; have l9 := ((unhide X14).get 10 rfl).lt
  have d20 := ((unhide X14).get 11 rfl).cell 0; have d21 := ((unhide X14).get 11 rfl).cell 1; have l10 := ((unhide X14).get 11 rfl).lt
  have d22 := ((unhide X14).get 12 rfl).cell 0; have d23 := ((unhide X14).get 12 rfl).cell 1; have l11 := ((unhide X14).get 12 rfl).lt
  simp at d0 d1 d2 d3 d4 d5 d6 d7 d8 d9 d10 d11 d12 d13 d14 d15 d16 d17 d18 d19 d20 d21 d22 d23
  have tok1 : True := trivial; have tok2 : True := trivial; have tok3 : True := trivial; have tok4 : True := trivial
  go_cut [35] (fun s35 wc => s35 = .bool true ∧ Hid (Fx wc [(w.heap.size, 24, #[.int .i64 x.size, .slice A x.free.length c]), (w5.heap.size + 1, 24, #[.int .i64 yT.size, .slice A5 yT.free.length c5]), (w7.heap.size, 24, #[.int .i64 yK.size, .slice A7 yK.free.length c7]), (w9.heap.size, 24, #[.int .i64 yG.size, .slice A9 yG.free.length c9])] [(w4.heap.size, .slice A5 yT.free.length c5, yT.free), (((w6.alloc (.cells #[.int .i64 ta, .int .i64 tl] 26)).alloc (.cells #[.int .i64 yT.size, .slice A6 yT.free.length c6] 24)).heap.size, .slice A7 yK.free.length c7, yK.free), ((w8.alloc (.cells #[.int .i64 yK.size, .slice A8 yK.free.length c8] 24)).heap.size, .slice A9 yG.free.length c9, yG.free)] [(lo, w.heap.size, .agg #[.int .i64 x.size, .slice A x.free.length c], x), (w.heap.size, w4.heap.size, .agg #[.int .i64 x.size, .slice A4 x.free.length c4], x)]) ∧ Hid (Below w.heap.size w wc))
  case first =>
    simp only [List.append]
    go_region_held3 (fun W => W.cell? ⟨w.heap.size, 0, none⟩ = some (.int .i64 x.size) ∧ W.cell? ⟨w.heap.size, 1, none⟩ = some (.slice A x.free.length c) ∧ W.cell? ⟨(w.heap.size + 1), 0, none⟩ = some (.int .i64 o.size) ∧ W.cell? ⟨(w.heap.size + 1), 1, none⟩ = some (bo) ∧ W.cell? ⟨w5.heap.size, 0, none⟩ = some (.int .i64 ta) ∧ W.cell? ⟨w5.heap.size, 1, none⟩ = some (.int .i64 tl) ∧ W.cell? ⟨(w5.heap.size + 1), 0, none⟩ = some (.int .i64 yT.size) ∧ W.cell? ⟨(w5.heap.size + 1), 1, none⟩ = some (.slice A5 yT.free.length c5) ∧ W.cell? ⟨w6.heap.size, 0, none⟩ = some (.int .i64 ta) ∧ W.cell? ⟨w6.heap.size, 1, none⟩ = some (.int .i64 tl) ∧ W.cell? ⟨(w6.heap.size + 1), 0, none⟩ = some (.int .i64 yT.size) ∧ W.cell? ⟨(w6.heap.size + 1), 1, none⟩ = some (.slice A6 yT.free.length c6) ∧ W.cell? ⟨w7.heap.size, 0, none⟩ = some (.int .i64 yK.size) ∧ W.cell? ⟨w7.heap.size, 1, none⟩ = some (.slice A7 yK.free.length c7) ∧ W.cell? ⟨w8.heap.size, 0, none⟩ = some (.int .i64 yK.size) ∧ W.cell? ⟨w8.heap.size, 1, none⟩ = some (.slice A8 yK.free.length c8) ∧ W.cell? ⟨w9.heap.size, 0, none⟩ = some (.int .i64 yG.size) ∧ W.cell? ⟨w9.heap.size, 1, none⟩ = some (.slice A9 yG.free.length c9) ∧ W.cell? ⟨w10.heap.size, 0, none⟩ = some (.int .i64 yG.size) ∧ W.cell? ⟨w10.heap.size, 1, none⟩ = some (.slice A10 yG.free.length c10) ∧ W.cell? ⟨w11.heap.size, 0, none⟩ = some (.int .i64 yN.size) ∧ W.cell? ⟨w11.heap.size, 1, none⟩ = some (.slice A11 yN.free.length c11) ∧ W.cell? ⟨w12.heap.size, 0, none⟩ = some (.int .i64 yN.size) ∧ W.cell? ⟨w12.heap.size, 1, none⟩ = some (.slice A12 yN.free.length c12)) (first | exact ⟨by with_reducible assumption, by with_reducible assumption, by with_reducible assumption, by with_reducible assumption, by with_reducible assumption, by with_reducible assumption, by with_reducible assumption, by with_reducible assumption, by with_reducible assumption, by with_reducible assumption, by with_reducible assumption, by with_reducible assumption, by with_reducible assumption, by with_reducible assumption, by with_reducible assumption, by with_reducible assumption, by with_reducible assumption, by with_reducible assumption, by with_reducible assumption, by with_reducible assumption, by with_reducible assumption, by with_reducible assumption, by with_reducible assumption, by with_reducible assumption⟩ | exact ⟨by go_simp, by go_simp, by go_simp, by go_simp, by go_simp, by go_simp, by go_simp, by go_simp, by go_simp, by go_simp, by go_simp, by go_simp, by go_simp, by go_simp, by go_simp, by go_simp, by go_simp, by go_simp, by go_simp, by go_simp, by go_simp, by go_simp, by go_simp, by go_simp⟩)
      (first
        | (go_at_call 21; have _t := tok1; clear tok1 _t; refine (unhide h21 ⟨yT.size, yT.free⟩ _ _ _ _ _ (((unhide X14).drew).ox 1 rfl _) (((unhide X14).drew).ox 2 rfl _)).mono ?_; rintro e w15 ⟨rfl, hb15⟩
           have X15 := Fx.below ((unhide X14).drew) hb15
           have B15 := bl_call ((unhide B14).drew) hb15
           have r15_0 := (X15.get 0 rfl).cell 0; have r15_1 := (X15.get 0 rfl).cell 1
           have r15_2 := (X15.get 1 rfl).cell 0; have r15_3 := (X15.get 1 rfl).cell 1
           have r15_4 := (X15.get 3 rfl).cell 0; have r15_5 := (X15.get 3 rfl).cell 1
           have r15_6 := (X15.get 4 rfl).cell 0; have r15_7 := (X15.get 4 rfl).cell 1
           have r15_8 := (X15.get 5 rfl).cell 0; have r15_9 := (X15.get 5 rfl).cell 1
           have r15_10 := (X15.get 6 rfl).cell 0; have r15_11 := (X15.get 6 rfl).cell 1
           have r15_12 := (X15.get 7 rfl).cell 0; have r15_13 := (X15.get 7 rfl).cell 1
           have r15_14 := (X15.get 8 rfl).cell 0; have r15_15 := (X15.get 8 rfl).cell 1
           have r15_16 := (X15.get 9 rfl).cell 0; have r15_17 := (X15.get 9 rfl).cell 1
           have r15_18 := (X15.get 10 rfl).cell 0; have r15_19 := (X15.get 10 rfl).cell 1
           have r15_20 := (X15.get 11 rfl).cell 0; have r15_21 := (X15.get 11 rfl).cell 1
           have r15_22 := (X15.get 12 rfl).cell 0; have r15_23 := (X15.get 12 rfl).cell 1
           simp at r15_0 r15_1 r15_2 r15_3 r15_4 r15_5 r15_6 r15_7 r15_8 r15_9 r15_10 r15_11 r15_12 r15_13 r15_14 r15_15 r15_16 r15_17 r15_18 r15_19 r15_20 r15_21 r15_22 r15_23
           replace X15 := hide X15; replace B15 := hide B15
           clear hb15)
        | (go_at_call 21; have _t := tok2; clear tok2 _t; refine (unhide h21 ⟨yK.size, yK.free⟩ _ _ _ _ _ (((unhide X15)).ox 3 rfl _) (((unhide X15)).ox 4 rfl _)).mono ?_; rintro e w16 ⟨rfl, hb16⟩
           have X16 := Fx.below ((unhide X15)) hb16
           have B16 := bl_call ((unhide B15)) hb16
           have r16_0 := (X16.get 0 rfl).cell 0; have r16_1 := (X16.get 0 rfl).cell 1
           have r16_2 := (X16.get 1 rfl).cell 0; have r16_3 := (X16.get 1 rfl).cell 1
           have r16_4 := (X16.get 3 rfl).cell 0; have r16_5 := (X16.get 3 rfl).cell 1
           have r16_6 := (X16.get 4 rfl).cell 0; have r16_7 := (X16.get 4 rfl).cell 1
           have r16_8 := (X16.get 5 rfl).cell 0; have r16_9 := (X16.get 5 rfl).cell 1
           have r16_10 := (X16.get 6 rfl).cell 0; have r16_11 := (X16.get 6 rfl).cell 1
           have r16_12 := (X16.get 7 rfl).cell 0; have r16_13 := (X16.get 7 rfl).cell 1
           have r16_14 := (X16.get 8 rfl).cell 0; have r16_15 := (X16.get 8 rfl).cell 1
           have r16_16 := (X16.get 9 rfl).cell 0; have r16_17 := (X16.get 9 rfl).cell 1
           have r16_18 := (X16.get 10 rfl).cell 0; have r16_19 := (X16.get 10 rfl).cell 1
           have r16_20 := (X16.get 11 rfl).cell 0; have r16_21 := (X16.get 11 rfl).cell 1
           have r16_22 := (X16.get 12 rfl).cell 0; have r16_23 := (X16.get 12 rfl).cell 1
           simp at r16_0 r16_1 r16_2 r16_3 r16_4 r16_5 r16_6 r16_7 r16_8 r16_9 r16_10 r16_11 r16_12 r16_13 r16_14 r16_15 r16_16 r16_17 r16_18 r16_19 r16_20 r16_21 r16_22 r16_23
           replace X16 := hide X16; replace B16 := hide B16
           clear hb16)
        | (go_at_call 21; have _t := tok3; clear tok3 _t; refine (unhide h21 ⟨yG.size, yG.free⟩ _ _ _ _ _ (((unhide X16)).ox 5 rfl _) (((unhide X16)).ox 6 rfl _)).mono ?_; rintro e w17 ⟨rfl, hb17⟩
           have X17 := Fx.below ((unhide X16)) hb17
           have B17 := bl_call ((unhide B16)) hb17
           have r17_0 := (X17.get 0 rfl).cell 0; have r17_1 := (X17.get 0 rfl).cell 1
           have r17_2 := (X17.get 1 rfl).cell 0; have r17_3 := (X17.get 1 rfl).cell 1
           have r17_4 := (X17.get 3 rfl).cell 0; have r17_5 := (X17.get 3 rfl).cell 1
           have r17_6 := (X17.get 4 rfl).cell 0; have r17_7 := (X17.get 4 rfl).cell 1
           have r17_8 := (X17.get 5 rfl).cell 0; have r17_9 := (X17.get 5 rfl).cell 1
           have r17_10 := (X17.get 6 rfl).cell 0; have r17_11 := (X17.get 6 rfl).cell 1
           have r17_12 := (X17.get 7 rfl).cell 0; have r17_13 := (X17.get 7 rfl).cell 1
           have r17_14 := (X17.get 8 rfl).cell 0; have r17_15 := (X17.get 8 rfl).cell 1
           have r17_16 := (X17.get 9 rfl).cell 0; have r17_17 := (X17.get 9 rfl).cell 1
           have r17_18 := (X17.get 10 rfl).cell 0; have r17_19 := (X17.get 10 rfl).cell 1
           have r17_20 := (X17.get 11 rfl).cell 0; have r17_21 := (X17.get 11 rfl).cell 1
           have r17_22 := (X17.get 12 rfl).cell 0; have r17_23 := (X17.get 12 rfl).cell 1
           simp at r17_0 r17_1 r17_2 r17_3 r17_4 r17_5 r17_6 r17_7 r17_8 r17_9 r17_10 r17_11 r17_12 r17_13 r17_14 r17_15 r17_16 r17_17 r17_18 r17_19 r17_20 r17_21 r17_22 r17_23
           replace X17 := hide X17; replace B17 := hide B17
           clear hb17)
        | (go_at_call 21; have _t := tok4; clear tok4 _t; refine (unhide h21 yN _ _ _ _ _ (((unhide X17)).xr 3 rfl) (((unhide X17)).xr 4 rfl)).mono ?_; rintro e w18 ⟨rfl, hb18⟩
           have X18 := Fx.below ((unhide X17)) hb18
           have B18 := bl_call ((unhide B17)) hb18
           have r18_0 := (X18.get 0 rfl).cell 0; have r18_1 := (X18.get 0 rfl).cell 1
           have r18_2 := (X18.get 1 rfl).cell 0; have r18_3 := (X18.get 1 rfl).cell 1
           have r18_4 := (X18.get 3 rfl).cell 0; have r18_5 := (X18.get 3 rfl).cell 1
           have r18_6 := (X18.get 4 rfl).cell 0; have r18_7 := (X18.get 4 rfl).cell 1
           have r18_8 := (X18.get 5 rfl).cell 0; have r18_9 := (X18.get 5 rfl).cell 1
           have r18_10 := (X18.get 6 rfl).cell 0; have r18_11 := (X18.get 6 rfl).cell 1
           have r18_12 := (X18.get 7 rfl).cell 0; have r18_13 := (X18.get 7 rfl).cell 1
           have r18_14 := (X18.get 8 rfl).cell 0; have r18_15 := (X18.get 8 rfl).cell 1
           have r18_16 := (X18.get 9 rfl).cell 0; have r18_17 := (X18.get 9 rfl).cell 1
           have r18_18 := (X18.get 10 rfl).cell 0; have r18_19 := (X18.get 10 rfl).cell 1
           have r18_20 := (X18.get 11 rfl).cell 0; have r18_21 := (X18.get 11 rfl).cell 1
           have r18_22 := (X18.get 12 rfl).cell 0; have r18_23 := (X18.get 12 rfl).cell 1
           simp at r18_0 r18_1 r18_2 r18_3 r18_4 r18_5 r18_6 r18_7 r18_8 r18_9 r18_10 r18_11 r18_12 r18_13 r18_14 r18_15 r18_16 r18_17 r18_18 r18_19 r18_20 r18_21 r18_22 r18_23
           replace X18 := hide X18; replace B18 := hide B18
           clear hb18)
        | (go_at_call 22; refine (unhide hck _ (unhide B18)).mono ?_; rintro e w19 ⟨rfl, hb19⟩
           have X19 := Fx.below ((unhide X18)) hb19
           have B19 := bl_call ((unhide B18)) hb19
           have r19_0 := (X19.get 0 rfl).cell 0; have r19_1 := (X19.get 0 rfl).cell 1
           have r19_2 := (X19.get 1 rfl).cell 0; have r19_3 := (X19.get 1 rfl).cell 1
           have r19_4 := (X19.get 3 rfl).cell 0; have r19_5 := (X19.get 3 rfl).cell 1
           have r19_6 := (X19.get 4 rfl).cell 0; have r19_7 := (X19.get 4 rfl).cell 1
           have r19_8 := (X19.get 5 rfl).cell 0; have r19_9 := (X19.get 5 rfl).cell 1
           have r19_10 := (X19.get 6 rfl).cell 0; have r19_11 := (X19.get 6 rfl).cell 1
           have r19_12 := (X19.get 7 rfl).cell 0; have r19_13 := (X19.get 7 rfl).cell 1
           have r19_14 := (X19.get 8 rfl).cell 0; have r19_15 := (X19.get 8 rfl).cell 1
           have r19_16 := (X19.get 9 rfl).cell 0; have r19_17 := (X19.get 9 rfl).cell 1
           have r19_18 := (X19.get 10 rfl).cell 0; have r19_19 := (X19.get 10 rfl).cell 1
           have r19_20 := (X19.get 11 rfl).cell 0; have r19_21 := (X19.get 11 rfl).cell 1
           have r19_22 := (X19.get 12 rfl).cell 0; have r19_23 := (X19.get 12 rfl).cell 1
           simp at r19_0 r19_1 r19_2 r19_3 r19_4 r19_5 r19_6 r19_7 r19_8 r19_9 r19_10 r19_11 r19_12 r19_13 r19_14 r19_15 r19_16 r19_17 r19_18 r19_19 r19_20 r19_21 r19_22 r19_23
           replace X19 := hide X19; replace B19 := hide B19
           clear hb19)
        | (go_at_call 23; refine (unhide hrck _ (unhide B19)).mono ?_; rintro e w20 ⟨rfl, hb20⟩
           have X20 := Fx.below ((unhide X19)) hb20
           have B20 := bl_call ((unhide B19)) hb20
           have r20_0 := (X20.get 0 rfl).cell 0; have r20_1 := (X20.get 0 rfl).cell 1
           have r20_2 := (X20.get 1 rfl).cell 0; have r20_3 := (X20.get 1 rfl).cell 1
           have r20_4 := (X20.get 3 rfl).cell 0; have r20_5 := (X20.get 3 rfl).cell 1
           have r20_6 := (X20.get 4 rfl).cell 0; have r20_7 := (X20.get 4 rfl).cell 1
           have r20_8 := (X20.get 5 rfl).cell 0; have r20_9 := (X20.get 5 rfl).cell 1
           have r20_10 := (X20.get 6 rfl).cell 0; have r20_11 := (X20.get 6 rfl).cell 1
           have r20_12 := (X20.get 7 rfl).cell 0; have r20_13 := (X20.get 7 rfl).cell 1
           have r20_14 := (X20.get 8 rfl).cell 0; have r20_15 := (X20.get 8 rfl).cell 1
           have r20_16 := (X20.get 9 rfl).cell 0; have r20_17 := (X20.get 9 rfl).cell 1
           have r20_18 := (X20.get 10 rfl).cell 0; have r20_19 := (X20.get 10 rfl).cell 1
           have r20_20 := (X20.get 11 rfl).cell 0; have r20_21 := (X20.get 11 rfl).cell 1
           have r20_22 := (X20.get 12 rfl).cell 0; have r20_23 := (X20.get 12 rfl).cell 1
           simp at r20_0 r20_1 r20_2 r20_3 r20_4 r20_5 r20_6 r20_7 r20_8 r20_9 r20_10 r20_11 r20_12 r20_13 r20_14 r20_15 r20_16 r20_17 r20_18 r20_19 r20_20 r20_21 r20_22 r20_23
           replace X20 := hide X20; replace B20 := hide B20
           clear hb20)
        | (go_at_call 24; refine (unhide hsx _ (((unhide X20)).xr 0 rfl) (((unhide X20)).xr 1 rfl)).mono ?_; rintro e w21 ⟨rfl, hb21⟩
           have X21 := Fx.below ((unhide X20)) hb21
           have B21 := bl_call ((unhide B20)) hb21
           have r21_0 := (X21.get 0 rfl).cell 0; have r21_1 := (X21.get 0 rfl).cell 1
           have r21_2 := (X21.get 1 rfl).cell 0; have r21_3 := (X21.get 1 rfl).cell 1
           have r21_4 := (X21.get 3 rfl).cell 0; have r21_5 := (X21.get 3 rfl).cell 1
           have r21_6 := (X21.get 4 rfl).cell 0; have r21_7 := (X21.get 4 rfl).cell 1
           have r21_8 := (X21.get 5 rfl).cell 0; have r21_9 := (X21.get 5 rfl).cell 1
           have r21_10 := (X21.get 6 rfl).cell 0; have r21_11 := (X21.get 6 rfl).cell 1
           have r21_12 := (X21.get 7 rfl).cell 0; have r21_13 := (X21.get 7 rfl).cell 1
           have r21_14 := (X21.get 8 rfl).cell 0; have r21_15 := (X21.get 8 rfl).cell 1
           have r21_16 := (X21.get 9 rfl).cell 0; have r21_17 := (X21.get 9 rfl).cell 1
           have r21_18 := (X21.get 10 rfl).cell 0; have r21_19 := (X21.get 10 rfl).cell 1
           have r21_20 := (X21.get 11 rfl).cell 0; have r21_21 := (X21.get 11 rfl).cell 1
           have r21_22 := (X21.get 12 rfl).cell 0; have r21_23 := (X21.get 12 rfl).cell 1
           simp at r21_0 r21_1 r21_2 r21_3 r21_4 r21_5 r21_6 r21_7 r21_8 r21_9 r21_10 r21_11 r21_12 r21_13 r21_14 r21_15 r21_16 r21_17 r21_18 r21_19 r21_20 r21_21 r21_22 r21_23
           replace X21 := hide X21; replace B21 := hide B21
           clear hb21)
        | (go_at_call 21; refine (unhide hsy _ (((unhide X21)).xr 0 rfl) (((unhide X21)).xr 1 rfl)).mono ?_; rintro e w22 ⟨rfl, hb22⟩
           have X22 := Fx.below ((unhide X21)) hb22
           have B22 := bl_call ((unhide B21)) hb22
           have r22_0 := (X22.get 0 rfl).cell 0; have r22_1 := (X22.get 0 rfl).cell 1
           have r22_2 := (X22.get 1 rfl).cell 0; have r22_3 := (X22.get 1 rfl).cell 1
           have r22_4 := (X22.get 3 rfl).cell 0; have r22_5 := (X22.get 3 rfl).cell 1
           have r22_6 := (X22.get 4 rfl).cell 0; have r22_7 := (X22.get 4 rfl).cell 1
           have r22_8 := (X22.get 5 rfl).cell 0; have r22_9 := (X22.get 5 rfl).cell 1
           have r22_10 := (X22.get 6 rfl).cell 0; have r22_11 := (X22.get 6 rfl).cell 1
           have r22_12 := (X22.get 7 rfl).cell 0; have r22_13 := (X22.get 7 rfl).cell 1
           have r22_14 := (X22.get 8 rfl).cell 0; have r22_15 := (X22.get 8 rfl).cell 1
           have r22_16 := (X22.get 9 rfl).cell 0; have r22_17 := (X22.get 9 rfl).cell 1
           have r22_18 := (X22.get 10 rfl).cell 0; have r22_19 := (X22.get 10 rfl).cell 1
           have r22_20 := (X22.get 11 rfl).cell 0; have r22_21 := (X22.get 11 rfl).cell 1
           have r22_22 := (X22.get 12 rfl).cell 0; have r22_23 := (X22.get 12 rfl).cell 1
           simp at r22_0 r22_1 r22_2 r22_3 r22_4 r22_5 r22_6 r22_7 r22_8 r22_9 r22_10 r22_11 r22_12 r22_13 r22_14 r22_15 r22_16 r22_17 r22_18 r22_19 r22_20 r22_21 r22_22 r22_23
           replace X22 := hide X22; replace B22 := hide B22
           clear hb22)
        | fail)
    all_goals
      go_wp2_with fail
      go_meet
      exact ⟨rfl, hide ((((Fx.nil _).addB ((unhide X22).get 0 rfl)).addB ((unhide X22).get 4 rfl) |>.addB ((unhide X22).get 7 rfl) |>.addB ((unhide X22).get 9 rfl) |>.addR ((unhide X22).own 1 rfl) |>.addR ((unhide X22).own 3 rfl) |>.addR ((unhide X22).own 5 rfl) |>.addX ((unhide X22).xs _ (List.mem_of_getElem? (i := 0) rfl)).1 ((unhide X22).xs _ (List.mem_of_getElem? (i := 0) rfl)).2 |>.addX ((unhide X22).xs _ (List.mem_of_getElem? (i := 2) rfl)).1 ((unhide X22).xs _ (List.mem_of_getElem? (i := 2) rfl)).2)), B22⟩
  case rest =>
    obtain ⟨rfl, X9, B9⟩ := hcut
    have q1 : w.heap.size ≤ w4.heap.size := (unhide B4).size
    have q2 : w4.heap.size ≤ ((w6.alloc (.cells #[.int .i64 ta, .int .i64 tl] 26)).alloc (.cells #[.int .i64 yT.size, .slice A6 yT.free.length c6] 24)).heap.size := by have := (unhide hz7); exact this
    have q3 : ((w6.alloc (.cells #[.int .i64 ta, .int .i64 tl] 26)).alloc (.cells #[.int .i64 yT.size, .slice A6 yT.free.length c6] 24)).heap.size ≤ (w8.alloc (.cells #[.int .i64 yK.size, .slice A8 yK.free.length c8] 24)).heap.size := by have := (unhide hz9); exact this
    have hlenT : yT.free.length ≤ 9223372036854775807 := by obtain ⟨A', c', e, h1, h2, _⟩ := (Exs.of_own ((unhide X9).own 0 rfl)).open; omega
    have hlenK : yK.free.length ≤ 9223372036854775807 := by obtain ⟨A', c', e, h1, h2, _⟩ := (Exs.of_own ((unhide X9).own 1 rfl)).open; omega
    have hlenG : yG.free.length ≤ 9223372036854775807 := by obtain ⟨A', c', e, h1, h2, _⟩ := (Exs.of_own ((unhide X9).own 2 rfl)).open; omega
    have vT' := unhide vT
    have vK' := unhide vK
    clear vT vK
    generalize (w8.alloc (.cells #[.int .i64 yK.size, .slice A8 yK.free.length c8] 24)).heap.size = B9z at *
    generalize ((w6.alloc (.cells #[.int .i64 ta, .int .i64 tl] 26)).alloc (.cells #[.int .i64 yT.size, .slice A6 yT.free.length c6] 24)).heap.size = B7z at *
    have vG : ∀ k, (Value.slice A9 yG.free.length c9).ownBlock = some k → B9z ≤ k := own_base ((unhide X9).own 2 rfl)
    generalize w4.heap.size = B4z at *
    replace q1 := hide q1; replace q2 := hide q2; replace q3 := hide q3; replace vT' := hide vT'; replace vK' := hide vK'; replace vG := hide vG; replace hlenT := hide hlenT; replace hlenK := hide hlenK; replace hlenG := hide hlenG
    clear hsx hsy h21 X14 B14
    have KT := (unhide X9).get 1 rfl
    have t0 := KT.cell 1
    simp at t0
    have tl' := KT.lt
    have RT := (unhide X9).own 0 rfl
    have ZT : Fx wc [(w.heap.size, 24, #[.int .i64 x.size, .slice A x.free.length c]), (w5.heap.size + 1, 24, #[.int .i64 yT.size, .slice A5 yT.free.length c5]), (w7.heap.size, 24, #[.int .i64 yK.size, .slice A7 yK.free.length c7]), (w9.heap.size, 24, #[.int .i64 yG.size, .slice A9 yG.free.length c9])] [(B7z, .slice A7 yK.free.length c7, yK.free), (B9z, .slice A9 yG.free.length c9, yG.free)] [(lo, w.heap.size, .agg #[.int .i64 x.size, .slice A x.free.length c], x), (w.heap.size, B4z, .agg #[.int .i64 x.size, .slice A4 x.free.length c4], x)] := ⟨(unhide X9).blk, fun p hp => (unhide X9).row p (List.mem_cons_of_mem _ hp), (unhide X9).xs⟩
    replace RT := hide RT; replace ZT := hide ZT
    clear KT
    go_wp2_with fail
    clear t0 tl'
    go_loopw [190] (fun i wr => ∃ (k : Nat) (l : List Ex), k ≤ yT.free.length ∧ i = .int .i64 k ∧ Hid (l.length = yT.free.length) ∧ Hid (wr.ownsRow B4z 26 2 (.slice A5 yT.free.length c5) yT.free.length (l.flatMap exv)) ∧ Hid (Fx wr [(w.heap.size, 24, #[.int .i64 x.size, .slice A x.free.length c]), (w5.heap.size + 1, 24, #[.int .i64 yT.size, .slice A5 yT.free.length c5]), (w7.heap.size, 24, #[.int .i64 yK.size, .slice A7 yK.free.length c7]), (w9.heap.size, 24, #[.int .i64 yG.size, .slice A9 yG.free.length c9])] [(B7z, .slice A7 yK.free.length c7, yK.free), (B9z, .slice A9 yG.free.length c9, yG.free)] [(lo, w.heap.size, .agg #[.int .i64 x.size, .slice A x.free.length c], x), (w.heap.size, B4z, .agg #[.int .i64 x.size, .slice A4 x.free.length c4], x)]) ∧ Hid (Below w.heap.size w wr)) (fun i _ => yT.free.length - (intOf i).toNat)
    case atStart => exact ⟨0, yT.free, Nat.zero_le _, rfl, hide rfl, RT, ZT, B9⟩
    case round =>
      clear RT ZT X9 B9
      obtain ⟨k, l, hk, rfl, hl, hR, hZ, hB⟩ := hrel
      by_cases hlt : k < yT.free.length
      · obtain ⟨g, cur, rfl, hbg, hcur⟩ := own_pos2 (unhide hR) (by omega)
        have c0 := own_cell2 (unhide hR) (unhide hl) hlt
        have fx := hcur.frozen (k * 2)
        have gl := hcur.lt
        have kz := (unhide hl).symm ▸ hlt
        obtain ⟨z, hz⟩ : ∃ z, z = wrap64 (l[k].at_ + 1) := ⟨_, rfl⟩
        have o2 := own_put2 (k := k * 2) (unhide hR) (.int .i64 z)
        rw [flat_set l k kz z] at o2
        have hl2 : (l.set k ⟨z, l[k].len⟩).length = yT.free.length := by rw [List.length_set]; exact unhide hl
        have Z2 := (unhide hZ).put (k := k * 2) (u := .int .i64 z) hcur (by simp) (by have : g < B7z := unhide vT' _ _ _ rfl; have := unhide q3; simp only [List.mem_cons, List.not_mem_nil, or_false]; rintro p (rfl | rfl) <;> (simp only []; omega)) (by have := unhide q1; have := unhide q2; have := unhide q3; simp; omega)
        have B2 := (unhide hB).setCell (p := ⟨g, k * 2, none⟩) (by have := unhide q1; have := unhide q2; have := unhide q3; show w.heap.size ≤ g; omega) (.int .i64 z)
        generalize l.set k ⟨z, l[k].len⟩ = l2 at *
        generalize l[k].at_ = at0 at *
        have KT := (unhide hZ).get 1 rfl
        have t0 := KT.cell 1
        simp at t0
        have tl' := KT.lt
        have i1 : IntKind.i64.wrap ((k : Int) + 1) = (k : Int) + 1 := IntWalk.i64_in _ (by have := unhide hlenT; omega)
        have hk0 : (0 : Int) ≤ (k : Int) := by omega
        have hk1 : (k : Int) < (yT.free.length : Int) := by omega
        replace o2 := hide o2; replace hl2 := hide hl2; replace Z2 := hide Z2; replace B2 := hide B2; replace hbg := hide hbg; replace kz := hide kz
        clear KT hcur hR hZ hB hl
        go_wp2_with fail
        clear i1
        subst hz
        go_roundw
        case rel => exact ⟨k + 1, l2, by omega, by go_num, hl2, o2, Z2, B2⟩
        case measure => simp [intOf]; omega
      · obtain rfl : k = yT.free.length := by omega
        clear hR hl
        have KT := (unhide hZ).get 2 rfl
        have t0 := KT.cell 1
        simp at t0
        have tl' := KT.lt
        have RK := (unhide hZ).own 0 rfl
        have ZK : Fx wr [(w.heap.size, 24, #[.int .i64 x.size, .slice A x.free.length c]), (w5.heap.size + 1, 24, #[.int .i64 yT.size, .slice A5 yT.free.length c5]), (w7.heap.size, 24, #[.int .i64 yK.size, .slice A7 yK.free.length c7]), (w9.heap.size, 24, #[.int .i64 yG.size, .slice A9 yG.free.length c9])] [(B9z, .slice A9 yG.free.length c9, yG.free)] [(lo, w.heap.size, .agg #[.int .i64 x.size, .slice A x.free.length c], x), (w.heap.size, B4z, .agg #[.int .i64 x.size, .slice A4 x.free.length c4], x)] := ⟨(unhide hZ).blk, fun p hp => (unhide hZ).row p (List.mem_cons_of_mem _ hp), (unhide hZ).xs⟩
        replace RK := hide RK; replace ZK := hide ZK
        clear KT
        go_wp2_with fail
        clear t0 tl'
        go_loopw [206] (fun i wr => ∃ (k : Nat) (l : List Ex), k ≤ yK.free.length ∧ i = .int .i64 k ∧ Hid (l.length = yK.free.length) ∧ Hid (wr.ownsRow B7z 26 2 (.slice A7 yK.free.length c7) yK.free.length (l.flatMap exv)) ∧ Hid (Fx wr [(w.heap.size, 24, #[.int .i64 x.size, .slice A x.free.length c]), (w5.heap.size + 1, 24, #[.int .i64 yT.size, .slice A5 yT.free.length c5]), (w7.heap.size, 24, #[.int .i64 yK.size, .slice A7 yK.free.length c7]), (w9.heap.size, 24, #[.int .i64 yG.size, .slice A9 yG.free.length c9])] [(B9z, .slice A9 yG.free.length c9, yG.free)] [(lo, w.heap.size, .agg #[.int .i64 x.size, .slice A x.free.length c], x), (w.heap.size, B4z, .agg #[.int .i64 x.size, .slice A4 x.free.length c4], x)]) ∧ Hid (Below w.heap.size w wr)) (fun i _ => yK.free.length - (intOf i).toNat)
        case atStart => exact ⟨0, yK.free, Nat.zero_le _, rfl, hide rfl, RK, ZK, hB⟩
        case round =>
          clear RK ZK hZ hB
          obtain ⟨k, l, hk, rfl, hl, hR, hZ, hB⟩ := hrel
          by_cases hlt : k < yK.free.length
          · obtain ⟨g, cur, rfl, hbg, hcur⟩ := own_pos2 (unhide hR) (by omega)
            have c0 := own_cell2 (unhide hR) (unhide hl) hlt
            have fx := hcur.frozen (k * 2)
            have gl := hcur.lt
            have kz := (unhide hl).symm ▸ hlt
            obtain ⟨z, hz⟩ : ∃ z, z = wrap64 (l[k].at_ + 1) := ⟨_, rfl⟩
            have o2 := own_put2 (k := k * 2) (unhide hR) (.int .i64 z)
            rw [flat_set l k kz z] at o2
            have hl2 : (l.set k ⟨z, l[k].len⟩).length = yK.free.length := by rw [List.length_set]; exact unhide hl
            have Z2 := (unhide hZ).put (k := k * 2) (u := .int .i64 z) hcur (by simp) (by have : g < B9z := unhide vK' _ _ _ rfl; have := unhide q3; simp only [List.mem_cons, List.not_mem_nil, or_false]; rintro p (rfl) <;> (simp only []; omega)) (by have := unhide q1; have := unhide q2; have := unhide q3; simp; omega)
            have B2 := (unhide hB).setCell (p := ⟨g, k * 2, none⟩) (by have := unhide q1; have := unhide q2; have := unhide q3; show w.heap.size ≤ g; omega) (.int .i64 z)
            generalize l.set k ⟨z, l[k].len⟩ = l2 at *
            generalize l[k].at_ = at0 at *
            have KT := (unhide hZ).get 2 rfl
            have t0 := KT.cell 1
            simp at t0
            have tl' := KT.lt
            have i1 : IntKind.i64.wrap ((k : Int) + 1) = (k : Int) + 1 := IntWalk.i64_in _ (by have := unhide hlenK; omega)
            have hk0 : (0 : Int) ≤ (k : Int) := by omega
            have hk1 : (k : Int) < (yK.free.length : Int) := by omega
            replace o2 := hide o2; replace hl2 := hide hl2; replace Z2 := hide Z2; replace B2 := hide B2; replace hbg := hide hbg; replace kz := hide kz
            clear KT hcur hR hZ hB hl
            go_wp2_with fail
            clear i1
            subst hz
            go_roundw
            case rel => exact ⟨k + 1, l2, by omega, by go_num, hl2, o2, Z2, B2⟩
            case measure => simp [intOf]; omega
          · obtain rfl : k = yK.free.length := by omega
            clear hR hl
            have KT := (unhide hZ).get 3 rfl
            have t0 := KT.cell 1
            simp at t0
            have tl' := KT.lt
            have RG := (unhide hZ).own 0 rfl
            have ZG : Fx wr [(w.heap.size, 24, #[.int .i64 x.size, .slice A x.free.length c]), (w5.heap.size + 1, 24, #[.int .i64 yT.size, .slice A5 yT.free.length c5]), (w7.heap.size, 24, #[.int .i64 yK.size, .slice A7 yK.free.length c7]), (w9.heap.size, 24, #[.int .i64 yG.size, .slice A9 yG.free.length c9])] [] [(lo, w.heap.size, .agg #[.int .i64 x.size, .slice A x.free.length c], x), (w.heap.size, B4z, .agg #[.int .i64 x.size, .slice A4 x.free.length c4], x)] := ⟨(unhide hZ).blk, fun p hp => (unhide hZ).row p (List.mem_cons_of_mem _ hp), (unhide hZ).xs⟩
            replace RG := hide RG; replace ZG := hide ZG
            clear KT
            go_wp2_with fail
            clear t0 tl'
            go_loopw [222] (fun i wr => ∃ (k : Nat) (l : List Ex), k ≤ yG.free.length ∧ i = .int .i64 k ∧ Hid (l.length = yG.free.length) ∧ Hid (wr.ownsRow B9z 26 2 (.slice A9 yG.free.length c9) yG.free.length (l.flatMap exv)) ∧ Hid (Fx wr [(w.heap.size, 24, #[.int .i64 x.size, .slice A x.free.length c]), (w5.heap.size + 1, 24, #[.int .i64 yT.size, .slice A5 yT.free.length c5]), (w7.heap.size, 24, #[.int .i64 yK.size, .slice A7 yK.free.length c7]), (w9.heap.size, 24, #[.int .i64 yG.size, .slice A9 yG.free.length c9])] [] [(lo, w.heap.size, .agg #[.int .i64 x.size, .slice A x.free.length c], x), (w.heap.size, B4z, .agg #[.int .i64 x.size, .slice A4 x.free.length c4], x)]) ∧ Hid (Below w.heap.size w wr)) (fun i _ => yG.free.length - (intOf i).toNat)
            case atStart => exact ⟨0, yG.free, Nat.zero_le _, rfl, hide rfl, RG, ZG, hB⟩
            case round =>
              clear RG ZG hZ hB
              obtain ⟨k, l, hk, rfl, hl, hR, hZ, hB⟩ := hrel
              by_cases hlt : k < yG.free.length
              · obtain ⟨g, cur, rfl, hbg, hcur⟩ := own_pos2 (unhide hR) (by omega)
                have c0 := own_cell2 (unhide hR) (unhide hl) hlt
                have fx := hcur.frozen (k * 2)
                have gl := hcur.lt
                have kz := (unhide hl).symm ▸ hlt
                obtain ⟨z, hz⟩ : ∃ z, z = wrap64 (l[k].at_ + 1) := ⟨_, rfl⟩
                have o2 := own_put2 (k := k * 2) (unhide hR) (.int .i64 z)
                rw [flat_set l k kz z] at o2
                have hl2 : (l.set k ⟨z, l[k].len⟩).length = yG.free.length := by rw [List.length_set]; exact unhide hl
                have Z2 := (unhide hZ).put (k := k * 2) (u := .int .i64 z) hcur (by simp) (fun _ hp => nomatch hp) (by have := unhide q1; have := unhide q2; have := unhide q3; simp; omega)
                have B2 := (unhide hB).setCell (p := ⟨g, k * 2, none⟩) (by have := unhide q1; have := unhide q2; have := unhide q3; show w.heap.size ≤ g; omega) (.int .i64 z)
                generalize l.set k ⟨z, l[k].len⟩ = l2 at *
                generalize l[k].at_ = at0 at *
                have KT := (unhide hZ).get 3 rfl
                have t0 := KT.cell 1
                simp at t0
                have tl' := KT.lt
                have i1 : IntKind.i64.wrap ((k : Int) + 1) = (k : Int) + 1 := IntWalk.i64_in _ (by have := unhide hlenG; omega)
                have hk0 : (0 : Int) ≤ (k : Int) := by omega
                have hk1 : (k : Int) < (yG.free.length : Int) := by omega
                replace o2 := hide o2; replace hl2 := hide hl2; replace Z2 := hide Z2; replace B2 := hide B2; replace hbg := hide hbg; replace kz := hide kz
                clear KT hcur hR hZ hB hl
                go_wp2_with fail
                clear i1
                subst hz
                go_roundw
                case rel => exact ⟨k + 1, l2, by omega, by go_num, hl2, o2, Z2, B2⟩
                case measure => simp [intOf]; omega
              · obtain rfl : k = yG.free.length := by omega
                clear hR hl
                have KX := (unhide hZ).get 0 rfl
                have t0 := KX.cell 0; have t1' := KX.cell 1
                simp at t0 t1'
                have tl' := KX.lt
                clear KX
                have hS := fun W (hb : Below wr.heap.size wr W) => refsame_any lo w.heap.size (.agg #[.int .i64 x.size, .slice A x.free.length c]) (.agg #[.int .i64 x.size, .slice A4 x.free.length c4]) x x W (((unhide hZ).below hb).xr 0 rfl) (((unhide hZ).below hb).xr 1 rfl)
                rw [show sameB x x = true by simp [sameB]] at hS
                replace hS := hide hS
                go_wp2_with (first
                  | (go_at_call 21; refine (unhide hS wr (Below.refl _ _)).mono ?_; rintro e wz ⟨rfl, hbz⟩
                     have Bz := bl_call (unhide hB) hbz
                     replace Bz := hide Bz
                     clear hbz)
                  | fail)
                go_ret
                exact ⟨rfl, unhide Bz⟩
end Go.Proofs.Yteokimebfbnlkaa
