import Derived.Test.YtlgahaidnpgnaaaDoorL4
namespace Go.Proofs.YtlgahaidnpgnaaaDoor
open Go.RowKit

section
attribute [local go_sem] q_add1 wrap_add1 guard24
set_option maxRecDepth 100000 in
set_option maxHeartbeats 4000000 in
theorem back_full2 (s : St) (n : Nx) (va vb vx : Value) (a b : List UInt8) (x : Bx) (w : World) (ht : Tab w) (h : Bs 0 w.heap.size w va a) (h' : Bs 0 w.heap.size w vb b) (hx : Bs 0 w.heap.size w vx x.text) (hg1 : a.length ≤ 200) (hg2 : b.length ≤ 200) (hg3 : x.text.length ≤ 200) (hn : n ≠ 18446744073709551615#64) (hz : sameS (tagF s x.n x.text) x.tag = true) (hxn : x.n = 18446744073709551615#64) :
    Calls Tryd.prog 4 #[rgV s n, va, vb, bxV x.n vx x.tag] w fun e w' => e = .returned (.bool true) ∧ Below w.heap.size w w' := by
  have hl := fun W (hb : Below w.heap.size w W) => live_any W (ht.below hb (Nat.le_refl _))
  have hS1 := fun W (hb : Below w.heap.size w W) => Seal_good s n va a W (ht.below hb (Nat.le_refl _)) (h.to hb) (by omega) hn
  have hS2 := fun W (hb : Below w.heap.size w W) => Seal_good s n vb b W (ht.below hb (Nat.le_refl _)) (h'.to hb) (by omega) hn
  have hl1 := hid_len s n a
  have hl2 := hid_len s n b
  have hO1 := fun v W (hb : Below w.heap.size w W) (h2 : Bs 0 W.heap.size W v (hidF s n a)) => Open_any s n v (hidF s n a) (tagF s n (hidF s n a)) W (ht.below hb (Nat.le_refl _)) h2 (by omega)
  rw [sameS_self, hid_hid, hl1] at hO1
  simp only [if_true] at hO1
  have hQ1 := fun v W (hb : Below w.heap.size w W) (h2 : Bs 0 W.heap.size W v a) => same_true _ _ _ _ v va a a W h2 (h.to hb) rfl
  have hX : sameX ⟨n, hidF s n a, tagF s n (hidF s n a)⟩ ⟨n, hidF s n b, tagF s n (hidF s n b)⟩ = decide (a = b) := by
    rw [Bool.eq_iff_iff, sameX_iff, decide_eq_true_iff]
    constructor
    · intro e
      injection e with _ e2 _
      exact hid_inj.1 e2
    · rintro rfl; rfl
  have hP := fun v u W (h1 : Bs 0 W.heap.size W v (hidF s n a)) (h2 : Bs 0 W.heap.size W u (hidF s n b)) => Same_any ⟨n, hidF s n a, tagF s n (hidF s n a)⟩ ⟨n, hidF s n b, tagF s n (hidF s n b)⟩ v u W h1 h2
  rw [hX] at hP
  simp only [] at hP
  have hQ2 := fun W (hb : Below w.heap.size w W) => same_any _ _ _ _ va vb a b W (h.to hb) (h'.to hb)
  have hN : ∀ W, (binOp .neq 24 (stV s) (stV s)).run Tryd.prog W = .ok (.bool false) W := fun W => by rw [neq_st, sameS_self]; rfl
  have hO2 := fun W (hb : Below w.heap.size w W) => Open_any s x.n vx x.text x.tag W (ht.below hb (Nat.le_refl _)) (hx.to hb) (by omega)
  rw [hz] at hO2
  simp only [if_true] at hO2
  have hlx := hid_len s x.n x.text
  have hS3 := fun v W (h2 : Bs 0 W.heap.size W v (hidF s x.n x.text)) => Seal_fullE 0 s x.n v (hidF s x.n x.text) W h2 (by omega) hxn
  have hnb : (n64 x.n == 18446744073709551615) = true := by rw [hxn, full_eq]; rfl
  generalize hidF s x.n x.text = HX at *
  generalize tagF s n (hidF s n a) = Ta at *
  generalize tagF s n (hidF s n b) = Tb at *
  generalize hidF s n a = Ha at *
  generalize hidF s n b = Hb at *
  generalize decide (a = b) = z2 at *
  obtain ⟨A, c, rfl⟩ := h.form
  obtain ⟨A', c', rfl⟩ := h'.form
  generalize x.n = xn at *
  generalize x.text = xl at *
  generalize x.tag = xt at *
  obtain ⟨C, d, rfl⟩ := hx.form
  have X0 : Fx w ((w.alloc (.cells (rgC s n) 27)).alloc (.cells (bxC xn (.slice C xl.length d) xt) 30)) [(w.heap.size, 27, rgC s n), (w.heap.size + 1, 30, bxC xn (.slice C xl.length d) xt)] [] [] := ((Fx.nil w).newB w.heap.size rfl (rgC s n) 27).newB (w.heap.size + 1) (by simp) (bxC xn (.slice C xl.length d) xt) 30
  have k1 : ¬ (200 : Int) < (a.length : Int) := by omega
  have k2 : ¬ (200 : Int) < (b.length : Int) := by omega
  have k3 : ¬ (200 : Int) < (xl.length : Int) := by omega
  generalize xl.length = mx at *
  generalize a.length = m at *
  generalize b.length = mb at *
  replace X0 := hide X0
  replace hl := hide hl
  replace hS1 := hide hS1
  replace hS2 := hide hS2
  replace hl1 := hide hl1
  replace hl2 := hide hl2
  replace hO1 := hide hO1
  replace hQ1 := hide hQ1
  replace hP := hide hP
  replace hQ2 := hide hQ2
  replace hO2 := hide hO2
  replace hS3 := hide hS3
  replace hlx := hide hlx
  clear hg1 hg2 hg3 h h' hx ht hn hz hX hxn
  have tk0 : True := trivial
  have tk1 : True := trivial
  have tk2 : True := trivial
  have tk3 : True := trivial
  have tk4 : True := trivial
  go_enter Tryd.func4, Tryd.ntmps4
  go_upto_region 1 with (fail)
  generalize hW : World.alloc (World.alloc w _) _ = W at *
  clear hW
  go_upto_region 11 with (first
    | (go_at_call 9; refine (unhide hl _ (unhide X0).bl).mono ?_; rintro e w1 ⟨rfl, hb1⟩
       have X1 : Fx w w1 [(w.heap.size, 27, rgC s n), (w.heap.size + 1, 30, bxC xn (.slice C mx d) xt)] [] [] := (unhide X0).call hb1
       have p0 : w1.cell? ⟨w.heap.size, 0, none⟩ = some (u32v s.a) := (X1.get 0 rfl).cell 0
       have p1 : w1.cell? ⟨w.heap.size, 1, none⟩ = some (u32v s.b) := (X1.get 0 rfl).cell 1
       have p2 : w1.cell? ⟨w.heap.size, 2, none⟩ = some (u32v s.c) := (X1.get 0 rfl).cell 2
       have p3 : w1.cell? ⟨w.heap.size, 3, none⟩ = some (u32v s.d) := (X1.get 0 rfl).cell 3
       have p4 : w1.cell? ⟨w.heap.size, 4, none⟩ = some (u64v n) := (X1.get 0 rfl).cell 4
       have g0 : w1.cell? ⟨w.heap.size + 1, 0, none⟩ = some (u64v xn) := (X1.get 1 rfl).cell 0
       have g1 : w1.cell? ⟨w.heap.size + 1, 1, none⟩ = some (.slice C mx d) := (X1.get 1 rfl).cell 1
       have g2 : w1.cell? ⟨w.heap.size + 1, 2, none⟩ = some (u32v xt.a) := (X1.get 1 rfl).cell 2
       have g3 : w1.cell? ⟨w.heap.size + 1, 3, none⟩ = some (u32v xt.b) := (X1.get 1 rfl).cell 3
       have g4 : w1.cell? ⟨w.heap.size + 1, 4, none⟩ = some (u32v xt.c) := (X1.get 1 rfl).cell 4
       have g5 : w1.cell? ⟨w.heap.size + 1, 5, none⟩ = some (u32v xt.d) := (X1.get 1 rfl).cell 5
       replace X1 := hide X1
       clear hb1)
    | (go_at_call 10; have _t := tk0; refine (unhide hS1 _ (unhide X1).bl).mono ?_; rintro e w2 ⟨A2, c2, rfl, o2, hb2⟩
       have X2' : Fx w w2 [(w.heap.size, 27, rgC s n), (w.heap.size + 1, 30, bxC xn (.slice C mx d) xt)] [] [(.slice A2 m c2, Ha)] := Fx.addZ ((unhide X1).call hb2) (Bs.of_own0 o2)
       have X2 : Fx w ((w2.alloc (.cells (bxC n (.slice A2 m c2) Ta) 30)).alloc (.cells (rgC s (n + 1#64)) 27)) [(w.heap.size, 27, rgC s n), (w.heap.size + 1, 30, bxC xn (.slice C mx d) xt), (w2.heap.size, 30, bxC n (.slice A2 m c2) Ta), (w2.heap.size + 1, 27, rgC s (n + 1#64))] [] [(.slice A2 m c2, Ha)] := (X2'.newB w2.heap.size rfl (bxC n (.slice A2 m c2) Ta) 30).newB (w2.heap.size + 1) (by simp) (rgC s (n + 1#64)) 27
       have l2 : w.heap.size < w2.heap.size := (X2'.get 0 rfl).lt
       have l2' : w.heap.size + 1 < w2.heap.size := (X2'.get 1 rfl).lt
       have ua0 : w2.cell? ⟨w.heap.size, 0, none⟩ = some (u32v s.a) := (X2'.get 0 rfl).cell 0
       have ua1 : w2.cell? ⟨w.heap.size, 1, none⟩ = some (u32v s.b) := (X2'.get 0 rfl).cell 1
       have ua2 : w2.cell? ⟨w.heap.size, 2, none⟩ = some (u32v s.c) := (X2'.get 0 rfl).cell 2
       have ua3 : w2.cell? ⟨w.heap.size, 3, none⟩ = some (u32v s.d) := (X2'.get 0 rfl).cell 3
       have ua4 : w2.cell? ⟨w.heap.size, 4, none⟩ = some (u64v n) := (X2'.get 0 rfl).cell 4
       have ub0 : w2.cell? ⟨w.heap.size + 1, 0, none⟩ = some (u64v xn) := (X2'.get 1 rfl).cell 0
       have ub1 : w2.cell? ⟨w.heap.size + 1, 1, none⟩ = some (.slice C mx d) := (X2'.get 1 rfl).cell 1
       have ub2 : w2.cell? ⟨w.heap.size + 1, 2, none⟩ = some (u32v xt.a) := (X2'.get 1 rfl).cell 2
       have ub3 : w2.cell? ⟨w.heap.size + 1, 3, none⟩ = some (u32v xt.b) := (X2'.get 1 rfl).cell 3
       have ub4 : w2.cell? ⟨w.heap.size + 1, 4, none⟩ = some (u32v xt.c) := (X2'.get 1 rfl).cell 4
       have ub5 : w2.cell? ⟨w.heap.size + 1, 5, none⟩ = some (u32v xt.d) := (X2'.get 1 rfl).cell 5
       replace X2 := hide X2
       clear o2 hb2 X2' tk0 _t)
    | (go_at_call 10; have _t := tk1; refine (unhide hS2 _ (unhide X2).bl).mono ?_; rintro e w3 ⟨A3, c3, rfl, o3, hb3⟩
       have X3' : Fx w w3 [(w.heap.size, 27, rgC s n), (w.heap.size + 1, 30, bxC xn (.slice C mx d) xt), (w2.heap.size, 30, bxC n (.slice A2 m c2) Ta), (w2.heap.size + 1, 27, rgC s (n + 1#64))] [] [(.slice A2 m c2, Ha), (.slice A3 mb c3, Hb)] := Fx.addZ ((unhide X2).call hb3) (Bs.of_own0 o3)
       have l3 : w.heap.size < w3.heap.size := (X3'.get 0 rfl).lt
       have l3' : w.heap.size + 1 < w3.heap.size := (X3'.get 1 rfl).lt
       have l3a : w2.heap.size < w3.heap.size := (X3'.get 2 rfl).lt
       have l3b : w2.heap.size + 1 < w3.heap.size := (X3'.get 3 rfl).lt
       have X3 : Fx w ((w3.alloc (.cells (bxC n (.slice A3 mb c3) Tb) 30)).alloc (.cells (rgC s (n + 1#64)) 27)) [(w.heap.size, 27, rgC s n), (w.heap.size + 1, 30, bxC xn (.slice C mx d) xt), (w2.heap.size, 30, bxC n (.slice A2 m c2) Ta), (w2.heap.size + 1, 27, rgC s (n + 1#64)), (w3.heap.size, 30, bxC n (.slice A3 mb c3) Tb)] [] [(.slice A2 m c2, Ha), (.slice A3 mb c3, Hb)] := (X3'.newB w3.heap.size rfl (bxC n (.slice A3 mb c3) Tb) 30).alloc (.cells (rgC s (n + 1#64)) 27)
       have va0 : w3.cell? ⟨w.heap.size, 0, none⟩ = some (u32v s.a) := (X3'.get 0 rfl).cell 0
       have va1 : w3.cell? ⟨w.heap.size, 1, none⟩ = some (u32v s.b) := (X3'.get 0 rfl).cell 1
       have va2 : w3.cell? ⟨w.heap.size, 2, none⟩ = some (u32v s.c) := (X3'.get 0 rfl).cell 2
       have va3 : w3.cell? ⟨w.heap.size, 3, none⟩ = some (u32v s.d) := (X3'.get 0 rfl).cell 3
       have va4 : w3.cell? ⟨w.heap.size, 4, none⟩ = some (u64v n) := (X3'.get 0 rfl).cell 4
       have vb0 : w3.cell? ⟨w.heap.size + 1, 0, none⟩ = some (u64v xn) := (X3'.get 1 rfl).cell 0
       have vb1 : w3.cell? ⟨w.heap.size + 1, 1, none⟩ = some (.slice C mx d) := (X3'.get 1 rfl).cell 1
       have vb2 : w3.cell? ⟨w.heap.size + 1, 2, none⟩ = some (u32v xt.a) := (X3'.get 1 rfl).cell 2
       have vb3 : w3.cell? ⟨w.heap.size + 1, 3, none⟩ = some (u32v xt.b) := (X3'.get 1 rfl).cell 3
       have vb4 : w3.cell? ⟨w.heap.size + 1, 4, none⟩ = some (u32v xt.c) := (X3'.get 1 rfl).cell 4
       have vb5 : w3.cell? ⟨w.heap.size + 1, 5, none⟩ = some (u32v xt.d) := (X3'.get 1 rfl).cell 5
       have vc0 : w3.cell? ⟨w2.heap.size, 0, none⟩ = some (u64v n) := (X3'.get 2 rfl).cell 0
       have vc1 : w3.cell? ⟨w2.heap.size, 1, none⟩ = some (.slice A2 m c2) := (X3'.get 2 rfl).cell 1
       have vc2 : w3.cell? ⟨w2.heap.size, 2, none⟩ = some (u32v Ta.a) := (X3'.get 2 rfl).cell 2
       have vc3 : w3.cell? ⟨w2.heap.size, 3, none⟩ = some (u32v Ta.b) := (X3'.get 2 rfl).cell 3
       have vc4 : w3.cell? ⟨w2.heap.size, 4, none⟩ = some (u32v Ta.c) := (X3'.get 2 rfl).cell 4
       have vc5 : w3.cell? ⟨w2.heap.size, 5, none⟩ = some (u32v Ta.d) := (X3'.get 2 rfl).cell 5
       have vd0 : w3.cell? ⟨w2.heap.size + 1, 0, none⟩ = some (u32v s.a) := (X3'.get 3 rfl).cell 0
       have vd1 : w3.cell? ⟨w2.heap.size + 1, 1, none⟩ = some (u32v s.b) := (X3'.get 3 rfl).cell 1
       have vd2 : w3.cell? ⟨w2.heap.size + 1, 2, none⟩ = some (u32v s.c) := (X3'.get 3 rfl).cell 2
       have vd3 : w3.cell? ⟨w2.heap.size + 1, 3, none⟩ = some (u32v s.d) := (X3'.get 3 rfl).cell 3
       have vd4 : w3.cell? ⟨w2.heap.size + 1, 4, none⟩ = some (u64v (n + 1#64)) := (X3'.get 3 rfl).cell 4
       replace X3 := hide X3
       clear o3 hb3 X3' tk1 _t)
    | (go_at_call 12; have _t := tk2; refine (unhide hO1 _ _ (unhide X3).bl ((unhide X3).rd 0 rfl)).mono ?_; rintro e w4 ⟨⟨A4, c4, rfl, o4⟩, hb4⟩
       have X4 : Fx w w4 [(w.heap.size, 27, rgC s n), (w.heap.size + 1, 30, bxC xn (.slice C mx d) xt), (w2.heap.size, 30, bxC n (.slice A2 m c2) Ta), (w2.heap.size + 1, 27, rgC s (n + 1#64)), (w3.heap.size, 30, bxC n (.slice A3 mb c3) Tb)] [] [(.slice A2 m c2, Ha), (.slice A3 mb c3, Hb), (.slice A4 m c4, a)] := Fx.addZ ((unhide X3).call hb4) (Bs.of_own0 o4)
       have ya0 : w4.cell? ⟨w.heap.size, 0, none⟩ = some (u32v s.a) := (X4.get 0 rfl).cell 0
       have ya1 : w4.cell? ⟨w.heap.size, 1, none⟩ = some (u32v s.b) := (X4.get 0 rfl).cell 1
       have ya2 : w4.cell? ⟨w.heap.size, 2, none⟩ = some (u32v s.c) := (X4.get 0 rfl).cell 2
       have ya3 : w4.cell? ⟨w.heap.size, 3, none⟩ = some (u32v s.d) := (X4.get 0 rfl).cell 3
       have ya4 : w4.cell? ⟨w.heap.size, 4, none⟩ = some (u64v n) := (X4.get 0 rfl).cell 4
       have yb0 : w4.cell? ⟨w.heap.size + 1, 0, none⟩ = some (u64v xn) := (X4.get 1 rfl).cell 0
       have yb1 : w4.cell? ⟨w.heap.size + 1, 1, none⟩ = some (.slice C mx d) := (X4.get 1 rfl).cell 1
       have yb2 : w4.cell? ⟨w.heap.size + 1, 2, none⟩ = some (u32v xt.a) := (X4.get 1 rfl).cell 2
       have yb3 : w4.cell? ⟨w.heap.size + 1, 3, none⟩ = some (u32v xt.b) := (X4.get 1 rfl).cell 3
       have yb4 : w4.cell? ⟨w.heap.size + 1, 4, none⟩ = some (u32v xt.c) := (X4.get 1 rfl).cell 4
       have yb5 : w4.cell? ⟨w.heap.size + 1, 5, none⟩ = some (u32v xt.d) := (X4.get 1 rfl).cell 5
       have yc0 : w4.cell? ⟨w2.heap.size, 0, none⟩ = some (u64v n) := (X4.get 2 rfl).cell 0
       have yc1 : w4.cell? ⟨w2.heap.size, 1, none⟩ = some (.slice A2 m c2) := (X4.get 2 rfl).cell 1
       have yc2 : w4.cell? ⟨w2.heap.size, 2, none⟩ = some (u32v Ta.a) := (X4.get 2 rfl).cell 2
       have yc3 : w4.cell? ⟨w2.heap.size, 3, none⟩ = some (u32v Ta.b) := (X4.get 2 rfl).cell 3
       have yc4 : w4.cell? ⟨w2.heap.size, 4, none⟩ = some (u32v Ta.c) := (X4.get 2 rfl).cell 4
       have yc5 : w4.cell? ⟨w2.heap.size, 5, none⟩ = some (u32v Ta.d) := (X4.get 2 rfl).cell 5
       have yd0 : w4.cell? ⟨w2.heap.size + 1, 0, none⟩ = some (u32v s.a) := (X4.get 3 rfl).cell 0
       have yd1 : w4.cell? ⟨w2.heap.size + 1, 1, none⟩ = some (u32v s.b) := (X4.get 3 rfl).cell 1
       have yd2 : w4.cell? ⟨w2.heap.size + 1, 2, none⟩ = some (u32v s.c) := (X4.get 3 rfl).cell 2
       have yd3 : w4.cell? ⟨w2.heap.size + 1, 3, none⟩ = some (u32v s.d) := (X4.get 3 rfl).cell 3
       have yd4 : w4.cell? ⟨w2.heap.size + 1, 4, none⟩ = some (u64v (n + 1#64)) := (X4.get 3 rfl).cell 4
       have ye0 : w4.cell? ⟨w3.heap.size, 0, none⟩ = some (u64v n) := (X4.get 4 rfl).cell 0
       have ye1 : w4.cell? ⟨w3.heap.size, 1, none⟩ = some (.slice A3 mb c3) := (X4.get 4 rfl).cell 1
       have ye2 : w4.cell? ⟨w3.heap.size, 2, none⟩ = some (u32v Tb.a) := (X4.get 4 rfl).cell 2
       have ye3 : w4.cell? ⟨w3.heap.size, 3, none⟩ = some (u32v Tb.b) := (X4.get 4 rfl).cell 3
       have ye4 : w4.cell? ⟨w3.heap.size, 4, none⟩ = some (u32v Tb.c) := (X4.get 4 rfl).cell 4
       have ye5 : w4.cell? ⟨w3.heap.size, 5, none⟩ = some (u32v Tb.d) := (X4.get 4 rfl).cell 5
       replace X4 := hide X4
       clear o4 hb4 tk2 _t)
    | (go_at_call 23; have _t := tk3; refine (unhide hQ1 _ _ (unhide X4).bl ((unhide X4).rd 2 rfl)).mono ?_; rintro e wz ⟨rfl, rfl⟩
       clear tk3 _t)
    | (go_at_call 24; have _t := tk4; refine (unhide hP _ _ _ ((unhide X4).rd 0 rfl) ((unhide X4).rd 1 rfl)).mono ?_; rintro e w5 ⟨rfl, hb5⟩
       have X5 : Fx w w5 [(w.heap.size, 27, rgC s n), (w.heap.size + 1, 30, bxC xn (.slice C mx d) xt)] [] [] := Fx.sub ((unhide X4).call hb5) (by simp) (by simp) (by simp)
       have za0 : w5.cell? ⟨w.heap.size, 0, none⟩ = some (u32v s.a) := (X5.get 0 rfl).cell 0
       have za1 : w5.cell? ⟨w.heap.size, 1, none⟩ = some (u32v s.b) := (X5.get 0 rfl).cell 1
       have za2 : w5.cell? ⟨w.heap.size, 2, none⟩ = some (u32v s.c) := (X5.get 0 rfl).cell 2
       have za3 : w5.cell? ⟨w.heap.size, 3, none⟩ = some (u32v s.d) := (X5.get 0 rfl).cell 3
       have za4 : w5.cell? ⟨w.heap.size, 4, none⟩ = some (u64v n) := (X5.get 0 rfl).cell 4
       have zb0 : w5.cell? ⟨w.heap.size + 1, 0, none⟩ = some (u64v xn) := (X5.get 1 rfl).cell 0
       have zb1 : w5.cell? ⟨w.heap.size + 1, 1, none⟩ = some (.slice C mx d) := (X5.get 1 rfl).cell 1
       have zb2 : w5.cell? ⟨w.heap.size + 1, 2, none⟩ = some (u32v xt.a) := (X5.get 1 rfl).cell 2
       have zb3 : w5.cell? ⟨w.heap.size + 1, 3, none⟩ = some (u32v xt.b) := (X5.get 1 rfl).cell 3
       have zb4 : w5.cell? ⟨w.heap.size + 1, 4, none⟩ = some (u32v xt.c) := (X5.get 1 rfl).cell 4
       have zb5 : w5.cell? ⟨w.heap.size + 1, 5, none⟩ = some (u32v xt.d) := (X5.get 1 rfl).cell 5
       replace X5 := hide X5
       clear hb5 tk4 _t)
    | (go_at_call 23; refine (unhide hQ2 _ (unhide X5).bl).mono ?_; rintro e wz ⟨rfl, rfl⟩)
    | fail)
  go_wp2_with (first
    | (go_at_call 12; refine (unhide hO2 _ (unhide X5).bl).mono ?_; rintro e w6 ⟨⟨A6, c6, rfl, o6⟩, hb6⟩
       have X6 : Fx w w6 [(w.heap.size, 27, rgC s n), (w.heap.size + 1, 30, bxC xn (.slice C mx d) xt)] [] [(.slice A6 mx c6, HX)] := Fx.addZ ((unhide X5).call hb6) (Bs.of_own0 o6)
       have ta0 : w6.cell? ⟨w.heap.size, 0, none⟩ = some (u32v s.a) := (X6.get 0 rfl).cell 0
       have ta1 : w6.cell? ⟨w.heap.size, 1, none⟩ = some (u32v s.b) := (X6.get 0 rfl).cell 1
       have ta2 : w6.cell? ⟨w.heap.size, 2, none⟩ = some (u32v s.c) := (X6.get 0 rfl).cell 2
       have ta3 : w6.cell? ⟨w.heap.size, 3, none⟩ = some (u32v s.d) := (X6.get 0 rfl).cell 3
       have ta4 : w6.cell? ⟨w.heap.size, 4, none⟩ = some (u64v n) := (X6.get 0 rfl).cell 4
       have tb0 : w6.cell? ⟨w.heap.size + 1, 0, none⟩ = some (u64v xn) := (X6.get 1 rfl).cell 0
       have tb1 : w6.cell? ⟨w.heap.size + 1, 1, none⟩ = some (.slice C mx d) := (X6.get 1 rfl).cell 1
       have tb2 : w6.cell? ⟨w.heap.size + 1, 2, none⟩ = some (u32v xt.a) := (X6.get 1 rfl).cell 2
       have tb3 : w6.cell? ⟨w.heap.size + 1, 3, none⟩ = some (u32v xt.b) := (X6.get 1 rfl).cell 3
       have tb4 : w6.cell? ⟨w.heap.size + 1, 4, none⟩ = some (u32v xt.c) := (X6.get 1 rfl).cell 4
       have tb5 : w6.cell? ⟨w.heap.size + 1, 5, none⟩ = some (u32v xt.d) := (X6.get 1 rfl).cell 5
       replace X6 := hide X6
       clear o6 hb6)
    | (go_at_call 10; refine (unhide hS3 _ _ ((unhide X6).rd 0 rfl)).mono ?_; rintro e w7 ⟨rfl, hb7⟩
       have X7 : Fx w w7 [(w.heap.size, 27, rgC s n), (w.heap.size + 1, 30, bxC xn (.slice C mx d) xt)] [] [] := Fx.sub ((unhide X6).call hb7) (by simp) (by simp) (by simp)
       have l7 : w.heap.size < w7.heap.size := (X7.get 0 rfl).lt
       have l7' : w.heap.size + 1 < w7.heap.size := (X7.get 1 rfl).lt
       have oa0 : w7.cell? ⟨w.heap.size, 0, none⟩ = some (u32v s.a) := (X7.get 0 rfl).cell 0
       have oa1 : w7.cell? ⟨w.heap.size, 1, none⟩ = some (u32v s.b) := (X7.get 0 rfl).cell 1
       have oa2 : w7.cell? ⟨w.heap.size, 2, none⟩ = some (u32v s.c) := (X7.get 0 rfl).cell 2
       have oa3 : w7.cell? ⟨w.heap.size, 3, none⟩ = some (u32v s.d) := (X7.get 0 rfl).cell 3
       have oa4 : w7.cell? ⟨w.heap.size, 4, none⟩ = some (u64v n) := (X7.get 0 rfl).cell 4
       have ob0 : w7.cell? ⟨w.heap.size + 1, 0, none⟩ = some (u64v xn) := (X7.get 1 rfl).cell 0
       have ob1 : w7.cell? ⟨w.heap.size + 1, 1, none⟩ = some (.slice C mx d) := (X7.get 1 rfl).cell 1
       have ob2 : w7.cell? ⟨w.heap.size + 1, 2, none⟩ = some (u32v xt.a) := (X7.get 1 rfl).cell 2
       have ob3 : w7.cell? ⟨w.heap.size + 1, 3, none⟩ = some (u32v xt.b) := (X7.get 1 rfl).cell 3
       have ob4 : w7.cell? ⟨w.heap.size + 1, 4, none⟩ = some (u32v xt.c) := (X7.get 1 rfl).cell 4
       have ob5 : w7.cell? ⟨w.heap.size + 1, 5, none⟩ = some (u32v xt.d) := (X7.get 1 rfl).cell 5
       replace X7 := hide X7
       clear hb7)
    | fail)
  go_ret
  exact ⟨rfl, bl_alloc (bl_alloc (unhide X7).bl _) _⟩
end
section
attribute [local go_sem] q_add1 wrap_add1 guard24
set_option maxRecDepth 100000 in
set_option maxHeartbeats 4000000 in
theorem back_yes (s : St) (n : Nx) (va vb vx : Value) (a b : List UInt8) (x : Bx) (w : World) (ht : Tab w) (h : Bs 0 w.heap.size w va a) (h' : Bs 0 w.heap.size w vb b) (hx : Bs 0 w.heap.size w vx x.text) (hg1 : a.length ≤ 200) (hg2 : b.length ≤ 200) (hg3 : x.text.length ≤ 200) (hn : n ≠ 18446744073709551615#64) (hz : sameS (tagF s x.n x.text) x.tag = true) (hxn : x.n ≠ 18446744073709551615#64) :
    Calls Tryd.prog 4 #[rgV s n, va, vb, bxV x.n vx x.tag] w fun e w' => e = .returned (.bool true) ∧ Below w.heap.size w w' := by
  have hl := fun W (hb : Below w.heap.size w W) => live_any W (ht.below hb (Nat.le_refl _))
  have hS1 := fun W (hb : Below w.heap.size w W) => Seal_good s n va a W (ht.below hb (Nat.le_refl _)) (h.to hb) (by omega) hn
  have hS2 := fun W (hb : Below w.heap.size w W) => Seal_good s n vb b W (ht.below hb (Nat.le_refl _)) (h'.to hb) (by omega) hn
  have hl1 := hid_len s n a
  have hl2 := hid_len s n b
  have hO1 := fun v W (hb : Below w.heap.size w W) (h2 : Bs 0 W.heap.size W v (hidF s n a)) => Open_any s n v (hidF s n a) (tagF s n (hidF s n a)) W (ht.below hb (Nat.le_refl _)) h2 (by omega)
  rw [sameS_self, hid_hid, hl1] at hO1
  simp only [if_true] at hO1
  have hQ1 := fun v W (hb : Below w.heap.size w W) (h2 : Bs 0 W.heap.size W v a) => same_true _ _ _ _ v va a a W h2 (h.to hb) rfl
  have hX : sameX ⟨n, hidF s n a, tagF s n (hidF s n a)⟩ ⟨n, hidF s n b, tagF s n (hidF s n b)⟩ = decide (a = b) := by
    rw [Bool.eq_iff_iff, sameX_iff, decide_eq_true_iff]
    constructor
    · intro e
      injection e with _ e2 _
      exact hid_inj.1 e2
    · rintro rfl; rfl
  have hP := fun v u W (h1 : Bs 0 W.heap.size W v (hidF s n a)) (h2 : Bs 0 W.heap.size W u (hidF s n b)) => Same_any ⟨n, hidF s n a, tagF s n (hidF s n a)⟩ ⟨n, hidF s n b, tagF s n (hidF s n b)⟩ v u W h1 h2
  rw [hX] at hP
  simp only [] at hP
  have hQ2 := fun W (hb : Below w.heap.size w W) => same_any _ _ _ _ va vb a b W (h.to hb) (h'.to hb)
  have hN : ∀ W, (binOp .neq 24 (stV s) (stV s)).run Tryd.prog W = .ok (.bool false) W := fun W => by rw [neq_st, sameS_self]; rfl
  have hO2 := fun W (hb : Below w.heap.size w W) => Open_any s x.n vx x.text x.tag W (ht.below hb (Nat.le_refl _)) (hx.to hb) (by omega)
  rw [hz] at hO2
  simp only [if_true] at hO2
  have hlx := hid_len s x.n x.text
  have hS3 := fun v W (hb : Below w.heap.size w W) (h2 : Bs 0 W.heap.size W v (hidF s x.n x.text)) => Seal_good s x.n v (hidF s x.n x.text) W (ht.below hb (Nat.le_refl _)) h2 (by omega) hxn
  rw [hid_hid, sameS_iff.1 hz, hlx] at hS3
  have hE := fun v W (hb : Below w.heap.size w W) (h2 : Bs 0 W.heap.size W v x.text) => Same_any x x v vx W h2 (hx.to hb)
  rw [sameX_self] at hE
  generalize hidF s x.n x.text = HX at *
  generalize tagF s n (hidF s n a) = Ta at *
  generalize tagF s n (hidF s n b) = Tb at *
  generalize hidF s n a = Ha at *
  generalize hidF s n b = Hb at *
  generalize decide (a = b) = z2 at *
  obtain ⟨A, c, rfl⟩ := h.form
  obtain ⟨A', c', rfl⟩ := h'.form
  generalize x.n = xn at *
  generalize x.text = xl at *
  generalize x.tag = xt at *
  obtain ⟨C, d, rfl⟩ := hx.form
  have X0 : Fx w ((w.alloc (.cells (rgC s n) 27)).alloc (.cells (bxC xn (.slice C xl.length d) xt) 30)) [(w.heap.size, 27, rgC s n), (w.heap.size + 1, 30, bxC xn (.slice C xl.length d) xt)] [] [] := ((Fx.nil w).newB w.heap.size rfl (rgC s n) 27).newB (w.heap.size + 1) (by simp) (bxC xn (.slice C xl.length d) xt) 30
  have k1 : ¬ (200 : Int) < (a.length : Int) := by omega
  have k2 : ¬ (200 : Int) < (b.length : Int) := by omega
  have k3 : ¬ (200 : Int) < (xl.length : Int) := by omega
  generalize xl.length = mx at *
  generalize a.length = m at *
  generalize b.length = mb at *
  replace X0 := hide X0
  replace hl := hide hl
  replace hS1 := hide hS1
  replace hS2 := hide hS2
  replace hl1 := hide hl1
  replace hl2 := hide hl2
  replace hO1 := hide hO1
  replace hQ1 := hide hQ1
  replace hP := hide hP
  replace hQ2 := hide hQ2
  replace hO2 := hide hO2
  replace hS3 := hide hS3
  replace hE := hide hE
  replace hlx := hide hlx
  clear hg1 hg2 hg3 h h' hx ht hn hz hX hxn
  have tk0 : True := trivial
  have tk1 : True := trivial
  have tk2 : True := trivial
  have tk3 : True := trivial
  have tk4 : True := trivial
  go_enter Tryd.func4, Tryd.ntmps4
  go_upto_region 1 with (fail)
  generalize hW : World.alloc (World.alloc w _) _ = W at *
  clear hW
  go_upto_region 11 with (first
    | (go_at_call 9; refine (unhide hl _ (unhide X0).bl).mono ?_; rintro e w1 ⟨rfl, hb1⟩
       have X1 : Fx w w1 [(w.heap.size, 27, rgC s n), (w.heap.size + 1, 30, bxC xn (.slice C mx d) xt)] [] [] := (unhide X0).call hb1
       have p0 : w1.cell? ⟨w.heap.size, 0, none⟩ = some (u32v s.a) := (X1.get 0 rfl).cell 0
       have p1 : w1.cell? ⟨w.heap.size, 1, none⟩ = some (u32v s.b) := (X1.get 0 rfl).cell 1
       have p2 : w1.cell? ⟨w.heap.size, 2, none⟩ = some (u32v s.c) := (X1.get 0 rfl).cell 2
       have p3 : w1.cell? ⟨w.heap.size, 3, none⟩ = some (u32v s.d) := (X1.get 0 rfl).cell 3
       have p4 : w1.cell? ⟨w.heap.size, 4, none⟩ = some (u64v n) := (X1.get 0 rfl).cell 4
       have g0 : w1.cell? ⟨w.heap.size + 1, 0, none⟩ = some (u64v xn) := (X1.get 1 rfl).cell 0
       have g1 : w1.cell? ⟨w.heap.size + 1, 1, none⟩ = some (.slice C mx d) := (X1.get 1 rfl).cell 1
       have g2 : w1.cell? ⟨w.heap.size + 1, 2, none⟩ = some (u32v xt.a) := (X1.get 1 rfl).cell 2
       have g3 : w1.cell? ⟨w.heap.size + 1, 3, none⟩ = some (u32v xt.b) := (X1.get 1 rfl).cell 3
       have g4 : w1.cell? ⟨w.heap.size + 1, 4, none⟩ = some (u32v xt.c) := (X1.get 1 rfl).cell 4
       have g5 : w1.cell? ⟨w.heap.size + 1, 5, none⟩ = some (u32v xt.d) := (X1.get 1 rfl).cell 5
       replace X1 := hide X1
       clear hb1)
    | (go_at_call 10; have _t := tk0; refine (unhide hS1 _ (unhide X1).bl).mono ?_; rintro e w2 ⟨A2, c2, rfl, o2, hb2⟩
       have X2' : Fx w w2 [(w.heap.size, 27, rgC s n), (w.heap.size + 1, 30, bxC xn (.slice C mx d) xt)] [] [(.slice A2 m c2, Ha)] := Fx.addZ ((unhide X1).call hb2) (Bs.of_own0 o2)
       have X2 : Fx w ((w2.alloc (.cells (bxC n (.slice A2 m c2) Ta) 30)).alloc (.cells (rgC s (n + 1#64)) 27)) [(w.heap.size, 27, rgC s n), (w.heap.size + 1, 30, bxC xn (.slice C mx d) xt), (w2.heap.size, 30, bxC n (.slice A2 m c2) Ta), (w2.heap.size + 1, 27, rgC s (n + 1#64))] [] [(.slice A2 m c2, Ha)] := (X2'.newB w2.heap.size rfl (bxC n (.slice A2 m c2) Ta) 30).newB (w2.heap.size + 1) (by simp) (rgC s (n + 1#64)) 27
       have l2 : w.heap.size < w2.heap.size := (X2'.get 0 rfl).lt
       have l2' : w.heap.size + 1 < w2.heap.size := (X2'.get 1 rfl).lt
       have ua0 : w2.cell? ⟨w.heap.size, 0, none⟩ = some (u32v s.a) := (X2'.get 0 rfl).cell 0
       have ua1 : w2.cell? ⟨w.heap.size, 1, none⟩ = some (u32v s.b) := (X2'.get 0 rfl).cell 1
       have ua2 : w2.cell? ⟨w.heap.size, 2, none⟩ = some (u32v s.c) := (X2'.get 0 rfl).cell 2
       have ua3 : w2.cell? ⟨w.heap.size, 3, none⟩ = some (u32v s.d) := (X2'.get 0 rfl).cell 3
       have ua4 : w2.cell? ⟨w.heap.size, 4, none⟩ = some (u64v n) := (X2'.get 0 rfl).cell 4
       have ub0 : w2.cell? ⟨w.heap.size + 1, 0, none⟩ = some (u64v xn) := (X2'.get 1 rfl).cell 0
       have ub1 : w2.cell? ⟨w.heap.size + 1, 1, none⟩ = some (.slice C mx d) := (X2'.get 1 rfl).cell 1
       have ub2 : w2.cell? ⟨w.heap.size + 1, 2, none⟩ = some (u32v xt.a) := (X2'.get 1 rfl).cell 2
       have ub3 : w2.cell? ⟨w.heap.size + 1, 3, none⟩ = some (u32v xt.b) := (X2'.get 1 rfl).cell 3
       have ub4 : w2.cell? ⟨w.heap.size + 1, 4, none⟩ = some (u32v xt.c) := (X2'.get 1 rfl).cell 4
       have ub5 : w2.cell? ⟨w.heap.size + 1, 5, none⟩ = some (u32v xt.d) := (X2'.get 1 rfl).cell 5
       replace X2 := hide X2
       clear o2 hb2 X2' tk0 _t)
    | (go_at_call 10; have _t := tk1; refine (unhide hS2 _ (unhide X2).bl).mono ?_; rintro e w3 ⟨A3, c3, rfl, o3, hb3⟩
       have X3' : Fx w w3 [(w.heap.size, 27, rgC s n), (w.heap.size + 1, 30, bxC xn (.slice C mx d) xt), (w2.heap.size, 30, bxC n (.slice A2 m c2) Ta), (w2.heap.size + 1, 27, rgC s (n + 1#64))] [] [(.slice A2 m c2, Ha), (.slice A3 mb c3, Hb)] := Fx.addZ ((unhide X2).call hb3) (Bs.of_own0 o3)
       have l3 : w.heap.size < w3.heap.size := (X3'.get 0 rfl).lt
       have l3' : w.heap.size + 1 < w3.heap.size := (X3'.get 1 rfl).lt
       have l3a : w2.heap.size < w3.heap.size := (X3'.get 2 rfl).lt
       have l3b : w2.heap.size + 1 < w3.heap.size := (X3'.get 3 rfl).lt
       have X3 : Fx w ((w3.alloc (.cells (bxC n (.slice A3 mb c3) Tb) 30)).alloc (.cells (rgC s (n + 1#64)) 27)) [(w.heap.size, 27, rgC s n), (w.heap.size + 1, 30, bxC xn (.slice C mx d) xt), (w2.heap.size, 30, bxC n (.slice A2 m c2) Ta), (w2.heap.size + 1, 27, rgC s (n + 1#64)), (w3.heap.size, 30, bxC n (.slice A3 mb c3) Tb)] [] [(.slice A2 m c2, Ha), (.slice A3 mb c3, Hb)] := (X3'.newB w3.heap.size rfl (bxC n (.slice A3 mb c3) Tb) 30).alloc (.cells (rgC s (n + 1#64)) 27)
       have va0 : w3.cell? ⟨w.heap.size, 0, none⟩ = some (u32v s.a) := (X3'.get 0 rfl).cell 0
       have va1 : w3.cell? ⟨w.heap.size, 1, none⟩ = some (u32v s.b) := (X3'.get 0 rfl).cell 1
       have va2 : w3.cell? ⟨w.heap.size, 2, none⟩ = some (u32v s.c) := (X3'.get 0 rfl).cell 2
       have va3 : w3.cell? ⟨w.heap.size, 3, none⟩ = some (u32v s.d) := (X3'.get 0 rfl).cell 3
       have va4 : w3.cell? ⟨w.heap.size, 4, none⟩ = some (u64v n) := (X3'.get 0 rfl).cell 4
       have vb0 : w3.cell? ⟨w.heap.size + 1, 0, none⟩ = some (u64v xn) := (X3'.get 1 rfl).cell 0
       have vb1 : w3.cell? ⟨w.heap.size + 1, 1, none⟩ = some (.slice C mx d) := (X3'.get 1 rfl).cell 1
       have vb2 : w3.cell? ⟨w.heap.size + 1, 2, none⟩ = some (u32v xt.a) := (X3'.get 1 rfl).cell 2
       have vb3 : w3.cell? ⟨w.heap.size + 1, 3, none⟩ = some (u32v xt.b) := (X3'.get 1 rfl).cell 3
       have vb4 : w3.cell? ⟨w.heap.size + 1, 4, none⟩ = some (u32v xt.c) := (X3'.get 1 rfl).cell 4
       have vb5 : w3.cell? ⟨w.heap.size + 1, 5, none⟩ = some (u32v xt.d) := (X3'.get 1 rfl).cell 5
       have vc0 : w3.cell? ⟨w2.heap.size, 0, none⟩ = some (u64v n) := (X3'.get 2 rfl).cell 0
       have vc1 : w3.cell? ⟨w2.heap.size, 1, none⟩ = some (.slice A2 m c2) := (X3'.get 2 rfl).cell 1
       have vc2 : w3.cell? ⟨w2.heap.size, 2, none⟩ = some (u32v Ta.a) := (X3'.get 2 rfl).cell 2
       have vc3 : w3.cell? ⟨w2.heap.size, 3, none⟩ = some (u32v Ta.b) := (X3'.get 2 rfl).cell 3
       have vc4 : w3.cell? ⟨w2.heap.size, 4, none⟩ = some (u32v Ta.c) := (X3'.get 2 rfl).cell 4
       have vc5 : w3.cell? ⟨w2.heap.size, 5, none⟩ = some (u32v Ta.d) := (X3'.get 2 rfl).cell 5
       have vd0 : w3.cell? ⟨w2.heap.size + 1, 0, none⟩ = some (u32v s.a) := (X3'.get 3 rfl).cell 0
       have vd1 : w3.cell? ⟨w2.heap.size + 1, 1, none⟩ = some (u32v s.b) := (X3'.get 3 rfl).cell 1
       have vd2 : w3.cell? ⟨w2.heap.size + 1, 2, none⟩ = some (u32v s.c) := (X3'.get 3 rfl).cell 2
       have vd3 : w3.cell? ⟨w2.heap.size + 1, 3, none⟩ = some (u32v s.d) := (X3'.get 3 rfl).cell 3
       have vd4 : w3.cell? ⟨w2.heap.size + 1, 4, none⟩ = some (u64v (n + 1#64)) := (X3'.get 3 rfl).cell 4
       replace X3 := hide X3
       clear o3 hb3 X3' tk1 _t)
    | (go_at_call 12; have _t := tk2; refine (unhide hO1 _ _ (unhide X3).bl ((unhide X3).rd 0 rfl)).mono ?_; rintro e w4 ⟨⟨A4, c4, rfl, o4⟩, hb4⟩
       have X4 : Fx w w4 [(w.heap.size, 27, rgC s n), (w.heap.size + 1, 30, bxC xn (.slice C mx d) xt), (w2.heap.size, 30, bxC n (.slice A2 m c2) Ta), (w2.heap.size + 1, 27, rgC s (n + 1#64)), (w3.heap.size, 30, bxC n (.slice A3 mb c3) Tb)] [] [(.slice A2 m c2, Ha), (.slice A3 mb c3, Hb), (.slice A4 m c4, a)] := Fx.addZ ((unhide X3).call hb4) (Bs.of_own0 o4)
       have ya0 : w4.cell? ⟨w.heap.size, 0, none⟩ = some (u32v s.a) := (X4.get 0 rfl).cell 0
       have ya1 : w4.cell? ⟨w.heap.size, 1, none⟩ = some (u32v s.b) := (X4.get 0 rfl).cell 1
       have ya2 : w4.cell? ⟨w.heap.size, 2, none⟩ = some (u32v s.c) := (X4.get 0 rfl).cell 2
       have ya3 : w4.cell? ⟨w.heap.size, 3, none⟩ = some (u32v s.d) := (X4.get 0 rfl).cell 3
       have ya4 : w4.cell? ⟨w.heap.size, 4, none⟩ = some (u64v n) := (X4.get 0 rfl).cell 4
       have yb0 : w4.cell? ⟨w.heap.size + 1, 0, none⟩ = some (u64v xn) := (X4.get 1 rfl).cell 0
       have yb1 : w4.cell? ⟨w.heap.size + 1, 1, none⟩ = some (.slice C mx d) := (X4.get 1 rfl).cell 1
       have yb2 : w4.cell? ⟨w.heap.size + 1, 2, none⟩ = some (u32v xt.a) := (X4.get 1 rfl).cell 2
       have yb3 : w4.cell? ⟨w.heap.size + 1, 3, none⟩ = some (u32v xt.b) := (X4.get 1 rfl).cell 3
       have yb4 : w4.cell? ⟨w.heap.size + 1, 4, none⟩ = some (u32v xt.c) := (X4.get 1 rfl).cell 4
       have yb5 : w4.cell? ⟨w.heap.size + 1, 5, none⟩ = some (u32v xt.d) := (X4.get 1 rfl).cell 5
       have yc0 : w4.cell? ⟨w2.heap.size, 0, none⟩ = some (u64v n) := (X4.get 2 rfl).cell 0
       have yc1 : w4.cell? ⟨w2.heap.size, 1, none⟩ = some (.slice A2 m c2) := (X4.get 2 rfl).cell 1
       have yc2 : w4.cell? ⟨w2.heap.size, 2, none⟩ = some (u32v Ta.a) := (X4.get 2 rfl).cell 2
       have yc3 : w4.cell? ⟨w2.heap.size, 3, none⟩ = some (u32v Ta.b) := (X4.get 2 rfl).cell 3
       have yc4 : w4.cell? ⟨w2.heap.size, 4, none⟩ = some (u32v Ta.c) := (X4.get 2 rfl).cell 4
       have yc5 : w4.cell? ⟨w2.heap.size, 5, none⟩ = some (u32v Ta.d) := (X4.get 2 rfl).cell 5
       have yd0 : w4.cell? ⟨w2.heap.size + 1, 0, none⟩ = some (u32v s.a) := (X4.get 3 rfl).cell 0
       have yd1 : w4.cell? ⟨w2.heap.size + 1, 1, none⟩ = some (u32v s.b) := (X4.get 3 rfl).cell 1
       have yd2 : w4.cell? ⟨w2.heap.size + 1, 2, none⟩ = some (u32v s.c) := (X4.get 3 rfl).cell 2
       have yd3 : w4.cell? ⟨w2.heap.size + 1, 3, none⟩ = some (u32v s.d) := (X4.get 3 rfl).cell 3
       have yd4 : w4.cell? ⟨w2.heap.size + 1, 4, none⟩ = some (u64v (n + 1#64)) := (X4.get 3 rfl).cell 4
       have ye0 : w4.cell? ⟨w3.heap.size, 0, none⟩ = some (u64v n) := (X4.get 4 rfl).cell 0
       have ye1 : w4.cell? ⟨w3.heap.size, 1, none⟩ = some (.slice A3 mb c3) := (X4.get 4 rfl).cell 1
       have ye2 : w4.cell? ⟨w3.heap.size, 2, none⟩ = some (u32v Tb.a) := (X4.get 4 rfl).cell 2
       have ye3 : w4.cell? ⟨w3.heap.size, 3, none⟩ = some (u32v Tb.b) := (X4.get 4 rfl).cell 3
       have ye4 : w4.cell? ⟨w3.heap.size, 4, none⟩ = some (u32v Tb.c) := (X4.get 4 rfl).cell 4
       have ye5 : w4.cell? ⟨w3.heap.size, 5, none⟩ = some (u32v Tb.d) := (X4.get 4 rfl).cell 5
       replace X4 := hide X4
       clear o4 hb4 tk2 _t)
    | (go_at_call 23; have _t := tk3; refine (unhide hQ1 _ _ (unhide X4).bl ((unhide X4).rd 2 rfl)).mono ?_; rintro e wz ⟨rfl, rfl⟩
       clear tk3 _t)
    | (go_at_call 24; have _t := tk4; refine (unhide hP _ _ _ ((unhide X4).rd 0 rfl) ((unhide X4).rd 1 rfl)).mono ?_; rintro e w5 ⟨rfl, hb5⟩
       have X5 : Fx w w5 [(w.heap.size, 27, rgC s n), (w.heap.size + 1, 30, bxC xn (.slice C mx d) xt)] [] [] := Fx.sub ((unhide X4).call hb5) (by simp) (by simp) (by simp)
       have za0 : w5.cell? ⟨w.heap.size, 0, none⟩ = some (u32v s.a) := (X5.get 0 rfl).cell 0
       have za1 : w5.cell? ⟨w.heap.size, 1, none⟩ = some (u32v s.b) := (X5.get 0 rfl).cell 1
       have za2 : w5.cell? ⟨w.heap.size, 2, none⟩ = some (u32v s.c) := (X5.get 0 rfl).cell 2
       have za3 : w5.cell? ⟨w.heap.size, 3, none⟩ = some (u32v s.d) := (X5.get 0 rfl).cell 3
       have za4 : w5.cell? ⟨w.heap.size, 4, none⟩ = some (u64v n) := (X5.get 0 rfl).cell 4
       have zb0 : w5.cell? ⟨w.heap.size + 1, 0, none⟩ = some (u64v xn) := (X5.get 1 rfl).cell 0
       have zb1 : w5.cell? ⟨w.heap.size + 1, 1, none⟩ = some (.slice C mx d) := (X5.get 1 rfl).cell 1
       have zb2 : w5.cell? ⟨w.heap.size + 1, 2, none⟩ = some (u32v xt.a) := (X5.get 1 rfl).cell 2
       have zb3 : w5.cell? ⟨w.heap.size + 1, 3, none⟩ = some (u32v xt.b) := (X5.get 1 rfl).cell 3
       have zb4 : w5.cell? ⟨w.heap.size + 1, 4, none⟩ = some (u32v xt.c) := (X5.get 1 rfl).cell 4
       have zb5 : w5.cell? ⟨w.heap.size + 1, 5, none⟩ = some (u32v xt.d) := (X5.get 1 rfl).cell 5
       replace X5 := hide X5
       clear hb5 tk4 _t)
    | (go_at_call 23; refine (unhide hQ2 _ (unhide X5).bl).mono ?_; rintro e wz ⟨rfl, rfl⟩)
    | fail)
  go_wp2_with (first
    | (go_at_call 12; refine (unhide hO2 _ (unhide X5).bl).mono ?_; rintro e w6 ⟨⟨A6, c6, rfl, o6⟩, hb6⟩
       have X6 : Fx w w6 [(w.heap.size, 27, rgC s n), (w.heap.size + 1, 30, bxC xn (.slice C mx d) xt)] [] [(.slice A6 mx c6, HX)] := Fx.addZ ((unhide X5).call hb6) (Bs.of_own0 o6)
       have ta0 : w6.cell? ⟨w.heap.size, 0, none⟩ = some (u32v s.a) := (X6.get 0 rfl).cell 0
       have ta1 : w6.cell? ⟨w.heap.size, 1, none⟩ = some (u32v s.b) := (X6.get 0 rfl).cell 1
       have ta2 : w6.cell? ⟨w.heap.size, 2, none⟩ = some (u32v s.c) := (X6.get 0 rfl).cell 2
       have ta3 : w6.cell? ⟨w.heap.size, 3, none⟩ = some (u32v s.d) := (X6.get 0 rfl).cell 3
       have ta4 : w6.cell? ⟨w.heap.size, 4, none⟩ = some (u64v n) := (X6.get 0 rfl).cell 4
       have tb0 : w6.cell? ⟨w.heap.size + 1, 0, none⟩ = some (u64v xn) := (X6.get 1 rfl).cell 0
       have tb1 : w6.cell? ⟨w.heap.size + 1, 1, none⟩ = some (.slice C mx d) := (X6.get 1 rfl).cell 1
       have tb2 : w6.cell? ⟨w.heap.size + 1, 2, none⟩ = some (u32v xt.a) := (X6.get 1 rfl).cell 2
       have tb3 : w6.cell? ⟨w.heap.size + 1, 3, none⟩ = some (u32v xt.b) := (X6.get 1 rfl).cell 3
       have tb4 : w6.cell? ⟨w.heap.size + 1, 4, none⟩ = some (u32v xt.c) := (X6.get 1 rfl).cell 4
       have tb5 : w6.cell? ⟨w.heap.size + 1, 5, none⟩ = some (u32v xt.d) := (X6.get 1 rfl).cell 5
       replace X6 := hide X6
       clear o6 hb6)
    | (go_at_call 10; refine (unhide hS3 _ _ (unhide X6).bl ((unhide X6).rd 0 rfl)).mono ?_; rintro e w7 ⟨A7, c7, rfl, o7, hb7⟩
       have X7a : Fx w w7 [(w.heap.size, 27, rgC s n), (w.heap.size + 1, 30, bxC xn (.slice C mx d) xt)] [] [] := Fx.sub ((unhide X6).call hb7) (by simp) (by simp) (by simp)
       have X7' : Fx w w7 [(w.heap.size, 27, rgC s n), (w.heap.size + 1, 30, bxC xn (.slice C mx d) xt)] [] [(.slice A7 mx c7, xl)] := Fx.addZ X7a (Bs.of_own0 o7)
       have X7 : Fx w ((w7.alloc (.cells (bxC xn (.slice A7 mx c7) xt) 30)).alloc (.cells (rgC s (xn + 1#64)) 27)) [(w.heap.size, 27, rgC s n), (w.heap.size + 1, 30, bxC xn (.slice C mx d) xt)] [] [(.slice A7 mx c7, xl)] := (X7'.alloc _).alloc _
       have l7 : w.heap.size < w7.heap.size := (X7'.get 0 rfl).lt
       have l7' : w.heap.size + 1 < w7.heap.size := (X7'.get 1 rfl).lt
       have oa0 : w7.cell? ⟨w.heap.size, 0, none⟩ = some (u32v s.a) := (X7'.get 0 rfl).cell 0
       have oa1 : w7.cell? ⟨w.heap.size, 1, none⟩ = some (u32v s.b) := (X7'.get 0 rfl).cell 1
       have oa2 : w7.cell? ⟨w.heap.size, 2, none⟩ = some (u32v s.c) := (X7'.get 0 rfl).cell 2
       have oa3 : w7.cell? ⟨w.heap.size, 3, none⟩ = some (u32v s.d) := (X7'.get 0 rfl).cell 3
       have oa4 : w7.cell? ⟨w.heap.size, 4, none⟩ = some (u64v n) := (X7'.get 0 rfl).cell 4
       have ob0 : w7.cell? ⟨w.heap.size + 1, 0, none⟩ = some (u64v xn) := (X7'.get 1 rfl).cell 0
       have ob1 : w7.cell? ⟨w.heap.size + 1, 1, none⟩ = some (.slice C mx d) := (X7'.get 1 rfl).cell 1
       have ob2 : w7.cell? ⟨w.heap.size + 1, 2, none⟩ = some (u32v xt.a) := (X7'.get 1 rfl).cell 2
       have ob3 : w7.cell? ⟨w.heap.size + 1, 3, none⟩ = some (u32v xt.b) := (X7'.get 1 rfl).cell 3
       have ob4 : w7.cell? ⟨w.heap.size + 1, 4, none⟩ = some (u32v xt.c) := (X7'.get 1 rfl).cell 4
       have ob5 : w7.cell? ⟨w.heap.size + 1, 5, none⟩ = some (u32v xt.d) := (X7'.get 1 rfl).cell 5
       replace X7 := hide X7
       clear hb7 o7 X7' X7a)
    | (go_at_call 24; refine (unhide hE _ _ (unhide X7).bl ((unhide X7).rd 0 rfl)).mono ?_; rintro e w8 ⟨rfl, hb8⟩
       have b8 : Below w.heap.size w w8 := bl_call (unhide X7).bl hb8
       replace b8 := hide b8
       clear hb8)
    | fail)
  go_ret
  exact ⟨rfl, unhide b8⟩
end
theorem back_law (s : St) (n : Nx) (va vb vx : Value) (a b : List UInt8) (x : Bx) (w : World) (ht : Tab w) (h : Bs 0 w.heap.size w va a) (h' : Bs 0 w.heap.size w vb b) (hx : Bs 0 w.heap.size w vx x.text) :
    Calls Tryd.prog 4 #[rgV s n, va, vb, bxV x.n vx x.tag] w fun e w' => e = .returned (.bool true) ∧ Below w.heap.size w w' := by
  by_cases h1 : 200 < a.length
  · exact back_gate0 s n va vb vx a b x w ht h h' hx h1
  · by_cases h2 : 200 < b.length
    · exact back_gate1 s n va vb vx a b x w ht h h' hx (by omega) h2
    · by_cases h3 : 200 < x.text.length
      · exact back_gate2 s n va vb vx a b x w ht h h' hx (by omega) (by omega) h3
      · by_cases h4 : n = 18446744073709551615#64
        · exact back_full s n va vb vx a b x w ht h h' hx (by omega) (by omega) (by omega) h4
        · cases hz : sameS (tagF s x.n x.text) x.tag with
          | false => exact back_no s n va vb vx a b x w ht h h' hx (by omega) (by omega) (by omega) h4 hz
          | true =>
            by_cases h5 : x.n = 18446744073709551615#64
            · exact back_full2 s n va vb vx a b x w ht h h' hx (by omega) (by omega) (by omega) h4 hz h5
            · exact back_yes s n va vb vx a b x w ht h h' hx (by omega) (by omega) (by omega) h4 hz h5
end Go.Proofs.YtlgahaidnpgnaaaDoor
