import Derived.Test.YtlgahaidnpgnaaaDoorD2
namespace Go.Proofs.YtlgahaidnpgnaaaDoor
open Go.RowKit

theorem sameX_me (x : Bx) : sameX x x = true := sameX_iff.2 rfl
theorem Bs.len63 {lo hi : Nat} {w : World} {v : Value} {l : List UInt8} (h : Bs lo hi w v l) : l.length ≤ 9223372036854775807 := by
  obtain ⟨_, c, _, h1, h2, _⟩ := h
  omega

section
attribute [local go_sem] guard24 guard27 q8_inc q8_inc'
set_option maxRecDepth 100000 in
set_option maxHeartbeats 40000000 in
theorem does_main (s : St) (n : Nx) (vb vx vy : Value) (b : List UInt8) (x y : Bx) (z : Int) (w : World) (ht : Tab w) (h : Bs 0 w.heap.size w vb b) (hx : Bs 0 w.heap.size w vx x.text) (hy : Bs 0 w.heap.size w vy y.text) (hgate : gateB b.length x.text.length y.text.length z = false) :
    Calls Tryd.prog 3 #[rgV s n, vb, bxV x.n vx x.tag, bxV y.n vy y.tag, .int .i64 z] w fun e w' => e = .returned (.bool true) ∧ Below w.heap.size w w' := by
  have htab : ∀ W, Below w.heap.size w W → Tab W := fun W hb => ht.below hb (Nat.le_refl _)
  have hl := fun W (hb : Below w.heap.size w W) => live_any W (htab W hb)
  have hcb := fun W (hb : Below w.heap.size w W) => (h.to hb).convert
  have hcx := fun W (hb : Below w.heap.size w W) => (hx.to hb).convert
  have hW1 := fun W (hb : Below w.heap.size w W) => Same_any x y vx vy W (hx.to hb) (hy.to hb)
  have hW2 := fun W (hb : Below w.heap.size w W) => SameR_any x y vx vy W (hx.to hb) (hy.to hb)
  generalize sameX x y = z0 at *
  generalize x.n = xn at *
  generalize x.text = xl at *
  generalize x.tag = xt at *
  generalize y.n = yn at *
  generalize y.text = yl at *
  generalize y.tag = yt at *
  obtain ⟨⟨Pn, Pl, Pt⟩, Qs, Qn, E1, hS0, hSR0⟩ := seal_all s n b
  obtain ⟨U, E2, hO0, hOR0⟩ := open_all s xn xl xt
  obtain ⟨C, E3, hB0, hBR0⟩ := bytes_all xn xl xt
  obtain ⟨⟨Kn, Kl, Kt⟩, E4, hF0, hFR0⟩ := from_all b
  obtain ⟨O, E5, hM0, hMR0⟩ := stream_all s xn z
  obtain ⟨T, E6, hT0, hTR0⟩ := tag_all s xn b
  have hS := fun W (hb : Below w.heap.size w W) => hS0 vb W (htab W hb) (h.to hb)
  have hSR := fun W (hb : Below w.heap.size w W) => hSR0 vb W (h.to hb)
  have hO := fun W (hb : Below w.heap.size w W) => hO0 vx W (htab W hb) (hx.to hb)
  have hOR := fun W (hb : Below w.heap.size w W) => hOR0 vx W (hx.to hb)
  have hB := fun W (hb : Below w.heap.size w W) => hB0 vx W (hx.to hb)
  have hBR := fun W (hb : Below w.heap.size w W) => hBR0 vx W (hx.to hb)
  have hF := fun W (hb : Below w.heap.size w W) => hF0 vb W (h.to hb)
  have hFR := fun W (hb : Below w.heap.size w W) => hFR0 vb W (h.to hb)
  have hM := fun W (hb : Below w.heap.size w W) => hM0 W (htab W hb)
  have hMR := fun W => hMR0 W
  have hT := fun W (hb : Below w.heap.size w W) => hT0 vb W (htab W hb) (h.to hb)
  have hTR := fun W (hb : Below w.heap.size w W) => hTR0 vb W (h.to hb)
  have hPP := fun v u W (h1 : Bs 0 W.heap.size W v Pl) (h2 : Bs 0 W.heap.size W u Pl) => SameR_any ⟨Pn, Pl, Pt⟩ ⟨Pn, Pl, Pt⟩ v u W h1 h2
  have hKK := fun v u W (h1 : Bs 0 W.heap.size W v Kl) (h2 : Bs 0 W.heap.size W u Kl) => SameR_any ⟨Kn, Kl, Kt⟩ ⟨Kn, Kl, Kt⟩ v u W h1 h2
  simp only [sameX_me] at hPP hKK
  have hUU := fun v u W (h1 : Bs 0 W.heap.size W v U) (h2 : Bs 0 W.heap.size W u U) => same_true _ _ _ _ v u U U W h1 h2 rfl
  have hCC := fun v u W (h1 : Bs 0 W.heap.size W v C) (h2 : Bs 0 W.heap.size W u C) => same_true _ _ _ _ v u C C W h1 h2 rfl
  have hOO := fun v u W (h1 : Bs 0 W.heap.size W v O) (h2 : Bs 0 W.heap.size W u O) => same_true _ _ _ _ v u O O W h1 h2 rfl
  have eT : ∀ W, (binOp .eql 24 (stV T) (stV T)).run Tryd.prog W = .ok (.bool true) W := fun W => by rw [eql_st, sameS_self]
  have eQ : ∀ W, (binOp .eql 27 (rgV Qs Qn) (rgV Qs Qn)).run Tryd.prog W = .ok (.bool true) W := fun W => eql_ring W Qs Qn
  clear hS0 hSR0 hO0 hOR0 hB0 hBR0 hF0 hFR0 hM0 hMR0 hT0 hTR0
  obtain ⟨Ab, cb, rfl⟩ := h.form
  obtain ⟨Cx, dx, rfl⟩ := hx.form
  obtain ⟨Cy, dy, rfl⟩ := hy.form
  simp only [] at hS hSR hF hFR hPP hKK
  have X0 : Fx w (((w.alloc (.cells (rgC s n) 27)).alloc (.cells (bxC xn (.slice Cx xl.length dx) xt) 30)).alloc (.cells (bxC yn (.slice Cy yl.length dy) yt) 30)) [(w.heap.size, 27, rgC s n), (w.heap.size + 1, 30, bxC xn (.slice Cx xl.length dx) xt), (w.heap.size + 1 + 1, 30, bxC yn (.slice Cy yl.length dy) yt)] [] [] := (((Fx.nil w).newB w.heap.size rfl (rgC s n) 27).newB (w.heap.size + 1) (by simp) (bxC xn (.slice Cx xl.length dx) xt) 30).newB (w.heap.size + 1 + 1) (by simp) (bxC yn (.slice Cy yl.length dy) yt) 30
  generalize b.length = mb at *
  generalize xl.length = mx at *
  generalize yl.length = my at *
  generalize hPl : Pl.length = mp at *
  generalize hKl : Kl.length = mk at *
  generalize hCl : C.length = mc at *
  generalize U.length = mu at *
  generalize O.length = mo at *
  generalize strU b = sb at *
  generalize strU xl = sx at *
  replace X0 := hide X0
  replace hl := hide hl
  replace hcb := hide hcb
  replace hcx := hide hcx
  replace hW1 := hide hW1
  replace hW2 := hide hW2
  replace hS := hide hS
  replace hSR := hide hSR
  replace hO := hide hO
  replace hOR := hide hOR
  replace hB := hide hB
  replace hBR := hide hBR
  replace hF := hide hF
  replace hFR := hide hFR
  replace hM := hide hM
  replace hMR := hide hMR
  replace hT := hide hT
  replace hTR := hide hTR
  replace hPP := hide hPP
  replace hKK := hide hKK
  replace hUU := hide hUU
  replace hCC := hide hCC
  replace hOO := hide hOO
  replace hgate := hide hgate
  replace hPl := hide hPl
  replace hKl := hide hKl
  replace hCl := hide hCl
  clear h hx hy ht htab
  go_enter Tryd.func3, Tryd.ntmps3
  go_upto_region 1 with (fail)
  generalize hW : World.alloc (World.alloc (World.alloc w _) _) _ = W at *
  clear hW
  go_upto_region 2 with (first
    | (go_at_call 9; refine (unhide hl _ (unhide X0).bl).mono ?_; rintro e w1 ⟨rfl, hb1⟩
       have X1 : Fx w w1 [(w.heap.size, 27, rgC s n), (w.heap.size + 1, 30, bxC xn (.slice Cx mx dx) xt), (w.heap.size + 1 + 1, 30, bxC yn (.slice Cy my dy) yt)] [] [] := (unhide X0).call hb1
       have cw1_0_0 : w1.cell? ⟨w.heap.size, 0, none⟩ = some (u32v s.a) := (X1.get 0 rfl).cell 0
       have cw1_0_1 : w1.cell? ⟨w.heap.size, 1, none⟩ = some (u32v s.b) := (X1.get 0 rfl).cell 1
       have cw1_0_2 : w1.cell? ⟨w.heap.size, 2, none⟩ = some (u32v s.c) := (X1.get 0 rfl).cell 2
       have cw1_0_3 : w1.cell? ⟨w.heap.size, 3, none⟩ = some (u32v s.d) := (X1.get 0 rfl).cell 3
       have cw1_0_4 : w1.cell? ⟨w.heap.size, 4, none⟩ = some (u64v n) := (X1.get 0 rfl).cell 4
       have cw1_1_0 : w1.cell? ⟨w.heap.size + 1, 0, none⟩ = some (u64v xn) := (X1.get 1 rfl).cell 0
       have cw1_1_1 : w1.cell? ⟨w.heap.size + 1, 1, none⟩ = some (.slice Cx mx dx) := (X1.get 1 rfl).cell 1
       have cw1_1_2 : w1.cell? ⟨w.heap.size + 1, 2, none⟩ = some (u32v xt.a) := (X1.get 1 rfl).cell 2
       have cw1_1_3 : w1.cell? ⟨w.heap.size + 1, 3, none⟩ = some (u32v xt.b) := (X1.get 1 rfl).cell 3
       have cw1_1_4 : w1.cell? ⟨w.heap.size + 1, 4, none⟩ = some (u32v xt.c) := (X1.get 1 rfl).cell 4
       have cw1_1_5 : w1.cell? ⟨w.heap.size + 1, 5, none⟩ = some (u32v xt.d) := (X1.get 1 rfl).cell 5
       have cw1_2_0 : w1.cell? ⟨w.heap.size + 1 + 1, 0, none⟩ = some (u64v yn) := (X1.get 2 rfl).cell 0
       have cw1_2_1 : w1.cell? ⟨w.heap.size + 1 + 1, 1, none⟩ = some (.slice Cy my dy) := (X1.get 2 rfl).cell 1
       have cw1_2_2 : w1.cell? ⟨w.heap.size + 1 + 1, 2, none⟩ = some (u32v yt.a) := (X1.get 2 rfl).cell 2
       have cw1_2_3 : w1.cell? ⟨w.heap.size + 1 + 1, 3, none⟩ = some (u32v yt.b) := (X1.get 2 rfl).cell 3
       have cw1_2_4 : w1.cell? ⟨w.heap.size + 1 + 1, 4, none⟩ = some (u32v yt.c) := (X1.get 2 rfl).cell 4
       have cw1_2_5 : w1.cell? ⟨w.heap.size + 1 + 1, 5, none⟩ = some (u32v yt.d) := (X1.get 2 rfl).cell 5
       have lw1_0 : w.heap.size < w1.heap.size := (X1.get 0 rfl).lt
       have lw1_1 : w.heap.size + 1 < w1.heap.size := (X1.get 1 rfl).lt
       have lw1_2 : w.heap.size + 1 + 1 < w1.heap.size := (X1.get 2 rfl).lt
       replace X1 := hide X1
       clear hb1)
    | fail)
  go_cut [89] (fun s89 wc => s89 = .bool false ∧ w1 = wc)
  case first =>
    have hgf := unhide hgate
    have hkm : (mb ≤ 200 ∨ 65536 < mb ∧ mb ≤ 70000) ∧ (mx ≤ 200 ∨ 65536 < mx ∧ mx ≤ 70000) ∧ my ≤ 200 ∧ (z ≤ 200 ∨ 65536 < z) := gate_false hgf
    clear hgf
    obtain ⟨ha, hc, hd, he⟩ := hkm
    rcases ha with ha | ha
    · rcases hc with hc | hc
      · rcases he with he | he
        · have k0 : ¬ (200 : Int) < (mb : Int) := by omega
          have k1 : ¬ (70000 : Int) < (mb : Int) := by omega
          have k2 : ¬ (200 : Int) < (mx : Int) := by omega
          have k3 : ¬ (70000 : Int) < (mx : Int) := by omega
          have k4 : ¬ (200 : Int) < (my : Int) := by omega
          have k5 : ¬ (200 : Int) < z := by omega
          replace ha := hide ha
          replace hc := hide hc
          replace hd := hide hd
          replace he := hide he
          as_aux_lemma =>
            go_wp2_with (fail)
            go_meet
            exact ⟨rfl, rfl⟩
        · have k0 : ¬ (200 : Int) < (mb : Int) := by omega
          have k1 : ¬ (70000 : Int) < (mb : Int) := by omega
          have k2 : ¬ (200 : Int) < (mx : Int) := by omega
          have k3 : ¬ (70000 : Int) < (mx : Int) := by omega
          have k4 : ¬ (200 : Int) < (my : Int) := by omega
          have k5 : (200 : Int) < z := by omega
          have k6 : ¬ z ≤ 65536 := by omega
          replace ha := hide ha
          replace hc := hide hc
          replace hd := hide hd
          replace he := hide he
          as_aux_lemma =>
            go_wp2_with (fail)
            go_meet
            exact ⟨rfl, rfl⟩
      · rcases he with he | he
        · have k0 : ¬ (200 : Int) < (mb : Int) := by omega
          have k1 : ¬ (70000 : Int) < (mb : Int) := by omega
          have k2 : (200 : Int) < (mx : Int) := by omega
          have k3 : ¬ (mx : Int) ≤ 65536 := by omega
          have k4 : ¬ (70000 : Int) < (mx : Int) := by omega
          have k5 : ¬ (200 : Int) < (my : Int) := by omega
          have k6 : ¬ (200 : Int) < z := by omega
          replace ha := hide ha
          replace hc := hide hc
          replace hd := hide hd
          replace he := hide he
          as_aux_lemma =>
            go_wp2_with (fail)
            go_meet
            exact ⟨rfl, rfl⟩
        · have k0 : ¬ (200 : Int) < (mb : Int) := by omega
          have k1 : ¬ (70000 : Int) < (mb : Int) := by omega
          have k2 : (200 : Int) < (mx : Int) := by omega
          have k3 : ¬ (mx : Int) ≤ 65536 := by omega
          have k4 : ¬ (70000 : Int) < (mx : Int) := by omega
          have k5 : ¬ (200 : Int) < (my : Int) := by omega
          have k6 : (200 : Int) < z := by omega
          have k7 : ¬ z ≤ 65536 := by omega
          replace ha := hide ha
          replace hc := hide hc
          replace hd := hide hd
          replace he := hide he
          as_aux_lemma =>
            go_wp2_with (fail)
            go_meet
            exact ⟨rfl, rfl⟩
    · rcases hc with hc | hc
      · rcases he with he | he
        · have k0 : (200 : Int) < (mb : Int) := by omega
          have k1 : ¬ (mb : Int) ≤ 65536 := by omega
          have k2 : ¬ (70000 : Int) < (mb : Int) := by omega
          have k3 : ¬ (200 : Int) < (mx : Int) := by omega
          have k4 : ¬ (70000 : Int) < (mx : Int) := by omega
          have k5 : ¬ (200 : Int) < (my : Int) := by omega
          have k6 : ¬ (200 : Int) < z := by omega
          replace ha := hide ha
          replace hc := hide hc
          replace hd := hide hd
          replace he := hide he
          as_aux_lemma =>
            go_wp2_with (fail)
            go_meet
            exact ⟨rfl, rfl⟩
        · have k0 : (200 : Int) < (mb : Int) := by omega
          have k1 : ¬ (mb : Int) ≤ 65536 := by omega
          have k2 : ¬ (70000 : Int) < (mb : Int) := by omega
          have k3 : ¬ (200 : Int) < (mx : Int) := by omega
          have k4 : ¬ (70000 : Int) < (mx : Int) := by omega
          have k5 : ¬ (200 : Int) < (my : Int) := by omega
          have k6 : (200 : Int) < z := by omega
          have k7 : ¬ z ≤ 65536 := by omega
          replace ha := hide ha
          replace hc := hide hc
          replace hd := hide hd
          replace he := hide he
          as_aux_lemma =>
            go_wp2_with (fail)
            go_meet
            exact ⟨rfl, rfl⟩
      · rcases he with he | he
        · have k0 : (200 : Int) < (mb : Int) := by omega
          have k1 : ¬ (mb : Int) ≤ 65536 := by omega
          have k2 : ¬ (70000 : Int) < (mb : Int) := by omega
          have k3 : (200 : Int) < (mx : Int) := by omega
          have k4 : ¬ (mx : Int) ≤ 65536 := by omega
          have k5 : ¬ (70000 : Int) < (mx : Int) := by omega
          have k6 : ¬ (200 : Int) < (my : Int) := by omega
          have k7 : ¬ (200 : Int) < z := by omega
          replace ha := hide ha
          replace hc := hide hc
          replace hd := hide hd
          replace he := hide he
          as_aux_lemma =>
            go_wp2_with (fail)
            go_meet
            exact ⟨rfl, rfl⟩
        · have k0 : (200 : Int) < (mb : Int) := by omega
          have k1 : ¬ (mb : Int) ≤ 65536 := by omega
          have k2 : ¬ (70000 : Int) < (mb : Int) := by omega
          have k3 : (200 : Int) < (mx : Int) := by omega
          have k4 : ¬ (mx : Int) ≤ 65536 := by omega
          have k5 : ¬ (70000 : Int) < (mx : Int) := by omega
          have k6 : ¬ (200 : Int) < (my : Int) := by omega
          have k7 : (200 : Int) < z := by omega
          have k8 : ¬ z ≤ 65536 := by omega
          replace ha := hide ha
          replace hc := hide hc
          replace hd := hide hd
          replace he := hide he
          as_aux_lemma =>
            go_wp2_with (fail)
            go_meet
            exact ⟨rfl, rfl⟩
  case rest =>
    obtain ⟨rfl, rfl⟩ := hcut
    have qb := unhide hcb w1 (unhide X1).bl
    have qx := unhide hcx w1 (unhide X1).bl
    go_upto_region 6 with (fail)
    clear qb qx
    go_upto_region 18 with (first
    | (go_at_call 10; refine (unhide hS _ (unhide X1).bl).mono ?_; rintro e w2 ⟨A2, c2, rfl, o2, hb2⟩
       have X2a : Fx w w2 [(w.heap.size, 27, rgC s n), (w.heap.size + 1, 30, bxC xn (.slice Cx mx dx) xt), (w.heap.size + 1 + 1, 30, bxC yn (.slice Cy my dy) yt)] [] [(.slice A2 mp c2, Pl)] := Fx.addZ ((unhide X1).call hb2) (Bs.of_own0 o2)
       have X2' : Fx w w2 [(w.heap.size, 27, rgC s n), (w.heap.size + 1, 30, bxC xn (.slice Cx mx dx) xt), (w.heap.size + 1 + 1, 30, bxC yn (.slice Cy my dy) yt)] [(w1.heap.size, .slice A2 mp c2, Pl)] [(.slice A2 mp c2, Pl)] := Fx.addR X2a o2 (hb2.size)
       have cw2_0_0 : w2.cell? ⟨w.heap.size, 0, none⟩ = some (u32v s.a) := (X2'.get 0 rfl).cell 0
       have cw2_0_1 : w2.cell? ⟨w.heap.size, 1, none⟩ = some (u32v s.b) := (X2'.get 0 rfl).cell 1
       have cw2_0_2 : w2.cell? ⟨w.heap.size, 2, none⟩ = some (u32v s.c) := (X2'.get 0 rfl).cell 2
       have cw2_0_3 : w2.cell? ⟨w.heap.size, 3, none⟩ = some (u32v s.d) := (X2'.get 0 rfl).cell 3
       have cw2_0_4 : w2.cell? ⟨w.heap.size, 4, none⟩ = some (u64v n) := (X2'.get 0 rfl).cell 4
       have cw2_1_0 : w2.cell? ⟨w.heap.size + 1, 0, none⟩ = some (u64v xn) := (X2'.get 1 rfl).cell 0
       have cw2_1_1 : w2.cell? ⟨w.heap.size + 1, 1, none⟩ = some (.slice Cx mx dx) := (X2'.get 1 rfl).cell 1
       have cw2_1_2 : w2.cell? ⟨w.heap.size + 1, 2, none⟩ = some (u32v xt.a) := (X2'.get 1 rfl).cell 2
       have cw2_1_3 : w2.cell? ⟨w.heap.size + 1, 3, none⟩ = some (u32v xt.b) := (X2'.get 1 rfl).cell 3
       have cw2_1_4 : w2.cell? ⟨w.heap.size + 1, 4, none⟩ = some (u32v xt.c) := (X2'.get 1 rfl).cell 4
       have cw2_1_5 : w2.cell? ⟨w.heap.size + 1, 5, none⟩ = some (u32v xt.d) := (X2'.get 1 rfl).cell 5
       have lw2_0 : w.heap.size < w2.heap.size := (X2'.get 0 rfl).lt
       have lw2_1 : w.heap.size + 1 < w2.heap.size := (X2'.get 1 rfl).lt
       have lw2_2 : w.heap.size + 1 + 1 < w2.heap.size := (X2'.get 2 rfl).lt
       have n63_2 : mp ≤ 9223372036854775807 := by have hh := (Bs.of_own0 o2).len63; have hp := unhide hPl; omega
       have vb2 : VBelow w2.heap.size (.slice A2 mp c2) := own_vbelow o2
       have X2 : Fx w ((w2.alloc (.cells (bxC Pn (.slice A2 mp c2) Pt) 30)).alloc (.cells (rgC Qs Qn) 27)) [(w.heap.size, 27, rgC s n), (w.heap.size + 1, 30, bxC xn (.slice Cx mx dx) xt), (w.heap.size + 1 + 1, 30, bxC yn (.slice Cy my dy) yt), (w2.heap.size, 30, bxC Pn (.slice A2 mp c2) Pt), (w2.heap.size + 1, 27, rgC Qs Qn)] [(w1.heap.size, .slice A2 mp c2, Pl)] [(.slice A2 mp c2, Pl)] := ((X2'.newB (w2.heap.size) rfl (bxC Pn (.slice A2 mp c2) Pt) 30).newB (w2.heap.size + 1) (by simp) (rgC Qs Qn) 27)
       replace X2 := hide X2; replace vb2 := hide vb2
       clear X2' X2a hb2 o2 cw1_0_0 cw1_0_1 cw1_0_2 cw1_0_3 cw1_0_4 cw1_1_0 cw1_1_1 cw1_1_2 cw1_1_3 cw1_1_4 cw1_1_5)
    | (go_at_call 11; refine (unhide hSR _ (unhide X2).bl).mono ?_; rintro e w3 ⟨A3, c3, rfl, o3, hb3⟩
       have X3a : Fx w w3 [(w.heap.size, 27, rgC s n), (w.heap.size + 1, 30, bxC xn (.slice Cx mx dx) xt), (w.heap.size + 1 + 1, 30, bxC yn (.slice Cy my dy) yt), (w2.heap.size, 30, bxC Pn (.slice A2 mp c2) Pt), (w2.heap.size + 1, 27, rgC Qs Qn)] [(w1.heap.size, .slice A2 mp c2, Pl)] [(.slice A2 mp c2, Pl), (.slice A3 mp c3, Pl)] := Fx.addZ ((unhide X2).call hb3) (Bs.of_own0 o3)
       have X3' : Fx w w3 [(w.heap.size, 27, rgC s n), (w.heap.size + 1, 30, bxC xn (.slice Cx mx dx) xt), (w.heap.size + 1 + 1, 30, bxC yn (.slice Cy my dy) yt), (w2.heap.size, 30, bxC Pn (.slice A2 mp c2) Pt), (w2.heap.size + 1, 27, rgC Qs Qn)] [(w1.heap.size, .slice A2 mp c2, Pl)] [(.slice A2 mp c2, Pl), (.slice A3 mp c3, Pl)] := X3a
       have cw3_0_0 : w3.cell? ⟨w.heap.size, 0, none⟩ = some (u32v s.a) := (X3'.get 0 rfl).cell 0
       have cw3_0_1 : w3.cell? ⟨w.heap.size, 1, none⟩ = some (u32v s.b) := (X3'.get 0 rfl).cell 1
       have cw3_0_2 : w3.cell? ⟨w.heap.size, 2, none⟩ = some (u32v s.c) := (X3'.get 0 rfl).cell 2
       have cw3_0_3 : w3.cell? ⟨w.heap.size, 3, none⟩ = some (u32v s.d) := (X3'.get 0 rfl).cell 3
       have cw3_0_4 : w3.cell? ⟨w.heap.size, 4, none⟩ = some (u64v n) := (X3'.get 0 rfl).cell 4
       have cw3_1_0 : w3.cell? ⟨w.heap.size + 1, 0, none⟩ = some (u64v xn) := (X3'.get 1 rfl).cell 0
       have cw3_1_1 : w3.cell? ⟨w.heap.size + 1, 1, none⟩ = some (.slice Cx mx dx) := (X3'.get 1 rfl).cell 1
       have cw3_1_2 : w3.cell? ⟨w.heap.size + 1, 2, none⟩ = some (u32v xt.a) := (X3'.get 1 rfl).cell 2
       have cw3_1_3 : w3.cell? ⟨w.heap.size + 1, 3, none⟩ = some (u32v xt.b) := (X3'.get 1 rfl).cell 3
       have cw3_1_4 : w3.cell? ⟨w.heap.size + 1, 4, none⟩ = some (u32v xt.c) := (X3'.get 1 rfl).cell 4
       have cw3_1_5 : w3.cell? ⟨w.heap.size + 1, 5, none⟩ = some (u32v xt.d) := (X3'.get 1 rfl).cell 5
       have lw3_0 : w.heap.size < w3.heap.size := (X3'.get 0 rfl).lt
       have lw3_1 : w.heap.size + 1 < w3.heap.size := (X3'.get 1 rfl).lt
       have lw3_2 : w.heap.size + 1 + 1 < w3.heap.size := (X3'.get 2 rfl).lt
       have X3 : Fx w ((w3.alloc (.cells (bxC Pn (.slice A3 mp c3) Pt) 30)).alloc (.cells (rgC Qs Qn) 27)) [(w.heap.size, 27, rgC s n), (w.heap.size + 1, 30, bxC xn (.slice Cx mx dx) xt), (w.heap.size + 1 + 1, 30, bxC yn (.slice Cy my dy) yt), (w2.heap.size, 30, bxC Pn (.slice A2 mp c2) Pt), (w2.heap.size + 1, 27, rgC Qs Qn), (w3.heap.size, 30, bxC Pn (.slice A3 mp c3) Pt), (w3.heap.size + 1, 27, rgC Qs Qn)] [(w1.heap.size, .slice A2 mp c2, Pl)] [(.slice A2 mp c2, Pl), (.slice A3 mp c3, Pl)] := ((X3'.newB (w3.heap.size) rfl (bxC Pn (.slice A3 mp c3) Pt) 30).newB (w3.heap.size + 1) (by simp) (rgC Qs Qn) 27)
       replace X3 := hide X3
       clear X3' X3a hb3 o3 cw2_0_0 cw2_0_1 cw2_0_2 cw2_0_3 cw2_0_4 cw2_1_0 cw2_1_1 cw2_1_2 cw2_1_3 cw2_1_4 cw2_1_5)
    | (go_at_call 12; refine (unhide hO _ (unhide X3).bl).mono ?_; rintro e w4 ⟨A4, c4, rfl, o4, hb4⟩
       have X4a : Fx w w4 [(w.heap.size, 27, rgC s n), (w.heap.size + 1, 30, bxC xn (.slice Cx mx dx) xt), (w.heap.size + 1 + 1, 30, bxC yn (.slice Cy my dy) yt), (w2.heap.size, 30, bxC Pn (.slice A2 mp c2) Pt), (w2.heap.size + 1, 27, rgC Qs Qn), (w3.heap.size, 30, bxC Pn (.slice A3 mp c3) Pt), (w3.heap.size + 1, 27, rgC Qs Qn)] [(w1.heap.size, .slice A2 mp c2, Pl)] [(.slice A2 mp c2, Pl), (.slice A3 mp c3, Pl), (.slice A4 mu c4, U)] := Fx.addZ ((unhide X3).call hb4) (Bs.of_own0 o4)
       have X4' : Fx w w4 [(w.heap.size, 27, rgC s n), (w.heap.size + 1, 30, bxC xn (.slice Cx mx dx) xt), (w.heap.size + 1 + 1, 30, bxC yn (.slice Cy my dy) yt), (w2.heap.size, 30, bxC Pn (.slice A2 mp c2) Pt), (w2.heap.size + 1, 27, rgC Qs Qn), (w3.heap.size, 30, bxC Pn (.slice A3 mp c3) Pt), (w3.heap.size + 1, 27, rgC Qs Qn)] [(w1.heap.size, .slice A2 mp c2, Pl)] [(.slice A2 mp c2, Pl), (.slice A3 mp c3, Pl), (.slice A4 mu c4, U)] := X4a
       have cw4_0_0 : w4.cell? ⟨w.heap.size, 0, none⟩ = some (u32v s.a) := (X4'.get 0 rfl).cell 0
       have cw4_0_1 : w4.cell? ⟨w.heap.size, 1, none⟩ = some (u32v s.b) := (X4'.get 0 rfl).cell 1
       have cw4_0_2 : w4.cell? ⟨w.heap.size, 2, none⟩ = some (u32v s.c) := (X4'.get 0 rfl).cell 2
       have cw4_0_3 : w4.cell? ⟨w.heap.size, 3, none⟩ = some (u32v s.d) := (X4'.get 0 rfl).cell 3
       have cw4_0_4 : w4.cell? ⟨w.heap.size, 4, none⟩ = some (u64v n) := (X4'.get 0 rfl).cell 4
       have cw4_1_0 : w4.cell? ⟨w.heap.size + 1, 0, none⟩ = some (u64v xn) := (X4'.get 1 rfl).cell 0
       have cw4_1_1 : w4.cell? ⟨w.heap.size + 1, 1, none⟩ = some (.slice Cx mx dx) := (X4'.get 1 rfl).cell 1
       have cw4_1_2 : w4.cell? ⟨w.heap.size + 1, 2, none⟩ = some (u32v xt.a) := (X4'.get 1 rfl).cell 2
       have cw4_1_3 : w4.cell? ⟨w.heap.size + 1, 3, none⟩ = some (u32v xt.b) := (X4'.get 1 rfl).cell 3
       have cw4_1_4 : w4.cell? ⟨w.heap.size + 1, 4, none⟩ = some (u32v xt.c) := (X4'.get 1 rfl).cell 4
       have cw4_1_5 : w4.cell? ⟨w.heap.size + 1, 5, none⟩ = some (u32v xt.d) := (X4'.get 1 rfl).cell 5
       have lw4_0 : w.heap.size < w4.heap.size := (X4'.get 0 rfl).lt
       have lw4_1 : w.heap.size + 1 < w4.heap.size := (X4'.get 1 rfl).lt
       have lw4_2 : w.heap.size + 1 + 1 < w4.heap.size := (X4'.get 2 rfl).lt
       have X4 : Fx w w4 [(w.heap.size, 27, rgC s n), (w.heap.size + 1, 30, bxC xn (.slice Cx mx dx) xt), (w.heap.size + 1 + 1, 30, bxC yn (.slice Cy my dy) yt), (w2.heap.size, 30, bxC Pn (.slice A2 mp c2) Pt), (w2.heap.size + 1, 27, rgC Qs Qn), (w3.heap.size, 30, bxC Pn (.slice A3 mp c3) Pt), (w3.heap.size + 1, 27, rgC Qs Qn)] [(w1.heap.size, .slice A2 mp c2, Pl)] [(.slice A2 mp c2, Pl), (.slice A3 mp c3, Pl), (.slice A4 mu c4, U)] := X4'
       replace X4 := hide X4
       clear X4' X4a hb4 o4 cw3_0_0 cw3_0_1 cw3_0_2 cw3_0_3 cw3_0_4 cw3_1_0 cw3_1_1 cw3_1_2 cw3_1_3 cw3_1_4 cw3_1_5)
    | (go_at_call 13; refine (unhide hOR _ (unhide X4).bl).mono ?_; rintro e w5 ⟨A5, c5, rfl, o5, hb5⟩
       have X5a : Fx w w5 [(w.heap.size, 27, rgC s n), (w.heap.size + 1, 30, bxC xn (.slice Cx mx dx) xt), (w.heap.size + 1 + 1, 30, bxC yn (.slice Cy my dy) yt), (w2.heap.size, 30, bxC Pn (.slice A2 mp c2) Pt), (w2.heap.size + 1, 27, rgC Qs Qn), (w3.heap.size, 30, bxC Pn (.slice A3 mp c3) Pt), (w3.heap.size + 1, 27, rgC Qs Qn)] [(w1.heap.size, .slice A2 mp c2, Pl)] [(.slice A2 mp c2, Pl), (.slice A3 mp c3, Pl), (.slice A4 mu c4, U), (.slice A5 mu c5, U)] := Fx.addZ ((unhide X4).call hb5) (Bs.of_own0 o5)
       have X5' : Fx w w5 [(w.heap.size, 27, rgC s n), (w.heap.size + 1, 30, bxC xn (.slice Cx mx dx) xt), (w.heap.size + 1 + 1, 30, bxC yn (.slice Cy my dy) yt), (w2.heap.size, 30, bxC Pn (.slice A2 mp c2) Pt), (w2.heap.size + 1, 27, rgC Qs Qn), (w3.heap.size, 30, bxC Pn (.slice A3 mp c3) Pt), (w3.heap.size + 1, 27, rgC Qs Qn)] [(w1.heap.size, .slice A2 mp c2, Pl)] [(.slice A2 mp c2, Pl), (.slice A3 mp c3, Pl), (.slice A4 mu c4, U), (.slice A5 mu c5, U)] := X5a
       have cw5_0_0 : w5.cell? ⟨w.heap.size, 0, none⟩ = some (u32v s.a) := (X5'.get 0 rfl).cell 0
       have cw5_0_1 : w5.cell? ⟨w.heap.size, 1, none⟩ = some (u32v s.b) := (X5'.get 0 rfl).cell 1
       have cw5_0_2 : w5.cell? ⟨w.heap.size, 2, none⟩ = some (u32v s.c) := (X5'.get 0 rfl).cell 2
       have cw5_0_3 : w5.cell? ⟨w.heap.size, 3, none⟩ = some (u32v s.d) := (X5'.get 0 rfl).cell 3
       have cw5_0_4 : w5.cell? ⟨w.heap.size, 4, none⟩ = some (u64v n) := (X5'.get 0 rfl).cell 4
       have cw5_1_0 : w5.cell? ⟨w.heap.size + 1, 0, none⟩ = some (u64v xn) := (X5'.get 1 rfl).cell 0
       have cw5_1_1 : w5.cell? ⟨w.heap.size + 1, 1, none⟩ = some (.slice Cx mx dx) := (X5'.get 1 rfl).cell 1
       have cw5_1_2 : w5.cell? ⟨w.heap.size + 1, 2, none⟩ = some (u32v xt.a) := (X5'.get 1 rfl).cell 2
       have cw5_1_3 : w5.cell? ⟨w.heap.size + 1, 3, none⟩ = some (u32v xt.b) := (X5'.get 1 rfl).cell 3
       have cw5_1_4 : w5.cell? ⟨w.heap.size + 1, 4, none⟩ = some (u32v xt.c) := (X5'.get 1 rfl).cell 4
       have cw5_1_5 : w5.cell? ⟨w.heap.size + 1, 5, none⟩ = some (u32v xt.d) := (X5'.get 1 rfl).cell 5
       have lw5_0 : w.heap.size < w5.heap.size := (X5'.get 0 rfl).lt
       have lw5_1 : w.heap.size + 1 < w5.heap.size := (X5'.get 1 rfl).lt
       have lw5_2 : w.heap.size + 1 + 1 < w5.heap.size := (X5'.get 2 rfl).lt
       have le25 : w2.heap.size ≤ w5.heap.size := Nat.le_of_lt (X5'.get 3 rfl).lt
       have X5 : Fx w w5 [(w.heap.size, 27, rgC s n), (w.heap.size + 1, 30, bxC xn (.slice Cx mx dx) xt), (w.heap.size + 1 + 1, 30, bxC yn (.slice Cy my dy) yt), (w2.heap.size, 30, bxC Pn (.slice A2 mp c2) Pt), (w2.heap.size + 1, 27, rgC Qs Qn), (w3.heap.size, 30, bxC Pn (.slice A3 mp c3) Pt), (w3.heap.size + 1, 27, rgC Qs Qn)] [(w1.heap.size, .slice A2 mp c2, Pl)] [(.slice A2 mp c2, Pl), (.slice A3 mp c3, Pl), (.slice A4 mu c4, U), (.slice A5 mu c5, U)] := X5'
       replace X5 := hide X5
       clear X5' X5a hb5 o5 cw4_0_0 cw4_0_1 cw4_0_2 cw4_0_3 cw4_0_4 cw4_1_0 cw4_1_1 cw4_1_2 cw4_1_3 cw4_1_4 cw4_1_5)
    | (go_at_call 14; refine (unhide hB _ (unhide X5).bl).mono ?_; rintro e w6 ⟨A6, c6, rfl, o6, hb6⟩
       have X6a : Fx w w6 [(w.heap.size, 27, rgC s n), (w.heap.size + 1, 30, bxC xn (.slice Cx mx dx) xt), (w.heap.size + 1 + 1, 30, bxC yn (.slice Cy my dy) yt), (w2.heap.size, 30, bxC Pn (.slice A2 mp c2) Pt), (w2.heap.size + 1, 27, rgC Qs Qn), (w3.heap.size, 30, bxC Pn (.slice A3 mp c3) Pt), (w3.heap.size + 1, 27, rgC Qs Qn)] [(w1.heap.size, .slice A2 mp c2, Pl)] [(.slice A2 mp c2, Pl), (.slice A3 mp c3, Pl), (.slice A4 mu c4, U), (.slice A5 mu c5, U), (.slice A6 mc c6, C)] := Fx.addZ ((unhide X5).call hb6) (Bs.of_own0 o6)
       have X6' : Fx w w6 [(w.heap.size, 27, rgC s n), (w.heap.size + 1, 30, bxC xn (.slice Cx mx dx) xt), (w.heap.size + 1 + 1, 30, bxC yn (.slice Cy my dy) yt), (w2.heap.size, 30, bxC Pn (.slice A2 mp c2) Pt), (w2.heap.size + 1, 27, rgC Qs Qn), (w3.heap.size, 30, bxC Pn (.slice A3 mp c3) Pt), (w3.heap.size + 1, 27, rgC Qs Qn)] [(w1.heap.size, .slice A2 mp c2, Pl), (w5.heap.size, .slice A6 mc c6, C)] [(.slice A2 mp c2, Pl), (.slice A3 mp c3, Pl), (.slice A4 mu c4, U), (.slice A5 mu c5, U), (.slice A6 mc c6, C)] := Fx.addR X6a o6 (hb6.size)
       have cw6_0_0 : w6.cell? ⟨w.heap.size, 0, none⟩ = some (u32v s.a) := (X6'.get 0 rfl).cell 0
       have cw6_0_1 : w6.cell? ⟨w.heap.size, 1, none⟩ = some (u32v s.b) := (X6'.get 0 rfl).cell 1
       have cw6_0_2 : w6.cell? ⟨w.heap.size, 2, none⟩ = some (u32v s.c) := (X6'.get 0 rfl).cell 2
       have cw6_0_3 : w6.cell? ⟨w.heap.size, 3, none⟩ = some (u32v s.d) := (X6'.get 0 rfl).cell 3
       have cw6_0_4 : w6.cell? ⟨w.heap.size, 4, none⟩ = some (u64v n) := (X6'.get 0 rfl).cell 4
       have cw6_1_0 : w6.cell? ⟨w.heap.size + 1, 0, none⟩ = some (u64v xn) := (X6'.get 1 rfl).cell 0
       have cw6_1_1 : w6.cell? ⟨w.heap.size + 1, 1, none⟩ = some (.slice Cx mx dx) := (X6'.get 1 rfl).cell 1
       have cw6_1_2 : w6.cell? ⟨w.heap.size + 1, 2, none⟩ = some (u32v xt.a) := (X6'.get 1 rfl).cell 2
       have cw6_1_3 : w6.cell? ⟨w.heap.size + 1, 3, none⟩ = some (u32v xt.b) := (X6'.get 1 rfl).cell 3
       have cw6_1_4 : w6.cell? ⟨w.heap.size + 1, 4, none⟩ = some (u32v xt.c) := (X6'.get 1 rfl).cell 4
       have cw6_1_5 : w6.cell? ⟨w.heap.size + 1, 5, none⟩ = some (u32v xt.d) := (X6'.get 1 rfl).cell 5
       have lw6_0 : w.heap.size < w6.heap.size := (X6'.get 0 rfl).lt
       have lw6_1 : w.heap.size + 1 < w6.heap.size := (X6'.get 1 rfl).lt
       have lw6_2 : w.heap.size + 1 + 1 < w6.heap.size := (X6'.get 2 rfl).lt
       have n63_6 : mc ≤ 9223372036854775807 := by have hh := (Bs.of_own0 o6).len63; have hp := unhide hCl; omega
       have vb6 : VBelow w6.heap.size (.slice A6 mc c6) := own_vbelow o6
       have X6 : Fx w w6 [(w.heap.size, 27, rgC s n), (w.heap.size + 1, 30, bxC xn (.slice Cx mx dx) xt), (w.heap.size + 1 + 1, 30, bxC yn (.slice Cy my dy) yt), (w2.heap.size, 30, bxC Pn (.slice A2 mp c2) Pt), (w2.heap.size + 1, 27, rgC Qs Qn), (w3.heap.size, 30, bxC Pn (.slice A3 mp c3) Pt), (w3.heap.size + 1, 27, rgC Qs Qn)] [(w1.heap.size, .slice A2 mp c2, Pl), (w5.heap.size, .slice A6 mc c6, C)] [(.slice A2 mp c2, Pl), (.slice A3 mp c3, Pl), (.slice A4 mu c4, U), (.slice A5 mu c5, U), (.slice A6 mc c6, C)] := X6'
       replace X6 := hide X6; replace vb6 := hide vb6
       clear X6' X6a hb6 o6 cw5_0_0 cw5_0_1 cw5_0_2 cw5_0_3 cw5_0_4 cw5_1_0 cw5_1_1 cw5_1_2 cw5_1_3 cw5_1_4 cw5_1_5)
    | (go_at_call 15; refine (unhide hBR _ (unhide X6).bl).mono ?_; rintro e w7 ⟨A7, c7, rfl, o7, hb7⟩
       have X7a : Fx w w7 [(w.heap.size, 27, rgC s n), (w.heap.size + 1, 30, bxC xn (.slice Cx mx dx) xt), (w.heap.size + 1 + 1, 30, bxC yn (.slice Cy my dy) yt), (w2.heap.size, 30, bxC Pn (.slice A2 mp c2) Pt), (w2.heap.size + 1, 27, rgC Qs Qn), (w3.heap.size, 30, bxC Pn (.slice A3 mp c3) Pt), (w3.heap.size + 1, 27, rgC Qs Qn)] [(w1.heap.size, .slice A2 mp c2, Pl), (w5.heap.size, .slice A6 mc c6, C)] [(.slice A2 mp c2, Pl), (.slice A3 mp c3, Pl), (.slice A4 mu c4, U), (.slice A5 mu c5, U), (.slice A6 mc c6, C), (.slice A7 mc c7, C)] := Fx.addZ ((unhide X6).call hb7) (Bs.of_own0 o7)
       have X7' : Fx w w7 [(w.heap.size, 27, rgC s n), (w.heap.size + 1, 30, bxC xn (.slice Cx mx dx) xt), (w.heap.size + 1 + 1, 30, bxC yn (.slice Cy my dy) yt), (w2.heap.size, 30, bxC Pn (.slice A2 mp c2) Pt), (w2.heap.size + 1, 27, rgC Qs Qn), (w3.heap.size, 30, bxC Pn (.slice A3 mp c3) Pt), (w3.heap.size + 1, 27, rgC Qs Qn)] [(w1.heap.size, .slice A2 mp c2, Pl), (w5.heap.size, .slice A6 mc c6, C)] [(.slice A2 mp c2, Pl), (.slice A3 mp c3, Pl), (.slice A4 mu c4, U), (.slice A5 mu c5, U), (.slice A6 mc c6, C), (.slice A7 mc c7, C)] := X7a
       have cw7_0_0 : w7.cell? ⟨w.heap.size, 0, none⟩ = some (u32v s.a) := (X7'.get 0 rfl).cell 0
       have cw7_0_1 : w7.cell? ⟨w.heap.size, 1, none⟩ = some (u32v s.b) := (X7'.get 0 rfl).cell 1
       have cw7_0_2 : w7.cell? ⟨w.heap.size, 2, none⟩ = some (u32v s.c) := (X7'.get 0 rfl).cell 2
       have cw7_0_3 : w7.cell? ⟨w.heap.size, 3, none⟩ = some (u32v s.d) := (X7'.get 0 rfl).cell 3
       have cw7_0_4 : w7.cell? ⟨w.heap.size, 4, none⟩ = some (u64v n) := (X7'.get 0 rfl).cell 4
       have cw7_1_0 : w7.cell? ⟨w.heap.size + 1, 0, none⟩ = some (u64v xn) := (X7'.get 1 rfl).cell 0
       have cw7_1_1 : w7.cell? ⟨w.heap.size + 1, 1, none⟩ = some (.slice Cx mx dx) := (X7'.get 1 rfl).cell 1
       have cw7_1_2 : w7.cell? ⟨w.heap.size + 1, 2, none⟩ = some (u32v xt.a) := (X7'.get 1 rfl).cell 2
       have cw7_1_3 : w7.cell? ⟨w.heap.size + 1, 3, none⟩ = some (u32v xt.b) := (X7'.get 1 rfl).cell 3
       have cw7_1_4 : w7.cell? ⟨w.heap.size + 1, 4, none⟩ = some (u32v xt.c) := (X7'.get 1 rfl).cell 4
       have cw7_1_5 : w7.cell? ⟨w.heap.size + 1, 5, none⟩ = some (u32v xt.d) := (X7'.get 1 rfl).cell 5
       have lw7_0 : w.heap.size < w7.heap.size := (X7'.get 0 rfl).lt
       have lw7_1 : w.heap.size + 1 < w7.heap.size := (X7'.get 1 rfl).lt
       have lw7_2 : w.heap.size + 1 + 1 < w7.heap.size := (X7'.get 2 rfl).lt
       have le67 : w6.heap.size ≤ w7.heap.size := hb7.size
       have le27 : w2.heap.size ≤ w7.heap.size := Nat.le_of_lt (X7'.get 3 rfl).lt
       have X7 : Fx w w7 [(w.heap.size, 27, rgC s n), (w.heap.size + 1, 30, bxC xn (.slice Cx mx dx) xt), (w.heap.size + 1 + 1, 30, bxC yn (.slice Cy my dy) yt), (w2.heap.size, 30, bxC Pn (.slice A2 mp c2) Pt), (w2.heap.size + 1, 27, rgC Qs Qn), (w3.heap.size, 30, bxC Pn (.slice A3 mp c3) Pt), (w3.heap.size + 1, 27, rgC Qs Qn)] [(w1.heap.size, .slice A2 mp c2, Pl), (w5.heap.size, .slice A6 mc c6, C)] [(.slice A2 mp c2, Pl), (.slice A3 mp c3, Pl), (.slice A4 mu c4, U), (.slice A5 mu c5, U), (.slice A6 mc c6, C), (.slice A7 mc c7, C)] := X7'
       replace X7 := hide X7
       clear X7' X7a hb7 o7 cw6_0_0 cw6_0_1 cw6_0_2 cw6_0_3 cw6_0_4 cw6_1_0 cw6_1_1 cw6_1_2 cw6_1_3 cw6_1_4 cw6_1_5)
    | (go_at_call 16; refine (unhide hF _ (unhide X7).bl).mono ?_; rintro e w8 ⟨A8, c8, rfl, o8, hb8⟩
       have X8a : Fx w w8 [(w.heap.size, 27, rgC s n), (w.heap.size + 1, 30, bxC xn (.slice Cx mx dx) xt), (w.heap.size + 1 + 1, 30, bxC yn (.slice Cy my dy) yt), (w2.heap.size, 30, bxC Pn (.slice A2 mp c2) Pt), (w2.heap.size + 1, 27, rgC Qs Qn), (w3.heap.size, 30, bxC Pn (.slice A3 mp c3) Pt), (w3.heap.size + 1, 27, rgC Qs Qn)] [(w1.heap.size, .slice A2 mp c2, Pl), (w5.heap.size, .slice A6 mc c6, C)] [(.slice A2 mp c2, Pl), (.slice A3 mp c3, Pl), (.slice A4 mu c4, U), (.slice A5 mu c5, U), (.slice A6 mc c6, C), (.slice A7 mc c7, C), (.slice A8 mk c8, Kl)] := Fx.addZ ((unhide X7).call hb8) (Bs.of_own0 o8)
       have X8' : Fx w w8 [(w.heap.size, 27, rgC s n), (w.heap.size + 1, 30, bxC xn (.slice Cx mx dx) xt), (w.heap.size + 1 + 1, 30, bxC yn (.slice Cy my dy) yt), (w2.heap.size, 30, bxC Pn (.slice A2 mp c2) Pt), (w2.heap.size + 1, 27, rgC Qs Qn), (w3.heap.size, 30, bxC Pn (.slice A3 mp c3) Pt), (w3.heap.size + 1, 27, rgC Qs Qn)] [(w1.heap.size, .slice A2 mp c2, Pl), (w5.heap.size, .slice A6 mc c6, C), (w7.heap.size, .slice A8 mk c8, Kl)] [(.slice A2 mp c2, Pl), (.slice A3 mp c3, Pl), (.slice A4 mu c4, U), (.slice A5 mu c5, U), (.slice A6 mc c6, C), (.slice A7 mc c7, C), (.slice A8 mk c8, Kl)] := Fx.addR X8a o8 (hb8.size)
       have cw8_0_0 : w8.cell? ⟨w.heap.size, 0, none⟩ = some (u32v s.a) := (X8'.get 0 rfl).cell 0
       have cw8_0_1 : w8.cell? ⟨w.heap.size, 1, none⟩ = some (u32v s.b) := (X8'.get 0 rfl).cell 1
       have cw8_0_2 : w8.cell? ⟨w.heap.size, 2, none⟩ = some (u32v s.c) := (X8'.get 0 rfl).cell 2
       have cw8_0_3 : w8.cell? ⟨w.heap.size, 3, none⟩ = some (u32v s.d) := (X8'.get 0 rfl).cell 3
       have cw8_0_4 : w8.cell? ⟨w.heap.size, 4, none⟩ = some (u64v n) := (X8'.get 0 rfl).cell 4
       have cw8_1_0 : w8.cell? ⟨w.heap.size + 1, 0, none⟩ = some (u64v xn) := (X8'.get 1 rfl).cell 0
       have cw8_1_1 : w8.cell? ⟨w.heap.size + 1, 1, none⟩ = some (.slice Cx mx dx) := (X8'.get 1 rfl).cell 1
       have cw8_1_2 : w8.cell? ⟨w.heap.size + 1, 2, none⟩ = some (u32v xt.a) := (X8'.get 1 rfl).cell 2
       have cw8_1_3 : w8.cell? ⟨w.heap.size + 1, 3, none⟩ = some (u32v xt.b) := (X8'.get 1 rfl).cell 3
       have cw8_1_4 : w8.cell? ⟨w.heap.size + 1, 4, none⟩ = some (u32v xt.c) := (X8'.get 1 rfl).cell 4
       have cw8_1_5 : w8.cell? ⟨w.heap.size + 1, 5, none⟩ = some (u32v xt.d) := (X8'.get 1 rfl).cell 5
       have lw8_0 : w.heap.size < w8.heap.size := (X8'.get 0 rfl).lt
       have lw8_1 : w.heap.size + 1 < w8.heap.size := (X8'.get 1 rfl).lt
       have lw8_2 : w.heap.size + 1 + 1 < w8.heap.size := (X8'.get 2 rfl).lt
       have n63_8 : mk ≤ 9223372036854775807 := by have hh := (Bs.of_own0 o8).len63; have hp := unhide hKl; omega
       have vb8 : VBelow w8.heap.size (.slice A8 mk c8) := own_vbelow o8
       have X8 : Fx w (w8.alloc (.cells (bxC Kn (.slice A8 mk c8) Kt) 30)) [(w.heap.size, 27, rgC s n), (w.heap.size + 1, 30, bxC xn (.slice Cx mx dx) xt), (w.heap.size + 1 + 1, 30, bxC yn (.slice Cy my dy) yt), (w2.heap.size, 30, bxC Pn (.slice A2 mp c2) Pt), (w2.heap.size + 1, 27, rgC Qs Qn), (w3.heap.size, 30, bxC Pn (.slice A3 mp c3) Pt), (w3.heap.size + 1, 27, rgC Qs Qn), (w8.heap.size, 30, bxC Kn (.slice A8 mk c8) Kt)] [(w1.heap.size, .slice A2 mp c2, Pl), (w5.heap.size, .slice A6 mc c6, C), (w7.heap.size, .slice A8 mk c8, Kl)] [(.slice A2 mp c2, Pl), (.slice A3 mp c3, Pl), (.slice A4 mu c4, U), (.slice A5 mu c5, U), (.slice A6 mc c6, C), (.slice A7 mc c7, C), (.slice A8 mk c8, Kl)] := (X8'.newB (w8.heap.size) rfl (bxC Kn (.slice A8 mk c8) Kt) 30)
       replace X8 := hide X8; replace vb8 := hide vb8
       clear X8' X8a hb8 o8 cw7_0_0 cw7_0_1 cw7_0_2 cw7_0_3 cw7_0_4 cw7_1_0 cw7_1_1 cw7_1_2 cw7_1_3 cw7_1_4 cw7_1_5)
    | (go_at_call 17; refine (unhide hFR _ (unhide X8).bl).mono ?_; rintro e w9 ⟨A9, c9, rfl, o9, hb9⟩
       have X9a : Fx w w9 [(w.heap.size, 27, rgC s n), (w.heap.size + 1, 30, bxC xn (.slice Cx mx dx) xt), (w.heap.size + 1 + 1, 30, bxC yn (.slice Cy my dy) yt), (w2.heap.size, 30, bxC Pn (.slice A2 mp c2) Pt), (w2.heap.size + 1, 27, rgC Qs Qn), (w3.heap.size, 30, bxC Pn (.slice A3 mp c3) Pt), (w3.heap.size + 1, 27, rgC Qs Qn), (w8.heap.size, 30, bxC Kn (.slice A8 mk c8) Kt)] [(w1.heap.size, .slice A2 mp c2, Pl), (w5.heap.size, .slice A6 mc c6, C), (w7.heap.size, .slice A8 mk c8, Kl)] [(.slice A2 mp c2, Pl), (.slice A3 mp c3, Pl), (.slice A4 mu c4, U), (.slice A5 mu c5, U), (.slice A6 mc c6, C), (.slice A7 mc c7, C), (.slice A8 mk c8, Kl), (.slice A9 mk c9, Kl)] := Fx.addZ ((unhide X8).call hb9) (Bs.of_own0 o9)
       have X9' : Fx w w9 [(w.heap.size, 27, rgC s n), (w.heap.size + 1, 30, bxC xn (.slice Cx mx dx) xt), (w.heap.size + 1 + 1, 30, bxC yn (.slice Cy my dy) yt), (w2.heap.size, 30, bxC Pn (.slice A2 mp c2) Pt), (w2.heap.size + 1, 27, rgC Qs Qn), (w3.heap.size, 30, bxC Pn (.slice A3 mp c3) Pt), (w3.heap.size + 1, 27, rgC Qs Qn), (w8.heap.size, 30, bxC Kn (.slice A8 mk c8) Kt)] [(w1.heap.size, .slice A2 mp c2, Pl), (w5.heap.size, .slice A6 mc c6, C), (w7.heap.size, .slice A8 mk c8, Kl)] [(.slice A2 mp c2, Pl), (.slice A3 mp c3, Pl), (.slice A4 mu c4, U), (.slice A5 mu c5, U), (.slice A6 mc c6, C), (.slice A7 mc c7, C), (.slice A8 mk c8, Kl), (.slice A9 mk c9, Kl)] := X9a
       have cw9_0_0 : w9.cell? ⟨w.heap.size, 0, none⟩ = some (u32v s.a) := (X9'.get 0 rfl).cell 0
       have cw9_0_1 : w9.cell? ⟨w.heap.size, 1, none⟩ = some (u32v s.b) := (X9'.get 0 rfl).cell 1
       have cw9_0_2 : w9.cell? ⟨w.heap.size, 2, none⟩ = some (u32v s.c) := (X9'.get 0 rfl).cell 2
       have cw9_0_3 : w9.cell? ⟨w.heap.size, 3, none⟩ = some (u32v s.d) := (X9'.get 0 rfl).cell 3
       have cw9_0_4 : w9.cell? ⟨w.heap.size, 4, none⟩ = some (u64v n) := (X9'.get 0 rfl).cell 4
       have cw9_1_0 : w9.cell? ⟨w.heap.size + 1, 0, none⟩ = some (u64v xn) := (X9'.get 1 rfl).cell 0
       have cw9_1_1 : w9.cell? ⟨w.heap.size + 1, 1, none⟩ = some (.slice Cx mx dx) := (X9'.get 1 rfl).cell 1
       have cw9_1_2 : w9.cell? ⟨w.heap.size + 1, 2, none⟩ = some (u32v xt.a) := (X9'.get 1 rfl).cell 2
       have cw9_1_3 : w9.cell? ⟨w.heap.size + 1, 3, none⟩ = some (u32v xt.b) := (X9'.get 1 rfl).cell 3
       have cw9_1_4 : w9.cell? ⟨w.heap.size + 1, 4, none⟩ = some (u32v xt.c) := (X9'.get 1 rfl).cell 4
       have cw9_1_5 : w9.cell? ⟨w.heap.size + 1, 5, none⟩ = some (u32v xt.d) := (X9'.get 1 rfl).cell 5
       have lw9_0 : w.heap.size < w9.heap.size := (X9'.get 0 rfl).lt
       have lw9_1 : w.heap.size + 1 < w9.heap.size := (X9'.get 1 rfl).lt
       have lw9_2 : w.heap.size + 1 + 1 < w9.heap.size := (X9'.get 2 rfl).lt
       have X9 : Fx w (w9.alloc (.cells (bxC Kn (.slice A9 mk c9) Kt) 30)) [(w.heap.size, 27, rgC s n), (w.heap.size + 1, 30, bxC xn (.slice Cx mx dx) xt), (w.heap.size + 1 + 1, 30, bxC yn (.slice Cy my dy) yt), (w2.heap.size, 30, bxC Pn (.slice A2 mp c2) Pt), (w2.heap.size + 1, 27, rgC Qs Qn), (w3.heap.size, 30, bxC Pn (.slice A3 mp c3) Pt), (w3.heap.size + 1, 27, rgC Qs Qn), (w8.heap.size, 30, bxC Kn (.slice A8 mk c8) Kt), (w9.heap.size, 30, bxC Kn (.slice A9 mk c9) Kt)] [(w1.heap.size, .slice A2 mp c2, Pl), (w5.heap.size, .slice A6 mc c6, C), (w7.heap.size, .slice A8 mk c8, Kl)] [(.slice A2 mp c2, Pl), (.slice A3 mp c3, Pl), (.slice A4 mu c4, U), (.slice A5 mu c5, U), (.slice A6 mc c6, C), (.slice A7 mc c7, C), (.slice A8 mk c8, Kl), (.slice A9 mk c9, Kl)] := (X9'.newB (w9.heap.size) rfl (bxC Kn (.slice A9 mk c9) Kt) 30)
       replace X9 := hide X9
       clear X9' X9a hb9 o9 cw8_0_0 cw8_0_1 cw8_0_2 cw8_0_3 cw8_0_4 cw8_1_0 cw8_1_1 cw8_1_2 cw8_1_3 cw8_1_4 cw8_1_5)
    | (go_at_call 18; refine (unhide hM _ (unhide X9).bl).mono ?_; rintro e w10 ⟨A10, c10, rfl, o10, hb10⟩
       have X10a : Fx w w10 [(w.heap.size, 27, rgC s n), (w.heap.size + 1, 30, bxC xn (.slice Cx mx dx) xt), (w.heap.size + 1 + 1, 30, bxC yn (.slice Cy my dy) yt), (w2.heap.size, 30, bxC Pn (.slice A2 mp c2) Pt), (w2.heap.size + 1, 27, rgC Qs Qn), (w3.heap.size, 30, bxC Pn (.slice A3 mp c3) Pt), (w3.heap.size + 1, 27, rgC Qs Qn), (w8.heap.size, 30, bxC Kn (.slice A8 mk c8) Kt), (w9.heap.size, 30, bxC Kn (.slice A9 mk c9) Kt)] [(w1.heap.size, .slice A2 mp c2, Pl), (w5.heap.size, .slice A6 mc c6, C), (w7.heap.size, .slice A8 mk c8, Kl)] [(.slice A2 mp c2, Pl), (.slice A3 mp c3, Pl), (.slice A4 mu c4, U), (.slice A5 mu c5, U), (.slice A6 mc c6, C), (.slice A7 mc c7, C), (.slice A8 mk c8, Kl), (.slice A9 mk c9, Kl), (.slice A10 mo c10, O)] := Fx.addZ ((unhide X9).call hb10) o10
       have X10' : Fx w w10 [(w.heap.size, 27, rgC s n), (w.heap.size + 1, 30, bxC xn (.slice Cx mx dx) xt), (w.heap.size + 1 + 1, 30, bxC yn (.slice Cy my dy) yt), (w2.heap.size, 30, bxC Pn (.slice A2 mp c2) Pt), (w2.heap.size + 1, 27, rgC Qs Qn), (w3.heap.size, 30, bxC Pn (.slice A3 mp c3) Pt), (w3.heap.size + 1, 27, rgC Qs Qn), (w8.heap.size, 30, bxC Kn (.slice A8 mk c8) Kt), (w9.heap.size, 30, bxC Kn (.slice A9 mk c9) Kt)] [(w1.heap.size, .slice A2 mp c2, Pl), (w5.heap.size, .slice A6 mc c6, C), (w7.heap.size, .slice A8 mk c8, Kl)] [(.slice A2 mp c2, Pl), (.slice A3 mp c3, Pl), (.slice A4 mu c4, U), (.slice A5 mu c5, U), (.slice A6 mc c6, C), (.slice A7 mc c7, C), (.slice A8 mk c8, Kl), (.slice A9 mk c9, Kl), (.slice A10 mo c10, O)] := X10a
       have cw10_0_0 : w10.cell? ⟨w.heap.size, 0, none⟩ = some (u32v s.a) := (X10'.get 0 rfl).cell 0
       have cw10_0_1 : w10.cell? ⟨w.heap.size, 1, none⟩ = some (u32v s.b) := (X10'.get 0 rfl).cell 1
       have cw10_0_2 : w10.cell? ⟨w.heap.size, 2, none⟩ = some (u32v s.c) := (X10'.get 0 rfl).cell 2
       have cw10_0_3 : w10.cell? ⟨w.heap.size, 3, none⟩ = some (u32v s.d) := (X10'.get 0 rfl).cell 3
       have cw10_0_4 : w10.cell? ⟨w.heap.size, 4, none⟩ = some (u64v n) := (X10'.get 0 rfl).cell 4
       have cw10_1_0 : w10.cell? ⟨w.heap.size + 1, 0, none⟩ = some (u64v xn) := (X10'.get 1 rfl).cell 0
       have cw10_1_1 : w10.cell? ⟨w.heap.size + 1, 1, none⟩ = some (.slice Cx mx dx) := (X10'.get 1 rfl).cell 1
       have cw10_1_2 : w10.cell? ⟨w.heap.size + 1, 2, none⟩ = some (u32v xt.a) := (X10'.get 1 rfl).cell 2
       have cw10_1_3 : w10.cell? ⟨w.heap.size + 1, 3, none⟩ = some (u32v xt.b) := (X10'.get 1 rfl).cell 3
       have cw10_1_4 : w10.cell? ⟨w.heap.size + 1, 4, none⟩ = some (u32v xt.c) := (X10'.get 1 rfl).cell 4
       have cw10_1_5 : w10.cell? ⟨w.heap.size + 1, 5, none⟩ = some (u32v xt.d) := (X10'.get 1 rfl).cell 5
       have lw10_0 : w.heap.size < w10.heap.size := (X10'.get 0 rfl).lt
       have lw10_1 : w.heap.size + 1 < w10.heap.size := (X10'.get 1 rfl).lt
       have lw10_2 : w.heap.size + 1 + 1 < w10.heap.size := (X10'.get 2 rfl).lt
       have X10 : Fx w w10 [(w.heap.size, 27, rgC s n), (w.heap.size + 1, 30, bxC xn (.slice Cx mx dx) xt), (w.heap.size + 1 + 1, 30, bxC yn (.slice Cy my dy) yt), (w2.heap.size, 30, bxC Pn (.slice A2 mp c2) Pt), (w2.heap.size + 1, 27, rgC Qs Qn), (w3.heap.size, 30, bxC Pn (.slice A3 mp c3) Pt), (w3.heap.size + 1, 27, rgC Qs Qn), (w8.heap.size, 30, bxC Kn (.slice A8 mk c8) Kt), (w9.heap.size, 30, bxC Kn (.slice A9 mk c9) Kt)] [(w1.heap.size, .slice A2 mp c2, Pl), (w5.heap.size, .slice A6 mc c6, C), (w7.heap.size, .slice A8 mk c8, Kl)] [(.slice A2 mp c2, Pl), (.slice A3 mp c3, Pl), (.slice A4 mu c4, U), (.slice A5 mu c5, U), (.slice A6 mc c6, C), (.slice A7 mc c7, C), (.slice A8 mk c8, Kl), (.slice A9 mk c9, Kl), (.slice A10 mo c10, O)] := X10'
       replace X10 := hide X10
       clear X10' X10a hb10 o10 cw9_0_0 cw9_0_1 cw9_0_2 cw9_0_3 cw9_0_4 cw9_1_0 cw9_1_1 cw9_1_2 cw9_1_3 cw9_1_4 cw9_1_5)
    | (go_at_call 19; refine (unhide hMR _).mono ?_; rintro e w11 ⟨A11, c11, rfl, o11, hb11⟩
       have X11a : Fx w w11 [(w.heap.size, 27, rgC s n), (w.heap.size + 1, 30, bxC xn (.slice Cx mx dx) xt), (w.heap.size + 1 + 1, 30, bxC yn (.slice Cy my dy) yt), (w2.heap.size, 30, bxC Pn (.slice A2 mp c2) Pt), (w2.heap.size + 1, 27, rgC Qs Qn), (w3.heap.size, 30, bxC Pn (.slice A3 mp c3) Pt), (w3.heap.size + 1, 27, rgC Qs Qn), (w8.heap.size, 30, bxC Kn (.slice A8 mk c8) Kt), (w9.heap.size, 30, bxC Kn (.slice A9 mk c9) Kt)] [(w1.heap.size, .slice A2 mp c2, Pl), (w5.heap.size, .slice A6 mc c6, C), (w7.heap.size, .slice A8 mk c8, Kl)] [(.slice A2 mp c2, Pl), (.slice A3 mp c3, Pl), (.slice A4 mu c4, U), (.slice A5 mu c5, U), (.slice A6 mc c6, C), (.slice A7 mc c7, C), (.slice A8 mk c8, Kl), (.slice A9 mk c9, Kl), (.slice A10 mo c10, O), (.slice A11 mo c11, O)] := Fx.addZ ((unhide X10).call hb11) o11
       have X11' : Fx w w11 [(w.heap.size, 27, rgC s n), (w.heap.size + 1, 30, bxC xn (.slice Cx mx dx) xt), (w.heap.size + 1 + 1, 30, bxC yn (.slice Cy my dy) yt), (w2.heap.size, 30, bxC Pn (.slice A2 mp c2) Pt), (w2.heap.size + 1, 27, rgC Qs Qn), (w3.heap.size, 30, bxC Pn (.slice A3 mp c3) Pt), (w3.heap.size + 1, 27, rgC Qs Qn), (w8.heap.size, 30, bxC Kn (.slice A8 mk c8) Kt), (w9.heap.size, 30, bxC Kn (.slice A9 mk c9) Kt)] [(w1.heap.size, .slice A2 mp c2, Pl), (w5.heap.size, .slice A6 mc c6, C), (w7.heap.size, .slice A8 mk c8, Kl)] [(.slice A2 mp c2, Pl), (.slice A3 mp c3, Pl), (.slice A4 mu c4, U), (.slice A5 mu c5, U), (.slice A6 mc c6, C), (.slice A7 mc c7, C), (.slice A8 mk c8, Kl), (.slice A9 mk c9, Kl), (.slice A10 mo c10, O), (.slice A11 mo c11, O)] := X11a
       have cw11_0_0 : w11.cell? ⟨w.heap.size, 0, none⟩ = some (u32v s.a) := (X11'.get 0 rfl).cell 0
       have cw11_0_1 : w11.cell? ⟨w.heap.size, 1, none⟩ = some (u32v s.b) := (X11'.get 0 rfl).cell 1
       have cw11_0_2 : w11.cell? ⟨w.heap.size, 2, none⟩ = some (u32v s.c) := (X11'.get 0 rfl).cell 2
       have cw11_0_3 : w11.cell? ⟨w.heap.size, 3, none⟩ = some (u32v s.d) := (X11'.get 0 rfl).cell 3
       have cw11_0_4 : w11.cell? ⟨w.heap.size, 4, none⟩ = some (u64v n) := (X11'.get 0 rfl).cell 4
       have cw11_1_0 : w11.cell? ⟨w.heap.size + 1, 0, none⟩ = some (u64v xn) := (X11'.get 1 rfl).cell 0
       have cw11_1_1 : w11.cell? ⟨w.heap.size + 1, 1, none⟩ = some (.slice Cx mx dx) := (X11'.get 1 rfl).cell 1
       have cw11_1_2 : w11.cell? ⟨w.heap.size + 1, 2, none⟩ = some (u32v xt.a) := (X11'.get 1 rfl).cell 2
       have cw11_1_3 : w11.cell? ⟨w.heap.size + 1, 3, none⟩ = some (u32v xt.b) := (X11'.get 1 rfl).cell 3
       have cw11_1_4 : w11.cell? ⟨w.heap.size + 1, 4, none⟩ = some (u32v xt.c) := (X11'.get 1 rfl).cell 4
       have cw11_1_5 : w11.cell? ⟨w.heap.size + 1, 5, none⟩ = some (u32v xt.d) := (X11'.get 1 rfl).cell 5
       have lw11_0 : w.heap.size < w11.heap.size := (X11'.get 0 rfl).lt
       have lw11_1 : w.heap.size + 1 < w11.heap.size := (X11'.get 1 rfl).lt
       have lw11_2 : w.heap.size + 1 + 1 < w11.heap.size := (X11'.get 2 rfl).lt
       have X11 : Fx w w11 [(w.heap.size, 27, rgC s n), (w.heap.size + 1, 30, bxC xn (.slice Cx mx dx) xt), (w.heap.size + 1 + 1, 30, bxC yn (.slice Cy my dy) yt), (w2.heap.size, 30, bxC Pn (.slice A2 mp c2) Pt), (w2.heap.size + 1, 27, rgC Qs Qn), (w3.heap.size, 30, bxC Pn (.slice A3 mp c3) Pt), (w3.heap.size + 1, 27, rgC Qs Qn), (w8.heap.size, 30, bxC Kn (.slice A8 mk c8) Kt), (w9.heap.size, 30, bxC Kn (.slice A9 mk c9) Kt)] [(w1.heap.size, .slice A2 mp c2, Pl), (w5.heap.size, .slice A6 mc c6, C), (w7.heap.size, .slice A8 mk c8, Kl)] [(.slice A2 mp c2, Pl), (.slice A3 mp c3, Pl), (.slice A4 mu c4, U), (.slice A5 mu c5, U), (.slice A6 mc c6, C), (.slice A7 mc c7, C), (.slice A8 mk c8, Kl), (.slice A9 mk c9, Kl), (.slice A10 mo c10, O), (.slice A11 mo c11, O)] := X11'
       replace X11 := hide X11
       clear X11' X11a hb11 o11 cw10_0_0 cw10_0_1 cw10_0_2 cw10_0_3 cw10_0_4 cw10_1_0 cw10_1_1 cw10_1_2 cw10_1_3 cw10_1_4 cw10_1_5)
    | (go_at_call 20; refine (unhide hT _ (unhide X11).bl).mono ?_; rintro e w12 ⟨rfl, hb12⟩
       have X12a : Fx w w12 [(w.heap.size, 27, rgC s n), (w.heap.size + 1, 30, bxC xn (.slice Cx mx dx) xt), (w.heap.size + 1 + 1, 30, bxC yn (.slice Cy my dy) yt), (w2.heap.size, 30, bxC Pn (.slice A2 mp c2) Pt), (w2.heap.size + 1, 27, rgC Qs Qn), (w3.heap.size, 30, bxC Pn (.slice A3 mp c3) Pt), (w3.heap.size + 1, 27, rgC Qs Qn), (w8.heap.size, 30, bxC Kn (.slice A8 mk c8) Kt), (w9.heap.size, 30, bxC Kn (.slice A9 mk c9) Kt)] [(w1.heap.size, .slice A2 mp c2, Pl), (w5.heap.size, .slice A6 mc c6, C), (w7.heap.size, .slice A8 mk c8, Kl)] [(.slice A2 mp c2, Pl), (.slice A3 mp c3, Pl), (.slice A4 mu c4, U), (.slice A5 mu c5, U), (.slice A6 mc c6, C), (.slice A7 mc c7, C), (.slice A8 mk c8, Kl), (.slice A9 mk c9, Kl), (.slice A10 mo c10, O), (.slice A11 mo c11, O)] := (unhide X11).call hb12
       have X12' : Fx w w12 [(w.heap.size, 27, rgC s n), (w.heap.size + 1, 30, bxC xn (.slice Cx mx dx) xt), (w.heap.size + 1 + 1, 30, bxC yn (.slice Cy my dy) yt), (w2.heap.size, 30, bxC Pn (.slice A2 mp c2) Pt), (w2.heap.size + 1, 27, rgC Qs Qn), (w3.heap.size, 30, bxC Pn (.slice A3 mp c3) Pt), (w3.heap.size + 1, 27, rgC Qs Qn), (w8.heap.size, 30, bxC Kn (.slice A8 mk c8) Kt), (w9.heap.size, 30, bxC Kn (.slice A9 mk c9) Kt)] [(w1.heap.size, .slice A2 mp c2, Pl), (w5.heap.size, .slice A6 mc c6, C), (w7.heap.size, .slice A8 mk c8, Kl)] [(.slice A2 mp c2, Pl), (.slice A3 mp c3, Pl), (.slice A4 mu c4, U), (.slice A5 mu c5, U), (.slice A6 mc c6, C), (.slice A7 mc c7, C), (.slice A8 mk c8, Kl), (.slice A9 mk c9, Kl), (.slice A10 mo c10, O), (.slice A11 mo c11, O)] := X12a
       have cw12_0_0 : w12.cell? ⟨w.heap.size, 0, none⟩ = some (u32v s.a) := (X12'.get 0 rfl).cell 0
       have cw12_0_1 : w12.cell? ⟨w.heap.size, 1, none⟩ = some (u32v s.b) := (X12'.get 0 rfl).cell 1
       have cw12_0_2 : w12.cell? ⟨w.heap.size, 2, none⟩ = some (u32v s.c) := (X12'.get 0 rfl).cell 2
       have cw12_0_3 : w12.cell? ⟨w.heap.size, 3, none⟩ = some (u32v s.d) := (X12'.get 0 rfl).cell 3
       have cw12_0_4 : w12.cell? ⟨w.heap.size, 4, none⟩ = some (u64v n) := (X12'.get 0 rfl).cell 4
       have cw12_1_0 : w12.cell? ⟨w.heap.size + 1, 0, none⟩ = some (u64v xn) := (X12'.get 1 rfl).cell 0
       have cw12_1_1 : w12.cell? ⟨w.heap.size + 1, 1, none⟩ = some (.slice Cx mx dx) := (X12'.get 1 rfl).cell 1
       have cw12_1_2 : w12.cell? ⟨w.heap.size + 1, 2, none⟩ = some (u32v xt.a) := (X12'.get 1 rfl).cell 2
       have cw12_1_3 : w12.cell? ⟨w.heap.size + 1, 3, none⟩ = some (u32v xt.b) := (X12'.get 1 rfl).cell 3
       have cw12_1_4 : w12.cell? ⟨w.heap.size + 1, 4, none⟩ = some (u32v xt.c) := (X12'.get 1 rfl).cell 4
       have cw12_1_5 : w12.cell? ⟨w.heap.size + 1, 5, none⟩ = some (u32v xt.d) := (X12'.get 1 rfl).cell 5
       have lw12_0 : w.heap.size < w12.heap.size := (X12'.get 0 rfl).lt
       have lw12_1 : w.heap.size + 1 < w12.heap.size := (X12'.get 1 rfl).lt
       have lw12_2 : w.heap.size + 1 + 1 < w12.heap.size := (X12'.get 2 rfl).lt
       have X12 : Fx w (w12.alloc (.cells (stC T) 24)) [(w.heap.size, 27, rgC s n), (w.heap.size + 1, 30, bxC xn (.slice Cx mx dx) xt), (w.heap.size + 1 + 1, 30, bxC yn (.slice Cy my dy) yt), (w2.heap.size, 30, bxC Pn (.slice A2 mp c2) Pt), (w2.heap.size + 1, 27, rgC Qs Qn), (w3.heap.size, 30, bxC Pn (.slice A3 mp c3) Pt), (w3.heap.size + 1, 27, rgC Qs Qn), (w8.heap.size, 30, bxC Kn (.slice A8 mk c8) Kt), (w9.heap.size, 30, bxC Kn (.slice A9 mk c9) Kt), (w12.heap.size, 24, stC T)] [(w1.heap.size, .slice A2 mp c2, Pl), (w5.heap.size, .slice A6 mc c6, C), (w7.heap.size, .slice A8 mk c8, Kl)] [(.slice A2 mp c2, Pl), (.slice A3 mp c3, Pl), (.slice A4 mu c4, U), (.slice A5 mu c5, U), (.slice A6 mc c6, C), (.slice A7 mc c7, C), (.slice A8 mk c8, Kl), (.slice A9 mk c9, Kl), (.slice A10 mo c10, O), (.slice A11 mo c11, O)] := (X12'.newB (w12.heap.size) rfl (stC T) 24)
       replace X12 := hide X12
       clear X12' X12a hb12 cw11_0_0 cw11_0_1 cw11_0_2 cw11_0_3 cw11_0_4 cw11_1_0 cw11_1_1 cw11_1_2 cw11_1_3 cw11_1_4 cw11_1_5)
    | (go_at_call 21; refine (unhide hTR _ (unhide X12).bl).mono ?_; rintro e w13 ⟨rfl, hb13⟩
       have X13a : Fx w w13 [(w.heap.size, 27, rgC s n), (w.heap.size + 1, 30, bxC xn (.slice Cx mx dx) xt), (w.heap.size + 1 + 1, 30, bxC yn (.slice Cy my dy) yt), (w2.heap.size, 30, bxC Pn (.slice A2 mp c2) Pt), (w2.heap.size + 1, 27, rgC Qs Qn), (w3.heap.size, 30, bxC Pn (.slice A3 mp c3) Pt), (w3.heap.size + 1, 27, rgC Qs Qn), (w8.heap.size, 30, bxC Kn (.slice A8 mk c8) Kt), (w9.heap.size, 30, bxC Kn (.slice A9 mk c9) Kt), (w12.heap.size, 24, stC T)] [(w1.heap.size, .slice A2 mp c2, Pl), (w5.heap.size, .slice A6 mc c6, C), (w7.heap.size, .slice A8 mk c8, Kl)] [(.slice A2 mp c2, Pl), (.slice A3 mp c3, Pl), (.slice A4 mu c4, U), (.slice A5 mu c5, U), (.slice A6 mc c6, C), (.slice A7 mc c7, C), (.slice A8 mk c8, Kl), (.slice A9 mk c9, Kl), (.slice A10 mo c10, O), (.slice A11 mo c11, O)] := (unhide X12).call hb13
       have X13' : Fx w w13 [(w.heap.size, 27, rgC s n), (w.heap.size + 1, 30, bxC xn (.slice Cx mx dx) xt), (w.heap.size + 1 + 1, 30, bxC yn (.slice Cy my dy) yt), (w2.heap.size, 30, bxC Pn (.slice A2 mp c2) Pt), (w2.heap.size + 1, 27, rgC Qs Qn), (w3.heap.size, 30, bxC Pn (.slice A3 mp c3) Pt), (w3.heap.size + 1, 27, rgC Qs Qn), (w8.heap.size, 30, bxC Kn (.slice A8 mk c8) Kt), (w9.heap.size, 30, bxC Kn (.slice A9 mk c9) Kt), (w12.heap.size, 24, stC T)] [(w1.heap.size, .slice A2 mp c2, Pl), (w5.heap.size, .slice A6 mc c6, C), (w7.heap.size, .slice A8 mk c8, Kl)] [(.slice A2 mp c2, Pl), (.slice A3 mp c3, Pl), (.slice A4 mu c4, U), (.slice A5 mu c5, U), (.slice A6 mc c6, C), (.slice A7 mc c7, C), (.slice A8 mk c8, Kl), (.slice A9 mk c9, Kl), (.slice A10 mo c10, O), (.slice A11 mo c11, O)] := X13a
       have cw13_0_0 : w13.cell? ⟨w.heap.size, 0, none⟩ = some (u32v s.a) := (X13'.get 0 rfl).cell 0
       have cw13_0_1 : w13.cell? ⟨w.heap.size, 1, none⟩ = some (u32v s.b) := (X13'.get 0 rfl).cell 1
       have cw13_0_2 : w13.cell? ⟨w.heap.size, 2, none⟩ = some (u32v s.c) := (X13'.get 0 rfl).cell 2
       have cw13_0_3 : w13.cell? ⟨w.heap.size, 3, none⟩ = some (u32v s.d) := (X13'.get 0 rfl).cell 3
       have cw13_0_4 : w13.cell? ⟨w.heap.size, 4, none⟩ = some (u64v n) := (X13'.get 0 rfl).cell 4
       have cw13_1_0 : w13.cell? ⟨w.heap.size + 1, 0, none⟩ = some (u64v xn) := (X13'.get 1 rfl).cell 0
       have cw13_1_1 : w13.cell? ⟨w.heap.size + 1, 1, none⟩ = some (.slice Cx mx dx) := (X13'.get 1 rfl).cell 1
       have cw13_1_2 : w13.cell? ⟨w.heap.size + 1, 2, none⟩ = some (u32v xt.a) := (X13'.get 1 rfl).cell 2
       have cw13_1_3 : w13.cell? ⟨w.heap.size + 1, 3, none⟩ = some (u32v xt.b) := (X13'.get 1 rfl).cell 3
       have cw13_1_4 : w13.cell? ⟨w.heap.size + 1, 4, none⟩ = some (u32v xt.c) := (X13'.get 1 rfl).cell 4
       have cw13_1_5 : w13.cell? ⟨w.heap.size + 1, 5, none⟩ = some (u32v xt.d) := (X13'.get 1 rfl).cell 5
       have lw13_0 : w.heap.size < w13.heap.size := (X13'.get 0 rfl).lt
       have lw13_1 : w.heap.size + 1 < w13.heap.size := (X13'.get 1 rfl).lt
       have lw13_2 : w.heap.size + 1 + 1 < w13.heap.size := (X13'.get 2 rfl).lt
       have X13 : Fx w (w13.alloc (.cells (stC T) 24)) [(w.heap.size, 27, rgC s n), (w.heap.size + 1, 30, bxC xn (.slice Cx mx dx) xt), (w.heap.size + 1 + 1, 30, bxC yn (.slice Cy my dy) yt), (w2.heap.size, 30, bxC Pn (.slice A2 mp c2) Pt), (w2.heap.size + 1, 27, rgC Qs Qn), (w3.heap.size, 30, bxC Pn (.slice A3 mp c3) Pt), (w3.heap.size + 1, 27, rgC Qs Qn), (w8.heap.size, 30, bxC Kn (.slice A8 mk c8) Kt), (w9.heap.size, 30, bxC Kn (.slice A9 mk c9) Kt), (w12.heap.size, 24, stC T), (w13.heap.size, 24, stC T)] [(w1.heap.size, .slice A2 mp c2, Pl), (w5.heap.size, .slice A6 mc c6, C), (w7.heap.size, .slice A8 mk c8, Kl)] [(.slice A2 mp c2, Pl), (.slice A3 mp c3, Pl), (.slice A4 mu c4, U), (.slice A5 mu c5, U), (.slice A6 mc c6, C), (.slice A7 mc c7, C), (.slice A8 mk c8, Kl), (.slice A9 mk c9, Kl), (.slice A10 mo c10, O), (.slice A11 mo c11, O)] := (X13'.newB (w13.heap.size) rfl (stC T) 24)
       replace X13 := hide X13
       clear X13' X13a hb13 cw12_0_0 cw12_0_1 cw12_0_2 cw12_0_3 cw12_0_4 cw12_1_0 cw12_1_1 cw12_1_2 cw12_1_3 cw12_1_4 cw12_1_5)
    | fail)
    obtain ⟨g38, hg38⟩ : ∃ g38, g38 = w13.heap.size := ⟨_, rfl⟩
    rw [← hg38] at X13 ⊢
    generalize World.alloc w13 _ = V at *
    clear hg38 cw13_0_0 cw13_0_1 cw13_0_2 cw13_0_3 cw13_0_4 cw13_1_0 cw13_1_1 cw13_1_2 cw13_1_3 cw13_1_4 cw13_1_5
    simp only [List.append]
    go_cut [40] (fun s40 wx => s40 = .bool true ∧ Hid (Fx w wx [(w.heap.size, 27, rgC s n), (w.heap.size + 1, 30, bxC xn (.slice Cx mx dx) xt), (w.heap.size + 1 + 1, 30, bxC yn (.slice Cy my dy) yt), (w2.heap.size, 30, bxC Pn (.slice A2 mp c2) Pt), (w2.heap.size + 1, 27, rgC Qs Qn), (w3.heap.size, 30, bxC Pn (.slice A3 mp c3) Pt), (w3.heap.size + 1, 27, rgC Qs Qn), (w8.heap.size, 30, bxC Kn (.slice A8 mk c8) Kt), (w9.heap.size, 30, bxC Kn (.slice A9 mk c9) Kt), (w12.heap.size, 24, stC T), (g38, 24, stC T)] [(w1.heap.size, .slice A2 mp c2, Pl), (w5.heap.size, .slice A6 mc c6, C), (w7.heap.size, .slice A8 mk c8, Kl)] []))
    case first =>
      as_aux_lemma =>
        have v1 : Blk V (w.heap.size + 1) 30 (bxC xn (.slice Cx mx dx) xt) := (unhide X13).get 1 rfl
        have v2 : Blk V (w.heap.size + 1 + 1) 30 (bxC yn (.slice Cy my dy) yt) := (unhide X13).get 2 rfl
        have v3 : Blk V (w2.heap.size) 30 (bxC Pn (.slice A2 mp c2) Pt) := (unhide X13).get 3 rfl
        have v4 : Blk V (w2.heap.size + 1) 27 (rgC Qs Qn) := (unhide X13).get 4 rfl
        have v5 : Blk V (w3.heap.size) 30 (bxC Pn (.slice A3 mp c3) Pt) := (unhide X13).get 5 rfl
        have v6 : Blk V (w3.heap.size + 1) 27 (rgC Qs Qn) := (unhide X13).get 6 rfl
        have v7 : Blk V (w8.heap.size) 30 (bxC Kn (.slice A8 mk c8) Kt) := (unhide X13).get 7 rfl
        have v8 : Blk V (w9.heap.size) 30 (bxC Kn (.slice A9 mk c9) Kt) := (unhide X13).get 8 rfl
        have v9 : Blk V (w12.heap.size) 24 (stC T) := (unhide X13).get 9 rfl
        have v10 : Blk V (g38) 24 (stC T) := (unhide X13).get 10 rfl
        have hc1_0 : ∀ W, Blk W (w.heap.size + 1) 30 (bxC xn (.slice Cx mx dx) xt) → W.cell? ⟨w.heap.size + 1, 0, none⟩ = some (u64v xn) := fun W h => h.cell 0
        have hc1_1 : ∀ W, Blk W (w.heap.size + 1) 30 (bxC xn (.slice Cx mx dx) xt) → W.cell? ⟨w.heap.size + 1, 1, none⟩ = some (.slice Cx mx dx) := fun W h => h.cell 1
        have hc1_2 : ∀ W, Blk W (w.heap.size + 1) 30 (bxC xn (.slice Cx mx dx) xt) → W.cell? ⟨w.heap.size + 1, 2, none⟩ = some (u32v xt.a) := fun W h => h.cell 2
        have hc1_3 : ∀ W, Blk W (w.heap.size + 1) 30 (bxC xn (.slice Cx mx dx) xt) → W.cell? ⟨w.heap.size + 1, 3, none⟩ = some (u32v xt.b) := fun W h => h.cell 3
        have hc1_4 : ∀ W, Blk W (w.heap.size + 1) 30 (bxC xn (.slice Cx mx dx) xt) → W.cell? ⟨w.heap.size + 1, 4, none⟩ = some (u32v xt.c) := fun W h => h.cell 4
        have hc1_5 : ∀ W, Blk W (w.heap.size + 1) 30 (bxC xn (.slice Cx mx dx) xt) → W.cell? ⟨w.heap.size + 1, 5, none⟩ = some (u32v xt.d) := fun W h => h.cell 5
        have hc2_0 : ∀ W, Blk W (w.heap.size + 1 + 1) 30 (bxC yn (.slice Cy my dy) yt) → W.cell? ⟨w.heap.size + 1 + 1, 0, none⟩ = some (u64v yn) := fun W h => h.cell 0
        have hc2_1 : ∀ W, Blk W (w.heap.size + 1 + 1) 30 (bxC yn (.slice Cy my dy) yt) → W.cell? ⟨w.heap.size + 1 + 1, 1, none⟩ = some (.slice Cy my dy) := fun W h => h.cell 1
        have hc2_2 : ∀ W, Blk W (w.heap.size + 1 + 1) 30 (bxC yn (.slice Cy my dy) yt) → W.cell? ⟨w.heap.size + 1 + 1, 2, none⟩ = some (u32v yt.a) := fun W h => h.cell 2
        have hc2_3 : ∀ W, Blk W (w.heap.size + 1 + 1) 30 (bxC yn (.slice Cy my dy) yt) → W.cell? ⟨w.heap.size + 1 + 1, 3, none⟩ = some (u32v yt.b) := fun W h => h.cell 3
        have hc2_4 : ∀ W, Blk W (w.heap.size + 1 + 1) 30 (bxC yn (.slice Cy my dy) yt) → W.cell? ⟨w.heap.size + 1 + 1, 4, none⟩ = some (u32v yt.c) := fun W h => h.cell 4
        have hc2_5 : ∀ W, Blk W (w.heap.size + 1 + 1) 30 (bxC yn (.slice Cy my dy) yt) → W.cell? ⟨w.heap.size + 1 + 1, 5, none⟩ = some (u32v yt.d) := fun W h => h.cell 5
        have hc3_0 : ∀ W, Blk W (w2.heap.size) 30 (bxC Pn (.slice A2 mp c2) Pt) → W.cell? ⟨w2.heap.size, 0, none⟩ = some (u64v Pn) := fun W h => h.cell 0
        have hc3_1 : ∀ W, Blk W (w2.heap.size) 30 (bxC Pn (.slice A2 mp c2) Pt) → W.cell? ⟨w2.heap.size, 1, none⟩ = some (.slice A2 mp c2) := fun W h => h.cell 1
        have hc3_2 : ∀ W, Blk W (w2.heap.size) 30 (bxC Pn (.slice A2 mp c2) Pt) → W.cell? ⟨w2.heap.size, 2, none⟩ = some (u32v Pt.a) := fun W h => h.cell 2
        have hc3_3 : ∀ W, Blk W (w2.heap.size) 30 (bxC Pn (.slice A2 mp c2) Pt) → W.cell? ⟨w2.heap.size, 3, none⟩ = some (u32v Pt.b) := fun W h => h.cell 3
        have hc3_4 : ∀ W, Blk W (w2.heap.size) 30 (bxC Pn (.slice A2 mp c2) Pt) → W.cell? ⟨w2.heap.size, 4, none⟩ = some (u32v Pt.c) := fun W h => h.cell 4
        have hc3_5 : ∀ W, Blk W (w2.heap.size) 30 (bxC Pn (.slice A2 mp c2) Pt) → W.cell? ⟨w2.heap.size, 5, none⟩ = some (u32v Pt.d) := fun W h => h.cell 5
        have hc4_0 : ∀ W, Blk W (w2.heap.size + 1) 27 (rgC Qs Qn) → W.cell? ⟨w2.heap.size + 1, 0, none⟩ = some (u32v Qs.a) := fun W h => h.cell 0
        have hc4_1 : ∀ W, Blk W (w2.heap.size + 1) 27 (rgC Qs Qn) → W.cell? ⟨w2.heap.size + 1, 1, none⟩ = some (u32v Qs.b) := fun W h => h.cell 1
        have hc4_2 : ∀ W, Blk W (w2.heap.size + 1) 27 (rgC Qs Qn) → W.cell? ⟨w2.heap.size + 1, 2, none⟩ = some (u32v Qs.c) := fun W h => h.cell 2
        have hc4_3 : ∀ W, Blk W (w2.heap.size + 1) 27 (rgC Qs Qn) → W.cell? ⟨w2.heap.size + 1, 3, none⟩ = some (u32v Qs.d) := fun W h => h.cell 3
        have hc4_4 : ∀ W, Blk W (w2.heap.size + 1) 27 (rgC Qs Qn) → W.cell? ⟨w2.heap.size + 1, 4, none⟩ = some (u64v Qn) := fun W h => h.cell 4
        have hc5_0 : ∀ W, Blk W (w3.heap.size) 30 (bxC Pn (.slice A3 mp c3) Pt) → W.cell? ⟨w3.heap.size, 0, none⟩ = some (u64v Pn) := fun W h => h.cell 0
        have hc5_1 : ∀ W, Blk W (w3.heap.size) 30 (bxC Pn (.slice A3 mp c3) Pt) → W.cell? ⟨w3.heap.size, 1, none⟩ = some (.slice A3 mp c3) := fun W h => h.cell 1
        have hc5_2 : ∀ W, Blk W (w3.heap.size) 30 (bxC Pn (.slice A3 mp c3) Pt) → W.cell? ⟨w3.heap.size, 2, none⟩ = some (u32v Pt.a) := fun W h => h.cell 2
        have hc5_3 : ∀ W, Blk W (w3.heap.size) 30 (bxC Pn (.slice A3 mp c3) Pt) → W.cell? ⟨w3.heap.size, 3, none⟩ = some (u32v Pt.b) := fun W h => h.cell 3
        have hc5_4 : ∀ W, Blk W (w3.heap.size) 30 (bxC Pn (.slice A3 mp c3) Pt) → W.cell? ⟨w3.heap.size, 4, none⟩ = some (u32v Pt.c) := fun W h => h.cell 4
        have hc5_5 : ∀ W, Blk W (w3.heap.size) 30 (bxC Pn (.slice A3 mp c3) Pt) → W.cell? ⟨w3.heap.size, 5, none⟩ = some (u32v Pt.d) := fun W h => h.cell 5
        have hc6_0 : ∀ W, Blk W (w3.heap.size + 1) 27 (rgC Qs Qn) → W.cell? ⟨w3.heap.size + 1, 0, none⟩ = some (u32v Qs.a) := fun W h => h.cell 0
        have hc6_1 : ∀ W, Blk W (w3.heap.size + 1) 27 (rgC Qs Qn) → W.cell? ⟨w3.heap.size + 1, 1, none⟩ = some (u32v Qs.b) := fun W h => h.cell 1
        have hc6_2 : ∀ W, Blk W (w3.heap.size + 1) 27 (rgC Qs Qn) → W.cell? ⟨w3.heap.size + 1, 2, none⟩ = some (u32v Qs.c) := fun W h => h.cell 2
        have hc6_3 : ∀ W, Blk W (w3.heap.size + 1) 27 (rgC Qs Qn) → W.cell? ⟨w3.heap.size + 1, 3, none⟩ = some (u32v Qs.d) := fun W h => h.cell 3
        have hc6_4 : ∀ W, Blk W (w3.heap.size + 1) 27 (rgC Qs Qn) → W.cell? ⟨w3.heap.size + 1, 4, none⟩ = some (u64v Qn) := fun W h => h.cell 4
        have hc7_0 : ∀ W, Blk W (w8.heap.size) 30 (bxC Kn (.slice A8 mk c8) Kt) → W.cell? ⟨w8.heap.size, 0, none⟩ = some (u64v Kn) := fun W h => h.cell 0
        have hc7_1 : ∀ W, Blk W (w8.heap.size) 30 (bxC Kn (.slice A8 mk c8) Kt) → W.cell? ⟨w8.heap.size, 1, none⟩ = some (.slice A8 mk c8) := fun W h => h.cell 1
        have hc7_2 : ∀ W, Blk W (w8.heap.size) 30 (bxC Kn (.slice A8 mk c8) Kt) → W.cell? ⟨w8.heap.size, 2, none⟩ = some (u32v Kt.a) := fun W h => h.cell 2
        have hc7_3 : ∀ W, Blk W (w8.heap.size) 30 (bxC Kn (.slice A8 mk c8) Kt) → W.cell? ⟨w8.heap.size, 3, none⟩ = some (u32v Kt.b) := fun W h => h.cell 3
        have hc7_4 : ∀ W, Blk W (w8.heap.size) 30 (bxC Kn (.slice A8 mk c8) Kt) → W.cell? ⟨w8.heap.size, 4, none⟩ = some (u32v Kt.c) := fun W h => h.cell 4
        have hc7_5 : ∀ W, Blk W (w8.heap.size) 30 (bxC Kn (.slice A8 mk c8) Kt) → W.cell? ⟨w8.heap.size, 5, none⟩ = some (u32v Kt.d) := fun W h => h.cell 5
        have hc8_0 : ∀ W, Blk W (w9.heap.size) 30 (bxC Kn (.slice A9 mk c9) Kt) → W.cell? ⟨w9.heap.size, 0, none⟩ = some (u64v Kn) := fun W h => h.cell 0
        have hc8_1 : ∀ W, Blk W (w9.heap.size) 30 (bxC Kn (.slice A9 mk c9) Kt) → W.cell? ⟨w9.heap.size, 1, none⟩ = some (.slice A9 mk c9) := fun W h => h.cell 1
        have hc8_2 : ∀ W, Blk W (w9.heap.size) 30 (bxC Kn (.slice A9 mk c9) Kt) → W.cell? ⟨w9.heap.size, 2, none⟩ = some (u32v Kt.a) := fun W h => h.cell 2
        have hc8_3 : ∀ W, Blk W (w9.heap.size) 30 (bxC Kn (.slice A9 mk c9) Kt) → W.cell? ⟨w9.heap.size, 3, none⟩ = some (u32v Kt.b) := fun W h => h.cell 3
        have hc8_4 : ∀ W, Blk W (w9.heap.size) 30 (bxC Kn (.slice A9 mk c9) Kt) → W.cell? ⟨w9.heap.size, 4, none⟩ = some (u32v Kt.c) := fun W h => h.cell 4
        have hc8_5 : ∀ W, Blk W (w9.heap.size) 30 (bxC Kn (.slice A9 mk c9) Kt) → W.cell? ⟨w9.heap.size, 5, none⟩ = some (u32v Kt.d) := fun W h => h.cell 5
        have hc9_0 : ∀ W, Blk W (w12.heap.size) 24 (stC T) → W.cell? ⟨w12.heap.size, 0, none⟩ = some (u32v T.a) := fun W h => h.cell 0
        have hc9_1 : ∀ W, Blk W (w12.heap.size) 24 (stC T) → W.cell? ⟨w12.heap.size, 1, none⟩ = some (u32v T.b) := fun W h => h.cell 1
        have hc9_2 : ∀ W, Blk W (w12.heap.size) 24 (stC T) → W.cell? ⟨w12.heap.size, 2, none⟩ = some (u32v T.c) := fun W h => h.cell 2
        have hc9_3 : ∀ W, Blk W (w12.heap.size) 24 (stC T) → W.cell? ⟨w12.heap.size, 3, none⟩ = some (u32v T.d) := fun W h => h.cell 3
        have hc10_0 : ∀ W, Blk W (g38) 24 (stC T) → W.cell? ⟨g38, 0, none⟩ = some (u32v T.a) := fun W h => h.cell 0
        have hc10_1 : ∀ W, Blk W (g38) 24 (stC T) → W.cell? ⟨g38, 1, none⟩ = some (u32v T.b) := fun W h => h.cell 1
        have hc10_2 : ∀ W, Blk W (g38) 24 (stC T) → W.cell? ⟨g38, 2, none⟩ = some (u32v T.c) := fun W h => h.cell 2
        have hc10_3 : ∀ W, Blk W (g38) 24 (stC T) → W.cell? ⟨g38, 3, none⟩ = some (u32v T.d) := fun W h => h.cell 3
        have tk0 : True := trivial
        have tk1 : True := trivial
        have tk2 : True := trivial
        have tk3 : True := trivial
        have tk4 : True := trivial
        have tk5 : True := trivial
        have tk6 : True := trivial
        go_region_held3 (fun W => Blk W (w.heap.size + 1) 30 (bxC xn (.slice Cx mx dx) xt) ∧ Blk W (w.heap.size + 1 + 1) 30 (bxC yn (.slice Cy my dy) yt) ∧ Blk W (w2.heap.size) 30 (bxC Pn (.slice A2 mp c2) Pt) ∧ Blk W (w2.heap.size + 1) 27 (rgC Qs Qn) ∧ Blk W (w3.heap.size) 30 (bxC Pn (.slice A3 mp c3) Pt) ∧ Blk W (w3.heap.size + 1) 27 (rgC Qs Qn) ∧ Blk W (w8.heap.size) 30 (bxC Kn (.slice A8 mk c8) Kt) ∧ Blk W (w9.heap.size) 30 (bxC Kn (.slice A9 mk c9) Kt) ∧ Blk W (w12.heap.size) 24 (stC T) ∧ Blk W (g38) 24 (stC T)) (first | exact ⟨v1.drew, v2.drew, v3.drew, v4.drew, v5.drew, v6.drew, v7.drew, v8.drew, v9.drew, v10.drew⟩ | exact ⟨by with_reducible assumption, by with_reducible assumption, by with_reducible assumption, by with_reducible assumption, by with_reducible assumption, by with_reducible assumption, by with_reducible assumption, by with_reducible assumption, by with_reducible assumption, by with_reducible assumption⟩)
          (first
          | (go_at_call 22; have _t := tk0; refine (unhide hPP _ _ V.drew ((unhide X13).drew.rd 0 rfl) ((unhide X13).drew.rd 1 rfl)).mono ?_; rintro e w14 ⟨rfl, hb14⟩
             have X14 : Fx w w14 [(w.heap.size, 27, rgC s n), (w.heap.size + 1, 30, bxC xn (.slice Cx mx dx) xt), (w.heap.size + 1 + 1, 30, bxC yn (.slice Cy my dy) yt), (w2.heap.size, 30, bxC Pn (.slice A2 mp c2) Pt), (w2.heap.size + 1, 27, rgC Qs Qn), (w3.heap.size, 30, bxC Pn (.slice A3 mp c3) Pt), (w3.heap.size + 1, 27, rgC Qs Qn), (w8.heap.size, 30, bxC Kn (.slice A8 mk c8) Kt), (w9.heap.size, 30, bxC Kn (.slice A9 mk c9) Kt), (w12.heap.size, 24, stC T), (g38, 24, stC T)] [(w1.heap.size, .slice A2 mp c2, Pl), (w5.heap.size, .slice A6 mc c6, C), (w7.heap.size, .slice A8 mk c8, Kl)] [(.slice A2 mp c2, Pl), (.slice A3 mp c3, Pl), (.slice A4 mu c4, U), (.slice A5 mu c5, U), (.slice A6 mc c6, C), (.slice A7 mc c7, C), (.slice A8 mk c8, Kl), (.slice A9 mk c9, Kl), (.slice A10 mo c10, O), (.slice A11 mo c11, O)] := (unhide X13).drew.call hb14
             have a1 : Blk w14 (w.heap.size + 1) 30 (bxC xn (.slice Cx mx dx) xt) := X14.get 1 rfl
             have a2 : Blk w14 (w.heap.size + 1 + 1) 30 (bxC yn (.slice Cy my dy) yt) := X14.get 2 rfl
             have a3 : Blk w14 (w2.heap.size) 30 (bxC Pn (.slice A2 mp c2) Pt) := X14.get 3 rfl
             have a4 : Blk w14 (w2.heap.size + 1) 27 (rgC Qs Qn) := X14.get 4 rfl
             have a5 : Blk w14 (w3.heap.size) 30 (bxC Pn (.slice A3 mp c3) Pt) := X14.get 5 rfl
             have a6 : Blk w14 (w3.heap.size + 1) 27 (rgC Qs Qn) := X14.get 6 rfl
             have a7 : Blk w14 (w8.heap.size) 30 (bxC Kn (.slice A8 mk c8) Kt) := X14.get 7 rfl
             have a8 : Blk w14 (w9.heap.size) 30 (bxC Kn (.slice A9 mk c9) Kt) := X14.get 8 rfl
             have a9 : Blk w14 (w12.heap.size) 24 (stC T) := X14.get 9 rfl
             have a10 : Blk w14 (g38) 24 (stC T) := X14.get 10 rfl
             replace X14 := hide X14
             clear hb14 tk0 _t v1 v2 v3 v4 v5 v6 v7 v8 v9 v10)
          | (go_at_call 23; have _t := tk1; refine (unhide hUU _ _ w14 ((unhide X14).rd 2 rfl) ((unhide X14).rd 3 rfl)).mono ?_; rintro e wz ⟨rfl, rfl⟩
             clear tk1 _t)
          | (go_at_call 23; have _t := tk2; refine (unhide hCC _ _ w14 ((unhide X14).rd 4 rfl) ((unhide X14).rd 5 rfl)).mono ?_; rintro e wz ⟨rfl, rfl⟩
             clear tk2 _t)
          | (go_at_call 22; have _t := tk3; refine (unhide hKK _ _ w14 ((unhide X14).rd 6 rfl) ((unhide X14).rd 7 rfl)).mono ?_; rintro e w15 ⟨rfl, hb15⟩
             have X15 : Fx w w15 [(w.heap.size, 27, rgC s n), (w.heap.size + 1, 30, bxC xn (.slice Cx mx dx) xt), (w.heap.size + 1 + 1, 30, bxC yn (.slice Cy my dy) yt), (w2.heap.size, 30, bxC Pn (.slice A2 mp c2) Pt), (w2.heap.size + 1, 27, rgC Qs Qn), (w3.heap.size, 30, bxC Pn (.slice A3 mp c3) Pt), (w3.heap.size + 1, 27, rgC Qs Qn), (w8.heap.size, 30, bxC Kn (.slice A8 mk c8) Kt), (w9.heap.size, 30, bxC Kn (.slice A9 mk c9) Kt), (w12.heap.size, 24, stC T), (g38, 24, stC T)] [(w1.heap.size, .slice A2 mp c2, Pl), (w5.heap.size, .slice A6 mc c6, C), (w7.heap.size, .slice A8 mk c8, Kl)] [(.slice A2 mp c2, Pl), (.slice A3 mp c3, Pl), (.slice A4 mu c4, U), (.slice A5 mu c5, U), (.slice A6 mc c6, C), (.slice A7 mc c7, C), (.slice A8 mk c8, Kl), (.slice A9 mk c9, Kl), (.slice A10 mo c10, O), (.slice A11 mo c11, O)] := (unhide X14).call hb15
             have b1 : Blk w15 (w.heap.size + 1) 30 (bxC xn (.slice Cx mx dx) xt) := X15.get 1 rfl
             have b2 : Blk w15 (w.heap.size + 1 + 1) 30 (bxC yn (.slice Cy my dy) yt) := X15.get 2 rfl
             have b3 : Blk w15 (w2.heap.size) 30 (bxC Pn (.slice A2 mp c2) Pt) := X15.get 3 rfl
             have b4 : Blk w15 (w2.heap.size + 1) 27 (rgC Qs Qn) := X15.get 4 rfl
             have b5 : Blk w15 (w3.heap.size) 30 (bxC Pn (.slice A3 mp c3) Pt) := X15.get 5 rfl
             have b6 : Blk w15 (w3.heap.size + 1) 27 (rgC Qs Qn) := X15.get 6 rfl
             have b7 : Blk w15 (w8.heap.size) 30 (bxC Kn (.slice A8 mk c8) Kt) := X15.get 7 rfl
             have b8 : Blk w15 (w9.heap.size) 30 (bxC Kn (.slice A9 mk c9) Kt) := X15.get 8 rfl
             have b9 : Blk w15 (w12.heap.size) 24 (stC T) := X15.get 9 rfl
             have b10 : Blk w15 (g38) 24 (stC T) := X15.get 10 rfl
             replace X15 := hide X15
             clear hb15 tk3 _t a1 a2 a3 a4 a5 a6 a7 a8 a9 a10)
          | (go_at_call 23; have _t := tk4; refine (unhide hOO _ _ w15 ((unhide X15).rd 8 rfl) ((unhide X15).rd 9 rfl)).mono ?_; rintro e wz ⟨rfl, rfl⟩
             clear tk4 _t)
          | (go_at_call 24; have _t := tk5; refine (unhide hW1 w15 (unhide X15).bl).mono ?_; rintro e w16 ⟨rfl, hb16⟩
             have X16 : Fx w w16 [(w.heap.size, 27, rgC s n), (w.heap.size + 1, 30, bxC xn (.slice Cx mx dx) xt), (w.heap.size + 1 + 1, 30, bxC yn (.slice Cy my dy) yt), (w2.heap.size, 30, bxC Pn (.slice A2 mp c2) Pt), (w2.heap.size + 1, 27, rgC Qs Qn), (w3.heap.size, 30, bxC Pn (.slice A3 mp c3) Pt), (w3.heap.size + 1, 27, rgC Qs Qn), (w8.heap.size, 30, bxC Kn (.slice A8 mk c8) Kt), (w9.heap.size, 30, bxC Kn (.slice A9 mk c9) Kt), (w12.heap.size, 24, stC T), (g38, 24, stC T)] [(w1.heap.size, .slice A2 mp c2, Pl), (w5.heap.size, .slice A6 mc c6, C), (w7.heap.size, .slice A8 mk c8, Kl)] [(.slice A2 mp c2, Pl), (.slice A3 mp c3, Pl), (.slice A4 mu c4, U), (.slice A5 mu c5, U), (.slice A6 mc c6, C), (.slice A7 mc c7, C), (.slice A8 mk c8, Kl), (.slice A9 mk c9, Kl), (.slice A10 mo c10, O), (.slice A11 mo c11, O)] := (unhide X15).call hb16
             have d1 : Blk w16 (w.heap.size + 1) 30 (bxC xn (.slice Cx mx dx) xt) := X16.get 1 rfl
             have d2 : Blk w16 (w.heap.size + 1 + 1) 30 (bxC yn (.slice Cy my dy) yt) := X16.get 2 rfl
             have d3 : Blk w16 (w2.heap.size) 30 (bxC Pn (.slice A2 mp c2) Pt) := X16.get 3 rfl
             have d4 : Blk w16 (w2.heap.size + 1) 27 (rgC Qs Qn) := X16.get 4 rfl
             have d5 : Blk w16 (w3.heap.size) 30 (bxC Pn (.slice A3 mp c3) Pt) := X16.get 5 rfl
             have d6 : Blk w16 (w3.heap.size + 1) 27 (rgC Qs Qn) := X16.get 6 rfl
             have d7 : Blk w16 (w8.heap.size) 30 (bxC Kn (.slice A8 mk c8) Kt) := X16.get 7 rfl
             have d8 : Blk w16 (w9.heap.size) 30 (bxC Kn (.slice A9 mk c9) Kt) := X16.get 8 rfl
             have d9 : Blk w16 (w12.heap.size) 24 (stC T) := X16.get 9 rfl
             have d10 : Blk w16 (g38) 24 (stC T) := X16.get 10 rfl
             replace X16 := hide X16
             clear hb16 tk5 _t b1 b2 b3 b4 b5 b6 b7 b8 b9 b10)
          | (go_at_call 22; have _t := tk6; refine (unhide hW2 w16 (unhide X16).bl).mono ?_; rintro e w17 ⟨rfl, hb17⟩
             have X17 : Fx w w17 [(w.heap.size, 27, rgC s n), (w.heap.size + 1, 30, bxC xn (.slice Cx mx dx) xt), (w.heap.size + 1 + 1, 30, bxC yn (.slice Cy my dy) yt), (w2.heap.size, 30, bxC Pn (.slice A2 mp c2) Pt), (w2.heap.size + 1, 27, rgC Qs Qn), (w3.heap.size, 30, bxC Pn (.slice A3 mp c3) Pt), (w3.heap.size + 1, 27, rgC Qs Qn), (w8.heap.size, 30, bxC Kn (.slice A8 mk c8) Kt), (w9.heap.size, 30, bxC Kn (.slice A9 mk c9) Kt), (w12.heap.size, 24, stC T), (g38, 24, stC T)] [(w1.heap.size, .slice A2 mp c2, Pl), (w5.heap.size, .slice A6 mc c6, C), (w7.heap.size, .slice A8 mk c8, Kl)] [(.slice A2 mp c2, Pl), (.slice A3 mp c3, Pl), (.slice A4 mu c4, U), (.slice A5 mu c5, U), (.slice A6 mc c6, C), (.slice A7 mc c7, C), (.slice A8 mk c8, Kl), (.slice A9 mk c9, Kl), (.slice A10 mo c10, O), (.slice A11 mo c11, O)] := (unhide X16).call hb17
             have e1 : Blk w17 (w.heap.size + 1) 30 (bxC xn (.slice Cx mx dx) xt) := X17.get 1 rfl
             have e2 : Blk w17 (w.heap.size + 1 + 1) 30 (bxC yn (.slice Cy my dy) yt) := X17.get 2 rfl
             have e3 : Blk w17 (w2.heap.size) 30 (bxC Pn (.slice A2 mp c2) Pt) := X17.get 3 rfl
             have e4 : Blk w17 (w2.heap.size + 1) 27 (rgC Qs Qn) := X17.get 4 rfl
             have e5 : Blk w17 (w3.heap.size) 30 (bxC Pn (.slice A3 mp c3) Pt) := X17.get 5 rfl
             have e6 : Blk w17 (w3.heap.size + 1) 27 (rgC Qs Qn) := X17.get 6 rfl
             have e7 : Blk w17 (w8.heap.size) 30 (bxC Kn (.slice A8 mk c8) Kt) := X17.get 7 rfl
             have e8 : Blk w17 (w9.heap.size) 30 (bxC Kn (.slice A9 mk c9) Kt) := X17.get 8 rfl
             have e9 : Blk w17 (w12.heap.size) 24 (stC T) := X17.get 9 rfl
             have e10 : Blk w17 (g38) 24 (stC T) := X17.get 10 rfl
             replace X17 := hide X17
             clear hb17 tk6 _t d1 d2 d3 d4 d5 d6 d7 d8 d9 d10))
        all_goals
          go_wp2_with (fail)
          go_meet
          exact ⟨rfl, hide (Fx.sub (unhide X17) (fun _ h => h) (fun _ h => h) (fun _ h => (nomatch h)))⟩
    case rest =>
      obtain ⟨rfl, hX⟩ := hcut
      have Y0 : Wr w wc [(w2.heap.size, 30, bxC Pn (.slice A2 mp c2) Pt), (w8.heap.size, 30, bxC Kn (.slice A8 mk c8) Kt), (w.heap.size + 1, 30, bxC xn (.slice Cx mx dx) xt)] [(w1.heap.size, w2.heap.size, .slice A2 mp c2, mp), (w5.heap.size, w6.heap.size, .slice A6 mc c6, mc), (w7.heap.size, w8.heap.size, .slice A8 mk c8, mk)] := ⟨(unhide hX).bl, (Fx.sub (unhide hX) (L' := [(w2.heap.size, 30, bxC Pn (.slice A2 mp c2) Pt), (w8.heap.size, 30, bxC Kn (.slice A8 mk c8) Kt), (w.heap.size + 1, 30, bxC xn (.slice Cx mx dx) xt)]) (R' := []) (Z' := []) (by simp) (by simp) (by simp)).blk, fun r hr => by
        simp only [List.mem_cons, List.not_mem_nil, or_false] at hr
        rcases hr with rfl | rfl | rfl
        · exact ⟨(unhide X1).bl.size, unhide vb2, _, own_n ((unhide hX).own 0 rfl) (unhide hPl)⟩
        · exact ⟨Nat.le_of_lt lw5_0, unhide vb6, _, own_n ((unhide hX).own 1 rfl) (unhide hCl)⟩
        · exact ⟨Nat.le_of_lt lw7_0, unhide vb8, _, own_n ((unhide hX).own 2 rfl) (unhide hKl)⟩⟩
      have hL : ∀ p ∈ ([(w2.heap.size, 30, bxC Pn (.slice A2 mp c2) Pt), (w8.heap.size, 30, bxC Kn (.slice A8 mk c8) Kt), (w.heap.size + 1, 30, bxC xn (.slice Cx mx dx) xt)] : List (Nat × TypeId × Array Value)), p.2.1 ≠ 5 := by simp
      have hR0 : ∀ r ∈ ([(w1.heap.size, w2.heap.size, .slice A2 mp c2, mp), (w5.heap.size, w6.heap.size, .slice A6 mc c6, mc), (w7.heap.size, w8.heap.size, .slice A8 mk c8, mk)] : List (Nat × Nat × Value × Nat)), r = (w1.heap.size, w2.heap.size, .slice A2 mp c2, mp) ∨ w2.heap.size ≤ r.1 ∨ r.2.1 ≤ w1.heap.size := fun r hr => by
        simp only [List.mem_cons, List.not_mem_nil, or_false] at hr
        rcases hr with rfl | rfl | rfl
        · exact .inl rfl
        · exact .inr (.inl le25)
        · exact .inr (.inl le27)
      have hR1 : ∀ r ∈ ([(w1.heap.size, w2.heap.size, .slice A2 mp c2, mp), (w5.heap.size, w6.heap.size, .slice A6 mc c6, mc), (w7.heap.size, w8.heap.size, .slice A8 mk c8, mk)] : List (Nat × Nat × Value × Nat)), r = (w5.heap.size, w6.heap.size, .slice A6 mc c6, mc) ∨ w6.heap.size ≤ r.1 ∨ r.2.1 ≤ w5.heap.size := fun r hr => by
        simp only [List.mem_cons, List.not_mem_nil, or_false] at hr
        rcases hr with rfl | rfl | rfl
        · exact .inr (.inr le25)
        · exact .inl rfl
        · exact .inr (.inl le67)
      have hR2 : ∀ r ∈ ([(w1.heap.size, w2.heap.size, .slice A2 mp c2, mp), (w5.heap.size, w6.heap.size, .slice A6 mc c6, mc), (w7.heap.size, w8.heap.size, .slice A8 mk c8, mk)] : List (Nat × Nat × Value × Nat)), r = (w7.heap.size, w8.heap.size, .slice A8 mk c8, mk) ∨ w8.heap.size ≤ r.1 ∨ r.2.1 ≤ w7.heap.size := fun r hr => by
        simp only [List.mem_cons, List.not_mem_nil, or_false] at hr
        rcases hr with rfl | rfl | rfl
        · exact .inr (.inr le27)
        · exact .inr (.inr le67)
        · exact .inl rfl
      have put0 := fun W (h : Wr w W [(w2.heap.size, 30, bxC Pn (.slice A2 mp c2) Pt), (w8.heap.size, 30, bxC Kn (.slice A8 mk c8) Kt), (w.heap.size + 1, 30, bxC xn (.slice Cx mx dx) xt)] [(w1.heap.size, w2.heap.size, .slice A2 mp c2, mp), (w5.heap.size, w6.heap.size, .slice A6 mc c6, mc), (w7.heap.size, w8.heap.size, .slice A8 mk c8, mk)]) k (hk : k < mp) => h.put 0 rfl hk hL hR0
      have put1 := fun W (h : Wr w W [(w2.heap.size, 30, bxC Pn (.slice A2 mp c2) Pt), (w8.heap.size, 30, bxC Kn (.slice A8 mk c8) Kt), (w.heap.size + 1, 30, bxC xn (.slice Cx mx dx) xt)] [(w1.heap.size, w2.heap.size, .slice A2 mp c2, mp), (w5.heap.size, w6.heap.size, .slice A6 mc c6, mc), (w7.heap.size, w8.heap.size, .slice A8 mk c8, mk)]) k (hk : k < mc) => h.put 1 rfl hk hL hR1
      have put2 := fun W (h : Wr w W [(w2.heap.size, 30, bxC Pn (.slice A2 mp c2) Pt), (w8.heap.size, 30, bxC Kn (.slice A8 mk c8) Kt), (w.heap.size + 1, 30, bxC xn (.slice Cx mx dx) xt)] [(w1.heap.size, w2.heap.size, .slice A2 mp c2, mp), (w5.heap.size, w6.heap.size, .slice A6 mc c6, mc), (w7.heap.size, w8.heap.size, .slice A8 mk c8, mk)]) k (hk : k < mk) => h.put 2 rfl hk hL hR2
      have g0 := fun W (h : Wr w W [(w2.heap.size, 30, bxC Pn (.slice A2 mp c2) Pt), (w8.heap.size, 30, bxC Kn (.slice A8 mk c8) Kt), (w.heap.size + 1, 30, bxC xn (.slice Cx mx dx) xt)] [(w1.heap.size, w2.heap.size, .slice A2 mp c2, mp), (w5.heap.size, w6.heap.size, .slice A6 mc c6, mc), (w7.heap.size, w8.heap.size, .slice A8 mk c8, mk)]) => h.get 0 rfl
      have g1 := fun W (h : Wr w W [(w2.heap.size, 30, bxC Pn (.slice A2 mp c2) Pt), (w8.heap.size, 30, bxC Kn (.slice A8 mk c8) Kt), (w.heap.size + 1, 30, bxC xn (.slice Cx mx dx) xt)] [(w1.heap.size, w2.heap.size, .slice A2 mp c2, mp), (w5.heap.size, w6.heap.size, .slice A6 mc c6, mc), (w7.heap.size, w8.heap.size, .slice A8 mk c8, mk)]) => h.get 1 rfl
      have g2 := fun W (h : Wr w W [(w2.heap.size, 30, bxC Pn (.slice A2 mp c2) Pt), (w8.heap.size, 30, bxC Kn (.slice A8 mk c8) Kt), (w.heap.size + 1, 30, bxC xn (.slice Cx mx dx) xt)] [(w1.heap.size, w2.heap.size, .slice A2 mp c2, mp), (w5.heap.size, w6.heap.size, .slice A6 mc c6, mc), (w7.heap.size, w8.heap.size, .slice A8 mk c8, mk)]) => h.get 2 rfl
      have gb := fun W (h : Wr w W [(w2.heap.size, 30, bxC Pn (.slice A2 mp c2) Pt), (w8.heap.size, 30, bxC Kn (.slice A8 mk c8) Kt), (w.heap.size + 1, 30, bxC xn (.slice Cx mx dx) xt)] [(w1.heap.size, w2.heap.size, .slice A2 mp c2, mp), (w5.heap.size, w6.heap.size, .slice A6 mc c6, mc), (w7.heap.size, w8.heap.size, .slice A8 mk c8, mk)]) => h.bl
      obtain ⟨WR, hWR⟩ : ∃ WR : World → Prop, WR = fun W => Wr w W [(w2.heap.size, 30, bxC Pn (.slice A2 mp c2) Pt), (w8.heap.size, 30, bxC Kn (.slice A8 mk c8) Kt), (w.heap.size + 1, 30, bxC xn (.slice Cx mx dx) xt)] [(w1.heap.size, w2.heap.size, .slice A2 mp c2, mp), (w5.heap.size, w6.heap.size, .slice A6 mc c6, mc), (w7.heap.size, w8.heap.size, .slice A8 mk c8, mk)] := ⟨_, rfl⟩
      replace Y0 : WR wc := by rw [hWR]; exact Y0
      replace put0 : ∀ W, WR W → ∀ k, k < mp → ∃ g c x, Value.slice A2 mp c2 = .slice (some ⟨g, 0, none⟩) mp c ∧ g < W.heap.size ∧ W.cell? ⟨g, k, none⟩ = some (u8v x) ∧ W.frozen? ⟨g, k, none⟩ = false ∧ ∀ u : UInt8, WR (W.setCell ⟨g, k, none⟩ (u8v u)) := by rw [hWR]; exact put0
      replace put1 : ∀ W, WR W → ∀ k, k < mc → ∃ g c x, Value.slice A6 mc c6 = .slice (some ⟨g, 0, none⟩) mc c ∧ g < W.heap.size ∧ W.cell? ⟨g, k, none⟩ = some (u8v x) ∧ W.frozen? ⟨g, k, none⟩ = false ∧ ∀ u : UInt8, WR (W.setCell ⟨g, k, none⟩ (u8v u)) := by rw [hWR]; exact put1
      replace put2 : ∀ W, WR W → ∀ k, k < mk → ∃ g c x, Value.slice A8 mk c8 = .slice (some ⟨g, 0, none⟩) mk c ∧ g < W.heap.size ∧ W.cell? ⟨g, k, none⟩ = some (u8v x) ∧ W.frozen? ⟨g, k, none⟩ = false ∧ ∀ u : UInt8, WR (W.setCell ⟨g, k, none⟩ (u8v u)) := by rw [hWR]; exact put2
      replace g0 : ∀ W, WR W → Blk W w2.heap.size 30 (bxC Pn (.slice A2 mp c2) Pt) := by rw [hWR]; exact g0
      replace g1 : ∀ W, WR W → Blk W w8.heap.size 30 (bxC Kn (.slice A8 mk c8) Kt) := by rw [hWR]; exact g1
      replace g2 : ∀ W, WR W → Blk W (w.heap.size + 1) 30 (bxC xn (.slice Cx mx dx) xt) := by rw [hWR]; exact g2
      replace gb : ∀ W, WR W → Below w.heap.size w W := by rw [hWR]; exact gb
      clear hWR hR0 hR1 hR2 hL hX X13 X1 X12 X11 X10 X9 X8 X7 X6 X5 X4 X3 X2 vb2 vb6 vb8 le25 le27 le67
      replace Y0 := hide Y0; replace put0 := hide put0; replace put1 := hide put1; replace put2 := hide put2; replace g0 := hide g0; replace g1 := hide g1; replace g2 := hide g2; replace gb := hide gb
      as_aux_lemma =>
        have a1 : wc.cell? ⟨w2.heap.size, 1, none⟩ = some (.slice A2 mp c2) := (unhide g0 wc (unhide Y0)).cell 1
        go_wp2_with (fail)
        go_loopw [41, 255] (fun _ i wr => ∃ k : Nat, k ≤ mp ∧ i = .int .i64 k ∧ Hid (WR wr)) (fun _ i _ => mp - (intOf i).toNat)
        case atStart => exact ⟨0, by omega, rfl, Y0⟩
        case round =>
          obtain ⟨k, hkm, rfl, X⟩ := hrel
          by_cases hlt : k < mp
          · have y1 : (k : Int) < (mp : Int) := by omega
            obtain ⟨gq, cq, xq, hq, lq, hcq, hfq, hput⟩ := unhide put0 wr (unhide X) k hlt
            injection hq with hq1 hq2 hq3
            subst hq1 hq3
            clear hq2
            have b1 : wr.cell? ⟨w2.heap.size, 1, none⟩ = some (.slice (some ⟨gq, 0, none⟩) mp c2) := (unhide g0 wr (unhide X)).cell 1
            have hp := hput (xq + 1)
            replace hp := hide hp
            clear hput
            go_wp2_with (fail)
            go_roundw
            case rel => exact ⟨k + 1, by omega, by go_num, hp⟩
            case measure => simp [intOf]; omega
          · obtain rfl : k = mp := by omega
            clear hlt hkm
            have Y1 := X
            have a2 : wr.cell? ⟨w8.heap.size, 1, none⟩ = some (.slice A8 mk c8) := (unhide g1 wr (unhide X)).cell 1
            go_wp2_with (fail)
            go_loopw [42, 269] (fun _ i ws => ∃ j : Nat, j ≤ mk ∧ i = .int .i64 j ∧ Hid (WR ws)) (fun _ i _ => mk - (intOf i).toNat)
            case atStart => exact ⟨0, by omega, rfl, Y1⟩
            case round =>
              obtain ⟨j, hjm, rfl, X'⟩ := hrel
              by_cases hlt : j < mk
              · have y1 : (j : Int) < (mk : Int) := by omega
                obtain ⟨gq, cq, xq, hq, lq, hcq, hfq, hput⟩ := unhide put2 wr (unhide X') j hlt
                injection hq with hq1 hq2 hq3
                subst hq1 hq3
                clear hq2
                have b1 : wr.cell? ⟨w8.heap.size, 1, none⟩ = some (.slice (some ⟨gq, 0, none⟩) mk c8) := (unhide g1 wr (unhide X')).cell 1
                have hp := hput (xq + 1)
                replace hp := hide hp
                clear hput
                go_wp2_with (fail)
                go_roundw
                case rel => exact ⟨j + 1, by omega, by go_num, hp⟩
                case measure => simp [intOf]; omega
              · obtain rfl : j = mk := by omega
                clear hlt hjm
                have Y2 := X'
                go_wp2_with (fail)
                go_loopw [43, 282] (fun _ i ws => ∃ q : Nat, q ≤ mc ∧ i = .int .i64 q ∧ Hid (WR ws)) (fun _ i _ => mc - (intOf i).toNat)
                case atStart => exact ⟨0, by omega, rfl, Y2⟩
                case round =>
                  obtain ⟨q, hqm, rfl, X''⟩ := hrel
                  by_cases hlt : q < mc
                  · have y1 : (q : Int) < (mc : Int) := by omega
                    obtain ⟨gq, cq, xq, hq, lq, hcq, hfq, hput⟩ := unhide put1 wr (unhide X'') q hlt
                    injection hq with hq1 hq2 hq3
                    subst hq1 hq3
                    clear hq2
                    have hp := hput (xq + 1)
                    replace hp := hide hp
                    clear hput
                    go_wp2_with (fail)
                    go_roundw
                    case rel => exact ⟨q + 1, by omega, by go_num, hp⟩
                    case measure => simp [intOf]; omega
                  · obtain rfl : q = mc := by omega
                    have qb := unhide hcb wr (unhide gb wr (unhide X''))
                    have qx := unhide hcx wr (unhide gb wr (unhide X''))
                    have b1 : wr.cell? ⟨w.heap.size + 1, 1, none⟩ = some (.slice Cx mx dx) := (unhide g2 wr (unhide X'')).cell 1
                    have bb := unhide gb wr (unhide X'')
                    replace bb := hide bb
                    go_wp2_with (fail)
                    go_ret
                    exact ⟨rfl, unhide bb⟩
end
end Go.Proofs.YtlgahaidnpgnaaaDoor
