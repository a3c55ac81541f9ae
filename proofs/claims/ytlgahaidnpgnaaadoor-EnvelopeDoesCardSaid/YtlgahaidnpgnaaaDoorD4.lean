import Derived.Test.YtlgahaidnpgnaaaDoorD2
namespace Go.Proofs.YtlgahaidnpgnaaaDoor
open Go.RowKit

theorem gate_true {bl xl yl : Nat} {z : Int} (h : gateB bl xl yl z = true) : ¬ ((bl ≤ 200 ∨ 65536 < bl ∧ bl ≤ 70000) ∧ (xl ≤ 200 ∨ 65536 < xl ∧ xl ≤ 70000) ∧ yl ≤ 200 ∧ (z ≤ 200 ∨ 65536 < z)) := by
  simp [gateB] at h
  omega

section
attribute [local go_sem] guard24 guard27 q8_inc q8_inc'
set_option maxRecDepth 100000 in
set_option maxHeartbeats 40000000 in
theorem does_gate (s : St) (n : Nx) (vb vx vy : Value) (b : List UInt8) (x y : Bx) (z : Int) (w : World) (ht : Tab w) (h : Bs 0 w.heap.size w vb b) (hx : Bs 0 w.heap.size w vx x.text) (hy : Bs 0 w.heap.size w vy y.text) (hgate : gateB b.length x.text.length y.text.length z = true) :
    Calls Tryd.prog 3 #[rgV s n, vb, bxV x.n vx x.tag, bxV y.n vy y.tag, .int .i64 z] w fun e w' => e = .returned (.bool true) ∧ Below w.heap.size w w' := by
  have htab : ∀ W, Below w.heap.size w W → Tab W := fun W hb => ht.below hb (Nat.le_refl _)
  have hl := fun W (hb : Below w.heap.size w W) => live_any W (htab W hb)
  have hcb := fun W (hb : Below w.heap.size w W) => (h.to hb).convert
  have hcx := fun W (hb : Below w.heap.size w W) => (hx.to hb).convert
  generalize x.n = xn at *
  generalize x.text = xl at *
  generalize x.tag = xt at *
  generalize y.n = yn at *
  generalize y.text = yl at *
  generalize y.tag = yt at *
  obtain ⟨Ab, cb, rfl⟩ := h.form
  obtain ⟨Cx, dx, rfl⟩ := hx.form
  obtain ⟨Cy, dy, rfl⟩ := hy.form
  have X0 : Fx w (((w.alloc (.cells (rgC s n) 27)).alloc (.cells (bxC xn (.slice Cx xl.length dx) xt) 30)).alloc (.cells (bxC yn (.slice Cy yl.length dy) yt) 30)) [(w.heap.size, 27, rgC s n), (w.heap.size + 1, 30, bxC xn (.slice Cx xl.length dx) xt), (w.heap.size + 1 + 1, 30, bxC yn (.slice Cy yl.length dy) yt)] [] [] := (((Fx.nil w).newB w.heap.size rfl (rgC s n) 27).newB (w.heap.size + 1) (by simp) (bxC xn (.slice Cx xl.length dx) xt) 30).newB (w.heap.size + 1 + 1) (by simp) (bxC yn (.slice Cy yl.length dy) yt) 30
  generalize b.length = mb at *
  generalize xl.length = mx at *
  generalize yl.length = my at *
  generalize strU b = sb at *
  generalize strU xl = sx at *
  replace X0 := hide X0
  replace hl := hide hl
  replace hcb := hide hcb
  replace hcx := hide hcx
  replace hgate := hide hgate
  clear h hx hy ht htab
  go_enter Tryd.func3, Tryd.ntmps3
  go_upto_region 1 with (fail)
  generalize hW : World.alloc (World.alloc (World.alloc w _) _) _ = W at *
  clear hW
  go_upto_region 2 with (first
    | (go_at_call 9; refine (unhide hl _ (unhide X0).bl).mono ?_; rintro e w1 ⟨rfl, hb1⟩
       have X1 : Fx w w1 [(w.heap.size, 27, rgC s n), (w.heap.size + 1, 30, bxC xn (.slice Cx mx dx) xt), (w.heap.size + 1 + 1, 30, bxC yn (.slice Cy my dy) yt)] [] [] := (unhide X0).call hb1
       have cw1_0_0 : w1.cell? ⟨w.heap.size, 0, none⟩ = some (u32v s.a) := (X1.get 0 rfl).cell 0
       have cw1_0_1 : w1.cell? ⟨w.heap.size, 1, none⟩ = some (u32v s.b) := (X1.get 0 rfl).cell 1
       have cw1_0_2 : w1.cell? ⟨w.heap.size, 2, none⟩ = some (u32v s.c) := (X1.get 0 rfl).cell 2
       have cw1_0_3 : w1.cell? ⟨w.heap.size, 3, none⟩ = some (u32v s.d) := (X1.get 0 rfl).cell 3
       have cw1_0_4 : w1.cell? ⟨w.heap.size, 4, none⟩ = some (u64v n) := (X1.get 0 rfl).cell 4
       have cw1_1_0 : w1.cell? ⟨w.heap.size + 1, 0, none⟩ = some (u64v xn) := (X1.get 1 rfl).cell 0
       have cw1_1_1 : w1.cell? ⟨w.heap.size + 1, 1, none⟩ = some (.slice Cx mx dx) := (X1.get 1 rfl).cell 1
       have cw1_1_2 : w1.cell? ⟨w.heap.size + 1, 2, none⟩ = some (u32v xt.a) := (X1.get 1 rfl).cell 2
       have cw1_1_3 : w1.cell? ⟨w.heap.size + 1, 3, none⟩ = some (u32v xt.b) := (X1.get 1 rfl).cell 3
       have cw1_1_4 : w1.cell? ⟨w.heap.size + 1, 4, none⟩ = some (u32v xt.c) := (X1.get 1 rfl).cell 4
       have cw1_1_5 : w1.cell? ⟨w.heap.size + 1, 5, none⟩ = some (u32v xt.d) := (X1.get 1 rfl).cell 5
       have cw1_2_0 : w1.cell? ⟨w.heap.size + 1 + 1, 0, none⟩ = some (u64v yn) := (X1.get 2 rfl).cell 0
       have cw1_2_1 : w1.cell? ⟨w.heap.size + 1 + 1, 1, none⟩ = some (.slice Cy my dy) := (X1.get 2 rfl).cell 1
       have cw1_2_2 : w1.cell? ⟨w.heap.size + 1 + 1, 2, none⟩ = some (u32v yt.a) := (X1.get 2 rfl).cell 2
       have cw1_2_3 : w1.cell? ⟨w.heap.size + 1 + 1, 3, none⟩ = some (u32v yt.b) := (X1.get 2 rfl).cell 3
       have cw1_2_4 : w1.cell? ⟨w.heap.size + 1 + 1, 4, none⟩ = some (u32v yt.c) := (X1.get 2 rfl).cell 4
       have cw1_2_5 : w1.cell? ⟨w.heap.size + 1 + 1, 5, none⟩ = some (u32v yt.d) := (X1.get 2 rfl).cell 5
       have lw1_0 : w.heap.size < w1.heap.size := (X1.get 0 rfl).lt
       have lw1_1 : w.heap.size + 1 < w1.heap.size := (X1.get 1 rfl).lt
       have lw1_2 : w.heap.size + 1 + 1 < w1.heap.size := (X1.get 2 rfl).lt
       replace X1 := hide X1
       clear hb1)
    | fail)
  go_cut [89] (fun s89 wc => s89 = .bool true ∧ w1 = wc)
  case first =>
    have hgf := unhide hgate
    have hkm : ¬ ((mb ≤ 200 ∨ 65536 < mb ∧ mb ≤ 70000) ∧ (mx ≤ 200 ∨ 65536 < mx ∧ mx ≤ 70000) ∧ my ≤ 200 ∧ (z ≤ 200 ∨ 65536 < z)) := gate_true hgf
    clear hgf
    have ha := cls mb
    have hc := cls mx
    have hd : my ≤ 200 ∨ 200 < my := by omega
    have he := clz z
    rcases ha with ha | ha | ha | ha
    · rcases hc with hc | hc | hc | hc
      · rcases hd with hd | hd
        · rcases he with he | he | he
          · exfalso; clear hgate; omega
          · have k0 : ¬ (200 : Int) < (mb : Int) := by omega
            have k1 : ¬ (70000 : Int) < (mb : Int) := by omega
            have k2 : ¬ (200 : Int) < (mx : Int) := by omega
            have k3 : ¬ (70000 : Int) < (mx : Int) := by omega
            have k4 : ¬ (200 : Int) < (my : Int) := by omega
            have k5 : (200 : Int) < z := by omega
            have k6 : z ≤ 65536 := by omega
            replace ha := hide ha
            replace hc := hide hc
            replace hd := hide hd
            replace he := hide he
            replace hkm := hide hkm
            as_aux_lemma =>
              go_wp2_with (fail)
              go_meet
              exact ⟨rfl, rfl⟩
          · exfalso; clear hgate; omega
        · have k0 : ¬ (200 : Int) < (mb : Int) := by omega
          have k1 : ¬ (70000 : Int) < (mb : Int) := by omega
          have k2 : ¬ (200 : Int) < (mx : Int) := by omega
          have k3 : ¬ (70000 : Int) < (mx : Int) := by omega
          have k4 : (200 : Int) < (my : Int) := by omega
          replace ha := hide ha
          replace hc := hide hc
          replace hd := hide hd
          replace he := hide he
          replace hkm := hide hkm
          as_aux_lemma =>
            go_wp2_with (fail)
            go_meet
            exact ⟨rfl, rfl⟩
      · have k0 : ¬ (200 : Int) < (mb : Int) := by omega
        have k1 : ¬ (70000 : Int) < (mb : Int) := by omega
        have k2 : (200 : Int) < (mx : Int) := by omega
        have k3 : (mx : Int) ≤ 65536 := by omega
        replace ha := hide ha
        replace hc := hide hc
        replace hd := hide hd
        replace he := hide he
        replace hkm := hide hkm
        as_aux_lemma =>
          go_wp2_with (fail)
          go_meet
          exact ⟨rfl, rfl⟩
      · rcases hd with hd | hd
        · rcases he with he | he | he
          · exfalso; clear hgate; omega
          · have k0 : ¬ (200 : Int) < (mb : Int) := by omega
            have k1 : ¬ (70000 : Int) < (mb : Int) := by omega
            have k2 : (200 : Int) < (mx : Int) := by omega
            have k3 : ¬ (mx : Int) ≤ 65536 := by omega
            have k4 : ¬ (70000 : Int) < (mx : Int) := by omega
            have k5 : ¬ (200 : Int) < (my : Int) := by omega
            have k6 : (200 : Int) < z := by omega
            have k7 : z ≤ 65536 := by omega
            replace ha := hide ha
            replace hc := hide hc
            replace hd := hide hd
            replace he := hide he
            replace hkm := hide hkm
            as_aux_lemma =>
              go_wp2_with (fail)
              go_meet
              exact ⟨rfl, rfl⟩
          · exfalso; clear hgate; omega
        · have k0 : ¬ (200 : Int) < (mb : Int) := by omega
          have k1 : ¬ (70000 : Int) < (mb : Int) := by omega
          have k2 : (200 : Int) < (mx : Int) := by omega
          have k3 : ¬ (mx : Int) ≤ 65536 := by omega
          have k4 : ¬ (70000 : Int) < (mx : Int) := by omega
          have k5 : (200 : Int) < (my : Int) := by omega
          replace ha := hide ha
          replace hc := hide hc
          replace hd := hide hd
          replace he := hide he
          replace hkm := hide hkm
          as_aux_lemma =>
            go_wp2_with (fail)
            go_meet
            exact ⟨rfl, rfl⟩
      · have k0 : ¬ (200 : Int) < (mb : Int) := by omega
        have k1 : ¬ (70000 : Int) < (mb : Int) := by omega
        have k2 : (200 : Int) < (mx : Int) := by omega
        have k3 : ¬ (mx : Int) ≤ 65536 := by omega
        have k4 : (70000 : Int) < (mx : Int) := by omega
        replace ha := hide ha
        replace hc := hide hc
        replace hd := hide hd
        replace he := hide he
        replace hkm := hide hkm
        as_aux_lemma =>
          go_wp2_with (fail)
          go_meet
          exact ⟨rfl, rfl⟩
    · have k0 : (200 : Int) < (mb : Int) := by omega
      have k1 : (mb : Int) ≤ 65536 := by omega
      replace ha := hide ha
      replace hc := hide hc
      replace hd := hide hd
      replace he := hide he
      replace hkm := hide hkm
      as_aux_lemma =>
        go_wp2_with (fail)
        go_meet
        exact ⟨rfl, rfl⟩
    · rcases hc with hc | hc | hc | hc
      · rcases hd with hd | hd
        · rcases he with he | he | he
          · exfalso; clear hgate; omega
          · have k0 : (200 : Int) < (mb : Int) := by omega
            have k1 : ¬ (mb : Int) ≤ 65536 := by omega
            have k2 : ¬ (70000 : Int) < (mb : Int) := by omega
            have k3 : ¬ (200 : Int) < (mx : Int) := by omega
            have k4 : ¬ (70000 : Int) < (mx : Int) := by omega
            have k5 : ¬ (200 : Int) < (my : Int) := by omega
            have k6 : (200 : Int) < z := by omega
            have k7 : z ≤ 65536 := by omega
            replace ha := hide ha
            replace hc := hide hc
            replace hd := hide hd
            replace he := hide he
            replace hkm := hide hkm
            as_aux_lemma =>
              go_wp2_with (fail)
              go_meet
              exact ⟨rfl, rfl⟩
          · exfalso; clear hgate; omega
        · have k0 : (200 : Int) < (mb : Int) := by omega
          have k1 : ¬ (mb : Int) ≤ 65536 := by omega
          have k2 : ¬ (70000 : Int) < (mb : Int) := by omega
          have k3 : ¬ (200 : Int) < (mx : Int) := by omega
          have k4 : ¬ (70000 : Int) < (mx : Int) := by omega
          have k5 : (200 : Int) < (my : Int) := by omega
          replace ha := hide ha
          replace hc := hide hc
          replace hd := hide hd
          replace he := hide he
          replace hkm := hide hkm
          as_aux_lemma =>
            go_wp2_with (fail)
            go_meet
            exact ⟨rfl, rfl⟩
      · have k0 : (200 : Int) < (mb : Int) := by omega
        have k1 : ¬ (mb : Int) ≤ 65536 := by omega
        have k2 : ¬ (70000 : Int) < (mb : Int) := by omega
        have k3 : (200 : Int) < (mx : Int) := by omega
        have k4 : (mx : Int) ≤ 65536 := by omega
        replace ha := hide ha
        replace hc := hide hc
        replace hd := hide hd
        replace he := hide he
        replace hkm := hide hkm
        as_aux_lemma =>
          go_wp2_with (fail)
          go_meet
          exact ⟨rfl, rfl⟩
      · rcases hd with hd | hd
        · rcases he with he | he | he
          · exfalso; clear hgate; omega
          · have k0 : (200 : Int) < (mb : Int) := by omega
            have k1 : ¬ (mb : Int) ≤ 65536 := by omega
            have k2 : ¬ (70000 : Int) < (mb : Int) := by omega
            have k3 : (200 : Int) < (mx : Int) := by omega
            have k4 : ¬ (mx : Int) ≤ 65536 := by omega
            have k5 : ¬ (70000 : Int) < (mx : Int) := by omega
            have k6 : ¬ (200 : Int) < (my : Int) := by omega
            have k7 : (200 : Int) < z := by omega
            have k8 : z ≤ 65536 := by omega
            replace ha := hide ha
            replace hc := hide hc
            replace hd := hide hd
            replace he := hide he
            replace hkm := hide hkm
            as_aux_lemma =>
              go_wp2_with (fail)
              go_meet
              exact ⟨rfl, rfl⟩
          · exfalso; clear hgate; omega
        · have k0 : (200 : Int) < (mb : Int) := by omega
          have k1 : ¬ (mb : Int) ≤ 65536 := by omega
          have k2 : ¬ (70000 : Int) < (mb : Int) := by omega
          have k3 : (200 : Int) < (mx : Int) := by omega
          have k4 : ¬ (mx : Int) ≤ 65536 := by omega
          have k5 : ¬ (70000 : Int) < (mx : Int) := by omega
          have k6 : (200 : Int) < (my : Int) := by omega
          replace ha := hide ha
          replace hc := hide hc
          replace hd := hide hd
          replace he := hide he
          replace hkm := hide hkm
          as_aux_lemma =>
            go_wp2_with (fail)
            go_meet
            exact ⟨rfl, rfl⟩
      · have k0 : (200 : Int) < (mb : Int) := by omega
        have k1 : ¬ (mb : Int) ≤ 65536 := by omega
        have k2 : ¬ (70000 : Int) < (mb : Int) := by omega
        have k3 : (200 : Int) < (mx : Int) := by omega
        have k4 : ¬ (mx : Int) ≤ 65536 := by omega
        have k5 : (70000 : Int) < (mx : Int) := by omega
        replace ha := hide ha
        replace hc := hide hc
        replace hd := hide hd
        replace he := hide he
        replace hkm := hide hkm
        as_aux_lemma =>
          go_wp2_with (fail)
          go_meet
          exact ⟨rfl, rfl⟩
    · have k0 : (200 : Int) < (mb : Int) := by omega
      have k1 : ¬ (mb : Int) ≤ 65536 := by omega
      have k2 : (70000 : Int) < (mb : Int) := by omega
      replace ha := hide ha
      replace hc := hide hc
      replace hd := hide hd
      replace he := hide he
      replace hkm := hide hkm
      as_aux_lemma =>
        go_wp2_with (fail)
        go_meet
        exact ⟨rfl, rfl⟩
  case rest =>
    obtain ⟨rfl, rfl⟩ := hcut
    have hz := (unhide X1).bl
    replace hz := hide hz
    go_wp2_with (fail)
    go_ret
    exact ⟨rfl, unhide hz⟩
end
end Go.Proofs.YtlgahaidnpgnaaaDoor
