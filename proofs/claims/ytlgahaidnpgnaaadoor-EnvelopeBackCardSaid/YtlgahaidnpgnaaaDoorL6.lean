import Derived.Test.YtlgahaidnpgnaaaDoorN17
namespace Go.Proofs.YtlgahaidnpgnaaaDoor
open Go.RowKit

theorem sameX_self (x : Bx) : sameX x x = true := sameX_iff.2 rfl
set_option maxHeartbeats 1000000 in
theorem bytes_gate (x : Bx) (vx vb : Value) (b : List UInt8) (w : World) (ht : Tab w) (h : Bs 0 w.heap.size w vx x.text) (h' : Bs 0 w.heap.size w vb b) (hg : 200 < x.text.length ∨ 200 < b.length) :
    Calls Tryd.prog 6 #[bxV x.n vx x.tag, vb] w fun e w' => e = .returned (.bool true) ∧ Below w.heap.size w w' := by
  obtain ⟨n, l, t⟩ := x
  simp only [] at *
  obtain ⟨A, c, rfl⟩ := h.form
  obtain ⟨A', c', rfl⟩ := h'.form
  have X0 : Fx w (w.alloc (.cells (bxC n (.slice A l.length c) t) 30)) [(w.heap.size, 30, bxC n (.slice A l.length c) t)] [] [] := (Fx.nil w).newB w.heap.size rfl (bxC n (.slice A l.length c) t) 30
  have hl := fun W (hb : Below w.heap.size w W) => live_any W (ht.below hb (Nat.le_refl _))
  replace X0 := hide X0; replace hl := hide hl
  by_cases h1 : 200 < l.length
  · have k1 : (200 : Int) < (l.length : Int) := by omega
    generalize l.length = m at *
    clear hg h1 h h' ht
    go_enter Tryd.func6, Tryd.ntmps6
    go_upto_region 1 with (fail)
    generalize hW : World.alloc w _ = W at *
    clear hW
    go_wp2_with (first
      | (go_at_call 9; refine (unhide hl _ (unhide X0).bl).mono ?_; rintro e w1 ⟨rfl, hb1⟩
         have X1 : Fx w w1 [(w.heap.size, 30, bxC n (.slice A m c) t)] [] [] := (unhide X0).call hb1
         have k1' : w1.cell? ⟨w.heap.size, 1, none⟩ = some (.slice A m c) := (X1.get 0 rfl).cell 1
         replace X1 := hide X1)
      | fail)
    go_ret
    exact ⟨rfl, (unhide X1).bl⟩
  · have k1 : ¬ (200 : Int) < (l.length : Int) := by omega
    have k2 : (200 : Int) < (b.length : Int) := by omega
    generalize l.length = m at *
    clear hg h1 h h' ht
    go_enter Tryd.func6, Tryd.ntmps6
    go_upto_region 1 with (fail)
    generalize hW : World.alloc w _ = W at *
    clear hW
    go_wp2_with (first
      | (go_at_call 9; refine (unhide hl _ (unhide X0).bl).mono ?_; rintro e w1 ⟨rfl, hb1⟩
         have X1 : Fx w w1 [(w.heap.size, 30, bxC n (.slice A m c) t)] [] [] := (unhide X0).call hb1
         have k1' : w1.cell? ⟨w.heap.size, 1, none⟩ = some (.slice A m c) := (X1.get 0 rfl).cell 1
         replace X1 := hide X1)
      | fail)
    go_ret
    exact ⟨rfl, (unhide X1).bl⟩

set_option maxHeartbeats 2000000 in
theorem bytes_few (x : Bx) (vx vb : Value) (b : List UInt8) (w : World) (ht : Tab w) (h : Bs 0 w.heap.size w vx x.text) (h' : Bs 0 w.heap.size w vb b) (hl1 : x.text.length ≤ 200) (hl2 : b.length ≤ 200) (hl3 : b.length < 24) :
    Calls Tryd.prog 6 #[bxV x.n vx x.tag, vb] w fun e w' => e = .returned (.bool true) ∧ Below w.heap.size w w' := by
  have hl := fun W (hb : Below w.heap.size w W) => live_any W (ht.below hb (Nat.le_refl _))
  have hB := fun W (hb : Below w.heap.size w W) => Bytes_good x.n vx x.text x.tag W (h.to hb) (by omega)
  have hBx : bytesF ⟨x.n, x.text, x.tag⟩ = bytesF x := rfl
  rw [hBx] at hB
  have hbl := bytes_len x
  have hfb := from_bytes x
  have hF := fun v W (h : Bs 0 W.heap.size W v (bytesF x)) => From_good v (bytesF x) W h (by omega) (by omega)
  rw [hfb] at hF
  rw [hbl] at hB
  have hS := fun v u W (h : Bs 0 W.heap.size W v x.text) (h' : Bs 0 W.heap.size W u x.text) => Same_any x x v u W h h'
  rw [sameX_self] at hS
  have hF2 := fun W (hb : Below w.heap.size w W) => From_short 0 vb b W (h'.to hb) hl3
  generalize bytesF x = P at *
  obtain ⟨n, l, t⟩ := x
  simp only [] at *
  obtain ⟨A, c, rfl⟩ := h.form
  obtain ⟨Ab, cb, rfl⟩ := h'.form
  have X0 : Fx w (w.alloc (.cells (bxC n (.slice A l.length c) t) 30)) [(w.heap.size, 30, bxC n (.slice A l.length c) t)] [] [(.slice A l.length c, l)] := Fx.addZ ((Fx.nil w).newB w.heap.size rfl (bxC n (.slice A l.length c) t) 30) (h.to (bl_alloc (Below.refl _ _) _))
  have k1 : ¬ (200 : Int) < (l.length : Int) := by omega
  have k2 : ¬ (200 : Int) < (b.length : Int) := by omega
  have k3 : (l.length : Int) ≤ 200 := by omega
  have k5 : (b.length : Int) < 24 := by omega
  replace X0 := hide X0
  replace hl := hide hl
  replace hB := hide hB
  replace hF := hide hF
  replace hS := hide hS
  replace hF2 := hide hF2
  replace hbl := hide hbl
  generalize l.length = m at *
  generalize b.length = mb at *
  clear h h' ht hl1 hl2 hl3 hBx hfb
  go_enter Tryd.func6, Tryd.ntmps6
  go_upto_region 1 with (fail)
  generalize hW : World.alloc w _ = W at *
  clear hW
  have tk0 : True := trivial
  have tk1 : True := trivial
  go_wp2_with (first
    | (go_at_call 9; refine (unhide hl _ (unhide X0).bl).mono ?_; rintro e w1 ⟨rfl, hb1⟩
       have X1 : Fx w w1 [(w.heap.size, 30, bxC n (.slice A m c) t)] [] [(.slice A m c, l)] := (unhide X0).call hb1
       have p0 : w1.cell? ⟨w.heap.size, 0, none⟩ = some (u64v n) := (X1.get 0 rfl).cell 0
       have p1 : w1.cell? ⟨w.heap.size, 1, none⟩ = some (.slice A m c) := (X1.get 0 rfl).cell 1
       have p2 : w1.cell? ⟨w.heap.size, 2, none⟩ = some (u32v t.a) := (X1.get 0 rfl).cell 2
       have p3 : w1.cell? ⟨w.heap.size, 3, none⟩ = some (u32v t.b) := (X1.get 0 rfl).cell 3
       have p4 : w1.cell? ⟨w.heap.size, 4, none⟩ = some (u32v t.c) := (X1.get 0 rfl).cell 4
       have p5 : w1.cell? ⟨w.heap.size, 5, none⟩ = some (u32v t.d) := (X1.get 0 rfl).cell 5
       replace X1 := hide X1
       clear hb1)
    | (go_at_call 14; have _t := tk0; refine (unhide hB _ (unhide X1).bl).mono ?_; rintro e w2 ⟨A2, c2, rfl, o2, hb2⟩
       have X2 : Fx w w2 [(w.heap.size, 30, bxC n (.slice A m c) t)] [] [(.slice A m c, l), (.slice A2 (m + 24) c2, P)] := Fx.addZ ((unhide X1).call hb2) (Bs.of_own0 o2)
       have q0 : w2.cell? ⟨w.heap.size, 0, none⟩ = some (u64v n) := (X2.get 0 rfl).cell 0
       have q1 : w2.cell? ⟨w.heap.size, 1, none⟩ = some (.slice A m c) := (X2.get 0 rfl).cell 1
       have q2 : w2.cell? ⟨w.heap.size, 2, none⟩ = some (u32v t.a) := (X2.get 0 rfl).cell 2
       have q3 : w2.cell? ⟨w.heap.size, 3, none⟩ = some (u32v t.b) := (X2.get 0 rfl).cell 3
       have q4 : w2.cell? ⟨w.heap.size, 4, none⟩ = some (u32v t.c) := (X2.get 0 rfl).cell 4
       have q5 : w2.cell? ⟨w.heap.size, 5, none⟩ = some (u32v t.d) := (X2.get 0 rfl).cell 5
       replace X2 := hide X2
       clear o2 hb2 tk0 _t)
    | (go_at_call 16; have _t := tk1; refine (unhide hF _ _ ((unhide X2).rd 1 rfl)).mono ?_; rintro e w3 ⟨A3, c3, rfl, o3, hb3⟩
       have X3' : Fx w w3 [(w.heap.size, 30, bxC n (.slice A m c) t)] [] [(.slice A m c, l), (.slice A2 (m + 24) c2, P), (.slice A3 m c3, l)] := Fx.addZ ((unhide X2).call hb3) (Bs.of_own0 o3)
       have X3 : Fx w (w3.alloc (.cells (bxC n (.slice A3 m c3) t) 30)) [(w.heap.size, 30, bxC n (.slice A m c) t), (w3.heap.size, 30, bxC n (.slice A3 m c3) t)] [] [(.slice A m c, l), (.slice A2 (m + 24) c2, P), (.slice A3 m c3, l)] := X3'.newB w3.heap.size rfl (bxC n (.slice A3 m c3) t) 30
       have l3 : w.heap.size < w3.heap.size := (X3'.get 0 rfl).lt
       have r0 : w3.cell? ⟨w.heap.size, 0, none⟩ = some (u64v n) := (X3'.get 0 rfl).cell 0
       have r1 : w3.cell? ⟨w.heap.size, 1, none⟩ = some (.slice A m c) := (X3'.get 0 rfl).cell 1
       have r2 : w3.cell? ⟨w.heap.size, 2, none⟩ = some (u32v t.a) := (X3'.get 0 rfl).cell 2
       have r3 : w3.cell? ⟨w.heap.size, 3, none⟩ = some (u32v t.b) := (X3'.get 0 rfl).cell 3
       have r4 : w3.cell? ⟨w.heap.size, 4, none⟩ = some (u32v t.c) := (X3'.get 0 rfl).cell 4
       have r5 : w3.cell? ⟨w.heap.size, 5, none⟩ = some (u32v t.d) := (X3'.get 0 rfl).cell 5
       replace X3 := hide X3
       clear o3 hb3 tk1 _t X3')
    | (go_at_call 24; refine (unhide hS _ _ _ ((unhide X3).rd 0 rfl) ((unhide X3).rd 2 rfl)).mono ?_; rintro e w4 ⟨rfl, hb4⟩
       have X4 : Fx w w4 [(w.heap.size, 30, bxC n (.slice A m c) t), (w3.heap.size, 30, bxC n (.slice A3 m c3) t)] [] [(.slice A m c, l), (.slice A2 (m + 24) c2, P), (.slice A3 m c3, l)] := (unhide X3).call hb4
       have s0 : w4.cell? ⟨w.heap.size, 0, none⟩ = some (u64v n) := (X4.get 0 rfl).cell 0
       have s1 : w4.cell? ⟨w.heap.size, 1, none⟩ = some (.slice A m c) := (X4.get 0 rfl).cell 1
       have s2 : w4.cell? ⟨w.heap.size, 2, none⟩ = some (u32v t.a) := (X4.get 0 rfl).cell 2
       have s3 : w4.cell? ⟨w.heap.size, 3, none⟩ = some (u32v t.b) := (X4.get 0 rfl).cell 3
       have s4 : w4.cell? ⟨w.heap.size, 4, none⟩ = some (u32v t.c) := (X4.get 0 rfl).cell 4
       have s5 : w4.cell? ⟨w.heap.size, 5, none⟩ = some (u32v t.d) := (X4.get 0 rfl).cell 5
       replace X4 := hide X4
       clear hb4)
    | (go_at_call 16; refine (unhide hF2 _ (unhide X4).bl).mono ?_; rintro e w5 ⟨rfl, hb5⟩
       have b5 : Below w.heap.size w w5 := bl_call (unhide X4).bl hb5
       replace b5 := hide b5
       clear hb5)
    | fail)
  go_ret
  exact ⟨rfl, bl_alloc (unhide b5) _⟩
set_option maxHeartbeats 2000000 in
theorem bytes_main (x : Bx) (vx vb : Value) (b : List UInt8) (w : World) (ht : Tab w) (h : Bs 0 w.heap.size w vx x.text) (h' : Bs 0 w.heap.size w vb b) (hl1 : x.text.length ≤ 200) (hl2 : b.length ≤ 200) (hl3 : 24 ≤ b.length) :
    Calls Tryd.prog 6 #[bxV x.n vx x.tag, vb] w fun e w' => e = .returned (.bool true) ∧ Below w.heap.size w w' := by
  have hl := fun W (hb : Below w.heap.size w W) => live_any W (ht.below hb (Nat.le_refl _))
  have hB := fun W (hb : Below w.heap.size w W) => Bytes_good x.n vx x.text x.tag W (h.to hb) (by omega)
  have hBx : bytesF ⟨x.n, x.text, x.tag⟩ = bytesF x := rfl
  rw [hBx] at hB
  have hbl := bytes_len x
  have hfb := from_bytes x
  have hF := fun v W (h : Bs 0 W.heap.size W v (bytesF x)) => From_good v (bytesF x) W h (by omega) (by omega)
  rw [hfb] at hF
  rw [hbl] at hB
  have hS := fun v u W (h : Bs 0 W.heap.size W v x.text) (h' : Bs 0 W.heap.size W u x.text) => Same_any x x v u W h h'
  rw [sameX_self] at hS
  have hF2 := fun W (hb : Below w.heap.size w W) => From_good vb b W (h'.to hb) hl3 (by omega)
  have hfl : (fromF b).text.length + 24 = b.length := by show (b.drop 24).length + 24 = _; rw [List.length_drop]; omega
  have hB2 := fun v W (h : Bs 0 W.heap.size W v (fromF b).text) => Bytes_good (fromF b).n v (fromF b).text (fromF b).tag W h (by omega)
  have hbf := bytes_from hl3
  have hBy : bytesF ⟨(fromF b).n, (fromF b).text, (fromF b).tag⟩ = bytesF (fromF b) := rfl
  rw [hBy, hbf] at hB2
  have hE := fun v W (hb : Below w.heap.size w W) (h : Bs 0 W.heap.size W v b) => same_true 0 _ 0 _ v vb b b W h (h'.to hb) rfl
  generalize fromF b = z at *
  obtain ⟨zn, zl, zt⟩ := z
  simp only [] at hF2 hB2 hfl
  generalize bytesF x = P at *
  obtain ⟨n, l, t⟩ := x
  simp only [] at *
  obtain ⟨A, c, rfl⟩ := h.form
  obtain ⟨Ab, cb, rfl⟩ := h'.form
  have X0 : Fx w (w.alloc (.cells (bxC n (.slice A l.length c) t) 30)) [(w.heap.size, 30, bxC n (.slice A l.length c) t)] [] [(.slice A l.length c, l)] := Fx.addZ ((Fx.nil w).newB w.heap.size rfl (bxC n (.slice A l.length c) t) 30) (h.to (bl_alloc (Below.refl _ _) _))
  have k1 : ¬ (200 : Int) < (l.length : Int) := by omega
  have k2 : ¬ (200 : Int) < (b.length : Int) := by omega
  have k3 : (l.length : Int) ≤ 200 := by omega
  have k5 : ¬ (b.length : Int) < 24 := by omega
  replace X0 := hide X0
  replace hl := hide hl
  replace hB := hide hB
  replace hF := hide hF
  replace hS := hide hS
  replace hF2 := hide hF2
  replace hbl := hide hbl
  replace hB2 := hide hB2
  replace hE := hide hE
  replace hfl := hide hfl
  generalize l.length = m at *
  generalize b.length = mb at *
  generalize zl.length = mz at *
  clear h h' ht hl1 hl2 hl3 hBx hbf hBy hfb
  go_enter Tryd.func6, Tryd.ntmps6
  go_upto_region 1 with (fail)
  generalize hW : World.alloc w _ = W at *
  clear hW
  have tk0 : True := trivial
  have tk1 : True := trivial
  go_wp2_with (first
    | (go_at_call 9; refine (unhide hl _ (unhide X0).bl).mono ?_; rintro e w1 ⟨rfl, hb1⟩
       have X1 : Fx w w1 [(w.heap.size, 30, bxC n (.slice A m c) t)] [] [(.slice A m c, l)] := (unhide X0).call hb1
       have p0 : w1.cell? ⟨w.heap.size, 0, none⟩ = some (u64v n) := (X1.get 0 rfl).cell 0
       have p1 : w1.cell? ⟨w.heap.size, 1, none⟩ = some (.slice A m c) := (X1.get 0 rfl).cell 1
       have p2 : w1.cell? ⟨w.heap.size, 2, none⟩ = some (u32v t.a) := (X1.get 0 rfl).cell 2
       have p3 : w1.cell? ⟨w.heap.size, 3, none⟩ = some (u32v t.b) := (X1.get 0 rfl).cell 3
       have p4 : w1.cell? ⟨w.heap.size, 4, none⟩ = some (u32v t.c) := (X1.get 0 rfl).cell 4
       have p5 : w1.cell? ⟨w.heap.size, 5, none⟩ = some (u32v t.d) := (X1.get 0 rfl).cell 5
       replace X1 := hide X1
       clear hb1)
    | (go_at_call 14; have _t := tk0; refine (unhide hB _ (unhide X1).bl).mono ?_; rintro e w2 ⟨A2, c2, rfl, o2, hb2⟩
       have X2 : Fx w w2 [(w.heap.size, 30, bxC n (.slice A m c) t)] [] [(.slice A m c, l), (.slice A2 (m + 24) c2, P)] := Fx.addZ ((unhide X1).call hb2) (Bs.of_own0 o2)
       have q0 : w2.cell? ⟨w.heap.size, 0, none⟩ = some (u64v n) := (X2.get 0 rfl).cell 0
       have q1 : w2.cell? ⟨w.heap.size, 1, none⟩ = some (.slice A m c) := (X2.get 0 rfl).cell 1
       have q2 : w2.cell? ⟨w.heap.size, 2, none⟩ = some (u32v t.a) := (X2.get 0 rfl).cell 2
       have q3 : w2.cell? ⟨w.heap.size, 3, none⟩ = some (u32v t.b) := (X2.get 0 rfl).cell 3
       have q4 : w2.cell? ⟨w.heap.size, 4, none⟩ = some (u32v t.c) := (X2.get 0 rfl).cell 4
       have q5 : w2.cell? ⟨w.heap.size, 5, none⟩ = some (u32v t.d) := (X2.get 0 rfl).cell 5
       replace X2 := hide X2
       clear o2 hb2 tk0 _t)
    | (go_at_call 16; have _t := tk1; refine (unhide hF _ _ ((unhide X2).rd 1 rfl)).mono ?_; rintro e w3 ⟨A3, c3, rfl, o3, hb3⟩
       have X3' : Fx w w3 [(w.heap.size, 30, bxC n (.slice A m c) t)] [] [(.slice A m c, l), (.slice A2 (m + 24) c2, P), (.slice A3 m c3, l)] := Fx.addZ ((unhide X2).call hb3) (Bs.of_own0 o3)
       have X3 : Fx w (w3.alloc (.cells (bxC n (.slice A3 m c3) t) 30)) [(w.heap.size, 30, bxC n (.slice A m c) t), (w3.heap.size, 30, bxC n (.slice A3 m c3) t)] [] [(.slice A m c, l), (.slice A2 (m + 24) c2, P), (.slice A3 m c3, l)] := X3'.newB w3.heap.size rfl (bxC n (.slice A3 m c3) t) 30
       have l3 : w.heap.size < w3.heap.size := (X3'.get 0 rfl).lt
       have r0 : w3.cell? ⟨w.heap.size, 0, none⟩ = some (u64v n) := (X3'.get 0 rfl).cell 0
       have r1 : w3.cell? ⟨w.heap.size, 1, none⟩ = some (.slice A m c) := (X3'.get 0 rfl).cell 1
       have r2 : w3.cell? ⟨w.heap.size, 2, none⟩ = some (u32v t.a) := (X3'.get 0 rfl).cell 2
       have r3 : w3.cell? ⟨w.heap.size, 3, none⟩ = some (u32v t.b) := (X3'.get 0 rfl).cell 3
       have r4 : w3.cell? ⟨w.heap.size, 4, none⟩ = some (u32v t.c) := (X3'.get 0 rfl).cell 4
       have r5 : w3.cell? ⟨w.heap.size, 5, none⟩ = some (u32v t.d) := (X3'.get 0 rfl).cell 5
       replace X3 := hide X3
       clear o3 hb3 tk1 _t X3')
    | (go_at_call 24; refine (unhide hS _ _ _ ((unhide X3).rd 0 rfl) ((unhide X3).rd 2 rfl)).mono ?_; rintro e w4 ⟨rfl, hb4⟩
       have X4 : Fx w w4 [(w.heap.size, 30, bxC n (.slice A m c) t), (w3.heap.size, 30, bxC n (.slice A3 m c3) t)] [] [(.slice A m c, l), (.slice A2 (m + 24) c2, P), (.slice A3 m c3, l)] := (unhide X3).call hb4
       have s0 : w4.cell? ⟨w.heap.size, 0, none⟩ = some (u64v n) := (X4.get 0 rfl).cell 0
       have s1 : w4.cell? ⟨w.heap.size, 1, none⟩ = some (.slice A m c) := (X4.get 0 rfl).cell 1
       have s2 : w4.cell? ⟨w.heap.size, 2, none⟩ = some (u32v t.a) := (X4.get 0 rfl).cell 2
       have s3 : w4.cell? ⟨w.heap.size, 3, none⟩ = some (u32v t.b) := (X4.get 0 rfl).cell 3
       have s4 : w4.cell? ⟨w.heap.size, 4, none⟩ = some (u32v t.c) := (X4.get 0 rfl).cell 4
       have s5 : w4.cell? ⟨w.heap.size, 5, none⟩ = some (u32v t.d) := (X4.get 0 rfl).cell 5
       replace X4 := hide X4
       clear hb4)
    | (go_at_call 16; refine (unhide hF2 _ (unhide X4).bl).mono ?_; rintro e w5 ⟨A5, c5, rfl, o5, hb5⟩
       have X5 : Fx w (w5.alloc (.cells (bxC zn (.slice A5 mz c5) zt) 30)) [(w5.heap.size, 30, bxC zn (.slice A5 mz c5) zt)] [] [(.slice A5 mz c5, zl)] := Fx.newB (Fx.addZ (Fx.start (bl_call (unhide X4).bl hb5)) (Bs.of_own0 o5)) w5.heap.size rfl (bxC zn (.slice A5 mz c5) zt) 30
       replace X5 := hide X5
       clear hb5 o5)
    | (go_at_call 14; refine (unhide hB2 _ _ ((unhide X5).rd 0 rfl)).mono ?_; rintro e w6 ⟨A6, c6, rfl, o6, hb6⟩
       have X6 : Fx w w6 [] [] [(.slice A6 mb c6, b)] := Fx.addZ (Fx.start (bl_call (unhide X5).bl hb6)) (Bs.of_own0 o6)
       replace X6 := hide X6
       clear hb6 o6)
    | (go_at_call 23; refine (unhide hE _ _ (unhide X6).bl ((unhide X6).rd 0 rfl)).mono ?_; rintro e w7 ⟨rfl, rfl⟩)
    | fail)
  go_ret
  exact ⟨rfl, (unhide X6).bl⟩
theorem bytes_law (x : Bx) (vx vb : Value) (b : List UInt8) (w : World) (ht : Tab w) (h : Bs 0 w.heap.size w vx x.text) (h' : Bs 0 w.heap.size w vb b) :
    Calls Tryd.prog 6 #[bxV x.n vx x.tag, vb] w fun e w' => e = .returned (.bool true) ∧ Below w.heap.size w w' := by
  by_cases h1 : 200 < x.text.length ∨ 200 < b.length
  · exact bytes_gate x vx vb b w ht h h' h1
  · by_cases h2 : b.length < 24
    · exact bytes_few x vx vb b w ht h h' (by omega) (by omega) h2
    · exact bytes_main x vx vb b w ht h h' (by omega) (by omega) (by omega)
end Go.Proofs.YtlgahaidnpgnaaaDoor
