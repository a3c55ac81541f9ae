import Derived.Test.YthkccpemgmpadaaDoorM8
namespace Go.Proofs.YthkccpemgmpadaaDoor
set_option maxRecDepth 100000
open Go.RowKit

set_option maxHeartbeats 4000000 in
theorem ring_gate0 (s : St) (n : Nx) (va vb : Value) (a b : List UInt8) (w : World) (ht : Tab w) (h : Bs 0 w.heap.size w va a) (h' : Bs 0 w.heap.size w vb b) (g1 : 100 < a.length) :
    Calls Tryd.prog 5 #[rgV s n, va, vb] w fun e w' => e = .returned (.bool true) ∧ Below w.heap.size w w' := by
  have hl := fun W (hb : Below w.heap.size w W) => live_any W (ht.below hb (Nat.le_refl _))
  obtain ⟨A, c, rfl⟩ := h.form
  obtain ⟨A', c', rfl⟩ := h'.form
  have k1 : (100 : Int) < (a.length : Int) := by omega
  have X0 : Fx w (w.alloc (.cells (rgC s n) 27)) [(w.heap.size, 27, rgC s n)] [] [] := (Fx.nil w).newB w.heap.size rfl (rgC s n) 27
  generalize a.length = ma at *
  generalize b.length = mb at *
  replace X0 := hide X0; replace hl := hide hl
  clear h h' ht g1
  go_enter Tryd.func5, Tryd.ntmps5
  go_upto_region 1 with (fail)
  generalize hW : World.alloc w _ = W at *
  clear hW
  go_wp2_with (first
    | (go_at_call 6; refine (unhide hl _ (unhide X0).bl).mono ?_; rintro e w1 ⟨rfl, hb1⟩
       have X1 : Fx w w1 [(w.heap.size, 27, rgC s n)] [] [] := (unhide X0).call hb1
       have c0 : w1.cell? ⟨w.heap.size, 0, none⟩ = some (u32v s.a) := (X1.get 0 rfl).cell 0
       have c1 : w1.cell? ⟨w.heap.size, 1, none⟩ = some (u32v s.b) := (X1.get 0 rfl).cell 1
       have c2 : w1.cell? ⟨w.heap.size, 2, none⟩ = some (u32v s.c) := (X1.get 0 rfl).cell 2
       have c3 : w1.cell? ⟨w.heap.size, 3, none⟩ = some (u32v s.d) := (X1.get 0 rfl).cell 3
       have c4 : w1.cell? ⟨w.heap.size, 4, none⟩ = some (u64v n) := (X1.get 0 rfl).cell 4
       replace X1 := hide X1
       clear hb1)
    | fail)
  go_ret
  exact ⟨rfl, (unhide X1).bl⟩
set_option maxHeartbeats 4000000 in
theorem ring_gate1 (s : St) (n : Nx) (va vb : Value) (a b : List UInt8) (w : World) (ht : Tab w) (h : Bs 0 w.heap.size w va a) (h' : Bs 0 w.heap.size w vb b) (g1 : a.length ≤ 100) (g2 : 100 < b.length) :
    Calls Tryd.prog 5 #[rgV s n, va, vb] w fun e w' => e = .returned (.bool true) ∧ Below w.heap.size w w' := by
  have hl := fun W (hb : Below w.heap.size w W) => live_any W (ht.below hb (Nat.le_refl _))
  obtain ⟨A, c, rfl⟩ := h.form
  obtain ⟨A', c', rfl⟩ := h'.form
  have k1 : ¬ (100 : Int) < (a.length : Int) := by omega
  have k2 : (100 : Int) < (b.length : Int) := by omega
  have X0 : Fx w (w.alloc (.cells (rgC s n) 27)) [(w.heap.size, 27, rgC s n)] [] [] := (Fx.nil w).newB w.heap.size rfl (rgC s n) 27
  generalize a.length = ma at *
  generalize b.length = mb at *
  replace X0 := hide X0; replace hl := hide hl
  clear h h' ht g1 g2
  go_enter Tryd.func5, Tryd.ntmps5
  go_upto_region 1 with (fail)
  generalize hW : World.alloc w _ = W at *
  clear hW
  go_wp2_with (first
    | (go_at_call 6; refine (unhide hl _ (unhide X0).bl).mono ?_; rintro e w1 ⟨rfl, hb1⟩
       have X1 : Fx w w1 [(w.heap.size, 27, rgC s n)] [] [] := (unhide X0).call hb1
       have c0 : w1.cell? ⟨w.heap.size, 0, none⟩ = some (u32v s.a) := (X1.get 0 rfl).cell 0
       have c1 : w1.cell? ⟨w.heap.size, 1, none⟩ = some (u32v s.b) := (X1.get 0 rfl).cell 1
       have c2 : w1.cell? ⟨w.heap.size, 2, none⟩ = some (u32v s.c) := (X1.get 0 rfl).cell 2
       have c3 : w1.cell? ⟨w.heap.size, 3, none⟩ = some (u32v s.d) := (X1.get 0 rfl).cell 3
       have c4 : w1.cell? ⟨w.heap.size, 4, none⟩ = some (u64v n) := (X1.get 0 rfl).cell 4
       replace X1 := hide X1
       clear hb1)
    | fail)
  go_ret
  exact ⟨rfl, (unhide X1).bl⟩
set_option maxHeartbeats 4000000 in
theorem ring_gate2 (s : St) (n : Nx) (va vb : Value) (a b : List UInt8) (w : World) (ht : Tab w) (h : Bs 0 w.heap.size w va a) (h' : Bs 0 w.heap.size w vb b) (g1 : a.length ≤ 100) (g2 : b.length ≤ 100) (g3 : 4611686018427387904 < n64 n) :
    Calls Tryd.prog 5 #[rgV s n, va, vb] w fun e w' => e = .returned (.bool true) ∧ Below w.heap.size w w' := by
  have hl := fun W (hb : Below w.heap.size w W) => live_any W (ht.below hb (Nat.le_refl _))
  obtain ⟨A, c, rfl⟩ := h.form
  obtain ⟨A', c', rfl⟩ := h'.form
  have k1 : ¬ (100 : Int) < (a.length : Int) := by omega
  have k2 : ¬ (100 : Int) < (b.length : Int) := by omega
  have X0 : Fx w (w.alloc (.cells (rgC s n) 27)) [(w.heap.size, 27, rgC s n)] [] [] := (Fx.nil w).newB w.heap.size rfl (rgC s n) 27
  generalize a.length = ma at *
  generalize b.length = mb at *
  replace X0 := hide X0; replace hl := hide hl
  clear h h' ht g1 g2
  go_enter Tryd.func5, Tryd.ntmps5
  go_upto_region 1 with (fail)
  generalize hW : World.alloc w _ = W at *
  clear hW
  go_wp2_with (first
    | (go_at_call 6; refine (unhide hl _ (unhide X0).bl).mono ?_; rintro e w1 ⟨rfl, hb1⟩
       have X1 : Fx w w1 [(w.heap.size, 27, rgC s n)] [] [] := (unhide X0).call hb1
       have c0 : w1.cell? ⟨w.heap.size, 0, none⟩ = some (u32v s.a) := (X1.get 0 rfl).cell 0
       have c1 : w1.cell? ⟨w.heap.size, 1, none⟩ = some (u32v s.b) := (X1.get 0 rfl).cell 1
       have c2 : w1.cell? ⟨w.heap.size, 2, none⟩ = some (u32v s.c) := (X1.get 0 rfl).cell 2
       have c3 : w1.cell? ⟨w.heap.size, 3, none⟩ = some (u32v s.d) := (X1.get 0 rfl).cell 3
       have c4 : w1.cell? ⟨w.heap.size, 4, none⟩ = some (u64v n) := (X1.get 0 rfl).cell 4
       replace X1 := hide X1
       clear hb1)
    | fail)
  go_ret
  exact ⟨rfl, (unhide X1).bl⟩
set_option maxHeartbeats 4000000 in
theorem ring_main (s : St) (n : Nx) (va vb : Value) (a b : List UInt8) (w : World) (ht : Tab w) (h : Bs 0 w.heap.size w va a) (h' : Bs 0 w.heap.size w vb b) (g1 : a.length ≤ 100) (g2 : b.length ≤ 100) (g3 : n64 n ≤ 4611686018427387904) :
    Calls Tryd.prog 5 #[rgV s n, va, vb] w fun e w' => e = .returned (.bool true) ∧ Below w.heap.size w w' := by
  have hl := fun W (hb : Below w.heap.size w W) => live_any W (ht.below hb (Nat.le_refl _))
  obtain ⟨n0, n1⟩ := nx_low g3
  have hS1 := fun W (hb : Below w.heap.size w W) => sSeal_good s n va a W (ht.below hb (Nat.le_refl _)) (h.to hb) (by omega) n0
  have hS2 := fun W (hb : Below w.heap.size w W) => sSeal_good s (n + 1#64) vb b W (ht.below hb (Nat.le_refl _)) (h'.to hb) (by omega) n1
  have hB := fun v W (hb : Below w.heap.size w W) (hv : Bss W.heap.size W v [a]) => Build_good s n v [a] W (ht.below hb (Nat.le_refl _)) hv (by simp) (by simp; omega) n0
  have hfl : [a].flatten = a := by simp
  rw [hfl] at hB
  have hO1 := fun v W (hb : Below w.heap.size w W) (hv : Bs 0 W.heap.size W v (sealS s n a)) => Open_any' s v (sealS s n a) W (ht.below hb (Nat.le_refl _)) hv (by rw [seal_len]; have := pkU_le (b := a) (by omega); omega)
  have hO2 := fun v W (hb : Below w.heap.size w W) (hv : Bs 0 W.heap.size W v (sealS s (n + 1#64) b)) => Open_any' s v (sealS s (n + 1#64) b) W (ht.below hb (Nat.le_refl _)) hv (by rw [seal_len]; have := pkU_le (b := b) (by omega); omega)
  rw [open_seal s n (b := a) (by omega)] at hO1
  rw [open_seal s (n + 1#64) (b := b) (by omega)] at hO2
  unfold Ans at hO1 hO2
  simp only [] at hO1 hO2
  have hQ1 := fun v1 v2 W (h1 : Bs 0 W.heap.size W v1 (sealS s n a)) (h2 : Bs 0 W.heap.size W v2 (sealS s n a)) => same_yes _ _ _ _ v1 v2 _ W h1 h2
  have hQ2 := fun v1 v2 W (h1 : Bs 0 W.heap.size W v1 (sealS s n a)) (h2 : Bs 0 W.heap.size W v2 (sealS s (n + 1#64) b)) => same_no _ _ _ _ v1 v2 _ _ W (seal_ne (nx_succ_ne n)) h1 h2
  have hQ3 := fun v1 W (hb : Below w.heap.size w W) (h1 : Bs 0 W.heap.size W v1 a) => same_yes _ _ _ _ v1 va _ W h1 (h.to hb)
  have hQ4 := fun v1 W (hb : Below w.heap.size w W) (h1 : Bs 0 W.heap.size W v1 b) => same_yes _ _ _ _ v1 vb _ W h1 (h'.to hb)
  have hV := fun W (hb : Below w.heap.size w W) => h.to hb
  have hN : ∀ W, (binOp .neq 27 (rgV s (n + 1#64)) (rgV s (n + 1#64))).run Tryd.prog W = .ok (.bool false) W := fun W => neq_ring W s _
  obtain ⟨two1, two2⟩ := nx_two n
  have hpc : pcsF 0 [a] = [⟨0, a.length, C.sumR a⟩] := rfl
  rw [hpc] at hB
  obtain ⟨A, c, rfl⟩ := h.form
  obtain ⟨A', c', rfl⟩ := h'.form
  have k1 : ¬ (100 : Int) < (a.length : Int) := by omega
  have k2 : ¬ (100 : Int) < (b.length : Int) := by omega
  have X0 : Fx w (w.alloc (.cells (rgC s n) 27)) [(w.heap.size, 27, rgC s n)] [] [] := (Fx.nil w).newB w.heap.size rfl (rgC s n) 27
  have k3 : ¬ (4611686018427387904 : Int) < n64 n := by omega
  generalize sealS s n a = Zx at *
  generalize sealS s (n + 1#64) b = Zy at *
  generalize C.sumR a = Sa at *
  generalize Zx.length = mx at *
  generalize Zy.length = my at *
  generalize hma : a.length = ma at *
  generalize hmb : b.length = mb at *
  replace X0 := hide X0
  replace hl := hide hl
  replace hS1 := hide hS1
  replace hS2 := hide hS2
  replace hB := hide hB
  replace hO1 := hide hO1
  replace hO2 := hide hO2
  replace hQ1 := hide hQ1
  replace hQ2 := hide hQ2
  replace hQ3 := hide hQ3
  replace hQ4 := hide hQ4
  replace hV := hide hV
  clear h h' ht g1 g2 g3 n0 n1 hma hmb hfl hpc
  have tk0 : True := trivial
  have tk1 : True := trivial
  have tk2 : True := trivial
  have tk3 : True := trivial
  have tk4 : True := trivial
  have tk5 : True := trivial
  have tk6 : True := trivial
  go_enter Tryd.func5, Tryd.ntmps5
  go_upto_region 1 with (fail)
  generalize hW : World.alloc w _ = W at *
  clear hW
  go_upto_region 9 with (first
    | (go_at_call 6; refine (unhide hl _ (unhide X0).bl).mono ?_; rintro e w1 ⟨rfl, hb1⟩
       have X1 : Fx w w1 [(w.heap.size, 27, rgC s n)] [] [] := (unhide X0).call hb1
       have c0 : w1.cell? ⟨w.heap.size, 0, none⟩ = some (u32v s.a) := (X1.get 0 rfl).cell 0
       have c1 : w1.cell? ⟨w.heap.size, 1, none⟩ = some (u32v s.b) := (X1.get 0 rfl).cell 1
       have c2 : w1.cell? ⟨w.heap.size, 2, none⟩ = some (u32v s.c) := (X1.get 0 rfl).cell 2
       have c3 : w1.cell? ⟨w.heap.size, 3, none⟩ = some (u32v s.d) := (X1.get 0 rfl).cell 3
       have c4 : w1.cell? ⟨w.heap.size, 4, none⟩ = some (u64v n) := (X1.get 0 rfl).cell 4
       replace X1 := hide X1
       clear hb1)
    | (go_at_call 15; have _t := tk0; refine (unhide hS1 _ (unhide X1).bl).mono ?_; rintro e w2 ⟨A2, c2, rfl, o2, hb2⟩
       have X2' : Fx w w2 [(w.heap.size, 27, rgC s n)] [] [(.slice A2 mx c2, Zx)] := ((unhide X1).call hb2).addZ (Bs.of_own0 o2)
       have X2 : Fx w (w2.alloc (.cells (rgC s (n + 1#64)) 27)) [(w.heap.size, 27, rgC s n), (w2.heap.size, 27, rgC s (n + 1#64))] [] [(.slice A2 mx c2, Zx)] := X2'.newB w2.heap.size rfl (rgC s (n + 1#64)) 27
       have l2_0 : w.heap.size < w2.heap.size := (X2'.get 0 rfl).lt
       have da0 : w2.cell? ⟨w.heap.size, 0, none⟩ = some (u32v s.a) := (X2'.get 0 rfl).cell 0
       have da1 : w2.cell? ⟨w.heap.size, 1, none⟩ = some (u32v s.b) := (X2'.get 0 rfl).cell 1
       have da2 : w2.cell? ⟨w.heap.size, 2, none⟩ = some (u32v s.c) := (X2'.get 0 rfl).cell 2
       have da3 : w2.cell? ⟨w.heap.size, 3, none⟩ = some (u32v s.d) := (X2'.get 0 rfl).cell 3
       have da4 : w2.cell? ⟨w.heap.size, 4, none⟩ = some (u64v n) := (X2'.get 0 rfl).cell 4
       replace X2 := hide X2
       clear o2 hb2 X2' tk0 _t)
    | (go_at_call 15; have _t := tk1; refine (unhide hS2 _ (unhide X2).bl).mono ?_; rintro e w3 ⟨A3, c3, rfl, o3, hb3⟩
       have X3' : Fx w w3 [(w.heap.size, 27, rgC s n), (w2.heap.size, 27, rgC s (n + 1#64))] [] [(.slice A2 mx c2, Zx), (.slice A3 my c3, Zy)] := ((unhide X2).call hb3).addZ (Bs.of_own0 o3)
       have X3 : Fx w (w3.alloc (.cells (rgC s (n + 1#64 + 1#64)) 27)) [(w.heap.size, 27, rgC s n), (w2.heap.size, 27, rgC s (n + 1#64)), (w3.heap.size, 27, rgC s (n + 1#64 + 1#64))] [] [(.slice A2 mx c2, Zx), (.slice A3 my c3, Zy)] := X3'.newB w3.heap.size rfl (rgC s (n + 1#64 + 1#64)) 27
       have l3_0 : w.heap.size < w3.heap.size := (X3'.get 0 rfl).lt
       have l3_1 : w2.heap.size < w3.heap.size := (X3'.get 1 rfl).lt
       have ea0 : w3.cell? ⟨w.heap.size, 0, none⟩ = some (u32v s.a) := (X3'.get 0 rfl).cell 0
       have ea1 : w3.cell? ⟨w.heap.size, 1, none⟩ = some (u32v s.b) := (X3'.get 0 rfl).cell 1
       have ea2 : w3.cell? ⟨w.heap.size, 2, none⟩ = some (u32v s.c) := (X3'.get 0 rfl).cell 2
       have ea3 : w3.cell? ⟨w.heap.size, 3, none⟩ = some (u32v s.d) := (X3'.get 0 rfl).cell 3
       have ea4 : w3.cell? ⟨w.heap.size, 4, none⟩ = some (u64v n) := (X3'.get 0 rfl).cell 4
       have eb0 : w3.cell? ⟨w2.heap.size, 0, none⟩ = some (u32v s.a) := (X3'.get 1 rfl).cell 0
       have eb1 : w3.cell? ⟨w2.heap.size, 1, none⟩ = some (u32v s.b) := (X3'.get 1 rfl).cell 1
       have eb2 : w3.cell? ⟨w2.heap.size, 2, none⟩ = some (u32v s.c) := (X3'.get 1 rfl).cell 2
       have eb3 : w3.cell? ⟨w2.heap.size, 3, none⟩ = some (u32v s.d) := (X3'.get 1 rfl).cell 3
       have eb4 : w3.cell? ⟨w2.heap.size, 4, none⟩ = some (u64v (n + 1#64)) := (X3'.get 1 rfl).cell 4
       replace X3 := hide X3
       clear o3 hb3 X3' tk1 _t)
    | (go_at_call 8; refine (unhide hB _ _ (bl_alloc (unhide X3).bl _) (bss_one (by simp) (unhide hV _ (unhide X3).bl))).mono ?_; rintro e w4 ⟨A4, c4, Ap, cp, rfl, o4, op, hb4⟩
       have X4' : Fx w w4 [(w.heap.size, 27, rgC s n), (w2.heap.size, 27, rgC s (n + 1#64)), (w3.heap.size, 27, rgC s (n + 1#64 + 1#64))] [] [(.slice A2 mx c2, Zx), (.slice A3 my c3, Zy), (.slice A4 mx c4, Zx)] := (((unhide X3).alloc _).call hb4).addZ (Bs.of_own0 o4)
       obtain ⟨gp, rfl, lq, lp, cl⟩ := pcs_own op (Nat.succ_pos _)
       have p1 : w4.cell? ⟨gp, 1, none⟩ = some (.int .i64 ma) := (cl 0 (Nat.succ_pos _)).2.1
       have X4 : Fx w (w4.alloc (.cells (rgC s (n + 1#64)) 27)) [(w.heap.size, 27, rgC s n), (w2.heap.size, 27, rgC s (n + 1#64)), (w3.heap.size, 27, rgC s (n + 1#64 + 1#64)), (w4.heap.size, 27, rgC s (n + 1#64))] [] [(.slice A2 mx c2, Zx), (.slice A3 my c3, Zy), (.slice A4 mx c4, Zx)] := X4'.newB w4.heap.size rfl (rgC s (n + 1#64)) 27
       have l4_0 : w.heap.size < w4.heap.size := (X4'.get 0 rfl).lt
       have l4_1 : w2.heap.size < w4.heap.size := (X4'.get 1 rfl).lt
       have l4_2 : w3.heap.size < w4.heap.size := (X4'.get 2 rfl).lt
       have fa0 : w4.cell? ⟨w.heap.size, 0, none⟩ = some (u32v s.a) := (X4'.get 0 rfl).cell 0
       have fa1 : w4.cell? ⟨w.heap.size, 1, none⟩ = some (u32v s.b) := (X4'.get 0 rfl).cell 1
       have fa2 : w4.cell? ⟨w.heap.size, 2, none⟩ = some (u32v s.c) := (X4'.get 0 rfl).cell 2
       have fa3 : w4.cell? ⟨w.heap.size, 3, none⟩ = some (u32v s.d) := (X4'.get 0 rfl).cell 3
       have fa4 : w4.cell? ⟨w.heap.size, 4, none⟩ = some (u64v n) := (X4'.get 0 rfl).cell 4
       have fb0 : w4.cell? ⟨w2.heap.size, 0, none⟩ = some (u32v s.a) := (X4'.get 1 rfl).cell 0
       have fb1 : w4.cell? ⟨w2.heap.size, 1, none⟩ = some (u32v s.b) := (X4'.get 1 rfl).cell 1
       have fb2 : w4.cell? ⟨w2.heap.size, 2, none⟩ = some (u32v s.c) := (X4'.get 1 rfl).cell 2
       have fb3 : w4.cell? ⟨w2.heap.size, 3, none⟩ = some (u32v s.d) := (X4'.get 1 rfl).cell 3
       have fb4 : w4.cell? ⟨w2.heap.size, 4, none⟩ = some (u64v (n + 1#64)) := (X4'.get 1 rfl).cell 4
       have fc0 : w4.cell? ⟨w3.heap.size, 0, none⟩ = some (u32v s.a) := (X4'.get 2 rfl).cell 0
       have fc1 : w4.cell? ⟨w3.heap.size, 1, none⟩ = some (u32v s.b) := (X4'.get 2 rfl).cell 1
       have fc2 : w4.cell? ⟨w3.heap.size, 2, none⟩ = some (u32v s.c) := (X4'.get 2 rfl).cell 2
       have fc3 : w4.cell? ⟨w3.heap.size, 3, none⟩ = some (u32v s.d) := (X4'.get 2 rfl).cell 3
       have fc4 : w4.cell? ⟨w3.heap.size, 4, none⟩ = some (u64v (n + 1#64 + 1#64)) := (X4'.get 2 rfl).cell 4
       replace X4 := hide X4
       clear o4 op hb4 cl lq X4')
    | (go_at_call 12; have _t := tk2; refine (unhide hQ1 _ _ _ ((unhide X4).rd 0 rfl) ((unhide X4).rd 2 rfl)).mono ?_; rintro e wz ⟨rfl, rfl⟩
       clear tk2 _t)
    | (go_at_call 12; have _t := tk3; refine (unhide hQ2 _ _ _ ((unhide X4).rd 0 rfl) ((unhide X4).rd 1 rfl)).mono ?_; rintro e wz ⟨rfl, rfl⟩
       clear tk3 _t)
    | fail)
  have X5 := hide ((unhide X4).sub (L' := [(w.heap.size, 27, rgC s n)]) (R' := []) (Z' := [(.slice A2 mx c2, Zx), (.slice A3 my c3, Zy)]) (by simp) (by simp) (by simp))
  go_wp2_with (first
    | (go_at_call 9; have _t := tk4; refine (unhide hO1 _ _ (unhide X5).bl ((unhide X5).rd 0 rfl)).mono ?_; rintro e w6 ⟨A6, c6, rfl, o6, hb6⟩
       have X6 : Fx w w6 [(w.heap.size, 27, rgC s n)] [] [(.slice A2 mx c2, Zx), (.slice A3 my c3, Zy), (.slice A6 ma c6, a)] := ((unhide X5).call hb6).addZ (Bs.of_own0 o6)
       have ga0 : w6.cell? ⟨w.heap.size, 0, none⟩ = some (u32v s.a) := (X6.get 0 rfl).cell 0
       have ga1 : w6.cell? ⟨w.heap.size, 1, none⟩ = some (u32v s.b) := (X6.get 0 rfl).cell 1
       have ga2 : w6.cell? ⟨w.heap.size, 2, none⟩ = some (u32v s.c) := (X6.get 0 rfl).cell 2
       have ga3 : w6.cell? ⟨w.heap.size, 3, none⟩ = some (u32v s.d) := (X6.get 0 rfl).cell 3
       have ga4 : w6.cell? ⟨w.heap.size, 4, none⟩ = some (u64v n) := (X6.get 0 rfl).cell 4
       replace X6 := hide X6
       clear o6 hb6 tk4 _t)
    | (go_at_call 9; have _t := tk5; refine (unhide hO2 _ _ (unhide X6).bl ((unhide X6).rd 1 rfl)).mono ?_; rintro e w7 ⟨A7, c7, rfl, o7, hb7⟩
       have X7 : Fx w w7 [(w.heap.size, 27, rgC s n)] [] [(.slice A2 mx c2, Zx), (.slice A3 my c3, Zy), (.slice A6 ma c6, a), (.slice A7 mb c7, b)] := ((unhide X6).call hb7).addZ (Bs.of_own0 o7)
       replace X7 := hide X7
       clear o7 hb7 tk5 _t)
    | (go_at_call 12; have _t := tk6; refine (unhide hQ3 _ _ (unhide X7).bl ((unhide X7).rd 2 rfl)).mono ?_; rintro e wz ⟨rfl, rfl⟩
       clear tk6 _t)
    | (go_at_call 12; refine (unhide hQ4 _ _ (unhide X7).bl ((unhide X7).rd 3 rfl)).mono ?_; rintro e wz ⟨rfl, rfl⟩)
    | fail)
  go_ret
  exact ⟨rfl, (unhide X7).bl⟩
theorem ring_law (s : St) (n : Nx) (va vb : Value) (a b : List UInt8) (w : World) (ht : Tab w) (h : Bs 0 w.heap.size w va a) (h' : Bs 0 w.heap.size w vb b) :
    Calls Tryd.prog 5 #[rgV s n, va, vb] w fun e w' => e = .returned (.bool true) ∧ Below w.heap.size w w' := by
  by_cases g1 : 100 < a.length
  · exact ring_gate0 s n va vb a b w ht h h' g1
  · by_cases g2 : 100 < b.length
    · exact ring_gate1 s n va vb a b w ht h h' (by omega) g2
    · by_cases g3 : 4611686018427387904 < n64 n
      · exact ring_gate2 s n va vb a b w ht h h' (by omega) (by omega) g3
      · exact ring_main s n va vb a b w ht h h' (by omega) (by omega) (by omega)
end Go.Proofs.YthkccpemgmpadaaDoor
