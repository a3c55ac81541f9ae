import Derived.Test.YtlgahaidnpgnaaaDoorL8
namespace Go.Proofs.YtlgahaidnpgnaaaDoor
open Go.RowKit

theorem sameS_comm (s t : St) : sameS s t = sameS t s := by
  rw [Bool.eq_iff_iff, sameS_iff, sameS_iff]
  exact ⟨Eq.symm, Eq.symm⟩
set_option maxHeartbeats 1000000 in
theorem tag_gate_a (s tg : St) (n : Nx) (va vb : Value) (a b : List UInt8) (w : World) (ht : Tab w) (h : Bs 0 w.heap.size w va a) (h' : Bs 0 w.heap.size w vb b) (hg : 200 < a.length) :
    Calls Tryd.prog 5 #[rgV s n, va, vb, stV tg] w fun e w' => e = .returned (.bool true) ∧ Below w.heap.size w w' := by
  obtain ⟨A, c, rfl⟩ := h.form
  obtain ⟨A', c', rfl⟩ := h'.form
  have X0 : Fx w ((w.alloc (.cells (rgC s n) 27)).alloc (.cells (stC tg) 24)) [(w.heap.size, 27, rgC s n), (w.heap.size + 1, 24, stC tg)] [] [] := ((Fx.nil w).newB w.heap.size rfl (rgC s n) 27).newB (w.heap.size + 1) (by simp) (stC tg) 24
  have hl := fun W (hb : Below w.heap.size w W) => live_any W (ht.below hb (Nat.le_refl _))
  replace X0 := hide X0; replace hl := hide hl
  have k1 : (200 : Int) < (a.length : Int) := by omega
  clear hg h h' ht
  go_enter Tryd.func5, Tryd.ntmps5
  go_upto_region 1 with (fail)
  generalize hW : World.alloc (World.alloc w _) _ = W at *
  clear hW
  go_wp2_with (first
    | (go_at_call 9; refine (unhide hl _ (unhide X0).bl).mono ?_; rintro e w1 ⟨rfl, hb1⟩
       have X1 : Fx w w1 [(w.heap.size, 27, rgC s n), (w.heap.size + 1, 24, stC tg)] [] [] := (unhide X0).call hb1
       replace X1 := hide X1)
    | fail)
  go_ret
  exact ⟨rfl, (unhide X1).bl⟩
set_option maxHeartbeats 1000000 in
theorem tag_gate_b (s tg : St) (n : Nx) (va vb : Value) (a b : List UInt8) (w : World) (ht : Tab w) (h : Bs 0 w.heap.size w va a) (h' : Bs 0 w.heap.size w vb b) (hg1 : a.length ≤ 200) (hg : 6 < b.length) :
    Calls Tryd.prog 5 #[rgV s n, va, vb, stV tg] w fun e w' => e = .returned (.bool true) ∧ Below w.heap.size w w' := by
  obtain ⟨A, c, rfl⟩ := h.form
  obtain ⟨A', c', rfl⟩ := h'.form
  have X0 : Fx w ((w.alloc (.cells (rgC s n) 27)).alloc (.cells (stC tg) 24)) [(w.heap.size, 27, rgC s n), (w.heap.size + 1, 24, stC tg)] [] [] := ((Fx.nil w).newB w.heap.size rfl (rgC s n) 27).newB (w.heap.size + 1) (by simp) (stC tg) 24
  have hl := fun W (hb : Below w.heap.size w W) => live_any W (ht.below hb (Nat.le_refl _))
  replace X0 := hide X0; replace hl := hide hl
  have k1 : ¬ (200 : Int) < (a.length : Int) := by omega
  have k2 : (6 : Int) < (b.length : Int) := by omega
  clear hg hg1 h h' ht
  go_enter Tryd.func5, Tryd.ntmps5
  go_upto_region 1 with (fail)
  generalize hW : World.alloc (World.alloc w _) _ = W at *
  clear hW
  go_wp2_with (first
    | (go_at_call 9; refine (unhide hl _ (unhide X0).bl).mono ?_; rintro e w1 ⟨rfl, hb1⟩
       have X1 : Fx w w1 [(w.heap.size, 27, rgC s n), (w.heap.size + 1, 24, stC tg)] [] [] := (unhide X0).call hb1
       replace X1 := hide X1)
    | fail)
  go_ret
  exact ⟨rfl, (unhide X1).bl⟩
set_option maxHeartbeats 1000000 in
theorem tag_full (s tg : St) (n : Nx) (va vb : Value) (a b : List UInt8) (w : World) (ht : Tab w) (h : Bs 0 w.heap.size w va a) (h' : Bs 0 w.heap.size w vb b) (hg1 : a.length ≤ 200) (hg : b.length ≤ 6) (hn : n = 18446744073709551615#64) :
    Calls Tryd.prog 5 #[rgV s n, va, vb, stV tg] w fun e w' => e = .returned (.bool true) ∧ Below w.heap.size w w' := by
  obtain ⟨A, c, rfl⟩ := h.form
  obtain ⟨A', c', rfl⟩ := h'.form
  have X0 : Fx w ((w.alloc (.cells (rgC s n) 27)).alloc (.cells (stC tg) 24)) [(w.heap.size, 27, rgC s n), (w.heap.size + 1, 24, stC tg)] [] [] := ((Fx.nil w).newB w.heap.size rfl (rgC s n) 27).newB (w.heap.size + 1) (by simp) (stC tg) 24
  have hl := fun W (hb : Below w.heap.size w W) => live_any W (ht.below hb (Nat.le_refl _))
  have hS := fun W (hb : Below w.heap.size w W) => Seal_fullE 0 s n (.slice A a.length c) a W (h.to hb) (by omega) hn
  replace hS := hide hS
  replace X0 := hide X0; replace hl := hide hl
  have k1 : ¬ (200 : Int) < (a.length : Int) := by omega
  have k2 : ¬ (6 : Int) < (b.length : Int) := by omega
  clear hg hg1 hn h h' ht
  go_enter Tryd.func5, Tryd.ntmps5
  go_upto_region 1 with (fail)
  generalize hW : World.alloc (World.alloc w _) _ = W at *
  clear hW
  go_wp2_with (first
    | (go_at_call 9; refine (unhide hl _ (unhide X0).bl).mono ?_; rintro e w1 ⟨rfl, hb1⟩
       have X1 : Fx w w1 [(w.heap.size, 27, rgC s n), (w.heap.size + 1, 24, stC tg)] [] [] := (unhide X0).call hb1
       have p0 : w1.cell? ⟨w.heap.size, 0, none⟩ = some (u32v s.a) := (X1.get 0 rfl).cell 0
       have p1 : w1.cell? ⟨w.heap.size, 1, none⟩ = some (u32v s.b) := (X1.get 0 rfl).cell 1
       have p2 : w1.cell? ⟨w.heap.size, 2, none⟩ = some (u32v s.c) := (X1.get 0 rfl).cell 2
       have p3 : w1.cell? ⟨w.heap.size, 3, none⟩ = some (u32v s.d) := (X1.get 0 rfl).cell 3
       have p4 : w1.cell? ⟨w.heap.size, 4, none⟩ = some (u64v n) := (X1.get 0 rfl).cell 4
       replace X1 := hide X1)
    | (go_at_call 10; refine (unhide hS _ (unhide X1).bl).mono ?_; rintro e w2 ⟨rfl, hb2⟩
       have b2 : Below w.heap.size w w2 := bl_call (unhide X1).bl hb2
       replace b2 := hide b2)
    | fail)
  go_ret
  exact ⟨rfl, bl_alloc (bl_alloc (unhide b2) _) _⟩
section
attribute [local go_sem] guard24
set_option maxHeartbeats 2000000 in
theorem tag_true (s tg : St) (n : Nx) (va vb : Value) (a b : List UInt8) (w : World) (ht : Tab w) (h : Bs 0 w.heap.size w va a) (h' : Bs 0 w.heap.size w vb b) (hg1 : a.length ≤ 200) (hg2 : b.length ≤ 6) (hn : n ≠ 18446744073709551615#64) (hz : sameS (tagF s n (hidF s n a)) tg = true) :
    Calls Tryd.prog 5 #[rgV s n, va, vb, stV tg] w fun e w' => e = .returned (.bool true) ∧ Below w.heap.size w w' := by
  have hl := fun W (hb : Below w.heap.size w W) => live_any W (ht.below hb (Nat.le_refl _))
  have hS := fun W (hb : Below w.heap.size w W) => Seal_good s n va a W (ht.below hb (Nat.le_refl _)) (h.to hb) (by omega) hn
  have hHl := hid_len s n a
  have hO := fun v W (hb : Below w.heap.size w W) (h2 : Bs 0 W.heap.size W v (hidF s n a)) => Open_any s n v (hidF s n a) tg W (ht.below hb (Nat.le_refl _)) h2 (by omega)
  have hT1 := fun W (hb : Below w.heap.size w W) => Tag_good s n va a W (ht.below hb (Nat.le_refl _)) (h.to hb) (by omega)
  have hT2 := fun W (hb : Below w.heap.size w W) => Tag_good s n vb b W (ht.below hb (Nat.le_refl _)) (h'.to hb) (by omega)
  have hE2 : a.length ≤ 6 → ∀ W, (binOp .eql 24 (stV (tagF s n a)) (stV (tagF s n b))).run Tryd.prog W = .ok (.bool (decide (a = b))) W := fun h6 W => by
    rw [eql_st]
    have : sameS (tagF s n a) (tagF s n b) = decide (a = b) := by rw [Bool.eq_iff_iff, sameS_iff, decide_eq_true_iff]; exact tag_short h6 hg2
    rw [this]
  have hQ := fun W (hb : Below w.heap.size w W) => same_any _ _ _ _ va vb a b W (h.to hb) (h'.to hb)
  rw [hz] at hO
  simp only [if_true] at hO
  have hE1 : ∀ W, (binOp .eql 24 (stV tg) (stV (tagF s n (hidF s n a)))).run Tryd.prog W = .ok (.bool true) W := fun W => by rw [eql_st, sameS_comm, hz]
  rw [hHl] at hO
  generalize tagF s n (hidF s n a) = T at *
  generalize hidF s n a = H at *
  generalize tagF s n a = Ta at *
  generalize tagF s n b = Tb at *
  generalize decide (a = b) = z2 at *
  obtain ⟨A, c, rfl⟩ := h.form
  obtain ⟨A', c', rfl⟩ := h'.form
  have X0 : Fx w ((w.alloc (.cells (rgC s n) 27)).alloc (.cells (stC tg) 24)) [(w.heap.size, 27, rgC s n), (w.heap.size + 1, 24, stC tg)] [] [] := ((Fx.nil w).newB w.heap.size rfl (rgC s n) 27).newB (w.heap.size + 1) (by simp) (stC tg) 24
  have k1 : ¬ (200 : Int) < (a.length : Int) := by omega
  have k2 : ¬ (6 : Int) < (b.length : Int) := by omega
  generalize a.length = m at *
  generalize b.length = mb at *
  replace X0 := hide X0
  replace hl := hide hl
  replace hS := hide hS
  replace hHl := hide hHl
  replace hO := hide hO
  replace hT1 := hide hT1
  replace hT2 := hide hT2
  replace hE2 := hide hE2
  replace hQ := hide hQ
  clear h h' ht hg1 hg2 hn hz
  go_enter Tryd.func5, Tryd.ntmps5
  go_upto_region 1 with (fail)
  generalize hW : World.alloc (World.alloc w _) _ = W at *
  clear hW
  go_upto_region 10 with (first
    | (go_at_call 9; refine (unhide hl _ (unhide X0).bl).mono ?_; rintro e w1 ⟨rfl, hb1⟩
       have X1 : Fx w w1 [(w.heap.size, 27, rgC s n), (w.heap.size + 1, 24, stC tg)] [] [] := (unhide X0).call hb1
       have p0 : w1.cell? ⟨w.heap.size, 0, none⟩ = some (u32v s.a) := (X1.get 0 rfl).cell 0
       have p1 : w1.cell? ⟨w.heap.size, 1, none⟩ = some (u32v s.b) := (X1.get 0 rfl).cell 1
       have p2 : w1.cell? ⟨w.heap.size, 2, none⟩ = some (u32v s.c) := (X1.get 0 rfl).cell 2
       have p3 : w1.cell? ⟨w.heap.size, 3, none⟩ = some (u32v s.d) := (X1.get 0 rfl).cell 3
       have p4 : w1.cell? ⟨w.heap.size, 4, none⟩ = some (u64v n) := (X1.get 0 rfl).cell 4
       have g0 : w1.cell? ⟨w.heap.size + 1, 0, none⟩ = some (u32v tg.a) := (X1.get 1 rfl).cell 0
       have g1 : w1.cell? ⟨w.heap.size + 1, 1, none⟩ = some (u32v tg.b) := (X1.get 1 rfl).cell 1
       have g2 : w1.cell? ⟨w.heap.size + 1, 2, none⟩ = some (u32v tg.c) := (X1.get 1 rfl).cell 2
       have g3 : w1.cell? ⟨w.heap.size + 1, 3, none⟩ = some (u32v tg.d) := (X1.get 1 rfl).cell 3
       replace X1 := hide X1
       clear hb1)
    | (go_at_call 10; refine (unhide hS _ (unhide X1).bl).mono ?_; rintro e w2 ⟨A2, c2, rfl, o2, hb2⟩
       have X2' : Fx w w2 [(w.heap.size, 27, rgC s n), (w.heap.size + 1, 24, stC tg)] [] [(.slice A2 m c2, H)] := Fx.addZ ((unhide X1).call hb2) (Bs.of_own0 o2)
       have X2 : Fx w ((w2.alloc (.cells (bxC n (.slice A2 m c2) T) 30)).alloc (.cells (rgC s (n + 1#64)) 27)) [(w.heap.size, 27, rgC s n), (w.heap.size + 1, 24, stC tg), (w2.heap.size, 30, bxC n (.slice A2 m c2) T)] [] [(.slice A2 m c2, H)] := (X2'.newB w2.heap.size rfl (bxC n (.slice A2 m c2) T) 30).alloc (.cells (rgC s (n + 1#64)) 27)
       have l2 : w.heap.size + 1 < w2.heap.size := (X2'.get 1 rfl).lt
       have l2' : w.heap.size < w2.heap.size := (X2'.get 0 rfl).lt
       have q0 : w2.cell? ⟨w.heap.size, 0, none⟩ = some (u32v s.a) := (X2'.get 0 rfl).cell 0
       have q1 : w2.cell? ⟨w.heap.size, 1, none⟩ = some (u32v s.b) := (X2'.get 0 rfl).cell 1
       have q2 : w2.cell? ⟨w.heap.size, 2, none⟩ = some (u32v s.c) := (X2'.get 0 rfl).cell 2
       have q3 : w2.cell? ⟨w.heap.size, 3, none⟩ = some (u32v s.d) := (X2'.get 0 rfl).cell 3
       have q4 : w2.cell? ⟨w.heap.size, 4, none⟩ = some (u64v n) := (X2'.get 0 rfl).cell 4
       have h0 : w2.cell? ⟨w.heap.size + 1, 0, none⟩ = some (u32v tg.a) := (X2'.get 1 rfl).cell 0
       have h1 : w2.cell? ⟨w.heap.size + 1, 1, none⟩ = some (u32v tg.b) := (X2'.get 1 rfl).cell 1
       have h2 : w2.cell? ⟨w.heap.size + 1, 2, none⟩ = some (u32v tg.c) := (X2'.get 1 rfl).cell 2
       have h3 : w2.cell? ⟨w.heap.size + 1, 3, none⟩ = some (u32v tg.d) := (X2'.get 1 rfl).cell 3
       replace X2 := hide X2
       clear o2 hb2 X2')
    | (go_at_call 12; refine (unhide hO _ _ (unhide X2).bl ((unhide X2).rd 0 rfl)).mono ?_; rintro e w3 ⟨⟨A3, c3, rfl, o3⟩, hb3⟩
       have X3 : Fx w w3 [(w.heap.size, 27, rgC s n), (w.heap.size + 1, 24, stC tg), (w2.heap.size, 30, bxC n (.slice A2 m c2) T)] [] [] := Fx.sub ((unhide X2).call hb3) (by simp) (by simp) (by simp)
       have r0 : w3.cell? ⟨w.heap.size, 0, none⟩ = some (u32v s.a) := (X3.get 0 rfl).cell 0
       have r1 : w3.cell? ⟨w.heap.size, 1, none⟩ = some (u32v s.b) := (X3.get 0 rfl).cell 1
       have r2 : w3.cell? ⟨w.heap.size, 2, none⟩ = some (u32v s.c) := (X3.get 0 rfl).cell 2
       have r3 : w3.cell? ⟨w.heap.size, 3, none⟩ = some (u32v s.d) := (X3.get 0 rfl).cell 3
       have r4 : w3.cell? ⟨w.heap.size, 4, none⟩ = some (u64v n) := (X3.get 0 rfl).cell 4
       have i0 : w3.cell? ⟨w.heap.size + 1, 0, none⟩ = some (u32v tg.a) := (X3.get 1 rfl).cell 0
       have i1 : w3.cell? ⟨w.heap.size + 1, 1, none⟩ = some (u32v tg.b) := (X3.get 1 rfl).cell 1
       have i2 : w3.cell? ⟨w.heap.size + 1, 2, none⟩ = some (u32v tg.c) := (X3.get 1 rfl).cell 2
       have i3 : w3.cell? ⟨w.heap.size + 1, 3, none⟩ = some (u32v tg.d) := (X3.get 1 rfl).cell 3
       have j2 : w3.cell? ⟨w2.heap.size, 2, none⟩ = some (u32v T.a) := (X3.get 2 rfl).cell 2
       have j3 : w3.cell? ⟨w2.heap.size, 3, none⟩ = some (u32v T.b) := (X3.get 2 rfl).cell 3
       have j4 : w3.cell? ⟨w2.heap.size, 4, none⟩ = some (u32v T.c) := (X3.get 2 rfl).cell 4
       have j5 : w3.cell? ⟨w2.heap.size, 5, none⟩ = some (u32v T.d) := (X3.get 2 rfl).cell 5
       replace X3 := hide X3
       clear hb3)
    | fail)
  by_cases h6 : m ≤ 6
  · have k6 : ¬ (6 : Int) < (m : Int) := by omega
    have hE2' := unhide hE2 h6
    clear h6
    have tk0 : True := trivial
    go_upto_region 14 with (first
      | (go_at_call 20; have _t := tk0; refine (unhide hT1 _ (unhide X3).bl).mono ?_; rintro e w4 ⟨rfl, hb4⟩
         have X4' : Fx w w4 [(w.heap.size, 27, rgC s n)] [] [] := Fx.sub ((unhide X3).call hb4) (by simp) (by simp) (by simp)
         have X4 : Fx w (w4.alloc (.cells (stC Ta) 24)) [(w.heap.size, 27, rgC s n), (w4.heap.size, 24, stC Ta)] [] [] := X4'.newB w4.heap.size rfl (stC Ta) 24
         have l4 : w.heap.size < w4.heap.size := (X4'.get 0 rfl).lt
         have u0 : w4.cell? ⟨w.heap.size, 0, none⟩ = some (u32v s.a) := (X4'.get 0 rfl).cell 0
         have u1 : w4.cell? ⟨w.heap.size, 1, none⟩ = some (u32v s.b) := (X4'.get 0 rfl).cell 1
         have u2 : w4.cell? ⟨w.heap.size, 2, none⟩ = some (u32v s.c) := (X4'.get 0 rfl).cell 2
         have u3 : w4.cell? ⟨w.heap.size, 3, none⟩ = some (u32v s.d) := (X4'.get 0 rfl).cell 3
         have u4 : w4.cell? ⟨w.heap.size, 4, none⟩ = some (u64v n) := (X4'.get 0 rfl).cell 4
         replace X4 := hide X4
         clear hb4 X4' tk0 _t)
      | (go_at_call 20; refine (unhide hT2 _ (unhide X4).bl).mono ?_; rintro e w5 ⟨rfl, hb5⟩
         have X5' : Fx w w5 [(w.heap.size, 27, rgC s n), (w4.heap.size, 24, stC Ta)] [] [] := (unhide X4).call hb5
         have l5 : w4.heap.size < w5.heap.size := (X5'.get 1 rfl).lt
         have X5 : Fx w (w5.alloc (.cells (stC Tb) 24)) [(w.heap.size, 27, rgC s n), (w4.heap.size, 24, stC Ta), (w5.heap.size, 24, stC Tb)] [] [] := X5'.newB w5.heap.size rfl (stC Tb) 24
         replace X5 := hide X5
         clear hb5 X5')
      | fail)
    generalize w4.heap.size = g4 at *
    generalize w5.heap.size = g5 at *
    generalize World.alloc w5 _ = V at *
    have d4 : g4 < V.heap.size := ((unhide X5).get 1 rfl).lt
    have d5 : g5 < V.heap.size := ((unhide X5).get 2 rfl).lt
    have a0 : V.cell? ⟨g4, 0, none⟩ = some (u32v Ta.a) := ((unhide X5).get 1 rfl).cell 0
    have a1 : V.cell? ⟨g4, 1, none⟩ = some (u32v Ta.b) := ((unhide X5).get 1 rfl).cell 1
    have a2 : V.cell? ⟨g4, 2, none⟩ = some (u32v Ta.c) := ((unhide X5).get 1 rfl).cell 2
    have a3 : V.cell? ⟨g4, 3, none⟩ = some (u32v Ta.d) := ((unhide X5).get 1 rfl).cell 3
    have b0 : V.cell? ⟨g5, 0, none⟩ = some (u32v Tb.a) := ((unhide X5).get 2 rfl).cell 0
    have b1 : V.cell? ⟨g5, 1, none⟩ = some (u32v Tb.b) := ((unhide X5).get 2 rfl).cell 1
    have b2 : V.cell? ⟨g5, 2, none⟩ = some (u32v Tb.c) := ((unhide X5).get 2 rfl).cell 2
    have b3 : V.cell? ⟨g5, 3, none⟩ = some (u32v Tb.d) := ((unhide X5).get 2 rfl).cell 3
    go_quiet ((go_at_call 23; refine Calls.quiet_of_same ((unhide hQ _ ((unhide X5).drewN _).bl).mono fun e w' h => ⟨h.1, h.2.symm⟩)))
    go_wp2_with (fail)
    go_ret
    exact ⟨by simp, ((unhide X5).drewN _).bl⟩
  · have k6 : (6 : Int) < (m : Int) := by omega
    clear h6
    go_wp2_with (fail)
    go_ret
    exact ⟨rfl, (unhide X3).bl⟩
end
section
attribute [local go_sem] guard24
set_option maxHeartbeats 2000000 in
theorem tag_false (s tg : St) (n : Nx) (va vb : Value) (a b : List UInt8) (w : World) (ht : Tab w) (h : Bs 0 w.heap.size w va a) (h' : Bs 0 w.heap.size w vb b) (hg1 : a.length ≤ 200) (hg2 : b.length ≤ 6) (hn : n ≠ 18446744073709551615#64) (hz : sameS (tagF s n (hidF s n a)) tg = false) :
    Calls Tryd.prog 5 #[rgV s n, va, vb, stV tg] w fun e w' => e = .returned (.bool true) ∧ Below w.heap.size w w' := by
  have hl := fun W (hb : Below w.heap.size w W) => live_any W (ht.below hb (Nat.le_refl _))
  have hS := fun W (hb : Below w.heap.size w W) => Seal_good s n va a W (ht.below hb (Nat.le_refl _)) (h.to hb) (by omega) hn
  have hHl := hid_len s n a
  have hO := fun v W (hb : Below w.heap.size w W) (h2 : Bs 0 W.heap.size W v (hidF s n a)) => Open_any s n v (hidF s n a) tg W (ht.below hb (Nat.le_refl _)) h2 (by omega)
  have hT1 := fun W (hb : Below w.heap.size w W) => Tag_good s n va a W (ht.below hb (Nat.le_refl _)) (h.to hb) (by omega)
  have hT2 := fun W (hb : Below w.heap.size w W) => Tag_good s n vb b W (ht.below hb (Nat.le_refl _)) (h'.to hb) (by omega)
  have hE2 : a.length ≤ 6 → ∀ W, (binOp .eql 24 (stV (tagF s n a)) (stV (tagF s n b))).run Tryd.prog W = .ok (.bool (decide (a = b))) W := fun h6 W => by
    rw [eql_st]
    have : sameS (tagF s n a) (tagF s n b) = decide (a = b) := by rw [Bool.eq_iff_iff, sameS_iff, decide_eq_true_iff]; exact tag_short h6 hg2
    rw [this]
  have hQ := fun W (hb : Below w.heap.size w W) => same_any _ _ _ _ va vb a b W (h.to hb) (h'.to hb)
  rw [hz] at hO
  simp only [Bool.false_eq_true, if_false] at hO
  have hE1 : ∀ W, (binOp .eql 24 (stV tg) (stV (tagF s n (hidF s n a)))).run Tryd.prog W = .ok (.bool false) W := fun W => by rw [eql_st, sameS_comm, hz]

  generalize tagF s n (hidF s n a) = T at *
  generalize hidF s n a = H at *
  generalize tagF s n a = Ta at *
  generalize tagF s n b = Tb at *
  generalize decide (a = b) = z2 at *
  obtain ⟨A, c, rfl⟩ := h.form
  obtain ⟨A', c', rfl⟩ := h'.form
  have X0 : Fx w ((w.alloc (.cells (rgC s n) 27)).alloc (.cells (stC tg) 24)) [(w.heap.size, 27, rgC s n), (w.heap.size + 1, 24, stC tg)] [] [] := ((Fx.nil w).newB w.heap.size rfl (rgC s n) 27).newB (w.heap.size + 1) (by simp) (stC tg) 24
  have k1 : ¬ (200 : Int) < (a.length : Int) := by omega
  have k2 : ¬ (6 : Int) < (b.length : Int) := by omega
  generalize a.length = m at *
  generalize b.length = mb at *
  replace X0 := hide X0
  replace hl := hide hl
  replace hS := hide hS
  replace hHl := hide hHl
  replace hO := hide hO
  replace hT1 := hide hT1
  replace hT2 := hide hT2
  replace hE2 := hide hE2
  replace hQ := hide hQ
  clear h h' ht hg1 hg2 hn hz
  go_enter Tryd.func5, Tryd.ntmps5
  go_upto_region 1 with (fail)
  generalize hW : World.alloc (World.alloc w _) _ = W at *
  clear hW
  go_upto_region 10 with (first
    | (go_at_call 9; refine (unhide hl _ (unhide X0).bl).mono ?_; rintro e w1 ⟨rfl, hb1⟩
       have X1 : Fx w w1 [(w.heap.size, 27, rgC s n), (w.heap.size + 1, 24, stC tg)] [] [] := (unhide X0).call hb1
       have p0 : w1.cell? ⟨w.heap.size, 0, none⟩ = some (u32v s.a) := (X1.get 0 rfl).cell 0
       have p1 : w1.cell? ⟨w.heap.size, 1, none⟩ = some (u32v s.b) := (X1.get 0 rfl).cell 1
       have p2 : w1.cell? ⟨w.heap.size, 2, none⟩ = some (u32v s.c) := (X1.get 0 rfl).cell 2
       have p3 : w1.cell? ⟨w.heap.size, 3, none⟩ = some (u32v s.d) := (X1.get 0 rfl).cell 3
       have p4 : w1.cell? ⟨w.heap.size, 4, none⟩ = some (u64v n) := (X1.get 0 rfl).cell 4
       have g0 : w1.cell? ⟨w.heap.size + 1, 0, none⟩ = some (u32v tg.a) := (X1.get 1 rfl).cell 0
       have g1 : w1.cell? ⟨w.heap.size + 1, 1, none⟩ = some (u32v tg.b) := (X1.get 1 rfl).cell 1
       have g2 : w1.cell? ⟨w.heap.size + 1, 2, none⟩ = some (u32v tg.c) := (X1.get 1 rfl).cell 2
       have g3 : w1.cell? ⟨w.heap.size + 1, 3, none⟩ = some (u32v tg.d) := (X1.get 1 rfl).cell 3
       replace X1 := hide X1
       clear hb1)
    | (go_at_call 10; refine (unhide hS _ (unhide X1).bl).mono ?_; rintro e w2 ⟨A2, c2, rfl, o2, hb2⟩
       have X2' : Fx w w2 [(w.heap.size, 27, rgC s n), (w.heap.size + 1, 24, stC tg)] [] [(.slice A2 m c2, H)] := Fx.addZ ((unhide X1).call hb2) (Bs.of_own0 o2)
       have X2 : Fx w ((w2.alloc (.cells (bxC n (.slice A2 m c2) T) 30)).alloc (.cells (rgC s (n + 1#64)) 27)) [(w.heap.size, 27, rgC s n), (w.heap.size + 1, 24, stC tg), (w2.heap.size, 30, bxC n (.slice A2 m c2) T)] [] [(.slice A2 m c2, H)] := (X2'.newB w2.heap.size rfl (bxC n (.slice A2 m c2) T) 30).alloc (.cells (rgC s (n + 1#64)) 27)
       have l2 : w.heap.size + 1 < w2.heap.size := (X2'.get 1 rfl).lt
       have l2' : w.heap.size < w2.heap.size := (X2'.get 0 rfl).lt
       have q0 : w2.cell? ⟨w.heap.size, 0, none⟩ = some (u32v s.a) := (X2'.get 0 rfl).cell 0
       have q1 : w2.cell? ⟨w.heap.size, 1, none⟩ = some (u32v s.b) := (X2'.get 0 rfl).cell 1
       have q2 : w2.cell? ⟨w.heap.size, 2, none⟩ = some (u32v s.c) := (X2'.get 0 rfl).cell 2
       have q3 : w2.cell? ⟨w.heap.size, 3, none⟩ = some (u32v s.d) := (X2'.get 0 rfl).cell 3
       have q4 : w2.cell? ⟨w.heap.size, 4, none⟩ = some (u64v n) := (X2'.get 0 rfl).cell 4
       have h0 : w2.cell? ⟨w.heap.size + 1, 0, none⟩ = some (u32v tg.a) := (X2'.get 1 rfl).cell 0
       have h1 : w2.cell? ⟨w.heap.size + 1, 1, none⟩ = some (u32v tg.b) := (X2'.get 1 rfl).cell 1
       have h2 : w2.cell? ⟨w.heap.size + 1, 2, none⟩ = some (u32v tg.c) := (X2'.get 1 rfl).cell 2
       have h3 : w2.cell? ⟨w.heap.size + 1, 3, none⟩ = some (u32v tg.d) := (X2'.get 1 rfl).cell 3
       replace X2 := hide X2
       clear o2 hb2 X2')
    | (go_at_call 12; refine (unhide hO _ _ (unhide X2).bl ((unhide X2).rd 0 rfl)).mono ?_; rintro e w3 ⟨rfl, hb3⟩
       have X3 : Fx w w3 [(w.heap.size, 27, rgC s n), (w.heap.size + 1, 24, stC tg), (w2.heap.size, 30, bxC n (.slice A2 m c2) T)] [] [] := Fx.sub ((unhide X2).call hb3) (by simp) (by simp) (by simp)
       have r0 : w3.cell? ⟨w.heap.size, 0, none⟩ = some (u32v s.a) := (X3.get 0 rfl).cell 0
       have r1 : w3.cell? ⟨w.heap.size, 1, none⟩ = some (u32v s.b) := (X3.get 0 rfl).cell 1
       have r2 : w3.cell? ⟨w.heap.size, 2, none⟩ = some (u32v s.c) := (X3.get 0 rfl).cell 2
       have r3 : w3.cell? ⟨w.heap.size, 3, none⟩ = some (u32v s.d) := (X3.get 0 rfl).cell 3
       have r4 : w3.cell? ⟨w.heap.size, 4, none⟩ = some (u64v n) := (X3.get 0 rfl).cell 4
       have i0 : w3.cell? ⟨w.heap.size + 1, 0, none⟩ = some (u32v tg.a) := (X3.get 1 rfl).cell 0
       have i1 : w3.cell? ⟨w.heap.size + 1, 1, none⟩ = some (u32v tg.b) := (X3.get 1 rfl).cell 1
       have i2 : w3.cell? ⟨w.heap.size + 1, 2, none⟩ = some (u32v tg.c) := (X3.get 1 rfl).cell 2
       have i3 : w3.cell? ⟨w.heap.size + 1, 3, none⟩ = some (u32v tg.d) := (X3.get 1 rfl).cell 3
       have j2 : w3.cell? ⟨w2.heap.size, 2, none⟩ = some (u32v T.a) := (X3.get 2 rfl).cell 2
       have j3 : w3.cell? ⟨w2.heap.size, 3, none⟩ = some (u32v T.b) := (X3.get 2 rfl).cell 3
       have j4 : w3.cell? ⟨w2.heap.size, 4, none⟩ = some (u32v T.c) := (X3.get 2 rfl).cell 4
       have j5 : w3.cell? ⟨w2.heap.size, 5, none⟩ = some (u32v T.d) := (X3.get 2 rfl).cell 5
       replace X3 := hide X3
       clear hb3)
    | fail)
  by_cases h6 : m ≤ 6
  · have k6 : ¬ (6 : Int) < (m : Int) := by omega
    have hE2' := unhide hE2 h6
    clear h6
    have tk0 : True := trivial
    go_upto_region 14 with (first
      | (go_at_call 20; have _t := tk0; refine (unhide hT1 _ (unhide X3).bl).mono ?_; rintro e w4 ⟨rfl, hb4⟩
         have X4' : Fx w w4 [(w.heap.size, 27, rgC s n)] [] [] := Fx.sub ((unhide X3).call hb4) (by simp) (by simp) (by simp)
         have X4 : Fx w (w4.alloc (.cells (stC Ta) 24)) [(w.heap.size, 27, rgC s n), (w4.heap.size, 24, stC Ta)] [] [] := X4'.newB w4.heap.size rfl (stC Ta) 24
         have l4 : w.heap.size < w4.heap.size := (X4'.get 0 rfl).lt
         have u0 : w4.cell? ⟨w.heap.size, 0, none⟩ = some (u32v s.a) := (X4'.get 0 rfl).cell 0
         have u1 : w4.cell? ⟨w.heap.size, 1, none⟩ = some (u32v s.b) := (X4'.get 0 rfl).cell 1
         have u2 : w4.cell? ⟨w.heap.size, 2, none⟩ = some (u32v s.c) := (X4'.get 0 rfl).cell 2
         have u3 : w4.cell? ⟨w.heap.size, 3, none⟩ = some (u32v s.d) := (X4'.get 0 rfl).cell 3
         have u4 : w4.cell? ⟨w.heap.size, 4, none⟩ = some (u64v n) := (X4'.get 0 rfl).cell 4
         replace X4 := hide X4
         clear hb4 X4' tk0 _t)
      | (go_at_call 20; refine (unhide hT2 _ (unhide X4).bl).mono ?_; rintro e w5 ⟨rfl, hb5⟩
         have X5' : Fx w w5 [(w.heap.size, 27, rgC s n), (w4.heap.size, 24, stC Ta)] [] [] := (unhide X4).call hb5
         have l5 : w4.heap.size < w5.heap.size := (X5'.get 1 rfl).lt
         have X5 : Fx w (w5.alloc (.cells (stC Tb) 24)) [(w.heap.size, 27, rgC s n), (w4.heap.size, 24, stC Ta), (w5.heap.size, 24, stC Tb)] [] [] := X5'.newB w5.heap.size rfl (stC Tb) 24
         replace X5 := hide X5
         clear hb5 X5')
      | fail)
    generalize w4.heap.size = g4 at *
    generalize w5.heap.size = g5 at *
    generalize World.alloc w5 _ = V at *
    have d4 : g4 < V.heap.size := ((unhide X5).get 1 rfl).lt
    have d5 : g5 < V.heap.size := ((unhide X5).get 2 rfl).lt
    have a0 : V.cell? ⟨g4, 0, none⟩ = some (u32v Ta.a) := ((unhide X5).get 1 rfl).cell 0
    have a1 : V.cell? ⟨g4, 1, none⟩ = some (u32v Ta.b) := ((unhide X5).get 1 rfl).cell 1
    have a2 : V.cell? ⟨g4, 2, none⟩ = some (u32v Ta.c) := ((unhide X5).get 1 rfl).cell 2
    have a3 : V.cell? ⟨g4, 3, none⟩ = some (u32v Ta.d) := ((unhide X5).get 1 rfl).cell 3
    have b0 : V.cell? ⟨g5, 0, none⟩ = some (u32v Tb.a) := ((unhide X5).get 2 rfl).cell 0
    have b1 : V.cell? ⟨g5, 1, none⟩ = some (u32v Tb.b) := ((unhide X5).get 2 rfl).cell 1
    have b2 : V.cell? ⟨g5, 2, none⟩ = some (u32v Tb.c) := ((unhide X5).get 2 rfl).cell 2
    have b3 : V.cell? ⟨g5, 3, none⟩ = some (u32v Tb.d) := ((unhide X5).get 2 rfl).cell 3
    go_quiet ((go_at_call 23; refine Calls.quiet_of_same ((unhide hQ _ ((unhide X5).drewN _).bl).mono fun e w' h => ⟨h.1, h.2.symm⟩)))
    go_wp2_with (fail)
    go_ret
    exact ⟨by simp, ((unhide X5).drewN _).bl⟩
  · have k6 : (6 : Int) < (m : Int) := by omega
    clear h6
    go_wp2_with (fail)
    go_ret
    exact ⟨rfl, (unhide X3).bl⟩
end
theorem tag_law (s tg : St) (n : Nx) (va vb : Value) (a b : List UInt8) (w : World) (ht : Tab w) (h : Bs 0 w.heap.size w va a) (h' : Bs 0 w.heap.size w vb b) :
    Calls Tryd.prog 5 #[rgV s n, va, vb, stV tg] w fun e w' => e = .returned (.bool true) ∧ Below w.heap.size w w' := by
  by_cases h1 : 200 < a.length
  · exact tag_gate_a s tg n va vb a b w ht h h' h1
  · by_cases h2 : 6 < b.length
    · exact tag_gate_b s tg n va vb a b w ht h h' (by omega) h2
    · by_cases h3 : n = 18446744073709551615#64
      · exact tag_full s tg n va vb a b w ht h h' (by omega) (by omega) h3
      · cases hz : sameS (tagF s n (hidF s n a)) tg with
        | true => exact tag_true s tg n va vb a b w ht h h' (by omega) (by omega) h3 hz
        | false => exact tag_false s tg n va vb a b w ht h h' (by omega) (by omega) h3 hz
end Go.Proofs.YtlgahaidnpgnaaaDoor
