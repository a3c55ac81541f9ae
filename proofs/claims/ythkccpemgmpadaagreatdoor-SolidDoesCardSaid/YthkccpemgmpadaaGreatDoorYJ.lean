import Derived.Test.YthkccpemgmpadaaGreatDoorYI
/- only Z -/
namespace Go.Proofs.YthkccpemgmpadaaGreatDoor
set_option maxRecDepth 100000
open Go.RowKit
section
attribute [local go_sem] guard27
set_option maxHeartbeats 8000000 in
theorem does_short (s : St) (n : Nx) (v vb : Value) (l : List (List UInt8)) (b : List UInt8) (w : World) (ht : Tab w) (h : Bss w.heap.size w v l) (hn : (l.length : Int) ≤ 9223372036854775807) (h' : Bs 0 w.heap.size w vb b) (hf : fewB l = true) (g1 : b.length ≤ 200) :
    Calls Tryz.prog 3 #[rgV s n, v, vb] w fun e w' => e = .returned (.bool true) ∧ Below w.heap.size w w' := by
  have hl := fun W (hb : Below w.heap.size w W) => live_any W (ht.below hb (Nat.le_refl _))
  have hF := fun W (hb : Below w.heap.size w W) => Few_any v l W (h.grow hb) hn
  rw [hf] at hF
  obtain ⟨f1, f2⟩ := few_flat hf
  obtain ⟨Z, Q, s2, n2, er, hQ, hB0, hR0⟩ := build_both s n l (by omega) (by omega)
  have hB := fun W (hb : Below w.heap.size w W) => hB0 v W (ht.below hb (Nat.le_refl _)) (h.grow hb)
  have hR := fun W (hb : Below w.heap.size w W) => hR0 v W (h.grow hb)
  obtain ⟨T, eo, hO0, hP0⟩ := open_both s b (.inl g1)
  have hO := fun W (hb : Below w.heap.size w W) => hO0 vb W (ht.below hb (Nat.le_refl _)) (h'.to hb)
  have hP := fun W (hb : Below w.heap.size w W) => hP0 vb W (h'.to hb)
  obtain ⟨Y, s3, n3, es, hS0, hU0⟩ := seal_both s n b (by omega)
  have hS := fun W (hb : Below w.heap.size w W) => hS0 vb W (ht.below hb (Nat.le_refl _)) (h'.to hb)
  have hU := fun W (hb : Below w.heap.size w W) => hU0 vb W (h'.to hb)
  have hG2 := fun W => eql_ring W s3 n3
  unfold SealOut at hS hU
  generalize Y.length = my at *
  have cv := fun W (hb : Below w.heap.size w W) => conv_v (h'.to hb)
  have hG := fun W => eql_ring W s2 n2
  unfold BuildOut at hB hR
  unfold Ans at hO hP
  simp only [] at hO hP
  generalize hSB : C.strU b = SB at *
  generalize Z.length = mz at *
  generalize hmq : Q.length = mq at *
  generalize T.length = mt at *
  obtain ⟨A, c, rfl, hx⟩ := h
  obtain ⟨A', c', rfl⟩ := h'.form
  have k1 : ¬ (200 : Int) < (b.length : Int) := by omega
  have k3 : ¬ (131080 : Int) < (b.length : Int) := by omega
  have X0 : Fx w (w.alloc (.cells (rgC s n) 27)) [(w.heap.size, 27, rgC s n)] [] [] := (Fx.nil w).newB w.heap.size rfl (rgC s n) 27
  generalize l.length = ml at *
  generalize b.length = mb at *
  replace X0 := hide X0
  replace hl := hide hl
  replace hF := hide hF
  replace hB := hide hB
  replace hR := hide hR
  replace hO := hide hO
  replace hP := hide hP
  replace cv := hide cv
  replace hmq := hide hmq
  replace hQ := hide hQ
  replace hS := hide hS
  replace hU := hide hU
  clear ht hn hf h' hx f1 f2 g1 hSB hB0 hR0 hO0 hP0 hS0 hU0
  have tk0 : True := trivial
  have tk1 : True := trivial
  have tk2 : True := trivial
  go_enter Tryz.func3, Tryz.ntmps3
  go_upto_region 1 with (fail)
  generalize hW : World.alloc w _ = W at *
  clear hW
  go_upto_region 4 with (first
    | (go_at_call 5; refine (unhide hl _ (unhide X0).bl).mono ?_; rintro e w1 ⟨rfl, hb1⟩
       have X1 : Fx w w1 [(w.heap.size, 27, rgC s n)] [] [] := (unhide X0).call hb1
       have lt1 : w.heap.size < w1.heap.size := (X1.get 0 rfl).lt
       have ca0 : w1.cell? ⟨w.heap.size, 0, none⟩ = some (u32v s.a) := (X1.get 0 rfl).cell 0
       have ca1 : w1.cell? ⟨w.heap.size, 1, none⟩ = some (u32v s.b) := (X1.get 0 rfl).cell 1
       have ca2 : w1.cell? ⟨w.heap.size, 2, none⟩ = some (u32v s.c) := (X1.get 0 rfl).cell 2
       have ca3 : w1.cell? ⟨w.heap.size, 3, none⟩ = some (u32v s.d) := (X1.get 0 rfl).cell 3
       have ca4 : w1.cell? ⟨w.heap.size, 4, none⟩ = some (u64v n) := (X1.get 0 rfl).cell 4
       replace X1 := hide X1
       clear hb1)
    | (go_at_call 6; refine (unhide hF _ (unhide X1).bl).mono ?_; rintro e wz ⟨rfl, rfl⟩)
    | fail)
  have x1 : (convert 29 9 (.slice A' mb c')).run Tryz.prog w1 = .ok (.string SB) w1 := unhide cv _ (unhide X1).bl
  go_upto_region 9 with (first
    | (go_at_call 7; refine (unhide hB _ (unhide X1).bl).mono ?_; rintro e w2 ⟨A2, c2, Ap, cp, rfl, o2, op, hb2⟩
       have X2' : Fx w w2 [(w.heap.size, 27, rgC s n)] [] [(.slice A2 mz c2, Z)] := ((unhide X1).call hb2).addZ (Bs.of_own0 o2)
       have bg := bl_alloc (Below.refl w2.heap.size w2) (.cells (rgC s2 n2) 27)
       have P2 := hide ((Pcs.of_own op).mono1.grow bg)
       have X2 : Fx w (w2.alloc (.cells (rgC s2 n2) 27)) [(w.heap.size, 27, rgC s n), (w2.heap.size, 27, rgC s2 n2)] [] [(.slice A2 mz c2, Z)] := X2'.newB w2.heap.size rfl (rgC s2 n2) 27
       have l2_0 : w.heap.size < w2.heap.size := (X2'.get 0 rfl).lt
       have da0 : w2.cell? ⟨w.heap.size, 0, none⟩ = some (u32v s.a) := (X2'.get 0 rfl).cell 0
       have da1 : w2.cell? ⟨w.heap.size, 1, none⟩ = some (u32v s.b) := (X2'.get 0 rfl).cell 1
       have da2 : w2.cell? ⟨w.heap.size, 2, none⟩ = some (u32v s.c) := (X2'.get 0 rfl).cell 2
       have da3 : w2.cell? ⟨w.heap.size, 3, none⟩ = some (u32v s.d) := (X2'.get 0 rfl).cell 3
       have da4 : w2.cell? ⟨w.heap.size, 4, none⟩ = some (u64v n) := (X2'.get 0 rfl).cell 4
       replace X2 := hide X2
       clear o2 op hb2 X2' bg)
    | (go_at_call 8; refine (unhide hR _ (unhide X2).bl).mono ?_; rintro e w3 ⟨A3, c3, Aq, cq, rfl, o3, oq, hb3⟩
       have X3' : Fx w w3 [(w.heap.size, 27, rgC s n), (w2.heap.size, 27, rgC s2 n2)] [] [(.slice A2 mz c2, Z), (.slice A3 mz c3, Z)] := ((unhide X2).call hb3).addZ (Bs.of_own0 o3)
       have bg := bl_alloc (Below.refl w3.heap.size w3) (.cells (rgC s2 n2) 27)
       have P3 := hide (((unhide P2).grow hb3).grow bg)
       have Q3 := hide ((Pcs.of_own oq).mono1.grow bg)
       have X3 : Fx w (w3.alloc (.cells (rgC s2 n2) 27)) [(w.heap.size, 27, rgC s n), (w2.heap.size, 27, rgC s2 n2), (w3.heap.size, 27, rgC s2 n2)] [] [(.slice A2 mz c2, Z), (.slice A3 mz c3, Z)] := X3'.newB w3.heap.size rfl (rgC s2 n2) 27
       have l3_0 : w.heap.size < w3.heap.size := (X3'.get 0 rfl).lt
       have l3_1 : w2.heap.size < w3.heap.size := (X3'.get 1 rfl).lt
       have ea0 : w3.cell? ⟨w.heap.size, 0, none⟩ = some (u32v s.a) := (X3'.get 0 rfl).cell 0
       have ea1 : w3.cell? ⟨w.heap.size, 1, none⟩ = some (u32v s.b) := (X3'.get 0 rfl).cell 1
       have ea2 : w3.cell? ⟨w.heap.size, 2, none⟩ = some (u32v s.c) := (X3'.get 0 rfl).cell 2
       have ea3 : w3.cell? ⟨w.heap.size, 3, none⟩ = some (u32v s.d) := (X3'.get 0 rfl).cell 3
       have ea4 : w3.cell? ⟨w.heap.size, 4, none⟩ = some (u64v n) := (X3'.get 0 rfl).cell 4
       have eb0 : w3.cell? ⟨w2.heap.size, 0, none⟩ = some (u32v s2.a) := (X3'.get 1 rfl).cell 0
       have eb1 : w3.cell? ⟨w2.heap.size, 1, none⟩ = some (u32v s2.b) := (X3'.get 1 rfl).cell 1
       have eb2 : w3.cell? ⟨w2.heap.size, 2, none⟩ = some (u32v s2.c) := (X3'.get 1 rfl).cell 2
       have eb3 : w3.cell? ⟨w2.heap.size, 3, none⟩ = some (u32v s2.d) := (X3'.get 1 rfl).cell 3
       have eb4 : w3.cell? ⟨w2.heap.size, 4, none⟩ = some (u64v n2) := (X3'.get 1 rfl).cell 4
       replace X3 := hide X3
       clear o3 oq hb3 X3' bg)
    | (go_at_call 9; refine (unhide hO _ (unhide X3).bl).mono ?_; rintro e w4 ⟨A4, c4, rfl, o4, hb4⟩
       have X4 : Fx w w4 [(w.heap.size, 27, rgC s n), (w2.heap.size, 27, rgC s2 n2), (w3.heap.size, 27, rgC s2 n2)] [] [(.slice A2 mz c2, Z), (.slice A3 mz c3, Z), (.slice A4 mt c4, T)] := ((unhide X3).call hb4).addZ (Bs.of_own0 o4)
       have P4 := hide ((unhide P3).grow hb4)
       have Q4 := hide ((unhide Q3).grow hb4)
       have l4_0 : w.heap.size < w4.heap.size := (X4.get 0 rfl).lt
       have l4_1 : w2.heap.size < w4.heap.size := (X4.get 1 rfl).lt
       have l4_2 : w3.heap.size < w4.heap.size := (X4.get 2 rfl).lt
       have fa0 : w4.cell? ⟨w.heap.size, 0, none⟩ = some (u32v s.a) := (X4.get 0 rfl).cell 0
       have fa1 : w4.cell? ⟨w.heap.size, 1, none⟩ = some (u32v s.b) := (X4.get 0 rfl).cell 1
       have fa2 : w4.cell? ⟨w.heap.size, 2, none⟩ = some (u32v s.c) := (X4.get 0 rfl).cell 2
       have fa3 : w4.cell? ⟨w.heap.size, 3, none⟩ = some (u32v s.d) := (X4.get 0 rfl).cell 3
       have fa4 : w4.cell? ⟨w.heap.size, 4, none⟩ = some (u64v n) := (X4.get 0 rfl).cell 4
       have fb0 : w4.cell? ⟨w2.heap.size, 0, none⟩ = some (u32v s2.a) := (X4.get 1 rfl).cell 0
       have fb1 : w4.cell? ⟨w2.heap.size, 1, none⟩ = some (u32v s2.b) := (X4.get 1 rfl).cell 1
       have fb2 : w4.cell? ⟨w2.heap.size, 2, none⟩ = some (u32v s2.c) := (X4.get 1 rfl).cell 2
       have fb3 : w4.cell? ⟨w2.heap.size, 3, none⟩ = some (u32v s2.d) := (X4.get 1 rfl).cell 3
       have fb4 : w4.cell? ⟨w2.heap.size, 4, none⟩ = some (u64v n2) := (X4.get 1 rfl).cell 4
       have fc0 : w4.cell? ⟨w3.heap.size, 0, none⟩ = some (u32v s2.a) := (X4.get 2 rfl).cell 0
       have fc1 : w4.cell? ⟨w3.heap.size, 1, none⟩ = some (u32v s2.b) := (X4.get 2 rfl).cell 1
       have fc2 : w4.cell? ⟨w3.heap.size, 2, none⟩ = some (u32v s2.c) := (X4.get 2 rfl).cell 2
       have fc3 : w4.cell? ⟨w3.heap.size, 3, none⟩ = some (u32v s2.d) := (X4.get 2 rfl).cell 3
       have fc4 : w4.cell? ⟨w3.heap.size, 4, none⟩ = some (u64v n2) := (X4.get 2 rfl).cell 4
       replace X4 := hide X4
       clear o4 hb4)
    | (go_at_call 10; refine (unhide hP _ (unhide X4).bl).mono ?_; rintro e w5 ⟨A5, c5, rfl, o5, hb5⟩
       have X5 : Fx w w5 [(w.heap.size, 27, rgC s n), (w2.heap.size, 27, rgC s2 n2), (w3.heap.size, 27, rgC s2 n2)] [] [(.slice A2 mz c2, Z), (.slice A3 mz c3, Z), (.slice A4 mt c4, T), (.slice A5 mt c5, T)] := ((unhide X4).call hb5).addZ (Bs.of_own0 o5)
       have P5 := hide ((unhide P4).grow hb5)
       have Q5 := hide ((unhide Q4).grow hb5)
       have l5_0 : w.heap.size < w5.heap.size := (X5.get 0 rfl).lt
       have l5_1 : w2.heap.size < w5.heap.size := (X5.get 1 rfl).lt
       have l5_2 : w3.heap.size < w5.heap.size := (X5.get 2 rfl).lt
       replace X5 := hide X5
       clear o5 hb5)
    | fail)
  clear X0 X1 X2 X3 X4 P2 P3 P4 Q3 Q4 x1
  go_upto_region 13 with (first
    | (go_at_call 11; have _t := tk0; refine (same_yes _ _ _ _ _ _ _ _ ((unhide X5).rd 0 rfl) ((unhide X5).rd 1 rfl)).mono ?_; rintro e wz ⟨rfl, rfl⟩
       clear tk0 _t)
    | (go_at_call 12; refine (samePcs_any _ _ _ _ (unhide P5) (unhide Q5) (by rw [unhide hmq]; exact unhide hQ)).mono ?_; rintro e w6 ⟨rfl, hb6⟩
       have X6 := (unhide X5).call hb6
       have l6_0 : w.heap.size < w6.heap.size := (X6.get 0 rfl).lt
       have l6_1 : w2.heap.size < w6.heap.size := (X6.get 1 rfl).lt
       have l6_2 : w3.heap.size < w6.heap.size := (X6.get 2 rfl).lt
       have ga0 : w6.cell? ⟨w.heap.size, 0, none⟩ = some (u32v s.a) := (X6.get 0 rfl).cell 0
       have ga1 : w6.cell? ⟨w.heap.size, 1, none⟩ = some (u32v s.b) := (X6.get 0 rfl).cell 1
       have ga2 : w6.cell? ⟨w.heap.size, 2, none⟩ = some (u32v s.c) := (X6.get 0 rfl).cell 2
       have ga3 : w6.cell? ⟨w.heap.size, 3, none⟩ = some (u32v s.d) := (X6.get 0 rfl).cell 3
       have ga4 : w6.cell? ⟨w.heap.size, 4, none⟩ = some (u64v n) := (X6.get 0 rfl).cell 4
       have gb0 : w6.cell? ⟨w2.heap.size, 0, none⟩ = some (u32v s2.a) := (X6.get 1 rfl).cell 0
       have gb1 : w6.cell? ⟨w2.heap.size, 1, none⟩ = some (u32v s2.b) := (X6.get 1 rfl).cell 1
       have gb2 : w6.cell? ⟨w2.heap.size, 2, none⟩ = some (u32v s2.c) := (X6.get 1 rfl).cell 2
       have gb3 : w6.cell? ⟨w2.heap.size, 3, none⟩ = some (u32v s2.d) := (X6.get 1 rfl).cell 3
       have gb4 : w6.cell? ⟨w2.heap.size, 4, none⟩ = some (u64v n2) := (X6.get 1 rfl).cell 4
       have gc0 : w6.cell? ⟨w3.heap.size, 0, none⟩ = some (u32v s2.a) := (X6.get 2 rfl).cell 0
       have gc1 : w6.cell? ⟨w3.heap.size, 1, none⟩ = some (u32v s2.b) := (X6.get 2 rfl).cell 1
       have gc2 : w6.cell? ⟨w3.heap.size, 2, none⟩ = some (u32v s2.c) := (X6.get 2 rfl).cell 2
       have gc3 : w6.cell? ⟨w3.heap.size, 3, none⟩ = some (u32v s2.d) := (X6.get 2 rfl).cell 3
       have gc4 : w6.cell? ⟨w3.heap.size, 4, none⟩ = some (u64v n2) := (X6.get 2 rfl).cell 4
       have x6 : (convert 29 9 (.slice A' mb c')).run Tryz.prog w6 = .ok (.string SB) w6 := unhide cv _ X6.bl
       replace X6 := hide X6
       clear hb6)
    | (go_at_call 11; have _t := tk1; refine (same_yes _ _ _ _ _ _ _ _ ((unhide X6).rd 2 rfl) ((unhide X6).rd 3 rfl)).mono ?_; rintro e wz ⟨rfl, rfl⟩
       clear tk1 _t)
    | fail)
  have X7 := hide ((unhide X6).sub (L' := [(w.heap.size, 27, rgC s n)]) (R' := []) (Z' := []) (by simp) (by simp) (by simp))
  clear X5 P5 Q5 X6
  go_wp2_with (first
    | (go_at_call 13; refine (unhide hS _ (unhide X7).bl).mono ?_; rintro e w8 ⟨A8, c8, rfl, o8, hb8⟩
       have X8' : Fx w w8 [(w.heap.size, 27, rgC s n)] [] [(.slice A8 my c8, Y)] := ((unhide X7).call hb8).addZ (Bs.of_own0 o8)
       have X8 : Fx w (w8.alloc (.cells (rgC s3 n3) 27)) [(w.heap.size, 27, rgC s n), (w8.heap.size, 27, rgC s3 n3)] [] [(.slice A8 my c8, Y)] := X8'.newB w8.heap.size rfl (rgC s3 n3) 27
       have l8 : w.heap.size < w8.heap.size := (X8'.get 0 rfl).lt
       have ha0 : w8.cell? ⟨w.heap.size, 0, none⟩ = some (u32v s.a) := (X8'.get 0 rfl).cell 0
       have ha1 : w8.cell? ⟨w.heap.size, 1, none⟩ = some (u32v s.b) := (X8'.get 0 rfl).cell 1
       have ha2 : w8.cell? ⟨w.heap.size, 2, none⟩ = some (u32v s.c) := (X8'.get 0 rfl).cell 2
       have ha3 : w8.cell? ⟨w.heap.size, 3, none⟩ = some (u32v s.d) := (X8'.get 0 rfl).cell 3
       have ha4 : w8.cell? ⟨w.heap.size, 4, none⟩ = some (u64v n) := (X8'.get 0 rfl).cell 4
       replace X8 := hide X8
       clear o8 hb8 X8')
    | (go_at_call 14; refine (unhide hU _ (unhide X8).bl).mono ?_; rintro e w9 ⟨A9, c9, rfl, o9, hb9⟩
       have X9' : Fx w w9 [(w.heap.size, 27, rgC s n), (w8.heap.size, 27, rgC s3 n3)] [] [(.slice A8 my c8, Y), (.slice A9 my c9, Y)] := ((unhide X8).call hb9).addZ (Bs.of_own0 o9)
       have X9 := X9'.alloc (.cells (rgC s3 n3) 27)
       have l9 : w8.heap.size < w9.heap.size := (X9'.get 1 rfl).lt
       have hb0 : w9.cell? ⟨w8.heap.size, 0, none⟩ = some (u32v s3.a) := (X9'.get 1 rfl).cell 0
       have hb1 : w9.cell? ⟨w8.heap.size, 1, none⟩ = some (u32v s3.b) := (X9'.get 1 rfl).cell 1
       have hb2 : w9.cell? ⟨w8.heap.size, 2, none⟩ = some (u32v s3.c) := (X9'.get 1 rfl).cell 2
       have hb3 : w9.cell? ⟨w8.heap.size, 3, none⟩ = some (u32v s3.d) := (X9'.get 1 rfl).cell 3
       have hb4 : w9.cell? ⟨w8.heap.size, 4, none⟩ = some (u64v n3) := (X9'.get 1 rfl).cell 4
       replace X9 := hide X9
       clear o9 hb9 X9')
    | (go_at_call 11; refine (same_yes _ _ _ _ _ _ _ _ ((unhide X9).rd 0 rfl) ((unhide X9).rd 1 rfl)).mono ?_; rintro e wz ⟨rfl, rfl⟩)
    | fail)
  go_ret
  exact ⟨rfl, (unhide X9).bl⟩
end
theorem does_law (s : St) (n : Nx) (v vb : Value) (l : List (List UInt8)) (b : List UInt8) (w : World) (ht : Tab w) (h : Bss w.heap.size w v l) (hn : (l.length : Int) ≤ 9223372036854775807) (h' : Bs 0 w.heap.size w vb b) :
    Calls Tryz.prog 3 #[rgV s n, v, vb] w fun e w' => e = .returned (.bool true) ∧ Below w.heap.size w w' := by
  cases hf : fewB l with
  | false => exact does_gate0 s n v vb l b w ht h hn h' hf
  | true =>
    by_cases g1 : b.length ≤ 200
    · exact does_short s n v vb l b w ht h hn h' hf g1
    · by_cases g2 : b.length ≤ 131072
      · exact does_gate1 s n v vb l b w ht h hn h' hf (by omega) g2
      · by_cases g3 : b.length ≤ 131080
        · exact does_long s n v vb l b w ht h hn h' hf (by omega) g3
        · exact does_gate2 s n v vb l b w ht h hn h' hf (by omega)
end Go.Proofs.YthkccpemgmpadaaGreatDoor
