import Derived.Test.YthkccpemgmpadaaDoorLT
import Derived.Test.YthkccpemgmpadaaDoorLU
namespace Go.Proofs.YthkccpemgmpadaaDoor
set_option maxRecDepth 100000
open Go.RowKit

set_option maxHeartbeats 4000000 in
theorem told_out (s : St) (n : Nx) (v : Value) (l : List (List UInt8)) (a : Int) (x : UInt8) (w : World) (ht : Tab w) (h : Bss w.heap.size w v l) (hn : (l.length : Int) ≤ 9223372036854775807) (hf : fewB l = true) (hne : n ≠ 18446744073709551615#64) (k : Nat) (hk : k < (sealS s n l.flatten).length) (ha : a = (k : Int)) (hx : (sealS s n l.flatten)[k] ≠ x) (h8 : k < 8 ∨ 24 ≤ k) :
    Calls Tryd.prog 4 #[rgV s n, v, .int .i64 a, u8v x] w fun e w' => e = .returned (.bool true) ∧ Below w.heap.size w w' := by
  have hl := fun W (hb : Below w.heap.size w W) => live_any W (ht.below hb (Nat.le_refl _))
  have hF := fun W (hb : Below w.heap.size w W) => Few_any v l W (h.grow hb) hn
  rw [hf] at hF
  obtain ⟨f1, f2⟩ := few_flat hf
  have hB := fun W (hb : Below w.heap.size w W) => Build_good s n v l W (ht.below hb (Nat.le_refl _)) (h.grow hb) (by omega) (by omega) hne
  have hzl := seal_len s n l.flatten
  have hpu := pkU_le (b := l.flatten) (by omega)
  have hO := fun v1 W (hb : Below w.heap.size w W) (h1 : Bs 0 W.heap.size W v1 ((sealS s n l.flatten).set k x)) => Open_any' s v1 _ W (ht.below hb (Nat.le_refl _)) h1 (by rw [List.length_set]; omega)
  have hE := fun v1 v2 W (hb : Below w.heap.size w W) (h1 : Bs 0 W.heap.size W v1 ((sealS s n l.flatten).set k x)) (h2 : Pcs 0 W.heap.size W v2 (pcsF 0 l)) => Test_any s v1 v2 _ _ W (ht.below hb (Nat.le_refl _)) h1 (by rw [List.length_set]; omega) h2 (pcs_ok (by omega)) (by rw [pcs_len]; omega)
  rw [told_sum s n (b := l.flatten) (by omega) hk hx] at hO
  rw [told_test s n (b := l.flatten) (by omega) hk hx] at hE
  have hC := fun v1 W (h1 : Bs 0 W.heap.size W v1 (sealS s n l.flatten)) => crcOpen_u 0 v1 _ W h1 (by omega)
  have hsy : sumS (sealS s n l.flatten) = (bytesF (boxS s n l.flatten), 0) := sum_seal _
  rw [hsy] at hC
  have hyl := box_len s n l.flatten
  unfold Ans at hO hC
  simp only [List.length_nil] at hO hC
  obtain ⟨A, c, rfl, _⟩ := h
  generalize l.length = ml at *
  subst ha
  have hx' : (n8 ((sealS s n l.flatten)[k]) == n8 x) = false := by rw [beq_eq_false_iff_ne]; exact fun e => hx (n8_inj e)
  have hkz : k < (sealS s n l.flatten).length := hk
  have y8 : (k : Int) < 8 ∨ (¬ (k : Int) < 8 ∧ (24 : Int) ≤ (k : Int)) := by omega
  generalize sealS s n l.flatten = Z at *
  generalize bytesF (boxS s n l.flatten) = Y at *
  have hcl := fun (W : World) (base g c : Nat) (o : W.ownsRow base 5 1 (.slice (some ⟨g, 0, none⟩) Z.length c) Z.length (Z.map u8v)) => row_cell o k hk
  generalize Z[k] = zk at *
  clear hk hx
  generalize hmz : Z.length = mz at *
  generalize hmy : Y.length = my at *
  have mz1 : mz ≤ 60000 := by omega
  obtain ⟨i0, hi0, hz0, hz1, hz2⟩ := info_parts info5
  have u1 : 0 + mz ≤ maxLen := by simp only [maxLen]; omega
  have u2 : (0 + mz) * 1 ≤ 140737488355328 := by omega
  have X0 : Fx w (w.alloc (.cells (rgC s n) 27)) [(w.heap.size, 27, rgC s n)] [] [] := (Fx.nil w).newB w.heap.size rfl (rgC s n) 27
  replace X0 := hide X0
  replace hl := hide hl
  replace hF := hide hF
  replace hB := hide hB
  replace hO := hide hO
  replace hE := hide hE
  replace hC := hide hC
  replace hcl := hide hcl
  replace u1 := hide u1
  replace u2 := hide u2
  clear ht hn hf hne f1 f2 hzl hpu hsy hyl h8
  go_enter Tryd.func4, Tryd.ntmps4
  go_upto_region 1 with (fail)
  generalize hW : World.alloc w _ = W at *
  clear hW
  have tk0 : True := trivial
  go_upto_region 8 with (first
    | (go_at_call 6; refine (unhide hl _ (unhide X0).bl).mono ?_; rintro e w1 ⟨rfl, hb1⟩
       have X1 : Fx w w1 [(w.heap.size, 27, rgC s n)] [] [] := (unhide X0).call hb1
       have l1 : w.heap.size < w1.heap.size := (X1.get 0 rfl).lt
       have c0 : w1.cell? ⟨w.heap.size, 0, none⟩ = some (u32v s.a) := (X1.get 0 rfl).cell 0
       have c1 : w1.cell? ⟨w.heap.size, 1, none⟩ = some (u32v s.b) := (X1.get 0 rfl).cell 1
       have c2 : w1.cell? ⟨w.heap.size, 2, none⟩ = some (u32v s.c) := (X1.get 0 rfl).cell 2
       have c3 : w1.cell? ⟨w.heap.size, 3, none⟩ = some (u32v s.d) := (X1.get 0 rfl).cell 3
       have c4 : w1.cell? ⟨w.heap.size, 4, none⟩ = some (u64v n) := (X1.get 0 rfl).cell 4
       replace X1 := hide X1
       clear hb1)
    | (go_at_call 7; refine (unhide hF _ (unhide X1).bl).mono ?_; rintro e wz ⟨rfl, rfl⟩)
    | (go_at_call 8; refine (unhide hB _ (unhide X1).bl).mono ?_; rintro e w2 ⟨A2, c2, Ap, cp, rfl, o2, op, hb2⟩
       have X2 := (unhide X1).call hb2
       have l2 : w.heap.size < w2.heap.size := (X2.get 0 rfl).lt
       have o2r : w2.ownsRow w1.heap.size 5 1 (.slice A2 mz c2) mz (Z.map u8v) := by have := o2; unfold OwnB at this; rw [hmz] at this; exact this
       obtain ⟨g, cur, rfl, hg1, hg2⟩ := row_pos o2r (by omega)
       have q2 := hg2.lt
       have z2 := unhide hcl w2 w1.heap.size g c2 o2r
       have X2b := hide ((X2.alloc (.cells (rgC s (n + 1#64)) 27)))
       have B2 : Below w2.heap.size w2 (w2.alloc (.cells (rgC s (n + 1#64)) 27)) := bl_alloc (Below.refl _ _) _
       have r2 := hide (own_below o2r B2 (Nat.le_refl _))
       have p2 := hide (own_below op B2 (Nat.le_refl _))
       have s2 := hide ((bs_row o2r).to B2)
       have hg3 := hide (Nat.lt_of_lt_of_le l1 hg1)
       clear o2r hg2 hg1 hb2 o2 op B2 X2)
    | (at_builtin
       refine wpList_app _ rfl (.const (.slice none 0 0)) (.tmp 55) 31 rfl (w2.heap.size + 1) 5 i0 _ 1 1 Tryd.underlying31 hi0 hz0 hz1 hz2 rfl (Nat.succ_pos _) _ 0 [] rfl (World.ownsRow_nil _ _ _ _) (some ⟨g, 0, none⟩) mz c2 (Z.map u8v) rfl (by rw [List.length_map, hmz, Nat.mul_one]) ((unhide s2).src).2 (u8s_one Z) (unhide u1) (unhide u2) (by simp) ?_
       intro v3 w3 o3 hg3'
       rw [List.nil_append, Nat.zero_add] at o3
       obtain ⟨A3, c3, rfl⟩ := ownsRow_form o3
       have B3 : Below (w2.heap.size + 1) (w2.alloc (.cells (rgC s (n + 1#64)) 27)) w3 := (Below.refl _ _).grown hg3' (by simp) (by intro k hk; simp [Act.eval, Value.ownBlock] at hk)
       have B3' : Below (w2.alloc (.cells (rgC s (n + 1#64)) 27)).heap.size (w2.alloc (.cells (rgC s (n + 1#64)) 27)) w3 := B3.mono (by simp)
       have X3 := (unhide X2b).call B3'
       have r3 := own_below (unhide r2) B3' (Nat.le_refl _)
       have p3 := hide (own_below (unhide p2) B3' (Nat.le_refl _))
       obtain ⟨_, cur3, e3, _, k3⟩ := row_pos r3 (by omega)
       injection e3 with e3; injection e3 with e3; subst e3
       have q3 := k3.lt
       have f3 : w3.frozen? ⟨g, k, none⟩ = false := k3.frozen k
       have z3 := unhide hcl w3 w1.heap.size g c2 r3
       have K3 := hide k3
       replace r3 := hide r3; replace X3 := hide X3; replace o3 := hide o3
       clear B3 B3' hg3' k3)
    | fail)
  go_upto_region 9 with (fail)
  have X4 := told_put (k := k) (unhide X3) (unhide hg3) (unhide r3) (unhide o3) (by omega) x
  have P4 := (Pcs.of_own (own_far (unhide p3) (unhide K3) (by decide) k (u8v x))).mono0
  generalize hW4 : World.setCell w3 _ _ = w4 at *
  clear hW4 X3 r3 p3 o3 K3
  have d0 : w4.cell? ⟨w.heap.size, 0, none⟩ = some (u32v s.a) := (X4.get 0 rfl).cell 0
  have d1 : w4.cell? ⟨w.heap.size, 1, none⟩ = some (u32v s.b) := (X4.get 0 rfl).cell 1
  have d2 : w4.cell? ⟨w.heap.size, 2, none⟩ = some (u32v s.c) := (X4.get 0 rfl).cell 2
  have d3 : w4.cell? ⟨w.heap.size, 3, none⟩ = some (u32v s.d) := (X4.get 0 rfl).cell 3
  have d4 : w4.cell? ⟨w.heap.size, 4, none⟩ = some (u64v n) := (X4.get 0 rfl).cell 4
  replace X4 := hide X4; replace P4 := hide P4
  go_upto_region 12 with (first
    | (go_at_call 9; refine (unhide hO _ _ (unhide X4).bl ((unhide X4).rd 0 rfl)).mono ?_; rintro e w5 ⟨A5, c5, rfl, _, hb5⟩
       have X5 := (unhide X4).call hb5
       have P5 := hide ((unhide P4).grow hb5)
       have e0 : w5.cell? ⟨w.heap.size, 0, none⟩ = some (u32v s.a) := (X5.get 0 rfl).cell 0
       have e1 : w5.cell? ⟨w.heap.size, 1, none⟩ = some (u32v s.b) := (X5.get 0 rfl).cell 1
       have e2 : w5.cell? ⟨w.heap.size, 2, none⟩ = some (u32v s.c) := (X5.get 0 rfl).cell 2
       have e3 : w5.cell? ⟨w.heap.size, 3, none⟩ = some (u32v s.d) := (X5.get 0 rfl).cell 3
       have e4 : w5.cell? ⟨w.heap.size, 4, none⟩ = some (u64v n) := (X5.get 0 rfl).cell 4
       replace X5 := hide X5
       clear hb5)
    | (go_at_call 10; refine (unhide hE _ _ _ (unhide X5).bl ((unhide X5).rd 0 rfl) (unhide P5)).mono ?_; rintro e w6 ⟨rfl, hb6⟩
       have X6 := hide ((unhide X5).call hb6)
       clear hb6)
    | fail)
  rcases y8 with y8 | ⟨y8, y24⟩
  all_goals
    go_wp2_with (first
      | (go_at_call 13; refine (unhide hC _ _ ((unhide X6).rd 1 rfl)).mono ?_; rintro e w7 ⟨A7, c7, rfl, _, hb7⟩
         have b7 := hide ((unhide X6).call hb7).bl
         clear hb7)
      | fail)
    go_ret
    exact ⟨rfl, unhide b7⟩
theorem told_law (s : St) (n : Nx) (v : Value) (l : List (List UInt8)) (a : Int) (x : UInt8) (w : World) (ht : Tab w) (h : Bss w.heap.size w v l) (hn : (l.length : Int) ≤ 9223372036854775807) :
    Calls Tryd.prog 4 #[rgV s n, v, .int .i64 a, u8v x] w fun e w' => e = .returned (.bool true) ∧ Below w.heap.size w w' := by
  cases hf : fewB l with
  | false => exact told_gate s n v l a x w ht h hn hf
  | true =>
    by_cases hne : n = 18446744073709551615#64
    · exact told_end s n v l a x w ht h hn hf hne
    · by_cases h0 : a < 0
      · exact told_neg s n v l a x w ht h hn hf hne h0
      · by_cases h1 : ((sealS s n l.flatten).length : Int) ≤ a
        · exact told_big s n v l a x w ht h hn hf hne h0 h1
        · obtain ⟨k, rfl⟩ : ∃ k : Nat, a = (k : Int) := ⟨a.toNat, by omega⟩
          have hk : k < (sealS s n l.flatten).length := by omega
          by_cases hx : (sealS s n l.flatten)[k] = x
          · exact told_same s n v l _ x w ht h hn hf hne k hk rfl hx
          · by_cases h8 : 8 ≤ k ∧ k < 24
            · exact told_in s n v l _ x w ht h hn hf hne k hk rfl hx h8.1 h8.2
            · exact told_out s n v l _ x w ht h hn hf hne k hk rfl hx (by omega)
end Go.Proofs.YthkccpemgmpadaaDoor
