import Derived.Test.YthkccpemgmpadaaDoorSP
namespace Go.Proofs.YthkccpemgmpadaaDoor
set_option maxRecDepth 100000
open Go.RowKit

set_option maxHeartbeats 4000000 in
theorem told_gate (s : St) (n : Nx) (v : Value) (l : List (List UInt8)) (a : Int) (x : UInt8) (w : World) (ht : Tab w) (h : Bss w.heap.size w v l) (hn : (l.length : Int) ≤ 9223372036854775807) (hf : fewB l = false) :
    Calls Tryd.prog 4 #[rgV s n, v, .int .i64 a, u8v x] w fun e w' => e = .returned (.bool true) ∧ Below w.heap.size w w' := by
  have hl := fun W (hb : Below w.heap.size w W) => live_any W (ht.below hb (Nat.le_refl _))
  have hF := fun W (hb : Below w.heap.size w W) => Few_any v l W (h.grow hb) hn
  rw [hf] at hF
  obtain ⟨A, c, rfl, _⟩ := h
  generalize l.length = ml at *
  have X0 : Fx w (w.alloc (.cells (rgC s n) 27)) [(w.heap.size, 27, rgC s n)] [] [] := (Fx.nil w).newB w.heap.size rfl (rgC s n) 27
  replace X0 := hide X0; replace hl := hide hl; replace hF := hide hF
  clear ht hn hf
  go_enter Tryd.func4, Tryd.ntmps4
  go_upto_region 1 with (fail)
  generalize hW : World.alloc w _ = W at *
  clear hW
  go_wp2_with (first
    | (go_at_call 6; refine (unhide hl _ (unhide X0).bl).mono ?_; rintro e w1 ⟨rfl, hb1⟩
       have X1 : Fx w w1 [(w.heap.size, 27, rgC s n)] [] [] := (unhide X0).call hb1
       have l1 : w.heap.size < w1.heap.size := (X1.get 0 rfl).lt
       have c0 : w1.cell? ⟨w.heap.size, 0, none⟩ = some (u32v s.a) := (X1.get 0 rfl).cell 0
       have c1 : w1.cell? ⟨w.heap.size, 1, none⟩ = some (u32v s.b) := (X1.get 0 rfl).cell 1
       have c2 : w1.cell? ⟨w.heap.size, 2, none⟩ = some (u32v s.c) := (X1.get 0 rfl).cell 2
       have c3 : w1.cell? ⟨w.heap.size, 3, none⟩ = some (u32v s.d) := (X1.get 0 rfl).cell 3
       have c4 : w1.cell? ⟨w.heap.size, 4, none⟩ = some (u64v n) := (X1.get 0 rfl).cell 4
       replace X1 := hide X1
       clear hb1)
    | (go_at_call 7; refine (unhide hF _ (unhide X1).bl).mono ?_; rintro e wz ⟨rfl, rfl⟩)
    | fail)
  go_ret
  exact ⟨rfl, (unhide X1).bl⟩
set_option maxHeartbeats 4000000 in
theorem told_end (s : St) (n : Nx) (v : Value) (l : List (List UInt8)) (a : Int) (x : UInt8) (w : World) (ht : Tab w) (h : Bss w.heap.size w v l) (hn : (l.length : Int) ≤ 9223372036854775807) (hf : fewB l = true) (hne : n = 18446744073709551615#64) :
    Calls Tryd.prog 4 #[rgV s n, v, .int .i64 a, u8v x] w fun e w' => e = .returned (.bool true) ∧ Below w.heap.size w w' := by
  have hl := fun W (hb : Below w.heap.size w W) => live_any W (ht.below hb (Nat.le_refl _))
  have hF := fun W (hb : Below w.heap.size w W) => Few_any v l W (h.grow hb) hn
  rw [hf] at hF
  obtain ⟨f1, f2⟩ := few_flat hf
  have hB := fun W (hb : Below w.heap.size w W) => Build_full s n v l W (h.grow hb) (by omega) (by omega) hne
  obtain ⟨A, c, rfl, _⟩ := h
  generalize l.length = ml at *
  have X0 : Fx w (w.alloc (.cells (rgC s n) 27)) [(w.heap.size, 27, rgC s n)] [] [] := (Fx.nil w).newB w.heap.size rfl (rgC s n) 27
  replace X0 := hide X0; replace hl := hide hl; replace hF := hide hF; replace hB := hide hB
  clear ht hn hf hne f1 f2
  go_enter Tryd.func4, Tryd.ntmps4
  go_upto_region 1 with (fail)
  generalize hW : World.alloc w _ = W at *
  clear hW
  go_wp2_with (first
    | (go_at_call 6; refine (unhide hl _ (unhide X0).bl).mono ?_; rintro e w1 ⟨rfl, hb1⟩
       have X1 : Fx w w1 [(w.heap.size, 27, rgC s n)] [] [] := (unhide X0).call hb1
       have l1 : w.heap.size < w1.heap.size := (X1.get 0 rfl).lt
       have c0 : w1.cell? ⟨w.heap.size, 0, none⟩ = some (u32v s.a) := (X1.get 0 rfl).cell 0
       have c1 : w1.cell? ⟨w.heap.size, 1, none⟩ = some (u32v s.b) := (X1.get 0 rfl).cell 1
       have c2 : w1.cell? ⟨w.heap.size, 2, none⟩ = some (u32v s.c) := (X1.get 0 rfl).cell 2
       have c3 : w1.cell? ⟨w.heap.size, 3, none⟩ = some (u32v s.d) := (X1.get 0 rfl).cell 3
       have c4 : w1.cell? ⟨w.heap.size, 4, none⟩ = some (u64v n) := (X1.get 0 rfl).cell 4
       replace X1 := hide X1
       clear hb1)
    | (go_at_call 7; refine (unhide hF _ (unhide X1).bl).mono ?_; rintro e wz ⟨rfl, rfl⟩)
    | (go_at_call 8; refine (unhide hB _ (unhide X1).bl).mono ?_; rintro e w2 ⟨rfl, hb2⟩
       have X2 := (unhide X1).call hb2
       replace X2 := hide X2
       clear hb2)
    | fail)
  go_ret
  exact ⟨rfl, bl_alloc (unhide X2).bl _⟩
set_option maxHeartbeats 4000000 in
theorem told_neg (s : St) (n : Nx) (v : Value) (l : List (List UInt8)) (a : Int) (x : UInt8) (w : World) (ht : Tab w) (h : Bss w.heap.size w v l) (hn : (l.length : Int) ≤ 9223372036854775807) (hf : fewB l = true) (hne : n ≠ 18446744073709551615#64) (ha : a < 0) :
    Calls Tryd.prog 4 #[rgV s n, v, .int .i64 a, u8v x] w fun e w' => e = .returned (.bool true) ∧ Below w.heap.size w w' := by
  have hl := fun W (hb : Below w.heap.size w W) => live_any W (ht.below hb (Nat.le_refl _))
  have hF := fun W (hb : Below w.heap.size w W) => Few_any v l W (h.grow hb) hn
  rw [hf] at hF
  obtain ⟨f1, f2⟩ := few_flat hf
  have hB := fun W (hb : Below w.heap.size w W) => Build_good s n v l W (ht.below hb (Nat.le_refl _)) (h.grow hb) (by omega) (by omega) hne
  obtain ⟨A, c, rfl, _⟩ := h
  generalize l.length = ml at *
  generalize sealS s n l.flatten = Z at *
  generalize hmz : Z.length = mz at *
  have X0 : Fx w (w.alloc (.cells (rgC s n) 27)) [(w.heap.size, 27, rgC s n)] [] [] := (Fx.nil w).newB w.heap.size rfl (rgC s n) 27
  replace X0 := hide X0; replace hl := hide hl; replace hF := hide hF; replace hB := hide hB
  clear ht hn hf hne f1 f2
  go_enter Tryd.func4, Tryd.ntmps4
  go_upto_region 1 with (fail)
  generalize hW : World.alloc w _ = W at *
  clear hW
  go_wp2_with (first
    | (go_at_call 6; refine (unhide hl _ (unhide X0).bl).mono ?_; rintro e w1 ⟨rfl, hb1⟩
       have X1 : Fx w w1 [(w.heap.size, 27, rgC s n)] [] [] := (unhide X0).call hb1
       have l1 : w.heap.size < w1.heap.size := (X1.get 0 rfl).lt
       have c0 : w1.cell? ⟨w.heap.size, 0, none⟩ = some (u32v s.a) := (X1.get 0 rfl).cell 0
       have c1 : w1.cell? ⟨w.heap.size, 1, none⟩ = some (u32v s.b) := (X1.get 0 rfl).cell 1
       have c2 : w1.cell? ⟨w.heap.size, 2, none⟩ = some (u32v s.c) := (X1.get 0 rfl).cell 2
       have c3 : w1.cell? ⟨w.heap.size, 3, none⟩ = some (u32v s.d) := (X1.get 0 rfl).cell 3
       have c4 : w1.cell? ⟨w.heap.size, 4, none⟩ = some (u64v n) := (X1.get 0 rfl).cell 4
       replace X1 := hide X1
       clear hb1)
    | (go_at_call 7; refine (unhide hF _ (unhide X1).bl).mono ?_; rintro e wz ⟨rfl, rfl⟩)
    | (go_at_call 8; refine (unhide hB _ (unhide X1).bl).mono ?_; rintro e w2 ⟨A2, c2, Ap, cp, rfl, o2, op, hb2⟩
       have X2 := (unhide X1).call hb2
       replace X2 := hide X2
       clear hb2 o2 op)
    | fail)
  go_ret
  exact ⟨rfl, bl_alloc (unhide X2).bl _⟩
set_option maxHeartbeats 4000000 in
theorem told_big (s : St) (n : Nx) (v : Value) (l : List (List UInt8)) (a : Int) (x : UInt8) (w : World) (ht : Tab w) (h : Bss w.heap.size w v l) (hn : (l.length : Int) ≤ 9223372036854775807) (hf : fewB l = true) (hne : n ≠ 18446744073709551615#64) (ha0 : ¬ a < 0) (ha : ((sealS s n l.flatten).length : Int) ≤ a) :
    Calls Tryd.prog 4 #[rgV s n, v, .int .i64 a, u8v x] w fun e w' => e = .returned (.bool true) ∧ Below w.heap.size w w' := by
  have hl := fun W (hb : Below w.heap.size w W) => live_any W (ht.below hb (Nat.le_refl _))
  have hF := fun W (hb : Below w.heap.size w W) => Few_any v l W (h.grow hb) hn
  rw [hf] at hF
  obtain ⟨f1, f2⟩ := few_flat hf
  have hB := fun W (hb : Below w.heap.size w W) => Build_good s n v l W (ht.below hb (Nat.le_refl _)) (h.grow hb) (by omega) (by omega) hne
  obtain ⟨A, c, rfl, _⟩ := h
  generalize l.length = ml at *
  generalize sealS s n l.flatten = Z at *
  generalize hmz : Z.length = mz at *
  have k2 : (mz : Int) ≤ a := ha
  have X0 : Fx w (w.alloc (.cells (rgC s n) 27)) [(w.heap.size, 27, rgC s n)] [] [] := (Fx.nil w).newB w.heap.size rfl (rgC s n) 27
  replace X0 := hide X0; replace hl := hide hl; replace hF := hide hF; replace hB := hide hB
  clear ht hn hf hne f1 f2
  go_enter Tryd.func4, Tryd.ntmps4
  go_upto_region 1 with (fail)
  generalize hW : World.alloc w _ = W at *
  clear hW
  go_wp2_with (first
    | (go_at_call 6; refine (unhide hl _ (unhide X0).bl).mono ?_; rintro e w1 ⟨rfl, hb1⟩
       have X1 : Fx w w1 [(w.heap.size, 27, rgC s n)] [] [] := (unhide X0).call hb1
       have l1 : w.heap.size < w1.heap.size := (X1.get 0 rfl).lt
       have c0 : w1.cell? ⟨w.heap.size, 0, none⟩ = some (u32v s.a) := (X1.get 0 rfl).cell 0
       have c1 : w1.cell? ⟨w.heap.size, 1, none⟩ = some (u32v s.b) := (X1.get 0 rfl).cell 1
       have c2 : w1.cell? ⟨w.heap.size, 2, none⟩ = some (u32v s.c) := (X1.get 0 rfl).cell 2
       have c3 : w1.cell? ⟨w.heap.size, 3, none⟩ = some (u32v s.d) := (X1.get 0 rfl).cell 3
       have c4 : w1.cell? ⟨w.heap.size, 4, none⟩ = some (u64v n) := (X1.get 0 rfl).cell 4
       replace X1 := hide X1
       clear hb1)
    | (go_at_call 7; refine (unhide hF _ (unhide X1).bl).mono ?_; rintro e wz ⟨rfl, rfl⟩)
    | (go_at_call 8; refine (unhide hB _ (unhide X1).bl).mono ?_; rintro e w2 ⟨A2, c2, Ap, cp, rfl, o2, op, hb2⟩
       have X2 := (unhide X1).call hb2
       replace X2 := hide X2
       clear hb2 o2 op)
    | fail)
  go_ret
  exact ⟨rfl, bl_alloc (unhide X2).bl _⟩
set_option maxHeartbeats 4000000 in
theorem told_same (s : St) (n : Nx) (v : Value) (l : List (List UInt8)) (a : Int) (x : UInt8) (w : World) (ht : Tab w) (h : Bss w.heap.size w v l) (hn : (l.length : Int) ≤ 9223372036854775807) (hf : fewB l = true) (hne : n ≠ 18446744073709551615#64) (k : Nat) (hk : k < (sealS s n l.flatten).length) (ha : a = (k : Int)) (hx : (sealS s n l.flatten)[k] = x) :
    Calls Tryd.prog 4 #[rgV s n, v, .int .i64 a, u8v x] w fun e w' => e = .returned (.bool true) ∧ Below w.heap.size w w' := by
  have hl := fun W (hb : Below w.heap.size w W) => live_any W (ht.below hb (Nat.le_refl _))
  have hF := fun W (hb : Below w.heap.size w W) => Few_any v l W (h.grow hb) hn
  rw [hf] at hF
  obtain ⟨f1, f2⟩ := few_flat hf
  have hB := fun W (hb : Below w.heap.size w W) => Build_good s n v l W (ht.below hb (Nat.le_refl _)) (h.grow hb) (by omega) (by omega) hne
  obtain ⟨A, c, rfl, _⟩ := h
  generalize l.length = ml at *
  subst ha
  have hx' : (n8 ((sealS s n l.flatten)[k]) == n8 x) = true := by rw [hx]; simp
  have hkz : k < (sealS s n l.flatten).length := hk
  generalize sealS s n l.flatten = Z at *
  have hcl := fun (W : World) (base g c : Nat) (o : W.ownsRow base 5 1 (.slice (some ⟨g, 0, none⟩) Z.length c) Z.length (Z.map u8v)) => row_cell o k hk
  generalize Z[k] = zk at *
  clear hk hx
  generalize hmz : Z.length = mz at *
  have X0 : Fx w (w.alloc (.cells (rgC s n) 27)) [(w.heap.size, 27, rgC s n)] [] [] := (Fx.nil w).newB w.heap.size rfl (rgC s n) 27
  replace X0 := hide X0; replace hl := hide hl; replace hF := hide hF; replace hB := hide hB; replace hcl := hide hcl
  clear ht hn hf hne f1 f2
  go_enter Tryd.func4, Tryd.ntmps4
  go_upto_region 1 with (fail)
  generalize hW : World.alloc w _ = W at *
  clear hW
  go_wp2_with (first
    | (go_at_call 6; refine (unhide hl _ (unhide X0).bl).mono ?_; rintro e w1 ⟨rfl, hb1⟩
       have X1 : Fx w w1 [(w.heap.size, 27, rgC s n)] [] [] := (unhide X0).call hb1
       have l1 : w.heap.size < w1.heap.size := (X1.get 0 rfl).lt
       have c0 : w1.cell? ⟨w.heap.size, 0, none⟩ = some (u32v s.a) := (X1.get 0 rfl).cell 0
       have c1 : w1.cell? ⟨w.heap.size, 1, none⟩ = some (u32v s.b) := (X1.get 0 rfl).cell 1
       have c2 : w1.cell? ⟨w.heap.size, 2, none⟩ = some (u32v s.c) := (X1.get 0 rfl).cell 2
       have c3 : w1.cell? ⟨w.heap.size, 3, none⟩ = some (u32v s.d) := (X1.get 0 rfl).cell 3
       have c4 : w1.cell? ⟨w.heap.size, 4, none⟩ = some (u64v n) := (X1.get 0 rfl).cell 4
       replace X1 := hide X1
       clear hb1)
    | (go_at_call 7; refine (unhide hF _ (unhide X1).bl).mono ?_; rintro e wz ⟨rfl, rfl⟩)
    | (go_at_call 8; refine (unhide hB _ (unhide X1).bl).mono ?_; rintro e w2 ⟨A2, c2, Ap, cp, rfl, o2, op, hb2⟩
       have X2 := (unhide X1).call hb2
       have o2r : w2.ownsRow w1.heap.size 5 1 (.slice A2 mz c2) mz (Z.map u8v) := by have := o2; unfold OwnB at this; rw [hmz] at this; exact this
       obtain ⟨g, cur, rfl, hg1, hg2⟩ := row_pos o2r (by omega)
       have q2 := hg2.lt
       have z2 := unhide hcl w2 w1.heap.size g c2 o2r
       clear o2r hg2
       replace X2 := hide X2
       clear hb2 o2 op)
    | fail)
  go_ret
  exact ⟨rfl, bl_alloc (unhide X2).bl _⟩
end Go.Proofs.YthkccpemgmpadaaDoor
