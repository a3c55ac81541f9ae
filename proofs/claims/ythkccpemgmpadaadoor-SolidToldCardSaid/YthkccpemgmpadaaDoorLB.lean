import Derived.Test.YthkccpemgmpadaaDoorM8
import Derived.LoopN
import Derived.IntWalk
namespace Go.Proofs.YthkccpemgmpadaaDoor
set_option maxRecDepth 100000
open Go.RowKit

theorem Pcs.mono0 {lo hi : Nat} {w : World} {v : Value} {l : List Pc} (h : Pcs lo hi w v l) : Pcs 0 hi w v l := by
  obtain ⟨A, c, e, h1, h2⟩ := h
  exact ⟨A, c, e, fun h0 => by obtain ⟨b, off, e, _, g2⟩ := h1 h0; exact ⟨b, off, e, Nat.zero_le _, g2⟩, h2⟩
theorem pcs_ok {l : List (List UInt8)} (h : l.flatten.length ≤ 65536) : ∀ p ∈ pcsF 0 l, OkP p := by
  intro p hp
  obtain ⟨i, hi, e⟩ := List.getElem_of_mem hp
  have hi' : i < l.length := by rw [← pcs_len 0 l]; exact hi
  obtain ⟨_, _, h1, h2⟩ := find_pcs l i hi' (p := p) (by rw [List.getElem?_eq_getElem hi, e])
  have := flat_part l i hi'
  exact ⟨by omega, by omega, by omega, by omega⟩
theorem neq_key (w : World) (s : St) : (binOp .neq 24 (stV s) (stV s)).run Tryd.prog w = .ok (.bool false) w := by rw [neq_st, sameS_self]; rfl
/-- A round's piece, cut out. -/
theorem cut_round (l : List (List UInt8)) (hl : l.flatten.length ≤ 480) (k : Nat) (hk : k < l.length) (v : Value) (w : World) (h : Bs 0 w.heap.size w v l.flatten) :
    Calls Tryd.prog 11 #[v, .agg #[.int .i64 (C.upto l k : Nat), .int .i64 l[k].length, u32v (C.sumR l[k])]] w (Ans (l[k], 0) w) := by
  have hg := pcs_get 0 l k hk
  rw [Nat.zero_add] at hg
  obtain ⟨h1, h2, _, _⟩ := find_pcs l k hk hg
  have hok := pcs_ok (l := l) (by omega) _ (List.mem_of_getElem? hg)
  have := Cut_any v l.flatten _ w h hok (by omega)
  rw [h1, h2] at this
  exact this
theorem pcs_cell {l : List (List UInt8)} {k : Nat} (hk : k < l.length) (hk' : k < (pcsF 0 l).length) : (pcsF 0 l)[k].at_ = (C.upto l k : Nat) ∧ (pcsF 0 l)[k].len = l[k].length ∧ (pcsF 0 l)[k].sum = C.sumR l[k] := by
  have hg := pcs_get 0 l k hk
  rw [Nat.zero_add, List.getElem?_eq_getElem hk'] at hg
  injection hg with hg
  rw [hg]
  exact ⟨rfl, rfl, rfl⟩
/-- The pieces of texts, at a place. -/
def PcAt (w : World) (g : Nat) (l : List (List UInt8)) : Prop := g < w.heap.size ∧ ∀ k (hk : k < l.length), w.cell? ⟨g, k * 3, none⟩ = some (.int .i64 (C.upto l k : Nat)) ∧ w.cell? ⟨g, k * 3 + 1, none⟩ = some (.int .i64 l[k].length) ∧ w.cell? ⟨g, k * 3 + 2, none⟩ = some (u32v (C.sumR l[k]))
theorem PcAt.grow {w w' : World} {g : Nat} {l : List (List UInt8)} (h : PcAt w g l) (hb : Below w.heap.size w w') : PcAt w' g l :=
  ⟨Nat.lt_of_lt_of_le h.1 hb.size, fun k hk => by
    obtain ⟨c0, c1, c2⟩ := h.2 k hk
    exact ⟨(hb.cell (p := ⟨g, k * 3, none⟩) h.1).trans c0, (hb.cell (p := ⟨g, k * 3 + 1, none⟩) h.1).trans c1, (hb.cell (p := ⟨g, k * 3 + 2, none⟩) h.1).trans c2⟩⟩
theorem pcAt_own {w : World} {base n c : Nat} {A : Option Addr} {l : List (List UInt8)} (h : w.ownsRow base 41 3 (.slice A n c) n ((pcsF 0 l).flatMap pcL)) (h0 : 0 < n) : ∃ g, A = some ⟨g, 0, none⟩ ∧ PcAt w g l := by
  obtain ⟨g, e, _, hg, hc⟩ := pcs_own h h0
  refine ⟨g, e, hg, fun k hk => ?_⟩
  have hk' : k < (pcsF 0 l).length := by rw [pcs_len]; exact hk
  obtain ⟨c0, c1, c2⟩ := hc k hk'
  obtain ⟨e0, e1, e2⟩ := pcs_cell hk hk'
  rw [e0] at c0; rw [e1] at c1; rw [e2] at c2
  exact ⟨c0, c1, c2⟩

set_option maxHeartbeats 4000000 in
theorem back_gate (s : St) (n : Nx) (v : Value) (l : List (List UInt8)) (w : World) (ht : Tab w) (h : Bss w.heap.size w v l) (hn : (l.length : Int) ≤ 9223372036854775807) (hf : fewB l = false) :
    Calls Tryd.prog 3 #[rgV s n, v] w fun e w' => e = .returned (.bool true) ∧ Below w.heap.size w w' := by
  have hl := fun W (hb : Below w.heap.size w W) => live_any W (ht.below hb (Nat.le_refl _))
  have hF := fun W (hb : Below w.heap.size w W) => Few_any v l W (h.grow hb) hn
  rw [hf] at hF
  obtain ⟨A, c, rfl, _⟩ := h
  generalize l.length = ml at *
  have X0 : Fx w (w.alloc (.cells (rgC s n) 27)) [(w.heap.size, 27, rgC s n)] [] [] := (Fx.nil w).newB w.heap.size rfl (rgC s n) 27
  replace X0 := hide X0; replace hl := hide hl; replace hF := hide hF
  clear ht hn hf
  go_enter Tryd.func3, Tryd.ntmps3
  go_upto_region 1 with (fail)
  generalize hW : World.alloc w _ = W at *
  clear hW
  go_wp2_with (first
    | (go_at_call 6; refine (unhide hl _ (unhide X0).bl).mono ?_; rintro e w1 ⟨rfl, hb1⟩
       have X1 : Fx w w1 [(w.heap.size, 27, rgC s n)] [] [] := (unhide X0).call hb1
       have c0 : w1.cell? ⟨w.heap.size, 0, none⟩ = some (u32v s.a) := (X1.get 0 rfl).cell 0
       have c1 : w1.cell? ⟨w.heap.size, 1, none⟩ = some (u32v s.b) := (X1.get 0 rfl).cell 1
       have c2 : w1.cell? ⟨w.heap.size, 2, none⟩ = some (u32v s.c) := (X1.get 0 rfl).cell 2
       have c3 : w1.cell? ⟨w.heap.size, 3, none⟩ = some (u32v s.d) := (X1.get 0 rfl).cell 3
       have c4 : w1.cell? ⟨w.heap.size, 4, none⟩ = some (u64v n) := (X1.get 0 rfl).cell 4
       replace X1 := hide X1
       clear hb1)
    | (go_at_call 7; refine (unhide hF _ (unhide X1).bl).mono ?_; rintro e wz ⟨rfl, rfl⟩)
    | fail)
  go_ret
  exact ⟨rfl, (unhide X1).bl⟩
set_option maxHeartbeats 4000000 in
theorem back_end (s : St) (n : Nx) (v : Value) (l : List (List UInt8)) (w : World) (ht : Tab w) (h : Bss w.heap.size w v l) (hn : (l.length : Int) ≤ 9223372036854775807) (hf : fewB l = true) (hne : n = 18446744073709551615#64) :
    Calls Tryd.prog 3 #[rgV s n, v] w fun e w' => e = .returned (.bool true) ∧ Below w.heap.size w w' := by
  have hl := fun W (hb : Below w.heap.size w W) => live_any W (ht.below hb (Nat.le_refl _))
  have hF := fun W (hb : Below w.heap.size w W) => Few_any v l W (h.grow hb) hn
  rw [hf] at hF
  obtain ⟨f1, f2⟩ := few_flat hf
  have hB := fun W (hb : Below w.heap.size w W) => Build_full s n v l W (h.grow hb) (by omega) (by omega) hne
  have hnn : (n64 n == 18446744073709551615) = true := by rw [hne, full_eq]; rfl
  obtain ⟨A, c, rfl, _⟩ := h
  generalize l.length = ml at *
  have X0 : Fx w (w.alloc (.cells (rgC s n) 27)) [(w.heap.size, 27, rgC s n)] [] [] := (Fx.nil w).newB w.heap.size rfl (rgC s n) 27
  replace X0 := hide X0; replace hl := hide hl; replace hF := hide hF; replace hB := hide hB
  clear ht hn hf hne f1 f2
  go_enter Tryd.func3, Tryd.ntmps3
  go_upto_region 1 with (fail)
  generalize hW : World.alloc w _ = W at *
  clear hW
  go_wp2_with (first
    | (go_at_call 6; refine (unhide hl _ (unhide X0).bl).mono ?_; rintro e w1 ⟨rfl, hb1⟩
       have X1 : Fx w w1 [(w.heap.size, 27, rgC s n)] [] [] := (unhide X0).call hb1
       have c0 : w1.cell? ⟨w.heap.size, 0, none⟩ = some (u32v s.a) := (X1.get 0 rfl).cell 0
       have c1 : w1.cell? ⟨w.heap.size, 1, none⟩ = some (u32v s.b) := (X1.get 0 rfl).cell 1
       have c2 : w1.cell? ⟨w.heap.size, 2, none⟩ = some (u32v s.c) := (X1.get 0 rfl).cell 2
       have c3 : w1.cell? ⟨w.heap.size, 3, none⟩ = some (u32v s.d) := (X1.get 0 rfl).cell 3
       have c4 : w1.cell? ⟨w.heap.size, 4, none⟩ = some (u64v n) := (X1.get 0 rfl).cell 4
       replace X1 := hide X1
       clear hb1)
    | (go_at_call 7; refine (unhide hF _ (unhide X1).bl).mono ?_; rintro e wz ⟨rfl, rfl⟩)
    | (go_at_call 8; refine (unhide hB _ (unhide X1).bl).mono ?_; rintro e w2 ⟨rfl, hb2⟩
       have X2 := (unhide X1).call hb2
       have l2 : w.heap.size < w2.heap.size := (X2.get 0 rfl).lt
       have d0 : w2.cell? ⟨w.heap.size, 0, none⟩ = some (u32v s.a) := (X2.get 0 rfl).cell 0
       have d1 : w2.cell? ⟨w.heap.size, 1, none⟩ = some (u32v s.b) := (X2.get 0 rfl).cell 1
       have d2 : w2.cell? ⟨w.heap.size, 2, none⟩ = some (u32v s.c) := (X2.get 0 rfl).cell 2
       have d3 : w2.cell? ⟨w.heap.size, 3, none⟩ = some (u32v s.d) := (X2.get 0 rfl).cell 3
       have d4 : w2.cell? ⟨w.heap.size, 4, none⟩ = some (u64v n) := (X2.get 0 rfl).cell 4
       replace X2 := hide X2
       clear hb2)
    | fail)
  go_ret
  exact ⟨rfl, bl_alloc (unhide X2).bl _⟩
set_option maxHeartbeats 4000000 in
theorem back_nil (s : St) (n : Nx) (v : Value) (l : List (List UInt8)) (w : World) (ht : Tab w) (h : Bss w.heap.size w v l) (hn : (l.length : Int) ≤ 9223372036854775807) (hf : fewB l = true) (hne : n ≠ 18446744073709551615#64) (A : Option Addr) (c : Nat) (hv : v = .slice A 0 c) (hl0 : l = []) :
    Calls Tryd.prog 3 #[rgV s n, v] w fun e w' => e = .returned (.bool true) ∧ Below w.heap.size w w' := by
  have hl := fun W (hb : Below w.heap.size w W) => live_any W (ht.below hb (Nat.le_refl _))
  have hF := fun W (hb : Below w.heap.size w W) => Few_any v l W (h.grow hb) hn
  rw [hf] at hF
  obtain ⟨f1, f2⟩ := few_flat hf
  have hB := fun W (hb : Below w.heap.size w W) => Build_good s n v l W (ht.below hb (Nat.le_refl _)) (h.grow hb) (by omega) (by omega) hne
  have hzl : (sealS s n l.flatten).length ≤ 60000 := by rw [seal_len]; have := pkU_le (b := l.flatten) (by omega); omega
  have hO := fun v1 W (hb : Below w.heap.size w W) (h1 : Bs 0 W.heap.size W v1 (sealS s n l.flatten)) => Open_any' s v1 _ W (ht.below hb (Nat.le_refl _)) h1 hzl
  have hE := fun v1 v2 W (hb : Below w.heap.size w W) (h1 : Bs 0 W.heap.size W v1 (sealS s n l.flatten)) (h2 : Pcs 0 W.heap.size W v2 (pcsF 0 l)) => Test_any s v1 v2 _ _ W (ht.below hb (Nat.le_refl _)) h1 hzl h2 (pcs_ok (by omega)) (by rw [pcs_len]; omega)
  rw [open_seal s n (b := l.flatten) (by omega)] at hO
  rw [test_back s n (l := l) (by omega)] at hE
  unfold Ans at hO
  simp only [] at hO
  have hN := fun W => neq_key W s
  obtain ⟨one1, one2⟩ := nx_one n
  subst hv
  have hm0 : l.length = 0 := by rw [hl0]; rfl
  have hmt : l.flatten.length = 0 := by rw [hl0]; rfl
  rw [hm0] at hB
  rw [hmt] at hO
  generalize sealS s n l.flatten = Z at *
  generalize Z.length = mz at *
  have X0 : Fx w (w.alloc (.cells (rgC s n) 27)) [(w.heap.size, 27, rgC s n)] [] [] := (Fx.nil w).newB w.heap.size rfl (rgC s n) 27
  clear hf hne f1 f2 hn ht h hm0 hmt hzl hl0
  replace X0 := hide X0; replace hl := hide hl; replace hF := hide hF; replace hB := hide hB; replace hO := hide hO; replace hE := hide hE
  go_enter Tryd.func3, Tryd.ntmps3
  go_upto_region 1 with (fail)
  generalize hW : World.alloc w _ = W at *
  clear hW
  go_upto_region 11 with (first
    | (go_at_call 6; refine (unhide hl _ (unhide X0).bl).mono ?_; rintro e w1 ⟨rfl, hb1⟩
       have X1 : Fx w w1 [(w.heap.size, 27, rgC s n)] [] [] := (unhide X0).call hb1
       have c0 : w1.cell? ⟨w.heap.size, 0, none⟩ = some (u32v s.a) := (X1.get 0 rfl).cell 0
       have c1 : w1.cell? ⟨w.heap.size, 1, none⟩ = some (u32v s.b) := (X1.get 0 rfl).cell 1
       have c2 : w1.cell? ⟨w.heap.size, 2, none⟩ = some (u32v s.c) := (X1.get 0 rfl).cell 2
       have c3 : w1.cell? ⟨w.heap.size, 3, none⟩ = some (u32v s.d) := (X1.get 0 rfl).cell 3
       have c4 : w1.cell? ⟨w.heap.size, 4, none⟩ = some (u64v n) := (X1.get 0 rfl).cell 4
       replace X1 := hide X1
       clear hb1)
    | (go_at_call 7; refine (unhide hF _ (unhide X1).bl).mono ?_; rintro e wz ⟨rfl, rfl⟩)
    | (go_at_call 8; refine (unhide hB _ (unhide X1).bl).mono ?_; rintro e w2 ⟨A2, c2, Ap, cp, rfl, o2, op, hb2⟩
       have X2' : Fx w w2 [(w.heap.size, 27, rgC s n)] [] [(.slice A2 mz c2, Z)] := ((unhide X1).call hb2).addZ (Bs.of_own0 o2)
       have P2 := (Pcs.of_own op).mono0
       have X2 : Fx w (w2.alloc (.cells (rgC s (n + 1#64)) 27)) [(w.heap.size, 27, rgC s n), (w2.heap.size, 27, rgC s (n + 1#64))] [] [(.slice A2 mz c2, Z)] := X2'.newB w2.heap.size rfl (rgC s (n + 1#64)) 27
       have bg := bl_alloc (Below.refl w2.heap.size w2) (.cells (rgC s (n + 1#64)) 27)
       replace P2 := hide (P2.grow bg)
       have l2 : w.heap.size < w2.heap.size := (X2'.get 0 rfl).lt
       have d0 : w2.cell? ⟨w.heap.size, 0, none⟩ = some (u32v s.a) := (X2'.get 0 rfl).cell 0
       have d1 : w2.cell? ⟨w.heap.size, 1, none⟩ = some (u32v s.b) := (X2'.get 0 rfl).cell 1
       have d2 : w2.cell? ⟨w.heap.size, 2, none⟩ = some (u32v s.c) := (X2'.get 0 rfl).cell 2
       have d3 : w2.cell? ⟨w.heap.size, 3, none⟩ = some (u32v s.d) := (X2'.get 0 rfl).cell 3
       have d4 : w2.cell? ⟨w.heap.size, 4, none⟩ = some (u64v n) := (X2'.get 0 rfl).cell 4
       replace X2 := hide X2
       clear o2 op hb2 X2' bg)
    | (go_at_call 9; refine (unhide hO _ _ (unhide X2).bl ((unhide X2).rd 0 rfl)).mono ?_; rintro e w3 ⟨A3, c3, rfl, o3, hb3⟩
       have X3 : Fx w w3 [(w.heap.size, 27, rgC s n), (w2.heap.size, 27, rgC s (n + 1#64))] [] [(.slice A2 mz c2, Z), (.slice A3 0 c3, l.flatten)] := ((unhide X2).call hb3).addZ (Bs.of_own0 o3)
       have P3 := hide ((unhide P2).grow hb3)
       have l30 : w.heap.size < w3.heap.size := (X3.get 0 rfl).lt
       have l31 : w2.heap.size < w3.heap.size := (X3.get 1 rfl).lt
       have ea0 : w3.cell? ⟨w.heap.size, 0, none⟩ = some (u32v s.a) := (X3.get 0 rfl).cell 0
       have ea1 : w3.cell? ⟨w.heap.size, 1, none⟩ = some (u32v s.b) := (X3.get 0 rfl).cell 1
       have ea2 : w3.cell? ⟨w.heap.size, 2, none⟩ = some (u32v s.c) := (X3.get 0 rfl).cell 2
       have ea3 : w3.cell? ⟨w.heap.size, 3, none⟩ = some (u32v s.d) := (X3.get 0 rfl).cell 3
       have ea4 : w3.cell? ⟨w.heap.size, 4, none⟩ = some (u64v n) := (X3.get 0 rfl).cell 4
       have eb0 : w3.cell? ⟨w2.heap.size, 0, none⟩ = some (u32v s.a) := (X3.get 1 rfl).cell 0
       have eb1 : w3.cell? ⟨w2.heap.size, 1, none⟩ = some (u32v s.b) := (X3.get 1 rfl).cell 1
       have eb2 : w3.cell? ⟨w2.heap.size, 2, none⟩ = some (u32v s.c) := (X3.get 1 rfl).cell 2
       have eb3 : w3.cell? ⟨w2.heap.size, 3, none⟩ = some (u32v s.d) := (X3.get 1 rfl).cell 3
       have eb4 : w3.cell? ⟨w2.heap.size, 4, none⟩ = some (u64v (n + 1#64)) := (X3.get 1 rfl).cell 4
       replace X3 := hide X3
       clear o3 hb3)
    | (go_at_call 10; refine (unhide hE _ _ _ (unhide X3).bl ((unhide X3).rd 0 rfl) (unhide P3)).mono ?_; rintro e w4 ⟨rfl, hb4⟩
       have X4 : Fx w w4 [(w.heap.size, 27, rgC s n)] [] [(.slice A3 0 c3, l.flatten)] := ((unhide X3).call hb4).sub (by simp) (by simp) (by simp)
       replace X4 := hide X4
       clear hb4)
    | fail)
  go_wp2_with fail
  refine wp_loop_rounds 1 ?_
  rw [rounds_succ]
  go_wp2_with fail
  go_ret
  exact ⟨rfl, (unhide X4).bl⟩
set_option maxHeartbeats 4000000 in
theorem back_main (s : St) (n : Nx) (v : Value) (l : List (List UInt8)) (w : World) (ht : Tab w) (h : Bss w.heap.size w v l) (hn : (l.length : Int) ≤ 9223372036854775807) (hf : fewB l = true) (hne : n ≠ 18446744073709551615#64) (b off c : Nat) (hv : v = .slice (some ⟨b, off, none⟩) l.length c) (hT : Tx b off w l) (hl0 : 0 < l.length) :
    Calls Tryd.prog 3 #[rgV s n, v] w fun e w' => e = .returned (.bool true) ∧ Below w.heap.size w w' := by
  have hl := fun W (hb : Below w.heap.size w W) => live_any W (ht.below hb (Nat.le_refl _))
  have hF := fun W (hb : Below w.heap.size w W) => Few_any v l W (h.grow hb) hn
  rw [hf] at hF
  obtain ⟨f1, f2⟩ := few_flat hf
  have hB := fun W (hb : Below w.heap.size w W) => Build_good s n v l W (ht.below hb (Nat.le_refl _)) (h.grow hb) (by omega) (by omega) hne
  have hzl : (sealS s n l.flatten).length ≤ 60000 := by rw [seal_len]; have := pkU_le (b := l.flatten) (by omega); omega
  have hO := fun v1 W (hb : Below w.heap.size w W) (h1 : Bs 0 W.heap.size W v1 (sealS s n l.flatten)) => Open_any' s v1 _ W (ht.below hb (Nat.le_refl _)) h1 hzl
  have hE := fun v1 v2 W (hb : Below w.heap.size w W) (h1 : Bs 0 W.heap.size W v1 (sealS s n l.flatten)) (h2 : Pcs 0 W.heap.size W v2 (pcsF 0 l)) => Test_any s v1 v2 _ _ W (ht.below hb (Nat.le_refl _)) h1 hzl h2 (pcs_ok (by omega)) (by rw [pcs_len]; omega)
  rw [open_seal s n (b := l.flatten) (by omega)] at hO
  rw [test_back s n (l := l) (by omega)] at hE
  unfold Ans at hO
  simp only [] at hO
  have hN := fun W => neq_key W s
  obtain ⟨one1, one2⟩ := nx_one n
  subst hv
  have hC := fun k hk v1 W (h1 : Bs 0 W.heap.size W v1 l.flatten) => cut_round l f2 k hk v1 W h1
  have hup := upto_eq l
  have hfl := C.flat_le l
  rw [hup] at hfl
  obtain ⟨ml, hml⟩ : ∃ ml, l.length = ml := ⟨_, rfl⟩
  rw [hml] at hl0 hup hB f1
  have hml' := hml
  unfold Ans at hC
  simp only [] at hC
  generalize sealS s n l.flatten = Z at *
  generalize Z.length = mz at *
  generalize hTT : l.flatten = T at *
  generalize hmt : T.length = mt at *
  have X0 : Fx w (w.alloc (.cells (rgC s n) 27)) [(w.heap.size, 27, rgC s n)] [] [] := (Fx.nil w).newB w.heap.size rfl (rgC s n) 27
  rw [hml] at hF ⊢
  clear hf hne hn ht h hzl
  replace X0 := hide X0; replace hl := hide hl; replace hF := hide hF; replace hB := hide hB; replace hO := hide hO; replace hE := hide hE
  replace hC := hide hC; replace hT := hide hT; replace hml := hide hml; replace hfl := hide hfl; replace hup := hide hup; replace hmt := hide hmt; replace hl0 := hide hl0
  clear hTT hml'
  go_enter Tryd.func3, Tryd.ntmps3
  go_upto_region 1 with (fail)
  generalize hW : World.alloc w _ = W at *
  clear hW
  go_upto_region 11 with (first
    | (go_at_call 6; refine (unhide hl _ (unhide X0).bl).mono ?_; rintro e w1 ⟨rfl, hb1⟩
       have X1 : Fx w w1 [(w.heap.size, 27, rgC s n)] [] [] := (unhide X0).call hb1
       have c0 : w1.cell? ⟨w.heap.size, 0, none⟩ = some (u32v s.a) := (X1.get 0 rfl).cell 0
       have c1 : w1.cell? ⟨w.heap.size, 1, none⟩ = some (u32v s.b) := (X1.get 0 rfl).cell 1
       have c2 : w1.cell? ⟨w.heap.size, 2, none⟩ = some (u32v s.c) := (X1.get 0 rfl).cell 2
       have c3 : w1.cell? ⟨w.heap.size, 3, none⟩ = some (u32v s.d) := (X1.get 0 rfl).cell 3
       have c4 : w1.cell? ⟨w.heap.size, 4, none⟩ = some (u64v n) := (X1.get 0 rfl).cell 4
       replace X1 := hide X1
       clear hb1)
    | (go_at_call 7; refine (unhide hF _ (unhide X1).bl).mono ?_; rintro e wz ⟨rfl, rfl⟩)
    | (go_at_call 8; refine (unhide hB _ (unhide X1).bl).mono ?_; rintro e w2 ⟨A2, c2, Ap, cp, rfl, o2, op, hb2⟩
       have X2' : Fx w w2 [(w.heap.size, 27, rgC s n)] [] [(.slice A2 mz c2, Z)] := ((unhide X1).call hb2).addZ (Bs.of_own0 o2)
       have P2 := (Pcs.of_own op).mono0
       have X2 : Fx w (w2.alloc (.cells (rgC s (n + 1#64)) 27)) [(w.heap.size, 27, rgC s n), (w2.heap.size, 27, rgC s (n + 1#64))] [] [(.slice A2 mz c2, Z)] := X2'.newB w2.heap.size rfl (rgC s (n + 1#64)) 27
       have bg := bl_alloc (Below.refl w2.heap.size w2) (.cells (rgC s (n + 1#64)) 27)
       replace P2 := hide (P2.grow bg)
       obtain ⟨gp, rfl, Q2⟩ := pcAt_own op (unhide hl0)
       have l2 : w.heap.size < w2.heap.size := (X2'.get 0 rfl).lt
       have d0 : w2.cell? ⟨w.heap.size, 0, none⟩ = some (u32v s.a) := (X2'.get 0 rfl).cell 0
       have d1 : w2.cell? ⟨w.heap.size, 1, none⟩ = some (u32v s.b) := (X2'.get 0 rfl).cell 1
       have d2 : w2.cell? ⟨w.heap.size, 2, none⟩ = some (u32v s.c) := (X2'.get 0 rfl).cell 2
       have d3 : w2.cell? ⟨w.heap.size, 3, none⟩ = some (u32v s.d) := (X2'.get 0 rfl).cell 3
       have d4 : w2.cell? ⟨w.heap.size, 4, none⟩ = some (u64v n) := (X2'.get 0 rfl).cell 4
       have q2 := Q2.1
       replace Q2 := hide (Q2.grow bg)
       replace X2 := hide X2
       clear o2 op hb2 X2' bg)
    | (go_at_call 9; refine (unhide hO _ _ (unhide X2).bl ((unhide X2).rd 0 rfl)).mono ?_; rintro e w3 ⟨A3, c3, rfl, o3, hb3⟩
       have X3 : Fx w w3 [(w.heap.size, 27, rgC s n), (w2.heap.size, 27, rgC s (n + 1#64))] [] [(.slice A2 mz c2, Z), (.slice A3 mt c3, T)] := ((unhide X2).call hb3).addZ (Bs.of_own0 o3)
       have P3 := hide ((unhide P2).grow hb3)
       have Q3 := hide ((unhide Q2).grow hb3)
       have l30 : w.heap.size < w3.heap.size := (X3.get 0 rfl).lt
       have l31 : w2.heap.size < w3.heap.size := (X3.get 1 rfl).lt
       have ea0 : w3.cell? ⟨w.heap.size, 0, none⟩ = some (u32v s.a) := (X3.get 0 rfl).cell 0
       have ea1 : w3.cell? ⟨w.heap.size, 1, none⟩ = some (u32v s.b) := (X3.get 0 rfl).cell 1
       have ea2 : w3.cell? ⟨w.heap.size, 2, none⟩ = some (u32v s.c) := (X3.get 0 rfl).cell 2
       have ea3 : w3.cell? ⟨w.heap.size, 3, none⟩ = some (u32v s.d) := (X3.get 0 rfl).cell 3
       have ea4 : w3.cell? ⟨w.heap.size, 4, none⟩ = some (u64v n) := (X3.get 0 rfl).cell 4
       have eb0 : w3.cell? ⟨w2.heap.size, 0, none⟩ = some (u32v s.a) := (X3.get 1 rfl).cell 0
       have eb1 : w3.cell? ⟨w2.heap.size, 1, none⟩ = some (u32v s.b) := (X3.get 1 rfl).cell 1
       have eb2 : w3.cell? ⟨w2.heap.size, 2, none⟩ = some (u32v s.c) := (X3.get 1 rfl).cell 2
       have eb3 : w3.cell? ⟨w2.heap.size, 3, none⟩ = some (u32v s.d) := (X3.get 1 rfl).cell 3
       have eb4 : w3.cell? ⟨w2.heap.size, 4, none⟩ = some (u64v (n + 1#64)) := (X3.get 1 rfl).cell 4
       replace X3 := hide X3
       clear o3 hb3)
    | (go_at_call 10; refine (unhide hE _ _ _ (unhide X3).bl ((unhide X3).rd 0 rfl) (unhide P3)).mono ?_; rintro e w4 ⟨rfl, hb4⟩
       have X4 : Fx w w4 [(w.heap.size, 27, rgC s n)] [] [(.slice A3 mt c3, T)] := ((unhide X3).call hb4).sub (by simp) (by simp) (by simp)
       have Q4 := hide ((unhide Q3).grow hb4)
       replace X4 := hide X4
       clear hb4)
    | fail)
  clear X0 X1 X2 X3 P2 P3 Q2 Q3 hB hO hE hl hF
  go_wp2_with fail
  go_loopw [12, 83] (fun s12 s83 wr => ∃ k : Nat, k ≤ ml ∧ s83 = .int .i64 k ∧ s12 = .int .i64 (C.upto l k : Nat) ∧ Hid (Fx w wr [] [] [(.slice A3 mt c3, T)]) ∧ Hid (PcAt wr gp l)) (fun _ i _ => ml - (intOf i).toNat)
  case atStart => exact ⟨0, by omega, rfl, rfl, hide ((unhide X4).sub (fun _ h => (nomatch h)) (fun _ h => h) (fun _ h => h)), Q4⟩
  case round =>
    obtain ⟨k, hk, rfl, rfl, X5, Q5⟩ := hrel
    by_cases hlt : k < ml
    · have hlt' : k < l.length := by rw [unhide hml]; exact hlt
      have T5 := (unhide hT).grow (unhide X5).bl
      obtain ⟨Ax, cx, hcx, hx⟩ := T5.at_ k hlt'
      have hbl := T5.lt
      obtain ⟨p0, p1, p2⟩ := (unhide Q5).2 k hlt'
      have hq := (unhide Q5).1
      have hc := unhide hC k hlt' (.slice A3 mt c3)
      have ha : C.upto l (k + 1) = C.upto l k + l[k].length := C.upto_succ hlt'
      have hb := unhide hfl (k + 1)
      rw [ha] at hb
      have hQ := fun w6 (hb6 : Below wr.heap.size wr w6) => ((unhide Q5).grow hb6).2 k hlt'
      have hq6 := fun w6 (hb6 : Below wr.heap.size wr w6) => (Nat.lt_of_lt_of_le hq hb6.size : gp < w6.heap.size)
      generalize C.sumR l[k] = S at *
      generalize l[k] = N at *
      generalize ha1 : C.upto l k = m at *
      generalize N.length = d at *
      have u1 : (0 : Int) ≤ (m : Int) + (d : Int) := by omega
      have u2 : (m : Int) + (d : Int) ≤ 480 := by omega
      replace ha := hide ha; replace hc := hide hc; replace hx := hide hx; replace hQ := hide hQ; replace hq6 := hide hq6
      clear hb T5
      go_wp2_with (first
        | (go_at_call 11; refine (unhide hc _ ((unhide X5).rd 0 rfl)).mono ?_; rintro e w6 ⟨A6, c6, rfl, o6, hb6⟩
           have X6 := hide ((unhide X5).call hb6)
           have Q6 := hide ((unhide Q5).grow hb6)
           obtain ⟨r0, r1, r2⟩ := unhide hQ w6 hb6
           have lq := unhide hq6 w6 hb6
           have y6 := hide (Bs.of_own0 o6)
           have x6 := hide ((unhide hx).to hb6)
           clear o6 hb6)
        | (go_at_call 12; refine (same_yes _ _ _ _ _ _ _ _ (unhide x6) (unhide y6)).mono ?_; rintro e wz ⟨rfl, rfl⟩)
        | fail)
      go_roundw
      case rel => exact ⟨k + 1, by omega, by go_num, by rw [unhide ha]; go_num, X6, Q6⟩
      case measure => simp [intOf]; omega
    · obtain rfl : k = ml := by omega
      have hup' := unhide hup
      rw [hup']
      clear hup'
      go_wp2_with fail
      go_ret
      exact ⟨rfl, (unhide X5).bl⟩
theorem back_law (s : St) (n : Nx) (v : Value) (l : List (List UInt8)) (w : World) (ht : Tab w) (h : Bss w.heap.size w v l) (hn : (l.length : Int) ≤ 9223372036854775807) :
    Calls Tryd.prog 3 #[rgV s n, v] w fun e w' => e = .returned (.bool true) ∧ Below w.heap.size w w' := by
  cases hf : fewB l with
  | false => exact back_gate s n v l w ht h hn hf
  | true =>
    by_cases hne : n = 18446744073709551615#64
    · exact back_end s n v l w ht h hn hf hne
    · rcases h.parts with ⟨hl, A, c, hv⟩ | ⟨b, off, c, hv, hT⟩
      · exact back_nil s n v l w ht h hn hf hne A c hv hl
      · rcases Nat.eq_zero_or_pos l.length with h0 | h0
        · exact back_nil s n v l w ht h hn hf hne _ c (by rw [hv, h0]) (List.eq_nil_of_length_eq_zero h0)
        · exact back_main s n v l w ht h hn hf hne b off c hv hT h0
end Go.Proofs.YthkccpemgmpadaaDoor
