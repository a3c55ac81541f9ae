import Derived.Test.YthmhhgodjpgjnaaW50
namespace Go.Proofs.Ythmhhgodjpgjnaa
open Go.RowKit

theorem slice_lh23 (A : Option Addr) (n c i j : Nat) (hij : i ≤ j) (hj : j ≤ c) (W : World) :
    (Instr.slice 23 (.slice A n c) (some (.int .i64 (i : Int))) (some (.int .i64 (j : Int))) none).run Try.prog W = .ok (sliced A i j c 1) W := by
  rw [run_slice_lh (P := Try.prog) W 23 A n c (by kernel_rfl) .i64 .i64 i j (by omega) (by omega) (by omega), show (sizeOf (Try.prog.elem 23)).run Try.prog W = .ok 1 W from by kernel_rfl]
  simp [Result.andThen]

set_option maxHeartbeats 1000000 in
theorem refStart_few (n : Nat) (hn : n ≤ 1024) (lo : Nat) (v : Value) (t : List Int) (w : World) (hv : Os lo w.heap.size w v t) (h : t.length < 5) :
    Calls Try.prog 17 #[.int .i64 n, v] w fun e w' => e = .returned (.tuple #[.agg #[.slice none 0 0, .int .u32 0, .int .u32 0, .int .i64 0], .int .i64 2]) ∧ Below w.heap.size w w' := by
  have hN := fun W => refNew_own n hn W
  obtain ⟨A, c, rfl, x1, x2, x3⟩ := Os.open hv
  clear hv x3
  have h' : (t.length : Int) < 5 := by omega
  replace hN := hide hN
  go_enter Try.func17, Try.ntmps17
  go_wp2_with (first
    | (go_at_call 28; refine (unhide hN _).mono ?_; rintro e w1 ⟨A1, c1, rfl, ho, hb1⟩; replace ho := hide ho
       have hk := hide (Blk.below (g := w.heap.size) (t := 40) (cs := #[.slice none 0 0, .int .u32 0, .int .u32 0, .int .i64 0]) (Blk.new rfl) hb1 (by simp))
       have f0 := (unhide hk).frozen 0; have f1 := (unhide hk).frozen 1; have f2 := (unhide hk).frozen 2; have f3 := (unhide hk).frozen 3
       have r0 := (unhide hk).cell 0; have r1 := (unhide hk).cell 1; have r2 := (unhide hk).cell 2; have r3 := (unhide hk).cell 3
       simp at r0 r1 r2 r3)
    | fail)
  refine ret_rg rfl w.heap.size (.slice none 0 0) (.int .u32 0) (.int .u32 0) (.int .i64 0) (.int .i64 2) rfl rfl (unhide hk).set4 rfl ⟨rfl, ?_⟩
  (repeat (first | with_reducible exact Below.refl _ _ | with_reducible assumption | with_reducible refine Below.drew ?_ | with_reducible refine bl_alloc ?_ _ | with_reducible refine bl_call ?_ (by assumption) | (focus (with_reducible refine Below.setCell ?_ ?_ _; rotate_left; focus (first | omega | (simp <;> omega)))) | fail))

set_option maxHeartbeats 1000000 in
theorem refStart_zero (n : Nat) (hn : n ≤ 1024) (lo : Nat) (v : Value) (t : List Int) (w : World) (hv : Os lo w.heap.size w v t) (h5 : 5 ≤ t.length) (h : t.getD 0 0 ≠ 0) :
    Calls Try.prog 17 #[.int .i64 n, v] w fun e w' => e = .returned (.tuple #[.agg #[.slice none 0 0, .int .u32 0, .int .u32 0, .int .i64 0], .int .i64 2]) ∧ Below w.heap.size w w' := by
  have hN := fun W => refNew_own n hn W
  obtain ⟨A, c, rfl, x1, x2, x3⟩ := Os.open hv
  obtain ⟨b, off, rfl, y1, y2, q0⟩ := x3 0 (by omega)
  rw [getD_get (l := t) (k := 0) (by omega)] at h
  rw [Nat.add_zero] at q0
  generalize t[0] = o at *
  clear hv x3
  have h' : (o != 0) = true := by simpa using h
  have hL : 5 ≤ (t.length : Int) := by omega
  replace hN := hide hN
  clear h
  go_enter Try.func17, Try.ntmps17
  go_wp2_with (first
    | (go_at_call 28; refine (unhide hN _).mono ?_; rintro e w1 ⟨A1, c1, rfl, ho, hb1⟩; replace ho := hide ho
       have hk := hide (Blk.below (g := w.heap.size) (t := 40) (cs := #[.slice none 0 0, .int .u32 0, .int .u32 0, .int .i64 0]) (Blk.new rfl) hb1 (by simp))
       have f0 := (unhide hk).frozen 0; have f1 := (unhide hk).frozen 1; have f2 := (unhide hk).frozen 2; have f3 := (unhide hk).frozen 3
       have r0 := (unhide hk).cell 0; have r1 := (unhide hk).cell 1; have r2 := (unhide hk).cell 2; have r3 := (unhide hk).cell 3
       simp at r0 r1 r2 r3
       have hlt1 : w.heap.size < w1.heap.size := (unhide hk).lt
       have q0' := (hb1.cell (p := ⟨b, off, none⟩) (by simp; omega)).trans ((World.cell?_of_block (a := ⟨b, off, none⟩) (Below.heap_alloc w (.cells #[.slice none 0 0, .int .u32 0, .int .u32 0, .int .i64 0] 40) b y2)).trans q0)
       have y9 : b < w1.heap.size := by omega)
    | fail)
  refine ret_rg rfl w.heap.size (.slice none 0 0) (.int .u32 0) (.int .u32 0) (.int .i64 0) (.int .i64 2) rfl rfl (unhide hk).set4 rfl ⟨rfl, ?_⟩
  (repeat (first | with_reducible exact Below.refl _ _ | with_reducible assumption | with_reducible refine Below.drew ?_ | with_reducible refine bl_alloc ?_ _ | with_reducible refine bl_call ?_ (by assumption) | (focus (with_reducible refine Below.setCell ?_ ?_ _; rotate_left; focus (first | omega | (simp <;> omega)))) | fail))

set_option maxHeartbeats 2000000 in
theorem refStart_full (n : Nat) (hn : n ≤ 1024) (lo : Nat) (v : Value) (t : List Int) (w : World) (hv : Os lo w.heap.size w v t) (ht : okB t) (h5 : 5 ≤ t.length) (h3 : t.getD 0 0 = 0) (h4 : num ((t.drop 1).take 4) = 4294967295) :
    Calls Try.prog 17 #[.int .i64 n, v] w fun e w' => e = .returned (.tuple #[.agg #[.slice none 0 0, .int .u32 0, .int .u32 0, .int .i64 0], .int .i64 2]) ∧ Below w.heap.size w w' := by
  have hN := fun W => refNew_own n hn W
  have g1 := ht t[1] (List.getElem_mem _); have g2 := ht t[2] (List.getElem_mem _); have g3 := ht t[3] (List.getElem_mem _); have g4 := ht t[4] (List.getElem_mem _)
  rw [take4 h5] at h4
  have n4 : num [t[1], t[2], t[3], t[4]] = ((t[1] * 256 + t[2]) * 256 + t[3]) * 256 + t[4] := by simp [num, numR]; omega
  rw [n4] at h4
  obtain ⟨A, c, rfl, x1, x2, x3⟩ := Os.open hv
  obtain ⟨b, off, rfl, y1, y2, q0⟩ := x3 0 (by omega)
  have qq : ∀ i (hi : i < t.length), w.cell? ⟨b, off + i, none⟩ = some (.int .u8 t[i]) := fun i hi => by
    obtain ⟨b', off', e, _, _, hc⟩ := x3 i hi
    injection e with e; injection e with e1 e2; subst e1 e2
    exact hc
  have q1 := qq 1 (by omega); have q2 := qq 2 (by omega); have q3 := qq 3 (by omega); have q4 := qq 4 (by omega)
  have e0 : t[0] = 0 := by rw [← getD_get (l := t) (k := 0) (by omega)]; exact h3
  rw [e0, Nat.add_zero] at q0
  have sl := slice_lh23 (some ⟨b, off, none⟩) t.length c 1 5 (by omega) (by omega)
  unfold sliced at sl
  rw [if_neg (by omega)] at sl
  have hL : 5 ≤ (t.length : Int) := by omega
  generalize t[1] = o1 at *; generalize t[2] = o2 at *; generalize t[3] = o3 at *; generalize t[4] = o4 at *
  clear x3 qq h3 hv ht e0 n4
  have m0 : IntKind.u32.wrap (0 + o1) = o1 := by rw [IntWalk.u32_in _ (by omega)]; omega
  have m0' : IntKind.u32.wrap o1 = o1 := IntWalk.u32_in _ (by omega)
  have m1 : IntKind.u32.wrap (o1 * 256) = o1 * 256 := IntWalk.u32_in _ (by omega)
  have m2 : IntKind.u32.wrap ((o1 * 256 + o2) * 256) = (o1 * 256 + o2) * 256 := IntWalk.u32_in _ (by omega)
  have m3 : IntKind.u32.wrap (((o1 * 256 + o2) * 256 + o3) * 256) = ((o1 * 256 + o2) * 256 + o3) * 256 := IntWalk.u32_in _ (by omega)
  have p2 : IntKind.u32.wrap (o1 * 256 + o2) = o1 * 256 + o2 := IntWalk.u32_in _ (by omega)
  have p3 : IntKind.u32.wrap ((o1 * 256 + o2) * 256 + o3) = (o1 * 256 + o2) * 256 + o3 := IntWalk.u32_in _ (by omega)
  have p4 : IntKind.u32.wrap (((o1 * 256 + o2) * 256 + o3) * 256 + o4) = ((o1 * 256 + o2) * 256 + o3) * 256 + o4 := IntWalk.u32_in _ (by omega)
  have v2 : IntKind.u32.wrap o2 = o2 := IntWalk.u32_in _ (by omega)
  have v3 : IntKind.u32.wrap o3 = o3 := IntWalk.u32_in _ (by omega)
  have v4 : IntKind.u32.wrap o4 = o4 := IntWalk.u32_in _ (by omega)
  replace hN := hide hN; replace h4 := hide h4
  clear g1 g2 g3 g4
  go_enter Try.func17, Try.ntmps17
  go_wp2_with (first
    | (go_at_call 28; refine (unhide hN _).mono ?_; rintro e w1 ⟨A1, c1, rfl, ho, hb1⟩; replace ho := hide ho
       have hk := hide (Blk.below (g := w.heap.size) (t := 40) (cs := #[.slice none 0 0, .int .u32 0, .int .u32 0, .int .i64 0]) (Blk.new rfl) hb1 (by simp))
       have f0 := (unhide hk).frozen 0; have f1 := (unhide hk).frozen 1; have f2 := (unhide hk).frozen 2; have f3 := (unhide hk).frozen 3
       have r0 := (unhide hk).cell 0; have r1 := (unhide hk).cell 1; have r2 := (unhide hk).cell 2; have r3 := (unhide hk).cell 3
       simp at r0 r1 r2 r3
       have hlt1 : w.heap.size < w1.heap.size := (unhide hk).lt
       have qs : ∀ i u, w.cell? ⟨b, i, none⟩ = some u → w1.cell? ⟨b, i, none⟩ = some u := fun i u q => (hb1.cell (p := ⟨b, i, none⟩) (by simp; omega)).trans ((World.cell?_of_block (a := ⟨b, i, none⟩) (Below.heap_alloc w (.cells #[.slice none 0 0, .int .u32 0, .int .u32 0, .int .i64 0] 40) b y2)).trans q)
       have q0' := qs _ _ q0; have q1' := qs _ _ q1; have q2' := qs _ _ q2; have q3' := qs _ _ q3; have q4' := qs _ _ q4
       clear qs
       have y9 : b < w1.heap.size := by omega)
    | fail)
  go_loopw [8, 33] (fun s i wr => ((i = .int .i64 0 ∧ s = .int .u32 0) ∨ (i = .int .i64 1 ∧ s = .int .u32 o1) ∨ (i = .int .i64 2 ∧ s = .int .u32 (o1 * 256 + o2)) ∨ (i = .int .i64 3 ∧ s = .int .u32 ((o1 * 256 + o2) * 256 + o3)) ∨ (i = .int .i64 4 ∧ s = .int .u32 (((o1 * 256 + o2) * 256 + o3) * 256 + o4))) ∧ w1 = wr) (fun _ i _ => 4 - (intOf i).toNat)
  case atStart => exact ⟨.inl ⟨rfl, rfl⟩, rfl⟩
  case round =>
    obtain ⟨hcase, rfl⟩ := hrel
    rcases hcase with ⟨rfl, rfl⟩ | ⟨rfl, rfl⟩ | ⟨rfl, rfl⟩ | ⟨rfl, rfl⟩ | ⟨rfl, rfl⟩
    · go_wp2_with fail
      go_roundw
      case rel => exact ⟨.inr (.inl ⟨rfl, rfl⟩), by first | rfl | trivial⟩
      case measure => decide
    · go_wp2_with fail
      go_roundw
      case rel => exact ⟨.inr (.inr (.inl ⟨rfl, rfl⟩)), by first | rfl | trivial⟩
      case measure => decide
    · go_wp2_with fail
      go_roundw
      case rel => exact ⟨.inr (.inr (.inr (.inl ⟨rfl, rfl⟩))), by first | rfl | trivial⟩
      case measure => decide
    · go_wp2_with fail
      go_roundw
      case rel => exact ⟨.inr (.inr (.inr (.inr (⟨rfl, rfl⟩)))), by first | rfl | trivial⟩
      case measure => decide
    · clear q0' q1' q2' q3' q4' m0 m0' m1 m2 m3 p2 p3 p4 v2 v3 v4
      have h4' := unhide h4
      have heq : ((((o1 * 256 + o2) * 256 + o3) * 256 + o4) == 4294967295) = true := by rw [beq_iff_eq]; omega
      clear h4'
      go_wp2_with fail
      refine ret_rg rfl w.heap.size (.slice none 0 0) (.int .u32 0) (.int .u32 0) (.int .i64 0) (.int .i64 2) rfl rfl (unhide hk).set4 rfl ⟨rfl, ?_⟩
      (repeat (first | with_reducible exact Below.refl _ _ | with_reducible assumption | with_reducible refine Below.drew ?_ | with_reducible refine bl_alloc ?_ _ | with_reducible refine bl_call ?_ (by assumption) | (focus (with_reducible refine Below.setCell ?_ ?_ _; rotate_left; focus (first | omega | (simp <;> omega)))) | fail))

set_option maxHeartbeats 2000000 in
theorem refStart_good (n : Nat) (hn : n ≤ 1024) (lo : Nat) (v : Value) (t : List Int) (w : World) (hv : Os lo w.heap.size w v t) (ht : okB t) (h5 : 5 ≤ t.length) (h3 : t.getD 0 0 = 0) (h4 : num ((t.drop 1).take 4) ≠ 4294967295) :
    Calls Try.prog 17 #[.int .i64 n, v] w fun e w' => ∃ v', e = .returned (.tuple #[v', .int .i64 0]) ∧ RgO w.heap.size w' v' (startR n t) ∧ Below w.heap.size w w' := by
  have hN := fun W => refNew_own n hn W
  have g1 := ht t[1] (List.getElem_mem _); have g2 := ht t[2] (List.getElem_mem _); have g3 := ht t[3] (List.getElem_mem _); have g4 := ht t[4] (List.getElem_mem _)
  rw [take4 h5] at h4
  have n4 : num [t[1], t[2], t[3], t[4]] = ((t[1] * 256 + t[2]) * 256 + t[3]) * 256 + t[4] := by simp [num, numR]; omega
  rw [n4] at h4
  have hst : startR n t = ⟨List.replicate n 1024, 4294967295, ((t[1] * 256 + t[2]) * 256 + t[3]) * 256 + t[4], 5⟩ := by unfold startR; rw [take4 h5, n4]; simp
  rw [hst]
  clear hst
  obtain ⟨A, c, rfl, x1, x2, x3⟩ := Os.open hv
  obtain ⟨b, off, rfl, y1, y2, q0⟩ := x3 0 (by omega)
  have qq : ∀ i (hi : i < t.length), w.cell? ⟨b, off + i, none⟩ = some (.int .u8 t[i]) := fun i hi => by
    obtain ⟨b', off', e, _, _, hc⟩ := x3 i hi
    injection e with e; injection e with e1 e2; subst e1 e2
    exact hc
  have q1 := qq 1 (by omega); have q2 := qq 2 (by omega); have q3 := qq 3 (by omega); have q4 := qq 4 (by omega)
  have e0 : t[0] = 0 := by rw [← getD_get (l := t) (k := 0) (by omega)]; exact h3
  rw [e0, Nat.add_zero] at q0
  have sl := slice_lh23 (some ⟨b, off, none⟩) t.length c 1 5 (by omega) (by omega)
  unfold sliced at sl
  rw [if_neg (by omega)] at sl
  have hL : 5 ≤ (t.length : Int) := by omega
  generalize t[1] = o1 at *; generalize t[2] = o2 at *; generalize t[3] = o3 at *; generalize t[4] = o4 at *
  clear x3 qq h3 hv ht e0 n4
  have m0 : IntKind.u32.wrap (0 + o1) = o1 := by rw [IntWalk.u32_in _ (by omega)]; omega
  have m0' : IntKind.u32.wrap o1 = o1 := IntWalk.u32_in _ (by omega)
  have m1 : IntKind.u32.wrap (o1 * 256) = o1 * 256 := IntWalk.u32_in _ (by omega)
  have m2 : IntKind.u32.wrap ((o1 * 256 + o2) * 256) = (o1 * 256 + o2) * 256 := IntWalk.u32_in _ (by omega)
  have m3 : IntKind.u32.wrap (((o1 * 256 + o2) * 256 + o3) * 256) = ((o1 * 256 + o2) * 256 + o3) * 256 := IntWalk.u32_in _ (by omega)
  have p2 : IntKind.u32.wrap (o1 * 256 + o2) = o1 * 256 + o2 := IntWalk.u32_in _ (by omega)
  have p3 : IntKind.u32.wrap ((o1 * 256 + o2) * 256 + o3) = (o1 * 256 + o2) * 256 + o3 := IntWalk.u32_in _ (by omega)
  have p4 : IntKind.u32.wrap (((o1 * 256 + o2) * 256 + o3) * 256 + o4) = ((o1 * 256 + o2) * 256 + o3) * 256 + o4 := IntWalk.u32_in _ (by omega)
  have v2 : IntKind.u32.wrap o2 = o2 := IntWalk.u32_in _ (by omega)
  have v3 : IntKind.u32.wrap o3 = o3 := IntWalk.u32_in _ (by omega)
  have v4 : IntKind.u32.wrap o4 = o4 := IntWalk.u32_in _ (by omega)
  replace hN := hide hN; replace h4 := hide h4
  clear g1 g2 g3 g4
  go_enter Try.func17, Try.ntmps17
  go_wp2_with (first
    | (go_at_call 28; refine (unhide hN _).mono ?_; rintro e w1 ⟨A1, c1, rfl, ho, hb1⟩; replace ho := hide ho
       have hk := hide (Blk.below (g := w.heap.size) (t := 40) (cs := #[.slice none 0 0, .int .u32 0, .int .u32 0, .int .i64 0]) (Blk.new rfl) hb1 (by simp))
       have f0 := (unhide hk).frozen 0; have f1 := (unhide hk).frozen 1; have f2 := (unhide hk).frozen 2; have f3 := (unhide hk).frozen 3
       have r0 := (unhide hk).cell 0; have r1 := (unhide hk).cell 1; have r2 := (unhide hk).cell 2; have r3 := (unhide hk).cell 3
       simp at r0 r1 r2 r3
       have hlt1 : w.heap.size < w1.heap.size := (unhide hk).lt
       have qs : ∀ i u, w.cell? ⟨b, i, none⟩ = some u → w1.cell? ⟨b, i, none⟩ = some u := fun i u q => (hb1.cell (p := ⟨b, i, none⟩) (by simp; omega)).trans ((World.cell?_of_block (a := ⟨b, i, none⟩) (Below.heap_alloc w (.cells #[.slice none 0 0, .int .u32 0, .int .u32 0, .int .i64 0] 40) b y2)).trans q)
       have q0' := qs _ _ q0; have q1' := qs _ _ q1; have q2' := qs _ _ q2; have q3' := qs _ _ q3; have q4' := qs _ _ q4
       clear qs
       have y9 : b < w1.heap.size := by omega)
    | fail)
  go_loopw [8, 33] (fun s i wr => ((i = .int .i64 0 ∧ s = .int .u32 0) ∨ (i = .int .i64 1 ∧ s = .int .u32 o1) ∨ (i = .int .i64 2 ∧ s = .int .u32 (o1 * 256 + o2)) ∨ (i = .int .i64 3 ∧ s = .int .u32 ((o1 * 256 + o2) * 256 + o3)) ∨ (i = .int .i64 4 ∧ s = .int .u32 (((o1 * 256 + o2) * 256 + o3) * 256 + o4))) ∧ w1 = wr) (fun _ i _ => 4 - (intOf i).toNat)
  case atStart => exact ⟨.inl ⟨rfl, rfl⟩, rfl⟩
  case round =>
    obtain ⟨hcase, rfl⟩ := hrel
    rcases hcase with ⟨rfl, rfl⟩ | ⟨rfl, rfl⟩ | ⟨rfl, rfl⟩ | ⟨rfl, rfl⟩ | ⟨rfl, rfl⟩
    · go_wp2_with fail
      go_roundw
      case rel => exact ⟨.inr (.inl ⟨rfl, rfl⟩), by first | rfl | trivial⟩
      case measure => decide
    · go_wp2_with fail
      go_roundw
      case rel => exact ⟨.inr (.inr (.inl ⟨rfl, rfl⟩)), by first | rfl | trivial⟩
      case measure => decide
    · go_wp2_with fail
      go_roundw
      case rel => exact ⟨.inr (.inr (.inr (.inl ⟨rfl, rfl⟩))), by first | rfl | trivial⟩
      case measure => decide
    · go_wp2_with fail
      go_roundw
      case rel => exact ⟨.inr (.inr (.inr (.inr (⟨rfl, rfl⟩)))), by first | rfl | trivial⟩
      case measure => decide
    · clear q0' q1' q2' q3' q4' m0 m0' m1 m2 m3 p2 p3 p4 v2 v3 v4
      have h4' := unhide h4
      have heq : ((((o1 * 256 + o2) * 256 + o3) * 256 + o4) == 4294967295) = false := by rw [beq_eq_false_iff_ne]; omega
      clear h4'
      go_wp2_with fail
      generalize ((o1 * 256 + o2) * 256 + o3) * 256 + o4 = N at *
      have h3 := ownsRow_mono (unhide ho) (show w.heap.size ≤ _ by simp)
      have K := unhide hk
      have o9 := own_far (own_far (own_far (own_far h3 K (by decide) 0 (.slice A1 n c1)) (K.set 0 _) (by decide) 1 (.int .u32 4294967295)) ((K.set 0 _).set 1 _) (by decide) 2 (.int .u32 N)) (((K.set 0 _).set 1 _).set 2 _) (by decide) 3 (.int .i64 5)
      refine ret_rg rfl w.heap.size (.slice A1 n c1) (.int .u32 4294967295) (.int .u32 N) (.int .i64 5) (.int .i64 0) rfl rfl K.set4 rfl ?_
      refine ⟨_, rfl, ⟨A1, c1, by simp, ?_⟩, ?_⟩
      · rw [List.length_replicate]; exact o9
      · (repeat (first | with_reducible exact Below.refl _ _ | with_reducible assumption | with_reducible refine Below.drew ?_ | with_reducible refine bl_alloc ?_ _ | with_reducible refine bl_call ?_ (by assumption) | (focus (with_reducible refine Below.setCell ?_ ?_ _; rotate_left; focus (first | omega | (simp <;> omega)))) | fail))


theorem refStart_bad (n : Int) (lo : Nat) (v : Value) (t : List Int) (w : World) (hv : Os lo w.heap.size w v t) (ht : okB t) (h : startE n t ≠ 0) :
    Calls Try.prog 17 #[.int .i64 n, v] w fun e w' => e = .returned (.tuple #[.agg #[.slice none 0 0, .int .u32 0, .int .u32 0, .int .i64 0], .int .i64 (startE n t)]) ∧ Below w.heap.size w w' := by
  cases hn : newN n
  · have e : startE n t = 1 := by unfold startE; rw [if_pos hn]
    rw [e]
    exact refStart_arg n hn v w
  · have e : startE n t = 2 := by
      unfold startE at h ⊢
      rw [if_neg (by rw [hn]; decide)] at h ⊢
      split
      · rfl
      · rename_i h1
        rw [if_neg h1] at h
        exact absurd rfl h
    have h' : ¬ startE n t = 0 := h
    rw [startE_iff] at h'
    rw [e]
    obtain ⟨n0, n1⟩ := newN_iff.1 hn
    obtain ⟨m, rfl⟩ : ∃ m : Nat, n = (m : Int) := ⟨n.toNat, by omega⟩
    by_cases h5 : t.length < 5
    · exact refStart_few m (by omega) lo v t w hv h5
    · by_cases h0 : t.getD 0 0 = 0
      · exact refStart_full m (by omega) lo v t w hv ht (by omega) h0 (Decidable.byContradiction fun hc => h' ⟨hn, by omega, h0, hc⟩)
      · exact refStart_zero m (by omega) lo v t w hv (by omega) h0
theorem refStart_ok (n : Nat) (hn : n ≤ 1024) (lo : Nat) (v : Value) (t : List Int) (w : World) (hv : Os lo w.heap.size w v t) (ht : okB t) (h : startE n t = 0) :
    Calls Try.prog 17 #[.int .i64 n, v] w fun e w' => ∃ v', e = .returned (.tuple #[v', .int .i64 0]) ∧ RgO w.heap.size w' v' (startR n t) ∧ Below w.heap.size w w' := by
  obtain ⟨_, h5, h3, h4⟩ := startE_iff.1 h
  exact refStart_good n hn lo v t w hv ht h5 h3 h4
end Go.Proofs.Ythmhhgodjpgjnaa
