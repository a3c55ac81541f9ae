import Derived.Test.YthmhhgodjpgjnaaW33
namespace Go.Proofs.Ythmhhgodjpgjnaa
open Go.RowKit

set_option maxHeartbeats 2000000 in
theorem NewReader_arg (n : Int) (hn : newN n = false) (v : Value) (w : World) :
    Calls Try.prog 16 #[.int .i64 n, v] w fun e w' => e = .returned (.tuple #[.pointer none, .int .i64 1]) ∧ Below w.heap.size w w' := by
  have hS := fun W => start_bad n hn W
  replace hS := hide hS
  clear hn
  go_enter Try.func16, Try.ntmps16
  go_wp2_with (first
    | (go_at_call 22; refine (unhide hS _).mono ?_; rintro e w1 ⟨rfl, hb1⟩)
    | fail)
  go_ret2
  exact ⟨rfl, by (repeat (first | with_reducible exact Below.refl _ _ | with_reducible assumption | with_reducible refine Below.drew ?_ | with_reducible refine bl_alloc ?_ _ | with_reducible refine bl_call ?_ (by assumption) | (focus (with_reducible refine Below.setCell ?_ ?_ _; rotate_left; focus (first | omega | (simp <;> omega)))) | fail))⟩

set_option maxHeartbeats 2000000 in
theorem NewReader_few (n : Nat) (hn : n ≤ 1024) (lo : Nat) (v : Value) (t : List Int) (w : World) (hv : Os lo w.heap.size w v t) (h : t.length < 5) :
    Calls Try.prog 16 #[.int .i64 n, v] w fun e w' => e = .returned (.tuple #[.pointer none, .int .i64 2]) ∧ Below w.heap.size w w' := by
  have hS := fun W => start_good n hn W
  obtain ⟨A, c, rfl, x1, x2, x3⟩ := hv.open
  clear hv x3
  have h' : (t.length : Int) < 5 := by omega
  replace hS := hide hS
  go_enter Try.func16, Try.ntmps16
  go_wp2_with (first
    | (go_at_call 22; refine (unhide hS _).mono ?_; rintro e w1 ⟨gc, rfl, ho, hb1⟩; replace ho := hide ho)
    | fail)
  go_ret2
  exact ⟨rfl, by (repeat (first | with_reducible exact Below.refl _ _ | with_reducible assumption | with_reducible refine Below.drew ?_ | with_reducible refine bl_alloc ?_ _ | with_reducible refine bl_call ?_ (by assumption) | (focus (with_reducible refine Below.setCell ?_ ?_ _; rotate_left; focus (first | omega | (simp <;> omega)))) | fail))⟩

set_option maxHeartbeats 2000000 in
theorem NewReader_zero (n : Nat) (hn : n ≤ 1024) (lo : Nat) (v : Value) (t : List Int) (w : World) (hv : Os lo w.heap.size w v t) (h5 : 5 ≤ t.length) (h : t.getD 0 0 ≠ 0) :
    Calls Try.prog 16 #[.int .i64 n, v] w fun e w' => e = .returned (.tuple #[.pointer none, .int .i64 2]) ∧ Below w.heap.size w w' := by
  have hS := fun W => start_good n hn W
  obtain ⟨A, c, rfl, x1, x2, x3⟩ := hv.open
  obtain ⟨b, off, rfl, y1, y2, q0⟩ := x3 0 (by omega)
  rw [getD_get (l := t) (k := 0) (by omega)] at h
  rw [Nat.add_zero] at q0
  generalize t[0] = o at *
  clear hv x3
  have h' : (o != 0) = true := by simpa using h
  have hL : 5 ≤ (t.length : Int) := by omega
  replace hS := hide hS
  clear h
  go_enter Try.func16, Try.ntmps16
  go_wp2_with (first
    | (go_at_call 22; refine (unhide hS _).mono ?_; rintro e w1 ⟨gc, rfl, ho, hb1⟩; replace ho := hide ho; (obtain ⟨hc1, hf1⟩ := bcell hb1; have hz1 := hb1.size; (try have y0 : w.heap.size < w1.heap.size := (by (simp at hz1; omega))); (try have y1 : w.heap.size + 1 < w1.heap.size := (by (simp at hz1; omega))); (try have y2 : w.heap.size + 2 < w1.heap.size := (by (simp at hz1; omega))); (try have y3 : w.heap.size + 3 < w1.heap.size := (by (simp at hz1; omega))); clear hz1); have y9 : b < w1.heap.size := (by have := hb1.size; omega))
    | fail)
  go_ret2
  exact ⟨rfl, by (repeat (first | with_reducible exact Below.refl _ _ | with_reducible assumption | with_reducible refine Below.drew ?_ | with_reducible refine bl_alloc ?_ _ | with_reducible refine bl_call ?_ (by assumption) | (focus (with_reducible refine Below.setCell ?_ ?_ _; rotate_left; focus (first | omega | (simp <;> omega)))) | fail))⟩

set_option maxHeartbeats 4000000 in
theorem NewReader_full (n : Nat) (hn : n ≤ 1024) (lo : Nat) (v : Value) (t : List Int) (w : World) (hv : Os lo w.heap.size w v t) (ht : okB t) (h5 : 5 ≤ t.length) (h3 : t.getD 0 0 = 0) (h4 : num ((t.drop 1).take 4) = 4294967295) :
    Calls Try.prog 16 #[.int .i64 n, v] w fun e w' => e = .returned (.tuple #[.pointer none, .int .i64 2]) ∧ Below w.heap.size w w' := by
  have hS := fun W => start_good n hn W
  rw [take4 h5] at h4
  have hN := fun W => number_any t[1] t[2] t[3] t[4] (ht _ (List.getElem_mem _)) (ht _ (List.getElem_mem _)) (ht _ (List.getElem_mem _)) (ht _ (List.getElem_mem _)) W
  obtain ⟨A, c, rfl, x1, x2, x3⟩ := hv.open
  obtain ⟨b, off, rfl, y1, y2, q0⟩ := x3 0 (by omega)
  have qq : ∀ i (hi : i < t.length), w.cell? ⟨b, off + i, none⟩ = some (.int .u8 t[i]) := fun i hi => by
    obtain ⟨b', off', e, _, _, hc⟩ := x3 i hi
    injection e with e; injection e with e1 e2; subst e1 e2
    exact hc
  have q1 := qq 1 (by omega); have q2 := qq 2 (by omega); have q3 := qq 3 (by omega); have q4 := qq 4 (by omega)
  have e0 : t[0] = 0 := by rw [← getD_get (l := t) (k := 0) (by omega)]; exact h3
  rw [e0, Nat.add_zero] at q0
  have sl := slice_l23 (some ⟨b, off, none⟩) t.length c 1 (by omega)
  unfold sliced at sl
  rw [if_neg (by omega)] at sl
  have hL : 5 ≤ (t.length : Int) := by omega
  have ra : ∀ W, (Instr.arrayAt 76 (.slice (some ⟨b, off + 1, none⟩) (t.length - 1) (c - 1))).run Try.prog W = .ok (.pointer (some ⟨b, off + 1, none⟩)) W := fun W => by
    have h4 : ¬ t.length - 1 < 4 := by omega
    simp [Instr.arrayAt, run_underlying Try.underlying76, h4]
  generalize num [t[1], t[2], t[3], t[4]] = N at *
  generalize t[1] = o1 at *; generalize t[2] = o2 at *; generalize t[3] = o3 at *; generalize t[4] = o4 at *
  clear x3 qq h3 hv ht e0
  rw [h4] at hN
  replace hS := hide hS; replace hN := hide hN
  clear h4
  go_enter Try.func16, Try.ntmps16
  go_wp2_with (first
    | (go_at_call 22; refine (unhide hS _).mono ?_; rintro e w1 ⟨gc, rfl, ho, hb1⟩; replace ho := hide ho; (obtain ⟨hc1, hf1⟩ := bcell hb1; have hz1 := hb1.size; (try have y0 : w.heap.size < w1.heap.size := (by (simp at hz1; omega))); (try have y1 : w.heap.size + 1 < w1.heap.size := (by (simp at hz1; omega))); (try have y2 : w.heap.size + 2 < w1.heap.size := (by (simp at hz1; omega))); (try have y3 : w.heap.size + 3 < w1.heap.size := (by (simp at hz1; omega))); clear hz1); have y9 : b < w1.heap.size := (by have := hb1.size; omega))
    | (go_at_call 32; refine (unhide hN _).mono ?_; rintro e w2 ⟨rfl, hb2⟩)
    | fail)
  go_ret2
  exact ⟨rfl, by (repeat (first | with_reducible exact Below.refl _ _ | with_reducible assumption | with_reducible refine Below.drew ?_ | with_reducible refine bl_alloc ?_ _ | with_reducible refine bl_call ?_ (by assumption) | (focus (with_reducible refine Below.setCell ?_ ?_ _; rotate_left; focus (first | omega | (simp <;> omega)))) | fail))⟩

theorem NewReader_bad (n : Int) (lo : Nat) (v : Value) (t : List Int) (w : World) (hv : Os lo w.heap.size w v t) (ht : okB t) (h : startE n t ≠ 0) :
    Calls Try.prog 16 #[.int .i64 n, v] w fun e w' => e = .returned (.tuple #[.pointer none, .int .i64 (startE n t)]) ∧ Below w.heap.size w w' := by
  cases hn : newN n
  · have e : startE n t = 1 := by unfold startE; rw [if_pos hn]
    rw [e]
    exact NewReader_arg n hn v w
  · have e : startE n t = 2 := by
      unfold startE at h ⊢
      rw [if_neg (by rw [hn]; decide)] at h ⊢
      split
      · rfl
      · rename_i h1
        rw [if_neg h1] at h
        exact absurd rfl h
    have h' : ¬ startE n t = 0 := h
    rw [startE_iff] at h'
    rw [e]
    obtain ⟨n0, n1⟩ := newN_iff.1 hn
    obtain ⟨m, rfl⟩ : ∃ m : Nat, n = (m : Int) := ⟨n.toNat, by omega⟩
    by_cases h5 : t.length < 5
    · exact NewReader_few m (by omega) lo v t w hv h5
    · by_cases h0 : t.getD 0 0 = 0
      · exact NewReader_full m (by omega) lo v t w hv ht (by omega) h0 (Decidable.byContradiction fun hc => h' ⟨hn, by omega, h0, hc⟩)
      · exact NewReader_zero m (by omega) lo v t w hv (by omega) h0
end Go.Proofs.Ythmhhgodjpgjnaa
