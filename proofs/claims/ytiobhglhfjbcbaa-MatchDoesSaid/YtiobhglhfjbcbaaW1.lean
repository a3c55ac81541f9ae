import Derived.Test.YtiobhglhfjbcbaaBase
namespace Go.Proofs.Ytiobhglhfjbcbaa
open Go.RowKit

set_option maxHeartbeats 400000 in
theorem long_any (t : Tok) (w : World) :
    Calls Try.prog 25 #[tkV t] w fun e w' => e = .returned (.int .i64 (sizeT t)) ∧ Below w.heap.size w w' := by
  obtain ⟨o, n, d⟩ := t
  go_enter Try.func25, Try.ntmps25
  go_wp2
  all_goals go_ret
  all_goals exact ⟨ret_i rfl (by simp only [sizeT, beq_iff_eq, beq_eq_false_iff_ne, ne_eq] at *; split <;> omega), by (repeat (first | with_reducible exact Below.refl _ _ | with_reducible assumption | with_reducible refine Below.drew ?_ | with_reducible refine bl_alloc ?_ _ | with_reducible refine bl_call ?_ (by assumption) | (focus (with_reducible refine Below.setCell ?_ ?_ _; rotate_left; focus (first | omega | (simp <;> omega)))) | fail))⟩

set_option maxHeartbeats 400000 in
theorem size_any (t : Tok) (w : World) (h : 0 ≤ t.len) :
    Calls Try.prog 26 #[tkV t] w fun e w' => e = .returned (.int .i64 (sizeT t)) ∧ Below w.heap.size w w' := by
  obtain ⟨o, n, d⟩ := t
  go_enter Try.func26, Try.ntmps26
  go_wp2
  all_goals go_ret
  all_goals exact ⟨ret_i rfl (by simp only [sizeT] at *; split <;> omega), by (repeat (first | with_reducible exact Below.refl _ _ | with_reducible assumption | with_reducible refine Below.drew ?_ | with_reducible refine bl_alloc ?_ _ | with_reducible refine bl_call ?_ (by assumption) | (focus (with_reducible refine Below.setCell ?_ ?_ _; rotate_left; focus (first | omega | (simp <;> omega)))) | fail))⟩

theorem n8_zero (o : UInt8) : o = 0 ↔ n8 o = 0 := ⟨fun h => by rw [h]; rfl, fun h => n8_inj h⟩
theorem okT_iff (o : UInt8) (n d : Int) : okT ⟨o, n, d⟩ = true ↔ (n = 0 ∧ d = 0) ∨ (n ≠ 0 ∧ n8 o = 0 ∧ 3 ≤ n ∧ n ≤ 18 ∧ 1 ≤ d ∧ d ≤ 256) := by
  rw [← n8_zero]
  by_cases h : n = 0
  · simp [okT, h]
  · simp [okT, h, and_assoc]

set_option maxHeartbeats 400000 in
theorem isTok_any (t : Tok) (w : World) :
    Calls Try.prog 28 #[tkV t] w fun e w' => e = .returned (.bool (okT t)) ∧ Below w.heap.size w w' := by
  obtain ⟨o, n, d⟩ := t
  go_enter Try.func28, Try.ntmps28
  go_wp2
  all_goals go_ret
  all_goals refine ⟨ret_b rfl ?_, by (repeat (first | with_reducible exact Below.refl _ _ | with_reducible assumption | with_reducible refine Below.drew ?_ | with_reducible refine bl_alloc ?_ _ | with_reducible refine bl_call ?_ (by assumption) | (focus (with_reducible refine Below.setCell ?_ ?_ _; rotate_left; focus (first | omega | (simp <;> omega)))) | fail))⟩
  all_goals (rw [Bool.eq_iff_iff]; simp only [okT_iff, beq_iff_eq, beq_eq_false_iff_ne, ne_eq, decide_eq_true_eq, Bool.false_eq_true, false_iff] at *; omega)

set_option maxHeartbeats 400000 in
theorem one_any (t : Tok) (m : Nat) (w : World) :
    Calls Try.prog 29 #[tkV t, .int .i64 m] w fun e w' => e = .returned (.bool (okT t && decide (t.dist ≤ m))) ∧ Below w.heap.size w w' := by
  obtain ⟨o, n, d⟩ := t
  go_enter Try.func29, Try.ntmps29
  go_wp2
  all_goals go_ret
  all_goals refine ⟨ret_b rfl ?_, by (repeat (first | with_reducible exact Below.refl _ _ | with_reducible assumption | with_reducible refine Below.drew ?_ | with_reducible refine bl_alloc ?_ _ | with_reducible refine bl_call ?_ (by assumption) | (focus (with_reducible refine Below.setCell ?_ ?_ _; rotate_left; focus (first | omega | (simp <;> omega)))) | fail))⟩
  all_goals (rw [Bool.eq_iff_iff]; simp only [okT_iff, beq_iff_eq, beq_eq_false_iff_ne, ne_eq, decide_eq_true_eq, Bool.and_eq_true, Bool.false_eq_true, false_iff] at *; omega)
end Go.Proofs.Ytiobhglhfjbcbaa
