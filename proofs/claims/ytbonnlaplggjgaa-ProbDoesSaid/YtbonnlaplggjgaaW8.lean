import Derived.Test.YtbonnlaplggjgaaW3
namespace Go.Proofs.Ytbonnlaplggjgaa
open Go.RowKit

/-- What Split answers. -/
def splR (s p : Int) : Int := if 16777216 ≤ s ∧ isC p = true then s / 2048 * p else 0
def splE (s p : Int) : Int := if 16777216 ≤ s ∧ isC p = true then 0 else 1

set_option maxHeartbeats 1000000 in
theorem Split_any (s p : Int) (w : World) (hs : 0 ≤ s ∧ s < 4294967296) : Calls Try.prog 15 #[.int .u32 s, .int .i64 p] w fun e w' => e = .returned (.tuple #[.int .u32 (splR s p), .int .i64 (splE s p)]) ∧ w = w' := by
  have hi := fun W => isC_any p W
  replace hi := hide hi
  obtain ⟨s0, s1⟩ := hs
  by_cases hsp : 16777216 ≤ s
  · cases hp : isC p
    · have e1 : splR s p = 0 := by simp [splR, hp]
      have e2 : splE s p = 1 := by simp [splE, hp]
      rw [e1, e2]
      clear e1 e2
      go_enter Try.func15, Try.ntmps15
      go_wp2_with (go_at_call 20; refine (unhide hi _).mono ?_; rintro e w1 ⟨rfl, rfl⟩; rw [hp])
      all_goals go_ret2
      all_goals exact ⟨rfl, rfl⟩
    · have e1 : splR s p = s / 2048 * p := by simp [splR, hp, hsp]
      have e2 : splE s p = 0 := by simp [splE, hp, hsp]
      rw [e1, e2]
      clear e1 e2
      obtain ⟨p0, p1⟩ := isC_iff.1 hp
      have m1 : 0 ≤ s / 2048 * p := Int.mul_nonneg (by omega) (by omega)
      have m2 : s / 2048 * p ≤ 2097151 * 2017 := Int.mul_le_mul (by omega) p1 (by omega) (by omega)
      have i1 : IntKind.u32.wrap p = p := IntWalk.u32_in _ (by omega)
      have i2 : IntKind.u32.wrap (s / 2048 * p) = s / 2048 * p := IntWalk.u32_in _ (by omega)
      have i3 : s.tdiv 2048 = s / 2048 := Int.tdiv_eq_ediv_of_nonneg (by omega)
      go_enter Try.func15, Try.ntmps15
      go_wp2_with (go_at_call 20; refine (unhide hi _).mono ?_; rintro e w1 ⟨rfl, rfl⟩; rw [hp])
      all_goals go_ret2
      all_goals exact ⟨rfl, rfl⟩
  · have e1 : splR s p = 0 := by simp [splR, hsp]
    have e2 : splE s p = 1 := by simp [splE, hsp]
    rw [e1, e2]
    clear e1 e2
    go_enter Try.func15, Try.ntmps15
    go_wp2
    all_goals go_ret2
    all_goals exact ⟨rfl, rfl⟩
set_option maxHeartbeats 1000000 in
theorem refSplit_any (s p : Int) (w : World) (hs : 0 ≤ s ∧ s < 4294967296) : Calls Try.prog 16 #[.int .u32 s, .int .i64 p] w fun e w' => e = .returned (.tuple #[.int .u32 (splR s p), .int .i64 (splE s p)]) ∧ w = w' := by
  have hi := fun W => is_any p W
  replace hi := hide hi
  obtain ⟨s0, s1⟩ := hs
  by_cases hsp : 16777216 ≤ s
  · cases hp : isC p
    · have e1 : splR s p = 0 := by simp [splR, hp]
      have e2 : splE s p = 1 := by simp [splE, hp]
      rw [e1, e2]
      clear e1 e2
      go_enter Try.func16, Try.ntmps16
      go_wp2_with (go_at_call 22; refine (unhide hi _).mono ?_; rintro e w1 ⟨rfl, rfl⟩; rw [hp])
      all_goals go_ret2
      all_goals exact ⟨rfl, rfl⟩
    · have e1 : splR s p = s / 2048 * p := by simp [splR, hp, hsp]
      have e2 : splE s p = 0 := by simp [splE, hp, hsp]
      rw [e1, e2]
      clear e1 e2
      obtain ⟨p0, p1⟩ := isC_iff.1 hp
      have m1 : 0 ≤ s / 2048 * p := Int.mul_nonneg (by omega) (by omega)
      have m2 : s / 2048 * p ≤ 2097151 * 2017 := Int.mul_le_mul (by omega) p1 (by omega) (by omega)
      have i1 : IntKind.u32.wrap p = p := IntWalk.u32_in _ (by omega)
      have i2 : IntKind.u32.wrap (s / 2048 * p) = s / 2048 * p := IntWalk.u32_in _ (by omega)
      have i3 : s.tdiv 2048 = s / 2048 := Int.tdiv_eq_ediv_of_nonneg (by omega)
      go_enter Try.func16, Try.ntmps16
      go_wp2_with (go_at_call 22; refine (unhide hi _).mono ?_; rintro e w1 ⟨rfl, rfl⟩; rw [hp])
      all_goals go_ret2
      all_goals exact ⟨rfl, rfl⟩
  · have e1 : splR s p = 0 := by simp [splR, hsp]
    have e2 : splE s p = 1 := by simp [splE, hsp]
    rw [e1, e2]
    clear e1 e2
    cases hp : isC p
    · go_enter Try.func16, Try.ntmps16
      go_wp2_with (go_at_call 22; refine (unhide hi _).mono ?_; rintro e w1 ⟨rfl, rfl⟩; rw [hp])
      all_goals go_ret2
      all_goals exact ⟨rfl, rfl⟩
    · go_enter Try.func16, Try.ntmps16
      go_wp2_with (go_at_call 22; refine (unhide hi _).mono ?_; rintro e w1 ⟨rfl, rfl⟩; rw [hp])
      all_goals go_ret2
      all_goals exact ⟨rfl, rfl⟩

set_option maxHeartbeats 1000000 in
theorem splits_any (s p : Int) (w : World) (hs : 0 ≤ s ∧ s < 4294967296) : Calls Try.prog 5 #[.int .u32 s, .int .i64 p] w fun e w' => e = .returned (.bool true) ∧ Below w.heap.size w w' := by
  have hl := fun W => live_any W
  have hc := fun p w W hW => Check_one p w W hW
  have hS := fun W => Split_any s p W hs
  replace hl := hide hl; replace hc := hide hc
  obtain ⟨s0, s1⟩ := hs
  by_cases hsp : 16777216 ≤ s
  · cases hp : isC p
    · rw [show splR s p = 0 by simp [splR, hp], show splE s p = 1 by simp [splE, hp]] at hS
      replace hS := hide hS
      go_enter Try.func5, Try.ntmps5
      go_wp2_with (first
        | (go_at_call 8; refine (unhide hl _).mono ?_; rintro e w1 ⟨rfl, rfl⟩)
        | (go_at_call 15; refine (unhide hS _).mono ?_; rintro e w1 ⟨rfl, rfl⟩)
        | (go_at_call 18; refine (unhide hc _ _ _ rfl).mono ?_; rintro e w1 ⟨rfl, rfl⟩; rw [hp, badE_f]))
      all_goals go_ret
      all_goals exact ⟨rfl, by (repeat (first | with_reducible exact Below.refl _ _ | with_reducible assumption | with_reducible refine Below.drew ?_ | with_reducible refine bl_alloc ?_ _ | with_reducible refine bl_call ?_ (by assumption) | (focus (with_reducible refine Below.setCell ?_ ?_ _; rotate_left; focus (first | omega | (simp <;> omega)))) | fail))⟩
    · rw [show splR s p = s / 2048 * p by simp [splR, hp, hsp], show splE s p = 0 by simp [splE, hp, hsp]] at hS
      obtain ⟨p0, p1⟩ := isC_iff.1 hp
      have m1 : 8192 * 31 ≤ s / 2048 * p := Int.mul_le_mul (by omega) p0 (by omega) (by omega)
      have m2 : s / 2048 * p ≤ s / 2048 * 2017 := Int.mul_le_mul (by omega) p1 (by omega) (by omega)
      have m3 : s / 2048 * 2017 ≤ s - 8192 * 31 := by omega
      generalize s / 2048 * p = z at *
      have i1 : IntKind.u32.wrap (s - z) = s - z := IntWalk.u32_in _ (by omega)
      replace hS := hide hS
      have a1 : decide (z < s) = true := by simp; omega
      have a2 : decide (253952 ≤ z) = true := by simp; omega
      have a3 : decide (253952 ≤ s - z) = true := by simp; omega
      clear hp p0 p1 m1 m2 m3
      go_enter Try.func5, Try.ntmps5
      go_wp2_with (first
        | (go_at_call 8; refine (unhide hl _).mono ?_; rintro e w1 ⟨rfl, rfl⟩)
        | (go_at_call 15; refine (unhide hS _).mono ?_; rintro e w1 ⟨rfl, rfl⟩))
      all_goals first | (exfalso; omega) | skip
      all_goals go_ret
      all_goals exact ⟨rfl, by (repeat (first | with_reducible exact Below.refl _ _ | with_reducible assumption | with_reducible refine Below.drew ?_ | with_reducible refine bl_alloc ?_ _ | with_reducible refine bl_call ?_ (by assumption) | (focus (with_reducible refine Below.setCell ?_ ?_ _; rotate_left; focus (first | omega | (simp <;> omega)))) | fail))⟩
  · rw [show splR s p = 0 by simp [splR, hsp], show splE s p = 1 by simp [splE, hsp]] at hS
    replace hS := hide hS
    go_enter Try.func5, Try.ntmps5
    go_wp2_with (first
      | (go_at_call 8; refine (unhide hl _).mono ?_; rintro e w1 ⟨rfl, rfl⟩)
      | (go_at_call 15; refine (unhide hS _).mono ?_; rintro e w1 ⟨rfl, rfl⟩))
    all_goals go_ret
    all_goals exact ⟨rfl, by (repeat (first | with_reducible exact Below.refl _ _ | with_reducible assumption | with_reducible refine Below.drew ?_ | with_reducible refine bl_alloc ?_ _ | with_reducible refine bl_call ?_ (by assumption) | (focus (with_reducible refine Below.setCell ?_ ?_ _; rotate_left; focus (first | omega | (simp <;> omega)))) | fail))⟩
end Go.Proofs.Ytbonnlaplggjgaa
