import Derived.Test.YthmhhgodjpgjnaaW1
namespace Go.Proofs.Ythmhhgodjpgjnaa
open Go.RowKit

/-- What Split answers. -/
def splR (s p : Int) : Int := if 16777216 ≤ s ∧ isC p = true then s / 2048 * p else 0
def splE (s p : Int) : Int := if 16777216 ≤ s ∧ isC p = true then 0 else 1

set_option maxHeartbeats 1000000 in
theorem Split_any (s p : Int) (w : World) (hs : 0 ≤ s ∧ s < 4294967296) : Calls Try.prog 41 #[.int .u32 s, .int .i64 p] w fun e w' => e = .returned (.tuple #[.int .u32 (splR s p), .int .i64 (splE s p)]) ∧ w = w' := by
  have hi := fun W => isC_any p W
  replace hi := hide hi
  obtain ⟨s0, s1⟩ := hs
  by_cases hsp : 16777216 ≤ s
  · cases hp : isC p
    · have e1 : splR s p = 0 := by simp [splR, hp]
      have e2 : splE s p = 1 := by simp [splE, hp]
      rw [e1, e2]
      clear e1 e2
      go_enter Try.func41, Try.ntmps41
      go_wp2_with (go_at_call 44; refine (unhide hi _).mono ?_; rintro e w1 ⟨rfl, rfl⟩; rw [hp])
      all_goals go_ret2
      all_goals exact ⟨rfl, rfl⟩
    · have e1 : splR s p = s / 2048 * p := by simp [splR, hp, hsp]
      have e2 : splE s p = 0 := by simp [splE, hp, hsp]
      rw [e1, e2]
      clear e1 e2
      obtain ⟨p0, p1⟩ := isC_iff.1 hp
      have m1 : 0 ≤ s / 2048 * p := Int.mul_nonneg (by omega) (by omega)
      have m2 : s / 2048 * p ≤ 2097151 * 2017 := Int.mul_le_mul (by omega) p1 (by omega) (by omega)
      have i1 : IntKind.u32.wrap p = p := IntWalk.u32_in _ (by omega)
      have i2 : IntKind.u32.wrap (s / 2048 * p) = s / 2048 * p := IntWalk.u32_in _ (by omega)
      have i3 : s.tdiv 2048 = s / 2048 := Int.tdiv_eq_ediv_of_nonneg (by omega)
      go_enter Try.func41, Try.ntmps41
      go_wp2_with (go_at_call 44; refine (unhide hi _).mono ?_; rintro e w1 ⟨rfl, rfl⟩; rw [hp])
      all_goals go_ret2
      all_goals exact ⟨rfl, rfl⟩
  · have e1 : splR s p = 0 := by simp [splR, hsp]
    have e2 : splE s p = 1 := by simp [splE, hsp]
    rw [e1, e2]
    clear e1 e2
    go_enter Try.func41, Try.ntmps41
    go_wp2
    all_goals go_ret2
    all_goals exact ⟨rfl, rfl⟩
set_option maxHeartbeats 1000000 in
theorem refSplit_any (s p : Int) (w : World) (hs : 0 ≤ s ∧ s < 4294967296) : Calls Try.prog 29 #[.int .u32 s, .int .i64 p] w fun e w' => e = .returned (.tuple #[.int .u32 (splR s p), .int .i64 (splE s p)]) ∧ w = w' := by
  have hi := fun W => is_any p W
  replace hi := hide hi
  obtain ⟨s0, s1⟩ := hs
  by_cases hsp : 16777216 ≤ s
  · cases hp : isC p
    · have e1 : splR s p = 0 := by simp [splR, hp]
      have e2 : splE s p = 1 := by simp [splE, hp]
      rw [e1, e2]
      clear e1 e2
      go_enter Try.func29, Try.ntmps29
      go_wp2_with (go_at_call 40; refine (unhide hi _).mono ?_; rintro e w1 ⟨rfl, rfl⟩; rw [hp])
      all_goals go_ret2
      all_goals exact ⟨rfl, rfl⟩
    · have e1 : splR s p = s / 2048 * p := by simp [splR, hp, hsp]
      have e2 : splE s p = 0 := by simp [splE, hp, hsp]
      rw [e1, e2]
      clear e1 e2
      obtain ⟨p0, p1⟩ := isC_iff.1 hp
      have m1 : 0 ≤ s / 2048 * p := Int.mul_nonneg (by omega) (by omega)
      have m2 : s / 2048 * p ≤ 2097151 * 2017 := Int.mul_le_mul (by omega) p1 (by omega) (by omega)
      have i1 : IntKind.u32.wrap p = p := IntWalk.u32_in _ (by omega)
      have i2 : IntKind.u32.wrap (s / 2048 * p) = s / 2048 * p := IntWalk.u32_in _ (by omega)
      have i3 : s.tdiv 2048 = s / 2048 := Int.tdiv_eq_ediv_of_nonneg (by omega)
      go_enter Try.func29, Try.ntmps29
      go_wp2_with (go_at_call 40; refine (unhide hi _).mono ?_; rintro e w1 ⟨rfl, rfl⟩; rw [hp])
      all_goals go_ret2
      all_goals exact ⟨rfl, rfl⟩
  · have e1 : splR s p = 0 := by simp [splR, hsp]
    have e2 : splE s p = 1 := by simp [splE, hsp]
    rw [e1, e2]
    clear e1 e2
    cases hp : isC p
    · go_enter Try.func29, Try.ntmps29
      go_wp2_with (go_at_call 40; refine (unhide hi _).mono ?_; rintro e w1 ⟨rfl, rfl⟩; rw [hp])
      all_goals go_ret2
      all_goals exact ⟨rfl, rfl⟩
    · go_enter Try.func29, Try.ntmps29
      go_wp2_with (go_at_call 40; refine (unhide hi _).mono ?_; rintro e w1 ⟨rfl, rfl⟩; rw [hp])
      all_goals go_ret2
      all_goals exact ⟨rfl, rfl⟩

end Go.Proofs.Ythmhhgodjpgjnaa
