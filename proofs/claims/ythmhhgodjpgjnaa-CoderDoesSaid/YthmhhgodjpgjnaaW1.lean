import Derived.Test.YthmhhgodjpgjnaaBase
namespace Go.Proofs.Ythmhhgodjpgjnaa
open Go.RowKit

theorem ret_ii {v v' : Value} {k : IntKind} {a b a' b' : Int} (h : v = .int k a) (h' : v' = .int .i64 b) (e : a = a') (e' : b = b') : Ending.returned (.tuple #[v, v']) = .returned (.tuple #[.int k a', .int .i64 b']) := by rw [h, h', e, e']
/-- OK or ErrArg. -/
def badE (b : Bool) : Int := if b then 0 else 1
theorem badE_t : badE true = 0 := rfl
theorem badE_f : badE false = 1 := rfl

set_option maxHeartbeats 400000 in
theorem isC_any (p : Int) (w : World) : Calls Try.prog 44 #[.int .i64 p] w fun e w' => e = .returned (.bool (isC p)) ∧ w = w' := by
  go_enter Try.func44, Try.ntmps44
  go_wp2
  all_goals go_ret
  all_goals exact ⟨ret_b rfl (by rw [Bool.eq_iff_iff]; simp only [isC_iff, decide_eq_true_eq, Bool.false_eq_true, false_iff] at *; omega), rfl⟩

set_option maxHeartbeats 400000 in
theorem is_any (p : Int) (w : World) : Calls Try.prog 40 #[.int .i64 p] w fun e w' => e = .returned (.bool (isC p)) ∧ w = w' := by
  go_enter Try.func40, Try.ntmps40
  go_wp2
  all_goals go_ret
  all_goals exact ⟨ret_b rfl (by rw [Bool.eq_iff_iff]; simp only [isC_iff, decide_eq_true_eq, Bool.false_eq_true, false_iff] at *; omega), rfl⟩

set_option maxHeartbeats 400000 in
theorem behind_any (p : Int) (b : Bool) (w : World) (h : isC p = true) : Calls Try.prog 45 #[.int .i64 p, .bool b] w fun e w' => e = .returned (.int .i64 (lrn p b)) ∧ w = w' := by
  rw [isC_iff] at h
  obtain ⟨h1, h2⟩ := h
  have i1 : IntKind.i64.wrap (2048 - p) = 2048 - p := IntWalk.i64_in _ (by omega)
  have i2 : IntKind.i64.wrap (p - p / 32) = p - p / 32 := IntWalk.i64_in _ (by omega)
  have i3 : IntKind.i64.wrap (p + (2048 - p) / 32) = p + (2048 - p) / 32 := IntWalk.i64_in _ (by omega)
  cases b
  · go_enter Try.func45, Try.ntmps45
    go_wp2
    all_goals go_ret
    all_goals exact ⟨ret_i rfl (by simp [lrn]), rfl⟩
  · go_enter Try.func45, Try.ntmps45
    go_wp2
    all_goals go_ret
    all_goals exact ⟨ret_i rfl (by simp [lrn]), rfl⟩

/-- What Learn answers. -/
def lrnR (p : Int) (b : Bool) : Int := if isC p then lrn p b else 0

set_option maxHeartbeats 400000 in
theorem Learn_any (p : Int) (b : Bool) (w : World) : Calls Try.prog 42 #[.int .i64 p, .bool b] w fun e w' => e = .returned (.tuple #[.int .i64 (lrnR p b), .int .i64 (badE (isC p))]) ∧ w = w' := by
  have hi := fun W => isC_any p W
  have hl := fun W (h : isC p = true) => behind_any p b W h
  replace hi := hide hi; replace hl := hide hl
  cases hc : isC p
  · go_enter Try.func42, Try.ntmps42
    go_wp2_with (go_at_call 44; refine (unhide hi _).mono ?_; rintro e w1 ⟨rfl, rfl⟩; rw [hc])
    all_goals go_ret2
    all_goals exact ⟨ret_ii rfl rfl (by simp [lrnR, hc]) (by simp [badE]), rfl⟩
  · go_enter Try.func42, Try.ntmps42
    go_wp2_with (first
      | (go_at_call 44; refine (unhide hi _).mono ?_; rintro e w1 ⟨rfl, rfl⟩; rw [hc])
      | (go_at_call 45; refine (unhide hl _ hc).mono ?_; rintro e w1 ⟨rfl, rfl⟩))
    all_goals go_ret2
    all_goals exact ⟨ret_ii rfl rfl (by simp [lrnR, hc]) (by simp [badE]), rfl⟩

set_option maxHeartbeats 400000 in
theorem refLearn_any (p : Int) (b : Bool) (w : World) : Calls Try.prog 31 #[.int .i64 p, .bool b] w fun e w' => e = .returned (.tuple #[.int .i64 (lrnR p b), .int .i64 (badE (isC p))]) ∧ w = w' := by
  have hi := fun W => is_any p W
  replace hi := hide hi
  cases hc : isC p
  · go_enter Try.func31, Try.ntmps31
    go_wp2_with (go_at_call 40; refine (unhide hi _).mono ?_; rintro e w1 ⟨rfl, rfl⟩; rw [hc])
    all_goals go_ret2
    all_goals exact ⟨ret_ii rfl rfl (by simp [lrnR, hc]) (by simp [badE]), rfl⟩
  · have h := isC_iff.1 hc
    obtain ⟨h1, h2⟩ := h
    have i1 : IntKind.i64.wrap (2048 - p) = 2048 - p := IntWalk.i64_in _ (by omega)
    have i2 : IntKind.i64.wrap (p - p.tdiv 32) = p - p / 32 := by rw [Int.tdiv_eq_ediv_of_nonneg (by omega)]; exact IntWalk.i64_in _ (by omega)
    have i3 : IntKind.i64.wrap (p + (2048 - p).tdiv 32) = p + (2048 - p) / 32 := by rw [Int.tdiv_eq_ediv_of_nonneg (by omega)]; exact IntWalk.i64_in _ (by omega)
    cases b
    · go_enter Try.func31, Try.ntmps31
      go_wp2_with (go_at_call 40; refine (unhide hi _).mono ?_; rintro e w1 ⟨rfl, rfl⟩; rw [hc])
      all_goals go_ret2
      all_goals exact ⟨ret_ii rfl rfl (by simp [lrnR, hc, lrn]) (by simp [badE]), rfl⟩
    · go_enter Try.func31, Try.ntmps31
      go_wp2_with (go_at_call 40; refine (unhide hi _).mono ?_; rintro e w1 ⟨rfl, rfl⟩; rw [hc])
      all_goals go_ret2
      all_goals exact ⟨ret_ii rfl rfl (by simp [lrnR, hc, lrn]) (by simp [badE]), rfl⟩
end Go.Proofs.Ythmhhgodjpgjnaa
