import Derived.Test.YtbonnlaplggjgaaBase
namespace Go.Proofs.Ytbonnlaplggjgaa
open Go.RowKit

theorem ret_ii {v v' : Value} {k : IntKind} {a b a' b' : Int} (h : v = .int k a) (h' : v' = .int .i64 b) (e : a = a') (e' : b = b') : Ending.returned (.tuple #[v, v']) = .returned (.tuple #[.int k a', .int .i64 b']) := by rw [h, h', e, e']
/-- OK or ErrArg. -/
def badE (b : Bool) : Int := if b then 0 else 1
theorem badE_t : badE true = 0 := rfl
theorem badE_f : badE false = 1 := rfl

set_option maxHeartbeats 400000 in
theorem isC_any (p : Int) (w : World) : Calls Try.prog 20 #[.int .i64 p] w fun e w' => e = .returned (.bool (isC p)) ∧ w = w' := by
  go_enter Try.func20, Try.ntmps20
  go_wp2
  all_goals go_ret
  all_goals exact ⟨ret_b rfl (by rw [Bool.eq_iff_iff]; simp only [isC_iff, decide_eq_true_eq, Bool.false_eq_true, false_iff] at *; omega), rfl⟩

set_option maxHeartbeats 400000 in
theorem is_any (p : Int) (w : World) : Calls Try.prog 22 #[.int .i64 p] w fun e w' => e = .returned (.bool (isC p)) ∧ w = w' := by
  go_enter Try.func22, Try.ntmps22
  go_wp2
  all_goals go_ret
  all_goals exact ⟨ret_b rfl (by rw [Bool.eq_iff_iff]; simp only [isC_iff, decide_eq_true_eq, Bool.false_eq_true, false_iff] at *; omega), rfl⟩

set_option maxHeartbeats 400000 in
theorem behind_any (p : Int) (b : Bool) (w : World) (h : isC p = true) : Calls Try.prog 21 #[.int .i64 p, .bool b] w fun e w' => e = .returned (.int .i64 (lrn p b)) ∧ w = w' := by
  rw [isC_iff] at h
  obtain ⟨h1, h2⟩ := h
  have i1 : IntKind.i64.wrap (2048 - p) = 2048 - p := IntWalk.i64_in _ (by omega)
  have i2 : IntKind.i64.wrap (p - p / 32) = p - p / 32 := IntWalk.i64_in _ (by omega)
  have i3 : IntKind.i64.wrap (p + (2048 - p) / 32) = p + (2048 - p) / 32 := IntWalk.i64_in _ (by omega)
  cases b
  · go_enter Try.func21, Try.ntmps21
    go_wp2
    all_goals go_ret
    all_goals exact ⟨ret_i rfl (by simp [lrn]), rfl⟩
  · go_enter Try.func21, Try.ntmps21
    go_wp2
    all_goals go_ret
    all_goals exact ⟨ret_i rfl (by simp [lrn]), rfl⟩

/-- What Learn answers. -/
def lrnR (p : Int) (b : Bool) : Int := if isC p then lrn p b else 0

set_option maxHeartbeats 400000 in
theorem Learn_any (p : Int) (b : Bool) (w : World) : Calls Try.prog 9 #[.int .i64 p, .bool b] w fun e w' => e = .returned (.tuple #[.int .i64 (lrnR p b), .int .i64 (badE (isC p))]) ∧ w = w' := by
  have hi := fun W => isC_any p W
  have hl := fun W (h : isC p = true) => behind_any p b W h
  replace hi := hide hi; replace hl := hide hl
  cases hc : isC p
  · go_enter Try.func9, Try.ntmps9
    go_wp2_with (go_at_call 20; refine (unhide hi _).mono ?_; rintro e w1 ⟨rfl, rfl⟩; rw [hc])
    all_goals go_ret2
    all_goals exact ⟨ret_ii rfl rfl (by simp [lrnR, hc]) (by simp [badE]), rfl⟩
  · go_enter Try.func9, Try.ntmps9
    go_wp2_with (first
      | (go_at_call 20; refine (unhide hi _).mono ?_; rintro e w1 ⟨rfl, rfl⟩; rw [hc])
      | (go_at_call 21; refine (unhide hl _ hc).mono ?_; rintro e w1 ⟨rfl, rfl⟩))
    all_goals go_ret2
    all_goals exact ⟨ret_ii rfl rfl (by simp [lrnR, hc]) (by simp [badE]), rfl⟩

set_option maxHeartbeats 400000 in
theorem refLearn_any (p : Int) (b : Bool) (w : World) : Calls Try.prog 10 #[.int .i64 p, .bool b] w fun e w' => e = .returned (.tuple #[.int .i64 (lrnR p b), .int .i64 (badE (isC p))]) ∧ w = w' := by
  have hi := fun W => is_any p W
  replace hi := hide hi
  cases hc : isC p
  · go_enter Try.func10, Try.ntmps10
    go_wp2_with (go_at_call 22; refine (unhide hi _).mono ?_; rintro e w1 ⟨rfl, rfl⟩; rw [hc])
    all_goals go_ret2
    all_goals exact ⟨ret_ii rfl rfl (by simp [lrnR, hc]) (by simp [badE]), rfl⟩
  · have h := isC_iff.1 hc
    obtain ⟨h1, h2⟩ := h
    have i1 : IntKind.i64.wrap (2048 - p) = 2048 - p := IntWalk.i64_in _ (by omega)
    have i2 : IntKind.i64.wrap (p - p.tdiv 32) = p - p / 32 := by rw [Int.tdiv_eq_ediv_of_nonneg (by omega)]; exact IntWalk.i64_in _ (by omega)
    have i3 : IntKind.i64.wrap (p + (2048 - p).tdiv 32) = p + (2048 - p) / 32 := by rw [Int.tdiv_eq_ediv_of_nonneg (by omega)]; exact IntWalk.i64_in _ (by omega)
    cases b
    · go_enter Try.func10, Try.ntmps10
      go_wp2_with (go_at_call 22; refine (unhide hi _).mono ?_; rintro e w1 ⟨rfl, rfl⟩; rw [hc])
      all_goals go_ret2
      all_goals exact ⟨ret_ii rfl rfl (by simp [lrnR, hc, lrn]) (by simp [badE]), rfl⟩
    · go_enter Try.func10, Try.ntmps10
      go_wp2_with (go_at_call 22; refine (unhide hi _).mono ?_; rintro e w1 ⟨rfl, rfl⟩; rw [hc])
      all_goals go_ret2
      all_goals exact ⟨ret_ii rfl rfl (by simp [lrnR, hc, lrn]) (by simp [badE]), rfl⟩
end Go.Proofs.Ytbonnlaplggjgaa
