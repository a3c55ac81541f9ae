import Derived.Test.YtnjepbehfioclaaBase3
namespace Go.Proofs.Ytnjepbehfioclaa
open Go.RowKit
attribute [local go_sem] bz_size bz_toList run_store_float
set_option maxRecDepth 100000

theorem upTo_any (n m : Int) (w : World) : Calls Try.prog 57 #[.int .i64 n, .int .i64 m] w fun e w' => e = .returned (.bool (upB n m)) ∧ w = w' := by
  unfold upB
  by_cases h1 : 0 ≤ n
  · have d1 : decide (0 ≤ n) = true := decide_eq_true h1
    rw [d1, Bool.true_and]
    go_enter Try.func57, Try.ntmps57
    go_wp2_with fail
    go_ret
    exact ⟨rfl, rfl⟩
  · have d1 : decide (0 ≤ n) = false := decide_eq_false h1
    rw [d1, Bool.false_and]
    go_enter Try.func57, Try.ntmps57
    go_wp2_with fail
    go_ret
    exact ⟨rfl, rfl⟩
theorem isName39_any (t : List UInt8) (hl : t.length ≤ 1000) (w : World) :
    Calls Try.prog 56 #[.string (bz t)] w fun e W' => e = .returned (.bool (nameB t)) ∧ Below w.heap.size w W' := by
  have HN := fun W => check_any t hl W
  cases e1 : nameB t with
  | true =>
    rw [e1] at HN
    replace HN := hide HN
    go_enter Try.func56, Try.ntmps56
    go_wp2_with (go_at_call 60; refine (unhide HN _).mono ?_; rintro e w1 ⟨rfl, B1⟩)
    go_ret
    exact ⟨rfl, B1⟩
  | false =>
    rw [e1] at HN
    replace HN := hide HN
    go_enter Try.func56, Try.ntmps56
    go_wp2_with (go_at_call 60; refine (unhide HN _).mono ?_; rintro e w1 ⟨rfl, B1⟩)
    go_ret
    exact ⟨rfl, B1⟩
theorem isFile_any (f : Fl) (hl : SmF f) (w : World) :
    Calls Try.prog 47 #[(.agg #[.string (bz f.nm), .float .f64 f.rk, .int .u32 f.sm, .int .i64 f.bk, .int .i64 f.fr, .int .i64 f.ln])] w fun e W' => e = .returned (.bool (okF f)) ∧ Below w.heap.size w W' := by
  have HN := fun W => isName39_any f.nm (by have := hl.1; omega) W
  have HU := fun n m W => upTo_any n m W
  clear hl
  unfold okF
  replace HN := hide HN; replace HU := hide HU
  cases hu : upB f.fr 65536 with
  | true =>
    have hw : IntKind.i64.wrap (65536 - f.fr) = 65536 - f.fr := IntWalk.i64_in _ (by unfold upB at hu; simp at hu; omega)
    cases hn : nameB f.nm with
    | true =>
      rw [hn] at HN
      go_enter Try.func47, Try.ntmps47
      go_wp2_with (first
        | (go_at_call 56; refine (unhide HN _).mono ?_; rintro e w1 ⟨rfl, B1⟩; obtain ⟨c0, c1, c2, c3, c4, c5⟩ := bk6 (new6 B1); clear c0 c1 c2)
        | (go_at_call 57; refine (unhide HU _ _ _).mono ?_; rintro e w1 ⟨rfl, rfl⟩))
      all_goals go_ret
      all_goals exact ⟨ret_b rfl (by simp [*]), (bl_alloc (Below.refl _ _) _).trans (B1.mono (by simp only [World.size_alloc]; omega))⟩
    | false =>
      rw [hn] at HN
      go_enter Try.func47, Try.ntmps47
      go_wp2_with (go_at_call 56; refine (unhide HN _).mono ?_; rintro e w1 ⟨rfl, B1⟩)
      go_ret
      exact ⟨rfl, (bl_alloc (Below.refl _ _) _).trans (B1.mono (by simp only [World.size_alloc]; omega))⟩
  | false =>
    go_enter Try.func47, Try.ntmps47
    go_wp2_with (first
      | (go_at_call 56; refine (unhide HN _).mono ?_; rintro e w1 ⟨rfl, B1⟩; obtain ⟨c0, c1, c2, c3, c4, c5⟩ := bk6 (new6 B1); clear c0 c1 c2)
      | (go_at_call 57; refine (unhide HU _ _ _).mono ?_; rintro e w1 ⟨rfl, rfl⟩))
    all_goals go_ret
    all_goals exact ⟨ret_b rfl (by simp), (bl_alloc (Below.refl _ _) _).trans (B1.mono (by simp only [World.size_alloc]; omega))⟩
end Go.Proofs.Ytnjepbehfioclaa
