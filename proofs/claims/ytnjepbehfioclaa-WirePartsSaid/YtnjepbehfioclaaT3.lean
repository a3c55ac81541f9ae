import Derived.Test.YtnjepbehfioclaaT2
namespace Go.Proofs.Ytnjepbehfioclaa
open Go.RowKit
attribute [local go_sem] bz_size bz_toList run_store_float
set_option maxRecDepth 100000

set_option maxHeartbeats 1000000 in
theorem refMay_any (f : Fl) (hl : SmF f) (w : World) :
    Calls Try.prog 26 #[(.agg #[.string (bz f.nm), .float .f64 f.rk, .int .u32 f.sm, .int .i64 f.bk, .int .i64 f.fr, .int .i64 f.ln])] w fun e W' => e = .returned (.bool (okF f)) ∧ Below w.heap.size w W' := by
  have HN := fun W => refCheck_any f.nm (by have := hl.1; omega) W
  clear hl
  cases hn : nameB f.nm with
  | false =>
    have hb : okF f = false := by unfold okF; rw [hn]; rfl
    rw [hb]
    rw [hn, if_neg (by simp)] at HN
    replace HN := hide HN
    go_enter Try.func26, Try.ntmps26
    go_wp2_with (go_at_call 38; refine (unhide HN _).mono ?_; rintro e w1 ⟨rfl, B1⟩)
    go_ret
    exact ⟨rfl, (bl_alloc (Below.refl _ _) _).trans (B1.mono (by simp only [World.size_alloc]; omega))⟩
  | true =>
    rw [hn, if_pos rfl] at HN
    have hk : okF f = (upB f.bk 8192 && upB f.fr 65536 && upB f.ln (65536 - f.fr)) := by unfold okF; rw [hn, Bool.true_and]
    rw [hk]
    clear hn hk
    replace HN := hide HN
    cases hu : upB f.fr 65536 with
    | true =>
      have hw : IntKind.i64.wrap (65536 - f.fr) = 65536 - f.fr := IntWalk.i64_in _ (by unfold upB at hu; simp at hu; omega)
      have h1 : 0 ≤ f.fr := by unfold upB at hu; simp at hu; omega
      have h2 : f.fr ≤ 65536 := by unfold upB at hu; simp at hu; omega
      clear hu
      go_enter Try.func26, Try.ntmps26
      go_wp2_with (go_at_call 38; refine (unhide HN _).mono ?_; rintro e w1 ⟨rfl, B1⟩; obtain ⟨c0, c1, c2, c3, c4, c5⟩ := bk6 (new6 B1); clear c0 c1 c2)
      all_goals go_ret
      all_goals exact ⟨ret_b rfl (by first | rfl | (simp only [upB]; rw [Bool.eq_iff_iff]; simp; omega) | (simp only [upB]; simp)), (bl_alloc (Below.refl _ _) _).trans (B1.mono (by simp only [World.size_alloc]; omega))⟩
    | false =>
      have h1 : ¬ (0 ≤ f.fr ∧ f.fr ≤ 65536) := by
        intro h
        unfold upB at hu
        rw [decide_eq_true h.1, decide_eq_true h.2] at hu
        cases hu
      clear hu
      go_enter Try.func26, Try.ntmps26
      go_wp2_with (go_at_call 38; refine (unhide HN _).mono ?_; rintro e w1 ⟨rfl, B1⟩; obtain ⟨c0, c1, c2, c3, c4, c5⟩ := bk6 (new6 B1); clear c0 c1 c2)
      all_goals first | (exfalso; omega) | go_ret
      all_goals exact ⟨ret_b rfl (by first | rfl | (simp only [upB]; rw [Bool.eq_iff_iff]; simp; omega) | (simp only [upB]; simp)), (bl_alloc (Below.refl _ _) _).trans (B1.mono (by simp only [World.size_alloc]; omega))⟩
end Go.Proofs.Ytnjepbehfioclaa
