import Derived.Test.YthjgnbjobinhdaaP1
namespace Go.Proofs.Ythjgnbjobinhdaa
open Go.RowKit
set_option maxRecDepth 100000

set_option maxHeartbeats 400000 in
theorem isPin_any (f : Pn) (w : World) :
    Calls Try.prog 34 #[(.agg #[.int .u64 f.g, .int .i64 f.n])] w fun e w' => e = .returned (.bool (okP f)) ∧ Below w.heap.size w w' := by
  obtain ⟨fg, fn⟩ := f
  go_enter Try.func34, Try.ntmps34
  go_wp2
  all_goals go_ret
  all_goals refine ⟨ret_b rfl ?_, bl_alloc (Below.refl _ _) _⟩
  all_goals (unfold okP; simp only []; rw [Bool.eq_iff_iff]; simp; omega)

theorem eq_any (f : Pn) (z : Int) (g : Nat) (w : World) (hg : Blk w g 23 #[.int .u64 z]) :
    Calls Try.prog 28 #[(.agg #[.int .u64 f.g, .int .i64 f.n]), .pointer (some ⟨g, 0, none⟩)] w fun e w' => e = .returned (.bool (f.g == z)) ∧ Below w.heap.size w w' := by
  have c0 := hg.cell 0
  simp at c0
  have y1 := hg.lt
  go_enter Try.func28, Try.ntmps28
  go_wp2
  go_ret
  exact ⟨ret_b rfl rfl, bl_alloc (Below.refl _ _) _⟩
theorem ge_any (f : Pn) (z : Int) (g : Nat) (w : World) (hg : Blk w g 23 #[.int .u64 z]) :
    Calls Try.prog 29 #[(.agg #[.int .u64 f.g, .int .i64 f.n]), .pointer (some ⟨g, 0, none⟩)] w fun e w' => e = .returned (.bool (decide (f.g ≥ z))) ∧ Below w.heap.size w w' := by
  have c0 := hg.cell 0
  simp at c0
  have y1 := hg.lt
  go_enter Try.func29, Try.ntmps29
  go_wp2
  go_ret
  exact ⟨ret_b rfl rfl, bl_alloc (Below.refl _ _) _⟩
theorem gt_any (f : Pn) (z : Int) (g : Nat) (w : World) (hg : Blk w g 23 #[.int .u64 z]) :
    Calls Try.prog 30 #[(.agg #[.int .u64 f.g, .int .i64 f.n]), .pointer (some ⟨g, 0, none⟩)] w fun e w' => e = .returned (.bool (decide (f.g > z))) ∧ Below w.heap.size w w' := by
  have c0 := hg.cell 0
  simp at c0
  have y1 := hg.lt
  go_enter Try.func30, Try.ntmps30
  go_wp2
  go_ret
  exact ⟨ret_b rfl rfl, bl_alloc (Below.refl _ _) _⟩

/-- Is a pin of a generation below 'z', or none? -/
def offB (z : Int) (f : Pn) : Bool := decide (f.g < z) || !okP f
theorem rise_off {z : Int} {f : Pn} {r : List Pn} (h : offB z f = true) : rise z (f :: r) = false := by
  unfold offB at h
  rw [rise]
  rw [Bool.or_eq_true] at h
  rcases h with h | h
  · rw [h]; rfl
  · rw [Bool.not_eq_true'] at h; rw [h]; simp
theorem rise_on {z : Int} {f : Pn} {r : List Pn} (h : offB z f = false) : rise z (f :: r) = rise (f.g + 1) r := by
  unfold offB at h
  rw [Bool.or_eq_false_iff] at h
  rw [rise, h.1]
  have : okP f = true := by simpa using h.2
  rw [this]; rfl
set_option maxHeartbeats 1000000 in
theorem off_any (f : Pn) (hs : Sm f) (z : Int) (g : Nat) (w : World) (hg : Blk w g 23 #[.int .u64 z]) :
    Calls Try.prog 33 #[(.agg #[.int .u64 f.g, .int .i64 f.n]), .pointer (some ⟨g, 0, none⟩)] w fun e w' => e = .returned (.bool (offB z f)) ∧ Below g w w' ∧ (offB z f = false → Blk w' g 23 #[.int .u64 (f.g + 1)]) := by
  have c0 := hg.cell 0
  simp at c0
  have y1 := hg.lt
  have hp := fun W => isPin_any f W
  have hs0 := hs.1
  have hgr : ∀ W, Below w.heap.size w W → Below g w W := fun W h => h.mono (by omega)
  by_cases h1 : f.g < z
  · have e : offB z f = true := by unfold offB; rw [decide_eq_true h1]; rfl
    rw [e]
    clear hp
    replace hgr := hide hgr; replace hs := hide hs; replace e := hide e
    go_enter Try.func33, Try.ntmps33
    go_wp2
    go_ret
    exact ⟨ret_b rfl rfl, unhide hgr _ (bl_alloc (Below.refl _ _) _), fun h => by cases h⟩
  · cases ho : okP f with
    | false =>
      have e : offB z f = true := by unfold offB; rw [ho]; simp
      rw [e]
      rw [ho] at hp
      replace hgr := hide hgr; replace hs := hide hs; replace e := hide e; replace hp := hide hp
      go_enter Try.func33, Try.ntmps33
      go_wp2_with (go_at_call 34; refine (unhide hp _).mono ?_; rintro e w1 ⟨rfl, B1⟩)
      go_ret
      exact ⟨ret_b rfl rfl, unhide hgr _ ((bl_alloc (Below.refl _ _) _).trans (B1.mono (by simp only [World.size_alloc]; omega))), fun h => by cases h⟩
    | true =>
      have e : offB z f = false := by unfold offB; rw [ho, decide_eq_false h1]; rfl
      have hok := (okP_iff.1 ho).1
      rw [e]
      rw [ho] at hp
      have hw : IntKind.u64.wrap (f.g + 1) = f.g + 1 := IntWalk.u64_in _ (by omega)
      replace hgr := hide hgr; replace hs := hide hs; replace e := hide e; replace hp := hide hp
      have hg0 := hide hg
      clear hg
      go_enter Try.func33, Try.ntmps33
      go_wp2_with (go_at_call 34; refine (unhide hp _).mono ?_; rintro e w1 ⟨rfl, B1⟩; (have q0 : Blk w1 w.heap.size 35 #[.int .u64 f.g, .int .i64 f.n] := new2 B1); (have q1 : Blk w1 g 23 #[.int .u64 z] := Blk.below ((unhide hg0).alloc _) B1 (by simp only [World.size_alloc]; omega)); obtain ⟨d0, d1⟩ := bk2 q0; (have d2 := q1.cell 0); simp at d2; (have f2 := q1.frozen 0); (have z1 := q0.lt); (have z2 := q1.lt))
      go_ret
      refine ⟨ret_b rfl rfl, ?_, fun _ => ?_⟩
      · exact (unhide hgr _ ((bl_alloc (Below.refl _ _) _).trans (B1.mono (by simp only [World.size_alloc]; omega)))).setCell (Nat.le_refl _) _
      · exact q1.set 0 _
end Go.Proofs.Ythjgnbjobinhdaa
