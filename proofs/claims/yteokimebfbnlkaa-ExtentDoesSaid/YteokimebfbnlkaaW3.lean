import Derived.Test.YteokimebfbnlkaaW2
namespace Go.Proofs.Yteokimebfbnlkaa
open Go.RowKit

/-- A sum of two that is a machine's word. -/
def In64 (z : Int) : Prop := -9223372036854775808 ≤ z ∧ z ≤ 9223372036854775807

theorem bl_drewN {B : Nat} {a w : World} (h : Below B a w) (n : Nat) : Below B a (w.drewN n) := ⟨h.os, h.tape, h.output, h.size, h.block⟩

set_option maxHeartbeats 400000 in
theorem take1_any (f : Ex) (n : Int) (g : Nat) (w : World) (hg : Blk w g 3 #[.int .i64 n]) :
    Calls Try.prog 26 #[exV f, .pointer (some ⟨g, 0, none⟩)] w fun e w' => e = .returned (.bool (decide (n ≤ f.len))) ∧ Below w.heap.size w w' := by
  obtain ⟨fa, fl⟩ := f
  unfold exV
  have c0 := hg.cell 0
  simp at c0
  have y1 := hg.lt
  go_enter Try.func26, Try.ntmps26
  go_wp2
  go_ret
  exact ⟨ret_b rfl rfl, by (repeat (first | with_reducible exact Below.refl _ _ | with_reducible assumption | with_reducible refine Below.drew ?_ | with_reducible refine bl_alloc ?_ _ | with_reducible refine bl_call ?_ (by assumption) | (focus (with_reducible refine Below.setCell ?_ ?_ _; rotate_left; focus (first | omega | (simp <;> omega)))) | fail))⟩

set_option maxHeartbeats 1000000 in
theorem keep1_any (f s : Ex) (g : Nat) (w : World) (hg : Blk w g 26 #[.int .i64 s.at_, .int .i64 s.len]) (hs : In64 (s.at_ + s.len)) (hf : In64 (f.at_ + f.len)) :
    Calls Try.prog 29 #[exV f, .pointer (some ⟨g, 0, none⟩)] w fun e w' => e = .returned (.bool (decide (f.at_ ≤ s.at_) && decide (s.at_ + s.len ≤ f.at_ + f.len))) ∧ Below w.heap.size w w' := by
  have c0 := hg.cell 0
  have c1 := hg.cell 1
  simp at c0 c1
  have y1 := hg.lt
  have h1 := fun W => end_any s W hs
  have h2 := fun W => end_any f W hf
  replace h1 := hide h1; replace h2 := hide h2; clear hg hs hf
  obtain ⟨fa, fl⟩ := f
  obtain ⟨sa, sl⟩ := s
  simp only [] at c0 c1 h1 h2 ⊢
  unfold exV at *
  by_cases hle : fa ≤ sa
  · go_enter Try.func29, Try.ntmps29
    go_upto_region 1 with fail
    go_region_held3 (fun W => W.cell? ⟨w.heap.size, 0, none⟩ = some (.int .i64 fa) ∧ W.cell? ⟨w.heap.size, 1, none⟩ = some (.int .i64 fl) ∧ W.cell? ⟨g, 0, none⟩ = some (.int .i64 sa) ∧ W.cell? ⟨g, 1, none⟩ = some (.int .i64 sl)) (first | exact ⟨by go_simp, by go_simp, by go_simp, by go_simp⟩)
      (first
        | (go_at_call 30; refine (unhide h1 _).mono ?_; rintro e w1 ⟨rfl, hb1⟩; obtain ⟨hc1, hf1⟩ := bcell hb1; have hz1 := hb1.size; (try simp at hz1); have q1 : w.heap.size < w1.heap.size := (by omega); have q2 : g < w1.heap.size := (by omega))
        | (go_at_call 30; refine (unhide h2 _).mono ?_; rintro e w2 ⟨rfl, hb2⟩; obtain ⟨hc2, hf2⟩ := bcell hb2; have hz2 := hb2.size; (try simp at hz2); have p1 : w.heap.size < w2.heap.size := (by omega); have p2 : g < w2.heap.size := (by omega)))
    go_wp2
    go_ret
    exact ⟨ret_b rfl (by simp [hle]), by (repeat (first | with_reducible exact Below.refl _ _ | with_reducible assumption | with_reducible refine Below.drew ?_ | with_reducible refine bl_alloc ?_ _ | with_reducible refine bl_call ?_ (by assumption) | (focus (with_reducible refine Below.setCell ?_ ?_ _; rotate_left; focus (first | omega | (simp <;> omega)))) | fail))⟩
  · have hd : decide (fa ≤ sa) = false := by simp; omega
    go_enter Try.func29, Try.ntmps29
    go_upto_region 1 with fail
    go_quiet (fail)
    go_wp2
    go_ret
    exact ⟨ret_b rfl (by simp), bl_drewN (bl_alloc (Below.refl _ _) _) _⟩

set_option maxHeartbeats 1000000 in
theorem give1_any (f s : Ex) (g : Nat) (w : World) (hg : Blk w g 26 #[.int .i64 s.at_, .int .i64 s.len]) (hs : In64 (s.at_ + s.len)) (hf : In64 (f.at_ + f.len)) :
    Calls Try.prog 34 #[exV f, .pointer (some ⟨g, 0, none⟩)] w fun e w' => e = .returned (.bool (decide (f.at_ < s.at_ + s.len) && decide (s.at_ < f.at_ + f.len))) ∧ Below w.heap.size w w' := by
  have c0 := hg.cell 0
  have c1 := hg.cell 1
  simp at c0 c1
  have y1 := hg.lt
  have h1 := fun W => end_any s W hs
  have h2 := fun W => end_any f W hf
  replace h1 := hide h1; replace h2 := hide h2; clear hg hs hf
  obtain ⟨fa, fl⟩ := f
  obtain ⟨sa, sl⟩ := s
  simp only [] at c0 c1 h1 h2 ⊢
  unfold exV at *
  by_cases hle : fa < sa + sl
  · go_enter Try.func34, Try.ntmps34
    go_upto_region 1 with fail
    go_region_held3 (fun W => W.cell? ⟨w.heap.size, 0, none⟩ = some (.int .i64 fa) ∧ W.cell? ⟨w.heap.size, 1, none⟩ = some (.int .i64 fl) ∧ W.cell? ⟨g, 0, none⟩ = some (.int .i64 sa) ∧ W.cell? ⟨g, 1, none⟩ = some (.int .i64 sl)) (first | exact ⟨by go_simp, by go_simp, by go_simp, by go_simp⟩)
      (first
        | (go_at_call 30; refine (unhide h1 _).mono ?_; rintro e w1 ⟨rfl, hb1⟩; obtain ⟨hc1, hf1⟩ := bcell hb1; have hz1 := hb1.size; (try simp at hz1); have q1 : w.heap.size < w1.heap.size := (by omega); have q2 : g < w1.heap.size := (by omega))
        | (go_at_call 30; refine (unhide h2 _).mono ?_; rintro e w2 ⟨rfl, hb2⟩; obtain ⟨hc2, hf2⟩ := bcell hb2; have hz2 := hb2.size; (try simp at hz2); have p1 : w.heap.size < w2.heap.size := (by omega); have p2 : g < w2.heap.size := (by omega)))
    go_wp2
    go_ret
    exact ⟨ret_b rfl (by simp [hle]), by (repeat (first | with_reducible exact Below.refl _ _ | with_reducible assumption | with_reducible refine Below.drew ?_ | with_reducible refine bl_alloc ?_ _ | with_reducible refine bl_call ?_ (by assumption) | (focus (with_reducible refine Below.setCell ?_ ?_ _; rotate_left; focus (first | omega | (simp <;> omega)))) | fail))⟩
  · have hd : decide (fa < sa + sl) = false := by simp; omega
    clear hle
    go_enter Try.func34, Try.ntmps34
    go_upto_region 1 with fail
    first | go_region_with ((go_at_call 30; refine (unhide h1 _).mono ?_; rintro e w1 ⟨rfl, hb1⟩; obtain ⟨hc1, hf1⟩ := bcell hb1; have hz1 := hb1.size; (try simp at hz1); have q1 : w.heap.size < w1.heap.size := (by omega); have q2 : g < w1.heap.size := (by omega))) | fail
    all_goals go_wp2
    all_goals go_ret
    all_goals exact ⟨ret_b rfl (by simp [hd]), by (repeat (first | with_reducible exact Below.refl _ _ | with_reducible assumption | with_reducible refine Below.drew ?_ | with_reducible refine bl_alloc ?_ _ | with_reducible refine bl_call ?_ (by assumption) | (focus (with_reducible refine Below.setCell ?_ ?_ _; rotate_left; focus (first | omega | (simp <;> omega)))) | fail))⟩

set_option maxHeartbeats 1000000 in
theorem give2_any (f s : Ex) (g : Nat) (w : World) (hg : Blk w g 26 #[.int .i64 s.at_, .int .i64 s.len]) (hf : In64 (f.at_ + f.len)) :
    Calls Try.prog 36 #[exV f, .pointer (some ⟨g, 0, none⟩)] w fun e w' => e = .returned (.bool (decide (s.at_ ≤ f.at_ + f.len))) ∧ Below w.heap.size w w' := by
  have c0 := hg.cell 0
  simp at c0
  have y1 := hg.lt
  have h2 := fun W => end_any f W hf
  replace h2 := hide h2; clear hg hf
  obtain ⟨fa, fl⟩ := f
  obtain ⟨sa, sl⟩ := s
  simp only [] at c0 h2 ⊢
  unfold exV at *
  go_enter Try.func36, Try.ntmps36
  go_upto_region 1 with fail
  go_region_held3 (fun W => W.cell? ⟨w.heap.size, 0, none⟩ = some (.int .i64 fa) ∧ W.cell? ⟨w.heap.size, 1, none⟩ = some (.int .i64 fl) ∧ W.cell? ⟨g, 0, none⟩ = some (.int .i64 sa)) (first | exact ⟨by go_simp, by go_simp, by go_simp⟩)
    (first
      | (go_at_call 30; refine (unhide h2 _).mono ?_; rintro e w2 ⟨rfl, hb2⟩; obtain ⟨hc2, hf2⟩ := bcell hb2; have hz2 := hb2.size; (try simp at hz2); have p1 : w.heap.size < w2.heap.size := (by omega); have p2 : g < w2.heap.size := (by omega)))
  go_wp2
  go_ret
  exact ⟨ret_b rfl rfl, by (repeat (first | with_reducible exact Below.refl _ _ | with_reducible assumption | with_reducible refine Below.drew ?_ | with_reducible refine bl_alloc ?_ _ | with_reducible refine bl_call ?_ (by assumption) | (focus (with_reducible refine Below.setCell ?_ ?_ _; rotate_left; focus (first | omega | (simp <;> omega)))) | fail))⟩

set_option maxHeartbeats 1000000 in
theorem give3_any (f s : Ex) (g : Nat) (w : World) (hg : Blk w g 26 #[.int .i64 s.at_, .int .i64 s.len]) (hs : In64 (s.at_ + s.len)) :
    Calls Try.prog 37 #[exV f, .pointer (some ⟨g, 0, none⟩)] w fun e w' => e = .returned (.bool (decide (s.at_ + s.len < f.at_))) ∧ Below w.heap.size w w' := by
  have c0 := hg.cell 0
  have c1 := hg.cell 1
  simp at c0 c1
  have y1 := hg.lt
  have h1 := fun W => end_any s W hs
  replace h1 := hide h1; clear hg hs
  obtain ⟨fa, fl⟩ := f
  obtain ⟨sa, sl⟩ := s
  simp only [] at c0 c1 h1 ⊢
  unfold exV at *
  go_enter Try.func37, Try.ntmps37
  go_upto_region 1 with fail
  go_region_held3 (fun W => W.cell? ⟨w.heap.size, 0, none⟩ = some (.int .i64 fa) ∧ W.cell? ⟨g, 0, none⟩ = some (.int .i64 sa) ∧ W.cell? ⟨g, 1, none⟩ = some (.int .i64 sl)) (first | exact ⟨by go_simp, by go_simp, by go_simp⟩)
    (first
      | (go_at_call 30; refine (unhide h1 _).mono ?_; rintro e w1 ⟨rfl, hb1⟩; obtain ⟨hc1, hf1⟩ := bcell hb1; have hz1 := hb1.size; (try simp at hz1); have q1 : w.heap.size < w1.heap.size := (by omega); have q2 : g < w1.heap.size := (by omega)))
  go_wp2
  go_ret
  exact ⟨ret_b rfl rfl, by (repeat (first | with_reducible exact Below.refl _ _ | with_reducible assumption | with_reducible refine Below.drew ?_ | with_reducible refine bl_alloc ?_ _ | with_reducible refine bl_call ?_ (by assumption) | (focus (with_reducible refine Below.setCell ?_ ?_ _; rotate_left; focus (first | omega | (simp <;> omega)))) | fail))⟩
end Go.Proofs.Yteokimebfbnlkaa
