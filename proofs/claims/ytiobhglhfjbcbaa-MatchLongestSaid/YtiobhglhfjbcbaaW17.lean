import Derived.Test.YtiobhglhfjbcbaaW16
namespace Go.Proofs.Ytiobhglhfjbcbaa
open Go.RowKit

set_option maxRecDepth 100000 in
set_option maxHeartbeats 8000000 in
theorem long_gate (lo : Nat) (v : Value) (l : List UInt8) (at_ dist : Int) (w : World) (h : Bs lo w.heap.size w v l) (hg : ¬ (l.length ≤ 200 ∧ 1 ≤ dist ∧ dist ≤ 300)) :
    Calls Try.prog 8 #[v, .int .i64 at_, .int .i64 dist] w fun e w' => e = .returned (.bool true) ∧ Below w.heap.size w w' := by
  obtain ⟨A, c, rfl, x1, x2, _⟩ := h.open
  clear h
  have hd : (decide (200 < (l.length : Int)) || decide (dist < 1) || decide (300 < dist)) = true := by simp; omega
  clear hg
  go_enter Try.func8, Try.ntmps8
  go_wp2_with (go_at_call 10; refine (live_any _).mono ?_; rintro e w1 ⟨rfl, hb1⟩)
  all_goals go_ret
  all_goals exact ⟨rfl, hb1⟩

set_option maxRecDepth 100000 in
set_option maxHeartbeats 8000000 in
theorem long_bad (lo : Nat) (v : Value) (l : List UInt8) (at_ dist : Int) (w : World) (h : Bs lo w.heap.size w v l) (h1 : l.length ≤ 200) (h2 : 1 ≤ dist) (h3 : dist ≤ 300) (ha : at_ < 0 ∨ (l.length : Int) ≤ at_) :
    Calls Try.prog 8 #[v, .int .i64 at_, .int .i64 dist] w fun e w' => e = .returned (.bool true) ∧ Below w.heap.size w w' := by
  have hf := fun W (hb : Below w.heap.size w W) => Find_any lo v l at_ noT 1 W (h.grow hb) (by rw [findR, if_neg (by omega), if_pos ha])
  obtain ⟨A, c, rfl, x1, x2, _⟩ := h.open
  clear h
  replace hf := hide hf; replace ha := hide ha
  go_enter Try.func8, Try.ntmps8
  go_wp2_with (first
    | (go_at_call 10; refine (live_any _).mono ?_; rintro e w1 ⟨rfl, hb1⟩)
    | (go_at_call 11; refine (unhide hf _ (by (repeat (first | with_reducible exact Below.refl _ _ | with_reducible assumption | with_reducible refine Below.drew ?_ | with_reducible refine bl_alloc ?_ _ | with_reducible refine bl_call ?_ (by assumption) | (focus (with_reducible refine Below.setCell ?_ ?_ _; rotate_left; focus (first | omega | (simp <;> omega)))) | fail)))).mono ?_; rintro e w2 ⟨rfl, hb2⟩)
    | fail)
  all_goals go_ret
  all_goals exact ⟨ret_b rfl (by have ha' := unhide ha; first | rfl | (simp; omega) | (exfalso; omega)), by (repeat (first | with_reducible exact Below.refl _ _ | with_reducible assumption | with_reducible refine Below.drew ?_ | with_reducible refine bl_alloc ?_ _ | with_reducible refine bl_call ?_ (by assumption) | (focus (with_reducible refine Below.setCell ?_ ?_ _; rotate_left; focus (first | omega | (simp <;> omega)))) | fail))⟩

theorem longest_any (lo : Nat) (v : Value) (l : List UInt8) (at_ dist : Int) (w : World) (h : Bs lo w.heap.size w v l) :
    Calls Try.prog 8 #[v, .int .i64 at_, .int .i64 dist] w fun e w' => e = .returned (.bool true) ∧ Below w.heap.size w w' := by
  by_cases hg : l.length ≤ 200 ∧ 1 ≤ dist ∧ dist ≤ 300
  · obtain ⟨g1, g2, g3⟩ := hg
    by_cases ha : at_ < 0 ∨ (l.length : Int) ≤ at_
    · exact long_bad lo v l at_ dist w h g1 g2 g3 ha
    · obtain ⟨a, rfl⟩ : ∃ a : Nat, at_ = a := ⟨at_.toNat, by omega⟩
      obtain ⟨d, rfl⟩ : ∃ d : Nat, dist = d := ⟨dist.toNat, by omega⟩
      by_cases h0 : (bestF l a (min a 256)).2 = 0
      · exact long_none lo v l a d w h g1 (by omega) (by omega) (by omega) h0
      · exact long_some lo v l a d w h g1 (by omega) (by omega) (by omega) h0
  · exact long_gate lo v l at_ dist w h hg
end Go.Proofs.Ytiobhglhfjbcbaa
