import Derived.Test.YteokimebfbnlkaaW41
namespace Go.Proofs.Yteokimebfbnlkaa
open Go.RowKit

set_option maxRecDepth 100000 in
set_option maxHeartbeats 1000000 in
theorem script_gate (size : Int) (B : Option Addr) (m c : Nat) (w : World) (hg : 60 < size ∨ 60 < m) :
    Calls Try.prog 7 #[.int .i64 size, .slice B m c] w fun e w' => e = .returned (.bool true) ∧ Below w.heap.size w w' := by
  by_cases g1 : 60 < size
  · clear hg
    go_enter Try.func7, Try.ntmps7
    go_wp2_with (go_at_call 9; refine (live_any _).mono ?_; rintro e w1 ⟨rfl, hb1⟩)
    go_ret
    exact ⟨rfl, by (repeat (first | with_reducible exact Below.refl _ _ | with_reducible assumption | with_reducible refine Below.drew ?_ | with_reducible refine bl_alloc ?_ _ | with_reducible refine bl_call ?_ (by assumption) | (focus (with_reducible refine Below.setCell ?_ ?_ _; rotate_left; focus (first | omega | (simp <;> omega)))) | fail))⟩
  · have g2 : (60 : Int) < (m : Int) := by omega
    clear hg
    go_enter Try.func7, Try.ntmps7
    go_wp2_with (go_at_call 9; refine (live_any _).mono ?_; rintro e w1 ⟨rfl, hb1⟩)
    go_ret
    exact ⟨rfl, by (repeat (first | with_reducible exact Below.refl _ _ | with_reducible assumption | with_reducible refine Below.drew ?_ | with_reducible refine bl_alloc ?_ _ | with_reducible refine bl_call ?_ (by assumption) | (focus (with_reducible refine Below.setCell ?_ ?_ _; rotate_left; focus (first | omega | (simp <;> omega)))) | fail))⟩

set_option maxRecDepth 100000 in
set_option maxHeartbeats 1000000 in
theorem script_less (size : Int) (B : Option Addr) (m c : Nat) (w : World) (g0 : size < 0) (g2 : m ≤ 60) :
    Calls Try.prog 7 #[.int .i64 size, .slice B m c] w fun e w' => e = .returned (.bool true) ∧ Below w.heap.size w w' := by
  have hNew : ∀ W, Calls Try.prog 17 #[.int .i64 size] W fun e w' => ∃ A c, e = .returned (.tuple #[.agg #[.int .i64 0, .slice A 0 c], .int .i64 1]) ∧ Below W.heap.size W w' := fun W => (new_any size W).mono fun e w' ⟨A, c, y, er, he, hc, hx, hb⟩ => by
    rcases hc with ⟨_, rfl, rfl⟩ | ⟨h0, _⟩
    · exact ⟨A, c, he, hb⟩
    · simp [sizeB] at h0; omega
  replace hNew := hide hNew
  go_enter Try.func7, Try.ntmps7
  go_wp2_with (first
    | (go_at_call 9; refine (live_any _).mono ?_; rintro e w1 ⟨rfl, hb1⟩)
    | (go_at_call 17; refine (unhide hNew _).mono ?_; rintro e w2 ⟨Ay, cy, rfl, hb2⟩)
    | fail)
  go_ret
  exact ⟨rfl, by (repeat (first | with_reducible exact Below.refl _ _ | with_reducible assumption | with_reducible refine Below.drew ?_ | with_reducible refine bl_alloc ?_ _ | with_reducible refine bl_call ?_ (by assumption) | (focus (with_reducible refine Below.setCell ?_ ?_ _; rotate_left; focus (first | omega | (simp <;> omega)))) | fail))⟩

theorem script_any (size : Int) (v : Value) (l : List Int) (w : World) (h : Hs 0 w.heap.size w v l) (hz : ∀ z ∈ l, -32768 ≤ z ∧ z ≤ 32767) :
    Calls Try.prog 7 #[.int .i64 size, v] w fun e w' => e = .returned (.bool true) ∧ Below w.heap.size w w' := by
  by_cases hg : 60 < size ∨ 60 < l.length
  · obtain ⟨B, c, rfl, _, _, _⟩ := h.open
    exact script_gate size B l.length c w hg
  · by_cases h0 : size < 0
    · obtain ⟨B, c, rfl, _, _, _⟩ := h.open
      exact script_less size B l.length c w h0 (by omega)
    · obtain ⟨n, rfl⟩ := Int.eq_ofNat_of_zero_le (show 0 ≤ size by omega)
      exact script_ok n v l w h hz (by omega) (by omega)
end Go.Proofs.Yteokimebfbnlkaa
