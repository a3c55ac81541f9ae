import Derived.Test.YtiobhglhfjbcbaaW10
namespace Go.Proofs.Ytiobhglhfjbcbaa
open Go.RowKit

set_option maxHeartbeats 4000000 in
theorem most_any (lo : Nat) (v : Value) (l : List Tok) (w : World) (h : Tks lo w.heap.size w v l) :
    Calls Try.prog 6 #[v] w fun e w' => e = .returned (.bool true) ∧ Below w.heap.size w w' := by
  obtain ⟨A, c, rfl, h1, h2, _⟩ := h.open
  by_cases hl : l.length ≤ 200
  · have hL := fun W (hb : Below w.heap.size w W) => Long_any lo _ l W (h.grow hb)
    cases hok : okB l with
    | false =>
      rw [show longN l = 0 by simp [longN, hok], hok] at hL
      change ∀ W, Below w.heap.size w W → Calls Try.prog 18 #[.slice A l.length c] W fun e w' => e = .returned (.tuple #[.int .i64 0, .int .i64 1]) ∧ Below W.heap.size W w' at hL
      replace hL := hide hL; replace hok := hide hok; clear h
      go_enter Try.func6, Try.ntmps6
      go_wp2_with (first
        | (go_at_call 10; refine (live_any _).mono ?_; rintro e w1 ⟨rfl, hb1⟩)
        | (go_at_call 18; refine (unhide hL _ (by (repeat (first | with_reducible exact Below.refl _ _ | with_reducible assumption | with_reducible refine Below.drew ?_ | with_reducible refine bl_alloc ?_ _ | with_reducible refine bl_call ?_ (by assumption) | (focus (with_reducible refine Below.setCell ?_ ?_ _; rotate_left; focus (first | omega | (simp <;> omega)))) | fail)))).mono ?_; rintro e w4 ⟨rfl, hb4⟩)
        | fail)
      go_ret
      exact ⟨rfl, by (repeat (first | with_reducible exact Below.refl _ _ | with_reducible assumption | with_reducible refine Below.drew ?_ | with_reducible refine bl_alloc ?_ _ | with_reducible refine bl_call ?_ (by assumption) | (focus (with_reducible refine Below.setCell ?_ ?_ _; rotate_left; focus (first | omega | (simp <;> omega)))) | fail))⟩
    | true =>
      have ho := (okB_iff.1 hok).2
      have hs := okL_sum ho
      have hx := textF_len (b := []) ho
      simp only [List.length_nil] at hx
      obtain ⟨M, hM⟩ : ∃ M : Nat, M = (textF [] l).length := ⟨_, rfl⟩
      have hS : sumT l = (M : Int) := by rw [hM]; omega
      have hr1 : textR l M = (textF [] l, 0) := by rw [textR, if_neg (by rw [hok]; decide), if_neg (by omega), if_pos ⟨by omega, by omega⟩]
      rw [show longN l = (M : Int) by simp [longN, hok, hS], hok] at hL
      change ∀ W, Below w.heap.size w W → Calls Try.prog 18 #[.slice A l.length c] W fun e w' => e = .returned (.tuple #[.int .i64 M, .int .i64 0]) ∧ Below W.heap.size W w' at hL
      have hX := fun W (hb : Below w.heap.size w W) => Text_at _ l M _ 0 hr1 lo W (h.grow hb)
      rw [← hM] at hX
      rw [hS] at hs
      obtain ⟨s1, s2⟩ := hs
      have hY : Hid (M ≠ 0 → ∀ W (hb : Below w.heap.size w W), Calls Try.prog 16 #[.slice A l.length c, .int .i64 ((M : Int) - 1)] W fun e w' => ∃ A c, e = .returned (.tuple #[.slice A 0 c, .int .i64 3]) ∧ Below W.heap.size W w') := hide fun h0 W hb => by
        have hr2 : textR l ((M : Int) - 1) = ([], 3) := by rw [textR, if_neg (by rw [hok]; decide), if_neg (by omega), if_neg (by omega)]
        exact (Text_at _ l ((M : Int) - 1) _ 3 hr2 lo W (h.grow hb)).mono fun _ _ ⟨A, c, he, _, hb⟩ => ⟨A, c, he, hb⟩
      replace hL := hide hL; replace hok := hide hok; replace hX := hide hX; clear h ho hx hM hS hr1
      by_cases h0 : M = 0
      · subst h0
        go_enter Try.func6, Try.ntmps6
        go_wp2_with (first
          | (go_at_call 10; refine (live_any _).mono ?_; rintro e w1 ⟨rfl, hb1⟩)
          | (go_at_call 18; refine (unhide hL _ (by (repeat (first | with_reducible exact Below.refl _ _ | with_reducible assumption | with_reducible refine Below.drew ?_ | with_reducible refine bl_alloc ?_ _ | with_reducible refine bl_call ?_ (by assumption) | (focus (with_reducible refine Below.setCell ?_ ?_ _; rotate_left; focus (first | omega | (simp <;> omega)))) | fail)))).mono ?_; rintro e w4 ⟨rfl, hb4⟩)
          | (go_at_call 16; refine (unhide hX _ (by (repeat (first | with_reducible exact Below.refl _ _ | with_reducible assumption | with_reducible refine Below.drew ?_ | with_reducible refine bl_alloc ?_ _ | with_reducible refine bl_call ?_ (by assumption) | (focus (with_reducible refine Below.setCell ?_ ?_ _; rotate_left; focus (first | omega | (simp <;> omega)))) | fail)))).mono ?_; rintro e w5 ⟨A5, c5, rfl, hx5, hb5⟩; replace hx5 := hide hx5)
          | fail)
        all_goals go_ret
        all_goals first | exact ⟨rfl, by (repeat (first | with_reducible exact Below.refl _ _ | with_reducible assumption | with_reducible refine Below.drew ?_ | with_reducible refine bl_alloc ?_ _ | with_reducible refine bl_call ?_ (by assumption) | (focus (with_reducible refine Below.setCell ?_ ?_ _; rotate_left; focus (first | omega | (simp <;> omega)))) | fail))⟩ | (exfalso; omega)
      · have hY' := unhide hY h0
        replace hY' := hide hY'
        have i1 : IntKind.i64.wrap ((M : Int) - 1) = (M : Int) - 1 := IntWalk.i64_in _ (by omega)
        have h0' : ((M : Int) == 0) = false := by simpa using h0
        go_enter Try.func6, Try.ntmps6
        go_wp2_with (first
          | (go_at_call 10; refine (live_any _).mono ?_; rintro e w1 ⟨rfl, hb1⟩)
          | (go_at_call 18; refine (unhide hL _ (by (repeat (first | with_reducible exact Below.refl _ _ | with_reducible assumption | with_reducible refine Below.drew ?_ | with_reducible refine bl_alloc ?_ _ | with_reducible refine bl_call ?_ (by assumption) | (focus (with_reducible refine Below.setCell ?_ ?_ _; rotate_left; focus (first | omega | (simp <;> omega)))) | fail)))).mono ?_; rintro e w4 ⟨rfl, hb4⟩)
          | (go_at_call 16; have _t := tok1; refine (unhide hY' _ (by (repeat (first | with_reducible exact Below.refl _ _ | with_reducible assumption | with_reducible refine Below.drew ?_ | with_reducible refine bl_alloc ?_ _ | with_reducible refine bl_call ?_ (by assumption) | (focus (with_reducible refine Below.setCell ?_ ?_ _; rotate_left; focus (first | omega | (simp <;> omega)))) | fail)))).mono ?_; rintro e w6 ⟨A6, c6, rfl, hb6⟩; clear tok1 _t)
          | (go_at_call 16; refine (unhide hX _ (by (repeat (first | with_reducible exact Below.refl _ _ | with_reducible assumption | with_reducible refine Below.drew ?_ | with_reducible refine bl_alloc ?_ _ | with_reducible refine bl_call ?_ (by assumption) | (focus (with_reducible refine Below.setCell ?_ ?_ _; rotate_left; focus (first | omega | (simp <;> omega)))) | fail)))).mono ?_; rintro e w5 ⟨A5, c5, rfl, hx5, hb5⟩; replace hx5 := hide hx5; have tok1 : True := trivial)
          | fail)
        all_goals go_ret
        all_goals first | exact ⟨rfl, by (repeat (first | with_reducible exact Below.refl _ _ | with_reducible assumption | with_reducible refine Below.drew ?_ | with_reducible refine bl_alloc ?_ _ | with_reducible refine bl_call ?_ (by assumption) | (focus (with_reducible refine Below.setCell ?_ ?_ _; rotate_left; focus (first | omega | (simp <;> omega)))) | fail))⟩ | (exfalso; omega)
  · clear h
    go_enter Try.func6, Try.ntmps6
    go_wp2_with (go_at_call 10; refine (live_any _).mono ?_; rintro e w1 ⟨rfl, hb1⟩)
    go_ret
    exact ⟨rfl, hb1⟩
end Go.Proofs.Ytiobhglhfjbcbaa
