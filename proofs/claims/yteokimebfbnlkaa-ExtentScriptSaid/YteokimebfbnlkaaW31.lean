import Derived.Test.YteokimebfbnlkaaW30
namespace Go.Proofs.Yteokimebfbnlkaa
open Go.RowKit

set_option maxRecDepth 100000 in
set_option maxHeartbeats 8000000 in
theorem whole_gate (lo : Nat) (v vo : Value) (x : Xs) (n : Int) (ord : List Int) (w : World) (h : XsR lo w.heap.size w v x) (hvo : Os 0 w.heap.size w vo ord) (hg : ¬ ((decide ((x.size ≤ 100 ∨ 8192 < x.size) ∧ x.free.length ≤ 60)) = true ∧ ord.length ≤ 40 ∧ 1 ≤ n)) :
    Calls Try.prog 8 #[v, .int .i64 n, vo] w fun e w' => e = .returned (.bool true) ∧ Below w.heap.size w w' := by
  have hfew : ∀ W, Below w.heap.size w W → Calls Try.prog 10 #[v] W fun e w' => e = .returned (.bool (decide ((x.size ≤ 100 ∨ 8192 < x.size) ∧ x.free.length ≤ 60))) ∧ Below W.heap.size W w' := fun W hB => few_any v x lo W (h.grow hB)
  generalize decide ((x.size ≤ 100 ∨ 8192 < x.size) ∧ x.free.length ≤ 60) = fw at *
  obtain ⟨b0, rfl, hb0⟩ := h
  obtain ⟨Ax, cx, rfl, n1, n2, _⟩ := hb0.open
  obtain ⟨Bo, co, rfl, m1, m2, _⟩ := hvo.open
  clear hb0 hvo
  replace hfew := hide hfew
  have key : fw = false ∨ (fw = true ∧ (40 : Int) < ord.length) ∨ (fw = true ∧ ¬ (40 : Int) < ord.length ∧ n < 1) := by
    cases fw
    · exact .inl rfl
    · by_cases h1 : (40 : Int) < ord.length
      · exact .inr (.inl ⟨rfl, h1⟩)
      · exact .inr (.inr ⟨rfl, h1, by
          apply Classical.byContradiction
          intro h2
          exact hg ⟨rfl, by omega, by omega⟩⟩)
  clear hg
  rcases key with rfl | ⟨rfl, g1⟩ | ⟨rfl, g1, g2⟩
  all_goals
    go_enter Try.func8, Try.ntmps8
    go_wp2_with (first
      | (go_at_call 9; refine (live_any _).mono ?_; rintro e w1 ⟨rfl, hb1⟩; have hz1 := hb1.size; (try simp at hz1); have y1 : w.heap.size < w1.heap.size := (by omega); have M1 : Blk w1 w.heap.size 24 #[.int .i64 x.size, .slice Ax x.free.length cx] := Blk.below (by (repeat (first | with_reducible assumption | (focus (with_reducible refine Blk.new ?_; focus (simp <;> fail))) | with_reducible refine Blk.set3 (a := .slice none 0 0) (b := .slice none 0 0) (c := .int .i64 0) ?_ | with_reducible refine Blk.alloc ?_ _ | with_reducible refine Blk.drew ?_ | (focus (with_reducible refine Blk.far ?_ ?_ _; rotate_left; focus (first | omega | (simp <;> omega)))) | (focus (with_reducible refine Blk.below ?_ hb1 ?_; rotate_left; focus (first | omega | (simp <;> omega)))) | (focus (with_reducible refine Blk.below ?_ hb2 ?_; rotate_left; focus (first | omega | (simp <;> omega)))) | (focus (with_reducible refine Blk.below ?_ hb3 ?_; rotate_left; focus (first | omega | (simp <;> omega)))) | (focus (with_reducible refine Blk.below ?_ hb4 ?_; rotate_left; focus (first | omega | (simp <;> omega)))) | (focus (with_reducible refine Blk.below ?_ hb5 ?_; rotate_left; focus (first | omega | (simp <;> omega)))) | (focus (with_reducible refine Blk.below ?_ hb6 ?_; rotate_left; focus (first | omega | (simp <;> omega)))) | (focus (with_reducible refine Blk.below ?_ hb7 ?_; rotate_left; focus (first | omega | (simp <;> omega)))) | (focus (with_reducible refine Blk.below ?_ hb8 ?_; rotate_left; focus (first | omega | (simp <;> omega)))) | (focus (with_reducible refine Blk.below ?_ hb9 ?_; rotate_left; focus (first | omega | (simp <;> omega)))) | (focus (with_reducible refine Blk.below ?_ hb10 ?_; rotate_left; focus (first | omega | (simp <;> omega)))) | (focus (with_reducible refine Blk.below ?_ hb11 ?_; rotate_left; focus (first | omega | (simp <;> omega)))) | (focus (with_reducible refine Blk.below ?_ hb12 ?_; rotate_left; focus (first | omega | (simp <;> omega)))) | (focus (with_reducible refine Blk.below ?_ hb13 ?_; rotate_left; focus (first | omega | (simp <;> omega)))) | (focus (with_reducible refine Blk.below ?_ hb14 ?_; rotate_left; focus (first | omega | (simp <;> omega)))) | (focus (with_reducible refine Blk.below ?_ hb15 ?_; rotate_left; focus (first | omega | (simp <;> omega)))) | fail))) hb1 (by first | omega | (simp <;> omega)); have m1a := M1.cell 0; have m1b := M1.cell 1; simp at m1a m1b)
      | (go_at_call 10; refine (unhide hfew _ (by (repeat (first | with_reducible exact Below.refl _ _ | with_reducible assumption | with_reducible refine Below.drew ?_ | with_reducible refine bl_alloc ?_ _ | with_reducible refine bl_call ?_ (by assumption) | (focus (with_reducible refine Below.setCell ?_ ?_ _; rotate_left; focus (first | omega | (simp <;> omega)))) | fail)))).mono ?_; rintro e w2 ⟨rfl, hb2⟩)
      | fail)
    go_ret
    exact ⟨rfl, by (repeat (first | with_reducible exact Below.refl _ _ | with_reducible assumption | with_reducible refine Below.drew ?_ | with_reducible refine bl_alloc ?_ _ | with_reducible refine bl_call ?_ (by assumption) | (focus (with_reducible refine Below.setCell ?_ ?_ _; rotate_left; focus (first | omega | (simp <;> omega)))) | fail))⟩
end Go.Proofs.Yteokimebfbnlkaa
