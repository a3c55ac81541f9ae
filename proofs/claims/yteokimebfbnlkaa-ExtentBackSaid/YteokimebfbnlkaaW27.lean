import Derived.Test.YteokimebfbnlkaaW23
import Derived.Test.YteokimebfbnlkaaW24
import Derived.Test.YteokimebfbnlkaaW25
import Derived.Test.YteokimebfbnlkaaW26
namespace Go.Proofs.Yteokimebfbnlkaa
open Go.RowKit

set_option maxRecDepth 100000 in
set_option maxHeartbeats 4000000 in
theorem back_gate (lo : Nat) (v : Value) (x : Xs) (n : Int) (s : Ex) (w : World) (h : XsR lo w.heap.size w v x) (hfw : (decide ((x.size ≤ 100 ∨ 8192 < x.size) ∧ x.free.length ≤ 60)) = false) :
    Calls Try.prog 4 #[v, .int .i64 n, exV s] w fun e w' => e = .returned (.bool true) ∧ Below w.heap.size w w' := by
  have hfew : ∀ W, Below w.heap.size w W → Calls Try.prog 10 #[v] W fun e w' => e = .returned (.bool (decide ((x.size ≤ 100 ∨ 8192 < x.size) ∧ x.free.length ≤ 60))) ∧ Below W.heap.size W w' := fun W hB => few_any v x lo W (h.grow hB)
  rw [hfw] at hfew
  obtain ⟨b0, rfl, hb0⟩ := h
  obtain ⟨A, c, rfl, n1, n2, hopen⟩ := hb0.open
  unfold exV at *
  clear hopen hb0 n1 n2 hfw
  replace hfew := hide hfew
  go_enter Try.func4, Try.ntmps4
  go_wp2_with (first
    | (go_at_call 9; refine (live_any _).mono ?_; rintro e w1 ⟨rfl, hb1⟩; have hz1 := hb1.size; (try simp at hz1); have y1 : w.heap.size < w1.heap.size := (by omega); have M1 : Blk w1 w.heap.size 24 #[.int .i64 x.size, .slice A x.free.length c] := Blk.below (by (repeat (first | with_reducible assumption | (focus (with_reducible refine Blk.new ?_; focus (simp <;> fail))) | with_reducible refine Blk.set3 (a := .slice none 0 0) (b := .slice none 0 0) (c := .int .i64 0) ?_ | with_reducible refine Blk.alloc ?_ _ | with_reducible refine Blk.drew ?_ | (focus (with_reducible refine Blk.far ?_ ?_ _; rotate_left; focus (first | omega | (simp <;> omega)))) | (focus (with_reducible refine Blk.below ?_ hb1 ?_; rotate_left; focus (first | omega | (simp <;> omega)))) | (focus (with_reducible refine Blk.below ?_ hb2 ?_; rotate_left; focus (first | omega | (simp <;> omega)))) | (focus (with_reducible refine Blk.below ?_ hb3 ?_; rotate_left; focus (first | omega | (simp <;> omega)))) | (focus (with_reducible refine Blk.below ?_ hb4 ?_; rotate_left; focus (first | omega | (simp <;> omega)))) | (focus (with_reducible refine Blk.below ?_ hb5 ?_; rotate_left; focus (first | omega | (simp <;> omega)))) | (focus (with_reducible refine Blk.below ?_ hb6 ?_; rotate_left; focus (first | omega | (simp <;> omega)))) | (focus (with_reducible refine Blk.below ?_ hb7 ?_; rotate_left; focus (first | omega | (simp <;> omega)))) | (focus (with_reducible refine Blk.below ?_ hb8 ?_; rotate_left; focus (first | omega | (simp <;> omega)))) | (focus (with_reducible refine Blk.below ?_ hb9 ?_; rotate_left; focus (first | omega | (simp <;> omega)))) | (focus (with_reducible refine Blk.below ?_ hb10 ?_; rotate_left; focus (first | omega | (simp <;> omega)))) | (focus (with_reducible refine Blk.below ?_ hb11 ?_; rotate_left; focus (first | omega | (simp <;> omega)))) | (focus (with_reducible refine Blk.below ?_ hb12 ?_; rotate_left; focus (first | omega | (simp <;> omega)))) | (focus (with_reducible refine Blk.below ?_ hb13 ?_; rotate_left; focus (first | omega | (simp <;> omega)))) | (focus (with_reducible refine Blk.below ?_ hb14 ?_; rotate_left; focus (first | omega | (simp <;> omega)))) | (focus (with_reducible refine Blk.below ?_ hb15 ?_; rotate_left; focus (first | omega | (simp <;> omega)))) | fail))) hb1 (by first | omega | (simp <;> omega)); have m1a := M1.cell 0; have m1b := M1.cell 1; simp at m1a m1b)
    | (go_at_call 10; refine (unhide hfew _ (by (repeat (first | with_reducible exact Below.refl _ _ | with_reducible assumption | with_reducible refine Below.drew ?_ | with_reducible refine bl_alloc ?_ _ | with_reducible refine bl_call ?_ (by assumption) | (focus (with_reducible refine Below.setCell ?_ ?_ _; rotate_left; focus (first | omega | (simp <;> omega)))) | fail)))).mono ?_; rintro e w2 ⟨rfl, hb2⟩)
    | fail)
  go_ret
  exact ⟨rfl, by (repeat (first | with_reducible exact Below.refl _ _ | with_reducible assumption | with_reducible refine Below.drew ?_ | with_reducible refine bl_alloc ?_ _ | with_reducible refine bl_call ?_ (by assumption) | (focus (with_reducible refine Below.setCell ?_ ?_ _; rotate_left; focus (first | omega | (simp <;> omega)))) | fail))⟩

theorem back_any (lo : Nat) (v : Value) (x : Xs) (n : Int) (s : Ex) (w : World) (h : XsR lo w.heap.size w v x) (hr : Rgs x.free) (hs : s.len ≤ 9223372036854775807) :
    Calls Try.prog 4 #[v, .int .i64 n, exV s] w fun e w' => e = .returned (.bool true) ∧ Below w.heap.size w w' := by
  obtain ⟨a, y, er, ht⟩ := take_ex x n
  obtain ⟨u, ek, hk⟩ := keep_ex x s
  cases hfw : decide ((x.size ≤ 100 ∨ 8192 < x.size) ∧ x.free.length ≤ 60) with
  | false => exact back_gate lo v x n s w h hfw
  | true =>
    by_cases he : er = 0 <;> by_cases hk0 : ek = 0
    · exact back_tt lo v x n s a y u er ek w h hr hs hfw ht he hk hk0
    · exact back_tf lo v x n s a y u er ek w h hr hs hfw ht he hk hk0
    · exact back_ft lo v x n s a y u er ek w h hr hs hfw ht he hk hk0
    · exact back_ff lo v x n s a y u er ek w h hr hs hfw ht he hk hk0
end Go.Proofs.Yteokimebfbnlkaa
