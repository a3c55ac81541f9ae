import Derived.Test.YtiobhglhfjbcbaaW9
namespace Go.Proofs.Ytiobhglhfjbcbaa
open Go.RowKit

theorem toksB_ok {l : List UInt8} (h : l.length ≤ 65536) : okB (toksB l) = true := by
  rw [okB_iff]; exact ⟨by have := toksB_len l; omega, (toksB_text l).2⟩
/-- Tokens' contract for a text whose world has grown. -/
theorem Tokens_at (lo : Nat) (v : Value) (l : List UInt8) (w : World) (h : Bs lo w.heap.size w v l) (hl : l.length ≤ 65536) (W : World) (hb : Below w.heap.size w W) :
    Calls Try.prog 13 #[v] W fun e w' => ∃ A c, e = .returned (.tuple #[.slice A (toksB l).length c, .int .i64 0]) ∧ Tks 0 w'.heap.size w' (.slice A (toksB l).length c) (toksB l) ∧ Below W.heap.size W w' :=
  (Tokens_any lo v l W (h.grow hb) hl).mono fun _ _ ⟨A, c, he, ho, hb'⟩ => ⟨A, c, he, (Tks.own ho).mono (Nat.zero_le _) (Nat.le_refl _), hb'⟩
theorem Text_at (v : Value) (T : List Tok) (most : Int) (bs : List UInt8) (er : Int) (hr : textR T most = (bs, er)) (lo : Nat) (W : World) (h : Tks lo W.heap.size W v T) :
    Calls Try.prog 16 #[v, .int .i64 most] W fun e w' => ∃ A c, e = .returned (.tuple #[.slice A bs.length c, .int .i64 er]) ∧ Bs 0 w'.heap.size w' (.slice A bs.length c) bs ∧ Below W.heap.size W w' :=
  (Text_any lo v T most bs er W h hr).mono fun e w' ⟨A, n, c, he, ho, hb'⟩ => by
    have hn : bs.length = n := by have := ownsRow_len ho; simpa using this
    subst hn
    exact ⟨A, c, he, (Bs.own ho).mono (Nat.zero_le _) (Nat.le_refl _), hb'⟩

set_option maxHeartbeats 4000000 in
theorem back_any (lo : Nat) (v : Value) (l : List UInt8) (w : World) (h : Bs lo w.heap.size w v l) :
    Calls Try.prog 5 #[v] w fun e w' => e = .returned (.bool true) ∧ Below w.heap.size w w' := by
  obtain ⟨A, c, rfl, h1, h2, _⟩ := h.open
  by_cases hl : l.length ≤ 500
  · have hT := Tokens_at lo _ l w h (by omega)
    obtain ⟨tx, tok⟩ := toksB_text l
    have hs := toksB_sum l
    have hln := toksB_len l
    have hok := toksB_ok (l := l) (by omega)
    generalize toksB l = T at *
    have hr : textR T l.length = (l, 0) := by
      rw [textR, if_neg (by rw [hok]; decide), if_neg (by omega), if_pos ⟨by omega, by omega⟩, tx]
    have hX := fun v => Text_at v T l.length l 0 hr
    have hL := fun lo v W h => Long_any lo v T W h
    have hC := fun lo v W h => Check_any lo v T W h
    rw [show longN T = (l.length : Int) by simp [longN, hok, hs], hok] at hL
    rw [hok] at hC
    change ∀ (lo : Nat) (v : Value) (W : World), Tks lo W.heap.size W v T → Calls Try.prog 18 #[v] W fun e w' => e = .returned (.tuple #[.int .i64 l.length, .int .i64 0]) ∧ Below W.heap.size W w' at hL
    change ∀ (lo : Nat) (v : Value) (W : World), Tks lo W.heap.size W v T → Calls Try.prog 21 #[v] W fun e w' => e = .returned (.int .i64 0) ∧ Below W.heap.size W w' at hC
    clear tok tx hs hok hr
    replace hT := hide hT; replace hX := hide hX; replace hL := hide hL; replace hC := hide hC; replace h := hide h
    go_enter Try.func5, Try.ntmps5
    go_wp2_with (first
      | (go_at_call 10; refine (live_any _).mono ?_; rintro e w1 ⟨rfl, hb1⟩)
      | (go_at_call 13; refine (unhide hT _ (by (repeat (first | with_reducible exact Below.refl _ _ | with_reducible assumption | with_reducible refine Below.drew ?_ | with_reducible refine bl_alloc ?_ _ | with_reducible refine bl_call ?_ (by assumption) | (focus (with_reducible refine Below.setCell ?_ ?_ _; rotate_left; focus (first | omega | (simp <;> omega)))) | fail)))).mono ?_; rintro e w2 ⟨A2, c2, rfl, ht2, hb2⟩; replace ht2 := hide ht2)
      | (go_at_call 16; refine (unhide hX _ _ _ (unhide ht2)).mono ?_; rintro e w3 ⟨A3, c3, rfl, hx3, hb3⟩; replace hx3 := hide hx3)
      | (go_at_call 18; refine (unhide hL _ _ _ ((unhide ht2).grow hb3)).mono ?_; rintro e w4 ⟨rfl, hb4⟩)
      | (go_at_call 20; refine (sameb_any _ _ _ _ _ _ l l _ ((unhide hx3).grow hb4) (Bs.below (unhide h) (B := w.heap.size) (by (repeat (first | with_reducible exact Below.refl _ _ | with_reducible assumption | with_reducible refine Below.drew ?_ | with_reducible refine bl_alloc ?_ _ | with_reducible refine bl_call ?_ (by assumption) | (focus (with_reducible refine Below.setCell ?_ ?_ _; rotate_left; focus (first | omega | (simp <;> omega)))) | fail))) (Nat.le_refl _))).mono ?_; rintro e w5 ⟨rfl, rfl⟩; rw [decide_eq_true rfl])
      | (go_at_call 21; refine (unhide hC _ _ _ (((unhide ht2).grow hb3).grow hb4)).mono ?_; rintro e w6 ⟨rfl, hb6⟩)
      | fail)
    go_ret
    exact ⟨rfl, by (repeat (first | with_reducible exact Below.refl _ _ | with_reducible assumption | with_reducible refine Below.drew ?_ | with_reducible refine bl_alloc ?_ _ | with_reducible refine bl_call ?_ (by assumption) | (focus (with_reducible refine Below.setCell ?_ ?_ _; rotate_left; focus (first | omega | (simp <;> omega)))) | fail))⟩
  · clear h
    go_enter Try.func5, Try.ntmps5
    go_wp2_with (go_at_call 10; refine (live_any _).mono ?_; rintro e w1 ⟨rfl, hb1⟩)
    go_ret
    exact ⟨rfl, hb1⟩
end Go.Proofs.Ytiobhglhfjbcbaa
