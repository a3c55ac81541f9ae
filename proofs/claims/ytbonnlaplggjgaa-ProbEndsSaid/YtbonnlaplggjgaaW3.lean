import Derived.Test.YtbonnlaplggjgaaW2
namespace Go.Proofs.Ytbonnlaplggjgaa
open Go.RowKit

/-- A slice of one number that the call has just made. -/
theorem Is.one (w : World) (p : Int) : Is 0 (w.heap.size + 1) (w.alloc (.cells #[.int .i64 p] 3)) (.slice (some ⟨w.heap.size, 0, none⟩) 1 1) [p] :=
  (Is.of_blk (l := [p]) (Blk.new (w := w) (t := 3) (cs := #[.int .i64 p]) rfl) rfl (by simp) 1 rfl).mono (Nat.le_refl _) (by simp)
theorem okC_one (p : Int) : okC [p] = isC p := by simp [okC]
theorem Check_one (p : Int) (w W : World) (hW : W = w.alloc (.cells #[.int .i64 p] 3)) : Calls Try.prog 18 #[.slice (some ⟨w.heap.size, 0, none⟩) 1 1] W fun e w' => e = .returned (.int .i64 (badE (isC p))) ∧ W = w' := by
  subst hW
  have := Check_any 0 _ _ [p] _ (Is.one w p)
  rwa [okC_one] at this

set_option maxHeartbeats 2000000 in
theorem ends_any (p : Int) (b : Bool) (w : World) : Calls Try.prog 7 #[.int .i64 p, .bool b] w fun e w' => e = .returned (.bool true) ∧ Below w.heap.size w w' := by
  have hl := fun W => live_any W
  have hc := fun w W hW => Check_one p w W hW
  have hL := fun q W => Learn_any q b W
  replace hl := hide hl; replace hc := hide hc; replace hL := hide hL
  cases hp : isC p
  · go_enter Try.func7, Try.ntmps7
    go_wp2_with (first
      | (go_at_call 8; refine (unhide hl _).mono ?_; rintro e w1 ⟨rfl, rfl⟩)
      | (go_at_call 18; refine (unhide hc _ _ rfl).mono ?_; rintro e w1 ⟨rfl, rfl⟩; rw [hp, badE_f]))
    go_ret
    exact ⟨rfl, by (repeat (first | with_reducible exact Below.refl _ _ | with_reducible assumption | with_reducible refine Below.drew ?_ | with_reducible refine bl_alloc ?_ _ | with_reducible refine bl_call ?_ (by assumption) | (focus (with_reducible refine Below.setCell ?_ ?_ _; rotate_left; focus (first | omega | (simp <;> omega)))) | fail))⟩
  · have hit := fun n => itL_ok b n hp
    have hend : itL b 400 p = if b then 31 else 2017 := by
      cases b
      · exact itL_end_false hp
      · exact itL_end_true hp
    have hlast : lrn (itL b 400 p) b = itL b 400 p := by
      rw [hend]
      cases b <;> decide
    replace hit := hide hit; replace hend := hide hend; replace hlast := hide hlast
    go_enter Try.func7, Try.ntmps7
    go_wp2_with (first
      | (go_at_call 8; refine (unhide hl _).mono ?_; rintro e w1 ⟨rfl, rfl⟩)
      | (go_at_call 18; refine (unhide hc _ _ rfl).mono ?_; rintro e w1 ⟨rfl, rfl⟩; rw [hp, badE_t]))
    go_loopw [0, 16] (fun q i wr => ∃ (K : Int), 0 ≤ K ∧ K ≤ 400 ∧ i = .int .i64 K ∧ q = .int .i64 (itL b K.toNat p) ∧ Hid (Below w.heap.size w wr)) (fun _ i _ => 400 - (intOf i).toNat)
    case atStart => exact ⟨0, by omega, by omega, rfl, rfl, hide (by (repeat (first | with_reducible exact Below.refl _ _ | with_reducible assumption | with_reducible refine Below.drew ?_ | with_reducible refine bl_alloc ?_ _ | with_reducible refine bl_call ?_ (by assumption) | (focus (with_reducible refine Below.setCell ?_ ?_ _; rotate_left; focus (first | omega | (simp <;> omega)))) | fail)))⟩
    case round =>
      obtain ⟨K, hK0, hK1, rfl, rfl, hb⟩ := hrel
      obtain ⟨k, hk⟩ : ∃ k, k = K.toNat := ⟨_, rfl⟩
      rw [← hk]
      have hLq := fun W => unhide hL (itL b k p) W
      rw [unhide hit k, show lrnR (itL b k p) b = itL b (k + 1) p by rw [lrnR, if_pos (unhide hit k), itL_succ]] at hLq
      have hk1 : Hid (k = 400 → itL b (k + 1) p = itL b k p) := hide fun e => by subst e; rw [itL_succ]; exact unhide hlast
      have hk2 : Hid (k = 400 → itL b k p = if b then 31 else 2017) := hide fun e => by subst e; exact unhide hend
      obtain ⟨x, hx⟩ : ∃ x, x = itL b k p := ⟨_, rfl⟩
      obtain ⟨y, hy⟩ : ∃ y, y = itL b (k + 1) p := ⟨_, rfl⟩
      rw [← hx, ← hy] at hLq hk1
      rw [← hx] at hk2 ⊢
      change ∀ W, Calls Try.prog 9 #[.int .i64 x, .bool b] W fun e w' => e = .returned (.tuple #[.int .i64 y, .int .i64 0]) ∧ W = w' at hLq
      clear hx hlast hend hit hp
      replace hLq := hide hLq; replace hy := hide hy
      by_cases hlt : K < 400
      · clear hk1 hk2
        have i1 : IntKind.i64.wrap (K + 1) = K + 1 := IntWalk.i64_in _ (by omega)
        replace hk := hide hk
        go_wp2_with (go_at_call 9; refine (unhide hLq _).mono ?_; rintro e w1 ⟨rfl, rfl⟩)
        clear i1
        go_roundw
        case rel => exact ⟨K + 1, by omega, by omega, rfl, by rw [unhide hy, show (K + 1).toNat = k + 1 by have := unhide hk; omega], hb⟩
        case measure => simp [intOf]; omega
      · have h4 : k = 400 := by omega
        have h1 := unhide hk1 h4
        have h2 := unhide hk2 h4
        subst h1 h2
        clear hk1 hk2 hy
        cases b
        · go_wp2_with (go_at_call 9; refine (unhide hLq _).mono ?_; rintro e w1 ⟨rfl, rfl⟩)
          go_ret
          exact ⟨rfl, unhide hb⟩
        · go_wp2_with (go_at_call 9; refine (unhide hLq _).mono ?_; rintro e w1 ⟨rfl, rfl⟩)
          go_ret
          exact ⟨rfl, unhide hb⟩
end Go.Proofs.Ytbonnlaplggjgaa
