import Derived.Test.YtbonnlaplggjgaaW3
namespace Go.Proofs.Ytbonnlaplggjgaa
open Go.RowKit

set_option maxHeartbeats 2000000 in
theorem stays_any (lo : Nat) (p : Int) (v : Value) (l : List Bool) (w : World) (h : Bos lo w.heap.size w v l) : Calls Try.prog 4 #[.int .i64 p, v] w fun e w' => e = .returned (.bool true) ∧ Below w.heap.size w w' := by
  have hl := fun W => live_any W
  have hc := fun p w W hW => Check_one p w W hW
  have hL := fun q b W => Learn_any q b W
  obtain ⟨A, c, rfl, h1, h2, h3⟩ := h.open
  clear h
  replace hl := hide hl; replace hc := hide hc; replace hL := hide hL; replace h3 := hide h3
  by_cases hn : l.length ≤ 300
  · cases hp : isC p
    · go_enter Try.func4, Try.ntmps4
      go_wp2_with (first
        | (go_at_call 8; refine (unhide hl _).mono ?_; rintro e w1 ⟨rfl, rfl⟩)
        | (go_at_call 18; refine (unhide hc _ _ _ rfl).mono ?_; rintro e w1 ⟨rfl, rfl⟩; rw [hp, badE_f]))
      go_ret
      exact ⟨rfl, by (repeat (first | with_reducible exact Below.refl _ _ | with_reducible assumption | with_reducible refine Below.drew ?_ | with_reducible refine bl_alloc ?_ _ | with_reducible refine bl_call ?_ (by assumption) | (focus (with_reducible refine Below.setCell ?_ ?_ _; rotate_left; focus (first | omega | (simp <;> omega)))) | fail))⟩
    · go_enter Try.func4, Try.ntmps4
      go_wp2_with (first
        | (go_at_call 8; refine (unhide hl _).mono ?_; rintro e w1 ⟨rfl, rfl⟩)
        | (go_at_call 18; refine (unhide hc _ _ _ rfl).mono ?_; rintro e w1 ⟨rfl, rfl⟩; rw [hp, badE_t]))
      go_loopw [0, 23] (fun q i wr => ∃ (k : Nat) (x : Int), k ≤ l.length ∧ i = .int .i64 k ∧ q = .int .i64 x ∧ Hid (isC x = true) ∧ Hid (Below w.heap.size w wr)) (fun _ i _ => l.length - (intOf i).toNat)
      case atStart => exact ⟨0, _, Nat.zero_le _, rfl, rfl, hide hp, hide (by (repeat (first | with_reducible exact Below.refl _ _ | with_reducible assumption | with_reducible refine Below.drew ?_ | with_reducible refine bl_alloc ?_ _ | with_reducible refine bl_call ?_ (by assumption) | (focus (with_reducible refine Below.setCell ?_ ?_ _; rotate_left; focus (first | omega | (simp <;> omega)))) | fail)))⟩
      case round =>
        obtain ⟨k, x, hk, rfl, rfl, hx, hb⟩ := hrel
        by_cases hlt : k < l.length
        · obtain ⟨b, off, rfl, g1, g2, q0⟩ := unhide h3 k hlt
          have c0 := ((unhide hb).cell (p := ⟨b, off + k, none⟩) g2).trans q0
          generalize l[k] = t at *
          have hLq := fun W => unhide hL x t W
          rw [unhide hx, show lrnR x t = lrn x t by rw [lrnR, if_pos (unhide hx)], badE_t] at hLq
          have hy := lrn_ok t (unhide hx)
          have hup := lrn_up (unhide hx)
          have hdn := lrn_down (unhide hx)
          have hb0 := unhide hb
          clear q0 g1 hp
          replace hLq := hide hLq; replace hb0 := hide hb0
          cases t
          · generalize lrn x false = y at *
            clear hdn
            replace hy := hide hy
            go_wp2_with (first
              | (go_at_call 9; refine (unhide hLq _).mono ?_; rintro e w1 ⟨rfl, rfl⟩)
              | (go_at_call 18; refine (unhide hc _ _ _ rfl).mono ?_; rintro e w1 ⟨rfl, rfl⟩; rw [unhide hy, badE_t]))
            have hb1 := unhide hb0
            all_goals first | (exfalso; omega) | skip
            go_roundw
            case rel => exact ⟨k + 1, y, by omega, by go_num, rfl, hy, hide (by (repeat (first | with_reducible exact Below.refl _ _ | with_reducible assumption | with_reducible refine Below.drew ?_ | with_reducible refine bl_alloc ?_ _ | with_reducible refine bl_call ?_ (by assumption) | (focus (with_reducible refine Below.setCell ?_ ?_ _; rotate_left; focus (first | omega | (simp <;> omega)))) | fail)))⟩
            case measure => simp [intOf]; omega
          · generalize lrn x true = y at *
            clear hup
            replace hy := hide hy
            go_wp2_with (first
              | (go_at_call 9; refine (unhide hLq _).mono ?_; rintro e w1 ⟨rfl, rfl⟩)
              | (go_at_call 18; refine (unhide hc _ _ _ rfl).mono ?_; rintro e w1 ⟨rfl, rfl⟩; rw [unhide hy, badE_t]))
            have hb1 := unhide hb0
            all_goals first | (exfalso; omega) | skip
            go_roundw
            case rel => exact ⟨k + 1, y, by omega, by go_num, rfl, hy, hide (by (repeat (first | with_reducible exact Below.refl _ _ | with_reducible assumption | with_reducible refine Below.drew ?_ | with_reducible refine bl_alloc ?_ _ | with_reducible refine bl_call ?_ (by assumption) | (focus (with_reducible refine Below.setCell ?_ ?_ _; rotate_left; focus (first | omega | (simp <;> omega)))) | fail)))⟩
            case measure => simp [intOf]; omega
        · have hb0 := unhide hb
          go_wp2_with fail
          go_ret
          exact ⟨rfl, by (repeat (first | with_reducible exact Below.refl _ _ | with_reducible assumption | with_reducible refine Below.drew ?_ | with_reducible refine bl_alloc ?_ _ | with_reducible refine bl_call ?_ (by assumption) | (focus (with_reducible refine Below.setCell ?_ ?_ _; rotate_left; focus (first | omega | (simp <;> omega)))) | fail))⟩
  · clear h3
    go_enter Try.func4, Try.ntmps4
    go_wp2_with (go_at_call 8; refine (unhide hl _).mono ?_; rintro e w1 ⟨rfl, rfl⟩)
    go_ret
    exact ⟨rfl, by (repeat (first | with_reducible exact Below.refl _ _ | with_reducible assumption | with_reducible refine Below.drew ?_ | with_reducible refine bl_alloc ?_ _ | with_reducible refine bl_call ?_ (by assumption) | (focus (with_reducible refine Below.setCell ?_ ?_ _; rotate_left; focus (first | omega | (simp <;> omega)))) | fail))⟩
end Go.Proofs.Ytbonnlaplggjgaa
