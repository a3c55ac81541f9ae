import Derived.Test.YtiobhglhfjbcbaaW6
namespace Go.Proofs.Ytiobhglhfjbcbaa
open Go.RowKit

def liveL : List UInt8 := [97, 97, 97, 97, 97]
def liveT : List Tok := [⟨97, 0, 0⟩, ⟨0, 4, 1⟩]
theorem live_toks : toksB liveL = liveT := by decide +kernel
theorem liveL_bs (w : World) : Bs 0 (w.heap.size + 1) (w.alloc (.cells #[.int .u8 97, .int .u8 97, .int .u8 97, .int .u8 97, .int .u8 97] 5 (5, 6))) (.slice (some ⟨w.heap.size, 0, none⟩) 5 5) liveL := by
  refine ⟨_, 5, rfl, by simp [liveL], by omega, fun _ => ⟨w.heap.size, 0, rfl, Nat.zero_le _, by omega, fun i hi => ?_⟩⟩
  rw [cell_of_row _ w.heap.size (0 + i) _ 5 (5, 6) (heap_alloc_new w _)]
  match i, hi with
  | 0, _ => rfl
  | 1, _ => rfl
  | 2, _ => rfl
  | 3, _ => rfl
  | 4, _ => rfl
theorem liveT_tks {w : World} {g : Nat} (h : Blk w g 25 #[.int .u8 97, .int .i64 0, .int .i64 0, .int .u8 0, .int .i64 4, .int .i64 1]) : Tks 0 w.heap.size w (.slice (some ⟨g, 0, none⟩) 2 2) liveT := by
  refine Tks.make (l := liveT) (by simp [liveT]) (by omega) (Nat.zero_le _) h.lt fun k hk => ?_
  rw [h.cell, h.cell, h.cell]
  match k, hk with
  | 0, _ => exact ⟨rfl, rfl, rfl⟩
  | 1, _ => exact ⟨rfl, rfl, rfl⟩

set_option maxHeartbeats 2000000 in
theorem live_any (w : World) : Calls Try.prog 10 #[] w fun e w' => e = .returned (.bool true) ∧ Below w.heap.size w w' := by
  have kc := fun (w : World) (C : Array Value) (n c : Nat) => Lib.run_convert_bytes_const (P := Try.prog) w 22 5 C n c Try.underlying22 Try.underlying5
  have ht : Calls Try.prog 13 #[.slice (some ⟨w.heap.size, 0, none⟩) 5 5] (w.alloc (.cells #[.int .u8 97, .int .u8 97, .int .u8 97, .int .u8 97, .int .u8 97] 5 (5, 6))) fun e w' => ∃ A c, e = .returned (.tuple #[.slice A 2 c, .int .i64 0]) ∧ Tks 0 w'.heap.size w' (.slice A 2 c) liveT ∧ Below w.heap.size w w' :=
    (Tokens_any 0 _ liveL _ ((liveL_bs w).mono (Nat.le_refl _) (by simp)) (by simp [liveL])).mono fun e w' ⟨A, c, he, ho, hb⟩ => by
      rw [live_toks] at he ho
      exact ⟨A, c, he, (Tks.own ho).mono (Nat.zero_le _) (Nat.le_refl _), bl_call (bl_alloc (Below.refl _ _) _) hb⟩
  replace ht := hide ht
  go_enter Try.func10, Try.ntmps10
  go_wp2_with (first
    | (go_at_call 13; refine (unhide ht).mono ?_; rintro e w1 ⟨A, c, rfl, htk, hb1⟩; replace htk := hide htk)
    | (go_at_call 15; refine (same_any 0 0 _ _ liveT liveT _ ((unhide htk).grow (by (repeat (first | with_reducible exact Below.refl _ _ | with_reducible assumption | with_reducible refine Below.drew ?_ | with_reducible refine bl_alloc ?_ _ | with_reducible refine bl_call ?_ (by assumption) | (focus (with_reducible refine Below.setCell ?_ ?_ _; rotate_left; focus (first | omega | (simp <;> omega)))) | fail)))) (liveT_tks (by (repeat (first | with_reducible assumption | (focus (with_reducible refine Blk.new ?_; focus (simp <;> fail))) | with_reducible refine Blk.set3 (a := .int .u8 0) (b := .int .i64 0) (c := .int .i64 0) ?_ | with_reducible refine Blk.alloc ?_ _ | with_reducible refine Blk.drew ?_ | (focus (with_reducible refine Blk.far ?_ ?_ _; rotate_left; focus (first | omega | (simp <;> omega)))) | (focus (with_reducible refine Blk.below ?_ hb1 ?_; rotate_left; focus (first | omega | (simp <;> omega)))) | (focus (with_reducible refine Blk.below ?_ hb2 ?_; rotate_left; focus (first | omega | (simp <;> omega)))) | (focus (with_reducible refine Blk.below ?_ hb3 ?_; rotate_left; focus (first | omega | (simp <;> omega)))) | (focus (with_reducible refine Blk.below ?_ hb4 ?_; rotate_left; focus (first | omega | (simp <;> omega)))) | (focus (with_reducible refine Blk.below ?_ hb5 ?_; rotate_left; focus (first | omega | (simp <;> omega)))) | (focus (with_reducible refine Blk.below ?_ hb6 ?_; rotate_left; focus (first | omega | (simp <;> omega)))) | (focus (with_reducible refine Blk.below ?_ hb7 ?_; rotate_left; focus (first | omega | (simp <;> omega)))) | (focus (with_reducible refine Blk.below ?_ hb8 ?_; rotate_left; focus (first | omega | (simp <;> omega)))) | (focus (with_reducible refine Blk.below ?_ hb9 ?_; rotate_left; focus (first | omega | (simp <;> omega)))) | (focus (with_reducible refine Blk.below ?_ hb10 ?_; rotate_left; focus (first | omega | (simp <;> omega)))) | (focus (with_reducible refine Blk.below ?_ hb11 ?_; rotate_left; focus (first | omega | (simp <;> omega)))) | (focus (with_reducible refine Blk.below ?_ hb12 ?_; rotate_left; focus (first | omega | (simp <;> omega)))) | fail))))).mono ?_; rintro e w2 ⟨rfl, hb2⟩; rw [decide_eq_true rfl])
    | fail)
  go_ret
  exact ⟨rfl, by (repeat (first | with_reducible exact Below.refl _ _ | with_reducible assumption | with_reducible refine Below.drew ?_ | with_reducible refine bl_alloc ?_ _ | with_reducible refine bl_call ?_ (by assumption) | (focus (with_reducible refine Below.setCell ?_ ?_ _; rotate_left; focus (first | omega | (simp <;> omega)))) | fail))⟩
end Go.Proofs.Ytiobhglhfjbcbaa
