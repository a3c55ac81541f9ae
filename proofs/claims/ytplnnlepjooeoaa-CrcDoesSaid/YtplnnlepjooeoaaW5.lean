import Derived.Test.YtplnnlepjooeoaaW4
import Derived.Lib.SlBytesConst
namespace Go.Proofs.Ytplnnlepjooeoaa
open Go.RowKit

theorem Bs.own {w : World} {base n : Nat} {e : TypeId} {v : Value} {l : List UInt8} (h : w.ownsRow base e 1 v n (l.map u8v)) : Bs base w.heap.size w v l := by
  have hn : n = l.length := by have := ownsRow_len h; simpa using this.symm
  subst hn
  exact Bs.of_own h

def liveL : List UInt8 := [49, 50, 51, 52, 53, 54, 55, 56, 57]
set_option maxHeartbeats 1000000 in
theorem live_any (w : World) : Calls Try.prog 7 #[] w fun e w' => e = .returned (.bool true) ∧ Below w.heap.size w w' := by
  have kc := fun (w : World) (C : Array Value) (n c : Nat) => Lib.run_convert_bytes_const (P := Try.prog) w 23 5 C n c Try.underlying23 Try.underlying5
  have hB : Bs 0 (w.heap.size + 1) (w.alloc (.cells (liveL.map u8v).toArray 5 (9, 10))) (.slice (some ⟨w.heap.size, 0, none⟩) 9 9) liveL := by
    refine ⟨_, 9, rfl, by simp [liveL], by omega, fun _ => ⟨w.heap.size, 0, rfl, Nat.zero_le _, by omega, fun i hi => ?_⟩⟩
    rw [cell_of_row _ w.heap.size (0 + i) _ 5 (9, 10) (heap_alloc_new w _)]
    simp [hi]
  have hs := sum_any _ _ _ _ _ hB
  have he : u32v (sumR liveL) = .int .u32 3421780262 := by rw [liveL, live_sum]; rfl
  rw [he] at hs
  replace hs := hide hs
  clear hB he
  go_enter Try.func7, Try.ntmps7
  go_wp2_with (go_at_call 13; refine (unhide hs).mono ?_; rintro e w' ⟨rfl, rfl⟩)
  go_ret
  exact ⟨rfl, by (repeat (first | with_reducible exact Below.refl _ _ | with_reducible assumption | with_reducible refine Below.drew ?_ | with_reducible refine bl_alloc ?_ _ | with_reducible refine bl_call ?_ (by assumption) | (focus (with_reducible refine Below.setCell ?_ ?_ _; rotate_left; focus (first | omega | (simp <;> omega)))) | fail))⟩

set_option maxHeartbeats 1000000 in
theorem tail_any (lo : Nat) (v : Value) (l : List UInt8) (w : World) (h : Bs lo w.heap.size w v l) :
    Calls Try.prog 6 #[v] w fun e w' => e = .returned (.bool true) ∧ Below w.heap.size w w' := by
  obtain ⟨A, c, rfl, h1, h2, _⟩ := id h
  by_cases hl : l.length ≤ 500
  · have hseal := fun W (hb : Below w.heap.size w W) => seal_any 0 (.slice A l.length c) l W ((h.below hb (Nat.le_refl _)).mono (Nat.zero_le _) hb.size) (by omega)
    replace hseal := hide hseal
    clear h
    go_enter Try.func6, Try.ntmps6
    go_wp2_with (first
      | (go_at_call 7; refine (live_any _).mono ?_; rintro e w1 ⟨rfl, hb1⟩)
      | (go_at_call 10; refine (unhide hseal _ (by assumption)).mono ?_; rintro e w2 ⟨A2, c2, rfl, hown, hb2⟩; replace hown := hide hown)
      | fail)
    have hs := sum_any _ _ _ _ w2 (Bs.own (unhide hown))
    rw [sumR_sealed, show u32v 558161692#32 = .int .u32 558161692 from rfl] at hs
    refine hs.mono ?_
    rintro e w3 ⟨rfl, rfl⟩
    clear hs hown
    go_wp2
    go_ret
    exact ⟨rfl, by (repeat (first | with_reducible exact Below.refl _ _ | with_reducible assumption | with_reducible refine Below.drew ?_ | with_reducible refine bl_alloc ?_ _ | with_reducible refine bl_call ?_ (by assumption) | (focus (with_reducible refine Below.setCell ?_ ?_ _; rotate_left; focus (first | omega | (simp <;> omega)))) | fail))⟩
  · go_enter Try.func6, Try.ntmps6
    go_wp2_with (go_at_call 7; refine (live_any _).mono ?_; rintro e w1 ⟨rfl, hb1⟩)
    go_ret
    exact ⟨rfl, hb1⟩
end Go.Proofs.Ytplnnlepjooeoaa
