import Derived.Test.YtfihgjdppkiolaaP21
namespace Go.Proofs.Ytfihgjdppkiolaa
set_option maxRecDepth 100000
open Go.RowKit

set_option maxHeartbeats 2000000 in
theorem refLong_any (lo : Nat) (v : Value) (t : List Int) (w : World) (hv : Os lo w.heap.size w v t) (ht : okB t) :
    Calls Try.prog 15 #[v] w fun e w' => e = .returned (.tuple #[.int .i64 (longR t).1, .int .i64 (longR t).2]) ∧ Below w.heap.size w w' := by
  obtain ⟨A, c, rfl, x1, x2, x3⟩ := hv.open
  by_cases h9 : t.length < 9
  · have hr : longR t = (0, 2) := by unfold longR; rw [if_pos (.inl h9)]
    rw [hr]
    clear hv x3
    have h9' : (t.length : Int) < 9 := by omega
    go_enter Try.func15, Try.ntmps15
    go_wp2_with fail
    go_ret2
    exact ⟨rfl, Below.refl _ _⟩
  · obtain ⟨b, off, rfl, y1, y2, q0⟩ := x3 0 (by omega)
    have qq : ∀ i (hi : i < t.length), w.cell? ⟨b, off + i, none⟩ = some (.int .u8 t[i]) := fun i hi => by
      obtain ⟨b', off', e, _, _, hc⟩ := x3 i hi
      injection e with e; injection e with e1 e2; subst e1 e2
      exact hc
    have q1 := qq 1 (by omega); have q2 := qq 2 (by omega); have q3 := qq 3 (by omega)
    rw [Nat.add_zero] at q0
    have hL : 9 ≤ (t.length : Int) := by omega
    have hr : longR t = if 65536 < longN t then (0, 2) else (longN t, 0) := by unfold longR; simp [h9]
    rw [hr, longN_get (by omega)]
    have y3 : b < w.heap.size := by omega
    obtain ⟨a0, b0⟩ := ht t[0] (List.getElem_mem _); obtain ⟨a1, b1⟩ := ht t[1] (List.getElem_mem _); obtain ⟨a2, b2⟩ := ht t[2] (List.getElem_mem _); obtain ⟨a3, b3⟩ := ht t[3] (List.getElem_mem _)
    generalize t[0] = o0 at *; generalize t[1] = o1 at *; generalize t[2] = o2 at *; generalize t[3] = o3 at *
    clear x3 qq hv ht hr
    by_cases hb : 65536 < o0 + 256 * o1 + 65536 * o2 + 16777216 * o3
    · rw [if_pos hb]
      go_enter Try.func15, Try.ntmps15
      go_wp2_with fail
      go_quiet (fail)
      go_wp2_with fail
      go_ret2
      exact ⟨rfl, M.below_drewN (Below.refl _ _) _⟩
    · rw [if_neg hb]
      go_enter Try.func15, Try.ntmps15
      go_wp2_with fail
      go_quiet (fail)
      go_wp2_with fail
      go_ret2
      exact ⟨rfl, M.below_drewN (Below.refl _ _) _⟩
end Go.Proofs.Ytfihgjdppkiolaa
