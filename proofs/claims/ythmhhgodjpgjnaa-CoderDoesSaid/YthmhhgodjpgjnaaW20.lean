import Derived.Test.YthmhhgodjpgjnaaW8
import Derived.Test.YthmhhgodjpgjnaaBase2
import Derived.Test.YthmhhgodjpgjnaaE1
namespace Go.Proofs.Ythmhhgodjpgjnaa
open Go.RowKit

set_option maxHeartbeats 400000 in
/-- 'has': is there such a chance? -/
theorem has_any (g n : Nat) (A : Option Addr) (c : Nat) (i : Int) (w : World) (h1 : w.cell? ⟨g, 1, none⟩ = some (.slice A n c)) :
    Calls Try.prog 25 #[.pointer (some ⟨g, 0, none⟩), .int .i64 i] w fun e w' => e = .returned (.bool (decide (0 ≤ i) && decide (i < n))) ∧ w = w' := by
  by_cases h0 : 0 ≤ i
  · go_enter Try.func25, Try.ntmps25
    go_wp2
    go_ret
    exact ⟨ret_b rfl (by rw [Bool.eq_iff_iff]; simp <;> omega), rfl⟩
  · go_enter Try.func25, Try.ntmps25
    go_wp2
    go_ret
    exact ⟨ret_b rfl (by rw [Bool.eq_iff_iff]; simp; omega), rfl⟩

set_option maxHeartbeats 400000 in
/-- 'left'. -/
theorem left_any (g : Nat) (s p : Int) (b : Bool) (w : World) (h0 : w.cell? ⟨g, 0, none⟩ = some (.int .u32 s)) (hp : 0 ≤ p) (hs : p ≤ s ∧ s < 4294967296) :
    Calls Try.prog 35 #[.pointer (some ⟨g, 0, none⟩), .int .u32 p, .bool b] w fun e w' => e = .returned (.int .u32 (if b then s - p else p)) ∧ w = w' := by
  have i1 : IntKind.u32.wrap (s - p) = s - p := IntWalk.u32_in _ (by omega)
  cases b
  · go_enter Try.func35, Try.ntmps35
    go_wp2
    go_ret
    exact ⟨rfl, rfl⟩
  · go_enter Try.func35, Try.ntmps35
    go_wp2
    go_ret
    exact ⟨rfl, rfl⟩

set_option maxHeartbeats 400000 in
/-- 'part'. -/
theorem part_any (g gc n cap k : Nat) (s p : Int) (w : World) (h0 : w.cell? ⟨g, 0, none⟩ = some (.int .u32 s)) (h1 : w.cell? ⟨g, 1, none⟩ = some (.slice (some ⟨gc, 0, none⟩) n cap)) (hk : k < n) (hx : w.cell? ⟨gc, k, none⟩ = some (.int .i64 p))
    (hs : 16777216 ≤ s ∧ s < 4294967296) (hp : isC p = true) :
    Calls Try.prog 34 #[.pointer (some ⟨g, 0, none⟩), .int .i64 k] w fun e w' => e = .returned (.int .u32 (s / 2048 * p)) ∧ ∃ m, w' = w.drewN m := by
  have hS := fun W => Split_any s p W (by omega)
  have e1 : splR s p = s / 2048 * p := by simp [splR, hp, hs.1]
  have e2 : splE s p = 0 := by simp [splE, hp, hs.1]
  rw [e1, e2] at hS
  replace hS := hide hS
  have hk0 : (0 : Int) ≤ (k : Int) := by omega
  have hk1 : (k : Int) < (n : Int) := by omega
  go_enter Try.func34, Try.ntmps34
  go_wp2_with fail
  go_quiet ((go_at_call 41; refine Calls.quiet_of_same ((unhide hS _).mono fun e w' h => ⟨h.1, h.2.symm⟩)))
  go_wp2_with fail
  go_ret
  exact ⟨rfl, _, rfl⟩

theorem lrnR_ok {p : Int} (b : Bool) (h : isC p = true) : lrnR p b = lrn p b := by rw [lrnR, if_pos h]
end Go.Proofs.Ythmhhgodjpgjnaa
