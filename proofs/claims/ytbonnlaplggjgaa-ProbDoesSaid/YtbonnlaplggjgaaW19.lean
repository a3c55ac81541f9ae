import Derived.Test.YtbonnlaplggjgaaW18
import Derived.Test.YtbonnlaplggjgaaW8
namespace Go.Proofs.Ytbonnlaplggjgaa
open Go.RowKit

/-- What New answers. -/
def newL (n : Int) : List Int := if newN n then List.replicate n.toNat 1024 else []
theorem newN_iff {n : Int} : newN n = true ↔ 0 ≤ n ∧ n ≤ 1024 := by simp [newN]
theorem newL_good {n : Int} (h : newN n = true) : newL n = List.replicate n.toNat 1024 := by simp [newL, h]
theorem newL_bad {n : Int} (h : newN n = false) : newL n = [] := by simp [newL, h]

theorem New_any (n : Int) (w : World) :
    Calls Try.prog 11 #[.int .i64 n] w fun e w' => ∃ A c, e = .returned (.tuple #[.slice A (newL n).length c, .int .i64 (badE (newN n))]) ∧ Is 0 w'.heap.size w' (.slice A (newL n).length c) (newL n) ∧ Below w.heap.size w w' := by
  cases h : newN n with
  | false =>
    rw [newL_bad h, badE_f]
    exact (New_bad n h w).mono fun e w' ⟨he, hb⟩ => ⟨none, 0, he, Rd.nil _ _ _ _ _, hb⟩
  | true =>
    obtain ⟨h0, h1⟩ := newN_iff.1 h
    rw [newL_good h, badE_t]
    obtain ⟨m, rfl⟩ := Int.eq_ofNat_of_zero_le h0
    have := New_good m (by omega) w
    simpa using this
theorem refNew_any (n : Int) (w : World) :
    Calls Try.prog 12 #[.int .i64 n] w fun e w' => ∃ A c, e = .returned (.tuple #[.slice A (newL n).length c, .int .i64 (badE (newN n))]) ∧ Is 0 w'.heap.size w' (.slice A (newL n).length c) (newL n) ∧ Below w.heap.size w w' := by
  cases h : newN n with
  | false =>
    rw [newL_bad h, badE_f]
    exact (refNew_bad n h w).mono fun e w' ⟨he, hb⟩ => ⟨none, 0, he, Rd.nil _ _ _ _ _, hb⟩
  | true =>
    obtain ⟨h0, h1⟩ := newN_iff.1 h
    rw [newL_good h, badE_t]
    obtain ⟨m, rfl⟩ := Int.eq_ofNat_of_zero_le h0
    have := refNew_good m (by omega) w
    simpa using this
theorem refAll_any (lo lo' : Nat) (v v' : Value) (l : List Int) (bs : List Bit) (r : List Int) (er : Int) (w : World) (h : Is lo w.heap.size w v l) (h' : Bts lo' w.heap.size w v' bs) (hr : allR l bs = (r, er)) :
    Calls Try.prog 14 #[v, v'] w fun e w' => ∃ A c, e = .returned (.tuple #[.slice A r.length c, .int .i64 er]) ∧ Is 0 w'.heap.size w' (.slice A r.length c) r ∧ Below w.heap.size w w' := by
  cases hok : okC l with
  | true => exact refAll_good lo lo' v v' l bs r er w h h' hok hr
  | false =>
    rw [allR, if_pos hok] at hr
    injection hr with r1 r2
    subst r1 r2
    exact (refAll_bad lo v v' l w h hok).mono fun e w' ⟨he, hb⟩ => ⟨none, 0, he, Rd.nil _ _ _ _ _, hb⟩
theorem allR_len {l : List Int} {bs : List Bit} {r : List Int} {er : Int} (h : allR l bs = (r, er)) : r.length ≤ l.length := by
  unfold allR at h
  split at h
  · injection h with h _; subst h; simp
  · split at h
    · injection h with h _; subst h; simp
    · injection h with h _; subst h; rw [allF_len]; exact Nat.le_refl _

theorem same_self (lo hi lo' hi' : Nat) (v1 v2 : Value) (a : List Int) (w : World) (h1 : Is lo hi w v1 a) (h2 : Is lo' hi' w v2 a) (hi1 : hi ≤ w.heap.size) (hi2 : hi' ≤ w.heap.size) :
    Calls Try.prog 17 #[v1, v2] w fun e w' => e = .returned (.bool true) ∧ Below w.heap.size w w' := by
  have := same_any lo hi lo' hi' v1 v2 a a w h1 h2 hi1 hi2
  rwa [decide_eq_true rfl] at this

set_option maxRecDepth 100000 in
set_option maxHeartbeats 1000000 in
/-- The gate, whichever test it is that ends the call. -/
theorem does_gate (p : Int) (b : Bool) (n : Int) (A0 A1 : Option Addr) (n0 n1 c0 c1 : Nat) (s : Int) (w : World) (hg : (60 < n0 ∧ n0 ≤ 1024) ∨ 1030 < n0 ∨ 200 < n1 ∨ (60 < n ∧ n ≤ 1024)) :
    Calls Try.prog 3 #[.int .i64 p, .bool b, .int .i64 n, .slice A0 n0 c0, .slice A1 n1 c1, .int .u32 s] w fun e w' => e = .returned (.bool true) ∧ Below w.heap.size w w' := by
  have hl := fun W => live_any W
  replace hl := hide hl
  by_cases a1 : 60 < n0
  · by_cases a2 : n0 ≤ 1024
    · clear hg
      go_enter Try.func3, Try.ntmps3
      go_wp2_with (go_at_call 8; refine (unhide hl _).mono ?_; rintro e w1 ⟨rfl, rfl⟩)
      go_ret
      exact ⟨rfl, by (repeat (first | with_reducible exact Below.refl _ _ | with_reducible assumption | with_reducible refine Below.drew ?_ | with_reducible refine bl_alloc ?_ _ | with_reducible refine bl_call ?_ (by assumption) | (focus (with_reducible refine Below.setCell ?_ ?_ _; rotate_left; focus (first | omega | (simp <;> omega)))) | fail))⟩
    · by_cases a3 : 1030 < n0
      · clear hg
        go_enter Try.func3, Try.ntmps3
        go_wp2_with (go_at_call 8; refine (unhide hl _).mono ?_; rintro e w1 ⟨rfl, rfl⟩)
        go_ret
        exact ⟨rfl, by (repeat (first | with_reducible exact Below.refl _ _ | with_reducible assumption | with_reducible refine Below.drew ?_ | with_reducible refine bl_alloc ?_ _ | with_reducible refine bl_call ?_ (by assumption) | (focus (with_reducible refine Below.setCell ?_ ?_ _; rotate_left; focus (first | omega | (simp <;> omega)))) | fail))⟩
      · by_cases a4 : 200 < n1
        · clear hg
          go_enter Try.func3, Try.ntmps3
          go_wp2_with (go_at_call 8; refine (unhide hl _).mono ?_; rintro e w1 ⟨rfl, rfl⟩)
          go_ret
          exact ⟨rfl, by (repeat (first | with_reducible exact Below.refl _ _ | with_reducible assumption | with_reducible refine Below.drew ?_ | with_reducible refine bl_alloc ?_ _ | with_reducible refine bl_call ?_ (by assumption) | (focus (with_reducible refine Below.setCell ?_ ?_ _; rotate_left; focus (first | omega | (simp <;> omega)))) | fail))⟩
        · have a5 : 60 < n := by omega
          have a6 : n ≤ 1024 := by omega
          clear hg
          go_enter Try.func3, Try.ntmps3
          go_wp2_with (go_at_call 8; refine (unhide hl _).mono ?_; rintro e w1 ⟨rfl, rfl⟩)
          go_ret
          exact ⟨rfl, by (repeat (first | with_reducible exact Below.refl _ _ | with_reducible assumption | with_reducible refine Below.drew ?_ | with_reducible refine bl_alloc ?_ _ | with_reducible refine bl_call ?_ (by assumption) | (focus (with_reducible refine Below.setCell ?_ ?_ _; rotate_left; focus (first | omega | (simp <;> omega)))) | fail))⟩
  · by_cases a4 : 200 < n1
    · clear hg
      go_enter Try.func3, Try.ntmps3
      go_wp2_with (go_at_call 8; refine (unhide hl _).mono ?_; rintro e w1 ⟨rfl, rfl⟩)
      go_ret
      exact ⟨rfl, by (repeat (first | with_reducible exact Below.refl _ _ | with_reducible assumption | with_reducible refine Below.drew ?_ | with_reducible refine bl_alloc ?_ _ | with_reducible refine bl_call ?_ (by assumption) | (focus (with_reducible refine Below.setCell ?_ ?_ _; rotate_left; focus (first | omega | (simp <;> omega)))) | fail))⟩
    · have a5 : 60 < n := by omega
      have a6 : n ≤ 1024 := by omega
      clear hg
      go_enter Try.func3, Try.ntmps3
      go_wp2_with (go_at_call 8; refine (unhide hl _).mono ?_; rintro e w1 ⟨rfl, rfl⟩)
      go_ret
      exact ⟨rfl, by (repeat (first | with_reducible exact Below.refl _ _ | with_reducible assumption | with_reducible refine Below.drew ?_ | with_reducible refine bl_alloc ?_ _ | with_reducible refine bl_call ?_ (by assumption) | (focus (with_reducible refine Below.setCell ?_ ?_ _; rotate_left; focus (first | omega | (simp <;> omega)))) | fail))⟩
end Go.Proofs.Ytbonnlaplggjgaa
