import Derived.Test.YtiobhglhfjbcbaaW34
namespace Go.Proofs.Ytiobhglhfjbcbaa
open Go.RowKit

set_option maxRecDepth 100000 in
set_option maxHeartbeats 8000000 in
theorem rFind_any (lo : Nat) (v : Value) (l : List UInt8) (at_ : Int) (t : Tok) (er : Int) (w : World) (h : Bs lo w.heap.size w v l) (hr : findR l at_ = (t, er)) :
    Calls Try.prog 12 #[v, .int .i64 at_] w fun e w' => e = .returned (.tuple #[.agg #[.int .u8 (n8 t.lit), .int .i64 t.len, .int .i64 t.dist], .int .i64 er]) ∧ Below w.heap.size w w' := by
  by_cases hL : 65536 < l.length
  · obtain ⟨A, c, rfl, h1, h2, _⟩ := h.open
    clear h
    rw [findR, if_pos hL] at hr
    replace hr := hide hr
    go_enter Try.func12, Try.ntmps12
    go_wp2
    have hr' := unhide hr
    injection hr' with r1 r2
    subst r1 r2
    refine ret_tk rfl w.heap.size (.int .u8 0) (.int .i64 0) (.int .i64 0) (.int .i64 3) rfl rfl ?_ rfl ⟨rfl, by (repeat (first | with_reducible exact Below.refl _ _ | with_reducible assumption | with_reducible refine Below.drew ?_ | with_reducible refine bl_alloc ?_ _ | with_reducible refine bl_call ?_ (by assumption) | (focus (with_reducible refine Below.setCell ?_ ?_ _; rotate_left; focus (first | omega | (simp <;> omega)))) | fail))⟩
    (repeat (first | with_reducible assumption | (focus (with_reducible refine Blk.new ?_; focus (simp <;> fail))) | with_reducible refine Blk.set3 (a := .int .u8 0) (b := .int .i64 0) (c := .int .i64 0) ?_ | with_reducible refine Blk.alloc ?_ _ | with_reducible refine Blk.drew ?_ | (focus (with_reducible refine Blk.far ?_ ?_ _; rotate_left; focus (first | omega | (simp <;> omega)))) | (focus (with_reducible refine Blk.below ?_ hb1 ?_; rotate_left; focus (first | omega | (simp <;> omega)))) | (focus (with_reducible refine Blk.below ?_ hb2 ?_; rotate_left; focus (first | omega | (simp <;> omega)))) | (focus (with_reducible refine Blk.below ?_ hb3 ?_; rotate_left; focus (first | omega | (simp <;> omega)))) | (focus (with_reducible refine Blk.below ?_ hb4 ?_; rotate_left; focus (first | omega | (simp <;> omega)))) | (focus (with_reducible refine Blk.below ?_ hb5 ?_; rotate_left; focus (first | omega | (simp <;> omega)))) | (focus (with_reducible refine Blk.below ?_ hb6 ?_; rotate_left; focus (first | omega | (simp <;> omega)))) | (focus (with_reducible refine Blk.below ?_ hb7 ?_; rotate_left; focus (first | omega | (simp <;> omega)))) | (focus (with_reducible refine Blk.below ?_ hb8 ?_; rotate_left; focus (first | omega | (simp <;> omega)))) | (focus (with_reducible refine Blk.below ?_ hb9 ?_; rotate_left; focus (first | omega | (simp <;> omega)))) | (focus (with_reducible refine Blk.below ?_ hb10 ?_; rotate_left; focus (first | omega | (simp <;> omega)))) | (focus (with_reducible refine Blk.below ?_ hb11 ?_; rotate_left; focus (first | omega | (simp <;> omega)))) | (focus (with_reducible refine Blk.below ?_ hb12 ?_; rotate_left; focus (first | omega | (simp <;> omega)))) | fail))
  · by_cases ha : at_ < 0 ∨ (l.length : Int) ≤ at_
    · obtain ⟨A, c, rfl, h1, h2, _⟩ := h.open
      clear h
      rw [findR, if_neg hL, if_pos ha] at hr
      replace hr := hide hr; replace ha := hide ha
      go_enter Try.func12, Try.ntmps12
      go_wp2
      all_goals (have ha' := unhide ha; first | (exfalso; omega) | skip)
      all_goals (have hr' := unhide hr; injection hr' with r1 r2; subst r1 r2; refine ret_tk rfl w.heap.size (.int .u8 0) (.int .i64 0) (.int .i64 0) (.int .i64 1) rfl rfl ?_ rfl ⟨rfl, by (repeat (first | with_reducible exact Below.refl _ _ | with_reducible assumption | with_reducible refine Below.drew ?_ | with_reducible refine bl_alloc ?_ _ | with_reducible refine bl_call ?_ (by assumption) | (focus (with_reducible refine Below.setCell ?_ ?_ _; rotate_left; focus (first | omega | (simp <;> omega)))) | fail))⟩; (repeat (first | with_reducible assumption | (focus (with_reducible refine Blk.new ?_; focus (simp <;> fail))) | with_reducible refine Blk.set3 (a := .int .u8 0) (b := .int .i64 0) (c := .int .i64 0) ?_ | with_reducible refine Blk.alloc ?_ _ | with_reducible refine Blk.drew ?_ | (focus (with_reducible refine Blk.far ?_ ?_ _; rotate_left; focus (first | omega | (simp <;> omega)))) | (focus (with_reducible refine Blk.below ?_ hb1 ?_; rotate_left; focus (first | omega | (simp <;> omega)))) | (focus (with_reducible refine Blk.below ?_ hb2 ?_; rotate_left; focus (first | omega | (simp <;> omega)))) | (focus (with_reducible refine Blk.below ?_ hb3 ?_; rotate_left; focus (first | omega | (simp <;> omega)))) | (focus (with_reducible refine Blk.below ?_ hb4 ?_; rotate_left; focus (first | omega | (simp <;> omega)))) | (focus (with_reducible refine Blk.below ?_ hb5 ?_; rotate_left; focus (first | omega | (simp <;> omega)))) | (focus (with_reducible refine Blk.below ?_ hb6 ?_; rotate_left; focus (first | omega | (simp <;> omega)))) | (focus (with_reducible refine Blk.below ?_ hb7 ?_; rotate_left; focus (first | omega | (simp <;> omega)))) | (focus (with_reducible refine Blk.below ?_ hb8 ?_; rotate_left; focus (first | omega | (simp <;> omega)))) | (focus (with_reducible refine Blk.below ?_ hb9 ?_; rotate_left; focus (first | omega | (simp <;> omega)))) | (focus (with_reducible refine Blk.below ?_ hb10 ?_; rotate_left; focus (first | omega | (simp <;> omega)))) | (focus (with_reducible refine Blk.below ?_ hb11 ?_; rotate_left; focus (first | omega | (simp <;> omega)))) | (focus (with_reducible refine Blk.below ?_ hb12 ?_; rotate_left; focus (first | omega | (simp <;> omega)))) | fail)))
    · obtain ⟨a, rfl⟩ : ∃ a : Nat, at_ = a := ⟨at_.toNat, by omega⟩
      have ha' : a < l.length := by omega
      rw [findR_at ha' (by omega)] at hr
      have hm := rFind_main lo v l a _ _ w h (by omega) ha' (best_is l a (by omega))
      by_cases hz : (bestF l a (min a 256)).2 = 0
      · rw [if_pos hz] at hr
        injection hr with r1 r2
        subst r1 r2
        rw [if_pos (by omega), if_pos (by omega), hz] at hm
        exact hm
      · rw [if_neg hz] at hr
        injection hr with r1 r2
        subst r1 r2
        rw [if_neg (by omega), if_neg (by omega)] at hm
        rw [show nextT l a = ⟨0, (bestF l a (min a 256)).1, (bestF l a (min a 256)).2⟩ by unfold nextT; rw [if_neg hz]]
        exact hm

theorem Tokens_long (v : Value) (l : List UInt8) (lo : Nat) (w : World) (h : Bs lo w.heap.size w v l) (hl : 65536 < l.length) :
    Calls Try.prog 13 #[v] w fun e w' => e = .returned (.tuple #[.slice none 0 0, .int .i64 3]) ∧ w = w' := by
  obtain ⟨A, c, rfl, h1, h2, _⟩ := h.open
  clear h
  go_enter Try.func13, Try.ntmps13
  go_wp2
  refine wp_scope_straight ?_
  go_wp2
  rw [Exit.noGoto_ret]
  go_ret2
  exact ⟨rfl, rfl⟩
theorem rTokens_long (v : Value) (l : List UInt8) (lo : Nat) (w : World) (h : Bs lo w.heap.size w v l) (hl : 65536 < l.length) :
    Calls Try.prog 14 #[v] w fun e w' => e = .returned (.tuple #[.slice none 0 0, .int .i64 3]) ∧ w = w' := by
  obtain ⟨A, c, rfl, h1, h2, _⟩ := h.open
  clear h
  go_enter Try.func14, Try.ntmps14
  go_wp2
  go_ret2
  exact ⟨rfl, rfl⟩
end Go.Proofs.Ytiobhglhfjbcbaa
