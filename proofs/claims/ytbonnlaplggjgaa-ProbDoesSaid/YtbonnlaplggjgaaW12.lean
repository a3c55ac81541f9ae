import Derived.Test.YtbonnlaplggjgaaW11
namespace Go.Proofs.Ytbonnlaplggjgaa
open Go.RowKit

set_option maxHeartbeats 1000000 in
theorem All_bad (lo : Nat) (v v' : Value) (l : List Int) (w : World) (h : Is lo w.heap.size w v l) (hok : okC l = false) :
    Calls Try.prog 13 #[v, v'] w fun e w' => e = .returned (.tuple #[.slice none 0 0, .int .i64 1]) ∧ Below w.heap.size w w' := by
  have hC := fun W (hb : Below w.heap.size w W) => Check_any lo w.heap.size v l W (h.below hb (Nat.le_refl _))
  rw [hok, badE_f] at hC
  obtain ⟨A, c, rfl, h1, h2, h3⟩ := h.open
  clear h h3
  replace hC := hide hC
  go_enter Try.func13, Try.ntmps13
  go_wp2_with (first
    | (go_at_call 18; refine (unhide hC _ (by (repeat (first | with_reducible exact Below.refl _ _ | with_reducible assumption | with_reducible refine Below.drew ?_ | with_reducible refine bl_alloc ?_ _ | with_reducible refine bl_call ?_ (by assumption) | (focus (with_reducible refine Below.setCell ?_ ?_ _; rotate_left; focus (first | omega | (simp <;> omega)))) | fail)))).mono ?_; rintro e w1 ⟨rfl, rfl⟩))
  go_ret2
  exact ⟨rfl, by (repeat (first | with_reducible exact Below.refl _ _ | with_reducible assumption | with_reducible refine Below.drew ?_ | with_reducible refine bl_alloc ?_ _ | with_reducible refine bl_call ?_ (by assumption) | (focus (with_reducible refine Below.setCell ?_ ?_ _; rotate_left; focus (first | omega | (simp <;> omega)))) | fail))⟩

set_option maxHeartbeats 1000000 in
theorem All_none (lo lo' : Nat) (v v' : Value) (l : List Int) (bs : List Bit) (w : World) (h : Is lo w.heap.size w v l) (h' : Bts lo' w.heap.size w v' bs) (hok : okC l = true) (hin : bs.all (inB l.length) = false) :
    Calls Try.prog 13 #[v, v'] w fun e w' => e = .returned (.tuple #[.slice none 0 0, .int .i64 4]) ∧ Below w.heap.size w w' := by
  have hC := fun W (hb : Below w.heap.size w W) => Check_any lo w.heap.size v l W (h.below hb (Nat.le_refl _))
  rw [hok, badE_t] at hC
  have hf := fun g A n c W (hb : Below w.heap.size w W) hg => contains24_any g A n c lo' v' bs W (h'.grow hb) hg
  obtain ⟨A, c, rfl, h1, h2, h3⟩ := h.open
  obtain ⟨B, d, rfl, y1, y2, y3⟩ := h'.open
  clear h h' h3 y3
  replace hC := hide hC; replace hf := hide hf; replace hin := hide hin
  go_enter Try.func13, Try.ntmps13
  go_wp2_with (first
    | (go_at_call 18; refine (unhide hC _ (by (repeat (first | with_reducible exact Below.refl _ _ | with_reducible assumption | with_reducible refine Below.drew ?_ | with_reducible refine bl_alloc ?_ _ | with_reducible refine bl_call ?_ (by assumption) | (focus (with_reducible refine Below.setCell ?_ ?_ _; rotate_left; focus (first | omega | (simp <;> omega)))) | fail)))).mono ?_; rintro e w1 ⟨rfl, rfl⟩)
    | (go_at_call 24; refine (unhide hf w.heap.size A l.length c _ (by (repeat (first | with_reducible exact Below.refl _ _ | with_reducible assumption | with_reducible refine Below.drew ?_ | with_reducible refine bl_alloc ?_ _ | with_reducible refine bl_call ?_ (by assumption) | (focus (with_reducible refine Below.setCell ?_ ?_ _; rotate_left; focus (first | omega | (simp <;> omega)))) | fail))) (by (repeat (first | with_reducible assumption | (focus (with_reducible refine Blk.new ?_; focus (simp <;> fail))) | with_reducible refine Blk.set3 (a := .int .u8 0) (b := .int .i64 0) (c := .int .i64 0) ?_ | with_reducible refine Blk.alloc ?_ _ | with_reducible refine Blk.drew ?_ | (focus (with_reducible refine Blk.far ?_ ?_ _; rotate_left; focus (first | omega | (simp <;> omega)))) | (focus (with_reducible refine Blk.below ?_ hb1 ?_; rotate_left; focus (first | omega | (simp <;> omega)))) | (focus (with_reducible refine Blk.below ?_ hb2 ?_; rotate_left; focus (first | omega | (simp <;> omega)))) | (focus (with_reducible refine Blk.below ?_ hb3 ?_; rotate_left; focus (first | omega | (simp <;> omega)))) | (focus (with_reducible refine Blk.below ?_ hb4 ?_; rotate_left; focus (first | omega | (simp <;> omega)))) | (focus (with_reducible refine Blk.below ?_ hb5 ?_; rotate_left; focus (first | omega | (simp <;> omega)))) | (focus (with_reducible refine Blk.below ?_ hb6 ?_; rotate_left; focus (first | omega | (simp <;> omega)))) | (focus (with_reducible refine Blk.below ?_ hb7 ?_; rotate_left; focus (first | omega | (simp <;> omega)))) | (focus (with_reducible refine Blk.below ?_ hb8 ?_; rotate_left; focus (first | omega | (simp <;> omega)))) | (focus (with_reducible refine Blk.below ?_ hb9 ?_; rotate_left; focus (first | omega | (simp <;> omega)))) | (focus (with_reducible refine Blk.below ?_ hb10 ?_; rotate_left; focus (first | omega | (simp <;> omega)))) | (focus (with_reducible refine Blk.below ?_ hb11 ?_; rotate_left; focus (first | omega | (simp <;> omega)))) | (focus (with_reducible refine Blk.below ?_ hb12 ?_; rotate_left; focus (first | omega | (simp <;> omega)))) | fail)))).mono ?_; rintro e w2 ⟨rfl, hb2⟩; rw [unhide hin]))
  go_ret2
  exact ⟨rfl, by (repeat (first | with_reducible exact Below.refl _ _ | with_reducible assumption | with_reducible refine Below.drew ?_ | with_reducible refine bl_alloc ?_ _ | with_reducible refine bl_call ?_ (by assumption) | (focus (with_reducible refine Below.setCell ?_ ?_ _; rotate_left; focus (first | omega | (simp <;> omega)))) | fail))⟩

theorem All_any (lo lo' : Nat) (v v' : Value) (l : List Int) (bs : List Bit) (r : List Int) (er : Int) (w : World) (h : Is lo w.heap.size w v l) (h' : Bts lo' w.heap.size w v' bs) (hr : allR l bs = (r, er)) :
    Calls Try.prog 13 #[v, v'] w fun e w' => ∃ A c, e = .returned (.tuple #[.slice A r.length c, .int .i64 er]) ∧ w'.ownsRow w.heap.size 3 1 (.slice A r.length c) r.length (r.flatMap ivc) ∧ Below w.heap.size w w' := by
  unfold allR at hr
  cases hok : okC l with
  | false =>
    rw [if_pos hok] at hr
    injection hr with r1 r2
    subst r1 r2
    exact (All_bad lo v v' l w h hok).mono fun e w' ⟨he, hb⟩ => ⟨none, 0, he, World.ownsRow_nil _ _ _ _, hb⟩
  | true =>
    rw [if_neg (by rw [hok]; decide)] at hr
    cases hin : bs.all (inB l.length) with
    | false =>
      rw [if_pos hin] at hr
      injection hr with r1 r2
      subst r1 r2
      exact (All_none lo lo' v v' l bs w h h' hok hin).mono fun e w' ⟨he, hb⟩ => ⟨none, 0, he, World.ownsRow_nil _ _ _ _, hb⟩
    | true =>
      rw [if_neg (by rw [hin]; decide)] at hr
      injection hr with r1 r2
      subst r1 r2
      rw [allF_len]
      exact All_good lo lo' v v' l bs w h h' hok hin
end Go.Proofs.Ytbonnlaplggjgaa
