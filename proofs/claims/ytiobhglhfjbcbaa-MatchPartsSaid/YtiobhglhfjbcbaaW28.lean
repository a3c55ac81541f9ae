import Derived.Test.YtiobhglhfjbcbaaW27
namespace Go.Proofs.Ytiobhglhfjbcbaa
open Go.RowKit

set_option maxRecDepth 100000 in
set_option maxHeartbeats 8000000 in
theorem parts_gate (lo : Nat) (v : Value) (l : List Tok) (cut : Int) (w : World) (h : Tks lo w.heap.size w v l) (hg : 200 < l.length ∨ l.length = 0) :
    Calls Try.prog 7 #[v, .int .i64 cut] w fun e w' => e = .returned (.bool true) ∧ Below w.heap.size w w' := by
  obtain ⟨A, c, rfl, h1, h2, _⟩ := h.open
  clear h
  rcases hg with hg | hg
  · go_enter Try.func7, Try.ntmps7
    go_wp2_with (go_at_call 10; refine (live_any _).mono ?_; rintro e w1 ⟨rfl, hb1⟩)
    go_ret
    exact ⟨rfl, hb1⟩
  · obtain rfl := List.eq_nil_of_length_eq_zero hg
    clear hg
    go_enter Try.func7, Try.ntmps7
    go_wp2_with (go_at_call 10; refine (live_any _).mono ?_; rintro e w1 ⟨rfl, hb1⟩)
    go_ret
    exact ⟨rfl, hb1⟩

set_option maxRecDepth 100000 in
set_option maxHeartbeats 8000000 in
theorem parts_bad (lo : Nat) (v : Value) (l : List Tok) (cut : Int) (w : World) (h : Tks lo w.heap.size w v l) (h0 : 0 < l.length) (hl : l.length ≤ 200) (hok : okB l = false) :
    Calls Try.prog 7 #[v, .int .i64 cut] w fun e w' => e = .returned (.bool true) ∧ Below w.heap.size w w' := by
  have hX := fun W (hb : Below w.heap.size w W) => Text_at _ l 65536 [] 1 (by rw [textR, if_pos hok]) lo W (h.grow hb)
  obtain ⟨A, c, rfl, h1, h2, _⟩ := h.open
  obtain ⟨z1, z2⟩ := rem_pos cut l.length h0
  have i1 : IntKind.i64.wrap (cut.tmod (l.length : Int) + (l.length : Int)) = cut.tmod (l.length : Int) + (l.length : Int) := IntWalk.i64_in _ (by omega)
  clear h hok
  replace hX := hide hX
  go_enter Try.func7, Try.ntmps7
  go_wp2_with (first
    | (go_at_call 10; refine (live_any _).mono ?_; rintro e w1 ⟨rfl, hb1⟩)
    | (go_at_call 16; refine (unhide hX _ (by (repeat (first | with_reducible exact Below.refl _ _ | with_reducible assumption | with_reducible refine Below.drew ?_ | with_reducible refine bl_alloc ?_ _ | with_reducible refine bl_call ?_ (by assumption) | (focus (with_reducible refine Below.setCell ?_ ?_ _; rotate_left; focus (first | omega | (simp <;> omega)))) | fail)))).mono ?_; rintro e w2 ⟨A2, c2, rfl, _, hb2⟩)
    | fail)
  all_goals go_ret
  all_goals exact ⟨rfl, by (repeat (first | with_reducible exact Below.refl _ _ | with_reducible assumption | with_reducible refine Below.drew ?_ | with_reducible refine bl_alloc ?_ _ | with_reducible refine bl_call ?_ (by assumption) | (focus (with_reducible refine Below.setCell ?_ ?_ _; rotate_left; focus (first | omega | (simp <;> omega)))) | fail))⟩

theorem Bs.cap {lo hi : Nat} {w : World} {A : Option Addr} {n c : Nat} {l : List UInt8} (h : Bs lo hi w (.slice A n c) l) : l.length ≤ c := by
  obtain ⟨A', c', e, h1, _⟩ := h
  injection e with _ _ e3
  subst e3
  exact h1
theorem Bs.drewN {lo hi : Nat} {w : World} {v : Value} {l : List UInt8} (h : Bs lo hi w v l) (n : Nat) : Bs lo hi (w.drewN n) v l := h
theorem Text_cap (v : Value) (T : List Tok) (most : Int) (bs : List UInt8) (n : Nat) (hn : n = bs.length) (hr : textR T most = (bs, 0)) (lo : Nat) (W : World) (h : Tks lo W.heap.size W v T) :
    Calls Try.prog 16 #[v, .int .i64 most] W fun e w' => ∃ A c, e = .returned (.tuple #[.slice A n c, .int .i64 0]) ∧ n ≤ c ∧ Bs 0 w'.heap.size w' (.slice A n c) bs ∧ Below W.heap.size W w' := by
  subst hn
  exact (Text_at v T most bs 0 hr lo W h).mono fun e w' ⟨A, c, he, hb, hb'⟩ => ⟨A, c, he, hb.cap, hb, hb'⟩

end Go.Proofs.Ytiobhglhfjbcbaa
