import Derived.Test.YteokimebfbnlkaaW17
namespace Go.Proofs.Yteokimebfbnlkaa
open Go.RowKit

/-- How many sectors are free. -/
def sumE : List Ex → Int
  | [] => 0
  | f :: r => f.len + sumE r
theorem sumE_append (p q : List Ex) : sumE (p ++ q) = sumE p + sumE q := by
  induction p with
  | nil => simp [sumE]
  | cons f r ih => simp [sumE, ih]; omega
theorem sumE_snoc {l : List Ex} {k : Nat} (h : k < l.length) : sumE (l.take (k + 1)) = sumE (l.take k) + l[k].len := by
  rw [List.take_add_one, List.getElem?_eq_getElem h, Option.toList_some, sumE_append]; simp [sumE]
theorem sumE_piece (a n : Int) (h : 0 ≤ n) : sumE (piece a n) = n := by
  unfold piece
  split
  · simp [sumE]
  · simp [sumE]; omega

set_option maxHeartbeats 2000000 in
theorem room_ok (lo : Nat) (v : Value) (x : Xs) (w : World) (h : XsR lo w.heap.size w v x) (ok : okX x = true) :
    Calls Try.prog 19 #[v] w fun e w' => e = .returned (.tuple #[.int .i64 (sumE x.free), .int .i64 0]) ∧ Below w.heap.size w w' := by
  have hchk : ∀ W, Below w.heap.size w W → Calls Try.prog 22 #[v] W fun e w' => e = .returned (.int .i64 (badE (okX x))) ∧ Below W.heap.size W w' := fun W hB => check_any lo v x W (h.grow hB) (rgs_ok ok)
  rw [ok] at hchk
  simp only [badE, if_true] at hchk
  have hlen := okX_len ok
  have heach := okX_each ok
  obtain ⟨b, rfl, hb⟩ := h
  obtain ⟨A, c, rfl, h1, h2, h3⟩ := hb.open
  have hsm : sumE (x.free.take x.free.length) = sumE x.free := by rw [List.take_length]
  clear hb ok
  obtain ⟨size, l⟩ := x
  simp only [] at *
  replace hchk := hide hchk; replace h3 := hide h3; replace heach := hide heach; replace hsm := hide hsm
  go_enter Try.func19, Try.ntmps19
  go_wp2_with (go_at_call 22; refine (unhide hchk _ (by (repeat (first | with_reducible exact Below.refl _ _ | with_reducible assumption | with_reducible refine Below.drew ?_ | with_reducible refine bl_alloc ?_ _ | with_reducible refine bl_call ?_ (by assumption) | (focus (with_reducible refine Below.setCell ?_ ?_ _; rotate_left; focus (first | omega | (simp <;> omega)))) | fail)))).mono ?_; rintro e w1 ⟨rfl, hb1⟩; have hz1 := hb1.size; (try simp at hz1); have y1 : w.heap.size < w1.heap.size := (by omega); have M1 : Blk w1 w.heap.size 24 #[.int .i64 size, .slice A l.length c] := Blk.below (by (repeat (first | with_reducible assumption | (focus (with_reducible refine Blk.new ?_; focus (simp <;> fail))) | with_reducible refine Blk.set3 (a := .slice none 0 0) (b := .slice none 0 0) (c := .int .i64 0) ?_ | with_reducible refine Blk.alloc ?_ _ | with_reducible refine Blk.drew ?_ | (focus (with_reducible refine Blk.far ?_ ?_ _; rotate_left; focus (first | omega | (simp <;> omega)))) | (focus (with_reducible refine Blk.below ?_ hb1 ?_; rotate_left; focus (first | omega | (simp <;> omega)))) | (focus (with_reducible refine Blk.below ?_ hb2 ?_; rotate_left; focus (first | omega | (simp <;> omega)))) | (focus (with_reducible refine Blk.below ?_ hb3 ?_; rotate_left; focus (first | omega | (simp <;> omega)))) | (focus (with_reducible refine Blk.below ?_ hb4 ?_; rotate_left; focus (first | omega | (simp <;> omega)))) | (focus (with_reducible refine Blk.below ?_ hb5 ?_; rotate_left; focus (first | omega | (simp <;> omega)))) | (focus (with_reducible refine Blk.below ?_ hb6 ?_; rotate_left; focus (first | omega | (simp <;> omega)))) | (focus (with_reducible refine Blk.below ?_ hb7 ?_; rotate_left; focus (first | omega | (simp <;> omega)))) | (focus (with_reducible refine Blk.below ?_ hb8 ?_; rotate_left; focus (first | omega | (simp <;> omega)))) | (focus (with_reducible refine Blk.below ?_ hb9 ?_; rotate_left; focus (first | omega | (simp <;> omega)))) | (focus (with_reducible refine Blk.below ?_ hb10 ?_; rotate_left; focus (first | omega | (simp <;> omega)))) | (focus (with_reducible refine Blk.below ?_ hb11 ?_; rotate_left; focus (first | omega | (simp <;> omega)))) | (focus (with_reducible refine Blk.below ?_ hb12 ?_; rotate_left; focus (first | omega | (simp <;> omega)))) | (focus (with_reducible refine Blk.below ?_ hb13 ?_; rotate_left; focus (first | omega | (simp <;> omega)))) | (focus (with_reducible refine Blk.below ?_ hb14 ?_; rotate_left; focus (first | omega | (simp <;> omega)))) | (focus (with_reducible refine Blk.below ?_ hb15 ?_; rotate_left; focus (first | omega | (simp <;> omega)))) | fail))) hb1 (by first | omega | (simp <;> omega)); have m1a := M1.cell 0; have m1b := M1.cell 1; simp at m1a m1b)
  go_loopw [4, 13] (fun sm i wr => ∃ (k : Nat) (S : Int), k ≤ l.length ∧ i = .int .i64 k ∧ sm = .int .i64 S ∧ 0 ≤ S ∧ S ≤ 8192 * k ∧ Hid (S = sumE (l.take k)) ∧ Hid (Below w.heap.size w wr)) (fun _ i _ => l.length - (intOf i).toNat)
  case atStart => exact ⟨0, 0, Nat.zero_le _, rfl, rfl, by omega, by omega, hide (by simp [sumE]), hide (by (repeat (first | with_reducible exact Below.refl _ _ | with_reducible assumption | with_reducible refine Below.drew ?_ | with_reducible refine bl_alloc ?_ _ | with_reducible refine bl_call ?_ (by assumption) | (focus (with_reducible refine Below.setCell ?_ ?_ _; rotate_left; focus (first | omega | (simp <;> omega)))) | fail)))⟩
  case round =>
    obtain ⟨k, S, hk, rfl, rfl, s0, s1, hs, hb⟩ := hrel
    by_cases hlt : k < l.length
    · obtain ⟨b, off, rfl, g1, g2, q0, q1⟩ := unhide h3 k hlt
      have c0 := ((unhide hb).cell (p := ⟨b, off + k * 2, none⟩) g2).trans q0
      have c1 := ((unhide hb).cell (p := ⟨b, off + k * 2 + 1, none⟩) g2).trans q1
      obtain ⟨e0, e1, e2⟩ := unhide heach l[k] (List.getElem_mem _)
      have hsn := sumE_snoc hlt
      rw [← unhide hs] at hsn
      generalize l[k] = f at *
      obtain ⟨fa, fl⟩ := f
      simp only [] at c0 c1 e0 e1 e2 hsn
      clear q0 q1
      replace hsn := hide hsn
      go_wp2_with fail
      have hb0 := unhide hb
      go_roundw
      case rel => exact ⟨k + 1, S + fl, by omega, by go_num, rfl, by omega, by omega, hide (unhide hsn).symm, hide (by (repeat (first | with_reducible exact Below.refl _ _ | with_reducible assumption | with_reducible refine Below.drew ?_ | with_reducible refine bl_alloc ?_ _ | with_reducible refine bl_call ?_ (by assumption) | (focus (with_reducible refine Below.setCell ?_ ?_ _; rotate_left; focus (first | omega | (simp <;> omega)))) | fail)))⟩
      case measure => simp [intOf]; omega
    · obtain rfl : k = l.length := by omega
      have hb0 := unhide hb
      have e3 := unhide hs
      rw [unhide hsm] at e3
      go_wp2_with fail
      go_ret2
      exact ⟨by rw [e3]; rfl, hb0⟩
end Go.Proofs.Yteokimebfbnlkaa
