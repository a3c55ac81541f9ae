import Derived.Test.YteokimebfbnlkaaProg
import Derived.Test.YteokimebfbnlkaaBase
namespace Go.Proofs.Yteokimebfbnlkaa
open Go.RowKit

set_option maxHeartbeats 400000 in
theorem end_any (s : Ex) (w : World) (hs : -9223372036854775808 ≤ s.at_ + s.len ∧ s.at_ + s.len ≤ 9223372036854775807) :
    Calls Try.prog 30 #[exV s] w fun e w' => e = .returned (.int .i64 (s.at_ + s.len)) ∧ Below w.heap.size w w' := by
  obtain ⟨a, n⟩ := s
  unfold exV
  simp only [] at hs
  go_enter Try.func30, Try.ntmps30
  go_wp2
  go_ret
  exact ⟨ret_i rfl rfl, by (repeat (first | with_reducible exact Below.refl _ _ | with_reducible assumption | with_reducible refine Below.drew ?_ | with_reducible refine bl_alloc ?_ _ | with_reducible refine bl_call ?_ (by assumption) | (focus (with_reducible refine Below.setCell ?_ ?_ _; rotate_left; focus (first | omega | (simp <;> omega)))) | fail))⟩

set_option maxHeartbeats 400000 in
theorem smb_any (n : Int) (w : World) :
    Calls Try.prog 40 #[.int .i64 n] w fun e w' => e = .returned (.bool (decide (0 ≤ n) && decide (n ≤ 8192))) ∧ w = w' := by
  go_enter Try.func40, Try.ntmps40
  go_wp2
  all_goals go_ret
  all_goals refine ⟨ret_b rfl ?_, rfl⟩
  all_goals (rw [Bool.eq_iff_iff]; simp; omega)

set_option maxHeartbeats 400000 in
theorem isOf_any (s : Ex) (size : Int) (w : World) (h1 : 0 ≤ size) (h2 : size ≤ 8192) (h3 : s.len ≤ 9223372036854775807) :
    Calls Try.prog 28 #[exV s, .int .i64 size] w fun e w' => e = .returned (.bool (isOfB s size)) ∧ Below w.heap.size w w' := by
  obtain ⟨a, n⟩ := s
  unfold exV
  simp only [] at h3
  go_enter Try.func28, Try.ntmps28
  go_wp2
  all_goals go_ret
  all_goals refine ⟨ret_b rfl ?_, by (repeat (first | with_reducible exact Below.refl _ _ | with_reducible assumption | with_reducible refine Below.drew ?_ | with_reducible refine bl_alloc ?_ _ | with_reducible refine bl_call ?_ (by assumption) | (focus (with_reducible refine Below.setCell ?_ ?_ _; rotate_left; focus (first | omega | (simp <;> omega)))) | fail))⟩
  all_goals (unfold isOfB; rw [Bool.eq_iff_iff]; simp; omega)

theorem few_any (v : Value) (x : Xs) (lo : Nat) (w : World) (h : XsR lo w.heap.size w v x) :
    Calls Try.prog 10 #[v] w fun e w' => e = .returned (.bool (decide ((x.size ≤ 100 ∨ 8192 < x.size) ∧ x.free.length ≤ 60))) ∧ Below w.heap.size w w' := by
  obtain ⟨b, rfl, hb⟩ := h
  obtain ⟨A, c, rfl, h1, h2, _⟩ := hb.open
  go_enter Try.func10, Try.ntmps10
  go_wp2
  all_goals go_ret
  all_goals refine ⟨ret_b rfl ?_, by (repeat (first | with_reducible exact Below.refl _ _ | with_reducible assumption | with_reducible refine Below.drew ?_ | with_reducible refine bl_alloc ?_ _ | with_reducible refine bl_call ?_ (by assumption) | (focus (with_reducible refine Below.setCell ?_ ?_ _; rotate_left; focus (first | omega | (simp <;> omega)))) | fail))⟩
  all_goals (rw [Bool.eq_iff_iff]; simp; omega)

/-- All lengths fit a machine's word. -/
def Rgs (l : List Ex) : Prop := ∀ f ∈ l, f.len ≤ 9223372036854775807
/-- OK or ErrArg. -/
def badE (b : Bool) : Int := if b then 0 else 1
/-- May these extents be? -/
def okX (x : Xs) : Bool := decide (0 ≤ x.size) && decide (x.size ≤ 8192) && okF x.size (-1) x.free

set_option maxHeartbeats 1000000 in
theorem check_any (lo : Nat) (v : Value) (x : Xs) (w : World) (h : XsR lo w.heap.size w v x) (hr : Rgs x.free) :
    Calls Try.prog 22 #[v] w fun e w' => e = .returned (.int .i64 (badE (okX x))) ∧ Below w.heap.size w w' := by
  obtain ⟨b, rfl, hb⟩ := h
  obtain ⟨A, c, rfl, h1, h2, h3⟩ := hb.open
  have hk : okX x = (decide (0 ≤ x.size) && decide (x.size ≤ 8192) && okF x.size (-1) x.free) := rfl
  replace hk := hide hk; replace hr := hide hr; replace h3 := hide h3; clear hb
  generalize hn : x.size = n at *
  generalize hl : x.free = l at *
  clear hn hl
  have hs := smb_any n
  replace hs := hide hs
  by_cases hsz : 0 ≤ n ∧ n ≤ 8192
  · obtain ⟨s1, s2⟩ := hsz
    have hb : (decide (0 ≤ n) && decide (n ≤ 8192)) = true := by simp [s1, s2]
    go_enter Try.func22, Try.ntmps22
    go_wp2_with (go_at_call 40; refine (unhide hs _).mono ?_; rintro e w1 ⟨rfl, rfl⟩; rw [hb])
    clear hb
    go_loopw [3, 13] (fun la i wr => ∃ (k : Nat) (last : Int), k ≤ l.length ∧ i = .int .i64 k ∧ la = .int .i64 last ∧ Hid (okF n (-1) l = okF n last (l.drop k)) ∧ Hid (Below w.heap.size w wr) ∧ Hid (Blk wr w.heap.size 24 #[.int .i64 n, .slice A l.length c])) (fun _ i _ => l.length - (intOf i).toNat)
    case atStart => exact ⟨0, -1, Nat.zero_le _, rfl, rfl, hide (by simp), hide (by (repeat (first | with_reducible exact Below.refl _ _ | with_reducible assumption | with_reducible refine Below.drew ?_ | with_reducible refine bl_alloc ?_ _ | with_reducible refine bl_call ?_ (by assumption) | (focus (with_reducible refine Below.setCell ?_ ?_ _; rotate_left; focus (first | omega | (simp <;> omega)))) | fail))), hide (by (repeat (first | with_reducible assumption | (focus (with_reducible refine Blk.new ?_; focus (simp <;> fail))) | with_reducible refine Blk.set3 (a := .slice none 0 0) (b := .slice none 0 0) (c := .int .i64 0) ?_ | with_reducible refine Blk.alloc ?_ _ | with_reducible refine Blk.drew ?_ | (focus (with_reducible refine Blk.far ?_ ?_ _; rotate_left; focus (first | omega | (simp <;> omega)))) | (focus (with_reducible refine Blk.below ?_ hb1 ?_; rotate_left; focus (first | omega | (simp <;> omega)))) | (focus (with_reducible refine Blk.below ?_ hb2 ?_; rotate_left; focus (first | omega | (simp <;> omega)))) | (focus (with_reducible refine Blk.below ?_ hb3 ?_; rotate_left; focus (first | omega | (simp <;> omega)))) | (focus (with_reducible refine Blk.below ?_ hb4 ?_; rotate_left; focus (first | omega | (simp <;> omega)))) | (focus (with_reducible refine Blk.below ?_ hb5 ?_; rotate_left; focus (first | omega | (simp <;> omega)))) | (focus (with_reducible refine Blk.below ?_ hb6 ?_; rotate_left; focus (first | omega | (simp <;> omega)))) | (focus (with_reducible refine Blk.below ?_ hb7 ?_; rotate_left; focus (first | omega | (simp <;> omega)))) | (focus (with_reducible refine Blk.below ?_ hb8 ?_; rotate_left; focus (first | omega | (simp <;> omega)))) | (focus (with_reducible refine Blk.below ?_ hb9 ?_; rotate_left; focus (first | omega | (simp <;> omega)))) | (focus (with_reducible refine Blk.below ?_ hb10 ?_; rotate_left; focus (first | omega | (simp <;> omega)))) | (focus (with_reducible refine Blk.below ?_ hb11 ?_; rotate_left; focus (first | omega | (simp <;> omega)))) | (focus (with_reducible refine Blk.below ?_ hb12 ?_; rotate_left; focus (first | omega | (simp <;> omega)))) | (focus (with_reducible refine Blk.below ?_ hb13 ?_; rotate_left; focus (first | omega | (simp <;> omega)))) | (focus (with_reducible refine Blk.below ?_ hb14 ?_; rotate_left; focus (first | omega | (simp <;> omega)))) | (focus (with_reducible refine Blk.below ?_ hb15 ?_; rotate_left; focus (first | omega | (simp <;> omega)))) | fail)))⟩
    case round =>
      obtain ⟨k, last, hk', rfl, rfl, hw, hb, hc⟩ := hrel
      by_cases hlt : k < l.length
      · obtain ⟨b, off, rfl, g1, g2, q0, q1⟩ := unhide h3 k hlt
        have c0 := ((unhide hb).cell (p := ⟨b, off + k * 2, none⟩) g2).trans q0
        have c1 := ((unhide hb).cell (p := ⟨b, off + k * 2 + 1, none⟩) g2).trans q1
        have c2 := (unhide hc).cell 0
        have hc0 := unhide hc
        simp at c2
        have y1 : w.heap.size < wr.heap.size := World.block_lt_of_cell? wr _ c2
        have y2 : b < wr.heap.size := by omega
        have hd : l.drop k = l[k] :: l.drop (k + 1) := List.drop_eq_getElem_cons hlt
        have hlen : l[k].len ≤ 9223372036854775807 := unhide hr _ (List.getElem_mem _)
        generalize l[k] = f at *
        obtain ⟨fa, fl⟩ := f
        simp only [] at c0 c1 hlen
        have hi := fun W => isOf_any ⟨fa, fl⟩ n W s1 s2 hlen
        replace hi := hide hi; replace hd := hide hd
        clear q0 q1 g1
        by_cases ho : isOfB ⟨fa, fl⟩ n = true
        · have hh := isOfB_iff.1 ho
          have he := fun W => end_any ⟨fa, fl⟩ W ⟨by simp only [] at hh ⊢; omega, by simp only [] at hh ⊢; omega⟩
          replace he := hide he
          simp only [] at hh
          replace hh := hide hh
          go_wp2_with (first
            | (go_at_call 28; refine (unhide hi _).mono ?_; rintro e w1 ⟨rfl, hb1⟩; rw [ho]; obtain ⟨hc1, hf1⟩ := bcell hb1; have hz1 := hb1.size; (try simp at hz1))
            | (go_at_call 30; refine (unhide he _).mono ?_; rintro e w2 ⟨rfl, hb2⟩; obtain ⟨hc2, hf2⟩ := bcell hb2; have hz2 := hb2.size; (try simp at hz2)))
          · have hb0 := unhide hb
            go_ret
            refine ⟨ret_i rfl ?_, by (repeat (first | with_reducible exact Below.refl _ _ | with_reducible assumption | with_reducible refine Below.drew ?_ | with_reducible refine bl_alloc ?_ _ | with_reducible refine bl_call ?_ (by assumption) | (focus (with_reducible refine Below.setCell ?_ ?_ _; rotate_left; focus (first | omega | (simp <;> omega)))) | fail))⟩
            rw [unhide hk, unhide hw, unhide hd, okF, show decide (last < fa) = false by simp; omega]
            simp [badE]
          · have hb0 := unhide hb
            go_roundw
            case rel =>
              refine ⟨k + 1, fa + fl, by omega, by go_num, rfl, hide ?_, hide (by (repeat (first | with_reducible exact Below.refl _ _ | with_reducible assumption | with_reducible refine Below.drew ?_ | with_reducible refine bl_alloc ?_ _ | with_reducible refine bl_call ?_ (by assumption) | (focus (with_reducible refine Below.setCell ?_ ?_ _; rotate_left; focus (first | omega | (simp <;> omega)))) | fail))), hide (by (repeat (first | with_reducible assumption | (focus (with_reducible refine Blk.new ?_; focus (simp <;> fail))) | with_reducible refine Blk.set3 (a := .slice none 0 0) (b := .slice none 0 0) (c := .int .i64 0) ?_ | with_reducible refine Blk.alloc ?_ _ | with_reducible refine Blk.drew ?_ | (focus (with_reducible refine Blk.far ?_ ?_ _; rotate_left; focus (first | omega | (simp <;> omega)))) | (focus (with_reducible refine Blk.below ?_ hb1 ?_; rotate_left; focus (first | omega | (simp <;> omega)))) | (focus (with_reducible refine Blk.below ?_ hb2 ?_; rotate_left; focus (first | omega | (simp <;> omega)))) | (focus (with_reducible refine Blk.below ?_ hb3 ?_; rotate_left; focus (first | omega | (simp <;> omega)))) | (focus (with_reducible refine Blk.below ?_ hb4 ?_; rotate_left; focus (first | omega | (simp <;> omega)))) | (focus (with_reducible refine Blk.below ?_ hb5 ?_; rotate_left; focus (first | omega | (simp <;> omega)))) | (focus (with_reducible refine Blk.below ?_ hb6 ?_; rotate_left; focus (first | omega | (simp <;> omega)))) | (focus (with_reducible refine Blk.below ?_ hb7 ?_; rotate_left; focus (first | omega | (simp <;> omega)))) | (focus (with_reducible refine Blk.below ?_ hb8 ?_; rotate_left; focus (first | omega | (simp <;> omega)))) | (focus (with_reducible refine Blk.below ?_ hb9 ?_; rotate_left; focus (first | omega | (simp <;> omega)))) | (focus (with_reducible refine Blk.below ?_ hb10 ?_; rotate_left; focus (first | omega | (simp <;> omega)))) | (focus (with_reducible refine Blk.below ?_ hb11 ?_; rotate_left; focus (first | omega | (simp <;> omega)))) | (focus (with_reducible refine Blk.below ?_ hb12 ?_; rotate_left; focus (first | omega | (simp <;> omega)))) | (focus (with_reducible refine Blk.below ?_ hb13 ?_; rotate_left; focus (first | omega | (simp <;> omega)))) | (focus (with_reducible refine Blk.below ?_ hb14 ?_; rotate_left; focus (first | omega | (simp <;> omega)))) | (focus (with_reducible refine Blk.below ?_ hb15 ?_; rotate_left; focus (first | omega | (simp <;> omega)))) | fail)))⟩
              · rw [unhide hw, unhide hd, okF, ho, show decide (last < fa) = true by simp; omega]
                rfl
            case measure => simp [intOf]; omega
        · have ho' : isOfB ⟨fa, fl⟩ n = false := by simpa using ho
          go_wp2_with (go_at_call 28; refine (unhide hi _).mono ?_; rintro e w1 ⟨rfl, hb1⟩; rw [ho']; obtain ⟨hc1, hf1⟩ := bcell hb1; have hz1 := hb1.size; (try simp at hz1))
          have hb0 := unhide hb
          go_ret
          refine ⟨ret_i rfl ?_, by (repeat (first | with_reducible exact Below.refl _ _ | with_reducible assumption | with_reducible refine Below.drew ?_ | with_reducible refine bl_alloc ?_ _ | with_reducible refine bl_call ?_ (by assumption) | (focus (with_reducible refine Below.setCell ?_ ?_ _; rotate_left; focus (first | omega | (simp <;> omega)))) | fail))⟩
          rw [unhide hk, unhide hw, unhide hd, okF, ho']
          simp [badE]
      · have hb0 := unhide hb
        go_wp2
        go_ret
        refine ⟨ret_i rfl ?_, by (repeat (first | with_reducible exact Below.refl _ _ | with_reducible assumption | with_reducible refine Below.drew ?_ | with_reducible refine bl_alloc ?_ _ | with_reducible refine bl_call ?_ (by assumption) | (focus (with_reducible refine Below.setCell ?_ ?_ _; rotate_left; focus (first | omega | (simp <;> omega)))) | fail))⟩
        rw [unhide hk, unhide hw, List.drop_of_length_le (by omega)]
        simp [s1, s2, okF, badE]
  · have hb : (decide (0 ≤ n) && decide (n ≤ 8192)) = false := by
      rw [Bool.and_eq_false_iff]; simp; omega
    go_enter Try.func22, Try.ntmps22
    go_wp2_with (go_at_call 40; refine (unhide hs _).mono ?_; rintro e w1 ⟨rfl, rfl⟩; rw [hb])
    go_ret
    refine ⟨ret_i rfl ?_, by (repeat (first | with_reducible exact Below.refl _ _ | with_reducible assumption | with_reducible refine Below.drew ?_ | with_reducible refine bl_alloc ?_ _ | with_reducible refine bl_call ?_ (by assumption) | (focus (with_reducible refine Below.setCell ?_ ?_ _; rotate_left; focus (first | omega | (simp <;> omega)))) | fail))⟩
    rw [unhide hk, hb]
    rfl
end Go.Proofs.Yteokimebfbnlkaa
