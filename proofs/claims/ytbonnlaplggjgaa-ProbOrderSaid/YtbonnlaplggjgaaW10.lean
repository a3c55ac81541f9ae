import Derived.Test.YtbonnlaplggjgaaW2
namespace Go.Proofs.Ytbonnlaplggjgaa
open Go.RowKit

set_option maxHeartbeats 1000000 in
theorem out_any (x : Bit) (g : Nat) (A : Option Addr) (n c : Nat) (w : World) (hg : Blk w g 22 #[.slice A n c]) :
    Calls Try.prog 25 #[btV x, .pointer (some ⟨g, 0, none⟩)] w fun e w' => e = .returned (.bool (!inB n x)) ∧ Below w.heap.size w w' := by
  obtain ⟨a, b⟩ := x
  have c0 := hg.cell 0
  simp at c0
  have y1 := hg.lt
  by_cases h0 : a < 0
  · have e : inB n ⟨a, b⟩ = false := by simp [inB]; omega
    rw [e]
    have d0 : decide (a < 0) = true := by simpa using h0
    clear h0 e
    go_enter Try.func25, Try.ntmps25
    go_wp2
    go_ret
    exact ⟨rfl, by (repeat (first | with_reducible exact Below.refl _ _ | with_reducible assumption | with_reducible refine Below.drew ?_ | with_reducible refine bl_alloc ?_ _ | with_reducible refine bl_call ?_ (by assumption) | (focus (with_reducible refine Below.setCell ?_ ?_ _; rotate_left; focus (first | omega | (simp <;> omega)))) | fail))⟩
  · have d0 : decide (a < 0) = false := by simpa using h0
    have e : (!inB n ⟨a, b⟩) = decide ((n : Int) ≤ a) := by rw [Bool.eq_iff_iff]; simp [inB]; omega
    rw [e]
    clear h0 e
    go_enter Try.func25, Try.ntmps25
    go_wp2
    go_ret
    exact ⟨rfl, by (repeat (first | with_reducible exact Below.refl _ _ | with_reducible assumption | with_reducible refine Below.drew ?_ | with_reducible refine bl_alloc ?_ _ | with_reducible refine bl_call ?_ (by assumption) | (focus (with_reducible refine Below.setCell ?_ ?_ _; rotate_left; focus (first | omega | (simp <;> omega)))) | fail))⟩

set_option maxHeartbeats 1000000 in
theorem index30_any (g : Nat) (A' : Option Addr) (n c' : Nat) (lo : Nat) (v : Value) (l : List Bit) (w : World) (h : Bts lo w.heap.size w v l) (hg : Blk w g 22 #[.slice A' n c']) :
    Calls Try.prog 30 #[v, .func (.func 25) #[] #[.pointer (some ⟨g, 0, none⟩)]] w fun e w' => e = .returned (.int .i64 (firstI (fun x => !inB n x) 0 l)) ∧ Below w.heap.size w w' := by
  obtain ⟨A, c, rfl, h1, h2, h3⟩ := h.open
  have hf := fun x W (hb : Below w.heap.size w W) => out_any x g A' n c' W (hg.below hb hg.lt)
  replace h3 := hide h3; replace hf := hide hf; clear h hg
  go_enter Try.func30, Try.ntmps30
  go_wp2
  go_loopw [8] (fun i wr => ∃ (k : Nat), k ≤ l.length ∧ i = .int .i64 k ∧ Hid (firstI (fun x => !inB n x) 0 l = firstI (fun x => !inB n x) k (l.drop k)) ∧ Hid (Below w.heap.size w wr)) (fun i _ => l.length - (intOf i).toNat)
  case atStart => exact ⟨0, Nat.zero_le _, rfl, hide (by simp), hide (by (repeat (first | with_reducible exact Below.refl _ _ | with_reducible assumption | with_reducible refine Below.drew ?_ | with_reducible refine bl_alloc ?_ _ | with_reducible refine bl_call ?_ (by assumption) | (focus (with_reducible refine Below.setCell ?_ ?_ _; rotate_left; focus (first | omega | (simp <;> omega)))) | fail)))⟩
  case round =>
    obtain ⟨k, hk', rfl, hw, hb⟩ := hrel
    by_cases hlt : k < l.length
    · obtain ⟨b, off, rfl, g1, g2, q0, q1⟩ := unhide h3 k hlt
      have c0 := ((unhide hb).cell (p := ⟨b, off + k * 2, none⟩) g2).trans q0
      have c1 := ((unhide hb).cell (p := ⟨b, off + k * 2 + 1, none⟩) g2).trans q1
      have hd : l.drop k = l[k] :: l.drop (k + 1) := List.drop_eq_getElem_cons hlt
      have hfk := fun W hW => unhide hf l[k] W hW
      generalize l[k] = f at *
      obtain ⟨fa, fl⟩ := f
      simp only [btV] at c0 c1 hfk
      replace hd := hide hd; replace hfk := hide hfk
      clear q0 q1 g1
      cases hp : inB n ⟨fa, fl⟩ with
      | false =>
        go_wp2_with (go_at_call 25; refine (unhide hfk _ (by have hb0 := unhide hb; (repeat (first | with_reducible exact Below.refl _ _ | with_reducible assumption | with_reducible refine Below.drew ?_ | with_reducible refine bl_alloc ?_ _ | with_reducible refine bl_call ?_ (by assumption) | (focus (with_reducible refine Below.setCell ?_ ?_ _; rotate_left; focus (first | omega | (simp <;> omega)))) | fail)))).mono ?_; rintro e w1 ⟨rfl, hb1⟩; rw [hp])
        have hb0 := unhide hb
        go_ret
        refine ⟨ret_i rfl ?_, by (repeat (first | with_reducible exact Below.refl _ _ | with_reducible assumption | with_reducible refine Below.drew ?_ | with_reducible refine bl_alloc ?_ _ | with_reducible refine bl_call ?_ (by assumption) | (focus (with_reducible refine Below.setCell ?_ ?_ _; rotate_left; focus (first | omega | (simp <;> omega)))) | fail))⟩
        rw [unhide hw, unhide hd, firstI, if_pos (by simp [hp])]
      | true =>
        go_wp2_with (go_at_call 25; refine (unhide hfk _ (by have hb0 := unhide hb; (repeat (first | with_reducible exact Below.refl _ _ | with_reducible assumption | with_reducible refine Below.drew ?_ | with_reducible refine bl_alloc ?_ _ | with_reducible refine bl_call ?_ (by assumption) | (focus (with_reducible refine Below.setCell ?_ ?_ _; rotate_left; focus (first | omega | (simp <;> omega)))) | fail)))).mono ?_; rintro e w1 ⟨rfl, hb1⟩; rw [hp])
        have hb0 := unhide hb
        go_roundw
        case rel =>
          refine ⟨k + 1, by omega, by go_num, hide ?_, hide (by (repeat (first | with_reducible exact Below.refl _ _ | with_reducible assumption | with_reducible refine Below.drew ?_ | with_reducible refine bl_alloc ?_ _ | with_reducible refine bl_call ?_ (by assumption) | (focus (with_reducible refine Below.setCell ?_ ?_ _; rotate_left; focus (first | omega | (simp <;> omega)))) | fail)))⟩
          rw [unhide hw, unhide hd, firstI, if_neg (by simp [hp])]
        case measure => simp [intOf]; omega
    · have hb0 := unhide hb
      go_wp2
      go_ret
      refine ⟨ret_i rfl ?_, by (repeat (first | with_reducible exact Below.refl _ _ | with_reducible assumption | with_reducible refine Below.drew ?_ | with_reducible refine bl_alloc ?_ _ | with_reducible refine bl_call ?_ (by assumption) | (focus (with_reducible refine Below.setCell ?_ ?_ _; rotate_left; focus (first | omega | (simp <;> omega)))) | fail))⟩
      rw [unhide hw, List.drop_of_length_le (by omega)]
      rfl

set_option maxHeartbeats 400000 in
theorem contains24_any (g : Nat) (A' : Option Addr) (n c' : Nat) (lo : Nat) (v : Value) (l : List Bit) (w : World) (h : Bts lo w.heap.size w v l) (hg : Blk w g 22 #[.slice A' n c']) :
    Calls Try.prog 24 #[v, .func (.func 25) #[] #[.pointer (some ⟨g, 0, none⟩)]] w fun e w' => e = .returned (.bool (!l.all (inB n))) ∧ Below w.heap.size w w' := by
  have hx := index30_any g A' n c' lo v l w h hg
  have hd := firstI_any (fun x => !inB n x) 0 l
  have hd2 : (l.any fun x => !inB n x) = !l.all (inB n) := by rw [List.any_eq_not_all_not]; simp
  rw [hd2] at hd
  obtain ⟨A, c, rfl, h1, h2, h3⟩ := h.open
  clear h h3 hd2
  replace hx := hide hx; replace hd := hide hd
  go_enter Try.func24, Try.ntmps24
  go_wp2_with (go_at_call 30; refine (unhide hx).mono ?_; rintro e w1 ⟨rfl, hb1⟩)
  go_ret
  exact ⟨ret_b rfl (unhide hd), hb1⟩

set_option maxHeartbeats 400000 in
theorem clone0 (lo : Nat) (v : Value) (l : List Int) (w : World) (h : Is lo w.heap.size w v l) (hL : l.length ≤ 1000000) :
    Calls Try.prog 26 #[v] w fun e w' => ∃ v', e = .returned v' ∧ w'.ownsRow w.heap.size 3 1 v' l.length (l.flatMap ivc) ∧ Below w.heap.size w w' := by
  obtain ⟨i0, hi0, hz0, hz1, hz2⟩ := info_parts info3
  have h' := h
  obtain ⟨A, c, rfl, h1, h2, h3⟩ := h'
  have hs := Rd.src ivc_len h
  clear h h3
  have q22 : ∀ (w : World) (a : Option Addr) (n c : Nat), (binOp .eql 22 (.slice a n c) (.slice none 0 0)).run Try.prog w = .ok (.bool a.isNone) w := fun w a n c => Lib.run_eql_slice_nil w _ _ a n c 0 0 Try.underlying22
  obtain ⟨xs, hxs⟩ : ∃ xs, xs = l.flatMap ivc := ⟨_, rfl⟩
  have hxl : xs.length = l.length := by rw [hxs, flat_len ivc_len, Nat.mul_one]
  have hx1 : ∀ u ∈ xs, u.oneCell' = true := by rw [hxs]; exact flat_one ivc_one l
  rw [← hxs] at hs ⊢
  clear hxs
  generalize l.length = n at *
  have HS := hs.2
  have HX := Lib.hid hxl; have HX1 := Lib.hid hx1; clear hs hxl hx1
  have hb1 : 0 + n ≤ maxLen := by simp only [maxLen]; omega
  have hb2 : (0 + n) * 8 ≤ 140737488355328 := by omega
  rcases A with _ | ad
  · have hn0 : n = 0 := by
      rcases Nat.eq_zero_or_pos n with h0 | h0
      · exact h0
      · obtain ⟨ad, e, _⟩ := HS h0; cases e
    subst hn0
    obtain rfl : xs = [] := List.eq_nil_of_length_eq_zero HX.out
    go_enter Try.func26, Try.ntmps26
    go_wp2
    go_ret
    exact ⟨_, rfl, World.ownsRow_nil _ _ _ _, Below.refl _ _⟩
  · have hz : w.heap.size ≤ (w.alloc (.cells #[] 3)).heap.size := by simp
    have HZ := Lib.hid hz; clear hz
    go_enter Try.func26, Try.ntmps26
    go_wp2_with (first
      | (at_builtin
         refine wpList_app _ rfl (.tmp 5) (.tmp 6) 22 rfl w.heap.size 3 i0 _ 1 8 Try.underlying22 hi0 hz0 hz1 hz2 rfl (Nat.succ_pos _) _ 0 [] rfl (World.ownsRow_lit w #[] 0 (Nat.le_refl _) (Nat.zero_le _) rfl) (some ad) n c xs rfl (HX.out.trans (Nat.mul_one _).symm) (HS.below ((Below.refl _ _).alloc (Nat.le_refl _) _)) HX1.out hb1 hb2 HZ.out ?_
         intro v' w1 hown hg))
    go_ret
    refine ⟨_, rfl, by simpa using hown, ?_⟩
    refine bl_grown ((Below.refl _ _).alloc (Nat.le_refl _) _) hg ?_
    intro k hk
    simp [Act.eval, Value.ownBlock] at hk
    omega
end Go.Proofs.Ytbonnlaplggjgaa
