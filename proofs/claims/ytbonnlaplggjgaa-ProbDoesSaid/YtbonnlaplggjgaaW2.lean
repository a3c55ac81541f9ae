import Derived.Test.YtbonnlaplggjgaaW1
namespace Go.Proofs.Ytbonnlaplggjgaa
open Go.RowKit

/-- The place of the first one that is such, from 'k' on; -1, if none is. -/
def firstI {α : Type} (p : α → Bool) : Nat → List α → Int
  | _, [] => -1
  | k, f :: r => if p f then (k : Int) else firstI p (k + 1) r
theorem firstI_any {α : Type} (p : α → Bool) (k : Nat) (l : List α) : decide (0 ≤ firstI p k l) = l.any p := by
  induction l generalizing k with
  | nil => simp [firstI]
  | cons x r ih =>
    rw [firstI]
    cases h : p x
    · simp [h, ih]
    · simp [h]

set_option maxHeartbeats 400000 in
theorem none_any (p : Int) (w : World) : Calls Try.prog 28 #[.int .i64 p] w fun e w' => e = .returned (.bool (!isC p)) ∧ w = w' := by
  have hi := fun W => isC_any p W
  replace hi := hide hi
  go_enter Try.func28, Try.ntmps28
  go_wp2_with (go_at_call 20; refine (unhide hi _).mono ?_; rintro e w1 ⟨rfl, rfl⟩)
  go_ret
  exact ⟨rfl, rfl⟩

set_option maxHeartbeats 1000000 in
theorem index31_any (lo hi : Nat) (v : Value) (l : List Int) (w : World) (h : Is lo hi w v l) :
    Calls Try.prog 31 #[v, .func (.func 28) #[] #[]] w fun e w' => e = .returned (.int .i64 (firstI (fun p => !isC p) 0 l)) ∧ w = w' := by
  obtain ⟨A, c, rfl, h1, h2, h3⟩ := h.open
  have hf := fun p W => none_any p W
  replace h3 := hide h3; replace hf := hide hf; clear h
  go_enter Try.func31, Try.ntmps31
  go_wp2
  go_loopw [8] (fun i wr => ∃ (k : Nat), k ≤ l.length ∧ i = .int .i64 k ∧ Hid (firstI (fun p => !isC p) 0 l = firstI (fun p => !isC p) k (l.drop k)) ∧ w = wr) (fun i _ => l.length - (intOf i).toNat)
  case atStart => exact ⟨0, Nat.zero_le _, rfl, hide (by simp), rfl⟩
  case round =>
    obtain ⟨k, hk', rfl, hw, rfl⟩ := hrel
    by_cases hlt : k < l.length
    · obtain ⟨b, off, rfl, g1, g2, c0⟩ := unhide h3 k hlt
      have hd : l.drop k = l[k] :: l.drop (k + 1) := List.drop_eq_getElem_cons hlt
      generalize l[k] = f at *
      replace hd := hide hd
      clear g1
      cases hp : isC f with
      | false =>
        go_wp2_with (go_at_call 28; refine (unhide hf _ _).mono ?_; rintro e w1 ⟨rfl, rfl⟩; rw [hp])
        go_ret
        refine ⟨ret_i rfl ?_, rfl⟩
        rw [unhide hw, unhide hd, firstI, if_pos (by simp [hp])]
      | true =>
        go_wp2_with (go_at_call 28; refine (unhide hf _ _).mono ?_; rintro e w1 ⟨rfl, rfl⟩; rw [hp])
        go_roundw
        case rel =>
          refine ⟨k + 1, by omega, by go_num, hide ?_, trivial⟩
          rw [unhide hw, unhide hd, firstI, if_neg (by simp [hp])]
        case measure => simp [intOf]; omega
    · go_wp2
      go_ret
      refine ⟨ret_i rfl ?_, rfl⟩
      rw [unhide hw, List.drop_of_length_le (by omega)]
      rfl

set_option maxHeartbeats 400000 in
theorem contains27_any (lo hi : Nat) (v : Value) (l : List Int) (w : World) (h : Is lo hi w v l) :
    Calls Try.prog 27 #[v, .func (.func 28) #[] #[]] w fun e w' => e = .returned (.bool (l.any fun p => !isC p)) ∧ w = w' := by
  have hx := index31_any lo hi v l w h
  have hd := firstI_any (fun p => !isC p) 0 l
  obtain ⟨A, c, rfl, h1, h2, h3⟩ := h.open
  clear h h3
  replace hx := hide hx; replace hd := hide hd
  go_enter Try.func27, Try.ntmps27
  go_wp2_with (go_at_call 31; refine (unhide hx).mono ?_; rintro e w1 ⟨rfl, rfl⟩)
  go_ret
  exact ⟨ret_b rfl (unhide hd), rfl⟩

theorem okC_any {l : List Int} (h : l.length ≤ 1024) : (l.any fun p => !isC p) = !okC l := by
  rw [Bool.eq_iff_iff]; simp [okC, h]

set_option maxHeartbeats 400000 in
theorem Check_any (lo hi : Nat) (v : Value) (l : List Int) (w : World) (h : Is lo hi w v l) :
    Calls Try.prog 18 #[v] w fun e w' => e = .returned (.int .i64 (badE (okC l))) ∧ w = w' := by
  have hx := contains27_any lo hi v l w h
  obtain ⟨A, c, rfl, h1, h2, h3⟩ := h.open
  clear h h3
  by_cases hl : l.length ≤ 1024
  · rw [okC_any hl] at hx
    replace hx := hide hx
    cases ho : okC l
    · go_enter Try.func18, Try.ntmps18
      go_wp2_with (go_at_call 27; refine (unhide hx).mono ?_; rintro e w1 ⟨rfl, rfl⟩; rw [ho])
      go_ret
      exact ⟨rfl, rfl⟩
    · go_enter Try.func18, Try.ntmps18
      go_wp2_with (go_at_call 27; refine (unhide hx).mono ?_; rintro e w1 ⟨rfl, rfl⟩; rw [ho])
      go_ret
      exact ⟨rfl, rfl⟩
  · have ho : okC l = false := by simp [okC, hl]
    clear hx
    rw [ho]
    go_enter Try.func18, Try.ntmps18
    go_wp2
    go_ret
    exact ⟨rfl, rfl⟩

set_option maxHeartbeats 1000000 in
theorem refCheck_any (lo hi : Nat) (v : Value) (l : List Int) (w : World) (h : Is lo hi w v l) :
    Calls Try.prog 19 #[v] w fun e w' => e = .returned (.int .i64 (badE (okC l))) ∧ w = w' := by
  obtain ⟨A, c, rfl, h1, h2, h3⟩ := h.open
  have hf := fun p W => is_any p W
  replace h3 := hide h3; replace hf := hide hf; clear h
  go_enter Try.func19, Try.ntmps19
  go_wp2
  go_loopw [7] (fun i wr => ∃ (k : Nat), k ≤ l.length ∧ i = .int .i64 k ∧ Hid (∀ j, (h : j < l.length) → j < k → isC l[j] = true) ∧ w = wr) (fun i _ => l.length - (intOf i).toNat)
  case atStart => exact ⟨0, Nat.zero_le _, rfl, hide (fun j _ h => absurd h (Nat.not_lt_zero _)), rfl⟩
  case round =>
    obtain ⟨k, hk', rfl, hw, rfl⟩ := hrel
    by_cases hlt : k < l.length
    · obtain ⟨b, off, rfl, g1, g2, c0⟩ := unhide h3 k hlt
      have hd : Hid (isC l[k] = true → ∀ j, (h : j < l.length) → j < k + 1 → isC l[j] = true) := hide fun e j h h' => by
        rcases Nat.lt_or_ge j k with h1 | h1
        · exact unhide hw j h h1
        · obtain rfl : j = k := by omega
          exact e
      have hn : Hid (isC l[k] = false → okC l = false) := hide fun e => by
        cases ho : okC l
        · rfl
        · rw [(okC_iff.1 ho).2 _ (List.getElem_mem hlt)] at e; cases e
      generalize l[k] = f at *
      clear g1
      cases hp : isC f with
      | false =>
        have hn' := unhide hn hp
        replace hn' := hide hn'
        go_wp2_with (go_at_call 22; refine (unhide hf _ _).mono ?_; rintro e w1 ⟨rfl, rfl⟩; rw [hp])
        go_ret
        exact ⟨by rw [unhide hn']; rfl, rfl⟩
      | true =>
        go_wp2_with (go_at_call 22; refine (unhide hf _ _).mono ?_; rintro e w1 ⟨rfl, rfl⟩; rw [hp])
        go_roundw
        case rel => exact ⟨k + 1, by omega, by go_num, hide (unhide hd hp), trivial⟩
        case measure => simp [intOf]; omega
    · by_cases hl : l.length ≤ 1024
      · have ho : okC l = true := okC_iff.2 ⟨hl, fun p hp => by
          obtain ⟨j, hj, rfl⟩ := List.getElem_of_mem hp
          exact unhide hw j hj (by omega)⟩
        go_wp2
        go_ret
        exact ⟨by rw [ho]; rfl, rfl⟩
      · have ho : okC l = false := by simp [okC, hl]
        go_wp2
        go_ret
        exact ⟨by rw [ho]; rfl, rfl⟩

theorem lrnR_live : lrnR 1024 true = 992 := by decide

set_option maxHeartbeats 400000 in
theorem live_any (w : World) : Calls Try.prog 8 #[] w fun e w' => e = .returned (.bool true) ∧ w = w' := by
  have hi := fun W => Learn_any 1024 true W
  rw [lrnR_live, show badE (isC 1024) = 0 by decide] at hi
  replace hi := hide hi
  go_enter Try.func8, Try.ntmps8
  go_wp2_with (go_at_call 9; refine (unhide hi _).mono ?_; rintro e w1 ⟨rfl, rfl⟩)
  go_ret
  exact ⟨rfl, rfl⟩

set_option maxHeartbeats 1000000 in
theorem same_any (lo hi lo' hi' : Nat) (v1 v2 : Value) (a b : List Int) (w : World) (h1 : Is lo hi w v1 a) (h2 : Is lo' hi' w v2 b) (hi1 : hi ≤ w.heap.size) (hi2 : hi' ≤ w.heap.size) :
    Calls Try.prog 17 #[v1, v2] w fun e w' => e = .returned (.bool (decide (a = b))) ∧ Below w.heap.size w w' := by
  replace h1 : Is lo w.heap.size w v1 a := h1.mono (Nat.le_refl _) hi1
  replace h2 : Is lo' w.heap.size w v2 b := h2.mono (Nat.le_refl _) hi2
  obtain ⟨A, c, rfl, x1, x2, x3⟩ := h1.open
  obtain ⟨B, d, rfl, y1, y2, y3⟩ := h2.open
  clear h1 h2
  by_cases hl : a.length = b.length
  · replace x3 := hide x3; replace y3 := hide y3
    rw [← hl]
    replace hl := hide hl
    go_enter Try.func17, Try.ntmps17
    go_wp2
    go_loopw [13] (fun i wr => ∃ (k : Nat), k ≤ a.length ∧ i = .int .i64 k ∧ Hid (∀ j, (h : j < a.length) → (h' : j < b.length) → j < k → a[j] = b[j]) ∧ Hid (Below w.heap.size w wr)) (fun i _ => a.length - (intOf i).toNat)
    case atStart => exact ⟨0, Nat.zero_le _, rfl, hide (fun j _ _ h => absurd h (Nat.not_lt_zero _)), hide (by (repeat (first | with_reducible exact Below.refl _ _ | with_reducible assumption | with_reducible refine Below.drew ?_ | with_reducible refine bl_alloc ?_ _ | with_reducible refine bl_call ?_ (by assumption) | (focus (with_reducible refine Below.setCell ?_ ?_ _; rotate_left; focus (first | omega | (simp <;> omega)))) | fail)))⟩
    case round =>
      obtain ⟨k, hk, rfl, hs, hb⟩ := hrel
      by_cases hlt : k < a.length
      · have ha : k < a.length := hlt
        have hb' : k < b.length := by have := unhide hl; omega
        obtain ⟨g, off, rfl, g1, g2, q0⟩ := unhide x3 k ha
        obtain ⟨g', off', rfl, g3, g4, p0⟩ := unhide y3 k hb'
        have c0 := ((unhide hb).cell (p := ⟨g, off + k, none⟩) g2).trans q0
        have d0 := ((unhide hb).cell (p := ⟨g', off' + k, none⟩) g4).trans p0
        have z1 : g < wr.heap.size := World.block_lt_of_cell? wr _ c0
        have z2 : g' < wr.heap.size := World.block_lt_of_cell? wr _ d0
        have i3 : IntKind.i64.wrap ((k : Int) + 1) = (k : Int) + 1 := IntWalk.i64_in _ (by omega)
        have hb0 := unhide hb
        have hab : Hid (a[k] = b[k] → ∀ j, (h : j < a.length) → (h' : j < b.length) → j < k + 1 → a[j] = b[j]) := hide fun e j h h' hj => by
          rcases Nat.lt_or_ge j k with h1 | h1
          · exact unhide hs j h h' h1
          · obtain rfl : j = k := by omega
            exact e
        have hne : Hid (¬ a[k] = b[k] → ¬ a = b) := hide fun e h => e (by subst h; rfl)
        generalize a[k] = s at *
        generalize b[k] = t at *
        clear q0 p0 hb'
        replace hb0 := hide hb0
        by_cases he : s = t
        · have he' := he
          subst he
          replace he' := hide he'
          go_wp2_with fail
          go_quiet (fail)
          go_wp2_with fail
          clear i3
          go_roundw
          case rel => exact ⟨k + 1, by omega, by go_num, hide (unhide hab (by first | rfl | trivial)), hide (below_drewN (unhide hb0) _)⟩
          case measure => simp [intOf]; omega
        · have hd : (s == t) = false := by simpa using he
          replace he := hide he
          go_wp2_with fail
          go_quiet (fail)
          go_wp2_with fail
          go_ret
          exact ⟨ret_b rfl (by rw [decide_eq_false (unhide hne (unhide he))]), below_drewN (unhide hb0) _⟩
      · have he : Hid (a = b) := hide (List.ext_getElem (unhide hl) fun j h h' => unhide hs j h h' (by omega))
        have hb0 := unhide hb
        go_wp2
        go_ret
        exact ⟨ret_b rfl (by simp [unhide he]), by (repeat (first | with_reducible exact Below.refl _ _ | with_reducible assumption | with_reducible refine Below.drew ?_ | with_reducible refine bl_alloc ?_ _ | with_reducible refine bl_call ?_ (by assumption) | (focus (with_reducible refine Below.setCell ?_ ?_ _; rotate_left; focus (first | omega | (simp <;> omega)))) | fail))⟩
  · have hne : Hid (¬ a = b) := hide fun h => hl (by rw [h])
    clear x3 y3
    go_enter Try.func17, Try.ntmps17
    go_wp2
    go_ret
    exact ⟨ret_b rfl (by simp [unhide hne]), by (repeat (first | with_reducible exact Below.refl _ _ | with_reducible assumption | with_reducible refine Below.drew ?_ | with_reducible refine bl_alloc ?_ _ | with_reducible refine bl_call ?_ (by assumption) | (focus (with_reducible refine Below.setCell ?_ ?_ _; rotate_left; focus (first | omega | (simp <;> omega)))) | fail))⟩
end Go.Proofs.Ytbonnlaplggjgaa
