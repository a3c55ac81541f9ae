import Derived.Test.YtiobhglhfjbcbaaW1
namespace Go.Proofs.Ytiobhglhfjbcbaa
open Go.RowKit

/-- OK or ErrArg. -/
def badE (b : Bool) : Int := if b then 0 else 1
/-- May tokens be? -/
def okB (l : List Tok) : Bool := decide (l.length ≤ 65536) && okL 0 l
def longN (l : List Tok) : Int := if okB l then sumT l else 0
theorem okB_iff {l : List Tok} : okB l = true ↔ l.length ≤ 65536 ∧ okL 0 l = true := by simp [okB]
theorem ret_ii {v v' : Value} {a b a' b' : Int} (h : v = .int .i64 a) (h' : v' = .int .i64 b) (e : a = a') (e' : b = b') : Ending.returned (.tuple #[v, v']) = .returned (.tuple #[.int .i64 a', .int .i64 b']) := by rw [h, h', e, e']
theorem okL_at {l : List Tok} {k : Nat} (h : k < l.length) (hw : okL 0 l = okL (sumT (l.take k)) (l.drop k)) (c : okT l[k] = true) (d : l[k].dist ≤ sumT (l.take k)) : okL 0 l = okL (sumT (l.take (k + 1))) (l.drop (k + 1)) := by
  rw [hw, List.drop_eq_getElem_cons h, okL, c, sumT_snoc h]; simp [d]
theorem okL_not {l : List Tok} {k : Nat} (h : k < l.length) (hw : okL 0 l = okL (sumT (l.take k)) (l.drop k)) (c : ¬ (okT l[k] = true ∧ l[k].dist ≤ sumT (l.take k))) : okL 0 l = false := by
  rw [hw, List.drop_eq_getElem_cons h, okL]
  cases h1 : okT l[k]
  · rfl
  · have : ¬ l[k].dist ≤ sumT (l.take k) := fun h2 => c ⟨h1, h2⟩
    simp [this]

set_option maxHeartbeats 1000000 in
theorem Long_any (lo : Nat) (v : Value) (l : List Tok) (w : World) (h : Tks lo w.heap.size w v l) :
    Calls Try.prog 18 #[v] w fun e w' => e = .returned (.tuple #[.int .i64 (longN l), .int .i64 (badE (okB l))]) ∧ Below w.heap.size w w' := by
  obtain ⟨A, c, rfl, h1, h2, h3⟩ := h.open
  clear h
  by_cases hl : l.length ≤ 65536
  · have hk : okB l = okL 0 l := by simp [okB, hl]
    replace hk := hide hk; replace h3 := hide h3
    go_enter Try.func18, Try.ntmps18
    go_wp2
    go_loopw [4, 12] (fun sm i wr => ∃ (k : Nat) (s : Int), k ≤ l.length ∧ i = .int .i64 k ∧ sm = .int .i64 s ∧ 0 ≤ s ∧ s ≤ 18 * k ∧ Hid (s = sumT (l.take k)) ∧ Hid (okL 0 l = okL s (l.drop k)) ∧ Hid (Below w.heap.size w wr)) (fun _ i _ => l.length - (intOf i).toNat)
    case atStart => exact ⟨0, 0, Nat.zero_le _, rfl, rfl, by omega, by omega, hide (by simp [sumT]), hide (by simp), hide (by (repeat (first | with_reducible exact Below.refl _ _ | with_reducible assumption | with_reducible refine Below.drew ?_ | with_reducible refine bl_alloc ?_ _ | with_reducible refine bl_call ?_ (by assumption) | (focus (with_reducible refine Below.setCell ?_ ?_ _; rotate_left; focus (first | omega | (simp <;> omega)))) | fail)))⟩
    case round =>
      obtain ⟨k, s, hk', rfl, rfl, hs0, hs1, hs, hw, hb⟩ := hrel
      by_cases hlt : k < l.length
      · obtain ⟨b, off, rfl, g1, g2, q0, q1, q2⟩ := unhide h3 k hlt
        have c0 := ((unhide hb).cell (p := ⟨b, off + k * 3, none⟩) g2).trans q0
        have c1 := ((unhide hb).cell (p := ⟨b, off + k * 3 + 1, none⟩) g2).trans q1
        have c2 := ((unhide hb).cell (p := ⟨b, off + k * 3 + 2, none⟩) g2).trans q2
        have e1 : Hid (okT l[k] = true → l[k].dist ≤ s → sumT (l.take (k + 1)) = s + sizeT l[k] ∧ okL 0 l = okL (s + sizeT l[k]) (l.drop (k + 1)) ∧ 1 ≤ sizeT l[k] ∧ sizeT l[k] ≤ 18) := hide fun x y => by
          have z1 := unhide hs
          have z2 := unhide hw
          have z3 := sumT_snoc hlt
          subst z1
          exact ⟨z3, by rw [← z3]; exact okL_at hlt z2 x y, okT_size x⟩
        have e2 : Hid (¬ (okT l[k] = true ∧ l[k].dist ≤ s) → okL 0 l = false) := hide fun x => by
          have z1 := unhide hs
          have z2 := unhide hw
          subst z1
          exact okL_not hlt z2 x
        clear q0 q1 q2 g1 g2
        generalize l[k] = t at *
        have ht := fun W => isTok_any t W
        have hg := fun W => long_any t W
        unfold tkV at ht hg
        replace ht := hide ht; replace hg := hide hg
        cases ho : okT t with
        | true =>
          by_cases hd : t.dist ≤ s
          · obtain ⟨x1, x2, x3, x4⟩ := unhide e1 ho hd
            replace x1 := hide x1; replace x2 := hide x2; replace ho := hide ho
            clear e1 e2
            go_wp2_with (first
              | (go_at_call 28; refine (unhide ht _).mono ?_; rintro e w1 ⟨rfl, hb1⟩; rw [unhide ho]; obtain ⟨hc1, hf1⟩ := bcell hb1; have hz1 := hb1.size; (try simp at hz1))
              | (go_at_call 25; refine (unhide hg _).mono ?_; rintro e w2 ⟨rfl, hb2⟩; obtain ⟨hc2, hf2⟩ := bcell hb2; have hz2 := hb2.size; (try simp at hz2)))
            have hb0 := unhide hb
            go_roundw
            case rel => exact ⟨k + 1, s + sizeT t, by omega, by go_num, rfl, by omega, by omega, hide (unhide x1).symm, x2, hide (by (repeat (first | with_reducible exact Below.refl _ _ | with_reducible assumption | with_reducible refine Below.drew ?_ | with_reducible refine bl_alloc ?_ _ | with_reducible refine bl_call ?_ (by assumption) | (focus (with_reducible refine Below.setCell ?_ ?_ _; rotate_left; focus (first | omega | (simp <;> omega)))) | fail)))⟩
            case measure => simp [intOf]; omega
          · have x := unhide e2 fun h => hd h.2
            replace x := hide x; replace ho := hide ho
            clear e1 e2
            go_wp2_with (go_at_call 28; refine (unhide ht _).mono ?_; rintro e w1 ⟨rfl, hb1⟩; rw [unhide ho]; obtain ⟨hc1, hf1⟩ := bcell hb1; have hz1 := hb1.size; (try simp at hz1))
            have hb0 := unhide hb
            go_ret2
            exact ⟨ret_ii rfl rfl (by simp [longN, unhide hk, unhide x]) (by simp [badE, unhide hk, unhide x]), by (repeat (first | with_reducible exact Below.refl _ _ | with_reducible assumption | with_reducible refine Below.drew ?_ | with_reducible refine bl_alloc ?_ _ | with_reducible refine bl_call ?_ (by assumption) | (focus (with_reducible refine Below.setCell ?_ ?_ _; rotate_left; focus (first | omega | (simp <;> omega)))) | fail))⟩
        | false =>
          have x := unhide e2 fun h => by rw [ho] at h; cases h.1
          replace x := hide x; replace ho := hide ho
          clear e1 e2
          go_wp2_with (go_at_call 28; refine (unhide ht _).mono ?_; rintro e w1 ⟨rfl, hb1⟩; rw [unhide ho])
          have hb0 := unhide hb
          go_ret2
          exact ⟨ret_ii rfl rfl (by simp [longN, unhide hk, unhide x]) (by simp [badE, unhide hk, unhide x]), by (repeat (first | with_reducible exact Below.refl _ _ | with_reducible assumption | with_reducible refine Below.drew ?_ | with_reducible refine bl_alloc ?_ _ | with_reducible refine bl_call ?_ (by assumption) | (focus (with_reducible refine Below.setCell ?_ ?_ _; rotate_left; focus (first | omega | (simp <;> omega)))) | fail))⟩
      · obtain rfl : k = l.length := by omega
        have hb0 := unhide hb
        go_wp2
        go_ret2
        have z2 := unhide hw
        rw [List.drop_length] at z2
        have z1 := unhide hs
        rw [List.take_length] at z1
        have z3 : okB l = true := by rw [unhide hk, z2]; rfl
        exact ⟨ret_ii rfl rfl (by simp [longN, z3, z1]) (by simp [badE, z3]), by (repeat (first | with_reducible exact Below.refl _ _ | with_reducible assumption | with_reducible refine Below.drew ?_ | with_reducible refine bl_alloc ?_ _ | with_reducible refine bl_call ?_ (by assumption) | (focus (with_reducible refine Below.setCell ?_ ?_ _; rotate_left; focus (first | omega | (simp <;> omega)))) | fail))⟩
  · have hk : okB l = false := by simp [okB, hl]
    replace hk := hide hk
    clear h3
    go_enter Try.func18, Try.ntmps18
    go_wp2
    go_ret2
    exact ⟨ret_ii rfl rfl (by simp [longN, unhide hk]) (by simp [badE, unhide hk]), by (repeat (first | with_reducible exact Below.refl _ _ | with_reducible assumption | with_reducible refine Below.drew ?_ | with_reducible refine bl_alloc ?_ _ | with_reducible refine bl_call ?_ (by assumption) | (focus (with_reducible refine Below.setCell ?_ ?_ _; rotate_left; focus (first | omega | (simp <;> omega)))) | fail))⟩

theorem Check_any (lo : Nat) (v : Value) (l : List Tok) (w : World) (h : Tks lo w.heap.size w v l) :
    Calls Try.prog 21 #[v] w fun e w' => e = .returned (.int .i64 (badE (okB l))) ∧ Below w.heap.size w w' := by
  have hl := Long_any lo v l w h
  obtain ⟨A, c, rfl, h1, h2, h3⟩ := h.open
  clear h h3
  replace hl := hide hl
  go_enter Try.func21, Try.ntmps21
  go_wp2_with (go_at_call 18; refine (unhide hl).mono ?_; rintro e w1 ⟨rfl, hb1⟩)
  go_ret
  exact ⟨rfl, hb1⟩
end Go.Proofs.Ytiobhglhfjbcbaa
