import Derived.Test.YteokimebfbnlkaaW17
import Derived.Laws.StructEq
namespace Go.Proofs.Yteokimebfbnlkaa
open Go.RowKit

deriving instance DecidableEq for Ex

theorem ex_if {s t : Ex} (W : World) : (if s.at_ = t.at_ then if s.len = t.len then Result.ok true W else Result.ok false W else Result.ok false W) = Result.ok (decide (s = t)) W := by
  by_cases h : s = t
  · subst h; simp
  · rw [decide_eq_false h]
    split
    · split
      · exact absurd (Ex.eq (by assumption) (by assumption)) h
      · rfl
    · rfl
/-- Are two extents the same? -/
def eqE (a b a' b' : Int) : Bool := decide ((⟨a, b⟩ : Ex) = ⟨a', b'⟩)
theorem run_eq_ex (a b a' b' : Int) (W : World) : (Op.equalIn 10000 26 (.agg #[.int .i64 a, .int .i64 b]) (.agg #[.int .i64 a', .int .i64 b'])).run Try.prog W = .ok (eqE a b a' b') W := by
  rw [run_equalIn_agg W 9999 26 _ _ (by kernel_rfl) (by kernel_rfl)]
  have e3 := fun (a b : Int) => run_equalIn_int W 9998 3 .i64 .i64 a b Try.underlying3
  unfold Program.fieldsOf
  unfold eqE
  rw [← ex_if (s := ⟨a, b⟩) (t := ⟨a', b'⟩)]
  simp [Try.underlying26, Op.eqFields, part, e3]
theorem guard26 : Try.prog.eqGuardType Try.prog.depth 26 = false := by kernel_rfl
theorem run_neq_ex (a b a' b' : Int) (W : World) : (binOp .neq 26 (.agg #[.int .i64 a, .int .i64 b]) (.agg #[.int .i64 a', .int .i64 b'])).run Try.prog W = .ok (.bool (!eqE a b a' b')) W := by
  rw [run_neq_struct, run_eq_ex]; rfl
theorem run_eql_ex (a b a' b' : Int) (W : World) : (binOp .eql 26 (.agg #[.int .i64 a, .int .i64 b]) (.agg #[.int .i64 a', .int .i64 b'])).run Try.prog W = .ok (.bool (eqE a b a' b')) W := by
  rw [run_eql_struct, run_eq_ex]; rfl
attribute [-go_sem] run_eql_struct run_neq_struct
attribute [local go_sem] run_neq_ex run_eql_ex guard26

set_option maxHeartbeats 2000000 in
theorem equal_any (lo lo' : Nat) (v v' : Value) (a b : List Ex) (w : World) (h : Exs lo w.heap.size w v a) (h' : Exs lo' w.heap.size w v' b) :
    Calls Try.prog 43 #[v, v'] w fun e w' => e = .returned (.bool (decide (a = b))) ∧ Below w.heap.size w w' := by
  obtain ⟨A, c, rfl, x1, x2, x3⟩ := h.open
  obtain ⟨A', c', rfl, y1, y2, y3⟩ := h'.open
  clear h h'
  by_cases hl : a.length = b.length
  · replace x3 := hide x3; replace y3 := hide y3; replace hl := hide hl
    have hl2 : (a.length : Int) = (b.length : Int) := by rw [unhide hl]
    go_enter Try.func43, Try.ntmps43
    go_wp2
    clear hl2
    go_loopw [13] (fun i wr => ∃ (k : Nat), k ≤ a.length ∧ i = .int .i64 k ∧ Hid (∀ j, (h : j < a.length) → (h' : j < b.length) → j < k → a[j] = b[j]) ∧ Hid (Below w.heap.size w wr)) (fun i _ => a.length - (intOf i).toNat)
    case atStart => exact ⟨0, Nat.zero_le _, rfl, hide (fun j _ _ h => absurd h (Nat.not_lt_zero _)), hide (by (repeat (first | with_reducible exact Below.refl _ _ | with_reducible assumption | with_reducible refine Below.drew ?_ | with_reducible refine bl_alloc ?_ _ | with_reducible refine bl_call ?_ (by assumption) | (focus (with_reducible refine Below.setCell ?_ ?_ _; rotate_left; focus (first | omega | (simp <;> omega)))) | fail)))⟩
    case round =>
      obtain ⟨k, hk, rfl, hs, hb⟩ := hrel
      by_cases hlt : k < a.length
      · have ha : k < a.length := hlt
        have hb' : k < b.length := by have := unhide hl; omega
        obtain ⟨g, off, rfl, g1, g2, q0, q1⟩ := unhide x3 k ha
        obtain ⟨g', off', rfl, g3, g4, p0, p1⟩ := unhide y3 k hb'
        have c0 := ((unhide hb).cell (p := ⟨g, off + k * 2, none⟩) g2).trans q0
        have c1 := ((unhide hb).cell (p := ⟨g, off + k * 2 + 1, none⟩) g2).trans q1
        have d0 := ((unhide hb).cell (p := ⟨g', off' + k * 2, none⟩) g4).trans p0
        have d1 := ((unhide hb).cell (p := ⟨g', off' + k * 2 + 1, none⟩) g4).trans p1
        have z1 : g < wr.heap.size := World.block_lt_of_cell? wr _ c0
        have z2 : g' < wr.heap.size := World.block_lt_of_cell? wr _ d0
        have i3 : IntKind.i64.wrap ((k : Int) + 1) = (k : Int) + 1 := IntWalk.i64_in _ (by omega)
        have hb0 := unhide hb
        have hab : Hid (a[k] = b[k] → ∀ j, (h : j < a.length) → (h' : j < b.length) → j < k + 1 → a[j] = b[j]) := hide fun e j h h' hj => by
          rcases Nat.lt_or_ge j k with h1 | h1
          · exact unhide hs j h h' h1
          · obtain rfl : j = k := by omega
            exact e
        have hne : Hid (¬ a[k] = b[k] → ¬ a = b) := hide fun e h => e (by subst h; rfl)
        generalize a[k] = s at *
        generalize b[k] = t at *
        obtain ⟨s0, s1⟩ := s
        obtain ⟨t0, t1⟩ := t
        simp only [] at c0 c1 d0 d1
        clear q0 q1 p0 p1
        replace hb0 := hide hb0
        by_cases he : (⟨s0, s1⟩ : Ex) = ⟨t0, t1⟩
        · have hd : eqE s0 s1 t0 t1 = true := decide_eq_true he
          replace he := hide he
          go_wp2_with fail
          go_quiet (fail)
          go_wp2_with fail
          clear i3
          go_roundw
          case rel => exact ⟨k + 1, by omega, by go_num, hide (unhide hab (unhide he)), hide (bl_drewN (unhide hb0) _)⟩
          case measure => simp [intOf]; omega
        · have hd : eqE s0 s1 t0 t1 = false := decide_eq_false he
          replace he := hide he
          go_wp2_with fail
          go_quiet (fail)
          go_wp2_with fail
          go_ret
          exact ⟨ret_b rfl (by rw [decide_eq_false (unhide hne (unhide he))]), bl_drewN (unhide hb0) _⟩
      · have he : Hid (a = b) := hide (List.ext_getElem (unhide hl) fun j h h' => unhide hs j h h' (by omega))
        have hb0 := unhide hb
        have hltb : ¬ k < b.length := by have := unhide hl; omega
        go_wp2_with fail
        go_ret
        exact ⟨ret_b rfl (by simp [unhide he]), by (repeat (first | with_reducible exact Below.refl _ _ | with_reducible assumption | with_reducible refine Below.drew ?_ | with_reducible refine bl_alloc ?_ _ | with_reducible refine bl_call ?_ (by assumption) | (focus (with_reducible refine Below.setCell ?_ ?_ _; rotate_left; focus (first | omega | (simp <;> omega)))) | fail))⟩
  · have hne : Hid (¬ a = b) := hide fun h => hl (by rw [h])
    clear x3 y3
    go_enter Try.func43, Try.ntmps43
    go_wp2
    go_ret
    exact ⟨ret_b rfl (by rw [decide_eq_false (unhide hne)]), by (repeat (first | with_reducible exact Below.refl _ _ | with_reducible assumption | with_reducible refine Below.drew ?_ | with_reducible refine bl_alloc ?_ _ | with_reducible refine bl_call ?_ (by assumption) | (focus (with_reducible refine Below.setCell ?_ ?_ _; rotate_left; focus (first | omega | (simp <;> omega)))) | fail))⟩

/-- Are two the same, part by part? -/
def sameB (x y : Xs) : Bool := decide (x.size = y.size) && decide (x.free = y.free)

set_option maxHeartbeats 1000000 in
theorem same_any (lo lo' : Nat) (v v' : Value) (x y : Xs) (w : World) (h : XsR lo w.heap.size w v x) (h' : XsR lo' w.heap.size w v' y) :
    Calls Try.prog 24 #[v, v'] w fun e w' => e = .returned (.bool (sameB x y)) ∧ Below w.heap.size w w' := by
  obtain ⟨b, rfl, hb⟩ := h
  obtain ⟨b', rfl, hb'⟩ := h'
  have he := fun W hB => equal_any lo lo' b b' x.free y.free W (hb.grow (w' := W) hB) (hb'.grow hB)
  obtain ⟨A, c, rfl, _⟩ := hb.open
  obtain ⟨A', c', rfl, _⟩ := hb'.open
  replace he := hide he
  clear hb hb'
  by_cases hs : x.size = y.size
  · have hq : sameB x y = decide (x.free = y.free) := by simp [sameB, hs]
    replace hq := hide hq
    go_enter Try.func24, Try.ntmps24
    go_wp2_with (go_at_call 43; refine (unhide he _ (by (repeat (first | with_reducible exact Below.refl _ _ | with_reducible assumption | with_reducible refine Below.drew ?_ | with_reducible refine bl_alloc ?_ _ | with_reducible refine bl_call ?_ (by assumption) | (focus (with_reducible refine Below.setCell ?_ ?_ _; rotate_left; focus (first | omega | (simp <;> omega)))) | fail)))).mono ?_; rintro e w1 ⟨rfl, hb1⟩; rw [← unhide hq])
    go_ret
    exact ⟨rfl, by (repeat (first | with_reducible exact Below.refl _ _ | with_reducible assumption | with_reducible refine Below.drew ?_ | with_reducible refine bl_alloc ?_ _ | with_reducible refine bl_call ?_ (by assumption) | (focus (with_reducible refine Below.setCell ?_ ?_ _; rotate_left; focus (first | omega | (simp <;> omega)))) | fail))⟩
  · have hq : sameB x y = false := by simp [sameB, hs]
    replace hq := hide hq
    go_enter Try.func24, Try.ntmps24
    go_wp2_with fail
    go_ret
    exact ⟨ret_b rfl (unhide hq).symm, by (repeat (first | with_reducible exact Below.refl _ _ | with_reducible assumption | with_reducible refine Below.drew ?_ | with_reducible refine bl_alloc ?_ _ | with_reducible refine bl_call ?_ (by assumption) | (focus (with_reducible refine Below.setCell ?_ ?_ _; rotate_left; focus (first | omega | (simp <;> omega)))) | fail))⟩

set_option maxHeartbeats 2000000 in
theorem refsame_any (lo lo' : Nat) (v v' : Value) (x y : Xs) (w : World) (h : XsR lo w.heap.size w v x) (h' : XsR lo' w.heap.size w v' y) :
    Calls Try.prog 21 #[v, v'] w fun e w' => e = .returned (.bool (sameB x y)) ∧ Below w.heap.size w w' := by
  obtain ⟨b, rfl, hb⟩ := h
  obtain ⟨b', rfl, hb'⟩ := h'
  obtain ⟨m, a⟩ := x
  obtain ⟨m', a'⟩ := y
  simp only [] at hb hb'
  obtain ⟨A, c, rfl, x1, x2, x3⟩ := hb.open
  obtain ⟨A', c', rfl, y1, y2, y3⟩ := hb'.open
  clear hb hb'
  by_cases hs : m = m'
  · subst hs
    have hq : sameB ⟨m, a⟩ ⟨m, a'⟩ = decide (a = a') := by simp [sameB]
    replace hq := hide hq
    by_cases hl : a.length = a'.length
    · obtain ⟨n, hn⟩ : ∃ n, n = a.length := ⟨_, rfl⟩
      have hn' : n = a'.length := by omega
      rw [← hn] at x1 ⊢
      rw [← hn'] at y1 ⊢
      replace x3 := hide x3; replace y3 := hide y3; replace hl := hide hl; replace hn := hide hn; replace hn' := hide hn'
      go_enter Try.func21, Try.ntmps21
      go_wp2_with fail
      go_loopw [23] (fun i wr => ∃ (k : Nat), k ≤ n ∧ i = .int .i64 k ∧ Hid (∀ j, (h : j < a.length) → (h' : j < a'.length) → j < k → a[j] = a'[j]) ∧ Hid (Below w.heap.size w wr) ∧ Hid (Blk wr w.heap.size 24 #[.int .i64 m, .slice A n c]) ∧ Hid (Blk wr (w.heap.size + 1) 24 #[.int .i64 m, .slice A' n c'])) (fun i _ => n - (intOf i).toNat)
      case atStart => exact ⟨0, Nat.zero_le _, rfl, hide (fun j _ _ h => absurd h (Nat.not_lt_zero _)), hide (by (repeat (first | with_reducible exact Below.refl _ _ | with_reducible assumption | with_reducible refine Below.drew ?_ | with_reducible refine bl_alloc ?_ _ | with_reducible refine bl_call ?_ (by assumption) | (focus (with_reducible refine Below.setCell ?_ ?_ _; rotate_left; focus (first | omega | (simp <;> omega)))) | fail))), hide (by (repeat (first | with_reducible assumption | (focus (with_reducible refine Blk.new ?_; focus (simp <;> fail))) | with_reducible refine Blk.set3 (a := .slice none 0 0) (b := .slice none 0 0) (c := .int .i64 0) ?_ | with_reducible refine Blk.alloc ?_ _ | with_reducible refine Blk.drew ?_ | (focus (with_reducible refine Blk.far ?_ ?_ _; rotate_left; focus (first | omega | (simp <;> omega)))) | (focus (with_reducible refine Blk.below ?_ hb1 ?_; rotate_left; focus (first | omega | (simp <;> omega)))) | (focus (with_reducible refine Blk.below ?_ hb2 ?_; rotate_left; focus (first | omega | (simp <;> omega)))) | (focus (with_reducible refine Blk.below ?_ hb3 ?_; rotate_left; focus (first | omega | (simp <;> omega)))) | (focus (with_reducible refine Blk.below ?_ hb4 ?_; rotate_left; focus (first | omega | (simp <;> omega)))) | (focus (with_reducible refine Blk.below ?_ hb5 ?_; rotate_left; focus (first | omega | (simp <;> omega)))) | (focus (with_reducible refine Blk.below ?_ hb6 ?_; rotate_left; focus (first | omega | (simp <;> omega)))) | (focus (with_reducible refine Blk.below ?_ hb7 ?_; rotate_left; focus (first | omega | (simp <;> omega)))) | (focus (with_reducible refine Blk.below ?_ hb8 ?_; rotate_left; focus (first | omega | (simp <;> omega)))) | (focus (with_reducible refine Blk.below ?_ hb9 ?_; rotate_left; focus (first | omega | (simp <;> omega)))) | (focus (with_reducible refine Blk.below ?_ hb10 ?_; rotate_left; focus (first | omega | (simp <;> omega)))) | (focus (with_reducible refine Blk.below ?_ hb11 ?_; rotate_left; focus (first | omega | (simp <;> omega)))) | (focus (with_reducible refine Blk.below ?_ hb12 ?_; rotate_left; focus (first | omega | (simp <;> omega)))) | (focus (with_reducible refine Blk.below ?_ hb13 ?_; rotate_left; focus (first | omega | (simp <;> omega)))) | (focus (with_reducible refine Blk.below ?_ hb14 ?_; rotate_left; focus (first | omega | (simp <;> omega)))) | (focus (with_reducible refine Blk.below ?_ hb15 ?_; rotate_left; focus (first | omega | (simp <;> omega)))) | fail))), hide (by (repeat (first | with_reducible assumption | (focus (with_reducible refine Blk.new ?_; focus (simp <;> fail))) | with_reducible refine Blk.set3 (a := .slice none 0 0) (b := .slice none 0 0) (c := .int .i64 0) ?_ | with_reducible refine Blk.alloc ?_ _ | with_reducible refine Blk.drew ?_ | (focus (with_reducible refine Blk.far ?_ ?_ _; rotate_left; focus (first | omega | (simp <;> omega)))) | (focus (with_reducible refine Blk.below ?_ hb1 ?_; rotate_left; focus (first | omega | (simp <;> omega)))) | (focus (with_reducible refine Blk.below ?_ hb2 ?_; rotate_left; focus (first | omega | (simp <;> omega)))) | (focus (with_reducible refine Blk.below ?_ hb3 ?_; rotate_left; focus (first | omega | (simp <;> omega)))) | (focus (with_reducible refine Blk.below ?_ hb4 ?_; rotate_left; focus (first | omega | (simp <;> omega)))) | (focus (with_reducible refine Blk.below ?_ hb5 ?_; rotate_left; focus (first | omega | (simp <;> omega)))) | (focus (with_reducible refine Blk.below ?_ hb6 ?_; rotate_left; focus (first | omega | (simp <;> omega)))) | (focus (with_reducible refine Blk.below ?_ hb7 ?_; rotate_left; focus (first | omega | (simp <;> omega)))) | (focus (with_reducible refine Blk.below ?_ hb8 ?_; rotate_left; focus (first | omega | (simp <;> omega)))) | (focus (with_reducible refine Blk.below ?_ hb9 ?_; rotate_left; focus (first | omega | (simp <;> omega)))) | (focus (with_reducible refine Blk.below ?_ hb10 ?_; rotate_left; focus (first | omega | (simp <;> omega)))) | (focus (with_reducible refine Blk.below ?_ hb11 ?_; rotate_left; focus (first | omega | (simp <;> omega)))) | (focus (with_reducible refine Blk.below ?_ hb12 ?_; rotate_left; focus (first | omega | (simp <;> omega)))) | (focus (with_reducible refine Blk.below ?_ hb13 ?_; rotate_left; focus (first | omega | (simp <;> omega)))) | (focus (with_reducible refine Blk.below ?_ hb14 ?_; rotate_left; focus (first | omega | (simp <;> omega)))) | (focus (with_reducible refine Blk.below ?_ hb15 ?_; rotate_left; focus (first | omega | (simp <;> omega)))) | fail)))⟩
      case round =>
        obtain ⟨k, hk, rfl, hs, hb, k0, k1⟩ := hrel
        have r0 := (unhide k0).cell 1
        have r1 := (unhide k1).cell 1
        simp at r0 r1
        have y0 := (unhide k0).lt
        have yy1 := (unhide k1).lt
        by_cases hlt : k < n
        · have ha : k < a.length := by rw [← unhide hn]; exact hlt
          have hb' : k < a'.length := by rw [← unhide hn']; exact hlt
          obtain ⟨g, off, rfl, g1, g2, q0, q1⟩ := unhide x3 k ha
          obtain ⟨g', off', rfl, g3, g4, p0, p1⟩ := unhide y3 k hb'
          have c0 := ((unhide hb).cell (p := ⟨g, off + k * 2, none⟩) g2).trans q0
          have c1 := ((unhide hb).cell (p := ⟨g, off + k * 2 + 1, none⟩) g2).trans q1
          have d0 := ((unhide hb).cell (p := ⟨g', off' + k * 2, none⟩) g4).trans p0
          have d1 := ((unhide hb).cell (p := ⟨g', off' + k * 2 + 1, none⟩) g4).trans p1
          have z1 : g < wr.heap.size := World.block_lt_of_cell? wr _ c0
          have z2 : g' < wr.heap.size := World.block_lt_of_cell? wr _ d0
          have i3 : IntKind.i64.wrap ((k : Int) + 1) = (k : Int) + 1 := IntWalk.i64_in _ (by omega)
          have i4 : (k : Int) < (n : Int) := by omega
          have i5 : (0 : Int) ≤ (k : Int) := by omega
          have hb0 := unhide hb
          have hab : Hid (a[k] = a'[k] → ∀ j, (h : j < a.length) → (h' : j < a'.length) → j < k + 1 → a[j] = a'[j]) := hide fun e j h h' hj => by
            rcases Nat.lt_or_ge j k with h1 | h1
            · exact unhide hs j h h' h1
            · obtain rfl : j = k := by omega
              exact e
          have hne : Hid (¬ a[k] = a'[k] → ¬ a = a') := hide fun e h => e (by subst h; rfl)
          generalize a[k] = s at *
          generalize a'[k] = t at *
          obtain ⟨s0, s1⟩ := s
          obtain ⟨t0, t1⟩ := t
          simp only [] at c0 c1 d0 d1
          clear q0 q1 p0 p1 ha hb'
          replace hb0 := hide hb0
          by_cases he : (⟨s0, s1⟩ : Ex) = ⟨t0, t1⟩
          · have hd : eqE s0 s1 t0 t1 = true := decide_eq_true he
            replace he := hide he
            go_wp2_with fail
            go_quiet (fail)
            go_wp2_with fail
            clear i3
            go_roundw
            case rel => exact ⟨k + 1, by omega, by go_num, hide (unhide hab (unhide he)), hide (bl_drewN (unhide hb0) _), hide ((unhide k0).drewN _), hide ((unhide k1).drewN _)⟩
            case measure => simp [intOf]; omega
          · have hd : eqE s0 s1 t0 t1 = false := decide_eq_false he
            replace he := hide he
            go_wp2_with fail
            go_quiet (fail)
            go_wp2_with fail
            go_ret
            exact ⟨ret_b rfl (by rw [unhide hq, decide_eq_false (unhide hne (unhide he))]), bl_drewN (unhide hb0) _⟩
        · have he : Hid (a = a') := hide (List.ext_getElem (unhide hl) fun j h h' => unhide hs j h h' (by have := unhide hn; omega))
          have hb0 := unhide hb
          go_wp2_with fail
          go_ret
          exact ⟨ret_b rfl (by rw [unhide hq, decide_eq_true (unhide he)]), hb0⟩
    · have hne : Hid (¬ a = a') := hide fun h => hl (by rw [h])
      clear x3 y3
      go_enter Try.func21, Try.ntmps21
      go_wp2_with fail
      go_ret
      exact ⟨ret_b rfl (by rw [unhide hq, decide_eq_false (unhide hne)]), by (repeat (first | with_reducible exact Below.refl _ _ | with_reducible assumption | with_reducible refine Below.drew ?_ | with_reducible refine bl_alloc ?_ _ | with_reducible refine bl_call ?_ (by assumption) | (focus (with_reducible refine Below.setCell ?_ ?_ _; rotate_left; focus (first | omega | (simp <;> omega)))) | fail))⟩
  · have hq : sameB ⟨m, a⟩ ⟨m', a'⟩ = false := by simp [sameB, hs]
    replace hq := hide hq
    clear x3 y3
    go_enter Try.func21, Try.ntmps21
    go_wp2_with fail
    go_ret
    exact ⟨ret_b rfl (unhide hq).symm, by (repeat (first | with_reducible exact Below.refl _ _ | with_reducible assumption | with_reducible refine Below.drew ?_ | with_reducible refine bl_alloc ?_ _ | with_reducible refine bl_call ?_ (by assumption) | (focus (with_reducible refine Below.setCell ?_ ?_ _; rotate_left; focus (first | omega | (simp <;> omega)))) | fail))⟩

set_option maxHeartbeats 400000 in
theorem refis_any (s : Ex) (size : Int) (w : World) (h1 : 0 ≤ size) (h2 : size ≤ 8192) :
    Calls Try.prog 31 #[.int .i64 size, exV s] w fun e w' => e = .returned (.bool (isOfB s size)) ∧ Below w.heap.size w w' := by
  obtain ⟨a, n⟩ := s
  unfold exV
  go_enter Try.func31, Try.ntmps31
  go_wp2
  all_goals go_ret
  all_goals refine ⟨ret_b rfl ?_, by (repeat (first | with_reducible exact Below.refl _ _ | with_reducible assumption | with_reducible refine Below.drew ?_ | with_reducible refine bl_alloc ?_ _ | with_reducible refine bl_call ?_ (by assumption) | (focus (with_reducible refine Below.setCell ?_ ?_ _; rotate_left; focus (first | omega | (simp <;> omega)))) | fail))⟩
  all_goals (unfold isOfB; rw [Bool.eq_iff_iff]; simp; omega)
end Go.Proofs.Yteokimebfbnlkaa
