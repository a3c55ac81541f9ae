import Derived.Test.YtiobhglhfjbcbaaW5
import Derived.Lib.SlBytesConst
import Derived.Laws.StructEq
namespace Go.Proofs.Ytiobhglhfjbcbaa
open Go.RowKit

theorem tok_if {s t : Tok} (W : World) : (if n8 s.lit = n8 t.lit then if s.len = t.len then if s.dist = t.dist then Result.ok true W else Result.ok false W else Result.ok false W else Result.ok false W) = Result.ok (decide (s = t)) W := by
  by_cases h : s = t
  · subst h; simp
  · rw [decide_eq_false h]
    split
    · split
      · split
        · exact absurd (Tok.eq (n8_inj (by assumption)) (by assumption) (by assumption)) h
        · rfl
      · rfl
    · rfl
/-- Are two tokens the same? -/
def eqT (a : UInt8) (b c : Int) (a' : UInt8) (b' c' : Int) : Bool := decide ((⟨a, b, c⟩ : Tok) = ⟨a', b', c'⟩)
theorem run_eq_tok (a : UInt8) (b c : Int) (a' : UInt8) (b' c' : Int) (W : World) : (Op.equalIn 10000 25 (.agg #[.int .u8 (n8 a), .int .i64 b, .int .i64 c]) (.agg #[.int .u8 (n8 a'), .int .i64 b', .int .i64 c'])).run Try.prog W = .ok (eqT a b c a' b' c') W := by
  rw [run_equalIn_agg W 9999 25 _ _ (by kernel_rfl) (by kernel_rfl)]
  have e5 := fun (a b : Int) => run_equalIn_int W 9998 5 .u8 .u8 a b Try.underlying5
  have e3 := fun (a b : Int) => run_equalIn_int W 9998 3 .i64 .i64 a b Try.underlying3
  unfold Program.fieldsOf
  unfold eqT
  rw [← tok_if (s := ⟨a, b, c⟩) (t := ⟨a', b', c'⟩)]
  simp [Try.underlying25, Op.eqFields, part, e5, e3]
theorem guard25 : Try.prog.eqGuardType Try.prog.depth 25 = false := by kernel_rfl
theorem run_neq_tok (a : UInt8) (b c : Int) (a' : UInt8) (b' c' : Int) (W : World) : (binOp .neq 25 (.agg #[.int .u8 (n8 a), .int .i64 b, .int .i64 c]) (.agg #[.int .u8 (n8 a'), .int .i64 b', .int .i64 c'])).run Try.prog W = .ok (.bool (!eqT a b c a' b' c')) W := by
  rw [run_neq_struct, run_eq_tok]; rfl
theorem run_eql_tok (a : UInt8) (b c : Int) (a' : UInt8) (b' c' : Int) (W : World) : (binOp .eql 25 (.agg #[.int .u8 (n8 a), .int .i64 b, .int .i64 c]) (.agg #[.int .u8 (n8 a'), .int .i64 b', .int .i64 c'])).run Try.prog W = .ok (.bool (eqT a b c a' b' c')) W := by
  rw [run_eql_struct, run_eq_tok]; rfl
attribute [-go_sem] run_eql_struct run_neq_struct
attribute [local go_sem] run_neq_tok run_eql_tok guard25

set_option maxHeartbeats 400000 in
theorem sameb_any (lo hi lo' hi' : Nat) (v1 v2 : Value) (a b : List UInt8) (w : World) (h1 : Bs lo hi w v1 a) (h2 : Bs lo' hi' w v2 b) : Calls Try.prog 20 #[v1, v2] w fun e w' => e = .returned (.bool (decide (a = b))) ∧ w = w' := by
  have c1 := h1.convert
  have c2 := h2.convert
  clear h1 h2
  have hs : ((strU a).toList == (strU b).toList) = decide (a = b) := by
    have e1 : (strU a).toList = a := strU_toList a
    have e2 : (strU b).toList = b := strU_toList b
    rw [e1, e2, Bool.eq_iff_iff]; simp
  go_enter Try.func20, Try.ntmps20
  go_wp2
  go_ret
  exact ⟨rfl, rfl⟩

set_option maxHeartbeats 2000000 in
theorem same_any (lo lo' : Nat) (v1 v2 : Value) (a b : List Tok) (w : World) (h1 : Tks lo w.heap.size w v1 a) (h2 : Tks lo' w.heap.size w v2 b) :
    Calls Try.prog 15 #[v1, v2] w fun e w' => e = .returned (.bool (decide (a = b))) ∧ Below w.heap.size w w' := by
  obtain ⟨A, c, rfl, x1, x2, x3⟩ := h1.open
  obtain ⟨B, d, rfl, y1, y2, y3⟩ := h2.open
  clear h1 h2
  by_cases hl : a.length = b.length
  · replace x3 := hide x3; replace y3 := hide y3
    rw [← hl]
    replace hl := hide hl
    go_enter Try.func15, Try.ntmps15
    go_wp2
    go_loopw [13] (fun i wr => ∃ (k : Nat), k ≤ a.length ∧ i = .int .i64 k ∧ Hid (∀ j, (h : j < a.length) → (h' : j < b.length) → j < k → a[j] = b[j]) ∧ Hid (Below w.heap.size w wr)) (fun i _ => a.length - (intOf i).toNat)
    case atStart => exact ⟨0, Nat.zero_le _, rfl, hide (fun j _ _ h => absurd h (Nat.not_lt_zero _)), hide (by (repeat (first | with_reducible exact Below.refl _ _ | with_reducible assumption | with_reducible refine Below.drew ?_ | with_reducible refine bl_alloc ?_ _ | with_reducible refine bl_call ?_ (by assumption) | (focus (with_reducible refine Below.setCell ?_ ?_ _; rotate_left; focus (first | omega | (simp <;> omega)))) | fail)))⟩
    case round =>
      obtain ⟨k, hk, rfl, hs, hb⟩ := hrel
      by_cases hlt : k < a.length
      · have ha : k < a.length := hlt
        have hb' : k < b.length := by have := unhide hl; omega
        obtain ⟨g, off, rfl, g1, g2, q0, q1, q2⟩ := unhide x3 k ha
        obtain ⟨g', off', rfl, g3, g4, p0, p1, p2⟩ := unhide y3 k hb'
        have c0 := ((unhide hb).cell (p := ⟨g, off + k * 3, none⟩) g2).trans q0
        have c1 := ((unhide hb).cell (p := ⟨g, off + k * 3 + 1, none⟩) g2).trans q1
        have c2 := ((unhide hb).cell (p := ⟨g, off + k * 3 + 2, none⟩) g2).trans q2
        have d0 := ((unhide hb).cell (p := ⟨g', off' + k * 3, none⟩) g4).trans p0
        have d1 := ((unhide hb).cell (p := ⟨g', off' + k * 3 + 1, none⟩) g4).trans p1
        have d2 := ((unhide hb).cell (p := ⟨g', off' + k * 3 + 2, none⟩) g4).trans p2
        have z1 : g < wr.heap.size := World.block_lt_of_cell? wr _ c0
        have z2 : g' < wr.heap.size := World.block_lt_of_cell? wr _ d0
        have i3 : IntKind.i64.wrap ((k : Int) + 1) = (k : Int) + 1 := IntWalk.i64_in _ (by omega)
        have hb0 := unhide hb
        have hab : Hid (a[k] = b[k] → ∀ j, (h : j < a.length) → (h' : j < b.length) → j < k + 1 → a[j] = b[j]) := hide fun e j h h' hj => by
          rcases Nat.lt_or_ge j k with h1 | h1
          · exact unhide hs j h h' h1
          · obtain rfl : j = k := by omega
            exact e
        have hne : Hid (¬ a[k] = b[k] → ¬ a = b) := hide fun e h => e (by subst h; rfl)
        generalize a[k] = s at *
        generalize b[k] = t at *
        obtain ⟨s0, s1, s2⟩ := s
        obtain ⟨t0, t1, t2⟩ := t
        simp only [] at c0 c1 c2 d0 d1 d2
        clear q0 q1 q2 p0 p1 p2 hb'
        replace hb0 := hide hb0
        by_cases he : (⟨s0, s1, s2⟩ : Tok) = ⟨t0, t1, t2⟩
        · have hd : eqT s0 s1 s2 t0 t1 t2 = true := decide_eq_true he
          replace he := hide he
          go_wp2_with fail
          go_quiet (fail)
          go_wp2_with fail
          clear i3
          go_roundw
          case rel => exact ⟨k + 1, by omega, by go_num, hide (unhide hab (unhide he)), hide (below_drewN (unhide hb0) _)⟩
          case measure => simp [intOf]; omega
        · have hd : eqT s0 s1 s2 t0 t1 t2 = false := decide_eq_false he
          replace he := hide he
          go_wp2_with fail
          go_quiet (fail)
          go_wp2_with fail
          go_ret
          exact ⟨ret_b rfl (by rw [decide_eq_false (unhide hne (unhide he))]), below_drewN (unhide hb0) _⟩
      · have he : Hid (a = b) := hide (List.ext_getElem (unhide hl) fun j h h' => unhide hs j h h' (by omega))
        have hb0 := unhide hb
        go_wp2
        go_ret
        exact ⟨ret_b rfl (by simp [unhide he]), by (repeat (first | with_reducible exact Below.refl _ _ | with_reducible assumption | with_reducible refine Below.drew ?_ | with_reducible refine bl_alloc ?_ _ | with_reducible refine bl_call ?_ (by assumption) | (focus (with_reducible refine Below.setCell ?_ ?_ _; rotate_left; focus (first | omega | (simp <;> omega)))) | fail))⟩
  · have hne : Hid (¬ a = b) := hide fun h => hl (by rw [h])
    clear x3 y3
    go_enter Try.func15, Try.ntmps15
    go_wp2
    go_ret
    exact ⟨ret_b rfl (by simp [unhide hne]), by (repeat (first | with_reducible exact Below.refl _ _ | with_reducible assumption | with_reducible refine Below.drew ?_ | with_reducible refine bl_alloc ?_ _ | with_reducible refine bl_call ?_ (by assumption) | (focus (with_reducible refine Below.setCell ?_ ?_ _; rotate_left; focus (first | omega | (simp <;> omega)))) | fail))⟩
end Go.Proofs.Ytiobhglhfjbcbaa
