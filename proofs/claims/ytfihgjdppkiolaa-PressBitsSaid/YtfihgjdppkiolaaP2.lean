import Derived.Test.YtfihgjdppkiolaaP1
namespace Go.Proofs.Ytfihgjdppkiolaa
set_option maxRecDepth 100000
open Go.RowKit

theorem i64_join (i : Nat) (hi : i ≤ 40) (x y : Int) (hx₀ : 0 ≤ x) (hx : x % 2 ^ i = 0) (hx₁ : x < 1099511627776) (hy₀ : 0 ≤ y) (hy : y < 2 ^ i) : bits .or .i64 x y = x + y := by
  have hp : (2 : Int) ^ i ≤ 2 ^ 40 := by
    have h := Nat.pow_le_pow_right (show 0 < 2 by omega) hi
    exact_mod_cast h
  refine bits_join .i64 40 (by decide) (fun n h0 h1 => ?_) i x y hx₀ hx hx₁ hy₀ hy (by omega)
  exact IntWalk.i64_in _ (by omega)
theorem i64_join' (i : Nat) (hi : i ≤ 40) (x y : Int) (hx₀ : 0 ≤ x) (hx : x % 2 ^ i = 0) (hx₁ : x < 1099511627776) (hy₀ : 0 ≤ y) (hy : y < 2 ^ i) : bits .or .i64 y x = y + x := by
  have hc : bits .or .i64 y x = bits .or .i64 x y := by simp only [bits, BitVec.or_comm]
  rw [hc, i64_join i hi x y hx₀ hx hx₁ hy₀ hy]; omega
theorem i64_and1 (n : Int) : bits .and .i64 n 1 = n % 2 := by
  have h1 : (BitVec.ofInt 64 1).toNat = 2 ^ 1 - 1 := by decide
  have key : (BitVec.ofInt 64 n &&& BitVec.ofInt 64 1).toNat = (n % ((2 ^ 64 : Nat) : Int)).toNat % 2 ^ 1 := by
    rw [BitVec.toNat_and, BitVec.toNat_ofInt, h1, Nat.and_two_pow_sub_one_eq_mod]
  show IntKind.i64.wrap ((BitVec.ofInt 64 n &&& BitVec.ofInt 64 1).toNat : Nat) = n % 2
  rw [key, IntKind.wrap_i64]
  omega

set_option maxHeartbeats 1000000 in
theorem pnumber_any (a b c d : Int) (ha : 0 ≤ a ∧ a < 256) (hb : 0 ≤ b ∧ b < 256) (hc : 0 ≤ c ∧ c < 256) (hd : 0 ≤ d ∧ d < 256) (w : World) :
    Calls Try.prog 30 #[.agg #[.int .u8 a, .int .u8 b, .int .u8 c, .int .u8 d]] w fun e w' => e = .returned (.int .i64 (a + 256 * b + 65536 * c + 16777216 * d)) ∧ Below w.heap.size w w' := by
  obtain ⟨g, hg⟩ : ∃ g, g = w.heap.size := ⟨_, rfl⟩
  go_enter Try.func30, Try.ntmps30
  go_wp2_with (first | fail)
  rw [← hg]
  replace hg := hide hg
  have o0 : bits .or .i64 0 a = a := by rw [i64_join 8 (by omega) 0 a (by omega) (by decide) (by omega) ha.1 ha.2]; omega
  have o1 : bits .or .i64 a (b * 256) = a + 256 * b := by rw [i64_join' 8 (by omega) (b * 256) a (by omega) (by omega) (by omega) ha.1 ha.2]; omega
  have o2 : bits .or .i64 (a + 256 * b) (c * 65536) = a + 256 * b + 65536 * c := by rw [i64_join' 16 (by omega) (c * 65536) (a + 256 * b) (by omega) (by omega) (by omega) (by omega) (by omega)]; omega
  have o3 : bits .or .i64 (a + 256 * b + 65536 * c) (d * 16777216) = a + 256 * b + 65536 * c + 16777216 * d := by rw [i64_join' 24 (by omega) (d * 16777216) (a + 256 * b + 65536 * c) (by omega) (by omega) (by omega) (by omega) (by omega)]; omega
  replace o0 := hide o0; replace o1 := hide o1; replace o2 := hide o2; replace o3 := hide o3
  go_loopw [3, 5] (fun n i wr => ((i = .int .i64 0 ∧ n = .int .i64 0) ∨ (i = .int .i64 1 ∧ n = .int .i64 a) ∨ (i = .int .i64 2 ∧ n = .int .i64 (a + 256 * b)) ∨ (i = .int .i64 3 ∧ n = .int .i64 (a + 256 * b + 65536 * c)) ∨ (i = .int .i64 4 ∧ n = .int .i64 (a + 256 * b + 65536 * c + 16777216 * d))) ∧ Hid (Below w.heap.size w wr) ∧ Hid (Blk wr g 53 #[.int .u8 a, .int .u8 b, .int .u8 c, .int .u8 d])) (fun _ i _ => 4 - (intOf i).toNat)
  case atStart => exact ⟨.inl ⟨rfl, rfl⟩, hide (by (repeat (first | with_reducible exact Below.refl _ _ | with_reducible assumption | with_reducible refine Below.drew ?_ | with_reducible refine bl_alloc ?_ _ | with_reducible refine bl_call ?_ (by assumption) | (focus (with_reducible refine Below.setCell ?_ ?_ _; rotate_left; focus (first | omega | (simp <;> omega)))) | fail))), hide (Blk.new (unhide hg))⟩
  case round =>
    obtain ⟨hk, hB, hK⟩ := hrel
    have kk := (unhide hK).lt
    have q0 := (unhide hK).cell 0
    have q1 := (unhide hK).cell 1
    have q2 := (unhide hK).cell 2
    have q3 := (unhide hK).cell 3
    simp at q0 q1 q2 q3
    rcases hk with ⟨rfl, rfl⟩ | ⟨rfl, rfl⟩ | ⟨rfl, rfl⟩ | ⟨rfl, rfl⟩ | ⟨rfl, rfl⟩
    · go_wp2_with fail
      go_roundw
      case rel => exact ⟨.inr (.inl ⟨rfl, by rw [unhide o0]⟩), hB, hK⟩
      case measure => decide
    · go_wp2_with fail
      go_roundw
      case rel => exact ⟨.inr (.inr (.inl ⟨rfl, by rw [unhide o1]⟩)), hB, hK⟩
      case measure => decide
    · go_wp2_with fail
      go_roundw
      case rel => exact ⟨.inr (.inr (.inr (.inl ⟨rfl, by rw [unhide o2]⟩))), hB, hK⟩
      case measure => decide
    · go_wp2_with fail
      go_roundw
      case rel => exact ⟨.inr (.inr (.inr (.inr ⟨rfl, by rw [unhide o3]⟩))), hB, hK⟩
      case measure => decide
    · go_wp2_with fail
      go_ret
      exact ⟨rfl, unhide hB⟩

theorem longN_get {t : List Int} (h : 4 ≤ t.length) : longN t = t[0] + (256 : Int) * t[1] + (65536 : Int) * t[2] + (16777216 : Int) * t[3] := by
  unfold longN
  rw [getD_get (k := 0) (by omega), getD_get (k := 1) (by omega), getD_get (k := 2) (by omega), getD_get (k := 3) (by omega)]

set_option maxHeartbeats 1000000 in
theorem Long_any (lo : Nat) (v : Value) (t : List Int) (w : World) (hv : Os lo w.heap.size w v t) (ht : okB t) :
    Calls Try.prog 14 #[v] w fun e w' => e = .returned (.tuple #[.int .i64 (longR t).1, .int .i64 (longR t).2]) ∧ Below w.heap.size w w' := by
  obtain ⟨A, c, rfl, x1, x2, x3⟩ := hv.open
  by_cases h9 : t.length < 9
  · have hr : longR t = (0, 2) := by unfold longR; rw [if_pos (.inl h9)]
    rw [hr]
    clear hv x3
    have h9' : (t.length : Int) < 9 := by omega
    go_enter Try.func14, Try.ntmps14
    go_wp2_with fail
    go_ret2
    exact ⟨rfl, Below.refl _ _⟩
  · obtain ⟨b, off, rfl, y1, y2, q0⟩ := x3 0 (by omega)
    have qq : ∀ i (hi : i < t.length), w.cell? ⟨b, off + i, none⟩ = some (.int .u8 t[i]) := fun i hi => by
      obtain ⟨b', off', e, _, _, hc⟩ := x3 i hi
      injection e with e; injection e with e1 e2; subst e1 e2
      exact hc
    have q1 := qq 1 (by omega); have q2 := qq 2 (by omega); have q3 := qq 3 (by omega)
    rw [Nat.add_zero] at q0
    have hN := fun W => pnumber_any t[0] t[1] t[2] t[3] (ht _ (List.getElem_mem _)) (ht _ (List.getElem_mem _)) (ht _ (List.getElem_mem _)) (ht _ (List.getElem_mem _)) W
    rw [← longN_get (by omega)] at hN
    have hL : 9 ≤ (t.length : Int) := by omega
    have ra : ∀ W, (Instr.arrayAt 53 (.slice (some ⟨b, off, none⟩) t.length c)).run Try.prog W = .ok (.pointer (some ⟨b, off, none⟩)) W := fun W => by
      have h4 : ¬ t.length < 4 := by omega
      simp [Instr.arrayAt, run_underlying Try.underlying53, h4]
    have hr : longR t = if 65536 < longN t then (0, 2) else (longN t, 0) := by unfold longR; simp [h9]
    rw [hr]
    have y3 : b < w.heap.size := by omega
    generalize longN t = N at *
    generalize t[0] = o0 at *; generalize t[1] = o1 at *; generalize t[2] = o2 at *; generalize t[3] = o3 at *
    clear x3 qq hv ht hr
    replace hN := hide hN
    by_cases hb : 65536 < N
    · rw [if_pos hb]
      go_enter Try.func14, Try.ntmps14
      go_wp2_with (first
        | (go_at_call 30; refine (unhide hN _).mono ?_; rintro e w1 ⟨rfl, hb1⟩)
        | fail)
      go_ret2
      exact ⟨rfl, by (repeat (first | with_reducible exact Below.refl _ _ | with_reducible assumption | with_reducible refine Below.drew ?_ | with_reducible refine bl_alloc ?_ _ | with_reducible refine bl_call ?_ (by assumption) | (focus (with_reducible refine Below.setCell ?_ ?_ _; rotate_left; focus (first | omega | (simp <;> omega)))) | fail))⟩
    · rw [if_neg hb]
      go_enter Try.func14, Try.ntmps14
      go_wp2_with (first
        | (go_at_call 30; refine (unhide hN _).mono ?_; rintro e w1 ⟨rfl, hb1⟩)
        | fail)
      go_ret2
      exact ⟨rfl, by (repeat (first | with_reducible exact Below.refl _ _ | with_reducible assumption | with_reducible refine Below.drew ?_ | with_reducible refine bl_alloc ?_ _ | with_reducible refine bl_call ?_ (by assumption) | (focus (with_reducible refine Below.setCell ?_ ?_ _; rotate_left; focus (first | omega | (simp <;> omega)))) | fail))⟩
end Go.Proofs.Ytfihgjdppkiolaa
