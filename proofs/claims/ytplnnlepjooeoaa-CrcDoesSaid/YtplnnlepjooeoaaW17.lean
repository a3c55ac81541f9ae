import Derived.Test.YtplnnlepjooeoaaW13
namespace Go.Proofs.Ytplnnlepjooeoaa
open Go.RowKit

section
variable (t : TypeId) (x y : Reg)
theorem u32v_xorC : binOp .xor t (u32v x) (.int .u32 3988292384) = pure (u32v (x ^^^ oddC)) := u32v_xor t x oddC
theorem u32v_xorF : binOp .xor t (u32v x) (.int .u32 4294967295) = pure (u32v (~~~ x)) := by
  have h := u32v_xor t x 4294967295#32
  have e : x ^^^ (4294967295#32 : Reg) = ~~~ x := by
    have : (4294967295#32 : Reg) = BitVec.allOnes 32 := by decide
    rw [this]
    ext i hi
    simp only [BitVec.getElem_xor, BitVec.getElem_not, BitVec.getElem_allOnes]
    cases x[i] <;> rfl
  rw [e] at h
  exact h
theorem run_quo (w : World) (k m : Nat) (hm : m = 2 ^ k) : (binOp .quo t (u32v x) (.int .u32 (m : Int))).run Try.prog w = .ok (u32v (x >>> k)) w := by
  unfold u32v
  rw [binOp_quo]
  have h0 : ¬ ((m : Int) = 0) := by
    have : 0 < m := by rw [hm]; exact Nat.pow_pos (by omega)
    omega
  have h1 : IntKind.u32.wrap ((x.toNat : Int).tdiv (m : Int)) = ((x >>> k).toNat : Int) := by
    rw [BitVec.toNat_ushiftRight, Nat.shiftRight_eq_div_pow, ← hm]
    have : (x.toNat : Int).tdiv (m : Int) = ((x.toNat / m : Nat) : Int) := by
      rw [Int.tdiv_eq_ediv_of_nonneg (by omega)]
      simp
    have h2 : x.toNat / m ≤ x.toNat := Nat.div_le_self _ _
    have h3 := x.isLt
    rw [this, IntKind.wrap_u32']
    generalize x.toNat / m = q at *
    omega
  rw [Op.intDiv, if_neg h0]
  exact congrArg (fun z => Result.ok (Value.int .u32 z) w) h1
theorem run_rem (w : World) (m : Nat) (hm : 0 < m) (hm2 : m < 4294967296) : (binOp .rem t (u32v x) (.int .u32 (m : Int))).run Try.prog w = .ok (u32v (x % BitVec.ofNat 32 m)) w := by
  unfold u32v
  rw [binOp_rem]
  have h0 : ¬ ((m : Int) = 0) := by omega
  have h1 : (x.toNat : Int).tmod (m : Int) = ((x % BitVec.ofNat 32 m).toNat : Int) := by
    rw [BitVec.toNat_umod, BitVec.toNat_ofNat, Nat.mod_eq_of_lt (show m < 2 ^ 32 by omega), Int.tmod_eq_emod_of_nonneg (by omega), Int.natCast_emod]
  rw [Op.intDiv, if_neg h0]
  exact congrArg (fun z => Result.ok (Value.int .u32 z) w) h1
theorem run_quo2 (w : World) : (binOp .quo t (u32v x) (.int .u32 2)).run Try.prog w = .ok (u32v (x >>> 1)) w := run_quo t x w 1 2 rfl
theorem run_quo8 (w : World) : (binOp .quo t (u32v x) (.int .u32 256)).run Try.prog w = .ok (u32v (x >>> 8)) w := run_quo t x w 8 256 rfl
theorem run_quo16 (w : World) : (binOp .quo t (u32v x) (.int .u32 65536)).run Try.prog w = .ok (u32v (x >>> 16)) w := run_quo t x w 16 65536 rfl
theorem run_quo24 (w : World) : (binOp .quo t (u32v x) (.int .u32 16777216)).run Try.prog w = .ok (u32v (x >>> 24)) w := run_quo t x w 24 16777216 rfl
theorem run_rem256 (w : World) : (binOp .rem t (u32v x) (.int .u32 256)).run Try.prog w = .ok (u32v (x % 256#32)) w := run_rem t x w 256 (by omega) (by omega)
theorem low8_mod : low8 (x % 256#32) = low8 x := by
  unfold low8
  have : (x % 256#32).setWidth 8 = x.setWidth 8 := by
    apply BitVec.eq_of_toNat_eq
    rw [BitVec.toNat_setWidth, BitVec.toNat_setWidth, BitVec.toNat_umod]
    simp
  rw [this]
/-- The lowest bit, as a number. -/
theorem run_rem2 (w : World) : (binOp .rem t (u32v x) (.int .u32 2)).run Try.prog w = .ok (.int .u32 (if x.getLsbD 0 then 1 else 0)) w := by
  have h := run_rem t x w 2 (by omega) (by omega)
  have e : u32v (x % BitVec.ofNat 32 2) = .int .u32 (if x.getLsbD 0 then 1 else 0) := by
    unfold u32v
    rw [BitVec.toNat_umod]
    have h1 : x.getLsbD 0 = decide (x.toNat % 2 = 1) := by
      rw [BitVec.getLsbD, Nat.testBit_zero]
    rw [h1]
    have h2 : (BitVec.ofNat 32 2).toNat = 2 := rfl
    rw [h2]
    rcases Nat.mod_two_eq_zero_or_one x.toNat with h3 | h3 <;> simp [h3]
  rw [e] at h
  exact h
end

section
attribute [local go_sem] u32v_xor u32v_xorC u32v_xorF u32v_conv run_quo2
set_option maxHeartbeats 400000 in
theorem roctet_any (r : Reg) (c : UInt8) (w : World) : Calls Try.prog 21 #[u32v r, u8v c] w fun e w' => e = .returned (u32v (step1 r c)) ∧ w = w' := by
  have h1 : step1 r c = halfN 8 (r ^^^ oct c) := rfl
  rw [h1]
  generalize hq : r ^^^ oct c = q
  replace hq := hide hq
  go_enter Try.func21, Try.ntmps21
  go_wp2
  rw [unhide hq]
  go_loop [0, 10] (fun s i => ∃ k : Nat, k ≤ 8 ∧ i = .int .i64 k ∧ s = u32v (halfN k q)) (fun _ i => 8 - (intOf i).toNat)
  case atStart => exact ⟨0, by omega, rfl, rfl⟩
  case round =>
    obtain ⟨k, hk, rfl, rfl⟩ := hrel
    by_cases hlt : k < 8
    · have hh : halfN (k + 1) q = half1 (halfN k q) := rfl
      rw [half1_if] at hh
      have hr := fun W => run_rem2 22 (halfN k q) W
      generalize halfN k q = s at *
      cases hb : s.getLsbD 0 with
      | true =>
        rw [hb] at hh hr
        simp only [if_true] at hh hr
        replace hh := hide hh
        clear hb
        go_wp2
        go_round
        case rel => exact ⟨k + 1, by omega, by go_num, by rw [unhide hh]⟩
        case measure => simp [intOf]; omega
      | false =>
        rw [hb] at hh hr
        simp only [Bool.false_eq_true, if_false, BitVec.xor_zero] at hh hr
        replace hh := hide hh
        clear hb
        go_wp2
        go_round
        case rel => exact ⟨k + 1, by omega, by go_num, by rw [unhide hh]⟩
        case measure => simp [intOf]; omega
    · obtain rfl : k = 8 := by omega
      go_wp2
      go_ret
      exact ⟨rfl, rfl⟩

set_option maxHeartbeats 400000 in
theorem rstep_any (lo hi : Nat) (v : Value) (l : List UInt8) (r : Reg) (w : World) (h : Bs lo hi w v l) :
    Calls Try.prog 12 #[u32v r, v] w fun e w' => e = .returned (u32v (stepR r l)) ∧ w = w' := by
  obtain ⟨A, c, rfl, h1, h2, h3⟩ := h
  go_enter Try.func12, Try.ntmps12
  go_wp2
  go_loop [0, 9] (fun s i => ∃ k : Nat, k ≤ l.length ∧ i = .int .i64 k ∧ s = u32v (stepR r (l.take k))) (fun _ i => l.length - (intOf i).toNat)
  case atStart => exact ⟨0, by omega, rfl, rfl⟩
  case round =>
    obtain ⟨k, hk, rfl, rfl⟩ := hrel
    by_cases hlt : k < l.length
    · obtain ⟨b, off, rfl, _, _, hc0⟩ := h3 (by omega)
      have hc := hc0 k hlt
      have hs : stepR r (l.take (k + 1)) = step1 (stepR r (l.take k)) l[k] := by rw [take_snoc hlt, stepR_snoc]
      replace hs := hide hs
      clear h3 hc0
      generalize stepR r (l.take k) = s at *
      generalize l[k] = o at *
      go_wp2_with (go_at_call 21; refine (roctet_any _ _ _).mono ?_; rintro e w' ⟨rfl, rfl⟩)
      go_round
      case rel => exact ⟨k + 1, by omega, by go_num, by rw [unhide hs]⟩
      case measure => simp [intOf]; omega
    · obtain rfl : k = l.length := by omega
      go_wp2
      go_ret
      exact ⟨rfl, rfl⟩

theorem rsum_any (lo hi : Nat) (v : Value) (l : List UInt8) (w : World) (h : Bs lo hi w v l) :
    Calls Try.prog 14 #[v] w fun e w' => e = .returned (u32v (sumR l)) ∧ w = w' := by
  have hs : Calls Try.prog 12 #[.int .u32 4294967295, v] w fun e w' => e = .returned (u32v (stepR 4294967295#32 l)) ∧ w = w' := rstep_any lo hi v l 4294967295#32 w h
  obtain ⟨A, c, rfl, h1, h2, h3⟩ := h
  replace hs := hide hs
  clear h3
  go_enter Try.func14, Try.ntmps14
  go_wp2_with (go_at_call 12; refine (unhide hs).mono ?_; rintro e w' ⟨rfl, rfl⟩)
  go_ret
  exact ⟨rfl, rfl⟩
end

section
attribute [local go_sem] run_quo8 run_quo16 run_quo24 run_rem256 low8_conv low8_mod
set_option maxHeartbeats 400000 in
theorem four_any (s : Reg) (w : World) :
    Calls Try.prog 22 #[u32v s] w fun e w' => ∃ g, e = .returned (.slice (some ⟨g, 0, none⟩) 4 4) ∧ Bs 0 w'.heap.size w' (.slice (some ⟨g, 0, none⟩) 4 4) (octs s) ∧ Below w.heap.size w w' := by
  go_enter Try.func22, Try.ntmps22
  go_wp2
  go_ret
  exact ⟨_, rfl, octs_bs (Blk.new rfl) 0 (Nat.zero_le _), by (repeat (first | with_reducible exact Below.refl _ _ | with_reducible assumption | with_reducible refine Below.drew ?_ | with_reducible refine bl_alloc ?_ _ | with_reducible refine bl_call ?_ (by assumption) | (focus (with_reducible refine Below.setCell ?_ ?_ _; rotate_left; focus (first | omega | (simp <;> omega)))) | fail))⟩
end
end Go.Proofs.Ytplnnlepjooeoaa
