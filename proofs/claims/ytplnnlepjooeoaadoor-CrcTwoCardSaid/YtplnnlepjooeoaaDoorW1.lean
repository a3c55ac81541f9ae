import Derived.Test.YtplnnlepjooeoaaDoorBase
import Derived.Test.YtplnnlepjooeoaaDoorE1
import Derived.Lib.SlBytesConst
namespace Go.Proofs.YtplnnlepjooeoaaDoor
open Go.RowKit
attribute [local go_sem] u32v_xor u32v_and1 u32v_andC u32v_not u32v_neg u32v_shr1 u32v_shr8 u32v_shr16 u32v_shr24 u32v_eql u32v_conv u8v_conv

set_option maxHeartbeats 400000 in
theorem halved_any (r : Reg) (w : World) : Calls Tryd.prog 11 #[u32v r] w fun e w' => e = .returned (u32v (halfN 8 r)) ∧ w = w' := by
  go_enter Tryd.func11, Tryd.ntmps11
  go_wp2
  go_loop [0, 3] (fun s i => ∃ k : Nat, k ≤ 8 ∧ i = .int .i64 k ∧ s = u32v (halfN k r)) (fun _ i => 8 - (intOf i).toNat)
  case atStart => exact ⟨0, by omega, rfl, rfl⟩
  case round =>
    obtain ⟨k, hk, rfl, rfl⟩ := hrel
    by_cases hlt : k < 8
    · go_wp2
      go_round
      case rel => exact ⟨k + 1, by omega, by go_num, rfl⟩
      case measure => simp [intOf]; omega
    · obtain rfl : k = 8 := by omega
      go_wp2
      go_ret
      exact ⟨rfl, rfl⟩

theorem take_snoc {l : List UInt8} {k : Nat} (h : k < l.length) : l.take (k + 1) = l.take k ++ [l[k]] := by
  rw [List.take_add_one, List.getElem?_eq_getElem h]; rfl

set_option maxHeartbeats 400000 in
theorem step_any (lo hi : Nat) (v : Value) (l : List UInt8) (r : Reg) (w : World) (h : Bs lo hi w v l) :
    Calls Tryd.prog 7 #[u32v r, v] w fun e w' => e = .returned (u32v (stepR r l)) ∧ w = w' := by
  obtain ⟨A, c, rfl, h1, h2, h3⟩ := h
  go_enter Tryd.func7, Tryd.ntmps7
  go_wp2
  go_loop [0, 9] (fun s i => ∃ k : Nat, k ≤ l.length ∧ i = .int .i64 k ∧ s = u32v (stepR r (l.take k))) (fun _ i => l.length - (intOf i).toNat)
  case atStart => exact ⟨0, by omega, rfl, rfl⟩
  case round =>
    obtain ⟨k, hk, rfl, rfl⟩ := hrel
    by_cases hlt : k < l.length
    · obtain ⟨b, off, rfl, _, _, hc0⟩ := h3 (by omega)
      have hc := hc0 k hlt
      have hs : stepR r (l.take (k + 1)) = step1 (stepR r (l.take k)) l[k] := by rw [take_snoc hlt, stepR_snoc]
      replace hs := hide hs
      clear h3 hc0
      generalize stepR r (l.take k) = s at *
      generalize l[k] = o at *
      go_wp2_with (go_at_call 11; refine (halved_any _ _).mono ?_; rintro e w' ⟨rfl, rfl⟩)
      go_round
      case rel => exact ⟨k + 1, by omega, by go_num, by rw [unhide hs]; rfl⟩
      case measure => simp [intOf]; omega
    · obtain rfl : k = l.length := by omega
      go_wp2
      go_ret
      exact ⟨rfl, rfl⟩

theorem sum_any (lo hi : Nat) (v : Value) (l : List UInt8) (w : World) (h : Bs lo hi w v l) :
    Calls Tryd.prog 6 #[v] w fun e w' => e = .returned (u32v (sumR l)) ∧ w = w' := by
  have hs : Calls Tryd.prog 7 #[.int .u32 4294967295, v] w fun e w' => e = .returned (u32v (stepR 4294967295#32 l)) ∧ w = w' := step_any lo hi v l 4294967295#32 w h
  obtain ⟨A, c, rfl, h1, h2, h3⟩ := h
  replace hs := hide hs
  clear h3
  go_enter Tryd.func6, Tryd.ntmps6
  go_wp2_with (go_at_call 7; refine (unhide hs).mono ?_; rintro e w' ⟨rfl, rfl⟩)
  go_ret
  exact ⟨rfl, rfl⟩

def liveL : List UInt8 := [49, 50, 51, 52, 53, 54, 55, 56, 57]
set_option maxHeartbeats 1000000 in
theorem live_any (w : World) : Calls Tryd.prog 4 #[] w fun e w' => e = .returned (.bool true) ∧ Below w.heap.size w w' := by
  have kc := fun (w : World) (C : Array Value) (n c : Nat) => Lib.run_convert_bytes_const (P := Tryd.prog) w 23 5 C n c Tryd.underlying23 Tryd.underlying5
  have hB : Bs 0 (w.heap.size + 1) (w.alloc (.cells (liveL.map u8v).toArray 5 (9, 10))) (.slice (some ⟨w.heap.size, 0, none⟩) 9 9) liveL := by
    refine ⟨_, 9, rfl, by simp [liveL], by omega, fun _ => ⟨w.heap.size, 0, rfl, Nat.zero_le _, by omega, fun i hi => ?_⟩⟩
    rw [cell_of_row _ w.heap.size (0 + i) _ 5 (9, 10) (heap_alloc_new w _)]
    simp [hi]
  have hs := sum_any _ _ _ _ _ hB
  have he : u32v (sumR liveL) = .int .u32 3421780262 := by rw [liveL, live_sum]; rfl
  rw [he] at hs
  replace hs := hide hs
  clear hB he
  go_enter Tryd.func4, Tryd.ntmps4
  go_wp2_with (go_at_call 6; refine (unhide hs).mono ?_; rintro e w' ⟨rfl, rfl⟩)
  go_ret
  exact ⟨rfl, by (repeat (first | with_reducible exact Below.refl _ _ | with_reducible assumption | with_reducible refine Below.drew ?_ | with_reducible refine bl_alloc ?_ _ | with_reducible refine bl_call ?_ (by assumption) | (focus (with_reducible refine Below.setCell ?_ ?_ _; rotate_left; focus (first | omega | (simp <;> omega)))) | fail))⟩


/-! ### the lowest bit -/
/-- The table lies where the program laid it. -/
def Tab (w : World) : Prop := ∀ i, i < 32 → w.cell? ⟨0, i, none⟩ = some (.int .u8 ((Lib.deBruijn32tab.getD i 0 : Nat) : Int))
theorem Tab.below {w w' : World} {B : Nat} (h : Tab w) (hb : Below B w w') (hB : 0 < B) : Tab w' := fun i hi => (hb.cell (p := ⟨0, i, none⟩) hB).trans (h i hi)

theorem u32v_mulB (t : TypeId) (x : Reg) : binOp .mul t (u32v x) (.int .u32 125613361) = pure (u32v (x * 125613361#32)) := by
  unfold u32v
  rw [binOp_mul]
  show pure (Value.int .u32 (IntKind.u32.wrap ((x.toNat : Int) * 125613361))) = _
  have : IntKind.u32.wrap ((x.toNat : Int) * 125613361) = ((x * 125613361#32).toNat : Int) := by
    rw [IntKind.wrap_u32', BitVec.toNat_mul]
    show (x.toNat : Int) * 125613361 % 4294967296 = ((x.toNat * 125613361 % 2 ^ 32 : Nat) : Int)
    omega
  rw [this]
theorem u32v_shr27 (t : TypeId) (x : Reg) : binOp .shr t (u32v x) (.int .u64 27) = pure (u32v (x >>> 27)) := u32v_shr t x 27 _ (by omega)
theorem eqGuard_u32 (op : BinOp) (t : TypeId) (x y : Operand) (a : Reg) (v : Value) : eqGuard op t x y (u32v a) v = pure () := by cases op <;> cases v <;> rfl
theorem eql_zero (t : TypeId) (x : Reg) : binOp .eql t (u32v x) (.int .u32 0) = pure (.bool (decide (x = 0#32))) := u32v_eql t x 0#32

theorem shr27 (r : Reg) (k : Nat) (h : (r &&& - r).toNat = 2 ^ k) : (((r &&& - r) * 125613361#32) >>> 27).toNat = 2 ^ k * 125613361 % 4294967296 / 134217728 := by
  rw [BitVec.toNat_ushiftRight, BitVec.toNat_mul, h, Nat.shiftRight_eq_div_pow]
  simp
section
attribute [local go_sem] u32v_neg u32v_and u32v_mulB eqGuard_u32 eql_zero
set_option maxHeartbeats 1000000 in
theorem tz_core (r : Reg) (k idx : Nat) (w : World) (hd : decide (r = 0#32) = false) (hcell : w.cell? ⟨0, idx, none⟩ = some (.int .u8 (k : Int)))
    (hsh : ∀ t, binOp .shr t (u32v ((r &&& - r) * 125613361#32)) (.int .u64 27) = pure (.int .u32 (idx : Int))) (hk : k < 32) (hi : idx < 32) :
    Calls Tryd.prog 12 #[u32v r] w fun e w' => e = .returned (.int .i64 (k : Int)) ∧ w = w' := by
  have j1 : (0 : Int) ≤ (idx : Int) := by omega
  have j2 : (idx : Int) < 32 := by omega
  go_enter Tryd.func12, Tryd.ntmps12
  go_wp2
  go_ret
  exact ⟨rfl, rfl⟩
end
/-- The place in the table. -/
def tabIdx (k : Nat) : Nat := 2 ^ k * 125613361 % 4294967296 / 134217728
theorem tabIdx_at {k : Nat} (h : k < 32) : tabIdx k < 32 ∧ Lib.deBruijn32tab.getD (tabIdx k) 0 = k := Lib.deBruijn32_at k h
theorem tz_sh (r : Reg) (k : Nat) (h : (r &&& - r).toNat = 2 ^ k) (t : TypeId) : binOp .shr t (u32v ((r &&& - r) * 125613361#32)) (.int .u64 27) = pure (.int .u32 (tabIdx k : Int)) := by
  rw [u32v_shr27]
  unfold u32v
  rw [shr27 r k h]
  rfl
theorem tz_any (r : Reg) (w : World) (hr : r ≠ 0#32) (ht : Tab w) : Calls Tryd.prog 12 #[u32v r] w fun e w' => e = .returned (.int .i64 ((Lib.ctz 32 r.toNat : Nat) : Int)) ∧ w = w' := by
  obtain ⟨h1, h2, _, _⟩ := low_bit r hr
  obtain ⟨g1, g2⟩ := tabIdx_at h1
  have hcell := ht _ g1
  rw [g2] at hcell
  exact tz_core r _ _ w (by simpa using hr) hcell (fun t => tz_sh r _ h2 t) h1 g1
end Go.Proofs.YtplnnlepjooeoaaDoor
