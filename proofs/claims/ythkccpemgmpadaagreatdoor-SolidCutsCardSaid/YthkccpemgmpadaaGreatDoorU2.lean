import Derived.Test.YthkccpemgmpadaaGreatDoorU1
import Derived.IntWalk
namespace Go.Proofs.YthkccpemgmpadaaGreatDoor.C
set_option maxRecDepth 100000
open Go.RowKit
theorem below_drewN {B : Nat} {a w : World} (h : Below B a w) (n : Nat) : Below B a (w.drewN n) := ⟨h.os, h.tape, h.output, h.size, h.block⟩
theorem open_short (A : Option Addr) (n c : Nat) (w : World) (h : n < 4) :
    Calls Tryz.prog 41 #[.slice A n c] w fun e w' => e = .returned (.tuple #[.slice none 0 0, .int .i64 2]) ∧ w = w' := by
  have h' : (n : Int) < 4 := by omega
  go_enter Tryz.func41, Tryz.ntmps41
  go_wp2
  go_ret2
  exact ⟨rfl, rfl⟩
theorem elem23 : Tryz.prog.underlying 29 = some (.slice (Tryz.prog.elem 29)) := by kernel_rfl
theorem size5e : ∀ W, (sizeOf (Tryz.prog.elem 29)).run Tryz.prog W = .ok 1 W := fun W => by kernel_rfl
theorem add_none' (b off i : Nat) : (⟨b, off, none⟩ : Addr).add i = ⟨b, off + i, none⟩ := by
  unfold Addr.add
  split
  · rename_i h; subst h; rfl
  · rfl
theorem slice_h (b off n c j : Nat) (hj : j ≤ c) (W : World) :
    (Instr.slice 29 (.slice (some ⟨b, off, none⟩) n c) none (some (.int .i64 (j : Int))) none).run Tryz.prog W = .ok (.slice (some ⟨b, off, none⟩) j c) W := by
  rw [run_slice_h (P := Tryz.prog) W 29 _ n c elem23 .i64 j (by omega) (by omega), size5e]
  simp only [Result.andThen, sliced, Int.toNat_natCast, Nat.sub_zero, Nat.zero_mul, Option.map_some, add_none', Nat.add_zero, ite_self]
theorem slice_l (b off n c i : Nat) (hi : i ≤ n) (hc : i < c) (W : World) :
    (Instr.slice 29 (.slice (some ⟨b, off, none⟩) n c) (some (.int .i64 (i : Int))) none none).run Tryz.prog W = .ok (.slice (some ⟨b, off + i, none⟩) (n - i) (c - i)) W := by
  rw [run_slice_l (P := Tryz.prog) W 29 _ n c elem23 .i64 i (by omega) (by omega), size5e]
  simp only [Result.andThen, sliced, Int.toNat_natCast, Nat.mul_one, Option.map_some, add_none', if_neg (show ¬ c = i by omega)]
section
attribute [local go_sem] eq_arr4 arr36
set_option maxHeartbeats 2000000 in
theorem open_any (lo m : Nat) (v : Value) (l : List UInt8) (w : World) (h : Bs lo w.heap.size w v l) (hm : l.length = m + 4) (hL : m ≤ 900000) :
    Calls Tryz.prog 41 #[v] w fun e w' => ∃ A c er, e = .returned (.tuple #[.slice A (if okO l m then m else 0) c, .int .i64 er]) ∧ er = (if okO l m then 0 else 7) ∧
      w'.ownsRow w.heap.size 5 1 (.slice A (if okO l m then m else 0) c) (if okO l m then m else 0) ((l.take (if okO l m then m else 0)).map u8v) ∧ Below w.heap.size w w' := by
  obtain ⟨A, c, rfl, h1, h2, h3⟩ := h.openN hm
  obtain ⟨b, off, rfl, q1, q2, c0⟩ := h3 m (by omega)
  obtain ⟨_, _, e, _, _, c1⟩ := h3 (m + 1) (by omega); cases e
  obtain ⟨_, _, e, _, _, c2⟩ := h3 (m + 2) (by omega); cases e
  obtain ⟨_, _, e, _, _, c3⟩ := h3 (m + 3) (by omega); cases e
  change w.cell? _ = some (.int .u8 (n8 _)) at c0
  change w.cell? _ = some (.int .u8 (n8 _)) at c1
  change w.cell? _ = some (.int .u8 (n8 _)) at c2
  change w.cell? _ = some (.int .u8 (n8 _)) at c3
  rw [← Nat.add_assoc] at c1 c2 c3
  have hT : Bs lo w.heap.size w (.slice (some ⟨b, off, none⟩) m c) (l.take m) := by
    have hlm : (l.take m).length = m := by simp; omega
    refine ⟨_, c, by rw [hlm], by omega, h2, fun _ => ⟨b, off, rfl, q1, q2, fun i hi => ?_⟩⟩
    obtain ⟨_, _, e, _, _, ci⟩ := h3 i (by omega)
    cases e
    rw [ci]
    have hi' : i < m := by omega
    simp [List.getD_eq_getElem?_getD, show i < l.length by omega]
  have hk : okO l m = same4 (n8 (l.getD m 0)) (n8 (l.getD (m + 1) 0)) (n8 (l.getD (m + 2) 0)) (n8 (l.getD (m + 3) 0)) (low8 (sumR (l.take m))) (low8 (sumR (l.take m) >>> 8)) (low8 (sumR (l.take m) >>> 16)) (low8 (sumR (l.take m) >>> 24)) := rfl
  have hlen : (l.take m).length = m := by simp; omega
  have hsum := sum_any lo w.heap.size _ _ w hT
  have hsum' := fun W (hb : Below w.heap.size w W) => sum_any lo w.heap.size _ _ W (hT.below hb (Nat.le_refl _))
  have hcl := fun W (hb : Below w.heap.size w W) => bclone lo _ _ W ((hT.below hb (Nat.le_refl _)).mono (Nat.le_refl _) hb.size) (by omega)
  rw [hlen] at hcl
  generalize l.getD m 0 = y0 at *
  generalize l.getD (m + 1) 0 = y1 at *
  generalize l.getD (m + 2) 0 = y2 at *
  generalize l.getD (m + 3) 0 = y3 at *
  generalize sumR (l.take m) = s at *
  have g36 := guard36
  have hoct := fun W => octets_any s W
  replace hk := hide hk; replace hsum' := hide hsum'; replace hcl := hide hcl; replace hoct := hide hoct; replace h3 := hide h3
  clear h hT hm hlen hsum
  have i1 : ¬ ((m : Int) + 4 < 4) := by omega
  have hc4 : m + 4 ≤ c := h1
  have sl1 := slice_h b off (m + 4) c m (by omega)
  have sl2 := slice_l b off (m + 4) c m (by omega) (by omega)
  rw [show m + 4 - m = 4 by omega] at sl2
  have wm : IntKind.i64.wrap (m : Int) = (m : Int) := IntWalk.i64_in _ (by omega)
  cases hO : okO l m with
  | false =>
    have hs4 := (unhide hk).symm.trans hO
    replace hO := hide hO
    go_enter Tryz.func41, Tryz.ntmps41
    go_wp2_with fail
    go_quiet (fail)
    go_wp2_with fail
    go_region_held3 (fun W => W.cell? ⟨b, off + m, none⟩ = some (.int .u8 (n8 y0)) ∧ W.cell? ⟨b, off + m + 1, none⟩ = some (.int .u8 (n8 y1)) ∧ W.cell? ⟨b, off + m + 2, none⟩ = some (.int .u8 (n8 y2)) ∧ W.cell? ⟨b, off + m + 3, none⟩ = some (.int .u8 (n8 y3)))
      (first | exact ⟨by go_simp, by go_simp, by go_simp, by go_simp⟩ | go_keep)
      (first
        | (go_at_call 39; refine (unhide hsum' _ (below_drewN (Below.refl _ _) _)).mono ?_; rintro e w1 ⟨rfl, rfl⟩)
        | (go_at_call 62; refine (unhide hoct _).mono ?_; rintro e w1 ⟨rfl, hb1⟩; unfold octsV; have t0 := hb1.cell (p := ⟨b, off + m, none⟩) (by simpa using q2); have t1 := hb1.cell (p := ⟨b, off + m + 1, none⟩) (by simpa using q2); have t2 := hb1.cell (p := ⟨b, off + m + 2, none⟩) (by simpa using q2); have t3 := hb1.cell (p := ⟨b, off + m + 3, none⟩) (by simpa using q2)))
    all_goals
      have hbb : Below w.heap.size w w1 := (below_drewN (Below.refl _ _) _).trans hb1
      go_wp2_with fail
      go_ret2
      exact ⟨none, 0, 7, rfl, rfl, World.ownsRow_nil _ _ _ _, by (repeat (first | with_reducible exact Below.refl _ _ | with_reducible assumption | with_reducible refine Below.drew ?_ | with_reducible refine bl_alloc ?_ _ | with_reducible refine bl_call ?_ (by assumption) | (focus (with_reducible refine Below.setCell ?_ ?_ _; rotate_left; focus (first | omega | (simp <;> omega)))) | fail))⟩
  | true =>
    have hs4 := (unhide hk).symm.trans hO
    replace hO := hide hO
    go_enter Tryz.func41, Tryz.ntmps41
    go_wp2_with fail
    go_quiet (fail)
    go_wp2_with fail
    go_region_held3 (fun W => W.cell? ⟨b, off + m, none⟩ = some (.int .u8 (n8 y0)) ∧ W.cell? ⟨b, off + m + 1, none⟩ = some (.int .u8 (n8 y1)) ∧ W.cell? ⟨b, off + m + 2, none⟩ = some (.int .u8 (n8 y2)) ∧ W.cell? ⟨b, off + m + 3, none⟩ = some (.int .u8 (n8 y3)))
      (first | exact ⟨by go_simp, by go_simp, by go_simp, by go_simp⟩ | go_keep)
      (first
        | (go_at_call 39; refine (unhide hsum' _ (below_drewN (Below.refl _ _) _)).mono ?_; rintro e w1 ⟨rfl, rfl⟩)
        | (go_at_call 62; refine (unhide hoct _).mono ?_; rintro e w1 ⟨rfl, hb1⟩; unfold octsV; have t0 := hb1.cell (p := ⟨b, off + m, none⟩) (by simpa using q2); have t1 := hb1.cell (p := ⟨b, off + m + 1, none⟩) (by simpa using q2); have t2 := hb1.cell (p := ⟨b, off + m + 2, none⟩) (by simpa using q2); have t3 := hb1.cell (p := ⟨b, off + m + 3, none⟩) (by simpa using q2)))
    all_goals
      have hbb : Below w.heap.size w w1 := (below_drewN (Below.refl _ _) _).trans hb1
      go_wp2_with (first | (go_at_call 37; refine (unhide hcl _ (by assumption)).mono ?_; rintro e w2 ⟨A2, c2, rfl, hown, hb2⟩; replace hown := hide hown))
      go_ret2
      exact ⟨A2, c2, 0, rfl, rfl, by simpa using ownsRow_mono (unhide hown) hbb.size, by (repeat (first | with_reducible exact Below.refl _ _ | with_reducible assumption | with_reducible refine Below.drew ?_ | with_reducible refine bl_alloc ?_ _ | with_reducible refine bl_call ?_ (by assumption) | (focus (with_reducible refine Below.setCell ?_ ?_ _; rotate_left; focus (first | omega | (simp <;> omega)))) | fail))⟩
end
end Go.Proofs.YthkccpemgmpadaaGreatDoor.C

namespace Go.Proofs.YthkccpemgmpadaaGreatDoor.C
set_option maxRecDepth 100000
open Go.RowKit
def strU (l : List UInt8) : ByteArray := strOfNums (l.map fun x => (x.toNat : Int))
theorem Bs.convert {lo hi : Nat} {w : World} {v : Value} {l : List UInt8} (h : Bs lo hi w v l) : (convert 29 9 v).run Tryz.prog w = .ok (.string (strU l)) w := by
  obtain ⟨A, c, rfl, h1, h2, h3⟩ := h
  rcases Nat.eq_zero_or_pos l.length with h0 | h0
  · obtain rfl : l = [] := List.eq_nil_of_length_eq_zero h0
    rw [run_convert_bytes_string w 29 9 5 _ _ c Tryz.underlying29 Tryz.underlying5 Tryz.underlying9]
    cases A <;> simp [Conv.bytesToString, loadCells, loadCellsFrom, strU, strOfNums]
    all_goals rfl
  · obtain ⟨b, o, rfl, _, _, hc⟩ := h3 h0
    exact run_convert_bytes_arg (P := Tryz.prog) w 29 5 Tryz.underlying29 Tryz.underlying5 b o l.length c (l.map fun x => (x.toNat : Int)) (by simp) (fun i hi => by rw [hc i (by simpa using hi)]; simp [u8v, List.getD, List.getElem?_eq_getElem (show i < l.length by simpa using hi)]) 9 Tryz.underlying9
theorem strU_toList (l : List UInt8) : (strU l).toList = l := by
  have h := Lib.strOfNums_toList (l.map fun x => (x.toNat : Int))
  have e : Lib.bytesOf (l.map fun x => (x.toNat : Int)) = l := by
    unfold Lib.bytesOf
    rw [List.map_map]
    conv => rhs; rw [← List.map_id l]
    apply List.map_congr_left
    intro x _
    simp
  exact h.trans e
theorem own_put {w : World} {base g n cap k : Nat} {e : TypeId} {xs : List Value} (h : w.ownsRow base e 1 (.slice (some ⟨g, 0, none⟩) n cap) n xs) (u : Value) :
    (w.setCell ⟨g, k, none⟩ u).ownsRow base e 1 (.slice (some ⟨g, 0, none⟩) n cap) n (xs.set k u) := by
  obtain ⟨h1, h2⟩ := h
  refine ⟨by rw [List.length_set]; exact h1, ?_⟩
  rcases h2 with ⟨h2, _⟩ | ⟨g', cap', cur, hv, hb, hh, r1, r2, r3, r4⟩
  · cases h2
  · injection hv with e1 _ e3
    injection e1 with e1
    injection e1 with e1
    subst e1 e3
    refine .inr ⟨g, cap, cur.setIfInBounds k u, rfl, hb, heap_setCell_same w g k cur e u hh, r1, r2, by simpa using r3, ?_⟩
    rw [Array.toList_setIfInBounds, List.take_set, r4]
theorem own_pos {w : World} {base n : Nat} {e : TypeId} {A : Option Addr} {c : Nat} {xs : List Value} (h : w.ownsRow base e 1 (.slice A n c) n xs) (h0 : 0 < n) :
    ∃ g cur, A = some ⟨g, 0, none⟩ ∧ base ≤ g ∧ Blk w g e cur ∧ n ≤ cur.size ∧ ∀ k, k < n → cur[k]? = xs[k]? := by
  obtain ⟨h1, h2⟩ := h
  rcases h2 with ⟨h2, h3⟩ | ⟨g', cap', cur, hv, hb, hh, r1, r2, r3, r4⟩
  · omega
  · injection hv with e1 _ e3
    refine ⟨g', cur, e1, hb, hh, by omega, fun k hk => ?_⟩
    subst r4
    rw [List.getElem?_take, if_pos (by omega), Array.getElem?_toList]
def sealL (l : List UInt8) : List UInt8 := l ++ octs (sumR l)
theorem sealL_len (l : List UInt8) : (sealL l).length = l.length + 4 := by simp [sealL, octs]
end Go.Proofs.YthkccpemgmpadaaGreatDoor.C

namespace Go.Proofs.YthkccpemgmpadaaGreatDoor.C
set_option maxRecDepth 100000
open Go.RowKit
section
variable (t : TypeId) (x y : Reg)
theorem u32v_xorC : binOp .xor t (u32v x) (.int .u32 3988292384) = pure (u32v (x ^^^ oddC)) := u32v_xor t x oddC
theorem u32v_xorF : binOp .xor t (u32v x) (.int .u32 4294967295) = pure (u32v (~~~ x)) := by
  have h := u32v_xor t x 4294967295#32
  have e : x ^^^ (4294967295#32 : Reg) = ~~~ x := by
    have : (4294967295#32 : Reg) = BitVec.allOnes 32 := by decide
    rw [this]
    ext i hi
    simp only [BitVec.getElem_xor, BitVec.getElem_not, BitVec.getElem_allOnes]
    cases x[i] <;> rfl
  rw [e] at h
  exact h
theorem run_quo (w : World) (k m : Nat) (hm : m = 2 ^ k) : (binOp .quo t (u32v x) (.int .u32 (m : Int))).run Tryz.prog w = .ok (u32v (x >>> k)) w := by
  unfold u32v
  rw [binOp_quo]
  have h0 : ¬ ((m : Int) = 0) := by
    have : 0 < m := by rw [hm]; exact Nat.pow_pos (by omega)
    omega
  have h1 : IntKind.u32.wrap ((x.toNat : Int).tdiv (m : Int)) = ((x >>> k).toNat : Int) := by
    rw [BitVec.toNat_ushiftRight, Nat.shiftRight_eq_div_pow, ← hm]
    have : (x.toNat : Int).tdiv (m : Int) = ((x.toNat / m : Nat) : Int) := by
      rw [Int.tdiv_eq_ediv_of_nonneg (by omega)]
      simp
    have h2 : x.toNat / m ≤ x.toNat := Nat.div_le_self _ _
    have h3 := x.isLt
    rw [this, IntKind.wrap_u32']
    generalize x.toNat / m = q at *
    omega
  rw [Op.intDiv, if_neg h0]
  exact congrArg (fun z => Result.ok (Value.int .u32 z) w) h1
theorem run_rem (w : World) (m : Nat) (hm : 0 < m) (hm2 : m < 4294967296) : (binOp .rem t (u32v x) (.int .u32 (m : Int))).run Tryz.prog w = .ok (u32v (x % BitVec.ofNat 32 m)) w := by
  unfold u32v
  rw [binOp_rem]
  have h0 : ¬ ((m : Int) = 0) := by omega
  have h1 : (x.toNat : Int).tmod (m : Int) = ((x % BitVec.ofNat 32 m).toNat : Int) := by
    rw [BitVec.toNat_umod, BitVec.toNat_ofNat, Nat.mod_eq_of_lt (show m < 2 ^ 32 by omega), Int.tmod_eq_emod_of_nonneg (by omega), Int.natCast_emod]
  rw [Op.intDiv, if_neg h0]
  exact congrArg (fun z => Result.ok (Value.int .u32 z) w) h1
theorem run_quo2 (w : World) : (binOp .quo t (u32v x) (.int .u32 2)).run Tryz.prog w = .ok (u32v (x >>> 1)) w := run_quo t x w 1 2 rfl
theorem run_quo8 (w : World) : (binOp .quo t (u32v x) (.int .u32 256)).run Tryz.prog w = .ok (u32v (x >>> 8)) w := run_quo t x w 8 256 rfl
theorem run_quo16 (w : World) : (binOp .quo t (u32v x) (.int .u32 65536)).run Tryz.prog w = .ok (u32v (x >>> 16)) w := run_quo t x w 16 65536 rfl
theorem run_quo24 (w : World) : (binOp .quo t (u32v x) (.int .u32 16777216)).run Tryz.prog w = .ok (u32v (x >>> 24)) w := run_quo t x w 24 16777216 rfl
theorem run_rem256 (w : World) : (binOp .rem t (u32v x) (.int .u32 256)).run Tryz.prog w = .ok (u32v (x % 256#32)) w := run_rem t x w 256 (by omega) (by omega)
theorem low8_mod : low8 (x % 256#32) = low8 x := by
  unfold low8
  have : (x % 256#32).setWidth 8 = x.setWidth 8 := by
    apply BitVec.eq_of_toNat_eq
    rw [BitVec.toNat_setWidth, BitVec.toNat_setWidth, BitVec.toNat_umod]
    simp
  rw [this]
theorem run_rem2 (w : World) : (binOp .rem t (u32v x) (.int .u32 2)).run Tryz.prog w = .ok (.int .u32 (if x.getLsbD 0 then 1 else 0)) w := by
  have h := run_rem t x w 2 (by omega) (by omega)
  have e : u32v (x % BitVec.ofNat 32 2) = .int .u32 (if x.getLsbD 0 then 1 else 0) := by
    unfold u32v
    rw [BitVec.toNat_umod]
    have h1 : x.getLsbD 0 = decide (x.toNat % 2 = 1) := by
      rw [BitVec.getLsbD, Nat.testBit_zero]
    rw [h1]
    have h2 : (BitVec.ofNat 32 2).toNat = 2 := rfl
    rw [h2]
    rcases Nat.mod_two_eq_zero_or_one x.toNat with h3 | h3 <;> simp [h3]
  rw [e] at h
  exact h
end
section
attribute [local go_sem] u32v_xor u32v_xorC u32v_xorF u32v_conv run_quo2
set_option maxHeartbeats 400000 in
theorem roctet_any (r : Reg) (c : UInt8) (w : World) : Calls Tryz.prog 70 #[u32v r, u8v c] w fun e w' => e = .returned (u32v (step1 r c)) ∧ w = w' := by
  have h1 : step1 r c = halfN 8 (r ^^^ oct c) := rfl
  rw [h1]
  generalize hq : r ^^^ oct c = q
  replace hq := hide hq
  go_enter Tryz.func70, Tryz.ntmps70
  go_wp2
  rw [unhide hq]
  go_loop [0, 10] (fun s i => ∃ k : Nat, k ≤ 8 ∧ i = .int .i64 k ∧ s = u32v (halfN k q)) (fun _ i => 8 - (intOf i).toNat)
  case atStart => exact ⟨0, by omega, rfl, rfl⟩
  case round =>
    obtain ⟨k, hk, rfl, rfl⟩ := hrel
    by_cases hlt : k < 8
    · have hh : halfN (k + 1) q = half1 (halfN k q) := rfl
      rw [half1_if] at hh
      have hr := fun W => run_rem2 22 (halfN k q) W
      generalize halfN k q = s at *
      cases hb : s.getLsbD 0 with
      | true =>
        rw [hb] at hh hr
        simp only [if_true] at hh hr
        replace hh := hide hh
        clear hb
        go_wp2
        go_round
        case rel => exact ⟨k + 1, by omega, by go_num, by rw [unhide hh]⟩
        case measure => simp [intOf]; omega
      | false =>
        rw [hb] at hh hr
        simp only [Bool.false_eq_true, if_false, BitVec.xor_zero] at hh hr
        replace hh := hide hh
        clear hb
        go_wp2
        go_round
        case rel => exact ⟨k + 1, by omega, by go_num, by rw [unhide hh]⟩
        case measure => simp [intOf]; omega
    · obtain rfl : k = 8 := by omega
      go_wp2
      go_ret
      exact ⟨rfl, rfl⟩
set_option maxHeartbeats 400000 in
theorem rstep_any (lo hi : Nat) (v : Value) (l : List UInt8) (r : Reg) (w : World) (h : Bs lo hi w v l) :
    Calls Tryz.prog 40 #[u32v r, v] w fun e w' => e = .returned (u32v (stepR r l)) ∧ w = w' := by
  obtain ⟨A, c, rfl, h1, h2, h3⟩ := h
  go_enter Tryz.func40, Tryz.ntmps40
  go_wp2
  go_loop [0, 9] (fun s i => ∃ k : Nat, k ≤ l.length ∧ i = .int .i64 k ∧ s = u32v (stepR r (l.take k))) (fun _ i => l.length - (intOf i).toNat)
  case atStart => exact ⟨0, by omega, rfl, rfl⟩
  case round =>
    obtain ⟨k, hk, rfl, rfl⟩ := hrel
    by_cases hlt : k < l.length
    · obtain ⟨b, off, rfl, _, _, hc0⟩ := h3 (by omega)
      have hc := hc0 k hlt
      have hs : stepR r (l.take (k + 1)) = step1 (stepR r (l.take k)) l[k] := by rw [take_snoc hlt, stepR_snoc]
      replace hs := hide hs
      clear h3 hc0
      generalize stepR r (l.take k) = s at *
      generalize l[k] = o at *
      go_wp2_with (go_at_call 70; refine (roctet_any _ _ _).mono ?_; rintro e w' ⟨rfl, rfl⟩)
      go_round
      case rel => exact ⟨k + 1, by omega, by go_num, by rw [unhide hs]⟩
      case measure => simp [intOf]; omega
    · obtain rfl : k = l.length := by omega
      go_wp2
      go_ret
      exact ⟨rfl, rfl⟩
theorem rsum_any (lo hi : Nat) (v : Value) (l : List UInt8) (w : World) (h : Bs lo hi w v l) :
    Calls Tryz.prog 22 #[v] w fun e w' => e = .returned (u32v (sumR l)) ∧ w = w' := by
  have hs : Calls Tryz.prog 40 #[.int .u32 4294967295, v] w fun e w' => e = .returned (u32v (stepR 4294967295#32 l)) ∧ w = w' := rstep_any lo hi v l 4294967295#32 w h
  obtain ⟨A, c, rfl, h1, h2, h3⟩ := h
  replace hs := hide hs
  clear h3
  go_enter Tryz.func22, Tryz.ntmps22
  go_wp2_with (go_at_call 40; refine (unhide hs).mono ?_; rintro e w' ⟨rfl, rfl⟩)
  go_ret
  exact ⟨rfl, rfl⟩
end
section
attribute [local go_sem] run_quo8 run_quo16 run_quo24 run_rem256 low8_conv low8_mod
set_option maxHeartbeats 400000 in
theorem four_any (s : Reg) (w : World) :
    Calls Tryz.prog 68 #[u32v s] w fun e w' => ∃ g, e = .returned (.slice (some ⟨g, 0, none⟩) 4 4) ∧ Bs 0 w'.heap.size w' (.slice (some ⟨g, 0, none⟩) 4 4) (octs s) ∧ Below w.heap.size w w' := by
  go_enter Tryz.func68, Tryz.ntmps68
  go_wp2
  go_ret
  exact ⟨_, rfl, octs_bs (Blk.new rfl) 0 (Nat.zero_le _), by (repeat (first | with_reducible exact Below.refl _ _ | with_reducible assumption | with_reducible refine Below.drew ?_ | with_reducible refine bl_alloc ?_ _ | with_reducible refine bl_call ?_ (by assumption) | (focus (with_reducible refine Below.setCell ?_ ?_ _; rotate_left; focus (first | omega | (simp <;> omega)))) | fail))⟩
end
end Go.Proofs.YthkccpemgmpadaaGreatDoor.C

namespace Go.Proofs.YthkccpemgmpadaaGreatDoor.C
set_option maxRecDepth 100000
open Go.RowKit
set_option maxHeartbeats 1000000 in
theorem rseal_any (lo : Nat) (v : Value) (l : List UInt8) (w : World) (h : Bs lo w.heap.size w v l) (hL : l.length ≤ 900000) :
    Calls Tryz.prog 35 #[v] w fun e w' => ∃ A c, e = .returned (.slice A (l.length + 4) c) ∧ w'.ownsRow w.heap.size 5 1 (.slice A (l.length + 4) c) (l.length + 4) ((sealL l).map u8v) ∧ Below w.heap.size w w' := by
  obtain ⟨i0, hi0, hz0, hz1, hz2⟩ := info_parts info5
  have hsum := fun W (hb : Below w.heap.size w W) => rsum_any lo w.heap.size v l W (h.below hb (Nat.le_refl _))
  obtain ⟨A, c, rfl, h1, h2, hx0⟩ := id h
  have hsrc := h.src.2
  have hl1 : (l.map u8v).length = l.length * 1 := by simp
  have hl2 : ((octs (sumR l)).map u8v).length = 4 * 1 := by simp [octs]
  have ho1 := u8s_one l
  have ho2 := u8s_one (octs (sumR l))
  have b1 : 0 + l.length ≤ maxLen := by simp only [maxLen]; omega
  have b2 : (0 + l.length) * 1 ≤ 140737488355328 := by omega
  have b3 : l.length + 4 ≤ maxLen := by simp only [maxLen]; omega
  have b4 : (l.length + 4) * 1 ≤ 140737488355328 := by omega
  have hs : sealL l = l ++ octs (sumR l) := rfl
  replace hsum := hide hsum; replace hl1 := hide hl1; replace hl2 := hide hl2; replace ho1 := hide ho1; replace ho2 := hide ho2; replace b1 := hide b1; replace b2 := hide b2; replace b3 := hide b3; replace b4 := hide b4
  replace hs := hide hs; replace hsrc := hide hsrc
  clear h hx0
  generalize l.length = n at *
  generalize hxs : l.map u8v = xs at *
  replace hxs := hide hxs
  have tok1 : True := trivial
  have tok2 : True := trivial
  go_enter Tryz.func35, Tryz.ntmps35
  go_wp2_with (first
    | (at_builtin
       have _t := tok1
       refine wpList_app _ rfl (.const (.slice none 0 0)) (.tmp 3) 29 rfl w.heap.size 5 i0 _ 1 1 Tryz.underlying29 hi0 hz0 hz1 hz2 rfl (Nat.succ_pos _) _ 0 [] rfl (World.ownsRow_nil _ _ _ _) A n c xs rfl (unhide hl1) (unhide hsrc) (unhide ho1) (unhide b1) (unhide b2) (Nat.le_refl _) ?_
       intro v1 w1 hown1 hg1
       have hb1 : Below w.heap.size w w1 := (Below.refl _ _).grown hg1 (Nat.le_refl _) (by intro k hk; simp [Act.eval, Value.ownBlock] at hk)
       rw [Nat.zero_add, List.nil_append] at hown1
       obtain ⟨A1, c1, rfl⟩ := ownsRow_form hown1
       replace hown1 := hide hown1
       clear tok1 _t)
    | (go_at_call 22; refine (unhide hsum _ (by assumption)).mono ?_; rintro e w2 ⟨rfl, rfl⟩)
    | (go_at_call 68; refine (four_any _ _).mono ?_; rintro e w3 ⟨g, rfl, hbs, hb3⟩; have hbw3 := bl_call hb1 hb3; have hown3 := own_below (unhide hown1) hb3 (Nat.le_refl _); have hsrc2 := hbs.src.2; have hsz3 := hbw3.size; replace hown3 := hide hown3; replace hsrc2 := hide hsrc2; replace hbs := hide hbs; replace hsz3 := hide hsz3)
    | (at_builtin
       have _t := tok2
       refine wpList_app _ rfl (.tmp 4) (.tmp 7) 29 rfl w.heap.size 5 i0 _ 1 1 Tryz.underlying29 hi0 hz0 hz1 hz2 rfl (Nat.succ_pos _) _ n xs rfl (unhide hown3) (some ⟨g, 0, none⟩) 4 4 _ rfl (unhide hl2) (unhide hsrc2) (unhide ho2) (unhide b3) (unhide b4) (unhide hsz3) ?_
       intro v4 w4 hown4 hg4
       have hb4 := bl_grown hbw3 hg4 (own_base (unhide hown3))
       rw [← unhide hxs, ← List.map_append, ← unhide hs] at hown4
       obtain ⟨A4, c4, rfl⟩ := ownsRow_form hown4
       replace hown4 := hide hown4
       clear tok2 _t)
    | fail)
  go_ret
  exact ⟨A4, c4, rfl, unhide hown4, hb4⟩
end Go.Proofs.YthkccpemgmpadaaGreatDoor.C

namespace Go.Proofs.YthkccpemgmpadaaGreatDoor.C
set_option maxRecDepth 100000
open Go.RowKit
theorem ropen_short (A : Option Addr) (n c : Nat) (w : World) (h : n < 4) :
    Calls Tryz.prog 24 #[.slice A n c] w fun e w' => e = .returned (.tuple #[.slice none 0 0, .int .i64 2]) ∧ w = w' := by
  have h' : (n : Int) < 4 := by omega
  go_enter Tryz.func24, Tryz.ntmps24
  go_wp2
  go_ret2
  exact ⟨rfl, rfl⟩
theorem okO_whole {l : List UInt8} {m : Nat} (h : l.length = m + 4) : (sealL (l.take m) = l) ↔ okO l m = true := by
  rw [okO_iff h]
  unfold sealL
  constructor
  · intro he
    have hlen : (l.take m).length = m := by simp; omega
    conv => lhs; rw [← he]
    rw [List.drop_left' hlen]
  · intro he
    rw [← he, List.take_append_drop]
set_option maxHeartbeats 2000000 in
theorem ropen_any (lo m : Nat) (v : Value) (l : List UInt8) (w : World) (h : Bs lo w.heap.size w v l) (hm : l.length = m + 4) (hL : m ≤ 900000) :
    Calls Tryz.prog 24 #[v] w fun e w' => ∃ A c er, e = .returned (.tuple #[.slice A (if okO l m then m else 0) c, .int .i64 er]) ∧ er = (if okO l m then 0 else 7) ∧
      w'.ownsRow w.heap.size 5 1 (.slice A (if okO l m then m else 0) c) (if okO l m then m else 0) ((l.take (if okO l m then m else 0)).map u8v) ∧ Below w.heap.size w w' := by
  obtain ⟨i0, hi0, hz0, hz1, hz2⟩ := info_parts info5
  obtain ⟨A, c, rfl, h1, h2, h3⟩ := h.openN hm
  obtain ⟨b, off, rfl, q1, q2, _⟩ := h3 m (by omega)
  have hlen : (l.take m).length = m := by simp; omega
  have hT : Bs lo w.heap.size w (.slice (some ⟨b, off, none⟩) m c) (l.take m) := by
    refine ⟨_, c, by rw [hlen], by omega, h2, fun _ => ⟨b, off, rfl, q1, q2, fun i hi => ?_⟩⟩
    obtain ⟨_, _, e, _, _, ci⟩ := h3 i (by omega)
    cases e
    rw [ci]
    have hi' : i < m := by omega
    simp [List.getD_eq_getElem?_getD, show i < l.length by omega]
  have hseal := fun W (hb : Below w.heap.size w W) => rseal_any lo _ _ W ((hT.below hb (Nat.le_refl _)).mono (Nat.le_refl _) hb.size) (by omega)
  rw [hlen] at hseal
  have hconv := fun W (hb : Below w.heap.size w W) => (h.below hb (Nat.le_refl _)).convert
  have hs : ((strU (sealL (l.take m))).toList == (strU l).toList) = okO l m := by
    have e1 : (strU (sealL (l.take m))).toList = _ := strU_toList _
    have e2 : (strU l).toList = _ := strU_toList l
    rw [e1, e2, Bool.eq_iff_iff, beq_iff_eq, okO_whole hm]
  have hcv := h.convert
  have hcd := hconv w.drew (Below.drew (Below.refl _ _))
  have hsrcT := hT.src.2
  have hx1 : ((l.take m).map u8v).length = m * 1 := by rw [List.length_map, hlen, Nat.mul_one]
  have hx2 := u8s_one (l.take m)
  have hb1 : 0 + m ≤ maxLen := by simp only [maxLen]; omega
  have hb2 : (0 + m) * 1 ≤ 140737488355328 := by omega
  have i1 : ¬ ((m : Int) + 4 < 4) := by omega
  have hc4 : m + 4 ≤ c := h1
  have sl1 := slice_h b off (m + 4) c m (by omega)
  have wm : IntKind.i64.wrap (m : Int) = (m : Int) := IntWalk.i64_in _ (by omega)
  replace hseal := hide hseal; replace hconv := hide hconv; replace h3 := hide h3; replace hx1 := hide hx1; replace hx2 := hide hx2; replace hb1 := hide hb1; replace hb2 := hide hb2; replace hsrcT := hide hsrcT
  clear h hT hm hlen
  cases hO : okO l m with
  | false =>
    rw [hO] at hs
    replace hO := hide hO
    go_enter Tryz.func24, Tryz.ntmps24
    go_wp2_with fail
    go_region_with (first
        | (go_at_call 35; refine (unhide hseal _ (Below.drew (Below.refl _ _))).mono ?_; rintro e w1 ⟨A1, c1, rfl, hown1, hbb1⟩; have cv := (Bs.own hown1).convert; have hbw1 := (Below.drew (Below.refl w.heap.size w)).trans hbb1; have cw := unhide hconv _ hbw1; replace hown1 := hide hown1))
    all_goals
      go_wp2_with fail
      go_ret2
      exact ⟨none, 0, 7, rfl, rfl, World.ownsRow_nil _ _ _ _, hbw1⟩
  | true =>
    rw [hO] at hs
    replace hO := hide hO
    go_enter Tryz.func24, Tryz.ntmps24
    go_wp2_with fail
    go_region_with (first
        | (go_at_call 35; refine (unhide hseal _ (Below.drew (Below.refl _ _))).mono ?_; rintro e w1 ⟨A1, c1, rfl, hown1, hbb1⟩; have cv := (Bs.own hown1).convert; have hbw1 := (Below.drew (Below.refl w.heap.size w)).trans hbb1; have cw := unhide hconv _ hbw1; replace hown1 := hide hown1))
    all_goals
      have hsz1 := hbw1.size
      have hsT := SrcOk.below (unhide hsrcT) hbw1
      replace hsT := hide hsT; replace hsz1 := hide hsz1
      clear cv cw hcv hcd
      go_wp2_with (first
        | (at_builtin
           refine wpList_app _ rfl (.const (.slice none 0 0)) (.tmp 19) 29 rfl w.heap.size 5 i0 _ 1 1 Tryz.underlying29 hi0 hz0 hz1 hz2 rfl (Nat.succ_pos _) _ 0 [] rfl (World.ownsRow_nil _ _ _ _) (some ⟨b, off, none⟩) m c _ rfl (unhide hx1) (unhide hsT) (unhide hx2) (unhide hb1) (unhide hb2) (unhide hsz1) ?_
           intro v2 w2 hown2 hg2
           have hbw2 : Below w.heap.size w w2 := hbw1.grown hg2 (unhide hsz1) (by intro k hk; simp [Act.eval, Value.ownBlock] at hk)
           rw [Nat.zero_add, List.nil_append] at hown2
           obtain ⟨A2, c2, rfl⟩ := ownsRow_form hown2
           replace hown2 := hide hown2))
      go_ret2
      exact ⟨A2, c2, 0, rfl, rfl, by simpa using unhide hown2, hbw2⟩
end Go.Proofs.YthkccpemgmpadaaGreatDoor.C
