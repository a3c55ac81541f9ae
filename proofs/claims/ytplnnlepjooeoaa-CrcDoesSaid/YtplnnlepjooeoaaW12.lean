import Derived.Test.YtplnnlepjooeoaaW11
import Derived.IntWalk
namespace Go.Proofs.Ytplnnlepjooeoaa
open Go.RowKit

theorem below_drewN {B : Nat} {a w : World} (h : Below B a w) (n : Nat) : Below B a (w.drewN n) := ⟨h.os, h.tape, h.output, h.size, h.block⟩

theorem open_short (A : Option Addr) (n c : Nat) (w : World) (h : n < 4) :
    Calls Try.prog 8 #[.slice A n c] w fun e w' => e = .returned (.tuple #[.slice none 0 0, .int .i64 2]) ∧ w = w' := by
  have h' : (n : Int) < 4 := by omega
  go_enter Try.func8, Try.ntmps8
  go_wp2
  go_ret2
  exact ⟨rfl, rfl⟩

theorem elem23 : Try.prog.underlying 23 = some (.slice (Try.prog.elem 23)) := by kernel_rfl
theorem size5e : ∀ W, (sizeOf (Try.prog.elem 23)).run Try.prog W = .ok 1 W := fun W => by kernel_rfl
theorem add_none' (b off i : Nat) : (⟨b, off, none⟩ : Addr).add i = ⟨b, off + i, none⟩ := by
  unfold Addr.add
  split
  · rename_i h; subst h; rfl
  · rfl
theorem slice_h (b off n c j : Nat) (hj : j ≤ c) (W : World) :
    (Instr.slice 23 (.slice (some ⟨b, off, none⟩) n c) none (some (.int .i64 (j : Int))) none).run Try.prog W = .ok (.slice (some ⟨b, off, none⟩) j c) W := by
  rw [run_slice_h (P := Try.prog) W 23 _ n c elem23 .i64 j (by omega) (by omega), size5e]
  simp only [Result.andThen, sliced, Int.toNat_natCast, Nat.sub_zero, Nat.zero_mul, Option.map_some, add_none', Nat.add_zero, ite_self]
theorem slice_l (b off n c i : Nat) (hi : i ≤ n) (hc : i < c) (W : World) :
    (Instr.slice 23 (.slice (some ⟨b, off, none⟩) n c) (some (.int .i64 (i : Int))) none none).run Try.prog W = .ok (.slice (some ⟨b, off + i, none⟩) (n - i) (c - i)) W := by
  rw [run_slice_l (P := Try.prog) W 23 _ n c elem23 .i64 i (by omega) (by omega), size5e]
  simp only [Result.andThen, sliced, Int.toNat_natCast, Nat.mul_one, Option.map_some, add_none', if_neg (show ¬ c = i by omega)]
section
attribute [local go_sem] eq_arr4 arr36
set_option maxHeartbeats 2000000 in
theorem open_any (lo m : Nat) (v : Value) (l : List UInt8) (w : World) (h : Bs lo w.heap.size w v l) (hm : l.length = m + 4) (hL : m ≤ 900000) :
    Calls Try.prog 8 #[v] w fun e w' => ∃ A c er, e = .returned (.tuple #[.slice A (if okO l m then m else 0) c, .int .i64 er]) ∧ er = (if okO l m then 0 else 7) ∧
      w'.ownsRow w.heap.size 5 1 (.slice A (if okO l m then m else 0) c) (if okO l m then m else 0) ((l.take (if okO l m then m else 0)).map u8v) ∧ Below w.heap.size w w' := by
  obtain ⟨A, c, rfl, h1, h2, h3⟩ := h.openN hm
  obtain ⟨b, off, rfl, q1, q2, c0⟩ := h3 m (by omega)
  obtain ⟨_, _, e, _, _, c1⟩ := h3 (m + 1) (by omega); cases e
  obtain ⟨_, _, e, _, _, c2⟩ := h3 (m + 2) (by omega); cases e
  obtain ⟨_, _, e, _, _, c3⟩ := h3 (m + 3) (by omega); cases e
  change w.cell? _ = some (.int .u8 (n8 _)) at c0
  change w.cell? _ = some (.int .u8 (n8 _)) at c1
  change w.cell? _ = some (.int .u8 (n8 _)) at c2
  change w.cell? _ = some (.int .u8 (n8 _)) at c3
  rw [← Nat.add_assoc] at c1 c2 c3
  have hT : Bs lo w.heap.size w (.slice (some ⟨b, off, none⟩) m c) (l.take m) := by
    have hlm : (l.take m).length = m := by simp; omega
    refine ⟨_, c, by rw [hlm], by omega, h2, fun _ => ⟨b, off, rfl, q1, q2, fun i hi => ?_⟩⟩
    obtain ⟨_, _, e, _, _, ci⟩ := h3 i (by omega)
    cases e
    rw [ci]
    have hi' : i < m := by omega
    simp [List.getD_eq_getElem?_getD, show i < l.length by omega]
  have hk : okO l m = same4 (n8 (l.getD m 0)) (n8 (l.getD (m + 1) 0)) (n8 (l.getD (m + 2) 0)) (n8 (l.getD (m + 3) 0)) (low8 (sumR (l.take m))) (low8 (sumR (l.take m) >>> 8)) (low8 (sumR (l.take m) >>> 16)) (low8 (sumR (l.take m) >>> 24)) := rfl
  have hlen : (l.take m).length = m := by simp; omega
  have hsum := sum_any lo w.heap.size _ _ w hT
  have hsum' := fun W (hb : Below w.heap.size w W) => sum_any lo w.heap.size _ _ W (hT.below hb (Nat.le_refl _))
  have hcl := fun W (hb : Below w.heap.size w W) => bclone lo _ _ W ((hT.below hb (Nat.le_refl _)).mono (Nat.le_refl _) hb.size) (by omega)
  rw [hlen] at hcl
  generalize l.getD m 0 = y0 at *
  generalize l.getD (m + 1) 0 = y1 at *
  generalize l.getD (m + 2) 0 = y2 at *
  generalize l.getD (m + 3) 0 = y3 at *
  generalize sumR (l.take m) = s at *
  have g36 := guard36
  have hoct := fun W => octets_any s W
  replace hk := hide hk; replace hsum' := hide hsum'; replace hcl := hide hcl; replace hoct := hide hoct; replace h3 := hide h3
  clear h hT hm hlen hsum
  have i1 : ¬ ((m : Int) + 4 < 4) := by omega
  have hc4 : m + 4 ≤ c := h1
  have sl1 := slice_h b off (m + 4) c m (by omega)
  have sl2 := slice_l b off (m + 4) c m (by omega) (by omega)
  rw [show m + 4 - m = 4 by omega] at sl2
  have wm : IntKind.i64.wrap (m : Int) = (m : Int) := IntWalk.i64_in _ (by omega)
  cases hO : okO l m with
  | false =>
    have hs4 := (unhide hk).symm.trans hO
    replace hO := hide hO
    go_enter Try.func8, Try.ntmps8
    go_wp2_with fail
    go_quiet (fail)
    go_wp2_with fail
    go_region_held3 (fun W => W.cell? ⟨b, off + m, none⟩ = some (.int .u8 (n8 y0)) ∧ W.cell? ⟨b, off + m + 1, none⟩ = some (.int .u8 (n8 y1)) ∧ W.cell? ⟨b, off + m + 2, none⟩ = some (.int .u8 (n8 y2)) ∧ W.cell? ⟨b, off + m + 3, none⟩ = some (.int .u8 (n8 y3)))
      (first | exact ⟨by go_simp, by go_simp, by go_simp, by go_simp⟩ | go_keep)
      (first
        | (go_at_call 13; refine (unhide hsum' _ (below_drewN (Below.refl _ _) _)).mono ?_; rintro e w1 ⟨rfl, rfl⟩)
        | (go_at_call 17; refine (unhide hoct _).mono ?_; rintro e w1 ⟨rfl, hb1⟩; unfold octsV; have t0 := hb1.cell (p := ⟨b, off + m, none⟩) (by simpa using q2); have t1 := hb1.cell (p := ⟨b, off + m + 1, none⟩) (by simpa using q2); have t2 := hb1.cell (p := ⟨b, off + m + 2, none⟩) (by simpa using q2); have t3 := hb1.cell (p := ⟨b, off + m + 3, none⟩) (by simpa using q2)))
    all_goals
      have hbb : Below w.heap.size w w1 := (below_drewN (Below.refl _ _) _).trans hb1
      go_wp2_with fail
      go_ret2
      exact ⟨none, 0, 7, rfl, rfl, World.ownsRow_nil _ _ _ _, by (repeat (first | with_reducible exact Below.refl _ _ | with_reducible assumption | with_reducible refine Below.drew ?_ | with_reducible refine bl_alloc ?_ _ | with_reducible refine bl_call ?_ (by assumption) | (focus (with_reducible refine Below.setCell ?_ ?_ _; rotate_left; focus (first | omega | (simp <;> omega)))) | fail))⟩
  | true =>
    have hs4 := (unhide hk).symm.trans hO
    replace hO := hide hO
    go_enter Try.func8, Try.ntmps8
    go_wp2_with fail
    go_quiet (fail)
    go_wp2_with fail
    go_region_held3 (fun W => W.cell? ⟨b, off + m, none⟩ = some (.int .u8 (n8 y0)) ∧ W.cell? ⟨b, off + m + 1, none⟩ = some (.int .u8 (n8 y1)) ∧ W.cell? ⟨b, off + m + 2, none⟩ = some (.int .u8 (n8 y2)) ∧ W.cell? ⟨b, off + m + 3, none⟩ = some (.int .u8 (n8 y3)))
      (first | exact ⟨by go_simp, by go_simp, by go_simp, by go_simp⟩ | go_keep)
      (first
        | (go_at_call 13; refine (unhide hsum' _ (below_drewN (Below.refl _ _) _)).mono ?_; rintro e w1 ⟨rfl, rfl⟩)
        | (go_at_call 17; refine (unhide hoct _).mono ?_; rintro e w1 ⟨rfl, hb1⟩; unfold octsV; have t0 := hb1.cell (p := ⟨b, off + m, none⟩) (by simpa using q2); have t1 := hb1.cell (p := ⟨b, off + m + 1, none⟩) (by simpa using q2); have t2 := hb1.cell (p := ⟨b, off + m + 2, none⟩) (by simpa using q2); have t3 := hb1.cell (p := ⟨b, off + m + 3, none⟩) (by simpa using q2)))
    all_goals
      have hbb : Below w.heap.size w w1 := (below_drewN (Below.refl _ _) _).trans hb1
      go_wp2_with (first | (go_at_call 18; refine (unhide hcl _ (by assumption)).mono ?_; rintro e w2 ⟨A2, c2, rfl, hown, hb2⟩; replace hown := hide hown))
      go_ret2
      exact ⟨A2, c2, 0, rfl, rfl, by simpa using ownsRow_mono (unhide hown) hbb.size, by (repeat (first | with_reducible exact Below.refl _ _ | with_reducible assumption | with_reducible refine Below.drew ?_ | with_reducible refine bl_alloc ?_ _ | with_reducible refine bl_call ?_ (by assumption) | (focus (with_reducible refine Below.setCell ?_ ?_ _; rotate_left; focus (first | omega | (simp <;> omega)))) | fail))⟩
end
end Go.Proofs.Ytplnnlepjooeoaa
