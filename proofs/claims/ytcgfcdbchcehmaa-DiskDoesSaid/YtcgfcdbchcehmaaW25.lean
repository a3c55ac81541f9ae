import Derived.Test.YtcgfcdbchcehmaaW10
namespace Go.Proofs.Ytcgfcdbchcehmaa
open Go.RowKit

set_option maxHeartbeats 400000 in
theorem bequal_any (lo hi lo' hi' : Nat) (v1 v2 : Value) (a b : List UInt8) (w : World) (h1 : Bs lo hi w v1 a) (h2 : Bs lo' hi' w v2 b) : Calls Try.prog 44 #[v1, v2] w fun e w' => e = .returned (.bool (decide (a = b))) ∧ w = w' := by
  have c1 := h1.convert
  have c2 := h2.convert
  clear h1 h2
  have hs : ((strU a).toList == (strU b).toList) = decide (a = b) := by
    have e1 : (strU a).toList = a := strU_toList a
    have e2 : (strU b).toList = b := strU_toList b
    rw [e1, e2, Bool.eq_iff_iff]; simp
  go_enter Try.func44, Try.ntmps44
  go_wp2
  go_ret
  exact ⟨rfl, rfl⟩

theorem bequal_true (lo hi lo' hi' : Nat) (v1 v2 : Value) (a : List UInt8) (w : World) (h1 : Bs lo hi w v1 a) (h2 : Bs lo' hi' w v2 a) : Calls Try.prog 44 #[v1, v2] w fun e w' => e = .returned (.bool true) ∧ w = w' := by
  have := bequal_any _ _ _ _ v1 v2 a a w h1 h2
  rwa [decide_eq_true rfl] at this

set_option maxHeartbeats 400000 in
theorem samePage_true (lo lo' : Nat) (v1 v2 : Value) (x : Int) (l : List UInt8) (w : World) (h1 : Bs lo w.heap.size w v1 l) (h2 : Bs lo' w.heap.size w v2 l) :
    Calls Try.prog 46 #[.agg #[.int .i64 x, v1], .agg #[.int .i64 x, v2]] w fun e w' => e = .returned (.bool true) ∧ Below w.heap.size w w' := by
  have hb := fun W (hB : Below w.heap.size w W) => bequal_true _ _ _ _ v1 v2 l W (h1.below hB (Nat.le_refl _)) (h2.below hB (Nat.le_refl _))
  obtain ⟨A, c, rfl, _⟩ := h1
  obtain ⟨A', c', rfl, _⟩ := h2
  replace hb := hide hb
  go_enter Try.func46, Try.ntmps46
  go_wp2_with (first | (go_at_call 44; refine (unhide hb _ (by (repeat (first | with_reducible exact Below.refl _ _ | with_reducible assumption | with_reducible refine Below.drew ?_ | with_reducible refine bl_alloc ?_ _ | with_reducible refine bl_call ?_ (by assumption) | (focus (with_reducible refine Below.setCell ?_ ?_ _; rotate_left; focus (first | omega | (simp <;> omega)))) | fail)))).mono ?_; rintro e w' ⟨rfl, rfl⟩) | fail)
  go_ret
  exact ⟨rfl, by (repeat (first | with_reducible exact Below.refl _ _ | with_reducible assumption | with_reducible refine Below.drew ?_ | with_reducible refine bl_alloc ?_ _ | with_reducible refine bl_call ?_ (by assumption) | (focus (with_reducible refine Below.setCell ?_ ?_ _; rotate_left; focus (first | omega | (simp <;> omega)))) | fail))⟩

set_option maxHeartbeats 2000000 in
theorem equalFunc_true (lo lo' : Nat) (v1 v2 : Value) (ps : List Pg) (w : World) (h1 : Pgs lo w.heap.size w v1 ps) (h2 : Pgs lo' w.heap.size w v2 ps) (hL : ps.length ≤ 1000000) :
    Calls Try.prog 45 #[v1, v2, .func (.func 46) #[] #[]] w fun e w' => e = .returned (.bool true) ∧ Below w.heap.size w w' := by
  obtain ⟨A, c, rfl, hlc, hc, hA, hcell⟩ := h1
  obtain ⟨A', c', rfl, hlc', hc', hA', hcell'⟩ := h2
  obtain ⟨n, hn⟩ : ∃ n, n = ps.length := ⟨_, rfl⟩
  rw [← hn] at hlc hlc' hL ⊢
  replace hA := hide hA; replace hcell := hide hcell; replace hA' := hide hA'; replace hcell' := hide hcell'; replace hn := hide hn
  go_enter Try.func45, Try.ntmps45
  go_wp2_with fail
  go_loopw [17] (fun i wr => ∃ k : Nat, k ≤ n ∧ i = .int .i64 k ∧ Hid (Below w.heap.size w wr)) (fun i _ => n - (intOf i).toNat)
  case atStart => exact ⟨0, by omega, rfl, hide (by (repeat (first | with_reducible exact Below.refl _ _ | with_reducible assumption | with_reducible refine Below.drew ?_ | with_reducible refine bl_alloc ?_ _ | with_reducible refine bl_call ?_ (by assumption) | (focus (with_reducible refine Below.setCell ?_ ?_ _; rotate_left; focus (first | omega | (simp <;> omega)))) | fail)))⟩
  case round =>
    obtain ⟨k, hk, rfl, hb⟩ := hrel
    by_cases hlt : k < n
    · have hlt' : k < ps.length := by rw [← unhide hn]; exact hlt
      obtain ⟨b, off, rfl, q1, q2⟩ := unhide hA (by omega)
      obtain ⟨b', off', rfl, q1', q2'⟩ := unhide hA' (by omega)
      obtain ⟨cs, hcs, hcc, bv, rfl, hbv⟩ := unhide hcell b off rfl k hlt'
      obtain ⟨cs', hcs', hcc', bv', rfl, hbv'⟩ := unhide hcell' b' off' rfl k hlt'
      have c0 := ((unhide hb).cell (p := ⟨b, off + k * 2 + 0, none⟩) q2).trans (hcc 0 (by simp))
      have c1 := ((unhide hb).cell (p := ⟨b, off + k * 2 + 1, none⟩) q2).trans (hcc 1 (by simp))
      have d0 := ((unhide hb).cell (p := ⟨b', off' + k * 2 + 0, none⟩) q2').trans (hcc' 0 (by simp))
      have d1 := ((unhide hb).cell (p := ⟨b', off' + k * 2 + 1, none⟩) q2').trans (hcc' 1 (by simp))
      simp only [List.getElem_cons_zero, List.getElem_cons_succ, Nat.add_zero] at c0 c1 d0 d1
      have hsp := fun W (hB : Below w.heap.size w W) => samePage_true _ _ bv bv' ps[k].at_ ps[k].b W ((hbv.below hB (Nat.le_refl _)).mono (Nat.le_refl _) hB.size) ((hbv'.below hB (Nat.le_refl _)).mono (Nat.le_refl _) hB.size)
      obtain ⟨Ab, cb, rfl, _⟩ := hbv
      obtain ⟨Ab', cb', rfl, _⟩ := hbv'
      generalize ps[k] = p at *
      have y1 : b < wr.heap.size := Nat.lt_of_lt_of_le q2 (unhide hb).size
      have y2 : b' < wr.heap.size := Nat.lt_of_lt_of_le q2' (unhide hb).size
      have hb0 := unhide hb
      replace hsp := hide hsp
      clear hcc hcc' hcs hcs'
      go_wp2_with (first | (go_at_call 46; refine (unhide hsp _ (by (repeat (first | with_reducible exact Below.refl _ _ | with_reducible assumption | with_reducible refine Below.drew ?_ | with_reducible refine bl_alloc ?_ _ | with_reducible refine bl_call ?_ (by assumption) | (focus (with_reducible refine Below.setCell ?_ ?_ _; rotate_left; focus (first | omega | (simp <;> omega)))) | fail)))).mono ?_; rintro e w1 ⟨rfl, hb1⟩; have HB1 : Below w.heap.size w w1 := bl_call (by (repeat (first | with_reducible exact Below.refl _ _ | with_reducible assumption | with_reducible refine Below.drew ?_ | with_reducible refine bl_alloc ?_ _ | with_reducible refine bl_call ?_ (by assumption) | (focus (with_reducible refine Below.setCell ?_ ?_ _; rotate_left; focus (first | omega | (simp <;> omega)))) | fail))) hb1) | fail)
      go_roundw
      case rel => exact ⟨k + 1, by omega, by go_num, hide HB1⟩
      case measure => simp [intOf]; omega
    · have hb0 := unhide hb
      go_wp2_with fail
      go_ret
      exact ⟨rfl, hb0⟩

set_option maxHeartbeats 1000000 in
theorem same_true (lo lo' : Nat) (v1 v2 : Value) (d : Dk) (w : World) (h1 : Dsk lo w.heap.size w v1 d) (h2 : Dsk lo' w.heap.size w v2 d) (hL : d.wet.length ≤ 1000000) :
    Calls Try.prog 26 #[v1, v2] w fun e w' => e = .returned (.bool true) ∧ Below w.heap.size w w' := by
  obtain ⟨a, b, rfl, ha, hb⟩ := h1
  obtain ⟨a', b', rfl, ha', hb'⟩ := h2
  have e1 := fun W (hB : Below w.heap.size w W) => bequal_true _ _ _ _ a a' d.dry W (ha.below hB (Nat.le_refl _)) (ha'.below hB (Nat.le_refl _))
  have e2 := fun W (hB : Below w.heap.size w W) => equalFunc_true lo lo' b b' d.wet W ((hb.below hB (Nat.le_refl _)).mono (Nat.le_refl _) hB.size) ((hb'.below hB (Nat.le_refl _)).mono (Nat.le_refl _) hB.size) hL
  obtain ⟨A1, c1, rfl, _⟩ := ha
  obtain ⟨A2, c2, rfl, _⟩ := ha'
  obtain ⟨A3, c3, rfl, _⟩ := hb
  obtain ⟨A4, c4, rfl, _⟩ := hb'
  replace e1 := hide e1; replace e2 := hide e2
  go_enter Try.func26, Try.ntmps26
  go_wp2_with (first
    | (go_at_call 44; refine (unhide e1 _ (by (repeat (first | with_reducible exact Below.refl _ _ | with_reducible assumption | with_reducible refine Below.drew ?_ | with_reducible refine bl_alloc ?_ _ | with_reducible refine bl_call ?_ (by assumption) | (focus (with_reducible refine Below.setCell ?_ ?_ _; rotate_left; focus (first | omega | (simp <;> omega)))) | fail)))).mono ?_; rintro e w' ⟨rfl, rfl⟩)
    | (go_at_call 45; refine (unhide e2 _ (by (repeat (first | with_reducible exact Below.refl _ _ | with_reducible assumption | with_reducible refine Below.drew ?_ | with_reducible refine bl_alloc ?_ _ | with_reducible refine bl_call ?_ (by assumption) | (focus (with_reducible refine Below.setCell ?_ ?_ _; rotate_left; focus (first | omega | (simp <;> omega)))) | fail)))).mono ?_; rintro e w1 ⟨rfl, hb1⟩; have HB1 : Below w.heap.size w w1 := bl_call (by (repeat (first | with_reducible exact Below.refl _ _ | with_reducible assumption | with_reducible refine Below.drew ?_ | with_reducible refine bl_alloc ?_ _ | with_reducible refine bl_call ?_ (by assumption) | (focus (with_reducible refine Below.setCell ?_ ?_ _; rotate_left; focus (first | omega | (simp <;> omega)))) | fail))) hb1)
    | fail)
  go_ret
  exact ⟨rfl, HB1⟩
end Go.Proofs.Ytcgfcdbchcehmaa
