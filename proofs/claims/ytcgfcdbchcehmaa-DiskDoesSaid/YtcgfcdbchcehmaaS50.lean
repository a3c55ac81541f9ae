import Derived.Test.YtcgfcdbchcehmaaW25
namespace Go.Proofs.Ytcgfcdbchcehmaa
open Go.RowKit

deriving instance DecidableEq for Pg
deriving instance DecidableEq for Dk

theorem Pg.eq {p q : Pg} (h1 : p.at_ = q.at_) (h2 : p.b = q.b) : p = q := by cases p; cases q; simp_all
theorem Dk.eq {p q : Dk} (h1 : p.dry = q.dry) (h2 : p.wet = q.wet) (h3 : p.left = q.left) : p = q := by cases p; cases q; simp_all
/-- Are two disks the same? -/
def sameD (a b : Dk) : Bool := decide (a = b)
theorem sameD_parts (a b : Dk) : sameD a b = (decide (a.left = b.left) && decide (a.dry = b.dry) && decide (a.wet = b.wet)) := by
  unfold sameD
  rw [Bool.eq_iff_iff]
  simp only [Bool.and_eq_true, decide_eq_true_eq]
  constructor
  · rintro rfl; exact ⟨⟨rfl, rfl⟩, rfl⟩
  · rintro ⟨⟨h1, h2⟩, h3⟩; exact Dk.eq h2 h3 h1

set_option maxHeartbeats 1000000 in
theorem samePage_any (lo lo' : Nat) (v1 v2 : Value) (p q : Pg) (w : World) (h1 : Bs lo w.heap.size w v1 p.b) (h2 : Bs lo' w.heap.size w v2 q.b) :
    Calls Try.prog 46 #[.agg #[.int .i64 p.at_, v1], .agg #[.int .i64 q.at_, v2]] w fun e w' => e = .returned (.bool (decide (p = q))) ∧ Below w.heap.size w w' := by
  have hb := fun W (hB : Below w.heap.size w W) => bequal_any _ _ _ _ v1 v2 p.b q.b W (h1.below hB (Nat.le_refl _)) (h2.below hB (Nat.le_refl _))
  obtain ⟨A, c, rfl, _⟩ := h1
  obtain ⟨A', c', rfl, _⟩ := h2
  by_cases ha : p.at_ = q.at_
  · have hq : decide (p = q) = decide (p.b = q.b) := by
      rw [Bool.eq_iff_iff]; simp only [decide_eq_true_eq]
      exact ⟨fun h => by rw [h], fun h => Pg.eq ha h⟩
    replace hb := hide hb; replace hq := hide hq
    go_enter Try.func46, Try.ntmps46
    go_wp2_with (first | (go_at_call 44; refine (unhide hb _ (by (repeat (first | with_reducible exact Below.refl _ _ | with_reducible assumption | with_reducible refine Below.drew ?_ | with_reducible refine bl_alloc ?_ _ | with_reducible refine bl_call ?_ (by assumption) | (focus (with_reducible refine Below.setCell ?_ ?_ _; rotate_left; focus (first | omega | (simp <;> omega)))) | fail)))).mono ?_; rintro e w' ⟨rfl, rfl⟩) | fail)
    go_ret
    exact ⟨ret_b rfl (unhide hq).symm, by (repeat (first | with_reducible exact Below.refl _ _ | with_reducible assumption | with_reducible refine Below.drew ?_ | with_reducible refine bl_alloc ?_ _ | with_reducible refine bl_call ?_ (by assumption) | (focus (with_reducible refine Below.setCell ?_ ?_ _; rotate_left; focus (first | omega | (simp <;> omega)))) | fail))⟩
  · have hq : decide (p = q) = false := decide_eq_false fun h => ha (by rw [h])
    clear hb
    replace hq := hide hq
    go_enter Try.func46, Try.ntmps46
    go_wp2_with fail
    go_ret
    exact ⟨ret_b rfl (unhide hq).symm, by (repeat (first | with_reducible exact Below.refl _ _ | with_reducible assumption | with_reducible refine Below.drew ?_ | with_reducible refine bl_alloc ?_ _ | with_reducible refine bl_call ?_ (by assumption) | (focus (with_reducible refine Below.setCell ?_ ?_ _; rotate_left; focus (first | omega | (simp <;> omega)))) | fail))⟩

set_option maxHeartbeats 2000000 in
theorem equalFunc_any (lo lo' : Nat) (v1 v2 : Value) (ps qs : List Pg) (w : World) (h1 : Pgs lo w.heap.size w v1 ps) (h2 : Pgs lo' w.heap.size w v2 qs) :
    Calls Try.prog 45 #[v1, v2, .func (.func 46) #[] #[]] w fun e w' => e = .returned (.bool (decide (ps = qs))) ∧ Below w.heap.size w w' := by
  obtain ⟨A, c, rfl, hlc, hc, hA, hcell⟩ := h1
  obtain ⟨A', c', rfl, hlc', hc', hA', hcell'⟩ := h2
  by_cases hl : ps.length = qs.length
  · obtain ⟨n, hn⟩ : ∃ n, n = ps.length := ⟨_, rfl⟩
    have hn' : n = qs.length := by omega
    rw [← hn] at hlc ⊢
    rw [← hn'] at hlc' ⊢
    have hL : n ≤ 9223372036854775807 := by omega
    replace hA := hide hA; replace hcell := hide hcell; replace hA' := hide hA'; replace hcell' := hide hcell'; replace hn := hide hn; replace hn' := hide hn'; replace hl := hide hl
    go_enter Try.func45, Try.ntmps45
    go_wp2_with fail
    go_loopw [17] (fun i wr => ∃ k : Nat, k ≤ n ∧ i = .int .i64 k ∧ Hid (∀ j, (h : j < ps.length) → (h' : j < qs.length) → j < k → ps[j] = qs[j]) ∧ Hid (Below w.heap.size w wr)) (fun i _ => n - (intOf i).toNat)
    case atStart => exact ⟨0, by omega, rfl, hide (fun j _ _ h => absurd h (Nat.not_lt_zero _)), hide (by (repeat (first | with_reducible exact Below.refl _ _ | with_reducible assumption | with_reducible refine Below.drew ?_ | with_reducible refine bl_alloc ?_ _ | with_reducible refine bl_call ?_ (by assumption) | (focus (with_reducible refine Below.setCell ?_ ?_ _; rotate_left; focus (first | omega | (simp <;> omega)))) | fail)))⟩
    case round =>
      obtain ⟨k, hk, rfl, hs, hb⟩ := hrel
      by_cases hlt : k < n
      · have hlt1 : k < ps.length := by rw [← unhide hn]; exact hlt
        have hlt2 : k < qs.length := by rw [← unhide hn']; exact hlt
        obtain ⟨b, off, rfl, q1, q2⟩ := unhide hA (by omega)
        obtain ⟨b', off', rfl, q1', q2'⟩ := unhide hA' (by omega)
        obtain ⟨cs, hcs, hcc, bv, rfl, hbv⟩ := unhide hcell b off rfl k hlt1
        obtain ⟨cs', hcs', hcc', bv', rfl, hbv'⟩ := unhide hcell' b' off' rfl k hlt2
        have c0 := ((unhide hb).cell (p := ⟨b, off + k * 2 + 0, none⟩) q2).trans (hcc 0 (by simp))
        have c1 := ((unhide hb).cell (p := ⟨b, off + k * 2 + 1, none⟩) q2).trans (hcc 1 (by simp))
        have d0 := ((unhide hb).cell (p := ⟨b', off' + k * 2 + 0, none⟩) q2').trans (hcc' 0 (by simp))
        have d1 := ((unhide hb).cell (p := ⟨b', off' + k * 2 + 1, none⟩) q2').trans (hcc' 1 (by simp))
        simp only [List.getElem_cons_zero, List.getElem_cons_succ, Nat.add_zero] at c0 c1 d0 d1
        have hsp := fun W (hB : Below w.heap.size w W) => samePage_any _ _ bv bv' ps[k] qs[k] W ((hbv.below hB (Nat.le_refl _)).mono (Nat.le_refl _) hB.size) ((hbv'.below hB (Nat.le_refl _)).mono (Nat.le_refl _) hB.size)
        obtain ⟨Ab, cb, rfl, _⟩ := hbv
        obtain ⟨Ab', cb', rfl, _⟩ := hbv'
        have hab : Hid (ps[k] = qs[k] → ∀ j, (h : j < ps.length) → (h' : j < qs.length) → j < k + 1 → ps[j] = qs[j]) := hide fun e j h h' hj => by
          rcases Nat.lt_or_ge j k with h1 | h1
          · exact unhide hs j h h' h1
          · obtain rfl : j = k := by omega
            exact e
        have hne : Hid (¬ ps[k] = qs[k] → ¬ ps = qs) := hide fun e h => e (by subst h; rfl)
        generalize ps[k] = p at *
        generalize qs[k] = q at *
        have y1 : b < wr.heap.size := Nat.lt_of_lt_of_le q2 (unhide hb).size
        have y2 : b' < wr.heap.size := Nat.lt_of_lt_of_le q2' (unhide hb).size
        have i3 : IntKind.i64.wrap ((k : Int) + 1) = (k : Int) + 1 := IntWalk.i64_in _ (by omega)
        have hb0 := unhide hb
        obtain ⟨E, hE⟩ : ∃ E, E = decide (p = q) := ⟨_, rfl⟩
        rw [← hE] at hsp
        replace hsp := hide hsp
        clear hcc hcc' hcs hcs'
        cases E with
        | true =>
          have he : p = q := of_decide_eq_true hE.symm
          replace he := hide he
          clear hE
          go_wp2_with (first | (go_at_call 46; refine (unhide hsp _ (by (repeat (first | with_reducible exact Below.refl _ _ | with_reducible assumption | with_reducible refine Below.drew ?_ | with_reducible refine bl_alloc ?_ _ | with_reducible refine bl_call ?_ (by assumption) | (focus (with_reducible refine Below.setCell ?_ ?_ _; rotate_left; focus (first | omega | (simp <;> omega)))) | fail)))).mono ?_; rintro e w1 ⟨rfl, hb1⟩; have HB1 : Below w.heap.size w w1 := bl_call (by (repeat (first | with_reducible exact Below.refl _ _ | with_reducible assumption | with_reducible refine Below.drew ?_ | with_reducible refine bl_alloc ?_ _ | with_reducible refine bl_call ?_ (by assumption) | (focus (with_reducible refine Below.setCell ?_ ?_ _; rotate_left; focus (first | omega | (simp <;> omega)))) | fail))) hb1) | fail)
          clear i3
          go_roundw
          case rel => exact ⟨k + 1, by omega, by go_num, hide (unhide hab (unhide he)), hide HB1⟩
          case measure => simp [intOf]; omega
        | false =>
          have he : ¬ p = q := of_decide_eq_false hE.symm
          replace he := hide he
          clear hE
          go_wp2_with (first | (go_at_call 46; refine (unhide hsp _ (by (repeat (first | with_reducible exact Below.refl _ _ | with_reducible assumption | with_reducible refine Below.drew ?_ | with_reducible refine bl_alloc ?_ _ | with_reducible refine bl_call ?_ (by assumption) | (focus (with_reducible refine Below.setCell ?_ ?_ _; rotate_left; focus (first | omega | (simp <;> omega)))) | fail)))).mono ?_; rintro e w1 ⟨rfl, hb1⟩; have HB1 : Below w.heap.size w w1 := bl_call (by (repeat (first | with_reducible exact Below.refl _ _ | with_reducible assumption | with_reducible refine Below.drew ?_ | with_reducible refine bl_alloc ?_ _ | with_reducible refine bl_call ?_ (by assumption) | (focus (with_reducible refine Below.setCell ?_ ?_ _; rotate_left; focus (first | omega | (simp <;> omega)))) | fail))) hb1) | fail)
          go_ret
          exact ⟨ret_b rfl (by rw [decide_eq_false (unhide hne (unhide he))]), HB1⟩
      · have he : Hid (ps = qs) := hide (List.ext_getElem (unhide hl) fun j h h' => unhide hs j h h' (by have := unhide hn; omega))
        have hb0 := unhide hb
        go_wp2_with fail
        go_ret
        exact ⟨ret_b rfl (by rw [decide_eq_true (unhide he)]), hb0⟩
  · have hne : Hid (¬ ps = qs) := hide fun h => hl (by rw [h])
    clear hcell hcell' hA hA'
    have hl2 : ¬ (ps.length : Int) = (qs.length : Int) := by omega
    go_enter Try.func45, Try.ntmps45
    go_wp2_with fail
    go_ret
    exact ⟨ret_b rfl (by rw [decide_eq_false (unhide hne)]), by (repeat (first | with_reducible exact Below.refl _ _ | with_reducible assumption | with_reducible refine Below.drew ?_ | with_reducible refine bl_alloc ?_ _ | with_reducible refine bl_call ?_ (by assumption) | (focus (with_reducible refine Below.setCell ?_ ?_ _; rotate_left; focus (first | omega | (simp <;> omega)))) | fail))⟩

set_option maxHeartbeats 1000000 in
theorem same_any (lo lo' : Nat) (v1 v2 : Value) (x y : Dk) (w : World) (h1 : Dsk lo w.heap.size w v1 x) (h2 : Dsk lo' w.heap.size w v2 y) :
    Calls Try.prog 26 #[v1, v2] w fun e w' => e = .returned (.bool (sameD x y)) ∧ Below w.heap.size w w' := by
  obtain ⟨a, b, rfl, ha, hb⟩ := h1
  obtain ⟨a', b', rfl, ha', hb'⟩ := h2
  have e1 := fun W (hB : Below w.heap.size w W) => bequal_any _ _ _ _ a a' x.dry y.dry W (ha.below hB (Nat.le_refl _)) (ha'.below hB (Nat.le_refl _))
  have e2 := fun W (hB : Below w.heap.size w W) => equalFunc_any lo lo' b b' x.wet y.wet W ((hb.below hB (Nat.le_refl _)).mono (Nat.le_refl _) hB.size) ((hb'.below hB (Nat.le_refl _)).mono (Nat.le_refl _) hB.size)
  have hq := sameD_parts x y
  obtain ⟨A1, c1, rfl, _⟩ := ha
  obtain ⟨A2, c2, rfl, _⟩ := ha'
  obtain ⟨A3, c3, rfl, _⟩ := hb
  obtain ⟨A4, c4, rfl, _⟩ := hb'
  by_cases hl : x.left = y.left
  · rw [decide_eq_true hl, Bool.true_and] at hq
    generalize decide (x.dry = y.dry) = D1 at *
    generalize decide (x.wet = y.wet) = D2 at *
    cases D1 with
    | true =>
      rw [Bool.true_and] at hq
      replace e1 := hide e1; replace e2 := hide e2; replace hq := hide hq
      go_enter Try.func26, Try.ntmps26
      go_wp2_with (first
        | (go_at_call 44; refine (unhide e1 _ (by (repeat (first | with_reducible exact Below.refl _ _ | with_reducible assumption | with_reducible refine Below.drew ?_ | with_reducible refine bl_alloc ?_ _ | with_reducible refine bl_call ?_ (by assumption) | (focus (with_reducible refine Below.setCell ?_ ?_ _; rotate_left; focus (first | omega | (simp <;> omega)))) | fail)))).mono ?_; rintro e w' ⟨rfl, rfl⟩)
        | (go_at_call 45; refine (unhide e2 _ (by (repeat (first | with_reducible exact Below.refl _ _ | with_reducible assumption | with_reducible refine Below.drew ?_ | with_reducible refine bl_alloc ?_ _ | with_reducible refine bl_call ?_ (by assumption) | (focus (with_reducible refine Below.setCell ?_ ?_ _; rotate_left; focus (first | omega | (simp <;> omega)))) | fail)))).mono ?_; rintro e w1 ⟨rfl, hb1⟩; have HB1 : Below w.heap.size w w1 := bl_call (by (repeat (first | with_reducible exact Below.refl _ _ | with_reducible assumption | with_reducible refine Below.drew ?_ | with_reducible refine bl_alloc ?_ _ | with_reducible refine bl_call ?_ (by assumption) | (focus (with_reducible refine Below.setCell ?_ ?_ _; rotate_left; focus (first | omega | (simp <;> omega)))) | fail))) hb1)
        | fail)
      go_ret
      exact ⟨ret_b rfl (unhide hq).symm, HB1⟩
    | false =>
      rw [Bool.false_and] at hq
      clear e2
      replace e1 := hide e1; replace hq := hide hq
      go_enter Try.func26, Try.ntmps26
      go_wp2_with (first
        | (go_at_call 44; refine (unhide e1 _ (by (repeat (first | with_reducible exact Below.refl _ _ | with_reducible assumption | with_reducible refine Below.drew ?_ | with_reducible refine bl_alloc ?_ _ | with_reducible refine bl_call ?_ (by assumption) | (focus (with_reducible refine Below.setCell ?_ ?_ _; rotate_left; focus (first | omega | (simp <;> omega)))) | fail)))).mono ?_; rintro e w' ⟨rfl, rfl⟩)
        | fail)
      go_ret
      exact ⟨ret_b rfl (unhide hq).symm, by (repeat (first | with_reducible exact Below.refl _ _ | with_reducible assumption | with_reducible refine Below.drew ?_ | with_reducible refine bl_alloc ?_ _ | with_reducible refine bl_call ?_ (by assumption) | (focus (with_reducible refine Below.setCell ?_ ?_ _; rotate_left; focus (first | omega | (simp <;> omega)))) | fail))⟩
  · rw [decide_eq_false hl, Bool.false_and, Bool.false_and] at hq
    clear e1 e2
    replace hq := hide hq
    go_enter Try.func26, Try.ntmps26
    go_wp2_with fail
    go_ret
    exact ⟨ret_b rfl (unhide hq).symm, by (repeat (first | with_reducible exact Below.refl _ _ | with_reducible assumption | with_reducible refine Below.drew ?_ | with_reducible refine bl_alloc ?_ _ | with_reducible refine bl_call ?_ (by assumption) | (focus (with_reducible refine Below.setCell ?_ ?_ _; rotate_left; focus (first | omega | (simp <;> omega)))) | fail))⟩
end Go.Proofs.Ytcgfcdbchcehmaa
