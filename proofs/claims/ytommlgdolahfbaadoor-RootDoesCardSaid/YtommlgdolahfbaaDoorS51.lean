import Derived.Test.YtommlgdolahfbaaDoorS50
namespace Go.Proofs.YtommlgdolahfbaaDoor
set_option maxRecDepth 100000
open Go.RowKit

theorem blDrewN {B : Nat} {a w : World} (h : Below B a w) (n : Nat) : Below B a (w.drewN n) := ⟨h.os, h.tape, h.output, h.size, h.block⟩

set_option maxHeartbeats 8000000 in
theorem refsame_any (lo lo' : Nat) (v1 v2 : Value) (x y : Dk) (w : World) (h1 : Dsk lo w.heap.size w v1 x) (h2 : Dsk lo' w.heap.size w v2 y) :
    Calls Tryd.prog 20 #[v1, v2] w fun e w' => e = .returned (.bool (sameD x y)) ∧ Below w.heap.size w w' := by
  have hq := sameD_parts x y
  obtain ⟨x1, x2, x3⟩ := x
  obtain ⟨y1, y2, y3⟩ := y
  simp only [] at hq
  obtain ⟨va, vb, rfl, ha, hb⟩ := h1
  obtain ⟨va', vb', rfl, ha', hb'⟩ := h2
  simp only [] at ha ha' hb hb' ⊢
  have hsb : ∀ W, Below w.heap.size w W → Calls Tryd.prog 19 #[va, va'] W fun e w' => e = .returned (.bool (decide (x1 = y1))) ∧ W = w' :=
    fun W hB => sameb_any _ _ _ _ va va' x1 y1 W (ha.below hB (Nat.le_refl _)) (ha'.below hB (Nat.le_refl _))
  obtain ⟨A1, c1, rfl, zz1⟩ := ha
  obtain ⟨A2, c2, rfl, zz2⟩ := ha'
  clear zz1 zz2
  obtain ⟨A, c, rfl, hlc, hc, hA, hcell⟩ := hb
  obtain ⟨A', c', rfl, hlc', hc', hA', hcell'⟩ := hb'
  generalize x1.length = N1 at *
  generalize y1.length = N2 at *
  by_cases hd : x1 = y1
  · rw [decide_eq_true hd] at hsb hq
    by_cases hl : x2.length = y2.length
    · by_cases hf : x3 = y3
      · rw [decide_eq_true hf, Bool.true_and, Bool.true_and] at hq
        subst hf
        obtain ⟨n, hn⟩ : ∃ n, n = x2.length := ⟨_, rfl⟩
        have hn' : n = y2.length := by omega
        rw [← hn] at hlc ⊢
        rw [← hn'] at hlc' ⊢
        have hL : n ≤ 9223372036854775807 := by omega
        replace hA := hide hA; replace hcell := hide hcell; replace hA' := hide hA'; replace hcell' := hide hcell'; replace hn := hide hn; replace hn' := hide hn'; replace hl := hide hl; replace hsb := hide hsb; replace hq := hide hq
        clear hd
        go_enter Tryd.func20, Tryd.ntmps20
        go_wp2_with (first
          | (go_at_call 19; refine (unhide hsb _ (by (repeat (first | with_reducible exact Below.refl _ _ | with_reducible assumption | with_reducible refine Below.drew ?_ | with_reducible refine bl_alloc ?_ _ | with_reducible refine bl_call ?_ (by assumption) | (focus (with_reducible refine Below.setCell ?_ ?_ _; rotate_left; focus (first | omega | (simp <;> omega)))) | fail)))).mono ?_; rintro e w1 ⟨rfl, rfl⟩)
          | fail)
        go_loopw [31] (fun i wr => ∃ k : Nat, k ≤ n ∧ i = .int .i64 k ∧ Hid (∀ j, (h : j < x2.length) → (h' : j < y2.length) → j < k → x2[j] = y2[j]) ∧ Hid (Blk wr w.heap.size 31 #[.slice A1 N1 c1, .slice A n c, .int .i64 x3]) ∧ Hid (Blk wr (w.heap.size + 1) 31 #[.slice A2 N2 c2, .slice A' n c', .int .i64 x3]) ∧ Hid (Below w.heap.size w wr)) (fun i _ => n - (intOf i).toNat)
        case atStart => exact ⟨0, by omega, rfl, hide (fun j _ _ h => absurd h (Nat.not_lt_zero _)), (Blk.new rfl).alloc _, Blk.new (by simp), (by (repeat (first | with_reducible exact Below.refl _ _ | with_reducible assumption | with_reducible refine Below.drew ?_ | with_reducible refine bl_alloc ?_ _ | with_reducible refine bl_call ?_ (by assumption) | (focus (with_reducible refine Below.setCell ?_ ?_ _; rotate_left; focus (first | omega | (simp <;> omega)))) | fail)) : Below _ _ _)⟩
        case round =>
          obtain ⟨k, hk, rfl, hs, k1, k2, hbl⟩ := hrel
          have x0 : wr.cell? ⟨w.heap.size, 0, none⟩ = some (.slice A1 N1 c1) := ((unhide k1).cell 0).trans rfl
          have x1 : wr.cell? ⟨w.heap.size, 1, none⟩ = some (.slice A n c) := ((unhide k1).cell 1).trans rfl
          have z0 : wr.cell? ⟨w.heap.size + 1, 0, none⟩ = some (.slice A2 N2 c2) := ((unhide k2).cell 0).trans rfl
          have z1 : wr.cell? ⟨w.heap.size + 1, 1, none⟩ = some (.slice A' n c') := ((unhide k2).cell 1).trans rfl
          have lk1 := (unhide k1).lt
          have lk2 := (unhide k2).lt
          by_cases hlt : k < n
          · have hlt1 : k < x2.length := by rw [← unhide hn]; exact hlt
            have hlt2 : k < y2.length := by rw [← unhide hn']; exact hlt
            obtain ⟨b, off, rfl, q1, q2⟩ := unhide hA (by omega)
            obtain ⟨b', off', rfl, q1', q2'⟩ := unhide hA' (by omega)
            obtain ⟨cs, hcs, hcc, bv, rfl, hbv⟩ := unhide hcell b off rfl k hlt1
            obtain ⟨cs', hcs', hcc', bv', rfl, hbv'⟩ := unhide hcell' b' off' rfl k hlt2
            have c0 := ((unhide hbl).cell (p := ⟨b, off + k * 2 + 0, none⟩) q2).trans (hcc 0 (by simp))
            have c1 := ((unhide hbl).cell (p := ⟨b, off + k * 2 + 1, none⟩) q2).trans (hcc 1 (by simp))
            have d0 := ((unhide hbl).cell (p := ⟨b', off' + k * 2 + 0, none⟩) q2').trans (hcc' 0 (by simp))
            have d1 := ((unhide hbl).cell (p := ⟨b', off' + k * 2 + 1, none⟩) q2').trans (hcc' 1 (by simp))
            simp only [List.getElem_cons_zero, List.getElem_cons_succ, Nat.add_zero] at c0 c1 d0 d1
            have hsp : ∀ W, Below w.heap.size w W → Calls Tryd.prog 19 #[bv, bv'] W fun e w' => e = .returned (.bool (decide (x2[k].b = y2[k].b))) ∧ W = w' :=
              fun W hB => sameb_any _ _ _ _ bv bv' x2[k].b y2[k].b W (hbv.below hB (Nat.le_refl _)) (hbv'.below hB (Nat.le_refl _))
            obtain ⟨Ab, cb, rfl, zz1⟩ := hbv
            obtain ⟨Ab', cb', rfl, zz2⟩ := hbv'
            clear zz1 zz2
            have hab : Hid (x2[k] = y2[k] → ∀ j, (h : j < x2.length) → (h' : j < y2.length) → j < k + 1 → x2[j] = y2[j]) := hide fun e j h h' hj => by
              rcases Nat.lt_or_ge j k with h1 | h1
              · exact unhide hs j h h' h1
              · obtain rfl : j = k := by omega
                exact e
            have hne : Hid (¬ x2[k] = y2[k] → ¬ x2 = y2) := hide fun e h => e (by subst h; rfl)
            generalize x2[k] = p at *
            generalize y2[k] = q at *
            generalize p.b.length = pl at *
            generalize q.b.length = ql at *
            have i1 : (0 : Int) ≤ (k : Int) := by omega
            have i3 : (k : Int) < (n : Int) := by omega
            have i4 : IntKind.i64.wrap ((k : Int) + 1) = (k : Int) + 1 := IntWalk.i64_in _ (by omega)
            have hb0 := unhide hbl; have k1' := unhide k1; have k2' := unhide k2
            have lb1 : b < wr.heap.size := World.block_lt_of_cell? wr _ c0
            have lb2 : b' < wr.heap.size := World.block_lt_of_cell? wr _ d0
            clear hcc hcc' hcs hcs'
            by_cases hat : p.at_ = q.at_
            · obtain ⟨E, hE⟩ : ∃ E, E = decide (p.b = q.b) := ⟨_, rfl⟩
              rw [← hE] at hsp
              have hE' : (E = true → p = q) ∧ (E = false → ¬ p = q) := ⟨fun h => Pg.eq hat (of_decide_eq_true (hE.symm.trans h)), fun h e => of_decide_eq_false (hE.symm.trans h) (by rw [e])⟩
              replace hsp := hide hsp; replace hE' := hide hE'
              clear hE
              rw [← hat] at d0
              clear hat
              generalize p.at_ = pa at *
              go_wp2_with fail
              go_region_held3 (fun W => W.cell? ⟨w.heap.size, 1, none⟩ = some (.slice (some ⟨b, off, none⟩) n c) ∧ W.cell? ⟨w.heap.size + 1, 1, none⟩ = some (.slice (some ⟨b', off', none⟩) n c') ∧ W.cell? ⟨b, off + k * 2, none⟩ = some (.int .i64 pa) ∧ W.cell? ⟨b, off + k * 2 + 1, none⟩ = some (.slice Ab pl cb) ∧ W.cell? ⟨b', off' + k * 2, none⟩ = some (.int .i64 pa) ∧ W.cell? ⟨b', off' + k * 2 + 1, none⟩ = some (.slice Ab' ql cb')) (first | exact ⟨by go_simp, by go_simp, by go_simp, by go_simp, by go_simp, by go_simp⟩)
                (first
                  | (go_at_call 19; refine (unhide hsp _ (by (repeat (first | with_reducible exact Below.refl _ _ | with_reducible assumption | with_reducible refine Below.drew ?_ | with_reducible refine bl_alloc ?_ _ | with_reducible refine bl_call ?_ (by assumption) | (focus (with_reducible refine Below.setCell ?_ ?_ _; rotate_left; focus (first | omega | (simp <;> omega)))) | fail)))).mono ?_; rintro e w4 ⟨rfl, rfl⟩))
              cases E with
              | true =>
                have he := (unhide hE').1 rfl
                replace he := hide he
                go_wp2_with fail
                clear i4
                go_roundw
                case rel => exact ⟨k + 1, by omega, by go_num, hide (unhide hab (unhide he)), (by (repeat (first | with_reducible assumption | (focus (with_reducible refine Blk.new ?_; focus (simp <;> fail))) | with_reducible refine Blk.set3 (a := .slice none 0 0) (b := .slice none 0 0) (c := .int .i64 0) ?_ | with_reducible refine Blk.alloc ?_ _ | with_reducible refine Blk.drew ?_ | (focus (with_reducible refine Blk.far ?_ ?_ _; rotate_left; focus (first | omega | (simp <;> omega)))) | (focus (with_reducible refine Blk.below ?_ hb1 ?_; rotate_left; focus (first | omega | (simp <;> omega)))) | fail)) : Blk _ _ _ _), (by (repeat (first | with_reducible assumption | (focus (with_reducible refine Blk.new ?_; focus (simp <;> fail))) | with_reducible refine Blk.set3 (a := .slice none 0 0) (b := .slice none 0 0) (c := .int .i64 0) ?_ | with_reducible refine Blk.alloc ?_ _ | with_reducible refine Blk.drew ?_ | (focus (with_reducible refine Blk.far ?_ ?_ _; rotate_left; focus (first | omega | (simp <;> omega)))) | (focus (with_reducible refine Blk.below ?_ hb1 ?_; rotate_left; focus (first | omega | (simp <;> omega)))) | fail)) : Blk _ _ _ _), (by (repeat (first | with_reducible exact Below.refl _ _ | with_reducible assumption | with_reducible refine Below.drew ?_ | with_reducible refine bl_alloc ?_ _ | with_reducible refine bl_call ?_ (by assumption) | (focus (with_reducible refine Below.setCell ?_ ?_ _; rotate_left; focus (first | omega | (simp <;> omega)))) | fail)) : Below _ _ _)⟩
                case measure => simp [intOf]; omega
              | false =>
                have he := (unhide hE').2 rfl
                replace he := hide he
                go_wp2_with fail
                go_ret
                exact ⟨ret_b rfl (by rw [unhide hq, decide_eq_false (unhide hne (unhide he))]), (by (repeat (first | with_reducible exact Below.refl _ _ | with_reducible assumption | with_reducible refine Below.drew ?_ | with_reducible refine bl_alloc ?_ _ | with_reducible refine bl_call ?_ (by assumption) | (focus (with_reducible refine Below.setCell ?_ ?_ _; rotate_left; focus (first | omega | (simp <;> omega)))) | fail)))⟩
            · have he : ¬ p = q := fun h => hat (by rw [h])
              have hatb : (p.at_ != q.at_) = true := by simpa using hat
              replace he := hide he
              clear hsp hat
              generalize p.at_ = pa at *
              generalize q.at_ = qa at *
              go_wp2_with fail
              go_quiet (fail)
              go_wp2_with fail
              go_ret
              exact ⟨ret_b rfl (by rw [unhide hq, decide_eq_false (unhide hne (unhide he))]), blDrewN hb0 _⟩
          · have he : Hid (x2 = y2) := hide (List.ext_getElem (unhide hl) fun j h h' => unhide hs j h h' (by have := unhide hn; omega))
            have hb0 := unhide hbl
            go_wp2_with fail
            go_ret
            exact ⟨ret_b rfl (by rw [unhide hq, decide_eq_true (unhide he)]), hb0⟩
      · rw [decide_eq_false hf, Bool.false_and, Bool.false_and] at hq
        have hl2 : (x2.length : Int) = (y2.length : Int) := by omega
        clear hA hcell hA' hcell' hd hl
        generalize x2.length = n2 at *
        generalize y2.length = n3 at *
        replace hsb := hide hsb; replace hq := hide hq
        go_enter Tryd.func20, Tryd.ntmps20
        go_wp2_with (first
          | (go_at_call 19; refine (unhide hsb _ (by (repeat (first | with_reducible exact Below.refl _ _ | with_reducible assumption | with_reducible refine Below.drew ?_ | with_reducible refine bl_alloc ?_ _ | with_reducible refine bl_call ?_ (by assumption) | (focus (with_reducible refine Below.setCell ?_ ?_ _; rotate_left; focus (first | omega | (simp <;> omega)))) | fail)))).mono ?_; rintro e w1 ⟨rfl, rfl⟩)
          | fail)
        go_ret
        exact ⟨ret_b rfl (unhide hq).symm, by (repeat (first | with_reducible exact Below.refl _ _ | with_reducible assumption | with_reducible refine Below.drew ?_ | with_reducible refine bl_alloc ?_ _ | with_reducible refine bl_call ?_ (by assumption) | (focus (with_reducible refine Below.setCell ?_ ?_ _; rotate_left; focus (first | omega | (simp <;> omega)))) | fail))⟩
    · have hq' : sameD ⟨x1, x2, x3⟩ ⟨y1, y2, y3⟩ = false := by rw [hq, decide_eq_false (fun h => hl (by rw [h]) : ¬ x2 = y2), Bool.and_false]
      have hl2 : ¬ (x2.length : Int) = (y2.length : Int) := by omega
      clear hA hcell hA' hcell' hd hq
      generalize x2.length = n2 at *
      generalize y2.length = n3 at *
      replace hsb := hide hsb; replace hq' := hide hq'
      clear hl
      go_enter Tryd.func20, Tryd.ntmps20
      go_wp2_with (first
        | (go_at_call 19; refine (unhide hsb _ (by (repeat (first | with_reducible exact Below.refl _ _ | with_reducible assumption | with_reducible refine Below.drew ?_ | with_reducible refine bl_alloc ?_ _ | with_reducible refine bl_call ?_ (by assumption) | (focus (with_reducible refine Below.setCell ?_ ?_ _; rotate_left; focus (first | omega | (simp <;> omega)))) | fail)))).mono ?_; rintro e w1 ⟨rfl, rfl⟩)
        | fail)
      go_ret
      exact ⟨ret_b rfl (unhide hq').symm, by (repeat (first | with_reducible exact Below.refl _ _ | with_reducible assumption | with_reducible refine Below.drew ?_ | with_reducible refine bl_alloc ?_ _ | with_reducible refine bl_call ?_ (by assumption) | (focus (with_reducible refine Below.setCell ?_ ?_ _; rotate_left; focus (first | omega | (simp <;> omega)))) | fail))⟩
  · have hq' : sameD ⟨x1, x2, x3⟩ ⟨y1, y2, y3⟩ = false := by rw [hq, decide_eq_false hd, Bool.and_false, Bool.false_and]
    rw [decide_eq_false hd] at hsb
    clear hA hcell hA' hcell' hq hd
    generalize x2.length = n2 at *
    generalize y2.length = n3 at *
    replace hsb := hide hsb; replace hq' := hide hq'
    go_enter Tryd.func20, Tryd.ntmps20
    go_wp2_with (first
      | (go_at_call 19; refine (unhide hsb _ (by (repeat (first | with_reducible exact Below.refl _ _ | with_reducible assumption | with_reducible refine Below.drew ?_ | with_reducible refine bl_alloc ?_ _ | with_reducible refine bl_call ?_ (by assumption) | (focus (with_reducible refine Below.setCell ?_ ?_ _; rotate_left; focus (first | omega | (simp <;> omega)))) | fail)))).mono ?_; rintro e w1 ⟨rfl, rfl⟩)
      | fail)
    go_ret
    exact ⟨ret_b rfl (unhide hq').symm, by (repeat (first | with_reducible exact Below.refl _ _ | with_reducible assumption | with_reducible refine Below.drew ?_ | with_reducible refine bl_alloc ?_ _ | with_reducible refine bl_call ?_ (by assumption) | (focus (with_reducible refine Below.setCell ?_ ?_ _; rotate_left; focus (first | omega | (simp <;> omega)))) | fail))⟩
end Go.Proofs.YtommlgdolahfbaaDoor
