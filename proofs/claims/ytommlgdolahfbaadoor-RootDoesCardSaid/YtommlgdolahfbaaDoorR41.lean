import Derived.Test.YtommlgdolahfbaaDoorW9
import Derived.Test.YtommlgdolahfbaaDoorW10
import Derived.Test.YtommlgdolahfbaaDoorW12
namespace Go.Proofs.YtommlgdolahfbaaDoor
set_option maxRecDepth 100000
open Go.RowKit

/-- The number of the page before the j-th. -/
def prevAt (last : Int) (ps : List Pg) : Nat → Int
  | 0 => last
  | j + 1 => match ps[j]? with | some p => p.at_ | none => last
theorem wetFrom_iff (n last : Int) (ps : List Pg) : wetFrom n last ps = true ↔ ∀ j q, ps[j]? = some q → prevAt last ps j < q.at_ ∧ q.at_ < n ∧ q.b.length = 32 := by
  induction ps generalizing last with
  | nil => simp [wetFrom]
  | cons p ps ih =>
    simp only [wetFrom, Bool.and_eq_true, decide_eq_true_eq, ih]
    constructor
    · rintro ⟨h0, h⟩ j q hq
      cases j with
      | zero =>
        rw [List.getElem?_cons_zero] at hq
        injection hq with hq
        subst hq
        exact h0
      | succ j =>
        rw [List.getElem?_cons_succ] at hq
        have := h j q hq
        cases j with
        | zero => simpa [prevAt] using this
        | succ j =>
          have hlt : j < ps.length := by have := (List.getElem?_eq_some_iff.1 hq).1; omega
          have e : ps[j]? = some ps[j] := List.getElem?_eq_getElem hlt
          simp only [prevAt, List.getElem?_cons_succ, e] at this ⊢
          exact this
    · intro h
      refine ⟨h 0 p rfl, fun j q hq => ?_⟩
      have := h (j + 1) q (by rw [List.getElem?_cons_succ]; exact hq)
      cases j with
      | zero => simpa [prevAt] using this
      | succ j =>
        have hlt : j < ps.length := by have := (List.getElem?_eq_some_iff.1 hq).1; omega
        have e : ps[j]? = some ps[j] := List.getElem?_eq_getElem hlt
        simp only [prevAt, List.getElem?_cons_succ, e] at this ⊢
        exact this

theorem below_drewN {B : Nat} {a w : World} (h : Below B a w) (n : Nat) : Below B a (w.drewN n) := ⟨h.os, h.tape, h.output, h.size, h.block⟩

set_option maxRecDepth 100000 in
set_option maxHeartbeats 4000000 in
theorem refcheck_any (lo : Nat) (v : Value) (d : Dk) (w : World) (h : Dsk lo w.heap.size w v d) :
    Calls Tryd.prog 38 #[v] w fun e w' => e = .returned (.int .i64 (badE (okD d))) ∧ Below w.heap.size w w' := by
  obtain ⟨va, vb, rfl, ha, hb⟩ := h
  obtain ⟨A1, c1, rfl, ha1, ha2, _⟩ := ha
  obtain ⟨A, c, rfl, hlc, hc, hA, hcell⟩ := hb
  obtain ⟨n, hn⟩ : ∃ n, n = d.wet.length := ⟨_, rfl⟩
  obtain ⟨N, hN⟩ : ∃ N, N = d.dry.length := ⟨_, rfl⟩
  have hok : okD d = (decide (N % 32 = 0) && decide (1 ≤ N / 32) && decide (N / 32 ≤ 8192) && leftB d.left && wetFrom ((N / 32 : Nat) : Int) (-1) d.wet) := by rw [hN]; rfl
  rw [← hn] at hlc ⊢
  rw [← hN] at ha1 ⊢
  have hNm : N ≤ 9223372036854775807 := by omega
  replace hA := hide hA; replace hcell := hide hcell; replace hn := hide hn; replace hN := hide hN; replace hok := hide hok
  clear ha1 ha2
  have k1 : IntKind.i64.wrap (32 * ((N : Int) / 32)) = 32 * ((N : Int) / 32) := IntWalk.i64_in _ (by omega)
  go_enter Tryd.func38, Tryd.ntmps38
  go_upto_region 2 with fail
  generalize hS : (N : Int) / 32 = S at *
  replace hS := hide hS
  go_wp2_with fail
  all_goals first
    | (go_ret
       refine ⟨ret_i rfl ?_, by (repeat (first | with_reducible exact Below.refl _ _ | with_reducible assumption | with_reducible refine Below.drew ?_ | with_reducible refine bl_alloc ?_ _ | with_reducible refine bl_call ?_ (by assumption) | (focus (with_reducible refine Below.setCell ?_ ?_ _; rotate_left; focus (first | omega | (simp <;> omega)))) | fail))⟩
       cases hk : okD d
       · rfl
       · exfalso
         rw [unhide hok] at hk
         simp only [Bool.and_eq_true, decide_eq_true_eq, leftB] at hk
         have hS' := unhide hS
         omega)
    | skip
  have hok2 : okD d = wetFrom S (-1) d.wet := by
    have hS' := unhide hS
    have hSN : ((N / 32 : Nat) : Int) = S := by omega
    rw [unhide hok, hSN, decide_eq_true (by omega : N % 32 = 0), decide_eq_true (by omega : 1 ≤ N / 32), decide_eq_true (by omega : N / 32 ≤ 8192), show leftB d.left = true from by simp only [leftB, decide_eq_true_eq]; omega]
    simp
  replace hok2 := hide hok2
  go_loopw [37] (fun i wr => ∃ k : Nat, k ≤ n ∧ i = .int .i64 k ∧ Hid (wetFrom S (-1) d.wet = wetFrom S (prevAt (-1) d.wet k) (d.wet.drop k)) ∧ Hid (-1 ≤ prevAt (-1) d.wet k) ∧ Hid (Blk wr w.heap.size 31 #[.slice A1 N c1, .slice A n c, .int .i64 d.left]) ∧ Hid (Below w.heap.size w wr)) (fun i _ => n - (intOf i).toNat)
  case atStart => exact ⟨0, by omega, rfl, rfl, Int.le_refl _, Blk.new rfl, (by (repeat (first | with_reducible exact Below.refl _ _ | with_reducible assumption | with_reducible refine Below.drew ?_ | with_reducible refine bl_alloc ?_ _ | with_reducible refine bl_call ?_ (by assumption) | (focus (with_reducible refine Below.setCell ?_ ?_ _; rotate_left; focus (first | omega | (simp <;> omega)))) | fail)) : Below _ _ _)⟩
  case round =>
    obtain ⟨k, hk, rfl, hw, hpv, k0, hbl⟩ := hrel
    have x1 : wr.cell? ⟨w.heap.size, 1, none⟩ = some (.slice A n c) := ((unhide k0).cell 1).trans rfl
    by_cases hlt : k < n
    · have hlt' : k < d.wet.length := by rw [← unhide hn]; exact hlt
      obtain ⟨b, off, rfl, q1, q2⟩ := unhide hA (by omega)
      obtain ⟨cs, hcs, hcc, bv, rfl, hbv⟩ := unhide hcell b off rfl k hlt'
      have c0 := ((unhide hbl).cell (p := ⟨b, off + k * 2 + 0, none⟩) q2).trans (hcc 0 (by simp))
      have c1' := ((unhide hbl).cell (p := ⟨b, off + k * 2 + 1, none⟩) q2).trans (hcc 1 (by simp))
      simp only [List.getElem_cons_zero, List.getElem_cons_succ, Nat.add_zero] at c0 c1'
      obtain ⟨Ab, cb, rfl, _⟩ := hbv
      obtain ⟨p, hp⟩ : ∃ p, d.wet[k] = p := ⟨_, rfl⟩
      rw [hp] at c0 c1'
      have i1 : (0 : Int) ≤ (k : Int) := by omega
      have i3 : (k : Int) < (n : Int) := by omega
      have hb0 := unhide hbl; have l0 : w.heap.size < wr.heap.size := (unhide k0).lt
      have l1 : b < wr.heap.size := Nat.lt_of_lt_of_le q2 hb0.size
      replace hp := hide hp
      clear hcc hcs
      have hw2 : wetFrom S (prevAt (-1) d.wet k) (d.wet.drop k) = (decide (prevAt (-1) d.wet k < p.at_ ∧ p.at_ < S ∧ p.b.length = 32) && wetFrom S (prevAt (-1) d.wet (k + 1)) (d.wet.drop (k + 1))) := by
        rw [List.drop_eq_getElem_cons hlt', unhide hp, wetFrom]
        have : prevAt (-1) d.wet (k + 1) = p.at_ := by simp [prevAt, List.getElem?_eq_getElem hlt', unhide hp]
        rw [this]
      replace hw2 := hide hw2
      have hnx : prevAt (-1) d.wet (k + 1) = p.at_ := by simp [prevAt, List.getElem?_eq_getElem hlt', unhide hp]
      replace hnx := hide hnx
      cases a1 : decide (p.at_ < 0)
      · cases a2 : decide (S ≤ p.at_)
        · cases a3 : ((p.b.length : Int) != 32)
          · by_cases hk0 : k = 0
            · have hpv' : prevAt (-1) d.wet k = -1 := by rw [hk0]; rfl
              have a4 : decide (0 < k) = false := by rw [hk0]; rfl
              replace hpv' := hide hpv'; replace hk0 := hide hk0
              go_wp2_with fail
              go_quiet (fail)
              go_wp2_with fail
              go_roundw
              case rel =>
                refine ⟨k + 1, by omega, by go_num, ?_, ?_, ((unhide k0).alloc _).drewN _, (below_drewN (bl_alloc hb0 _) _ : Below _ _ _)⟩
                · show wetFrom S (-1) d.wet = _
                  rw [unhide hw, unhide hw2, decide_eq_true (by have := unhide hpv; (try have := unhide hpv'); simp only [decide_eq_false_iff_not, bne_eq_false_iff_eq] at *; omega)]
                  rfl
                · show -1 ≤ prevAt (-1) d.wet (k + 1)
                  rw [unhide hnx]; simp only [decide_eq_false_iff_not] at *; omega
              case measure => simp [intOf]; omega
            · obtain ⟨j, hj⟩ : ∃ j, k = j + 1 := ⟨k - 1, by omega⟩
              have hlt2 : j < d.wet.length := by omega
              obtain ⟨cs, hcs, hcc, bv, rfl, hbv⟩ := unhide hcell b off rfl j hlt2
              have e0 := ((unhide hbl).cell (p := ⟨b, off + j * 2 + 0, none⟩) q2).trans (hcc 0 (by simp))
              simp only [List.getElem_cons_zero, Nat.add_zero] at e0
              obtain ⟨pp, hpp⟩ : ∃ pp, d.wet[j] = pp := ⟨_, rfl⟩
              rw [hpp] at e0
              have hpv' : prevAt (-1) d.wet k = pp.at_ := by
                rw [hj]
                simp [prevAt, List.getElem?_eq_getElem hlt2, hpp]
              have a4 : decide (0 < k) = true := by simp; omega
              have i5 : IntKind.i64.wrap ((k : Int) - 1) = (j : Int) := by rw [IntWalk.i64_in _ (by omega)]; omega
              have i6 : (0 : Int) ≤ (j : Int) := by omega
              have i7 : (j : Int) < (n : Int) := by omega
              replace hj := hide hj
              replace hpv' := hide hpv'; replace hpp := hide hpp; replace hk0 := hide hk0
              clear hcc hcs hbv
              cases a5 : decide (p.at_ ≤ pp.at_)
              · go_wp2_with fail
                go_quiet (fail)
                go_wp2_with fail
                go_roundw
                case rel =>
                  refine ⟨k + 1, by omega, by go_num, ?_, ?_, ((unhide k0).alloc _).drewN _, (below_drewN (bl_alloc hb0 _) _ : Below _ _ _)⟩
                  · show wetFrom S (-1) d.wet = _
                    rw [unhide hw, unhide hw2, decide_eq_true (by have := unhide hpv; (try have := unhide hpv'); simp only [decide_eq_true_eq, decide_eq_false_iff_not, bne_eq_false_iff_eq] at *; omega)]
                    rfl
                  · show -1 ≤ prevAt (-1) d.wet (k + 1)
                    rw [unhide hnx]; simp only [decide_eq_false_iff_not] at *; omega
                case measure => simp [intOf]; omega
              · go_wp2_with fail
                go_quiet (fail)
                go_wp2_with fail
                go_ret
                refine ⟨ret_i rfl ?_, below_drewN (bl_alloc hb0 _) _⟩
                rw [unhide hok2, unhide hw, unhide hw2, decide_eq_false (by rintro ⟨y1, y2, y3⟩; have := unhide hpv; (try have := unhide hpv'); simp only [decide_eq_true_eq, decide_eq_false_iff_not] at *; omega)]
                rfl
          · go_wp2_with fail
            go_quiet (fail)
            go_wp2_with fail
            go_ret
            refine ⟨ret_i rfl ?_, below_drewN (bl_alloc hb0 _) _⟩
            rw [unhide hok2, unhide hw, unhide hw2, decide_eq_false (by rintro ⟨y1, y2, y3⟩; have := unhide hpv; (try have := unhide hpv'); simp only [decide_eq_false_iff_not, bne_iff_ne] at *; omega)]
            rfl
        · go_wp2_with fail
          go_quiet (fail)
          go_wp2_with fail
          go_ret
          refine ⟨ret_i rfl ?_, below_drewN (bl_alloc hb0 _) _⟩
          rw [unhide hok2, unhide hw, unhide hw2, decide_eq_false (by rintro ⟨y1, y2, y3⟩; have := unhide hpv; (try have := unhide hpv'); simp only [decide_eq_true_eq, decide_eq_false_iff_not] at *; omega)]
          rfl
      · go_wp2_with fail
        go_quiet (fail)
        go_wp2_with fail
        go_ret
        refine ⟨ret_i rfl ?_, below_drewN (bl_alloc hb0 _) _⟩
        rw [unhide hok2, unhide hw, unhide hw2, decide_eq_false (by rintro ⟨y1, y2, y3⟩; have := unhide hpv; (try have := unhide hpv'); simp only [decide_eq_true_eq] at *; omega)]
        rfl
    · have hb0 := unhide hbl
      go_wp2_with fail
      go_ret
      refine ⟨ret_i rfl ?_, hb0⟩
      rw [unhide hok2, unhide hw, List.drop_of_length_le (by rw [← unhide hn]; omega)]
      rfl
end Go.Proofs.YtommlgdolahfbaaDoor
