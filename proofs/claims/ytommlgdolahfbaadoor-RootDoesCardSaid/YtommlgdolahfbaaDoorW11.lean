import Derived.Test.YtommlgdolahfbaaDoorW6
import Derived.Test.YtommlgdolahfbaaDoorW2
namespace Go.Proofs.YtommlgdolahfbaaDoor
set_option maxRecDepth 100000
open Go.RowKit

/-- Are a disk's pages short? -/
def shortB (ps : List Pg) : Bool := ps.all fun p => decide (p.b.length ≤ 100)
/-- Is a disk small enough to be played? -/
def fewB (d : Dk) : Bool := shortB d.wet && (decide (d.dry.length ≤ 4000) || (decide (262144 < d.dry.length) && decide (d.dry.length ≤ 262176))) && decide (d.wet.length ≤ 60)

set_option maxHeartbeats 1000000 in
theorem few_any (lo : Nat) (v : Value) (d : Dk) (w : World) (h : Dsk lo w.heap.size w v d) : Calls Tryd.prog 9 #[v] w fun e w' => e = .returned (.bool (fewB d)) ∧ Below w.heap.size w w' := by
  obtain ⟨va, vb, rfl, ha, hb⟩ := h
  obtain ⟨A1, c1, rfl, hl1, hl2, hl3⟩ := ha
  clear hl3
  obtain ⟨A, c, rfl, hlc, hc, hA, hcell⟩ := hb
  replace hA := hide hA; replace hcell := hide hcell
  go_enter Tryd.func9, Tryd.ntmps9
  go_wp2
  go_loopw [8] (fun i wr => ∃ k : Nat, k ≤ d.wet.length ∧ i = .int .i64 k ∧ shortB d.wet = shortB (d.wet.drop k) ∧ Below w.heap.size w wr ∧ Hid (Blk wr w.heap.size 31 #[.slice A1 d.dry.length c1, .slice A d.wet.length c, .int .i64 d.left])) (fun i _ => d.wet.length - (intOf i).toNat)
  case atStart => exact ⟨0, Nat.zero_le _, rfl, by simp, by (repeat (first | with_reducible exact Below.refl _ _ | with_reducible assumption | with_reducible refine Below.drew ?_ | with_reducible refine bl_alloc ?_ _ | with_reducible refine bl_call ?_ (by assumption) | (focus (with_reducible refine Below.setCell ?_ ?_ _; rotate_left; focus (first | omega | (simp <;> omega)))) | fail)), Blk.new rfl⟩
  case round =>
    obtain ⟨k, hk, rfl, hw, hb, q⟩ := hrel
    by_cases hlt : k < d.wet.length
    · obtain ⟨b, off, rfl, hb1, hb2⟩ := (unhide hA) (by omega)
      obtain ⟨cs, hcs, hcc, bv, rfl, hbv⟩ := (unhide hcell) b off rfl k hlt
      have c0 := (hb.cell (p := ⟨b, off + k * 2 + 0, none⟩) hb2).trans (hcc 0 (by simp))
      have c1' := (hb.cell (p := ⟨b, off + k * 2 + 1, none⟩) hb2).trans (hcc 1 (by simp))
      obtain ⟨A2, c2, rfl, x1, x2, x3⟩ := hbv
      simp only [List.getElem_cons_zero, List.getElem_cons_succ, Nat.add_zero] at c0 c1'
      have hd : d.wet.drop k = d.wet[k] :: d.wet.drop (k + 1) := List.drop_eq_getElem_cons hlt
      replace hw := hide hw; replace hd := hide hd
      have lq := (unhide q).lt
      clear hcc hcs x3
      have hpl : d.wet[k].b.length ≤ 9223372036854775807 := by omega
      by_cases h100 : d.wet[k].b.length ≤ 100
      · have hi : ¬ (100 : Int) < (d.wet[k].b.length : Int) := by omega
        go_wp2_with fail
        go_roundw
        case rel =>
          refine ⟨k + 1, by omega, by go_num, ?_, by (repeat (first | with_reducible exact Below.refl _ _ | with_reducible assumption | with_reducible refine Below.drew ?_ | with_reducible refine bl_alloc ?_ _ | with_reducible refine bl_call ?_ (by assumption) | (focus (with_reducible refine Below.setCell ?_ ?_ _; rotate_left; focus (first | omega | (simp <;> omega)))) | fail)), hide ((unhide q).alloc _)⟩
          rw [unhide hw, unhide hd]
          unfold shortB
          rw [List.all_cons, decide_eq_true h100, Bool.true_and]
        case measure => simp [intOf]; omega
      · have hi : (100 : Int) < (d.wet[k].b.length : Int) := by omega
        go_wp2_with fail
        go_ret
        refine ⟨ret_b rfl ?_, by (repeat (first | with_reducible exact Below.refl _ _ | with_reducible assumption | with_reducible refine Below.drew ?_ | with_reducible refine bl_alloc ?_ _ | with_reducible refine bl_call ?_ (by assumption) | (focus (with_reducible refine Below.setCell ?_ ?_ _; rotate_left; focus (first | omega | (simp <;> omega)))) | fail))⟩
        unfold fewB
        rw [unhide hw, unhide hd]
        unfold shortB
        rw [List.all_cons, decide_eq_false h100]
        rfl
    · have hs : shortB d.wet = true := by rw [hw, List.drop_of_length_le (by omega)]; rfl
      have g0 := (unhide q).cell 0
      have g1 := (unhide q).cell 1
      simp at g0 g1
      clear hw
      have hf : fewB d = ((decide (d.dry.length ≤ 4000) || (decide (262144 < d.dry.length) && decide (d.dry.length ≤ 262176))) && decide (d.wet.length ≤ 60)) := by simp [fewB, hs]
      replace hf := hide hf; replace hs := hide hs
      have hn : d.dry.length ≤ 9223372036854775807 := by omega
      generalize d.dry.length = N at *
      go_wp2_with fail
      all_goals go_ret
      all_goals refine ⟨ret_b rfl ?_, by (repeat (first | with_reducible exact Below.refl _ _ | with_reducible assumption | with_reducible refine Below.drew ?_ | with_reducible refine bl_alloc ?_ _ | with_reducible refine bl_call ?_ (by assumption) | (focus (with_reducible refine Below.setCell ?_ ?_ _; rotate_left; focus (first | omega | (simp <;> omega)))) | fail))⟩
      all_goals (rw [unhide hf, Bool.eq_iff_iff]; simp; try omega)

end Go.Proofs.YtommlgdolahfbaaDoor
