import Derived.Test.YteokimebfbnlkaaA5
import Derived.Test.YteokimebfbnlkaaW8
namespace Go.Proofs.Yteokimebfbnlkaa
open Go.RowKit

set_option maxRecDepth 100000 in
set_option maxHeartbeats 4000000 in
theorem refnew_any (m : Int) (w : World) :
    Calls Try.prog 18 #[.int .i64 m] w fun e w' => ∃ A c, ∃ y : Xs, e = .returned (.tuple #[.agg #[.int .i64 y.size, .slice A y.free.length c], .int .i64 (badE (decide (0 ≤ m) && decide (m ≤ 8192)))]) ∧
      y = (if 0 ≤ m ∧ m ≤ 8192 then ⟨m, runs (fun _ => true) m.toNat⟩ else ⟨0, []⟩) ∧ w'.ownsRow w.heap.size 26 2 (.slice A y.free.length c) y.free.length (y.free.flatMap exv) ∧ Below w.heap.size w w' := by
  by_cases hsz : 0 ≤ m ∧ m ≤ 8192
  · obtain ⟨n, rfl⟩ : ∃ n : Nat, m = n := ⟨m.toNat, by omega⟩
    have hn : n ≤ 8192 := by omega
    obtain ⟨i4, hi4, jz0, jz1, jz2⟩ := info_parts info4
    have hmk := run_mk (P := Try.prog) 61 4 i4 _ 1 Try.underlying61 hi4 jz0 jz1 n (by rw [jz2]; omega) (by omega)
    rw [made_bits] at hmk
    have hq : badE (decide (0 ≤ (n : Int)) && decide ((n : Int) ≤ 8192)) = 0 := by
      rw [show (decide (0 ≤ (n : Int)) && decide ((n : Int) ≤ 8192)) = true by simp; omega]; rfl
    rw [hq]
    clear hsz jz0 jz1 jz2 hi4
    replace hq := hide hq
    have d0 : ¬ (n : Int) < 0 := by omega
    have d1 : ¬ (8192 : Int) < (n : Int) := by omega
    go_enter Try.func18, Try.ntmps18
    go_wp2_with fail
    clear hmk
    obtain ⟨gO, hgO⟩ : ∃ gO, gO = w.heap.size + 1 := ⟨_, rfl⟩
    rw [← hgO]
    have M0 : Hid (Blk ((w.alloc (.cells #[.int .i64 0, .slice none 0 0] 24)).alloc (.cells (bitC n (freeB [])).toArray 4)) gO 4 (bitC n (fun t => decide (t < 0))).toArray) := hide (by rw [hgO, show bitC n (fun t => decide (t < 0)) = bitC n (freeB []) from bitC_congr fun t _ => by simp [freeB]]; exact Blk.new (by simp))
    have K0 : Hid (Blk ((w.alloc (.cells #[.int .i64 0, .slice none 0 0] 24)).alloc (.cells (bitC n (freeB [])).toArray 4)) w.heap.size 24 #[.int .i64 0, .slice none 0 0]) := hide ((Blk.new rfl).alloc _)
    have hgq : w.heap.size < gO := by omega
    replace hgO := hide hgO
    go_loopw [17] (fun i wx => ∃ (k : Nat), k ≤ n ∧ i = .int .i64 k ∧ Hid (Blk wx gO 4 (bitC n (fun t => decide (t < k))).toArray) ∧ Hid (Blk wx w.heap.size 24 #[.int .i64 0, .slice none 0 0]) ∧ Hid (Below w.heap.size w wx)) (fun i _ => n - (intOf i).toNat)
    case atStart => exact ⟨0, Nat.zero_le _, rfl, M0, K0, hide (by (repeat (first | with_reducible exact Below.refl _ _ | with_reducible assumption | with_reducible refine Below.drew ?_ | with_reducible refine bl_alloc ?_ _ | with_reducible refine bl_call ?_ (by assumption) | (focus (with_reducible refine Below.setCell ?_ ?_ _; rotate_left; focus (first | omega | (simp <;> omega)))) | fail)))⟩
    case round =>
      clear M0 K0
      obtain ⟨k, hk, rfl, M1, K1, MB⟩ := hrel
      generalize wr = wx at *
      have yO := (unhide M1).lt
      by_cases hlt : k < n
      · obtain ⟨b0, r2⟩ : ∃ b, wx.cell? ⟨gO, k, none⟩ = some (.bool b) := by
          refine ⟨decide (k < k), ?_⟩
          rw [(unhide M1).cell]
          simpa using bitC_get n (fun t => decide (t < k)) k hlt
        have r3 := (unhide M1).frozen k
        have i1 : IntKind.i64.wrap ((k : Int) + 1) = (k : Int) + 1 := IntWalk.i64_in _ (by omega)
        have i2 : (k : Int) < (n : Int) := by omega
        have i3 : (0 : Int) ≤ (k : Int) := by omega
        have I1' := (unhide M1).set k (.bool true)
        rw [List.setIfInBounds_toArray, bitC_set, show bitC n (fun u => if u = k then true else decide (u < k)) = bitC n (fun t => decide (t < k + 1)) from bitC_congr fun t _ => by
          by_cases h : t = k
          · subst h; simp
          · rw [if_neg h, Bool.eq_iff_iff]; simp; omega] at I1'
        have I2' := (unhide K1).far (p := ⟨gO, k, none⟩) (by show w.heap.size ≠ gO; omega) (.bool true)
        have I4' := (unhide MB).setCell (p := ⟨gO, k, none⟩) (by show w.heap.size ≤ gO; omega) (.bool true)
        replace I1' := hide I1'; replace I2' := hide I2'; replace I4' := hide I4'
        clear M1 K1 MB
        go_wp2_with fail
        clear i1 i2 i3
        go_roundw
        case rel => exact ⟨k + 1, by omega, by go_num, I1', I2', I4'⟩
        case measure => simp [intOf]; omega
      · obtain rfl : k = n := by omega
        have M1' := unhide M1
        rw [show bitC k (fun t => decide (t < k)) = bitC k (fun _ => true) from bitC_congr fun t h => by simp [h]] at M1'
        have hof := of_any k gO (fun _ => true) wx M1' hn
        replace hof := hide hof
        replace M1' := hide M1'
        have hMB := unhide MB
        have hwx : w.heap.size ≤ wx.heap.size := hMB.size
        have hwy : w.heap.size < wx.heap.size := (unhide K1).lt
        clear M1
        go_wp2_with (first
          | (go_at_call 41; refine (unhide hof).mono ?_; rintro e w1 ⟨A, c, rfl, o1, hb1⟩
             have K2 := (unhide K1).below hb1 hwy
             have s0 := K2.cell 0
             have s1 := K2.cell 1
             have f0 := K2.frozen 0
             have f1 := K2.frozen 1
             have y0 := K2.lt
             simp at s0 s1
             have o2 := own_far (own_far o1 K2 (by decide) 0 (.int .i64 k)) (K2.set 0 (.int .i64 k)) (by decide) 1 (.slice A (runs (fun _ => true) k).length c)
             have B2 : Below w.heap.size w w1 := bl_call hMB hb1
             replace o2 := hide o2; replace K2 := hide K2; replace B2 := hide B2; clear o1 hb1)
          | fail)
        have B3 := unhide B2
        refine ret_xs2 rfl w.heap.size (.int .i64 k) (.slice A (runs (fun _ => true) k).length c) (.int .i64 0) rfl rfl (Blk.set2 (unhide K2)) rfl ⟨A, c, ⟨k, runs (fun _ => true) k⟩, rfl, rfl, ownsRow_mono (unhide o2) hwx, by (repeat (first | with_reducible exact Below.refl _ _ | with_reducible assumption | with_reducible refine Below.drew ?_ | with_reducible refine bl_alloc ?_ _ | with_reducible refine bl_call ?_ (by assumption) | (focus (with_reducible refine Below.setCell ?_ ?_ _; rotate_left; focus (first | omega | (simp <;> omega)))) | fail))⟩
  · have hq : badE (decide (0 ≤ m) && decide (m ≤ 8192)) = 1 := by
      have : (decide (0 ≤ m) && decide (m ≤ 8192)) = false := by rw [Bool.and_eq_false_iff]; simp; omega
      rw [this]; rfl
    rw [hq, if_neg hsz]
    replace hq := hide hq
    by_cases hneg : m < 0
    · go_enter Try.func18, Try.ntmps18
      clear hsz
      go_wp2_with fail
      refine ret_xs2 rfl w.heap.size (.int .i64 0) (.slice none 0 0) (.int .i64 1) rfl rfl (Blk.new rfl) rfl ⟨none, 0, ⟨0, []⟩, rfl, rfl, World.ownsRow_nil _ _ _ _, by (repeat (first | with_reducible exact Below.refl _ _ | with_reducible assumption | with_reducible refine Below.drew ?_ | with_reducible refine bl_alloc ?_ _ | with_reducible refine bl_call ?_ (by assumption) | (focus (with_reducible refine Below.setCell ?_ ?_ _; rotate_left; focus (first | omega | (simp <;> omega)))) | fail))⟩
    · have hbig : 8192 < m := by omega
      go_enter Try.func18, Try.ntmps18
      clear hsz
      go_wp2_with fail
      refine ret_xs2 rfl w.heap.size (.int .i64 0) (.slice none 0 0) (.int .i64 1) rfl rfl (Blk.new rfl) rfl ⟨none, 0, ⟨0, []⟩, rfl, rfl, World.ownsRow_nil _ _ _ _, by (repeat (first | with_reducible exact Below.refl _ _ | with_reducible assumption | with_reducible refine Below.drew ?_ | with_reducible refine bl_alloc ?_ _ | with_reducible refine bl_call ?_ (by assumption) | (focus (with_reducible refine Below.setCell ?_ ?_ _; rotate_left; focus (first | omega | (simp <;> omega)))) | fail))⟩
end Go.Proofs.Yteokimebfbnlkaa
