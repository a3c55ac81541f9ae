import Derived.Test.YteokimebfbnlkaaC2
namespace Go.Proofs.Yteokimebfbnlkaa
open Go.RowKit

set_option maxHeartbeats 1000000 in
theorem reftake_bad (lo : Nat) (v : Value) (x : Xs) (n : Int) (w : World) (h : XsR lo w.heap.size w v x) (hbad : ¬ (okX x = true ∧ 1 ≤ n)) :
    Calls Try.prog 12 #[v, .int .i64 n] w fun e w' => ∃ A c s y er, e = .returned (.tuple #[exV s, .agg #[.int .i64 y.size, .slice A y.free.length c], .int .i64 er]) ∧ TakeOut x n s y er ∧
      w'.ownsRow w.heap.size 26 2 (.slice A y.free.length c) y.free.length (y.free.flatMap exv) ∧ Below w.heap.size w w' := by
  have hchk := fun W (hW : Below w.heap.size w W) => refcheck_any lo v x W (h.grow hW)
  obtain ⟨bb, rfl, hb⟩ := h
  have hout : TakeOut x n ⟨0, 0⟩ noX 1 := .inl ⟨hbad, rfl, rfl, rfl⟩
  replace hout := hide hout
  clear hb
  cases hok : okX x with
  | false =>
    rw [hok] at hchk
    simp only [badE, Bool.false_eq_true, if_false] at hchk
    replace hchk := hide hchk; replace hok := hide hok
    clear hbad
    go_enter Try.func12, Try.ntmps12
    go_wp2_with (first
      | (go_at_call 23; refine (unhide hchk _ (by (repeat (first | with_reducible exact Below.refl _ _ | with_reducible assumption | with_reducible refine Below.drew ?_ | with_reducible refine bl_alloc ?_ _ | with_reducible refine bl_call ?_ (by assumption) | (focus (with_reducible refine Below.setCell ?_ ?_ _; rotate_left; focus (first | omega | (simp <;> omega)))) | fail)))).mono ?_; rintro e w1 ⟨rfl, hb1⟩
         have K1 := (Blk.alloc (Blk.new (w := w.alloc (.cells #[.int .i64 x.size, bb] 24)) (g := w.heap.size + 1) (t := 26) (cs := #[.int .i64 0, .int .i64 0]) (by simp)) (.cells #[.int .i64 0, .slice none 0 0] 24)).below hb1 (by simp)
         have K2 := (Blk.new (w := (w.alloc (.cells #[.int .i64 x.size, bb] 24)).alloc (.cells #[.int .i64 0, .int .i64 0] 26)) (g := w.heap.size + 1 + 1) (t := 24) (cs := #[.int .i64 0, .slice none 0 0]) (by simp)).below hb1 (by simp)
         have d0 := K1.cell 0; have d1 := K1.cell 1; have d2 := K2.cell 0; have d3 := K2.cell 1
         have f0 := K1.frozen 0; have f1 := K1.frozen 1; have f2 := K2.frozen 0; have f3 := K2.frozen 1
         simp at d0 d1 d2 d3
         have B1 : Below w.heap.size w w1 := by (repeat (first | with_reducible exact Below.refl _ _ | with_reducible assumption | with_reducible refine Below.drew ?_ | with_reducible refine bl_alloc ?_ _ | with_reducible refine bl_call ?_ (by assumption) | (focus (with_reducible refine Below.setCell ?_ ?_ _; rotate_left; focus (first | omega | (simp <;> omega)))) | fail))
         replace B1 := hide B1; replace K1 := hide K1; replace K2 := hide K2
         clear hb1)
      | fail)
    have B1' := unhide B1
    refine ret_xs3 rfl (w.heap.size + 1) (w.heap.size + 1 + 1) (.int .i64 0) (.int .i64 0) (.int .i64 0) (.slice none 0 0) (.int .i64 1) rfl rfl rfl ?_ ?_ rfl ⟨none, 0, ⟨0, 0⟩, noX, 1, rfl, unhide hout, World.ownsRow_nil _ _ _ _, by (repeat (first | with_reducible exact Below.refl _ _ | with_reducible assumption | with_reducible refine Below.drew ?_ | with_reducible refine bl_alloc ?_ _ | with_reducible refine bl_call ?_ (by assumption) | (focus (with_reducible refine Below.setCell ?_ ?_ _; rotate_left; focus (first | omega | (simp <;> omega)))) | fail))⟩
    · exact Blk.far (Blk.far (Blk.set2 (unhide K1)) (by simp) _) (by simp) _
    · exact Blk.set2 (Blk.far (Blk.far (unhide K2) (by simp) _) (by simp) _)
  | true =>
    have hn : n < 1 := by
      rcases Int.lt_or_le n 1 with h | h
      · exact h
      · exact absurd ⟨hok, h⟩ hbad
    rw [hok] at hchk
    simp only [badE, if_true] at hchk
    replace hchk := hide hchk; replace hok := hide hok
    clear hbad
    go_enter Try.func12, Try.ntmps12
    go_wp2_with (first
      | (go_at_call 23; refine (unhide hchk _ (by (repeat (first | with_reducible exact Below.refl _ _ | with_reducible assumption | with_reducible refine Below.drew ?_ | with_reducible refine bl_alloc ?_ _ | with_reducible refine bl_call ?_ (by assumption) | (focus (with_reducible refine Below.setCell ?_ ?_ _; rotate_left; focus (first | omega | (simp <;> omega)))) | fail)))).mono ?_; rintro e w1 ⟨rfl, hb1⟩
         have K1 := (Blk.alloc (Blk.new (w := w.alloc (.cells #[.int .i64 x.size, bb] 24)) (g := w.heap.size + 1) (t := 26) (cs := #[.int .i64 0, .int .i64 0]) (by simp)) (.cells #[.int .i64 0, .slice none 0 0] 24)).below hb1 (by simp)
         have K2 := (Blk.new (w := (w.alloc (.cells #[.int .i64 x.size, bb] 24)).alloc (.cells #[.int .i64 0, .int .i64 0] 26)) (g := w.heap.size + 1 + 1) (t := 24) (cs := #[.int .i64 0, .slice none 0 0]) (by simp)).below hb1 (by simp)
         have d0 := K1.cell 0; have d1 := K1.cell 1; have d2 := K2.cell 0; have d3 := K2.cell 1
         have f0 := K1.frozen 0; have f1 := K1.frozen 1; have f2 := K2.frozen 0; have f3 := K2.frozen 1
         simp at d0 d1 d2 d3
         have B1 : Below w.heap.size w w1 := by (repeat (first | with_reducible exact Below.refl _ _ | with_reducible assumption | with_reducible refine Below.drew ?_ | with_reducible refine bl_alloc ?_ _ | with_reducible refine bl_call ?_ (by assumption) | (focus (with_reducible refine Below.setCell ?_ ?_ _; rotate_left; focus (first | omega | (simp <;> omega)))) | fail))
         replace B1 := hide B1; replace K1 := hide K1; replace K2 := hide K2
         clear hb1)
      | fail)
    have B1' := unhide B1
    refine ret_xs3 rfl (w.heap.size + 1) (w.heap.size + 1 + 1) (.int .i64 0) (.int .i64 0) (.int .i64 0) (.slice none 0 0) (.int .i64 1) rfl rfl rfl ?_ ?_ rfl ⟨none, 0, ⟨0, 0⟩, noX, 1, rfl, unhide hout, World.ownsRow_nil _ _ _ _, by (repeat (first | with_reducible exact Below.refl _ _ | with_reducible assumption | with_reducible refine Below.drew ?_ | with_reducible refine bl_alloc ?_ _ | with_reducible refine bl_call ?_ (by assumption) | (focus (with_reducible refine Below.setCell ?_ ?_ _; rotate_left; focus (first | omega | (simp <;> omega)))) | fail))⟩
    · exact Blk.far (Blk.far (Blk.set2 (unhide K1)) (by simp) _) (by simp) _
    · exact Blk.set2 (Blk.far (Blk.far (unhide K2) (by simp) _) (by simp) _)

set_option maxHeartbeats 2000000 in
theorem reftake_ok (lo : Nat) (v : Value) (x : Xs) (n : Int) (w : World) (h : XsR lo w.heap.size w v x) (hok : okX x = true) (hn : 1 ≤ n) :
    Calls Try.prog 12 #[v, .int .i64 n] w fun e w' => ∃ A c s y er, e = .returned (.tuple #[exV s, .agg #[.int .i64 y.size, .slice A y.free.length c], .int .i64 er]) ∧ TakeOut x n s y er ∧
      w'.ownsRow w.heap.size 26 2 (.slice A y.free.length c) y.free.length (y.free.flatMap exv) ∧ Below w.heap.size w w' := by
  have hchk := fun W (hW : Below w.heap.size w W) => refcheck_any lo v x W (h.grow hW)
  have hkeep := fun s W (hW : Below w.heap.size w W) => refkeep_any lo v x s W (h.grow hW)
  rw [hok] at hchk
  simp only [badE, if_true] at hchk
  obtain ⟨bb, rfl, hb⟩ := h
  obtain ⟨A, c, rfl, h1, h2, h9⟩ := hb.open
  have hlen := okX_len hok
  clear hb
  obtain ⟨j, hj, hp, hend⟩ : ∃ j, j ≤ x.free.length ∧ (∀ k (hk : k < j) (hk' : k < x.free.length), x.free[k].len < n) ∧ ((j = x.free.length ∧ TakeOut x n ⟨0, 0⟩ noX 6) ∨ (∃ hj : j < x.free.length, n ≤ x.free[j].len ∧ ∀ y z, RefOut false 4 x ⟨x.free[j].at_, n⟩ y z → TakeOut x n ⟨x.free[j].at_, n⟩ y 0)) := by
    rcases firstI_cases (fun f => decide (n ≤ f.len)) x.free with hne | ⟨p, f, q, hpq, hp, hf⟩
    · refine ⟨x.free.length, Nat.le_refl _, fun k hk hk' => ?_, .inl ⟨rfl, .inr (.inl ⟨hok, hn, fun f hf => ?_, rfl, rfl, rfl⟩)⟩⟩
      · have := hne _ (List.getElem_mem hk'); simp at this; omega
      · have := hne f hf; simp at this; omega
    · have hp' : ∀ g ∈ p, g.len < n := fun g hg => by have := hp g hg; simp at this; omega
      have hf' : n ≤ f.len := by simpa using hf
      have hjl : p.length < x.free.length := by rw [hpq]; simp
      have hg : x.free[p.length] = f := by simp [hpq]
      refine ⟨p.length, Nat.le_of_lt hjl, fun k hk hk' => ?_, .inr ⟨hjl, by rw [hg]; exact hf', fun y z hR => by rw [hg] at hR ⊢; exact ref_take hok hn hpq hp' hf' hR⟩⟩
      have : x.free[k] = p[k] := by simp [hpq, hk]
      rw [this]; exact hp' _ (List.getElem_mem _)
  have hn1 : ¬ n < 1 := by omega
  replace hchk := hide hchk; replace hok := hide hok; replace h9 := hide h9; replace hp := hide hp; replace hend := hide hend; replace hkeep := hide hkeep
  go_enter Try.func12, Try.ntmps12
  go_wp2_with (first
    | (go_at_call 23; refine (unhide hchk _ (by (repeat (first | with_reducible exact Below.refl _ _ | with_reducible assumption | with_reducible refine Below.drew ?_ | with_reducible refine bl_alloc ?_ _ | with_reducible refine bl_call ?_ (by assumption) | (focus (with_reducible refine Below.setCell ?_ ?_ _; rotate_left; focus (first | omega | (simp <;> omega)))) | fail)))).mono ?_; rintro e w1 ⟨rfl, hb1⟩
       have K0 := (Blk.alloc (Blk.alloc (Blk.new (w := w) (g := w.heap.size) (t := 24) (cs := #[.int .i64 x.size, .slice A x.free.length c]) rfl) (.cells #[.int .i64 0, .int .i64 0] 26)) (.cells #[.int .i64 0, .slice none 0 0] 24)).below hb1 (by simp; omega)
       have K1 := (Blk.alloc (Blk.new (w := w.alloc (.cells #[.int .i64 x.size, .slice A x.free.length c] 24)) (g := w.heap.size + 1) (t := 26) (cs := #[.int .i64 0, .int .i64 0]) (by simp)) (.cells #[.int .i64 0, .slice none 0 0] 24)).below hb1 (by simp)
       have K2 := (Blk.new (w := (w.alloc (.cells #[.int .i64 x.size, .slice A x.free.length c] 24)).alloc (.cells #[.int .i64 0, .int .i64 0] 26)) (g := w.heap.size + 1 + 1) (t := 24) (cs := #[.int .i64 0, .slice none 0 0]) (by simp)).below hb1 (by simp)
       have d1 := K0.cell 1
       simp at d1
       have B1 : Below w.heap.size w w1 := by (repeat (first | with_reducible exact Below.refl _ _ | with_reducible assumption | with_reducible refine Below.drew ?_ | with_reducible refine bl_alloc ?_ _ | with_reducible refine bl_call ?_ (by assumption) | (focus (with_reducible refine Below.setCell ?_ ?_ _; rotate_left; focus (first | omega | (simp <;> omega)))) | fail))
       replace B1 := hide B1; replace K0 := hide K0; replace K1 := hide K1; replace K2 := hide K2
       clear hb1)
    | fail)
  clear d1
  go_loopg [24] x.free.length (fun kk i wr => ∃ (k : Nat), kk + k = x.free.length ∧ k ≤ j ∧ i = .int .i64 k ∧ Hid (Blk wr w.heap.size 24 #[.int .i64 x.size, .slice A x.free.length c]) ∧ Hid (Blk wr (w.heap.size + 1) 26 #[.int .i64 0, .int .i64 0]) ∧ Hid (Blk wr (w.heap.size + 1 + 1) 24 #[.int .i64 0, .slice none 0 0]) ∧ Hid (Below w.heap.size w wr))
  case atStart => exact ⟨0, by omega, Nat.zero_le _, rfl, K0, K1, K2, B1⟩
  case round =>
    clear K0 K1 K2 B1
    obtain ⟨k, hk, hkj, rfl, K0, K1, K2, B1⟩ := hrel
    have f0 := (unhide K1).frozen 0; have f1 := (unhide K1).frozen 1; have f2 := (unhide K2).frozen 0; have f3 := (unhide K2).frozen 1
    have d0 := (unhide K1).cell 0; have d1 := (unhide K1).cell 1; have d2 := (unhide K2).cell 0; have d3 := (unhide K2).cell 1
    have y2 := (unhide K2).lt
    simp at d0 d1 d2 d3
    by_cases hkn : k < x.free.length
    · obtain ⟨b, off, rfl, g1, g2, q0, q1⟩ := unhide h9 k hkn
      have c0 := ((unhide B1).cell (p := ⟨b, off + k * 2, none⟩) g2).trans q0
      have c1 := ((unhide B1).cell (p := ⟨b, off + k * 2 + 1, none⟩) g2).trans q1
      have hkl : k < x.free.length := hkn
      have i1 : IntKind.i64.wrap ((k : Int) + 1) = (k : Int) + 1 := IntWalk.i64_in _ (by omega)
      have hk0 : (0 : Int) ≤ (k : Int) := by omega
      have hk1 : (k : Int) < (x.free.length : Int) := by omega
      by_cases hlt : k < j
      · have hsm := unhide hp k hlt hkl
        generalize x.free[k] = f at *
        obtain ⟨fa, fl⟩ := f
        simp only [] at c0 c1 hsm
        have e0 : decide (n ≤ fl) = false := by simp; omega
        have e1 : ¬ n ≤ fl := by omega
        have L0 := (unhide K0).alloc (.cells #[.int .i64 fa, .int .i64 fl] 26)
        have L1 := (unhide K1).alloc (.cells #[.int .i64 fa, .int .i64 fl] 26)
        have L2 := (unhide K2).alloc (.cells #[.int .i64 fa, .int .i64 fl] 26)
        have BL := (unhide B1).alloc (unhide B1).size (.cells #[.int .i64 fa, .int .i64 fl] 26)
        replace L0 := hide L0; replace L1 := hide L1; replace L2 := hide L2; replace BL := hide BL
        clear q0 q1 hsm f0 f1 f2 f3 d0 d1 d2 d3
        go_wp2_with fail
        clear i1 e0
        go_roundg (x.free.length - (k + 1))
        case measure => omega
        case rel => exact ⟨k + 1, by omega, by omega, by go_num, L0, L1, L2, BL⟩
      · obtain rfl : k = j := by omega
        rcases unhide hend with ⟨h3, _⟩ | ⟨hj', hge, hT⟩
        · omega
        · generalize x.free[k] = f at *
          obtain ⟨fa, fl⟩ := f
          simp only [] at c0 c1 hge hT
          have e0 : decide (n ≤ fl) = true := by simp; omega
          have x0 := (unhide K0).cell 0; have x1 := (unhide K0).cell 1; have y0 := (unhide K0).lt; have y1 := (unhide K1).lt
          simp at x0 x1
          have hq := fun W hW => unhide hkeep ⟨fa, n⟩ W hW
          unfold exV at hq
          simp only [] at hq
          replace hT := hide hT; replace hq := hide hq
          clear q0 q1
          have BB : Below w.heap.size w ((wr.alloc (.cells #[.int .i64 fa, .int .i64 fl] 26)).alloc (.cells #[.int .i64 fa, .int .i64 n] 26)) := by have := unhide B1; (repeat (first | with_reducible exact Below.refl _ _ | with_reducible assumption | with_reducible refine Below.drew ?_ | with_reducible refine bl_alloc ?_ _ | with_reducible refine bl_call ?_ (by assumption) | (focus (with_reducible refine Below.setCell ?_ ?_ _; rotate_left; focus (first | omega | (simp <;> omega)))) | fail))
          have L1 := ((unhide K1).alloc (.cells #[.int .i64 fa, .int .i64 fl] 26)).alloc (.cells #[.int .i64 fa, .int .i64 n] 26)
          have L2 := ((unhide K2).alloc (.cells #[.int .i64 fa, .int .i64 fl] 26)).alloc (.cells #[.int .i64 fa, .int .i64 n] 26)
          have L3 : Blk ((wr.alloc (.cells #[.int .i64 fa, .int .i64 fl] 26)).alloc (.cells #[.int .i64 fa, .int .i64 n] 26)) (wr.heap.size + 1) 26 #[.int .i64 fa, .int .i64 n] := Blk.new (by simp)
          have l12 : w.heap.size + 1 + 1 < wr.heap.size := y2
          replace BB := hide BB; replace L1 := hide L1; replace L2 := hide L2; replace L3 := hide L3; replace l12 := hide l12
          clear f0 f1 f2 f3 d0 d1 d2 d3
          go_upto_region 9 with (first
            | (go_at_call 14; refine (unhide hq _ (unhide BB)).mono ?_; rintro e w5 ⟨A5, c5, y, z, rfl, hR, o5, hb5⟩
               have M1 := ((unhide L1).below hb5 (unhide L1).lt).alloc (.cells #[.int .i64 y.size, .slice A5 y.free.length c5] 24)
               have M2 := ((unhide L2).below hb5 (unhide L2).lt).alloc (.cells #[.int .i64 y.size, .slice A5 y.free.length c5] 24)
               have M3 := ((unhide L3).below hb5 (unhide L3).lt).alloc (.cells #[.int .i64 y.size, .slice A5 y.free.length c5] 24)
               have M4 : Blk (w5.alloc (.cells #[.int .i64 y.size, .slice A5 y.free.length c5] 24)) w5.heap.size 24 #[.int .i64 y.size, .slice A5 y.free.length c5] := Blk.new rfl
               have o6 := o5.alloc (.cells #[.int .i64 y.size, .slice A5 y.free.length c5] 24)
               have B6 : Below w.heap.size w (w5.alloc (.cells #[.int .i64 y.size, .slice A5 y.free.length c5] 24)) := by have q1 := unhide BB; have q2 := bl_call q1 hb5; exact q2.alloc q2.size _
               have hz5 := hb5.size
               simp at hz5
               have hT' := unhide hT y z hR
               replace M1 := hide M1; replace M2 := hide M2; replace M3 := hide M3; replace M4 := hide M4; replace o6 := hide o6; replace B6 := hide B6; replace hz5 := hide hz5; replace hT' := hide hT'
               clear hb5 o5 hR)
            | fail)
          have hl5 : wr.heap.size + 1 < w5.heap.size := by have := unhide hz5; omega
          generalize w5.alloc (.cells #[.int .i64 y.size, .slice A5 y.free.length c5] 24) = w6 at *
          generalize w5.heap.size = g5 at *
          have n1 : w.heap.size + 1 ≠ wr.heap.size + 1 := by have := unhide l12; omega
          have n2 : w.heap.size + 1 + 1 ≠ wr.heap.size + 1 := by have := unhide l12; omega
          have n3 : w.heap.size + 1 ≠ g5 := by have := unhide l12; omega
          have n4 : w.heap.size + 1 + 1 ≠ g5 := by have := unhide l12; omega
          have n5 : w.heap.size + 1 + 1 ≠ w.heap.size + 1 := by omega
          have o7 := ownsRow_mono (unhide o6) (base' := w.heap.size + 1 + 1 + 1) (by have := unhide l12; simp; omega)
          have a0 := (unhide M3).cell 0; have a1 := (unhide M3).cell 1; have a2 := (unhide M4).cell 0; have a3 := (unhide M4).cell 1
          have b0 := (unhide M1).cell 0; have b1 := (unhide M1).cell 1; have b2 := (unhide M2).cell 0; have b3 := (unhide M2).cell 1
          have f0 := (unhide M1).frozen 0; have f1 := (unhide M1).frozen 1; have f2 := (unhide M2).frozen 0; have f3 := (unhide M2).frozen 1
          simp at a0 a1 a2 a3 b0 b1 b2 b3
          have gl := (unhide M4).lt
          have gl2 := (unhide M3).lt
          have gl3 := (unhide M2).lt
          replace o7 := hide o7; replace n5 := hide n5
          clear c0 c1 x0 x1 y0 y1 y2 o6 hz5 BB L1 L2 L3 K0 K1 K2 B1
          generalize wr.heap.size + 1 = g3 at *
          go_region
          all_goals go_wp2_with fail
          have B7 := unhide B6
          refine ret_xs3 rfl (w.heap.size + 1) (w.heap.size + 1 + 1) (.int .i64 fa) (.int .i64 n) (.int .i64 y.size) (.slice A5 y.free.length c5) (.int .i64 0) rfl rfl rfl ?_ ?_ rfl ⟨A5, c5, ⟨fa, n⟩, y, 0, rfl, unhide hT', ?_, by (repeat (first | with_reducible exact Below.refl _ _ | with_reducible assumption | with_reducible refine Below.drew ?_ | with_reducible refine bl_alloc ?_ _ | with_reducible refine bl_call ?_ (by assumption) | (focus (with_reducible refine Below.setCell ?_ ?_ _; rotate_left; focus (first | omega | (simp <;> omega)))) | fail))⟩
          · exact (Blk.far (Blk.far (Blk.set2 (unhide M1)) (by simp) _) (by simp) _).drew
          · exact (Blk.set2 (Blk.far (Blk.far (unhide M2) (by simp) _) (by simp) _)).drew
          · exact ownsRow_mono (own_drew (ownsRow_setCell_below (ownsRow_setCell_below (ownsRow_setCell_below (ownsRow_setCell_below (unhide o7) (a := ⟨w.heap.size + 1, 0, none⟩) (by simp) _) (a := ⟨w.heap.size + 1, 1, none⟩) (by simp) _) (a := ⟨w.heap.size + 1 + 1, 0, none⟩) (by simp) _) (a := ⟨w.heap.size + 1 + 1, 1, none⟩) (by simp) _)) (by omega)
    · obtain rfl : k = x.free.length := by omega
      rcases unhide hend with ⟨_, hT⟩ | ⟨hj', _⟩
      · replace hT := hide hT
        have B1' := unhide B1
        go_wp2_with fail
        refine ret_xs3 rfl (w.heap.size + 1) (w.heap.size + 1 + 1) (.int .i64 0) (.int .i64 0) (.int .i64 0) (.slice none 0 0) (.int .i64 6) rfl rfl rfl ?_ ?_ rfl ⟨none, 0, ⟨0, 0⟩, noX, 6, rfl, unhide hT, World.ownsRow_nil _ _ _ _, by (repeat (first | with_reducible exact Below.refl _ _ | with_reducible assumption | with_reducible refine Below.drew ?_ | with_reducible refine bl_alloc ?_ _ | with_reducible refine bl_call ?_ (by assumption) | (focus (with_reducible refine Below.setCell ?_ ?_ _; rotate_left; focus (first | omega | (simp <;> omega)))) | fail))⟩
        · exact Blk.far (Blk.far (Blk.set2 (unhide K1)) (by simp) _) (by simp) _
        · exact Blk.set2 (Blk.far (Blk.far (unhide K2) (by simp) _) (by simp) _)
      · omega

theorem reftake_any (lo : Nat) (v : Value) (x : Xs) (n : Int) (w : World) (h : XsR lo w.heap.size w v x) :
    Calls Try.prog 12 #[v, .int .i64 n] w fun e w' => ∃ A c s y er, e = .returned (.tuple #[exV s, .agg #[.int .i64 y.size, .slice A y.free.length c], .int .i64 er]) ∧ TakeOut x n s y er ∧
      w'.ownsRow w.heap.size 26 2 (.slice A y.free.length c) y.free.length (y.free.flatMap exv) ∧ Below w.heap.size w w' := by
  by_cases hb : okX x = true ∧ 1 ≤ n
  · exact reftake_ok lo v x n w h hb.1 hb.2
  · exact reftake_bad lo v x n w h hb
end Go.Proofs.Yteokimebfbnlkaa
