import Derived.Test.YteokimebfbnlkaaL31
namespace Go.Proofs.Yteokimebfbnlkaa
open Go.RowKit

set_option maxRecDepth 100000 in
set_option maxHeartbeats 32000000 in
theorem whole_ok (lo : Nat) (v vo : Value) (x : Xs) (n : Int) (ord : List Int) (w : World) (h : XsR lo w.heap.size w v x) (hvo : Os 0 w.heap.size w vo ord) (hz : ∀ z ∈ ord, 0 ≤ z ∧ z ≤ 255) (hn : 1 ≤ n) (hL : ord.length ≤ 40) (hfw : (decide ((x.size ≤ 100 ∨ 8192 < x.size) ∧ x.free.length ≤ 60)) = true) (ok : okX x = true) :
    Calls Try.prog 8 #[v, .int .i64 n, vo] w fun e w' => e = .returned (.bool true) ∧ Below w.heap.size w w' := by
  obtain ⟨i0, hi0, iz0, iz1, iz2⟩ := info_parts info26
  have hfew : ∀ W, Below w.heap.size w W → Calls Try.prog 10 #[v] W fun e w' => e = .returned (.bool (decide ((x.size ≤ 100 ∨ 8192 < x.size) ∧ x.free.length ≤ 60))) ∧ Below W.heap.size W w' := fun W hB => few_any v x lo W (h.grow hB)
  rw [hfw] at hfew
  have hC : ∀ W, Below w.heap.size w W → Calls Try.prog 22 #[v] W fun e w' => e = .returned (.int .i64 (badE (okX x))) ∧ Below W.heap.size W w' := fun W hB => check_any lo v x W (h.grow hB) (rgs_ok ok)
  rw [ok] at hC
  simp only [badE, if_true] at hC
  have hI0 := Inv.start ok
  obtain ⟨b0, rfl, hb0⟩ := id h
  obtain ⟨Ax, cx, rfl, n1, n2, _⟩ := hb0.open
  obtain ⟨Bo, co, rfl, m1, m2, hord⟩ := hvo.open
  clear hvo hfw
  replace hfew := hide hfew; replace hC := hide hC; replace h := hide h; replace hb0 := hide hb0; replace hord := hide hord; replace hz := hide hz
  have hzr := hz
  have gd1 : ¬ (40 : Int) < ord.length := by omega
  have gd2 : ¬ n < 1 := by omega
  go_enter Try.func8, Try.ntmps8
  go_wp2_with (first
    | (go_at_call 9; refine (live_any _).mono ?_; rintro e w1 ⟨rfl, hb1⟩; have hz1 := hb1.size; (try simp at hz1); have y1 : w.heap.size < w1.heap.size := (by omega); have M1 : Blk w1 w.heap.size 24 #[.int .i64 x.size, .slice Ax x.free.length cx] := Blk.below (by (repeat (first | with_reducible assumption | (focus (with_reducible refine Blk.new ?_; focus (simp <;> fail))) | with_reducible refine Blk.set3 (a := .slice none 0 0) (b := .slice none 0 0) (c := .int .i64 0) ?_ | with_reducible refine Blk.alloc ?_ _ | with_reducible refine Blk.drew ?_ | (focus (with_reducible refine Blk.far ?_ ?_ _; rotate_left; focus (first | omega | (simp <;> omega)))) | (focus (with_reducible refine Blk.below ?_ hb1 ?_; rotate_left; focus (first | omega | (simp <;> omega)))) | (focus (with_reducible refine Blk.below ?_ hb2 ?_; rotate_left; focus (first | omega | (simp <;> omega)))) | (focus (with_reducible refine Blk.below ?_ hb3 ?_; rotate_left; focus (first | omega | (simp <;> omega)))) | (focus (with_reducible refine Blk.below ?_ hb4 ?_; rotate_left; focus (first | omega | (simp <;> omega)))) | (focus (with_reducible refine Blk.below ?_ hb5 ?_; rotate_left; focus (first | omega | (simp <;> omega)))) | (focus (with_reducible refine Blk.below ?_ hb6 ?_; rotate_left; focus (first | omega | (simp <;> omega)))) | (focus (with_reducible refine Blk.below ?_ hb7 ?_; rotate_left; focus (first | omega | (simp <;> omega)))) | (focus (with_reducible refine Blk.below ?_ hb8 ?_; rotate_left; focus (first | omega | (simp <;> omega)))) | (focus (with_reducible refine Blk.below ?_ hb9 ?_; rotate_left; focus (first | omega | (simp <;> omega)))) | (focus (with_reducible refine Blk.below ?_ hb10 ?_; rotate_left; focus (first | omega | (simp <;> omega)))) | (focus (with_reducible refine Blk.below ?_ hb11 ?_; rotate_left; focus (first | omega | (simp <;> omega)))) | (focus (with_reducible refine Blk.below ?_ hb12 ?_; rotate_left; focus (first | omega | (simp <;> omega)))) | (focus (with_reducible refine Blk.below ?_ hb13 ?_; rotate_left; focus (first | omega | (simp <;> omega)))) | (focus (with_reducible refine Blk.below ?_ hb14 ?_; rotate_left; focus (first | omega | (simp <;> omega)))) | (focus (with_reducible refine Blk.below ?_ hb15 ?_; rotate_left; focus (first | omega | (simp <;> omega)))) | fail))) hb1 (by first | omega | (simp <;> omega)); have m1a := M1.cell 0; have m1b := M1.cell 1; simp at m1a m1b)
    | (go_at_call 10; refine (unhide hfew _ (by (repeat (first | with_reducible exact Below.refl _ _ | with_reducible assumption | with_reducible refine Below.drew ?_ | with_reducible refine bl_alloc ?_ _ | with_reducible refine bl_call ?_ (by assumption) | (focus (with_reducible refine Below.setCell ?_ ?_ _; rotate_left; focus (first | omega | (simp <;> omega)))) | fail)))).mono ?_; rintro e w2 ⟨rfl, hb2⟩; have M2 : Blk w2 w.heap.size 24 #[.int .i64 x.size, .slice Ax x.free.length cx] := Blk.below M1 hb2 y1; have m2a := M2.cell 0; have m2b := M2.cell 1; simp at m2a m2b; have y2 : w.heap.size < w2.heap.size := M2.lt; have bw2 : Below w.heap.size w w2 := (by (repeat (first | with_reducible exact Below.refl _ _ | with_reducible assumption | with_reducible refine Below.drew ?_ | with_reducible refine bl_alloc ?_ _ | with_reducible refine bl_call ?_ (by assumption) | (focus (with_reducible refine Below.setCell ?_ ?_ _; rotate_left; focus (first | omega | (simp <;> omega)))) | fail))); replace bw2 := hide bw2; replace M2 := hide M2)
    | fail)
  obtain ⟨g9, hg9⟩ : ∃ g9, g9 = w2.heap.size := ⟨_, rfl⟩
  rw [← hg9]
  have hwg : w.heap.size < g9 := by rw [hg9]; exact y2
  replace hg9 := hide hg9; replace hwg := hide hwg
  clear m1a m1b m2a m2b M1
  go_loopw [8, 35] (fun s8 i wx => ∃ (k : Nat) (os : List Ex) (y : Xs) (Ay : Option Addr) (cy : Nat) (A : Option Addr) (c' : Nat), k ≤ ord.length ∧ i = .int .i64 k ∧ s8 = .slice A os.length c' ∧ os.length ≤ k ∧ Inv x y os ∧ Hid (wx.ownsRow w.heap.size 26 2 (.slice A os.length c') os.length (os.flatMap exv)) ∧ Hid (Exs 0 wx.heap.size wx (.slice Ay y.free.length cy) y.free) ∧ Hid (Apart Ay y.free.length (.slice A os.length c')) ∧ Hid (Blk wx g9 24 #[.int .i64 y.size, .slice Ay y.free.length cy]) ∧ Hid (Blk wx w.heap.size 24 #[.int .i64 x.size, .slice Ax x.free.length cx]) ∧ Hid (Below w.heap.size w wx)) (fun _ i _ => ord.length - (intOf i).toNat)
  case atStart =>
    refine ⟨0, [], x, Ax, cx, none, 0, Nat.zero_le _, rfl, rfl, Nat.le_refl _, hI0, hide (World.ownsRow_nil _ _ _ _), hide ?_, hide (fun _ _ _ e => by cases e), hide (Blk.new (unhide hg9)), hide ((unhide M2).alloc _), hide (bl_alloc (unhide bw2) _)⟩
    exact ((unhide hb0).below (bl_alloc (unhide bw2) _) (Nat.le_refl _)).mono (Nat.zero_le _) (by have := (unhide bw2).size; simp; omega)
  case round =>
    clear hI0 bw2 M2
    obtain ⟨k, os, y, Ay, cy, A, c', hk, rfl, rfl, hosk, hI, ho, hE, hAp, B9, BP, bw⟩ := hrel
    by_cases hlt : k < ord.length
    · obtain ⟨s, y', er, ht⟩ := take_ex y n
      have hT := take_at ht (rgs_ok hI.oky) 0 (.agg #[.int .i64 y.size, .slice Ay y.free.length cy]) wr ⟨_, rfl, unhide hE⟩
      have q0 := (unhide B9).cell 0
      have q1 := (unhide B9).cell 1
      simp at q0 q1
      have yP : w.heap.size < wr.heap.size := (unhide BP).lt
      have y9 : g9 < wr.heap.size := (unhide B9).lt
      obtain ⟨sa, sl⟩ := s
      simp only [] at hT
      by_cases he : er = 0
      · have hI' := hI.take ht he
        subst he
        have hfl := flat_snoc os ⟨sa, sl⟩
        have b1 : os.length + 1 ≤ maxLen := by simp only [maxLen]; omega
        have b2 : (os.length + 1) * 16 ≤ 140737488355328 := by omega
        have hone := exv_one ⟨sa, sl⟩
        have hos1 : (os ++ [(⟨sa, sl⟩ : Ex)]).length = os.length + 1 := by simp
        clear ht hI
        replace hT := hide hT; replace hfl := hide hfl; replace b1 := hide b1; replace b2 := hide b2; replace hone := hide hone; replace hos1 := hide hos1
        go_wp2_with (first
          | (go_at_call 11; refine (unhide hT).mono ?_; rintro e w3 ⟨A3, c3, rfl, hx3, hb3⟩; have hE3 := hx3.exs; have hz3 := hb3.size; have M9 : Blk w3 g9 24 #[.int .i64 y.size, .slice Ay y.free.length cy] := Blk.below (unhide B9) hb3 y9; have MP : Blk w3 w.heap.size 24 #[.int .i64 x.size, .slice Ax x.free.length cx] := Blk.below (unhide BP) hb3 yP; have m0 := M9.cell 0; have m1 := M9.cell 1; have m2 := M9.frozen 0; have m3 := M9.frozen 1; simp at m0 m1; have y3 : g9 < w3.heap.size := M9.lt; replace hE3 := hide hE3; replace M9 := hide M9; replace MP := hide MP; clear hx3)
          | (at_builtin
             refine wpList_app_at _ rfl (.tmp 47) (.tmp 49) 22 rfl w.heap.size 26 i0 _ 2 16 Try.underlying22 hi0 iz0 iz1 iz2 rfl (Nat.succ_pos _) _ os.length (os.flatMap exv) rfl ((((own_set2 (own_below (unhide ho) hb3 (Nat.le_refl _)) (unhide M9) (by decide)).alloc _).alloc _).alloc _) (some ⟨w3.heap.size + 1 + 1, 0, none⟩) 1 1 (exv ⟨sa, sl⟩) rfl rfl (ex_src (by (repeat (first | with_reducible assumption | (focus (with_reducible refine Blk.new ?_; focus (simp <;> fail))) | with_reducible refine Blk.set3 (a := .slice none 0 0) (b := .slice none 0 0) (c := .int .i64 0) ?_ | with_reducible refine Blk.alloc ?_ _ | with_reducible refine Blk.drew ?_ | (focus (with_reducible refine Blk.far ?_ ?_ _; rotate_left; focus (first | omega | (simp <;> omega)))) | (focus (with_reducible refine Blk.below ?_ hb1 ?_; rotate_left; focus (first | omega | (simp <;> omega)))) | (focus (with_reducible refine Blk.below ?_ hb2 ?_; rotate_left; focus (first | omega | (simp <;> omega)))) | (focus (with_reducible refine Blk.below ?_ hb3 ?_; rotate_left; focus (first | omega | (simp <;> omega)))) | (focus (with_reducible refine Blk.below ?_ hb4 ?_; rotate_left; focus (first | omega | (simp <;> omega)))) | (focus (with_reducible refine Blk.below ?_ hb5 ?_; rotate_left; focus (first | omega | (simp <;> omega)))) | (focus (with_reducible refine Blk.below ?_ hb6 ?_; rotate_left; focus (first | omega | (simp <;> omega)))) | (focus (with_reducible refine Blk.below ?_ hb7 ?_; rotate_left; focus (first | omega | (simp <;> omega)))) | (focus (with_reducible refine Blk.below ?_ hb8 ?_; rotate_left; focus (first | omega | (simp <;> omega)))) | (focus (with_reducible refine Blk.below ?_ hb9 ?_; rotate_left; focus (first | omega | (simp <;> omega)))) | (focus (with_reducible refine Blk.below ?_ hb10 ?_; rotate_left; focus (first | omega | (simp <;> omega)))) | (focus (with_reducible refine Blk.below ?_ hb11 ?_; rotate_left; focus (first | omega | (simp <;> omega)))) | (focus (with_reducible refine Blk.below ?_ hb12 ?_; rotate_left; focus (first | omega | (simp <;> omega)))) | (focus (with_reducible refine Blk.below ?_ hb13 ?_; rotate_left; focus (first | omega | (simp <;> omega)))) | (focus (with_reducible refine Blk.below ?_ hb14 ?_; rotate_left; focus (first | omega | (simp <;> omega)))) | (focus (with_reducible refine Blk.below ?_ hb15 ?_; rotate_left; focus (first | omega | (simp <;> omega)))) | fail)))) (unhide hone) (unhide b1) (unhide b2) (by have := (bl_call (unhide bw) hb3).size; simp; omega) ?_
             intro v4 w4 hown4 hg4 hl4
             obtain ⟨A4, c4, rfl⟩ := ownsRow_form hown4
             rw [unhide hfl] at hown4
             replace hown4 := hide hown4; replace hl4 := hide hl4)
          | fail)
        have hne9 := unhide hwg
        have AG : Agree wr.heap.size w3.heap.size w3 w4 := by
          refine Agree.grown ?_ hg4 ?_ ?_
          · (repeat (first | exact Agree.refl _ _ _ | refine Agree.alloc ?_ _ (by first | omega | (simp <;> omega)) | refine Agree.setG ?_ (by first | omega | (simp <;> omega)) _))
          · simp; omega
          · intro k hk
            left
            exact own_lt (unhide ho) k hk
        have hE4 : Exs 0 w4.heap.size w4 (.slice A3 y'.free.length c3) y'.free := ((unhide hE3).keep AG).mono (Nat.zero_le _) (by have := hg4.size; simp at this; omega)
        have hAp4 : Apart A3 y'.free.length (.slice A4 (os.length + 1) c4) := Apart.fresh (unhide hE3) (fun k hk => by
          rcases unhide hl4 with h | h
          · rw [h] at hk; exact .inl (own_lt (unhide ho) k hk)
          · rw [h] at hk; injection hk with hk; right; rw [← hk]; simp; omega)
        go_roundw
        case rel =>
          refine ⟨k + 1, os ++ [⟨sa, sl⟩], y', A3, c3, A4, c4, by omega, by go_num, by rw [unhide hos1], by rw [unhide hos1]; omega, hI', ?_, hide hE4, ?_, hide ?_, hide ?_, hide ?_⟩
          · rw [unhide hos1]; exact hown4
          · rw [unhide hos1]; exact hide hAp4
          · exact Blk.grown ((((Blk.set2 (unhide M9)).alloc _).alloc _).alloc _) hg4 (own_ne (unhide ho) (unhide B9) (by decide))
          · exact Blk.grown ((((((unhide MP).far (by simp; omega) _).far (by simp; omega) _).alloc _).alloc _).alloc _) hg4 (own_ne (unhide ho) (unhide BP) (by decide))
          · have hbB : Below w.heap.size w w3 := bl_call (unhide bw) hb3
            exact bl_grown (by (repeat (first | with_reducible exact Below.refl _ _ | with_reducible assumption | with_reducible refine Below.drew ?_ | with_reducible refine bl_alloc ?_ _ | with_reducible refine bl_call ?_ (by assumption) | (focus (with_reducible refine Below.setCell ?_ ?_ _; rotate_left; focus (first | omega | (simp <;> omega)))) | fail))) hg4 (own_base (unhide ho))
        case measure => simp [intOf]; omega
      · have hen : (er != 0) = true := by rw [bne_iff_ne]; exact he
        clear ht he
        replace hT := hide hT
        go_wp2_with (first
          | (go_at_call 11; refine (unhide hT).mono ?_; rintro e w3 ⟨A3, c3, rfl, hx3, hb3⟩; clear hx3; have hz3 := hb3.size)
          | fail)
        have hb4 := bl_alloc (bl_alloc hb3 (.cells #[.int .i64 sa, .int .i64 sl] 26)) (.cells #[.int .i64 y'.size, .slice A3 y'.free.length c3] 24)
        replace hb4 := hide hb4
        clear hb3 hz3
        go_loopw [8, 54] (fun s8 i wx => ∃ (j : Nat) (os : List Ex) (y : Xs) (Ay : Option Addr) (cy : Nat) (A : Option Addr) (c' : Nat), j ≤ ord.length ∧ i = .int .i64 j ∧ s8 = .slice A os.length c' ∧ (os = [] ∨ os.length + j ≤ ord.length) ∧ Inv x y os ∧ Hid (wx.ownsRow w.heap.size 26 2 (.slice A os.length c') os.length (os.flatMap exv)) ∧ Hid (Exs 0 wx.heap.size wx (.slice Ay y.free.length cy) y.free) ∧ Hid (Apart Ay y.free.length (.slice A os.length c')) ∧ Hid (Blk wx g9 24 #[.int .i64 y.size, .slice Ay y.free.length cy]) ∧ Hid (Blk wx w.heap.size 24 #[.int .i64 x.size, .slice Ax x.free.length cx]) ∧ Hid (Below w.heap.size w wx)) (fun _ i _ => ord.length - (intOf i).toNat)
        case atStart => exact ⟨0, os, y, Ay, cy, A, c', Nat.zero_le _, rfl, rfl, .inr (by omega), hI, hide (own_below (unhide ho) (unhide hb4) (Nat.le_refl _)), hide ((unhide hE).grow (unhide hb4)), hAp, hide (Blk.below (unhide B9) (unhide hb4) y9), hide (Blk.below (unhide BP) (unhide hb4) yP), hide (bl_call (unhide bw) (unhide hb4))⟩
        case round =>
          try clear ho hE hAp B9 BP bw
          clear hI
          obtain ⟨j, os, y, Ay, cy, A, c', hj, rfl, rfl, hos, hI, ho, hE, hAp, B9, BP, bw⟩ := hrel
          by_cases hlt : j < ord.length
          · obtain ⟨bo, oo, rfl, o1, o2, o3⟩ := unhide hord j hlt
            have z0 := ((unhide bw).cell (p := ⟨bo, oo + j, none⟩) o2).trans o3
            obtain ⟨zr0, zr1⟩ := unhide hzr ord[j] (List.getElem_mem _)
            generalize ord[j] = z at *
            have yo : bo < wr.heap.size := World.block_lt_of_cell? wr _ z0
            by_cases hm : os.length = 0
            · obtain rfl := List.eq_nil_of_length_eq_zero hm
              clear hm o1 o2 o3
              have hyx := hI.done
              subst hyx
              have hbwF := unhide bw
              have hxF := unhide hE
              replace hbwF := hide hbwF; replace hxF := hide hxF
              have pF := unhide BP
              have pF0 := pF.cell 0
              have pF1 := pF.cell 1
              simp at pF0 pF1
              have qF := unhide B9
              have qF0 := qF.cell 0
              have qF1 := qF.cell 1
              simp at qF0 qF1
              have yF : w.heap.size < wr.heap.size := pF.lt
              have yG : g9 < wr.heap.size := qF.lt
              replace pF := hide pF; replace qF := hide qF
              go_wp2_with (first
                | (go_at_call 22; refine (unhide hC _ (unhide hbwF)).mono ?_; rintro e wc ⟨rfl, hbc⟩; have BPc := (unhide pF).below hbc yF; have B9c := (unhide qF).below hbc yG; have pc0 := BPc.cell 0; have pc1 := BPc.cell 1; have qc0 := B9c.cell 0; have qc1 := B9c.cell 1; simp at pc0 pc1 qc0 qc1; replace BPc := hide BPc; replace B9c := hide B9c)
                | (go_at_call 24; refine (same_true _ _ _ _ y _ ((unhide h).grow (bl_call (unhide hbwF) hbc)) (XsR.grow (lo := 0) ⟨_, rfl, unhide hxF⟩ hbc)).mono ?_; rintro e wd ⟨rfl, hbd⟩)
                | fail)
              go_ret
              exact ⟨rfl, bl_call (bl_call (unhide hbwF) hbc) hbd⟩
            · have hmp : 0 < os.length := by omega
              obtain ⟨q, hq⟩ : ∃ q : Nat, z % (os.length : Int) = (q : Int) := ⟨_, (Int.toNat_of_nonneg (Int.emod_nonneg _ (by omega))).symm⟩
              have hqm : q < os.length := by have := Int.emod_lt_of_pos z (b := (os.length : Int)) (by omega); omega
              have hm40 : os.length ≤ 40 := by
                rcases hos with h | h
                · rw [h]; simp
                · omega
              have e0 : IntKind.i64.wrap z = z := IntWalk.i64_in _ (by omega)
              have e2 : z.tmod (os.length : Int) = (q : Int) := by rw [Int.tmod_eq_emod_of_nonneg zr0]; exact hq
              have hm0 : ((os.length : Int) == 0) = false := by rw [beq_eq_false_iff_ne]; omega
              have e3 : IntKind.i64.wrap ((q : Int) + 1) = (q : Int) + 1 := IntWalk.i64_in _ (by omega)
              have hqm' : (q : Int) < (os.length : Int) := by omega
              obtain ⟨y', hG, hI', hlen⟩ := hI.give hqm
              have hEo := Exs.of_own (e := 26) (unhide ho)
              obtain ⟨A5, c5, e5, hc1, hc2, hoc⟩ := hEo.open
              injection e5 with e6 e7 e8
              clear e7
              subst e6 e8
              obtain ⟨gb, go, rfl, _, glt, p0, p1⟩ := hoc q hqm
              have hGv := fun (W : World) (hx : XsR 0 W.heap.size W (.agg #[.int .i64 y.size, .slice Ay y.free.length cy]) y) => give_at hG (rgs_ok hI.oky) (by omega) 0 _ W hx
              generalize os[q] = s at *
              obtain ⟨sa, sl⟩ := s
              simp only [exV] at hGv p0 p1
              obtain ⟨A6, e6, _⟩ := hEo.part 0 q (Nat.zero_le _) (by omega)
              obtain ⟨A7, e7, _⟩ := hEo.part (q + 1) os.length (by omega) (Nat.le_refl _)
              have sl1 := fun W => (slice_h (some ⟨gb, go, none⟩) os.length c' q (by omega) W).trans (by rw [e6])
              have sl2 := fun W => (slice_l (some ⟨gb, go, none⟩) os.length c' (q + 1) (by omega) W).trans (by rw [e7])
              rw [show ((q + 1 : Nat) : Int) = (q : Int) + 1 by omega] at sl2
              simp only [Nat.sub_zero] at sl1
              have q0 := (unhide B9).cell 0
              have q1 := (unhide B9).cell 1
              simp at q0 q1
              have yP : w.heap.size < wr.heap.size := (unhide BP).lt
              have y9 : g9 < wr.heap.size := (unhide B9).lt
              have hwg' := unhide hwg
              have len1 : ((os.take q).flatMap exv).length = q * 2 := by rw [flat_len, List.length_take]; omega
              have len2 : ((os.drop (q + 1)).flatMap exv).length = (os.length - (q + 1)) * 2 := by rw [flat_len, List.length_drop]
              have one1 := flat_one (os.take q)
              have one2 := flat_one (os.drop (q + 1))
              have b1 : 0 + q ≤ maxLen := by simp only [maxLen]; omega
              have b2 : (0 + q) * 16 ≤ 140737488355328 := by omega
              have b3 : q + (os.length - (q + 1)) ≤ maxLen := by simp only [maxLen]; omega
              have b4 : (q + (os.length - (q + 1))) * 16 ≤ 140737488355328 := by omega
              have src1 := fun W hi (hE : Exs w.heap.size hi W (.slice (some ⟨gb, go, none⟩) os.length c') os) => part_src hE (Nat.zero_le _) (by omega) e6
              have src2 := fun W hi (hE : Exs w.heap.size hi W (.slice (some ⟨gb, go, none⟩) os.length c') os) => part_src hE (by omega) (Nat.le_refl _) e7
              simp only [Nat.sub_zero, List.drop_zero] at src1
              rw [show (os.drop (q + 1)).take (os.length - (q + 1)) = os.drop (q + 1) from List.take_of_length_le (by rw [List.length_drop]; omega)] at src2
              have hos2 : (os.take q ++ os.drop (q + 1)).length = q + (os.length - (q + 1)) := by rw [List.length_append, List.length_take, List.length_drop]; omega
              clear hoc hG hI hlen e6 e7 o1 o2 o3 hEo hm hmp
              replace hGv := hide hGv; replace len1 := hide len1; replace len2 := hide len2; replace one1 := hide one1; replace one2 := hide one2; replace b1 := hide b1; replace b2 := hide b2; replace b3 := hide b3; replace b4 := hide b4; replace src1 := hide src1; replace src2 := hide src2; replace hos2 := hide hos2; replace hos := hide hos; replace hwg' := hide hwg'
              replace hqm := hide hqm
              go_upto_region 18 with fail
              go_cut [16, 17] (fun s16 s17 wx => ∃ (g16 : Nat) (A3 : Option Addr) (c3 : Nat), s16 = .pointer (some ⟨g16, 0, none⟩) ∧ s17 = .int .i64 0 ∧ Hid (Exs wr.heap.size wx.heap.size wx (.slice A3 y'.free.length c3) y'.free) ∧ Hid (Blk wx g16 24 #[.int .i64 y'.size, .slice A3 y'.free.length c3]) ∧ Hid (Below wr.heap.size wr wx))
              case first =>
                go_region_held3 (fun W => W.cell? ⟨g9, 0, none⟩ = some (.int .i64 y.size) ∧ W.cell? ⟨g9, 1, none⟩ = some (.slice Ay y.free.length cy) ∧ W.cell? ⟨gb, go + q * 2, none⟩ = some (.int .i64 sa) ∧ W.cell? ⟨gb, go + q * 2 + 1, none⟩ = some (.int .i64 sl)) (first | exact ⟨by assumption, by assumption, by assumption, by assumption⟩ | exact ⟨by go_simp, by go_simp, by go_simp, by go_simp⟩)
                  (first
                    | (go_at_call 15; refine (unhide hGv _ (by first | exact ⟨_, rfl, unhide hE⟩ | exact ⟨_, rfl, (unhide hE).grow (Below.drew (Below.refl _ _))⟩ | exact ⟨_, rfl, (unhide hE).grow (Below.drew (bl_alloc (Below.refl _ _) _))⟩)).mono ?_; rintro e w3 ⟨A3, c3, rfl, hx3, hb3⟩; have hE3 := hx3.exs; obtain ⟨hc3, hf3⟩ := bcell hb3; have hz3 := hb3.size; (try simp at hz3); have y3 : g9 < w3.heap.size := (by omega); have yb3 : gb < w3.heap.size := (by omega); have yw3 : wr.heap.size ≤ w3.heap.size := (by omega); have m0 : w3.cell? ⟨g9, 0, none⟩ = some (.int .i64 y.size) := (hc3 g9 (0) (by first | exact y9 | (simp; omega))).trans (by first | exact q0 | go_simp); have m1 : w3.cell? ⟨g9, 1, none⟩ = some (.slice Ay y.free.length cy) := (hc3 g9 (1) (by first | exact y9 | (simp; omega))).trans (by first | exact q1 | go_simp); have n0 : w3.cell? ⟨gb, go + q * 2, none⟩ = some (.int .i64 sa) := (hc3 gb (go + q * 2) (by first | exact glt | (simp; omega))).trans (by first | exact p0 | go_simp); have n1 : w3.cell? ⟨gb, go + q * 2 + 1, none⟩ = some (.int .i64 sl) := (hc3 gb (go + q * 2 + 1) (by first | exact glt | (simp; omega))).trans (by first | exact p1 | go_simp); replace hE3 := hide hE3; clear hx3))
                all_goals
                  go_wp2_with fail
                  go_meet
                  first
                    | (obtain ⟨k1, k2, k3⟩ := cutA (wr := wr) (a := .int .i64 y'.size) (unhide hE3) hb3; exact ⟨_, _, _, rfl, rfl, hide k1, hide k2, hide k3⟩)
                    | (obtain ⟨k1, k2, k3⟩ := cutB (wr := wr) (a := .int .i64 y'.size) (unhide hE3) hb3; exact ⟨_, _, _, rfl, rfl, hide k1, hide k2, hide k3⟩)
              case rest =>
                obtain ⟨g16, A3, c3, rfl, rfl, hE3, hX, hb3⟩ := hcut
                obtain ⟨hc3, hf3⟩ := bcell (unhide hb3)
                have hz3 := (unhide hb3).size
                have M9 : Blk wc g9 24 #[.int .i64 y.size, .slice Ay y.free.length cy] := Blk.below (unhide B9) (unhide hb3) y9
                have MP : Blk wc w.heap.size 24 #[.int .i64 x.size, .slice Ax x.free.length cx] := Blk.below (unhide BP) (unhide hb3) yP
                have m0 := M9.cell 0
                have m1 := M9.cell 1
                have m2 := M9.frozen 0
                have m3 := M9.frozen 1
                have x0 := (unhide hX).cell 0
                have x1 := (unhide hX).cell 1
                simp at m0 m1 x0 x1
                have y3 : g9 < wc.heap.size := M9.lt
                have yx : g16 < wc.heap.size := (unhide hX).lt
                replace M9 := hide M9
                replace MP := hide MP
                clear hc3 hf3
                go_wp2_with fail
                obtain ⟨N0, N9, NP, NE, NB, hlt0, hVs⟩ := giveV (v := .slice (some ⟨gb, go, none⟩) os.length c') (x := .int .i64 y'.size) (y := .slice A3 y'.free.length c3) (unhide ho) (unhide hb3) (unhide M9) (unhide MP) (unhide hE3) (unhide bw) y9 hwg' _ rfl
                generalize (wc.setCell ⟨g9, 0, none⟩ (.int .i64 y'.size)).setCell ⟨g9, 1, none⟩ (.slice A3 y'.free.length c3) = V0 at *
                have S1 : SrcOk V0.drew A6 q ((os.take q).flatMap exv) := unhide src1 V0.drew _ (Exs.of_own N0)
                have S2 : ∀ w5, V0.drew.grownBy w5 none → SrcOk w5 A7 (os.length - (q + 1)) ((os.drop (q + 1)).flatMap exv) := fun w5 hg => unhide src2 w5 _ ((Exs.of_own N0).keep (Agree.grown (Agree.refl _ _ V0.drew) hg (Nat.le_refl _) (fun k hk => by cases hk)))
                have NB' := NB.size
                replace S1 := hide S1; replace S2 := hide S2; replace N0 := hide N0; replace N9 := hide N9; replace NP := hide NP; replace NE := hide NE; replace NB := hide NB; replace hlt0 := hide hlt0
                clear m0 m1 m2 m3 x0 x1 y3 yx
                go_region_held3 (fun _ => True) (trivial) (first
                  | (refine step_app_at rfl (.const (.slice none 0 0)) (.tmp 80) 22 rfl w.heap.size 26 i0 _ 2 16 Try.underlying22 hi0 iz0 iz1 iz2 rfl (Nat.succ_pos _) _ 0 [] rfl own_nil A6 q _ ((os.take q).flatMap exv) rfl (unhide len1) (unhide S1) (unhide one1) (unhide b1) (unhide b2) NB' ?_
                     intro v5 w5 ho5 hg5 hl5
                     replace hg5 : V0.drew.grownBy w5 none := hg5
                     have S3 := unhide S2 w5 hg5
                     have hz5 : V0.heap.size ≤ w5.heap.size := hg5.size
                     have NB5 : w.heap.size ≤ w5.heap.size := Nat.le_trans NB' hz5
                     replace S3 := hide S3; replace ho5 := hide ho5; replace hg5 := hide hg5; replace hl5 := hide hl5)
                  | (refine step_app_at rfl (.tmp 81) (.tmp 85) 22 rfl w.heap.size 26 i0 _ 2 16 Try.underlying22 hi0 iz0 iz1 iz2 rfl (Nat.succ_pos _) _ (0 + q) ([] ++ (os.take q).flatMap exv) rfl (unhide ho5) A7 (os.length - (q + 1)) _ ((os.drop (q + 1)).flatMap exv) rfl (unhide len2) (unhide S3) (unhide one2) (by rw [Nat.zero_add]; exact unhide b3) (by rw [Nat.zero_add]; exact unhide b4) NB5 ?_
                     intro v6 w6 ho6 hg6 hl6
                     obtain ⟨A8, c8, rfl⟩ := ownsRow_form ho6
                     replace ho6 := hide ho6; replace hg6 := hide hg6; replace hl6 := hide hl6))
                obtain ⟨E6, P6, R9, RP, RB⟩ := giveEnd (unhide NE) (unhide N9) (unhide NP) (unhide NB) (unhide hg5) (unhide hl5) (unhide hg6) (unhide hl6)
                rw [List.nil_append, ← List.flatMap_append, Nat.zero_add, ← unhide hos2] at ho6
                rw [Nat.zero_add, ← unhide hos2] at P6
                replace E6 := hide E6; replace P6 := hide P6; replace R9 := hide R9; replace RP := hide RP; replace RB := hide RB
                go_wp2_with fail
                go_roundw
                case rel =>
                  have hos' := unhide hos
                  have hq2 := unhide hqm
                  have hl2 := unhide hos2
                  refine ⟨j + 1, os.take q ++ os.drop (q + 1), y', A3, c3, A8, c8, by omega, by go_num, by rw [hl2], ?_, hI', ?_, E6, P6, R9, RP, RB⟩
                  · right
                    rw [hl2]
                    rcases hos' with h | h
                    · rw [h] at hq2; exact absurd hq2 (by simp)
                    · omega
                  · exact ho6
                case measure => simp [intOf]; omega
          · obtain rfl : os = [] := by
              rcases hos with h | h
              · exact h
              · exact List.eq_nil_of_length_eq_zero (by omega)
            have hyx := hI.done
            subst hyx
            have hbwF := unhide bw
            have hxF := unhide hE
            replace hbwF := hide hbwF; replace hxF := hide hxF
            have pF := unhide BP
            have pF0 := pF.cell 0
            have pF1 := pF.cell 1
            simp at pF0 pF1
            have qF := unhide B9
            have qF0 := qF.cell 0
            have qF1 := qF.cell 1
            simp at qF0 qF1
            have yF : w.heap.size < wr.heap.size := pF.lt
            have yG : g9 < wr.heap.size := qF.lt
            replace pF := hide pF; replace qF := hide qF
            go_wp2_with (first
              | (go_at_call 22; refine (unhide hC _ (unhide hbwF)).mono ?_; rintro e wc ⟨rfl, hbc⟩; have BPc := (unhide pF).below hbc yF; have B9c := (unhide qF).below hbc yG; have pc0 := BPc.cell 0; have pc1 := BPc.cell 1; have qc0 := B9c.cell 0; have qc1 := B9c.cell 1; simp at pc0 pc1 qc0 qc1; replace BPc := hide BPc; replace B9c := hide B9c)
              | (go_at_call 24; refine (same_true _ _ _ _ y _ ((unhide h).grow (bl_call (unhide hbwF) hbc)) (XsR.grow (lo := 0) ⟨_, rfl, unhide hxF⟩ hbc)).mono ?_; rintro e wd ⟨rfl, hbd⟩)
              | fail)
            go_ret
            exact ⟨rfl, bl_call (bl_call (unhide hbwF) hbc) hbd⟩
    · obtain rfl : k = ord.length := by omega
      go_wp2_with fail
      go_loopw [8, 54] (fun s8 i wx => ∃ (j : Nat) (os : List Ex) (y : Xs) (Ay : Option Addr) (cy : Nat) (A : Option Addr) (c' : Nat), j ≤ ord.length ∧ i = .int .i64 j ∧ s8 = .slice A os.length c' ∧ (os = [] ∨ os.length + j ≤ ord.length) ∧ Inv x y os ∧ Hid (wx.ownsRow w.heap.size 26 2 (.slice A os.length c') os.length (os.flatMap exv)) ∧ Hid (Exs 0 wx.heap.size wx (.slice Ay y.free.length cy) y.free) ∧ Hid (Apart Ay y.free.length (.slice A os.length c')) ∧ Hid (Blk wx g9 24 #[.int .i64 y.size, .slice Ay y.free.length cy]) ∧ Hid (Blk wx w.heap.size 24 #[.int .i64 x.size, .slice Ax x.free.length cx]) ∧ Hid (Below w.heap.size w wx)) (fun _ i _ => ord.length - (intOf i).toNat)
      case atStart => exact ⟨0, os, y, Ay, cy, A, c', Nat.zero_le _, rfl, rfl, .inr (by omega), hI, ho, hE, hAp, B9, BP, bw⟩
      case round =>
        try clear ho hE hAp B9 BP bw
        clear hI
        obtain ⟨j, os, y, Ay, cy, A, c', hj, rfl, rfl, hos, hI, ho, hE, hAp, B9, BP, bw⟩ := hrel
        by_cases hlt : j < ord.length
        · obtain ⟨bo, oo, rfl, o1, o2, o3⟩ := unhide hord j hlt
          have z0 := ((unhide bw).cell (p := ⟨bo, oo + j, none⟩) o2).trans o3
          obtain ⟨zr0, zr1⟩ := unhide hzr ord[j] (List.getElem_mem _)
          generalize ord[j] = z at *
          have yo : bo < wr.heap.size := World.block_lt_of_cell? wr _ z0
          by_cases hm : os.length = 0
          · obtain rfl := List.eq_nil_of_length_eq_zero hm
            clear hm o1 o2 o3
            have hyx := hI.done
            subst hyx
            have hbwF := unhide bw
            have hxF := unhide hE
            replace hbwF := hide hbwF; replace hxF := hide hxF
            have pF := unhide BP
            have pF0 := pF.cell 0
            have pF1 := pF.cell 1
            simp at pF0 pF1
            have qF := unhide B9
            have qF0 := qF.cell 0
            have qF1 := qF.cell 1
            simp at qF0 qF1
            have yF : w.heap.size < wr.heap.size := pF.lt
            have yG : g9 < wr.heap.size := qF.lt
            replace pF := hide pF; replace qF := hide qF
            go_wp2_with (first
              | (go_at_call 22; refine (unhide hC _ (unhide hbwF)).mono ?_; rintro e wc ⟨rfl, hbc⟩; have BPc := (unhide pF).below hbc yF; have B9c := (unhide qF).below hbc yG; have pc0 := BPc.cell 0; have pc1 := BPc.cell 1; have qc0 := B9c.cell 0; have qc1 := B9c.cell 1; simp at pc0 pc1 qc0 qc1; replace BPc := hide BPc; replace B9c := hide B9c)
              | (go_at_call 24; refine (same_true _ _ _ _ y _ ((unhide h).grow (bl_call (unhide hbwF) hbc)) (XsR.grow (lo := 0) ⟨_, rfl, unhide hxF⟩ hbc)).mono ?_; rintro e wd ⟨rfl, hbd⟩)
              | fail)
            go_ret
            exact ⟨rfl, bl_call (bl_call (unhide hbwF) hbc) hbd⟩
          · have hmp : 0 < os.length := by omega
            obtain ⟨q, hq⟩ : ∃ q : Nat, z % (os.length : Int) = (q : Int) := ⟨_, (Int.toNat_of_nonneg (Int.emod_nonneg _ (by omega))).symm⟩
            have hqm : q < os.length := by have := Int.emod_lt_of_pos z (b := (os.length : Int)) (by omega); omega
            have hm40 : os.length ≤ 40 := by
              rcases hos with h | h
              · rw [h]; simp
              · omega
            have e0 : IntKind.i64.wrap z = z := IntWalk.i64_in _ (by omega)
            have e2 : z.tmod (os.length : Int) = (q : Int) := by rw [Int.tmod_eq_emod_of_nonneg zr0]; exact hq
            have hm0 : ((os.length : Int) == 0) = false := by rw [beq_eq_false_iff_ne]; omega
            have e3 : IntKind.i64.wrap ((q : Int) + 1) = (q : Int) + 1 := IntWalk.i64_in _ (by omega)
            have hqm' : (q : Int) < (os.length : Int) := by omega
            obtain ⟨y', hG, hI', hlen⟩ := hI.give hqm
            have hEo := Exs.of_own (e := 26) (unhide ho)
            obtain ⟨A5, c5, e5, hc1, hc2, hoc⟩ := hEo.open
            injection e5 with e6 e7 e8
            clear e7
            subst e6 e8
            obtain ⟨gb, go, rfl, _, glt, p0, p1⟩ := hoc q hqm
            have hGv := fun (W : World) (hx : XsR 0 W.heap.size W (.agg #[.int .i64 y.size, .slice Ay y.free.length cy]) y) => give_at hG (rgs_ok hI.oky) (by omega) 0 _ W hx
            generalize os[q] = s at *
            obtain ⟨sa, sl⟩ := s
            simp only [exV] at hGv p0 p1
            obtain ⟨A6, e6, _⟩ := hEo.part 0 q (Nat.zero_le _) (by omega)
            obtain ⟨A7, e7, _⟩ := hEo.part (q + 1) os.length (by omega) (Nat.le_refl _)
            have sl1 := fun W => (slice_h (some ⟨gb, go, none⟩) os.length c' q (by omega) W).trans (by rw [e6])
            have sl2 := fun W => (slice_l (some ⟨gb, go, none⟩) os.length c' (q + 1) (by omega) W).trans (by rw [e7])
            rw [show ((q + 1 : Nat) : Int) = (q : Int) + 1 by omega] at sl2
            simp only [Nat.sub_zero] at sl1
            have q0 := (unhide B9).cell 0
            have q1 := (unhide B9).cell 1
            simp at q0 q1
            have yP : w.heap.size < wr.heap.size := (unhide BP).lt
            have y9 : g9 < wr.heap.size := (unhide B9).lt
            have hwg' := unhide hwg
            have len1 : ((os.take q).flatMap exv).length = q * 2 := by rw [flat_len, List.length_take]; omega
            have len2 : ((os.drop (q + 1)).flatMap exv).length = (os.length - (q + 1)) * 2 := by rw [flat_len, List.length_drop]
            have one1 := flat_one (os.take q)
            have one2 := flat_one (os.drop (q + 1))
            have b1 : 0 + q ≤ maxLen := by simp only [maxLen]; omega
            have b2 : (0 + q) * 16 ≤ 140737488355328 := by omega
            have b3 : q + (os.length - (q + 1)) ≤ maxLen := by simp only [maxLen]; omega
            have b4 : (q + (os.length - (q + 1))) * 16 ≤ 140737488355328 := by omega
            have src1 := fun W hi (hE : Exs w.heap.size hi W (.slice (some ⟨gb, go, none⟩) os.length c') os) => part_src hE (Nat.zero_le _) (by omega) e6
            have src2 := fun W hi (hE : Exs w.heap.size hi W (.slice (some ⟨gb, go, none⟩) os.length c') os) => part_src hE (by omega) (Nat.le_refl _) e7
            simp only [Nat.sub_zero, List.drop_zero] at src1
            rw [show (os.drop (q + 1)).take (os.length - (q + 1)) = os.drop (q + 1) from List.take_of_length_le (by rw [List.length_drop]; omega)] at src2
            have hos2 : (os.take q ++ os.drop (q + 1)).length = q + (os.length - (q + 1)) := by rw [List.length_append, List.length_take, List.length_drop]; omega
            clear hoc hG hI hlen e6 e7 o1 o2 o3 hEo hm hmp
            replace hGv := hide hGv; replace len1 := hide len1; replace len2 := hide len2; replace one1 := hide one1; replace one2 := hide one2; replace b1 := hide b1; replace b2 := hide b2; replace b3 := hide b3; replace b4 := hide b4; replace src1 := hide src1; replace src2 := hide src2; replace hos2 := hide hos2; replace hos := hide hos; replace hwg' := hide hwg'
            replace hqm := hide hqm
            go_upto_region 18 with fail
            go_cut [16, 17] (fun s16 s17 wx => ∃ (g16 : Nat) (A3 : Option Addr) (c3 : Nat), s16 = .pointer (some ⟨g16, 0, none⟩) ∧ s17 = .int .i64 0 ∧ Hid (Exs wr.heap.size wx.heap.size wx (.slice A3 y'.free.length c3) y'.free) ∧ Hid (Blk wx g16 24 #[.int .i64 y'.size, .slice A3 y'.free.length c3]) ∧ Hid (Below wr.heap.size wr wx))
            case first =>
              go_region_held3 (fun W => W.cell? ⟨g9, 0, none⟩ = some (.int .i64 y.size) ∧ W.cell? ⟨g9, 1, none⟩ = some (.slice Ay y.free.length cy) ∧ W.cell? ⟨gb, go + q * 2, none⟩ = some (.int .i64 sa) ∧ W.cell? ⟨gb, go + q * 2 + 1, none⟩ = some (.int .i64 sl)) (first | exact ⟨by assumption, by assumption, by assumption, by assumption⟩ | exact ⟨by go_simp, by go_simp, by go_simp, by go_simp⟩)
                (first
                  | (go_at_call 15; refine (unhide hGv _ (by first | exact ⟨_, rfl, unhide hE⟩ | exact ⟨_, rfl, (unhide hE).grow (Below.drew (Below.refl _ _))⟩ | exact ⟨_, rfl, (unhide hE).grow (Below.drew (bl_alloc (Below.refl _ _) _))⟩)).mono ?_; rintro e w3 ⟨A3, c3, rfl, hx3, hb3⟩; have hE3 := hx3.exs; obtain ⟨hc3, hf3⟩ := bcell hb3; have hz3 := hb3.size; (try simp at hz3); have y3 : g9 < w3.heap.size := (by omega); have yb3 : gb < w3.heap.size := (by omega); have yw3 : wr.heap.size ≤ w3.heap.size := (by omega); have m0 : w3.cell? ⟨g9, 0, none⟩ = some (.int .i64 y.size) := (hc3 g9 (0) (by first | exact y9 | (simp; omega))).trans (by first | exact q0 | go_simp); have m1 : w3.cell? ⟨g9, 1, none⟩ = some (.slice Ay y.free.length cy) := (hc3 g9 (1) (by first | exact y9 | (simp; omega))).trans (by first | exact q1 | go_simp); have n0 : w3.cell? ⟨gb, go + q * 2, none⟩ = some (.int .i64 sa) := (hc3 gb (go + q * 2) (by first | exact glt | (simp; omega))).trans (by first | exact p0 | go_simp); have n1 : w3.cell? ⟨gb, go + q * 2 + 1, none⟩ = some (.int .i64 sl) := (hc3 gb (go + q * 2 + 1) (by first | exact glt | (simp; omega))).trans (by first | exact p1 | go_simp); replace hE3 := hide hE3; clear hx3))
              all_goals
                go_wp2_with fail
                go_meet
                first
                  | (obtain ⟨k1, k2, k3⟩ := cutA (wr := wr) (a := .int .i64 y'.size) (unhide hE3) hb3; exact ⟨_, _, _, rfl, rfl, hide k1, hide k2, hide k3⟩)
                  | (obtain ⟨k1, k2, k3⟩ := cutB (wr := wr) (a := .int .i64 y'.size) (unhide hE3) hb3; exact ⟨_, _, _, rfl, rfl, hide k1, hide k2, hide k3⟩)
            case rest =>
              obtain ⟨g16, A3, c3, rfl, rfl, hE3, hX, hb3⟩ := hcut
              obtain ⟨hc3, hf3⟩ := bcell (unhide hb3)
              have hz3 := (unhide hb3).size
              have M9 : Blk wc g9 24 #[.int .i64 y.size, .slice Ay y.free.length cy] := Blk.below (unhide B9) (unhide hb3) y9
              have MP : Blk wc w.heap.size 24 #[.int .i64 x.size, .slice Ax x.free.length cx] := Blk.below (unhide BP) (unhide hb3) yP
              have m0 := M9.cell 0
              have m1 := M9.cell 1
              have m2 := M9.frozen 0
              have m3 := M9.frozen 1
              have x0 := (unhide hX).cell 0
              have x1 := (unhide hX).cell 1
              simp at m0 m1 x0 x1
              have y3 : g9 < wc.heap.size := M9.lt
              have yx : g16 < wc.heap.size := (unhide hX).lt
              replace M9 := hide M9
              replace MP := hide MP
              clear hc3 hf3
              go_wp2_with fail
              obtain ⟨N0, N9, NP, NE, NB, hlt0, hVs⟩ := giveV (v := .slice (some ⟨gb, go, none⟩) os.length c') (x := .int .i64 y'.size) (y := .slice A3 y'.free.length c3) (unhide ho) (unhide hb3) (unhide M9) (unhide MP) (unhide hE3) (unhide bw) y9 hwg' _ rfl
              generalize (wc.setCell ⟨g9, 0, none⟩ (.int .i64 y'.size)).setCell ⟨g9, 1, none⟩ (.slice A3 y'.free.length c3) = V0 at *
              have S1 : SrcOk V0.drew A6 q ((os.take q).flatMap exv) := unhide src1 V0.drew _ (Exs.of_own N0)
              have S2 : ∀ w5, V0.drew.grownBy w5 none → SrcOk w5 A7 (os.length - (q + 1)) ((os.drop (q + 1)).flatMap exv) := fun w5 hg => unhide src2 w5 _ ((Exs.of_own N0).keep (Agree.grown (Agree.refl _ _ V0.drew) hg (Nat.le_refl _) (fun k hk => by cases hk)))
              have NB' := NB.size
              replace S1 := hide S1; replace S2 := hide S2; replace N0 := hide N0; replace N9 := hide N9; replace NP := hide NP; replace NE := hide NE; replace NB := hide NB; replace hlt0 := hide hlt0
              clear m0 m1 m2 m3 x0 x1 y3 yx
              go_region_held3 (fun _ => True) (trivial) (first
                | (refine step_app_at rfl (.const (.slice none 0 0)) (.tmp 80) 22 rfl w.heap.size 26 i0 _ 2 16 Try.underlying22 hi0 iz0 iz1 iz2 rfl (Nat.succ_pos _) _ 0 [] rfl own_nil A6 q _ ((os.take q).flatMap exv) rfl (unhide len1) (unhide S1) (unhide one1) (unhide b1) (unhide b2) NB' ?_
                   intro v5 w5 ho5 hg5 hl5
                   replace hg5 : V0.drew.grownBy w5 none := hg5
                   have S3 := unhide S2 w5 hg5
                   have hz5 : V0.heap.size ≤ w5.heap.size := hg5.size
                   have NB5 : w.heap.size ≤ w5.heap.size := Nat.le_trans NB' hz5
                   replace S3 := hide S3; replace ho5 := hide ho5; replace hg5 := hide hg5; replace hl5 := hide hl5)
                | (refine step_app_at rfl (.tmp 81) (.tmp 85) 22 rfl w.heap.size 26 i0 _ 2 16 Try.underlying22 hi0 iz0 iz1 iz2 rfl (Nat.succ_pos _) _ (0 + q) ([] ++ (os.take q).flatMap exv) rfl (unhide ho5) A7 (os.length - (q + 1)) _ ((os.drop (q + 1)).flatMap exv) rfl (unhide len2) (unhide S3) (unhide one2) (by rw [Nat.zero_add]; exact unhide b3) (by rw [Nat.zero_add]; exact unhide b4) NB5 ?_
                   intro v6 w6 ho6 hg6 hl6
                   obtain ⟨A8, c8, rfl⟩ := ownsRow_form ho6
                   replace ho6 := hide ho6; replace hg6 := hide hg6; replace hl6 := hide hl6))
              obtain ⟨E6, P6, R9, RP, RB⟩ := giveEnd (unhide NE) (unhide N9) (unhide NP) (unhide NB) (unhide hg5) (unhide hl5) (unhide hg6) (unhide hl6)
              rw [List.nil_append, ← List.flatMap_append, Nat.zero_add, ← unhide hos2] at ho6
              rw [Nat.zero_add, ← unhide hos2] at P6
              replace E6 := hide E6; replace P6 := hide P6; replace R9 := hide R9; replace RP := hide RP; replace RB := hide RB
              go_wp2_with fail
              go_roundw
              case rel =>
                have hos' := unhide hos
                have hq2 := unhide hqm
                have hl2 := unhide hos2
                refine ⟨j + 1, os.take q ++ os.drop (q + 1), y', A3, c3, A8, c8, by omega, by go_num, by rw [hl2], ?_, hI', ?_, E6, P6, R9, RP, RB⟩
                · right
                  rw [hl2]
                  rcases hos' with h | h
                  · rw [h] at hq2; exact absurd hq2 (by simp)
                  · omega
                · exact ho6
              case measure => simp [intOf]; omega
        · obtain rfl : os = [] := by
            rcases hos with h | h
            · exact h
            · exact List.eq_nil_of_length_eq_zero (by omega)
          have hyx := hI.done
          subst hyx
          have hbwF := unhide bw
          have hxF := unhide hE
          replace hbwF := hide hbwF; replace hxF := hide hxF
          have pF := unhide BP
          have pF0 := pF.cell 0
          have pF1 := pF.cell 1
          simp at pF0 pF1
          have qF := unhide B9
          have qF0 := qF.cell 0
          have qF1 := qF.cell 1
          simp at qF0 qF1
          have yF : w.heap.size < wr.heap.size := pF.lt
          have yG : g9 < wr.heap.size := qF.lt
          replace pF := hide pF; replace qF := hide qF
          go_wp2_with (first
            | (go_at_call 22; refine (unhide hC _ (unhide hbwF)).mono ?_; rintro e wc ⟨rfl, hbc⟩; have BPc := (unhide pF).below hbc yF; have B9c := (unhide qF).below hbc yG; have pc0 := BPc.cell 0; have pc1 := BPc.cell 1; have qc0 := B9c.cell 0; have qc1 := B9c.cell 1; simp at pc0 pc1 qc0 qc1; replace BPc := hide BPc; replace B9c := hide B9c)
            | (go_at_call 24; refine (same_true _ _ _ _ y _ ((unhide h).grow (bl_call (unhide hbwF) hbc)) (XsR.grow (lo := 0) ⟨_, rfl, unhide hxF⟩ hbc)).mono ?_; rintro e wd ⟨rfl, hbd⟩)
            | fail)
          go_ret
          exact ⟨rfl, bl_call (bl_call (unhide hbwF) hbc) hbd⟩
end Go.Proofs.Yteokimebfbnlkaa
