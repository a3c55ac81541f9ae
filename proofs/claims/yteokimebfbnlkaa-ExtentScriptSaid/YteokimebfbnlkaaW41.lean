import Derived.Test.YteokimebfbnlkaaL40
namespace Go.Proofs.Yteokimebfbnlkaa
open Go.RowKit

set_option maxRecDepth 100000 in
set_option maxHeartbeats 32000000 in
theorem script_ok (n : Nat) (v : Value) (l : List Int) (w : World) (h : Hs 0 w.heap.size w v l) (hz : ∀ z ∈ l, -32768 ≤ z ∧ z ≤ 32767) (hn : n ≤ 60) (hL : l.length ≤ 60) :
    Calls Try.prog 7 #[.int .i64 n, v] w fun e w' => e = .returned (.bool true) ∧ Below w.heap.size w w' := by
  obtain ⟨i0, hi0, iz0, iz1, iz2⟩ := info_parts info26
  obtain ⟨i3, hi3, jz0, jz1, jz2⟩ := info_parts info3
  have hmk := run_mk (P := Try.prog) 45 3 i3 _ 1 Try.underlying45 hi3 jz0 jz1 n (by rw [jz2]; omega) (by omega)
  rw [made_own] at hmk
  have hnB : sizeB n = true := by simp [sizeB]; omega
  have hNew : ∀ W, Calls Try.prog 17 #[.int .i64 n] W fun e w' => ∃ A c, e = .returned (.tuple #[.agg #[.int .i64 (newX n).size, .slice A (newX n).free.length c], .int .i64 0]) ∧ XsR W.heap.size w'.heap.size w' (.agg #[.int .i64 (newX n).size, .slice A (newX n).free.length c]) (newX n) ∧ Below W.heap.size W w' := fun W => (new_any n W).mono fun e w' ⟨A, c, y, er, he, hc, hx, hb⟩ => by
    rcases hc with ⟨h0, _⟩ | ⟨_, rfl, rfl⟩
    · rw [hnB] at h0; cases h0
    · exact ⟨A, c, he, hx, hb⟩
  have hI0 := Inv.start (newX_ok hnB).1
  obtain ⟨Bl, cl, rfl, m1, m2, hlc⟩ := h.open
  clear h
  have gd1 : ¬ (60 : Int) < (n : Int) := by omega
  have gd2 : ¬ (60 : Int) < l.length := by omega
  generalize hx0 : newX n = x0 at *
  replace hNew := hide hNew; replace hlc := hide hlc; replace hz := hide hz; replace hmk := hide hmk; replace hnB := hide hnB; replace hx0 := hide hx0
  go_enter Try.func7, Try.ntmps7
  go_wp2_with (first
    | (go_at_call 9; refine (live_any _).mono ?_; rintro e w1 ⟨rfl, hb1⟩)
    | (go_at_call 17; refine (unhide hNew _).mono ?_; rintro e w2 ⟨Ay, cy, rfl, hx2, hb2⟩; have hE2 := hx2.exs; replace hE2 := hide hE2; clear hx2)
    | fail)
  obtain ⟨g6, hg6⟩ : ∃ g6, g6 = w2.heap.size := ⟨_, rfl⟩
  rw [← hg6]
  have bw2 : Below w.heap.size w w2 := bl_call hb1 hb2
  have hwg : w.heap.size ≤ g6 := by rw [hg6]; exact bw2.size
  clear hb1 hb2
  replace hg6 := hide hg6; replace bw2 := hide bw2
  go_loopw [8, 46] (fun s8 i wx => ∃ (k : Nat) (os : List Ex) (y : Xs) (Ay : Option Addr) (cy : Nat) (A : Option Addr) (c' : Nat), k ≤ l.length ∧ i = .int .i64 k ∧ s8 = .slice A os.length c' ∧ os.length ≤ k ∧ Inv x0 y os ∧ Hid (wx.ownsRow w.heap.size 26 2 (.slice A os.length c') os.length (os.flatMap exv)) ∧ Hid (Exs 0 wx.heap.size wx (.slice Ay y.free.length cy) y.free) ∧ Hid (Apart Ay y.free.length (.slice A os.length c')) ∧ Hid (Blk wx g6 24 #[.int .i64 y.size, .slice Ay y.free.length cy]) ∧ Hid (Below w.heap.size w wx)) (fun _ i _ => l.length - (intOf i).toNat)
  case atStart =>
    refine ⟨0, [], x0, Ay, cy, none, 0, Nat.zero_le _, rfl, rfl, Nat.le_refl _, hI0, hide (World.ownsRow_nil _ _ _ _), hide ?_, hide (fun _ _ _ e => by cases e), hide (Blk.new (unhide hg6)), hide (bl_alloc (unhide bw2) _)⟩
    exact ((unhide hE2).grow (bl_alloc (Below.refl _ _) _)).mono (Nat.zero_le _) (Nat.le_refl _)
  case round =>
    clear hI0 bw2 hE2
    obtain ⟨k, os, y, Ay, cy, A, c', hk, rfl, rfl, hosk, hI, ho, hE, hAp, B6, bw⟩ := hrel
    have hx0' := unhide hx0
    subst hx0'
    replace hnB := unhide hnB
    by_cases hlt : k < l.length
    · obtain ⟨bo, oo, rfl, o1, o2, o3⟩ := unhide hlc k hlt
      have z0 := ((unhide bw).cell (p := ⟨bo, oo + k, none⟩) o2).trans o3
      obtain ⟨zr0, zr1⟩ := unhide hz l[k] (List.getElem_mem _)
      generalize l[k] = z at *
      have yo : bo < wr.heap.size := World.block_lt_of_cell? wr _ z0
      clear o3 o2 o1
      by_cases hneg : z < 0 ∧ os.length ≠ 0
      · obtain ⟨hzn, hm0⟩ := hneg
        have hmp : 0 < os.length := by omega
        obtain ⟨q, hq⟩ : ∃ q : Nat, (-z) % (os.length : Int) = (q : Int) := ⟨_, (Int.toNat_of_nonneg (Int.emod_nonneg _ (by omega))).symm⟩
        have hqm : q < os.length := by have := Int.emod_lt_of_pos (-z) (b := (os.length : Int)) (by omega); omega
        have hm40 : os.length ≤ 60 := by omega
        have e0 : IntKind.i64.wrap z = z := IntWalk.i64_in _ (by omega)
        have eN : IntKind.i64.wrap (-z) = -z := IntWalk.i64_in _ (by omega)
        have e2 : -(z.tmod (os.length : Int)) = (q : Int) := by rw [← Int.neg_tmod, Int.tmod_eq_emod_of_nonneg (by omega)]; exact hq
        have hm00 : ((os.length : Int) == 0) = false := by rw [beq_eq_false_iff_ne]; omega
        have e3 : IntKind.i64.wrap ((q : Int) + 1) = (q : Int) + 1 := IntWalk.i64_in _ (by omega)
        have hqm' : (q : Int) < (os.length : Int) := by omega
        have d0 : decide (z < 0) = true := by simpa using hzn
        have d1 : decide (0 < z) = false := by simp; omega
        have d2 : decide (0 < os.length) = true := decide_eq_true (by omega)
        obtain ⟨y', hG, hI', hlen⟩ := hI.give hqm
        have hEo := Exs.of_own (e := 26) (unhide ho)
        obtain ⟨A5, c5, e5, hc1, hc2, hoc⟩ := hEo.open
        injection e5 with e6 e7 e8
        clear e7
        subst e6 e8
        obtain ⟨gb, go, rfl, _, glt, p0, p1⟩ := hoc q hqm
        have hGv := fun (W : World) (hx : XsR 0 W.heap.size W (.agg #[.int .i64 y.size, .slice Ay y.free.length cy]) y) => give_at hG (rgs_ok hI.oky) (by omega) 0 _ W hx
        generalize os[q] = s at *
        obtain ⟨sa, sl⟩ := s
        simp only [exV] at hGv p0 p1
        obtain ⟨A6, e6, _⟩ := hEo.part 0 q (Nat.zero_le _) (by omega)
        obtain ⟨A7, e7, _⟩ := hEo.part (q + 1) os.length (by omega) (Nat.le_refl _)
        have sl1 := fun W => (slice_h (some ⟨gb, go, none⟩) os.length c' q (by omega) W).trans (by rw [e6])
        have sl2 := fun W => (slice_l (some ⟨gb, go, none⟩) os.length c' (q + 1) (by omega) W).trans (by rw [e7])
        rw [show ((q + 1 : Nat) : Int) = (q : Int) + 1 by omega] at sl2
        simp only [Nat.sub_zero] at sl1
        have q0 := (unhide B6).cell 0
        have q1 := (unhide B6).cell 1
        simp at q0 q1
        have y9 : g6 < wr.heap.size := (unhide B6).lt
        have len1 : ((os.take q).flatMap exv).length = q * 2 := by rw [flat_len, List.length_take]; omega
        have len2 : ((os.drop (q + 1)).flatMap exv).length = (os.length - (q + 1)) * 2 := by rw [flat_len, List.length_drop]
        have one1 := flat_one (os.take q)
        have one2 := flat_one (os.drop (q + 1))
        have b1 : 0 + q ≤ maxLen := by simp only [maxLen]; omega
        have b2 : (0 + q) * 16 ≤ 140737488355328 := by omega
        have b3 : q + (os.length - (q + 1)) ≤ maxLen := by simp only [maxLen]; omega
        have b4 : (q + (os.length - (q + 1))) * 16 ≤ 140737488355328 := by omega
        have src1 := fun W hi (hE : Exs w.heap.size hi W (.slice (some ⟨gb, go, none⟩) os.length c') os) => part_src hE (Nat.zero_le _) (by omega) e6
        have src2 := fun W hi (hE : Exs w.heap.size hi W (.slice (some ⟨gb, go, none⟩) os.length c') os) => part_src hE (by omega) (Nat.le_refl _) e7
        simp only [Nat.sub_zero, List.drop_zero] at src1
        rw [show (os.drop (q + 1)).take (os.length - (q + 1)) = os.drop (q + 1) from List.take_of_length_le (by rw [List.length_drop]; omega)] at src2
        have hos2 : (os.take q ++ os.drop (q + 1)).length = q + (os.length - (q + 1)) := by rw [List.length_append, List.length_take, List.length_drop]; omega
        have hos4 : (os.take q ++ os.drop (q + 1)).length ≤ k + 1 := by rw [hos2]; omega
        have hfl4 : (os.take q).flatMap exv ++ (os.drop (q + 1)).flatMap exv = (os.take q ++ os.drop (q + 1)).flatMap exv := by rw [List.flatMap_append]
        generalize os.take q ++ os.drop (q + 1) = os4 at *
        replace hfl4 := hide hfl4
        clear hoc hG hI hlen e6 e7 hEo hmp hm0 hzn hosk
        replace hGv := hide hGv; replace len1 := hide len1; replace len2 := hide len2; replace one1 := hide one1; replace one2 := hide one2; replace b1 := hide b1; replace b2 := hide b2; replace b3 := hide b3; replace b4 := hide b4; replace src1 := hide src1; replace src2 := hide src2; replace hos2 := hide hos2; replace hos4 := hide hos4; replace hI' := hide hI'
        replace hqm := hide hqm
        go_upto_region 13 with fail
        go_cut [12, 13] (fun s16 s17 wx => ∃ (g16 : Nat) (A3 : Option Addr) (c3 : Nat), s16 = .pointer (some ⟨g16, 0, none⟩) ∧ s17 = .int .i64 0 ∧ Hid (Exs wr.heap.size wx.heap.size wx (.slice A3 y'.free.length c3) y'.free) ∧ Hid (Blk wx g16 24 #[.int .i64 y'.size, .slice A3 y'.free.length c3]) ∧ Hid (Below wr.heap.size wr wx))
        case first =>
          go_region_held3 (fun W => W.cell? ⟨g6, 0, none⟩ = some (.int .i64 y.size) ∧ W.cell? ⟨g6, 1, none⟩ = some (.slice Ay y.free.length cy) ∧ W.cell? ⟨gb, go + q * 2, none⟩ = some (.int .i64 sa) ∧ W.cell? ⟨gb, go + q * 2 + 1, none⟩ = some (.int .i64 sl)) (first | exact ⟨by assumption, by assumption, by assumption, by assumption⟩ | exact ⟨by go_simp, by go_simp, by go_simp, by go_simp⟩)
            (first
              | (go_at_call 15; refine (unhide hGv _ (by first | exact ⟨_, rfl, unhide hE⟩ | exact ⟨_, rfl, (unhide hE).grow (Below.drew (Below.refl _ _))⟩ | exact ⟨_, rfl, (unhide hE).grow (Below.drew (bl_alloc (Below.refl _ _) _))⟩)).mono ?_; rintro e w3 ⟨A3, c3, rfl, hx3, hb3⟩; have hE3 := hx3.exs; obtain ⟨hc3, hf3⟩ := bcell hb3; have hz3 := hb3.size; (try simp at hz3); have y3 : g6 < w3.heap.size := (by omega); have yb3 : gb < w3.heap.size := (by omega); have yw3 : wr.heap.size ≤ w3.heap.size := (by omega); have m0 : w3.cell? ⟨g6, 0, none⟩ = some (.int .i64 y.size) := (hc3 g6 (0) (by first | exact y9 | (simp; omega))).trans (by first | exact q0 | go_simp); have m1 : w3.cell? ⟨g6, 1, none⟩ = some (.slice Ay y.free.length cy) := (hc3 g6 (1) (by first | exact y9 | (simp; omega))).trans (by first | exact q1 | go_simp); have n0 : w3.cell? ⟨gb, go + q * 2, none⟩ = some (.int .i64 sa) := (hc3 gb (go + q * 2) (by first | exact glt | (simp; omega))).trans (by first | exact p0 | go_simp); have n1 : w3.cell? ⟨gb, go + q * 2 + 1, none⟩ = some (.int .i64 sl) := (hc3 gb (go + q * 2 + 1) (by first | exact glt | (simp; omega))).trans (by first | exact p1 | go_simp); replace hE3 := hide hE3; clear hx3))
          all_goals
            go_wp2_with fail
            go_meet
            first
              | (obtain ⟨k1, k2, k3⟩ := cutA (wr := wr) (a := .int .i64 y'.size) (unhide hE3) hb3; exact ⟨_, _, _, rfl, rfl, hide k1, hide k2, hide k3⟩)
              | (obtain ⟨k1, k2, k3⟩ := cutB (wr := wr) (a := .int .i64 y'.size) (unhide hE3) hb3; exact ⟨_, _, _, rfl, rfl, hide k1, hide k2, hide k3⟩)
        case rest =>
          obtain ⟨g16, A3, c3, rfl, rfl, hE3, hX, hb3⟩ := hcut
          have hz3 := (unhide hb3).size
          have M9 : Blk wc g6 24 #[.int .i64 y.size, .slice Ay y.free.length cy] := Blk.below (unhide B6) (unhide hb3) y9
          have m0 := M9.cell 0
          have m1 := M9.cell 1
          have m2 := M9.frozen 0
          have m3 := M9.frozen 1
          have x0 := (unhide hX).cell 0
          have x1 := (unhide hX).cell 1
          simp at m0 m1 x0 x1
          have y3 : g6 < wc.heap.size := M9.lt
          have yx : g16 < wc.heap.size := (unhide hX).lt
          replace M9 := hide M9
          go_wp2_with fail
          obtain ⟨N0, N9, NE, NB, hlt0, hVs⟩ := giveV2 (v := .slice (some ⟨gb, go, none⟩) os.length c') (x := .int .i64 y'.size) (y := .slice A3 y'.free.length c3) (unhide ho) (unhide hb3) (unhide M9) (unhide hE3) (unhide bw) y9 hwg _ rfl
          generalize (wc.setCell ⟨g6, 0, none⟩ (.int .i64 y'.size)).setCell ⟨g6, 1, none⟩ (.slice A3 y'.free.length c3) = V0 at *
          have S1 : SrcOk V0.drew A6 q ((os.take q).flatMap exv) := unhide src1 V0.drew _ (Exs.of_own N0)
          have S2 : ∀ w5, V0.drew.grownBy w5 none → SrcOk w5 A7 (os.length - (q + 1)) ((os.drop (q + 1)).flatMap exv) := fun w5 hg => unhide src2 w5 _ ((Exs.of_own N0).keep (Agree.grown (Agree.refl _ _ V0.drew) hg (Nat.le_refl _) (fun k hk => by cases hk)))
          have NB' := NB.size
          replace S1 := hide S1; replace S2 := hide S2; replace N0 := hide N0; replace N9 := hide N9; replace NE := hide NE; replace NB := hide NB; replace hlt0 := hide hlt0
          clear m0 m1 m2 m3 x0 x1 y3 yx
          go_region_held3 (fun _ => True) (trivial) (first
            | (refine step_app_at rfl (.const (.slice none 0 0)) (.tmp 77) 22 rfl w.heap.size 26 i0 _ 2 16 Try.underlying22 hi0 iz0 iz1 iz2 rfl (Nat.succ_pos _) _ 0 [] rfl own_nil A6 q _ ((os.take q).flatMap exv) rfl (unhide len1) (unhide S1) (unhide one1) (unhide b1) (unhide b2) NB' ?_
               intro v5 w5 ho5 hg5 hl5
               replace hg5 : V0.drew.grownBy w5 none := hg5
               have S3 := unhide S2 w5 hg5
               have hz5 : V0.heap.size ≤ w5.heap.size := hg5.size
               have NB5 : w.heap.size ≤ w5.heap.size := Nat.le_trans NB' hz5
               replace S3 := hide S3; replace ho5 := hide ho5; replace hg5 := hide hg5; replace hl5 := hide hl5)
            | (refine step_app_at rfl (.tmp 78) (.tmp 82) 22 rfl w.heap.size 26 i0 _ 2 16 Try.underlying22 hi0 iz0 iz1 iz2 rfl (Nat.succ_pos _) _ (0 + q) ([] ++ (os.take q).flatMap exv) rfl (unhide ho5) A7 (os.length - (q + 1)) _ ((os.drop (q + 1)).flatMap exv) rfl (unhide len2) (unhide S3) (unhide one2) (by rw [Nat.zero_add]; exact unhide b3) (by rw [Nat.zero_add]; exact unhide b4) NB5 ?_
               intro v6 w6 ho6 hg6 hl6
               rw [List.nil_append, unhide hfl4, Nat.zero_add, ← unhide hos2] at ho6
               obtain ⟨A8, c8, rfl⟩ := ownsRow_form ho6
               replace ho6 := hide ho6; replace hg6 := hide hg6; replace hl6 := hide hl6))
          obtain ⟨E6, P6, R9, RB⟩ := giveEnd2 (unhide NE) (unhide N9) (unhide NB) (unhide hg5) (unhide hl5) (unhide hg6) (unhide hl6)
          replace ho6 := unhide ho6
          go_upto_region 25 with fail
          replace hos4 := unhide hos4
          replace hI' := unhide hI'
          clear hGv len1 len2 one1 one2 b1 b2 b3 b4 src1 src2 hos2 hfl4 hqm S1 S2 S3 N0 N9 NE NB hlt0 hVs NB' hz5 NB5 ho5 hg5 hl5 hg6 hl6 M9 hX hb3 hE3 hz3 q0 q1 y9 e0 eN e2 e3 hm00 hqm' d0 d1 d2 sl1 sl2 p0 p1 glt ho hE hAp B6 bw z0 yo hm40 hq
          replace ho6 := hide ho6; replace E6 := hide E6; replace P6 := hide P6; replace R9 := hide R9; replace RB := hide RB
          have hsq := (unhide RB).size
          have y6 : g6 < w6.heap.size := (unhide R9).lt
          have hAll := fun (i : Int) h0 h1 => Inv.all (i := i) hI' hnB h0 h1
          have hEach := Inv.eachAll hI' hnB
          have hyl := okX_len2 hI'.oky
          rw [hI'.size, (newX_ok hnB).2.1] at hyl
          have hal : os4.length + y'.free.length = (os4 ++ y'.free).length := by rw [List.length_append]
          have hfm : os4.flatMap exv ++ y'.free.flatMap exv = (os4 ++ y'.free).flatMap exv := by rw [List.flatMap_append]
          have len1 := flat_len os4
          have len2 := flat_len y'.free
          have one1 := flat_one os4
          have one2 := flat_one y'.free
          have b1 : 0 + os4.length ≤ maxLen := by simp only [maxLen]; omega
          have b2 : (0 + os4.length) * 16 ≤ 140737488355328 := by omega
          have b3 : os4.length + y'.free.length ≤ maxLen := by simp only [maxLen]; omega
          have b4 : (os4.length + y'.free.length) * 16 ≤ 140737488355328 := by omega
          have hall200 : (os4 ++ y'.free).length ≤ 200 := by rw [← hal]; omega
          generalize os4 ++ y'.free = all at *
          have q61 := (unhide R9).cell 1
          simp at q61
          replace hAll := hide hAll; replace hEach := hide hEach; replace hal := hide hal; replace hfm := hide hfm; replace len1 := hide len1; replace len2 := hide len2; replace one1 := hide one1; replace one2 := hide one2; replace b1 := hide b1; replace b2 := hide b2; replace b3 := hide b3; replace b4 := hide b4; replace hI' := hide hI'; replace hos4 := hide hos4; replace hyl := hide hyl
          have hmk' := unhide hmk
          go_upto_region 26 with fail
          clear hmk'
          have O1 : Blk (w6.alloc (.cells (ownC n []).toArray 3)) w6.heap.size 3 (ownC n []).toArray := Blk.new rfl
          have O2 : Below w6.heap.size w6 (w6.alloc (.cells (ownC n []).toArray 3)) := bl_alloc (Below.refl _ _) _
          have O6 := (unhide R9).alloc (.cells (ownC n []).toArray 3)
          have OE := (unhide E6).grow O2
          have OO := own_below (unhide ho6) O2 (Nat.le_refl _)
          generalize w6.alloc (.cells (ownC n []).toArray 3) = wo at *
          obtain ⟨gO, hgO⟩ : ∃ gO, gO = w6.heap.size := ⟨_, rfl⟩
          rw [← hgO] at O1 ⊢
          have c61 := O6.cell 1
          simp at c61
          have yO6 : g6 < wo.heap.size := O6.lt
          have yOO : gO < wo.heap.size := O1.lt
          have S1 : SrcOk wo.drew A8 os4.length (os4.flatMap exv) := (Exs.of_own OO).src.2
          have S2 : ∀ kw5, wo.drew.grownBy kw5 none → SrcOk kw5 A3 y'.free.length (y'.free.flatMap exv) := fun kw5 hg => (OE.keep (Agree.grown (Agree.refl _ _ wo.drew) hg (Nat.le_refl _) (fun k hk => by cases hk))).src.2
          replace O1 := hide O1; replace O2 := hide O2; replace O6 := hide O6; replace OE := hide OE; replace OO := hide OO; replace hgO := hide hgO; replace S1 := hide S1; replace S2 := hide S2
          clear q61
          go_region_held3 (fun W => W.cell? ⟨g6, 1, none⟩ = some (.slice A3 y'.free.length c3)) (first | exact c61 | exact c65 | exact c66 | assumption) (first
            | (refine step_app_at rfl (.const (.slice none 0 0)) (.tmp 109) 22 rfl wo.heap.size 26 i0 _ 2 16 Try.underlying22 hi0 iz0 iz1 iz2 rfl (Nat.succ_pos _) _ 0 [] rfl own_nil A8 os4.length _ (os4.flatMap exv) rfl (unhide len1) (unhide S1) (unhide one1) (unhide b1) (unhide b2) (Nat.le_refl _) ?_
               intro v5 kw5 kho5 hg5 hl5
               replace hg5 : wo.drew.grownBy kw5 none := hg5
               have S3 := unhide S2 kw5 hg5
               have hz5 : wo.heap.size ≤ kw5.heap.size := hg5.size
               rw [Nat.zero_add, List.nil_append] at kho5
               have N6 : Blk kw5 g6 24 _ := Blk.grown (unhide O6).drew hg5 (fun e => by cases e)
               have c65 := N6.cell 1
               simp at c65
               replace S3 := hide S3; replace kho5 := hide kho5; replace hg5 := hide hg5; replace hl5 := hide hl5; replace N6 := hide N6)
            | (refine step_app_at rfl (.tmp 110) (.tmp 112) 22 rfl wo.heap.size 26 i0 _ 2 16 Try.underlying22 hi0 iz0 iz1 iz2 rfl (Nat.succ_pos _) _ os4.length (os4.flatMap exv) rfl (unhide kho5) A3 y'.free.length _ (y'.free.flatMap exv) rfl (unhide len2) (unhide S3) (unhide one2) (unhide b3) (unhide b4) hz5 ?_
               intro v6 kw6 kho6 hg6 hl6
               rw [unhide hal, unhide hfm] at kho6
               obtain ⟨kA8, kc8, rfl⟩ := ownsRow_form kho6
               have N66 : Blk kw6 g6 24 _ := Blk.grown (unhide N6) hg6 (own_ne (unhide kho5) (unhide N6) (by decide))
               have c66 := N66.cell 1
               simp at c66
               replace kho6 := hide kho6; replace hg6 := hide hg6; replace hl6 := hide hl6))
          have M1 : Blk kw6 gO 3 (ownC n []).toArray := Blk.grown (Blk.grown (unhide O1).drew (unhide hg5) (fun e => by cases e)) (unhide hg6) (fun e => by
            have := (own_base (unhide kho5)) _ e.symm
            omega)
          have MB : Below w6.heap.size w6 kw6 := bl_call (unhide O2) (bl_grown (bl_grown (Below.drew (Below.refl _ _)) (unhide hg5) (fun k hk => by cases hk)) (unhide hg6) (own_base (unhide kho5)))
          obtain ⟨B1, hB1⟩ : ∃ B1, B1 = wo.heap.size := ⟨_, rfl⟩
          rw [← hB1] at kho6
          have hqO : w6.heap.size ≤ gO := by have := unhide hgO; omega
          replace M1 := hide M1; replace MB := hide MB; replace hB1 := hide hB1
          clear S1 S2 S3 kho5 hg5 hl5 hg6 hl6 c61 c65 c66 O1 O2 O6 OE OO hz5 yO6 yOO N6 N66 len1 len2 one1 one2 b1 b2 b3 b4 hfm
          go_wp2_with fail
          go_loopw [115] (fun i wx => ∃ (k2 : Nat), k2 ≤ all.length ∧ i = .int .i64 k2 ∧ Hid (Blk wx gO 3 (ownC n (all.take k2)).toArray) ∧ Hid (wx.ownsRow B1 26 2 (.slice kA8 all.length kc8) all.length (all.flatMap exv)) ∧ Hid (Below w6.heap.size w6 wx)) (fun i _ => all.length - (intOf i).toNat)
          case atStart => exact ⟨0, Nat.zero_le _, rfl, M1, kho6, MB⟩
          case round =>
            clear M1 kho6 MB
            obtain ⟨k2, hk2, rfl, M1, kho6, MB⟩ := hrel
            generalize wr = wx at *
            by_cases hlt2 : k2 < all.length
            · obtain ⟨kA9, kc9, e9, _, _, hoc⟩ := (Exs.of_own (e := 26) (unhide kho6)).open
              injection e9 with e91 _ e93
              subst e91 e93
              obtain ⟨gb, go, rfl, gb1, glt, p0, p1⟩ := hoc k2 hlt2
              obtain ⟨s0, s1, s2⟩ := unhide hEach all[k2] (List.getElem_mem _)
              have hsn : all.take (k2 + 1) = all.take k2 ++ [all[k2]] := List.take_succ_eq_append_getElem hlt2
              have hcl := cnt_le (all.take k2)
              have htl : (all.take k2).length ≤ all.length := by rw [List.length_take]; exact Nat.min_le_right _ _
              generalize all[k2] = s at *
              generalize all.take k2 = L at *
              obtain ⟨sa, sl⟩ := s
              try dsimp only at p0 p1 s0 s1 s2
              have ybx : gb < wx.heap.size := World.block_lt_of_cell? wx _ p0
              obtain ⟨g19, hg19⟩ : ∃ g19, g19 = wx.heap.size := ⟨_, rfl⟩
              have yOx : gO < wx.heap.size := (unhide M1).lt
              replace hsn := hide hsn; replace hcl := hide hcl
              clear hoc gb1
              go_upto_region 30 with fail
              have I1 := (unhide M1).alloc (.cells #[.int .i64 sa, .int .i64 sl] 26)
              have I2 : Blk (wx.alloc (.cells #[.int .i64 sa, .int .i64 sl] 26)) wx.heap.size 26 #[.int .i64 sa, .int .i64 sl] := Blk.new rfl
              have I3 : (wx.alloc (.cells #[.int .i64 sa, .int .i64 sl] 26)).ownsRow B1 26 2 (.slice (some ⟨gb, go, none⟩) all.length kc8) all.length (all.flatMap exv) := (unhide kho6).alloc _
              have I4 : Below w6.heap.size w6 (wx.alloc (.cells #[.int .i64 sa, .int .i64 sl] 26)) := bl_alloc (unhide MB) _
              rw [← inC_zero n L ⟨sa, sl⟩] at I1
              generalize wx.alloc (.cells #[.int .i64 sa, .int .i64 sl] 26) = wi at *
              rw [← hg19] at I2 ⊢
              replace I1 := hide I1; replace I2 := hide I2; replace I3 := hide I3; replace I4 := hide I4; replace hg19 := hide hg19
              have hgq : w6.heap.size ≤ gO := by omega
              have hne : gO ≠ g19 := by have := unhide hg19; omega
              clear p0 p1 ybx glt
              go_loopw [121] (fun i wy => ∃ (J : Int), 0 ≤ J ∧ J ≤ sl ∧ i = .int .i64 J ∧ Hid (Blk wy gO 3 (inC n L ⟨sa, sl⟩ J).toArray) ∧ Hid (Blk wy g19 26 #[.int .i64 sa, .int .i64 sl]) ∧ Hid (wy.ownsRow B1 26 2 (.slice (some ⟨gb, go, none⟩) all.length kc8) all.length (all.flatMap exv)) ∧ Hid (Below w6.heap.size w6 wy)) (fun i _ => sl.toNat - (intOf i).toNat)
              case atStart => exact ⟨0, by omega, by omega, rfl, I1, I2, I3, I4⟩
              case round =>
                clear I1 I2 I3 I4
                obtain ⟨J, hJ0, hJ1, rfl, I1, I2, I3, I4⟩ := hrel
                generalize wr = wy at *
                have r0 := (unhide I2).cell 0
                have r1 := (unhide I2).cell 1
                simp at r0 r1
                have y19 : g19 < wy.heap.size := (unhide I2).lt
                have yO : gO < wy.heap.size := (unhide I1).lt
                by_cases hJ : J < sl
                · obtain ⟨t, ht⟩ : ∃ t : Nat, sa + J = (t : Int) := ⟨(sa + J).toNat, by omega⟩
                  have htn : t < n := by omega
                  have r2 : wy.cell? ⟨gO, t, none⟩ = some (.int .i64 (cnt L t : Int)) := by
                    rw [(unhide I1).cell]
                    have := inC_get n L ⟨sa, sl⟩ J t htn (by dsimp only; omega)
                    simpa using this
                  have r3 := (unhide I1).frozen t
                  have hset := inC_set n L ⟨sa, sl⟩ J t hJ0 (by dsimp only; omega)
                  have hcb := unhide hcl t
                  generalize cnt L t = m at *
                  have i1 : IntKind.i64.wrap (sa + J) = (t : Int) := by rw [ht]; exact IntWalk.i64_in _ (by omega)
                  have i2 : IntKind.i64.wrap ((m : Int) + 1) = (m : Int) + 1 := IntWalk.i64_in _ (by omega)
                  have i3 : IntKind.i64.wrap (J + 1) = J + 1 := IntWalk.i64_in _ (by omega)
                  have d0 : decide (sa < 0) = false := by simpa using s0
                  have d1 : decide ((n : Int) ≤ (t : Int)) = false := by simp; omega
                  have I1' := (unhide I1).set t (.int .i64 ((m : Int) + 1))
                  rw [List.setIfInBounds_toArray, hset] at I1'
                  have I2' := (unhide I2).far (p := ⟨gO, t, none⟩) hne.symm (.int .i64 ((m : Int) + 1))
                  have I3' := own_far (unhide I3) (unhide I1) (by decide) t (.int .i64 ((m : Int) + 1))
                  have I4' := (unhide I4).setCell (p := ⟨gO, t, none⟩) hgq (.int .i64 ((m : Int) + 1))
                  replace hset := hide hset; replace I1' := hide I1'; replace I2' := hide I2'; replace I3' := hide I3'; replace I4' := hide I4'
                  clear hcb I1 I2 I3 I4 hset ht
                  go_wp2_with fail
                  clear i1 i2 i3
                  go_roundw
                  case rel => exact ⟨J + 1, by omega, by omega, rfl, I1', I2', I3', I4'⟩
                  case measure => simp [intOf]; omega
                · obtain rfl : J = sl := by omega
                  have I1' := unhide I1
                  rw [inC_all n L ⟨sa, J⟩, ← unhide hsn] at I1'
                  replace I1' := hide I1'
                  clear I1
                  go_wp2_with fail
                  go_roundw
                  case rel => exact ⟨k2 + 1, by omega, by go_num, I1', I3, I4⟩
                  case measure => simp [intOf]; omega
            · obtain rfl : k2 = all.length := by omega
              rw [List.take_length] at M1
              have hc : ∀ (t : Nat), t < n → wx.cell? ⟨gO, t, none⟩ = some (.int .i64 1) := fun t ht => by
                rw [(unhide M1).cell]
                have := ownC_get n all t ht
                rw [unhide hAll t (by omega) (by omega)] at this
                simpa using this
              have yO : gO < wx.heap.size := (unhide M1).lt
              replace hc := hide hc
              have hbE := unhide MB
              have ho' := own_below (unhide ho6) hbE (Nat.le_refl _)
              have hE' := (unhide E6).grow hbE
              have B6' := (unhide R9).below hbE y6
              have bw' := bl_call (unhide RB) hbE
              replace ho' := hide ho'; replace hE' := hide hE'; replace B6' := hide B6'; replace bw' := hide bw'
              clear hbE MB kho6 M1
              go_wp2_with fail
              go_loopw [148] (fun i wz => ∃ (t : Nat), t ≤ n ∧ i = .int .i64 t ∧ wx = wz) (fun i _ => n - (intOf i).toNat)
              case atStart => exact ⟨0, Nat.zero_le _, rfl, rfl⟩
              case round =>
                obtain ⟨t, ht, rfl, rfl⟩ := hrel
                by_cases htn : t < n
                · have r2 := unhide hc t htn
                  go_wp2_with fail
                  go_roundw
                  case rel => exact ⟨t + 1, by omega, by go_num, trivial⟩
                  case measure => simp [intOf]; omega
                · obtain rfl : t = n := by omega
                  go_wp2_with fail
                  go_roundw
                  case rel => exact ⟨k + 1, os4, y', A3, c3, A8, c8, by omega, by go_num, rfl, unhide hos4, unhide hI', ho', hE', P6, B6', bw'⟩
                  case measure => simp [intOf]; omega
      · by_cases hpos : 0 < z
        · have d0 : decide (z < 0) = false := by simp; omega
          have d1 : decide (0 < z) = true := by simpa using hpos
          have q0 := (unhide B6).cell 0
          have q1 := (unhide B6).cell 1
          simp at q0 q1
          have y9 : g6 < wr.heap.size := (unhide B6).lt
          have e0 : IntKind.i64.wrap z = z := IntWalk.i64_in _ (by omega)
          obtain ⟨s, y', er, ht⟩ := take_ex y z
          have hT := take_at ht (rgs_ok hI.oky) 0 (.agg #[.int .i64 y.size, .slice Ay y.free.length cy]) wr ⟨_, rfl, unhide hE⟩
          obtain ⟨sa, sl⟩ := s
          try simp only at hT
          by_cases he : er = 0
          · have hI' := hI.take ht he
            subst he
            have hfl := flat_snoc os ⟨sa, sl⟩
            have b1 : os.length + 1 ≤ maxLen := by simp only [maxLen]; omega
            have b2 : (os.length + 1) * 16 ≤ 140737488355328 := by omega
            have hone := exv_one ⟨sa, sl⟩
            have hos1 : (os ++ [(⟨sa, sl⟩ : Ex)]).length = os.length + 1 := by simp
            clear ht hI hneg hpos
            replace hT := hide hT; replace hfl := hide hfl; replace b1 := hide b1; replace b2 := hide b2; replace hone := hide hone; replace hos1 := hide hos1
            go_upto_region 25 with (first
              | (go_at_call 11; refine (unhide hT).mono ?_; rintro e w3 ⟨A3, c3, rfl, hx3, hb3⟩; have hE3 := hx3.exs; have hz3 := hb3.size; have M9 : Blk w3 g6 24 #[.int .i64 y.size, .slice Ay y.free.length cy] := Blk.below (unhide B6) hb3 y9; have m0 := M9.cell 0; have m1 := M9.cell 1; have m2 := M9.frozen 0; have m3 := M9.frozen 1; simp at m0 m1; have y3 : g6 < w3.heap.size := M9.lt; replace hE3 := hide hE3; replace M9 := hide M9; clear hx3)
              | (at_builtin
                 refine wpList_app_at _ rfl (.tmp 103) (.tmp 105) 22 rfl w.heap.size 26 i0 _ 2 16 Try.underlying22 hi0 iz0 iz1 iz2 rfl (Nat.succ_pos _) _ os.length (os.flatMap exv) rfl ((((own_set2 (own_below (unhide ho) hb3 (Nat.le_refl _)) (unhide M9) (by decide)).alloc _).alloc _).alloc _) (some ⟨w3.heap.size + 1 + 1, 0, none⟩) 1 1 (exv ⟨sa, sl⟩) rfl rfl (ex_src (by (repeat (first | with_reducible assumption | (focus (with_reducible refine Blk.new ?_; focus (simp <;> fail))) | with_reducible refine Blk.set3 (a := .slice none 0 0) (b := .slice none 0 0) (c := .int .i64 0) ?_ | with_reducible refine Blk.alloc ?_ _ | with_reducible refine Blk.drew ?_ | (focus (with_reducible refine Blk.far ?_ ?_ _; rotate_left; focus (first | omega | (simp <;> omega)))) | (focus (with_reducible refine Blk.below ?_ hb1 ?_; rotate_left; focus (first | omega | (simp <;> omega)))) | (focus (with_reducible refine Blk.below ?_ hb2 ?_; rotate_left; focus (first | omega | (simp <;> omega)))) | (focus (with_reducible refine Blk.below ?_ hb3 ?_; rotate_left; focus (first | omega | (simp <;> omega)))) | (focus (with_reducible refine Blk.below ?_ hb4 ?_; rotate_left; focus (first | omega | (simp <;> omega)))) | (focus (with_reducible refine Blk.below ?_ hb5 ?_; rotate_left; focus (first | omega | (simp <;> omega)))) | (focus (with_reducible refine Blk.below ?_ hb6 ?_; rotate_left; focus (first | omega | (simp <;> omega)))) | (focus (with_reducible refine Blk.below ?_ hb7 ?_; rotate_left; focus (first | omega | (simp <;> omega)))) | (focus (with_reducible refine Blk.below ?_ hb8 ?_; rotate_left; focus (first | omega | (simp <;> omega)))) | (focus (with_reducible refine Blk.below ?_ hb9 ?_; rotate_left; focus (first | omega | (simp <;> omega)))) | (focus (with_reducible refine Blk.below ?_ hb10 ?_; rotate_left; focus (first | omega | (simp <;> omega)))) | (focus (with_reducible refine Blk.below ?_ hb11 ?_; rotate_left; focus (first | omega | (simp <;> omega)))) | (focus (with_reducible refine Blk.below ?_ hb12 ?_; rotate_left; focus (first | omega | (simp <;> omega)))) | (focus (with_reducible refine Blk.below ?_ hb13 ?_; rotate_left; focus (first | omega | (simp <;> omega)))) | (focus (with_reducible refine Blk.below ?_ hb14 ?_; rotate_left; focus (first | omega | (simp <;> omega)))) | (focus (with_reducible refine Blk.below ?_ hb15 ?_; rotate_left; focus (first | omega | (simp <;> omega)))) | fail)))) (unhide hone) (unhide b1) (unhide b2) (by have := (bl_call (unhide bw) hb3).size; simp; omega) ?_
                 intro v4 w4 hown4 hg4 hl4
                 obtain ⟨A4, c4, rfl⟩ := ownsRow_form hown4
                 rw [unhide hfl] at hown4
                 replace hown4 := hide hown4; replace hl4 := hide hl4)
              | fail)
            have AG : Agree wr.heap.size w3.heap.size w3 w4 := by
              refine Agree.grown ?_ hg4 ?_ ?_
              · (repeat (first | exact Agree.refl _ _ _ | refine Agree.alloc ?_ _ (by first | omega | (simp <;> omega)) | refine Agree.setG ?_ (by first | omega | (simp <;> omega)) _))
              · simp; omega
              · intro k hk
                left
                exact own_lt (unhide ho) k hk
            have hE4 : Exs 0 w4.heap.size w4 (.slice A3 y'.free.length c3) y'.free := ((unhide hE3).keep AG).mono (Nat.zero_le _) (by have := hg4.size; simp at this; omega)
            have hAp4 : Apart A3 y'.free.length (.slice A4 (os.length + 1) c4) := Apart.fresh (unhide hE3) (fun k hk => by
              rcases unhide hl4 with h | h
              · rw [h] at hk; exact .inl (own_lt (unhide ho) k hk)
              · rw [h] at hk; injection hk with hk; right; rw [← hk]; simp; omega)
            have B64 : Blk w4 g6 24 #[.int .i64 y'.size, .slice A3 y'.free.length c3] := Blk.grown ((((Blk.set2 (unhide M9)).alloc _).alloc _).alloc _) hg4 (own_ne (unhide ho) (unhide B6) (by decide))
            have bw4 : Below w.heap.size w w4 := by
              have hbB : Below w.heap.size w w3 := bl_call (unhide bw) hb3
              exact bl_grown (by (repeat (first | with_reducible exact Below.refl _ _ | with_reducible assumption | with_reducible refine Below.drew ?_ | with_reducible refine bl_alloc ?_ _ | with_reducible refine bl_call ?_ (by assumption) | (focus (with_reducible refine Below.setCell ?_ ?_ _; rotate_left; focus (first | omega | (simp <;> omega)))) | fail))) hg4 (own_base (unhide ho))
            have ho4 := unhide hown4
            have hsl := unhide hos1
            rw [← hsl] at hAp4 ho4 ⊢
            have hos4 : (os ++ [(⟨sa, sl⟩ : Ex)]).length ≤ k + 1 := by rw [hsl]; omega
            clear hT hfl b1 b2 hone hos1 hsl hE3 hown4 hl4 hg4 AG M9 m0 m1 m2 m3 y3 hz3 hb3 q0 q1 e0 d0 d1 z0 yo ho hE hAp B6 bw y9 hosk
            generalize os ++ [(⟨sa, sl⟩ : Ex)] = os4 at *
            replace ho4 := hide ho4; replace hE4 := hide hE4; replace hAp4 := hide hAp4; replace B64 := hide B64; replace bw4 := hide bw4
            have hsq := (unhide bw4).size
            have y6 : g6 < w4.heap.size := (unhide B64).lt
            have hAll := fun (i : Int) h0 h1 => Inv.all (i := i) hI' hnB h0 h1
            have hEach := Inv.eachAll hI' hnB
            have hyl := okX_len2 hI'.oky
            rw [hI'.size, (newX_ok hnB).2.1] at hyl
            have hal : os4.length + y'.free.length = (os4 ++ y'.free).length := by rw [List.length_append]
            have hfm : os4.flatMap exv ++ y'.free.flatMap exv = (os4 ++ y'.free).flatMap exv := by rw [List.flatMap_append]
            have len1 := flat_len os4
            have len2 := flat_len y'.free
            have one1 := flat_one os4
            have one2 := flat_one y'.free
            have b1 : 0 + os4.length ≤ maxLen := by simp only [maxLen]; omega
            have b2 : (0 + os4.length) * 16 ≤ 140737488355328 := by omega
            have b3 : os4.length + y'.free.length ≤ maxLen := by simp only [maxLen]; omega
            have b4 : (os4.length + y'.free.length) * 16 ≤ 140737488355328 := by omega
            have hall200 : (os4 ++ y'.free).length ≤ 200 := by rw [← hal]; omega
            generalize os4 ++ y'.free = all at *
            have q61 := (unhide B64).cell 1
            simp at q61
            replace hAll := hide hAll; replace hEach := hide hEach; replace hal := hide hal; replace hfm := hide hfm; replace len1 := hide len1; replace len2 := hide len2; replace one1 := hide one1; replace one2 := hide one2; replace b1 := hide b1; replace b2 := hide b2; replace b3 := hide b3; replace b4 := hide b4; replace hI' := hide hI'; replace hos4 := hide hos4; replace hyl := hide hyl
            have hmk' := unhide hmk
            go_upto_region 26 with fail
            clear hmk'
            have O1 : Blk (w4.alloc (.cells (ownC n []).toArray 3)) w4.heap.size 3 (ownC n []).toArray := Blk.new rfl
            have O2 : Below w4.heap.size w4 (w4.alloc (.cells (ownC n []).toArray 3)) := bl_alloc (Below.refl _ _) _
            have O6 := (unhide B64).alloc (.cells (ownC n []).toArray 3)
            have OE := (unhide hE4).grow O2
            have OO := own_below (unhide ho4) O2 (Nat.le_refl _)
            generalize w4.alloc (.cells (ownC n []).toArray 3) = wo at *
            obtain ⟨gO, hgO⟩ : ∃ gO, gO = w4.heap.size := ⟨_, rfl⟩
            rw [← hgO] at O1 ⊢
            have c61 := O6.cell 1
            simp at c61
            have yO6 : g6 < wo.heap.size := O6.lt
            have yOO : gO < wo.heap.size := O1.lt
            have S1 : SrcOk wo.drew A4 os4.length (os4.flatMap exv) := (Exs.of_own OO).src.2
            have S2 : ∀ kw5, wo.drew.grownBy kw5 none → SrcOk kw5 A3 y'.free.length (y'.free.flatMap exv) := fun kw5 hg => (OE.keep (Agree.grown (Agree.refl _ _ wo.drew) hg (Nat.le_refl _) (fun k hk => by cases hk))).src.2
            replace O1 := hide O1; replace O2 := hide O2; replace O6 := hide O6; replace OE := hide OE; replace OO := hide OO; replace hgO := hide hgO; replace S1 := hide S1; replace S2 := hide S2
            clear q61
            go_region_held3 (fun W => W.cell? ⟨g6, 1, none⟩ = some (.slice A3 y'.free.length c3)) (first | exact c61 | exact c65 | exact c66 | assumption) (first
              | (refine step_app_at rfl (.const (.slice none 0 0)) (.tmp 109) 22 rfl wo.heap.size 26 i0 _ 2 16 Try.underlying22 hi0 iz0 iz1 iz2 rfl (Nat.succ_pos _) _ 0 [] rfl own_nil A4 os4.length _ (os4.flatMap exv) rfl (unhide len1) (unhide S1) (unhide one1) (unhide b1) (unhide b2) (Nat.le_refl _) ?_
                 intro v5 kw5 kho5 hg5 hl5
                 replace hg5 : wo.drew.grownBy kw5 none := hg5
                 have S3 := unhide S2 kw5 hg5
                 have hz5 : wo.heap.size ≤ kw5.heap.size := hg5.size
                 rw [Nat.zero_add, List.nil_append] at kho5
                 have N6 : Blk kw5 g6 24 _ := Blk.grown (unhide O6).drew hg5 (fun e => by cases e)
                 have c65 := N6.cell 1
                 simp at c65
                 replace S3 := hide S3; replace kho5 := hide kho5; replace hg5 := hide hg5; replace hl5 := hide hl5; replace N6 := hide N6)
              | (refine step_app_at rfl (.tmp 110) (.tmp 112) 22 rfl wo.heap.size 26 i0 _ 2 16 Try.underlying22 hi0 iz0 iz1 iz2 rfl (Nat.succ_pos _) _ os4.length (os4.flatMap exv) rfl (unhide kho5) A3 y'.free.length _ (y'.free.flatMap exv) rfl (unhide len2) (unhide S3) (unhide one2) (unhide b3) (unhide b4) hz5 ?_
                 intro v6 kw6 kho6 hg6 hl6
                 rw [unhide hal, unhide hfm] at kho6
                 obtain ⟨kA8, kc8, rfl⟩ := ownsRow_form kho6
                 have N66 : Blk kw6 g6 24 _ := Blk.grown (unhide N6) hg6 (own_ne (unhide kho5) (unhide N6) (by decide))
                 have c66 := N66.cell 1
                 simp at c66
                 replace kho6 := hide kho6; replace hg6 := hide hg6; replace hl6 := hide hl6))
            have M1 : Blk kw6 gO 3 (ownC n []).toArray := Blk.grown (Blk.grown (unhide O1).drew (unhide hg5) (fun e => by cases e)) (unhide hg6) (fun e => by
              have := (own_base (unhide kho5)) _ e.symm
              omega)
            have MB : Below w4.heap.size w4 kw6 := bl_call (unhide O2) (bl_grown (bl_grown (Below.drew (Below.refl _ _)) (unhide hg5) (fun k hk => by cases hk)) (unhide hg6) (own_base (unhide kho5)))
            obtain ⟨B1, hB1⟩ : ∃ B1, B1 = wo.heap.size := ⟨_, rfl⟩
            rw [← hB1] at kho6
            have hqO : w4.heap.size ≤ gO := by have := unhide hgO; omega
            replace M1 := hide M1; replace MB := hide MB; replace hB1 := hide hB1
            clear S1 S2 S3 kho5 hg5 hl5 hg6 hl6 c61 c65 c66 O1 O2 O6 OE OO hz5 yO6 yOO N6 N66 len1 len2 one1 one2 b1 b2 b3 b4 hfm
            go_wp2_with fail
            go_loopw [115] (fun i wx => ∃ (k2 : Nat), k2 ≤ all.length ∧ i = .int .i64 k2 ∧ Hid (Blk wx gO 3 (ownC n (all.take k2)).toArray) ∧ Hid (wx.ownsRow B1 26 2 (.slice kA8 all.length kc8) all.length (all.flatMap exv)) ∧ Hid (Below w4.heap.size w4 wx)) (fun i _ => all.length - (intOf i).toNat)
            case atStart => exact ⟨0, Nat.zero_le _, rfl, M1, kho6, MB⟩
            case round =>
              clear M1 kho6 MB
              obtain ⟨k2, hk2, rfl, M1, kho6, MB⟩ := hrel
              generalize wr = wx at *
              by_cases hlt2 : k2 < all.length
              · obtain ⟨kA9, kc9, e9, _, _, hoc⟩ := (Exs.of_own (e := 26) (unhide kho6)).open
                injection e9 with e91 _ e93
                subst e91 e93
                obtain ⟨gb, go, rfl, gb1, glt, p0, p1⟩ := hoc k2 hlt2
                obtain ⟨s0, s1, s2⟩ := unhide hEach all[k2] (List.getElem_mem _)
                have hsn : all.take (k2 + 1) = all.take k2 ++ [all[k2]] := List.take_succ_eq_append_getElem hlt2
                have hcl := cnt_le (all.take k2)
                have htl : (all.take k2).length ≤ all.length := by rw [List.length_take]; exact Nat.min_le_right _ _
                generalize all[k2] = s at *
                generalize all.take k2 = L at *
                obtain ⟨sa, sl⟩ := s
                try dsimp only at p0 p1 s0 s1 s2
                have ybx : gb < wx.heap.size := World.block_lt_of_cell? wx _ p0
                obtain ⟨g19, hg19⟩ : ∃ g19, g19 = wx.heap.size := ⟨_, rfl⟩
                have yOx : gO < wx.heap.size := (unhide M1).lt
                replace hsn := hide hsn; replace hcl := hide hcl
                clear hoc gb1
                go_upto_region 30 with fail
                have I1 := (unhide M1).alloc (.cells #[.int .i64 sa, .int .i64 sl] 26)
                have I2 : Blk (wx.alloc (.cells #[.int .i64 sa, .int .i64 sl] 26)) wx.heap.size 26 #[.int .i64 sa, .int .i64 sl] := Blk.new rfl
                have I3 : (wx.alloc (.cells #[.int .i64 sa, .int .i64 sl] 26)).ownsRow B1 26 2 (.slice (some ⟨gb, go, none⟩) all.length kc8) all.length (all.flatMap exv) := (unhide kho6).alloc _
                have I4 : Below w4.heap.size w4 (wx.alloc (.cells #[.int .i64 sa, .int .i64 sl] 26)) := bl_alloc (unhide MB) _
                rw [← inC_zero n L ⟨sa, sl⟩] at I1
                generalize wx.alloc (.cells #[.int .i64 sa, .int .i64 sl] 26) = wi at *
                rw [← hg19] at I2 ⊢
                replace I1 := hide I1; replace I2 := hide I2; replace I3 := hide I3; replace I4 := hide I4; replace hg19 := hide hg19
                have hgq : w4.heap.size ≤ gO := by omega
                have hne : gO ≠ g19 := by have := unhide hg19; omega
                clear p0 p1 ybx glt
                go_loopw [121] (fun i wy => ∃ (J : Int), 0 ≤ J ∧ J ≤ sl ∧ i = .int .i64 J ∧ Hid (Blk wy gO 3 (inC n L ⟨sa, sl⟩ J).toArray) ∧ Hid (Blk wy g19 26 #[.int .i64 sa, .int .i64 sl]) ∧ Hid (wy.ownsRow B1 26 2 (.slice (some ⟨gb, go, none⟩) all.length kc8) all.length (all.flatMap exv)) ∧ Hid (Below w4.heap.size w4 wy)) (fun i _ => sl.toNat - (intOf i).toNat)
                case atStart => exact ⟨0, by omega, by omega, rfl, I1, I2, I3, I4⟩
                case round =>
                  clear I1 I2 I3 I4
                  obtain ⟨J, hJ0, hJ1, rfl, I1, I2, I3, I4⟩ := hrel
                  generalize wr = wy at *
                  have r0 := (unhide I2).cell 0
                  have r1 := (unhide I2).cell 1
                  simp at r0 r1
                  have y19 : g19 < wy.heap.size := (unhide I2).lt
                  have yO : gO < wy.heap.size := (unhide I1).lt
                  by_cases hJ : J < sl
                  · obtain ⟨t, ht⟩ : ∃ t : Nat, sa + J = (t : Int) := ⟨(sa + J).toNat, by omega⟩
                    have htn : t < n := by omega
                    have r2 : wy.cell? ⟨gO, t, none⟩ = some (.int .i64 (cnt L t : Int)) := by
                      rw [(unhide I1).cell]
                      have := inC_get n L ⟨sa, sl⟩ J t htn (by dsimp only; omega)
                      simpa using this
                    have r3 := (unhide I1).frozen t
                    have hset := inC_set n L ⟨sa, sl⟩ J t hJ0 (by dsimp only; omega)
                    have hcb := unhide hcl t
                    generalize cnt L t = m at *
                    have i1 : IntKind.i64.wrap (sa + J) = (t : Int) := by rw [ht]; exact IntWalk.i64_in _ (by omega)
                    have i2 : IntKind.i64.wrap ((m : Int) + 1) = (m : Int) + 1 := IntWalk.i64_in _ (by omega)
                    have i3 : IntKind.i64.wrap (J + 1) = J + 1 := IntWalk.i64_in _ (by omega)
                    have d0 : decide (sa < 0) = false := by simpa using s0
                    have d1 : decide ((n : Int) ≤ (t : Int)) = false := by simp; omega
                    have I1' := (unhide I1).set t (.int .i64 ((m : Int) + 1))
                    rw [List.setIfInBounds_toArray, hset] at I1'
                    have I2' := (unhide I2).far (p := ⟨gO, t, none⟩) hne.symm (.int .i64 ((m : Int) + 1))
                    have I3' := own_far (unhide I3) (unhide I1) (by decide) t (.int .i64 ((m : Int) + 1))
                    have I4' := (unhide I4).setCell (p := ⟨gO, t, none⟩) hgq (.int .i64 ((m : Int) + 1))
                    replace hset := hide hset; replace I1' := hide I1'; replace I2' := hide I2'; replace I3' := hide I3'; replace I4' := hide I4'
                    clear hcb I1 I2 I3 I4 hset ht
                    go_wp2_with fail
                    clear i1 i2 i3
                    go_roundw
                    case rel => exact ⟨J + 1, by omega, by omega, rfl, I1', I2', I3', I4'⟩
                    case measure => simp [intOf]; omega
                  · obtain rfl : J = sl := by omega
                    have I1' := unhide I1
                    rw [inC_all n L ⟨sa, J⟩, ← unhide hsn] at I1'
                    replace I1' := hide I1'
                    clear I1
                    go_wp2_with fail
                    go_roundw
                    case rel => exact ⟨k2 + 1, by omega, by go_num, I1', I3, I4⟩
                    case measure => simp [intOf]; omega
              · obtain rfl : k2 = all.length := by omega
                rw [List.take_length] at M1
                have hc : ∀ (t : Nat), t < n → wx.cell? ⟨gO, t, none⟩ = some (.int .i64 1) := fun t ht => by
                  rw [(unhide M1).cell]
                  have := ownC_get n all t ht
                  rw [unhide hAll t (by omega) (by omega)] at this
                  simpa using this
                have yO : gO < wx.heap.size := (unhide M1).lt
                replace hc := hide hc
                have hbE := unhide MB
                have ho' := own_below (unhide ho4) hbE (Nat.le_refl _)
                have hE' := (unhide hE4).grow hbE
                have B6' := (unhide B64).below hbE y6
                have bw' := bl_call (unhide bw4) hbE
                replace ho' := hide ho'; replace hE' := hide hE'; replace B6' := hide B6'; replace bw' := hide bw'
                clear hbE MB kho6 M1
                go_wp2_with fail
                go_loopw [148] (fun i wz => ∃ (t : Nat), t ≤ n ∧ i = .int .i64 t ∧ wx = wz) (fun i _ => n - (intOf i).toNat)
                case atStart => exact ⟨0, Nat.zero_le _, rfl, rfl⟩
                case round =>
                  obtain ⟨t, ht, rfl, rfl⟩ := hrel
                  by_cases htn : t < n
                  · have r2 := unhide hc t htn
                    go_wp2_with fail
                    go_roundw
                    case rel => exact ⟨t + 1, by omega, by go_num, trivial⟩
                    case measure => simp [intOf]; omega
                  · obtain rfl : t = n := by omega
                    go_wp2_with fail
                    go_roundw
                    case rel => exact ⟨k + 1, os4, y', A3, c3, A4, c4, by omega, by go_num, rfl, unhide hos4, unhide hI', ho', hE', hAp4, B6', bw'⟩
                    case measure => simp [intOf]; omega
          · have he6 : er = 6 := by
              rcases take_er ht with h | h | h
              · exact absurd h he
              · subst h
                rcases ht with ⟨a, _⟩ | ⟨_, _, _, a, _⟩ | ⟨_, _, a, _⟩
                · exact absurd ⟨hI.oky, by omega⟩ a
                · cases a
                · cases a
              · exact h
            subst he6
            have hos : os.length ≤ k + 1 := by omega
            clear ht he hneg hpos hosk
            replace hT := hide hT
            go_upto_region 25 with (first
              | (go_at_call 11; refine (unhide hT).mono ?_; rintro e w3 ⟨A3, c3, rfl, hx3, hb3⟩; clear hx3; have hz3 := hb3.size)
              | fail)
            have hb4 := bl_alloc (bl_alloc hb3 (.cells #[.int .i64 sa, .int .i64 sl] 26)) (.cells #[.int .i64 y'.size, .slice A3 y'.free.length c3] 24)
            have ho4 := own_below (unhide ho) hb4 (Nat.le_refl _)
            have hE4 := (unhide hE).grow hb4
            have B64 := Blk.below (unhide B6) hb4 y9
            have bw4 := bl_call (unhide bw) hb4
            clear hb3 hz3 hb4 hT q0 q1 e0 d0 d1 z0 yo ho hE B6 bw y9
            generalize (w3.alloc (.cells #[.int .i64 sa, .int .i64 sl] 26)).alloc (.cells #[.int .i64 y'.size, .slice A3 y'.free.length c3] 24) = wq at *
            replace ho4 := hide ho4; replace hE4 := hide hE4; replace B64 := hide B64; replace bw4 := hide bw4
            have hsq := (unhide bw4).size
            have y6 : g6 < wq.heap.size := (unhide B64).lt
            have hAll := fun (i : Int) h0 h1 => Inv.all (i := i) hI hnB h0 h1
            have hEach := Inv.eachAll hI hnB
            have hyl := okX_len2 hI.oky
            rw [hI.size, (newX_ok hnB).2.1] at hyl
            have hal : os.length + y.free.length = (os ++ y.free).length := by rw [List.length_append]
            have hfm : os.flatMap exv ++ y.free.flatMap exv = (os ++ y.free).flatMap exv := by rw [List.flatMap_append]
            have len1 := flat_len os
            have len2 := flat_len y.free
            have one1 := flat_one os
            have one2 := flat_one y.free
            have b1 : 0 + os.length ≤ maxLen := by simp only [maxLen]; omega
            have b2 : (0 + os.length) * 16 ≤ 140737488355328 := by omega
            have b3 : os.length + y.free.length ≤ maxLen := by simp only [maxLen]; omega
            have b4 : (os.length + y.free.length) * 16 ≤ 140737488355328 := by omega
            have hall200 : (os ++ y.free).length ≤ 200 := by rw [← hal]; omega
            generalize os ++ y.free = all at *
            have q61 := (unhide B64).cell 1
            simp at q61
            replace hAll := hide hAll; replace hEach := hide hEach; replace hal := hide hal; replace hfm := hide hfm; replace len1 := hide len1; replace len2 := hide len2; replace one1 := hide one1; replace one2 := hide one2; replace b1 := hide b1; replace b2 := hide b2; replace b3 := hide b3; replace b4 := hide b4; replace hI := hide hI; replace hos := hide hos; replace hyl := hide hyl
            have hmk' := unhide hmk
            go_upto_region 26 with fail
            clear hmk'
            have O1 : Blk (wq.alloc (.cells (ownC n []).toArray 3)) wq.heap.size 3 (ownC n []).toArray := Blk.new rfl
            have O2 : Below wq.heap.size wq (wq.alloc (.cells (ownC n []).toArray 3)) := bl_alloc (Below.refl _ _) _
            have O6 := (unhide B64).alloc (.cells (ownC n []).toArray 3)
            have OE := (unhide hE4).grow O2
            have OO := own_below (unhide ho4) O2 (Nat.le_refl _)
            generalize wq.alloc (.cells (ownC n []).toArray 3) = wo at *
            obtain ⟨gO, hgO⟩ : ∃ gO, gO = wq.heap.size := ⟨_, rfl⟩
            rw [← hgO] at O1 ⊢
            have c61 := O6.cell 1
            simp at c61
            have yO6 : g6 < wo.heap.size := O6.lt
            have yOO : gO < wo.heap.size := O1.lt
            have S1 : SrcOk wo.drew A os.length (os.flatMap exv) := (Exs.of_own OO).src.2
            have S2 : ∀ kw5, wo.drew.grownBy kw5 none → SrcOk kw5 Ay y.free.length (y.free.flatMap exv) := fun kw5 hg => (OE.keep (Agree.grown (Agree.refl _ _ wo.drew) hg (Nat.le_refl _) (fun k hk => by cases hk))).src.2
            replace O1 := hide O1; replace O2 := hide O2; replace O6 := hide O6; replace OE := hide OE; replace OO := hide OO; replace hgO := hide hgO; replace S1 := hide S1; replace S2 := hide S2
            clear q61
            go_region_held3 (fun W => W.cell? ⟨g6, 1, none⟩ = some (.slice Ay y.free.length cy)) (first | exact c61 | exact c65 | exact c66 | assumption) (first
              | (refine step_app_at rfl (.const (.slice none 0 0)) (.tmp 109) 22 rfl wo.heap.size 26 i0 _ 2 16 Try.underlying22 hi0 iz0 iz1 iz2 rfl (Nat.succ_pos _) _ 0 [] rfl own_nil A os.length _ (os.flatMap exv) rfl (unhide len1) (unhide S1) (unhide one1) (unhide b1) (unhide b2) (Nat.le_refl _) ?_
                 intro v5 kw5 kho5 hg5 hl5
                 replace hg5 : wo.drew.grownBy kw5 none := hg5
                 have S3 := unhide S2 kw5 hg5
                 have hz5 : wo.heap.size ≤ kw5.heap.size := hg5.size
                 rw [Nat.zero_add, List.nil_append] at kho5
                 have N6 : Blk kw5 g6 24 _ := Blk.grown (unhide O6).drew hg5 (fun e => by cases e)
                 have c65 := N6.cell 1
                 simp at c65
                 replace S3 := hide S3; replace kho5 := hide kho5; replace hg5 := hide hg5; replace hl5 := hide hl5; replace N6 := hide N6)
              | (refine step_app_at rfl (.tmp 110) (.tmp 112) 22 rfl wo.heap.size 26 i0 _ 2 16 Try.underlying22 hi0 iz0 iz1 iz2 rfl (Nat.succ_pos _) _ os.length (os.flatMap exv) rfl (unhide kho5) Ay y.free.length _ (y.free.flatMap exv) rfl (unhide len2) (unhide S3) (unhide one2) (unhide b3) (unhide b4) hz5 ?_
                 intro v6 kw6 kho6 hg6 hl6
                 rw [unhide hal, unhide hfm] at kho6
                 obtain ⟨kA8, kc8, rfl⟩ := ownsRow_form kho6
                 have N66 : Blk kw6 g6 24 _ := Blk.grown (unhide N6) hg6 (own_ne (unhide kho5) (unhide N6) (by decide))
                 have c66 := N66.cell 1
                 simp at c66
                 replace kho6 := hide kho6; replace hg6 := hide hg6; replace hl6 := hide hl6))
            have M1 : Blk kw6 gO 3 (ownC n []).toArray := Blk.grown (Blk.grown (unhide O1).drew (unhide hg5) (fun e => by cases e)) (unhide hg6) (fun e => by
              have := (own_base (unhide kho5)) _ e.symm
              omega)
            have MB : Below wq.heap.size wq kw6 := bl_call (unhide O2) (bl_grown (bl_grown (Below.drew (Below.refl _ _)) (unhide hg5) (fun k hk => by cases hk)) (unhide hg6) (own_base (unhide kho5)))
            obtain ⟨B1, hB1⟩ : ∃ B1, B1 = wo.heap.size := ⟨_, rfl⟩
            rw [← hB1] at kho6
            have hqO : wq.heap.size ≤ gO := by have := unhide hgO; omega
            replace M1 := hide M1; replace MB := hide MB; replace hB1 := hide hB1
            clear S1 S2 S3 kho5 hg5 hl5 hg6 hl6 c61 c65 c66 O1 O2 O6 OE OO hz5 yO6 yOO N6 N66 len1 len2 one1 one2 b1 b2 b3 b4 hfm
            go_wp2_with fail
            go_loopw [115] (fun i wx => ∃ (k2 : Nat), k2 ≤ all.length ∧ i = .int .i64 k2 ∧ Hid (Blk wx gO 3 (ownC n (all.take k2)).toArray) ∧ Hid (wx.ownsRow B1 26 2 (.slice kA8 all.length kc8) all.length (all.flatMap exv)) ∧ Hid (Below wq.heap.size wq wx)) (fun i _ => all.length - (intOf i).toNat)
            case atStart => exact ⟨0, Nat.zero_le _, rfl, M1, kho6, MB⟩
            case round =>
              clear M1 kho6 MB
              obtain ⟨k2, hk2, rfl, M1, kho6, MB⟩ := hrel
              generalize wr = wx at *
              by_cases hlt2 : k2 < all.length
              · obtain ⟨kA9, kc9, e9, _, _, hoc⟩ := (Exs.of_own (e := 26) (unhide kho6)).open
                injection e9 with e91 _ e93
                subst e91 e93
                obtain ⟨gb, go, rfl, gb1, glt, p0, p1⟩ := hoc k2 hlt2
                obtain ⟨s0, s1, s2⟩ := unhide hEach all[k2] (List.getElem_mem _)
                have hsn : all.take (k2 + 1) = all.take k2 ++ [all[k2]] := List.take_succ_eq_append_getElem hlt2
                have hcl := cnt_le (all.take k2)
                have htl : (all.take k2).length ≤ all.length := by rw [List.length_take]; exact Nat.min_le_right _ _
                generalize all[k2] = s at *
                generalize all.take k2 = L at *
                obtain ⟨sa, sl⟩ := s
                try dsimp only at p0 p1 s0 s1 s2
                have ybx : gb < wx.heap.size := World.block_lt_of_cell? wx _ p0
                obtain ⟨g19, hg19⟩ : ∃ g19, g19 = wx.heap.size := ⟨_, rfl⟩
                have yOx : gO < wx.heap.size := (unhide M1).lt
                replace hsn := hide hsn; replace hcl := hide hcl
                clear hoc gb1
                go_upto_region 30 with fail
                have I1 := (unhide M1).alloc (.cells #[.int .i64 sa, .int .i64 sl] 26)
                have I2 : Blk (wx.alloc (.cells #[.int .i64 sa, .int .i64 sl] 26)) wx.heap.size 26 #[.int .i64 sa, .int .i64 sl] := Blk.new rfl
                have I3 : (wx.alloc (.cells #[.int .i64 sa, .int .i64 sl] 26)).ownsRow B1 26 2 (.slice (some ⟨gb, go, none⟩) all.length kc8) all.length (all.flatMap exv) := (unhide kho6).alloc _
                have I4 : Below wq.heap.size wq (wx.alloc (.cells #[.int .i64 sa, .int .i64 sl] 26)) := bl_alloc (unhide MB) _
                rw [← inC_zero n L ⟨sa, sl⟩] at I1
                generalize wx.alloc (.cells #[.int .i64 sa, .int .i64 sl] 26) = wi at *
                rw [← hg19] at I2 ⊢
                replace I1 := hide I1; replace I2 := hide I2; replace I3 := hide I3; replace I4 := hide I4; replace hg19 := hide hg19
                have hgq : wq.heap.size ≤ gO := by omega
                have hne : gO ≠ g19 := by have := unhide hg19; omega
                clear p0 p1 ybx glt
                go_loopw [121] (fun i wy => ∃ (J : Int), 0 ≤ J ∧ J ≤ sl ∧ i = .int .i64 J ∧ Hid (Blk wy gO 3 (inC n L ⟨sa, sl⟩ J).toArray) ∧ Hid (Blk wy g19 26 #[.int .i64 sa, .int .i64 sl]) ∧ Hid (wy.ownsRow B1 26 2 (.slice (some ⟨gb, go, none⟩) all.length kc8) all.length (all.flatMap exv)) ∧ Hid (Below wq.heap.size wq wy)) (fun i _ => sl.toNat - (intOf i).toNat)
                case atStart => exact ⟨0, by omega, by omega, rfl, I1, I2, I3, I4⟩
                case round =>
                  clear I1 I2 I3 I4
                  obtain ⟨J, hJ0, hJ1, rfl, I1, I2, I3, I4⟩ := hrel
                  generalize wr = wy at *
                  have r0 := (unhide I2).cell 0
                  have r1 := (unhide I2).cell 1
                  simp at r0 r1
                  have y19 : g19 < wy.heap.size := (unhide I2).lt
                  have yO : gO < wy.heap.size := (unhide I1).lt
                  by_cases hJ : J < sl
                  · obtain ⟨t, ht⟩ : ∃ t : Nat, sa + J = (t : Int) := ⟨(sa + J).toNat, by omega⟩
                    have htn : t < n := by omega
                    have r2 : wy.cell? ⟨gO, t, none⟩ = some (.int .i64 (cnt L t : Int)) := by
                      rw [(unhide I1).cell]
                      have := inC_get n L ⟨sa, sl⟩ J t htn (by dsimp only; omega)
                      simpa using this
                    have r3 := (unhide I1).frozen t
                    have hset := inC_set n L ⟨sa, sl⟩ J t hJ0 (by dsimp only; omega)
                    have hcb := unhide hcl t
                    generalize cnt L t = m at *
                    have i1 : IntKind.i64.wrap (sa + J) = (t : Int) := by rw [ht]; exact IntWalk.i64_in _ (by omega)
                    have i2 : IntKind.i64.wrap ((m : Int) + 1) = (m : Int) + 1 := IntWalk.i64_in _ (by omega)
                    have i3 : IntKind.i64.wrap (J + 1) = J + 1 := IntWalk.i64_in _ (by omega)
                    have d0 : decide (sa < 0) = false := by simpa using s0
                    have d1 : decide ((n : Int) ≤ (t : Int)) = false := by simp; omega
                    have I1' := (unhide I1).set t (.int .i64 ((m : Int) + 1))
                    rw [List.setIfInBounds_toArray, hset] at I1'
                    have I2' := (unhide I2).far (p := ⟨gO, t, none⟩) hne.symm (.int .i64 ((m : Int) + 1))
                    have I3' := own_far (unhide I3) (unhide I1) (by decide) t (.int .i64 ((m : Int) + 1))
                    have I4' := (unhide I4).setCell (p := ⟨gO, t, none⟩) hgq (.int .i64 ((m : Int) + 1))
                    replace hset := hide hset; replace I1' := hide I1'; replace I2' := hide I2'; replace I3' := hide I3'; replace I4' := hide I4'
                    clear hcb I1 I2 I3 I4 hset ht
                    go_wp2_with fail
                    clear i1 i2 i3
                    go_roundw
                    case rel => exact ⟨J + 1, by omega, by omega, rfl, I1', I2', I3', I4'⟩
                    case measure => simp [intOf]; omega
                  · obtain rfl : J = sl := by omega
                    have I1' := unhide I1
                    rw [inC_all n L ⟨sa, J⟩, ← unhide hsn] at I1'
                    replace I1' := hide I1'
                    clear I1
                    go_wp2_with fail
                    go_roundw
                    case rel => exact ⟨k2 + 1, by omega, by go_num, I1', I3, I4⟩
                    case measure => simp [intOf]; omega
              · obtain rfl : k2 = all.length := by omega
                rw [List.take_length] at M1
                have hc : ∀ (t : Nat), t < n → wx.cell? ⟨gO, t, none⟩ = some (.int .i64 1) := fun t ht => by
                  rw [(unhide M1).cell]
                  have := ownC_get n all t ht
                  rw [unhide hAll t (by omega) (by omega)] at this
                  simpa using this
                have yO : gO < wx.heap.size := (unhide M1).lt
                replace hc := hide hc
                have hbE := unhide MB
                have ho' := own_below (unhide ho4) hbE (Nat.le_refl _)
                have hE' := (unhide hE4).grow hbE
                have B6' := (unhide B64).below hbE y6
                have bw' := bl_call (unhide bw4) hbE
                replace ho' := hide ho'; replace hE' := hide hE'; replace B6' := hide B6'; replace bw' := hide bw'
                clear hbE MB kho6 M1
                go_wp2_with fail
                go_loopw [148] (fun i wz => ∃ (t : Nat), t ≤ n ∧ i = .int .i64 t ∧ wx = wz) (fun i _ => n - (intOf i).toNat)
                case atStart => exact ⟨0, Nat.zero_le _, rfl, rfl⟩
                case round =>
                  obtain ⟨t, ht, rfl, rfl⟩ := hrel
                  by_cases htn : t < n
                  · have r2 := unhide hc t htn
                    go_wp2_with fail
                    go_roundw
                    case rel => exact ⟨t + 1, by omega, by go_num, trivial⟩
                    case measure => simp [intOf]; omega
                  · obtain rfl : t = n := by omega
                    go_wp2_with fail
                    go_roundw
                    case rel => exact ⟨k + 1, os, y, Ay, cy, A, c', by omega, by go_num, rfl, unhide hos, unhide hI, ho', hE', hAp, B6', bw'⟩
                    case measure => simp [intOf]; omega
        · have d1 : decide (0 < z) = false := by simpa using hpos
          have hos : os.length ≤ k + 1 := by omega
          by_cases hzn : z < 0
          · have hm0 : os.length = 0 := by
              apply Classical.byContradiction
              intro h
              exact hneg ⟨hzn, h⟩
            have d2 : decide (0 < os.length) = false := decide_eq_false (by omega)
            replace hm0 := hide hm0
            have d0 : decide (z < 0) = true := by simpa using hzn
            clear hneg hpos hzn hosk
            go_upto_region 25 with fail
            clear z0 yo d0 d1 d2
            generalize wr = wq at *
            have hsq := (unhide bw).size
            have y6 : g6 < wq.heap.size := (unhide B6).lt
            have hAll := fun (i : Int) h0 h1 => Inv.all (i := i) hI hnB h0 h1
            have hEach := Inv.eachAll hI hnB
            have hyl := okX_len2 hI.oky
            rw [hI.size, (newX_ok hnB).2.1] at hyl
            have hal : os.length + y.free.length = (os ++ y.free).length := by rw [List.length_append]
            have hfm : os.flatMap exv ++ y.free.flatMap exv = (os ++ y.free).flatMap exv := by rw [List.flatMap_append]
            have len1 := flat_len os
            have len2 := flat_len y.free
            have one1 := flat_one os
            have one2 := flat_one y.free
            have b1 : 0 + os.length ≤ maxLen := by simp only [maxLen]; omega
            have b2 : (0 + os.length) * 16 ≤ 140737488355328 := by omega
            have b3 : os.length + y.free.length ≤ maxLen := by simp only [maxLen]; omega
            have b4 : (os.length + y.free.length) * 16 ≤ 140737488355328 := by omega
            have hall200 : (os ++ y.free).length ≤ 200 := by rw [← hal]; omega
            generalize os ++ y.free = all at *
            have q61 := (unhide B6).cell 1
            simp at q61
            replace hAll := hide hAll; replace hEach := hide hEach; replace hal := hide hal; replace hfm := hide hfm; replace len1 := hide len1; replace len2 := hide len2; replace one1 := hide one1; replace one2 := hide one2; replace b1 := hide b1; replace b2 := hide b2; replace b3 := hide b3; replace b4 := hide b4; replace hI := hide hI; replace hos := hide hos; replace hyl := hide hyl
            have hmk' := unhide hmk
            go_upto_region 26 with fail
            clear hmk'
            have O1 : Blk (wq.alloc (.cells (ownC n []).toArray 3)) wq.heap.size 3 (ownC n []).toArray := Blk.new rfl
            have O2 : Below wq.heap.size wq (wq.alloc (.cells (ownC n []).toArray 3)) := bl_alloc (Below.refl _ _) _
            have O6 := (unhide B6).alloc (.cells (ownC n []).toArray 3)
            have OE := (unhide hE).grow O2
            have OO := own_below (unhide ho) O2 (Nat.le_refl _)
            generalize wq.alloc (.cells (ownC n []).toArray 3) = wo at *
            obtain ⟨gO, hgO⟩ : ∃ gO, gO = wq.heap.size := ⟨_, rfl⟩
            rw [← hgO] at O1 ⊢
            have c61 := O6.cell 1
            simp at c61
            have yO6 : g6 < wo.heap.size := O6.lt
            have yOO : gO < wo.heap.size := O1.lt
            have S1 : SrcOk wo.drew A os.length (os.flatMap exv) := (Exs.of_own OO).src.2
            have S2 : ∀ kw5, wo.drew.grownBy kw5 none → SrcOk kw5 Ay y.free.length (y.free.flatMap exv) := fun kw5 hg => (OE.keep (Agree.grown (Agree.refl _ _ wo.drew) hg (Nat.le_refl _) (fun k hk => by cases hk))).src.2
            replace O1 := hide O1; replace O2 := hide O2; replace O6 := hide O6; replace OE := hide OE; replace OO := hide OO; replace hgO := hide hgO; replace S1 := hide S1; replace S2 := hide S2
            clear q61
            go_region_held3 (fun W => W.cell? ⟨g6, 1, none⟩ = some (.slice Ay y.free.length cy)) (first | exact c61 | exact c65 | exact c66 | assumption) (first
              | (refine step_app_at rfl (.const (.slice none 0 0)) (.tmp 109) 22 rfl wo.heap.size 26 i0 _ 2 16 Try.underlying22 hi0 iz0 iz1 iz2 rfl (Nat.succ_pos _) _ 0 [] rfl own_nil A os.length _ (os.flatMap exv) rfl (unhide len1) (unhide S1) (unhide one1) (unhide b1) (unhide b2) (Nat.le_refl _) ?_
                 intro v5 kw5 kho5 hg5 hl5
                 replace hg5 : wo.drew.grownBy kw5 none := hg5
                 have S3 := unhide S2 kw5 hg5
                 have hz5 : wo.heap.size ≤ kw5.heap.size := hg5.size
                 rw [Nat.zero_add, List.nil_append] at kho5
                 have N6 : Blk kw5 g6 24 _ := Blk.grown (unhide O6).drew hg5 (fun e => by cases e)
                 have c65 := N6.cell 1
                 simp at c65
                 replace S3 := hide S3; replace kho5 := hide kho5; replace hg5 := hide hg5; replace hl5 := hide hl5; replace N6 := hide N6)
              | (refine step_app_at rfl (.tmp 110) (.tmp 112) 22 rfl wo.heap.size 26 i0 _ 2 16 Try.underlying22 hi0 iz0 iz1 iz2 rfl (Nat.succ_pos _) _ os.length (os.flatMap exv) rfl (unhide kho5) Ay y.free.length _ (y.free.flatMap exv) rfl (unhide len2) (unhide S3) (unhide one2) (unhide b3) (unhide b4) hz5 ?_
                 intro v6 kw6 kho6 hg6 hl6
                 rw [unhide hal, unhide hfm] at kho6
                 obtain ⟨kA8, kc8, rfl⟩ := ownsRow_form kho6
                 have N66 : Blk kw6 g6 24 _ := Blk.grown (unhide N6) hg6 (own_ne (unhide kho5) (unhide N6) (by decide))
                 have c66 := N66.cell 1
                 simp at c66
                 replace kho6 := hide kho6; replace hg6 := hide hg6; replace hl6 := hide hl6))
            have M1 : Blk kw6 gO 3 (ownC n []).toArray := Blk.grown (Blk.grown (unhide O1).drew (unhide hg5) (fun e => by cases e)) (unhide hg6) (fun e => by
              have := (own_base (unhide kho5)) _ e.symm
              omega)
            have MB : Below wq.heap.size wq kw6 := bl_call (unhide O2) (bl_grown (bl_grown (Below.drew (Below.refl _ _)) (unhide hg5) (fun k hk => by cases hk)) (unhide hg6) (own_base (unhide kho5)))
            obtain ⟨B1, hB1⟩ : ∃ B1, B1 = wo.heap.size := ⟨_, rfl⟩
            rw [← hB1] at kho6
            have hqO : wq.heap.size ≤ gO := by have := unhide hgO; omega
            replace M1 := hide M1; replace MB := hide MB; replace hB1 := hide hB1
            clear S1 S2 S3 kho5 hg5 hl5 hg6 hl6 c61 c65 c66 O1 O2 O6 OE OO hz5 yO6 yOO N6 N66 len1 len2 one1 one2 b1 b2 b3 b4 hfm
            go_wp2_with fail
            go_loopw [115] (fun i wx => ∃ (k2 : Nat), k2 ≤ all.length ∧ i = .int .i64 k2 ∧ Hid (Blk wx gO 3 (ownC n (all.take k2)).toArray) ∧ Hid (wx.ownsRow B1 26 2 (.slice kA8 all.length kc8) all.length (all.flatMap exv)) ∧ Hid (Below wq.heap.size wq wx)) (fun i _ => all.length - (intOf i).toNat)
            case atStart => exact ⟨0, Nat.zero_le _, rfl, M1, kho6, MB⟩
            case round =>
              clear M1 kho6 MB
              obtain ⟨k2, hk2, rfl, M1, kho6, MB⟩ := hrel
              generalize wr = wx at *
              by_cases hlt2 : k2 < all.length
              · obtain ⟨kA9, kc9, e9, _, _, hoc⟩ := (Exs.of_own (e := 26) (unhide kho6)).open
                injection e9 with e91 _ e93
                subst e91 e93
                obtain ⟨gb, go, rfl, gb1, glt, p0, p1⟩ := hoc k2 hlt2
                obtain ⟨s0, s1, s2⟩ := unhide hEach all[k2] (List.getElem_mem _)
                have hsn : all.take (k2 + 1) = all.take k2 ++ [all[k2]] := List.take_succ_eq_append_getElem hlt2
                have hcl := cnt_le (all.take k2)
                have htl : (all.take k2).length ≤ all.length := by rw [List.length_take]; exact Nat.min_le_right _ _
                generalize all[k2] = s at *
                generalize all.take k2 = L at *
                obtain ⟨sa, sl⟩ := s
                try dsimp only at p0 p1 s0 s1 s2
                have ybx : gb < wx.heap.size := World.block_lt_of_cell? wx _ p0
                obtain ⟨g19, hg19⟩ : ∃ g19, g19 = wx.heap.size := ⟨_, rfl⟩
                have yOx : gO < wx.heap.size := (unhide M1).lt
                replace hsn := hide hsn; replace hcl := hide hcl
                clear hoc gb1
                go_upto_region 30 with fail
                have I1 := (unhide M1).alloc (.cells #[.int .i64 sa, .int .i64 sl] 26)
                have I2 : Blk (wx.alloc (.cells #[.int .i64 sa, .int .i64 sl] 26)) wx.heap.size 26 #[.int .i64 sa, .int .i64 sl] := Blk.new rfl
                have I3 : (wx.alloc (.cells #[.int .i64 sa, .int .i64 sl] 26)).ownsRow B1 26 2 (.slice (some ⟨gb, go, none⟩) all.length kc8) all.length (all.flatMap exv) := (unhide kho6).alloc _
                have I4 : Below wq.heap.size wq (wx.alloc (.cells #[.int .i64 sa, .int .i64 sl] 26)) := bl_alloc (unhide MB) _
                rw [← inC_zero n L ⟨sa, sl⟩] at I1
                generalize wx.alloc (.cells #[.int .i64 sa, .int .i64 sl] 26) = wi at *
                rw [← hg19] at I2 ⊢
                replace I1 := hide I1; replace I2 := hide I2; replace I3 := hide I3; replace I4 := hide I4; replace hg19 := hide hg19
                have hgq : wq.heap.size ≤ gO := by omega
                have hne : gO ≠ g19 := by have := unhide hg19; omega
                clear p0 p1 ybx glt
                go_loopw [121] (fun i wy => ∃ (J : Int), 0 ≤ J ∧ J ≤ sl ∧ i = .int .i64 J ∧ Hid (Blk wy gO 3 (inC n L ⟨sa, sl⟩ J).toArray) ∧ Hid (Blk wy g19 26 #[.int .i64 sa, .int .i64 sl]) ∧ Hid (wy.ownsRow B1 26 2 (.slice (some ⟨gb, go, none⟩) all.length kc8) all.length (all.flatMap exv)) ∧ Hid (Below wq.heap.size wq wy)) (fun i _ => sl.toNat - (intOf i).toNat)
                case atStart => exact ⟨0, by omega, by omega, rfl, I1, I2, I3, I4⟩
                case round =>
                  clear I1 I2 I3 I4
                  obtain ⟨J, hJ0, hJ1, rfl, I1, I2, I3, I4⟩ := hrel
                  generalize wr = wy at *
                  have r0 := (unhide I2).cell 0
                  have r1 := (unhide I2).cell 1
                  simp at r0 r1
                  have y19 : g19 < wy.heap.size := (unhide I2).lt
                  have yO : gO < wy.heap.size := (unhide I1).lt
                  by_cases hJ : J < sl
                  · obtain ⟨t, ht⟩ : ∃ t : Nat, sa + J = (t : Int) := ⟨(sa + J).toNat, by omega⟩
                    have htn : t < n := by omega
                    have r2 : wy.cell? ⟨gO, t, none⟩ = some (.int .i64 (cnt L t : Int)) := by
                      rw [(unhide I1).cell]
                      have := inC_get n L ⟨sa, sl⟩ J t htn (by dsimp only; omega)
                      simpa using this
                    have r3 := (unhide I1).frozen t
                    have hset := inC_set n L ⟨sa, sl⟩ J t hJ0 (by dsimp only; omega)
                    have hcb := unhide hcl t
                    generalize cnt L t = m at *
                    have i1 : IntKind.i64.wrap (sa + J) = (t : Int) := by rw [ht]; exact IntWalk.i64_in _ (by omega)
                    have i2 : IntKind.i64.wrap ((m : Int) + 1) = (m : Int) + 1 := IntWalk.i64_in _ (by omega)
                    have i3 : IntKind.i64.wrap (J + 1) = J + 1 := IntWalk.i64_in _ (by omega)
                    have d0 : decide (sa < 0) = false := by simpa using s0
                    have d1 : decide ((n : Int) ≤ (t : Int)) = false := by simp; omega
                    have I1' := (unhide I1).set t (.int .i64 ((m : Int) + 1))
                    rw [List.setIfInBounds_toArray, hset] at I1'
                    have I2' := (unhide I2).far (p := ⟨gO, t, none⟩) hne.symm (.int .i64 ((m : Int) + 1))
                    have I3' := own_far (unhide I3) (unhide I1) (by decide) t (.int .i64 ((m : Int) + 1))
                    have I4' := (unhide I4).setCell (p := ⟨gO, t, none⟩) hgq (.int .i64 ((m : Int) + 1))
                    replace hset := hide hset; replace I1' := hide I1'; replace I2' := hide I2'; replace I3' := hide I3'; replace I4' := hide I4'
                    clear hcb I1 I2 I3 I4 hset ht
                    go_wp2_with fail
                    clear i1 i2 i3
                    go_roundw
                    case rel => exact ⟨J + 1, by omega, by omega, rfl, I1', I2', I3', I4'⟩
                    case measure => simp [intOf]; omega
                  · obtain rfl : J = sl := by omega
                    have I1' := unhide I1
                    rw [inC_all n L ⟨sa, J⟩, ← unhide hsn] at I1'
                    replace I1' := hide I1'
                    clear I1
                    go_wp2_with fail
                    go_roundw
                    case rel => exact ⟨k2 + 1, by omega, by go_num, I1', I3, I4⟩
                    case measure => simp [intOf]; omega
              · obtain rfl : k2 = all.length := by omega
                rw [List.take_length] at M1
                have hc : ∀ (t : Nat), t < n → wx.cell? ⟨gO, t, none⟩ = some (.int .i64 1) := fun t ht => by
                  rw [(unhide M1).cell]
                  have := ownC_get n all t ht
                  rw [unhide hAll t (by omega) (by omega)] at this
                  simpa using this
                have yO : gO < wx.heap.size := (unhide M1).lt
                replace hc := hide hc
                have hbE := unhide MB
                have ho' := own_below (unhide ho) hbE (Nat.le_refl _)
                have hE' := (unhide hE).grow hbE
                have B6' := (unhide B6).below hbE y6
                have bw' := bl_call (unhide bw) hbE
                replace ho' := hide ho'; replace hE' := hide hE'; replace B6' := hide B6'; replace bw' := hide bw'
                clear hbE MB kho6 M1
                go_wp2_with fail
                go_loopw [148] (fun i wz => ∃ (t : Nat), t ≤ n ∧ i = .int .i64 t ∧ wx = wz) (fun i _ => n - (intOf i).toNat)
                case atStart => exact ⟨0, Nat.zero_le _, rfl, rfl⟩
                case round =>
                  obtain ⟨t, ht, rfl, rfl⟩ := hrel
                  by_cases htn : t < n
                  · have r2 := unhide hc t htn
                    go_wp2_with fail
                    go_roundw
                    case rel => exact ⟨t + 1, by omega, by go_num, trivial⟩
                    case measure => simp [intOf]; omega
                  · obtain rfl : t = n := by omega
                    go_wp2_with fail
                    go_roundw
                    case rel => exact ⟨k + 1, os, y, Ay, cy, A, c', by omega, by go_num, rfl, unhide hos, unhide hI, ho', hE', hAp, B6', bw'⟩
                    case measure => simp [intOf]; omega
          · have d0 : decide (z < 0) = false := by simpa using hzn
            clear hneg hpos hzn hosk
            go_upto_region 25 with fail
            clear z0 yo d0 d1
            generalize wr = wq at *
            have hsq := (unhide bw).size
            have y6 : g6 < wq.heap.size := (unhide B6).lt
            have hAll := fun (i : Int) h0 h1 => Inv.all (i := i) hI hnB h0 h1
            have hEach := Inv.eachAll hI hnB
            have hyl := okX_len2 hI.oky
            rw [hI.size, (newX_ok hnB).2.1] at hyl
            have hal : os.length + y.free.length = (os ++ y.free).length := by rw [List.length_append]
            have hfm : os.flatMap exv ++ y.free.flatMap exv = (os ++ y.free).flatMap exv := by rw [List.flatMap_append]
            have len1 := flat_len os
            have len2 := flat_len y.free
            have one1 := flat_one os
            have one2 := flat_one y.free
            have b1 : 0 + os.length ≤ maxLen := by simp only [maxLen]; omega
            have b2 : (0 + os.length) * 16 ≤ 140737488355328 := by omega
            have b3 : os.length + y.free.length ≤ maxLen := by simp only [maxLen]; omega
            have b4 : (os.length + y.free.length) * 16 ≤ 140737488355328 := by omega
            have hall200 : (os ++ y.free).length ≤ 200 := by rw [← hal]; omega
            generalize os ++ y.free = all at *
            have q61 := (unhide B6).cell 1
            simp at q61
            replace hAll := hide hAll; replace hEach := hide hEach; replace hal := hide hal; replace hfm := hide hfm; replace len1 := hide len1; replace len2 := hide len2; replace one1 := hide one1; replace one2 := hide one2; replace b1 := hide b1; replace b2 := hide b2; replace b3 := hide b3; replace b4 := hide b4; replace hI := hide hI; replace hos := hide hos; replace hyl := hide hyl
            have hmk' := unhide hmk
            go_upto_region 26 with fail
            clear hmk'
            have O1 : Blk (wq.alloc (.cells (ownC n []).toArray 3)) wq.heap.size 3 (ownC n []).toArray := Blk.new rfl
            have O2 : Below wq.heap.size wq (wq.alloc (.cells (ownC n []).toArray 3)) := bl_alloc (Below.refl _ _) _
            have O6 := (unhide B6).alloc (.cells (ownC n []).toArray 3)
            have OE := (unhide hE).grow O2
            have OO := own_below (unhide ho) O2 (Nat.le_refl _)
            generalize wq.alloc (.cells (ownC n []).toArray 3) = wo at *
            obtain ⟨gO, hgO⟩ : ∃ gO, gO = wq.heap.size := ⟨_, rfl⟩
            rw [← hgO] at O1 ⊢
            have c61 := O6.cell 1
            simp at c61
            have yO6 : g6 < wo.heap.size := O6.lt
            have yOO : gO < wo.heap.size := O1.lt
            have S1 : SrcOk wo.drew A os.length (os.flatMap exv) := (Exs.of_own OO).src.2
            have S2 : ∀ kw5, wo.drew.grownBy kw5 none → SrcOk kw5 Ay y.free.length (y.free.flatMap exv) := fun kw5 hg => (OE.keep (Agree.grown (Agree.refl _ _ wo.drew) hg (Nat.le_refl _) (fun k hk => by cases hk))).src.2
            replace O1 := hide O1; replace O2 := hide O2; replace O6 := hide O6; replace OE := hide OE; replace OO := hide OO; replace hgO := hide hgO; replace S1 := hide S1; replace S2 := hide S2
            clear q61
            go_region_held3 (fun W => W.cell? ⟨g6, 1, none⟩ = some (.slice Ay y.free.length cy)) (first | exact c61 | exact c65 | exact c66 | assumption) (first
              | (refine step_app_at rfl (.const (.slice none 0 0)) (.tmp 109) 22 rfl wo.heap.size 26 i0 _ 2 16 Try.underlying22 hi0 iz0 iz1 iz2 rfl (Nat.succ_pos _) _ 0 [] rfl own_nil A os.length _ (os.flatMap exv) rfl (unhide len1) (unhide S1) (unhide one1) (unhide b1) (unhide b2) (Nat.le_refl _) ?_
                 intro v5 kw5 kho5 hg5 hl5
                 replace hg5 : wo.drew.grownBy kw5 none := hg5
                 have S3 := unhide S2 kw5 hg5
                 have hz5 : wo.heap.size ≤ kw5.heap.size := hg5.size
                 rw [Nat.zero_add, List.nil_append] at kho5
                 have N6 : Blk kw5 g6 24 _ := Blk.grown (unhide O6).drew hg5 (fun e => by cases e)
                 have c65 := N6.cell 1
                 simp at c65
                 replace S3 := hide S3; replace kho5 := hide kho5; replace hg5 := hide hg5; replace hl5 := hide hl5; replace N6 := hide N6)
              | (refine step_app_at rfl (.tmp 110) (.tmp 112) 22 rfl wo.heap.size 26 i0 _ 2 16 Try.underlying22 hi0 iz0 iz1 iz2 rfl (Nat.succ_pos _) _ os.length (os.flatMap exv) rfl (unhide kho5) Ay y.free.length _ (y.free.flatMap exv) rfl (unhide len2) (unhide S3) (unhide one2) (unhide b3) (unhide b4) hz5 ?_
                 intro v6 kw6 kho6 hg6 hl6
                 rw [unhide hal, unhide hfm] at kho6
                 obtain ⟨kA8, kc8, rfl⟩ := ownsRow_form kho6
                 have N66 : Blk kw6 g6 24 _ := Blk.grown (unhide N6) hg6 (own_ne (unhide kho5) (unhide N6) (by decide))
                 have c66 := N66.cell 1
                 simp at c66
                 replace kho6 := hide kho6; replace hg6 := hide hg6; replace hl6 := hide hl6))
            have M1 : Blk kw6 gO 3 (ownC n []).toArray := Blk.grown (Blk.grown (unhide O1).drew (unhide hg5) (fun e => by cases e)) (unhide hg6) (fun e => by
              have := (own_base (unhide kho5)) _ e.symm
              omega)
            have MB : Below wq.heap.size wq kw6 := bl_call (unhide O2) (bl_grown (bl_grown (Below.drew (Below.refl _ _)) (unhide hg5) (fun k hk => by cases hk)) (unhide hg6) (own_base (unhide kho5)))
            obtain ⟨B1, hB1⟩ : ∃ B1, B1 = wo.heap.size := ⟨_, rfl⟩
            rw [← hB1] at kho6
            have hqO : wq.heap.size ≤ gO := by have := unhide hgO; omega
            replace M1 := hide M1; replace MB := hide MB; replace hB1 := hide hB1
            clear S1 S2 S3 kho5 hg5 hl5 hg6 hl6 c61 c65 c66 O1 O2 O6 OE OO hz5 yO6 yOO N6 N66 len1 len2 one1 one2 b1 b2 b3 b4 hfm
            go_wp2_with fail
            go_loopw [115] (fun i wx => ∃ (k2 : Nat), k2 ≤ all.length ∧ i = .int .i64 k2 ∧ Hid (Blk wx gO 3 (ownC n (all.take k2)).toArray) ∧ Hid (wx.ownsRow B1 26 2 (.slice kA8 all.length kc8) all.length (all.flatMap exv)) ∧ Hid (Below wq.heap.size wq wx)) (fun i _ => all.length - (intOf i).toNat)
            case atStart => exact ⟨0, Nat.zero_le _, rfl, M1, kho6, MB⟩
            case round =>
              clear M1 kho6 MB
              obtain ⟨k2, hk2, rfl, M1, kho6, MB⟩ := hrel
              generalize wr = wx at *
              by_cases hlt2 : k2 < all.length
              · obtain ⟨kA9, kc9, e9, _, _, hoc⟩ := (Exs.of_own (e := 26) (unhide kho6)).open
                injection e9 with e91 _ e93
                subst e91 e93
                obtain ⟨gb, go, rfl, gb1, glt, p0, p1⟩ := hoc k2 hlt2
                obtain ⟨s0, s1, s2⟩ := unhide hEach all[k2] (List.getElem_mem _)
                have hsn : all.take (k2 + 1) = all.take k2 ++ [all[k2]] := List.take_succ_eq_append_getElem hlt2
                have hcl := cnt_le (all.take k2)
                have htl : (all.take k2).length ≤ all.length := by rw [List.length_take]; exact Nat.min_le_right _ _
                generalize all[k2] = s at *
                generalize all.take k2 = L at *
                obtain ⟨sa, sl⟩ := s
                try dsimp only at p0 p1 s0 s1 s2
                have ybx : gb < wx.heap.size := World.block_lt_of_cell? wx _ p0
                obtain ⟨g19, hg19⟩ : ∃ g19, g19 = wx.heap.size := ⟨_, rfl⟩
                have yOx : gO < wx.heap.size := (unhide M1).lt
                replace hsn := hide hsn; replace hcl := hide hcl
                clear hoc gb1
                go_upto_region 30 with fail
                have I1 := (unhide M1).alloc (.cells #[.int .i64 sa, .int .i64 sl] 26)
                have I2 : Blk (wx.alloc (.cells #[.int .i64 sa, .int .i64 sl] 26)) wx.heap.size 26 #[.int .i64 sa, .int .i64 sl] := Blk.new rfl
                have I3 : (wx.alloc (.cells #[.int .i64 sa, .int .i64 sl] 26)).ownsRow B1 26 2 (.slice (some ⟨gb, go, none⟩) all.length kc8) all.length (all.flatMap exv) := (unhide kho6).alloc _
                have I4 : Below wq.heap.size wq (wx.alloc (.cells #[.int .i64 sa, .int .i64 sl] 26)) := bl_alloc (unhide MB) _
                rw [← inC_zero n L ⟨sa, sl⟩] at I1
                generalize wx.alloc (.cells #[.int .i64 sa, .int .i64 sl] 26) = wi at *
                rw [← hg19] at I2 ⊢
                replace I1 := hide I1; replace I2 := hide I2; replace I3 := hide I3; replace I4 := hide I4; replace hg19 := hide hg19
                have hgq : wq.heap.size ≤ gO := by omega
                have hne : gO ≠ g19 := by have := unhide hg19; omega
                clear p0 p1 ybx glt
                go_loopw [121] (fun i wy => ∃ (J : Int), 0 ≤ J ∧ J ≤ sl ∧ i = .int .i64 J ∧ Hid (Blk wy gO 3 (inC n L ⟨sa, sl⟩ J).toArray) ∧ Hid (Blk wy g19 26 #[.int .i64 sa, .int .i64 sl]) ∧ Hid (wy.ownsRow B1 26 2 (.slice (some ⟨gb, go, none⟩) all.length kc8) all.length (all.flatMap exv)) ∧ Hid (Below wq.heap.size wq wy)) (fun i _ => sl.toNat - (intOf i).toNat)
                case atStart => exact ⟨0, by omega, by omega, rfl, I1, I2, I3, I4⟩
                case round =>
                  clear I1 I2 I3 I4
                  obtain ⟨J, hJ0, hJ1, rfl, I1, I2, I3, I4⟩ := hrel
                  generalize wr = wy at *
                  have r0 := (unhide I2).cell 0
                  have r1 := (unhide I2).cell 1
                  simp at r0 r1
                  have y19 : g19 < wy.heap.size := (unhide I2).lt
                  have yO : gO < wy.heap.size := (unhide I1).lt
                  by_cases hJ : J < sl
                  · obtain ⟨t, ht⟩ : ∃ t : Nat, sa + J = (t : Int) := ⟨(sa + J).toNat, by omega⟩
                    have htn : t < n := by omega
                    have r2 : wy.cell? ⟨gO, t, none⟩ = some (.int .i64 (cnt L t : Int)) := by
                      rw [(unhide I1).cell]
                      have := inC_get n L ⟨sa, sl⟩ J t htn (by dsimp only; omega)
                      simpa using this
                    have r3 := (unhide I1).frozen t
                    have hset := inC_set n L ⟨sa, sl⟩ J t hJ0 (by dsimp only; omega)
                    have hcb := unhide hcl t
                    generalize cnt L t = m at *
                    have i1 : IntKind.i64.wrap (sa + J) = (t : Int) := by rw [ht]; exact IntWalk.i64_in _ (by omega)
                    have i2 : IntKind.i64.wrap ((m : Int) + 1) = (m : Int) + 1 := IntWalk.i64_in _ (by omega)
                    have i3 : IntKind.i64.wrap (J + 1) = J + 1 := IntWalk.i64_in _ (by omega)
                    have d0 : decide (sa < 0) = false := by simpa using s0
                    have d1 : decide ((n : Int) ≤ (t : Int)) = false := by simp; omega
                    have I1' := (unhide I1).set t (.int .i64 ((m : Int) + 1))
                    rw [List.setIfInBounds_toArray, hset] at I1'
                    have I2' := (unhide I2).far (p := ⟨gO, t, none⟩) hne.symm (.int .i64 ((m : Int) + 1))
                    have I3' := own_far (unhide I3) (unhide I1) (by decide) t (.int .i64 ((m : Int) + 1))
                    have I4' := (unhide I4).setCell (p := ⟨gO, t, none⟩) hgq (.int .i64 ((m : Int) + 1))
                    replace hset := hide hset; replace I1' := hide I1'; replace I2' := hide I2'; replace I3' := hide I3'; replace I4' := hide I4'
                    clear hcb I1 I2 I3 I4 hset ht
                    go_wp2_with fail
                    clear i1 i2 i3
                    go_roundw
                    case rel => exact ⟨J + 1, by omega, by omega, rfl, I1', I2', I3', I4'⟩
                    case measure => simp [intOf]; omega
                  · obtain rfl : J = sl := by omega
                    have I1' := unhide I1
                    rw [inC_all n L ⟨sa, J⟩, ← unhide hsn] at I1'
                    replace I1' := hide I1'
                    clear I1
                    go_wp2_with fail
                    go_roundw
                    case rel => exact ⟨k2 + 1, by omega, by go_num, I1', I3, I4⟩
                    case measure => simp [intOf]; omega
              · obtain rfl : k2 = all.length := by omega
                rw [List.take_length] at M1
                have hc : ∀ (t : Nat), t < n → wx.cell? ⟨gO, t, none⟩ = some (.int .i64 1) := fun t ht => by
                  rw [(unhide M1).cell]
                  have := ownC_get n all t ht
                  rw [unhide hAll t (by omega) (by omega)] at this
                  simpa using this
                have yO : gO < wx.heap.size := (unhide M1).lt
                replace hc := hide hc
                have hbE := unhide MB
                have ho' := own_below (unhide ho) hbE (Nat.le_refl _)
                have hE' := (unhide hE).grow hbE
                have B6' := (unhide B6).below hbE y6
                have bw' := bl_call (unhide bw) hbE
                replace ho' := hide ho'; replace hE' := hide hE'; replace B6' := hide B6'; replace bw' := hide bw'
                clear hbE MB kho6 M1
                go_wp2_with fail
                go_loopw [148] (fun i wz => ∃ (t : Nat), t ≤ n ∧ i = .int .i64 t ∧ wx = wz) (fun i _ => n - (intOf i).toNat)
                case atStart => exact ⟨0, Nat.zero_le _, rfl, rfl⟩
                case round =>
                  obtain ⟨t, ht, rfl, rfl⟩ := hrel
                  by_cases htn : t < n
                  · have r2 := unhide hc t htn
                    go_wp2_with fail
                    go_roundw
                    case rel => exact ⟨t + 1, by omega, by go_num, trivial⟩
                    case measure => simp [intOf]; omega
                  · obtain rfl : t = n := by omega
                    go_wp2_with fail
                    go_roundw
                    case rel => exact ⟨k + 1, os, y, Ay, cy, A, c', by omega, by go_num, rfl, unhide hos, unhide hI, ho', hE', hAp, B6', bw'⟩
                    case measure => simp [intOf]; omega
    · obtain rfl : k = l.length := by omega
      go_wp2_with fail
      go_ret
      exact ⟨rfl, unhide bw⟩
end Go.Proofs.Yteokimebfbnlkaa
