import Derived.Test.YtbonnlaplggjgaaW19
namespace Go.Proofs.Ytbonnlaplggjgaa
open Go.RowKit

set_option maxRecDepth 100000 in
set_option maxHeartbeats 2000000 in
theorem does_1 (lo lo1 : Nat) (p : Int) (b : Bool) (n : Int) (v0 v1 : Value) (l : List Int) (bs : List Bit) (s : Int) (w : World) (h : Is lo w.heap.size w v0 l) (h1 : Bts lo1 w.heap.size w v1 bs) (hs : 0 ≤ s ∧ s < 4294967296)
    (g0 : l.length ≤ 60) (g1 : n ≤ 60) (g2 : bs.length ≤ 200) :
    Calls Try.prog 3 #[.int .i64 p, .bool b, .int .i64 n, v0, v1, .int .u32 s] w fun e w' => e = .returned (.bool true) ∧ Below w.heap.size w w' := by
  obtain ⟨i0, hi0, hz0, hz1, hz2⟩ := info3'
  have g3 : l.length ≤ 1030 := by omega
  have hl := fun W => live_any W
  have hL := fun W => Learn_any p b W
  have hRL := fun W => refLearn_any p b W
  have hN := fun W => New_any n W
  have hRN := fun W => refNew_any n W
  obtain ⟨r, er, hr⟩ : ∃ r er, allR l bs = (r, er) := ⟨_, _, rfl⟩
  have hrl := allR_len hr
  have hA := fun W (hb : Below w.heap.size w W) => All_any lo lo1 v0 v1 l bs r er W (h.grow hb) (h1.grow hb) hr
  have hRA := fun W (hb : Below w.heap.size w W) => refAll_any lo lo1 v0 v1 l bs r er W (h.grow hb) (h1.grow hb) hr
  have hS := fun W => Split_any s p W hs
  have hRS := fun W => refSplit_any s p W hs
  have hC := fun W (hb : Below w.heap.size w W) => Check_any lo w.heap.size v0 l W (h.below hb (Nat.le_refl _))
  have hRC := fun W (hb : Below w.heap.size w W) => refCheck_any lo w.heap.size v0 l W (h.below hb (Nat.le_refl _))
  have hW := fun lo' hi' v2 W (hb : Below w.heap.size w W) (h2 : Is lo' hi' W v2 l) (hhi : hi' ≤ W.heap.size) => same_self lo w.heap.size lo' hi' v0 v2 l W (h.below hb (Nat.le_refl _)) h2 hb.size hhi
  have hwas : Hid (∀ (W : World) (A : Option Addr) (n c : Nat), W.ownsRow w.heap.size 3 1 (.slice A n c) n (l.flatMap ivc) → Is w.heap.size W.heap.size W (.slice A n c) l) := hide fun W A n c ho => Rd.of_own ivc_len (by omega) ho
  obtain ⟨A0, c0, rfl, _, _, _⟩ := h.open
  obtain ⟨A1, c1, rfl, _, _, _⟩ := h1.open
  have sa := (Rd.src ivc_len h).2
  have la := flat_len ivc_len l
  have oa := flat_one ivc_one l
  have b1 : 0 + l.length ≤ maxLen := by simp only [maxLen]; omega
  have b2 : (0 + l.length) * 8 ≤ 140737488355328 := by omega
  generalize lrnR p b = X at *
  generalize badE (isC p) = eX at *
  generalize newL n = N at *
  generalize badE (newN n) = eN at *
  generalize splR s p = S at *
  generalize splE s p = eS at *
  generalize badE (okC l) = eC at *
  obtain ⟨xs, hxs⟩ : ∃ xs, xs = l.flatMap ivc := ⟨_, rfl⟩
  rw [← hxs] at sa la oa
  clear h h1 hr hs
  replace hl := hide hl; replace hL := hide hL; replace hRL := hide hRL; replace hN := hide hN; replace hRN := hide hRN; replace hA := hide hA; replace hRA := hide hRA; replace hS := hide hS; replace hRS := hide hRS; replace hC := hide hC; replace hRC := hide hRC; replace hW := hide hW
  replace sa := hide sa; replace la := hide la; replace oa := hide oa; replace b1 := hide b1; replace b2 := hide b2; replace hxs := hide hxs
  have tok0 : True := trivial
  go_enter Try.func3, Try.ntmps3
  go_wp2_with (first
    | (go_at_call 8; refine (unhide hl _).mono ?_; rintro e w0 ⟨rfl, rfl⟩)
    | (at_builtin
       refine wpList_app _ rfl (.const (.slice none 0 0)) (.tmp 61) 22 rfl w.heap.size 3 i0 _ 1 8 Try.underlying22 hi0 hz0 hz1 hz2 rfl (Nat.succ_pos _) _ 0 [] rfl (World.ownsRow_nil _ _ _ _) A0 l.length c0 xs rfl (unhide la) (unhide sa) (unhide oa) (unhide b1) (unhide b2) (Nat.le_refl _) ?_
       intro v4 w1 ho1 hg1
       rw [Nat.zero_add, List.nil_append, unhide hxs] at ho1
       obtain ⟨Aw, cw, rfl⟩ := ownsRow_form ho1
       have hb1 : Below w.heap.size w w1 := bl_grown (Below.refl _ _) hg1 (by intro k hk; simp [Act.eval, Value.ownBlock] at hk)
       have hw1 := unhide hwas _ _ _ _ ho1
       clear hg1 ho1
       replace hw1 := hide hw1)
    | (go_at_call 9; refine (unhide hL _).mono ?_; rintro e wx ⟨rfl, rfl⟩)
    | (go_at_call 10; refine (unhide hRL _).mono ?_; rintro e wx ⟨rfl, rfl⟩)
    | (go_at_call 11; refine (unhide hN _).mono ?_; rintro e w2 ⟨A2, c2, rfl, hn2, hb2⟩; replace hn2 := hide hn2)
    | (go_at_call 12; refine (unhide hRN _).mono ?_; rintro e w3 ⟨A3, c3, rfl, hn3, hb3⟩; replace hn3 := hide hn3; have hbw3 : Below w.heap.size w w3 := bl_call (bl_call hb1 hb2) hb3)
    | (go_at_call 13; refine (unhide hA _ hbw3).mono ?_; rintro e w4 ⟨A4, c4, rfl, ho4, hb4⟩; have hy4 := Rd.of_own ivc_len (by omega) ho4; replace ho4 := hide ho4; replace hy4 := hide hy4)
    | (go_at_call 14; refine (unhide hRA _ (bl_call hbw3 hb4)).mono ?_; rintro e w5 ⟨A5, c5, rfl, hy5, hb5⟩; replace hy5 := hide hy5)
    | (go_at_call 15; refine (unhide hS _).mono ?_; rintro e wx ⟨rfl, rfl⟩)
    | (go_at_call 16; refine (unhide hRS _).mono ?_; rintro e wx ⟨rfl, rfl⟩)
    | (go_at_call 17; have _t := tok0; clear tok0 _t; refine (same_any _ _ _ _ _ _ N N _ ((unhide hn2).grow (bl_call (bl_call hb3 hb4) hb5)) ((unhide hn3).grow (bl_call hb4 hb5)) (Nat.le_refl _) (Nat.le_refl _)).mono ?_; rintro e w6 ⟨rfl, hb6⟩; rw [decide_eq_true rfl]; have tok1 : True := trivial)
    | (go_at_call 17; have _t := tok1; clear tok1 _t; refine (same_any _ _ _ _ _ _ r r _ ((unhide hy4).grow (bl_call hb5 hb6)) ((unhide hy5).grow hb6) (Nat.le_refl _) (Nat.le_refl _)).mono ?_; rintro e w7 ⟨rfl, hb7⟩; rw [decide_eq_true rfl]; have hbw7 : Below w.heap.size w w7 := bl_call (bl_call (bl_call (bl_call hbw3 hb4) hb5) hb6) hb7)
    | (go_at_call 18; refine (unhide hC _ hbw7).mono ?_; rintro e wx ⟨rfl, rfl⟩)
    | (go_at_call 19; refine (unhide hRC _ hbw7).mono ?_; rintro e wx ⟨rfl, rfl⟩)
    | fail)
  have hr3 : r.length ≤ 1030 := by omega
  have ho7 : w7.ownsRow w3.heap.size 3 1 (.slice A4 r.length c4) r.length (r.flatMap ivc) := own_below2 (unhide ho4) (bl_call (bl_call hb5 hb6) hb7) (own_vbelow (unhide ho4))
  have h01 := hb1.size
  have h17 : w1.heap.size ≤ w3.heap.size := (bl_call hb2 hb3).size
  have h37 : w3.heap.size ≤ w7.heap.size := (bl_call (bl_call (bl_call hb4 hb5) hb6) hb7).size
  have hw3 : Is w.heap.size w1.heap.size w7 (.slice Aw l.length cw) l := (unhide hw1).below (bl_call (bl_call (bl_call (bl_call (bl_call hb2 hb3) hb4) hb5) hb6) hb7) (Nat.le_refl _)
  clear hb1 hb2 hb3 hb4 hb5 hb6 hb7 hn2 hn3 hy4 hy5 ho4 hw1 hbw3 hL hRL hN hRN hA hRA hS hRS hC hRC sa la oa b1 b2 hxs hl hwas
  generalize w3.heap.size = B3 at *
  generalize w1.heap.size = B1 at *
  have hB0 : w.heap.size ≤ B3 := by omega
  replace hbw7 := hide hbw7; replace ho7 := hide ho7; replace hw3 := hide hw3
  go_loopw [156] (fun i wr => ∃ (k : Nat) (xs : List Int), k ≤ r.length ∧ i = .int .i64 k ∧ Hid (xs.length = r.length) ∧ Hid (wr.ownsRow B3 3 1 (.slice A4 r.length c4) r.length (xs.flatMap ivc)) ∧ Hid (Below B3 w7 wr)) (fun i _ => r.length - (intOf i).toNat)
  case atStart => exact ⟨0, r, Nat.zero_le _, rfl, hide rfl, ho7, hide (Below.refl _ _)⟩
  case round =>
    obtain ⟨k, ys, hk, rfl, hyl, ho, hb⟩ := hrel
    by_cases hlt : k < r.length
    · obtain ⟨gr, cur, rfl, hgr, hgb, hcs, hcur⟩ := own_pos (unhide ho) (by omega)
      have r0 : wr.cell? ⟨gr, k, none⟩ = some (.int .i64 (ys.getD k 0)) := by rw [hgb.cell, hcur k hlt, iv_get ys k (by rw [unhide hyl]; exact hlt)]
      have r1 := hgb.frozen k
      have u1 : gr < wr.heap.size := hgb.lt
      have hv := iv_set ys k (IntKind.i64.wrap (ys.getD k 0 + 1))
      have hs2 : (ys.set k (IntKind.i64.wrap (ys.getD k 0 + 1))).length = r.length := by rw [List.length_set]; exact unhide hyl
      have i1 : IntKind.i64.wrap ((k : Int) + 1) = (k : Int) + 1 := IntWalk.i64_in _ (by omega)
      generalize ys.getD k 0 = y at *
      obtain ⟨z, hz⟩ : ∃ z, z = IntKind.i64.wrap (y + 1) := ⟨_, rfl⟩
      rw [← hz] at hv hs2
      have hz' := hz.symm
      clear hgb hcs hcur hz
      replace hv := hide hv; replace hs2 := hide hs2
      go_wp2_with fail
      go_roundw
      case rel =>
        refine ⟨k + 1, ys.set k z, by omega, by go_num, hs2, hide ?_, hide ((unhide hb).setCell hgr _)⟩
        have hw := own_put (k := k) (unhide ho) (.int .i64 z)
        rw [unhide hv] at hw
        exact hw
      case measure => simp [intOf]; omega
    · have hbr := unhide hb
      have hbwr : Below w.heap.size w wr := (unhide hbw7).trans (hbr.mono hB0)
      have hwr := (unhide hw3).below hbr h17
      have hsr := hbr.size
      have hB1 : B1 ≤ wr.heap.size := by omega
      have hcall := unhide hW _ _ _ _ hbwr hwr hB1
      replace hcall := hide hcall; replace hwr := hide hwr; replace hbwr := hide hbwr
      clear hbr hb ho
      go_wp2_with (first
        | (go_at_call 17; refine (unhide hcall).mono ?_; rintro e w9 ⟨rfl, hb9⟩)
        | fail)
      go_ret
      exact ⟨rfl, bl_call (unhide hbwr) hb9⟩
set_option maxRecDepth 100000 in
set_option maxHeartbeats 2000000 in
theorem does_2 (lo lo1 : Nat) (p : Int) (b : Bool) (n : Int) (v0 v1 : Value) (l : List Int) (bs : List Bit) (s : Int) (w : World) (h : Is lo w.heap.size w v0 l) (h1 : Bts lo1 w.heap.size w v1 bs) (hs : 0 ≤ s ∧ s < 4294967296)
    (g0 : l.length ≤ 60) (g1 : 1024 < n) (g2 : bs.length ≤ 200) :
    Calls Try.prog 3 #[.int .i64 p, .bool b, .int .i64 n, v0, v1, .int .u32 s] w fun e w' => e = .returned (.bool true) ∧ Below w.heap.size w w' := by
  obtain ⟨i0, hi0, hz0, hz1, hz2⟩ := info3'
  have g3 : l.length ≤ 1030 := by omega
  have hl := fun W => live_any W
  have hL := fun W => Learn_any p b W
  have hRL := fun W => refLearn_any p b W
  have hN := fun W => New_any n W
  have hRN := fun W => refNew_any n W
  obtain ⟨r, er, hr⟩ : ∃ r er, allR l bs = (r, er) := ⟨_, _, rfl⟩
  have hrl := allR_len hr
  have hA := fun W (hb : Below w.heap.size w W) => All_any lo lo1 v0 v1 l bs r er W (h.grow hb) (h1.grow hb) hr
  have hRA := fun W (hb : Below w.heap.size w W) => refAll_any lo lo1 v0 v1 l bs r er W (h.grow hb) (h1.grow hb) hr
  have hS := fun W => Split_any s p W hs
  have hRS := fun W => refSplit_any s p W hs
  have hC := fun W (hb : Below w.heap.size w W) => Check_any lo w.heap.size v0 l W (h.below hb (Nat.le_refl _))
  have hRC := fun W (hb : Below w.heap.size w W) => refCheck_any lo w.heap.size v0 l W (h.below hb (Nat.le_refl _))
  have hW := fun lo' hi' v2 W (hb : Below w.heap.size w W) (h2 : Is lo' hi' W v2 l) (hhi : hi' ≤ W.heap.size) => same_self lo w.heap.size lo' hi' v0 v2 l W (h.below hb (Nat.le_refl _)) h2 hb.size hhi
  have hwas : Hid (∀ (W : World) (A : Option Addr) (n c : Nat), W.ownsRow w.heap.size 3 1 (.slice A n c) n (l.flatMap ivc) → Is w.heap.size W.heap.size W (.slice A n c) l) := hide fun W A n c ho => Rd.of_own ivc_len (by omega) ho
  obtain ⟨A0, c0, rfl, _, _, _⟩ := h.open
  obtain ⟨A1, c1, rfl, _, _, _⟩ := h1.open
  have sa := (Rd.src ivc_len h).2
  have la := flat_len ivc_len l
  have oa := flat_one ivc_one l
  have b1 : 0 + l.length ≤ maxLen := by simp only [maxLen]; omega
  have b2 : (0 + l.length) * 8 ≤ 140737488355328 := by omega
  generalize lrnR p b = X at *
  generalize badE (isC p) = eX at *
  generalize newL n = N at *
  generalize badE (newN n) = eN at *
  generalize splR s p = S at *
  generalize splE s p = eS at *
  generalize badE (okC l) = eC at *
  obtain ⟨xs, hxs⟩ : ∃ xs, xs = l.flatMap ivc := ⟨_, rfl⟩
  rw [← hxs] at sa la oa
  clear h h1 hr hs
  replace hl := hide hl; replace hL := hide hL; replace hRL := hide hRL; replace hN := hide hN; replace hRN := hide hRN; replace hA := hide hA; replace hRA := hide hRA; replace hS := hide hS; replace hRS := hide hRS; replace hC := hide hC; replace hRC := hide hRC; replace hW := hide hW
  replace sa := hide sa; replace la := hide la; replace oa := hide oa; replace b1 := hide b1; replace b2 := hide b2; replace hxs := hide hxs
  have tok0 : True := trivial
  go_enter Try.func3, Try.ntmps3
  go_wp2_with (first
    | (go_at_call 8; refine (unhide hl _).mono ?_; rintro e w0 ⟨rfl, rfl⟩)
    | (at_builtin
       refine wpList_app _ rfl (.const (.slice none 0 0)) (.tmp 61) 22 rfl w.heap.size 3 i0 _ 1 8 Try.underlying22 hi0 hz0 hz1 hz2 rfl (Nat.succ_pos _) _ 0 [] rfl (World.ownsRow_nil _ _ _ _) A0 l.length c0 xs rfl (unhide la) (unhide sa) (unhide oa) (unhide b1) (unhide b2) (Nat.le_refl _) ?_
       intro v4 w1 ho1 hg1
       rw [Nat.zero_add, List.nil_append, unhide hxs] at ho1
       obtain ⟨Aw, cw, rfl⟩ := ownsRow_form ho1
       have hb1 : Below w.heap.size w w1 := bl_grown (Below.refl _ _) hg1 (by intro k hk; simp [Act.eval, Value.ownBlock] at hk)
       have hw1 := unhide hwas _ _ _ _ ho1
       clear hg1 ho1
       replace hw1 := hide hw1)
    | (go_at_call 9; refine (unhide hL _).mono ?_; rintro e wx ⟨rfl, rfl⟩)
    | (go_at_call 10; refine (unhide hRL _).mono ?_; rintro e wx ⟨rfl, rfl⟩)
    | (go_at_call 11; refine (unhide hN _).mono ?_; rintro e w2 ⟨A2, c2, rfl, hn2, hb2⟩; replace hn2 := hide hn2)
    | (go_at_call 12; refine (unhide hRN _).mono ?_; rintro e w3 ⟨A3, c3, rfl, hn3, hb3⟩; replace hn3 := hide hn3; have hbw3 : Below w.heap.size w w3 := bl_call (bl_call hb1 hb2) hb3)
    | (go_at_call 13; refine (unhide hA _ hbw3).mono ?_; rintro e w4 ⟨A4, c4, rfl, ho4, hb4⟩; have hy4 := Rd.of_own ivc_len (by omega) ho4; replace ho4 := hide ho4; replace hy4 := hide hy4)
    | (go_at_call 14; refine (unhide hRA _ (bl_call hbw3 hb4)).mono ?_; rintro e w5 ⟨A5, c5, rfl, hy5, hb5⟩; replace hy5 := hide hy5)
    | (go_at_call 15; refine (unhide hS _).mono ?_; rintro e wx ⟨rfl, rfl⟩)
    | (go_at_call 16; refine (unhide hRS _).mono ?_; rintro e wx ⟨rfl, rfl⟩)
    | (go_at_call 17; have _t := tok0; clear tok0 _t; refine (same_any _ _ _ _ _ _ N N _ ((unhide hn2).grow (bl_call (bl_call hb3 hb4) hb5)) ((unhide hn3).grow (bl_call hb4 hb5)) (Nat.le_refl _) (Nat.le_refl _)).mono ?_; rintro e w6 ⟨rfl, hb6⟩; rw [decide_eq_true rfl]; have tok1 : True := trivial)
    | (go_at_call 17; have _t := tok1; clear tok1 _t; refine (same_any _ _ _ _ _ _ r r _ ((unhide hy4).grow (bl_call hb5 hb6)) ((unhide hy5).grow hb6) (Nat.le_refl _) (Nat.le_refl _)).mono ?_; rintro e w7 ⟨rfl, hb7⟩; rw [decide_eq_true rfl]; have hbw7 : Below w.heap.size w w7 := bl_call (bl_call (bl_call (bl_call hbw3 hb4) hb5) hb6) hb7)
    | (go_at_call 18; refine (unhide hC _ hbw7).mono ?_; rintro e wx ⟨rfl, rfl⟩)
    | (go_at_call 19; refine (unhide hRC _ hbw7).mono ?_; rintro e wx ⟨rfl, rfl⟩)
    | fail)
  have hr3 : r.length ≤ 1030 := by omega
  have ho7 : w7.ownsRow w3.heap.size 3 1 (.slice A4 r.length c4) r.length (r.flatMap ivc) := own_below2 (unhide ho4) (bl_call (bl_call hb5 hb6) hb7) (own_vbelow (unhide ho4))
  have h01 := hb1.size
  have h17 : w1.heap.size ≤ w3.heap.size := (bl_call hb2 hb3).size
  have h37 : w3.heap.size ≤ w7.heap.size := (bl_call (bl_call (bl_call hb4 hb5) hb6) hb7).size
  have hw3 : Is w.heap.size w1.heap.size w7 (.slice Aw l.length cw) l := (unhide hw1).below (bl_call (bl_call (bl_call (bl_call (bl_call hb2 hb3) hb4) hb5) hb6) hb7) (Nat.le_refl _)
  clear hb1 hb2 hb3 hb4 hb5 hb6 hb7 hn2 hn3 hy4 hy5 ho4 hw1 hbw3 hL hRL hN hRN hA hRA hS hRS hC hRC sa la oa b1 b2 hxs hl hwas
  generalize w3.heap.size = B3 at *
  generalize w1.heap.size = B1 at *
  have hB0 : w.heap.size ≤ B3 := by omega
  replace hbw7 := hide hbw7; replace ho7 := hide ho7; replace hw3 := hide hw3
  go_loopw [156] (fun i wr => ∃ (k : Nat) (xs : List Int), k ≤ r.length ∧ i = .int .i64 k ∧ Hid (xs.length = r.length) ∧ Hid (wr.ownsRow B3 3 1 (.slice A4 r.length c4) r.length (xs.flatMap ivc)) ∧ Hid (Below B3 w7 wr)) (fun i _ => r.length - (intOf i).toNat)
  case atStart => exact ⟨0, r, Nat.zero_le _, rfl, hide rfl, ho7, hide (Below.refl _ _)⟩
  case round =>
    obtain ⟨k, ys, hk, rfl, hyl, ho, hb⟩ := hrel
    by_cases hlt : k < r.length
    · obtain ⟨gr, cur, rfl, hgr, hgb, hcs, hcur⟩ := own_pos (unhide ho) (by omega)
      have r0 : wr.cell? ⟨gr, k, none⟩ = some (.int .i64 (ys.getD k 0)) := by rw [hgb.cell, hcur k hlt, iv_get ys k (by rw [unhide hyl]; exact hlt)]
      have r1 := hgb.frozen k
      have u1 : gr < wr.heap.size := hgb.lt
      have hv := iv_set ys k (IntKind.i64.wrap (ys.getD k 0 + 1))
      have hs2 : (ys.set k (IntKind.i64.wrap (ys.getD k 0 + 1))).length = r.length := by rw [List.length_set]; exact unhide hyl
      have i1 : IntKind.i64.wrap ((k : Int) + 1) = (k : Int) + 1 := IntWalk.i64_in _ (by omega)
      generalize ys.getD k 0 = y at *
      obtain ⟨z, hz⟩ : ∃ z, z = IntKind.i64.wrap (y + 1) := ⟨_, rfl⟩
      rw [← hz] at hv hs2
      have hz' := hz.symm
      clear hgb hcs hcur hz
      replace hv := hide hv; replace hs2 := hide hs2
      go_wp2_with fail
      go_roundw
      case rel =>
        refine ⟨k + 1, ys.set k z, by omega, by go_num, hs2, hide ?_, hide ((unhide hb).setCell hgr _)⟩
        have hw := own_put (k := k) (unhide ho) (.int .i64 z)
        rw [unhide hv] at hw
        exact hw
      case measure => simp [intOf]; omega
    · have hbr := unhide hb
      have hbwr : Below w.heap.size w wr := (unhide hbw7).trans (hbr.mono hB0)
      have hwr := (unhide hw3).below hbr h17
      have hsr := hbr.size
      have hB1 : B1 ≤ wr.heap.size := by omega
      have hcall := unhide hW _ _ _ _ hbwr hwr hB1
      replace hcall := hide hcall; replace hwr := hide hwr; replace hbwr := hide hbwr
      clear hbr hb ho
      go_wp2_with (first
        | (go_at_call 17; refine (unhide hcall).mono ?_; rintro e w9 ⟨rfl, hb9⟩)
        | fail)
      go_ret
      exact ⟨rfl, bl_call (unhide hbwr) hb9⟩
set_option maxRecDepth 100000 in
set_option maxHeartbeats 2000000 in
theorem does_3 (lo lo1 : Nat) (p : Int) (b : Bool) (n : Int) (v0 v1 : Value) (l : List Int) (bs : List Bit) (s : Int) (w : World) (h : Is lo w.heap.size w v0 l) (h1 : Bts lo1 w.heap.size w v1 bs) (hs : 0 ≤ s ∧ s < 4294967296)
    (g0 : 1024 < l.length ∧ l.length ≤ 1030) (g1 : n ≤ 60) (g2 : bs.length ≤ 200) :
    Calls Try.prog 3 #[.int .i64 p, .bool b, .int .i64 n, v0, v1, .int .u32 s] w fun e w' => e = .returned (.bool true) ∧ Below w.heap.size w w' := by
  obtain ⟨i0, hi0, hz0, hz1, hz2⟩ := info3'
  have g3 : l.length ≤ 1030 := by omega
  have hl := fun W => live_any W
  have hL := fun W => Learn_any p b W
  have hRL := fun W => refLearn_any p b W
  have hN := fun W => New_any n W
  have hRN := fun W => refNew_any n W
  obtain ⟨r, er, hr⟩ : ∃ r er, allR l bs = (r, er) := ⟨_, _, rfl⟩
  have hrl := allR_len hr
  have hA := fun W (hb : Below w.heap.size w W) => All_any lo lo1 v0 v1 l bs r er W (h.grow hb) (h1.grow hb) hr
  have hRA := fun W (hb : Below w.heap.size w W) => refAll_any lo lo1 v0 v1 l bs r er W (h.grow hb) (h1.grow hb) hr
  have hS := fun W => Split_any s p W hs
  have hRS := fun W => refSplit_any s p W hs
  have hC := fun W (hb : Below w.heap.size w W) => Check_any lo w.heap.size v0 l W (h.below hb (Nat.le_refl _))
  have hRC := fun W (hb : Below w.heap.size w W) => refCheck_any lo w.heap.size v0 l W (h.below hb (Nat.le_refl _))
  have hW := fun lo' hi' v2 W (hb : Below w.heap.size w W) (h2 : Is lo' hi' W v2 l) (hhi : hi' ≤ W.heap.size) => same_self lo w.heap.size lo' hi' v0 v2 l W (h.below hb (Nat.le_refl _)) h2 hb.size hhi
  have hwas : Hid (∀ (W : World) (A : Option Addr) (n c : Nat), W.ownsRow w.heap.size 3 1 (.slice A n c) n (l.flatMap ivc) → Is w.heap.size W.heap.size W (.slice A n c) l) := hide fun W A n c ho => Rd.of_own ivc_len (by omega) ho
  obtain ⟨A0, c0, rfl, _, _, _⟩ := h.open
  obtain ⟨A1, c1, rfl, _, _, _⟩ := h1.open
  have sa := (Rd.src ivc_len h).2
  have la := flat_len ivc_len l
  have oa := flat_one ivc_one l
  have b1 : 0 + l.length ≤ maxLen := by simp only [maxLen]; omega
  have b2 : (0 + l.length) * 8 ≤ 140737488355328 := by omega
  generalize lrnR p b = X at *
  generalize badE (isC p) = eX at *
  generalize newL n = N at *
  generalize badE (newN n) = eN at *
  generalize splR s p = S at *
  generalize splE s p = eS at *
  generalize badE (okC l) = eC at *
  obtain ⟨xs, hxs⟩ : ∃ xs, xs = l.flatMap ivc := ⟨_, rfl⟩
  rw [← hxs] at sa la oa
  clear h h1 hr hs
  replace hl := hide hl; replace hL := hide hL; replace hRL := hide hRL; replace hN := hide hN; replace hRN := hide hRN; replace hA := hide hA; replace hRA := hide hRA; replace hS := hide hS; replace hRS := hide hRS; replace hC := hide hC; replace hRC := hide hRC; replace hW := hide hW
  replace sa := hide sa; replace la := hide la; replace oa := hide oa; replace b1 := hide b1; replace b2 := hide b2; replace hxs := hide hxs
  have tok0 : True := trivial
  go_enter Try.func3, Try.ntmps3
  go_wp2_with (first
    | (go_at_call 8; refine (unhide hl _).mono ?_; rintro e w0 ⟨rfl, rfl⟩)
    | (at_builtin
       refine wpList_app _ rfl (.const (.slice none 0 0)) (.tmp 61) 22 rfl w.heap.size 3 i0 _ 1 8 Try.underlying22 hi0 hz0 hz1 hz2 rfl (Nat.succ_pos _) _ 0 [] rfl (World.ownsRow_nil _ _ _ _) A0 l.length c0 xs rfl (unhide la) (unhide sa) (unhide oa) (unhide b1) (unhide b2) (Nat.le_refl _) ?_
       intro v4 w1 ho1 hg1
       rw [Nat.zero_add, List.nil_append, unhide hxs] at ho1
       obtain ⟨Aw, cw, rfl⟩ := ownsRow_form ho1
       have hb1 : Below w.heap.size w w1 := bl_grown (Below.refl _ _) hg1 (by intro k hk; simp [Act.eval, Value.ownBlock] at hk)
       have hw1 := unhide hwas _ _ _ _ ho1
       clear hg1 ho1
       replace hw1 := hide hw1)
    | (go_at_call 9; refine (unhide hL _).mono ?_; rintro e wx ⟨rfl, rfl⟩)
    | (go_at_call 10; refine (unhide hRL _).mono ?_; rintro e wx ⟨rfl, rfl⟩)
    | (go_at_call 11; refine (unhide hN _).mono ?_; rintro e w2 ⟨A2, c2, rfl, hn2, hb2⟩; replace hn2 := hide hn2)
    | (go_at_call 12; refine (unhide hRN _).mono ?_; rintro e w3 ⟨A3, c3, rfl, hn3, hb3⟩; replace hn3 := hide hn3; have hbw3 : Below w.heap.size w w3 := bl_call (bl_call hb1 hb2) hb3)
    | (go_at_call 13; refine (unhide hA _ hbw3).mono ?_; rintro e w4 ⟨A4, c4, rfl, ho4, hb4⟩; have hy4 := Rd.of_own ivc_len (by omega) ho4; replace ho4 := hide ho4; replace hy4 := hide hy4)
    | (go_at_call 14; refine (unhide hRA _ (bl_call hbw3 hb4)).mono ?_; rintro e w5 ⟨A5, c5, rfl, hy5, hb5⟩; replace hy5 := hide hy5)
    | (go_at_call 15; refine (unhide hS _).mono ?_; rintro e wx ⟨rfl, rfl⟩)
    | (go_at_call 16; refine (unhide hRS _).mono ?_; rintro e wx ⟨rfl, rfl⟩)
    | (go_at_call 17; have _t := tok0; clear tok0 _t; refine (same_any _ _ _ _ _ _ N N _ ((unhide hn2).grow (bl_call (bl_call hb3 hb4) hb5)) ((unhide hn3).grow (bl_call hb4 hb5)) (Nat.le_refl _) (Nat.le_refl _)).mono ?_; rintro e w6 ⟨rfl, hb6⟩; rw [decide_eq_true rfl]; have tok1 : True := trivial)
    | (go_at_call 17; have _t := tok1; clear tok1 _t; refine (same_any _ _ _ _ _ _ r r _ ((unhide hy4).grow (bl_call hb5 hb6)) ((unhide hy5).grow hb6) (Nat.le_refl _) (Nat.le_refl _)).mono ?_; rintro e w7 ⟨rfl, hb7⟩; rw [decide_eq_true rfl]; have hbw7 : Below w.heap.size w w7 := bl_call (bl_call (bl_call (bl_call hbw3 hb4) hb5) hb6) hb7)
    | (go_at_call 18; refine (unhide hC _ hbw7).mono ?_; rintro e wx ⟨rfl, rfl⟩)
    | (go_at_call 19; refine (unhide hRC _ hbw7).mono ?_; rintro e wx ⟨rfl, rfl⟩)
    | fail)
  have hr3 : r.length ≤ 1030 := by omega
  have ho7 : w7.ownsRow w3.heap.size 3 1 (.slice A4 r.length c4) r.length (r.flatMap ivc) := own_below2 (unhide ho4) (bl_call (bl_call hb5 hb6) hb7) (own_vbelow (unhide ho4))
  have h01 := hb1.size
  have h17 : w1.heap.size ≤ w3.heap.size := (bl_call hb2 hb3).size
  have h37 : w3.heap.size ≤ w7.heap.size := (bl_call (bl_call (bl_call hb4 hb5) hb6) hb7).size
  have hw3 : Is w.heap.size w1.heap.size w7 (.slice Aw l.length cw) l := (unhide hw1).below (bl_call (bl_call (bl_call (bl_call (bl_call hb2 hb3) hb4) hb5) hb6) hb7) (Nat.le_refl _)
  clear hb1 hb2 hb3 hb4 hb5 hb6 hb7 hn2 hn3 hy4 hy5 ho4 hw1 hbw3 hL hRL hN hRN hA hRA hS hRS hC hRC sa la oa b1 b2 hxs hl hwas
  generalize w3.heap.size = B3 at *
  generalize w1.heap.size = B1 at *
  have hB0 : w.heap.size ≤ B3 := by omega
  replace hbw7 := hide hbw7; replace ho7 := hide ho7; replace hw3 := hide hw3
  go_loopw [156] (fun i wr => ∃ (k : Nat) (xs : List Int), k ≤ r.length ∧ i = .int .i64 k ∧ Hid (xs.length = r.length) ∧ Hid (wr.ownsRow B3 3 1 (.slice A4 r.length c4) r.length (xs.flatMap ivc)) ∧ Hid (Below B3 w7 wr)) (fun i _ => r.length - (intOf i).toNat)
  case atStart => exact ⟨0, r, Nat.zero_le _, rfl, hide rfl, ho7, hide (Below.refl _ _)⟩
  case round =>
    obtain ⟨k, ys, hk, rfl, hyl, ho, hb⟩ := hrel
    by_cases hlt : k < r.length
    · obtain ⟨gr, cur, rfl, hgr, hgb, hcs, hcur⟩ := own_pos (unhide ho) (by omega)
      have r0 : wr.cell? ⟨gr, k, none⟩ = some (.int .i64 (ys.getD k 0)) := by rw [hgb.cell, hcur k hlt, iv_get ys k (by rw [unhide hyl]; exact hlt)]
      have r1 := hgb.frozen k
      have u1 : gr < wr.heap.size := hgb.lt
      have hv := iv_set ys k (IntKind.i64.wrap (ys.getD k 0 + 1))
      have hs2 : (ys.set k (IntKind.i64.wrap (ys.getD k 0 + 1))).length = r.length := by rw [List.length_set]; exact unhide hyl
      have i1 : IntKind.i64.wrap ((k : Int) + 1) = (k : Int) + 1 := IntWalk.i64_in _ (by omega)
      generalize ys.getD k 0 = y at *
      obtain ⟨z, hz⟩ : ∃ z, z = IntKind.i64.wrap (y + 1) := ⟨_, rfl⟩
      rw [← hz] at hv hs2
      have hz' := hz.symm
      clear hgb hcs hcur hz
      replace hv := hide hv; replace hs2 := hide hs2
      go_wp2_with fail
      go_roundw
      case rel =>
        refine ⟨k + 1, ys.set k z, by omega, by go_num, hs2, hide ?_, hide ((unhide hb).setCell hgr _)⟩
        have hw := own_put (k := k) (unhide ho) (.int .i64 z)
        rw [unhide hv] at hw
        exact hw
      case measure => simp [intOf]; omega
    · have hbr := unhide hb
      have hbwr : Below w.heap.size w wr := (unhide hbw7).trans (hbr.mono hB0)
      have hwr := (unhide hw3).below hbr h17
      have hsr := hbr.size
      have hB1 : B1 ≤ wr.heap.size := by omega
      have hcall := unhide hW _ _ _ _ hbwr hwr hB1
      replace hcall := hide hcall; replace hwr := hide hwr; replace hbwr := hide hbwr
      clear hbr hb ho
      go_wp2_with (first
        | (go_at_call 17; refine (unhide hcall).mono ?_; rintro e w9 ⟨rfl, hb9⟩)
        | fail)
      go_ret
      exact ⟨rfl, bl_call (unhide hbwr) hb9⟩
set_option maxRecDepth 100000 in
set_option maxHeartbeats 2000000 in
theorem does_4 (lo lo1 : Nat) (p : Int) (b : Bool) (n : Int) (v0 v1 : Value) (l : List Int) (bs : List Bit) (s : Int) (w : World) (h : Is lo w.heap.size w v0 l) (h1 : Bts lo1 w.heap.size w v1 bs) (hs : 0 ≤ s ∧ s < 4294967296)
    (g0 : 1024 < l.length ∧ l.length ≤ 1030) (g1 : 1024 < n) (g2 : bs.length ≤ 200) :
    Calls Try.prog 3 #[.int .i64 p, .bool b, .int .i64 n, v0, v1, .int .u32 s] w fun e w' => e = .returned (.bool true) ∧ Below w.heap.size w w' := by
  obtain ⟨i0, hi0, hz0, hz1, hz2⟩ := info3'
  have g3 : l.length ≤ 1030 := by omega
  have hl := fun W => live_any W
  have hL := fun W => Learn_any p b W
  have hRL := fun W => refLearn_any p b W
  have hN := fun W => New_any n W
  have hRN := fun W => refNew_any n W
  obtain ⟨r, er, hr⟩ : ∃ r er, allR l bs = (r, er) := ⟨_, _, rfl⟩
  have hrl := allR_len hr
  have hA := fun W (hb : Below w.heap.size w W) => All_any lo lo1 v0 v1 l bs r er W (h.grow hb) (h1.grow hb) hr
  have hRA := fun W (hb : Below w.heap.size w W) => refAll_any lo lo1 v0 v1 l bs r er W (h.grow hb) (h1.grow hb) hr
  have hS := fun W => Split_any s p W hs
  have hRS := fun W => refSplit_any s p W hs
  have hC := fun W (hb : Below w.heap.size w W) => Check_any lo w.heap.size v0 l W (h.below hb (Nat.le_refl _))
  have hRC := fun W (hb : Below w.heap.size w W) => refCheck_any lo w.heap.size v0 l W (h.below hb (Nat.le_refl _))
  have hW := fun lo' hi' v2 W (hb : Below w.heap.size w W) (h2 : Is lo' hi' W v2 l) (hhi : hi' ≤ W.heap.size) => same_self lo w.heap.size lo' hi' v0 v2 l W (h.below hb (Nat.le_refl _)) h2 hb.size hhi
  have hwas : Hid (∀ (W : World) (A : Option Addr) (n c : Nat), W.ownsRow w.heap.size 3 1 (.slice A n c) n (l.flatMap ivc) → Is w.heap.size W.heap.size W (.slice A n c) l) := hide fun W A n c ho => Rd.of_own ivc_len (by omega) ho
  obtain ⟨A0, c0, rfl, _, _, _⟩ := h.open
  obtain ⟨A1, c1, rfl, _, _, _⟩ := h1.open
  have sa := (Rd.src ivc_len h).2
  have la := flat_len ivc_len l
  have oa := flat_one ivc_one l
  have b1 : 0 + l.length ≤ maxLen := by simp only [maxLen]; omega
  have b2 : (0 + l.length) * 8 ≤ 140737488355328 := by omega
  generalize lrnR p b = X at *
  generalize badE (isC p) = eX at *
  generalize newL n = N at *
  generalize badE (newN n) = eN at *
  generalize splR s p = S at *
  generalize splE s p = eS at *
  generalize badE (okC l) = eC at *
  obtain ⟨xs, hxs⟩ : ∃ xs, xs = l.flatMap ivc := ⟨_, rfl⟩
  rw [← hxs] at sa la oa
  clear h h1 hr hs
  replace hl := hide hl; replace hL := hide hL; replace hRL := hide hRL; replace hN := hide hN; replace hRN := hide hRN; replace hA := hide hA; replace hRA := hide hRA; replace hS := hide hS; replace hRS := hide hRS; replace hC := hide hC; replace hRC := hide hRC; replace hW := hide hW
  replace sa := hide sa; replace la := hide la; replace oa := hide oa; replace b1 := hide b1; replace b2 := hide b2; replace hxs := hide hxs
  have tok0 : True := trivial
  go_enter Try.func3, Try.ntmps3
  go_wp2_with (first
    | (go_at_call 8; refine (unhide hl _).mono ?_; rintro e w0 ⟨rfl, rfl⟩)
    | (at_builtin
       refine wpList_app _ rfl (.const (.slice none 0 0)) (.tmp 61) 22 rfl w.heap.size 3 i0 _ 1 8 Try.underlying22 hi0 hz0 hz1 hz2 rfl (Nat.succ_pos _) _ 0 [] rfl (World.ownsRow_nil _ _ _ _) A0 l.length c0 xs rfl (unhide la) (unhide sa) (unhide oa) (unhide b1) (unhide b2) (Nat.le_refl _) ?_
       intro v4 w1 ho1 hg1
       rw [Nat.zero_add, List.nil_append, unhide hxs] at ho1
       obtain ⟨Aw, cw, rfl⟩ := ownsRow_form ho1
       have hb1 : Below w.heap.size w w1 := bl_grown (Below.refl _ _) hg1 (by intro k hk; simp [Act.eval, Value.ownBlock] at hk)
       have hw1 := unhide hwas _ _ _ _ ho1
       clear hg1 ho1
       replace hw1 := hide hw1)
    | (go_at_call 9; refine (unhide hL _).mono ?_; rintro e wx ⟨rfl, rfl⟩)
    | (go_at_call 10; refine (unhide hRL _).mono ?_; rintro e wx ⟨rfl, rfl⟩)
    | (go_at_call 11; refine (unhide hN _).mono ?_; rintro e w2 ⟨A2, c2, rfl, hn2, hb2⟩; replace hn2 := hide hn2)
    | (go_at_call 12; refine (unhide hRN _).mono ?_; rintro e w3 ⟨A3, c3, rfl, hn3, hb3⟩; replace hn3 := hide hn3; have hbw3 : Below w.heap.size w w3 := bl_call (bl_call hb1 hb2) hb3)
    | (go_at_call 13; refine (unhide hA _ hbw3).mono ?_; rintro e w4 ⟨A4, c4, rfl, ho4, hb4⟩; have hy4 := Rd.of_own ivc_len (by omega) ho4; replace ho4 := hide ho4; replace hy4 := hide hy4)
    | (go_at_call 14; refine (unhide hRA _ (bl_call hbw3 hb4)).mono ?_; rintro e w5 ⟨A5, c5, rfl, hy5, hb5⟩; replace hy5 := hide hy5)
    | (go_at_call 15; refine (unhide hS _).mono ?_; rintro e wx ⟨rfl, rfl⟩)
    | (go_at_call 16; refine (unhide hRS _).mono ?_; rintro e wx ⟨rfl, rfl⟩)
    | (go_at_call 17; have _t := tok0; clear tok0 _t; refine (same_any _ _ _ _ _ _ N N _ ((unhide hn2).grow (bl_call (bl_call hb3 hb4) hb5)) ((unhide hn3).grow (bl_call hb4 hb5)) (Nat.le_refl _) (Nat.le_refl _)).mono ?_; rintro e w6 ⟨rfl, hb6⟩; rw [decide_eq_true rfl]; have tok1 : True := trivial)
    | (go_at_call 17; have _t := tok1; clear tok1 _t; refine (same_any _ _ _ _ _ _ r r _ ((unhide hy4).grow (bl_call hb5 hb6)) ((unhide hy5).grow hb6) (Nat.le_refl _) (Nat.le_refl _)).mono ?_; rintro e w7 ⟨rfl, hb7⟩; rw [decide_eq_true rfl]; have hbw7 : Below w.heap.size w w7 := bl_call (bl_call (bl_call (bl_call hbw3 hb4) hb5) hb6) hb7)
    | (go_at_call 18; refine (unhide hC _ hbw7).mono ?_; rintro e wx ⟨rfl, rfl⟩)
    | (go_at_call 19; refine (unhide hRC _ hbw7).mono ?_; rintro e wx ⟨rfl, rfl⟩)
    | fail)
  have hr3 : r.length ≤ 1030 := by omega
  have ho7 : w7.ownsRow w3.heap.size 3 1 (.slice A4 r.length c4) r.length (r.flatMap ivc) := own_below2 (unhide ho4) (bl_call (bl_call hb5 hb6) hb7) (own_vbelow (unhide ho4))
  have h01 := hb1.size
  have h17 : w1.heap.size ≤ w3.heap.size := (bl_call hb2 hb3).size
  have h37 : w3.heap.size ≤ w7.heap.size := (bl_call (bl_call (bl_call hb4 hb5) hb6) hb7).size
  have hw3 : Is w.heap.size w1.heap.size w7 (.slice Aw l.length cw) l := (unhide hw1).below (bl_call (bl_call (bl_call (bl_call (bl_call hb2 hb3) hb4) hb5) hb6) hb7) (Nat.le_refl _)
  clear hb1 hb2 hb3 hb4 hb5 hb6 hb7 hn2 hn3 hy4 hy5 ho4 hw1 hbw3 hL hRL hN hRN hA hRA hS hRS hC hRC sa la oa b1 b2 hxs hl hwas
  generalize w3.heap.size = B3 at *
  generalize w1.heap.size = B1 at *
  have hB0 : w.heap.size ≤ B3 := by omega
  replace hbw7 := hide hbw7; replace ho7 := hide ho7; replace hw3 := hide hw3
  go_loopw [156] (fun i wr => ∃ (k : Nat) (xs : List Int), k ≤ r.length ∧ i = .int .i64 k ∧ Hid (xs.length = r.length) ∧ Hid (wr.ownsRow B3 3 1 (.slice A4 r.length c4) r.length (xs.flatMap ivc)) ∧ Hid (Below B3 w7 wr)) (fun i _ => r.length - (intOf i).toNat)
  case atStart => exact ⟨0, r, Nat.zero_le _, rfl, hide rfl, ho7, hide (Below.refl _ _)⟩
  case round =>
    obtain ⟨k, ys, hk, rfl, hyl, ho, hb⟩ := hrel
    by_cases hlt : k < r.length
    · obtain ⟨gr, cur, rfl, hgr, hgb, hcs, hcur⟩ := own_pos (unhide ho) (by omega)
      have r0 : wr.cell? ⟨gr, k, none⟩ = some (.int .i64 (ys.getD k 0)) := by rw [hgb.cell, hcur k hlt, iv_get ys k (by rw [unhide hyl]; exact hlt)]
      have r1 := hgb.frozen k
      have u1 : gr < wr.heap.size := hgb.lt
      have hv := iv_set ys k (IntKind.i64.wrap (ys.getD k 0 + 1))
      have hs2 : (ys.set k (IntKind.i64.wrap (ys.getD k 0 + 1))).length = r.length := by rw [List.length_set]; exact unhide hyl
      have i1 : IntKind.i64.wrap ((k : Int) + 1) = (k : Int) + 1 := IntWalk.i64_in _ (by omega)
      generalize ys.getD k 0 = y at *
      obtain ⟨z, hz⟩ : ∃ z, z = IntKind.i64.wrap (y + 1) := ⟨_, rfl⟩
      rw [← hz] at hv hs2
      have hz' := hz.symm
      clear hgb hcs hcur hz
      replace hv := hide hv; replace hs2 := hide hs2
      go_wp2_with fail
      go_roundw
      case rel =>
        refine ⟨k + 1, ys.set k z, by omega, by go_num, hs2, hide ?_, hide ((unhide hb).setCell hgr _)⟩
        have hw := own_put (k := k) (unhide ho) (.int .i64 z)
        rw [unhide hv] at hw
        exact hw
      case measure => simp [intOf]; omega
    · have hbr := unhide hb
      have hbwr : Below w.heap.size w wr := (unhide hbw7).trans (hbr.mono hB0)
      have hwr := (unhide hw3).below hbr h17
      have hsr := hbr.size
      have hB1 : B1 ≤ wr.heap.size := by omega
      have hcall := unhide hW _ _ _ _ hbwr hwr hB1
      replace hcall := hide hcall; replace hwr := hide hwr; replace hbwr := hide hbwr
      clear hbr hb ho
      go_wp2_with (first
        | (go_at_call 17; refine (unhide hcall).mono ?_; rintro e w9 ⟨rfl, hb9⟩)
        | fail)
      go_ret
      exact ⟨rfl, bl_call (unhide hbwr) hb9⟩
end Go.Proofs.Ytbonnlaplggjgaa
