import Derived.Test.YtjjamplgecioaaaDoorL5
namespace Go.Proofs.YtjjamplgecioaaaDoor
open Go.RowKit

set_option maxHeartbeats 1000000 in
theorem apart_long (s t : St) (v2 v3 : Value) (a b : List UInt8) (q : Nat) (w : World) (ht : Tab w) (h2 : Bs 0 w.heap.size w v2 a) (h3 : Bs 0 w.heap.size w v3 b) (hq : q < 256) (hl : 64 < a.length) :
    Calls Tryd.prog 5 #[stV s, stV t, v2, v3, .int .u8 (q : Int)] w fun e w' => e = .returned (.bool true) ∧ Below w.heap.size w w' := by
  obtain ⟨r, hr⟩ : ∃ r, r = q % 40 := ⟨_, rfl⟩
  have m1 : (q : Int).tmod 40 = (r : Int) := by rw [Int.tmod_eq_emod_of_nonneg (by omega)]; omega
  have m2 : (q : Int) % 40 = (r : Int) := by omega
  have m4 : (r : Int) ≤ 40 := by omega
  have F0 : Fx w ((w.alloc (.cells (stC s) 24)).alloc (.cells (stC t) 24)) [(w.heap.size, stC s), (w.heap.size + 1, stC t)] := ((Fx.nil w).newB _ rfl _).newB _ (by simp) _
  have hlive := fun W (hb : Below w.heap.size w W) => live_any w W ht hb
  have hk1 := fun W (hb : Below w.heap.size w W) => go_any s _ a (r : Int) w W ht h2 hb
  have hk2 := fun W (hb : Below w.heap.size w W) => go_any t _ a (r : Int) w W ht h2 hb
  rw [goE_long hl] at hk1 hk2
  have k1 : (64 : Int) < (a.length : Int) := by omega
  obtain ⟨A, c, rfl⟩ := h2.form
  obtain ⟨B, d, rfl⟩ := h3.form
  clear hl
  clear h2 h3 hr ht
  replace F0 := hide F0; replace hlive := hide hlive; replace hk1 := hide hk1; replace hk2 := hide hk2
  have tok1 : True := trivial
  have tok2 : True := trivial
  go_enter Tryd.func5, Tryd.ntmps5
  go_upto_region 1 with (fail)
  generalize hW : World.alloc (World.alloc w _) _ = W at *
  clear hW
  generalize a.length = n at *
  go_wp2_with (first
    | (go_at_call 8; refine (unhide hlive _ (unhide F0).bl).mono ?_; rintro e w1 ⟨rfl, hb0⟩; have F1 : Fx w w1 [(w.heap.size, stC s), (w.heap.size + 1, stC t)] := (unhide F0).call hb0; replace F1 := hide F1; clear hb0)
    | (refine wpList_load_row rfl 24 (.tmp 5) rfl w.heap.size rfl 24 (stC s) (0, 0) _ ((unhide F1).get 0 rfl) Tryd.underlying24 rfl size24 ?_)
    | (go_at_call 11; have _t := tok1; refine (unhide hk1 _ (unhide F1).bl).mono ?_; rintro e w2 ⟨rfl, hb0⟩; have F_ : Fx w w2 [(w.heap.size, stC s), (w.heap.size + 1, stC t)] := (unhide F1).call hb0; have F2 : Fx w _ [(w.heap.size, stC s), (w.heap.size + 1, stC t), (w2.heap.size, stC zS)] := F_.newB w2.heap.size rfl (stC zS); replace F2 := hide F2; clear hb0 F_ tok1 _t)
    | (refine wpList_load_row rfl 24 (.tmp 6) rfl (w.heap.size + 1) rfl 24 (stC t) (0, 0) _ ((unhide F2).get 1 rfl) Tryd.underlying24 rfl size24 ?_)
    | (go_at_call 11; have _t := tok2; refine (unhide hk2 _ (unhide F2).bl).mono ?_; rintro e w3 ⟨rfl, hb0⟩; have F_ : Fx w w3 [(w.heap.size, stC s), (w.heap.size + 1, stC t), (w2.heap.size, stC zS)] := (unhide F2).call hb0; have F3 : Fx w _ [(w.heap.size, stC s), (w.heap.size + 1, stC t), (w2.heap.size, stC zS), (w3.heap.size, stC zS)] := F_.newB w3.heap.size rfl (stC zS); replace F3 := hide F3; clear hb0 F_ tok2 _t)
    | fail)
  go_ret
  exact ⟨rfl, (unhide F3).bl⟩

set_option maxHeartbeats 1000000 in
theorem apart_gate (s t : St) (v2 v3 : Value) (a b : List UInt8) (q : Nat) (w : World) (ht : Tab w) (h2 : Bs 0 w.heap.size w v2 a) (h3 : Bs 0 w.heap.size w v3 b) (hq : q < 256) (hl : a.length ≤ 64) (hg : 7 < a.length ∨ 7 < b.length) :
    Calls Tryd.prog 5 #[stV s, stV t, v2, v3, .int .u8 (q : Int)] w fun e w' => e = .returned (.bool true) ∧ Below w.heap.size w w' := by
  obtain ⟨r, hr⟩ : ∃ r, r = q % 40 := ⟨_, rfl⟩
  have m1 : (q : Int).tmod 40 = (r : Int) := by rw [Int.tmod_eq_emod_of_nonneg (by omega)]; omega
  have m2 : (q : Int) % 40 = (r : Int) := by omega
  have m4 : (r : Int) ≤ 40 := by omega
  have F0 : Fx w ((w.alloc (.cells (stC s) 24)).alloc (.cells (stC t) 24)) [(w.heap.size, stC s), (w.heap.size + 1, stC t)] := ((Fx.nil w).newB _ rfl _).newB _ (by simp) _
  have hlive := fun W (hb : Below w.heap.size w W) => live_any w W ht hb
  have hk1 := fun W (hb : Below w.heap.size w W) => go_any s _ a (r : Int) w W ht h2 hb
  have hk2 := fun W (hb : Below w.heap.size w W) => go_any t _ a (r : Int) w W ht h2 hb
  rw [goE_good (n := r) (by omega) rfl (by omega)] at hk1 hk2
  have hinj : sameS (goF r s a) (goF r t a) = sameS s t := by rw [Bool.eq_iff_iff, sameS_iff, sameS_iff, goF_inj]
  generalize goF r s a = X at *
  generalize goF r t a = Y at *
  have e12 := fun W => eql_st W X Y
  have est := fun W => eql_st W s t
  rw [hinj] at e12
  obtain ⟨z, hz⟩ : ∃ z, z = sameS s t := ⟨_, rfl⟩
  rw [← hz] at e12 est
  have hg24 := guard24
  obtain ⟨A, c, rfl⟩ := h2.form
  obtain ⟨B, d, rfl⟩ := h3.form
  clear hinj
  clear h2 h3 hr ht
  replace F0 := hide F0; replace hlive := hide hlive; replace hk1 := hide hk1; replace hk2 := hide hk2; replace hz := hide hz
  have tok1 : True := trivial
  have tok2 : True := trivial
  go_enter Tryd.func5, Tryd.ntmps5
  go_upto_region 1 with (fail)
  generalize hW : World.alloc (World.alloc w _) _ = W at *
  clear hW
  go_upto_region 6 with (first
    | (go_at_call 8; refine (unhide hlive _ (unhide F0).bl).mono ?_; rintro e w1 ⟨rfl, hb0⟩; have F1 : Fx w w1 [(w.heap.size, stC s), (w.heap.size + 1, stC t)] := (unhide F0).call hb0; replace F1 := hide F1; clear hb0)
    | (refine wpList_load_row rfl 24 (.tmp 5) rfl w.heap.size rfl 24 (stC s) (0, 0) _ ((unhide F1).get 0 rfl) Tryd.underlying24 rfl size24 ?_)
    | (go_at_call 11; have _t := tok1; refine (unhide hk1 _ (unhide F1).bl).mono ?_; rintro e w2 ⟨rfl, hb0⟩; have F_ : Fx w w2 [(w.heap.size, stC s), (w.heap.size + 1, stC t)] := (unhide F1).call hb0; have F2 : Fx w _ [(w.heap.size, stC s), (w.heap.size + 1, stC t), (w2.heap.size, stC X)] := F_.newB w2.heap.size rfl (stC X); replace F2 := hide F2; clear hb0 F_ tok1 _t)
    | (refine wpList_load_row rfl 24 (.tmp 6) rfl (w.heap.size + 1) rfl 24 (stC t) (0, 0) _ ((unhide F2).get 1 rfl) Tryd.underlying24 rfl size24 ?_)
    | (go_at_call 11; have _t := tok2; refine (unhide hk2 _ (unhide F2).bl).mono ?_; rintro e w3 ⟨rfl, hb0⟩; have F_ : Fx w w3 [(w.heap.size, stC s), (w.heap.size + 1, stC t), (w2.heap.size, stC X)] := (unhide F2).call hb0; have F3 : Fx w _ [(w.heap.size, stC s), (w.heap.size + 1, stC t), (w2.heap.size, stC X), (w3.heap.size, stC Y)] := F_.newB w3.heap.size rfl (stC Y); replace F3 := hide F3; clear hb0 F_ tok2 _t)
    | fail)
  generalize hW3 : World.alloc w3 _ = W3 at *
  clear hW3
  have F4 : Fx w W3 [(w.heap.size, stC s), (w.heap.size + 1, stC t), (w2.heap.size, stC X), (w3.heap.size, stC Y)] := unhide F3
  clear F3
  generalize w2.heap.size = gx at *
  generalize w3.heap.size = gy at *
  have cs0 : W3.cell? ⟨w.heap.size, 0, none⟩ = some (u32v s.a) := ((F4).get 0 rfl).cell 0
  have cs1 : W3.cell? ⟨w.heap.size, 1, none⟩ = some (u32v s.b) := ((F4).get 0 rfl).cell 1
  have cs2 : W3.cell? ⟨w.heap.size, 2, none⟩ = some (u32v s.c) := ((F4).get 0 rfl).cell 2
  have cs3 : W3.cell? ⟨w.heap.size, 3, none⟩ = some (u32v s.d) := ((F4).get 0 rfl).cell 3
  have ct0 : W3.cell? ⟨w.heap.size + 1, 0, none⟩ = some (u32v t.a) := ((F4).get 1 rfl).cell 0
  have ct1 : W3.cell? ⟨w.heap.size + 1, 1, none⟩ = some (u32v t.b) := ((F4).get 1 rfl).cell 1
  have ct2 : W3.cell? ⟨w.heap.size + 1, 2, none⟩ = some (u32v t.c) := ((F4).get 1 rfl).cell 2
  have ct3 : W3.cell? ⟨w.heap.size + 1, 3, none⟩ = some (u32v t.d) := ((F4).get 1 rfl).cell 3
  have cx0 : W3.cell? ⟨gx, 0, none⟩ = some (u32v X.a) := ((F4).get 2 rfl).cell 0
  have cx1 : W3.cell? ⟨gx, 1, none⟩ = some (u32v X.b) := ((F4).get 2 rfl).cell 1
  have cx2 : W3.cell? ⟨gx, 2, none⟩ = some (u32v X.c) := ((F4).get 2 rfl).cell 2
  have cx3 : W3.cell? ⟨gx, 3, none⟩ = some (u32v X.d) := ((F4).get 2 rfl).cell 3
  have cy0 : W3.cell? ⟨gy, 0, none⟩ = some (u32v Y.a) := ((F4).get 3 rfl).cell 0
  have cy1 : W3.cell? ⟨gy, 1, none⟩ = some (u32v Y.b) := ((F4).get 3 rfl).cell 1
  have cy2 : W3.cell? ⟨gy, 2, none⟩ = some (u32v Y.c) := ((F4).get 3 rfl).cell 2
  have cy3 : W3.cell? ⟨gy, 3, none⟩ = some (u32v Y.d) := ((F4).get 3 rfl).cell 3
  replace F4 := hide F4
  go_quiet (fail)
  generalize hW4 : W3.drewN _ = W4
  have F5 : Fx w W4 [(w.heap.size, stC s), (w.heap.size + 1, stC t), (gx, stC X), (gy, stC Y)] := by rw [← hW4]; exact (unhide F4).drewN _
  clear hW4
  by_cases h : 7 < a.length
  · have k1 : (7 : Int) < (a.length : Int) := by omega
    clear hg h hl
    generalize a.length = n at *
    go_wp2
    go_ret
    exact ⟨rfl, F5.bl⟩
  · have k1 : ¬ (7 : Int) < (a.length : Int) := by omega
    have k2 : (7 : Int) < (b.length : Int) := by omega
    clear hg h hl
    generalize a.length = n at *
    generalize b.length = m at *
    go_wp2
    go_ret
    exact ⟨rfl, F5.bl⟩

set_option maxHeartbeats 1000000 in
theorem apart_main (s t : St) (v2 v3 : Value) (a b : List UInt8) (q : Nat) (w : World) (ht : Tab w) (h2 : Bs 0 w.heap.size w v2 a) (h3 : Bs 0 w.heap.size w v3 b) (hq : q < 256) (hl : a.length ≤ 7) (hm : b.length ≤ 7) :
    Calls Tryd.prog 5 #[stV s, stV t, v2, v3, .int .u8 (q : Int)] w fun e w' => e = .returned (.bool true) ∧ Below w.heap.size w w' := by
  obtain ⟨r, hr⟩ : ∃ r, r = q % 40 := ⟨_, rfl⟩
  have m1 : (q : Int).tmod 40 = (r : Int) := by rw [Int.tmod_eq_emod_of_nonneg (by omega)]; omega
  have m2 : (q : Int) % 40 = (r : Int) := by omega
  have m4 : (r : Int) ≤ 40 := by omega
  have F0 : Fx w ((w.alloc (.cells (stC s) 24)).alloc (.cells (stC t) 24)) [(w.heap.size, stC s), (w.heap.size + 1, stC t)] := ((Fx.nil w).newB _ rfl _).newB _ (by simp) _
  have hlive := fun W (hb : Below w.heap.size w W) => live_any w W ht hb
  have hk1 := fun W (hb : Below w.heap.size w W) => go_any s _ a (r : Int) w W ht h2 hb
  have hk2 := fun W (hb : Below w.heap.size w W) => go_any t _ a (r : Int) w W ht h2 hb
  rw [goE_good (n := r) (by omega) rfl (by omega)] at hk1 hk2
  have hinj : sameS (goF r s a) (goF r t a) = sameS s t := by rw [Bool.eq_iff_iff, sameS_iff, sameS_iff, goF_inj]
  have hk3 := fun W (hb : Below w.heap.size w W) => go_any s _ a 1 w W ht h2 hb
  have hk4 := fun W (hb : Below w.heap.size w W) => go_any s _ b 1 w W ht h3 hb
  rw [goE_good (n := 1) (z := 1) (by omega) rfl (by omega)] at hk3 hk4
  have hone : sameS (goF 1 s a) (goF 1 s b) = decide (a = b) := by rw [Bool.eq_iff_iff, sameS_iff, decide_eq_true_iff, go_once hl hm]
  have hstr := strU_eq a b
  have cv2 := fun W (hb : Below w.heap.size w W) => (h2.at hb).convert
  have cv3 := fun W (hb : Below w.heap.size w W) => (h3.at hb).convert
  generalize goF 1 s a = P at *
  generalize goF 1 s b = Q at *
  obtain ⟨y, hy⟩ : ∃ y, y = decide (a = b) := ⟨_, rfl⟩
  rw [← hy] at hone hstr
  obtain ⟨SA, hSA⟩ : ∃ x, x = strU a := ⟨_, rfl⟩
  obtain ⟨SB, hSB⟩ : ∃ x, x = strU b := ⟨_, rfl⟩
  rw [← hSA] at hstr cv2
  rw [← hSB] at hstr cv3
  have k1 : ¬ (7 : Int) < (a.length : Int) := by omega
  have k2 : ¬ (7 : Int) < (b.length : Int) := by omega
  have e34 := fun W => eql_st W P Q
  rw [hone] at e34
  generalize goF r s a = X at *
  generalize goF r t a = Y at *
  have e12 := fun W => eql_st W X Y
  have est := fun W => eql_st W s t
  rw [hinj] at e12
  obtain ⟨z, hz⟩ : ∃ z, z = sameS s t := ⟨_, rfl⟩
  rw [← hz] at e12 est
  have hg24 := guard24
  clear hone hm
  obtain ⟨A, c, rfl⟩ := h2.form
  obtain ⟨B, d, rfl⟩ := h3.form
  clear hinj
  clear hl
  clear h2 h3 hr ht
  replace F0 := hide F0; replace hlive := hide hlive; replace hk1 := hide hk1; replace hk2 := hide hk2; replace hk3 := hide hk3; replace hk4 := hide hk4; replace cv2 := hide cv2; replace cv3 := hide cv3; replace hy := hide hy; replace hSA := hide hSA; replace hSB := hide hSB; replace hz := hide hz
  have tok1 : True := trivial
  have tok2 : True := trivial
  go_enter Tryd.func5, Tryd.ntmps5
  go_upto_region 1 with (fail)
  generalize hW : World.alloc (World.alloc w _) _ = W at *
  clear hW
  go_upto_region 6 with (first
    | (go_at_call 8; refine (unhide hlive _ (unhide F0).bl).mono ?_; rintro e w1 ⟨rfl, hb0⟩; have F1 : Fx w w1 [(w.heap.size, stC s), (w.heap.size + 1, stC t)] := (unhide F0).call hb0; replace F1 := hide F1; clear hb0)
    | (refine wpList_load_row rfl 24 (.tmp 5) rfl w.heap.size rfl 24 (stC s) (0, 0) _ ((unhide F1).get 0 rfl) Tryd.underlying24 rfl size24 ?_)
    | (go_at_call 11; have _t := tok1; refine (unhide hk1 _ (unhide F1).bl).mono ?_; rintro e w2 ⟨rfl, hb0⟩; have F_ : Fx w w2 [(w.heap.size, stC s), (w.heap.size + 1, stC t)] := (unhide F1).call hb0; have F2 : Fx w _ [(w.heap.size, stC s), (w.heap.size + 1, stC t), (w2.heap.size, stC X)] := F_.newB w2.heap.size rfl (stC X); replace F2 := hide F2; clear hb0 F_ tok1 _t)
    | (refine wpList_load_row rfl 24 (.tmp 6) rfl (w.heap.size + 1) rfl 24 (stC t) (0, 0) _ ((unhide F2).get 1 rfl) Tryd.underlying24 rfl size24 ?_)
    | (go_at_call 11; have _t := tok2; refine (unhide hk2 _ (unhide F2).bl).mono ?_; rintro e w3 ⟨rfl, hb0⟩; have F_ : Fx w w3 [(w.heap.size, stC s), (w.heap.size + 1, stC t), (w2.heap.size, stC X)] := (unhide F2).call hb0; have F3 : Fx w _ [(w.heap.size, stC s), (w.heap.size + 1, stC t), (w2.heap.size, stC X), (w3.heap.size, stC Y)] := F_.newB w3.heap.size rfl (stC Y); replace F3 := hide F3; clear hb0 F_ tok2 _t)
    | fail)
  generalize hW3 : World.alloc w3 _ = W3 at *
  clear hW3
  have F4 : Fx w W3 [(w.heap.size, stC s), (w.heap.size + 1, stC t), (w2.heap.size, stC X), (w3.heap.size, stC Y)] := unhide F3
  clear F3
  generalize w2.heap.size = gx at *
  generalize w3.heap.size = gy at *
  have cs0 : W3.cell? ⟨w.heap.size, 0, none⟩ = some (u32v s.a) := ((F4).get 0 rfl).cell 0
  have cs1 : W3.cell? ⟨w.heap.size, 1, none⟩ = some (u32v s.b) := ((F4).get 0 rfl).cell 1
  have cs2 : W3.cell? ⟨w.heap.size, 2, none⟩ = some (u32v s.c) := ((F4).get 0 rfl).cell 2
  have cs3 : W3.cell? ⟨w.heap.size, 3, none⟩ = some (u32v s.d) := ((F4).get 0 rfl).cell 3
  have ct0 : W3.cell? ⟨w.heap.size + 1, 0, none⟩ = some (u32v t.a) := ((F4).get 1 rfl).cell 0
  have ct1 : W3.cell? ⟨w.heap.size + 1, 1, none⟩ = some (u32v t.b) := ((F4).get 1 rfl).cell 1
  have ct2 : W3.cell? ⟨w.heap.size + 1, 2, none⟩ = some (u32v t.c) := ((F4).get 1 rfl).cell 2
  have ct3 : W3.cell? ⟨w.heap.size + 1, 3, none⟩ = some (u32v t.d) := ((F4).get 1 rfl).cell 3
  have cx0 : W3.cell? ⟨gx, 0, none⟩ = some (u32v X.a) := ((F4).get 2 rfl).cell 0
  have cx1 : W3.cell? ⟨gx, 1, none⟩ = some (u32v X.b) := ((F4).get 2 rfl).cell 1
  have cx2 : W3.cell? ⟨gx, 2, none⟩ = some (u32v X.c) := ((F4).get 2 rfl).cell 2
  have cx3 : W3.cell? ⟨gx, 3, none⟩ = some (u32v X.d) := ((F4).get 2 rfl).cell 3
  have cy0 : W3.cell? ⟨gy, 0, none⟩ = some (u32v Y.a) := ((F4).get 3 rfl).cell 0
  have cy1 : W3.cell? ⟨gy, 1, none⟩ = some (u32v Y.b) := ((F4).get 3 rfl).cell 1
  have cy2 : W3.cell? ⟨gy, 2, none⟩ = some (u32v Y.c) := ((F4).get 3 rfl).cell 2
  have cy3 : W3.cell? ⟨gy, 3, none⟩ = some (u32v Y.d) := ((F4).get 3 rfl).cell 3
  replace F4 := hide F4
  go_quiet (fail)
  generalize hW4 : W3.drewN _ = W4
  have F5 : Fx w W4 [(w.heap.size, stC s), (w.heap.size + 1, stC t), (gx, stC X), (gy, stC Y)] := by rw [← hW4]; exact (unhide F4).drewN _
  clear hW4 cs0 cs1 cs2 cs3 ct0 ct1 ct2 ct3 cx0 cx1 cx2 cx3 cy0 cy1 cy2 cy3
  replace F5 := hide F5
  have tok3 : True := trivial
  have tok4 : True := trivial
  go_upto_region 12 with (first
    | (refine wpList_load_row rfl 24 (.tmp 5) rfl w.heap.size rfl 24 (stC s) (0, 0) _ ((unhide F5).get 0 rfl) Tryd.underlying24 rfl size24 ?_)
    | (go_at_call 11; have _t := tok3; refine (unhide hk3 _ (unhide F5).bl).mono ?_; rintro e w5 ⟨rfl, hb0⟩; have F_ : Fx w w5 [(w.heap.size, stC s), (w.heap.size + 1, stC t), (gx, stC X), (gy, stC Y)] := (unhide F5).call hb0; have F6 : Fx w _ [(w.heap.size, stC s), (w.heap.size + 1, stC t), (gx, stC X), (gy, stC Y), (w5.heap.size, stC P)] := F_.newB w5.heap.size rfl (stC P); replace F6 := hide F6; clear hb0 F_ tok3 _t)
    | (refine wpList_load_row rfl 24 (.tmp 5) rfl w.heap.size rfl 24 (stC s) (0, 0) _ ((unhide F6).get 0 rfl) Tryd.underlying24 rfl size24 ?_)
    | (go_at_call 11; have _t := tok4; refine (unhide hk4 _ (unhide F6).bl).mono ?_; rintro e w6 ⟨rfl, hb0⟩; have F_ : Fx w w6 [(w.heap.size, stC s), (w.heap.size + 1, stC t), (gx, stC X), (gy, stC Y), (w5.heap.size, stC P)] := (unhide F6).call hb0; have F7 : Fx w _ [(w.heap.size, stC s), (w.heap.size + 1, stC t), (gx, stC X), (gy, stC Y), (w5.heap.size, stC P), (w6.heap.size, stC Q)] := F_.newB w6.heap.size rfl (stC Q); replace F7 := hide F7; clear hb0 F_ tok4 _t)
    | fail)
  generalize hW7 : World.alloc w6 _ = W7 at *
  clear hW7
  have F8 : Fx w W7 [(w.heap.size, stC s), (w.heap.size + 1, stC t), (gx, stC X), (gy, stC Y), (w5.heap.size, stC P), (w6.heap.size, stC Q)] := unhide F7
  clear F7
  generalize w5.heap.size = gp at *
  generalize w6.heap.size = gq at *
  have cp0 : W7.cell? ⟨gp, 0, none⟩ = some (u32v P.a) := ((F8).get 4 rfl).cell 0
  have cp1 : W7.cell? ⟨gp, 1, none⟩ = some (u32v P.b) := ((F8).get 4 rfl).cell 1
  have cp2 : W7.cell? ⟨gp, 2, none⟩ = some (u32v P.c) := ((F8).get 4 rfl).cell 2
  have cp3 : W7.cell? ⟨gp, 3, none⟩ = some (u32v P.d) := ((F8).get 4 rfl).cell 3
  have cq0 : W7.cell? ⟨gq, 0, none⟩ = some (u32v Q.a) := ((F8).get 5 rfl).cell 0
  have cq1 : W7.cell? ⟨gq, 1, none⟩ = some (u32v Q.b) := ((F8).get 5 rfl).cell 1
  have cq2 : W7.cell? ⟨gq, 2, none⟩ = some (u32v Q.c) := ((F8).get 5 rfl).cell 2
  have cq3 : W7.cell? ⟨gq, 3, none⟩ = some (u32v Q.d) := ((F8).get 5 rfl).cell 3
  have v2 : ∀ n, (convert 25 9 (.slice A a.length c)).run Tryd.prog (W7.drewN n) = .ok (.string SA) (W7.drewN n) := fun n => unhide cv2 _ (F8.drewN n).bl
  have v3 : ∀ n, (convert 25 9 (.slice B b.length d)).run Tryd.prog (W7.drewN n) = .ok (.string SB) (W7.drewN n) := fun n => unhide cv3 _ (F8.drewN n).bl
  replace F8 := hide F8
  go_quiet (fail)
  go_wp2
  go_ret
  exact ⟨rfl, ((unhide F8).drewN _).bl⟩
theorem apart_law (s t : St) (v2 v3 : Value) (a b : List UInt8) (q : UInt8) (w : World) (ht : Tab w) (h2 : Bs 0 w.heap.size w v2 a) (h3 : Bs 0 w.heap.size w v3 b) :
    Calls Tryd.prog 5 #[stV s, stV t, v2, v3, u8v q] w fun e w' => e = .returned (.bool true) ∧ Below w.heap.size w w' := by
  have hq := q.toNat_lt
  by_cases h : 64 < a.length
  · exact apart_long s t v2 v3 a b q.toNat w ht h2 h3 hq h
  · by_cases hg : 7 < a.length ∨ 7 < b.length
    · exact apart_gate s t v2 v3 a b q.toNat w ht h2 h3 hq (by omega) hg
    · exact apart_main s t v2 v3 a b q.toNat w ht h2 h3 hq (by omega) (by omega)
end Go.Proofs.YtjjamplgecioaaaDoor
