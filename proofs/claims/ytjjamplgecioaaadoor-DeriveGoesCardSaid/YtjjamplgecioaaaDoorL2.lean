import Derived.Test.YtjjamplgecioaaaDoorL5
namespace Go.Proofs.YtjjamplgecioaaaDoor
open Go.RowKit
set_option maxRecDepth 100000

set_option maxHeartbeats 4000000 in
theorem goes_long (s : St) (v1 v2 : Value) (l m : List UInt8) (q u : Nat) (w : World) (ht : Tab w) (h1 : Bs 0 w.heap.size w v1 l) (h2 : Bs 0 w.heap.size w v2 m) (hq : q < 256) (hu : u < 256) (hl : 64 < l.length) :
    Calls Tryd.prog 4 #[stV s, v1, v2, .int .u8 (q : Int), .int .u8 (u : Int)] w fun e w' => e = .returned (.bool true) ∧ Below w.heap.size w w' := by
  obtain ⟨r, hr⟩ : ∃ r, r = q % 50 := ⟨_, rfl⟩
  have m1 : (q : Int).tmod 50 = (r : Int) := by rw [Int.tmod_eq_emod_of_nonneg (by omega)]; omega
  have m2 : (q : Int) % 50 = (r : Int) := by omega
  have m4 : (r : Int) ≤ 50 := by omega
  obtain ⟨p, hp⟩ : ∃ p, p = u % 50 := ⟨_, rfl⟩
  have n1 : (u : Int).tmod 50 = (p : Int) := by rw [Int.tmod_eq_emod_of_nonneg (by omega)]; omega
  have n2 : (u : Int) % 50 = (p : Int) := by omega
  have n4 : (p : Int) ≤ 50 := by omega
  have F0 : Fx w (w.alloc (.cells (stC s) 24)) [(w.heap.size, stC s)] := (Fx.nil w).newB _ rfl _
  have hlive := fun W (hb : Below w.heap.size w W) => live_any w W ht hb
  have hk1 := fun W (hb : Below w.heap.size w W) => go_any s _ l (r : Int) w W ht h1 hb
  rw [goE_long hl] at hk1
  have k1 : (64 : Int) < (l.length : Int) := by omega
  obtain ⟨A, c, rfl⟩ := h1.form
  obtain ⟨B, d, rfl⟩ := h2.form
  clear hl h1 h2 hr hp ht
  replace F0 := hide F0; replace hlive := hide hlive; replace hk1 := hide hk1
  have tok1 : True := trivial
  have tok2 : True := trivial
  have tok3 : True := trivial
  have tok4 : True := trivial
  have tok5 : True := trivial
  have tok6 : True := trivial
  go_enter Tryd.func4, Tryd.ntmps4
  go_upto_region 1 with (fail)
  generalize hW : World.alloc w _ = W at *
  clear hW
  generalize l.length = n at *
  go_wp2_with (first
    | (go_at_call 8; refine (unhide hlive _ (unhide F0).bl).mono ?_; rintro e w1 ⟨rfl, hb0⟩; have F1 : Fx w w1 [(w.heap.size, stC s)] := (unhide F0).call hb0; replace F1 := hide F1; clear hb0)
    | (refine wpList_load_row rfl 24 (.tmp 5) rfl w.heap.size rfl 24 (stC s) (0, 0) _ ((unhide F1).get 0 rfl) Tryd.underlying24 rfl size24 ?_)
    | (go_at_call 11; have _t := tok1; refine (unhide hk1 _ (unhide F1).bl).mono ?_; rintro e w2 ⟨rfl, hb0⟩; have F_ : Fx w w2 [(w.heap.size, stC s)] := (unhide F1).call hb0; have F2 : Fx w _ [(w.heap.size, stC s), (w2.heap.size, stC zS)] := F_.newB w2.heap.size rfl (stC zS); replace F2 := hide F2; clear hb0 F_ tok1 _t)
    | fail)
  go_ret
  exact ⟨rfl, (unhide F2).bl⟩

set_option maxHeartbeats 4000000 in
theorem goes_salt (s : St) (v1 v2 : Value) (l m : List UInt8) (q u : Nat) (w : World) (ht : Tab w) (h1 : Bs 0 w.heap.size w v1 l) (h2 : Bs 0 w.heap.size w v2 m) (hq : q < 256) (hu : u < 256) (hl : l.length ≤ 64) (hm : 64 < m.length) :
    Calls Tryd.prog 4 #[stV s, v1, v2, .int .u8 (q : Int), .int .u8 (u : Int)] w fun e w' => e = .returned (.bool true) ∧ Below w.heap.size w w' := by
  obtain ⟨r, hr⟩ : ∃ r, r = q % 50 := ⟨_, rfl⟩
  have m1 : (q : Int).tmod 50 = (r : Int) := by rw [Int.tmod_eq_emod_of_nonneg (by omega)]; omega
  have m2 : (q : Int) % 50 = (r : Int) := by omega
  have m4 : (r : Int) ≤ 50 := by omega
  obtain ⟨p, hp⟩ : ∃ p, p = u % 50 := ⟨_, rfl⟩
  have n1 : (u : Int).tmod 50 = (p : Int) := by rw [Int.tmod_eq_emod_of_nonneg (by omega)]; omega
  have n2 : (u : Int) % 50 = (p : Int) := by omega
  have n4 : (p : Int) ≤ 50 := by omega
  have F0 : Fx w (w.alloc (.cells (stC s) 24)) [(w.heap.size, stC s)] := (Fx.nil w).newB _ rfl _
  have hlive := fun W (hb : Below w.heap.size w W) => live_any w W ht hb
  have hk1 := fun W (hb : Below w.heap.size w W) => go_any s _ l (r : Int) w W ht h1 hb
  have hk2 := fun W (hb : Below w.heap.size w W) => go_any (goF r s l) _ l (p : Int) w W ht h1 hb
  have hk3 := fun W (hb : Below w.heap.size w W) => go_any s _ l ((r : Int) + (p : Int)) w W ht h1 hb
  have hk4 := fun W (hb : Below w.heap.size w W) => start_any _ _ l m w W ht h1 h2 hb
  have hk5 := fun W (hb : Below w.heap.size w W) => key_any _ _ l m ((r : Int) + 1) w W ht h1 h2 hb
  rw [goE_good (n := r) (z := (r : Int)) hl rfl (by omega)] at hk1
  rw [goE_good (n := p) (z := (p : Int)) hl rfl (by omega), goF_add] at hk2
  rw [goE_good (n := r + p) (z := (r : Int) + (p : Int)) hl (by omega) (by omega)] at hk3
  rw [startE_bad (.inr hm)] at hk4
  rw [keyE_bad (.inr hm)] at hk5
  generalize goF (r + p) s l = Y at *
  generalize goF r s l = X at *
  have eY : ∀ W, (Op.equalIn 10000 24 (stV Y) (stV Y)).run Tryd.prog W = .ok true W := fun W => by
    have := equalIn_st W Y Y
    rw [sameS_self] at this
    exact this
  have hg24 := guard24
  obtain ⟨A, c, rfl⟩ := h1.form
  obtain ⟨B, d, rfl⟩ := h2.form
  clear hl h1 h2 hr hp ht hm
  replace F0 := hide F0; replace hlive := hide hlive; replace hk1 := hide hk1; replace hk2 := hide hk2; replace hk3 := hide hk3; replace hk4 := hide hk4; replace hk5 := hide hk5
  have tok1 : True := trivial
  have tok2 : True := trivial
  have tok3 : True := trivial
  have tok4 : True := trivial
  have tok5 : True := trivial
  have tok6 : True := trivial
  go_enter Tryd.func4, Tryd.ntmps4
  go_upto_region 1 with (fail)
  generalize hW : World.alloc w _ = W at *
  clear hW
  go_upto_region 7 with (first
    | (go_at_call 8; refine (unhide hlive _ (unhide F0).bl).mono ?_; rintro e w1 ⟨rfl, hb0⟩; have F1 : Fx w w1 [(w.heap.size, stC s)] := (unhide F0).call hb0; replace F1 := hide F1; clear hb0)
    | (refine wpList_load_row rfl 24 (.tmp 5) rfl w.heap.size rfl 24 (stC s) (0, 0) _ ((unhide F1).get 0 rfl) Tryd.underlying24 rfl size24 ?_)
    | (go_at_call 11; have _t := tok1; refine (unhide hk1 _ (unhide F1).bl).mono ?_; rintro e w2 ⟨rfl, hb0⟩; have F_ : Fx w w2 [(w.heap.size, stC s)] := (unhide F1).call hb0; have F2 : Fx w _ [(w.heap.size, stC s), (w2.heap.size, stC X)] := F_.newB w2.heap.size rfl (stC X); replace F2 := hide F2; clear hb0 F_ tok1 _t)
    | (refine wpList_load_row rfl 24 (.tmp 12) rfl w2.heap.size rfl 24 (stC X) (0, 0) _ ((unhide F2).get 1 rfl) Tryd.underlying24 rfl size24 ?_)
    | (go_at_call 11; have _t := tok2; refine (unhide hk2 _ (unhide F2).bl).mono ?_; rintro e w3 ⟨rfl, hb0⟩; have F_ : Fx w w3 [(w.heap.size, stC s), (w2.heap.size, stC X)] := (unhide F2).call hb0; have F3 : Fx w _ [(w.heap.size, stC s), (w2.heap.size, stC X), (w3.heap.size, stC Y)] := F_.newB w3.heap.size rfl (stC Y); replace F3 := hide F3; clear hb0 F_ tok2 _t)
    | (refine wpList_load_row rfl 24 (.tmp 5) rfl w.heap.size rfl 24 (stC s) (0, 0) _ ((unhide F3).get 0 rfl) Tryd.underlying24 rfl size24 ?_)
    | (go_at_call 11; have _t := tok3; refine (unhide hk3 _ (unhide F3).bl).mono ?_; rintro e w4 ⟨rfl, hb0⟩; have F_ : Fx w w4 [(w.heap.size, stC s), (w2.heap.size, stC X), (w3.heap.size, stC Y)] := (unhide F3).call hb0; have F4 : Fx w _ [(w.heap.size, stC s), (w2.heap.size, stC X), (w3.heap.size, stC Y), (w4.heap.size, stC Y)] := F_.newB w4.heap.size rfl (stC Y); replace F4 := hide F4; clear hb0 F_ tok3 _t)
    | fail)
  generalize hW4 : World.alloc w4 _ = W4 at *
  clear hW4
  have F5 : Fx w W4 [(w.heap.size, stC s), (w2.heap.size, stC X), (w3.heap.size, stC Y), (w4.heap.size, stC Y)] := unhide F4
  clear F4
  generalize w2.heap.size = gx at *
  generalize w3.heap.size = gy at *
  generalize w4.heap.size = gz at *
  have cy0 : W4.cell? ⟨gy, 0, none⟩ = some (u32v Y.a) := ((F5).get 2 rfl).cell 0
  have cy1 : W4.cell? ⟨gy, 1, none⟩ = some (u32v Y.b) := ((F5).get 2 rfl).cell 1
  have cy2 : W4.cell? ⟨gy, 2, none⟩ = some (u32v Y.c) := ((F5).get 2 rfl).cell 2
  have cy3 : W4.cell? ⟨gy, 3, none⟩ = some (u32v Y.d) := ((F5).get 2 rfl).cell 3
  have cz0 : W4.cell? ⟨gz, 0, none⟩ = some (u32v Y.a) := ((F5).get 3 rfl).cell 0
  have cz1 : W4.cell? ⟨gz, 1, none⟩ = some (u32v Y.b) := ((F5).get 3 rfl).cell 1
  have cz2 : W4.cell? ⟨gz, 2, none⟩ = some (u32v Y.c) := ((F5).get 3 rfl).cell 2
  have cz3 : W4.cell? ⟨gz, 3, none⟩ = some (u32v Y.d) := ((F5).get 3 rfl).cell 3
  replace F5 := hide F5
  go_wp2_with (first
    | (go_at_call 9; have _t := tok4; refine (unhide hk4 _ (unhide F5).bl).mono ?_; rintro e w5 ⟨rfl, hb0⟩; have F_ : Fx w w5 [(w.heap.size, stC s), (gx, stC X), (gy, stC Y), (gz, stC Y)] := (unhide F5).call hb0; have F6 : Fx w _ [(w.heap.size, stC s), (gx, stC X), (gy, stC Y), (gz, stC Y), (w5.heap.size, stC zS)] := F_.newB w5.heap.size rfl (stC zS); replace F6 := hide F6; clear hb0 F_ tok4 _t)
    | (go_at_call 13; have _t := tok5; refine (unhide hk5 _ (unhide F6).bl).mono ?_; rintro e w6 ⟨rfl, hb0⟩; have F_ : Fx w w6 [(w.heap.size, stC s), (gx, stC X), (gy, stC Y), (gz, stC Y), (w5.heap.size, stC zS)] := (unhide F6).call hb0; have F7 : Fx w _ [(w.heap.size, stC s), (gx, stC X), (gy, stC Y), (gz, stC Y), (w5.heap.size, stC zS), (w6.heap.size, stC zS)] := F_.newB w6.heap.size rfl (stC zS); replace F7 := hide F7; clear hb0 F_ tok5 _t)
    | fail)
  go_ret
  exact ⟨rfl, (unhide F7).bl⟩

set_option maxHeartbeats 4000000 in
theorem goes_main (s : St) (v1 v2 : Value) (l m : List UInt8) (q u : Nat) (w : World) (ht : Tab w) (h1 : Bs 0 w.heap.size w v1 l) (h2 : Bs 0 w.heap.size w v2 m) (hq : q < 256) (hu : u < 256) (hl : l.length ≤ 64) (hm : m.length ≤ 64) :
    Calls Tryd.prog 4 #[stV s, v1, v2, .int .u8 (q : Int), .int .u8 (u : Int)] w fun e w' => e = .returned (.bool true) ∧ Below w.heap.size w w' := by
  obtain ⟨r, hr⟩ : ∃ r, r = q % 50 := ⟨_, rfl⟩
  have m1 : (q : Int).tmod 50 = (r : Int) := by rw [Int.tmod_eq_emod_of_nonneg (by omega)]; omega
  have m2 : (q : Int) % 50 = (r : Int) := by omega
  have m4 : (r : Int) ≤ 50 := by omega
  obtain ⟨p, hp⟩ : ∃ p, p = u % 50 := ⟨_, rfl⟩
  have n1 : (u : Int).tmod 50 = (p : Int) := by rw [Int.tmod_eq_emod_of_nonneg (by omega)]; omega
  have n2 : (u : Int) % 50 = (p : Int) := by omega
  have n4 : (p : Int) ≤ 50 := by omega
  have F0 : Fx w (w.alloc (.cells (stC s) 24)) [(w.heap.size, stC s)] := (Fx.nil w).newB _ rfl _
  have hlive := fun W (hb : Below w.heap.size w W) => live_any w W ht hb
  have hk1 := fun W (hb : Below w.heap.size w W) => go_any s _ l (r : Int) w W ht h1 hb
  have hk2 := fun W (hb : Below w.heap.size w W) => go_any (goF r s l) _ l (p : Int) w W ht h1 hb
  have hk3 := fun W (hb : Below w.heap.size w W) => go_any s _ l ((r : Int) + (p : Int)) w W ht h1 hb
  have hk4 := fun W (hb : Below w.heap.size w W) => start_any _ _ l m w W ht h1 h2 hb
  have hk5 := fun W (hb : Below w.heap.size w W) => key_any _ _ l m ((r : Int) + 1) w W ht h1 h2 hb
  rw [goE_good (n := r) (z := (r : Int)) hl rfl (by omega)] at hk1
  rw [goE_good (n := p) (z := (p : Int)) hl rfl (by omega), goF_add] at hk2
  rw [goE_good (n := r + p) (z := (r : Int) + (p : Int)) hl (by omega) (by omega)] at hk3
  rw [startE_good hl hm] at hk4
  rw [keyE_good (n := r + 1) (z := (r : Int) + 1) hl hm (by omega) (by omega) (by omega)] at hk5
  have hk6 := fun W (hb : Below w.heap.size w W) => go_any (startF l m) _ l ((r : Int) + 1) w W ht h1 hb
  rw [goE_good (n := r + 1) (z := (r : Int) + 1) hl (by omega) (by omega)] at hk6
  generalize goF (r + 1) (startF l m) l = K at *
  generalize startF l m = T at *
  have eK : ∀ W, (Op.equalIn 10000 24 (stV K) (stV K)).run Tryd.prog W = .ok true W := fun W => by
    have := equalIn_st W K K
    rw [sameS_self] at this
    exact this
  generalize goF (r + p) s l = Y at *
  generalize goF r s l = X at *
  have eY : ∀ W, (Op.equalIn 10000 24 (stV Y) (stV Y)).run Tryd.prog W = .ok true W := fun W => by
    have := equalIn_st W Y Y
    rw [sameS_self] at this
    exact this
  have hg24 := guard24
  obtain ⟨A, c, rfl⟩ := h1.form
  obtain ⟨B, d, rfl⟩ := h2.form
  clear hl h1 h2 hr hp ht hm
  replace F0 := hide F0; replace hlive := hide hlive; replace hk1 := hide hk1; replace hk2 := hide hk2; replace hk3 := hide hk3; replace hk4 := hide hk4; replace hk5 := hide hk5; replace hk6 := hide hk6
  have tok1 : True := trivial
  have tok2 : True := trivial
  have tok3 : True := trivial
  have tok4 : True := trivial
  have tok5 : True := trivial
  have tok6 : True := trivial
  go_enter Tryd.func4, Tryd.ntmps4
  go_upto_region 1 with (fail)
  generalize hW : World.alloc w _ = W at *
  clear hW
  go_upto_region 7 with (first
    | (go_at_call 8; refine (unhide hlive _ (unhide F0).bl).mono ?_; rintro e w1 ⟨rfl, hb0⟩; have F1 : Fx w w1 [(w.heap.size, stC s)] := (unhide F0).call hb0; replace F1 := hide F1; clear hb0)
    | (refine wpList_load_row rfl 24 (.tmp 5) rfl w.heap.size rfl 24 (stC s) (0, 0) _ ((unhide F1).get 0 rfl) Tryd.underlying24 rfl size24 ?_)
    | (go_at_call 11; have _t := tok1; refine (unhide hk1 _ (unhide F1).bl).mono ?_; rintro e w2 ⟨rfl, hb0⟩; have F_ : Fx w w2 [(w.heap.size, stC s)] := (unhide F1).call hb0; have F2 : Fx w _ [(w.heap.size, stC s), (w2.heap.size, stC X)] := F_.newB w2.heap.size rfl (stC X); replace F2 := hide F2; clear hb0 F_ tok1 _t)
    | (refine wpList_load_row rfl 24 (.tmp 12) rfl w2.heap.size rfl 24 (stC X) (0, 0) _ ((unhide F2).get 1 rfl) Tryd.underlying24 rfl size24 ?_)
    | (go_at_call 11; have _t := tok2; refine (unhide hk2 _ (unhide F2).bl).mono ?_; rintro e w3 ⟨rfl, hb0⟩; have F_ : Fx w w3 [(w.heap.size, stC s), (w2.heap.size, stC X)] := (unhide F2).call hb0; have F3 : Fx w _ [(w.heap.size, stC s), (w2.heap.size, stC X), (w3.heap.size, stC Y)] := F_.newB w3.heap.size rfl (stC Y); replace F3 := hide F3; clear hb0 F_ tok2 _t)
    | (refine wpList_load_row rfl 24 (.tmp 5) rfl w.heap.size rfl 24 (stC s) (0, 0) _ ((unhide F3).get 0 rfl) Tryd.underlying24 rfl size24 ?_)
    | (go_at_call 11; have _t := tok3; refine (unhide hk3 _ (unhide F3).bl).mono ?_; rintro e w4 ⟨rfl, hb0⟩; have F_ : Fx w w4 [(w.heap.size, stC s), (w2.heap.size, stC X), (w3.heap.size, stC Y)] := (unhide F3).call hb0; have F4 : Fx w _ [(w.heap.size, stC s), (w2.heap.size, stC X), (w3.heap.size, stC Y), (w4.heap.size, stC Y)] := F_.newB w4.heap.size rfl (stC Y); replace F4 := hide F4; clear hb0 F_ tok3 _t)
    | fail)
  generalize hW4 : World.alloc w4 _ = W4 at *
  clear hW4
  have F5 : Fx w W4 [(w.heap.size, stC s), (w2.heap.size, stC X), (w3.heap.size, stC Y), (w4.heap.size, stC Y)] := unhide F4
  clear F4
  generalize w2.heap.size = gx at *
  generalize w3.heap.size = gy at *
  generalize w4.heap.size = gz at *
  have cy0 : W4.cell? ⟨gy, 0, none⟩ = some (u32v Y.a) := ((F5).get 2 rfl).cell 0
  have cy1 : W4.cell? ⟨gy, 1, none⟩ = some (u32v Y.b) := ((F5).get 2 rfl).cell 1
  have cy2 : W4.cell? ⟨gy, 2, none⟩ = some (u32v Y.c) := ((F5).get 2 rfl).cell 2
  have cy3 : W4.cell? ⟨gy, 3, none⟩ = some (u32v Y.d) := ((F5).get 2 rfl).cell 3
  have cz0 : W4.cell? ⟨gz, 0, none⟩ = some (u32v Y.a) := ((F5).get 3 rfl).cell 0
  have cz1 : W4.cell? ⟨gz, 1, none⟩ = some (u32v Y.b) := ((F5).get 3 rfl).cell 1
  have cz2 : W4.cell? ⟨gz, 2, none⟩ = some (u32v Y.c) := ((F5).get 3 rfl).cell 2
  have cz3 : W4.cell? ⟨gz, 3, none⟩ = some (u32v Y.d) := ((F5).get 3 rfl).cell 3
  replace F5 := hide F5
  go_upto_region 14 with (first
    | (go_at_call 9; have _t := tok4; refine (unhide hk4 _ (unhide F5).bl).mono ?_; rintro e w5 ⟨rfl, hb0⟩; have F_ : Fx w w5 [(w.heap.size, stC s), (gx, stC X), (gy, stC Y), (gz, stC Y)] := (unhide F5).call hb0; have F6 : Fx w _ [(w.heap.size, stC s), (gx, stC X), (gy, stC Y), (gz, stC Y), (w5.heap.size, stC T)] := F_.newB w5.heap.size rfl (stC T); replace F6 := hide F6; clear hb0 F_ tok4 _t)
    | (go_at_call 13; have _t := tok5; refine (unhide hk5 _ (unhide F6).bl).mono ?_; rintro e w6 ⟨rfl, hb0⟩; have F_ : Fx w w6 [(w.heap.size, stC s), (gx, stC X), (gy, stC Y), (gz, stC Y), (w5.heap.size, stC T)] := (unhide F6).call hb0; have F7 : Fx w _ [(w.heap.size, stC s), (gx, stC X), (gy, stC Y), (gz, stC Y), (w5.heap.size, stC T), (w6.heap.size, stC K)] := F_.newB w6.heap.size rfl (stC K); replace F7 := hide F7; clear hb0 F_ tok5 _t)
    | (refine wpList_load_row rfl 24 (.tmp 18) rfl w5.heap.size rfl 24 (stC T) (0, 0) _ ((unhide F7).get 4 rfl) Tryd.underlying24 rfl size24 ?_)
    | (go_at_call 11; have _t := tok6; refine (unhide hk6 _ (unhide F7).bl).mono ?_; rintro e w7 ⟨rfl, hb0⟩; have F_ : Fx w w7 [(w.heap.size, stC s), (gx, stC X), (gy, stC Y), (gz, stC Y), (w5.heap.size, stC T), (w6.heap.size, stC K)] := (unhide F7).call hb0; have F8 : Fx w _ [(w.heap.size, stC s), (gx, stC X), (gy, stC Y), (gz, stC Y), (w5.heap.size, stC T), (w6.heap.size, stC K), (w7.heap.size, stC K)] := F_.newB w7.heap.size rfl (stC K); replace F8 := hide F8; clear hb0 F_ tok6 _t)
    | fail)
  generalize hW8 : World.alloc w7 _ = W8 at *
  clear hW8
  have F9 : Fx w W8 [(w.heap.size, stC s), (gx, stC X), (gy, stC Y), (gz, stC Y), (w5.heap.size, stC T), (w6.heap.size, stC K), (w7.heap.size, stC K)] := unhide F8
  clear F8 cy0 cy1 cy2 cy3 cz0 cz1 cz2 cz3
  generalize w6.heap.size = gk at *
  generalize w7.heap.size = gu at *
  have ck0 : W8.cell? ⟨gk, 0, none⟩ = some (u32v K.a) := ((F9).get 5 rfl).cell 0
  have ck1 : W8.cell? ⟨gk, 1, none⟩ = some (u32v K.b) := ((F9).get 5 rfl).cell 1
  have ck2 : W8.cell? ⟨gk, 2, none⟩ = some (u32v K.c) := ((F9).get 5 rfl).cell 2
  have ck3 : W8.cell? ⟨gk, 3, none⟩ = some (u32v K.d) := ((F9).get 5 rfl).cell 3
  have cu0 : W8.cell? ⟨gu, 0, none⟩ = some (u32v K.a) := ((F9).get 6 rfl).cell 0
  have cu1 : W8.cell? ⟨gu, 1, none⟩ = some (u32v K.b) := ((F9).get 6 rfl).cell 1
  have cu2 : W8.cell? ⟨gu, 2, none⟩ = some (u32v K.c) := ((F9).get 6 rfl).cell 2
  have cu3 : W8.cell? ⟨gu, 3, none⟩ = some (u32v K.d) := ((F9).get 6 rfl).cell 3
  replace F9 := hide F9
  go_wp2
  go_ret
  exact ⟨rfl, (unhide F9).bl⟩
theorem goes_law (s : St) (v1 v2 : Value) (l m : List UInt8) (q u : UInt8) (w : World) (ht : Tab w) (h1 : Bs 0 w.heap.size w v1 l) (h2 : Bs 0 w.heap.size w v2 m) :
    Calls Tryd.prog 4 #[stV s, v1, v2, u8v q, u8v u] w fun e w' => e = .returned (.bool true) ∧ Below w.heap.size w w' := by
  have hq := q.toNat_lt
  have hu := u.toNat_lt
  by_cases h : 64 < l.length
  · exact goes_long s v1 v2 l m q.toNat u.toNat w ht h1 h2 hq hu h
  · by_cases hm : 64 < m.length
    · exact goes_salt s v1 v2 l m q.toNat u.toNat w ht h1 h2 hq hu (by omega) hm
    · exact goes_main s v1 v2 l m q.toNat u.toNat w ht h1 h2 hq hu (by omega) (by omega)
end Go.Proofs.YtjjamplgecioaaaDoor
