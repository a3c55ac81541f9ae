import Derived.Test.YthkccpemgmpadaaGreatDoorU35
import Derived.Test.YthkccpemgmpadaaGreatDoorU36
import Derived.Test.YthkccpemgmpadaaGreatDoorU22
import Derived.Test.YthkccpemgmpadaaGreatDoorU24
import Derived.Test.YthkccpemgmpadaaGreatDoorU2
import Derived.Test.YthkccpemgmpadaaGreatDoorU33
namespace Go.Proofs.YthkccpemgmpadaaGreatDoor
set_option maxRecDepth 100000
open Go.RowKit
theorem openS_len (s : St) (b : List UInt8) (h : (openS s b).2 = 0) (hl : b.length ≤ 60000) : (openS s b).1.length ≤ 1000000 := by
  revert h
  unfold openS
  rw [if_neg (by omega)]
  split
  · intro h; rename_i h1; exact absurd h h1
  · split
    · intro h; rename_i h1; exact absurd h h1
    · intro _
      unfold unpU
      have := P.unpack_most (t := P.octs (innerS s (sumS b).1).1) (most := 65536) (P.octs_ok _)
      rcases this with ⟨_, _, h3, h4⟩ | h5
      · omega
      · rw [h5.1]; simp
theorem Test_any (s : St) (v pv : Value) (b : List UInt8) (l : List Pc) (w : World) (ht : Tab w) (h : Bs 0 w.heap.size w v b) (hl : b.length ≤ 60000) (hp : Pcs 0 w.heap.size w pv l) (hok : ∀ p ∈ l, OkP p) (hn : l.length ≤ 1000) :
    Calls Tryz.prog 17 #[stV s, v, pv] w fun e w' => e = .returned (.int .i64 (testS s b l)) ∧ Below w.heap.size w w' := by
  by_cases he : (openS s b).2 = 0
  · exact Test_ok s v pv b l w ht h hl hp hok hn he (openS_len s b he hl)
  · exact Test_err s v pv b l w ht h hl hp he
theorem pcs_own {w : World} {base n c : Nat} {A : Option Addr} {l : List Pc} (h : w.ownsRow base 44 3 (.slice A n c) n (l.flatMap pcL)) (h0 : 0 < n) : ∃ g, A = some ⟨g, 0, none⟩ ∧ base ≤ g ∧ g < w.heap.size ∧ ∀ k (hk : k < l.length), w.cell? ⟨g, k * 3, none⟩ = some (.int .i64 l[k].at_) ∧ w.cell? ⟨g, k * 3 + 1, none⟩ = some (.int .i64 l[k].len) ∧ w.cell? ⟨g, k * 3 + 2, none⟩ = some (u32v l[k].sum) := by
  have hn : n = l.length := by have := ownsRow_len h; rw [pcs_flat_len] at this; omega
  rcases h.2 with ⟨e, _⟩ | ⟨g, cap, cur, e, hb, hg, hnc, hcm, hcs, htake⟩
  · injection e with _ e _; omega
  · injection e with e1 _ e3
    subst e1 e3
    refine ⟨g, rfl, hb, Blk.lt (t := 44) (cs := cur) hg, fun k hk => ?_⟩
    have hcell := fun j (hj : j < n * 3) => World.ownsRow.cellAt (w := w) (base := base) (e := 44) (size := 3) (g := g) (n := n) (cap := c) (xs := l.flatMap pcL) h j hj
    obtain ⟨c0, c1, c2⟩ := pcs_flat_get l k hk
    exact ⟨by rw [hcell _ (by omega)]; exact c0, by rw [hcell _ (by omega)]; exact c1, by rw [hcell _ (by omega)]; exact c2⟩
theorem live_build (v : Value) (w : World) (ht : Tab w) (h : Bss w.heap.size w v [[97, 98], [99]]) :
    Calls Tryz.prog 7 #[.agg zRg, v] w fun e w' => ∃ m A c g c2, e = .returned (.tuple #[.slice A m c, .slice (some ⟨g, 0, none⟩) 2 c2, .agg #[.int .u32 0, .int .u32 0, .int .u32 0, .int .u32 0, .int .u64 1], .int .i64 0]) ∧ g < w'.heap.size ∧ w'.cell? ⟨g, 3, none⟩ = some (.int .i64 2) ∧ w'.cell? ⟨g, 4, none⟩ = some (.int .i64 1) ∧ Below w.heap.size w w' :=
  (Build_good zS 0#64 v [[97, 98], [99]] w ht h (by decide) (by decide) (by decide)).mono fun e w' ⟨A, c, A2, c2, he, _, ho, hb⟩ => by
    obtain ⟨g, rfl, _, hg, hc⟩ := pcs_own ho (by decide)
    obtain ⟨k0, k1, _⟩ := hc 1 (by decide)
    exact ⟨_, A, c, g, c2, he, hg, k0, k1, hb⟩
set_option maxHeartbeats 1000000 in
theorem live_any (w : World) (ht : Tab w) : Calls Tryz.prog 5 #[] w fun e w' => e = .returned (.bool true) ∧ Below w.heap.size w w' := by
  have B0 : Fx w (((w.alloc (.cells #[.int .u8 97, .int .u8 98] 5)).alloc (.cells #[.int .u8 99] 5)).alloc (.cells #[.slice (some ⟨w.heap.size, 0, none⟩) 2 2, .slice (some ⟨w.heap.size + 1, 0, none⟩) 1 1] 29)) [(w.heap.size, 5, #[.int .u8 97, .int .u8 98]), (w.heap.size + 1, 5, #[.int .u8 99]), (w.heap.size + 1 + 1, 29, #[.slice (some ⟨w.heap.size, 0, none⟩) 2 2, .slice (some ⟨w.heap.size + 1, 0, none⟩) 1 1])] [] [] :=
    (((Fx.nil w).newB w.heap.size rfl _ 5).newB (w.heap.size + 1) (by simp) _ 5).newB (w.heap.size + 1 + 1) (by simp) _ 29
  have hL := live_build (.slice (some ⟨w.heap.size + 1 + 1, 0, none⟩) 2 2) _ (ht.below B0.bl (Nat.le_refl _)) (by
    refine ⟨_, 2, rfl, fun i x hx => ?_⟩
    have b0 := B0.get 0 rfl; have b1 := B0.get 1 rfl; have b2 := B0.get 2 rfl
    match i, hx with
    | 0, hx =>
      injection hx with hx; subst hx
      refine ⟨_, 0, some ⟨w.heap.size, 0, none⟩, 2, rfl, b2.lt, b2.cell 0, _, 2, rfl, Nat.le_refl _, by omega, fun _ => ⟨_, 0, rfl, Nat.zero_le _, b0.lt, fun i hi => ?_⟩⟩
      match i, hi with
      | 0, _ => exact b0.cell 0
      | 1, _ => exact b0.cell 1
    | 1, hx =>
      injection hx with hx; subst hx
      refine ⟨_, 0, some ⟨w.heap.size + 1, 0, none⟩, 1, rfl, b2.lt, b2.cell 1, _, 1, rfl, Nat.le_refl _, by omega, fun _ => ⟨_, 0, rfl, Nat.zero_le _, b1.lt, fun i hi => ?_⟩⟩
      match i, hi with
      | 0, _ => exact b1.cell 0)
  have bl := hide B0.bl
  replace hL := hide hL
  clear B0 ht
  go_enter Tryz.func5, Tryz.ntmps5
  go_wp2_with (first
    | (go_at_call 7; refine (unhide hL).mono ?_; rintro e w2 ⟨m, A, c, g, c2, rfl, hg, k3, k4, hb2⟩
       have b2 := hide (bl_call (unhide bl) hb2)
       clear hb2)
    | fail)
  go_ret
  exact ⟨rfl, bl_alloc (unhide b2) _⟩
end Go.Proofs.YthkccpemgmpadaaGreatDoor

/- only Z -/
namespace Go.Proofs.YthkccpemgmpadaaGreatDoor
set_option maxRecDepth 100000
open Go.RowKit
theorem rPack_u (lo : Nat) (v : Value) (b : List UInt8) (w : World) (h : Bs lo w.heap.size w v b) (hl : b.length ≤ 1000) :
    Calls Tryz.prog 32 #[v] w (Ans (pkU b, 0) w) :=
  (P.refPack_good lo v b w (bs_M h) hl).mono fun e w' ⟨A, c, he, ho, hb⟩ => by
    rw [← octs_pkU (b := b) (by omega), P.octs_byc, P.octs_len] at ho
    rw [← pkU_len] at he
    exact ⟨A, c, he, ho, hb⟩
theorem rUnpack_u (lo : Nat) (v : Value) (t : List UInt8) (w : World) (h : Bs lo w.heap.size w v t) (hl : t.length ≤ 1000000) :
    Calls Tryz.prog 27 #[v, .int .i64 65536] w (Ans (unpU t) w) :=
  (P.refUnpack_any lo v (P.octs t) 65536 w (P.os_of (bs_M h)) (P.octs_ok t) (by rw [P.octs_len]; exact hl)).mono fun e w' ⟨A, n, c, he, ho, hb⟩ => by
    obtain rfl := own_nn (l := (P.unpackR (P.octs t) 65536).1) ho
    exact ⟨A, c, he, ho, hb⟩
theorem rsum_u (lo hi : Nat) (v : Value) (l : List UInt8) (w : World) (h : Bs lo hi w v l) :
    Calls Tryz.prog 22 #[v] w fun e w' => e = .returned (u32v (C.sumR l)) ∧ w = w' := C.rsum_any lo hi v l w (bs_C h)
theorem rseal_u (lo : Nat) (v : Value) (l : List UInt8) (w : World) (h : Bs lo w.heap.size w v l) (hL : l.length ≤ 900000) :
    Calls Tryz.prog 35 #[v] w fun e w' => ∃ A c, e = .returned (.slice A (C.sealL l).length c) ∧ OwnB w' w.heap.size (.slice A (C.sealL l).length c) (C.sealL l) ∧ Below w.heap.size w w' :=
  (C.rseal_any lo v l w (bs_C h) hL).mono fun e w' ⟨A, c, he, ho, hb⟩ => by
    rw [← C.sealL_len] at he ho
    exact ⟨A, c, he, ho, hb⟩
theorem ropen_u (lo : Nat) (v : Value) (b : List UInt8) (w : World) (h : Bs lo w.heap.size w v b) (hL : b.length ≤ 900000) :
    Calls Tryz.prog 24 #[v] w (Ans (sumS b) w) := by
  by_cases h4 : b.length < 4
  · obtain ⟨A, c, rfl⟩ := h.form
    refine (C.ropen_short A _ c w h4).mono fun e w' ⟨he, hw⟩ => ?_
    subst hw
    exact Ans.none (er := 2) (by unfold sumS; rw [if_pos h4]) he (Below.refl _ _)
  · refine (C.ropen_any lo (b.length - 4) v b w (bs_C h) (by omega) (by omega)).mono fun e w' ⟨A, c, er, he, her, ho, hb⟩ => ?_
    cases hc : C.okO b (b.length - 4) with
    | true =>
      rw [hc] at he her ho
      simp only [↓reduceIte] at he her ho
      obtain rfl := her
      have hn : (b.take (b.length - 4)).length = b.length - 4 := by rw [List.length_take]; omega
      have e0 : sumS b = (b.take (b.length - 4), 0) := by unfold sumS; rw [if_neg h4, if_pos hc]
      unfold Ans
      rw [e0]
      refine ⟨A, c, by rw [hn]; exact he, ?_, hb⟩
      show w'.ownsRow w.heap.size 5 1 (.slice A (b.take (b.length - 4)).length c) (b.take (b.length - 4)).length _
      rw [hn]
      exact ho
    | false =>
      rw [hc] at he her ho
      simp only [Bool.false_eq_true, ↓reduceIte, List.take_zero] at he her ho
      obtain rfl := her
      have e0 : sumS b = ([], 7) := by unfold sumS; rw [if_neg h4, if_neg (by rw [hc]; simp)]
      unfold Ans
      rw [e0]
      exact ⟨A, c, he, ho, hb⟩
end Go.Proofs.YthkccpemgmpadaaGreatDoor

/- only Z -/
namespace Go.Proofs.YthkccpemgmpadaaGreatDoor
set_option maxRecDepth 100000
open Go.RowKit
theorem openS_long {s : St} {b : List UInt8} (h : 131072 < b.length) : openS s b = ([], 3) := by unfold openS; rw [if_pos h]
set_option maxHeartbeats 1000000 in
theorem Open_long' (lo : Nat) (s : St) (v : Value) (b : List UInt8) (w : World) (h : Bs lo w.heap.size w v b) (hl : 131072 < b.length) :
    Calls Tryz.prog 9 #[stV s, v] w (Ans (openS s b) w) := by
  rw [openS_long hl]
  obtain ⟨A, c, rfl⟩ := h.form
  have hk : (131072 : Int) < (b.length : Int) := by omega
  generalize b.length = m at *
  clear h hl
  go_enter Tryz.func9, Tryz.ntmps9
  go_wp2_with fail
  go_ret2
  exact Ans.none rfl rfl (bl_alloc (Below.refl _ _) _)
set_option maxHeartbeats 1000000 in
theorem rOpen_long (lo : Nat) (s : St) (v : Value) (b : List UInt8) (w : World) (h : Bs lo w.heap.size w v b) (hl : 131072 < b.length) :
    Calls Tryz.prog 10 #[stV s, v] w (Ans (openS s b) w) := by
  rw [openS_long hl]
  obtain ⟨A, c, rfl⟩ := h.form
  have hk : (131072 : Int) < (b.length : Int) := by omega
  generalize b.length = m at *
  clear h hl
  go_enter Tryz.func10, Tryz.ntmps10
  go_wp2_with fail
  go_ret2
  exact Ans.none rfl rfl (bl_alloc (Below.refl _ _) _)
theorem sumS_le (b : List UInt8) : (sumS b).1.length ≤ b.length := by
  unfold sumS
  split
  · simp
  · split
    · simp only [List.length_take]; omega
    · simp
section
variable (s : St) (v : Value) (b : List UInt8) (w : World) (h : Bs 0 w.heap.size w v b) (hl : b.length ≤ 60000)
set_option maxHeartbeats 1000000 in
include h hl in
theorem rOpen_1 (h1 : (sumS b).2 ≠ 0) : Calls Tryz.prog 10 #[stV s, v] w (Ans (openS s b) w) := by
  have hA := fun W (hb : Below w.heap.size w W) => ropen_u 0 v b W (h.to hb) (by omega)
  have hR : openS s b = ([], (sumS b).2) := by unfold openS; rw [if_neg (by omega), if_pos h1]
  rw [hR]
  have hk : ¬ (131072 : Int) < (b.length : Int) := by omega
  obtain ⟨A, c, rfl⟩ := h.form
  unfold Ans at hA
  generalize sumS b = R1 at *
  obtain ⟨T1, e1⟩ := R1
  simp only [] at hA h1 ⊢
  have k1 : (e1 == 0) = false := by simpa using h1
  generalize b.length = m at *
  generalize T1.length = m1 at *
  replace hA := hide hA
  clear hR h hl h1
  go_enter Tryz.func10, Tryz.ntmps10
  go_wp2_with (first
    | (go_at_call 24; refine (unhide hA _ (bl_alloc (Below.refl _ _) _)).mono ?_; rintro e w3 ⟨A3, c3, rfl, _, hb3⟩
       have b3 := hide (bl_call (bl_alloc (Below.refl _ _) _) hb3)
       clear hb3)
    | fail)
  go_ret2
  exact Ans.none rfl rfl (unhide b3)
set_option maxHeartbeats 1000000 in
include h hl in
theorem rOpen_2 (h1 : (sumS b).2 = 0) (h2 : (sumS b).1.length < 24) : Calls Tryz.prog 10 #[stV s, v] w (Ans (openS s b) w) := by
  have hA := fun W (hb : Below w.heap.size w W) => ropen_u 0 v b W (h.to hb) (by omega)
  have hB := fun v1 W (h3 : Bs 0 W.heap.size W v1 (sumS b).1) => FromR_short 0 v1 (sumS b).1 W h3 h2
  have hi : innerS s (sumS b).1 = ([], 2) := by unfold innerS; rw [if_pos h2]
  have hR : openS s b = ([], 2) := by unfold openS; rw [if_neg (by omega), if_neg (by rw [h1]; simp), hi, if_pos (by decide)]
  rw [hR]
  have hk : ¬ (131072 : Int) < (b.length : Int) := by omega
  obtain ⟨A, c, rfl⟩ := h.form
  unfold Ans at hA
  generalize sumS b = R1 at *
  obtain ⟨T1, e1⟩ := R1
  simp only [] at hA hB h1 h2 ⊢
  subst h1
  generalize b.length = m at *
  generalize hm1 : T1.length = m1 at *
  replace hA := hide hA; replace hB := hide hB
  clear hR h hl h2 hi hm1
  go_enter Tryz.func10, Tryz.ntmps10
  go_wp2_with (first
    | (go_at_call 24; refine (unhide hA _ (bl_alloc (Below.refl _ _) _)).mono ?_; rintro e w3 ⟨A3, c3, rfl, o3, hb3⟩
       have b3 := hide (bl_call (bl_alloc (Below.refl _ _) _) hb3)
       have y3 := hide (Bs.of_own0 o3)
       clear hb3 o3)
    | (go_at_call 25; refine (unhide hB _ _ (unhide y3)).mono ?_; rintro e w4 ⟨rfl, hb4⟩
       have b4 := hide (bl_call (unhide b3) hb4)
       clear hb4)
    | fail)
  go_ret2
  exact Ans.none rfl rfl (bl_alloc (unhide b4) _)
set_option maxHeartbeats 2000000 in
include h hl in
theorem rOpen_3 (h1 : (sumS b).2 = 0) (h2 : 24 ≤ (sumS b).1.length) : Calls Tryz.prog 10 #[stV s, v] w (Ans (openS s b) w) := by
  have hA := fun W (hb : Below w.heap.size w W) => ropen_u 0 v b W (h.to hb) (by omega)
  have hle := sumS_le b
  have hB := fun v1 W (h3 : Bs 0 W.heap.size W v1 (sumS b).1) => FromR_good v1 (sumS b).1 W h3 h2 (by omega)
  have hi : innerS s (sumS b).1 = (if sameS (tagF s (fromF (sumS b).1).n (fromF (sumS b).1).text) (fromF (sumS b).1).tag = true then (hidF s (fromF (sumS b).1).n (fromF (sumS b).1).text, 0) else ([], 8)) := by unfold innerS; rw [if_neg (by omega), if_neg (by omega)]
  have hx : (fromF (sumS b).1).text.length ≤ 65536 := by show ((sumS b).1.drop 24).length ≤ _; rw [List.length_drop]; omega
  have hO := fun v2 W (h4 : Bs 0 W.heap.size W v2 (fromF (sumS b).1).text) => OpenR_any s (fromF (sumS b).1).n v2 (fromF (sumS b).1).text (fromF (sumS b).1).tag W h4 hx
  have hU := fun v3 W (h5 : Bs 0 W.heap.size W v3 (hidF s (fromF (sumS b).1).n (fromF (sumS b).1).text)) => rUnpack_u 0 v3 _ W h5 (by rw [hid_len]; omega)
  have hH := hid_len s (fromF (sumS b).1).n (fromF (sumS b).1).text
  have hR : openS s b = if (innerS s (sumS b).1).2 ≠ 0 then ([], (innerS s (sumS b).1).2) else unpU (innerS s (sumS b).1).1 := by unfold openS; rw [if_neg (by omega), if_neg (by rw [h1]; simp)]
  rw [hR, hi]
  have hk : ¬ (131072 : Int) < (b.length : Int) := by omega
  obtain ⟨A, c, rfl⟩ := h.form
  unfold Ans at hA
  generalize sumS b = R1 at *
  obtain ⟨T1, e1⟩ := R1
  simp only [] at hA hB hO hU hH h1 h2 hx ⊢
  subst h1
  generalize hidF s (fromF T1).n (fromF T1).text = Hd at *
  generalize tagF s (fromF T1).n (fromF T1).text = Tg at *
  generalize fromF T1 = xx at *
  obtain ⟨xn, xl, xt⟩ := xx
  simp only [] at hB hO hH hx ⊢
  generalize b.length = m at *
  generalize hm1 : T1.length = m1 at *
  have X0 : Fx w (w.alloc (.cells (stC s) 24)) [(w.heap.size, 24, stC s)] [] [] := (Fx.nil w).newB w.heap.size rfl (stC s) 24
  cases hz : sameS Tg xt with
  | true =>
    rw [hz] at hO
    simp only [↓reduceIte] at hO ⊢
    rw [if_neg (by simp)]
    have hN := unp_err Hd
    unfold Ans at hU
    generalize unpU Hd = R3 at *
    obtain ⟨T3, e3⟩ := R3
    simp only [] at hU hN ⊢
    obtain ⟨m3, hm3⟩ : ∃ m3, T3.length = m3 := ⟨_, rfl⟩
    rw [hm3] at hU
    generalize xl.length = mx at *
    replace X0 := hide X0; replace hA := hide hA; replace hB := hide hB; replace hO := hide hO; replace hU := hide hU; replace hm3 := hide hm3
    clear hR h hl h2 hi hm1 hle hx hH hz hN
    go_enter Tryz.func10, Tryz.ntmps10
    go_upto_region 1 with (fail)
    generalize hW : World.alloc w _ = W at *
    clear hW
    go_wp2_with (first
      | (go_at_call 24; refine (unhide hA _ (unhide X0).bl).mono ?_; rintro e w3 ⟨A3, c3, rfl, o3, hb3⟩
         have X3 := hide (((unhide X0).call hb3).addZ (Bs.of_own0 o3))
         clear hb3 o3)
      | (go_at_call 25; refine (unhide hB _ _ ((unhide X3).rd 0 rfl)).mono ?_; rintro e w4 ⟨A4, c4, rfl, o4, hb4⟩
         have X4 := ((unhide X3).call hb4).addZ (Bs.of_own0 o4)
         have c00 : w4.cell? ⟨w.heap.size, 0, none⟩ = some (u32v s.a) := (X4.get 0 rfl).cell 0
         have c01 : w4.cell? ⟨w.heap.size, 1, none⟩ = some (u32v s.b) := (X4.get 0 rfl).cell 1
         have c02 : w4.cell? ⟨w.heap.size, 2, none⟩ = some (u32v s.c) := (X4.get 0 rfl).cell 2
         have c03 : w4.cell? ⟨w.heap.size, 3, none⟩ = some (u32v s.d) := (X4.get 0 rfl).cell 3
         have lt4 : w.heap.size < w4.heap.size := (X4.get 0 rfl).lt
         replace X4 := hide X4
         clear hb4 o4)
      | (go_at_call 26; refine (unhide hO _ _ (((unhide X4).alloc _).rd 1 rfl)).mono ?_; rintro e w5 ⟨⟨A5, c5, rfl, o5⟩, hb5⟩
         have b5 := hide (((unhide X4).alloc _).call hb5).bl
         have y5 := hide (Bs.of_own0 o5)
         clear hb5 o5)
      | (go_at_call 27; refine (unhide hU _ _ (unhide y5)).mono ?_; rintro e w6 ⟨A6, c6, rfl, o6, hb6⟩
         have o6' := hide (ownsRow_mono (base' := w.heap.size) o6 (unhide b5).size)
         have b6 := hide (bl_call (unhide b5) hb6)
         clear o6 hb6)
      | fail)
    go_ret2
    unfold Ans
    exact ⟨A6, c6, by simp only [unhide hm3]; rfl, by have := unhide o6'; rw [← unhide hm3] at this; exact this, unhide b6⟩
  | false =>
    rw [hz] at hO
    simp only [Bool.false_eq_true, ↓reduceIte] at hO ⊢
    generalize xl.length = mx at *
    replace X0 := hide X0; replace hA := hide hA; replace hB := hide hB; replace hO := hide hO
    clear hR h hl h2 hi hm1 hle hx hH hz hU
    go_enter Tryz.func10, Tryz.ntmps10
    go_upto_region 1 with (fail)
    generalize hW : World.alloc w _ = W at *
    clear hW
    go_wp2_with (first
      | (go_at_call 24; refine (unhide hA _ (unhide X0).bl).mono ?_; rintro e w3 ⟨A3, c3, rfl, o3, hb3⟩
         have X3 := hide (((unhide X0).call hb3).addZ (Bs.of_own0 o3))
         clear hb3 o3)
      | (go_at_call 25; refine (unhide hB _ _ ((unhide X3).rd 0 rfl)).mono ?_; rintro e w4 ⟨A4, c4, rfl, o4, hb4⟩
         have X4 := ((unhide X3).call hb4).addZ (Bs.of_own0 o4)
         have c00 : w4.cell? ⟨w.heap.size, 0, none⟩ = some (u32v s.a) := (X4.get 0 rfl).cell 0
         have c01 : w4.cell? ⟨w.heap.size, 1, none⟩ = some (u32v s.b) := (X4.get 0 rfl).cell 1
         have c02 : w4.cell? ⟨w.heap.size, 2, none⟩ = some (u32v s.c) := (X4.get 0 rfl).cell 2
         have c03 : w4.cell? ⟨w.heap.size, 3, none⟩ = some (u32v s.d) := (X4.get 0 rfl).cell 3
         have lt4 : w.heap.size < w4.heap.size := (X4.get 0 rfl).lt
         replace X4 := hide X4
         clear hb4 o4)
      | (go_at_call 26; refine (unhide hO _ _ (((unhide X4).alloc _).rd 1 rfl)).mono ?_; rintro e w5 ⟨rfl, hb5⟩
         have b5 := hide (((unhide X4).alloc _).call hb5).bl
         clear hb5)
      | fail)
    go_ret2
    exact Ans.none rfl rfl (unhide b5)
include h hl in
theorem rOpen_any : Calls Tryz.prog 10 #[stV s, v] w (Ans (openS s b) w) := by
  by_cases h1 : (sumS b).2 = 0
  · by_cases h2 : (sumS b).1.length < 24
    · exact rOpen_2 s v b w h hl h1 h2
    · exact rOpen_3 s v b w h hl h1 (by omega)
  · exact rOpen_1 s v b w h hl h1
end
end Go.Proofs.YthkccpemgmpadaaGreatDoor

namespace Go.Proofs.YthkccpemgmpadaaGreatDoor
set_option maxRecDepth 100000
open Go.RowKit
theorem same_yes (lo hi lo' hi' : Nat) (v1 v2 : Value) (a : List UInt8) (w : World) (h1 : Bs lo hi w v1 a) (h2 : Bs lo' hi' w v2 a) : Calls Tryz.prog 11 #[v1, v2] w fun e w' => e = .returned (.bool true) ∧ w = w' := by
  have := same_any lo hi lo' hi' v1 v2 a a w h1 h2
  rwa [decide_eq_true rfl] at this
end Go.Proofs.YthkccpemgmpadaaGreatDoor

namespace Go.Proofs.YthkccpemgmpadaaGreatDoor
set_option maxRecDepth 100000
open Go.RowKit Go.ChangeShapes Go.WideShapes Go.ChangeAt Go.Deep Go.Joins
section
variable {H : Type} {enc : TypeId × Value → H} {w : World} {base : Nat} {spare : Nat → Bool} {held : Bool}
theorem open_list2 {r : Reach} {b0 : Nat} {v : Value} {d : DataW H} {p : List MemPlace} (hv : Value.okWide Tryz.prog w r b0 28 v) (h : DataW.Trod enc Tryz.prog w base spare held 28 v d p) : ∃ l, Bss w.heap.size w v l ∧ (l.length : Int) ≤ 9223372036854775807 := by
  obtain ⟨a1, n1, c1, rfl⟩ := okWide_slice Tryz.underlying28 hv
  obtain ⟨fuel, hf⟩ := h
  have hcs : (Value.slice a1 n1 c1).cells.toList = [.slice a1 n1 c1] := rfl
  rw [hcs] at hf
  rcases open_slice Tryz.underlying28 hf with ⟨e, _⟩ | ⟨a, len, cap, m, n, D, Pl, e, _, hl, hm, hmm, _, hel⟩
  · simp only [List.cons.injEq, and_true] at e
    injection e with e1 e2 e3
    subst e1 e2 e3
    exact ⟨[], ⟨none, 0, rfl, fun i x hx => by simp at hx⟩, by simp⟩
  · simp only [List.cons.injEq, and_true] at e
    injection e with e1 e2 e3
    subst e1 e2 e3
    have hml : n1 ≤ m := by rw [hmm]; split <;> omega
    have key : ∀ i, i < n1 → ∃ x : List UInt8, ∃ Ai ci, w.cell? (a.add (i * 1)) = some (.slice Ai x.length ci) ∧ Bs 0 w.heap.size w (.slice Ai x.length ci) x := by
      intro i hil
      obtain ⟨cs', hcs', ht'⟩ := hel i (by omega)
      rw [cells28] at hcs'
      obtain ⟨_, hcl, hat⟩ := World.cells?_some hcs'
      obtain ⟨Ai, ci, x, ex, hb⟩ := open_bs Tryz.underlying29 Tryz.underlying5 cells5 ht'
      have hc0 := hat 0 (by omega)
      subst ex
      refine ⟨x, Ai, ci, ?_, hb⟩
      have h0 : ∀ q : Addr, q.add 0 = q := fun q => by unfold Addr.add; rw [if_pos rfl]
      rw [h0] at hc0
      simpa using hc0
    let g : Nat → List UInt8 := fun i => if hi : i < n1 then (key i hi).choose else []
    have hg : ∀ i, i < n1 → ∃ Ai ci, w.cell? (a.add (i * 1)) = some (.slice Ai (g i).length ci) ∧ Bs 0 w.heap.size w (.slice Ai (g i).length ci) (g i) := fun i hi => by
      have := (key i hi).choose_spec
      simp only [g, hi, dif_pos]
      exact this
    have hll : ((List.range n1).map g).length = n1 := by simp
    refine ⟨(List.range n1).map g, ⟨some a, c1, by rw [hll], fun i x hx => ?_⟩, by rw [hll]; unfold maxLen at hm; omega⟩
    have hi : i < n1 := by
      have := (List.getElem?_eq_some_iff.1 hx).1
      rwa [hll] at this
    have hxg : x = g i := by
      rw [List.getElem?_map, List.getElem?_range hi] at hx
      exact (Option.some.inj hx).symm
    subst hxg
    obtain ⟨Ai, ci, hc, hb⟩ := hg i hi
    obtain ⟨b, off, spot⟩ := a
    obtain rfl : spot = none := by
      obtain ⟨A0, c0, hc0, _⟩ := hg 0 (by omega)
      rw [Nat.zero_mul] at hc0
      exact spot_none hc0
    rw [add_none, Nat.mul_one] at hc
    exact ⟨b, off, Ai, ci, rfl, World.block_lt_of_cell? w _ hc, hc, hb⟩
end
end Go.Proofs.YthkccpemgmpadaaGreatDoor
