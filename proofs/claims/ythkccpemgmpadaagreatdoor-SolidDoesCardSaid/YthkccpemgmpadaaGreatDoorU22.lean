import Derived.Test.YthkccpemgmpadaaGreatDoorU21
import Derived.Laws.StructEq
namespace Go.Proofs.YthkccpemgmpadaaGreatDoor.P
set_option maxRecDepth 100000
open Go.RowKit
theorem numB_flat (c : Int) (N k m : Nat) : ((numB c N k m).flatMap btc).length = k * 2 := by rw [flat_len btc_len, numB_len]
set_option maxHeartbeats 4000000 in
theorem refBits_good (lo : Nat) (v : Value) (l : List Tok) (w : World) (h : M.Tks lo w.heap.size w v l) (ho : M.okB l = true) :
    Calls Tryz.prog 64 #[v] w fun e w' => ∃ A c, e = .returned (.tuple #[.slice A (bitsF l).length c, .int .i64 0]) ∧ w'.ownsRow w.heap.size 121 2 (.slice A (bitsF l).length c) (bitsF l).length ((bitsF l).flatMap btc) ∧ Below w.heap.size w w' := by
  obtain ⟨i0, hi0, iz0, iz1, iz2⟩ := info_parts info51
  have hC := M.rCheck_any lo v l w h
  rw [ho] at hC
  replace hC : Calls Tryz.prog 99 #[v] w fun e w' => e = .returned (.int .i64 0) ∧ Below w.heap.size w w' := hC
  obtain ⟨hl, hok⟩ := M.okB_iff.1 ho
  obtain ⟨A, c, rfl, h1, h2, h3⟩ := h.open
  clear h ho
  replace hC := hide hC; replace h3 := hide h3; replace hok := hide hok; replace hl := hide hl
  go_enter Tryz.func64, Tryz.ntmps64
  go_wp2_with (first
    | (go_at_call 99; refine (unhide hC).mono ?_; rintro e w1 ⟨rfl, hb1⟩; replace hb1 := hide hb1)
    | fail)
  go_loopw [4, 12] (fun s4 i wr => ∃ (k n c' : Nat) (A' : Option Addr), k ≤ l.length ∧ s4 = .slice A' n c' ∧ i = .int .i64 k ∧ Hid (n = (bitsF (l.take k)).length) ∧ Hid (wr.ownsRow w.heap.size 121 2 (.slice A' n c') n ((bitsF (l.take k)).flatMap btc)) ∧ Hid (Below w.heap.size w wr)) (fun _ i _ => l.length - (intOf i).toNat)
  case atStart => exact ⟨0, 0, 0, none, by omega, rfl, rfl, hide (by simp [bitsF]), hide (World.ownsRow_nil _ _ _ _), hb1⟩
  case round =>
    obtain ⟨k, n, c', A', hk, rfl, rfl, hn, hw, hB⟩ := hrel
    by_cases hlt : k < l.length
    · obtain ⟨b, off, rfl, g1, g2, q0, q1, q2⟩ := unhide h3 k hlt
      have c0 := ((unhide hB).cell (p := ⟨b, off + k * 3, none⟩) g2).trans q0
      have c1 := ((unhide hB).cell (p := ⟨b, off + k * 3 + 1, none⟩) g2).trans q1
      have c2 := ((unhide hB).cell (p := ⟨b, off + k * 3 + 2, none⟩) g2).trans q2
      have hs := bitsF_snoc hlt
      obtain ⟨hot, _⟩ := okL_get hlt (unhide hok)
      have hnn := bitsF_take_len (unhide hok) (unhide hl) k
      rw [← unhide hn] at hnn
      have hn2 : n + (tokB l[k]).length = (bitsF (l.take (k + 1))).length := by rw [hs, List.length_append, unhide hn]
      have hsz := (unhide hB).size
      generalize l[k] = t at *
      obtain ⟨T1, hT1⟩ : ∃ T1, T1 = bitsF (l.take k) := ⟨_, rfl⟩
      obtain ⟨T2, hT2⟩ : ∃ T2, T2 = bitsF (l.take (k + 1)) := ⟨_, rfl⟩
      rw [← hT1] at hw hs
      rw [← hT2] at hs hn2
      have u1 : n + 1 ≤ maxLen := by simp only [maxLen]; omega
      have u2 : (n + 1) * 16 ≤ 140737488355328 := by omega
      replace hT2 := hide hT2; replace hsz := hide hsz; replace u1 := hide u1; replace u2 := hide u2
      clear hn hT1 q0 q1 q2 g1 g2
      by_cases h0 : t.len = 0
      · have hT : tokB t = ⟨0, false⟩ :: numB 0 t.lit.toNat 8 1 := by unfold tokB; rw [if_pos h0, h0]; rfl
        have hlen : (tokB t).length = 1 + 8 := by rw [hT]; simp [numB_len]
        rw [hlen] at hn2
        have hx8 : t.lit.toNat < 256 := t.lit.toNat_lt
        have hP := fun (W : World) => refNum_any t.lit.toNat 8 0 W (by omega) (by omega)
        have hfl := bt_snoc T1 ⟨0, false⟩
        have hto := btc_one ⟨0, false⟩
        have hnl := numB_flat 0 t.lit.toNat 8 1
        have hno := flat_one btc_one (numB 0 t.lit.toNat 8 1)
        have hfa : (T1 ++ [(⟨0, false⟩ : Bit)]).flatMap btc ++ (numB 0 t.lit.toNat 8 1).flatMap btc = T2.flatMap btc := by rw [hs, hT, ← List.flatMap_append]; simp
        have u3 : n + 1 + 8 ≤ maxLen := by simp only [maxLen]; omega
        have u4 : (n + 1 + 8) * 16 ≤ 140737488355328 := by omega
        obtain ⟨x, tl, td⟩ := t
        simp only [] at h0 hP c0 c1 c2 hx8 hnl hno hfa
        subst h0
        replace c0 : wr.cell? ⟨b, off + k * 3, none⟩ = some (.int .u8 ((x.toNat : Nat) : Int)) := c0
        generalize x.toNat = V at *
        generalize numB 0 V 8 1 = Q at *
        replace hP := hide hP; replace hfl := hide hfl; replace hto := hide hto; replace hnl := hide hnl; replace hno := hide hno; replace hfa := hide hfa; replace u3 := hide u3; replace u4 := hide u4; replace hn2 := hide hn2
        have y0 : b < wr.heap.size := World.block_lt_of_cell? wr _ c0
        clear hs hot hT hlen hnn
        go_wp2_with (first
          | (at_builtin
             refine wpList_app _ rfl (.tmp 16) (.tmp 21) 85 rfl w.heap.size 121 i0 _ 2 16 Tryz.underlying85 hi0 iz0 iz1 iz2 rfl (Nat.succ_pos _) _ n (T1.flatMap btc) rfl (((unhide hw).alloc _).alloc _) (some ⟨wr.heap.size + 1, 0, none⟩) 1 1 (btc ⟨0, false⟩) rfl rfl (bt_src (x := ⟨0, false⟩) (Blk.new (by simp))) (unhide hto) (unhide u1) (unhide u2) (by have := unhide hsz; simp; omega) ?_
             intro v2 w2 o2 hg2
             obtain ⟨A2, c2', rfl⟩ := ownsRow_form o2
             rw [unhide hfl] at o2
             have B2 : Below w.heap.size w w2 := (bl_alloc (bl_alloc (unhide hB) _) _).grown hg2 (by have := unhide hsz; simp; omega) (own_base (unhide hw))
             have k3 : Blk w2 wr.heap.size 79 #[.int .u8 (V : Int), .int .i64 0, .int .i64 td] := ((Kept.refl 121 _).alloc _).grown (((unhide hw).alloc _).alloc _) hg2 _ 79 _ (by decide) (Blk.new rfl)
             have q0 := k3.cell 0
             have q1 := k3.cell 1
             have y1 := k3.lt
             simp at q0 q1
             replace B2 := hide B2; replace k3 := hide k3; replace o2 := hide o2)
          | (go_at_call 100; refine (unhide hP _).mono ?_; rintro e w3 ⟨A3, c3, rfl, o3, hb3⟩
             have s3 := (Rd.src btc_len (Rd.of_own btc_len (by omega) o3)).2
             have o4 := own_below (unhide o2) hb3 (Nat.le_refl _)
             have B3 := bl_call (unhide B2) hb3
             have z3 := B3.size
             replace s3 := hide s3; replace o4 := hide o4; replace B3 := hide B3; replace z3 := hide z3
             clear o2 o3 q0 q1 y1)
          | (at_builtin
             refine wpList_app _ rfl (.tmp 26) (.tmp 30) 85 rfl w.heap.size 121 i0 _ 2 16 Tryz.underlying85 hi0 iz0 iz1 iz2 rfl (Nat.succ_pos _) _ (n + 1) ((T1 ++ [(⟨0, false⟩ : Bit)]).flatMap btc) rfl (unhide o4) A3 8 c3 (Q.flatMap btc) rfl (unhide hnl) (unhide s3) (unhide hno) (unhide u3) (unhide u4) (unhide z3) ?_
             intro v5 w5 o5 hg5
             obtain ⟨A5, c5, rfl⟩ := ownsRow_form o5
             rw [unhide hfa] at o5
             have B5 := bl_grown (unhide B3) hg5 (own_base (unhide o4))
             replace o5 := hide o5; replace B5 := hide B5)
          | fail)
        go_roundw
        case rel => exact ⟨k + 1, n + 1 + 8, c5, A5, by omega, rfl, by go_num, hide (by rw [← unhide hT2, ← unhide hn2]), by rw [← unhide hT2]; exact o5, B5⟩
        case measure => simp [intOf]; omega
      · obtain ⟨l0, l1, l2, l3, l4⟩ := okT_len hot h0
        have hd : decide (0 < t.len) = true := decide_eq_true (by omega)
        have hT : tokB t = ⟨0, true⟩ :: (numB 256 (t.len - 3).toNat 4 1 ++ numB 272 (t.dist - 1).toNat 8 1) := by unfold tokB; rw [if_neg h0, hd]
        have hlen : (tokB t).length = 1 + 4 + 8 := by rw [hT]; simp [numB_len]
        rw [hlen] at hn2
        have hP := fun (W : World) => refNum_any (t.len - 3).toNat 4 256 W (by omega) (by omega)
        have hP2 := fun (W : World) => refNum_any (t.dist - 1).toNat 8 272 W (by omega) (by omega)
        rw [show (((t.len - 3).toNat : Nat) : Int) = t.len - 3 by omega] at hP
        rw [show (((t.dist - 1).toNat : Nat) : Int) = t.dist - 1 by omega] at hP2
        have hfl := bt_snoc T1 ⟨0, true⟩
        have hto := btc_one ⟨0, true⟩
        have hnl := numB_flat 256 (t.len - 3).toNat 4 1
        have hno := flat_one btc_one (numB 256 (t.len - 3).toNat 4 1)
        have hnl2 := numB_flat 272 (t.dist - 1).toNat 8 1
        have hno2 := flat_one btc_one (numB 272 (t.dist - 1).toNat 8 1)
        have hfa : (T1 ++ [(⟨0, true⟩ : Bit)]).flatMap btc ++ (numB 256 (t.len - 3).toNat 4 1).flatMap btc = (T1 ++ [(⟨0, true⟩ : Bit)] ++ numB 256 (t.len - 3).toNat 4 1).flatMap btc := by rw [← List.flatMap_append]
        have hfb : (T1 ++ [(⟨0, true⟩ : Bit)] ++ numB 256 (t.len - 3).toNat 4 1).flatMap btc ++ (numB 272 (t.dist - 1).toNat 8 1).flatMap btc = T2.flatMap btc := by rw [hs, hT, ← List.flatMap_append]; simp
        have u3 : n + 1 + 4 ≤ maxLen := by simp only [maxLen]; omega
        have u4 : (n + 1 + 4) * 16 ≤ 140737488355328 := by omega
        have u5 : n + 1 + 4 + 8 ≤ maxLen := by simp only [maxLen]; omega
        have u6 : (n + 1 + 4 + 8) * 16 ≤ 140737488355328 := by omega
        obtain ⟨x, tl, td⟩ := t
        simp only [] at h0 hP hP2 c0 c1 c2 hnl hno hfa hnl2 hno2 hfb l1 l2 l3 l4
        have h0' : (tl == 0) = false := by simpa using h0
        have h0g : 0 < tl := by omega
        replace c0 : wr.cell? ⟨b, off + k * 3, none⟩ = some (.int .u8 ((x.toNat : Nat) : Int)) := c0
        generalize x.toNat = V at *
        generalize numB 256 (tl - 3).toNat 4 1 = Q at *
        generalize numB 272 (td - 1).toNat 8 1 = Q2 at *
        replace hP := hide hP; replace hP2 := hide hP2; replace hfl := hide hfl; replace hto := hide hto; replace hnl := hide hnl; replace hno := hide hno; replace hfa := hide hfa; replace hnl2 := hide hnl2; replace hno2 := hide hno2; replace hfb := hide hfb; replace u3 := hide u3; replace u4 := hide u4; replace u5 := hide u5; replace u6 := hide u6; replace hn2 := hide hn2
        have y0 : b < wr.heap.size := World.block_lt_of_cell? wr _ c0
        clear hs hot hT hlen hnn hd l0
        have tkA : True := trivial
        go_wp2_with (first
          | (have _t := tkA; at_builtin; clear _t tkA
             refine wpList_app _ rfl (.tmp 16) (.tmp 21) 85 rfl w.heap.size 121 i0 _ 2 16 Tryz.underlying85 hi0 iz0 iz1 iz2 rfl (Nat.succ_pos _) _ n (T1.flatMap btc) rfl (((unhide hw).alloc _).alloc _) (some ⟨wr.heap.size + 1, 0, none⟩) 1 1 (btc ⟨0, true⟩) rfl rfl (bt_src (x := ⟨0, true⟩) (Blk.new (by simp))) (unhide hto) (unhide u1) (unhide u2) (by have := unhide hsz; simp; omega) ?_
             intro v2 w2 o2 hg2
             obtain ⟨A2, c2', rfl⟩ := ownsRow_form o2
             rw [unhide hfl] at o2
             have B2 : Below w.heap.size w w2 := (bl_alloc (bl_alloc (unhide hB) _) _).grown hg2 (by have := unhide hsz; simp; omega) (own_base (unhide hw))
             have k3 : Blk w2 wr.heap.size 79 #[.int .u8 (V : Int), .int .i64 tl, .int .i64 td] := ((Kept.refl 121 _).alloc _).grown (((unhide hw).alloc _).alloc _) hg2 _ 79 _ (by decide) (Blk.new rfl)
             have q1 := k3.cell 1
             have y1 := k3.lt
             simp at q1
             replace B2 := hide B2; replace k3 := hide k3; replace o2 := hide o2
             have tkB : True := trivial)
          | (have _t := tkB; go_at_call 100; clear _t tkB; refine (unhide hP _).mono ?_; rintro e w3 ⟨A3, c3, rfl, o3, hb3⟩
             have s3 := (Rd.src btc_len (Rd.of_own btc_len (by omega) o3)).2
             have o4 := own_below (unhide o2) hb3 (Nat.le_refl _)
             have B3 := bl_call (unhide B2) hb3
             have k4 := (unhide k3).below hb3 (unhide k3).lt
             have z3 := B3.size
             replace s3 := hide s3; replace o4 := hide o4; replace B3 := hide B3; replace z3 := hide z3; replace k4 := hide k4
             have tkC : True := trivial
             clear o2 o3 q1 y1 k3 B2)
          | (have _t := tkC; at_builtin; clear _t tkC
             refine wpList_app _ rfl (.tmp 32) (.tmp 36) 85 rfl w.heap.size 121 i0 _ 2 16 Tryz.underlying85 hi0 iz0 iz1 iz2 rfl (Nat.succ_pos _) _ (n + 1) ((T1 ++ [(⟨0, true⟩ : Bit)]).flatMap btc) rfl (unhide o4) A3 4 c3 (Q.flatMap btc) rfl (unhide hnl) (unhide s3) (unhide hno) (unhide u3) (unhide u4) (unhide z3) ?_
             intro v5 w5 o5 hg5
             obtain ⟨A5, c5, rfl⟩ := ownsRow_form o5
             rw [unhide hfa] at o5
             have B5 := bl_grown (unhide B3) hg5 (own_base (unhide o4))
             have k5 := (Kept.refl 121 _).grown (unhide o4) hg5 _ 79 _ (by decide) (unhide k4)
             have q2 := k5.cell 2
             have y2 := k5.lt
             simp at q2
             replace o5 := hide o5; replace B5 := hide B5
             have tkD : True := trivial
             clear o4 B3 k4 k5 z3 s3)
          | (have _t := tkD; go_at_call 100; clear _t tkD; refine (unhide hP2 _).mono ?_; rintro e w6 ⟨A6, c6, rfl, o6, hb6⟩
             have s6 := (Rd.src btc_len (Rd.of_own btc_len (by omega) o6)).2
             have o7 := own_below (unhide o5) hb6 (Nat.le_refl _)
             have B6 := bl_call (unhide B5) hb6
             have z6 := B6.size
             replace s6 := hide s6; replace o7 := hide o7; replace B6 := hide B6; replace z6 := hide z6
             have tkE : True := trivial
             clear o5 o6 q2 y2 B5)
          | (have _t := tkE; at_builtin; clear _t tkE
             refine wpList_app _ rfl (.tmp 38) (.tmp 42) 85 rfl w.heap.size 121 i0 _ 2 16 Tryz.underlying85 hi0 iz0 iz1 iz2 rfl (Nat.succ_pos _) _ (n + 1 + 4) ((T1 ++ [(⟨0, true⟩ : Bit)] ++ Q).flatMap btc) rfl (unhide o7) A6 8 c6 (Q2.flatMap btc) rfl (unhide hnl2) (unhide s6) (unhide hno2) (unhide u5) (unhide u6) (unhide z6) ?_
             intro v8 w8 o8 hg8
             obtain ⟨A8, c8, rfl⟩ := ownsRow_form o8
             rw [unhide hfb] at o8
             have B8 := bl_grown (unhide B6) hg8 (own_base (unhide o7))
             replace o8 := hide o8; replace B8 := hide B8)
          | fail)
        go_roundw
        case rel => exact ⟨k + 1, n + 1 + 4 + 8, c8, A8, by omega, rfl, by go_num, hide (by rw [← unhide hT2, ← unhide hn2]), by rw [← unhide hT2]; exact o8, B8⟩
        case measure => simp [intOf]; omega
    · obtain rfl : k = l.length := by omega
      rw [List.take_length] at hw hn
      go_wp2_with fail
      go_ret2
      rw [← unhide hn]
      exact ⟨_, _, rfl, unhide hw, unhide hB⟩
end Go.Proofs.YthkccpemgmpadaaGreatDoor.P

namespace Go.Proofs.YthkccpemgmpadaaGreatDoor.P
set_option maxRecDepth 100000
open Go.RowKit
set_option maxHeartbeats 2000000 in
theorem refPack_good (lo : Nat) (v : Value) (b : List UInt8) (w : World) (h : M.Bs lo w.heap.size w v b) (hl : b.length ≤ 1000) :
    Calls Tryz.prog 32 #[v] w fun e w' => ∃ A c, e = .returned (.tuple #[.slice A (packT b).length c, .int .i64 0]) ∧ w'.ownsRow w.heap.size 5 1 (.slice A (packT b).length c) (packT b).length ((packT b).flatMap byc) ∧ Below w.heap.size w w' := by
  obtain ⟨i0, hi0, iz0, iz1, iz2⟩ := info5'
  have hT := M.rTokens_any lo v b w h (by omega)
  have hbl := toksB_bitsLen b
  have hB := fun (v : Value) (W : World) (lo : Nat) (k : M.Tks lo W.heap.size W v (toksB b)) => refBits_good lo v (toksB b) W k (toksB_okB (by omega))
  have hE := fun (v : Value) (W : World) (lo : Nat) (k : Bts lo W.heap.size W v (bitsF (toksB b))) => refEncode_any 528 lo v (bitsF (toksB b)) W k (by omega)
  rw [toksB_bits (by omega)] at hE
  have hpl := packT_len (b := b) (by omega)
  have hen := (short_len (toksB_bits (b := b) (by omega))).2
  have hP : packT b = le4 b.length ++ encT 528 (bitsF (toksB b)) := rfl
  obtain ⟨A, c, rfl, h1, h2, _⟩ := h.open
  clear h
  generalize packT b = T at *
  generalize encT 528 (bitsF (toksB b)) = E at *
  generalize bitsF (toksB b) = bits at *
  generalize toksB b = ts at *
  generalize b.length = n at *
  have u1 : 4 + E.length ≤ maxLen := by simp only [maxLen]; omega
  have u2 : (4 + E.length) * 1 ≤ 140737488355328 := by omega
  have f1 : (E.flatMap byc).length = E.length * 1 := by rw [flat_len byc_len]
  have f2 := flat_one byc_one E
  have fa : (le4 (n : Int)).flatMap byc ++ E.flatMap byc = T.flatMap byc := by rw [hP, List.flatMap_append]
  have hTl : 4 + E.length = T.length := hpl.1.symm
  have d1 : (n : Int) / 16777216 % 256 = 0 := by omega
  have d2 : (n : Int) / 65536 = (n : Int) / 65536 % 256 := by omega
  have hfour : le4 (n : Int) = [(n : Int) % 256, (n : Int) / 256 % 256, (n : Int) / 65536, 0] := by unfold le4; rw [d1, ← d2]
  have hfo : ∀ (W : World) (g : Nat) (k : Blk W g 5 #[.int .u8 ((n : Int) % 256), .int .u8 ((n : Int) / 256 % 256), .int .u8 ((n : Int) / 65536), .int .u8 0]), W.ownsRow g 5 1 (.slice (some ⟨g, 0, none⟩) 4 4) 4 ((le4 (n : Int)).flatMap byc) := fun W g k => by
    rw [hfour]
    exact ⟨rfl, .inr ⟨g, 4, _, rfl, Nat.le_refl _, k, Nat.le_refl _, by simp [maxLen], rfl, rfl⟩⟩
  obtain ⟨EL, hEL⟩ : ∃ EL, EL = E.length := ⟨_, rfl⟩
  rw [← hEL] at hE u1 u2 f1 hTl
  have hn0 : (n : Int) ≤ 1000 := by omega
  replace hT := hide hT; replace hB := hide hB; replace hE := hide hE; replace u1 := hide u1; replace u2 := hide u2; replace f1 := hide f1; replace f2 := hide f2; replace fa := hide fa; replace hTl := hide hTl; replace hfo := hide hfo
  clear hP hpl hen hbl hl d1 d2 hfour hEL
  go_enter Tryz.func32, Tryz.ntmps32
  go_wp2_with (first
    | (go_at_call 63; refine (unhide hT).mono ?_; rintro e w1 ⟨A1, c1, rfl, o1, hb1⟩; replace hb1 := hide hb1; have t1 := hide (M.Tks.own o1); clear o1)
    | (go_at_call 64; refine (unhide hB _ _ _ (unhide t1)).mono ?_; rintro e w2 ⟨A2, c2, rfl, o2, hb2⟩; replace hb2 := hide (bl_call (unhide hb1) hb2); have t2 := hide (Rd.of_own btc_len (by omega) o2); clear o2)
    | (go_at_call 65; refine (unhide hE _ _ _ (unhide t2)).mono ?_; rintro e w3 ⟨A3, c3, rfl, o3, hb3⟩; replace hb3 := hide (bl_call (unhide hb2) hb3); have t3 := hide (Rd.of_own byc_len (by omega) o3); clear o3)
    | (at_builtin
       refine wpList_app _ rfl (.tmp 41) (.tmp 42) 29 rfl w3.heap.size 5 i0 _ 1 1 Tryz.underlying29 hi0 iz0 iz1 iz2 rfl (Nat.succ_pos _) _ 4 ((le4 (n : Int)).flatMap byc) rfl (unhide hfo _ _ (Blk.new rfl)) A3 EL c3 (E.flatMap byc) rfl (unhide f1) (Rd.src byc_len ((unhide t3).grow ((Below.refl _ _).alloc (Nat.le_refl _) _))).2 (unhide f2) (unhide u1) (unhide u2) (by simp) ?_
       intro v5 w5 o5 hg5
       obtain ⟨A5, c5, rfl⟩ := ownsRow_form o5
       rw [unhide fa] at o5)
    | fail)
  go_ret2
  rw [← unhide hTl]
  have hz := (unhide hb3).size
  exact ⟨_, _, rfl, ownsRow_mono o5 (by omega), bl_grown (bl_alloc (unhide hb3) _) hg5 (by intro k hk; simp [Act.eval, Value.ownBlock] at hk; omega)⟩
theorem bit_guard : Tryz.prog.eqGuardType Tryz.prog.depth 121 = false := by kernel_rfl
theorem run_eq_bit (a : Int) (p : Bool) (W : World) : (Op.equalIn 10000 121 (.agg #[.int .i64 a, .bool p]) (.agg #[.int .i64 a, .bool p])).run Tryz.prog W = .ok true W := by
  rw [run_equalIn_agg W 9999 121 _ _ (by kernel_rfl) (by kernel_rfl)]
  have e3 := fun (a b : Int) => run_equalIn_int W 9998 3 .i64 .i64 a b Tryz.underlying3
  have e4 := fun (a b : Bool) => run_equalIn_bool W 9998 4 a b Tryz.underlying4
  unfold Program.fieldsOf
  simp [Tryz.underlying121, Op.eqFields, part, e3, e4]
theorem run_neq_bit (a : Int) (p : Bool) (W : World) : (binOp .neq 121 (.agg #[.int .i64 a, .bool p]) (.agg #[.int .i64 a, .bool p])).run Tryz.prog W = .ok (.bool false) W := by
  rw [run_neq_struct, run_eq_bit]; rfl
attribute [-go_sem] run_eql_struct run_neq_struct
attribute [local go_sem] run_neq_bit bit_guard
end Go.Proofs.YthkccpemgmpadaaGreatDoor.P

namespace Go.Proofs.YthkccpemgmpadaaGreatDoor.P
set_option maxRecDepth 100000
open Go.RowKit
set_option maxHeartbeats 2000000 in
theorem refLong_any (lo : Nat) (v : Value) (t : List Int) (w : World) (hv : Os lo w.heap.size w v t) (ht : okB t) :
    Calls Tryz.prog 50 #[v] w fun e w' => e = .returned (.tuple #[.int .i64 (longR t).1, .int .i64 (longR t).2]) ∧ Below w.heap.size w w' := by
  obtain ⟨A, c, rfl, x1, x2, x3⟩ := hv.open
  by_cases h9 : t.length < 9
  · have hr : longR t = (0, 2) := by unfold longR; rw [if_pos (.inl h9)]
    rw [hr]
    clear hv x3
    have h9' : (t.length : Int) < 9 := by omega
    go_enter Tryz.func50, Tryz.ntmps50
    go_wp2_with fail
    go_ret2
    exact ⟨rfl, Below.refl _ _⟩
  · obtain ⟨b, off, rfl, y1, y2, q0⟩ := x3 0 (by omega)
    have qq : ∀ i (hi : i < t.length), w.cell? ⟨b, off + i, none⟩ = some (.int .u8 t[i]) := fun i hi => by
      obtain ⟨b', off', e, _, _, hc⟩ := x3 i hi
      injection e with e; injection e with e1 e2; subst e1 e2
      exact hc
    have q1 := qq 1 (by omega); have q2 := qq 2 (by omega); have q3 := qq 3 (by omega)
    rw [Nat.add_zero] at q0
    have hL : 9 ≤ (t.length : Int) := by omega
    have hr : longR t = if 65536 < longN t then (0, 2) else (longN t, 0) := by unfold longR; simp [h9]
    rw [hr, longN_get (by omega)]
    have y3 : b < w.heap.size := by omega
    obtain ⟨a0, b0⟩ := ht t[0] (List.getElem_mem _); obtain ⟨a1, b1⟩ := ht t[1] (List.getElem_mem _); obtain ⟨a2, b2⟩ := ht t[2] (List.getElem_mem _); obtain ⟨a3, b3⟩ := ht t[3] (List.getElem_mem _)
    generalize t[0] = o0 at *; generalize t[1] = o1 at *; generalize t[2] = o2 at *; generalize t[3] = o3 at *
    clear x3 qq hv ht hr
    by_cases hb : 65536 < o0 + 256 * o1 + 65536 * o2 + 16777216 * o3
    · rw [if_pos hb]
      go_enter Tryz.func50, Tryz.ntmps50
      go_wp2_with fail
      go_quiet (fail)
      go_wp2_with fail
      go_ret2
      exact ⟨rfl, M.below_drewN (Below.refl _ _) _⟩
    · rw [if_neg hb]
      go_enter Tryz.func50, Tryz.ntmps50
      go_wp2_with fail
      go_quiet (fail)
      go_wp2_with fail
      go_ret2
      exact ⟨rfl, M.below_drewN (Below.refl _ _) _⟩
end Go.Proofs.YthkccpemgmpadaaGreatDoor.P

namespace Go.Proofs.YthkccpemgmpadaaGreatDoor.P
set_option maxRecDepth 100000
open Go.RowKit
end Go.Proofs.YthkccpemgmpadaaGreatDoor.P

namespace Go.Proofs.YthkccpemgmpadaaGreatDoor.P
set_option maxRecDepth 100000
open Go.RowKit
abbrev rgc (A : Option Addr) (c : Nat) (r : Rdr) : Array Value := #[.slice A r.c.length c, .int .u32 r.span, .int .u32 r.code, .int .i64 r.used]
structure RgT (lo : Nat) (w : World) (v : Value) (r : Rdr) (t : List Int) : Prop where
  o : RgO lo w v r
  ok : OkR r
  used : r.used ≤ t.length
set_option maxHeartbeats 800000 in
theorem refTree_any (lo lo' k : Nat) (c : Int) (v v' : Value) (r : Rdr) (t : List Int) (w : World) (hlo : lo ≤ w.heap.size) (hv : RgT lo w v r t) (hv' : Os lo' w.heap.size w v' t) (ht : okB t) (hl : t.length ≤ 1000000) (hk : k ≤ 8) (hc : 0 ≤ c ∧ c ≤ 528) :
    Calls Tryz.prog 81 #[v, v', .int .i64 k, .int .i64 c] w fun e w' =>
      ((∃ m r' v2, treeR t c k 1 r = some (m, r') ∧ e = .returned (.tuple #[.int .i64 ((m : Int) - 2 ^ k), v2, .bool true]) ∧ RgT lo w' v2 r' t) ∨
       (treeR t c k 1 r = none ∧ ∃ (B : Option Addr) (cB : Nat) (r1 : Rdr), e = .returned (.tuple #[.int .i64 0, .agg (rgc B cB r1), .bool false]))) ∧ Below w.heap.size w w' := by
  have hN := fun (i : Int) (r : Rdr) (A : Option Addr) (cA : Nat) (W : World) (h : W.ownsRow lo 3 1 (.slice A r.c.length cA) r.c.length (r.c.flatMap ivc)) (hb : Below w.heap.size w W) (ho : OkR r) (hu : r.used ≤ t.length) => refNext_any lo lo' i (.agg (rgc A cA r)) v' r t W (Nat.le_trans hlo hb.size) ⟨A, cA, rfl, h⟩ (hv'.grow hb) ho ht hl hu
  unfold rgc at hN
  obtain ⟨⟨A, cA, rfl, hI⟩, hok, hus⟩ := hv
  have hk2 : (1 : Int) * 2 ^ k ≤ 256 := by
    have : 2 ^ k ≤ 2 ^ 8 := Nat.pow_le_pow_right (by omega) hk
    have h2 : ((2 ^ k : Nat) : Int) ≤ 256 := by omega
    simpa using h2
  obtain ⟨g4, hg4⟩ : ∃ g4, g4 = w.heap.size := ⟨_, rfl⟩
  obtain ⟨g9, hg9⟩ : ∃ g9, g9 = w.heap.size + 1 := ⟨_, rfl⟩
  have K4 : Blk ((w.alloc (.cells #[.slice A r.c.length cA, .int .u32 r.span, .int .u32 r.code, .int .i64 r.used] 74)).alloc (.cells #[.slice none 0 0, .int .u32 0, .int .u32 0, .int .i64 0] 74)) g4 74 #[.slice A r.c.length cA, .int .u32 r.span, .int .u32 r.code, .int .i64 r.used] := (Blk.new hg4).alloc _
  have K9 : Blk ((w.alloc (.cells #[.slice A r.c.length cA, .int .u32 r.span, .int .u32 r.code, .int .i64 r.used] 74)).alloc (.cells #[.slice none 0 0, .int .u32 0, .int .u32 0, .int .i64 0] 74)) g9 74 #[.slice none 0 0, .int .u32 0, .int .u32 0, .int .i64 0] := Blk.new (by rw [hg9]; simp)
  have I1 := (hI.alloc (.cells #[.slice A r.c.length cA, .int .u32 r.span, .int .u32 r.code, .int .i64 r.used] 74)).alloc (.cells #[.slice none 0 0, .int .u32 0, .int .u32 0, .int .i64 0] 74)
  have B1 : Below w.heap.size w ((w.alloc (.cells #[.slice A r.c.length cA, .int .u32 r.span, .int .u32 r.code, .int .i64 r.used] 74)).alloc (.cells #[.slice none 0 0, .int .u32 0, .int .u32 0, .int .i64 0] 74)) := bl_alloc (bl_alloc (Below.refl _ _) _) _
  have hg4' : w.heap.size ≤ g4 := by omega
  have hg9' : w.heap.size ≤ g9 := by omega
  have hgn : g4 ≠ g9 := by omega
  replace hN := hide hN; replace hok := hide hok; replace hus := hide hus; replace K4 := hide K4; replace K9 := hide K9; replace I1 := hide I1; replace B1 := hide B1; replace hg4' := hide hg4'; replace hg9' := hide hg9'; replace hgn := hide hgn
  have ht0 := ht
  clear hI hv' ht hl
  go_enter Tryz.func81, Tryz.ntmps81
  go_wp2_with fail
  rw [← hg9, ← hg4]
  clear hg4 hg9 hlo
  go_loopw [11, 16] (fun s11 i wr => ∃ (j m cB : Nat) (r1 : Rdr) (B : Option Addr), j ≤ k ∧ s11 = .int .i64 m ∧ i = .int .i64 j ∧ Hid (m < 2 ^ (j + 1)) ∧ 1 ≤ m ∧ m < 1024 ∧ Hid (treeR t c k 1 r = treeR t c (k - j) m r1) ∧ Hid (Blk wr g4 74 #[.slice B r1.c.length cB, .int .u32 r1.span, .int .u32 r1.code, .int .i64 r1.used]) ∧ Hid (Blk wr g9 74 #[.slice none 0 0, .int .u32 0, .int .u32 0, .int .i64 0]) ∧ Hid (wr.ownsRow lo 3 1 (.slice B r1.c.length cB) r1.c.length (r1.c.flatMap ivc)) ∧ Hid (OkR r1) ∧ Hid (r1.used ≤ t.length) ∧ Hid (Below w.heap.size w wr)) (fun _ i _ => 8 - (intOf i).toNat)
  case atStart => exact ⟨0, 1, cA, r, A, by omega, rfl, rfl, hide (by decide), by omega, by omega, hide rfl, K4, K9, I1, hok, hus, B1⟩
  case round =>
    obtain ⟨j, m, cB, r1, B, hj, rfl, rfl, hm, hm1, hm2, hq, K, Kz, I, ho, hu, hB⟩ := hrel
    have y4 := (unhide K).lt
    have q0 := (unhide K).cell 0; have q1 := (unhide K).cell 1; have q2 := (unhide K).cell 2; have q3 := (unhide K).cell 3
    have f0 := (unhide K).frozen 0; have f1 := (unhide K).frozen 1; have f2 := (unhide K).frozen 2; have f3 := (unhide K).frozen 3
    have y9 := (unhide Kz).lt
    have z0 := (unhide Kz).cell 0; have z1 := (unhide Kz).cell 1; have z2 := (unhide Kz).cell 2; have z3 := (unhide Kz).cell 3
    have e0 := (unhide Kz).frozen 0; have e1 := (unhide Kz).frozen 1; have e2 := (unhide Kz).frozen 2; have e3 := (unhide Kz).frozen 3
    simp at q0 q1 q2 q3 z0 z1 z2 z3
    by_cases hlt : j < k
    · have hN1 := unhide hN (c + m) r1 B cB wr (unhide I) (unhide hB) (unhide ho) (unhide hu)
      have ha := fun h => nextR_next t r1 (c + m) h c (k - (j + 1)) m rfl
      have hb := fun h => nextR_stop t r1 (c + m) h c (k - (j + 1)) m rfl
      rw [show k - (j + 1) + 1 = k - j by omega] at ha hb
      have ho1 := nextR_ok (i := c + m) ht0 (unhide ho)
      have hu1 := nextR_used (i := c + m) (unhide hu)
      generalize nextR t r1 (c + m) = X at *
      obtain ⟨b, r2, er⟩ := X
      simp only [] at hN1 ha hb ho1 hu1
      replace hN1 := hide hN1
      replace ho1 := hide ho1; replace hu1 := hide hu1
      by_cases h0 : er = 0
      · subst h0
        replace ha := hide (ha rfl)
        clear hb z0 z1 z2 z3 e0 e1 e2 e3
        cases b with
        | true =>
          have hm3 : 2 * m + 1 < 2 ^ (j + 1 + 1) := by rw [Nat.pow_succ]; have := unhide hm; omega
          have hm4 : 2 * m + 1 < 1024 := by
            have : 2 ^ (j + 1 + 1) ≤ 2 ^ 9 := Nat.pow_le_pow_right (by omega) (by omega)
            omega
          replace hm3 := hide hm3
          go_wp2_with (first
            | (go_at_call 80; refine (unhide hN1).mono ?_; rintro e w1 ⟨v2, rfl, ⟨A2, c2, rfl, o2⟩, hb1⟩
               have k4 := (unhide K).below hb1 (unhide K).lt
               have k9 := (unhide Kz).below hb1 (unhide Kz).lt
               have y4' := k4.lt
               have y9' := k9.lt
               have q0' := k4.cell 0; have q1' := k4.cell 1; have q2' := k4.cell 2; have q3' := k4.cell 3
               have f0' := k4.frozen 0; have f1' := k4.frozen 1; have f2' := k4.frozen 2; have f3' := k4.frozen 3
               simp at q0' q1' q2' q3'
               have g13 : g4 ≠ w1.heap.size := by omega
               have x2 := bl_call (unhide hB) hb1
               replace k4 := hide k4; replace k9 := hide k9; replace x2 := hide x2; replace o2 := hide o2; replace g13 := hide g13)
            | fail)
          go_roundw
          case rel => exact ⟨j + 1, 2 * m + 1, c2, r2, A2, by omega, by go_num, by go_num, hm3, by omega, hm4, hide (by rw [unhide hq, unhide ha]; rfl), hide ((unhide k4).set4.alloc _), hide ((set4_blk (unhide k9) (Ne.symm (unhide hgn))).alloc _), hide ((set4_own (unhide o2) (unhide k4) (by decide)).alloc _), ho1, hu1, hide (bl_alloc (set4_below (unhide x2) (unhide hg4')) _)⟩
          case measure => simp [intOf]; omega
        | false =>
          have hm3 : 2 * m + 0 < 2 ^ (j + 1 + 1) := by rw [Nat.pow_succ]; have := unhide hm; omega
          have hm4 : 2 * m + 0 < 1024 := by
            have : 2 ^ (j + 1 + 1) ≤ 2 ^ 9 := Nat.pow_le_pow_right (by omega) (by omega)
            omega
          replace hm3 := hide hm3
          go_wp2_with (first
            | (go_at_call 80; refine (unhide hN1).mono ?_; rintro e w1 ⟨v2, rfl, ⟨A2, c2, rfl, o2⟩, hb1⟩
               have k4 := (unhide K).below hb1 (unhide K).lt
               have k9 := (unhide Kz).below hb1 (unhide Kz).lt
               have y4' := k4.lt
               have y9' := k9.lt
               have q0' := k4.cell 0; have q1' := k4.cell 1; have q2' := k4.cell 2; have q3' := k4.cell 3
               have f0' := k4.frozen 0; have f1' := k4.frozen 1; have f2' := k4.frozen 2; have f3' := k4.frozen 3
               simp at q0' q1' q2' q3'
               have g13 : g4 ≠ w1.heap.size := by omega
               have x2 := bl_call (unhide hB) hb1
               replace k4 := hide k4; replace k9 := hide k9; replace x2 := hide x2; replace o2 := hide o2; replace g13 := hide g13)
            | fail)
          go_roundw
          case rel => exact ⟨j + 1, 2 * m + 0, c2, r2, A2, by omega, by go_num, by go_num, hm3, by omega, hm4, hide (by rw [unhide hq, unhide ha]; rfl), hide ((unhide k4).set4.alloc _), hide ((set4_blk (unhide k9) (Ne.symm (unhide hgn))).alloc _), hide ((set4_own (unhide o2) (unhide k4) (by decide)).alloc _), ho1, hu1, hide (bl_alloc (set4_below (unhide x2) (unhide hg4')) _)⟩
          case measure => simp [intOf]; omega
      · replace hb := hide (hb h0)
        clear ha
        have h0' : (er == 0) = false := by simpa using h0
        go_wp2_with (first
          | (go_at_call 80; refine (unhide hN1).mono ?_; rintro e w1 ⟨v2, rfl, ⟨A2, c2, rfl, o2⟩, hb1⟩
             have k4 := (unhide K).below hb1 (unhide K).lt
             have k9 := (unhide Kz).below hb1 (unhide Kz).lt
             have y4' := k4.lt
             have y9' := k9.lt
             have q0' := k4.cell 0; have q1' := k4.cell 1; have q2' := k4.cell 2; have q3' := k4.cell 3
             have f0' := k4.frozen 0; have f1' := k4.frozen 1; have f2' := k4.frozen 2; have f3' := k4.frozen 3
             simp at q0' q1' q2' q3'
             have z0' := k9.cell 0; have z1' := k9.cell 1; have z2' := k9.cell 2; have z3' := k9.cell 3
             have e0' := k9.frozen 0; have e1' := k9.frozen 1; have e2' := k9.frozen 2; have e3' := k9.frozen 3
             simp at z0' z1' z2' z3'
             replace k4 := hide k4; replace k9 := hide k9)
          | fail)
        go_region
        all_goals go_wp2_with fail
        all_goals
          refine ret_nx rfl g9 (.slice B r1.c.length cB) (.int .u32 r1.span) (.int .u32 r1.code) (.int .i64 r1.used) (.int .i64 0) (.bool false) rfl rfl rfl (((unhide k9).set4.alloc _).drew) rfl ?_
          exact ⟨.inr ⟨by rw [unhide hq]; exact unhide hb, B, cB, r1, rfl⟩, Below.drew (bl_alloc (set4_below (bl_call (unhide hB) hb1) (unhide hg9')) _)⟩
    · obtain rfl : j = k := by omega
      have hq2 : treeR t c j 1 r = some (m, r1) := by rw [unhide hq, Nat.sub_self]; rfl
      replace hq2 := hide hq2
      have hj8 : (j : Int) ≤ 8 := by omega
      have p0 : (0 : Int) ≤ 2 ^ j := Int.pow_nonneg (by omega)
      have p1 : wrap64 ((2 : Int) ^ j) = 2 ^ j := IntWalk.wrap64_in _ (by omega)
      have p2 : wrap64 ((m : Int) - 2 ^ j) = (m : Int) - 2 ^ j := IntWalk.wrap64_in _ (by omega)
      clear hq hlt hm
      go_wp2_with fail
      go_region
      all_goals go_wp2_with fail
      all_goals
        refine ret_nx rfl g9 (.slice B r1.c.length cB) (.int .u32 r1.span) (.int .u32 r1.code) (.int .i64 r1.used) (.int .i64 ((m : Int) - 2 ^ j)) (.bool true) rfl rfl rfl (by first | exact (unhide Kz).set4.drew | exact (unhide Kz).set4) rfl ?_
        exact ⟨.inl ⟨m, r1, _, unhide hq2, rfl, ⟨⟨B, cB, rfl, own_drew (set4_own (unhide I) (unhide Kz) (by decide))⟩, unhide ho, unhide hu⟩⟩, Below.drew (set4_below (unhide hB) (unhide hg9'))⟩
section
variable (lo lo' k : Nat) (c : Int) (v v' : Value) (r : Rdr) (t : List Int) (w : World) (hlo : lo ≤ w.heap.size) (hv : RgT lo w v r t) (hv' : Os lo' w.heap.size w v' t) (ht : okB t) (hl : t.length ≤ 1000000) (hk : k ≤ 8) (hc : 0 ≤ c ∧ c ≤ 528)
include hlo hv hv' ht hl hk hc in
theorem refTree_some (m : Nat) (r' : Rdr) (h : treeR t c k 1 r = some (m, r')) :
    Calls Tryz.prog 81 #[v, v', .int .i64 k, .int .i64 c] w fun e w' => ∃ A2 c2, e = .returned (.tuple #[.int .i64 ((m : Int) - 2 ^ k), .agg (rgc A2 c2 r'), .bool true]) ∧ w'.ownsRow lo 3 1 (.slice A2 r'.c.length c2) r'.c.length (r'.c.flatMap ivc) ∧ OkR r' ∧ r'.used ≤ t.length ∧ Below w.heap.size w w' :=
  (refTree_any lo lo' k c v v' r t w hlo hv hv' ht hl hk hc).mono fun e w' ⟨ho, hb⟩ => by
    rcases ho with ⟨m', r2, v2, h1, h2, ⟨⟨A2, c2, rfl, h4⟩, h5, h6⟩⟩ | ⟨h1, _⟩
    · rw [h] at h1
      injection h1 with h1
      injection h1 with e1 e2
      subst e1 e2
      exact ⟨A2, c2, h2, h4, h5, h6, hb⟩
    · rw [h] at h1; cases h1
include hlo hv hv' ht hl hk hc in
theorem refTree_none (h : treeR t c k 1 r = none) :
    Calls Tryz.prog 81 #[v, v', .int .i64 k, .int .i64 c] w fun e w' => ∃ (B : Option Addr) (cB : Nat) (r1 : Rdr), e = .returned (.tuple #[.int .i64 0, .agg (rgc B cB r1), .bool false]) ∧ Below w.heap.size w w' :=
  (refTree_any lo lo' k c v v' r t w hlo hv hv' ht hl hk hc).mono fun e w' ⟨ho, hb⟩ => by
    rcases ho with ⟨m', r2, v2, h1, _⟩ | ⟨_, B, cB, r1, h2⟩
    · rw [h] at h1; cases h1
    · exact ⟨B, cB, r1, h2, hb⟩
end
end Go.Proofs.YthkccpemgmpadaaGreatDoor.P

namespace Go.Proofs.YthkccpemgmpadaaGreatDoor.P
set_option maxRecDepth 100000
open Go.RowKit
theorem results_cct {fn : Func} {p q u : Tmp} {ty tz : TypeId} (h : fn.results = #[.cell p ty, .cell q tz, .tmp u]) (tmps : Array Value) (P : Program) (w : World) :
    (results fn tmps).run P w =
      ((asAddr (tmps.getD p undef)).run P w).andThen fun a w₁ => ((loadVar ty a).run P w₁).andThen fun v w₂ => ((asAddr (tmps.getD q undef)).run P w₂).andThen fun b w₃ => ((loadVar tz b).run P w₃).andThen fun y w₄ => .ok (.tuple #[v, y, tmps.getD u undef]) w₄ := by
  simp only [results, h]
  simp [Sem.run_bind, Result.andThen]
theorem ret_tok {fn : Func} {p q u : Tmp} {R : Ending → World → Prop} {a : Act} {w : World} (h : fn.results = #[.cell p 79, .cell q 74, .tmp u]) (g4 g5 : Nat) (x y z : Value) (a1 a2 a3 a4 : Value) (v : Value)
    (hp : a.tmps.getD p undef = .pointer (some ⟨g4, 0, none⟩)) (hq : a.tmps.getD q undef = .pointer (some ⟨g5, 0, none⟩)) (hu : a.tmps.getD u undef = v) (hg4 : Blk w g4 79 #[x, y, z]) (hg5 : Blk w g5 74 #[a1, a2, a3, a4]) (hd : a.defers = []) (hR : R (.returned (.tuple #[.agg #[x, y, z], .agg #[a1, a2, a3, a4], v])) w) : bodyPost Tryz.prog fn R .ret a w := by
  refine bodyPost_ret (v := .tuple #[.agg #[x, y, z], .agg #[a1, a2, a3, a4], v]) ?_ hd hR
  rw [results_cct h, hp, hq, hu]
  have hl := run_loadVar_row (P := Tryz.prog) w g4 79 79 #[x, y, z] (0, 0) _ hg4 Tryz.underlying79 rfl ((by kernel_rfl : (Tryz.prog.info? 79).map (·.size) = some 3))
  have hl2 := run_loadVar_row (P := Tryz.prog) w g5 74 74 #[a1, a2, a3, a4] (0, 0) _ hg5 Tryz.underlying74 rfl ((by kernel_rfl : (Tryz.prog.info? 74).map (·.size) = some 4))
  simp [asAddr, Result.andThen, hl, hl2]
structure Bx (g2 g4 g5 : Nat) (w0 w : World) (a b c d : Value) : Prop where
  k2 : Blk w g2 74 #[a, b, c, d]
  k4 : Blk w g4 79 #[.int .u8 0, .int .i64 0, .int .i64 0]
  k5 : Blk w g5 74 #[.slice none 0 0, .int .u32 0, .int .u32 0, .int .i64 0]
  below : Below w0.heap.size w0 w
  p2 : w0.heap.size ≤ g2
  p4 : w0.heap.size ≤ g4
  p5 : w0.heap.size ≤ g5
  n25 : g5 ≠ g2
  n24 : g4 ≠ g2
  n45 : g4 ≠ g5
section
variable {g2 g4 g5 : Nat} {w0 w w1 : World} {a b c d : Value}
theorem Bx.init (w : World) (a b c d : Value) :
    Bx w.heap.size (w.heap.size + 1) (w.heap.size + 2) w (((w.alloc (.cells #[a, b, c, d] 74)).alloc (.cells #[.int .u8 0, .int .i64 0, .int .i64 0] 79)).alloc (.cells #[.slice none 0 0, .int .u32 0, .int .u32 0, .int .i64 0] 74)) a b c d :=
  ⟨((Blk.new rfl).alloc _).alloc _, (Blk.new (by simp)).alloc _, Blk.new (by simp), bl_alloc (bl_alloc (bl_alloc (Below.refl _ _) _) _) _, by omega, by omega, by omega, by omega, by omega, by omega⟩
theorem Bx.call (h : Bx g2 g4 g5 w0 w a b c d) (hb : Below w.heap.size w w1) : Bx g2 g4 g5 w0 w1 a b c d :=
  ⟨h.k2.below hb h.k2.lt, h.k4.below hb h.k4.lt, h.k5.below hb h.k5.lt, bl_call h.below hb, h.p2, h.p4, h.p5, h.n25, h.n24, h.n45⟩
theorem Bx.put (h : Bx g2 g4 g5 w0 w a b c d) (x y z u : Value) :
    Bx g2 g4 g5 w0 ((((w.setCell ⟨g2, 0, none⟩ x).setCell ⟨g2, 1, none⟩ y).setCell ⟨g2, 2, none⟩ z).setCell ⟨g2, 3, none⟩ u) x y z u :=
  ⟨h.k2.set4, set4_blk h.k4 h.n24, set4_blk h.k5 h.n25, set4_below h.below h.p2, h.p2, h.p4, h.p5, h.n25, h.n24, h.n45⟩
theorem Bx.row (h : Bx g2 g4 g5 w0 w a b c d) {base n : Nat} {v : Value} {xs : List Value} (o : w.ownsRow base 3 1 v n xs) (x y z u : Value) :
    ((((w.setCell ⟨g2, 0, none⟩ x).setCell ⟨g2, 1, none⟩ y).setCell ⟨g2, 2, none⟩ z).setCell ⟨g2, 3, none⟩ u).ownsRow base 3 1 v n xs := set4_own o h.k2 (by decide)
theorem Bx.cells2 (h : Bx g2 g4 g5 w0 w a b c d) :
    g2 < w.heap.size ∧ w.cell? ⟨g2, 0, none⟩ = some a ∧ w.cell? ⟨g2, 1, none⟩ = some b ∧ w.cell? ⟨g2, 2, none⟩ = some c ∧ w.cell? ⟨g2, 3, none⟩ = some d ∧
      w.frozen? ⟨g2, 0, none⟩ = false ∧ w.frozen? ⟨g2, 1, none⟩ = false ∧ w.frozen? ⟨g2, 2, none⟩ = false ∧ w.frozen? ⟨g2, 3, none⟩ = false :=
  ⟨h.k2.lt, h.k2.cell 0, h.k2.cell 1, h.k2.cell 2, h.k2.cell 3, h.k2.frozen 0, h.k2.frozen 1, h.k2.frozen 2, h.k2.frozen 3⟩
theorem Bx.cells (h : Bx g2 g4 g5 w0 w a b c d) :
    (g2 < w.heap.size ∧ w.cell? ⟨g2, 0, none⟩ = some a ∧ w.cell? ⟨g2, 1, none⟩ = some b ∧ w.cell? ⟨g2, 2, none⟩ = some c ∧ w.cell? ⟨g2, 3, none⟩ = some d ∧
      w.frozen? ⟨g2, 0, none⟩ = false ∧ w.frozen? ⟨g2, 1, none⟩ = false ∧ w.frozen? ⟨g2, 2, none⟩ = false ∧ w.frozen? ⟨g2, 3, none⟩ = false) ∧
    (g4 < w.heap.size ∧ w.cell? ⟨g4, 0, none⟩ = some (.int .u8 0) ∧ w.cell? ⟨g4, 1, none⟩ = some (.int .i64 0) ∧ w.cell? ⟨g4, 2, none⟩ = some (.int .i64 0) ∧ w.frozen? ⟨g4, 0, none⟩ = false ∧ w.frozen? ⟨g4, 1, none⟩ = false ∧ w.frozen? ⟨g4, 2, none⟩ = false) ∧
    (g5 < w.heap.size ∧ w.cell? ⟨g5, 0, none⟩ = some (.slice none 0 0) ∧ w.cell? ⟨g5, 1, none⟩ = some (.int .u32 0) ∧ w.cell? ⟨g5, 2, none⟩ = some (.int .u32 0) ∧ w.cell? ⟨g5, 3, none⟩ = some (.int .i64 0) ∧
      w.frozen? ⟨g5, 0, none⟩ = false ∧ w.frozen? ⟨g5, 1, none⟩ = false ∧ w.frozen? ⟨g5, 2, none⟩ = false ∧ w.frozen? ⟨g5, 3, none⟩ = false) ∧
    (g4 ≠ g5 ∧ g4 ≠ g2 ∧ g5 ≠ g2 ∧ g5 ≠ g4 ∧ g2 ≠ g4 ∧ g2 ≠ g5) :=
  ⟨h.cells2, ⟨h.k4.lt, h.k4.cell 0, h.k4.cell 1, h.k4.cell 2, h.k4.frozen 0, h.k4.frozen 1, h.k4.frozen 2⟩,
   ⟨h.k5.lt, h.k5.cell 0, h.k5.cell 1, h.k5.cell 2, h.k5.cell 3, h.k5.frozen 0, h.k5.frozen 1, h.k5.frozen 2, h.k5.frozen 3⟩, h.n45, h.n24, h.n25, h.n45.symm, h.n24.symm, h.n25.symm⟩
abbrev outW (w : World) (g4 g5 : Nat) (x y z a1 a2 a3 a4 : Value) : World :=
  (((((((w.setCell ⟨g4, 0, none⟩ x).setCell ⟨g4, 1, none⟩ y).setCell ⟨g4, 2, none⟩ z).setCell ⟨g5, 0, none⟩ a1).setCell ⟨g5, 1, none⟩ a2).setCell ⟨g5, 2, none⟩ a3).setCell ⟨g5, 3, none⟩ a4).drew
theorem Bx.out (h : Bx g2 g4 g5 w0 w a b c d) (x y z a1 a2 a3 a4 : Value) :
    Blk (outW w g4 g5 x y z a1 a2 a3 a4) g4 79 #[x, y, z] ∧ Blk (outW w g4 g5 x y z a1 a2 a3 a4) g5 74 #[a1, a2, a3, a4] ∧ Below w0.heap.size w0 (outW w g4 g5 x y z a1 a2 a3 a4) ∧
    ∀ (base n : Nat) (v : Value) (xs : List Value), w.ownsRow base 3 1 v n xs → (outW w g4 g5 x y z a1 a2 a3 a4).ownsRow base 3 1 v n xs := by
  have k4 : Blk (((w.setCell ⟨g4, 0, none⟩ x).setCell ⟨g4, 1, none⟩ y).setCell ⟨g4, 2, none⟩ z) g4 79 #[x, y, z] := h.k4.set3
  have k5 : Blk (((w.setCell ⟨g4, 0, none⟩ x).setCell ⟨g4, 1, none⟩ y).setCell ⟨g4, 2, none⟩ z) g5 74 #[.slice none 0 0, .int .u32 0, .int .u32 0, .int .i64 0] :=
    ((h.k5.far (p := ⟨g4, 0, none⟩) h.n45.symm x).far (p := ⟨g4, 1, none⟩) h.n45.symm y).far (p := ⟨g4, 2, none⟩) h.n45.symm z
  have bl : Below w0.heap.size w0 (((w.setCell ⟨g4, 0, none⟩ x).setCell ⟨g4, 1, none⟩ y).setCell ⟨g4, 2, none⟩ z) := ((h.below.setCell (p := ⟨g4, 0, none⟩) h.p4 x).setCell (p := ⟨g4, 1, none⟩) h.p4 y).setCell (p := ⟨g4, 2, none⟩) h.p4 z
  refine ⟨(set4_blk k4 h.n45).drew, k5.set4.drew, Below.drew (set4_below bl h.p5), fun base n v xs o => own_drew (set4_own ?_ k5 (by decide))⟩
  exact own_far (own_far (own_far o h.k4 (by decide) 0 x) (h.k4.set 0 x) (by decide) 1 y) ((h.k4.set 0 x).set 1 y) (by decide) 2 z
end
end Go.Proofs.YthkccpemgmpadaaGreatDoor.P
