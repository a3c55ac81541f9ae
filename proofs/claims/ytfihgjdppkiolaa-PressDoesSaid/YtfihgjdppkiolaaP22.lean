import Derived.Test.YtfihgjdppkiolaaP21
namespace Go.Proofs.Ytfihgjdppkiolaa
set_option maxRecDepth 100000
open Go.RowKit

theorem numB_flat (c : Int) (N k m : Nat) : ((numB c N k m).flatMap btc).length = k * 2 := by rw [flat_len btc_len, numB_len]

set_option maxHeartbeats 1000000 in
theorem refBits_bad (lo : Nat) (v : Value) (l : List Tok) (w : World) (h : M.Tks lo w.heap.size w v l) (ho : M.okB l = false) :
    Calls Try.prog 11 #[v] w fun e w' => e = .returned (.tuple #[.slice none 0 0, .int .i64 1]) ∧ Below w.heap.size w w' := by
  have hC := M.rCheck_any lo v l w h
  rw [ho] at hC
  replace hC : Calls Try.prog 22 #[v] w fun e w' => e = .returned (.int .i64 1) ∧ Below w.heap.size w w' := hC
  replace hC := hide hC
  go_enter Try.func11, Try.ntmps11
  go_wp2_with (first
    | (go_at_call 22; refine (unhide hC).mono ?_; rintro e w1 ⟨rfl, hb1⟩)
    | fail)
  go_ret2
  exact ⟨rfl, hb1⟩

set_option maxHeartbeats 4000000 in
theorem refBits_good (lo : Nat) (v : Value) (l : List Tok) (w : World) (h : M.Tks lo w.heap.size w v l) (ho : M.okB l = true) :
    Calls Try.prog 11 #[v] w fun e w' => ∃ A c, e = .returned (.tuple #[.slice A (bitsF l).length c, .int .i64 0]) ∧ w'.ownsRow w.heap.size 42 2 (.slice A (bitsF l).length c) (bitsF l).length ((bitsF l).flatMap btc) ∧ Below w.heap.size w w' := by
  obtain ⟨i0, hi0, iz0, iz1, iz2⟩ := info_parts info51
  have hC := M.rCheck_any lo v l w h
  rw [ho] at hC
  replace hC : Calls Try.prog 22 #[v] w fun e w' => e = .returned (.int .i64 0) ∧ Below w.heap.size w w' := hC
  obtain ⟨hl, hok⟩ := M.okB_iff.1 ho
  obtain ⟨A, c, rfl, h1, h2, h3⟩ := h.open
  clear h ho
  replace hC := hide hC; replace h3 := hide h3; replace hok := hide hok; replace hl := hide hl
  go_enter Try.func11, Try.ntmps11
  go_wp2_with (first
    | (go_at_call 22; refine (unhide hC).mono ?_; rintro e w1 ⟨rfl, hb1⟩; replace hb1 := hide hb1)
    | fail)
  go_loopw [4, 12] (fun s4 i wr => ∃ (k n c' : Nat) (A' : Option Addr), k ≤ l.length ∧ s4 = .slice A' n c' ∧ i = .int .i64 k ∧ Hid (n = (bitsF (l.take k)).length) ∧ Hid (wr.ownsRow w.heap.size 42 2 (.slice A' n c') n ((bitsF (l.take k)).flatMap btc)) ∧ Hid (Below w.heap.size w wr)) (fun _ i _ => l.length - (intOf i).toNat)
  case atStart => exact ⟨0, 0, 0, none, by omega, rfl, rfl, hide (by simp [bitsF]), hide (World.ownsRow_nil _ _ _ _), hb1⟩
  case round =>
    obtain ⟨k, n, c', A', hk, rfl, rfl, hn, hw, hB⟩ := hrel
    by_cases hlt : k < l.length
    · obtain ⟨b, off, rfl, g1, g2, q0, q1, q2⟩ := unhide h3 k hlt
      have c0 := ((unhide hB).cell (p := ⟨b, off + k * 3, none⟩) g2).trans q0
      have c1 := ((unhide hB).cell (p := ⟨b, off + k * 3 + 1, none⟩) g2).trans q1
      have c2 := ((unhide hB).cell (p := ⟨b, off + k * 3 + 2, none⟩) g2).trans q2
      have hs := bitsF_snoc hlt
      obtain ⟨hot, _⟩ := okL_get hlt (unhide hok)
      have hnn := bitsF_take_len (unhide hok) (unhide hl) k
      rw [← unhide hn] at hnn
      have hn2 : n + (tokB l[k]).length = (bitsF (l.take (k + 1))).length := by rw [hs, List.length_append, unhide hn]
      have hsz := (unhide hB).size
      generalize l[k] = t at *
      obtain ⟨T1, hT1⟩ : ∃ T1, T1 = bitsF (l.take k) := ⟨_, rfl⟩
      obtain ⟨T2, hT2⟩ : ∃ T2, T2 = bitsF (l.take (k + 1)) := ⟨_, rfl⟩
      rw [← hT1] at hw hs
      rw [← hT2] at hs hn2
      have u1 : n + 1 ≤ maxLen := by simp only [maxLen]; omega
      have u2 : (n + 1) * 16 ≤ 140737488355328 := by omega
      replace hT2 := hide hT2; replace hsz := hide hsz; replace u1 := hide u1; replace u2 := hide u2
      clear hn hT1 q0 q1 q2 g1 g2
      by_cases h0 : t.len = 0
      · have hT : tokB t = ⟨0, false⟩ :: numB 0 t.lit.toNat 8 1 := by unfold tokB; rw [if_pos h0, h0]; rfl
        have hlen : (tokB t).length = 1 + 8 := by rw [hT]; simp [numB_len]
        rw [hlen] at hn2
        have hx8 : t.lit.toNat < 256 := t.lit.toNat_lt
        have hP := fun (W : World) => refNum_any t.lit.toNat 8 0 W (by omega) (by omega)
        have hfl := bt_snoc T1 ⟨0, false⟩
        have hto := btc_one ⟨0, false⟩
        have hnl := numB_flat 0 t.lit.toNat 8 1
        have hno := flat_one btc_one (numB 0 t.lit.toNat 8 1)
        have hfa : (T1 ++ [(⟨0, false⟩ : Bit)]).flatMap btc ++ (numB 0 t.lit.toNat 8 1).flatMap btc = T2.flatMap btc := by rw [hs, hT, ← List.flatMap_append]; simp
        have u3 : n + 1 + 8 ≤ maxLen := by simp only [maxLen]; omega
        have u4 : (n + 1 + 8) * 16 ≤ 140737488355328 := by omega
        obtain ⟨x, tl, td⟩ := t
        simp only [] at h0 hP c0 c1 c2 hx8 hnl hno hfa
        subst h0
        replace c0 : wr.cell? ⟨b, off + k * 3, none⟩ = some (.int .u8 ((x.toNat : Nat) : Int)) := c0
        generalize x.toNat = V at *
        generalize numB 0 V 8 1 = Q at *
        replace hP := hide hP; replace hfl := hide hfl; replace hto := hide hto; replace hnl := hide hnl; replace hno := hide hno; replace hfa := hide hfa; replace u3 := hide u3; replace u4 := hide u4; replace hn2 := hide hn2
        have y0 : b < wr.heap.size := World.block_lt_of_cell? wr _ c0
        clear hs hot hT hlen hnn
        go_wp2_with (first
          | (at_builtin
             refine wpList_app _ rfl (.tmp 16) (.tmp 21) 25 rfl w.heap.size 42 i0 _ 2 16 Try.underlying25 hi0 iz0 iz1 iz2 rfl (Nat.succ_pos _) _ n (T1.flatMap btc) rfl (((unhide hw).alloc _).alloc _) (some ⟨wr.heap.size + 1, 0, none⟩) 1 1 (btc ⟨0, false⟩) rfl rfl (bt_src (x := ⟨0, false⟩) (Blk.new (by simp))) (unhide hto) (unhide u1) (unhide u2) (by have := unhide hsz; simp; omega) ?_
             intro v2 w2 o2 hg2
             obtain ⟨A2, c2', rfl⟩ := ownsRow_form o2
             rw [unhide hfl] at o2
             have B2 : Below w.heap.size w w2 := (bl_alloc (bl_alloc (unhide hB) _) _).grown hg2 (by have := unhide hsz; simp; omega) (own_base (unhide hw))
             have k3 : Blk w2 wr.heap.size 40 #[.int .u8 (V : Int), .int .i64 0, .int .i64 td] := ((Kept.refl 42 _).alloc _).grown (((unhide hw).alloc _).alloc _) hg2 _ 40 _ (by decide) (Blk.new rfl)
             have q0 := k3.cell 0
             have q1 := k3.cell 1
             have y1 := k3.lt
             simp at q0 q1
             replace B2 := hide B2; replace k3 := hide k3; replace o2 := hide o2)
          | (go_at_call 23; refine (unhide hP _).mono ?_; rintro e w3 ⟨A3, c3, rfl, o3, hb3⟩
             have s3 := (Rd.src btc_len (Rd.of_own btc_len (by omega) o3)).2
             have o4 := own_below (unhide o2) hb3 (Nat.le_refl _)
             have B3 := bl_call (unhide B2) hb3
             have z3 := B3.size
             replace s3 := hide s3; replace o4 := hide o4; replace B3 := hide B3; replace z3 := hide z3
             clear o2 o3 q0 q1 y1)
          | (at_builtin
             refine wpList_app _ rfl (.tmp 26) (.tmp 30) 25 rfl w.heap.size 42 i0 _ 2 16 Try.underlying25 hi0 iz0 iz1 iz2 rfl (Nat.succ_pos _) _ (n + 1) ((T1 ++ [(⟨0, false⟩ : Bit)]).flatMap btc) rfl (unhide o4) A3 8 c3 (Q.flatMap btc) rfl (unhide hnl) (unhide s3) (unhide hno) (unhide u3) (unhide u4) (unhide z3) ?_
             intro v5 w5 o5 hg5
             obtain ⟨A5, c5, rfl⟩ := ownsRow_form o5
             rw [unhide hfa] at o5
             have B5 := bl_grown (unhide B3) hg5 (own_base (unhide o4))
             replace o5 := hide o5; replace B5 := hide B5)
          | fail)
        go_roundw
        case rel => exact ⟨k + 1, n + 1 + 8, c5, A5, by omega, rfl, by go_num, hide (by rw [← unhide hT2, ← unhide hn2]), by rw [← unhide hT2]; exact o5, B5⟩
        case measure => simp [intOf]; omega
      · obtain ⟨l0, l1, l2, l3, l4⟩ := okT_len hot h0
        have hd : decide (0 < t.len) = true := decide_eq_true (by omega)
        have hT : tokB t = ⟨0, true⟩ :: (numB 256 (t.len - 3).toNat 4 1 ++ numB 272 (t.dist - 1).toNat 8 1) := by unfold tokB; rw [if_neg h0, hd]
        have hlen : (tokB t).length = 1 + 4 + 8 := by rw [hT]; simp [numB_len]
        rw [hlen] at hn2
        have hP := fun (W : World) => refNum_any (t.len - 3).toNat 4 256 W (by omega) (by omega)
        have hP2 := fun (W : World) => refNum_any (t.dist - 1).toNat 8 272 W (by omega) (by omega)
        rw [show (((t.len - 3).toNat : Nat) : Int) = t.len - 3 by omega] at hP
        rw [show (((t.dist - 1).toNat : Nat) : Int) = t.dist - 1 by omega] at hP2
        have hfl := bt_snoc T1 ⟨0, true⟩
        have hto := btc_one ⟨0, true⟩
        have hnl := numB_flat 256 (t.len - 3).toNat 4 1
        have hno := flat_one btc_one (numB 256 (t.len - 3).toNat 4 1)
        have hnl2 := numB_flat 272 (t.dist - 1).toNat 8 1
        have hno2 := flat_one btc_one (numB 272 (t.dist - 1).toNat 8 1)
        have hfa : (T1 ++ [(⟨0, true⟩ : Bit)]).flatMap btc ++ (numB 256 (t.len - 3).toNat 4 1).flatMap btc = (T1 ++ [(⟨0, true⟩ : Bit)] ++ numB 256 (t.len - 3).toNat 4 1).flatMap btc := by rw [← List.flatMap_append]
        have hfb : (T1 ++ [(⟨0, true⟩ : Bit)] ++ numB 256 (t.len - 3).toNat 4 1).flatMap btc ++ (numB 272 (t.dist - 1).toNat 8 1).flatMap btc = T2.flatMap btc := by rw [hs, hT, ← List.flatMap_append]; simp
        have u3 : n + 1 + 4 ≤ maxLen := by simp only [maxLen]; omega
        have u4 : (n + 1 + 4) * 16 ≤ 140737488355328 := by omega
        have u5 : n + 1 + 4 + 8 ≤ maxLen := by simp only [maxLen]; omega
        have u6 : (n + 1 + 4 + 8) * 16 ≤ 140737488355328 := by omega
        obtain ⟨x, tl, td⟩ := t
        simp only [] at h0 hP hP2 c0 c1 c2 hnl hno hfa hnl2 hno2 hfb l1 l2 l3 l4
        have h0' : (tl == 0) = false := by simpa using h0
        have h0g : 0 < tl := by omega
        replace c0 : wr.cell? ⟨b, off + k * 3, none⟩ = some (.int .u8 ((x.toNat : Nat) : Int)) := c0
        generalize x.toNat = V at *
        generalize numB 256 (tl - 3).toNat 4 1 = Q at *
        generalize numB 272 (td - 1).toNat 8 1 = Q2 at *
        replace hP := hide hP; replace hP2 := hide hP2; replace hfl := hide hfl; replace hto := hide hto; replace hnl := hide hnl; replace hno := hide hno; replace hfa := hide hfa; replace hnl2 := hide hnl2; replace hno2 := hide hno2; replace hfb := hide hfb; replace u3 := hide u3; replace u4 := hide u4; replace u5 := hide u5; replace u6 := hide u6; replace hn2 := hide hn2
        have y0 : b < wr.heap.size := World.block_lt_of_cell? wr _ c0
        clear hs hot hT hlen hnn hd l0
        have tkA : True := trivial
        go_wp2_with (first
          | (have _t := tkA; at_builtin; clear _t tkA
             refine wpList_app _ rfl (.tmp 16) (.tmp 21) 25 rfl w.heap.size 42 i0 _ 2 16 Try.underlying25 hi0 iz0 iz1 iz2 rfl (Nat.succ_pos _) _ n (T1.flatMap btc) rfl (((unhide hw).alloc _).alloc _) (some ⟨wr.heap.size + 1, 0, none⟩) 1 1 (btc ⟨0, true⟩) rfl rfl (bt_src (x := ⟨0, true⟩) (Blk.new (by simp))) (unhide hto) (unhide u1) (unhide u2) (by have := unhide hsz; simp; omega) ?_
             intro v2 w2 o2 hg2
             obtain ⟨A2, c2', rfl⟩ := ownsRow_form o2
             rw [unhide hfl] at o2
             have B2 : Below w.heap.size w w2 := (bl_alloc (bl_alloc (unhide hB) _) _).grown hg2 (by have := unhide hsz; simp; omega) (own_base (unhide hw))
             have k3 : Blk w2 wr.heap.size 40 #[.int .u8 (V : Int), .int .i64 tl, .int .i64 td] := ((Kept.refl 42 _).alloc _).grown (((unhide hw).alloc _).alloc _) hg2 _ 40 _ (by decide) (Blk.new rfl)
             have q1 := k3.cell 1
             have y1 := k3.lt
             simp at q1
             replace B2 := hide B2; replace k3 := hide k3; replace o2 := hide o2
             have tkB : True := trivial)
          | (have _t := tkB; go_at_call 23; clear _t tkB; refine (unhide hP _).mono ?_; rintro e w3 ⟨A3, c3, rfl, o3, hb3⟩
             have s3 := (Rd.src btc_len (Rd.of_own btc_len (by omega) o3)).2
             have o4 := own_below (unhide o2) hb3 (Nat.le_refl _)
             have B3 := bl_call (unhide B2) hb3
             have k4 := (unhide k3).below hb3 (unhide k3).lt
             have z3 := B3.size
             replace s3 := hide s3; replace o4 := hide o4; replace B3 := hide B3; replace z3 := hide z3; replace k4 := hide k4
             have tkC : True := trivial
             clear o2 o3 q1 y1 k3 B2)
          | (have _t := tkC; at_builtin; clear _t tkC
             refine wpList_app _ rfl (.tmp 32) (.tmp 36) 25 rfl w.heap.size 42 i0 _ 2 16 Try.underlying25 hi0 iz0 iz1 iz2 rfl (Nat.succ_pos _) _ (n + 1) ((T1 ++ [(⟨0, true⟩ : Bit)]).flatMap btc) rfl (unhide o4) A3 4 c3 (Q.flatMap btc) rfl (unhide hnl) (unhide s3) (unhide hno) (unhide u3) (unhide u4) (unhide z3) ?_
             intro v5 w5 o5 hg5
             obtain ⟨A5, c5, rfl⟩ := ownsRow_form o5
             rw [unhide hfa] at o5
             have B5 := bl_grown (unhide B3) hg5 (own_base (unhide o4))
             have k5 := (Kept.refl 42 _).grown (unhide o4) hg5 _ 40 _ (by decide) (unhide k4)
             have q2 := k5.cell 2
             have y2 := k5.lt
             simp at q2
             replace o5 := hide o5; replace B5 := hide B5
             have tkD : True := trivial
             clear o4 B3 k4 k5 z3 s3)
          | (have _t := tkD; go_at_call 23; clear _t tkD; refine (unhide hP2 _).mono ?_; rintro e w6 ⟨A6, c6, rfl, o6, hb6⟩
             have s6 := (Rd.src btc_len (Rd.of_own btc_len (by omega) o6)).2
             have o7 := own_below (unhide o5) hb6 (Nat.le_refl _)
             have B6 := bl_call (unhide B5) hb6
             have z6 := B6.size
             replace s6 := hide s6; replace o7 := hide o7; replace B6 := hide B6; replace z6 := hide z6
             have tkE : True := trivial
             clear o5 o6 q2 y2 B5)
          | (have _t := tkE; at_builtin; clear _t tkE
             refine wpList_app _ rfl (.tmp 38) (.tmp 42) 25 rfl w.heap.size 42 i0 _ 2 16 Try.underlying25 hi0 iz0 iz1 iz2 rfl (Nat.succ_pos _) _ (n + 1 + 4) ((T1 ++ [(⟨0, true⟩ : Bit)] ++ Q).flatMap btc) rfl (unhide o7) A6 8 c6 (Q2.flatMap btc) rfl (unhide hnl2) (unhide s6) (unhide hno2) (unhide u5) (unhide u6) (unhide z6) ?_
             intro v8 w8 o8 hg8
             obtain ⟨A8, c8, rfl⟩ := ownsRow_form o8
             rw [unhide hfb] at o8
             have B8 := bl_grown (unhide B6) hg8 (own_base (unhide o7))
             replace o8 := hide o8; replace B8 := hide B8)
          | fail)
        go_roundw
        case rel => exact ⟨k + 1, n + 1 + 4 + 8, c8, A8, by omega, rfl, by go_num, hide (by rw [← unhide hT2, ← unhide hn2]), by rw [← unhide hT2]; exact o8, B8⟩
        case measure => simp [intOf]; omega
    · obtain rfl : k = l.length := by omega
      rw [List.take_length] at hw hn
      go_wp2_with fail
      go_ret2
      rw [← unhide hn]
      exact ⟨_, _, rfl, unhide hw, unhide hB⟩

theorem refBits_any (lo : Nat) (v : Value) (l : List Tok) (w : World) (h : M.Tks lo w.heap.size w v l) :
    Calls Try.prog 11 #[v] w fun e w' => ∃ A c, e = .returned (.tuple #[.slice A (bitsT l).length c, .int .i64 (M.badE (M.okB l))]) ∧ w'.ownsRow w.heap.size 42 2 (.slice A (bitsT l).length c) (bitsT l).length ((bitsT l).flatMap btc) ∧ Below w.heap.size w w' := by
  cases ho : M.okB l with
  | true =>
    have e : bitsT l = bitsF l := by unfold bitsT; rw [ho]; rfl
    rw [e]
    exact refBits_good lo v l w h ho
  | false =>
    have e : bitsT l = [] := by unfold bitsT; rw [ho]; rfl
    rw [e]
    exact (refBits_bad lo v l w h ho).mono fun e w' ⟨he, hb⟩ => ⟨none, 0, he, World.ownsRow_nil _ _ _ _, hb⟩
end Go.Proofs.Ytfihgjdppkiolaa
