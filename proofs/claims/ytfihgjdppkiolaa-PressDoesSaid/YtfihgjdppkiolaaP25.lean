import Derived.Test.YtfihgjdppkiolaaP24
import Derived.Test.YtfihgjdppkiolaaP23
namespace Go.Proofs.Ytfihgjdppkiolaa
set_option maxRecDepth 100000
open Go.RowKit

theorem packR_okB (b : List UInt8) : okB (packR b).1 := by
  unfold packR
  split
  · rename_i hl
    intro x hx
    rcases List.mem_append.1 (show x ∈ le4 b.length ++ encT 528 (bitsF (toksB b)) from hx) with hx | hx
    · simp [le4] at hx; omega
    · exact encT_okB (toksB_bits hl) x hx
  · intro x hx; simp at hx
theorem Pack_any (b : List UInt8) (hl : b.length ≤ 1000 ∨ 65536 < b.length) (T : List Int) (er : Int) (hr : packR b = (T, er)) (lo : Nat) (v : Value) (w : World) (h : M.Bs lo w.heap.size w v b) :
    Calls Try.prog 12 #[v] w fun e w' => ∃ A c, e = .returned (.tuple #[.slice A T.length c, .int .i64 er]) ∧ w'.ownsRow w.heap.size 5 1 (.slice A T.length c) T.length (T.flatMap byc) ∧ Below w.heap.size w w' := by
  unfold packR at hr
  rcases hl with hl | hl
  · rw [if_pos (by omega)] at hr
    injection hr with e1 e2
    subst e1 e2
    exact Pack_good lo v b w h hl
  · rw [if_neg (by omega)] at hr
    injection hr with e1 e2
    subst e1 e2
    exact (Pack_long lo v b w h hl).mono fun e w' ⟨he, hb⟩ => ⟨none, 0, he, World.ownsRow_nil _ _ _ _, hb⟩
theorem refPack_any (b : List UInt8) (hl : b.length ≤ 1000 ∨ 65536 < b.length) (T : List Int) (er : Int) (hr : packR b = (T, er)) (lo : Nat) (v : Value) (w : World) (h : M.Bs lo w.heap.size w v b) :
    Calls Try.prog 13 #[v] w fun e w' => ∃ A c, e = .returned (.tuple #[.slice A T.length c, .int .i64 er]) ∧ w'.ownsRow w.heap.size 5 1 (.slice A T.length c) T.length (T.flatMap byc) ∧ Below w.heap.size w w' := by
  unfold packR at hr
  rcases hl with hl | hl
  · rw [if_pos (by omega)] at hr
    injection hr with e1 e2
    subst e1 e2
    exact refPack_good lo v b w h hl
  · rw [if_neg (by omega)] at hr
    injection hr with e1 e2
    subst e1 e2
    exact (refPack_long lo v b w h hl).mono fun e w' ⟨he, hb⟩ => ⟨none, 0, he, World.ownsRow_nil _ _ _ _, hb⟩

set_option maxHeartbeats 1000000 in
theorem does_gate (v v' : Value) (A A' : Option Addr) (n c n' c' : Nat) (hv : v = .slice A n c) (hv' : v' = .slice A' n' c') (hn : 100 < n ∨ (120 < n' ∧ n' ≤ 65536) ∨ 70000 < n') (w : World) :
    Calls Try.prog 3 #[v, v'] w fun e w' => e = .returned (.bool true) ∧ Below w.heap.size w w' := by
  subst hv hv'
  have hL := fun W => live_any W
  replace hL := hide hL
  by_cases h1 : 100 < n
  · have h1' : (100 : Int) < (n : Int) := by omega
    clear hn
    go_enter Try.func3, Try.ntmps3
    go_wp2_with (first
      | (go_at_call 9; refine (unhide hL _).mono ?_; rintro e w1 ⟨rfl, hb1⟩)
      | fail)
    go_ret
    exact ⟨rfl, hb1⟩
  · have h1' : ¬ (100 : Int) < (n : Int) := by omega
    by_cases h2 : 70000 < n'
    · have a1 : (120 : Int) < (n' : Int) := by omega
      have a2 : ¬ (n' : Int) ≤ 65536 := by omega
      have a3 : (70000 : Int) < (n' : Int) := by omega
      clear hn h1 h2
      go_enter Try.func3, Try.ntmps3
      go_wp2_with (first
        | (go_at_call 9; refine (unhide hL _).mono ?_; rintro e w1 ⟨rfl, hb1⟩)
        | fail)
      go_ret
      exact ⟨rfl, hb1⟩
    · have a1 : (120 : Int) < (n' : Int) := by omega
      have a2 : (n' : Int) ≤ 65536 := by omega
      clear hn h1 h2
      go_enter Try.func3, Try.ntmps3
      go_wp2_with (first
        | (go_at_call 9; refine (unhide hL _).mono ?_; rintro e w1 ⟨rfl, hb1⟩)
        | fail)
      go_ret
      exact ⟨rfl, hb1⟩

set_option maxHeartbeats 2000000 in
theorem does_main (lo lo' : Nat) (v v' : Value) (l : List Tok) (b : List UInt8) (w : World) (h : M.Tks lo w.heap.size w v l) (h' : M.Bs lo' w.heap.size w v' b) (hl : l.length ≤ 100) (hb : b.length ≤ 120 ∨ (65536 < b.length ∧ b.length ≤ 70000)) :
    Calls Try.prog 3 #[v, v'] w fun e w' => e = .returned (.bool true) ∧ Below w.heap.size w w' := by
  obtain ⟨⟨T, er⟩, hr⟩ : ∃ X : List Int × Int, packR b = X := ⟨_, rfl⟩
  have hTo := packR_okB b
  rw [hr] at hTo
  simp only [] at hTo
  have hL := fun W => live_any W
  have hB := fun (W : World) (k : M.Tks lo W.heap.size W v l) => Bits_any lo v l W k
  have hRB := fun (W : World) (k : M.Tks lo W.heap.size W v l) => refBits_any lo v l W k
  have hP := fun (W : World) (k : M.Bs lo' W.heap.size W v' b) => Pack_any b (by omega) T er hr lo' v' W k
  have hRP := fun (W : World) (k : M.Bs lo' W.heap.size W v' b) => refPack_any b (by omega) T er hr lo' v' W k
  have hG := fun (W : World) (k : M.Bs lo' W.heap.size W v' b) => Long_any lo' v' (octs b) W (os_of k) (octs_ok b)
  have hRG := fun (W : World) (k : M.Bs lo' W.heap.size W v' b) => refLong_any lo' v' (octs b) W (os_of k) (octs_ok b)
  have hS := fun (lo1 lo2 : Nat) (v1 v2 : Value) (W : World) (k1 : Bts lo1 W.heap.size W v1 (bitsT l)) (k2 : Bts lo2 W.heap.size W v2 (bitsT l)) => refSame_any lo1 lo2 v1 v2 (bitsT l) W k1 k2
  have hSB := fun (lo1 hi1 lo2 hi2 : Nat) (v1 v2 : Value) (W : World) (k1 : Os lo1 hi1 W v1 T) (k2 : Os lo2 hi2 W v2 T) => sameBytes_any lo1 hi1 lo2 hi2 v1 v2 T T W k1 k2 hTo hTo
  simp only [decide_true] at hSB
  generalize longR (octs b) = NE at *
  obtain ⟨N, E2⟩ := NE
  generalize bitsT l = X at *
  generalize M.badE (M.okB l) = E1 at *
  have hcv := fun (W : World) (k : M.Bs lo' W.heap.size W v' b) => M.Bs.convert k
  have hT := h
  have hT' := h'
  obtain ⟨A, c, rfl, x1, x2, _⟩ := h.open
  obtain ⟨A', c', rfl, x1', x2', _⟩ := h'.open
  clear h h' hTo hr
  generalize b.length = n at *
  obtain ⟨m, hm⟩ : ∃ m, m = l.length := ⟨_, rfl⟩
  have hbits : 0 = 0 := rfl
  obtain ⟨nx, hnx⟩ : ∃ nx, nx = X.length := ⟨_, rfl⟩
  obtain ⟨nT, hnT⟩ : ∃ nT, nT = T.length := ⟨_, rfl⟩
  rw [← hnx] at hB hRB
  rw [← hnT] at hP hRP
  have hl' : ¬ (100 : Int) < (l.length : Int) := by omega
  simp only [] at hG hRG
  replace hL := hide hL; replace hB := hide hB; replace hRB := hide hRB; replace hP := hide hP; replace hRP := hide hRP; replace hG := hide hG; replace hRG := hide hRG; replace hS := hide hS; replace hSB := hide hSB; replace hcv := hide hcv; replace hT := hide hT; replace hT' := hide hT'
  clear hm hbits hnx hnT hl
  rcases hb with hb | ⟨hb, hb'⟩
  · have g1 : ¬ (120 : Int) < (n : Int) := by omega
    have g2 : ¬ (70000 : Int) < (n : Int) := by omega
    clear hb
    go_enter Try.func3, Try.ntmps3
    go_wp2_with (first
      | (go_at_call 9; refine (unhide hL _).mono ?_; rintro e w1 ⟨rfl, hb1⟩; have a1 := hide ((unhide hT).grow hb1); have b1 := hide ((unhide hT').grow hb1); replace hb1 := hide hb1; have cv1 := unhide hcv _ (unhide b1))
      | (go_at_call 10; refine (unhide hB _ (unhide a1)).mono ?_; rintro e w2 ⟨A2_, c2_, rfl, o2_, hb2⟩; have a2 := hide ((unhide a1).grow hb2); have b2 := hide ((unhide b1).grow hb2); have x2 := hide (Rd.of_own btc_len (by omega) o2_); clear o2_; replace hb2 := hide (bl_call (unhide hb1) hb2); clear a1 b1 hb1 cv1)
      | (go_at_call 11; refine (unhide hRB _ (unhide a2)).mono ?_; rintro e w3 ⟨A3_, c3_, rfl, o3_, hb3⟩; have a3 := hide ((unhide a2).grow hb3); have b3 := hide ((unhide b2).grow hb3); have x3 := hide ((unhide x2).grow hb3); have y3 := hide (Rd.of_own btc_len (by omega) o3_); clear o3_; replace hb3 := hide (bl_call (unhide hb2) hb3); clear a2 b2 x2 hb2)
      | (go_at_call 12; refine (unhide hP _ (unhide b3)).mono ?_; rintro e w4 ⟨A4_, c4_, rfl, o4_, hb4⟩; have a4 := hide ((unhide a3).grow hb4); have b4 := hide ((unhide b3).grow hb4); have x4 := hide ((unhide x3).grow hb4); have y4 := hide ((unhide y3).grow hb4); have p4 := hide (Rd.of_own byc_len (by omega) o4_); clear o4_; replace hb4 := hide (bl_call (unhide hb3) hb4); clear a3 b3 x3 y3 hb3)
      | (go_at_call 13; refine (unhide hRP _ (unhide b4)).mono ?_; rintro e w5 ⟨A5_, c5_, rfl, o5_, hb5⟩; have a5 := hide ((unhide a4).grow hb5); have b5 := hide ((unhide b4).grow hb5); have x5 := hide ((unhide x4).grow hb5); have y5 := hide ((unhide y4).grow hb5); have p5 := hide ((unhide p4).grow hb5); have q5 := hide (Rd.of_own byc_len (by omega) o5_); clear o5_; replace hb5 := hide (bl_call (unhide hb4) hb5); clear a4 b4 x4 y4 p4 hb4)
      | (go_at_call 14; refine (unhide hG _ (unhide b5)).mono ?_; rintro e w6 ⟨rfl, hb6⟩; have a6 := hide ((unhide a5).grow hb6); have b6 := hide ((unhide b5).grow hb6); have x6 := hide ((unhide x5).grow hb6); have y6 := hide ((unhide y5).grow hb6); have p6 := hide ((unhide p5).grow hb6); have q6 := hide ((unhide q5).grow hb6); replace hb6 := hide (bl_call (unhide hb5) hb6); clear a5 b5 x5 y5 p5 q5 hb5)
      | (go_at_call 15; refine (unhide hRG _ (unhide b6)).mono ?_; rintro e w7 ⟨rfl, hb7⟩; have a7 := hide ((unhide a6).grow hb7); have b7 := hide ((unhide b6).grow hb7); have x7 := hide ((unhide x6).grow hb7); have y7 := hide ((unhide y6).grow hb7); have p7 := hide ((unhide p6).grow hb7); have q7 := hide ((unhide q6).grow hb7); replace hb7 := hide (bl_call (unhide hb6) hb7); clear a6 b6 x6 y6 p6 q6 hb6)
      | (go_at_call 16; refine (unhide hS _ _ _ _ _ (unhide x7) (unhide y7)).mono ?_; rintro e w8 ⟨rfl, hb8⟩; have a8 := hide ((unhide a7).grow hb8); have b8 := hide ((unhide b7).grow hb8); have x8 := hide ((unhide x7).grow hb8); have y8 := hide ((unhide y7).grow hb8); have p8 := hide ((unhide p7).grow hb8); have q8 := hide ((unhide q7).grow hb8); replace hb8 := hide (bl_call (unhide hb7) hb8); have cv2 := unhide hcv _ (unhide b8); clear a7 b7 x7 y7 p7 q7 hb7)
      | (go_at_call 17; refine (unhide hSB _ _ _ _ _ _ _ (unhide p8) (unhide q8)).mono ?_; rintro e w9 ⟨rfl, rfl⟩)
      | fail)
    go_ret
    exact ⟨rfl, unhide hb8⟩
  · have g1 : (120 : Int) < (n : Int) := by omega
    have g2 : ¬ (70000 : Int) < (n : Int) := by omega
    have g3 : ¬ (n : Int) ≤ 65536 := by omega
    clear hb hb'
    go_enter Try.func3, Try.ntmps3
    go_wp2_with (first
      | (go_at_call 9; refine (unhide hL _).mono ?_; rintro e w1 ⟨rfl, hb1⟩; have a1 := hide ((unhide hT).grow hb1); have b1 := hide ((unhide hT').grow hb1); replace hb1 := hide hb1; have cv1 := unhide hcv _ (unhide b1))
      | (go_at_call 10; refine (unhide hB _ (unhide a1)).mono ?_; rintro e w2 ⟨A2_, c2_, rfl, o2_, hb2⟩; have a2 := hide ((unhide a1).grow hb2); have b2 := hide ((unhide b1).grow hb2); have x2 := hide (Rd.of_own btc_len (by omega) o2_); clear o2_; replace hb2 := hide (bl_call (unhide hb1) hb2); clear a1 b1 hb1 cv1)
      | (go_at_call 11; refine (unhide hRB _ (unhide a2)).mono ?_; rintro e w3 ⟨A3_, c3_, rfl, o3_, hb3⟩; have a3 := hide ((unhide a2).grow hb3); have b3 := hide ((unhide b2).grow hb3); have x3 := hide ((unhide x2).grow hb3); have y3 := hide (Rd.of_own btc_len (by omega) o3_); clear o3_; replace hb3 := hide (bl_call (unhide hb2) hb3); clear a2 b2 x2 hb2)
      | (go_at_call 12; refine (unhide hP _ (unhide b3)).mono ?_; rintro e w4 ⟨A4_, c4_, rfl, o4_, hb4⟩; have a4 := hide ((unhide a3).grow hb4); have b4 := hide ((unhide b3).grow hb4); have x4 := hide ((unhide x3).grow hb4); have y4 := hide ((unhide y3).grow hb4); have p4 := hide (Rd.of_own byc_len (by omega) o4_); clear o4_; replace hb4 := hide (bl_call (unhide hb3) hb4); clear a3 b3 x3 y3 hb3)
      | (go_at_call 13; refine (unhide hRP _ (unhide b4)).mono ?_; rintro e w5 ⟨A5_, c5_, rfl, o5_, hb5⟩; have a5 := hide ((unhide a4).grow hb5); have b5 := hide ((unhide b4).grow hb5); have x5 := hide ((unhide x4).grow hb5); have y5 := hide ((unhide y4).grow hb5); have p5 := hide ((unhide p4).grow hb5); have q5 := hide (Rd.of_own byc_len (by omega) o5_); clear o5_; replace hb5 := hide (bl_call (unhide hb4) hb5); clear a4 b4 x4 y4 p4 hb4)
      | (go_at_call 14; refine (unhide hG _ (unhide b5)).mono ?_; rintro e w6 ⟨rfl, hb6⟩; have a6 := hide ((unhide a5).grow hb6); have b6 := hide ((unhide b5).grow hb6); have x6 := hide ((unhide x5).grow hb6); have y6 := hide ((unhide y5).grow hb6); have p6 := hide ((unhide p5).grow hb6); have q6 := hide ((unhide q5).grow hb6); replace hb6 := hide (bl_call (unhide hb5) hb6); clear a5 b5 x5 y5 p5 q5 hb5)
      | (go_at_call 15; refine (unhide hRG _ (unhide b6)).mono ?_; rintro e w7 ⟨rfl, hb7⟩; have a7 := hide ((unhide a6).grow hb7); have b7 := hide ((unhide b6).grow hb7); have x7 := hide ((unhide x6).grow hb7); have y7 := hide ((unhide y6).grow hb7); have p7 := hide ((unhide p6).grow hb7); have q7 := hide ((unhide q6).grow hb7); replace hb7 := hide (bl_call (unhide hb6) hb7); clear a6 b6 x6 y6 p6 q6 hb6)
      | (go_at_call 16; refine (unhide hS _ _ _ _ _ (unhide x7) (unhide y7)).mono ?_; rintro e w8 ⟨rfl, hb8⟩; have a8 := hide ((unhide a7).grow hb8); have b8 := hide ((unhide b7).grow hb8); have x8 := hide ((unhide x7).grow hb8); have y8 := hide ((unhide y7).grow hb8); have p8 := hide ((unhide p7).grow hb8); have q8 := hide ((unhide q7).grow hb8); replace hb8 := hide (bl_call (unhide hb7) hb8); have cv2 := unhide hcv _ (unhide b8); clear a7 b7 x7 y7 p7 q7 hb7)
      | (go_at_call 17; refine (unhide hSB _ _ _ _ _ _ _ (unhide p8) (unhide q8)).mono ?_; rintro e w9 ⟨rfl, rfl⟩)
      | fail)
    go_ret
    exact ⟨rfl, unhide hb8⟩

theorem does_any (lo lo' : Nat) (v v' : Value) (l : List Tok) (b : List UInt8) (w : World) (h : M.Tks lo w.heap.size w v l) (h' : M.Bs lo' w.heap.size w v' b) :
    Calls Try.prog 3 #[v, v'] w fun e w' => e = .returned (.bool true) ∧ Below w.heap.size w w' := by
  by_cases hl : l.length ≤ 100 ∧ (b.length ≤ 120 ∨ (65536 < b.length ∧ b.length ≤ 70000))
  · exact does_main lo lo' v v' l b w h h' hl.1 hl.2
  · have hg : 100 < l.length ∨ (120 < b.length ∧ b.length ≤ 65536) ∨ 70000 < b.length := by omega
    obtain ⟨A, c, e, _⟩ := h
    obtain ⟨A', c', e', _⟩ := h'
    exact does_gate v v' A A' _ c _ c' e e' hg w
end Go.Proofs.Ytfihgjdppkiolaa
