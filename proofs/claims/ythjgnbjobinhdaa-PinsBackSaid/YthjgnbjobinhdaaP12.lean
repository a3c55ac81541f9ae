import Derived.Test.YthjgnbjobinhdaaP11
namespace Go.Proofs.Ythjgnbjobinhdaa
open Go.RowKit
set_option maxRecDepth 100000

set_option maxHeartbeats 1000000 in
theorem rOpen_any (lo hi : Nat) (v : Value) (l : List Pn) (g : Int) (w : World) (h : Pns lo hi w v l) (hhi : hi ≤ w.heap.size) (hs : SmL l) :
    Calls Try.prog 10 #[v, .int .u64 g] w fun e w' => ∃ v', e = .returned (.tuple #[v', .int .i64 (openE l g)]) ∧ OwnP w' w.heap.size v' (openL l g) ∧ Below w.heap.size w w' := by
  have hM := rmany_any lo hi v l g w h hhi hs
  have hC := fun W n (hB : Below w.heap.size w W) (hl8 : l.length ≤ 100000) => rwith_any lo hi v l g n W (h.below hB hhi) (Nat.le_trans hhi hB.size) hl8
  obtain ⟨A, c, rfl, _, _, _⟩ := h.open2
  clear h hs hhi
  unfold manyN manyE at hM
  cases hq : may l g with
  | false =>
    have e1 : openE l g = 1 := by unfold openE; rw [hq]; rfl
    rw [openL_no (by rw [e1]; decide), e1]
    rw [hq, if_neg (by simp), if_neg (by simp)] at hM
    clear hC hq e1
    replace hM := hide hM
    go_enter Try.func10, Try.ntmps10
    go_wp2_with (go_at_call 14; refine (unhide hM).mono ?_; rintro e w1 ⟨rfl, B1⟩; replace B1 := hide B1)
    go_ret2
    exact ⟨_, rfl, own_nil _ _, unhide B1⟩
  | true =>
    obtain ⟨_, hP⟩ := may_iff.1 hq
    have hlo := many_lo hP g
    have hlen := hP.len
    rw [hq, if_pos rfl, if_pos rfl] at hM
    by_cases hE : openE l g = 0
    · obtain ⟨_, n1, n2⟩ := open_ok.1 hE
      rw [hE, openL_ok hE]
      replace hC := fun W n hB => hC W n hB (by omega)
      generalize manyP l g = n at *
      obtain ⟨m, hm⟩ : ∃ m, m = putP l g (n + 1) := ⟨_, rfl⟩
      replace hC := fun W hB => hC W (n + 1) hB
      rw [← hm] at hC ⊢
      clear hq hE hP hm
      have d1 : (n == 64) = false := by rw [beq_eq_false_iff_ne]; exact n1
      replace hM := hide hM; replace hC := hide hC
      obtain ⟨k1, k2⟩ := hlo
      by_cases h0 : n = 0
      · have d2 : ((l.length : Int) == 64) = false := by rw [beq_eq_false_iff_ne]; have := n2 h0; omega
        subst h0
        clear n1 n2
        generalize l.length = z at *
        go_enter Try.func10, Try.ntmps10
        go_wp2_with (first
          | (go_at_call 14; refine (unhide hM).mono ?_; rintro e w1 ⟨rfl, B1⟩; replace B1 := hide B1)
          | (go_at_call 24; refine (unhide hC _ (unhide B1)).mono ?_; rintro e w3 ⟨v', rfl, O3, B3⟩; replace B3 := hide B3; replace O3 := hide O3))
        go_ret2
        exact ⟨_, rfl, ownsRow_mono (unhide O3) (unhide B1).size, (unhide B1).trans ((unhide B3).mono (unhide B1).size)⟩
      · have d2 : (n == 0) = false := by rw [beq_eq_false_iff_ne]; exact h0
        clear n1 n2 h0
        generalize l.length = z at *
        go_enter Try.func10, Try.ntmps10
        go_wp2_with (first
          | (go_at_call 14; refine (unhide hM).mono ?_; rintro e w1 ⟨rfl, B1⟩; replace B1 := hide B1)
          | (go_at_call 24; refine (unhide hC _ (unhide B1)).mono ?_; rintro e w3 ⟨v', rfl, O3, B3⟩; replace B3 := hide B3; replace O3 := hide O3))
        go_ret2
        exact ⟨_, rfl, ownsRow_mono (unhide O3) (unhide B1).size, (unhide B1).trans ((unhide B3).mono (unhide B1).size)⟩
    · have h6 : openE l g = 6 ∧ (manyP l g = 64 ∨ (manyP l g = 0 ∧ l.length = 64)) := by
        unfold openE at hE ⊢
        rw [hq, if_pos rfl] at hE ⊢
        split at hE
        · rename_i h1; rw [if_pos h1]; exact ⟨rfl, h1⟩
        · exact absurd rfl hE
      obtain ⟨e1, h6⟩ := h6
      rw [openL_no hE, e1]
      generalize manyP l g = n at *
      clear hq hE hP hC e1
      replace hM := hide hM
      rcases h6 with rfl | ⟨rfl, h7⟩
      · go_enter Try.func10, Try.ntmps10
        go_wp2_with (go_at_call 14; refine (unhide hM).mono ?_; rintro e w1 ⟨rfl, B1⟩; replace B1 := hide B1)
        go_ret2
        exact ⟨_, rfl, own_nil _ _, unhide B1⟩
      · have d2 : ((l.length : Int) == 64) = true := by rw [beq_iff_eq]; omega
        clear h7
        generalize l.length = z at *
        go_enter Try.func10, Try.ntmps10
        go_wp2_with (go_at_call 14; refine (unhide hM).mono ?_; rintro e w1 ⟨rfl, B1⟩; replace B1 := hide B1)
        go_ret2
        exact ⟨_, rfl, own_nil _ _, unhide B1⟩
set_option maxHeartbeats 1000000 in
theorem rClose_any (lo hi : Nat) (v : Value) (l : List Pn) (g : Int) (w : World) (h : Pns lo hi w v l) (hhi : hi ≤ w.heap.size) (hs : SmL l) :
    Calls Try.prog 12 #[v, .int .u64 g] w fun e w' => ∃ v', e = .returned (.tuple #[v', .int .i64 (closeE l g)]) ∧ OwnP w' w.heap.size v' (closeL l g) ∧ Below w.heap.size w w' := by
  have hM := rmany_any lo hi v l g w h hhi hs
  have hC := fun W n (hB : Below w.heap.size w W) (hl8 : l.length ≤ 100000) => rwith_any lo hi v l g n W (h.below hB hhi) (Nat.le_trans hhi hB.size) hl8
  obtain ⟨A, c, rfl, _, _, _⟩ := h.open2
  clear h hs hhi
  unfold manyN manyE at hM
  cases hq : may l g with
  | false =>
    have e1 : closeE l g = 1 := by unfold closeE; rw [hq]; rfl
    rw [closeL_no (by rw [e1]; decide), e1]
    rw [hq, if_neg (by simp), if_neg (by simp)] at hM
    clear hC hq e1
    replace hM := hide hM
    go_enter Try.func12, Try.ntmps12
    go_wp2_with (go_at_call 14; refine (unhide hM).mono ?_; rintro e w1 ⟨rfl, B1⟩; replace B1 := hide B1)
    go_ret2
    exact ⟨_, rfl, own_nil _ _, unhide B1⟩
  | true =>
    obtain ⟨_, hP⟩ := may_iff.1 hq
    have hlo := many_lo hP g
    have hlen := hP.len
    rw [hq, if_pos rfl, if_pos rfl] at hM
    by_cases h0 : manyP l g = 0
    · have e1 : closeE l g = 4 := by unfold closeE; rw [hq, if_pos rfl, if_pos h0]
      rw [closeL_no (by rw [e1]; decide), e1]
      rw [h0] at hM
      clear hq hP hC e1 hlo h0
      replace hM := hide hM
      go_enter Try.func12, Try.ntmps12
      go_wp2_with (go_at_call 14; refine (unhide hM).mono ?_; rintro e w1 ⟨rfl, B1⟩; replace B1 := hide B1)
      go_ret2
      exact ⟨_, rfl, own_nil _ _, unhide B1⟩
    · have hE : closeE l g = 0 := close_ok.2 ⟨hq, h0⟩
      rw [hE, closeL_ok hE]
      replace hC := fun W n hB => hC W n hB (by omega)
      generalize manyP l g = n at *
      obtain ⟨m, hm⟩ : ∃ m, m = putP l g (n - 1) := ⟨_, rfl⟩
      replace hC := fun W hB => hC W (n - 1) hB
      rw [← hm] at hC ⊢
      clear hq hE hP hm
      have d1 : (n == 0) = false := by rw [beq_eq_false_iff_ne]; exact h0
      replace hM := hide hM; replace hC := hide hC
      obtain ⟨k1, k2⟩ := hlo
      clear h0
      generalize l.length = z at *
      go_enter Try.func12, Try.ntmps12
      go_wp2_with (first
        | (go_at_call 14; refine (unhide hM).mono ?_; rintro e w1 ⟨rfl, B1⟩; replace B1 := hide B1)
        | (go_at_call 24; refine (unhide hC _ (unhide B1)).mono ?_; rintro e w3 ⟨v', rfl, O3, B3⟩; replace B3 := hide B3; replace O3 := hide O3))
      go_ret2
      exact ⟨_, rfl, ownsRow_mono (unhide O3) (unhide B1).size, (unhide B1).trans ((unhide B3).mono (unhide B1).size)⟩
end Go.Proofs.Ythjgnbjobinhdaa
