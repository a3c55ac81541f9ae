import Derived.Test.YthjgnbjobinhdaaP9
namespace Go.Proofs.Ythjgnbjobinhdaa
open Go.RowKit
set_option maxRecDepth 100000

set_option maxHeartbeats 2000000 in
theorem rmany_any (lo hi : Nat) (v : Value) (l : List Pn) (g : Int) (w : World) (h : Pns lo hi w v l) (hhi : hi ≤ w.heap.size) (hs : SmL l) :
    Calls Try.prog 14 #[v, .int .u64 g] w fun e W' => e = .returned (.tuple #[.int .i64 (manyN l g), .int .i64 (manyE l g)]) ∧ Below w.heap.size w W' := by
  have hr := rcheck_any lo hi v l w h hhi hs
  obtain ⟨A, c, rfl, h1, h2, h3⟩ := h.open2
  clear h hs
  unfold checkE at hr
  by_cases hq : may l g = true
  · have hm : manyN l g = manyP l g := by unfold manyN; rw [hq]; rfl
    have he : manyE l g = 0 := by unfold manyE; rw [hq]; rfl
    have hq' := hq
    unfold may at hq'
    rw [Bool.and_eq_true, decide_eq_true_eq] at hq'
    obtain ⟨hg, hp⟩ := hq'
    rw [hp, if_pos rfl] at hr
    rw [hm, he]
    clear hm he hq hp
    have hdone : ∀ k, l.length ≤ k → manyP (l.drop k) g = 0 := fun k hk => by rw [List.drop_of_length_le hk]; rfl
    have hstep : ∀ k, k < l.length → l.drop k = nth l k :: l.drop (k + 1) := fun k hk => by rw [nth_get hk]; exact List.drop_eq_getElem_cons hk
    obtain ⟨n, hn⟩ : ∃ n, n = l.length := ⟨_, rfl⟩
    rw [← hn] at h3 h1 hr hdone hstep ⊢
    clear hn
    have n63 : n ≤ 9223372036854775807 := by omega
    replace h3 := hide h3; replace h1 := hide h1; replace hr := hide hr; replace hdone := hide hdone; replace hstep := hide hstep
    go_enter Try.func14, Try.ntmps14
    go_wp2_with (go_at_call 19; refine (unhide hr).mono ?_; rintro e w1 ⟨rfl, B1⟩; replace B1 := hide B1)
    go_loopw [17] (fun i wr => ∃ k : Nat, k ≤ n ∧ i = .int .i64 k ∧ Hid (manyP l g = manyP (l.drop k) g) ∧ Hid (Below w.heap.size w wr)) (fun i _ => n - (intOf i).toNat)
    case atStart => exact ⟨0, Nat.zero_le _, rfl, hide (by simp), B1⟩
    case round =>
      obtain ⟨k, hk, rfl, hw, hB⟩ := hrel
      by_cases hlt : k < n
      · obtain ⟨b, off, rfl, _, hb, p0, p1⟩ := unhide h3 k hlt
        have hb' : b < wr.heap.size := Nat.lt_of_lt_of_le (Nat.lt_of_lt_of_le hb hhi) (unhide hB).size
        have c0 := ((unhide hB).cell (p := ⟨b, off + k * 2, none⟩) (Nat.lt_of_lt_of_le hb hhi)).trans p0
        have c1 := ((unhide hB).cell (p := ⟨b, off + k * 2 + 1, none⟩) (Nat.lt_of_lt_of_le hb hhi)).trans p1
        have hd := unhide hstep k hlt
        clear p0 p1
        generalize nth l k = f at *
        have hB0 : Hid (Below w.heap.size w (wr.alloc (.cells #[.int .u64 f.g, .int .i64 f.n] 35))) := hide ((unhide hB).alloc (unhide hB).size _)
        by_cases x1 : f.g = g
        · have a1 : (f.g == g) = true := by rw [beq_iff_eq]; exact x1
          have hr2 : manyP l g = f.n := by rw [unhide hw, hd, manyP, if_pos x1]
          replace hr2 := hide hr2; replace hd := hide hd
          clear x1
          go_wp2
          go_ret2
          exact ⟨by rw [unhide hr2]; rfl, unhide hB0⟩
        · have a1 : (f.g == g) = false := by rw [beq_eq_false_iff_ne]; exact x1
          have hr2 : manyP l g = manyP (l.drop (k + 1)) g := by rw [unhide hw, hd, manyP, if_neg x1]
          replace hr2 := hide hr2; replace hd := hide hd
          clear x1
          go_wp2
          go_roundw
          case rel => exact ⟨k + 1, by omega, by go_num, hr2, hB0⟩
          case measure => simp [intOf]; omega
      · obtain rfl : k = n := by omega
        have hg2 : manyP l g = 0 := (unhide hw).trans (unhide hdone _ (Nat.le_refl _))
        replace hg2 := hide hg2
        go_wp2
        go_ret2
        exact ⟨by rw [unhide hg2]; rfl, unhide hB⟩
  · have hm : manyN l g = 0 := by unfold manyN; rw [if_neg hq]
    have he : manyE l g = 1 := by unfold manyE; rw [if_neg hq]
    rw [hm, he]
    have hq' : ¬ (pinsB l = true ∧ g ≤ 1099511627776) := fun h => hq (by unfold may; rw [h.1, decide_eq_true h.2]; rfl)
    clear hm he hq h3
    cases hp : pinsB l with
    | true =>
      rw [hp, if_pos rfl] at hr
      have d1 : (1099511627776 : Int) < g := by
        by_cases h : g ≤ 1099511627776
        · exact absurd ⟨hp, h⟩ hq'
        · omega
      clear hq' hp
      replace hr := hide hr
      go_enter Try.func14, Try.ntmps14
      go_wp2_with (go_at_call 19; refine (unhide hr).mono ?_; rintro e w1 ⟨rfl, B1⟩)
      go_ret2
      exact ⟨rfl, B1⟩
    | false =>
      rw [hp, if_neg (by simp)] at hr
      clear hq' hp
      replace hr := hide hr
      go_enter Try.func14, Try.ntmps14
      go_wp2_with (go_at_call 19; refine (unhide hr).mono ?_; rintro e w1 ⟨rfl, B1⟩)
      go_ret2
      exact ⟨rfl, B1⟩
theorem rleast_any (lo hi : Nat) (v : Value) (l : List Pn) (w : World) (h : Pns lo hi w v l) (hhi : hi ≤ w.heap.size) (hs : SmL l) :
    Calls Try.prog 16 #[v] w fun e w' => e = .returned (.tuple #[.int .u64 (leastG l), .int .i64 (leastE l)]) ∧ Below w.heap.size w w' := by
  have hr := rcheck_any lo hi v l w h hhi hs
  obtain ⟨A, c, rfl, _, _, h3⟩ := h.open2
  clear h hs
  unfold checkE at hr
  unfold leastG leastE
  cases hq : pinsB l with
  | true =>
    rw [hq, if_pos rfl] at hr
    replace hr := hide hr
    rw [if_pos rfl]
    by_cases h0 : l.length = 0
    · rw [if_pos h0, if_neg (by decide)]
      rw [h0]
      clear h3
      go_enter Try.func16, Try.ntmps16
      rw [h0] at hr
      go_wp2_with (go_at_call 19; refine (unhide hr).mono ?_; rintro e w1 ⟨rfl, hb1⟩; replace hb1 := hide hb1)
      go_ret2
      exact ⟨rfl, unhide hb1⟩
    · rw [if_neg h0, if_pos rfl]
      obtain ⟨b, off, rfl, g1, g2, q0, q1⟩ := h3 0 (by omega)
      have g3 : b < w.heap.size := by omega
      rw [Nat.zero_mul, Nat.add_zero] at q0
      have hl0 : 0 < l.length := by omega
      have d1 : ((l.length : Int) == 0) = false := by rw [beq_eq_false_iff_ne]; omega
      have d2 : (0 : Int) < (l.length : Int) := by omega
      generalize l.length = n at *
      generalize (nth l 0).g = y at *
      clear h3 g1 q1 h0
      go_enter Try.func16, Try.ntmps16
      go_wp2_with (go_at_call 19; refine (unhide hr).mono ?_; rintro e w1 ⟨rfl, hb1⟩; replace hb1 := hide hb1; (have c1 := ((unhide hb1).cell (p := ⟨b, off, none⟩) g3).trans q0); (have g4 := Nat.lt_of_lt_of_le g3 (unhide hb1).size); clear q0)
      go_ret2
      exact ⟨rfl, unhide hb1⟩
  | false =>
    rw [hq, if_neg (by simp)] at hr
    replace hr := hide hr
    rw [if_neg (by simp), if_neg (by decide)]
    clear h3
    go_enter Try.func16, Try.ntmps16
    go_wp2_with (go_at_call 19; refine (unhide hr).mono ?_; rintro e w1 ⟨rfl, hb1⟩; replace hb1 := hide hb1)
    go_ret2
    exact ⟨rfl, unhide hb1⟩
end Go.Proofs.Ythjgnbjobinhdaa
