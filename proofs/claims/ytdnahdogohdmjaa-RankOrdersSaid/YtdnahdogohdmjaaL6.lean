import Derived.Test.YtdnahdogohdmjaaW17
namespace Go.Proofs.Ytdnahdogohdmjaa
open Go.RowKit
set_option maxRecDepth 100000

theorem Row.set1 {g : Nat} {sp : List Value} {w0 w : World} {d : List Nat} (h : Row g sp w0 w d) {i : Nat} (hi : i < d.length) (b : Nat) : Row g sp w0 (w.setCell ⟨g, i, none⟩ (.float .f64 b)) (d.set i b) := by
  refine ⟨?_, h.only.set _ _⟩
  have := h.blk.set i (.float .f64 b)
  rwa [rwA_set hi] at this
theorem ordered_same {l d e : List Nat} (h : Ordered l d) (h' : Ordered l e) : decide (d.map keyF = e.map keyF) = true :=
  decide_eq_true (keys_same ((h.2.1.trans h'.2.1.symm).map keyF) h.2.2.1 h'.2.2.1)

attribute [local go_sem] run_store_float m_neg m_lt m_gt m_eq m_ne x_bits x_from eq_self_ Bool.not_not
set_option maxHeartbeats 1000000 in
theorem RankOrders_any (v : Value) (l : List Nat) (w : World) (h : Fs 0 w.heap.size w v l) (hs : Small l) : Calls Try.prog 4 #[v] w fun e w' => e = .returned (.bool true) ∧ Below w.heap.size w w' := by
  have hL := live_any w
  obtain ⟨i0, hi0, hz0, hz1, hz2⟩ := info_parts info22
  obtain ⟨A, c, rfl, x0⟩ := id h
  clear x0
  obtain ⟨n, hn⟩ : ∃ n, n = l.length := ⟨_, rfl⟩
  rw [← hn] at h ⊢
  replace hL := hide hL; replace h := hide h; replace hs := hide hs
  by_cases hg : n ≤ 100
  · have h9 : ¬ (100 : Int) < (n : Int) := by omega
    have k1 : (l.map (Value.float .f64)).length = n * 1 := by rw [List.length_map, hn, Nat.mul_one]
    have hl6 : l.length ≤ 1000000 := by omega
    have u1 : 0 + n ≤ maxLen := by simp only [maxLen]; omega
    have u2 : (0 + n) * 8 ≤ 140737488355328 := by omega
    replace hn := hide hn; replace k1 := hide k1; replace hl6 := hide hl6; replace u1 := hide u1; replace u2 := hide u2
    have tk0 : True := trivial
    go_enter Try.func4, Try.ntmps4
    go_wp2_with (first
      | (go_at_call 10; refine (unhide hL).mono ?_; rintro ez w1 ⟨rfl, hbl⟩; have r1 := Rd.grow (unhide h) hbl; replace hbl := hide hbl; replace r1 := hide r1)
      | (at_builtin
         refine wpList_app _ rfl (.const (.slice none 0 0)) (.tmp 13) 33 rfl w1.heap.size 22 i0 _ 1 8 Try.underlying33 hi0 hz0 hz1 hz2 rfl (Nat.succ_pos _) _ 0 [] rfl (World.ownsRow_nil _ _ _ _) A n c (l.map (Value.float .f64)) rfl (unhide k1) (fs_src (unhide r1)) (fl_ones _) (unhide u1) (unhide u2) (Nat.le_refl _) ?_
         intro v1 w2 o1 gr1
         rw [Nat.zero_add, List.nil_append] at o1
         have b1 : Below w1.heap.size w1 w2 := (Below.refl _ _).grown gr1 (Nat.le_refl _) (by intro k hk; cases hk)
         have r2 := Rd.grow (unhide r1) b1
         obtain ⟨A1, c1, rfl⟩ := ownsRow_form o1
         replace b1 := hide b1; replace r2 := hide r2; replace o1 := hide o1; clear gr1)
      | (go_at_call 21; refine (Order_any 0 _ l _ (unhide r2) (unhide hs) (unhide hl6)).mono ?_; rintro ez w3 ⟨v3, d3, rfl, o3, q3, b3⟩
         have r3 := Rd.grow (unhide r2) b3
         have e3 : d3.length = n := by rw [q3.1, unhide hn]
         rw [e3] at o3
         obtain ⟨A3, c3, rfl⟩ := ownsRow_form o3
         replace b3 := hide b3; replace r3 := hide r3; replace o3 := hide o3; replace q3 := hide q3; replace e3 := hide e3)
      | (go_at_call 23; refine (refOrder_any 0 _ l _ (unhide r3) (unhide hs) (unhide hl6)).mono ?_; rintro ez w4 ⟨v4, d4, rfl, o4, q4, b4⟩
         have e4 : d4.length = n := by rw [q4.1, unhide hn]
         rw [e4] at o4
         obtain ⟨A4, c4, rfl⟩ := ownsRow_form o4
         have o3b := own_below (unhide o3) b4 (Nat.le_refl _)
         replace b4 := hide b4; replace o4 := hide o4; replace q4 := hide q4; replace e4 := hide e4; replace o3b := hide o3b)
      | (have _t := tk0; clear tk0 _t; go_at_call 22; refine (SameList_any w2.heap.size w3.heap.size _ _ d3 d4 _ (fs_own (unhide o3b)) (fs_own (unhide o4)) (unhide q3).2.2.2 (unhide q4).2.2.2 (by rw [(unhide q3).1]; exact unhide hl6)).mono ?_; rintro ez w5 ⟨rfl, n5, rfl⟩; rw [ordered_same (unhide q3) (unhide q4)])
      | fail)
    have o5 : (w4.drewN n5).ownsRow w2.heap.size 22 1 (.slice A3 d3.length c3) d3.length (d3.map (Value.float .f64)) := by rw [unhide e3]; exact unhide o3b
    have b5 : Below w2.heap.size w2 (w4.drewN n5) := below_drewN ((unhide b3).trans ((unhide b4).mono (unhide b3).size)) n5
    have ow := fs_own (unhide o1)
    generalize w4.drewN n5 = w6 at *
    rcases own_row o5 with ⟨e, h0⟩ | ⟨g, c6, sp, e, g1, g2, g3, g4, g5⟩
    · injection e with x1 x2 x3
      have n0 : n = 0 := by have := unhide e3; omega
      replace b5 := hide b5; replace ow := hide ow
      clear o5 h0 x1 x2 x3
      subst n0
      go_loopw [23] (fun i wr => i = .int .i64 0 ∧ wr = w6) (fun _ _ => 0)
      case atStart => exact ⟨rfl, rfl⟩
      case round =>
        obtain ⟨rfl, rfl⟩ := hrel
        go_wp2_with (go_at_call 22; refine (SameList_any 0 w1.heap.size _ _ l l _ (Rd.grow (unhide r2) (unhide b5)) (Rd.grow (unhide ow) (unhide b5)) (unhide hs) (unhide hs) (unhide hl6)).mono ?_; rintro ez w7 ⟨rfl, n7, rfl⟩; rw [decide_eq_true rfl])
        go_ret
        exact ⟨rfl, below_drewN (bl_call (bl_call (unhide hbl) (unhide b1)) (unhide b5)) n7⟩
    · injection e with x1 x2 x3
      subst x1 x3
      have q0 : Hid (Row g sp w6 w6 d3) := hide g4
      replace b5 := hide b5; replace ow := hide ow; replace g1 := hide g1
      clear o5 x2 g2 g3 g5 g4
      go_loopw [23] (fun i wr => ∃ (k : Nat) (e : List Nat), k ≤ n ∧ i = .int .i64 k ∧ Hid (e.length = n) ∧ Hid (Row g sp w6 wr e)) (fun i _ => n - (intOf i).toNat)
      case atStart => exact ⟨0, d3, Nat.zero_le _, rfl, e3, q0⟩
      case round =>
        clear q0
        obtain ⟨k, e, hk, rfl, hel, hr⟩ := hrel
        by_cases hlt : k < n
        · have f1 := (unhide hr).frozen k
          have f2 := (unhide hr).cell (i := k) (by have := unhide hel; omega)
          have hr2 := hide ((unhide hr).set1 (i := k) (by have := unhide hel; omega) 4619567317775286272)
          have hel2 : Hid ((e.set k 4619567317775286272).length = n) := hide (by rw [List.length_set]; exact unhide hel)
          go_wp2
          go_roundw
          case rel => exact ⟨k + 1, _, hlt, by go_num, hel2, hr2⟩
          case measure => simp [intOf]; omega
        · have b6 : Below w2.heap.size w2 wr := (unhide b5).trans ((unhide hr).only.below (unhide g1))
          replace b6 := hide b6
          go_wp2_with (go_at_call 22; refine (SameList_any 0 w1.heap.size _ _ l l _ (Rd.grow (unhide r2) (unhide b6)) (Rd.grow (unhide ow) (unhide b6)) (unhide hs) (unhide hs) (unhide hl6)).mono ?_; rintro ez w7 ⟨rfl, n7, rfl⟩; rw [decide_eq_true rfl])
          all_goals go_ret
          all_goals exact ⟨rfl, below_drewN (bl_call (bl_call (unhide hbl) (unhide b1)) (unhide b6)) n7⟩
  · have h9 : (100 : Int) < (n : Int) := by omega
    go_enter Try.func4, Try.ntmps4
    go_wp2_with (go_at_call 10; refine (unhide hL).mono ?_; rintro ez w1 ⟨rfl, hbl⟩; replace hbl := hide hbl)
    all_goals go_ret
    all_goals exact ⟨rfl, unhide hbl⟩
end Go.Proofs.Ytdnahdogohdmjaa
