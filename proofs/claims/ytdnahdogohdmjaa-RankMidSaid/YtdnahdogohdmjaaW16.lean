import Derived.Test.YtdnahdogohdmjaaW15
namespace Go.Proofs.Ytdnahdogohdmjaa
open Go.RowKit
set_option maxRecDepth 100000

theorem refSame_at {a b : Nat} (ha : a < 18446744073709551616) (hb : b < 18446744073709551616) (B : Bool) (hB : B = (keyF a == keyF b)) (w : World) : Calls Try.prog 15 #[.float .f64 a, .float .f64 b] w fun r w' => r = .returned (.bool B) ∧ w' = w :=
  (refSame_any a b ha hb w).mono fun _ _ h => ⟨by rw [hB]; exact h.1, h.2.symm⟩
/-- Two lists are the same up to place 'k'. -/
def SameTo (l m : List Nat) (k : Nat) : Prop := ∀ i, i < k → ky l i = ky m i
theorem same_all {l m : List Nat} (h : l.length = m.length) (hs : SameTo l m l.length) : l.map keyF = m.map keyF := by
  apply List.ext_getElem
  · simpa using h
  · intro i h1 h2
    rw [List.length_map] at h1 h2
    rw [List.getElem_map, List.getElem_map]
    have := hs i h1
    unfold ky at this
    rwa [nth_get h1, nth_get h2] at this
theorem not_same {l m : List Nat} {k : Nat} (h1 : k < l.length) (h2 : k < m.length) (h : ky l k ≠ ky m k) : ¬ l.map keyF = m.map keyF := fun e => h (by
  unfold ky
  rw [nth_get h1, nth_get h2]
  have := congrArg (fun x => x[k]?) e
  simpa [h1, h2] using this)
theorem drew2 (w : World) (a b : Nat) : (w.drewN a).drewN b = w.drewN (a + b) := by simp [World.drewN, Nat.add_assoc]

attribute [local go_sem] run_store_float m_neg m_lt m_gt m_eq m_ne x_bits x_from eq_self_ Bool.not_not
set_option maxHeartbeats 1000000 in
theorem SameList_any (lo lo' : Nat) (v v' : Value) (l m : List Nat) (w : World) (h : Fs lo w.heap.size w v l) (h' : Fs lo' w.heap.size w v' m) (hs : Small l) (hs' : Small m) (hL : l.length ≤ 1000000) :
    Calls Try.prog 22 #[v, v'] w fun e w' => e = .returned (.bool (decide (l.map keyF = m.map keyF))) ∧ ∃ n, w' = w.drewN n := by
  obtain ⟨A, c, rfl, x0⟩ := id h
  obtain ⟨A', c', rfl, x1⟩ := id h'
  clear x0 x1
  by_cases hlen : l.length = m.length
  · obtain ⟨n, hn⟩ : ∃ n, n = l.length := ⟨_, rfl⟩
    rw [← hlen, ← hn] at h'
    rw [← hn] at h hL
    obtain ⟨z0, _, _, hc⟩ := h.get
    obtain ⟨z1, _, _, hc'⟩ := h'.get
    rw [← hlen, ← hn]
    replace hc := hide hc; replace hc' := hide hc'; replace hs := hide hs; replace hs' := hide hs'; replace hlen := hide hlen; replace hn := hide hn
    clear z0 z1 h h'
    go_enter Try.func22, Try.ntmps22
    go_wp2_with (fail)
    go_loopw [13] (fun i wr => ∃ k q : Nat, k ≤ n ∧ i = .int .i64 k ∧ Hid (SameTo l m k) ∧ wr = w.drewN q) (fun i _ => n - (intOf i).toNat)
    case atStart => exact ⟨0, 0, Nat.zero_le _, rfl, hide (fun i hi => absurd hi (Nat.not_lt_zero _)), rfl⟩
    case round =>
      obtain ⟨k, q, hk, rfl, hS, hw⟩ := hrel
      by_cases hlt : k < n
      · obtain ⟨b, off, rfl, _, _, hcl⟩ := unhide hc (by omega)
        obtain ⟨b', off', rfl, _, _, hcl'⟩ := unhide hc' (by omega)
        have kl : k < l.length := by have := unhide hn; omega
        have km : k < m.length := by have := unhide hlen; omega
        have c1 : wr.cell? ⟨b, off + k, none⟩ = some (.float .f64 (nth l k)) := by rw [hw, nth_get kl]; exact hcl k kl
        have c2 : wr.cell? ⟨b', off' + k, none⟩ = some (.float .f64 (nth m k)) := by rw [hw, nth_get km]; exact hcl' k km
        obtain ⟨B, hB⟩ : ∃ B : Bool, B = (ky l k == ky m k) := ⟨_, rfl⟩
        have hC := fun W => refSame_at (unhide hs k) (unhide hs' k) B hB W
        obtain ⟨e1, he1⟩ : ∃ e1, nth l k = e1 := ⟨_, rfl⟩
        obtain ⟨e2, he2⟩ : ∃ e2, nth m k = e2 := ⟨_, rfl⟩
        rw [he1] at c1 hC
        rw [he2] at c2 hC
        replace hC := hide hC; replace kl := hide kl; replace km := hide km; replace hB := hide hB; replace hw := hide hw
        clear he1 he2 hcl hcl'
        go_upto_region 6 with (fail)
        go_quiet ((go_at_call 15; refine Calls.quiet_of_same (unhide hC _)))
        have hw2 : Hid (wr.drewN nq = w.drewN (q + nq)) := hide (by rw [unhide hw, drew2])
        clear c1 c2 hw
        generalize wr.drewN nq = w1 at *
        cases B with
        | true =>
          have hS2 : Hid (SameTo l m (k + 1)) := hide (fun i hi => by
            rcases Nat.lt_or_ge i k with h | h
            · exact (unhide hS) i h
            · rw [show i = k by omega]; have := unhide hB; simpa using this.symm)
          go_wp2
          go_roundw
          case rel => exact ⟨k + 1, q + nq, hlt, by go_num, hS2, unhide hw2⟩
          case measure => simp [intOf]; omega
        | false =>
          go_wp2
          go_ret
          exact ⟨ret_b rfl (by rw [decide_eq_false (not_same (unhide kl) (unhide km) (by have := unhide hB; simpa using this.symm))]), _, unhide hw2⟩
      · obtain rfl : k = n := by omega
        replace hw := hide hw
        go_wp2
        go_ret
        exact ⟨ret_b rfl (by rw [decide_eq_true (same_all (unhide hlen) (by rw [← unhide hn]; exact unhide hS))]), _, unhide hw⟩
  · have hne : ((l.length : Int) == (m.length : Int)) = false := by rw [beq_eq_false_iff_ne]; omega
    have hd : ¬ l.map keyF = m.map keyF := fun e => hlen (by simpa using congrArg List.length e)
    clear h h' hs hs' hL hlen
    replace hd := hide hd
    generalize l.length = n1 at *
    generalize m.length = n2 at *
    go_enter Try.func22, Try.ntmps22
    go_wp2
    all_goals go_ret
    all_goals exact ⟨ret_b rfl (by rw [decide_eq_false (unhide hd)]), 0, rfl⟩
end Go.Proofs.Ytdnahdogohdmjaa
