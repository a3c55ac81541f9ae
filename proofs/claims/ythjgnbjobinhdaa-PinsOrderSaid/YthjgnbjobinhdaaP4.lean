import Derived.Test.YthjgnbjobinhdaaP3
import Derived.Laws.StructEq
namespace Go.Proofs.Ythjgnbjobinhdaa
open Go.RowKit
set_option maxRecDepth 100000

theorem check_any (lo hi : Nat) (v : Value) (l : List Pn) (w : World) (h : Pns lo hi w v l) (hhi : hi ≤ w.heap.size) (hs : SmL l) :
    Calls Try.prog 18 #[v] w fun e w' => e = .returned (.int .i64 (checkE l)) ∧ Below w.heap.size w w' := by
  have hr := rise_any lo hi v l w h hhi hs
  obtain ⟨A, c, rfl, _, _, _⟩ := h.open2
  clear h hs
  by_cases hl : l.length ≤ 64
  · have hp : pinsB l = rise 0 l := by unfold pinsB; rw [decide_eq_true hl]; rfl
    unfold checkE
    rw [hp]
    clear hp
    cases hq : rise 0 l with
    | true =>
      rw [hq] at hr
      replace hr := hide hr
      go_enter Try.func18, Try.ntmps18
      go_wp2_with (go_at_call 25; refine (unhide hr).mono ?_; rintro e w1 ⟨rfl, hb1⟩)
      go_ret
      exact ⟨rfl, hb1⟩
    | false =>
      rw [hq] at hr
      replace hr := hide hr
      go_enter Try.func18, Try.ntmps18
      go_wp2_with (go_at_call 25; refine (unhide hr).mono ?_; rintro e w1 ⟨rfl, hb1⟩)
      go_ret
      exact ⟨rfl, hb1⟩
  · have hp : checkE l = 1 := by unfold checkE pinsB; rw [decide_eq_false hl]; rfl
    rw [hp]
    clear hr hp
    have d1 : (64 : Int) < (l.length : Int) := by omega
    go_enter Try.func18, Try.ntmps18
    go_wp2
    go_ret
    exact ⟨rfl, Below.refl _ _⟩
theorem may_any (lo hi : Nat) (v : Value) (l : List Pn) (g : Int) (w : World) (h : Pns lo hi w v l) (hhi : hi ≤ w.heap.size) (hs : SmL l) :
    Calls Try.prog 21 #[v, .int .u64 g] w fun e w' => e = .returned (.bool (may l g)) ∧ Below w.heap.size w w' := by
  have hr := check_any lo hi v l w h hhi hs
  obtain ⟨A, c, rfl, _, _, _⟩ := h.open2
  clear h hs
  unfold may
  by_cases hg : g ≤ 1099511627776
  · rw [decide_eq_true hg, Bool.true_and]
    unfold checkE at hr
    cases hq : pinsB l with
    | true =>
      rw [hq, if_pos rfl] at hr
      replace hr := hide hr
      go_enter Try.func21, Try.ntmps21
      go_wp2_with (go_at_call 18; refine (unhide hr).mono ?_; rintro e w1 ⟨rfl, hb1⟩)
      go_ret
      exact ⟨rfl, hb1⟩
    | false =>
      rw [hq, if_neg (by simp)] at hr
      replace hr := hide hr
      go_enter Try.func21, Try.ntmps21
      go_wp2_with (go_at_call 18; refine (unhide hr).mono ?_; rintro e w1 ⟨rfl, hb1⟩)
      go_ret
      exact ⟨rfl, hb1⟩
  · rw [decide_eq_false hg, Bool.false_and]
    clear hr
    go_enter Try.func21, Try.ntmps21
    go_wp2
    go_ret
    exact ⟨rfl, Below.refl _ _⟩
set_option maxHeartbeats 1000000 in
theorem many_any (lo hi : Nat) (v : Value) (l : List Pn) (g : Int) (w : World) (h : Pns lo hi w v l) (hhi : hi ≤ w.heap.size) :
    Calls Try.prog 22 #[v, .int .u64 g] w fun e w' => e = .returned (.int .i64 (manyP l g)) ∧ Below w.heap.size w w' := by
  have hf := fun W (hB : Below w.heap.size w W) (hg : Blk W w.heap.size 23 #[.int .u64 g]) => first28_any (.pointer (some ⟨w.heap.size, 0, none⟩)) (fun p => p.g == g) lo hi v l W (h.below hB hhi) (Nat.le_trans hhi hB.size)
    (fun f W' hB' => eq_any f g w.heap.size W' (hg.below hB' hg.lt))
  have hf' := fun (o : Obj) (e : o = .cells #[.int .u64 g] 23) => hf (w.alloc o) (bl_alloc (Below.refl _ _) _) (by rw [e]; exact Blk.new rfl)
  clear hf
  have hm := ahead_many l g
  have hle := ahead_le (fun p => p.g == g) l
  obtain ⟨A, c, rfl, h1, h2, h3⟩ := h.open2
  clear h
  obtain ⟨k, hk⟩ : ∃ k, k = ahead (fun p => p.g == g) l := ⟨_, rfl⟩
  obtain ⟨n, hn⟩ : ∃ n, n = l.length := ⟨_, rfl⟩
  rw [← hk] at hm hle hf'
  rw [← hn] at hm hle h1 h3 hf' ⊢
  clear hk hn
  replace hf' := hide hf'
  by_cases e : k = n
  · rw [if_pos e] at hm
    rw [hm]
    subst e
    replace h3 := hide h3
    clear hm hle
    go_enter Try.func22, Try.ntmps22
    go_wp2_with (go_at_call 27; refine (unhide hf' _ rfl).mono ?_; rintro e w1 ⟨rfl, hb1⟩; replace hb1 := hide hb1)
    go_ret
    exact ⟨rfl, (bl_alloc (Below.refl _ _) _).trans ((unhide hb1).mono (by simp only [World.size_alloc]; omega))⟩
  · rw [if_neg e] at hm
    rw [hm]
    have hlt : k < n := by omega
    have d1 : ((k : Int) == (n : Int)) = false := by rw [beq_eq_false_iff_ne]; omega
    obtain ⟨b, off, rfl, g1, g2, q0, q1⟩ := h3 k hlt
    have g3 : b < w.heap.size := by omega
    replace hm := hide hm
    clear h3 g1 q0 hle e
    generalize (nth l k).n = y at *
    go_enter Try.func22, Try.ntmps22
    go_wp2_with (go_at_call 27; refine (unhide hf' _ rfl).mono ?_; rintro e w1 ⟨rfl, hb1⟩; (have hb2 := hide ((bl_alloc (Below.refl w.heap.size w) _).trans (hb1.mono (by simp only [World.size_alloc]; omega)))); clear hb1; (have c1 := ((unhide hb2).cell (p := ⟨b, off + k * 2 + 1, none⟩) g3).trans q1); (have g4 := Nat.lt_of_lt_of_le g3 (unhide hb2).size); clear q1)
    go_ret
    exact ⟨rfl, unhide hb2⟩
theorem Many_any (lo hi : Nat) (v : Value) (l : List Pn) (g : Int) (w : World) (h : Pns lo hi w v l) (hhi : hi ≤ w.heap.size) (hs : SmL l) :
    Calls Try.prog 13 #[v, .int .u64 g] w fun e w' => e = .returned (.tuple #[.int .i64 (manyN l g), .int .i64 (manyE l g)]) ∧ Below w.heap.size w w' := by
  have hm := may_any lo hi v l g w h hhi hs
  have hn := fun W (hB : Below w.heap.size w W) => many_any lo hi v l g W (h.below hB hhi) (Nat.le_trans hhi hB.size)
  obtain ⟨A, c, rfl, _, _, _⟩ := h.open2
  clear h hs
  unfold manyN manyE
  cases hq : may l g with
  | true =>
    rw [hq] at hm
    replace hm := hide hm; replace hn := hide hn
    rw [if_pos rfl, if_pos rfl]
    go_enter Try.func13, Try.ntmps13
    go_wp2_with (first
      | (go_at_call 21; refine (unhide hm).mono ?_; rintro e w1 ⟨rfl, hb1⟩; replace hb1 := hide hb1)
      | (go_at_call 22; refine (unhide hn _ (unhide hb1)).mono ?_; rintro e w2 ⟨rfl, hb2⟩; replace hb2 := hide hb2))
    go_ret2
    exact ⟨rfl, (unhide hb1).trans ((unhide hb2).mono (unhide hb1).size)⟩
  | false =>
    rw [hq] at hm
    replace hm := hide hm; clear hn
    rw [if_neg (by simp), if_neg (by simp)]
    go_enter Try.func13, Try.ntmps13
    go_wp2_with (go_at_call 21; refine (unhide hm).mono ?_; rintro e w1 ⟨rfl, hb1⟩; replace hb1 := hide hb1)
    go_ret2
    exact ⟨rfl, unhide hb1⟩
theorem Least_any (lo hi : Nat) (v : Value) (l : List Pn) (w : World) (h : Pns lo hi w v l) (hhi : hi ≤ w.heap.size) (hs : SmL l) :
    Calls Try.prog 15 #[v] w fun e w' => e = .returned (.tuple #[.int .u64 (leastG l), .int .i64 (leastE l)]) ∧ Below w.heap.size w w' := by
  have hr := check_any lo hi v l w h hhi hs
  obtain ⟨A, c, rfl, _, _, h3⟩ := h.open2
  clear h hs
  unfold checkE at hr
  unfold leastG leastE
  cases hq : pinsB l with
  | true =>
    rw [hq, if_pos rfl] at hr
    replace hr := hide hr
    rw [if_pos rfl]
    by_cases h0 : l.length = 0
    · rw [if_pos h0, if_neg (by decide)]
      rw [h0]
      clear h3
      go_enter Try.func15, Try.ntmps15
      rw [h0] at hr
      go_wp2_with (go_at_call 18; refine (unhide hr).mono ?_; rintro e w1 ⟨rfl, hb1⟩; replace hb1 := hide hb1)
      go_ret2
      exact ⟨rfl, unhide hb1⟩
    · rw [if_neg h0, if_pos rfl]
      obtain ⟨b, off, rfl, g1, g2, q0, q1⟩ := h3 0 (by omega)
      have g3 : b < w.heap.size := by omega
      rw [Nat.zero_mul, Nat.add_zero] at q0
      have hl0 : 0 < l.length := by omega
      have d1 : ((l.length : Int) == 0) = false := by rw [beq_eq_false_iff_ne]; omega
      have d2 : (0 : Int) < (l.length : Int) := by omega
      generalize l.length = n at *
      generalize (nth l 0).g = y at *
      clear h3 g1 q1 h0
      go_enter Try.func15, Try.ntmps15
      go_wp2_with (go_at_call 18; refine (unhide hr).mono ?_; rintro e w1 ⟨rfl, hb1⟩; replace hb1 := hide hb1; (have c1 := ((unhide hb1).cell (p := ⟨b, off, none⟩) g3).trans q0); (have g4 := Nat.lt_of_lt_of_le g3 (unhide hb1).size); clear q0)
      go_ret2
      exact ⟨rfl, unhide hb1⟩
  | false =>
    rw [hq, if_neg (by simp)] at hr
    replace hr := hide hr
    rw [if_neg (by simp), if_neg (by decide)]
    clear h3
    go_enter Try.func15, Try.ntmps15
    go_wp2_with (go_at_call 18; refine (unhide hr).mono ?_; rintro e w1 ⟨rfl, hb1⟩; replace hb1 := hide hb1)
    go_ret2
    exact ⟨rfl, unhide hb1⟩
end Go.Proofs.Ythjgnbjobinhdaa
