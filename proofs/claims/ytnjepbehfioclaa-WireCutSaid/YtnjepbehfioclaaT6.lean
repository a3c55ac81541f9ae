import Derived.Test.YtnjepbehfioclaaT5
namespace Go.Proofs.Ytnjepbehfioclaa
open Go.RowKit
attribute [local go_sem] bz_size bz_toList run_store_float
set_option maxRecDepth 100000

theorem tcheck_any (lo hi : Nat) (v : Value) (l : List Fl) (w : World) (h : Fls lo hi w v l) (hhi : hi ≤ w.heap.size) (hs : SmL l) :
    Calls Try.prog 20 #[v] w fun e W' => e = .returned (.int .i64 (errB (tabB l))) ∧ Below w.heap.size w W' := by
  have H := fun W (hB : Below w.heap.size w W) => isTable_any lo hi v l W (h.below hB hhi) (Nat.le_trans hhi hB.size) hs
  clear h hhi hs
  cases ht : tabB l with
  | true =>
    rw [ht] at H
    replace H := hide H
    go_enter Try.func20, Try.ntmps20
    go_wp2_with (go_at_call 33; refine (unhide H _ (Below.refl _ _)).mono ?_; rintro e w1 ⟨rfl, B1⟩)
    go_ret
    exact ⟨rfl, B1⟩
  | false =>
    rw [ht] at H
    replace H := hide H
    go_enter Try.func20, Try.ntmps20
    go_wp2_with (go_at_call 33; refine (unhide H _ (Below.refl _ _)).mono ?_; rintro e w1 ⟨rfl, B1⟩)
    go_ret
    exact ⟨rfl, B1⟩

/-! ### two lists, one by one -/
def OneAll (a b : List Fl) (k : Nat) : Prop := ∀ j, j < k → fOne (nth a j) (nth b j) = true
theorem one_succ {a b : List Fl} {k : Nat} (h : OneAll a b k) (h1 : fOne (nth a k) (nth b k) = true) : OneAll a b (k + 1) := fun j hj => by
  rcases Nat.lt_or_ge j k with h2 | h2
  · exact h j h2
  · rw [show j = k by omega]; exact h1
theorem same_all {a b : List Fl} (h0 : a.length = b.length) (h : OneAll a b a.length) : sameB a b = true := by
  unfold sameB; rw [decide_eq_true h0, Bool.true_and, List.all_eq_true]; exact fun i hi => h i (List.mem_range.1 hi)
theorem same_bad {a b : List Fl} {k : Nat} (hk : k < a.length) (h : fOne (nth a k) (nth b k) = false) : sameB a b = false := by
  unfold sameB; rw [Bool.and_eq_false_iff]; right; rw [List.all_eq_false]; exact ⟨k, List.mem_range.2 hk, by rw [h]; simp⟩
theorem same_len {a b : List Fl} (h : a.length ≠ b.length) : sameB a b = false := by unfold sameB; rw [decide_eq_false h]; rfl

set_option maxHeartbeats 1000000 in
theorem equalFunc_any (lo hi lo' hi' : Nat) (v v' : Value) (a b : List Fl) (w : World) (h : Fls lo hi w v a) (h' : Fls lo' hi' w v' b) (hhi : hi ≤ w.heap.size) (hhi' : hi' ≤ w.heap.size) (hs : SmL a) (hs' : SmL b) :
    Calls Try.prog 34 #[v, v', .func (.func 35) #[] #[]] w fun e W' => e = .returned (.bool (sameB a b)) ∧ Below w.heap.size w W' := by
  obtain ⟨A, c, rfl, h1, h2, h3⟩ := h.open6
  obtain ⟨A', c', rfl, h1', h2', h3'⟩ := h'.open6
  clear h h'
  by_cases hl : a.length = b.length
  · obtain ⟨n, hn⟩ : ∃ n, n = a.length := ⟨_, rfl⟩
    rw [← hl] at h3' h1' ⊢
    rw [← hn] at h3 h1 h3' h1' ⊢
    have n63 : n ≤ 9223372036854775807 := by omega
    replace hn := hide hn; replace h3 := hide h3; replace hs := hide hs; replace h1 := hide h1; replace h3' := hide h3'; replace hs' := hide hs'; replace h1' := hide h1'; replace hl := hide hl
    go_enter Try.func34, Try.ntmps34
    go_wp2
    go_loopw [17] (fun i wr => ∃ k : Nat, k ≤ n ∧ i = .int .i64 k ∧ Hid (OneAll a b k) ∧ Hid (Below w.heap.size w wr)) (fun i _ => n - (intOf i).toNat)
    case atStart => exact ⟨0, Nat.zero_le _, rfl, hide (fun j hj => absurd hj (Nat.not_lt_zero _)), hide (Below.refl _ _)⟩
    case round =>
      obtain ⟨k, hk, rfl, hall, hB⟩ := hrel
      by_cases hlt : k < n
      · have ha : k < a.length := by rw [← unhide hn]; exact hlt
        have hb : k < b.length := by rw [← unhide hl]; exact ha
        obtain ⟨g, off, rfl, _, hg, hc⟩ := unhide h3 k hlt
        obtain ⟨g', off', rfl, _, hg', hc'⟩ := unhide h3' k hlt
        obtain ⟨c0, c1, c2, c3, c4, c5⟩ := six (below_load (unhide hB) (Nat.lt_of_lt_of_le hg hhi) hc)
        obtain ⟨d0, d1, d2, d3, d4, d5⟩ := six (below_load ((unhide hB).alloc (unhide hB).size (.cells #[.string (bz (nth a k).nm), .float .f64 (nth a k).rk, .int .u32 (nth a k).sm, .int .i64 (nth a k).bk, .int .i64 (nth a k).fr, .int .i64 (nth a k).ln] 26)) (Nat.lt_of_lt_of_le hg' hhi') hc')
        have hS := fun W => isSame_any (nth a k) (nth b k) (unhide hs _ (nth_mem ha)).2 (unhide hs' _ (nth_mem hb)).2 W
        have hgood := one_succ (k := k) (unhide hall)
        have hbad := same_bad (b := b) ha
        have hB0 : Hid (∀ x y, Below w.heap.size w ((wr.alloc x).alloc y)) := hide (fun x y => ((unhide hB).alloc (unhide hB).size _).alloc (by have := (unhide hB).size; simp; omega) _)
        obtain ⟨f, hf⟩ : ∃ f, f = nth a k := ⟨_, rfl⟩
        obtain ⟨f', hf'⟩ : ∃ f, f = nth b k := ⟨_, rfl⟩
        rw [← hf] at c0 c1 c2 c3 c4 c5 hS hgood hbad d0 d1 d2 d3 d4 d5
        rw [← hf'] at d0 d1 d2 d3 d4 d5 hS hgood hbad
        have q1 : g < wr.heap.size := Nat.lt_of_lt_of_le (Nat.lt_of_lt_of_le hg hhi) (unhide hB).size
        have q2 : g' < wr.heap.size := Nat.lt_of_lt_of_le (Nat.lt_of_lt_of_le hg' hhi') (unhide hB).size
        clear hc hc' hf hf' ha hb
        replace hgood := hide hgood; replace hbad := hide hbad
        cases ho : fOne f f' with
        | true =>
          rw [ho] at hS hgood
          replace hS := hide hS
          go_wp2_with (go_at_call 35; refine (unhide hS _).mono ?_; rintro e w1 ⟨rfl, B1⟩)
          go_roundw
          case rel => exact ⟨k + 1, by omega, by go_num, hide (unhide hgood trivial), hide ((unhide hB0 _ _).trans (B1.mono (unhide hB0 _ _).size))⟩
          case measure => simp [intOf]; omega
        | false =>
          rw [ho] at hS hbad
          replace hS := hide hS
          go_wp2_with (go_at_call 35; refine (unhide hS _).mono ?_; rintro e w1 ⟨rfl, B1⟩)
          go_ret
          exact ⟨ret_b rfl (unhide hbad trivial).symm, (unhide hB0 _ _).trans (B1.mono (unhide hB0 _ _).size)⟩
      · obtain rfl : k = n := by omega
        have hg : sameB a b = true := same_all (unhide hl) (by rw [← unhide hn]; exact unhide hall)
        replace hg := hide hg
        go_wp2
        go_ret
        exact ⟨ret_b rfl (unhide hg).symm, unhide hB⟩
  · rw [same_len hl]
    have d1 : ((a.length : Int) != (b.length : Int)) = true := by rw [bne_iff_ne]; omega
    clear h3 h3' hs hs' hl
    go_enter Try.func34, Try.ntmps34
    go_wp2
    go_ret
    exact ⟨rfl, Below.refl _ _⟩
theorem tsame_any (lo hi lo' hi' : Nat) (v v' : Value) (a b : List Fl) (w : World) (h : Fls lo hi w v a) (h' : Fls lo' hi' w v' b) (hhi : hi ≤ w.heap.size) (hhi' : hi' ≤ w.heap.size) (hs : SmL a) (hs' : SmL b) :
    Calls Try.prog 21 #[v, v'] w fun e W' => e = .returned (.bool (sameB a b)) ∧ Below w.heap.size w W' := by
  have H := equalFunc_any lo hi lo' hi' v v' a b w h h' hhi hhi' hs hs'
  clear h h' hhi hhi' hs hs'
  generalize sameB a b = q at *
  replace H := hide H
  go_enter Try.func21, Try.ntmps21
  go_wp2_with (go_at_call 34; refine (unhide H).mono ?_; rintro e w1 ⟨rfl, B1⟩)
  go_ret
  exact ⟨rfl, B1⟩
end Go.Proofs.Ytnjepbehfioclaa
