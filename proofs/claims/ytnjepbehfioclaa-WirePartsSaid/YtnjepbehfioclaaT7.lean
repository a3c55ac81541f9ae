import Derived.Test.YtnjepbehfioclaaT6
namespace Go.Proofs.Ytnjepbehfioclaa
open Go.RowKit
attribute [local go_sem] bz_size bz_toList run_store_float
set_option maxRecDepth 100000

set_option maxHeartbeats 1000000 in
theorem refOne_any (a b : Fl) (ha : a.rk < 18446744073709551616) (hb : b.rk < 18446744073709551616) (w : World) :
    Calls Try.prog 32 #[(.agg #[.string (bz a.nm), .float .f64 a.rk, .int .u32 a.sm, .int .i64 a.bk, .int .i64 a.fr, .int .i64 a.ln]), (.agg #[.string (bz b.nm), .float .f64 b.rk, .int .u32 b.sm, .int .i64 b.bk, .int .i64 b.fr, .int .i64 b.ln])] w fun e W' => e = .returned (.bool (fOne a b)) ∧ Below w.heap.size w W' := by
  have HS := fun W => refSame_any a.rk b.rk ha hb W
  unfold fOne
  clear ha hb
  obtain ⟨q, hq⟩ : ∃ q, q = (keyF a.rk == keyF b.rk) := ⟨_, rfl⟩
  rw [← hq] at HS ⊢
  clear hq
  replace HS := hide HS
  go_enter Try.func32, Try.ntmps32
  go_wp2_with (go_at_call 46; refine (unhide HS _).mono ?_; rintro e w1 ⟨rfl, rfl⟩)
  all_goals go_ret
  all_goals exact ⟨ret_b rfl (by simp [*]), bl_alloc (bl_alloc (Below.refl _ _) _) _⟩

set_option maxHeartbeats 1000000 in
theorem refSameL_any (lo hi lo' hi' : Nat) (v v' : Value) (a b : List Fl) (w : World) (h : Fls lo hi w v a) (h' : Fls lo' hi' w v' b) (hhi : hi ≤ w.heap.size) (hhi' : hi' ≤ w.heap.size) (hs : SmL a) (hs' : SmL b) :
    Calls Try.prog 19 #[v, v'] w fun e W' => e = .returned (.bool (sameB a b)) ∧ Below w.heap.size w W' := by
  obtain ⟨A, c, rfl, h1, h2, h3⟩ := h.open6
  obtain ⟨A', c', rfl, h1', h2', h3'⟩ := h'.open6
  clear h h'
  by_cases hl : a.length = b.length
  · obtain ⟨n, hn⟩ : ∃ n, n = a.length := ⟨_, rfl⟩
    rw [← hl] at h3' h1' ⊢
    rw [← hn] at h3 h1 h3' h1' ⊢
    have n63 : n ≤ 9223372036854775807 := by omega
    replace hn := hide hn; replace h3 := hide h3; replace hs := hide hs; replace h1 := hide h1; replace h3' := hide h3'; replace hs' := hide hs'; replace h1' := hide h1'; replace hl := hide hl
    go_enter Try.func19, Try.ntmps19
    go_wp2
    go_loopw [13] (fun i wr => ∃ k : Nat, k ≤ n ∧ i = .int .i64 k ∧ Hid (OneAll a b k) ∧ Hid (Below w.heap.size w wr)) (fun i _ => n - (intOf i).toNat)
    case atStart => exact ⟨0, Nat.zero_le _, rfl, hide (fun j hj => absurd hj (Nat.not_lt_zero _)), hide (Below.refl _ _)⟩
    case round =>
      obtain ⟨k, hk, rfl, hall, hB⟩ := hrel
      by_cases hlt : k < n
      · have ha : k < a.length := by rw [← unhide hn]; exact hlt
        have hb : k < b.length := by rw [← unhide hl]; exact ha
        obtain ⟨g, off, rfl, _, hg, hc⟩ := unhide h3 k hlt
        obtain ⟨g', off', rfl, _, hg', hc'⟩ := unhide h3' k hlt
        have q1 : g < wr.heap.size := Nat.lt_of_lt_of_le (Nat.lt_of_lt_of_le hg hhi) (unhide hB).size
        have q2 : g' < wr.heap.size := Nat.lt_of_lt_of_le (Nat.lt_of_lt_of_le hg' hhi') (unhide hB).size
        have hS := fun W => refOne_any (nth a k) (nth b k) (unhide hs _ (nth_mem ha)).2 (unhide hs' _ (nth_mem hb)).2 W
        have hgood := one_succ (k := k) (unhide hall)
        have hbad := same_bad (b := b) ha
        obtain ⟨f, hf⟩ : ∃ f, f = nth a k := ⟨_, rfl⟩
        obtain ⟨f', hf'⟩ : ∃ f, f = nth b k := ⟨_, rfl⟩
        rw [← hf] at hc hS hgood hbad
        rw [← hf'] at hc' hS hgood hbad
        obtain ⟨c0, c1, c2, c3, c4, c5⟩ := six (below_load (unhide hB) (Nat.lt_of_lt_of_le hg hhi) hc)
        obtain ⟨d0, d1, d2, d3, d4, d5⟩ := six (below_load (unhide hB) (Nat.lt_of_lt_of_le hg' hhi') hc')
        have x0 := fun p : Lat wr => lat_cell p q1 c0
        have y0 := fun p : Lat wr => lat_cell p q2 d0
        have x1 := fun p : Lat wr => lat_cell p q1 c1
        have y1 := fun p : Lat wr => lat_cell p q2 d1
        have x2 := fun p : Lat wr => lat_cell p q1 c2
        have y2 := fun p : Lat wr => lat_cell p q2 d2
        have x3 := fun p : Lat wr => lat_cell p q1 c3
        have y3 := fun p : Lat wr => lat_cell p q2 d3
        have x4 := fun p : Lat wr => lat_cell p q1 c4
        have y4 := fun p : Lat wr => lat_cell p q2 d4
        have x5 := fun p : Lat wr => lat_cell p q1 c5
        have y5 := fun p : Lat wr => lat_cell p q2 d5
        clear hc hc' hf hf' ha hb c0 c1 c2 c3 c4 c5 d0 d1 d2 d3 d4 d5
        replace hgood := hide hgood; replace hbad := hide hbad
        go_upto_region 6 with (fail)
        cases ho : fOne f f' with
        | true =>
          rw [ho] at hS hgood
          replace hS := hide hS
          refine wp_region_lat (by kernel_rfl) (by kernel_rfl) ?_
          repeat (go_big_quiet_step ((rename_i y; go_at_call 32; exact Calls.lat_of (p := y) (unhide hS y.W))))
          refine wpQuiet_nil ?_
          rintro _ ⟨⟨W1, B1⟩, rfl⟩
          go_wp2
          go_roundw
          case rel => exact ⟨k + 1, by omega, by go_num, hide (unhide hgood (by simp)), hide ((unhide hB).trans (B1.mono (unhide hB).size))⟩
          case measure => simp [intOf]; omega
        | false =>
          rw [ho] at hS hbad
          replace hS := hide hS
          refine wp_region_lat (by kernel_rfl) (by kernel_rfl) ?_
          repeat (go_big_quiet_step ((rename_i y; go_at_call 32; exact Calls.lat_of (p := y) (unhide hS y.W))))
          refine wpQuiet_nil ?_
          rintro _ ⟨⟨W1, B1⟩, rfl⟩
          go_wp2
          go_ret
          exact ⟨ret_b rfl (unhide hbad (by simp)).symm, (unhide hB).trans (B1.mono (unhide hB).size)⟩
      · obtain rfl : k = n := by omega
        have hg : sameB a b = true := same_all (unhide hl) (by rw [← unhide hn]; exact unhide hall)
        replace hg := hide hg
        go_wp2
        go_ret
        exact ⟨ret_b rfl (unhide hg).symm, unhide hB⟩
  · rw [same_len hl]
    have d1 : ((a.length : Int) != (b.length : Int)) = true := by rw [bne_iff_ne]; omega
    clear h3 h3' hs hs' hl
    go_enter Try.func19, Try.ntmps19
    go_wp2
    go_ret
    exact ⟨rfl, Below.refl _ _⟩

/-! ### few enough -/
def fewB (l : List Fl) : Bool := l.all (fun f => decide (f.nm.length ≤ 200)) && (decide (l.length ≤ 30) || decide (256 ≤ l.length) && decide (l.length ≤ 258))
def NmAll (l : List Fl) (k : Nat) : Prop := ∀ j, j < k → (nth l j).nm.length ≤ 200
theorem few_bad {l : List Fl} {k : Nat} (hk : k < l.length) (h : 200 < (nth l k).nm.length) : fewB l = false := by
  unfold fewB
  rw [Bool.and_eq_false_iff]; left; rw [List.all_eq_false]
  exact ⟨nth l k, nth_mem hk, by simp; omega⟩
theorem few_all {l : List Fl} (h : NmAll l l.length) : fewB l = (decide (l.length ≤ 30) || decide (256 ≤ l.length) && decide (l.length ≤ 258)) := by
  have : l.all (fun f => decide (f.nm.length ≤ 200)) = true := by
    rw [List.all_eq_true]
    intro f hf
    obtain ⟨i, hi, rfl⟩ := List.mem_iff_getElem.1 hf
    have := h i hi
    rw [nth_get hi] at this
    exact decide_eq_true this
  unfold fewB; rw [this, Bool.true_and]
theorem few_iff {l : List Fl} (h : fewB l = true) : (∀ f ∈ l, f.nm.length ≤ 200) ∧ l.length ≤ 258 := by
  unfold fewB at h
  simp at h
  exact ⟨fun f hf => h.1 f hf, by omega⟩
set_option maxHeartbeats 1000000 in
theorem few_any (lo hi : Nat) (v : Value) (l : List Fl) (w : World) (h : Fls lo hi w v l) (hhi : hi ≤ w.heap.size) :
    Calls Try.prog 9 #[v] w fun e W' => e = .returned (.bool (fewB l)) ∧ Below w.heap.size w W' := by
  obtain ⟨A, c, rfl, h1, h2, h3⟩ := h.open6
  clear h
  obtain ⟨n, hn⟩ : ∃ n, n = l.length := ⟨_, rfl⟩
  rw [← hn] at h3 h1 ⊢
  have n63 : n ≤ 9223372036854775807 := by omega
  replace hn := hide hn; replace h3 := hide h3; replace h1 := hide h1
  go_enter Try.func9, Try.ntmps9
  go_wp2
  go_loopw [7] (fun i wr => ∃ k : Nat, k ≤ n ∧ i = .int .i64 k ∧ Hid (NmAll l k) ∧ Hid (Below w.heap.size w wr)) (fun i _ => n - (intOf i).toNat)
  case atStart => exact ⟨0, Nat.zero_le _, rfl, hide (fun j hj => absurd hj (Nat.not_lt_zero _)), hide (Below.refl _ _)⟩
  case round =>
    obtain ⟨k, hk, rfl, hall, hB⟩ := hrel
    by_cases hlt : k < n
    · have ha : k < l.length := by rw [← unhide hn]; exact hlt
      obtain ⟨g, off, rfl, _, hg, hc⟩ := unhide h3 k hlt
      have q1 : g < wr.heap.size := Nat.lt_of_lt_of_le (Nat.lt_of_lt_of_le hg hhi) (unhide hB).size
      have hbad := few_bad ha
      have hgood : (nth l k).nm.length ≤ 200 → NmAll l (k + 1) := fun h j hj => by
        rcases Nat.lt_or_ge j k with h2 | h2
        · exact unhide hall j h2
        · rw [show j = k by omega]; exact h
      have hB0 : Hid (∀ x, Below w.heap.size w (wr.alloc x)) := hide (fun x => (unhide hB).alloc (unhide hB).size _)
      obtain ⟨f, hf⟩ : ∃ f, f = nth l k := ⟨_, rfl⟩
      rw [← hf] at hc hgood hbad
      obtain ⟨c0, c1, c2, c3, c4, c5⟩ := six (below_load (unhide hB) (Nat.lt_of_lt_of_le hg hhi) hc)
      clear hc hf ha
      replace hgood := hide hgood; replace hbad := hide hbad
      by_cases hlen : f.nm.length ≤ 200
      · have d1 : ¬ (200 : Int) < (f.nm.length : Int) := by omega
        go_wp2
        go_roundw
        case rel => exact ⟨k + 1, by omega, by go_num, hide (unhide hgood hlen), hide (unhide hB0 _)⟩
        case measure => simp [intOf]; omega
      · have d1 : (200 : Int) < (f.nm.length : Int) := by omega
        go_wp2
        go_ret
        exact ⟨ret_b rfl (unhide hbad (by omega)).symm, unhide hB0 _⟩
    · obtain rfl : k = n := by omega
      have hg : fewB l = (decide (k ≤ 30) || decide (256 ≤ k) && decide (k ≤ 258)) := by rw [few_all (by rw [← unhide hn]; exact unhide hall), ← unhide hn]
      replace hg := hide hg
      go_wp2
      all_goals go_ret
      all_goals exact ⟨ret_b rfl (by rw [unhide hg, Bool.eq_iff_iff]; simp; omega), unhide hB⟩
end Go.Proofs.Ytnjepbehfioclaa
