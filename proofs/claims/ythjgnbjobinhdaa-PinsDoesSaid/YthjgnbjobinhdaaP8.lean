import Derived.Test.YthjgnbjobinhdaaP7
namespace Go.Proofs.Ythjgnbjobinhdaa
open Go.RowKit
set_option maxRecDepth 100000

/-! ### two lists, one by one -/
def eqP (a b a' b' : Int) : Bool := a == a' && b == b'
theorem run_eq_pn (a b a' b' : Int) (W : World) :
    (Op.equalIn 10000 35 (.agg #[.int .u64 a, .int .i64 b]) (.agg #[.int .u64 a', .int .i64 b'])).run Try.prog W = .ok (eqP a b a' b') W := by
  rw [run_equalIn_agg W 9999 35 _ _ (by kernel_rfl) (by kernel_rfl)]
  have e24 := fun (a b : Int) => run_equalIn_int W 9998 23 .u64 .u64 a b Try.underlying23
  have e3 := fun (a b : Int) => run_equalIn_int W 9998 3 .i64 .i64 a b Try.underlying3
  unfold Program.fieldsOf
  unfold eqP
  simp [Try.underlying35, Op.eqFields, part, e3, e24]
  (repeat' split) <;> simp_all
theorem guard35 : Try.prog.eqGuardType Try.prog.depth 35 = false := by kernel_rfl
theorem run_neq_pn (a b a' b' : Int) (W : World) :
    (binOp .neq 35 (.agg #[.int .u64 a, .int .i64 b]) (.agg #[.int .u64 a', .int .i64 b'])).run Try.prog W = .ok (.bool (!eqP a b a' b')) W := by
  rw [run_neq_struct, run_eq_pn]; rfl
attribute [-go_sem] run_eql_struct run_neq_struct
attribute [local go_sem] run_neq_pn guard35
theorem eqP_iff {a b : Pn} : eqP a.g a.n b.g b.n = true ↔ a = b := by
  unfold eqP
  rw [Bool.and_eq_true, beq_iff_eq, beq_iff_eq]
  exact ⟨fun h => pn_ext h.1 h.2, fun h => by rw [h]; exact ⟨rfl, rfl⟩⟩
/-- Are two lists the same? -/
def sameB (a b : List Pn) : Bool := decide (a.length = b.length) && (List.range a.length).all (fun i => eqP (nth a i).g (nth a i).n (nth b i).g (nth b i).n)
theorem same_iff {a b : List Pn} : sameB a b = true ↔ a = b := by
  unfold sameB
  rw [Bool.and_eq_true, decide_eq_true_eq, List.all_eq_true]
  constructor
  · rintro ⟨h1, h2⟩
    refine List.ext_getElem h1 fun i hi hi' => ?_
    have := eqP_iff.1 (h2 i (List.mem_range.2 hi))
    rwa [nth_get hi, nth_get hi'] at this
  · rintro rfl
    exact ⟨rfl, fun i _ => eqP_iff.2 rfl⟩
def OneAll (a b : List Pn) (k : Nat) : Prop := ∀ j, j < k → eqP (nth a j).g (nth a j).n (nth b j).g (nth b j).n = true
theorem one_succ {a b : List Pn} {k : Nat} (h : OneAll a b k) (h1 : eqP (nth a k).g (nth a k).n (nth b k).g (nth b k).n = true) : OneAll a b (k + 1) := fun j hj => by
  rcases Nat.lt_or_ge j k with h2 | h2
  · exact h j h2
  · rw [show j = k by omega]; exact h1
theorem same_all {a b : List Pn} (h0 : a.length = b.length) (h : OneAll a b a.length) : sameB a b = true := by
  unfold sameB; rw [decide_eq_true h0, Bool.true_and, List.all_eq_true]; exact fun i hi => h i (List.mem_range.1 hi)
theorem same_bad {a b : List Pn} {k : Nat} (hk : k < a.length) (h : eqP (nth a k).g (nth a k).n (nth b k).g (nth b k).n = false) : sameB a b = false := by
  unfold sameB; rw [Bool.and_eq_false_iff]; right; rw [List.all_eq_false]; exact ⟨k, List.mem_range.2 hk, by rw [h]; simp⟩
theorem same_len {a b : List Pn} (h : a.length ≠ b.length) : sameB a b = false := by unfold sameB; rw [decide_eq_false h]; rfl

set_option maxHeartbeats 1000000 in
theorem same26_any (lo hi lo' hi' : Nat) (v v' : Value) (a b : List Pn) (w : World) (h : Pns lo hi w v a) (h' : Pns lo' hi' w v' b) (hhi : hi ≤ w.heap.size) (hhi' : hi' ≤ w.heap.size) :
    Calls Try.prog 26 #[v, v'] w fun e W' => e = .returned (.bool (sameB a b)) ∧ Below w.heap.size w W' := by
  obtain ⟨A, c, rfl, h1, h2, h3⟩ := h.open2
  obtain ⟨A', c', rfl, h1', h2', h3'⟩ := h'.open2
  clear h h'
  by_cases hl : a.length = b.length
  · obtain ⟨n, hn⟩ : ∃ n, n = a.length := ⟨_, rfl⟩
    rw [← hl] at h3' h1' ⊢
    rw [← hn] at h3 h1 h3' h1' ⊢
    have n63 : n ≤ 9223372036854775807 := by omega
    replace hn := hide hn; replace h3 := hide h3; replace h1 := hide h1; replace h3' := hide h3'; replace h1' := hide h1'; replace hl := hide hl
    go_enter Try.func26, Try.ntmps26
    go_wp2
    go_loopw [13] (fun i wr => ∃ k : Nat, k ≤ n ∧ i = .int .i64 k ∧ Hid (OneAll a b k) ∧ Hid (Below w.heap.size w wr)) (fun i _ => n - (intOf i).toNat)
    case atStart => exact ⟨0, Nat.zero_le _, rfl, hide (fun j hj => absurd hj (Nat.not_lt_zero _)), hide (Below.refl _ _)⟩
    case round =>
      obtain ⟨k, hk, rfl, hall, hB⟩ := hrel
      by_cases hlt : k < n
      · have ha : k < a.length := by rw [← unhide hn]; exact hlt
        obtain ⟨g, off, rfl, _, hg, p0, p1⟩ := unhide h3 k hlt
        obtain ⟨g', off', rfl, _, hg', p0', p1'⟩ := unhide h3' k hlt
        have q1 : g < wr.heap.size := Nat.lt_of_lt_of_le (Nat.lt_of_lt_of_le hg hhi) (unhide hB).size
        have q2 : g' < wr.heap.size := Nat.lt_of_lt_of_le (Nat.lt_of_lt_of_le hg' hhi') (unhide hB).size
        have c0 := ((unhide hB).cell (p := ⟨g, off + k * 2, none⟩) (Nat.lt_of_lt_of_le hg hhi)).trans p0
        have c1 := ((unhide hB).cell (p := ⟨g, off + k * 2 + 1, none⟩) (Nat.lt_of_lt_of_le hg hhi)).trans p1
        have d0 := ((unhide hB).cell (p := ⟨g', off' + k * 2, none⟩) (Nat.lt_of_lt_of_le hg' hhi')).trans p0'
        have d1 := ((unhide hB).cell (p := ⟨g', off' + k * 2 + 1, none⟩) (Nat.lt_of_lt_of_le hg' hhi')).trans p1'
        have hgood := one_succ (k := k) (unhide hall)
        have hbad := same_bad (b := b) ha
        clear p0 p1 p0' p1' ha
        generalize nth a k = x at *
        generalize nth b k = y at *
        cases ho : eqP x.g x.n y.g y.n with
        | true =>
          have hg2 := hgood ho
          clear hgood hbad
          replace hg2 := hide hg2
          go_upto_region 6 with (fail)
          go_region
          go_wp2
          go_roundw
          case rel => exact ⟨k + 1, by omega, by go_num, hg2, hide ((unhide hB).drew)⟩
          case measure => simp [intOf]; omega
        | false =>
          have hg2 := hbad ho
          clear hgood hbad
          replace hg2 := hide hg2
          go_upto_region 6 with (fail)
          go_region
          go_wp2
          go_ret
          exact ⟨ret_b rfl (unhide hg2).symm, (unhide hB).drew⟩
      · obtain rfl : k = n := by omega
        have hg : sameB a b = true := same_all (unhide hl) (by rw [← unhide hn]; exact unhide hall)
        replace hg := hide hg
        go_wp2
        go_ret
        exact ⟨ret_b rfl (unhide hg).symm, unhide hB⟩
  · rw [same_len hl]
    have d1 : ((a.length : Int) != (b.length : Int)) = true := by rw [bne_iff_ne]; omega
    clear h3 h3' hl
    go_enter Try.func26, Try.ntmps26
    go_wp2
    go_ret
    exact ⟨rfl, Below.refl _ _⟩
set_option maxHeartbeats 1000000 in
theorem same17_any (lo hi lo' hi' : Nat) (v v' : Value) (a b : List Pn) (w : World) (h : Pns lo hi w v a) (h' : Pns lo' hi' w v' b) (hhi : hi ≤ w.heap.size) (hhi' : hi' ≤ w.heap.size) :
    Calls Try.prog 17 #[v, v'] w fun e W' => e = .returned (.bool (sameB a b)) ∧ Below w.heap.size w W' := by
  obtain ⟨A, c, rfl, h1, h2, h3⟩ := h.open2
  obtain ⟨A', c', rfl, h1', h2', h3'⟩ := h'.open2
  clear h h'
  by_cases hl : a.length = b.length
  · obtain ⟨n, hn⟩ : ∃ n, n = a.length := ⟨_, rfl⟩
    rw [← hl] at h3' h1' ⊢
    rw [← hn] at h3 h1 h3' h1' ⊢
    have n63 : n ≤ 9223372036854775807 := by omega
    replace hn := hide hn; replace h3 := hide h3; replace h1 := hide h1; replace h3' := hide h3'; replace h1' := hide h1'; replace hl := hide hl
    go_enter Try.func17, Try.ntmps17
    go_wp2
    go_loopw [13] (fun i wr => ∃ k : Nat, k ≤ n ∧ i = .int .i64 k ∧ Hid (OneAll a b k) ∧ Hid (Below w.heap.size w wr)) (fun i _ => n - (intOf i).toNat)
    case atStart => exact ⟨0, Nat.zero_le _, rfl, hide (fun j hj => absurd hj (Nat.not_lt_zero _)), hide (Below.refl _ _)⟩
    case round =>
      obtain ⟨k, hk, rfl, hall, hB⟩ := hrel
      by_cases hlt : k < n
      · have ha : k < a.length := by rw [← unhide hn]; exact hlt
        obtain ⟨g, off, rfl, _, hg, p0, p1⟩ := unhide h3 k hlt
        obtain ⟨g', off', rfl, _, hg', p0', p1'⟩ := unhide h3' k hlt
        have q1 : g < wr.heap.size := Nat.lt_of_lt_of_le (Nat.lt_of_lt_of_le hg hhi) (unhide hB).size
        have q2 : g' < wr.heap.size := Nat.lt_of_lt_of_le (Nat.lt_of_lt_of_le hg' hhi') (unhide hB).size
        have c0 := ((unhide hB).cell (p := ⟨g, off + k * 2, none⟩) (Nat.lt_of_lt_of_le hg hhi)).trans p0
        have c1 := ((unhide hB).cell (p := ⟨g, off + k * 2 + 1, none⟩) (Nat.lt_of_lt_of_le hg hhi)).trans p1
        have d0 := ((unhide hB).cell (p := ⟨g', off' + k * 2, none⟩) (Nat.lt_of_lt_of_le hg' hhi')).trans p0'
        have d1 := ((unhide hB).cell (p := ⟨g', off' + k * 2 + 1, none⟩) (Nat.lt_of_lt_of_le hg' hhi')).trans p1'
        have hgood := one_succ (k := k) (unhide hall)
        have hbad := same_bad (b := b) ha
        clear p0 p1 p0' p1' ha
        generalize nth a k = x at *
        generalize nth b k = y at *
        cases ho : eqP x.g x.n y.g y.n with
        | true =>
          have hg2 := hgood ho
          clear hgood hbad
          replace hg2 := hide hg2
          go_upto_region 6 with (fail)
          go_region
          go_wp2
          go_roundw
          case rel => exact ⟨k + 1, by omega, by go_num, hg2, hide ((unhide hB).drew)⟩
          case measure => simp [intOf]; omega
        | false =>
          have hg2 := hbad ho
          clear hgood hbad
          replace hg2 := hide hg2
          go_upto_region 6 with (fail)
          go_region
          go_wp2
          go_ret
          exact ⟨ret_b rfl (unhide hg2).symm, (unhide hB).drew⟩
      · obtain rfl : k = n := by omega
        have hg : sameB a b = true := same_all (unhide hl) (by rw [← unhide hn]; exact unhide hall)
        replace hg := hide hg
        go_wp2
        go_ret
        exact ⟨ret_b rfl (unhide hg).symm, unhide hB⟩
  · rw [same_len hl]
    have d1 : ((a.length : Int) != (b.length : Int)) = true := by rw [bne_iff_ne]; omega
    clear h3 h3' hl
    go_enter Try.func17, Try.ntmps17
    go_wp2
    go_ret
    exact ⟨rfl, Below.refl _ _⟩
theorem Same_any (lo hi lo' hi' : Nat) (v v' : Value) (a b : List Pn) (w : World) (h : Pns lo hi w v a) (h' : Pns lo' hi' w v' b) (hhi : hi ≤ w.heap.size) (hhi' : hi' ≤ w.heap.size) :
    Calls Try.prog 20 #[v, v'] w fun e W' => e = .returned (.bool (sameB a b)) ∧ Below w.heap.size w W' := by
  have H := same26_any lo hi lo' hi' v v' a b w h h' hhi hhi'
  clear h h' hhi hhi'
  generalize sameB a b = q at *
  replace H := hide H
  go_enter Try.func20, Try.ntmps20
  go_wp2_with (go_at_call 26; refine (unhide H).mono ?_; rintro e w1 ⟨rfl, B1⟩)
  go_ret
  exact ⟨rfl, B1⟩
end Go.Proofs.Ythjgnbjobinhdaa
