import Derived.Test.YthjgnbjobinhdaaP8
namespace Go.Proofs.Ythjgnbjobinhdaa
open Go.RowKit
set_option maxRecDepth 100000

theorem bl_drewN {B : Nat} {a w : World} (h : Below B a w) (n : Nat) : Below B a (w.drewN n) := ⟨h.os, h.tape, h.output, h.size, h.block⟩
/-- Where the next one begins. -/
def nextG (l : List Pn) : Nat → Int
  | 0 => 0
  | k + 1 => (nth l k).g + 1
theorem off_zero {f : Pn} (h : 0 ≤ f.g) (ho : okP f = true) : offB 0 f = false := by unfold offB; rw [ho, decide_eq_false (by omega)]; rfl
theorem off_bad {z : Int} {f : Pn} (ho : okP f = false) : offB z f = true := by unfold offB; rw [ho]; simp
theorem off_low {z : Int} {f : Pn} (ho : f.g < z) : offB z f = true := by unfold offB; rw [decide_eq_true ho]; rfl
theorem off_not {z : Int} {f : Pn} (ho : ¬ f.g < z) (h : okP f = true) : offB z f = false := by unfold offB; rw [decide_eq_false ho, h]; rfl
theorem ok_g {f : Pn} (h : 1099511627776 < f.g) : okP f = false := by
  cases e : okP f with
  | false => rfl
  | true => have := (okP_iff.1 e).1; omega
theorem ok_lo {f : Pn} (h : f.n < 1) : okP f = false := by
  cases e : okP f with
  | false => rfl
  | true => have := (okP_iff.1 e).2.1; omega
theorem ok_hi {f : Pn} (h : 64 < f.n) : okP f = false := by
  cases e : okP f with
  | false => rfl
  | true => have := (okP_iff.1 e).2.2; omega

set_option maxHeartbeats 2000000 in
theorem rcheck_any (lo hi : Nat) (v : Value) (l : List Pn) (w : World) (h : Pns lo hi w v l) (hhi : hi ≤ w.heap.size) (hs : SmL l) :
    Calls Try.prog 19 #[v] w fun e W' => e = .returned (.int .i64 (checkE l)) ∧ Below w.heap.size w W' := by
  obtain ⟨A, c, rfl, h1, h2, h3⟩ := h.open2
  clear h
  by_cases h64 : l.length ≤ 64
  · have hp : pinsB l = rise 0 l := by unfold pinsB; rw [decide_eq_true h64]; rfl
    have hgo : rise 0 l = true → checkE l = 0 := fun e => by unfold checkE; rw [hp, e]; rfl
    have hno : rise 0 l = false → checkE l = 1 := fun e => by unfold checkE; rw [hp, e]; rfl
    clear hp
    obtain ⟨n, hn⟩ : ∃ n, n = l.length := ⟨_, rfl⟩
    rw [← hn] at h64 h3 h1 ⊢
    replace hn := hide hn; replace h3 := hide h3; replace hs := hide hs; replace h1 := hide h1; replace hgo := hide hgo; replace hno := hide hno
    go_enter Try.func19, Try.ntmps19
    go_wp2
    go_loopw [10] (fun i wr => ∃ k : Nat, k ≤ n ∧ i = .int .i64 k ∧ Hid (rise 0 l = rise (nextG l k) (l.drop k)) ∧ Hid (Below w.heap.size w wr)) (fun i _ => n - (intOf i).toNat)
    case atStart => exact ⟨0, Nat.zero_le _, rfl, hide (by simp [nextG]), hide (Below.refl _ _)⟩
    case round =>
      obtain ⟨k, hk, rfl, hw, hB⟩ := hrel
      by_cases hlt : k < n
      · have ha : k < l.length := by rw [← unhide hn]; exact hlt
        obtain ⟨b, off, rfl, _, hb, p0, p1⟩ := unhide h3 k hlt
        have hb' : b < wr.heap.size := Nat.lt_of_lt_of_le (Nat.lt_of_lt_of_le hb hhi) (unhide hB).size
        have c0 := ((unhide hB).cell (p := ⟨b, off + k * 2, none⟩) (Nat.lt_of_lt_of_le hb hhi)).trans p0
        have c1 := ((unhide hB).cell (p := ⟨b, off + k * 2 + 1, none⟩) (Nat.lt_of_lt_of_le hb hhi)).trans p1
        have hd : l.drop k = nth l k :: l.drop (k + 1) := by rw [nth_get ha]; exact List.drop_eq_getElem_cons ha
        have hsf := unhide hs _ (nth_mem ha)
        have hnx : nextG l (k + 1) = (nth l k).g + 1 := rfl
        clear p0 p1
        obtain ⟨f, hf⟩ : ∃ f, f = nth l k := ⟨_, rfl⟩
        rw [← hf] at c0 c1 hd hsf hnx
        clear hf
        have hbad : offB (nextG l k) f = true → checkE l = 1 := fun e => unhide hno ((unhide hw).trans (by rw [hd]; exact rise_off e))
        have hgood : offB (nextG l k) f = false → rise 0 l = rise (nextG l (k + 1)) (l.drop (k + 1)) := fun e => (unhide hw).trans (by rw [hd, rise_on e, hnx])
        have hB0 : Hid (Below w.heap.size w (wr.alloc (.cells #[.int .u64 f.g, .int .i64 f.n] 35))) := hide ((unhide hB).alloc (unhide hB).size _)
        have hsz : wr.heap.size < (wr.alloc (.cells #[.int .u64 f.g, .int .i64 f.n] 35)).heap.size := by simp only [World.size_alloc]; omega
        have hbx := new2' (w := wr) f
        have hbl := hb'
        go_upto_region 6 with (fail)
        generalize wr.alloc (.cells #[.int .u64 f.g, .int .i64 f.n] 35) = W0 at *
        have hb2 : b < W0.heap.size := by omega
        obtain ⟨gb, hgb⟩ : ∃ gb, gb = wr.heap.size := ⟨_, rfl⟩
        rw [← hgb] at hsz hbx ⊢
        clear c0 c1 hd hnx hb' hbl
        replace hgb := hide hgb; replace hbad := hide hbad; replace hgood := hide hgood; replace hw := hide (unhide hw)
        obtain ⟨d0, d1⟩ := bk2 hbx
        clear hbx
        by_cases x1 : 1099511627776 < f.g
        · have a1 : decide (1099511627776 < f.g) = true := decide_eq_true x1
          have hr := unhide hbad (off_bad (ok_g x1))
          replace hr := hide hr
          go_quiet (fail)
          go_wp2
          go_ret
          exact ⟨ret_i rfl (unhide hr).symm, bl_drewN (unhide hB0) _⟩
        have a1 : decide (1099511627776 < f.g) = false := decide_eq_false x1
        by_cases x2 : f.n < 1
        · have a2 : decide (f.n < 1) = true := decide_eq_true x2
          have hr := unhide hbad (off_bad (ok_lo x2))
          replace hr := hide hr
          go_quiet (fail)
          go_wp2
          go_ret
          exact ⟨ret_i rfl (unhide hr).symm, bl_drewN (unhide hB0) _⟩
        have a2 : decide (f.n < 1) = false := decide_eq_false x2
        by_cases x3 : 64 < f.n
        · have a3 : decide (64 < f.n) = true := decide_eq_true x3
          have hr := unhide hbad (off_bad (ok_hi x3))
          replace hr := hide hr
          go_quiet (fail)
          go_wp2
          go_ret
          exact ⟨ret_i rfl (unhide hr).symm, bl_drewN (unhide hB0) _⟩
        have a3 : decide (64 < f.n) = false := decide_eq_false x3
        have hok : okP f = true := okP_iff.2 ⟨by omega, by omega, by omega⟩
        cases k with
        | zero =>
          have hr := unhide hgood (off_zero hsf.1 hok)
          replace hr := hide hr
          clear x1 x2 x3 hok hsf
          go_quiet (fail)
          go_wp2
          go_roundw
          case rel => exact ⟨1, by omega, by go_num, hr, hide (bl_drewN (unhide hB0) _)⟩
          case measure => simp [intOf]; omega
        | succ m =>
          obtain ⟨b2, off2, hA2, _, hb2', p0, p1⟩ := unhide h3 m (by omega)
          injection hA2 with hA2
          injection hA2 with hA3 hA4
          subst hA3 hA4
          have e0 := ((unhide hB0).cell (p := ⟨b, off + m * 2, none⟩) (Nat.lt_of_lt_of_le hb hhi)).trans p0
          have hnx : nextG l (m + 1) = (nth l m).g + 1 := rfl
          clear p0 p1 hb2'
          generalize (nth l m).g = y at *
          have i1 : IntKind.i64.wrap (m : Int) = (m : Int) := IntWalk.i64_in _ (by omega)
          have a4 : decide ((0 : Nat) < m + 1) = true := decide_eq_true (by omega)
          by_cases x4 : f.g ≤ y
          · have a5 : decide (f.g ≤ y) = true := decide_eq_true x4
            have hr := unhide hbad (off_low (by rw [hnx]; omega))
            replace hr := hide hr
            clear x1 x2 x3 hok hsf x4 hnx
            go_quiet (fail)
            go_wp2
            go_ret
            exact ⟨ret_i rfl (unhide hr).symm, bl_drewN (unhide hB0) _⟩
          · have a5 : decide (f.g ≤ y) = false := decide_eq_false x4
            have hr := unhide hgood (off_not (by rw [hnx]; omega) hok)
            replace hr := hide hr
            clear x1 x2 x3 hok hsf x4 hnx
            go_quiet (fail)
            go_wp2
            go_roundw
            case rel => exact ⟨m + 2, by omega, by go_num, hr, hide (bl_drewN (unhide hB0) _)⟩
            case measure => simp [intOf]; omega
      · obtain rfl : k = n := by omega
        have hg : checkE l = 0 := unhide hgo ((unhide hw).trans (by rw [List.drop_of_length_le (by rw [← unhide hn]; omega)]; rfl))
        replace hg := hide hg
        go_wp2
        go_ret
        exact ⟨ret_i rfl (unhide hg).symm, unhide hB⟩
  · have hp : checkE l = 1 := by unfold checkE pinsB; rw [decide_eq_false h64]; rfl
    rw [hp]
    have d1 : (64 : Int) < (l.length : Int) := by omega
    clear h3 hs h64 hp
    go_enter Try.func19, Try.ntmps19
    go_wp2
    go_ret
    exact ⟨rfl, Below.refl _ _⟩
end Go.Proofs.Ythjgnbjobinhdaa
