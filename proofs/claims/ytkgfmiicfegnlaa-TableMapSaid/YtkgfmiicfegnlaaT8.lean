import Derived.Test.YtkgfmiicfegnlaaT7
namespace Go.Proofs.Ytkgfmiicfegnlaa
open Go.RowKit
attribute [local go_sem] bz_size bz_toList run_store_float
set_option maxRecDepth 100000

/-- Half the places are searched. -/
structure Bin (l : List Fl) (p : List UInt8) (i j : Nat) : Prop where
  lo : ∀ q, q < i → ltN (nth l q).nm p = true
  hi : ∀ q, j ≤ q → q < l.length → ltN (nth l q).nm p = false
theorem up_at {l : List Fl} (h : Up l) {q r : Nat} (hq : q < r) (hr : r < l.length) : ltN (nth l q).nm (nth l r).nm = true := by
  unfold Up at h
  rw [List.pairwise_iff_getElem] at h
  rw [nth_get (by omega), nth_get hr]
  exact h q r (by omega) hr hq
theorem Bin.up {l : List Fl} {p : List UInt8} {i j h : Nat} (b : Bin l p i j) (hU : Up l) (hh : h < l.length) (hl : ltN (nth l h).nm p = true) : Bin l p (h + 1) j := ⟨fun q hq => by
  rcases Nat.lt_or_ge q h with h1 | h1
  · exact lt_trans (up_at hU h1 hh) hl
  · rw [show q = h by omega]; exact hl, b.hi⟩
theorem Bin.down {l : List Fl} {p : List UInt8} {i j h : Nat} (b : Bin l p i j) (hU : Up l) (hl : ltN (nth l h).nm p = false) : Bin l p i h := ⟨b.lo, fun q hq hq2 => by
  rcases Nat.lt_or_ge h q with h1 | h1
  · cases h2 : ltN (nth l q).nm p with
    | false => rfl
    | true => rw [lt_trans (up_at hU h1 hq2) h2] at hl; cases hl
  · rw [show q = h by omega]; exact hl⟩
theorem cmp_nm {f : Fl} {p : List UInt8} (hf : nameB f.nm = true) (hp : nameB p = true) : (cmpF f.nm p).1 = lex (parts f.nm) (parts p) := by rw [cmpF_yes hf hp]

set_option maxHeartbeats 1000000 in
theorem search_any (lo hi : Nat) (v : Value) (l : List Fl) (p : List UInt8) (w : World) (h : Fls lo hi w v l) (hhi : hi ≤ w.heap.size) (hs : SmL l) (hl8 : l.length ≤ 100000) (hp3 : p.length ≤ 300) (hU : Up l) (hN : ∀ f ∈ l, nameB f.nm = true) (hp : nameB p = true) :
    Calls Try.prog 65 #[v, .string (bz p), .func (.func 63) #[] #[]] w fun e W' => e = .returned (.tuple #[.int .i64 (posn l p : Nat), .bool (thereB l p)]) ∧ Below w.heap.size w W' := by
  obtain ⟨A, c, rfl, h1, h2, h3⟩ := h.open6
  clear h
  have hC : ∀ k, k < l.length → ∀ W, Calls Try.prog 63 #[(.agg #[.string (bz (nth l k).nm), .float .f64 (nth l k).rk, .int .u32 (nth l k).sm, .int .i64 (nth l k).bk, .int .i64 (nth l k).fr, .int .i64 (nth l k).ln]), .string (bz p)] W fun e W' => e = .returned (.int .i64 (lex (parts (nth l k).nm) (parts p))) ∧ Below W.heap.size W W' := fun k hk W => by
    have := byName_any (nth l k) p (by have := (hs _ (nth_mem hk)).1; omega) (by omega) W
    rwa [cmp_nm (hN _ (nth_mem hk)) hp] at this
  have hE := there_at (p := p) hU
  have hI := fun i h1 h2 h3 => posn_is (l := l) (p := p) (i := i) h1 h2 h3
  obtain ⟨n, hn⟩ : ∃ n, n = l.length := ⟨_, rfl⟩
  rw [← hn] at h3 h1 hC hl8 ⊢
  replace hn := hide hn; replace h3 := hide h3; replace hs := hide hs; replace h1 := hide h1; replace hC := hide hC; replace hU := hide hU; replace hE := hide hE; replace hI := hide hI
  clear hN hp hp3
  go_enter Try.func65, Try.ntmps65
  go_wp2
  go_loopw [9, 10] (fun i j wr => ∃ x y : Nat, x ≤ y ∧ y ≤ n ∧ i = .int .i64 x ∧ j = .int .i64 y ∧ Hid (Bin l p x y) ∧ Hid (Below w.heap.size w wr)) (fun i j _ => (intOf j).toNat - (intOf i).toNat)
  case atStart => exact ⟨0, n, Nat.zero_le _, Nat.le_refl _, rfl, rfl, hide ⟨fun q hq => absurd hq (Nat.not_lt_zero _), fun q h1 h2 => by rw [← unhide hn] at h2; omega⟩, hide (Below.refl _ _)⟩
  case round =>
    obtain ⟨x, y, hxy, hyn, rfl, rfl, hb, hB⟩ := hrel
    by_cases hlt : x < y
    · obtain ⟨q, hq⟩ : ∃ q : Nat, q = (x + y) / 2 := ⟨_, rfl⟩
      have hQ : ((x : Int) + (y : Int)) / 2 = (q : Int) := by omega
      have hq1 : x ≤ q := by omega
      have hq2 : q < y := by omega
      clear hq
      obtain ⟨g, off, rfl, _, hg, hc⟩ := unhide h3 q (by omega)
      obtain ⟨c0, c1, c2, c3, c4, c5⟩ := six (below_load (unhide hB) (Nat.lt_of_lt_of_le hg hhi) hc)
      have q1 : g < wr.heap.size := Nat.lt_of_lt_of_le (Nat.lt_of_lt_of_le hg hhi) (unhide hB).size
      have hK := unhide hC q (by omega)
      have hup := (unhide hb).up (h := q) (unhide hU) (by rw [← unhide hn]; omega)
      have hdn := (unhide hb).down (h := q) (unhide hU)
      obtain ⟨f, hf⟩ : ∃ f, f = nth l q := ⟨_, rfl⟩
      rw [← hf] at c0 c1 c2 c3 c4 c5 hK hup hdn
      clear hc hf
      rcases lex_cases f.nm p with ⟨hz, hl⟩ | ⟨hz, hl⟩ | ⟨hz, hl⟩
      · rw [hz] at hK
        have hb2 := hide (hup hl)
        replace hK := hide hK
        clear hup hdn hz hl
        go_wp2_with (go_at_call 63; refine (unhide hK _).mono ?_; rintro e w1 ⟨rfl, B1⟩)
        go_roundw
        case rel => exact ⟨q + 1, y, by omega, hyn, by go_num, rfl, hb2, hide ((unhide hB).trans (B1.mono (unhide hB).size))⟩
        case measure => simp [intOf]; omega
      · rw [hz] at hK
        have hb2 := hide (hdn (by rw [hl]; exact lt_self p))
        replace hK := hide hK
        clear hup hdn hz hl
        go_wp2_with (go_at_call 63; refine (unhide hK _).mono ?_; rintro e w1 ⟨rfl, B1⟩)
        go_roundw
        case rel => exact ⟨x, q, hq1, by omega, rfl, rfl, hb2, hide ((unhide hB).trans (B1.mono (unhide hB).size))⟩
        case measure => simp [intOf]; omega
      · rw [hz] at hK
        have hb2 := hide (hdn (lt_asymm hl))
        replace hK := hide hK
        clear hup hdn hz hl
        go_wp2_with (go_at_call 63; refine (unhide hK _).mono ?_; rintro e w1 ⟨rfl, B1⟩)
        go_roundw
        case rel => exact ⟨x, q, hq1, by omega, rfl, rfl, hb2, hide ((unhide hB).trans (B1.mono (unhide hB).size))⟩
        case measure => simp [intOf]; omega
    · obtain rfl : x = y := by omega
      have hpos : posn l p = x := unhide hI x (by rw [← unhide hn]; exact hyn) (unhide hb).lo (unhide hb).hi
      have hth := unhide hE
      rw [hpos, ← unhide hn] at hth
      replace hpos := hide hpos
      by_cases hx : x < n
      · obtain ⟨g, off, rfl, _, hg, hc⟩ := unhide h3 x hx
        obtain ⟨c0, c1, c2, c3, c4, c5⟩ := six (below_load (unhide hB) (Nat.lt_of_lt_of_le hg hhi) hc)
        have q1 : g < wr.heap.size := Nat.lt_of_lt_of_le (Nat.lt_of_lt_of_le hg hhi) (unhide hB).size
        have hK := unhide hC x hx
        rw [decide_eq_true hx, Bool.true_and] at hth
        obtain ⟨f, hf⟩ : ∃ f, f = nth l x := ⟨_, rfl⟩
        rw [← hf] at c0 c1 c2 c3 c4 c5 hK hth
        clear hc hf
        rcases lex_cases f.nm p with ⟨hz, hl⟩ | ⟨hz, hl⟩ | ⟨hz, hl⟩
        · rw [hz] at hK
          have ht : thereB l p = false := by rw [hth]; exact beq_eq_false_iff_ne.2 (lt_ne hl)
          replace hK := hide hK; replace ht := hide ht
          clear hth hz hl
          go_wp2_with (go_at_call 63; refine (unhide hK _).mono ?_; rintro e w1 ⟨rfl, B1⟩)
          go_ret2
          exact ⟨by rw [unhide ht, unhide hpos]; rfl, (unhide hB).trans (B1.mono (unhide hB).size)⟩
        · rw [hz] at hK
          have ht : thereB l p = true := by rw [hth, hl]; simp
          replace hK := hide hK; replace ht := hide ht
          clear hth hz hl
          go_wp2_with (go_at_call 63; refine (unhide hK _).mono ?_; rintro e w1 ⟨rfl, B1⟩)
          go_ret2
          exact ⟨by rw [unhide ht, unhide hpos]; rfl, (unhide hB).trans (B1.mono (unhide hB).size)⟩
        · rw [hz] at hK
          have ht : thereB l p = false := by rw [hth]; exact beq_eq_false_iff_ne.2 (fun e => lt_ne hl e.symm)
          replace hK := hide hK; replace ht := hide ht
          clear hth hz hl
          go_wp2_with (go_at_call 63; refine (unhide hK _).mono ?_; rintro e w1 ⟨rfl, B1⟩)
          go_ret2
          exact ⟨by rw [unhide ht, unhide hpos]; rfl, (unhide hB).trans (B1.mono (unhide hB).size)⟩
      · rw [decide_eq_false hx, Bool.false_and] at hth
        replace hth := hide hth
        go_wp2_with fail
        go_ret2
        exact ⟨by rw [unhide hth, unhide hpos]; rfl, unhide hB⟩
theorem tab_names {l : List Fl} (h : tabB l = true) : ∀ f ∈ l, nameB f.nm = true := fun _ hf => ok_name (tab_ok h hf)
theorem find_any (lo hi : Nat) (v : Value) (l : List Fl) (p : List UInt8) (w : World) (h : Fls lo hi w v l) (hhi : hi ≤ w.heap.size) (hs : SmL l) (hp3 : p.length ≤ 300) (hU : tabB l = true) (hp : nameB p = true) :
    Calls Try.prog 34 #[v, .string (bz p)] w fun e W' => e = .returned (.tuple #[.int .i64 (posn l p : Nat), .bool (thereB l p)]) ∧ Below w.heap.size w W' := by
  have H := fun W (hB : Below w.heap.size w W) => search_any lo hi v l p W (h.below hB hhi) (Nat.le_trans hhi hB.size) hs (by have := tab_len hU; omega) hp3 (tab_up hU) (tab_names hU) hp
  clear h hhi hs hp3 hU hp
  generalize posn l p = i at *
  generalize thereB l p = b at *
  replace H := hide H
  go_enter Try.func34, Try.ntmps34
  go_wp2_with (go_at_call 65; refine (unhide H _ (Below.refl _ _)).mono ?_; rintro e w1 ⟨rfl, B1⟩)
  go_ret2
  exact ⟨rfl, B1⟩
end Go.Proofs.Ytkgfmiicfegnlaa
