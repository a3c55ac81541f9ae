import Derived.Test.YthjgnbjobinhdaaL2
namespace Go.Proofs.Ythjgnbjobinhdaa
open Go.RowKit
set_option maxRecDepth 100000

/-- One generation, so often. -/
structure OneG (g : Int) (k : Nat) (l : List Pn) : Prop where
  pins : Pins l
  many : manyP l g = (k : Int)
  len : l.length = if k = 0 then 0 else 1
/-- So many of them. -/
structure AllG (g : Int) (k : Nat) (l : List Pn) : Prop where
  pins : Pins l
  len : l.length = k
  low : ∀ p ∈ l, p.g < g + k
theorem one_zero (g : Int) : OneG g 0 [] := ⟨pins_nil, rfl, rfl⟩
theorem all_zero (g : Int) : AllG g 0 [] := ⟨pins_nil, rfl, fun _ h => absurd h (by simp)⟩
theorem OneG.open_ {g : Int} {k : Nat} {l : List Pn} (h : OneG g k l) (h0 : 0 ≤ g) (h1 : g ≤ 1099511627776) (hk : k < 64) : openE l g = 0 ∧ OneG g (k + 1) (openL l g) := by
  have hl := h.len
  have hl1 : l.length ≤ 1 := by split at hl <;> omega
  have hE : openE l g = 0 := open_ok.2 ⟨may_iff.2 ⟨h1, h.pins⟩, by rw [h.many]; omega, fun _ => by omega⟩
  refine ⟨hE, pins_open l h0, ?_, ?_⟩
  · rw [openL_ok hE, many_put h.pins.up (by rw [h.many]; omega), if_pos rfl, h.many]; omega
  · have h2 := len_put h.pins g (manyP l g + 1)
    rw [openL_ok hE, if_neg (by omega)]
    rw [h.many] at h2 ⊢
    rw [if_pos (show (0 : Int) < (k : Int) + 1 by omega)] at h2
    by_cases e : k = 0
    · rw [if_pos e] at hl; rw [if_pos (by omega)] at h2; omega
    · rw [if_neg e] at hl; rw [if_neg (by omega)] at h2; omega
theorem OneG.full {g : Int} {l : List Pn} (h : OneG g 64 l) (h1 : g ≤ 1099511627776) : openE l g = 6 := by
  unfold openE
  rw [if_pos (may_iff.2 ⟨h1, h.pins⟩), if_pos (.inl h.many)]
theorem AllG.open_ {g : Int} {k : Nat} {l : List Pn} (h : AllG g k l) (h0 : 0 ≤ g) (h1 : g + k ≤ 1099511627776) (hk : k < 64) : openE l (g + k) = 0 ∧ AllG g (k + 1) (openL l (g + k)) := by
  have hm : manyP l (g + k) = 0 := many_no fun p hp => by have := h.low p hp; omega
  have hE : openE l (g + k) = 0 := open_ok.2 ⟨may_iff.2 ⟨h1, h.pins⟩, by rw [hm]; omega, fun _ => by have := h.len; omega⟩
  refine ⟨hE, pins_open l (by omega), ?_, fun p hp => ?_⟩
  · have h2 := len_put h.pins (g + k) (manyP l (g + k) + 1)
    rw [openL_ok hE]
    rw [hm] at h2 ⊢
    rw [if_pos rfl, if_pos (by omega), h.len] at h2
    omega
  · rw [openL_ok hE] at hp
    rcases mem_put.1 hp with ⟨h2, _⟩ | ⟨_, rfl⟩
    · have := h.low p h2; omega
    · show g + (k : Int) < g + ((k + 1 : Nat) : Int); omega
theorem AllG.full {g : Int} {k : Nat} {l : List Pn} (h : AllG g 64 l) (h1 : g + k ≤ 1099511627776) (hk : 64 ≤ k) : openE l (g + k) = 6 := by
  have hm : manyP l (g + k) = 0 := many_no fun p hp => by have := h.low p hp; omega
  unfold openE
  rw [if_pos (may_iff.2 ⟨h1, h.pins⟩), if_pos (.inr ⟨hm, h.len⟩)]

set_option maxHeartbeats 4000000 in
theorem PinsFull_any (g m : Int) (w : World) (h0 : 0 ≤ g) :
    Calls Try.prog 7 #[.int .u64 g, .int .i64 m] w fun e w' => e = .returned (.bool true) ∧ Below w.heap.size w w' := by
  have hL := fun W => live_any W
  have hB : Hid (Below w.heap.size w w) := hide (Below.refl _ _)
  replace hL := hide hL
  by_cases c1 : m < 0
  · have d1 : decide (m < 0) = true := decide_eq_true c1
    clear h0
    have tk0 : True := trivial
    go_enter Try.func7, Try.ntmps7
    go_wp2_with (first
      | (have _t := tk0; clear tk0 _t; go_at_call 8; with_reducible refine (unhide hL _).mono ?_; rintro ez wz0 ⟨rfl, bz0⟩; have szz0 := bz0.size; replace hB := hide ((unhide hB).trans (bz0.mono (unhide hB).size)); clear bz0)
      | fail)
    go_ret
    exact ⟨rfl, unhide hB⟩
  by_cases c2 : 80 < m
  · have d1 : decide (m < 0) = false := decide_eq_false c1
    have d2 : decide (80 < m) = true := decide_eq_true c2
    clear h0
    have tk0 : True := trivial
    go_enter Try.func7, Try.ntmps7
    go_wp2_with (first
      | (have _t := tk0; clear tk0 _t; go_at_call 8; with_reducible refine (unhide hL _).mono ?_; rintro ez wz0 ⟨rfl, bz0⟩; have szz0 := bz0.size; replace hB := hide ((unhide hB).trans (bz0.mono (unhide hB).size)); clear bz0)
      | fail)
    go_ret
    exact ⟨rfl, unhide hB⟩
  by_cases c3 : 1073741824 < g
  · have d1 : decide (m < 0) = false := decide_eq_false c1
    have d2 : decide (80 < m) = false := decide_eq_false c2
    have d3 : decide (1073741824 < g) = true := decide_eq_true c3
    clear h0
    have tk0 : True := trivial
    go_enter Try.func7, Try.ntmps7
    go_wp2_with (first
      | (have _t := tk0; clear tk0 _t; go_at_call 8; with_reducible refine (unhide hL _).mono ?_; rintro ez wz0 ⟨rfl, bz0⟩; have szz0 := bz0.size; replace hB := hide ((unhide hB).trans (bz0.mono (unhide hB).size)); clear bz0)
      | fail)
    go_ret
    exact ⟨rfl, unhide hB⟩
  obtain ⟨z, rfl⟩ : ∃ z : Nat, m = (z : Int) := ⟨m.toNat, by omega⟩
  have d1 : decide ((z : Int) < 0) = false := decide_eq_false c1
  have d2 : decide (80 < (z : Int)) = false := decide_eq_false c2
  have d3 : decide (1073741824 < g) = false := decide_eq_false c3
  have z80 : z ≤ 80 := by omega
  have g30 : g ≤ 1073741824 := by omega
  clear c1 c2 c3
  have tk0 : True := trivial
  go_enter Try.func7, Try.ntmps7
  go_wp2_with (first
      | (have _t := tk0; clear tk0 _t; go_at_call 8; with_reducible refine (unhide hL _).mono ?_; rintro ez wz0 ⟨rfl, bz0⟩; have szz0 := bz0.size; replace hB := hide ((unhide hB).trans (bz0.mono (unhide hB).size)); clear bz0)
      | fail)
  go_loopw [6, 7, 26] (fun o a i wr => ∃ (k : Nat) (A A' : Option Addr) (c c' : Nat) (X Y : List Pn), k ≤ z ∧ i = .int .i64 k ∧ o = .slice A X.length c ∧ a = .slice A' Y.length c' ∧ Hid (OneG g (min k 64) X) ∧ Hid (AllG g (min k 64) Y) ∧ Hid (Pns 0 wr.heap.size wr (.slice A X.length c) X) ∧ Hid (Pns 0 wr.heap.size wr (.slice A' Y.length c') Y) ∧ Hid (Below w.heap.size w wr)) (fun _ _ i _ => z - (intOf i).toNat)
  case atStart => exact ⟨0, none, none, 0, 0, [], [], Nat.zero_le _, rfl, rfl, rfl, hide (one_zero g), hide (all_zero g), hide (Rd.nil _ _ _ _ _), hide (Rd.nil _ _ _ _ _), hB⟩
  case round =>
    clear hB
    obtain ⟨k, A, A', c, c', X, Y, hk, rfl, rfl, rfl, hX, hY, hl, hm, hB⟩ := hrel
    by_cases hlt : k < z
    · have hO := fun W (h : Pns 0 W.heap.size W (.slice A X.length c) X) => Open_any 0 W.heap.size _ X g W h (Nat.le_refl _) (unhide hX).pins.sm
      have hO' := fun W (h : Pns 0 W.heap.size W (.slice A' Y.length c') Y) => Open_any 0 W.heap.size _ Y (g + k) W h (Nat.le_refl _) (unhide hY).pins.sm
      have i1 : IntKind.u64.wrap (k : Int) = (k : Int) := IntWalk.u64_in _ (by omega)
      have i2 : IntKind.u64.wrap (g + (k : Int)) = g + (k : Int) := IntWalk.u64_in _ (by omega)
      by_cases h64 : k < 64
      · have d64 : decide ((k : Int) < 64) = true := decide_eq_true (by omega)
        have mk : min k 64 = k := by omega
        rw [mk] at hX hY
        obtain ⟨x1, x2⟩ := (unhide hX).open_ h0 (by omega) h64
        obtain ⟨y1, y2⟩ := (unhide hY).open_ h0 (by omega) h64
        rw [x1] at hO
        rw [y1] at hO'
        clear x1 y1 mk hX hY
        generalize openL X g = X2 at *
        generalize openL Y (g + k) = Y2 at *
        generalize X.length = n1 at *
        generalize Y.length = n2 at *
        replace hO := hide hO; replace hO' := hide hO'; replace x2 := hide x2; replace y2 := hide y2
        have tk0 : True := trivial
        have tk1 : True := trivial
        go_wp2_with (first
          | (have _t := tk0; clear tk0 _t; go_at_call 9; with_reducible refine (unhide hO _ (unhide hl)).mono ?_; rintro ez wz0 ⟨va, rfl, oha, bz0⟩; have szz0 := bz0.size; replace hB := hide ((unhide hB).trans (bz0.mono (unhide hB).size)); replace hl := hide ((unhide hl).grow bz0); replace hm := hide ((unhide hm).grow bz0); obtain ⟨A3, c3, rfl⟩ := own_form oha; (have ha := hide (oha.all)); clear oha; clear bz0)
          | (have _t := tk1; clear tk1 _t; go_at_call 9; with_reducible refine (unhide hO' _ (unhide hm)).mono ?_; rintro ez wz1 ⟨vb, rfl, ohb, bz1⟩; have szz1 := bz1.size; replace hB := hide ((unhide hB).trans (bz1.mono (unhide hB).size)); replace hl := hide ((unhide hl).grow bz1); replace hm := hide ((unhide hm).grow bz1); replace ha := hide ((unhide ha).grow bz1); obtain ⟨A4, c4, rfl⟩ := own_form ohb; (have hb := hide (ohb.all)); clear ohb; clear bz1)
          | fail)
        go_roundw
        case rel => exact ⟨k + 1, A3, A4, c3, c4, X2, Y2, by omega, by go_num, rfl, rfl, by rw [show min (k + 1) 64 = k + 1 by omega]; exact x2, by rw [show min (k + 1) 64 = k + 1 by omega]; exact y2, ha, hb, hB⟩
        case measure => simp [intOf]; omega
      · have d64 : decide ((k : Int) < 64) = false := decide_eq_false (by omega)
        have mk : min k 64 = 64 := by omega
        rw [mk] at hX hY
        have x1 := (unhide hX).full (by omega)
        have y1 := (unhide hY).full (k := k) (by omega) (by omega)
        rw [x1, openL_no (by rw [x1]; decide)] at hO
        rw [y1, openL_no (by rw [y1]; decide)] at hO'
        clear x1 y1 mk
        obtain ⟨n1, hn1⟩ : ∃ n, n = X.length := ⟨_, rfl⟩
        obtain ⟨n2, hn2⟩ : ∃ n, n = Y.length := ⟨_, rfl⟩
        rw [← hn1] at hO hl ⊢
        rw [← hn2] at hO' hm ⊢
        replace hO := hide hO; replace hO' := hide hO'; replace hn1 := hide hn1; replace hn2 := hide hn2
        have tk0 : True := trivial
        have tk1 : True := trivial
        go_wp2_with (first
          | (have _t := tk0; clear tk0 _t; go_at_call 9; with_reducible refine (unhide hO _ (unhide hl)).mono ?_; rintro ez wz0 ⟨va, rfl, oha, bz0⟩; have szz0 := bz0.size; replace hB := hide ((unhide hB).trans (bz0.mono (unhide hB).size)); replace hl := hide ((unhide hl).grow bz0); replace hm := hide ((unhide hm).grow bz0); (have ha := hide (oha.all)); clear oha; clear bz0)
          | (have _t := tk1; clear tk1 _t; go_at_call 9; with_reducible refine (unhide hO' _ (unhide hm)).mono ?_; rintro ez wz1 ⟨vb, rfl, ohb, bz1⟩; have szz1 := bz1.size; replace hB := hide ((unhide hB).trans (bz1.mono (unhide hB).size)); replace hl := hide ((unhide hl).grow bz1); replace hm := hide ((unhide hm).grow bz1); replace ha := hide ((unhide ha).grow bz1); (have hb := hide (ohb.all)); clear ohb; clear bz1)
          | fail)
        go_roundw
        case rel => exact ⟨k + 1, A, A', c, c', X, Y, by omega, by go_num, by rw [unhide hn1], by rw [unhide hn2], by rw [show min (k + 1) 64 = 64 by omega]; exact hX, by rw [show min (k + 1) 64 = 64 by omega]; exact hY, by rw [← unhide hn1]; exact hl, by rw [← unhide hn2]; exact hm, hB⟩
        case measure => simp [intOf]; omega
    · obtain rfl : k = z := by omega
      have hM := fun W (h : Pns 0 W.heap.size W (.slice A X.length c) X) => Many_any 0 W.heap.size _ X g W h (Nat.le_refl _) (unhide hX).pins.sm
      have my : may X g = true := may_iff.2 ⟨by omega, (unhide hX).pins⟩
      unfold manyN manyE at hM
      rw [my, if_pos rfl, if_pos rfl, (unhide hX).many] at hM
      have hlen := (unhide hY).len
      clear my hX hY
      generalize X.length = n1 at *
      generalize Y.length = n2 at *
      obtain ⟨q, hq⟩ : ∃ q, q = min k 64 := ⟨_, rfl⟩
      rw [← hq] at hM hlen
      have hmin : min (k : Int) 64 = (q : Int) := by omega
      subst hlen
      replace hM := hide hM
      clear hq
      have tk0 : True := trivial
      go_wp2_with (first
        | (have _t := tk0; clear tk0 _t; go_at_call 13; with_reducible refine (unhide hM _ (unhide hl)).mono ?_; rintro ez wz0 ⟨rfl, bz0⟩; have szz0 := bz0.size; replace hB := hide ((unhide hB).trans (bz0.mono (unhide hB).size)); replace hl := hide ((unhide hl).grow bz0); replace hm := hide ((unhide hm).grow bz0); clear bz0)
        | fail)
      all_goals go_ret
      all_goals exact ⟨rfl, unhide hB⟩
end Go.Proofs.Ythjgnbjobinhdaa
