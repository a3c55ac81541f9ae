import Derived.Test.YtkgfmiicfegnlaaT17
namespace Go.Proofs.Ytkgfmiicfegnlaa
open Go.RowKit
attribute [local go_sem] bz_size bz_toList run_store_float
set_option maxRecDepth 100000

theorem fil_t {P : Fl → Bool} {l : List Fl} {k : Nat} (hk : k < l.length) (h : P (nth l k) = true) (pre : List Fl) : pre ++ (l.take (k + 1)).filter P = (pre ++ (l.take k).filter P) ++ [nth l k] := by
  rw [List.take_succ_eq_append_getElem hk, List.filter_append, ← nth_get hk, List.append_assoc]
  simp [h]
theorem fil_f {P : Fl → Bool} {l : List Fl} {k : Nat} (hk : k < l.length) (h : P (nth l k) = false) (pre : List Fl) : pre ++ (l.take (k + 1)).filter P = pre ++ (l.take k).filter P := by
  rw [List.take_succ_eq_append_getElem hk, List.filter_append, ← nth_get hk]
  simp [h]
theorem fil_len (P : Fl → Bool) (l : List Fl) (k : Nat) (pre : List Fl) : (pre ++ (l.take k).filter P).length ≤ pre.length + l.length := by
  have h1 := List.length_filter_le P (l.take k)
  rw [List.length_take] at h1
  rw [List.length_append]; omega

theorem posn_uniq {l : List Fl} (hU : Up l) {p : List UInt8} {k : Nat} (hk : k < l.length) (h : (nth l k).nm = p) : posn l p = k :=
  posn_is (Nat.le_of_lt hk) (fun j hj => by rw [← h]; exact up_at hU hj hk) (fun j h1 h2 => by
    rcases Nat.eq_or_lt_of_le h1 with e | h3
    · subst e; rw [h]; exact lt_self p
    · rw [← h]; exact lt_asymm (up_at hU h3 h2))
/-- Where the reference finds a name. -/
def fndI (l : List Fl) (p : List UInt8) : Int := if thereB l p then (posn l p : Nat) else -1
def NeAll (l : List Fl) (p : List UInt8) (k : Nat) : Prop := ∀ j, j < k → (nth l j).nm ≠ p
set_option maxHeartbeats 1000000 in
theorem refFind_any (lo hi : Nat) (v : Value) (l : List Fl) (p : List UInt8) (w : World) (h : Fls lo hi w v l) (hhi : hi ≤ w.heap.size) (hU : Up l) :
    Calls Try.prog 37 #[v, .string (bz p)] w fun e W' => e = .returned (.int .i64 (fndI l p)) ∧ Below w.heap.size w W' := by
  obtain ⟨A, c, rfl, h1, h2, h3⟩ := h.open6
  clear h
  obtain ⟨n, hn⟩ : ∃ n, n = l.length := ⟨_, rfl⟩
  rw [← hn] at h3 h1 ⊢
  have n63 : n ≤ 9223372036854775807 := by omega
  replace hn := hide hn; replace h3 := hide h3; replace h1 := hide h1; replace hU := hide hU
  go_enter Try.func37, Try.ntmps37
  go_wp2
  go_loopw [9] (fun i wr => ∃ k : Nat, k ≤ n ∧ i = .int .i64 k ∧ Hid (NeAll l p k) ∧ Hid (Below w.heap.size w wr)) (fun i _ => n - (intOf i).toNat)
  case atStart => exact ⟨0, Nat.zero_le _, rfl, hide (fun j hj => absurd hj (Nat.not_lt_zero _)), hide (Below.refl _ _)⟩
  case round =>
    obtain ⟨k, hk, rfl, hall, hB⟩ := hrel
    by_cases hlt : k < n
    · have hkl : k < l.length := by rw [← unhide hn]; exact hlt
      obtain ⟨b, off, rfl, _, hb, hc⟩ := unhide h3 k hlt
      obtain ⟨c0, c1, c2, c3, c4, c5⟩ := six (below_load (unhide hB) (Nat.lt_of_lt_of_le hb hhi) hc)
      have q1 : b < wr.heap.size := Nat.lt_of_lt_of_le (Nat.lt_of_lt_of_le hb hhi) (unhide hB).size
      have hgood : (nth l k).nm ≠ p → NeAll l p (k + 1) := fun h j hj => by
        rcases Nat.lt_or_ge j k with h2 | h2
        · exact unhide hall j h2
        · rw [show j = k by omega]; exact h
      have hhit : (nth l k).nm = p → fndI l p = (k : Int) := fun h => by
        have h1 := posn_uniq (unhide hU) hkl h
        have h2 : thereB l p = true := there_iff.2 ⟨_, nth_mem hkl, h⟩
        unfold fndI; rw [h2, if_pos rfl, h1]
      have hB0 : Hid (∀ x, Below w.heap.size w (wr.alloc x)) := hide (fun x => (unhide hB).alloc (unhide hB).size _)
      obtain ⟨f, hf⟩ : ∃ f, f = nth l k := ⟨_, rfl⟩
      rw [← hf] at c0 c1 c2 c3 c4 c5 hgood hhit
      clear hc hf hkl
      cases he : f.nm == p with
      | true =>
        have e1 := hhit (eq_of_beq he)
        clear hgood hhit
        replace e1 := hide e1
        go_wp2
        go_ret
        exact ⟨by rw [unhide e1]; rfl, unhide hB0 _⟩
      | false =>
        have e1 := hgood (ne_of_beq_false he)
        clear hgood hhit
        replace e1 := hide e1
        go_wp2
        go_roundw
        case rel => exact ⟨k + 1, by omega, by go_num, e1, hide (unhide hB0 _)⟩
        case measure => simp [intOf]; omega
    · obtain rfl : k = n := by omega
      have e1 : fndI l p = -1 := by
        have : thereB l p = false := there_no.2 (fun x hx => by
          obtain ⟨i, hi, rfl⟩ := List.mem_iff_getElem.1 hx
          rw [← nth_get hi]
          exact unhide hall i (by rw [unhide hn]; exact hi))
        unfold fndI; rw [this]; rfl
      replace e1 := hide e1
      go_wp2
      go_ret
      exact ⟨by rw [unhide e1]; rfl, unhide hB⟩

set_option maxHeartbeats 2000000 in
theorem refGet_any (lo hi : Nat) (v : Value) (l : List Fl) (p : List UInt8) (w : World) (h : Fls lo hi w v l) (hhi : hi ≤ w.heap.size) (hs : SmL l) (hp : p.length ≤ 300) :
    Calls Try.prog 18 #[v, .string (bz p)] w fun e w' => e = .returned (.tuple #[(.agg #[.string (bz (getR l p).1.nm), .float .f64 (getR l p).1.rk, .int .u32 (getR l p).1.sm, .int .i64 (getR l p).1.bk, .int .i64 (getR l p).1.fr, .int .i64 (getR l p).1.ln]), .int .i64 (getR l p).2]) ∧ Below w.heap.size w w' := by
  have hT := fun W (hB : Below w.heap.size w W) => refCheckL_any lo hi v l W (h.below hB hhi) (Nat.le_trans hhi hB.size) hs
  have hI := fun W => refCheck_any p (by omega) W
  have hF := fun W (hB : Below w.heap.size w W) h1 => refFind_any lo hi v l p W (h.below hB hhi) (Nat.le_trans hhi hB.size) h1
  have hh := h.open6
  obtain ⟨A, c, rfl, h1, h2, h3⟩ := hh
  have n63 : l.length ≤ 9223372036854775807 := by omega
  clear h hp
  have B0 : Below w.heap.size w (w.alloc (.cells #[.string (bz noF.nm), .float .f64 noF.rk, .int .u32 noF.sm, .int .i64 noF.bk, .int .i64 noF.fr, .int .i64 noF.ln] 26)) := bl_alloc (Below.refl _ _) _
  cases ht : tabB l with
  | false =>
    rw [getR_no (.inl ht)]
    rw [ht, err_f] at hT
    clear hI hF ht h3
    replace hT := hide hT; replace B0 := hide B0
    go_enter Try.func18, Try.ntmps18
    go_wp2_with (go_at_call 22; refine (unhide hT _ (unhide B0)).mono ?_; rintro e w1 ⟨rfl, B1⟩; (have q1 : Blk w1 w.heap.size 26 #[.string (bz noF.nm), .float .f64 noF.rk, .int .u32 noF.sm, .int .i64 noF.bk, .int .i64 noF.fr, .int .i64 noF.ln] := new6 B1); obtain ⟨c0, c1, c2, c3, c4, c5⟩ := bk6 q1; have fz := fun i => q1.frozen i)
    exact ret_f2 rfl w.heap.size _ rfl _ rfl rfl q1.set6 rfl ⟨rfl, bl_set6 ((unhide B0).trans (B1.mono (by simp only [World.size_alloc]; omega))) (Nat.le_refl _)⟩
  | true =>
    rw [ht, err_t] at hT
    cases hk : nameB p with
    | false =>
      rw [getR_no (.inr hk)]
      rw [hk, if_neg (by simp)] at hI
      clear hF ht hk h3
      replace hT := hide hT; replace hI := hide hI; replace B0 := hide B0
      go_enter Try.func18, Try.ntmps18
      go_wp2_with (first
        | (go_at_call 22; refine (unhide hT _ (unhide B0)).mono ?_; rintro e w1 ⟨rfl, B1⟩; (have q1 : Blk w1 w.heap.size 26 #[.string (bz noF.nm), .float .f64 noF.rk, .int .u32 noF.sm, .int .i64 noF.bk, .int .i64 noF.fr, .int .i64 noF.ln] := new6 B1); replace q1 := hide q1)
        | (go_at_call 42; refine (unhide hI _).mono ?_; rintro e w2 ⟨rfl, B2⟩; (have q2 : Blk w2 w.heap.size 26 #[.string (bz noF.nm), .float .f64 noF.rk, .int .u32 noF.sm, .int .i64 noF.bk, .int .i64 noF.fr, .int .i64 noF.ln] := (unhide q1).below B2 (unhide q1).lt); obtain ⟨c0, c1, c2, c3, c4, c5⟩ := bk6 q2; have fz := fun i => q2.frozen i))
      have B3 := ret_live ((unhide B0).trans (B1.mono (by simp only [World.size_alloc]; omega))) B2
      exact ret_f2 rfl w.heap.size _ rfl _ rfl rfl q2.set6 rfl ⟨rfl, bl_set6 B3 (Nat.le_refl _)⟩
    | true =>
      rw [hk, if_pos rfl] at hI
      replace hF := fun W hB => hF W hB (tab_up ht)
      cases hc : thereB l p with
      | false =>
        rw [getR_none ht hk hc]
        have e1 : fndI l p = -1 := by unfold fndI; rw [hc]; rfl
        rw [e1] at hF
        clear ht hk hc h3 e1
        generalize posn l p = i at *
        replace hT := hide hT; replace hI := hide hI; replace hF := hide hF; replace B0 := hide B0
        go_enter Try.func18, Try.ntmps18
        go_wp2_with (first
          | (go_at_call 22; refine (unhide hT _ (unhide B0)).mono ?_; rintro e w1 ⟨rfl, B1⟩; (have q1 : Blk w1 w.heap.size 26 #[.string (bz noF.nm), .float .f64 noF.rk, .int .u32 noF.sm, .int .i64 noF.bk, .int .i64 noF.fr, .int .i64 noF.ln] := new6 B1); replace q1 := hide q1)
          | (go_at_call 42; refine (unhide hI _).mono ?_; rintro e w2 ⟨rfl, B2⟩; (have q2 : Blk w2 w.heap.size 26 #[.string (bz noF.nm), .float .f64 noF.rk, .int .u32 noF.sm, .int .i64 noF.bk, .int .i64 noF.fr, .int .i64 noF.ln] := (unhide q1).below B2 (unhide q1).lt); replace q2 := hide q2; (have B4 := hide (ret_live ((unhide B0).trans (B1.mono (by simp only [World.size_alloc]; omega))) B2)))
          | (go_at_call 37; refine (unhide hF _ (unhide B4)).mono ?_; rintro e w3 ⟨rfl, B5⟩; (have q3 : Blk w3 w.heap.size 26 #[.string (bz noF.nm), .float .f64 noF.rk, .int .u32 noF.sm, .int .i64 noF.bk, .int .i64 noF.fr, .int .i64 noF.ln] := (unhide q2).below B5 (unhide q2).lt); obtain ⟨c0, c1, c2, c3, c4, c5⟩ := bk6 q3; have fz := fun i => q3.frozen i))
        exact ret_f2 rfl w.heap.size _ rfl _ rfl rfl q3.set6 rfl ⟨rfl, bl_set6 (ret_live (unhide B4) B5) (Nat.le_refl _)⟩
      | true =>
        rw [getR_ok ht hk hc]
        have e1 : fndI l p = (posn l p : Nat) := by unfold fndI; rw [hc]; rfl
        rw [e1] at hF
        have hpl := (posn_get (tab_up ht) hc).1
        obtain ⟨b, off, rfl, _, hb, hcell⟩ := h3 _ hpl
        have hbw : b < w.heap.size := Nat.lt_of_lt_of_le hb hhi
        clear ht hk hc hs h3 e1
        generalize posn l p = i at *
        obtain ⟨f, hf⟩ : ∃ f, f = nth l i := ⟨_, rfl⟩
        rw [← hf] at hcell ⊢
        clear hf
        generalize l.length = n at *
        replace hT := hide hT; replace hI := hide hI; replace hF := hide hF; replace B0 := hide B0; replace hcell := hide hcell
        go_enter Try.func18, Try.ntmps18
        go_wp2_with (first
          | (go_at_call 22; refine (unhide hT _ (unhide B0)).mono ?_; rintro e w1 ⟨rfl, B1⟩; (have q1 : Blk w1 w.heap.size 26 #[.string (bz noF.nm), .float .f64 noF.rk, .int .u32 noF.sm, .int .i64 noF.bk, .int .i64 noF.fr, .int .i64 noF.ln] := new6 B1); replace q1 := hide q1)
          | (go_at_call 42; refine (unhide hI _).mono ?_; rintro e w2 ⟨rfl, B2⟩; (have q2 : Blk w2 w.heap.size 26 #[.string (bz noF.nm), .float .f64 noF.rk, .int .u32 noF.sm, .int .i64 noF.bk, .int .i64 noF.fr, .int .i64 noF.ln] := (unhide q1).below B2 (unhide q1).lt); replace q2 := hide q2; (have B4 := hide (ret_live ((unhide B0).trans (B1.mono (by simp only [World.size_alloc]; omega))) B2)))
          | (go_at_call 37; refine (unhide hF _ (unhide B4)).mono ?_; rintro e w3 ⟨rfl, B5⟩; (have B6 := ret_live (unhide B4) B5); (have q3 : Blk w3 w.heap.size 26 #[.string (bz noF.nm), .float .f64 noF.rk, .int .u32 noF.sm, .int .i64 noF.bk, .int .i64 noF.fr, .int .i64 noF.ln] := (unhide q2).below B5 (unhide q2).lt); obtain ⟨c0, c1, c2, c3, c4, c5⟩ := six (below_load B6 hbw (unhide hcell)); obtain ⟨d0, d1, d2, d3, d4, d5⟩ := bk6 q3; (have fz := fun i => q3.frozen i); replace q3 := hide q3; replace B6 := hide B6))
        exact ret_f2 rfl w.heap.size _ rfl _ rfl rfl (unhide q3).set6 rfl ⟨rfl, bl_set6 (unhide B6) (Nat.le_refl _)⟩
end Go.Proofs.Ytkgfmiicfegnlaa
