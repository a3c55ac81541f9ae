import Derived.Test.YtkgfmiicfegnlaaT14
namespace Go.Proofs.Ytkgfmiicfegnlaa
open Go.RowKit
attribute [local go_sem] bz_size bz_toList run_store_float
set_option maxRecDepth 100000

set_option maxHeartbeats 2000000 in
theorem del_any (lo hi : Nat) (v : Value) (l : List Fl) (p : List UInt8) (w : World) (h : Fls lo hi w v l) (hhi : hi ≤ w.heap.size) (hs : SmL l) (hp : p.length ≤ 300) :
    Calls Try.prog 13 #[v, .string (bz p)] w fun e w' => ∃ v', e = .returned (.tuple #[v', .int .i64 (delR l p).2]) ∧ OwnF w' w.heap.size v' (delR l p).1 ∧ Below w.heap.size w w' := by
  have hT := fun W (hB : Below w.heap.size w W) => isTable_any lo hi v l W (h.below hB hhi) (Nat.le_trans hhi hB.size) hs
  have hI := fun W => isName39_any p (by omega) W
  have hF := fun W (hB : Below w.heap.size w W) h1 h2 => find_any lo hi v l p W (h.below hB hhi) (Nat.le_trans hhi hB.size) hs hp h1 h2
  have hW := fun W (hB : Below w.heap.size w W) h0 h1 => without_any lo hi v l (posn l p) W (h.below hB hhi) (Nat.le_trans hhi hB.size) hs h0 h1
  have hh := h
  obtain ⟨A, c, rfl, h1, h2, h3⟩ := hh
  clear h h3 hs hp hhi
  cases ht : tabB l with
  | false =>
    rw [delR_no (.inl ht)]
    rw [ht] at hT
    clear hI hF hW ht
    replace hT := hide hT
    go_enter Try.func13, Try.ntmps13
    go_wp2_with (go_at_call 32; refine (unhide hT _ (by (repeat (first | with_reducible exact Below.refl _ _ | with_reducible assumption | with_reducible refine Below.drew ?_ | with_reducible refine bl_alloc ?_ _ | with_reducible refine bl_call ?_ (by assumption) | (focus (with_reducible refine Below.setCell ?_ ?_ _; rotate_left; focus (first | omega | (simp <;> omega)))) | fail)))).mono ?_; rintro e w1 ⟨rfl, B1⟩)
    go_ret2
    exact ⟨_, rfl, own_nil _ _, B1⟩
  | true =>
    rw [ht] at hT
    cases hk : nameB p with
    | false =>
      rw [delR_no (.inr hk)]
      rw [hk] at hI
      clear hF hW ht hk
      replace hT := hide hT; replace hI := hide hI
      go_enter Try.func13, Try.ntmps13
      go_wp2_with (first
        | (go_at_call 32; refine (unhide hT _ (by (repeat (first | with_reducible exact Below.refl _ _ | with_reducible assumption | with_reducible refine Below.drew ?_ | with_reducible refine bl_alloc ?_ _ | with_reducible refine bl_call ?_ (by assumption) | (focus (with_reducible refine Below.setCell ?_ ?_ _; rotate_left; focus (first | omega | (simp <;> omega)))) | fail)))).mono ?_; rintro e w1 ⟨rfl, B1⟩)
        | (go_at_call 39; refine (unhide hI _).mono ?_; rintro e w2 ⟨rfl, B2⟩))
      go_ret2
      exact ⟨_, rfl, own_nil _ _, ret_live B1 B2⟩
    | true =>
      rw [hk] at hI
      replace hF := fun W hB => hF W hB ht hk
      cases hc : thereB l p with
      | false =>
        rw [delR_none ht hk hc]
        rw [hc] at hF
        clear hW ht hk hc
        generalize posn l p = i at *
        replace hT := hide hT; replace hI := hide hI; replace hF := hide hF
        go_enter Try.func13, Try.ntmps13
        go_wp2_with (first
          | (go_at_call 32; refine (unhide hT _ (by (repeat (first | with_reducible exact Below.refl _ _ | with_reducible assumption | with_reducible refine Below.drew ?_ | with_reducible refine bl_alloc ?_ _ | with_reducible refine bl_call ?_ (by assumption) | (focus (with_reducible refine Below.setCell ?_ ?_ _; rotate_left; focus (first | omega | (simp <;> omega)))) | fail)))).mono ?_; rintro e w1 ⟨rfl, B1⟩)
          | (go_at_call 39; refine (unhide hI _).mono ?_; rintro e w2 ⟨rfl, B2⟩; (have B4 := hide (ret_live B1 B2)))
          | (go_at_call 34; refine (unhide hF _ (unhide B4)).mono ?_; rintro e w3 ⟨rfl, B5⟩))
        go_ret2
        exact ⟨_, rfl, own_nil _ _, ret_live (unhide B4) B5⟩
      | true =>
        rw [delR_ok ht hk hc, del_split (tab_up ht) hc]
        rw [hc] at hF
        replace hW := fun W hB => hW W hB (by have := tab_len ht; omega) (posn_get (tab_up ht) hc).1
        clear ht hk hc
        generalize posn l p = i at *
        obtain ⟨out, ho⟩ : ∃ o, o = l.take i ++ l.drop (i + 1) := ⟨_, rfl⟩
        rw [← ho] at hW ⊢
        clear ho
        generalize l.length = n at *
        replace hT := hide hT; replace hI := hide hI; replace hF := hide hF; replace hW := hide hW
        go_enter Try.func13, Try.ntmps13
        go_wp2_with (first
          | (go_at_call 32; refine (unhide hT _ (by (repeat (first | with_reducible exact Below.refl _ _ | with_reducible assumption | with_reducible refine Below.drew ?_ | with_reducible refine bl_alloc ?_ _ | with_reducible refine bl_call ?_ (by assumption) | (focus (with_reducible refine Below.setCell ?_ ?_ _; rotate_left; focus (first | omega | (simp <;> omega)))) | fail)))).mono ?_; rintro e w1 ⟨rfl, B1⟩)
          | (go_at_call 39; refine (unhide hI _).mono ?_; rintro e w2 ⟨rfl, B2⟩; (have B4 := hide (ret_live B1 B2)))
          | (go_at_call 34; refine (unhide hF _ (unhide B4)).mono ?_; rintro e w3 ⟨rfl, B5⟩; (have B6 := hide (ret_live (unhide B4) B5)))
          | (go_at_call 40; refine (unhide hW _ (unhide B6)).mono ?_; rintro e w4 ⟨v', rfl, O7, B7⟩))
        go_ret2
        exact ⟨v', rfl, ownsRow_mono O7 (unhide B6).size, ret_live (unhide B6) B7⟩

set_option maxHeartbeats 2000000 in
theorem get_any (lo hi : Nat) (v : Value) (l : List Fl) (p : List UInt8) (w : World) (h : Fls lo hi w v l) (hhi : hi ≤ w.heap.size) (hs : SmL l) (hp : p.length ≤ 300) :
    Calls Try.prog 17 #[v, .string (bz p)] w fun e w' => e = .returned (.tuple #[(.agg #[.string (bz (getR l p).1.nm), .float .f64 (getR l p).1.rk, .int .u32 (getR l p).1.sm, .int .i64 (getR l p).1.bk, .int .i64 (getR l p).1.fr, .int .i64 (getR l p).1.ln]), .int .i64 (getR l p).2]) ∧ Below w.heap.size w w' := by
  have hT := fun W (hB : Below w.heap.size w W) => isTable_any lo hi v l W (h.below hB hhi) (Nat.le_trans hhi hB.size) hs
  have hI := fun W => isName39_any p (by omega) W
  have hF := fun W (hB : Below w.heap.size w W) h1 h2 => find_any lo hi v l p W (h.below hB hhi) (Nat.le_trans hhi hB.size) hs hp h1 h2
  have hh := h.open6
  obtain ⟨A, c, rfl, h1, h2, h3⟩ := hh
  have n63 : l.length ≤ 9223372036854775807 := by omega
  clear h hp
  have B0 : Below w.heap.size w (w.alloc (.cells #[.string (bz noF.nm), .float .f64 noF.rk, .int .u32 noF.sm, .int .i64 noF.bk, .int .i64 noF.fr, .int .i64 noF.ln] 26)) := bl_alloc (Below.refl _ _) _
  cases ht : tabB l with
  | false =>
    rw [getR_no (.inl ht)]
    rw [ht] at hT
    clear hI hF ht h3
    replace hT := hide hT; replace B0 := hide B0
    go_enter Try.func17, Try.ntmps17
    go_wp2_with (go_at_call 32; refine (unhide hT _ (unhide B0)).mono ?_; rintro e w1 ⟨rfl, B1⟩; (have q1 : Blk w1 w.heap.size 26 #[.string (bz noF.nm), .float .f64 noF.rk, .int .u32 noF.sm, .int .i64 noF.bk, .int .i64 noF.fr, .int .i64 noF.ln] := new6 B1); obtain ⟨c0, c1, c2, c3, c4, c5⟩ := bk6 q1; have fz := fun i => q1.frozen i)
    exact ret_f2 rfl w.heap.size _ rfl _ rfl rfl q1.set6 rfl ⟨rfl, bl_set6 ((unhide B0).trans (B1.mono (by simp only [World.size_alloc]; omega))) (Nat.le_refl _)⟩
  | true =>
    rw [ht] at hT
    cases hk : nameB p with
    | false =>
      rw [getR_no (.inr hk)]
      rw [hk] at hI
      clear hF ht hk h3
      replace hT := hide hT; replace hI := hide hI; replace B0 := hide B0
      go_enter Try.func17, Try.ntmps17
      go_wp2_with (first
        | (go_at_call 32; refine (unhide hT _ (unhide B0)).mono ?_; rintro e w1 ⟨rfl, B1⟩; (have q1 : Blk w1 w.heap.size 26 #[.string (bz noF.nm), .float .f64 noF.rk, .int .u32 noF.sm, .int .i64 noF.bk, .int .i64 noF.fr, .int .i64 noF.ln] := new6 B1); replace q1 := hide q1)
        | (go_at_call 39; refine (unhide hI _).mono ?_; rintro e w2 ⟨rfl, B2⟩; (have q2 : Blk w2 w.heap.size 26 #[.string (bz noF.nm), .float .f64 noF.rk, .int .u32 noF.sm, .int .i64 noF.bk, .int .i64 noF.fr, .int .i64 noF.ln] := (unhide q1).below B2 (unhide q1).lt); obtain ⟨c0, c1, c2, c3, c4, c5⟩ := bk6 q2; have fz := fun i => q2.frozen i))
      have B3 := ret_live ((unhide B0).trans (B1.mono (by simp only [World.size_alloc]; omega))) B2
      exact ret_f2 rfl w.heap.size _ rfl _ rfl rfl q2.set6 rfl ⟨rfl, bl_set6 B3 (Nat.le_refl _)⟩
    | true =>
      rw [hk] at hI
      replace hF := fun W hB => hF W hB ht hk
      cases hc : thereB l p with
      | false =>
        rw [getR_none ht hk hc]
        rw [hc] at hF
        clear ht hk hc h3
        generalize posn l p = i at *
        replace hT := hide hT; replace hI := hide hI; replace hF := hide hF; replace B0 := hide B0
        go_enter Try.func17, Try.ntmps17
        go_wp2_with (first
          | (go_at_call 32; refine (unhide hT _ (unhide B0)).mono ?_; rintro e w1 ⟨rfl, B1⟩; (have q1 : Blk w1 w.heap.size 26 #[.string (bz noF.nm), .float .f64 noF.rk, .int .u32 noF.sm, .int .i64 noF.bk, .int .i64 noF.fr, .int .i64 noF.ln] := new6 B1); replace q1 := hide q1)
          | (go_at_call 39; refine (unhide hI _).mono ?_; rintro e w2 ⟨rfl, B2⟩; (have q2 : Blk w2 w.heap.size 26 #[.string (bz noF.nm), .float .f64 noF.rk, .int .u32 noF.sm, .int .i64 noF.bk, .int .i64 noF.fr, .int .i64 noF.ln] := (unhide q1).below B2 (unhide q1).lt); replace q2 := hide q2; (have B4 := hide (ret_live ((unhide B0).trans (B1.mono (by simp only [World.size_alloc]; omega))) B2)))
          | (go_at_call 34; refine (unhide hF _ (unhide B4)).mono ?_; rintro e w3 ⟨rfl, B5⟩; (have q3 : Blk w3 w.heap.size 26 #[.string (bz noF.nm), .float .f64 noF.rk, .int .u32 noF.sm, .int .i64 noF.bk, .int .i64 noF.fr, .int .i64 noF.ln] := (unhide q2).below B5 (unhide q2).lt); obtain ⟨c0, c1, c2, c3, c4, c5⟩ := bk6 q3; have fz := fun i => q3.frozen i))
        exact ret_f2 rfl w.heap.size _ rfl _ rfl rfl q3.set6 rfl ⟨rfl, bl_set6 (ret_live (unhide B4) B5) (Nat.le_refl _)⟩
      | true =>
        rw [getR_ok ht hk hc]
        rw [hc] at hF
        have hpl := (posn_get (tab_up ht) hc).1
        obtain ⟨b, off, rfl, _, hb, hcell⟩ := h3 _ hpl
        have hO := fun W => own_any (nth l (posn l p)) (by have := (hs _ (nth_mem hpl)).1; omega) W
        have hbw : b < w.heap.size := Nat.lt_of_lt_of_le hb hhi
        clear ht hk hc hs h3
        generalize posn l p = i at *
        obtain ⟨f, hf⟩ : ∃ f, f = nth l i := ⟨_, rfl⟩
        rw [← hf] at hcell hO ⊢
        clear hf
        generalize l.length = n at *
        replace hT := hide hT; replace hI := hide hI; replace hF := hide hF; replace B0 := hide B0; replace hO := hide hO; replace hcell := hide hcell
        go_enter Try.func17, Try.ntmps17
        go_wp2_with (first
          | (go_at_call 32; refine (unhide hT _ (unhide B0)).mono ?_; rintro e w1 ⟨rfl, B1⟩; (have q1 : Blk w1 w.heap.size 26 #[.string (bz noF.nm), .float .f64 noF.rk, .int .u32 noF.sm, .int .i64 noF.bk, .int .i64 noF.fr, .int .i64 noF.ln] := new6 B1); replace q1 := hide q1)
          | (go_at_call 39; refine (unhide hI _).mono ?_; rintro e w2 ⟨rfl, B2⟩; (have q2 : Blk w2 w.heap.size 26 #[.string (bz noF.nm), .float .f64 noF.rk, .int .u32 noF.sm, .int .i64 noF.bk, .int .i64 noF.fr, .int .i64 noF.ln] := (unhide q1).below B2 (unhide q1).lt); replace q2 := hide q2; (have B4 := hide (ret_live ((unhide B0).trans (B1.mono (by simp only [World.size_alloc]; omega))) B2)))
          | (go_at_call 34; refine (unhide hF _ (unhide B4)).mono ?_; rintro e w3 ⟨rfl, B5⟩; (have B6 := ret_live (unhide B4) B5); (have q3 : Blk w3 w.heap.size 26 #[.string (bz noF.nm), .float .f64 noF.rk, .int .u32 noF.sm, .int .i64 noF.bk, .int .i64 noF.fr, .int .i64 noF.ln] := (unhide q2).below B5 (unhide q2).lt); obtain ⟨c0, c1, c2, c3, c4, c5⟩ := six (below_load B6 hbw (unhide hcell)); replace q3 := hide q3; replace B6 := hide B6)
          | (go_at_call 43; refine (unhide hO _).mono ?_; rintro e w4 ⟨rfl, B7⟩; (have q4 : Blk w4 w.heap.size 26 #[.string (bz noF.nm), .float .f64 noF.rk, .int .u32 noF.sm, .int .i64 noF.bk, .int .i64 noF.fr, .int .i64 noF.ln] := (unhide q3).below B7 (unhide q3).lt); obtain ⟨d0, d1, d2, d3, d4, d5⟩ := bk6 q4; have fz := fun i => q4.frozen i))
        exact ret_f2 rfl w.heap.size _ rfl _ rfl rfl q4.set6 rfl ⟨rfl, bl_set6 (ret_live (unhide B6) B7) (Nat.le_refl _)⟩
end Go.Proofs.Ytkgfmiicfegnlaa
