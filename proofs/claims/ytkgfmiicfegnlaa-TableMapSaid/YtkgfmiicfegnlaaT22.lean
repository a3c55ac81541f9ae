import Derived.Test.YtkgfmiicfegnlaaT21
namespace Go.Proofs.Ytkgfmiicfegnlaa
open Go.RowKit
attribute [local go_sem] bz_size bz_toList run_store_float
set_option maxRecDepth 100000

set_option maxHeartbeats 2000000 in
theorem refPut_any (lo hi : Nat) (v : Value) (l : List Fl) (f : Fl) (w : World) (h : Fls lo hi w v l) (hhi : hi ≤ w.heap.size) (hs : SmL l) (hf : SmF f) :
    Calls Try.prog 12 #[v, (.agg #[.string (bz f.nm), .float .f64 f.rk, .int .u32 f.sm, .int .i64 f.bk, .int .i64 f.fr, .int .i64 f.ln])] w fun e w' => ∃ v', e = .returned (.tuple #[v', .int .i64 (putR l f).2]) ∧ OwnF w' w.heap.size v' (putR l f).1 ∧ Below w.heap.size w w' := by
  have hT := fun W (hB : Below w.heap.size w W) => refCheckL_any lo hi v l W (h.below hB hhi) (Nat.le_trans hhi hB.size) hs
  have hI := fun W => refMay_any f hf W
  have hF := fun W (hB : Below w.heap.size w W) h1 => refFind_any lo hi v l f.nm W (h.below hB hhi) (Nat.le_trans hhi hB.size) h1
  have hW := fun W (hB : Below w.heap.size w W) h1 => refWith_any lo hi v l f W (h.below hB hhi) (Nat.le_trans hhi hB.size) h1 hs hf
  have hh := h
  obtain ⟨A, c, rfl, h1, h2, h3⟩ := hh
  clear h h3 hs hf hhi
  cases ht : tabB l with
  | false =>
    rw [putR_no (.inl ht)]
    rw [ht, err_f] at hT
    clear hI hF hW ht
    replace hT := hide hT
    go_enter Try.func12, Try.ntmps12
    go_wp2_with (go_at_call 22; refine (unhide hT _ (by (repeat (first | with_reducible exact Below.refl _ _ | with_reducible assumption | with_reducible refine Below.drew ?_ | with_reducible refine bl_alloc ?_ _ | with_reducible refine bl_call ?_ (by assumption) | (focus (with_reducible refine Below.setCell ?_ ?_ _; rotate_left; focus (first | omega | (simp <;> omega)))) | fail)))).mono ?_; rintro e w1 ⟨rfl, B1⟩)
    go_ret2
    exact ⟨_, rfl, own_nil _ _, (bl_alloc (Below.refl _ _) _).trans (B1.mono (by simp only [World.size_alloc]; omega))⟩
  | true =>
    rw [ht, err_t] at hT
    cases hk : okF f with
    | false =>
      rw [putR_no (.inr hk)]
      rw [hk] at hI
      clear hF hW ht hk
      replace hT := hide hT; replace hI := hide hI
      go_enter Try.func12, Try.ntmps12
      go_wp2_with (first
        | (go_at_call 22; refine (unhide hT _ (by (repeat (first | with_reducible exact Below.refl _ _ | with_reducible assumption | with_reducible refine Below.drew ?_ | with_reducible refine bl_alloc ?_ _ | with_reducible refine bl_call ?_ (by assumption) | (focus (with_reducible refine Below.setCell ?_ ?_ _; rotate_left; focus (first | omega | (simp <;> omega)))) | fail)))).mono ?_; rintro e w1 ⟨rfl, B1⟩; obtain ⟨c0, c1, c2, c3, c4, c5⟩ := bk6 (new6 B1))
        | (go_at_call 36; refine (unhide hI _).mono ?_; rintro e w2 ⟨rfl, B2⟩))
      go_ret2
      have B3 := (bl_alloc (Below.refl w.heap.size w) (.cells #[.string (bz f.nm), .float .f64 f.rk, .int .u32 f.sm, .int .i64 f.bk, .int .i64 f.fr, .int .i64 f.ln] 26)).trans (B1.mono (by simp only [World.size_alloc]; omega))
      exact ⟨_, rfl, own_nil _ _, ret_live B3 B2⟩
    | true =>
      rw [hk] at hI
      replace hF := fun W hB => hF W hB (tab_up ht)
      replace hW := fun W hB => hW W hB (by have := tab_len ht; omega)
      have hneg : thereB l f.nm = false → fndI l f.nm = -1 := fun h => by unfold fndI; rw [h]; rfl
      have hpos : thereB l f.nm = true → fndI l f.nm = (posn l f.nm : Nat) := fun h => by unfold fndI; rw [h]; rfl
      generalize hz : fndI l f.nm = z at *
      obtain ⟨t, ht2⟩ : ∃ t, t = thereB l f.nm := ⟨_, rfl⟩
      obtain ⟨m, hm2⟩ : ∃ m, m = l.length := ⟨_, rfl⟩
      rw [← ht2] at hneg hpos
      by_cases h256 : m = 256
      · have d1 : ((m : Int) == 256) = true := by rw [h256]; rfl
        cases t with
        | false =>
          rw [putR_full ht hk ht2.symm (hm2 ▸ h256)]
          have d2 : z = -1 := hneg rfl
          subst d2
          rw [← hm2] at hT hF ⊢
          clear hW ht hk ht2 hm2 h256 hz hneg hpos
          replace hT := hide hT; replace hI := hide hI; replace hF := hide hF
          go_enter Try.func12, Try.ntmps12
          go_wp2_with (first
            | (go_at_call 22; refine (unhide hT _ (by (repeat (first | with_reducible exact Below.refl _ _ | with_reducible assumption | with_reducible refine Below.drew ?_ | with_reducible refine bl_alloc ?_ _ | with_reducible refine bl_call ?_ (by assumption) | (focus (with_reducible refine Below.setCell ?_ ?_ _; rotate_left; focus (first | omega | (simp <;> omega)))) | fail)))).mono ?_; rintro e w1 ⟨rfl, B1⟩; (have B3 := hide ((bl_alloc (Below.refl w.heap.size w) (.cells #[.string (bz f.nm), .float .f64 f.rk, .int .u32 f.sm, .int .i64 f.bk, .int .i64 f.fr, .int .i64 f.ln] 26)).trans (B1.mono (by simp only [World.size_alloc]; omega)))); (have q1 : Blk w1 w.heap.size 26 #[.string (bz f.nm), .float .f64 f.rk, .int .u32 f.sm, .int .i64 f.bk, .int .i64 f.fr, .int .i64 f.ln] := new6 B1); obtain ⟨c0, c1, c2, c3, c4, c5⟩ := bk6 q1; replace q1 := hide q1)
            | (go_at_call 36; refine (unhide hI _).mono ?_; rintro e w2 ⟨rfl, B2⟩; (have B4 := hide (ret_live (unhide B3) B2)); (have q2 : Blk w2 w.heap.size 26 #[.string (bz f.nm), .float .f64 f.rk, .int .u32 f.sm, .int .i64 f.bk, .int .i64 f.fr, .int .i64 f.ln] := (unhide q1).below B2 (unhide q1).lt); obtain ⟨d0, d1, d2, d3, d4, d5⟩ := bk6 q2)
            | (go_at_call 37; refine (unhide hF _ (unhide B4)).mono ?_; rintro e w3 ⟨rfl, B5⟩))
          go_ret2
          exact ⟨_, rfl, own_nil _ _, ret_live (unhide B4) B5⟩
        | true =>
          rw [putR_ok ht hk (fun h => by rw [← ht2] at h; cases h.1)]
          have d2 := hpos rfl
          rw [d2] at hF
          rw [← hm2] at hT hF hW ⊢
          clear ht hk ht2 hm2 h256 hz hneg hpos d2
          generalize posn l f.nm = i at *
          obtain ⟨out, ho⟩ : ∃ o, o = putF l f := ⟨_, rfl⟩
          rw [← ho] at hW ⊢
          clear ho
          replace hT := hide hT; replace hI := hide hI; replace hF := hide hF; replace hW := hide hW
          go_enter Try.func12, Try.ntmps12
          go_wp2_with (first
            | (go_at_call 22; refine (unhide hT _ (by (repeat (first | with_reducible exact Below.refl _ _ | with_reducible assumption | with_reducible refine Below.drew ?_ | with_reducible refine bl_alloc ?_ _ | with_reducible refine bl_call ?_ (by assumption) | (focus (with_reducible refine Below.setCell ?_ ?_ _; rotate_left; focus (first | omega | (simp <;> omega)))) | fail)))).mono ?_; rintro e w1 ⟨rfl, B1⟩; (have B3 := hide ((bl_alloc (Below.refl w.heap.size w) (.cells #[.string (bz f.nm), .float .f64 f.rk, .int .u32 f.sm, .int .i64 f.bk, .int .i64 f.fr, .int .i64 f.ln] 26)).trans (B1.mono (by simp only [World.size_alloc]; omega)))); (have q1 : Blk w1 w.heap.size 26 #[.string (bz f.nm), .float .f64 f.rk, .int .u32 f.sm, .int .i64 f.bk, .int .i64 f.fr, .int .i64 f.ln] := new6 B1); obtain ⟨c0, c1, c2, c3, c4, c5⟩ := bk6 q1; replace q1 := hide q1)
            | (go_at_call 36; refine (unhide hI _).mono ?_; rintro e w2 ⟨rfl, B2⟩; (have B4 := hide (ret_live (unhide B3) B2)); (have q2 : Blk w2 w.heap.size 26 #[.string (bz f.nm), .float .f64 f.rk, .int .u32 f.sm, .int .i64 f.bk, .int .i64 f.fr, .int .i64 f.ln] := (unhide q1).below B2 (unhide q1).lt); obtain ⟨d0, d1, d2, d3, d4, d5⟩ := bk6 q2; replace q2 := hide q2)
            | (go_at_call 37; refine (unhide hF _ (unhide B4)).mono ?_; rintro e w3 ⟨rfl, B5⟩; (have B6 := hide (ret_live (unhide B4) B5)); (have q3 : Blk w3 w.heap.size 26 #[.string (bz f.nm), .float .f64 f.rk, .int .u32 f.sm, .int .i64 f.bk, .int .i64 f.fr, .int .i64 f.ln] := (unhide q2).below B5 (unhide q2).lt); obtain ⟨e0, e1, e2, e3, e4, e5⟩ := bk6 q3)
            | (go_at_call 38; refine (unhide hW _ (unhide B6)).mono ?_; rintro e w4 ⟨v', rfl, O7, B7⟩))
          go_ret2
          exact ⟨v', rfl, own_mono O7 (unhide B6).size, ret_live (unhide B6) B7⟩
      · rw [putR_ok ht hk (fun h => h256 (hm2.trans h.2))]
        have d1 : ((m : Int) == 256) = false := by rw [beq_eq_false_iff_ne]; omega
        rw [← hm2] at hT hW ⊢
        clear ht hk ht2 hm2 h256 hz hneg hpos hF
        obtain ⟨out, ho⟩ : ∃ o, o = putF l f := ⟨_, rfl⟩
        rw [← ho] at hW ⊢
        clear ho
        replace hT := hide hT; replace hI := hide hI; replace hW := hide hW
        go_enter Try.func12, Try.ntmps12
        go_wp2_with (first
          | (go_at_call 22; refine (unhide hT _ (by (repeat (first | with_reducible exact Below.refl _ _ | with_reducible assumption | with_reducible refine Below.drew ?_ | with_reducible refine bl_alloc ?_ _ | with_reducible refine bl_call ?_ (by assumption) | (focus (with_reducible refine Below.setCell ?_ ?_ _; rotate_left; focus (first | omega | (simp <;> omega)))) | fail)))).mono ?_; rintro e w1 ⟨rfl, B1⟩; (have B3 := hide ((bl_alloc (Below.refl w.heap.size w) (.cells #[.string (bz f.nm), .float .f64 f.rk, .int .u32 f.sm, .int .i64 f.bk, .int .i64 f.fr, .int .i64 f.ln] 26)).trans (B1.mono (by simp only [World.size_alloc]; omega)))); (have q1 : Blk w1 w.heap.size 26 #[.string (bz f.nm), .float .f64 f.rk, .int .u32 f.sm, .int .i64 f.bk, .int .i64 f.fr, .int .i64 f.ln] := new6 B1); obtain ⟨c0, c1, c2, c3, c4, c5⟩ := bk6 q1; replace q1 := hide q1)
          | (go_at_call 36; refine (unhide hI _).mono ?_; rintro e w2 ⟨rfl, B2⟩; (have B4 := hide (ret_live (unhide B3) B2)); (have q2 : Blk w2 w.heap.size 26 #[.string (bz f.nm), .float .f64 f.rk, .int .u32 f.sm, .int .i64 f.bk, .int .i64 f.fr, .int .i64 f.ln] := (unhide q1).below B2 (unhide q1).lt); obtain ⟨d0, d1, d2, d3, d4, d5⟩ := bk6 q2; replace q2 := hide q2)
          | (go_at_call 38; refine (unhide hW _ (unhide B4)).mono ?_; rintro e w4 ⟨v', rfl, O7, B7⟩))
        go_ret2
        exact ⟨v', rfl, own_mono O7 (unhide B4).size, ret_live (unhide B4) B7⟩

theorem getR_err {l : List Fl} {p : List UInt8} : ((getR l p).2 = 0 ∧ tabB l = true ∧ nameB p = true ∧ thereB l p = true ∧ delR l p = (delF l p, 0)) ∨ (((getR l p).2 = 1 ∨ (getR l p).2 = 4) ∧ delR l p = ([], (getR l p).2)) := by
  by_cases h1 : tabB l = false ∨ nameB p = false
  · right; rw [getR_no h1, delR_no h1]; exact ⟨.inl rfl, rfl⟩
  · have h2 : tabB l = true := by cases h : tabB l with
      | true => rfl
      | false => exact absurd (.inl h) h1
    have h3 : nameB p = true := by cases h : nameB p with
      | true => rfl
      | false => exact absurd (.inr h) h1
    cases h4 : thereB l p with
    | false => right; rw [getR_none h2 h3 h4, delR_none h2 h3 h4]; exact ⟨.inr rfl, rfl⟩
    | true => left; rw [getR_ok h2 h3 h4]; exact ⟨rfl, h2, h3, rfl, delR_ok h2 h3 h4⟩
set_option maxHeartbeats 2000000 in
theorem refDel_any (lo hi : Nat) (v : Value) (l : List Fl) (p : List UInt8) (w : World) (h : Fls lo hi w v l) (hhi : hi ≤ w.heap.size) (hs : SmL l) (hp : p.length ≤ 300) :
    Calls Try.prog 14 #[v, .string (bz p)] w fun e w' => ∃ v', e = .returned (.tuple #[v', .int .i64 (delR l p).2]) ∧ OwnF w' w.heap.size v' (delR l p).1 ∧ Below w.heap.size w w' := by
  have hG := fun W (hB : Below w.heap.size w W) => refGet_any lo hi v l p W (h.below hB hhi) (Nat.le_trans hhi hB.size) hs hp
  have hW := fun W (hB : Below w.heap.size w W) h1 h2 => refWithout_any lo hi v l p W (h.below hB hhi) (Nat.le_trans hhi hB.size) h1 h2
  clear h hs hp hhi
  obtain ⟨⟨g, er⟩, hg⟩ : ∃ q, q = getR l p := ⟨_, rfl⟩
  have hE := getR_err (l := l) (p := p)
  rw [← hg] at hG hE
  clear hg
  rcases hE with ⟨e1, h1, h2, h3, h4⟩ | ⟨e1, h4⟩
  · have e1 : er = 0 := e1
    subst e1
    rw [h4]
    replace hW := fun W hB => hW W hB (by have := tab_len h1; omega) (tab_up h1)
    clear h1 h2 h3 h4
    replace hG := hide hG; replace hW := hide hW
    go_enter Try.func14, Try.ntmps14
    go_wp2_with (first
      | (go_at_call 18; refine (unhide hG _ (Below.refl _ _)).mono ?_; rintro e w1 ⟨rfl, B1⟩; have B2 := hide (B1.alloc B1.size (.cells #[.string (bz g.nm), .float .f64 g.rk, .int .u32 g.sm, .int .i64 g.bk, .int .i64 g.fr, .int .i64 g.ln] 26)))
      | (go_at_call 41; refine (unhide hW _ (unhide B2)).mono ?_; rintro e w2 ⟨v', rfl, O3, B3⟩))
    go_ret2
    exact ⟨v', rfl, own_mono O3 (unhide B2).size, ret_live (unhide B2) B3⟩
  · have e0 : ∀ k : Int, k = 1 ∨ k = 4 → (k != 0) = true := fun k h => by rw [bne_iff_ne]; omega
    rw [h4]
    have e2 := e0 er e1
    clear hW h4 e0 e1
    replace hG := hide hG
    go_enter Try.func14, Try.ntmps14
    go_wp2_with (go_at_call 18; refine (unhide hG _ (Below.refl _ _)).mono ?_; rintro e w1 ⟨rfl, B1⟩)
    go_ret2
    exact ⟨_, rfl, own_nil _ _, B1.alloc B1.size _⟩
end Go.Proofs.Ytkgfmiicfegnlaa
