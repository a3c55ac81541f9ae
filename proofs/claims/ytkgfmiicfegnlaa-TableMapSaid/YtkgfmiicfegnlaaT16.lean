import Derived.Test.YtkgfmiicfegnlaaT15
namespace Go.Proofs.Ytkgfmiicfegnlaa
open Go.RowKit
attribute [local go_sem] bz_size bz_toList run_store_float
set_option maxRecDepth 100000

/-- A file, under another name. -/
def nmF (f : Fl) (q : List UInt8) : Fl := ⟨q, f.rk, f.sm, f.bk, f.fr, f.ln⟩
def movF (l : List Fl) (p q : List UInt8) : List Fl := putF (delF l p) (nmF (nth l (posn l p)) q)
def movR (l : List Fl) (p q : List UInt8) : List Fl × Int :=
  if tabB l = false ∨ nameB p = false ∨ nameB q = false then ([], 1) else if thereB l p = false then ([], 4) else if p ≠ q ∧ thereB l q = true then ([], 5) else (movF l p q, 0)
theorem movR_no {l : List Fl} {p q : List UInt8} (h : tabB l = false ∨ nameB p = false ∨ nameB q = false) : movR l p q = ([], 1) := by unfold movR; rw [if_pos h]
theorem movR_none {l : List Fl} {p q : List UInt8} (h1 : tabB l = true) (h2 : nameB p = true) (h3 : nameB q = true) (h4 : thereB l p = false) : movR l p q = ([], 4) := by
  unfold movR; rw [if_neg (by simp [h1, h2, h3]), if_pos h4]
theorem movR_there {l : List Fl} {p q : List UInt8} (h1 : tabB l = true) (h2 : nameB p = true) (h3 : nameB q = true) (h4 : thereB l p = true) (h5 : p ≠ q ∧ thereB l q = true) : movR l p q = ([], 5) := by
  unfold movR; rw [if_neg (by simp [h1, h2, h3]), if_neg (by simp [h4]), if_pos h5]
theorem movR_ok {l : List Fl} {p q : List UInt8} (h1 : tabB l = true) (h2 : nameB p = true) (h3 : nameB q = true) (h4 : thereB l p = true) (h5 : ¬ (p ≠ q ∧ thereB l q = true)) : movR l p q = (movF l p q, 0) := by
  unfold movR; rw [if_neg (by simp [h1, h2, h3]), if_neg (by simp [h4]), if_neg h5]
theorem there_del {l : List Fl} {p q : List UInt8} : thereB (delF l p) q = true ↔ p ≠ q ∧ thereB l q = true := by
  rw [there_iff, there_iff]
  constructor
  · rintro ⟨x, hx, e⟩
    obtain ⟨h1, h2⟩ := mem_del.1 hx
    exact ⟨fun h => h2 (by rw [e, h]), x, h1, e⟩
  · rintro ⟨h, x, hx, e⟩
    exact ⟨x, mem_del.2 ⟨hx, fun h' => h (h' ▸ e)⟩, e⟩
theorem sm_del {l : List Fl} (h : SmL l) (p : List UInt8) : SmL (delF l p) := fun f hf => h f (mem_del.1 hf).1
theorem sm_put {l : List Fl} (h : SmL l) {f : Fl} (hf : SmF f) : SmL (putF l f) := fun x hx => by
  rcases mem_put.1 hx with rfl | ⟨hx, _⟩
  · exact hf
  · exact h x hx

/-- A file's box, under another name. -/
theorem box_nm {w : World} {g : Nat} {f : Fl} (h : Blk w g 26 #[.string (bz f.nm), .float .f64 f.rk, .int .u32 f.sm, .int .i64 f.bk, .int .i64 f.fr, .int .i64 f.ln]) (q : List UInt8) : Blk (w.setCell ⟨g, 0, none⟩ (.string (bz q))) g 26 #[.string (bz (nmF f q).nm), .float .f64 (nmF f q).rk, .int .u32 (nmF f q).sm, .int .i64 (nmF f q).bk, .int .i64 (nmF f q).fr, .int .i64 (nmF f q).ln] :=
  h.set 0 (.string (bz q))

theorem own_mono {w : World} {base base' : Nat} {v : Value} {l : List Fl} (h : OwnF w base v l) (hb : base' ≤ base) : OwnF w base' v l := ownsRow_mono h hb
theorem own_alloc {w : World} {base : Nat} {v : Value} {l : List Fl} (h : OwnF w base v l) (o : Obj) : OwnF (w.alloc o) base v l := World.ownsRow.alloc h o
/-- A slice's row does not lie in that block. -/
def NeB (v : Value) (g : Nat) : Prop := ∀ a n c, v = .slice (some a) n c → a.block ≠ g
theorem ne_low {w : World} {base g : Nat} {v : Value} {l : List Fl} (h : OwnF w base v l) (hg : g < base) : NeB v g := by
  rintro a n c rfl
  rcases h.2 with ⟨e, _⟩ | ⟨g', cap, cur, e, hb, _⟩
  · cases e
  · injection e with e; injection e with e; subst e
    show g' ≠ g
    omega
theorem ne_high {w : World} {base g : Nat} {v : Value} {l : List Fl} (h : OwnF w base v l) (hg : w.heap.size ≤ g) : NeB v g := by
  rintro a n c rfl
  have := own_vbelow h a n c rfl
  omega
theorem own_ne {w : World} {base g i : Nat} {v u : Value} {l : List Fl} (h : OwnF w base v l) (hg : NeB v g) : OwnF (w.setCell ⟨g, i, none⟩ u) base v l := by
  obtain ⟨h1, h2⟩ := h
  refine ⟨h1, ?_⟩
  rcases h2 with h2 | ⟨g', cap, cur, hv, hb, hh, r⟩
  · exact .inl h2
  · have : g' ≠ g := hg _ _ _ hv
    exact .inr ⟨g', cap, cur, hv, hb, (Below.heap_setCell w ⟨g, i, none⟩ u g' this).trans hh, r⟩
theorem own_set6 {w : World} {base g : Nat} {v : Value} {l : List Fl} {x0 x1 x2 x3 x4 x5 : Value} (h : OwnF w base v l) (hg : g < base) :
    OwnF ((((((w.setCell ⟨g, 0, none⟩ x0).setCell ⟨g, 1, none⟩ x1).setCell ⟨g, 2, none⟩ x2).setCell ⟨g, 3, none⟩ x3).setCell ⟨g, 4, none⟩ x4).setCell ⟨g, 5, none⟩ x5) base v l :=
  ownsRow_setCell' (ownsRow_setCell' (ownsRow_setCell' (ownsRow_setCell' (ownsRow_setCell' (ownsRow_setCell' h hg x0) hg x1) hg x2) hg x3) hg x4) hg x5
set_option maxHeartbeats 1000000 in
theorem move_any (lo hi : Nat) (v : Value) (l : List Fl) (p q : List UInt8) (w : World) (h : Fls lo hi w v l) (hhi : hi ≤ w.heap.size) (hs : SmL l) (hp : p.length ≤ 300) (hq : q.length ≤ 300) :
    Calls Try.prog 15 #[v, .string (bz p), .string (bz q)] w fun e w' => ∃ v', e = .returned (.tuple #[v', .int .i64 (movR l p q).2]) ∧ OwnF w' w.heap.size v' (movR l p q).1 ∧ Below w.heap.size w w' := by
  have hT := fun W (hB : Below w.heap.size w W) => isTable_any lo hi v l W (h.below hB hhi) (Nat.le_trans hhi hB.size) hs
  have hI := fun W => isName39_any p (by omega) W
  have hJ := fun W => isName39_any q (by omega) W
  have hF := fun W (hB : Below w.heap.size w W) h1 h2 => find_any lo hi v l p W (h.below hB hhi) (Nat.le_trans hhi hB.size) hs hp h1 h2
  have hW := fun W (hB : Below w.heap.size w W) h0 h1 => without_any lo hi v l (posn l p) W (h.below hB hhi) (Nat.le_trans hhi hB.size) hs h0 h1
  have hh := h.open6
  obtain ⟨A, c, rfl, h1, h2, h3⟩ := hh
  have tk1 : True := trivial
  clear h hp
  cases ht : tabB l with
  | false =>
    rw [movR_no (.inl ht)]
    rw [ht] at hT
    clear hI hJ hF hW ht h3 hs
    replace hT := hide hT
    go_enter Try.func15, Try.ntmps15
    go_wp2_with (go_at_call 32; refine (unhide hT _ (by (repeat (first | with_reducible exact Below.refl _ _ | with_reducible assumption | with_reducible refine Below.drew ?_ | with_reducible refine bl_alloc ?_ _ | with_reducible refine bl_call ?_ (by assumption) | (focus (with_reducible refine Below.setCell ?_ ?_ _; rotate_left; focus (first | omega | (simp <;> omega)))) | fail)))).mono ?_; rintro e w1 ⟨rfl, B1⟩)
    go_ret2
    exact ⟨_, rfl, own_nil _ _, B1⟩
  | true =>
    rw [ht] at hT
    cases hk : nameB p with
    | false =>
      rw [movR_no (.inr (.inl hk))]
      rw [hk] at hI
      clear hF hW hJ ht hk h3 hs
      replace hT := hide hT; replace hI := hide hI
      go_enter Try.func15, Try.ntmps15
      go_wp2_with (first
        | (go_at_call 32; refine (unhide hT _ (by (repeat (first | with_reducible exact Below.refl _ _ | with_reducible assumption | with_reducible refine Below.drew ?_ | with_reducible refine bl_alloc ?_ _ | with_reducible refine bl_call ?_ (by assumption) | (focus (with_reducible refine Below.setCell ?_ ?_ _; rotate_left; focus (first | omega | (simp <;> omega)))) | fail)))).mono ?_; rintro e w1 ⟨rfl, B1⟩)
        | (go_at_call 39; refine (unhide hI _).mono ?_; rintro e w2 ⟨rfl, B2⟩))
      go_ret2
      exact ⟨_, rfl, own_nil _ _, ret_live B1 B2⟩
    | true =>
      rw [hk] at hI
      cases hk2 : nameB q with
      | false =>
        rw [movR_no (.inr (.inr hk2))]
        rw [hk2] at hJ
        clear hF hW ht hk hk2 h3 hs
        replace hT := hide hT; replace hI := hide hI; replace hJ := hide hJ
        go_enter Try.func15, Try.ntmps15
        go_wp2_with (first
          | (go_at_call 32; refine (unhide hT _ (by (repeat (first | with_reducible exact Below.refl _ _ | with_reducible assumption | with_reducible refine Below.drew ?_ | with_reducible refine bl_alloc ?_ _ | with_reducible refine bl_call ?_ (by assumption) | (focus (with_reducible refine Below.setCell ?_ ?_ _; rotate_left; focus (first | omega | (simp <;> omega)))) | fail)))).mono ?_; rintro e w1 ⟨rfl, B1⟩)
          | (go_at_call 39; have _t := tk1; refine (unhide hI _).mono ?_; rintro e w2 ⟨rfl, B2⟩; clear tk1 _t)
          | (go_at_call 39; refine (unhide hJ _).mono ?_; rintro e w3 ⟨rfl, B3⟩))
        go_ret2
        exact ⟨_, rfl, own_nil _ _, ret_live (ret_live B1 B2) B3⟩
      | true =>
        rw [hk2] at hJ
        replace hF := fun W hB => hF W hB ht hk
        cases hc : thereB l p with
        | false =>
          rw [movR_none ht hk hk2 hc]
          rw [hc] at hF
          clear hW ht hk hk2 hc h3 hs
          generalize posn l p = i at *
          replace hT := hide hT; replace hI := hide hI; replace hF := hide hF; replace hJ := hide hJ
          go_enter Try.func15, Try.ntmps15
          go_wp2_with (first
            | (go_at_call 32; refine (unhide hT _ (by (repeat (first | with_reducible exact Below.refl _ _ | with_reducible assumption | with_reducible refine Below.drew ?_ | with_reducible refine bl_alloc ?_ _ | with_reducible refine bl_call ?_ (by assumption) | (focus (with_reducible refine Below.setCell ?_ ?_ _; rotate_left; focus (first | omega | (simp <;> omega)))) | fail)))).mono ?_; rintro e w1 ⟨rfl, B1⟩)
            | (go_at_call 39; have _t := tk1; refine (unhide hI _).mono ?_; rintro e w2 ⟨rfl, B2⟩; clear tk1 _t)
            | (go_at_call 39; refine (unhide hJ _).mono ?_; rintro e w3 ⟨rfl, B3⟩; (have B4 := hide (ret_live (ret_live B1 B2) B3)))
            | (go_at_call 34; refine (unhide hF _ (unhide B4)).mono ?_; rintro e w4 ⟨rfl, B5⟩))
          go_ret2
          exact ⟨_, rfl, own_nil _ _, ret_live (unhide B4) B5⟩
        | true =>
          rw [hc] at hF
          have hup := tab_up ht
          have hpl := (posn_get hup hc).1
          replace hW := fun W hB => hW W hB (by have := tab_len ht; omega) hpl
          rw [← del_split hup hc] at hW
          have hG := fun W W1 v' (hO : OwnF W1 W v' (delF l p)) (W2 : World) (hB : Below W1.heap.size W1 W2) => find_any _ _ v' (delF l p) q W2 (hO.fls.below hB (Nat.le_refl _)) hB.size (sm_del hs p) hq (tab_del ht p) hk2
          have hM := fun W v' (W2 : World) (hO : OwnF W2 W v' (delF l p)) => with_any _ _ v' (delF l p) (nmF (nth l (posn l p)) q) W2 hO.fls (Nat.le_refl _) (sm_del hs p) ⟨hq, (hs _ (nth_mem hpl)).2⟩ (tab_del ht p) hk2
          obtain ⟨b, off, rfl, _, hb, hcell⟩ := h3 _ hpl
          have hbw : b < w.heap.size := Nat.lt_of_lt_of_le hb hhi
          have hth := there_del (l := l) (p := p) (q := q)
          have hmv : movF l p q = putF (delF l p) (nmF (nth l (posn l p)) q) := rfl
          clear hs h3 hq hhi hup
          generalize posn l p = i at *
          obtain ⟨f, hf⟩ : ∃ f, f = nth l i := ⟨_, rfl⟩
          rw [← hf] at hcell hM hmv
          generalize delF l p = rest at *
          generalize l.length = n at *
          replace hf := hide hf; replace hmv := hide hmv
          replace hT := hide hT; replace hI := hide hI; replace hF := hide hF; replace hJ := hide hJ; replace hW := hide hW; replace hcell := hide hcell; replace hth := hide hth; replace hG := hide hG; replace hM := hide hM
          replace ht := hide ht; replace hk := hide hk; replace hk2 := hide hk2; replace hc := hide hc
          go_enter Try.func15, Try.ntmps15
          go_upto_region 6 with (first
            | (go_at_call 32; refine (unhide hT _ (by (repeat (first | with_reducible exact Below.refl _ _ | with_reducible assumption | with_reducible refine Below.drew ?_ | with_reducible refine bl_alloc ?_ _ | with_reducible refine bl_call ?_ (by assumption) | (focus (with_reducible refine Below.setCell ?_ ?_ _; rotate_left; focus (first | omega | (simp <;> omega)))) | fail)))).mono ?_; rintro e w1 ⟨rfl, B1⟩)
            | (go_at_call 39; have _t := tk1; refine (unhide hI _).mono ?_; rintro e w2 ⟨rfl, B2⟩; clear tk1 _t)
            | (go_at_call 39; refine (unhide hJ _).mono ?_; rintro e w3 ⟨rfl, B3⟩; (have B4 := hide (ret_live (ret_live B1 B2) B3)))
            | (go_at_call 34; refine (unhide hF _ (unhide B4)).mono ?_; rintro e w4 ⟨rfl, B5⟩; (have B6 := ret_live (unhide B4) B5); obtain ⟨c0, c1, c2, c3, c4, c5⟩ := six (below_load B6 hbw (unhide hcell)); replace B6 := hide B6))
          have hw4 := (unhide B6).size
          have hbw4 : b < w4.heap.size := by omega
          go_cut [10, 11] (fun s10 s11 wx => ∃ (g : Nat) (vr : Value), s10 = .pointer (some ⟨g, 0, none⟩) ∧ s11 = vr ∧ Hid (Blk wx g 26 #[.string (bz f.nm), .float .f64 f.rk, .int .u32 f.sm, .int .i64 f.bk, .int .i64 f.fr, .int .i64 f.ln]) ∧ Hid (OwnF wx w.heap.size vr rest) ∧ Hid (Below w.heap.size w wx) ∧ Hid (w.heap.size ≤ g ∧ NeB vr g))
          case first =>
            go_region_with ((go_at_call 40; refine (unhide hW _ (by first | exact (unhide B6).drew | exact ((unhide B6).drew.alloc hw4 _))).mono ?_; rintro e w5 ⟨v', rfl, O5, B7⟩; (have Bz : Below w.heap.size w w5 := (show Below w.heap.size w _ by first | exact (unhide B6).drew | exact (unhide B6).drew.alloc hw4 _ | exact ((unhide B6).alloc hw4 _).drew).trans (B7.mono (by first | exact hw4 | (simp; omega)))); obtain ⟨x0, x1, x2, x3, x4, x5⟩ := six (below_load Bz hbw (unhide hcell)); (have hb5 : b < w5.heap.size := Nat.lt_of_lt_of_le hbw Bz.size); replace Bz := hide Bz; (first | ((have qb : Blk w5 w4.heap.size 26 #[.string (bz noF.nm), .float .f64 noF.rk, .int .u32 noF.sm, .int .i64 noF.bk, .int .i64 noF.fr, .int .i64 noF.ln] := Blk.below (by first | exact Blk.new rfl | exact Blk.drew (Blk.new rfl)) B7 (by simp)); obtain ⟨d0, d1, d2, d3, d4, d5⟩ := bk6 qb; (have fz := fun i => qb.frozen i); replace qb := hide qb) | ((have qb : Blk w5 w4.heap.size 26 #[.string (bz f.nm), .float .f64 f.rk, .int .u32 f.sm, .int .i64 f.bk, .int .i64 f.fr, .int .i64 f.ln] := Blk.below (by first | exact Blk.new rfl | exact Blk.drew (Blk.new rfl)) B7 (by simp)); replace qb := hide qb) | skip)))
            all_goals (go_wp2_with fail; go_meet)
            all_goals refine ⟨_, v', rfl, rfl, hide ?_, hide ?_, hide ?_, hide ⟨?_, ?_⟩⟩
            all_goals first
              | with_reducible exact ne_low O5 (by first | (simp; done) | (simp; omega))
              | with_reducible exact ne_high O5 (Nat.le_refl _)
              | with_reducible exact (unhide qb).set6
              | with_reducible exact (unhide qb)
              | with_reducible exact Blk.new rfl
              | with_reducible exact hw4
              | with_reducible exact (unhide Bz).size
              | with_reducible exact bl_set6 (unhide Bz) hw4
              | with_reducible exact unhide Bz
              | with_reducible exact (unhide Bz).alloc (unhide Bz).size _
              | with_reducible exact own_mono (own_set6 O5 (by first | (simp; done) | (simp; omega))) (by first | (simp; done) | (simp; omega))
              | with_reducible exact own_mono O5 (by first | exact hw4 | (simp; omega))
              | with_reducible exact own_alloc (own_mono O5 (by first | exact hw4 | (simp; omega))) _
          case rest =>
            obtain ⟨g, vr, rfl, rfl, qb, hO, hB, hg⟩ := hcut
            clear hF hW hT hI hJ B6
            have hfl := hide ((unhide hO).fls)
            replace hG := hide (unhide hG _ _ _ (unhide hO))
            obtain ⟨hg1, hne⟩ := unhide hg
            cases hd : thereB rest q with
            | true =>
              have hr := movR_there (unhide ht) (unhide hk) (unhide hk2) (unhide hc) ((unhide hth).1 hd)
              rw [hd] at hG
              replace hr := hide hr
              generalize posn rest q = j at *
              go_wp2_with (go_at_call 34; refine (unhide hG _ (Below.refl _ _)).mono ?_; rintro e w6 ⟨rfl, B8⟩)
              go_ret2
              exact ⟨_, by rw [unhide hr]; rfl, by rw [unhide hr]; exact own_nil _ _, ret_live (unhide hB) B8⟩
            | false =>
              have hr := movR_ok (unhide ht) (unhide hk) (unhide hk2) (unhide hc) (fun h => by rw [(unhide hth).2 h] at hd; cases hd)
              rw [hd] at hG
              rw [unhide hmv] at hr
              replace hr := hide hr
              have hX : ∀ W2, OwnF W2 w.heap.size u11 rest → Calls Try.prog 35 #[u11, .agg #[.string (bz q), .float .f64 f.rk, .int .u32 f.sm, .int .i64 f.bk, .int .i64 f.fr, .int .i64 f.ln]] W2 fun e w' => ∃ v', e = .returned v' ∧ OwnF w' W2.heap.size v' (putF rest (nmF f q)) ∧ Below W2.heap.size W2 w' := fun W2 h => unhide hM _ _ _ h
              clear hM hmv
              generalize putF rest (nmF f q) = out at *
              generalize posn rest q = j at *
              replace hX := hide hX; replace hne := hide hne
              have hgl := (unhide qb).lt
              go_upto_region 11 with (first
                | (go_at_call 34; refine (unhide hG _ (Below.refl _ _)).mono ?_; rintro e w6 ⟨rfl, B8⟩; (have q6 : Blk w6 g 26 #[.string (bz f.nm), .float .f64 f.rk, .int .u32 f.sm, .int .i64 f.bk, .int .i64 f.fr, .int .i64 f.ln] := (unhide qb).below B8 hgl); obtain ⟨d0, d1, d2, d3, d4, d5⟩ := bk6 q6; have fz := fun i => q6.frozen i))
              have q7 := q6.set 0 (.string (bz q))
              have e0 := q7.cell 0; have e1 := q7.cell 1; have e2 := q7.cell 2; have e3 := q7.cell 3; have e4 := q7.cell 4; have e5 := q7.cell 5
              simp at e0 e1 e2 e3 e4 e5
              have O7 := hide (own_ne (u := .string (bz q)) (i := 0) (own_below (B := wc.heap.size) (unhide hO) B8 (Nat.le_refl _)) (unhide hne))
              have B9 := hide ((ret_live (unhide hB) B8).setCell (p := ⟨g, 0, none⟩) hg1 (.string (bz q)))
              clear d0 d1 d2 d3 d4 d5 fz q6 q7
              generalize w6.setCell ⟨g, 0, none⟩ (.string (bz q)) = w7 at *
              go_wp2_with (go_at_call 35; refine (unhide hX _ (unhide O7)).mono ?_; rintro e w8 ⟨v', rfl, O8, B10⟩)
              go_ret2
              exact ⟨v', by rw [unhide hr]; rfl, by rw [unhide hr]; exact own_mono O8 (unhide B9).size, ret_live (unhide B9) B10⟩
end Go.Proofs.Ytkgfmiicfegnlaa
