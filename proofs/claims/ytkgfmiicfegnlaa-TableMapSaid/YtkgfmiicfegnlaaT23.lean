import Derived.Test.YtkgfmiicfegnlaaT22
namespace Go.Proofs.Ytkgfmiicfegnlaa
open Go.RowKit
attribute [local go_sem] bz_size bz_toList run_store_float
set_option maxRecDepth 100000

set_option maxHeartbeats 1000000 in
theorem refMove_any (lo hi : Nat) (v : Value) (l : List Fl) (p q : List UInt8) (w : World) (h : Fls lo hi w v l) (hhi : hi ≤ w.heap.size) (hs : SmL l) (hp : p.length ≤ 300) (hq : q.length ≤ 300) :
    Calls Try.prog 16 #[v, .string (bz p), .string (bz q)] w fun e w' => ∃ v', e = .returned (.tuple #[v', .int .i64 (movR l p q).2]) ∧ OwnF w' w.heap.size v' (movR l p q).1 ∧ Below w.heap.size w w' := by
  have hT := fun W (hB : Below w.heap.size w W) => refCheckL_any lo hi v l W (h.below hB hhi) (Nat.le_trans hhi hB.size) hs
  have hI := fun W => refCheck_any p (by omega) W
  have hJ := fun W => refCheck_any q (by omega) W
  have hF := fun W (hB : Below w.heap.size w W) h1 => refFind_any lo hi v l p W (h.below hB hhi) (Nat.le_trans hhi hB.size) h1
  have hF2 := fun W (hB : Below w.heap.size w W) h1 => refFind_any lo hi v l q W (h.below hB hhi) (Nat.le_trans hhi hB.size) h1
  have hW := fun W (hB : Below w.heap.size w W) h0 h1 => refWithout_any lo hi v l p W (h.below hB hhi) (Nat.le_trans hhi hB.size) h0 h1
  have hh := h.open6
  obtain ⟨A, c, rfl, h1, h2, h3⟩ := hh
  have tk1 : True := trivial
  have tk2 : True := trivial
  clear h hp
  cases ht : tabB l with
  | false =>
    rw [movR_no (.inl ht)]
    rw [ht, err_f] at hT
    clear hI hJ hF hF2 hW ht h3 hs
    replace hT := hide hT
    go_enter Try.func16, Try.ntmps16
    go_wp2_with (go_at_call 22; refine (unhide hT _ (by (repeat (first | with_reducible exact Below.refl _ _ | with_reducible assumption | with_reducible refine Below.drew ?_ | with_reducible refine bl_alloc ?_ _ | with_reducible refine bl_call ?_ (by assumption) | (focus (with_reducible refine Below.setCell ?_ ?_ _; rotate_left; focus (first | omega | (simp <;> omega)))) | fail)))).mono ?_; rintro e w1 ⟨rfl, B1⟩)
    go_ret2
    exact ⟨_, rfl, own_nil _ _, B1⟩
  | true =>
    rw [ht, err_t] at hT
    cases hk : nameB p with
    | false =>
      rw [movR_no (.inr (.inl hk))]
      rw [hk, if_neg (by simp)] at hI
      clear hF hF2 hW hJ ht hk h3 hs
      replace hT := hide hT; replace hI := hide hI
      go_enter Try.func16, Try.ntmps16
      go_wp2_with (first
        | (go_at_call 22; refine (unhide hT _ (by (repeat (first | with_reducible exact Below.refl _ _ | with_reducible assumption | with_reducible refine Below.drew ?_ | with_reducible refine bl_alloc ?_ _ | with_reducible refine bl_call ?_ (by assumption) | (focus (with_reducible refine Below.setCell ?_ ?_ _; rotate_left; focus (first | omega | (simp <;> omega)))) | fail)))).mono ?_; rintro e w1 ⟨rfl, B1⟩)
        | (go_at_call 42; refine (unhide hI _).mono ?_; rintro e w2 ⟨rfl, B2⟩))
      go_ret2
      exact ⟨_, rfl, own_nil _ _, ret_live B1 B2⟩
    | true =>
      rw [hk, if_pos rfl] at hI
      cases hk2 : nameB q with
      | false =>
        rw [movR_no (.inr (.inr hk2))]
        rw [hk2, if_neg (by simp)] at hJ
        clear hF hF2 hW ht hk hk2 h3 hs
        replace hT := hide hT; replace hI := hide hI; replace hJ := hide hJ
        go_enter Try.func16, Try.ntmps16
        go_wp2_with (first
          | (go_at_call 22; refine (unhide hT _ (by (repeat (first | with_reducible exact Below.refl _ _ | with_reducible assumption | with_reducible refine Below.drew ?_ | with_reducible refine bl_alloc ?_ _ | with_reducible refine bl_call ?_ (by assumption) | (focus (with_reducible refine Below.setCell ?_ ?_ _; rotate_left; focus (first | omega | (simp <;> omega)))) | fail)))).mono ?_; rintro e w1 ⟨rfl, B1⟩)
          | (go_at_call 42; have _t := tk1; refine (unhide hI _).mono ?_; rintro e w2 ⟨rfl, B2⟩; clear tk1 _t)
          | (go_at_call 42; refine (unhide hJ _).mono ?_; rintro e w3 ⟨rfl, B3⟩))
        go_ret2
        exact ⟨_, rfl, own_nil _ _, ret_live (ret_live B1 B2) B3⟩
      | true =>
        rw [hk2, if_pos rfl] at hJ
        have hup := tab_up ht
        replace hF := fun W hB => hF W hB hup
        replace hF2 := fun W hB => hF2 W hB hup
        cases hc : thereB l p with
        | false =>
          rw [movR_none ht hk hk2 hc]
          have e1 : fndI l p = -1 := by unfold fndI; rw [hc]; rfl
          rw [e1] at hF
          clear hW hF2 ht hk hk2 hc h3 hs e1 hup
          replace hT := hide hT; replace hI := hide hI; replace hF := hide hF; replace hJ := hide hJ
          go_enter Try.func16, Try.ntmps16
          go_wp2_with (first
            | (go_at_call 22; refine (unhide hT _ (by (repeat (first | with_reducible exact Below.refl _ _ | with_reducible assumption | with_reducible refine Below.drew ?_ | with_reducible refine bl_alloc ?_ _ | with_reducible refine bl_call ?_ (by assumption) | (focus (with_reducible refine Below.setCell ?_ ?_ _; rotate_left; focus (first | omega | (simp <;> omega)))) | fail)))).mono ?_; rintro e w1 ⟨rfl, B1⟩)
            | (go_at_call 42; have _t := tk1; refine (unhide hI _).mono ?_; rintro e w2 ⟨rfl, B2⟩; clear tk1 _t)
            | (go_at_call 42; refine (unhide hJ _).mono ?_; rintro e w3 ⟨rfl, B3⟩; (have B4 := hide (ret_live (ret_live B1 B2) B3)))
            | (go_at_call 37; refine (unhide hF _ (unhide B4)).mono ?_; rintro e w4 ⟨rfl, B5⟩))
          go_ret2
          exact ⟨_, rfl, own_nil _ _, ret_live (unhide B4) B5⟩
        | true =>
          have e1 : fndI l p = (posn l p : Nat) := by unfold fndI; rw [hc]; rfl
          rw [e1] at hF
          have hpl := (posn_get hup hc).1
          obtain ⟨z, hz⟩ : ∃ z, z = fndI l q := ⟨_, rfl⟩
          have hz0 : (0 ≤ z ↔ thereB l q = true) := by
            rw [hz]; unfold fndI
            cases thereB l q <;> simp
          rw [← hz] at hF2
          by_cases hcc : p ≠ q ∧ thereB l q = true
          · rw [movR_there ht hk hk2 hc hcc]
            have d0 : (p == q) = false := beq_eq_false_iff_ne.2 hcc.1
            have d1 : (p != q) = true := bne_iff_ne.2 hcc.1
            have d2 : 0 ≤ z := hz0.2 hcc.2
            clear hW ht hk hk2 hc h3 hs e1 hup hz0 hcc hz hpl
            generalize posn l p = i at *
            replace hT := hide hT; replace hI := hide hI; replace hF := hide hF; replace hJ := hide hJ; replace hF2 := hide hF2
            go_enter Try.func16, Try.ntmps16
            go_wp2_with (first
              | (go_at_call 22; refine (unhide hT _ (by (repeat (first | with_reducible exact Below.refl _ _ | with_reducible assumption | with_reducible refine Below.drew ?_ | with_reducible refine bl_alloc ?_ _ | with_reducible refine bl_call ?_ (by assumption) | (focus (with_reducible refine Below.setCell ?_ ?_ _; rotate_left; focus (first | omega | (simp <;> omega)))) | fail)))).mono ?_; rintro e w1 ⟨rfl, B1⟩)
              | (go_at_call 42; have _t := tk1; refine (unhide hI _).mono ?_; rintro e w2 ⟨rfl, B2⟩; clear tk1 _t)
              | (go_at_call 42; refine (unhide hJ _).mono ?_; rintro e w3 ⟨rfl, B3⟩; (have B4 := hide (ret_live (ret_live B1 B2) B3)))
              | (go_at_call 37; have _t := tk2; refine (unhide hF _ (unhide B4)).mono ?_; rintro e w4 ⟨rfl, B5⟩; (have B6 := hide (ret_live (unhide B4) B5)); clear tk2 _t)
              | (go_at_call 37; refine (unhide hF2 _ (unhide B6)).mono ?_; rintro e w5 ⟨rfl, B7⟩))
            go_ret2
            exact ⟨_, rfl, own_nil _ _, ret_live (unhide B6) B7⟩
          · rw [movR_ok ht hk hk2 hc hcc]
            have hgu : ((p == q) = true ∧ (p != q) = false) ∨ ((p == q) = false ∧ (p != q) = true ∧ ¬ (0 ≤ z)) := by
              cases h : p == q with
              | true => exact .inl ⟨rfl, by unfold bne; rw [h]; rfl⟩
              | false => exact .inr ⟨rfl, by unfold bne; rw [h]; rfl, fun h0 => hcc ⟨ne_of_beq_false h, hz0.1 h0⟩⟩
            replace hW := fun W hB => hW W hB (by have := tab_len ht; omega) hup
            have hX := fun W2 vr (hO : OwnF W2 w.heap.size vr (delF l p)) => refWith_any _ _ vr (delF l p) (nmF (nth l (posn l p)) q) W2 hO.fls (Nat.le_refl _) (by have := tab_len (tab_del ht p); omega) (sm_del hs p) ⟨hq, (hs _ (nth_mem hpl)).2⟩
            have hmv : movF l p q = putF (delF l p) (nmF (nth l (posn l p)) q) := rfl
            rw [hmv]
            obtain ⟨b, off, rfl, _, hb, hcell⟩ := h3 _ hpl
            have hbw : b < w.heap.size := Nat.lt_of_lt_of_le hb hhi
            have n63 : l.length ≤ 256 := tab_len ht
            clear ht hk hk2 hc h3 hs e1 hup hz0 hcc hz hmv hq hhi
            generalize posn l p = i at *
            obtain ⟨f, hf⟩ : ∃ f, f = nth l i := ⟨_, rfl⟩
            rw [← hf] at hcell hX ⊢
            replace hX : ∀ W2 vr, OwnF W2 w.heap.size vr (delF l p) → Calls Try.prog 38 #[vr, .agg #[.string (bz q), .float .f64 f.rk, .int .u32 f.sm, .int .i64 f.bk, .int .i64 f.fr, .int .i64 f.ln]] W2 fun e w' => ∃ v', e = .returned v' ∧ OwnF w' W2.heap.size v' (putF (delF l p) (nmF f q)) ∧ Below W2.heap.size W2 w' := hX
            clear hf
            generalize putF (delF l p) (nmF f q) = out at *
            generalize delF l p = rest at *
            generalize l.length = n at *
            replace hT := hide hT; replace hI := hide hI; replace hF := hide hF; replace hJ := hide hJ; replace hF2 := hide hF2; replace hW := hide hW; replace hX := hide hX; replace hcell := hide hcell
            rcases hgu with ⟨hg0, hg⟩ | ⟨hg0, hg, hz1⟩
            · clear hF2
              go_enter Try.func16, Try.ntmps16
              go_upto_region 10 with (first
                | (go_at_call 22; refine (unhide hT _ (by (repeat (first | with_reducible exact Below.refl _ _ | with_reducible assumption | with_reducible refine Below.drew ?_ | with_reducible refine bl_alloc ?_ _ | with_reducible refine bl_call ?_ (by assumption) | (focus (with_reducible refine Below.setCell ?_ ?_ _; rotate_left; focus (first | omega | (simp <;> omega)))) | fail)))).mono ?_; rintro e w1 ⟨rfl, B1⟩)
                | (go_at_call 42; have _t := tk1; refine (unhide hI _).mono ?_; rintro e w2 ⟨rfl, B2⟩; clear tk1 _t)
                | (go_at_call 42; refine (unhide hJ _).mono ?_; rintro e w3 ⟨rfl, B3⟩; (have B4 := hide (ret_live (ret_live B1 B2) B3)))
                | (go_at_call 37; refine (unhide hF _ (unhide B4)).mono ?_; rintro e w4 ⟨rfl, B5⟩; (have B6 := ret_live (unhide B4) B5); obtain ⟨c0, c1, c2, c3, c4, c5⟩ := six (below_load B6 hbw (unhide hcell)); replace B6 := hide B6))
              have qb : Blk (w4.alloc (.cells #[.string (bz q), .float .f64 f.rk, .int .u32 f.sm, .int .i64 f.bk, .int .i64 f.fr, .int .i64 f.ln] 26)) w4.heap.size 26 #[.string (bz q), .float .f64 f.rk, .int .u32 f.sm, .int .i64 f.bk, .int .i64 f.fr, .int .i64 f.ln] := Blk.new rfl
              have BV := (unhide B6).alloc (unhide B6).size (.cells #[.string (bz q), .float .f64 f.rk, .int .u32 f.sm, .int .i64 f.bk, .int .i64 f.fr, .int .i64 f.ln] 26)
              clear c0 c1 c2 c3 c4 c5
              generalize w4.alloc (.cells #[.string (bz q), .float .f64 f.rk, .int .u32 f.sm, .int .i64 f.bk, .int .i64 f.fr, .int .i64 f.ln] 26) = V at *
              generalize w4.heap.size = gb at *
              have glt := qb.lt
              have c0 := qb.cell 0; have c1 := qb.cell 1; have c2 := qb.cell 2; have c3 := qb.cell 3; have c4 := qb.cell 4; have c5 := qb.cell 5
              simp at c0 c1 c2 c3 c4 c5
              replace qb := hide qb; replace BV := hide BV
              go_region_with (first
                | (go_at_call 41; refine (unhide hW _ (unhide BV).drew).mono ?_; rintro e w6 ⟨v', rfl, O6, B8⟩; (have q6 : Blk w6 gb 26 #[.string (bz q), .float .f64 f.rk, .int .u32 f.sm, .int .i64 f.bk, .int .i64 f.fr, .int .i64 f.ln] := (unhide qb).drew.below B8 glt); (have d0 := q6.cell 0; have d1 := q6.cell 1; have d2 := q6.cell 2; have d3 := q6.cell 3; have d4 := q6.cell 4; have d5 := q6.cell 5; simp at d0 d1 d2 d3 d4 d5); (have O7 := hide (own_mono O6 (unhide BV).size)); (have BW := hide ((unhide BV).drew.trans (B8.mono (unhide BV).size))); clear q6 O6)
                | (go_at_call 38; refine (unhide hX _ _ (unhide O7)).mono ?_; rintro e w7 ⟨v'', rfl, O9, B9⟩))
              all_goals go_wp2
              all_goals go_ret2
              all_goals exact ⟨v'', rfl, own_mono O9 (unhide BW).size, ret_live (unhide BW) B9⟩
            · go_enter Try.func16, Try.ntmps16
              go_upto_region 10 with (first
                | (go_at_call 22; refine (unhide hT _ (by (repeat (first | with_reducible exact Below.refl _ _ | with_reducible assumption | with_reducible refine Below.drew ?_ | with_reducible refine bl_alloc ?_ _ | with_reducible refine bl_call ?_ (by assumption) | (focus (with_reducible refine Below.setCell ?_ ?_ _; rotate_left; focus (first | omega | (simp <;> omega)))) | fail)))).mono ?_; rintro e w1 ⟨rfl, B1⟩)
                | (go_at_call 42; have _t := tk1; refine (unhide hI _).mono ?_; rintro e w2 ⟨rfl, B2⟩; clear tk1 _t)
                | (go_at_call 42; refine (unhide hJ _).mono ?_; rintro e w3 ⟨rfl, B3⟩; (have B4 := hide (ret_live (ret_live B1 B2) B3)))
                | (go_at_call 37; have _t := tk2; refine (unhide hF _ (unhide B4)).mono ?_; rintro e w4 ⟨rfl, B5⟩; (have B6 := hide (ret_live (unhide B4) B5)); clear tk2 _t)
                | (go_at_call 37; refine (unhide hF2 _ (unhide B6)).mono ?_; rintro e w5 ⟨rfl, B7⟩; (have BX := ret_live (unhide B6) B7); obtain ⟨c0, c1, c2, c3, c4, c5⟩ := six (below_load BX hbw (unhide hcell)); replace BX := hide BX))
              have qb : Blk (w5.alloc (.cells #[.string (bz q), .float .f64 f.rk, .int .u32 f.sm, .int .i64 f.bk, .int .i64 f.fr, .int .i64 f.ln] 26)) w5.heap.size 26 #[.string (bz q), .float .f64 f.rk, .int .u32 f.sm, .int .i64 f.bk, .int .i64 f.fr, .int .i64 f.ln] := Blk.new rfl
              have BV := (unhide BX).alloc (unhide BX).size (.cells #[.string (bz q), .float .f64 f.rk, .int .u32 f.sm, .int .i64 f.bk, .int .i64 f.fr, .int .i64 f.ln] 26)
              clear c0 c1 c2 c3 c4 c5
              generalize w5.alloc (.cells #[.string (bz q), .float .f64 f.rk, .int .u32 f.sm, .int .i64 f.bk, .int .i64 f.fr, .int .i64 f.ln] 26) = V at *
              generalize w5.heap.size = gb at *
              have glt := qb.lt
              have c0 := qb.cell 0; have c1 := qb.cell 1; have c2 := qb.cell 2; have c3 := qb.cell 3; have c4 := qb.cell 4; have c5 := qb.cell 5
              simp at c0 c1 c2 c3 c4 c5
              replace qb := hide qb; replace BV := hide BV
              go_region_with (first
                | (go_at_call 41; refine (unhide hW _ (unhide BV).drew).mono ?_; rintro e w6 ⟨v', rfl, O6, B8⟩; (have q6 : Blk w6 gb 26 #[.string (bz q), .float .f64 f.rk, .int .u32 f.sm, .int .i64 f.bk, .int .i64 f.fr, .int .i64 f.ln] := (unhide qb).drew.below B8 glt); (have d0 := q6.cell 0; have d1 := q6.cell 1; have d2 := q6.cell 2; have d3 := q6.cell 3; have d4 := q6.cell 4; have d5 := q6.cell 5; simp at d0 d1 d2 d3 d4 d5); (have O7 := hide (own_mono O6 (unhide BV).size)); (have BW := hide ((unhide BV).drew.trans (B8.mono (unhide BV).size))); clear q6 O6)
                | (go_at_call 38; refine (unhide hX _ _ (unhide O7)).mono ?_; rintro e w7 ⟨v'', rfl, O9, B9⟩))
              all_goals go_wp2
              all_goals go_ret2
              all_goals exact ⟨v'', rfl, own_mono O9 (unhide BW).size, ret_live (unhide BW) B9⟩
end Go.Proofs.Ytkgfmiicfegnlaa
