import Derived.Test.YthkccpemgmpadaaGreatDoorU10
namespace Go.Proofs.YthkccpemgmpadaaGreatDoor.P
set_option maxRecDepth 100000
open Go.RowKit
set_option maxRecDepth 100000 in
set_option maxHeartbeats 4000000 in
theorem refNext_true (lo lo' k : Nat) (v v' : Value) (r : Rdr) (t : List Int) (w : World) (hlo : lo ≤ w.heap.size) (hv : RgO lo w v r) (hv' : Os lo' w.heap.size w v' t) (hk : k < r.c.length) (h : OkR r) (ht : okB t) (hl : t.length ≤ 1000000) (hu : r.used ≤ t.length) (hcl : r.c.length ≤ 1024) (hb : bitR r k = true) :
    Calls Tryz.prog 80 #[v, v', .int .i64 k] w fun e w' => ∃ v', e = .returned (.tuple #[.bool (nextR t r k).1, v', .int .i64 (nextR t r k).2.2]) ∧ RgO lo w' v' (nextR t r k).2.1 ∧ Below w.heap.size w w' := by
  obtain ⟨i3, hi3, iz0, iz1, iz2⟩ := info3'
  have hn := nextR_in (t := t) (r := r) (i := (k : Int)) ⟨by omega, by omega⟩
  obtain ⟨X, hX⟩ : ∃ X, X = nextR t r k := ⟨_, rfl⟩
  rw [← hX]
  obtain ⟨o, ho⟩ : ∃ o, o = t.getD r.used 0 := ⟨_, rfl⟩
  rw [hn, hb, ← ho] at hX
  clear hn
  obtain ⟨a1, a2, a3, a4⟩ := half_ok h (i := (k : Int)) (by omega) (by omega)
  have hpo := part_ok h.c (i := (k : Int)) (by omega) (by omega) h.span
  have hpc := (okC_iff.1 h.c).2 _ (List.getElem_mem hk)
  have hpp : partP r.span r.c (k : Int) = r.span / 2048 * r.c[k] := by unfold partP; rw [Int.toNat_natCast, getD_get hk]
  have hS := fun W => refSplit_any r.span r.c[k] W (by have := h.span; omega)
  rw [show splR r.span r.c[k] = r.span / 2048 * r.c[k] by simp [splR, hpc, h.span.1], show splE r.span r.c[k] = 0 by simp [splE, hpc, h.span.1], ← hpp] at hS
  have hLn := fun W => refLearn_any r.c[k] true W
  rw [lrnR_ok true hpc, hpc, badE_t] at hLn
  have hstep := stepA_nat hk true
  have hsp := h.span
  have hco := h.code
  have hcod : codeR r k = r.code - partP r.span r.c (k : Int) := by unfold codeR; rw [hb]; simp only [if_true]
  have hspn : spanR r k = r.span - partP r.span r.c (k : Int) := by unfold spanR; rw [hb]; simp only [if_true]
  have hdec : decide (partP r.span r.c (k : Int) ≤ r.code) = true := hb
  generalize hS' : spanR r k = S at *
  generalize hC : codeR r k = C at *
  have i1 : IntKind.u32.wrap (r.code - partP r.span r.c (k : Int)) = r.code - partP r.span r.c (k : Int) ∨ true = false := by first | exact .inr rfl | exact .inl (IntWalk.u32_in _ (by have := of_decide_eq_true hdec; omega))
  have i2 : IntKind.u32.wrap (r.span - partP r.span r.c (k : Int)) = r.span - partP r.span r.c (k : Int) := IntWalk.u32_in _ (by omega)
  generalize partP r.span r.c (k : Int) = z at *
  obtain ⟨q, hq⟩ : ∃ q, q = lrn r.c[k] true := ⟨_, rfl⟩
  rw [← hq] at hLn hstep
  have hget := ivc_at r.c k hk
  generalize r.c[k] = p at *
  obtain ⟨A, c, rfl, hI⟩ := hv
  have hfin := fun W (hb : Below w.heap.size w W) => own_below hI hb (Nat.le_refl _)
  have hsrc := (Rd.src ivc_len (Rd.of_own ivc_len (by omega) hI)).2
  have hsr := fun W (hb : Below w.heap.size w W) => hsrc.below hb
  have hol := hv'.open1
  obtain ⟨A2, c2, rfl, y1, y2, y3⟩ := Os.open hv'
  have t1 : 0 + r.c.length ≤ maxLen := by simp only [maxLen]; omega
  have t2 : (0 + r.c.length) * 8 ≤ 140737488355328 := by omega
  have t3 : (r.c.flatMap ivc).length = r.c.length * 1 := flat_len ivc_len _
  have t4 := flat_one ivc_one r.c
  have k0 : decide ((k : Int) < 0) = false := by simp
  have k1 : decide ((r.c.length : Int) ≤ (k : Int)) = false := by simp; omega
  clear hpp hpc hb hS' hC hI hsrc hv' hol
  replace hS := hide hS; replace hLn := hide hLn; replace hcod := hide hcod; replace hspn := hide hspn; replace h := hide h; replace ht := hide ht; replace hpo := hide hpo; replace hX := hide hX; replace ho := hide ho; replace hq := hide hq; replace hstep := hide hstep; replace hfin := hide hfin; replace hlo := hide hlo; replace hsr := hide hsr
  replace y3 := hide y3; replace t1 := hide t1; replace t2 := hide t2; replace t3 := hide t3; replace t4 := hide t4; replace i1 := hide i1; replace i2 := hide i2; replace hdec := hide hdec; replace hget := hide hget
  go_enter Tryz.func80, Tryz.ntmps80
  go_wp2_with fail
  clear k0 k1
  obtain ⟨wA, hwA⟩ : ∃ wA, wA = (w.alloc (.cells #[.slice A r.c.length c, .int .u32 r.span, .int .u32 r.code, .int .i64 r.used] 74)).alloc (.cells #[.slice none 0 0, .int .u32 0, .int .u32 0, .int .i64 0] 74) := ⟨_, rfl⟩
  have Kr : Blk wA w.heap.size 74 #[.slice A r.c.length c, .int .u32 r.span, .int .u32 r.code, .int .i64 r.used] := by rw [hwA]; exact (Blk.new rfl).alloc _
  have K7 : Blk wA (w.heap.size + 1) 74 #[.slice none 0 0, .int .u32 0, .int .u32 0, .int .i64 0] := by rw [hwA]; exact Blk.new (by simp)
  have BA : Below w.heap.size w wA := by rw [hwA]; (repeat (first | with_reducible exact Below.refl _ _ | with_reducible assumption | with_reducible refine Below.drew ?_ | with_reducible refine bl_alloc ?_ _ | with_reducible refine bl_call ?_ (by assumption) | (focus (with_reducible refine Below.setCell ?_ ?_ _; rotate_left; focus (first | omega | (simp <;> omega)))) | fail))
  have zA : wA.heap.size = w.heap.size + 2 := by rw [hwA]; simp
  rw [← hwA]
  clear hwA
  have r0 : wA.cell? ⟨w.heap.size, 0, none⟩ = some (.slice A r.c.length c) := Kr.cell 0
  have r1 : wA.cell? ⟨w.heap.size, 1, none⟩ = some (.int .u32 r.span) := Kr.cell 1
  have r2 : wA.cell? ⟨w.heap.size, 2, none⟩ = some (.int .u32 r.code) := Kr.cell 2
  have r3 : wA.cell? ⟨w.heap.size, 3, none⟩ = some (.int .i64 r.used) := Kr.cell 3
  have l1 : w.heap.size < wA.heap.size := by omega
  have l2 : w.heap.size + 1 < wA.heap.size := by omega
  replace Kr := hide Kr; replace K7 := hide K7; replace BA := hide BA; replace zA := hide zA
  go_cut [9] (fun s9 wx => ∃ (g9 gA cA : Nat), s9 = .pointer (some ⟨g9, 0, none⟩) ∧ Hid (Blk wx g9 74 #[.slice (some ⟨gA, 0, none⟩) r.c.length cA, .int .u32 r.span, .int .u32 r.code, .int .i64 r.used]) ∧ Hid (wx.ownsRow w.heap.size 3 1 (.slice (some ⟨gA, 0, none⟩) r.c.length cA) r.c.length (r.c.flatMap ivc)) ∧ Hid (Blk wx w.heap.size 74 #[.slice A r.c.length c, .int .u32 r.span, .int .u32 r.code, .int .i64 r.used]) ∧ Hid (Blk wx (w.heap.size + 1) 74 #[.slice none 0 0, .int .u32 0, .int .u32 0, .int .i64 0]) ∧ Hid (Below w.heap.size w wx) ∧ Hid (w.heap.size + 2 ≤ g9))
  case first =>
    go_region_held3 (fun W => W.cell? ⟨w.heap.size, 0, none⟩ = some (.slice A r.c.length c) ∧ W.cell? ⟨w.heap.size, 1, none⟩ = some (.int .u32 r.span) ∧ W.cell? ⟨w.heap.size, 2, none⟩ = some (.int .u32 r.code) ∧ W.cell? ⟨w.heap.size, 3, none⟩ = some (.int .i64 r.used)) (first | exact ⟨by with_reducible assumption, by with_reducible assumption, by with_reducible assumption, by with_reducible assumption⟩ | exact ⟨by go_simp, by go_simp, by go_simp, by go_simp⟩)
      (first
        | (refine step_app_at rfl (.const (.slice none 0 0)) (.tmp 24) 72 rfl w.heap.size 3 i3 _ 1 8 Tryz.underlying72 hi3 iz0 iz1 iz2 rfl (Nat.succ_pos _) _ 0 [] rfl (World.ownsRow_nil _ _ _ _) A r.c.length c (r.c.flatMap ivc) rfl (unhide t3) (unhide hsr _ (by have q := unhide BA; (repeat (first | with_reducible exact Below.refl _ _ | with_reducible assumption | with_reducible refine Below.drew ?_ | with_reducible refine bl_alloc ?_ _ | with_reducible refine bl_call ?_ (by assumption) | (focus (with_reducible refine Below.setCell ?_ ?_ _; rotate_left; focus (first | omega | (simp <;> omega)))) | fail)))) (unhide t4) (unhide t1) (unhide t2) (by have := unhide zA; first | omega | (simp; omega)) ?_
           intro v3 w3 o3 g3 l3
           rw [Nat.zero_add, List.nil_append] at o3
           obtain ⟨A3, c3, rfl⟩ := ownsRow_form o3
           have Kr3 : Blk w3 w.heap.size 74 #[.slice A r.c.length c, .int .u32 r.span, .int .u32 r.code, .int .i64 r.used] := Blk.grown (by first | exact (unhide Kr).drew | exact ((unhide Kr).alloc _).drew) g3 (fun e => by cases e)
           have K73 : Blk w3 (w.heap.size + 1) 74 #[.slice none 0 0, .int .u32 0, .int .u32 0, .int .i64 0] := Blk.grown (by first | exact (unhide K7).drew | exact ((unhide K7).alloc _).drew) g3 (fun e => by cases e)
           have e0 : w3.cell? ⟨w.heap.size, 0, none⟩ = some (.slice A r.c.length c) := Kr3.cell 0
           have e1 : w3.cell? ⟨w.heap.size, 1, none⟩ = some (.int .u32 r.span) := Kr3.cell 1
           have e2 : w3.cell? ⟨w.heap.size, 2, none⟩ = some (.int .u32 r.code) := Kr3.cell 2
           have e3 : w3.cell? ⟨w.heap.size, 3, none⟩ = some (.int .i64 r.used) := Kr3.cell 3
           have l3' := Kr3.lt
           have B3 : Below w.heap.size w w3 := Below.grown (by have q := unhide BA; (repeat (first | with_reducible exact Below.refl _ _ | with_reducible assumption | with_reducible refine Below.drew ?_ | with_reducible refine bl_alloc ?_ _ | with_reducible refine bl_call ?_ (by assumption) | (focus (with_reducible refine Below.setCell ?_ ?_ _; rotate_left; focus (first | omega | (simp <;> omega)))) | fail))) g3 (by have := unhide zA; first | omega | (simp; omega)) (fun k hk => by cases hk)
           first
             | (have K93 : Blk w3 wA.heap.size 74 #[.slice none 0 0, .int .u32 0, .int .u32 0, .int .i64 0] := Blk.grown (Blk.new rfl).drew g3 (fun e => by cases e)
                have f0 := K93.frozen 0; have f1 := K93.frozen 1; have f2 := K93.frozen 2; have f3 := K93.frozen 3
                have d0 := K93.cell 0; have d1 := K93.cell 1; have d2 := K93.cell 2; have d3 := K93.cell 3
                simp at d0 d1 d2 d3
                have m3 := K93.lt
                replace K93 := hide K93)
             | skip
           replace o3 := hide o3; replace g3 := hide g3; replace Kr3 := hide Kr3; replace K73 := hide K73; replace B3 := hide B3; replace l3 := hide l3))
    all_goals
      go_wp2_with fail
      go_meet
      obtain ⟨gA, _, eA, _, _⟩ := own_pos (unhide o3) (by omega)
      subst eA
      first
        | (obtain ⟨a1, a2, a3, a4, a5⟩ := rgC (X := #[.slice (some ⟨gA, 0, none⟩) r.c.length c3, .int .u32 r.span, .int .u32 r.code, .int .i64 r.used]) (unhide o3) (unhide Kr3) (unhide K73) (unhide B3); exact ⟨_, _, _, rfl, hide a1, hide a2, hide a3, hide a4, hide a5, hide (by have := (unhide K73).lt; omega)⟩)
        | (obtain ⟨a1, a2, a3, a4, a5⟩ := rgD (x := .slice (some ⟨gA, 0, none⟩) r.c.length c3) (y := .int .u32 r.span) (z := .int .u32 r.code) (u := .int .i64 r.used) (unhide o3) (unhide Kr3) (unhide K73) (unhide K93) (unhide B3) (by omega) (by omega) (by omega); exact ⟨_, _, _, rfl, hide a1, hide a2, hide a3, hide a4, hide a5, hide (by have := unhide zA; omega)⟩)
  case rest =>
    clear r0 r1 r2 r3 l1 l2 Kr K7 BA zA hsr t1 t2 t3 t4
    obtain ⟨g9, gA, cA, rfl, K9, oA, Kr, K7, BW, hg9⟩ := hcut
    have u0 : wc.cell? ⟨g9, 0, none⟩ = some (.slice (some ⟨gA, 0, none⟩) r.c.length cA) := (unhide K9).cell 0
    have u1 : wc.cell? ⟨g9, 1, none⟩ = some (.int .u32 r.span) := (unhide K9).cell 1
    have ux := (own_cell (unhide oA) k hk).trans (unhide hget)
    have ugl := (unhide K9).lt
    have uga := (own_lt (unhide oA)).1
    have kk0 : (0 : Int) ≤ (k : Int) := by omega
    have kk1 : (k : Int) < (r.c.length : Int) := by omega
    go_wp2_with fail
    go_quiet ((go_at_call 101; refine Calls.quiet_of_same ((unhide hS _).mono fun e w' h => ⟨h.1, h.2.symm⟩)))
    have K9' := (unhide K9).drewN nq; have oA' := unhide oA; have Kr' := (unhide Kr).drewN nq; have K7' := (unhide K7).drewN nq; have BW' := below_drewN (unhide BW) nq
    replace oA' : (wc.drewN nq).ownsRow w.heap.size 3 1 (.slice (some ⟨gA, 0, none⟩) r.c.length cA) r.c.length (r.c.flatMap ivc) := oA'
    generalize wc.drewN nq = w4 at *
    clear u0 u1 ux K9 oA Kr K7 BW ugl uga
    have u1 : w4.cell? ⟨g9, 1, none⟩ = some (.int .u32 r.span) := K9'.cell 1
    have u2 : w4.cell? ⟨g9, 2, none⟩ = some (.int .u32 r.code) := K9'.cell 2
    have f1 := K9'.frozen 1; have f2 := K9'.frozen 2
    have ugl := K9'.lt
    have hg90 : w.heap.size ≠ g9 := by have := unhide hg9; omega
    have hg91 : w.heap.size + 1 ≠ g9 := by have := unhide hg9; omega
    have hg92 : w.heap.size ≤ g9 := by have := unhide hg9; omega
    have K5 := (K9'.set 2 (.int .u32 (r.code - z))).set 1 (.int .u32 (r.span - z))
    simp only [List.setIfInBounds_toArray, List.set_cons_succ, List.set_cons_zero] at K5
    have o5 := own_far (own_far oA' K9' (by decide) 2 (.int .u32 (r.code - z))) (K9'.set 2 _) (by decide) 1 (.int .u32 (r.span - z))
    have Kr5 := (Kr'.far (p := ⟨g9, 2, none⟩) hg90 (.int .u32 (r.code - z))).far (p := ⟨g9, 1, none⟩) hg90 (.int .u32 (r.span - z))
    have K75 := (K7'.far (p := ⟨g9, 2, none⟩) hg91 (.int .u32 (r.code - z))).far (p := ⟨g9, 1, none⟩) hg91 (.int .u32 (r.span - z))
    have B5 := (BW'.setCell (p := ⟨g9, 2, none⟩) hg92 (.int .u32 (r.code - z))).setCell (p := ⟨g9, 1, none⟩) hg92 (.int .u32 (r.span - z))
    have K5' : Blk ((w4.setCell ⟨g9, 2, none⟩ (.int .u32 (r.code - z))).setCell ⟨g9, 1, none⟩ (.int .u32 (r.span - z))) g9 74 #[.slice (some ⟨gA, 0, none⟩) r.c.length cA, .int .u32 S, .int .u32 C, .int .i64 r.used] := by rw [unhide hspn, unhide hcod]; exact K5
    clear K5
    have K5 := K5'
    clear K5'
    replace K5 := hide K5; replace o5 := hide o5; replace Kr5 := hide Kr5; replace K75 := hide K75; replace B5 := hide B5
    have hdec' := unhide hdec
    have i2' := unhide i2
    have i1' : IntKind.u32.wrap (r.code - z) = r.code - z := by rcases unhide i1 with h | h; exact h; cases h
    clear K9' oA' Kr' K7' BW'
    replace hg90 := hide hg90; replace hg91 := hide hg91; replace hg92 := hide hg92
    go_wp2_with fail
    generalize (w4.setCell ⟨g9, 2, none⟩ (.int .u32 (r.code - z))).setCell ⟨g9, 1, none⟩ (.int .u32 (r.span - z)) = w5 at *
    clear u1 u2 f1 f2 i2' hdec'
    have u0 : w5.cell? ⟨g9, 0, none⟩ = some (.slice (some ⟨gA, 0, none⟩) r.c.length cA) := (unhide K5).cell 0
    have ux := (own_cell (unhide o5) k hk).trans (unhide hget)
    obtain ⟨_, cur, e9, _, hcur⟩ := own_pos (unhide o5) (by omega)
    injection e9 with e9
    injection e9 with e9
    subst e9
    have fx := hcur.frozen k
    have ngA : g9 ≠ gA := fun e => own_not (unhide o5) (by decide : (3 : TypeId) ≠ 74) (e ▸ unhide K5)
    have n0A : w.heap.size ≠ gA := fun e => own_not (unhide o5) (by decide : (3 : TypeId) ≠ 74) (e ▸ unhide Kr5)
    have n1A : w.heap.size + 1 ≠ gA := fun e => own_not (unhide o5) (by decide : (3 : TypeId) ≠ 74) (e ▸ unhide K75)
    have hgA := (own_lt (unhide o5)).2
    clear hcur
    replace ngA := hide ngA; replace n0A := hide n0A; replace n1A := hide n1A; replace hgA := hide hgA
    go_cut [9] (fun s9 wx => s9 = .pointer (some ⟨g9, 0, none⟩) ∧ Hid (Blk wx g9 74 #[.slice (some ⟨gA, 0, none⟩) r.c.length cA, .int .u32 S, .int .u32 C, .int .i64 r.used]) ∧ Hid (wx.ownsRow w.heap.size 3 1 (.slice (some ⟨gA, 0, none⟩) r.c.length cA) r.c.length ((stepA r.c ⟨k, true⟩).flatMap ivc)) ∧ Hid (Blk wx w.heap.size 74 #[.slice A r.c.length c, .int .u32 r.span, .int .u32 r.code, .int .i64 r.used]) ∧ Hid (Blk wx (w.heap.size + 1) 74 #[.slice none 0 0, .int .u32 0, .int .u32 0, .int .i64 0]) ∧ Hid (Below w.heap.size w wx))
    case first =>
      go_region_with
        (first
          | (go_at_call 103; refine (unhide hLn _).mono ?_; rintro e w1 ⟨rfl, rfl⟩))
      all_goals
        go_wp2_with fail
        go_meet
        refine ⟨rfl, hide ?_, hide ?_, hide ?_, hide ?_, hide ?_⟩
        · exact Blk.drew ((unhide K5).far (p := ⟨gA, k, none⟩) (unhide ngA) _)
        · have := own_put (k := k) (unhide o5) (.int .i64 q)
          rw [ivc_set, ← unhide hstep] at this
          exact own_drew this
        · exact Blk.drew ((unhide Kr5).far (p := ⟨gA, k, none⟩) (unhide n0A) _)
        · exact Blk.drew ((unhide K75).far (p := ⟨gA, k, none⟩) (unhide n1A) _)
        · exact Below.drew ((unhide B5).setCell (p := ⟨gA, k, none⟩) (unhide hgA) _)
    case rest =>
      clear u0 ux fx K5 o5 Kr5 K75 B5
      obtain ⟨rfl, K9, oA, Kr, K7, BW⟩ := hcut
      go_wp2_with fail
      go_loopg [] 1 (fun kk wr => ∃ (sp co us : Int), ((kk = 1 ∧ sp = S ∧ co = C ∧ us = r.used) ∨ (kk = 0 ∧ S < 16777216 ∧ r.used < t.length ∧ sp = S * 256 ∧ co = C * 256 + o ∧ us = (r.used : Int) + 1)) ∧
        Hid (Blk wr g9 74 #[.slice (some ⟨gA, 0, none⟩) r.c.length cA, .int .u32 sp, .int .u32 co, .int .i64 us]) ∧ Hid (wr.ownsRow w.heap.size 3 1 (.slice (some ⟨gA, 0, none⟩) r.c.length cA) r.c.length ((stepA r.c ⟨k, true⟩).flatMap ivc)) ∧ Hid (Blk wr w.heap.size 74 #[.slice A r.c.length c, .int .u32 r.span, .int .u32 r.code, .int .i64 r.used]) ∧ Hid (Blk wr (w.heap.size + 1) 74 #[.slice none 0 0, .int .u32 0, .int .u32 0, .int .i64 0]) ∧ Hid (Below w.heap.size w wr))
      case atStart => exact ⟨S, C, r.used, .inl ⟨rfl, rfl, rfl, rfl⟩, K9, oA, Kr, K7, BW⟩
      case round =>
        clear K9 oA Kr K7 BW
        obtain ⟨sp, co, us, hcase, K9, oA, Kr, K7, BW⟩ := hrel
        have u0 : wr.cell? ⟨g9, 0, none⟩ = some (.slice (some ⟨gA, 0, none⟩) r.c.length cA) := (unhide K9).cell 0
        have u1 : wr.cell? ⟨g9, 1, none⟩ = some (.int .u32 sp) := (unhide K9).cell 1
        have u2 : wr.cell? ⟨g9, 2, none⟩ = some (.int .u32 co) := (unhide K9).cell 2
        have u3 : wr.cell? ⟨g9, 3, none⟩ = some (.int .i64 us) := (unhide K9).cell 3
        have f1 := (unhide K9).frozen 1; have f2 := (unhide K9).frozen 2; have f3 := (unhide K9).frozen 3
        have s0 : wr.cell? ⟨w.heap.size, 0, none⟩ = some (.slice A r.c.length c) := (unhide Kr).cell 0
        have s1 : wr.cell? ⟨w.heap.size, 1, none⟩ = some (.int .u32 r.span) := (unhide Kr).cell 1
        have s2 : wr.cell? ⟨w.heap.size, 2, none⟩ = some (.int .u32 r.code) := (unhide Kr).cell 2
        have s3 : wr.cell? ⟨w.heap.size, 3, none⟩ = some (.int .i64 r.used) := (unhide Kr).cell 3
        have p0 : wr.cell? ⟨w.heap.size + 1, 0, none⟩ = some (.slice none 0 0) := (unhide K7).cell 0
        have p1 : wr.cell? ⟨w.heap.size + 1, 1, none⟩ = some (.int .u32 0) := (unhide K7).cell 1
        have p2 : wr.cell? ⟨w.heap.size + 1, 2, none⟩ = some (.int .u32 0) := (unhide K7).cell 2
        have p3 : wr.cell? ⟨w.heap.size + 1, 3, none⟩ = some (.int .i64 0) := (unhide K7).cell 3
        have v0 := (unhide K7).frozen 0; have v1 := (unhide K7).frozen 1; have v2 := (unhide K7).frozen 2; have v3 := (unhide K7).frozen 3
        have ugl := (unhide K9).lt
        have ugr := (unhide Kr).lt
        have ug7 := (unhide K7).lt
        rcases hcase with ⟨rfl, rfl, rfl, rfl⟩ | ⟨rfl, hlt, hul, rfl, rfl, rfl⟩
        · by_cases hlt : sp < 16777216
          · by_cases hul : r.used < t.length
            · obtain ⟨b, off, rfl, z1, z2, q0⟩ := unhide y3 r.used hul
              have c0 := ((unhide BW).cell (p := ⟨b, off + r.used, none⟩) z2).trans q0
              have zb : b < wr.heap.size := World.block_lt_of_cell? wr _ c0
              have hb8 := (unhide ht) t[r.used] (List.getElem_mem hul)
              have hgd : t.getD r.used 0 = t[r.used] := getD_get hul
              rw [← hgd, ← unhide ho] at c0 hb8
              have j2 : IntKind.u32.wrap (co * 256) = co * 256 := IntWalk.u32_in _ (by omega)
              have j3 : IntKind.u32.wrap o = o := IntWalk.u32_in _ (by omega)
              have j1 : IntKind.u32.wrap (co * 256 + o) = co * 256 + o := IntWalk.u32_in _ (by omega)
              have j4 : IntKind.u32.wrap (sp * 256) = sp * 256 := IntWalk.u32_in _ (by omega)
              have j5 : IntKind.i64.wrap ((r.used : Int) + 1) = (r.used : Int) + 1 := IntWalk.i64_in _ (by omega)
              have j6 : decide ((t.length : Int) ≤ (r.used : Int)) = false := by simp; omega
              have j6' : decide (t.length ≤ r.used) = false := by simp; omega
              have j7 : (0 : Int) ≤ (r.used : Int) := by omega
              have j8 : (r.used : Int) < (t.length : Int) := by omega
              have k2 := (unhide K9).set 2 (.int .u32 (co * 256 + o))
              simp only [List.setIfInBounds_toArray, List.set_cons_succ, List.set_cons_zero] at k2
              have k3 := ((k2.drew).set 1 (.int .u32 (sp * 256))).set 3 (.int .i64 ((r.used : Int) + 1))
              simp only [List.setIfInBounds_toArray, List.set_cons_succ, List.set_cons_zero] at k3
              have hg90 : w.heap.size ≠ g9 := by have := unhide hg9; omega
              have hg91 : w.heap.size + 1 ≠ g9 := by have := unhide hg9; omega
              have hg92 : w.heap.size ≤ g9 := by have := unhide hg9; omega
              have o3 := own_far (own_far (own_drew (own_far (unhide oA) (unhide K9) (by decide) 2 (.int .u32 (co * 256 + o)))) k2.drew (by decide) 1 (.int .u32 (sp * 256))) (k2.drew.set 1 _) (by decide) 3 (.int .i64 ((r.used : Int) + 1))
              have Kr3 := (((unhide Kr).far (p := ⟨g9, 2, none⟩) hg90 (.int .u32 (co * 256 + o))).drew.far (p := ⟨g9, 1, none⟩) hg90 (.int .u32 (sp * 256))).far (p := ⟨g9, 3, none⟩) hg90 (.int .i64 ((r.used : Int) + 1))
              have K73 := (((unhide K7).far (p := ⟨g9, 2, none⟩) hg91 (.int .u32 (co * 256 + o))).drew.far (p := ⟨g9, 1, none⟩) hg91 (.int .u32 (sp * 256))).far (p := ⟨g9, 3, none⟩) hg91 (.int .i64 ((r.used : Int) + 1))
              have B3 := (((unhide BW).setCell (p := ⟨g9, 2, none⟩) hg92 (.int .u32 (co * 256 + o))).drew.setCell (p := ⟨g9, 1, none⟩) hg92 (.int .u32 (sp * 256))).setCell (p := ⟨g9, 3, none⟩) hg92 (.int .i64 ((r.used : Int) + 1))
              replace k3 := hide k3; replace o3 := hide o3; replace Kr3 := hide Kr3; replace K73 := hide K73; replace B3 := hide B3
              clear hb8 hgd q0 k2 s0 s1 s2 s3 p0 p1 p2 p3 v0 v1 v2 v3 u0 K9 oA Kr K7 BW hg90 hg91 hg92
              go_wp2_with fail
              go_region_with (first | fail)
              all_goals
                go_wp2_with fail
                clear j1 j2 j3 j4 j5 j6 j6'
                go_roundg 0
                case measure => omega
                case rel => exact ⟨sp * 256, co * 256 + o, (r.used : Int) + 1, .inr ⟨rfl, hlt, hul, rfl, rfl, rfl⟩, k3, o3, Kr3, K73, B3⟩
            · have j6 : decide ((t.length : Int) ≤ (r.used : Int)) = true := by simp; omega
              have j6' : decide (t.length ≤ r.used) = true := by simp; omega
              have hX' := unhide hX
              rw [if_pos hlt, if_neg hul] at hX'
              replace hX' := hide hX'
              have k7 := (unhide K7).set4 (x := .slice A r.c.length c) (y := .int .u32 r.span) (z := .int .u32 r.code) (u := .int .i64 r.used)
              have b9 := ((((unhide BW).setCell (p := ⟨w.heap.size + 1, 0, none⟩) (by simp) (.slice A r.c.length c)).setCell (p := ⟨w.heap.size + 1, 1, none⟩) (by simp) (.int .u32 r.span)).setCell (p := ⟨w.heap.size + 1, 2, none⟩) (by simp) (.int .u32 r.code)).setCell (p := ⟨w.heap.size + 1, 3, none⟩) (by simp) (.int .i64 r.used)
              replace k7 := hide k7; replace b9 := hide b9
              go_wp2_with fail
              clear u0 u1 u2 u3 f1 f2 f3 j6 j6' hlt hul
              go_region_held3 (fun W => W.cell? ⟨w.heap.size, 0, none⟩ = some (.slice A r.c.length c) ∧ W.cell? ⟨w.heap.size, 1, none⟩ = some (.int .u32 r.span) ∧ W.cell? ⟨w.heap.size, 2, none⟩ = some (.int .u32 r.code) ∧ W.cell? ⟨w.heap.size, 3, none⟩ = some (.int .i64 r.used)) (first | exact ⟨by with_reducible assumption, by with_reducible assumption, by with_reducible assumption, by with_reducible assumption⟩ | exact ⟨by go_simp, by go_simp, by go_simp, by go_simp⟩) (first | fail)
              clear s0 s1 s2 s3 p0 p1 p2 p3 v0 v1 v2 v3 ugl ugr ug7 K9 oA Kr K7 BW
              have k7 := (unhide k7).drew
              have b9 := (unhide b9).drew
              generalize ((((wr.setCell ⟨w.heap.size + 1, 0, none⟩ (.slice A r.c.length c)).setCell ⟨w.heap.size + 1, 1, none⟩ (.int .u32 r.span)).setCell ⟨w.heap.size + 1, 2, none⟩ (.int .u32 r.code)).setCell ⟨w.heap.size + 1, 3, none⟩ (.int .i64 r.used)).drew = wz at *
              replace k7 := hide k7; replace b9 := hide b9
              simp only [Exit.then]
              rename_i ha hh
              clear hh
              refine ha _ _ ?_
              clear ha
              refine wp_ret ?_
              (try simp only [Exit.then, Exit.inBlock])
              change bodyPost Tryz.prog Tryz.f80 _ .ret _ _
              all_goals
                refine ret_nx rfl (w.heap.size + 1) (.slice A r.c.length c) (.int .u32 r.span) (.int .u32 r.code) (.int .i64 r.used) (.bool false) (.int .i64 2) rfl rfl rfl (unhide k7) rfl ?_
                rw [unhide hX']
                exact ⟨_, rfl, ⟨A, c, rfl, unhide hfin _ (unhide b9)⟩, unhide b9⟩
          · have hX' := unhide hX
            rw [if_neg hlt] at hX'
            replace hX' := hide hX'
            have k7 := (unhide K7).set4 (x := .slice (some ⟨gA, 0, none⟩) r.c.length cA) (y := .int .u32 sp) (z := .int .u32 co) (u := .int .i64 (r.used : Int))
            have o9 := own_far (own_far (own_far (own_far (unhide oA) (unhide K7) (by decide) 0 (.slice (some ⟨gA, 0, none⟩) r.c.length cA)) ((unhide K7).set 0 _) (by decide) 1 (.int .u32 sp)) (((unhide K7).set 0 _).set 1 _) (by decide) 2 (.int .u32 co)) ((((unhide K7).set 0 _).set 1 _).set 2 _) (by decide) 3 (.int .i64 (r.used : Int))
            have b9 := ((((unhide BW).setCell (p := ⟨w.heap.size + 1, 0, none⟩) (by simp) (.slice (some ⟨gA, 0, none⟩) r.c.length cA)).setCell (p := ⟨w.heap.size + 1, 1, none⟩) (by simp) (.int .u32 sp)).setCell (p := ⟨w.heap.size + 1, 2, none⟩) (by simp) (.int .u32 co)).setCell (p := ⟨w.heap.size + 1, 3, none⟩) (by simp) (.int .i64 (r.used : Int))
            replace k7 := hide k7; replace o9 := hide o9; replace b9 := hide b9
            clear s0 s1 s2 s3
            go_wp2_with fail
            clear f1 f2 f3 hlt
            have hge9 : w.heap.size + 2 ≤ g9 := unhide hg9
            go_region_held3 (fun W => W.cell? ⟨g9, 0, none⟩ = some (.slice (some ⟨gA, 0, none⟩) r.c.length cA) ∧ W.cell? ⟨g9, 1, none⟩ = some (.int .u32 sp) ∧ W.cell? ⟨g9, 2, none⟩ = some (.int .u32 co) ∧ W.cell? ⟨g9, 3, none⟩ = some (.int .i64 (r.used : Int))) (first | exact ⟨by with_reducible assumption, by with_reducible assumption, by with_reducible assumption, by with_reducible assumption⟩ | exact ⟨by go_simp, by go_simp, by go_simp, by go_simp⟩) (first | fail)
            clear u0 u1 u2 u3 p0 p1 p2 p3 v0 v1 v2 v3 ugl ugr ug7 K9 oA Kr K7 BW
            have k7 := (unhide k7).drew
            have b9 := (unhide b9).drew
            have o9 := own_drew (unhide o9)
            generalize ((((wr.setCell ⟨w.heap.size + 1, 0, none⟩ (.slice (some ⟨gA, 0, none⟩) r.c.length cA)).setCell ⟨w.heap.size + 1, 1, none⟩ (.int .u32 sp)).setCell ⟨w.heap.size + 1, 2, none⟩ (.int .u32 co)).setCell ⟨w.heap.size + 1, 3, none⟩ (.int .i64 (r.used : Int))).drew = wz at *
            replace k7 := hide k7; replace b9 := hide b9; replace o9 := hide o9
            simp only [Exit.then]
            rename_i ha hh
            clear hh
            refine ha _ _ ?_
            clear ha
            refine wp_ret ?_
            (try simp only [Exit.then, Exit.inBlock])
            change bodyPost Tryz.prog Tryz.f80 _ .ret _ _
            all_goals
              refine ret_nx rfl (w.heap.size + 1) (.slice (some ⟨gA, 0, none⟩) r.c.length cA) (.int .u32 sp) (.int .u32 co) (.int .i64 (r.used : Int)) (.bool true) (.int .i64 0) rfl rfl rfl (unhide k7) rfl ?_
              rw [unhide hX']
              have hI9 := ownsRow_mono (unhide o9) (unhide hlo)
              have e9 : (stepA r.c ⟨k, true⟩).length = r.c.length := stepA_len _ _
              rw [← e9] at hI9
              refine ⟨_, rfl, ⟨some ⟨gA, 0, none⟩, cA, by first | (rw [e9]; done) | (rw [e9]; rfl), hI9⟩, unhide b9⟩
        · have hge : decide (S * 256 < 16777216) = false := by simp; omega
          have hX' := unhide hX
          rw [if_pos hlt, if_pos hul] at hX'
          replace hX' := hide hX'
          have k7 := (unhide K7).set4 (x := .slice (some ⟨gA, 0, none⟩) r.c.length cA) (y := .int .u32 (S * 256)) (z := .int .u32 (C * 256 + o)) (u := .int .i64 ((r.used : Int) + 1))
          have o9 := own_far (own_far (own_far (own_far (unhide oA) (unhide K7) (by decide) 0 (.slice (some ⟨gA, 0, none⟩) r.c.length cA)) ((unhide K7).set 0 _) (by decide) 1 (.int .u32 (S * 256))) (((unhide K7).set 0 _).set 1 _) (by decide) 2 (.int .u32 (C * 256 + o))) ((((unhide K7).set 0 _).set 1 _).set 2 _) (by decide) 3 (.int .i64 ((r.used : Int) + 1))
          have b9 := ((((unhide BW).setCell (p := ⟨w.heap.size + 1, 0, none⟩) (by simp) (.slice (some ⟨gA, 0, none⟩) r.c.length cA)).setCell (p := ⟨w.heap.size + 1, 1, none⟩) (by simp) (.int .u32 (S * 256))).setCell (p := ⟨w.heap.size + 1, 2, none⟩) (by simp) (.int .u32 (C * 256 + o))).setCell (p := ⟨w.heap.size + 1, 3, none⟩) (by simp) (.int .i64 ((r.used : Int) + 1))
          replace k7 := hide k7; replace o9 := hide o9; replace b9 := hide b9
          clear s0 s1 s2 s3
          go_wp2_with fail
          clear f1 f2 f3 hlt
          have hge9 : w.heap.size + 2 ≤ g9 := unhide hg9
          go_region_held3 (fun W => W.cell? ⟨g9, 0, none⟩ = some (.slice (some ⟨gA, 0, none⟩) r.c.length cA) ∧ W.cell? ⟨g9, 1, none⟩ = some (.int .u32 (S * 256)) ∧ W.cell? ⟨g9, 2, none⟩ = some (.int .u32 (C * 256 + o)) ∧ W.cell? ⟨g9, 3, none⟩ = some (.int .i64 ((r.used : Int) + 1))) (first | exact ⟨by with_reducible assumption, by with_reducible assumption, by with_reducible assumption, by with_reducible assumption⟩ | exact ⟨by go_simp, by go_simp, by go_simp, by go_simp⟩) (first | fail)
          clear u0 u1 u2 u3 p0 p1 p2 p3 v0 v1 v2 v3 ugl ugr ug7 K9 oA Kr K7 BW
          have k7 := (unhide k7).drew
          have b9 := (unhide b9).drew
          have o9 := own_drew (unhide o9)
          generalize ((((wr.setCell ⟨w.heap.size + 1, 0, none⟩ (.slice (some ⟨gA, 0, none⟩) r.c.length cA)).setCell ⟨w.heap.size + 1, 1, none⟩ (.int .u32 (S * 256))).setCell ⟨w.heap.size + 1, 2, none⟩ (.int .u32 (C * 256 + o))).setCell ⟨w.heap.size + 1, 3, none⟩ (.int .i64 ((r.used : Int) + 1))).drew = wz at *
          replace k7 := hide k7; replace b9 := hide b9; replace o9 := hide o9
          simp only [Exit.then]
          rename_i ha hh
          clear hh
          refine ha _ _ ?_
          clear ha
          refine wp_ret ?_
          (try simp only [Exit.then, Exit.inBlock])
          change bodyPost Tryz.prog Tryz.f80 _ .ret _ _
          all_goals
            refine ret_nx rfl (w.heap.size + 1) (.slice (some ⟨gA, 0, none⟩) r.c.length cA) (.int .u32 (S * 256)) (.int .u32 (C * 256 + o)) (.int .i64 ((r.used : Int) + 1)) (.bool true) (.int .i64 0) rfl rfl rfl (unhide k7) rfl ?_
            rw [unhide hX']
            have hI9 := ownsRow_mono (unhide o9) (unhide hlo)
            have e9 : (stepA r.c ⟨k, true⟩).length = r.c.length := stepA_len _ _
            rw [← e9] at hI9
            refine ⟨_, rfl, ⟨some ⟨gA, 0, none⟩, cA, by first | (rw [e9]; done) | (rw [e9]; rfl), hI9⟩, unhide b9⟩
end Go.Proofs.YthkccpemgmpadaaGreatDoor.P
