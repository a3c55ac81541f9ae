import Derived.Test.YtkgfmiicfegnlaaL3
namespace Go.Proofs.Ytkgfmiicfegnlaa
open Go.RowKit
attribute [local go_sem] bz_size bz_toList run_store_float
set_option maxRecDepth 100000

/-! ### rows that are counted up -/
theorem own_lt {w : World} {base n c : Nat} {A : Option Addr} {xs : List Value} (h : w.ownsRow base 26 6 (.slice A n c) n xs) : ∀ p, A = some p → p.block < w.heap.size := fun p e => own_vbelow h p n c (by rw [e])
theorem own_keep {w w' : World} {base : Nat} {v : Value} {l : List Fl} (h : OwnF w base v l) (hb : Below w.heap.size w w') : OwnF w' base v l := own_below h hb (Nat.le_refl _)
theorem own_le {w : World} {base : Nat} {v : Value} {l : List Fl} (h : OwnF w base v l) : l.length ≤ 9223372036854775807 := by
  obtain ⟨_, _, _, h1, h2, _⟩ := h.fls.open6
  omega
/-- A row of files, from block 'lo' on, whose last fields are numbers. -/
def Inc (A : Option Addr) (n lo : Nat) (w : World) : Prop :=
  (∀ p, A = some p → lo ≤ p.block) ∧ (0 < n → ∃ g cur, A = some ⟨g, 0, none⟩ ∧ Blk w g 26 cur ∧ ∀ i, i < n → ∃ z, cur[i * 6 + 5]? = some (.int .i64 z))
theorem inc_of_own {w : World} {base c : Nat} {A : Option Addr} {l : List Fl} (h : OwnF w base (.slice A l.length c) l) : Inc A l.length base w := by
  refine ⟨fun p e => own_base h p.block (by rw [e]; rfl), fun h0 => ?_⟩
  rcases own_blk h with ⟨e, h1⟩ | ⟨g, c', cur, e, h1, h2, h3, h4, h5, h6⟩
  · omega
  · injection e with e1 e2 e3
    refine ⟨g, cur, e1, h2, fun i hi => ⟨(l[i]).ln, h5 _ _ ?_⟩⟩
    rw [flat_get fc_len l i hi 5 (by decide)]; rfl
/-- Nothing has turned but a row's block. -/
structure ButA (A : Option Addr) (w w' : World) : Prop where
  os : w'.os = w.os
  tape : w'.tape = w.tape
  output : w'.output = w.output
  size : w.heap.size ≤ w'.heap.size
  block : ∀ k, (∀ p, A = some p → p.block ≠ k) → k < w.heap.size → w'.heap[k]? = w.heap[k]?
theorem ButA.refl (A : Option Addr) (w : World) : ButA A w w := ⟨rfl, rfl, rfl, Nat.le_refl _, fun _ _ _ => rfl⟩
theorem ButA.set {g : Nat} {w w' : World} (h : ButA (some ⟨g, 0, none⟩) w w') (i : Nat) (u : Value) : ButA (some ⟨g, 0, none⟩) w (w'.setCell ⟨g, i, none⟩ u) :=
  ⟨h.os, h.tape, h.output, by simpa [World.setCell] using h.size, fun k hk hl => (Below.heap_setCell w' ⟨g, i, none⟩ u k (fun e => hk _ rfl e.symm)).trans (h.block k hk hl)⟩
theorem ButA.below {A : Option Addr} {B : Nat} {w w' : World} (h : ButA A w w') (hA : ∀ p, A = some p → B ≤ p.block) (hw : B ≤ w.heap.size) : Below B w w' :=
  ⟨h.os, h.tape, h.output, h.size, fun k hk => h.block k (fun p e hp => by have := hA p e; omega) (by omega)⟩
theorem Inc.but {A Ax : Option Addr} {n lo : Nat} {w w' : World} (h : Inc Ax n lo w) (h' : ButA A w w') (hA : ∀ p, A = some p → p.block < lo) : Inc Ax n lo w' := by
  refine ⟨h.1, fun h0 => ?_⟩
  obtain ⟨g, cur, rfl, hq, hz⟩ := h.2 h0
  refine ⟨g, cur, rfl, ?_, hz⟩
  have h1 := h.1 _ rfl
  exact (h'.block g (fun p e hp => by have := hA p e; have h1 : lo ≤ g := h1; omega) hq.lt).trans hq
theorem Inc.set {g n lo i : Nat} {w : World} (h : Inc (some ⟨g, 0, none⟩) n lo w) (_ : i < n) (z : Int) : Inc (some ⟨g, 0, none⟩) n lo (w.setCell ⟨g, i * 6 + 5, none⟩ (.int .i64 z)) := by
  refine ⟨h.1, fun h0 => ?_⟩
  obtain ⟨g', cur, e, hq, hz⟩ := h.2 h0
  injection e with e
  injection e with e1 e2
  subst e1
  refine ⟨g, _, rfl, hq.set _ _, fun j hj => ?_⟩
  obtain ⟨y, hy⟩ := hz j hj
  rw [Array.getElem?_setIfInBounds]
  by_cases e : i * 6 + 5 = j * 6 + 5
  · rw [if_pos e]
    have : j * 6 + 5 < cur.size := (Array.getElem?_eq_some_iff.1 hy).1
    rw [if_pos (by omega)]
    exact ⟨z, rfl⟩
  · rw [if_neg e]; exact ⟨y, hy⟩

theorem sm_wit {l : List Fl} (h : SmL l) (d : List UInt8) : SmL (witR l d).1 := fun x hx => by
  unfold witR at hx
  split at hx
  · cases hx
  · exact h x (List.mem_filter.1 hx).1
theorem sm_best {l : List Fl} (h : SmL l) : SmL (bestR l) := fun x hx => by
  unfold bestR at hx
  split at hx
  · rename_i ht
    exact h x ((best_is (tab_up ht)).perm.mem_iff.1 hx)
  · cases hx

set_option maxHeartbeats 8000000 in
theorem TableTells_any (v : Value) (l : List Fl) (d : List UInt8) (w : World) (h : Fls 0 w.heap.size w v l) (hr : ∀ x ∈ l, x.rk < 18446744073709551616) :
    Calls Try.prog 4 #[v, .string (bz d)] w fun e w' => e = .returned (.bool true) ∧ Below w.heap.size w w' := by
  have hL := fun W => live_any W
  have hF := fun W (h : Fls 0 W.heap.size W v l) => few_any 0 W.heap.size v l W h (Nat.le_refl _)
  have hB : Below w.heap.size w w := Below.refl _ _
  have hl := h
  have h0 := h
  obtain ⟨A, c, rfl, h1, h2, h3⟩ := h
  clear h3
  replace hL := hide hL; replace hB := hide hB; replace hl := hide hl
  cases hfew : fewB l with
  | false =>
    rw [hfew] at hF
    replace hF := hide hF
    clear hfew hr h1 h2
    generalize l.length = n at *
    have tk0 : True := trivial
    have tk1 : True := trivial
    go_enter Try.func4, Try.ntmps4
    go_wp2_with (first
      | (have _t := tk0; clear tk0 _t; go_at_call 9; refine (unhide hL _).mono ?_; rintro ez wz0 ⟨rfl, bz0⟩; have szz0 := bz0.size; replace hB := hide ((unhide hB).trans (bz0.mono (unhide hB).size)); replace hl := hide ((unhide hl).grow bz0); clear bz0)
      | (have _t := tk1; clear tk1 _t; go_at_call 10; refine (unhide hF _ (unhide hl)).mono ?_; rintro ez wz1 ⟨rfl, bz1⟩; have szz1 := bz1.size; replace hB := hide ((unhide hB).trans (bz1.mono (unhide hB).size)); replace hl := hide ((unhide hl).grow bz1); clear bz1)
      | fail)
    go_ret
    exact ⟨rfl, unhide hB⟩
  | true =>
    have hs := sm_few hr hfew
    have hl8 := (few_iff hfew).2
    rw [hfew] at hF
    replace hF := hide hF
    clear hfew hr
    by_cases hdl : 200 < d.length
    · have df : decide ((d.length : Int) > 200) = true := decide_eq_true (by omega)
      clear h1 h2 hl8 hs
      generalize l.length = n at *
      have tk0 : True := trivial
      have tk1 : True := trivial
      go_enter Try.func4, Try.ntmps4
      go_wp2_with (first
        | (have _t := tk0; clear tk0 _t; go_at_call 9; refine (unhide hL _).mono ?_; rintro ez wz0 ⟨rfl, bz0⟩; have szz0 := bz0.size; replace hB := hide ((unhide hB).trans (bz0.mono (unhide hB).size)); replace hl := hide ((unhide hl).grow bz0); clear bz0)
        | (have _t := tk1; clear tk1 _t; go_at_call 10; refine (unhide hF _ (unhide hl)).mono ?_; rintro ez wz1 ⟨rfl, bz1⟩; have szz1 := bz1.size; replace hB := hide ((unhide hB).trans (bz1.mono (unhide hB).size)); replace hl := hide ((unhide hl).grow bz1); clear bz1)
        | fail)
      go_ret
      exact ⟨rfl, unhide hB⟩
    · have df : decide ((d.length : Int) > 200) = false := decide_eq_false (by omega)
      obtain ⟨i0, hi0, hz0, hz1, hz2⟩ := info_parts info26
      have hwi := fun W (h : Fls 0 W.heap.size W (.slice A l.length c) l) => within24_any 0 W.heap.size _ l d W h (Nat.le_refl _) hs (by omega)
      have hwr := fun W (h : Fls 0 W.heap.size W (.slice A l.length c) l) => refWithinL_any 0 W.heap.size _ l d W h (Nat.le_refl _) hs (by omega)
      have hbe := fun W (h : Fls 0 W.heap.size W (.slice A l.length c) l) => Best_any 0 W.heap.size _ l W h (Nat.le_refl _) hs
      have hbr := fun W (h : Fls 0 W.heap.size W (.slice A l.length c) l) => refBest_any 0 W.heap.size _ l W h (Nat.le_refl _) hs
      have hsm := fun (x : List Fl) (hx : SmL x) W vx vy (h : Fls 0 W.heap.size W vx x) (h' : Fls 0 W.heap.size W vy x) => refSameL_any 0 W.heap.size 0 W.heap.size vx vy x x W h h' (Nat.le_refl _) (Nat.le_refl _) hx hx
      replace hsm := fun x hx W vx vy h h' => by
        have := hsm x hx W vx vy h h'
        rw [same_self] at this
        exact this
      have hs1 := fun W => hsm _ (sm_wit hs d) W
      have hs2 := fun W => hsm _ (sm_best hs) W
      have hs3 := fun W => hsm _ hs W
      have n0 : (l.flatMap fc).length = l.length * 6 := flat_len fc_len l
      clear hsm hs h2
      obtain ⟨⟨a, ea⟩, haq⟩ : ∃ q, q = witR l d := ⟨_, rfl⟩
      obtain ⟨x, hxq⟩ : ∃ q, q = bestR l := ⟨_, rfl⟩
      rw [← haq] at hwi hwr hs1
      rw [← hxq] at hbe hbr hs2
      generalize errB (tabB l) = ex at *
      clear haq hxq
      obtain ⟨n, hn⟩ : ∃ n, n = l.length := ⟨_, rfl⟩
      rw [← hn] at hF hl h0 hl8 hwi hwr hbe hbr n0 h1
      rw [← hn]
      have u1 : 0 + n ≤ maxLen := by simp only [maxLen]; omega
      have u2 : (0 + n) * 56 ≤ 140737488355328 := by omega
      have de1 : (ea == ea) = true := beq_self_eq_true _
      have de2 : (ex == ex) = true := beq_self_eq_true _
      have ha0 : ∀ W, Fls 0 W.heap.size W (.slice A n c) l → Calls Try.prog 24 #[.slice A n c, .string (bz d)] W fun e w' => ∃ v', e = .returned (.tuple #[v', .int .i64 ea]) ∧ OwnF w' W.heap.size v' a ∧ Below W.heap.size W w' := hwi
      have hx0 : ∀ W, Fls 0 W.heap.size W (.slice A n c) l → Calls Try.prog 26 #[.slice A n c] W fun e w' => ∃ v', e = .returned (.tuple #[v', .int .i64 ex]) ∧ OwnF w' W.heap.size v' x ∧ Below W.heap.size W w' := hbe
      clear hwi hbe
      replace ha0 := hide ha0; replace hx0 := hide hx0; replace hwr := hide hwr; replace hbr := hide hbr; replace hs1 := hide hs1; replace hs2 := hide hs2; replace hs3 := hide hs3; replace hn := hide hn; replace n0 := hide n0; replace u1 := hide u1; replace u2 := hide u2; replace h1 := hide h1
      have tk0 : True := trivial
      have tk1 : True := trivial
      have tk2 : True := trivial
      have tk3 : True := trivial
      have tk4 : True := trivial
      have tk5 : True := trivial
      have tk6 : True := trivial
      have tk7 : True := trivial
      have tk8 : True := trivial
      go_enter Try.func4, Try.ntmps4
      go_wp2_with (first
        | (have _t := tk0; clear tk0 _t; go_at_call 9; refine (unhide hL _).mono ?_; rintro ez wz0 ⟨rfl, bz0⟩; have szz0 := bz0.size; replace hB := hide ((unhide hB).trans (bz0.mono (unhide hB).size)); replace hl := hide ((unhide hl).grow bz0); clear bz0)
        | (have _t := tk1; clear tk1 _t; go_at_call 10; refine (unhide hF _ (unhide hl)).mono ?_; rintro ez wz1 ⟨rfl, bz1⟩; have szz1 := bz1.size; replace hB := hide ((unhide hB).trans (bz1.mono (unhide hB).size)); replace hl := hide ((unhide hl).grow bz1); clear bz1)
        | (at_builtin
           refine wpList_app _ rfl (.const (.slice none 0 0)) (.tmp 28) 22 rfl wz1.heap.size 26 i0 _ 6 56 Try.underlying22 hi0 hz0 hz1 hz2 rfl (Nat.succ_pos _) _ 0 [] rfl (World.ownsRow_nil _ _ _ _) A n c (l.flatMap fc) rfl (unhide n0) (Rd.src fc_len (unhide hl)).2 (flat_one fc_one l) (unhide u1) (unhide u2) (Nat.le_refl _) ?_
           intro v5 ww ow hg5
           rw [Nat.zero_add, List.nil_append] at ow
           obtain ⟨Aw, cw, rfl⟩ := ownsRow_form ow
           have bz2 : Below wz1.heap.size wz1 ww := (Below.refl _ _).grown hg5 (Nat.le_refl _) (by intro k hk; cases hk)
           have hw0 := hide (show Fls 0 ww.heap.size ww (.slice Aw n cw) l from by
             have q : OwnF ww wz1.heap.size (.slice Aw l.length cw) l := by rw [← unhide hn]; unfold OwnF; rw [← unhide hn]; exact ow
             have := q.fls.mono (Nat.zero_le _) (Nat.le_refl _)
             rwa [← unhide hn] at this)
           have hw := hw0
           have szz2 := bz2.size
           have hC := hide (Below.refl ww.heap.size ww)
           clear hg5 ow
           replace hB := hide ((unhide hB).trans (bz2.mono (unhide hB).size))
           replace hl := hide ((unhide hl).grow bz2)
           clear bz2)
        | (have _t := tk3; clear tk3 _t; go_at_call 24; refine (unhide ha0 _ (unhide hl)).mono ?_; rintro ez wz3 ⟨va, rfl, oa, bz3⟩; have szz3 := bz3.size; replace hB := hide ((unhide hB).trans (bz3.mono (unhide hB).size)); replace hl := hide ((unhide hl).grow bz3); replace hC := hide ((unhide hC).trans (bz3.mono (unhide hC).size)); replace hw := hide ((unhide hw).grow bz3); obtain ⟨Aa, ca, rfl⟩ := ownsRow_form oa; have bda := hide (own_lt oa); replace oa := hide oa; clear bz3)
        | (have _t := tk4; clear tk4 _t; go_at_call 25; refine (unhide hwr _ (unhide hl)).mono ?_; rintro ez wz4 ⟨vb, rfl, ohb, bz4⟩; have szz4 := bz4.size; replace hB := hide ((unhide hB).trans (bz4.mono (unhide hB).size)); replace hl := hide ((unhide hl).grow bz4); replace hC := hide ((unhide hC).trans (bz4.mono (unhide hC).size)); replace hw := hide ((unhide hw).grow bz4); replace oa := hide (own_keep (unhide oa) bz4); (have hb := hide (ohb.fls.mono (Nat.zero_le _) (Nat.le_refl _))); clear ohb; clear bz4)
        | (have _t := tk5; clear tk5 _t; go_at_call 26; refine (unhide hx0 _ (unhide hl)).mono ?_; rintro ez wz5 ⟨vx, rfl, ox, bz5⟩; have szz5 := bz5.size; replace hB := hide ((unhide hB).trans (bz5.mono (unhide hB).size)); replace hl := hide ((unhide hl).grow bz5); replace hC := hide ((unhide hC).trans (bz5.mono (unhide hC).size)); replace hw := hide ((unhide hw).grow bz5); replace oa := hide (own_keep (unhide oa) bz5); replace hb := hide ((unhide hb).grow bz5); obtain ⟨Ax, cx, rfl⟩ := ownsRow_form ox; have bdx := hide (own_lt ox); replace ox := hide ox; clear bz5)
        | (have _t := tk6; clear tk6 _t; go_at_call 27; refine (unhide hbr _ (unhide hl)).mono ?_; rintro ez wz6 ⟨vy, rfl, ohy, bz6⟩; have szz6 := bz6.size; replace hB := hide ((unhide hB).trans (bz6.mono (unhide hB).size)); replace hl := hide ((unhide hl).grow bz6); replace hC := hide ((unhide hC).trans (bz6.mono (unhide hC).size)); replace hw := hide ((unhide hw).grow bz6); replace oa := hide (own_keep (unhide oa) bz6); replace hb := hide ((unhide hb).grow bz6); replace ox := hide (own_keep (unhide ox) bz6); (have hy := hide (ohy.fls.mono (Nat.zero_le _) (Nat.le_refl _))); clear ohy; clear bz6)
        | (have _t := tk7; clear tk7 _t; go_at_call 19; refine (unhide hs1 _ _ _ ((unhide oa).fls.mono (Nat.zero_le _) (Nat.le_refl _)) (unhide hb)).mono ?_; rintro ez wz7 ⟨rfl, bz7⟩; have szz7 := bz7.size; replace hB := hide ((unhide hB).trans (bz7.mono (unhide hB).size)); replace hl := hide ((unhide hl).grow bz7); replace hC := hide ((unhide hC).trans (bz7.mono (unhide hC).size)); replace hw := hide ((unhide hw).grow bz7); replace oa := hide (own_keep (unhide oa) bz7); replace hb := hide ((unhide hb).grow bz7); replace ox := hide (own_keep (unhide ox) bz7); replace hy := hide ((unhide hy).grow bz7); clear bz7)
        | (have _t := tk8; clear tk8 _t; go_at_call 19; refine (unhide hs2 _ _ _ ((unhide ox).fls.mono (Nat.zero_le _) (Nat.le_refl _)) (unhide hy)).mono ?_; rintro ez wz8 ⟨rfl, bz8⟩; have szz8 := bz8.size; replace hB := hide ((unhide hB).trans (bz8.mono (unhide hB).size)); replace hl := hide ((unhide hl).grow bz8); replace hC := hide ((unhide hC).trans (bz8.mono (unhide hC).size)); replace hw := hide ((unhide hw).grow bz8); replace oa := hide (own_keep (unhide oa) bz8); replace hb := hide ((unhide hb).grow bz8); replace ox := hide (own_keep (unhide ox) bz8); replace hy := hide ((unhide hy).grow bz8); clear bz8)
        | fail)
      have hIa := hide (inc_of_own (unhide oa))
      have hIx := hide (inc_of_own (unhide ox))
      have la := own_le (unhide oa)
      have lx := own_le (unhide ox)
      clear oa ox hb hy hl hw
      generalize a.length = na at *
      generalize x.length = nx at *
      go_loopw [72] (fun i wr => ∃ k : Nat, k ≤ na ∧ i = .int .i64 k ∧ Hid (Inc Aa na ww.heap.size wr) ∧ Hid (ButA Aa wz8 wr)) (fun i _ => na - (intOf i).toNat)
      case atStart => exact ⟨0, Nat.zero_le _, rfl, hIa, hide (ButA.refl _ _)⟩
      case round =>
        obtain ⟨k, hk, rfl, hI2, hU⟩ := hrel
        by_cases hlt : k < na
        · obtain ⟨g, cur, rfl, hq, hz⟩ := (unhide hI2).2 (by omega)
          obtain ⟨z, hz'⟩ := hz k hlt
          have c5 := (hq.cell (k * 6 + 5)).trans hz'
          have fz := hq.frozen (k * 6 + 5)
          clear hq hz hz'
          go_wp2_with (fail)
          go_roundw
          case rel => exact ⟨k + 1, by omega, by go_num, hide ((unhide hI2).set hlt _), hide ((unhide hU).set _ _)⟩
          case measure => simp [intOf] <;> omega
        · obtain rfl : k = na := by omega
          have q := (unhide hU).below (unhide hI2).1 (by omega)
          replace hB := hide ((unhide hB).trans (q.mono (by omega)))
          replace hC := hide ((unhide hC).trans (q.mono (by omega)))
          have hIx2 := hide ((unhide hIx).but (unhide hU) (fun p e => by have := unhide bda p e; omega))
          have szq := (unhide hU).size
          clear q hI2 hU hIx
          generalize wr = W9 at *
          go_wp2_with (fail)
          go_loopw [86] (fun i wr => ∃ k : Nat, k ≤ nx ∧ i = .int .i64 k ∧ Hid (Inc Ax nx wz4.heap.size wr) ∧ Hid (ButA Ax W9 wr)) (fun i _ => nx - (intOf i).toNat)
          case atStart => exact ⟨0, Nat.zero_le _, rfl, hIx2, hide (ButA.refl _ _)⟩
          case round =>
            obtain ⟨k, hk, rfl, hI2, hU⟩ := hrel
            by_cases hlt : k < nx
            · obtain ⟨g, cur, rfl, hq, hz⟩ := (unhide hI2).2 (by omega)
              obtain ⟨z, hz'⟩ := hz k hlt
              have c5 := (hq.cell (k * 6 + 5)).trans hz'
              have fz := hq.frozen (k * 6 + 5)
              clear hq hz hz'
              go_wp2_with (fail)
              go_roundw
              case rel => exact ⟨k + 1, by omega, by go_num, hide ((unhide hI2).set hlt _), hide ((unhide hU).set _ _)⟩
              case measure => simp [intOf] <;> omega
            · obtain rfl : k = nx := by omega
              have q := (unhide hU).below (unhide hI2).1 (by omega)
              replace hB := hide ((unhide hB).trans (q.mono (by omega)))
              replace hC := hide ((unhide hC).trans (q.mono (by omega)))
              clear q hI2 hU
              have hl := hide ((h0.below (unhide hB) (Nat.le_refl _)).mono (Nat.le_refl _) (unhide hB).size)
              have hw := hide (((unhide hw0).below (unhide hC) (Nat.le_refl _)).mono (Nat.le_refl _) (unhide hC).size)
              have tk0 : True := trivial
              go_wp2_with (first
                | (have _t := tk0; clear tk0 _t; go_at_call 19; refine (unhide hs3 _ _ _ (unhide hl) (unhide hw)).mono ?_; rintro ez wz0 ⟨rfl, bz0⟩; have szz0 := bz0.size; replace hB := hide ((unhide hB).trans (bz0.mono (unhide hB).size)); clear bz0)
                | fail)
              go_ret
              exact ⟨rfl, unhide hB⟩
end Go.Proofs.Ytkgfmiicfegnlaa
