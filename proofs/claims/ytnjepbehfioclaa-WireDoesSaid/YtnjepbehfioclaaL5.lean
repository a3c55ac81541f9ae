import Derived.Test.YtnjepbehfioclaaL1
namespace Go.Proofs.Ytnjepbehfioclaa
open Go.RowKit
attribute [local go_sem] bz_size bz_toList run_store_float
set_option maxRecDepth 100000

theorem own_blk {w : World} {base n : Nat} {v : Value} {xs : List Value} (h : w.ownsRow base 26 6 v n xs) : (v = .slice none 0 0 ∧ n = 0) ∨
    ∃ g c cur, v = .slice (some ⟨g, 0, none⟩) n c ∧ base ≤ g ∧ Blk w g 26 cur ∧ n ≤ c ∧ c ≤ maxLen ∧ (∀ (i : Nat) (u : Value), xs[i]? = some u → cur[i]? = some u) ∧ ∀ w', Blk w' g 26 cur → w'.ownsRow base 26 6 v n xs := by
  obtain ⟨h1, h2⟩ := h
  rcases h2 with ⟨e, h0⟩ | ⟨g, cap, cur, e, hb, hg, hnc, hcm, hcs, ht⟩
  · exact .inl ⟨e, h0⟩
  · refine .inr ⟨g, cap, cur, e, hb, hg, hnc, hcm, fun i u hu => ?_, fun w' hw => ⟨h1, .inr ⟨g, cap, cur, e, hb, hw, hnc, hcm, hcs, ht⟩⟩⟩
    rw [← ht, List.getElem?_take] at hu
    split at hu
    · rw [Array.getElem?_toList] at hu; exact hu
    · cases hu
/-! ### rows that are counted up -/
theorem own_lt {w : World} {base n c : Nat} {A : Option Addr} {xs : List Value} (h : w.ownsRow base 26 6 (.slice A n c) n xs) : ∀ p, A = some p → p.block < w.heap.size := fun p e => own_vbelow h p n c (by rw [e])
theorem own_keep {w w' : World} {base : Nat} {v : Value} {l : List Fl} (h : OwnF w base v l) (hb : Below w.heap.size w w') : OwnF w' base v l := own_below h hb (Nat.le_refl _)
theorem own_le {w : World} {base : Nat} {v : Value} {l : List Fl} (h : OwnF w base v l) : l.length ≤ 9223372036854775807 := by
  obtain ⟨_, _, _, h1, h2, _⟩ := h.fls.open6
  omega
/-- A row of files, from block 'lo' on, whose last fields are numbers. -/
def Inc (A : Option Addr) (n lo : Nat) (w : World) : Prop :=
  (∀ p, A = some p → lo ≤ p.block) ∧ (0 < n → ∃ g cur, A = some ⟨g, 0, none⟩ ∧ Blk w g 26 cur ∧ ∀ i, i < n → ∃ z, cur[i * 6 + 5]? = some (.int .i64 z))
theorem inc_of_own {w : World} {base c : Nat} {A : Option Addr} {l : List Fl} (h : OwnF w base (.slice A l.length c) l) : Inc A l.length base w := by
  refine ⟨fun p e => own_base h p.block (by rw [e]; rfl), fun h0 => ?_⟩
  rcases own_blk h with ⟨e, h1⟩ | ⟨g, c', cur, e, h1, h2, h3, h4, h5, h6⟩
  · omega
  · injection e with e1 e2 e3
    refine ⟨g, cur, e1, h2, fun i hi => ⟨(l[i]).ln, h5 _ _ ?_⟩⟩
    rw [flat_get fc_len l i hi 5 (by decide)]; rfl
/-- Nothing has turned but a row's block. -/
structure ButA (A : Option Addr) (w w' : World) : Prop where
  os : w'.os = w.os
  tape : w'.tape = w.tape
  output : w'.output = w.output
  size : w.heap.size ≤ w'.heap.size
  block : ∀ k, (∀ p, A = some p → p.block ≠ k) → k < w.heap.size → w'.heap[k]? = w.heap[k]?
theorem ButA.refl (A : Option Addr) (w : World) : ButA A w w := ⟨rfl, rfl, rfl, Nat.le_refl _, fun _ _ _ => rfl⟩
theorem ButA.set {g : Nat} {w w' : World} (h : ButA (some ⟨g, 0, none⟩) w w') (i : Nat) (u : Value) : ButA (some ⟨g, 0, none⟩) w (w'.setCell ⟨g, i, none⟩ u) :=
  ⟨h.os, h.tape, h.output, by simpa [World.setCell] using h.size, fun k hk hl => (Below.heap_setCell w' ⟨g, i, none⟩ u k (fun e => hk _ rfl e.symm)).trans (h.block k hk hl)⟩
theorem ButA.below {A : Option Addr} {B : Nat} {w w' : World} (h : ButA A w w') (hA : ∀ p, A = some p → B ≤ p.block) (hw : B ≤ w.heap.size) : Below B w w' :=
  ⟨h.os, h.tape, h.output, h.size, fun k hk => h.block k (fun p e hp => by have := hA p e; omega) (by omega)⟩
theorem Inc.but {A Ax : Option Addr} {n lo : Nat} {w w' : World} (h : Inc Ax n lo w) (h' : ButA A w w') (hA : ∀ p, A = some p → p.block < lo) : Inc Ax n lo w' := by
  refine ⟨h.1, fun h0 => ?_⟩
  obtain ⟨g, cur, rfl, hq, hz⟩ := h.2 h0
  refine ⟨g, cur, rfl, ?_, hz⟩
  have h1 := h.1 _ rfl
  exact (h'.block g (fun p e hp => by have := hA p e; have h1 : lo ≤ g := h1; omega) hq.lt).trans hq
theorem Inc.set {g n lo i : Nat} {w : World} (h : Inc (some ⟨g, 0, none⟩) n lo w) (_ : i < n) (z : Int) : Inc (some ⟨g, 0, none⟩) n lo (w.setCell ⟨g, i * 6 + 5, none⟩ (.int .i64 z)) := by
  refine ⟨h.1, fun h0 => ?_⟩
  obtain ⟨g', cur, e, hq, hz⟩ := h.2 h0
  injection e with e
  injection e with e1 e2
  subst e1
  refine ⟨g, _, rfl, hq.set _ _, fun j hj => ?_⟩
  obtain ⟨y, hy⟩ := hz j hj
  rw [Array.getElem?_setIfInBounds]
  by_cases e : i * 6 + 5 = j * 6 + 5
  · rw [if_pos e]
    have : j * 6 + 5 < cur.size := (Array.getElem?_eq_some_iff.1 hy).1
    rw [if_pos (by omega)]
    exact ⟨z, rfl⟩
  · rw [if_neg e]; exact ⟨y, hy⟩

set_option maxHeartbeats 4000000 in
theorem WireDoes_any (va vb : Value) (l : List Fl) (f : Fl) (b : List UInt8) (w : World) (ha : Fls 0 w.heap.size w va l) (hb : Bs 0 w.heap.size w vb b) (ia : InL l) (iF : f.rk < 18446744073709551616 ∧ U32F f) :
    Calls Try.prog 3 #[va, (.agg #[.string (bz f.nm), .float .f64 f.rk, .int .u32 f.sm, .int .i64 f.bk, .int .i64 f.fr, .int .i64 f.ln]), vb] w fun e w' => e = .returned (.bool true) ∧ Below w.heap.size w w' := by
  have hL := fun W => live_any W
  have hFa := fun W (h : Fls 0 W.heap.size W va l) => cFew va l W h
  have hB : Below w.heap.size w (w.alloc (.cells #[.string (bz f.nm), .float .f64 f.rk, .int .u32 f.sm, .int .i64 f.bk, .int .i64 f.fr, .int .i64 f.ln] 26)) := bl_alloc (Below.refl _ _) _
  have hb0 := hb
  have hb1 := hb
  obtain ⟨Ab, cb, rfl, hjunk⟩ := hb1.openB
  clear hb1 hjunk
  replace ha := hide (Rd.grow ha hB)
  replace hb := hide (Rd.grow hb hB)
  have kf : Hid (Blk (w.alloc (.cells #[.string (bz f.nm), .float .f64 f.rk, .int .u32 f.sm, .int .i64 f.bk, .int .i64 f.fr, .int .i64 f.ln] 26)) w.heap.size 26 #[.string (bz f.nm), .float .f64 f.rk, .int .u32 f.sm, .int .i64 f.bk, .int .i64 f.fr, .int .i64 f.ln]) := hide (Blk.new rfl)
  replace hL := hide hL; replace hB := hide hB; replace hb0 := hide hb0
  cases fa : fewB l with
  | false =>
    rw [fa] at hFa
    replace hFa := hide hFa
    clear fa ia iF hb0
    go_enter Try.func3, Try.ntmps3
    go_upto_region 1 with fail
    generalize w.alloc (.cells #[.string (bz f.nm), .float .f64 f.rk, .int .u32 f.sm, .int .i64 f.bk, .int .i64 f.fr, .int .i64 f.ln] 26) = W0 at *
    obtain ⟨p0, p1, p2, p3, p4, p5⟩ := bk6 (unhide kf)
    have tk0 : True := trivial
    have tk1 : True := trivial
    go_wp2_with (first
      | (have _t := tk0; clear tk0 _t; go_at_call 8; refine (unhide hL _).mono ?_; rintro ez wz0 ⟨rfl, bz0⟩; have szz0 := bz0.size; replace hB := hide ((unhide hB).trans (bz0.mono (unhide hB).size)); replace ha := hide (Rd.grow (unhide ha) bz0); replace hb := hide (Rd.grow (unhide hb) bz0); replace kf := hide (Blk.below (unhide kf) bz0 (unhide kf).lt); clear p0 p1 p2 p3 p4 p5; obtain ⟨p0, p1, p2, p3, p4, p5⟩ := bk6 (unhide kf); clear bz0)
      | (have _t := tk1; clear tk1 _t; go_at_call 9; refine (unhide hFa _ (unhide ha)).mono ?_; rintro ez wz1 ⟨rfl, bz1⟩; have szz1 := bz1.size; replace hB := hide ((unhide hB).trans (bz1.mono (unhide hB).size)); replace ha := hide (Rd.grow (unhide ha) bz1); replace hb := hide (Rd.grow (unhide hb) bz1); replace kf := hide (Blk.below (unhide kf) bz1 (unhide kf).lt); clear p0 p1 p2 p3 p4 p5; obtain ⟨p0, p1, p2, p3, p4, p5⟩ := bk6 (unhide kf); clear bz1)
      | fail)
    all_goals go_ret
    all_goals exact ⟨rfl, unhide hB⟩
  | true =>
    obtain ⟨sa, ua⟩ := small_few ia fa
    rw [fa] at hFa
    replace hFa := hide hFa
    clear fa
    by_cases n1 : 200 < f.nm.length
    · have d1 : (200 : Int) < (f.nm.length : Int) := by omega
      clear ia iF sa ua n1 hb0
      go_enter Try.func3, Try.ntmps3
      go_upto_region 1 with fail
      generalize w.alloc (.cells #[.string (bz f.nm), .float .f64 f.rk, .int .u32 f.sm, .int .i64 f.bk, .int .i64 f.fr, .int .i64 f.ln] 26) = W0 at *
      obtain ⟨p0, p1, p2, p3, p4, p5⟩ := bk6 (unhide kf)
      have tk0 : True := trivial
      have tk1 : True := trivial
      go_wp2_with (first
        | (have _t := tk0; clear tk0 _t; go_at_call 8; refine (unhide hL _).mono ?_; rintro ez wz0 ⟨rfl, bz0⟩; have szz0 := bz0.size; replace hB := hide ((unhide hB).trans (bz0.mono (unhide hB).size)); replace ha := hide (Rd.grow (unhide ha) bz0); replace hb := hide (Rd.grow (unhide hb) bz0); replace kf := hide (Blk.below (unhide kf) bz0 (unhide kf).lt); clear p0 p1 p2 p3 p4 p5; obtain ⟨p0, p1, p2, p3, p4, p5⟩ := bk6 (unhide kf); clear bz0)
        | (have _t := tk1; clear tk1 _t; go_at_call 9; refine (unhide hFa _ (unhide ha)).mono ?_; rintro ez wz1 ⟨rfl, bz1⟩; have szz1 := bz1.size; replace hB := hide ((unhide hB).trans (bz1.mono (unhide hB).size)); replace ha := hide (Rd.grow (unhide ha) bz1); replace hb := hide (Rd.grow (unhide hb) bz1); replace kf := hide (Blk.below (unhide kf) bz1 (unhide kf).lt); clear p0 p1 p2 p3 p4 p5; obtain ⟨p0, p1, p2, p3, p4, p5⟩ := bk6 (unhide kf); clear bz1)
        | fail)
      all_goals go_ret
      all_goals exact ⟨rfl, unhide hB⟩
    · have d1 : ¬ (200 : Int) < (f.nm.length : Int) := by omega
      have sf : SmF f := ⟨by omega, iF.1⟩
      clear n1
      by_cases n2 : 9000 < b.length
      · have d2 : (9000 : Int) < (b.length : Int) := by omega
        by_cases n3 : b.length ≤ 65536
        · have d3 : (b.length : Int) ≤ 65536 := by omega
          clear ia iF sa ua sf n2 n3 hb0
          go_enter Try.func3, Try.ntmps3
          go_upto_region 1 with fail
          generalize w.alloc (.cells #[.string (bz f.nm), .float .f64 f.rk, .int .u32 f.sm, .int .i64 f.bk, .int .i64 f.fr, .int .i64 f.ln] 26) = W0 at *
          obtain ⟨p0, p1, p2, p3, p4, p5⟩ := bk6 (unhide kf)
          have tk0 : True := trivial
          have tk1 : True := trivial
          go_wp2_with (first
            | (have _t := tk0; clear tk0 _t; go_at_call 8; refine (unhide hL _).mono ?_; rintro ez wz0 ⟨rfl, bz0⟩; have szz0 := bz0.size; replace hB := hide ((unhide hB).trans (bz0.mono (unhide hB).size)); replace ha := hide (Rd.grow (unhide ha) bz0); replace hb := hide (Rd.grow (unhide hb) bz0); replace kf := hide (Blk.below (unhide kf) bz0 (unhide kf).lt); clear p0 p1 p2 p3 p4 p5; obtain ⟨p0, p1, p2, p3, p4, p5⟩ := bk6 (unhide kf); clear bz0)
            | (have _t := tk1; clear tk1 _t; go_at_call 9; refine (unhide hFa _ (unhide ha)).mono ?_; rintro ez wz1 ⟨rfl, bz1⟩; have szz1 := bz1.size; replace hB := hide ((unhide hB).trans (bz1.mono (unhide hB).size)); replace ha := hide (Rd.grow (unhide ha) bz1); replace hb := hide (Rd.grow (unhide hb) bz1); replace kf := hide (Blk.below (unhide kf) bz1 (unhide kf).lt); clear p0 p1 p2 p3 p4 p5; obtain ⟨p0, p1, p2, p3, p4, p5⟩ := bk6 (unhide kf); clear bz1)
            | fail)
          all_goals go_ret
          all_goals exact ⟨rfl, unhide hB⟩
        · have d3 : ¬ (b.length : Int) ≤ 65536 := by omega
          by_cases n4 : 70000 < b.length
          · have d4 : (70000 : Int) < (b.length : Int) := by omega
            clear ia iF sa ua sf n2 n3 n4 hb0
            go_enter Try.func3, Try.ntmps3
            go_upto_region 1 with fail
            generalize w.alloc (.cells #[.string (bz f.nm), .float .f64 f.rk, .int .u32 f.sm, .int .i64 f.bk, .int .i64 f.fr, .int .i64 f.ln] 26) = W0 at *
            obtain ⟨p0, p1, p2, p3, p4, p5⟩ := bk6 (unhide kf)
            have tk0 : True := trivial
            have tk1 : True := trivial
            go_wp2_with (first
              | (have _t := tk0; clear tk0 _t; go_at_call 8; refine (unhide hL _).mono ?_; rintro ez wz0 ⟨rfl, bz0⟩; have szz0 := bz0.size; replace hB := hide ((unhide hB).trans (bz0.mono (unhide hB).size)); replace ha := hide (Rd.grow (unhide ha) bz0); replace hb := hide (Rd.grow (unhide hb) bz0); replace kf := hide (Blk.below (unhide kf) bz0 (unhide kf).lt); clear p0 p1 p2 p3 p4 p5; obtain ⟨p0, p1, p2, p3, p4, p5⟩ := bk6 (unhide kf); clear bz0)
              | (have _t := tk1; clear tk1 _t; go_at_call 9; refine (unhide hFa _ (unhide ha)).mono ?_; rintro ez wz1 ⟨rfl, bz1⟩; have szz1 := bz1.size; replace hB := hide ((unhide hB).trans (bz1.mono (unhide hB).size)); replace ha := hide (Rd.grow (unhide ha) bz1); replace hb := hide (Rd.grow (unhide hb) bz1); replace kf := hide (Blk.below (unhide kf) bz1 (unhide kf).lt); clear p0 p1 p2 p3 p4 p5; obtain ⟨p0, p1, p2, p3, p4, p5⟩ := bk6 (unhide kf); clear bz1)
              | fail)
            all_goals go_ret
            all_goals exact ⟨rfl, unhide hB⟩
          · have d4 : ¬ (70000 : Int) < (b.length : Int) := by omega
            clear n2 n3 n4
            have hYa := fun W (h : Fls 0 W.heap.size W va l) => cBytes va l W h sa ua
            have hYr := fun W (h : Fls 0 W.heap.size W va l) => cRefBytes va l W h sa ua
            have hOf := fun W => cOne f W sf iF.2
            have hOr := fun W => cRefOne f W sf iF.2
            have hNa := fun W (h : Fls 0 W.heap.size W va l) => cLong va l W h sa
            have hNr := fun W (h : Fls 0 W.heap.size W va l) => cRefLong va l W h sa ua
            have hRa := fun W (h : Bs 0 W.heap.size W (.slice Ab b.length cb) b) => cFrom (.slice Ab b.length cb) b W h
            have hRr := fun W (h : Bs 0 W.heap.size W (.slice Ab b.length cb) b) => cRefFrom (.slice Ab b.length cb) b W h
            have hss := (from_sm b).1
            have hsl := from_len b
            generalize bytesL l = x at *
            generalize errB (tabB l) = ex at *
            generalize oneL f = p at *
            generalize errB (okF f) = ep at *
            generalize fromL b = s at *
            generalize fromE b = es at *
            have hSx : ∀ (v v' : Value) (z : List UInt8) W (hx : Bs 0 W.heap.size W v z) (hy : Bs 0 W.heap.size W v' z), Calls Try.prog 18 #[v, v'] W fun e w' => e = .returned (.bool true) ∧ Below W.heap.size W w' := fun v v' z W hx hy => by
              have := cSameB W v v' z z hx hy
              rw [show (z == z) = true by simp] at this
              exact this
            have hSs : ∀ (v v' : Value) W (hx : Fls 0 W.heap.size W v s) (hy : Fls 0 W.heap.size W v' s), Calls Try.prog 19 #[v, v'] W fun e w' => e = .returned (.bool true) ∧ Below W.heap.size W w' := fun v v' W hx hy => by
              have := cRefSame W v v' s s hx hy hss hss
              rw [same_self] at this
              exact this
            replace hYa := hide hYa; replace hYr := hide hYr; replace hOf := hide hOf; replace hOr := hide hOr; replace hNa := hide hNa; replace hNr := hide hNr; replace hRa := hide hRa; replace hRr := hide hRr; replace hSx := hide hSx; replace hSs := hide hSs
            clear hss ia iF sa ua sf
            go_enter Try.func3, Try.ntmps3
            go_upto_region 1 with fail
            generalize w.alloc (.cells #[.string (bz f.nm), .float .f64 f.rk, .int .u32 f.sm, .int .i64 f.bk, .int .i64 f.fr, .int .i64 f.ln] 26) = W0 at *
            obtain ⟨p0, p1, p2, p3, p4, p5⟩ := bk6 (unhide kf)
            have tk0 : True := trivial
            have tk1 : True := trivial
            have tk2 : True := trivial
            have tk3 : True := trivial
            have tk4 : True := trivial
            have tk5 : True := trivial
            have tk6 : True := trivial
            have tk7 : True := trivial
            have tk8 : True := trivial
            have tk9 : True := trivial
            have tk10 : True := trivial
            have tk11 : True := trivial
            have tk12 : True := trivial
            go_wp2_with (first
              | (have _t := tk0; clear tk0 _t; go_at_call 8; refine (unhide hL _).mono ?_; rintro ez wz0 ⟨rfl, bz0⟩; have szz0 := bz0.size; replace hB := hide ((unhide hB).trans (bz0.mono (unhide hB).size)); replace ha := hide (Rd.grow (unhide ha) bz0); replace hb := hide (Rd.grow (unhide hb) bz0); replace kf := hide (Blk.below (unhide kf) bz0 (unhide kf).lt); clear p0 p1 p2 p3 p4 p5; obtain ⟨p0, p1, p2, p3, p4, p5⟩ := bk6 (unhide kf); clear bz0)
              | (have _t := tk1; clear tk1 _t; go_at_call 9; refine (unhide hFa _ (unhide ha)).mono ?_; rintro ez wz1 ⟨rfl, bz1⟩; have szz1 := bz1.size; replace hB := hide ((unhide hB).trans (bz1.mono (unhide hB).size)); replace ha := hide (Rd.grow (unhide ha) bz1); replace hb := hide (Rd.grow (unhide hb) bz1); replace kf := hide (Blk.below (unhide kf) bz1 (unhide kf).lt); clear p0 p1 p2 p3 p4 p5; obtain ⟨p0, p1, p2, p3, p4, p5⟩ := bk6 (unhide kf); clear bz1; have cv := Bs.convert (unhide hb))
              | (have _t := tk2; clear tk2 _t; go_at_call 10; refine (unhide hYa _ (unhide ha)).mono ?_; rintro ez wz2 ⟨A1, c1, rfl, og1, bz2⟩; have szz2 := bz2.size; replace hB := hide ((unhide hB).trans (bz2.mono (unhide hB).size)); replace ha := hide (Rd.grow (unhide ha) bz2); replace hb := hide (Rd.grow (unhide hb) bz2); replace kf := hide (Blk.below (unhide kf) bz2 (unhide kf).lt); clear p0 p1 p2 p3 p4 p5; obtain ⟨p0, p1, p2, p3, p4, p5⟩ := bk6 (unhide kf); (have g1 := hide og1); clear og1; clear bz2; clear cv)
              | (have _t := tk3; clear tk3 _t; go_at_call 11; refine (unhide hYr _ (unhide ha)).mono ?_; rintro ez wz3 ⟨A2, c2, rfl, og2, bz3⟩; have szz3 := bz3.size; replace hB := hide ((unhide hB).trans (bz3.mono (unhide hB).size)); replace ha := hide (Rd.grow (unhide ha) bz3); replace hb := hide (Rd.grow (unhide hb) bz3); replace kf := hide (Blk.below (unhide kf) bz3 (unhide kf).lt); replace g1 := hide (Rd.grow (unhide g1) bz3); clear p0 p1 p2 p3 p4 p5; obtain ⟨p0, p1, p2, p3, p4, p5⟩ := bk6 (unhide kf); (have g2 := hide og2); clear og2; clear bz3)
              | (have _t := tk4; clear tk4 _t; go_at_call 12; refine (unhide hOf _).mono ?_; rintro ez wz4 ⟨A3, c3, rfl, og3, bz4⟩; have szz4 := bz4.size; replace hB := hide ((unhide hB).trans (bz4.mono (unhide hB).size)); replace ha := hide (Rd.grow (unhide ha) bz4); replace hb := hide (Rd.grow (unhide hb) bz4); replace kf := hide (Blk.below (unhide kf) bz4 (unhide kf).lt); replace g1 := hide (Rd.grow (unhide g1) bz4); replace g2 := hide (Rd.grow (unhide g2) bz4); clear p0 p1 p2 p3 p4 p5; obtain ⟨p0, p1, p2, p3, p4, p5⟩ := bk6 (unhide kf); (have g3 := hide og3); clear og3; clear bz4)
              | (have _t := tk5; clear tk5 _t; go_at_call 13; refine (unhide hOr _).mono ?_; rintro ez wz5 ⟨A4, c4, rfl, og4, bz5⟩; have szz5 := bz5.size; replace hB := hide ((unhide hB).trans (bz5.mono (unhide hB).size)); replace ha := hide (Rd.grow (unhide ha) bz5); replace hb := hide (Rd.grow (unhide hb) bz5); replace kf := hide (Blk.below (unhide kf) bz5 (unhide kf).lt); replace g1 := hide (Rd.grow (unhide g1) bz5); replace g2 := hide (Rd.grow (unhide g2) bz5); replace g3 := hide (Rd.grow (unhide g3) bz5); clear p0 p1 p2 p3 p4 p5; obtain ⟨p0, p1, p2, p3, p4, p5⟩ := bk6 (unhide kf); (have g4 := hide og4); clear og4; clear bz5)
              | (have _t := tk6; clear tk6 _t; go_at_call 14; refine (unhide hNa _ (unhide ha)).mono ?_; rintro ez wz6 ⟨rfl, bz6⟩; have szz6 := bz6.size; replace hB := hide ((unhide hB).trans (bz6.mono (unhide hB).size)); replace ha := hide (Rd.grow (unhide ha) bz6); replace hb := hide (Rd.grow (unhide hb) bz6); replace kf := hide (Blk.below (unhide kf) bz6 (unhide kf).lt); replace g1 := hide (Rd.grow (unhide g1) bz6); replace g2 := hide (Rd.grow (unhide g2) bz6); replace g3 := hide (Rd.grow (unhide g3) bz6); replace g4 := hide (Rd.grow (unhide g4) bz6); clear p0 p1 p2 p3 p4 p5; obtain ⟨p0, p1, p2, p3, p4, p5⟩ := bk6 (unhide kf); clear bz6)
              | (have _t := tk7; clear tk7 _t; go_at_call 15; refine (unhide hNr _ (unhide ha)).mono ?_; rintro ez wz7 ⟨rfl, bz7⟩; have szz7 := bz7.size; replace hB := hide ((unhide hB).trans (bz7.mono (unhide hB).size)); replace ha := hide (Rd.grow (unhide ha) bz7); replace hb := hide (Rd.grow (unhide hb) bz7); replace kf := hide (Blk.below (unhide kf) bz7 (unhide kf).lt); replace g1 := hide (Rd.grow (unhide g1) bz7); replace g2 := hide (Rd.grow (unhide g2) bz7); replace g3 := hide (Rd.grow (unhide g3) bz7); replace g4 := hide (Rd.grow (unhide g4) bz7); clear p0 p1 p2 p3 p4 p5; obtain ⟨p0, p1, p2, p3, p4, p5⟩ := bk6 (unhide kf); clear bz7)
              | (have _t := tk8; clear tk8 _t; have hbs := (unhide hB).size; go_at_call 16; refine (unhide hRa _ (unhide hb)).mono ?_; rintro ez wz8 ⟨A5, c5, rfl, oos, bz8⟩; have szz8 := bz8.size; replace hB := hide ((unhide hB).trans (bz8.mono (unhide hB).size)); replace ha := hide (Rd.grow (unhide ha) bz8); replace hb := hide (Rd.grow (unhide hb) bz8); replace kf := hide (Blk.below (unhide kf) bz8 (unhide kf).lt); replace g1 := hide (Rd.grow (unhide g1) bz8); replace g2 := hide (Rd.grow (unhide g2) bz8); replace g3 := hide (Rd.grow (unhide g3) bz8); replace g4 := hide (Rd.grow (unhide g4) bz8); clear p0 p1 p2 p3 p4 p5; obtain ⟨p0, p1, p2, p3, p4, p5⟩ := bk6 (unhide kf); (have os := hide (ownsRow_mono (base' := w.heap.size) oos hbs)); clear hbs; clear oos; clear bz8)
              | (have _t := tk9; clear tk9 _t; go_at_call 17; refine (unhide hRr _ (unhide hb)).mono ?_; rintro ez wz9 ⟨A6, c6, rfl, og6, bz9⟩; have szz9 := bz9.size; replace hB := hide ((unhide hB).trans (bz9.mono (unhide hB).size)); replace ha := hide (Rd.grow (unhide ha) bz9); replace hb := hide (Rd.grow (unhide hb) bz9); replace kf := hide (Blk.below (unhide kf) bz9 (unhide kf).lt); replace g1 := hide (Rd.grow (unhide g1) bz9); replace g2 := hide (Rd.grow (unhide g2) bz9); replace g3 := hide (Rd.grow (unhide g3) bz9); replace g4 := hide (Rd.grow (unhide g4) bz9); replace os := hide (own_below (unhide os) bz9 (Nat.le_refl _)); clear p0 p1 p2 p3 p4 p5; obtain ⟨p0, p1, p2, p3, p4, p5⟩ := bk6 (unhide kf); (have g6 := hide (own_fls og6)); clear og6; clear bz9)
              | (have _t := tk10; clear tk10 _t; go_at_call 18; refine (unhide hSx _ _ _ _ (unhide g1) (unhide g2)).mono ?_; rintro ez wz10 ⟨rfl, bz10⟩; have szz10 := bz10.size; replace hB := hide ((unhide hB).trans (bz10.mono (unhide hB).size)); replace ha := hide (Rd.grow (unhide ha) bz10); replace hb := hide (Rd.grow (unhide hb) bz10); replace kf := hide (Blk.below (unhide kf) bz10 (unhide kf).lt); replace g1 := hide (Rd.grow (unhide g1) bz10); replace g2 := hide (Rd.grow (unhide g2) bz10); replace g3 := hide (Rd.grow (unhide g3) bz10); replace g4 := hide (Rd.grow (unhide g4) bz10); replace os := hide (own_below (unhide os) bz10 (Nat.le_refl _)); replace g6 := hide (Rd.grow (unhide g6) bz10); clear p0 p1 p2 p3 p4 p5; obtain ⟨p0, p1, p2, p3, p4, p5⟩ := bk6 (unhide kf); clear bz10)
              | (have _t := tk11; clear tk11 _t; go_at_call 18; refine (unhide hSx _ _ _ _ (unhide g3) (unhide g4)).mono ?_; rintro ez wz11 ⟨rfl, bz11⟩; have szz11 := bz11.size; replace hB := hide ((unhide hB).trans (bz11.mono (unhide hB).size)); replace ha := hide (Rd.grow (unhide ha) bz11); replace hb := hide (Rd.grow (unhide hb) bz11); replace kf := hide (Blk.below (unhide kf) bz11 (unhide kf).lt); replace g1 := hide (Rd.grow (unhide g1) bz11); replace g2 := hide (Rd.grow (unhide g2) bz11); replace g3 := hide (Rd.grow (unhide g3) bz11); replace g4 := hide (Rd.grow (unhide g4) bz11); replace os := hide (own_below (unhide os) bz11 (Nat.le_refl _)); replace g6 := hide (Rd.grow (unhide g6) bz11); clear p0 p1 p2 p3 p4 p5; obtain ⟨p0, p1, p2, p3, p4, p5⟩ := bk6 (unhide kf); clear bz11)
              | (have _t := tk12; clear tk12 _t; go_at_call 19; refine (unhide hSs _ _ _ (own_fls (unhide os)) (unhide g6)).mono ?_; rintro ez wz12 ⟨rfl, bz12⟩; have szz12 := bz12.size; replace hB := hide ((unhide hB).trans (bz12.mono (unhide hB).size)); replace ha := hide (Rd.grow (unhide ha) bz12); replace hb := hide (Rd.grow (unhide hb) bz12); replace kf := hide (Blk.below (unhide kf) bz12 (unhide kf).lt); replace g1 := hide (Rd.grow (unhide g1) bz12); replace g2 := hide (Rd.grow (unhide g2) bz12); replace g3 := hide (Rd.grow (unhide g3) bz12); replace g4 := hide (Rd.grow (unhide g4) bz12); replace os := hide (own_below (unhide os) bz12 (Nat.le_refl _)); replace g6 := hide (Rd.grow (unhide g6) bz12); clear p0 p1 p2 p3 p4 p5; obtain ⟨p0, p1, p2, p3, p4, p5⟩ := bk6 (unhide kf); clear bz12)
              | fail)
            have hI := hide (inc_of_own (l := s) (unhide os))
            have hWs := (unhide hB).size
            clear os g1 g2 g3 g4 g6 ha hb kf p0 p1 p2 p3 p4 p5
            generalize s.length = n at *
            go_loopw [26, 135] (fun _ i wr => ∃ k : Nat, k ≤ n ∧ i = .int .i64 k ∧ Hid (Inc A5 n w.heap.size wr) ∧ Hid (ButA A5 wz12 wr)) (fun _ i _ => n - (intOf i).toNat)
            case atStart => exact ⟨0, Nat.zero_le _, rfl, hI, hide (ButA.refl _ _)⟩
            case round =>
              obtain ⟨k, hk, rfl, hI2, hU⟩ := hrel
              by_cases hlt : k < n
              · obtain ⟨g, cur, rfl, hq, hz⟩ := (unhide hI2).2 (by omega)
                obtain ⟨z, hz'⟩ := hz k hlt
                have c5 := (hq.cell (k * 6 + 5)).trans hz'
                have fz := hq.frozen (k * 6 + 5)
                clear hq hz hz'
                go_wp2_with (fail)
                go_roundw
                case rel => exact ⟨k + 1, by omega, by go_num, hide ((unhide hI2).set hlt _), hide ((unhide hU).set _ _)⟩
                case measure => simp [intOf] <;> omega
              · obtain rfl : k = n := by omega
                have q := (unhide hU).below (unhide hI2).1 hWs
                have hB9 := (unhide hB).trans q
                have cv := Bs.convert (Rd.below (unhide hb0) hB9 (Nat.le_refl _))
                replace hB9 := hide hB9
                clear q hI2 hU
                go_wp2_with (fail)
                all_goals go_ret
                all_goals exact ⟨rfl, unhide hB9⟩
      · have d2 : ¬ (9000 : Int) < (b.length : Int) := by omega
        have d4 : ¬ (70000 : Int) < (b.length : Int) := by omega
        clear n2
        have hYa := fun W (h : Fls 0 W.heap.size W va l) => cBytes va l W h sa ua
        have hYr := fun W (h : Fls 0 W.heap.size W va l) => cRefBytes va l W h sa ua
        have hOf := fun W => cOne f W sf iF.2
        have hOr := fun W => cRefOne f W sf iF.2
        have hNa := fun W (h : Fls 0 W.heap.size W va l) => cLong va l W h sa
        have hNr := fun W (h : Fls 0 W.heap.size W va l) => cRefLong va l W h sa ua
        have hRa := fun W (h : Bs 0 W.heap.size W (.slice Ab b.length cb) b) => cFrom (.slice Ab b.length cb) b W h
        have hRr := fun W (h : Bs 0 W.heap.size W (.slice Ab b.length cb) b) => cRefFrom (.slice Ab b.length cb) b W h
        have hss := (from_sm b).1
        have hsl := from_len b
        generalize bytesL l = x at *
        generalize errB (tabB l) = ex at *
        generalize oneL f = p at *
        generalize errB (okF f) = ep at *
        generalize fromL b = s at *
        generalize fromE b = es at *
        have hSx : ∀ (v v' : Value) (z : List UInt8) W (hx : Bs 0 W.heap.size W v z) (hy : Bs 0 W.heap.size W v' z), Calls Try.prog 18 #[v, v'] W fun e w' => e = .returned (.bool true) ∧ Below W.heap.size W w' := fun v v' z W hx hy => by
          have := cSameB W v v' z z hx hy
          rw [show (z == z) = true by simp] at this
          exact this
        have hSs : ∀ (v v' : Value) W (hx : Fls 0 W.heap.size W v s) (hy : Fls 0 W.heap.size W v' s), Calls Try.prog 19 #[v, v'] W fun e w' => e = .returned (.bool true) ∧ Below W.heap.size W w' := fun v v' W hx hy => by
          have := cRefSame W v v' s s hx hy hss hss
          rw [same_self] at this
          exact this
        replace hYa := hide hYa; replace hYr := hide hYr; replace hOf := hide hOf; replace hOr := hide hOr; replace hNa := hide hNa; replace hNr := hide hNr; replace hRa := hide hRa; replace hRr := hide hRr; replace hSx := hide hSx; replace hSs := hide hSs
        clear hss ia iF sa ua sf
        go_enter Try.func3, Try.ntmps3
        go_upto_region 1 with fail
        generalize w.alloc (.cells #[.string (bz f.nm), .float .f64 f.rk, .int .u32 f.sm, .int .i64 f.bk, .int .i64 f.fr, .int .i64 f.ln] 26) = W0 at *
        obtain ⟨p0, p1, p2, p3, p4, p5⟩ := bk6 (unhide kf)
        have tk0 : True := trivial
        have tk1 : True := trivial
        have tk2 : True := trivial
        have tk3 : True := trivial
        have tk4 : True := trivial
        have tk5 : True := trivial
        have tk6 : True := trivial
        have tk7 : True := trivial
        have tk8 : True := trivial
        have tk9 : True := trivial
        have tk10 : True := trivial
        have tk11 : True := trivial
        have tk12 : True := trivial
        go_wp2_with (first
          | (have _t := tk0; clear tk0 _t; go_at_call 8; refine (unhide hL _).mono ?_; rintro ez wz0 ⟨rfl, bz0⟩; have szz0 := bz0.size; replace hB := hide ((unhide hB).trans (bz0.mono (unhide hB).size)); replace ha := hide (Rd.grow (unhide ha) bz0); replace hb := hide (Rd.grow (unhide hb) bz0); replace kf := hide (Blk.below (unhide kf) bz0 (unhide kf).lt); clear p0 p1 p2 p3 p4 p5; obtain ⟨p0, p1, p2, p3, p4, p5⟩ := bk6 (unhide kf); clear bz0)
          | (have _t := tk1; clear tk1 _t; go_at_call 9; refine (unhide hFa _ (unhide ha)).mono ?_; rintro ez wz1 ⟨rfl, bz1⟩; have szz1 := bz1.size; replace hB := hide ((unhide hB).trans (bz1.mono (unhide hB).size)); replace ha := hide (Rd.grow (unhide ha) bz1); replace hb := hide (Rd.grow (unhide hb) bz1); replace kf := hide (Blk.below (unhide kf) bz1 (unhide kf).lt); clear p0 p1 p2 p3 p4 p5; obtain ⟨p0, p1, p2, p3, p4, p5⟩ := bk6 (unhide kf); clear bz1; have cv := Bs.convert (unhide hb))
          | (have _t := tk2; clear tk2 _t; go_at_call 10; refine (unhide hYa _ (unhide ha)).mono ?_; rintro ez wz2 ⟨A1, c1, rfl, og1, bz2⟩; have szz2 := bz2.size; replace hB := hide ((unhide hB).trans (bz2.mono (unhide hB).size)); replace ha := hide (Rd.grow (unhide ha) bz2); replace hb := hide (Rd.grow (unhide hb) bz2); replace kf := hide (Blk.below (unhide kf) bz2 (unhide kf).lt); clear p0 p1 p2 p3 p4 p5; obtain ⟨p0, p1, p2, p3, p4, p5⟩ := bk6 (unhide kf); (have g1 := hide og1); clear og1; clear bz2; clear cv)
          | (have _t := tk3; clear tk3 _t; go_at_call 11; refine (unhide hYr _ (unhide ha)).mono ?_; rintro ez wz3 ⟨A2, c2, rfl, og2, bz3⟩; have szz3 := bz3.size; replace hB := hide ((unhide hB).trans (bz3.mono (unhide hB).size)); replace ha := hide (Rd.grow (unhide ha) bz3); replace hb := hide (Rd.grow (unhide hb) bz3); replace kf := hide (Blk.below (unhide kf) bz3 (unhide kf).lt); replace g1 := hide (Rd.grow (unhide g1) bz3); clear p0 p1 p2 p3 p4 p5; obtain ⟨p0, p1, p2, p3, p4, p5⟩ := bk6 (unhide kf); (have g2 := hide og2); clear og2; clear bz3)
          | (have _t := tk4; clear tk4 _t; go_at_call 12; refine (unhide hOf _).mono ?_; rintro ez wz4 ⟨A3, c3, rfl, og3, bz4⟩; have szz4 := bz4.size; replace hB := hide ((unhide hB).trans (bz4.mono (unhide hB).size)); replace ha := hide (Rd.grow (unhide ha) bz4); replace hb := hide (Rd.grow (unhide hb) bz4); replace kf := hide (Blk.below (unhide kf) bz4 (unhide kf).lt); replace g1 := hide (Rd.grow (unhide g1) bz4); replace g2 := hide (Rd.grow (unhide g2) bz4); clear p0 p1 p2 p3 p4 p5; obtain ⟨p0, p1, p2, p3, p4, p5⟩ := bk6 (unhide kf); (have g3 := hide og3); clear og3; clear bz4)
          | (have _t := tk5; clear tk5 _t; go_at_call 13; refine (unhide hOr _).mono ?_; rintro ez wz5 ⟨A4, c4, rfl, og4, bz5⟩; have szz5 := bz5.size; replace hB := hide ((unhide hB).trans (bz5.mono (unhide hB).size)); replace ha := hide (Rd.grow (unhide ha) bz5); replace hb := hide (Rd.grow (unhide hb) bz5); replace kf := hide (Blk.below (unhide kf) bz5 (unhide kf).lt); replace g1 := hide (Rd.grow (unhide g1) bz5); replace g2 := hide (Rd.grow (unhide g2) bz5); replace g3 := hide (Rd.grow (unhide g3) bz5); clear p0 p1 p2 p3 p4 p5; obtain ⟨p0, p1, p2, p3, p4, p5⟩ := bk6 (unhide kf); (have g4 := hide og4); clear og4; clear bz5)
          | (have _t := tk6; clear tk6 _t; go_at_call 14; refine (unhide hNa _ (unhide ha)).mono ?_; rintro ez wz6 ⟨rfl, bz6⟩; have szz6 := bz6.size; replace hB := hide ((unhide hB).trans (bz6.mono (unhide hB).size)); replace ha := hide (Rd.grow (unhide ha) bz6); replace hb := hide (Rd.grow (unhide hb) bz6); replace kf := hide (Blk.below (unhide kf) bz6 (unhide kf).lt); replace g1 := hide (Rd.grow (unhide g1) bz6); replace g2 := hide (Rd.grow (unhide g2) bz6); replace g3 := hide (Rd.grow (unhide g3) bz6); replace g4 := hide (Rd.grow (unhide g4) bz6); clear p0 p1 p2 p3 p4 p5; obtain ⟨p0, p1, p2, p3, p4, p5⟩ := bk6 (unhide kf); clear bz6)
          | (have _t := tk7; clear tk7 _t; go_at_call 15; refine (unhide hNr _ (unhide ha)).mono ?_; rintro ez wz7 ⟨rfl, bz7⟩; have szz7 := bz7.size; replace hB := hide ((unhide hB).trans (bz7.mono (unhide hB).size)); replace ha := hide (Rd.grow (unhide ha) bz7); replace hb := hide (Rd.grow (unhide hb) bz7); replace kf := hide (Blk.below (unhide kf) bz7 (unhide kf).lt); replace g1 := hide (Rd.grow (unhide g1) bz7); replace g2 := hide (Rd.grow (unhide g2) bz7); replace g3 := hide (Rd.grow (unhide g3) bz7); replace g4 := hide (Rd.grow (unhide g4) bz7); clear p0 p1 p2 p3 p4 p5; obtain ⟨p0, p1, p2, p3, p4, p5⟩ := bk6 (unhide kf); clear bz7)
          | (have _t := tk8; clear tk8 _t; have hbs := (unhide hB).size; go_at_call 16; refine (unhide hRa _ (unhide hb)).mono ?_; rintro ez wz8 ⟨A5, c5, rfl, oos, bz8⟩; have szz8 := bz8.size; replace hB := hide ((unhide hB).trans (bz8.mono (unhide hB).size)); replace ha := hide (Rd.grow (unhide ha) bz8); replace hb := hide (Rd.grow (unhide hb) bz8); replace kf := hide (Blk.below (unhide kf) bz8 (unhide kf).lt); replace g1 := hide (Rd.grow (unhide g1) bz8); replace g2 := hide (Rd.grow (unhide g2) bz8); replace g3 := hide (Rd.grow (unhide g3) bz8); replace g4 := hide (Rd.grow (unhide g4) bz8); clear p0 p1 p2 p3 p4 p5; obtain ⟨p0, p1, p2, p3, p4, p5⟩ := bk6 (unhide kf); (have os := hide (ownsRow_mono (base' := w.heap.size) oos hbs)); clear hbs; clear oos; clear bz8)
          | (have _t := tk9; clear tk9 _t; go_at_call 17; refine (unhide hRr _ (unhide hb)).mono ?_; rintro ez wz9 ⟨A6, c6, rfl, og6, bz9⟩; have szz9 := bz9.size; replace hB := hide ((unhide hB).trans (bz9.mono (unhide hB).size)); replace ha := hide (Rd.grow (unhide ha) bz9); replace hb := hide (Rd.grow (unhide hb) bz9); replace kf := hide (Blk.below (unhide kf) bz9 (unhide kf).lt); replace g1 := hide (Rd.grow (unhide g1) bz9); replace g2 := hide (Rd.grow (unhide g2) bz9); replace g3 := hide (Rd.grow (unhide g3) bz9); replace g4 := hide (Rd.grow (unhide g4) bz9); replace os := hide (own_below (unhide os) bz9 (Nat.le_refl _)); clear p0 p1 p2 p3 p4 p5; obtain ⟨p0, p1, p2, p3, p4, p5⟩ := bk6 (unhide kf); (have g6 := hide (own_fls og6)); clear og6; clear bz9)
          | (have _t := tk10; clear tk10 _t; go_at_call 18; refine (unhide hSx _ _ _ _ (unhide g1) (unhide g2)).mono ?_; rintro ez wz10 ⟨rfl, bz10⟩; have szz10 := bz10.size; replace hB := hide ((unhide hB).trans (bz10.mono (unhide hB).size)); replace ha := hide (Rd.grow (unhide ha) bz10); replace hb := hide (Rd.grow (unhide hb) bz10); replace kf := hide (Blk.below (unhide kf) bz10 (unhide kf).lt); replace g1 := hide (Rd.grow (unhide g1) bz10); replace g2 := hide (Rd.grow (unhide g2) bz10); replace g3 := hide (Rd.grow (unhide g3) bz10); replace g4 := hide (Rd.grow (unhide g4) bz10); replace os := hide (own_below (unhide os) bz10 (Nat.le_refl _)); replace g6 := hide (Rd.grow (unhide g6) bz10); clear p0 p1 p2 p3 p4 p5; obtain ⟨p0, p1, p2, p3, p4, p5⟩ := bk6 (unhide kf); clear bz10)
          | (have _t := tk11; clear tk11 _t; go_at_call 18; refine (unhide hSx _ _ _ _ (unhide g3) (unhide g4)).mono ?_; rintro ez wz11 ⟨rfl, bz11⟩; have szz11 := bz11.size; replace hB := hide ((unhide hB).trans (bz11.mono (unhide hB).size)); replace ha := hide (Rd.grow (unhide ha) bz11); replace hb := hide (Rd.grow (unhide hb) bz11); replace kf := hide (Blk.below (unhide kf) bz11 (unhide kf).lt); replace g1 := hide (Rd.grow (unhide g1) bz11); replace g2 := hide (Rd.grow (unhide g2) bz11); replace g3 := hide (Rd.grow (unhide g3) bz11); replace g4 := hide (Rd.grow (unhide g4) bz11); replace os := hide (own_below (unhide os) bz11 (Nat.le_refl _)); replace g6 := hide (Rd.grow (unhide g6) bz11); clear p0 p1 p2 p3 p4 p5; obtain ⟨p0, p1, p2, p3, p4, p5⟩ := bk6 (unhide kf); clear bz11)
          | (have _t := tk12; clear tk12 _t; go_at_call 19; refine (unhide hSs _ _ _ (own_fls (unhide os)) (unhide g6)).mono ?_; rintro ez wz12 ⟨rfl, bz12⟩; have szz12 := bz12.size; replace hB := hide ((unhide hB).trans (bz12.mono (unhide hB).size)); replace ha := hide (Rd.grow (unhide ha) bz12); replace hb := hide (Rd.grow (unhide hb) bz12); replace kf := hide (Blk.below (unhide kf) bz12 (unhide kf).lt); replace g1 := hide (Rd.grow (unhide g1) bz12); replace g2 := hide (Rd.grow (unhide g2) bz12); replace g3 := hide (Rd.grow (unhide g3) bz12); replace g4 := hide (Rd.grow (unhide g4) bz12); replace os := hide (own_below (unhide os) bz12 (Nat.le_refl _)); replace g6 := hide (Rd.grow (unhide g6) bz12); clear p0 p1 p2 p3 p4 p5; obtain ⟨p0, p1, p2, p3, p4, p5⟩ := bk6 (unhide kf); clear bz12)
          | fail)
        have hI := hide (inc_of_own (l := s) (unhide os))
        have hWs := (unhide hB).size
        clear os g1 g2 g3 g4 g6 ha hb kf p0 p1 p2 p3 p4 p5
        generalize s.length = n at *
        go_loopw [26, 135] (fun _ i wr => ∃ k : Nat, k ≤ n ∧ i = .int .i64 k ∧ Hid (Inc A5 n w.heap.size wr) ∧ Hid (ButA A5 wz12 wr)) (fun _ i _ => n - (intOf i).toNat)
        case atStart => exact ⟨0, Nat.zero_le _, rfl, hI, hide (ButA.refl _ _)⟩
        case round =>
          obtain ⟨k, hk, rfl, hI2, hU⟩ := hrel
          by_cases hlt : k < n
          · obtain ⟨g, cur, rfl, hq, hz⟩ := (unhide hI2).2 (by omega)
            obtain ⟨z, hz'⟩ := hz k hlt
            have c5 := (hq.cell (k * 6 + 5)).trans hz'
            have fz := hq.frozen (k * 6 + 5)
            clear hq hz hz'
            go_wp2_with (fail)
            go_roundw
            case rel => exact ⟨k + 1, by omega, by go_num, hide ((unhide hI2).set hlt _), hide ((unhide hU).set _ _)⟩
            case measure => simp [intOf] <;> omega
          · obtain rfl : k = n := by omega
            have q := (unhide hU).below (unhide hI2).1 hWs
            have hB9 := (unhide hB).trans q
            have cv := Bs.convert (Rd.below (unhide hb0) hB9 (Nat.le_refl _))
            replace hB9 := hide hB9
            clear q hI2 hU
            go_wp2_with (fail)
            all_goals go_ret
            all_goals exact ⟨rfl, unhide hB9⟩
end Go.Proofs.Ytnjepbehfioclaa
