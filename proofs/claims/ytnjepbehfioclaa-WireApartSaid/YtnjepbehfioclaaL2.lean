import Derived.Test.YtnjepbehfioclaaL1
namespace Go.Proofs.Ytnjepbehfioclaa
open Go.RowKit
attribute [local go_sem] bz_size bz_toList run_store_float
set_option maxRecDepth 100000

set_option maxHeartbeats 4000000 in
theorem WireApart_any (va vb : Value) (a b : List Fl) (f g : Fl) (w : World) (ha : Fls 0 w.heap.size w va a) (hb : Fls 0 w.heap.size w vb b) (ia : InL a) (ib : InL b) (iF : f.rk < 18446744073709551616 ∧ U32F f) (ig : g.rk < 18446744073709551616 ∧ U32F g) :
    Calls Try.prog 7 #[va, vb, (.agg #[.string (bz f.nm), .float .f64 f.rk, .int .u32 f.sm, .int .i64 f.bk, .int .i64 f.fr, .int .i64 f.ln]), (.agg #[.string (bz g.nm), .float .f64 g.rk, .int .u32 g.sm, .int .i64 g.bk, .int .i64 g.fr, .int .i64 g.ln])] w fun e w' => e = .returned (.bool true) ∧ Below w.heap.size w w' := by
  have hL := fun W => live_any W
  have hFa := fun W (h : Fls 0 W.heap.size W va a) => cFew va a W h
  have hFb := fun W (h : Fls 0 W.heap.size W vb b) => cFew vb b W h
  have hB : Below w.heap.size w ((w.alloc (.cells #[.string (bz f.nm), .float .f64 f.rk, .int .u32 f.sm, .int .i64 f.bk, .int .i64 f.fr, .int .i64 f.ln] 26)).alloc (.cells #[.string (bz g.nm), .float .f64 g.rk, .int .u32 g.sm, .int .i64 g.bk, .int .i64 g.fr, .int .i64 g.ln] 26)) := bl_alloc (bl_alloc (Below.refl _ _) _) _
  replace ha := hide (Rd.grow ha hB)
  replace hb := hide (Rd.grow hb hB)
  have kf : Hid (Blk ((w.alloc (.cells #[.string (bz f.nm), .float .f64 f.rk, .int .u32 f.sm, .int .i64 f.bk, .int .i64 f.fr, .int .i64 f.ln] 26)).alloc (.cells #[.string (bz g.nm), .float .f64 g.rk, .int .u32 g.sm, .int .i64 g.bk, .int .i64 g.fr, .int .i64 g.ln] 26)) w.heap.size 26 #[.string (bz f.nm), .float .f64 f.rk, .int .u32 f.sm, .int .i64 f.bk, .int .i64 f.fr, .int .i64 f.ln]) := hide ((Blk.new rfl).alloc _)
  have kg : Hid (Blk ((w.alloc (.cells #[.string (bz f.nm), .float .f64 f.rk, .int .u32 f.sm, .int .i64 f.bk, .int .i64 f.fr, .int .i64 f.ln] 26)).alloc (.cells #[.string (bz g.nm), .float .f64 g.rk, .int .u32 g.sm, .int .i64 g.bk, .int .i64 g.fr, .int .i64 g.ln] 26)) (w.heap.size + 1) 26 #[.string (bz g.nm), .float .f64 g.rk, .int .u32 g.sm, .int .i64 g.bk, .int .i64 g.fr, .int .i64 g.ln]) := hide (Blk.new (by simp only [World.size_alloc]))
  replace hL := hide hL; replace hB := hide hB
  cases fa : fewB a with
  | false =>
    rw [fa] at hFa
    replace hFa := hide hFa
    clear fa hFb ia ib iF ig
    go_enter Try.func7, Try.ntmps7
    go_upto_region 1 with fail
    generalize (w.alloc (.cells #[.string (bz f.nm), .float .f64 f.rk, .int .u32 f.sm, .int .i64 f.bk, .int .i64 f.fr, .int .i64 f.ln] 26)).alloc (.cells #[.string (bz g.nm), .float .f64 g.rk, .int .u32 g.sm, .int .i64 g.bk, .int .i64 g.fr, .int .i64 g.ln] 26) = W0 at *
    obtain ⟨p0, p1, p2, p3, p4, p5⟩ := bk6 (unhide kf)
    obtain ⟨q0, q1, q2, q3, q4, q5⟩ := bk6 (unhide kg)
    have tk0 : True := trivial
    have tk1 : True := trivial
    go_wp2_with (first
      | (have _t := tk0; clear tk0 _t; go_at_call 8; refine (unhide hL _).mono ?_; rintro ez wz0 ⟨rfl, bz0⟩; have szz0 := bz0.size; replace hB := hide ((unhide hB).trans (bz0.mono (unhide hB).size)); replace ha := hide (Rd.grow (unhide ha) bz0); replace hb := hide (Rd.grow (unhide hb) bz0); replace kf := hide (Blk.below (unhide kf) bz0 (unhide kf).lt); replace kg := hide (Blk.below (unhide kg) bz0 (unhide kg).lt); clear p0 p1 p2 p3 p4 p5; obtain ⟨p0, p1, p2, p3, p4, p5⟩ := bk6 (unhide kf); clear q0 q1 q2 q3 q4 q5; obtain ⟨q0, q1, q2, q3, q4, q5⟩ := bk6 (unhide kg); clear bz0)
      | (have _t := tk1; clear tk1 _t; go_at_call 9; refine (unhide hFa _ (unhide ha)).mono ?_; rintro ez wz1 ⟨rfl, bz1⟩; have szz1 := bz1.size; replace hB := hide ((unhide hB).trans (bz1.mono (unhide hB).size)); replace ha := hide (Rd.grow (unhide ha) bz1); replace hb := hide (Rd.grow (unhide hb) bz1); replace kf := hide (Blk.below (unhide kf) bz1 (unhide kf).lt); replace kg := hide (Blk.below (unhide kg) bz1 (unhide kg).lt); clear p0 p1 p2 p3 p4 p5; obtain ⟨p0, p1, p2, p3, p4, p5⟩ := bk6 (unhide kf); clear q0 q1 q2 q3 q4 q5; obtain ⟨q0, q1, q2, q3, q4, q5⟩ := bk6 (unhide kg); clear bz1)
      | fail)
    all_goals go_ret
    all_goals exact ⟨rfl, unhide hB⟩
  | true =>
    obtain ⟨sa, ua⟩ := small_few ia fa
    rw [fa] at hFa
    replace hFa := hide hFa
    cases fb : fewB b with
    | false =>
      rw [fb] at hFb
      replace hFb := hide hFb
      clear fa fb ia ib iF ig sa ua
      go_enter Try.func7, Try.ntmps7
      go_upto_region 1 with fail
      generalize (w.alloc (.cells #[.string (bz f.nm), .float .f64 f.rk, .int .u32 f.sm, .int .i64 f.bk, .int .i64 f.fr, .int .i64 f.ln] 26)).alloc (.cells #[.string (bz g.nm), .float .f64 g.rk, .int .u32 g.sm, .int .i64 g.bk, .int .i64 g.fr, .int .i64 g.ln] 26) = W0 at *
      obtain ⟨p0, p1, p2, p3, p4, p5⟩ := bk6 (unhide kf)
      obtain ⟨q0, q1, q2, q3, q4, q5⟩ := bk6 (unhide kg)
      have tk0 : True := trivial
      have tk1 : True := trivial
      have tk2 : True := trivial
      go_wp2_with (first
        | (have _t := tk0; clear tk0 _t; go_at_call 8; refine (unhide hL _).mono ?_; rintro ez wz0 ⟨rfl, bz0⟩; have szz0 := bz0.size; replace hB := hide ((unhide hB).trans (bz0.mono (unhide hB).size)); replace ha := hide (Rd.grow (unhide ha) bz0); replace hb := hide (Rd.grow (unhide hb) bz0); replace kf := hide (Blk.below (unhide kf) bz0 (unhide kf).lt); replace kg := hide (Blk.below (unhide kg) bz0 (unhide kg).lt); clear p0 p1 p2 p3 p4 p5; obtain ⟨p0, p1, p2, p3, p4, p5⟩ := bk6 (unhide kf); clear q0 q1 q2 q3 q4 q5; obtain ⟨q0, q1, q2, q3, q4, q5⟩ := bk6 (unhide kg); clear bz0)
        | (have _t := tk1; clear tk1 _t; go_at_call 9; refine (unhide hFa _ (unhide ha)).mono ?_; rintro ez wz1 ⟨rfl, bz1⟩; have szz1 := bz1.size; replace hB := hide ((unhide hB).trans (bz1.mono (unhide hB).size)); replace ha := hide (Rd.grow (unhide ha) bz1); replace hb := hide (Rd.grow (unhide hb) bz1); replace kf := hide (Blk.below (unhide kf) bz1 (unhide kf).lt); replace kg := hide (Blk.below (unhide kg) bz1 (unhide kg).lt); clear p0 p1 p2 p3 p4 p5; obtain ⟨p0, p1, p2, p3, p4, p5⟩ := bk6 (unhide kf); clear q0 q1 q2 q3 q4 q5; obtain ⟨q0, q1, q2, q3, q4, q5⟩ := bk6 (unhide kg); clear bz1)
        | (have _t := tk2; clear tk2 _t; go_at_call 9; refine (unhide hFb _ (unhide hb)).mono ?_; rintro ez wz2 ⟨rfl, bz2⟩; have szz2 := bz2.size; replace hB := hide ((unhide hB).trans (bz2.mono (unhide hB).size)); replace ha := hide (Rd.grow (unhide ha) bz2); replace hb := hide (Rd.grow (unhide hb) bz2); replace kf := hide (Blk.below (unhide kf) bz2 (unhide kf).lt); replace kg := hide (Blk.below (unhide kg) bz2 (unhide kg).lt); clear p0 p1 p2 p3 p4 p5; obtain ⟨p0, p1, p2, p3, p4, p5⟩ := bk6 (unhide kf); clear q0 q1 q2 q3 q4 q5; obtain ⟨q0, q1, q2, q3, q4, q5⟩ := bk6 (unhide kg); clear bz2)
        | fail)
      all_goals go_ret
      all_goals exact ⟨rfl, unhide hB⟩
    | true =>
      obtain ⟨sb, ub⟩ := small_few ib fb
      rw [fb] at hFb
      replace hFb := hide hFb
      clear fa fb
      by_cases n1 : 200 < f.nm.length
      · have d1 : (200 : Int) < (f.nm.length : Int) := by omega
        clear ia ib iF ig sa ua sb ub n1
        go_enter Try.func7, Try.ntmps7
        go_upto_region 1 with fail
        generalize (w.alloc (.cells #[.string (bz f.nm), .float .f64 f.rk, .int .u32 f.sm, .int .i64 f.bk, .int .i64 f.fr, .int .i64 f.ln] 26)).alloc (.cells #[.string (bz g.nm), .float .f64 g.rk, .int .u32 g.sm, .int .i64 g.bk, .int .i64 g.fr, .int .i64 g.ln] 26) = W0 at *
        obtain ⟨p0, p1, p2, p3, p4, p5⟩ := bk6 (unhide kf)
        obtain ⟨q0, q1, q2, q3, q4, q5⟩ := bk6 (unhide kg)
        have tk0 : True := trivial
        have tk1 : True := trivial
        have tk2 : True := trivial
        go_wp2_with (first
          | (have _t := tk0; clear tk0 _t; go_at_call 8; refine (unhide hL _).mono ?_; rintro ez wz0 ⟨rfl, bz0⟩; have szz0 := bz0.size; replace hB := hide ((unhide hB).trans (bz0.mono (unhide hB).size)); replace ha := hide (Rd.grow (unhide ha) bz0); replace hb := hide (Rd.grow (unhide hb) bz0); replace kf := hide (Blk.below (unhide kf) bz0 (unhide kf).lt); replace kg := hide (Blk.below (unhide kg) bz0 (unhide kg).lt); clear p0 p1 p2 p3 p4 p5; obtain ⟨p0, p1, p2, p3, p4, p5⟩ := bk6 (unhide kf); clear q0 q1 q2 q3 q4 q5; obtain ⟨q0, q1, q2, q3, q4, q5⟩ := bk6 (unhide kg); clear bz0)
          | (have _t := tk1; clear tk1 _t; go_at_call 9; refine (unhide hFa _ (unhide ha)).mono ?_; rintro ez wz1 ⟨rfl, bz1⟩; have szz1 := bz1.size; replace hB := hide ((unhide hB).trans (bz1.mono (unhide hB).size)); replace ha := hide (Rd.grow (unhide ha) bz1); replace hb := hide (Rd.grow (unhide hb) bz1); replace kf := hide (Blk.below (unhide kf) bz1 (unhide kf).lt); replace kg := hide (Blk.below (unhide kg) bz1 (unhide kg).lt); clear p0 p1 p2 p3 p4 p5; obtain ⟨p0, p1, p2, p3, p4, p5⟩ := bk6 (unhide kf); clear q0 q1 q2 q3 q4 q5; obtain ⟨q0, q1, q2, q3, q4, q5⟩ := bk6 (unhide kg); clear bz1)
          | (have _t := tk2; clear tk2 _t; go_at_call 9; refine (unhide hFb _ (unhide hb)).mono ?_; rintro ez wz2 ⟨rfl, bz2⟩; have szz2 := bz2.size; replace hB := hide ((unhide hB).trans (bz2.mono (unhide hB).size)); replace ha := hide (Rd.grow (unhide ha) bz2); replace hb := hide (Rd.grow (unhide hb) bz2); replace kf := hide (Blk.below (unhide kf) bz2 (unhide kf).lt); replace kg := hide (Blk.below (unhide kg) bz2 (unhide kg).lt); clear p0 p1 p2 p3 p4 p5; obtain ⟨p0, p1, p2, p3, p4, p5⟩ := bk6 (unhide kf); clear q0 q1 q2 q3 q4 q5; obtain ⟨q0, q1, q2, q3, q4, q5⟩ := bk6 (unhide kg); clear bz2)
          | fail)
        all_goals go_ret
        all_goals exact ⟨rfl, unhide hB⟩
      · have d1 : ¬ (200 : Int) < (f.nm.length : Int) := by omega
        by_cases n2 : 200 < g.nm.length
        · have d2 : (200 : Int) < (g.nm.length : Int) := by omega
          clear ia ib iF ig sa ua sb ub n1 n2
          go_enter Try.func7, Try.ntmps7
          go_upto_region 1 with fail
          generalize (w.alloc (.cells #[.string (bz f.nm), .float .f64 f.rk, .int .u32 f.sm, .int .i64 f.bk, .int .i64 f.fr, .int .i64 f.ln] 26)).alloc (.cells #[.string (bz g.nm), .float .f64 g.rk, .int .u32 g.sm, .int .i64 g.bk, .int .i64 g.fr, .int .i64 g.ln] 26) = W0 at *
          obtain ⟨p0, p1, p2, p3, p4, p5⟩ := bk6 (unhide kf)
          obtain ⟨q0, q1, q2, q3, q4, q5⟩ := bk6 (unhide kg)
          have tk0 : True := trivial
          have tk1 : True := trivial
          have tk2 : True := trivial
          go_wp2_with (first
            | (have _t := tk0; clear tk0 _t; go_at_call 8; refine (unhide hL _).mono ?_; rintro ez wz0 ⟨rfl, bz0⟩; have szz0 := bz0.size; replace hB := hide ((unhide hB).trans (bz0.mono (unhide hB).size)); replace ha := hide (Rd.grow (unhide ha) bz0); replace hb := hide (Rd.grow (unhide hb) bz0); replace kf := hide (Blk.below (unhide kf) bz0 (unhide kf).lt); replace kg := hide (Blk.below (unhide kg) bz0 (unhide kg).lt); clear p0 p1 p2 p3 p4 p5; obtain ⟨p0, p1, p2, p3, p4, p5⟩ := bk6 (unhide kf); clear q0 q1 q2 q3 q4 q5; obtain ⟨q0, q1, q2, q3, q4, q5⟩ := bk6 (unhide kg); clear bz0)
            | (have _t := tk1; clear tk1 _t; go_at_call 9; refine (unhide hFa _ (unhide ha)).mono ?_; rintro ez wz1 ⟨rfl, bz1⟩; have szz1 := bz1.size; replace hB := hide ((unhide hB).trans (bz1.mono (unhide hB).size)); replace ha := hide (Rd.grow (unhide ha) bz1); replace hb := hide (Rd.grow (unhide hb) bz1); replace kf := hide (Blk.below (unhide kf) bz1 (unhide kf).lt); replace kg := hide (Blk.below (unhide kg) bz1 (unhide kg).lt); clear p0 p1 p2 p3 p4 p5; obtain ⟨p0, p1, p2, p3, p4, p5⟩ := bk6 (unhide kf); clear q0 q1 q2 q3 q4 q5; obtain ⟨q0, q1, q2, q3, q4, q5⟩ := bk6 (unhide kg); clear bz1)
            | (have _t := tk2; clear tk2 _t; go_at_call 9; refine (unhide hFb _ (unhide hb)).mono ?_; rintro ez wz2 ⟨rfl, bz2⟩; have szz2 := bz2.size; replace hB := hide ((unhide hB).trans (bz2.mono (unhide hB).size)); replace ha := hide (Rd.grow (unhide ha) bz2); replace hb := hide (Rd.grow (unhide hb) bz2); replace kf := hide (Blk.below (unhide kf) bz2 (unhide kf).lt); replace kg := hide (Blk.below (unhide kg) bz2 (unhide kg).lt); clear p0 p1 p2 p3 p4 p5; obtain ⟨p0, p1, p2, p3, p4, p5⟩ := bk6 (unhide kf); clear q0 q1 q2 q3 q4 q5; obtain ⟨q0, q1, q2, q3, q4, q5⟩ := bk6 (unhide kg); clear bz2)
            | fail)
          all_goals go_ret
          all_goals exact ⟨rfl, unhide hB⟩
        · have d2 : ¬ (200 : Int) < (g.nm.length : Int) := by omega
          have sf : SmF f := ⟨by omega, iF.1⟩
          have sg : SmF g := ⟨by omega, ig.1⟩
          have hYa := fun W (h : Fls 0 W.heap.size W va a) => cBytes va a W h sa ua
          have hYb := fun W (h : Fls 0 W.heap.size W vb b) => cBytes vb b W h sb ub
          have hOf := fun W => cOne f W sf iF.2
          have hOg := fun W => cOne g W sg ig.2
          have hS := fun (v v' : Value) (x y : List UInt8) W (hx : Bs 0 W.heap.size W v x) (hy : Bs 0 W.heap.size W v' y) => cSameB W v v' x y hx hy
          have hT := fun W (hx : Fls 0 W.heap.size W va a) (hy : Fls 0 W.heap.size W vb b) => cSame W va vb a b hx hy sa sb
          have hab := fun h1 h2 => text_same (a := a) (b := b) h1 h2 ia ib
          have hfg := fun h1 h2 => one_same (f := f) (g := g) h1 h2 iF ig
          have smf : Hid (SmL [f]) := hide (fun x hx => by simp at hx; subst hx; exact sf)
          have smg : Hid (SmL [g]) := hide (fun x hx => by simp at hx; subst hx; exact sg)
          replace hS := hide hS; replace hT := hide hT; replace hab := hide hab; replace hfg := hide hfg
          clear ia ib iF ig sa ua sb ub n1 n2 sf sg
          cases ta : tabB a with
          | false =>
            rw [ta, bytes_f ta, err_f] at hYa
            generalize bytesL b = tb at *
            generalize errB (tabB b) = eb at *
            replace hYa := hide hYa; replace hYb := hide hYb
            clear ta hab
            cases of : okF f with
            | false =>
              rw [of, one_f of, err_f] at hOf
              generalize oneL g = tg at *
              generalize errB (okF g) = eg at *
              replace hOf := hide hOf; replace hOg := hide hOg
              clear of hfg
              go_enter Try.func7, Try.ntmps7
              go_upto_region 1 with fail
              generalize (w.alloc (.cells #[.string (bz f.nm), .float .f64 f.rk, .int .u32 f.sm, .int .i64 f.bk, .int .i64 f.fr, .int .i64 f.ln] 26)).alloc (.cells #[.string (bz g.nm), .float .f64 g.rk, .int .u32 g.sm, .int .i64 g.bk, .int .i64 g.fr, .int .i64 g.ln] 26) = W0 at *
              obtain ⟨p0, p1, p2, p3, p4, p5⟩ := bk6 (unhide kf)
              obtain ⟨q0, q1, q2, q3, q4, q5⟩ := bk6 (unhide kg)
              have tk0 : True := trivial
              have tk1 : True := trivial
              have tk2 : True := trivial
              have tk3 : True := trivial
              have tk4 : True := trivial
              have tk5 : True := trivial
              have tk6 : True := trivial
              go_upto_region 10 with (first
                | (have _t := tk0; clear tk0 _t; go_at_call 8; refine (unhide hL _).mono ?_; rintro ez wz0 ⟨rfl, bz0⟩; have szz0 := bz0.size; replace hB := hide ((unhide hB).trans (bz0.mono (unhide hB).size)); replace ha := hide (Rd.grow (unhide ha) bz0); replace hb := hide (Rd.grow (unhide hb) bz0); replace kf := hide (Blk.below (unhide kf) bz0 (unhide kf).lt); replace kg := hide (Blk.below (unhide kg) bz0 (unhide kg).lt); clear p0 p1 p2 p3 p4 p5; obtain ⟨p0, p1, p2, p3, p4, p5⟩ := bk6 (unhide kf); clear q0 q1 q2 q3 q4 q5; obtain ⟨q0, q1, q2, q3, q4, q5⟩ := bk6 (unhide kg); clear bz0)
                | (have _t := tk1; clear tk1 _t; go_at_call 9; refine (unhide hFa _ (unhide ha)).mono ?_; rintro ez wz1 ⟨rfl, bz1⟩; have szz1 := bz1.size; replace hB := hide ((unhide hB).trans (bz1.mono (unhide hB).size)); replace ha := hide (Rd.grow (unhide ha) bz1); replace hb := hide (Rd.grow (unhide hb) bz1); replace kf := hide (Blk.below (unhide kf) bz1 (unhide kf).lt); replace kg := hide (Blk.below (unhide kg) bz1 (unhide kg).lt); clear p0 p1 p2 p3 p4 p5; obtain ⟨p0, p1, p2, p3, p4, p5⟩ := bk6 (unhide kf); clear q0 q1 q2 q3 q4 q5; obtain ⟨q0, q1, q2, q3, q4, q5⟩ := bk6 (unhide kg); clear bz1)
                | (have _t := tk2; clear tk2 _t; go_at_call 9; refine (unhide hFb _ (unhide hb)).mono ?_; rintro ez wz2 ⟨rfl, bz2⟩; have szz2 := bz2.size; replace hB := hide ((unhide hB).trans (bz2.mono (unhide hB).size)); replace ha := hide (Rd.grow (unhide ha) bz2); replace hb := hide (Rd.grow (unhide hb) bz2); replace kf := hide (Blk.below (unhide kf) bz2 (unhide kf).lt); replace kg := hide (Blk.below (unhide kg) bz2 (unhide kg).lt); clear p0 p1 p2 p3 p4 p5; obtain ⟨p0, p1, p2, p3, p4, p5⟩ := bk6 (unhide kf); clear q0 q1 q2 q3 q4 q5; obtain ⟨q0, q1, q2, q3, q4, q5⟩ := bk6 (unhide kg); clear bz2)
                | (have _t := tk3; clear tk3 _t; go_at_call 10; refine (unhide hYa _ (unhide ha)).mono ?_; rintro ez wz3 ⟨A1, c1, rfl, ohx, bz3⟩; have szz3 := bz3.size; replace hB := hide ((unhide hB).trans (bz3.mono (unhide hB).size)); replace ha := hide (Rd.grow (unhide ha) bz3); replace hb := hide (Rd.grow (unhide hb) bz3); replace kf := hide (Blk.below (unhide kf) bz3 (unhide kf).lt); replace kg := hide (Blk.below (unhide kg) bz3 (unhide kg).lt); clear p0 p1 p2 p3 p4 p5; obtain ⟨p0, p1, p2, p3, p4, p5⟩ := bk6 (unhide kf); clear q0 q1 q2 q3 q4 q5; obtain ⟨q0, q1, q2, q3, q4, q5⟩ := bk6 (unhide kg); (have hx := hide ohx); clear ohx; clear bz3)
                | (have _t := tk4; clear tk4 _t; go_at_call 10; refine (unhide hYb _ (unhide hb)).mono ?_; rintro ez wz4 ⟨A2, c2, rfl, ohy, bz4⟩; have szz4 := bz4.size; replace hB := hide ((unhide hB).trans (bz4.mono (unhide hB).size)); replace ha := hide (Rd.grow (unhide ha) bz4); replace hb := hide (Rd.grow (unhide hb) bz4); replace kf := hide (Blk.below (unhide kf) bz4 (unhide kf).lt); replace kg := hide (Blk.below (unhide kg) bz4 (unhide kg).lt); replace hx := hide (Rd.grow (unhide hx) bz4); clear p0 p1 p2 p3 p4 p5; obtain ⟨p0, p1, p2, p3, p4, p5⟩ := bk6 (unhide kf); clear q0 q1 q2 q3 q4 q5; obtain ⟨q0, q1, q2, q3, q4, q5⟩ := bk6 (unhide kg); (have hy := hide ohy); clear ohy; clear bz4)
                | (have _t := tk5; clear tk5 _t; go_at_call 12; refine (unhide hOf _).mono ?_; rintro ez wz5 ⟨A3, c3, rfl, ohp, bz5⟩; have szz5 := bz5.size; replace hB := hide ((unhide hB).trans (bz5.mono (unhide hB).size)); replace ha := hide (Rd.grow (unhide ha) bz5); replace hb := hide (Rd.grow (unhide hb) bz5); replace kf := hide (Blk.below (unhide kf) bz5 (unhide kf).lt); replace kg := hide (Blk.below (unhide kg) bz5 (unhide kg).lt); replace hx := hide (Rd.grow (unhide hx) bz5); replace hy := hide (Rd.grow (unhide hy) bz5); clear p0 p1 p2 p3 p4 p5; obtain ⟨p0, p1, p2, p3, p4, p5⟩ := bk6 (unhide kf); clear q0 q1 q2 q3 q4 q5; obtain ⟨q0, q1, q2, q3, q4, q5⟩ := bk6 (unhide kg); (have hp := hide ohp); clear ohp; clear bz5)
                | (have _t := tk6; clear tk6 _t; go_at_call 12; refine (unhide hOg _).mono ?_; rintro ez wz6 ⟨A4, c4, rfl, ohq, bz6⟩; have szz6 := bz6.size; replace hB := hide ((unhide hB).trans (bz6.mono (unhide hB).size)); replace ha := hide (Rd.grow (unhide ha) bz6); replace hb := hide (Rd.grow (unhide hb) bz6); replace kf := hide (Blk.below (unhide kf) bz6 (unhide kf).lt); replace kg := hide (Blk.below (unhide kg) bz6 (unhide kg).lt); replace hx := hide (Rd.grow (unhide hx) bz6); replace hy := hide (Rd.grow (unhide hy) bz6); replace hp := hide (Rd.grow (unhide hp) bz6); clear p0 p1 p2 p3 p4 p5; obtain ⟨p0, p1, p2, p3, p4, p5⟩ := bk6 (unhide kf); clear q0 q1 q2 q3 q4 q5; obtain ⟨q0, q1, q2, q3, q4, q5⟩ := bk6 (unhide kg); (have hq := hide ohq); clear ohq; clear bz6)
                | fail)
              go_quiet (fail)
              go_wp2_with fail
              all_goals go_ret
              all_goals exact ⟨rfl, bl_drewN (unhide hB) _⟩
            | true =>
              rw [of, one_t of, err_t] at hOf
              cases og : okF g with
              | false =>
                rw [og, one_f og, err_f] at hOg
                generalize fileT f = tf at *
                replace hOf := hide hOf; replace hOg := hide hOg
                clear of og hfg
                go_enter Try.func7, Try.ntmps7
                go_upto_region 1 with fail
                generalize (w.alloc (.cells #[.string (bz f.nm), .float .f64 f.rk, .int .u32 f.sm, .int .i64 f.bk, .int .i64 f.fr, .int .i64 f.ln] 26)).alloc (.cells #[.string (bz g.nm), .float .f64 g.rk, .int .u32 g.sm, .int .i64 g.bk, .int .i64 g.fr, .int .i64 g.ln] 26) = W0 at *
                obtain ⟨p0, p1, p2, p3, p4, p5⟩ := bk6 (unhide kf)
                obtain ⟨q0, q1, q2, q3, q4, q5⟩ := bk6 (unhide kg)
                have tk0 : True := trivial
                have tk1 : True := trivial
                have tk2 : True := trivial
                have tk3 : True := trivial
                have tk4 : True := trivial
                have tk5 : True := trivial
                have tk6 : True := trivial
                go_upto_region 10 with (first
                  | (have _t := tk0; clear tk0 _t; go_at_call 8; refine (unhide hL _).mono ?_; rintro ez wz0 ⟨rfl, bz0⟩; have szz0 := bz0.size; replace hB := hide ((unhide hB).trans (bz0.mono (unhide hB).size)); replace ha := hide (Rd.grow (unhide ha) bz0); replace hb := hide (Rd.grow (unhide hb) bz0); replace kf := hide (Blk.below (unhide kf) bz0 (unhide kf).lt); replace kg := hide (Blk.below (unhide kg) bz0 (unhide kg).lt); clear p0 p1 p2 p3 p4 p5; obtain ⟨p0, p1, p2, p3, p4, p5⟩ := bk6 (unhide kf); clear q0 q1 q2 q3 q4 q5; obtain ⟨q0, q1, q2, q3, q4, q5⟩ := bk6 (unhide kg); clear bz0)
                  | (have _t := tk1; clear tk1 _t; go_at_call 9; refine (unhide hFa _ (unhide ha)).mono ?_; rintro ez wz1 ⟨rfl, bz1⟩; have szz1 := bz1.size; replace hB := hide ((unhide hB).trans (bz1.mono (unhide hB).size)); replace ha := hide (Rd.grow (unhide ha) bz1); replace hb := hide (Rd.grow (unhide hb) bz1); replace kf := hide (Blk.below (unhide kf) bz1 (unhide kf).lt); replace kg := hide (Blk.below (unhide kg) bz1 (unhide kg).lt); clear p0 p1 p2 p3 p4 p5; obtain ⟨p0, p1, p2, p3, p4, p5⟩ := bk6 (unhide kf); clear q0 q1 q2 q3 q4 q5; obtain ⟨q0, q1, q2, q3, q4, q5⟩ := bk6 (unhide kg); clear bz1)
                  | (have _t := tk2; clear tk2 _t; go_at_call 9; refine (unhide hFb _ (unhide hb)).mono ?_; rintro ez wz2 ⟨rfl, bz2⟩; have szz2 := bz2.size; replace hB := hide ((unhide hB).trans (bz2.mono (unhide hB).size)); replace ha := hide (Rd.grow (unhide ha) bz2); replace hb := hide (Rd.grow (unhide hb) bz2); replace kf := hide (Blk.below (unhide kf) bz2 (unhide kf).lt); replace kg := hide (Blk.below (unhide kg) bz2 (unhide kg).lt); clear p0 p1 p2 p3 p4 p5; obtain ⟨p0, p1, p2, p3, p4, p5⟩ := bk6 (unhide kf); clear q0 q1 q2 q3 q4 q5; obtain ⟨q0, q1, q2, q3, q4, q5⟩ := bk6 (unhide kg); clear bz2)
                  | (have _t := tk3; clear tk3 _t; go_at_call 10; refine (unhide hYa _ (unhide ha)).mono ?_; rintro ez wz3 ⟨A1, c1, rfl, ohx, bz3⟩; have szz3 := bz3.size; replace hB := hide ((unhide hB).trans (bz3.mono (unhide hB).size)); replace ha := hide (Rd.grow (unhide ha) bz3); replace hb := hide (Rd.grow (unhide hb) bz3); replace kf := hide (Blk.below (unhide kf) bz3 (unhide kf).lt); replace kg := hide (Blk.below (unhide kg) bz3 (unhide kg).lt); clear p0 p1 p2 p3 p4 p5; obtain ⟨p0, p1, p2, p3, p4, p5⟩ := bk6 (unhide kf); clear q0 q1 q2 q3 q4 q5; obtain ⟨q0, q1, q2, q3, q4, q5⟩ := bk6 (unhide kg); (have hx := hide ohx); clear ohx; clear bz3)
                  | (have _t := tk4; clear tk4 _t; go_at_call 10; refine (unhide hYb _ (unhide hb)).mono ?_; rintro ez wz4 ⟨A2, c2, rfl, ohy, bz4⟩; have szz4 := bz4.size; replace hB := hide ((unhide hB).trans (bz4.mono (unhide hB).size)); replace ha := hide (Rd.grow (unhide ha) bz4); replace hb := hide (Rd.grow (unhide hb) bz4); replace kf := hide (Blk.below (unhide kf) bz4 (unhide kf).lt); replace kg := hide (Blk.below (unhide kg) bz4 (unhide kg).lt); replace hx := hide (Rd.grow (unhide hx) bz4); clear p0 p1 p2 p3 p4 p5; obtain ⟨p0, p1, p2, p3, p4, p5⟩ := bk6 (unhide kf); clear q0 q1 q2 q3 q4 q5; obtain ⟨q0, q1, q2, q3, q4, q5⟩ := bk6 (unhide kg); (have hy := hide ohy); clear ohy; clear bz4)
                  | (have _t := tk5; clear tk5 _t; go_at_call 12; refine (unhide hOf _).mono ?_; rintro ez wz5 ⟨A3, c3, rfl, ohp, bz5⟩; have szz5 := bz5.size; replace hB := hide ((unhide hB).trans (bz5.mono (unhide hB).size)); replace ha := hide (Rd.grow (unhide ha) bz5); replace hb := hide (Rd.grow (unhide hb) bz5); replace kf := hide (Blk.below (unhide kf) bz5 (unhide kf).lt); replace kg := hide (Blk.below (unhide kg) bz5 (unhide kg).lt); replace hx := hide (Rd.grow (unhide hx) bz5); replace hy := hide (Rd.grow (unhide hy) bz5); clear p0 p1 p2 p3 p4 p5; obtain ⟨p0, p1, p2, p3, p4, p5⟩ := bk6 (unhide kf); clear q0 q1 q2 q3 q4 q5; obtain ⟨q0, q1, q2, q3, q4, q5⟩ := bk6 (unhide kg); (have hp := hide ohp); clear ohp; clear bz5)
                  | (have _t := tk6; clear tk6 _t; go_at_call 12; refine (unhide hOg _).mono ?_; rintro ez wz6 ⟨A4, c4, rfl, ohq, bz6⟩; have szz6 := bz6.size; replace hB := hide ((unhide hB).trans (bz6.mono (unhide hB).size)); replace ha := hide (Rd.grow (unhide ha) bz6); replace hb := hide (Rd.grow (unhide hb) bz6); replace kf := hide (Blk.below (unhide kf) bz6 (unhide kf).lt); replace kg := hide (Blk.below (unhide kg) bz6 (unhide kg).lt); replace hx := hide (Rd.grow (unhide hx) bz6); replace hy := hide (Rd.grow (unhide hy) bz6); replace hp := hide (Rd.grow (unhide hp) bz6); clear p0 p1 p2 p3 p4 p5; obtain ⟨p0, p1, p2, p3, p4, p5⟩ := bk6 (unhide kf); clear q0 q1 q2 q3 q4 q5; obtain ⟨q0, q1, q2, q3, q4, q5⟩ := bk6 (unhide kg); (have hq := hide ohq); clear ohq; clear bz6)
                  | fail)
                go_quiet (fail)
                go_wp2_with fail
                all_goals go_ret
                all_goals exact ⟨rfl, bl_drewN (unhide hB) _⟩
              | true =>
                rw [og, one_t og, err_t] at hOg
                have hfg1 := unhide hfg of og
                generalize fileT f = tf at *
                generalize fileT g = tg at *
                obtain ⟨X, hX⟩ : ∃ X, X = sameB [f] [g] := ⟨_, rfl⟩
                rw [← hX] at hfg1
                replace hX := hide hX.symm
                replace hOf := hide hOf; replace hOg := hide hOg; replace hfg1 := hide hfg1
                clear of og hfg
                go_enter Try.func7, Try.ntmps7
                go_upto_region 1 with fail
                generalize (w.alloc (.cells #[.string (bz f.nm), .float .f64 f.rk, .int .u32 f.sm, .int .i64 f.bk, .int .i64 f.fr, .int .i64 f.ln] 26)).alloc (.cells #[.string (bz g.nm), .float .f64 g.rk, .int .u32 g.sm, .int .i64 g.bk, .int .i64 g.fr, .int .i64 g.ln] 26) = W0 at *
                obtain ⟨p0, p1, p2, p3, p4, p5⟩ := bk6 (unhide kf)
                obtain ⟨q0, q1, q2, q3, q4, q5⟩ := bk6 (unhide kg)
                have tk0 : True := trivial
                have tk1 : True := trivial
                have tk2 : True := trivial
                have tk3 : True := trivial
                have tk4 : True := trivial
                have tk5 : True := trivial
                have tk6 : True := trivial
                go_upto_region 10 with (first
                  | (have _t := tk0; clear tk0 _t; go_at_call 8; refine (unhide hL _).mono ?_; rintro ez wz0 ⟨rfl, bz0⟩; have szz0 := bz0.size; replace hB := hide ((unhide hB).trans (bz0.mono (unhide hB).size)); replace ha := hide (Rd.grow (unhide ha) bz0); replace hb := hide (Rd.grow (unhide hb) bz0); replace kf := hide (Blk.below (unhide kf) bz0 (unhide kf).lt); replace kg := hide (Blk.below (unhide kg) bz0 (unhide kg).lt); clear p0 p1 p2 p3 p4 p5; obtain ⟨p0, p1, p2, p3, p4, p5⟩ := bk6 (unhide kf); clear q0 q1 q2 q3 q4 q5; obtain ⟨q0, q1, q2, q3, q4, q5⟩ := bk6 (unhide kg); clear bz0)
                  | (have _t := tk1; clear tk1 _t; go_at_call 9; refine (unhide hFa _ (unhide ha)).mono ?_; rintro ez wz1 ⟨rfl, bz1⟩; have szz1 := bz1.size; replace hB := hide ((unhide hB).trans (bz1.mono (unhide hB).size)); replace ha := hide (Rd.grow (unhide ha) bz1); replace hb := hide (Rd.grow (unhide hb) bz1); replace kf := hide (Blk.below (unhide kf) bz1 (unhide kf).lt); replace kg := hide (Blk.below (unhide kg) bz1 (unhide kg).lt); clear p0 p1 p2 p3 p4 p5; obtain ⟨p0, p1, p2, p3, p4, p5⟩ := bk6 (unhide kf); clear q0 q1 q2 q3 q4 q5; obtain ⟨q0, q1, q2, q3, q4, q5⟩ := bk6 (unhide kg); clear bz1)
                  | (have _t := tk2; clear tk2 _t; go_at_call 9; refine (unhide hFb _ (unhide hb)).mono ?_; rintro ez wz2 ⟨rfl, bz2⟩; have szz2 := bz2.size; replace hB := hide ((unhide hB).trans (bz2.mono (unhide hB).size)); replace ha := hide (Rd.grow (unhide ha) bz2); replace hb := hide (Rd.grow (unhide hb) bz2); replace kf := hide (Blk.below (unhide kf) bz2 (unhide kf).lt); replace kg := hide (Blk.below (unhide kg) bz2 (unhide kg).lt); clear p0 p1 p2 p3 p4 p5; obtain ⟨p0, p1, p2, p3, p4, p5⟩ := bk6 (unhide kf); clear q0 q1 q2 q3 q4 q5; obtain ⟨q0, q1, q2, q3, q4, q5⟩ := bk6 (unhide kg); clear bz2)
                  | (have _t := tk3; clear tk3 _t; go_at_call 10; refine (unhide hYa _ (unhide ha)).mono ?_; rintro ez wz3 ⟨A1, c1, rfl, ohx, bz3⟩; have szz3 := bz3.size; replace hB := hide ((unhide hB).trans (bz3.mono (unhide hB).size)); replace ha := hide (Rd.grow (unhide ha) bz3); replace hb := hide (Rd.grow (unhide hb) bz3); replace kf := hide (Blk.below (unhide kf) bz3 (unhide kf).lt); replace kg := hide (Blk.below (unhide kg) bz3 (unhide kg).lt); clear p0 p1 p2 p3 p4 p5; obtain ⟨p0, p1, p2, p3, p4, p5⟩ := bk6 (unhide kf); clear q0 q1 q2 q3 q4 q5; obtain ⟨q0, q1, q2, q3, q4, q5⟩ := bk6 (unhide kg); (have hx := hide ohx); clear ohx; clear bz3)
                  | (have _t := tk4; clear tk4 _t; go_at_call 10; refine (unhide hYb _ (unhide hb)).mono ?_; rintro ez wz4 ⟨A2, c2, rfl, ohy, bz4⟩; have szz4 := bz4.size; replace hB := hide ((unhide hB).trans (bz4.mono (unhide hB).size)); replace ha := hide (Rd.grow (unhide ha) bz4); replace hb := hide (Rd.grow (unhide hb) bz4); replace kf := hide (Blk.below (unhide kf) bz4 (unhide kf).lt); replace kg := hide (Blk.below (unhide kg) bz4 (unhide kg).lt); replace hx := hide (Rd.grow (unhide hx) bz4); clear p0 p1 p2 p3 p4 p5; obtain ⟨p0, p1, p2, p3, p4, p5⟩ := bk6 (unhide kf); clear q0 q1 q2 q3 q4 q5; obtain ⟨q0, q1, q2, q3, q4, q5⟩ := bk6 (unhide kg); (have hy := hide ohy); clear ohy; clear bz4)
                  | (have _t := tk5; clear tk5 _t; go_at_call 12; refine (unhide hOf _).mono ?_; rintro ez wz5 ⟨A3, c3, rfl, ohp, bz5⟩; have szz5 := bz5.size; replace hB := hide ((unhide hB).trans (bz5.mono (unhide hB).size)); replace ha := hide (Rd.grow (unhide ha) bz5); replace hb := hide (Rd.grow (unhide hb) bz5); replace kf := hide (Blk.below (unhide kf) bz5 (unhide kf).lt); replace kg := hide (Blk.below (unhide kg) bz5 (unhide kg).lt); replace hx := hide (Rd.grow (unhide hx) bz5); replace hy := hide (Rd.grow (unhide hy) bz5); clear p0 p1 p2 p3 p4 p5; obtain ⟨p0, p1, p2, p3, p4, p5⟩ := bk6 (unhide kf); clear q0 q1 q2 q3 q4 q5; obtain ⟨q0, q1, q2, q3, q4, q5⟩ := bk6 (unhide kg); (have hp := hide ohp); clear ohp; clear bz5)
                  | (have _t := tk6; clear tk6 _t; go_at_call 12; refine (unhide hOg _).mono ?_; rintro ez wz6 ⟨A4, c4, rfl, ohq, bz6⟩; have szz6 := bz6.size; replace hB := hide ((unhide hB).trans (bz6.mono (unhide hB).size)); replace ha := hide (Rd.grow (unhide ha) bz6); replace hb := hide (Rd.grow (unhide hb) bz6); replace kf := hide (Blk.below (unhide kf) bz6 (unhide kf).lt); replace kg := hide (Blk.below (unhide kg) bz6 (unhide kg).lt); replace hx := hide (Rd.grow (unhide hx) bz6); replace hy := hide (Rd.grow (unhide hy) bz6); replace hp := hide (Rd.grow (unhide hp) bz6); clear p0 p1 p2 p3 p4 p5; obtain ⟨p0, p1, p2, p3, p4, p5⟩ := bk6 (unhide kf); clear q0 q1 q2 q3 q4 q5; obtain ⟨q0, q1, q2, q3, q4, q5⟩ := bk6 (unhide kg); (have hq := hide ohq); clear ohq; clear bz6)
                  | fail)
                have x6 := (unhide kf).lt
                have x7 := (unhide kg).lt
                have H18 : ∀ W, Below wz6.heap.size wz6 W → Calls Try.prog 18 #[.slice A3 tf.length c3, .slice A4 tg.length c4] W fun e w' => e = .returned (.bool X) ∧ W = w' := fun W hW => by
                  have := sameBytes_any 0 wz6.heap.size 0 wz6.heap.size (.slice A3 tf.length c3) (.slice A4 tg.length c4) tf tg W (Rd.below (unhide hp) hW (Nat.le_refl _)) (Rd.below (unhide hq) hW (Nat.le_refl _))
                  rw [unhide hfg1] at this
                  exact this
                have H18a := hide (H18 wz6.drew (Below.drew (Below.refl _ _)))
                have H18b := hide (H18 (wz6.alloc (.cells #[.string (bz f.nm), .float .f64 f.rk, .int .u32 f.sm, .int .i64 f.bk, .int .i64 f.fr, .int .i64 f.ln] 26)).drew (Below.drew (bl_alloc (Below.refl _ _) _)))
                have H18c := hide (H18 (wz6.alloc (.cells #[.string (bz g.nm), .float .f64 g.rk, .int .u32 g.sm, .int .i64 g.bk, .int .i64 g.fr, .int .i64 g.ln] 26)).drew (Below.drew (bl_alloc (Below.refl _ _) _)))
                have H18d := hide (H18 ((wz6.alloc (.cells #[.string (bz f.nm), .float .f64 f.rk, .int .u32 f.sm, .int .i64 f.bk, .int .i64 f.fr, .int .i64 f.ln] 26)).alloc (.cells #[.string (bz g.nm), .float .f64 g.rk, .int .u32 g.sm, .int .i64 g.bk, .int .i64 g.fr, .int .i64 g.ln] 26)).drew (Below.drew (bl_alloc (bl_alloc (Below.refl _ _) _) _)))
                have H18e := hide (H18 ((wz6.alloc (.cells #[.string (bz g.nm), .float .f64 g.rk, .int .u32 g.sm, .int .i64 g.bk, .int .i64 g.fr, .int .i64 g.ln] 26)).alloc (.cells #[.string (bz f.nm), .float .f64 f.rk, .int .u32 f.sm, .int .i64 f.bk, .int .i64 f.fr, .int .i64 f.ln] 26)).drew (Below.drew (bl_alloc (bl_alloc (Below.refl _ _) _) _)))
                replace H18 := hide H18
                have H21a : Calls Try.prog 21 #[.slice (some ⟨wz6.heap.size, 0, none⟩) 1 1, .slice (some ⟨wz6.heap.size + 1, 0, none⟩) 1 1] ((wz6.alloc (.cells #[.string (bz f.nm), .float .f64 f.rk, .int .u32 f.sm, .int .i64 f.bk, .int .i64 f.fr, .int .i64 f.ln] 26)).alloc (.cells #[.string (bz g.nm), .float .f64 g.rk, .int .u32 g.sm, .int .i64 g.bk, .int .i64 g.fr, .int .i64 g.ln] 26)).drew fun e w' => e = .returned (.bool X) ∧ Below ((wz6.alloc (.cells #[.string (bz f.nm), .float .f64 f.rk, .int .u32 f.sm, .int .i64 f.bk, .int .i64 f.fr, .int .i64 f.ln] 26)).alloc (.cells #[.string (bz g.nm), .float .f64 g.rk, .int .u32 g.sm, .int .i64 g.bk, .int .i64 g.fr, .int .i64 g.ln] 26)).drew.heap.size ((wz6.alloc (.cells #[.string (bz f.nm), .float .f64 f.rk, .int .u32 f.sm, .int .i64 f.bk, .int .i64 f.fr, .int .i64 f.ln] 26)).alloc (.cells #[.string (bz g.nm), .float .f64 g.rk, .int .u32 g.sm, .int .i64 g.bk, .int .i64 g.fr, .int .i64 g.ln] 26)).drew w' := by
                  have := tsame_any 0 _ 0 _ _ _ [f] [g] ((wz6.alloc (.cells #[.string (bz f.nm), .float .f64 f.rk, .int .u32 f.sm, .int .i64 f.bk, .int .i64 f.fr, .int .i64 f.ln] 26)).alloc (.cells #[.string (bz g.nm), .float .f64 g.rk, .int .u32 g.sm, .int .i64 g.bk, .int .i64 g.fr, .int .i64 g.ln] 26)).drew (one_fls ((Blk.new rfl).alloc _)) (one_fls (Blk.drew (Blk.new (g := wz6.heap.size + 1) (by simp only [World.size_alloc])))) (Nat.le_refl _) (Nat.le_refl _) (unhide smf) (unhide smg)
                  rw [unhide hX] at this
                  exact this
                replace H21a := hide H21a
                have H21b : Calls Try.prog 21 #[.slice (some ⟨wz6.heap.size + 1, 0, none⟩) 1 1, .slice (some ⟨wz6.heap.size, 0, none⟩) 1 1] ((wz6.alloc (.cells #[.string (bz g.nm), .float .f64 g.rk, .int .u32 g.sm, .int .i64 g.bk, .int .i64 g.fr, .int .i64 g.ln] 26)).alloc (.cells #[.string (bz f.nm), .float .f64 f.rk, .int .u32 f.sm, .int .i64 f.bk, .int .i64 f.fr, .int .i64 f.ln] 26)).drew fun e w' => e = .returned (.bool X) ∧ Below ((wz6.alloc (.cells #[.string (bz g.nm), .float .f64 g.rk, .int .u32 g.sm, .int .i64 g.bk, .int .i64 g.fr, .int .i64 g.ln] 26)).alloc (.cells #[.string (bz f.nm), .float .f64 f.rk, .int .u32 f.sm, .int .i64 f.bk, .int .i64 f.fr, .int .i64 f.ln] 26)).drew.heap.size ((wz6.alloc (.cells #[.string (bz g.nm), .float .f64 g.rk, .int .u32 g.sm, .int .i64 g.bk, .int .i64 g.fr, .int .i64 g.ln] 26)).alloc (.cells #[.string (bz f.nm), .float .f64 f.rk, .int .u32 f.sm, .int .i64 f.bk, .int .i64 f.fr, .int .i64 f.ln] 26)).drew w' := by
                  have := tsame_any 0 _ 0 _ _ _ [f] [g] ((wz6.alloc (.cells #[.string (bz g.nm), .float .f64 g.rk, .int .u32 g.sm, .int .i64 g.bk, .int .i64 g.fr, .int .i64 g.ln] 26)).alloc (.cells #[.string (bz f.nm), .float .f64 f.rk, .int .u32 f.sm, .int .i64 f.bk, .int .i64 f.fr, .int .i64 f.ln] 26)).drew (one_fls (Blk.drew (Blk.new (g := wz6.heap.size + 1) (by simp only [World.size_alloc])))) (one_fls ((Blk.new rfl).alloc _)) (Nat.le_refl _) (Nat.le_refl _) (unhide smf) (unhide smg)
                  rw [unhide hX] at this
                  exact this
                replace H21b := hide H21b
                go_region_held3 (fun W => W.cell? ⟨w.heap.size, 0, none⟩ = some (.string (bz f.nm)) ∧ W.cell? ⟨w.heap.size, 1, none⟩ = some (.float .f64 f.rk) ∧ W.cell? ⟨w.heap.size, 2, none⟩ = some (.int .u32 f.sm) ∧ W.cell? ⟨w.heap.size, 3, none⟩ = some (.int .i64 f.bk) ∧ W.cell? ⟨w.heap.size, 4, none⟩ = some (.int .i64 f.fr) ∧ W.cell? ⟨w.heap.size, 5, none⟩ = some (.int .i64 f.ln) ∧ W.cell? ⟨w.heap.size + 1, 0, none⟩ = some (.string (bz g.nm)) ∧ W.cell? ⟨w.heap.size + 1, 1, none⟩ = some (.float .f64 g.rk) ∧ W.cell? ⟨w.heap.size + 1, 2, none⟩ = some (.int .u32 g.sm) ∧ W.cell? ⟨w.heap.size + 1, 3, none⟩ = some (.int .i64 g.bk) ∧ W.cell? ⟨w.heap.size + 1, 4, none⟩ = some (.int .i64 g.fr) ∧ W.cell? ⟨w.heap.size + 1, 5, none⟩ = some (.int .i64 g.ln)) (first | exact ⟨by with_reducible assumption, by with_reducible assumption, by with_reducible assumption, by with_reducible assumption, by with_reducible assumption, by with_reducible assumption, by with_reducible assumption, by with_reducible assumption, by with_reducible assumption, by with_reducible assumption, by with_reducible assumption, by with_reducible assumption⟩ | exact ⟨by go_simp, by go_simp, by go_simp, by go_simp, by go_simp, by go_simp, by go_simp, by go_simp, by go_simp, by go_simp, by go_simp, by go_simp⟩)
                  (first
                    | (go_at_call 18; with_reducible refine (unhide H18a).mono ?_; rintro e wr ⟨rfl, rfl⟩)
                    | (go_at_call 18; with_reducible refine (unhide H18b).mono ?_; rintro e wr ⟨rfl, rfl⟩)
                    | (go_at_call 18; with_reducible refine (unhide H18c).mono ?_; rintro e wr ⟨rfl, rfl⟩)
                    | (go_at_call 18; with_reducible refine (unhide H18d).mono ?_; rintro e wr ⟨rfl, rfl⟩)
                    | (go_at_call 18; with_reducible refine (unhide H18e).mono ?_; rintro e wr ⟨rfl, rfl⟩)
                    | (go_at_call 18; with_reducible refine (unhide H18 _ (unhide bq)).mono ?_; rintro e wr ⟨rfl, rfl⟩)
                    | (go_at_call 21; with_reducible refine (unhide H21a).mono ?_; rintro e wq ⟨rfl, bzz⟩
                       have bq : Below wz6.heap.size wz6 wq := Below.trans (b := ((wz6.alloc (.cells #[.string (bz f.nm), .float .f64 f.rk, .int .u32 f.sm, .int .i64 f.bk, .int .i64 f.fr, .int .i64 f.ln] 26)).alloc (.cells #[.string (bz g.nm), .float .f64 g.rk, .int .u32 g.sm, .int .i64 g.bk, .int .i64 g.fr, .int .i64 g.ln] 26)).drew) (Below.drew (bl_alloc (bl_alloc (Below.refl _ _) _) _)) (bzz.mono (show wz6.heap.size ≤ ((wz6.alloc _).alloc _).heap.size by simp only [World.size_alloc]; omega))
                       have hB9 := hide ((unhide hB).trans (bq.mono (unhide hB).size))
                       obtain ⟨p0, p1, p2, p3, p4, p5⟩ := bk6 (Blk.below (unhide kf) bq (unhide kf).lt)
                       obtain ⟨q0, q1, q2, q3, q4, q5⟩ := bk6 (Blk.below (unhide kg) bq (unhide kg).lt)
                       replace bq := hide bq
                       clear bzz)
                    | (go_at_call 21; with_reducible refine (unhide H21b).mono ?_; rintro e wq ⟨rfl, bzz⟩
                       have bq : Below wz6.heap.size wz6 wq := Below.trans (b := ((wz6.alloc (.cells #[.string (bz g.nm), .float .f64 g.rk, .int .u32 g.sm, .int .i64 g.bk, .int .i64 g.fr, .int .i64 g.ln] 26)).alloc (.cells #[.string (bz f.nm), .float .f64 f.rk, .int .u32 f.sm, .int .i64 f.bk, .int .i64 f.fr, .int .i64 f.ln] 26)).drew) (Below.drew (bl_alloc (bl_alloc (Below.refl _ _) _) _)) (bzz.mono (show wz6.heap.size ≤ ((wz6.alloc _).alloc _).heap.size by simp only [World.size_alloc]; omega))
                       have hB9 := hide ((unhide hB).trans (bq.mono (unhide hB).size))
                       obtain ⟨p0, p1, p2, p3, p4, p5⟩ := bk6 (Blk.below (unhide kf) bq (unhide kf).lt)
                       obtain ⟨q0, q1, q2, q3, q4, q5⟩ := bk6 (Blk.below (unhide kg) bq (unhide kg).lt)
                       replace bq := hide bq
                       clear bzz)
                    | fail)
                all_goals go_wp2_with fail
                all_goals go_ret
                all_goals exact ⟨rfl, unhide hB9⟩
          | true =>
            rw [ta, bytes_t ta, err_t] at hYa
            cases tb' : tabB b with
            | false =>
              rw [tb', bytes_f tb', err_f] at hYb
              generalize tabT a = tta at *
              replace hYa := hide hYa; replace hYb := hide hYb
              clear ta tb' hab
              cases of : okF f with
              | false =>
                rw [of, one_f of, err_f] at hOf
                generalize oneL g = tg at *
                generalize errB (okF g) = eg at *
                replace hOf := hide hOf; replace hOg := hide hOg
                clear of hfg
                go_enter Try.func7, Try.ntmps7
                go_upto_region 1 with fail
                generalize (w.alloc (.cells #[.string (bz f.nm), .float .f64 f.rk, .int .u32 f.sm, .int .i64 f.bk, .int .i64 f.fr, .int .i64 f.ln] 26)).alloc (.cells #[.string (bz g.nm), .float .f64 g.rk, .int .u32 g.sm, .int .i64 g.bk, .int .i64 g.fr, .int .i64 g.ln] 26) = W0 at *
                obtain ⟨p0, p1, p2, p3, p4, p5⟩ := bk6 (unhide kf)
                obtain ⟨q0, q1, q2, q3, q4, q5⟩ := bk6 (unhide kg)
                have tk0 : True := trivial
                have tk1 : True := trivial
                have tk2 : True := trivial
                have tk3 : True := trivial
                have tk4 : True := trivial
                have tk5 : True := trivial
                have tk6 : True := trivial
                go_upto_region 10 with (first
                  | (have _t := tk0; clear tk0 _t; go_at_call 8; refine (unhide hL _).mono ?_; rintro ez wz0 ⟨rfl, bz0⟩; have szz0 := bz0.size; replace hB := hide ((unhide hB).trans (bz0.mono (unhide hB).size)); replace ha := hide (Rd.grow (unhide ha) bz0); replace hb := hide (Rd.grow (unhide hb) bz0); replace kf := hide (Blk.below (unhide kf) bz0 (unhide kf).lt); replace kg := hide (Blk.below (unhide kg) bz0 (unhide kg).lt); clear p0 p1 p2 p3 p4 p5; obtain ⟨p0, p1, p2, p3, p4, p5⟩ := bk6 (unhide kf); clear q0 q1 q2 q3 q4 q5; obtain ⟨q0, q1, q2, q3, q4, q5⟩ := bk6 (unhide kg); clear bz0)
                  | (have _t := tk1; clear tk1 _t; go_at_call 9; refine (unhide hFa _ (unhide ha)).mono ?_; rintro ez wz1 ⟨rfl, bz1⟩; have szz1 := bz1.size; replace hB := hide ((unhide hB).trans (bz1.mono (unhide hB).size)); replace ha := hide (Rd.grow (unhide ha) bz1); replace hb := hide (Rd.grow (unhide hb) bz1); replace kf := hide (Blk.below (unhide kf) bz1 (unhide kf).lt); replace kg := hide (Blk.below (unhide kg) bz1 (unhide kg).lt); clear p0 p1 p2 p3 p4 p5; obtain ⟨p0, p1, p2, p3, p4, p5⟩ := bk6 (unhide kf); clear q0 q1 q2 q3 q4 q5; obtain ⟨q0, q1, q2, q3, q4, q5⟩ := bk6 (unhide kg); clear bz1)
                  | (have _t := tk2; clear tk2 _t; go_at_call 9; refine (unhide hFb _ (unhide hb)).mono ?_; rintro ez wz2 ⟨rfl, bz2⟩; have szz2 := bz2.size; replace hB := hide ((unhide hB).trans (bz2.mono (unhide hB).size)); replace ha := hide (Rd.grow (unhide ha) bz2); replace hb := hide (Rd.grow (unhide hb) bz2); replace kf := hide (Blk.below (unhide kf) bz2 (unhide kf).lt); replace kg := hide (Blk.below (unhide kg) bz2 (unhide kg).lt); clear p0 p1 p2 p3 p4 p5; obtain ⟨p0, p1, p2, p3, p4, p5⟩ := bk6 (unhide kf); clear q0 q1 q2 q3 q4 q5; obtain ⟨q0, q1, q2, q3, q4, q5⟩ := bk6 (unhide kg); clear bz2)
                  | (have _t := tk3; clear tk3 _t; go_at_call 10; refine (unhide hYa _ (unhide ha)).mono ?_; rintro ez wz3 ⟨A1, c1, rfl, ohx, bz3⟩; have szz3 := bz3.size; replace hB := hide ((unhide hB).trans (bz3.mono (unhide hB).size)); replace ha := hide (Rd.grow (unhide ha) bz3); replace hb := hide (Rd.grow (unhide hb) bz3); replace kf := hide (Blk.below (unhide kf) bz3 (unhide kf).lt); replace kg := hide (Blk.below (unhide kg) bz3 (unhide kg).lt); clear p0 p1 p2 p3 p4 p5; obtain ⟨p0, p1, p2, p3, p4, p5⟩ := bk6 (unhide kf); clear q0 q1 q2 q3 q4 q5; obtain ⟨q0, q1, q2, q3, q4, q5⟩ := bk6 (unhide kg); (have hx := hide ohx); clear ohx; clear bz3)
                  | (have _t := tk4; clear tk4 _t; go_at_call 10; refine (unhide hYb _ (unhide hb)).mono ?_; rintro ez wz4 ⟨A2, c2, rfl, ohy, bz4⟩; have szz4 := bz4.size; replace hB := hide ((unhide hB).trans (bz4.mono (unhide hB).size)); replace ha := hide (Rd.grow (unhide ha) bz4); replace hb := hide (Rd.grow (unhide hb) bz4); replace kf := hide (Blk.below (unhide kf) bz4 (unhide kf).lt); replace kg := hide (Blk.below (unhide kg) bz4 (unhide kg).lt); replace hx := hide (Rd.grow (unhide hx) bz4); clear p0 p1 p2 p3 p4 p5; obtain ⟨p0, p1, p2, p3, p4, p5⟩ := bk6 (unhide kf); clear q0 q1 q2 q3 q4 q5; obtain ⟨q0, q1, q2, q3, q4, q5⟩ := bk6 (unhide kg); (have hy := hide ohy); clear ohy; clear bz4)
                  | (have _t := tk5; clear tk5 _t; go_at_call 12; refine (unhide hOf _).mono ?_; rintro ez wz5 ⟨A3, c3, rfl, ohp, bz5⟩; have szz5 := bz5.size; replace hB := hide ((unhide hB).trans (bz5.mono (unhide hB).size)); replace ha := hide (Rd.grow (unhide ha) bz5); replace hb := hide (Rd.grow (unhide hb) bz5); replace kf := hide (Blk.below (unhide kf) bz5 (unhide kf).lt); replace kg := hide (Blk.below (unhide kg) bz5 (unhide kg).lt); replace hx := hide (Rd.grow (unhide hx) bz5); replace hy := hide (Rd.grow (unhide hy) bz5); clear p0 p1 p2 p3 p4 p5; obtain ⟨p0, p1, p2, p3, p4, p5⟩ := bk6 (unhide kf); clear q0 q1 q2 q3 q4 q5; obtain ⟨q0, q1, q2, q3, q4, q5⟩ := bk6 (unhide kg); (have hp := hide ohp); clear ohp; clear bz5)
                  | (have _t := tk6; clear tk6 _t; go_at_call 12; refine (unhide hOg _).mono ?_; rintro ez wz6 ⟨A4, c4, rfl, ohq, bz6⟩; have szz6 := bz6.size; replace hB := hide ((unhide hB).trans (bz6.mono (unhide hB).size)); replace ha := hide (Rd.grow (unhide ha) bz6); replace hb := hide (Rd.grow (unhide hb) bz6); replace kf := hide (Blk.below (unhide kf) bz6 (unhide kf).lt); replace kg := hide (Blk.below (unhide kg) bz6 (unhide kg).lt); replace hx := hide (Rd.grow (unhide hx) bz6); replace hy := hide (Rd.grow (unhide hy) bz6); replace hp := hide (Rd.grow (unhide hp) bz6); clear p0 p1 p2 p3 p4 p5; obtain ⟨p0, p1, p2, p3, p4, p5⟩ := bk6 (unhide kf); clear q0 q1 q2 q3 q4 q5; obtain ⟨q0, q1, q2, q3, q4, q5⟩ := bk6 (unhide kg); (have hq := hide ohq); clear ohq; clear bz6)
                  | fail)
                go_quiet (fail)
                go_wp2_with fail
                all_goals go_ret
                all_goals exact ⟨rfl, bl_drewN (unhide hB) _⟩
              | true =>
                rw [of, one_t of, err_t] at hOf
                cases og : okF g with
                | false =>
                  rw [og, one_f og, err_f] at hOg
                  generalize fileT f = tf at *
                  replace hOf := hide hOf; replace hOg := hide hOg
                  clear of og hfg
                  go_enter Try.func7, Try.ntmps7
                  go_upto_region 1 with fail
                  generalize (w.alloc (.cells #[.string (bz f.nm), .float .f64 f.rk, .int .u32 f.sm, .int .i64 f.bk, .int .i64 f.fr, .int .i64 f.ln] 26)).alloc (.cells #[.string (bz g.nm), .float .f64 g.rk, .int .u32 g.sm, .int .i64 g.bk, .int .i64 g.fr, .int .i64 g.ln] 26) = W0 at *
                  obtain ⟨p0, p1, p2, p3, p4, p5⟩ := bk6 (unhide kf)
                  obtain ⟨q0, q1, q2, q3, q4, q5⟩ := bk6 (unhide kg)
                  have tk0 : True := trivial
                  have tk1 : True := trivial
                  have tk2 : True := trivial
                  have tk3 : True := trivial
                  have tk4 : True := trivial
                  have tk5 : True := trivial
                  have tk6 : True := trivial
                  go_upto_region 10 with (first
                    | (have _t := tk0; clear tk0 _t; go_at_call 8; refine (unhide hL _).mono ?_; rintro ez wz0 ⟨rfl, bz0⟩; have szz0 := bz0.size; replace hB := hide ((unhide hB).trans (bz0.mono (unhide hB).size)); replace ha := hide (Rd.grow (unhide ha) bz0); replace hb := hide (Rd.grow (unhide hb) bz0); replace kf := hide (Blk.below (unhide kf) bz0 (unhide kf).lt); replace kg := hide (Blk.below (unhide kg) bz0 (unhide kg).lt); clear p0 p1 p2 p3 p4 p5; obtain ⟨p0, p1, p2, p3, p4, p5⟩ := bk6 (unhide kf); clear q0 q1 q2 q3 q4 q5; obtain ⟨q0, q1, q2, q3, q4, q5⟩ := bk6 (unhide kg); clear bz0)
                    | (have _t := tk1; clear tk1 _t; go_at_call 9; refine (unhide hFa _ (unhide ha)).mono ?_; rintro ez wz1 ⟨rfl, bz1⟩; have szz1 := bz1.size; replace hB := hide ((unhide hB).trans (bz1.mono (unhide hB).size)); replace ha := hide (Rd.grow (unhide ha) bz1); replace hb := hide (Rd.grow (unhide hb) bz1); replace kf := hide (Blk.below (unhide kf) bz1 (unhide kf).lt); replace kg := hide (Blk.below (unhide kg) bz1 (unhide kg).lt); clear p0 p1 p2 p3 p4 p5; obtain ⟨p0, p1, p2, p3, p4, p5⟩ := bk6 (unhide kf); clear q0 q1 q2 q3 q4 q5; obtain ⟨q0, q1, q2, q3, q4, q5⟩ := bk6 (unhide kg); clear bz1)
                    | (have _t := tk2; clear tk2 _t; go_at_call 9; refine (unhide hFb _ (unhide hb)).mono ?_; rintro ez wz2 ⟨rfl, bz2⟩; have szz2 := bz2.size; replace hB := hide ((unhide hB).trans (bz2.mono (unhide hB).size)); replace ha := hide (Rd.grow (unhide ha) bz2); replace hb := hide (Rd.grow (unhide hb) bz2); replace kf := hide (Blk.below (unhide kf) bz2 (unhide kf).lt); replace kg := hide (Blk.below (unhide kg) bz2 (unhide kg).lt); clear p0 p1 p2 p3 p4 p5; obtain ⟨p0, p1, p2, p3, p4, p5⟩ := bk6 (unhide kf); clear q0 q1 q2 q3 q4 q5; obtain ⟨q0, q1, q2, q3, q4, q5⟩ := bk6 (unhide kg); clear bz2)
                    | (have _t := tk3; clear tk3 _t; go_at_call 10; refine (unhide hYa _ (unhide ha)).mono ?_; rintro ez wz3 ⟨A1, c1, rfl, ohx, bz3⟩; have szz3 := bz3.size; replace hB := hide ((unhide hB).trans (bz3.mono (unhide hB).size)); replace ha := hide (Rd.grow (unhide ha) bz3); replace hb := hide (Rd.grow (unhide hb) bz3); replace kf := hide (Blk.below (unhide kf) bz3 (unhide kf).lt); replace kg := hide (Blk.below (unhide kg) bz3 (unhide kg).lt); clear p0 p1 p2 p3 p4 p5; obtain ⟨p0, p1, p2, p3, p4, p5⟩ := bk6 (unhide kf); clear q0 q1 q2 q3 q4 q5; obtain ⟨q0, q1, q2, q3, q4, q5⟩ := bk6 (unhide kg); (have hx := hide ohx); clear ohx; clear bz3)
                    | (have _t := tk4; clear tk4 _t; go_at_call 10; refine (unhide hYb _ (unhide hb)).mono ?_; rintro ez wz4 ⟨A2, c2, rfl, ohy, bz4⟩; have szz4 := bz4.size; replace hB := hide ((unhide hB).trans (bz4.mono (unhide hB).size)); replace ha := hide (Rd.grow (unhide ha) bz4); replace hb := hide (Rd.grow (unhide hb) bz4); replace kf := hide (Blk.below (unhide kf) bz4 (unhide kf).lt); replace kg := hide (Blk.below (unhide kg) bz4 (unhide kg).lt); replace hx := hide (Rd.grow (unhide hx) bz4); clear p0 p1 p2 p3 p4 p5; obtain ⟨p0, p1, p2, p3, p4, p5⟩ := bk6 (unhide kf); clear q0 q1 q2 q3 q4 q5; obtain ⟨q0, q1, q2, q3, q4, q5⟩ := bk6 (unhide kg); (have hy := hide ohy); clear ohy; clear bz4)
                    | (have _t := tk5; clear tk5 _t; go_at_call 12; refine (unhide hOf _).mono ?_; rintro ez wz5 ⟨A3, c3, rfl, ohp, bz5⟩; have szz5 := bz5.size; replace hB := hide ((unhide hB).trans (bz5.mono (unhide hB).size)); replace ha := hide (Rd.grow (unhide ha) bz5); replace hb := hide (Rd.grow (unhide hb) bz5); replace kf := hide (Blk.below (unhide kf) bz5 (unhide kf).lt); replace kg := hide (Blk.below (unhide kg) bz5 (unhide kg).lt); replace hx := hide (Rd.grow (unhide hx) bz5); replace hy := hide (Rd.grow (unhide hy) bz5); clear p0 p1 p2 p3 p4 p5; obtain ⟨p0, p1, p2, p3, p4, p5⟩ := bk6 (unhide kf); clear q0 q1 q2 q3 q4 q5; obtain ⟨q0, q1, q2, q3, q4, q5⟩ := bk6 (unhide kg); (have hp := hide ohp); clear ohp; clear bz5)
                    | (have _t := tk6; clear tk6 _t; go_at_call 12; refine (unhide hOg _).mono ?_; rintro ez wz6 ⟨A4, c4, rfl, ohq, bz6⟩; have szz6 := bz6.size; replace hB := hide ((unhide hB).trans (bz6.mono (unhide hB).size)); replace ha := hide (Rd.grow (unhide ha) bz6); replace hb := hide (Rd.grow (unhide hb) bz6); replace kf := hide (Blk.below (unhide kf) bz6 (unhide kf).lt); replace kg := hide (Blk.below (unhide kg) bz6 (unhide kg).lt); replace hx := hide (Rd.grow (unhide hx) bz6); replace hy := hide (Rd.grow (unhide hy) bz6); replace hp := hide (Rd.grow (unhide hp) bz6); clear p0 p1 p2 p3 p4 p5; obtain ⟨p0, p1, p2, p3, p4, p5⟩ := bk6 (unhide kf); clear q0 q1 q2 q3 q4 q5; obtain ⟨q0, q1, q2, q3, q4, q5⟩ := bk6 (unhide kg); (have hq := hide ohq); clear ohq; clear bz6)
                    | fail)
                  go_quiet (fail)
                  go_wp2_with fail
                  all_goals go_ret
                  all_goals exact ⟨rfl, bl_drewN (unhide hB) _⟩
                | true =>
                  rw [og, one_t og, err_t] at hOg
                  have hfg1 := unhide hfg of og
                  generalize fileT f = tf at *
                  generalize fileT g = tg at *
                  obtain ⟨X, hX⟩ : ∃ X, X = sameB [f] [g] := ⟨_, rfl⟩
                  rw [← hX] at hfg1
                  replace hX := hide hX.symm
                  replace hOf := hide hOf; replace hOg := hide hOg; replace hfg1 := hide hfg1
                  clear of og hfg
                  go_enter Try.func7, Try.ntmps7
                  go_upto_region 1 with fail
                  generalize (w.alloc (.cells #[.string (bz f.nm), .float .f64 f.rk, .int .u32 f.sm, .int .i64 f.bk, .int .i64 f.fr, .int .i64 f.ln] 26)).alloc (.cells #[.string (bz g.nm), .float .f64 g.rk, .int .u32 g.sm, .int .i64 g.bk, .int .i64 g.fr, .int .i64 g.ln] 26) = W0 at *
                  obtain ⟨p0, p1, p2, p3, p4, p5⟩ := bk6 (unhide kf)
                  obtain ⟨q0, q1, q2, q3, q4, q5⟩ := bk6 (unhide kg)
                  have tk0 : True := trivial
                  have tk1 : True := trivial
                  have tk2 : True := trivial
                  have tk3 : True := trivial
                  have tk4 : True := trivial
                  have tk5 : True := trivial
                  have tk6 : True := trivial
                  go_upto_region 10 with (first
                    | (have _t := tk0; clear tk0 _t; go_at_call 8; refine (unhide hL _).mono ?_; rintro ez wz0 ⟨rfl, bz0⟩; have szz0 := bz0.size; replace hB := hide ((unhide hB).trans (bz0.mono (unhide hB).size)); replace ha := hide (Rd.grow (unhide ha) bz0); replace hb := hide (Rd.grow (unhide hb) bz0); replace kf := hide (Blk.below (unhide kf) bz0 (unhide kf).lt); replace kg := hide (Blk.below (unhide kg) bz0 (unhide kg).lt); clear p0 p1 p2 p3 p4 p5; obtain ⟨p0, p1, p2, p3, p4, p5⟩ := bk6 (unhide kf); clear q0 q1 q2 q3 q4 q5; obtain ⟨q0, q1, q2, q3, q4, q5⟩ := bk6 (unhide kg); clear bz0)
                    | (have _t := tk1; clear tk1 _t; go_at_call 9; refine (unhide hFa _ (unhide ha)).mono ?_; rintro ez wz1 ⟨rfl, bz1⟩; have szz1 := bz1.size; replace hB := hide ((unhide hB).trans (bz1.mono (unhide hB).size)); replace ha := hide (Rd.grow (unhide ha) bz1); replace hb := hide (Rd.grow (unhide hb) bz1); replace kf := hide (Blk.below (unhide kf) bz1 (unhide kf).lt); replace kg := hide (Blk.below (unhide kg) bz1 (unhide kg).lt); clear p0 p1 p2 p3 p4 p5; obtain ⟨p0, p1, p2, p3, p4, p5⟩ := bk6 (unhide kf); clear q0 q1 q2 q3 q4 q5; obtain ⟨q0, q1, q2, q3, q4, q5⟩ := bk6 (unhide kg); clear bz1)
                    | (have _t := tk2; clear tk2 _t; go_at_call 9; refine (unhide hFb _ (unhide hb)).mono ?_; rintro ez wz2 ⟨rfl, bz2⟩; have szz2 := bz2.size; replace hB := hide ((unhide hB).trans (bz2.mono (unhide hB).size)); replace ha := hide (Rd.grow (unhide ha) bz2); replace hb := hide (Rd.grow (unhide hb) bz2); replace kf := hide (Blk.below (unhide kf) bz2 (unhide kf).lt); replace kg := hide (Blk.below (unhide kg) bz2 (unhide kg).lt); clear p0 p1 p2 p3 p4 p5; obtain ⟨p0, p1, p2, p3, p4, p5⟩ := bk6 (unhide kf); clear q0 q1 q2 q3 q4 q5; obtain ⟨q0, q1, q2, q3, q4, q5⟩ := bk6 (unhide kg); clear bz2)
                    | (have _t := tk3; clear tk3 _t; go_at_call 10; refine (unhide hYa _ (unhide ha)).mono ?_; rintro ez wz3 ⟨A1, c1, rfl, ohx, bz3⟩; have szz3 := bz3.size; replace hB := hide ((unhide hB).trans (bz3.mono (unhide hB).size)); replace ha := hide (Rd.grow (unhide ha) bz3); replace hb := hide (Rd.grow (unhide hb) bz3); replace kf := hide (Blk.below (unhide kf) bz3 (unhide kf).lt); replace kg := hide (Blk.below (unhide kg) bz3 (unhide kg).lt); clear p0 p1 p2 p3 p4 p5; obtain ⟨p0, p1, p2, p3, p4, p5⟩ := bk6 (unhide kf); clear q0 q1 q2 q3 q4 q5; obtain ⟨q0, q1, q2, q3, q4, q5⟩ := bk6 (unhide kg); (have hx := hide ohx); clear ohx; clear bz3)
                    | (have _t := tk4; clear tk4 _t; go_at_call 10; refine (unhide hYb _ (unhide hb)).mono ?_; rintro ez wz4 ⟨A2, c2, rfl, ohy, bz4⟩; have szz4 := bz4.size; replace hB := hide ((unhide hB).trans (bz4.mono (unhide hB).size)); replace ha := hide (Rd.grow (unhide ha) bz4); replace hb := hide (Rd.grow (unhide hb) bz4); replace kf := hide (Blk.below (unhide kf) bz4 (unhide kf).lt); replace kg := hide (Blk.below (unhide kg) bz4 (unhide kg).lt); replace hx := hide (Rd.grow (unhide hx) bz4); clear p0 p1 p2 p3 p4 p5; obtain ⟨p0, p1, p2, p3, p4, p5⟩ := bk6 (unhide kf); clear q0 q1 q2 q3 q4 q5; obtain ⟨q0, q1, q2, q3, q4, q5⟩ := bk6 (unhide kg); (have hy := hide ohy); clear ohy; clear bz4)
                    | (have _t := tk5; clear tk5 _t; go_at_call 12; refine (unhide hOf _).mono ?_; rintro ez wz5 ⟨A3, c3, rfl, ohp, bz5⟩; have szz5 := bz5.size; replace hB := hide ((unhide hB).trans (bz5.mono (unhide hB).size)); replace ha := hide (Rd.grow (unhide ha) bz5); replace hb := hide (Rd.grow (unhide hb) bz5); replace kf := hide (Blk.below (unhide kf) bz5 (unhide kf).lt); replace kg := hide (Blk.below (unhide kg) bz5 (unhide kg).lt); replace hx := hide (Rd.grow (unhide hx) bz5); replace hy := hide (Rd.grow (unhide hy) bz5); clear p0 p1 p2 p3 p4 p5; obtain ⟨p0, p1, p2, p3, p4, p5⟩ := bk6 (unhide kf); clear q0 q1 q2 q3 q4 q5; obtain ⟨q0, q1, q2, q3, q4, q5⟩ := bk6 (unhide kg); (have hp := hide ohp); clear ohp; clear bz5)
                    | (have _t := tk6; clear tk6 _t; go_at_call 12; refine (unhide hOg _).mono ?_; rintro ez wz6 ⟨A4, c4, rfl, ohq, bz6⟩; have szz6 := bz6.size; replace hB := hide ((unhide hB).trans (bz6.mono (unhide hB).size)); replace ha := hide (Rd.grow (unhide ha) bz6); replace hb := hide (Rd.grow (unhide hb) bz6); replace kf := hide (Blk.below (unhide kf) bz6 (unhide kf).lt); replace kg := hide (Blk.below (unhide kg) bz6 (unhide kg).lt); replace hx := hide (Rd.grow (unhide hx) bz6); replace hy := hide (Rd.grow (unhide hy) bz6); replace hp := hide (Rd.grow (unhide hp) bz6); clear p0 p1 p2 p3 p4 p5; obtain ⟨p0, p1, p2, p3, p4, p5⟩ := bk6 (unhide kf); clear q0 q1 q2 q3 q4 q5; obtain ⟨q0, q1, q2, q3, q4, q5⟩ := bk6 (unhide kg); (have hq := hide ohq); clear ohq; clear bz6)
                    | fail)
                  have x6 := (unhide kf).lt
                  have x7 := (unhide kg).lt
                  have H18 : ∀ W, Below wz6.heap.size wz6 W → Calls Try.prog 18 #[.slice A3 tf.length c3, .slice A4 tg.length c4] W fun e w' => e = .returned (.bool X) ∧ W = w' := fun W hW => by
                    have := sameBytes_any 0 wz6.heap.size 0 wz6.heap.size (.slice A3 tf.length c3) (.slice A4 tg.length c4) tf tg W (Rd.below (unhide hp) hW (Nat.le_refl _)) (Rd.below (unhide hq) hW (Nat.le_refl _))
                    rw [unhide hfg1] at this
                    exact this
                  have H18a := hide (H18 wz6.drew (Below.drew (Below.refl _ _)))
                  have H18b := hide (H18 (wz6.alloc (.cells #[.string (bz f.nm), .float .f64 f.rk, .int .u32 f.sm, .int .i64 f.bk, .int .i64 f.fr, .int .i64 f.ln] 26)).drew (Below.drew (bl_alloc (Below.refl _ _) _)))
                  have H18c := hide (H18 (wz6.alloc (.cells #[.string (bz g.nm), .float .f64 g.rk, .int .u32 g.sm, .int .i64 g.bk, .int .i64 g.fr, .int .i64 g.ln] 26)).drew (Below.drew (bl_alloc (Below.refl _ _) _)))
                  have H18d := hide (H18 ((wz6.alloc (.cells #[.string (bz f.nm), .float .f64 f.rk, .int .u32 f.sm, .int .i64 f.bk, .int .i64 f.fr, .int .i64 f.ln] 26)).alloc (.cells #[.string (bz g.nm), .float .f64 g.rk, .int .u32 g.sm, .int .i64 g.bk, .int .i64 g.fr, .int .i64 g.ln] 26)).drew (Below.drew (bl_alloc (bl_alloc (Below.refl _ _) _) _)))
                  have H18e := hide (H18 ((wz6.alloc (.cells #[.string (bz g.nm), .float .f64 g.rk, .int .u32 g.sm, .int .i64 g.bk, .int .i64 g.fr, .int .i64 g.ln] 26)).alloc (.cells #[.string (bz f.nm), .float .f64 f.rk, .int .u32 f.sm, .int .i64 f.bk, .int .i64 f.fr, .int .i64 f.ln] 26)).drew (Below.drew (bl_alloc (bl_alloc (Below.refl _ _) _) _)))
                  replace H18 := hide H18
                  have H21a : Calls Try.prog 21 #[.slice (some ⟨wz6.heap.size, 0, none⟩) 1 1, .slice (some ⟨wz6.heap.size + 1, 0, none⟩) 1 1] ((wz6.alloc (.cells #[.string (bz f.nm), .float .f64 f.rk, .int .u32 f.sm, .int .i64 f.bk, .int .i64 f.fr, .int .i64 f.ln] 26)).alloc (.cells #[.string (bz g.nm), .float .f64 g.rk, .int .u32 g.sm, .int .i64 g.bk, .int .i64 g.fr, .int .i64 g.ln] 26)).drew fun e w' => e = .returned (.bool X) ∧ Below ((wz6.alloc (.cells #[.string (bz f.nm), .float .f64 f.rk, .int .u32 f.sm, .int .i64 f.bk, .int .i64 f.fr, .int .i64 f.ln] 26)).alloc (.cells #[.string (bz g.nm), .float .f64 g.rk, .int .u32 g.sm, .int .i64 g.bk, .int .i64 g.fr, .int .i64 g.ln] 26)).drew.heap.size ((wz6.alloc (.cells #[.string (bz f.nm), .float .f64 f.rk, .int .u32 f.sm, .int .i64 f.bk, .int .i64 f.fr, .int .i64 f.ln] 26)).alloc (.cells #[.string (bz g.nm), .float .f64 g.rk, .int .u32 g.sm, .int .i64 g.bk, .int .i64 g.fr, .int .i64 g.ln] 26)).drew w' := by
                    have := tsame_any 0 _ 0 _ _ _ [f] [g] ((wz6.alloc (.cells #[.string (bz f.nm), .float .f64 f.rk, .int .u32 f.sm, .int .i64 f.bk, .int .i64 f.fr, .int .i64 f.ln] 26)).alloc (.cells #[.string (bz g.nm), .float .f64 g.rk, .int .u32 g.sm, .int .i64 g.bk, .int .i64 g.fr, .int .i64 g.ln] 26)).drew (one_fls ((Blk.new rfl).alloc _)) (one_fls (Blk.drew (Blk.new (g := wz6.heap.size + 1) (by simp only [World.size_alloc])))) (Nat.le_refl _) (Nat.le_refl _) (unhide smf) (unhide smg)
                    rw [unhide hX] at this
                    exact this
                  replace H21a := hide H21a
                  have H21b : Calls Try.prog 21 #[.slice (some ⟨wz6.heap.size + 1, 0, none⟩) 1 1, .slice (some ⟨wz6.heap.size, 0, none⟩) 1 1] ((wz6.alloc (.cells #[.string (bz g.nm), .float .f64 g.rk, .int .u32 g.sm, .int .i64 g.bk, .int .i64 g.fr, .int .i64 g.ln] 26)).alloc (.cells #[.string (bz f.nm), .float .f64 f.rk, .int .u32 f.sm, .int .i64 f.bk, .int .i64 f.fr, .int .i64 f.ln] 26)).drew fun e w' => e = .returned (.bool X) ∧ Below ((wz6.alloc (.cells #[.string (bz g.nm), .float .f64 g.rk, .int .u32 g.sm, .int .i64 g.bk, .int .i64 g.fr, .int .i64 g.ln] 26)).alloc (.cells #[.string (bz f.nm), .float .f64 f.rk, .int .u32 f.sm, .int .i64 f.bk, .int .i64 f.fr, .int .i64 f.ln] 26)).drew.heap.size ((wz6.alloc (.cells #[.string (bz g.nm), .float .f64 g.rk, .int .u32 g.sm, .int .i64 g.bk, .int .i64 g.fr, .int .i64 g.ln] 26)).alloc (.cells #[.string (bz f.nm), .float .f64 f.rk, .int .u32 f.sm, .int .i64 f.bk, .int .i64 f.fr, .int .i64 f.ln] 26)).drew w' := by
                    have := tsame_any 0 _ 0 _ _ _ [f] [g] ((wz6.alloc (.cells #[.string (bz g.nm), .float .f64 g.rk, .int .u32 g.sm, .int .i64 g.bk, .int .i64 g.fr, .int .i64 g.ln] 26)).alloc (.cells #[.string (bz f.nm), .float .f64 f.rk, .int .u32 f.sm, .int .i64 f.bk, .int .i64 f.fr, .int .i64 f.ln] 26)).drew (one_fls (Blk.drew (Blk.new (g := wz6.heap.size + 1) (by simp only [World.size_alloc])))) (one_fls ((Blk.new rfl).alloc _)) (Nat.le_refl _) (Nat.le_refl _) (unhide smf) (unhide smg)
                    rw [unhide hX] at this
                    exact this
                  replace H21b := hide H21b
                  go_region_held3 (fun W => W.cell? ⟨w.heap.size, 0, none⟩ = some (.string (bz f.nm)) ∧ W.cell? ⟨w.heap.size, 1, none⟩ = some (.float .f64 f.rk) ∧ W.cell? ⟨w.heap.size, 2, none⟩ = some (.int .u32 f.sm) ∧ W.cell? ⟨w.heap.size, 3, none⟩ = some (.int .i64 f.bk) ∧ W.cell? ⟨w.heap.size, 4, none⟩ = some (.int .i64 f.fr) ∧ W.cell? ⟨w.heap.size, 5, none⟩ = some (.int .i64 f.ln) ∧ W.cell? ⟨w.heap.size + 1, 0, none⟩ = some (.string (bz g.nm)) ∧ W.cell? ⟨w.heap.size + 1, 1, none⟩ = some (.float .f64 g.rk) ∧ W.cell? ⟨w.heap.size + 1, 2, none⟩ = some (.int .u32 g.sm) ∧ W.cell? ⟨w.heap.size + 1, 3, none⟩ = some (.int .i64 g.bk) ∧ W.cell? ⟨w.heap.size + 1, 4, none⟩ = some (.int .i64 g.fr) ∧ W.cell? ⟨w.heap.size + 1, 5, none⟩ = some (.int .i64 g.ln)) (first | exact ⟨by with_reducible assumption, by with_reducible assumption, by with_reducible assumption, by with_reducible assumption, by with_reducible assumption, by with_reducible assumption, by with_reducible assumption, by with_reducible assumption, by with_reducible assumption, by with_reducible assumption, by with_reducible assumption, by with_reducible assumption⟩ | exact ⟨by go_simp, by go_simp, by go_simp, by go_simp, by go_simp, by go_simp, by go_simp, by go_simp, by go_simp, by go_simp, by go_simp, by go_simp⟩)
                    (first
                      | (go_at_call 18; with_reducible refine (unhide H18a).mono ?_; rintro e wr ⟨rfl, rfl⟩)
                      | (go_at_call 18; with_reducible refine (unhide H18b).mono ?_; rintro e wr ⟨rfl, rfl⟩)
                      | (go_at_call 18; with_reducible refine (unhide H18c).mono ?_; rintro e wr ⟨rfl, rfl⟩)
                      | (go_at_call 18; with_reducible refine (unhide H18d).mono ?_; rintro e wr ⟨rfl, rfl⟩)
                      | (go_at_call 18; with_reducible refine (unhide H18e).mono ?_; rintro e wr ⟨rfl, rfl⟩)
                      | (go_at_call 18; with_reducible refine (unhide H18 _ (unhide bq)).mono ?_; rintro e wr ⟨rfl, rfl⟩)
                      | (go_at_call 21; with_reducible refine (unhide H21a).mono ?_; rintro e wq ⟨rfl, bzz⟩
                         have bq : Below wz6.heap.size wz6 wq := Below.trans (b := ((wz6.alloc (.cells #[.string (bz f.nm), .float .f64 f.rk, .int .u32 f.sm, .int .i64 f.bk, .int .i64 f.fr, .int .i64 f.ln] 26)).alloc (.cells #[.string (bz g.nm), .float .f64 g.rk, .int .u32 g.sm, .int .i64 g.bk, .int .i64 g.fr, .int .i64 g.ln] 26)).drew) (Below.drew (bl_alloc (bl_alloc (Below.refl _ _) _) _)) (bzz.mono (show wz6.heap.size ≤ ((wz6.alloc _).alloc _).heap.size by simp only [World.size_alloc]; omega))
                         have hB9 := hide ((unhide hB).trans (bq.mono (unhide hB).size))
                         obtain ⟨p0, p1, p2, p3, p4, p5⟩ := bk6 (Blk.below (unhide kf) bq (unhide kf).lt)
                         obtain ⟨q0, q1, q2, q3, q4, q5⟩ := bk6 (Blk.below (unhide kg) bq (unhide kg).lt)
                         replace bq := hide bq
                         clear bzz)
                      | (go_at_call 21; with_reducible refine (unhide H21b).mono ?_; rintro e wq ⟨rfl, bzz⟩
                         have bq : Below wz6.heap.size wz6 wq := Below.trans (b := ((wz6.alloc (.cells #[.string (bz g.nm), .float .f64 g.rk, .int .u32 g.sm, .int .i64 g.bk, .int .i64 g.fr, .int .i64 g.ln] 26)).alloc (.cells #[.string (bz f.nm), .float .f64 f.rk, .int .u32 f.sm, .int .i64 f.bk, .int .i64 f.fr, .int .i64 f.ln] 26)).drew) (Below.drew (bl_alloc (bl_alloc (Below.refl _ _) _) _)) (bzz.mono (show wz6.heap.size ≤ ((wz6.alloc _).alloc _).heap.size by simp only [World.size_alloc]; omega))
                         have hB9 := hide ((unhide hB).trans (bq.mono (unhide hB).size))
                         obtain ⟨p0, p1, p2, p3, p4, p5⟩ := bk6 (Blk.below (unhide kf) bq (unhide kf).lt)
                         obtain ⟨q0, q1, q2, q3, q4, q5⟩ := bk6 (Blk.below (unhide kg) bq (unhide kg).lt)
                         replace bq := hide bq
                         clear bzz)
                      | fail)
                  all_goals go_wp2_with fail
                  all_goals go_ret
                  all_goals exact ⟨rfl, unhide hB9⟩
            | true =>
              rw [tb', bytes_t tb', err_t] at hYb
              have hab1 := unhide hab ta tb'
              generalize tabT a = tta at *
              generalize tabT b = ttb at *
              obtain ⟨Y, hY⟩ : ∃ Y, Y = sameB a b := ⟨_, rfl⟩
              rw [← hY] at hab1
              replace hab1 := hide hab1
              have hS1 : ∀ (v v' : Value) W (hx : Bs 0 W.heap.size W v tta) (hy : Bs 0 W.heap.size W v' ttb), Calls Try.prog 18 #[v, v'] W fun e w' => e = .returned (.bool Y) ∧ Below W.heap.size W w' := fun v v' W hx hy => by
                have := unhide hS v v' tta ttb W hx hy
                rw [unhide hab1] at this
                exact this
              have hT1 : ∀ W (hx : Fls 0 W.heap.size W va a) (hy : Fls 0 W.heap.size W vb b), Calls Try.prog 21 #[va, vb] W fun e w' => e = .returned (.bool Y) ∧ Below W.heap.size W w' := fun W hx hy => by
                have := unhide hT W hx hy
                rw [← hY] at this
                exact this
              replace hYa := hide hYa; replace hYb := hide hYb; replace hS1 := hide hS1; replace hT1 := hide hT1; replace hY := hide hY
              clear ta tb' hab
              cases of : okF f with
              | false =>
                rw [of, one_f of, err_f] at hOf
                generalize oneL g = tg at *
                generalize errB (okF g) = eg at *
                replace hOf := hide hOf; replace hOg := hide hOg
                clear of hfg
                go_enter Try.func7, Try.ntmps7
                go_upto_region 1 with fail
                generalize (w.alloc (.cells #[.string (bz f.nm), .float .f64 f.rk, .int .u32 f.sm, .int .i64 f.bk, .int .i64 f.fr, .int .i64 f.ln] 26)).alloc (.cells #[.string (bz g.nm), .float .f64 g.rk, .int .u32 g.sm, .int .i64 g.bk, .int .i64 g.fr, .int .i64 g.ln] 26) = W0 at *
                obtain ⟨p0, p1, p2, p3, p4, p5⟩ := bk6 (unhide kf)
                obtain ⟨q0, q1, q2, q3, q4, q5⟩ := bk6 (unhide kg)
                have tk0 : True := trivial
                have tk1 : True := trivial
                have tk2 : True := trivial
                have tk3 : True := trivial
                have tk4 : True := trivial
                have tk5 : True := trivial
                have tk6 : True := trivial
                have tk7 : True := trivial
                have tk8 : True := trivial
                go_upto_region 10 with (first
                  | (have _t := tk0; clear tk0 _t; go_at_call 8; refine (unhide hL _).mono ?_; rintro ez wz0 ⟨rfl, bz0⟩; have szz0 := bz0.size; replace hB := hide ((unhide hB).trans (bz0.mono (unhide hB).size)); replace ha := hide (Rd.grow (unhide ha) bz0); replace hb := hide (Rd.grow (unhide hb) bz0); replace kf := hide (Blk.below (unhide kf) bz0 (unhide kf).lt); replace kg := hide (Blk.below (unhide kg) bz0 (unhide kg).lt); clear p0 p1 p2 p3 p4 p5; obtain ⟨p0, p1, p2, p3, p4, p5⟩ := bk6 (unhide kf); clear q0 q1 q2 q3 q4 q5; obtain ⟨q0, q1, q2, q3, q4, q5⟩ := bk6 (unhide kg); clear bz0)
                  | (have _t := tk1; clear tk1 _t; go_at_call 9; refine (unhide hFa _ (unhide ha)).mono ?_; rintro ez wz1 ⟨rfl, bz1⟩; have szz1 := bz1.size; replace hB := hide ((unhide hB).trans (bz1.mono (unhide hB).size)); replace ha := hide (Rd.grow (unhide ha) bz1); replace hb := hide (Rd.grow (unhide hb) bz1); replace kf := hide (Blk.below (unhide kf) bz1 (unhide kf).lt); replace kg := hide (Blk.below (unhide kg) bz1 (unhide kg).lt); clear p0 p1 p2 p3 p4 p5; obtain ⟨p0, p1, p2, p3, p4, p5⟩ := bk6 (unhide kf); clear q0 q1 q2 q3 q4 q5; obtain ⟨q0, q1, q2, q3, q4, q5⟩ := bk6 (unhide kg); clear bz1)
                  | (have _t := tk2; clear tk2 _t; go_at_call 9; refine (unhide hFb _ (unhide hb)).mono ?_; rintro ez wz2 ⟨rfl, bz2⟩; have szz2 := bz2.size; replace hB := hide ((unhide hB).trans (bz2.mono (unhide hB).size)); replace ha := hide (Rd.grow (unhide ha) bz2); replace hb := hide (Rd.grow (unhide hb) bz2); replace kf := hide (Blk.below (unhide kf) bz2 (unhide kf).lt); replace kg := hide (Blk.below (unhide kg) bz2 (unhide kg).lt); clear p0 p1 p2 p3 p4 p5; obtain ⟨p0, p1, p2, p3, p4, p5⟩ := bk6 (unhide kf); clear q0 q1 q2 q3 q4 q5; obtain ⟨q0, q1, q2, q3, q4, q5⟩ := bk6 (unhide kg); clear bz2)
                  | (have _t := tk3; clear tk3 _t; go_at_call 10; refine (unhide hYa _ (unhide ha)).mono ?_; rintro ez wz3 ⟨A1, c1, rfl, ohx, bz3⟩; have szz3 := bz3.size; replace hB := hide ((unhide hB).trans (bz3.mono (unhide hB).size)); replace ha := hide (Rd.grow (unhide ha) bz3); replace hb := hide (Rd.grow (unhide hb) bz3); replace kf := hide (Blk.below (unhide kf) bz3 (unhide kf).lt); replace kg := hide (Blk.below (unhide kg) bz3 (unhide kg).lt); clear p0 p1 p2 p3 p4 p5; obtain ⟨p0, p1, p2, p3, p4, p5⟩ := bk6 (unhide kf); clear q0 q1 q2 q3 q4 q5; obtain ⟨q0, q1, q2, q3, q4, q5⟩ := bk6 (unhide kg); (have hx := hide ohx); clear ohx; clear bz3)
                  | (have _t := tk4; clear tk4 _t; go_at_call 10; refine (unhide hYb _ (unhide hb)).mono ?_; rintro ez wz4 ⟨A2, c2, rfl, ohy, bz4⟩; have szz4 := bz4.size; replace hB := hide ((unhide hB).trans (bz4.mono (unhide hB).size)); replace ha := hide (Rd.grow (unhide ha) bz4); replace hb := hide (Rd.grow (unhide hb) bz4); replace kf := hide (Blk.below (unhide kf) bz4 (unhide kf).lt); replace kg := hide (Blk.below (unhide kg) bz4 (unhide kg).lt); replace hx := hide (Rd.grow (unhide hx) bz4); clear p0 p1 p2 p3 p4 p5; obtain ⟨p0, p1, p2, p3, p4, p5⟩ := bk6 (unhide kf); clear q0 q1 q2 q3 q4 q5; obtain ⟨q0, q1, q2, q3, q4, q5⟩ := bk6 (unhide kg); (have hy := hide ohy); clear ohy; clear bz4)
                  | (have _t := tk5; clear tk5 _t; go_at_call 18; refine (unhide hS1 _ _ _ (unhide hx) (unhide hy)).mono ?_; rintro ez wz5 ⟨rfl, bz5⟩; have szz5 := bz5.size; replace hB := hide ((unhide hB).trans (bz5.mono (unhide hB).size)); replace ha := hide (Rd.grow (unhide ha) bz5); replace hb := hide (Rd.grow (unhide hb) bz5); replace kf := hide (Blk.below (unhide kf) bz5 (unhide kf).lt); replace kg := hide (Blk.below (unhide kg) bz5 (unhide kg).lt); replace hx := hide (Rd.grow (unhide hx) bz5); replace hy := hide (Rd.grow (unhide hy) bz5); clear p0 p1 p2 p3 p4 p5; obtain ⟨p0, p1, p2, p3, p4, p5⟩ := bk6 (unhide kf); clear q0 q1 q2 q3 q4 q5; obtain ⟨q0, q1, q2, q3, q4, q5⟩ := bk6 (unhide kg); clear bz5)
                  | (have _t := tk6; clear tk6 _t; go_at_call 21; refine (unhide hT1 _ (unhide ha) (unhide hb)).mono ?_; rintro ez wz6 ⟨rfl, bz6⟩; have szz6 := bz6.size; replace hB := hide ((unhide hB).trans (bz6.mono (unhide hB).size)); replace ha := hide (Rd.grow (unhide ha) bz6); replace hb := hide (Rd.grow (unhide hb) bz6); replace kf := hide (Blk.below (unhide kf) bz6 (unhide kf).lt); replace kg := hide (Blk.below (unhide kg) bz6 (unhide kg).lt); replace hx := hide (Rd.grow (unhide hx) bz6); replace hy := hide (Rd.grow (unhide hy) bz6); clear p0 p1 p2 p3 p4 p5; obtain ⟨p0, p1, p2, p3, p4, p5⟩ := bk6 (unhide kf); clear q0 q1 q2 q3 q4 q5; obtain ⟨q0, q1, q2, q3, q4, q5⟩ := bk6 (unhide kg); clear bz6)
                  | (have _t := tk7; clear tk7 _t; go_at_call 12; refine (unhide hOf _).mono ?_; rintro ez wz7 ⟨A3, c3, rfl, ohp, bz7⟩; have szz7 := bz7.size; replace hB := hide ((unhide hB).trans (bz7.mono (unhide hB).size)); replace ha := hide (Rd.grow (unhide ha) bz7); replace hb := hide (Rd.grow (unhide hb) bz7); replace kf := hide (Blk.below (unhide kf) bz7 (unhide kf).lt); replace kg := hide (Blk.below (unhide kg) bz7 (unhide kg).lt); replace hx := hide (Rd.grow (unhide hx) bz7); replace hy := hide (Rd.grow (unhide hy) bz7); clear p0 p1 p2 p3 p4 p5; obtain ⟨p0, p1, p2, p3, p4, p5⟩ := bk6 (unhide kf); clear q0 q1 q2 q3 q4 q5; obtain ⟨q0, q1, q2, q3, q4, q5⟩ := bk6 (unhide kg); (have hp := hide ohp); clear ohp; clear bz7)
                  | (have _t := tk8; clear tk8 _t; go_at_call 12; refine (unhide hOg _).mono ?_; rintro ez wz8 ⟨A4, c4, rfl, ohq, bz8⟩; have szz8 := bz8.size; replace hB := hide ((unhide hB).trans (bz8.mono (unhide hB).size)); replace ha := hide (Rd.grow (unhide ha) bz8); replace hb := hide (Rd.grow (unhide hb) bz8); replace kf := hide (Blk.below (unhide kf) bz8 (unhide kf).lt); replace kg := hide (Blk.below (unhide kg) bz8 (unhide kg).lt); replace hx := hide (Rd.grow (unhide hx) bz8); replace hy := hide (Rd.grow (unhide hy) bz8); replace hp := hide (Rd.grow (unhide hp) bz8); clear p0 p1 p2 p3 p4 p5; obtain ⟨p0, p1, p2, p3, p4, p5⟩ := bk6 (unhide kf); clear q0 q1 q2 q3 q4 q5; obtain ⟨q0, q1, q2, q3, q4, q5⟩ := bk6 (unhide kg); (have hq := hide ohq); clear ohq; clear bz8)
                  | fail)
                go_quiet (fail)
                go_wp2_with fail
                all_goals go_ret
                all_goals exact ⟨rfl, bl_drewN (unhide hB) _⟩
              | true =>
                rw [of, one_t of, err_t] at hOf
                cases og : okF g with
                | false =>
                  rw [og, one_f og, err_f] at hOg
                  generalize fileT f = tf at *
                  replace hOf := hide hOf; replace hOg := hide hOg
                  clear of og hfg
                  go_enter Try.func7, Try.ntmps7
                  go_upto_region 1 with fail
                  generalize (w.alloc (.cells #[.string (bz f.nm), .float .f64 f.rk, .int .u32 f.sm, .int .i64 f.bk, .int .i64 f.fr, .int .i64 f.ln] 26)).alloc (.cells #[.string (bz g.nm), .float .f64 g.rk, .int .u32 g.sm, .int .i64 g.bk, .int .i64 g.fr, .int .i64 g.ln] 26) = W0 at *
                  obtain ⟨p0, p1, p2, p3, p4, p5⟩ := bk6 (unhide kf)
                  obtain ⟨q0, q1, q2, q3, q4, q5⟩ := bk6 (unhide kg)
                  have tk0 : True := trivial
                  have tk1 : True := trivial
                  have tk2 : True := trivial
                  have tk3 : True := trivial
                  have tk4 : True := trivial
                  have tk5 : True := trivial
                  have tk6 : True := trivial
                  have tk7 : True := trivial
                  have tk8 : True := trivial
                  go_upto_region 10 with (first
                    | (have _t := tk0; clear tk0 _t; go_at_call 8; refine (unhide hL _).mono ?_; rintro ez wz0 ⟨rfl, bz0⟩; have szz0 := bz0.size; replace hB := hide ((unhide hB).trans (bz0.mono (unhide hB).size)); replace ha := hide (Rd.grow (unhide ha) bz0); replace hb := hide (Rd.grow (unhide hb) bz0); replace kf := hide (Blk.below (unhide kf) bz0 (unhide kf).lt); replace kg := hide (Blk.below (unhide kg) bz0 (unhide kg).lt); clear p0 p1 p2 p3 p4 p5; obtain ⟨p0, p1, p2, p3, p4, p5⟩ := bk6 (unhide kf); clear q0 q1 q2 q3 q4 q5; obtain ⟨q0, q1, q2, q3, q4, q5⟩ := bk6 (unhide kg); clear bz0)
                    | (have _t := tk1; clear tk1 _t; go_at_call 9; refine (unhide hFa _ (unhide ha)).mono ?_; rintro ez wz1 ⟨rfl, bz1⟩; have szz1 := bz1.size; replace hB := hide ((unhide hB).trans (bz1.mono (unhide hB).size)); replace ha := hide (Rd.grow (unhide ha) bz1); replace hb := hide (Rd.grow (unhide hb) bz1); replace kf := hide (Blk.below (unhide kf) bz1 (unhide kf).lt); replace kg := hide (Blk.below (unhide kg) bz1 (unhide kg).lt); clear p0 p1 p2 p3 p4 p5; obtain ⟨p0, p1, p2, p3, p4, p5⟩ := bk6 (unhide kf); clear q0 q1 q2 q3 q4 q5; obtain ⟨q0, q1, q2, q3, q4, q5⟩ := bk6 (unhide kg); clear bz1)
                    | (have _t := tk2; clear tk2 _t; go_at_call 9; refine (unhide hFb _ (unhide hb)).mono ?_; rintro ez wz2 ⟨rfl, bz2⟩; have szz2 := bz2.size; replace hB := hide ((unhide hB).trans (bz2.mono (unhide hB).size)); replace ha := hide (Rd.grow (unhide ha) bz2); replace hb := hide (Rd.grow (unhide hb) bz2); replace kf := hide (Blk.below (unhide kf) bz2 (unhide kf).lt); replace kg := hide (Blk.below (unhide kg) bz2 (unhide kg).lt); clear p0 p1 p2 p3 p4 p5; obtain ⟨p0, p1, p2, p3, p4, p5⟩ := bk6 (unhide kf); clear q0 q1 q2 q3 q4 q5; obtain ⟨q0, q1, q2, q3, q4, q5⟩ := bk6 (unhide kg); clear bz2)
                    | (have _t := tk3; clear tk3 _t; go_at_call 10; refine (unhide hYa _ (unhide ha)).mono ?_; rintro ez wz3 ⟨A1, c1, rfl, ohx, bz3⟩; have szz3 := bz3.size; replace hB := hide ((unhide hB).trans (bz3.mono (unhide hB).size)); replace ha := hide (Rd.grow (unhide ha) bz3); replace hb := hide (Rd.grow (unhide hb) bz3); replace kf := hide (Blk.below (unhide kf) bz3 (unhide kf).lt); replace kg := hide (Blk.below (unhide kg) bz3 (unhide kg).lt); clear p0 p1 p2 p3 p4 p5; obtain ⟨p0, p1, p2, p3, p4, p5⟩ := bk6 (unhide kf); clear q0 q1 q2 q3 q4 q5; obtain ⟨q0, q1, q2, q3, q4, q5⟩ := bk6 (unhide kg); (have hx := hide ohx); clear ohx; clear bz3)
                    | (have _t := tk4; clear tk4 _t; go_at_call 10; refine (unhide hYb _ (unhide hb)).mono ?_; rintro ez wz4 ⟨A2, c2, rfl, ohy, bz4⟩; have szz4 := bz4.size; replace hB := hide ((unhide hB).trans (bz4.mono (unhide hB).size)); replace ha := hide (Rd.grow (unhide ha) bz4); replace hb := hide (Rd.grow (unhide hb) bz4); replace kf := hide (Blk.below (unhide kf) bz4 (unhide kf).lt); replace kg := hide (Blk.below (unhide kg) bz4 (unhide kg).lt); replace hx := hide (Rd.grow (unhide hx) bz4); clear p0 p1 p2 p3 p4 p5; obtain ⟨p0, p1, p2, p3, p4, p5⟩ := bk6 (unhide kf); clear q0 q1 q2 q3 q4 q5; obtain ⟨q0, q1, q2, q3, q4, q5⟩ := bk6 (unhide kg); (have hy := hide ohy); clear ohy; clear bz4)
                    | (have _t := tk5; clear tk5 _t; go_at_call 18; refine (unhide hS1 _ _ _ (unhide hx) (unhide hy)).mono ?_; rintro ez wz5 ⟨rfl, bz5⟩; have szz5 := bz5.size; replace hB := hide ((unhide hB).trans (bz5.mono (unhide hB).size)); replace ha := hide (Rd.grow (unhide ha) bz5); replace hb := hide (Rd.grow (unhide hb) bz5); replace kf := hide (Blk.below (unhide kf) bz5 (unhide kf).lt); replace kg := hide (Blk.below (unhide kg) bz5 (unhide kg).lt); replace hx := hide (Rd.grow (unhide hx) bz5); replace hy := hide (Rd.grow (unhide hy) bz5); clear p0 p1 p2 p3 p4 p5; obtain ⟨p0, p1, p2, p3, p4, p5⟩ := bk6 (unhide kf); clear q0 q1 q2 q3 q4 q5; obtain ⟨q0, q1, q2, q3, q4, q5⟩ := bk6 (unhide kg); clear bz5)
                    | (have _t := tk6; clear tk6 _t; go_at_call 21; refine (unhide hT1 _ (unhide ha) (unhide hb)).mono ?_; rintro ez wz6 ⟨rfl, bz6⟩; have szz6 := bz6.size; replace hB := hide ((unhide hB).trans (bz6.mono (unhide hB).size)); replace ha := hide (Rd.grow (unhide ha) bz6); replace hb := hide (Rd.grow (unhide hb) bz6); replace kf := hide (Blk.below (unhide kf) bz6 (unhide kf).lt); replace kg := hide (Blk.below (unhide kg) bz6 (unhide kg).lt); replace hx := hide (Rd.grow (unhide hx) bz6); replace hy := hide (Rd.grow (unhide hy) bz6); clear p0 p1 p2 p3 p4 p5; obtain ⟨p0, p1, p2, p3, p4, p5⟩ := bk6 (unhide kf); clear q0 q1 q2 q3 q4 q5; obtain ⟨q0, q1, q2, q3, q4, q5⟩ := bk6 (unhide kg); clear bz6)
                    | (have _t := tk7; clear tk7 _t; go_at_call 12; refine (unhide hOf _).mono ?_; rintro ez wz7 ⟨A3, c3, rfl, ohp, bz7⟩; have szz7 := bz7.size; replace hB := hide ((unhide hB).trans (bz7.mono (unhide hB).size)); replace ha := hide (Rd.grow (unhide ha) bz7); replace hb := hide (Rd.grow (unhide hb) bz7); replace kf := hide (Blk.below (unhide kf) bz7 (unhide kf).lt); replace kg := hide (Blk.below (unhide kg) bz7 (unhide kg).lt); replace hx := hide (Rd.grow (unhide hx) bz7); replace hy := hide (Rd.grow (unhide hy) bz7); clear p0 p1 p2 p3 p4 p5; obtain ⟨p0, p1, p2, p3, p4, p5⟩ := bk6 (unhide kf); clear q0 q1 q2 q3 q4 q5; obtain ⟨q0, q1, q2, q3, q4, q5⟩ := bk6 (unhide kg); (have hp := hide ohp); clear ohp; clear bz7)
                    | (have _t := tk8; clear tk8 _t; go_at_call 12; refine (unhide hOg _).mono ?_; rintro ez wz8 ⟨A4, c4, rfl, ohq, bz8⟩; have szz8 := bz8.size; replace hB := hide ((unhide hB).trans (bz8.mono (unhide hB).size)); replace ha := hide (Rd.grow (unhide ha) bz8); replace hb := hide (Rd.grow (unhide hb) bz8); replace kf := hide (Blk.below (unhide kf) bz8 (unhide kf).lt); replace kg := hide (Blk.below (unhide kg) bz8 (unhide kg).lt); replace hx := hide (Rd.grow (unhide hx) bz8); replace hy := hide (Rd.grow (unhide hy) bz8); replace hp := hide (Rd.grow (unhide hp) bz8); clear p0 p1 p2 p3 p4 p5; obtain ⟨p0, p1, p2, p3, p4, p5⟩ := bk6 (unhide kf); clear q0 q1 q2 q3 q4 q5; obtain ⟨q0, q1, q2, q3, q4, q5⟩ := bk6 (unhide kg); (have hq := hide ohq); clear ohq; clear bz8)
                    | fail)
                  go_quiet (fail)
                  go_wp2_with fail
                  all_goals go_ret
                  all_goals exact ⟨rfl, bl_drewN (unhide hB) _⟩
                | true =>
                  rw [og, one_t og, err_t] at hOg
                  have hfg1 := unhide hfg of og
                  generalize fileT f = tf at *
                  generalize fileT g = tg at *
                  obtain ⟨X, hX⟩ : ∃ X, X = sameB [f] [g] := ⟨_, rfl⟩
                  rw [← hX] at hfg1
                  replace hX := hide hX.symm
                  replace hOf := hide hOf; replace hOg := hide hOg; replace hfg1 := hide hfg1
                  clear of og hfg
                  go_enter Try.func7, Try.ntmps7
                  go_upto_region 1 with fail
                  generalize (w.alloc (.cells #[.string (bz f.nm), .float .f64 f.rk, .int .u32 f.sm, .int .i64 f.bk, .int .i64 f.fr, .int .i64 f.ln] 26)).alloc (.cells #[.string (bz g.nm), .float .f64 g.rk, .int .u32 g.sm, .int .i64 g.bk, .int .i64 g.fr, .int .i64 g.ln] 26) = W0 at *
                  obtain ⟨p0, p1, p2, p3, p4, p5⟩ := bk6 (unhide kf)
                  obtain ⟨q0, q1, q2, q3, q4, q5⟩ := bk6 (unhide kg)
                  have tk0 : True := trivial
                  have tk1 : True := trivial
                  have tk2 : True := trivial
                  have tk3 : True := trivial
                  have tk4 : True := trivial
                  have tk5 : True := trivial
                  have tk6 : True := trivial
                  have tk7 : True := trivial
                  have tk8 : True := trivial
                  go_upto_region 10 with (first
                    | (have _t := tk0; clear tk0 _t; go_at_call 8; refine (unhide hL _).mono ?_; rintro ez wz0 ⟨rfl, bz0⟩; have szz0 := bz0.size; replace hB := hide ((unhide hB).trans (bz0.mono (unhide hB).size)); replace ha := hide (Rd.grow (unhide ha) bz0); replace hb := hide (Rd.grow (unhide hb) bz0); replace kf := hide (Blk.below (unhide kf) bz0 (unhide kf).lt); replace kg := hide (Blk.below (unhide kg) bz0 (unhide kg).lt); clear p0 p1 p2 p3 p4 p5; obtain ⟨p0, p1, p2, p3, p4, p5⟩ := bk6 (unhide kf); clear q0 q1 q2 q3 q4 q5; obtain ⟨q0, q1, q2, q3, q4, q5⟩ := bk6 (unhide kg); clear bz0)
                    | (have _t := tk1; clear tk1 _t; go_at_call 9; refine (unhide hFa _ (unhide ha)).mono ?_; rintro ez wz1 ⟨rfl, bz1⟩; have szz1 := bz1.size; replace hB := hide ((unhide hB).trans (bz1.mono (unhide hB).size)); replace ha := hide (Rd.grow (unhide ha) bz1); replace hb := hide (Rd.grow (unhide hb) bz1); replace kf := hide (Blk.below (unhide kf) bz1 (unhide kf).lt); replace kg := hide (Blk.below (unhide kg) bz1 (unhide kg).lt); clear p0 p1 p2 p3 p4 p5; obtain ⟨p0, p1, p2, p3, p4, p5⟩ := bk6 (unhide kf); clear q0 q1 q2 q3 q4 q5; obtain ⟨q0, q1, q2, q3, q4, q5⟩ := bk6 (unhide kg); clear bz1)
                    | (have _t := tk2; clear tk2 _t; go_at_call 9; refine (unhide hFb _ (unhide hb)).mono ?_; rintro ez wz2 ⟨rfl, bz2⟩; have szz2 := bz2.size; replace hB := hide ((unhide hB).trans (bz2.mono (unhide hB).size)); replace ha := hide (Rd.grow (unhide ha) bz2); replace hb := hide (Rd.grow (unhide hb) bz2); replace kf := hide (Blk.below (unhide kf) bz2 (unhide kf).lt); replace kg := hide (Blk.below (unhide kg) bz2 (unhide kg).lt); clear p0 p1 p2 p3 p4 p5; obtain ⟨p0, p1, p2, p3, p4, p5⟩ := bk6 (unhide kf); clear q0 q1 q2 q3 q4 q5; obtain ⟨q0, q1, q2, q3, q4, q5⟩ := bk6 (unhide kg); clear bz2)
                    | (have _t := tk3; clear tk3 _t; go_at_call 10; refine (unhide hYa _ (unhide ha)).mono ?_; rintro ez wz3 ⟨A1, c1, rfl, ohx, bz3⟩; have szz3 := bz3.size; replace hB := hide ((unhide hB).trans (bz3.mono (unhide hB).size)); replace ha := hide (Rd.grow (unhide ha) bz3); replace hb := hide (Rd.grow (unhide hb) bz3); replace kf := hide (Blk.below (unhide kf) bz3 (unhide kf).lt); replace kg := hide (Blk.below (unhide kg) bz3 (unhide kg).lt); clear p0 p1 p2 p3 p4 p5; obtain ⟨p0, p1, p2, p3, p4, p5⟩ := bk6 (unhide kf); clear q0 q1 q2 q3 q4 q5; obtain ⟨q0, q1, q2, q3, q4, q5⟩ := bk6 (unhide kg); (have hx := hide ohx); clear ohx; clear bz3)
                    | (have _t := tk4; clear tk4 _t; go_at_call 10; refine (unhide hYb _ (unhide hb)).mono ?_; rintro ez wz4 ⟨A2, c2, rfl, ohy, bz4⟩; have szz4 := bz4.size; replace hB := hide ((unhide hB).trans (bz4.mono (unhide hB).size)); replace ha := hide (Rd.grow (unhide ha) bz4); replace hb := hide (Rd.grow (unhide hb) bz4); replace kf := hide (Blk.below (unhide kf) bz4 (unhide kf).lt); replace kg := hide (Blk.below (unhide kg) bz4 (unhide kg).lt); replace hx := hide (Rd.grow (unhide hx) bz4); clear p0 p1 p2 p3 p4 p5; obtain ⟨p0, p1, p2, p3, p4, p5⟩ := bk6 (unhide kf); clear q0 q1 q2 q3 q4 q5; obtain ⟨q0, q1, q2, q3, q4, q5⟩ := bk6 (unhide kg); (have hy := hide ohy); clear ohy; clear bz4)
                    | (have _t := tk5; clear tk5 _t; go_at_call 18; refine (unhide hS1 _ _ _ (unhide hx) (unhide hy)).mono ?_; rintro ez wz5 ⟨rfl, bz5⟩; have szz5 := bz5.size; replace hB := hide ((unhide hB).trans (bz5.mono (unhide hB).size)); replace ha := hide (Rd.grow (unhide ha) bz5); replace hb := hide (Rd.grow (unhide hb) bz5); replace kf := hide (Blk.below (unhide kf) bz5 (unhide kf).lt); replace kg := hide (Blk.below (unhide kg) bz5 (unhide kg).lt); replace hx := hide (Rd.grow (unhide hx) bz5); replace hy := hide (Rd.grow (unhide hy) bz5); clear p0 p1 p2 p3 p4 p5; obtain ⟨p0, p1, p2, p3, p4, p5⟩ := bk6 (unhide kf); clear q0 q1 q2 q3 q4 q5; obtain ⟨q0, q1, q2, q3, q4, q5⟩ := bk6 (unhide kg); clear bz5)
                    | (have _t := tk6; clear tk6 _t; go_at_call 21; refine (unhide hT1 _ (unhide ha) (unhide hb)).mono ?_; rintro ez wz6 ⟨rfl, bz6⟩; have szz6 := bz6.size; replace hB := hide ((unhide hB).trans (bz6.mono (unhide hB).size)); replace ha := hide (Rd.grow (unhide ha) bz6); replace hb := hide (Rd.grow (unhide hb) bz6); replace kf := hide (Blk.below (unhide kf) bz6 (unhide kf).lt); replace kg := hide (Blk.below (unhide kg) bz6 (unhide kg).lt); replace hx := hide (Rd.grow (unhide hx) bz6); replace hy := hide (Rd.grow (unhide hy) bz6); clear p0 p1 p2 p3 p4 p5; obtain ⟨p0, p1, p2, p3, p4, p5⟩ := bk6 (unhide kf); clear q0 q1 q2 q3 q4 q5; obtain ⟨q0, q1, q2, q3, q4, q5⟩ := bk6 (unhide kg); clear bz6)
                    | (have _t := tk7; clear tk7 _t; go_at_call 12; refine (unhide hOf _).mono ?_; rintro ez wz7 ⟨A3, c3, rfl, ohp, bz7⟩; have szz7 := bz7.size; replace hB := hide ((unhide hB).trans (bz7.mono (unhide hB).size)); replace ha := hide (Rd.grow (unhide ha) bz7); replace hb := hide (Rd.grow (unhide hb) bz7); replace kf := hide (Blk.below (unhide kf) bz7 (unhide kf).lt); replace kg := hide (Blk.below (unhide kg) bz7 (unhide kg).lt); replace hx := hide (Rd.grow (unhide hx) bz7); replace hy := hide (Rd.grow (unhide hy) bz7); clear p0 p1 p2 p3 p4 p5; obtain ⟨p0, p1, p2, p3, p4, p5⟩ := bk6 (unhide kf); clear q0 q1 q2 q3 q4 q5; obtain ⟨q0, q1, q2, q3, q4, q5⟩ := bk6 (unhide kg); (have hp := hide ohp); clear ohp; clear bz7)
                    | (have _t := tk8; clear tk8 _t; go_at_call 12; refine (unhide hOg _).mono ?_; rintro ez wz8 ⟨A4, c4, rfl, ohq, bz8⟩; have szz8 := bz8.size; replace hB := hide ((unhide hB).trans (bz8.mono (unhide hB).size)); replace ha := hide (Rd.grow (unhide ha) bz8); replace hb := hide (Rd.grow (unhide hb) bz8); replace kf := hide (Blk.below (unhide kf) bz8 (unhide kf).lt); replace kg := hide (Blk.below (unhide kg) bz8 (unhide kg).lt); replace hx := hide (Rd.grow (unhide hx) bz8); replace hy := hide (Rd.grow (unhide hy) bz8); replace hp := hide (Rd.grow (unhide hp) bz8); clear p0 p1 p2 p3 p4 p5; obtain ⟨p0, p1, p2, p3, p4, p5⟩ := bk6 (unhide kf); clear q0 q1 q2 q3 q4 q5; obtain ⟨q0, q1, q2, q3, q4, q5⟩ := bk6 (unhide kg); (have hq := hide ohq); clear ohq; clear bz8)
                    | fail)
                  have x6 := (unhide kf).lt
                  have x7 := (unhide kg).lt
                  have H18 : ∀ W, Below wz8.heap.size wz8 W → Calls Try.prog 18 #[.slice A3 tf.length c3, .slice A4 tg.length c4] W fun e w' => e = .returned (.bool X) ∧ W = w' := fun W hW => by
                    have := sameBytes_any 0 wz8.heap.size 0 wz8.heap.size (.slice A3 tf.length c3) (.slice A4 tg.length c4) tf tg W (Rd.below (unhide hp) hW (Nat.le_refl _)) (Rd.below (unhide hq) hW (Nat.le_refl _))
                    rw [unhide hfg1] at this
                    exact this
                  have H18a := hide (H18 wz8.drew (Below.drew (Below.refl _ _)))
                  have H18b := hide (H18 (wz8.alloc (.cells #[.string (bz f.nm), .float .f64 f.rk, .int .u32 f.sm, .int .i64 f.bk, .int .i64 f.fr, .int .i64 f.ln] 26)).drew (Below.drew (bl_alloc (Below.refl _ _) _)))
                  have H18c := hide (H18 (wz8.alloc (.cells #[.string (bz g.nm), .float .f64 g.rk, .int .u32 g.sm, .int .i64 g.bk, .int .i64 g.fr, .int .i64 g.ln] 26)).drew (Below.drew (bl_alloc (Below.refl _ _) _)))
                  have H18d := hide (H18 ((wz8.alloc (.cells #[.string (bz f.nm), .float .f64 f.rk, .int .u32 f.sm, .int .i64 f.bk, .int .i64 f.fr, .int .i64 f.ln] 26)).alloc (.cells #[.string (bz g.nm), .float .f64 g.rk, .int .u32 g.sm, .int .i64 g.bk, .int .i64 g.fr, .int .i64 g.ln] 26)).drew (Below.drew (bl_alloc (bl_alloc (Below.refl _ _) _) _)))
                  have H18e := hide (H18 ((wz8.alloc (.cells #[.string (bz g.nm), .float .f64 g.rk, .int .u32 g.sm, .int .i64 g.bk, .int .i64 g.fr, .int .i64 g.ln] 26)).alloc (.cells #[.string (bz f.nm), .float .f64 f.rk, .int .u32 f.sm, .int .i64 f.bk, .int .i64 f.fr, .int .i64 f.ln] 26)).drew (Below.drew (bl_alloc (bl_alloc (Below.refl _ _) _) _)))
                  replace H18 := hide H18
                  have H21a : Calls Try.prog 21 #[.slice (some ⟨wz8.heap.size, 0, none⟩) 1 1, .slice (some ⟨wz8.heap.size + 1, 0, none⟩) 1 1] ((wz8.alloc (.cells #[.string (bz f.nm), .float .f64 f.rk, .int .u32 f.sm, .int .i64 f.bk, .int .i64 f.fr, .int .i64 f.ln] 26)).alloc (.cells #[.string (bz g.nm), .float .f64 g.rk, .int .u32 g.sm, .int .i64 g.bk, .int .i64 g.fr, .int .i64 g.ln] 26)).drew fun e w' => e = .returned (.bool X) ∧ Below ((wz8.alloc (.cells #[.string (bz f.nm), .float .f64 f.rk, .int .u32 f.sm, .int .i64 f.bk, .int .i64 f.fr, .int .i64 f.ln] 26)).alloc (.cells #[.string (bz g.nm), .float .f64 g.rk, .int .u32 g.sm, .int .i64 g.bk, .int .i64 g.fr, .int .i64 g.ln] 26)).drew.heap.size ((wz8.alloc (.cells #[.string (bz f.nm), .float .f64 f.rk, .int .u32 f.sm, .int .i64 f.bk, .int .i64 f.fr, .int .i64 f.ln] 26)).alloc (.cells #[.string (bz g.nm), .float .f64 g.rk, .int .u32 g.sm, .int .i64 g.bk, .int .i64 g.fr, .int .i64 g.ln] 26)).drew w' := by
                    have := tsame_any 0 _ 0 _ _ _ [f] [g] ((wz8.alloc (.cells #[.string (bz f.nm), .float .f64 f.rk, .int .u32 f.sm, .int .i64 f.bk, .int .i64 f.fr, .int .i64 f.ln] 26)).alloc (.cells #[.string (bz g.nm), .float .f64 g.rk, .int .u32 g.sm, .int .i64 g.bk, .int .i64 g.fr, .int .i64 g.ln] 26)).drew (one_fls ((Blk.new rfl).alloc _)) (one_fls (Blk.drew (Blk.new (g := wz8.heap.size + 1) (by simp only [World.size_alloc])))) (Nat.le_refl _) (Nat.le_refl _) (unhide smf) (unhide smg)
                    rw [unhide hX] at this
                    exact this
                  replace H21a := hide H21a
                  have H21b : Calls Try.prog 21 #[.slice (some ⟨wz8.heap.size + 1, 0, none⟩) 1 1, .slice (some ⟨wz8.heap.size, 0, none⟩) 1 1] ((wz8.alloc (.cells #[.string (bz g.nm), .float .f64 g.rk, .int .u32 g.sm, .int .i64 g.bk, .int .i64 g.fr, .int .i64 g.ln] 26)).alloc (.cells #[.string (bz f.nm), .float .f64 f.rk, .int .u32 f.sm, .int .i64 f.bk, .int .i64 f.fr, .int .i64 f.ln] 26)).drew fun e w' => e = .returned (.bool X) ∧ Below ((wz8.alloc (.cells #[.string (bz g.nm), .float .f64 g.rk, .int .u32 g.sm, .int .i64 g.bk, .int .i64 g.fr, .int .i64 g.ln] 26)).alloc (.cells #[.string (bz f.nm), .float .f64 f.rk, .int .u32 f.sm, .int .i64 f.bk, .int .i64 f.fr, .int .i64 f.ln] 26)).drew.heap.size ((wz8.alloc (.cells #[.string (bz g.nm), .float .f64 g.rk, .int .u32 g.sm, .int .i64 g.bk, .int .i64 g.fr, .int .i64 g.ln] 26)).alloc (.cells #[.string (bz f.nm), .float .f64 f.rk, .int .u32 f.sm, .int .i64 f.bk, .int .i64 f.fr, .int .i64 f.ln] 26)).drew w' := by
                    have := tsame_any 0 _ 0 _ _ _ [f] [g] ((wz8.alloc (.cells #[.string (bz g.nm), .float .f64 g.rk, .int .u32 g.sm, .int .i64 g.bk, .int .i64 g.fr, .int .i64 g.ln] 26)).alloc (.cells #[.string (bz f.nm), .float .f64 f.rk, .int .u32 f.sm, .int .i64 f.bk, .int .i64 f.fr, .int .i64 f.ln] 26)).drew (one_fls (Blk.drew (Blk.new (g := wz8.heap.size + 1) (by simp only [World.size_alloc])))) (one_fls ((Blk.new rfl).alloc _)) (Nat.le_refl _) (Nat.le_refl _) (unhide smf) (unhide smg)
                    rw [unhide hX] at this
                    exact this
                  replace H21b := hide H21b
                  go_region_held3 (fun W => W.cell? ⟨w.heap.size, 0, none⟩ = some (.string (bz f.nm)) ∧ W.cell? ⟨w.heap.size, 1, none⟩ = some (.float .f64 f.rk) ∧ W.cell? ⟨w.heap.size, 2, none⟩ = some (.int .u32 f.sm) ∧ W.cell? ⟨w.heap.size, 3, none⟩ = some (.int .i64 f.bk) ∧ W.cell? ⟨w.heap.size, 4, none⟩ = some (.int .i64 f.fr) ∧ W.cell? ⟨w.heap.size, 5, none⟩ = some (.int .i64 f.ln) ∧ W.cell? ⟨w.heap.size + 1, 0, none⟩ = some (.string (bz g.nm)) ∧ W.cell? ⟨w.heap.size + 1, 1, none⟩ = some (.float .f64 g.rk) ∧ W.cell? ⟨w.heap.size + 1, 2, none⟩ = some (.int .u32 g.sm) ∧ W.cell? ⟨w.heap.size + 1, 3, none⟩ = some (.int .i64 g.bk) ∧ W.cell? ⟨w.heap.size + 1, 4, none⟩ = some (.int .i64 g.fr) ∧ W.cell? ⟨w.heap.size + 1, 5, none⟩ = some (.int .i64 g.ln)) (first | exact ⟨by with_reducible assumption, by with_reducible assumption, by with_reducible assumption, by with_reducible assumption, by with_reducible assumption, by with_reducible assumption, by with_reducible assumption, by with_reducible assumption, by with_reducible assumption, by with_reducible assumption, by with_reducible assumption, by with_reducible assumption⟩ | exact ⟨by go_simp, by go_simp, by go_simp, by go_simp, by go_simp, by go_simp, by go_simp, by go_simp, by go_simp, by go_simp, by go_simp, by go_simp⟩)
                    (first
                      | (go_at_call 18; with_reducible refine (unhide H18a).mono ?_; rintro e wr ⟨rfl, rfl⟩)
                      | (go_at_call 18; with_reducible refine (unhide H18b).mono ?_; rintro e wr ⟨rfl, rfl⟩)
                      | (go_at_call 18; with_reducible refine (unhide H18c).mono ?_; rintro e wr ⟨rfl, rfl⟩)
                      | (go_at_call 18; with_reducible refine (unhide H18d).mono ?_; rintro e wr ⟨rfl, rfl⟩)
                      | (go_at_call 18; with_reducible refine (unhide H18e).mono ?_; rintro e wr ⟨rfl, rfl⟩)
                      | (go_at_call 18; with_reducible refine (unhide H18 _ (unhide bq)).mono ?_; rintro e wr ⟨rfl, rfl⟩)
                      | (go_at_call 21; with_reducible refine (unhide H21a).mono ?_; rintro e wq ⟨rfl, bzz⟩
                         have bq : Below wz8.heap.size wz8 wq := Below.trans (b := ((wz8.alloc (.cells #[.string (bz f.nm), .float .f64 f.rk, .int .u32 f.sm, .int .i64 f.bk, .int .i64 f.fr, .int .i64 f.ln] 26)).alloc (.cells #[.string (bz g.nm), .float .f64 g.rk, .int .u32 g.sm, .int .i64 g.bk, .int .i64 g.fr, .int .i64 g.ln] 26)).drew) (Below.drew (bl_alloc (bl_alloc (Below.refl _ _) _) _)) (bzz.mono (show wz8.heap.size ≤ ((wz8.alloc _).alloc _).heap.size by simp only [World.size_alloc]; omega))
                         have hB9 := hide ((unhide hB).trans (bq.mono (unhide hB).size))
                         obtain ⟨p0, p1, p2, p3, p4, p5⟩ := bk6 (Blk.below (unhide kf) bq (unhide kf).lt)
                         obtain ⟨q0, q1, q2, q3, q4, q5⟩ := bk6 (Blk.below (unhide kg) bq (unhide kg).lt)
                         replace bq := hide bq
                         clear bzz)
                      | (go_at_call 21; with_reducible refine (unhide H21b).mono ?_; rintro e wq ⟨rfl, bzz⟩
                         have bq : Below wz8.heap.size wz8 wq := Below.trans (b := ((wz8.alloc (.cells #[.string (bz g.nm), .float .f64 g.rk, .int .u32 g.sm, .int .i64 g.bk, .int .i64 g.fr, .int .i64 g.ln] 26)).alloc (.cells #[.string (bz f.nm), .float .f64 f.rk, .int .u32 f.sm, .int .i64 f.bk, .int .i64 f.fr, .int .i64 f.ln] 26)).drew) (Below.drew (bl_alloc (bl_alloc (Below.refl _ _) _) _)) (bzz.mono (show wz8.heap.size ≤ ((wz8.alloc _).alloc _).heap.size by simp only [World.size_alloc]; omega))
                         have hB9 := hide ((unhide hB).trans (bq.mono (unhide hB).size))
                         obtain ⟨p0, p1, p2, p3, p4, p5⟩ := bk6 (Blk.below (unhide kf) bq (unhide kf).lt)
                         obtain ⟨q0, q1, q2, q3, q4, q5⟩ := bk6 (Blk.below (unhide kg) bq (unhide kg).lt)
                         replace bq := hide bq
                         clear bzz)
                      | fail)
                  all_goals go_wp2_with fail
                  all_goals go_ret
                  all_goals exact ⟨rfl, unhide hB9⟩
end Go.Proofs.Ytnjepbehfioclaa
