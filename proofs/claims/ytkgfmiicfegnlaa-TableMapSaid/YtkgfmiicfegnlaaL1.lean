import Derived.Test.YtkgfmiicfegnlaaV10
namespace Go.Proofs.Ytkgfmiicfegnlaa
open Go.RowKit
attribute [local go_sem] bz_size bz_toList run_store_float
set_option maxRecDepth 100000

theorem there_put (l : List Fl) (f : Fl) (p : List UInt8) : thereB (putF l f) p = (thereB l p || f.nm == p) := by
  rw [Bool.eq_iff_iff, there_iff, Bool.or_eq_true, there_iff, beq_iff_eq]
  constructor
  · rintro ⟨x, hx, e⟩
    rcases mem_put.1 hx with rfl | ⟨h1, h2⟩
    · exact .inr e
    · exact .inl ⟨x, h1, e⟩
  · rintro (⟨x, hx, e⟩ | e)
    · by_cases h : x.nm = f.nm
      · exact ⟨f, mem_put.2 (.inl rfl), h.symm.trans e⟩
      · exact ⟨x, mem_put.2 (.inr ⟨hx, h⟩), e⟩
    · exact ⟨f, mem_put.2 (.inl rfl), e⟩
theorem put_comm {l : List Fl} (h : Up l) {f g : Fl} (hn : f.nm ≠ g.nm) : putF (putF l f) g = putF (putF l g) f := by
  refine up_ext (up_put (up_put h f) g) (up_put (up_put h g) f) fun x => ?_
  rw [mem_put, mem_put, mem_put, mem_put]
  constructor
  · rintro (rfl | ⟨rfl | ⟨h1, h2⟩, h3⟩)
    · exact .inr ⟨.inl rfl, fun e => hn e.symm⟩
    · exact .inl rfl
    · exact .inr ⟨.inr ⟨h1, h3⟩, h2⟩
  · rintro (rfl | ⟨rfl | ⟨h1, h2⟩, h3⟩)
    · exact .inr ⟨.inl rfl, hn⟩
    · exact .inl rfl
    · exact .inr ⟨.inr ⟨h1, h3⟩, h2⟩
theorem del_put {l : List Fl} (h : Up l) {f : Fl} (hn : thereB l f.nm = false) : delF (putF l f) f.nm = l := by
  refine up_ext (up_del (up_put h f) _) h fun x => ?_
  rw [mem_del, mem_put]
  have hh := there_no.1 hn
  constructor
  · rintro ⟨rfl | ⟨h1, _⟩, h3⟩
    · exact absurd rfl h3
    · exact h1
  · intro hx
    exact ⟨.inr ⟨hx, hh x hx⟩, hh x hx⟩
theorem sm_few {l : List Fl} (hr : ∀ x ∈ l, x.rk < 18446744073709551616) (hf : fewB l = true) : SmL l := fun f h => ⟨by have := (few_iff hf).1 f h; omega, hr f h⟩
theorem putR_60 {l : List Fl} {f : Fl} (h1 : tabB l = true) (h2 : okF f = true) (h3 : l.length < 256) : putR l f = (putF l f, 0) := putR_ok h1 h2 (fun h => by omega)
theorem tab_60 {l : List Fl} {f : Fl} (h1 : tabB l = true) (h2 : okF f = true) (h3 : l.length < 256) : tabB (putF l f) = true := tab_put h1 h2 (.inr h3)
theorem len_put_le {l : List Fl} (h : Up l) (f : Fl) : (putF l f).length ≤ l.length + 1 := by rw [len_put h]; split <;> omega
theorem sm_putF {l : List Fl} {f : Fl} (h : SmL l) (hf : SmF f) : SmL (putF l f) := fun x hx => by
  rcases mem_put.1 hx with rfl | ⟨h1, _⟩
  · exact hf
  · exact h x h1

set_option maxHeartbeats 8000000 in
theorem TableOrder_any (v : Value) (l : List Fl) (f g : Fl) (w : World) (h : Fls 0 w.heap.size w v l) (hr : ∀ x ∈ l, x.rk < 18446744073709551616) (hrf : f.rk < 18446744073709551616) (hrg : g.rk < 18446744073709551616) :
    Calls Try.prog 8 #[v, (.agg #[.string (bz f.nm), .float .f64 f.rk, .int .u32 f.sm, .int .i64 f.bk, .int .i64 f.fr, .int .i64 f.ln]), (.agg #[.string (bz g.nm), .float .f64 g.rk, .int .u32 g.sm, .int .i64 g.bk, .int .i64 g.fr, .int .i64 g.ln])] w fun e w' => e = .returned (.bool true) ∧ Below w.heap.size w w' := by
  have hL := fun W => live_any W
  have hF := fun W (h : Fls 0 W.heap.size W v l) => few_any 0 W.heap.size v l W h (Nat.le_refl _)
  obtain ⟨W2, hW2⟩ : ∃ W2, W2 = (w.alloc (.cells #[.string (bz f.nm), .float .f64 f.rk, .int .u32 f.sm, .int .i64 f.bk, .int .i64 f.fr, .int .i64 f.ln] 26)).alloc (.cells #[.string (bz g.nm), .float .f64 g.rk, .int .u32 g.sm, .int .i64 g.bk, .int .i64 g.fr, .int .i64 g.ln] 26) := ⟨_, rfl⟩
  have hB : Below w.heap.size w W2 := by rw [hW2]; exact bl_alloc (bl_alloc (Below.refl _ _) _) _
  have qf : Blk W2 w.heap.size 26 #[.string (bz f.nm), .float .f64 f.rk, .int .u32 f.sm, .int .i64 f.bk, .int .i64 f.fr, .int .i64 f.ln] := by rw [hW2]; exact (Blk.new rfl).alloc _
  have qg : Blk W2 (w.heap.size + 1) 26 #[.string (bz g.nm), .float .f64 g.rk, .int .u32 g.sm, .int .i64 g.bk, .int .i64 g.fr, .int .i64 g.ln] := by rw [hW2]; exact Blk.new (by simp only [World.size_alloc])
  have hl : Fls 0 W2.heap.size W2 v l := h.grow hB
  obtain ⟨f0, f1, f2, f3, f4, f5⟩ := bk6 qf
  obtain ⟨g0, g1, g2, g3, g4, g5⟩ := bk6 qg
  obtain ⟨A, c, rfl, h1, h2, h3⟩ := h
  clear h3
  replace hL := hide hL; replace hB := hide hB; replace qf := hide qf; replace qg := hide qg; replace hl := hide hl
  cases hfew : fewB l with
  | false =>
    rw [hfew] at hF
    replace hF := hide hF
    clear hfew hr
    have tk0 : True := trivial
    have tk1 : True := trivial
    go_enter Try.func8, Try.ntmps8
    go_upto_region 1 with (fail)
    rw [← hW2]
    clear hW2
    go_wp2_with (first
      | (have _t := tk0; clear tk0 _t; go_at_call 9; refine (unhide hL _).mono ?_; rintro ez wz0 ⟨rfl, bz0⟩; replace hB := hide ((unhide hB).trans (bz0.mono (unhide hB).size)); replace hl := hide ((unhide hl).grow bz0); replace qf := hide ((unhide qf).below bz0 (unhide qf).lt); replace qg := hide ((unhide qg).below bz0 (unhide qg).lt); clear f0 f1 f2 f3 f4 f5; obtain ⟨f0, f1, f2, f3, f4, f5⟩ := bk6 (unhide qf); clear g0 g1 g2 g3 g4 g5; obtain ⟨g0, g1, g2, g3, g4, g5⟩ := bk6 (unhide qg); clear bz0)
      | (have _t := tk1; clear tk1 _t; go_at_call 10; refine (unhide hF _ (unhide hl)).mono ?_; rintro ez wz1 ⟨rfl, bz1⟩; replace hB := hide ((unhide hB).trans (bz1.mono (unhide hB).size)); replace hl := hide ((unhide hl).grow bz1); replace qf := hide ((unhide qf).below bz1 (unhide qf).lt); replace qg := hide ((unhide qg).below bz1 (unhide qg).lt); clear f0 f1 f2 f3 f4 f5; obtain ⟨f0, f1, f2, f3, f4, f5⟩ := bk6 (unhide qf); clear g0 g1 g2 g3 g4 g5; obtain ⟨g0, g1, g2, g3, g4, g5⟩ := bk6 (unhide qg); clear bz1)
      | fail)
    go_ret
    exact ⟨rfl, unhide hB⟩
  | true =>
    have hs := sm_few hr hfew
    rw [hfew] at hF
    replace hF := hide hF
    clear hfew hr
    by_cases h60 : 60 < l.length
    · have d60 : decide ((l.length : Int) > 60) = true := decide_eq_true (by omega)
      have tk0 : True := trivial
      have tk1 : True := trivial
      go_enter Try.func8, Try.ntmps8
      go_upto_region 1 with (fail)
      rw [← hW2]
      clear hW2
      go_wp2_with (first
        | (have _t := tk0; clear tk0 _t; go_at_call 9; refine (unhide hL _).mono ?_; rintro ez wz0 ⟨rfl, bz0⟩; replace hB := hide ((unhide hB).trans (bz0.mono (unhide hB).size)); replace hl := hide ((unhide hl).grow bz0); replace qf := hide ((unhide qf).below bz0 (unhide qf).lt); replace qg := hide ((unhide qg).below bz0 (unhide qg).lt); clear f0 f1 f2 f3 f4 f5; obtain ⟨f0, f1, f2, f3, f4, f5⟩ := bk6 (unhide qf); clear g0 g1 g2 g3 g4 g5; obtain ⟨g0, g1, g2, g3, g4, g5⟩ := bk6 (unhide qg); clear bz0)
        | (have _t := tk1; clear tk1 _t; go_at_call 10; refine (unhide hF _ (unhide hl)).mono ?_; rintro ez wz1 ⟨rfl, bz1⟩; replace hB := hide ((unhide hB).trans (bz1.mono (unhide hB).size)); replace hl := hide ((unhide hl).grow bz1); replace qf := hide ((unhide qf).below bz1 (unhide qf).lt); replace qg := hide ((unhide qg).below bz1 (unhide qg).lt); clear f0 f1 f2 f3 f4 f5; obtain ⟨f0, f1, f2, f3, f4, f5⟩ := bk6 (unhide qf); clear g0 g1 g2 g3 g4 g5; obtain ⟨g0, g1, g2, g3, g4, g5⟩ := bk6 (unhide qg); clear bz1)
        | fail)
      go_ret
      exact ⟨rfl, unhide hB⟩
    · have d60 : decide ((l.length : Int) > 60) = false := decide_eq_false (by omega)
      by_cases hfl : 200 < f.nm.length
      · have df : decide ((f.nm.length : Int) > 200) = true := decide_eq_true (by omega)
        have tk0 : True := trivial
        have tk1 : True := trivial
        go_enter Try.func8, Try.ntmps8
        go_upto_region 1 with (fail)
        rw [← hW2]
        clear hW2
        go_wp2_with (first
          | (have _t := tk0; clear tk0 _t; go_at_call 9; refine (unhide hL _).mono ?_; rintro ez wz0 ⟨rfl, bz0⟩; replace hB := hide ((unhide hB).trans (bz0.mono (unhide hB).size)); replace hl := hide ((unhide hl).grow bz0); replace qf := hide ((unhide qf).below bz0 (unhide qf).lt); replace qg := hide ((unhide qg).below bz0 (unhide qg).lt); clear f0 f1 f2 f3 f4 f5; obtain ⟨f0, f1, f2, f3, f4, f5⟩ := bk6 (unhide qf); clear g0 g1 g2 g3 g4 g5; obtain ⟨g0, g1, g2, g3, g4, g5⟩ := bk6 (unhide qg); clear bz0)
          | (have _t := tk1; clear tk1 _t; go_at_call 10; refine (unhide hF _ (unhide hl)).mono ?_; rintro ez wz1 ⟨rfl, bz1⟩; replace hB := hide ((unhide hB).trans (bz1.mono (unhide hB).size)); replace hl := hide ((unhide hl).grow bz1); replace qf := hide ((unhide qf).below bz1 (unhide qf).lt); replace qg := hide ((unhide qg).below bz1 (unhide qg).lt); clear f0 f1 f2 f3 f4 f5; obtain ⟨f0, f1, f2, f3, f4, f5⟩ := bk6 (unhide qf); clear g0 g1 g2 g3 g4 g5; obtain ⟨g0, g1, g2, g3, g4, g5⟩ := bk6 (unhide qg); clear bz1)
          | fail)
        go_ret
        exact ⟨rfl, unhide hB⟩
      · have df : decide ((f.nm.length : Int) > 200) = false := decide_eq_false (by omega)
        by_cases hgl : 200 < g.nm.length
        · have dg : decide ((g.nm.length : Int) > 200) = true := decide_eq_true (by omega)
          have tk0 : True := trivial
          have tk1 : True := trivial
          go_enter Try.func8, Try.ntmps8
          go_upto_region 1 with (fail)
          rw [← hW2]
          clear hW2
          go_wp2_with (first
            | (have _t := tk0; clear tk0 _t; go_at_call 9; refine (unhide hL _).mono ?_; rintro ez wz0 ⟨rfl, bz0⟩; replace hB := hide ((unhide hB).trans (bz0.mono (unhide hB).size)); replace hl := hide ((unhide hl).grow bz0); replace qf := hide ((unhide qf).below bz0 (unhide qf).lt); replace qg := hide ((unhide qg).below bz0 (unhide qg).lt); clear f0 f1 f2 f3 f4 f5; obtain ⟨f0, f1, f2, f3, f4, f5⟩ := bk6 (unhide qf); clear g0 g1 g2 g3 g4 g5; obtain ⟨g0, g1, g2, g3, g4, g5⟩ := bk6 (unhide qg); clear bz0)
            | (have _t := tk1; clear tk1 _t; go_at_call 10; refine (unhide hF _ (unhide hl)).mono ?_; rintro ez wz1 ⟨rfl, bz1⟩; replace hB := hide ((unhide hB).trans (bz1.mono (unhide hB).size)); replace hl := hide ((unhide hl).grow bz1); replace qf := hide ((unhide qf).below bz1 (unhide qf).lt); replace qg := hide ((unhide qg).below bz1 (unhide qg).lt); clear f0 f1 f2 f3 f4 f5; obtain ⟨f0, f1, f2, f3, f4, f5⟩ := bk6 (unhide qf); clear g0 g1 g2 g3 g4 g5; obtain ⟨g0, g1, g2, g3, g4, g5⟩ := bk6 (unhide qg); clear bz1)
            | fail)
          go_ret
          exact ⟨rfl, unhide hB⟩
        · have dg : decide ((g.nm.length : Int) > 200) = false := decide_eq_false (by omega)
          have sf : SmF f := ⟨by omega, hrf⟩
          have sg : SmF g := ⟨by omega, hrg⟩
          have hpf := fun W (h : Fls 0 W.heap.size W (.slice A l.length c) l) => put_any 0 W.heap.size _ l f W h (Nat.le_refl _) hs sf
          have hpg := fun W (h : Fls 0 W.heap.size W (.slice A l.length c) l) => put_any 0 W.heap.size _ l g W h (Nat.le_refl _) hs sg
          by_cases hbad : tabB l = false ∨ okF f = false
          · rw [putR_no hbad] at hpf
            obtain ⟨ag, eg, hag⟩ : ∃ ag eg, putR l g = (ag, eg) := ⟨_, _, rfl⟩
            rw [hag] at hpg
            clear hbad hag hs h1 h2
            generalize l.length = n at *
            replace hpf := hide hpf; replace hpg := hide hpg
            have tk0 : True := trivial
            have tk1 : True := trivial
            have tk2 : True := trivial
            have tk3 : True := trivial
            go_enter Try.func8, Try.ntmps8
            go_upto_region 1 with (fail)
            rw [← hW2]
            clear hW2
            go_wp2_with (first
              | (have _t := tk0; clear tk0 _t; go_at_call 9; refine (unhide hL _).mono ?_; rintro ez wz0 ⟨rfl, bz0⟩; replace hB := hide ((unhide hB).trans (bz0.mono (unhide hB).size)); replace hl := hide ((unhide hl).grow bz0); replace qf := hide ((unhide qf).below bz0 (unhide qf).lt); replace qg := hide ((unhide qg).below bz0 (unhide qg).lt); clear f0 f1 f2 f3 f4 f5; obtain ⟨f0, f1, f2, f3, f4, f5⟩ := bk6 (unhide qf); clear g0 g1 g2 g3 g4 g5; obtain ⟨g0, g1, g2, g3, g4, g5⟩ := bk6 (unhide qg); clear bz0)
              | (have _t := tk1; clear tk1 _t; go_at_call 10; refine (unhide hF _ (unhide hl)).mono ?_; rintro ez wz1 ⟨rfl, bz1⟩; replace hB := hide ((unhide hB).trans (bz1.mono (unhide hB).size)); replace hl := hide ((unhide hl).grow bz1); replace qf := hide ((unhide qf).below bz1 (unhide qf).lt); replace qg := hide ((unhide qg).below bz1 (unhide qg).lt); clear f0 f1 f2 f3 f4 f5; obtain ⟨f0, f1, f2, f3, f4, f5⟩ := bk6 (unhide qf); clear g0 g1 g2 g3 g4 g5; obtain ⟨g0, g1, g2, g3, g4, g5⟩ := bk6 (unhide qg); clear bz1)
              | (have _t := tk2; clear tk2 _t; go_at_call 11; refine (unhide hpf _ (unhide hl)).mono ?_; rintro ez wz2 ⟨va, rfl, oha, bz2⟩; replace hB := hide ((unhide hB).trans (bz2.mono (unhide hB).size)); replace hl := hide ((unhide hl).grow bz2); replace qf := hide ((unhide qf).below bz2 (unhide qf).lt); replace qg := hide ((unhide qg).below bz2 (unhide qg).lt); clear f0 f1 f2 f3 f4 f5; obtain ⟨f0, f1, f2, f3, f4, f5⟩ := bk6 (unhide qf); clear g0 g1 g2 g3 g4 g5; obtain ⟨g0, g1, g2, g3, g4, g5⟩ := bk6 (unhide qg); (have ha := hide (oha.fls.mono (Nat.zero_le _) (Nat.le_refl _))); clear oha; clear bz2)
              | (have _t := tk3; clear tk3 _t; go_at_call 11; refine (unhide hpg _ (unhide hl)).mono ?_; rintro ez wz3 ⟨vb, rfl, ohb, bz3⟩; replace hB := hide ((unhide hB).trans (bz3.mono (unhide hB).size)); replace hl := hide ((unhide hl).grow bz3); replace qf := hide ((unhide qf).below bz3 (unhide qf).lt); replace qg := hide ((unhide qg).below bz3 (unhide qg).lt); replace ha := hide ((unhide ha).grow bz3); clear f0 f1 f2 f3 f4 f5; obtain ⟨f0, f1, f2, f3, f4, f5⟩ := bk6 (unhide qf); clear g0 g1 g2 g3 g4 g5; obtain ⟨g0, g1, g2, g3, g4, g5⟩ := bk6 (unhide qg); (have hb := hide (ohb.fls.mono (Nat.zero_le _) (Nat.le_refl _))); clear ohb; clear bz3)
              | fail)
            go_ret
            exact ⟨rfl, unhide hB⟩
          · have ht : tabB l = true := by
              cases h : tabB l with
              | true => rfl
              | false => exact absurd (.inl h) hbad
            have hkf : okF f = true := by
              cases h : okF f with
              | true => rfl
              | false => exact absurd (.inr h) hbad
            clear hbad
            rw [putR_60 ht hkf (by omega)] at hpf
            cases hkg : okF g with
            | false =>
              rw [putR_no (.inr hkg)] at hpg
              obtain ⟨a, ha'⟩ : ∃ a, a = putF l f := ⟨_, rfl⟩
              rw [← ha'] at hpf
              clear ha' hs h1 h2 ht hkf hkg
              generalize l.length = n at *
              replace hpf := hide hpf; replace hpg := hide hpg
              have tk0 : True := trivial
              have tk1 : True := trivial
              have tk2 : True := trivial
              have tk3 : True := trivial
              go_enter Try.func8, Try.ntmps8
              go_upto_region 1 with (fail)
              rw [← hW2]
              clear hW2
              go_wp2_with (first
                | (have _t := tk0; clear tk0 _t; go_at_call 9; refine (unhide hL _).mono ?_; rintro ez wz0 ⟨rfl, bz0⟩; replace hB := hide ((unhide hB).trans (bz0.mono (unhide hB).size)); replace hl := hide ((unhide hl).grow bz0); replace qf := hide ((unhide qf).below bz0 (unhide qf).lt); replace qg := hide ((unhide qg).below bz0 (unhide qg).lt); clear f0 f1 f2 f3 f4 f5; obtain ⟨f0, f1, f2, f3, f4, f5⟩ := bk6 (unhide qf); clear g0 g1 g2 g3 g4 g5; obtain ⟨g0, g1, g2, g3, g4, g5⟩ := bk6 (unhide qg); clear bz0)
                | (have _t := tk1; clear tk1 _t; go_at_call 10; refine (unhide hF _ (unhide hl)).mono ?_; rintro ez wz1 ⟨rfl, bz1⟩; replace hB := hide ((unhide hB).trans (bz1.mono (unhide hB).size)); replace hl := hide ((unhide hl).grow bz1); replace qf := hide ((unhide qf).below bz1 (unhide qf).lt); replace qg := hide ((unhide qg).below bz1 (unhide qg).lt); clear f0 f1 f2 f3 f4 f5; obtain ⟨f0, f1, f2, f3, f4, f5⟩ := bk6 (unhide qf); clear g0 g1 g2 g3 g4 g5; obtain ⟨g0, g1, g2, g3, g4, g5⟩ := bk6 (unhide qg); clear bz1)
                | (have _t := tk2; clear tk2 _t; go_at_call 11; refine (unhide hpf _ (unhide hl)).mono ?_; rintro ez wz2 ⟨va, rfl, oha, bz2⟩; replace hB := hide ((unhide hB).trans (bz2.mono (unhide hB).size)); replace hl := hide ((unhide hl).grow bz2); replace qf := hide ((unhide qf).below bz2 (unhide qf).lt); replace qg := hide ((unhide qg).below bz2 (unhide qg).lt); clear f0 f1 f2 f3 f4 f5; obtain ⟨f0, f1, f2, f3, f4, f5⟩ := bk6 (unhide qf); clear g0 g1 g2 g3 g4 g5; obtain ⟨g0, g1, g2, g3, g4, g5⟩ := bk6 (unhide qg); (have ha := hide (oha.fls.mono (Nat.zero_le _) (Nat.le_refl _))); clear oha; clear bz2)
                | (have _t := tk3; clear tk3 _t; go_at_call 11; refine (unhide hpg _ (unhide hl)).mono ?_; rintro ez wz3 ⟨vb, rfl, ohb, bz3⟩; replace hB := hide ((unhide hB).trans (bz3.mono (unhide hB).size)); replace hl := hide ((unhide hl).grow bz3); replace qf := hide ((unhide qf).below bz3 (unhide qf).lt); replace qg := hide ((unhide qg).below bz3 (unhide qg).lt); replace ha := hide ((unhide ha).grow bz3); clear f0 f1 f2 f3 f4 f5; obtain ⟨f0, f1, f2, f3, f4, f5⟩ := bk6 (unhide qf); clear g0 g1 g2 g3 g4 g5; obtain ⟨g0, g1, g2, g3, g4, g5⟩ := bk6 (unhide qg); (have hb := hide (ohb.fls.mono (Nat.zero_le _) (Nat.le_refl _))); clear ohb; clear bz3)
                | fail)
              go_ret
              exact ⟨rfl, unhide hB⟩
            | true =>
              rw [putR_60 ht hkg (by omega)] at hpg
              have hu := tab_up ht
              have ta := tab_60 (f := f) ht hkf (by omega)
              have tb := tab_60 (f := g) ht hkg (by omega)
              have la := len_put_le hu f
              have lb := len_put_le hu g
              have sa := sm_putF hs sf
              have sb := sm_putF hs sg
              have sx := sm_putF sa sg
              have sy := sm_putF sb sf
              have hpx := fun W va (h : Fls 0 W.heap.size W va (putF l f)) => put_any 0 W.heap.size va (putF l f) g W h (Nat.le_refl _) sa sg
              have hpy := fun W vb (h : Fls 0 W.heap.size W vb (putF l g)) => put_any 0 W.heap.size vb (putF l g) f W h (Nat.le_refl _) sb sf
              rw [putR_60 ta hkg (by omega)] at hpx
              rw [putR_60 tb hkf (by omega)] at hpy
              have hsx := fun W vx vy (h : Fls 0 W.heap.size W vx (putF (putF l f) g)) (h' : Fls 0 W.heap.size W vy (putF (putF l g) f)) => tsame_any 0 W.heap.size 0 W.heap.size vx vy _ _ W h h' (Nat.le_refl _) (Nat.le_refl _) sx sy
              have hne : f.nm ≠ g.nm → sameB (putF (putF l f) g) (putF (putF l g) f) = true := fun e => by rw [put_comm hu e]; exact same_self _
              have hget := fun W (h : Fls 0 W.heap.size W (.slice A l.length c) l) => get_any 0 W.heap.size _ l f.nm W h (Nat.le_refl _) hs (by omega)
              have hdel := fun W va (h : Fls 0 W.heap.size W va (putF l f)) => del_any 0 W.heap.size va (putF l f) f.nm W h (Nat.le_refl _) sa (by omega)
              have hk := ok_name hkf
              have htp : thereB (putF l f) f.nm = true := by rw [there_put]; simp
              rw [delR_ok ta hk htp] at hdel
              have hlp := len_put hu f
              have hdp := fun h => del_put (f := f) hu h
              have hssx := fun W vx (h : Fls 0 W.heap.size W vx (delF (putF l f) f.nm)) (h' : Fls 0 W.heap.size W (.slice A l.length c) l) (e : delF (putF l f) f.nm = l) => tsame_any 0 W.heap.size 0 W.heap.size vx (.slice A l.length c) _ l W h h' (Nat.le_refl _) (Nat.le_refl _) (by rw [e]; exact hs) hs
              have hg1 := fun e => getR_ok ht hk e
              have hg0 := fun e => getR_none ht hk e
              have hss := same_self l
              generalize putF (putF l f) g = x at *
              generalize putF (putF l g) f = y at *
              generalize delF (putF l f) f.nm = z at *
              generalize putF l f = a at *
              generalize putF l g = b at *
              clear sa sb sx sy ta tb la lb htp hkf hkg ht hu sf sg h1 h2 hrf hrg
              replace hpf := hide hpf; replace hpg := hide hpg; replace hpx := hide hpx; replace hpy := hide hpy
              by_cases hnm : f.nm = g.nm
              · have dn : (f.nm != g.nm) = false := by rw [hnm]; simp
                have de : (f.nm == g.nm) = true := by rw [hnm]; simp
                clear hsx hne hnm
                cases hth : thereB l f.nm with
                | true =>
                  rw [hg1 hth] at hget
                  have hlen : a.length = l.length := by rw [hlp, hth]; rfl
                  have dl : ((a.length : Int) == (l.length : Int)) = true := by rw [hlen]; exact beq_self_eq_true _
                  generalize nth l (posn l f.nm) = q at *
                  clear hg1 hg0 hlp hdp hdel hssx hth hss hlen
                  generalize l.length = n at *
                  replace hget := hide hget
                  have tk0 : True := trivial
                  have tk1 : True := trivial
                  have tk2 : True := trivial
                  have tk3 : True := trivial
                  have tk4 : True := trivial
                  have tk5 : True := trivial
                  have tk6 : True := trivial
                  go_enter Try.func8, Try.ntmps8
                  go_upto_region 1 with (fail)
                  rw [← hW2]
                  clear hW2
                  go_wp2_with (first
                    | (have _t := tk0; clear tk0 _t; go_at_call 9; refine (unhide hL _).mono ?_; rintro ez wz0 ⟨rfl, bz0⟩; replace hB := hide ((unhide hB).trans (bz0.mono (unhide hB).size)); replace hl := hide ((unhide hl).grow bz0); replace qf := hide ((unhide qf).below bz0 (unhide qf).lt); replace qg := hide ((unhide qg).below bz0 (unhide qg).lt); clear f0 f1 f2 f3 f4 f5; obtain ⟨f0, f1, f2, f3, f4, f5⟩ := bk6 (unhide qf); clear g0 g1 g2 g3 g4 g5; obtain ⟨g0, g1, g2, g3, g4, g5⟩ := bk6 (unhide qg); clear bz0)
                    | (have _t := tk1; clear tk1 _t; go_at_call 10; refine (unhide hF _ (unhide hl)).mono ?_; rintro ez wz1 ⟨rfl, bz1⟩; replace hB := hide ((unhide hB).trans (bz1.mono (unhide hB).size)); replace hl := hide ((unhide hl).grow bz1); replace qf := hide ((unhide qf).below bz1 (unhide qf).lt); replace qg := hide ((unhide qg).below bz1 (unhide qg).lt); clear f0 f1 f2 f3 f4 f5; obtain ⟨f0, f1, f2, f3, f4, f5⟩ := bk6 (unhide qf); clear g0 g1 g2 g3 g4 g5; obtain ⟨g0, g1, g2, g3, g4, g5⟩ := bk6 (unhide qg); clear bz1)
                    | (have _t := tk2; clear tk2 _t; go_at_call 11; refine (unhide hpf _ (unhide hl)).mono ?_; rintro ez wz2 ⟨va, rfl, oha, bz2⟩; replace hB := hide ((unhide hB).trans (bz2.mono (unhide hB).size)); replace hl := hide ((unhide hl).grow bz2); replace qf := hide ((unhide qf).below bz2 (unhide qf).lt); replace qg := hide ((unhide qg).below bz2 (unhide qg).lt); clear f0 f1 f2 f3 f4 f5; obtain ⟨f0, f1, f2, f3, f4, f5⟩ := bk6 (unhide qf); clear g0 g1 g2 g3 g4 g5; obtain ⟨g0, g1, g2, g3, g4, g5⟩ := bk6 (unhide qg); obtain ⟨A1, c1, rfl, _⟩ := oha.fls.open6; (have ha := hide (oha.fls.mono (Nat.zero_le _) (Nat.le_refl _))); clear oha; clear bz2)
                    | (have _t := tk3; clear tk3 _t; go_at_call 11; refine (unhide hpg _ (unhide hl)).mono ?_; rintro ez wz3 ⟨vb, rfl, ohb, bz3⟩; replace hB := hide ((unhide hB).trans (bz3.mono (unhide hB).size)); replace hl := hide ((unhide hl).grow bz3); replace qf := hide ((unhide qf).below bz3 (unhide qf).lt); replace qg := hide ((unhide qg).below bz3 (unhide qg).lt); replace ha := hide ((unhide ha).grow bz3); clear f0 f1 f2 f3 f4 f5; obtain ⟨f0, f1, f2, f3, f4, f5⟩ := bk6 (unhide qf); clear g0 g1 g2 g3 g4 g5; obtain ⟨g0, g1, g2, g3, g4, g5⟩ := bk6 (unhide qg); (have hb := hide (ohb.fls.mono (Nat.zero_le _) (Nat.le_refl _))); clear ohb; clear bz3)
                    | (have _t := tk4; clear tk4 _t; go_at_call 11; refine (unhide hpx _ _ (unhide ha)).mono ?_; rintro ez wz4 ⟨vx, rfl, ohx, bz4⟩; replace hB := hide ((unhide hB).trans (bz4.mono (unhide hB).size)); replace hl := hide ((unhide hl).grow bz4); replace qf := hide ((unhide qf).below bz4 (unhide qf).lt); replace qg := hide ((unhide qg).below bz4 (unhide qg).lt); replace ha := hide ((unhide ha).grow bz4); replace hb := hide ((unhide hb).grow bz4); clear f0 f1 f2 f3 f4 f5; obtain ⟨f0, f1, f2, f3, f4, f5⟩ := bk6 (unhide qf); clear g0 g1 g2 g3 g4 g5; obtain ⟨g0, g1, g2, g3, g4, g5⟩ := bk6 (unhide qg); (have hx := hide (ohx.fls.mono (Nat.zero_le _) (Nat.le_refl _))); clear ohx; clear bz4)
                    | (have _t := tk5; clear tk5 _t; go_at_call 11; refine (unhide hpy _ _ (unhide hb)).mono ?_; rintro ez wz5 ⟨vy, rfl, ohy, bz5⟩; replace hB := hide ((unhide hB).trans (bz5.mono (unhide hB).size)); replace hl := hide ((unhide hl).grow bz5); replace qf := hide ((unhide qf).below bz5 (unhide qf).lt); replace qg := hide ((unhide qg).below bz5 (unhide qg).lt); replace ha := hide ((unhide ha).grow bz5); replace hb := hide ((unhide hb).grow bz5); replace hx := hide ((unhide hx).grow bz5); clear f0 f1 f2 f3 f4 f5; obtain ⟨f0, f1, f2, f3, f4, f5⟩ := bk6 (unhide qf); clear g0 g1 g2 g3 g4 g5; obtain ⟨g0, g1, g2, g3, g4, g5⟩ := bk6 (unhide qg); (have hy := hide (ohy.fls.mono (Nat.zero_le _) (Nat.le_refl _))); clear ohy; clear bz5)
                    | (have _t := tk6; clear tk6 _t; go_at_call 17; refine (unhide hget _ (unhide hl)).mono ?_; rintro ez wz6 ⟨rfl, bz6⟩; replace hB := hide ((unhide hB).trans (bz6.mono (unhide hB).size)); replace hl := hide ((unhide hl).grow bz6); replace qf := hide ((unhide qf).below bz6 (unhide qf).lt); replace qg := hide ((unhide qg).below bz6 (unhide qg).lt); replace ha := hide ((unhide ha).grow bz6); replace hb := hide ((unhide hb).grow bz6); replace hx := hide ((unhide hx).grow bz6); replace hy := hide ((unhide hy).grow bz6); clear f0 f1 f2 f3 f4 f5; obtain ⟨f0, f1, f2, f3, f4, f5⟩ := bk6 (unhide qf); clear g0 g1 g2 g3 g4 g5; obtain ⟨g0, g1, g2, g3, g4, g5⟩ := bk6 (unhide qg); clear bz6; replace hB := hide ((unhide hB).alloc (unhide hB).size (.cells #[.string (bz q.nm), .float .f64 q.rk, .int .u32 q.sm, .int .i64 q.bk, .int .i64 q.fr, .int .i64 q.ln] 26)); replace hl := hide ((unhide hl).grow ((Below.refl _ _).alloc (Nat.le_refl _) (.cells #[.string (bz q.nm), .float .f64 q.rk, .int .u32 q.sm, .int .i64 q.bk, .int .i64 q.fr, .int .i64 q.ln] 26))); replace qf := hide ((unhide qf).alloc (.cells #[.string (bz q.nm), .float .f64 q.rk, .int .u32 q.sm, .int .i64 q.bk, .int .i64 q.fr, .int .i64 q.ln] 26)); replace qg := hide ((unhide qg).alloc (.cells #[.string (bz q.nm), .float .f64 q.rk, .int .u32 q.sm, .int .i64 q.bk, .int .i64 q.fr, .int .i64 q.ln] 26)); replace ha := hide ((unhide ha).grow ((Below.refl _ _).alloc (Nat.le_refl _) (.cells #[.string (bz q.nm), .float .f64 q.rk, .int .u32 q.sm, .int .i64 q.bk, .int .i64 q.fr, .int .i64 q.ln] 26))); replace hb := hide ((unhide hb).grow ((Below.refl _ _).alloc (Nat.le_refl _) (.cells #[.string (bz q.nm), .float .f64 q.rk, .int .u32 q.sm, .int .i64 q.bk, .int .i64 q.fr, .int .i64 q.ln] 26))); replace hx := hide ((unhide hx).grow ((Below.refl _ _).alloc (Nat.le_refl _) (.cells #[.string (bz q.nm), .float .f64 q.rk, .int .u32 q.sm, .int .i64 q.bk, .int .i64 q.fr, .int .i64 q.ln] 26))); replace hy := hide ((unhide hy).grow ((Below.refl _ _).alloc (Nat.le_refl _) (.cells #[.string (bz q.nm), .float .f64 q.rk, .int .u32 q.sm, .int .i64 q.bk, .int .i64 q.fr, .int .i64 q.ln] 26))); clear f0 f1 f2 f3 f4 f5; obtain ⟨f0, f1, f2, f3, f4, f5⟩ := bk6 (unhide qf); clear g0 g1 g2 g3 g4 g5; obtain ⟨g0, g1, g2, g3, g4, g5⟩ := bk6 (unhide qg))
                    | fail)
                  go_ret
                  exact ⟨rfl, unhide hB⟩
                | false =>
                  rw [hg0 hth] at hget
                  have ez := hdp hth
                  subst ez
                  replace hssx := fun W vx h h' => hssx W vx h h' rfl
                  rw [hss] at hssx
                  obtain ⟨q, hq⟩ : ∃ q, q = noF := ⟨_, rfl⟩
                  rw [← hq] at hget
                  clear hg1 hg0 hlp hdp hss hth hq
                  replace hdel := hide hdel; replace hssx := hide hssx; replace hget := hide hget
                  generalize z.length = n at *
                  have tk0 : True := trivial
                  have tk1 : True := trivial
                  have tk2 : True := trivial
                  have tk3 : True := trivial
                  have tk4 : True := trivial
                  have tk5 : True := trivial
                  have tk6 : True := trivial
                  have tk7 : True := trivial
                  have tk8 : True := trivial
                  go_enter Try.func8, Try.ntmps8
                  go_upto_region 1 with (fail)
                  rw [← hW2]
                  clear hW2
                  go_wp2_with (first
                    | (have _t := tk0; clear tk0 _t; go_at_call 9; refine (unhide hL _).mono ?_; rintro ez wz0 ⟨rfl, bz0⟩; replace hB := hide ((unhide hB).trans (bz0.mono (unhide hB).size)); replace hl := hide ((unhide hl).grow bz0); replace qf := hide ((unhide qf).below bz0 (unhide qf).lt); replace qg := hide ((unhide qg).below bz0 (unhide qg).lt); clear f0 f1 f2 f3 f4 f5; obtain ⟨f0, f1, f2, f3, f4, f5⟩ := bk6 (unhide qf); clear g0 g1 g2 g3 g4 g5; obtain ⟨g0, g1, g2, g3, g4, g5⟩ := bk6 (unhide qg); clear bz0)
                    | (have _t := tk1; clear tk1 _t; go_at_call 10; refine (unhide hF _ (unhide hl)).mono ?_; rintro ez wz1 ⟨rfl, bz1⟩; replace hB := hide ((unhide hB).trans (bz1.mono (unhide hB).size)); replace hl := hide ((unhide hl).grow bz1); replace qf := hide ((unhide qf).below bz1 (unhide qf).lt); replace qg := hide ((unhide qg).below bz1 (unhide qg).lt); clear f0 f1 f2 f3 f4 f5; obtain ⟨f0, f1, f2, f3, f4, f5⟩ := bk6 (unhide qf); clear g0 g1 g2 g3 g4 g5; obtain ⟨g0, g1, g2, g3, g4, g5⟩ := bk6 (unhide qg); clear bz1)
                    | (have _t := tk2; clear tk2 _t; go_at_call 11; refine (unhide hpf _ (unhide hl)).mono ?_; rintro ez wz2 ⟨va, rfl, oha, bz2⟩; replace hB := hide ((unhide hB).trans (bz2.mono (unhide hB).size)); replace hl := hide ((unhide hl).grow bz2); replace qf := hide ((unhide qf).below bz2 (unhide qf).lt); replace qg := hide ((unhide qg).below bz2 (unhide qg).lt); clear f0 f1 f2 f3 f4 f5; obtain ⟨f0, f1, f2, f3, f4, f5⟩ := bk6 (unhide qf); clear g0 g1 g2 g3 g4 g5; obtain ⟨g0, g1, g2, g3, g4, g5⟩ := bk6 (unhide qg); obtain ⟨A1, c1, rfl, _⟩ := oha.fls.open6; (have ha := hide (oha.fls.mono (Nat.zero_le _) (Nat.le_refl _))); clear oha; clear bz2)
                    | (have _t := tk3; clear tk3 _t; go_at_call 11; refine (unhide hpg _ (unhide hl)).mono ?_; rintro ez wz3 ⟨vb, rfl, ohb, bz3⟩; replace hB := hide ((unhide hB).trans (bz3.mono (unhide hB).size)); replace hl := hide ((unhide hl).grow bz3); replace qf := hide ((unhide qf).below bz3 (unhide qf).lt); replace qg := hide ((unhide qg).below bz3 (unhide qg).lt); replace ha := hide ((unhide ha).grow bz3); clear f0 f1 f2 f3 f4 f5; obtain ⟨f0, f1, f2, f3, f4, f5⟩ := bk6 (unhide qf); clear g0 g1 g2 g3 g4 g5; obtain ⟨g0, g1, g2, g3, g4, g5⟩ := bk6 (unhide qg); (have hb := hide (ohb.fls.mono (Nat.zero_le _) (Nat.le_refl _))); clear ohb; clear bz3)
                    | (have _t := tk4; clear tk4 _t; go_at_call 11; refine (unhide hpx _ _ (unhide ha)).mono ?_; rintro ez wz4 ⟨vx, rfl, ohx, bz4⟩; replace hB := hide ((unhide hB).trans (bz4.mono (unhide hB).size)); replace hl := hide ((unhide hl).grow bz4); replace qf := hide ((unhide qf).below bz4 (unhide qf).lt); replace qg := hide ((unhide qg).below bz4 (unhide qg).lt); replace ha := hide ((unhide ha).grow bz4); replace hb := hide ((unhide hb).grow bz4); clear f0 f1 f2 f3 f4 f5; obtain ⟨f0, f1, f2, f3, f4, f5⟩ := bk6 (unhide qf); clear g0 g1 g2 g3 g4 g5; obtain ⟨g0, g1, g2, g3, g4, g5⟩ := bk6 (unhide qg); (have hx := hide (ohx.fls.mono (Nat.zero_le _) (Nat.le_refl _))); clear ohx; clear bz4)
                    | (have _t := tk5; clear tk5 _t; go_at_call 11; refine (unhide hpy _ _ (unhide hb)).mono ?_; rintro ez wz5 ⟨vy, rfl, ohy, bz5⟩; replace hB := hide ((unhide hB).trans (bz5.mono (unhide hB).size)); replace hl := hide ((unhide hl).grow bz5); replace qf := hide ((unhide qf).below bz5 (unhide qf).lt); replace qg := hide ((unhide qg).below bz5 (unhide qg).lt); replace ha := hide ((unhide ha).grow bz5); replace hb := hide ((unhide hb).grow bz5); replace hx := hide ((unhide hx).grow bz5); clear f0 f1 f2 f3 f4 f5; obtain ⟨f0, f1, f2, f3, f4, f5⟩ := bk6 (unhide qf); clear g0 g1 g2 g3 g4 g5; obtain ⟨g0, g1, g2, g3, g4, g5⟩ := bk6 (unhide qg); (have hy := hide (ohy.fls.mono (Nat.zero_le _) (Nat.le_refl _))); clear ohy; clear bz5)
                    | (have _t := tk6; clear tk6 _t; go_at_call 17; refine (unhide hget _ (unhide hl)).mono ?_; rintro ez wz6 ⟨rfl, bz6⟩; replace hB := hide ((unhide hB).trans (bz6.mono (unhide hB).size)); replace hl := hide ((unhide hl).grow bz6); replace qf := hide ((unhide qf).below bz6 (unhide qf).lt); replace qg := hide ((unhide qg).below bz6 (unhide qg).lt); replace ha := hide ((unhide ha).grow bz6); replace hb := hide ((unhide hb).grow bz6); replace hx := hide ((unhide hx).grow bz6); replace hy := hide ((unhide hy).grow bz6); clear f0 f1 f2 f3 f4 f5; obtain ⟨f0, f1, f2, f3, f4, f5⟩ := bk6 (unhide qf); clear g0 g1 g2 g3 g4 g5; obtain ⟨g0, g1, g2, g3, g4, g5⟩ := bk6 (unhide qg); clear bz6; replace hB := hide ((unhide hB).alloc (unhide hB).size (.cells #[.string (bz q.nm), .float .f64 q.rk, .int .u32 q.sm, .int .i64 q.bk, .int .i64 q.fr, .int .i64 q.ln] 26)); replace hl := hide ((unhide hl).grow ((Below.refl _ _).alloc (Nat.le_refl _) (.cells #[.string (bz q.nm), .float .f64 q.rk, .int .u32 q.sm, .int .i64 q.bk, .int .i64 q.fr, .int .i64 q.ln] 26))); replace qf := hide ((unhide qf).alloc (.cells #[.string (bz q.nm), .float .f64 q.rk, .int .u32 q.sm, .int .i64 q.bk, .int .i64 q.fr, .int .i64 q.ln] 26)); replace qg := hide ((unhide qg).alloc (.cells #[.string (bz q.nm), .float .f64 q.rk, .int .u32 q.sm, .int .i64 q.bk, .int .i64 q.fr, .int .i64 q.ln] 26)); replace ha := hide ((unhide ha).grow ((Below.refl _ _).alloc (Nat.le_refl _) (.cells #[.string (bz q.nm), .float .f64 q.rk, .int .u32 q.sm, .int .i64 q.bk, .int .i64 q.fr, .int .i64 q.ln] 26))); replace hb := hide ((unhide hb).grow ((Below.refl _ _).alloc (Nat.le_refl _) (.cells #[.string (bz q.nm), .float .f64 q.rk, .int .u32 q.sm, .int .i64 q.bk, .int .i64 q.fr, .int .i64 q.ln] 26))); replace hx := hide ((unhide hx).grow ((Below.refl _ _).alloc (Nat.le_refl _) (.cells #[.string (bz q.nm), .float .f64 q.rk, .int .u32 q.sm, .int .i64 q.bk, .int .i64 q.fr, .int .i64 q.ln] 26))); replace hy := hide ((unhide hy).grow ((Below.refl _ _).alloc (Nat.le_refl _) (.cells #[.string (bz q.nm), .float .f64 q.rk, .int .u32 q.sm, .int .i64 q.bk, .int .i64 q.fr, .int .i64 q.ln] 26))); clear f0 f1 f2 f3 f4 f5; obtain ⟨f0, f1, f2, f3, f4, f5⟩ := bk6 (unhide qf); clear g0 g1 g2 g3 g4 g5; obtain ⟨g0, g1, g2, g3, g4, g5⟩ := bk6 (unhide qg))
                    | (have _t := tk7; clear tk7 _t; go_at_call 13; refine (unhide hdel _ _ (unhide ha)).mono ?_; rintro ez wz7 ⟨vz, rfl, ohz, bz7⟩; replace hB := hide ((unhide hB).trans (bz7.mono (unhide hB).size)); replace hl := hide ((unhide hl).grow bz7); replace qf := hide ((unhide qf).below bz7 (unhide qf).lt); replace qg := hide ((unhide qg).below bz7 (unhide qg).lt); replace ha := hide ((unhide ha).grow bz7); replace hb := hide ((unhide hb).grow bz7); replace hx := hide ((unhide hx).grow bz7); replace hy := hide ((unhide hy).grow bz7); clear f0 f1 f2 f3 f4 f5; obtain ⟨f0, f1, f2, f3, f4, f5⟩ := bk6 (unhide qf); clear g0 g1 g2 g3 g4 g5; obtain ⟨g0, g1, g2, g3, g4, g5⟩ := bk6 (unhide qg); (have hz := hide (ohz.fls.mono (Nat.zero_le _) (Nat.le_refl _))); clear ohz; clear bz7)
                    | (have _t := tk8; clear tk8 _t; go_at_call 23; refine (unhide hssx _ _ (unhide hz) (unhide hl)).mono ?_; rintro ez wz8 ⟨rfl, bz8⟩; replace hB := hide ((unhide hB).trans (bz8.mono (unhide hB).size)); replace hl := hide ((unhide hl).grow bz8); replace qf := hide ((unhide qf).below bz8 (unhide qf).lt); replace qg := hide ((unhide qg).below bz8 (unhide qg).lt); replace ha := hide ((unhide ha).grow bz8); replace hb := hide ((unhide hb).grow bz8); replace hx := hide ((unhide hx).grow bz8); replace hy := hide ((unhide hy).grow bz8); replace hz := hide ((unhide hz).grow bz8); clear f0 f1 f2 f3 f4 f5; obtain ⟨f0, f1, f2, f3, f4, f5⟩ := bk6 (unhide qf); clear g0 g1 g2 g3 g4 g5; obtain ⟨g0, g1, g2, g3, g4, g5⟩ := bk6 (unhide qg); clear bz8)
                    | fail)
                  go_ret
                  exact ⟨rfl, unhide hB⟩
              · have dn : (f.nm != g.nm) = true := by rw [bne_iff_ne]; exact hnm
                have de : (f.nm == g.nm) = false := by rw [beq_eq_false_iff_ne]; exact hnm
                rw [hne hnm] at hsx
                clear hne hnm
                replace hsx := hide hsx
                cases hth : thereB l f.nm with
                | true =>
                  rw [hg1 hth] at hget
                  have hlen : a.length = l.length := by rw [hlp, hth]; rfl
                  have dl : ((a.length : Int) == (l.length : Int)) = true := by rw [hlen]; exact beq_self_eq_true _
                  generalize nth l (posn l f.nm) = q at *
                  clear hg1 hg0 hlp hdp hdel hssx hth hss hlen
                  generalize l.length = n at *
                  replace hget := hide hget
                  have tk0 : True := trivial
                  have tk1 : True := trivial
                  have tk2 : True := trivial
                  have tk3 : True := trivial
                  have tk4 : True := trivial
                  have tk5 : True := trivial
                  have tk6 : True := trivial
                  have tk7 : True := trivial
                  go_enter Try.func8, Try.ntmps8
                  go_upto_region 1 with (fail)
                  rw [← hW2]
                  clear hW2
                  go_wp2_with (first
                    | (have _t := tk0; clear tk0 _t; go_at_call 9; refine (unhide hL _).mono ?_; rintro ez wz0 ⟨rfl, bz0⟩; replace hB := hide ((unhide hB).trans (bz0.mono (unhide hB).size)); replace hl := hide ((unhide hl).grow bz0); replace qf := hide ((unhide qf).below bz0 (unhide qf).lt); replace qg := hide ((unhide qg).below bz0 (unhide qg).lt); clear f0 f1 f2 f3 f4 f5; obtain ⟨f0, f1, f2, f3, f4, f5⟩ := bk6 (unhide qf); clear g0 g1 g2 g3 g4 g5; obtain ⟨g0, g1, g2, g3, g4, g5⟩ := bk6 (unhide qg); clear bz0)
                    | (have _t := tk1; clear tk1 _t; go_at_call 10; refine (unhide hF _ (unhide hl)).mono ?_; rintro ez wz1 ⟨rfl, bz1⟩; replace hB := hide ((unhide hB).trans (bz1.mono (unhide hB).size)); replace hl := hide ((unhide hl).grow bz1); replace qf := hide ((unhide qf).below bz1 (unhide qf).lt); replace qg := hide ((unhide qg).below bz1 (unhide qg).lt); clear f0 f1 f2 f3 f4 f5; obtain ⟨f0, f1, f2, f3, f4, f5⟩ := bk6 (unhide qf); clear g0 g1 g2 g3 g4 g5; obtain ⟨g0, g1, g2, g3, g4, g5⟩ := bk6 (unhide qg); clear bz1)
                    | (have _t := tk2; clear tk2 _t; go_at_call 11; refine (unhide hpf _ (unhide hl)).mono ?_; rintro ez wz2 ⟨va, rfl, oha, bz2⟩; replace hB := hide ((unhide hB).trans (bz2.mono (unhide hB).size)); replace hl := hide ((unhide hl).grow bz2); replace qf := hide ((unhide qf).below bz2 (unhide qf).lt); replace qg := hide ((unhide qg).below bz2 (unhide qg).lt); clear f0 f1 f2 f3 f4 f5; obtain ⟨f0, f1, f2, f3, f4, f5⟩ := bk6 (unhide qf); clear g0 g1 g2 g3 g4 g5; obtain ⟨g0, g1, g2, g3, g4, g5⟩ := bk6 (unhide qg); obtain ⟨A1, c1, rfl, _⟩ := oha.fls.open6; (have ha := hide (oha.fls.mono (Nat.zero_le _) (Nat.le_refl _))); clear oha; clear bz2)
                    | (have _t := tk3; clear tk3 _t; go_at_call 11; refine (unhide hpg _ (unhide hl)).mono ?_; rintro ez wz3 ⟨vb, rfl, ohb, bz3⟩; replace hB := hide ((unhide hB).trans (bz3.mono (unhide hB).size)); replace hl := hide ((unhide hl).grow bz3); replace qf := hide ((unhide qf).below bz3 (unhide qf).lt); replace qg := hide ((unhide qg).below bz3 (unhide qg).lt); replace ha := hide ((unhide ha).grow bz3); clear f0 f1 f2 f3 f4 f5; obtain ⟨f0, f1, f2, f3, f4, f5⟩ := bk6 (unhide qf); clear g0 g1 g2 g3 g4 g5; obtain ⟨g0, g1, g2, g3, g4, g5⟩ := bk6 (unhide qg); (have hb := hide (ohb.fls.mono (Nat.zero_le _) (Nat.le_refl _))); clear ohb; clear bz3)
                    | (have _t := tk4; clear tk4 _t; go_at_call 11; refine (unhide hpx _ _ (unhide ha)).mono ?_; rintro ez wz4 ⟨vx, rfl, ohx, bz4⟩; replace hB := hide ((unhide hB).trans (bz4.mono (unhide hB).size)); replace hl := hide ((unhide hl).grow bz4); replace qf := hide ((unhide qf).below bz4 (unhide qf).lt); replace qg := hide ((unhide qg).below bz4 (unhide qg).lt); replace ha := hide ((unhide ha).grow bz4); replace hb := hide ((unhide hb).grow bz4); clear f0 f1 f2 f3 f4 f5; obtain ⟨f0, f1, f2, f3, f4, f5⟩ := bk6 (unhide qf); clear g0 g1 g2 g3 g4 g5; obtain ⟨g0, g1, g2, g3, g4, g5⟩ := bk6 (unhide qg); (have hx := hide (ohx.fls.mono (Nat.zero_le _) (Nat.le_refl _))); clear ohx; clear bz4)
                    | (have _t := tk5; clear tk5 _t; go_at_call 11; refine (unhide hpy _ _ (unhide hb)).mono ?_; rintro ez wz5 ⟨vy, rfl, ohy, bz5⟩; replace hB := hide ((unhide hB).trans (bz5.mono (unhide hB).size)); replace hl := hide ((unhide hl).grow bz5); replace qf := hide ((unhide qf).below bz5 (unhide qf).lt); replace qg := hide ((unhide qg).below bz5 (unhide qg).lt); replace ha := hide ((unhide ha).grow bz5); replace hb := hide ((unhide hb).grow bz5); replace hx := hide ((unhide hx).grow bz5); clear f0 f1 f2 f3 f4 f5; obtain ⟨f0, f1, f2, f3, f4, f5⟩ := bk6 (unhide qf); clear g0 g1 g2 g3 g4 g5; obtain ⟨g0, g1, g2, g3, g4, g5⟩ := bk6 (unhide qg); (have hy := hide (ohy.fls.mono (Nat.zero_le _) (Nat.le_refl _))); clear ohy; clear bz5)
                    | (have _t := tk6; clear tk6 _t; go_at_call 23; refine (unhide hsx _ _ _ (unhide hx) (unhide hy)).mono ?_; rintro ez wz6 ⟨rfl, bz6⟩; replace hB := hide ((unhide hB).trans (bz6.mono (unhide hB).size)); replace hl := hide ((unhide hl).grow bz6); replace qf := hide ((unhide qf).below bz6 (unhide qf).lt); replace qg := hide ((unhide qg).below bz6 (unhide qg).lt); replace ha := hide ((unhide ha).grow bz6); replace hb := hide ((unhide hb).grow bz6); replace hx := hide ((unhide hx).grow bz6); replace hy := hide ((unhide hy).grow bz6); clear f0 f1 f2 f3 f4 f5; obtain ⟨f0, f1, f2, f3, f4, f5⟩ := bk6 (unhide qf); clear g0 g1 g2 g3 g4 g5; obtain ⟨g0, g1, g2, g3, g4, g5⟩ := bk6 (unhide qg); clear bz6)
                    | (have _t := tk7; clear tk7 _t; go_at_call 17; refine (unhide hget _ (unhide hl)).mono ?_; rintro ez wz7 ⟨rfl, bz7⟩; replace hB := hide ((unhide hB).trans (bz7.mono (unhide hB).size)); replace hl := hide ((unhide hl).grow bz7); replace qf := hide ((unhide qf).below bz7 (unhide qf).lt); replace qg := hide ((unhide qg).below bz7 (unhide qg).lt); replace ha := hide ((unhide ha).grow bz7); replace hb := hide ((unhide hb).grow bz7); replace hx := hide ((unhide hx).grow bz7); replace hy := hide ((unhide hy).grow bz7); clear f0 f1 f2 f3 f4 f5; obtain ⟨f0, f1, f2, f3, f4, f5⟩ := bk6 (unhide qf); clear g0 g1 g2 g3 g4 g5; obtain ⟨g0, g1, g2, g3, g4, g5⟩ := bk6 (unhide qg); clear bz7; replace hB := hide ((unhide hB).alloc (unhide hB).size (.cells #[.string (bz q.nm), .float .f64 q.rk, .int .u32 q.sm, .int .i64 q.bk, .int .i64 q.fr, .int .i64 q.ln] 26)); replace hl := hide ((unhide hl).grow ((Below.refl _ _).alloc (Nat.le_refl _) (.cells #[.string (bz q.nm), .float .f64 q.rk, .int .u32 q.sm, .int .i64 q.bk, .int .i64 q.fr, .int .i64 q.ln] 26))); replace qf := hide ((unhide qf).alloc (.cells #[.string (bz q.nm), .float .f64 q.rk, .int .u32 q.sm, .int .i64 q.bk, .int .i64 q.fr, .int .i64 q.ln] 26)); replace qg := hide ((unhide qg).alloc (.cells #[.string (bz q.nm), .float .f64 q.rk, .int .u32 q.sm, .int .i64 q.bk, .int .i64 q.fr, .int .i64 q.ln] 26)); replace ha := hide ((unhide ha).grow ((Below.refl _ _).alloc (Nat.le_refl _) (.cells #[.string (bz q.nm), .float .f64 q.rk, .int .u32 q.sm, .int .i64 q.bk, .int .i64 q.fr, .int .i64 q.ln] 26))); replace hb := hide ((unhide hb).grow ((Below.refl _ _).alloc (Nat.le_refl _) (.cells #[.string (bz q.nm), .float .f64 q.rk, .int .u32 q.sm, .int .i64 q.bk, .int .i64 q.fr, .int .i64 q.ln] 26))); replace hx := hide ((unhide hx).grow ((Below.refl _ _).alloc (Nat.le_refl _) (.cells #[.string (bz q.nm), .float .f64 q.rk, .int .u32 q.sm, .int .i64 q.bk, .int .i64 q.fr, .int .i64 q.ln] 26))); replace hy := hide ((unhide hy).grow ((Below.refl _ _).alloc (Nat.le_refl _) (.cells #[.string (bz q.nm), .float .f64 q.rk, .int .u32 q.sm, .int .i64 q.bk, .int .i64 q.fr, .int .i64 q.ln] 26))); clear f0 f1 f2 f3 f4 f5; obtain ⟨f0, f1, f2, f3, f4, f5⟩ := bk6 (unhide qf); clear g0 g1 g2 g3 g4 g5; obtain ⟨g0, g1, g2, g3, g4, g5⟩ := bk6 (unhide qg))
                    | fail)
                  go_ret
                  exact ⟨rfl, unhide hB⟩
                | false =>
                  rw [hg0 hth] at hget
                  have ez := hdp hth
                  subst ez
                  replace hssx := fun W vx h h' => hssx W vx h h' rfl
                  rw [hss] at hssx
                  obtain ⟨q, hq⟩ : ∃ q, q = noF := ⟨_, rfl⟩
                  rw [← hq] at hget
                  clear hg1 hg0 hlp hdp hss hth hq
                  replace hdel := hide hdel; replace hssx := hide hssx; replace hget := hide hget
                  generalize z.length = n at *
                  have tk0 : True := trivial
                  have tk1 : True := trivial
                  have tk2 : True := trivial
                  have tk3 : True := trivial
                  have tk4 : True := trivial
                  have tk5 : True := trivial
                  have tk6 : True := trivial
                  have tk7 : True := trivial
                  have tk8 : True := trivial
                  have tk9 : True := trivial
                  go_enter Try.func8, Try.ntmps8
                  go_upto_region 1 with (fail)
                  rw [← hW2]
                  clear hW2
                  go_wp2_with (first
                    | (have _t := tk0; clear tk0 _t; go_at_call 9; refine (unhide hL _).mono ?_; rintro ez wz0 ⟨rfl, bz0⟩; replace hB := hide ((unhide hB).trans (bz0.mono (unhide hB).size)); replace hl := hide ((unhide hl).grow bz0); replace qf := hide ((unhide qf).below bz0 (unhide qf).lt); replace qg := hide ((unhide qg).below bz0 (unhide qg).lt); clear f0 f1 f2 f3 f4 f5; obtain ⟨f0, f1, f2, f3, f4, f5⟩ := bk6 (unhide qf); clear g0 g1 g2 g3 g4 g5; obtain ⟨g0, g1, g2, g3, g4, g5⟩ := bk6 (unhide qg); clear bz0)
                    | (have _t := tk1; clear tk1 _t; go_at_call 10; refine (unhide hF _ (unhide hl)).mono ?_; rintro ez wz1 ⟨rfl, bz1⟩; replace hB := hide ((unhide hB).trans (bz1.mono (unhide hB).size)); replace hl := hide ((unhide hl).grow bz1); replace qf := hide ((unhide qf).below bz1 (unhide qf).lt); replace qg := hide ((unhide qg).below bz1 (unhide qg).lt); clear f0 f1 f2 f3 f4 f5; obtain ⟨f0, f1, f2, f3, f4, f5⟩ := bk6 (unhide qf); clear g0 g1 g2 g3 g4 g5; obtain ⟨g0, g1, g2, g3, g4, g5⟩ := bk6 (unhide qg); clear bz1)
                    | (have _t := tk2; clear tk2 _t; go_at_call 11; refine (unhide hpf _ (unhide hl)).mono ?_; rintro ez wz2 ⟨va, rfl, oha, bz2⟩; replace hB := hide ((unhide hB).trans (bz2.mono (unhide hB).size)); replace hl := hide ((unhide hl).grow bz2); replace qf := hide ((unhide qf).below bz2 (unhide qf).lt); replace qg := hide ((unhide qg).below bz2 (unhide qg).lt); clear f0 f1 f2 f3 f4 f5; obtain ⟨f0, f1, f2, f3, f4, f5⟩ := bk6 (unhide qf); clear g0 g1 g2 g3 g4 g5; obtain ⟨g0, g1, g2, g3, g4, g5⟩ := bk6 (unhide qg); obtain ⟨A1, c1, rfl, _⟩ := oha.fls.open6; (have ha := hide (oha.fls.mono (Nat.zero_le _) (Nat.le_refl _))); clear oha; clear bz2)
                    | (have _t := tk3; clear tk3 _t; go_at_call 11; refine (unhide hpg _ (unhide hl)).mono ?_; rintro ez wz3 ⟨vb, rfl, ohb, bz3⟩; replace hB := hide ((unhide hB).trans (bz3.mono (unhide hB).size)); replace hl := hide ((unhide hl).grow bz3); replace qf := hide ((unhide qf).below bz3 (unhide qf).lt); replace qg := hide ((unhide qg).below bz3 (unhide qg).lt); replace ha := hide ((unhide ha).grow bz3); clear f0 f1 f2 f3 f4 f5; obtain ⟨f0, f1, f2, f3, f4, f5⟩ := bk6 (unhide qf); clear g0 g1 g2 g3 g4 g5; obtain ⟨g0, g1, g2, g3, g4, g5⟩ := bk6 (unhide qg); (have hb := hide (ohb.fls.mono (Nat.zero_le _) (Nat.le_refl _))); clear ohb; clear bz3)
                    | (have _t := tk4; clear tk4 _t; go_at_call 11; refine (unhide hpx _ _ (unhide ha)).mono ?_; rintro ez wz4 ⟨vx, rfl, ohx, bz4⟩; replace hB := hide ((unhide hB).trans (bz4.mono (unhide hB).size)); replace hl := hide ((unhide hl).grow bz4); replace qf := hide ((unhide qf).below bz4 (unhide qf).lt); replace qg := hide ((unhide qg).below bz4 (unhide qg).lt); replace ha := hide ((unhide ha).grow bz4); replace hb := hide ((unhide hb).grow bz4); clear f0 f1 f2 f3 f4 f5; obtain ⟨f0, f1, f2, f3, f4, f5⟩ := bk6 (unhide qf); clear g0 g1 g2 g3 g4 g5; obtain ⟨g0, g1, g2, g3, g4, g5⟩ := bk6 (unhide qg); (have hx := hide (ohx.fls.mono (Nat.zero_le _) (Nat.le_refl _))); clear ohx; clear bz4)
                    | (have _t := tk5; clear tk5 _t; go_at_call 11; refine (unhide hpy _ _ (unhide hb)).mono ?_; rintro ez wz5 ⟨vy, rfl, ohy, bz5⟩; replace hB := hide ((unhide hB).trans (bz5.mono (unhide hB).size)); replace hl := hide ((unhide hl).grow bz5); replace qf := hide ((unhide qf).below bz5 (unhide qf).lt); replace qg := hide ((unhide qg).below bz5 (unhide qg).lt); replace ha := hide ((unhide ha).grow bz5); replace hb := hide ((unhide hb).grow bz5); replace hx := hide ((unhide hx).grow bz5); clear f0 f1 f2 f3 f4 f5; obtain ⟨f0, f1, f2, f3, f4, f5⟩ := bk6 (unhide qf); clear g0 g1 g2 g3 g4 g5; obtain ⟨g0, g1, g2, g3, g4, g5⟩ := bk6 (unhide qg); (have hy := hide (ohy.fls.mono (Nat.zero_le _) (Nat.le_refl _))); clear ohy; clear bz5)
                    | (have _t := tk6; clear tk6 _t; go_at_call 23; refine (unhide hsx _ _ _ (unhide hx) (unhide hy)).mono ?_; rintro ez wz6 ⟨rfl, bz6⟩; replace hB := hide ((unhide hB).trans (bz6.mono (unhide hB).size)); replace hl := hide ((unhide hl).grow bz6); replace qf := hide ((unhide qf).below bz6 (unhide qf).lt); replace qg := hide ((unhide qg).below bz6 (unhide qg).lt); replace ha := hide ((unhide ha).grow bz6); replace hb := hide ((unhide hb).grow bz6); replace hx := hide ((unhide hx).grow bz6); replace hy := hide ((unhide hy).grow bz6); clear f0 f1 f2 f3 f4 f5; obtain ⟨f0, f1, f2, f3, f4, f5⟩ := bk6 (unhide qf); clear g0 g1 g2 g3 g4 g5; obtain ⟨g0, g1, g2, g3, g4, g5⟩ := bk6 (unhide qg); clear bz6)
                    | (have _t := tk7; clear tk7 _t; go_at_call 17; refine (unhide hget _ (unhide hl)).mono ?_; rintro ez wz7 ⟨rfl, bz7⟩; replace hB := hide ((unhide hB).trans (bz7.mono (unhide hB).size)); replace hl := hide ((unhide hl).grow bz7); replace qf := hide ((unhide qf).below bz7 (unhide qf).lt); replace qg := hide ((unhide qg).below bz7 (unhide qg).lt); replace ha := hide ((unhide ha).grow bz7); replace hb := hide ((unhide hb).grow bz7); replace hx := hide ((unhide hx).grow bz7); replace hy := hide ((unhide hy).grow bz7); clear f0 f1 f2 f3 f4 f5; obtain ⟨f0, f1, f2, f3, f4, f5⟩ := bk6 (unhide qf); clear g0 g1 g2 g3 g4 g5; obtain ⟨g0, g1, g2, g3, g4, g5⟩ := bk6 (unhide qg); clear bz7; replace hB := hide ((unhide hB).alloc (unhide hB).size (.cells #[.string (bz q.nm), .float .f64 q.rk, .int .u32 q.sm, .int .i64 q.bk, .int .i64 q.fr, .int .i64 q.ln] 26)); replace hl := hide ((unhide hl).grow ((Below.refl _ _).alloc (Nat.le_refl _) (.cells #[.string (bz q.nm), .float .f64 q.rk, .int .u32 q.sm, .int .i64 q.bk, .int .i64 q.fr, .int .i64 q.ln] 26))); replace qf := hide ((unhide qf).alloc (.cells #[.string (bz q.nm), .float .f64 q.rk, .int .u32 q.sm, .int .i64 q.bk, .int .i64 q.fr, .int .i64 q.ln] 26)); replace qg := hide ((unhide qg).alloc (.cells #[.string (bz q.nm), .float .f64 q.rk, .int .u32 q.sm, .int .i64 q.bk, .int .i64 q.fr, .int .i64 q.ln] 26)); replace ha := hide ((unhide ha).grow ((Below.refl _ _).alloc (Nat.le_refl _) (.cells #[.string (bz q.nm), .float .f64 q.rk, .int .u32 q.sm, .int .i64 q.bk, .int .i64 q.fr, .int .i64 q.ln] 26))); replace hb := hide ((unhide hb).grow ((Below.refl _ _).alloc (Nat.le_refl _) (.cells #[.string (bz q.nm), .float .f64 q.rk, .int .u32 q.sm, .int .i64 q.bk, .int .i64 q.fr, .int .i64 q.ln] 26))); replace hx := hide ((unhide hx).grow ((Below.refl _ _).alloc (Nat.le_refl _) (.cells #[.string (bz q.nm), .float .f64 q.rk, .int .u32 q.sm, .int .i64 q.bk, .int .i64 q.fr, .int .i64 q.ln] 26))); replace hy := hide ((unhide hy).grow ((Below.refl _ _).alloc (Nat.le_refl _) (.cells #[.string (bz q.nm), .float .f64 q.rk, .int .u32 q.sm, .int .i64 q.bk, .int .i64 q.fr, .int .i64 q.ln] 26))); clear f0 f1 f2 f3 f4 f5; obtain ⟨f0, f1, f2, f3, f4, f5⟩ := bk6 (unhide qf); clear g0 g1 g2 g3 g4 g5; obtain ⟨g0, g1, g2, g3, g4, g5⟩ := bk6 (unhide qg))
                    | (have _t := tk8; clear tk8 _t; go_at_call 13; refine (unhide hdel _ _ (unhide ha)).mono ?_; rintro ez wz8 ⟨vz, rfl, ohz, bz8⟩; replace hB := hide ((unhide hB).trans (bz8.mono (unhide hB).size)); replace hl := hide ((unhide hl).grow bz8); replace qf := hide ((unhide qf).below bz8 (unhide qf).lt); replace qg := hide ((unhide qg).below bz8 (unhide qg).lt); replace ha := hide ((unhide ha).grow bz8); replace hb := hide ((unhide hb).grow bz8); replace hx := hide ((unhide hx).grow bz8); replace hy := hide ((unhide hy).grow bz8); clear f0 f1 f2 f3 f4 f5; obtain ⟨f0, f1, f2, f3, f4, f5⟩ := bk6 (unhide qf); clear g0 g1 g2 g3 g4 g5; obtain ⟨g0, g1, g2, g3, g4, g5⟩ := bk6 (unhide qg); (have hz := hide (ohz.fls.mono (Nat.zero_le _) (Nat.le_refl _))); clear ohz; clear bz8)
                    | (have _t := tk9; clear tk9 _t; go_at_call 23; refine (unhide hssx _ _ (unhide hz) (unhide hl)).mono ?_; rintro ez wz9 ⟨rfl, bz9⟩; replace hB := hide ((unhide hB).trans (bz9.mono (unhide hB).size)); replace hl := hide ((unhide hl).grow bz9); replace qf := hide ((unhide qf).below bz9 (unhide qf).lt); replace qg := hide ((unhide qg).below bz9 (unhide qg).lt); replace ha := hide ((unhide ha).grow bz9); replace hb := hide ((unhide hb).grow bz9); replace hx := hide ((unhide hx).grow bz9); replace hy := hide ((unhide hy).grow bz9); replace hz := hide ((unhide hz).grow bz9); clear f0 f1 f2 f3 f4 f5; obtain ⟨f0, f1, f2, f3, f4, f5⟩ := bk6 (unhide qf); clear g0 g1 g2 g3 g4 g5; obtain ⟨g0, g1, g2, g3, g4, g5⟩ := bk6 (unhide qg); clear bz9)
                    | fail)
                  go_ret
                  exact ⟨rfl, unhide hB⟩
end Go.Proofs.Ytkgfmiicfegnlaa
