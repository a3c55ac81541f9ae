import Derived.Test.YtkgfmiicfegnlaaL1
namespace Go.Proofs.Ytkgfmiicfegnlaa
open Go.RowKit
attribute [local go_sem] bz_size bz_toList run_store_float
set_option maxRecDepth 100000

theorem get_self {l : List Fl} (ht : tabB l = true) {f : Fl} (hf : f ∈ l) : getR l f.nm = (f, 0) := by
  have h1 : thereB l f.nm = true := there_iff.2 ⟨f, hf, rfl⟩
  rw [getR_ok ht (ok_name (tab_ok ht hf)) h1]
  obtain ⟨h2, h3⟩ := posn_get (tab_up ht) h1
  rw [up_uniq (tab_up ht) (nth_mem h2) hf h3]
theorem rk_lt {a b : Fl} (h : rkey a < rkey b) : cmpN (keyF a.rk) (keyF b.rk) = 1 := by
  have h1 := key_bound a.rk
  have h2 := key_bound b.rk
  unfold rkey at h
  unfold cmpN
  rw [if_neg (by omega), if_pos (by omega)]
theorem rk_eq {a b : Fl} (h : rkey a = rkey b) : cmpN (keyF a.rk) (keyF b.rk) = 0 := by
  have h1 := key_bound a.rk
  have h2 := key_bound b.rk
  unfold rkey at h
  unfold cmpN
  rw [if_neg (by omega), if_neg (by omega)]
theorem lex_of_lt {p q : List UInt8} (h : ltN p q = true) : lex (parts p) (parts q) = -1 := by
  rcases lex_cases p q with ⟨e, _⟩ | ⟨_, e⟩ | ⟨_, e⟩
  · exact e
  · exact absurd e (lt_ne h)
  · rw [lt_asymm h] at e; cases e
theorem cmpF_ok {p q : List UInt8} (h1 : nameB p = true) (h2 : nameB q = true) : cmpF p q = (lex (parts p) (parts q), 0) := by
  unfold cmpF; rw [if_neg (by simp [h1, h2])]

set_option maxHeartbeats 8000000 in
theorem TableBest_any (v : Value) (l : List Fl) (w : World) (h : Fls 0 w.heap.size w v l) (hr : ∀ x ∈ l, x.rk < 18446744073709551616) :
    Calls Try.prog 7 #[v] w fun e w' => e = .returned (.bool true) ∧ Below w.heap.size w w' := by
  have hL := fun W => live_any W
  have hF := fun W (h : Fls 0 W.heap.size W v l) => few_any 0 W.heap.size v l W h (Nat.le_refl _)
  have hB : Below w.heap.size w w := Below.refl _ _
  have hl := h
  obtain ⟨A, c, rfl, h1, h2, h3⟩ := h
  clear h3
  replace hL := hide hL; replace hB := hide hB; replace hl := hide hl
  cases hfew : fewB l with
  | false =>
    rw [hfew] at hF
    replace hF := hide hF
    clear hfew hr h1 h2
    generalize l.length = n at *
    have tk0 : True := trivial
    have tk1 : True := trivial
    go_enter Try.func7, Try.ntmps7
    go_wp2_with (first
      | (have _t := tk0; clear tk0 _t; go_at_call 9; refine (unhide hL _).mono ?_; rintro ez wz0 ⟨rfl, bz0⟩; replace hB := hide ((unhide hB).trans (bz0.mono (unhide hB).size)); replace hl := hide ((unhide hl).grow bz0); clear bz0)
      | (have _t := tk1; clear tk1 _t; go_at_call 10; refine (unhide hF _ (unhide hl)).mono ?_; rintro ez wz1 ⟨rfl, bz1⟩; replace hB := hide ((unhide hB).trans (bz1.mono (unhide hB).size)); replace hl := hide ((unhide hl).grow bz1); clear bz1)
      | fail)
    go_ret
    exact ⟨rfl, unhide hB⟩
  | true =>
    have hs := sm_few hr hfew
    have hl8 := (few_iff hfew).2
    rw [hfew] at hF
    replace hF := hide hF
    clear hfew hr
    have hbest := fun W (h : Fls 0 W.heap.size W (.slice A l.length c) l) => Best_any 0 W.heap.size _ l W h (Nat.le_refl _) hs
    cases ht : tabB l with
    | false =>
      rw [ht, bestR_f ht, err_f] at hbest
      replace hbest := hide hbest
      clear ht hs h1 h2 hl8
      generalize l.length = n at *
      have tk0 : True := trivial
      have tk1 : True := trivial
      have tk2 : True := trivial
      go_enter Try.func7, Try.ntmps7
      go_wp2_with (first
        | (have _t := tk0; clear tk0 _t; go_at_call 9; refine (unhide hL _).mono ?_; rintro ez wz0 ⟨rfl, bz0⟩; replace hB := hide ((unhide hB).trans (bz0.mono (unhide hB).size)); replace hl := hide ((unhide hl).grow bz0); clear bz0)
        | (have _t := tk1; clear tk1 _t; go_at_call 10; refine (unhide hF _ (unhide hl)).mono ?_; rintro ez wz1 ⟨rfl, bz1⟩; replace hB := hide ((unhide hB).trans (bz1.mono (unhide hB).size)); replace hl := hide ((unhide hl).grow bz1); clear bz1)
        | (have _t := tk2; clear tk2 _t; go_at_call 26; refine (unhide hbest _ (unhide hl)).mono ?_; rintro ez wz2 ⟨vb, rfl, ohb, bz2⟩; replace hB := hide ((unhide hB).trans (bz2.mono (unhide hB).size)); replace hl := hide ((unhide hl).grow bz2); obtain ⟨A8, c8, rfl, _⟩ := ohb.fls.open6; (have hb := hide (ohb.fls.mono (Nat.zero_le _) (Nat.le_refl _))); clear ohb; clear bz2)
        | fail)
      go_ret
      exact ⟨rfl, unhide hB⟩
    | true =>
      rw [ht, bestR_t ht, err_t] at hbest
      have hi := best_is (tab_up ht)
      have hbl := hi.len
      have hget := fun f (hf : f ∈ l) W (h : Fls 0 W.heap.size W (.slice A l.length c) l) => get_any 0 W.heap.size _ l f.nm W h (Nat.le_refl _) hs (by have := (hs f hf).1; omega)
      replace hget : Hid (∀ f (hf : f ∈ l) W (h : Fls 0 W.heap.size W (.slice A l.length c) l), Calls Try.prog 17 #[.slice A l.length c, .string (bz f.nm)] W fun e w' => e = .returned (.tuple #[(.agg #[.string (bz f.nm), .float .f64 f.rk, .int .u32 f.sm, .int .i64 f.bk, .int .i64 f.fr, .int .i64 f.ln]), .int .i64 0]) ∧ Below W.heap.size W w') := hide fun f hf W h => by
        have := hget f hf W h
        rw [get_self ht hf] at this
        exact this
      have hok := fun f (hf : f ∈ l) => ok_name (tab_ok ht hf)
      obtain ⟨b, hb'⟩ : ∃ b, b = bestL l := ⟨_, rfl⟩
      rw [← hb'] at hbest hi hbl
      clear hb' ht
      have hmem : ∀ k, k < b.length → nth b k ∈ l := fun k hk => hi.perm.mem_iff.1 (nth_mem hk)
      have hpair : ∀ m, m + 1 < b.length → ltB (nth b m) (nth b (m + 1)) := fun m hm => by
        have := hi.pair
        rw [List.pairwise_iff_getElem] at this
        rw [nth_get (by omega), nth_get hm]
        exact this m (m + 1) (by omega) hm (by omega)
      clear hi
      obtain ⟨n, hn⟩ : ∃ n, n = l.length := ⟨_, rfl⟩
      rw [← hn] at hF hl hbest hl8 hbl hget h1
      rw [← hn]
      clear hn
      replace hbest := hide hbest; replace hs := hide hs; replace hok := hide hok; replace hbl := hide hbl; replace hmem := hide hmem; replace hpair := hide hpair; replace h1 := hide h1
      have tk0 : True := trivial
      have tk1 : True := trivial
      have tk2 : True := trivial
      go_enter Try.func7, Try.ntmps7
      go_wp2_with (first
        | (have _t := tk0; clear tk0 _t; go_at_call 9; refine (unhide hL _).mono ?_; rintro ez wz0 ⟨rfl, bz0⟩; replace hB := hide ((unhide hB).trans (bz0.mono (unhide hB).size)); replace hl := hide ((unhide hl).grow bz0); clear bz0)
        | (have _t := tk1; clear tk1 _t; go_at_call 10; refine (unhide hF _ (unhide hl)).mono ?_; rintro ez wz1 ⟨rfl, bz1⟩; replace hB := hide ((unhide hB).trans (bz1.mono (unhide hB).size)); replace hl := hide ((unhide hl).grow bz1); clear bz1)
        | (have _t := tk2; clear tk2 _t; go_at_call 26; refine (unhide hbest _ (unhide hl)).mono ?_; rintro ez wz2 ⟨vb, rfl, ohb, bz2⟩; replace hB := hide ((unhide hB).trans (bz2.mono (unhide hB).size)); replace hl := hide ((unhide hl).grow bz2); obtain ⟨A8, c8, rfl, _⟩ := ohb.fls.open6; (have hb := hide (ohb.fls.mono (Nat.zero_le _) (Nat.le_refl _))); clear ohb; clear bz2; rw [unhide hbl] at hb; rw [unhide hbl])
        | fail)
      go_loopw [38] (fun i wr => ∃ k : Nat, k ≤ n ∧ i = .int .i64 k ∧ Hid (Fls 0 wr.heap.size wr (.slice A n c) l) ∧ Hid (Fls 0 wr.heap.size wr (.slice A8 n c8) b) ∧ Hid (Below w.heap.size w wr)) (fun i _ => n - (intOf i).toNat)
      case atStart => exact ⟨0, Nat.zero_le _, rfl, hl, hb, hB⟩
      case round =>
        clear hl hb hB
        obtain ⟨k, hk, rfl, hl, hb, hB⟩ := hrel
        by_cases hlt : k < n
        · have hkl : k < b.length := by rw [unhide hbl]; exact hlt
          obtain ⟨A9, c9, e9, _, _, hr9⟩ := (unhide hb).open6
          injection e9 with e91 e92 e93
          obtain ⟨b8, off8, rfl, _, hq8, hx8⟩ := hr9 k hkl
          subst e91 e93
          have hm := unhide hmem k hkl
          have hget' := unhide hget _ hm
          have hsf := unhide hs _ hm
          have hone := fun W => refOne_any (nth b k) (nth b k) hsf.2 hsf.2 W
          rw [one_self] at hone
          have hpr := fun m (e : k = m + 1) => unhide hpair m (by omega)
          have hokf := unhide hok _ hm
          obtain ⟨y0, y1, y2, y3, y4, y5⟩ := six hx8
          obtain ⟨f, hf⟩ : ∃ f, f = nth b k := ⟨_, rfl⟩
          have hpr2 : Hid (∀ m, k = m + 1 → ltB (nth b m) f) := hide fun m e => by rw [hf, e]; exact hpr m e
          rw [← hf] at hget' hsf hone hokf y0 y1 y2 y3 y4 y5
          clear hx8 hm hpr e92
          have qf : Hid (Blk (wr.alloc (.cells #[.string (bz f.nm), .float .f64 f.rk, .int .u32 f.sm, .int .i64 f.bk, .int .i64 f.fr, .int .i64 f.ln] 26)) wr.heap.size 26 #[.string (bz f.nm), .float .f64 f.rk, .int .u32 f.sm, .int .i64 f.bk, .int .i64 f.fr, .int .i64 f.ln]) := hide (Blk.new rfl)
          obtain ⟨f0, f1, f2, f3, f4, f5⟩ := bk6 (unhide qf)
          have hl1 := hide ((unhide hl).grow ((Below.refl _ _).alloc (Nat.le_refl _) (.cells #[.string (bz f.nm), .float .f64 f.rk, .int .u32 f.sm, .int .i64 f.bk, .int .i64 f.fr, .int .i64 f.ln] 26)))
          have hb1 := hide ((unhide hb).grow ((Below.refl _ _).alloc (Nat.le_refl _) (.cells #[.string (bz f.nm), .float .f64 f.rk, .int .u32 f.sm, .int .i64 f.bk, .int .i64 f.fr, .int .i64 f.ln] 26)))
          have hB1 := hide ((unhide hB).alloc (unhide hB).size (.cells #[.string (bz f.nm), .float .f64 f.rk, .int .u32 f.sm, .int .i64 f.bk, .int .i64 f.fr, .int .i64 f.ln] 26))
          replace hget' := hide hget'; replace hone := hide hone; replace hsf := hide hsf; replace hokf := hide hokf; replace hr9 := hide hr9; replace hf := hide hf
          by_cases h0 : 0 < k
          · obtain ⟨m, rfl⟩ : ∃ m, k = m + 1 := ⟨k - 1, by omega⟩
            have i1 : IntKind.i64.wrap (m : Int) = (m : Int) := IntWalk.i64_in _ (by omega)
            have hl2 := unhide hpr2 m rfl
            obtain ⟨A7, c7, e7, _, _, hr7⟩ := (unhide hb1).open6
            injection e7 with e71 e72 e73
            obtain ⟨b9, off9, e10, _, hq9, hx9⟩ := hr7 m (by rw [unhide hbl]; omega)
            rw [← e71] at e10
            injection e10 with e10
            injection e10 with e11 e12
            subst e11 e12
            clear e71 e72 e73 hr7
            have hmx := unhide hmem m (by rw [unhide hbl]; omega)
            have hsx := unhide hs _ hmx
            have hC := fun W => Cmp_any (nth b m).rk f.rk hsx.2 (unhide hsf).2 W
            have hN := fun W => cmp_any (nth b m).nm f.nm (by have := hsx.1; omega) (by have := (unhide hsf).1; omega) W
            rw [cmpF_ok (unhide hok _ hmx) (unhide hokf)] at hN
            have b1 : m < n := by omega
            obtain ⟨X, hX⟩ : ∃ X, X = nth b m := ⟨_, rfl⟩
            rw [← hX] at hx9 hl2 hC hN
            clear hsx hmx
            go_upto_region 12 with (fail)
            clear hl hb hB y0 y1 y2 y3 y4 y5 h0 hpr2
            generalize wr.alloc (.cells #[.string (bz f.nm), .float .f64 f.rk, .int .u32 f.sm, .int .i64 f.bk, .int .i64 f.fr, .int .i64 f.ln] 26) = ws at *
            generalize wr.heap.size = g at *
            obtain ⟨z0, z1, z2, z3, z4, z5⟩ := six hx9
            clear z0 z2 z3 z4 z5
            replace hX := hide hX; replace hx9 := hide hx9
            rcases hl2 with hlt2 | ⟨heq, hlt2⟩
            · rw [rk_lt hlt2] at hC
              generalize lex (parts X.nm) (parts f.nm) = Z at *
              clear hlt2
              replace hC := hide hC; replace hN := hide hN
              go_upto_region 13 with (fail)
              go_quiet ((go_at_call 30; refine Calls.quiet_of_same ((unhide hC _).mono fun _ _ h => ⟨h.1, h.2.symm⟩)))
              have bz := bl_drewN (Below.refl ws.heap.size ws) nq
              have hx := below_load bz hq9 (unhide hx9)
              have hl := hide ((unhide hl1).grow bz)
              have hb := hide ((unhide hb1).grow bz)
              have hB := hide ((unhide hB1).trans (bz.mono (unhide hB1).size))
              replace qf := hide ((unhide qf).below bz (unhide qf).lt)
              replace hq9 : b8 < (ws.drewN nq).heap.size := hq9
              clear hl1 hb1 hB1 bz z1 f0 f1 f2 f3 f4 f5 hx9
              generalize ws.drewN nq = w1 at *
              obtain ⟨z0, z1, z2, z3, z4, z5⟩ := six hx
              obtain ⟨f0, f1, f2, f3, f4, f5⟩ := bk6 (unhide qf)
              have gl := (unhide qf).lt
              have u0 := fun p : Lat w1 => lat_cell p hq9 z0
              have v0 := fun p : Lat w1 => lat_cell p gl f0
              clear z0 z1 z2 z3 z4 z5 hx
              go_upto_region 14 with (fail)
              refine wp_region_lat (by kernel_rfl) (by kernel_rfl) ?_
              repeat (go_big_quiet_step ((rename_i zz; go_at_call 31; exact Calls.lat_of (p := zz) (unhide hN zz.W))))
              refine wpQuiet_nil ?_
              rintro _ ⟨⟨w2, bz⟩, rfl⟩
              replace hl := hide ((unhide hl).grow bz)
              replace hb := hide ((unhide hb).grow bz)
              replace hB := hide ((unhide hB).trans (bz.mono (unhide hB).size))
              replace qf := hide ((unhide qf).below bz (unhide qf).lt)
              clear u0 v0 gl bz hq9 f0 f1 f2 f3 f4 f5
              obtain ⟨f0, f1, f2, f3, f4, f5⟩ := bk6 (unhide qf)
              have tk0 : True := trivial
              have tk1 : True := trivial
              go_wp2_with (first
                | (have _t := tk0; clear tk0 _t; go_at_call 17; refine (unhide hget' _ (unhide hl)).mono ?_; rintro ez wz0 ⟨rfl, bz0⟩; replace hB := hide ((unhide hB).trans (bz0.mono (unhide hB).size)); replace hl := hide ((unhide hl).grow bz0); replace hb := hide ((unhide hb).grow bz0); replace qf := hide ((unhide qf).below bz0 (unhide qf).lt); clear f0 f1 f2 f3 f4 f5; obtain ⟨f0, f1, f2, f3, f4, f5⟩ := bk6 (unhide qf); clear bz0; replace hB := hide ((unhide hB).alloc (unhide hB).size (.cells #[.string (bz f.nm), .float .f64 f.rk, .int .u32 f.sm, .int .i64 f.bk, .int .i64 f.fr, .int .i64 f.ln] 26)); replace hl := hide ((unhide hl).grow ((Below.refl _ _).alloc (Nat.le_refl _) (.cells #[.string (bz f.nm), .float .f64 f.rk, .int .u32 f.sm, .int .i64 f.bk, .int .i64 f.fr, .int .i64 f.ln] 26))); replace hb := hide ((unhide hb).grow ((Below.refl _ _).alloc (Nat.le_refl _) (.cells #[.string (bz f.nm), .float .f64 f.rk, .int .u32 f.sm, .int .i64 f.bk, .int .i64 f.fr, .int .i64 f.ln] 26))); replace qf := hide ((unhide qf).alloc (.cells #[.string (bz f.nm), .float .f64 f.rk, .int .u32 f.sm, .int .i64 f.bk, .int .i64 f.fr, .int .i64 f.ln] 26)); clear f0 f1 f2 f3 f4 f5; obtain ⟨f0, f1, f2, f3, f4, f5⟩ := bk6 (unhide qf); (have qx := Blk.new (w := wz0) (cs := #[.string (bz f.nm), .float .f64 f.rk, .int .u32 f.sm, .int .i64 f.bk, .int .i64 f.fr, .int .i64 f.ln]) (t := 26) rfl); obtain ⟨x0, x1, x2, x3, x4, x5⟩ := bk6 qx; clear qx)
                | (have _t := tk1; clear tk1 _t; go_at_call 20; refine (unhide hone _).mono ?_; rintro ez wz1 ⟨rfl, bz1⟩; replace hB := hide ((unhide hB).trans (bz1.mono (unhide hB).size)); replace hl := hide ((unhide hl).grow bz1); replace hb := hide ((unhide hb).grow bz1); replace qf := hide ((unhide qf).below bz1 (unhide qf).lt); clear f0 f1 f2 f3 f4 f5; obtain ⟨f0, f1, f2, f3, f4, f5⟩ := bk6 (unhide qf); clear bz1)
                | fail)
              go_roundw
              case rel => exact ⟨m + 1 + 1, by omega, by go_num, hl, hb, hB⟩
              case measure => simp [intOf] <;> omega
            · rw [rk_eq heq] at hC
              rw [lex_of_lt hlt2] at hN
              clear hlt2 heq
              replace hC := hide hC; replace hN := hide hN
              go_upto_region 13 with (fail)
              go_quiet ((go_at_call 30; refine Calls.quiet_of_same ((unhide hC _).mono fun _ _ h => ⟨h.1, h.2.symm⟩)))
              have bz := bl_drewN (Below.refl ws.heap.size ws) nq
              have hx := below_load bz hq9 (unhide hx9)
              have hl := hide ((unhide hl1).grow bz)
              have hb := hide ((unhide hb1).grow bz)
              have hB := hide ((unhide hB1).trans (bz.mono (unhide hB1).size))
              replace qf := hide ((unhide qf).below bz (unhide qf).lt)
              replace hq9 : b8 < (ws.drewN nq).heap.size := hq9
              clear hl1 hb1 hB1 bz z1 f0 f1 f2 f3 f4 f5 hx9
              generalize ws.drewN nq = w1 at *
              obtain ⟨z0, z1, z2, z3, z4, z5⟩ := six hx
              obtain ⟨f0, f1, f2, f3, f4, f5⟩ := bk6 (unhide qf)
              have gl := (unhide qf).lt
              have u0 := fun p : Lat w1 => lat_cell p hq9 z0
              have v0 := fun p : Lat w1 => lat_cell p gl f0
              clear z0 z1 z2 z3 z4 z5 hx
              go_upto_region 14 with (fail)
              refine wp_region_lat (by kernel_rfl) (by kernel_rfl) ?_
              repeat (go_big_quiet_step ((rename_i zz; go_at_call 31; exact Calls.lat_of (p := zz) (unhide hN zz.W))))
              refine wpQuiet_nil ?_
              rintro _ ⟨⟨w2, bz⟩, rfl⟩
              replace hl := hide ((unhide hl).grow bz)
              replace hb := hide ((unhide hb).grow bz)
              replace hB := hide ((unhide hB).trans (bz.mono (unhide hB).size))
              replace qf := hide ((unhide qf).below bz (unhide qf).lt)
              clear u0 v0 gl bz hq9 f0 f1 f2 f3 f4 f5
              obtain ⟨f0, f1, f2, f3, f4, f5⟩ := bk6 (unhide qf)
              have tk0 : True := trivial
              have tk1 : True := trivial
              go_wp2_with (first
                | (have _t := tk0; clear tk0 _t; go_at_call 17; refine (unhide hget' _ (unhide hl)).mono ?_; rintro ez wz0 ⟨rfl, bz0⟩; replace hB := hide ((unhide hB).trans (bz0.mono (unhide hB).size)); replace hl := hide ((unhide hl).grow bz0); replace hb := hide ((unhide hb).grow bz0); replace qf := hide ((unhide qf).below bz0 (unhide qf).lt); clear f0 f1 f2 f3 f4 f5; obtain ⟨f0, f1, f2, f3, f4, f5⟩ := bk6 (unhide qf); clear bz0; replace hB := hide ((unhide hB).alloc (unhide hB).size (.cells #[.string (bz f.nm), .float .f64 f.rk, .int .u32 f.sm, .int .i64 f.bk, .int .i64 f.fr, .int .i64 f.ln] 26)); replace hl := hide ((unhide hl).grow ((Below.refl _ _).alloc (Nat.le_refl _) (.cells #[.string (bz f.nm), .float .f64 f.rk, .int .u32 f.sm, .int .i64 f.bk, .int .i64 f.fr, .int .i64 f.ln] 26))); replace hb := hide ((unhide hb).grow ((Below.refl _ _).alloc (Nat.le_refl _) (.cells #[.string (bz f.nm), .float .f64 f.rk, .int .u32 f.sm, .int .i64 f.bk, .int .i64 f.fr, .int .i64 f.ln] 26))); replace qf := hide ((unhide qf).alloc (.cells #[.string (bz f.nm), .float .f64 f.rk, .int .u32 f.sm, .int .i64 f.bk, .int .i64 f.fr, .int .i64 f.ln] 26)); clear f0 f1 f2 f3 f4 f5; obtain ⟨f0, f1, f2, f3, f4, f5⟩ := bk6 (unhide qf); (have qx := Blk.new (w := wz0) (cs := #[.string (bz f.nm), .float .f64 f.rk, .int .u32 f.sm, .int .i64 f.bk, .int .i64 f.fr, .int .i64 f.ln]) (t := 26) rfl); obtain ⟨x0, x1, x2, x3, x4, x5⟩ := bk6 qx; clear qx)
                | (have _t := tk1; clear tk1 _t; go_at_call 20; refine (unhide hone _).mono ?_; rintro ez wz1 ⟨rfl, bz1⟩; replace hB := hide ((unhide hB).trans (bz1.mono (unhide hB).size)); replace hl := hide ((unhide hl).grow bz1); replace hb := hide ((unhide hb).grow bz1); replace qf := hide ((unhide qf).below bz1 (unhide qf).lt); clear f0 f1 f2 f3 f4 f5; obtain ⟨f0, f1, f2, f3, f4, f5⟩ := bk6 (unhide qf); clear bz1)
                | fail)
              go_roundw
              case rel => exact ⟨m + 1 + 1, by omega, by go_num, hl, hb, hB⟩
              case measure => simp [intOf] <;> omega
          · have hg : decide ((k : Int) > 0) = false := decide_eq_false (by omega)
            go_upto_region 17 with (fail)
            clear hl hb hB y0 y1 y2 y3 y4 y5
            have hl := hl1
            have hb := hb1
            have hB := hB1
            clear hl1 hb1 hB1
            generalize wr.alloc (.cells #[.string (bz f.nm), .float .f64 f.rk, .int .u32 f.sm, .int .i64 f.bk, .int .i64 f.fr, .int .i64 f.ln] 26) = ws at *
            generalize wr.heap.size = g at *
            have tk0 : True := trivial
            have tk1 : True := trivial
            go_wp2_with (first
              | (have _t := tk0; clear tk0 _t; go_at_call 17; refine (unhide hget' _ (unhide hl)).mono ?_; rintro ez wz0 ⟨rfl, bz0⟩; replace hB := hide ((unhide hB).trans (bz0.mono (unhide hB).size)); replace hl := hide ((unhide hl).grow bz0); replace hb := hide ((unhide hb).grow bz0); replace qf := hide ((unhide qf).below bz0 (unhide qf).lt); clear f0 f1 f2 f3 f4 f5; obtain ⟨f0, f1, f2, f3, f4, f5⟩ := bk6 (unhide qf); clear bz0; replace hB := hide ((unhide hB).alloc (unhide hB).size (.cells #[.string (bz f.nm), .float .f64 f.rk, .int .u32 f.sm, .int .i64 f.bk, .int .i64 f.fr, .int .i64 f.ln] 26)); replace hl := hide ((unhide hl).grow ((Below.refl _ _).alloc (Nat.le_refl _) (.cells #[.string (bz f.nm), .float .f64 f.rk, .int .u32 f.sm, .int .i64 f.bk, .int .i64 f.fr, .int .i64 f.ln] 26))); replace hb := hide ((unhide hb).grow ((Below.refl _ _).alloc (Nat.le_refl _) (.cells #[.string (bz f.nm), .float .f64 f.rk, .int .u32 f.sm, .int .i64 f.bk, .int .i64 f.fr, .int .i64 f.ln] 26))); replace qf := hide ((unhide qf).alloc (.cells #[.string (bz f.nm), .float .f64 f.rk, .int .u32 f.sm, .int .i64 f.bk, .int .i64 f.fr, .int .i64 f.ln] 26)); clear f0 f1 f2 f3 f4 f5; obtain ⟨f0, f1, f2, f3, f4, f5⟩ := bk6 (unhide qf); (have qx := Blk.new (w := wz0) (cs := #[.string (bz f.nm), .float .f64 f.rk, .int .u32 f.sm, .int .i64 f.bk, .int .i64 f.fr, .int .i64 f.ln]) (t := 26) rfl); obtain ⟨x0, x1, x2, x3, x4, x5⟩ := bk6 qx; clear qx)
              | (have _t := tk1; clear tk1 _t; go_at_call 20; refine (unhide hone _).mono ?_; rintro ez wz1 ⟨rfl, bz1⟩; replace hB := hide ((unhide hB).trans (bz1.mono (unhide hB).size)); replace hl := hide ((unhide hl).grow bz1); replace hb := hide ((unhide hb).grow bz1); replace qf := hide ((unhide qf).below bz1 (unhide qf).lt); clear f0 f1 f2 f3 f4 f5; obtain ⟨f0, f1, f2, f3, f4, f5⟩ := bk6 (unhide qf); clear bz1)
              | fail)
            go_roundw
            case rel => exact ⟨k + 1, by omega, by go_num, hl, hb, hB⟩
            case measure => simp [intOf] <;> omega
        · obtain rfl : k = n := by omega
          go_wp2
          go_ret
          exact ⟨rfl, unhide hB⟩
end Go.Proofs.Ytkgfmiicfegnlaa
