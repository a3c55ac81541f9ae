import Derived.Test.YtkgfmiicfegnlaaT19
namespace Go.Proofs.Ytkgfmiicfegnlaa
open Go.RowKit
attribute [local go_sem] bz_size bz_toList run_store_float
set_option maxRecDepth 100000

set_option maxHeartbeats 4000000 in
theorem refWith_any (lo hi : Nat) (v : Value) (l : List Fl) (f : Fl) (w : World) (h : Fls lo hi w v l) (hhi : hi ≤ w.heap.size) (hl8 : l.length ≤ 100000) (hs : SmL l) (hf : SmF f) :
    Calls Try.prog 38 #[v, (.agg #[.string (bz f.nm), .float .f64 f.rk, .int .u32 f.sm, .int .i64 f.bk, .int .i64 f.fr, .int .i64 f.ln])] w fun e w' => ∃ v', e = .returned v' ∧ OwnF w' w.heap.size v' (putF l f) ∧ Below w.heap.size w w' := by
  obtain ⟨A, c, rfl, h1, h2, h3⟩ := h.open6
  clear h
  obtain ⟨i0, hi0, hz0, hz1, hz2⟩ := info_parts info26
  obtain ⟨P, hP⟩ : ∃ P : Fl → Bool, P = fun x => ltN x.nm f.nm := ⟨_, rfl⟩
  obtain ⟨P2, hP2⟩ : ∃ P : Fl → Bool, P = fun x => ltN f.nm x.nm := ⟨_, rfl⟩
  obtain ⟨pre, hpre⟩ : ∃ pre : List Fl, pre = [] := ⟨_, rfl⟩
  obtain ⟨n, hn⟩ : ∃ n, n = l.length := ⟨_, rfl⟩
  have hfin1 : pre ++ (l.take n).filter P = lowF l f.nm := by rw [hpre, hn, List.take_length, hP]; rfl
  obtain ⟨mid, hmid⟩ : ∃ m, m = lowF l f.nm ++ [f] := ⟨_, rfl⟩
  have hfin2 : mid ++ (l.take n).filter P2 = putF l f := by rw [hmid, hn, List.take_length, hP2]; unfold putF highF; simp
  have hm0 : mid ++ (l.take 0).filter P2 = mid := by simp
  have hPf : ∀ x, P x = ltN x.nm f.nm := fun x => by rw [hP]
  have hPf2 : ∀ x, P2 x = ltN f.nm x.nm := fun x => by rw [hP2]
  have hlen : ∀ k, (pre ++ (l.take k).filter P).length ≤ l.length := fun k => by
    have := fil_len P l k pre
    rw [hpre] at this ⊢
    simpa using this
  have hlowlen : (lowF l f.nm).length ≤ l.length := List.length_filter_le _ _
  have hlen2 : ∀ k, (mid ++ (l.take k).filter P2).length ≤ l.length + 1 + l.length := fun k => by
    have := fil_len P2 l k mid
    rw [hmid] at this ⊢
    have e : (lowF l f.nm ++ [f]).length = (lowF l f.nm).length + 1 := by simp
    rw [e] at this
    omega
  have h0 : pre ++ (l.take 0).filter P = [] := by rw [hpre]; rfl
  have hLess : ∀ x, SmF x → ∀ W, Calls Try.prog 45 #[.string (bz x.nm), .string (bz f.nm)] W fun e W' => e = .returned (.bool (ltN x.nm f.nm)) ∧ Below W.heap.size W W' := fun x hx W => refLess_any x.nm f.nm (by have := hx.1; omega) (by have := hf.1; omega) W
  have hLess2 : ∀ x, SmF x → ∀ W, Calls Try.prog 45 #[.string (bz f.nm), .string (bz x.nm)] W fun e W' => e = .returned (.bool (ltN f.nm x.nm)) ∧ Below W.heap.size W W' := fun x hx W => refLess_any f.nm x.nm (by have := hf.1; omega) (by have := hx.1; omega) W
  rw [← hn] at h3 h1 hl8 hlen hlen2 hlowlen ⊢
  obtain ⟨lw, hlw⟩ : ∃ lw, lw = lowF l f.nm := ⟨_, rfl⟩
  rw [← hlw] at hfin1 hmid hlowlen
  obtain ⟨res, hres⟩ : ∃ lw, lw = putF l f := ⟨_, rfl⟩
  rw [← hres] at hfin2 ⊢
  clear hP hpre hP2 hf hlw hres
  replace hmid := hide hmid
  replace hn := hide hn; replace h3 := hide h3; replace h1 := hide h1; replace hfin1 := hide hfin1; replace hfin2 := hide hfin2; replace hPf := hide hPf; replace hPf2 := hide hPf2; replace hlen := hide hlen; replace hlen2 := hide hlen2; replace h0 := hide h0; replace hm0 := hide hm0
  replace hLess := hide hLess; replace hLess2 := hide hLess2; replace hs := hide hs; replace hlowlen := hide hlowlen
  obtain ⟨W1, hW⟩ : ∃ W1, W1 = w.alloc (.cells #[.string (bz f.nm), .float .f64 f.rk, .int .u32 f.sm, .int .i64 f.bk, .int .i64 f.fr, .int .i64 f.ln] 26) := ⟨_, rfl⟩
  have hsz : W1.heap.size = w.heap.size + 1 := by rw [hW]; simp only [World.size_alloc]
  have hbf : Hid (Blk W1 w.heap.size 26 #[.string (bz f.nm), .float .f64 f.rk, .int .u32 f.sm, .int .i64 f.bk, .int .i64 f.fr, .int .i64 f.ln]) := hide (by rw [hW]; exact Blk.new rfl)
  have hW1 : Hid (Below w.heap.size w W1) := hide (by rw [hW]; exact bl_alloc (Below.refl _ _) _)
  go_enter Try.func38, Try.ntmps38
  go_wp2
  rw [← hW]
  clear hW
  go_loopw [5, 12] (fun o i wr => ∃ (k : Nat) (A' : Option Addr) (c' : Nat), k ≤ n ∧ o = .slice A' (pre ++ (l.take k).filter P).length c' ∧ i = .int .i64 k ∧ Hid (OwnF wr (w.heap.size + 1) (.slice A' (pre ++ (l.take k).filter P).length c') (pre ++ (l.take k).filter P)) ∧ Hid (Below (w.heap.size + 1) W1 wr)) (fun _ i _ => n - (intOf i).toNat)
  case atStart => exact ⟨0, none, 0, Nat.zero_le _, by rw [unhide h0]; rfl, rfl, by rw [unhide h0]; exact hide (own_nil _ _), hide (Below.refl _ _)⟩
  case round =>
    obtain ⟨k, A', c', hk, rfl, rfl, ho, hB⟩ := hrel
    by_cases hlt : k < n
    · have hkl : k < l.length := by rw [← unhide hn]; exact hlt
      have hm := unhide hs _ (nth_mem hkl)
      have hL := unhide hLess _ hm
      obtain ⟨b, off, rfl, _, hb, hc⟩ := unhide h3 k hlt
      have hBw := (unhide hW1).trans ((unhide hB).mono (by omega))
      have szB : W1.heap.size ≤ wr.heap.size := (unhide hB).size
      obtain ⟨c0, c1, c2, c3, c4, c5⟩ := six (below_load hBw (Nat.lt_of_lt_of_le hb hhi) hc)
      have q1 : b < wr.heap.size := Nat.lt_of_lt_of_le (Nat.lt_of_lt_of_le hb hhi) hBw.size
      have qf : Blk wr w.heap.size 26 #[.string (bz f.nm), .float .f64 f.rk, .int .u32 f.sm, .int .i64 f.bk, .int .i64 f.fr, .int .i64 f.ln] := (unhide hbf).below (unhide hB) (by omega)
      obtain ⟨d0, d1, d2, d3, d4, d5⟩ := bk6 qf
      have q2 : w.heap.size < wr.heap.size := qf.lt
      have e1 := fun h => fil_t (P := P) hkl h pre
      have e2 := fun h => fil_f (P := P) hkl h pre
      have hol := unhide hlen k
      have hPk := unhide hPf (nth l k)
      obtain ⟨x, hx⟩ : ∃ x, x = nth l k := ⟨_, rfl⟩
      rw [← hx] at c0 c1 c2 c3 c4 c5 e1 e2 hPk hL
      have hB0 : Hid (∀ z, Below (w.heap.size + 1) W1 (wr.alloc z)) := hide (fun z => (unhide hB).alloc (by omega) _)
      have hbx : Blk (wr.alloc (.cells #[.string (bz x.nm), .float .f64 x.rk, .int .u32 x.sm, .int .i64 x.bk, .int .i64 x.fr, .int .i64 x.ln] 26)) wr.heap.size 26 #[.string (bz x.nm), .float .f64 x.rk, .int .u32 x.sm, .int .i64 x.bk, .int .i64 x.fr, .int .i64 x.ln] := Blk.new rfl
      clear hc hx hkl qf
      generalize pre ++ (l.take k).filter P = out at *
      obtain ⟨q, hq⟩ : ∃ q, q = ltN x.nm f.nm := ⟨_, rfl⟩
      rw [← hq] at hL hPk
      replace hL := hide hL; replace hbx := hide hbx; replace hBw := hide hBw
      clear hq
      cases q with
      | false =>
        have e3 := e2 hPk
        clear e1 e2 hPk
        replace e3 := hide e3
        go_wp2_with (go_at_call 45; refine (unhide hL _).mono ?_; rintro e w3 ⟨rfl, B4⟩)
        go_roundw
        case rel => exact ⟨k + 1, A', c', by omega, by rw [unhide e3], by go_num, by rw [unhide e3]; exact hide (own_below (B := wr.heap.size) (unhide ho) ((Below.refl _ _).alloc (Nat.le_refl _) (.cells #[.string (bz x.nm), .float .f64 x.rk, .int .u32 x.sm, .int .i64 x.bk, .int .i64 x.fr, .int .i64 x.ln] 26) |>.trans (B4.mono (by simp))) (Nat.le_refl _)), hide ((unhide hB0 _).trans (B4.mono (by simp; omega)))⟩
        case measure => simp [intOf]; omega
      | true =>
        have e3 := e1 hPk
        clear e1 e2 hPk
        have u1 : out.length + 1 ≤ maxLen := by simp only [maxLen]; omega
        have u2 : (out.length + 1) * 56 ≤ 140737488355328 := by omega
        replace e3 := hide e3; replace u1 := hide u1; replace u2 := hide u2
        go_wp2_with (first
          | (go_at_call 45; refine (unhide hL _).mono ?_; rintro e w3 ⟨rfl, B4⟩; (have q3 : Blk w3 wr.heap.size 26 #[.string (bz x.nm), .float .f64 x.rk, .int .u32 x.sm, .int .i64 x.bk, .int .i64 x.fr, .int .i64 x.ln] := (unhide hbx).below B4 (unhide hbx).lt); obtain ⟨y0, y1, y2, y3, y4, y5⟩ := bk6 q3; (have B5 := hide ((unhide hB0 _).trans (B4.mono (by simp; omega)))); (have s5 : wr.heap.size < w3.heap.size := q3.lt); (have O5 := hide (own_below (B := wr.heap.size) (unhide ho) ((Below.refl _ _).alloc (Nat.le_refl _) (.cells #[.string (bz x.nm), .float .f64 x.rk, .int .u32 x.sm, .int .i64 x.bk, .int .i64 x.fr, .int .i64 x.ln] 26) |>.trans (B4.mono (by simp))) (Nat.le_refl _))); replace q3 := hide q3)
          | (at_builtin
             refine wpList_app _ rfl (.tmp 21) (.tmp 23) 22 rfl (w.heap.size + 1) 26 i0 _ 6 56 Try.underlying22 hi0 hz0 hz1 hz2 rfl (Nat.succ_pos _) _ out.length (out.flatMap fc) rfl ((unhide O5).alloc _) (some ⟨w3.heap.size, 0, none⟩) 1 1 (fc x) rfl (by rw [fc_len]) (src_file _ _ _ rfl) (fc_one x) (unhide u1) (unhide u2) (by simp; omega) ?_
             intro v5 w5 o5 hg5
             obtain ⟨A5, c5, rfl⟩ := ownsRow_form o5
             have B8 := hide (((unhide B5).alloc (by omega) _).grown hg5 (by simp; omega) (own_base (unhide O5)))
             replace o5 := hide o5))
        go_roundw
        case rel => exact ⟨k + 1, A5, c5, by omega, by rw [unhide e3, List.length_append]; rfl, by go_num, by rw [unhide e3]; exact hide (own_app (unhide o5)), B8⟩
        case measure => simp [intOf]; omega
    · obtain rfl : n = k := by omega
      have hl1 := unhide hlowlen
      have ho2 := unhide ho
      rw [unhide hfin1] at ho2
      have qf : Blk wr w.heap.size 26 #[.string (bz f.nm), .float .f64 f.rk, .int .u32 f.sm, .int .i64 f.bk, .int .i64 f.fr, .int .i64 f.ln] := (unhide hbf).below (unhide hB) (by omega)
      obtain ⟨d0, d1, d2, d3, d4, d5⟩ := bk6 qf
      have q2 : w.heap.size < wr.heap.size := qf.lt
      replace ho2 := hide ho2
      rw [unhide hfin1]
      clear qf ho
      have u1 : lw.length + 1 ≤ maxLen := by simp only [maxLen]; omega
      have u2 : (lw.length + 1) * 56 ≤ 140737488355328 := by omega
      replace u1 := hide u1; replace u2 := hide u2; replace hl1 := hide hl1
      go_wp2_with (first
        | (at_builtin
           refine wpList_app _ rfl (.tmp 26) (.tmp 28) 22 rfl (w.heap.size + 1) 26 i0 _ 6 56 Try.underlying22 hi0 hz0 hz1 hz2 rfl (Nat.succ_pos _) _ lw.length (lw.flatMap fc) rfl ((unhide ho2).alloc _) (some ⟨wr.heap.size, 0, none⟩) 1 1 (fc f) rfl (by rw [fc_len]) (src_file _ _ _ rfl) (fc_one f) (unhide u1) (unhide u2) (by simp; omega) ?_
           intro v5 w5 o5 hg5
           obtain ⟨Am, cm, rfl⟩ := ownsRow_form o5
           have Bm := hide (((unhide hB).alloc (by omega) _).grown hg5 (by simp; omega) (own_base (unhide ho2)))
           have om := own_app o5
           rw [← unhide hmid] at om
           replace om := hide om
           clear o5 hg5))
      have hml : lw.length + 1 = mid.length := by rw [unhide hmid]; simp
      rw [hml]
      clear hml
      clear d0 d1 d2 d3 d4 d5 q2 hLess hB ho2 h0 hlen hPf hl1
      replace hLess := hLess2
      clear hLess2
      go_loopw [5, 32] (fun o i wr => ∃ (k : Nat) (A' : Option Addr) (c' : Nat), k ≤ n ∧ o = .slice A' (mid ++ (l.take k).filter P2).length c' ∧ i = .int .i64 k ∧ Hid (OwnF wr (w.heap.size + 1) (.slice A' (mid ++ (l.take k).filter P2).length c') (mid ++ (l.take k).filter P2)) ∧ Hid (Below (w.heap.size + 1) W1 wr)) (fun _ i _ => n - (intOf i).toNat)
      case atStart => exact ⟨0, Am, cm, Nat.zero_le _, by rw [unhide hm0], rfl, by rw [unhide hm0]; exact hide (unhide om), Bm⟩
      case round =>
        obtain ⟨k, A', c', hk, rfl, rfl, ho, hB⟩ := hrel
        by_cases hlt : k < n
        · have hkl : k < l.length := by rw [← unhide hn]; exact hlt
          have hm := unhide hs _ (nth_mem hkl)
          have hL := unhide hLess _ hm
          obtain ⟨b, off, rfl, _, hb, hc⟩ := unhide h3 k hlt
          have hBw := (unhide hW1).trans ((unhide hB).mono (by omega))
          have szB : W1.heap.size ≤ wr.heap.size := (unhide hB).size
          obtain ⟨c0, c1, c2, c3, c4, c5⟩ := six (below_load hBw (Nat.lt_of_lt_of_le hb hhi) hc)
          have q1 : b < wr.heap.size := Nat.lt_of_lt_of_le (Nat.lt_of_lt_of_le hb hhi) hBw.size
          have qf : Blk wr w.heap.size 26 #[.string (bz f.nm), .float .f64 f.rk, .int .u32 f.sm, .int .i64 f.bk, .int .i64 f.fr, .int .i64 f.ln] := (unhide hbf).below (unhide hB) (by omega)
          obtain ⟨d0, d1, d2, d3, d4, d5⟩ := bk6 qf
          have q2 : w.heap.size < wr.heap.size := qf.lt
          have e1 := fun h => fil_t (P := P2) hkl h mid
          have e2 := fun h => fil_f (P := P2) hkl h mid
          have hol := unhide hlen2 k
          have hPk := unhide hPf2 (nth l k)
          obtain ⟨x, hx⟩ : ∃ x, x = nth l k := ⟨_, rfl⟩
          rw [← hx] at c0 c1 c2 c3 c4 c5 e1 e2 hPk hL
          have hB0 : Hid (∀ z, Below (w.heap.size + 1) W1 (wr.alloc z)) := hide (fun z => (unhide hB).alloc (by omega) _)
          have hbx : Blk (wr.alloc (.cells #[.string (bz x.nm), .float .f64 x.rk, .int .u32 x.sm, .int .i64 x.bk, .int .i64 x.fr, .int .i64 x.ln] 26)) wr.heap.size 26 #[.string (bz x.nm), .float .f64 x.rk, .int .u32 x.sm, .int .i64 x.bk, .int .i64 x.fr, .int .i64 x.ln] := Blk.new rfl
          clear hc hx hkl qf
          generalize mid ++ (l.take k).filter P2 = out at *
          obtain ⟨q, hq⟩ : ∃ q, q = ltN f.nm x.nm := ⟨_, rfl⟩
          rw [← hq] at hL hPk
          replace hL := hide hL; replace hbx := hide hbx; replace hBw := hide hBw
          clear hq
          cases q with
          | false =>
            have e3 := e2 hPk
            clear e1 e2 hPk
            replace e3 := hide e3
            go_wp2_with (go_at_call 45; refine (unhide hL _).mono ?_; rintro e w3 ⟨rfl, B4⟩)
            go_roundw
            case rel => exact ⟨k + 1, A', c', by omega, by rw [unhide e3], by go_num, by rw [unhide e3]; exact hide (own_below (B := wr.heap.size) (unhide ho) ((Below.refl _ _).alloc (Nat.le_refl _) (.cells #[.string (bz x.nm), .float .f64 x.rk, .int .u32 x.sm, .int .i64 x.bk, .int .i64 x.fr, .int .i64 x.ln] 26) |>.trans (B4.mono (by simp))) (Nat.le_refl _)), hide ((unhide hB0 _).trans (B4.mono (by simp; omega)))⟩
            case measure => simp [intOf]; omega
          | true =>
            have e3 := e1 hPk
            clear e1 e2 hPk
            have u1 : out.length + 1 ≤ maxLen := by simp only [maxLen]; omega
            have u2 : (out.length + 1) * 56 ≤ 140737488355328 := by omega
            replace e3 := hide e3; replace u1 := hide u1; replace u2 := hide u2
            go_wp2_with (first
              | (go_at_call 45; refine (unhide hL _).mono ?_; rintro e w3 ⟨rfl, B4⟩; (have q3 : Blk w3 wr.heap.size 26 #[.string (bz x.nm), .float .f64 x.rk, .int .u32 x.sm, .int .i64 x.bk, .int .i64 x.fr, .int .i64 x.ln] := (unhide hbx).below B4 (unhide hbx).lt); obtain ⟨y0, y1, y2, y3, y4, y5⟩ := bk6 q3; (have B5 := hide ((unhide hB0 _).trans (B4.mono (by simp; omega)))); (have s5 : wr.heap.size < w3.heap.size := q3.lt); (have O5 := hide (own_below (B := wr.heap.size) (unhide ho) ((Below.refl _ _).alloc (Nat.le_refl _) (.cells #[.string (bz x.nm), .float .f64 x.rk, .int .u32 x.sm, .int .i64 x.bk, .int .i64 x.fr, .int .i64 x.ln] 26) |>.trans (B4.mono (by simp))) (Nat.le_refl _))); replace q3 := hide q3)
              | (at_builtin
                 refine wpList_app _ rfl (.tmp 41) (.tmp 43) 22 rfl (w.heap.size + 1) 26 i0 _ 6 56 Try.underlying22 hi0 hz0 hz1 hz2 rfl (Nat.succ_pos _) _ out.length (out.flatMap fc) rfl ((unhide O5).alloc _) (some ⟨w3.heap.size, 0, none⟩) 1 1 (fc x) rfl (by rw [fc_len]) (src_file _ _ _ rfl) (fc_one x) (unhide u1) (unhide u2) (by simp; omega) ?_
                 intro v5 w5 o5 hg5
                 obtain ⟨A5, c5, rfl⟩ := ownsRow_form o5
                 have B8 := hide (((unhide B5).alloc (by omega) _).grown hg5 (by simp; omega) (own_base (unhide O5)))
                 replace o5 := hide o5))
            go_roundw
            case rel => exact ⟨k + 1, A5, c5, by omega, by rw [unhide e3, List.length_append]; rfl, by go_num, by rw [unhide e3]; exact hide (own_app (unhide o5)), B8⟩
            case measure => simp [intOf]; omega
        · obtain rfl : n = k := by omega
          have ho2 := unhide ho
          rw [unhide hfin2] at ho2
          replace ho2 := hide ho2
          go_wp2
          go_ret
          exact ⟨_, rfl, by rw [unhide hfin2]; exact own_mono (unhide ho2) (by omega), (unhide hW1).trans ((unhide hB).mono (by omega))⟩
end Go.Proofs.Ytkgfmiicfegnlaa
