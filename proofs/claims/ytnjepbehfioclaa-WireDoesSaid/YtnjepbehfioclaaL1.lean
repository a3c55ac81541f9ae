import Derived.Test.YtnjepbehfioclaaQ1
namespace Go.Proofs.Ytnjepbehfioclaa
open Go.RowKit
attribute [local go_sem] bz_size bz_toList run_store_float
set_option maxRecDepth 100000

/-- A row of two octets, of the call's own. -/
theorem own_two (W : World) (base : Nat) (x y : UInt8) (hb : base ≤ W.heap.size) : (W.alloc (.cells #[u8v x, u8v y] 5)).ownsRow base 5 1 (.slice (some ⟨W.heap.size, 0, none⟩) 2 2) 2 ([x, y].flatMap bc) :=
  ⟨rfl, .inr ⟨W.heap.size, 2, _, rfl, hb, heap_alloc_new W _, Nat.le_refl _, by simp [maxLen], rfl, rfl⟩⟩
theorem put_two (n : Nat) : putN 2 n = [UInt8.ofNat n, UInt8.ofNat (n / 256)] := rfl
set_option maxHeartbeats 2000000 in
theorem WireParts_any (v : Value) (l : List Fl) (w : World) (h : Fls 0 w.heap.size w v l) (hi : InL l) :
    Calls Try.prog 6 #[v] w fun e w' => e = .returned (.bool true) ∧ Below w.heap.size w w' := by
  have hL := fun W => live_any W
  have hF := fun W (h : Fls 0 W.heap.size W v l) => cFew v l W h
  have hB : Below w.heap.size w w := Below.refl _ _
  have hl := h
  replace hL := hide hL; replace hB := hide hB; replace hl := hide hl
  cases hfew : fewB l with
  | false =>
    rw [hfew] at hF
    replace hF := hide hF
    clear h hfew hi
    go_enter Try.func6, Try.ntmps6
    have tk0 : True := trivial
    have tk1 : True := trivial
    go_wp2_with (first
      | (have _t := tk0; clear tk0 _t; go_at_call 8; refine (unhide hL _).mono ?_; rintro ez wz0 ⟨rfl, bz0⟩; have szz0 := bz0.size; replace hB := hide ((unhide hB).trans (bz0.mono (unhide hB).size)); replace hl := hide (Rd.grow (unhide hl) bz0); clear bz0)
      | (have _t := tk1; clear tk1 _t; go_at_call 9; refine (unhide hF _ (unhide hl)).mono ?_; rintro ez wz1 ⟨rfl, bz1⟩; have szz1 := bz1.size; replace hB := hide ((unhide hB).trans (bz1.mono (unhide hB).size)); replace hl := hide (Rd.grow (unhide hl) bz1); clear bz1)
      | fail)
    go_ret
    exact ⟨rfl, unhide hB⟩
  | true =>
    obtain ⟨hs, hu⟩ := small_few hi hfew
    rw [hfew] at hF
    have hY := fun W (h : Fls 0 W.heap.size W v l) => cBytes v l W h hs hu
    replace hF := hide hF
    clear hfew
    cases ht : tabB l with
    | false =>
      rw [ht, bytes_f ht, err_f] at hY
      replace hY := hide hY
      clear h hs hu hi ht
      go_enter Try.func6, Try.ntmps6
      have tk0 : True := trivial
      have tk1 : True := trivial
      have tk2 : True := trivial
      go_wp2_with (first
        | (have _t := tk0; clear tk0 _t; go_at_call 8; refine (unhide hL _).mono ?_; rintro ez wz0 ⟨rfl, bz0⟩; have szz0 := bz0.size; replace hB := hide ((unhide hB).trans (bz0.mono (unhide hB).size)); replace hl := hide (Rd.grow (unhide hl) bz0); clear bz0)
        | (have _t := tk1; clear tk1 _t; go_at_call 9; refine (unhide hF _ (unhide hl)).mono ?_; rintro ez wz1 ⟨rfl, bz1⟩; have szz1 := bz1.size; replace hB := hide ((unhide hB).trans (bz1.mono (unhide hB).size)); replace hl := hide (Rd.grow (unhide hl) bz1); clear bz1)
        | (have _t := tk2; clear tk2 _t; go_at_call 10; refine (unhide hY _ (unhide hl)).mono ?_; rintro ez wz2 ⟨A1, c1, rfl, ohx, bz2⟩; have szz2 := bz2.size; replace hB := hide ((unhide hB).trans (bz2.mono (unhide hB).size)); replace hl := hide (Rd.grow (unhide hl) bz2); (have hx := hide ohx); clear ohx; clear bz2)
        | fail)
      go_ret
      exact ⟨rfl, unhide hB⟩
    | true =>
      have hlen := tab_short ht
      have hin := fun k (hk : k < l.length) => hs _ (nth_mem hk)
      have hiu := fun k (hk : k < l.length) => hu _ (nth_mem hk)
      have hok := fun f (hf : f ∈ l) => tab_ok ht hf
      have hO := fun k (hk : k < l.length) W => cOne (nth l k) W (hin k hk) (hiu k hk)
      have hkk := fun k (hk : k < l.length) => hok _ (nth_mem hk)
      have hst := fun k (hk : k < l.length) => files_take hk
      have hsl := fun k (hk : k < l.length) => long_take hk
      have hle := fun k => long_take_le l k hok
      have h256 := tab_len ht
      have hen : tabT l = putN 2 l.length ++ filesT (l.take l.length) := by rw [tabT, List.take_length]
      rw [ht, bytes_t ht, err_t] at hY
      obtain ⟨A, c, rfl, h1, h2, _⟩ := h.open6
      have h6 := fun W (hW : Fls 0 W.heap.size W (.slice A l.length c) l) k (hk : k < l.length) => (Rd.open6 hW)
      obtain ⟨i0, hi0, iz0, iz1, iz2⟩ := info_p info5
      obtain ⟨T, hT⟩ : ∃ T, T = tabT l := ⟨_, rfl⟩
      rw [← hT] at hY hen hlen
      obtain ⟨n, hn⟩ : ∃ n, n = l.length := ⟨_, rfl⟩
      rw [← hn] at h1 h256 hen hF hY hl ⊢
      have hX := fun (v v' : Value) W (hx : Bs 0 W.heap.size W v T) (hy : Bs 0 W.heap.size W v' T) => cSameB W v v' T T hx hy
      have hself : (T == T) = true := by simp
      rw [hself] at hX
      have e1 : (n : Int).tmod 256 = (n : Int) % 256 := Int.tmod_eq_emod_of_nonneg (by omega)
      have e2 : (n : Int).tdiv 256 = (n : Int) / 256 := Int.tdiv_eq_ediv_of_nonneg (by omega)
      have e3 := n8_of n
      have e4 := n8_of (n / 256)
      have e5 : ((n : Int) / 256) = ((n / 256 : Nat) : Int) := by omega
      have e6 : ((n : Int) % 256) % 256 = n8 (UInt8.ofNat n) := by rw [Int.emod_emod, e3]
      have e7 : (n : Int) / 256 = n8 (UInt8.ofNat (n / 256)) := by rw [← e4]; omega
      have hp2 := put_two n
      replace hO := hide hO; replace hst := hide hst; replace hsl := hide hsl; replace hle := hide hle; replace hen := hide hen; replace hY := hide hY; replace hn := hide hn; replace hT := hide hT; replace hX := hide hX; replace hkk := hide hkk; replace hp2 := hide hp2; replace hlen := hide hlen; replace h1 := hide h1
      clear hs hu hi ht hin hiu hok hself h6 h e5 e4
      go_enter Try.func6, Try.ntmps6
      have tk0 : True := trivial
      have tk1 : True := trivial
      have tk2 : True := trivial
      go_upto_region 8 with (first
        | (have _t := tk0; clear tk0 _t; go_at_call 8; refine (unhide hL _).mono ?_; rintro ez wz0 ⟨rfl, bz0⟩; have szz0 := bz0.size; replace hB := hide ((unhide hB).trans (bz0.mono (unhide hB).size)); replace hl := hide (Rd.grow (unhide hl) bz0); clear bz0)
        | (have _t := tk1; clear tk1 _t; go_at_call 9; refine (unhide hF _ (unhide hl)).mono ?_; rintro ez wz1 ⟨rfl, bz1⟩; have szz1 := bz1.size; replace hB := hide ((unhide hB).trans (bz1.mono (unhide hB).size)); replace hl := hide (Rd.grow (unhide hl) bz1); clear bz1)
        | (have _t := tk2; clear tk2 _t; go_at_call 10; refine (unhide hY _ (unhide hl)).mono ?_; rintro ez wz2 ⟨A1, c1, rfl, ohx, bz2⟩; have szz2 := bz2.size; replace hB := hide ((unhide hB).trans (bz2.mono (unhide hB).size)); replace hl := hide (Rd.grow (unhide hl) bz2); (have hx := hide ohx); clear ohx; clear bz2)
        | fail)
      generalize hW : wz2.alloc (.cells #[u8v (UInt8.ofNat n), u8v (UInt8.ofNat (n / 256))] 5) = W3
      have o3 : W3.ownsRow wz2.heap.size 5 1 (.slice (some ⟨wz2.heap.size, 0, none⟩) 2 2) 2 ((putN 2 n).flatMap bc) := by rw [unhide hp2, ← hW]; exact own_two wz2 wz2.heap.size _ _ (Nat.le_refl _)
      have B3 : Below w.heap.size w W3 := by rw [← hW]; exact (unhide hB).alloc (unhide hB).size _
      have bq : Below wz2.heap.size wz2 W3 := by rw [← hW]; exact bl_alloc (Below.refl _ _) _
      have hl3 := Rd.below (unhide hl) bq (Nat.le_refl _)
      have hx3 := Rd.below (unhide hx) bq (Nat.le_refl _)
      have hg3 := (unhide hB).size
      have hg4 := bq.size
      generalize wz2.heap.size = g3 at *
      replace o3 := hide o3; replace B3 := hide B3; replace hl3 := hide hl3; replace hx3 := hide hx3; replace hg3 := hide hg3; replace hg4 := hide hg4
      clear hW bq hl hx hB szz0 szz1 szz2 wz2
      go_wp2_with fail
      go_loopw [2, 6, 35] (fun z s i wr => ∃ (k p c' : Nat) (A' : Option Addr), z = .bool false ∧ k ≤ n ∧ s = .slice A' p c' ∧ p ≤ 40000 ∧ Hid (p = 2 + longT (l.take k)) ∧ i = .int .i64 k ∧ Hid (wr.ownsRow g3 5 1 (.slice A' p c') p ((putN 2 n ++ filesT (l.take k)).flatMap bc)) ∧ Hid (Below g3 W3 wr)) (fun _ _ i _ => n - (intOf i).toNat)
      case atStart => exact ⟨0, 2, 2, some ⟨g3, 0, none⟩, rfl, Nat.zero_le _, rfl, by omega, hide rfl, rfl, hide (by simpa [filesT] using unhide o3), hide (Below.refl _ _)⟩
      case round =>
        obtain ⟨k, p, c', A', rfl, hk, rfl, hp, hpe, rfl, ho, hB⟩ := hrel
        have hgr : g3 ≤ wr.heap.size := Nat.le_trans (unhide hg4) (unhide hB).size
        by_cases hlt : k < n
        · have ha : k < l.length := by rw [← unhide hn]; exact hlt
          obtain ⟨Aq, cq, eq, _, _, hq⟩ := Rd.open6 (Rd.below (unhide hl3) (unhide hB) (Nat.le_refl _))
          injection eq with eq1 eq2 eq3
          subst eq1 eq3
          obtain ⟨g, off, rfl, _, hg, hc⟩ := hq k ha
          have q1 : g < wr.heap.size := by omega
          have hs1 := unhide hst k ha
          have hs3 := unhide hsl k ha
          have hs2 := unhide hle (k + 1)
          have hok1 := unhide hkk k ha
          have hF1 := unhide hO k ha
          obtain ⟨f, hf⟩ : ∃ f, f = nth l k := ⟨_, rfl⟩
          rw [← hf] at hc hs1 hs3 hF1 hok1
          rw [one_t hok1, hok1, file_len f, err_t] at hF1
          have bq : Below wr.heap.size wr (wr.alloc (.cells #[.string (bz f.nm), .float .f64 f.rk, .int .u32 f.sm, .int .i64 f.bk, .int .i64 f.fr, .int .i64 f.ln] 26)) := bl_alloc (Below.refl _ _) _
          have kf : Hid (Blk (wr.alloc (.cells #[.string (bz f.nm), .float .f64 f.rk, .int .u32 f.sm, .int .i64 f.bk, .int .i64 f.fr, .int .i64 f.ln] 26)) wr.heap.size 26 #[.string (bz f.nm), .float .f64 f.rk, .int .u32 f.sm, .int .i64 f.bk, .int .i64 f.fr, .int .i64 f.ln]) := hide (Blk.new rfl)
          have hB0 := hide ((unhide hB).trans (bq.mono hgr))
          have hz0 : Hid (g3 ≤ (wr.alloc (.cells #[.string (bz f.nm), .float .f64 f.rk, .int .u32 f.sm, .int .i64 f.bk, .int .i64 f.fr, .int .i64 f.ln] 26)).heap.size) := hide (by simp only [World.size_alloc]; omega)
          have ho0 := hide (own_alloc (unhide ho) (.cells #[.string (bz f.nm), .float .f64 f.rk, .int .u32 f.sm, .int .i64 f.bk, .int .i64 f.fr, .int .i64 f.ln] 26))
          obtain ⟨c0, c1', c2, c3, c4, c5⟩ := six hc
          have hpe' := unhide hpe
          have hp2' : p + (21 + f.nm.length) ≤ 40000 := by omega
          have hpe2 : p + (21 + f.nm.length) = 2 + longT (l.take (k + 1)) := by omega
          have hxx : (putN 2 n ++ filesT (l.take k)) ++ fileT f = putN 2 n ++ filesT (l.take (k + 1)) := by rw [hs1, List.append_assoc]
          have hto := flat_one bc_one (fileT f)
          have i1 : IntKind.i64.wrap (21 + (f.nm.length : Int)) = 21 + (f.nm.length : Int) := IntWalk.i64_in _ (by omega)
          have i2 : (((21 + f.nm.length : Nat) : Int)) = 21 + (f.nm.length : Int) := by omega
          clear hc hf ha hs1 hs2 hs3 hpe' hok1 hq bq eq2 hp2 hg
          replace hpe2 := hide hpe2; replace hp2' := hide hp2'; replace hxx := hide hxx; replace hF1 := hide hF1; replace hto := hide hto; replace hgr := hide hgr
          go_wp2_with (first
            | (go_at_call 12; refine (unhide hF1 _).mono ?_; rintro ez wz ⟨Ab, cb, rfl, xb, bz⟩
               have ho3 := hide (own_below (unhide ho0) bz (Nat.le_refl _))
               have hB3 := hide ((unhide hB0).trans (bz.mono (unhide hz0)))
               have hz3 := hide (Nat.le_trans (unhide hz0) bz.size)
               obtain ⟨d0, d1, d2, d3, d4, d5⟩ := bk6 (Blk.below (unhide kf) bz (unhide kf).lt)
               have xb2 := hide (Rd.src bc_len xb).2
               clear bz xb)
            | (at_builtin
               refine wpList_app _ rfl (.tmp 55) (.tmp 56) 27 rfl g3 5 i0 _ 1 1 Try.underlying27 hi0 iz0 iz1 iz2 rfl (Nat.succ_pos _) _ p ((putN 2 n ++ filesT (l.take k)).flatMap bc) rfl (unhide ho3) Ab (21 + f.nm.length) cb ((fileT f).flatMap bc) rfl (by rw [flat_len bc_len, file_len]) (unhide xb2) (unhide hto) (by have := unhide hp2'; simp only [maxLen]; omega) (by have := unhide hp2'; omega) (unhide hz3) ?_
               intro v4 w4 o4 g4
               rw [flat_app, unhide hxx] at o4
               obtain ⟨A4, c4', rfl⟩ := ownsRow_form o4
               have hB4 := hide ((unhide hB3).grown g4 (unhide hz3) (own_base (unhide ho3)))
               replace o4 := hide o4
               clear g4)
            | fail)
          go_roundw
          case rel => exact ⟨k + 1, p + (21 + f.nm.length), c4', A4, rfl, by omega, rfl, unhide hp2', hpe2, by go_num, o4, hB4⟩
          case measure => simp [intOf]; omega
        · obtain rfl : k = n := by omega
          have he : p = T.length := by rw [unhide hpe, unhide hT, tab_len', unhide hn, List.take_length]
          have hx4 := Rd.mono (Rd.below (unhide hx3) (unhide hB) (Nat.le_refl _)) (Nat.le_refl _) hgr
          have hy : Bs 0 wr.heap.size wr (.slice A' p c') T := by
            subst he
            have := unhide ho
            rw [← unhide hen] at this
            exact bs_of (base := g3) (l := T) this
          replace hx4 := hide hx4; replace hy := hide hy; replace he := hide he; replace hgr := hide hgr
          go_wp2_with (first
            | (go_at_call 18; refine (unhide hX _ _ _ (unhide hx4) (unhide hy)).mono ?_; rintro ez wz ⟨rfl, bz⟩)
            | fail)
          all_goals go_ret
          all_goals exact ⟨rfl, (unhide B3).trans (((unhide hB).trans (bz.mono (unhide hgr))).mono (unhide hg3))⟩
end Go.Proofs.Ytnjepbehfioclaa
