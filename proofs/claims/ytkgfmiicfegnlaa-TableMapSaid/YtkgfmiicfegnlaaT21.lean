import Derived.Test.YtkgfmiicfegnlaaT20
namespace Go.Proofs.Ytkgfmiicfegnlaa
open Go.RowKit
attribute [local go_sem] bz_size bz_toList run_store_float
set_option maxRecDepth 100000

set_option maxHeartbeats 2000000 in
theorem refWithinL_any (lo hi : Nat) (v : Value) (l : List Fl) (d : List UInt8) (w : World) (h : Fls lo hi w v l) (hhi : hi ≤ w.heap.size) (hs : SmL l) (hd : d.length ≤ 300) :
    Calls Try.prog 25 #[v, .string (bz d)] w fun e w' => ∃ v', e = .returned (.tuple #[v', .int .i64 (witR l d).2]) ∧ OwnF w' w.heap.size v' (witR l d).1 ∧ Below w.heap.size w w' := by
  have hT := fun W (hB : Below w.heap.size w W) => refCheckL_any lo hi v l W (h.below hB hhi) (Nat.le_trans hhi hB.size) hs
  have hI := fun W => refFolder_any d (by omega) W
  have hh := h.open6
  obtain ⟨A, c, rfl, h1, h2, h3⟩ := hh
  clear h
  cases ht : tabB l with
  | false =>
    rw [witR_no (.inl ht)]
    rw [ht, err_f] at hT
    clear hI ht h3 hs
    replace hT := hide hT
    go_enter Try.func25, Try.ntmps25
    go_wp2_with (go_at_call 22; refine (unhide hT _ (by (repeat (first | with_reducible exact Below.refl _ _ | with_reducible assumption | with_reducible refine Below.drew ?_ | with_reducible refine bl_alloc ?_ _ | with_reducible refine bl_call ?_ (by assumption) | (focus (with_reducible refine Below.setCell ?_ ?_ _; rotate_left; focus (first | omega | (simp <;> omega)))) | fail)))).mono ?_; rintro e w1 ⟨rfl, B1⟩)
    go_ret2
    exact ⟨_, rfl, own_nil _ _, B1⟩
  | true =>
    rw [ht, err_t] at hT
    cases hk : folderB d with
    | false =>
      rw [witR_no (.inr hk)]
      rw [hk] at hI
      clear ht hk h3 hs
      replace hT := hide hT; replace hI := hide hI
      go_enter Try.func25, Try.ntmps25
      go_wp2_with (first
        | (go_at_call 22; refine (unhide hT _ (by (repeat (first | with_reducible exact Below.refl _ _ | with_reducible assumption | with_reducible refine Below.drew ?_ | with_reducible refine bl_alloc ?_ _ | with_reducible refine bl_call ?_ (by assumption) | (focus (with_reducible refine Below.setCell ?_ ?_ _; rotate_left; focus (first | omega | (simp <;> omega)))) | fail)))).mono ?_; rintro e w1 ⟨rfl, B1⟩)
        | (go_at_call 49; refine (unhide hI _).mono ?_; rintro e w2 ⟨rfl, B2⟩))
      go_ret2
      exact ⟨_, rfl, own_nil _ _, ret_live B1 B2⟩
    | true =>
      rw [hk] at hI
      rw [witR_ok ht hk]
      have hWi : ∀ k, k < l.length → ∀ W, Calls Try.prog 50 #[.string (bz d), .string (bz (nth l k).nm)] W fun e W' => e = .returned (.tuple #[.bool (withinB d (nth l k).nm), .int .i64 0]) ∧ Below W.heap.size W W' := fun k hkl W => by
        have := refWithin_any d (nth l k).nm (by omega) (by have := (hs _ (nth_mem hkl)).1; omega) W
        rwa [withinF_yes hk (tab_names ht _ (nth_mem hkl))] at this
      have hl8 := tab_len ht
      obtain ⟨i0, hi0, hz0, hz1, hz2⟩ := info_parts info26
      obtain ⟨n, hn⟩ : ∃ n, n = l.length := ⟨_, rfl⟩
      rw [← hn] at h3 h1 hWi hl8 hT
      clear ht hk hs hd
      replace hn := hide hn; replace h3 := hide h3; replace h1 := hide h1; replace hWi := hide hWi; replace hT := hide hT; replace hI := hide hI
      have hfin : witF (l.take n) d = witF l d := by rw [unhide hn, List.take_length]
      replace hfin := hide hfin
      rw [← unhide hn]
      go_enter Try.func25, Try.ntmps25
      go_wp2_with (first
        | (go_at_call 22; refine (unhide hT _ (by (repeat (first | with_reducible exact Below.refl _ _ | with_reducible assumption | with_reducible refine Below.drew ?_ | with_reducible refine bl_alloc ?_ _ | with_reducible refine bl_call ?_ (by assumption) | (focus (with_reducible refine Below.setCell ?_ ?_ _; rotate_left; focus (first | omega | (simp <;> omega)))) | fail)))).mono ?_; rintro e w1 ⟨rfl, B1⟩)
        | (go_at_call 49; refine (unhide hI _).mono ?_; rintro e w2 ⟨rfl, B2⟩; (have B3 := hide (ret_live B1 B2))))
      clear hT hI
      go_loopw [6, 21] (fun o i wr => ∃ (k : Nat) (A' : Option Addr) (c' : Nat), k ≤ n ∧ o = .slice A' (witF (l.take k) d).length c' ∧ i = .int .i64 k ∧ Hid (OwnF wr w.heap.size (.slice A' (witF (l.take k) d).length c') (witF (l.take k) d)) ∧ Hid (Below w.heap.size w wr)) (fun _ i _ => n - (intOf i).toNat)
      case atStart => exact ⟨0, none, 0, Nat.zero_le _, rfl, rfl, hide (own_nil _ _), B3⟩
      case round =>
        obtain ⟨k, A', c', hk, rfl, rfl, ho, hB⟩ := hrel
        by_cases hlt : k < n
        · have hkl : k < l.length := by rw [← unhide hn]; exact hlt
          obtain ⟨b, off, rfl, _, hb, hc⟩ := unhide h3 k hlt
          obtain ⟨c0, c1, c2, c3, c4, c5⟩ := six (below_load (unhide hB) (Nat.lt_of_lt_of_le hb hhi) hc)
          have q1 : b < wr.heap.size := Nat.lt_of_lt_of_le (Nat.lt_of_lt_of_le hb hhi) (unhide hB).size
          have hW1 := unhide hWi k hlt
          have e1 := wit_take_t (d := d) hkl
          have e2 := wit_take_f (d := d) hkl
          have hol := wit_len (l.take k) d
          rw [List.length_take] at hol
          obtain ⟨f, hf⟩ : ∃ f, f = nth l k := ⟨_, rfl⟩
          rw [← hf] at c0 c1 c2 c3 c4 c5 hW1 e1 e2
          have hB0 : Hid (∀ x, Below w.heap.size w (wr.alloc x)) := hide (fun x => (unhide hB).alloc (unhide hB).size _)
          have hbx : Blk (wr.alloc (.cells #[.string (bz f.nm), .float .f64 f.rk, .int .u32 f.sm, .int .i64 f.bk, .int .i64 f.fr, .int .i64 f.ln] 26)) wr.heap.size 26 #[.string (bz f.nm), .float .f64 f.rk, .int .u32 f.sm, .int .i64 f.bk, .int .i64 f.fr, .int .i64 f.ln] := Blk.new rfl
          clear hc hf hkl
          generalize witF (l.take k) d = out at *
          replace hbx := hide hbx
          cases hw : withinB d f.nm with
          | false =>
            rw [hw] at hW1
            have e3 := e2 hw
            clear e1 e2 hw
            replace hW1 := hide hW1; replace e3 := hide e3
            go_wp2_with (go_at_call 50; refine (unhide hW1 _).mono ?_; rintro e w3 ⟨rfl, B4⟩)
            go_roundw
            case rel => exact ⟨k + 1, A', c', by omega, by rw [unhide e3], by go_num, by rw [unhide e3]; exact hide (own_below (B := wr.heap.size) (unhide ho) ((Below.refl _ _).alloc (Nat.le_refl _) _ |>.trans (B4.mono (by simp))) (Nat.le_refl _)), hide ((unhide hB0 _).trans (B4.mono (unhide hB0 _).size))⟩
            case measure => simp [intOf]; omega
          | true =>
            rw [hw] at hW1
            have e3 := e1 hw
            clear e1 e2 hw
            have u1 : out.length + 1 ≤ maxLen := by simp only [maxLen]; omega
            have u2 : (out.length + 1) * 56 ≤ 140737488355328 := by omega
            replace hW1 := hide hW1; replace e3 := hide e3; replace u1 := hide u1; replace u2 := hide u2
            go_wp2_with (first
              | (go_at_call 50; refine (unhide hW1 _).mono ?_; rintro e w3 ⟨rfl, B4⟩; (have q3 : Blk w3 wr.heap.size 26 #[.string (bz f.nm), .float .f64 f.rk, .int .u32 f.sm, .int .i64 f.bk, .int .i64 f.fr, .int .i64 f.ln] := (unhide hbx).below B4 (unhide hbx).lt); obtain ⟨d0, d1, d2, d3, d4, d5⟩ := bk6 q3; (have B5 := hide ((unhide hB0 _).trans (B4.mono (unhide hB0 _).size))); (have O5 := hide (own_below (B := wr.heap.size) (unhide ho) ((Below.refl _ _).alloc (Nat.le_refl _) (.cells #[.string (bz f.nm), .float .f64 f.rk, .int .u32 f.sm, .int .i64 f.bk, .int .i64 f.fr, .int .i64 f.ln] 26) |>.trans (B4.mono (by simp))) (Nat.le_refl _))); replace q3 := hide q3)
              | (at_builtin
                 refine wpList_app _ rfl (.tmp 33) (.tmp 35) 22 rfl w.heap.size 26 i0 _ 6 56 Try.underlying22 hi0 hz0 hz1 hz2 rfl (Nat.succ_pos _) _ out.length (out.flatMap fc) rfl ((unhide O5).alloc _) (some ⟨w3.heap.size, 0, none⟩) 1 1 (fc f) rfl (by rw [fc_len]) (src_file _ _ _ rfl) (fc_one f) (unhide u1) (unhide u2) (by have := (unhide B5).size; simp; omega) ?_
                 intro v5 w5 o5 hg5
                 obtain ⟨A5, c5, rfl⟩ := ownsRow_form o5
                 have B8 := hide (((unhide B5).alloc (unhide B5).size _).grown hg5 (by have := (unhide B5).size; simp; omega) (own_base (unhide O5)))
                 replace o5 := hide o5))
            have hL : (out ++ [f]).length = out.length + 1 := by simp
            have HO : OwnF w5 w.heap.size (.slice A5 (out ++ [f]).length c5) (out ++ [f]) := by
              have := unhide o5
              rw [flat_snoc] at this
              unfold OwnF
              rw [hL]
              exact this
            go_roundw
            case rel => exact ⟨k + 1, A5, c5, by omega, by rw [unhide e3, hL], by go_num, by rw [unhide e3]; exact hide HO, B8⟩
            case measure => simp [intOf]; omega
        · obtain rfl : k = n := by omega
          go_wp2
          go_ret2
          exact ⟨_, rfl, by rw [← unhide hfin]; exact unhide ho, unhide hB⟩
end Go.Proofs.Ytkgfmiicfegnlaa
