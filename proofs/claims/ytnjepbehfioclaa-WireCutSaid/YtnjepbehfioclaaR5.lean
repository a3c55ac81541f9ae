import Derived.Test.YtnjepbehfioclaaR4
namespace Go.Proofs.Ytnjepbehfioclaa
open Go.RowKit
attribute [local go_sem] bz_size bz_toList run_store_float
set_option maxRecDepth 100000

theorem info26 : (Try.prog.info? 26).map (fun i => (i.zero, i.size, i.bytes)) = some (some (.agg #[.string (bz noF.nm), .float .f64 noF.rk, .int .u32 noF.sm, .int .i64 noF.bk, .int .i64 noF.fr, .int .i64 noF.ln]), 6, 56) := by kernel_rfl
/-- A row of the call's own stays while a block of another type turns. -/
theorem own_but {W W' : World} {base n size g : Nat} {e t : TypeId} {v : Value} {xs : List Value} {cs : Array Value} (h : W.ownsRow base e size v n xs) (hb : But [g] W W') (hg : Blk W g t cs) (hne : e ≠ t) : W'.ownsRow base e size v n xs := by
  refine ⟨h.1, ?_⟩
  rcases h.2 with hn | ⟨g', cap, cur, h1, h2, h3, h4⟩
  · exact .inl hn
  · have hgg : g' ≠ g := Blk.ne_ (t := e) (cs := cur) h3 hg hne
    exact .inr ⟨g', cap, cur, h1, h2, Blk.but (t := e) (cs := cur) h3 hb (by simpa using hgg), h4⟩
theorem RdB.blk {g : Nat} {W : World} {l : List UInt8} (h : RdB g W l) : ∃ cs, Blk W g 55 cs := by obtain ⟨A, c, h1, _⟩ := h; exact ⟨_, h1⟩
theorem RdB.below {g B : Nat} {W W' : World} {l : List UInt8} (h : RdB g W l) (hb : Below B W W') (hB : g < B) : RdB g W' l := by
  obtain ⟨A, c, h1, h2⟩ := h
  exact ⟨A, c, h1.below hb hB, Rd.below h2 hb (Nat.le_of_lt hB)⟩
theorem But.of_below' {S : List Nat} {a b c : World} (h : But S a b) (hb : Below a.heap.size b c) : But S a c :=
  ⟨hb.os.trans h.os, hb.tape.trans h.tape, hb.output.trans h.output, Nat.le_trans h.size hb.size, fun k hk hS => (hb.block k hk).trans (h.block k hk hS)⟩
/-- A row of one file, as an append's source. -/
theorem file_src (w : World) (f : Fl) : SrcOk (w.alloc (.cells #[.string (bz f.nm), .float .f64 f.rk, .int .u32 f.sm, .int .i64 f.bk, .int .i64 f.fr, .int .i64 f.ln] 26)) (some ⟨w.heap.size, 0, none⟩) 1 (fc f) := by
  have h := (Rd.src fc_len (one_fls (W := w.alloc (.cells #[.string (bz f.nm), .float .f64 f.rk, .int .u32 f.sm, .int .i64 f.bk, .int .i64 f.fr, .int .i64 f.ln] 26)) (g := w.heap.size) (f := f) (Blk.new rfl))).2
  simpa using h
theorem fc6 (f : Fl) : (fc f).length = 1 * 6 := rfl
theorem smL_of {n : Nat} {b r : List UInt8} {l : List Fl} (h : filesR n b = some (l, r)) : SmL l := fun f hf => by
  obtain ⟨h1, h2⟩ := (filesR_text h).2.2.2 f hf
  exact ⟨by omega, h1⟩
theorem tabR_short {b : List UInt8} (h : b.length < 2) : tabR b = none := by unfold tabR; rw [if_pos h]
theorem tabR_bad {b r : List UInt8} {l : List Fl} {k : Nat} (h2 : 2 ≤ b.length) (h : filesR k (b.drop 2) = some (l, r)) (hr : fileR r = none) (hk : k < numN (b.take 2)) : tabR b = none := by
  unfold tabR; rw [if_neg (by omega), filesR_bad h hr hk]
theorem tabR_end {b r : List UInt8} {l : List Fl} (h2 : 2 ≤ b.length) (h : filesR (numN (b.take 2)) (b.drop 2) = some (l, r)) : tabR b = if r = [] ∧ tabB l = true then some l else none := by
  unfold tabR; rw [if_neg (by omega), h]
set_option maxHeartbeats 2000000 in
theorem tableR_any (g : Nat) (b : List UInt8) (w : World) (hR : RdB g w b) (hl : b.length ≤ 65536) :
    Calls Try.prog 29 #[.pointer (some ⟨g, 0, none⟩)] w fun e w' => But [g] w w' ∧
      ((∃ A c t, tabR b = some t ∧ e = .returned (.slice A t.length c) ∧ w'.ownsRow w.heap.size 26 6 (.slice A t.length c) t.length (t.flatMap fc)) ∨ (tabR b = none ∧ e = stopE)) := by
  have hgl := hR.lt
  by_cases h2 : b.length < 2
  · have hN := rnum_none g 2 b w hR h2
    have ht := tabR_short h2
    replace hN := hide hN; replace ht := hide ht
    clear hR
    go_enter Try.func29, Try.ntmps29
    go_wp2_with (first
      | (go_at_call 41; refine (unhide hN).mono ?_; rintro e w1 ⟨rfl, rfl⟩)
      | fail)
    exact ⟨rfl, But.refl _ _, .inr ⟨unhide ht, rfl⟩⟩
  · have hN := rnum_some g 2 b w hR (by omega) (by omega)
    obtain ⟨i0, hi0, iz0, iz1, iz2⟩ := info_p info26
    have hsome := fun l f r h W => file_some g l f r h W
    have hnone := fun l h W => file_none g l h W
    have hbad := fun k l r => tabR_bad (b := b) (k := k) (l := l) (r := r) (by omega)
    have hend := fun l r => tabR_end (b := b) (l := l) (r := r) (by omega)
    have hok := fun W => need_ok W
    have hno := fun W => need_no W
    have hn2 : numN (b.take 2) < 65536 := num_take_lt b 2
    have htc := fun (v : Value) (l : List Fl) (W : World) (h : OwnF W w.heap.size v l) (hs : SmL l) => tcheck_any w.heap.size _ v l W h.fls (Nat.le_refl _) hs
    generalize numN (b.take 2) = n0 at *
    have hz : filesR 0 (b.drop 2) = some ([], b.drop 2) := rfl
    generalize b.drop 2 = b2 at *
    replace hN := hide hN; replace hsome := hide hsome; replace hnone := hide hnone; replace hbad := hide hbad; replace hend := hide hend; replace hok := hide hok; replace hno := hide hno; replace hgl := hide hgl; replace htc := hide htc; replace hz := hide hz
    clear hR hl
    go_enter Try.func29, Try.ntmps29
    go_wp2_with (first
      | (go_at_call 41; refine (unhide hN).mono ?_; rintro e w1 ⟨rfl, R1, K1⟩; replace R1 := hide R1; replace K1 := hide K1)
      | fail)
    go_loopw [3, 6] (fun s i wr => ∃ (k c' : Nat) (A' : Option Addr) (l : List Fl) (r : List UInt8), k ≤ n0 ∧ s = .slice A' k c' ∧ i = .int .i64 k ∧ Hid (l.length = k) ∧ Hid (filesR k b2 = some (l, r)) ∧ Hid (RdB g wr r) ∧ Hid (wr.ownsRow w.heap.size 26 6 (.slice A' k c') k (l.flatMap fc)) ∧ Hid (But [g] w wr)) (fun _ i _ => n0 - (intOf i).toNat)
    case atStart => exact ⟨0, 0, none, [], b2, Nat.zero_le _, rfl, rfl, hide rfl, hz, R1, hide (World.ownsRow_nil _ _ _ _), K1⟩
    case round =>
      obtain ⟨k, c', A', l, r, hk, rfl, rfl, hlen, hf, hR, ho, hB⟩ := hrel
      by_cases hlt : k < n0
      · cases hfr : fileR r with
        | none =>
          have hF := unhide hnone r hfr wr (unhide hR)
          have ht := unhide hbad k l r (unhide hf) hfr hlt
          replace hF := hide hF; replace ht := hide ht
          clear hfr
          go_wp2_with (first
            | (go_at_call 42; refine (unhide hF).mono ?_; rintro e w2 ⟨rfl, K2⟩)
            | fail)
          exact ⟨rfl, (unhide hB).trans K2, .inr ⟨unhide ht, rfl⟩⟩
        | some p =>
          obtain ⟨f, r'⟩ := p
          have hF := unhide hsome r f r' hfr wr (unhide hR)
          have hf2 := filesR_snoc (unhide hf) hfr
          have hl2 : (l ++ [f]).length = k + 1 := by rw [List.length_append, unhide hlen]; rfl
          obtain ⟨cs, hcs⟩ := (unhide hR).blk
          have hto := fc_one f
          have hfl := flat_snoc fc l f
          have u1 : k + 1 ≤ maxLen := by simp only [maxLen]; omega
          have u2 : (k + 1) * 56 ≤ 140737488355328 := by omega
          have hsz := (unhide hB).size
          replace hF := hide hF; replace hf2 := hide hf2; replace hl2 := hide hl2; replace hcs := hide hcs; replace hto := hide hto; replace hfl := hide hfl; replace u1 := hide u1; replace u2 := hide u2; replace hsz := hide hsz
          clear hfr
          go_wp2_with (first
            | (go_at_call 42; refine (unhide hF).mono ?_; rintro e w2 ⟨rfl, R2, K2⟩
               have o2 := hide (own_but (unhide ho) K2 (unhide hcs) (by decide))
               have K3 := hide ((unhide hB).trans K2)
               have z2 : Hid (w.heap.size ≤ w2.heap.size) := hide ((unhide hB).trans K2).size
               replace R2 := hide R2; clear K2)
            | (at_builtin
               refine wpList_app _ rfl (.tmp 8) (.tmp 11) 22 rfl w.heap.size 26 i0 _ 6 56 Try.underlying22 hi0 iz0 iz1 iz2 rfl (Nat.succ_pos _) _ k (l.flatMap fc) rfl ((unhide o2).alloc _) (some ⟨w2.heap.size, 0, none⟩) 1 1 (fc f) rfl (fc6 f) (file_src w2 f) (unhide hto) (unhide u1) (unhide u2) (by have := unhide z2; simp; omega) ?_
               intro v3 w3 o3 g3
               obtain ⟨A3, c3, rfl⟩ := ownsRow_form o3
               rw [unhide hfl] at o3
               have B3 : Below w.heap.size w2 w3 := ((Below.refl w.heap.size w2).alloc (unhide z2) _).grown g3 (by have := unhide z2; simp; omega) (own_base (unhide o2))
               have R3 := hide ((unhide R2).below B3 (unhide hgl))
               have K4 := hide ((unhide K3).of_below' B3)
               clear B3 g3)
            | fail)
          go_roundw
          case rel => exact ⟨k + 1, c3, A3, l ++ [f], r', by omega, rfl, by go_num, hl2, hf2, R3, hide o3, K4⟩
          case measure => simp [intOf]; omega
      · obtain rfl : k = n0 := by omega
        have hend1 := unhide hend l r (unhide hf)
        obtain ⟨A9, c9, hb9, _⟩ := unhide hR
        have x9 : wr.cell? ⟨g, 0, none⟩ = some (.slice A9 r.length c9) := hb9.cell 0
        have hsl : SmL l := smL_of (unhide hf)
        have hT := unhide htc (.slice A' k c') l wr (by unfold OwnF; rw [unhide hlen]; exact unhide ho) hsl
        replace hT := hide hT
        clear hb9 hsl
        by_cases hr0 : r = []
        · subst hr0
          cases ht : tabB l with
          | true =>
            rw [ht, if_pos ⟨rfl, rfl⟩] at hend1
            rw [ht] at hT
            replace hend1 := hide hend1
            clear ht
            have t1 : True := trivial
            have d0 : (([] : List UInt8).length : Int) = 0 := rfl
            go_wp2_with (first
              | (have _t := t1; clear t1 _t; go_at_call 43; refine (unhide hok _).mono ?_; rintro e w5 ⟨rfl, rfl⟩)
              | (go_at_call 20; refine (unhide hT).mono ?_; rintro e w6 ⟨rfl, B6⟩; replace B6 := hide B6)
              | (go_at_call 43; refine (unhide hok _).mono ?_; rintro e w7 ⟨rfl, rfl⟩)
              | fail)
            go_ret
            refine ⟨(unhide hB).of_below (unhide B6), .inl ⟨A', c', l, unhide hend1, ?_, ?_⟩⟩
            · rw [unhide hlen]; exact ret_v rfl
            · rw [unhide hlen]; exact own_below (unhide ho) (unhide B6) (Nat.le_refl _)
          | false =>
            rw [ht, if_neg (by simp)] at hend1
            rw [ht] at hT
            replace hend1 := hide hend1
            clear ht
            have t1 : True := trivial
            go_wp2_with (first
              | (have _t := t1; clear t1 _t; go_at_call 43; refine (unhide hok _).mono ?_; rintro e w5 ⟨rfl, rfl⟩)
              | (go_at_call 20; refine (unhide hT).mono ?_; rintro e w6 ⟨rfl, B6⟩; replace B6 := hide B6)
              | (go_at_call 43; refine (unhide hno _).mono ?_; rintro e w7 ⟨rfl, rfl⟩)
              | fail)
            exact ⟨rfl, (unhide hB).of_below (unhide B6), .inr ⟨unhide hend1, rfl⟩⟩
        · rw [if_neg (fun h => hr0 h.1)] at hend1
          replace hend1 := hide hend1
          have d1 : ((r.length : Int) == 0) = false := by
            rw [beq_eq_false_iff_ne]
            have : 0 < r.length := List.length_pos_iff.2 hr0
            omega
          replace hr0 := hide hr0
          generalize r.length = m at *
          go_wp2_with (first
            | (go_at_call 43; refine (unhide hno _).mono ?_; rintro e w5 ⟨rfl, rfl⟩)
            | fail)
          exact ⟨rfl, unhide hB, .inr ⟨unhide hend1, rfl⟩⟩
end Go.Proofs.Ytnjepbehfioclaa
