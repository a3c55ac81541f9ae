import Derived.Test.YtkgfmiicfegnlaaV8
namespace Go.Proofs.Ytkgfmiicfegnlaa
open Go.RowKit
attribute [local go_sem] bz_size bz_toList run_store_float
set_option maxRecDepth 100000

theorem nth_take {l : List Fl} {a i : Nat} (h : i < a) : nth (l.take a) i = nth l i := by unfold nth; simp [List.getD, h]
/-- A file put where it belongs. -/
theorem best_at {p d : List Fl} {f : Fl} {a : Nat} (h : IsBest p d) (hf : ∀ x ∈ p, ltN x.nm f.nm = true) (ha : a ≤ d.length) (hi : ∀ i, a ≤ i → i < d.length → rkey f < rkey (nth d i)) (hlo : a = 0 ∨ rkey (nth d (a - 1)) ≤ rkey f) :
    IsBest (p ++ [f]) (d.take a ++ [f] ++ d.drop a) := by
  have hp : ∀ x ∈ d, ltN x.nm f.nm = true := fun x hx => hf x (h.perm.mem_iff.1 hx)
  have hpr := h.pair
  rw [List.pairwise_iff_getElem] at hpr
  have h1 : ∀ x ∈ d.take a, rkey x ≤ rkey f := fun x hx => by
    obtain ⟨i, hi', rfl⟩ := List.mem_iff_getElem.1 hx
    have hi2 : i < a ∧ i < d.length := by rw [List.length_take] at hi'; omega
    rw [List.getElem_take]
    rcases hlo with h0 | h0
    · omega
    · rw [nth_get (by omega)] at h0
      rcases Nat.lt_or_ge i (a - 1) with h3 | h3
      · rcases hpr i (a - 1) hi2.2 (by omega) h3 with h4 | h4
        · omega
        · omega
      · have e : i = a - 1 := by omega
        subst e; exact h0
  have h2 : ∀ x ∈ d.drop a, rkey f < rkey x := fun x hx => by
    obtain ⟨i, hi', rfl⟩ := List.mem_iff_getElem.1 hx
    rw [List.getElem_drop]
    have hi2 : a + i < d.length := by rw [List.length_drop] at hi'; omega
    have := hi (a + i) (by omega) hi2
    rwa [nth_get hi2] at this
  have hsp : d.take a ++ d.drop a = d := List.take_append_drop a d
  have hpp := h.pair
  rw [← hsp, List.pairwise_append] at hpp
  constructor
  · have e : d.take a ++ [f] ++ d.drop a = d.take a ++ f :: d.drop a := by simp
    rw [e]
    refine List.perm_middle.trans ?_
    rw [hsp]
    exact (h.perm.cons f).trans (List.perm_append_singleton f p).symm
  · have e : d.take a ++ [f] ++ d.drop a = d.take a ++ f :: d.drop a := by simp
    rw [e, List.pairwise_append, List.pairwise_cons]
    refine ⟨hpp.1, ⟨fun y hy => .inl (h2 y hy), hpp.2.1⟩, fun x hx y hy => ?_⟩
    rcases List.mem_cons.1 hy with rfl | hy
    · have h3 := h1 x hx
      rcases Nat.lt_or_ge (rkey x) (rkey y) with h4 | h4
      · exact .inl h4
      · exact .inr ⟨by omega, hp x (List.mem_of_mem_take hx)⟩
    · have h3 := h1 x hx
      have h4 := h2 y hy
      exact .inl (by omega)
theorem cmpN_rk (a b : Fl) : cmpN (keyF a.rk) (keyF b.rk) < 0 ↔ rkey b < rkey a := by
  have h1 := key_bound a.rk
  have h2 := key_bound b.rk
  unfold cmpN rkey
  (repeat' split) <;> omega
theorem IsBest.len {l d : List Fl} (h : IsBest l d) : d.length = l.length := h.perm.length_eq

theorem own_three {w : World} {base a k c : Nat} {A : Option Addr} {d : List Fl} {f : Fl} (hd : d.length = k) (ha : a ≤ k) (h : w.ownsRow base 26 6 (.slice A (k + 1) c) (k + 1) ((d.take a).flatMap fc ++ fc f ++ (d.drop a).flatMap fc)) :
    (d.take a ++ [f] ++ d.drop a).length = k + 1 ∧ OwnF w base (.slice A (k + 1) c) (d.take a ++ [f] ++ d.drop a) := by
  have e : (d.take a ++ [f] ++ d.drop a).length = k + 1 := by simp; omega
  refine ⟨e, ?_⟩
  unfold OwnF
  rw [e]
  have e2 : (d.take a ++ [f] ++ d.drop a).flatMap fc = (d.take a).flatMap fc ++ fc f ++ (d.drop a).flatMap fc := by simp [List.flatMap_append]
  rw [e2]; exact h

set_option maxHeartbeats 4000000 in
theorem refBest_any (lo hi : Nat) (v : Value) (l : List Fl) (w : World) (h : Fls lo hi w v l) (hhi : hi ≤ w.heap.size) (hs : SmL l) :
    Calls Try.prog 27 #[v] w fun e w' => ∃ v', e = .returned (.tuple #[v', .int .i64 (errB (tabB l))]) ∧ OwnF w' w.heap.size v' (bestR l) ∧ Below w.heap.size w w' := by
  have hT := refCheckL_any lo hi v l w h hhi hs
  obtain ⟨A, c, rfl, h1, h2, h3⟩ := h.open6
  clear h
  cases ht : tabB l with
  | false =>
    rw [ht] at hT
    rw [bestR_f ht]
    rw [err_f] at hT ⊢
    clear ht h3 hhi hs
    replace hT := hide hT
    go_enter Try.func27, Try.ntmps27
    go_wp2_with (go_at_call 22; refine (unhide hT).mono ?_; rintro e w1 ⟨rfl, B1⟩)
    go_ret2
    exact ⟨_, rfl, own_nil _ _, B1⟩
  | true =>
    rw [ht] at hT
    rw [bestR_t ht]
    rw [err_t] at hT ⊢
    have hl8 := tab_len ht
    have hu := tab_up ht
    obtain ⟨i0, hi0, hz0, hz1, hz2⟩ := info_parts info26
    have hC := fun (x f : Fl) (hx : SmF x) (hf : SmF f) (W : World) => refCmp_any x.rk f.rk hx.2 hf.2 W
    have hfin : ∀ d, IsBest (l.take l.length) d → d = bestL l := fun d hd => by rw [List.take_length] at hd; exact best_eq hu hd
    obtain ⟨n, hn⟩ : ∃ n, n = l.length := ⟨_, rfl⟩
    rw [← hn] at h3 h1 hl8 hT hfin ⊢
    obtain ⟨r, hr⟩ : ∃ r, r = bestL l := ⟨_, rfl⟩
    rw [← hr] at hfin ⊢
    clear hr ht
    replace hn := hide hn; replace h3 := hide h3; replace h1 := hide h1; replace hT := hide hT; replace hC := hide hC; replace hfin := hide hfin; replace hs := hide hs; replace hu := hide hu
    go_enter Try.func27, Try.ntmps27
    go_wp2_with (go_at_call 22; refine (unhide hT).mono ?_; rintro e w1 ⟨rfl, B1⟩)
    replace B1 := hide B1
    go_loopw [4, 14] (fun o i wr => ∃ (k : Nat) (A' : Option Addr) (c' : Nat) (d : List Fl), k ≤ n ∧ d.length = k ∧ o = .slice A' k c' ∧ i = .int .i64 k ∧ Hid (OwnF wr w.heap.size (.slice A' k c') d) ∧ Hid (IsBest (l.take k) d) ∧ Hid (Below w.heap.size w wr)) (fun _ i _ => n - (intOf i).toNat)
    case atStart => exact ⟨0, none, 0, [], Nat.zero_le _, rfl, rfl, rfl, hide (own_nil _ _), hide ⟨.refl _, .nil⟩, B1⟩
    case round =>
      obtain ⟨k, A', c', d, hk, hdl, rfl, rfl, ho, hI, hB⟩ := hrel
      by_cases hlt : k < n
      · have hkl : k < l.length := by rw [← unhide hn]; exact hlt
        obtain ⟨b, off, rfl, _, hb, hc⟩ := unhide h3 k hlt
        obtain ⟨c0, c1, c2, c3, c4, c5⟩ := six (below_load (unhide hB) (Nat.lt_of_lt_of_le hb hhi) hc)
        have q1 : b < wr.heap.size := Nat.lt_of_lt_of_le (Nat.lt_of_lt_of_le hb hhi) (unhide hB).size
        have hfs := unhide hs _ (nth_mem hkl)
        have htk : l.take (k + 1) = l.take k ++ [nth l k] := by rw [nth_get hkl, List.take_succ_eq_append_getElem hkl]
        have hlow : ∀ x ∈ l.take k, ltN x.nm (nth l k).nm = true := fun x hx => by
          have := unhide hu
          unfold Up at this
          have h0 : l = l.take k ++ l.drop k := (List.take_append_drop k l).symm
          rw [h0, List.pairwise_append] at this
          refine this.2.2 x hx _ ?_
          rw [nth_get hkl]
          exact List.mem_of_getElem? (i := 0) (by rw [List.getElem?_drop]; simp [hkl])
        have hdm : ∀ x ∈ d, SmF x := fun x hx => unhide hs x (List.mem_of_mem_take ((unhide hI).perm.mem_iff.1 hx))
        obtain ⟨f, hf⟩ : ∃ f, f = nth l k := ⟨_, rfl⟩
        rw [← hf] at c0 c1 c2 c3 c4 c5 htk hlow hfs
        have hB0 : Hid (∀ x, Below w.heap.size w (wr.alloc x)) := hide (fun x => (unhide hB).alloc (unhide hB).size _)
        have hbx : Hid (Blk (wr.alloc (.cells #[.string (bz f.nm), .float .f64 f.rk, .int .u32 f.sm, .int .i64 f.bk, .int .i64 f.fr, .int .i64 f.ln] 26)) wr.heap.size 26 #[.string (bz f.nm), .float .f64 f.rk, .int .u32 f.sm, .int .i64 f.bk, .int .i64 f.fr, .int .i64 f.ln]) := hide (Blk.new rfl)
        have ho1 := hide (own_alloc (unhide ho) (.cells #[.string (bz f.nm), .float .f64 f.rk, .int .u32 f.sm, .int .i64 f.bk, .int .i64 f.fr, .int .i64 f.ln] 26))
        have szw := (unhide hB).size
        clear hc hf hkl
        replace htk := hide htk; replace hlow := hide hlow; replace hdm := hide hdm; replace hfs := hide hfs
        go_wp2_with (fail)
        clear c0 c1 c2 c3 c4 c5
        have hB1 := hide (unhide hB0 (.cells #[.string (bz f.nm), .float .f64 f.rk, .int .u32 f.sm, .int .i64 f.bk, .int .i64 f.fr, .int .i64 f.ln] 26))
        have szg : wr.heap.size < (wr.alloc (.cells #[.string (bz f.nm), .float .f64 f.rk, .int .u32 f.sm, .int .i64 f.bk, .int .i64 f.fr, .int .i64 f.ln] 26)).heap.size := by simp only [World.size_alloc]; omega
        generalize wr.alloc (.cells #[.string (bz f.nm), .float .f64 f.rk, .int .u32 f.sm, .int .i64 f.bk, .int .i64 f.fr, .int .i64 f.ln] 26) = ws at *
        generalize wr.heap.size = g at *
        clear hB0 ho
        go_loopw [7] (fun j wx => ∃ a : Nat, a ≤ k ∧ j = .int .i64 a ∧ Hid (∀ i, a ≤ i → i < k → rkey f < rkey (nth d i)) ∧ Hid (OwnF wx w.heap.size (.slice A' k c') d) ∧ Hid (Blk wx g 26 #[.string (bz f.nm), .float .f64 f.rk, .int .u32 f.sm, .int .i64 f.bk, .int .i64 f.fr, .int .i64 f.ln]) ∧ Hid (Below w.heap.size w wx)) (fun j _ => (intOf j).toNat)
        case atStart => exact ⟨k, Nat.le_refl _, rfl, hide (fun i h1 h2 => by omega), ho1, hbx, hB1⟩
        case round =>
          clear hbx ho1 hB1 szg
          obtain ⟨a, hak, rfl, hgt, ho, hbx, hB1⟩ := hrel
          obtain ⟨d0, d1, d2, d3, d4, d5⟩ := bk6 (unhide hbx)
          have gl := (unhide hbx).lt
          have hi1 : IntKind.i64.wrap ((a : Int) - 1) = (a : Int) - 1 := IntWalk.i64_in _ (by omega)
          by_cases ha0 : 0 < a
          · obtain ⟨m, rfl⟩ : ∃ m, a = m + 1 := ⟨a - 1, by omega⟩
            clear hi1
            have i1 : IntKind.i64.wrap (m : Int) = (m : Int) := IntWalk.i64_in _ (by omega)
            obtain ⟨A8, c8, e8, _, _, hr8⟩ := (unhide ho).fls.open6
            obtain ⟨b8, off8, rfl, _, _, hx8⟩ := hr8 m (by omega)
            injection e8 with e81 e82 e83
            subst e81 e83
            clear hr8 e82
            obtain ⟨x0, x1, x2, x3, x4, x5⟩ := six hx8
            have hm8 := unhide hdm _ (nth_mem (l := d) (i := m) (by omega))
            obtain ⟨Z, hZ⟩ : ∃ Z, Z = cmpN (keyF (nth d m).rk) (keyF f.rk) := ⟨_, rfl⟩
            have hZ2 : Z < 0 ↔ rkey f < rkey (nth d m) := by rw [hZ]; exact cmpN_rk _ _
            have hC8 := fun W => unhide hC _ _ hm8 (unhide hfs) W
            rw [← hZ] at hC8
            obtain ⟨X, hX⟩ : ∃ X, X = nth d m := ⟨_, rfl⟩
            rw [← hX] at x0 x1 x2 x3 x4 x5 hC8
            have b1 : m < k := by omega
            replace hZ2 := hide hZ2; replace hC8 := hide hC8; replace hX := hide hX
            clear hZ hx8 hm8 x0 x2 x3 x4 x5 d0 d2 d3 d4 d5
            go_upto_region 8 with (fail)
            go_quiet ((go_at_call 54; refine Calls.quiet_of_same ((unhide hC8 _).mono fun _ _ h => ⟨h.1, h.2.symm⟩)))
            clear x1 d1 hC8 gl
            have hbx1 := hide ((unhide hbx).below (bl_drewN (Below.refl wr.heap.size wr) nq) (unhide hbx).lt)
            have ho1 : Hid (OwnF (wr.drewN nq) w.heap.size (.slice _ k c') d) := hide (own_below (B := wr.heap.size) (unhide ho) (bl_drewN (Below.refl _ _) nq) (Nat.le_refl _))
            have hB2 := hide ((unhide hB1).trans (bl_drewN (Below.refl w.heap.size wr) nq))
            have gl : g < (wr.drewN nq).heap.size := (unhide hbx1).lt
            clear hbx ho hB1
            generalize wr.drewN nq = w1 at *
            by_cases hz : Z < 0
            · have hz2 := (unhide hZ2).1 hz
              have hd : decide (Z < 0) = true := decide_eq_true hz
              replace hz2 := hide hz2
              go_wp2
              go_roundw
              case rel => exact ⟨m, by omega, by go_num, hide (fun i h1 h2 => by
                rcases Nat.lt_or_ge i (m + 1) with h3 | h3
                · rw [show i = m by omega]; exact unhide hz2
                · exact unhide hgt i h3 h2), ho1, hbx1, hB2⟩
              case measure => simp [intOf] <;> omega
            · have hd : decide (Z < 0) = false := decide_eq_false hz
              have hlo : m + 1 = 0 ∨ rkey (nth d (m + 1 - 1)) ≤ rkey f := .inr (Nat.not_lt.1 fun h => hz ((unhide hZ2).2 h))
              obtain ⟨a, haa⟩ : ∃ a, a = m + 1 := ⟨_, rfl⟩
              have hcst : ((m + 1 : Nat) : Int) = (a : Int) := by omega
              rw [← haa] at hlo hak ha0 hgt
              rw [hcst]
              clear hcst haa
              obtain ⟨A', hA'⟩ : ∃ A', A' = some (⟨b8, off8, none⟩ : Addr) := ⟨_, rfl⟩
              rw [← hA'] at ho1 ⊢
              clear hA'
              obtain ⟨S, hS⟩ : ∃ S, S = w1.heap.size := ⟨_, rfl⟩
              have hcc : k ≤ c' := by
                obtain ⟨_, _, e, g1, _⟩ := (unhide ho1).fls.open6
                injection e with e1 e2 e3
                omega
              obtain ⟨A0, s0, z0⟩ := (unhide ho1).fls.part6 0 a (Nat.zero_le _) (by omega)
              obtain ⟨A2, s2, z2⟩ := (unhide ho1).fls.part6 a k hak (by omega)
              rw [List.drop_zero, Nat.sub_zero, Nat.sub_zero] at z0
              rw [Nat.sub_zero, Nat.sub_zero] at s0
              have t0 := fslice_h A' k c' a (by omega)
              rw [s0] at t0
              have t2 := fslice_l A' k c' a (by omega)
              rw [s2] at t2
              have e2 : (d.drop a).take (k - a) = d.drop a := List.take_of_length_le (by rw [List.length_drop]; omega)
              rw [e2] at z2
              have r0 := (Rd.src fc_len z0).2
              have r2 := (Rd.src fc_len z2).2
              have n0 : ((d.take a).flatMap fc).length = a * 6 := by rw [flat_len fc_len, List.length_take]; congr 1; omega
              have n2 : ((d.drop a).flatMap fc).length = (k - a) * 6 := by rw [flat_len fc_len, List.length_drop, hdl]
              have o1 := flat_one fc_one (d.take a)
              have o2 := flat_one fc_one (d.drop a)
              have nb := best_at (unhide hI) (unhide hlow) (show a ≤ d.length by omega) (by rw [hdl]; exact unhide hgt) hlo
              rw [← unhide htk] at nb
              have h3' := fun (W : World) (A7 : Option Addr) (c7 : Nat) h => own_three (w := W) (base := S) (A := A7) (c := c7) (f := f) hdl hak h
              obtain ⟨nd, hnd⟩ : ∃ nd, nd = d.take a ++ [f] ++ d.drop a := ⟨_, rfl⟩
              rw [← hnd] at nb h3'
              generalize (d.take a).flatMap fc = D0 at *
              generalize (d.drop a).flatMap fc = D2 at *
              clear z0 z2 s0 s2 e2 hnd hlow htk
              have u1 : 0 + a ≤ maxLen := by simp only [maxLen]; omega
              have u2 : (0 + a) * 56 ≤ 140737488355328 := by omega
              have u3 : a + 1 ≤ maxLen := by simp only [maxLen]; omega
              have u4 : (a + 1) * 56 ≤ 140737488355328 := by omega
              have u5 : a + 1 + (k - a) ≤ maxLen := by simp only [maxLen]; omega
              have u6 : (a + 1 + (k - a)) * 56 ≤ 140737488355328 := by omega
              have u7 : a + 1 + (k - a) = k + 1 := by omega
              have gS : g < S := by rw [hS]; exact gl
              have hSw : w.heap.size ≤ S := by rw [hS]; exact (unhide hB2).size
              replace hS := hide hS; replace r0 := hide r0; replace r2 := hide r2; replace n0 := hide n0; replace n2 := hide n2; replace o1 := hide o1; replace o2 := hide o2; replace nb := hide nb; replace h3' := hide h3'
              replace u1 := hide u1; replace u2 := hide u2; replace u3 := hide u3; replace u4 := hide u4; replace u5 := hide u5; replace u6 := hide u6; replace u7 := hide u7
              go_wp2_with (first
                | (at_builtin
                   refine wpList_app _ rfl (.const (.slice none 0 0)) (.tmp 38) 22 rfl S 26 i0 _ 6 56 Try.underlying22 hi0 hz0 hz1 hz2 rfl (Nat.succ_pos _) _ 0 [] rfl (World.ownsRow_nil _ _ _ _) A0 a c' D0 rfl (unhide n0) (unhide r0) (unhide o1) (unhide u1) (unhide u2) (by rw [unhide hS]; exact Nat.le_refl _) ?_
                   intro v5 w5 o5 hg5
                   rw [Nat.zero_add, List.nil_append] at o5
                   obtain ⟨A5, c5, rfl⟩ := ownsRow_form o5
                   have B5 : Hid (Below S w1 w5) := hide ((Below.refl S w1).grown hg5 (by rw [unhide hS]; exact Nat.le_refl _) (by intro k hk; cases hk))
                   have qf : Blk w5 g 26 #[.string (bz f.nm), .float .f64 f.rk, .int .u32 f.sm, .int .i64 f.bk, .int .i64 f.fr, .int .i64 f.ln] := (unhide hbx1).below (unhide B5) gS
                   obtain ⟨y0, y1, y2, y3, y4, y5⟩ := bk6 qf
                   have qg := qf.lt
                   clear qf hg5
                   replace o5 := hide o5)
                | (at_builtin
                   refine wpList_app _ rfl (.tmp 40) (.tmp 42) 22 rfl S 26 i0 _ 6 56 Try.underlying22 hi0 hz0 hz1 hz2 rfl (Nat.succ_pos _) _ a D0 rfl ((unhide o5).alloc _) (some ⟨w5.heap.size, 0, none⟩) 1 1 (fc f) rfl (by rw [fc_len]) (src_file _ _ _ rfl) (fc_one f) (unhide u3) (unhide u4) (by have := (unhide B5).size; rw [unhide hS]; simp; omega) ?_
                   intro v6 w6 o6 hg6
                   obtain ⟨A6, c6, rfl⟩ := ownsRow_form o6
                   have B6 : Hid (Below S w1 w6) := hide (((unhide B5).alloc (by rw [unhide hS]; exact (unhide B5).size) _).grown hg6 (by have := (unhide B5).size; rw [unhide hS]; simp; omega) (own_base (unhide o5)))
                   clear hg6
                   replace o6 := hide o6)
                | (at_builtin
                   refine wpList_app _ rfl (.tmp 44) (.tmp 47) 22 rfl S 26 i0 _ 6 56 Try.underlying22 hi0 hz0 hz1 hz2 rfl (Nat.succ_pos _) _ (a + 1) (D0 ++ fc f) rfl (unhide o6) A2 (k - a) (c' - a) D2 rfl (unhide n2) ((unhide r2).below (by rw [← unhide hS]; exact unhide B6)) (unhide o2) (unhide u5) (unhide u6) (by have := (unhide B6).size; rw [unhide hS]; exact this) ?_
                   intro v7 w7 o7 hg7
                   rw [unhide u7] at o7
                   obtain ⟨A7, c7, rfl⟩ := ownsRow_form o7
                   have B7 : Hid (Below S w1 w7) := hide ((unhide B6).grown hg7 (by have := (unhide B6).size; rw [unhide hS]; exact this) (own_base (unhide o6)))
                   clear hg7
                   have h9 := unhide h3' _ _ _ o7
                   replace o7 := hide o7; replace h9 := hide h9))
              go_roundw
              case rel => exact ⟨k + 1, A7, c7, nd, by omega, (unhide h9).1, rfl, by go_num, hide (own_mono (unhide h9).2 hSw), nb, hide ((unhide hB2).trans ((unhide B7).mono hSw))⟩
              case measure => simp [intOf] <;> omega
          · have hg : decide ((a : Int) > 0) = false := decide_eq_false (by omega)
            have hg2 : decide ((0 : Int) < (a : Int)) = false := decide_eq_false (by omega)
            have hlo : a = 0 ∨ rkey (nth d (a - 1)) ≤ rkey f := .inl (by omega)
            clear d0 d1 d2 d3 d4 d5 gl
            go_upto_region 8 with (fail)
            go_quiet (fail)
            have hbx1 := hide ((unhide hbx).below (bl_drewN (Below.refl wr.heap.size wr) nq) (unhide hbx).lt)
            have ho1 : Hid (OwnF (wr.drewN nq) w.heap.size (.slice _ k c') d) := hide (own_below (B := wr.heap.size) (unhide ho) (bl_drewN (Below.refl _ _) nq) (Nat.le_refl _))
            have hB2 := hide ((unhide hB1).trans (bl_drewN (Below.refl w.heap.size wr) nq))
            have gl : g < (wr.drewN nq).heap.size := (unhide hbx1).lt
            clear hbx ho hB1
            generalize wr.drewN nq = w1 at *
            obtain ⟨S, hS⟩ : ∃ S, S = w1.heap.size := ⟨_, rfl⟩
            have hcc : k ≤ c' := by
              obtain ⟨_, _, e, g1, _⟩ := (unhide ho1).fls.open6
              injection e with e1 e2 e3
              omega
            obtain ⟨A0, s0, z0⟩ := (unhide ho1).fls.part6 0 a (Nat.zero_le _) (by omega)
            obtain ⟨A2, s2, z2⟩ := (unhide ho1).fls.part6 a k hak (by omega)
            rw [List.drop_zero, Nat.sub_zero, Nat.sub_zero] at z0
            rw [Nat.sub_zero, Nat.sub_zero] at s0
            have t0 := fslice_h A' k c' a (by omega)
            rw [s0] at t0
            have t2 := fslice_l A' k c' a (by omega)
            rw [s2] at t2
            have e2 : (d.drop a).take (k - a) = d.drop a := List.take_of_length_le (by rw [List.length_drop]; omega)
            rw [e2] at z2
            have r0 := (Rd.src fc_len z0).2
            have r2 := (Rd.src fc_len z2).2
            have n0 : ((d.take a).flatMap fc).length = a * 6 := by rw [flat_len fc_len, List.length_take]; congr 1; omega
            have n2 : ((d.drop a).flatMap fc).length = (k - a) * 6 := by rw [flat_len fc_len, List.length_drop, hdl]
            have o1 := flat_one fc_one (d.take a)
            have o2 := flat_one fc_one (d.drop a)
            have nb := best_at (unhide hI) (unhide hlow) (show a ≤ d.length by omega) (by rw [hdl]; exact unhide hgt) hlo
            rw [← unhide htk] at nb
            have h3' := fun (W : World) (A7 : Option Addr) (c7 : Nat) h => own_three (w := W) (base := S) (A := A7) (c := c7) (f := f) hdl hak h
            obtain ⟨nd, hnd⟩ : ∃ nd, nd = d.take a ++ [f] ++ d.drop a := ⟨_, rfl⟩
            rw [← hnd] at nb h3'
            generalize (d.take a).flatMap fc = D0 at *
            generalize (d.drop a).flatMap fc = D2 at *
            clear z0 z2 s0 s2 e2 hnd hlow htk
            have u1 : 0 + a ≤ maxLen := by simp only [maxLen]; omega
            have u2 : (0 + a) * 56 ≤ 140737488355328 := by omega
            have u3 : a + 1 ≤ maxLen := by simp only [maxLen]; omega
            have u4 : (a + 1) * 56 ≤ 140737488355328 := by omega
            have u5 : a + 1 + (k - a) ≤ maxLen := by simp only [maxLen]; omega
            have u6 : (a + 1 + (k - a)) * 56 ≤ 140737488355328 := by omega
            have u7 : a + 1 + (k - a) = k + 1 := by omega
            have gS : g < S := by rw [hS]; exact gl
            have hSw : w.heap.size ≤ S := by rw [hS]; exact (unhide hB2).size
            replace hS := hide hS; replace r0 := hide r0; replace r2 := hide r2; replace n0 := hide n0; replace n2 := hide n2; replace o1 := hide o1; replace o2 := hide o2; replace nb := hide nb; replace h3' := hide h3'
            replace u1 := hide u1; replace u2 := hide u2; replace u3 := hide u3; replace u4 := hide u4; replace u5 := hide u5; replace u6 := hide u6; replace u7 := hide u7
            go_wp2_with (first
              | (at_builtin
                 refine wpList_app _ rfl (.const (.slice none 0 0)) (.tmp 38) 22 rfl S 26 i0 _ 6 56 Try.underlying22 hi0 hz0 hz1 hz2 rfl (Nat.succ_pos _) _ 0 [] rfl (World.ownsRow_nil _ _ _ _) A0 a c' D0 rfl (unhide n0) (unhide r0) (unhide o1) (unhide u1) (unhide u2) (by rw [unhide hS]; exact Nat.le_refl _) ?_
                 intro v5 w5 o5 hg5
                 rw [Nat.zero_add, List.nil_append] at o5
                 obtain ⟨A5, c5, rfl⟩ := ownsRow_form o5
                 have B5 : Hid (Below S w1 w5) := hide ((Below.refl S w1).grown hg5 (by rw [unhide hS]; exact Nat.le_refl _) (by intro k hk; cases hk))
                 have qf : Blk w5 g 26 #[.string (bz f.nm), .float .f64 f.rk, .int .u32 f.sm, .int .i64 f.bk, .int .i64 f.fr, .int .i64 f.ln] := (unhide hbx1).below (unhide B5) gS
                 obtain ⟨y0, y1, y2, y3, y4, y5⟩ := bk6 qf
                 have qg := qf.lt
                 clear qf hg5
                 replace o5 := hide o5)
              | (at_builtin
                 refine wpList_app _ rfl (.tmp 40) (.tmp 42) 22 rfl S 26 i0 _ 6 56 Try.underlying22 hi0 hz0 hz1 hz2 rfl (Nat.succ_pos _) _ a D0 rfl ((unhide o5).alloc _) (some ⟨w5.heap.size, 0, none⟩) 1 1 (fc f) rfl (by rw [fc_len]) (src_file _ _ _ rfl) (fc_one f) (unhide u3) (unhide u4) (by have := (unhide B5).size; rw [unhide hS]; simp; omega) ?_
                 intro v6 w6 o6 hg6
                 obtain ⟨A6, c6, rfl⟩ := ownsRow_form o6
                 have B6 : Hid (Below S w1 w6) := hide (((unhide B5).alloc (by rw [unhide hS]; exact (unhide B5).size) _).grown hg6 (by have := (unhide B5).size; rw [unhide hS]; simp; omega) (own_base (unhide o5)))
                 clear hg6
                 replace o6 := hide o6)
              | (at_builtin
                 refine wpList_app _ rfl (.tmp 44) (.tmp 47) 22 rfl S 26 i0 _ 6 56 Try.underlying22 hi0 hz0 hz1 hz2 rfl (Nat.succ_pos _) _ (a + 1) (D0 ++ fc f) rfl (unhide o6) A2 (k - a) (c' - a) D2 rfl (unhide n2) ((unhide r2).below (by rw [← unhide hS]; exact unhide B6)) (unhide o2) (unhide u5) (unhide u6) (by have := (unhide B6).size; rw [unhide hS]; exact this) ?_
                 intro v7 w7 o7 hg7
                 rw [unhide u7] at o7
                 obtain ⟨A7, c7, rfl⟩ := ownsRow_form o7
                 have B7 : Hid (Below S w1 w7) := hide ((unhide B6).grown hg7 (by have := (unhide B6).size; rw [unhide hS]; exact this) (own_base (unhide o6)))
                 clear hg7
                 have h9 := unhide h3' _ _ _ o7
                 replace o7 := hide o7; replace h9 := hide h9))
            go_roundw
            case rel => exact ⟨k + 1, A7, c7, nd, by omega, (unhide h9).1, rfl, by go_num, hide (own_mono (unhide h9).2 hSw), nb, hide ((unhide hB2).trans ((unhide B7).mono hSw))⟩
            case measure => simp [intOf] <;> omega
      · obtain rfl : k = n := by omega
        have e := unhide hfin _ (unhide hI)
        subst e
        go_wp2
        go_ret2
        exact ⟨_, rfl, unhide ho, unhide hB⟩
end Go.Proofs.Ytkgfmiicfegnlaa
