import Derived.Test.YtnjepbehfioclaaR7
namespace Go.Proofs.Ytnjepbehfioclaa
open Go.RowKit
attribute [local go_sem] bz_size bz_toList run_store_float
set_option maxRecDepth 100000

/-- A file that can't be read ends it. -/
theorem tabR_stop {b r : List UInt8} {l : List Fl} {k : Nat} (h2 : 2 ≤ b.length) (h : filesR k (b.drop 2) = some (l, r)) (h0 : r ≠ []) (hr : fileR r = none) : tabR b = none := by
  cases ht : tabR b with
  | none => rfl
  | some l' =>
    exfalso
    unfold tabR at ht
    rw [if_neg (by omega)] at ht
    split at ht
    · cases ht
    · rename_i l2 r2 hl2
      split at ht
      · rename_i hc
        rw [hc.1] at hl2
        rcases Nat.lt_trichotomy k (numN (b.take 2)) with h1 | h1 | h1
        · rw [filesR_bad h hr h1] at hl2; cases hl2
        · rw [h1] at h
          rw [hl2] at h
          injection h with h
          injection h with _ h
          exact h0 h.symm
        · have := filesR_bad (m := k) hl2 (show fileR [] = none from rfl) h1
          rw [h] at this
          cases this
      · cases ht
theorem tabR_whole {b : List UInt8} {l : List Fl} {k : Nat} (h2 : 2 ≤ b.length) (h : filesR k (b.drop 2) = some (l, [])) : tabR b = if tabB l = true ∧ tabT l = b then some l else none := by
  rw [tabR_all h2 (n := b.length) (Nat.le_refl _), allR_files (n := b.length) (by rw [List.length_drop]; omega) h, Option.bind_some]
theorem fileR_at {b : List UInt8} {p : Nat} {c : UInt8} (hp : p < b.length) (hc : b[p] = c) :
    fileR (b.drop p) = if b.length - p < c.toNat + 21 then none else
      if ofE (numN ((b.drop (p + 1 + c.toNat)).take 8)) = 0 then some (⟨(b.drop (p + 1)).take c.toNat, ofF (numN ((b.drop (p + 1 + c.toNat)).take 8)), (numN ((b.drop (p + 1 + c.toNat + 8)).take 4) : Nat), (numN ((b.drop (p + 1 + c.toNat + 12)).take 2) : Nat), (numN ((b.drop (p + 1 + c.toNat + 14)).take 3) : Nat), (numN ((b.drop (p + 1 + c.toNat + 17)).take 3) : Nat)⟩, b.drop (p + 1 + c.toNat + 20)) else none := by
  rw [List.drop_eq_getElem_cons hp, hc]
  unfold fileR
  simp only [List.drop_drop, List.length_drop]
  by_cases h : b.length - p < c.toNat + 21
  · rw [if_pos (by omega), if_pos h]
  · rw [if_neg (by omega), if_neg h]
theorem bs_load {lo hi : Nat} {w : World} {A : Option Addr} {n c : Nat} {l : List UInt8} (h : Bs lo hi w (.slice A n c) l) (p : Nat) (hp : p < l.length) : ∃ g off, A = some ⟨g, off, none⟩ ∧ g < hi ∧ w.cell? ⟨g, off + p, none⟩ = some (u8v l[p]) := by
  obtain ⟨A0, c0, e, _, _, h3⟩ := h.openB
  injection e with e1 e2 e3
  subst e1 e2 e3
  obtain ⟨g, off, h4, _, h5, h6⟩ := h3 p hp
  exact ⟨g, off, h4, h5, h6⟩
set_option maxHeartbeats 2000000 in
theorem refFrom_any (lo hi : Nat) (v : Value) (b : List UInt8) (w : World) (h : Bs lo hi w v b) (hhi : hi ≤ w.heap.size) :
    Calls Try.prog 17 #[v] w fun e w' => ∃ A c, e = .returned (.tuple #[.slice A (fromL b).length c, .int .i64 (fromE b)]) ∧ w'.ownsRow w.heap.size 26 6 (.slice A (fromL b).length c) (fromL b).length ((fromL b).flatMap fc) ∧ Below w.heap.size w w' := by
  obtain ⟨A, c, rfl, h1, h2, _⟩ := h.openB
  by_cases hl : 65536 < b.length
  · have e1 : fromL b = [] := by unfold fromL; rw [if_pos hl]
    have e2 : fromE b = 3 := by unfold fromE; rw [if_pos hl]
    have d1 : (65536 : Int) < (b.length : Int) := by omega
    rw [e1, e2]
    clear h
    go_enter Try.func17, Try.ntmps17
    go_wp2
    go_ret2
    exact ⟨none, 0, rfl, World.ownsRow_nil _ _ _ _, Below.refl _ _⟩
  · have d1 : ¬ (65536 : Int) < (b.length : Int) := by omega
    by_cases hs2 : b.length < 2
    · have e1 : fromL b = [] := by unfold fromL; rw [if_neg hl, tabR_short hs2]; rfl
      have e2 : fromE b = 2 := by unfold fromE; rw [if_neg hl, tabR_short hs2]; rfl
      have d2 : (b.length : Int) < 2 := by omega
      rw [e1, e2]
      clear h
      go_enter Try.func17, Try.ntmps17
      go_wp2
      go_ret2
      exact ⟨none, 0, rfl, World.ownsRow_nil _ _ _ _, Below.refl _ _⟩
    · have d2 : ¬ (b.length : Int) < 2 := by omega
      obtain ⟨i0, hi0, iz0, iz1, iz2⟩ := info_p info26
      have hE := fun (ht : tabR b = none) => (show fromL b = [] ∧ fromE b = 2 from ⟨by unfold fromL; rw [if_neg hl, ht]; rfl, by unfold fromE; rw [if_neg hl, ht]; rfl⟩)
      have hY := fun (l : List Fl) (ht : tabR b = some l) => (show fromL b = l ∧ fromE b = 0 from ⟨by unfold fromL; rw [if_neg hl, ht]; rfl, by unfold fromE; rw [if_neg hl, ht]; rfl⟩)
      have hst := fun k l r => tabR_stop (b := b) (k := k) (l := l) (r := r) (by omega)
      have hwh := fun k l => tabR_whole (b := b) (k := k) (l := l) (by omega)
      have hat := fun p c hp hc => fileR_at (b := b) (p := p) (c := c) hp hc
      have hld := fun p hp => bs_load h p hp
      have hcut := fun i j I J hI hJ hij hj => h.cut_lh i j I J hI hJ hij hj
      have hcv := fun W (hB : Below w.heap.size w W) => Bs.convert (l := b) (Rd.below h hB hhi)
      obtain ⟨n, hn⟩ : ∃ n, n = b.length := ⟨_, rfl⟩
      have n0 : n ≤ 65536 := by omega
      have n1 : 2 ≤ n := by omega
      rw [← hn] at d1 d2 h1 hcv hcut ⊢
      replace hE := hide hE; replace hY := hide hY; replace hst := hide hst; replace hwh := hide hwh; replace hat := hide hat; replace hcut := hide hcut; replace hcv := hide hcv; replace hn := hide hn; replace hld := hide hld; replace h1 := hide h1
      clear hl hs2 h
      go_enter Try.func17, Try.ntmps17
      go_wp2
      go_loopw [4, 5] (fun s i wr => ∃ (p k c' : Nat) (A' : Option Addr) (l : List Fl), p ≤ n ∧ 2 ≤ p ∧ i = .int .i64 (p : Int) ∧ s = .slice A' k c' ∧ k ≤ p ∧ Hid (l.length = k) ∧ Hid (filesR k (b.drop 2) = some (l, b.drop p)) ∧ Hid (wr.ownsRow w.heap.size 26 6 (.slice A' k c') k (l.flatMap fc)) ∧ Hid (Below w.heap.size w wr)) (fun _ i _ => n - (intOf i).toNat)
      case atStart => exact ⟨2, 0, 0, none, [], n1, by omega, rfl, rfl, by omega, hide rfl, hide rfl, hide (World.ownsRow_nil _ _ _ _), hide (Below.refl _ _)⟩
      case round =>
        obtain ⟨p, k, c', A', l, hp, hp2, rfl, rfl, hkp, hlen, hf, ho, hB⟩ := hrel
        by_cases hlt : p < n
        · have hpl : p < b.length := by rw [← unhide hn]; exact hlt
          obtain ⟨g, off, rfl, hg, hx0⟩ := unhide hld p hpl
          have hx : wr.cell? ⟨g, off + p, none⟩ = some (u8v b[p]) := ((unhide hB).cell (p := ⟨g, off + p, none⟩) (Nat.lt_of_lt_of_le hg hhi)).trans hx0
          have hg2 : g < wr.heap.size := Nat.lt_of_lt_of_le (Nat.lt_of_lt_of_le hg hhi) (unhide hB).size
          have hfr := unhide hat p _ hpl rfl
          have hne : b.drop p ≠ [] := by intro e; have := congrArg List.length e; rw [List.length_drop] at this; simp at this; omega
          have hstop := unhide hst k l _ (unhide hf) hne
          have hq1 := (b[p]).toNat_lt
          obtain ⟨m, hm⟩ : ∃ m, m = (b[p]).toNat := ⟨_, rfl⟩
          rw [← hm] at hfr hq1
          have x1 : n8 b[p] = (m : Int) := by rw [hm]; rfl
          generalize b[p] = q at *
          have x2 : IntKind.i64.wrap (m : Int) = (m : Int) := IntWalk.i64_in _ (by omega)
          have x3 : IntKind.i64.wrap ((n : Int) - (p : Int)) = (n : Int) - (p : Int) := IntWalk.i64_in _ (by omega)
          have x4 : IntKind.i64.wrap ((m : Int) + 21) = (m : Int) + 21 := IntWalk.i64_in _ (by omega)
          rw [← unhide hn] at hfr
          replace hstop := hide hstop
          clear hx0 hne hm
          by_cases hsh : n - p < m + 21
          · rw [if_pos hsh] at hfr
            obtain ⟨e1, e2⟩ := unhide hE (unhide hstop hfr)
            have d3 : (n : Int) - (p : Int) < (m : Int) + 21 := by omega
            replace e1 := hide e1; replace e2 := hide e2; replace hfr := hide hfr
            clear hsh
            go_wp2_with fail
            all_goals go_ret2
            all_goals exact ⟨none, 0, by rw [unhide e1, unhide e2]; rfl, by rw [unhide e1]; exact World.ownsRow_nil _ _ _ _, unhide hB⟩
          · rw [if_neg hsh] at hfr
            have d3 : ¬ (n : Int) - (p : Int) < (m : Int) + 21 := by omega
            obtain ⟨a, ha⟩ : ∃ a, a = p + 1 + m := ⟨_, rfl⟩
            rw [← ha] at hfr
            have an : a + 20 ≤ n := by omega
            have y1 : IntKind.i64.wrap ((p : Int) + 1) = (p : Int) + 1 := IntWalk.i64_in _ (by omega)
            have y2 : IntKind.i64.wrap ((p : Int) + 1 + (m : Int)) = (a : Int) := by rw [IntWalk.i64_in _ (by omega)]; omega
            have y3 : IntKind.i64.wrap (1 + (m : Int)) = 1 + (m : Int) := IntWalk.i64_in _ (by omega)
            have y4 : IntKind.i64.wrap ((p : Int) + (1 + (m : Int))) = (a : Int) := by rw [IntWalk.i64_in _ (by omega)]; omega
            have y8 : IntKind.i64.wrap ((a : Int) + 8) = (a : Int) + 8 := IntWalk.i64_in _ (by omega)
            have y12 : IntKind.i64.wrap ((a : Int) + 12) = (a : Int) + 12 := IntWalk.i64_in _ (by omega)
            have y14 : IntKind.i64.wrap ((a : Int) + 14) = (a : Int) + 14 := IntWalk.i64_in _ (by omega)
            have y17 : IntKind.i64.wrap ((a : Int) + 17) = (a : Int) + 17 := IntWalk.i64_in _ (by omega)
            have y20 : IntKind.i64.wrap ((a : Int) + 20) = (a : Int) + 20 := IntWalk.i64_in _ (by omega)
            obtain ⟨Am, cm, rm, bm⟩ := unhide hcut (p + 1) a ((p : Int) + 1) (a : Int) (by omega) rfl (by omega) (by omega)
            obtain ⟨A8, c8, r8, b8⟩ := unhide hcut a (a + 8) (a : Int) ((a : Int) + 8) rfl (by omega) (by omega) (by omega)
            obtain ⟨A12, c12, r12, b12⟩ := unhide hcut (a + 8) (a + 12) ((a : Int) + 8) ((a : Int) + 12) (by omega) (by omega) (by omega) (by omega)
            obtain ⟨A14, c14, r14, b14⟩ := unhide hcut (a + 12) (a + 14) ((a : Int) + 12) ((a : Int) + 14) (by omega) (by omega) (by omega) (by omega)
            obtain ⟨A17, c17, r17, b17⟩ := unhide hcut (a + 14) (a + 17) ((a : Int) + 14) ((a : Int) + 17) (by omega) (by omega) (by omega) (by omega)
            obtain ⟨A20, c20, r20, b20⟩ := unhide hcut (a + 17) (a + 20) ((a : Int) + 17) ((a : Int) + 20) (by omega) (by omega) (by omega) (by omega)
            rw [show a - (p + 1) = m by omega] at rm bm
            rw [show a + 8 - a = 8 by omega] at r8 b8
            rw [show a + 12 - (a + 8) = 4 by omega] at r12 b12
            rw [show a + 14 - (a + 12) = 2 by omega] at r14 b14
            rw [show a + 17 - (a + 14) = 3 by omega] at r17 b17
            rw [show a + 20 - (a + 17) = 3 by omega] at r20 b20
            have vm := Bs.convert (Rd.below bm (unhide hB) hhi)
            have T8 := fun W (hW : Below w.heap.size w W) => refTake_any _ _ _ _ W (Rd.below b8 hW hhi) (by rw [List.length_take]; omega)
            have T12 := fun W (hW : Below w.heap.size w W) => refTake_any _ _ _ _ W (Rd.below b12 hW hhi) (by rw [List.length_take]; omega)
            have T14 := fun W (hW : Below w.heap.size w W) => refTake_any _ _ _ _ W (Rd.below b14 hW hhi) (by rw [List.length_take]; omega)
            have T17 := fun W (hW : Below w.heap.size w W) => refTake_any _ _ _ _ W (Rd.below b17 hW hhi) (by rw [List.length_take]; omega)
            have T20 := fun W (hW : Below w.heap.size w W) => refTake_any _ _ _ _ W (Rd.below b20 hW hhi) (by rw [List.length_take]; omega)
            have l8 : numN ((b.drop a).take 8) < 18446744073709551616 := num_take_lt _ 8
            have l12 : numN ((b.drop (a + 8)).take 4) < 4294967296 := num_take_lt _ 4
            have l14 : numN ((b.drop (a + 12)).take 2) < 65536 := num_take_lt _ 2
            have l17 : numN ((b.drop (a + 14)).take 3) < 16777216 := num_take_lt _ 3
            have l20 : numN ((b.drop (a + 17)).take 3) < 16777216 := num_take_lt _ 3
            clear b8 b12 b14 b17 b20 bm
            generalize numN ((b.drop a).take 8) = q8 at *
            generalize numN ((b.drop (a + 8)).take 4) = q12 at *
            generalize numN ((b.drop (a + 12)).take 2) = q14 at *
            generalize numN ((b.drop (a + 14)).take 3) = q17 at *
            generalize numN ((b.drop (a + 17)).take 3) = q20 at *
            generalize (b.drop (p + 1)).take m = nm at *
            have v12 : (q12 : Int) % (4294967296 : Int) = (q12 : Int) := by omega
            have v12' : IntKind.u32.wrap (q12 : Int) = (q12 : Int) := by rw [IntKind.wrap_u32]; exact v12
            have v14 : IntKind.i64.wrap (q14 : Int) = (q14 : Int) := IntWalk.i64_in _ (by omega)
            have v17 : IntKind.i64.wrap (q17 : Int) = (q17 : Int) := IntWalk.i64_in _ (by omega)
            have v20 : IntKind.i64.wrap (q20 : Int) = (q20 : Int) := IntWalk.i64_in _ (by omega)
            have TO := fun W => refOf_any q8 l8 W
            have B1 : Below w.heap.size w (wr.alloc (.cells #[.string (bz nm), .float .f64 0, .int .u32 0, .int .i64 0, .int .i64 0, .int .i64 0] 26)) := (unhide hB).alloc (unhide hB).size _
            have C1 : Below wr.heap.size wr (wr.alloc (.cells #[.string (bz nm), .float .f64 0, .int .u32 0, .int .i64 0, .int .i64 0, .int .i64 0] 26)) := bl_alloc (Below.refl _ _) _
            have X1 : Blk (wr.alloc (.cells #[.string (bz nm), .float .f64 0, .int .u32 0, .int .i64 0, .int .i64 0, .int .i64 0] 26)) wr.heap.size 26 #[.string (bz nm), .float .f64 0, .int .u32 0, .int .i64 0, .int .i64 0, .int .i64 0] := Blk.new rfl
            have hws := (unhide hB).size
            replace T8 := hide T8; replace T12 := hide T12; replace T14 := hide T14; replace T17 := hide T17; replace T20 := hide T20; replace TO := hide TO; replace B1 := hide B1; replace C1 := hide C1; replace X1 := hide X1; replace hws := hide hws; replace ha := hide ha
            clear l8 l12 l14 l17 l20 hsh
            go_upto_region 12 with fail
            generalize wr.alloc (.cells #[.string (bz nm), .float .f64 0, .int .u32 0, .int .i64 0, .int .i64 0, .int .i64 0] 26) = W1 at *
            obtain ⟨⟨k0, k1, k2, k3, k4, k5⟩, ⟨f0, f1, f2, f3, f4, f5⟩⟩ := rd_cells (unhide X1)
            have gW : wr.heap.size < W1.heap.size := (unhide X1).lt
            clear hx vm y1 y2 x1 x2 x3 x4
            by_cases he : ofE q8 = 0
            · rw [if_pos he] at hfr
              rw [he] at TO
              clear he
              obtain ⟨z, hz⟩ : ∃ z, z = ofF q8 := ⟨_, rfl⟩
              rw [← hz] at hfr TO
              obtain ⟨f, hfe⟩ : ∃ f : Fl, f = ⟨nm, z, (q12 : Int), (q14 : Int), (q17 : Int), (q20 : Int)⟩ := ⟨_, rfl⟩
              rw [← hfe] at hfr
              have hf2 := filesR_snoc (unhide hf) hfr
              have hl2 : (l ++ [f]).length = k + 1 := by rw [List.length_append, unhide hlen]; rfl
              have X5 : Blk (((((W1.setCell ⟨wr.heap.size, 1, none⟩ (.float .f64 z)).setCell ⟨wr.heap.size, 2, none⟩ (.int .u32 (q12 : Int))).setCell ⟨wr.heap.size, 3, none⟩ (.int .i64 (q14 : Int))).setCell ⟨wr.heap.size, 4, none⟩ (.int .i64 (q17 : Int))).setCell ⟨wr.heap.size, 5, none⟩ (.int .i64 (q20 : Int))) wr.heap.size 26 #[.string (bz f.nm), .float .f64 f.rk, .int .u32 f.sm, .int .i64 f.bk, .int .i64 f.fr, .int .i64 f.ln] := by
                subst hfe
                simpa using ((((unhide X1).set 1 (.float .f64 z)).set 2 (.int .u32 (q12 : Int))).set 3 (.int .i64 (q14 : Int))).set 4 (.int .i64 (q17 : Int)) |>.set 5 (.int .i64 (q20 : Int))
              have D := fun (j : Nat) (u : Value) (V : World) (hV : Below w.heap.size w V) => Below.setCell hV (p := ⟨wr.heap.size, j, none⟩) (unhide hws) u
              have E := fun (j : Nat) (u : Value) (V : World) (hV : Below wr.heap.size wr V) => Below.setCell hV (p := ⟨wr.heap.size, j, none⟩) (Nat.le_refl _) u
              have D1 := hide (D 1 (.float .f64 z) _ (unhide B1))
              have D2 := hide (D 2 (.int .u32 (q12 : Int)) _ (unhide D1))
              have D3 := hide (D 3 (.int .i64 (q14 : Int)) _ (unhide D2))
              have D4 := hide (D 4 (.int .i64 (q17 : Int)) _ (unhide D3))
              have D5 := hide (D 5 (.int .i64 (q20 : Int)) _ (unhide D4))
              have E5 := hide (E 5 (.int .i64 (q20 : Int)) _ (E 4 (.int .i64 (q17 : Int)) _ (E 3 (.int .i64 (q14 : Int)) _ (E 2 (.int .u32 (q12 : Int)) _ (E 1 (.float .f64 z) _ (unhide C1))))))
              replace X5 := hide X5; replace hf2 := hide hf2; replace hl2 := hide hl2; replace hfe := hide hfe; replace hz := hide hz
              clear D E hfr
              have t8 : True := trivial
              have t12 : True := trivial
              have t14 : True := trivial
              have t17 : True := trivial
              have t20 : True := trivial
              go_upto_region 22 with (first
                | (have _t := t8; clear t8 _t; go_at_call 31; refine (unhide T8 _ (unhide B1)).mono ?_; rintro e w8 ⟨rfl, rfl⟩)
                | (go_at_call 30; refine (unhide TO _).mono ?_; rintro e w9 ⟨rfl, rfl⟩)
                | (have _t := t12; clear t12 _t; go_at_call 31; refine (unhide T12 _ (unhide D1)).mono ?_; rintro e w8 ⟨rfl, rfl⟩)
                | (have _t := t14; clear t14 _t; go_at_call 31; refine (unhide T14 _ (unhide D2)).mono ?_; rintro e w8 ⟨rfl, rfl⟩)
                | (have _t := t17; clear t17 _t; go_at_call 31; refine (unhide T17 _ (unhide D3)).mono ?_; rintro e w8 ⟨rfl, rfl⟩)
                | (have _t := t20; clear t20 _t; go_at_call 31; refine (unhide T20 _ (unhide D4)).mono ?_; rintro e w8 ⟨rfl, rfl⟩)
                | fail)
              clear D1 D2 D3 D4
              generalize ((((W1.setCell ⟨wr.heap.size, 1, none⟩ (.float .f64 z)).setCell ⟨wr.heap.size, 2, none⟩ (.int .u32 (q12 : Int))).setCell ⟨wr.heap.size, 3, none⟩ (.int .i64 (q14 : Int))).setCell ⟨wr.heap.size, 4, none⟩ (.int .i64 (q17 : Int))).setCell ⟨wr.heap.size, 5, none⟩ (.int .i64 (q20 : Int)) = W5 at *
              have o5 := hide (own_below2 (unhide ho) (unhide E5) (own_vbelow (unhide ho)))
              obtain ⟨c0, c1, c2, c3, c4, c5⟩ := bk6 (unhide X5)
              have gW5 : wr.heap.size < W5.heap.size := (unhide X5).lt
              have hto := fc_one f
              have hfl := flat_snoc fc l f
              have u1 : k + 1 ≤ maxLen := by simp only [maxLen]; omega
              have u2 : (k + 1) * 56 ≤ 140737488355328 := by omega
              replace hto := hide hto; replace hfl := hide hfl; replace u1 := hide u1; replace u2 := hide u2
              clear k0 k1 k2 k3 k4 k5 f0 f1 f2 f3 f4 f5 gW
              go_wp2_with (first
                | (at_builtin
                   refine wpList_app _ rfl (.tmp 100) (.tmp 102) 22 rfl w.heap.size 26 i0 _ 6 56 Try.underlying22 hi0 iz0 iz1 iz2 rfl (Nat.succ_pos _) _ k (l.flatMap fc) rfl ((unhide o5).alloc _) (some ⟨W5.heap.size, 0, none⟩) 1 1 (fc f) rfl (fc6 f) (file_src W5 f) (unhide hto) (unhide u1) (unhide u2) (by have := (unhide D5).size; simp; omega) ?_
                   intro v6 w6 o6 g6
                   obtain ⟨A6, c6, rfl⟩ := ownsRow_form o6
                   rw [unhide hfl] at o6
                   have B6 := hide (below_app (unhide D5) (Nat.le_refl _) (unhide o5) g6)
                   replace o6 := hide o6
                   clear g6)
                | fail)
              go_roundw
              case rel => exact ⟨a + 20, k + 1, c6, A6, l ++ [f], an, by omega, by go_num, rfl, by have := unhide ha; omega, hl2, hf2, o6, B6⟩
              case measure => have := unhide ha; simp [intOf]; omega
            · rw [if_neg he] at hfr
              obtain ⟨e1, e2⟩ := unhide hE (unhide hstop hfr)
              have hbad : (ofE q8 == 0) = false := by simpa using he
              generalize ofE q8 = er at *
              generalize ofF q8 = z at *
              replace e1 := hide e1; replace e2 := hide e2; replace hfr := hide hfr
              clear he
              go_wp2_with (first
                | (go_at_call 31; refine (unhide T8 _ (unhide B1)).mono ?_; rintro e w8 ⟨rfl, rfl⟩)
                | (go_at_call 30; refine (unhide TO _).mono ?_; rintro e w9 ⟨rfl, rfl⟩)
                | fail)
              all_goals go_ret2
              all_goals exact ⟨none, 0, by rw [unhide e1, unhide e2]; rfl, by rw [unhide e1]; exact World.ownsRow_nil _ _ _ _, unhide B1⟩
        · obtain rfl : p = n := by omega
          have hd0 : b.drop p = [] := List.drop_eq_nil_of_le (by rw [← unhide hn]; exact Nat.le_refl _)
          have hf' := unhide hf
          rw [hd0] at hf'
          have hw := unhide hwh k l hf'
          have hsl : SmL l := smL_of hf'
          have hsu : SmU l := (filesR_text hf').2.2.1
          have hown : OwnF wr w.heap.size (.slice A' k c') l := by unfold OwnF; rw [unhide hlen]; exact unhide ho
          have HB := refBytes_any w.heap.size _ (.slice A' k c') l wr hown.fls (Nat.le_refl _) hsl hsu
          have hvb := fun W hW => unhide hcv W hW
          cases ht : tabB l with
          | false =>
            rw [if_neg (by rw [ht]; simp)] at hw
            obtain ⟨e1, e2⟩ := unhide hE hw
            rw [ht] at HB
            generalize bytesL l = bl at *
            replace HB := hide HB; replace e1 := hide e1; replace e2 := hide e2
            clear hw hsl hsu hown hf' hd0 ht hvb
            go_wp2_with (first
              | (go_at_call 11; refine (unhide HB).mono ?_; rintro e w8 ⟨A8, c8, rfl, o8, B8⟩; replace o8 := hide o8; replace B8 := hide B8)
              | fail)
            all_goals go_ret2
            all_goals exact ⟨none, 0, by rw [unhide e1, unhide e2]; rfl, by rw [unhide e1]; exact World.ownsRow_nil _ _ _ _, (unhide hB).trans ((unhide B8).mono (unhide hB).size)⟩
          | true =>
            rw [ht, bytes_t ht] at HB
            by_cases hq : tabT l = b
            · rw [if_pos ⟨ht, hq⟩] at hw
              obtain ⟨e1, e2⟩ := unhide hY l hw
              have hs1 : (tabT l == b) = true := by simpa using hq
              have hs2 : (tabT l != b) = false := by simpa using hq
              generalize tabT l = bl at *
              replace HB := hide HB; replace e1 := hide e1; replace e2 := hide e2; replace hvb := hide hvb
              clear hw hsl hsu hown hf' hd0 ht hq
              go_wp2_with (first
                | (go_at_call 11; refine (unhide HB).mono ?_; rintro e w8 ⟨A8, c8, rfl, o8, B8⟩
                   have m1 : (convert 27 9 (.slice A8 bl.length c8)).run Try.prog w8 = .ok (.string (bz bl)) w8 := Bs.convert (OwnB.bs (l := bl) o8)
                   have m2 := unhide hvb w8 ((unhide hB).trans (B8.mono (unhide hB).size))
                   have o9 := hide (own_below (unhide ho) B8 (Nat.le_refl _))
                   replace B8 := hide B8; clear o8)
                | fail)
              all_goals go_ret2
              all_goals refine ⟨A', c', ?_, ?_, (unhide hB).trans ((unhide B8).mono (unhide hB).size)⟩
              · rw [unhide e1, unhide hlen, unhide e2]; exact ret_te rfl rfl
              · rw [unhide e1, unhide hlen]; exact unhide o9
            · rw [if_neg (fun h => hq h.2)] at hw
              obtain ⟨e1, e2⟩ := unhide hE hw
              have hs1 : (tabT l == b) = false := by simpa using hq
              have hs2 : (tabT l != b) = true := by simpa using hq
              generalize tabT l = bl at *
              replace HB := hide HB; replace e1 := hide e1; replace e2 := hide e2; replace hvb := hide hvb
              clear hw hsl hsu hown hf' hd0 ht hq
              go_wp2_with (first
                | (go_at_call 11; refine (unhide HB).mono ?_; rintro e w8 ⟨A8, c8, rfl, o8, B8⟩
                   have m1 : (convert 27 9 (.slice A8 bl.length c8)).run Try.prog w8 = .ok (.string (bz bl)) w8 := Bs.convert (OwnB.bs (l := bl) o8)
                   have m2 := unhide hvb w8 ((unhide hB).trans (B8.mono (unhide hB).size))
                   replace B8 := hide B8; clear o8)
                | fail)
              all_goals go_ret2
              all_goals exact ⟨none, 0, by rw [unhide e1, unhide e2]; rfl, by rw [unhide e1]; exact World.ownsRow_nil _ _ _ _, (unhide hB).trans ((unhide B8).mono (unhide hB).size)⟩
end Go.Proofs.Ytnjepbehfioclaa
