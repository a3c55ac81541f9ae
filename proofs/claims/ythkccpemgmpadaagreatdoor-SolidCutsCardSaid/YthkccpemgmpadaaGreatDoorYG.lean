import Derived.Test.YthkccpemgmpadaaGreatDoorYD
import Derived.Test.YthkccpemgmpadaaGreatDoorU37
import Derived.LoopN
/- only Z -/
namespace Go.Proofs.YthkccpemgmpadaaGreatDoor
set_option maxRecDepth 100000
open Go.RowKit
theorem q8_inc (x : UInt8) : IntKind.u8.wrap (n8 x + 1) = n8 (x + 1) := by
  rw [IntKind.wrap_u8]
  unfold n8
  rw [UInt8.toNat_add]
  simp
theorem q8_inc' (x : UInt8) : (n8 x + 1) % 256 = n8 (x + 1) := by
  have := q8_inc x
  rwa [IntKind.wrap_u8] at this
theorem conv_u {lo hi : Nat} {w : World} {v : Value} {l : List UInt8} (h : Bs lo hi w v l) : (convert 29 9 v).run Tryz.prog w = .ok (.string (C.strU l)) w := C.Bs.convert (bs_C h)
theorem cuts_put {w W : World} {s : St} {base m c j : Nat} {A : Option Addr} {xs : List UInt8} (X : Fx w W [(w.heap.size, 24, stC s)] [] []) (o : W.ownsRow base 5 1 (.slice A m c) m (xs.map u8v)) (hb : w.heap.size < base) (hj : j < m) :
    ∃ g x, A = some ⟨g, 0, none⟩ ∧ g < W.heap.size ∧ W.cell? ⟨g, j, none⟩ = some (u8v x) ∧ W.frozen? ⟨g, j, none⟩ = false ∧ ∀ y, Fx w (W.setCell ⟨g, j, none⟩ (u8v y)) [(w.heap.size, 24, stC s)] [] [] ∧ (W.setCell ⟨g, j, none⟩ (u8v y)).ownsRow base 5 1 (.slice A m c) m ((xs.set j y).map u8v) := by
  have hm := own_nn o
  rcases o.2 with ⟨e, _⟩ | ⟨g, cap, cur, e, hbg, hg, _⟩
  · injection e with _ e _; omega
  · injection e with e1 _ _
    subst e1
    have hB : Blk W g 5 cur := hg
    refine ⟨g, xs[j]'(by omega), rfl, hB.lt, ?_, hB.frozen j, fun y => ⟨⟨X.bl.setCell (by show w.heap.size ≤ g; omega) _, fun p hp => ?_, fun _ hp => (nomatch hp), fun _ hp => (nomatch hp)⟩, ?_⟩⟩
    · have := World.ownsRow.cellAt (w := W) (base := base) (e := 5) (size := 1) (g := g) (n := m) (cap := c) (xs := xs.map u8v) o j (by omega)
      rw [this]
      simp [show j < xs.length by omega]
    · rw [List.mem_singleton.1 hp]
      exact (X.get 0 rfl).far (by show w.heap.size ≠ g; omega) _
    · rw [List.map_set]
      exact P.own_put o (u8v y)
theorem same_yes' (lo hi lo' hi' : Nat) (v1 v2 : Value) (a : List UInt8) (w : World) (h1 : Bs lo hi w v1 a) (h2 : Bs lo' hi' w v2 a) : Calls Tryz.prog 11 #[v1, v2] w fun e w' => e = .returned (.bool true) ∧ w = w' := by
  have := same_any lo hi lo' hi' v1 v2 a a w h1 h2
  rwa [decide_eq_true rfl] at this
theorem own_len' {w : World} {base m c : Nat} {A : Option Addr} {l : List UInt8} (h : OwnB w base (.slice A m c) l) : w.ownsRow base 5 1 (.slice A m c) m (l.map u8v) := by
  obtain ⟨A', c', e⟩ := h.form
  injection e with _ e2 _
  rw [e2] at h ⊢
  exact h
section
attribute [local go_sem] q8_inc q8_inc'
set_option maxHeartbeats 4000000 in
theorem cuts_gate0 (s : St) (v pv : Value) (b : List UInt8) (l : List Pc) (w : World) (ht : Tab w) (h : Bs 0 w.heap.size w v b) (hp : Pcs 0 w.heap.size w pv l) (_hok : ∀ p ∈ l, OkP p) (g1 : 200 < b.length) :
    Calls Tryz.prog 4 #[stV s, v, pv] w fun e w' => e = .returned (.bool true) ∧ Below w.heap.size w w' := by
  have hl := fun W (hb : Below w.heap.size w W) => live_any W (ht.below hb (Nat.le_refl _))
  obtain ⟨A, c, rfl⟩ := h.form
  obtain ⟨A', c', rfl, hpx⟩ := hp
  clear hpx
  have k1 : (200 : Int) < (b.length : Int) := by omega
  have X0 : Fx w (w.alloc (.cells (stC s) 24)) [(w.heap.size, 24, stC s)] [] [] := (Fx.nil w).newB w.heap.size rfl (stC s) 24
  generalize b.length = mb at *
  generalize l.length = ml at *
  replace X0 := hide X0; replace hl := hide hl
  clear h ht _hok g1
  go_enter Tryz.func4, Tryz.ntmps4
  go_upto_region 1 with (fail)
  generalize hW : World.alloc w _ = W at *
  clear hW
  go_wp2_with (first
    | (go_at_call 5; refine (unhide hl _ (unhide X0).bl).mono ?_; rintro e w1 ⟨rfl, hb1⟩
       have X1 : Fx w w1 [(w.heap.size, 24, stC s)] [] [] := (unhide X0).call hb1
       have lt1 : w.heap.size < w1.heap.size := (X1.get 0 rfl).lt
       replace X1 := hide X1
       clear hb1)
    | fail)
  go_ret
  exact ⟨rfl, (unhide X1).bl⟩
set_option maxHeartbeats 4000000 in
theorem cuts_gate1 (s : St) (v pv : Value) (b : List UInt8) (l : List Pc) (w : World) (ht : Tab w) (h : Bs 0 w.heap.size w v b) (hp : Pcs 0 w.heap.size w pv l) (_hok : ∀ p ∈ l, OkP p) (g1 : b.length ≤ 200) (g2 : 20 < l.length) :
    Calls Tryz.prog 4 #[stV s, v, pv] w fun e w' => e = .returned (.bool true) ∧ Below w.heap.size w w' := by
  have hl := fun W (hb : Below w.heap.size w W) => live_any W (ht.below hb (Nat.le_refl _))
  obtain ⟨A, c, rfl⟩ := h.form
  obtain ⟨A', c', rfl, hpx⟩ := hp
  clear hpx
  have k1 : ¬ (200 : Int) < (b.length : Int) := by omega
  have k2 : (20 : Int) < (l.length : Int) := by omega
  have X0 : Fx w (w.alloc (.cells (stC s) 24)) [(w.heap.size, 24, stC s)] [] [] := (Fx.nil w).newB w.heap.size rfl (stC s) 24
  generalize b.length = mb at *
  generalize l.length = ml at *
  replace X0 := hide X0; replace hl := hide hl
  clear h ht _hok g1 g2
  go_enter Tryz.func4, Tryz.ntmps4
  go_upto_region 1 with (fail)
  generalize hW : World.alloc w _ = W at *
  clear hW
  go_wp2_with (first
    | (go_at_call 5; refine (unhide hl _ (unhide X0).bl).mono ?_; rintro e w1 ⟨rfl, hb1⟩
       have X1 : Fx w w1 [(w.heap.size, 24, stC s)] [] [] := (unhide X0).call hb1
       have lt1 : w.heap.size < w1.heap.size := (X1.get 0 rfl).lt
       replace X1 := hide X1
       clear hb1)
    | fail)
  go_ret
  exact ⟨rfl, (unhide X1).bl⟩
set_option maxHeartbeats 4000000 in
theorem cuts_nil (s : St) (v pv : Value) (b : List UInt8) (l : List Pc) (w : World) (ht : Tab w) (h : Bs 0 w.heap.size w v b) (hp : Pcs 0 w.heap.size w pv l) (hok : ∀ p ∈ l, OkP p) (g1 : b.length ≤ 200) (A' : Option Addr) (c' : Nat) (hv : pv = .slice A' 0 c') (hl0 : l = []) :
    Calls Tryz.prog 4 #[stV s, v, pv] w fun e w' => e = .returned (.bool true) ∧ Below w.heap.size w w' := by
  have hl := fun W (hb : Below w.heap.size w W) => live_any W (ht.below hb (Nat.le_refl _))
  have g2 : l.length ≤ 20 := by rw [hl0]; simp
  have hT := fun W (hb : Below w.heap.size w W) => Test_any s v pv b l W (ht.below hb (Nat.le_refl _)) (h.to hb) (by omega) (hp.grow hb) hok (by omega)
  have hR := fun W (hb : Below w.heap.size w W) => rTest_any s v pv b l W (h.to hb) (by omega) (hp.grow hb) hok (by omega)
  have cv := fun W (hb : Below w.heap.size w W) => conv_u (h.to hb)
  generalize hSB : C.strU b = SB at *
  generalize testS s b l = tE at *
  have k1 : ¬ (200 : Int) < (b.length : Int) := by omega
  subst hv
  obtain ⟨A, c, rfl⟩ := h.form
  have X0 : Fx w (w.alloc (.cells (stC s) 24)) [(w.heap.size, 24, stC s)] [] [] := (Fx.nil w).newB w.heap.size rfl (stC s) 24
  generalize b.length = mb at *
  replace X0 := hide X0; replace hl := hide hl; replace hT := hide hT; replace hR := hide hR; replace cv := hide cv
  clear h ht hp hok g1 g2 hl0 hSB
  go_enter Tryz.func4, Tryz.ntmps4
  go_upto_region 1 with (fail)
  generalize hW : World.alloc w _ = W at *
  clear hW
  go_upto_region 4 with (first
    | (go_at_call 5; refine (unhide hl _ (unhide X0).bl).mono ?_; rintro e w1 ⟨rfl, hb1⟩
       have X1 : Fx w w1 [(w.heap.size, 24, stC s)] [] [] := (unhide X0).call hb1
       have lt1 : w.heap.size < w1.heap.size := (X1.get 0 rfl).lt
       replace X1 := hide X1
       clear hb1)
    | fail)
  have x1 : (convert 29 9 (.slice A mb c)).run Tryz.prog w1 = .ok (.string SB) w1 := unhide cv _ (unhide X1).bl
  go_wp2_with fail
  refine wp_loop_rounds 1 ?_
  rw [rounds_succ]
  go_upto_region 18 with (fail)
  have v0 : w1.cell? ⟨w.heap.size, 0, none⟩ = some (u32v s.a) := ((unhide X1).get 0 rfl).cell 0
  have v1 : w1.cell? ⟨w.heap.size, 1, none⟩ = some (u32v s.b) := ((unhide X1).get 0 rfl).cell 1
  have v2 : w1.cell? ⟨w.heap.size, 2, none⟩ = some (u32v s.c) := ((unhide X1).get 0 rfl).cell 2
  have v3 : w1.cell? ⟨w.heap.size, 3, none⟩ = some (u32v s.d) := ((unhide X1).get 0 rfl).cell 3
  have z0 : (convert 29 9 (.slice A mb c)).run Tryz.prog w1.drew = .ok (.string SB) w1.drew := unhide cv _ (unhide X1).drew.bl
  have lz := ((unhide X1).get 0 rfl).lt
  go_region_held3 (fun W => W.cell? ⟨w.heap.size, 0, none⟩ = some (u32v s.a) ∧ W.cell? ⟨w.heap.size, 1, none⟩ = some (u32v s.b) ∧ W.cell? ⟨w.heap.size, 2, none⟩ = some (u32v s.c) ∧ W.cell? ⟨w.heap.size, 3, none⟩ = some (u32v s.d) ∧ (convert 29 9 (.slice A mb c)).run Tryz.prog W = .ok (.string SB) W) (first | exact ⟨by go_simp, by go_simp, by go_simp, by go_simp, z0⟩ | exact ⟨by with_reducible assumption, by with_reducible assumption, by with_reducible assumption, by with_reducible assumption, by with_reducible assumption⟩) (first
    | (go_at_call 17; refine (unhide hT _ ((unhide X1).drew).bl).mono ?_; rintro e y1 ⟨rfl, hb⟩
       have Y1 : Fx w y1 [(w.heap.size, 24, stC s)] [] [] := ((unhide X1).drew).call hb
       have a0 : y1.cell? ⟨w.heap.size, 0, none⟩ = some (u32v s.a) := (Y1.get 0 rfl).cell 0
       have a1 : y1.cell? ⟨w.heap.size, 1, none⟩ = some (u32v s.b) := (Y1.get 0 rfl).cell 1
       have a2 : y1.cell? ⟨w.heap.size, 2, none⟩ = some (u32v s.c) := (Y1.get 0 rfl).cell 2
       have a3 : y1.cell? ⟨w.heap.size, 3, none⟩ = some (u32v s.d) := (Y1.get 0 rfl).cell 3
       have z1 : (convert 29 9 (.slice A mb c)).run Tryz.prog y1 = .ok (.string SB) y1 := unhide cv _ Y1.bl
       replace Y1 := hide Y1; clear hb)
    | (go_at_call 18; refine (unhide hR _ (unhide Y1).bl).mono ?_; rintro e y2 ⟨rfl, hb⟩
       have Y2 : Fx w y2 [(w.heap.size, 24, stC s)] [] [] := (unhide Y1).call hb
       have b0 : y2.cell? ⟨w.heap.size, 0, none⟩ = some (u32v s.a) := (Y2.get 0 rfl).cell 0
       have b1 : y2.cell? ⟨w.heap.size, 1, none⟩ = some (u32v s.b) := (Y2.get 0 rfl).cell 1
       have b2 : y2.cell? ⟨w.heap.size, 2, none⟩ = some (u32v s.c) := (Y2.get 0 rfl).cell 2
       have b3 : y2.cell? ⟨w.heap.size, 3, none⟩ = some (u32v s.d) := (Y2.get 0 rfl).cell 3
       have z2 : (convert 29 9 (.slice A mb c)).run Tryz.prog y2 = .ok (.string SB) y2 := unhide cv _ Y2.bl
       replace Y2 := hide Y2; clear hb)
    | fail)
  all_goals go_wp2_with (fail)
  all_goals go_ret
  all_goals exact ⟨rfl, (unhide Y2).bl⟩
set_option maxHeartbeats 4000000 in
theorem cuts_main (s : St) (v pv : Value) (b : List UInt8) (l : List Pc) (w : World) (ht : Tab w) (h : Bs 0 w.heap.size w v b) (hp : Pcs 0 w.heap.size w pv l) (hok : ∀ p ∈ l, OkP p) (g1 : b.length ≤ 200) (g2 : l.length ≤ 20) (bk off c' : Nat) (hv : pv = .slice (some ⟨bk, off, none⟩) l.length c') (hbk : bk < w.heap.size) (hcl : ∀ k (hk : k < l.length), w.cell? ⟨bk, off + k * 3, none⟩ = some (.int .i64 l[k].at_) ∧ w.cell? ⟨bk, off + k * 3 + 1, none⟩ = some (.int .i64 l[k].len) ∧ w.cell? ⟨bk, off + k * 3 + 2, none⟩ = some (u32v l[k].sum)) :
    Calls Tryz.prog 4 #[stV s, v, pv] w fun e w' => e = .returned (.bool true) ∧ Below w.heap.size w w' := by
  have hl := fun W (hb : Below w.heap.size w W) => live_any W (ht.below hb (Nat.le_refl _))
  have hC := fun k (hk : k < l.length) W (hb : Below w.heap.size w W) => Cut_any v b l[k] W (h.to hb) (hok _ (List.getElem_mem hk)) (by omega)
  have hD := fun k (hk : k < l.length) W (hb : Below w.heap.size w W) => rCut_any v b l[k] W (h.to hb) (hok _ (List.getElem_mem hk)) (by omega)
  have hfl := fun k (hk : k < l.length) => find_len b l[k]
  have hT := fun W (hb : Below w.heap.size w W) => Test_any s v pv b l W (ht.below hb (Nat.le_refl _)) (h.to hb) (by omega) (hp.grow hb) hok (by omega)
  have hR := fun W (hb : Below w.heap.size w W) => rTest_any s v pv b l W (h.to hb) (by omega) (hp.grow hb) hok (by omega)
  have cv := fun W (hb : Below w.heap.size w W) => conv_u (h.to hb)
  generalize hSB : C.strU b = SB at *
  generalize testS s b l = tE at *
  have k1 : ¬ (200 : Int) < (b.length : Int) := by omega
  subst hv
  obtain ⟨A, c, rfl⟩ := h.form
  obtain ⟨ml, hml⟩ : ∃ ml, l.length = ml := ⟨_, rfl⟩
  rw [hml] at g2 hT hR ⊢
  have k2 : ¬ (20 : Int) < (ml : Int) := by omega
  have X0 : Fx w (w.alloc (.cells (stC s) 24)) [(w.heap.size, 24, stC s)] [] [] := (Fx.nil w).newB w.heap.size rfl (stC s) 24
  generalize b.length = mb at *
  replace X0 := hide X0; replace hl := hide hl; replace hT := hide hT; replace hR := hide hR; replace cv := hide cv; replace hC := hide hC; replace hD := hide hD; replace hcl := hide hcl; replace hbk := hide hbk; replace hml := hide hml; replace hfl := hide hfl
  clear h ht hp hok hSB
  go_enter Tryz.func4, Tryz.ntmps4
  go_upto_region 1 with (fail)
  generalize hW : World.alloc w _ = W at *
  clear hW
  go_upto_region 4 with (first
    | (go_at_call 5; refine (unhide hl _ (unhide X0).bl).mono ?_; rintro e w1 ⟨rfl, hb1⟩
       have X1 : Fx w w1 [(w.heap.size, 24, stC s)] [] [] := (unhide X0).call hb1
       have lt1 : w.heap.size < w1.heap.size := (X1.get 0 rfl).lt
       replace X1 := hide X1
       clear hb1)
    | fail)
  have x1 : (convert 29 9 (.slice A mb c)).run Tryz.prog w1 = .ok (.string SB) w1 := unhide cv _ (unhide X1).bl
  go_wp2_with fail
  clear x1 X0 hl
  go_loopw [30] (fun s30 wr => ∃ k : Nat, k ≤ ml ∧ s30 = .int .i64 k ∧ Hid (Fx w wr [(w.heap.size, 24, stC s)] [] [])) (fun i _ => ml - (intOf i).toNat)
  case atStart => exact ⟨0, by omega, rfl, X1⟩
  case round =>
    obtain ⟨k, hk, rfl, X3⟩ := hrel
    by_cases hlt : k < ml
    · have hlt' : k < l.length := by rw [unhide hml]; exact hlt
      obtain ⟨p0, p1, p2⟩ := unhide hcl k hlt'
      have bb := (unhide X3).bl
      have q0 : wr.cell? ⟨bk, off + k * 3, none⟩ = some (.int .i64 l[k].at_) := (bb.cell (p := ⟨bk, off + k * 3, none⟩) (unhide hbk)).trans p0
      have q1 : wr.cell? ⟨bk, off + k * 3 + 1, none⟩ = some (.int .i64 l[k].len) := (bb.cell (p := ⟨bk, off + k * 3 + 1, none⟩) (unhide hbk)).trans p1
      have q2 : wr.cell? ⟨bk, off + k * 3 + 2, none⟩ = some (u32v l[k].sum) := (bb.cell (p := ⟨bk, off + k * 3 + 2, none⟩) (unhide hbk)).trans p2
      have hbl : bk < wr.heap.size := Nat.lt_of_lt_of_le (unhide hbk) bb.size
      have lw : w.heap.size < wr.heap.size := ((unhide X3).get 0 rfl).lt
      have hc := unhide hC k hlt'
      have hd := unhide hD k hlt'
      have hm := unhide hfl k hlt'
      unfold Ans pcV at hc hd
      simp only [] at hc hd
      clear p0 p1 p2 bb
      generalize findE b l[k] = er at *
      generalize findT b l[k] = F at *
      generalize l[k].at_ = a at *; generalize l[k].len = d at *; generalize l[k].sum = Sm at *
      generalize F.length = mf at *
      have mf2 : mf ≤ 200 := by omega
      replace hc := hide hc; replace hd := hide hd
      clear hm
      go_wp2_with (first
        | (go_at_call 15; refine (unhide hc _ ((unhide X3).alloc _).bl).mono ?_; rintro e w4 ⟨A4, c4, rfl, o4, hb4⟩
           have B4 : Blk w4 wr.heap.size 44 #[.int .i64 a, .int .i64 d, u32v Sm] := Blk.call (V := wr.alloc (.cells #[.int .i64 a, .int .i64 d, u32v Sm] 44)) (Blk.new rfl) hb4
           have X4 := ((unhide X3).alloc (.cells #[.int .i64 a, .int .i64 d, u32v Sm] 44)).call hb4
           have e0 : w4.cell? ⟨wr.heap.size, 0, none⟩ = some (.int .i64 a) := B4.cell 0
           have e1 : w4.cell? ⟨wr.heap.size, 1, none⟩ = some (.int .i64 d) := B4.cell 1
           have e2 : w4.cell? ⟨wr.heap.size, 2, none⟩ = some (u32v Sm) := B4.cell 2
           have le4 : wr.heap.size < w4.heap.size := B4.lt
           have o4' := hide (ownsRow_mono (base' := w.heap.size + 1) o4 (by simp; omega))
           replace X4 := hide X4
           clear o4 hb4 B4)
        | (go_at_call 16; refine (unhide hd _ (unhide X4).bl).mono ?_; rintro e w5 ⟨A5, c5, rfl, o5, hb5⟩
           have X5 := hide ((unhide X4).call hb5)
           have o45 := hide (own_below (unhide o4') hb5 (Nat.le_refl _))
           have y5 := hide (Bs.of_own0 o5)
           clear o5 hb5)
        | (go_at_call 11; refine (same_yes' _ _ _ _ _ _ _ _ (Bs.of_own0 (unhide o45)) (unhide y5)).mono ?_; rintro e wz ⟨rfl, rfl⟩)
        | fail)
      have o6 : w5.ownsRow (w.heap.size + 1) 5 1 (.slice A4 mf c4) mf (F.map u8v) := own_len' (unhide o45)
      replace o6 := hide o6
      clear hc hd q0 q1 q2 e0 e1 e2 o45 o4' y5 X4
      go_loopw [15, 57] (fun s15 s57 ws => ∃ (j : Nat) (xs : List UInt8), j ≤ mf ∧ s57 = .int .i64 j ∧ Hid (Fx w ws [(w.heap.size, 24, stC s)] [] []) ∧ Hid (ws.ownsRow (w.heap.size + 1) 5 1 (.slice A4 mf c4) mf (xs.map u8v))) (fun _ i _ => mf - (intOf i).toNat)
      case atStart => exact ⟨0, F, by omega, rfl, X5, o6⟩
      case round =>
        obtain ⟨j, xs, hj, rfl, X6, o7⟩ := hrel
        by_cases hlt2 : j < mf
        · obtain ⟨g, x, hA, hg, hcx, hfx, hput⟩ := cuts_put (unhide X6) (unhide o7) (by omega) hlt2
          subst hA
          obtain ⟨P1, P2⟩ := hput (x + 1)
          replace P1 := hide P1; replace P2 := hide P2
          clear hput
          go_wp2_with fail
          go_roundw
          case rel => exact ⟨j + 1, xs.set j (x + 1), by omega, by go_num, P1, P2⟩
          case measure => simp [intOf]; omega
        · obtain rfl : j = mf := by omega
          go_wp2_with fail
          go_roundw
          case rel => exact ⟨k + 1, by omega, by go_num, X6⟩
          case measure => simp [intOf]; omega
    · obtain rfl : k = ml := by omega
      go_upto_region 18 with (fail)
      have v0 : wr.cell? ⟨w.heap.size, 0, none⟩ = some (u32v s.a) := ((unhide X3).get 0 rfl).cell 0
      have v1 : wr.cell? ⟨w.heap.size, 1, none⟩ = some (u32v s.b) := ((unhide X3).get 0 rfl).cell 1
      have v2 : wr.cell? ⟨w.heap.size, 2, none⟩ = some (u32v s.c) := ((unhide X3).get 0 rfl).cell 2
      have v3 : wr.cell? ⟨w.heap.size, 3, none⟩ = some (u32v s.d) := ((unhide X3).get 0 rfl).cell 3
      have z0 : (convert 29 9 (.slice A mb c)).run Tryz.prog wr.drew = .ok (.string SB) wr.drew := unhide cv _ (unhide X3).drew.bl
      have lz := ((unhide X3).get 0 rfl).lt
      go_region_held3 (fun W => W.cell? ⟨w.heap.size, 0, none⟩ = some (u32v s.a) ∧ W.cell? ⟨w.heap.size, 1, none⟩ = some (u32v s.b) ∧ W.cell? ⟨w.heap.size, 2, none⟩ = some (u32v s.c) ∧ W.cell? ⟨w.heap.size, 3, none⟩ = some (u32v s.d) ∧ (convert 29 9 (.slice A mb c)).run Tryz.prog W = .ok (.string SB) W) (first | exact ⟨by go_simp, by go_simp, by go_simp, by go_simp, z0⟩ | exact ⟨by with_reducible assumption, by with_reducible assumption, by with_reducible assumption, by with_reducible assumption, by with_reducible assumption⟩) (first
        | (go_at_call 17; refine (unhide hT _ ((unhide X3).drew).bl).mono ?_; rintro e y1 ⟨rfl, hb⟩
           have Y1 : Fx w y1 [(w.heap.size, 24, stC s)] [] [] := ((unhide X3).drew).call hb
           have a0 : y1.cell? ⟨w.heap.size, 0, none⟩ = some (u32v s.a) := (Y1.get 0 rfl).cell 0
           have a1 : y1.cell? ⟨w.heap.size, 1, none⟩ = some (u32v s.b) := (Y1.get 0 rfl).cell 1
           have a2 : y1.cell? ⟨w.heap.size, 2, none⟩ = some (u32v s.c) := (Y1.get 0 rfl).cell 2
           have a3 : y1.cell? ⟨w.heap.size, 3, none⟩ = some (u32v s.d) := (Y1.get 0 rfl).cell 3
           have z1 : (convert 29 9 (.slice A mb c)).run Tryz.prog y1 = .ok (.string SB) y1 := unhide cv _ Y1.bl
           replace Y1 := hide Y1; clear hb)
        | (go_at_call 18; refine (unhide hR _ (unhide Y1).bl).mono ?_; rintro e y2 ⟨rfl, hb⟩
           have Y2 : Fx w y2 [(w.heap.size, 24, stC s)] [] [] := (unhide Y1).call hb
           have b0 : y2.cell? ⟨w.heap.size, 0, none⟩ = some (u32v s.a) := (Y2.get 0 rfl).cell 0
           have b1 : y2.cell? ⟨w.heap.size, 1, none⟩ = some (u32v s.b) := (Y2.get 0 rfl).cell 1
           have b2 : y2.cell? ⟨w.heap.size, 2, none⟩ = some (u32v s.c) := (Y2.get 0 rfl).cell 2
           have b3 : y2.cell? ⟨w.heap.size, 3, none⟩ = some (u32v s.d) := (Y2.get 0 rfl).cell 3
           have z2 : (convert 29 9 (.slice A mb c)).run Tryz.prog y2 = .ok (.string SB) y2 := unhide cv _ Y2.bl
           replace Y2 := hide Y2; clear hb)
        | fail)
      all_goals go_wp2_with (fail)
      all_goals go_ret
      all_goals exact ⟨rfl, (unhide Y2).bl⟩
theorem cuts_law (s : St) (v pv : Value) (b : List UInt8) (l : List Pc) (w : World) (ht : Tab w) (h : Bs 0 w.heap.size w v b) (hp : Pcs 0 w.heap.size w pv l) (hok : ∀ p ∈ l, OkP p) :
    Calls Tryz.prog 4 #[stV s, v, pv] w fun e w' => e = .returned (.bool true) ∧ Below w.heap.size w w' := by
  by_cases g1 : 200 < b.length
  · exact cuts_gate0 s v pv b l w ht h hp hok g1
  · by_cases g2 : 20 < l.length
    · exact cuts_gate1 s v pv b l w ht h hp hok (by omega) g2
    · rcases hp.parts with ⟨hl, A, c, hv⟩ | ⟨bk, off, c, hv, hbk, hcl⟩
      · exact cuts_nil s v pv b l w ht h hp hok (by omega) A c hv hl
      · exact cuts_main s v pv b l w ht h hp hok (by omega) (by omega) bk off c hv hbk hcl
end
end Go.Proofs.YthkccpemgmpadaaGreatDoor
