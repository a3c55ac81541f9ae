import Derived.Test.YtlgahaidnpgnaaaDoorN11
namespace Go.Proofs.YtlgahaidnpgnaaaDoor
open Go.RowKit

theorem wrap_add1 (x : Nx) : IntKind.u64.wrap (n64 x + 1) = n64 (x + 1#64) := by rw [IntKind.wrap_u64]; exact q_add1 x
/-- A box and a ring are written. -/
theorem two_put {w0 V : World} {g1 g2 base : Nat} {v : Value} {l : List UInt8} {a0 a1 a2 a3 a4 a5 b0 b1 b2 b3 b4 x0 x1 x2 x3 x4 x5 y0 y1 y2 y3 y4 : Value} (h1 : Blk V g1 30 #[a0, a1, a2, a3, a4, a5]) (h2 : Blk V g2 27 #[b0, b1, b2, b3, b4]) (hne : g1 ≠ g2) (ho : OwnB V base v l) (hb : Below w0.heap.size w0 V) (hg1 : w0.heap.size ≤ g1) (hg2 : w0.heap.size ≤ g2) :
    let V' := (((((((((((V.setCell ⟨g1, 0, none⟩ x0).setCell ⟨g1, 1, none⟩ x1).setCell ⟨g1, 2, none⟩ x2).setCell ⟨g1, 3, none⟩ x3).setCell ⟨g1, 4, none⟩ x4).setCell ⟨g1, 5, none⟩ x5).setCell ⟨g2, 0, none⟩ y0).setCell ⟨g2, 1, none⟩ y1).setCell ⟨g2, 2, none⟩ y2).setCell ⟨g2, 3, none⟩ y3).setCell ⟨g2, 4, none⟩ y4).drew
    Blk V' g1 30 #[x0, x1, x2, x3, x4, x5] ∧ Blk V' g2 27 #[y0, y1, y2, y3, y4] ∧ OwnB V' base v l ∧ Below w0.heap.size w0 V' := by
  have A6 : Blk ((((((V.setCell ⟨g1, 0, none⟩ x0).setCell ⟨g1, 1, none⟩ x1).setCell ⟨g1, 2, none⟩ x2).setCell ⟨g1, 3, none⟩ x3).setCell ⟨g1, 4, none⟩ x4).setCell ⟨g1, 5, none⟩ x5) g1 30 #[x0, x1, x2, x3, x4, x5] := by
    simpa using (((((h1.set 0 x0).set 1 x1).set 2 x2).set 3 x3).set 4 x4).set 5 x5
  have B6 : Blk ((((((V.setCell ⟨g1, 0, none⟩ x0).setCell ⟨g1, 1, none⟩ x1).setCell ⟨g1, 2, none⟩ x2).setCell ⟨g1, 3, none⟩ x3).setCell ⟨g1, 4, none⟩ x4).setCell ⟨g1, 5, none⟩ x5) g2 27 #[b0, b1, b2, b3, b4] :=
    (((((h2.far (p := ⟨g1, 0, none⟩) (Ne.symm hne) x0).far (p := ⟨g1, 1, none⟩) (Ne.symm hne) x1).far (p := ⟨g1, 2, none⟩) (Ne.symm hne) x2).far (p := ⟨g1, 3, none⟩) (Ne.symm hne) x3).far (p := ⟨g1, 4, none⟩) (Ne.symm hne) x4).far (p := ⟨g1, 5, none⟩) (Ne.symm hne) x5
  have O6 : OwnB ((((((V.setCell ⟨g1, 0, none⟩ x0).setCell ⟨g1, 1, none⟩ x1).setCell ⟨g1, 2, none⟩ x2).setCell ⟨g1, 3, none⟩ x3).setCell ⟨g1, 4, none⟩ x4).setCell ⟨g1, 5, none⟩ x5) base v l :=
    own_far (own_far (own_far (own_far (own_far (own_far ho h1 (by decide) 0 x0) (h1.set 0 x0) (by decide) 1 x1) ((h1.set 0 x0).set 1 x1) (by decide) 2 x2) (((h1.set 0 x0).set 1 x1).set 2 x2) (by decide) 3 x3) ((((h1.set 0 x0).set 1 x1).set 2 x2).set 3 x3) (by decide) 4 x4) (((((h1.set 0 x0).set 1 x1).set 2 x2).set 3 x3).set 4 x4) (by decide) 5 x5
  have L6 : Below w0.heap.size w0 ((((((V.setCell ⟨g1, 0, none⟩ x0).setCell ⟨g1, 1, none⟩ x1).setCell ⟨g1, 2, none⟩ x2).setCell ⟨g1, 3, none⟩ x3).setCell ⟨g1, 4, none⟩ x4).setCell ⟨g1, 5, none⟩ x5) := (((((hb.setCell (p := ⟨g1, 0, none⟩) hg1 x0).setCell (p := ⟨g1, 1, none⟩) hg1 x1).setCell (p := ⟨g1, 2, none⟩) hg1 x2).setCell (p := ⟨g1, 3, none⟩) hg1 x3).setCell (p := ⟨g1, 4, none⟩) hg1 x4).setCell (p := ⟨g1, 5, none⟩) hg1 x5
  intro V'
  refine ⟨?_, ?_, ?_, ?_⟩
  · exact (((((A6.far (p := ⟨g2, 0, none⟩) hne y0).far (p := ⟨g2, 1, none⟩) hne y1).far (p := ⟨g2, 2, none⟩) hne y2).far (p := ⟨g2, 3, none⟩) hne y3).far (p := ⟨g2, 4, none⟩) hne y4).drew
  · have := ((((B6.set 0 y0).set 1 y1).set 2 y2).set 3 y3).set 4 y4
    simp only [List.setIfInBounds_toArray] at this
    exact this.drew
  · exact own_drew (own_far (own_far (own_far (own_far (own_far O6 B6 (by decide) 0 y0) (B6.set 0 y0) (by decide) 1 y1) ((B6.set 0 y0).set 1 y1) (by decide) 2 y2) (((B6.set 0 y0).set 1 y1).set 2 y2) (by decide) 3 y3) ((((B6.set 0 y0).set 1 y1).set 2 y2).set 3 y3) (by decide) 4 y4)
  · exact Below.drew (((((L6.setCell (p := ⟨g2, 0, none⟩) hg2 y0).setCell (p := ⟨g2, 1, none⟩) hg2 y1).setCell (p := ⟨g2, 2, none⟩) hg2 y2).setCell (p := ⟨g2, 3, none⟩) hg2 y3).setCell (p := ⟨g2, 4, none⟩) hg2 y4)
/-- A cell of the first block is written. -/
theorem Fx.put0 {w0 V : World} {g : Nat} {t : TypeId} {cs : Array Value} {L : List (Nat × TypeId × Array Value)} {R : List (Nat × Value × List UInt8)} (h : Fx w0 V ((g, t, cs) :: L) R []) (hg : w0.heap.size ≤ g) (ht : 5 ≠ t) (hL : ∀ p ∈ L, p.1 ≠ g) (k : Nat) (u : Value) :
    Fx w0 (V.setCell ⟨g, k, none⟩ u) ((g, t, cs.setIfInBounds k u) :: L) R [] :=
  ⟨h.bl.setCell hg u, fun p hp => by
    rcases List.mem_cons.1 hp with rfl | hp
    · exact (h.blk (g, t, cs) (List.mem_cons_self ..)).set k u
    · exact (h.blk p (List.mem_cons_of_mem _ hp)).far (p := ⟨g, k, none⟩) (hL p hp) u,
   fun p hp => ⟨own_far (h.row p hp).1 (h.blk (g, t, cs) (List.mem_cons_self ..)) ht k u, by simp; exact (h.row p hp).2⟩, fun _ hp => (nomatch hp)⟩
section
attribute [local go_sem] q_add1 wrap_add1
set_option maxHeartbeats 4000000 in
theorem Seal_good (s : St) (n : Nx) (v : Value) (l : List UInt8) (w : World) (ht : Tab w) (h : Bs 0 w.heap.size w v l) (hl : l.length ≤ 65536) (hn : n ≠ 18446744073709551615#64) :
    Calls Tryd.prog 10 #[rgV s n, v] w fun e w' => ∃ A c, e = .returned (.tuple #[bxV n (.slice A l.length c) (tagF s n (hidF s n l)), rgV s (n + 1#64), .int .i64 0]) ∧ OwnB w' w.heap.size (.slice A l.length c) (hidF s n l) ∧ Below w.heap.size w w' := by
  have hlen := hid_len s n l
  have hT := fun W (hb : Below w.heap.size w W) => turned_any s n v l W (ht.below hb (Nat.le_refl _)) (h.to hb) hl
  have hG := fun v' W (hb : Below w.heap.size w W) (h' : Bs 0 W.heap.size W v' (hidF s n l)) => Tag_good s n v' (hidF s n l) W (ht.below hb (Nat.le_refl _)) h' (by omega)
  obtain ⟨A, c, rfl⟩ := h.form
  generalize hidF s n l = H at *
  generalize tagF s n H = T at *
  obtain ⟨m, hm⟩ : ∃ m, m = l.length := ⟨_, rfl⟩
  rw [← hm] at hlen hl hT ⊢
  have h1 : ¬ (65536 : Int) < (m : Int) := by omega
  have hf := full_ne hn
  have X0 : Fx w (((w.alloc (.cells (rgC s n) 27)).alloc (.cells zBx 30)).alloc (.cells zRg 27)) [(w.heap.size, 27, rgC s n), (w.heap.size + 1, 30, zBx), (w.heap.size + 1 + 1, 27, zRg)] [] [] := (((Fx.nil w).newB w.heap.size rfl (rgC s n) 27).newB (w.heap.size + 1) (by simp) zBx 30).newB (w.heap.size + 1 + 1) (by simp) zRg 27
  replace X0 := hide X0; replace hT := hide hT; replace hG := hide hG; replace hlen := hide hlen
  clear h hl hn ht hm
  go_enter Tryd.func10, Tryd.ntmps10
  go_upto_region 1 with (fail)
  generalize hW : World.alloc (World.alloc (World.alloc w _) _) _ = W at *
  clear hW
  have c0 : W.cell? ⟨w.heap.size, 0, none⟩ = some (u32v s.a) := ((unhide X0).get 0 rfl).cell 0
  have c1 : W.cell? ⟨w.heap.size, 1, none⟩ = some (u32v s.b) := ((unhide X0).get 0 rfl).cell 1
  have c2 : W.cell? ⟨w.heap.size, 2, none⟩ = some (u32v s.c) := ((unhide X0).get 0 rfl).cell 2
  have c3 : W.cell? ⟨w.heap.size, 3, none⟩ = some (u32v s.d) := ((unhide X0).get 0 rfl).cell 3
  have c4 : W.cell? ⟨w.heap.size, 4, none⟩ = some (u64v n) := ((unhide X0).get 0 rfl).cell 4
  go_upto_region 11 with (first
    | (go_at_call 25; refine (unhide hT _ (unhide X0).bl).mono ?_; rintro e w2 ⟨A2, c2', rfl, o2, hb2⟩
       have X2 : Fx w w2 [(w.heap.size, 27, rgC s n), (w.heap.size + 1, 30, zBx), (w.heap.size + 1 + 1, 27, zRg)] [(w.heap.size, .slice A2 m c2', H)] [] := Fx.addR ((unhide X0).call hb2) (ownsRow_mono o2 (unhide X0).bl.size) ((unhide X0).call hb2).bl.size
       have d0 : w2.cell? ⟨w.heap.size, 0, none⟩ = some (u32v s.a) := (X2.get 0 rfl).cell 0
       have d1 : w2.cell? ⟨w.heap.size, 1, none⟩ = some (u32v s.b) := (X2.get 0 rfl).cell 1
       have d2 : w2.cell? ⟨w.heap.size, 2, none⟩ = some (u32v s.c) := (X2.get 0 rfl).cell 2
       have d3 : w2.cell? ⟨w.heap.size, 3, none⟩ = some (u32v s.d) := (X2.get 0 rfl).cell 3
       have d4 : w2.cell? ⟨w.heap.size, 4, none⟩ = some (u64v n) := (X2.get 0 rfl).cell 4
       replace X2 := hide X2
       clear o2 hb2)
    | (go_at_call 20; refine (unhide hG _ _ (unhide X2).bl (Bs.of_own0 ((unhide X2).own 0 rfl))).mono ?_; rintro e w3 ⟨rfl, hb3⟩
       have l3 : w.heap.size + 1 + 1 < w3.heap.size := (((unhide X2).call hb3).get 2 rfl).lt
       have X3 : Fx w (w3.alloc (.cells (stC T) 24)) [(w.heap.size, 27, rgC s n), (w.heap.size + 1, 30, zBx), (w.heap.size + 1 + 1, 27, zRg), (w3.heap.size, 24, stC T)] [(w.heap.size, .slice A2 m c2', H)] [] := ((unhide X2).call hb3).newB w3.heap.size rfl (stC T) 24
       replace X3 := hide X3
       clear hb3)
    | fail)
  clear d0 d1 d2 d3 d4 c0 c1 c2 c3 c4
  generalize w3.heap.size = g9 at *
  generalize World.alloc w3 _ = w4 at *
  have d0 : w4.cell? ⟨w.heap.size, 0, none⟩ = some (u32v s.a) := ((unhide X3).get 0 rfl).cell 0
  have d1 : w4.cell? ⟨w.heap.size, 1, none⟩ = some (u32v s.b) := ((unhide X3).get 0 rfl).cell 1
  have d2 : w4.cell? ⟨w.heap.size, 2, none⟩ = some (u32v s.c) := ((unhide X3).get 0 rfl).cell 2
  have d3 : w4.cell? ⟨w.heap.size, 3, none⟩ = some (u32v s.d) := ((unhide X3).get 0 rfl).cell 3
  have d4 : w4.cell? ⟨w.heap.size, 4, none⟩ = some (u64v n) := ((unhide X3).get 0 rfl).cell 4
  have e4 : w4.frozen? ⟨w.heap.size, 4, none⟩ = false := ((unhide X3).get 0 rfl).frozen 4
  have t0 : w4.cell? ⟨g9, 0, none⟩ = some (u32v T.a) := ((unhide X3).get 3 rfl).cell 0
  have t1 : w4.cell? ⟨g9, 1, none⟩ = some (u32v T.b) := ((unhide X3).get 3 rfl).cell 1
  have t2 : w4.cell? ⟨g9, 2, none⟩ = some (u32v T.c) := ((unhide X3).get 3 rfl).cell 2
  have t3 : w4.cell? ⟨g9, 3, none⟩ = some (u32v T.d) := ((unhide X3).get 3 rfl).cell 3
  have k0 : w.heap.size < w4.heap.size := ((unhide X3).get 0 rfl).lt
  have k9 : g9 < w4.heap.size := ((unhide X3).get 3 rfl).lt
  go_upto_region 13 with (fail)
  have hg9 : w.heap.size + 1 + 1 < g9 := by omega
  have X4 := Fx.put0 (unhide X3) (Nat.le_refl _) (by decide) (by simp; omega) 4 (u64v (n + 1#64))
  have X5 : Fx w _ [(w.heap.size, 27, rgC s (n + 1#64)), (w.heap.size + 1, 30, zBx), (w.heap.size + 1 + 1, 27, zRg), (g9, 24, stC T), (w4.heap.size, 30, bxC n (.slice A2 m c2') T)] [(w.heap.size, .slice A2 m c2', H)] [] := X4.newB w4.heap.size (by simp) (bxC n (.slice A2 m c2') T) 30
  replace X5 := hide X5
  clear X4 X3 d0 d1 d2 d3 d4 e4 t0 t1 t2 t3
  obtain ⟨g10, hg10⟩ : ∃ g10, g10 = w4.heap.size := ⟨_, rfl⟩
  rw [← hg10] at X5 k9 k0 ⊢
  clear hg10
  generalize World.alloc (World.setCell w4 _ _) _ = V at *
  have b0 : V.cell? ⟨g10, 0, none⟩ = some (u64v n) := ((unhide X5).get 4 rfl).cell 0
  have b1 : V.cell? ⟨g10, 1, none⟩ = some (.slice A2 m c2') := ((unhide X5).get 4 rfl).cell 1
  have b2 : V.cell? ⟨g10, 2, none⟩ = some (u32v T.a) := ((unhide X5).get 4 rfl).cell 2
  have b3 : V.cell? ⟨g10, 3, none⟩ = some (u32v T.b) := ((unhide X5).get 4 rfl).cell 3
  have b4 : V.cell? ⟨g10, 4, none⟩ = some (u32v T.c) := ((unhide X5).get 4 rfl).cell 4
  have b5 : V.cell? ⟨g10, 5, none⟩ = some (u32v T.d) := ((unhide X5).get 4 rfl).cell 5
  have r0 : V.cell? ⟨w.heap.size, 0, none⟩ = some (u32v s.a) := ((unhide X5).get 0 rfl).cell 0
  have r1 : V.cell? ⟨w.heap.size, 1, none⟩ = some (u32v s.b) := ((unhide X5).get 0 rfl).cell 1
  have r2 : V.cell? ⟨w.heap.size, 2, none⟩ = some (u32v s.c) := ((unhide X5).get 0 rfl).cell 2
  have r3 : V.cell? ⟨w.heap.size, 3, none⟩ = some (u32v s.d) := ((unhide X5).get 0 rfl).cell 3
  have r4 : V.cell? ⟨w.heap.size, 4, none⟩ = some (u64v (n + 1#64)) := ((unhide X5).get 0 rfl).cell 4
  have p0 : V.cell? ⟨w.heap.size + 1, 0, none⟩ = some (.int .u64 0) := ((unhide X5).get 1 rfl).cell 0
  have p1 : V.cell? ⟨w.heap.size + 1, 1, none⟩ = some (.slice none 0 0) := ((unhide X5).get 1 rfl).cell 1
  have p2 : V.cell? ⟨w.heap.size + 1, 2, none⟩ = some (.int .u32 0) := ((unhide X5).get 1 rfl).cell 2
  have p3 : V.cell? ⟨w.heap.size + 1, 3, none⟩ = some (.int .u32 0) := ((unhide X5).get 1 rfl).cell 3
  have p4 : V.cell? ⟨w.heap.size + 1, 4, none⟩ = some (.int .u32 0) := ((unhide X5).get 1 rfl).cell 4
  have p5 : V.cell? ⟨w.heap.size + 1, 5, none⟩ = some (.int .u32 0) := ((unhide X5).get 1 rfl).cell 5
  have q0 : V.cell? ⟨w.heap.size + 1 + 1, 0, none⟩ = some (.int .u32 0) := ((unhide X5).get 2 rfl).cell 0
  have q1 : V.cell? ⟨w.heap.size + 1 + 1, 1, none⟩ = some (.int .u32 0) := ((unhide X5).get 2 rfl).cell 1
  have q2 : V.cell? ⟨w.heap.size + 1 + 1, 2, none⟩ = some (.int .u32 0) := ((unhide X5).get 2 rfl).cell 2
  have q3 : V.cell? ⟨w.heap.size + 1 + 1, 3, none⟩ = some (.int .u32 0) := ((unhide X5).get 2 rfl).cell 3
  have q4 : V.cell? ⟨w.heap.size + 1 + 1, 4, none⟩ = some (.int .u64 0) := ((unhide X5).get 2 rfl).cell 4
  have pf0 : V.frozen? ⟨w.heap.size + 1, 0, none⟩ = false := ((unhide X5).get 1 rfl).frozen 0
  have pf1 : V.frozen? ⟨w.heap.size + 1, 1, none⟩ = false := ((unhide X5).get 1 rfl).frozen 1
  have pf2 : V.frozen? ⟨w.heap.size + 1, 2, none⟩ = false := ((unhide X5).get 1 rfl).frozen 2
  have pf3 : V.frozen? ⟨w.heap.size + 1, 3, none⟩ = false := ((unhide X5).get 1 rfl).frozen 3
  have pf4 : V.frozen? ⟨w.heap.size + 1, 4, none⟩ = false := ((unhide X5).get 1 rfl).frozen 4
  have pf5 : V.frozen? ⟨w.heap.size + 1, 5, none⟩ = false := ((unhide X5).get 1 rfl).frozen 5
  have qf0 : V.frozen? ⟨w.heap.size + 1 + 1, 0, none⟩ = false := ((unhide X5).get 2 rfl).frozen 0
  have qf1 : V.frozen? ⟨w.heap.size + 1 + 1, 1, none⟩ = false := ((unhide X5).get 2 rfl).frozen 1
  have qf2 : V.frozen? ⟨w.heap.size + 1 + 1, 2, none⟩ = false := ((unhide X5).get 2 rfl).frozen 2
  have qf3 : V.frozen? ⟨w.heap.size + 1 + 1, 3, none⟩ = false := ((unhide X5).get 2 rfl).frozen 3
  have qf4 : V.frozen? ⟨w.heap.size + 1 + 1, 4, none⟩ = false := ((unhide X5).get 2 rfl).frozen 4
  have n1 : ¬ w.heap.size + 1 = g10 := by omega
  have n2 : ¬ w.heap.size + 1 + 1 = g10 := by omega
  have n3 : ¬ g10 = w.heap.size + 1 := by omega
  have n4 : ¬ g10 = w.heap.size + 1 + 1 := by omega
  go_region_held3 (fun W => W.cell? ⟨g10, 0, none⟩ = some (u64v n) ∧ W.cell? ⟨g10, 1, none⟩ = some (.slice A2 m c2') ∧ W.cell? ⟨g10, 2, none⟩ = some (u32v T.a) ∧ W.cell? ⟨g10, 3, none⟩ = some (u32v T.b) ∧ W.cell? ⟨g10, 4, none⟩ = some (u32v T.c) ∧ W.cell? ⟨g10, 5, none⟩ = some (u32v T.d) ∧ W.cell? ⟨w.heap.size, 0, none⟩ = some (u32v s.a) ∧ W.cell? ⟨w.heap.size, 1, none⟩ = some (u32v s.b) ∧ W.cell? ⟨w.heap.size, 2, none⟩ = some (u32v s.c) ∧ W.cell? ⟨w.heap.size, 3, none⟩ = some (u32v s.d) ∧ W.cell? ⟨w.heap.size, 4, none⟩ = some (u64v (n + 1#64))) (first | exact ⟨by with_reducible assumption, by with_reducible assumption, by with_reducible assumption, by with_reducible assumption, by with_reducible assumption, by with_reducible assumption, by with_reducible assumption, by with_reducible assumption, by with_reducible assumption, by with_reducible assumption, by with_reducible assumption⟩ | exact ⟨by go_simp, by go_simp, by go_simp, by go_simp, by go_simp, by go_simp, by go_simp, by go_simp, by go_simp, by go_simp, by go_simp⟩) (fail)
  go_wp2_with (fail)
  obtain ⟨F1, F2, F3, F4⟩ := two_put (x0 := u64v n) (x1 := .slice A2 m c2') (x2 := u32v T.a) (x3 := u32v T.b) (x4 := u32v T.c) (x5 := u32v T.d) (y0 := u32v s.a) (y1 := u32v s.b) (y2 := u32v s.c) (y3 := u32v s.d) (y4 := u64v (n + 1#64)) ((unhide X5).get 1 rfl) ((unhide X5).get 2 rfl) (by omega) ((unhide X5).own 0 rfl) (unhide X5).bl (by omega) (by omega)
  refine ret_br3 rfl (w.heap.size + 1) (w.heap.size + 1 + 1) (bxC n (.slice A2 m c2') T) (rgC s (n + 1#64)) (.int .i64 0) rfl rfl rfl rfl rfl F1 F2 rfl ⟨A2, c2', rfl, F3, F4⟩
end
end Go.Proofs.YtlgahaidnpgnaaaDoor
