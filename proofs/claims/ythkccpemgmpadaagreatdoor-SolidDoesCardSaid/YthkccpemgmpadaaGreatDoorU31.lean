import Derived.Test.YthkccpemgmpadaaGreatDoorU30
import Derived.Test.YthkccpemgmpadaaGreatDoorRows
import Derived.Test.YthkccpemgmpadaaGreatDoorCards
import Derived.Test.YthkccpemgmpadaaGreatDoorTie
import Derived.ProofKit
import Derived.OpenShut
import Derived.ChangeOld
import Derived.ChangeSame
import Derived.Below
import Derived.Deep.Slices
import Derived.Deep.Fields
import Derived.Lib.SmallJoins
import Derived.LaidMore
import Derived.Stop.Joined
import Derived.SevenTiedAt
namespace Go.Proofs.YthkccpemgmpadaaGreatDoor
set_option maxRecDepth 100000
open Go.RowKit
theorem wrap_add1 (x : Nx) : IntKind.u64.wrap (n64 x + 1) = n64 (x + 1#64) := by rw [IntKind.wrap_u64]; exact q_add1 x
theorem two_put {w0 V : World} {g1 g2 base : Nat} {v : Value} {l : List UInt8} {a0 a1 a2 a3 a4 a5 b0 b1 b2 b3 b4 x0 x1 x2 x3 x4 x5 y0 y1 y2 y3 y4 : Value} (h1 : Blk V g1 55 #[a0, a1, a2, a3, a4, a5]) (h2 : Blk V g2 27 #[b0, b1, b2, b3, b4]) (hne : g1 ≠ g2) (ho : OwnB V base v l) (hb : Below w0.heap.size w0 V) (hg1 : w0.heap.size ≤ g1) (hg2 : w0.heap.size ≤ g2) :
    let V' := (((((((((((V.setCell ⟨g1, 0, none⟩ x0).setCell ⟨g1, 1, none⟩ x1).setCell ⟨g1, 2, none⟩ x2).setCell ⟨g1, 3, none⟩ x3).setCell ⟨g1, 4, none⟩ x4).setCell ⟨g1, 5, none⟩ x5).setCell ⟨g2, 0, none⟩ y0).setCell ⟨g2, 1, none⟩ y1).setCell ⟨g2, 2, none⟩ y2).setCell ⟨g2, 3, none⟩ y3).setCell ⟨g2, 4, none⟩ y4).drew
    Blk V' g1 55 #[x0, x1, x2, x3, x4, x5] ∧ Blk V' g2 27 #[y0, y1, y2, y3, y4] ∧ OwnB V' base v l ∧ Below w0.heap.size w0 V' := by
  have A6 : Blk ((((((V.setCell ⟨g1, 0, none⟩ x0).setCell ⟨g1, 1, none⟩ x1).setCell ⟨g1, 2, none⟩ x2).setCell ⟨g1, 3, none⟩ x3).setCell ⟨g1, 4, none⟩ x4).setCell ⟨g1, 5, none⟩ x5) g1 55 #[x0, x1, x2, x3, x4, x5] := by
    simpa using (((((h1.set 0 x0).set 1 x1).set 2 x2).set 3 x3).set 4 x4).set 5 x5
  have B6 : Blk ((((((V.setCell ⟨g1, 0, none⟩ x0).setCell ⟨g1, 1, none⟩ x1).setCell ⟨g1, 2, none⟩ x2).setCell ⟨g1, 3, none⟩ x3).setCell ⟨g1, 4, none⟩ x4).setCell ⟨g1, 5, none⟩ x5) g2 27 #[b0, b1, b2, b3, b4] :=
    (((((h2.far (p := ⟨g1, 0, none⟩) (Ne.symm hne) x0).far (p := ⟨g1, 1, none⟩) (Ne.symm hne) x1).far (p := ⟨g1, 2, none⟩) (Ne.symm hne) x2).far (p := ⟨g1, 3, none⟩) (Ne.symm hne) x3).far (p := ⟨g1, 4, none⟩) (Ne.symm hne) x4).far (p := ⟨g1, 5, none⟩) (Ne.symm hne) x5
  have O6 : OwnB ((((((V.setCell ⟨g1, 0, none⟩ x0).setCell ⟨g1, 1, none⟩ x1).setCell ⟨g1, 2, none⟩ x2).setCell ⟨g1, 3, none⟩ x3).setCell ⟨g1, 4, none⟩ x4).setCell ⟨g1, 5, none⟩ x5) base v l :=
    own_far (own_far (own_far (own_far (own_far (own_far ho h1 (by decide) 0 x0) (h1.set 0 x0) (by decide) 1 x1) ((h1.set 0 x0).set 1 x1) (by decide) 2 x2) (((h1.set 0 x0).set 1 x1).set 2 x2) (by decide) 3 x3) ((((h1.set 0 x0).set 1 x1).set 2 x2).set 3 x3) (by decide) 4 x4) (((((h1.set 0 x0).set 1 x1).set 2 x2).set 3 x3).set 4 x4) (by decide) 5 x5
  have L6 : Below w0.heap.size w0 ((((((V.setCell ⟨g1, 0, none⟩ x0).setCell ⟨g1, 1, none⟩ x1).setCell ⟨g1, 2, none⟩ x2).setCell ⟨g1, 3, none⟩ x3).setCell ⟨g1, 4, none⟩ x4).setCell ⟨g1, 5, none⟩ x5) := (((((hb.setCell (p := ⟨g1, 0, none⟩) hg1 x0).setCell (p := ⟨g1, 1, none⟩) hg1 x1).setCell (p := ⟨g1, 2, none⟩) hg1 x2).setCell (p := ⟨g1, 3, none⟩) hg1 x3).setCell (p := ⟨g1, 4, none⟩) hg1 x4).setCell (p := ⟨g1, 5, none⟩) hg1 x5
  intro V'
  refine ⟨?_, ?_, ?_, ?_⟩
  · exact (((((A6.far (p := ⟨g2, 0, none⟩) hne y0).far (p := ⟨g2, 1, none⟩) hne y1).far (p := ⟨g2, 2, none⟩) hne y2).far (p := ⟨g2, 3, none⟩) hne y3).far (p := ⟨g2, 4, none⟩) hne y4).drew
  · have := ((((B6.set 0 y0).set 1 y1).set 2 y2).set 3 y3).set 4 y4
    simp only [List.setIfInBounds_toArray] at this
    exact this.drew
  · exact own_drew (own_far (own_far (own_far (own_far (own_far O6 B6 (by decide) 0 y0) (B6.set 0 y0) (by decide) 1 y1) ((B6.set 0 y0).set 1 y1) (by decide) 2 y2) (((B6.set 0 y0).set 1 y1).set 2 y2) (by decide) 3 y3) ((((B6.set 0 y0).set 1 y1).set 2 y2).set 3 y3) (by decide) 4 y4)
  · exact Below.drew (((((L6.setCell (p := ⟨g2, 0, none⟩) hg2 y0).setCell (p := ⟨g2, 1, none⟩) hg2 y1).setCell (p := ⟨g2, 2, none⟩) hg2 y2).setCell (p := ⟨g2, 3, none⟩) hg2 y3).setCell (p := ⟨g2, 4, none⟩) hg2 y4)
theorem Fx.put0 {w0 V : World} {g : Nat} {t : TypeId} {cs : Array Value} {L : List (Nat × TypeId × Array Value)} {R : List (Nat × Value × List UInt8)} (h : Fx w0 V ((g, t, cs) :: L) R []) (hg : w0.heap.size ≤ g) (ht : 5 ≠ t) (hL : ∀ p ∈ L, p.1 ≠ g) (k : Nat) (u : Value) :
    Fx w0 (V.setCell ⟨g, k, none⟩ u) ((g, t, cs.setIfInBounds k u) :: L) R [] :=
  ⟨h.bl.setCell hg u, fun p hp => by
    rcases List.mem_cons.1 hp with rfl | hp
    · exact (h.blk (g, t, cs) (List.mem_cons_self ..)).set k u
    · exact (h.blk p (List.mem_cons_of_mem _ hp)).far (p := ⟨g, k, none⟩) (hL p hp) u,
   fun p hp => ⟨own_far (h.row p hp).1 (h.blk (g, t, cs) (List.mem_cons_self ..)) ht k u, by simp; exact (h.row p hp).2⟩, fun _ hp => (nomatch hp)⟩
section
attribute [local go_sem] q_add1 wrap_add1
set_option maxHeartbeats 4000000 in
theorem Seal_good (s : St) (n : Nx) (v : Value) (l : List UInt8) (w : World) (ht : Tab w) (h : Bs 0 w.heap.size w v l) (hl : l.length ≤ 65536) (hn : n ≠ 18446744073709551615#64) :
    Calls Tryz.prog 29 #[rgV s n, v] w fun e w' => ∃ A c, e = .returned (.tuple #[bxV n (.slice A l.length c) (tagF s n (hidF s n l)), rgV s (n + 1#64), .int .i64 0]) ∧ OwnB w' w.heap.size (.slice A l.length c) (hidF s n l) ∧ Below w.heap.size w w' := by
  have hlen := hid_len s n l
  have hT := fun W (hb : Below w.heap.size w W) => turned_any s n v l W (ht.below hb (Nat.le_refl _)) (h.to hb) hl
  have hG := fun v' W (hb : Below w.heap.size w W) (h' : Bs 0 W.heap.size W v' (hidF s n l)) => Tag_good s n v' (hidF s n l) W (ht.below hb (Nat.le_refl _)) h' (by omega)
  obtain ⟨A, c, rfl⟩ := h.form
  generalize hidF s n l = H at *
  generalize tagF s n H = T at *
  obtain ⟨m, hm⟩ : ∃ m, m = l.length := ⟨_, rfl⟩
  rw [← hm] at hlen hl hT ⊢
  have h1 : ¬ (65536 : Int) < (m : Int) := by omega
  have hf := full_ne hn
  have X0 : Fx w (((w.alloc (.cells (rgC s n) 27)).alloc (.cells zBx 55)).alloc (.cells zRg 27)) [(w.heap.size, 27, rgC s n), (w.heap.size + 1, 55, zBx), (w.heap.size + 1 + 1, 27, zRg)] [] [] := (((Fx.nil w).newB w.heap.size rfl (rgC s n) 27).newB (w.heap.size + 1) (by simp) zBx 55).newB (w.heap.size + 1 + 1) (by simp) zRg 27
  replace X0 := hide X0; replace hT := hide hT; replace hG := hide hG; replace hlen := hide hlen
  clear h hl hn ht hm
  go_enter Tryz.func29, Tryz.ntmps29
  go_upto_region 1 with (fail)
  generalize hW : World.alloc (World.alloc (World.alloc w _) _) _ = W at *
  clear hW
  have c0 : W.cell? ⟨w.heap.size, 0, none⟩ = some (u32v s.a) := ((unhide X0).get 0 rfl).cell 0
  have c1 : W.cell? ⟨w.heap.size, 1, none⟩ = some (u32v s.b) := ((unhide X0).get 0 rfl).cell 1
  have c2 : W.cell? ⟨w.heap.size, 2, none⟩ = some (u32v s.c) := ((unhide X0).get 0 rfl).cell 2
  have c3 : W.cell? ⟨w.heap.size, 3, none⟩ = some (u32v s.d) := ((unhide X0).get 0 rfl).cell 3
  have c4 : W.cell? ⟨w.heap.size, 4, none⟩ = some (u64v n) := ((unhide X0).get 0 rfl).cell 4
  go_upto_region 11 with (first
    | (go_at_call 58; refine (unhide hT _ (unhide X0).bl).mono ?_; rintro e w2 ⟨A2, c2', rfl, o2, hb2⟩
       have X2 : Fx w w2 [(w.heap.size, 27, rgC s n), (w.heap.size + 1, 55, zBx), (w.heap.size + 1 + 1, 27, zRg)] [(w.heap.size, .slice A2 m c2', H)] [] := Fx.addR ((unhide X0).call hb2) (ownsRow_mono o2 (unhide X0).bl.size) ((unhide X0).call hb2).bl.size
       have d0 : w2.cell? ⟨w.heap.size, 0, none⟩ = some (u32v s.a) := (X2.get 0 rfl).cell 0
       have d1 : w2.cell? ⟨w.heap.size, 1, none⟩ = some (u32v s.b) := (X2.get 0 rfl).cell 1
       have d2 : w2.cell? ⟨w.heap.size, 2, none⟩ = some (u32v s.c) := (X2.get 0 rfl).cell 2
       have d3 : w2.cell? ⟨w.heap.size, 3, none⟩ = some (u32v s.d) := (X2.get 0 rfl).cell 3
       have d4 : w2.cell? ⟨w.heap.size, 4, none⟩ = some (u64v n) := (X2.get 0 rfl).cell 4
       replace X2 := hide X2
       clear o2 hb2)
    | (go_at_call 59; refine (unhide hG _ _ (unhide X2).bl (Bs.of_own0 ((unhide X2).own 0 rfl))).mono ?_; rintro e w3 ⟨rfl, hb3⟩
       have l3 : w.heap.size + 1 + 1 < w3.heap.size := (((unhide X2).call hb3).get 2 rfl).lt
       have X3 : Fx w (w3.alloc (.cells (stC T) 24)) [(w.heap.size, 27, rgC s n), (w.heap.size + 1, 55, zBx), (w.heap.size + 1 + 1, 27, zRg), (w3.heap.size, 24, stC T)] [(w.heap.size, .slice A2 m c2', H)] [] := ((unhide X2).call hb3).newB w3.heap.size rfl (stC T) 24
       replace X3 := hide X3
       clear hb3)
    | fail)
  clear d0 d1 d2 d3 d4 c0 c1 c2 c3 c4
  generalize w3.heap.size = g9 at *
  generalize World.alloc w3 _ = w4 at *
  have d0 : w4.cell? ⟨w.heap.size, 0, none⟩ = some (u32v s.a) := ((unhide X3).get 0 rfl).cell 0
  have d1 : w4.cell? ⟨w.heap.size, 1, none⟩ = some (u32v s.b) := ((unhide X3).get 0 rfl).cell 1
  have d2 : w4.cell? ⟨w.heap.size, 2, none⟩ = some (u32v s.c) := ((unhide X3).get 0 rfl).cell 2
  have d3 : w4.cell? ⟨w.heap.size, 3, none⟩ = some (u32v s.d) := ((unhide X3).get 0 rfl).cell 3
  have d4 : w4.cell? ⟨w.heap.size, 4, none⟩ = some (u64v n) := ((unhide X3).get 0 rfl).cell 4
  have e4 : w4.frozen? ⟨w.heap.size, 4, none⟩ = false := ((unhide X3).get 0 rfl).frozen 4
  have t0 : w4.cell? ⟨g9, 0, none⟩ = some (u32v T.a) := ((unhide X3).get 3 rfl).cell 0
  have t1 : w4.cell? ⟨g9, 1, none⟩ = some (u32v T.b) := ((unhide X3).get 3 rfl).cell 1
  have t2 : w4.cell? ⟨g9, 2, none⟩ = some (u32v T.c) := ((unhide X3).get 3 rfl).cell 2
  have t3 : w4.cell? ⟨g9, 3, none⟩ = some (u32v T.d) := ((unhide X3).get 3 rfl).cell 3
  have k0 : w.heap.size < w4.heap.size := ((unhide X3).get 0 rfl).lt
  have k9 : g9 < w4.heap.size := ((unhide X3).get 3 rfl).lt
  go_upto_region 13 with (fail)
  have hg9 : w.heap.size + 1 + 1 < g9 := by omega
  have X4 := Fx.put0 (unhide X3) (Nat.le_refl _) (by decide) (by simp; omega) 4 (u64v (n + 1#64))
  have X5 : Fx w _ [(w.heap.size, 27, rgC s (n + 1#64)), (w.heap.size + 1, 55, zBx), (w.heap.size + 1 + 1, 27, zRg), (g9, 24, stC T), (w4.heap.size, 55, bxC n (.slice A2 m c2') T)] [(w.heap.size, .slice A2 m c2', H)] [] := X4.newB w4.heap.size (by simp) (bxC n (.slice A2 m c2') T) 55
  replace X5 := hide X5
  clear X4 X3 d0 d1 d2 d3 d4 e4 t0 t1 t2 t3
  obtain ⟨g10, hg10⟩ : ∃ g10, g10 = w4.heap.size := ⟨_, rfl⟩
  rw [← hg10] at X5 k9 k0 ⊢
  clear hg10
  generalize World.alloc (World.setCell w4 _ _) _ = V at *
  have b0 : V.cell? ⟨g10, 0, none⟩ = some (u64v n) := ((unhide X5).get 4 rfl).cell 0
  have b1 : V.cell? ⟨g10, 1, none⟩ = some (.slice A2 m c2') := ((unhide X5).get 4 rfl).cell 1
  have b2 : V.cell? ⟨g10, 2, none⟩ = some (u32v T.a) := ((unhide X5).get 4 rfl).cell 2
  have b3 : V.cell? ⟨g10, 3, none⟩ = some (u32v T.b) := ((unhide X5).get 4 rfl).cell 3
  have b4 : V.cell? ⟨g10, 4, none⟩ = some (u32v T.c) := ((unhide X5).get 4 rfl).cell 4
  have b5 : V.cell? ⟨g10, 5, none⟩ = some (u32v T.d) := ((unhide X5).get 4 rfl).cell 5
  have r0 : V.cell? ⟨w.heap.size, 0, none⟩ = some (u32v s.a) := ((unhide X5).get 0 rfl).cell 0
  have r1 : V.cell? ⟨w.heap.size, 1, none⟩ = some (u32v s.b) := ((unhide X5).get 0 rfl).cell 1
  have r2 : V.cell? ⟨w.heap.size, 2, none⟩ = some (u32v s.c) := ((unhide X5).get 0 rfl).cell 2
  have r3 : V.cell? ⟨w.heap.size, 3, none⟩ = some (u32v s.d) := ((unhide X5).get 0 rfl).cell 3
  have r4 : V.cell? ⟨w.heap.size, 4, none⟩ = some (u64v (n + 1#64)) := ((unhide X5).get 0 rfl).cell 4
  have p0 : V.cell? ⟨w.heap.size + 1, 0, none⟩ = some (.int .u64 0) := ((unhide X5).get 1 rfl).cell 0
  have p1 : V.cell? ⟨w.heap.size + 1, 1, none⟩ = some (.slice none 0 0) := ((unhide X5).get 1 rfl).cell 1
  have p2 : V.cell? ⟨w.heap.size + 1, 2, none⟩ = some (.int .u32 0) := ((unhide X5).get 1 rfl).cell 2
  have p3 : V.cell? ⟨w.heap.size + 1, 3, none⟩ = some (.int .u32 0) := ((unhide X5).get 1 rfl).cell 3
  have p4 : V.cell? ⟨w.heap.size + 1, 4, none⟩ = some (.int .u32 0) := ((unhide X5).get 1 rfl).cell 4
  have p5 : V.cell? ⟨w.heap.size + 1, 5, none⟩ = some (.int .u32 0) := ((unhide X5).get 1 rfl).cell 5
  have q0 : V.cell? ⟨w.heap.size + 1 + 1, 0, none⟩ = some (.int .u32 0) := ((unhide X5).get 2 rfl).cell 0
  have q1 : V.cell? ⟨w.heap.size + 1 + 1, 1, none⟩ = some (.int .u32 0) := ((unhide X5).get 2 rfl).cell 1
  have q2 : V.cell? ⟨w.heap.size + 1 + 1, 2, none⟩ = some (.int .u32 0) := ((unhide X5).get 2 rfl).cell 2
  have q3 : V.cell? ⟨w.heap.size + 1 + 1, 3, none⟩ = some (.int .u32 0) := ((unhide X5).get 2 rfl).cell 3
  have q4 : V.cell? ⟨w.heap.size + 1 + 1, 4, none⟩ = some (.int .u64 0) := ((unhide X5).get 2 rfl).cell 4
  have pf0 : V.frozen? ⟨w.heap.size + 1, 0, none⟩ = false := ((unhide X5).get 1 rfl).frozen 0
  have pf1 : V.frozen? ⟨w.heap.size + 1, 1, none⟩ = false := ((unhide X5).get 1 rfl).frozen 1
  have pf2 : V.frozen? ⟨w.heap.size + 1, 2, none⟩ = false := ((unhide X5).get 1 rfl).frozen 2
  have pf3 : V.frozen? ⟨w.heap.size + 1, 3, none⟩ = false := ((unhide X5).get 1 rfl).frozen 3
  have pf4 : V.frozen? ⟨w.heap.size + 1, 4, none⟩ = false := ((unhide X5).get 1 rfl).frozen 4
  have pf5 : V.frozen? ⟨w.heap.size + 1, 5, none⟩ = false := ((unhide X5).get 1 rfl).frozen 5
  have qf0 : V.frozen? ⟨w.heap.size + 1 + 1, 0, none⟩ = false := ((unhide X5).get 2 rfl).frozen 0
  have qf1 : V.frozen? ⟨w.heap.size + 1 + 1, 1, none⟩ = false := ((unhide X5).get 2 rfl).frozen 1
  have qf2 : V.frozen? ⟨w.heap.size + 1 + 1, 2, none⟩ = false := ((unhide X5).get 2 rfl).frozen 2
  have qf3 : V.frozen? ⟨w.heap.size + 1 + 1, 3, none⟩ = false := ((unhide X5).get 2 rfl).frozen 3
  have qf4 : V.frozen? ⟨w.heap.size + 1 + 1, 4, none⟩ = false := ((unhide X5).get 2 rfl).frozen 4
  have n1 : ¬ w.heap.size + 1 = g10 := by omega
  have n2 : ¬ w.heap.size + 1 + 1 = g10 := by omega
  have n3 : ¬ g10 = w.heap.size + 1 := by omega
  have n4 : ¬ g10 = w.heap.size + 1 + 1 := by omega
  go_region_held3 (fun W => W.cell? ⟨g10, 0, none⟩ = some (u64v n) ∧ W.cell? ⟨g10, 1, none⟩ = some (.slice A2 m c2') ∧ W.cell? ⟨g10, 2, none⟩ = some (u32v T.a) ∧ W.cell? ⟨g10, 3, none⟩ = some (u32v T.b) ∧ W.cell? ⟨g10, 4, none⟩ = some (u32v T.c) ∧ W.cell? ⟨g10, 5, none⟩ = some (u32v T.d) ∧ W.cell? ⟨w.heap.size, 0, none⟩ = some (u32v s.a) ∧ W.cell? ⟨w.heap.size, 1, none⟩ = some (u32v s.b) ∧ W.cell? ⟨w.heap.size, 2, none⟩ = some (u32v s.c) ∧ W.cell? ⟨w.heap.size, 3, none⟩ = some (u32v s.d) ∧ W.cell? ⟨w.heap.size, 4, none⟩ = some (u64v (n + 1#64))) (first | exact ⟨by with_reducible assumption, by with_reducible assumption, by with_reducible assumption, by with_reducible assumption, by with_reducible assumption, by with_reducible assumption, by with_reducible assumption, by with_reducible assumption, by with_reducible assumption, by with_reducible assumption, by with_reducible assumption⟩ | exact ⟨by go_simp, by go_simp, by go_simp, by go_simp, by go_simp, by go_simp, by go_simp, by go_simp, by go_simp, by go_simp, by go_simp⟩) (fail)
  go_wp2_with (fail)
  obtain ⟨F1, F2, F3, F4⟩ := two_put (x0 := u64v n) (x1 := .slice A2 m c2') (x2 := u32v T.a) (x3 := u32v T.b) (x4 := u32v T.c) (x5 := u32v T.d) (y0 := u32v s.a) (y1 := u32v s.b) (y2 := u32v s.c) (y3 := u32v s.d) (y4 := u64v (n + 1#64)) ((unhide X5).get 1 rfl) ((unhide X5).get 2 rfl) (by omega) ((unhide X5).own 0 rfl) (unhide X5).bl (by omega) (by omega)
  refine ret_br3 rfl (w.heap.size + 1) (w.heap.size + 1 + 1) (bxC n (.slice A2 m c2') T) (rgC s (n + 1#64)) (.int .i64 0) rfl rfl rfl rfl rfl F1 F2 rfl ⟨A2, c2', rfl, F3, F4⟩
end
end Go.Proofs.YthkccpemgmpadaaGreatDoor

namespace Go.Proofs.YthkccpemgmpadaaGreatDoor
set_option maxRecDepth 100000
open Go.RowKit
theorem neq_st (w : World) (s t : St) : (binOp .neq 24 (stV s) (stV t)).run Tryz.prog w = .ok (.bool (!sameS s t)) w := by
  rw [run_neq_struct, equalIn_st]
  rfl
set_option maxHeartbeats 1000000 in
theorem Open_any (s : St) (n : Nx) (v : Value) (l : List UInt8) (t : St) (w : World) (ht : Tab w) (h : Bs 0 w.heap.size w v l) (hl : l.length ≤ 65536) :
    Calls Tryz.prog 44 #[stV s, bxV n v t] w fun e w' => (if sameS (tagF s n l) t = true then ∃ A c, e = .returned (.tuple #[.slice A l.length c, .int .i64 0]) ∧ OwnB w' w.heap.size (.slice A l.length c) (hidF s n l) else e = .returned (.tuple #[.slice none 0 0, .int .i64 8])) ∧ Below w.heap.size w w' := by
  have hT := fun W (hb : Below w.heap.size w W) => Tag_good s n v l W (ht.below hb (Nat.le_refl _)) (h.to hb) hl
  have hG := fun W (hb : Below w.heap.size w W) => turned_any s n v l W (ht.below hb (Nat.le_refl _)) (h.to hb) hl
  obtain ⟨A, c, rfl⟩ := h.form
  have X0 : Fx w ((w.alloc (.cells (stC s) 24)).alloc (.cells (bxC n (.slice A l.length c) t) 55)) [(w.heap.size, 24, stC s), (w.heap.size + 1, 55, bxC n (.slice A l.length c) t)] [] [] := ((Fx.nil w).newB w.heap.size rfl (stC s) 24).newB (w.heap.size + 1) (by simp) (bxC n (.slice A l.length c) t) 55
  generalize hidF s n l = H at *
  generalize tagF s n l = T at *
  generalize l.length = m at *
  have hE := fun W => neq_st W T t
  have hz : ∃ z, z = sameS T t := ⟨_, rfl⟩
  obtain ⟨z, hz⟩ := hz
  rw [← hz] at hE ⊢
  replace X0 := hide X0; replace hT := hide hT; replace hG := hide hG
  clear h hl hz
  go_enter Tryz.func44, Tryz.ntmps44
  go_upto_region 1 with (fail)
  generalize hW : World.alloc (World.alloc w _) _ = W at *
  clear hW
  have c0 : W.cell? ⟨w.heap.size, 0, none⟩ = some (u32v s.a) := ((unhide X0).get 0 rfl).cell 0
  have c1 : W.cell? ⟨w.heap.size, 1, none⟩ = some (u32v s.b) := ((unhide X0).get 0 rfl).cell 1
  have c2 : W.cell? ⟨w.heap.size, 2, none⟩ = some (u32v s.c) := ((unhide X0).get 0 rfl).cell 2
  have c3 : W.cell? ⟨w.heap.size, 3, none⟩ = some (u32v s.d) := ((unhide X0).get 0 rfl).cell 3
  have b0 : W.cell? ⟨w.heap.size + 1, 0, none⟩ = some (u64v n) := ((unhide X0).get 1 rfl).cell 0
  have b1 : W.cell? ⟨w.heap.size + 1, 1, none⟩ = some (.slice A m c) := ((unhide X0).get 1 rfl).cell 1
  go_upto_region 4 with (first
    | (go_at_call 59; refine (unhide hT _ (unhide X0).bl).mono ?_; rintro e w2 ⟨rfl, hb2⟩
       have X2 : Fx w (w2.alloc (.cells (stC T) 24)) [(w.heap.size, 24, stC s), (w.heap.size + 1, 55, bxC n (.slice A m c) t), (w2.heap.size, 24, stC T)] [] [] := ((unhide X0).call hb2).newB w2.heap.size rfl (stC T) 24
       replace X2 := hide X2
       clear hb2)
    | fail)
  generalize w2.heap.size = g2 at *
  generalize World.alloc w2 _ = W2 at *
  clear c0 c1 c2 c3 b0 b1
  have c0 : W2.cell? ⟨w.heap.size, 0, none⟩ = some (u32v s.a) := ((unhide X2).get 0 rfl).cell 0
  have c1 : W2.cell? ⟨w.heap.size, 1, none⟩ = some (u32v s.b) := ((unhide X2).get 0 rfl).cell 1
  have c2 : W2.cell? ⟨w.heap.size, 2, none⟩ = some (u32v s.c) := ((unhide X2).get 0 rfl).cell 2
  have c3 : W2.cell? ⟨w.heap.size, 3, none⟩ = some (u32v s.d) := ((unhide X2).get 0 rfl).cell 3
  have b0 : W2.cell? ⟨w.heap.size + 1, 0, none⟩ = some (u64v n) := ((unhide X2).get 1 rfl).cell 0
  have b1 : W2.cell? ⟨w.heap.size + 1, 1, none⟩ = some (.slice A m c) := ((unhide X2).get 1 rfl).cell 1
  have b2 : W2.cell? ⟨w.heap.size + 1, 2, none⟩ = some (u32v t.a) := ((unhide X2).get 1 rfl).cell 2
  have b3 : W2.cell? ⟨w.heap.size + 1, 3, none⟩ = some (u32v t.b) := ((unhide X2).get 1 rfl).cell 3
  have b4 : W2.cell? ⟨w.heap.size + 1, 4, none⟩ = some (u32v t.c) := ((unhide X2).get 1 rfl).cell 4
  have b5 : W2.cell? ⟨w.heap.size + 1, 5, none⟩ = some (u32v t.d) := ((unhide X2).get 1 rfl).cell 5
  have t0 : W2.cell? ⟨g2, 0, none⟩ = some (u32v T.a) := ((unhide X2).get 2 rfl).cell 0
  have t1 : W2.cell? ⟨g2, 1, none⟩ = some (u32v T.b) := ((unhide X2).get 2 rfl).cell 1
  have t2 : W2.cell? ⟨g2, 2, none⟩ = some (u32v T.c) := ((unhide X2).get 2 rfl).cell 2
  have t3 : W2.cell? ⟨g2, 3, none⟩ = some (u32v T.d) := ((unhide X2).get 2 rfl).cell 3
  cases z with
  | false =>
    go_wp2_with (fail)
    go_ret2
    exact ⟨rfl, (unhide X2).bl⟩
  | true =>
    go_wp2_with (first
      | (go_at_call 58; refine (unhide hG _ (unhide X2).bl).mono ?_; rintro e w3 ⟨A3, c3', rfl, o3, hb3⟩)
      | fail)
    go_ret2
    exact ⟨⟨A3, c3', rfl, ownsRow_mono o3 (unhide X2).bl.size⟩, bl_call (unhide X2).bl hb3⟩
end Go.Proofs.YthkccpemgmpadaaGreatDoor

namespace Go.Proofs.YthkccpemgmpadaaGreatDoor
set_option maxRecDepth 100000
open Go.RowKit
theorem concat3 (v1 v2 v3 : Value) (l1 l2 l3 : List UInt8) (W : World) (h1 : Bs 0 W.heap.size W v1 l1) (h2 : Bs 0 W.heap.size W v2 l2) (h3 : Bs 0 W.heap.size W v3 l3) (h0 : 0 < (l1 ++ l2 ++ l3).length) (hL : (l1 ++ l2 ++ l3).length ≤ 1000000) :
    Calls Tryz.prog 20 #[.slice (some ⟨W.heap.size, 0, none⟩) 3 3] (W.alloc (.cells #[v1, v2, v3] 29)) fun e w' => ∃ A c, e = .returned (.slice A (l1 ++ l2 ++ l3).length c) ∧ OwnB w' W.heap.size (.slice A (l1 ++ l2 ++ l3).length c) (l1 ++ l2 ++ l3) ∧ Below W.heap.size W w' := by
  have hB : Blk (W.alloc (.cells #[v1, v2, v3] 29)) W.heap.size 29 #[v1, v2, v3] := Blk.new rfl
  have hb : Below W.heap.size W (W.alloc (.cells #[v1, v2, v3] 29)) := bl_alloc (Below.refl _ _) _
  obtain ⟨A1, c1, rfl⟩ := h1.form
  obtain ⟨A2, c2, rfl⟩ := h2.form
  obtain ⟨A3, c3, rfl⟩ := h3.form
  have hLs : Lists 0 (W.alloc (.cells #[.slice A1 l1.length c1, .slice A2 l2.length c2, .slice A3 l3.length c3] 29)) W.heap.size [l1, l2, l3] := by
    intro k hk
    match k, hk with
    | 0, _ => exact ⟨A1, c1, hB.cell 0, h1.to hb⟩
    | 1, _ => exact ⟨A2, c2, hB.cell 1, h2.to hb⟩
    | 2, _ => exact ⟨A3, c3, hB.cell 2, h3.to hb⟩
  have e1 : cat [l1, l2, l3] 3 = l1 ++ l2 ++ l3 := by simp [cat]
  have e2 : upto [l1, l2, l3] 3 = (l1 ++ l2 ++ l3).length := by rw [← upto_cat, e1]
  have h := concat_any 0 W.heap.size [l1, l2, l3] _ hLs (by simp) (by simp) (by show 0 < upto [l1, l2, l3] 3; omega) (by show upto [l1, l2, l3] 3 ≤ _; omega)
  have e3 : [l1, l2, l3].length = 3 := rfl
  rw [e3, e2, e1] at h
  refine h.mono ?_
  rintro e w' ⟨A, c, rfl, ho, hb'⟩
  exact ⟨A, c, rfl, ownsRow_mono ho hb.size, bl_call hb hb'⟩
set_option maxHeartbeats 1000000 in
theorem Bytes_good (n : Nx) (v : Value) (l : List UInt8) (t : St) (w : World) (h : Bs 0 w.heap.size w v l) (hl : l.length ≤ 65536) :
    Calls Tryz.prog 30 #[bxV n v t] w fun e w' => ∃ A c, e = .returned (.tuple #[.slice A (bytesF ⟨n, l, t⟩).length c, .int .i64 0]) ∧ OwnB w' w.heap.size (.slice A (bytesF ⟨n, l, t⟩).length c) (bytesF ⟨n, l, t⟩) ∧ Below w.heap.size w w' := by
  have hl8 := eight_len n
  have hl16 := octs_len t
  have hc := fun v1 v2 v3 W (h1 : Bs 0 W.heap.size W v1 (eight n)) (h2 : Bs 0 W.heap.size W v2 (octs4 t)) (h3 : Bs 0 W.heap.size W v3 l) => concat3 v1 v2 v3 _ _ _ W h1 h2 h3 (by simp [hl8]; omega) (by simp [hl8, hl16]; omega)
  have hF : bytesF ⟨n, l, t⟩ = eight n ++ octs4 t ++ l := rfl
  rw [← hF] at hc
  generalize bytesF ⟨n, l, t⟩ = out at *
  obtain ⟨A, c, rfl⟩ := h.form
  have X0 : Fx w (w.alloc (.cells (bxC n (.slice A l.length c) t) 55)) [(w.heap.size, 55, bxC n (.slice A l.length c) t)] [] [(.slice A l.length c, l)] := Fx.addZ ((Fx.nil w).newB w.heap.size rfl (bxC n (.slice A l.length c) t) 55) (h.to (bl_alloc (Below.refl _ _) _))
  have h1 : ¬ (65536 : Int) < (l.length : Int) := by omega
  obtain ⟨m, hm⟩ : ∃ m, m = l.length := ⟨_, rfl⟩
  rw [← hm] at X0 h1 ⊢
  replace X0 := hide X0; replace hc := hide hc; replace hl8 := hide hl8; replace hl16 := hide hl16
  clear h hl hF hm
  go_enter Tryz.func30, Tryz.ntmps30
  go_upto_region 1 with (fail)
  generalize hW : World.alloc w _ = W at *
  clear hW
  have k0 : w.heap.size < W.heap.size := ((unhide X0).get 0 rfl).lt
  have b0 : W.cell? ⟨w.heap.size, 0, none⟩ = some (u64v n) := ((unhide X0).get 0 rfl).cell 0
  have b1 : W.cell? ⟨w.heap.size, 1, none⟩ = some (.slice A m c) := ((unhide X0).get 0 rfl).cell 1
  have b2 : W.cell? ⟨w.heap.size, 2, none⟩ = some (u32v t.a) := ((unhide X0).get 0 rfl).cell 2
  have b3 : W.cell? ⟨w.heap.size, 3, none⟩ = some (u32v t.b) := ((unhide X0).get 0 rfl).cell 3
  have b4 : W.cell? ⟨w.heap.size, 4, none⟩ = some (u32v t.c) := ((unhide X0).get 0 rfl).cell 4
  have b5 : W.cell? ⟨w.heap.size, 5, none⟩ = some (u32v t.d) := ((unhide X0).get 0 rfl).cell 5
  go_upto_region 3 with (fail)
  go_region_held3 (fun W => W.cell? ⟨w.heap.size, 0, none⟩ = some (u64v n) ∧ W.cell? ⟨w.heap.size, 1, none⟩ = some (.slice A m c) ∧ W.cell? ⟨w.heap.size, 2, none⟩ = some (u32v t.a) ∧ W.cell? ⟨w.heap.size, 3, none⟩ = some (u32v t.b) ∧ W.cell? ⟨w.heap.size, 4, none⟩ = some (u32v t.c) ∧ W.cell? ⟨w.heap.size, 5, none⟩ = some (u32v t.d)) (first | exact ⟨by with_reducible assumption, by with_reducible assumption, by with_reducible assumption, by with_reducible assumption, by with_reducible assumption, by with_reducible assumption⟩ | exact ⟨by go_simp, by go_simp, by go_simp, by go_simp, by go_simp, by go_simp⟩)
    (first
    | (go_at_call 60; refine (octets_any n W.drew).mono ?_; rintro e w5 ⟨v5, rfl, o5, hb5⟩
       obtain ⟨A5, c5, rfl⟩ : ∃ A c, v5 = .slice A 8 c := by obtain ⟨A, c, e⟩ := o5.form; exact ⟨A, c, by rw [e, unhide hl8]⟩
       have X5 : Fx w w5 [(w.heap.size, 55, bxC n (.slice A m c) t)] [] [(.slice A m c, l), (.slice A5 8 c5, eight n)] := Fx.addZ (Fx.call (unhide X0).drew hb5) (Bs.of_own0 o5)
       have k5 : w.heap.size < w5.heap.size := (X5.get 0 rfl).lt
       have d0 : w5.cell? ⟨w.heap.size, 0, none⟩ = some (u64v n) := (X5.get 0 rfl).cell 0
       have d1 : w5.cell? ⟨w.heap.size, 1, none⟩ = some (.slice A m c) := (X5.get 0 rfl).cell 1
       have d2 : w5.cell? ⟨w.heap.size, 2, none⟩ = some (u32v t.a) := (X5.get 0 rfl).cell 2
       have d3 : w5.cell? ⟨w.heap.size, 3, none⟩ = some (u32v t.b) := (X5.get 0 rfl).cell 3
       have d4 : w5.cell? ⟨w.heap.size, 4, none⟩ = some (u32v t.c) := (X5.get 0 rfl).cell 4
       have d5 : w5.cell? ⟨w.heap.size, 5, none⟩ = some (u32v t.d) := (X5.get 0 rfl).cell 5
       replace X5 := hide X5
       clear o5 hb5)
    | (go_at_call 61; refine (Octets_any t w5).mono ?_; rintro e w6 ⟨v6, rfl, o6, hb6⟩
       obtain ⟨A6, c6, rfl⟩ : ∃ A c, v6 = .slice A 16 c := by obtain ⟨A, c, e⟩ := o6.form; exact ⟨A, c, by rw [e, unhide hl16]⟩
       have X6 : Fx w w6 [(w.heap.size, 55, bxC n (.slice A m c) t)] [] [(.slice A m c, l), (.slice A5 8 c5, eight n), (.slice A6 16 c6, octs4 t)] := Fx.addZ (Fx.call (unhide X5) hb6) (Bs.of_own0 o6)
       have k6 : w.heap.size < w6.heap.size := (X6.get 0 rfl).lt
       have f0 : w6.cell? ⟨w.heap.size, 0, none⟩ = some (u64v n) := (X6.get 0 rfl).cell 0
       have f1 : w6.cell? ⟨w.heap.size, 1, none⟩ = some (.slice A m c) := (X6.get 0 rfl).cell 1
       have f2 : w6.cell? ⟨w.heap.size, 2, none⟩ = some (u32v t.a) := (X6.get 0 rfl).cell 2
       have f3 : w6.cell? ⟨w.heap.size, 3, none⟩ = some (u32v t.b) := (X6.get 0 rfl).cell 3
       have f4 : w6.cell? ⟨w.heap.size, 4, none⟩ = some (u32v t.c) := (X6.get 0 rfl).cell 4
       have f5 : w6.cell? ⟨w.heap.size, 5, none⟩ = some (u32v t.d) := (X6.get 0 rfl).cell 5
       replace X6 := hide X6
       clear o6 hb6)
    | (go_at_call 20; refine (unhide hc _ _ _ w6 ((unhide X6).rd 1 rfl) ((unhide X6).rd 2 rfl) ((unhide X6).rd 0 rfl)).mono ?_; rintro e w7 ⟨A7, c7, rfl, o7, hb7⟩
       have X7 : Fx w w7 [(w.heap.size, 55, bxC n (.slice A m c) t)] [] [] := Fx.sub (Fx.call (unhide X6) hb7) (by simp) (by simp) (by simp)
       have g0 : w7.cell? ⟨w.heap.size, 0, none⟩ = some (u64v n) := (X7.get 0 rfl).cell 0
       have g1 : w7.cell? ⟨w.heap.size, 1, none⟩ = some (.slice A m c) := (X7.get 0 rfl).cell 1
       have g2 : w7.cell? ⟨w.heap.size, 2, none⟩ = some (u32v t.a) := (X7.get 0 rfl).cell 2
       have g3 : w7.cell? ⟨w.heap.size, 3, none⟩ = some (u32v t.b) := (X7.get 0 rfl).cell 3
       have g4 : w7.cell? ⟨w.heap.size, 4, none⟩ = some (u32v t.c) := (X7.get 0 rfl).cell 4
       have g5 : w7.cell? ⟨w.heap.size, 5, none⟩ = some (u32v t.d) := (X7.get 0 rfl).cell 5
       have o7' : OwnB w7 w.heap.size (.slice A7 out.length c7) out := ownsRow_mono o7 (unhide X6).bl.size
       replace X7 := hide X7; replace o7' := hide o7'
       clear o7 hb7))
  all_goals go_wp2_with (fail)
  all_goals go_ret2
  all_goals exact ⟨A7, c7, rfl, unhide o7', (unhide X7).bl⟩
end Go.Proofs.YthkccpemgmpadaaGreatDoor

namespace Go.Proofs.YthkccpemgmpadaaGreatDoor
set_option maxRecDepth 100000
open Go.RowKit
set_option maxHeartbeats 1000000 in
theorem From_short (lo : Nat) (v : Value) (l : List UInt8) (w : World) (h : Bs lo w.heap.size w v l) (hl : l.length < 24) :
    Calls Tryz.prog 43 #[v] w fun e w' => e = .returned (.tuple #[.agg zBx, .int .i64 2]) ∧ Below w.heap.size w w' := by
  obtain ⟨A, c, rfl⟩ := h.form
  have h1 : (l.length : Int) < 24 := by omega
  have hB : Blk (w.alloc (.cells zBx 55)) w.heap.size 55 zBx := Blk.new rfl
  have hb : Below w.heap.size w (w.alloc (.cells zBx 55)) := bl_alloc (Below.refl _ _) _
  replace hB := hide hB; replace hb := hide hb
  clear h hl
  go_enter Tryz.func43, Tryz.ntmps43
  go_wp2_with (first
    | (refine wpList_store_row rfl 55 (.tmp 2) (.tmp 9) rfl w.heap.size zBx rfl rfl 55 zBx (unhide hB) size30 rfl zbx_one ?_)
    | fail)
  exact ret_b2 rfl w.heap.size zBx _ rfl rfl rfl ((unhide hB).row _) rfl ⟨rfl, bl_row (unhide hb) _ (Nat.le_refl _)⟩
theorem Blk.set6 {V : World} {g : Nat} {t : TypeId} {a0 a1 a2 a3 a4 a5 x0 x1 x2 x3 x4 x5 : Value} (h1 : Blk V g t #[a0, a1, a2, a3, a4, a5]) :
    Blk ((((((V.setCell ⟨g, 0, none⟩ x0).setCell ⟨g, 1, none⟩ x1).setCell ⟨g, 2, none⟩ x2).setCell ⟨g, 3, none⟩ x3).setCell ⟨g, 4, none⟩ x4).setCell ⟨g, 5, none⟩ x5) g t #[x0, x1, x2, x3, x4, x5] := by
  simpa using (((((h1.set 0 x0).set 1 x1).set 2 x2).set 3 x3).set 4 x4).set 5 x5
theorem own_set6 {V : World} {g1 base : Nat} {v : Value} {l : List UInt8} {a0 a1 a2 a3 a4 a5 x0 x1 x2 x3 x4 x5 : Value} (h1 : Blk V g1 55 #[a0, a1, a2, a3, a4, a5]) (ho : OwnB V base v l) :
    OwnB ((((((V.setCell ⟨g1, 0, none⟩ x0).setCell ⟨g1, 1, none⟩ x1).setCell ⟨g1, 2, none⟩ x2).setCell ⟨g1, 3, none⟩ x3).setCell ⟨g1, 4, none⟩ x4).setCell ⟨g1, 5, none⟩ x5) base v l :=
  own_far (own_far (own_far (own_far (own_far (own_far ho h1 (by decide) 0 x0) (h1.set 0 x0) (by decide) 1 x1) ((h1.set 0 x0).set 1 x1) (by decide) 2 x2) (((h1.set 0 x0).set 1 x1).set 2 x2) (by decide) 3 x3) ((((h1.set 0 x0).set 1 x1).set 2 x2).set 3 x3) (by decide) 4 x4) (((((h1.set 0 x0).set 1 x1).set 2 x2).set 3 x3).set 4 x4) (by decide) 5 x5
theorem below_set6 {B g1 : Nat} {a V : World} {x0 x1 x2 x3 x4 x5 : Value} (hb : Below B a V) (hg1 : B ≤ g1) :
    Below B a ((((((V.setCell ⟨g1, 0, none⟩ x0).setCell ⟨g1, 1, none⟩ x1).setCell ⟨g1, 2, none⟩ x2).setCell ⟨g1, 3, none⟩ x3).setCell ⟨g1, 4, none⟩ x4).setCell ⟨g1, 5, none⟩ x5) :=
  (((((hb.setCell (p := ⟨g1, 0, none⟩) hg1 x0).setCell (p := ⟨g1, 1, none⟩) hg1 x1).setCell (p := ⟨g1, 2, none⟩) hg1 x2).setCell (p := ⟨g1, 3, none⟩) hg1 x3).setCell (p := ⟨g1, 4, none⟩) hg1 x4).setCell (p := ⟨g1, 5, none⟩) hg1 x5
set_option maxHeartbeats 1000000 in
theorem From_good (v : Value) (l : List UInt8) (w : World) (h : Bs 0 w.heap.size w v l) (hl : 24 ≤ l.length) (hl2 : l.length ≤ 65560) :
    Calls Tryz.prog 43 #[v] w fun e w' => ∃ A c, e = .returned (.tuple #[bxV (fromF l).n (.slice A (fromF l).text.length c) (fromF l).tag, .int .i64 0]) ∧ OwnB w' w.heap.size (.slice A (fromF l).text.length c) (fromF l).text ∧ Below w.heap.size w w' := by
  obtain ⟨A, c, rfl⟩ := h.form
  have h0 : ¬ (l.length : Int) < 24 := by omega
  have h1 : ¬ (65560 : Int) < (l.length : Int) := by omega
  obtain ⟨A1, c1, s1, b1⟩ := h.cut_lh 8 24 8 24 rfl rfl (by omega) (by omega)
  obtain ⟨A2, c2, s2, b2⟩ := h.cut_h 8 8 rfl (by omega)
  obtain ⟨A3, c3, s3, b3⟩ := h.cut_l 24 24 rfl (by omega)
  have hO := fun W (hb : Below w.heap.size w W) => Of_good 0 _ _ W (b1.to hb) (by rw [List.length_take, List.length_drop]; omega)
  have hN := fun W (hb : Below w.heap.size w W) => number8_any 0 _ _ _ W (b2.to hb) (by rw [List.length_take]; omega)
  have hC := fun W (hb : Below w.heap.size w W) => bclone 0 _ _ W (b3.to hb) (by rw [List.length_drop]; omega)
  have e16 : 24 - 8 = 16 := rfl
  rw [e16] at s1 hO
  have hdl : l.length - 24 = (l.drop 24).length := (List.length_drop ..).symm
  rw [hdl] at s3 hC
  have f1 : (fromF l).n = of8 (l.take 8) := rfl
  have f2 : (fromF l).text = l.drop 24 := rfl
  have f3 : (fromF l).tag = ofF ((l.drop 8).take 16) := rfl
  rw [f1, f2, f3]
  generalize of8 (l.take 8) = n at *
  generalize ofF ((l.drop 8).take 16) = T at *
  generalize l.drop 24 = out at *
  have z1 : (24 : Int) ≤ (l.length : Int) := by omega
  generalize l.length = m at *
  have X0 : Fx w (w.alloc (.cells zBx 55)) [(w.heap.size, 55, zBx)] [] [] := (Fx.nil w).newB w.heap.size rfl zBx 55
  replace X0 := hide X0; replace hO := hide hO; replace hN := hide hN; replace hC := hide hC
  clear h hl hl2 b1 b2 b3 e16 hdl f1 f2 f3
  go_enter Tryz.func43, Tryz.ntmps43
  go_upto_region 8 with (first
    | (go_at_call 71; refine (unhide hO _ (unhide X0).bl).mono ?_; rintro e w2 ⟨rfl, hb2⟩
       have X2 : Fx w (w2.alloc (.cells (stC T) 24)) [(w.heap.size, 55, zBx), (w2.heap.size, 24, stC T)] [] [] := ((unhide X0).call hb2).newB w2.heap.size rfl (stC T) 24
       have l2 : w.heap.size < w2.heap.size := (((unhide X0).call hb2).get 0 rfl).lt
       replace X2 := hide X2
       clear hb2)
    | fail)
  generalize w2.heap.size = g2 at *
  generalize World.alloc w2 _ = W at *
  have k0 : w.heap.size < W.heap.size := ((unhide X2).get 0 rfl).lt
  have k2 : g2 < W.heap.size := ((unhide X2).get 1 rfl).lt
  have t0 : W.cell? ⟨g2, 0, none⟩ = some (u32v T.a) := ((unhide X2).get 1 rfl).cell 0
  have t1 : W.cell? ⟨g2, 1, none⟩ = some (u32v T.b) := ((unhide X2).get 1 rfl).cell 1
  have t2 : W.cell? ⟨g2, 2, none⟩ = some (u32v T.c) := ((unhide X2).get 1 rfl).cell 2
  have t3 : W.cell? ⟨g2, 3, none⟩ = some (u32v T.d) := ((unhide X2).get 1 rfl).cell 3
  have n1 : ¬ g2 = w.heap.size := by omega
  have n2 : ¬ w.heap.size = g2 := by omega
  go_region_held3 (fun W => W.cell? ⟨g2, 0, none⟩ = some (u32v T.a) ∧ W.cell? ⟨g2, 1, none⟩ = some (u32v T.b) ∧ W.cell? ⟨g2, 2, none⟩ = some (u32v T.c) ∧ W.cell? ⟨g2, 3, none⟩ = some (u32v T.d)) (first | exact ⟨by with_reducible assumption, by with_reducible assumption, by with_reducible assumption, by with_reducible assumption⟩ | exact ⟨by go_simp, by go_simp, by go_simp, by go_simp⟩)
    (first
    | (go_at_call 72; refine (unhide hN _ (unhide X2).drew.bl).mono ?_; rintro e w5 ⟨rfl, rfl⟩)
    | (go_at_call 37; refine (unhide hC _ (unhide X2).drew.bl).mono ?_; rintro e w6 ⟨A6, c6, rfl, o6, hb6⟩
       have X6 : Fx w w6 [(w.heap.size, 55, zBx), (g2, 24, stC T)] [(w.heap.size, .slice A6 out.length c6, out)] [] := Fx.addR (Fx.call (unhide X2).drew hb6) (ownsRow_mono o6 (unhide X2).bl.size) (Fx.call (unhide X2).drew hb6).bl.size
       have k6 : w.heap.size < w6.heap.size := (X6.get 0 rfl).lt
       have f0 : w6.cell? ⟨g2, 0, none⟩ = some (u32v T.a) := (X6.get 1 rfl).cell 0
       have f1 : w6.cell? ⟨g2, 1, none⟩ = some (u32v T.b) := (X6.get 1 rfl).cell 1
       have f2 : w6.cell? ⟨g2, 2, none⟩ = some (u32v T.c) := (X6.get 1 rfl).cell 2
       have f3 : w6.cell? ⟨g2, 3, none⟩ = some (u32v T.d) := (X6.get 1 rfl).cell 3
       have z0 : w6.cell? ⟨w.heap.size, 0, none⟩ = some (.int .u64 0) := (X6.get 0 rfl).cell 0
       have z1 : w6.cell? ⟨w.heap.size, 1, none⟩ = some (.slice none 0 0) := (X6.get 0 rfl).cell 1
       have z2 : w6.cell? ⟨w.heap.size, 2, none⟩ = some (.int .u32 0) := (X6.get 0 rfl).cell 2
       have z3 : w6.cell? ⟨w.heap.size, 3, none⟩ = some (.int .u32 0) := (X6.get 0 rfl).cell 3
       have z4 : w6.cell? ⟨w.heap.size, 4, none⟩ = some (.int .u32 0) := (X6.get 0 rfl).cell 4
       have z5 : w6.cell? ⟨w.heap.size, 5, none⟩ = some (.int .u32 0) := (X6.get 0 rfl).cell 5
       have r0 : w6.frozen? ⟨w.heap.size, 0, none⟩ = false := (X6.get 0 rfl).frozen 0
       have r1 : w6.frozen? ⟨w.heap.size, 1, none⟩ = false := (X6.get 0 rfl).frozen 1
       have r2 : w6.frozen? ⟨w.heap.size, 2, none⟩ = false := (X6.get 0 rfl).frozen 2
       have r3 : w6.frozen? ⟨w.heap.size, 3, none⟩ = false := (X6.get 0 rfl).frozen 3
       have r4 : w6.frozen? ⟨w.heap.size, 4, none⟩ = false := (X6.get 0 rfl).frozen 4
       have r5 : w6.frozen? ⟨w.heap.size, 5, none⟩ = false := (X6.get 0 rfl).frozen 5
       replace X6 := hide X6
       clear o6 hb6))
  go_wp2_with (fail)
  exact ret_b2 rfl w.heap.size (bxC n (.slice A6 out.length c6) T) (.int .i64 0) rfl rfl rfl (Blk.set6 ((unhide X6).get 0 rfl)) rfl ⟨A6, c6, rfl, own_set6 ((unhide X6).get 0 rfl) ((unhide X6).own 0 rfl), below_set6 (unhide X6).bl (Nat.le_refl _)⟩
end Go.Proofs.YthkccpemgmpadaaGreatDoor

namespace Go.Proofs.YthkccpemgmpadaaGreatDoor
set_option maxRecDepth 100000
open Go.RowKit
section
attribute [local go_sem] guard24
end
end Go.Proofs.YthkccpemgmpadaaGreatDoor

namespace Go.Proofs.YthkccpemgmpadaaGreatDoor
set_option maxRecDepth 100000
open Go.RowKit Go.ChangeShapes Go.WideShapes Go.ChangeAt Go.Deep Go.Joins
section
variable {H : Type} {enc : TypeId × Value → H} {P : Program} {w : World} {base : Nat} {spare : Nat → Bool} {held : Bool}
theorem u8v_of {z : Int} (h : (Lit.int .u8 z).wf = true) : Value.int .u8 z = u8v (UInt8.ofNat z.toNat) := by
  have hz : 0 ≤ z ∧ z < 256 := by
    have e : IntKind.u8.min ≤ z ∧ z ≤ IntKind.u8.max := by simpa [Lit.wf] using h
    have e1 : IntKind.u8.min = 0 := by decide
    have e2 : IntKind.u8.max = 255 := by decide
    omega
  have : n8 (UInt8.ofNat z.toNat) = z := by
    unfold n8
    rw [UInt8.toNat_ofNat']
    omega
  show Value.int .u8 z = .int .u8 (n8 _)
  rw [this]
theorem spot_none {w : World} {a : Addr} {u : Value} (h : w.cell? (a.add 0) = some u) : a.spot = none := by
  have h1 := World.cell?_spot h
  unfold Addr.add at h1
  simpa using h1
theorem open_bs {t e : TypeId} {fuel : Nat} {cs : List Value} {x : DataW H × List MemPlace} (ht : P.underlying t = some (.slice e)) (he : P.underlying e = some (.int .u8)) (hc : P.cellsOf e = 1)
    (h : DataW.trod enc P w base spare held fuel t cs = some x) : ∃ A c l, cs = [.slice A l.length c] ∧ Bs 0 w.heap.size w (.slice A l.length c) l := by
  rcases open_ints ht he hc h with ⟨rfl, _⟩ | ⟨a, len, cap, zs, rfl, _, hl, hm, hz, _, hcell, hwz⟩
  · exact ⟨none, 0, [], rfl, none, 0, rfl, by simp, by omega, fun h0 => absurd h0 (by simp)⟩
  · have hzl : len ≤ zs.length := by rw [hz]; split <;> omega
    have hll : ((zs.take len).map fun z => UInt8.ofNat z.toNat).length = len := by simp [hzl]
    unfold maxLen at hm
    refine ⟨some a, cap, (zs.take len).map fun z => UInt8.ofNat z.toNat, by rw [hll], some a, cap, rfl, by omega, by omega, fun h0 => ?_⟩
    obtain ⟨b, off, spot⟩ := a
    have hc0 := hcell 0 (by omega)
    obtain rfl : spot = none := spot_none hc0
    have hb := World.block_lt_of_cell? w _ hc0
    rw [add_none] at hb
    refine ⟨b, off, rfl, Nat.zero_le _, hb, fun i hi => ?_⟩
    have hi' : i < zs.length := by omega
    have hci := hcell i hi'
    have hw := hwz zs[i] (List.getElem_mem _)
    have hg : zs.getD i 0 = zs[i] := by simp [List.getD_eq_getElem?_getD, hi']
    rw [hg, u8v_of hw, add_none] at hci
    rw [hci]
    simp
theorem u32v_of {z : Int} (h : (Lit.int .u32 z).wf = true) : Value.int .u32 z = u32v (BitVec.ofInt 32 z) := by
  have hz : 0 ≤ z ∧ z < 4294967296 := by
    have e : IntKind.u32.min ≤ z ∧ z ≤ IntKind.u32.max := by simpa [Lit.wf] using h
    have e1 : IntKind.u32.min = 0 := by decide
    have e2 : IntKind.u32.max = 4294967295 := by decide
    omega
  obtain ⟨n, rfl⟩ := Int.eq_ofNat_of_zero_le hz.1
  rw [BitVec.ofInt_natCast, n32_lit n (by omega)]
theorem open_bytes {r : Reach} {b0 : Nat} {v : Value} {d : DataW H} {p : List MemPlace} {t e : TypeId} (ht : P.underlying t = some (.slice e)) (he : P.underlying e = some (.int .u8)) (hc : P.cellsOf e = 1)
    (hv : Value.okWide P w r b0 t v) (h : DataW.Trod enc P w base spare held t v d p) : ∃ l, Bs 0 w.heap.size w v l := by
  obtain ⟨a1, n1, c1, rfl⟩ := okWide_slice ht hv
  obtain ⟨fuel, hf⟩ := h
  obtain ⟨A, c, l, hcs, hb⟩ := open_bs ht he hc hf
  have e : Value.slice a1 n1 c1 = .slice A l.length c := by simpa [Value.cells] using hcs
  rw [e]
  exact ⟨l, hb⟩
theorem okWide_array {t e : TypeId} {n : Nat} {r : Reach} {b0 : Nat} {v : Value} (ht : P.underlying t = some (.array n e)) (h : Value.okWide P w r b0 t v) : ∃ cs, v = .agg cs ∧ cs.size = P.cellsOf t := by
  simp only [Value.okWide, ht] at h
  obtain ⟨cs, h1, h2, _⟩ := h
  exact ⟨cs, h1, h2⟩
theorem open_state {r : Reach} {b0 : Nat} {v : Value} {d : DataW H} {p : List MemPlace} {t e : TypeId} (ht : P.underlying t = some (.array 4 e)) (he : P.underlying e = some (.int .u32)) (hc : P.cellsOf e = 1) (hct : P.cellsOf t = 4)
    (hv : Value.okWide P w r b0 t v) (h : DataW.Trod enc P w base spare held t v d p) : ∃ s, v = stV s := by
  obtain ⟨cs, rfl, hsz⟩ := okWide_array ht hv
  rw [hct] at hsz
  obtain ⟨fuel, hf⟩ := h
  obtain ⟨xs, m, rfl, hx, hlen, hn, hel⟩ := DataW.trod_array ht hf
  rw [hc] at hel
  have key : ∀ i, i < 4 → ∃ x : Reg, (Value.agg cs).cells.toList[i]? = some (u32v x) := by
    intro i hi
    have hxi : i < xs.length := by omega
    have h1 := hel i hi
    rw [Nat.mul_one, List.getElem?_eq_getElem hxi] at h1
    obtain ⟨k, e1, e2, hw⟩ := DataW.trod_int he h1
    refine ⟨BitVec.ofInt 32 k, ?_⟩
    have h4 : (((Value.agg cs).cells.toList.drop i).take 1)[0]? = some (Value.int .u32 k) := by rw [e1]; rfl
    rw [List.getElem?_take, if_pos (by omega), List.getElem?_drop, Nat.add_zero] at h4
    rw [h4, u32v_of hw]
  obtain ⟨x0, k0⟩ := key 0 (by omega)
  obtain ⟨x1, k1⟩ := key 1 (by omega)
  obtain ⟨x2, k2⟩ := key 2 (by omega)
  obtain ⟨x3, k3⟩ := key 3 (by omega)
  have hcs : (Value.agg cs).cells = cs := rfl
  rw [hcs] at k0 k1 k2 k3
  refine ⟨⟨x0, x1, x2, x3⟩, ?_⟩
  congr 1
  apply Array.ext
  · rw [hsz]; rfl
  · intro i h1 h2
    have hi : i < 4 := by omega
    rw [Array.getElem?_toList] at k0 k1 k2 k3
    match i, hi with
    | 0, _ => rw [Array.getElem?_eq_getElem h1] at k0; exact Option.some.inj k0
    | 1, _ => rw [Array.getElem?_eq_getElem h1] at k1; exact Option.some.inj k1
    | 2, _ => rw [Array.getElem?_eq_getElem h1] at k2; exact Option.some.inj k2
    | 3, _ => rw [Array.getElem?_eq_getElem h1] at k3; exact Option.some.inj k3
end
theorem own : ownKnob Tryz.prog.godebug = none := by kernel_rfl
theorem laidOut : laidOutB Tryz.prog = true := by kernel_rfl
theorem cells5 : Tryz.prog.cellsOf 5 = 1 := by kernel_rfl
theorem cells22 : Tryz.prog.cellsOf 22 = 1 := by kernel_rfl
theorem cells24 : Tryz.prog.cellsOf 24 = 4 := by kernel_rfl
theorem cells3 : Tryz.prog.cellsOf 3 = 1 := by kernel_rfl
theorem gTab : Tryz.prog.globalNamed "tansy/perm.turns" = some 0 := by kernel_rfl
theorem tTab : (Tryz.prog.globals[0]?).map (·.type) = some 174 := by kernel_rfl
def laidL : List (String × DataW Unit) := [("tansy/perm.turns", Rows.laid_tansy_perm_turns)]
theorem door_met (os : Os) (args : Array Value) : laidMetH Tryz.prog laidL ((World.doorLaid Tryz.prog 14 os).forCall (fun _ _ => 0) ⟨#[], args, []⟩).memory :=
  laidMetH_of_parts3 (fuel := 8) (laidMet_of_run' 8 (by kernel_rfl) (by kernel_rfl)) (by kernel_rfl) (by kernel_rfl)
theorem tab_of_laid {W : World} (h : laidMetH Tryz.prog laidL W) : Tab W := by
  rw [MakeChecks.laidMetH_plain _ _ _ (by kernel_rfl)] at h
  obtain ⟨ps, ⟨g0, t0, cs0, f0, p0, q0, hg0, ht0, hv0, hd0, _, _⟩, _, _⟩ := h
  obtain rfl := Option.some.inj (gTab.symm.trans hg0)
  obtain rfl := Option.some.inj (tTab.symm.trans ht0)
  obtain ⟨xs, m1, rfl, hx1, hlen, hn3, hel⟩ := DataW.trod_array Tryz.underlying174 hd0
  simp only [Prod.mk.injEq] at hx1
  have c3 := cells3
  let L : List Int := [16, 12, 8, 7]
  have hlist : (Rows.laid_tansy_perm_turns : DataW Unit) = .agg (L.map fun n : Int => DataW.lit (Lit.int .i64 n)) := by rfl
  have hx := hlist.symm.trans hx1.1
  injection hx with hx
  have key : ∀ i (hi : i < 4), W.cell? ⟨0, i, none⟩ = some (.int .i64 (L[i]'hi)) := by
    intro i hi
    have hxi : i < xs.length := by omega
    have h1 := hel i hi
    rw [c3, Nat.mul_one, List.getElem?_eq_getElem hxi] at h1
    obtain ⟨k, e1, e2, _⟩ := DataW.trod_int Tryz.underlying3 h1
    have htl : i < L.length := hi
    have h2 : (xs.map (·.1))[i]? = some (DataW.lit (Lit.int .i64 (L[i]'hi))) := by
      rw [← hx, List.getElem?_map, List.getElem?_eq_getElem htl]
      rfl
    rw [List.getElem?_map, List.getElem?_eq_getElem hxi, e2] at h2
    have hk : k = L[i]'hi := by simpa using h2
    have hv := World.var?_cell hg0 hv0 i
    rw [hv]
    have h3 : cs0.toList[i]? = some (.int .i64 k) := by
      have h4 : ((cs0.toList.drop i).take 1)[0]? = some (Value.int .i64 k) := by rw [e1]; rfl
      rw [List.getElem?_take, if_pos (by omega), List.getElem?_drop, Nat.add_zero] at h4
      exact h4
    rw [Array.getElem?_toList] at h3
    rw [h3, hk]
  have k0 := key 0 (by omega)
  exact ⟨World.block_lt_of_cell? W _ k0, k0, key 1 (by omega), key 2 (by omega), key 3 (by omega)⟩
end Go.Proofs.YthkccpemgmpadaaGreatDoor
