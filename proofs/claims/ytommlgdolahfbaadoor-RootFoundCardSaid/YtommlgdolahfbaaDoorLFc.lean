import Derived.Test.YtommlgdolahfbaaDoorLF
namespace Go.Proofs.YtommlgdolahfbaaDoor
set_option maxRecDepth 100000
open Go.RowKit
section
attribute [-go_sem] run_eql_struct run_neq_struct
attribute [local go_sem] run_eql_rt run_neq_rt guardR
set_option maxHeartbeats 8000000 in
theorem found_b2x (A A' : Option Addr) (c c' : Nat) (d : Dk) (r : Rt) (hT : OkT r) (a : Int) (A3 : Option Addr) (c3 : Nat) (b : List UInt8) (w : World) (ht : Tab w) (h : Dsk 0 w.heap.size w (.agg #[.slice A d.dry.length c, .slice A' d.wet.length c', .int .i64 d.left]) d) (hb : Bs 0 w.heap.size w (.slice A3 b.length c3) b) (hw : fewB d = true) (hn : b.length ≤ 100) (hE : (wrR d r).2 = 0) (h2 : (fdR d).2 = 0) (h3 : r.gen < (fdR d).1.gen) (h4 : (fdR d).1.gen % 2 = r.gen % 2) (h5 : (wrD (wrR d r).1 a b).2 ≠ 0) :
    Calls Tryd.prog 5 #[.agg #[.slice A d.dry.length c, .slice A' d.wet.length c', .int .i64 d.left], (.agg #[.int .u64 (r.gen : Nat), .int .i64 r.at_, .int .i64 r.len, .int .i64 r.long, .int .u32 (r.sum : Nat), .int .u64 (r.next : Nat)]), .int .i64 a, .slice A3 b.length c3] w fun e w' => e = .returned (.bool true) ∧ Below w.heap.size w w' := by
  have hl := fun W (hB : Below w.heap.size w W) => live_any W (ht.below hB (Nat.le_refl _))
  have hf := fun W (hB : Below w.heap.size w W) => few_any 0 _ d W (h.grow hB)
  rw [hw] at hf
  have hn1 : ¬ (100 : Int) < (b.length : Int) := by omega
  obtain ⟨s1, s2⟩ := few_small hw
  have hF0 := fun W (hB : Below w.heap.size w W) => Find_any 0 _ d W (ht.below hB (Nat.le_refl _)) (h.grow hB) (by omega) (by omega)
  have hS := fun W (hB : Below w.heap.size w W) => Write_form' 0 _ d r W (ht.below hB (Nat.le_refl _)) hT (h.grow hB) (by omega) (by omega)
  have hgo := went_of hE
  obtain ⟨f1, f2, f3⟩ := hgo.found hT
  have s3 : (wrR d r).1.dry.length ≤ 300000 := by rw [hgo.lenW]; omega
  have s4 : (wrR d r).1.wet.length = 0 := by rw [hgo.wetW]; rfl
  have hF1 := fun lo v W (hB : Below w.heap.size w W) (hx : Dsk lo W.heap.size W v (wrR d r).1) => Find_any lo v (wrR d r).1 W (ht.below hB (Nat.le_refl _)) hx (by omega) (by omega)
  have hS2 := fun lo v W (hB : Below w.heap.size w W) (hx : Dsk lo W.heap.size W v (wrR d r).1) => Write2_form 0 v (.slice A3 b.length c3) (wrR d r).1 a b W (hx.mono (Nat.zero_le _) (Nat.le_refl _)) (hb.grow hB) (by omega) (by omega)
  rw [hE] at hS
  rw [f1] at hF1
  obtain ⟨p, Ep, hp⟩ : ∃ p Ep, fdR d = (p, Ep) := ⟨_, _, rfl⟩
  obtain ⟨q, hqq⟩ : ∃ q, q = (fdR (wrR d r).1).1 := ⟨_, rfl⟩
  rw [← hqq] at hF1
  rw [hp] at hF0 h2 h3 h4
  simp only [] at h2 h3 h4
  obtain ⟨Xd, Ex, hXd⟩ : ∃ Xd Ex, wrD (wrR d r).1 a b = (Xd, Ex) := ⟨_, _, rfl⟩
  rw [hXd] at hS2 h5
  obtain ⟨Wd, hWd⟩ : ∃ Wd, Wd = (wrR d r).1 := ⟨_, rfl⟩
  rw [← hWd] at hS hF1 hS2 s3 s4
  simp only [] at h5
  subst h2
  have g3 : ¬ (p.gen : Int) ≤ (r.gen : Int) := by omega
  have g3b : (r.gen : Int) < (p.gen : Int) := by omega
  have g4 : ((p.gen : Int) % 2 != (r.gen : Int) % 2) = false := by simp; omega
  have g5 : (Ex != 0) = true := by simpa using h5
  replace hF0 := hide hF0; replace hS := hide hS; replace hF1 := hide hF1; replace hS2 := hide hS2
  have g1 : (((Wd.wet.length : Nat) : Int) != 0) = false := by rw [s4]; rfl
  clear s4
  generalize d.dry.length = n at *
  generalize d.wet.length = m at *
  generalize d.left = l at *
  have X0 : Gx w ((w.alloc (.cells #[.slice A n c, .slice A' m c', .int .i64 l] 31)).alloc (.cells #[.int .u64 (r.gen : Nat), .int .i64 r.at_, .int .i64 r.len, .int .i64 r.long, .int .u32 (r.sum : Nat), .int .u64 (r.next : Nat)] 27)) [(w.heap.size, 31, #[.slice A n c, .slice A' m c', .int .i64 l]), (w.heap.size + 1, 27, #[.int .u64 (r.gen : Nat), .int .i64 r.at_, .int .i64 r.len, .int .i64 r.long, .int .u32 (r.sum : Nat), .int .u64 (r.next : Nat)])] [] [] := ((Gx.nil w).newB w.heap.size rfl 31 #[.slice A n c, .slice A' m c', .int .i64 l]).newB (w.heap.size + 1) (by simp) 27 #[.int .u64 (r.gen : Nat), .int .i64 r.at_, .int .i64 r.len, .int .i64 r.long, .int .u32 (r.sum : Nat), .int .u64 (r.next : Nat)]
  replace X0 := hide X0; replace hl := hide hl; replace hf := hide hf
  clear ht h hb hw hT hn s1 s2 hgo f1 f2 f3 s3 hp hXd hWd hE hqq h3 h4 h5
  have tk0 : True := trivial
  have tk1 : True := trivial
  have tk2 : True := trivial
  have tk3 : True := trivial
  have tk4 : True := trivial
  have tk5 : True := trivial
  go_enter Tryd.func5, Tryd.ntmps5
  go_upto_region 1 with (fail)
  generalize hW : World.alloc (World.alloc w _) _ = W at *
  clear hW
  obtain ⟨ca0_0, ca0_1, ca0_2⟩ := ck3 ((unhide X0).get 0 rfl)
  have q0 := ((unhide X0).get 0 rfl).lt
  obtain ⟨ca1_0, ca1_1, ca1_2, ca1_3, ca1_4, ca1_5⟩ := zk6 ((unhide X0).get 1 rfl)
  have q1 := ((unhide X0).get 1 rfl).lt
  go_wp2_with (first
    | (have _t := tk0; clear tk0 _t; go_at_call 8; refine (unhide hl _ (unhide X0).bl).mono ?_; rintro e w0 ⟨rfl, b0⟩
       have Y0 : Gx w w0 [(w.heap.size, 31, #[.slice A n c, .slice A' m c', .int .i64 l]), (w.heap.size + 1, 27, #[.int .u64 (r.gen : Nat), .int .i64 r.at_, .int .i64 r.len, .int .i64 r.long, .int .u32 (r.sum : Nat), .int .u64 (r.next : Nat)])] [] [] := (unhide X0).call b0
       clear ca0_0 ca0_1 ca0_2 q0 ca1_0 ca1_1 ca1_2 ca1_3 ca1_4 ca1_5 q1
       obtain ⟨ca0_0, ca0_1, ca0_2⟩ := ck3 (Y0.get 0 rfl)
       have q0 := (Y0.get 0 rfl).lt
       obtain ⟨ca1_0, ca1_1, ca1_2, ca1_3, ca1_4, ca1_5⟩ := zk6 (Y0.get 1 rfl)
       have q1 := (Y0.get 1 rfl).lt
       have X1 := hide Y0
       clear X0 b0 Y0)
    | (have _t := tk1; clear tk1 _t; go_at_call 9; refine (unhide hf _ (unhide X1).bl).mono ?_; rintro e w1 ⟨rfl, b1⟩
       have Y1 : Gx w w1 [(w.heap.size, 31, #[.slice A n c, .slice A' m c', .int .i64 l]), (w.heap.size + 1, 27, #[.int .u64 (r.gen : Nat), .int .i64 r.at_, .int .i64 r.len, .int .i64 r.long, .int .u32 (r.sum : Nat), .int .u64 (r.next : Nat)])] [] [] := (unhide X1).call b1
       clear ca0_0 ca0_1 ca0_2 q0 ca1_0 ca1_1 ca1_2 ca1_3 ca1_4 ca1_5 q1
       obtain ⟨ca0_0, ca0_1, ca0_2⟩ := ck3 (Y1.get 0 rfl)
       have q0 := (Y1.get 0 rfl).lt
       obtain ⟨ca1_0, ca1_1, ca1_2, ca1_3, ca1_4, ca1_5⟩ := zk6 (Y1.get 1 rfl)
       have q1 := (Y1.get 1 rfl).lt
       have X2 := hide Y1
       clear X1 b1 Y1)
    | (have _t := tk2; clear tk2 _t; go_at_call 17; refine (unhide hF0 _ (unhide X2).bl).mono ?_; rintro e w2 ⟨rfl, b2⟩
       have Y2 : Gx w w2 [(w.heap.size, 31, #[.slice A n c, .slice A' m c', .int .i64 l]), (w.heap.size + 1, 27, #[.int .u64 (r.gen : Nat), .int .i64 r.at_, .int .i64 r.len, .int .i64 r.long, .int .u32 (r.sum : Nat), .int .u64 (r.next : Nat)])] [] [] := (unhide X2).call b2
       clear ca0_0 ca0_1 ca0_2 q0 ca1_0 ca1_1 ca1_2 ca1_3 ca1_4 ca1_5 q1
       obtain ⟨ca0_0, ca0_1, ca0_2⟩ := ck3 (Y2.get 0 rfl)
       have q0 := (Y2.get 0 rfl).lt
       obtain ⟨ca1_0, ca1_1, ca1_2, ca1_3, ca1_4, ca1_5⟩ := zk6 (Y2.get 1 rfl)
       have q1 := (Y2.get 1 rfl).lt
       have Y2b : Gx w (w2.alloc (.cells #[.int .u64 (p.gen : Nat), .int .i64 p.at_, .int .i64 p.len, .int .i64 p.long, .int .u32 (p.sum : Nat), .int .u64 (p.next : Nat)] 27)) [(w.heap.size, 31, #[.slice A n c, .slice A' m c', .int .i64 l]), (w.heap.size + 1, 27, #[.int .u64 (r.gen : Nat), .int .i64 r.at_, .int .i64 r.len, .int .i64 r.long, .int .u32 (r.sum : Nat), .int .u64 (r.next : Nat)]), (w2.heap.size, 27, #[.int .u64 (p.gen : Nat), .int .i64 p.at_, .int .i64 p.len, .int .i64 p.long, .int .u32 (p.sum : Nat), .int .u64 (p.next : Nat)])] [] [] := Y2.newB (w2.heap.size) rfl 27 #[.int .u64 (p.gen : Nat), .int .i64 p.at_, .int .i64 p.len, .int .i64 p.long, .int .u32 (p.sum : Nat), .int .u64 (p.next : Nat)]
       have X3 := hide Y2b
       clear X2 b2 Y2 Y2b)
    | (have _t := tk3; clear tk3 _t; go_at_call 15; refine (unhide hS _ (unhide X3).bl).mono ?_; rintro e w3 ⟨A4, c4, B4, e4, rfl, x4, b3⟩
       have Y3 : Gx w w3 [(w.heap.size, 31, #[.slice A n c, .slice A' m c', .int .i64 l]), (w.heap.size + 1, 27, #[.int .u64 (r.gen : Nat), .int .i64 r.at_, .int .i64 r.len, .int .i64 r.long, .int .u32 (r.sum : Nat), .int .u64 (r.next : Nat)]), (w2.heap.size, 27, #[.int .u64 (p.gen : Nat), .int .i64 p.at_, .int .i64 p.len, .int .i64 p.long, .int .u32 (p.sum : Nat), .int .u64 (p.next : Nat)])] [] [] := (unhide X3).call b3
       have Y3d : Gx w w3 [(w.heap.size, 31, #[.slice A n c, .slice A' m c', .int .i64 l]), (w.heap.size + 1, 27, #[.int .u64 (r.gen : Nat), .int .i64 r.at_, .int .i64 r.len, .int .i64 r.long, .int .u32 (r.sum : Nat), .int .u64 (r.next : Nat)]), (w2.heap.size, 27, #[.int .u64 (p.gen : Nat), .int .i64 p.at_, .int .i64 p.len, .int .i64 p.long, .int .u32 (p.sum : Nat), .int .u64 (p.next : Nat)])] [((w2.alloc (.cells #[.int .u64 (p.gen : Nat), .int .i64 p.at_, .int .i64 p.len, .int .i64 p.long, .int .u32 (p.sum : Nat), .int .u64 (p.next : Nat)] 27)).heap.size, w3.heap.size, .agg #[.slice A4 Wd.dry.length c4, .slice B4 Wd.wet.length e4, .int .i64 Wd.left], Wd)] [] := Y3.addD x4
       clear ca0_0 ca0_1 ca0_2 q0 ca1_0 ca1_1 ca1_2 ca1_3 ca1_4 ca1_5 q1
       obtain ⟨ca0_0, ca0_1, ca0_2⟩ := ck3 (Y3d.get 0 rfl)
       have q0 := (Y3d.get 0 rfl).lt
       obtain ⟨ca1_0, ca1_1, ca1_2, ca1_3, ca1_4, ca1_5⟩ := zk6 (Y3d.get 1 rfl)
       have q1 := (Y3d.get 1 rfl).lt
       obtain ⟨ca2_0, ca2_1, ca2_2, ca2_3, ca2_4, ca2_5⟩ := zk6 (Y3d.get 2 rfl)
       have q2 := (Y3d.get 2 rfl).lt
       have Y3db : Gx w (w3.alloc (.cells #[.slice A4 Wd.dry.length c4, .slice B4 Wd.wet.length e4, .int .i64 Wd.left] 31)) [(w.heap.size, 31, #[.slice A n c, .slice A' m c', .int .i64 l]), (w.heap.size + 1, 27, #[.int .u64 (r.gen : Nat), .int .i64 r.at_, .int .i64 r.len, .int .i64 r.long, .int .u32 (r.sum : Nat), .int .u64 (r.next : Nat)]), (w2.heap.size, 27, #[.int .u64 (p.gen : Nat), .int .i64 p.at_, .int .i64 p.len, .int .i64 p.long, .int .u32 (p.sum : Nat), .int .u64 (p.next : Nat)]), (w3.heap.size, 31, #[.slice A4 Wd.dry.length c4, .slice B4 Wd.wet.length e4, .int .i64 Wd.left])] [((w2.alloc (.cells #[.int .u64 (p.gen : Nat), .int .i64 p.at_, .int .i64 p.len, .int .i64 p.long, .int .u32 (p.sum : Nat), .int .u64 (p.next : Nat)] 27)).heap.size, w3.heap.size, .agg #[.slice A4 Wd.dry.length c4, .slice B4 Wd.wet.length e4, .int .i64 Wd.left], Wd)] [] := Y3d.newB (w3.heap.size) rfl 31 #[.slice A4 Wd.dry.length c4, .slice B4 Wd.wet.length e4, .int .i64 Wd.left]
       have X4 := hide Y3db
       clear X3 b3 Y3 Y3d Y3db)
    | (have _t := tk4; clear tk4 _t; go_at_call 17; refine (unhide hF1 _ _ _ (unhide X4).bl ((unhide X4).dr 0 rfl)).mono ?_; rintro e w4 ⟨rfl, b4⟩
       have Y4 : Gx w w4 [(w.heap.size, 31, #[.slice A n c, .slice A' m c', .int .i64 l]), (w.heap.size + 1, 27, #[.int .u64 (r.gen : Nat), .int .i64 r.at_, .int .i64 r.len, .int .i64 r.long, .int .u32 (r.sum : Nat), .int .u64 (r.next : Nat)]), (w2.heap.size, 27, #[.int .u64 (p.gen : Nat), .int .i64 p.at_, .int .i64 p.len, .int .i64 p.long, .int .u32 (p.sum : Nat), .int .u64 (p.next : Nat)]), (w3.heap.size, 31, #[.slice A4 Wd.dry.length c4, .slice B4 Wd.wet.length e4, .int .i64 Wd.left])] [((w2.alloc (.cells #[.int .u64 (p.gen : Nat), .int .i64 p.at_, .int .i64 p.len, .int .i64 p.long, .int .u32 (p.sum : Nat), .int .u64 (p.next : Nat)] 27)).heap.size, w3.heap.size, .agg #[.slice A4 Wd.dry.length c4, .slice B4 Wd.wet.length e4, .int .i64 Wd.left], Wd)] [] := (unhide X4).call b4
       clear ca0_0 ca0_1 ca0_2 q0 ca1_0 ca1_1 ca1_2 ca1_3 ca1_4 ca1_5 q1 ca2_0 ca2_1 ca2_2 ca2_3 ca2_4 ca2_5 q2
       obtain ⟨ca0_0, ca0_1, ca0_2⟩ := ck3 (Y4.get 0 rfl)
       have q0 := (Y4.get 0 rfl).lt
       obtain ⟨ca1_0, ca1_1, ca1_2, ca1_3, ca1_4, ca1_5⟩ := zk6 (Y4.get 1 rfl)
       have q1 := (Y4.get 1 rfl).lt
       obtain ⟨ca2_0, ca2_1, ca2_2, ca2_3, ca2_4, ca2_5⟩ := zk6 (Y4.get 2 rfl)
       have q2 := (Y4.get 2 rfl).lt
       obtain ⟨ca3_0, ca3_1, ca3_2⟩ := ck3 (Y4.get 3 rfl)
       have q3 := (Y4.get 3 rfl).lt
       have Y4b : Gx w (w4.alloc (.cells #[.int .u64 (q.gen : Nat), .int .i64 q.at_, .int .i64 q.len, .int .i64 q.long, .int .u32 (q.sum : Nat), .int .u64 (q.next : Nat)] 27)) [(w.heap.size, 31, #[.slice A n c, .slice A' m c', .int .i64 l]), (w.heap.size + 1, 27, #[.int .u64 (r.gen : Nat), .int .i64 r.at_, .int .i64 r.len, .int .i64 r.long, .int .u32 (r.sum : Nat), .int .u64 (r.next : Nat)]), (w2.heap.size, 27, #[.int .u64 (p.gen : Nat), .int .i64 p.at_, .int .i64 p.len, .int .i64 p.long, .int .u32 (p.sum : Nat), .int .u64 (p.next : Nat)]), (w3.heap.size, 31, #[.slice A4 Wd.dry.length c4, .slice B4 Wd.wet.length e4, .int .i64 Wd.left]), (w4.heap.size, 27, #[.int .u64 (q.gen : Nat), .int .i64 q.at_, .int .i64 q.len, .int .i64 q.long, .int .u32 (q.sum : Nat), .int .u64 (q.next : Nat)])] [((w2.alloc (.cells #[.int .u64 (p.gen : Nat), .int .i64 p.at_, .int .i64 p.len, .int .i64 p.long, .int .u32 (p.sum : Nat), .int .u64 (p.next : Nat)] 27)).heap.size, w3.heap.size, .agg #[.slice A4 Wd.dry.length c4, .slice B4 Wd.wet.length e4, .int .i64 Wd.left], Wd)] [] := Y4.newB (w4.heap.size) rfl 27 #[.int .u64 (q.gen : Nat), .int .i64 q.at_, .int .i64 q.len, .int .i64 q.long, .int .u32 (q.sum : Nat), .int .u64 (q.next : Nat)]
       have X5 := hide Y4b
       clear X4 b4 Y4 Y4b)
    | (have _t := tk5; clear tk5 _t; go_at_call 23; refine (unhide hS2 _ _ _ (unhide X5).bl ((unhide X5).dr 0 rfl)).mono ?_; rintro e w5 ⟨A6, c6, B6, e6, rfl, x6, b5⟩
       have Y5 : Gx w w5 [(w.heap.size, 31, #[.slice A n c, .slice A' m c', .int .i64 l]), (w.heap.size + 1, 27, #[.int .u64 (r.gen : Nat), .int .i64 r.at_, .int .i64 r.len, .int .i64 r.long, .int .u32 (r.sum : Nat), .int .u64 (r.next : Nat)]), (w2.heap.size, 27, #[.int .u64 (p.gen : Nat), .int .i64 p.at_, .int .i64 p.len, .int .i64 p.long, .int .u32 (p.sum : Nat), .int .u64 (p.next : Nat)]), (w3.heap.size, 31, #[.slice A4 Wd.dry.length c4, .slice B4 Wd.wet.length e4, .int .i64 Wd.left]), (w4.heap.size, 27, #[.int .u64 (q.gen : Nat), .int .i64 q.at_, .int .i64 q.len, .int .i64 q.long, .int .u32 (q.sum : Nat), .int .u64 (q.next : Nat)])] [((w2.alloc (.cells #[.int .u64 (p.gen : Nat), .int .i64 p.at_, .int .i64 p.len, .int .i64 p.long, .int .u32 (p.sum : Nat), .int .u64 (p.next : Nat)] 27)).heap.size, w3.heap.size, .agg #[.slice A4 Wd.dry.length c4, .slice B4 Wd.wet.length e4, .int .i64 Wd.left], Wd)] [] := (unhide X5).call b5
       have Y5d : Gx w w5 [(w.heap.size, 31, #[.slice A n c, .slice A' m c', .int .i64 l]), (w.heap.size + 1, 27, #[.int .u64 (r.gen : Nat), .int .i64 r.at_, .int .i64 r.len, .int .i64 r.long, .int .u32 (r.sum : Nat), .int .u64 (r.next : Nat)]), (w2.heap.size, 27, #[.int .u64 (p.gen : Nat), .int .i64 p.at_, .int .i64 p.len, .int .i64 p.long, .int .u32 (p.sum : Nat), .int .u64 (p.next : Nat)]), (w3.heap.size, 31, #[.slice A4 Wd.dry.length c4, .slice B4 Wd.wet.length e4, .int .i64 Wd.left]), (w4.heap.size, 27, #[.int .u64 (q.gen : Nat), .int .i64 q.at_, .int .i64 q.len, .int .i64 q.long, .int .u32 (q.sum : Nat), .int .u64 (q.next : Nat)])] [((w2.alloc (.cells #[.int .u64 (p.gen : Nat), .int .i64 p.at_, .int .i64 p.len, .int .i64 p.long, .int .u32 (p.sum : Nat), .int .u64 (p.next : Nat)] 27)).heap.size, w3.heap.size, .agg #[.slice A4 Wd.dry.length c4, .slice B4 Wd.wet.length e4, .int .i64 Wd.left], Wd), (0, w5.heap.size, .agg #[.slice A6 Xd.dry.length c6, .slice B6 Xd.wet.length e6, .int .i64 Xd.left], Xd)] [] := Y5.addD (x6.mono (Nat.zero_le _) (Nat.le_refl _))
       clear ca0_0 ca0_1 ca0_2 q0 ca1_0 ca1_1 ca1_2 ca1_3 ca1_4 ca1_5 q1 ca2_0 ca2_1 ca2_2 ca2_3 ca2_4 ca2_5 q2 ca3_0 ca3_1 ca3_2 q3
       obtain ⟨ca0_0, ca0_1, ca0_2⟩ := ck3 (Y5d.get 0 rfl)
       have q0 := (Y5d.get 0 rfl).lt
       obtain ⟨ca1_0, ca1_1, ca1_2, ca1_3, ca1_4, ca1_5⟩ := zk6 (Y5d.get 1 rfl)
       have q1 := (Y5d.get 1 rfl).lt
       obtain ⟨ca2_0, ca2_1, ca2_2, ca2_3, ca2_4, ca2_5⟩ := zk6 (Y5d.get 2 rfl)
       have q2 := (Y5d.get 2 rfl).lt
       obtain ⟨ca3_0, ca3_1, ca3_2⟩ := ck3 (Y5d.get 3 rfl)
       have q3 := (Y5d.get 3 rfl).lt
       obtain ⟨ca4_0, ca4_1, ca4_2, ca4_3, ca4_4, ca4_5⟩ := zk6 (Y5d.get 4 rfl)
       have q4 := (Y5d.get 4 rfl).lt
       have Y5db : Gx w (w5.alloc (.cells #[.slice A6 Xd.dry.length c6, .slice B6 Xd.wet.length e6, .int .i64 Xd.left] 31)) [(w.heap.size, 31, #[.slice A n c, .slice A' m c', .int .i64 l]), (w.heap.size + 1, 27, #[.int .u64 (r.gen : Nat), .int .i64 r.at_, .int .i64 r.len, .int .i64 r.long, .int .u32 (r.sum : Nat), .int .u64 (r.next : Nat)]), (w2.heap.size, 27, #[.int .u64 (p.gen : Nat), .int .i64 p.at_, .int .i64 p.len, .int .i64 p.long, .int .u32 (p.sum : Nat), .int .u64 (p.next : Nat)]), (w3.heap.size, 31, #[.slice A4 Wd.dry.length c4, .slice B4 Wd.wet.length e4, .int .i64 Wd.left]), (w4.heap.size, 27, #[.int .u64 (q.gen : Nat), .int .i64 q.at_, .int .i64 q.len, .int .i64 q.long, .int .u32 (q.sum : Nat), .int .u64 (q.next : Nat)]), (w5.heap.size, 31, #[.slice A6 Xd.dry.length c6, .slice B6 Xd.wet.length e6, .int .i64 Xd.left])] [((w2.alloc (.cells #[.int .u64 (p.gen : Nat), .int .i64 p.at_, .int .i64 p.len, .int .i64 p.long, .int .u32 (p.sum : Nat), .int .u64 (p.next : Nat)] 27)).heap.size, w3.heap.size, .agg #[.slice A4 Wd.dry.length c4, .slice B4 Wd.wet.length e4, .int .i64 Wd.left], Wd), (0, w5.heap.size, .agg #[.slice A6 Xd.dry.length c6, .slice B6 Xd.wet.length e6, .int .i64 Xd.left], Xd)] [] := Y5d.newB (w5.heap.size) rfl 31 #[.slice A6 Xd.dry.length c6, .slice B6 Xd.wet.length e6, .int .i64 Xd.left]
       have X6 := hide Y5db
       clear X5 b5 Y5 Y5d Y5db)
    | fail)
  go_ret
  exact ⟨ret_b rfl (by simp), (unhide X6).bl⟩
set_option maxHeartbeats 8000000 in
theorem found_b2y (A A' : Option Addr) (c c' : Nat) (d : Dk) (r : Rt) (hT : OkT r) (a : Int) (A3 : Option Addr) (c3 : Nat) (b : List UInt8) (w : World) (ht : Tab w) (h : Dsk 0 w.heap.size w (.agg #[.slice A d.dry.length c, .slice A' d.wet.length c', .int .i64 d.left]) d) (hb : Bs 0 w.heap.size w (.slice A3 b.length c3) b) (hw : fewB d = true) (hn : b.length ≤ 100) (hE : (wrR d r).2 = 0) (h2 : (fdR d).2 = 0) (h3 : r.gen < (fdR d).1.gen) (h4 : (fdR d).1.gen % 2 = r.gen % 2) (h5 : (wrD (wrR d r).1 a b).2 = 0) (h6 : a < 2) :
    Calls Tryd.prog 5 #[.agg #[.slice A d.dry.length c, .slice A' d.wet.length c', .int .i64 d.left], (.agg #[.int .u64 (r.gen : Nat), .int .i64 r.at_, .int .i64 r.len, .int .i64 r.long, .int .u32 (r.sum : Nat), .int .u64 (r.next : Nat)]), .int .i64 a, .slice A3 b.length c3] w fun e w' => e = .returned (.bool true) ∧ Below w.heap.size w w' := by
  have hl := fun W (hB : Below w.heap.size w W) => live_any W (ht.below hB (Nat.le_refl _))
  have hf := fun W (hB : Below w.heap.size w W) => few_any 0 _ d W (h.grow hB)
  rw [hw] at hf
  have hn1 : ¬ (100 : Int) < (b.length : Int) := by omega
  obtain ⟨s1, s2⟩ := few_small hw
  have hF0 := fun W (hB : Below w.heap.size w W) => Find_any 0 _ d W (ht.below hB (Nat.le_refl _)) (h.grow hB) (by omega) (by omega)
  have hS := fun W (hB : Below w.heap.size w W) => Write_form' 0 _ d r W (ht.below hB (Nat.le_refl _)) hT (h.grow hB) (by omega) (by omega)
  have hgo := went_of hE
  obtain ⟨f1, f2, f3⟩ := hgo.found hT
  have s3 : (wrR d r).1.dry.length ≤ 300000 := by rw [hgo.lenW]; omega
  have s4 : (wrR d r).1.wet.length = 0 := by rw [hgo.wetW]; rfl
  have hF1 := fun lo v W (hB : Below w.heap.size w W) (hx : Dsk lo W.heap.size W v (wrR d r).1) => Find_any lo v (wrR d r).1 W (ht.below hB (Nat.le_refl _)) hx (by omega) (by omega)
  have hS2 := fun lo v W (hB : Below w.heap.size w W) (hx : Dsk lo W.heap.size W v (wrR d r).1) => Write2_form 0 v (.slice A3 b.length c3) (wrR d r).1 a b W (hx.mono (Nat.zero_le _) (Nat.le_refl _)) (hb.grow hB) (by omega) (by omega)
  rw [hE] at hS
  rw [f1] at hF1
  obtain ⟨p, Ep, hp⟩ : ∃ p Ep, fdR d = (p, Ep) := ⟨_, _, rfl⟩
  obtain ⟨q, hqq⟩ : ∃ q, q = (fdR (wrR d r).1).1 := ⟨_, rfl⟩
  rw [← hqq] at hF1
  rw [hp] at hF0 h2 h3 h4
  simp only [] at h2 h3 h4
  obtain ⟨Xd, Ex, hXd⟩ : ∃ Xd Ex, wrD (wrR d r).1 a b = (Xd, Ex) := ⟨_, _, rfl⟩
  rw [hXd] at hS2 h5
  obtain ⟨Wd, hWd⟩ : ∃ Wd, Wd = (wrR d r).1 := ⟨_, rfl⟩
  rw [← hWd] at hS hF1 hS2 s3 s4
  simp only [] at h5
  subst h2
  have g3 : ¬ (p.gen : Int) ≤ (r.gen : Int) := by omega
  have g3b : (r.gen : Int) < (p.gen : Int) := by omega
  have g4 : ((p.gen : Int) % 2 != (r.gen : Int) % 2) = false := by simp; omega
  subst h5
  replace hF0 := hide hF0; replace hS := hide hS; replace hF1 := hide hF1; replace hS2 := hide hS2
  have g1 : (((Wd.wet.length : Nat) : Int) != 0) = false := by rw [s4]; rfl
  clear s4
  generalize d.dry.length = n at *
  generalize d.wet.length = m at *
  generalize d.left = l at *
  have X0 : Gx w ((w.alloc (.cells #[.slice A n c, .slice A' m c', .int .i64 l] 31)).alloc (.cells #[.int .u64 (r.gen : Nat), .int .i64 r.at_, .int .i64 r.len, .int .i64 r.long, .int .u32 (r.sum : Nat), .int .u64 (r.next : Nat)] 27)) [(w.heap.size, 31, #[.slice A n c, .slice A' m c', .int .i64 l]), (w.heap.size + 1, 27, #[.int .u64 (r.gen : Nat), .int .i64 r.at_, .int .i64 r.len, .int .i64 r.long, .int .u32 (r.sum : Nat), .int .u64 (r.next : Nat)])] [] [] := ((Gx.nil w).newB w.heap.size rfl 31 #[.slice A n c, .slice A' m c', .int .i64 l]).newB (w.heap.size + 1) (by simp) 27 #[.int .u64 (r.gen : Nat), .int .i64 r.at_, .int .i64 r.len, .int .i64 r.long, .int .u32 (r.sum : Nat), .int .u64 (r.next : Nat)]
  replace X0 := hide X0; replace hl := hide hl; replace hf := hide hf
  clear ht h hb hw hT hn s1 s2 hgo f1 f2 f3 s3 hp hXd hWd hE hqq h3 h4
  have tk0 : True := trivial
  have tk1 : True := trivial
  have tk2 : True := trivial
  have tk3 : True := trivial
  have tk4 : True := trivial
  have tk5 : True := trivial
  go_enter Tryd.func5, Tryd.ntmps5
  go_upto_region 1 with (fail)
  generalize hW : World.alloc (World.alloc w _) _ = W at *
  clear hW
  obtain ⟨ca0_0, ca0_1, ca0_2⟩ := ck3 ((unhide X0).get 0 rfl)
  have q0 := ((unhide X0).get 0 rfl).lt
  obtain ⟨ca1_0, ca1_1, ca1_2, ca1_3, ca1_4, ca1_5⟩ := zk6 ((unhide X0).get 1 rfl)
  have q1 := ((unhide X0).get 1 rfl).lt
  go_wp2_with (first
    | (have _t := tk0; clear tk0 _t; go_at_call 8; refine (unhide hl _ (unhide X0).bl).mono ?_; rintro e w0 ⟨rfl, b0⟩
       have Y0 : Gx w w0 [(w.heap.size, 31, #[.slice A n c, .slice A' m c', .int .i64 l]), (w.heap.size + 1, 27, #[.int .u64 (r.gen : Nat), .int .i64 r.at_, .int .i64 r.len, .int .i64 r.long, .int .u32 (r.sum : Nat), .int .u64 (r.next : Nat)])] [] [] := (unhide X0).call b0
       clear ca0_0 ca0_1 ca0_2 q0 ca1_0 ca1_1 ca1_2 ca1_3 ca1_4 ca1_5 q1
       obtain ⟨ca0_0, ca0_1, ca0_2⟩ := ck3 (Y0.get 0 rfl)
       have q0 := (Y0.get 0 rfl).lt
       obtain ⟨ca1_0, ca1_1, ca1_2, ca1_3, ca1_4, ca1_5⟩ := zk6 (Y0.get 1 rfl)
       have q1 := (Y0.get 1 rfl).lt
       have X1 := hide Y0
       clear X0 b0 Y0)
    | (have _t := tk1; clear tk1 _t; go_at_call 9; refine (unhide hf _ (unhide X1).bl).mono ?_; rintro e w1 ⟨rfl, b1⟩
       have Y1 : Gx w w1 [(w.heap.size, 31, #[.slice A n c, .slice A' m c', .int .i64 l]), (w.heap.size + 1, 27, #[.int .u64 (r.gen : Nat), .int .i64 r.at_, .int .i64 r.len, .int .i64 r.long, .int .u32 (r.sum : Nat), .int .u64 (r.next : Nat)])] [] [] := (unhide X1).call b1
       clear ca0_0 ca0_1 ca0_2 q0 ca1_0 ca1_1 ca1_2 ca1_3 ca1_4 ca1_5 q1
       obtain ⟨ca0_0, ca0_1, ca0_2⟩ := ck3 (Y1.get 0 rfl)
       have q0 := (Y1.get 0 rfl).lt
       obtain ⟨ca1_0, ca1_1, ca1_2, ca1_3, ca1_4, ca1_5⟩ := zk6 (Y1.get 1 rfl)
       have q1 := (Y1.get 1 rfl).lt
       have X2 := hide Y1
       clear X1 b1 Y1)
    | (have _t := tk2; clear tk2 _t; go_at_call 17; refine (unhide hF0 _ (unhide X2).bl).mono ?_; rintro e w2 ⟨rfl, b2⟩
       have Y2 : Gx w w2 [(w.heap.size, 31, #[.slice A n c, .slice A' m c', .int .i64 l]), (w.heap.size + 1, 27, #[.int .u64 (r.gen : Nat), .int .i64 r.at_, .int .i64 r.len, .int .i64 r.long, .int .u32 (r.sum : Nat), .int .u64 (r.next : Nat)])] [] [] := (unhide X2).call b2
       clear ca0_0 ca0_1 ca0_2 q0 ca1_0 ca1_1 ca1_2 ca1_3 ca1_4 ca1_5 q1
       obtain ⟨ca0_0, ca0_1, ca0_2⟩ := ck3 (Y2.get 0 rfl)
       have q0 := (Y2.get 0 rfl).lt
       obtain ⟨ca1_0, ca1_1, ca1_2, ca1_3, ca1_4, ca1_5⟩ := zk6 (Y2.get 1 rfl)
       have q1 := (Y2.get 1 rfl).lt
       have Y2b : Gx w (w2.alloc (.cells #[.int .u64 (p.gen : Nat), .int .i64 p.at_, .int .i64 p.len, .int .i64 p.long, .int .u32 (p.sum : Nat), .int .u64 (p.next : Nat)] 27)) [(w.heap.size, 31, #[.slice A n c, .slice A' m c', .int .i64 l]), (w.heap.size + 1, 27, #[.int .u64 (r.gen : Nat), .int .i64 r.at_, .int .i64 r.len, .int .i64 r.long, .int .u32 (r.sum : Nat), .int .u64 (r.next : Nat)]), (w2.heap.size, 27, #[.int .u64 (p.gen : Nat), .int .i64 p.at_, .int .i64 p.len, .int .i64 p.long, .int .u32 (p.sum : Nat), .int .u64 (p.next : Nat)])] [] [] := Y2.newB (w2.heap.size) rfl 27 #[.int .u64 (p.gen : Nat), .int .i64 p.at_, .int .i64 p.len, .int .i64 p.long, .int .u32 (p.sum : Nat), .int .u64 (p.next : Nat)]
       have X3 := hide Y2b
       clear X2 b2 Y2 Y2b)
    | (have _t := tk3; clear tk3 _t; go_at_call 15; refine (unhide hS _ (unhide X3).bl).mono ?_; rintro e w3 ⟨A4, c4, B4, e4, rfl, x4, b3⟩
       have Y3 : Gx w w3 [(w.heap.size, 31, #[.slice A n c, .slice A' m c', .int .i64 l]), (w.heap.size + 1, 27, #[.int .u64 (r.gen : Nat), .int .i64 r.at_, .int .i64 r.len, .int .i64 r.long, .int .u32 (r.sum : Nat), .int .u64 (r.next : Nat)]), (w2.heap.size, 27, #[.int .u64 (p.gen : Nat), .int .i64 p.at_, .int .i64 p.len, .int .i64 p.long, .int .u32 (p.sum : Nat), .int .u64 (p.next : Nat)])] [] [] := (unhide X3).call b3
       have Y3d : Gx w w3 [(w.heap.size, 31, #[.slice A n c, .slice A' m c', .int .i64 l]), (w.heap.size + 1, 27, #[.int .u64 (r.gen : Nat), .int .i64 r.at_, .int .i64 r.len, .int .i64 r.long, .int .u32 (r.sum : Nat), .int .u64 (r.next : Nat)]), (w2.heap.size, 27, #[.int .u64 (p.gen : Nat), .int .i64 p.at_, .int .i64 p.len, .int .i64 p.long, .int .u32 (p.sum : Nat), .int .u64 (p.next : Nat)])] [((w2.alloc (.cells #[.int .u64 (p.gen : Nat), .int .i64 p.at_, .int .i64 p.len, .int .i64 p.long, .int .u32 (p.sum : Nat), .int .u64 (p.next : Nat)] 27)).heap.size, w3.heap.size, .agg #[.slice A4 Wd.dry.length c4, .slice B4 Wd.wet.length e4, .int .i64 Wd.left], Wd)] [] := Y3.addD x4
       clear ca0_0 ca0_1 ca0_2 q0 ca1_0 ca1_1 ca1_2 ca1_3 ca1_4 ca1_5 q1
       obtain ⟨ca0_0, ca0_1, ca0_2⟩ := ck3 (Y3d.get 0 rfl)
       have q0 := (Y3d.get 0 rfl).lt
       obtain ⟨ca1_0, ca1_1, ca1_2, ca1_3, ca1_4, ca1_5⟩ := zk6 (Y3d.get 1 rfl)
       have q1 := (Y3d.get 1 rfl).lt
       obtain ⟨ca2_0, ca2_1, ca2_2, ca2_3, ca2_4, ca2_5⟩ := zk6 (Y3d.get 2 rfl)
       have q2 := (Y3d.get 2 rfl).lt
       have Y3db : Gx w (w3.alloc (.cells #[.slice A4 Wd.dry.length c4, .slice B4 Wd.wet.length e4, .int .i64 Wd.left] 31)) [(w.heap.size, 31, #[.slice A n c, .slice A' m c', .int .i64 l]), (w.heap.size + 1, 27, #[.int .u64 (r.gen : Nat), .int .i64 r.at_, .int .i64 r.len, .int .i64 r.long, .int .u32 (r.sum : Nat), .int .u64 (r.next : Nat)]), (w2.heap.size, 27, #[.int .u64 (p.gen : Nat), .int .i64 p.at_, .int .i64 p.len, .int .i64 p.long, .int .u32 (p.sum : Nat), .int .u64 (p.next : Nat)]), (w3.heap.size, 31, #[.slice A4 Wd.dry.length c4, .slice B4 Wd.wet.length e4, .int .i64 Wd.left])] [((w2.alloc (.cells #[.int .u64 (p.gen : Nat), .int .i64 p.at_, .int .i64 p.len, .int .i64 p.long, .int .u32 (p.sum : Nat), .int .u64 (p.next : Nat)] 27)).heap.size, w3.heap.size, .agg #[.slice A4 Wd.dry.length c4, .slice B4 Wd.wet.length e4, .int .i64 Wd.left], Wd)] [] := Y3d.newB (w3.heap.size) rfl 31 #[.slice A4 Wd.dry.length c4, .slice B4 Wd.wet.length e4, .int .i64 Wd.left]
       have X4 := hide Y3db
       clear X3 b3 Y3 Y3d Y3db)
    | (have _t := tk4; clear tk4 _t; go_at_call 17; refine (unhide hF1 _ _ _ (unhide X4).bl ((unhide X4).dr 0 rfl)).mono ?_; rintro e w4 ⟨rfl, b4⟩
       have Y4 : Gx w w4 [(w.heap.size, 31, #[.slice A n c, .slice A' m c', .int .i64 l]), (w.heap.size + 1, 27, #[.int .u64 (r.gen : Nat), .int .i64 r.at_, .int .i64 r.len, .int .i64 r.long, .int .u32 (r.sum : Nat), .int .u64 (r.next : Nat)]), (w2.heap.size, 27, #[.int .u64 (p.gen : Nat), .int .i64 p.at_, .int .i64 p.len, .int .i64 p.long, .int .u32 (p.sum : Nat), .int .u64 (p.next : Nat)]), (w3.heap.size, 31, #[.slice A4 Wd.dry.length c4, .slice B4 Wd.wet.length e4, .int .i64 Wd.left])] [((w2.alloc (.cells #[.int .u64 (p.gen : Nat), .int .i64 p.at_, .int .i64 p.len, .int .i64 p.long, .int .u32 (p.sum : Nat), .int .u64 (p.next : Nat)] 27)).heap.size, w3.heap.size, .agg #[.slice A4 Wd.dry.length c4, .slice B4 Wd.wet.length e4, .int .i64 Wd.left], Wd)] [] := (unhide X4).call b4
       clear ca0_0 ca0_1 ca0_2 q0 ca1_0 ca1_1 ca1_2 ca1_3 ca1_4 ca1_5 q1 ca2_0 ca2_1 ca2_2 ca2_3 ca2_4 ca2_5 q2
       obtain ⟨ca0_0, ca0_1, ca0_2⟩ := ck3 (Y4.get 0 rfl)
       have q0 := (Y4.get 0 rfl).lt
       obtain ⟨ca1_0, ca1_1, ca1_2, ca1_3, ca1_4, ca1_5⟩ := zk6 (Y4.get 1 rfl)
       have q1 := (Y4.get 1 rfl).lt
       obtain ⟨ca2_0, ca2_1, ca2_2, ca2_3, ca2_4, ca2_5⟩ := zk6 (Y4.get 2 rfl)
       have q2 := (Y4.get 2 rfl).lt
       obtain ⟨ca3_0, ca3_1, ca3_2⟩ := ck3 (Y4.get 3 rfl)
       have q3 := (Y4.get 3 rfl).lt
       have Y4b : Gx w (w4.alloc (.cells #[.int .u64 (q.gen : Nat), .int .i64 q.at_, .int .i64 q.len, .int .i64 q.long, .int .u32 (q.sum : Nat), .int .u64 (q.next : Nat)] 27)) [(w.heap.size, 31, #[.slice A n c, .slice A' m c', .int .i64 l]), (w.heap.size + 1, 27, #[.int .u64 (r.gen : Nat), .int .i64 r.at_, .int .i64 r.len, .int .i64 r.long, .int .u32 (r.sum : Nat), .int .u64 (r.next : Nat)]), (w2.heap.size, 27, #[.int .u64 (p.gen : Nat), .int .i64 p.at_, .int .i64 p.len, .int .i64 p.long, .int .u32 (p.sum : Nat), .int .u64 (p.next : Nat)]), (w3.heap.size, 31, #[.slice A4 Wd.dry.length c4, .slice B4 Wd.wet.length e4, .int .i64 Wd.left]), (w4.heap.size, 27, #[.int .u64 (q.gen : Nat), .int .i64 q.at_, .int .i64 q.len, .int .i64 q.long, .int .u32 (q.sum : Nat), .int .u64 (q.next : Nat)])] [((w2.alloc (.cells #[.int .u64 (p.gen : Nat), .int .i64 p.at_, .int .i64 p.len, .int .i64 p.long, .int .u32 (p.sum : Nat), .int .u64 (p.next : Nat)] 27)).heap.size, w3.heap.size, .agg #[.slice A4 Wd.dry.length c4, .slice B4 Wd.wet.length e4, .int .i64 Wd.left], Wd)] [] := Y4.newB (w4.heap.size) rfl 27 #[.int .u64 (q.gen : Nat), .int .i64 q.at_, .int .i64 q.len, .int .i64 q.long, .int .u32 (q.sum : Nat), .int .u64 (q.next : Nat)]
       have X5 := hide Y4b
       clear X4 b4 Y4 Y4b)
    | (have _t := tk5; clear tk5 _t; go_at_call 23; refine (unhide hS2 _ _ _ (unhide X5).bl ((unhide X5).dr 0 rfl)).mono ?_; rintro e w5 ⟨A6, c6, B6, e6, rfl, x6, b5⟩
       have Y5 : Gx w w5 [(w.heap.size, 31, #[.slice A n c, .slice A' m c', .int .i64 l]), (w.heap.size + 1, 27, #[.int .u64 (r.gen : Nat), .int .i64 r.at_, .int .i64 r.len, .int .i64 r.long, .int .u32 (r.sum : Nat), .int .u64 (r.next : Nat)]), (w2.heap.size, 27, #[.int .u64 (p.gen : Nat), .int .i64 p.at_, .int .i64 p.len, .int .i64 p.long, .int .u32 (p.sum : Nat), .int .u64 (p.next : Nat)]), (w3.heap.size, 31, #[.slice A4 Wd.dry.length c4, .slice B4 Wd.wet.length e4, .int .i64 Wd.left]), (w4.heap.size, 27, #[.int .u64 (q.gen : Nat), .int .i64 q.at_, .int .i64 q.len, .int .i64 q.long, .int .u32 (q.sum : Nat), .int .u64 (q.next : Nat)])] [((w2.alloc (.cells #[.int .u64 (p.gen : Nat), .int .i64 p.at_, .int .i64 p.len, .int .i64 p.long, .int .u32 (p.sum : Nat), .int .u64 (p.next : Nat)] 27)).heap.size, w3.heap.size, .agg #[.slice A4 Wd.dry.length c4, .slice B4 Wd.wet.length e4, .int .i64 Wd.left], Wd)] [] := (unhide X5).call b5
       have Y5d : Gx w w5 [(w.heap.size, 31, #[.slice A n c, .slice A' m c', .int .i64 l]), (w.heap.size + 1, 27, #[.int .u64 (r.gen : Nat), .int .i64 r.at_, .int .i64 r.len, .int .i64 r.long, .int .u32 (r.sum : Nat), .int .u64 (r.next : Nat)]), (w2.heap.size, 27, #[.int .u64 (p.gen : Nat), .int .i64 p.at_, .int .i64 p.len, .int .i64 p.long, .int .u32 (p.sum : Nat), .int .u64 (p.next : Nat)]), (w3.heap.size, 31, #[.slice A4 Wd.dry.length c4, .slice B4 Wd.wet.length e4, .int .i64 Wd.left]), (w4.heap.size, 27, #[.int .u64 (q.gen : Nat), .int .i64 q.at_, .int .i64 q.len, .int .i64 q.long, .int .u32 (q.sum : Nat), .int .u64 (q.next : Nat)])] [((w2.alloc (.cells #[.int .u64 (p.gen : Nat), .int .i64 p.at_, .int .i64 p.len, .int .i64 p.long, .int .u32 (p.sum : Nat), .int .u64 (p.next : Nat)] 27)).heap.size, w3.heap.size, .agg #[.slice A4 Wd.dry.length c4, .slice B4 Wd.wet.length e4, .int .i64 Wd.left], Wd), (0, w5.heap.size, .agg #[.slice A6 Xd.dry.length c6, .slice B6 Xd.wet.length e6, .int .i64 Xd.left], Xd)] [] := Y5.addD (x6.mono (Nat.zero_le _) (Nat.le_refl _))
       clear ca0_0 ca0_1 ca0_2 q0 ca1_0 ca1_1 ca1_2 ca1_3 ca1_4 ca1_5 q1 ca2_0 ca2_1 ca2_2 ca2_3 ca2_4 ca2_5 q2 ca3_0 ca3_1 ca3_2 q3
       obtain ⟨ca0_0, ca0_1, ca0_2⟩ := ck3 (Y5d.get 0 rfl)
       have q0 := (Y5d.get 0 rfl).lt
       obtain ⟨ca1_0, ca1_1, ca1_2, ca1_3, ca1_4, ca1_5⟩ := zk6 (Y5d.get 1 rfl)
       have q1 := (Y5d.get 1 rfl).lt
       obtain ⟨ca2_0, ca2_1, ca2_2, ca2_3, ca2_4, ca2_5⟩ := zk6 (Y5d.get 2 rfl)
       have q2 := (Y5d.get 2 rfl).lt
       obtain ⟨ca3_0, ca3_1, ca3_2⟩ := ck3 (Y5d.get 3 rfl)
       have q3 := (Y5d.get 3 rfl).lt
       obtain ⟨ca4_0, ca4_1, ca4_2, ca4_3, ca4_4, ca4_5⟩ := zk6 (Y5d.get 4 rfl)
       have q4 := (Y5d.get 4 rfl).lt
       have Y5db : Gx w (w5.alloc (.cells #[.slice A6 Xd.dry.length c6, .slice B6 Xd.wet.length e6, .int .i64 Xd.left] 31)) [(w.heap.size, 31, #[.slice A n c, .slice A' m c', .int .i64 l]), (w.heap.size + 1, 27, #[.int .u64 (r.gen : Nat), .int .i64 r.at_, .int .i64 r.len, .int .i64 r.long, .int .u32 (r.sum : Nat), .int .u64 (r.next : Nat)]), (w2.heap.size, 27, #[.int .u64 (p.gen : Nat), .int .i64 p.at_, .int .i64 p.len, .int .i64 p.long, .int .u32 (p.sum : Nat), .int .u64 (p.next : Nat)]), (w3.heap.size, 31, #[.slice A4 Wd.dry.length c4, .slice B4 Wd.wet.length e4, .int .i64 Wd.left]), (w4.heap.size, 27, #[.int .u64 (q.gen : Nat), .int .i64 q.at_, .int .i64 q.len, .int .i64 q.long, .int .u32 (q.sum : Nat), .int .u64 (q.next : Nat)]), (w5.heap.size, 31, #[.slice A6 Xd.dry.length c6, .slice B6 Xd.wet.length e6, .int .i64 Xd.left])] [((w2.alloc (.cells #[.int .u64 (p.gen : Nat), .int .i64 p.at_, .int .i64 p.len, .int .i64 p.long, .int .u32 (p.sum : Nat), .int .u64 (p.next : Nat)] 27)).heap.size, w3.heap.size, .agg #[.slice A4 Wd.dry.length c4, .slice B4 Wd.wet.length e4, .int .i64 Wd.left], Wd), (0, w5.heap.size, .agg #[.slice A6 Xd.dry.length c6, .slice B6 Xd.wet.length e6, .int .i64 Xd.left], Xd)] [] := Y5d.newB (w5.heap.size) rfl 31 #[.slice A6 Xd.dry.length c6, .slice B6 Xd.wet.length e6, .int .i64 Xd.left]
       have X6 := hide Y5db
       clear X5 b5 Y5 Y5d Y5db)
    | fail)
  go_ret
  exact ⟨ret_b rfl (by simp), (unhide X6).bl⟩
set_option maxHeartbeats 8000000 in
theorem found_b2z (A A' : Option Addr) (c c' : Nat) (d : Dk) (r : Rt) (hT : OkT r) (a : Int) (A3 : Option Addr) (c3 : Nat) (b : List UInt8) (w : World) (ht : Tab w) (h : Dsk 0 w.heap.size w (.agg #[.slice A d.dry.length c, .slice A' d.wet.length c', .int .i64 d.left]) d) (hb : Bs 0 w.heap.size w (.slice A3 b.length c3) b) (hw : fewB d = true) (hn : b.length ≤ 100) (hE : (wrR d r).2 = 0) (h2 : (fdR d).2 = 0) (h3 : r.gen < (fdR d).1.gen) (h4 : (fdR d).1.gen % 2 = r.gen % 2) (h5 : (wrD (wrR d r).1 a b).2 = 0) (h6 : 2 ≤ a) :
    Calls Tryd.prog 5 #[.agg #[.slice A d.dry.length c, .slice A' d.wet.length c', .int .i64 d.left], (.agg #[.int .u64 (r.gen : Nat), .int .i64 r.at_, .int .i64 r.len, .int .i64 r.long, .int .u32 (r.sum : Nat), .int .u64 (r.next : Nat)]), .int .i64 a, .slice A3 b.length c3] w fun e w' => e = .returned (.bool true) ∧ Below w.heap.size w w' := by
  have hl := fun W (hB : Below w.heap.size w W) => live_any W (ht.below hB (Nat.le_refl _))
  have hf := fun W (hB : Below w.heap.size w W) => few_any 0 _ d W (h.grow hB)
  rw [hw] at hf
  have hn1 : ¬ (100 : Int) < (b.length : Int) := by omega
  obtain ⟨s1, s2⟩ := few_small hw
  have hF0 := fun W (hB : Below w.heap.size w W) => Find_any 0 _ d W (ht.below hB (Nat.le_refl _)) (h.grow hB) (by omega) (by omega)
  have hS := fun W (hB : Below w.heap.size w W) => Write_form' 0 _ d r W (ht.below hB (Nat.le_refl _)) hT (h.grow hB) (by omega) (by omega)
  have hgo := went_of hE
  obtain ⟨f1, f2, f3⟩ := hgo.found hT
  have s3 : (wrR d r).1.dry.length ≤ 300000 := by rw [hgo.lenW]; omega
  have s4 : (wrR d r).1.wet.length = 0 := by rw [hgo.wetW]; rfl
  have hF1 := fun lo v W (hB : Below w.heap.size w W) (hx : Dsk lo W.heap.size W v (wrR d r).1) => Find_any lo v (wrR d r).1 W (ht.below hB (Nat.le_refl _)) hx (by omega) (by omega)
  have hS2 := fun lo v W (hB : Below w.heap.size w W) (hx : Dsk lo W.heap.size W v (wrR d r).1) => Write2_form 0 v (.slice A3 b.length c3) (wrR d r).1 a b W (hx.mono (Nat.zero_le _) (Nat.le_refl _)) (hb.grow hB) (by omega) (by omega)
  have hfar := found_far hgo.holdW h6 h5
  obtain ⟨s5, s6⟩ := wrD_len (wrR d r).1 a b (by omega) (by omega)
  have hF2 := fun lo v W (hB : Below w.heap.size w W) (hx : Dsk lo W.heap.size W v (wrD (wrR d r).1 a b).1) => Find_any lo v (wrD (wrR d r).1 a b).1 W (ht.below hB (Nat.le_refl _)) hx (by omega) (by omega)
  rw [hfar, f1] at hF2
  rw [hE] at hS
  rw [f1] at hF1
  obtain ⟨p, Ep, hp⟩ : ∃ p Ep, fdR d = (p, Ep) := ⟨_, _, rfl⟩
  obtain ⟨q, hqq⟩ : ∃ q, q = (fdR (wrR d r).1).1 := ⟨_, rfl⟩
  rw [← hqq] at hF1 hF2
  rw [hp] at hF0 h2 h3 h4
  simp only [] at h2 h3 h4
  obtain ⟨Xd, Ex, hXd⟩ : ∃ Xd Ex, wrD (wrR d r).1 a b = (Xd, Ex) := ⟨_, _, rfl⟩
  rw [hXd] at hS2 h5 hF2
  obtain ⟨Wd, hWd⟩ : ∃ Wd, Wd = (wrR d r).1 := ⟨_, rfl⟩
  rw [← hWd] at hS hF1 hS2 s3 s4
  simp only [] at h5
  subst h2
  have g3 : ¬ (p.gen : Int) ≤ (r.gen : Int) := by omega
  have g3b : (r.gen : Int) < (p.gen : Int) := by omega
  have g4 : ((p.gen : Int) % 2 != (r.gen : Int) % 2) = false := by simp; omega
  subst h5
  have g6 : ¬ a < 2 := by omega
  replace hF0 := hide hF0; replace hS := hide hS; replace hF1 := hide hF1; replace hS2 := hide hS2; replace hF2 := hide hF2
  have g1 : (((Wd.wet.length : Nat) : Int) != 0) = false := by rw [s4]; rfl
  clear s4
  generalize d.dry.length = n at *
  generalize d.wet.length = m at *
  generalize d.left = l at *
  have X0 : Gx w ((w.alloc (.cells #[.slice A n c, .slice A' m c', .int .i64 l] 31)).alloc (.cells #[.int .u64 (r.gen : Nat), .int .i64 r.at_, .int .i64 r.len, .int .i64 r.long, .int .u32 (r.sum : Nat), .int .u64 (r.next : Nat)] 27)) [(w.heap.size, 31, #[.slice A n c, .slice A' m c', .int .i64 l]), (w.heap.size + 1, 27, #[.int .u64 (r.gen : Nat), .int .i64 r.at_, .int .i64 r.len, .int .i64 r.long, .int .u32 (r.sum : Nat), .int .u64 (r.next : Nat)])] [] [] := ((Gx.nil w).newB w.heap.size rfl 31 #[.slice A n c, .slice A' m c', .int .i64 l]).newB (w.heap.size + 1) (by simp) 27 #[.int .u64 (r.gen : Nat), .int .i64 r.at_, .int .i64 r.len, .int .i64 r.long, .int .u32 (r.sum : Nat), .int .u64 (r.next : Nat)]
  replace X0 := hide X0; replace hl := hide hl; replace hf := hide hf
  clear ht h hb hw hT hn s1 s2 hgo f1 f2 f3 s3 hp hXd hWd hE hqq h3 h4 hfar s5 s6 h6
  have tk0 : True := trivial
  have tk1 : True := trivial
  have tk2 : True := trivial
  have tk3 : True := trivial
  have tk4 : True := trivial
  have tk5 : True := trivial
  have tk6 : True := trivial
  go_enter Tryd.func5, Tryd.ntmps5
  go_upto_region 1 with (fail)
  generalize hW : World.alloc (World.alloc w _) _ = W at *
  clear hW
  obtain ⟨ca0_0, ca0_1, ca0_2⟩ := ck3 ((unhide X0).get 0 rfl)
  have q0 := ((unhide X0).get 0 rfl).lt
  obtain ⟨ca1_0, ca1_1, ca1_2, ca1_3, ca1_4, ca1_5⟩ := zk6 ((unhide X0).get 1 rfl)
  have q1 := ((unhide X0).get 1 rfl).lt
  go_wp2_with (first
    | (have _t := tk0; clear tk0 _t; go_at_call 8; refine (unhide hl _ (unhide X0).bl).mono ?_; rintro e w0 ⟨rfl, b0⟩
       have Y0 : Gx w w0 [(w.heap.size, 31, #[.slice A n c, .slice A' m c', .int .i64 l]), (w.heap.size + 1, 27, #[.int .u64 (r.gen : Nat), .int .i64 r.at_, .int .i64 r.len, .int .i64 r.long, .int .u32 (r.sum : Nat), .int .u64 (r.next : Nat)])] [] [] := (unhide X0).call b0
       clear ca0_0 ca0_1 ca0_2 q0 ca1_0 ca1_1 ca1_2 ca1_3 ca1_4 ca1_5 q1
       obtain ⟨ca0_0, ca0_1, ca0_2⟩ := ck3 (Y0.get 0 rfl)
       have q0 := (Y0.get 0 rfl).lt
       obtain ⟨ca1_0, ca1_1, ca1_2, ca1_3, ca1_4, ca1_5⟩ := zk6 (Y0.get 1 rfl)
       have q1 := (Y0.get 1 rfl).lt
       have X1 := hide Y0
       clear X0 b0 Y0)
    | (have _t := tk1; clear tk1 _t; go_at_call 9; refine (unhide hf _ (unhide X1).bl).mono ?_; rintro e w1 ⟨rfl, b1⟩
       have Y1 : Gx w w1 [(w.heap.size, 31, #[.slice A n c, .slice A' m c', .int .i64 l]), (w.heap.size + 1, 27, #[.int .u64 (r.gen : Nat), .int .i64 r.at_, .int .i64 r.len, .int .i64 r.long, .int .u32 (r.sum : Nat), .int .u64 (r.next : Nat)])] [] [] := (unhide X1).call b1
       clear ca0_0 ca0_1 ca0_2 q0 ca1_0 ca1_1 ca1_2 ca1_3 ca1_4 ca1_5 q1
       obtain ⟨ca0_0, ca0_1, ca0_2⟩ := ck3 (Y1.get 0 rfl)
       have q0 := (Y1.get 0 rfl).lt
       obtain ⟨ca1_0, ca1_1, ca1_2, ca1_3, ca1_4, ca1_5⟩ := zk6 (Y1.get 1 rfl)
       have q1 := (Y1.get 1 rfl).lt
       have X2 := hide Y1
       clear X1 b1 Y1)
    | (have _t := tk2; clear tk2 _t; go_at_call 17; refine (unhide hF0 _ (unhide X2).bl).mono ?_; rintro e w2 ⟨rfl, b2⟩
       have Y2 : Gx w w2 [(w.heap.size, 31, #[.slice A n c, .slice A' m c', .int .i64 l]), (w.heap.size + 1, 27, #[.int .u64 (r.gen : Nat), .int .i64 r.at_, .int .i64 r.len, .int .i64 r.long, .int .u32 (r.sum : Nat), .int .u64 (r.next : Nat)])] [] [] := (unhide X2).call b2
       clear ca0_0 ca0_1 ca0_2 q0 ca1_0 ca1_1 ca1_2 ca1_3 ca1_4 ca1_5 q1
       obtain ⟨ca0_0, ca0_1, ca0_2⟩ := ck3 (Y2.get 0 rfl)
       have q0 := (Y2.get 0 rfl).lt
       obtain ⟨ca1_0, ca1_1, ca1_2, ca1_3, ca1_4, ca1_5⟩ := zk6 (Y2.get 1 rfl)
       have q1 := (Y2.get 1 rfl).lt
       have Y2b : Gx w (w2.alloc (.cells #[.int .u64 (p.gen : Nat), .int .i64 p.at_, .int .i64 p.len, .int .i64 p.long, .int .u32 (p.sum : Nat), .int .u64 (p.next : Nat)] 27)) [(w.heap.size, 31, #[.slice A n c, .slice A' m c', .int .i64 l]), (w.heap.size + 1, 27, #[.int .u64 (r.gen : Nat), .int .i64 r.at_, .int .i64 r.len, .int .i64 r.long, .int .u32 (r.sum : Nat), .int .u64 (r.next : Nat)]), (w2.heap.size, 27, #[.int .u64 (p.gen : Nat), .int .i64 p.at_, .int .i64 p.len, .int .i64 p.long, .int .u32 (p.sum : Nat), .int .u64 (p.next : Nat)])] [] [] := Y2.newB (w2.heap.size) rfl 27 #[.int .u64 (p.gen : Nat), .int .i64 p.at_, .int .i64 p.len, .int .i64 p.long, .int .u32 (p.sum : Nat), .int .u64 (p.next : Nat)]
       have X3 := hide Y2b
       clear X2 b2 Y2 Y2b)
    | (have _t := tk3; clear tk3 _t; go_at_call 15; refine (unhide hS _ (unhide X3).bl).mono ?_; rintro e w3 ⟨A4, c4, B4, e4, rfl, x4, b3⟩
       have Y3 : Gx w w3 [(w.heap.size, 31, #[.slice A n c, .slice A' m c', .int .i64 l]), (w.heap.size + 1, 27, #[.int .u64 (r.gen : Nat), .int .i64 r.at_, .int .i64 r.len, .int .i64 r.long, .int .u32 (r.sum : Nat), .int .u64 (r.next : Nat)]), (w2.heap.size, 27, #[.int .u64 (p.gen : Nat), .int .i64 p.at_, .int .i64 p.len, .int .i64 p.long, .int .u32 (p.sum : Nat), .int .u64 (p.next : Nat)])] [] [] := (unhide X3).call b3
       have Y3d : Gx w w3 [(w.heap.size, 31, #[.slice A n c, .slice A' m c', .int .i64 l]), (w.heap.size + 1, 27, #[.int .u64 (r.gen : Nat), .int .i64 r.at_, .int .i64 r.len, .int .i64 r.long, .int .u32 (r.sum : Nat), .int .u64 (r.next : Nat)]), (w2.heap.size, 27, #[.int .u64 (p.gen : Nat), .int .i64 p.at_, .int .i64 p.len, .int .i64 p.long, .int .u32 (p.sum : Nat), .int .u64 (p.next : Nat)])] [((w2.alloc (.cells #[.int .u64 (p.gen : Nat), .int .i64 p.at_, .int .i64 p.len, .int .i64 p.long, .int .u32 (p.sum : Nat), .int .u64 (p.next : Nat)] 27)).heap.size, w3.heap.size, .agg #[.slice A4 Wd.dry.length c4, .slice B4 Wd.wet.length e4, .int .i64 Wd.left], Wd)] [] := Y3.addD x4
       clear ca0_0 ca0_1 ca0_2 q0 ca1_0 ca1_1 ca1_2 ca1_3 ca1_4 ca1_5 q1
       obtain ⟨ca0_0, ca0_1, ca0_2⟩ := ck3 (Y3d.get 0 rfl)
       have q0 := (Y3d.get 0 rfl).lt
       obtain ⟨ca1_0, ca1_1, ca1_2, ca1_3, ca1_4, ca1_5⟩ := zk6 (Y3d.get 1 rfl)
       have q1 := (Y3d.get 1 rfl).lt
       obtain ⟨ca2_0, ca2_1, ca2_2, ca2_3, ca2_4, ca2_5⟩ := zk6 (Y3d.get 2 rfl)
       have q2 := (Y3d.get 2 rfl).lt
       have Y3db : Gx w (w3.alloc (.cells #[.slice A4 Wd.dry.length c4, .slice B4 Wd.wet.length e4, .int .i64 Wd.left] 31)) [(w.heap.size, 31, #[.slice A n c, .slice A' m c', .int .i64 l]), (w.heap.size + 1, 27, #[.int .u64 (r.gen : Nat), .int .i64 r.at_, .int .i64 r.len, .int .i64 r.long, .int .u32 (r.sum : Nat), .int .u64 (r.next : Nat)]), (w2.heap.size, 27, #[.int .u64 (p.gen : Nat), .int .i64 p.at_, .int .i64 p.len, .int .i64 p.long, .int .u32 (p.sum : Nat), .int .u64 (p.next : Nat)]), (w3.heap.size, 31, #[.slice A4 Wd.dry.length c4, .slice B4 Wd.wet.length e4, .int .i64 Wd.left])] [((w2.alloc (.cells #[.int .u64 (p.gen : Nat), .int .i64 p.at_, .int .i64 p.len, .int .i64 p.long, .int .u32 (p.sum : Nat), .int .u64 (p.next : Nat)] 27)).heap.size, w3.heap.size, .agg #[.slice A4 Wd.dry.length c4, .slice B4 Wd.wet.length e4, .int .i64 Wd.left], Wd)] [] := Y3d.newB (w3.heap.size) rfl 31 #[.slice A4 Wd.dry.length c4, .slice B4 Wd.wet.length e4, .int .i64 Wd.left]
       have X4 := hide Y3db
       clear X3 b3 Y3 Y3d Y3db)
    | (have _t := tk4; clear tk4 _t; go_at_call 17; refine (unhide hF1 _ _ _ (unhide X4).bl ((unhide X4).dr 0 rfl)).mono ?_; rintro e w4 ⟨rfl, b4⟩
       have Y4 : Gx w w4 [(w.heap.size, 31, #[.slice A n c, .slice A' m c', .int .i64 l]), (w.heap.size + 1, 27, #[.int .u64 (r.gen : Nat), .int .i64 r.at_, .int .i64 r.len, .int .i64 r.long, .int .u32 (r.sum : Nat), .int .u64 (r.next : Nat)]), (w2.heap.size, 27, #[.int .u64 (p.gen : Nat), .int .i64 p.at_, .int .i64 p.len, .int .i64 p.long, .int .u32 (p.sum : Nat), .int .u64 (p.next : Nat)]), (w3.heap.size, 31, #[.slice A4 Wd.dry.length c4, .slice B4 Wd.wet.length e4, .int .i64 Wd.left])] [((w2.alloc (.cells #[.int .u64 (p.gen : Nat), .int .i64 p.at_, .int .i64 p.len, .int .i64 p.long, .int .u32 (p.sum : Nat), .int .u64 (p.next : Nat)] 27)).heap.size, w3.heap.size, .agg #[.slice A4 Wd.dry.length c4, .slice B4 Wd.wet.length e4, .int .i64 Wd.left], Wd)] [] := (unhide X4).call b4
       clear ca0_0 ca0_1 ca0_2 q0 ca1_0 ca1_1 ca1_2 ca1_3 ca1_4 ca1_5 q1 ca2_0 ca2_1 ca2_2 ca2_3 ca2_4 ca2_5 q2
       obtain ⟨ca0_0, ca0_1, ca0_2⟩ := ck3 (Y4.get 0 rfl)
       have q0 := (Y4.get 0 rfl).lt
       obtain ⟨ca1_0, ca1_1, ca1_2, ca1_3, ca1_4, ca1_5⟩ := zk6 (Y4.get 1 rfl)
       have q1 := (Y4.get 1 rfl).lt
       obtain ⟨ca2_0, ca2_1, ca2_2, ca2_3, ca2_4, ca2_5⟩ := zk6 (Y4.get 2 rfl)
       have q2 := (Y4.get 2 rfl).lt
       obtain ⟨ca3_0, ca3_1, ca3_2⟩ := ck3 (Y4.get 3 rfl)
       have q3 := (Y4.get 3 rfl).lt
       have Y4b : Gx w (w4.alloc (.cells #[.int .u64 (q.gen : Nat), .int .i64 q.at_, .int .i64 q.len, .int .i64 q.long, .int .u32 (q.sum : Nat), .int .u64 (q.next : Nat)] 27)) [(w.heap.size, 31, #[.slice A n c, .slice A' m c', .int .i64 l]), (w.heap.size + 1, 27, #[.int .u64 (r.gen : Nat), .int .i64 r.at_, .int .i64 r.len, .int .i64 r.long, .int .u32 (r.sum : Nat), .int .u64 (r.next : Nat)]), (w2.heap.size, 27, #[.int .u64 (p.gen : Nat), .int .i64 p.at_, .int .i64 p.len, .int .i64 p.long, .int .u32 (p.sum : Nat), .int .u64 (p.next : Nat)]), (w3.heap.size, 31, #[.slice A4 Wd.dry.length c4, .slice B4 Wd.wet.length e4, .int .i64 Wd.left]), (w4.heap.size, 27, #[.int .u64 (q.gen : Nat), .int .i64 q.at_, .int .i64 q.len, .int .i64 q.long, .int .u32 (q.sum : Nat), .int .u64 (q.next : Nat)])] [((w2.alloc (.cells #[.int .u64 (p.gen : Nat), .int .i64 p.at_, .int .i64 p.len, .int .i64 p.long, .int .u32 (p.sum : Nat), .int .u64 (p.next : Nat)] 27)).heap.size, w3.heap.size, .agg #[.slice A4 Wd.dry.length c4, .slice B4 Wd.wet.length e4, .int .i64 Wd.left], Wd)] [] := Y4.newB (w4.heap.size) rfl 27 #[.int .u64 (q.gen : Nat), .int .i64 q.at_, .int .i64 q.len, .int .i64 q.long, .int .u32 (q.sum : Nat), .int .u64 (q.next : Nat)]
       have X5 := hide Y4b
       clear X4 b4 Y4 Y4b)
    | (have _t := tk5; clear tk5 _t; go_at_call 23; refine (unhide hS2 _ _ _ (unhide X5).bl ((unhide X5).dr 0 rfl)).mono ?_; rintro e w5 ⟨A6, c6, B6, e6, rfl, x6, b5⟩
       have Y5 : Gx w w5 [(w.heap.size, 31, #[.slice A n c, .slice A' m c', .int .i64 l]), (w.heap.size + 1, 27, #[.int .u64 (r.gen : Nat), .int .i64 r.at_, .int .i64 r.len, .int .i64 r.long, .int .u32 (r.sum : Nat), .int .u64 (r.next : Nat)]), (w2.heap.size, 27, #[.int .u64 (p.gen : Nat), .int .i64 p.at_, .int .i64 p.len, .int .i64 p.long, .int .u32 (p.sum : Nat), .int .u64 (p.next : Nat)]), (w3.heap.size, 31, #[.slice A4 Wd.dry.length c4, .slice B4 Wd.wet.length e4, .int .i64 Wd.left]), (w4.heap.size, 27, #[.int .u64 (q.gen : Nat), .int .i64 q.at_, .int .i64 q.len, .int .i64 q.long, .int .u32 (q.sum : Nat), .int .u64 (q.next : Nat)])] [((w2.alloc (.cells #[.int .u64 (p.gen : Nat), .int .i64 p.at_, .int .i64 p.len, .int .i64 p.long, .int .u32 (p.sum : Nat), .int .u64 (p.next : Nat)] 27)).heap.size, w3.heap.size, .agg #[.slice A4 Wd.dry.length c4, .slice B4 Wd.wet.length e4, .int .i64 Wd.left], Wd)] [] := (unhide X5).call b5
       have Y5d : Gx w w5 [(w.heap.size, 31, #[.slice A n c, .slice A' m c', .int .i64 l]), (w.heap.size + 1, 27, #[.int .u64 (r.gen : Nat), .int .i64 r.at_, .int .i64 r.len, .int .i64 r.long, .int .u32 (r.sum : Nat), .int .u64 (r.next : Nat)]), (w2.heap.size, 27, #[.int .u64 (p.gen : Nat), .int .i64 p.at_, .int .i64 p.len, .int .i64 p.long, .int .u32 (p.sum : Nat), .int .u64 (p.next : Nat)]), (w3.heap.size, 31, #[.slice A4 Wd.dry.length c4, .slice B4 Wd.wet.length e4, .int .i64 Wd.left]), (w4.heap.size, 27, #[.int .u64 (q.gen : Nat), .int .i64 q.at_, .int .i64 q.len, .int .i64 q.long, .int .u32 (q.sum : Nat), .int .u64 (q.next : Nat)])] [((w2.alloc (.cells #[.int .u64 (p.gen : Nat), .int .i64 p.at_, .int .i64 p.len, .int .i64 p.long, .int .u32 (p.sum : Nat), .int .u64 (p.next : Nat)] 27)).heap.size, w3.heap.size, .agg #[.slice A4 Wd.dry.length c4, .slice B4 Wd.wet.length e4, .int .i64 Wd.left], Wd), (0, w5.heap.size, .agg #[.slice A6 Xd.dry.length c6, .slice B6 Xd.wet.length e6, .int .i64 Xd.left], Xd)] [] := Y5.addD (x6.mono (Nat.zero_le _) (Nat.le_refl _))
       clear ca0_0 ca0_1 ca0_2 q0 ca1_0 ca1_1 ca1_2 ca1_3 ca1_4 ca1_5 q1 ca2_0 ca2_1 ca2_2 ca2_3 ca2_4 ca2_5 q2 ca3_0 ca3_1 ca3_2 q3
       obtain ⟨ca0_0, ca0_1, ca0_2⟩ := ck3 (Y5d.get 0 rfl)
       have q0 := (Y5d.get 0 rfl).lt
       obtain ⟨ca1_0, ca1_1, ca1_2, ca1_3, ca1_4, ca1_5⟩ := zk6 (Y5d.get 1 rfl)
       have q1 := (Y5d.get 1 rfl).lt
       obtain ⟨ca2_0, ca2_1, ca2_2, ca2_3, ca2_4, ca2_5⟩ := zk6 (Y5d.get 2 rfl)
       have q2 := (Y5d.get 2 rfl).lt
       obtain ⟨ca3_0, ca3_1, ca3_2⟩ := ck3 (Y5d.get 3 rfl)
       have q3 := (Y5d.get 3 rfl).lt
       obtain ⟨ca4_0, ca4_1, ca4_2, ca4_3, ca4_4, ca4_5⟩ := zk6 (Y5d.get 4 rfl)
       have q4 := (Y5d.get 4 rfl).lt
       have Y5db : Gx w (w5.alloc (.cells #[.slice A6 Xd.dry.length c6, .slice B6 Xd.wet.length e6, .int .i64 Xd.left] 31)) [(w.heap.size, 31, #[.slice A n c, .slice A' m c', .int .i64 l]), (w.heap.size + 1, 27, #[.int .u64 (r.gen : Nat), .int .i64 r.at_, .int .i64 r.len, .int .i64 r.long, .int .u32 (r.sum : Nat), .int .u64 (r.next : Nat)]), (w2.heap.size, 27, #[.int .u64 (p.gen : Nat), .int .i64 p.at_, .int .i64 p.len, .int .i64 p.long, .int .u32 (p.sum : Nat), .int .u64 (p.next : Nat)]), (w3.heap.size, 31, #[.slice A4 Wd.dry.length c4, .slice B4 Wd.wet.length e4, .int .i64 Wd.left]), (w4.heap.size, 27, #[.int .u64 (q.gen : Nat), .int .i64 q.at_, .int .i64 q.len, .int .i64 q.long, .int .u32 (q.sum : Nat), .int .u64 (q.next : Nat)]), (w5.heap.size, 31, #[.slice A6 Xd.dry.length c6, .slice B6 Xd.wet.length e6, .int .i64 Xd.left])] [((w2.alloc (.cells #[.int .u64 (p.gen : Nat), .int .i64 p.at_, .int .i64 p.len, .int .i64 p.long, .int .u32 (p.sum : Nat), .int .u64 (p.next : Nat)] 27)).heap.size, w3.heap.size, .agg #[.slice A4 Wd.dry.length c4, .slice B4 Wd.wet.length e4, .int .i64 Wd.left], Wd), (0, w5.heap.size, .agg #[.slice A6 Xd.dry.length c6, .slice B6 Xd.wet.length e6, .int .i64 Xd.left], Xd)] [] := Y5d.newB (w5.heap.size) rfl 31 #[.slice A6 Xd.dry.length c6, .slice B6 Xd.wet.length e6, .int .i64 Xd.left]
       have X6 := hide Y5db
       clear X5 b5 Y5 Y5d Y5db)
    | (have _t := tk6; clear tk6 _t; go_at_call 17; refine (unhide hF2 _ _ _ (unhide X6).bl ((unhide X6).dr 1 rfl)).mono ?_; rintro e w6 ⟨rfl, b6⟩
       have Y6 : Gx w w6 [(w.heap.size, 31, #[.slice A n c, .slice A' m c', .int .i64 l]), (w.heap.size + 1, 27, #[.int .u64 (r.gen : Nat), .int .i64 r.at_, .int .i64 r.len, .int .i64 r.long, .int .u32 (r.sum : Nat), .int .u64 (r.next : Nat)]), (w2.heap.size, 27, #[.int .u64 (p.gen : Nat), .int .i64 p.at_, .int .i64 p.len, .int .i64 p.long, .int .u32 (p.sum : Nat), .int .u64 (p.next : Nat)]), (w3.heap.size, 31, #[.slice A4 Wd.dry.length c4, .slice B4 Wd.wet.length e4, .int .i64 Wd.left]), (w4.heap.size, 27, #[.int .u64 (q.gen : Nat), .int .i64 q.at_, .int .i64 q.len, .int .i64 q.long, .int .u32 (q.sum : Nat), .int .u64 (q.next : Nat)]), (w5.heap.size, 31, #[.slice A6 Xd.dry.length c6, .slice B6 Xd.wet.length e6, .int .i64 Xd.left])] [((w2.alloc (.cells #[.int .u64 (p.gen : Nat), .int .i64 p.at_, .int .i64 p.len, .int .i64 p.long, .int .u32 (p.sum : Nat), .int .u64 (p.next : Nat)] 27)).heap.size, w3.heap.size, .agg #[.slice A4 Wd.dry.length c4, .slice B4 Wd.wet.length e4, .int .i64 Wd.left], Wd), (0, w5.heap.size, .agg #[.slice A6 Xd.dry.length c6, .slice B6 Xd.wet.length e6, .int .i64 Xd.left], Xd)] [] := (unhide X6).call b6
       clear ca0_0 ca0_1 ca0_2 q0 ca1_0 ca1_1 ca1_2 ca1_3 ca1_4 ca1_5 q1 ca2_0 ca2_1 ca2_2 ca2_3 ca2_4 ca2_5 q2 ca3_0 ca3_1 ca3_2 q3 ca4_0 ca4_1 ca4_2 ca4_3 ca4_4 ca4_5 q4
       obtain ⟨ca0_0, ca0_1, ca0_2⟩ := ck3 (Y6.get 0 rfl)
       have q0 := (Y6.get 0 rfl).lt
       obtain ⟨ca1_0, ca1_1, ca1_2, ca1_3, ca1_4, ca1_5⟩ := zk6 (Y6.get 1 rfl)
       have q1 := (Y6.get 1 rfl).lt
       obtain ⟨ca2_0, ca2_1, ca2_2, ca2_3, ca2_4, ca2_5⟩ := zk6 (Y6.get 2 rfl)
       have q2 := (Y6.get 2 rfl).lt
       obtain ⟨ca3_0, ca3_1, ca3_2⟩ := ck3 (Y6.get 3 rfl)
       have q3 := (Y6.get 3 rfl).lt
       obtain ⟨ca4_0, ca4_1, ca4_2, ca4_3, ca4_4, ca4_5⟩ := zk6 (Y6.get 4 rfl)
       have q4 := (Y6.get 4 rfl).lt
       obtain ⟨ca5_0, ca5_1, ca5_2⟩ := ck3 (Y6.get 5 rfl)
       have q5 := (Y6.get 5 rfl).lt
       have Y6b : Gx w (w6.alloc (.cells #[.int .u64 (q.gen : Nat), .int .i64 q.at_, .int .i64 q.len, .int .i64 q.long, .int .u32 (q.sum : Nat), .int .u64 (q.next : Nat)] 27)) [(w.heap.size, 31, #[.slice A n c, .slice A' m c', .int .i64 l]), (w.heap.size + 1, 27, #[.int .u64 (r.gen : Nat), .int .i64 r.at_, .int .i64 r.len, .int .i64 r.long, .int .u32 (r.sum : Nat), .int .u64 (r.next : Nat)]), (w2.heap.size, 27, #[.int .u64 (p.gen : Nat), .int .i64 p.at_, .int .i64 p.len, .int .i64 p.long, .int .u32 (p.sum : Nat), .int .u64 (p.next : Nat)]), (w3.heap.size, 31, #[.slice A4 Wd.dry.length c4, .slice B4 Wd.wet.length e4, .int .i64 Wd.left]), (w4.heap.size, 27, #[.int .u64 (q.gen : Nat), .int .i64 q.at_, .int .i64 q.len, .int .i64 q.long, .int .u32 (q.sum : Nat), .int .u64 (q.next : Nat)]), (w5.heap.size, 31, #[.slice A6 Xd.dry.length c6, .slice B6 Xd.wet.length e6, .int .i64 Xd.left]), (w6.heap.size, 27, #[.int .u64 (q.gen : Nat), .int .i64 q.at_, .int .i64 q.len, .int .i64 q.long, .int .u32 (q.sum : Nat), .int .u64 (q.next : Nat)])] [((w2.alloc (.cells #[.int .u64 (p.gen : Nat), .int .i64 p.at_, .int .i64 p.len, .int .i64 p.long, .int .u32 (p.sum : Nat), .int .u64 (p.next : Nat)] 27)).heap.size, w3.heap.size, .agg #[.slice A4 Wd.dry.length c4, .slice B4 Wd.wet.length e4, .int .i64 Wd.left], Wd), (0, w5.heap.size, .agg #[.slice A6 Xd.dry.length c6, .slice B6 Xd.wet.length e6, .int .i64 Xd.left], Xd)] [] := Y6.newB (w6.heap.size) rfl 27 #[.int .u64 (q.gen : Nat), .int .i64 q.at_, .int .i64 q.len, .int .i64 q.long, .int .u32 (q.sum : Nat), .int .u64 (q.next : Nat)]
       have X7 := hide Y6b
       clear X6 b6 Y6 Y6b)
    | fail)
  go_ret
  exact ⟨ret_b rfl (by simp), (unhide X7).bl⟩
end
end Go.Proofs.YtommlgdolahfbaaDoor
