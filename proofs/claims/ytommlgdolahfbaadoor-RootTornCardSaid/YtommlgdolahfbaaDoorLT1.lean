import Derived.Test.YtommlgdolahfbaaDoorLT
namespace Go.Proofs.YtommlgdolahfbaaDoor
set_option maxRecDepth 100000
open Go.RowKit
section
attribute [-go_sem] run_eql_struct run_neq_struct
attribute [local go_sem] run_eql_rt run_neq_rt guardR
set_option maxHeartbeats 16000000 in
theorem torn_1k (A A' : Option Addr) (c c' : Nat) (d : Dk) (o r : Rt) (hT' : OkT o) (hT : OkT r) (m : UInt8) (w : World) (ht : Tab w) (h : Dsk 0 w.heap.size w (.agg #[.slice A d.dry.length c, .slice A' d.wet.length c', .int .i64 d.left]) d) (hw : fewB d = true) (h1 : d.left = -1) (h2 : o.gen % 2 = r.gen % 2) (h3 : o.gen % 256 ≠ r.gen % 256) (hE : (wrR d o).2 = 0) (hr : rOk r = true) (hm : m = 255) (X C : Dk) (ho : Torn (wrR d o).1 o r m X C) (hk : (fdR C).2 = 4) :
    Calls Tryd.prog 6 #[.agg #[.slice A d.dry.length c, .slice A' d.wet.length c', .int .i64 d.left], (.agg #[.int .u64 (o.gen : Nat), .int .i64 o.at_, .int .i64 o.len, .int .i64 o.long, .int .u32 (o.sum : Nat), .int .u64 (o.next : Nat)]), (.agg #[.int .u64 (r.gen : Nat), .int .i64 r.at_, .int .i64 r.len, .int .i64 r.long, .int .u32 (r.sum : Nat), .int .u64 (r.next : Nat)]), .int .u8 (m.toNat : Int)] w fun e w' => e = .returned (.bool true) ∧ Below w.heap.size w w' := by
  have hl := fun W (hB : Below w.heap.size w W) => live_any W (ht.below hB (Nat.le_refl _))
  have hf := fun W (hB : Below w.heap.size w W) => few_any 0 _ d W (h.grow hB)
  rw [hw] at hf
  have g1 : (d.left != -1) = false := by rw [h1]; rfl
  have g2 : ((o.gen : Int) % 2 != (r.gen : Int) % 2) = false := by simp; omega
  have g3 : ((o.gen : Int) % 256 == (r.gen : Int) % 256) = false := by simp; omega
  obtain ⟨s1, s2⟩ := few_small hw
  have hS := fun W (hB : Below w.heap.size w W) => Write_form' 0 _ d o W (ht.below hB (Nat.le_refl _)) hT' (h.grow hB) (by omega) (by omega)
  have hgo := went_of hE
  obtain ⟨q1, q2, q3, q4, q5, q6, q7, q8, q9⟩ := ho
  have hor := hgo.ok
  have hne : o ≠ r := fun e => h3 (by rw [e])
  have s3 : (wrR d o).1.dry.length ≤ 300000 := by rw [hgo.lenW]; omega
  have s4 : (wrR d o).1.wet.length = 0 := by rw [hgo.wetW]; rfl
  have ho' : Torn (wrR d o).1 o r m X C := ⟨q1, q2, q3, q4, q5, q6, q7, q8, q9⟩
  have hO := fun W (hB : Below w.heap.size w W) => Octets_ok r hr hT W (ht.below hB (Nat.le_refl _))
  obtain ⟨i, hi⟩ : ∃ i : Nat, i = r.gen % 2 := ⟨_, rfl⟩
  have i2 : i < 2 := by omega
  have f1 : (o.gen : Int) % 2 = (i : Int) := by omega
  have f2 : (r.gen : Int) % 2 = (i : Int) := by omega
  obtain ⟨j, hj⟩ : ∃ j : Nat, j = 1 - i := ⟨_, rfl⟩
  have f3 : (1 : Int) - (i : Int) = (j : Int) := by omega
  have f4 : IntKind.i64.wrap (1 - (i : Int)) = (j : Int) := by rw [f3]; exact IntWalk.i64_in _ (by omega)
  have r1 := hold_rd q7 i2
  have r2 := hold_rd q7 (show j < 2 by omega)
  have hT1 := fun lo v bb W (_ : Below w.heap.size w W) (hx : Dsk lo W.heap.size W v (wrR d o).1) (hb : Bs 0 W.heap.size W bb (octs r)) => Write2_form 0 v bb (wrR d o).1 ((r.gen % 2 : Nat) : Int) (octs r) W (hx.mono (Nat.zero_le _) (Nat.le_refl _)) hb (by omega) (by omega)
  rw [q1, ← hi] at hT1
  have hCr := fun lo v mv W (_ : Below w.heap.size w W) (hx : Dsk lo W.heap.size W v X) (hb : Bs 0 W.heap.size W mv [m]) => Crash_form 0 v mv X [m] W (hx.mono (Nat.zero_le _) (Nat.le_refl _)) hb (by omega) (by omega)
  rw [q2] at hCr
  have hR1 := fun lo v W (_ : Below w.heap.size w W) (hx : Dsk lo W.heap.size W v C) => Read_form lo v C i W hx (by omega) (by omega) _ r1
  have hR2 := fun lo v W (_ : Below w.heap.size w W) (hx : Dsk lo W.heap.size W v C) => Read_form lo v C j W hx (by omega) (by omega) _ r2
  have hF := fun lo v W (hB : Below w.heap.size w W) (hx : Dsk lo W.heap.size W v C) => Find_any lo v C W (ht.below hB (Nat.le_refl _)) hx (by omega) (by omega)
  have hO1 := fun v1 W (hB : Below w.heap.size w W) (hx : Bs 0 W.heap.size W v1 (sectorOf C (i : Nat))) => Of_any v1 0 _ W (ht.below hB (Nat.le_refl _)) hx
  have hO2 := fun v1 W (hB : Below w.heap.size w W) (hx : Bs 0 W.heap.size W v1 (sectorOf C (j : Nat))) => Of_any v1 0 _ W (ht.below hB (Nat.le_refl _)) hx
  rw [hE] at hS
  have hz : sectorOf C (i : Nat) = octs r := by subst hm; rw [hi]; exact ho'.full
  have z1 : ofE (sectorOf C (i : Nat)) = 0 := by rw [hz]; unfold ofE; rw [ofB_octs hr hT]; rfl
  have z2 : ofR (sectorOf C (i : Nat)) = r := by rw [hz]; exact ofR_octs hr hT
  rw [z1, z2] at hO1
  have m1 : ((m.toNat : Int) == 0) = false := by rw [hm]; rfl
  have m2 : ((m.toNat : Int) == 255) = true := by rw [hm]; rfl
  have m3 : ((m.toNat : Int) != 0) = true := by rw [hm]; rfl
  have m4 : ((m.toNat : Int) != 255) = false := by rw [hm]; rfl
  clear hz z1 z2 hm
  rw [hk] at hF
  obtain ⟨p, hpp⟩ : ∃ p, p = (fdR C).1 := ⟨_, rfl⟩
  rw [← hpp] at hF
  obtain ⟨y, hyy⟩ : ∃ y, y = ofR (sectorOf C (j : Nat)) := ⟨_, rfl⟩
  obtain ⟨Ey, hye⟩ : ∃ E, E = ofE (sectorOf C (j : Nat)) := ⟨_, rfl⟩
  rw [← hyy, ← hye] at hO2
  clear hpp hyy hye
  have d3 : decide (o = r) = false := decide_eq_false hne
  have d4 : decide (r = o) = false := decide_eq_false (fun e => hne e.symm)
  obtain ⟨Wd, hWd⟩ : ∃ Wd, Wd = (wrR d o).1 := ⟨_, rfl⟩
  rw [← hWd] at hS hT1
  generalize sectorOf C (i : Nat) = z1 at *
  generalize sectorOf C (j : Nat) = z2 at *
  replace hS := hide hS; replace hO := hide hO; replace hT1 := hide hT1; replace hCr := hide hCr; replace hR1 := hide hR1; replace hR2 := hide hR2; replace hF := hide hF; replace hO1 := hide hO1; replace hO2 := hide hO2
  generalize d.dry.length = n at *
  generalize d.wet.length = k at *
  generalize d.left = l at *
  have X0 : Gx w (((w.alloc (.cells #[.slice A n c, .slice A' k c', .int .i64 l] 31)).alloc (.cells #[.int .u64 (o.gen : Nat), .int .i64 o.at_, .int .i64 o.len, .int .i64 o.long, .int .u32 (o.sum : Nat), .int .u64 (o.next : Nat)] 27)).alloc (.cells #[.int .u64 (r.gen : Nat), .int .i64 r.at_, .int .i64 r.len, .int .i64 r.long, .int .u32 (r.sum : Nat), .int .u64 (r.next : Nat)] 27)) [(w.heap.size, 31, #[.slice A n c, .slice A' k c', .int .i64 l]), (w.heap.size + 1, 27, #[.int .u64 (o.gen : Nat), .int .i64 o.at_, .int .i64 o.len, .int .i64 o.long, .int .u32 (o.sum : Nat), .int .u64 (o.next : Nat)]), (w.heap.size + 2, 27, #[.int .u64 (r.gen : Nat), .int .i64 r.at_, .int .i64 r.len, .int .i64 r.long, .int .u32 (r.sum : Nat), .int .u64 (r.next : Nat)])] [] [] := (((Gx.nil w).newB w.heap.size rfl 31 #[.slice A n c, .slice A' k c', .int .i64 l]).newB (w.heap.size + 1) (by simp) 27 #[.int .u64 (o.gen : Nat), .int .i64 o.at_, .int .i64 o.len, .int .i64 o.long, .int .u32 (o.sum : Nat), .int .u64 (o.next : Nat)]).newB (w.heap.size + 2) (by simp) 27 #[.int .u64 (r.gen : Nat), .int .i64 r.at_, .int .i64 r.len, .int .i64 r.long, .int .u32 (r.sum : Nat), .int .u64 (r.next : Nat)]
  replace X0 := hide X0; replace hl := hide hl; replace hf := hide hf
  clear ht h hw hT hT' s1 s2 hgo q1 q2 q3 q4 q5 q6 q7 q8 q9 hor hne s3 s4 ho' hi i2 hj r1 r2 hE hr hk hWd h1 h2 h3
  have tk0 : True := trivial
  have tk1 : True := trivial
  have tk2 : True := trivial
  have tk3 : True := trivial
  have tk4 : True := trivial
  have tk5 : True := trivial
  have tk6 : True := trivial
  have tk7 : True := trivial
  have tk8 : True := trivial
  have tk9 : True := trivial
  have tk10 : True := trivial
  go_enter Tryd.func6, Tryd.ntmps6
  go_upto_region 1 with (fail)
  generalize hW : World.alloc (World.alloc (World.alloc w _) _) _ = W at *
  clear hW
  obtain ⟨ca0_0, ca0_1, ca0_2⟩ := ck3 ((unhide X0).get 0 rfl)
  obtain ⟨fa0_0, fa0_1, fa0_2⟩ := fk3 ((unhide X0).get 0 rfl)
  have q0 := ((unhide X0).get 0 rfl).lt
  obtain ⟨ca1_0, ca1_1, ca1_2, ca1_3, ca1_4, ca1_5⟩ := zk6 ((unhide X0).get 1 rfl)
  have q1 := ((unhide X0).get 1 rfl).lt
  obtain ⟨ca2_0, ca2_1, ca2_2, ca2_3, ca2_4, ca2_5⟩ := zk6 ((unhide X0).get 2 rfl)
  have q2 := ((unhide X0).get 2 rfl).lt
  go_wp2_with (first
    | (have _t := tk0; clear tk0 _t; go_at_call 8; refine (unhide hl _ (unhide X0).bl).mono ?_; rintro e w0 ⟨rfl, b0⟩
       have Y0 : Gx w w0 [(w.heap.size, 31, #[.slice A n c, .slice A' k c', .int .i64 l]), (w.heap.size + 1, 27, #[.int .u64 (o.gen : Nat), .int .i64 o.at_, .int .i64 o.len, .int .i64 o.long, .int .u32 (o.sum : Nat), .int .u64 (o.next : Nat)]), (w.heap.size + 2, 27, #[.int .u64 (r.gen : Nat), .int .i64 r.at_, .int .i64 r.len, .int .i64 r.long, .int .u32 (r.sum : Nat), .int .u64 (r.next : Nat)])] [] [] := (unhide X0).call b0
       clear ca0_0 ca0_1 ca0_2 fa0_0 fa0_1 fa0_2 q0 ca1_0 ca1_1 ca1_2 ca1_3 ca1_4 ca1_5 q1 ca2_0 ca2_1 ca2_2 ca2_3 ca2_4 ca2_5 q2
       obtain ⟨ca0_0, ca0_1, ca0_2⟩ := ck3 (Y0.get 0 rfl)
       obtain ⟨fa0_0, fa0_1, fa0_2⟩ := fk3 (Y0.get 0 rfl)
       have q0 := (Y0.get 0 rfl).lt
       obtain ⟨ca1_0, ca1_1, ca1_2, ca1_3, ca1_4, ca1_5⟩ := zk6 (Y0.get 1 rfl)
       have q1 := (Y0.get 1 rfl).lt
       obtain ⟨ca2_0, ca2_1, ca2_2, ca2_3, ca2_4, ca2_5⟩ := zk6 (Y0.get 2 rfl)
       have q2 := (Y0.get 2 rfl).lt
       have X1 := hide Y0
       clear X0 b0 Y0)
    | (have _t := tk1; clear tk1 _t; go_at_call 9; refine (unhide hf _ (unhide X1).bl).mono ?_; rintro e w1 ⟨rfl, b1⟩
       have Y1 : Gx w w1 [(w.heap.size, 31, #[.slice A n c, .slice A' k c', .int .i64 l]), (w.heap.size + 1, 27, #[.int .u64 (o.gen : Nat), .int .i64 o.at_, .int .i64 o.len, .int .i64 o.long, .int .u32 (o.sum : Nat), .int .u64 (o.next : Nat)]), (w.heap.size + 2, 27, #[.int .u64 (r.gen : Nat), .int .i64 r.at_, .int .i64 r.len, .int .i64 r.long, .int .u32 (r.sum : Nat), .int .u64 (r.next : Nat)])] [] [] := (unhide X1).call b1
       clear ca0_0 ca0_1 ca0_2 fa0_0 fa0_1 fa0_2 q0 ca1_0 ca1_1 ca1_2 ca1_3 ca1_4 ca1_5 q1 ca2_0 ca2_1 ca2_2 ca2_3 ca2_4 ca2_5 q2
       obtain ⟨ca0_0, ca0_1, ca0_2⟩ := ck3 (Y1.get 0 rfl)
       obtain ⟨fa0_0, fa0_1, fa0_2⟩ := fk3 (Y1.get 0 rfl)
       have q0 := (Y1.get 0 rfl).lt
       obtain ⟨ca1_0, ca1_1, ca1_2, ca1_3, ca1_4, ca1_5⟩ := zk6 (Y1.get 1 rfl)
       have q1 := (Y1.get 1 rfl).lt
       obtain ⟨ca2_0, ca2_1, ca2_2, ca2_3, ca2_4, ca2_5⟩ := zk6 (Y1.get 2 rfl)
       have q2 := (Y1.get 2 rfl).lt
       have X2 := hide Y1
       clear X1 b1 Y1)
    | (have _t := tk2; clear tk2 _t; go_at_call 15; refine (unhide hS _ (unhide X2).bl).mono ?_; rintro e w2 ⟨A4, c4, B4, e4, rfl, x4, b2⟩
       have Y2 : Gx w w2 [(w.heap.size, 31, #[.slice A n c, .slice A' k c', .int .i64 l]), (w.heap.size + 1, 27, #[.int .u64 (o.gen : Nat), .int .i64 o.at_, .int .i64 o.len, .int .i64 o.long, .int .u32 (o.sum : Nat), .int .u64 (o.next : Nat)]), (w.heap.size + 2, 27, #[.int .u64 (r.gen : Nat), .int .i64 r.at_, .int .i64 r.len, .int .i64 r.long, .int .u32 (r.sum : Nat), .int .u64 (r.next : Nat)])] [] [] := (unhide X2).call b2
       have Y2d : Gx w w2 [(w.heap.size, 31, #[.slice A n c, .slice A' k c', .int .i64 l]), (w.heap.size + 1, 27, #[.int .u64 (o.gen : Nat), .int .i64 o.at_, .int .i64 o.len, .int .i64 o.long, .int .u32 (o.sum : Nat), .int .u64 (o.next : Nat)]), (w.heap.size + 2, 27, #[.int .u64 (r.gen : Nat), .int .i64 r.at_, .int .i64 r.len, .int .i64 r.long, .int .u32 (r.sum : Nat), .int .u64 (r.next : Nat)])] [(w1.heap.size, w2.heap.size, .agg #[.slice A4 Wd.dry.length c4, .slice B4 Wd.wet.length e4, .int .i64 Wd.left], Wd)] [] := Y2.addD x4
       clear ca0_0 ca0_1 ca0_2 fa0_0 fa0_1 fa0_2 q0 ca1_0 ca1_1 ca1_2 ca1_3 ca1_4 ca1_5 q1 ca2_0 ca2_1 ca2_2 ca2_3 ca2_4 ca2_5 q2
       obtain ⟨ca0_0, ca0_1, ca0_2⟩ := ck3 (Y2d.get 0 rfl)
       obtain ⟨fa0_0, fa0_1, fa0_2⟩ := fk3 (Y2d.get 0 rfl)
       have q0 := (Y2d.get 0 rfl).lt
       obtain ⟨ca1_0, ca1_1, ca1_2, ca1_3, ca1_4, ca1_5⟩ := zk6 (Y2d.get 1 rfl)
       have q1 := (Y2d.get 1 rfl).lt
       obtain ⟨ca2_0, ca2_1, ca2_2, ca2_3, ca2_4, ca2_5⟩ := zk6 (Y2d.get 2 rfl)
       have q2 := (Y2d.get 2 rfl).lt
       have l7 : w.heap.size + 2 < w1.heap.size := ((unhide X2).get 2 rfl).lt
       have Z2 : Gx w (((w2.setCell ⟨w.heap.size, 0, none⟩ (.slice A4 Wd.dry.length c4)).setCell ⟨w.heap.size, 1, none⟩ (.slice B4 Wd.wet.length e4)).setCell ⟨w.heap.size, 2, none⟩ (.int .i64 Wd.left)) [(w.heap.size + 1, 27, #[.int .u64 (o.gen : Nat), .int .i64 o.at_, .int .i64 o.len, .int .i64 o.long, .int .u32 (o.sum : Nat), .int .u64 (o.next : Nat)]), (w.heap.size + 2, 27, #[.int .u64 (r.gen : Nat), .int .i64 r.at_, .int .i64 r.len, .int .i64 r.long, .int .u32 (r.sum : Nat), .int .u64 (r.next : Nat)]), (w.heap.size, 31, #[.slice A4 Wd.dry.length c4, .slice B4 Wd.wet.length e4, .int .i64 Wd.left])] [(w1.heap.size, w2.heap.size, .agg #[.slice A4 Wd.dry.length c4, .slice B4 Wd.wet.length e4, .int .i64 Wd.left], Wd)] [] := (Y2d.sub (L' := [(w.heap.size + 1, 27, #[.int .u64 (o.gen : Nat), .int .i64 o.at_, .int .i64 o.len, .int .i64 o.long, .int .u32 (o.sum : Nat), .int .u64 (o.next : Nat)]), (w.heap.size + 2, 27, #[.int .u64 (r.gen : Nat), .int .i64 r.at_, .int .i64 r.len, .int .i64 r.long, .int .u32 (r.sum : Nat), .int .u64 (r.next : Nat)])]) (by simp) (fun _ h => h) (fun _ h => h)).set3 (Y2d.get 0 rfl) (Nat.le_refl _) (by simp) (by simp; omega) (by simp) (.slice A4 Wd.dry.length c4) (.slice B4 Wd.wet.length e4) (.int .i64 Wd.left)
       have X3 := hide Z2
       clear X2 b2 Y2 Y2d Z2)
    | (have _t := tk3; clear tk3 _t; go_at_call 11; refine (unhide hO _ (unhide X3).bl).mono ?_; rintro e w3 ⟨A5, c5, rfl, x5, b3⟩
       have Y3 : Gx w w3 [(w.heap.size + 1, 27, #[.int .u64 (o.gen : Nat), .int .i64 o.at_, .int .i64 o.len, .int .i64 o.long, .int .u32 (o.sum : Nat), .int .u64 (o.next : Nat)]), (w.heap.size + 2, 27, #[.int .u64 (r.gen : Nat), .int .i64 r.at_, .int .i64 r.len, .int .i64 r.long, .int .u32 (r.sum : Nat), .int .u64 (r.next : Nat)]), (w.heap.size, 31, #[.slice A4 Wd.dry.length c4, .slice B4 Wd.wet.length e4, .int .i64 Wd.left])] [(w1.heap.size, w2.heap.size, .agg #[.slice A4 Wd.dry.length c4, .slice B4 Wd.wet.length e4, .int .i64 Wd.left], Wd)] [] := (unhide X3).call b3
       have Y3z : Gx w w3 [(w.heap.size + 1, 27, #[.int .u64 (o.gen : Nat), .int .i64 o.at_, .int .i64 o.len, .int .i64 o.long, .int .u32 (o.sum : Nat), .int .u64 (o.next : Nat)]), (w.heap.size + 2, 27, #[.int .u64 (r.gen : Nat), .int .i64 r.at_, .int .i64 r.len, .int .i64 r.long, .int .u32 (r.sum : Nat), .int .u64 (r.next : Nat)]), (w.heap.size, 31, #[.slice A4 Wd.dry.length c4, .slice B4 Wd.wet.length e4, .int .i64 Wd.left])] [(w1.heap.size, w2.heap.size, .agg #[.slice A4 Wd.dry.length c4, .slice B4 Wd.wet.length e4, .int .i64 Wd.left], Wd)] [(0, w3.heap.size, .slice A5 32 c5, octs r)] := Y3.addZ (x5.mono (Nat.zero_le _) (Nat.le_refl _))
       clear ca0_0 ca0_1 ca0_2 fa0_0 fa0_1 fa0_2 q0 ca1_0 ca1_1 ca1_2 ca1_3 ca1_4 ca1_5 q1 ca2_0 ca2_1 ca2_2 ca2_3 ca2_4 ca2_5 q2
       obtain ⟨ca0_0, ca0_1, ca0_2, ca0_3, ca0_4, ca0_5⟩ := zk6 (Y3z.get 0 rfl)
       have q0 := (Y3z.get 0 rfl).lt
       obtain ⟨ca1_0, ca1_1, ca1_2, ca1_3, ca1_4, ca1_5⟩ := zk6 (Y3z.get 1 rfl)
       have q1 := (Y3z.get 1 rfl).lt
       obtain ⟨ca2_0, ca2_1, ca2_2⟩ := ck3 (Y3z.get 2 rfl)
       have q2 := (Y3z.get 2 rfl).lt
       have X4 := hide Y3z
       clear X3 b3 Y3 Y3z)
    | (have _t := tk4; clear tk4 _t; go_at_call 23; refine (unhide hT1 _ _ _ _ (unhide X4).bl ((unhide X4).dr 0 rfl) ((unhide X4).rd 0 rfl)).mono ?_; rintro e w4 ⟨A6, c6, B6, e6, rfl, x6, b4⟩
       have Y4 : Gx w w4 [(w.heap.size + 1, 27, #[.int .u64 (o.gen : Nat), .int .i64 o.at_, .int .i64 o.len, .int .i64 o.long, .int .u32 (o.sum : Nat), .int .u64 (o.next : Nat)]), (w.heap.size + 2, 27, #[.int .u64 (r.gen : Nat), .int .i64 r.at_, .int .i64 r.len, .int .i64 r.long, .int .u32 (r.sum : Nat), .int .u64 (r.next : Nat)]), (w.heap.size, 31, #[.slice A4 Wd.dry.length c4, .slice B4 Wd.wet.length e4, .int .i64 Wd.left])] [(w1.heap.size, w2.heap.size, .agg #[.slice A4 Wd.dry.length c4, .slice B4 Wd.wet.length e4, .int .i64 Wd.left], Wd)] [(0, w3.heap.size, .slice A5 32 c5, octs r)] := (unhide X4).call b4
       have Y4d : Gx w w4 [(w.heap.size + 1, 27, #[.int .u64 (o.gen : Nat), .int .i64 o.at_, .int .i64 o.len, .int .i64 o.long, .int .u32 (o.sum : Nat), .int .u64 (o.next : Nat)]), (w.heap.size + 2, 27, #[.int .u64 (r.gen : Nat), .int .i64 r.at_, .int .i64 r.len, .int .i64 r.long, .int .u32 (r.sum : Nat), .int .u64 (r.next : Nat)]), (w.heap.size, 31, #[.slice A4 Wd.dry.length c4, .slice B4 Wd.wet.length e4, .int .i64 Wd.left])] [(w1.heap.size, w2.heap.size, .agg #[.slice A4 Wd.dry.length c4, .slice B4 Wd.wet.length e4, .int .i64 Wd.left], Wd), (0, w4.heap.size, .agg #[.slice A6 X.dry.length c6, .slice B6 X.wet.length e6, .int .i64 X.left], X)] [(0, w3.heap.size, .slice A5 32 c5, octs r)] := Y4.addD (x6.mono (Nat.zero_le _) (Nat.le_refl _))
       clear ca0_0 ca0_1 ca0_2 ca0_3 ca0_4 ca0_5 q0 ca1_0 ca1_1 ca1_2 ca1_3 ca1_4 ca1_5 q1 ca2_0 ca2_1 ca2_2 q2
       obtain ⟨ca0_0, ca0_1, ca0_2, ca0_3, ca0_4, ca0_5⟩ := zk6 (Y4d.get 0 rfl)
       have q0 := (Y4d.get 0 rfl).lt
       obtain ⟨ca1_0, ca1_1, ca1_2, ca1_3, ca1_4, ca1_5⟩ := zk6 (Y4d.get 1 rfl)
       have q1 := (Y4d.get 1 rfl).lt
       obtain ⟨ca2_0, ca2_1, ca2_2⟩ := ck3 (Y4d.get 2 rfl)
       have q2 := (Y4d.get 2 rfl).lt
       have Y4db : Gx w (w4.alloc (.cells #[.slice A6 X.dry.length c6, .slice B6 X.wet.length e6, .int .i64 X.left] 31)) [(w.heap.size + 1, 27, #[.int .u64 (o.gen : Nat), .int .i64 o.at_, .int .i64 o.len, .int .i64 o.long, .int .u32 (o.sum : Nat), .int .u64 (o.next : Nat)]), (w.heap.size + 2, 27, #[.int .u64 (r.gen : Nat), .int .i64 r.at_, .int .i64 r.len, .int .i64 r.long, .int .u32 (r.sum : Nat), .int .u64 (r.next : Nat)]), (w.heap.size, 31, #[.slice A4 Wd.dry.length c4, .slice B4 Wd.wet.length e4, .int .i64 Wd.left]), (w4.heap.size, 31, #[.slice A6 X.dry.length c6, .slice B6 X.wet.length e6, .int .i64 X.left])] [(w1.heap.size, w2.heap.size, .agg #[.slice A4 Wd.dry.length c4, .slice B4 Wd.wet.length e4, .int .i64 Wd.left], Wd), (0, w4.heap.size, .agg #[.slice A6 X.dry.length c6, .slice B6 X.wet.length e6, .int .i64 X.left], X)] [(0, w3.heap.size, .slice A5 32 c5, octs r)] := Y4d.newB (w4.heap.size) rfl 31 #[.slice A6 X.dry.length c6, .slice B6 X.wet.length e6, .int .i64 X.left]
       have X5 := hide Y4db
       clear X4 b4 Y4 Y4d Y4db)
    | (have _t := tk5; clear tk5 _t; go_at_call 24; have XM := hide ((unhide X5).newB (w4.heap.size + 1) (by simp) 5 #[.int .u8 (m.toNat : Int)]); refine (unhide hCr _ _ _ _ (unhide XM).bl ((unhide XM).dr 1 rfl) (one_mask ((unhide XM).get 4 rfl))).mono ?_; rintro e w5 ⟨A7, c7, B7, e7, rfl, x7, b5⟩
       have Y5 : Gx w w5 [(w.heap.size + 1, 27, #[.int .u64 (o.gen : Nat), .int .i64 o.at_, .int .i64 o.len, .int .i64 o.long, .int .u32 (o.sum : Nat), .int .u64 (o.next : Nat)]), (w.heap.size + 2, 27, #[.int .u64 (r.gen : Nat), .int .i64 r.at_, .int .i64 r.len, .int .i64 r.long, .int .u32 (r.sum : Nat), .int .u64 (r.next : Nat)]), (w.heap.size, 31, #[.slice A4 Wd.dry.length c4, .slice B4 Wd.wet.length e4, .int .i64 Wd.left]), (w4.heap.size, 31, #[.slice A6 X.dry.length c6, .slice B6 X.wet.length e6, .int .i64 X.left]), (w4.heap.size + 1, 5, #[.int .u8 (m.toNat : Int)])] [(w1.heap.size, w2.heap.size, .agg #[.slice A4 Wd.dry.length c4, .slice B4 Wd.wet.length e4, .int .i64 Wd.left], Wd), (0, w4.heap.size, .agg #[.slice A6 X.dry.length c6, .slice B6 X.wet.length e6, .int .i64 X.left], X)] [(0, w3.heap.size, .slice A5 32 c5, octs r)] := (unhide XM).call b5
       have Y5d : Gx w w5 [(w.heap.size + 1, 27, #[.int .u64 (o.gen : Nat), .int .i64 o.at_, .int .i64 o.len, .int .i64 o.long, .int .u32 (o.sum : Nat), .int .u64 (o.next : Nat)]), (w.heap.size + 2, 27, #[.int .u64 (r.gen : Nat), .int .i64 r.at_, .int .i64 r.len, .int .i64 r.long, .int .u32 (r.sum : Nat), .int .u64 (r.next : Nat)]), (w.heap.size, 31, #[.slice A4 Wd.dry.length c4, .slice B4 Wd.wet.length e4, .int .i64 Wd.left]), (w4.heap.size, 31, #[.slice A6 X.dry.length c6, .slice B6 X.wet.length e6, .int .i64 X.left]), (w4.heap.size + 1, 5, #[.int .u8 (m.toNat : Int)])] [(w1.heap.size, w2.heap.size, .agg #[.slice A4 Wd.dry.length c4, .slice B4 Wd.wet.length e4, .int .i64 Wd.left], Wd), (0, w4.heap.size, .agg #[.slice A6 X.dry.length c6, .slice B6 X.wet.length e6, .int .i64 X.left], X), (0, w5.heap.size, .agg #[.slice A7 C.dry.length c7, .slice B7 C.wet.length e7, .int .i64 C.left], C)] [(0, w3.heap.size, .slice A5 32 c5, octs r)] := Y5.addD (x7.mono (Nat.zero_le _) (Nat.le_refl _))
       clear ca0_0 ca0_1 ca0_2 ca0_3 ca0_4 ca0_5 q0 ca1_0 ca1_1 ca1_2 ca1_3 ca1_4 ca1_5 q1 ca2_0 ca2_1 ca2_2 q2
       obtain ⟨ca0_0, ca0_1, ca0_2, ca0_3, ca0_4, ca0_5⟩ := zk6 (Y5d.get 0 rfl)
       have q0 := (Y5d.get 0 rfl).lt
       obtain ⟨ca1_0, ca1_1, ca1_2, ca1_3, ca1_4, ca1_5⟩ := zk6 (Y5d.get 1 rfl)
       have q1 := (Y5d.get 1 rfl).lt
       obtain ⟨ca2_0, ca2_1, ca2_2⟩ := ck3 (Y5d.get 2 rfl)
       have q2 := (Y5d.get 2 rfl).lt
       obtain ⟨ca3_0, ca3_1, ca3_2⟩ := ck3 (Y5d.get 3 rfl)
       have q3 := (Y5d.get 3 rfl).lt
       have Y5dc := Y5d.sub (L' := [(w.heap.size + 1, 27, #[.int .u64 (o.gen : Nat), .int .i64 o.at_, .int .i64 o.len, .int .i64 o.long, .int .u32 (o.sum : Nat), .int .u64 (o.next : Nat)]), (w.heap.size + 2, 27, #[.int .u64 (r.gen : Nat), .int .i64 r.at_, .int .i64 r.len, .int .i64 r.long, .int .u32 (r.sum : Nat), .int .u64 (r.next : Nat)]), (w.heap.size, 31, #[.slice A4 Wd.dry.length c4, .slice B4 Wd.wet.length e4, .int .i64 Wd.left]), (w4.heap.size, 31, #[.slice A6 X.dry.length c6, .slice B6 X.wet.length e6, .int .i64 X.left])]) (by simp) (fun _ h => h) (fun _ h => h)
       have Y5db : Gx w (w5.alloc (.cells #[.slice A7 C.dry.length c7, .slice B7 C.wet.length e7, .int .i64 C.left] 31)) [(w.heap.size + 1, 27, #[.int .u64 (o.gen : Nat), .int .i64 o.at_, .int .i64 o.len, .int .i64 o.long, .int .u32 (o.sum : Nat), .int .u64 (o.next : Nat)]), (w.heap.size + 2, 27, #[.int .u64 (r.gen : Nat), .int .i64 r.at_, .int .i64 r.len, .int .i64 r.long, .int .u32 (r.sum : Nat), .int .u64 (r.next : Nat)]), (w.heap.size, 31, #[.slice A4 Wd.dry.length c4, .slice B4 Wd.wet.length e4, .int .i64 Wd.left]), (w4.heap.size, 31, #[.slice A6 X.dry.length c6, .slice B6 X.wet.length e6, .int .i64 X.left]), (w5.heap.size, 31, #[.slice A7 C.dry.length c7, .slice B7 C.wet.length e7, .int .i64 C.left])] [(w1.heap.size, w2.heap.size, .agg #[.slice A4 Wd.dry.length c4, .slice B4 Wd.wet.length e4, .int .i64 Wd.left], Wd), (0, w4.heap.size, .agg #[.slice A6 X.dry.length c6, .slice B6 X.wet.length e6, .int .i64 X.left], X), (0, w5.heap.size, .agg #[.slice A7 C.dry.length c7, .slice B7 C.wet.length e7, .int .i64 C.left], C)] [(0, w3.heap.size, .slice A5 32 c5, octs r)] := Y5dc.newB (w5.heap.size) rfl 31 #[.slice A7 C.dry.length c7, .slice B7 C.wet.length e7, .int .i64 C.left]
       have X6 := hide Y5db
       clear XM Y5dc X5 b5 Y5 Y5d Y5db)
    | (have _t := tk6; clear tk6 _t; go_at_call 25; refine (unhide hR1 _ _ _ (unhide X6).bl ((unhide X6).dr 2 rfl)).mono ?_; rintro e w6 ⟨A8, c8, rfl, x8, b6⟩
       have Y6 : Gx w w6 [(w.heap.size + 1, 27, #[.int .u64 (o.gen : Nat), .int .i64 o.at_, .int .i64 o.len, .int .i64 o.long, .int .u32 (o.sum : Nat), .int .u64 (o.next : Nat)]), (w.heap.size + 2, 27, #[.int .u64 (r.gen : Nat), .int .i64 r.at_, .int .i64 r.len, .int .i64 r.long, .int .u32 (r.sum : Nat), .int .u64 (r.next : Nat)]), (w.heap.size, 31, #[.slice A4 Wd.dry.length c4, .slice B4 Wd.wet.length e4, .int .i64 Wd.left]), (w4.heap.size, 31, #[.slice A6 X.dry.length c6, .slice B6 X.wet.length e6, .int .i64 X.left]), (w5.heap.size, 31, #[.slice A7 C.dry.length c7, .slice B7 C.wet.length e7, .int .i64 C.left])] [(w1.heap.size, w2.heap.size, .agg #[.slice A4 Wd.dry.length c4, .slice B4 Wd.wet.length e4, .int .i64 Wd.left], Wd), (0, w4.heap.size, .agg #[.slice A6 X.dry.length c6, .slice B6 X.wet.length e6, .int .i64 X.left], X), (0, w5.heap.size, .agg #[.slice A7 C.dry.length c7, .slice B7 C.wet.length e7, .int .i64 C.left], C)] [(0, w3.heap.size, .slice A5 32 c5, octs r)] := (unhide X6).call b6
       have Y6z : Gx w w6 [(w.heap.size + 1, 27, #[.int .u64 (o.gen : Nat), .int .i64 o.at_, .int .i64 o.len, .int .i64 o.long, .int .u32 (o.sum : Nat), .int .u64 (o.next : Nat)]), (w.heap.size + 2, 27, #[.int .u64 (r.gen : Nat), .int .i64 r.at_, .int .i64 r.len, .int .i64 r.long, .int .u32 (r.sum : Nat), .int .u64 (r.next : Nat)]), (w.heap.size, 31, #[.slice A4 Wd.dry.length c4, .slice B4 Wd.wet.length e4, .int .i64 Wd.left]), (w4.heap.size, 31, #[.slice A6 X.dry.length c6, .slice B6 X.wet.length e6, .int .i64 X.left]), (w5.heap.size, 31, #[.slice A7 C.dry.length c7, .slice B7 C.wet.length e7, .int .i64 C.left])] [(w1.heap.size, w2.heap.size, .agg #[.slice A4 Wd.dry.length c4, .slice B4 Wd.wet.length e4, .int .i64 Wd.left], Wd), (0, w4.heap.size, .agg #[.slice A6 X.dry.length c6, .slice B6 X.wet.length e6, .int .i64 X.left], X), (0, w5.heap.size, .agg #[.slice A7 C.dry.length c7, .slice B7 C.wet.length e7, .int .i64 C.left], C)] [(0, w3.heap.size, .slice A5 32 c5, octs r), (0, w6.heap.size, .slice A8 z1.length c8, z1)] := Y6.addZ (x8.mono (Nat.zero_le _) (Nat.le_refl _))
       clear ca0_0 ca0_1 ca0_2 ca0_3 ca0_4 ca0_5 q0 ca1_0 ca1_1 ca1_2 ca1_3 ca1_4 ca1_5 q1 ca2_0 ca2_1 ca2_2 q2 ca3_0 ca3_1 ca3_2 q3
       obtain ⟨ca0_0, ca0_1, ca0_2, ca0_3, ca0_4, ca0_5⟩ := zk6 (Y6z.get 0 rfl)
       have q0 := (Y6z.get 0 rfl).lt
       obtain ⟨ca1_0, ca1_1, ca1_2, ca1_3, ca1_4, ca1_5⟩ := zk6 (Y6z.get 1 rfl)
       have q1 := (Y6z.get 1 rfl).lt
       obtain ⟨ca2_0, ca2_1, ca2_2⟩ := ck3 (Y6z.get 2 rfl)
       have q2 := (Y6z.get 2 rfl).lt
       obtain ⟨ca3_0, ca3_1, ca3_2⟩ := ck3 (Y6z.get 3 rfl)
       have q3 := (Y6z.get 3 rfl).lt
       obtain ⟨ca4_0, ca4_1, ca4_2⟩ := ck3 (Y6z.get 4 rfl)
       have q4 := (Y6z.get 4 rfl).lt
       have X7 := hide Y6z
       clear X6 b6 Y6 Y6z)
    | (have _t := tk7; clear tk7 _t; go_at_call 13; refine (unhide hO1 _ _ (unhide X7).bl ((unhide X7).rd 1 rfl)).mono ?_; rintro e w7 ⟨rfl, b7⟩
       have Y7 : Gx w w7 [(w.heap.size + 1, 27, #[.int .u64 (o.gen : Nat), .int .i64 o.at_, .int .i64 o.len, .int .i64 o.long, .int .u32 (o.sum : Nat), .int .u64 (o.next : Nat)]), (w.heap.size + 2, 27, #[.int .u64 (r.gen : Nat), .int .i64 r.at_, .int .i64 r.len, .int .i64 r.long, .int .u32 (r.sum : Nat), .int .u64 (r.next : Nat)]), (w.heap.size, 31, #[.slice A4 Wd.dry.length c4, .slice B4 Wd.wet.length e4, .int .i64 Wd.left]), (w4.heap.size, 31, #[.slice A6 X.dry.length c6, .slice B6 X.wet.length e6, .int .i64 X.left]), (w5.heap.size, 31, #[.slice A7 C.dry.length c7, .slice B7 C.wet.length e7, .int .i64 C.left])] [(w1.heap.size, w2.heap.size, .agg #[.slice A4 Wd.dry.length c4, .slice B4 Wd.wet.length e4, .int .i64 Wd.left], Wd), (0, w4.heap.size, .agg #[.slice A6 X.dry.length c6, .slice B6 X.wet.length e6, .int .i64 X.left], X), (0, w5.heap.size, .agg #[.slice A7 C.dry.length c7, .slice B7 C.wet.length e7, .int .i64 C.left], C)] [(0, w3.heap.size, .slice A5 32 c5, octs r), (0, w6.heap.size, .slice A8 z1.length c8, z1)] := (unhide X7).call b7
       clear ca0_0 ca0_1 ca0_2 ca0_3 ca0_4 ca0_5 q0 ca1_0 ca1_1 ca1_2 ca1_3 ca1_4 ca1_5 q1 ca2_0 ca2_1 ca2_2 q2 ca3_0 ca3_1 ca3_2 q3 ca4_0 ca4_1 ca4_2 q4
       obtain ⟨ca0_0, ca0_1, ca0_2, ca0_3, ca0_4, ca0_5⟩ := zk6 (Y7.get 0 rfl)
       have q0 := (Y7.get 0 rfl).lt
       obtain ⟨ca1_0, ca1_1, ca1_2, ca1_3, ca1_4, ca1_5⟩ := zk6 (Y7.get 1 rfl)
       have q1 := (Y7.get 1 rfl).lt
       obtain ⟨ca2_0, ca2_1, ca2_2⟩ := ck3 (Y7.get 2 rfl)
       have q2 := (Y7.get 2 rfl).lt
       obtain ⟨ca3_0, ca3_1, ca3_2⟩ := ck3 (Y7.get 3 rfl)
       have q3 := (Y7.get 3 rfl).lt
       obtain ⟨ca4_0, ca4_1, ca4_2⟩ := ck3 (Y7.get 4 rfl)
       have q4 := (Y7.get 4 rfl).lt
       have Y7b : Gx w (w7.alloc (.cells #[.int .u64 (r.gen : Nat), .int .i64 r.at_, .int .i64 r.len, .int .i64 r.long, .int .u32 (r.sum : Nat), .int .u64 (r.next : Nat)] 27)) [(w.heap.size + 1, 27, #[.int .u64 (o.gen : Nat), .int .i64 o.at_, .int .i64 o.len, .int .i64 o.long, .int .u32 (o.sum : Nat), .int .u64 (o.next : Nat)]), (w.heap.size + 2, 27, #[.int .u64 (r.gen : Nat), .int .i64 r.at_, .int .i64 r.len, .int .i64 r.long, .int .u32 (r.sum : Nat), .int .u64 (r.next : Nat)]), (w.heap.size, 31, #[.slice A4 Wd.dry.length c4, .slice B4 Wd.wet.length e4, .int .i64 Wd.left]), (w4.heap.size, 31, #[.slice A6 X.dry.length c6, .slice B6 X.wet.length e6, .int .i64 X.left]), (w5.heap.size, 31, #[.slice A7 C.dry.length c7, .slice B7 C.wet.length e7, .int .i64 C.left]), (w7.heap.size, 27, #[.int .u64 (r.gen : Nat), .int .i64 r.at_, .int .i64 r.len, .int .i64 r.long, .int .u32 (r.sum : Nat), .int .u64 (r.next : Nat)])] [(w1.heap.size, w2.heap.size, .agg #[.slice A4 Wd.dry.length c4, .slice B4 Wd.wet.length e4, .int .i64 Wd.left], Wd), (0, w4.heap.size, .agg #[.slice A6 X.dry.length c6, .slice B6 X.wet.length e6, .int .i64 X.left], X), (0, w5.heap.size, .agg #[.slice A7 C.dry.length c7, .slice B7 C.wet.length e7, .int .i64 C.left], C)] [(0, w3.heap.size, .slice A5 32 c5, octs r), (0, w6.heap.size, .slice A8 z1.length c8, z1)] := Y7.newB (w7.heap.size) rfl 27 #[.int .u64 (r.gen : Nat), .int .i64 r.at_, .int .i64 r.len, .int .i64 r.long, .int .u32 (r.sum : Nat), .int .u64 (r.next : Nat)]
       have X8 := hide Y7b
       clear X7 b7 Y7 Y7b)
    | (have _t := tk8; clear tk8 _t; go_at_call 17; refine (unhide hF _ _ _ (unhide X8).bl ((unhide X8).dr 2 rfl)).mono ?_; rintro e w8 ⟨rfl, b8⟩
       have Y8 : Gx w w8 [(w.heap.size + 1, 27, #[.int .u64 (o.gen : Nat), .int .i64 o.at_, .int .i64 o.len, .int .i64 o.long, .int .u32 (o.sum : Nat), .int .u64 (o.next : Nat)]), (w.heap.size + 2, 27, #[.int .u64 (r.gen : Nat), .int .i64 r.at_, .int .i64 r.len, .int .i64 r.long, .int .u32 (r.sum : Nat), .int .u64 (r.next : Nat)]), (w.heap.size, 31, #[.slice A4 Wd.dry.length c4, .slice B4 Wd.wet.length e4, .int .i64 Wd.left]), (w4.heap.size, 31, #[.slice A6 X.dry.length c6, .slice B6 X.wet.length e6, .int .i64 X.left]), (w5.heap.size, 31, #[.slice A7 C.dry.length c7, .slice B7 C.wet.length e7, .int .i64 C.left]), (w7.heap.size, 27, #[.int .u64 (r.gen : Nat), .int .i64 r.at_, .int .i64 r.len, .int .i64 r.long, .int .u32 (r.sum : Nat), .int .u64 (r.next : Nat)])] [(w1.heap.size, w2.heap.size, .agg #[.slice A4 Wd.dry.length c4, .slice B4 Wd.wet.length e4, .int .i64 Wd.left], Wd), (0, w4.heap.size, .agg #[.slice A6 X.dry.length c6, .slice B6 X.wet.length e6, .int .i64 X.left], X), (0, w5.heap.size, .agg #[.slice A7 C.dry.length c7, .slice B7 C.wet.length e7, .int .i64 C.left], C)] [(0, w3.heap.size, .slice A5 32 c5, octs r), (0, w6.heap.size, .slice A8 z1.length c8, z1)] := (unhide X8).call b8
       clear ca0_0 ca0_1 ca0_2 ca0_3 ca0_4 ca0_5 q0 ca1_0 ca1_1 ca1_2 ca1_3 ca1_4 ca1_5 q1 ca2_0 ca2_1 ca2_2 q2 ca3_0 ca3_1 ca3_2 q3 ca4_0 ca4_1 ca4_2 q4
       obtain ⟨ca0_0, ca0_1, ca0_2, ca0_3, ca0_4, ca0_5⟩ := zk6 (Y8.get 0 rfl)
       have q0 := (Y8.get 0 rfl).lt
       obtain ⟨ca1_0, ca1_1, ca1_2, ca1_3, ca1_4, ca1_5⟩ := zk6 (Y8.get 1 rfl)
       have q1 := (Y8.get 1 rfl).lt
       obtain ⟨ca2_0, ca2_1, ca2_2⟩ := ck3 (Y8.get 2 rfl)
       have q2 := (Y8.get 2 rfl).lt
       obtain ⟨ca3_0, ca3_1, ca3_2⟩ := ck3 (Y8.get 3 rfl)
       have q3 := (Y8.get 3 rfl).lt
       obtain ⟨ca4_0, ca4_1, ca4_2⟩ := ck3 (Y8.get 4 rfl)
       have q4 := (Y8.get 4 rfl).lt
       obtain ⟨ca5_0, ca5_1, ca5_2, ca5_3, ca5_4, ca5_5⟩ := zk6 (Y8.get 5 rfl)
       have q5 := (Y8.get 5 rfl).lt
       have Y8b : Gx w (w8.alloc (.cells #[.int .u64 (p.gen : Nat), .int .i64 p.at_, .int .i64 p.len, .int .i64 p.long, .int .u32 (p.sum : Nat), .int .u64 (p.next : Nat)] 27)) [(w.heap.size + 1, 27, #[.int .u64 (o.gen : Nat), .int .i64 o.at_, .int .i64 o.len, .int .i64 o.long, .int .u32 (o.sum : Nat), .int .u64 (o.next : Nat)]), (w.heap.size + 2, 27, #[.int .u64 (r.gen : Nat), .int .i64 r.at_, .int .i64 r.len, .int .i64 r.long, .int .u32 (r.sum : Nat), .int .u64 (r.next : Nat)]), (w.heap.size, 31, #[.slice A4 Wd.dry.length c4, .slice B4 Wd.wet.length e4, .int .i64 Wd.left]), (w4.heap.size, 31, #[.slice A6 X.dry.length c6, .slice B6 X.wet.length e6, .int .i64 X.left]), (w5.heap.size, 31, #[.slice A7 C.dry.length c7, .slice B7 C.wet.length e7, .int .i64 C.left]), (w7.heap.size, 27, #[.int .u64 (r.gen : Nat), .int .i64 r.at_, .int .i64 r.len, .int .i64 r.long, .int .u32 (r.sum : Nat), .int .u64 (r.next : Nat)]), (w8.heap.size, 27, #[.int .u64 (p.gen : Nat), .int .i64 p.at_, .int .i64 p.len, .int .i64 p.long, .int .u32 (p.sum : Nat), .int .u64 (p.next : Nat)])] [(w1.heap.size, w2.heap.size, .agg #[.slice A4 Wd.dry.length c4, .slice B4 Wd.wet.length e4, .int .i64 Wd.left], Wd), (0, w4.heap.size, .agg #[.slice A6 X.dry.length c6, .slice B6 X.wet.length e6, .int .i64 X.left], X), (0, w5.heap.size, .agg #[.slice A7 C.dry.length c7, .slice B7 C.wet.length e7, .int .i64 C.left], C)] [(0, w3.heap.size, .slice A5 32 c5, octs r), (0, w6.heap.size, .slice A8 z1.length c8, z1)] := Y8.newB (w8.heap.size) rfl 27 #[.int .u64 (p.gen : Nat), .int .i64 p.at_, .int .i64 p.len, .int .i64 p.long, .int .u32 (p.sum : Nat), .int .u64 (p.next : Nat)]
       have X9 := hide Y8b
       clear X8 b8 Y8 Y8b)
    | (have _t := tk9; clear tk9 _t; go_at_call 25; refine (unhide hR2 _ _ _ (unhide X9).bl ((unhide X9).dr 2 rfl)).mono ?_; rintro e w9 ⟨A3, c3, rfl, x3, b9⟩
       have Y9 : Gx w w9 [(w.heap.size + 1, 27, #[.int .u64 (o.gen : Nat), .int .i64 o.at_, .int .i64 o.len, .int .i64 o.long, .int .u32 (o.sum : Nat), .int .u64 (o.next : Nat)]), (w.heap.size + 2, 27, #[.int .u64 (r.gen : Nat), .int .i64 r.at_, .int .i64 r.len, .int .i64 r.long, .int .u32 (r.sum : Nat), .int .u64 (r.next : Nat)]), (w.heap.size, 31, #[.slice A4 Wd.dry.length c4, .slice B4 Wd.wet.length e4, .int .i64 Wd.left]), (w4.heap.size, 31, #[.slice A6 X.dry.length c6, .slice B6 X.wet.length e6, .int .i64 X.left]), (w5.heap.size, 31, #[.slice A7 C.dry.length c7, .slice B7 C.wet.length e7, .int .i64 C.left]), (w7.heap.size, 27, #[.int .u64 (r.gen : Nat), .int .i64 r.at_, .int .i64 r.len, .int .i64 r.long, .int .u32 (r.sum : Nat), .int .u64 (r.next : Nat)]), (w8.heap.size, 27, #[.int .u64 (p.gen : Nat), .int .i64 p.at_, .int .i64 p.len, .int .i64 p.long, .int .u32 (p.sum : Nat), .int .u64 (p.next : Nat)])] [(w1.heap.size, w2.heap.size, .agg #[.slice A4 Wd.dry.length c4, .slice B4 Wd.wet.length e4, .int .i64 Wd.left], Wd), (0, w4.heap.size, .agg #[.slice A6 X.dry.length c6, .slice B6 X.wet.length e6, .int .i64 X.left], X), (0, w5.heap.size, .agg #[.slice A7 C.dry.length c7, .slice B7 C.wet.length e7, .int .i64 C.left], C)] [(0, w3.heap.size, .slice A5 32 c5, octs r), (0, w6.heap.size, .slice A8 z1.length c8, z1)] := (unhide X9).call b9
       have Y9z : Gx w w9 [(w.heap.size + 1, 27, #[.int .u64 (o.gen : Nat), .int .i64 o.at_, .int .i64 o.len, .int .i64 o.long, .int .u32 (o.sum : Nat), .int .u64 (o.next : Nat)]), (w.heap.size + 2, 27, #[.int .u64 (r.gen : Nat), .int .i64 r.at_, .int .i64 r.len, .int .i64 r.long, .int .u32 (r.sum : Nat), .int .u64 (r.next : Nat)]), (w.heap.size, 31, #[.slice A4 Wd.dry.length c4, .slice B4 Wd.wet.length e4, .int .i64 Wd.left]), (w4.heap.size, 31, #[.slice A6 X.dry.length c6, .slice B6 X.wet.length e6, .int .i64 X.left]), (w5.heap.size, 31, #[.slice A7 C.dry.length c7, .slice B7 C.wet.length e7, .int .i64 C.left]), (w7.heap.size, 27, #[.int .u64 (r.gen : Nat), .int .i64 r.at_, .int .i64 r.len, .int .i64 r.long, .int .u32 (r.sum : Nat), .int .u64 (r.next : Nat)]), (w8.heap.size, 27, #[.int .u64 (p.gen : Nat), .int .i64 p.at_, .int .i64 p.len, .int .i64 p.long, .int .u32 (p.sum : Nat), .int .u64 (p.next : Nat)])] [(w1.heap.size, w2.heap.size, .agg #[.slice A4 Wd.dry.length c4, .slice B4 Wd.wet.length e4, .int .i64 Wd.left], Wd), (0, w4.heap.size, .agg #[.slice A6 X.dry.length c6, .slice B6 X.wet.length e6, .int .i64 X.left], X), (0, w5.heap.size, .agg #[.slice A7 C.dry.length c7, .slice B7 C.wet.length e7, .int .i64 C.left], C)] [(0, w3.heap.size, .slice A5 32 c5, octs r), (0, w6.heap.size, .slice A8 z1.length c8, z1), (0, w9.heap.size, .slice A3 z2.length c3, z2)] := Y9.addZ (x3.mono (Nat.zero_le _) (Nat.le_refl _))
       clear ca0_0 ca0_1 ca0_2 ca0_3 ca0_4 ca0_5 q0 ca1_0 ca1_1 ca1_2 ca1_3 ca1_4 ca1_5 q1 ca2_0 ca2_1 ca2_2 q2 ca3_0 ca3_1 ca3_2 q3 ca4_0 ca4_1 ca4_2 q4 ca5_0 ca5_1 ca5_2 ca5_3 ca5_4 ca5_5 q5
       obtain ⟨ca0_0, ca0_1, ca0_2, ca0_3, ca0_4, ca0_5⟩ := zk6 (Y9z.get 0 rfl)
       have q0 := (Y9z.get 0 rfl).lt
       obtain ⟨ca1_0, ca1_1, ca1_2, ca1_3, ca1_4, ca1_5⟩ := zk6 (Y9z.get 1 rfl)
       have q1 := (Y9z.get 1 rfl).lt
       obtain ⟨ca2_0, ca2_1, ca2_2⟩ := ck3 (Y9z.get 2 rfl)
       have q2 := (Y9z.get 2 rfl).lt
       obtain ⟨ca3_0, ca3_1, ca3_2⟩ := ck3 (Y9z.get 3 rfl)
       have q3 := (Y9z.get 3 rfl).lt
       obtain ⟨ca4_0, ca4_1, ca4_2⟩ := ck3 (Y9z.get 4 rfl)
       have q4 := (Y9z.get 4 rfl).lt
       obtain ⟨ca5_0, ca5_1, ca5_2, ca5_3, ca5_4, ca5_5⟩ := zk6 (Y9z.get 5 rfl)
       have q5 := (Y9z.get 5 rfl).lt
       obtain ⟨ca6_0, ca6_1, ca6_2, ca6_3, ca6_4, ca6_5⟩ := zk6 (Y9z.get 6 rfl)
       have q6 := (Y9z.get 6 rfl).lt
       have X10 := hide Y9z
       clear X9 b9 Y9 Y9z)
    | (have _t := tk10; clear tk10 _t; go_at_call 13; refine (unhide hO2 _ _ (unhide X10).bl ((unhide X10).rd 2 rfl)).mono ?_; rintro e w10 ⟨rfl, b10⟩
       have Y10 : Gx w w10 [(w.heap.size + 1, 27, #[.int .u64 (o.gen : Nat), .int .i64 o.at_, .int .i64 o.len, .int .i64 o.long, .int .u32 (o.sum : Nat), .int .u64 (o.next : Nat)]), (w.heap.size + 2, 27, #[.int .u64 (r.gen : Nat), .int .i64 r.at_, .int .i64 r.len, .int .i64 r.long, .int .u32 (r.sum : Nat), .int .u64 (r.next : Nat)]), (w.heap.size, 31, #[.slice A4 Wd.dry.length c4, .slice B4 Wd.wet.length e4, .int .i64 Wd.left]), (w4.heap.size, 31, #[.slice A6 X.dry.length c6, .slice B6 X.wet.length e6, .int .i64 X.left]), (w5.heap.size, 31, #[.slice A7 C.dry.length c7, .slice B7 C.wet.length e7, .int .i64 C.left]), (w7.heap.size, 27, #[.int .u64 (r.gen : Nat), .int .i64 r.at_, .int .i64 r.len, .int .i64 r.long, .int .u32 (r.sum : Nat), .int .u64 (r.next : Nat)]), (w8.heap.size, 27, #[.int .u64 (p.gen : Nat), .int .i64 p.at_, .int .i64 p.len, .int .i64 p.long, .int .u32 (p.sum : Nat), .int .u64 (p.next : Nat)])] [(w1.heap.size, w2.heap.size, .agg #[.slice A4 Wd.dry.length c4, .slice B4 Wd.wet.length e4, .int .i64 Wd.left], Wd), (0, w4.heap.size, .agg #[.slice A6 X.dry.length c6, .slice B6 X.wet.length e6, .int .i64 X.left], X), (0, w5.heap.size, .agg #[.slice A7 C.dry.length c7, .slice B7 C.wet.length e7, .int .i64 C.left], C)] [(0, w3.heap.size, .slice A5 32 c5, octs r), (0, w6.heap.size, .slice A8 z1.length c8, z1), (0, w9.heap.size, .slice A3 z2.length c3, z2)] := (unhide X10).call b10
       clear ca0_0 ca0_1 ca0_2 ca0_3 ca0_4 ca0_5 q0 ca1_0 ca1_1 ca1_2 ca1_3 ca1_4 ca1_5 q1 ca2_0 ca2_1 ca2_2 q2 ca3_0 ca3_1 ca3_2 q3 ca4_0 ca4_1 ca4_2 q4 ca5_0 ca5_1 ca5_2 ca5_3 ca5_4 ca5_5 q5 ca6_0 ca6_1 ca6_2 ca6_3 ca6_4 ca6_5 q6
       obtain ⟨ca0_0, ca0_1, ca0_2, ca0_3, ca0_4, ca0_5⟩ := zk6 (Y10.get 0 rfl)
       have q0 := (Y10.get 0 rfl).lt
       obtain ⟨ca1_0, ca1_1, ca1_2, ca1_3, ca1_4, ca1_5⟩ := zk6 (Y10.get 1 rfl)
       have q1 := (Y10.get 1 rfl).lt
       obtain ⟨ca2_0, ca2_1, ca2_2⟩ := ck3 (Y10.get 2 rfl)
       have q2 := (Y10.get 2 rfl).lt
       obtain ⟨ca3_0, ca3_1, ca3_2⟩ := ck3 (Y10.get 3 rfl)
       have q3 := (Y10.get 3 rfl).lt
       obtain ⟨ca4_0, ca4_1, ca4_2⟩ := ck3 (Y10.get 4 rfl)
       have q4 := (Y10.get 4 rfl).lt
       obtain ⟨ca5_0, ca5_1, ca5_2, ca5_3, ca5_4, ca5_5⟩ := zk6 (Y10.get 5 rfl)
       have q5 := (Y10.get 5 rfl).lt
       obtain ⟨ca6_0, ca6_1, ca6_2, ca6_3, ca6_4, ca6_5⟩ := zk6 (Y10.get 6 rfl)
       have q6 := (Y10.get 6 rfl).lt
       have Y10b : Gx w (w10.alloc (.cells #[.int .u64 (y.gen : Nat), .int .i64 y.at_, .int .i64 y.len, .int .i64 y.long, .int .u32 (y.sum : Nat), .int .u64 (y.next : Nat)] 27)) [(w.heap.size + 1, 27, #[.int .u64 (o.gen : Nat), .int .i64 o.at_, .int .i64 o.len, .int .i64 o.long, .int .u32 (o.sum : Nat), .int .u64 (o.next : Nat)]), (w.heap.size + 2, 27, #[.int .u64 (r.gen : Nat), .int .i64 r.at_, .int .i64 r.len, .int .i64 r.long, .int .u32 (r.sum : Nat), .int .u64 (r.next : Nat)]), (w.heap.size, 31, #[.slice A4 Wd.dry.length c4, .slice B4 Wd.wet.length e4, .int .i64 Wd.left]), (w4.heap.size, 31, #[.slice A6 X.dry.length c6, .slice B6 X.wet.length e6, .int .i64 X.left]), (w5.heap.size, 31, #[.slice A7 C.dry.length c7, .slice B7 C.wet.length e7, .int .i64 C.left]), (w7.heap.size, 27, #[.int .u64 (r.gen : Nat), .int .i64 r.at_, .int .i64 r.len, .int .i64 r.long, .int .u32 (r.sum : Nat), .int .u64 (r.next : Nat)]), (w8.heap.size, 27, #[.int .u64 (p.gen : Nat), .int .i64 p.at_, .int .i64 p.len, .int .i64 p.long, .int .u32 (p.sum : Nat), .int .u64 (p.next : Nat)]), (w10.heap.size, 27, #[.int .u64 (y.gen : Nat), .int .i64 y.at_, .int .i64 y.len, .int .i64 y.long, .int .u32 (y.sum : Nat), .int .u64 (y.next : Nat)])] [(w1.heap.size, w2.heap.size, .agg #[.slice A4 Wd.dry.length c4, .slice B4 Wd.wet.length e4, .int .i64 Wd.left], Wd), (0, w4.heap.size, .agg #[.slice A6 X.dry.length c6, .slice B6 X.wet.length e6, .int .i64 X.left], X), (0, w5.heap.size, .agg #[.slice A7 C.dry.length c7, .slice B7 C.wet.length e7, .int .i64 C.left], C)] [(0, w3.heap.size, .slice A5 32 c5, octs r), (0, w6.heap.size, .slice A8 z1.length c8, z1), (0, w9.heap.size, .slice A3 z2.length c3, z2)] := Y10.newB (w10.heap.size) rfl 27 #[.int .u64 (y.gen : Nat), .int .i64 y.at_, .int .i64 y.len, .int .i64 y.long, .int .u32 (y.sum : Nat), .int .u64 (y.next : Nat)]
       have X11 := hide Y10b
       clear X10 b10 Y10 Y10b)
    | fail)
  go_ret
  exact ⟨ret_b rfl (by simp), (unhide X11).bl⟩
set_option maxHeartbeats 16000000 in
theorem torn_1r (A A' : Option Addr) (c c' : Nat) (d : Dk) (o r : Rt) (hT' : OkT o) (hT : OkT r) (m : UInt8) (w : World) (ht : Tab w) (h : Dsk 0 w.heap.size w (.agg #[.slice A d.dry.length c, .slice A' d.wet.length c', .int .i64 d.left]) d) (hw : fewB d = true) (h1 : d.left = -1) (h2 : o.gen % 2 = r.gen % 2) (h3 : o.gen % 256 ≠ r.gen % 256) (hE : (wrR d o).2 = 0) (hr : rOk r = true) (hm : m = 255) (X C : Dk) (ho : Torn (wrR d o).1 o r m X C) (hk : (fdR C).2 = 0) (hp : (fdR C).1 = r) :
    Calls Tryd.prog 6 #[.agg #[.slice A d.dry.length c, .slice A' d.wet.length c', .int .i64 d.left], (.agg #[.int .u64 (o.gen : Nat), .int .i64 o.at_, .int .i64 o.len, .int .i64 o.long, .int .u32 (o.sum : Nat), .int .u64 (o.next : Nat)]), (.agg #[.int .u64 (r.gen : Nat), .int .i64 r.at_, .int .i64 r.len, .int .i64 r.long, .int .u32 (r.sum : Nat), .int .u64 (r.next : Nat)]), .int .u8 (m.toNat : Int)] w fun e w' => e = .returned (.bool true) ∧ Below w.heap.size w w' := by
  have hl := fun W (hB : Below w.heap.size w W) => live_any W (ht.below hB (Nat.le_refl _))
  have hf := fun W (hB : Below w.heap.size w W) => few_any 0 _ d W (h.grow hB)
  rw [hw] at hf
  have g1 : (d.left != -1) = false := by rw [h1]; rfl
  have g2 : ((o.gen : Int) % 2 != (r.gen : Int) % 2) = false := by simp; omega
  have g3 : ((o.gen : Int) % 256 == (r.gen : Int) % 256) = false := by simp; omega
  obtain ⟨s1, s2⟩ := few_small hw
  have hS := fun W (hB : Below w.heap.size w W) => Write_form' 0 _ d o W (ht.below hB (Nat.le_refl _)) hT' (h.grow hB) (by omega) (by omega)
  have hgo := went_of hE
  obtain ⟨q1, q2, q3, q4, q5, q6, q7, q8, q9⟩ := ho
  have hor := hgo.ok
  have hne : o ≠ r := fun e => h3 (by rw [e])
  have s3 : (wrR d o).1.dry.length ≤ 300000 := by rw [hgo.lenW]; omega
  have s4 : (wrR d o).1.wet.length = 0 := by rw [hgo.wetW]; rfl
  have ho' : Torn (wrR d o).1 o r m X C := ⟨q1, q2, q3, q4, q5, q6, q7, q8, q9⟩
  have hO := fun W (hB : Below w.heap.size w W) => Octets_ok r hr hT W (ht.below hB (Nat.le_refl _))
  obtain ⟨i, hi⟩ : ∃ i : Nat, i = r.gen % 2 := ⟨_, rfl⟩
  have i2 : i < 2 := by omega
  have f1 : (o.gen : Int) % 2 = (i : Int) := by omega
  have f2 : (r.gen : Int) % 2 = (i : Int) := by omega
  obtain ⟨j, hj⟩ : ∃ j : Nat, j = 1 - i := ⟨_, rfl⟩
  have f3 : (1 : Int) - (i : Int) = (j : Int) := by omega
  have f4 : IntKind.i64.wrap (1 - (i : Int)) = (j : Int) := by rw [f3]; exact IntWalk.i64_in _ (by omega)
  have r1 := hold_rd q7 i2
  have r2 := hold_rd q7 (show j < 2 by omega)
  have hT1 := fun lo v bb W (_ : Below w.heap.size w W) (hx : Dsk lo W.heap.size W v (wrR d o).1) (hb : Bs 0 W.heap.size W bb (octs r)) => Write2_form 0 v bb (wrR d o).1 ((r.gen % 2 : Nat) : Int) (octs r) W (hx.mono (Nat.zero_le _) (Nat.le_refl _)) hb (by omega) (by omega)
  rw [q1, ← hi] at hT1
  have hCr := fun lo v mv W (_ : Below w.heap.size w W) (hx : Dsk lo W.heap.size W v X) (hb : Bs 0 W.heap.size W mv [m]) => Crash_form 0 v mv X [m] W (hx.mono (Nat.zero_le _) (Nat.le_refl _)) hb (by omega) (by omega)
  rw [q2] at hCr
  have hR1 := fun lo v W (_ : Below w.heap.size w W) (hx : Dsk lo W.heap.size W v C) => Read_form lo v C i W hx (by omega) (by omega) _ r1
  have hR2 := fun lo v W (_ : Below w.heap.size w W) (hx : Dsk lo W.heap.size W v C) => Read_form lo v C j W hx (by omega) (by omega) _ r2
  have hF := fun lo v W (hB : Below w.heap.size w W) (hx : Dsk lo W.heap.size W v C) => Find_any lo v C W (ht.below hB (Nat.le_refl _)) hx (by omega) (by omega)
  have hO1 := fun v1 W (hB : Below w.heap.size w W) (hx : Bs 0 W.heap.size W v1 (sectorOf C (i : Nat))) => Of_any v1 0 _ W (ht.below hB (Nat.le_refl _)) hx
  have hO2 := fun v1 W (hB : Below w.heap.size w W) (hx : Bs 0 W.heap.size W v1 (sectorOf C (j : Nat))) => Of_any v1 0 _ W (ht.below hB (Nat.le_refl _)) hx
  rw [hE] at hS
  have hz : sectorOf C (i : Nat) = octs r := by subst hm; rw [hi]; exact ho'.full
  have z1 : ofE (sectorOf C (i : Nat)) = 0 := by rw [hz]; unfold ofE; rw [ofB_octs hr hT]; rfl
  have z2 : ofR (sectorOf C (i : Nat)) = r := by rw [hz]; exact ofR_octs hr hT
  rw [z1, z2] at hO1
  have m1 : ((m.toNat : Int) == 0) = false := by rw [hm]; rfl
  have m2 : ((m.toNat : Int) == 255) = true := by rw [hm]; rfl
  have m3 : ((m.toNat : Int) != 0) = true := by rw [hm]; rfl
  have m4 : ((m.toNat : Int) != 255) = false := by rw [hm]; rfl
  clear hz z1 z2 hm
  rw [hk] at hF
  rw [hp] at hF
  obtain ⟨y, hyy⟩ : ∃ y, y = ofR (sectorOf C (j : Nat)) := ⟨_, rfl⟩
  obtain ⟨Ey, hye⟩ : ∃ E, E = ofE (sectorOf C (j : Nat)) := ⟨_, rfl⟩
  rw [← hyy, ← hye] at hO2
  clear hyy hye hp
  have d3 : decide (o = r) = false := decide_eq_false hne
  have d4 : decide (r = o) = false := decide_eq_false (fun e => hne e.symm)
  obtain ⟨Wd, hWd⟩ : ∃ Wd, Wd = (wrR d o).1 := ⟨_, rfl⟩
  rw [← hWd] at hS hT1
  generalize sectorOf C (i : Nat) = z1 at *
  generalize sectorOf C (j : Nat) = z2 at *
  replace hS := hide hS; replace hO := hide hO; replace hT1 := hide hT1; replace hCr := hide hCr; replace hR1 := hide hR1; replace hR2 := hide hR2; replace hF := hide hF; replace hO1 := hide hO1; replace hO2 := hide hO2
  generalize d.dry.length = n at *
  generalize d.wet.length = k at *
  generalize d.left = l at *
  have X0 : Gx w (((w.alloc (.cells #[.slice A n c, .slice A' k c', .int .i64 l] 31)).alloc (.cells #[.int .u64 (o.gen : Nat), .int .i64 o.at_, .int .i64 o.len, .int .i64 o.long, .int .u32 (o.sum : Nat), .int .u64 (o.next : Nat)] 27)).alloc (.cells #[.int .u64 (r.gen : Nat), .int .i64 r.at_, .int .i64 r.len, .int .i64 r.long, .int .u32 (r.sum : Nat), .int .u64 (r.next : Nat)] 27)) [(w.heap.size, 31, #[.slice A n c, .slice A' k c', .int .i64 l]), (w.heap.size + 1, 27, #[.int .u64 (o.gen : Nat), .int .i64 o.at_, .int .i64 o.len, .int .i64 o.long, .int .u32 (o.sum : Nat), .int .u64 (o.next : Nat)]), (w.heap.size + 2, 27, #[.int .u64 (r.gen : Nat), .int .i64 r.at_, .int .i64 r.len, .int .i64 r.long, .int .u32 (r.sum : Nat), .int .u64 (r.next : Nat)])] [] [] := (((Gx.nil w).newB w.heap.size rfl 31 #[.slice A n c, .slice A' k c', .int .i64 l]).newB (w.heap.size + 1) (by simp) 27 #[.int .u64 (o.gen : Nat), .int .i64 o.at_, .int .i64 o.len, .int .i64 o.long, .int .u32 (o.sum : Nat), .int .u64 (o.next : Nat)]).newB (w.heap.size + 2) (by simp) 27 #[.int .u64 (r.gen : Nat), .int .i64 r.at_, .int .i64 r.len, .int .i64 r.long, .int .u32 (r.sum : Nat), .int .u64 (r.next : Nat)]
  replace X0 := hide X0; replace hl := hide hl; replace hf := hide hf
  clear ht h hw hT hT' s1 s2 hgo q1 q2 q3 q4 q5 q6 q7 q8 q9 hor hne s3 s4 ho' hi i2 hj r1 r2 hE hr hk hWd h1 h2 h3
  have tk0 : True := trivial
  have tk1 : True := trivial
  have tk2 : True := trivial
  have tk3 : True := trivial
  have tk4 : True := trivial
  have tk5 : True := trivial
  have tk6 : True := trivial
  have tk7 : True := trivial
  have tk8 : True := trivial
  have tk9 : True := trivial
  have tk10 : True := trivial
  go_enter Tryd.func6, Tryd.ntmps6
  go_upto_region 1 with (fail)
  generalize hW : World.alloc (World.alloc (World.alloc w _) _) _ = W at *
  clear hW
  obtain ⟨ca0_0, ca0_1, ca0_2⟩ := ck3 ((unhide X0).get 0 rfl)
  obtain ⟨fa0_0, fa0_1, fa0_2⟩ := fk3 ((unhide X0).get 0 rfl)
  have q0 := ((unhide X0).get 0 rfl).lt
  obtain ⟨ca1_0, ca1_1, ca1_2, ca1_3, ca1_4, ca1_5⟩ := zk6 ((unhide X0).get 1 rfl)
  have q1 := ((unhide X0).get 1 rfl).lt
  obtain ⟨ca2_0, ca2_1, ca2_2, ca2_3, ca2_4, ca2_5⟩ := zk6 ((unhide X0).get 2 rfl)
  have q2 := ((unhide X0).get 2 rfl).lt
  go_wp2_with (first
    | (have _t := tk0; clear tk0 _t; go_at_call 8; refine (unhide hl _ (unhide X0).bl).mono ?_; rintro e w0 ⟨rfl, b0⟩
       have Y0 : Gx w w0 [(w.heap.size, 31, #[.slice A n c, .slice A' k c', .int .i64 l]), (w.heap.size + 1, 27, #[.int .u64 (o.gen : Nat), .int .i64 o.at_, .int .i64 o.len, .int .i64 o.long, .int .u32 (o.sum : Nat), .int .u64 (o.next : Nat)]), (w.heap.size + 2, 27, #[.int .u64 (r.gen : Nat), .int .i64 r.at_, .int .i64 r.len, .int .i64 r.long, .int .u32 (r.sum : Nat), .int .u64 (r.next : Nat)])] [] [] := (unhide X0).call b0
       clear ca0_0 ca0_1 ca0_2 fa0_0 fa0_1 fa0_2 q0 ca1_0 ca1_1 ca1_2 ca1_3 ca1_4 ca1_5 q1 ca2_0 ca2_1 ca2_2 ca2_3 ca2_4 ca2_5 q2
       obtain ⟨ca0_0, ca0_1, ca0_2⟩ := ck3 (Y0.get 0 rfl)
       obtain ⟨fa0_0, fa0_1, fa0_2⟩ := fk3 (Y0.get 0 rfl)
       have q0 := (Y0.get 0 rfl).lt
       obtain ⟨ca1_0, ca1_1, ca1_2, ca1_3, ca1_4, ca1_5⟩ := zk6 (Y0.get 1 rfl)
       have q1 := (Y0.get 1 rfl).lt
       obtain ⟨ca2_0, ca2_1, ca2_2, ca2_3, ca2_4, ca2_5⟩ := zk6 (Y0.get 2 rfl)
       have q2 := (Y0.get 2 rfl).lt
       have X1 := hide Y0
       clear X0 b0 Y0)
    | (have _t := tk1; clear tk1 _t; go_at_call 9; refine (unhide hf _ (unhide X1).bl).mono ?_; rintro e w1 ⟨rfl, b1⟩
       have Y1 : Gx w w1 [(w.heap.size, 31, #[.slice A n c, .slice A' k c', .int .i64 l]), (w.heap.size + 1, 27, #[.int .u64 (o.gen : Nat), .int .i64 o.at_, .int .i64 o.len, .int .i64 o.long, .int .u32 (o.sum : Nat), .int .u64 (o.next : Nat)]), (w.heap.size + 2, 27, #[.int .u64 (r.gen : Nat), .int .i64 r.at_, .int .i64 r.len, .int .i64 r.long, .int .u32 (r.sum : Nat), .int .u64 (r.next : Nat)])] [] [] := (unhide X1).call b1
       clear ca0_0 ca0_1 ca0_2 fa0_0 fa0_1 fa0_2 q0 ca1_0 ca1_1 ca1_2 ca1_3 ca1_4 ca1_5 q1 ca2_0 ca2_1 ca2_2 ca2_3 ca2_4 ca2_5 q2
       obtain ⟨ca0_0, ca0_1, ca0_2⟩ := ck3 (Y1.get 0 rfl)
       obtain ⟨fa0_0, fa0_1, fa0_2⟩ := fk3 (Y1.get 0 rfl)
       have q0 := (Y1.get 0 rfl).lt
       obtain ⟨ca1_0, ca1_1, ca1_2, ca1_3, ca1_4, ca1_5⟩ := zk6 (Y1.get 1 rfl)
       have q1 := (Y1.get 1 rfl).lt
       obtain ⟨ca2_0, ca2_1, ca2_2, ca2_3, ca2_4, ca2_5⟩ := zk6 (Y1.get 2 rfl)
       have q2 := (Y1.get 2 rfl).lt
       have X2 := hide Y1
       clear X1 b1 Y1)
    | (have _t := tk2; clear tk2 _t; go_at_call 15; refine (unhide hS _ (unhide X2).bl).mono ?_; rintro e w2 ⟨A4, c4, B4, e4, rfl, x4, b2⟩
       have Y2 : Gx w w2 [(w.heap.size, 31, #[.slice A n c, .slice A' k c', .int .i64 l]), (w.heap.size + 1, 27, #[.int .u64 (o.gen : Nat), .int .i64 o.at_, .int .i64 o.len, .int .i64 o.long, .int .u32 (o.sum : Nat), .int .u64 (o.next : Nat)]), (w.heap.size + 2, 27, #[.int .u64 (r.gen : Nat), .int .i64 r.at_, .int .i64 r.len, .int .i64 r.long, .int .u32 (r.sum : Nat), .int .u64 (r.next : Nat)])] [] [] := (unhide X2).call b2
       have Y2d : Gx w w2 [(w.heap.size, 31, #[.slice A n c, .slice A' k c', .int .i64 l]), (w.heap.size + 1, 27, #[.int .u64 (o.gen : Nat), .int .i64 o.at_, .int .i64 o.len, .int .i64 o.long, .int .u32 (o.sum : Nat), .int .u64 (o.next : Nat)]), (w.heap.size + 2, 27, #[.int .u64 (r.gen : Nat), .int .i64 r.at_, .int .i64 r.len, .int .i64 r.long, .int .u32 (r.sum : Nat), .int .u64 (r.next : Nat)])] [(w1.heap.size, w2.heap.size, .agg #[.slice A4 Wd.dry.length c4, .slice B4 Wd.wet.length e4, .int .i64 Wd.left], Wd)] [] := Y2.addD x4
       clear ca0_0 ca0_1 ca0_2 fa0_0 fa0_1 fa0_2 q0 ca1_0 ca1_1 ca1_2 ca1_3 ca1_4 ca1_5 q1 ca2_0 ca2_1 ca2_2 ca2_3 ca2_4 ca2_5 q2
       obtain ⟨ca0_0, ca0_1, ca0_2⟩ := ck3 (Y2d.get 0 rfl)
       obtain ⟨fa0_0, fa0_1, fa0_2⟩ := fk3 (Y2d.get 0 rfl)
       have q0 := (Y2d.get 0 rfl).lt
       obtain ⟨ca1_0, ca1_1, ca1_2, ca1_3, ca1_4, ca1_5⟩ := zk6 (Y2d.get 1 rfl)
       have q1 := (Y2d.get 1 rfl).lt
       obtain ⟨ca2_0, ca2_1, ca2_2, ca2_3, ca2_4, ca2_5⟩ := zk6 (Y2d.get 2 rfl)
       have q2 := (Y2d.get 2 rfl).lt
       have l7 : w.heap.size + 2 < w1.heap.size := ((unhide X2).get 2 rfl).lt
       have Z2 : Gx w (((w2.setCell ⟨w.heap.size, 0, none⟩ (.slice A4 Wd.dry.length c4)).setCell ⟨w.heap.size, 1, none⟩ (.slice B4 Wd.wet.length e4)).setCell ⟨w.heap.size, 2, none⟩ (.int .i64 Wd.left)) [(w.heap.size + 1, 27, #[.int .u64 (o.gen : Nat), .int .i64 o.at_, .int .i64 o.len, .int .i64 o.long, .int .u32 (o.sum : Nat), .int .u64 (o.next : Nat)]), (w.heap.size + 2, 27, #[.int .u64 (r.gen : Nat), .int .i64 r.at_, .int .i64 r.len, .int .i64 r.long, .int .u32 (r.sum : Nat), .int .u64 (r.next : Nat)]), (w.heap.size, 31, #[.slice A4 Wd.dry.length c4, .slice B4 Wd.wet.length e4, .int .i64 Wd.left])] [(w1.heap.size, w2.heap.size, .agg #[.slice A4 Wd.dry.length c4, .slice B4 Wd.wet.length e4, .int .i64 Wd.left], Wd)] [] := (Y2d.sub (L' := [(w.heap.size + 1, 27, #[.int .u64 (o.gen : Nat), .int .i64 o.at_, .int .i64 o.len, .int .i64 o.long, .int .u32 (o.sum : Nat), .int .u64 (o.next : Nat)]), (w.heap.size + 2, 27, #[.int .u64 (r.gen : Nat), .int .i64 r.at_, .int .i64 r.len, .int .i64 r.long, .int .u32 (r.sum : Nat), .int .u64 (r.next : Nat)])]) (by simp) (fun _ h => h) (fun _ h => h)).set3 (Y2d.get 0 rfl) (Nat.le_refl _) (by simp) (by simp; omega) (by simp) (.slice A4 Wd.dry.length c4) (.slice B4 Wd.wet.length e4) (.int .i64 Wd.left)
       have X3 := hide Z2
       clear X2 b2 Y2 Y2d Z2)
    | (have _t := tk3; clear tk3 _t; go_at_call 11; refine (unhide hO _ (unhide X3).bl).mono ?_; rintro e w3 ⟨A5, c5, rfl, x5, b3⟩
       have Y3 : Gx w w3 [(w.heap.size + 1, 27, #[.int .u64 (o.gen : Nat), .int .i64 o.at_, .int .i64 o.len, .int .i64 o.long, .int .u32 (o.sum : Nat), .int .u64 (o.next : Nat)]), (w.heap.size + 2, 27, #[.int .u64 (r.gen : Nat), .int .i64 r.at_, .int .i64 r.len, .int .i64 r.long, .int .u32 (r.sum : Nat), .int .u64 (r.next : Nat)]), (w.heap.size, 31, #[.slice A4 Wd.dry.length c4, .slice B4 Wd.wet.length e4, .int .i64 Wd.left])] [(w1.heap.size, w2.heap.size, .agg #[.slice A4 Wd.dry.length c4, .slice B4 Wd.wet.length e4, .int .i64 Wd.left], Wd)] [] := (unhide X3).call b3
       have Y3z : Gx w w3 [(w.heap.size + 1, 27, #[.int .u64 (o.gen : Nat), .int .i64 o.at_, .int .i64 o.len, .int .i64 o.long, .int .u32 (o.sum : Nat), .int .u64 (o.next : Nat)]), (w.heap.size + 2, 27, #[.int .u64 (r.gen : Nat), .int .i64 r.at_, .int .i64 r.len, .int .i64 r.long, .int .u32 (r.sum : Nat), .int .u64 (r.next : Nat)]), (w.heap.size, 31, #[.slice A4 Wd.dry.length c4, .slice B4 Wd.wet.length e4, .int .i64 Wd.left])] [(w1.heap.size, w2.heap.size, .agg #[.slice A4 Wd.dry.length c4, .slice B4 Wd.wet.length e4, .int .i64 Wd.left], Wd)] [(0, w3.heap.size, .slice A5 32 c5, octs r)] := Y3.addZ (x5.mono (Nat.zero_le _) (Nat.le_refl _))
       clear ca0_0 ca0_1 ca0_2 fa0_0 fa0_1 fa0_2 q0 ca1_0 ca1_1 ca1_2 ca1_3 ca1_4 ca1_5 q1 ca2_0 ca2_1 ca2_2 ca2_3 ca2_4 ca2_5 q2
       obtain ⟨ca0_0, ca0_1, ca0_2, ca0_3, ca0_4, ca0_5⟩ := zk6 (Y3z.get 0 rfl)
       have q0 := (Y3z.get 0 rfl).lt
       obtain ⟨ca1_0, ca1_1, ca1_2, ca1_3, ca1_4, ca1_5⟩ := zk6 (Y3z.get 1 rfl)
       have q1 := (Y3z.get 1 rfl).lt
       obtain ⟨ca2_0, ca2_1, ca2_2⟩ := ck3 (Y3z.get 2 rfl)
       have q2 := (Y3z.get 2 rfl).lt
       have X4 := hide Y3z
       clear X3 b3 Y3 Y3z)
    | (have _t := tk4; clear tk4 _t; go_at_call 23; refine (unhide hT1 _ _ _ _ (unhide X4).bl ((unhide X4).dr 0 rfl) ((unhide X4).rd 0 rfl)).mono ?_; rintro e w4 ⟨A6, c6, B6, e6, rfl, x6, b4⟩
       have Y4 : Gx w w4 [(w.heap.size + 1, 27, #[.int .u64 (o.gen : Nat), .int .i64 o.at_, .int .i64 o.len, .int .i64 o.long, .int .u32 (o.sum : Nat), .int .u64 (o.next : Nat)]), (w.heap.size + 2, 27, #[.int .u64 (r.gen : Nat), .int .i64 r.at_, .int .i64 r.len, .int .i64 r.long, .int .u32 (r.sum : Nat), .int .u64 (r.next : Nat)]), (w.heap.size, 31, #[.slice A4 Wd.dry.length c4, .slice B4 Wd.wet.length e4, .int .i64 Wd.left])] [(w1.heap.size, w2.heap.size, .agg #[.slice A4 Wd.dry.length c4, .slice B4 Wd.wet.length e4, .int .i64 Wd.left], Wd)] [(0, w3.heap.size, .slice A5 32 c5, octs r)] := (unhide X4).call b4
       have Y4d : Gx w w4 [(w.heap.size + 1, 27, #[.int .u64 (o.gen : Nat), .int .i64 o.at_, .int .i64 o.len, .int .i64 o.long, .int .u32 (o.sum : Nat), .int .u64 (o.next : Nat)]), (w.heap.size + 2, 27, #[.int .u64 (r.gen : Nat), .int .i64 r.at_, .int .i64 r.len, .int .i64 r.long, .int .u32 (r.sum : Nat), .int .u64 (r.next : Nat)]), (w.heap.size, 31, #[.slice A4 Wd.dry.length c4, .slice B4 Wd.wet.length e4, .int .i64 Wd.left])] [(w1.heap.size, w2.heap.size, .agg #[.slice A4 Wd.dry.length c4, .slice B4 Wd.wet.length e4, .int .i64 Wd.left], Wd), (0, w4.heap.size, .agg #[.slice A6 X.dry.length c6, .slice B6 X.wet.length e6, .int .i64 X.left], X)] [(0, w3.heap.size, .slice A5 32 c5, octs r)] := Y4.addD (x6.mono (Nat.zero_le _) (Nat.le_refl _))
       clear ca0_0 ca0_1 ca0_2 ca0_3 ca0_4 ca0_5 q0 ca1_0 ca1_1 ca1_2 ca1_3 ca1_4 ca1_5 q1 ca2_0 ca2_1 ca2_2 q2
       obtain ⟨ca0_0, ca0_1, ca0_2, ca0_3, ca0_4, ca0_5⟩ := zk6 (Y4d.get 0 rfl)
       have q0 := (Y4d.get 0 rfl).lt
       obtain ⟨ca1_0, ca1_1, ca1_2, ca1_3, ca1_4, ca1_5⟩ := zk6 (Y4d.get 1 rfl)
       have q1 := (Y4d.get 1 rfl).lt
       obtain ⟨ca2_0, ca2_1, ca2_2⟩ := ck3 (Y4d.get 2 rfl)
       have q2 := (Y4d.get 2 rfl).lt
       have Y4db : Gx w (w4.alloc (.cells #[.slice A6 X.dry.length c6, .slice B6 X.wet.length e6, .int .i64 X.left] 31)) [(w.heap.size + 1, 27, #[.int .u64 (o.gen : Nat), .int .i64 o.at_, .int .i64 o.len, .int .i64 o.long, .int .u32 (o.sum : Nat), .int .u64 (o.next : Nat)]), (w.heap.size + 2, 27, #[.int .u64 (r.gen : Nat), .int .i64 r.at_, .int .i64 r.len, .int .i64 r.long, .int .u32 (r.sum : Nat), .int .u64 (r.next : Nat)]), (w.heap.size, 31, #[.slice A4 Wd.dry.length c4, .slice B4 Wd.wet.length e4, .int .i64 Wd.left]), (w4.heap.size, 31, #[.slice A6 X.dry.length c6, .slice B6 X.wet.length e6, .int .i64 X.left])] [(w1.heap.size, w2.heap.size, .agg #[.slice A4 Wd.dry.length c4, .slice B4 Wd.wet.length e4, .int .i64 Wd.left], Wd), (0, w4.heap.size, .agg #[.slice A6 X.dry.length c6, .slice B6 X.wet.length e6, .int .i64 X.left], X)] [(0, w3.heap.size, .slice A5 32 c5, octs r)] := Y4d.newB (w4.heap.size) rfl 31 #[.slice A6 X.dry.length c6, .slice B6 X.wet.length e6, .int .i64 X.left]
       have X5 := hide Y4db
       clear X4 b4 Y4 Y4d Y4db)
    | (have _t := tk5; clear tk5 _t; go_at_call 24; have XM := hide ((unhide X5).newB (w4.heap.size + 1) (by simp) 5 #[.int .u8 (m.toNat : Int)]); refine (unhide hCr _ _ _ _ (unhide XM).bl ((unhide XM).dr 1 rfl) (one_mask ((unhide XM).get 4 rfl))).mono ?_; rintro e w5 ⟨A7, c7, B7, e7, rfl, x7, b5⟩
       have Y5 : Gx w w5 [(w.heap.size + 1, 27, #[.int .u64 (o.gen : Nat), .int .i64 o.at_, .int .i64 o.len, .int .i64 o.long, .int .u32 (o.sum : Nat), .int .u64 (o.next : Nat)]), (w.heap.size + 2, 27, #[.int .u64 (r.gen : Nat), .int .i64 r.at_, .int .i64 r.len, .int .i64 r.long, .int .u32 (r.sum : Nat), .int .u64 (r.next : Nat)]), (w.heap.size, 31, #[.slice A4 Wd.dry.length c4, .slice B4 Wd.wet.length e4, .int .i64 Wd.left]), (w4.heap.size, 31, #[.slice A6 X.dry.length c6, .slice B6 X.wet.length e6, .int .i64 X.left]), (w4.heap.size + 1, 5, #[.int .u8 (m.toNat : Int)])] [(w1.heap.size, w2.heap.size, .agg #[.slice A4 Wd.dry.length c4, .slice B4 Wd.wet.length e4, .int .i64 Wd.left], Wd), (0, w4.heap.size, .agg #[.slice A6 X.dry.length c6, .slice B6 X.wet.length e6, .int .i64 X.left], X)] [(0, w3.heap.size, .slice A5 32 c5, octs r)] := (unhide XM).call b5
       have Y5d : Gx w w5 [(w.heap.size + 1, 27, #[.int .u64 (o.gen : Nat), .int .i64 o.at_, .int .i64 o.len, .int .i64 o.long, .int .u32 (o.sum : Nat), .int .u64 (o.next : Nat)]), (w.heap.size + 2, 27, #[.int .u64 (r.gen : Nat), .int .i64 r.at_, .int .i64 r.len, .int .i64 r.long, .int .u32 (r.sum : Nat), .int .u64 (r.next : Nat)]), (w.heap.size, 31, #[.slice A4 Wd.dry.length c4, .slice B4 Wd.wet.length e4, .int .i64 Wd.left]), (w4.heap.size, 31, #[.slice A6 X.dry.length c6, .slice B6 X.wet.length e6, .int .i64 X.left]), (w4.heap.size + 1, 5, #[.int .u8 (m.toNat : Int)])] [(w1.heap.size, w2.heap.size, .agg #[.slice A4 Wd.dry.length c4, .slice B4 Wd.wet.length e4, .int .i64 Wd.left], Wd), (0, w4.heap.size, .agg #[.slice A6 X.dry.length c6, .slice B6 X.wet.length e6, .int .i64 X.left], X), (0, w5.heap.size, .agg #[.slice A7 C.dry.length c7, .slice B7 C.wet.length e7, .int .i64 C.left], C)] [(0, w3.heap.size, .slice A5 32 c5, octs r)] := Y5.addD (x7.mono (Nat.zero_le _) (Nat.le_refl _))
       clear ca0_0 ca0_1 ca0_2 ca0_3 ca0_4 ca0_5 q0 ca1_0 ca1_1 ca1_2 ca1_3 ca1_4 ca1_5 q1 ca2_0 ca2_1 ca2_2 q2
       obtain ⟨ca0_0, ca0_1, ca0_2, ca0_3, ca0_4, ca0_5⟩ := zk6 (Y5d.get 0 rfl)
       have q0 := (Y5d.get 0 rfl).lt
       obtain ⟨ca1_0, ca1_1, ca1_2, ca1_3, ca1_4, ca1_5⟩ := zk6 (Y5d.get 1 rfl)
       have q1 := (Y5d.get 1 rfl).lt
       obtain ⟨ca2_0, ca2_1, ca2_2⟩ := ck3 (Y5d.get 2 rfl)
       have q2 := (Y5d.get 2 rfl).lt
       obtain ⟨ca3_0, ca3_1, ca3_2⟩ := ck3 (Y5d.get 3 rfl)
       have q3 := (Y5d.get 3 rfl).lt
       have Y5dc := Y5d.sub (L' := [(w.heap.size + 1, 27, #[.int .u64 (o.gen : Nat), .int .i64 o.at_, .int .i64 o.len, .int .i64 o.long, .int .u32 (o.sum : Nat), .int .u64 (o.next : Nat)]), (w.heap.size + 2, 27, #[.int .u64 (r.gen : Nat), .int .i64 r.at_, .int .i64 r.len, .int .i64 r.long, .int .u32 (r.sum : Nat), .int .u64 (r.next : Nat)]), (w.heap.size, 31, #[.slice A4 Wd.dry.length c4, .slice B4 Wd.wet.length e4, .int .i64 Wd.left]), (w4.heap.size, 31, #[.slice A6 X.dry.length c6, .slice B6 X.wet.length e6, .int .i64 X.left])]) (by simp) (fun _ h => h) (fun _ h => h)
       have Y5db : Gx w (w5.alloc (.cells #[.slice A7 C.dry.length c7, .slice B7 C.wet.length e7, .int .i64 C.left] 31)) [(w.heap.size + 1, 27, #[.int .u64 (o.gen : Nat), .int .i64 o.at_, .int .i64 o.len, .int .i64 o.long, .int .u32 (o.sum : Nat), .int .u64 (o.next : Nat)]), (w.heap.size + 2, 27, #[.int .u64 (r.gen : Nat), .int .i64 r.at_, .int .i64 r.len, .int .i64 r.long, .int .u32 (r.sum : Nat), .int .u64 (r.next : Nat)]), (w.heap.size, 31, #[.slice A4 Wd.dry.length c4, .slice B4 Wd.wet.length e4, .int .i64 Wd.left]), (w4.heap.size, 31, #[.slice A6 X.dry.length c6, .slice B6 X.wet.length e6, .int .i64 X.left]), (w5.heap.size, 31, #[.slice A7 C.dry.length c7, .slice B7 C.wet.length e7, .int .i64 C.left])] [(w1.heap.size, w2.heap.size, .agg #[.slice A4 Wd.dry.length c4, .slice B4 Wd.wet.length e4, .int .i64 Wd.left], Wd), (0, w4.heap.size, .agg #[.slice A6 X.dry.length c6, .slice B6 X.wet.length e6, .int .i64 X.left], X), (0, w5.heap.size, .agg #[.slice A7 C.dry.length c7, .slice B7 C.wet.length e7, .int .i64 C.left], C)] [(0, w3.heap.size, .slice A5 32 c5, octs r)] := Y5dc.newB (w5.heap.size) rfl 31 #[.slice A7 C.dry.length c7, .slice B7 C.wet.length e7, .int .i64 C.left]
       have X6 := hide Y5db
       clear XM Y5dc X5 b5 Y5 Y5d Y5db)
    | (have _t := tk6; clear tk6 _t; go_at_call 25; refine (unhide hR1 _ _ _ (unhide X6).bl ((unhide X6).dr 2 rfl)).mono ?_; rintro e w6 ⟨A8, c8, rfl, x8, b6⟩
       have Y6 : Gx w w6 [(w.heap.size + 1, 27, #[.int .u64 (o.gen : Nat), .int .i64 o.at_, .int .i64 o.len, .int .i64 o.long, .int .u32 (o.sum : Nat), .int .u64 (o.next : Nat)]), (w.heap.size + 2, 27, #[.int .u64 (r.gen : Nat), .int .i64 r.at_, .int .i64 r.len, .int .i64 r.long, .int .u32 (r.sum : Nat), .int .u64 (r.next : Nat)]), (w.heap.size, 31, #[.slice A4 Wd.dry.length c4, .slice B4 Wd.wet.length e4, .int .i64 Wd.left]), (w4.heap.size, 31, #[.slice A6 X.dry.length c6, .slice B6 X.wet.length e6, .int .i64 X.left]), (w5.heap.size, 31, #[.slice A7 C.dry.length c7, .slice B7 C.wet.length e7, .int .i64 C.left])] [(w1.heap.size, w2.heap.size, .agg #[.slice A4 Wd.dry.length c4, .slice B4 Wd.wet.length e4, .int .i64 Wd.left], Wd), (0, w4.heap.size, .agg #[.slice A6 X.dry.length c6, .slice B6 X.wet.length e6, .int .i64 X.left], X), (0, w5.heap.size, .agg #[.slice A7 C.dry.length c7, .slice B7 C.wet.length e7, .int .i64 C.left], C)] [(0, w3.heap.size, .slice A5 32 c5, octs r)] := (unhide X6).call b6
       have Y6z : Gx w w6 [(w.heap.size + 1, 27, #[.int .u64 (o.gen : Nat), .int .i64 o.at_, .int .i64 o.len, .int .i64 o.long, .int .u32 (o.sum : Nat), .int .u64 (o.next : Nat)]), (w.heap.size + 2, 27, #[.int .u64 (r.gen : Nat), .int .i64 r.at_, .int .i64 r.len, .int .i64 r.long, .int .u32 (r.sum : Nat), .int .u64 (r.next : Nat)]), (w.heap.size, 31, #[.slice A4 Wd.dry.length c4, .slice B4 Wd.wet.length e4, .int .i64 Wd.left]), (w4.heap.size, 31, #[.slice A6 X.dry.length c6, .slice B6 X.wet.length e6, .int .i64 X.left]), (w5.heap.size, 31, #[.slice A7 C.dry.length c7, .slice B7 C.wet.length e7, .int .i64 C.left])] [(w1.heap.size, w2.heap.size, .agg #[.slice A4 Wd.dry.length c4, .slice B4 Wd.wet.length e4, .int .i64 Wd.left], Wd), (0, w4.heap.size, .agg #[.slice A6 X.dry.length c6, .slice B6 X.wet.length e6, .int .i64 X.left], X), (0, w5.heap.size, .agg #[.slice A7 C.dry.length c7, .slice B7 C.wet.length e7, .int .i64 C.left], C)] [(0, w3.heap.size, .slice A5 32 c5, octs r), (0, w6.heap.size, .slice A8 z1.length c8, z1)] := Y6.addZ (x8.mono (Nat.zero_le _) (Nat.le_refl _))
       clear ca0_0 ca0_1 ca0_2 ca0_3 ca0_4 ca0_5 q0 ca1_0 ca1_1 ca1_2 ca1_3 ca1_4 ca1_5 q1 ca2_0 ca2_1 ca2_2 q2 ca3_0 ca3_1 ca3_2 q3
       obtain ⟨ca0_0, ca0_1, ca0_2, ca0_3, ca0_4, ca0_5⟩ := zk6 (Y6z.get 0 rfl)
       have q0 := (Y6z.get 0 rfl).lt
       obtain ⟨ca1_0, ca1_1, ca1_2, ca1_3, ca1_4, ca1_5⟩ := zk6 (Y6z.get 1 rfl)
       have q1 := (Y6z.get 1 rfl).lt
       obtain ⟨ca2_0, ca2_1, ca2_2⟩ := ck3 (Y6z.get 2 rfl)
       have q2 := (Y6z.get 2 rfl).lt
       obtain ⟨ca3_0, ca3_1, ca3_2⟩ := ck3 (Y6z.get 3 rfl)
       have q3 := (Y6z.get 3 rfl).lt
       obtain ⟨ca4_0, ca4_1, ca4_2⟩ := ck3 (Y6z.get 4 rfl)
       have q4 := (Y6z.get 4 rfl).lt
       have X7 := hide Y6z
       clear X6 b6 Y6 Y6z)
    | (have _t := tk7; clear tk7 _t; go_at_call 13; refine (unhide hO1 _ _ (unhide X7).bl ((unhide X7).rd 1 rfl)).mono ?_; rintro e w7 ⟨rfl, b7⟩
       have Y7 : Gx w w7 [(w.heap.size + 1, 27, #[.int .u64 (o.gen : Nat), .int .i64 o.at_, .int .i64 o.len, .int .i64 o.long, .int .u32 (o.sum : Nat), .int .u64 (o.next : Nat)]), (w.heap.size + 2, 27, #[.int .u64 (r.gen : Nat), .int .i64 r.at_, .int .i64 r.len, .int .i64 r.long, .int .u32 (r.sum : Nat), .int .u64 (r.next : Nat)]), (w.heap.size, 31, #[.slice A4 Wd.dry.length c4, .slice B4 Wd.wet.length e4, .int .i64 Wd.left]), (w4.heap.size, 31, #[.slice A6 X.dry.length c6, .slice B6 X.wet.length e6, .int .i64 X.left]), (w5.heap.size, 31, #[.slice A7 C.dry.length c7, .slice B7 C.wet.length e7, .int .i64 C.left])] [(w1.heap.size, w2.heap.size, .agg #[.slice A4 Wd.dry.length c4, .slice B4 Wd.wet.length e4, .int .i64 Wd.left], Wd), (0, w4.heap.size, .agg #[.slice A6 X.dry.length c6, .slice B6 X.wet.length e6, .int .i64 X.left], X), (0, w5.heap.size, .agg #[.slice A7 C.dry.length c7, .slice B7 C.wet.length e7, .int .i64 C.left], C)] [(0, w3.heap.size, .slice A5 32 c5, octs r), (0, w6.heap.size, .slice A8 z1.length c8, z1)] := (unhide X7).call b7
       clear ca0_0 ca0_1 ca0_2 ca0_3 ca0_4 ca0_5 q0 ca1_0 ca1_1 ca1_2 ca1_3 ca1_4 ca1_5 q1 ca2_0 ca2_1 ca2_2 q2 ca3_0 ca3_1 ca3_2 q3 ca4_0 ca4_1 ca4_2 q4
       obtain ⟨ca0_0, ca0_1, ca0_2, ca0_3, ca0_4, ca0_5⟩ := zk6 (Y7.get 0 rfl)
       have q0 := (Y7.get 0 rfl).lt
       obtain ⟨ca1_0, ca1_1, ca1_2, ca1_3, ca1_4, ca1_5⟩ := zk6 (Y7.get 1 rfl)
       have q1 := (Y7.get 1 rfl).lt
       obtain ⟨ca2_0, ca2_1, ca2_2⟩ := ck3 (Y7.get 2 rfl)
       have q2 := (Y7.get 2 rfl).lt
       obtain ⟨ca3_0, ca3_1, ca3_2⟩ := ck3 (Y7.get 3 rfl)
       have q3 := (Y7.get 3 rfl).lt
       obtain ⟨ca4_0, ca4_1, ca4_2⟩ := ck3 (Y7.get 4 rfl)
       have q4 := (Y7.get 4 rfl).lt
       have Y7b : Gx w (w7.alloc (.cells #[.int .u64 (r.gen : Nat), .int .i64 r.at_, .int .i64 r.len, .int .i64 r.long, .int .u32 (r.sum : Nat), .int .u64 (r.next : Nat)] 27)) [(w.heap.size + 1, 27, #[.int .u64 (o.gen : Nat), .int .i64 o.at_, .int .i64 o.len, .int .i64 o.long, .int .u32 (o.sum : Nat), .int .u64 (o.next : Nat)]), (w.heap.size + 2, 27, #[.int .u64 (r.gen : Nat), .int .i64 r.at_, .int .i64 r.len, .int .i64 r.long, .int .u32 (r.sum : Nat), .int .u64 (r.next : Nat)]), (w.heap.size, 31, #[.slice A4 Wd.dry.length c4, .slice B4 Wd.wet.length e4, .int .i64 Wd.left]), (w4.heap.size, 31, #[.slice A6 X.dry.length c6, .slice B6 X.wet.length e6, .int .i64 X.left]), (w5.heap.size, 31, #[.slice A7 C.dry.length c7, .slice B7 C.wet.length e7, .int .i64 C.left]), (w7.heap.size, 27, #[.int .u64 (r.gen : Nat), .int .i64 r.at_, .int .i64 r.len, .int .i64 r.long, .int .u32 (r.sum : Nat), .int .u64 (r.next : Nat)])] [(w1.heap.size, w2.heap.size, .agg #[.slice A4 Wd.dry.length c4, .slice B4 Wd.wet.length e4, .int .i64 Wd.left], Wd), (0, w4.heap.size, .agg #[.slice A6 X.dry.length c6, .slice B6 X.wet.length e6, .int .i64 X.left], X), (0, w5.heap.size, .agg #[.slice A7 C.dry.length c7, .slice B7 C.wet.length e7, .int .i64 C.left], C)] [(0, w3.heap.size, .slice A5 32 c5, octs r), (0, w6.heap.size, .slice A8 z1.length c8, z1)] := Y7.newB (w7.heap.size) rfl 27 #[.int .u64 (r.gen : Nat), .int .i64 r.at_, .int .i64 r.len, .int .i64 r.long, .int .u32 (r.sum : Nat), .int .u64 (r.next : Nat)]
       have X8 := hide Y7b
       clear X7 b7 Y7 Y7b)
    | (have _t := tk8; clear tk8 _t; go_at_call 17; refine (unhide hF _ _ _ (unhide X8).bl ((unhide X8).dr 2 rfl)).mono ?_; rintro e w8 ⟨rfl, b8⟩
       have Y8 : Gx w w8 [(w.heap.size + 1, 27, #[.int .u64 (o.gen : Nat), .int .i64 o.at_, .int .i64 o.len, .int .i64 o.long, .int .u32 (o.sum : Nat), .int .u64 (o.next : Nat)]), (w.heap.size + 2, 27, #[.int .u64 (r.gen : Nat), .int .i64 r.at_, .int .i64 r.len, .int .i64 r.long, .int .u32 (r.sum : Nat), .int .u64 (r.next : Nat)]), (w.heap.size, 31, #[.slice A4 Wd.dry.length c4, .slice B4 Wd.wet.length e4, .int .i64 Wd.left]), (w4.heap.size, 31, #[.slice A6 X.dry.length c6, .slice B6 X.wet.length e6, .int .i64 X.left]), (w5.heap.size, 31, #[.slice A7 C.dry.length c7, .slice B7 C.wet.length e7, .int .i64 C.left]), (w7.heap.size, 27, #[.int .u64 (r.gen : Nat), .int .i64 r.at_, .int .i64 r.len, .int .i64 r.long, .int .u32 (r.sum : Nat), .int .u64 (r.next : Nat)])] [(w1.heap.size, w2.heap.size, .agg #[.slice A4 Wd.dry.length c4, .slice B4 Wd.wet.length e4, .int .i64 Wd.left], Wd), (0, w4.heap.size, .agg #[.slice A6 X.dry.length c6, .slice B6 X.wet.length e6, .int .i64 X.left], X), (0, w5.heap.size, .agg #[.slice A7 C.dry.length c7, .slice B7 C.wet.length e7, .int .i64 C.left], C)] [(0, w3.heap.size, .slice A5 32 c5, octs r), (0, w6.heap.size, .slice A8 z1.length c8, z1)] := (unhide X8).call b8
       clear ca0_0 ca0_1 ca0_2 ca0_3 ca0_4 ca0_5 q0 ca1_0 ca1_1 ca1_2 ca1_3 ca1_4 ca1_5 q1 ca2_0 ca2_1 ca2_2 q2 ca3_0 ca3_1 ca3_2 q3 ca4_0 ca4_1 ca4_2 q4
       obtain ⟨ca0_0, ca0_1, ca0_2, ca0_3, ca0_4, ca0_5⟩ := zk6 (Y8.get 0 rfl)
       have q0 := (Y8.get 0 rfl).lt
       obtain ⟨ca1_0, ca1_1, ca1_2, ca1_3, ca1_4, ca1_5⟩ := zk6 (Y8.get 1 rfl)
       have q1 := (Y8.get 1 rfl).lt
       obtain ⟨ca2_0, ca2_1, ca2_2⟩ := ck3 (Y8.get 2 rfl)
       have q2 := (Y8.get 2 rfl).lt
       obtain ⟨ca3_0, ca3_1, ca3_2⟩ := ck3 (Y8.get 3 rfl)
       have q3 := (Y8.get 3 rfl).lt
       obtain ⟨ca4_0, ca4_1, ca4_2⟩ := ck3 (Y8.get 4 rfl)
       have q4 := (Y8.get 4 rfl).lt
       obtain ⟨ca5_0, ca5_1, ca5_2, ca5_3, ca5_4, ca5_5⟩ := zk6 (Y8.get 5 rfl)
       have q5 := (Y8.get 5 rfl).lt
       have Y8b : Gx w (w8.alloc (.cells #[.int .u64 (r.gen : Nat), .int .i64 r.at_, .int .i64 r.len, .int .i64 r.long, .int .u32 (r.sum : Nat), .int .u64 (r.next : Nat)] 27)) [(w.heap.size + 1, 27, #[.int .u64 (o.gen : Nat), .int .i64 o.at_, .int .i64 o.len, .int .i64 o.long, .int .u32 (o.sum : Nat), .int .u64 (o.next : Nat)]), (w.heap.size + 2, 27, #[.int .u64 (r.gen : Nat), .int .i64 r.at_, .int .i64 r.len, .int .i64 r.long, .int .u32 (r.sum : Nat), .int .u64 (r.next : Nat)]), (w.heap.size, 31, #[.slice A4 Wd.dry.length c4, .slice B4 Wd.wet.length e4, .int .i64 Wd.left]), (w4.heap.size, 31, #[.slice A6 X.dry.length c6, .slice B6 X.wet.length e6, .int .i64 X.left]), (w5.heap.size, 31, #[.slice A7 C.dry.length c7, .slice B7 C.wet.length e7, .int .i64 C.left]), (w7.heap.size, 27, #[.int .u64 (r.gen : Nat), .int .i64 r.at_, .int .i64 r.len, .int .i64 r.long, .int .u32 (r.sum : Nat), .int .u64 (r.next : Nat)]), (w8.heap.size, 27, #[.int .u64 (r.gen : Nat), .int .i64 r.at_, .int .i64 r.len, .int .i64 r.long, .int .u32 (r.sum : Nat), .int .u64 (r.next : Nat)])] [(w1.heap.size, w2.heap.size, .agg #[.slice A4 Wd.dry.length c4, .slice B4 Wd.wet.length e4, .int .i64 Wd.left], Wd), (0, w4.heap.size, .agg #[.slice A6 X.dry.length c6, .slice B6 X.wet.length e6, .int .i64 X.left], X), (0, w5.heap.size, .agg #[.slice A7 C.dry.length c7, .slice B7 C.wet.length e7, .int .i64 C.left], C)] [(0, w3.heap.size, .slice A5 32 c5, octs r), (0, w6.heap.size, .slice A8 z1.length c8, z1)] := Y8.newB (w8.heap.size) rfl 27 #[.int .u64 (r.gen : Nat), .int .i64 r.at_, .int .i64 r.len, .int .i64 r.long, .int .u32 (r.sum : Nat), .int .u64 (r.next : Nat)]
       have X9 := hide Y8b
       clear X8 b8 Y8 Y8b)
    | (have _t := tk9; clear tk9 _t; go_at_call 25; refine (unhide hR2 _ _ _ (unhide X9).bl ((unhide X9).dr 2 rfl)).mono ?_; rintro e w9 ⟨A3, c3, rfl, x3, b9⟩
       have Y9 : Gx w w9 [(w.heap.size + 1, 27, #[.int .u64 (o.gen : Nat), .int .i64 o.at_, .int .i64 o.len, .int .i64 o.long, .int .u32 (o.sum : Nat), .int .u64 (o.next : Nat)]), (w.heap.size + 2, 27, #[.int .u64 (r.gen : Nat), .int .i64 r.at_, .int .i64 r.len, .int .i64 r.long, .int .u32 (r.sum : Nat), .int .u64 (r.next : Nat)]), (w.heap.size, 31, #[.slice A4 Wd.dry.length c4, .slice B4 Wd.wet.length e4, .int .i64 Wd.left]), (w4.heap.size, 31, #[.slice A6 X.dry.length c6, .slice B6 X.wet.length e6, .int .i64 X.left]), (w5.heap.size, 31, #[.slice A7 C.dry.length c7, .slice B7 C.wet.length e7, .int .i64 C.left]), (w7.heap.size, 27, #[.int .u64 (r.gen : Nat), .int .i64 r.at_, .int .i64 r.len, .int .i64 r.long, .int .u32 (r.sum : Nat), .int .u64 (r.next : Nat)]), (w8.heap.size, 27, #[.int .u64 (r.gen : Nat), .int .i64 r.at_, .int .i64 r.len, .int .i64 r.long, .int .u32 (r.sum : Nat), .int .u64 (r.next : Nat)])] [(w1.heap.size, w2.heap.size, .agg #[.slice A4 Wd.dry.length c4, .slice B4 Wd.wet.length e4, .int .i64 Wd.left], Wd), (0, w4.heap.size, .agg #[.slice A6 X.dry.length c6, .slice B6 X.wet.length e6, .int .i64 X.left], X), (0, w5.heap.size, .agg #[.slice A7 C.dry.length c7, .slice B7 C.wet.length e7, .int .i64 C.left], C)] [(0, w3.heap.size, .slice A5 32 c5, octs r), (0, w6.heap.size, .slice A8 z1.length c8, z1)] := (unhide X9).call b9
       have Y9z : Gx w w9 [(w.heap.size + 1, 27, #[.int .u64 (o.gen : Nat), .int .i64 o.at_, .int .i64 o.len, .int .i64 o.long, .int .u32 (o.sum : Nat), .int .u64 (o.next : Nat)]), (w.heap.size + 2, 27, #[.int .u64 (r.gen : Nat), .int .i64 r.at_, .int .i64 r.len, .int .i64 r.long, .int .u32 (r.sum : Nat), .int .u64 (r.next : Nat)]), (w.heap.size, 31, #[.slice A4 Wd.dry.length c4, .slice B4 Wd.wet.length e4, .int .i64 Wd.left]), (w4.heap.size, 31, #[.slice A6 X.dry.length c6, .slice B6 X.wet.length e6, .int .i64 X.left]), (w5.heap.size, 31, #[.slice A7 C.dry.length c7, .slice B7 C.wet.length e7, .int .i64 C.left]), (w7.heap.size, 27, #[.int .u64 (r.gen : Nat), .int .i64 r.at_, .int .i64 r.len, .int .i64 r.long, .int .u32 (r.sum : Nat), .int .u64 (r.next : Nat)]), (w8.heap.size, 27, #[.int .u64 (r.gen : Nat), .int .i64 r.at_, .int .i64 r.len, .int .i64 r.long, .int .u32 (r.sum : Nat), .int .u64 (r.next : Nat)])] [(w1.heap.size, w2.heap.size, .agg #[.slice A4 Wd.dry.length c4, .slice B4 Wd.wet.length e4, .int .i64 Wd.left], Wd), (0, w4.heap.size, .agg #[.slice A6 X.dry.length c6, .slice B6 X.wet.length e6, .int .i64 X.left], X), (0, w5.heap.size, .agg #[.slice A7 C.dry.length c7, .slice B7 C.wet.length e7, .int .i64 C.left], C)] [(0, w3.heap.size, .slice A5 32 c5, octs r), (0, w6.heap.size, .slice A8 z1.length c8, z1), (0, w9.heap.size, .slice A3 z2.length c3, z2)] := Y9.addZ (x3.mono (Nat.zero_le _) (Nat.le_refl _))
       clear ca0_0 ca0_1 ca0_2 ca0_3 ca0_4 ca0_5 q0 ca1_0 ca1_1 ca1_2 ca1_3 ca1_4 ca1_5 q1 ca2_0 ca2_1 ca2_2 q2 ca3_0 ca3_1 ca3_2 q3 ca4_0 ca4_1 ca4_2 q4 ca5_0 ca5_1 ca5_2 ca5_3 ca5_4 ca5_5 q5
       obtain ⟨ca0_0, ca0_1, ca0_2, ca0_3, ca0_4, ca0_5⟩ := zk6 (Y9z.get 0 rfl)
       have q0 := (Y9z.get 0 rfl).lt
       obtain ⟨ca1_0, ca1_1, ca1_2, ca1_3, ca1_4, ca1_5⟩ := zk6 (Y9z.get 1 rfl)
       have q1 := (Y9z.get 1 rfl).lt
       obtain ⟨ca2_0, ca2_1, ca2_2⟩ := ck3 (Y9z.get 2 rfl)
       have q2 := (Y9z.get 2 rfl).lt
       obtain ⟨ca3_0, ca3_1, ca3_2⟩ := ck3 (Y9z.get 3 rfl)
       have q3 := (Y9z.get 3 rfl).lt
       obtain ⟨ca4_0, ca4_1, ca4_2⟩ := ck3 (Y9z.get 4 rfl)
       have q4 := (Y9z.get 4 rfl).lt
       obtain ⟨ca5_0, ca5_1, ca5_2, ca5_3, ca5_4, ca5_5⟩ := zk6 (Y9z.get 5 rfl)
       have q5 := (Y9z.get 5 rfl).lt
       obtain ⟨ca6_0, ca6_1, ca6_2, ca6_3, ca6_4, ca6_5⟩ := zk6 (Y9z.get 6 rfl)
       have q6 := (Y9z.get 6 rfl).lt
       have X10 := hide Y9z
       clear X9 b9 Y9 Y9z)
    | (have _t := tk10; clear tk10 _t; go_at_call 13; refine (unhide hO2 _ _ (unhide X10).bl ((unhide X10).rd 2 rfl)).mono ?_; rintro e w10 ⟨rfl, b10⟩
       have Y10 : Gx w w10 [(w.heap.size + 1, 27, #[.int .u64 (o.gen : Nat), .int .i64 o.at_, .int .i64 o.len, .int .i64 o.long, .int .u32 (o.sum : Nat), .int .u64 (o.next : Nat)]), (w.heap.size + 2, 27, #[.int .u64 (r.gen : Nat), .int .i64 r.at_, .int .i64 r.len, .int .i64 r.long, .int .u32 (r.sum : Nat), .int .u64 (r.next : Nat)]), (w.heap.size, 31, #[.slice A4 Wd.dry.length c4, .slice B4 Wd.wet.length e4, .int .i64 Wd.left]), (w4.heap.size, 31, #[.slice A6 X.dry.length c6, .slice B6 X.wet.length e6, .int .i64 X.left]), (w5.heap.size, 31, #[.slice A7 C.dry.length c7, .slice B7 C.wet.length e7, .int .i64 C.left]), (w7.heap.size, 27, #[.int .u64 (r.gen : Nat), .int .i64 r.at_, .int .i64 r.len, .int .i64 r.long, .int .u32 (r.sum : Nat), .int .u64 (r.next : Nat)]), (w8.heap.size, 27, #[.int .u64 (r.gen : Nat), .int .i64 r.at_, .int .i64 r.len, .int .i64 r.long, .int .u32 (r.sum : Nat), .int .u64 (r.next : Nat)])] [(w1.heap.size, w2.heap.size, .agg #[.slice A4 Wd.dry.length c4, .slice B4 Wd.wet.length e4, .int .i64 Wd.left], Wd), (0, w4.heap.size, .agg #[.slice A6 X.dry.length c6, .slice B6 X.wet.length e6, .int .i64 X.left], X), (0, w5.heap.size, .agg #[.slice A7 C.dry.length c7, .slice B7 C.wet.length e7, .int .i64 C.left], C)] [(0, w3.heap.size, .slice A5 32 c5, octs r), (0, w6.heap.size, .slice A8 z1.length c8, z1), (0, w9.heap.size, .slice A3 z2.length c3, z2)] := (unhide X10).call b10
       clear ca0_0 ca0_1 ca0_2 ca0_3 ca0_4 ca0_5 q0 ca1_0 ca1_1 ca1_2 ca1_3 ca1_4 ca1_5 q1 ca2_0 ca2_1 ca2_2 q2 ca3_0 ca3_1 ca3_2 q3 ca4_0 ca4_1 ca4_2 q4 ca5_0 ca5_1 ca5_2 ca5_3 ca5_4 ca5_5 q5 ca6_0 ca6_1 ca6_2 ca6_3 ca6_4 ca6_5 q6
       obtain ⟨ca0_0, ca0_1, ca0_2, ca0_3, ca0_4, ca0_5⟩ := zk6 (Y10.get 0 rfl)
       have q0 := (Y10.get 0 rfl).lt
       obtain ⟨ca1_0, ca1_1, ca1_2, ca1_3, ca1_4, ca1_5⟩ := zk6 (Y10.get 1 rfl)
       have q1 := (Y10.get 1 rfl).lt
       obtain ⟨ca2_0, ca2_1, ca2_2⟩ := ck3 (Y10.get 2 rfl)
       have q2 := (Y10.get 2 rfl).lt
       obtain ⟨ca3_0, ca3_1, ca3_2⟩ := ck3 (Y10.get 3 rfl)
       have q3 := (Y10.get 3 rfl).lt
       obtain ⟨ca4_0, ca4_1, ca4_2⟩ := ck3 (Y10.get 4 rfl)
       have q4 := (Y10.get 4 rfl).lt
       obtain ⟨ca5_0, ca5_1, ca5_2, ca5_3, ca5_4, ca5_5⟩ := zk6 (Y10.get 5 rfl)
       have q5 := (Y10.get 5 rfl).lt
       obtain ⟨ca6_0, ca6_1, ca6_2, ca6_3, ca6_4, ca6_5⟩ := zk6 (Y10.get 6 rfl)
       have q6 := (Y10.get 6 rfl).lt
       have Y10b : Gx w (w10.alloc (.cells #[.int .u64 (y.gen : Nat), .int .i64 y.at_, .int .i64 y.len, .int .i64 y.long, .int .u32 (y.sum : Nat), .int .u64 (y.next : Nat)] 27)) [(w.heap.size + 1, 27, #[.int .u64 (o.gen : Nat), .int .i64 o.at_, .int .i64 o.len, .int .i64 o.long, .int .u32 (o.sum : Nat), .int .u64 (o.next : Nat)]), (w.heap.size + 2, 27, #[.int .u64 (r.gen : Nat), .int .i64 r.at_, .int .i64 r.len, .int .i64 r.long, .int .u32 (r.sum : Nat), .int .u64 (r.next : Nat)]), (w.heap.size, 31, #[.slice A4 Wd.dry.length c4, .slice B4 Wd.wet.length e4, .int .i64 Wd.left]), (w4.heap.size, 31, #[.slice A6 X.dry.length c6, .slice B6 X.wet.length e6, .int .i64 X.left]), (w5.heap.size, 31, #[.slice A7 C.dry.length c7, .slice B7 C.wet.length e7, .int .i64 C.left]), (w7.heap.size, 27, #[.int .u64 (r.gen : Nat), .int .i64 r.at_, .int .i64 r.len, .int .i64 r.long, .int .u32 (r.sum : Nat), .int .u64 (r.next : Nat)]), (w8.heap.size, 27, #[.int .u64 (r.gen : Nat), .int .i64 r.at_, .int .i64 r.len, .int .i64 r.long, .int .u32 (r.sum : Nat), .int .u64 (r.next : Nat)]), (w10.heap.size, 27, #[.int .u64 (y.gen : Nat), .int .i64 y.at_, .int .i64 y.len, .int .i64 y.long, .int .u32 (y.sum : Nat), .int .u64 (y.next : Nat)])] [(w1.heap.size, w2.heap.size, .agg #[.slice A4 Wd.dry.length c4, .slice B4 Wd.wet.length e4, .int .i64 Wd.left], Wd), (0, w4.heap.size, .agg #[.slice A6 X.dry.length c6, .slice B6 X.wet.length e6, .int .i64 X.left], X), (0, w5.heap.size, .agg #[.slice A7 C.dry.length c7, .slice B7 C.wet.length e7, .int .i64 C.left], C)] [(0, w3.heap.size, .slice A5 32 c5, octs r), (0, w6.heap.size, .slice A8 z1.length c8, z1), (0, w9.heap.size, .slice A3 z2.length c3, z2)] := Y10.newB (w10.heap.size) rfl 27 #[.int .u64 (y.gen : Nat), .int .i64 y.at_, .int .i64 y.len, .int .i64 y.long, .int .u32 (y.sum : Nat), .int .u64 (y.next : Nat)]
       have X11 := hide Y10b
       clear X10 b10 Y10 Y10b)
    | fail)
  go_ret
  exact ⟨ret_b rfl (by simp), (unhide X11).bl⟩
set_option maxHeartbeats 16000000 in
theorem torn_1o (A A' : Option Addr) (c c' : Nat) (d : Dk) (o r : Rt) (hT' : OkT o) (hT : OkT r) (m : UInt8) (w : World) (ht : Tab w) (h : Dsk 0 w.heap.size w (.agg #[.slice A d.dry.length c, .slice A' d.wet.length c', .int .i64 d.left]) d) (hw : fewB d = true) (h1 : d.left = -1) (h2 : o.gen % 2 = r.gen % 2) (h3 : o.gen % 256 ≠ r.gen % 256) (hE : (wrR d o).2 = 0) (hr : rOk r = true) (hm : m = 255) (X C : Dk) (ho : Torn (wrR d o).1 o r m X C) (hk : (fdR C).2 = 0) (hp : (fdR C).1 = o) :
    Calls Tryd.prog 6 #[.agg #[.slice A d.dry.length c, .slice A' d.wet.length c', .int .i64 d.left], (.agg #[.int .u64 (o.gen : Nat), .int .i64 o.at_, .int .i64 o.len, .int .i64 o.long, .int .u32 (o.sum : Nat), .int .u64 (o.next : Nat)]), (.agg #[.int .u64 (r.gen : Nat), .int .i64 r.at_, .int .i64 r.len, .int .i64 r.long, .int .u32 (r.sum : Nat), .int .u64 (r.next : Nat)]), .int .u8 (m.toNat : Int)] w fun e w' => e = .returned (.bool true) ∧ Below w.heap.size w w' := by
  have hl := fun W (hB : Below w.heap.size w W) => live_any W (ht.below hB (Nat.le_refl _))
  have hf := fun W (hB : Below w.heap.size w W) => few_any 0 _ d W (h.grow hB)
  rw [hw] at hf
  have g1 : (d.left != -1) = false := by rw [h1]; rfl
  have g2 : ((o.gen : Int) % 2 != (r.gen : Int) % 2) = false := by simp; omega
  have g3 : ((o.gen : Int) % 256 == (r.gen : Int) % 256) = false := by simp; omega
  obtain ⟨s1, s2⟩ := few_small hw
  have hS := fun W (hB : Below w.heap.size w W) => Write_form' 0 _ d o W (ht.below hB (Nat.le_refl _)) hT' (h.grow hB) (by omega) (by omega)
  have hgo := went_of hE
  obtain ⟨q1, q2, q3, q4, q5, q6, q7, q8, q9⟩ := ho
  have hor := hgo.ok
  have hne : o ≠ r := fun e => h3 (by rw [e])
  have s3 : (wrR d o).1.dry.length ≤ 300000 := by rw [hgo.lenW]; omega
  have s4 : (wrR d o).1.wet.length = 0 := by rw [hgo.wetW]; rfl
  have ho' : Torn (wrR d o).1 o r m X C := ⟨q1, q2, q3, q4, q5, q6, q7, q8, q9⟩
  have hO := fun W (hB : Below w.heap.size w W) => Octets_ok r hr hT W (ht.below hB (Nat.le_refl _))
  obtain ⟨i, hi⟩ : ∃ i : Nat, i = r.gen % 2 := ⟨_, rfl⟩
  have i2 : i < 2 := by omega
  have f1 : (o.gen : Int) % 2 = (i : Int) := by omega
  have f2 : (r.gen : Int) % 2 = (i : Int) := by omega
  obtain ⟨j, hj⟩ : ∃ j : Nat, j = 1 - i := ⟨_, rfl⟩
  have f3 : (1 : Int) - (i : Int) = (j : Int) := by omega
  have f4 : IntKind.i64.wrap (1 - (i : Int)) = (j : Int) := by rw [f3]; exact IntWalk.i64_in _ (by omega)
  have r1 := hold_rd q7 i2
  have r2 := hold_rd q7 (show j < 2 by omega)
  have hT1 := fun lo v bb W (_ : Below w.heap.size w W) (hx : Dsk lo W.heap.size W v (wrR d o).1) (hb : Bs 0 W.heap.size W bb (octs r)) => Write2_form 0 v bb (wrR d o).1 ((r.gen % 2 : Nat) : Int) (octs r) W (hx.mono (Nat.zero_le _) (Nat.le_refl _)) hb (by omega) (by omega)
  rw [q1, ← hi] at hT1
  have hCr := fun lo v mv W (_ : Below w.heap.size w W) (hx : Dsk lo W.heap.size W v X) (hb : Bs 0 W.heap.size W mv [m]) => Crash_form 0 v mv X [m] W (hx.mono (Nat.zero_le _) (Nat.le_refl _)) hb (by omega) (by omega)
  rw [q2] at hCr
  have hR1 := fun lo v W (_ : Below w.heap.size w W) (hx : Dsk lo W.heap.size W v C) => Read_form lo v C i W hx (by omega) (by omega) _ r1
  have hR2 := fun lo v W (_ : Below w.heap.size w W) (hx : Dsk lo W.heap.size W v C) => Read_form lo v C j W hx (by omega) (by omega) _ r2
  have hF := fun lo v W (hB : Below w.heap.size w W) (hx : Dsk lo W.heap.size W v C) => Find_any lo v C W (ht.below hB (Nat.le_refl _)) hx (by omega) (by omega)
  have hO1 := fun v1 W (hB : Below w.heap.size w W) (hx : Bs 0 W.heap.size W v1 (sectorOf C (i : Nat))) => Of_any v1 0 _ W (ht.below hB (Nat.le_refl _)) hx
  have hO2 := fun v1 W (hB : Below w.heap.size w W) (hx : Bs 0 W.heap.size W v1 (sectorOf C (j : Nat))) => Of_any v1 0 _ W (ht.below hB (Nat.le_refl _)) hx
  rw [hE] at hS
  have hz : sectorOf C (i : Nat) = octs r := by subst hm; rw [hi]; exact ho'.full
  have z1 : ofE (sectorOf C (i : Nat)) = 0 := by rw [hz]; unfold ofE; rw [ofB_octs hr hT]; rfl
  have z2 : ofR (sectorOf C (i : Nat)) = r := by rw [hz]; exact ofR_octs hr hT
  rw [z1, z2] at hO1
  have m1 : ((m.toNat : Int) == 0) = false := by rw [hm]; rfl
  have m2 : ((m.toNat : Int) == 255) = true := by rw [hm]; rfl
  have m3 : ((m.toNat : Int) != 0) = true := by rw [hm]; rfl
  have m4 : ((m.toNat : Int) != 255) = false := by rw [hm]; rfl
  clear hz z1 z2 hm
  rw [hk] at hF
  rw [hp] at hF
  obtain ⟨y, hyy⟩ : ∃ y, y = ofR (sectorOf C (j : Nat)) := ⟨_, rfl⟩
  obtain ⟨Ey, hye⟩ : ∃ E, E = ofE (sectorOf C (j : Nat)) := ⟨_, rfl⟩
  rw [← hyy, ← hye] at hO2
  clear hyy hye hp
  have d3 : decide (o = r) = false := decide_eq_false hne
  have d4 : decide (r = o) = false := decide_eq_false (fun e => hne e.symm)
  obtain ⟨Wd, hWd⟩ : ∃ Wd, Wd = (wrR d o).1 := ⟨_, rfl⟩
  rw [← hWd] at hS hT1
  generalize sectorOf C (i : Nat) = z1 at *
  generalize sectorOf C (j : Nat) = z2 at *
  replace hS := hide hS; replace hO := hide hO; replace hT1 := hide hT1; replace hCr := hide hCr; replace hR1 := hide hR1; replace hR2 := hide hR2; replace hF := hide hF; replace hO1 := hide hO1; replace hO2 := hide hO2
  generalize d.dry.length = n at *
  generalize d.wet.length = k at *
  generalize d.left = l at *
  have X0 : Gx w (((w.alloc (.cells #[.slice A n c, .slice A' k c', .int .i64 l] 31)).alloc (.cells #[.int .u64 (o.gen : Nat), .int .i64 o.at_, .int .i64 o.len, .int .i64 o.long, .int .u32 (o.sum : Nat), .int .u64 (o.next : Nat)] 27)).alloc (.cells #[.int .u64 (r.gen : Nat), .int .i64 r.at_, .int .i64 r.len, .int .i64 r.long, .int .u32 (r.sum : Nat), .int .u64 (r.next : Nat)] 27)) [(w.heap.size, 31, #[.slice A n c, .slice A' k c', .int .i64 l]), (w.heap.size + 1, 27, #[.int .u64 (o.gen : Nat), .int .i64 o.at_, .int .i64 o.len, .int .i64 o.long, .int .u32 (o.sum : Nat), .int .u64 (o.next : Nat)]), (w.heap.size + 2, 27, #[.int .u64 (r.gen : Nat), .int .i64 r.at_, .int .i64 r.len, .int .i64 r.long, .int .u32 (r.sum : Nat), .int .u64 (r.next : Nat)])] [] [] := (((Gx.nil w).newB w.heap.size rfl 31 #[.slice A n c, .slice A' k c', .int .i64 l]).newB (w.heap.size + 1) (by simp) 27 #[.int .u64 (o.gen : Nat), .int .i64 o.at_, .int .i64 o.len, .int .i64 o.long, .int .u32 (o.sum : Nat), .int .u64 (o.next : Nat)]).newB (w.heap.size + 2) (by simp) 27 #[.int .u64 (r.gen : Nat), .int .i64 r.at_, .int .i64 r.len, .int .i64 r.long, .int .u32 (r.sum : Nat), .int .u64 (r.next : Nat)]
  replace X0 := hide X0; replace hl := hide hl; replace hf := hide hf
  clear ht h hw hT hT' s1 s2 hgo q1 q2 q3 q4 q5 q6 q7 q8 q9 hor hne s3 s4 ho' hi i2 hj r1 r2 hE hr hk hWd h1 h2 h3
  have tk0 : True := trivial
  have tk1 : True := trivial
  have tk2 : True := trivial
  have tk3 : True := trivial
  have tk4 : True := trivial
  have tk5 : True := trivial
  have tk6 : True := trivial
  have tk7 : True := trivial
  have tk8 : True := trivial
  have tk9 : True := trivial
  have tk10 : True := trivial
  go_enter Tryd.func6, Tryd.ntmps6
  go_upto_region 1 with (fail)
  generalize hW : World.alloc (World.alloc (World.alloc w _) _) _ = W at *
  clear hW
  obtain ⟨ca0_0, ca0_1, ca0_2⟩ := ck3 ((unhide X0).get 0 rfl)
  obtain ⟨fa0_0, fa0_1, fa0_2⟩ := fk3 ((unhide X0).get 0 rfl)
  have q0 := ((unhide X0).get 0 rfl).lt
  obtain ⟨ca1_0, ca1_1, ca1_2, ca1_3, ca1_4, ca1_5⟩ := zk6 ((unhide X0).get 1 rfl)
  have q1 := ((unhide X0).get 1 rfl).lt
  obtain ⟨ca2_0, ca2_1, ca2_2, ca2_3, ca2_4, ca2_5⟩ := zk6 ((unhide X0).get 2 rfl)
  have q2 := ((unhide X0).get 2 rfl).lt
  go_wp2_with (first
    | (have _t := tk0; clear tk0 _t; go_at_call 8; refine (unhide hl _ (unhide X0).bl).mono ?_; rintro e w0 ⟨rfl, b0⟩
       have Y0 : Gx w w0 [(w.heap.size, 31, #[.slice A n c, .slice A' k c', .int .i64 l]), (w.heap.size + 1, 27, #[.int .u64 (o.gen : Nat), .int .i64 o.at_, .int .i64 o.len, .int .i64 o.long, .int .u32 (o.sum : Nat), .int .u64 (o.next : Nat)]), (w.heap.size + 2, 27, #[.int .u64 (r.gen : Nat), .int .i64 r.at_, .int .i64 r.len, .int .i64 r.long, .int .u32 (r.sum : Nat), .int .u64 (r.next : Nat)])] [] [] := (unhide X0).call b0
       clear ca0_0 ca0_1 ca0_2 fa0_0 fa0_1 fa0_2 q0 ca1_0 ca1_1 ca1_2 ca1_3 ca1_4 ca1_5 q1 ca2_0 ca2_1 ca2_2 ca2_3 ca2_4 ca2_5 q2
       obtain ⟨ca0_0, ca0_1, ca0_2⟩ := ck3 (Y0.get 0 rfl)
       obtain ⟨fa0_0, fa0_1, fa0_2⟩ := fk3 (Y0.get 0 rfl)
       have q0 := (Y0.get 0 rfl).lt
       obtain ⟨ca1_0, ca1_1, ca1_2, ca1_3, ca1_4, ca1_5⟩ := zk6 (Y0.get 1 rfl)
       have q1 := (Y0.get 1 rfl).lt
       obtain ⟨ca2_0, ca2_1, ca2_2, ca2_3, ca2_4, ca2_5⟩ := zk6 (Y0.get 2 rfl)
       have q2 := (Y0.get 2 rfl).lt
       have X1 := hide Y0
       clear X0 b0 Y0)
    | (have _t := tk1; clear tk1 _t; go_at_call 9; refine (unhide hf _ (unhide X1).bl).mono ?_; rintro e w1 ⟨rfl, b1⟩
       have Y1 : Gx w w1 [(w.heap.size, 31, #[.slice A n c, .slice A' k c', .int .i64 l]), (w.heap.size + 1, 27, #[.int .u64 (o.gen : Nat), .int .i64 o.at_, .int .i64 o.len, .int .i64 o.long, .int .u32 (o.sum : Nat), .int .u64 (o.next : Nat)]), (w.heap.size + 2, 27, #[.int .u64 (r.gen : Nat), .int .i64 r.at_, .int .i64 r.len, .int .i64 r.long, .int .u32 (r.sum : Nat), .int .u64 (r.next : Nat)])] [] [] := (unhide X1).call b1
       clear ca0_0 ca0_1 ca0_2 fa0_0 fa0_1 fa0_2 q0 ca1_0 ca1_1 ca1_2 ca1_3 ca1_4 ca1_5 q1 ca2_0 ca2_1 ca2_2 ca2_3 ca2_4 ca2_5 q2
       obtain ⟨ca0_0, ca0_1, ca0_2⟩ := ck3 (Y1.get 0 rfl)
       obtain ⟨fa0_0, fa0_1, fa0_2⟩ := fk3 (Y1.get 0 rfl)
       have q0 := (Y1.get 0 rfl).lt
       obtain ⟨ca1_0, ca1_1, ca1_2, ca1_3, ca1_4, ca1_5⟩ := zk6 (Y1.get 1 rfl)
       have q1 := (Y1.get 1 rfl).lt
       obtain ⟨ca2_0, ca2_1, ca2_2, ca2_3, ca2_4, ca2_5⟩ := zk6 (Y1.get 2 rfl)
       have q2 := (Y1.get 2 rfl).lt
       have X2 := hide Y1
       clear X1 b1 Y1)
    | (have _t := tk2; clear tk2 _t; go_at_call 15; refine (unhide hS _ (unhide X2).bl).mono ?_; rintro e w2 ⟨A4, c4, B4, e4, rfl, x4, b2⟩
       have Y2 : Gx w w2 [(w.heap.size, 31, #[.slice A n c, .slice A' k c', .int .i64 l]), (w.heap.size + 1, 27, #[.int .u64 (o.gen : Nat), .int .i64 o.at_, .int .i64 o.len, .int .i64 o.long, .int .u32 (o.sum : Nat), .int .u64 (o.next : Nat)]), (w.heap.size + 2, 27, #[.int .u64 (r.gen : Nat), .int .i64 r.at_, .int .i64 r.len, .int .i64 r.long, .int .u32 (r.sum : Nat), .int .u64 (r.next : Nat)])] [] [] := (unhide X2).call b2
       have Y2d : Gx w w2 [(w.heap.size, 31, #[.slice A n c, .slice A' k c', .int .i64 l]), (w.heap.size + 1, 27, #[.int .u64 (o.gen : Nat), .int .i64 o.at_, .int .i64 o.len, .int .i64 o.long, .int .u32 (o.sum : Nat), .int .u64 (o.next : Nat)]), (w.heap.size + 2, 27, #[.int .u64 (r.gen : Nat), .int .i64 r.at_, .int .i64 r.len, .int .i64 r.long, .int .u32 (r.sum : Nat), .int .u64 (r.next : Nat)])] [(w1.heap.size, w2.heap.size, .agg #[.slice A4 Wd.dry.length c4, .slice B4 Wd.wet.length e4, .int .i64 Wd.left], Wd)] [] := Y2.addD x4
       clear ca0_0 ca0_1 ca0_2 fa0_0 fa0_1 fa0_2 q0 ca1_0 ca1_1 ca1_2 ca1_3 ca1_4 ca1_5 q1 ca2_0 ca2_1 ca2_2 ca2_3 ca2_4 ca2_5 q2
       obtain ⟨ca0_0, ca0_1, ca0_2⟩ := ck3 (Y2d.get 0 rfl)
       obtain ⟨fa0_0, fa0_1, fa0_2⟩ := fk3 (Y2d.get 0 rfl)
       have q0 := (Y2d.get 0 rfl).lt
       obtain ⟨ca1_0, ca1_1, ca1_2, ca1_3, ca1_4, ca1_5⟩ := zk6 (Y2d.get 1 rfl)
       have q1 := (Y2d.get 1 rfl).lt
       obtain ⟨ca2_0, ca2_1, ca2_2, ca2_3, ca2_4, ca2_5⟩ := zk6 (Y2d.get 2 rfl)
       have q2 := (Y2d.get 2 rfl).lt
       have l7 : w.heap.size + 2 < w1.heap.size := ((unhide X2).get 2 rfl).lt
       have Z2 : Gx w (((w2.setCell ⟨w.heap.size, 0, none⟩ (.slice A4 Wd.dry.length c4)).setCell ⟨w.heap.size, 1, none⟩ (.slice B4 Wd.wet.length e4)).setCell ⟨w.heap.size, 2, none⟩ (.int .i64 Wd.left)) [(w.heap.size + 1, 27, #[.int .u64 (o.gen : Nat), .int .i64 o.at_, .int .i64 o.len, .int .i64 o.long, .int .u32 (o.sum : Nat), .int .u64 (o.next : Nat)]), (w.heap.size + 2, 27, #[.int .u64 (r.gen : Nat), .int .i64 r.at_, .int .i64 r.len, .int .i64 r.long, .int .u32 (r.sum : Nat), .int .u64 (r.next : Nat)]), (w.heap.size, 31, #[.slice A4 Wd.dry.length c4, .slice B4 Wd.wet.length e4, .int .i64 Wd.left])] [(w1.heap.size, w2.heap.size, .agg #[.slice A4 Wd.dry.length c4, .slice B4 Wd.wet.length e4, .int .i64 Wd.left], Wd)] [] := (Y2d.sub (L' := [(w.heap.size + 1, 27, #[.int .u64 (o.gen : Nat), .int .i64 o.at_, .int .i64 o.len, .int .i64 o.long, .int .u32 (o.sum : Nat), .int .u64 (o.next : Nat)]), (w.heap.size + 2, 27, #[.int .u64 (r.gen : Nat), .int .i64 r.at_, .int .i64 r.len, .int .i64 r.long, .int .u32 (r.sum : Nat), .int .u64 (r.next : Nat)])]) (by simp) (fun _ h => h) (fun _ h => h)).set3 (Y2d.get 0 rfl) (Nat.le_refl _) (by simp) (by simp; omega) (by simp) (.slice A4 Wd.dry.length c4) (.slice B4 Wd.wet.length e4) (.int .i64 Wd.left)
       have X3 := hide Z2
       clear X2 b2 Y2 Y2d Z2)
    | (have _t := tk3; clear tk3 _t; go_at_call 11; refine (unhide hO _ (unhide X3).bl).mono ?_; rintro e w3 ⟨A5, c5, rfl, x5, b3⟩
       have Y3 : Gx w w3 [(w.heap.size + 1, 27, #[.int .u64 (o.gen : Nat), .int .i64 o.at_, .int .i64 o.len, .int .i64 o.long, .int .u32 (o.sum : Nat), .int .u64 (o.next : Nat)]), (w.heap.size + 2, 27, #[.int .u64 (r.gen : Nat), .int .i64 r.at_, .int .i64 r.len, .int .i64 r.long, .int .u32 (r.sum : Nat), .int .u64 (r.next : Nat)]), (w.heap.size, 31, #[.slice A4 Wd.dry.length c4, .slice B4 Wd.wet.length e4, .int .i64 Wd.left])] [(w1.heap.size, w2.heap.size, .agg #[.slice A4 Wd.dry.length c4, .slice B4 Wd.wet.length e4, .int .i64 Wd.left], Wd)] [] := (unhide X3).call b3
       have Y3z : Gx w w3 [(w.heap.size + 1, 27, #[.int .u64 (o.gen : Nat), .int .i64 o.at_, .int .i64 o.len, .int .i64 o.long, .int .u32 (o.sum : Nat), .int .u64 (o.next : Nat)]), (w.heap.size + 2, 27, #[.int .u64 (r.gen : Nat), .int .i64 r.at_, .int .i64 r.len, .int .i64 r.long, .int .u32 (r.sum : Nat), .int .u64 (r.next : Nat)]), (w.heap.size, 31, #[.slice A4 Wd.dry.length c4, .slice B4 Wd.wet.length e4, .int .i64 Wd.left])] [(w1.heap.size, w2.heap.size, .agg #[.slice A4 Wd.dry.length c4, .slice B4 Wd.wet.length e4, .int .i64 Wd.left], Wd)] [(0, w3.heap.size, .slice A5 32 c5, octs r)] := Y3.addZ (x5.mono (Nat.zero_le _) (Nat.le_refl _))
       clear ca0_0 ca0_1 ca0_2 fa0_0 fa0_1 fa0_2 q0 ca1_0 ca1_1 ca1_2 ca1_3 ca1_4 ca1_5 q1 ca2_0 ca2_1 ca2_2 ca2_3 ca2_4 ca2_5 q2
       obtain ⟨ca0_0, ca0_1, ca0_2, ca0_3, ca0_4, ca0_5⟩ := zk6 (Y3z.get 0 rfl)
       have q0 := (Y3z.get 0 rfl).lt
       obtain ⟨ca1_0, ca1_1, ca1_2, ca1_3, ca1_4, ca1_5⟩ := zk6 (Y3z.get 1 rfl)
       have q1 := (Y3z.get 1 rfl).lt
       obtain ⟨ca2_0, ca2_1, ca2_2⟩ := ck3 (Y3z.get 2 rfl)
       have q2 := (Y3z.get 2 rfl).lt
       have X4 := hide Y3z
       clear X3 b3 Y3 Y3z)
    | (have _t := tk4; clear tk4 _t; go_at_call 23; refine (unhide hT1 _ _ _ _ (unhide X4).bl ((unhide X4).dr 0 rfl) ((unhide X4).rd 0 rfl)).mono ?_; rintro e w4 ⟨A6, c6, B6, e6, rfl, x6, b4⟩
       have Y4 : Gx w w4 [(w.heap.size + 1, 27, #[.int .u64 (o.gen : Nat), .int .i64 o.at_, .int .i64 o.len, .int .i64 o.long, .int .u32 (o.sum : Nat), .int .u64 (o.next : Nat)]), (w.heap.size + 2, 27, #[.int .u64 (r.gen : Nat), .int .i64 r.at_, .int .i64 r.len, .int .i64 r.long, .int .u32 (r.sum : Nat), .int .u64 (r.next : Nat)]), (w.heap.size, 31, #[.slice A4 Wd.dry.length c4, .slice B4 Wd.wet.length e4, .int .i64 Wd.left])] [(w1.heap.size, w2.heap.size, .agg #[.slice A4 Wd.dry.length c4, .slice B4 Wd.wet.length e4, .int .i64 Wd.left], Wd)] [(0, w3.heap.size, .slice A5 32 c5, octs r)] := (unhide X4).call b4
       have Y4d : Gx w w4 [(w.heap.size + 1, 27, #[.int .u64 (o.gen : Nat), .int .i64 o.at_, .int .i64 o.len, .int .i64 o.long, .int .u32 (o.sum : Nat), .int .u64 (o.next : Nat)]), (w.heap.size + 2, 27, #[.int .u64 (r.gen : Nat), .int .i64 r.at_, .int .i64 r.len, .int .i64 r.long, .int .u32 (r.sum : Nat), .int .u64 (r.next : Nat)]), (w.heap.size, 31, #[.slice A4 Wd.dry.length c4, .slice B4 Wd.wet.length e4, .int .i64 Wd.left])] [(w1.heap.size, w2.heap.size, .agg #[.slice A4 Wd.dry.length c4, .slice B4 Wd.wet.length e4, .int .i64 Wd.left], Wd), (0, w4.heap.size, .agg #[.slice A6 X.dry.length c6, .slice B6 X.wet.length e6, .int .i64 X.left], X)] [(0, w3.heap.size, .slice A5 32 c5, octs r)] := Y4.addD (x6.mono (Nat.zero_le _) (Nat.le_refl _))
       clear ca0_0 ca0_1 ca0_2 ca0_3 ca0_4 ca0_5 q0 ca1_0 ca1_1 ca1_2 ca1_3 ca1_4 ca1_5 q1 ca2_0 ca2_1 ca2_2 q2
       obtain ⟨ca0_0, ca0_1, ca0_2, ca0_3, ca0_4, ca0_5⟩ := zk6 (Y4d.get 0 rfl)
       have q0 := (Y4d.get 0 rfl).lt
       obtain ⟨ca1_0, ca1_1, ca1_2, ca1_3, ca1_4, ca1_5⟩ := zk6 (Y4d.get 1 rfl)
       have q1 := (Y4d.get 1 rfl).lt
       obtain ⟨ca2_0, ca2_1, ca2_2⟩ := ck3 (Y4d.get 2 rfl)
       have q2 := (Y4d.get 2 rfl).lt
       have Y4db : Gx w (w4.alloc (.cells #[.slice A6 X.dry.length c6, .slice B6 X.wet.length e6, .int .i64 X.left] 31)) [(w.heap.size + 1, 27, #[.int .u64 (o.gen : Nat), .int .i64 o.at_, .int .i64 o.len, .int .i64 o.long, .int .u32 (o.sum : Nat), .int .u64 (o.next : Nat)]), (w.heap.size + 2, 27, #[.int .u64 (r.gen : Nat), .int .i64 r.at_, .int .i64 r.len, .int .i64 r.long, .int .u32 (r.sum : Nat), .int .u64 (r.next : Nat)]), (w.heap.size, 31, #[.slice A4 Wd.dry.length c4, .slice B4 Wd.wet.length e4, .int .i64 Wd.left]), (w4.heap.size, 31, #[.slice A6 X.dry.length c6, .slice B6 X.wet.length e6, .int .i64 X.left])] [(w1.heap.size, w2.heap.size, .agg #[.slice A4 Wd.dry.length c4, .slice B4 Wd.wet.length e4, .int .i64 Wd.left], Wd), (0, w4.heap.size, .agg #[.slice A6 X.dry.length c6, .slice B6 X.wet.length e6, .int .i64 X.left], X)] [(0, w3.heap.size, .slice A5 32 c5, octs r)] := Y4d.newB (w4.heap.size) rfl 31 #[.slice A6 X.dry.length c6, .slice B6 X.wet.length e6, .int .i64 X.left]
       have X5 := hide Y4db
       clear X4 b4 Y4 Y4d Y4db)
    | (have _t := tk5; clear tk5 _t; go_at_call 24; have XM := hide ((unhide X5).newB (w4.heap.size + 1) (by simp) 5 #[.int .u8 (m.toNat : Int)]); refine (unhide hCr _ _ _ _ (unhide XM).bl ((unhide XM).dr 1 rfl) (one_mask ((unhide XM).get 4 rfl))).mono ?_; rintro e w5 ⟨A7, c7, B7, e7, rfl, x7, b5⟩
       have Y5 : Gx w w5 [(w.heap.size + 1, 27, #[.int .u64 (o.gen : Nat), .int .i64 o.at_, .int .i64 o.len, .int .i64 o.long, .int .u32 (o.sum : Nat), .int .u64 (o.next : Nat)]), (w.heap.size + 2, 27, #[.int .u64 (r.gen : Nat), .int .i64 r.at_, .int .i64 r.len, .int .i64 r.long, .int .u32 (r.sum : Nat), .int .u64 (r.next : Nat)]), (w.heap.size, 31, #[.slice A4 Wd.dry.length c4, .slice B4 Wd.wet.length e4, .int .i64 Wd.left]), (w4.heap.size, 31, #[.slice A6 X.dry.length c6, .slice B6 X.wet.length e6, .int .i64 X.left]), (w4.heap.size + 1, 5, #[.int .u8 (m.toNat : Int)])] [(w1.heap.size, w2.heap.size, .agg #[.slice A4 Wd.dry.length c4, .slice B4 Wd.wet.length e4, .int .i64 Wd.left], Wd), (0, w4.heap.size, .agg #[.slice A6 X.dry.length c6, .slice B6 X.wet.length e6, .int .i64 X.left], X)] [(0, w3.heap.size, .slice A5 32 c5, octs r)] := (unhide XM).call b5
       have Y5d : Gx w w5 [(w.heap.size + 1, 27, #[.int .u64 (o.gen : Nat), .int .i64 o.at_, .int .i64 o.len, .int .i64 o.long, .int .u32 (o.sum : Nat), .int .u64 (o.next : Nat)]), (w.heap.size + 2, 27, #[.int .u64 (r.gen : Nat), .int .i64 r.at_, .int .i64 r.len, .int .i64 r.long, .int .u32 (r.sum : Nat), .int .u64 (r.next : Nat)]), (w.heap.size, 31, #[.slice A4 Wd.dry.length c4, .slice B4 Wd.wet.length e4, .int .i64 Wd.left]), (w4.heap.size, 31, #[.slice A6 X.dry.length c6, .slice B6 X.wet.length e6, .int .i64 X.left]), (w4.heap.size + 1, 5, #[.int .u8 (m.toNat : Int)])] [(w1.heap.size, w2.heap.size, .agg #[.slice A4 Wd.dry.length c4, .slice B4 Wd.wet.length e4, .int .i64 Wd.left], Wd), (0, w4.heap.size, .agg #[.slice A6 X.dry.length c6, .slice B6 X.wet.length e6, .int .i64 X.left], X), (0, w5.heap.size, .agg #[.slice A7 C.dry.length c7, .slice B7 C.wet.length e7, .int .i64 C.left], C)] [(0, w3.heap.size, .slice A5 32 c5, octs r)] := Y5.addD (x7.mono (Nat.zero_le _) (Nat.le_refl _))
       clear ca0_0 ca0_1 ca0_2 ca0_3 ca0_4 ca0_5 q0 ca1_0 ca1_1 ca1_2 ca1_3 ca1_4 ca1_5 q1 ca2_0 ca2_1 ca2_2 q2
       obtain ⟨ca0_0, ca0_1, ca0_2, ca0_3, ca0_4, ca0_5⟩ := zk6 (Y5d.get 0 rfl)
       have q0 := (Y5d.get 0 rfl).lt
       obtain ⟨ca1_0, ca1_1, ca1_2, ca1_3, ca1_4, ca1_5⟩ := zk6 (Y5d.get 1 rfl)
       have q1 := (Y5d.get 1 rfl).lt
       obtain ⟨ca2_0, ca2_1, ca2_2⟩ := ck3 (Y5d.get 2 rfl)
       have q2 := (Y5d.get 2 rfl).lt
       obtain ⟨ca3_0, ca3_1, ca3_2⟩ := ck3 (Y5d.get 3 rfl)
       have q3 := (Y5d.get 3 rfl).lt
       have Y5dc := Y5d.sub (L' := [(w.heap.size + 1, 27, #[.int .u64 (o.gen : Nat), .int .i64 o.at_, .int .i64 o.len, .int .i64 o.long, .int .u32 (o.sum : Nat), .int .u64 (o.next : Nat)]), (w.heap.size + 2, 27, #[.int .u64 (r.gen : Nat), .int .i64 r.at_, .int .i64 r.len, .int .i64 r.long, .int .u32 (r.sum : Nat), .int .u64 (r.next : Nat)]), (w.heap.size, 31, #[.slice A4 Wd.dry.length c4, .slice B4 Wd.wet.length e4, .int .i64 Wd.left]), (w4.heap.size, 31, #[.slice A6 X.dry.length c6, .slice B6 X.wet.length e6, .int .i64 X.left])]) (by simp) (fun _ h => h) (fun _ h => h)
       have Y5db : Gx w (w5.alloc (.cells #[.slice A7 C.dry.length c7, .slice B7 C.wet.length e7, .int .i64 C.left] 31)) [(w.heap.size + 1, 27, #[.int .u64 (o.gen : Nat), .int .i64 o.at_, .int .i64 o.len, .int .i64 o.long, .int .u32 (o.sum : Nat), .int .u64 (o.next : Nat)]), (w.heap.size + 2, 27, #[.int .u64 (r.gen : Nat), .int .i64 r.at_, .int .i64 r.len, .int .i64 r.long, .int .u32 (r.sum : Nat), .int .u64 (r.next : Nat)]), (w.heap.size, 31, #[.slice A4 Wd.dry.length c4, .slice B4 Wd.wet.length e4, .int .i64 Wd.left]), (w4.heap.size, 31, #[.slice A6 X.dry.length c6, .slice B6 X.wet.length e6, .int .i64 X.left]), (w5.heap.size, 31, #[.slice A7 C.dry.length c7, .slice B7 C.wet.length e7, .int .i64 C.left])] [(w1.heap.size, w2.heap.size, .agg #[.slice A4 Wd.dry.length c4, .slice B4 Wd.wet.length e4, .int .i64 Wd.left], Wd), (0, w4.heap.size, .agg #[.slice A6 X.dry.length c6, .slice B6 X.wet.length e6, .int .i64 X.left], X), (0, w5.heap.size, .agg #[.slice A7 C.dry.length c7, .slice B7 C.wet.length e7, .int .i64 C.left], C)] [(0, w3.heap.size, .slice A5 32 c5, octs r)] := Y5dc.newB (w5.heap.size) rfl 31 #[.slice A7 C.dry.length c7, .slice B7 C.wet.length e7, .int .i64 C.left]
       have X6 := hide Y5db
       clear XM Y5dc X5 b5 Y5 Y5d Y5db)
    | (have _t := tk6; clear tk6 _t; go_at_call 25; refine (unhide hR1 _ _ _ (unhide X6).bl ((unhide X6).dr 2 rfl)).mono ?_; rintro e w6 ⟨A8, c8, rfl, x8, b6⟩
       have Y6 : Gx w w6 [(w.heap.size + 1, 27, #[.int .u64 (o.gen : Nat), .int .i64 o.at_, .int .i64 o.len, .int .i64 o.long, .int .u32 (o.sum : Nat), .int .u64 (o.next : Nat)]), (w.heap.size + 2, 27, #[.int .u64 (r.gen : Nat), .int .i64 r.at_, .int .i64 r.len, .int .i64 r.long, .int .u32 (r.sum : Nat), .int .u64 (r.next : Nat)]), (w.heap.size, 31, #[.slice A4 Wd.dry.length c4, .slice B4 Wd.wet.length e4, .int .i64 Wd.left]), (w4.heap.size, 31, #[.slice A6 X.dry.length c6, .slice B6 X.wet.length e6, .int .i64 X.left]), (w5.heap.size, 31, #[.slice A7 C.dry.length c7, .slice B7 C.wet.length e7, .int .i64 C.left])] [(w1.heap.size, w2.heap.size, .agg #[.slice A4 Wd.dry.length c4, .slice B4 Wd.wet.length e4, .int .i64 Wd.left], Wd), (0, w4.heap.size, .agg #[.slice A6 X.dry.length c6, .slice B6 X.wet.length e6, .int .i64 X.left], X), (0, w5.heap.size, .agg #[.slice A7 C.dry.length c7, .slice B7 C.wet.length e7, .int .i64 C.left], C)] [(0, w3.heap.size, .slice A5 32 c5, octs r)] := (unhide X6).call b6
       have Y6z : Gx w w6 [(w.heap.size + 1, 27, #[.int .u64 (o.gen : Nat), .int .i64 o.at_, .int .i64 o.len, .int .i64 o.long, .int .u32 (o.sum : Nat), .int .u64 (o.next : Nat)]), (w.heap.size + 2, 27, #[.int .u64 (r.gen : Nat), .int .i64 r.at_, .int .i64 r.len, .int .i64 r.long, .int .u32 (r.sum : Nat), .int .u64 (r.next : Nat)]), (w.heap.size, 31, #[.slice A4 Wd.dry.length c4, .slice B4 Wd.wet.length e4, .int .i64 Wd.left]), (w4.heap.size, 31, #[.slice A6 X.dry.length c6, .slice B6 X.wet.length e6, .int .i64 X.left]), (w5.heap.size, 31, #[.slice A7 C.dry.length c7, .slice B7 C.wet.length e7, .int .i64 C.left])] [(w1.heap.size, w2.heap.size, .agg #[.slice A4 Wd.dry.length c4, .slice B4 Wd.wet.length e4, .int .i64 Wd.left], Wd), (0, w4.heap.size, .agg #[.slice A6 X.dry.length c6, .slice B6 X.wet.length e6, .int .i64 X.left], X), (0, w5.heap.size, .agg #[.slice A7 C.dry.length c7, .slice B7 C.wet.length e7, .int .i64 C.left], C)] [(0, w3.heap.size, .slice A5 32 c5, octs r), (0, w6.heap.size, .slice A8 z1.length c8, z1)] := Y6.addZ (x8.mono (Nat.zero_le _) (Nat.le_refl _))
       clear ca0_0 ca0_1 ca0_2 ca0_3 ca0_4 ca0_5 q0 ca1_0 ca1_1 ca1_2 ca1_3 ca1_4 ca1_5 q1 ca2_0 ca2_1 ca2_2 q2 ca3_0 ca3_1 ca3_2 q3
       obtain ⟨ca0_0, ca0_1, ca0_2, ca0_3, ca0_4, ca0_5⟩ := zk6 (Y6z.get 0 rfl)
       have q0 := (Y6z.get 0 rfl).lt
       obtain ⟨ca1_0, ca1_1, ca1_2, ca1_3, ca1_4, ca1_5⟩ := zk6 (Y6z.get 1 rfl)
       have q1 := (Y6z.get 1 rfl).lt
       obtain ⟨ca2_0, ca2_1, ca2_2⟩ := ck3 (Y6z.get 2 rfl)
       have q2 := (Y6z.get 2 rfl).lt
       obtain ⟨ca3_0, ca3_1, ca3_2⟩ := ck3 (Y6z.get 3 rfl)
       have q3 := (Y6z.get 3 rfl).lt
       obtain ⟨ca4_0, ca4_1, ca4_2⟩ := ck3 (Y6z.get 4 rfl)
       have q4 := (Y6z.get 4 rfl).lt
       have X7 := hide Y6z
       clear X6 b6 Y6 Y6z)
    | (have _t := tk7; clear tk7 _t; go_at_call 13; refine (unhide hO1 _ _ (unhide X7).bl ((unhide X7).rd 1 rfl)).mono ?_; rintro e w7 ⟨rfl, b7⟩
       have Y7 : Gx w w7 [(w.heap.size + 1, 27, #[.int .u64 (o.gen : Nat), .int .i64 o.at_, .int .i64 o.len, .int .i64 o.long, .int .u32 (o.sum : Nat), .int .u64 (o.next : Nat)]), (w.heap.size + 2, 27, #[.int .u64 (r.gen : Nat), .int .i64 r.at_, .int .i64 r.len, .int .i64 r.long, .int .u32 (r.sum : Nat), .int .u64 (r.next : Nat)]), (w.heap.size, 31, #[.slice A4 Wd.dry.length c4, .slice B4 Wd.wet.length e4, .int .i64 Wd.left]), (w4.heap.size, 31, #[.slice A6 X.dry.length c6, .slice B6 X.wet.length e6, .int .i64 X.left]), (w5.heap.size, 31, #[.slice A7 C.dry.length c7, .slice B7 C.wet.length e7, .int .i64 C.left])] [(w1.heap.size, w2.heap.size, .agg #[.slice A4 Wd.dry.length c4, .slice B4 Wd.wet.length e4, .int .i64 Wd.left], Wd), (0, w4.heap.size, .agg #[.slice A6 X.dry.length c6, .slice B6 X.wet.length e6, .int .i64 X.left], X), (0, w5.heap.size, .agg #[.slice A7 C.dry.length c7, .slice B7 C.wet.length e7, .int .i64 C.left], C)] [(0, w3.heap.size, .slice A5 32 c5, octs r), (0, w6.heap.size, .slice A8 z1.length c8, z1)] := (unhide X7).call b7
       clear ca0_0 ca0_1 ca0_2 ca0_3 ca0_4 ca0_5 q0 ca1_0 ca1_1 ca1_2 ca1_3 ca1_4 ca1_5 q1 ca2_0 ca2_1 ca2_2 q2 ca3_0 ca3_1 ca3_2 q3 ca4_0 ca4_1 ca4_2 q4
       obtain ⟨ca0_0, ca0_1, ca0_2, ca0_3, ca0_4, ca0_5⟩ := zk6 (Y7.get 0 rfl)
       have q0 := (Y7.get 0 rfl).lt
       obtain ⟨ca1_0, ca1_1, ca1_2, ca1_3, ca1_4, ca1_5⟩ := zk6 (Y7.get 1 rfl)
       have q1 := (Y7.get 1 rfl).lt
       obtain ⟨ca2_0, ca2_1, ca2_2⟩ := ck3 (Y7.get 2 rfl)
       have q2 := (Y7.get 2 rfl).lt
       obtain ⟨ca3_0, ca3_1, ca3_2⟩ := ck3 (Y7.get 3 rfl)
       have q3 := (Y7.get 3 rfl).lt
       obtain ⟨ca4_0, ca4_1, ca4_2⟩ := ck3 (Y7.get 4 rfl)
       have q4 := (Y7.get 4 rfl).lt
       have Y7b : Gx w (w7.alloc (.cells #[.int .u64 (r.gen : Nat), .int .i64 r.at_, .int .i64 r.len, .int .i64 r.long, .int .u32 (r.sum : Nat), .int .u64 (r.next : Nat)] 27)) [(w.heap.size + 1, 27, #[.int .u64 (o.gen : Nat), .int .i64 o.at_, .int .i64 o.len, .int .i64 o.long, .int .u32 (o.sum : Nat), .int .u64 (o.next : Nat)]), (w.heap.size + 2, 27, #[.int .u64 (r.gen : Nat), .int .i64 r.at_, .int .i64 r.len, .int .i64 r.long, .int .u32 (r.sum : Nat), .int .u64 (r.next : Nat)]), (w.heap.size, 31, #[.slice A4 Wd.dry.length c4, .slice B4 Wd.wet.length e4, .int .i64 Wd.left]), (w4.heap.size, 31, #[.slice A6 X.dry.length c6, .slice B6 X.wet.length e6, .int .i64 X.left]), (w5.heap.size, 31, #[.slice A7 C.dry.length c7, .slice B7 C.wet.length e7, .int .i64 C.left]), (w7.heap.size, 27, #[.int .u64 (r.gen : Nat), .int .i64 r.at_, .int .i64 r.len, .int .i64 r.long, .int .u32 (r.sum : Nat), .int .u64 (r.next : Nat)])] [(w1.heap.size, w2.heap.size, .agg #[.slice A4 Wd.dry.length c4, .slice B4 Wd.wet.length e4, .int .i64 Wd.left], Wd), (0, w4.heap.size, .agg #[.slice A6 X.dry.length c6, .slice B6 X.wet.length e6, .int .i64 X.left], X), (0, w5.heap.size, .agg #[.slice A7 C.dry.length c7, .slice B7 C.wet.length e7, .int .i64 C.left], C)] [(0, w3.heap.size, .slice A5 32 c5, octs r), (0, w6.heap.size, .slice A8 z1.length c8, z1)] := Y7.newB (w7.heap.size) rfl 27 #[.int .u64 (r.gen : Nat), .int .i64 r.at_, .int .i64 r.len, .int .i64 r.long, .int .u32 (r.sum : Nat), .int .u64 (r.next : Nat)]
       have X8 := hide Y7b
       clear X7 b7 Y7 Y7b)
    | (have _t := tk8; clear tk8 _t; go_at_call 17; refine (unhide hF _ _ _ (unhide X8).bl ((unhide X8).dr 2 rfl)).mono ?_; rintro e w8 ⟨rfl, b8⟩
       have Y8 : Gx w w8 [(w.heap.size + 1, 27, #[.int .u64 (o.gen : Nat), .int .i64 o.at_, .int .i64 o.len, .int .i64 o.long, .int .u32 (o.sum : Nat), .int .u64 (o.next : Nat)]), (w.heap.size + 2, 27, #[.int .u64 (r.gen : Nat), .int .i64 r.at_, .int .i64 r.len, .int .i64 r.long, .int .u32 (r.sum : Nat), .int .u64 (r.next : Nat)]), (w.heap.size, 31, #[.slice A4 Wd.dry.length c4, .slice B4 Wd.wet.length e4, .int .i64 Wd.left]), (w4.heap.size, 31, #[.slice A6 X.dry.length c6, .slice B6 X.wet.length e6, .int .i64 X.left]), (w5.heap.size, 31, #[.slice A7 C.dry.length c7, .slice B7 C.wet.length e7, .int .i64 C.left]), (w7.heap.size, 27, #[.int .u64 (r.gen : Nat), .int .i64 r.at_, .int .i64 r.len, .int .i64 r.long, .int .u32 (r.sum : Nat), .int .u64 (r.next : Nat)])] [(w1.heap.size, w2.heap.size, .agg #[.slice A4 Wd.dry.length c4, .slice B4 Wd.wet.length e4, .int .i64 Wd.left], Wd), (0, w4.heap.size, .agg #[.slice A6 X.dry.length c6, .slice B6 X.wet.length e6, .int .i64 X.left], X), (0, w5.heap.size, .agg #[.slice A7 C.dry.length c7, .slice B7 C.wet.length e7, .int .i64 C.left], C)] [(0, w3.heap.size, .slice A5 32 c5, octs r), (0, w6.heap.size, .slice A8 z1.length c8, z1)] := (unhide X8).call b8
       clear ca0_0 ca0_1 ca0_2 ca0_3 ca0_4 ca0_5 q0 ca1_0 ca1_1 ca1_2 ca1_3 ca1_4 ca1_5 q1 ca2_0 ca2_1 ca2_2 q2 ca3_0 ca3_1 ca3_2 q3 ca4_0 ca4_1 ca4_2 q4
       obtain ⟨ca0_0, ca0_1, ca0_2, ca0_3, ca0_4, ca0_5⟩ := zk6 (Y8.get 0 rfl)
       have q0 := (Y8.get 0 rfl).lt
       obtain ⟨ca1_0, ca1_1, ca1_2, ca1_3, ca1_4, ca1_5⟩ := zk6 (Y8.get 1 rfl)
       have q1 := (Y8.get 1 rfl).lt
       obtain ⟨ca2_0, ca2_1, ca2_2⟩ := ck3 (Y8.get 2 rfl)
       have q2 := (Y8.get 2 rfl).lt
       obtain ⟨ca3_0, ca3_1, ca3_2⟩ := ck3 (Y8.get 3 rfl)
       have q3 := (Y8.get 3 rfl).lt
       obtain ⟨ca4_0, ca4_1, ca4_2⟩ := ck3 (Y8.get 4 rfl)
       have q4 := (Y8.get 4 rfl).lt
       obtain ⟨ca5_0, ca5_1, ca5_2, ca5_3, ca5_4, ca5_5⟩ := zk6 (Y8.get 5 rfl)
       have q5 := (Y8.get 5 rfl).lt
       have Y8b : Gx w (w8.alloc (.cells #[.int .u64 (o.gen : Nat), .int .i64 o.at_, .int .i64 o.len, .int .i64 o.long, .int .u32 (o.sum : Nat), .int .u64 (o.next : Nat)] 27)) [(w.heap.size + 1, 27, #[.int .u64 (o.gen : Nat), .int .i64 o.at_, .int .i64 o.len, .int .i64 o.long, .int .u32 (o.sum : Nat), .int .u64 (o.next : Nat)]), (w.heap.size + 2, 27, #[.int .u64 (r.gen : Nat), .int .i64 r.at_, .int .i64 r.len, .int .i64 r.long, .int .u32 (r.sum : Nat), .int .u64 (r.next : Nat)]), (w.heap.size, 31, #[.slice A4 Wd.dry.length c4, .slice B4 Wd.wet.length e4, .int .i64 Wd.left]), (w4.heap.size, 31, #[.slice A6 X.dry.length c6, .slice B6 X.wet.length e6, .int .i64 X.left]), (w5.heap.size, 31, #[.slice A7 C.dry.length c7, .slice B7 C.wet.length e7, .int .i64 C.left]), (w7.heap.size, 27, #[.int .u64 (r.gen : Nat), .int .i64 r.at_, .int .i64 r.len, .int .i64 r.long, .int .u32 (r.sum : Nat), .int .u64 (r.next : Nat)]), (w8.heap.size, 27, #[.int .u64 (o.gen : Nat), .int .i64 o.at_, .int .i64 o.len, .int .i64 o.long, .int .u32 (o.sum : Nat), .int .u64 (o.next : Nat)])] [(w1.heap.size, w2.heap.size, .agg #[.slice A4 Wd.dry.length c4, .slice B4 Wd.wet.length e4, .int .i64 Wd.left], Wd), (0, w4.heap.size, .agg #[.slice A6 X.dry.length c6, .slice B6 X.wet.length e6, .int .i64 X.left], X), (0, w5.heap.size, .agg #[.slice A7 C.dry.length c7, .slice B7 C.wet.length e7, .int .i64 C.left], C)] [(0, w3.heap.size, .slice A5 32 c5, octs r), (0, w6.heap.size, .slice A8 z1.length c8, z1)] := Y8.newB (w8.heap.size) rfl 27 #[.int .u64 (o.gen : Nat), .int .i64 o.at_, .int .i64 o.len, .int .i64 o.long, .int .u32 (o.sum : Nat), .int .u64 (o.next : Nat)]
       have X9 := hide Y8b
       clear X8 b8 Y8 Y8b)
    | (have _t := tk9; clear tk9 _t; go_at_call 25; refine (unhide hR2 _ _ _ (unhide X9).bl ((unhide X9).dr 2 rfl)).mono ?_; rintro e w9 ⟨A3, c3, rfl, x3, b9⟩
       have Y9 : Gx w w9 [(w.heap.size + 1, 27, #[.int .u64 (o.gen : Nat), .int .i64 o.at_, .int .i64 o.len, .int .i64 o.long, .int .u32 (o.sum : Nat), .int .u64 (o.next : Nat)]), (w.heap.size + 2, 27, #[.int .u64 (r.gen : Nat), .int .i64 r.at_, .int .i64 r.len, .int .i64 r.long, .int .u32 (r.sum : Nat), .int .u64 (r.next : Nat)]), (w.heap.size, 31, #[.slice A4 Wd.dry.length c4, .slice B4 Wd.wet.length e4, .int .i64 Wd.left]), (w4.heap.size, 31, #[.slice A6 X.dry.length c6, .slice B6 X.wet.length e6, .int .i64 X.left]), (w5.heap.size, 31, #[.slice A7 C.dry.length c7, .slice B7 C.wet.length e7, .int .i64 C.left]), (w7.heap.size, 27, #[.int .u64 (r.gen : Nat), .int .i64 r.at_, .int .i64 r.len, .int .i64 r.long, .int .u32 (r.sum : Nat), .int .u64 (r.next : Nat)]), (w8.heap.size, 27, #[.int .u64 (o.gen : Nat), .int .i64 o.at_, .int .i64 o.len, .int .i64 o.long, .int .u32 (o.sum : Nat), .int .u64 (o.next : Nat)])] [(w1.heap.size, w2.heap.size, .agg #[.slice A4 Wd.dry.length c4, .slice B4 Wd.wet.length e4, .int .i64 Wd.left], Wd), (0, w4.heap.size, .agg #[.slice A6 X.dry.length c6, .slice B6 X.wet.length e6, .int .i64 X.left], X), (0, w5.heap.size, .agg #[.slice A7 C.dry.length c7, .slice B7 C.wet.length e7, .int .i64 C.left], C)] [(0, w3.heap.size, .slice A5 32 c5, octs r), (0, w6.heap.size, .slice A8 z1.length c8, z1)] := (unhide X9).call b9
       have Y9z : Gx w w9 [(w.heap.size + 1, 27, #[.int .u64 (o.gen : Nat), .int .i64 o.at_, .int .i64 o.len, .int .i64 o.long, .int .u32 (o.sum : Nat), .int .u64 (o.next : Nat)]), (w.heap.size + 2, 27, #[.int .u64 (r.gen : Nat), .int .i64 r.at_, .int .i64 r.len, .int .i64 r.long, .int .u32 (r.sum : Nat), .int .u64 (r.next : Nat)]), (w.heap.size, 31, #[.slice A4 Wd.dry.length c4, .slice B4 Wd.wet.length e4, .int .i64 Wd.left]), (w4.heap.size, 31, #[.slice A6 X.dry.length c6, .slice B6 X.wet.length e6, .int .i64 X.left]), (w5.heap.size, 31, #[.slice A7 C.dry.length c7, .slice B7 C.wet.length e7, .int .i64 C.left]), (w7.heap.size, 27, #[.int .u64 (r.gen : Nat), .int .i64 r.at_, .int .i64 r.len, .int .i64 r.long, .int .u32 (r.sum : Nat), .int .u64 (r.next : Nat)]), (w8.heap.size, 27, #[.int .u64 (o.gen : Nat), .int .i64 o.at_, .int .i64 o.len, .int .i64 o.long, .int .u32 (o.sum : Nat), .int .u64 (o.next : Nat)])] [(w1.heap.size, w2.heap.size, .agg #[.slice A4 Wd.dry.length c4, .slice B4 Wd.wet.length e4, .int .i64 Wd.left], Wd), (0, w4.heap.size, .agg #[.slice A6 X.dry.length c6, .slice B6 X.wet.length e6, .int .i64 X.left], X), (0, w5.heap.size, .agg #[.slice A7 C.dry.length c7, .slice B7 C.wet.length e7, .int .i64 C.left], C)] [(0, w3.heap.size, .slice A5 32 c5, octs r), (0, w6.heap.size, .slice A8 z1.length c8, z1), (0, w9.heap.size, .slice A3 z2.length c3, z2)] := Y9.addZ (x3.mono (Nat.zero_le _) (Nat.le_refl _))
       clear ca0_0 ca0_1 ca0_2 ca0_3 ca0_4 ca0_5 q0 ca1_0 ca1_1 ca1_2 ca1_3 ca1_4 ca1_5 q1 ca2_0 ca2_1 ca2_2 q2 ca3_0 ca3_1 ca3_2 q3 ca4_0 ca4_1 ca4_2 q4 ca5_0 ca5_1 ca5_2 ca5_3 ca5_4 ca5_5 q5
       obtain ⟨ca0_0, ca0_1, ca0_2, ca0_3, ca0_4, ca0_5⟩ := zk6 (Y9z.get 0 rfl)
       have q0 := (Y9z.get 0 rfl).lt
       obtain ⟨ca1_0, ca1_1, ca1_2, ca1_3, ca1_4, ca1_5⟩ := zk6 (Y9z.get 1 rfl)
       have q1 := (Y9z.get 1 rfl).lt
       obtain ⟨ca2_0, ca2_1, ca2_2⟩ := ck3 (Y9z.get 2 rfl)
       have q2 := (Y9z.get 2 rfl).lt
       obtain ⟨ca3_0, ca3_1, ca3_2⟩ := ck3 (Y9z.get 3 rfl)
       have q3 := (Y9z.get 3 rfl).lt
       obtain ⟨ca4_0, ca4_1, ca4_2⟩ := ck3 (Y9z.get 4 rfl)
       have q4 := (Y9z.get 4 rfl).lt
       obtain ⟨ca5_0, ca5_1, ca5_2, ca5_3, ca5_4, ca5_5⟩ := zk6 (Y9z.get 5 rfl)
       have q5 := (Y9z.get 5 rfl).lt
       obtain ⟨ca6_0, ca6_1, ca6_2, ca6_3, ca6_4, ca6_5⟩ := zk6 (Y9z.get 6 rfl)
       have q6 := (Y9z.get 6 rfl).lt
       have X10 := hide Y9z
       clear X9 b9 Y9 Y9z)
    | (have _t := tk10; clear tk10 _t; go_at_call 13; refine (unhide hO2 _ _ (unhide X10).bl ((unhide X10).rd 2 rfl)).mono ?_; rintro e w10 ⟨rfl, b10⟩
       have Y10 : Gx w w10 [(w.heap.size + 1, 27, #[.int .u64 (o.gen : Nat), .int .i64 o.at_, .int .i64 o.len, .int .i64 o.long, .int .u32 (o.sum : Nat), .int .u64 (o.next : Nat)]), (w.heap.size + 2, 27, #[.int .u64 (r.gen : Nat), .int .i64 r.at_, .int .i64 r.len, .int .i64 r.long, .int .u32 (r.sum : Nat), .int .u64 (r.next : Nat)]), (w.heap.size, 31, #[.slice A4 Wd.dry.length c4, .slice B4 Wd.wet.length e4, .int .i64 Wd.left]), (w4.heap.size, 31, #[.slice A6 X.dry.length c6, .slice B6 X.wet.length e6, .int .i64 X.left]), (w5.heap.size, 31, #[.slice A7 C.dry.length c7, .slice B7 C.wet.length e7, .int .i64 C.left]), (w7.heap.size, 27, #[.int .u64 (r.gen : Nat), .int .i64 r.at_, .int .i64 r.len, .int .i64 r.long, .int .u32 (r.sum : Nat), .int .u64 (r.next : Nat)]), (w8.heap.size, 27, #[.int .u64 (o.gen : Nat), .int .i64 o.at_, .int .i64 o.len, .int .i64 o.long, .int .u32 (o.sum : Nat), .int .u64 (o.next : Nat)])] [(w1.heap.size, w2.heap.size, .agg #[.slice A4 Wd.dry.length c4, .slice B4 Wd.wet.length e4, .int .i64 Wd.left], Wd), (0, w4.heap.size, .agg #[.slice A6 X.dry.length c6, .slice B6 X.wet.length e6, .int .i64 X.left], X), (0, w5.heap.size, .agg #[.slice A7 C.dry.length c7, .slice B7 C.wet.length e7, .int .i64 C.left], C)] [(0, w3.heap.size, .slice A5 32 c5, octs r), (0, w6.heap.size, .slice A8 z1.length c8, z1), (0, w9.heap.size, .slice A3 z2.length c3, z2)] := (unhide X10).call b10
       clear ca0_0 ca0_1 ca0_2 ca0_3 ca0_4 ca0_5 q0 ca1_0 ca1_1 ca1_2 ca1_3 ca1_4 ca1_5 q1 ca2_0 ca2_1 ca2_2 q2 ca3_0 ca3_1 ca3_2 q3 ca4_0 ca4_1 ca4_2 q4 ca5_0 ca5_1 ca5_2 ca5_3 ca5_4 ca5_5 q5 ca6_0 ca6_1 ca6_2 ca6_3 ca6_4 ca6_5 q6
       obtain ⟨ca0_0, ca0_1, ca0_2, ca0_3, ca0_4, ca0_5⟩ := zk6 (Y10.get 0 rfl)
       have q0 := (Y10.get 0 rfl).lt
       obtain ⟨ca1_0, ca1_1, ca1_2, ca1_3, ca1_4, ca1_5⟩ := zk6 (Y10.get 1 rfl)
       have q1 := (Y10.get 1 rfl).lt
       obtain ⟨ca2_0, ca2_1, ca2_2⟩ := ck3 (Y10.get 2 rfl)
       have q2 := (Y10.get 2 rfl).lt
       obtain ⟨ca3_0, ca3_1, ca3_2⟩ := ck3 (Y10.get 3 rfl)
       have q3 := (Y10.get 3 rfl).lt
       obtain ⟨ca4_0, ca4_1, ca4_2⟩ := ck3 (Y10.get 4 rfl)
       have q4 := (Y10.get 4 rfl).lt
       obtain ⟨ca5_0, ca5_1, ca5_2, ca5_3, ca5_4, ca5_5⟩ := zk6 (Y10.get 5 rfl)
       have q5 := (Y10.get 5 rfl).lt
       obtain ⟨ca6_0, ca6_1, ca6_2, ca6_3, ca6_4, ca6_5⟩ := zk6 (Y10.get 6 rfl)
       have q6 := (Y10.get 6 rfl).lt
       have Y10b : Gx w (w10.alloc (.cells #[.int .u64 (y.gen : Nat), .int .i64 y.at_, .int .i64 y.len, .int .i64 y.long, .int .u32 (y.sum : Nat), .int .u64 (y.next : Nat)] 27)) [(w.heap.size + 1, 27, #[.int .u64 (o.gen : Nat), .int .i64 o.at_, .int .i64 o.len, .int .i64 o.long, .int .u32 (o.sum : Nat), .int .u64 (o.next : Nat)]), (w.heap.size + 2, 27, #[.int .u64 (r.gen : Nat), .int .i64 r.at_, .int .i64 r.len, .int .i64 r.long, .int .u32 (r.sum : Nat), .int .u64 (r.next : Nat)]), (w.heap.size, 31, #[.slice A4 Wd.dry.length c4, .slice B4 Wd.wet.length e4, .int .i64 Wd.left]), (w4.heap.size, 31, #[.slice A6 X.dry.length c6, .slice B6 X.wet.length e6, .int .i64 X.left]), (w5.heap.size, 31, #[.slice A7 C.dry.length c7, .slice B7 C.wet.length e7, .int .i64 C.left]), (w7.heap.size, 27, #[.int .u64 (r.gen : Nat), .int .i64 r.at_, .int .i64 r.len, .int .i64 r.long, .int .u32 (r.sum : Nat), .int .u64 (r.next : Nat)]), (w8.heap.size, 27, #[.int .u64 (o.gen : Nat), .int .i64 o.at_, .int .i64 o.len, .int .i64 o.long, .int .u32 (o.sum : Nat), .int .u64 (o.next : Nat)]), (w10.heap.size, 27, #[.int .u64 (y.gen : Nat), .int .i64 y.at_, .int .i64 y.len, .int .i64 y.long, .int .u32 (y.sum : Nat), .int .u64 (y.next : Nat)])] [(w1.heap.size, w2.heap.size, .agg #[.slice A4 Wd.dry.length c4, .slice B4 Wd.wet.length e4, .int .i64 Wd.left], Wd), (0, w4.heap.size, .agg #[.slice A6 X.dry.length c6, .slice B6 X.wet.length e6, .int .i64 X.left], X), (0, w5.heap.size, .agg #[.slice A7 C.dry.length c7, .slice B7 C.wet.length e7, .int .i64 C.left], C)] [(0, w3.heap.size, .slice A5 32 c5, octs r), (0, w6.heap.size, .slice A8 z1.length c8, z1), (0, w9.heap.size, .slice A3 z2.length c3, z2)] := Y10.newB (w10.heap.size) rfl 27 #[.int .u64 (y.gen : Nat), .int .i64 y.at_, .int .i64 y.len, .int .i64 y.long, .int .u32 (y.sum : Nat), .int .u64 (y.next : Nat)]
       have X11 := hide Y10b
       clear X10 b10 Y10 Y10b)
    | fail)
  go_ret
  exact ⟨ret_b rfl (by simp), (unhide X11).bl⟩
set_option maxHeartbeats 16000000 in
theorem torn_1y (A A' : Option Addr) (c c' : Nat) (d : Dk) (o r : Rt) (hT' : OkT o) (hT : OkT r) (m : UInt8) (w : World) (ht : Tab w) (h : Dsk 0 w.heap.size w (.agg #[.slice A d.dry.length c, .slice A' d.wet.length c', .int .i64 d.left]) d) (hw : fewB d = true) (h1 : d.left = -1) (h2 : o.gen % 2 = r.gen % 2) (h3 : o.gen % 256 ≠ r.gen % 256) (hE : (wrR d o).2 = 0) (hr : rOk r = true) (hm : m = 255) (X C : Dk) (ho : Torn (wrR d o).1 o r m X C) (hk : (fdR C).2 = 0) (hp : (fdR C).1 ≠ r) (hp1 : (fdR C).1 ≠ o) (hy : ofE (sectorOf C (1 - r.gen % 2 : Nat)) = 0) (hy1 : ofR (sectorOf C (1 - r.gen % 2 : Nat)) = (fdR C).1) :
    Calls Tryd.prog 6 #[.agg #[.slice A d.dry.length c, .slice A' d.wet.length c', .int .i64 d.left], (.agg #[.int .u64 (o.gen : Nat), .int .i64 o.at_, .int .i64 o.len, .int .i64 o.long, .int .u32 (o.sum : Nat), .int .u64 (o.next : Nat)]), (.agg #[.int .u64 (r.gen : Nat), .int .i64 r.at_, .int .i64 r.len, .int .i64 r.long, .int .u32 (r.sum : Nat), .int .u64 (r.next : Nat)]), .int .u8 (m.toNat : Int)] w fun e w' => e = .returned (.bool true) ∧ Below w.heap.size w w' := by
  have hl := fun W (hB : Below w.heap.size w W) => live_any W (ht.below hB (Nat.le_refl _))
  have hf := fun W (hB : Below w.heap.size w W) => few_any 0 _ d W (h.grow hB)
  rw [hw] at hf
  have g1 : (d.left != -1) = false := by rw [h1]; rfl
  have g2 : ((o.gen : Int) % 2 != (r.gen : Int) % 2) = false := by simp; omega
  have g3 : ((o.gen : Int) % 256 == (r.gen : Int) % 256) = false := by simp; omega
  obtain ⟨s1, s2⟩ := few_small hw
  have hS := fun W (hB : Below w.heap.size w W) => Write_form' 0 _ d o W (ht.below hB (Nat.le_refl _)) hT' (h.grow hB) (by omega) (by omega)
  have hgo := went_of hE
  obtain ⟨q1, q2, q3, q4, q5, q6, q7, q8, q9⟩ := ho
  have hor := hgo.ok
  have hne : o ≠ r := fun e => h3 (by rw [e])
  have s3 : (wrR d o).1.dry.length ≤ 300000 := by rw [hgo.lenW]; omega
  have s4 : (wrR d o).1.wet.length = 0 := by rw [hgo.wetW]; rfl
  have ho' : Torn (wrR d o).1 o r m X C := ⟨q1, q2, q3, q4, q5, q6, q7, q8, q9⟩
  have hO := fun W (hB : Below w.heap.size w W) => Octets_ok r hr hT W (ht.below hB (Nat.le_refl _))
  obtain ⟨i, hi⟩ : ∃ i : Nat, i = r.gen % 2 := ⟨_, rfl⟩
  have i2 : i < 2 := by omega
  have f1 : (o.gen : Int) % 2 = (i : Int) := by omega
  have f2 : (r.gen : Int) % 2 = (i : Int) := by omega
  obtain ⟨j, hj⟩ : ∃ j : Nat, j = 1 - i := ⟨_, rfl⟩
  have f3 : (1 : Int) - (i : Int) = (j : Int) := by omega
  have f4 : IntKind.i64.wrap (1 - (i : Int)) = (j : Int) := by rw [f3]; exact IntWalk.i64_in _ (by omega)
  have r1 := hold_rd q7 i2
  have r2 := hold_rd q7 (show j < 2 by omega)
  have hT1 := fun lo v bb W (_ : Below w.heap.size w W) (hx : Dsk lo W.heap.size W v (wrR d o).1) (hb : Bs 0 W.heap.size W bb (octs r)) => Write2_form 0 v bb (wrR d o).1 ((r.gen % 2 : Nat) : Int) (octs r) W (hx.mono (Nat.zero_le _) (Nat.le_refl _)) hb (by omega) (by omega)
  rw [q1, ← hi] at hT1
  have hCr := fun lo v mv W (_ : Below w.heap.size w W) (hx : Dsk lo W.heap.size W v X) (hb : Bs 0 W.heap.size W mv [m]) => Crash_form 0 v mv X [m] W (hx.mono (Nat.zero_le _) (Nat.le_refl _)) hb (by omega) (by omega)
  rw [q2] at hCr
  have hR1 := fun lo v W (_ : Below w.heap.size w W) (hx : Dsk lo W.heap.size W v C) => Read_form lo v C i W hx (by omega) (by omega) _ r1
  have hR2 := fun lo v W (_ : Below w.heap.size w W) (hx : Dsk lo W.heap.size W v C) => Read_form lo v C j W hx (by omega) (by omega) _ r2
  have hF := fun lo v W (hB : Below w.heap.size w W) (hx : Dsk lo W.heap.size W v C) => Find_any lo v C W (ht.below hB (Nat.le_refl _)) hx (by omega) (by omega)
  have hO1 := fun v1 W (hB : Below w.heap.size w W) (hx : Bs 0 W.heap.size W v1 (sectorOf C (i : Nat))) => Of_any v1 0 _ W (ht.below hB (Nat.le_refl _)) hx
  have hO2 := fun v1 W (hB : Below w.heap.size w W) (hx : Bs 0 W.heap.size W v1 (sectorOf C (j : Nat))) => Of_any v1 0 _ W (ht.below hB (Nat.le_refl _)) hx
  rw [hE] at hS
  have hz : sectorOf C (i : Nat) = octs r := by subst hm; rw [hi]; exact ho'.full
  have z1 : ofE (sectorOf C (i : Nat)) = 0 := by rw [hz]; unfold ofE; rw [ofB_octs hr hT]; rfl
  have z2 : ofR (sectorOf C (i : Nat)) = r := by rw [hz]; exact ofR_octs hr hT
  rw [z1, z2] at hO1
  have m1 : ((m.toNat : Int) == 0) = false := by rw [hm]; rfl
  have m2 : ((m.toNat : Int) == 255) = true := by rw [hm]; rfl
  have m3 : ((m.toNat : Int) != 0) = true := by rw [hm]; rfl
  have m4 : ((m.toNat : Int) != 255) = false := by rw [hm]; rfl
  clear hz z1 z2 hm
  rw [hk] at hF
  rw [← hi, ← hj] at hy hy1
  rw [hy, hy1] at hO2
  obtain ⟨p, hpp⟩ : ∃ p, p = (fdR C).1 := ⟨_, rfl⟩
  rw [← hpp] at hF hO2 hp hp1
  have d1 : decide (p = r) = false := decide_eq_false hp
  have d2 : decide (p = o) = false := decide_eq_false hp1
  clear hpp hp hp1 hy hy1
  have d3 : decide (o = r) = false := decide_eq_false hne
  have d4 : decide (r = o) = false := decide_eq_false (fun e => hne e.symm)
  obtain ⟨Wd, hWd⟩ : ∃ Wd, Wd = (wrR d o).1 := ⟨_, rfl⟩
  rw [← hWd] at hS hT1
  generalize sectorOf C (i : Nat) = z1 at *
  generalize sectorOf C (j : Nat) = z2 at *
  replace hS := hide hS; replace hO := hide hO; replace hT1 := hide hT1; replace hCr := hide hCr; replace hR1 := hide hR1; replace hR2 := hide hR2; replace hF := hide hF; replace hO1 := hide hO1; replace hO2 := hide hO2
  generalize d.dry.length = n at *
  generalize d.wet.length = k at *
  generalize d.left = l at *
  have X0 : Gx w (((w.alloc (.cells #[.slice A n c, .slice A' k c', .int .i64 l] 31)).alloc (.cells #[.int .u64 (o.gen : Nat), .int .i64 o.at_, .int .i64 o.len, .int .i64 o.long, .int .u32 (o.sum : Nat), .int .u64 (o.next : Nat)] 27)).alloc (.cells #[.int .u64 (r.gen : Nat), .int .i64 r.at_, .int .i64 r.len, .int .i64 r.long, .int .u32 (r.sum : Nat), .int .u64 (r.next : Nat)] 27)) [(w.heap.size, 31, #[.slice A n c, .slice A' k c', .int .i64 l]), (w.heap.size + 1, 27, #[.int .u64 (o.gen : Nat), .int .i64 o.at_, .int .i64 o.len, .int .i64 o.long, .int .u32 (o.sum : Nat), .int .u64 (o.next : Nat)]), (w.heap.size + 2, 27, #[.int .u64 (r.gen : Nat), .int .i64 r.at_, .int .i64 r.len, .int .i64 r.long, .int .u32 (r.sum : Nat), .int .u64 (r.next : Nat)])] [] [] := (((Gx.nil w).newB w.heap.size rfl 31 #[.slice A n c, .slice A' k c', .int .i64 l]).newB (w.heap.size + 1) (by simp) 27 #[.int .u64 (o.gen : Nat), .int .i64 o.at_, .int .i64 o.len, .int .i64 o.long, .int .u32 (o.sum : Nat), .int .u64 (o.next : Nat)]).newB (w.heap.size + 2) (by simp) 27 #[.int .u64 (r.gen : Nat), .int .i64 r.at_, .int .i64 r.len, .int .i64 r.long, .int .u32 (r.sum : Nat), .int .u64 (r.next : Nat)]
  replace X0 := hide X0; replace hl := hide hl; replace hf := hide hf
  clear ht h hw hT hT' s1 s2 hgo q1 q2 q3 q4 q5 q6 q7 q8 q9 hor hne s3 s4 ho' hi i2 hj r1 r2 hE hr hk hWd h1 h2 h3
  have tk0 : True := trivial
  have tk1 : True := trivial
  have tk2 : True := trivial
  have tk3 : True := trivial
  have tk4 : True := trivial
  have tk5 : True := trivial
  have tk6 : True := trivial
  have tk7 : True := trivial
  have tk8 : True := trivial
  have tk9 : True := trivial
  have tk10 : True := trivial
  go_enter Tryd.func6, Tryd.ntmps6
  go_upto_region 1 with (fail)
  generalize hW : World.alloc (World.alloc (World.alloc w _) _) _ = W at *
  clear hW
  obtain ⟨ca0_0, ca0_1, ca0_2⟩ := ck3 ((unhide X0).get 0 rfl)
  obtain ⟨fa0_0, fa0_1, fa0_2⟩ := fk3 ((unhide X0).get 0 rfl)
  have q0 := ((unhide X0).get 0 rfl).lt
  obtain ⟨ca1_0, ca1_1, ca1_2, ca1_3, ca1_4, ca1_5⟩ := zk6 ((unhide X0).get 1 rfl)
  have q1 := ((unhide X0).get 1 rfl).lt
  obtain ⟨ca2_0, ca2_1, ca2_2, ca2_3, ca2_4, ca2_5⟩ := zk6 ((unhide X0).get 2 rfl)
  have q2 := ((unhide X0).get 2 rfl).lt
  go_wp2_with (first
    | (have _t := tk0; clear tk0 _t; go_at_call 8; refine (unhide hl _ (unhide X0).bl).mono ?_; rintro e w0 ⟨rfl, b0⟩
       have Y0 : Gx w w0 [(w.heap.size, 31, #[.slice A n c, .slice A' k c', .int .i64 l]), (w.heap.size + 1, 27, #[.int .u64 (o.gen : Nat), .int .i64 o.at_, .int .i64 o.len, .int .i64 o.long, .int .u32 (o.sum : Nat), .int .u64 (o.next : Nat)]), (w.heap.size + 2, 27, #[.int .u64 (r.gen : Nat), .int .i64 r.at_, .int .i64 r.len, .int .i64 r.long, .int .u32 (r.sum : Nat), .int .u64 (r.next : Nat)])] [] [] := (unhide X0).call b0
       clear ca0_0 ca0_1 ca0_2 fa0_0 fa0_1 fa0_2 q0 ca1_0 ca1_1 ca1_2 ca1_3 ca1_4 ca1_5 q1 ca2_0 ca2_1 ca2_2 ca2_3 ca2_4 ca2_5 q2
       obtain ⟨ca0_0, ca0_1, ca0_2⟩ := ck3 (Y0.get 0 rfl)
       obtain ⟨fa0_0, fa0_1, fa0_2⟩ := fk3 (Y0.get 0 rfl)
       have q0 := (Y0.get 0 rfl).lt
       obtain ⟨ca1_0, ca1_1, ca1_2, ca1_3, ca1_4, ca1_5⟩ := zk6 (Y0.get 1 rfl)
       have q1 := (Y0.get 1 rfl).lt
       obtain ⟨ca2_0, ca2_1, ca2_2, ca2_3, ca2_4, ca2_5⟩ := zk6 (Y0.get 2 rfl)
       have q2 := (Y0.get 2 rfl).lt
       have X1 := hide Y0
       clear X0 b0 Y0)
    | (have _t := tk1; clear tk1 _t; go_at_call 9; refine (unhide hf _ (unhide X1).bl).mono ?_; rintro e w1 ⟨rfl, b1⟩
       have Y1 : Gx w w1 [(w.heap.size, 31, #[.slice A n c, .slice A' k c', .int .i64 l]), (w.heap.size + 1, 27, #[.int .u64 (o.gen : Nat), .int .i64 o.at_, .int .i64 o.len, .int .i64 o.long, .int .u32 (o.sum : Nat), .int .u64 (o.next : Nat)]), (w.heap.size + 2, 27, #[.int .u64 (r.gen : Nat), .int .i64 r.at_, .int .i64 r.len, .int .i64 r.long, .int .u32 (r.sum : Nat), .int .u64 (r.next : Nat)])] [] [] := (unhide X1).call b1
       clear ca0_0 ca0_1 ca0_2 fa0_0 fa0_1 fa0_2 q0 ca1_0 ca1_1 ca1_2 ca1_3 ca1_4 ca1_5 q1 ca2_0 ca2_1 ca2_2 ca2_3 ca2_4 ca2_5 q2
       obtain ⟨ca0_0, ca0_1, ca0_2⟩ := ck3 (Y1.get 0 rfl)
       obtain ⟨fa0_0, fa0_1, fa0_2⟩ := fk3 (Y1.get 0 rfl)
       have q0 := (Y1.get 0 rfl).lt
       obtain ⟨ca1_0, ca1_1, ca1_2, ca1_3, ca1_4, ca1_5⟩ := zk6 (Y1.get 1 rfl)
       have q1 := (Y1.get 1 rfl).lt
       obtain ⟨ca2_0, ca2_1, ca2_2, ca2_3, ca2_4, ca2_5⟩ := zk6 (Y1.get 2 rfl)
       have q2 := (Y1.get 2 rfl).lt
       have X2 := hide Y1
       clear X1 b1 Y1)
    | (have _t := tk2; clear tk2 _t; go_at_call 15; refine (unhide hS _ (unhide X2).bl).mono ?_; rintro e w2 ⟨A4, c4, B4, e4, rfl, x4, b2⟩
       have Y2 : Gx w w2 [(w.heap.size, 31, #[.slice A n c, .slice A' k c', .int .i64 l]), (w.heap.size + 1, 27, #[.int .u64 (o.gen : Nat), .int .i64 o.at_, .int .i64 o.len, .int .i64 o.long, .int .u32 (o.sum : Nat), .int .u64 (o.next : Nat)]), (w.heap.size + 2, 27, #[.int .u64 (r.gen : Nat), .int .i64 r.at_, .int .i64 r.len, .int .i64 r.long, .int .u32 (r.sum : Nat), .int .u64 (r.next : Nat)])] [] [] := (unhide X2).call b2
       have Y2d : Gx w w2 [(w.heap.size, 31, #[.slice A n c, .slice A' k c', .int .i64 l]), (w.heap.size + 1, 27, #[.int .u64 (o.gen : Nat), .int .i64 o.at_, .int .i64 o.len, .int .i64 o.long, .int .u32 (o.sum : Nat), .int .u64 (o.next : Nat)]), (w.heap.size + 2, 27, #[.int .u64 (r.gen : Nat), .int .i64 r.at_, .int .i64 r.len, .int .i64 r.long, .int .u32 (r.sum : Nat), .int .u64 (r.next : Nat)])] [(w1.heap.size, w2.heap.size, .agg #[.slice A4 Wd.dry.length c4, .slice B4 Wd.wet.length e4, .int .i64 Wd.left], Wd)] [] := Y2.addD x4
       clear ca0_0 ca0_1 ca0_2 fa0_0 fa0_1 fa0_2 q0 ca1_0 ca1_1 ca1_2 ca1_3 ca1_4 ca1_5 q1 ca2_0 ca2_1 ca2_2 ca2_3 ca2_4 ca2_5 q2
       obtain ⟨ca0_0, ca0_1, ca0_2⟩ := ck3 (Y2d.get 0 rfl)
       obtain ⟨fa0_0, fa0_1, fa0_2⟩ := fk3 (Y2d.get 0 rfl)
       have q0 := (Y2d.get 0 rfl).lt
       obtain ⟨ca1_0, ca1_1, ca1_2, ca1_3, ca1_4, ca1_5⟩ := zk6 (Y2d.get 1 rfl)
       have q1 := (Y2d.get 1 rfl).lt
       obtain ⟨ca2_0, ca2_1, ca2_2, ca2_3, ca2_4, ca2_5⟩ := zk6 (Y2d.get 2 rfl)
       have q2 := (Y2d.get 2 rfl).lt
       have l7 : w.heap.size + 2 < w1.heap.size := ((unhide X2).get 2 rfl).lt
       have Z2 : Gx w (((w2.setCell ⟨w.heap.size, 0, none⟩ (.slice A4 Wd.dry.length c4)).setCell ⟨w.heap.size, 1, none⟩ (.slice B4 Wd.wet.length e4)).setCell ⟨w.heap.size, 2, none⟩ (.int .i64 Wd.left)) [(w.heap.size + 1, 27, #[.int .u64 (o.gen : Nat), .int .i64 o.at_, .int .i64 o.len, .int .i64 o.long, .int .u32 (o.sum : Nat), .int .u64 (o.next : Nat)]), (w.heap.size + 2, 27, #[.int .u64 (r.gen : Nat), .int .i64 r.at_, .int .i64 r.len, .int .i64 r.long, .int .u32 (r.sum : Nat), .int .u64 (r.next : Nat)]), (w.heap.size, 31, #[.slice A4 Wd.dry.length c4, .slice B4 Wd.wet.length e4, .int .i64 Wd.left])] [(w1.heap.size, w2.heap.size, .agg #[.slice A4 Wd.dry.length c4, .slice B4 Wd.wet.length e4, .int .i64 Wd.left], Wd)] [] := (Y2d.sub (L' := [(w.heap.size + 1, 27, #[.int .u64 (o.gen : Nat), .int .i64 o.at_, .int .i64 o.len, .int .i64 o.long, .int .u32 (o.sum : Nat), .int .u64 (o.next : Nat)]), (w.heap.size + 2, 27, #[.int .u64 (r.gen : Nat), .int .i64 r.at_, .int .i64 r.len, .int .i64 r.long, .int .u32 (r.sum : Nat), .int .u64 (r.next : Nat)])]) (by simp) (fun _ h => h) (fun _ h => h)).set3 (Y2d.get 0 rfl) (Nat.le_refl _) (by simp) (by simp; omega) (by simp) (.slice A4 Wd.dry.length c4) (.slice B4 Wd.wet.length e4) (.int .i64 Wd.left)
       have X3 := hide Z2
       clear X2 b2 Y2 Y2d Z2)
    | (have _t := tk3; clear tk3 _t; go_at_call 11; refine (unhide hO _ (unhide X3).bl).mono ?_; rintro e w3 ⟨A5, c5, rfl, x5, b3⟩
       have Y3 : Gx w w3 [(w.heap.size + 1, 27, #[.int .u64 (o.gen : Nat), .int .i64 o.at_, .int .i64 o.len, .int .i64 o.long, .int .u32 (o.sum : Nat), .int .u64 (o.next : Nat)]), (w.heap.size + 2, 27, #[.int .u64 (r.gen : Nat), .int .i64 r.at_, .int .i64 r.len, .int .i64 r.long, .int .u32 (r.sum : Nat), .int .u64 (r.next : Nat)]), (w.heap.size, 31, #[.slice A4 Wd.dry.length c4, .slice B4 Wd.wet.length e4, .int .i64 Wd.left])] [(w1.heap.size, w2.heap.size, .agg #[.slice A4 Wd.dry.length c4, .slice B4 Wd.wet.length e4, .int .i64 Wd.left], Wd)] [] := (unhide X3).call b3
       have Y3z : Gx w w3 [(w.heap.size + 1, 27, #[.int .u64 (o.gen : Nat), .int .i64 o.at_, .int .i64 o.len, .int .i64 o.long, .int .u32 (o.sum : Nat), .int .u64 (o.next : Nat)]), (w.heap.size + 2, 27, #[.int .u64 (r.gen : Nat), .int .i64 r.at_, .int .i64 r.len, .int .i64 r.long, .int .u32 (r.sum : Nat), .int .u64 (r.next : Nat)]), (w.heap.size, 31, #[.slice A4 Wd.dry.length c4, .slice B4 Wd.wet.length e4, .int .i64 Wd.left])] [(w1.heap.size, w2.heap.size, .agg #[.slice A4 Wd.dry.length c4, .slice B4 Wd.wet.length e4, .int .i64 Wd.left], Wd)] [(0, w3.heap.size, .slice A5 32 c5, octs r)] := Y3.addZ (x5.mono (Nat.zero_le _) (Nat.le_refl _))
       clear ca0_0 ca0_1 ca0_2 fa0_0 fa0_1 fa0_2 q0 ca1_0 ca1_1 ca1_2 ca1_3 ca1_4 ca1_5 q1 ca2_0 ca2_1 ca2_2 ca2_3 ca2_4 ca2_5 q2
       obtain ⟨ca0_0, ca0_1, ca0_2, ca0_3, ca0_4, ca0_5⟩ := zk6 (Y3z.get 0 rfl)
       have q0 := (Y3z.get 0 rfl).lt
       obtain ⟨ca1_0, ca1_1, ca1_2, ca1_3, ca1_4, ca1_5⟩ := zk6 (Y3z.get 1 rfl)
       have q1 := (Y3z.get 1 rfl).lt
       obtain ⟨ca2_0, ca2_1, ca2_2⟩ := ck3 (Y3z.get 2 rfl)
       have q2 := (Y3z.get 2 rfl).lt
       have X4 := hide Y3z
       clear X3 b3 Y3 Y3z)
    | (have _t := tk4; clear tk4 _t; go_at_call 23; refine (unhide hT1 _ _ _ _ (unhide X4).bl ((unhide X4).dr 0 rfl) ((unhide X4).rd 0 rfl)).mono ?_; rintro e w4 ⟨A6, c6, B6, e6, rfl, x6, b4⟩
       have Y4 : Gx w w4 [(w.heap.size + 1, 27, #[.int .u64 (o.gen : Nat), .int .i64 o.at_, .int .i64 o.len, .int .i64 o.long, .int .u32 (o.sum : Nat), .int .u64 (o.next : Nat)]), (w.heap.size + 2, 27, #[.int .u64 (r.gen : Nat), .int .i64 r.at_, .int .i64 r.len, .int .i64 r.long, .int .u32 (r.sum : Nat), .int .u64 (r.next : Nat)]), (w.heap.size, 31, #[.slice A4 Wd.dry.length c4, .slice B4 Wd.wet.length e4, .int .i64 Wd.left])] [(w1.heap.size, w2.heap.size, .agg #[.slice A4 Wd.dry.length c4, .slice B4 Wd.wet.length e4, .int .i64 Wd.left], Wd)] [(0, w3.heap.size, .slice A5 32 c5, octs r)] := (unhide X4).call b4
       have Y4d : Gx w w4 [(w.heap.size + 1, 27, #[.int .u64 (o.gen : Nat), .int .i64 o.at_, .int .i64 o.len, .int .i64 o.long, .int .u32 (o.sum : Nat), .int .u64 (o.next : Nat)]), (w.heap.size + 2, 27, #[.int .u64 (r.gen : Nat), .int .i64 r.at_, .int .i64 r.len, .int .i64 r.long, .int .u32 (r.sum : Nat), .int .u64 (r.next : Nat)]), (w.heap.size, 31, #[.slice A4 Wd.dry.length c4, .slice B4 Wd.wet.length e4, .int .i64 Wd.left])] [(w1.heap.size, w2.heap.size, .agg #[.slice A4 Wd.dry.length c4, .slice B4 Wd.wet.length e4, .int .i64 Wd.left], Wd), (0, w4.heap.size, .agg #[.slice A6 X.dry.length c6, .slice B6 X.wet.length e6, .int .i64 X.left], X)] [(0, w3.heap.size, .slice A5 32 c5, octs r)] := Y4.addD (x6.mono (Nat.zero_le _) (Nat.le_refl _))
       clear ca0_0 ca0_1 ca0_2 ca0_3 ca0_4 ca0_5 q0 ca1_0 ca1_1 ca1_2 ca1_3 ca1_4 ca1_5 q1 ca2_0 ca2_1 ca2_2 q2
       obtain ⟨ca0_0, ca0_1, ca0_2, ca0_3, ca0_4, ca0_5⟩ := zk6 (Y4d.get 0 rfl)
       have q0 := (Y4d.get 0 rfl).lt
       obtain ⟨ca1_0, ca1_1, ca1_2, ca1_3, ca1_4, ca1_5⟩ := zk6 (Y4d.get 1 rfl)
       have q1 := (Y4d.get 1 rfl).lt
       obtain ⟨ca2_0, ca2_1, ca2_2⟩ := ck3 (Y4d.get 2 rfl)
       have q2 := (Y4d.get 2 rfl).lt
       have Y4db : Gx w (w4.alloc (.cells #[.slice A6 X.dry.length c6, .slice B6 X.wet.length e6, .int .i64 X.left] 31)) [(w.heap.size + 1, 27, #[.int .u64 (o.gen : Nat), .int .i64 o.at_, .int .i64 o.len, .int .i64 o.long, .int .u32 (o.sum : Nat), .int .u64 (o.next : Nat)]), (w.heap.size + 2, 27, #[.int .u64 (r.gen : Nat), .int .i64 r.at_, .int .i64 r.len, .int .i64 r.long, .int .u32 (r.sum : Nat), .int .u64 (r.next : Nat)]), (w.heap.size, 31, #[.slice A4 Wd.dry.length c4, .slice B4 Wd.wet.length e4, .int .i64 Wd.left]), (w4.heap.size, 31, #[.slice A6 X.dry.length c6, .slice B6 X.wet.length e6, .int .i64 X.left])] [(w1.heap.size, w2.heap.size, .agg #[.slice A4 Wd.dry.length c4, .slice B4 Wd.wet.length e4, .int .i64 Wd.left], Wd), (0, w4.heap.size, .agg #[.slice A6 X.dry.length c6, .slice B6 X.wet.length e6, .int .i64 X.left], X)] [(0, w3.heap.size, .slice A5 32 c5, octs r)] := Y4d.newB (w4.heap.size) rfl 31 #[.slice A6 X.dry.length c6, .slice B6 X.wet.length e6, .int .i64 X.left]
       have X5 := hide Y4db
       clear X4 b4 Y4 Y4d Y4db)
    | (have _t := tk5; clear tk5 _t; go_at_call 24; have XM := hide ((unhide X5).newB (w4.heap.size + 1) (by simp) 5 #[.int .u8 (m.toNat : Int)]); refine (unhide hCr _ _ _ _ (unhide XM).bl ((unhide XM).dr 1 rfl) (one_mask ((unhide XM).get 4 rfl))).mono ?_; rintro e w5 ⟨A7, c7, B7, e7, rfl, x7, b5⟩
       have Y5 : Gx w w5 [(w.heap.size + 1, 27, #[.int .u64 (o.gen : Nat), .int .i64 o.at_, .int .i64 o.len, .int .i64 o.long, .int .u32 (o.sum : Nat), .int .u64 (o.next : Nat)]), (w.heap.size + 2, 27, #[.int .u64 (r.gen : Nat), .int .i64 r.at_, .int .i64 r.len, .int .i64 r.long, .int .u32 (r.sum : Nat), .int .u64 (r.next : Nat)]), (w.heap.size, 31, #[.slice A4 Wd.dry.length c4, .slice B4 Wd.wet.length e4, .int .i64 Wd.left]), (w4.heap.size, 31, #[.slice A6 X.dry.length c6, .slice B6 X.wet.length e6, .int .i64 X.left]), (w4.heap.size + 1, 5, #[.int .u8 (m.toNat : Int)])] [(w1.heap.size, w2.heap.size, .agg #[.slice A4 Wd.dry.length c4, .slice B4 Wd.wet.length e4, .int .i64 Wd.left], Wd), (0, w4.heap.size, .agg #[.slice A6 X.dry.length c6, .slice B6 X.wet.length e6, .int .i64 X.left], X)] [(0, w3.heap.size, .slice A5 32 c5, octs r)] := (unhide XM).call b5
       have Y5d : Gx w w5 [(w.heap.size + 1, 27, #[.int .u64 (o.gen : Nat), .int .i64 o.at_, .int .i64 o.len, .int .i64 o.long, .int .u32 (o.sum : Nat), .int .u64 (o.next : Nat)]), (w.heap.size + 2, 27, #[.int .u64 (r.gen : Nat), .int .i64 r.at_, .int .i64 r.len, .int .i64 r.long, .int .u32 (r.sum : Nat), .int .u64 (r.next : Nat)]), (w.heap.size, 31, #[.slice A4 Wd.dry.length c4, .slice B4 Wd.wet.length e4, .int .i64 Wd.left]), (w4.heap.size, 31, #[.slice A6 X.dry.length c6, .slice B6 X.wet.length e6, .int .i64 X.left]), (w4.heap.size + 1, 5, #[.int .u8 (m.toNat : Int)])] [(w1.heap.size, w2.heap.size, .agg #[.slice A4 Wd.dry.length c4, .slice B4 Wd.wet.length e4, .int .i64 Wd.left], Wd), (0, w4.heap.size, .agg #[.slice A6 X.dry.length c6, .slice B6 X.wet.length e6, .int .i64 X.left], X), (0, w5.heap.size, .agg #[.slice A7 C.dry.length c7, .slice B7 C.wet.length e7, .int .i64 C.left], C)] [(0, w3.heap.size, .slice A5 32 c5, octs r)] := Y5.addD (x7.mono (Nat.zero_le _) (Nat.le_refl _))
       clear ca0_0 ca0_1 ca0_2 ca0_3 ca0_4 ca0_5 q0 ca1_0 ca1_1 ca1_2 ca1_3 ca1_4 ca1_5 q1 ca2_0 ca2_1 ca2_2 q2
       obtain ⟨ca0_0, ca0_1, ca0_2, ca0_3, ca0_4, ca0_5⟩ := zk6 (Y5d.get 0 rfl)
       have q0 := (Y5d.get 0 rfl).lt
       obtain ⟨ca1_0, ca1_1, ca1_2, ca1_3, ca1_4, ca1_5⟩ := zk6 (Y5d.get 1 rfl)
       have q1 := (Y5d.get 1 rfl).lt
       obtain ⟨ca2_0, ca2_1, ca2_2⟩ := ck3 (Y5d.get 2 rfl)
       have q2 := (Y5d.get 2 rfl).lt
       obtain ⟨ca3_0, ca3_1, ca3_2⟩ := ck3 (Y5d.get 3 rfl)
       have q3 := (Y5d.get 3 rfl).lt
       have Y5dc := Y5d.sub (L' := [(w.heap.size + 1, 27, #[.int .u64 (o.gen : Nat), .int .i64 o.at_, .int .i64 o.len, .int .i64 o.long, .int .u32 (o.sum : Nat), .int .u64 (o.next : Nat)]), (w.heap.size + 2, 27, #[.int .u64 (r.gen : Nat), .int .i64 r.at_, .int .i64 r.len, .int .i64 r.long, .int .u32 (r.sum : Nat), .int .u64 (r.next : Nat)]), (w.heap.size, 31, #[.slice A4 Wd.dry.length c4, .slice B4 Wd.wet.length e4, .int .i64 Wd.left]), (w4.heap.size, 31, #[.slice A6 X.dry.length c6, .slice B6 X.wet.length e6, .int .i64 X.left])]) (by simp) (fun _ h => h) (fun _ h => h)
       have Y5db : Gx w (w5.alloc (.cells #[.slice A7 C.dry.length c7, .slice B7 C.wet.length e7, .int .i64 C.left] 31)) [(w.heap.size + 1, 27, #[.int .u64 (o.gen : Nat), .int .i64 o.at_, .int .i64 o.len, .int .i64 o.long, .int .u32 (o.sum : Nat), .int .u64 (o.next : Nat)]), (w.heap.size + 2, 27, #[.int .u64 (r.gen : Nat), .int .i64 r.at_, .int .i64 r.len, .int .i64 r.long, .int .u32 (r.sum : Nat), .int .u64 (r.next : Nat)]), (w.heap.size, 31, #[.slice A4 Wd.dry.length c4, .slice B4 Wd.wet.length e4, .int .i64 Wd.left]), (w4.heap.size, 31, #[.slice A6 X.dry.length c6, .slice B6 X.wet.length e6, .int .i64 X.left]), (w5.heap.size, 31, #[.slice A7 C.dry.length c7, .slice B7 C.wet.length e7, .int .i64 C.left])] [(w1.heap.size, w2.heap.size, .agg #[.slice A4 Wd.dry.length c4, .slice B4 Wd.wet.length e4, .int .i64 Wd.left], Wd), (0, w4.heap.size, .agg #[.slice A6 X.dry.length c6, .slice B6 X.wet.length e6, .int .i64 X.left], X), (0, w5.heap.size, .agg #[.slice A7 C.dry.length c7, .slice B7 C.wet.length e7, .int .i64 C.left], C)] [(0, w3.heap.size, .slice A5 32 c5, octs r)] := Y5dc.newB (w5.heap.size) rfl 31 #[.slice A7 C.dry.length c7, .slice B7 C.wet.length e7, .int .i64 C.left]
       have X6 := hide Y5db
       clear XM Y5dc X5 b5 Y5 Y5d Y5db)
    | (have _t := tk6; clear tk6 _t; go_at_call 25; refine (unhide hR1 _ _ _ (unhide X6).bl ((unhide X6).dr 2 rfl)).mono ?_; rintro e w6 ⟨A8, c8, rfl, x8, b6⟩
       have Y6 : Gx w w6 [(w.heap.size + 1, 27, #[.int .u64 (o.gen : Nat), .int .i64 o.at_, .int .i64 o.len, .int .i64 o.long, .int .u32 (o.sum : Nat), .int .u64 (o.next : Nat)]), (w.heap.size + 2, 27, #[.int .u64 (r.gen : Nat), .int .i64 r.at_, .int .i64 r.len, .int .i64 r.long, .int .u32 (r.sum : Nat), .int .u64 (r.next : Nat)]), (w.heap.size, 31, #[.slice A4 Wd.dry.length c4, .slice B4 Wd.wet.length e4, .int .i64 Wd.left]), (w4.heap.size, 31, #[.slice A6 X.dry.length c6, .slice B6 X.wet.length e6, .int .i64 X.left]), (w5.heap.size, 31, #[.slice A7 C.dry.length c7, .slice B7 C.wet.length e7, .int .i64 C.left])] [(w1.heap.size, w2.heap.size, .agg #[.slice A4 Wd.dry.length c4, .slice B4 Wd.wet.length e4, .int .i64 Wd.left], Wd), (0, w4.heap.size, .agg #[.slice A6 X.dry.length c6, .slice B6 X.wet.length e6, .int .i64 X.left], X), (0, w5.heap.size, .agg #[.slice A7 C.dry.length c7, .slice B7 C.wet.length e7, .int .i64 C.left], C)] [(0, w3.heap.size, .slice A5 32 c5, octs r)] := (unhide X6).call b6
       have Y6z : Gx w w6 [(w.heap.size + 1, 27, #[.int .u64 (o.gen : Nat), .int .i64 o.at_, .int .i64 o.len, .int .i64 o.long, .int .u32 (o.sum : Nat), .int .u64 (o.next : Nat)]), (w.heap.size + 2, 27, #[.int .u64 (r.gen : Nat), .int .i64 r.at_, .int .i64 r.len, .int .i64 r.long, .int .u32 (r.sum : Nat), .int .u64 (r.next : Nat)]), (w.heap.size, 31, #[.slice A4 Wd.dry.length c4, .slice B4 Wd.wet.length e4, .int .i64 Wd.left]), (w4.heap.size, 31, #[.slice A6 X.dry.length c6, .slice B6 X.wet.length e6, .int .i64 X.left]), (w5.heap.size, 31, #[.slice A7 C.dry.length c7, .slice B7 C.wet.length e7, .int .i64 C.left])] [(w1.heap.size, w2.heap.size, .agg #[.slice A4 Wd.dry.length c4, .slice B4 Wd.wet.length e4, .int .i64 Wd.left], Wd), (0, w4.heap.size, .agg #[.slice A6 X.dry.length c6, .slice B6 X.wet.length e6, .int .i64 X.left], X), (0, w5.heap.size, .agg #[.slice A7 C.dry.length c7, .slice B7 C.wet.length e7, .int .i64 C.left], C)] [(0, w3.heap.size, .slice A5 32 c5, octs r), (0, w6.heap.size, .slice A8 z1.length c8, z1)] := Y6.addZ (x8.mono (Nat.zero_le _) (Nat.le_refl _))
       clear ca0_0 ca0_1 ca0_2 ca0_3 ca0_4 ca0_5 q0 ca1_0 ca1_1 ca1_2 ca1_3 ca1_4 ca1_5 q1 ca2_0 ca2_1 ca2_2 q2 ca3_0 ca3_1 ca3_2 q3
       obtain ⟨ca0_0, ca0_1, ca0_2, ca0_3, ca0_4, ca0_5⟩ := zk6 (Y6z.get 0 rfl)
       have q0 := (Y6z.get 0 rfl).lt
       obtain ⟨ca1_0, ca1_1, ca1_2, ca1_3, ca1_4, ca1_5⟩ := zk6 (Y6z.get 1 rfl)
       have q1 := (Y6z.get 1 rfl).lt
       obtain ⟨ca2_0, ca2_1, ca2_2⟩ := ck3 (Y6z.get 2 rfl)
       have q2 := (Y6z.get 2 rfl).lt
       obtain ⟨ca3_0, ca3_1, ca3_2⟩ := ck3 (Y6z.get 3 rfl)
       have q3 := (Y6z.get 3 rfl).lt
       obtain ⟨ca4_0, ca4_1, ca4_2⟩ := ck3 (Y6z.get 4 rfl)
       have q4 := (Y6z.get 4 rfl).lt
       have X7 := hide Y6z
       clear X6 b6 Y6 Y6z)
    | (have _t := tk7; clear tk7 _t; go_at_call 13; refine (unhide hO1 _ _ (unhide X7).bl ((unhide X7).rd 1 rfl)).mono ?_; rintro e w7 ⟨rfl, b7⟩
       have Y7 : Gx w w7 [(w.heap.size + 1, 27, #[.int .u64 (o.gen : Nat), .int .i64 o.at_, .int .i64 o.len, .int .i64 o.long, .int .u32 (o.sum : Nat), .int .u64 (o.next : Nat)]), (w.heap.size + 2, 27, #[.int .u64 (r.gen : Nat), .int .i64 r.at_, .int .i64 r.len, .int .i64 r.long, .int .u32 (r.sum : Nat), .int .u64 (r.next : Nat)]), (w.heap.size, 31, #[.slice A4 Wd.dry.length c4, .slice B4 Wd.wet.length e4, .int .i64 Wd.left]), (w4.heap.size, 31, #[.slice A6 X.dry.length c6, .slice B6 X.wet.length e6, .int .i64 X.left]), (w5.heap.size, 31, #[.slice A7 C.dry.length c7, .slice B7 C.wet.length e7, .int .i64 C.left])] [(w1.heap.size, w2.heap.size, .agg #[.slice A4 Wd.dry.length c4, .slice B4 Wd.wet.length e4, .int .i64 Wd.left], Wd), (0, w4.heap.size, .agg #[.slice A6 X.dry.length c6, .slice B6 X.wet.length e6, .int .i64 X.left], X), (0, w5.heap.size, .agg #[.slice A7 C.dry.length c7, .slice B7 C.wet.length e7, .int .i64 C.left], C)] [(0, w3.heap.size, .slice A5 32 c5, octs r), (0, w6.heap.size, .slice A8 z1.length c8, z1)] := (unhide X7).call b7
       clear ca0_0 ca0_1 ca0_2 ca0_3 ca0_4 ca0_5 q0 ca1_0 ca1_1 ca1_2 ca1_3 ca1_4 ca1_5 q1 ca2_0 ca2_1 ca2_2 q2 ca3_0 ca3_1 ca3_2 q3 ca4_0 ca4_1 ca4_2 q4
       obtain ⟨ca0_0, ca0_1, ca0_2, ca0_3, ca0_4, ca0_5⟩ := zk6 (Y7.get 0 rfl)
       have q0 := (Y7.get 0 rfl).lt
       obtain ⟨ca1_0, ca1_1, ca1_2, ca1_3, ca1_4, ca1_5⟩ := zk6 (Y7.get 1 rfl)
       have q1 := (Y7.get 1 rfl).lt
       obtain ⟨ca2_0, ca2_1, ca2_2⟩ := ck3 (Y7.get 2 rfl)
       have q2 := (Y7.get 2 rfl).lt
       obtain ⟨ca3_0, ca3_1, ca3_2⟩ := ck3 (Y7.get 3 rfl)
       have q3 := (Y7.get 3 rfl).lt
       obtain ⟨ca4_0, ca4_1, ca4_2⟩ := ck3 (Y7.get 4 rfl)
       have q4 := (Y7.get 4 rfl).lt
       have Y7b : Gx w (w7.alloc (.cells #[.int .u64 (r.gen : Nat), .int .i64 r.at_, .int .i64 r.len, .int .i64 r.long, .int .u32 (r.sum : Nat), .int .u64 (r.next : Nat)] 27)) [(w.heap.size + 1, 27, #[.int .u64 (o.gen : Nat), .int .i64 o.at_, .int .i64 o.len, .int .i64 o.long, .int .u32 (o.sum : Nat), .int .u64 (o.next : Nat)]), (w.heap.size + 2, 27, #[.int .u64 (r.gen : Nat), .int .i64 r.at_, .int .i64 r.len, .int .i64 r.long, .int .u32 (r.sum : Nat), .int .u64 (r.next : Nat)]), (w.heap.size, 31, #[.slice A4 Wd.dry.length c4, .slice B4 Wd.wet.length e4, .int .i64 Wd.left]), (w4.heap.size, 31, #[.slice A6 X.dry.length c6, .slice B6 X.wet.length e6, .int .i64 X.left]), (w5.heap.size, 31, #[.slice A7 C.dry.length c7, .slice B7 C.wet.length e7, .int .i64 C.left]), (w7.heap.size, 27, #[.int .u64 (r.gen : Nat), .int .i64 r.at_, .int .i64 r.len, .int .i64 r.long, .int .u32 (r.sum : Nat), .int .u64 (r.next : Nat)])] [(w1.heap.size, w2.heap.size, .agg #[.slice A4 Wd.dry.length c4, .slice B4 Wd.wet.length e4, .int .i64 Wd.left], Wd), (0, w4.heap.size, .agg #[.slice A6 X.dry.length c6, .slice B6 X.wet.length e6, .int .i64 X.left], X), (0, w5.heap.size, .agg #[.slice A7 C.dry.length c7, .slice B7 C.wet.length e7, .int .i64 C.left], C)] [(0, w3.heap.size, .slice A5 32 c5, octs r), (0, w6.heap.size, .slice A8 z1.length c8, z1)] := Y7.newB (w7.heap.size) rfl 27 #[.int .u64 (r.gen : Nat), .int .i64 r.at_, .int .i64 r.len, .int .i64 r.long, .int .u32 (r.sum : Nat), .int .u64 (r.next : Nat)]
       have X8 := hide Y7b
       clear X7 b7 Y7 Y7b)
    | (have _t := tk8; clear tk8 _t; go_at_call 17; refine (unhide hF _ _ _ (unhide X8).bl ((unhide X8).dr 2 rfl)).mono ?_; rintro e w8 ⟨rfl, b8⟩
       have Y8 : Gx w w8 [(w.heap.size + 1, 27, #[.int .u64 (o.gen : Nat), .int .i64 o.at_, .int .i64 o.len, .int .i64 o.long, .int .u32 (o.sum : Nat), .int .u64 (o.next : Nat)]), (w.heap.size + 2, 27, #[.int .u64 (r.gen : Nat), .int .i64 r.at_, .int .i64 r.len, .int .i64 r.long, .int .u32 (r.sum : Nat), .int .u64 (r.next : Nat)]), (w.heap.size, 31, #[.slice A4 Wd.dry.length c4, .slice B4 Wd.wet.length e4, .int .i64 Wd.left]), (w4.heap.size, 31, #[.slice A6 X.dry.length c6, .slice B6 X.wet.length e6, .int .i64 X.left]), (w5.heap.size, 31, #[.slice A7 C.dry.length c7, .slice B7 C.wet.length e7, .int .i64 C.left]), (w7.heap.size, 27, #[.int .u64 (r.gen : Nat), .int .i64 r.at_, .int .i64 r.len, .int .i64 r.long, .int .u32 (r.sum : Nat), .int .u64 (r.next : Nat)])] [(w1.heap.size, w2.heap.size, .agg #[.slice A4 Wd.dry.length c4, .slice B4 Wd.wet.length e4, .int .i64 Wd.left], Wd), (0, w4.heap.size, .agg #[.slice A6 X.dry.length c6, .slice B6 X.wet.length e6, .int .i64 X.left], X), (0, w5.heap.size, .agg #[.slice A7 C.dry.length c7, .slice B7 C.wet.length e7, .int .i64 C.left], C)] [(0, w3.heap.size, .slice A5 32 c5, octs r), (0, w6.heap.size, .slice A8 z1.length c8, z1)] := (unhide X8).call b8
       clear ca0_0 ca0_1 ca0_2 ca0_3 ca0_4 ca0_5 q0 ca1_0 ca1_1 ca1_2 ca1_3 ca1_4 ca1_5 q1 ca2_0 ca2_1 ca2_2 q2 ca3_0 ca3_1 ca3_2 q3 ca4_0 ca4_1 ca4_2 q4
       obtain ⟨ca0_0, ca0_1, ca0_2, ca0_3, ca0_4, ca0_5⟩ := zk6 (Y8.get 0 rfl)
       have q0 := (Y8.get 0 rfl).lt
       obtain ⟨ca1_0, ca1_1, ca1_2, ca1_3, ca1_4, ca1_5⟩ := zk6 (Y8.get 1 rfl)
       have q1 := (Y8.get 1 rfl).lt
       obtain ⟨ca2_0, ca2_1, ca2_2⟩ := ck3 (Y8.get 2 rfl)
       have q2 := (Y8.get 2 rfl).lt
       obtain ⟨ca3_0, ca3_1, ca3_2⟩ := ck3 (Y8.get 3 rfl)
       have q3 := (Y8.get 3 rfl).lt
       obtain ⟨ca4_0, ca4_1, ca4_2⟩ := ck3 (Y8.get 4 rfl)
       have q4 := (Y8.get 4 rfl).lt
       obtain ⟨ca5_0, ca5_1, ca5_2, ca5_3, ca5_4, ca5_5⟩ := zk6 (Y8.get 5 rfl)
       have q5 := (Y8.get 5 rfl).lt
       have Y8b : Gx w (w8.alloc (.cells #[.int .u64 (p.gen : Nat), .int .i64 p.at_, .int .i64 p.len, .int .i64 p.long, .int .u32 (p.sum : Nat), .int .u64 (p.next : Nat)] 27)) [(w.heap.size + 1, 27, #[.int .u64 (o.gen : Nat), .int .i64 o.at_, .int .i64 o.len, .int .i64 o.long, .int .u32 (o.sum : Nat), .int .u64 (o.next : Nat)]), (w.heap.size + 2, 27, #[.int .u64 (r.gen : Nat), .int .i64 r.at_, .int .i64 r.len, .int .i64 r.long, .int .u32 (r.sum : Nat), .int .u64 (r.next : Nat)]), (w.heap.size, 31, #[.slice A4 Wd.dry.length c4, .slice B4 Wd.wet.length e4, .int .i64 Wd.left]), (w4.heap.size, 31, #[.slice A6 X.dry.length c6, .slice B6 X.wet.length e6, .int .i64 X.left]), (w5.heap.size, 31, #[.slice A7 C.dry.length c7, .slice B7 C.wet.length e7, .int .i64 C.left]), (w7.heap.size, 27, #[.int .u64 (r.gen : Nat), .int .i64 r.at_, .int .i64 r.len, .int .i64 r.long, .int .u32 (r.sum : Nat), .int .u64 (r.next : Nat)]), (w8.heap.size, 27, #[.int .u64 (p.gen : Nat), .int .i64 p.at_, .int .i64 p.len, .int .i64 p.long, .int .u32 (p.sum : Nat), .int .u64 (p.next : Nat)])] [(w1.heap.size, w2.heap.size, .agg #[.slice A4 Wd.dry.length c4, .slice B4 Wd.wet.length e4, .int .i64 Wd.left], Wd), (0, w4.heap.size, .agg #[.slice A6 X.dry.length c6, .slice B6 X.wet.length e6, .int .i64 X.left], X), (0, w5.heap.size, .agg #[.slice A7 C.dry.length c7, .slice B7 C.wet.length e7, .int .i64 C.left], C)] [(0, w3.heap.size, .slice A5 32 c5, octs r), (0, w6.heap.size, .slice A8 z1.length c8, z1)] := Y8.newB (w8.heap.size) rfl 27 #[.int .u64 (p.gen : Nat), .int .i64 p.at_, .int .i64 p.len, .int .i64 p.long, .int .u32 (p.sum : Nat), .int .u64 (p.next : Nat)]
       have X9 := hide Y8b
       clear X8 b8 Y8 Y8b)
    | (have _t := tk9; clear tk9 _t; go_at_call 25; refine (unhide hR2 _ _ _ (unhide X9).bl ((unhide X9).dr 2 rfl)).mono ?_; rintro e w9 ⟨A3, c3, rfl, x3, b9⟩
       have Y9 : Gx w w9 [(w.heap.size + 1, 27, #[.int .u64 (o.gen : Nat), .int .i64 o.at_, .int .i64 o.len, .int .i64 o.long, .int .u32 (o.sum : Nat), .int .u64 (o.next : Nat)]), (w.heap.size + 2, 27, #[.int .u64 (r.gen : Nat), .int .i64 r.at_, .int .i64 r.len, .int .i64 r.long, .int .u32 (r.sum : Nat), .int .u64 (r.next : Nat)]), (w.heap.size, 31, #[.slice A4 Wd.dry.length c4, .slice B4 Wd.wet.length e4, .int .i64 Wd.left]), (w4.heap.size, 31, #[.slice A6 X.dry.length c6, .slice B6 X.wet.length e6, .int .i64 X.left]), (w5.heap.size, 31, #[.slice A7 C.dry.length c7, .slice B7 C.wet.length e7, .int .i64 C.left]), (w7.heap.size, 27, #[.int .u64 (r.gen : Nat), .int .i64 r.at_, .int .i64 r.len, .int .i64 r.long, .int .u32 (r.sum : Nat), .int .u64 (r.next : Nat)]), (w8.heap.size, 27, #[.int .u64 (p.gen : Nat), .int .i64 p.at_, .int .i64 p.len, .int .i64 p.long, .int .u32 (p.sum : Nat), .int .u64 (p.next : Nat)])] [(w1.heap.size, w2.heap.size, .agg #[.slice A4 Wd.dry.length c4, .slice B4 Wd.wet.length e4, .int .i64 Wd.left], Wd), (0, w4.heap.size, .agg #[.slice A6 X.dry.length c6, .slice B6 X.wet.length e6, .int .i64 X.left], X), (0, w5.heap.size, .agg #[.slice A7 C.dry.length c7, .slice B7 C.wet.length e7, .int .i64 C.left], C)] [(0, w3.heap.size, .slice A5 32 c5, octs r), (0, w6.heap.size, .slice A8 z1.length c8, z1)] := (unhide X9).call b9
       have Y9z : Gx w w9 [(w.heap.size + 1, 27, #[.int .u64 (o.gen : Nat), .int .i64 o.at_, .int .i64 o.len, .int .i64 o.long, .int .u32 (o.sum : Nat), .int .u64 (o.next : Nat)]), (w.heap.size + 2, 27, #[.int .u64 (r.gen : Nat), .int .i64 r.at_, .int .i64 r.len, .int .i64 r.long, .int .u32 (r.sum : Nat), .int .u64 (r.next : Nat)]), (w.heap.size, 31, #[.slice A4 Wd.dry.length c4, .slice B4 Wd.wet.length e4, .int .i64 Wd.left]), (w4.heap.size, 31, #[.slice A6 X.dry.length c6, .slice B6 X.wet.length e6, .int .i64 X.left]), (w5.heap.size, 31, #[.slice A7 C.dry.length c7, .slice B7 C.wet.length e7, .int .i64 C.left]), (w7.heap.size, 27, #[.int .u64 (r.gen : Nat), .int .i64 r.at_, .int .i64 r.len, .int .i64 r.long, .int .u32 (r.sum : Nat), .int .u64 (r.next : Nat)]), (w8.heap.size, 27, #[.int .u64 (p.gen : Nat), .int .i64 p.at_, .int .i64 p.len, .int .i64 p.long, .int .u32 (p.sum : Nat), .int .u64 (p.next : Nat)])] [(w1.heap.size, w2.heap.size, .agg #[.slice A4 Wd.dry.length c4, .slice B4 Wd.wet.length e4, .int .i64 Wd.left], Wd), (0, w4.heap.size, .agg #[.slice A6 X.dry.length c6, .slice B6 X.wet.length e6, .int .i64 X.left], X), (0, w5.heap.size, .agg #[.slice A7 C.dry.length c7, .slice B7 C.wet.length e7, .int .i64 C.left], C)] [(0, w3.heap.size, .slice A5 32 c5, octs r), (0, w6.heap.size, .slice A8 z1.length c8, z1), (0, w9.heap.size, .slice A3 z2.length c3, z2)] := Y9.addZ (x3.mono (Nat.zero_le _) (Nat.le_refl _))
       clear ca0_0 ca0_1 ca0_2 ca0_3 ca0_4 ca0_5 q0 ca1_0 ca1_1 ca1_2 ca1_3 ca1_4 ca1_5 q1 ca2_0 ca2_1 ca2_2 q2 ca3_0 ca3_1 ca3_2 q3 ca4_0 ca4_1 ca4_2 q4 ca5_0 ca5_1 ca5_2 ca5_3 ca5_4 ca5_5 q5
       obtain ⟨ca0_0, ca0_1, ca0_2, ca0_3, ca0_4, ca0_5⟩ := zk6 (Y9z.get 0 rfl)
       have q0 := (Y9z.get 0 rfl).lt
       obtain ⟨ca1_0, ca1_1, ca1_2, ca1_3, ca1_4, ca1_5⟩ := zk6 (Y9z.get 1 rfl)
       have q1 := (Y9z.get 1 rfl).lt
       obtain ⟨ca2_0, ca2_1, ca2_2⟩ := ck3 (Y9z.get 2 rfl)
       have q2 := (Y9z.get 2 rfl).lt
       obtain ⟨ca3_0, ca3_1, ca3_2⟩ := ck3 (Y9z.get 3 rfl)
       have q3 := (Y9z.get 3 rfl).lt
       obtain ⟨ca4_0, ca4_1, ca4_2⟩ := ck3 (Y9z.get 4 rfl)
       have q4 := (Y9z.get 4 rfl).lt
       obtain ⟨ca5_0, ca5_1, ca5_2, ca5_3, ca5_4, ca5_5⟩ := zk6 (Y9z.get 5 rfl)
       have q5 := (Y9z.get 5 rfl).lt
       obtain ⟨ca6_0, ca6_1, ca6_2, ca6_3, ca6_4, ca6_5⟩ := zk6 (Y9z.get 6 rfl)
       have q6 := (Y9z.get 6 rfl).lt
       have X10 := hide Y9z
       clear X9 b9 Y9 Y9z)
    | (have _t := tk10; clear tk10 _t; go_at_call 13; refine (unhide hO2 _ _ (unhide X10).bl ((unhide X10).rd 2 rfl)).mono ?_; rintro e w10 ⟨rfl, b10⟩
       have Y10 : Gx w w10 [(w.heap.size + 1, 27, #[.int .u64 (o.gen : Nat), .int .i64 o.at_, .int .i64 o.len, .int .i64 o.long, .int .u32 (o.sum : Nat), .int .u64 (o.next : Nat)]), (w.heap.size + 2, 27, #[.int .u64 (r.gen : Nat), .int .i64 r.at_, .int .i64 r.len, .int .i64 r.long, .int .u32 (r.sum : Nat), .int .u64 (r.next : Nat)]), (w.heap.size, 31, #[.slice A4 Wd.dry.length c4, .slice B4 Wd.wet.length e4, .int .i64 Wd.left]), (w4.heap.size, 31, #[.slice A6 X.dry.length c6, .slice B6 X.wet.length e6, .int .i64 X.left]), (w5.heap.size, 31, #[.slice A7 C.dry.length c7, .slice B7 C.wet.length e7, .int .i64 C.left]), (w7.heap.size, 27, #[.int .u64 (r.gen : Nat), .int .i64 r.at_, .int .i64 r.len, .int .i64 r.long, .int .u32 (r.sum : Nat), .int .u64 (r.next : Nat)]), (w8.heap.size, 27, #[.int .u64 (p.gen : Nat), .int .i64 p.at_, .int .i64 p.len, .int .i64 p.long, .int .u32 (p.sum : Nat), .int .u64 (p.next : Nat)])] [(w1.heap.size, w2.heap.size, .agg #[.slice A4 Wd.dry.length c4, .slice B4 Wd.wet.length e4, .int .i64 Wd.left], Wd), (0, w4.heap.size, .agg #[.slice A6 X.dry.length c6, .slice B6 X.wet.length e6, .int .i64 X.left], X), (0, w5.heap.size, .agg #[.slice A7 C.dry.length c7, .slice B7 C.wet.length e7, .int .i64 C.left], C)] [(0, w3.heap.size, .slice A5 32 c5, octs r), (0, w6.heap.size, .slice A8 z1.length c8, z1), (0, w9.heap.size, .slice A3 z2.length c3, z2)] := (unhide X10).call b10
       clear ca0_0 ca0_1 ca0_2 ca0_3 ca0_4 ca0_5 q0 ca1_0 ca1_1 ca1_2 ca1_3 ca1_4 ca1_5 q1 ca2_0 ca2_1 ca2_2 q2 ca3_0 ca3_1 ca3_2 q3 ca4_0 ca4_1 ca4_2 q4 ca5_0 ca5_1 ca5_2 ca5_3 ca5_4 ca5_5 q5 ca6_0 ca6_1 ca6_2 ca6_3 ca6_4 ca6_5 q6
       obtain ⟨ca0_0, ca0_1, ca0_2, ca0_3, ca0_4, ca0_5⟩ := zk6 (Y10.get 0 rfl)
       have q0 := (Y10.get 0 rfl).lt
       obtain ⟨ca1_0, ca1_1, ca1_2, ca1_3, ca1_4, ca1_5⟩ := zk6 (Y10.get 1 rfl)
       have q1 := (Y10.get 1 rfl).lt
       obtain ⟨ca2_0, ca2_1, ca2_2⟩ := ck3 (Y10.get 2 rfl)
       have q2 := (Y10.get 2 rfl).lt
       obtain ⟨ca3_0, ca3_1, ca3_2⟩ := ck3 (Y10.get 3 rfl)
       have q3 := (Y10.get 3 rfl).lt
       obtain ⟨ca4_0, ca4_1, ca4_2⟩ := ck3 (Y10.get 4 rfl)
       have q4 := (Y10.get 4 rfl).lt
       obtain ⟨ca5_0, ca5_1, ca5_2, ca5_3, ca5_4, ca5_5⟩ := zk6 (Y10.get 5 rfl)
       have q5 := (Y10.get 5 rfl).lt
       obtain ⟨ca6_0, ca6_1, ca6_2, ca6_3, ca6_4, ca6_5⟩ := zk6 (Y10.get 6 rfl)
       have q6 := (Y10.get 6 rfl).lt
       have Y10b : Gx w (w10.alloc (.cells #[.int .u64 (p.gen : Nat), .int .i64 p.at_, .int .i64 p.len, .int .i64 p.long, .int .u32 (p.sum : Nat), .int .u64 (p.next : Nat)] 27)) [(w.heap.size + 1, 27, #[.int .u64 (o.gen : Nat), .int .i64 o.at_, .int .i64 o.len, .int .i64 o.long, .int .u32 (o.sum : Nat), .int .u64 (o.next : Nat)]), (w.heap.size + 2, 27, #[.int .u64 (r.gen : Nat), .int .i64 r.at_, .int .i64 r.len, .int .i64 r.long, .int .u32 (r.sum : Nat), .int .u64 (r.next : Nat)]), (w.heap.size, 31, #[.slice A4 Wd.dry.length c4, .slice B4 Wd.wet.length e4, .int .i64 Wd.left]), (w4.heap.size, 31, #[.slice A6 X.dry.length c6, .slice B6 X.wet.length e6, .int .i64 X.left]), (w5.heap.size, 31, #[.slice A7 C.dry.length c7, .slice B7 C.wet.length e7, .int .i64 C.left]), (w7.heap.size, 27, #[.int .u64 (r.gen : Nat), .int .i64 r.at_, .int .i64 r.len, .int .i64 r.long, .int .u32 (r.sum : Nat), .int .u64 (r.next : Nat)]), (w8.heap.size, 27, #[.int .u64 (p.gen : Nat), .int .i64 p.at_, .int .i64 p.len, .int .i64 p.long, .int .u32 (p.sum : Nat), .int .u64 (p.next : Nat)]), (w10.heap.size, 27, #[.int .u64 (p.gen : Nat), .int .i64 p.at_, .int .i64 p.len, .int .i64 p.long, .int .u32 (p.sum : Nat), .int .u64 (p.next : Nat)])] [(w1.heap.size, w2.heap.size, .agg #[.slice A4 Wd.dry.length c4, .slice B4 Wd.wet.length e4, .int .i64 Wd.left], Wd), (0, w4.heap.size, .agg #[.slice A6 X.dry.length c6, .slice B6 X.wet.length e6, .int .i64 X.left], X), (0, w5.heap.size, .agg #[.slice A7 C.dry.length c7, .slice B7 C.wet.length e7, .int .i64 C.left], C)] [(0, w3.heap.size, .slice A5 32 c5, octs r), (0, w6.heap.size, .slice A8 z1.length c8, z1), (0, w9.heap.size, .slice A3 z2.length c3, z2)] := Y10.newB (w10.heap.size) rfl 27 #[.int .u64 (p.gen : Nat), .int .i64 p.at_, .int .i64 p.len, .int .i64 p.long, .int .u32 (p.sum : Nat), .int .u64 (p.next : Nat)]
       have X11 := hide Y10b
       clear X10 b10 Y10 Y10b)
    | fail)
  go_ret
  exact ⟨ret_b rfl (by simp), (unhide X11).bl⟩
end
end Go.Proofs.YtommlgdolahfbaaDoor
