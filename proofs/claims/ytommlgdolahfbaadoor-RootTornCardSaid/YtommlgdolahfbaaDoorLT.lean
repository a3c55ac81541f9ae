import Derived.Test.YtommlgdolahfbaaDoorRQ
import Derived.Test.YtommlgdolahfbaaDoorLF
import Derived.Test.YtommlgdolahfbaaDoorLB
import Derived.Test.YtommlgdolahfbaaDoorW13
namespace Go.Proofs.YtommlgdolahfbaaDoor
set_option maxRecDepth 100000
open Go.RowKit

theorem Crash_form (lo : Nat) (v mv : Value) (d : Dk) (ms : List UInt8) (w : World) (h : Dsk lo w.heap.size w v d) (hm : Bs lo w.heap.size w mv ms) (hL : d.dry.length ≤ 1000000) (hW : d.wet.length ≤ 1000) :
    Calls Tryd.prog 24 #[v, mv] w fun e w' => ∃ A c B e', e = .returned (.tuple #[.agg #[.slice A (crD d ms).1.dry.length c, .slice B (crD d ms).1.wet.length e', .int .i64 (crD d ms).1.left], .int .i64 (crD d ms).2]) ∧ Dsk w.heap.size w'.heap.size w' (.agg #[.slice A (crD d ms).1.dry.length c, .slice B (crD d ms).1.wet.length e', .int .i64 (crD d ms).1.left]) (crD d ms).1 ∧ Below w.heap.size w w' :=
  (crash_any lo v mv d ms w h hm hL hW).mono fun e w' ⟨v', E, he, hx, hE, hb⟩ => by
    obtain ⟨A, c, B, e', rfl⟩ := hx.form
    exact ⟨A, c, B, e', by rw [he, hE], hx, hb⟩
theorem Read_form (lo : Nat) (v : Value) (d : Dk) (i : Nat) (w : World) (h : Dsk lo w.heap.size w v d) (hL : d.dry.length ≤ 1000000) (hW : d.wet.length ≤ 1000) (z : List UInt8) (hz : rdD d i = (z, 0)) :
    Calls Tryd.prog 25 #[v, .int .i64 (i : Nat)] w fun e w' => ∃ A c, e = .returned (.tuple #[.slice A z.length c, .int .i64 0]) ∧ Bs w.heap.size w'.heap.size w' (.slice A z.length c) z ∧ Below w.heap.size w w' := by
  refine (read_any lo v d i w h hL hW).mono fun e w' ⟨v', E, he, hx, hE, hb⟩ => ?_
  rw [hz] at hx hE
  have hx' := hx
  obtain ⟨A, c, rfl, _⟩ := hx'
  exact ⟨A, c, by rw [he, hE], hx, hb⟩
theorem one_mask {w : World} {g : Nat} {m : UInt8} (h : Blk w g 5 #[.int .u8 (m.toNat : Int)]) : Bs 0 w.heap.size w (.slice (some ⟨g, 0, none⟩) 1 1) [m] :=
  ⟨_, 1, rfl, Nat.le_refl _, by omega, fun _ => ⟨g, 0, rfl, Nat.zero_le _, h.lt, fun i hi => by
    obtain rfl : i = 0 := by simp at hi; omega
    rw [Nat.zero_add, h.cell]; rfl⟩⟩
section
attribute [-go_sem] run_eql_struct run_neq_struct
attribute [local go_sem] run_eql_rt run_neq_rt guardR
set_option maxHeartbeats 16000000 in
theorem torn_few (A A' : Option Addr) (c c' : Nat) (d : Dk) (o r : Rt) (m : UInt8) (w : World) (ht : Tab w) (h : Dsk 0 w.heap.size w (.agg #[.slice A d.dry.length c, .slice A' d.wet.length c', .int .i64 d.left]) d) (hw : fewB d = false) :
    Calls Tryd.prog 6 #[.agg #[.slice A d.dry.length c, .slice A' d.wet.length c', .int .i64 d.left], (.agg #[.int .u64 (o.gen : Nat), .int .i64 o.at_, .int .i64 o.len, .int .i64 o.long, .int .u32 (o.sum : Nat), .int .u64 (o.next : Nat)]), (.agg #[.int .u64 (r.gen : Nat), .int .i64 r.at_, .int .i64 r.len, .int .i64 r.long, .int .u32 (r.sum : Nat), .int .u64 (r.next : Nat)]), .int .u8 (m.toNat : Int)] w fun e w' => e = .returned (.bool true) ∧ Below w.heap.size w w' := by
  have hl := fun W (hB : Below w.heap.size w W) => live_any W (ht.below hB (Nat.le_refl _))
  have hf := fun W (hB : Below w.heap.size w W) => few_any 0 _ d W (h.grow hB)
  rw [hw] at hf
  generalize d.dry.length = n at *
  generalize d.wet.length = k at *
  generalize d.left = l at *
  have X0 : Gx w (((w.alloc (.cells #[.slice A n c, .slice A' k c', .int .i64 l] 31)).alloc (.cells #[.int .u64 (o.gen : Nat), .int .i64 o.at_, .int .i64 o.len, .int .i64 o.long, .int .u32 (o.sum : Nat), .int .u64 (o.next : Nat)] 27)).alloc (.cells #[.int .u64 (r.gen : Nat), .int .i64 r.at_, .int .i64 r.len, .int .i64 r.long, .int .u32 (r.sum : Nat), .int .u64 (r.next : Nat)] 27)) [(w.heap.size, 31, #[.slice A n c, .slice A' k c', .int .i64 l]), (w.heap.size + 1, 27, #[.int .u64 (o.gen : Nat), .int .i64 o.at_, .int .i64 o.len, .int .i64 o.long, .int .u32 (o.sum : Nat), .int .u64 (o.next : Nat)]), (w.heap.size + 2, 27, #[.int .u64 (r.gen : Nat), .int .i64 r.at_, .int .i64 r.len, .int .i64 r.long, .int .u32 (r.sum : Nat), .int .u64 (r.next : Nat)])] [] [] := (((Gx.nil w).newB w.heap.size rfl 31 #[.slice A n c, .slice A' k c', .int .i64 l]).newB (w.heap.size + 1) (by simp) 27 #[.int .u64 (o.gen : Nat), .int .i64 o.at_, .int .i64 o.len, .int .i64 o.long, .int .u32 (o.sum : Nat), .int .u64 (o.next : Nat)]).newB (w.heap.size + 2) (by simp) 27 #[.int .u64 (r.gen : Nat), .int .i64 r.at_, .int .i64 r.len, .int .i64 r.long, .int .u32 (r.sum : Nat), .int .u64 (r.next : Nat)]
  replace X0 := hide X0; replace hl := hide hl; replace hf := hide hf
  clear ht h hw
  have tk0 : True := trivial
  have tk1 : True := trivial
  go_enter Tryd.func6, Tryd.ntmps6
  go_upto_region 1 with (fail)
  generalize hW : World.alloc (World.alloc (World.alloc w _) _) _ = W at *
  clear hW
  obtain ⟨ca0_0, ca0_1, ca0_2⟩ := ck3 ((unhide X0).get 0 rfl)
  obtain ⟨fa0_0, fa0_1, fa0_2⟩ := fk3 ((unhide X0).get 0 rfl)
  have q0 := ((unhide X0).get 0 rfl).lt
  obtain ⟨ca1_0, ca1_1, ca1_2, ca1_3, ca1_4, ca1_5⟩ := zk6 ((unhide X0).get 1 rfl)
  have q1 := ((unhide X0).get 1 rfl).lt
  obtain ⟨ca2_0, ca2_1, ca2_2, ca2_3, ca2_4, ca2_5⟩ := zk6 ((unhide X0).get 2 rfl)
  have q2 := ((unhide X0).get 2 rfl).lt
  go_wp2_with (first
    | (have _t := tk0; clear tk0 _t; go_at_call 8; refine (unhide hl _ (unhide X0).bl).mono ?_; rintro e w0 ⟨rfl, b0⟩
       have Y0 : Gx w w0 [(w.heap.size, 31, #[.slice A n c, .slice A' k c', .int .i64 l]), (w.heap.size + 1, 27, #[.int .u64 (o.gen : Nat), .int .i64 o.at_, .int .i64 o.len, .int .i64 o.long, .int .u32 (o.sum : Nat), .int .u64 (o.next : Nat)]), (w.heap.size + 2, 27, #[.int .u64 (r.gen : Nat), .int .i64 r.at_, .int .i64 r.len, .int .i64 r.long, .int .u32 (r.sum : Nat), .int .u64 (r.next : Nat)])] [] [] := (unhide X0).call b0
       clear ca0_0 ca0_1 ca0_2 fa0_0 fa0_1 fa0_2 q0 ca1_0 ca1_1 ca1_2 ca1_3 ca1_4 ca1_5 q1 ca2_0 ca2_1 ca2_2 ca2_3 ca2_4 ca2_5 q2
       obtain ⟨ca0_0, ca0_1, ca0_2⟩ := ck3 (Y0.get 0 rfl)
       obtain ⟨fa0_0, fa0_1, fa0_2⟩ := fk3 (Y0.get 0 rfl)
       have q0 := (Y0.get 0 rfl).lt
       obtain ⟨ca1_0, ca1_1, ca1_2, ca1_3, ca1_4, ca1_5⟩ := zk6 (Y0.get 1 rfl)
       have q1 := (Y0.get 1 rfl).lt
       obtain ⟨ca2_0, ca2_1, ca2_2, ca2_3, ca2_4, ca2_5⟩ := zk6 (Y0.get 2 rfl)
       have q2 := (Y0.get 2 rfl).lt
       have X1 := hide Y0
       clear X0 b0 Y0)
    | (have _t := tk1; clear tk1 _t; go_at_call 9; refine (unhide hf _ (unhide X1).bl).mono ?_; rintro e w1 ⟨rfl, b1⟩
       have Y1 : Gx w w1 [(w.heap.size, 31, #[.slice A n c, .slice A' k c', .int .i64 l]), (w.heap.size + 1, 27, #[.int .u64 (o.gen : Nat), .int .i64 o.at_, .int .i64 o.len, .int .i64 o.long, .int .u32 (o.sum : Nat), .int .u64 (o.next : Nat)]), (w.heap.size + 2, 27, #[.int .u64 (r.gen : Nat), .int .i64 r.at_, .int .i64 r.len, .int .i64 r.long, .int .u32 (r.sum : Nat), .int .u64 (r.next : Nat)])] [] [] := (unhide X1).call b1
       clear ca0_0 ca0_1 ca0_2 fa0_0 fa0_1 fa0_2 q0 ca1_0 ca1_1 ca1_2 ca1_3 ca1_4 ca1_5 q1 ca2_0 ca2_1 ca2_2 ca2_3 ca2_4 ca2_5 q2
       obtain ⟨ca0_0, ca0_1, ca0_2⟩ := ck3 (Y1.get 0 rfl)
       obtain ⟨fa0_0, fa0_1, fa0_2⟩ := fk3 (Y1.get 0 rfl)
       have q0 := (Y1.get 0 rfl).lt
       obtain ⟨ca1_0, ca1_1, ca1_2, ca1_3, ca1_4, ca1_5⟩ := zk6 (Y1.get 1 rfl)
       have q1 := (Y1.get 1 rfl).lt
       obtain ⟨ca2_0, ca2_1, ca2_2, ca2_3, ca2_4, ca2_5⟩ := zk6 (Y1.get 2 rfl)
       have q2 := (Y1.get 2 rfl).lt
       have X2 := hide Y1
       clear X1 b1 Y1)
    | fail)
  go_ret
  exact ⟨ret_b rfl (by simp), (unhide X2).bl⟩
set_option maxHeartbeats 16000000 in
theorem torn_left (A A' : Option Addr) (c c' : Nat) (d : Dk) (o r : Rt) (m : UInt8) (w : World) (ht : Tab w) (h : Dsk 0 w.heap.size w (.agg #[.slice A d.dry.length c, .slice A' d.wet.length c', .int .i64 d.left]) d) (hw : fewB d = true) (h1 : d.left ≠ -1) :
    Calls Tryd.prog 6 #[.agg #[.slice A d.dry.length c, .slice A' d.wet.length c', .int .i64 d.left], (.agg #[.int .u64 (o.gen : Nat), .int .i64 o.at_, .int .i64 o.len, .int .i64 o.long, .int .u32 (o.sum : Nat), .int .u64 (o.next : Nat)]), (.agg #[.int .u64 (r.gen : Nat), .int .i64 r.at_, .int .i64 r.len, .int .i64 r.long, .int .u32 (r.sum : Nat), .int .u64 (r.next : Nat)]), .int .u8 (m.toNat : Int)] w fun e w' => e = .returned (.bool true) ∧ Below w.heap.size w w' := by
  have hl := fun W (hB : Below w.heap.size w W) => live_any W (ht.below hB (Nat.le_refl _))
  have hf := fun W (hB : Below w.heap.size w W) => few_any 0 _ d W (h.grow hB)
  rw [hw] at hf
  have g1 : (d.left != -1) = true := by simpa using h1
  clear h1
  generalize d.dry.length = n at *
  generalize d.wet.length = k at *
  generalize d.left = l at *
  have X0 : Gx w (((w.alloc (.cells #[.slice A n c, .slice A' k c', .int .i64 l] 31)).alloc (.cells #[.int .u64 (o.gen : Nat), .int .i64 o.at_, .int .i64 o.len, .int .i64 o.long, .int .u32 (o.sum : Nat), .int .u64 (o.next : Nat)] 27)).alloc (.cells #[.int .u64 (r.gen : Nat), .int .i64 r.at_, .int .i64 r.len, .int .i64 r.long, .int .u32 (r.sum : Nat), .int .u64 (r.next : Nat)] 27)) [(w.heap.size, 31, #[.slice A n c, .slice A' k c', .int .i64 l]), (w.heap.size + 1, 27, #[.int .u64 (o.gen : Nat), .int .i64 o.at_, .int .i64 o.len, .int .i64 o.long, .int .u32 (o.sum : Nat), .int .u64 (o.next : Nat)]), (w.heap.size + 2, 27, #[.int .u64 (r.gen : Nat), .int .i64 r.at_, .int .i64 r.len, .int .i64 r.long, .int .u32 (r.sum : Nat), .int .u64 (r.next : Nat)])] [] [] := (((Gx.nil w).newB w.heap.size rfl 31 #[.slice A n c, .slice A' k c', .int .i64 l]).newB (w.heap.size + 1) (by simp) 27 #[.int .u64 (o.gen : Nat), .int .i64 o.at_, .int .i64 o.len, .int .i64 o.long, .int .u32 (o.sum : Nat), .int .u64 (o.next : Nat)]).newB (w.heap.size + 2) (by simp) 27 #[.int .u64 (r.gen : Nat), .int .i64 r.at_, .int .i64 r.len, .int .i64 r.long, .int .u32 (r.sum : Nat), .int .u64 (r.next : Nat)]
  replace X0 := hide X0; replace hl := hide hl; replace hf := hide hf
  clear ht h hw
  have tk0 : True := trivial
  have tk1 : True := trivial
  go_enter Tryd.func6, Tryd.ntmps6
  go_upto_region 1 with (fail)
  generalize hW : World.alloc (World.alloc (World.alloc w _) _) _ = W at *
  clear hW
  obtain ⟨ca0_0, ca0_1, ca0_2⟩ := ck3 ((unhide X0).get 0 rfl)
  obtain ⟨fa0_0, fa0_1, fa0_2⟩ := fk3 ((unhide X0).get 0 rfl)
  have q0 := ((unhide X0).get 0 rfl).lt
  obtain ⟨ca1_0, ca1_1, ca1_2, ca1_3, ca1_4, ca1_5⟩ := zk6 ((unhide X0).get 1 rfl)
  have q1 := ((unhide X0).get 1 rfl).lt
  obtain ⟨ca2_0, ca2_1, ca2_2, ca2_3, ca2_4, ca2_5⟩ := zk6 ((unhide X0).get 2 rfl)
  have q2 := ((unhide X0).get 2 rfl).lt
  go_wp2_with (first
    | (have _t := tk0; clear tk0 _t; go_at_call 8; refine (unhide hl _ (unhide X0).bl).mono ?_; rintro e w0 ⟨rfl, b0⟩
       have Y0 : Gx w w0 [(w.heap.size, 31, #[.slice A n c, .slice A' k c', .int .i64 l]), (w.heap.size + 1, 27, #[.int .u64 (o.gen : Nat), .int .i64 o.at_, .int .i64 o.len, .int .i64 o.long, .int .u32 (o.sum : Nat), .int .u64 (o.next : Nat)]), (w.heap.size + 2, 27, #[.int .u64 (r.gen : Nat), .int .i64 r.at_, .int .i64 r.len, .int .i64 r.long, .int .u32 (r.sum : Nat), .int .u64 (r.next : Nat)])] [] [] := (unhide X0).call b0
       clear ca0_0 ca0_1 ca0_2 fa0_0 fa0_1 fa0_2 q0 ca1_0 ca1_1 ca1_2 ca1_3 ca1_4 ca1_5 q1 ca2_0 ca2_1 ca2_2 ca2_3 ca2_4 ca2_5 q2
       obtain ⟨ca0_0, ca0_1, ca0_2⟩ := ck3 (Y0.get 0 rfl)
       obtain ⟨fa0_0, fa0_1, fa0_2⟩ := fk3 (Y0.get 0 rfl)
       have q0 := (Y0.get 0 rfl).lt
       obtain ⟨ca1_0, ca1_1, ca1_2, ca1_3, ca1_4, ca1_5⟩ := zk6 (Y0.get 1 rfl)
       have q1 := (Y0.get 1 rfl).lt
       obtain ⟨ca2_0, ca2_1, ca2_2, ca2_3, ca2_4, ca2_5⟩ := zk6 (Y0.get 2 rfl)
       have q2 := (Y0.get 2 rfl).lt
       have X1 := hide Y0
       clear X0 b0 Y0)
    | (have _t := tk1; clear tk1 _t; go_at_call 9; refine (unhide hf _ (unhide X1).bl).mono ?_; rintro e w1 ⟨rfl, b1⟩
       have Y1 : Gx w w1 [(w.heap.size, 31, #[.slice A n c, .slice A' k c', .int .i64 l]), (w.heap.size + 1, 27, #[.int .u64 (o.gen : Nat), .int .i64 o.at_, .int .i64 o.len, .int .i64 o.long, .int .u32 (o.sum : Nat), .int .u64 (o.next : Nat)]), (w.heap.size + 2, 27, #[.int .u64 (r.gen : Nat), .int .i64 r.at_, .int .i64 r.len, .int .i64 r.long, .int .u32 (r.sum : Nat), .int .u64 (r.next : Nat)])] [] [] := (unhide X1).call b1
       clear ca0_0 ca0_1 ca0_2 fa0_0 fa0_1 fa0_2 q0 ca1_0 ca1_1 ca1_2 ca1_3 ca1_4 ca1_5 q1 ca2_0 ca2_1 ca2_2 ca2_3 ca2_4 ca2_5 q2
       obtain ⟨ca0_0, ca0_1, ca0_2⟩ := ck3 (Y1.get 0 rfl)
       obtain ⟨fa0_0, fa0_1, fa0_2⟩ := fk3 (Y1.get 0 rfl)
       have q0 := (Y1.get 0 rfl).lt
       obtain ⟨ca1_0, ca1_1, ca1_2, ca1_3, ca1_4, ca1_5⟩ := zk6 (Y1.get 1 rfl)
       have q1 := (Y1.get 1 rfl).lt
       obtain ⟨ca2_0, ca2_1, ca2_2, ca2_3, ca2_4, ca2_5⟩ := zk6 (Y1.get 2 rfl)
       have q2 := (Y1.get 2 rfl).lt
       have X2 := hide Y1
       clear X1 b1 Y1)
    | fail)
  go_ret
  exact ⟨ret_b rfl (by simp), (unhide X2).bl⟩
set_option maxHeartbeats 16000000 in
theorem torn_par (A A' : Option Addr) (c c' : Nat) (d : Dk) (o r : Rt) (m : UInt8) (w : World) (ht : Tab w) (h : Dsk 0 w.heap.size w (.agg #[.slice A d.dry.length c, .slice A' d.wet.length c', .int .i64 d.left]) d) (hw : fewB d = true) (h1 : d.left = -1) (h2 : o.gen % 2 ≠ r.gen % 2) :
    Calls Tryd.prog 6 #[.agg #[.slice A d.dry.length c, .slice A' d.wet.length c', .int .i64 d.left], (.agg #[.int .u64 (o.gen : Nat), .int .i64 o.at_, .int .i64 o.len, .int .i64 o.long, .int .u32 (o.sum : Nat), .int .u64 (o.next : Nat)]), (.agg #[.int .u64 (r.gen : Nat), .int .i64 r.at_, .int .i64 r.len, .int .i64 r.long, .int .u32 (r.sum : Nat), .int .u64 (r.next : Nat)]), .int .u8 (m.toNat : Int)] w fun e w' => e = .returned (.bool true) ∧ Below w.heap.size w w' := by
  have hl := fun W (hB : Below w.heap.size w W) => live_any W (ht.below hB (Nat.le_refl _))
  have hf := fun W (hB : Below w.heap.size w W) => few_any 0 _ d W (h.grow hB)
  rw [hw] at hf
  have g1 : (d.left != -1) = false := by rw [h1]; rfl
  have g2 : ((o.gen : Int) % 2 != (r.gen : Int) % 2) = true := by simp; omega
  clear h1 h2
  generalize d.dry.length = n at *
  generalize d.wet.length = k at *
  generalize d.left = l at *
  have X0 : Gx w (((w.alloc (.cells #[.slice A n c, .slice A' k c', .int .i64 l] 31)).alloc (.cells #[.int .u64 (o.gen : Nat), .int .i64 o.at_, .int .i64 o.len, .int .i64 o.long, .int .u32 (o.sum : Nat), .int .u64 (o.next : Nat)] 27)).alloc (.cells #[.int .u64 (r.gen : Nat), .int .i64 r.at_, .int .i64 r.len, .int .i64 r.long, .int .u32 (r.sum : Nat), .int .u64 (r.next : Nat)] 27)) [(w.heap.size, 31, #[.slice A n c, .slice A' k c', .int .i64 l]), (w.heap.size + 1, 27, #[.int .u64 (o.gen : Nat), .int .i64 o.at_, .int .i64 o.len, .int .i64 o.long, .int .u32 (o.sum : Nat), .int .u64 (o.next : Nat)]), (w.heap.size + 2, 27, #[.int .u64 (r.gen : Nat), .int .i64 r.at_, .int .i64 r.len, .int .i64 r.long, .int .u32 (r.sum : Nat), .int .u64 (r.next : Nat)])] [] [] := (((Gx.nil w).newB w.heap.size rfl 31 #[.slice A n c, .slice A' k c', .int .i64 l]).newB (w.heap.size + 1) (by simp) 27 #[.int .u64 (o.gen : Nat), .int .i64 o.at_, .int .i64 o.len, .int .i64 o.long, .int .u32 (o.sum : Nat), .int .u64 (o.next : Nat)]).newB (w.heap.size + 2) (by simp) 27 #[.int .u64 (r.gen : Nat), .int .i64 r.at_, .int .i64 r.len, .int .i64 r.long, .int .u32 (r.sum : Nat), .int .u64 (r.next : Nat)]
  replace X0 := hide X0; replace hl := hide hl; replace hf := hide hf
  clear ht h hw
  have tk0 : True := trivial
  have tk1 : True := trivial
  go_enter Tryd.func6, Tryd.ntmps6
  go_upto_region 1 with (fail)
  generalize hW : World.alloc (World.alloc (World.alloc w _) _) _ = W at *
  clear hW
  obtain ⟨ca0_0, ca0_1, ca0_2⟩ := ck3 ((unhide X0).get 0 rfl)
  obtain ⟨fa0_0, fa0_1, fa0_2⟩ := fk3 ((unhide X0).get 0 rfl)
  have q0 := ((unhide X0).get 0 rfl).lt
  obtain ⟨ca1_0, ca1_1, ca1_2, ca1_3, ca1_4, ca1_5⟩ := zk6 ((unhide X0).get 1 rfl)
  have q1 := ((unhide X0).get 1 rfl).lt
  obtain ⟨ca2_0, ca2_1, ca2_2, ca2_3, ca2_4, ca2_5⟩ := zk6 ((unhide X0).get 2 rfl)
  have q2 := ((unhide X0).get 2 rfl).lt
  go_wp2_with (first
    | (have _t := tk0; clear tk0 _t; go_at_call 8; refine (unhide hl _ (unhide X0).bl).mono ?_; rintro e w0 ⟨rfl, b0⟩
       have Y0 : Gx w w0 [(w.heap.size, 31, #[.slice A n c, .slice A' k c', .int .i64 l]), (w.heap.size + 1, 27, #[.int .u64 (o.gen : Nat), .int .i64 o.at_, .int .i64 o.len, .int .i64 o.long, .int .u32 (o.sum : Nat), .int .u64 (o.next : Nat)]), (w.heap.size + 2, 27, #[.int .u64 (r.gen : Nat), .int .i64 r.at_, .int .i64 r.len, .int .i64 r.long, .int .u32 (r.sum : Nat), .int .u64 (r.next : Nat)])] [] [] := (unhide X0).call b0
       clear ca0_0 ca0_1 ca0_2 fa0_0 fa0_1 fa0_2 q0 ca1_0 ca1_1 ca1_2 ca1_3 ca1_4 ca1_5 q1 ca2_0 ca2_1 ca2_2 ca2_3 ca2_4 ca2_5 q2
       obtain ⟨ca0_0, ca0_1, ca0_2⟩ := ck3 (Y0.get 0 rfl)
       obtain ⟨fa0_0, fa0_1, fa0_2⟩ := fk3 (Y0.get 0 rfl)
       have q0 := (Y0.get 0 rfl).lt
       obtain ⟨ca1_0, ca1_1, ca1_2, ca1_3, ca1_4, ca1_5⟩ := zk6 (Y0.get 1 rfl)
       have q1 := (Y0.get 1 rfl).lt
       obtain ⟨ca2_0, ca2_1, ca2_2, ca2_3, ca2_4, ca2_5⟩ := zk6 (Y0.get 2 rfl)
       have q2 := (Y0.get 2 rfl).lt
       have X1 := hide Y0
       clear X0 b0 Y0)
    | (have _t := tk1; clear tk1 _t; go_at_call 9; refine (unhide hf _ (unhide X1).bl).mono ?_; rintro e w1 ⟨rfl, b1⟩
       have Y1 : Gx w w1 [(w.heap.size, 31, #[.slice A n c, .slice A' k c', .int .i64 l]), (w.heap.size + 1, 27, #[.int .u64 (o.gen : Nat), .int .i64 o.at_, .int .i64 o.len, .int .i64 o.long, .int .u32 (o.sum : Nat), .int .u64 (o.next : Nat)]), (w.heap.size + 2, 27, #[.int .u64 (r.gen : Nat), .int .i64 r.at_, .int .i64 r.len, .int .i64 r.long, .int .u32 (r.sum : Nat), .int .u64 (r.next : Nat)])] [] [] := (unhide X1).call b1
       clear ca0_0 ca0_1 ca0_2 fa0_0 fa0_1 fa0_2 q0 ca1_0 ca1_1 ca1_2 ca1_3 ca1_4 ca1_5 q1 ca2_0 ca2_1 ca2_2 ca2_3 ca2_4 ca2_5 q2
       obtain ⟨ca0_0, ca0_1, ca0_2⟩ := ck3 (Y1.get 0 rfl)
       obtain ⟨fa0_0, fa0_1, fa0_2⟩ := fk3 (Y1.get 0 rfl)
       have q0 := (Y1.get 0 rfl).lt
       obtain ⟨ca1_0, ca1_1, ca1_2, ca1_3, ca1_4, ca1_5⟩ := zk6 (Y1.get 1 rfl)
       have q1 := (Y1.get 1 rfl).lt
       obtain ⟨ca2_0, ca2_1, ca2_2, ca2_3, ca2_4, ca2_5⟩ := zk6 (Y1.get 2 rfl)
       have q2 := (Y1.get 2 rfl).lt
       have X2 := hide Y1
       clear X1 b1 Y1)
    | fail)
  go_ret
  exact ⟨ret_b rfl (by simp), (unhide X2).bl⟩
set_option maxHeartbeats 16000000 in
theorem torn_same (A A' : Option Addr) (c c' : Nat) (d : Dk) (o r : Rt) (m : UInt8) (w : World) (ht : Tab w) (h : Dsk 0 w.heap.size w (.agg #[.slice A d.dry.length c, .slice A' d.wet.length c', .int .i64 d.left]) d) (hw : fewB d = true) (h1 : d.left = -1) (h2 : o.gen % 2 = r.gen % 2) (h3 : o.gen % 256 = r.gen % 256) :
    Calls Tryd.prog 6 #[.agg #[.slice A d.dry.length c, .slice A' d.wet.length c', .int .i64 d.left], (.agg #[.int .u64 (o.gen : Nat), .int .i64 o.at_, .int .i64 o.len, .int .i64 o.long, .int .u32 (o.sum : Nat), .int .u64 (o.next : Nat)]), (.agg #[.int .u64 (r.gen : Nat), .int .i64 r.at_, .int .i64 r.len, .int .i64 r.long, .int .u32 (r.sum : Nat), .int .u64 (r.next : Nat)]), .int .u8 (m.toNat : Int)] w fun e w' => e = .returned (.bool true) ∧ Below w.heap.size w w' := by
  have hl := fun W (hB : Below w.heap.size w W) => live_any W (ht.below hB (Nat.le_refl _))
  have hf := fun W (hB : Below w.heap.size w W) => few_any 0 _ d W (h.grow hB)
  rw [hw] at hf
  have g1 : (d.left != -1) = false := by rw [h1]; rfl
  have g2 : ((o.gen : Int) % 2 != (r.gen : Int) % 2) = false := by simp; omega
  have g3 : ((o.gen : Int) % 256 == (r.gen : Int) % 256) = true := by simp; omega
  clear h1 h2 h3
  generalize d.dry.length = n at *
  generalize d.wet.length = k at *
  generalize d.left = l at *
  have X0 : Gx w (((w.alloc (.cells #[.slice A n c, .slice A' k c', .int .i64 l] 31)).alloc (.cells #[.int .u64 (o.gen : Nat), .int .i64 o.at_, .int .i64 o.len, .int .i64 o.long, .int .u32 (o.sum : Nat), .int .u64 (o.next : Nat)] 27)).alloc (.cells #[.int .u64 (r.gen : Nat), .int .i64 r.at_, .int .i64 r.len, .int .i64 r.long, .int .u32 (r.sum : Nat), .int .u64 (r.next : Nat)] 27)) [(w.heap.size, 31, #[.slice A n c, .slice A' k c', .int .i64 l]), (w.heap.size + 1, 27, #[.int .u64 (o.gen : Nat), .int .i64 o.at_, .int .i64 o.len, .int .i64 o.long, .int .u32 (o.sum : Nat), .int .u64 (o.next : Nat)]), (w.heap.size + 2, 27, #[.int .u64 (r.gen : Nat), .int .i64 r.at_, .int .i64 r.len, .int .i64 r.long, .int .u32 (r.sum : Nat), .int .u64 (r.next : Nat)])] [] [] := (((Gx.nil w).newB w.heap.size rfl 31 #[.slice A n c, .slice A' k c', .int .i64 l]).newB (w.heap.size + 1) (by simp) 27 #[.int .u64 (o.gen : Nat), .int .i64 o.at_, .int .i64 o.len, .int .i64 o.long, .int .u32 (o.sum : Nat), .int .u64 (o.next : Nat)]).newB (w.heap.size + 2) (by simp) 27 #[.int .u64 (r.gen : Nat), .int .i64 r.at_, .int .i64 r.len, .int .i64 r.long, .int .u32 (r.sum : Nat), .int .u64 (r.next : Nat)]
  replace X0 := hide X0; replace hl := hide hl; replace hf := hide hf
  clear ht h hw
  have tk0 : True := trivial
  have tk1 : True := trivial
  go_enter Tryd.func6, Tryd.ntmps6
  go_upto_region 1 with (fail)
  generalize hW : World.alloc (World.alloc (World.alloc w _) _) _ = W at *
  clear hW
  obtain ⟨ca0_0, ca0_1, ca0_2⟩ := ck3 ((unhide X0).get 0 rfl)
  obtain ⟨fa0_0, fa0_1, fa0_2⟩ := fk3 ((unhide X0).get 0 rfl)
  have q0 := ((unhide X0).get 0 rfl).lt
  obtain ⟨ca1_0, ca1_1, ca1_2, ca1_3, ca1_4, ca1_5⟩ := zk6 ((unhide X0).get 1 rfl)
  have q1 := ((unhide X0).get 1 rfl).lt
  obtain ⟨ca2_0, ca2_1, ca2_2, ca2_3, ca2_4, ca2_5⟩ := zk6 ((unhide X0).get 2 rfl)
  have q2 := ((unhide X0).get 2 rfl).lt
  go_wp2_with (first
    | (have _t := tk0; clear tk0 _t; go_at_call 8; refine (unhide hl _ (unhide X0).bl).mono ?_; rintro e w0 ⟨rfl, b0⟩
       have Y0 : Gx w w0 [(w.heap.size, 31, #[.slice A n c, .slice A' k c', .int .i64 l]), (w.heap.size + 1, 27, #[.int .u64 (o.gen : Nat), .int .i64 o.at_, .int .i64 o.len, .int .i64 o.long, .int .u32 (o.sum : Nat), .int .u64 (o.next : Nat)]), (w.heap.size + 2, 27, #[.int .u64 (r.gen : Nat), .int .i64 r.at_, .int .i64 r.len, .int .i64 r.long, .int .u32 (r.sum : Nat), .int .u64 (r.next : Nat)])] [] [] := (unhide X0).call b0
       clear ca0_0 ca0_1 ca0_2 fa0_0 fa0_1 fa0_2 q0 ca1_0 ca1_1 ca1_2 ca1_3 ca1_4 ca1_5 q1 ca2_0 ca2_1 ca2_2 ca2_3 ca2_4 ca2_5 q2
       obtain ⟨ca0_0, ca0_1, ca0_2⟩ := ck3 (Y0.get 0 rfl)
       obtain ⟨fa0_0, fa0_1, fa0_2⟩ := fk3 (Y0.get 0 rfl)
       have q0 := (Y0.get 0 rfl).lt
       obtain ⟨ca1_0, ca1_1, ca1_2, ca1_3, ca1_4, ca1_5⟩ := zk6 (Y0.get 1 rfl)
       have q1 := (Y0.get 1 rfl).lt
       obtain ⟨ca2_0, ca2_1, ca2_2, ca2_3, ca2_4, ca2_5⟩ := zk6 (Y0.get 2 rfl)
       have q2 := (Y0.get 2 rfl).lt
       have X1 := hide Y0
       clear X0 b0 Y0)
    | (have _t := tk1; clear tk1 _t; go_at_call 9; refine (unhide hf _ (unhide X1).bl).mono ?_; rintro e w1 ⟨rfl, b1⟩
       have Y1 : Gx w w1 [(w.heap.size, 31, #[.slice A n c, .slice A' k c', .int .i64 l]), (w.heap.size + 1, 27, #[.int .u64 (o.gen : Nat), .int .i64 o.at_, .int .i64 o.len, .int .i64 o.long, .int .u32 (o.sum : Nat), .int .u64 (o.next : Nat)]), (w.heap.size + 2, 27, #[.int .u64 (r.gen : Nat), .int .i64 r.at_, .int .i64 r.len, .int .i64 r.long, .int .u32 (r.sum : Nat), .int .u64 (r.next : Nat)])] [] [] := (unhide X1).call b1
       clear ca0_0 ca0_1 ca0_2 fa0_0 fa0_1 fa0_2 q0 ca1_0 ca1_1 ca1_2 ca1_3 ca1_4 ca1_5 q1 ca2_0 ca2_1 ca2_2 ca2_3 ca2_4 ca2_5 q2
       obtain ⟨ca0_0, ca0_1, ca0_2⟩ := ck3 (Y1.get 0 rfl)
       obtain ⟨fa0_0, fa0_1, fa0_2⟩ := fk3 (Y1.get 0 rfl)
       have q0 := (Y1.get 0 rfl).lt
       obtain ⟨ca1_0, ca1_1, ca1_2, ca1_3, ca1_4, ca1_5⟩ := zk6 (Y1.get 1 rfl)
       have q1 := (Y1.get 1 rfl).lt
       obtain ⟨ca2_0, ca2_1, ca2_2, ca2_3, ca2_4, ca2_5⟩ := zk6 (Y1.get 2 rfl)
       have q2 := (Y1.get 2 rfl).lt
       have X2 := hide Y1
       clear X1 b1 Y1)
    | fail)
  go_ret
  exact ⟨ret_b rfl (by simp), (unhide X2).bl⟩
set_option maxHeartbeats 16000000 in
theorem torn_dead (A A' : Option Addr) (c c' : Nat) (d : Dk) (o r : Rt) (hT' : OkT o) (hT : OkT r) (m : UInt8) (w : World) (ht : Tab w) (h : Dsk 0 w.heap.size w (.agg #[.slice A d.dry.length c, .slice A' d.wet.length c', .int .i64 d.left]) d) (hw : fewB d = true) (h1 : d.left = -1) (h2 : o.gen % 2 = r.gen % 2) (h3 : o.gen % 256 ≠ r.gen % 256) (hE : (wrR d o).2 ≠ 0) :
    Calls Tryd.prog 6 #[.agg #[.slice A d.dry.length c, .slice A' d.wet.length c', .int .i64 d.left], (.agg #[.int .u64 (o.gen : Nat), .int .i64 o.at_, .int .i64 o.len, .int .i64 o.long, .int .u32 (o.sum : Nat), .int .u64 (o.next : Nat)]), (.agg #[.int .u64 (r.gen : Nat), .int .i64 r.at_, .int .i64 r.len, .int .i64 r.long, .int .u32 (r.sum : Nat), .int .u64 (r.next : Nat)]), .int .u8 (m.toNat : Int)] w fun e w' => e = .returned (.bool true) ∧ Below w.heap.size w w' := by
  have hl := fun W (hB : Below w.heap.size w W) => live_any W (ht.below hB (Nat.le_refl _))
  have hf := fun W (hB : Below w.heap.size w W) => few_any 0 _ d W (h.grow hB)
  rw [hw] at hf
  have g1 : (d.left != -1) = false := by rw [h1]; rfl
  have g2 : ((o.gen : Int) % 2 != (r.gen : Int) % 2) = false := by simp; omega
  have g3 : ((o.gen : Int) % 256 == (r.gen : Int) % 256) = false := by simp; omega
  obtain ⟨s1, s2⟩ := few_small hw
  have hS := fun W (hB : Below w.heap.size w W) => Write_form' 0 _ d o W (ht.below hB (Nat.le_refl _)) hT' (h.grow hB) (by omega) (by omega)
  have hQ := fun W (hB : Below w.heap.size w W) => Octets_some r hT W (ht.below hB (Nat.le_refl _))
  obtain ⟨Wd, Ew, hWd⟩ : ∃ Wd Ew, wrR d o = (Wd, Ew) := ⟨_, _, rfl⟩
  rw [hWd] at hS hE
  have hE' : (Ew != 0) = true := by simpa using hE
  replace hS := hide hS; replace hQ := hide hQ
  generalize d.dry.length = n at *
  generalize d.wet.length = k at *
  generalize d.left = l at *
  have X0 : Gx w (((w.alloc (.cells #[.slice A n c, .slice A' k c', .int .i64 l] 31)).alloc (.cells #[.int .u64 (o.gen : Nat), .int .i64 o.at_, .int .i64 o.len, .int .i64 o.long, .int .u32 (o.sum : Nat), .int .u64 (o.next : Nat)] 27)).alloc (.cells #[.int .u64 (r.gen : Nat), .int .i64 r.at_, .int .i64 r.len, .int .i64 r.long, .int .u32 (r.sum : Nat), .int .u64 (r.next : Nat)] 27)) [(w.heap.size, 31, #[.slice A n c, .slice A' k c', .int .i64 l]), (w.heap.size + 1, 27, #[.int .u64 (o.gen : Nat), .int .i64 o.at_, .int .i64 o.len, .int .i64 o.long, .int .u32 (o.sum : Nat), .int .u64 (o.next : Nat)]), (w.heap.size + 2, 27, #[.int .u64 (r.gen : Nat), .int .i64 r.at_, .int .i64 r.len, .int .i64 r.long, .int .u32 (r.sum : Nat), .int .u64 (r.next : Nat)])] [] [] := (((Gx.nil w).newB w.heap.size rfl 31 #[.slice A n c, .slice A' k c', .int .i64 l]).newB (w.heap.size + 1) (by simp) 27 #[.int .u64 (o.gen : Nat), .int .i64 o.at_, .int .i64 o.len, .int .i64 o.long, .int .u32 (o.sum : Nat), .int .u64 (o.next : Nat)]).newB (w.heap.size + 2) (by simp) 27 #[.int .u64 (r.gen : Nat), .int .i64 r.at_, .int .i64 r.len, .int .i64 r.long, .int .u32 (r.sum : Nat), .int .u64 (r.next : Nat)]
  replace X0 := hide X0; replace hl := hide hl; replace hf := hide hf
  clear ht h hw hT hT' s1 s2 hE hWd h1 h2 h3
  have tk0 : True := trivial
  have tk1 : True := trivial
  have tk2 : True := trivial
  have tk3 : True := trivial
  go_enter Tryd.func6, Tryd.ntmps6
  go_upto_region 1 with (fail)
  generalize hW : World.alloc (World.alloc (World.alloc w _) _) _ = W at *
  clear hW
  obtain ⟨ca0_0, ca0_1, ca0_2⟩ := ck3 ((unhide X0).get 0 rfl)
  obtain ⟨fa0_0, fa0_1, fa0_2⟩ := fk3 ((unhide X0).get 0 rfl)
  have q0 := ((unhide X0).get 0 rfl).lt
  obtain ⟨ca1_0, ca1_1, ca1_2, ca1_3, ca1_4, ca1_5⟩ := zk6 ((unhide X0).get 1 rfl)
  have q1 := ((unhide X0).get 1 rfl).lt
  obtain ⟨ca2_0, ca2_1, ca2_2, ca2_3, ca2_4, ca2_5⟩ := zk6 ((unhide X0).get 2 rfl)
  have q2 := ((unhide X0).get 2 rfl).lt
  go_wp2_with (first
    | (have _t := tk0; clear tk0 _t; go_at_call 8; refine (unhide hl _ (unhide X0).bl).mono ?_; rintro e w0 ⟨rfl, b0⟩
       have Y0 : Gx w w0 [(w.heap.size, 31, #[.slice A n c, .slice A' k c', .int .i64 l]), (w.heap.size + 1, 27, #[.int .u64 (o.gen : Nat), .int .i64 o.at_, .int .i64 o.len, .int .i64 o.long, .int .u32 (o.sum : Nat), .int .u64 (o.next : Nat)]), (w.heap.size + 2, 27, #[.int .u64 (r.gen : Nat), .int .i64 r.at_, .int .i64 r.len, .int .i64 r.long, .int .u32 (r.sum : Nat), .int .u64 (r.next : Nat)])] [] [] := (unhide X0).call b0
       clear ca0_0 ca0_1 ca0_2 fa0_0 fa0_1 fa0_2 q0 ca1_0 ca1_1 ca1_2 ca1_3 ca1_4 ca1_5 q1 ca2_0 ca2_1 ca2_2 ca2_3 ca2_4 ca2_5 q2
       obtain ⟨ca0_0, ca0_1, ca0_2⟩ := ck3 (Y0.get 0 rfl)
       obtain ⟨fa0_0, fa0_1, fa0_2⟩ := fk3 (Y0.get 0 rfl)
       have q0 := (Y0.get 0 rfl).lt
       obtain ⟨ca1_0, ca1_1, ca1_2, ca1_3, ca1_4, ca1_5⟩ := zk6 (Y0.get 1 rfl)
       have q1 := (Y0.get 1 rfl).lt
       obtain ⟨ca2_0, ca2_1, ca2_2, ca2_3, ca2_4, ca2_5⟩ := zk6 (Y0.get 2 rfl)
       have q2 := (Y0.get 2 rfl).lt
       have X1 := hide Y0
       clear X0 b0 Y0)
    | (have _t := tk1; clear tk1 _t; go_at_call 9; refine (unhide hf _ (unhide X1).bl).mono ?_; rintro e w1 ⟨rfl, b1⟩
       have Y1 : Gx w w1 [(w.heap.size, 31, #[.slice A n c, .slice A' k c', .int .i64 l]), (w.heap.size + 1, 27, #[.int .u64 (o.gen : Nat), .int .i64 o.at_, .int .i64 o.len, .int .i64 o.long, .int .u32 (o.sum : Nat), .int .u64 (o.next : Nat)]), (w.heap.size + 2, 27, #[.int .u64 (r.gen : Nat), .int .i64 r.at_, .int .i64 r.len, .int .i64 r.long, .int .u32 (r.sum : Nat), .int .u64 (r.next : Nat)])] [] [] := (unhide X1).call b1
       clear ca0_0 ca0_1 ca0_2 fa0_0 fa0_1 fa0_2 q0 ca1_0 ca1_1 ca1_2 ca1_3 ca1_4 ca1_5 q1 ca2_0 ca2_1 ca2_2 ca2_3 ca2_4 ca2_5 q2
       obtain ⟨ca0_0, ca0_1, ca0_2⟩ := ck3 (Y1.get 0 rfl)
       obtain ⟨fa0_0, fa0_1, fa0_2⟩ := fk3 (Y1.get 0 rfl)
       have q0 := (Y1.get 0 rfl).lt
       obtain ⟨ca1_0, ca1_1, ca1_2, ca1_3, ca1_4, ca1_5⟩ := zk6 (Y1.get 1 rfl)
       have q1 := (Y1.get 1 rfl).lt
       obtain ⟨ca2_0, ca2_1, ca2_2, ca2_3, ca2_4, ca2_5⟩ := zk6 (Y1.get 2 rfl)
       have q2 := (Y1.get 2 rfl).lt
       have X2 := hide Y1
       clear X1 b1 Y1)
    | (have _t := tk2; clear tk2 _t; go_at_call 15; refine (unhide hS _ (unhide X2).bl).mono ?_; rintro e w2 ⟨A4, c4, B4, e4, rfl, x4, b2⟩
       have Y2 : Gx w w2 [(w.heap.size, 31, #[.slice A n c, .slice A' k c', .int .i64 l]), (w.heap.size + 1, 27, #[.int .u64 (o.gen : Nat), .int .i64 o.at_, .int .i64 o.len, .int .i64 o.long, .int .u32 (o.sum : Nat), .int .u64 (o.next : Nat)]), (w.heap.size + 2, 27, #[.int .u64 (r.gen : Nat), .int .i64 r.at_, .int .i64 r.len, .int .i64 r.long, .int .u32 (r.sum : Nat), .int .u64 (r.next : Nat)])] [] [] := (unhide X2).call b2
       have Y2d : Gx w w2 [(w.heap.size, 31, #[.slice A n c, .slice A' k c', .int .i64 l]), (w.heap.size + 1, 27, #[.int .u64 (o.gen : Nat), .int .i64 o.at_, .int .i64 o.len, .int .i64 o.long, .int .u32 (o.sum : Nat), .int .u64 (o.next : Nat)]), (w.heap.size + 2, 27, #[.int .u64 (r.gen : Nat), .int .i64 r.at_, .int .i64 r.len, .int .i64 r.long, .int .u32 (r.sum : Nat), .int .u64 (r.next : Nat)])] [(w1.heap.size, w2.heap.size, .agg #[.slice A4 Wd.dry.length c4, .slice B4 Wd.wet.length e4, .int .i64 Wd.left], Wd)] [] := Y2.addD x4
       clear ca0_0 ca0_1 ca0_2 fa0_0 fa0_1 fa0_2 q0 ca1_0 ca1_1 ca1_2 ca1_3 ca1_4 ca1_5 q1 ca2_0 ca2_1 ca2_2 ca2_3 ca2_4 ca2_5 q2
       obtain ⟨ca0_0, ca0_1, ca0_2⟩ := ck3 (Y2d.get 0 rfl)
       obtain ⟨fa0_0, fa0_1, fa0_2⟩ := fk3 (Y2d.get 0 rfl)
       have q0 := (Y2d.get 0 rfl).lt
       obtain ⟨ca1_0, ca1_1, ca1_2, ca1_3, ca1_4, ca1_5⟩ := zk6 (Y2d.get 1 rfl)
       have q1 := (Y2d.get 1 rfl).lt
       obtain ⟨ca2_0, ca2_1, ca2_2, ca2_3, ca2_4, ca2_5⟩ := zk6 (Y2d.get 2 rfl)
       have q2 := (Y2d.get 2 rfl).lt
       have l7 : w.heap.size + 2 < w1.heap.size := ((unhide X2).get 2 rfl).lt
       have Z2 : Gx w (((w2.setCell ⟨w.heap.size, 0, none⟩ (.slice A4 Wd.dry.length c4)).setCell ⟨w.heap.size, 1, none⟩ (.slice B4 Wd.wet.length e4)).setCell ⟨w.heap.size, 2, none⟩ (.int .i64 Wd.left)) [(w.heap.size + 1, 27, #[.int .u64 (o.gen : Nat), .int .i64 o.at_, .int .i64 o.len, .int .i64 o.long, .int .u32 (o.sum : Nat), .int .u64 (o.next : Nat)]), (w.heap.size + 2, 27, #[.int .u64 (r.gen : Nat), .int .i64 r.at_, .int .i64 r.len, .int .i64 r.long, .int .u32 (r.sum : Nat), .int .u64 (r.next : Nat)]), (w.heap.size, 31, #[.slice A4 Wd.dry.length c4, .slice B4 Wd.wet.length e4, .int .i64 Wd.left])] [(w1.heap.size, w2.heap.size, .agg #[.slice A4 Wd.dry.length c4, .slice B4 Wd.wet.length e4, .int .i64 Wd.left], Wd)] [] := (Y2d.sub (L' := [(w.heap.size + 1, 27, #[.int .u64 (o.gen : Nat), .int .i64 o.at_, .int .i64 o.len, .int .i64 o.long, .int .u32 (o.sum : Nat), .int .u64 (o.next : Nat)]), (w.heap.size + 2, 27, #[.int .u64 (r.gen : Nat), .int .i64 r.at_, .int .i64 r.len, .int .i64 r.long, .int .u32 (r.sum : Nat), .int .u64 (r.next : Nat)])]) (by simp) (fun _ h => h) (fun _ h => h)).set3 (Y2d.get 0 rfl) (Nat.le_refl _) (by simp) (by simp; omega) (by simp) (.slice A4 Wd.dry.length c4) (.slice B4 Wd.wet.length e4) (.int .i64 Wd.left)
       have X3 := hide Z2
       clear X2 b2 Y2 Y2d Z2)
    | (have _t := tk3; clear tk3 _t; go_at_call 11; refine (unhide hQ _ (unhide X3).bl).mono ?_; rintro e w3 ⟨A9, n9, c9, E9, rfl, b3⟩
       have Y3 : Gx w w3 [(w.heap.size + 1, 27, #[.int .u64 (o.gen : Nat), .int .i64 o.at_, .int .i64 o.len, .int .i64 o.long, .int .u32 (o.sum : Nat), .int .u64 (o.next : Nat)]), (w.heap.size + 2, 27, #[.int .u64 (r.gen : Nat), .int .i64 r.at_, .int .i64 r.len, .int .i64 r.long, .int .u32 (r.sum : Nat), .int .u64 (r.next : Nat)]), (w.heap.size, 31, #[.slice A4 Wd.dry.length c4, .slice B4 Wd.wet.length e4, .int .i64 Wd.left])] [(w1.heap.size, w2.heap.size, .agg #[.slice A4 Wd.dry.length c4, .slice B4 Wd.wet.length e4, .int .i64 Wd.left], Wd)] [] := (unhide X3).call b3
       clear ca0_0 ca0_1 ca0_2 fa0_0 fa0_1 fa0_2 q0 ca1_0 ca1_1 ca1_2 ca1_3 ca1_4 ca1_5 q1 ca2_0 ca2_1 ca2_2 ca2_3 ca2_4 ca2_5 q2
       obtain ⟨ca0_0, ca0_1, ca0_2, ca0_3, ca0_4, ca0_5⟩ := zk6 (Y3.get 0 rfl)
       have q0 := (Y3.get 0 rfl).lt
       obtain ⟨ca1_0, ca1_1, ca1_2, ca1_3, ca1_4, ca1_5⟩ := zk6 (Y3.get 1 rfl)
       have q1 := (Y3.get 1 rfl).lt
       obtain ⟨ca2_0, ca2_1, ca2_2⟩ := ck3 (Y3.get 2 rfl)
       have q2 := (Y3.get 2 rfl).lt
       have X4 := hide Y3
       clear X3 b3 Y3)
    | fail)
  go_ret
  exact ⟨ret_b rfl (by simp), (unhide X4).bl⟩
set_option maxHeartbeats 16000000 in
theorem torn_form (A A' : Option Addr) (c c' : Nat) (d : Dk) (o r : Rt) (hT' : OkT o) (hT : OkT r) (m : UInt8) (w : World) (ht : Tab w) (h : Dsk 0 w.heap.size w (.agg #[.slice A d.dry.length c, .slice A' d.wet.length c', .int .i64 d.left]) d) (hw : fewB d = true) (h1 : d.left = -1) (h2 : o.gen % 2 = r.gen % 2) (h3 : o.gen % 256 ≠ r.gen % 256) (hE : (wrR d o).2 = 0) (hr : rOk r = false) :
    Calls Tryd.prog 6 #[.agg #[.slice A d.dry.length c, .slice A' d.wet.length c', .int .i64 d.left], (.agg #[.int .u64 (o.gen : Nat), .int .i64 o.at_, .int .i64 o.len, .int .i64 o.long, .int .u32 (o.sum : Nat), .int .u64 (o.next : Nat)]), (.agg #[.int .u64 (r.gen : Nat), .int .i64 r.at_, .int .i64 r.len, .int .i64 r.long, .int .u32 (r.sum : Nat), .int .u64 (r.next : Nat)]), .int .u8 (m.toNat : Int)] w fun e w' => e = .returned (.bool true) ∧ Below w.heap.size w w' := by
  have hl := fun W (hB : Below w.heap.size w W) => live_any W (ht.below hB (Nat.le_refl _))
  have hf := fun W (hB : Below w.heap.size w W) => few_any 0 _ d W (h.grow hB)
  rw [hw] at hf
  have g1 : (d.left != -1) = false := by rw [h1]; rfl
  have g2 : ((o.gen : Int) % 2 != (r.gen : Int) % 2) = false := by simp; omega
  have g3 : ((o.gen : Int) % 256 == (r.gen : Int) % 256) = false := by simp; omega
  obtain ⟨s1, s2⟩ := few_small hw
  have hS := fun W (hB : Below w.heap.size w W) => Write_form' 0 _ d o W (ht.below hB (Nat.le_refl _)) hT' (h.grow hB) (by omega) (by omega)
  have hQ := fun W (_ : Below w.heap.size w W) => Octets_bad r hr hT W
  rw [hE] at hS
  generalize (wrR d o).1 = Wd at *
  replace hS := hide hS; replace hQ := hide hQ
  generalize d.dry.length = n at *
  generalize d.wet.length = k at *
  generalize d.left = l at *
  have X0 : Gx w (((w.alloc (.cells #[.slice A n c, .slice A' k c', .int .i64 l] 31)).alloc (.cells #[.int .u64 (o.gen : Nat), .int .i64 o.at_, .int .i64 o.len, .int .i64 o.long, .int .u32 (o.sum : Nat), .int .u64 (o.next : Nat)] 27)).alloc (.cells #[.int .u64 (r.gen : Nat), .int .i64 r.at_, .int .i64 r.len, .int .i64 r.long, .int .u32 (r.sum : Nat), .int .u64 (r.next : Nat)] 27)) [(w.heap.size, 31, #[.slice A n c, .slice A' k c', .int .i64 l]), (w.heap.size + 1, 27, #[.int .u64 (o.gen : Nat), .int .i64 o.at_, .int .i64 o.len, .int .i64 o.long, .int .u32 (o.sum : Nat), .int .u64 (o.next : Nat)]), (w.heap.size + 2, 27, #[.int .u64 (r.gen : Nat), .int .i64 r.at_, .int .i64 r.len, .int .i64 r.long, .int .u32 (r.sum : Nat), .int .u64 (r.next : Nat)])] [] [] := (((Gx.nil w).newB w.heap.size rfl 31 #[.slice A n c, .slice A' k c', .int .i64 l]).newB (w.heap.size + 1) (by simp) 27 #[.int .u64 (o.gen : Nat), .int .i64 o.at_, .int .i64 o.len, .int .i64 o.long, .int .u32 (o.sum : Nat), .int .u64 (o.next : Nat)]).newB (w.heap.size + 2) (by simp) 27 #[.int .u64 (r.gen : Nat), .int .i64 r.at_, .int .i64 r.len, .int .i64 r.long, .int .u32 (r.sum : Nat), .int .u64 (r.next : Nat)]
  replace X0 := hide X0; replace hl := hide hl; replace hf := hide hf
  clear ht h hw hT hT' s1 s2 hE hr h1 h2 h3
  have tk0 : True := trivial
  have tk1 : True := trivial
  have tk2 : True := trivial
  have tk3 : True := trivial
  go_enter Tryd.func6, Tryd.ntmps6
  go_upto_region 1 with (fail)
  generalize hW : World.alloc (World.alloc (World.alloc w _) _) _ = W at *
  clear hW
  obtain ⟨ca0_0, ca0_1, ca0_2⟩ := ck3 ((unhide X0).get 0 rfl)
  obtain ⟨fa0_0, fa0_1, fa0_2⟩ := fk3 ((unhide X0).get 0 rfl)
  have q0 := ((unhide X0).get 0 rfl).lt
  obtain ⟨ca1_0, ca1_1, ca1_2, ca1_3, ca1_4, ca1_5⟩ := zk6 ((unhide X0).get 1 rfl)
  have q1 := ((unhide X0).get 1 rfl).lt
  obtain ⟨ca2_0, ca2_1, ca2_2, ca2_3, ca2_4, ca2_5⟩ := zk6 ((unhide X0).get 2 rfl)
  have q2 := ((unhide X0).get 2 rfl).lt
  go_wp2_with (first
    | (have _t := tk0; clear tk0 _t; go_at_call 8; refine (unhide hl _ (unhide X0).bl).mono ?_; rintro e w0 ⟨rfl, b0⟩
       have Y0 : Gx w w0 [(w.heap.size, 31, #[.slice A n c, .slice A' k c', .int .i64 l]), (w.heap.size + 1, 27, #[.int .u64 (o.gen : Nat), .int .i64 o.at_, .int .i64 o.len, .int .i64 o.long, .int .u32 (o.sum : Nat), .int .u64 (o.next : Nat)]), (w.heap.size + 2, 27, #[.int .u64 (r.gen : Nat), .int .i64 r.at_, .int .i64 r.len, .int .i64 r.long, .int .u32 (r.sum : Nat), .int .u64 (r.next : Nat)])] [] [] := (unhide X0).call b0
       clear ca0_0 ca0_1 ca0_2 fa0_0 fa0_1 fa0_2 q0 ca1_0 ca1_1 ca1_2 ca1_3 ca1_4 ca1_5 q1 ca2_0 ca2_1 ca2_2 ca2_3 ca2_4 ca2_5 q2
       obtain ⟨ca0_0, ca0_1, ca0_2⟩ := ck3 (Y0.get 0 rfl)
       obtain ⟨fa0_0, fa0_1, fa0_2⟩ := fk3 (Y0.get 0 rfl)
       have q0 := (Y0.get 0 rfl).lt
       obtain ⟨ca1_0, ca1_1, ca1_2, ca1_3, ca1_4, ca1_5⟩ := zk6 (Y0.get 1 rfl)
       have q1 := (Y0.get 1 rfl).lt
       obtain ⟨ca2_0, ca2_1, ca2_2, ca2_3, ca2_4, ca2_5⟩ := zk6 (Y0.get 2 rfl)
       have q2 := (Y0.get 2 rfl).lt
       have X1 := hide Y0
       clear X0 b0 Y0)
    | (have _t := tk1; clear tk1 _t; go_at_call 9; refine (unhide hf _ (unhide X1).bl).mono ?_; rintro e w1 ⟨rfl, b1⟩
       have Y1 : Gx w w1 [(w.heap.size, 31, #[.slice A n c, .slice A' k c', .int .i64 l]), (w.heap.size + 1, 27, #[.int .u64 (o.gen : Nat), .int .i64 o.at_, .int .i64 o.len, .int .i64 o.long, .int .u32 (o.sum : Nat), .int .u64 (o.next : Nat)]), (w.heap.size + 2, 27, #[.int .u64 (r.gen : Nat), .int .i64 r.at_, .int .i64 r.len, .int .i64 r.long, .int .u32 (r.sum : Nat), .int .u64 (r.next : Nat)])] [] [] := (unhide X1).call b1
       clear ca0_0 ca0_1 ca0_2 fa0_0 fa0_1 fa0_2 q0 ca1_0 ca1_1 ca1_2 ca1_3 ca1_4 ca1_5 q1 ca2_0 ca2_1 ca2_2 ca2_3 ca2_4 ca2_5 q2
       obtain ⟨ca0_0, ca0_1, ca0_2⟩ := ck3 (Y1.get 0 rfl)
       obtain ⟨fa0_0, fa0_1, fa0_2⟩ := fk3 (Y1.get 0 rfl)
       have q0 := (Y1.get 0 rfl).lt
       obtain ⟨ca1_0, ca1_1, ca1_2, ca1_3, ca1_4, ca1_5⟩ := zk6 (Y1.get 1 rfl)
       have q1 := (Y1.get 1 rfl).lt
       obtain ⟨ca2_0, ca2_1, ca2_2, ca2_3, ca2_4, ca2_5⟩ := zk6 (Y1.get 2 rfl)
       have q2 := (Y1.get 2 rfl).lt
       have X2 := hide Y1
       clear X1 b1 Y1)
    | (have _t := tk2; clear tk2 _t; go_at_call 15; refine (unhide hS _ (unhide X2).bl).mono ?_; rintro e w2 ⟨A4, c4, B4, e4, rfl, x4, b2⟩
       have Y2 : Gx w w2 [(w.heap.size, 31, #[.slice A n c, .slice A' k c', .int .i64 l]), (w.heap.size + 1, 27, #[.int .u64 (o.gen : Nat), .int .i64 o.at_, .int .i64 o.len, .int .i64 o.long, .int .u32 (o.sum : Nat), .int .u64 (o.next : Nat)]), (w.heap.size + 2, 27, #[.int .u64 (r.gen : Nat), .int .i64 r.at_, .int .i64 r.len, .int .i64 r.long, .int .u32 (r.sum : Nat), .int .u64 (r.next : Nat)])] [] [] := (unhide X2).call b2
       have Y2d : Gx w w2 [(w.heap.size, 31, #[.slice A n c, .slice A' k c', .int .i64 l]), (w.heap.size + 1, 27, #[.int .u64 (o.gen : Nat), .int .i64 o.at_, .int .i64 o.len, .int .i64 o.long, .int .u32 (o.sum : Nat), .int .u64 (o.next : Nat)]), (w.heap.size + 2, 27, #[.int .u64 (r.gen : Nat), .int .i64 r.at_, .int .i64 r.len, .int .i64 r.long, .int .u32 (r.sum : Nat), .int .u64 (r.next : Nat)])] [(w1.heap.size, w2.heap.size, .agg #[.slice A4 Wd.dry.length c4, .slice B4 Wd.wet.length e4, .int .i64 Wd.left], Wd)] [] := Y2.addD x4
       clear ca0_0 ca0_1 ca0_2 fa0_0 fa0_1 fa0_2 q0 ca1_0 ca1_1 ca1_2 ca1_3 ca1_4 ca1_5 q1 ca2_0 ca2_1 ca2_2 ca2_3 ca2_4 ca2_5 q2
       obtain ⟨ca0_0, ca0_1, ca0_2⟩ := ck3 (Y2d.get 0 rfl)
       obtain ⟨fa0_0, fa0_1, fa0_2⟩ := fk3 (Y2d.get 0 rfl)
       have q0 := (Y2d.get 0 rfl).lt
       obtain ⟨ca1_0, ca1_1, ca1_2, ca1_3, ca1_4, ca1_5⟩ := zk6 (Y2d.get 1 rfl)
       have q1 := (Y2d.get 1 rfl).lt
       obtain ⟨ca2_0, ca2_1, ca2_2, ca2_3, ca2_4, ca2_5⟩ := zk6 (Y2d.get 2 rfl)
       have q2 := (Y2d.get 2 rfl).lt
       have l7 : w.heap.size + 2 < w1.heap.size := ((unhide X2).get 2 rfl).lt
       have Z2 : Gx w (((w2.setCell ⟨w.heap.size, 0, none⟩ (.slice A4 Wd.dry.length c4)).setCell ⟨w.heap.size, 1, none⟩ (.slice B4 Wd.wet.length e4)).setCell ⟨w.heap.size, 2, none⟩ (.int .i64 Wd.left)) [(w.heap.size + 1, 27, #[.int .u64 (o.gen : Nat), .int .i64 o.at_, .int .i64 o.len, .int .i64 o.long, .int .u32 (o.sum : Nat), .int .u64 (o.next : Nat)]), (w.heap.size + 2, 27, #[.int .u64 (r.gen : Nat), .int .i64 r.at_, .int .i64 r.len, .int .i64 r.long, .int .u32 (r.sum : Nat), .int .u64 (r.next : Nat)]), (w.heap.size, 31, #[.slice A4 Wd.dry.length c4, .slice B4 Wd.wet.length e4, .int .i64 Wd.left])] [(w1.heap.size, w2.heap.size, .agg #[.slice A4 Wd.dry.length c4, .slice B4 Wd.wet.length e4, .int .i64 Wd.left], Wd)] [] := (Y2d.sub (L' := [(w.heap.size + 1, 27, #[.int .u64 (o.gen : Nat), .int .i64 o.at_, .int .i64 o.len, .int .i64 o.long, .int .u32 (o.sum : Nat), .int .u64 (o.next : Nat)]), (w.heap.size + 2, 27, #[.int .u64 (r.gen : Nat), .int .i64 r.at_, .int .i64 r.len, .int .i64 r.long, .int .u32 (r.sum : Nat), .int .u64 (r.next : Nat)])]) (by simp) (fun _ h => h) (fun _ h => h)).set3 (Y2d.get 0 rfl) (Nat.le_refl _) (by simp) (by simp; omega) (by simp) (.slice A4 Wd.dry.length c4) (.slice B4 Wd.wet.length e4) (.int .i64 Wd.left)
       have X3 := hide Z2
       clear X2 b2 Y2 Y2d Z2)
    | (have _t := tk3; clear tk3 _t; go_at_call 11; refine (unhide hQ _ (unhide X3).bl).mono ?_; rintro e w3 ⟨rfl, b3⟩
       have Y3 : Gx w w3 [(w.heap.size + 1, 27, #[.int .u64 (o.gen : Nat), .int .i64 o.at_, .int .i64 o.len, .int .i64 o.long, .int .u32 (o.sum : Nat), .int .u64 (o.next : Nat)]), (w.heap.size + 2, 27, #[.int .u64 (r.gen : Nat), .int .i64 r.at_, .int .i64 r.len, .int .i64 r.long, .int .u32 (r.sum : Nat), .int .u64 (r.next : Nat)]), (w.heap.size, 31, #[.slice A4 Wd.dry.length c4, .slice B4 Wd.wet.length e4, .int .i64 Wd.left])] [(w1.heap.size, w2.heap.size, .agg #[.slice A4 Wd.dry.length c4, .slice B4 Wd.wet.length e4, .int .i64 Wd.left], Wd)] [] := (unhide X3).call b3
       clear ca0_0 ca0_1 ca0_2 fa0_0 fa0_1 fa0_2 q0 ca1_0 ca1_1 ca1_2 ca1_3 ca1_4 ca1_5 q1 ca2_0 ca2_1 ca2_2 ca2_3 ca2_4 ca2_5 q2
       obtain ⟨ca0_0, ca0_1, ca0_2, ca0_3, ca0_4, ca0_5⟩ := zk6 (Y3.get 0 rfl)
       have q0 := (Y3.get 0 rfl).lt
       obtain ⟨ca1_0, ca1_1, ca1_2, ca1_3, ca1_4, ca1_5⟩ := zk6 (Y3.get 1 rfl)
       have q1 := (Y3.get 1 rfl).lt
       obtain ⟨ca2_0, ca2_1, ca2_2⟩ := ck3 (Y3.get 2 rfl)
       have q2 := (Y3.get 2 rfl).lt
       have X4 := hide Y3
       clear X3 b3 Y3)
    | fail)
  go_ret
  exact ⟨ret_b rfl (by simp), (unhide X4).bl⟩
end
end Go.Proofs.YtommlgdolahfbaaDoor
