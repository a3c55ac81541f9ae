import Derived.Test.YtommlgdolahfbaaDoorLG
import Derived.Test.YtommlgdolahfbaaDoorW10
namespace Go.Proofs.YtommlgdolahfbaaDoor
set_option maxRecDepth 100000
open Go.RowKit

theorem Octets_ok (r : Rt) (h : rOk r = true) (hT : OkT r) (w : World) (ht : Tab w) :
    Calls Tryd.prog 11 #[(.agg #[.int .u64 (r.gen : Nat), .int .i64 r.at_, .int .i64 r.len, .int .i64 r.long, .int .u32 (r.sum : Nat), .int .u64 (r.next : Nat)])] w fun e w' => ∃ A c, e = .returned (.tuple #[.slice A 32 c, .int .i64 0]) ∧ Bs w.heap.size w'.heap.size w' (.slice A 32 c) (octs r) ∧ Below w.heap.size w w' :=
  (Octets_good r h hT w ht).mono fun e w' ⟨g, he, hg, hb, bl⟩ => ⟨_, _, he, Bs.of_block hb (octs_len r).symm (by omega) hg, bl⟩
theorem sameb_below (v1 v2 : Value) (a b : List UInt8) (W : World) (h1 : Bs 0 W.heap.size W v1 a) (h2 : Bs 0 W.heap.size W v2 b) : Calls Tryd.prog 19 #[v1, v2] W fun e w' => e = .returned (.bool (decide (a = b))) ∧ Below W.heap.size W w' :=
  (sameb_any _ _ _ _ v1 v2 a b W h1 h2).mono fun e w' ⟨he, hw⟩ => ⟨he, by rw [← hw]; exact Below.refl _ _⟩
theorem Octets_some (r : Rt) (hT : OkT r) (w : World) (ht : Tab w) :
    Calls Tryd.prog 11 #[(.agg #[.int .u64 (r.gen : Nat), .int .i64 r.at_, .int .i64 r.len, .int .i64 r.long, .int .u32 (r.sum : Nat), .int .u64 (r.next : Nat)])] w fun e w' => ∃ A n c E, e = .returned (.tuple #[.slice A n c, .int .i64 E]) ∧ Below w.heap.size w w' :=
  (Octets_any r hT w ht).mono fun e w' ⟨v, he, hx, hb⟩ => by
    obtain ⟨A, c, rfl, _⟩ := hx
    exact ⟨_, _, _, _, he, hb⟩
set_option maxHeartbeats 4000000 in
theorem back_gate (r s : Rt) (A : Option Addr) (c : Nat) (b : List UInt8) (w : World) (ht : Tab w) (hn : 100 < b.length) :
    Calls Tryd.prog 4 #[(.agg #[.int .u64 (r.gen : Nat), .int .i64 r.at_, .int .i64 r.len, .int .i64 r.long, .int .u32 (r.sum : Nat), .int .u64 (r.next : Nat)]), (.agg #[.int .u64 (s.gen : Nat), .int .i64 s.at_, .int .i64 s.len, .int .i64 s.long, .int .u32 (s.sum : Nat), .int .u64 (s.next : Nat)]), .slice A b.length c] w fun e w' => e = .returned (.bool true) ∧ Below w.heap.size w w' := by
  have hl := fun W (hB : Below w.heap.size w W) => live_any W (ht.below hB (Nat.le_refl _))
  have hn1 : (100 : Int) < (b.length : Int) := by omega
  have X0 : Gx w ((w.alloc (.cells #[.int .u64 (r.gen : Nat), .int .i64 r.at_, .int .i64 r.len, .int .i64 r.long, .int .u32 (r.sum : Nat), .int .u64 (r.next : Nat)] 27)).alloc (.cells #[.int .u64 (s.gen : Nat), .int .i64 s.at_, .int .i64 s.len, .int .i64 s.long, .int .u32 (s.sum : Nat), .int .u64 (s.next : Nat)] 27)) [(w.heap.size, 27, #[.int .u64 (r.gen : Nat), .int .i64 r.at_, .int .i64 r.len, .int .i64 r.long, .int .u32 (r.sum : Nat), .int .u64 (r.next : Nat)]), (w.heap.size + 1, 27, #[.int .u64 (s.gen : Nat), .int .i64 s.at_, .int .i64 s.len, .int .i64 s.long, .int .u32 (s.sum : Nat), .int .u64 (s.next : Nat)])] [] [] := ((Gx.nil w).newB w.heap.size rfl 27 #[.int .u64 (r.gen : Nat), .int .i64 r.at_, .int .i64 r.len, .int .i64 r.long, .int .u32 (r.sum : Nat), .int .u64 (r.next : Nat)]).newB (w.heap.size + 1) (by simp) 27 #[.int .u64 (s.gen : Nat), .int .i64 s.at_, .int .i64 s.len, .int .i64 s.long, .int .u32 (s.sum : Nat), .int .u64 (s.next : Nat)]
  replace X0 := hide X0; replace hl := hide hl
  clear ht hn
  have tk0 : True := trivial
  go_enter Tryd.func4, Tryd.ntmps4
  go_upto_region 1 with (fail)
  generalize hW : World.alloc (World.alloc w _) _ = W at *
  clear hW
  obtain ⟨ca0_0, ca0_1, ca0_2, ca0_3, ca0_4, ca0_5⟩ := zk6 ((unhide X0).get 0 rfl)
  have q0 := ((unhide X0).get 0 rfl).lt
  obtain ⟨ca1_0, ca1_1, ca1_2, ca1_3, ca1_4, ca1_5⟩ := zk6 ((unhide X0).get 1 rfl)
  have q1 := ((unhide X0).get 1 rfl).lt
  go_wp2_with (first
    | (have _t := tk0; clear tk0 _t; go_at_call 8; refine (unhide hl _ (unhide X0).bl).mono ?_; rintro e w0 ⟨rfl, b0⟩
       have Y0 : Gx w w0 [(w.heap.size, 27, #[.int .u64 (r.gen : Nat), .int .i64 r.at_, .int .i64 r.len, .int .i64 r.long, .int .u32 (r.sum : Nat), .int .u64 (r.next : Nat)]), (w.heap.size + 1, 27, #[.int .u64 (s.gen : Nat), .int .i64 s.at_, .int .i64 s.len, .int .i64 s.long, .int .u32 (s.sum : Nat), .int .u64 (s.next : Nat)])] [] [] := (unhide X0).call b0
       clear ca0_0 ca0_1 ca0_2 ca0_3 ca0_4 ca0_5 q0 ca1_0 ca1_1 ca1_2 ca1_3 ca1_4 ca1_5 q1
       obtain ⟨ca0_0, ca0_1, ca0_2, ca0_3, ca0_4, ca0_5⟩ := zk6 (Y0.get 0 rfl)
       have q0 := (Y0.get 0 rfl).lt
       obtain ⟨ca1_0, ca1_1, ca1_2, ca1_3, ca1_4, ca1_5⟩ := zk6 (Y0.get 1 rfl)
       have q1 := (Y0.get 1 rfl).lt
       have X1 := hide Y0
       clear X0 b0 Y0)
    | fail)
  go_ret
  exact ⟨rfl, (unhide X1).bl⟩
section
attribute [-go_sem] run_eql_struct run_neq_struct
attribute [local go_sem] run_eql_rt guardR
set_option maxHeartbeats 4000000 in
theorem back_fe (r s : Rt) (hT : OkT r) (hT' : OkT s) (A : Option Addr) (c : Nat) (b : List UInt8) (w : World) (ht : Tab w) (hb : Bs 0 w.heap.size w (.slice A b.length c) b) (hn : b.length ≤ 100) (ho : ofB b = false) (hr : rOk r = false) :
    Calls Tryd.prog 4 #[(.agg #[.int .u64 (r.gen : Nat), .int .i64 r.at_, .int .i64 r.len, .int .i64 r.long, .int .u32 (r.sum : Nat), .int .u64 (r.next : Nat)]), (.agg #[.int .u64 (s.gen : Nat), .int .i64 s.at_, .int .i64 s.len, .int .i64 s.long, .int .u32 (s.sum : Nat), .int .u64 (s.next : Nat)]), .slice A b.length c] w fun e w' => e = .returned (.bool true) ∧ Below w.heap.size w w' := by
  have hl := fun W (hB : Below w.heap.size w W) => live_any W (ht.below hB (Nat.le_refl _))
  have hn1 : ¬ (100 : Int) < (b.length : Int) := by omega
  have hO0 := fun W (hB : Below w.heap.size w W) => Of_any (.slice A b.length c) 0 b W (ht.below hB (Nat.le_refl _)) (hb.grow hB)
  have z1 : ofE b = 2 := by unfold ofE; rw [ho]; rfl
  rw [z1] at hO0
  obtain ⟨x, hx⟩ : ∃ x, x = ofR b := ⟨_, rfl⟩
  rw [← hx] at hO0
  clear z1 hx
  replace hO0 := hide hO0
  have hR := fun W (_ : Below w.heap.size w W) => Octets_bad r hr hT W
  have hC := fun W (_ : Below w.heap.size w W) => Check_any r hT W
  rw [hr, show badE false = 1 from rfl] at hC
  have hQ := fun W (hB : Below w.heap.size w W) => Octets_some s hT' W (ht.below hB (Nat.le_refl _))
  replace hR := hide hR; replace hC := hide hC; replace hQ := hide hQ
  have X0 : Gx w ((w.alloc (.cells #[.int .u64 (r.gen : Nat), .int .i64 r.at_, .int .i64 r.len, .int .i64 r.long, .int .u32 (r.sum : Nat), .int .u64 (r.next : Nat)] 27)).alloc (.cells #[.int .u64 (s.gen : Nat), .int .i64 s.at_, .int .i64 s.len, .int .i64 s.long, .int .u32 (s.sum : Nat), .int .u64 (s.next : Nat)] 27)) [(w.heap.size, 27, #[.int .u64 (r.gen : Nat), .int .i64 r.at_, .int .i64 r.len, .int .i64 r.long, .int .u32 (r.sum : Nat), .int .u64 (r.next : Nat)]), (w.heap.size + 1, 27, #[.int .u64 (s.gen : Nat), .int .i64 s.at_, .int .i64 s.len, .int .i64 s.long, .int .u32 (s.sum : Nat), .int .u64 (s.next : Nat)])] [] [] := ((Gx.nil w).newB w.heap.size rfl 27 #[.int .u64 (r.gen : Nat), .int .i64 r.at_, .int .i64 r.len, .int .i64 r.long, .int .u32 (r.sum : Nat), .int .u64 (r.next : Nat)]).newB (w.heap.size + 1) (by simp) 27 #[.int .u64 (s.gen : Nat), .int .i64 s.at_, .int .i64 s.len, .int .i64 s.long, .int .u32 (s.sum : Nat), .int .u64 (s.next : Nat)]
  replace X0 := hide X0; replace hl := hide hl
  clear hT hT' ht hb hn ho hr
  have tk0 : True := trivial
  have tk1 : True := trivial
  have tk2 : True := trivial
  have tk3 : True := trivial
  have tk4 : True := trivial
  go_enter Tryd.func4, Tryd.ntmps4
  go_upto_region 1 with (fail)
  generalize hW : World.alloc (World.alloc w _) _ = W at *
  clear hW
  obtain ⟨ca0_0, ca0_1, ca0_2, ca0_3, ca0_4, ca0_5⟩ := zk6 ((unhide X0).get 0 rfl)
  have q0 := ((unhide X0).get 0 rfl).lt
  obtain ⟨ca1_0, ca1_1, ca1_2, ca1_3, ca1_4, ca1_5⟩ := zk6 ((unhide X0).get 1 rfl)
  have q1 := ((unhide X0).get 1 rfl).lt
  go_wp2_with (first
    | (have _t := tk0; clear tk0 _t; go_at_call 8; refine (unhide hl _ (unhide X0).bl).mono ?_; rintro e w0 ⟨rfl, b0⟩
       have Y0 : Gx w w0 [(w.heap.size, 27, #[.int .u64 (r.gen : Nat), .int .i64 r.at_, .int .i64 r.len, .int .i64 r.long, .int .u32 (r.sum : Nat), .int .u64 (r.next : Nat)]), (w.heap.size + 1, 27, #[.int .u64 (s.gen : Nat), .int .i64 s.at_, .int .i64 s.len, .int .i64 s.long, .int .u32 (s.sum : Nat), .int .u64 (s.next : Nat)])] [] [] := (unhide X0).call b0
       clear ca0_0 ca0_1 ca0_2 ca0_3 ca0_4 ca0_5 q0 ca1_0 ca1_1 ca1_2 ca1_3 ca1_4 ca1_5 q1
       obtain ⟨ca0_0, ca0_1, ca0_2, ca0_3, ca0_4, ca0_5⟩ := zk6 (Y0.get 0 rfl)
       have q0 := (Y0.get 0 rfl).lt
       obtain ⟨ca1_0, ca1_1, ca1_2, ca1_3, ca1_4, ca1_5⟩ := zk6 (Y0.get 1 rfl)
       have q1 := (Y0.get 1 rfl).lt
       have X1 := hide Y0
       clear X0 b0 Y0)
    | (have _t := tk1; clear tk1 _t; go_at_call 13; refine (unhide hO0 _ (unhide X1).bl).mono ?_; rintro e w1 ⟨rfl, b1⟩
       have Y1 : Gx w w1 [(w.heap.size, 27, #[.int .u64 (r.gen : Nat), .int .i64 r.at_, .int .i64 r.len, .int .i64 r.long, .int .u32 (r.sum : Nat), .int .u64 (r.next : Nat)]), (w.heap.size + 1, 27, #[.int .u64 (s.gen : Nat), .int .i64 s.at_, .int .i64 s.len, .int .i64 s.long, .int .u32 (s.sum : Nat), .int .u64 (s.next : Nat)])] [] [] := (unhide X1).call b1
       clear ca0_0 ca0_1 ca0_2 ca0_3 ca0_4 ca0_5 q0 ca1_0 ca1_1 ca1_2 ca1_3 ca1_4 ca1_5 q1
       obtain ⟨ca0_0, ca0_1, ca0_2, ca0_3, ca0_4, ca0_5⟩ := zk6 (Y1.get 0 rfl)
       have q0 := (Y1.get 0 rfl).lt
       obtain ⟨ca1_0, ca1_1, ca1_2, ca1_3, ca1_4, ca1_5⟩ := zk6 (Y1.get 1 rfl)
       have q1 := (Y1.get 1 rfl).lt
       have Y1b : Gx w (w1.alloc (.cells #[.int .u64 (x.gen : Nat), .int .i64 x.at_, .int .i64 x.len, .int .i64 x.long, .int .u32 (x.sum : Nat), .int .u64 (x.next : Nat)] 27)) [(w.heap.size, 27, #[.int .u64 (r.gen : Nat), .int .i64 r.at_, .int .i64 r.len, .int .i64 r.long, .int .u32 (r.sum : Nat), .int .u64 (r.next : Nat)]), (w.heap.size + 1, 27, #[.int .u64 (s.gen : Nat), .int .i64 s.at_, .int .i64 s.len, .int .i64 s.long, .int .u32 (s.sum : Nat), .int .u64 (s.next : Nat)]), (w1.heap.size, 27, #[.int .u64 (x.gen : Nat), .int .i64 x.at_, .int .i64 x.len, .int .i64 x.long, .int .u32 (x.sum : Nat), .int .u64 (x.next : Nat)])] [] [] := Y1.newB (w1.heap.size) rfl 27 #[.int .u64 (x.gen : Nat), .int .i64 x.at_, .int .i64 x.len, .int .i64 x.long, .int .u32 (x.sum : Nat), .int .u64 (x.next : Nat)]
       have X2 := hide Y1b
       clear X1 b1 Y1 Y1b)
    | (have _t := tk2; clear tk2 _t; go_at_call 11; refine (unhide hR _ (unhide X2).bl).mono ?_; rintro e w2 ⟨rfl, b2⟩
       have Y2 : Gx w w2 [(w.heap.size, 27, #[.int .u64 (r.gen : Nat), .int .i64 r.at_, .int .i64 r.len, .int .i64 r.long, .int .u32 (r.sum : Nat), .int .u64 (r.next : Nat)]), (w.heap.size + 1, 27, #[.int .u64 (s.gen : Nat), .int .i64 s.at_, .int .i64 s.len, .int .i64 s.long, .int .u32 (s.sum : Nat), .int .u64 (s.next : Nat)]), (w1.heap.size, 27, #[.int .u64 (x.gen : Nat), .int .i64 x.at_, .int .i64 x.len, .int .i64 x.long, .int .u32 (x.sum : Nat), .int .u64 (x.next : Nat)])] [] [] := (unhide X2).call b2
       clear ca0_0 ca0_1 ca0_2 ca0_3 ca0_4 ca0_5 q0 ca1_0 ca1_1 ca1_2 ca1_3 ca1_4 ca1_5 q1
       obtain ⟨ca0_0, ca0_1, ca0_2, ca0_3, ca0_4, ca0_5⟩ := zk6 (Y2.get 0 rfl)
       have q0 := (Y2.get 0 rfl).lt
       obtain ⟨ca1_0, ca1_1, ca1_2, ca1_3, ca1_4, ca1_5⟩ := zk6 (Y2.get 1 rfl)
       have q1 := (Y2.get 1 rfl).lt
       obtain ⟨ca2_0, ca2_1, ca2_2, ca2_3, ca2_4, ca2_5⟩ := zk6 (Y2.get 2 rfl)
       have q2 := (Y2.get 2 rfl).lt
       have X3 := hide Y2
       clear X2 b2 Y2)
    | (have _t := tk3; clear tk3 _t; go_at_call 11; refine (unhide hQ _ (unhide X3).bl).mono ?_; rintro e w3 ⟨A9, n9, c9, E9, rfl, b3⟩
       have Y3 : Gx w w3 [(w.heap.size, 27, #[.int .u64 (r.gen : Nat), .int .i64 r.at_, .int .i64 r.len, .int .i64 r.long, .int .u32 (r.sum : Nat), .int .u64 (r.next : Nat)]), (w.heap.size + 1, 27, #[.int .u64 (s.gen : Nat), .int .i64 s.at_, .int .i64 s.len, .int .i64 s.long, .int .u32 (s.sum : Nat), .int .u64 (s.next : Nat)]), (w1.heap.size, 27, #[.int .u64 (x.gen : Nat), .int .i64 x.at_, .int .i64 x.len, .int .i64 x.long, .int .u32 (x.sum : Nat), .int .u64 (x.next : Nat)])] [] [] := (unhide X3).call b3
       clear ca0_0 ca0_1 ca0_2 ca0_3 ca0_4 ca0_5 q0 ca1_0 ca1_1 ca1_2 ca1_3 ca1_4 ca1_5 q1 ca2_0 ca2_1 ca2_2 ca2_3 ca2_4 ca2_5 q2
       obtain ⟨ca0_0, ca0_1, ca0_2, ca0_3, ca0_4, ca0_5⟩ := zk6 (Y3.get 0 rfl)
       have q0 := (Y3.get 0 rfl).lt
       obtain ⟨ca1_0, ca1_1, ca1_2, ca1_3, ca1_4, ca1_5⟩ := zk6 (Y3.get 1 rfl)
       have q1 := (Y3.get 1 rfl).lt
       obtain ⟨ca2_0, ca2_1, ca2_2, ca2_3, ca2_4, ca2_5⟩ := zk6 (Y3.get 2 rfl)
       have q2 := (Y3.get 2 rfl).lt
       have X4 := hide Y3
       clear X3 b3 Y3)
    | (have _t := tk4; clear tk4 _t; go_at_call 21; refine (unhide hC _ (unhide X4).bl).mono ?_; rintro e w4 ⟨rfl, b4⟩
       have Y4 : Gx w w4 [(w.heap.size, 27, #[.int .u64 (r.gen : Nat), .int .i64 r.at_, .int .i64 r.len, .int .i64 r.long, .int .u32 (r.sum : Nat), .int .u64 (r.next : Nat)]), (w.heap.size + 1, 27, #[.int .u64 (s.gen : Nat), .int .i64 s.at_, .int .i64 s.len, .int .i64 s.long, .int .u32 (s.sum : Nat), .int .u64 (s.next : Nat)]), (w1.heap.size, 27, #[.int .u64 (x.gen : Nat), .int .i64 x.at_, .int .i64 x.len, .int .i64 x.long, .int .u32 (x.sum : Nat), .int .u64 (x.next : Nat)])] [] [] := (unhide X4).call b4
       clear ca0_0 ca0_1 ca0_2 ca0_3 ca0_4 ca0_5 q0 ca1_0 ca1_1 ca1_2 ca1_3 ca1_4 ca1_5 q1 ca2_0 ca2_1 ca2_2 ca2_3 ca2_4 ca2_5 q2
       obtain ⟨ca0_0, ca0_1, ca0_2, ca0_3, ca0_4, ca0_5⟩ := zk6 (Y4.get 0 rfl)
       have q0 := (Y4.get 0 rfl).lt
       obtain ⟨ca1_0, ca1_1, ca1_2, ca1_3, ca1_4, ca1_5⟩ := zk6 (Y4.get 1 rfl)
       have q1 := (Y4.get 1 rfl).lt
       obtain ⟨ca2_0, ca2_1, ca2_2, ca2_3, ca2_4, ca2_5⟩ := zk6 (Y4.get 2 rfl)
       have q2 := (Y4.get 2 rfl).lt
       have X5 := hide Y4
       clear X4 b4 Y4)
    | fail)
  go_ret
  exact ⟨rfl, (unhide X5).bl⟩
set_option maxHeartbeats 4000000 in
theorem back_ff (r s : Rt) (hT : OkT r) (hT' : OkT s) (A : Option Addr) (c : Nat) (b : List UInt8) (w : World) (ht : Tab w) (hb : Bs 0 w.heap.size w (.slice A b.length c) b) (hn : b.length ≤ 100) (ho : ofB b = false) (hr : rOk r = true) (hs : rOk s = false) :
    Calls Tryd.prog 4 #[(.agg #[.int .u64 (r.gen : Nat), .int .i64 r.at_, .int .i64 r.len, .int .i64 r.long, .int .u32 (r.sum : Nat), .int .u64 (r.next : Nat)]), (.agg #[.int .u64 (s.gen : Nat), .int .i64 s.at_, .int .i64 s.len, .int .i64 s.long, .int .u32 (s.sum : Nat), .int .u64 (s.next : Nat)]), .slice A b.length c] w fun e w' => e = .returned (.bool true) ∧ Below w.heap.size w w' := by
  have hl := fun W (hB : Below w.heap.size w W) => live_any W (ht.below hB (Nat.le_refl _))
  have hn1 : ¬ (100 : Int) < (b.length : Int) := by omega
  have hO0 := fun W (hB : Below w.heap.size w W) => Of_any (.slice A b.length c) 0 b W (ht.below hB (Nat.le_refl _)) (hb.grow hB)
  have z1 : ofE b = 2 := by unfold ofE; rw [ho]; rfl
  rw [z1] at hO0
  obtain ⟨x, hx⟩ : ∃ x, x = ofR b := ⟨_, rfl⟩
  rw [← hx] at hO0
  clear z1 hx
  replace hO0 := hide hO0
  have hR := fun W (hB : Below w.heap.size w W) => Octets_ok r hr hT W (ht.below hB (Nat.le_refl _))
  have hF := fun v1 W (hB : Below w.heap.size w W) (h1 : Bs 0 W.heap.size W v1 (octs r)) => Of_any v1 0 (octs r) W (ht.below hB (Nat.le_refl _)) h1
  rw [ofR_octs hr hT, show ofE (octs r) = 0 by unfold ofE; rw [ofB_octs hr hT]; rfl] at hF
  have hQ := fun W (_ : Below w.heap.size w W) => Octets_bad s hs hT' W
  replace hR := hide hR; replace hF := hide hF; replace hQ := hide hQ
  have X0 : Gx w ((w.alloc (.cells #[.int .u64 (r.gen : Nat), .int .i64 r.at_, .int .i64 r.len, .int .i64 r.long, .int .u32 (r.sum : Nat), .int .u64 (r.next : Nat)] 27)).alloc (.cells #[.int .u64 (s.gen : Nat), .int .i64 s.at_, .int .i64 s.len, .int .i64 s.long, .int .u32 (s.sum : Nat), .int .u64 (s.next : Nat)] 27)) [(w.heap.size, 27, #[.int .u64 (r.gen : Nat), .int .i64 r.at_, .int .i64 r.len, .int .i64 r.long, .int .u32 (r.sum : Nat), .int .u64 (r.next : Nat)]), (w.heap.size + 1, 27, #[.int .u64 (s.gen : Nat), .int .i64 s.at_, .int .i64 s.len, .int .i64 s.long, .int .u32 (s.sum : Nat), .int .u64 (s.next : Nat)])] [] [] := ((Gx.nil w).newB w.heap.size rfl 27 #[.int .u64 (r.gen : Nat), .int .i64 r.at_, .int .i64 r.len, .int .i64 r.long, .int .u32 (r.sum : Nat), .int .u64 (r.next : Nat)]).newB (w.heap.size + 1) (by simp) 27 #[.int .u64 (s.gen : Nat), .int .i64 s.at_, .int .i64 s.len, .int .i64 s.long, .int .u32 (s.sum : Nat), .int .u64 (s.next : Nat)]
  replace X0 := hide X0; replace hl := hide hl
  clear hT hT' ht hb hn ho hr hs
  have tk0 : True := trivial
  have tk1 : True := trivial
  have tk2 : True := trivial
  have tk3 : True := trivial
  have tk4 : True := trivial
  go_enter Tryd.func4, Tryd.ntmps4
  go_upto_region 1 with (fail)
  generalize hW : World.alloc (World.alloc w _) _ = W at *
  clear hW
  obtain ⟨ca0_0, ca0_1, ca0_2, ca0_3, ca0_4, ca0_5⟩ := zk6 ((unhide X0).get 0 rfl)
  have q0 := ((unhide X0).get 0 rfl).lt
  obtain ⟨ca1_0, ca1_1, ca1_2, ca1_3, ca1_4, ca1_5⟩ := zk6 ((unhide X0).get 1 rfl)
  have q1 := ((unhide X0).get 1 rfl).lt
  go_upto_region 14 with (first
    | (have _t := tk0; clear tk0 _t; go_at_call 8; refine (unhide hl _ (unhide X0).bl).mono ?_; rintro e w0 ⟨rfl, b0⟩
       have Y0 : Gx w w0 [(w.heap.size, 27, #[.int .u64 (r.gen : Nat), .int .i64 r.at_, .int .i64 r.len, .int .i64 r.long, .int .u32 (r.sum : Nat), .int .u64 (r.next : Nat)]), (w.heap.size + 1, 27, #[.int .u64 (s.gen : Nat), .int .i64 s.at_, .int .i64 s.len, .int .i64 s.long, .int .u32 (s.sum : Nat), .int .u64 (s.next : Nat)])] [] [] := (unhide X0).call b0
       clear ca0_0 ca0_1 ca0_2 ca0_3 ca0_4 ca0_5 q0 ca1_0 ca1_1 ca1_2 ca1_3 ca1_4 ca1_5 q1
       obtain ⟨ca0_0, ca0_1, ca0_2, ca0_3, ca0_4, ca0_5⟩ := zk6 (Y0.get 0 rfl)
       have q0 := (Y0.get 0 rfl).lt
       obtain ⟨ca1_0, ca1_1, ca1_2, ca1_3, ca1_4, ca1_5⟩ := zk6 (Y0.get 1 rfl)
       have q1 := (Y0.get 1 rfl).lt
       have X1 := hide Y0
       clear X0 b0 Y0)
    | (have _t := tk1; clear tk1 _t; go_at_call 13; refine (unhide hO0 _ (unhide X1).bl).mono ?_; rintro e w1 ⟨rfl, b1⟩
       have Y1 : Gx w w1 [(w.heap.size, 27, #[.int .u64 (r.gen : Nat), .int .i64 r.at_, .int .i64 r.len, .int .i64 r.long, .int .u32 (r.sum : Nat), .int .u64 (r.next : Nat)]), (w.heap.size + 1, 27, #[.int .u64 (s.gen : Nat), .int .i64 s.at_, .int .i64 s.len, .int .i64 s.long, .int .u32 (s.sum : Nat), .int .u64 (s.next : Nat)])] [] [] := (unhide X1).call b1
       clear ca0_0 ca0_1 ca0_2 ca0_3 ca0_4 ca0_5 q0 ca1_0 ca1_1 ca1_2 ca1_3 ca1_4 ca1_5 q1
       obtain ⟨ca0_0, ca0_1, ca0_2, ca0_3, ca0_4, ca0_5⟩ := zk6 (Y1.get 0 rfl)
       have q0 := (Y1.get 0 rfl).lt
       obtain ⟨ca1_0, ca1_1, ca1_2, ca1_3, ca1_4, ca1_5⟩ := zk6 (Y1.get 1 rfl)
       have q1 := (Y1.get 1 rfl).lt
       have Y1b : Gx w (w1.alloc (.cells #[.int .u64 (x.gen : Nat), .int .i64 x.at_, .int .i64 x.len, .int .i64 x.long, .int .u32 (x.sum : Nat), .int .u64 (x.next : Nat)] 27)) [(w.heap.size, 27, #[.int .u64 (r.gen : Nat), .int .i64 r.at_, .int .i64 r.len, .int .i64 r.long, .int .u32 (r.sum : Nat), .int .u64 (r.next : Nat)]), (w.heap.size + 1, 27, #[.int .u64 (s.gen : Nat), .int .i64 s.at_, .int .i64 s.len, .int .i64 s.long, .int .u32 (s.sum : Nat), .int .u64 (s.next : Nat)]), (w1.heap.size, 27, #[.int .u64 (x.gen : Nat), .int .i64 x.at_, .int .i64 x.len, .int .i64 x.long, .int .u32 (x.sum : Nat), .int .u64 (x.next : Nat)])] [] [] := Y1.newB (w1.heap.size) rfl 27 #[.int .u64 (x.gen : Nat), .int .i64 x.at_, .int .i64 x.len, .int .i64 x.long, .int .u32 (x.sum : Nat), .int .u64 (x.next : Nat)]
       have X2 := hide Y1b
       clear X1 b1 Y1 Y1b)
    | (have _t := tk2; clear tk2 _t; go_at_call 11; refine (unhide hR _ (unhide X2).bl).mono ?_; rintro e w2 ⟨A6, a6c, rfl, x2, b2⟩
       have Y2 : Gx w w2 [(w.heap.size, 27, #[.int .u64 (r.gen : Nat), .int .i64 r.at_, .int .i64 r.len, .int .i64 r.long, .int .u32 (r.sum : Nat), .int .u64 (r.next : Nat)]), (w.heap.size + 1, 27, #[.int .u64 (s.gen : Nat), .int .i64 s.at_, .int .i64 s.len, .int .i64 s.long, .int .u32 (s.sum : Nat), .int .u64 (s.next : Nat)]), (w1.heap.size, 27, #[.int .u64 (x.gen : Nat), .int .i64 x.at_, .int .i64 x.len, .int .i64 x.long, .int .u32 (x.sum : Nat), .int .u64 (x.next : Nat)])] [] [] := (unhide X2).call b2
       have Y2z : Gx w w2 [(w.heap.size, 27, #[.int .u64 (r.gen : Nat), .int .i64 r.at_, .int .i64 r.len, .int .i64 r.long, .int .u32 (r.sum : Nat), .int .u64 (r.next : Nat)]), (w.heap.size + 1, 27, #[.int .u64 (s.gen : Nat), .int .i64 s.at_, .int .i64 s.len, .int .i64 s.long, .int .u32 (s.sum : Nat), .int .u64 (s.next : Nat)]), (w1.heap.size, 27, #[.int .u64 (x.gen : Nat), .int .i64 x.at_, .int .i64 x.len, .int .i64 x.long, .int .u32 (x.sum : Nat), .int .u64 (x.next : Nat)])] [] [(0, w2.heap.size, .slice A6 32 a6c, octs r)] := Y2.addZ (x2.mono (Nat.zero_le _) (Nat.le_refl _))
       clear ca0_0 ca0_1 ca0_2 ca0_3 ca0_4 ca0_5 q0 ca1_0 ca1_1 ca1_2 ca1_3 ca1_4 ca1_5 q1
       obtain ⟨ca0_0, ca0_1, ca0_2, ca0_3, ca0_4, ca0_5⟩ := zk6 (Y2z.get 0 rfl)
       have q0 := (Y2z.get 0 rfl).lt
       obtain ⟨ca1_0, ca1_1, ca1_2, ca1_3, ca1_4, ca1_5⟩ := zk6 (Y2z.get 1 rfl)
       have q1 := (Y2z.get 1 rfl).lt
       obtain ⟨ca2_0, ca2_1, ca2_2, ca2_3, ca2_4, ca2_5⟩ := zk6 (Y2z.get 2 rfl)
       have q2 := (Y2z.get 2 rfl).lt
       have X3 := hide Y2z
       clear X2 b2 Y2 Y2z)
    | (have _t := tk3; clear tk3 _t; go_at_call 11; refine (unhide hQ _ (unhide X3).bl).mono ?_; rintro e w3 ⟨rfl, b3⟩
       have Y3 : Gx w w3 [(w.heap.size, 27, #[.int .u64 (r.gen : Nat), .int .i64 r.at_, .int .i64 r.len, .int .i64 r.long, .int .u32 (r.sum : Nat), .int .u64 (r.next : Nat)]), (w.heap.size + 1, 27, #[.int .u64 (s.gen : Nat), .int .i64 s.at_, .int .i64 s.len, .int .i64 s.long, .int .u32 (s.sum : Nat), .int .u64 (s.next : Nat)]), (w1.heap.size, 27, #[.int .u64 (x.gen : Nat), .int .i64 x.at_, .int .i64 x.len, .int .i64 x.long, .int .u32 (x.sum : Nat), .int .u64 (x.next : Nat)])] [] [(0, w2.heap.size, .slice A6 32 a6c, octs r)] := (unhide X3).call b3
       clear ca0_0 ca0_1 ca0_2 ca0_3 ca0_4 ca0_5 q0 ca1_0 ca1_1 ca1_2 ca1_3 ca1_4 ca1_5 q1 ca2_0 ca2_1 ca2_2 ca2_3 ca2_4 ca2_5 q2
       obtain ⟨ca0_0, ca0_1, ca0_2, ca0_3, ca0_4, ca0_5⟩ := zk6 (Y3.get 0 rfl)
       have q0 := (Y3.get 0 rfl).lt
       obtain ⟨ca1_0, ca1_1, ca1_2, ca1_3, ca1_4, ca1_5⟩ := zk6 (Y3.get 1 rfl)
       have q1 := (Y3.get 1 rfl).lt
       obtain ⟨ca2_0, ca2_1, ca2_2, ca2_3, ca2_4, ca2_5⟩ := zk6 (Y3.get 2 rfl)
       have q2 := (Y3.get 2 rfl).lt
       have X4 := hide Y3
       clear X3 b3 Y3)
    | (have _t := tk4; clear tk4 _t; go_at_call 13; refine (unhide hF _ _ (unhide X4).bl ((unhide X4).rd 0 rfl)).mono ?_; rintro e w4 ⟨rfl, b4⟩
       have Y4 : Gx w w4 [(w.heap.size, 27, #[.int .u64 (r.gen : Nat), .int .i64 r.at_, .int .i64 r.len, .int .i64 r.long, .int .u32 (r.sum : Nat), .int .u64 (r.next : Nat)]), (w.heap.size + 1, 27, #[.int .u64 (s.gen : Nat), .int .i64 s.at_, .int .i64 s.len, .int .i64 s.long, .int .u32 (s.sum : Nat), .int .u64 (s.next : Nat)]), (w1.heap.size, 27, #[.int .u64 (x.gen : Nat), .int .i64 x.at_, .int .i64 x.len, .int .i64 x.long, .int .u32 (x.sum : Nat), .int .u64 (x.next : Nat)])] [] [(0, w2.heap.size, .slice A6 32 a6c, octs r)] := (unhide X4).call b4
       clear ca0_0 ca0_1 ca0_2 ca0_3 ca0_4 ca0_5 q0 ca1_0 ca1_1 ca1_2 ca1_3 ca1_4 ca1_5 q1 ca2_0 ca2_1 ca2_2 ca2_3 ca2_4 ca2_5 q2
       obtain ⟨ca0_0, ca0_1, ca0_2, ca0_3, ca0_4, ca0_5⟩ := zk6 (Y4.get 0 rfl)
       have q0 := (Y4.get 0 rfl).lt
       obtain ⟨ca1_0, ca1_1, ca1_2, ca1_3, ca1_4, ca1_5⟩ := zk6 (Y4.get 1 rfl)
       have q1 := (Y4.get 1 rfl).lt
       obtain ⟨ca2_0, ca2_1, ca2_2, ca2_3, ca2_4, ca2_5⟩ := zk6 (Y4.get 2 rfl)
       have q2 := (Y4.get 2 rfl).lt
       have Y4b : Gx w (w4.alloc (.cells #[.int .u64 (r.gen : Nat), .int .i64 r.at_, .int .i64 r.len, .int .i64 r.long, .int .u32 (r.sum : Nat), .int .u64 (r.next : Nat)] 27)) [(w.heap.size, 27, #[.int .u64 (r.gen : Nat), .int .i64 r.at_, .int .i64 r.len, .int .i64 r.long, .int .u32 (r.sum : Nat), .int .u64 (r.next : Nat)]), (w.heap.size + 1, 27, #[.int .u64 (s.gen : Nat), .int .i64 s.at_, .int .i64 s.len, .int .i64 s.long, .int .u32 (s.sum : Nat), .int .u64 (s.next : Nat)]), (w1.heap.size, 27, #[.int .u64 (x.gen : Nat), .int .i64 x.at_, .int .i64 x.len, .int .i64 x.long, .int .u32 (x.sum : Nat), .int .u64 (x.next : Nat)]), (w4.heap.size, 27, #[.int .u64 (r.gen : Nat), .int .i64 r.at_, .int .i64 r.len, .int .i64 r.long, .int .u32 (r.sum : Nat), .int .u64 (r.next : Nat)])] [] [(0, w2.heap.size, .slice A6 32 a6c, octs r)] := Y4.newB (w4.heap.size) rfl 27 #[.int .u64 (r.gen : Nat), .int .i64 r.at_, .int .i64 r.len, .int .i64 r.long, .int .u32 (r.sum : Nat), .int .u64 (r.next : Nat)]
       have X5 := hide Y4b
       clear X4 b4 Y4 Y4b)
    | fail)
  have Y := unhide X5
  clear X5 ca0_0 ca0_1 ca0_2 ca0_3 ca0_4 ca0_5 q0 ca1_0 ca1_1 ca1_2 ca1_3 ca1_4 ca1_5 q1 ca2_0 ca2_1 ca2_2 ca2_3 ca2_4 ca2_5 q2
  generalize w4.alloc (.cells #[.int .u64 (r.gen : Nat), .int .i64 r.at_, .int .i64 r.len, .int .i64 r.long, .int .u32 (r.sum : Nat), .int .u64 (r.next : Nat)] 27) = V at *
  have u0 : V.cell? ⟨w.heap.size, 0, none⟩ = some (.int .u64 (r.gen : Nat)) := (Y.get 0 rfl).cell 0
  have u1 : V.cell? ⟨w.heap.size, 1, none⟩ = some (.int .i64 r.at_) := (Y.get 0 rfl).cell 1
  have u2 : V.cell? ⟨w.heap.size, 2, none⟩ = some (.int .i64 r.len) := (Y.get 0 rfl).cell 2
  have u3 : V.cell? ⟨w.heap.size, 3, none⟩ = some (.int .i64 r.long) := (Y.get 0 rfl).cell 3
  have u4 : V.cell? ⟨w.heap.size, 4, none⟩ = some (.int .u32 (r.sum : Nat)) := (Y.get 0 rfl).cell 4
  have u5 : V.cell? ⟨w.heap.size, 5, none⟩ = some (.int .u64 (r.next : Nat)) := (Y.get 0 rfl).cell 5
  have v0 : V.cell? ⟨w.heap.size + 1, 0, none⟩ = some (.int .u64 (s.gen : Nat)) := (Y.get 1 rfl).cell 0
  have v1 : V.cell? ⟨w.heap.size + 1, 1, none⟩ = some (.int .i64 s.at_) := (Y.get 1 rfl).cell 1
  have v2 : V.cell? ⟨w.heap.size + 1, 2, none⟩ = some (.int .i64 s.len) := (Y.get 1 rfl).cell 2
  have v3 : V.cell? ⟨w.heap.size + 1, 3, none⟩ = some (.int .i64 s.long) := (Y.get 1 rfl).cell 3
  have v4 : V.cell? ⟨w.heap.size + 1, 4, none⟩ = some (.int .u32 (s.sum : Nat)) := (Y.get 1 rfl).cell 4
  have v5 : V.cell? ⟨w.heap.size + 1, 5, none⟩ = some (.int .u64 (s.next : Nat)) := (Y.get 1 rfl).cell 5
  have y0 : V.cell? ⟨w4.heap.size, 0, none⟩ = some (.int .u64 (r.gen : Nat)) := (Y.get 3 rfl).cell 0
  have y1 : V.cell? ⟨w4.heap.size, 1, none⟩ = some (.int .i64 r.at_) := (Y.get 3 rfl).cell 1
  have y2 : V.cell? ⟨w4.heap.size, 2, none⟩ = some (.int .i64 r.len) := (Y.get 3 rfl).cell 2
  have y3 : V.cell? ⟨w4.heap.size, 3, none⟩ = some (.int .i64 r.long) := (Y.get 3 rfl).cell 3
  have y4 : V.cell? ⟨w4.heap.size, 4, none⟩ = some (.int .u32 (r.sum : Nat)) := (Y.get 3 rfl).cell 4
  have y5 : V.cell? ⟨w4.heap.size, 5, none⟩ = some (.int .u64 (r.next : Nat)) := (Y.get 3 rfl).cell 5
  replace Y := hide Y
  go_quiet (fail)
  go_wp2
  go_ret
  exact ⟨rfl, ((unhide Y).drewN _).bl⟩
set_option maxHeartbeats 4000000 in
theorem back_fg (r s : Rt) (hT : OkT r) (hT' : OkT s) (A : Option Addr) (c : Nat) (b : List UInt8) (w : World) (ht : Tab w) (hb : Bs 0 w.heap.size w (.slice A b.length c) b) (hn : b.length ≤ 100) (ho : ofB b = false) (hr : rOk r = true) (hs : rOk s = true) :
    Calls Tryd.prog 4 #[(.agg #[.int .u64 (r.gen : Nat), .int .i64 r.at_, .int .i64 r.len, .int .i64 r.long, .int .u32 (r.sum : Nat), .int .u64 (r.next : Nat)]), (.agg #[.int .u64 (s.gen : Nat), .int .i64 s.at_, .int .i64 s.len, .int .i64 s.long, .int .u32 (s.sum : Nat), .int .u64 (s.next : Nat)]), .slice A b.length c] w fun e w' => e = .returned (.bool true) ∧ Below w.heap.size w w' := by
  have hl := fun W (hB : Below w.heap.size w W) => live_any W (ht.below hB (Nat.le_refl _))
  have hn1 : ¬ (100 : Int) < (b.length : Int) := by omega
  have hO0 := fun W (hB : Below w.heap.size w W) => Of_any (.slice A b.length c) 0 b W (ht.below hB (Nat.le_refl _)) (hb.grow hB)
  have z1 : ofE b = 2 := by unfold ofE; rw [ho]; rfl
  rw [z1] at hO0
  obtain ⟨x, hx⟩ : ∃ x, x = ofR b := ⟨_, rfl⟩
  rw [← hx] at hO0
  clear z1 hx
  replace hO0 := hide hO0
  have hR := fun W (hB : Below w.heap.size w W) => Octets_ok r hr hT W (ht.below hB (Nat.le_refl _))
  have hF := fun v1 W (hB : Below w.heap.size w W) (h1 : Bs 0 W.heap.size W v1 (octs r)) => Of_any v1 0 (octs r) W (ht.below hB (Nat.le_refl _)) h1
  rw [ofR_octs hr hT, show ofE (octs r) = 0 by unfold ofE; rw [ofB_octs hr hT]; rfl] at hF
  have hQ := fun W (hB : Below w.heap.size w W) => Octets_ok s hs hT' W (ht.below hB (Nat.le_refl _))
  have hd : decide (octs r = octs s) = decide (r = s) := by
    rw [Bool.eq_iff_iff]; simp only [decide_eq_true_eq]
    exact ⟨octs_inj hr hT hs hT', fun e => by rw [e]⟩
  have hS := fun v1 v2 W (h1 : Bs 0 W.heap.size W v1 (octs r)) (h2 : Bs 0 W.heap.size W v2 (octs s)) => sameb_any _ _ _ _ v1 v2 (octs r) (octs s) W h1 h2
  rw [hd] at hS
  replace hS := hide hS
  replace hR := hide hR; replace hF := hide hF; replace hQ := hide hQ
  have X0 : Gx w ((w.alloc (.cells #[.int .u64 (r.gen : Nat), .int .i64 r.at_, .int .i64 r.len, .int .i64 r.long, .int .u32 (r.sum : Nat), .int .u64 (r.next : Nat)] 27)).alloc (.cells #[.int .u64 (s.gen : Nat), .int .i64 s.at_, .int .i64 s.len, .int .i64 s.long, .int .u32 (s.sum : Nat), .int .u64 (s.next : Nat)] 27)) [(w.heap.size, 27, #[.int .u64 (r.gen : Nat), .int .i64 r.at_, .int .i64 r.len, .int .i64 r.long, .int .u32 (r.sum : Nat), .int .u64 (r.next : Nat)]), (w.heap.size + 1, 27, #[.int .u64 (s.gen : Nat), .int .i64 s.at_, .int .i64 s.len, .int .i64 s.long, .int .u32 (s.sum : Nat), .int .u64 (s.next : Nat)])] [] [] := ((Gx.nil w).newB w.heap.size rfl 27 #[.int .u64 (r.gen : Nat), .int .i64 r.at_, .int .i64 r.len, .int .i64 r.long, .int .u32 (r.sum : Nat), .int .u64 (r.next : Nat)]).newB (w.heap.size + 1) (by simp) 27 #[.int .u64 (s.gen : Nat), .int .i64 s.at_, .int .i64 s.len, .int .i64 s.long, .int .u32 (s.sum : Nat), .int .u64 (s.next : Nat)]
  replace X0 := hide X0; replace hl := hide hl
  clear hT hT' ht hb hn ho hr hs hd
  have tk0 : True := trivial
  have tk1 : True := trivial
  have tk2 : True := trivial
  have tk3 : True := trivial
  have tk4 : True := trivial
  go_enter Tryd.func4, Tryd.ntmps4
  go_upto_region 1 with (fail)
  generalize hW : World.alloc (World.alloc w _) _ = W at *
  clear hW
  obtain ⟨ca0_0, ca0_1, ca0_2, ca0_3, ca0_4, ca0_5⟩ := zk6 ((unhide X0).get 0 rfl)
  have q0 := ((unhide X0).get 0 rfl).lt
  obtain ⟨ca1_0, ca1_1, ca1_2, ca1_3, ca1_4, ca1_5⟩ := zk6 ((unhide X0).get 1 rfl)
  have q1 := ((unhide X0).get 1 rfl).lt
  go_upto_region 14 with (first
    | (have _t := tk0; clear tk0 _t; go_at_call 8; refine (unhide hl _ (unhide X0).bl).mono ?_; rintro e w0 ⟨rfl, b0⟩
       have Y0 : Gx w w0 [(w.heap.size, 27, #[.int .u64 (r.gen : Nat), .int .i64 r.at_, .int .i64 r.len, .int .i64 r.long, .int .u32 (r.sum : Nat), .int .u64 (r.next : Nat)]), (w.heap.size + 1, 27, #[.int .u64 (s.gen : Nat), .int .i64 s.at_, .int .i64 s.len, .int .i64 s.long, .int .u32 (s.sum : Nat), .int .u64 (s.next : Nat)])] [] [] := (unhide X0).call b0
       clear ca0_0 ca0_1 ca0_2 ca0_3 ca0_4 ca0_5 q0 ca1_0 ca1_1 ca1_2 ca1_3 ca1_4 ca1_5 q1
       obtain ⟨ca0_0, ca0_1, ca0_2, ca0_3, ca0_4, ca0_5⟩ := zk6 (Y0.get 0 rfl)
       have q0 := (Y0.get 0 rfl).lt
       obtain ⟨ca1_0, ca1_1, ca1_2, ca1_3, ca1_4, ca1_5⟩ := zk6 (Y0.get 1 rfl)
       have q1 := (Y0.get 1 rfl).lt
       have X1 := hide Y0
       clear X0 b0 Y0)
    | (have _t := tk1; clear tk1 _t; go_at_call 13; refine (unhide hO0 _ (unhide X1).bl).mono ?_; rintro e w1 ⟨rfl, b1⟩
       have Y1 : Gx w w1 [(w.heap.size, 27, #[.int .u64 (r.gen : Nat), .int .i64 r.at_, .int .i64 r.len, .int .i64 r.long, .int .u32 (r.sum : Nat), .int .u64 (r.next : Nat)]), (w.heap.size + 1, 27, #[.int .u64 (s.gen : Nat), .int .i64 s.at_, .int .i64 s.len, .int .i64 s.long, .int .u32 (s.sum : Nat), .int .u64 (s.next : Nat)])] [] [] := (unhide X1).call b1
       clear ca0_0 ca0_1 ca0_2 ca0_3 ca0_4 ca0_5 q0 ca1_0 ca1_1 ca1_2 ca1_3 ca1_4 ca1_5 q1
       obtain ⟨ca0_0, ca0_1, ca0_2, ca0_3, ca0_4, ca0_5⟩ := zk6 (Y1.get 0 rfl)
       have q0 := (Y1.get 0 rfl).lt
       obtain ⟨ca1_0, ca1_1, ca1_2, ca1_3, ca1_4, ca1_5⟩ := zk6 (Y1.get 1 rfl)
       have q1 := (Y1.get 1 rfl).lt
       have Y1b : Gx w (w1.alloc (.cells #[.int .u64 (x.gen : Nat), .int .i64 x.at_, .int .i64 x.len, .int .i64 x.long, .int .u32 (x.sum : Nat), .int .u64 (x.next : Nat)] 27)) [(w.heap.size, 27, #[.int .u64 (r.gen : Nat), .int .i64 r.at_, .int .i64 r.len, .int .i64 r.long, .int .u32 (r.sum : Nat), .int .u64 (r.next : Nat)]), (w.heap.size + 1, 27, #[.int .u64 (s.gen : Nat), .int .i64 s.at_, .int .i64 s.len, .int .i64 s.long, .int .u32 (s.sum : Nat), .int .u64 (s.next : Nat)]), (w1.heap.size, 27, #[.int .u64 (x.gen : Nat), .int .i64 x.at_, .int .i64 x.len, .int .i64 x.long, .int .u32 (x.sum : Nat), .int .u64 (x.next : Nat)])] [] [] := Y1.newB (w1.heap.size) rfl 27 #[.int .u64 (x.gen : Nat), .int .i64 x.at_, .int .i64 x.len, .int .i64 x.long, .int .u32 (x.sum : Nat), .int .u64 (x.next : Nat)]
       have X2 := hide Y1b
       clear X1 b1 Y1 Y1b)
    | (have _t := tk2; clear tk2 _t; go_at_call 11; refine (unhide hR _ (unhide X2).bl).mono ?_; rintro e w2 ⟨A6, a6c, rfl, x2, b2⟩
       have Y2 : Gx w w2 [(w.heap.size, 27, #[.int .u64 (r.gen : Nat), .int .i64 r.at_, .int .i64 r.len, .int .i64 r.long, .int .u32 (r.sum : Nat), .int .u64 (r.next : Nat)]), (w.heap.size + 1, 27, #[.int .u64 (s.gen : Nat), .int .i64 s.at_, .int .i64 s.len, .int .i64 s.long, .int .u32 (s.sum : Nat), .int .u64 (s.next : Nat)]), (w1.heap.size, 27, #[.int .u64 (x.gen : Nat), .int .i64 x.at_, .int .i64 x.len, .int .i64 x.long, .int .u32 (x.sum : Nat), .int .u64 (x.next : Nat)])] [] [] := (unhide X2).call b2
       have Y2z : Gx w w2 [(w.heap.size, 27, #[.int .u64 (r.gen : Nat), .int .i64 r.at_, .int .i64 r.len, .int .i64 r.long, .int .u32 (r.sum : Nat), .int .u64 (r.next : Nat)]), (w.heap.size + 1, 27, #[.int .u64 (s.gen : Nat), .int .i64 s.at_, .int .i64 s.len, .int .i64 s.long, .int .u32 (s.sum : Nat), .int .u64 (s.next : Nat)]), (w1.heap.size, 27, #[.int .u64 (x.gen : Nat), .int .i64 x.at_, .int .i64 x.len, .int .i64 x.long, .int .u32 (x.sum : Nat), .int .u64 (x.next : Nat)])] [] [(0, w2.heap.size, .slice A6 32 a6c, octs r)] := Y2.addZ (x2.mono (Nat.zero_le _) (Nat.le_refl _))
       clear ca0_0 ca0_1 ca0_2 ca0_3 ca0_4 ca0_5 q0 ca1_0 ca1_1 ca1_2 ca1_3 ca1_4 ca1_5 q1
       obtain ⟨ca0_0, ca0_1, ca0_2, ca0_3, ca0_4, ca0_5⟩ := zk6 (Y2z.get 0 rfl)
       have q0 := (Y2z.get 0 rfl).lt
       obtain ⟨ca1_0, ca1_1, ca1_2, ca1_3, ca1_4, ca1_5⟩ := zk6 (Y2z.get 1 rfl)
       have q1 := (Y2z.get 1 rfl).lt
       obtain ⟨ca2_0, ca2_1, ca2_2, ca2_3, ca2_4, ca2_5⟩ := zk6 (Y2z.get 2 rfl)
       have q2 := (Y2z.get 2 rfl).lt
       have X3 := hide Y2z
       clear X2 b2 Y2 Y2z)
    | (have _t := tk3; clear tk3 _t; go_at_call 11; refine (unhide hQ _ (unhide X3).bl).mono ?_; rintro e w3 ⟨A7, a7c, rfl, x3, b3⟩
       have Y3 : Gx w w3 [(w.heap.size, 27, #[.int .u64 (r.gen : Nat), .int .i64 r.at_, .int .i64 r.len, .int .i64 r.long, .int .u32 (r.sum : Nat), .int .u64 (r.next : Nat)]), (w.heap.size + 1, 27, #[.int .u64 (s.gen : Nat), .int .i64 s.at_, .int .i64 s.len, .int .i64 s.long, .int .u32 (s.sum : Nat), .int .u64 (s.next : Nat)]), (w1.heap.size, 27, #[.int .u64 (x.gen : Nat), .int .i64 x.at_, .int .i64 x.len, .int .i64 x.long, .int .u32 (x.sum : Nat), .int .u64 (x.next : Nat)])] [] [(0, w2.heap.size, .slice A6 32 a6c, octs r)] := (unhide X3).call b3
       have Y3z : Gx w w3 [(w.heap.size, 27, #[.int .u64 (r.gen : Nat), .int .i64 r.at_, .int .i64 r.len, .int .i64 r.long, .int .u32 (r.sum : Nat), .int .u64 (r.next : Nat)]), (w.heap.size + 1, 27, #[.int .u64 (s.gen : Nat), .int .i64 s.at_, .int .i64 s.len, .int .i64 s.long, .int .u32 (s.sum : Nat), .int .u64 (s.next : Nat)]), (w1.heap.size, 27, #[.int .u64 (x.gen : Nat), .int .i64 x.at_, .int .i64 x.len, .int .i64 x.long, .int .u32 (x.sum : Nat), .int .u64 (x.next : Nat)])] [] [(0, w2.heap.size, .slice A6 32 a6c, octs r), (0, w3.heap.size, .slice A7 32 a7c, octs s)] := Y3.addZ (x3.mono (Nat.zero_le _) (Nat.le_refl _))
       clear ca0_0 ca0_1 ca0_2 ca0_3 ca0_4 ca0_5 q0 ca1_0 ca1_1 ca1_2 ca1_3 ca1_4 ca1_5 q1 ca2_0 ca2_1 ca2_2 ca2_3 ca2_4 ca2_5 q2
       obtain ⟨ca0_0, ca0_1, ca0_2, ca0_3, ca0_4, ca0_5⟩ := zk6 (Y3z.get 0 rfl)
       have q0 := (Y3z.get 0 rfl).lt
       obtain ⟨ca1_0, ca1_1, ca1_2, ca1_3, ca1_4, ca1_5⟩ := zk6 (Y3z.get 1 rfl)
       have q1 := (Y3z.get 1 rfl).lt
       obtain ⟨ca2_0, ca2_1, ca2_2, ca2_3, ca2_4, ca2_5⟩ := zk6 (Y3z.get 2 rfl)
       have q2 := (Y3z.get 2 rfl).lt
       have X4 := hide Y3z
       clear X3 b3 Y3 Y3z)
    | (have _t := tk4; clear tk4 _t; go_at_call 13; refine (unhide hF _ _ (unhide X4).bl ((unhide X4).rd 0 rfl)).mono ?_; rintro e w4 ⟨rfl, b4⟩
       have Y4 : Gx w w4 [(w.heap.size, 27, #[.int .u64 (r.gen : Nat), .int .i64 r.at_, .int .i64 r.len, .int .i64 r.long, .int .u32 (r.sum : Nat), .int .u64 (r.next : Nat)]), (w.heap.size + 1, 27, #[.int .u64 (s.gen : Nat), .int .i64 s.at_, .int .i64 s.len, .int .i64 s.long, .int .u32 (s.sum : Nat), .int .u64 (s.next : Nat)]), (w1.heap.size, 27, #[.int .u64 (x.gen : Nat), .int .i64 x.at_, .int .i64 x.len, .int .i64 x.long, .int .u32 (x.sum : Nat), .int .u64 (x.next : Nat)])] [] [(0, w2.heap.size, .slice A6 32 a6c, octs r), (0, w3.heap.size, .slice A7 32 a7c, octs s)] := (unhide X4).call b4
       clear ca0_0 ca0_1 ca0_2 ca0_3 ca0_4 ca0_5 q0 ca1_0 ca1_1 ca1_2 ca1_3 ca1_4 ca1_5 q1 ca2_0 ca2_1 ca2_2 ca2_3 ca2_4 ca2_5 q2
       obtain ⟨ca0_0, ca0_1, ca0_2, ca0_3, ca0_4, ca0_5⟩ := zk6 (Y4.get 0 rfl)
       have q0 := (Y4.get 0 rfl).lt
       obtain ⟨ca1_0, ca1_1, ca1_2, ca1_3, ca1_4, ca1_5⟩ := zk6 (Y4.get 1 rfl)
       have q1 := (Y4.get 1 rfl).lt
       obtain ⟨ca2_0, ca2_1, ca2_2, ca2_3, ca2_4, ca2_5⟩ := zk6 (Y4.get 2 rfl)
       have q2 := (Y4.get 2 rfl).lt
       have Y4b : Gx w (w4.alloc (.cells #[.int .u64 (r.gen : Nat), .int .i64 r.at_, .int .i64 r.len, .int .i64 r.long, .int .u32 (r.sum : Nat), .int .u64 (r.next : Nat)] 27)) [(w.heap.size, 27, #[.int .u64 (r.gen : Nat), .int .i64 r.at_, .int .i64 r.len, .int .i64 r.long, .int .u32 (r.sum : Nat), .int .u64 (r.next : Nat)]), (w.heap.size + 1, 27, #[.int .u64 (s.gen : Nat), .int .i64 s.at_, .int .i64 s.len, .int .i64 s.long, .int .u32 (s.sum : Nat), .int .u64 (s.next : Nat)]), (w1.heap.size, 27, #[.int .u64 (x.gen : Nat), .int .i64 x.at_, .int .i64 x.len, .int .i64 x.long, .int .u32 (x.sum : Nat), .int .u64 (x.next : Nat)]), (w4.heap.size, 27, #[.int .u64 (r.gen : Nat), .int .i64 r.at_, .int .i64 r.len, .int .i64 r.long, .int .u32 (r.sum : Nat), .int .u64 (r.next : Nat)])] [] [(0, w2.heap.size, .slice A6 32 a6c, octs r), (0, w3.heap.size, .slice A7 32 a7c, octs s)] := Y4.newB (w4.heap.size) rfl 27 #[.int .u64 (r.gen : Nat), .int .i64 r.at_, .int .i64 r.len, .int .i64 r.long, .int .u32 (r.sum : Nat), .int .u64 (r.next : Nat)]
       have X5 := hide Y4b
       clear X4 b4 Y4 Y4b)
    | fail)
  have Y := unhide X5
  clear X5 ca0_0 ca0_1 ca0_2 ca0_3 ca0_4 ca0_5 q0 ca1_0 ca1_1 ca1_2 ca1_3 ca1_4 ca1_5 q1 ca2_0 ca2_1 ca2_2 ca2_3 ca2_4 ca2_5 q2
  generalize w4.alloc (.cells #[.int .u64 (r.gen : Nat), .int .i64 r.at_, .int .i64 r.len, .int .i64 r.long, .int .u32 (r.sum : Nat), .int .u64 (r.next : Nat)] 27) = V at *
  have u0 : V.cell? ⟨w.heap.size, 0, none⟩ = some (.int .u64 (r.gen : Nat)) := (Y.get 0 rfl).cell 0
  have u1 : V.cell? ⟨w.heap.size, 1, none⟩ = some (.int .i64 r.at_) := (Y.get 0 rfl).cell 1
  have u2 : V.cell? ⟨w.heap.size, 2, none⟩ = some (.int .i64 r.len) := (Y.get 0 rfl).cell 2
  have u3 : V.cell? ⟨w.heap.size, 3, none⟩ = some (.int .i64 r.long) := (Y.get 0 rfl).cell 3
  have u4 : V.cell? ⟨w.heap.size, 4, none⟩ = some (.int .u32 (r.sum : Nat)) := (Y.get 0 rfl).cell 4
  have u5 : V.cell? ⟨w.heap.size, 5, none⟩ = some (.int .u64 (r.next : Nat)) := (Y.get 0 rfl).cell 5
  have v0 : V.cell? ⟨w.heap.size + 1, 0, none⟩ = some (.int .u64 (s.gen : Nat)) := (Y.get 1 rfl).cell 0
  have v1 : V.cell? ⟨w.heap.size + 1, 1, none⟩ = some (.int .i64 s.at_) := (Y.get 1 rfl).cell 1
  have v2 : V.cell? ⟨w.heap.size + 1, 2, none⟩ = some (.int .i64 s.len) := (Y.get 1 rfl).cell 2
  have v3 : V.cell? ⟨w.heap.size + 1, 3, none⟩ = some (.int .i64 s.long) := (Y.get 1 rfl).cell 3
  have v4 : V.cell? ⟨w.heap.size + 1, 4, none⟩ = some (.int .u32 (s.sum : Nat)) := (Y.get 1 rfl).cell 4
  have v5 : V.cell? ⟨w.heap.size + 1, 5, none⟩ = some (.int .u64 (s.next : Nat)) := (Y.get 1 rfl).cell 5
  have y0 : V.cell? ⟨w4.heap.size, 0, none⟩ = some (.int .u64 (r.gen : Nat)) := (Y.get 3 rfl).cell 0
  have y1 : V.cell? ⟨w4.heap.size, 1, none⟩ = some (.int .i64 r.at_) := (Y.get 3 rfl).cell 1
  have y2 : V.cell? ⟨w4.heap.size, 2, none⟩ = some (.int .i64 r.len) := (Y.get 3 rfl).cell 2
  have y3 : V.cell? ⟨w4.heap.size, 3, none⟩ = some (.int .i64 r.long) := (Y.get 3 rfl).cell 3
  have y4 : V.cell? ⟨w4.heap.size, 4, none⟩ = some (.int .u32 (r.sum : Nat)) := (Y.get 3 rfl).cell 4
  have y5 : V.cell? ⟨w4.heap.size, 5, none⟩ = some (.int .u64 (r.next : Nat)) := (Y.get 3 rfl).cell 5
  have hV := fun n => unhide hS _ _ (V.drewN n) ((Y.drewN n).rd 0 rfl) ((Y.drewN n).rd 1 rfl)
  replace hV := hide hV; replace Y := hide Y
  go_quiet ((go_at_call 19; refine Calls.quiet_of_same ((unhide hV _).mono fun e w' h => ⟨h.1, h.2.symm⟩)))
  go_wp2
  go_ret
  exact ⟨ret_b rfl (by simp), ((unhide Y).drewN _).bl⟩
set_option maxHeartbeats 4000000 in
theorem back_te (r s : Rt) (hT : OkT r) (hT' : OkT s) (A : Option Addr) (c : Nat) (b : List UInt8) (w : World) (ht : Tab w) (hb : Bs 0 w.heap.size w (.slice A b.length c) b) (hn : b.length ≤ 100) (ho : ofB b = true) (hr : rOk r = false) :
    Calls Tryd.prog 4 #[(.agg #[.int .u64 (r.gen : Nat), .int .i64 r.at_, .int .i64 r.len, .int .i64 r.long, .int .u32 (r.sum : Nat), .int .u64 (r.next : Nat)]), (.agg #[.int .u64 (s.gen : Nat), .int .i64 s.at_, .int .i64 s.len, .int .i64 s.long, .int .u32 (s.sum : Nat), .int .u64 (s.next : Nat)]), .slice A b.length c] w fun e w' => e = .returned (.bool true) ∧ Below w.heap.size w w' := by
  have hl := fun W (hB : Below w.heap.size w W) => live_any W (ht.below hB (Nat.le_refl _))
  have hn1 : ¬ (100 : Int) < (b.length : Int) := by omega
  have hO0 := fun W (hB : Below w.heap.size w W) => Of_any (.slice A b.length c) 0 b W (ht.below hB (Nat.le_refl _)) (hb.grow hB)
  have z1 : ofE b = 0 := by unfold ofE; rw [ho]; rfl
  have z2 : ofR b = rdR b := by unfold ofR; rw [ho]; rfl
  rw [z1, z2] at hO0
  obtain ⟨x, hx⟩ : ∃ x, x = rdR b := ⟨_, rfl⟩
  rw [← hx] at hO0
  have xk : rOk x = true := by rw [hx]; exact (ofB_iff.1 ho).1
  have xo : octs x = b := by rw [hx]; exact (ofB_iff.1 ho).2
  have xT : OkT x := by rw [hx]; exact rdR_ok b
  have hX := fun W (hB : Below w.heap.size w W) => Octets_ok x xk xT W (ht.below hB (Nat.le_refl _))
  have hC0 := fun W (_ : Below w.heap.size w W) => Check_any x xT W
  rw [xk, show badE true = 0 from rfl] at hC0
  rw [xo] at hX
  have hS0 := fun v1 W (hB : Below w.heap.size w W) (h1 : Bs 0 W.heap.size W v1 b) => sameb_below v1 (.slice A b.length c) b b W h1 (hb.grow hB)
  rw [show decide (b = b) = true from decide_eq_true rfl] at hS0
  replace hX := hide hX; replace hC0 := hide hC0; replace hS0 := hide hS0
  clear z1 z2 hx xk xo xT
  replace hO0 := hide hO0
  have hR := fun W (_ : Below w.heap.size w W) => Octets_bad r hr hT W
  have hC := fun W (_ : Below w.heap.size w W) => Check_any r hT W
  rw [hr, show badE false = 1 from rfl] at hC
  have hQ := fun W (hB : Below w.heap.size w W) => Octets_some s hT' W (ht.below hB (Nat.le_refl _))
  replace hR := hide hR; replace hC := hide hC; replace hQ := hide hQ
  have X0 : Gx w ((w.alloc (.cells #[.int .u64 (r.gen : Nat), .int .i64 r.at_, .int .i64 r.len, .int .i64 r.long, .int .u32 (r.sum : Nat), .int .u64 (r.next : Nat)] 27)).alloc (.cells #[.int .u64 (s.gen : Nat), .int .i64 s.at_, .int .i64 s.len, .int .i64 s.long, .int .u32 (s.sum : Nat), .int .u64 (s.next : Nat)] 27)) [(w.heap.size, 27, #[.int .u64 (r.gen : Nat), .int .i64 r.at_, .int .i64 r.len, .int .i64 r.long, .int .u32 (r.sum : Nat), .int .u64 (r.next : Nat)]), (w.heap.size + 1, 27, #[.int .u64 (s.gen : Nat), .int .i64 s.at_, .int .i64 s.len, .int .i64 s.long, .int .u32 (s.sum : Nat), .int .u64 (s.next : Nat)])] [] [] := ((Gx.nil w).newB w.heap.size rfl 27 #[.int .u64 (r.gen : Nat), .int .i64 r.at_, .int .i64 r.len, .int .i64 r.long, .int .u32 (r.sum : Nat), .int .u64 (r.next : Nat)]).newB (w.heap.size + 1) (by simp) 27 #[.int .u64 (s.gen : Nat), .int .i64 s.at_, .int .i64 s.len, .int .i64 s.long, .int .u32 (s.sum : Nat), .int .u64 (s.next : Nat)]
  replace X0 := hide X0; replace hl := hide hl
  clear hT hT' ht hb hn ho hr
  have tk0 : True := trivial
  have tk1 : True := trivial
  have tk2 : True := trivial
  have tk3 : True := trivial
  have tk4 : True := trivial
  have tk5 : True := trivial
  have tk6 : True := trivial
  have tk7 : True := trivial
  go_enter Tryd.func4, Tryd.ntmps4
  go_upto_region 1 with (fail)
  generalize hW : World.alloc (World.alloc w _) _ = W at *
  clear hW
  obtain ⟨ca0_0, ca0_1, ca0_2, ca0_3, ca0_4, ca0_5⟩ := zk6 ((unhide X0).get 0 rfl)
  have q0 := ((unhide X0).get 0 rfl).lt
  obtain ⟨ca1_0, ca1_1, ca1_2, ca1_3, ca1_4, ca1_5⟩ := zk6 ((unhide X0).get 1 rfl)
  have q1 := ((unhide X0).get 1 rfl).lt
  go_wp2_with (first
    | (have _t := tk0; clear tk0 _t; go_at_call 8; refine (unhide hl _ (unhide X0).bl).mono ?_; rintro e w0 ⟨rfl, b0⟩
       have Y0 : Gx w w0 [(w.heap.size, 27, #[.int .u64 (r.gen : Nat), .int .i64 r.at_, .int .i64 r.len, .int .i64 r.long, .int .u32 (r.sum : Nat), .int .u64 (r.next : Nat)]), (w.heap.size + 1, 27, #[.int .u64 (s.gen : Nat), .int .i64 s.at_, .int .i64 s.len, .int .i64 s.long, .int .u32 (s.sum : Nat), .int .u64 (s.next : Nat)])] [] [] := (unhide X0).call b0
       clear ca0_0 ca0_1 ca0_2 ca0_3 ca0_4 ca0_5 q0 ca1_0 ca1_1 ca1_2 ca1_3 ca1_4 ca1_5 q1
       obtain ⟨ca0_0, ca0_1, ca0_2, ca0_3, ca0_4, ca0_5⟩ := zk6 (Y0.get 0 rfl)
       have q0 := (Y0.get 0 rfl).lt
       obtain ⟨ca1_0, ca1_1, ca1_2, ca1_3, ca1_4, ca1_5⟩ := zk6 (Y0.get 1 rfl)
       have q1 := (Y0.get 1 rfl).lt
       have X1 := hide Y0
       clear X0 b0 Y0)
    | (have _t := tk1; clear tk1 _t; go_at_call 13; refine (unhide hO0 _ (unhide X1).bl).mono ?_; rintro e w1 ⟨rfl, b1⟩
       have Y1 : Gx w w1 [(w.heap.size, 27, #[.int .u64 (r.gen : Nat), .int .i64 r.at_, .int .i64 r.len, .int .i64 r.long, .int .u32 (r.sum : Nat), .int .u64 (r.next : Nat)]), (w.heap.size + 1, 27, #[.int .u64 (s.gen : Nat), .int .i64 s.at_, .int .i64 s.len, .int .i64 s.long, .int .u32 (s.sum : Nat), .int .u64 (s.next : Nat)])] [] [] := (unhide X1).call b1
       clear ca0_0 ca0_1 ca0_2 ca0_3 ca0_4 ca0_5 q0 ca1_0 ca1_1 ca1_2 ca1_3 ca1_4 ca1_5 q1
       obtain ⟨ca0_0, ca0_1, ca0_2, ca0_3, ca0_4, ca0_5⟩ := zk6 (Y1.get 0 rfl)
       have q0 := (Y1.get 0 rfl).lt
       obtain ⟨ca1_0, ca1_1, ca1_2, ca1_3, ca1_4, ca1_5⟩ := zk6 (Y1.get 1 rfl)
       have q1 := (Y1.get 1 rfl).lt
       have Y1b : Gx w (w1.alloc (.cells #[.int .u64 (x.gen : Nat), .int .i64 x.at_, .int .i64 x.len, .int .i64 x.long, .int .u32 (x.sum : Nat), .int .u64 (x.next : Nat)] 27)) [(w.heap.size, 27, #[.int .u64 (r.gen : Nat), .int .i64 r.at_, .int .i64 r.len, .int .i64 r.long, .int .u32 (r.sum : Nat), .int .u64 (r.next : Nat)]), (w.heap.size + 1, 27, #[.int .u64 (s.gen : Nat), .int .i64 s.at_, .int .i64 s.len, .int .i64 s.long, .int .u32 (s.sum : Nat), .int .u64 (s.next : Nat)]), (w1.heap.size, 27, #[.int .u64 (x.gen : Nat), .int .i64 x.at_, .int .i64 x.len, .int .i64 x.long, .int .u32 (x.sum : Nat), .int .u64 (x.next : Nat)])] [] [] := Y1.newB (w1.heap.size) rfl 27 #[.int .u64 (x.gen : Nat), .int .i64 x.at_, .int .i64 x.len, .int .i64 x.long, .int .u32 (x.sum : Nat), .int .u64 (x.next : Nat)]
       have X2 := hide Y1b
       clear X1 b1 Y1 Y1b)
    | (have _t := tk2; clear tk2 _t; go_at_call 11; refine (unhide hX _ (unhide X2).bl).mono ?_; rintro e w2 ⟨A5, c5, rfl, x5, b2⟩
       have Y2 : Gx w w2 [(w.heap.size, 27, #[.int .u64 (r.gen : Nat), .int .i64 r.at_, .int .i64 r.len, .int .i64 r.long, .int .u32 (r.sum : Nat), .int .u64 (r.next : Nat)]), (w.heap.size + 1, 27, #[.int .u64 (s.gen : Nat), .int .i64 s.at_, .int .i64 s.len, .int .i64 s.long, .int .u32 (s.sum : Nat), .int .u64 (s.next : Nat)]), (w1.heap.size, 27, #[.int .u64 (x.gen : Nat), .int .i64 x.at_, .int .i64 x.len, .int .i64 x.long, .int .u32 (x.sum : Nat), .int .u64 (x.next : Nat)])] [] [] := (unhide X2).call b2
       have Y2z : Gx w w2 [(w.heap.size, 27, #[.int .u64 (r.gen : Nat), .int .i64 r.at_, .int .i64 r.len, .int .i64 r.long, .int .u32 (r.sum : Nat), .int .u64 (r.next : Nat)]), (w.heap.size + 1, 27, #[.int .u64 (s.gen : Nat), .int .i64 s.at_, .int .i64 s.len, .int .i64 s.long, .int .u32 (s.sum : Nat), .int .u64 (s.next : Nat)]), (w1.heap.size, 27, #[.int .u64 (x.gen : Nat), .int .i64 x.at_, .int .i64 x.len, .int .i64 x.long, .int .u32 (x.sum : Nat), .int .u64 (x.next : Nat)])] [] [(0, w2.heap.size, .slice A5 32 c5, b)] := Y2.addZ (x5.mono (Nat.zero_le _) (Nat.le_refl _))
       clear ca0_0 ca0_1 ca0_2 ca0_3 ca0_4 ca0_5 q0 ca1_0 ca1_1 ca1_2 ca1_3 ca1_4 ca1_5 q1
       obtain ⟨ca0_0, ca0_1, ca0_2, ca0_3, ca0_4, ca0_5⟩ := zk6 (Y2z.get 0 rfl)
       have q0 := (Y2z.get 0 rfl).lt
       obtain ⟨ca1_0, ca1_1, ca1_2, ca1_3, ca1_4, ca1_5⟩ := zk6 (Y2z.get 1 rfl)
       have q1 := (Y2z.get 1 rfl).lt
       obtain ⟨ca2_0, ca2_1, ca2_2, ca2_3, ca2_4, ca2_5⟩ := zk6 (Y2z.get 2 rfl)
       have q2 := (Y2z.get 2 rfl).lt
       have X3 := hide Y2z
       clear X2 b2 Y2 Y2z)
    | (have _t := tk3; clear tk3 _t; go_at_call 19; refine (unhide hS0 _ _ (unhide X3).bl ((unhide X3).rd 0 rfl)).mono ?_; rintro e w3 ⟨rfl, b3⟩
       have Y3 : Gx w w3 [(w.heap.size, 27, #[.int .u64 (r.gen : Nat), .int .i64 r.at_, .int .i64 r.len, .int .i64 r.long, .int .u32 (r.sum : Nat), .int .u64 (r.next : Nat)]), (w.heap.size + 1, 27, #[.int .u64 (s.gen : Nat), .int .i64 s.at_, .int .i64 s.len, .int .i64 s.long, .int .u32 (s.sum : Nat), .int .u64 (s.next : Nat)]), (w1.heap.size, 27, #[.int .u64 (x.gen : Nat), .int .i64 x.at_, .int .i64 x.len, .int .i64 x.long, .int .u32 (x.sum : Nat), .int .u64 (x.next : Nat)])] [] [(0, w2.heap.size, .slice A5 32 c5, b)] := (unhide X3).call b3
       clear ca0_0 ca0_1 ca0_2 ca0_3 ca0_4 ca0_5 q0 ca1_0 ca1_1 ca1_2 ca1_3 ca1_4 ca1_5 q1 ca2_0 ca2_1 ca2_2 ca2_3 ca2_4 ca2_5 q2
       obtain ⟨ca0_0, ca0_1, ca0_2, ca0_3, ca0_4, ca0_5⟩ := zk6 (Y3.get 0 rfl)
       have q0 := (Y3.get 0 rfl).lt
       obtain ⟨ca1_0, ca1_1, ca1_2, ca1_3, ca1_4, ca1_5⟩ := zk6 (Y3.get 1 rfl)
       have q1 := (Y3.get 1 rfl).lt
       obtain ⟨ca2_0, ca2_1, ca2_2, ca2_3, ca2_4, ca2_5⟩ := zk6 (Y3.get 2 rfl)
       have q2 := (Y3.get 2 rfl).lt
       have X4 := hide Y3
       clear X3 b3 Y3)
    | (have _t := tk4; clear tk4 _t; go_at_call 21; refine (unhide hC0 _ (unhide X4).bl).mono ?_; rintro e w4 ⟨rfl, b4⟩
       have Y4 : Gx w w4 [(w.heap.size, 27, #[.int .u64 (r.gen : Nat), .int .i64 r.at_, .int .i64 r.len, .int .i64 r.long, .int .u32 (r.sum : Nat), .int .u64 (r.next : Nat)]), (w.heap.size + 1, 27, #[.int .u64 (s.gen : Nat), .int .i64 s.at_, .int .i64 s.len, .int .i64 s.long, .int .u32 (s.sum : Nat), .int .u64 (s.next : Nat)]), (w1.heap.size, 27, #[.int .u64 (x.gen : Nat), .int .i64 x.at_, .int .i64 x.len, .int .i64 x.long, .int .u32 (x.sum : Nat), .int .u64 (x.next : Nat)])] [] [(0, w2.heap.size, .slice A5 32 c5, b)] := (unhide X4).call b4
       clear ca0_0 ca0_1 ca0_2 ca0_3 ca0_4 ca0_5 q0 ca1_0 ca1_1 ca1_2 ca1_3 ca1_4 ca1_5 q1 ca2_0 ca2_1 ca2_2 ca2_3 ca2_4 ca2_5 q2
       obtain ⟨ca0_0, ca0_1, ca0_2, ca0_3, ca0_4, ca0_5⟩ := zk6 (Y4.get 0 rfl)
       have q0 := (Y4.get 0 rfl).lt
       obtain ⟨ca1_0, ca1_1, ca1_2, ca1_3, ca1_4, ca1_5⟩ := zk6 (Y4.get 1 rfl)
       have q1 := (Y4.get 1 rfl).lt
       obtain ⟨ca2_0, ca2_1, ca2_2, ca2_3, ca2_4, ca2_5⟩ := zk6 (Y4.get 2 rfl)
       have q2 := (Y4.get 2 rfl).lt
       have X5 := hide Y4
       clear X4 b4 Y4)
    | (have _t := tk5; clear tk5 _t; go_at_call 11; refine (unhide hR _ (unhide X5).bl).mono ?_; rintro e w5 ⟨rfl, b5⟩
       have Y5 : Gx w w5 [(w.heap.size, 27, #[.int .u64 (r.gen : Nat), .int .i64 r.at_, .int .i64 r.len, .int .i64 r.long, .int .u32 (r.sum : Nat), .int .u64 (r.next : Nat)]), (w.heap.size + 1, 27, #[.int .u64 (s.gen : Nat), .int .i64 s.at_, .int .i64 s.len, .int .i64 s.long, .int .u32 (s.sum : Nat), .int .u64 (s.next : Nat)]), (w1.heap.size, 27, #[.int .u64 (x.gen : Nat), .int .i64 x.at_, .int .i64 x.len, .int .i64 x.long, .int .u32 (x.sum : Nat), .int .u64 (x.next : Nat)])] [] [(0, w2.heap.size, .slice A5 32 c5, b)] := (unhide X5).call b5
       clear ca0_0 ca0_1 ca0_2 ca0_3 ca0_4 ca0_5 q0 ca1_0 ca1_1 ca1_2 ca1_3 ca1_4 ca1_5 q1 ca2_0 ca2_1 ca2_2 ca2_3 ca2_4 ca2_5 q2
       obtain ⟨ca0_0, ca0_1, ca0_2, ca0_3, ca0_4, ca0_5⟩ := zk6 (Y5.get 0 rfl)
       have q0 := (Y5.get 0 rfl).lt
       obtain ⟨ca1_0, ca1_1, ca1_2, ca1_3, ca1_4, ca1_5⟩ := zk6 (Y5.get 1 rfl)
       have q1 := (Y5.get 1 rfl).lt
       obtain ⟨ca2_0, ca2_1, ca2_2, ca2_3, ca2_4, ca2_5⟩ := zk6 (Y5.get 2 rfl)
       have q2 := (Y5.get 2 rfl).lt
       have X6 := hide Y5
       clear X5 b5 Y5)
    | (have _t := tk6; clear tk6 _t; go_at_call 11; refine (unhide hQ _ (unhide X6).bl).mono ?_; rintro e w6 ⟨A9, n9, c9, E9, rfl, b6⟩
       have Y6 : Gx w w6 [(w.heap.size, 27, #[.int .u64 (r.gen : Nat), .int .i64 r.at_, .int .i64 r.len, .int .i64 r.long, .int .u32 (r.sum : Nat), .int .u64 (r.next : Nat)]), (w.heap.size + 1, 27, #[.int .u64 (s.gen : Nat), .int .i64 s.at_, .int .i64 s.len, .int .i64 s.long, .int .u32 (s.sum : Nat), .int .u64 (s.next : Nat)]), (w1.heap.size, 27, #[.int .u64 (x.gen : Nat), .int .i64 x.at_, .int .i64 x.len, .int .i64 x.long, .int .u32 (x.sum : Nat), .int .u64 (x.next : Nat)])] [] [(0, w2.heap.size, .slice A5 32 c5, b)] := (unhide X6).call b6
       clear ca0_0 ca0_1 ca0_2 ca0_3 ca0_4 ca0_5 q0 ca1_0 ca1_1 ca1_2 ca1_3 ca1_4 ca1_5 q1 ca2_0 ca2_1 ca2_2 ca2_3 ca2_4 ca2_5 q2
       obtain ⟨ca0_0, ca0_1, ca0_2, ca0_3, ca0_4, ca0_5⟩ := zk6 (Y6.get 0 rfl)
       have q0 := (Y6.get 0 rfl).lt
       obtain ⟨ca1_0, ca1_1, ca1_2, ca1_3, ca1_4, ca1_5⟩ := zk6 (Y6.get 1 rfl)
       have q1 := (Y6.get 1 rfl).lt
       obtain ⟨ca2_0, ca2_1, ca2_2, ca2_3, ca2_4, ca2_5⟩ := zk6 (Y6.get 2 rfl)
       have q2 := (Y6.get 2 rfl).lt
       have X7 := hide Y6
       clear X6 b6 Y6)
    | (have _t := tk7; clear tk7 _t; go_at_call 21; refine (unhide hC _ (unhide X7).bl).mono ?_; rintro e w7 ⟨rfl, b7⟩
       have Y7 : Gx w w7 [(w.heap.size, 27, #[.int .u64 (r.gen : Nat), .int .i64 r.at_, .int .i64 r.len, .int .i64 r.long, .int .u32 (r.sum : Nat), .int .u64 (r.next : Nat)]), (w.heap.size + 1, 27, #[.int .u64 (s.gen : Nat), .int .i64 s.at_, .int .i64 s.len, .int .i64 s.long, .int .u32 (s.sum : Nat), .int .u64 (s.next : Nat)]), (w1.heap.size, 27, #[.int .u64 (x.gen : Nat), .int .i64 x.at_, .int .i64 x.len, .int .i64 x.long, .int .u32 (x.sum : Nat), .int .u64 (x.next : Nat)])] [] [(0, w2.heap.size, .slice A5 32 c5, b)] := (unhide X7).call b7
       clear ca0_0 ca0_1 ca0_2 ca0_3 ca0_4 ca0_5 q0 ca1_0 ca1_1 ca1_2 ca1_3 ca1_4 ca1_5 q1 ca2_0 ca2_1 ca2_2 ca2_3 ca2_4 ca2_5 q2
       obtain ⟨ca0_0, ca0_1, ca0_2, ca0_3, ca0_4, ca0_5⟩ := zk6 (Y7.get 0 rfl)
       have q0 := (Y7.get 0 rfl).lt
       obtain ⟨ca1_0, ca1_1, ca1_2, ca1_3, ca1_4, ca1_5⟩ := zk6 (Y7.get 1 rfl)
       have q1 := (Y7.get 1 rfl).lt
       obtain ⟨ca2_0, ca2_1, ca2_2, ca2_3, ca2_4, ca2_5⟩ := zk6 (Y7.get 2 rfl)
       have q2 := (Y7.get 2 rfl).lt
       have X8 := hide Y7
       clear X7 b7 Y7)
    | fail)
  go_ret
  exact ⟨rfl, (unhide X8).bl⟩
set_option maxHeartbeats 4000000 in
theorem back_tf (r s : Rt) (hT : OkT r) (hT' : OkT s) (A : Option Addr) (c : Nat) (b : List UInt8) (w : World) (ht : Tab w) (hb : Bs 0 w.heap.size w (.slice A b.length c) b) (hn : b.length ≤ 100) (ho : ofB b = true) (hr : rOk r = true) (hs : rOk s = false) :
    Calls Tryd.prog 4 #[(.agg #[.int .u64 (r.gen : Nat), .int .i64 r.at_, .int .i64 r.len, .int .i64 r.long, .int .u32 (r.sum : Nat), .int .u64 (r.next : Nat)]), (.agg #[.int .u64 (s.gen : Nat), .int .i64 s.at_, .int .i64 s.len, .int .i64 s.long, .int .u32 (s.sum : Nat), .int .u64 (s.next : Nat)]), .slice A b.length c] w fun e w' => e = .returned (.bool true) ∧ Below w.heap.size w w' := by
  have hl := fun W (hB : Below w.heap.size w W) => live_any W (ht.below hB (Nat.le_refl _))
  have hn1 : ¬ (100 : Int) < (b.length : Int) := by omega
  have hO0 := fun W (hB : Below w.heap.size w W) => Of_any (.slice A b.length c) 0 b W (ht.below hB (Nat.le_refl _)) (hb.grow hB)
  have z1 : ofE b = 0 := by unfold ofE; rw [ho]; rfl
  have z2 : ofR b = rdR b := by unfold ofR; rw [ho]; rfl
  rw [z1, z2] at hO0
  obtain ⟨x, hx⟩ : ∃ x, x = rdR b := ⟨_, rfl⟩
  rw [← hx] at hO0
  have xk : rOk x = true := by rw [hx]; exact (ofB_iff.1 ho).1
  have xo : octs x = b := by rw [hx]; exact (ofB_iff.1 ho).2
  have xT : OkT x := by rw [hx]; exact rdR_ok b
  have hX := fun W (hB : Below w.heap.size w W) => Octets_ok x xk xT W (ht.below hB (Nat.le_refl _))
  have hC0 := fun W (_ : Below w.heap.size w W) => Check_any x xT W
  rw [xk, show badE true = 0 from rfl] at hC0
  rw [xo] at hX
  have hS0 := fun v1 W (hB : Below w.heap.size w W) (h1 : Bs 0 W.heap.size W v1 b) => sameb_below v1 (.slice A b.length c) b b W h1 (hb.grow hB)
  rw [show decide (b = b) = true from decide_eq_true rfl] at hS0
  replace hX := hide hX; replace hC0 := hide hC0; replace hS0 := hide hS0
  clear z1 z2 hx xk xo xT
  replace hO0 := hide hO0
  have hR := fun W (hB : Below w.heap.size w W) => Octets_ok r hr hT W (ht.below hB (Nat.le_refl _))
  have hF := fun v1 W (hB : Below w.heap.size w W) (h1 : Bs 0 W.heap.size W v1 (octs r)) => Of_any v1 0 (octs r) W (ht.below hB (Nat.le_refl _)) h1
  rw [ofR_octs hr hT, show ofE (octs r) = 0 by unfold ofE; rw [ofB_octs hr hT]; rfl] at hF
  have hQ := fun W (_ : Below w.heap.size w W) => Octets_bad s hs hT' W
  replace hR := hide hR; replace hF := hide hF; replace hQ := hide hQ
  have X0 : Gx w ((w.alloc (.cells #[.int .u64 (r.gen : Nat), .int .i64 r.at_, .int .i64 r.len, .int .i64 r.long, .int .u32 (r.sum : Nat), .int .u64 (r.next : Nat)] 27)).alloc (.cells #[.int .u64 (s.gen : Nat), .int .i64 s.at_, .int .i64 s.len, .int .i64 s.long, .int .u32 (s.sum : Nat), .int .u64 (s.next : Nat)] 27)) [(w.heap.size, 27, #[.int .u64 (r.gen : Nat), .int .i64 r.at_, .int .i64 r.len, .int .i64 r.long, .int .u32 (r.sum : Nat), .int .u64 (r.next : Nat)]), (w.heap.size + 1, 27, #[.int .u64 (s.gen : Nat), .int .i64 s.at_, .int .i64 s.len, .int .i64 s.long, .int .u32 (s.sum : Nat), .int .u64 (s.next : Nat)])] [] [] := ((Gx.nil w).newB w.heap.size rfl 27 #[.int .u64 (r.gen : Nat), .int .i64 r.at_, .int .i64 r.len, .int .i64 r.long, .int .u32 (r.sum : Nat), .int .u64 (r.next : Nat)]).newB (w.heap.size + 1) (by simp) 27 #[.int .u64 (s.gen : Nat), .int .i64 s.at_, .int .i64 s.len, .int .i64 s.long, .int .u32 (s.sum : Nat), .int .u64 (s.next : Nat)]
  replace X0 := hide X0; replace hl := hide hl
  clear hT hT' ht hb hn ho hr hs
  have tk0 : True := trivial
  have tk1 : True := trivial
  have tk2 : True := trivial
  have tk3 : True := trivial
  have tk4 : True := trivial
  have tk5 : True := trivial
  have tk6 : True := trivial
  have tk7 : True := trivial
  go_enter Tryd.func4, Tryd.ntmps4
  go_upto_region 1 with (fail)
  generalize hW : World.alloc (World.alloc w _) _ = W at *
  clear hW
  obtain ⟨ca0_0, ca0_1, ca0_2, ca0_3, ca0_4, ca0_5⟩ := zk6 ((unhide X0).get 0 rfl)
  have q0 := ((unhide X0).get 0 rfl).lt
  obtain ⟨ca1_0, ca1_1, ca1_2, ca1_3, ca1_4, ca1_5⟩ := zk6 ((unhide X0).get 1 rfl)
  have q1 := ((unhide X0).get 1 rfl).lt
  go_upto_region 14 with (first
    | (have _t := tk0; clear tk0 _t; go_at_call 8; refine (unhide hl _ (unhide X0).bl).mono ?_; rintro e w0 ⟨rfl, b0⟩
       have Y0 : Gx w w0 [(w.heap.size, 27, #[.int .u64 (r.gen : Nat), .int .i64 r.at_, .int .i64 r.len, .int .i64 r.long, .int .u32 (r.sum : Nat), .int .u64 (r.next : Nat)]), (w.heap.size + 1, 27, #[.int .u64 (s.gen : Nat), .int .i64 s.at_, .int .i64 s.len, .int .i64 s.long, .int .u32 (s.sum : Nat), .int .u64 (s.next : Nat)])] [] [] := (unhide X0).call b0
       clear ca0_0 ca0_1 ca0_2 ca0_3 ca0_4 ca0_5 q0 ca1_0 ca1_1 ca1_2 ca1_3 ca1_4 ca1_5 q1
       obtain ⟨ca0_0, ca0_1, ca0_2, ca0_3, ca0_4, ca0_5⟩ := zk6 (Y0.get 0 rfl)
       have q0 := (Y0.get 0 rfl).lt
       obtain ⟨ca1_0, ca1_1, ca1_2, ca1_3, ca1_4, ca1_5⟩ := zk6 (Y0.get 1 rfl)
       have q1 := (Y0.get 1 rfl).lt
       have X1 := hide Y0
       clear X0 b0 Y0)
    | (have _t := tk1; clear tk1 _t; go_at_call 13; refine (unhide hO0 _ (unhide X1).bl).mono ?_; rintro e w1 ⟨rfl, b1⟩
       have Y1 : Gx w w1 [(w.heap.size, 27, #[.int .u64 (r.gen : Nat), .int .i64 r.at_, .int .i64 r.len, .int .i64 r.long, .int .u32 (r.sum : Nat), .int .u64 (r.next : Nat)]), (w.heap.size + 1, 27, #[.int .u64 (s.gen : Nat), .int .i64 s.at_, .int .i64 s.len, .int .i64 s.long, .int .u32 (s.sum : Nat), .int .u64 (s.next : Nat)])] [] [] := (unhide X1).call b1
       clear ca0_0 ca0_1 ca0_2 ca0_3 ca0_4 ca0_5 q0 ca1_0 ca1_1 ca1_2 ca1_3 ca1_4 ca1_5 q1
       obtain ⟨ca0_0, ca0_1, ca0_2, ca0_3, ca0_4, ca0_5⟩ := zk6 (Y1.get 0 rfl)
       have q0 := (Y1.get 0 rfl).lt
       obtain ⟨ca1_0, ca1_1, ca1_2, ca1_3, ca1_4, ca1_5⟩ := zk6 (Y1.get 1 rfl)
       have q1 := (Y1.get 1 rfl).lt
       have Y1b : Gx w (w1.alloc (.cells #[.int .u64 (x.gen : Nat), .int .i64 x.at_, .int .i64 x.len, .int .i64 x.long, .int .u32 (x.sum : Nat), .int .u64 (x.next : Nat)] 27)) [(w.heap.size, 27, #[.int .u64 (r.gen : Nat), .int .i64 r.at_, .int .i64 r.len, .int .i64 r.long, .int .u32 (r.sum : Nat), .int .u64 (r.next : Nat)]), (w.heap.size + 1, 27, #[.int .u64 (s.gen : Nat), .int .i64 s.at_, .int .i64 s.len, .int .i64 s.long, .int .u32 (s.sum : Nat), .int .u64 (s.next : Nat)]), (w1.heap.size, 27, #[.int .u64 (x.gen : Nat), .int .i64 x.at_, .int .i64 x.len, .int .i64 x.long, .int .u32 (x.sum : Nat), .int .u64 (x.next : Nat)])] [] [] := Y1.newB (w1.heap.size) rfl 27 #[.int .u64 (x.gen : Nat), .int .i64 x.at_, .int .i64 x.len, .int .i64 x.long, .int .u32 (x.sum : Nat), .int .u64 (x.next : Nat)]
       have X2 := hide Y1b
       clear X1 b1 Y1 Y1b)
    | (have _t := tk2; clear tk2 _t; go_at_call 11; refine (unhide hX _ (unhide X2).bl).mono ?_; rintro e w2 ⟨A5, c5, rfl, x5, b2⟩
       have Y2 : Gx w w2 [(w.heap.size, 27, #[.int .u64 (r.gen : Nat), .int .i64 r.at_, .int .i64 r.len, .int .i64 r.long, .int .u32 (r.sum : Nat), .int .u64 (r.next : Nat)]), (w.heap.size + 1, 27, #[.int .u64 (s.gen : Nat), .int .i64 s.at_, .int .i64 s.len, .int .i64 s.long, .int .u32 (s.sum : Nat), .int .u64 (s.next : Nat)]), (w1.heap.size, 27, #[.int .u64 (x.gen : Nat), .int .i64 x.at_, .int .i64 x.len, .int .i64 x.long, .int .u32 (x.sum : Nat), .int .u64 (x.next : Nat)])] [] [] := (unhide X2).call b2
       have Y2z : Gx w w2 [(w.heap.size, 27, #[.int .u64 (r.gen : Nat), .int .i64 r.at_, .int .i64 r.len, .int .i64 r.long, .int .u32 (r.sum : Nat), .int .u64 (r.next : Nat)]), (w.heap.size + 1, 27, #[.int .u64 (s.gen : Nat), .int .i64 s.at_, .int .i64 s.len, .int .i64 s.long, .int .u32 (s.sum : Nat), .int .u64 (s.next : Nat)]), (w1.heap.size, 27, #[.int .u64 (x.gen : Nat), .int .i64 x.at_, .int .i64 x.len, .int .i64 x.long, .int .u32 (x.sum : Nat), .int .u64 (x.next : Nat)])] [] [(0, w2.heap.size, .slice A5 32 c5, b)] := Y2.addZ (x5.mono (Nat.zero_le _) (Nat.le_refl _))
       clear ca0_0 ca0_1 ca0_2 ca0_3 ca0_4 ca0_5 q0 ca1_0 ca1_1 ca1_2 ca1_3 ca1_4 ca1_5 q1
       obtain ⟨ca0_0, ca0_1, ca0_2, ca0_3, ca0_4, ca0_5⟩ := zk6 (Y2z.get 0 rfl)
       have q0 := (Y2z.get 0 rfl).lt
       obtain ⟨ca1_0, ca1_1, ca1_2, ca1_3, ca1_4, ca1_5⟩ := zk6 (Y2z.get 1 rfl)
       have q1 := (Y2z.get 1 rfl).lt
       obtain ⟨ca2_0, ca2_1, ca2_2, ca2_3, ca2_4, ca2_5⟩ := zk6 (Y2z.get 2 rfl)
       have q2 := (Y2z.get 2 rfl).lt
       have X3 := hide Y2z
       clear X2 b2 Y2 Y2z)
    | (have _t := tk3; clear tk3 _t; go_at_call 19; refine (unhide hS0 _ _ (unhide X3).bl ((unhide X3).rd 0 rfl)).mono ?_; rintro e w3 ⟨rfl, b3⟩
       have Y3 : Gx w w3 [(w.heap.size, 27, #[.int .u64 (r.gen : Nat), .int .i64 r.at_, .int .i64 r.len, .int .i64 r.long, .int .u32 (r.sum : Nat), .int .u64 (r.next : Nat)]), (w.heap.size + 1, 27, #[.int .u64 (s.gen : Nat), .int .i64 s.at_, .int .i64 s.len, .int .i64 s.long, .int .u32 (s.sum : Nat), .int .u64 (s.next : Nat)]), (w1.heap.size, 27, #[.int .u64 (x.gen : Nat), .int .i64 x.at_, .int .i64 x.len, .int .i64 x.long, .int .u32 (x.sum : Nat), .int .u64 (x.next : Nat)])] [] [(0, w2.heap.size, .slice A5 32 c5, b)] := (unhide X3).call b3
       clear ca0_0 ca0_1 ca0_2 ca0_3 ca0_4 ca0_5 q0 ca1_0 ca1_1 ca1_2 ca1_3 ca1_4 ca1_5 q1 ca2_0 ca2_1 ca2_2 ca2_3 ca2_4 ca2_5 q2
       obtain ⟨ca0_0, ca0_1, ca0_2, ca0_3, ca0_4, ca0_5⟩ := zk6 (Y3.get 0 rfl)
       have q0 := (Y3.get 0 rfl).lt
       obtain ⟨ca1_0, ca1_1, ca1_2, ca1_3, ca1_4, ca1_5⟩ := zk6 (Y3.get 1 rfl)
       have q1 := (Y3.get 1 rfl).lt
       obtain ⟨ca2_0, ca2_1, ca2_2, ca2_3, ca2_4, ca2_5⟩ := zk6 (Y3.get 2 rfl)
       have q2 := (Y3.get 2 rfl).lt
       have X4 := hide Y3
       clear X3 b3 Y3)
    | (have _t := tk4; clear tk4 _t; go_at_call 21; refine (unhide hC0 _ (unhide X4).bl).mono ?_; rintro e w4 ⟨rfl, b4⟩
       have Y4 : Gx w w4 [(w.heap.size, 27, #[.int .u64 (r.gen : Nat), .int .i64 r.at_, .int .i64 r.len, .int .i64 r.long, .int .u32 (r.sum : Nat), .int .u64 (r.next : Nat)]), (w.heap.size + 1, 27, #[.int .u64 (s.gen : Nat), .int .i64 s.at_, .int .i64 s.len, .int .i64 s.long, .int .u32 (s.sum : Nat), .int .u64 (s.next : Nat)]), (w1.heap.size, 27, #[.int .u64 (x.gen : Nat), .int .i64 x.at_, .int .i64 x.len, .int .i64 x.long, .int .u32 (x.sum : Nat), .int .u64 (x.next : Nat)])] [] [(0, w2.heap.size, .slice A5 32 c5, b)] := (unhide X4).call b4
       clear ca0_0 ca0_1 ca0_2 ca0_3 ca0_4 ca0_5 q0 ca1_0 ca1_1 ca1_2 ca1_3 ca1_4 ca1_5 q1 ca2_0 ca2_1 ca2_2 ca2_3 ca2_4 ca2_5 q2
       obtain ⟨ca0_0, ca0_1, ca0_2, ca0_3, ca0_4, ca0_5⟩ := zk6 (Y4.get 0 rfl)
       have q0 := (Y4.get 0 rfl).lt
       obtain ⟨ca1_0, ca1_1, ca1_2, ca1_3, ca1_4, ca1_5⟩ := zk6 (Y4.get 1 rfl)
       have q1 := (Y4.get 1 rfl).lt
       obtain ⟨ca2_0, ca2_1, ca2_2, ca2_3, ca2_4, ca2_5⟩ := zk6 (Y4.get 2 rfl)
       have q2 := (Y4.get 2 rfl).lt
       have X5 := hide Y4
       clear X4 b4 Y4)
    | (have _t := tk5; clear tk5 _t; go_at_call 11; refine (unhide hR _ (unhide X5).bl).mono ?_; rintro e w5 ⟨A6, a6c, rfl, x5, b5⟩
       have Y5 : Gx w w5 [(w.heap.size, 27, #[.int .u64 (r.gen : Nat), .int .i64 r.at_, .int .i64 r.len, .int .i64 r.long, .int .u32 (r.sum : Nat), .int .u64 (r.next : Nat)]), (w.heap.size + 1, 27, #[.int .u64 (s.gen : Nat), .int .i64 s.at_, .int .i64 s.len, .int .i64 s.long, .int .u32 (s.sum : Nat), .int .u64 (s.next : Nat)]), (w1.heap.size, 27, #[.int .u64 (x.gen : Nat), .int .i64 x.at_, .int .i64 x.len, .int .i64 x.long, .int .u32 (x.sum : Nat), .int .u64 (x.next : Nat)])] [] [(0, w2.heap.size, .slice A5 32 c5, b)] := (unhide X5).call b5
       have Y5z : Gx w w5 [(w.heap.size, 27, #[.int .u64 (r.gen : Nat), .int .i64 r.at_, .int .i64 r.len, .int .i64 r.long, .int .u32 (r.sum : Nat), .int .u64 (r.next : Nat)]), (w.heap.size + 1, 27, #[.int .u64 (s.gen : Nat), .int .i64 s.at_, .int .i64 s.len, .int .i64 s.long, .int .u32 (s.sum : Nat), .int .u64 (s.next : Nat)]), (w1.heap.size, 27, #[.int .u64 (x.gen : Nat), .int .i64 x.at_, .int .i64 x.len, .int .i64 x.long, .int .u32 (x.sum : Nat), .int .u64 (x.next : Nat)])] [] [(0, w2.heap.size, .slice A5 32 c5, b), (0, w5.heap.size, .slice A6 32 a6c, octs r)] := Y5.addZ (x5.mono (Nat.zero_le _) (Nat.le_refl _))
       clear ca0_0 ca0_1 ca0_2 ca0_3 ca0_4 ca0_5 q0 ca1_0 ca1_1 ca1_2 ca1_3 ca1_4 ca1_5 q1 ca2_0 ca2_1 ca2_2 ca2_3 ca2_4 ca2_5 q2
       obtain ⟨ca0_0, ca0_1, ca0_2, ca0_3, ca0_4, ca0_5⟩ := zk6 (Y5z.get 0 rfl)
       have q0 := (Y5z.get 0 rfl).lt
       obtain ⟨ca1_0, ca1_1, ca1_2, ca1_3, ca1_4, ca1_5⟩ := zk6 (Y5z.get 1 rfl)
       have q1 := (Y5z.get 1 rfl).lt
       obtain ⟨ca2_0, ca2_1, ca2_2, ca2_3, ca2_4, ca2_5⟩ := zk6 (Y5z.get 2 rfl)
       have q2 := (Y5z.get 2 rfl).lt
       have X6 := hide Y5z
       clear X5 b5 Y5 Y5z)
    | (have _t := tk6; clear tk6 _t; go_at_call 11; refine (unhide hQ _ (unhide X6).bl).mono ?_; rintro e w6 ⟨rfl, b6⟩
       have Y6 : Gx w w6 [(w.heap.size, 27, #[.int .u64 (r.gen : Nat), .int .i64 r.at_, .int .i64 r.len, .int .i64 r.long, .int .u32 (r.sum : Nat), .int .u64 (r.next : Nat)]), (w.heap.size + 1, 27, #[.int .u64 (s.gen : Nat), .int .i64 s.at_, .int .i64 s.len, .int .i64 s.long, .int .u32 (s.sum : Nat), .int .u64 (s.next : Nat)]), (w1.heap.size, 27, #[.int .u64 (x.gen : Nat), .int .i64 x.at_, .int .i64 x.len, .int .i64 x.long, .int .u32 (x.sum : Nat), .int .u64 (x.next : Nat)])] [] [(0, w2.heap.size, .slice A5 32 c5, b), (0, w5.heap.size, .slice A6 32 a6c, octs r)] := (unhide X6).call b6
       clear ca0_0 ca0_1 ca0_2 ca0_3 ca0_4 ca0_5 q0 ca1_0 ca1_1 ca1_2 ca1_3 ca1_4 ca1_5 q1 ca2_0 ca2_1 ca2_2 ca2_3 ca2_4 ca2_5 q2
       obtain ⟨ca0_0, ca0_1, ca0_2, ca0_3, ca0_4, ca0_5⟩ := zk6 (Y6.get 0 rfl)
       have q0 := (Y6.get 0 rfl).lt
       obtain ⟨ca1_0, ca1_1, ca1_2, ca1_3, ca1_4, ca1_5⟩ := zk6 (Y6.get 1 rfl)
       have q1 := (Y6.get 1 rfl).lt
       obtain ⟨ca2_0, ca2_1, ca2_2, ca2_3, ca2_4, ca2_5⟩ := zk6 (Y6.get 2 rfl)
       have q2 := (Y6.get 2 rfl).lt
       have X7 := hide Y6
       clear X6 b6 Y6)
    | (have _t := tk7; clear tk7 _t; go_at_call 13; refine (unhide hF _ _ (unhide X7).bl ((unhide X7).rd 1 rfl)).mono ?_; rintro e w7 ⟨rfl, b7⟩
       have Y7 : Gx w w7 [(w.heap.size, 27, #[.int .u64 (r.gen : Nat), .int .i64 r.at_, .int .i64 r.len, .int .i64 r.long, .int .u32 (r.sum : Nat), .int .u64 (r.next : Nat)]), (w.heap.size + 1, 27, #[.int .u64 (s.gen : Nat), .int .i64 s.at_, .int .i64 s.len, .int .i64 s.long, .int .u32 (s.sum : Nat), .int .u64 (s.next : Nat)]), (w1.heap.size, 27, #[.int .u64 (x.gen : Nat), .int .i64 x.at_, .int .i64 x.len, .int .i64 x.long, .int .u32 (x.sum : Nat), .int .u64 (x.next : Nat)])] [] [(0, w2.heap.size, .slice A5 32 c5, b), (0, w5.heap.size, .slice A6 32 a6c, octs r)] := (unhide X7).call b7
       clear ca0_0 ca0_1 ca0_2 ca0_3 ca0_4 ca0_5 q0 ca1_0 ca1_1 ca1_2 ca1_3 ca1_4 ca1_5 q1 ca2_0 ca2_1 ca2_2 ca2_3 ca2_4 ca2_5 q2
       obtain ⟨ca0_0, ca0_1, ca0_2, ca0_3, ca0_4, ca0_5⟩ := zk6 (Y7.get 0 rfl)
       have q0 := (Y7.get 0 rfl).lt
       obtain ⟨ca1_0, ca1_1, ca1_2, ca1_3, ca1_4, ca1_5⟩ := zk6 (Y7.get 1 rfl)
       have q1 := (Y7.get 1 rfl).lt
       obtain ⟨ca2_0, ca2_1, ca2_2, ca2_3, ca2_4, ca2_5⟩ := zk6 (Y7.get 2 rfl)
       have q2 := (Y7.get 2 rfl).lt
       have Y7b : Gx w (w7.alloc (.cells #[.int .u64 (r.gen : Nat), .int .i64 r.at_, .int .i64 r.len, .int .i64 r.long, .int .u32 (r.sum : Nat), .int .u64 (r.next : Nat)] 27)) [(w.heap.size, 27, #[.int .u64 (r.gen : Nat), .int .i64 r.at_, .int .i64 r.len, .int .i64 r.long, .int .u32 (r.sum : Nat), .int .u64 (r.next : Nat)]), (w.heap.size + 1, 27, #[.int .u64 (s.gen : Nat), .int .i64 s.at_, .int .i64 s.len, .int .i64 s.long, .int .u32 (s.sum : Nat), .int .u64 (s.next : Nat)]), (w1.heap.size, 27, #[.int .u64 (x.gen : Nat), .int .i64 x.at_, .int .i64 x.len, .int .i64 x.long, .int .u32 (x.sum : Nat), .int .u64 (x.next : Nat)]), (w7.heap.size, 27, #[.int .u64 (r.gen : Nat), .int .i64 r.at_, .int .i64 r.len, .int .i64 r.long, .int .u32 (r.sum : Nat), .int .u64 (r.next : Nat)])] [] [(0, w2.heap.size, .slice A5 32 c5, b), (0, w5.heap.size, .slice A6 32 a6c, octs r)] := Y7.newB (w7.heap.size) rfl 27 #[.int .u64 (r.gen : Nat), .int .i64 r.at_, .int .i64 r.len, .int .i64 r.long, .int .u32 (r.sum : Nat), .int .u64 (r.next : Nat)]
       have X8 := hide Y7b
       clear X7 b7 Y7 Y7b)
    | fail)
  have Y := unhide X8
  clear X8 ca0_0 ca0_1 ca0_2 ca0_3 ca0_4 ca0_5 q0 ca1_0 ca1_1 ca1_2 ca1_3 ca1_4 ca1_5 q1 ca2_0 ca2_1 ca2_2 ca2_3 ca2_4 ca2_5 q2
  generalize w7.alloc (.cells #[.int .u64 (r.gen : Nat), .int .i64 r.at_, .int .i64 r.len, .int .i64 r.long, .int .u32 (r.sum : Nat), .int .u64 (r.next : Nat)] 27) = V at *
  have u0 : V.cell? ⟨w.heap.size, 0, none⟩ = some (.int .u64 (r.gen : Nat)) := (Y.get 0 rfl).cell 0
  have u1 : V.cell? ⟨w.heap.size, 1, none⟩ = some (.int .i64 r.at_) := (Y.get 0 rfl).cell 1
  have u2 : V.cell? ⟨w.heap.size, 2, none⟩ = some (.int .i64 r.len) := (Y.get 0 rfl).cell 2
  have u3 : V.cell? ⟨w.heap.size, 3, none⟩ = some (.int .i64 r.long) := (Y.get 0 rfl).cell 3
  have u4 : V.cell? ⟨w.heap.size, 4, none⟩ = some (.int .u32 (r.sum : Nat)) := (Y.get 0 rfl).cell 4
  have u5 : V.cell? ⟨w.heap.size, 5, none⟩ = some (.int .u64 (r.next : Nat)) := (Y.get 0 rfl).cell 5
  have v0 : V.cell? ⟨w.heap.size + 1, 0, none⟩ = some (.int .u64 (s.gen : Nat)) := (Y.get 1 rfl).cell 0
  have v1 : V.cell? ⟨w.heap.size + 1, 1, none⟩ = some (.int .i64 s.at_) := (Y.get 1 rfl).cell 1
  have v2 : V.cell? ⟨w.heap.size + 1, 2, none⟩ = some (.int .i64 s.len) := (Y.get 1 rfl).cell 2
  have v3 : V.cell? ⟨w.heap.size + 1, 3, none⟩ = some (.int .i64 s.long) := (Y.get 1 rfl).cell 3
  have v4 : V.cell? ⟨w.heap.size + 1, 4, none⟩ = some (.int .u32 (s.sum : Nat)) := (Y.get 1 rfl).cell 4
  have v5 : V.cell? ⟨w.heap.size + 1, 5, none⟩ = some (.int .u64 (s.next : Nat)) := (Y.get 1 rfl).cell 5
  have y0 : V.cell? ⟨w7.heap.size, 0, none⟩ = some (.int .u64 (r.gen : Nat)) := (Y.get 3 rfl).cell 0
  have y1 : V.cell? ⟨w7.heap.size, 1, none⟩ = some (.int .i64 r.at_) := (Y.get 3 rfl).cell 1
  have y2 : V.cell? ⟨w7.heap.size, 2, none⟩ = some (.int .i64 r.len) := (Y.get 3 rfl).cell 2
  have y3 : V.cell? ⟨w7.heap.size, 3, none⟩ = some (.int .i64 r.long) := (Y.get 3 rfl).cell 3
  have y4 : V.cell? ⟨w7.heap.size, 4, none⟩ = some (.int .u32 (r.sum : Nat)) := (Y.get 3 rfl).cell 4
  have y5 : V.cell? ⟨w7.heap.size, 5, none⟩ = some (.int .u64 (r.next : Nat)) := (Y.get 3 rfl).cell 5
  replace Y := hide Y
  go_quiet (fail)
  go_wp2
  go_ret
  exact ⟨rfl, ((unhide Y).drewN _).bl⟩
set_option maxHeartbeats 4000000 in
theorem back_tg (r s : Rt) (hT : OkT r) (hT' : OkT s) (A : Option Addr) (c : Nat) (b : List UInt8) (w : World) (ht : Tab w) (hb : Bs 0 w.heap.size w (.slice A b.length c) b) (hn : b.length ≤ 100) (ho : ofB b = true) (hr : rOk r = true) (hs : rOk s = true) :
    Calls Tryd.prog 4 #[(.agg #[.int .u64 (r.gen : Nat), .int .i64 r.at_, .int .i64 r.len, .int .i64 r.long, .int .u32 (r.sum : Nat), .int .u64 (r.next : Nat)]), (.agg #[.int .u64 (s.gen : Nat), .int .i64 s.at_, .int .i64 s.len, .int .i64 s.long, .int .u32 (s.sum : Nat), .int .u64 (s.next : Nat)]), .slice A b.length c] w fun e w' => e = .returned (.bool true) ∧ Below w.heap.size w w' := by
  have hl := fun W (hB : Below w.heap.size w W) => live_any W (ht.below hB (Nat.le_refl _))
  have hn1 : ¬ (100 : Int) < (b.length : Int) := by omega
  have hO0 := fun W (hB : Below w.heap.size w W) => Of_any (.slice A b.length c) 0 b W (ht.below hB (Nat.le_refl _)) (hb.grow hB)
  have z1 : ofE b = 0 := by unfold ofE; rw [ho]; rfl
  have z2 : ofR b = rdR b := by unfold ofR; rw [ho]; rfl
  rw [z1, z2] at hO0
  obtain ⟨x, hx⟩ : ∃ x, x = rdR b := ⟨_, rfl⟩
  rw [← hx] at hO0
  have xk : rOk x = true := by rw [hx]; exact (ofB_iff.1 ho).1
  have xo : octs x = b := by rw [hx]; exact (ofB_iff.1 ho).2
  have xT : OkT x := by rw [hx]; exact rdR_ok b
  have hX := fun W (hB : Below w.heap.size w W) => Octets_ok x xk xT W (ht.below hB (Nat.le_refl _))
  have hC0 := fun W (_ : Below w.heap.size w W) => Check_any x xT W
  rw [xk, show badE true = 0 from rfl] at hC0
  rw [xo] at hX
  have hS0 := fun v1 W (hB : Below w.heap.size w W) (h1 : Bs 0 W.heap.size W v1 b) => sameb_below v1 (.slice A b.length c) b b W h1 (hb.grow hB)
  rw [show decide (b = b) = true from decide_eq_true rfl] at hS0
  replace hX := hide hX; replace hC0 := hide hC0; replace hS0 := hide hS0
  clear z1 z2 hx xk xo xT
  replace hO0 := hide hO0
  have hR := fun W (hB : Below w.heap.size w W) => Octets_ok r hr hT W (ht.below hB (Nat.le_refl _))
  have hF := fun v1 W (hB : Below w.heap.size w W) (h1 : Bs 0 W.heap.size W v1 (octs r)) => Of_any v1 0 (octs r) W (ht.below hB (Nat.le_refl _)) h1
  rw [ofR_octs hr hT, show ofE (octs r) = 0 by unfold ofE; rw [ofB_octs hr hT]; rfl] at hF
  have hQ := fun W (hB : Below w.heap.size w W) => Octets_ok s hs hT' W (ht.below hB (Nat.le_refl _))
  have hd : decide (octs r = octs s) = decide (r = s) := by
    rw [Bool.eq_iff_iff]; simp only [decide_eq_true_eq]
    exact ⟨octs_inj hr hT hs hT', fun e => by rw [e]⟩
  have hS := fun v1 v2 W (h1 : Bs 0 W.heap.size W v1 (octs r)) (h2 : Bs 0 W.heap.size W v2 (octs s)) => sameb_any _ _ _ _ v1 v2 (octs r) (octs s) W h1 h2
  rw [hd] at hS
  replace hS := hide hS
  replace hR := hide hR; replace hF := hide hF; replace hQ := hide hQ
  have X0 : Gx w ((w.alloc (.cells #[.int .u64 (r.gen : Nat), .int .i64 r.at_, .int .i64 r.len, .int .i64 r.long, .int .u32 (r.sum : Nat), .int .u64 (r.next : Nat)] 27)).alloc (.cells #[.int .u64 (s.gen : Nat), .int .i64 s.at_, .int .i64 s.len, .int .i64 s.long, .int .u32 (s.sum : Nat), .int .u64 (s.next : Nat)] 27)) [(w.heap.size, 27, #[.int .u64 (r.gen : Nat), .int .i64 r.at_, .int .i64 r.len, .int .i64 r.long, .int .u32 (r.sum : Nat), .int .u64 (r.next : Nat)]), (w.heap.size + 1, 27, #[.int .u64 (s.gen : Nat), .int .i64 s.at_, .int .i64 s.len, .int .i64 s.long, .int .u32 (s.sum : Nat), .int .u64 (s.next : Nat)])] [] [] := ((Gx.nil w).newB w.heap.size rfl 27 #[.int .u64 (r.gen : Nat), .int .i64 r.at_, .int .i64 r.len, .int .i64 r.long, .int .u32 (r.sum : Nat), .int .u64 (r.next : Nat)]).newB (w.heap.size + 1) (by simp) 27 #[.int .u64 (s.gen : Nat), .int .i64 s.at_, .int .i64 s.len, .int .i64 s.long, .int .u32 (s.sum : Nat), .int .u64 (s.next : Nat)]
  replace X0 := hide X0; replace hl := hide hl
  clear hT hT' ht hb hn ho hr hs hd
  have tk0 : True := trivial
  have tk1 : True := trivial
  have tk2 : True := trivial
  have tk3 : True := trivial
  have tk4 : True := trivial
  have tk5 : True := trivial
  have tk6 : True := trivial
  have tk7 : True := trivial
  go_enter Tryd.func4, Tryd.ntmps4
  go_upto_region 1 with (fail)
  generalize hW : World.alloc (World.alloc w _) _ = W at *
  clear hW
  obtain ⟨ca0_0, ca0_1, ca0_2, ca0_3, ca0_4, ca0_5⟩ := zk6 ((unhide X0).get 0 rfl)
  have q0 := ((unhide X0).get 0 rfl).lt
  obtain ⟨ca1_0, ca1_1, ca1_2, ca1_3, ca1_4, ca1_5⟩ := zk6 ((unhide X0).get 1 rfl)
  have q1 := ((unhide X0).get 1 rfl).lt
  go_upto_region 14 with (first
    | (have _t := tk0; clear tk0 _t; go_at_call 8; refine (unhide hl _ (unhide X0).bl).mono ?_; rintro e w0 ⟨rfl, b0⟩
       have Y0 : Gx w w0 [(w.heap.size, 27, #[.int .u64 (r.gen : Nat), .int .i64 r.at_, .int .i64 r.len, .int .i64 r.long, .int .u32 (r.sum : Nat), .int .u64 (r.next : Nat)]), (w.heap.size + 1, 27, #[.int .u64 (s.gen : Nat), .int .i64 s.at_, .int .i64 s.len, .int .i64 s.long, .int .u32 (s.sum : Nat), .int .u64 (s.next : Nat)])] [] [] := (unhide X0).call b0
       clear ca0_0 ca0_1 ca0_2 ca0_3 ca0_4 ca0_5 q0 ca1_0 ca1_1 ca1_2 ca1_3 ca1_4 ca1_5 q1
       obtain ⟨ca0_0, ca0_1, ca0_2, ca0_3, ca0_4, ca0_5⟩ := zk6 (Y0.get 0 rfl)
       have q0 := (Y0.get 0 rfl).lt
       obtain ⟨ca1_0, ca1_1, ca1_2, ca1_3, ca1_4, ca1_5⟩ := zk6 (Y0.get 1 rfl)
       have q1 := (Y0.get 1 rfl).lt
       have X1 := hide Y0
       clear X0 b0 Y0)
    | (have _t := tk1; clear tk1 _t; go_at_call 13; refine (unhide hO0 _ (unhide X1).bl).mono ?_; rintro e w1 ⟨rfl, b1⟩
       have Y1 : Gx w w1 [(w.heap.size, 27, #[.int .u64 (r.gen : Nat), .int .i64 r.at_, .int .i64 r.len, .int .i64 r.long, .int .u32 (r.sum : Nat), .int .u64 (r.next : Nat)]), (w.heap.size + 1, 27, #[.int .u64 (s.gen : Nat), .int .i64 s.at_, .int .i64 s.len, .int .i64 s.long, .int .u32 (s.sum : Nat), .int .u64 (s.next : Nat)])] [] [] := (unhide X1).call b1
       clear ca0_0 ca0_1 ca0_2 ca0_3 ca0_4 ca0_5 q0 ca1_0 ca1_1 ca1_2 ca1_3 ca1_4 ca1_5 q1
       obtain ⟨ca0_0, ca0_1, ca0_2, ca0_3, ca0_4, ca0_5⟩ := zk6 (Y1.get 0 rfl)
       have q0 := (Y1.get 0 rfl).lt
       obtain ⟨ca1_0, ca1_1, ca1_2, ca1_3, ca1_4, ca1_5⟩ := zk6 (Y1.get 1 rfl)
       have q1 := (Y1.get 1 rfl).lt
       have Y1b : Gx w (w1.alloc (.cells #[.int .u64 (x.gen : Nat), .int .i64 x.at_, .int .i64 x.len, .int .i64 x.long, .int .u32 (x.sum : Nat), .int .u64 (x.next : Nat)] 27)) [(w.heap.size, 27, #[.int .u64 (r.gen : Nat), .int .i64 r.at_, .int .i64 r.len, .int .i64 r.long, .int .u32 (r.sum : Nat), .int .u64 (r.next : Nat)]), (w.heap.size + 1, 27, #[.int .u64 (s.gen : Nat), .int .i64 s.at_, .int .i64 s.len, .int .i64 s.long, .int .u32 (s.sum : Nat), .int .u64 (s.next : Nat)]), (w1.heap.size, 27, #[.int .u64 (x.gen : Nat), .int .i64 x.at_, .int .i64 x.len, .int .i64 x.long, .int .u32 (x.sum : Nat), .int .u64 (x.next : Nat)])] [] [] := Y1.newB (w1.heap.size) rfl 27 #[.int .u64 (x.gen : Nat), .int .i64 x.at_, .int .i64 x.len, .int .i64 x.long, .int .u32 (x.sum : Nat), .int .u64 (x.next : Nat)]
       have X2 := hide Y1b
       clear X1 b1 Y1 Y1b)
    | (have _t := tk2; clear tk2 _t; go_at_call 11; refine (unhide hX _ (unhide X2).bl).mono ?_; rintro e w2 ⟨A5, c5, rfl, x5, b2⟩
       have Y2 : Gx w w2 [(w.heap.size, 27, #[.int .u64 (r.gen : Nat), .int .i64 r.at_, .int .i64 r.len, .int .i64 r.long, .int .u32 (r.sum : Nat), .int .u64 (r.next : Nat)]), (w.heap.size + 1, 27, #[.int .u64 (s.gen : Nat), .int .i64 s.at_, .int .i64 s.len, .int .i64 s.long, .int .u32 (s.sum : Nat), .int .u64 (s.next : Nat)]), (w1.heap.size, 27, #[.int .u64 (x.gen : Nat), .int .i64 x.at_, .int .i64 x.len, .int .i64 x.long, .int .u32 (x.sum : Nat), .int .u64 (x.next : Nat)])] [] [] := (unhide X2).call b2
       have Y2z : Gx w w2 [(w.heap.size, 27, #[.int .u64 (r.gen : Nat), .int .i64 r.at_, .int .i64 r.len, .int .i64 r.long, .int .u32 (r.sum : Nat), .int .u64 (r.next : Nat)]), (w.heap.size + 1, 27, #[.int .u64 (s.gen : Nat), .int .i64 s.at_, .int .i64 s.len, .int .i64 s.long, .int .u32 (s.sum : Nat), .int .u64 (s.next : Nat)]), (w1.heap.size, 27, #[.int .u64 (x.gen : Nat), .int .i64 x.at_, .int .i64 x.len, .int .i64 x.long, .int .u32 (x.sum : Nat), .int .u64 (x.next : Nat)])] [] [(0, w2.heap.size, .slice A5 32 c5, b)] := Y2.addZ (x5.mono (Nat.zero_le _) (Nat.le_refl _))
       clear ca0_0 ca0_1 ca0_2 ca0_3 ca0_4 ca0_5 q0 ca1_0 ca1_1 ca1_2 ca1_3 ca1_4 ca1_5 q1
       obtain ⟨ca0_0, ca0_1, ca0_2, ca0_3, ca0_4, ca0_5⟩ := zk6 (Y2z.get 0 rfl)
       have q0 := (Y2z.get 0 rfl).lt
       obtain ⟨ca1_0, ca1_1, ca1_2, ca1_3, ca1_4, ca1_5⟩ := zk6 (Y2z.get 1 rfl)
       have q1 := (Y2z.get 1 rfl).lt
       obtain ⟨ca2_0, ca2_1, ca2_2, ca2_3, ca2_4, ca2_5⟩ := zk6 (Y2z.get 2 rfl)
       have q2 := (Y2z.get 2 rfl).lt
       have X3 := hide Y2z
       clear X2 b2 Y2 Y2z)
    | (have _t := tk3; clear tk3 _t; go_at_call 19; refine (unhide hS0 _ _ (unhide X3).bl ((unhide X3).rd 0 rfl)).mono ?_; rintro e w3 ⟨rfl, b3⟩
       have Y3 : Gx w w3 [(w.heap.size, 27, #[.int .u64 (r.gen : Nat), .int .i64 r.at_, .int .i64 r.len, .int .i64 r.long, .int .u32 (r.sum : Nat), .int .u64 (r.next : Nat)]), (w.heap.size + 1, 27, #[.int .u64 (s.gen : Nat), .int .i64 s.at_, .int .i64 s.len, .int .i64 s.long, .int .u32 (s.sum : Nat), .int .u64 (s.next : Nat)]), (w1.heap.size, 27, #[.int .u64 (x.gen : Nat), .int .i64 x.at_, .int .i64 x.len, .int .i64 x.long, .int .u32 (x.sum : Nat), .int .u64 (x.next : Nat)])] [] [(0, w2.heap.size, .slice A5 32 c5, b)] := (unhide X3).call b3
       clear ca0_0 ca0_1 ca0_2 ca0_3 ca0_4 ca0_5 q0 ca1_0 ca1_1 ca1_2 ca1_3 ca1_4 ca1_5 q1 ca2_0 ca2_1 ca2_2 ca2_3 ca2_4 ca2_5 q2
       obtain ⟨ca0_0, ca0_1, ca0_2, ca0_3, ca0_4, ca0_5⟩ := zk6 (Y3.get 0 rfl)
       have q0 := (Y3.get 0 rfl).lt
       obtain ⟨ca1_0, ca1_1, ca1_2, ca1_3, ca1_4, ca1_5⟩ := zk6 (Y3.get 1 rfl)
       have q1 := (Y3.get 1 rfl).lt
       obtain ⟨ca2_0, ca2_1, ca2_2, ca2_3, ca2_4, ca2_5⟩ := zk6 (Y3.get 2 rfl)
       have q2 := (Y3.get 2 rfl).lt
       have X4 := hide Y3
       clear X3 b3 Y3)
    | (have _t := tk4; clear tk4 _t; go_at_call 21; refine (unhide hC0 _ (unhide X4).bl).mono ?_; rintro e w4 ⟨rfl, b4⟩
       have Y4 : Gx w w4 [(w.heap.size, 27, #[.int .u64 (r.gen : Nat), .int .i64 r.at_, .int .i64 r.len, .int .i64 r.long, .int .u32 (r.sum : Nat), .int .u64 (r.next : Nat)]), (w.heap.size + 1, 27, #[.int .u64 (s.gen : Nat), .int .i64 s.at_, .int .i64 s.len, .int .i64 s.long, .int .u32 (s.sum : Nat), .int .u64 (s.next : Nat)]), (w1.heap.size, 27, #[.int .u64 (x.gen : Nat), .int .i64 x.at_, .int .i64 x.len, .int .i64 x.long, .int .u32 (x.sum : Nat), .int .u64 (x.next : Nat)])] [] [(0, w2.heap.size, .slice A5 32 c5, b)] := (unhide X4).call b4
       clear ca0_0 ca0_1 ca0_2 ca0_3 ca0_4 ca0_5 q0 ca1_0 ca1_1 ca1_2 ca1_3 ca1_4 ca1_5 q1 ca2_0 ca2_1 ca2_2 ca2_3 ca2_4 ca2_5 q2
       obtain ⟨ca0_0, ca0_1, ca0_2, ca0_3, ca0_4, ca0_5⟩ := zk6 (Y4.get 0 rfl)
       have q0 := (Y4.get 0 rfl).lt
       obtain ⟨ca1_0, ca1_1, ca1_2, ca1_3, ca1_4, ca1_5⟩ := zk6 (Y4.get 1 rfl)
       have q1 := (Y4.get 1 rfl).lt
       obtain ⟨ca2_0, ca2_1, ca2_2, ca2_3, ca2_4, ca2_5⟩ := zk6 (Y4.get 2 rfl)
       have q2 := (Y4.get 2 rfl).lt
       have X5 := hide Y4
       clear X4 b4 Y4)
    | (have _t := tk5; clear tk5 _t; go_at_call 11; refine (unhide hR _ (unhide X5).bl).mono ?_; rintro e w5 ⟨A6, a6c, rfl, x5, b5⟩
       have Y5 : Gx w w5 [(w.heap.size, 27, #[.int .u64 (r.gen : Nat), .int .i64 r.at_, .int .i64 r.len, .int .i64 r.long, .int .u32 (r.sum : Nat), .int .u64 (r.next : Nat)]), (w.heap.size + 1, 27, #[.int .u64 (s.gen : Nat), .int .i64 s.at_, .int .i64 s.len, .int .i64 s.long, .int .u32 (s.sum : Nat), .int .u64 (s.next : Nat)]), (w1.heap.size, 27, #[.int .u64 (x.gen : Nat), .int .i64 x.at_, .int .i64 x.len, .int .i64 x.long, .int .u32 (x.sum : Nat), .int .u64 (x.next : Nat)])] [] [(0, w2.heap.size, .slice A5 32 c5, b)] := (unhide X5).call b5
       have Y5z : Gx w w5 [(w.heap.size, 27, #[.int .u64 (r.gen : Nat), .int .i64 r.at_, .int .i64 r.len, .int .i64 r.long, .int .u32 (r.sum : Nat), .int .u64 (r.next : Nat)]), (w.heap.size + 1, 27, #[.int .u64 (s.gen : Nat), .int .i64 s.at_, .int .i64 s.len, .int .i64 s.long, .int .u32 (s.sum : Nat), .int .u64 (s.next : Nat)]), (w1.heap.size, 27, #[.int .u64 (x.gen : Nat), .int .i64 x.at_, .int .i64 x.len, .int .i64 x.long, .int .u32 (x.sum : Nat), .int .u64 (x.next : Nat)])] [] [(0, w2.heap.size, .slice A5 32 c5, b), (0, w5.heap.size, .slice A6 32 a6c, octs r)] := Y5.addZ (x5.mono (Nat.zero_le _) (Nat.le_refl _))
       clear ca0_0 ca0_1 ca0_2 ca0_3 ca0_4 ca0_5 q0 ca1_0 ca1_1 ca1_2 ca1_3 ca1_4 ca1_5 q1 ca2_0 ca2_1 ca2_2 ca2_3 ca2_4 ca2_5 q2
       obtain ⟨ca0_0, ca0_1, ca0_2, ca0_3, ca0_4, ca0_5⟩ := zk6 (Y5z.get 0 rfl)
       have q0 := (Y5z.get 0 rfl).lt
       obtain ⟨ca1_0, ca1_1, ca1_2, ca1_3, ca1_4, ca1_5⟩ := zk6 (Y5z.get 1 rfl)
       have q1 := (Y5z.get 1 rfl).lt
       obtain ⟨ca2_0, ca2_1, ca2_2, ca2_3, ca2_4, ca2_5⟩ := zk6 (Y5z.get 2 rfl)
       have q2 := (Y5z.get 2 rfl).lt
       have X6 := hide Y5z
       clear X5 b5 Y5 Y5z)
    | (have _t := tk6; clear tk6 _t; go_at_call 11; refine (unhide hQ _ (unhide X6).bl).mono ?_; rintro e w6 ⟨A7, a7c, rfl, x6, b6⟩
       have Y6 : Gx w w6 [(w.heap.size, 27, #[.int .u64 (r.gen : Nat), .int .i64 r.at_, .int .i64 r.len, .int .i64 r.long, .int .u32 (r.sum : Nat), .int .u64 (r.next : Nat)]), (w.heap.size + 1, 27, #[.int .u64 (s.gen : Nat), .int .i64 s.at_, .int .i64 s.len, .int .i64 s.long, .int .u32 (s.sum : Nat), .int .u64 (s.next : Nat)]), (w1.heap.size, 27, #[.int .u64 (x.gen : Nat), .int .i64 x.at_, .int .i64 x.len, .int .i64 x.long, .int .u32 (x.sum : Nat), .int .u64 (x.next : Nat)])] [] [(0, w2.heap.size, .slice A5 32 c5, b), (0, w5.heap.size, .slice A6 32 a6c, octs r)] := (unhide X6).call b6
       have Y6z : Gx w w6 [(w.heap.size, 27, #[.int .u64 (r.gen : Nat), .int .i64 r.at_, .int .i64 r.len, .int .i64 r.long, .int .u32 (r.sum : Nat), .int .u64 (r.next : Nat)]), (w.heap.size + 1, 27, #[.int .u64 (s.gen : Nat), .int .i64 s.at_, .int .i64 s.len, .int .i64 s.long, .int .u32 (s.sum : Nat), .int .u64 (s.next : Nat)]), (w1.heap.size, 27, #[.int .u64 (x.gen : Nat), .int .i64 x.at_, .int .i64 x.len, .int .i64 x.long, .int .u32 (x.sum : Nat), .int .u64 (x.next : Nat)])] [] [(0, w2.heap.size, .slice A5 32 c5, b), (0, w5.heap.size, .slice A6 32 a6c, octs r), (0, w6.heap.size, .slice A7 32 a7c, octs s)] := Y6.addZ (x6.mono (Nat.zero_le _) (Nat.le_refl _))
       clear ca0_0 ca0_1 ca0_2 ca0_3 ca0_4 ca0_5 q0 ca1_0 ca1_1 ca1_2 ca1_3 ca1_4 ca1_5 q1 ca2_0 ca2_1 ca2_2 ca2_3 ca2_4 ca2_5 q2
       obtain ⟨ca0_0, ca0_1, ca0_2, ca0_3, ca0_4, ca0_5⟩ := zk6 (Y6z.get 0 rfl)
       have q0 := (Y6z.get 0 rfl).lt
       obtain ⟨ca1_0, ca1_1, ca1_2, ca1_3, ca1_4, ca1_5⟩ := zk6 (Y6z.get 1 rfl)
       have q1 := (Y6z.get 1 rfl).lt
       obtain ⟨ca2_0, ca2_1, ca2_2, ca2_3, ca2_4, ca2_5⟩ := zk6 (Y6z.get 2 rfl)
       have q2 := (Y6z.get 2 rfl).lt
       have X7 := hide Y6z
       clear X6 b6 Y6 Y6z)
    | (have _t := tk7; clear tk7 _t; go_at_call 13; refine (unhide hF _ _ (unhide X7).bl ((unhide X7).rd 1 rfl)).mono ?_; rintro e w7 ⟨rfl, b7⟩
       have Y7 : Gx w w7 [(w.heap.size, 27, #[.int .u64 (r.gen : Nat), .int .i64 r.at_, .int .i64 r.len, .int .i64 r.long, .int .u32 (r.sum : Nat), .int .u64 (r.next : Nat)]), (w.heap.size + 1, 27, #[.int .u64 (s.gen : Nat), .int .i64 s.at_, .int .i64 s.len, .int .i64 s.long, .int .u32 (s.sum : Nat), .int .u64 (s.next : Nat)]), (w1.heap.size, 27, #[.int .u64 (x.gen : Nat), .int .i64 x.at_, .int .i64 x.len, .int .i64 x.long, .int .u32 (x.sum : Nat), .int .u64 (x.next : Nat)])] [] [(0, w2.heap.size, .slice A5 32 c5, b), (0, w5.heap.size, .slice A6 32 a6c, octs r), (0, w6.heap.size, .slice A7 32 a7c, octs s)] := (unhide X7).call b7
       clear ca0_0 ca0_1 ca0_2 ca0_3 ca0_4 ca0_5 q0 ca1_0 ca1_1 ca1_2 ca1_3 ca1_4 ca1_5 q1 ca2_0 ca2_1 ca2_2 ca2_3 ca2_4 ca2_5 q2
       obtain ⟨ca0_0, ca0_1, ca0_2, ca0_3, ca0_4, ca0_5⟩ := zk6 (Y7.get 0 rfl)
       have q0 := (Y7.get 0 rfl).lt
       obtain ⟨ca1_0, ca1_1, ca1_2, ca1_3, ca1_4, ca1_5⟩ := zk6 (Y7.get 1 rfl)
       have q1 := (Y7.get 1 rfl).lt
       obtain ⟨ca2_0, ca2_1, ca2_2, ca2_3, ca2_4, ca2_5⟩ := zk6 (Y7.get 2 rfl)
       have q2 := (Y7.get 2 rfl).lt
       have Y7b : Gx w (w7.alloc (.cells #[.int .u64 (r.gen : Nat), .int .i64 r.at_, .int .i64 r.len, .int .i64 r.long, .int .u32 (r.sum : Nat), .int .u64 (r.next : Nat)] 27)) [(w.heap.size, 27, #[.int .u64 (r.gen : Nat), .int .i64 r.at_, .int .i64 r.len, .int .i64 r.long, .int .u32 (r.sum : Nat), .int .u64 (r.next : Nat)]), (w.heap.size + 1, 27, #[.int .u64 (s.gen : Nat), .int .i64 s.at_, .int .i64 s.len, .int .i64 s.long, .int .u32 (s.sum : Nat), .int .u64 (s.next : Nat)]), (w1.heap.size, 27, #[.int .u64 (x.gen : Nat), .int .i64 x.at_, .int .i64 x.len, .int .i64 x.long, .int .u32 (x.sum : Nat), .int .u64 (x.next : Nat)]), (w7.heap.size, 27, #[.int .u64 (r.gen : Nat), .int .i64 r.at_, .int .i64 r.len, .int .i64 r.long, .int .u32 (r.sum : Nat), .int .u64 (r.next : Nat)])] [] [(0, w2.heap.size, .slice A5 32 c5, b), (0, w5.heap.size, .slice A6 32 a6c, octs r), (0, w6.heap.size, .slice A7 32 a7c, octs s)] := Y7.newB (w7.heap.size) rfl 27 #[.int .u64 (r.gen : Nat), .int .i64 r.at_, .int .i64 r.len, .int .i64 r.long, .int .u32 (r.sum : Nat), .int .u64 (r.next : Nat)]
       have X8 := hide Y7b
       clear X7 b7 Y7 Y7b)
    | fail)
  have Y := unhide X8
  clear X8 ca0_0 ca0_1 ca0_2 ca0_3 ca0_4 ca0_5 q0 ca1_0 ca1_1 ca1_2 ca1_3 ca1_4 ca1_5 q1 ca2_0 ca2_1 ca2_2 ca2_3 ca2_4 ca2_5 q2
  generalize w7.alloc (.cells #[.int .u64 (r.gen : Nat), .int .i64 r.at_, .int .i64 r.len, .int .i64 r.long, .int .u32 (r.sum : Nat), .int .u64 (r.next : Nat)] 27) = V at *
  have u0 : V.cell? ⟨w.heap.size, 0, none⟩ = some (.int .u64 (r.gen : Nat)) := (Y.get 0 rfl).cell 0
  have u1 : V.cell? ⟨w.heap.size, 1, none⟩ = some (.int .i64 r.at_) := (Y.get 0 rfl).cell 1
  have u2 : V.cell? ⟨w.heap.size, 2, none⟩ = some (.int .i64 r.len) := (Y.get 0 rfl).cell 2
  have u3 : V.cell? ⟨w.heap.size, 3, none⟩ = some (.int .i64 r.long) := (Y.get 0 rfl).cell 3
  have u4 : V.cell? ⟨w.heap.size, 4, none⟩ = some (.int .u32 (r.sum : Nat)) := (Y.get 0 rfl).cell 4
  have u5 : V.cell? ⟨w.heap.size, 5, none⟩ = some (.int .u64 (r.next : Nat)) := (Y.get 0 rfl).cell 5
  have v0 : V.cell? ⟨w.heap.size + 1, 0, none⟩ = some (.int .u64 (s.gen : Nat)) := (Y.get 1 rfl).cell 0
  have v1 : V.cell? ⟨w.heap.size + 1, 1, none⟩ = some (.int .i64 s.at_) := (Y.get 1 rfl).cell 1
  have v2 : V.cell? ⟨w.heap.size + 1, 2, none⟩ = some (.int .i64 s.len) := (Y.get 1 rfl).cell 2
  have v3 : V.cell? ⟨w.heap.size + 1, 3, none⟩ = some (.int .i64 s.long) := (Y.get 1 rfl).cell 3
  have v4 : V.cell? ⟨w.heap.size + 1, 4, none⟩ = some (.int .u32 (s.sum : Nat)) := (Y.get 1 rfl).cell 4
  have v5 : V.cell? ⟨w.heap.size + 1, 5, none⟩ = some (.int .u64 (s.next : Nat)) := (Y.get 1 rfl).cell 5
  have y0 : V.cell? ⟨w7.heap.size, 0, none⟩ = some (.int .u64 (r.gen : Nat)) := (Y.get 3 rfl).cell 0
  have y1 : V.cell? ⟨w7.heap.size, 1, none⟩ = some (.int .i64 r.at_) := (Y.get 3 rfl).cell 1
  have y2 : V.cell? ⟨w7.heap.size, 2, none⟩ = some (.int .i64 r.len) := (Y.get 3 rfl).cell 2
  have y3 : V.cell? ⟨w7.heap.size, 3, none⟩ = some (.int .i64 r.long) := (Y.get 3 rfl).cell 3
  have y4 : V.cell? ⟨w7.heap.size, 4, none⟩ = some (.int .u32 (r.sum : Nat)) := (Y.get 3 rfl).cell 4
  have y5 : V.cell? ⟨w7.heap.size, 5, none⟩ = some (.int .u64 (r.next : Nat)) := (Y.get 3 rfl).cell 5
  have hV := fun n => unhide hS _ _ (V.drewN n) ((Y.drewN n).rd 1 rfl) ((Y.drewN n).rd 2 rfl)
  replace hV := hide hV; replace Y := hide Y
  go_quiet ((go_at_call 19; refine Calls.quiet_of_same ((unhide hV _).mono fun e w' h => ⟨h.1, h.2.symm⟩)))
  go_wp2
  go_ret
  exact ⟨ret_b rfl (by simp), ((unhide Y).drewN _).bl⟩
end
theorem back_law (r s : Rt) (hT : OkT r) (hT' : OkT s) (A : Option Addr) (c : Nat) (b : List UInt8) (w : World) (ht : Tab w) (hb : Bs 0 w.heap.size w (.slice A b.length c) b) :
    Calls Tryd.prog 4 #[(.agg #[.int .u64 (r.gen : Nat), .int .i64 r.at_, .int .i64 r.len, .int .i64 r.long, .int .u32 (r.sum : Nat), .int .u64 (r.next : Nat)]), (.agg #[.int .u64 (s.gen : Nat), .int .i64 s.at_, .int .i64 s.len, .int .i64 s.long, .int .u32 (s.sum : Nat), .int .u64 (s.next : Nat)]), .slice A b.length c] w fun e w' => e = .returned (.bool true) ∧ Below w.heap.size w w' := by
  by_cases hn : 100 < b.length
  · exact back_gate r s A c b w ht hn
  · have hn' : b.length ≤ 100 := by omega
    cases ho : ofB b <;> cases hr : rOk r
    · exact back_fe r s hT hT' A c b w ht hb hn' ho hr
    · cases hs : rOk s
      · exact back_ff r s hT hT' A c b w ht hb hn' ho hr hs
      · exact back_fg r s hT hT' A c b w ht hb hn' ho hr hs
    · exact back_te r s hT hT' A c b w ht hb hn' ho hr
    · cases hs : rOk s
      · exact back_tf r s hT hT' A c b w ht hb hn' ho hr hs
      · exact back_tg r s hT hT' A c b w ht hb hn' ho hr hs
end Go.Proofs.YtommlgdolahfbaaDoor
