import Derived.Test.YtommlgdolahfbaaDoorRV
import Derived.Test.YtommlgdolahfbaaDoorRJ
import Derived.Test.YtommlgdolahfbaaDoorS58
namespace Go.Proofs.YtommlgdolahfbaaDoor
set_option maxRecDepth 100000
open Go.RowKit

set_option maxHeartbeats 4000000 in
theorem refWrite_form (lo : Nat) (v : Value) (d : Dk) (r : Rt) (w : World) (h : Dsk lo w.heap.size w v d) (hr : rOk r = false) :
    Calls Tryd.prog 16 #[v, (.agg #[.int .u64 (r.gen : Nat), .int .i64 r.at_, .int .i64 r.len, .int .i64 r.long, .int .u32 (r.sum : Nat), .int .u64 (r.next : Nat)])] w fun e w' => e = .returned (.tuple #[.agg zD, .int .i64 1]) ∧ Below w.heap.size w w' := by
  have hO := fun W (_ : Below w.heap.size w W) => refOctets_bad r hr W
  replace hO := hide hO
  clear hr
  obtain ⟨A, c, A', c', rfl⟩ := h.form
  clear h
  generalize d.dry.length = n at *
  generalize d.wet.length = k at *
  generalize d.left = l at *
  have X0 : Gx w (((w.alloc (.cells #[.slice A n c, .slice A' k c', .int .i64 l] 31)).alloc (.cells #[.int .u64 (r.gen : Nat), .int .i64 r.at_, .int .i64 r.len, .int .i64 r.long, .int .u32 (r.sum : Nat), .int .u64 (r.next : Nat)] 27)).alloc (.cells zD 31)) [(w.heap.size, 31, #[.slice A n c, .slice A' k c', .int .i64 l]), (w.heap.size + 1, 27, #[.int .u64 (r.gen : Nat), .int .i64 r.at_, .int .i64 r.len, .int .i64 r.long, .int .u32 (r.sum : Nat), .int .u64 (r.next : Nat)]), (w.heap.size + 2, 31, #[.slice none 0 0, .slice none 0 0, .int .i64 0])] [] [] := (((Gx.nil w).newB w.heap.size rfl 31 #[.slice A n c, .slice A' k c', .int .i64 l]).newB (w.heap.size + 1) (by simp) 27 #[.int .u64 (r.gen : Nat), .int .i64 r.at_, .int .i64 r.len, .int .i64 r.long, .int .u32 (r.sum : Nat), .int .u64 (r.next : Nat)]).newB (w.heap.size + 2) (by simp) 31 zD
  replace X0 := hide X0
  have tk0 : True := trivial
  go_enter Tryd.func16, Tryd.ntmps16
  go_upto_region 1 with (fail)
  generalize hW : World.alloc (World.alloc (World.alloc w _) _) _ = W at *
  clear hW
  obtain ⟨ca0_0, ca0_1, ca0_2⟩ := ck3 ((unhide X0).get 0 rfl)
  obtain ⟨fa0_0, fa0_1, fa0_2⟩ := fk3 ((unhide X0).get 0 rfl)
  have q0 := ((unhide X0).get 0 rfl).lt
  obtain ⟨ca1_0, ca1_1, ca1_2, ca1_3, ca1_4, ca1_5⟩ := zk6 ((unhide X0).get 1 rfl)
  have q1 := ((unhide X0).get 1 rfl).lt
  obtain ⟨ca2_0, ca2_1, ca2_2⟩ := ck3 ((unhide X0).get 2 rfl)
  obtain ⟨fa2_0, fa2_1, fa2_2⟩ := fk3 ((unhide X0).get 2 rfl)
  have q2 := ((unhide X0).get 2 rfl).lt
  go_wp2_with (first
    | (have _t := tk0; clear tk0 _t; go_at_call 12; refine (unhide hO _ (unhide X0).bl).mono ?_; rintro e w0 ⟨rfl, b0⟩
       have Y0 : Gx w w0 [(w.heap.size, 31, #[.slice A n c, .slice A' k c', .int .i64 l]), (w.heap.size + 1, 27, #[.int .u64 (r.gen : Nat), .int .i64 r.at_, .int .i64 r.len, .int .i64 r.long, .int .u32 (r.sum : Nat), .int .u64 (r.next : Nat)]), (w.heap.size + 2, 31, #[.slice none 0 0, .slice none 0 0, .int .i64 0])] [] [] := (unhide X0).call b0
       clear ca0_0 ca0_1 ca0_2 fa0_0 fa0_1 fa0_2 q0 ca1_0 ca1_1 ca1_2 ca1_3 ca1_4 ca1_5 q1 ca2_0 ca2_1 ca2_2 fa2_0 fa2_1 fa2_2 q2
       obtain ⟨ca0_0, ca0_1, ca0_2⟩ := ck3 (Y0.get 0 rfl)
       obtain ⟨fa0_0, fa0_1, fa0_2⟩ := fk3 (Y0.get 0 rfl)
       have q0 := (Y0.get 0 rfl).lt
       obtain ⟨ca1_0, ca1_1, ca1_2, ca1_3, ca1_4, ca1_5⟩ := zk6 (Y0.get 1 rfl)
       have q1 := (Y0.get 1 rfl).lt
       obtain ⟨ca2_0, ca2_1, ca2_2⟩ := ck3 (Y0.get 2 rfl)
       obtain ⟨fa2_0, fa2_1, fa2_2⟩ := fk3 (Y0.get 2 rfl)
       have q2 := (Y0.get 2 rfl).lt
       have X1 := hide Y0
       clear X0 b0 Y0)
    | fail)
  exact ret_disk2 rfl (w.heap.size + 2) zD rfl (.int .i64 1) rfl rfl (Blk.set3 ((unhide X1).get 2 rfl)) rfl ⟨rfl, bl_set (bl_set (bl_set (unhide X1).bl (by omega) _ _) (by omega) _ _) (by omega) _ _⟩
set_option maxHeartbeats 4000000 in
theorem refWrite_bad (lo : Nat) (v : Value) (d : Dk) (r : Rt) (w : World) (hT : OkT r) (h : Dsk lo w.heap.size w v d) (hr : rOk r = true) (hd : okD d = false) :
    Calls Tryd.prog 16 #[v, (.agg #[.int .u64 (r.gen : Nat), .int .i64 r.at_, .int .i64 r.len, .int .i64 r.long, .int .u32 (r.sum : Nat), .int .u64 (r.next : Nat)])] w fun e w' => e = .returned (.tuple #[.agg zD, .int .i64 1]) ∧ Below w.heap.size w w' := by
  have hO := fun W (_ : Below w.heap.size w W) => refOctets_good r hr hT W
  have hC := fun W (hB : Below w.heap.size w W) => refcheck_any lo v d W (h.grow hB)
  rw [hd, show badE false = 1 from rfl] at hC
  replace hO := hide hO; replace hC := hide hC
  clear hr hd
  obtain ⟨A, c, A', c', rfl⟩ := h.form
  clear h
  generalize d.dry.length = n at *
  generalize d.wet.length = k at *
  generalize d.left = l at *
  have X0 : Gx w (((w.alloc (.cells #[.slice A n c, .slice A' k c', .int .i64 l] 31)).alloc (.cells #[.int .u64 (r.gen : Nat), .int .i64 r.at_, .int .i64 r.len, .int .i64 r.long, .int .u32 (r.sum : Nat), .int .u64 (r.next : Nat)] 27)).alloc (.cells zD 31)) [(w.heap.size, 31, #[.slice A n c, .slice A' k c', .int .i64 l]), (w.heap.size + 1, 27, #[.int .u64 (r.gen : Nat), .int .i64 r.at_, .int .i64 r.len, .int .i64 r.long, .int .u32 (r.sum : Nat), .int .u64 (r.next : Nat)]), (w.heap.size + 2, 31, #[.slice none 0 0, .slice none 0 0, .int .i64 0])] [] [] := (((Gx.nil w).newB w.heap.size rfl 31 #[.slice A n c, .slice A' k c', .int .i64 l]).newB (w.heap.size + 1) (by simp) 27 #[.int .u64 (r.gen : Nat), .int .i64 r.at_, .int .i64 r.len, .int .i64 r.long, .int .u32 (r.sum : Nat), .int .u64 (r.next : Nat)]).newB (w.heap.size + 2) (by simp) 31 zD
  replace X0 := hide X0
  have tk0 : True := trivial
  have tk1 : True := trivial
  go_enter Tryd.func16, Tryd.ntmps16
  go_upto_region 1 with (fail)
  generalize hW : World.alloc (World.alloc (World.alloc w _) _) _ = W at *
  clear hW
  obtain ⟨ca0_0, ca0_1, ca0_2⟩ := ck3 ((unhide X0).get 0 rfl)
  obtain ⟨fa0_0, fa0_1, fa0_2⟩ := fk3 ((unhide X0).get 0 rfl)
  have q0 := ((unhide X0).get 0 rfl).lt
  obtain ⟨ca1_0, ca1_1, ca1_2, ca1_3, ca1_4, ca1_5⟩ := zk6 ((unhide X0).get 1 rfl)
  have q1 := ((unhide X0).get 1 rfl).lt
  obtain ⟨ca2_0, ca2_1, ca2_2⟩ := ck3 ((unhide X0).get 2 rfl)
  obtain ⟨fa2_0, fa2_1, fa2_2⟩ := fk3 ((unhide X0).get 2 rfl)
  have q2 := ((unhide X0).get 2 rfl).lt
  go_wp2_with (first
    | (have _t := tk0; clear tk0 _t; go_at_call 12; refine (unhide hO _ (unhide X0).bl).mono ?_; rintro e w0 ⟨A1, c1, rfl, x1, b0⟩
       have Y0 : Gx w w0 [(w.heap.size, 31, #[.slice A n c, .slice A' k c', .int .i64 l]), (w.heap.size + 1, 27, #[.int .u64 (r.gen : Nat), .int .i64 r.at_, .int .i64 r.len, .int .i64 r.long, .int .u32 (r.sum : Nat), .int .u64 (r.next : Nat)]), (w.heap.size + 2, 31, #[.slice none 0 0, .slice none 0 0, .int .i64 0])] [] [] := (unhide X0).call b0
       have Y0z : Gx w w0 [(w.heap.size, 31, #[.slice A n c, .slice A' k c', .int .i64 l]), (w.heap.size + 1, 27, #[.int .u64 (r.gen : Nat), .int .i64 r.at_, .int .i64 r.len, .int .i64 r.long, .int .u32 (r.sum : Nat), .int .u64 (r.next : Nat)]), (w.heap.size + 2, 31, #[.slice none 0 0, .slice none 0 0, .int .i64 0])] [] [(0, w0.heap.size, .slice A1 32 c1, octs r)] := Y0.addZ (x1.mono (Nat.zero_le _) (Nat.le_refl _))
       clear ca0_0 ca0_1 ca0_2 fa0_0 fa0_1 fa0_2 q0 ca1_0 ca1_1 ca1_2 ca1_3 ca1_4 ca1_5 q1 ca2_0 ca2_1 ca2_2 fa2_0 fa2_1 fa2_2 q2
       obtain ⟨ca0_0, ca0_1, ca0_2⟩ := ck3 (Y0z.get 0 rfl)
       obtain ⟨fa0_0, fa0_1, fa0_2⟩ := fk3 (Y0z.get 0 rfl)
       have q0 := (Y0z.get 0 rfl).lt
       obtain ⟨ca1_0, ca1_1, ca1_2, ca1_3, ca1_4, ca1_5⟩ := zk6 (Y0z.get 1 rfl)
       have q1 := (Y0z.get 1 rfl).lt
       obtain ⟨ca2_0, ca2_1, ca2_2⟩ := ck3 (Y0z.get 2 rfl)
       obtain ⟨fa2_0, fa2_1, fa2_2⟩ := fk3 (Y0z.get 2 rfl)
       have q2 := (Y0z.get 2 rfl).lt
       have X1 := hide Y0z
       clear X0 b0 Y0 Y0z)
    | (have _t := tk1; clear tk1 _t; go_at_call 38; refine (unhide hC _ (unhide X1).bl).mono ?_; rintro e w1 ⟨rfl, b1⟩
       have Y1 : Gx w w1 [(w.heap.size, 31, #[.slice A n c, .slice A' k c', .int .i64 l]), (w.heap.size + 1, 27, #[.int .u64 (r.gen : Nat), .int .i64 r.at_, .int .i64 r.len, .int .i64 r.long, .int .u32 (r.sum : Nat), .int .u64 (r.next : Nat)]), (w.heap.size + 2, 31, #[.slice none 0 0, .slice none 0 0, .int .i64 0])] [] [(0, w0.heap.size, .slice A1 32 c1, octs r)] := (unhide X1).call b1
       clear ca0_0 ca0_1 ca0_2 fa0_0 fa0_1 fa0_2 q0 ca1_0 ca1_1 ca1_2 ca1_3 ca1_4 ca1_5 q1 ca2_0 ca2_1 ca2_2 fa2_0 fa2_1 fa2_2 q2
       obtain ⟨ca0_0, ca0_1, ca0_2⟩ := ck3 (Y1.get 0 rfl)
       obtain ⟨fa0_0, fa0_1, fa0_2⟩ := fk3 (Y1.get 0 rfl)
       have q0 := (Y1.get 0 rfl).lt
       obtain ⟨ca1_0, ca1_1, ca1_2, ca1_3, ca1_4, ca1_5⟩ := zk6 (Y1.get 1 rfl)
       have q1 := (Y1.get 1 rfl).lt
       obtain ⟨ca2_0, ca2_1, ca2_2⟩ := ck3 (Y1.get 2 rfl)
       obtain ⟨fa2_0, fa2_1, fa2_2⟩ := fk3 (Y1.get 2 rfl)
       have q2 := (Y1.get 2 rfl).lt
       have X2 := hide Y1
       clear X1 b1 Y1)
    | fail)
  exact ret_disk2 rfl (w.heap.size + 2) zD rfl (.int .i64 1) rfl rfl (Blk.set3 ((unhide X2).get 2 rfl)) rfl ⟨rfl, bl_set (bl_set (bl_set (unhide X2).bl (by omega) _ _) (by omega) _ _) (by omega) _ _⟩
set_option maxHeartbeats 4000000 in
theorem refWrite_small (lo : Nat) (v : Value) (d : Dk) (r : Rt) (w : World) (hT : OkT r) (h : Dsk lo w.heap.size w v d) (hr : rOk r = true) (hd : okD d = true) (hn : d.dry.length < 96) :
    Calls Tryd.prog 16 #[v, (.agg #[.int .u64 (r.gen : Nat), .int .i64 r.at_, .int .i64 r.len, .int .i64 r.long, .int .u32 (r.sum : Nat), .int .u64 (r.next : Nat)])] w fun e w' => e = .returned (.tuple #[.agg zD, .int .i64 1]) ∧ Below w.heap.size w w' := by
  have hO := fun W (_ : Below w.heap.size w W) => refOctets_good r hr hT W
  have hC := fun W (hB : Below w.heap.size w W) => refcheck_any lo v d W (h.grow hB)
  rw [hd, show badE true = 0 from rfl] at hC
  have hn1 : ((d.dry.length : Nat) : Int) < 96 := by omega
  replace hO := hide hO; replace hC := hide hC
  clear hr hd hn
  obtain ⟨A, c, A', c', rfl⟩ := h.form
  clear h
  generalize d.dry.length = n at *
  generalize d.wet.length = k at *
  generalize d.left = l at *
  have X0 : Gx w (((w.alloc (.cells #[.slice A n c, .slice A' k c', .int .i64 l] 31)).alloc (.cells #[.int .u64 (r.gen : Nat), .int .i64 r.at_, .int .i64 r.len, .int .i64 r.long, .int .u32 (r.sum : Nat), .int .u64 (r.next : Nat)] 27)).alloc (.cells zD 31)) [(w.heap.size, 31, #[.slice A n c, .slice A' k c', .int .i64 l]), (w.heap.size + 1, 27, #[.int .u64 (r.gen : Nat), .int .i64 r.at_, .int .i64 r.len, .int .i64 r.long, .int .u32 (r.sum : Nat), .int .u64 (r.next : Nat)]), (w.heap.size + 2, 31, #[.slice none 0 0, .slice none 0 0, .int .i64 0])] [] [] := (((Gx.nil w).newB w.heap.size rfl 31 #[.slice A n c, .slice A' k c', .int .i64 l]).newB (w.heap.size + 1) (by simp) 27 #[.int .u64 (r.gen : Nat), .int .i64 r.at_, .int .i64 r.len, .int .i64 r.long, .int .u32 (r.sum : Nat), .int .u64 (r.next : Nat)]).newB (w.heap.size + 2) (by simp) 31 zD
  replace X0 := hide X0
  have tk0 : True := trivial
  have tk1 : True := trivial
  go_enter Tryd.func16, Tryd.ntmps16
  go_upto_region 1 with (fail)
  generalize hW : World.alloc (World.alloc (World.alloc w _) _) _ = W at *
  clear hW
  obtain ⟨ca0_0, ca0_1, ca0_2⟩ := ck3 ((unhide X0).get 0 rfl)
  obtain ⟨fa0_0, fa0_1, fa0_2⟩ := fk3 ((unhide X0).get 0 rfl)
  have q0 := ((unhide X0).get 0 rfl).lt
  obtain ⟨ca1_0, ca1_1, ca1_2, ca1_3, ca1_4, ca1_5⟩ := zk6 ((unhide X0).get 1 rfl)
  have q1 := ((unhide X0).get 1 rfl).lt
  obtain ⟨ca2_0, ca2_1, ca2_2⟩ := ck3 ((unhide X0).get 2 rfl)
  obtain ⟨fa2_0, fa2_1, fa2_2⟩ := fk3 ((unhide X0).get 2 rfl)
  have q2 := ((unhide X0).get 2 rfl).lt
  go_wp2_with (first
    | (have _t := tk0; clear tk0 _t; go_at_call 12; refine (unhide hO _ (unhide X0).bl).mono ?_; rintro e w0 ⟨A1, c1, rfl, x1, b0⟩
       have Y0 : Gx w w0 [(w.heap.size, 31, #[.slice A n c, .slice A' k c', .int .i64 l]), (w.heap.size + 1, 27, #[.int .u64 (r.gen : Nat), .int .i64 r.at_, .int .i64 r.len, .int .i64 r.long, .int .u32 (r.sum : Nat), .int .u64 (r.next : Nat)]), (w.heap.size + 2, 31, #[.slice none 0 0, .slice none 0 0, .int .i64 0])] [] [] := (unhide X0).call b0
       have Y0z : Gx w w0 [(w.heap.size, 31, #[.slice A n c, .slice A' k c', .int .i64 l]), (w.heap.size + 1, 27, #[.int .u64 (r.gen : Nat), .int .i64 r.at_, .int .i64 r.len, .int .i64 r.long, .int .u32 (r.sum : Nat), .int .u64 (r.next : Nat)]), (w.heap.size + 2, 31, #[.slice none 0 0, .slice none 0 0, .int .i64 0])] [] [(0, w0.heap.size, .slice A1 32 c1, octs r)] := Y0.addZ (x1.mono (Nat.zero_le _) (Nat.le_refl _))
       clear ca0_0 ca0_1 ca0_2 fa0_0 fa0_1 fa0_2 q0 ca1_0 ca1_1 ca1_2 ca1_3 ca1_4 ca1_5 q1 ca2_0 ca2_1 ca2_2 fa2_0 fa2_1 fa2_2 q2
       obtain ⟨ca0_0, ca0_1, ca0_2⟩ := ck3 (Y0z.get 0 rfl)
       obtain ⟨fa0_0, fa0_1, fa0_2⟩ := fk3 (Y0z.get 0 rfl)
       have q0 := (Y0z.get 0 rfl).lt
       obtain ⟨ca1_0, ca1_1, ca1_2, ca1_3, ca1_4, ca1_5⟩ := zk6 (Y0z.get 1 rfl)
       have q1 := (Y0z.get 1 rfl).lt
       obtain ⟨ca2_0, ca2_1, ca2_2⟩ := ck3 (Y0z.get 2 rfl)
       obtain ⟨fa2_0, fa2_1, fa2_2⟩ := fk3 (Y0z.get 2 rfl)
       have q2 := (Y0z.get 2 rfl).lt
       have X1 := hide Y0z
       clear X0 b0 Y0 Y0z)
    | (have _t := tk1; clear tk1 _t; go_at_call 38; refine (unhide hC _ (unhide X1).bl).mono ?_; rintro e w1 ⟨rfl, b1⟩
       have Y1 : Gx w w1 [(w.heap.size, 31, #[.slice A n c, .slice A' k c', .int .i64 l]), (w.heap.size + 1, 27, #[.int .u64 (r.gen : Nat), .int .i64 r.at_, .int .i64 r.len, .int .i64 r.long, .int .u32 (r.sum : Nat), .int .u64 (r.next : Nat)]), (w.heap.size + 2, 31, #[.slice none 0 0, .slice none 0 0, .int .i64 0])] [] [(0, w0.heap.size, .slice A1 32 c1, octs r)] := (unhide X1).call b1
       clear ca0_0 ca0_1 ca0_2 fa0_0 fa0_1 fa0_2 q0 ca1_0 ca1_1 ca1_2 ca1_3 ca1_4 ca1_5 q1 ca2_0 ca2_1 ca2_2 fa2_0 fa2_1 fa2_2 q2
       obtain ⟨ca0_0, ca0_1, ca0_2⟩ := ck3 (Y1.get 0 rfl)
       obtain ⟨fa0_0, fa0_1, fa0_2⟩ := fk3 (Y1.get 0 rfl)
       have q0 := (Y1.get 0 rfl).lt
       obtain ⟨ca1_0, ca1_1, ca1_2, ca1_3, ca1_4, ca1_5⟩ := zk6 (Y1.get 1 rfl)
       have q1 := (Y1.get 1 rfl).lt
       obtain ⟨ca2_0, ca2_1, ca2_2⟩ := ck3 (Y1.get 2 rfl)
       obtain ⟨fa2_0, fa2_1, fa2_2⟩ := fk3 (Y1.get 2 rfl)
       have q2 := (Y1.get 2 rfl).lt
       have X2 := hide Y1
       clear X1 b1 Y1)
    | fail)
  exact ret_disk2 rfl (w.heap.size + 2) zD rfl (.int .i64 1) rfl rfl (Blk.set3 ((unhide X2).get 2 rfl)) rfl ⟨rfl, bl_set (bl_set (bl_set (unhide X2).bl (by omega) _ _) (by omega) _ _) (by omega) _ _⟩
set_option maxHeartbeats 4000000 in
theorem refWrite_dead (lo : Nat) (v : Value) (d : Dk) (r : Rt) (w : World) (hT : OkT r) (h : Dsk lo w.heap.size w v d) (hL : d.dry.length ≤ 1000000) (hW : d.wet.length ≤ 400) (hr : rOk r = true) (hd : okD d = true) (hn : 96 ≤ d.dry.length) (X : Dk) (EE : Int) (hX : wrD d ((r.gen % 2 : Nat) : Int) (octs r) = (X, EE)) (hE : EE ≠ 0) :
    Calls Tryd.prog 16 #[v, (.agg #[.int .u64 (r.gen : Nat), .int .i64 r.at_, .int .i64 r.len, .int .i64 r.long, .int .u32 (r.sum : Nat), .int .u64 (r.next : Nat)])] w fun e w' => e = .returned (.tuple #[.agg zD, .int .i64 EE]) ∧ Below w.heap.size w w' := by
  have hO := fun W (_ : Below w.heap.size w W) => refOctets_good r hr hT W
  have hC := fun W (hB : Below w.heap.size w W) => refcheck_any lo v d W (h.grow hB)
  rw [hd, show badE true = 0 from rfl] at hC
  have hn1 : ¬ ((d.dry.length : Nat) : Int) < 96 := by omega
  obtain ⟨i, hi⟩ : ∃ i : Nat, i = r.gen % 2 := ⟨_, rfl⟩
  have f2 : (r.gen : Int) % 2 = (i : Int) := by omega
  have hS0 := fun v1 W (hB : Below w.heap.size w W) (hx : Bs 0 W.heap.size W v1 (octs r)) => refwrite_any 0 v v1 d ((r.gen % 2 : Nat) : Int) (octs r) W ((h.grow hB).mono (Nat.zero_le _) (Nat.le_refl _)) hx hL (by omega)
  rw [hX, ← hi] at hS0
  have hS : ∀ v1 W, Below w.heap.size w W → Bs 0 W.heap.size W v1 (octs r) → Calls Tryd.prog 39 #[v, .int .i64 (i : Nat), v1] W fun e w' => ∃ A4 c4 B4 e4, e = .returned (.tuple #[.agg #[.slice A4 X.dry.length c4, .slice B4 X.wet.length e4, .int .i64 X.left], .int .i64 EE]) ∧ Dsk W.heap.size w'.heap.size w' (.agg #[.slice A4 X.dry.length c4, .slice B4 X.wet.length e4, .int .i64 X.left]) X ∧ Below W.heap.size W w' := fun v1 W hB hx => (hS0 v1 W hB hx).mono fun e w' ⟨v', E, he, hx', hE, hb⟩ => by
    obtain ⟨A4, c4, B4, e4, rfl⟩ := hx'.form
    exact ⟨A4, c4, B4, e4, by rw [he, hE], hx', hb⟩
  have hE' : (EE != 0) = true := by simp [hE]
  replace hO := hide hO; replace hC := hide hC; replace hS := hide hS
  clear hr hd hn hL hW hS0 hX hi hE
  obtain ⟨A, c, A', c', rfl⟩ := h.form
  clear h
  generalize d.dry.length = n at *
  generalize d.wet.length = k at *
  generalize d.left = l at *
  have X0 : Gx w (((w.alloc (.cells #[.slice A n c, .slice A' k c', .int .i64 l] 31)).alloc (.cells #[.int .u64 (r.gen : Nat), .int .i64 r.at_, .int .i64 r.len, .int .i64 r.long, .int .u32 (r.sum : Nat), .int .u64 (r.next : Nat)] 27)).alloc (.cells zD 31)) [(w.heap.size, 31, #[.slice A n c, .slice A' k c', .int .i64 l]), (w.heap.size + 1, 27, #[.int .u64 (r.gen : Nat), .int .i64 r.at_, .int .i64 r.len, .int .i64 r.long, .int .u32 (r.sum : Nat), .int .u64 (r.next : Nat)]), (w.heap.size + 2, 31, #[.slice none 0 0, .slice none 0 0, .int .i64 0])] [] [] := (((Gx.nil w).newB w.heap.size rfl 31 #[.slice A n c, .slice A' k c', .int .i64 l]).newB (w.heap.size + 1) (by simp) 27 #[.int .u64 (r.gen : Nat), .int .i64 r.at_, .int .i64 r.len, .int .i64 r.long, .int .u32 (r.sum : Nat), .int .u64 (r.next : Nat)]).newB (w.heap.size + 2) (by simp) 31 zD
  replace X0 := hide X0
  have tk0 : True := trivial
  have tk1 : True := trivial
  have tk2 : True := trivial
  go_enter Tryd.func16, Tryd.ntmps16
  go_upto_region 1 with (fail)
  generalize hW : World.alloc (World.alloc (World.alloc w _) _) _ = W at *
  clear hW
  obtain ⟨ca0_0, ca0_1, ca0_2⟩ := ck3 ((unhide X0).get 0 rfl)
  obtain ⟨fa0_0, fa0_1, fa0_2⟩ := fk3 ((unhide X0).get 0 rfl)
  have q0 := ((unhide X0).get 0 rfl).lt
  obtain ⟨ca1_0, ca1_1, ca1_2, ca1_3, ca1_4, ca1_5⟩ := zk6 ((unhide X0).get 1 rfl)
  have q1 := ((unhide X0).get 1 rfl).lt
  obtain ⟨ca2_0, ca2_1, ca2_2⟩ := ck3 ((unhide X0).get 2 rfl)
  obtain ⟨fa2_0, fa2_1, fa2_2⟩ := fk3 ((unhide X0).get 2 rfl)
  have q2 := ((unhide X0).get 2 rfl).lt
  go_wp2_with (first
    | (have _t := tk0; clear tk0 _t; go_at_call 12; refine (unhide hO _ (unhide X0).bl).mono ?_; rintro e w0 ⟨A1, c1, rfl, x1, b0⟩
       have Y0 : Gx w w0 [(w.heap.size, 31, #[.slice A n c, .slice A' k c', .int .i64 l]), (w.heap.size + 1, 27, #[.int .u64 (r.gen : Nat), .int .i64 r.at_, .int .i64 r.len, .int .i64 r.long, .int .u32 (r.sum : Nat), .int .u64 (r.next : Nat)]), (w.heap.size + 2, 31, #[.slice none 0 0, .slice none 0 0, .int .i64 0])] [] [] := (unhide X0).call b0
       have Y0z : Gx w w0 [(w.heap.size, 31, #[.slice A n c, .slice A' k c', .int .i64 l]), (w.heap.size + 1, 27, #[.int .u64 (r.gen : Nat), .int .i64 r.at_, .int .i64 r.len, .int .i64 r.long, .int .u32 (r.sum : Nat), .int .u64 (r.next : Nat)]), (w.heap.size + 2, 31, #[.slice none 0 0, .slice none 0 0, .int .i64 0])] [] [(0, w0.heap.size, .slice A1 32 c1, octs r)] := Y0.addZ (x1.mono (Nat.zero_le _) (Nat.le_refl _))
       clear ca0_0 ca0_1 ca0_2 fa0_0 fa0_1 fa0_2 q0 ca1_0 ca1_1 ca1_2 ca1_3 ca1_4 ca1_5 q1 ca2_0 ca2_1 ca2_2 fa2_0 fa2_1 fa2_2 q2
       obtain ⟨ca0_0, ca0_1, ca0_2⟩ := ck3 (Y0z.get 0 rfl)
       obtain ⟨fa0_0, fa0_1, fa0_2⟩ := fk3 (Y0z.get 0 rfl)
       have q0 := (Y0z.get 0 rfl).lt
       obtain ⟨ca1_0, ca1_1, ca1_2, ca1_3, ca1_4, ca1_5⟩ := zk6 (Y0z.get 1 rfl)
       have q1 := (Y0z.get 1 rfl).lt
       obtain ⟨ca2_0, ca2_1, ca2_2⟩ := ck3 (Y0z.get 2 rfl)
       obtain ⟨fa2_0, fa2_1, fa2_2⟩ := fk3 (Y0z.get 2 rfl)
       have q2 := (Y0z.get 2 rfl).lt
       have X1 := hide Y0z
       clear X0 b0 Y0 Y0z)
    | (have _t := tk1; clear tk1 _t; go_at_call 38; refine (unhide hC _ (unhide X1).bl).mono ?_; rintro e w1 ⟨rfl, b1⟩
       have Y1 : Gx w w1 [(w.heap.size, 31, #[.slice A n c, .slice A' k c', .int .i64 l]), (w.heap.size + 1, 27, #[.int .u64 (r.gen : Nat), .int .i64 r.at_, .int .i64 r.len, .int .i64 r.long, .int .u32 (r.sum : Nat), .int .u64 (r.next : Nat)]), (w.heap.size + 2, 31, #[.slice none 0 0, .slice none 0 0, .int .i64 0])] [] [(0, w0.heap.size, .slice A1 32 c1, octs r)] := (unhide X1).call b1
       clear ca0_0 ca0_1 ca0_2 fa0_0 fa0_1 fa0_2 q0 ca1_0 ca1_1 ca1_2 ca1_3 ca1_4 ca1_5 q1 ca2_0 ca2_1 ca2_2 fa2_0 fa2_1 fa2_2 q2
       obtain ⟨ca0_0, ca0_1, ca0_2⟩ := ck3 (Y1.get 0 rfl)
       obtain ⟨fa0_0, fa0_1, fa0_2⟩ := fk3 (Y1.get 0 rfl)
       have q0 := (Y1.get 0 rfl).lt
       obtain ⟨ca1_0, ca1_1, ca1_2, ca1_3, ca1_4, ca1_5⟩ := zk6 (Y1.get 1 rfl)
       have q1 := (Y1.get 1 rfl).lt
       obtain ⟨ca2_0, ca2_1, ca2_2⟩ := ck3 (Y1.get 2 rfl)
       obtain ⟨fa2_0, fa2_1, fa2_2⟩ := fk3 (Y1.get 2 rfl)
       have q2 := (Y1.get 2 rfl).lt
       have X2 := hide Y1
       clear X1 b1 Y1)
    | (have _t := tk2; clear tk2 _t; go_at_call 39; refine (unhide hS _ _ (unhide X2).bl ((unhide X2).rd 0 rfl)).mono ?_; rintro e w2 ⟨A4, c4, B4, e4, rfl, x4, b2⟩
       have Y2 : Gx w w2 [(w.heap.size, 31, #[.slice A n c, .slice A' k c', .int .i64 l]), (w.heap.size + 1, 27, #[.int .u64 (r.gen : Nat), .int .i64 r.at_, .int .i64 r.len, .int .i64 r.long, .int .u32 (r.sum : Nat), .int .u64 (r.next : Nat)]), (w.heap.size + 2, 31, #[.slice none 0 0, .slice none 0 0, .int .i64 0])] [] [(0, w0.heap.size, .slice A1 32 c1, octs r)] := (unhide X2).call b2
       have Y2d : Gx w w2 [(w.heap.size, 31, #[.slice A n c, .slice A' k c', .int .i64 l]), (w.heap.size + 1, 27, #[.int .u64 (r.gen : Nat), .int .i64 r.at_, .int .i64 r.len, .int .i64 r.long, .int .u32 (r.sum : Nat), .int .u64 (r.next : Nat)]), (w.heap.size + 2, 31, #[.slice none 0 0, .slice none 0 0, .int .i64 0])] [(w1.heap.size, w2.heap.size, .agg #[.slice A4 X.dry.length c4, .slice B4 X.wet.length e4, .int .i64 X.left], X)] [(0, w0.heap.size, .slice A1 32 c1, octs r)] := Y2.addD x4
       clear ca0_0 ca0_1 ca0_2 fa0_0 fa0_1 fa0_2 q0 ca1_0 ca1_1 ca1_2 ca1_3 ca1_4 ca1_5 q1 ca2_0 ca2_1 ca2_2 fa2_0 fa2_1 fa2_2 q2
       obtain ⟨ca0_0, ca0_1, ca0_2⟩ := ck3 (Y2d.get 0 rfl)
       obtain ⟨fa0_0, fa0_1, fa0_2⟩ := fk3 (Y2d.get 0 rfl)
       have q0 := (Y2d.get 0 rfl).lt
       obtain ⟨ca1_0, ca1_1, ca1_2, ca1_3, ca1_4, ca1_5⟩ := zk6 (Y2d.get 1 rfl)
       have q1 := (Y2d.get 1 rfl).lt
       obtain ⟨ca2_0, ca2_1, ca2_2⟩ := ck3 (Y2d.get 2 rfl)
       obtain ⟨fa2_0, fa2_1, fa2_2⟩ := fk3 (Y2d.get 2 rfl)
       have q2 := (Y2d.get 2 rfl).lt
       have l7 : w.heap.size + 2 < w1.heap.size := ((unhide X2).get 2 rfl).lt
       have l8 : w.heap.size + 2 < w2.heap.size := (Y2d.get 2 rfl).lt
       have Z2 : Gx w (((w2.setCell ⟨w.heap.size, 0, none⟩ (.slice A4 X.dry.length c4)).setCell ⟨w.heap.size, 1, none⟩ (.slice B4 X.wet.length e4)).setCell ⟨w.heap.size, 2, none⟩ (.int .i64 X.left)) [(w.heap.size + 1, 27, #[.int .u64 (r.gen : Nat), .int .i64 r.at_, .int .i64 r.len, .int .i64 r.long, .int .u32 (r.sum : Nat), .int .u64 (r.next : Nat)]), (w.heap.size + 2, 31, #[.slice none 0 0, .slice none 0 0, .int .i64 0]), (w.heap.size, 31, #[.slice A4 X.dry.length c4, .slice B4 X.wet.length e4, .int .i64 X.left])] [(w1.heap.size, w2.heap.size, .agg #[.slice A4 X.dry.length c4, .slice B4 X.wet.length e4, .int .i64 X.left], X)] [] := (Y2d.sub (L' := [(w.heap.size + 1, 27, #[.int .u64 (r.gen : Nat), .int .i64 r.at_, .int .i64 r.len, .int .i64 r.long, .int .u32 (r.sum : Nat), .int .u64 (r.next : Nat)]), (w.heap.size + 2, 31, #[.slice none 0 0, .slice none 0 0, .int .i64 0])]) (Z' := []) (by simp) (fun _ h => h) (fun _ h => (nomatch h))).set3 (Y2d.get 0 rfl) (Nat.le_refl _) (by simp) (by simp; omega) (by simp) (.slice A4 X.dry.length c4) (.slice B4 X.wet.length e4) (.int .i64 X.left)
       have X3 := hide Z2
       clear X2 b2 Y2 Y2d Z2)
    | fail)
  exact ret_disk2 rfl (w.heap.size + 2) zD rfl (.int .i64 EE) rfl rfl (Blk.set3 ((unhide X3).get 1 rfl)) rfl ⟨rfl, bl_set (bl_set (bl_set (unhide X3).bl (by omega) _ _) (by omega) _ _) (by omega) _ _⟩
set_option maxHeartbeats 4000000 in
theorem refWrite_goes (lo : Nat) (v : Value) (d : Dk) (r : Rt) (w : World) (hT : OkT r) (h : Dsk lo w.heap.size w v d) (hL : d.dry.length ≤ 1000000) (hW : d.wet.length ≤ 400) (hr : rOk r = true) (hd : okD d = true) (hn : 96 ≤ d.dry.length) (X : Dk) (EE : Int) (hX : wrD d ((r.gen % 2 : Nat) : Int) (octs r) = (X, EE)) (hE : EE = 0) (hY : X.dry.length ≤ 1000000 ∧ X.wet.length ≤ 1000) :
    Calls Tryd.prog 16 #[v, (.agg #[.int .u64 (r.gen : Nat), .int .i64 r.at_, .int .i64 r.len, .int .i64 r.long, .int .u32 (r.sum : Nat), .int .u64 (r.next : Nat)])] w fun e w' => ∃ v' E, e = .returned (.tuple #[v', .int .i64 E]) ∧ Dsk w.heap.size w'.heap.size w' v' (synD X).1 ∧ E = (synD X).2 ∧ Below w.heap.size w w' := by
  have hO := fun W (_ : Below w.heap.size w W) => refOctets_good r hr hT W
  have hC := fun W (hB : Below w.heap.size w W) => refcheck_any lo v d W (h.grow hB)
  rw [hd, show badE true = 0 from rfl] at hC
  have hn1 : ¬ ((d.dry.length : Nat) : Int) < 96 := by omega
  obtain ⟨i, hi⟩ : ∃ i : Nat, i = r.gen % 2 := ⟨_, rfl⟩
  have f2 : (r.gen : Int) % 2 = (i : Int) := by omega
  have hS0 := fun v1 W (hB : Below w.heap.size w W) (hx : Bs 0 W.heap.size W v1 (octs r)) => refwrite_any 0 v v1 d ((r.gen % 2 : Nat) : Int) (octs r) W ((h.grow hB).mono (Nat.zero_le _) (Nat.le_refl _)) hx hL (by omega)
  rw [hX, ← hi] at hS0
  have hS : ∀ v1 W, Below w.heap.size w W → Bs 0 W.heap.size W v1 (octs r) → Calls Tryd.prog 39 #[v, .int .i64 (i : Nat), v1] W fun e w' => ∃ A4 c4 B4 e4, e = .returned (.tuple #[.agg #[.slice A4 X.dry.length c4, .slice B4 X.wet.length e4, .int .i64 X.left], .int .i64 EE]) ∧ Dsk W.heap.size w'.heap.size w' (.agg #[.slice A4 X.dry.length c4, .slice B4 X.wet.length e4, .int .i64 X.left]) X ∧ Below W.heap.size W w' := fun v1 W hB hx => (hS0 v1 W hB hx).mono fun e w' ⟨v', E, he, hx', hE, hb⟩ => by
    obtain ⟨A4, c4, B4, e4, rfl⟩ := hx'.form
    exact ⟨A4, c4, B4, e4, by rw [he, hE], hx', hb⟩
  have hY0 := fun lo' v1 W (hx : Dsk lo' W.heap.size W v1 X) => refsync_any lo' v1 X W hx hY.1 hY.2
  subst hE
  replace hO := hide hO; replace hC := hide hC; replace hS := hide hS; replace hY0 := hide hY0
  clear hr hd hn hL hW hS0 hX hi hY
  obtain ⟨A, c, A', c', rfl⟩ := h.form
  clear h
  generalize d.dry.length = n at *
  generalize d.wet.length = k at *
  generalize d.left = l at *
  have X0 : Gx w (((w.alloc (.cells #[.slice A n c, .slice A' k c', .int .i64 l] 31)).alloc (.cells #[.int .u64 (r.gen : Nat), .int .i64 r.at_, .int .i64 r.len, .int .i64 r.long, .int .u32 (r.sum : Nat), .int .u64 (r.next : Nat)] 27)).alloc (.cells zD 31)) [(w.heap.size, 31, #[.slice A n c, .slice A' k c', .int .i64 l]), (w.heap.size + 1, 27, #[.int .u64 (r.gen : Nat), .int .i64 r.at_, .int .i64 r.len, .int .i64 r.long, .int .u32 (r.sum : Nat), .int .u64 (r.next : Nat)]), (w.heap.size + 2, 31, #[.slice none 0 0, .slice none 0 0, .int .i64 0])] [] [] := (((Gx.nil w).newB w.heap.size rfl 31 #[.slice A n c, .slice A' k c', .int .i64 l]).newB (w.heap.size + 1) (by simp) 27 #[.int .u64 (r.gen : Nat), .int .i64 r.at_, .int .i64 r.len, .int .i64 r.long, .int .u32 (r.sum : Nat), .int .u64 (r.next : Nat)]).newB (w.heap.size + 2) (by simp) 31 zD
  replace X0 := hide X0
  have tk0 : True := trivial
  have tk1 : True := trivial
  have tk2 : True := trivial
  have tk3 : True := trivial
  go_enter Tryd.func16, Tryd.ntmps16
  go_upto_region 1 with (fail)
  generalize hW : World.alloc (World.alloc (World.alloc w _) _) _ = W at *
  clear hW
  obtain ⟨ca0_0, ca0_1, ca0_2⟩ := ck3 ((unhide X0).get 0 rfl)
  obtain ⟨fa0_0, fa0_1, fa0_2⟩ := fk3 ((unhide X0).get 0 rfl)
  have q0 := ((unhide X0).get 0 rfl).lt
  obtain ⟨ca1_0, ca1_1, ca1_2, ca1_3, ca1_4, ca1_5⟩ := zk6 ((unhide X0).get 1 rfl)
  have q1 := ((unhide X0).get 1 rfl).lt
  obtain ⟨ca2_0, ca2_1, ca2_2⟩ := ck3 ((unhide X0).get 2 rfl)
  obtain ⟨fa2_0, fa2_1, fa2_2⟩ := fk3 ((unhide X0).get 2 rfl)
  have q2 := ((unhide X0).get 2 rfl).lt
  go_wp2_with (first
    | (have _t := tk0; clear tk0 _t; go_at_call 12; refine (unhide hO _ (unhide X0).bl).mono ?_; rintro e w0 ⟨A1, c1, rfl, x1, b0⟩
       have Y0 : Gx w w0 [(w.heap.size, 31, #[.slice A n c, .slice A' k c', .int .i64 l]), (w.heap.size + 1, 27, #[.int .u64 (r.gen : Nat), .int .i64 r.at_, .int .i64 r.len, .int .i64 r.long, .int .u32 (r.sum : Nat), .int .u64 (r.next : Nat)]), (w.heap.size + 2, 31, #[.slice none 0 0, .slice none 0 0, .int .i64 0])] [] [] := (unhide X0).call b0
       have Y0z : Gx w w0 [(w.heap.size, 31, #[.slice A n c, .slice A' k c', .int .i64 l]), (w.heap.size + 1, 27, #[.int .u64 (r.gen : Nat), .int .i64 r.at_, .int .i64 r.len, .int .i64 r.long, .int .u32 (r.sum : Nat), .int .u64 (r.next : Nat)]), (w.heap.size + 2, 31, #[.slice none 0 0, .slice none 0 0, .int .i64 0])] [] [(0, w0.heap.size, .slice A1 32 c1, octs r)] := Y0.addZ (x1.mono (Nat.zero_le _) (Nat.le_refl _))
       clear ca0_0 ca0_1 ca0_2 fa0_0 fa0_1 fa0_2 q0 ca1_0 ca1_1 ca1_2 ca1_3 ca1_4 ca1_5 q1 ca2_0 ca2_1 ca2_2 fa2_0 fa2_1 fa2_2 q2
       obtain ⟨ca0_0, ca0_1, ca0_2⟩ := ck3 (Y0z.get 0 rfl)
       obtain ⟨fa0_0, fa0_1, fa0_2⟩ := fk3 (Y0z.get 0 rfl)
       have q0 := (Y0z.get 0 rfl).lt
       obtain ⟨ca1_0, ca1_1, ca1_2, ca1_3, ca1_4, ca1_5⟩ := zk6 (Y0z.get 1 rfl)
       have q1 := (Y0z.get 1 rfl).lt
       obtain ⟨ca2_0, ca2_1, ca2_2⟩ := ck3 (Y0z.get 2 rfl)
       obtain ⟨fa2_0, fa2_1, fa2_2⟩ := fk3 (Y0z.get 2 rfl)
       have q2 := (Y0z.get 2 rfl).lt
       have X1 := hide Y0z
       clear X0 b0 Y0 Y0z)
    | (have _t := tk1; clear tk1 _t; go_at_call 38; refine (unhide hC _ (unhide X1).bl).mono ?_; rintro e w1 ⟨rfl, b1⟩
       have Y1 : Gx w w1 [(w.heap.size, 31, #[.slice A n c, .slice A' k c', .int .i64 l]), (w.heap.size + 1, 27, #[.int .u64 (r.gen : Nat), .int .i64 r.at_, .int .i64 r.len, .int .i64 r.long, .int .u32 (r.sum : Nat), .int .u64 (r.next : Nat)]), (w.heap.size + 2, 31, #[.slice none 0 0, .slice none 0 0, .int .i64 0])] [] [(0, w0.heap.size, .slice A1 32 c1, octs r)] := (unhide X1).call b1
       clear ca0_0 ca0_1 ca0_2 fa0_0 fa0_1 fa0_2 q0 ca1_0 ca1_1 ca1_2 ca1_3 ca1_4 ca1_5 q1 ca2_0 ca2_1 ca2_2 fa2_0 fa2_1 fa2_2 q2
       obtain ⟨ca0_0, ca0_1, ca0_2⟩ := ck3 (Y1.get 0 rfl)
       obtain ⟨fa0_0, fa0_1, fa0_2⟩ := fk3 (Y1.get 0 rfl)
       have q0 := (Y1.get 0 rfl).lt
       obtain ⟨ca1_0, ca1_1, ca1_2, ca1_3, ca1_4, ca1_5⟩ := zk6 (Y1.get 1 rfl)
       have q1 := (Y1.get 1 rfl).lt
       obtain ⟨ca2_0, ca2_1, ca2_2⟩ := ck3 (Y1.get 2 rfl)
       obtain ⟨fa2_0, fa2_1, fa2_2⟩ := fk3 (Y1.get 2 rfl)
       have q2 := (Y1.get 2 rfl).lt
       have X2 := hide Y1
       clear X1 b1 Y1)
    | (have _t := tk2; clear tk2 _t; go_at_call 39; refine (unhide hS _ _ (unhide X2).bl ((unhide X2).rd 0 rfl)).mono ?_; rintro e w2 ⟨A4, c4, B4, e4, rfl, x4, b2⟩
       have Y2 : Gx w w2 [(w.heap.size, 31, #[.slice A n c, .slice A' k c', .int .i64 l]), (w.heap.size + 1, 27, #[.int .u64 (r.gen : Nat), .int .i64 r.at_, .int .i64 r.len, .int .i64 r.long, .int .u32 (r.sum : Nat), .int .u64 (r.next : Nat)]), (w.heap.size + 2, 31, #[.slice none 0 0, .slice none 0 0, .int .i64 0])] [] [(0, w0.heap.size, .slice A1 32 c1, octs r)] := (unhide X2).call b2
       have Y2d : Gx w w2 [(w.heap.size, 31, #[.slice A n c, .slice A' k c', .int .i64 l]), (w.heap.size + 1, 27, #[.int .u64 (r.gen : Nat), .int .i64 r.at_, .int .i64 r.len, .int .i64 r.long, .int .u32 (r.sum : Nat), .int .u64 (r.next : Nat)]), (w.heap.size + 2, 31, #[.slice none 0 0, .slice none 0 0, .int .i64 0])] [(w1.heap.size, w2.heap.size, .agg #[.slice A4 X.dry.length c4, .slice B4 X.wet.length e4, .int .i64 X.left], X)] [(0, w0.heap.size, .slice A1 32 c1, octs r)] := Y2.addD x4
       clear ca0_0 ca0_1 ca0_2 fa0_0 fa0_1 fa0_2 q0 ca1_0 ca1_1 ca1_2 ca1_3 ca1_4 ca1_5 q1 ca2_0 ca2_1 ca2_2 fa2_0 fa2_1 fa2_2 q2
       obtain ⟨ca0_0, ca0_1, ca0_2⟩ := ck3 (Y2d.get 0 rfl)
       obtain ⟨fa0_0, fa0_1, fa0_2⟩ := fk3 (Y2d.get 0 rfl)
       have q0 := (Y2d.get 0 rfl).lt
       obtain ⟨ca1_0, ca1_1, ca1_2, ca1_3, ca1_4, ca1_5⟩ := zk6 (Y2d.get 1 rfl)
       have q1 := (Y2d.get 1 rfl).lt
       obtain ⟨ca2_0, ca2_1, ca2_2⟩ := ck3 (Y2d.get 2 rfl)
       obtain ⟨fa2_0, fa2_1, fa2_2⟩ := fk3 (Y2d.get 2 rfl)
       have q2 := (Y2d.get 2 rfl).lt
       have l7 : w.heap.size + 2 < w1.heap.size := ((unhide X2).get 2 rfl).lt
       have l8 : w.heap.size + 2 < w2.heap.size := (Y2d.get 2 rfl).lt
       have Z2 : Gx w (((w2.setCell ⟨w.heap.size, 0, none⟩ (.slice A4 X.dry.length c4)).setCell ⟨w.heap.size, 1, none⟩ (.slice B4 X.wet.length e4)).setCell ⟨w.heap.size, 2, none⟩ (.int .i64 X.left)) [(w.heap.size + 1, 27, #[.int .u64 (r.gen : Nat), .int .i64 r.at_, .int .i64 r.len, .int .i64 r.long, .int .u32 (r.sum : Nat), .int .u64 (r.next : Nat)]), (w.heap.size + 2, 31, #[.slice none 0 0, .slice none 0 0, .int .i64 0]), (w.heap.size, 31, #[.slice A4 X.dry.length c4, .slice B4 X.wet.length e4, .int .i64 X.left])] [(w1.heap.size, w2.heap.size, .agg #[.slice A4 X.dry.length c4, .slice B4 X.wet.length e4, .int .i64 X.left], X)] [] := (Y2d.sub (L' := [(w.heap.size + 1, 27, #[.int .u64 (r.gen : Nat), .int .i64 r.at_, .int .i64 r.len, .int .i64 r.long, .int .u32 (r.sum : Nat), .int .u64 (r.next : Nat)]), (w.heap.size + 2, 31, #[.slice none 0 0, .slice none 0 0, .int .i64 0])]) (Z' := []) (by simp) (fun _ h => h) (fun _ h => (nomatch h))).set3 (Y2d.get 0 rfl) (Nat.le_refl _) (by simp) (by simp; omega) (by simp) (.slice A4 X.dry.length c4) (.slice B4 X.wet.length e4) (.int .i64 X.left)
       have X3 := hide Z2
       clear X2 b2 Y2 Y2d Z2)
    | (have _t := tk3; clear tk3 _t; go_at_call 40; refine (unhide hY0 _ _ _ ((unhide X3).dr 0 rfl)).mono ?_; rintro e w3 ⟨v7, E7, rfl, x7, hE7, b3⟩
       have Y3 : Gx w w3 [(w.heap.size + 1, 27, #[.int .u64 (r.gen : Nat), .int .i64 r.at_, .int .i64 r.len, .int .i64 r.long, .int .u32 (r.sum : Nat), .int .u64 (r.next : Nat)]), (w.heap.size + 2, 31, #[.slice none 0 0, .slice none 0 0, .int .i64 0]), (w.heap.size, 31, #[.slice A4 X.dry.length c4, .slice B4 X.wet.length e4, .int .i64 X.left])] [(w1.heap.size, w2.heap.size, .agg #[.slice A4 X.dry.length c4, .slice B4 X.wet.length e4, .int .i64 X.left], X)] [] := (unhide X3).call b3
       clear ca0_0 ca0_1 ca0_2 fa0_0 fa0_1 fa0_2 q0 ca1_0 ca1_1 ca1_2 ca1_3 ca1_4 ca1_5 q1 ca2_0 ca2_1 ca2_2 fa2_0 fa2_1 fa2_2 q2
       obtain ⟨ca0_0, ca0_1, ca0_2, ca0_3, ca0_4, ca0_5⟩ := zk6 (Y3.get 0 rfl)
       have q0 := (Y3.get 0 rfl).lt
       obtain ⟨ca1_0, ca1_1, ca1_2⟩ := ck3 (Y3.get 1 rfl)
       obtain ⟨fa1_0, fa1_1, fa1_2⟩ := fk3 (Y3.get 1 rfl)
       have q1 := (Y3.get 1 rfl).lt
       obtain ⟨ca2_0, ca2_1, ca2_2⟩ := ck3 (Y3.get 2 rfl)
       have q2 := (Y3.get 2 rfl).lt
       obtain ⟨A7, c7, B7, e7, rfl⟩ := x7.form
       have Y9 := (Y3.sub (Y' := []) (fun _ h => h) (fun _ h => (nomatch h)) (fun _ h => h)).addD x7
       have X4 := hide Y9
       replace hE7 := hide hE7
       clear X3 b3 Y3 Y9 x7)
    | fail)
  have X9 := ((unhide X4).sub (L' := []) (fun _ h => (nomatch h)) (fun _ h => h) (fun _ h => h)).set3 ((unhide X4).get 1 rfl) (by omega) (by simp) (by simp; first | omega | (right; omega)) (by simp) (.slice A7 (synD X).1.dry.length c7) (.slice B7 (synD X).1.wet.length e7) (.int .i64 (synD X).1.left)
  exact ret_disk2 rfl (w.heap.size + 2) _ rfl _ rfl rfl (X9.get 0 rfl) rfl ⟨_, _, rfl, (X9.dr 0 rfl).mono (by simp; omega) (Nat.le_refl _), unhide hE7, X9.bl⟩
theorem refWrite_any (lo : Nat) (v : Value) (d : Dk) (r : Rt) (w : World) (hT : OkT r) (h : Dsk lo w.heap.size w v d) (hL : d.dry.length ≤ 1000000) (hW : d.wet.length ≤ 400) :
    Calls Tryd.prog 16 #[v, (.agg #[.int .u64 (r.gen : Nat), .int .i64 r.at_, .int .i64 r.len, .int .i64 r.long, .int .u32 (r.sum : Nat), .int .u64 (r.next : Nat)])] w fun e w' => ∃ v' E, e = .returned (.tuple #[v', .int .i64 E]) ∧ Dsk w.heap.size w'.heap.size w' v' (wrR d r).1 ∧ E = (wrR d r).2 ∧ Below w.heap.size w w' := by
  have herr : wrR d r = (noDk, 1) → (∀ (e : Ending) (w' : World), (e = .returned (.tuple #[.agg zD, .int .i64 1]) ∧ Below w.heap.size w w') → ∃ v' E, e = .returned (.tuple #[v', .int .i64 E]) ∧ Dsk w.heap.size w'.heap.size w' v' (wrR d r).1 ∧ E = (wrR d r).2 ∧ Below w.heap.size w w') := fun e e' w' ⟨h1, h2⟩ => by
    rw [e]
    exact ⟨_, _, h1, noDk_dsk' _ _ _, rfl, h2⟩
  cases hr : rOk r with
  | false => exact (refWrite_form lo v d r w h hr).mono fun e w' hh => herr (by unfold wrR; rw [hr]; rfl) e w' hh
  | true =>
    cases hk : okD d with
    | false => exact (refWrite_bad lo v d r w hT h hr hk).mono fun e w' hh => herr (by unfold wrR holdB; rw [hr, hk]; rfl) e w' hh
    | true =>
      by_cases hn : d.dry.length < 96
      · refine (refWrite_small lo v d r w hT h hr hk hn).mono fun e w' hh => herr ?_ e w' hh
        have : decide (64 < d.dry.length) = false := decide_eq_false (by have := (okD_parts hk).1; omega)
        unfold wrR holdB; rw [hr, hk, this]; rfl
      · have hd : holdB d = true := by unfold holdB; rw [hk, decide_eq_true (show 64 < d.dry.length by omega)]; rfl
        have hY := wrD_len d ((r.gen % 2 : Nat) : Int) (octs r) hL hW
        obtain ⟨X, EE, hX⟩ : ∃ X EE, wrD d ((r.gen % 2 : Nat) : Int) (octs r) = (X, EE) := ⟨_, _, rfl⟩
        rw [hX] at hY
        by_cases hE : EE = 0
        · have e : wrR d r = synD X := by unfold wrR; rw [hr, hd, hX]; simp [hE]
          rw [e]
          exact refWrite_goes lo v d r w hT h hL hW hr hk (by omega) X EE hX hE hY
        · have e : wrR d r = (noDk, EE) := by unfold wrR; rw [hr, hd, hX]; simp [hE]
          refine (refWrite_dead lo v d r w hT h hL hW hr hk (by omega) X EE hX hE).mono ?_
          rintro e' w' ⟨rfl, hb⟩
          rw [e]
          exact ⟨_, _, rfl, noDk_dsk' _ _ _, rfl, hb⟩
end Go.Proofs.YtommlgdolahfbaaDoor
