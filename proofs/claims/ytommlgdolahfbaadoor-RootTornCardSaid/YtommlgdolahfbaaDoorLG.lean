import Derived.Test.YtommlgdolahfbaaDoorRL
import Derived.Test.YtommlgdolahfbaaDoorRM
namespace Go.Proofs.YtommlgdolahfbaaDoor
set_option maxRecDepth 100000
open Go.RowKit

theorem Gx.drewN {w0 w : World} {L : List (Nat × TypeId × Array Value)} {Y : List (Nat × Nat × Value × Dk)} {Z : List (Nat × Nat × Value × List UInt8)} (h : Gx w0 w L Y Z) (n : Nat) : Gx w0 (w.drewN n) L Y Z :=
  ⟨⟨h.bl.os, h.bl.tape, h.bl.output, h.bl.size, h.bl.block⟩, h.blk, h.dsk, h.bs⟩
/-- Octets with a stamp another one. -/
theorem octs_turned (r : Rt) {k : Nat} (hk : k < 8) {c : UInt8} (hc : oct r.gen 0 ≠ c) : ofB ((octs r).set (4 * k) c) = false := by
  cases h : ofB ((octs r).set (4 * k) c) with
  | false => rfl
  | true =>
    obtain ⟨x, hx⟩ := ofB_stamp h
    have h1 := hx k hk
    rw [List.getElem?_set_self (by rw [octs_len]; omega)] at h1
    injection h1 with h1
    obtain ⟨j, hj, hne⟩ : ∃ j, j < 8 ∧ j ≠ k := by
      by_cases h0 : k = 0
      · exact ⟨1, by omega, by omega⟩
      · exact ⟨0, by omega, fun e => h0 e.symm⟩
    have h2 := hx j hj
    rw [List.getElem?_set_ne (by omega), octs_stamp r hj] at h2
    injection h2 with h2
    exact absurd (h2.trans h1.symm) hc
theorem blk_set8 {w : World} {g i : Nat} {l : List UInt8} {c : UInt8} (h : Blk w g 5 (l.map u8v).toArray) : Blk (w.setCell ⟨g, i, none⟩ (.int .u8 (c.toNat : Int))) g 5 ((l.set i c).map u8v).toArray := by
  have := h.set i (u8v c)
  rw [List.map_set]
  simpa [u8v] using this
set_option maxHeartbeats 4000000 in
theorem groups_form (r : Rt) (hT : OkT r) (k : Int) (c : UInt8) (w : World) (ht : Tab w) (h : rOk r = false) :
    Calls Tryd.prog 7 #[(.agg #[.int .u64 (r.gen : Nat), .int .i64 r.at_, .int .i64 r.len, .int .i64 r.long, .int .u32 (r.sum : Nat), .int .u64 (r.next : Nat)]), .int .i64 k, .int .u8 (c.toNat : Int)] w fun e w' => e = .returned (.bool true) ∧ Below w.heap.size w w' := by
  have hl := fun W (hB : Below w.heap.size w W) => live_any W (ht.below hB (Nat.le_refl _))
  have hO := fun W (_ : Below w.heap.size w W) => Octets_bad r h hT W
  have X0 : Gx w (w.alloc (.cells #[.int .u64 (r.gen : Nat), .int .i64 r.at_, .int .i64 r.len, .int .i64 r.long, .int .u32 (r.sum : Nat), .int .u64 (r.next : Nat)] 27)) [(w.heap.size, 27, #[.int .u64 (r.gen : Nat), .int .i64 r.at_, .int .i64 r.len, .int .i64 r.long, .int .u32 (r.sum : Nat), .int .u64 (r.next : Nat)])] [] [] := (Gx.nil w).newB w.heap.size rfl 27 #[.int .u64 (r.gen : Nat), .int .i64 r.at_, .int .i64 r.len, .int .i64 r.long, .int .u32 (r.sum : Nat), .int .u64 (r.next : Nat)]
  replace X0 := hide X0; replace hl := hide hl
  replace hO := hide hO
  clear hT ht h
  have tk0 : True := trivial
  have tk1 : True := trivial
  go_enter Tryd.func7, Tryd.ntmps7
  go_upto_region 1 with (fail)
  generalize hW : World.alloc w _ = W at *
  clear hW
  have ca0_0 : W.cell? ⟨w.heap.size, 0, none⟩ = some (.int .u64 (r.gen : Nat)) := ((unhide X0).get 0 rfl).cell 0
  have fa0_0 : W.frozen? ⟨w.heap.size, 0, none⟩ = false := ((unhide X0).get 0 rfl).frozen 0
  have ca0_1 : W.cell? ⟨w.heap.size, 1, none⟩ = some (.int .i64 r.at_) := ((unhide X0).get 0 rfl).cell 1
  have fa0_1 : W.frozen? ⟨w.heap.size, 1, none⟩ = false := ((unhide X0).get 0 rfl).frozen 1
  have ca0_2 : W.cell? ⟨w.heap.size, 2, none⟩ = some (.int .i64 r.len) := ((unhide X0).get 0 rfl).cell 2
  have fa0_2 : W.frozen? ⟨w.heap.size, 2, none⟩ = false := ((unhide X0).get 0 rfl).frozen 2
  have ca0_3 : W.cell? ⟨w.heap.size, 3, none⟩ = some (.int .i64 r.long) := ((unhide X0).get 0 rfl).cell 3
  have fa0_3 : W.frozen? ⟨w.heap.size, 3, none⟩ = false := ((unhide X0).get 0 rfl).frozen 3
  have ca0_4 : W.cell? ⟨w.heap.size, 4, none⟩ = some (.int .u32 (r.sum : Nat)) := ((unhide X0).get 0 rfl).cell 4
  have fa0_4 : W.frozen? ⟨w.heap.size, 4, none⟩ = false := ((unhide X0).get 0 rfl).frozen 4
  have ca0_5 : W.cell? ⟨w.heap.size, 5, none⟩ = some (.int .u64 (r.next : Nat)) := ((unhide X0).get 0 rfl).cell 5
  have fa0_5 : W.frozen? ⟨w.heap.size, 5, none⟩ = false := ((unhide X0).get 0 rfl).frozen 5
  have q0 : w.heap.size < W.heap.size := ((unhide X0).get 0 rfl).lt
  go_wp2_with (first
    | (have _t := tk0; clear tk0 _t; go_at_call 8; refine (unhide hl _ (unhide X0).bl).mono ?_; rintro e w0 ⟨rfl, b0⟩
       have Y0 : Gx w w0 [(w.heap.size, 27, #[.int .u64 (r.gen : Nat), .int .i64 r.at_, .int .i64 r.len, .int .i64 r.long, .int .u32 (r.sum : Nat), .int .u64 (r.next : Nat)])] [] [] := (unhide X0).call b0
       clear ca0_0 fa0_0 ca0_1 fa0_1 ca0_2 fa0_2 ca0_3 fa0_3 ca0_4 fa0_4 ca0_5 fa0_5 q0
       have ca0_0 : w0.cell? ⟨w.heap.size, 0, none⟩ = some (.int .u64 (r.gen : Nat)) := (Y0.get 0 rfl).cell 0
       have fa0_0 : w0.frozen? ⟨w.heap.size, 0, none⟩ = false := (Y0.get 0 rfl).frozen 0
       have ca0_1 : w0.cell? ⟨w.heap.size, 1, none⟩ = some (.int .i64 r.at_) := (Y0.get 0 rfl).cell 1
       have fa0_1 : w0.frozen? ⟨w.heap.size, 1, none⟩ = false := (Y0.get 0 rfl).frozen 1
       have ca0_2 : w0.cell? ⟨w.heap.size, 2, none⟩ = some (.int .i64 r.len) := (Y0.get 0 rfl).cell 2
       have fa0_2 : w0.frozen? ⟨w.heap.size, 2, none⟩ = false := (Y0.get 0 rfl).frozen 2
       have ca0_3 : w0.cell? ⟨w.heap.size, 3, none⟩ = some (.int .i64 r.long) := (Y0.get 0 rfl).cell 3
       have fa0_3 : w0.frozen? ⟨w.heap.size, 3, none⟩ = false := (Y0.get 0 rfl).frozen 3
       have ca0_4 : w0.cell? ⟨w.heap.size, 4, none⟩ = some (.int .u32 (r.sum : Nat)) := (Y0.get 0 rfl).cell 4
       have fa0_4 : w0.frozen? ⟨w.heap.size, 4, none⟩ = false := (Y0.get 0 rfl).frozen 4
       have ca0_5 : w0.cell? ⟨w.heap.size, 5, none⟩ = some (.int .u64 (r.next : Nat)) := (Y0.get 0 rfl).cell 5
       have fa0_5 : w0.frozen? ⟨w.heap.size, 5, none⟩ = false := (Y0.get 0 rfl).frozen 5
       have q0 : w.heap.size < w0.heap.size := (Y0.get 0 rfl).lt
       have X1 := hide Y0
       clear X0 b0 Y0)
    | (have _t := tk1; clear tk1 _t; go_at_call 11; refine (unhide hO _ (unhide X1).bl).mono ?_; rintro e w1 ⟨rfl, b1⟩
       have Y1 : Gx w w1 [(w.heap.size, 27, #[.int .u64 (r.gen : Nat), .int .i64 r.at_, .int .i64 r.len, .int .i64 r.long, .int .u32 (r.sum : Nat), .int .u64 (r.next : Nat)])] [] [] := (unhide X1).call b1
       clear ca0_0 fa0_0 ca0_1 fa0_1 ca0_2 fa0_2 ca0_3 fa0_3 ca0_4 fa0_4 ca0_5 fa0_5 q0
       have ca0_0 : w1.cell? ⟨w.heap.size, 0, none⟩ = some (.int .u64 (r.gen : Nat)) := (Y1.get 0 rfl).cell 0
       have fa0_0 : w1.frozen? ⟨w.heap.size, 0, none⟩ = false := (Y1.get 0 rfl).frozen 0
       have ca0_1 : w1.cell? ⟨w.heap.size, 1, none⟩ = some (.int .i64 r.at_) := (Y1.get 0 rfl).cell 1
       have fa0_1 : w1.frozen? ⟨w.heap.size, 1, none⟩ = false := (Y1.get 0 rfl).frozen 1
       have ca0_2 : w1.cell? ⟨w.heap.size, 2, none⟩ = some (.int .i64 r.len) := (Y1.get 0 rfl).cell 2
       have fa0_2 : w1.frozen? ⟨w.heap.size, 2, none⟩ = false := (Y1.get 0 rfl).frozen 2
       have ca0_3 : w1.cell? ⟨w.heap.size, 3, none⟩ = some (.int .i64 r.long) := (Y1.get 0 rfl).cell 3
       have fa0_3 : w1.frozen? ⟨w.heap.size, 3, none⟩ = false := (Y1.get 0 rfl).frozen 3
       have ca0_4 : w1.cell? ⟨w.heap.size, 4, none⟩ = some (.int .u32 (r.sum : Nat)) := (Y1.get 0 rfl).cell 4
       have fa0_4 : w1.frozen? ⟨w.heap.size, 4, none⟩ = false := (Y1.get 0 rfl).frozen 4
       have ca0_5 : w1.cell? ⟨w.heap.size, 5, none⟩ = some (.int .u64 (r.next : Nat)) := (Y1.get 0 rfl).cell 5
       have fa0_5 : w1.frozen? ⟨w.heap.size, 5, none⟩ = false := (Y1.get 0 rfl).frozen 5
       have q0 : w.heap.size < w1.heap.size := (Y1.get 0 rfl).lt
       have X2 := hide Y1
       clear X1 b1 Y1)
    | fail)
  go_ret
  exact ⟨rfl, (unhide X2).bl⟩
set_option maxHeartbeats 4000000 in
theorem groups_neg (r : Rt) (hT : OkT r) (k : Int) (c : UInt8) (w : World) (ht : Tab w) (h : rOk r = true) (hk : k < 0) :
    Calls Tryd.prog 7 #[(.agg #[.int .u64 (r.gen : Nat), .int .i64 r.at_, .int .i64 r.len, .int .i64 r.long, .int .u32 (r.sum : Nat), .int .u64 (r.next : Nat)]), .int .i64 k, .int .u8 (c.toNat : Int)] w fun e w' => e = .returned (.bool true) ∧ Below w.heap.size w w' := by
  have hl := fun W (hB : Below w.heap.size w W) => live_any W (ht.below hB (Nat.le_refl _))
  have hO := fun W (hB : Below w.heap.size w W) => Octets_good r h hT W (ht.below hB (Nat.le_refl _))
  have hst := fun i (hi : i < 8) => octs_stamp r hi
  have X0 : Gx w (w.alloc (.cells #[.int .u64 (r.gen : Nat), .int .i64 r.at_, .int .i64 r.len, .int .i64 r.long, .int .u32 (r.sum : Nat), .int .u64 (r.next : Nat)] 27)) [(w.heap.size, 27, #[.int .u64 (r.gen : Nat), .int .i64 r.at_, .int .i64 r.len, .int .i64 r.long, .int .u32 (r.sum : Nat), .int .u64 (r.next : Nat)])] [] [] := (Gx.nil w).newB w.heap.size rfl 27 #[.int .u64 (r.gen : Nat), .int .i64 r.at_, .int .i64 r.len, .int .i64 r.long, .int .u32 (r.sum : Nat), .int .u64 (r.next : Nat)]
  replace X0 := hide X0; replace hl := hide hl
  replace hO := hide hO; replace hst := hide hst
  clear hT ht h
  have tk0 : True := trivial
  have tk1 : True := trivial
  go_enter Tryd.func7, Tryd.ntmps7
  go_upto_region 1 with (fail)
  generalize hW : World.alloc w _ = W at *
  clear hW
  have ca0_0 : W.cell? ⟨w.heap.size, 0, none⟩ = some (.int .u64 (r.gen : Nat)) := ((unhide X0).get 0 rfl).cell 0
  have fa0_0 : W.frozen? ⟨w.heap.size, 0, none⟩ = false := ((unhide X0).get 0 rfl).frozen 0
  have ca0_1 : W.cell? ⟨w.heap.size, 1, none⟩ = some (.int .i64 r.at_) := ((unhide X0).get 0 rfl).cell 1
  have fa0_1 : W.frozen? ⟨w.heap.size, 1, none⟩ = false := ((unhide X0).get 0 rfl).frozen 1
  have ca0_2 : W.cell? ⟨w.heap.size, 2, none⟩ = some (.int .i64 r.len) := ((unhide X0).get 0 rfl).cell 2
  have fa0_2 : W.frozen? ⟨w.heap.size, 2, none⟩ = false := ((unhide X0).get 0 rfl).frozen 2
  have ca0_3 : W.cell? ⟨w.heap.size, 3, none⟩ = some (.int .i64 r.long) := ((unhide X0).get 0 rfl).cell 3
  have fa0_3 : W.frozen? ⟨w.heap.size, 3, none⟩ = false := ((unhide X0).get 0 rfl).frozen 3
  have ca0_4 : W.cell? ⟨w.heap.size, 4, none⟩ = some (.int .u32 (r.sum : Nat)) := ((unhide X0).get 0 rfl).cell 4
  have fa0_4 : W.frozen? ⟨w.heap.size, 4, none⟩ = false := ((unhide X0).get 0 rfl).frozen 4
  have ca0_5 : W.cell? ⟨w.heap.size, 5, none⟩ = some (.int .u64 (r.next : Nat)) := ((unhide X0).get 0 rfl).cell 5
  have fa0_5 : W.frozen? ⟨w.heap.size, 5, none⟩ = false := ((unhide X0).get 0 rfl).frozen 5
  have q0 : w.heap.size < W.heap.size := ((unhide X0).get 0 rfl).lt
  go_wp2_with (first
    | (have _t := tk0; clear tk0 _t; go_at_call 8; refine (unhide hl _ (unhide X0).bl).mono ?_; rintro e w0 ⟨rfl, b0⟩
       have Y0 : Gx w w0 [(w.heap.size, 27, #[.int .u64 (r.gen : Nat), .int .i64 r.at_, .int .i64 r.len, .int .i64 r.long, .int .u32 (r.sum : Nat), .int .u64 (r.next : Nat)])] [] [] := (unhide X0).call b0
       clear ca0_0 fa0_0 ca0_1 fa0_1 ca0_2 fa0_2 ca0_3 fa0_3 ca0_4 fa0_4 ca0_5 fa0_5 q0
       have ca0_0 : w0.cell? ⟨w.heap.size, 0, none⟩ = some (.int .u64 (r.gen : Nat)) := (Y0.get 0 rfl).cell 0
       have fa0_0 : w0.frozen? ⟨w.heap.size, 0, none⟩ = false := (Y0.get 0 rfl).frozen 0
       have ca0_1 : w0.cell? ⟨w.heap.size, 1, none⟩ = some (.int .i64 r.at_) := (Y0.get 0 rfl).cell 1
       have fa0_1 : w0.frozen? ⟨w.heap.size, 1, none⟩ = false := (Y0.get 0 rfl).frozen 1
       have ca0_2 : w0.cell? ⟨w.heap.size, 2, none⟩ = some (.int .i64 r.len) := (Y0.get 0 rfl).cell 2
       have fa0_2 : w0.frozen? ⟨w.heap.size, 2, none⟩ = false := (Y0.get 0 rfl).frozen 2
       have ca0_3 : w0.cell? ⟨w.heap.size, 3, none⟩ = some (.int .i64 r.long) := (Y0.get 0 rfl).cell 3
       have fa0_3 : w0.frozen? ⟨w.heap.size, 3, none⟩ = false := (Y0.get 0 rfl).frozen 3
       have ca0_4 : w0.cell? ⟨w.heap.size, 4, none⟩ = some (.int .u32 (r.sum : Nat)) := (Y0.get 0 rfl).cell 4
       have fa0_4 : w0.frozen? ⟨w.heap.size, 4, none⟩ = false := (Y0.get 0 rfl).frozen 4
       have ca0_5 : w0.cell? ⟨w.heap.size, 5, none⟩ = some (.int .u64 (r.next : Nat)) := (Y0.get 0 rfl).cell 5
       have fa0_5 : w0.frozen? ⟨w.heap.size, 5, none⟩ = false := (Y0.get 0 rfl).frozen 5
       have q0 : w.heap.size < w0.heap.size := (Y0.get 0 rfl).lt
       have X1 := hide Y0
       clear X0 b0 Y0)
    | (have _t := tk1; clear tk1 _t; go_at_call 11; refine (unhide hO _ (unhide X1).bl).mono ?_; rintro e w1 ⟨g, rfl, hg, k8, b1⟩
       have Y1 : Gx w w1 [(w.heap.size, 27, #[.int .u64 (r.gen : Nat), .int .i64 r.at_, .int .i64 r.len, .int .i64 r.long, .int .u32 (r.sum : Nat), .int .u64 (r.next : Nat)])] [] [] := (unhide X1).call b1
       clear ca0_0 fa0_0 ca0_1 fa0_1 ca0_2 fa0_2 ca0_3 fa0_3 ca0_4 fa0_4 ca0_5 fa0_5 q0
       have ca0_0 : w1.cell? ⟨w.heap.size, 0, none⟩ = some (.int .u64 (r.gen : Nat)) := (Y1.get 0 rfl).cell 0
       have fa0_0 : w1.frozen? ⟨w.heap.size, 0, none⟩ = false := (Y1.get 0 rfl).frozen 0
       have ca0_1 : w1.cell? ⟨w.heap.size, 1, none⟩ = some (.int .i64 r.at_) := (Y1.get 0 rfl).cell 1
       have fa0_1 : w1.frozen? ⟨w.heap.size, 1, none⟩ = false := (Y1.get 0 rfl).frozen 1
       have ca0_2 : w1.cell? ⟨w.heap.size, 2, none⟩ = some (.int .i64 r.len) := (Y1.get 0 rfl).cell 2
       have fa0_2 : w1.frozen? ⟨w.heap.size, 2, none⟩ = false := (Y1.get 0 rfl).frozen 2
       have ca0_3 : w1.cell? ⟨w.heap.size, 3, none⟩ = some (.int .i64 r.long) := (Y1.get 0 rfl).cell 3
       have fa0_3 : w1.frozen? ⟨w.heap.size, 3, none⟩ = false := (Y1.get 0 rfl).frozen 3
       have ca0_4 : w1.cell? ⟨w.heap.size, 4, none⟩ = some (.int .u32 (r.sum : Nat)) := (Y1.get 0 rfl).cell 4
       have fa0_4 : w1.frozen? ⟨w.heap.size, 4, none⟩ = false := (Y1.get 0 rfl).frozen 4
       have ca0_5 : w1.cell? ⟨w.heap.size, 5, none⟩ = some (.int .u64 (r.next : Nat)) := (Y1.get 0 rfl).cell 5
       have fa0_5 : w1.frozen? ⟨w.heap.size, 5, none⟩ = false := (Y1.get 0 rfl).frozen 5
       have q0 : w.heap.size < w1.heap.size := (Y1.get 0 rfl).lt
       have Y1c : Gx w w1 [(w.heap.size, 27, #[.int .u64 (r.gen : Nat), .int .i64 r.at_, .int .i64 r.len, .int .i64 r.long, .int .u32 (r.sum : Nat), .int .u64 (r.next : Nat)]), (g, 5, ((octs r).map u8v).toArray)] [] [] := Y1.addB k8
       have hgw : w.heap.size < g := Nat.lt_of_lt_of_le ((unhide X1).get 0 rfl).lt hg
       have X2 := hide Y1c
       clear X1 b1 Y1 Y1c k8 hg)
    | fail)
  clear hl hO ca0_0 ca0_1 ca0_2 ca0_3 ca0_4 ca0_5 fa0_0 fa0_1 fa0_2 fa0_3 fa0_4 fa0_5 q0
  have lz : ((octs r).map u8v).length = 32 := by rw [List.length_map, octs_len]
  replace lz := hide lz
  go_loopw [22] (fun i wr => ∃ j : Nat, j ≤ 8 ∧ i = .int .i64 j ∧ Hid (Gx w wr [(w.heap.size, 27, #[.int .u64 (r.gen : Nat), .int .i64 r.at_, .int .i64 r.len, .int .i64 r.long, .int .u32 (r.sum : Nat), .int .u64 (r.next : Nat)]), (g, 5, ((octs r).map u8v).toArray)] [] [])) (fun i _ => 8 - (intOf i).toNat)
  case atStart => exact ⟨0, by omega, rfl, X2⟩
  case round =>
    obtain ⟨j, hj, rfl, X3⟩ := hrel
    clear X2
    by_cases hlt : j < 8
    · have j1 : (j : Int) < 8 := by omega
      have w4 : IntKind.i64.wrap (4 * (j : Int)) = ((4 * j : Nat) : Int) := by rw [IntWalk.i64_in _ (by omega)]; omega
      have j2 : ((4 * j : Nat) : Int) < 32 := by omega
      have j3 : 4 * j < 32 := by omega
      have eo : ((r.gen : Nat) : Int) % 256 = ((oct r.gen 0).toNat : Int) := by rw [oct_nat]; omega
      have c0 : wr.cell? ⟨w.heap.size, 0, none⟩ = some (.int .u64 (r.gen : Nat)) := ((unhide X3).get 0 rfl).cell 0
      have c8 : wr.cell? ⟨g, 4 * j, none⟩ = some (.int .u8 (((r.gen : Nat) : Int) % 256)) := by
        rw [((unhide X3).get 1 rfl).cell, List.getElem?_toArray, List.getElem?_map, unhide hst j hlt, eo]; rfl
      clear eo
      go_upto_region 8 with fail
      go_quiet (fail)
      go_wp2
      go_roundw
      case rel => exact ⟨j + 1, by omega, by go_num, hide ((unhide X3).drewN _)⟩
      case measure => simp [intOf]; omega
    · obtain rfl : j = 8 := by omega
      go_wp2_with fail
      go_ret
      exact ⟨rfl, (unhide X3).bl⟩

set_option maxHeartbeats 4000000 in
theorem groups_up (r : Rt) (hT : OkT r) (k : Int) (c : UInt8) (w : World) (ht : Tab w) (h : rOk r = true) (hk : 7 < k) :
    Calls Tryd.prog 7 #[(.agg #[.int .u64 (r.gen : Nat), .int .i64 r.at_, .int .i64 r.len, .int .i64 r.long, .int .u32 (r.sum : Nat), .int .u64 (r.next : Nat)]), .int .i64 k, .int .u8 (c.toNat : Int)] w fun e w' => e = .returned (.bool true) ∧ Below w.heap.size w w' := by
  have hl := fun W (hB : Below w.heap.size w W) => live_any W (ht.below hB (Nat.le_refl _))
  have hO := fun W (hB : Below w.heap.size w W) => Octets_good r h hT W (ht.below hB (Nat.le_refl _))
  have hst := fun i (hi : i < 8) => octs_stamp r hi
  have hk0 : ¬ k < 0 := by omega
  have X0 : Gx w (w.alloc (.cells #[.int .u64 (r.gen : Nat), .int .i64 r.at_, .int .i64 r.len, .int .i64 r.long, .int .u32 (r.sum : Nat), .int .u64 (r.next : Nat)] 27)) [(w.heap.size, 27, #[.int .u64 (r.gen : Nat), .int .i64 r.at_, .int .i64 r.len, .int .i64 r.long, .int .u32 (r.sum : Nat), .int .u64 (r.next : Nat)])] [] [] := (Gx.nil w).newB w.heap.size rfl 27 #[.int .u64 (r.gen : Nat), .int .i64 r.at_, .int .i64 r.len, .int .i64 r.long, .int .u32 (r.sum : Nat), .int .u64 (r.next : Nat)]
  replace X0 := hide X0; replace hl := hide hl
  replace hO := hide hO; replace hst := hide hst
  clear hT ht h
  have tk0 : True := trivial
  have tk1 : True := trivial
  go_enter Tryd.func7, Tryd.ntmps7
  go_upto_region 1 with (fail)
  generalize hW : World.alloc w _ = W at *
  clear hW
  have ca0_0 : W.cell? ⟨w.heap.size, 0, none⟩ = some (.int .u64 (r.gen : Nat)) := ((unhide X0).get 0 rfl).cell 0
  have fa0_0 : W.frozen? ⟨w.heap.size, 0, none⟩ = false := ((unhide X0).get 0 rfl).frozen 0
  have ca0_1 : W.cell? ⟨w.heap.size, 1, none⟩ = some (.int .i64 r.at_) := ((unhide X0).get 0 rfl).cell 1
  have fa0_1 : W.frozen? ⟨w.heap.size, 1, none⟩ = false := ((unhide X0).get 0 rfl).frozen 1
  have ca0_2 : W.cell? ⟨w.heap.size, 2, none⟩ = some (.int .i64 r.len) := ((unhide X0).get 0 rfl).cell 2
  have fa0_2 : W.frozen? ⟨w.heap.size, 2, none⟩ = false := ((unhide X0).get 0 rfl).frozen 2
  have ca0_3 : W.cell? ⟨w.heap.size, 3, none⟩ = some (.int .i64 r.long) := ((unhide X0).get 0 rfl).cell 3
  have fa0_3 : W.frozen? ⟨w.heap.size, 3, none⟩ = false := ((unhide X0).get 0 rfl).frozen 3
  have ca0_4 : W.cell? ⟨w.heap.size, 4, none⟩ = some (.int .u32 (r.sum : Nat)) := ((unhide X0).get 0 rfl).cell 4
  have fa0_4 : W.frozen? ⟨w.heap.size, 4, none⟩ = false := ((unhide X0).get 0 rfl).frozen 4
  have ca0_5 : W.cell? ⟨w.heap.size, 5, none⟩ = some (.int .u64 (r.next : Nat)) := ((unhide X0).get 0 rfl).cell 5
  have fa0_5 : W.frozen? ⟨w.heap.size, 5, none⟩ = false := ((unhide X0).get 0 rfl).frozen 5
  have q0 : w.heap.size < W.heap.size := ((unhide X0).get 0 rfl).lt
  go_wp2_with (first
    | (have _t := tk0; clear tk0 _t; go_at_call 8; refine (unhide hl _ (unhide X0).bl).mono ?_; rintro e w0 ⟨rfl, b0⟩
       have Y0 : Gx w w0 [(w.heap.size, 27, #[.int .u64 (r.gen : Nat), .int .i64 r.at_, .int .i64 r.len, .int .i64 r.long, .int .u32 (r.sum : Nat), .int .u64 (r.next : Nat)])] [] [] := (unhide X0).call b0
       clear ca0_0 fa0_0 ca0_1 fa0_1 ca0_2 fa0_2 ca0_3 fa0_3 ca0_4 fa0_4 ca0_5 fa0_5 q0
       have ca0_0 : w0.cell? ⟨w.heap.size, 0, none⟩ = some (.int .u64 (r.gen : Nat)) := (Y0.get 0 rfl).cell 0
       have fa0_0 : w0.frozen? ⟨w.heap.size, 0, none⟩ = false := (Y0.get 0 rfl).frozen 0
       have ca0_1 : w0.cell? ⟨w.heap.size, 1, none⟩ = some (.int .i64 r.at_) := (Y0.get 0 rfl).cell 1
       have fa0_1 : w0.frozen? ⟨w.heap.size, 1, none⟩ = false := (Y0.get 0 rfl).frozen 1
       have ca0_2 : w0.cell? ⟨w.heap.size, 2, none⟩ = some (.int .i64 r.len) := (Y0.get 0 rfl).cell 2
       have fa0_2 : w0.frozen? ⟨w.heap.size, 2, none⟩ = false := (Y0.get 0 rfl).frozen 2
       have ca0_3 : w0.cell? ⟨w.heap.size, 3, none⟩ = some (.int .i64 r.long) := (Y0.get 0 rfl).cell 3
       have fa0_3 : w0.frozen? ⟨w.heap.size, 3, none⟩ = false := (Y0.get 0 rfl).frozen 3
       have ca0_4 : w0.cell? ⟨w.heap.size, 4, none⟩ = some (.int .u32 (r.sum : Nat)) := (Y0.get 0 rfl).cell 4
       have fa0_4 : w0.frozen? ⟨w.heap.size, 4, none⟩ = false := (Y0.get 0 rfl).frozen 4
       have ca0_5 : w0.cell? ⟨w.heap.size, 5, none⟩ = some (.int .u64 (r.next : Nat)) := (Y0.get 0 rfl).cell 5
       have fa0_5 : w0.frozen? ⟨w.heap.size, 5, none⟩ = false := (Y0.get 0 rfl).frozen 5
       have q0 : w.heap.size < w0.heap.size := (Y0.get 0 rfl).lt
       have X1 := hide Y0
       clear X0 b0 Y0)
    | (have _t := tk1; clear tk1 _t; go_at_call 11; refine (unhide hO _ (unhide X1).bl).mono ?_; rintro e w1 ⟨g, rfl, hg, k8, b1⟩
       have Y1 : Gx w w1 [(w.heap.size, 27, #[.int .u64 (r.gen : Nat), .int .i64 r.at_, .int .i64 r.len, .int .i64 r.long, .int .u32 (r.sum : Nat), .int .u64 (r.next : Nat)])] [] [] := (unhide X1).call b1
       clear ca0_0 fa0_0 ca0_1 fa0_1 ca0_2 fa0_2 ca0_3 fa0_3 ca0_4 fa0_4 ca0_5 fa0_5 q0
       have ca0_0 : w1.cell? ⟨w.heap.size, 0, none⟩ = some (.int .u64 (r.gen : Nat)) := (Y1.get 0 rfl).cell 0
       have fa0_0 : w1.frozen? ⟨w.heap.size, 0, none⟩ = false := (Y1.get 0 rfl).frozen 0
       have ca0_1 : w1.cell? ⟨w.heap.size, 1, none⟩ = some (.int .i64 r.at_) := (Y1.get 0 rfl).cell 1
       have fa0_1 : w1.frozen? ⟨w.heap.size, 1, none⟩ = false := (Y1.get 0 rfl).frozen 1
       have ca0_2 : w1.cell? ⟨w.heap.size, 2, none⟩ = some (.int .i64 r.len) := (Y1.get 0 rfl).cell 2
       have fa0_2 : w1.frozen? ⟨w.heap.size, 2, none⟩ = false := (Y1.get 0 rfl).frozen 2
       have ca0_3 : w1.cell? ⟨w.heap.size, 3, none⟩ = some (.int .i64 r.long) := (Y1.get 0 rfl).cell 3
       have fa0_3 : w1.frozen? ⟨w.heap.size, 3, none⟩ = false := (Y1.get 0 rfl).frozen 3
       have ca0_4 : w1.cell? ⟨w.heap.size, 4, none⟩ = some (.int .u32 (r.sum : Nat)) := (Y1.get 0 rfl).cell 4
       have fa0_4 : w1.frozen? ⟨w.heap.size, 4, none⟩ = false := (Y1.get 0 rfl).frozen 4
       have ca0_5 : w1.cell? ⟨w.heap.size, 5, none⟩ = some (.int .u64 (r.next : Nat)) := (Y1.get 0 rfl).cell 5
       have fa0_5 : w1.frozen? ⟨w.heap.size, 5, none⟩ = false := (Y1.get 0 rfl).frozen 5
       have q0 : w.heap.size < w1.heap.size := (Y1.get 0 rfl).lt
       have Y1c : Gx w w1 [(w.heap.size, 27, #[.int .u64 (r.gen : Nat), .int .i64 r.at_, .int .i64 r.len, .int .i64 r.long, .int .u32 (r.sum : Nat), .int .u64 (r.next : Nat)]), (g, 5, ((octs r).map u8v).toArray)] [] [] := Y1.addB k8
       have hgw : w.heap.size < g := Nat.lt_of_lt_of_le ((unhide X1).get 0 rfl).lt hg
       have X2 := hide Y1c
       clear X1 b1 Y1 Y1c k8 hg)
    | fail)
  clear hl hO ca0_0 ca0_1 ca0_2 ca0_3 ca0_4 ca0_5 fa0_0 fa0_1 fa0_2 fa0_3 fa0_4 fa0_5 q0
  have lz : ((octs r).map u8v).length = 32 := by rw [List.length_map, octs_len]
  replace lz := hide lz
  go_loopw [22] (fun i wr => ∃ j : Nat, j ≤ 8 ∧ i = .int .i64 j ∧ Hid (Gx w wr [(w.heap.size, 27, #[.int .u64 (r.gen : Nat), .int .i64 r.at_, .int .i64 r.len, .int .i64 r.long, .int .u32 (r.sum : Nat), .int .u64 (r.next : Nat)]), (g, 5, ((octs r).map u8v).toArray)] [] [])) (fun i _ => 8 - (intOf i).toNat)
  case atStart => exact ⟨0, by omega, rfl, X2⟩
  case round =>
    obtain ⟨j, hj, rfl, X3⟩ := hrel
    clear X2
    by_cases hlt : j < 8
    · have j1 : (j : Int) < 8 := by omega
      have w4 : IntKind.i64.wrap (4 * (j : Int)) = ((4 * j : Nat) : Int) := by rw [IntWalk.i64_in _ (by omega)]; omega
      have j2 : ((4 * j : Nat) : Int) < 32 := by omega
      have j3 : 4 * j < 32 := by omega
      have eo : ((r.gen : Nat) : Int) % 256 = ((oct r.gen 0).toNat : Int) := by rw [oct_nat]; omega
      have c0 : wr.cell? ⟨w.heap.size, 0, none⟩ = some (.int .u64 (r.gen : Nat)) := ((unhide X3).get 0 rfl).cell 0
      have c8 : wr.cell? ⟨g, 4 * j, none⟩ = some (.int .u8 (((r.gen : Nat) : Int) % 256)) := by
        rw [((unhide X3).get 1 rfl).cell, List.getElem?_toArray, List.getElem?_map, unhide hst j hlt, eo]; rfl
      clear eo
      go_upto_region 8 with fail
      go_quiet (fail)
      go_wp2
      go_roundw
      case rel => exact ⟨j + 1, by omega, by go_num, hide ((unhide X3).drewN _)⟩
      case measure => simp [intOf]; omega
    · obtain rfl : j = 8 := by omega
      go_wp2_with fail
      go_ret
      exact ⟨rfl, (unhide X3).bl⟩

section
set_option maxHeartbeats 4000000 in
theorem groups_same (r : Rt) (hT : OkT r) (k : Int) (c : UInt8) (w : World) (ht : Tab w) (h : rOk r = true) (hk : 0 ≤ k ∧ k ≤ 7) (hc : oct r.gen 0 = c) :
    Calls Tryd.prog 7 #[(.agg #[.int .u64 (r.gen : Nat), .int .i64 r.at_, .int .i64 r.len, .int .i64 r.long, .int .u32 (r.sum : Nat), .int .u64 (r.next : Nat)]), .int .i64 k, .int .u8 (c.toNat : Int)] w fun e w' => e = .returned (.bool true) ∧ Below w.heap.size w w' := by
  have hl := fun W (hB : Below w.heap.size w W) => live_any W (ht.below hB (Nat.le_refl _))
  have hO := fun W (hB : Below w.heap.size w W) => Octets_good r h hT W (ht.below hB (Nat.le_refl _))
  have hst := fun i (hi : i < 8) => octs_stamp r hi
  obtain ⟨m, rfl⟩ := Int.eq_ofNat_of_zero_le hk.1
  have hm : m ≤ 7 := by omega
  clear hk
  have X0 : Gx w (w.alloc (.cells #[.int .u64 (r.gen : Nat), .int .i64 r.at_, .int .i64 r.len, .int .i64 r.long, .int .u32 (r.sum : Nat), .int .u64 (r.next : Nat)] 27)) [(w.heap.size, 27, #[.int .u64 (r.gen : Nat), .int .i64 r.at_, .int .i64 r.len, .int .i64 r.long, .int .u32 (r.sum : Nat), .int .u64 (r.next : Nat)])] [] [] := (Gx.nil w).newB w.heap.size rfl 27 #[.int .u64 (r.gen : Nat), .int .i64 r.at_, .int .i64 r.len, .int .i64 r.long, .int .u32 (r.sum : Nat), .int .u64 (r.next : Nat)]
  replace X0 := hide X0; replace hl := hide hl
  replace hO := hide hO; replace hst := hide hst
  clear hT ht h
  have tk0 : True := trivial
  have tk1 : True := trivial
  go_enter Tryd.func7, Tryd.ntmps7
  go_upto_region 1 with (fail)
  generalize hW : World.alloc w _ = W at *
  clear hW
  have ca0_0 : W.cell? ⟨w.heap.size, 0, none⟩ = some (.int .u64 (r.gen : Nat)) := ((unhide X0).get 0 rfl).cell 0
  have fa0_0 : W.frozen? ⟨w.heap.size, 0, none⟩ = false := ((unhide X0).get 0 rfl).frozen 0
  have ca0_1 : W.cell? ⟨w.heap.size, 1, none⟩ = some (.int .i64 r.at_) := ((unhide X0).get 0 rfl).cell 1
  have fa0_1 : W.frozen? ⟨w.heap.size, 1, none⟩ = false := ((unhide X0).get 0 rfl).frozen 1
  have ca0_2 : W.cell? ⟨w.heap.size, 2, none⟩ = some (.int .i64 r.len) := ((unhide X0).get 0 rfl).cell 2
  have fa0_2 : W.frozen? ⟨w.heap.size, 2, none⟩ = false := ((unhide X0).get 0 rfl).frozen 2
  have ca0_3 : W.cell? ⟨w.heap.size, 3, none⟩ = some (.int .i64 r.long) := ((unhide X0).get 0 rfl).cell 3
  have fa0_3 : W.frozen? ⟨w.heap.size, 3, none⟩ = false := ((unhide X0).get 0 rfl).frozen 3
  have ca0_4 : W.cell? ⟨w.heap.size, 4, none⟩ = some (.int .u32 (r.sum : Nat)) := ((unhide X0).get 0 rfl).cell 4
  have fa0_4 : W.frozen? ⟨w.heap.size, 4, none⟩ = false := ((unhide X0).get 0 rfl).frozen 4
  have ca0_5 : W.cell? ⟨w.heap.size, 5, none⟩ = some (.int .u64 (r.next : Nat)) := ((unhide X0).get 0 rfl).cell 5
  have fa0_5 : W.frozen? ⟨w.heap.size, 5, none⟩ = false := ((unhide X0).get 0 rfl).frozen 5
  have q0 : w.heap.size < W.heap.size := ((unhide X0).get 0 rfl).lt
  go_wp2_with (first
    | (have _t := tk0; clear tk0 _t; go_at_call 8; refine (unhide hl _ (unhide X0).bl).mono ?_; rintro e w0 ⟨rfl, b0⟩
       have Y0 : Gx w w0 [(w.heap.size, 27, #[.int .u64 (r.gen : Nat), .int .i64 r.at_, .int .i64 r.len, .int .i64 r.long, .int .u32 (r.sum : Nat), .int .u64 (r.next : Nat)])] [] [] := (unhide X0).call b0
       clear ca0_0 fa0_0 ca0_1 fa0_1 ca0_2 fa0_2 ca0_3 fa0_3 ca0_4 fa0_4 ca0_5 fa0_5 q0
       have ca0_0 : w0.cell? ⟨w.heap.size, 0, none⟩ = some (.int .u64 (r.gen : Nat)) := (Y0.get 0 rfl).cell 0
       have fa0_0 : w0.frozen? ⟨w.heap.size, 0, none⟩ = false := (Y0.get 0 rfl).frozen 0
       have ca0_1 : w0.cell? ⟨w.heap.size, 1, none⟩ = some (.int .i64 r.at_) := (Y0.get 0 rfl).cell 1
       have fa0_1 : w0.frozen? ⟨w.heap.size, 1, none⟩ = false := (Y0.get 0 rfl).frozen 1
       have ca0_2 : w0.cell? ⟨w.heap.size, 2, none⟩ = some (.int .i64 r.len) := (Y0.get 0 rfl).cell 2
       have fa0_2 : w0.frozen? ⟨w.heap.size, 2, none⟩ = false := (Y0.get 0 rfl).frozen 2
       have ca0_3 : w0.cell? ⟨w.heap.size, 3, none⟩ = some (.int .i64 r.long) := (Y0.get 0 rfl).cell 3
       have fa0_3 : w0.frozen? ⟨w.heap.size, 3, none⟩ = false := (Y0.get 0 rfl).frozen 3
       have ca0_4 : w0.cell? ⟨w.heap.size, 4, none⟩ = some (.int .u32 (r.sum : Nat)) := (Y0.get 0 rfl).cell 4
       have fa0_4 : w0.frozen? ⟨w.heap.size, 4, none⟩ = false := (Y0.get 0 rfl).frozen 4
       have ca0_5 : w0.cell? ⟨w.heap.size, 5, none⟩ = some (.int .u64 (r.next : Nat)) := (Y0.get 0 rfl).cell 5
       have fa0_5 : w0.frozen? ⟨w.heap.size, 5, none⟩ = false := (Y0.get 0 rfl).frozen 5
       have q0 : w.heap.size < w0.heap.size := (Y0.get 0 rfl).lt
       have X1 := hide Y0
       clear X0 b0 Y0)
    | (have _t := tk1; clear tk1 _t; go_at_call 11; refine (unhide hO _ (unhide X1).bl).mono ?_; rintro e w1 ⟨g, rfl, hg, k8, b1⟩
       have Y1 : Gx w w1 [(w.heap.size, 27, #[.int .u64 (r.gen : Nat), .int .i64 r.at_, .int .i64 r.len, .int .i64 r.long, .int .u32 (r.sum : Nat), .int .u64 (r.next : Nat)])] [] [] := (unhide X1).call b1
       clear ca0_0 fa0_0 ca0_1 fa0_1 ca0_2 fa0_2 ca0_3 fa0_3 ca0_4 fa0_4 ca0_5 fa0_5 q0
       have ca0_0 : w1.cell? ⟨w.heap.size, 0, none⟩ = some (.int .u64 (r.gen : Nat)) := (Y1.get 0 rfl).cell 0
       have fa0_0 : w1.frozen? ⟨w.heap.size, 0, none⟩ = false := (Y1.get 0 rfl).frozen 0
       have ca0_1 : w1.cell? ⟨w.heap.size, 1, none⟩ = some (.int .i64 r.at_) := (Y1.get 0 rfl).cell 1
       have fa0_1 : w1.frozen? ⟨w.heap.size, 1, none⟩ = false := (Y1.get 0 rfl).frozen 1
       have ca0_2 : w1.cell? ⟨w.heap.size, 2, none⟩ = some (.int .i64 r.len) := (Y1.get 0 rfl).cell 2
       have fa0_2 : w1.frozen? ⟨w.heap.size, 2, none⟩ = false := (Y1.get 0 rfl).frozen 2
       have ca0_3 : w1.cell? ⟨w.heap.size, 3, none⟩ = some (.int .i64 r.long) := (Y1.get 0 rfl).cell 3
       have fa0_3 : w1.frozen? ⟨w.heap.size, 3, none⟩ = false := (Y1.get 0 rfl).frozen 3
       have ca0_4 : w1.cell? ⟨w.heap.size, 4, none⟩ = some (.int .u32 (r.sum : Nat)) := (Y1.get 0 rfl).cell 4
       have fa0_4 : w1.frozen? ⟨w.heap.size, 4, none⟩ = false := (Y1.get 0 rfl).frozen 4
       have ca0_5 : w1.cell? ⟨w.heap.size, 5, none⟩ = some (.int .u64 (r.next : Nat)) := (Y1.get 0 rfl).cell 5
       have fa0_5 : w1.frozen? ⟨w.heap.size, 5, none⟩ = false := (Y1.get 0 rfl).frozen 5
       have q0 : w.heap.size < w1.heap.size := (Y1.get 0 rfl).lt
       have Y1c : Gx w w1 [(w.heap.size, 27, #[.int .u64 (r.gen : Nat), .int .i64 r.at_, .int .i64 r.len, .int .i64 r.long, .int .u32 (r.sum : Nat), .int .u64 (r.next : Nat)]), (g, 5, ((octs r).map u8v).toArray)] [] [] := Y1.addB k8
       have hgw : w.heap.size < g := Nat.lt_of_lt_of_le ((unhide X1).get 0 rfl).lt hg
       have X2 := hide Y1c
       clear X1 b1 Y1 Y1c k8 hg)
    | fail)
  clear hl hO ca0_0 ca0_1 ca0_2 ca0_3 ca0_4 ca0_5 fa0_0 fa0_1 fa0_2 fa0_3 fa0_4 fa0_5 q0
  have lz : ((octs r).map u8v).length = 32 := by rw [List.length_map, octs_len]
  replace lz := hide lz
  go_loopw [22] (fun i wr => ∃ j : Nat, j ≤ 8 ∧ i = .int .i64 j ∧ Hid (Gx w wr [(w.heap.size, 27, #[.int .u64 (r.gen : Nat), .int .i64 r.at_, .int .i64 r.len, .int .i64 r.long, .int .u32 (r.sum : Nat), .int .u64 (r.next : Nat)]), (g, 5, ((octs r).map u8v).toArray)] [] [])) (fun i _ => 8 - (intOf i).toNat)
  case atStart => exact ⟨0, by omega, rfl, X2⟩
  case round =>
    obtain ⟨j, hj, rfl, X3⟩ := hrel
    clear X2
    by_cases hlt : j < 8
    · have j1 : (j : Int) < 8 := by omega
      have w4 : IntKind.i64.wrap (4 * (j : Int)) = ((4 * j : Nat) : Int) := by rw [IntWalk.i64_in _ (by omega)]; omega
      have j2 : ((4 * j : Nat) : Int) < 32 := by omega
      have j3 : 4 * j < 32 := by omega
      have eo : ((r.gen : Nat) : Int) % 256 = ((oct r.gen 0).toNat : Int) := by rw [oct_nat]; omega
      have c0 : wr.cell? ⟨w.heap.size, 0, none⟩ = some (.int .u64 (r.gen : Nat)) := ((unhide X3).get 0 rfl).cell 0
      have c8 : wr.cell? ⟨g, 4 * j, none⟩ = some (.int .u8 (((r.gen : Nat) : Int) % 256)) := by
        rw [((unhide X3).get 1 rfl).cell, List.getElem?_toArray, List.getElem?_map, unhide hst j hlt, eo]; rfl
      clear eo
      go_upto_region 8 with fail
      go_quiet (fail)
      go_wp2
      go_roundw
      case rel => exact ⟨j + 1, by omega, by go_num, hide ((unhide X3).drewN _)⟩
      case measure => simp [intOf]; omega
    · obtain rfl : j = 8 := by omega
      have c8 : wr.cell? ⟨g, 4 * m, none⟩ = some (.int .u8 ((oct r.gen 0).toNat : Int)) := by
        rw [((unhide X3).get 1 rfl).cell, List.getElem?_toArray, List.getElem?_map, unhide hst m (by omega)]; rfl
      have w4 : IntKind.i64.wrap (4 * (m : Int)) = ((4 * m : Nat) : Int) := by rw [IntWalk.i64_in _ (by omega)]; omega
      have m2 : ((4 * m : Nat) : Int) < 32 := by omega
      have m3 : 4 * m < 32 := by omega
      have m4 : ¬ (m : Int) < 0 := by omega
      have m5 : ¬ (7 : Int) < (m : Int) := by omega
      have hc' : (((oct r.gen 0).toNat : Int) == (c.toNat : Int)) = true := by rw [hc]; simp
      replace hc := hide hc
      go_upto_region 11 with fail
      go_wp2_with fail
      go_ret
      exact ⟨rfl, (unhide X3).bl⟩

end
section
attribute [-go_sem] run_eql_struct run_neq_struct
attribute [local go_sem] run_eql_zero guardR
set_option maxHeartbeats 4000000 in
theorem groups_diff (r : Rt) (hT : OkT r) (k : Int) (c : UInt8) (w : World) (ht : Tab w) (h : rOk r = true) (hk : 0 ≤ k ∧ k ≤ 7) (hc : oct r.gen 0 ≠ c) :
    Calls Tryd.prog 7 #[(.agg #[.int .u64 (r.gen : Nat), .int .i64 r.at_, .int .i64 r.len, .int .i64 r.long, .int .u32 (r.sum : Nat), .int .u64 (r.next : Nat)]), .int .i64 k, .int .u8 (c.toNat : Int)] w fun e w' => e = .returned (.bool true) ∧ Below w.heap.size w w' := by
  have hl := fun W (hB : Below w.heap.size w W) => live_any W (ht.below hB (Nat.le_refl _))
  have hO := fun W (hB : Below w.heap.size w W) => Octets_good r h hT W (ht.below hB (Nat.le_refl _))
  have hst := fun i (hi : i < 8) => octs_stamp r hi
  obtain ⟨m, rfl⟩ := Int.eq_ofNat_of_zero_le hk.1
  have hm : m ≤ 7 := by omega
  clear hk
  have hz := octs_turned r (show m < 8 by omega) hc
  have hz1 : ofR ((octs r).set (4 * m) c) = noRt := by unfold ofR; rw [hz]; rfl
  have hz2 : ofE ((octs r).set (4 * m) c) = 2 := by unfold ofE; rw [hz]; rfl
  have hOf := fun v W (hB : Below w.heap.size w W) (hx : Bs 0 W.heap.size W v ((octs r).set (4 * m) c)) => Of_any v 0 _ W (ht.below hB (Nat.le_refl _)) hx
  rw [hz1, hz2] at hOf
  obtain ⟨p, hp⟩ : ∃ p, p = noRt := ⟨_, rfl⟩
  rw [← hp] at hOf
  clear hz hz1 hz2
  replace hp := hide hp
  replace hOf := hide hOf
  have X0 : Gx w (w.alloc (.cells #[.int .u64 (r.gen : Nat), .int .i64 r.at_, .int .i64 r.len, .int .i64 r.long, .int .u32 (r.sum : Nat), .int .u64 (r.next : Nat)] 27)) [(w.heap.size, 27, #[.int .u64 (r.gen : Nat), .int .i64 r.at_, .int .i64 r.len, .int .i64 r.long, .int .u32 (r.sum : Nat), .int .u64 (r.next : Nat)])] [] [] := (Gx.nil w).newB w.heap.size rfl 27 #[.int .u64 (r.gen : Nat), .int .i64 r.at_, .int .i64 r.len, .int .i64 r.long, .int .u32 (r.sum : Nat), .int .u64 (r.next : Nat)]
  replace X0 := hide X0; replace hl := hide hl
  replace hO := hide hO; replace hst := hide hst
  clear hT ht h
  have tk0 : True := trivial
  have tk1 : True := trivial
  go_enter Tryd.func7, Tryd.ntmps7
  go_upto_region 1 with (fail)
  generalize hW : World.alloc w _ = W at *
  clear hW
  have ca0_0 : W.cell? ⟨w.heap.size, 0, none⟩ = some (.int .u64 (r.gen : Nat)) := ((unhide X0).get 0 rfl).cell 0
  have fa0_0 : W.frozen? ⟨w.heap.size, 0, none⟩ = false := ((unhide X0).get 0 rfl).frozen 0
  have ca0_1 : W.cell? ⟨w.heap.size, 1, none⟩ = some (.int .i64 r.at_) := ((unhide X0).get 0 rfl).cell 1
  have fa0_1 : W.frozen? ⟨w.heap.size, 1, none⟩ = false := ((unhide X0).get 0 rfl).frozen 1
  have ca0_2 : W.cell? ⟨w.heap.size, 2, none⟩ = some (.int .i64 r.len) := ((unhide X0).get 0 rfl).cell 2
  have fa0_2 : W.frozen? ⟨w.heap.size, 2, none⟩ = false := ((unhide X0).get 0 rfl).frozen 2
  have ca0_3 : W.cell? ⟨w.heap.size, 3, none⟩ = some (.int .i64 r.long) := ((unhide X0).get 0 rfl).cell 3
  have fa0_3 : W.frozen? ⟨w.heap.size, 3, none⟩ = false := ((unhide X0).get 0 rfl).frozen 3
  have ca0_4 : W.cell? ⟨w.heap.size, 4, none⟩ = some (.int .u32 (r.sum : Nat)) := ((unhide X0).get 0 rfl).cell 4
  have fa0_4 : W.frozen? ⟨w.heap.size, 4, none⟩ = false := ((unhide X0).get 0 rfl).frozen 4
  have ca0_5 : W.cell? ⟨w.heap.size, 5, none⟩ = some (.int .u64 (r.next : Nat)) := ((unhide X0).get 0 rfl).cell 5
  have fa0_5 : W.frozen? ⟨w.heap.size, 5, none⟩ = false := ((unhide X0).get 0 rfl).frozen 5
  have q0 : w.heap.size < W.heap.size := ((unhide X0).get 0 rfl).lt
  go_wp2_with (first
    | (have _t := tk0; clear tk0 _t; go_at_call 8; refine (unhide hl _ (unhide X0).bl).mono ?_; rintro e w0 ⟨rfl, b0⟩
       have Y0 : Gx w w0 [(w.heap.size, 27, #[.int .u64 (r.gen : Nat), .int .i64 r.at_, .int .i64 r.len, .int .i64 r.long, .int .u32 (r.sum : Nat), .int .u64 (r.next : Nat)])] [] [] := (unhide X0).call b0
       clear ca0_0 fa0_0 ca0_1 fa0_1 ca0_2 fa0_2 ca0_3 fa0_3 ca0_4 fa0_4 ca0_5 fa0_5 q0
       have ca0_0 : w0.cell? ⟨w.heap.size, 0, none⟩ = some (.int .u64 (r.gen : Nat)) := (Y0.get 0 rfl).cell 0
       have fa0_0 : w0.frozen? ⟨w.heap.size, 0, none⟩ = false := (Y0.get 0 rfl).frozen 0
       have ca0_1 : w0.cell? ⟨w.heap.size, 1, none⟩ = some (.int .i64 r.at_) := (Y0.get 0 rfl).cell 1
       have fa0_1 : w0.frozen? ⟨w.heap.size, 1, none⟩ = false := (Y0.get 0 rfl).frozen 1
       have ca0_2 : w0.cell? ⟨w.heap.size, 2, none⟩ = some (.int .i64 r.len) := (Y0.get 0 rfl).cell 2
       have fa0_2 : w0.frozen? ⟨w.heap.size, 2, none⟩ = false := (Y0.get 0 rfl).frozen 2
       have ca0_3 : w0.cell? ⟨w.heap.size, 3, none⟩ = some (.int .i64 r.long) := (Y0.get 0 rfl).cell 3
       have fa0_3 : w0.frozen? ⟨w.heap.size, 3, none⟩ = false := (Y0.get 0 rfl).frozen 3
       have ca0_4 : w0.cell? ⟨w.heap.size, 4, none⟩ = some (.int .u32 (r.sum : Nat)) := (Y0.get 0 rfl).cell 4
       have fa0_4 : w0.frozen? ⟨w.heap.size, 4, none⟩ = false := (Y0.get 0 rfl).frozen 4
       have ca0_5 : w0.cell? ⟨w.heap.size, 5, none⟩ = some (.int .u64 (r.next : Nat)) := (Y0.get 0 rfl).cell 5
       have fa0_5 : w0.frozen? ⟨w.heap.size, 5, none⟩ = false := (Y0.get 0 rfl).frozen 5
       have q0 : w.heap.size < w0.heap.size := (Y0.get 0 rfl).lt
       have X1 := hide Y0
       clear X0 b0 Y0)
    | (have _t := tk1; clear tk1 _t; go_at_call 11; refine (unhide hO _ (unhide X1).bl).mono ?_; rintro e w1 ⟨g, rfl, hg, k8, b1⟩
       have Y1 : Gx w w1 [(w.heap.size, 27, #[.int .u64 (r.gen : Nat), .int .i64 r.at_, .int .i64 r.len, .int .i64 r.long, .int .u32 (r.sum : Nat), .int .u64 (r.next : Nat)])] [] [] := (unhide X1).call b1
       clear ca0_0 fa0_0 ca0_1 fa0_1 ca0_2 fa0_2 ca0_3 fa0_3 ca0_4 fa0_4 ca0_5 fa0_5 q0
       have ca0_0 : w1.cell? ⟨w.heap.size, 0, none⟩ = some (.int .u64 (r.gen : Nat)) := (Y1.get 0 rfl).cell 0
       have fa0_0 : w1.frozen? ⟨w.heap.size, 0, none⟩ = false := (Y1.get 0 rfl).frozen 0
       have ca0_1 : w1.cell? ⟨w.heap.size, 1, none⟩ = some (.int .i64 r.at_) := (Y1.get 0 rfl).cell 1
       have fa0_1 : w1.frozen? ⟨w.heap.size, 1, none⟩ = false := (Y1.get 0 rfl).frozen 1
       have ca0_2 : w1.cell? ⟨w.heap.size, 2, none⟩ = some (.int .i64 r.len) := (Y1.get 0 rfl).cell 2
       have fa0_2 : w1.frozen? ⟨w.heap.size, 2, none⟩ = false := (Y1.get 0 rfl).frozen 2
       have ca0_3 : w1.cell? ⟨w.heap.size, 3, none⟩ = some (.int .i64 r.long) := (Y1.get 0 rfl).cell 3
       have fa0_3 : w1.frozen? ⟨w.heap.size, 3, none⟩ = false := (Y1.get 0 rfl).frozen 3
       have ca0_4 : w1.cell? ⟨w.heap.size, 4, none⟩ = some (.int .u32 (r.sum : Nat)) := (Y1.get 0 rfl).cell 4
       have fa0_4 : w1.frozen? ⟨w.heap.size, 4, none⟩ = false := (Y1.get 0 rfl).frozen 4
       have ca0_5 : w1.cell? ⟨w.heap.size, 5, none⟩ = some (.int .u64 (r.next : Nat)) := (Y1.get 0 rfl).cell 5
       have fa0_5 : w1.frozen? ⟨w.heap.size, 5, none⟩ = false := (Y1.get 0 rfl).frozen 5
       have q0 : w.heap.size < w1.heap.size := (Y1.get 0 rfl).lt
       have Y1c : Gx w w1 [(w.heap.size, 27, #[.int .u64 (r.gen : Nat), .int .i64 r.at_, .int .i64 r.len, .int .i64 r.long, .int .u32 (r.sum : Nat), .int .u64 (r.next : Nat)]), (g, 5, ((octs r).map u8v).toArray)] [] [] := Y1.addB k8
       have hgw : w.heap.size < g := Nat.lt_of_lt_of_le ((unhide X1).get 0 rfl).lt hg
       have X2 := hide Y1c
       clear X1 b1 Y1 Y1c k8 hg)
    | fail)
  clear hl hO ca0_0 ca0_1 ca0_2 ca0_3 ca0_4 ca0_5 fa0_0 fa0_1 fa0_2 fa0_3 fa0_4 fa0_5 q0
  have lz : ((octs r).map u8v).length = 32 := by rw [List.length_map, octs_len]
  replace lz := hide lz
  go_loopw [22] (fun i wr => ∃ j : Nat, j ≤ 8 ∧ i = .int .i64 j ∧ Hid (Gx w wr [(w.heap.size, 27, #[.int .u64 (r.gen : Nat), .int .i64 r.at_, .int .i64 r.len, .int .i64 r.long, .int .u32 (r.sum : Nat), .int .u64 (r.next : Nat)]), (g, 5, ((octs r).map u8v).toArray)] [] [])) (fun i _ => 8 - (intOf i).toNat)
  case atStart => exact ⟨0, by omega, rfl, X2⟩
  case round =>
    obtain ⟨j, hj, rfl, X3⟩ := hrel
    clear X2
    by_cases hlt : j < 8
    · have j1 : (j : Int) < 8 := by omega
      have w4 : IntKind.i64.wrap (4 * (j : Int)) = ((4 * j : Nat) : Int) := by rw [IntWalk.i64_in _ (by omega)]; omega
      have j2 : ((4 * j : Nat) : Int) < 32 := by omega
      have j3 : 4 * j < 32 := by omega
      have eo : ((r.gen : Nat) : Int) % 256 = ((oct r.gen 0).toNat : Int) := by rw [oct_nat]; omega
      have c0 : wr.cell? ⟨w.heap.size, 0, none⟩ = some (.int .u64 (r.gen : Nat)) := ((unhide X3).get 0 rfl).cell 0
      have c8 : wr.cell? ⟨g, 4 * j, none⟩ = some (.int .u8 (((r.gen : Nat) : Int) % 256)) := by
        rw [((unhide X3).get 1 rfl).cell, List.getElem?_toArray, List.getElem?_map, unhide hst j hlt, eo]; rfl
      clear eo
      go_upto_region 8 with fail
      go_quiet (fail)
      go_wp2
      go_roundw
      case rel => exact ⟨j + 1, by omega, by go_num, hide ((unhide X3).drewN _)⟩
      case measure => simp [intOf]; omega
    · obtain rfl : j = 8 := by omega
      have c8 : wr.cell? ⟨g, 4 * m, none⟩ = some (.int .u8 ((oct r.gen 0).toNat : Int)) := by
        rw [((unhide X3).get 1 rfl).cell, List.getElem?_toArray, List.getElem?_map, unhide hst m (by omega)]; rfl
      have w4 : IntKind.i64.wrap (4 * (m : Int)) = ((4 * m : Nat) : Int) := by rw [IntWalk.i64_in _ (by omega)]; omega
      have m2 : ((4 * m : Nat) : Int) < 32 := by omega
      have m3 : 4 * m < 32 := by omega
      have m4 : ¬ (m : Int) < 0 := by omega
      have m5 : ¬ (7 : Int) < (m : Int) := by omega
      have hc' : (((oct r.gen 0).toNat : Int) == (c.toNat : Int)) = false := by
        simp only [beq_eq_false_iff_ne, ne_eq]
        intro e
        exact hc (UInt8.toNat_inj.1 (by omega))
      have f8 : wr.frozen? ⟨g, 4 * m, none⟩ = false := ((unhide X3).get 1 rfl).frozen _
      have K9 := hide (blk_set8 (i := 4 * m) (c := c) ((unhide X3).get 1 rfl))
      have B9 := hide (bl_set (unhide X3).bl (Nat.le_of_lt hgw) (4 * m) (.int .u8 (c.toNat : Int)))
      have hO9 := unhide hOf (.slice (some ⟨g, 0, none⟩) 32 32) _ (unhide B9) (Bs.of_block (unhide K9) (by rw [List.length_set, octs_len]) (by omega) (Nat.zero_le _))
      replace hO9 := hide hO9
      clear hc X3 hOf
      go_wp2_with (first
        | (go_at_call 13; refine (unhide hO9).mono ?_; rintro e w9 ⟨rfl, b9⟩
           have B10 := bl_alloc (bl_call (unhide B9) b9) (.cells #[.int .u64 (p.gen : Nat), .int .i64 p.at_, .int .i64 p.len, .int .i64 p.long, .int .u32 (p.sum : Nat), .int .u64 (p.next : Nat)] 27))
        | fail)
      go_ret
      exact ⟨ret_b rfl (by simp [unhide hp]), B10⟩

end
theorem groups_law (r : Rt) (hT : OkT r) (k : Int) (c : UInt8) (w : World) (ht : Tab w) :
    Calls Tryd.prog 7 #[(.agg #[.int .u64 (r.gen : Nat), .int .i64 r.at_, .int .i64 r.len, .int .i64 r.long, .int .u32 (r.sum : Nat), .int .u64 (r.next : Nat)]), .int .i64 k, .int .u8 (c.toNat : Int)] w fun e w' => e = .returned (.bool true) ∧ Below w.heap.size w w' := by
  cases h : rOk r with
  | false => exact groups_form r hT k c w ht h
  | true =>
    by_cases h1 : k < 0
    · exact groups_neg r hT k c w ht h h1
    · by_cases h2 : 7 < k
      · exact groups_up r hT k c w ht h h2
      · by_cases h3 : oct r.gen 0 = c
        · exact groups_same r hT k c w ht h ⟨by omega, by omega⟩ h3
        · exact groups_diff r hT k c w ht h ⟨by omega, by omega⟩ h3
end Go.Proofs.YtommlgdolahfbaaDoor
