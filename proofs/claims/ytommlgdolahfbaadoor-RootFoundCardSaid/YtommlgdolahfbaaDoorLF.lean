import Derived.Test.YtommlgdolahfbaaDoorRP
import Derived.Test.YtommlgdolahfbaaDoorRM
import Derived.Test.YtommlgdolahfbaaDoorRL
import Derived.Test.YtommlgdolahfbaaDoorW11
namespace Go.Proofs.YtommlgdolahfbaaDoor
set_option maxRecDepth 100000
open Go.RowKit

theorem few_small {d : Dk} (h : fewB d = true) : d.dry.length ≤ 300000 ∧ d.wet.length ≤ 60 := by
  simp only [fewB, Bool.and_eq_true, Bool.or_eq_true, decide_eq_true_eq] at h
  omega
theorem dead_nil {d : Dk} {r : Rt} (h : (wrR d r).2 ≠ 0) : (wrR d r).1.dry.length = 0 := by
  unfold wrR at h ⊢
  split at h
  · split at h
    · rename_i h1 h2
      rw [if_pos h1, if_pos h2]
      unfold synD at h ⊢
      split at h
      · split at h
        · rename_i h3 h4; rw [if_pos h3, if_pos h4]; rfl
        · exact absurd rfl h
      · rename_i h3; rw [if_neg h3]; rfl
    · rename_i h1 h2; rw [if_pos h1, if_neg h2]; rfl
  · rename_i h1; rw [if_neg h1]; rfl
theorem Write2_form (lo : Nat) (v bb : Value) (d : Dk) (at_ : Int) (b : List UInt8) (w : World) (h : Dsk lo w.heap.size w v d) (hb : Bs lo w.heap.size w bb b) (hL : d.dry.length ≤ 1000000) (hW : d.wet.length ≤ 1000) :
    Calls Tryd.prog 23 #[v, .int .i64 at_, bb] w fun e w' => ∃ A c B e', e = .returned (.tuple #[.agg #[.slice A (wrD d at_ b).1.dry.length c, .slice B (wrD d at_ b).1.wet.length e', .int .i64 (wrD d at_ b).1.left], .int .i64 (wrD d at_ b).2]) ∧ Dsk w.heap.size w'.heap.size w' (.agg #[.slice A (wrD d at_ b).1.dry.length c, .slice B (wrD d at_ b).1.wet.length e', .int .i64 (wrD d at_ b).1.left]) (wrD d at_ b).1 ∧ Below w.heap.size w w' :=
  (write_any lo v bb d at_ b w h hb hL hW).mono fun e w' ⟨v', E, he, hx, hE, hb⟩ => by
    obtain ⟨A, c, B, e', rfl⟩ := hx.form
    exact ⟨A, c, B, e', by rw [he, hE], hx, hb⟩
section
attribute [-go_sem] run_eql_struct run_neq_struct
attribute [local go_sem] run_eql_rt run_neq_rt guardR
set_option maxHeartbeats 8000000 in
theorem found_few (A A' : Option Addr) (c c' : Nat) (d : Dk) (r : Rt) (a : Int) (A3 : Option Addr) (c3 : Nat) (b : List UInt8) (w : World) (ht : Tab w) (h : Dsk 0 w.heap.size w (.agg #[.slice A d.dry.length c, .slice A' d.wet.length c', .int .i64 d.left]) d) (hw : fewB d = false) :
    Calls Tryd.prog 5 #[.agg #[.slice A d.dry.length c, .slice A' d.wet.length c', .int .i64 d.left], (.agg #[.int .u64 (r.gen : Nat), .int .i64 r.at_, .int .i64 r.len, .int .i64 r.long, .int .u32 (r.sum : Nat), .int .u64 (r.next : Nat)]), .int .i64 a, .slice A3 b.length c3] w fun e w' => e = .returned (.bool true) ∧ Below w.heap.size w w' := by
  have hl := fun W (hB : Below w.heap.size w W) => live_any W (ht.below hB (Nat.le_refl _))
  have hf := fun W (hB : Below w.heap.size w W) => few_any 0 _ d W (h.grow hB)
  rw [hw] at hf
  generalize d.dry.length = n at *
  generalize d.wet.length = m at *
  generalize d.left = l at *
  have X0 : Gx w ((w.alloc (.cells #[.slice A n c, .slice A' m c', .int .i64 l] 31)).alloc (.cells #[.int .u64 (r.gen : Nat), .int .i64 r.at_, .int .i64 r.len, .int .i64 r.long, .int .u32 (r.sum : Nat), .int .u64 (r.next : Nat)] 27)) [(w.heap.size, 31, #[.slice A n c, .slice A' m c', .int .i64 l]), (w.heap.size + 1, 27, #[.int .u64 (r.gen : Nat), .int .i64 r.at_, .int .i64 r.len, .int .i64 r.long, .int .u32 (r.sum : Nat), .int .u64 (r.next : Nat)])] [] [] := ((Gx.nil w).newB w.heap.size rfl 31 #[.slice A n c, .slice A' m c', .int .i64 l]).newB (w.heap.size + 1) (by simp) 27 #[.int .u64 (r.gen : Nat), .int .i64 r.at_, .int .i64 r.len, .int .i64 r.long, .int .u32 (r.sum : Nat), .int .u64 (r.next : Nat)]
  replace X0 := hide X0; replace hl := hide hl; replace hf := hide hf
  clear ht h hw
  have tk0 : True := trivial
  have tk1 : True := trivial
  go_enter Tryd.func5, Tryd.ntmps5
  go_upto_region 1 with (fail)
  generalize hW : World.alloc (World.alloc w _) _ = W at *
  clear hW
  obtain ⟨ca0_0, ca0_1, ca0_2⟩ := ck3 ((unhide X0).get 0 rfl)
  have q0 := ((unhide X0).get 0 rfl).lt
  obtain ⟨ca1_0, ca1_1, ca1_2, ca1_3, ca1_4, ca1_5⟩ := zk6 ((unhide X0).get 1 rfl)
  have q1 := ((unhide X0).get 1 rfl).lt
  go_wp2_with (first
    | (have _t := tk0; clear tk0 _t; go_at_call 8; refine (unhide hl _ (unhide X0).bl).mono ?_; rintro e w0 ⟨rfl, b0⟩
       have Y0 : Gx w w0 [(w.heap.size, 31, #[.slice A n c, .slice A' m c', .int .i64 l]), (w.heap.size + 1, 27, #[.int .u64 (r.gen : Nat), .int .i64 r.at_, .int .i64 r.len, .int .i64 r.long, .int .u32 (r.sum : Nat), .int .u64 (r.next : Nat)])] [] [] := (unhide X0).call b0
       clear ca0_0 ca0_1 ca0_2 q0 ca1_0 ca1_1 ca1_2 ca1_3 ca1_4 ca1_5 q1
       obtain ⟨ca0_0, ca0_1, ca0_2⟩ := ck3 (Y0.get 0 rfl)
       have q0 := (Y0.get 0 rfl).lt
       obtain ⟨ca1_0, ca1_1, ca1_2, ca1_3, ca1_4, ca1_5⟩ := zk6 (Y0.get 1 rfl)
       have q1 := (Y0.get 1 rfl).lt
       have X1 := hide Y0
       clear X0 b0 Y0)
    | (have _t := tk1; clear tk1 _t; go_at_call 9; refine (unhide hf _ (unhide X1).bl).mono ?_; rintro e w1 ⟨rfl, b1⟩
       have Y1 : Gx w w1 [(w.heap.size, 31, #[.slice A n c, .slice A' m c', .int .i64 l]), (w.heap.size + 1, 27, #[.int .u64 (r.gen : Nat), .int .i64 r.at_, .int .i64 r.len, .int .i64 r.long, .int .u32 (r.sum : Nat), .int .u64 (r.next : Nat)])] [] [] := (unhide X1).call b1
       clear ca0_0 ca0_1 ca0_2 q0 ca1_0 ca1_1 ca1_2 ca1_3 ca1_4 ca1_5 q1
       obtain ⟨ca0_0, ca0_1, ca0_2⟩ := ck3 (Y1.get 0 rfl)
       have q0 := (Y1.get 0 rfl).lt
       obtain ⟨ca1_0, ca1_1, ca1_2, ca1_3, ca1_4, ca1_5⟩ := zk6 (Y1.get 1 rfl)
       have q1 := (Y1.get 1 rfl).lt
       have X2 := hide Y1
       clear X1 b1 Y1)
    | fail)
  go_ret
  exact ⟨ret_b rfl (by simp), (unhide X2).bl⟩
set_option maxHeartbeats 8000000 in
theorem found_long (A A' : Option Addr) (c c' : Nat) (d : Dk) (r : Rt) (a : Int) (A3 : Option Addr) (c3 : Nat) (b : List UInt8) (w : World) (ht : Tab w) (h : Dsk 0 w.heap.size w (.agg #[.slice A d.dry.length c, .slice A' d.wet.length c', .int .i64 d.left]) d) (hw : fewB d = true) (hn : 100 < b.length) :
    Calls Tryd.prog 5 #[.agg #[.slice A d.dry.length c, .slice A' d.wet.length c', .int .i64 d.left], (.agg #[.int .u64 (r.gen : Nat), .int .i64 r.at_, .int .i64 r.len, .int .i64 r.long, .int .u32 (r.sum : Nat), .int .u64 (r.next : Nat)]), .int .i64 a, .slice A3 b.length c3] w fun e w' => e = .returned (.bool true) ∧ Below w.heap.size w w' := by
  have hl := fun W (hB : Below w.heap.size w W) => live_any W (ht.below hB (Nat.le_refl _))
  have hf := fun W (hB : Below w.heap.size w W) => few_any 0 _ d W (h.grow hB)
  rw [hw] at hf
  have hn1 : (100 : Int) < (b.length : Int) := by omega
  generalize d.dry.length = n at *
  generalize d.wet.length = m at *
  generalize d.left = l at *
  have X0 : Gx w ((w.alloc (.cells #[.slice A n c, .slice A' m c', .int .i64 l] 31)).alloc (.cells #[.int .u64 (r.gen : Nat), .int .i64 r.at_, .int .i64 r.len, .int .i64 r.long, .int .u32 (r.sum : Nat), .int .u64 (r.next : Nat)] 27)) [(w.heap.size, 31, #[.slice A n c, .slice A' m c', .int .i64 l]), (w.heap.size + 1, 27, #[.int .u64 (r.gen : Nat), .int .i64 r.at_, .int .i64 r.len, .int .i64 r.long, .int .u32 (r.sum : Nat), .int .u64 (r.next : Nat)])] [] [] := ((Gx.nil w).newB w.heap.size rfl 31 #[.slice A n c, .slice A' m c', .int .i64 l]).newB (w.heap.size + 1) (by simp) 27 #[.int .u64 (r.gen : Nat), .int .i64 r.at_, .int .i64 r.len, .int .i64 r.long, .int .u32 (r.sum : Nat), .int .u64 (r.next : Nat)]
  replace X0 := hide X0; replace hl := hide hl; replace hf := hide hf
  clear ht h hw hn
  have tk0 : True := trivial
  have tk1 : True := trivial
  go_enter Tryd.func5, Tryd.ntmps5
  go_upto_region 1 with (fail)
  generalize hW : World.alloc (World.alloc w _) _ = W at *
  clear hW
  obtain ⟨ca0_0, ca0_1, ca0_2⟩ := ck3 ((unhide X0).get 0 rfl)
  have q0 := ((unhide X0).get 0 rfl).lt
  obtain ⟨ca1_0, ca1_1, ca1_2, ca1_3, ca1_4, ca1_5⟩ := zk6 ((unhide X0).get 1 rfl)
  have q1 := ((unhide X0).get 1 rfl).lt
  go_wp2_with (first
    | (have _t := tk0; clear tk0 _t; go_at_call 8; refine (unhide hl _ (unhide X0).bl).mono ?_; rintro e w0 ⟨rfl, b0⟩
       have Y0 : Gx w w0 [(w.heap.size, 31, #[.slice A n c, .slice A' m c', .int .i64 l]), (w.heap.size + 1, 27, #[.int .u64 (r.gen : Nat), .int .i64 r.at_, .int .i64 r.len, .int .i64 r.long, .int .u32 (r.sum : Nat), .int .u64 (r.next : Nat)])] [] [] := (unhide X0).call b0
       clear ca0_0 ca0_1 ca0_2 q0 ca1_0 ca1_1 ca1_2 ca1_3 ca1_4 ca1_5 q1
       obtain ⟨ca0_0, ca0_1, ca0_2⟩ := ck3 (Y0.get 0 rfl)
       have q0 := (Y0.get 0 rfl).lt
       obtain ⟨ca1_0, ca1_1, ca1_2, ca1_3, ca1_4, ca1_5⟩ := zk6 (Y0.get 1 rfl)
       have q1 := (Y0.get 1 rfl).lt
       have X1 := hide Y0
       clear X0 b0 Y0)
    | (have _t := tk1; clear tk1 _t; go_at_call 9; refine (unhide hf _ (unhide X1).bl).mono ?_; rintro e w1 ⟨rfl, b1⟩
       have Y1 : Gx w w1 [(w.heap.size, 31, #[.slice A n c, .slice A' m c', .int .i64 l]), (w.heap.size + 1, 27, #[.int .u64 (r.gen : Nat), .int .i64 r.at_, .int .i64 r.len, .int .i64 r.long, .int .u32 (r.sum : Nat), .int .u64 (r.next : Nat)])] [] [] := (unhide X1).call b1
       clear ca0_0 ca0_1 ca0_2 q0 ca1_0 ca1_1 ca1_2 ca1_3 ca1_4 ca1_5 q1
       obtain ⟨ca0_0, ca0_1, ca0_2⟩ := ck3 (Y1.get 0 rfl)
       have q0 := (Y1.get 0 rfl).lt
       obtain ⟨ca1_0, ca1_1, ca1_2, ca1_3, ca1_4, ca1_5⟩ := zk6 (Y1.get 1 rfl)
       have q1 := (Y1.get 1 rfl).lt
       have X2 := hide Y1
       clear X1 b1 Y1)
    | fail)
  go_ret
  exact ⟨ret_b rfl (by simp), (unhide X2).bl⟩
set_option maxHeartbeats 8000000 in
theorem found_dead (A A' : Option Addr) (c c' : Nat) (d : Dk) (r : Rt) (hT : OkT r) (a : Int) (A3 : Option Addr) (c3 : Nat) (b : List UInt8) (w : World) (ht : Tab w) (h : Dsk 0 w.heap.size w (.agg #[.slice A d.dry.length c, .slice A' d.wet.length c', .int .i64 d.left]) d) (hw : fewB d = true) (hn : b.length ≤ 100) (hE : (wrR d r).2 ≠ 0) :
    Calls Tryd.prog 5 #[.agg #[.slice A d.dry.length c, .slice A' d.wet.length c', .int .i64 d.left], (.agg #[.int .u64 (r.gen : Nat), .int .i64 r.at_, .int .i64 r.len, .int .i64 r.long, .int .u32 (r.sum : Nat), .int .u64 (r.next : Nat)]), .int .i64 a, .slice A3 b.length c3] w fun e w' => e = .returned (.bool true) ∧ Below w.heap.size w w' := by
  have hl := fun W (hB : Below w.heap.size w W) => live_any W (ht.below hB (Nat.le_refl _))
  have hf := fun W (hB : Below w.heap.size w W) => few_any 0 _ d W (h.grow hB)
  rw [hw] at hf
  have hn1 : ¬ (100 : Int) < (b.length : Int) := by omega
  obtain ⟨s1, s2⟩ := few_small hw
  have hF0 := fun W (hB : Below w.heap.size w W) => Find_any 0 _ d W (ht.below hB (Nat.le_refl _)) (h.grow hB) (by omega) (by omega)
  have hS := fun W (hB : Below w.heap.size w W) => Write_form' 0 _ d r W (ht.below hB (Nat.le_refl _)) hT (h.grow hB) (by omega) (by omega)
  have hz := dead_nil hE
  obtain ⟨p, Ep, hp⟩ : ∃ p Ep, fdR d = (p, Ep) := ⟨_, _, rfl⟩
  obtain ⟨Wd, Ew, hWd⟩ : ∃ Wd Ew, wrR d r = (Wd, Ew) := ⟨_, _, rfl⟩
  rw [hp] at hF0
  rw [hWd] at hS hE hz
  have hE' : (Ew != 0) = true := by simpa using hE
  simp only [] at hz
  have g0 : (((Wd.dry.length : Nat) : Int) == 0) = true := by rw [hz]; rfl
  clear hz
  replace hF0 := hide hF0; replace hS := hide hS
  clear hE
  generalize d.dry.length = n at *
  generalize d.wet.length = m at *
  generalize d.left = l at *
  have X0 : Gx w ((w.alloc (.cells #[.slice A n c, .slice A' m c', .int .i64 l] 31)).alloc (.cells #[.int .u64 (r.gen : Nat), .int .i64 r.at_, .int .i64 r.len, .int .i64 r.long, .int .u32 (r.sum : Nat), .int .u64 (r.next : Nat)] 27)) [(w.heap.size, 31, #[.slice A n c, .slice A' m c', .int .i64 l]), (w.heap.size + 1, 27, #[.int .u64 (r.gen : Nat), .int .i64 r.at_, .int .i64 r.len, .int .i64 r.long, .int .u32 (r.sum : Nat), .int .u64 (r.next : Nat)])] [] [] := ((Gx.nil w).newB w.heap.size rfl 31 #[.slice A n c, .slice A' m c', .int .i64 l]).newB (w.heap.size + 1) (by simp) 27 #[.int .u64 (r.gen : Nat), .int .i64 r.at_, .int .i64 r.len, .int .i64 r.long, .int .u32 (r.sum : Nat), .int .u64 (r.next : Nat)]
  replace X0 := hide X0; replace hl := hide hl; replace hf := hide hf
  clear ht h hw hT hn s1 s2 hp hWd
  have tk0 : True := trivial
  have tk1 : True := trivial
  have tk2 : True := trivial
  have tk3 : True := trivial
  go_enter Tryd.func5, Tryd.ntmps5
  go_upto_region 1 with (fail)
  generalize hW : World.alloc (World.alloc w _) _ = W at *
  clear hW
  obtain ⟨ca0_0, ca0_1, ca0_2⟩ := ck3 ((unhide X0).get 0 rfl)
  have q0 := ((unhide X0).get 0 rfl).lt
  obtain ⟨ca1_0, ca1_1, ca1_2, ca1_3, ca1_4, ca1_5⟩ := zk6 ((unhide X0).get 1 rfl)
  have q1 := ((unhide X0).get 1 rfl).lt
  go_wp2_with (first
    | (have _t := tk0; clear tk0 _t; go_at_call 8; refine (unhide hl _ (unhide X0).bl).mono ?_; rintro e w0 ⟨rfl, b0⟩
       have Y0 : Gx w w0 [(w.heap.size, 31, #[.slice A n c, .slice A' m c', .int .i64 l]), (w.heap.size + 1, 27, #[.int .u64 (r.gen : Nat), .int .i64 r.at_, .int .i64 r.len, .int .i64 r.long, .int .u32 (r.sum : Nat), .int .u64 (r.next : Nat)])] [] [] := (unhide X0).call b0
       clear ca0_0 ca0_1 ca0_2 q0 ca1_0 ca1_1 ca1_2 ca1_3 ca1_4 ca1_5 q1
       obtain ⟨ca0_0, ca0_1, ca0_2⟩ := ck3 (Y0.get 0 rfl)
       have q0 := (Y0.get 0 rfl).lt
       obtain ⟨ca1_0, ca1_1, ca1_2, ca1_3, ca1_4, ca1_5⟩ := zk6 (Y0.get 1 rfl)
       have q1 := (Y0.get 1 rfl).lt
       have X1 := hide Y0
       clear X0 b0 Y0)
    | (have _t := tk1; clear tk1 _t; go_at_call 9; refine (unhide hf _ (unhide X1).bl).mono ?_; rintro e w1 ⟨rfl, b1⟩
       have Y1 : Gx w w1 [(w.heap.size, 31, #[.slice A n c, .slice A' m c', .int .i64 l]), (w.heap.size + 1, 27, #[.int .u64 (r.gen : Nat), .int .i64 r.at_, .int .i64 r.len, .int .i64 r.long, .int .u32 (r.sum : Nat), .int .u64 (r.next : Nat)])] [] [] := (unhide X1).call b1
       clear ca0_0 ca0_1 ca0_2 q0 ca1_0 ca1_1 ca1_2 ca1_3 ca1_4 ca1_5 q1
       obtain ⟨ca0_0, ca0_1, ca0_2⟩ := ck3 (Y1.get 0 rfl)
       have q0 := (Y1.get 0 rfl).lt
       obtain ⟨ca1_0, ca1_1, ca1_2, ca1_3, ca1_4, ca1_5⟩ := zk6 (Y1.get 1 rfl)
       have q1 := (Y1.get 1 rfl).lt
       have X2 := hide Y1
       clear X1 b1 Y1)
    | (have _t := tk2; clear tk2 _t; go_at_call 17; refine (unhide hF0 _ (unhide X2).bl).mono ?_; rintro e w2 ⟨rfl, b2⟩
       have Y2 : Gx w w2 [(w.heap.size, 31, #[.slice A n c, .slice A' m c', .int .i64 l]), (w.heap.size + 1, 27, #[.int .u64 (r.gen : Nat), .int .i64 r.at_, .int .i64 r.len, .int .i64 r.long, .int .u32 (r.sum : Nat), .int .u64 (r.next : Nat)])] [] [] := (unhide X2).call b2
       clear ca0_0 ca0_1 ca0_2 q0 ca1_0 ca1_1 ca1_2 ca1_3 ca1_4 ca1_5 q1
       obtain ⟨ca0_0, ca0_1, ca0_2⟩ := ck3 (Y2.get 0 rfl)
       have q0 := (Y2.get 0 rfl).lt
       obtain ⟨ca1_0, ca1_1, ca1_2, ca1_3, ca1_4, ca1_5⟩ := zk6 (Y2.get 1 rfl)
       have q1 := (Y2.get 1 rfl).lt
       have Y2b : Gx w (w2.alloc (.cells #[.int .u64 (p.gen : Nat), .int .i64 p.at_, .int .i64 p.len, .int .i64 p.long, .int .u32 (p.sum : Nat), .int .u64 (p.next : Nat)] 27)) [(w.heap.size, 31, #[.slice A n c, .slice A' m c', .int .i64 l]), (w.heap.size + 1, 27, #[.int .u64 (r.gen : Nat), .int .i64 r.at_, .int .i64 r.len, .int .i64 r.long, .int .u32 (r.sum : Nat), .int .u64 (r.next : Nat)]), (w2.heap.size, 27, #[.int .u64 (p.gen : Nat), .int .i64 p.at_, .int .i64 p.len, .int .i64 p.long, .int .u32 (p.sum : Nat), .int .u64 (p.next : Nat)])] [] [] := Y2.newB (w2.heap.size) rfl 27 #[.int .u64 (p.gen : Nat), .int .i64 p.at_, .int .i64 p.len, .int .i64 p.long, .int .u32 (p.sum : Nat), .int .u64 (p.next : Nat)]
       have X3 := hide Y2b
       clear X2 b2 Y2 Y2b)
    | (have _t := tk3; clear tk3 _t; go_at_call 15; refine (unhide hS _ (unhide X3).bl).mono ?_; rintro e w3 ⟨A4, c4, B4, e4, rfl, x4, b3⟩
       have Y3 : Gx w w3 [(w.heap.size, 31, #[.slice A n c, .slice A' m c', .int .i64 l]), (w.heap.size + 1, 27, #[.int .u64 (r.gen : Nat), .int .i64 r.at_, .int .i64 r.len, .int .i64 r.long, .int .u32 (r.sum : Nat), .int .u64 (r.next : Nat)]), (w2.heap.size, 27, #[.int .u64 (p.gen : Nat), .int .i64 p.at_, .int .i64 p.len, .int .i64 p.long, .int .u32 (p.sum : Nat), .int .u64 (p.next : Nat)])] [] [] := (unhide X3).call b3
       have Y3d : Gx w w3 [(w.heap.size, 31, #[.slice A n c, .slice A' m c', .int .i64 l]), (w.heap.size + 1, 27, #[.int .u64 (r.gen : Nat), .int .i64 r.at_, .int .i64 r.len, .int .i64 r.long, .int .u32 (r.sum : Nat), .int .u64 (r.next : Nat)]), (w2.heap.size, 27, #[.int .u64 (p.gen : Nat), .int .i64 p.at_, .int .i64 p.len, .int .i64 p.long, .int .u32 (p.sum : Nat), .int .u64 (p.next : Nat)])] [((w2.alloc (.cells #[.int .u64 (p.gen : Nat), .int .i64 p.at_, .int .i64 p.len, .int .i64 p.long, .int .u32 (p.sum : Nat), .int .u64 (p.next : Nat)] 27)).heap.size, w3.heap.size, .agg #[.slice A4 Wd.dry.length c4, .slice B4 Wd.wet.length e4, .int .i64 Wd.left], Wd)] [] := Y3.addD x4
       clear ca0_0 ca0_1 ca0_2 q0 ca1_0 ca1_1 ca1_2 ca1_3 ca1_4 ca1_5 q1
       obtain ⟨ca0_0, ca0_1, ca0_2⟩ := ck3 (Y3d.get 0 rfl)
       have q0 := (Y3d.get 0 rfl).lt
       obtain ⟨ca1_0, ca1_1, ca1_2, ca1_3, ca1_4, ca1_5⟩ := zk6 (Y3d.get 1 rfl)
       have q1 := (Y3d.get 1 rfl).lt
       obtain ⟨ca2_0, ca2_1, ca2_2, ca2_3, ca2_4, ca2_5⟩ := zk6 (Y3d.get 2 rfl)
       have q2 := (Y3d.get 2 rfl).lt
       have Y3db : Gx w (w3.alloc (.cells #[.slice A4 Wd.dry.length c4, .slice B4 Wd.wet.length e4, .int .i64 Wd.left] 31)) [(w.heap.size, 31, #[.slice A n c, .slice A' m c', .int .i64 l]), (w.heap.size + 1, 27, #[.int .u64 (r.gen : Nat), .int .i64 r.at_, .int .i64 r.len, .int .i64 r.long, .int .u32 (r.sum : Nat), .int .u64 (r.next : Nat)]), (w2.heap.size, 27, #[.int .u64 (p.gen : Nat), .int .i64 p.at_, .int .i64 p.len, .int .i64 p.long, .int .u32 (p.sum : Nat), .int .u64 (p.next : Nat)]), (w3.heap.size, 31, #[.slice A4 Wd.dry.length c4, .slice B4 Wd.wet.length e4, .int .i64 Wd.left])] [((w2.alloc (.cells #[.int .u64 (p.gen : Nat), .int .i64 p.at_, .int .i64 p.len, .int .i64 p.long, .int .u32 (p.sum : Nat), .int .u64 (p.next : Nat)] 27)).heap.size, w3.heap.size, .agg #[.slice A4 Wd.dry.length c4, .slice B4 Wd.wet.length e4, .int .i64 Wd.left], Wd)] [] := Y3d.newB (w3.heap.size) rfl 31 #[.slice A4 Wd.dry.length c4, .slice B4 Wd.wet.length e4, .int .i64 Wd.left]
       have X4 := hide Y3db
       clear X3 b3 Y3 Y3d Y3db)
    | fail)
  go_ret
  exact ⟨ret_b rfl (by simp), (unhide X4).bl⟩
end
end Go.Proofs.YtommlgdolahfbaaDoor
