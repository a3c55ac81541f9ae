import Derived.Test.YtommlgdolahfbaaDoorRX
import Derived.Test.YtommlgdolahfbaaDoorRY
import Derived.Test.YtommlgdolahfbaaDoorRA
import Derived.Test.YtommlgdolahfbaaDoorProg
import Derived.Test.YtommlgdolahfbaaDoorRL
import Derived.Test.YtommlgdolahfbaaDoorW10
import Derived.Test.YtommlgdolahfbaaDoorW11
import Derived.Test.YtommlgdolahfbaaDoorS51
import Derived.Test.YtommlgdolahfbaaDoorS52
import Derived.Deep.QuietTactic
import Derived.BigQuiet
namespace Go.Proofs.YtommlgdolahfbaaDoor
set_option maxRecDepth 100000
open Go.RowKit

theorem run_eq_ex (a b c d : Int) (W : World) : (Op.equalIn 9999 24 (.agg #[.int .i64 a, .int .i64 b]) (.agg #[.int .i64 c, .int .i64 d])).run Tryd.prog W = .ok (a == c && b == d) W := by
  rw [run_equalIn_agg W 9998 24 _ _ (by kernel_rfl) (by kernel_rfl)]
  have e3 := fun (a b : Int) => run_equalIn_int W 9997 3 .i64 .i64 a b Tryd.underlying3
  unfold Program.fieldsOf
  simp [Tryd.underlying24, Op.eqFields, part, e3]
  (repeat' split) <;> simp_all
theorem run_eq_rt (r s : Rt) (W : World) : (Op.equalIn 10000 27 (.agg #[.int .u64 (r.gen : Nat), .int .i64 r.at_, .int .i64 r.len, .int .i64 r.long, .int .u32 (r.sum : Nat), .int .u64 (r.next : Nat)]) (.agg #[.int .u64 (s.gen : Nat), .int .i64 s.at_, .int .i64 s.len, .int .i64 s.long, .int .u32 (s.sum : Nat), .int .u64 (s.next : Nat)])).run Tryd.prog W = .ok (decide (r = s)) W := by
  rw [run_equalIn_agg W 9999 27 _ _ (by kernel_rfl) (by kernel_rfl)]
  have e3 := fun (a b : Int) => run_equalIn_int W 9998 3 .i64 .i64 a b Tryd.underlying3
  have hn : ∀ a b : Nat, ((a : Int) == (b : Int)) = (a == b) := fun a b => by rw [Bool.eq_iff_iff]; simp; omega
  have e22 := fun (a b : Nat) => (run_equalIn_int W 9998 22 .u64 .u64 a b Tryd.underlying22).trans (by rw [hn])
  have e25 := fun (a b : Nat) => (run_equalIn_int W 9998 25 .u32 .u32 a b Tryd.underlying25).trans (by rw [hn])
  have eX := fun (a b c d : Int) => run_eq_ex a b c d W
  have hd : decide (r = s) = (r.gen == s.gen && (r.at_ == s.at_ && r.len == s.len) && r.long == s.long && r.sum == s.sum && r.next == s.next) := by
    rw [Bool.eq_iff_iff]
    obtain ⟨a, b, c, d, e, f⟩ := r
    obtain ⟨a', b', c', d', e', f'⟩ := s
    simp [and_assoc]
  rw [hd]
  unfold Program.fieldsOf
  simp [Tryd.underlying27, Op.eqFields, part, e3, e22, e25, eX]
  by_cases h1 : r.gen = s.gen <;> by_cases h2 : r.at_ = s.at_ <;> by_cases h3 : r.len = s.len <;> by_cases h4 : r.long = s.long <;> by_cases h5 : r.sum = s.sum <;> by_cases h6 : r.next = s.next <;> simp [h1, h2, h3, h4, h5, h6]
theorem guardR : Tryd.prog.eqGuardType Tryd.prog.depth 27 = false := by kernel_rfl
theorem run_eql_rt (r s : Rt) (W : World) : (binOp .eql 27 (.agg #[.int .u64 (r.gen : Nat), .int .i64 r.at_, .int .i64 r.len, .int .i64 r.long, .int .u32 (r.sum : Nat), .int .u64 (r.next : Nat)]) (.agg #[.int .u64 (s.gen : Nat), .int .i64 s.at_, .int .i64 s.len, .int .i64 s.long, .int .u32 (s.sum : Nat), .int .u64 (s.next : Nat)])).run Tryd.prog W = .ok (.bool (decide (r = s))) W := by
  rw [run_eql_struct, run_eq_rt]; rfl
theorem run_neq_rt (r s : Rt) (W : World) : (binOp .neq 27 (.agg #[.int .u64 (r.gen : Nat), .int .i64 r.at_, .int .i64 r.len, .int .i64 r.long, .int .u32 (r.sum : Nat), .int .u64 (r.next : Nat)]) (.agg #[.int .u64 (s.gen : Nat), .int .i64 s.at_, .int .i64 s.len, .int .i64 s.long, .int .u32 (s.sum : Nat), .int .u64 (s.next : Nat)])).run Tryd.prog W = .ok (.bool (!decide (r = s))) W := by
  rw [run_neq_struct, run_eq_rt]; rfl
theorem run_eql_zero (r : Rt) (W : World) : (binOp .eql 27 (.agg #[.int .u64 (r.gen : Nat), .int .i64 r.at_, .int .i64 r.len, .int .i64 r.long, .int .u32 (r.sum : Nat), .int .u64 (r.next : Nat)]) (.agg #[.int .u64 0, .int .i64 0, .int .i64 0, .int .i64 0, .int .u32 0, .int .u64 0])).run Tryd.prog W = .ok (.bool (decide (r = noRt))) W := run_eql_rt r noRt W

theorem few_all {d : Dk} (h : fewB d = true) : d.dry.length ≤ 300000 ∧ d.wet.length ≤ 60 ∧ ∀ (j : Nat) (q : Pg), d.wet[j]? = some q → q.b.length ≤ 1000000 := by
  simp only [fewB, Bool.and_eq_true, Bool.or_eq_true, decide_eq_true_eq, shortB, List.all_eq_true] at h
  refine ⟨by omega, by omega, fun j q hj => ?_⟩
  have := h.1.1 q (List.mem_of_getElem? hj)
  omega
def octR (r : Rt) : List UInt8 := if rOk r then octs r else []
theorem Octets_form (r : Rt) (hT : OkT r) (w : World) (ht : Tab w) :
    Calls Tryd.prog 11 #[(.agg #[.int .u64 (r.gen : Nat), .int .i64 r.at_, .int .i64 r.len, .int .i64 r.long, .int .u32 (r.sum : Nat), .int .u64 (r.next : Nat)])] w fun e w' => ∃ A c, e = .returned (.tuple #[.slice A (octR r).length c, .int .i64 (badE (rOk r))]) ∧ Bs w.heap.size w'.heap.size w' (.slice A (octR r).length c) (octR r) ∧ Below w.heap.size w w' :=
  (Octets_any r hT w ht).mono fun e w' ⟨v, he, hx, hb⟩ => by
    have hx' : Bs w.heap.size w'.heap.size w' v (octR r) := hx
    obtain ⟨A, c, rfl, _⟩ := id hx'
    exact ⟨A, c, he, hx', hb⟩
theorem refOctets_form (r : Rt) (hT : OkT r) (w : World) :
    Calls Tryd.prog 12 #[(.agg #[.int .u64 (r.gen : Nat), .int .i64 r.at_, .int .i64 r.len, .int .i64 r.long, .int .u32 (r.sum : Nat), .int .u64 (r.next : Nat)])] w fun e w' => ∃ A c, e = .returned (.tuple #[.slice A (octR r).length c, .int .i64 (badE (rOk r))]) ∧ Bs w.heap.size w'.heap.size w' (.slice A (octR r).length c) (octR r) ∧ Below w.heap.size w w' := by
  cases h : rOk r with
  | true =>
    have e : octR r = octs r := by unfold octR; rw [h]; rfl
    refine (refOctets_good r h hT w).mono fun e' w' ⟨A, c, he, hx, hb⟩ => ?_
    rw [e, octs_len]
    exact ⟨A, c, he, hx, hb⟩
  | false =>
    have e : octR r = [] := by unfold octR; rw [h]; rfl
    refine (refOctets_bad r h w).mono fun e' w' ⟨he, hb⟩ => ?_
    rw [e]
    exact ⟨none, 0, he, Bs.of_own (e := 5) (l := []) (World.ownsRow_nil _ _ _ _), hb⟩
theorem refWrite_form' (lo : Nat) (v : Value) (d : Dk) (r : Rt) (w : World) (hT : OkT r) (h : Dsk lo w.heap.size w v d) (hL : d.dry.length ≤ 1000000) (hW : d.wet.length ≤ 400) :
    Calls Tryd.prog 16 #[v, (.agg #[.int .u64 (r.gen : Nat), .int .i64 r.at_, .int .i64 r.len, .int .i64 r.long, .int .u32 (r.sum : Nat), .int .u64 (r.next : Nat)])] w fun e w' => ∃ A c B e', e = .returned (.tuple #[.agg #[.slice A (wrR d r).1.dry.length c, .slice B (wrR d r).1.wet.length e', .int .i64 (wrR d r).1.left], .int .i64 (wrR d r).2]) ∧ Dsk w.heap.size w'.heap.size w' (.agg #[.slice A (wrR d r).1.dry.length c, .slice B (wrR d r).1.wet.length e', .int .i64 (wrR d r).1.left]) (wrR d r).1 ∧ Below w.heap.size w w' :=
  (refWrite_any lo v d r w hT h hL hW).mono fun e w' ⟨v', E, he, hx, hE, hb⟩ => by
    obtain ⟨A, c, B, e', rfl⟩ := hx.form
    exact ⟨A, c, B, e', by rw [he, hE], hx, hb⟩
theorem refcopy_form (lo : Nat) (v : Value) (d : Dk) (w : World) (h : Dsk lo w.heap.size w v d) (hL : d.dry.length ≤ 1000000) (hW : d.wet.length ≤ 1000) (hP : ∀ (j : Nat) (q : Pg), d.wet[j]? = some q → q.b.length ≤ 1000000) :
    Calls Tryd.prog 10 #[v] w fun e w' => ∃ A c B e', e = .returned (.agg #[.slice A d.dry.length c, .slice B d.wet.length e', .int .i64 d.left]) ∧ Dsk w.heap.size w'.heap.size w' (.agg #[.slice A d.dry.length c, .slice B d.wet.length e', .int .i64 d.left]) d ∧ Below w.heap.size w w' :=
  (refcopy_any lo v d w h hL hW hP).mono fun e w' ⟨v', he, hd, hb⟩ => by
    have h2 := hd.toDsk
    obtain ⟨A, c, B, k, rfl⟩ := h2.form
    exact ⟨A, c, B, k, he, h2, hb⟩
theorem sameb_self (v1 v2 : Value) (a : List UInt8) (W : World) (h1 : Bs 0 W.heap.size W v1 a) (h2 : Bs 0 W.heap.size W v2 a) : Calls Tryd.prog 19 #[v1, v2] W fun e w' => e = .returned (.bool true) ∧ Below W.heap.size W w' :=
  (sameb_any _ _ _ _ v1 v2 a a W h1 h2).mono fun e w' ⟨he, hw⟩ => ⟨by rw [he]; simp, by rw [← hw]; exact Below.refl _ _⟩
theorem same_self (v1 v2 : Value) (x : Dk) (W : World) (h1 : Dsk 0 W.heap.size W v1 x) (h2 : Dsk 0 W.heap.size W v2 x) : Calls Tryd.prog 20 #[v1, v2] W fun e w' => e = .returned (.bool true) ∧ Below W.heap.size W w' := by
  have := refsame_any 0 0 v1 v2 x x W h1 h2
  rwa [show sameD x x = true from decide_eq_true rfl] at this
theorem eql_self (r : Rt) (W : World) : (binOp .eql 27 (.agg #[.int .u64 (r.gen : Nat), .int .i64 r.at_, .int .i64 r.len, .int .i64 r.long, .int .u32 (r.sum : Nat), .int .u64 (r.next : Nat)]) (.agg #[.int .u64 (r.gen : Nat), .int .i64 r.at_, .int .i64 r.len, .int .i64 r.long, .int .u32 (r.sum : Nat), .int .u64 (r.next : Nat)])).run Tryd.prog W = .ok (.bool true) W := by
  rw [run_eql_rt]; simp

/-- A world that has grown. -/
structure Lat (w : World) where
  W : World
  h : Below w.heap.size w W
instance (w : World) : Nonempty (Lat w) := ⟨⟨w, Below.refl _ _⟩⟩
theorem wp_region_lat {P : Program} {id : Nat} {Q : Exit → Act → World → Prop} {a : Act} {w : World} {l : List Oper} (hm : P.follows .mixedOrders = true) (hB : Region.lexB .any l.toArray = true)
    (h : wpQuiet P l.toArray (fun w' => ∃ p : Lat w, w' = p.W) (fun a' => ∀ w', (∃ p : Lat w, w' = p.W) → Q .normal a' w') l a) : (Code.region id l.toArray true).wp P Q a w :=
  wp_region_quiet (C := fun w' => ∃ p : Lat w, w' = p.W) hm hB ⟨⟨w.drew, (Below.refl _ _).drew⟩, rfl⟩ (by simpa using h)
theorem Calls.lat_of {P : Program} {f : FuncId} {args : Array Value} {w : World} {p : Lat w} {v : Value}
    (h : Calls P f args p.W fun e w' => e = .returned v ∧ Below p.W.heap.size p.W w') : Calls P f args p.W fun e w'' => e = .returned v ∧ ∃ q : Lat w, w'' = q.W :=
  h.mono fun _ w' ⟨he, hb⟩ => ⟨he, ⟨w', p.h.trans (hb.mono p.h.size)⟩, rfl⟩
theorem lat_cell {w : World} (p : Lat w) {a : Addr} {v : Value} (hb : a.block < w.heap.size) (h : w.cell? a = some v) : p.W.cell? a = some v := (p.h.cell hb).trans h
theorem lat3 {w : World} {g : Nat} {t : TypeId} {a b c : Value} (h : Blk w g t #[a, b, c]) : (∀ p : Lat w, p.W.cell? ⟨g, 0, none⟩ = some a) ∧ (∀ p : Lat w, p.W.cell? ⟨g, 1, none⟩ = some b) ∧ (∀ p : Lat w, p.W.cell? ⟨g, 2, none⟩ = some c) :=
  ⟨fun p => lat_cell p h.lt (h.cell 0), fun p => lat_cell p h.lt (h.cell 1), fun p => lat_cell p h.lt (h.cell 2)⟩
theorem lat6 {w : World} {g : Nat} {t : TypeId} {a b c d e f : Value} (h : Blk w g t #[a, b, c, d, e, f]) : (∀ p : Lat w, p.W.cell? ⟨g, 0, none⟩ = some a) ∧ (∀ p : Lat w, p.W.cell? ⟨g, 1, none⟩ = some b) ∧ (∀ p : Lat w, p.W.cell? ⟨g, 2, none⟩ = some c) ∧
    (∀ p : Lat w, p.W.cell? ⟨g, 3, none⟩ = some d) ∧ (∀ p : Lat w, p.W.cell? ⟨g, 4, none⟩ = some e) ∧ (∀ p : Lat w, p.W.cell? ⟨g, 5, none⟩ = some f) :=
  ⟨fun p => lat_cell p h.lt (h.cell 0), fun p => lat_cell p h.lt (h.cell 1), fun p => lat_cell p h.lt (h.cell 2), fun p => lat_cell p h.lt (h.cell 3), fun p => lat_cell p h.lt (h.cell 4), fun p => lat_cell p h.lt (h.cell 5)⟩
section
attribute [-go_sem] run_eql_struct run_neq_struct
attribute [local go_sem] eql_self guardR
set_option maxHeartbeats 8000000 in
theorem does_long (r : Rt) (A3 : Option Addr) (c3 : Nat) (b : List UInt8) (A A' : Option Addr) (c c' : Nat) (d : Dk) (w : World) (ht : Tab w) (hn : 100 < b.length) :
    Calls Tryd.prog 3 #[(.agg #[.int .u64 (r.gen : Nat), .int .i64 r.at_, .int .i64 r.len, .int .i64 r.long, .int .u32 (r.sum : Nat), .int .u64 (r.next : Nat)]), .slice A3 b.length c3, .agg #[.slice A d.dry.length c, .slice A' d.wet.length c', .int .i64 d.left]] w fun e w' => e = .returned (.bool true) ∧ Below w.heap.size w w' := by
  have hl := fun W (hB : Below w.heap.size w W) => live_any W (ht.below hB (Nat.le_refl _))
  have hn1 : (100 : Int) < (b.length : Int) := by omega
  generalize d.dry.length = n at *
  generalize d.wet.length = m at *
  generalize d.left = l at *
  have X0 : Gx w ((w.alloc (.cells #[.int .u64 (r.gen : Nat), .int .i64 r.at_, .int .i64 r.len, .int .i64 r.long, .int .u32 (r.sum : Nat), .int .u64 (r.next : Nat)] 27)).alloc (.cells #[.slice A n c, .slice A' m c', .int .i64 l] 31)) [(w.heap.size, 27, #[.int .u64 (r.gen : Nat), .int .i64 r.at_, .int .i64 r.len, .int .i64 r.long, .int .u32 (r.sum : Nat), .int .u64 (r.next : Nat)]), (w.heap.size + 1, 31, #[.slice A n c, .slice A' m c', .int .i64 l])] [] [] := ((Gx.nil w).newB w.heap.size rfl 27 #[.int .u64 (r.gen : Nat), .int .i64 r.at_, .int .i64 r.len, .int .i64 r.long, .int .u32 (r.sum : Nat), .int .u64 (r.next : Nat)]).newB (w.heap.size + 1) (by simp) 31 #[.slice A n c, .slice A' m c', .int .i64 l]
  replace X0 := hide X0; replace hl := hide hl
  clear ht hn
  have tk0 : True := trivial
  go_enter Tryd.func3, Tryd.ntmps3
  go_upto_region 1 with (fail)
  generalize hW : World.alloc (World.alloc w _) _ = W at *
  clear hW
  obtain ⟨ca0_0, ca0_1, ca0_2, ca0_3, ca0_4, ca0_5⟩ := zk6 ((unhide X0).get 0 rfl)
  have q0 := ((unhide X0).get 0 rfl).lt
  obtain ⟨ca1_0, ca1_1, ca1_2⟩ := ck3 ((unhide X0).get 1 rfl)
  have q1 := ((unhide X0).get 1 rfl).lt
  go_wp2_with (first
    | (have _t := tk0; clear tk0 _t; go_at_call 8; refine (unhide hl _ (unhide X0).bl).mono ?_; rintro e w0 ⟨rfl, b0⟩
       have Y0 : Gx w w0 [(w.heap.size, 27, #[.int .u64 (r.gen : Nat), .int .i64 r.at_, .int .i64 r.len, .int .i64 r.long, .int .u32 (r.sum : Nat), .int .u64 (r.next : Nat)]), (w.heap.size + 1, 31, #[.slice A n c, .slice A' m c', .int .i64 l])] [] [] := (unhide X0).call b0
       clear ca0_0 ca0_1 ca0_2 ca0_3 ca0_4 ca0_5 q0 ca1_0 ca1_1 ca1_2 q1
       obtain ⟨ca0_0, ca0_1, ca0_2, ca0_3, ca0_4, ca0_5⟩ := zk6 (Y0.get 0 rfl)
       have q0 := (Y0.get 0 rfl).lt
       obtain ⟨ca1_0, ca1_1, ca1_2⟩ := ck3 (Y0.get 1 rfl)
       have q1 := (Y0.get 1 rfl).lt
       have X1 := hide Y0
       clear X0 b0 Y0)
    | fail)
  go_ret
  exact ⟨ret_b rfl (by simp), (unhide X1).bl⟩
set_option maxHeartbeats 8000000 in
theorem does_few (r : Rt) (A3 : Option Addr) (c3 : Nat) (b : List UInt8) (A A' : Option Addr) (c c' : Nat) (d : Dk) (w : World) (ht : Tab w) (h : Dsk 0 w.heap.size w (.agg #[.slice A d.dry.length c, .slice A' d.wet.length c', .int .i64 d.left]) d) (hw : fewB d = false) (hn : b.length ≤ 100) :
    Calls Tryd.prog 3 #[(.agg #[.int .u64 (r.gen : Nat), .int .i64 r.at_, .int .i64 r.len, .int .i64 r.long, .int .u32 (r.sum : Nat), .int .u64 (r.next : Nat)]), .slice A3 b.length c3, .agg #[.slice A d.dry.length c, .slice A' d.wet.length c', .int .i64 d.left]] w fun e w' => e = .returned (.bool true) ∧ Below w.heap.size w w' := by
  have hl := fun W (hB : Below w.heap.size w W) => live_any W (ht.below hB (Nat.le_refl _))
  have hf := fun W (hB : Below w.heap.size w W) => few_any 0 _ d W (h.grow hB)
  rw [hw] at hf
  have hn1 : ¬ (100 : Int) < (b.length : Int) := by omega
  generalize d.dry.length = n at *
  generalize d.wet.length = m at *
  generalize d.left = l at *
  have X0 : Gx w ((w.alloc (.cells #[.int .u64 (r.gen : Nat), .int .i64 r.at_, .int .i64 r.len, .int .i64 r.long, .int .u32 (r.sum : Nat), .int .u64 (r.next : Nat)] 27)).alloc (.cells #[.slice A n c, .slice A' m c', .int .i64 l] 31)) [(w.heap.size, 27, #[.int .u64 (r.gen : Nat), .int .i64 r.at_, .int .i64 r.len, .int .i64 r.long, .int .u32 (r.sum : Nat), .int .u64 (r.next : Nat)]), (w.heap.size + 1, 31, #[.slice A n c, .slice A' m c', .int .i64 l])] [] [] := ((Gx.nil w).newB w.heap.size rfl 27 #[.int .u64 (r.gen : Nat), .int .i64 r.at_, .int .i64 r.len, .int .i64 r.long, .int .u32 (r.sum : Nat), .int .u64 (r.next : Nat)]).newB (w.heap.size + 1) (by simp) 31 #[.slice A n c, .slice A' m c', .int .i64 l]
  replace X0 := hide X0; replace hl := hide hl; replace hf := hide hf
  clear ht h hw hn
  have tk0 : True := trivial
  have tk1 : True := trivial
  go_enter Tryd.func3, Tryd.ntmps3
  go_upto_region 1 with (fail)
  generalize hW : World.alloc (World.alloc w _) _ = W at *
  clear hW
  obtain ⟨ca0_0, ca0_1, ca0_2, ca0_3, ca0_4, ca0_5⟩ := zk6 ((unhide X0).get 0 rfl)
  have q0 := ((unhide X0).get 0 rfl).lt
  obtain ⟨ca1_0, ca1_1, ca1_2⟩ := ck3 ((unhide X0).get 1 rfl)
  have q1 := ((unhide X0).get 1 rfl).lt
  go_wp2_with (first
    | (have _t := tk0; clear tk0 _t; go_at_call 8; refine (unhide hl _ (unhide X0).bl).mono ?_; rintro e w0 ⟨rfl, b0⟩
       have Y0 : Gx w w0 [(w.heap.size, 27, #[.int .u64 (r.gen : Nat), .int .i64 r.at_, .int .i64 r.len, .int .i64 r.long, .int .u32 (r.sum : Nat), .int .u64 (r.next : Nat)]), (w.heap.size + 1, 31, #[.slice A n c, .slice A' m c', .int .i64 l])] [] [] := (unhide X0).call b0
       clear ca0_0 ca0_1 ca0_2 ca0_3 ca0_4 ca0_5 q0 ca1_0 ca1_1 ca1_2 q1
       obtain ⟨ca0_0, ca0_1, ca0_2, ca0_3, ca0_4, ca0_5⟩ := zk6 (Y0.get 0 rfl)
       have q0 := (Y0.get 0 rfl).lt
       obtain ⟨ca1_0, ca1_1, ca1_2⟩ := ck3 (Y0.get 1 rfl)
       have q1 := (Y0.get 1 rfl).lt
       have X1 := hide Y0
       clear X0 b0 Y0)
    | (have _t := tk1; clear tk1 _t; go_at_call 9; refine (unhide hf _ (unhide X1).bl).mono ?_; rintro e w1 ⟨rfl, b1⟩
       have Y1 : Gx w w1 [(w.heap.size, 27, #[.int .u64 (r.gen : Nat), .int .i64 r.at_, .int .i64 r.len, .int .i64 r.long, .int .u32 (r.sum : Nat), .int .u64 (r.next : Nat)]), (w.heap.size + 1, 31, #[.slice A n c, .slice A' m c', .int .i64 l])] [] [] := (unhide X1).call b1
       clear ca0_0 ca0_1 ca0_2 ca0_3 ca0_4 ca0_5 q0 ca1_0 ca1_1 ca1_2 q1
       obtain ⟨ca0_0, ca0_1, ca0_2, ca0_3, ca0_4, ca0_5⟩ := zk6 (Y1.get 0 rfl)
       have q0 := (Y1.get 0 rfl).lt
       obtain ⟨ca1_0, ca1_1, ca1_2⟩ := ck3 (Y1.get 1 rfl)
       have q1 := (Y1.get 1 rfl).lt
       have X2 := hide Y1
       clear X1 b1 Y1)
    | fail)
  go_ret
  exact ⟨ret_b rfl (by simp), (unhide X2).bl⟩
set_option maxHeartbeats 8000000 in
theorem does_main (r : Rt) (hT : OkT r) (A3 : Option Addr) (c3 : Nat) (b : List UInt8) (A A' : Option Addr) (c c' : Nat) (d : Dk) (w : World) (ht : Tab w) (hb : Bs 0 w.heap.size w (.slice A3 b.length c3) b) (h : Dsk 0 w.heap.size w (.agg #[.slice A d.dry.length c, .slice A' d.wet.length c', .int .i64 d.left]) d) (hw : fewB d = true) (hn : b.length ≤ 100) :
    Calls Tryd.prog 3 #[(.agg #[.int .u64 (r.gen : Nat), .int .i64 r.at_, .int .i64 r.len, .int .i64 r.long, .int .u32 (r.sum : Nat), .int .u64 (r.next : Nat)]), .slice A3 b.length c3, .agg #[.slice A d.dry.length c, .slice A' d.wet.length c', .int .i64 d.left]] w fun e w' => e = .returned (.bool true) ∧ Below w.heap.size w w' := by
  have hl := fun W (hB : Below w.heap.size w W) => live_any W (ht.below hB (Nat.le_refl _))
  have hf := fun W (hB : Below w.heap.size w W) => few_any 0 _ d W (h.grow hB)
  rw [hw] at hf
  have hn1 : ¬ (100 : Int) < (b.length : Int) := by omega
  obtain ⟨s1, s2, s3⟩ := few_all hw
  have hcp := fun W (hB : Below w.heap.size w W) => refcopy_form 0 _ d W (h.grow hB) (by omega) (by omega) s3
  have hO1 := fun W (hB : Below w.heap.size w W) => Octets_form r hT W (ht.below hB (Nat.le_refl _))
  have hO2 := fun W (_ : Below w.heap.size w W) => refOctets_form r hT W
  have hP1 := fun W (hB : Below w.heap.size w W) => Of_any (.slice A3 b.length c3) 0 b W (ht.below hB (Nat.le_refl _)) (hb.grow hB)
  have hP2 := fun W (hB : Below w.heap.size w W) => refOf_any (.slice A3 b.length c3) 0 b W (hb.grow hB)
  have hS1 := fun W (hB : Below w.heap.size w W) => Write_form' 0 _ d r W (ht.below hB (Nat.le_refl _)) hT (h.grow hB) (by omega) (by omega)
  have hS2 := fun W (hB : Below w.heap.size w W) => refWrite_form' 0 _ d r W hT (h.grow hB) (by omega) (by omega)
  have hF1 := fun W (hB : Below w.heap.size w W) => Find_any 0 _ d W (ht.below hB (Nat.le_refl _)) (h.grow hB) (by omega) (by omega)
  have hF2 := fun W (hB : Below w.heap.size w W) => refFind_any 0 _ d W (h.grow hB) (by omega) (by omega)
  have hK1 := fun W (_ : Below w.heap.size w W) => Check_any r hT W
  have hK2 := fun W (_ : Below w.heap.size w W) => refCheck_any r W
  obtain ⟨p, Ep, hp⟩ : ∃ p Ep, fdR d = (p, Ep) := ⟨_, _, rfl⟩
  obtain ⟨Wd, Ew, hWd⟩ : ∃ Wd Ew, wrR d r = (Wd, Ew) := ⟨_, _, rfl⟩
  rw [hp] at hF1 hF2
  rw [hWd] at hS1 hS2
  generalize ofR b = q at *
  generalize ofE b = Eb at *
  generalize badE (rOk r) = Er at *
  generalize octR r = O at *
  have hd0 : Dsk 0 w.heap.size w (.agg #[.slice A d.dry.length c, .slice A' d.wet.length c', .int .i64 d.left]) d := h
  have hsd := fun v2 W (hB : Below w.heap.size w W) (h2 : Dsk 0 W.heap.size W v2 d) => same_self (.agg #[.slice A d.dry.length c, .slice A' d.wet.length c', .int .i64 d.left]) v2 d W (hd0.grow hB) h2
  replace hcp := hide hcp; replace hO1 := hide hO1; replace hO2 := hide hO2; replace hP1 := hide hP1; replace hP2 := hide hP2; replace hS1 := hide hS1; replace hS2 := hide hS2; replace hF1 := hide hF1; replace hF2 := hide hF2; replace hK1 := hide hK1; replace hK2 := hide hK2; replace hsd := hide hsd
  clear hd0
  generalize d.dry.length = n at *
  generalize d.wet.length = m at *
  generalize d.left = l at *
  have X0 : Gx w ((w.alloc (.cells #[.int .u64 (r.gen : Nat), .int .i64 r.at_, .int .i64 r.len, .int .i64 r.long, .int .u32 (r.sum : Nat), .int .u64 (r.next : Nat)] 27)).alloc (.cells #[.slice A n c, .slice A' m c', .int .i64 l] 31)) [(w.heap.size, 27, #[.int .u64 (r.gen : Nat), .int .i64 r.at_, .int .i64 r.len, .int .i64 r.long, .int .u32 (r.sum : Nat), .int .u64 (r.next : Nat)]), (w.heap.size + 1, 31, #[.slice A n c, .slice A' m c', .int .i64 l])] [] [] := ((Gx.nil w).newB w.heap.size rfl 27 #[.int .u64 (r.gen : Nat), .int .i64 r.at_, .int .i64 r.len, .int .i64 r.long, .int .u32 (r.sum : Nat), .int .u64 (r.next : Nat)]).newB (w.heap.size + 1) (by simp) 31 #[.slice A n c, .slice A' m c', .int .i64 l]
  replace X0 := hide X0; replace hl := hide hl; replace hf := hide hf
  clear ht h hb hw hT hn s1 s2 s3 hp hWd
  have tk0 : True := trivial
  have tk1 : True := trivial
  have tk2 : True := trivial
  have tk3 : True := trivial
  have tk4 : True := trivial
  have tk5 : True := trivial
  have tk6 : True := trivial
  have tk7 : True := trivial
  have tk8 : True := trivial
  have tk9 : True := trivial
  have tk10 : True := trivial
  go_enter Tryd.func3, Tryd.ntmps3
  go_upto_region 1 with (fail)
  generalize hW : World.alloc (World.alloc w _) _ = W at *
  clear hW
  obtain ⟨ca0_0, ca0_1, ca0_2, ca0_3, ca0_4, ca0_5⟩ := zk6 ((unhide X0).get 0 rfl)
  have q0 := ((unhide X0).get 0 rfl).lt
  obtain ⟨ca1_0, ca1_1, ca1_2⟩ := ck3 ((unhide X0).get 1 rfl)
  have q1 := ((unhide X0).get 1 rfl).lt
  go_upto_region 13 with (first
    | (have _t := tk0; clear tk0 _t; go_at_call 8; refine (unhide hl _ (unhide X0).bl).mono ?_; rintro e w0 ⟨rfl, b0⟩
       have Y0 : Gx w w0 [(w.heap.size, 27, #[.int .u64 (r.gen : Nat), .int .i64 r.at_, .int .i64 r.len, .int .i64 r.long, .int .u32 (r.sum : Nat), .int .u64 (r.next : Nat)]), (w.heap.size + 1, 31, #[.slice A n c, .slice A' m c', .int .i64 l])] [] [] := (unhide X0).call b0
       clear ca0_0 ca0_1 ca0_2 ca0_3 ca0_4 ca0_5 q0 ca1_0 ca1_1 ca1_2 q1
       obtain ⟨ca0_0, ca0_1, ca0_2, ca0_3, ca0_4, ca0_5⟩ := zk6 (Y0.get 0 rfl)
       have q0 := (Y0.get 0 rfl).lt
       obtain ⟨ca1_0, ca1_1, ca1_2⟩ := ck3 (Y0.get 1 rfl)
       have q1 := (Y0.get 1 rfl).lt
       have X1 := hide Y0
       clear X0 b0 Y0)
    | (have _t := tk1; clear tk1 _t; go_at_call 9; refine (unhide hf _ (unhide X1).bl).mono ?_; rintro e w1 ⟨rfl, b1⟩
       have Y1 : Gx w w1 [(w.heap.size, 27, #[.int .u64 (r.gen : Nat), .int .i64 r.at_, .int .i64 r.len, .int .i64 r.long, .int .u32 (r.sum : Nat), .int .u64 (r.next : Nat)]), (w.heap.size + 1, 31, #[.slice A n c, .slice A' m c', .int .i64 l])] [] [] := (unhide X1).call b1
       clear ca0_0 ca0_1 ca0_2 ca0_3 ca0_4 ca0_5 q0 ca1_0 ca1_1 ca1_2 q1
       obtain ⟨ca0_0, ca0_1, ca0_2, ca0_3, ca0_4, ca0_5⟩ := zk6 (Y1.get 0 rfl)
       have q0 := (Y1.get 0 rfl).lt
       obtain ⟨ca1_0, ca1_1, ca1_2⟩ := ck3 (Y1.get 1 rfl)
       have q1 := (Y1.get 1 rfl).lt
       have X2 := hide Y1
       clear X1 b1 Y1)
    | (have _t := tk2; clear tk2 _t; go_at_call 10; refine (unhide hcp _ (unhide X2).bl).mono ?_; rintro e w2 ⟨A5, c5, B5, e5, rfl, x5, b2⟩
       have Y2 : Gx w w2 [(w.heap.size, 27, #[.int .u64 (r.gen : Nat), .int .i64 r.at_, .int .i64 r.len, .int .i64 r.long, .int .u32 (r.sum : Nat), .int .u64 (r.next : Nat)]), (w.heap.size + 1, 31, #[.slice A n c, .slice A' m c', .int .i64 l])] [] [] := (unhide X2).call b2
       have Y2d : Gx w w2 [(w.heap.size, 27, #[.int .u64 (r.gen : Nat), .int .i64 r.at_, .int .i64 r.len, .int .i64 r.long, .int .u32 (r.sum : Nat), .int .u64 (r.next : Nat)]), (w.heap.size + 1, 31, #[.slice A n c, .slice A' m c', .int .i64 l])] [(0, w2.heap.size, .agg #[.slice A5 n c5, .slice B5 m e5, .int .i64 l], d)] [] := Y2.addD (x5.mono (Nat.zero_le _) (Nat.le_refl _))
       clear ca0_0 ca0_1 ca0_2 ca0_3 ca0_4 ca0_5 q0 ca1_0 ca1_1 ca1_2 q1
       obtain ⟨ca0_0, ca0_1, ca0_2, ca0_3, ca0_4, ca0_5⟩ := zk6 (Y2d.get 0 rfl)
       have q0 := (Y2d.get 0 rfl).lt
       obtain ⟨ca1_0, ca1_1, ca1_2⟩ := ck3 (Y2d.get 1 rfl)
       have q1 := (Y2d.get 1 rfl).lt
       have Y2db : Gx w (w2.alloc (.cells #[.slice A5 n c5, .slice B5 m e5, .int .i64 l] 31)) [(w.heap.size, 27, #[.int .u64 (r.gen : Nat), .int .i64 r.at_, .int .i64 r.len, .int .i64 r.long, .int .u32 (r.sum : Nat), .int .u64 (r.next : Nat)]), (w.heap.size + 1, 31, #[.slice A n c, .slice A' m c', .int .i64 l]), (w2.heap.size, 31, #[.slice A5 n c5, .slice B5 m e5, .int .i64 l])] [(0, w2.heap.size, .agg #[.slice A5 n c5, .slice B5 m e5, .int .i64 l], d)] [] := Y2d.newB (w2.heap.size) rfl 31 #[.slice A5 n c5, .slice B5 m e5, .int .i64 l]
       have X3 := hide Y2db
       clear X2 b2 Y2 Y2d Y2db)
    | (have _t := tk3; clear tk3 _t; go_at_call 11; refine (unhide hO1 _ (unhide X3).bl).mono ?_; rintro e w3 ⟨A6, c6, rfl, x6, b3⟩
       have Y3 : Gx w w3 [(w.heap.size, 27, #[.int .u64 (r.gen : Nat), .int .i64 r.at_, .int .i64 r.len, .int .i64 r.long, .int .u32 (r.sum : Nat), .int .u64 (r.next : Nat)]), (w.heap.size + 1, 31, #[.slice A n c, .slice A' m c', .int .i64 l]), (w2.heap.size, 31, #[.slice A5 n c5, .slice B5 m e5, .int .i64 l])] [(0, w2.heap.size, .agg #[.slice A5 n c5, .slice B5 m e5, .int .i64 l], d)] [] := (unhide X3).call b3
       have Y3z : Gx w w3 [(w.heap.size, 27, #[.int .u64 (r.gen : Nat), .int .i64 r.at_, .int .i64 r.len, .int .i64 r.long, .int .u32 (r.sum : Nat), .int .u64 (r.next : Nat)]), (w.heap.size + 1, 31, #[.slice A n c, .slice A' m c', .int .i64 l]), (w2.heap.size, 31, #[.slice A5 n c5, .slice B5 m e5, .int .i64 l])] [(0, w2.heap.size, .agg #[.slice A5 n c5, .slice B5 m e5, .int .i64 l], d)] [(0, w3.heap.size, .slice A6 O.length c6, O)] := Y3.addZ (x6.mono (Nat.zero_le _) (Nat.le_refl _))
       clear ca0_0 ca0_1 ca0_2 ca0_3 ca0_4 ca0_5 q0 ca1_0 ca1_1 ca1_2 q1
       obtain ⟨ca0_0, ca0_1, ca0_2, ca0_3, ca0_4, ca0_5⟩ := zk6 (Y3z.get 0 rfl)
       have q0 := (Y3z.get 0 rfl).lt
       obtain ⟨ca1_0, ca1_1, ca1_2⟩ := ck3 (Y3z.get 1 rfl)
       have q1 := (Y3z.get 1 rfl).lt
       obtain ⟨ca2_0, ca2_1, ca2_2⟩ := ck3 (Y3z.get 2 rfl)
       have q2 := (Y3z.get 2 rfl).lt
       have X4 := hide Y3z
       clear X3 b3 Y3 Y3z)
    | (have _t := tk4; clear tk4 _t; go_at_call 12; refine (unhide hO2 _ (unhide X4).bl).mono ?_; rintro e w4 ⟨A7, c7, rfl, x7, b4⟩
       have Y4 : Gx w w4 [(w.heap.size, 27, #[.int .u64 (r.gen : Nat), .int .i64 r.at_, .int .i64 r.len, .int .i64 r.long, .int .u32 (r.sum : Nat), .int .u64 (r.next : Nat)]), (w.heap.size + 1, 31, #[.slice A n c, .slice A' m c', .int .i64 l]), (w2.heap.size, 31, #[.slice A5 n c5, .slice B5 m e5, .int .i64 l])] [(0, w2.heap.size, .agg #[.slice A5 n c5, .slice B5 m e5, .int .i64 l], d)] [(0, w3.heap.size, .slice A6 O.length c6, O)] := (unhide X4).call b4
       have Y4z : Gx w w4 [(w.heap.size, 27, #[.int .u64 (r.gen : Nat), .int .i64 r.at_, .int .i64 r.len, .int .i64 r.long, .int .u32 (r.sum : Nat), .int .u64 (r.next : Nat)]), (w.heap.size + 1, 31, #[.slice A n c, .slice A' m c', .int .i64 l]), (w2.heap.size, 31, #[.slice A5 n c5, .slice B5 m e5, .int .i64 l])] [(0, w2.heap.size, .agg #[.slice A5 n c5, .slice B5 m e5, .int .i64 l], d)] [(0, w3.heap.size, .slice A6 O.length c6, O), (0, w4.heap.size, .slice A7 O.length c7, O)] := Y4.addZ (x7.mono (Nat.zero_le _) (Nat.le_refl _))
       clear ca0_0 ca0_1 ca0_2 ca0_3 ca0_4 ca0_5 q0 ca1_0 ca1_1 ca1_2 q1 ca2_0 ca2_1 ca2_2 q2
       obtain ⟨ca0_0, ca0_1, ca0_2, ca0_3, ca0_4, ca0_5⟩ := zk6 (Y4z.get 0 rfl)
       have q0 := (Y4z.get 0 rfl).lt
       obtain ⟨ca1_0, ca1_1, ca1_2⟩ := ck3 (Y4z.get 1 rfl)
       have q1 := (Y4z.get 1 rfl).lt
       obtain ⟨ca2_0, ca2_1, ca2_2⟩ := ck3 (Y4z.get 2 rfl)
       have q2 := (Y4z.get 2 rfl).lt
       have X5 := hide Y4z
       clear X4 b4 Y4 Y4z)
    | (have _t := tk5; clear tk5 _t; go_at_call 13; refine (unhide hP1 _ (unhide X5).bl).mono ?_; rintro e w5 ⟨rfl, b5⟩
       have Y5 : Gx w w5 [(w.heap.size, 27, #[.int .u64 (r.gen : Nat), .int .i64 r.at_, .int .i64 r.len, .int .i64 r.long, .int .u32 (r.sum : Nat), .int .u64 (r.next : Nat)]), (w.heap.size + 1, 31, #[.slice A n c, .slice A' m c', .int .i64 l]), (w2.heap.size, 31, #[.slice A5 n c5, .slice B5 m e5, .int .i64 l])] [(0, w2.heap.size, .agg #[.slice A5 n c5, .slice B5 m e5, .int .i64 l], d)] [(0, w3.heap.size, .slice A6 O.length c6, O), (0, w4.heap.size, .slice A7 O.length c7, O)] := (unhide X5).call b5
       clear ca0_0 ca0_1 ca0_2 ca0_3 ca0_4 ca0_5 q0 ca1_0 ca1_1 ca1_2 q1 ca2_0 ca2_1 ca2_2 q2
       obtain ⟨ca0_0, ca0_1, ca0_2, ca0_3, ca0_4, ca0_5⟩ := zk6 (Y5.get 0 rfl)
       have q0 := (Y5.get 0 rfl).lt
       obtain ⟨ca1_0, ca1_1, ca1_2⟩ := ck3 (Y5.get 1 rfl)
       have q1 := (Y5.get 1 rfl).lt
       obtain ⟨ca2_0, ca2_1, ca2_2⟩ := ck3 (Y5.get 2 rfl)
       have q2 := (Y5.get 2 rfl).lt
       have Y5b : Gx w (w5.alloc (.cells #[.int .u64 (q.gen : Nat), .int .i64 q.at_, .int .i64 q.len, .int .i64 q.long, .int .u32 (q.sum : Nat), .int .u64 (q.next : Nat)] 27)) [(w.heap.size, 27, #[.int .u64 (r.gen : Nat), .int .i64 r.at_, .int .i64 r.len, .int .i64 r.long, .int .u32 (r.sum : Nat), .int .u64 (r.next : Nat)]), (w.heap.size + 1, 31, #[.slice A n c, .slice A' m c', .int .i64 l]), (w2.heap.size, 31, #[.slice A5 n c5, .slice B5 m e5, .int .i64 l]), (w5.heap.size, 27, #[.int .u64 (q.gen : Nat), .int .i64 q.at_, .int .i64 q.len, .int .i64 q.long, .int .u32 (q.sum : Nat), .int .u64 (q.next : Nat)])] [(0, w2.heap.size, .agg #[.slice A5 n c5, .slice B5 m e5, .int .i64 l], d)] [(0, w3.heap.size, .slice A6 O.length c6, O), (0, w4.heap.size, .slice A7 O.length c7, O)] := Y5.newB (w5.heap.size) rfl 27 #[.int .u64 (q.gen : Nat), .int .i64 q.at_, .int .i64 q.len, .int .i64 q.long, .int .u32 (q.sum : Nat), .int .u64 (q.next : Nat)]
       have X6 := hide Y5b
       clear X5 b5 Y5 Y5b)
    | (have _t := tk6; clear tk6 _t; go_at_call 14; refine (unhide hP2 _ (unhide X6).bl).mono ?_; rintro e w6 ⟨rfl, b6⟩
       have Y6 : Gx w w6 [(w.heap.size, 27, #[.int .u64 (r.gen : Nat), .int .i64 r.at_, .int .i64 r.len, .int .i64 r.long, .int .u32 (r.sum : Nat), .int .u64 (r.next : Nat)]), (w.heap.size + 1, 31, #[.slice A n c, .slice A' m c', .int .i64 l]), (w2.heap.size, 31, #[.slice A5 n c5, .slice B5 m e5, .int .i64 l]), (w5.heap.size, 27, #[.int .u64 (q.gen : Nat), .int .i64 q.at_, .int .i64 q.len, .int .i64 q.long, .int .u32 (q.sum : Nat), .int .u64 (q.next : Nat)])] [(0, w2.heap.size, .agg #[.slice A5 n c5, .slice B5 m e5, .int .i64 l], d)] [(0, w3.heap.size, .slice A6 O.length c6, O), (0, w4.heap.size, .slice A7 O.length c7, O)] := (unhide X6).call b6
       clear ca0_0 ca0_1 ca0_2 ca0_3 ca0_4 ca0_5 q0 ca1_0 ca1_1 ca1_2 q1 ca2_0 ca2_1 ca2_2 q2
       obtain ⟨ca0_0, ca0_1, ca0_2, ca0_3, ca0_4, ca0_5⟩ := zk6 (Y6.get 0 rfl)
       have q0 := (Y6.get 0 rfl).lt
       obtain ⟨ca1_0, ca1_1, ca1_2⟩ := ck3 (Y6.get 1 rfl)
       have q1 := (Y6.get 1 rfl).lt
       obtain ⟨ca2_0, ca2_1, ca2_2⟩ := ck3 (Y6.get 2 rfl)
       have q2 := (Y6.get 2 rfl).lt
       obtain ⟨ca3_0, ca3_1, ca3_2, ca3_3, ca3_4, ca3_5⟩ := zk6 (Y6.get 3 rfl)
       have q3 := (Y6.get 3 rfl).lt
       have Y6b : Gx w (w6.alloc (.cells #[.int .u64 (q.gen : Nat), .int .i64 q.at_, .int .i64 q.len, .int .i64 q.long, .int .u32 (q.sum : Nat), .int .u64 (q.next : Nat)] 27)) [(w.heap.size, 27, #[.int .u64 (r.gen : Nat), .int .i64 r.at_, .int .i64 r.len, .int .i64 r.long, .int .u32 (r.sum : Nat), .int .u64 (r.next : Nat)]), (w.heap.size + 1, 31, #[.slice A n c, .slice A' m c', .int .i64 l]), (w2.heap.size, 31, #[.slice A5 n c5, .slice B5 m e5, .int .i64 l]), (w5.heap.size, 27, #[.int .u64 (q.gen : Nat), .int .i64 q.at_, .int .i64 q.len, .int .i64 q.long, .int .u32 (q.sum : Nat), .int .u64 (q.next : Nat)]), (w6.heap.size, 27, #[.int .u64 (q.gen : Nat), .int .i64 q.at_, .int .i64 q.len, .int .i64 q.long, .int .u32 (q.sum : Nat), .int .u64 (q.next : Nat)])] [(0, w2.heap.size, .agg #[.slice A5 n c5, .slice B5 m e5, .int .i64 l], d)] [(0, w3.heap.size, .slice A6 O.length c6, O), (0, w4.heap.size, .slice A7 O.length c7, O)] := Y6.newB (w6.heap.size) rfl 27 #[.int .u64 (q.gen : Nat), .int .i64 q.at_, .int .i64 q.len, .int .i64 q.long, .int .u32 (q.sum : Nat), .int .u64 (q.next : Nat)]
       have X7 := hide Y6b
       clear X6 b6 Y6 Y6b)
    | (have _t := tk7; clear tk7 _t; go_at_call 15; refine (unhide hS1 _ (unhide X7).bl).mono ?_; rintro e w7 ⟨A8, c8, B8, e8, rfl, x8, b7⟩
       have Y7 : Gx w w7 [(w.heap.size, 27, #[.int .u64 (r.gen : Nat), .int .i64 r.at_, .int .i64 r.len, .int .i64 r.long, .int .u32 (r.sum : Nat), .int .u64 (r.next : Nat)]), (w.heap.size + 1, 31, #[.slice A n c, .slice A' m c', .int .i64 l]), (w2.heap.size, 31, #[.slice A5 n c5, .slice B5 m e5, .int .i64 l]), (w5.heap.size, 27, #[.int .u64 (q.gen : Nat), .int .i64 q.at_, .int .i64 q.len, .int .i64 q.long, .int .u32 (q.sum : Nat), .int .u64 (q.next : Nat)]), (w6.heap.size, 27, #[.int .u64 (q.gen : Nat), .int .i64 q.at_, .int .i64 q.len, .int .i64 q.long, .int .u32 (q.sum : Nat), .int .u64 (q.next : Nat)])] [(0, w2.heap.size, .agg #[.slice A5 n c5, .slice B5 m e5, .int .i64 l], d)] [(0, w3.heap.size, .slice A6 O.length c6, O), (0, w4.heap.size, .slice A7 O.length c7, O)] := (unhide X7).call b7
       have Y7d : Gx w w7 [(w.heap.size, 27, #[.int .u64 (r.gen : Nat), .int .i64 r.at_, .int .i64 r.len, .int .i64 r.long, .int .u32 (r.sum : Nat), .int .u64 (r.next : Nat)]), (w.heap.size + 1, 31, #[.slice A n c, .slice A' m c', .int .i64 l]), (w2.heap.size, 31, #[.slice A5 n c5, .slice B5 m e5, .int .i64 l]), (w5.heap.size, 27, #[.int .u64 (q.gen : Nat), .int .i64 q.at_, .int .i64 q.len, .int .i64 q.long, .int .u32 (q.sum : Nat), .int .u64 (q.next : Nat)]), (w6.heap.size, 27, #[.int .u64 (q.gen : Nat), .int .i64 q.at_, .int .i64 q.len, .int .i64 q.long, .int .u32 (q.sum : Nat), .int .u64 (q.next : Nat)])] [(0, w2.heap.size, .agg #[.slice A5 n c5, .slice B5 m e5, .int .i64 l], d), (0, w7.heap.size, .agg #[.slice A8 Wd.dry.length c8, .slice B8 Wd.wet.length e8, .int .i64 Wd.left], Wd)] [(0, w3.heap.size, .slice A6 O.length c6, O), (0, w4.heap.size, .slice A7 O.length c7, O)] := Y7.addD (x8.mono (Nat.zero_le _) (Nat.le_refl _))
       clear ca0_0 ca0_1 ca0_2 ca0_3 ca0_4 ca0_5 q0 ca1_0 ca1_1 ca1_2 q1 ca2_0 ca2_1 ca2_2 q2 ca3_0 ca3_1 ca3_2 ca3_3 ca3_4 ca3_5 q3
       obtain ⟨ca0_0, ca0_1, ca0_2, ca0_3, ca0_4, ca0_5⟩ := zk6 (Y7d.get 0 rfl)
       have q0 := (Y7d.get 0 rfl).lt
       obtain ⟨ca1_0, ca1_1, ca1_2⟩ := ck3 (Y7d.get 1 rfl)
       have q1 := (Y7d.get 1 rfl).lt
       obtain ⟨ca2_0, ca2_1, ca2_2⟩ := ck3 (Y7d.get 2 rfl)
       have q2 := (Y7d.get 2 rfl).lt
       obtain ⟨ca3_0, ca3_1, ca3_2, ca3_3, ca3_4, ca3_5⟩ := zk6 (Y7d.get 3 rfl)
       have q3 := (Y7d.get 3 rfl).lt
       obtain ⟨ca4_0, ca4_1, ca4_2, ca4_3, ca4_4, ca4_5⟩ := zk6 (Y7d.get 4 rfl)
       have q4 := (Y7d.get 4 rfl).lt
       have Y7db : Gx w (w7.alloc (.cells #[.slice A8 Wd.dry.length c8, .slice B8 Wd.wet.length e8, .int .i64 Wd.left] 31)) [(w.heap.size, 27, #[.int .u64 (r.gen : Nat), .int .i64 r.at_, .int .i64 r.len, .int .i64 r.long, .int .u32 (r.sum : Nat), .int .u64 (r.next : Nat)]), (w.heap.size + 1, 31, #[.slice A n c, .slice A' m c', .int .i64 l]), (w2.heap.size, 31, #[.slice A5 n c5, .slice B5 m e5, .int .i64 l]), (w5.heap.size, 27, #[.int .u64 (q.gen : Nat), .int .i64 q.at_, .int .i64 q.len, .int .i64 q.long, .int .u32 (q.sum : Nat), .int .u64 (q.next : Nat)]), (w6.heap.size, 27, #[.int .u64 (q.gen : Nat), .int .i64 q.at_, .int .i64 q.len, .int .i64 q.long, .int .u32 (q.sum : Nat), .int .u64 (q.next : Nat)]), (w7.heap.size, 31, #[.slice A8 Wd.dry.length c8, .slice B8 Wd.wet.length e8, .int .i64 Wd.left])] [(0, w2.heap.size, .agg #[.slice A5 n c5, .slice B5 m e5, .int .i64 l], d), (0, w7.heap.size, .agg #[.slice A8 Wd.dry.length c8, .slice B8 Wd.wet.length e8, .int .i64 Wd.left], Wd)] [(0, w3.heap.size, .slice A6 O.length c6, O), (0, w4.heap.size, .slice A7 O.length c7, O)] := Y7d.newB (w7.heap.size) rfl 31 #[.slice A8 Wd.dry.length c8, .slice B8 Wd.wet.length e8, .int .i64 Wd.left]
       have X8 := hide Y7db
       clear X7 b7 Y7 Y7d Y7db)
    | (have _t := tk8; clear tk8 _t; go_at_call 16; refine (unhide hS2 _ (unhide X8).bl).mono ?_; rintro e w8 ⟨A9, c9, B9, e9, rfl, x9, b8⟩
       have Y8 : Gx w w8 [(w.heap.size, 27, #[.int .u64 (r.gen : Nat), .int .i64 r.at_, .int .i64 r.len, .int .i64 r.long, .int .u32 (r.sum : Nat), .int .u64 (r.next : Nat)]), (w.heap.size + 1, 31, #[.slice A n c, .slice A' m c', .int .i64 l]), (w2.heap.size, 31, #[.slice A5 n c5, .slice B5 m e5, .int .i64 l]), (w5.heap.size, 27, #[.int .u64 (q.gen : Nat), .int .i64 q.at_, .int .i64 q.len, .int .i64 q.long, .int .u32 (q.sum : Nat), .int .u64 (q.next : Nat)]), (w6.heap.size, 27, #[.int .u64 (q.gen : Nat), .int .i64 q.at_, .int .i64 q.len, .int .i64 q.long, .int .u32 (q.sum : Nat), .int .u64 (q.next : Nat)]), (w7.heap.size, 31, #[.slice A8 Wd.dry.length c8, .slice B8 Wd.wet.length e8, .int .i64 Wd.left])] [(0, w2.heap.size, .agg #[.slice A5 n c5, .slice B5 m e5, .int .i64 l], d), (0, w7.heap.size, .agg #[.slice A8 Wd.dry.length c8, .slice B8 Wd.wet.length e8, .int .i64 Wd.left], Wd)] [(0, w3.heap.size, .slice A6 O.length c6, O), (0, w4.heap.size, .slice A7 O.length c7, O)] := (unhide X8).call b8
       have Y8d : Gx w w8 [(w.heap.size, 27, #[.int .u64 (r.gen : Nat), .int .i64 r.at_, .int .i64 r.len, .int .i64 r.long, .int .u32 (r.sum : Nat), .int .u64 (r.next : Nat)]), (w.heap.size + 1, 31, #[.slice A n c, .slice A' m c', .int .i64 l]), (w2.heap.size, 31, #[.slice A5 n c5, .slice B5 m e5, .int .i64 l]), (w5.heap.size, 27, #[.int .u64 (q.gen : Nat), .int .i64 q.at_, .int .i64 q.len, .int .i64 q.long, .int .u32 (q.sum : Nat), .int .u64 (q.next : Nat)]), (w6.heap.size, 27, #[.int .u64 (q.gen : Nat), .int .i64 q.at_, .int .i64 q.len, .int .i64 q.long, .int .u32 (q.sum : Nat), .int .u64 (q.next : Nat)]), (w7.heap.size, 31, #[.slice A8 Wd.dry.length c8, .slice B8 Wd.wet.length e8, .int .i64 Wd.left])] [(0, w2.heap.size, .agg #[.slice A5 n c5, .slice B5 m e5, .int .i64 l], d), (0, w7.heap.size, .agg #[.slice A8 Wd.dry.length c8, .slice B8 Wd.wet.length e8, .int .i64 Wd.left], Wd), (0, w8.heap.size, .agg #[.slice A9 Wd.dry.length c9, .slice B9 Wd.wet.length e9, .int .i64 Wd.left], Wd)] [(0, w3.heap.size, .slice A6 O.length c6, O), (0, w4.heap.size, .slice A7 O.length c7, O)] := Y8.addD (x9.mono (Nat.zero_le _) (Nat.le_refl _))
       clear ca0_0 ca0_1 ca0_2 ca0_3 ca0_4 ca0_5 q0 ca1_0 ca1_1 ca1_2 q1 ca2_0 ca2_1 ca2_2 q2 ca3_0 ca3_1 ca3_2 ca3_3 ca3_4 ca3_5 q3 ca4_0 ca4_1 ca4_2 ca4_3 ca4_4 ca4_5 q4
       obtain ⟨ca0_0, ca0_1, ca0_2, ca0_3, ca0_4, ca0_5⟩ := zk6 (Y8d.get 0 rfl)
       have q0 := (Y8d.get 0 rfl).lt
       obtain ⟨ca1_0, ca1_1, ca1_2⟩ := ck3 (Y8d.get 1 rfl)
       have q1 := (Y8d.get 1 rfl).lt
       obtain ⟨ca2_0, ca2_1, ca2_2⟩ := ck3 (Y8d.get 2 rfl)
       have q2 := (Y8d.get 2 rfl).lt
       obtain ⟨ca3_0, ca3_1, ca3_2, ca3_3, ca3_4, ca3_5⟩ := zk6 (Y8d.get 3 rfl)
       have q3 := (Y8d.get 3 rfl).lt
       obtain ⟨ca4_0, ca4_1, ca4_2, ca4_3, ca4_4, ca4_5⟩ := zk6 (Y8d.get 4 rfl)
       have q4 := (Y8d.get 4 rfl).lt
       obtain ⟨ca5_0, ca5_1, ca5_2⟩ := ck3 (Y8d.get 5 rfl)
       have q5 := (Y8d.get 5 rfl).lt
       have Y8db : Gx w (w8.alloc (.cells #[.slice A9 Wd.dry.length c9, .slice B9 Wd.wet.length e9, .int .i64 Wd.left] 31)) [(w.heap.size, 27, #[.int .u64 (r.gen : Nat), .int .i64 r.at_, .int .i64 r.len, .int .i64 r.long, .int .u32 (r.sum : Nat), .int .u64 (r.next : Nat)]), (w.heap.size + 1, 31, #[.slice A n c, .slice A' m c', .int .i64 l]), (w2.heap.size, 31, #[.slice A5 n c5, .slice B5 m e5, .int .i64 l]), (w5.heap.size, 27, #[.int .u64 (q.gen : Nat), .int .i64 q.at_, .int .i64 q.len, .int .i64 q.long, .int .u32 (q.sum : Nat), .int .u64 (q.next : Nat)]), (w6.heap.size, 27, #[.int .u64 (q.gen : Nat), .int .i64 q.at_, .int .i64 q.len, .int .i64 q.long, .int .u32 (q.sum : Nat), .int .u64 (q.next : Nat)]), (w7.heap.size, 31, #[.slice A8 Wd.dry.length c8, .slice B8 Wd.wet.length e8, .int .i64 Wd.left]), (w8.heap.size, 31, #[.slice A9 Wd.dry.length c9, .slice B9 Wd.wet.length e9, .int .i64 Wd.left])] [(0, w2.heap.size, .agg #[.slice A5 n c5, .slice B5 m e5, .int .i64 l], d), (0, w7.heap.size, .agg #[.slice A8 Wd.dry.length c8, .slice B8 Wd.wet.length e8, .int .i64 Wd.left], Wd), (0, w8.heap.size, .agg #[.slice A9 Wd.dry.length c9, .slice B9 Wd.wet.length e9, .int .i64 Wd.left], Wd)] [(0, w3.heap.size, .slice A6 O.length c6, O), (0, w4.heap.size, .slice A7 O.length c7, O)] := Y8d.newB (w8.heap.size) rfl 31 #[.slice A9 Wd.dry.length c9, .slice B9 Wd.wet.length e9, .int .i64 Wd.left]
       have X9 := hide Y8db
       clear X8 b8 Y8 Y8d Y8db)
    | (have _t := tk9; clear tk9 _t; go_at_call 17; refine (unhide hF1 _ (unhide X9).bl).mono ?_; rintro e w9 ⟨rfl, b9⟩
       have Y9 : Gx w w9 [(w.heap.size, 27, #[.int .u64 (r.gen : Nat), .int .i64 r.at_, .int .i64 r.len, .int .i64 r.long, .int .u32 (r.sum : Nat), .int .u64 (r.next : Nat)]), (w.heap.size + 1, 31, #[.slice A n c, .slice A' m c', .int .i64 l]), (w2.heap.size, 31, #[.slice A5 n c5, .slice B5 m e5, .int .i64 l]), (w5.heap.size, 27, #[.int .u64 (q.gen : Nat), .int .i64 q.at_, .int .i64 q.len, .int .i64 q.long, .int .u32 (q.sum : Nat), .int .u64 (q.next : Nat)]), (w6.heap.size, 27, #[.int .u64 (q.gen : Nat), .int .i64 q.at_, .int .i64 q.len, .int .i64 q.long, .int .u32 (q.sum : Nat), .int .u64 (q.next : Nat)]), (w7.heap.size, 31, #[.slice A8 Wd.dry.length c8, .slice B8 Wd.wet.length e8, .int .i64 Wd.left]), (w8.heap.size, 31, #[.slice A9 Wd.dry.length c9, .slice B9 Wd.wet.length e9, .int .i64 Wd.left])] [(0, w2.heap.size, .agg #[.slice A5 n c5, .slice B5 m e5, .int .i64 l], d), (0, w7.heap.size, .agg #[.slice A8 Wd.dry.length c8, .slice B8 Wd.wet.length e8, .int .i64 Wd.left], Wd), (0, w8.heap.size, .agg #[.slice A9 Wd.dry.length c9, .slice B9 Wd.wet.length e9, .int .i64 Wd.left], Wd)] [(0, w3.heap.size, .slice A6 O.length c6, O), (0, w4.heap.size, .slice A7 O.length c7, O)] := (unhide X9).call b9
       clear ca0_0 ca0_1 ca0_2 ca0_3 ca0_4 ca0_5 q0 ca1_0 ca1_1 ca1_2 q1 ca2_0 ca2_1 ca2_2 q2 ca3_0 ca3_1 ca3_2 ca3_3 ca3_4 ca3_5 q3 ca4_0 ca4_1 ca4_2 ca4_3 ca4_4 ca4_5 q4 ca5_0 ca5_1 ca5_2 q5
       obtain ⟨ca0_0, ca0_1, ca0_2, ca0_3, ca0_4, ca0_5⟩ := zk6 (Y9.get 0 rfl)
       have q0 := (Y9.get 0 rfl).lt
       obtain ⟨ca1_0, ca1_1, ca1_2⟩ := ck3 (Y9.get 1 rfl)
       have q1 := (Y9.get 1 rfl).lt
       obtain ⟨ca2_0, ca2_1, ca2_2⟩ := ck3 (Y9.get 2 rfl)
       have q2 := (Y9.get 2 rfl).lt
       obtain ⟨ca3_0, ca3_1, ca3_2, ca3_3, ca3_4, ca3_5⟩ := zk6 (Y9.get 3 rfl)
       have q3 := (Y9.get 3 rfl).lt
       obtain ⟨ca4_0, ca4_1, ca4_2, ca4_3, ca4_4, ca4_5⟩ := zk6 (Y9.get 4 rfl)
       have q4 := (Y9.get 4 rfl).lt
       obtain ⟨ca5_0, ca5_1, ca5_2⟩ := ck3 (Y9.get 5 rfl)
       have q5 := (Y9.get 5 rfl).lt
       obtain ⟨ca6_0, ca6_1, ca6_2⟩ := ck3 (Y9.get 6 rfl)
       have q6 := (Y9.get 6 rfl).lt
       have Y9b : Gx w (w9.alloc (.cells #[.int .u64 (p.gen : Nat), .int .i64 p.at_, .int .i64 p.len, .int .i64 p.long, .int .u32 (p.sum : Nat), .int .u64 (p.next : Nat)] 27)) [(w.heap.size, 27, #[.int .u64 (r.gen : Nat), .int .i64 r.at_, .int .i64 r.len, .int .i64 r.long, .int .u32 (r.sum : Nat), .int .u64 (r.next : Nat)]), (w.heap.size + 1, 31, #[.slice A n c, .slice A' m c', .int .i64 l]), (w2.heap.size, 31, #[.slice A5 n c5, .slice B5 m e5, .int .i64 l]), (w5.heap.size, 27, #[.int .u64 (q.gen : Nat), .int .i64 q.at_, .int .i64 q.len, .int .i64 q.long, .int .u32 (q.sum : Nat), .int .u64 (q.next : Nat)]), (w6.heap.size, 27, #[.int .u64 (q.gen : Nat), .int .i64 q.at_, .int .i64 q.len, .int .i64 q.long, .int .u32 (q.sum : Nat), .int .u64 (q.next : Nat)]), (w7.heap.size, 31, #[.slice A8 Wd.dry.length c8, .slice B8 Wd.wet.length e8, .int .i64 Wd.left]), (w8.heap.size, 31, #[.slice A9 Wd.dry.length c9, .slice B9 Wd.wet.length e9, .int .i64 Wd.left]), (w9.heap.size, 27, #[.int .u64 (p.gen : Nat), .int .i64 p.at_, .int .i64 p.len, .int .i64 p.long, .int .u32 (p.sum : Nat), .int .u64 (p.next : Nat)])] [(0, w2.heap.size, .agg #[.slice A5 n c5, .slice B5 m e5, .int .i64 l], d), (0, w7.heap.size, .agg #[.slice A8 Wd.dry.length c8, .slice B8 Wd.wet.length e8, .int .i64 Wd.left], Wd), (0, w8.heap.size, .agg #[.slice A9 Wd.dry.length c9, .slice B9 Wd.wet.length e9, .int .i64 Wd.left], Wd)] [(0, w3.heap.size, .slice A6 O.length c6, O), (0, w4.heap.size, .slice A7 O.length c7, O)] := Y9.newB (w9.heap.size) rfl 27 #[.int .u64 (p.gen : Nat), .int .i64 p.at_, .int .i64 p.len, .int .i64 p.long, .int .u32 (p.sum : Nat), .int .u64 (p.next : Nat)]
       have X10 := hide Y9b
       clear X9 b9 Y9 Y9b)
    | (have _t := tk10; clear tk10 _t; go_at_call 18; refine (unhide hF2 _ (unhide X10).bl).mono ?_; rintro e w10 ⟨rfl, b10⟩
       have Y10 : Gx w w10 [(w.heap.size, 27, #[.int .u64 (r.gen : Nat), .int .i64 r.at_, .int .i64 r.len, .int .i64 r.long, .int .u32 (r.sum : Nat), .int .u64 (r.next : Nat)]), (w.heap.size + 1, 31, #[.slice A n c, .slice A' m c', .int .i64 l]), (w2.heap.size, 31, #[.slice A5 n c5, .slice B5 m e5, .int .i64 l]), (w5.heap.size, 27, #[.int .u64 (q.gen : Nat), .int .i64 q.at_, .int .i64 q.len, .int .i64 q.long, .int .u32 (q.sum : Nat), .int .u64 (q.next : Nat)]), (w6.heap.size, 27, #[.int .u64 (q.gen : Nat), .int .i64 q.at_, .int .i64 q.len, .int .i64 q.long, .int .u32 (q.sum : Nat), .int .u64 (q.next : Nat)]), (w7.heap.size, 31, #[.slice A8 Wd.dry.length c8, .slice B8 Wd.wet.length e8, .int .i64 Wd.left]), (w8.heap.size, 31, #[.slice A9 Wd.dry.length c9, .slice B9 Wd.wet.length e9, .int .i64 Wd.left]), (w9.heap.size, 27, #[.int .u64 (p.gen : Nat), .int .i64 p.at_, .int .i64 p.len, .int .i64 p.long, .int .u32 (p.sum : Nat), .int .u64 (p.next : Nat)])] [(0, w2.heap.size, .agg #[.slice A5 n c5, .slice B5 m e5, .int .i64 l], d), (0, w7.heap.size, .agg #[.slice A8 Wd.dry.length c8, .slice B8 Wd.wet.length e8, .int .i64 Wd.left], Wd), (0, w8.heap.size, .agg #[.slice A9 Wd.dry.length c9, .slice B9 Wd.wet.length e9, .int .i64 Wd.left], Wd)] [(0, w3.heap.size, .slice A6 O.length c6, O), (0, w4.heap.size, .slice A7 O.length c7, O)] := (unhide X10).call b10
       clear ca0_0 ca0_1 ca0_2 ca0_3 ca0_4 ca0_5 q0 ca1_0 ca1_1 ca1_2 q1 ca2_0 ca2_1 ca2_2 q2 ca3_0 ca3_1 ca3_2 ca3_3 ca3_4 ca3_5 q3 ca4_0 ca4_1 ca4_2 ca4_3 ca4_4 ca4_5 q4 ca5_0 ca5_1 ca5_2 q5 ca6_0 ca6_1 ca6_2 q6
       obtain ⟨ca0_0, ca0_1, ca0_2, ca0_3, ca0_4, ca0_5⟩ := zk6 (Y10.get 0 rfl)
       have q0 := (Y10.get 0 rfl).lt
       obtain ⟨ca1_0, ca1_1, ca1_2⟩ := ck3 (Y10.get 1 rfl)
       have q1 := (Y10.get 1 rfl).lt
       obtain ⟨ca2_0, ca2_1, ca2_2⟩ := ck3 (Y10.get 2 rfl)
       have q2 := (Y10.get 2 rfl).lt
       obtain ⟨ca3_0, ca3_1, ca3_2, ca3_3, ca3_4, ca3_5⟩ := zk6 (Y10.get 3 rfl)
       have q3 := (Y10.get 3 rfl).lt
       obtain ⟨ca4_0, ca4_1, ca4_2, ca4_3, ca4_4, ca4_5⟩ := zk6 (Y10.get 4 rfl)
       have q4 := (Y10.get 4 rfl).lt
       obtain ⟨ca5_0, ca5_1, ca5_2⟩ := ck3 (Y10.get 5 rfl)
       have q5 := (Y10.get 5 rfl).lt
       obtain ⟨ca6_0, ca6_1, ca6_2⟩ := ck3 (Y10.get 6 rfl)
       have q6 := (Y10.get 6 rfl).lt
       obtain ⟨ca7_0, ca7_1, ca7_2, ca7_3, ca7_4, ca7_5⟩ := zk6 (Y10.get 7 rfl)
       have q7 := (Y10.get 7 rfl).lt
       have Y10b : Gx w (w10.alloc (.cells #[.int .u64 (p.gen : Nat), .int .i64 p.at_, .int .i64 p.len, .int .i64 p.long, .int .u32 (p.sum : Nat), .int .u64 (p.next : Nat)] 27)) [(w.heap.size, 27, #[.int .u64 (r.gen : Nat), .int .i64 r.at_, .int .i64 r.len, .int .i64 r.long, .int .u32 (r.sum : Nat), .int .u64 (r.next : Nat)]), (w.heap.size + 1, 31, #[.slice A n c, .slice A' m c', .int .i64 l]), (w2.heap.size, 31, #[.slice A5 n c5, .slice B5 m e5, .int .i64 l]), (w5.heap.size, 27, #[.int .u64 (q.gen : Nat), .int .i64 q.at_, .int .i64 q.len, .int .i64 q.long, .int .u32 (q.sum : Nat), .int .u64 (q.next : Nat)]), (w6.heap.size, 27, #[.int .u64 (q.gen : Nat), .int .i64 q.at_, .int .i64 q.len, .int .i64 q.long, .int .u32 (q.sum : Nat), .int .u64 (q.next : Nat)]), (w7.heap.size, 31, #[.slice A8 Wd.dry.length c8, .slice B8 Wd.wet.length e8, .int .i64 Wd.left]), (w8.heap.size, 31, #[.slice A9 Wd.dry.length c9, .slice B9 Wd.wet.length e9, .int .i64 Wd.left]), (w9.heap.size, 27, #[.int .u64 (p.gen : Nat), .int .i64 p.at_, .int .i64 p.len, .int .i64 p.long, .int .u32 (p.sum : Nat), .int .u64 (p.next : Nat)]), (w10.heap.size, 27, #[.int .u64 (p.gen : Nat), .int .i64 p.at_, .int .i64 p.len, .int .i64 p.long, .int .u32 (p.sum : Nat), .int .u64 (p.next : Nat)])] [(0, w2.heap.size, .agg #[.slice A5 n c5, .slice B5 m e5, .int .i64 l], d), (0, w7.heap.size, .agg #[.slice A8 Wd.dry.length c8, .slice B8 Wd.wet.length e8, .int .i64 Wd.left], Wd), (0, w8.heap.size, .agg #[.slice A9 Wd.dry.length c9, .slice B9 Wd.wet.length e9, .int .i64 Wd.left], Wd)] [(0, w3.heap.size, .slice A6 O.length c6, O), (0, w4.heap.size, .slice A7 O.length c7, O)] := Y10.newB (w10.heap.size) rfl 27 #[.int .u64 (p.gen : Nat), .int .i64 p.at_, .int .i64 p.len, .int .i64 p.long, .int .u32 (p.sum : Nat), .int .u64 (p.next : Nat)]
       have X11 := hide Y10b
       clear X10 b10 Y10 Y10b)
    | fail)
  have Y0 := unhide X11
  clear X11 ca0_0 ca0_1 ca0_2 ca0_3 ca0_4 ca0_5 q0 ca1_0 ca1_1 ca1_2 q1 ca2_0 ca2_1 ca2_2 q2 ca3_0 ca3_1 ca3_2 ca3_3 ca3_4 ca3_5 q3 ca4_0 ca4_1 ca4_2 ca4_3 ca4_4 ca4_5 q4 ca5_0 ca5_1 ca5_2 q5 ca6_0 ca6_1 ca6_2 q6 ca7_0 ca7_1 ca7_2 ca7_3 ca7_4 ca7_5 q7
  generalize (w10.alloc (.cells #[.int .u64 (p.gen : Nat), .int .i64 p.at_, .int .i64 p.len, .int .i64 p.long, .int .u32 (p.sum : Nat), .int .u64 (p.next : Nat)] 27)) = V at *
  have hsb := fun y : Lat V => sameb_self _ _ O y.W ((Y0.rd 0 rfl).grow y.h) ((Y0.rd 1 rfl).grow y.h)
  have hsw := fun y : Lat V => same_self _ _ Wd y.W ((Y0.dr 1 rfl).grow y.h) ((Y0.dr 2 rfl).grow y.h)
  have hso := fun y : Lat V => unhide hsd _ y.W (Y0.bl.trans (y.h.mono Y0.bl.size)) ((Y0.dr 0 rfl).grow y.h)
  have hk1 := fun y : Lat V => unhide hK1 y.W (Y0.bl.trans (y.h.mono Y0.bl.size))
  have hk2 := fun y : Lat V => unhide hK2 y.W (Y0.bl.trans (y.h.mono Y0.bl.size))
  obtain ⟨u0_0, u0_1, u0_2, u0_3, u0_4, u0_5⟩ := lat6 (Y0.get 0 rfl)
  obtain ⟨u1_0, u1_1, u1_2⟩ := lat3 (Y0.get 1 rfl)
  obtain ⟨u2_0, u2_1, u2_2⟩ := lat3 (Y0.get 2 rfl)
  obtain ⟨u3_0, u3_1, u3_2, u3_3, u3_4, u3_5⟩ := lat6 (Y0.get 3 rfl)
  obtain ⟨u4_0, u4_1, u4_2, u4_3, u4_4, u4_5⟩ := lat6 (Y0.get 4 rfl)
  obtain ⟨u5_0, u5_1, u5_2⟩ := lat3 (Y0.get 5 rfl)
  obtain ⟨u6_0, u6_1, u6_2⟩ := lat3 (Y0.get 6 rfl)
  obtain ⟨u7_0, u7_1, u7_2, u7_3, u7_4, u7_5⟩ := lat6 (Y0.get 7 rfl)
  obtain ⟨u8_0, u8_1, u8_2, u8_3, u8_4, u8_5⟩ := lat6 (Y0.get 8 rfl)
  have hB0 := Y0.bl
  clear Y0
  replace hsb := hide hsb; replace hsw := hide hsw; replace hso := hide hso; replace hk1 := hide hk1; replace hk2 := hide hk2; replace hB0 := hide hB0
  clear hsd hK1 hK2
  refine wp_region_lat (by kernel_rfl) (by kernel_rfl) ?_
  repeat (go_big_quiet_step (first
    | (rename_i y; go_at_call 19; with_reducible exact Calls.lat_of (p := y) (unhide hsb y))
    | (rename_i y; go_at_call 20; with_reducible exact Calls.lat_of (p := y) (unhide hsw y))
    | (rename_i y; go_at_call 20; with_reducible exact Calls.lat_of (p := y) (unhide hso y))
    | (rename_i y; go_at_call 21; with_reducible exact Calls.lat_of (p := y) (unhide hk1 y))
    | (rename_i y; go_at_call 22; with_reducible exact Calls.lat_of (p := y) (unhide hk2 y))))
  refine wpQuiet_nil ?_
  rintro _ ⟨⟨W1, B1⟩, rfl⟩
  go_wp2
  go_ret
  exact ⟨ret_b rfl (by simp), (unhide hB0).trans (B1.mono (unhide hB0).size)⟩
end
theorem does_law (r : Rt) (hT : OkT r) (A3 : Option Addr) (c3 : Nat) (b : List UInt8) (A A' : Option Addr) (c c' : Nat) (d : Dk) (w : World) (ht : Tab w) (hb : Bs 0 w.heap.size w (.slice A3 b.length c3) b) (h : Dsk 0 w.heap.size w (.agg #[.slice A d.dry.length c, .slice A' d.wet.length c', .int .i64 d.left]) d) :
    Calls Tryd.prog 3 #[(.agg #[.int .u64 (r.gen : Nat), .int .i64 r.at_, .int .i64 r.len, .int .i64 r.long, .int .u32 (r.sum : Nat), .int .u64 (r.next : Nat)]), .slice A3 b.length c3, .agg #[.slice A d.dry.length c, .slice A' d.wet.length c', .int .i64 d.left]] w fun e w' => e = .returned (.bool true) ∧ Below w.heap.size w w' := by
  by_cases hn : 100 < b.length
  · exact does_long r A3 c3 b A A' c c' d w ht hn
  · cases hw : fewB d with
    | false => exact does_few r A3 c3 b A A' c c' d w ht h hw (by omega)
    | true => exact does_main r hT A3 c3 b A A' c c' d w ht hb h hw (by omega)
end Go.Proofs.YtommlgdolahfbaaDoor
