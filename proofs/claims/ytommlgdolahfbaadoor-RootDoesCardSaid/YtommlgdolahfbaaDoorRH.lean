import Derived.Test.YtommlgdolahfbaaDoorRG
namespace Go.Proofs.YtommlgdolahfbaaDoor
set_option maxRecDepth 100000
open Go.RowKit

abbrev zD : Array Value := #[.slice none 0 0, .slice none 0 0, .int .i64 0]
/-- What Write answers. -/
def wrR (d : Dk) (r : Rt) : Dk × Int :=
  if rOk r && holdB d then (if (wrD d ((r.gen % 2 : Nat) : Int) (octs r)).2 = 0 then synD (wrD d ((r.gen % 2 : Nat) : Int) (octs r)).1 else (noDk, (wrD d ((r.gen % 2 : Nat) : Int) (octs r)).2)) else (noDk, 1)
theorem wrPg_len (ps : List Pg) (at_ : Int) (b : List UInt8) : (wrPg ps at_ b).length ≤ 2 * ps.length + 1 := by
  unfold wrPg
  have h1 := List.length_filter_le (fun p : Pg => decide (p.at_ < at_)) ps
  have h2 := List.length_filter_le (fun p : Pg => decide (at_ < p.at_)) ps
  simp only [List.length_append, List.length_cons]
  omega
theorem wrD_len (d : Dk) (at_ : Int) (b : List UInt8) (hL : d.dry.length ≤ 1000000) (hW : d.wet.length ≤ 400) : (wrD d at_ b).1.dry.length ≤ 1000000 ∧ (wrD d at_ b).1.wet.length ≤ 1000 := by
  unfold wrD
  split
  · split
    · exact ⟨by simp [noDk], by simp [noDk]⟩
    · have := wrPg_len d.wet at_ b; exact ⟨hL, by show (wrPg d.wet at_ b).length ≤ 1000; omega⟩
  · exact ⟨by simp [noDk], by simp [noDk]⟩
theorem noDk_dsk' (lo hi : Nat) (w : World) : Dsk lo hi w (.agg zD) noDk := noDk_dsk lo hi w

set_option maxHeartbeats 4000000 in
theorem Write_form (lo : Nat) (v : Value) (d : Dk) (r : Rt) (w : World) (ht : Tab w) (hT : OkT r) (h : Dsk lo w.heap.size w v d) (hr : rOk r = false) :
    Calls Tryd.prog 15 #[v, (.agg #[.int .u64 (r.gen : Nat), .int .i64 r.at_, .int .i64 r.len, .int .i64 r.long, .int .u32 (r.sum : Nat), .int .u64 (r.next : Nat)])] w fun e w' => e = .returned (.tuple #[.agg zD, .int .i64 1]) ∧ Below w.heap.size w w' := by
  have hO := fun W (hB : Below w.heap.size w W) => Octets_any r hT W (ht.below hB (Nat.le_refl _))
  rw [hr, show badE false = 1 from rfl] at hO
  simp only [Bool.false_eq_true, if_false] at hO
  obtain ⟨A, c, A', c', rfl⟩ := h.form
  clear h hr ht hT
  generalize d.dry.length = n at *
  generalize d.wet.length = m at *
  generalize d.left = l at *
  have X0 : Gx w (((w.alloc (.cells #[.slice A n c, .slice A' m c', .int .i64 l] 31)).alloc (.cells #[.int .u64 (r.gen : Nat), .int .i64 r.at_, .int .i64 r.len, .int .i64 r.long, .int .u32 (r.sum : Nat), .int .u64 (r.next : Nat)] 27)).alloc (.cells zD 31)) [(w.heap.size, 31, #[.slice A n c, .slice A' m c', .int .i64 l]), (w.heap.size + 1, 27, #[.int .u64 (r.gen : Nat), .int .i64 r.at_, .int .i64 r.len, .int .i64 r.long, .int .u32 (r.sum : Nat), .int .u64 (r.next : Nat)]), (w.heap.size + 2, 31, zD)] [] [] := (((Gx.nil w).newB w.heap.size rfl 31 #[.slice A n c, .slice A' m c', .int .i64 l]).newB (w.heap.size + 1) (by simp) 27 #[.int .u64 (r.gen : Nat), .int .i64 r.at_, .int .i64 r.len, .int .i64 r.long, .int .u32 (r.sum : Nat), .int .u64 (r.next : Nat)]).newB (w.heap.size + 2) (by simp) 31 zD
  replace X0 := hide X0; replace hO := hide hO
  go_enter Tryd.func15, Tryd.ntmps15
  go_upto_region 1 with (fail)
  generalize hW : World.alloc (World.alloc (World.alloc w _) _) _ = W at *
  clear hW
  have a0 : W.cell? ⟨w.heap.size, 0, none⟩ = some (.slice A n c) := ((unhide X0).get 0 rfl).cell 0
  have a1 : W.cell? ⟨w.heap.size, 1, none⟩ = some (.slice A' m c') := ((unhide X0).get 0 rfl).cell 1
  have a2 : W.cell? ⟨w.heap.size, 2, none⟩ = some (.int .i64 l) := ((unhide X0).get 0 rfl).cell 2
  have b0 : W.cell? ⟨w.heap.size + 1, 0, none⟩ = some (.int .u64 (r.gen : Nat)) := ((unhide X0).get 1 rfl).cell 0
  have b1 : W.cell? ⟨w.heap.size + 1, 1, none⟩ = some (.int .i64 r.at_) := ((unhide X0).get 1 rfl).cell 1
  have b2 : W.cell? ⟨w.heap.size + 1, 2, none⟩ = some (.int .i64 r.len) := ((unhide X0).get 1 rfl).cell 2
  have b3 : W.cell? ⟨w.heap.size + 1, 3, none⟩ = some (.int .i64 r.long) := ((unhide X0).get 1 rfl).cell 3
  have b4 : W.cell? ⟨w.heap.size + 1, 4, none⟩ = some (.int .u32 (r.sum : Nat)) := ((unhide X0).get 1 rfl).cell 4
  have b5 : W.cell? ⟨w.heap.size + 1, 5, none⟩ = some (.int .u64 (r.next : Nat)) := ((unhide X0).get 1 rfl).cell 5
  have l0 : w.heap.size < W.heap.size := ((unhide X0).get 0 rfl).lt
  have l1 : w.heap.size + 1 < W.heap.size := ((unhide X0).get 1 rfl).lt
  have l2 : w.heap.size + 2 < W.heap.size := ((unhide X0).get 2 rfl).lt
  go_wp2_with (first
    | (go_at_call 11; refine (unhide hO _ (unhide X0).bl).mono ?_; rintro e w1 ⟨v1, rfl, x1, b1⟩
       obtain ⟨A1, c1, rfl, _⟩ := id x1
       have X1 : Gx w w1 [(w.heap.size, 31, #[.slice A n c, .slice A' m c', .int .i64 l]), (w.heap.size + 1, 27, #[.int .u64 (r.gen : Nat), .int .i64 r.at_, .int .i64 r.len, .int .i64 r.long, .int .u32 (r.sum : Nat), .int .u64 (r.next : Nat)]), (w.heap.size + 2, 31, zD)] [] [(W.heap.size, w1.heap.size, .slice A1 ([] : List UInt8).length c1, ([] : List UInt8))] := ((unhide X0).call b1).addZ x1
       have d0 : w1.cell? ⟨w.heap.size, 0, none⟩ = some (.slice A n c) := (X1.get 0 rfl).cell 0
       have d1 : w1.cell? ⟨w.heap.size, 1, none⟩ = some (.slice A' m c') := (X1.get 0 rfl).cell 1
       have d2 : w1.cell? ⟨w.heap.size, 2, none⟩ = some (.int .i64 l) := (X1.get 0 rfl).cell 2
       have e0 : w1.cell? ⟨w.heap.size + 1, 0, none⟩ = some (.int .u64 (r.gen : Nat)) := (X1.get 1 rfl).cell 0
       have e1 : w1.cell? ⟨w.heap.size + 1, 1, none⟩ = some (.int .i64 r.at_) := (X1.get 1 rfl).cell 1
       have e2 : w1.cell? ⟨w.heap.size + 1, 2, none⟩ = some (.int .i64 r.len) := (X1.get 1 rfl).cell 2
       have e3 : w1.cell? ⟨w.heap.size + 1, 3, none⟩ = some (.int .i64 r.long) := (X1.get 1 rfl).cell 3
       have e4 : w1.cell? ⟨w.heap.size + 1, 4, none⟩ = some (.int .u32 (r.sum : Nat)) := (X1.get 1 rfl).cell 4
       have e5 : w1.cell? ⟨w.heap.size + 1, 5, none⟩ = some (.int .u64 (r.next : Nat)) := (X1.get 1 rfl).cell 5
       have g0 : w1.frozen? ⟨w.heap.size + 2, 0, none⟩ = false := (X1.get 2 rfl).frozen 0
       have g1 : w1.frozen? ⟨w.heap.size + 2, 1, none⟩ = false := (X1.get 2 rfl).frozen 1
       have g2 : w1.frozen? ⟨w.heap.size + 2, 2, none⟩ = false := (X1.get 2 rfl).frozen 2
       have i0 : w1.cell? ⟨w.heap.size + 2, 0, none⟩ = some (.slice none 0 0) := (X1.get 2 rfl).cell 0
       have i1 : w1.cell? ⟨w.heap.size + 2, 1, none⟩ = some (.slice none 0 0) := (X1.get 2 rfl).cell 1
       have i2 : w1.cell? ⟨w.heap.size + 2, 2, none⟩ = some (.int .i64 0) := (X1.get 2 rfl).cell 2
       have m0 : w.heap.size < w1.heap.size := (X1.get 0 rfl).lt
       have m1 : w.heap.size + 1 < w1.heap.size := (X1.get 1 rfl).lt
       have m2 : w.heap.size + 2 < w1.heap.size := (X1.get 2 rfl).lt
       replace X1 := hide X1
       clear x1 X0 a0 a1 a2 b0 b1 b2 b3 b4 b5 l0 l1 l2)
    | fail)
  exact ret_disk2 rfl (w.heap.size + 2) zD rfl _ rfl rfl (Blk.set3 ((unhide X1).get 2 rfl)) rfl ⟨rfl, bl_set (bl_set (bl_set (unhide X1).bl (by omega) _ _) (by omega) _ _) (by omega) _ _⟩
set_option maxHeartbeats 4000000 in
theorem Write_none (lo : Nat) (v : Value) (d : Dk) (r : Rt) (w : World) (ht : Tab w) (hT : OkT r) (h : Dsk lo w.heap.size w v d) (hr : rOk r = true) (hd : holdB d = false) :
    Calls Tryd.prog 15 #[v, (.agg #[.int .u64 (r.gen : Nat), .int .i64 r.at_, .int .i64 r.len, .int .i64 r.long, .int .u32 (r.sum : Nat), .int .u64 (r.next : Nat)])] w fun e w' => e = .returned (.tuple #[.agg zD, .int .i64 1]) ∧ Below w.heap.size w w' := by
  have hO := fun W (hB : Below w.heap.size w W) => Octets_any r hT W (ht.below hB (Nat.le_refl _))
  rw [hr, show badE true = 0 from rfl] at hO
  simp only [if_true] at hO
  have hH := fun W (hB : Below w.heap.size w W) => holds_any lo v d W (h.grow hB)
  rw [hd] at hH
  obtain ⟨A, c, A', c', rfl⟩ := h.form
  clear h hr ht hT hd
  generalize d.dry.length = n at *
  generalize d.wet.length = m at *
  generalize d.left = l at *
  generalize octs r = z at *
  have X0 : Gx w (((w.alloc (.cells #[.slice A n c, .slice A' m c', .int .i64 l] 31)).alloc (.cells #[.int .u64 (r.gen : Nat), .int .i64 r.at_, .int .i64 r.len, .int .i64 r.long, .int .u32 (r.sum : Nat), .int .u64 (r.next : Nat)] 27)).alloc (.cells zD 31)) [(w.heap.size, 31, #[.slice A n c, .slice A' m c', .int .i64 l]), (w.heap.size + 1, 27, #[.int .u64 (r.gen : Nat), .int .i64 r.at_, .int .i64 r.len, .int .i64 r.long, .int .u32 (r.sum : Nat), .int .u64 (r.next : Nat)]), (w.heap.size + 2, 31, zD)] [] [] := (((Gx.nil w).newB w.heap.size rfl 31 #[.slice A n c, .slice A' m c', .int .i64 l]).newB (w.heap.size + 1) (by simp) 27 #[.int .u64 (r.gen : Nat), .int .i64 r.at_, .int .i64 r.len, .int .i64 r.long, .int .u32 (r.sum : Nat), .int .u64 (r.next : Nat)]).newB (w.heap.size + 2) (by simp) 31 zD
  replace X0 := hide X0; replace hO := hide hO; replace hH := hide hH
  go_enter Tryd.func15, Tryd.ntmps15
  go_upto_region 1 with (fail)
  generalize hW : World.alloc (World.alloc (World.alloc w _) _) _ = W at *
  clear hW
  have a0 : W.cell? ⟨w.heap.size, 0, none⟩ = some (.slice A n c) := ((unhide X0).get 0 rfl).cell 0
  have a1 : W.cell? ⟨w.heap.size, 1, none⟩ = some (.slice A' m c') := ((unhide X0).get 0 rfl).cell 1
  have a2 : W.cell? ⟨w.heap.size, 2, none⟩ = some (.int .i64 l) := ((unhide X0).get 0 rfl).cell 2
  have b0 : W.cell? ⟨w.heap.size + 1, 0, none⟩ = some (.int .u64 (r.gen : Nat)) := ((unhide X0).get 1 rfl).cell 0
  have b1 : W.cell? ⟨w.heap.size + 1, 1, none⟩ = some (.int .i64 r.at_) := ((unhide X0).get 1 rfl).cell 1
  have b2 : W.cell? ⟨w.heap.size + 1, 2, none⟩ = some (.int .i64 r.len) := ((unhide X0).get 1 rfl).cell 2
  have b3 : W.cell? ⟨w.heap.size + 1, 3, none⟩ = some (.int .i64 r.long) := ((unhide X0).get 1 rfl).cell 3
  have b4 : W.cell? ⟨w.heap.size + 1, 4, none⟩ = some (.int .u32 (r.sum : Nat)) := ((unhide X0).get 1 rfl).cell 4
  have b5 : W.cell? ⟨w.heap.size + 1, 5, none⟩ = some (.int .u64 (r.next : Nat)) := ((unhide X0).get 1 rfl).cell 5
  have l0 : w.heap.size < W.heap.size := ((unhide X0).get 0 rfl).lt
  have l1 : w.heap.size + 1 < W.heap.size := ((unhide X0).get 1 rfl).lt
  have l2 : w.heap.size + 2 < W.heap.size := ((unhide X0).get 2 rfl).lt
  go_wp2_with (first
    | (go_at_call 11; refine (unhide hO _ (unhide X0).bl).mono ?_; rintro e w1 ⟨v1, rfl, x1, b1⟩
       obtain ⟨A1, c1, rfl, _⟩ := id x1
       have X1 : Gx w w1 [(w.heap.size, 31, #[.slice A n c, .slice A' m c', .int .i64 l]), (w.heap.size + 1, 27, #[.int .u64 (r.gen : Nat), .int .i64 r.at_, .int .i64 r.len, .int .i64 r.long, .int .u32 (r.sum : Nat), .int .u64 (r.next : Nat)]), (w.heap.size + 2, 31, zD)] [] [(W.heap.size, w1.heap.size, .slice A1 z.length c1, z)] := ((unhide X0).call b1).addZ x1
       have d0 : w1.cell? ⟨w.heap.size, 0, none⟩ = some (.slice A n c) := (X1.get 0 rfl).cell 0
       have d1 : w1.cell? ⟨w.heap.size, 1, none⟩ = some (.slice A' m c') := (X1.get 0 rfl).cell 1
       have d2 : w1.cell? ⟨w.heap.size, 2, none⟩ = some (.int .i64 l) := (X1.get 0 rfl).cell 2
       have e0 : w1.cell? ⟨w.heap.size + 1, 0, none⟩ = some (.int .u64 (r.gen : Nat)) := (X1.get 1 rfl).cell 0
       have e1 : w1.cell? ⟨w.heap.size + 1, 1, none⟩ = some (.int .i64 r.at_) := (X1.get 1 rfl).cell 1
       have e2 : w1.cell? ⟨w.heap.size + 1, 2, none⟩ = some (.int .i64 r.len) := (X1.get 1 rfl).cell 2
       have e3 : w1.cell? ⟨w.heap.size + 1, 3, none⟩ = some (.int .i64 r.long) := (X1.get 1 rfl).cell 3
       have e4 : w1.cell? ⟨w.heap.size + 1, 4, none⟩ = some (.int .u32 (r.sum : Nat)) := (X1.get 1 rfl).cell 4
       have e5 : w1.cell? ⟨w.heap.size + 1, 5, none⟩ = some (.int .u64 (r.next : Nat)) := (X1.get 1 rfl).cell 5
       have g0 : w1.frozen? ⟨w.heap.size + 2, 0, none⟩ = false := (X1.get 2 rfl).frozen 0
       have g1 : w1.frozen? ⟨w.heap.size + 2, 1, none⟩ = false := (X1.get 2 rfl).frozen 1
       have g2 : w1.frozen? ⟨w.heap.size + 2, 2, none⟩ = false := (X1.get 2 rfl).frozen 2
       have i0 : w1.cell? ⟨w.heap.size + 2, 0, none⟩ = some (.slice none 0 0) := (X1.get 2 rfl).cell 0
       have i1 : w1.cell? ⟨w.heap.size + 2, 1, none⟩ = some (.slice none 0 0) := (X1.get 2 rfl).cell 1
       have i2 : w1.cell? ⟨w.heap.size + 2, 2, none⟩ = some (.int .i64 0) := (X1.get 2 rfl).cell 2
       have m0 : w.heap.size < w1.heap.size := (X1.get 0 rfl).lt
       have m1 : w.heap.size + 1 < w1.heap.size := (X1.get 1 rfl).lt
       have m2 : w.heap.size + 2 < w1.heap.size := (X1.get 2 rfl).lt
       replace X1 := hide X1
       clear x1 X0 a0 a1 a2 b0 b1 b2 b3 b4 b5 l0 l1 l2)
    | (go_at_call 35; refine (unhide hH _ (unhide X1).bl).mono ?_; rintro e w2 ⟨rfl, b2⟩
       have X2 : Gx w w2 [(w.heap.size, 31, #[.slice A n c, .slice A' m c', .int .i64 l]), (w.heap.size + 1, 27, #[.int .u64 (r.gen : Nat), .int .i64 r.at_, .int .i64 r.len, .int .i64 r.long, .int .u32 (r.sum : Nat), .int .u64 (r.next : Nat)]), (w.heap.size + 2, 31, zD)] [] [] := ((unhide X1).call b2).sub (fun _ h => h) (fun _ h => h) (fun _ h => (nomatch h))
       have q0 : w2.frozen? ⟨w.heap.size + 2, 0, none⟩ = false := (X2.get 2 rfl).frozen 0
       have q1 : w2.frozen? ⟨w.heap.size + 2, 1, none⟩ = false := (X2.get 2 rfl).frozen 1
       have q2 : w2.frozen? ⟨w.heap.size + 2, 2, none⟩ = false := (X2.get 2 rfl).frozen 2
       have p0 : w2.cell? ⟨w.heap.size + 2, 0, none⟩ = some (.slice none 0 0) := (X2.get 2 rfl).cell 0
       have p1 : w2.cell? ⟨w.heap.size + 2, 1, none⟩ = some (.slice none 0 0) := (X2.get 2 rfl).cell 1
       have p2 : w2.cell? ⟨w.heap.size + 2, 2, none⟩ = some (.int .i64 0) := (X2.get 2 rfl).cell 2
       replace X2 := hide X2
       clear b2)
    | fail)
  exact ret_disk2 rfl (w.heap.size + 2) zD rfl _ rfl rfl (Blk.set3 ((unhide X2).get 2 rfl)) rfl ⟨rfl, bl_set (bl_set (bl_set (unhide X2).bl (by omega) _ _) (by omega) _ _) (by omega) _ _⟩
set_option maxHeartbeats 8000000 in
theorem Write_dead (lo : Nat) (v : Value) (d : Dk) (r : Rt) (w : World) (ht : Tab w) (hT : OkT r) (h : Dsk lo w.heap.size w v d) (hL : d.dry.length ≤ 1000000) (hW : d.wet.length ≤ 400) (hr : rOk r = true) (hd : holdB d = true) (X : Dk) (EE : Int) (hX : wrD d ((r.gen % 2 : Nat) : Int) (octs r) = (X, EE)) (hE : EE ≠ 0) :
    Calls Tryd.prog 15 #[v, (.agg #[.int .u64 (r.gen : Nat), .int .i64 r.at_, .int .i64 r.len, .int .i64 r.long, .int .u32 (r.sum : Nat), .int .u64 (r.next : Nat)])] w fun e w' => e = .returned (.tuple #[.agg zD, .int .i64 EE]) ∧ Below w.heap.size w w' := by
  have hO := fun W (hB : Below w.heap.size w W) => Octets_any r hT W (ht.below hB (Nat.le_refl _))
  rw [hr, show badE true = 0 from rfl] at hO
  simp only [if_true] at hO
  have hH := fun W (hB : Below w.heap.size w W) => holds_any lo v d W (h.grow hB)
  rw [hd] at hH
  have hU := fun W => turn_any r W
  have hS0 := fun v1 W (hB : Below w.heap.size w W) (hx : Bs 0 W.heap.size W v1 (octs r)) => write_any 0 v v1 d ((r.gen % 2 : Nat) : Int) (octs r) W ((h.grow hB).mono (Nat.zero_le _) (Nat.le_refl _)) hx hL (by omega)
  rw [hX] at hS0
  have hS : ∀ v1 W, Below w.heap.size w W → Bs 0 W.heap.size W v1 (octs r) → Calls Tryd.prog 23 #[v, .int .i64 ((r.gen % 2 : Nat) : Int), v1] W fun e w' => ∃ A4 c4 B4 e4, e = .returned (.tuple #[.agg #[.slice A4 X.dry.length c4, .slice B4 X.wet.length e4, .int .i64 X.left], .int .i64 EE]) ∧ Dsk W.heap.size w'.heap.size w' (.agg #[.slice A4 X.dry.length c4, .slice B4 X.wet.length e4, .int .i64 X.left]) X ∧ Below W.heap.size W w' := fun v1 W hB hx => (hS0 v1 W hB hx).mono fun e w' ⟨v', E, he, hx', hE, hb⟩ => by
    obtain ⟨A4, c4, B4, e4, rfl⟩ := hx'.form
    exact ⟨A4, c4, B4, e4, by rw [he, hE], hx', hb⟩
  have hE' : (EE != 0) = true := by simp [hE]
  obtain ⟨A, c, A', c', rfl⟩ := h.form
  clear h hr ht hT hd hX hL hW hS0 hE
  generalize d.dry.length = n at *
  generalize d.wet.length = m at *
  generalize d.left = l at *
  generalize octs r = z at *
  have X0 : Gx w (((w.alloc (.cells #[.slice A n c, .slice A' m c', .int .i64 l] 31)).alloc (.cells #[.int .u64 (r.gen : Nat), .int .i64 r.at_, .int .i64 r.len, .int .i64 r.long, .int .u32 (r.sum : Nat), .int .u64 (r.next : Nat)] 27)).alloc (.cells zD 31)) [(w.heap.size, 31, #[.slice A n c, .slice A' m c', .int .i64 l]), (w.heap.size + 1, 27, #[.int .u64 (r.gen : Nat), .int .i64 r.at_, .int .i64 r.len, .int .i64 r.long, .int .u32 (r.sum : Nat), .int .u64 (r.next : Nat)]), (w.heap.size + 2, 31, zD)] [] [] := (((Gx.nil w).newB w.heap.size rfl 31 #[.slice A n c, .slice A' m c', .int .i64 l]).newB (w.heap.size + 1) (by simp) 27 #[.int .u64 (r.gen : Nat), .int .i64 r.at_, .int .i64 r.len, .int .i64 r.long, .int .u32 (r.sum : Nat), .int .u64 (r.next : Nat)]).newB (w.heap.size + 2) (by simp) 31 zD
  replace X0 := hide X0; replace hO := hide hO; replace hH := hide hH; replace hU := hide hU; replace hS := hide hS
  go_enter Tryd.func15, Tryd.ntmps15
  go_upto_region 1 with (fail)
  generalize hW : World.alloc (World.alloc (World.alloc w _) _) _ = W at *
  clear hW
  have a0 : W.cell? ⟨w.heap.size, 0, none⟩ = some (.slice A n c) := ((unhide X0).get 0 rfl).cell 0
  have a1 : W.cell? ⟨w.heap.size, 1, none⟩ = some (.slice A' m c') := ((unhide X0).get 0 rfl).cell 1
  have a2 : W.cell? ⟨w.heap.size, 2, none⟩ = some (.int .i64 l) := ((unhide X0).get 0 rfl).cell 2
  have b0 : W.cell? ⟨w.heap.size + 1, 0, none⟩ = some (.int .u64 (r.gen : Nat)) := ((unhide X0).get 1 rfl).cell 0
  have b1 : W.cell? ⟨w.heap.size + 1, 1, none⟩ = some (.int .i64 r.at_) := ((unhide X0).get 1 rfl).cell 1
  have b2 : W.cell? ⟨w.heap.size + 1, 2, none⟩ = some (.int .i64 r.len) := ((unhide X0).get 1 rfl).cell 2
  have b3 : W.cell? ⟨w.heap.size + 1, 3, none⟩ = some (.int .i64 r.long) := ((unhide X0).get 1 rfl).cell 3
  have b4 : W.cell? ⟨w.heap.size + 1, 4, none⟩ = some (.int .u32 (r.sum : Nat)) := ((unhide X0).get 1 rfl).cell 4
  have b5 : W.cell? ⟨w.heap.size + 1, 5, none⟩ = some (.int .u64 (r.next : Nat)) := ((unhide X0).get 1 rfl).cell 5
  have l0 : w.heap.size < W.heap.size := ((unhide X0).get 0 rfl).lt
  have l1 : w.heap.size + 1 < W.heap.size := ((unhide X0).get 1 rfl).lt
  have l2 : w.heap.size + 2 < W.heap.size := ((unhide X0).get 2 rfl).lt
  go_upto_region 4 with (first
    | (go_at_call 11; refine (unhide hO _ (unhide X0).bl).mono ?_; rintro e w1 ⟨v1, rfl, x1, b1⟩
       obtain ⟨A1, c1, rfl, _⟩ := id x1
       have X1 : Gx w w1 [(w.heap.size, 31, #[.slice A n c, .slice A' m c', .int .i64 l]), (w.heap.size + 1, 27, #[.int .u64 (r.gen : Nat), .int .i64 r.at_, .int .i64 r.len, .int .i64 r.long, .int .u32 (r.sum : Nat), .int .u64 (r.next : Nat)]), (w.heap.size + 2, 31, zD)] [] [(W.heap.size, w1.heap.size, .slice A1 z.length c1, z)] := ((unhide X0).call b1).addZ x1
       have d0 : w1.cell? ⟨w.heap.size, 0, none⟩ = some (.slice A n c) := (X1.get 0 rfl).cell 0
       have d1 : w1.cell? ⟨w.heap.size, 1, none⟩ = some (.slice A' m c') := (X1.get 0 rfl).cell 1
       have d2 : w1.cell? ⟨w.heap.size, 2, none⟩ = some (.int .i64 l) := (X1.get 0 rfl).cell 2
       have e0 : w1.cell? ⟨w.heap.size + 1, 0, none⟩ = some (.int .u64 (r.gen : Nat)) := (X1.get 1 rfl).cell 0
       have e1 : w1.cell? ⟨w.heap.size + 1, 1, none⟩ = some (.int .i64 r.at_) := (X1.get 1 rfl).cell 1
       have e2 : w1.cell? ⟨w.heap.size + 1, 2, none⟩ = some (.int .i64 r.len) := (X1.get 1 rfl).cell 2
       have e3 : w1.cell? ⟨w.heap.size + 1, 3, none⟩ = some (.int .i64 r.long) := (X1.get 1 rfl).cell 3
       have e4 : w1.cell? ⟨w.heap.size + 1, 4, none⟩ = some (.int .u32 (r.sum : Nat)) := (X1.get 1 rfl).cell 4
       have e5 : w1.cell? ⟨w.heap.size + 1, 5, none⟩ = some (.int .u64 (r.next : Nat)) := (X1.get 1 rfl).cell 5
       have g0 : w1.frozen? ⟨w.heap.size + 2, 0, none⟩ = false := (X1.get 2 rfl).frozen 0
       have g1 : w1.frozen? ⟨w.heap.size + 2, 1, none⟩ = false := (X1.get 2 rfl).frozen 1
       have g2 : w1.frozen? ⟨w.heap.size + 2, 2, none⟩ = false := (X1.get 2 rfl).frozen 2
       have i0 : w1.cell? ⟨w.heap.size + 2, 0, none⟩ = some (.slice none 0 0) := (X1.get 2 rfl).cell 0
       have i1 : w1.cell? ⟨w.heap.size + 2, 1, none⟩ = some (.slice none 0 0) := (X1.get 2 rfl).cell 1
       have i2 : w1.cell? ⟨w.heap.size + 2, 2, none⟩ = some (.int .i64 0) := (X1.get 2 rfl).cell 2
       have m0 : w.heap.size < w1.heap.size := (X1.get 0 rfl).lt
       have m1 : w.heap.size + 1 < w1.heap.size := (X1.get 1 rfl).lt
       have m2 : w.heap.size + 2 < w1.heap.size := (X1.get 2 rfl).lt
       replace X1 := hide X1
       clear x1 X0 a0 a1 a2 b0 b1 b2 b3 b4 b5 l0 l1 l2)
    | (go_at_call 35; refine (unhide hH _ (unhide X1).bl).mono ?_; rintro e w2 ⟨rfl, b2⟩
       have X2 : Gx w w2 [(w.heap.size, 31, #[.slice A n c, .slice A' m c', .int .i64 l]), (w.heap.size + 1, 27, #[.int .u64 (r.gen : Nat), .int .i64 r.at_, .int .i64 r.len, .int .i64 r.long, .int .u32 (r.sum : Nat), .int .u64 (r.next : Nat)]), (w.heap.size + 2, 31, zD)] [] [(W.heap.size, w1.heap.size, .slice A1 z.length c1, z)] := (unhide X1).call b2
       have p0 : w2.cell? ⟨w.heap.size, 0, none⟩ = some (.slice A n c) := (X2.get 0 rfl).cell 0
       have p1 : w2.cell? ⟨w.heap.size, 1, none⟩ = some (.slice A' m c') := (X2.get 0 rfl).cell 1
       have p2 : w2.cell? ⟨w.heap.size, 2, none⟩ = some (.int .i64 l) := (X2.get 0 rfl).cell 2
       have q0 : w2.cell? ⟨w.heap.size + 1, 0, none⟩ = some (.int .u64 (r.gen : Nat)) := (X2.get 1 rfl).cell 0
       have q1 : w2.cell? ⟨w.heap.size + 1, 1, none⟩ = some (.int .i64 r.at_) := (X2.get 1 rfl).cell 1
       have q2 : w2.cell? ⟨w.heap.size + 1, 2, none⟩ = some (.int .i64 r.len) := (X2.get 1 rfl).cell 2
       have q3 : w2.cell? ⟨w.heap.size + 1, 3, none⟩ = some (.int .i64 r.long) := (X2.get 1 rfl).cell 3
       have q4 : w2.cell? ⟨w.heap.size + 1, 4, none⟩ = some (.int .u32 (r.sum : Nat)) := (X2.get 1 rfl).cell 4
       have q5 : w2.cell? ⟨w.heap.size + 1, 5, none⟩ = some (.int .u64 (r.next : Nat)) := (X2.get 1 rfl).cell 5
       have n0 : w.heap.size < w2.heap.size := (X2.get 0 rfl).lt
       have n1 : w.heap.size + 1 < w2.heap.size := (X2.get 1 rfl).lt
       have n2 : w.heap.size + 2 < w2.heap.size := (X2.get 2 rfl).lt
       replace X2 := hide X2
       clear b2 X1 d0 d1 d2 e0 e1 e2 e3 e4 e5 i0 i1 i2 g0 g1 g2 m0 m1 m2)
    | fail)
  generalize W.heap.size = lz at *
  generalize w1.heap.size = hz at *
  go_cut [7, 8] (fun s7 s8 wc => ∃ A4 c4 B4 e4 g lo hi, s8 = .pointer (some ⟨g, 0, none⟩) ∧ s7 = .int .i64 EE ∧ w.heap.size + 2 < lo ∧ Hid (Gx w wc [(w.heap.size + 2, 31, zD), (g, 31, #[.slice A4 X.dry.length c4, .slice B4 X.wet.length e4, .int .i64 X.left])] [(lo, hi, .agg #[.slice A4 X.dry.length c4, .slice B4 X.wet.length e4, .int .i64 X.left], X)] []))
  case first =>
    go_region_held3 (fun W => W.cell? ⟨w.heap.size, 0, none⟩ = some (.slice A n c) ∧ W.cell? ⟨w.heap.size, 1, none⟩ = some (.slice A' m c') ∧ W.cell? ⟨w.heap.size, 2, none⟩ = some (.int .i64 l) ∧ W.cell? ⟨w.heap.size + 1, 0, none⟩ = some (.int .u64 (r.gen : Nat)) ∧ W.cell? ⟨w.heap.size + 1, 1, none⟩ = some (.int .i64 r.at_) ∧ W.cell? ⟨w.heap.size + 1, 2, none⟩ = some (.int .i64 r.len) ∧ W.cell? ⟨w.heap.size + 1, 3, none⟩ = some (.int .i64 r.long) ∧ W.cell? ⟨w.heap.size + 1, 4, none⟩ = some (.int .u32 (r.sum : Nat)) ∧ W.cell? ⟨w.heap.size + 1, 5, none⟩ = some (.int .u64 (r.next : Nat))) (first | exact ⟨by with_reducible assumption, by with_reducible assumption, by with_reducible assumption, by with_reducible assumption, by with_reducible assumption, by with_reducible assumption, by with_reducible assumption, by with_reducible assumption, by with_reducible assumption⟩ | exact ⟨by go_simp, by go_simp, by go_simp, by go_simp, by go_simp, by go_simp, by go_simp, by go_simp, by go_simp⟩) (first
      | (go_at_call 36; refine (unhide hU w2.drew).mono ?_; rintro e w5 ⟨rfl, hb5⟩
         have X5 : Gx w w5 [(w.heap.size, 31, #[.slice A n c, .slice A' m c', .int .i64 l]), (w.heap.size + 1, 27, #[.int .u64 (r.gen : Nat), .int .i64 r.at_, .int .i64 r.len, .int .i64 r.long, .int .u32 (r.sum : Nat), .int .u64 (r.next : Nat)]), (w.heap.size + 2, 31, zD)] [] [(lz, hz, .slice A1 z.length c1, z)] := (unhide X2).drew.call hb5
         have r0 : w5.cell? ⟨w.heap.size, 0, none⟩ = some (.slice A n c) := (X5.get 0 rfl).cell 0
         have r1 : w5.cell? ⟨w.heap.size, 1, none⟩ = some (.slice A' m c') := (X5.get 0 rfl).cell 1
         have r2 : w5.cell? ⟨w.heap.size, 2, none⟩ = some (.int .i64 l) := (X5.get 0 rfl).cell 2
         have s0 : w5.cell? ⟨w.heap.size + 1, 0, none⟩ = some (.int .u64 (r.gen : Nat)) := (X5.get 1 rfl).cell 0
         have s1 : w5.cell? ⟨w.heap.size + 1, 1, none⟩ = some (.int .i64 r.at_) := (X5.get 1 rfl).cell 1
         have s2 : w5.cell? ⟨w.heap.size + 1, 2, none⟩ = some (.int .i64 r.len) := (X5.get 1 rfl).cell 2
         have s3 : w5.cell? ⟨w.heap.size + 1, 3, none⟩ = some (.int .i64 r.long) := (X5.get 1 rfl).cell 3
         have s4 : w5.cell? ⟨w.heap.size + 1, 4, none⟩ = some (.int .u32 (r.sum : Nat)) := (X5.get 1 rfl).cell 4
         have s5 : w5.cell? ⟨w.heap.size + 1, 5, none⟩ = some (.int .u64 (r.next : Nat)) := (X5.get 1 rfl).cell 5
         have l5 : w.heap.size < w5.heap.size := (X5.get 0 rfl).lt
         have l6 : w.heap.size + 1 < w5.heap.size := (X5.get 1 rfl).lt
         have l7 : w.heap.size + 2 < w5.heap.size := (X5.get 2 rfl).lt
         replace X5 := hide X5
         clear hb5)
      | (go_at_call 36; refine (unhide hU (w2.drew.alloc (.cells zD 31))).mono ?_; rintro e w5 ⟨rfl, hb5⟩
         have X5 : Gx w w5 [(w.heap.size, 31, #[.slice A n c, .slice A' m c', .int .i64 l]), (w.heap.size + 1, 27, #[.int .u64 (r.gen : Nat), .int .i64 r.at_, .int .i64 r.len, .int .i64 r.long, .int .u32 (r.sum : Nat), .int .u64 (r.next : Nat)]), (w.heap.size + 2, 31, zD)] [] [(lz, hz, .slice A1 z.length c1, z)] := ((unhide X2).drew.alloc (.cells zD 31)).call hb5
         have K5 : Blk w5 w2.heap.size 31 zD := Blk.below (w := (w2.drew.alloc (.cells zD 31))) (Blk.new (w := w2.drew) (t := 31) (cs := zD) rfl) hb5 (by simp)
         have g5 : w2.heap.size < w5.heap.size := K5.lt
         replace K5 := hide K5
         have r0 : w5.cell? ⟨w.heap.size, 0, none⟩ = some (.slice A n c) := (X5.get 0 rfl).cell 0
         have r1 : w5.cell? ⟨w.heap.size, 1, none⟩ = some (.slice A' m c') := (X5.get 0 rfl).cell 1
         have r2 : w5.cell? ⟨w.heap.size, 2, none⟩ = some (.int .i64 l) := (X5.get 0 rfl).cell 2
         have s0 : w5.cell? ⟨w.heap.size + 1, 0, none⟩ = some (.int .u64 (r.gen : Nat)) := (X5.get 1 rfl).cell 0
         have s1 : w5.cell? ⟨w.heap.size + 1, 1, none⟩ = some (.int .i64 r.at_) := (X5.get 1 rfl).cell 1
         have s2 : w5.cell? ⟨w.heap.size + 1, 2, none⟩ = some (.int .i64 r.len) := (X5.get 1 rfl).cell 2
         have s3 : w5.cell? ⟨w.heap.size + 1, 3, none⟩ = some (.int .i64 r.long) := (X5.get 1 rfl).cell 3
         have s4 : w5.cell? ⟨w.heap.size + 1, 4, none⟩ = some (.int .u32 (r.sum : Nat)) := (X5.get 1 rfl).cell 4
         have s5 : w5.cell? ⟨w.heap.size + 1, 5, none⟩ = some (.int .u64 (r.next : Nat)) := (X5.get 1 rfl).cell 5
         have l5 : w.heap.size < w5.heap.size := (X5.get 0 rfl).lt
         have l6 : w.heap.size + 1 < w5.heap.size := (X5.get 1 rfl).lt
         have l7 : w.heap.size + 2 < w5.heap.size := (X5.get 2 rfl).lt
         replace X5 := hide X5
         clear hb5)
      | (go_at_call 23; refine (unhide hS _ w5 (unhide X5).bl ((unhide X5).rd 0 rfl)).mono ?_; rintro e w6 ⟨A4, c4, B4, e4, rfl, x6, hb6⟩
         have X6 : Gx w w6 [(w.heap.size, 31, #[.slice A n c, .slice A' m c', .int .i64 l]), (w.heap.size + 1, 27, #[.int .u64 (r.gen : Nat), .int .i64 r.at_, .int .i64 r.len, .int .i64 r.long, .int .u32 (r.sum : Nat), .int .u64 (r.next : Nat)]), (w.heap.size + 2, 31, zD)] [(w5.heap.size, w6.heap.size, .agg #[.slice A4 X.dry.length c4, .slice B4 X.wet.length e4, .int .i64 X.left], X)] [] := ((((unhide X5)).call hb6).sub (Z' := []) (fun _ h => h) (fun _ h => h) (fun _ h => (nomatch h))).addD x6
         have K6 : Blk w6 w2.heap.size 31 zD := (unhide K5).below hb6 (unhide K5).lt
         have k0 : w6.cell? ⟨w2.heap.size, 0, none⟩ = some (.slice none 0 0) := K6.cell 0
         have kf0 : w6.frozen? ⟨w2.heap.size, 0, none⟩ = false := K6.frozen 0
         have k1 : w6.cell? ⟨w2.heap.size, 1, none⟩ = some (.slice none 0 0) := K6.cell 1
         have kf1 : w6.frozen? ⟨w2.heap.size, 1, none⟩ = false := K6.frozen 1
         have k2 : w6.cell? ⟨w2.heap.size, 2, none⟩ = some (.int .i64 0) := K6.cell 2
         have kf2 : w6.frozen? ⟨w2.heap.size, 2, none⟩ = false := K6.frozen 2
         replace K6 := hide K6
         have t0 : w6.cell? ⟨w.heap.size, 0, none⟩ = some (.slice A n c) := (X6.get 0 rfl).cell 0
         have t1 : w6.cell? ⟨w.heap.size, 1, none⟩ = some (.slice A' m c') := (X6.get 0 rfl).cell 1
         have t2 : w6.cell? ⟨w.heap.size, 2, none⟩ = some (.int .i64 l) := (X6.get 0 rfl).cell 2
         have u0 : w6.cell? ⟨w.heap.size + 1, 0, none⟩ = some (.int .u64 (r.gen : Nat)) := (X6.get 1 rfl).cell 0
         have u1 : w6.cell? ⟨w.heap.size + 1, 1, none⟩ = some (.int .i64 r.at_) := (X6.get 1 rfl).cell 1
         have u2 : w6.cell? ⟨w.heap.size + 1, 2, none⟩ = some (.int .i64 r.len) := (X6.get 1 rfl).cell 2
         have u3 : w6.cell? ⟨w.heap.size + 1, 3, none⟩ = some (.int .i64 r.long) := (X6.get 1 rfl).cell 3
         have u4 : w6.cell? ⟨w.heap.size + 1, 4, none⟩ = some (.int .u32 (r.sum : Nat)) := (X6.get 1 rfl).cell 4
         have u5 : w6.cell? ⟨w.heap.size + 1, 5, none⟩ = some (.int .u64 (r.next : Nat)) := (X6.get 1 rfl).cell 5
         have r6 : w.heap.size < w6.heap.size := (X6.get 0 rfl).lt
         have r7 : w.heap.size + 1 < w6.heap.size := (X6.get 1 rfl).lt
         have r8 : w.heap.size + 2 < w6.heap.size := (X6.get 2 rfl).lt
         replace X6 := hide X6
         clear x6 hb6)
      | (go_at_call 23; refine (unhide hS _ w5 (unhide X5).bl ((unhide X5).rd 0 rfl)).mono ?_; rintro e w6 ⟨A4, c4, B4, e4, rfl, x6, hb6⟩
         have X6 : Gx w w6 [(w.heap.size, 31, #[.slice A n c, .slice A' m c', .int .i64 l]), (w.heap.size + 1, 27, #[.int .u64 (r.gen : Nat), .int .i64 r.at_, .int .i64 r.len, .int .i64 r.long, .int .u32 (r.sum : Nat), .int .u64 (r.next : Nat)]), (w.heap.size + 2, 31, zD)] [(w5.heap.size, w6.heap.size, .agg #[.slice A4 X.dry.length c4, .slice B4 X.wet.length e4, .int .i64 X.left], X)] [] := ((((unhide X5)).call hb6).sub (Z' := []) (fun _ h => h) (fun _ h => h) (fun _ h => (nomatch h))).addD x6
         have t0 : w6.cell? ⟨w.heap.size, 0, none⟩ = some (.slice A n c) := (X6.get 0 rfl).cell 0
         have t1 : w6.cell? ⟨w.heap.size, 1, none⟩ = some (.slice A' m c') := (X6.get 0 rfl).cell 1
         have t2 : w6.cell? ⟨w.heap.size, 2, none⟩ = some (.int .i64 l) := (X6.get 0 rfl).cell 2
         have u0 : w6.cell? ⟨w.heap.size + 1, 0, none⟩ = some (.int .u64 (r.gen : Nat)) := (X6.get 1 rfl).cell 0
         have u1 : w6.cell? ⟨w.heap.size + 1, 1, none⟩ = some (.int .i64 r.at_) := (X6.get 1 rfl).cell 1
         have u2 : w6.cell? ⟨w.heap.size + 1, 2, none⟩ = some (.int .i64 r.len) := (X6.get 1 rfl).cell 2
         have u3 : w6.cell? ⟨w.heap.size + 1, 3, none⟩ = some (.int .i64 r.long) := (X6.get 1 rfl).cell 3
         have u4 : w6.cell? ⟨w.heap.size + 1, 4, none⟩ = some (.int .u32 (r.sum : Nat)) := (X6.get 1 rfl).cell 4
         have u5 : w6.cell? ⟨w.heap.size + 1, 5, none⟩ = some (.int .u64 (r.next : Nat)) := (X6.get 1 rfl).cell 5
         have r6 : w.heap.size < w6.heap.size := (X6.get 0 rfl).lt
         have r7 : w.heap.size + 1 < w6.heap.size := (X6.get 1 rfl).lt
         have r8 : w.heap.size + 2 < w6.heap.size := (X6.get 2 rfl).lt
         replace X6 := hide X6
         clear x6 hb6)
      | (go_at_call 23; refine (unhide hS _ (w5.alloc (.cells zD 31)) ((unhide X5).alloc (.cells zD 31)).bl (((unhide X5).alloc (.cells zD 31)).rd 0 rfl)).mono ?_; rintro e w6 ⟨A4, c4, B4, e4, rfl, x6, hb6⟩
         have X6 : Gx w w6 [(w.heap.size, 31, #[.slice A n c, .slice A' m c', .int .i64 l]), (w.heap.size + 1, 27, #[.int .u64 (r.gen : Nat), .int .i64 r.at_, .int .i64 r.len, .int .i64 r.long, .int .u32 (r.sum : Nat), .int .u64 (r.next : Nat)]), (w.heap.size + 2, 31, zD)] [((w5.alloc (.cells zD 31)).heap.size, w6.heap.size, .agg #[.slice A4 X.dry.length c4, .slice B4 X.wet.length e4, .int .i64 X.left], X)] [] := (((((unhide X5).alloc (.cells zD 31))).call hb6).sub (Z' := []) (fun _ h => h) (fun _ h => h) (fun _ h => (nomatch h))).addD x6
         have K6 : Blk w6 w5.heap.size 31 zD := Blk.below (w := (w5.alloc (.cells zD 31))) (Blk.new (w := w5) (t := 31) (cs := zD) rfl) hb6 (by simp)
         have g5 : w5.heap.size < w6.heap.size := K6.lt
         have k0 : w6.cell? ⟨w5.heap.size, 0, none⟩ = some (.slice none 0 0) := K6.cell 0
         have kf0 : w6.frozen? ⟨w5.heap.size, 0, none⟩ = false := K6.frozen 0
         have k1 : w6.cell? ⟨w5.heap.size, 1, none⟩ = some (.slice none 0 0) := K6.cell 1
         have kf1 : w6.frozen? ⟨w5.heap.size, 1, none⟩ = false := K6.frozen 1
         have k2 : w6.cell? ⟨w5.heap.size, 2, none⟩ = some (.int .i64 0) := K6.cell 2
         have kf2 : w6.frozen? ⟨w5.heap.size, 2, none⟩ = false := K6.frozen 2
         replace K6 := hide K6
         have t0 : w6.cell? ⟨w.heap.size, 0, none⟩ = some (.slice A n c) := (X6.get 0 rfl).cell 0
         have t1 : w6.cell? ⟨w.heap.size, 1, none⟩ = some (.slice A' m c') := (X6.get 0 rfl).cell 1
         have t2 : w6.cell? ⟨w.heap.size, 2, none⟩ = some (.int .i64 l) := (X6.get 0 rfl).cell 2
         have u0 : w6.cell? ⟨w.heap.size + 1, 0, none⟩ = some (.int .u64 (r.gen : Nat)) := (X6.get 1 rfl).cell 0
         have u1 : w6.cell? ⟨w.heap.size + 1, 1, none⟩ = some (.int .i64 r.at_) := (X6.get 1 rfl).cell 1
         have u2 : w6.cell? ⟨w.heap.size + 1, 2, none⟩ = some (.int .i64 r.len) := (X6.get 1 rfl).cell 2
         have u3 : w6.cell? ⟨w.heap.size + 1, 3, none⟩ = some (.int .i64 r.long) := (X6.get 1 rfl).cell 3
         have u4 : w6.cell? ⟨w.heap.size + 1, 4, none⟩ = some (.int .u32 (r.sum : Nat)) := (X6.get 1 rfl).cell 4
         have u5 : w6.cell? ⟨w.heap.size + 1, 5, none⟩ = some (.int .u64 (r.next : Nat)) := (X6.get 1 rfl).cell 5
         have r6 : w.heap.size < w6.heap.size := (X6.get 0 rfl).lt
         have r7 : w.heap.size + 1 < w6.heap.size := (X6.get 1 rfl).lt
         have r8 : w.heap.size + 2 < w6.heap.size := (X6.get 2 rfl).lt
         replace X6 := hide X6
         clear x6 hb6)
      | fail)
    all_goals
      go_wp2_with fail
      go_meet
      first
        | exact ⟨A4, c4, B4, e4, _, _, _, rfl, rfl, (by (try simp) <;> omega), hide (((unhide X6).newB w6.heap.size rfl 31 #[.slice A4 X.dry.length c4, .slice B4 X.wet.length e4, .int .i64 X.left]).sub (L' := [(w.heap.size + 2, 31, zD), (w6.heap.size, 31, #[.slice A4 X.dry.length c4, .slice B4 X.wet.length e4, .int .i64 X.left])]) (by simp) (fun _ h => h) (fun _ h => h))⟩
        | exact ⟨A4, c4, B4, e4, _, _, _, rfl, rfl, (by (try simp) <;> omega), hide (((unhide X6).set3 (g := w2.heap.size) (unhide K6) (by omega) (by simp; omega) (by simp; omega) (by simp) (.slice A4 X.dry.length c4) (.slice B4 X.wet.length e4) (.int .i64 X.left)).sub (L' := [(w.heap.size + 2, 31, zD), (w2.heap.size, 31, #[.slice A4 X.dry.length c4, .slice B4 X.wet.length e4, .int .i64 X.left])]) (by simp) (fun _ h => h) (fun _ h => h))⟩
        | exact ⟨A4, c4, B4, e4, _, _, _, rfl, rfl, (by (try simp) <;> omega), hide (((unhide X6).set3 (g := w5.heap.size) (unhide K6) (by omega) (by simp; omega) (by simp) (by simp) (.slice A4 X.dry.length c4) (.slice B4 X.wet.length e4) (.int .i64 X.left)).sub (L' := [(w.heap.size + 2, 31, zD), (w5.heap.size, 31, #[.slice A4 X.dry.length c4, .slice B4 X.wet.length e4, .int .i64 X.left])]) (by simp) (fun _ h => h) (fun _ h => h))⟩
  case rest =>
    obtain ⟨A4, c4, B4, e4, g, lo', hi', rfl, rfl, hlo, X3⟩ := hcut
    clear X2 p0 p1 p2 q0 q1 q2 q3 q4 q5 n0 n1 n2 hO hH hU hS
    have q0 : wc.cell? ⟨w.heap.size + 2, 0, none⟩ = some (.slice none 0 0) := ((unhide X3).get 0 rfl).cell 0
    have q1 : wc.cell? ⟨w.heap.size + 2, 1, none⟩ = some (.slice none 0 0) := ((unhide X3).get 0 rfl).cell 1
    have q2 : wc.cell? ⟨w.heap.size + 2, 2, none⟩ = some (.int .i64 0) := ((unhide X3).get 0 rfl).cell 2
    have s0 : wc.frozen? ⟨w.heap.size + 2, 0, none⟩ = false := ((unhide X3).get 0 rfl).frozen 0
    have s1 : wc.frozen? ⟨w.heap.size + 2, 1, none⟩ = false := ((unhide X3).get 0 rfl).frozen 1
    have s2 : wc.frozen? ⟨w.heap.size + 2, 2, none⟩ = false := ((unhide X3).get 0 rfl).frozen 2
    go_wp2_with fail
    exact ret_disk2 rfl (w.heap.size + 2) zD rfl _ rfl rfl (Blk.set3 ((unhide X3).get 0 rfl)) rfl ⟨rfl, bl_set (bl_set (bl_set (unhide X3).bl (by omega) _ _) (by omega) _ _) (by omega) _ _⟩
set_option maxHeartbeats 8000000 in
theorem Write_goes (lo : Nat) (v : Value) (d : Dk) (r : Rt) (w : World) (ht : Tab w) (hT : OkT r) (h : Dsk lo w.heap.size w v d) (hL : d.dry.length ≤ 1000000) (hW : d.wet.length ≤ 400) (hr : rOk r = true) (hd : holdB d = true) (X : Dk) (EE : Int) (hX : wrD d ((r.gen % 2 : Nat) : Int) (octs r) = (X, EE)) (hE : EE = 0) (hY : X.dry.length ≤ 1000000 ∧ X.wet.length ≤ 1000) :
    Calls Tryd.prog 15 #[v, (.agg #[.int .u64 (r.gen : Nat), .int .i64 r.at_, .int .i64 r.len, .int .i64 r.long, .int .u32 (r.sum : Nat), .int .u64 (r.next : Nat)])] w fun e w' => ∃ v' E, e = .returned (.tuple #[v', .int .i64 E]) ∧ Dsk w.heap.size w'.heap.size w' v' (synD X).1 ∧ E = (synD X).2 ∧ Below w.heap.size w w' := by
  have hO := fun W (hB : Below w.heap.size w W) => Octets_any r hT W (ht.below hB (Nat.le_refl _))
  rw [hr, show badE true = 0 from rfl] at hO
  simp only [if_true] at hO
  have hH := fun W (hB : Below w.heap.size w W) => holds_any lo v d W (h.grow hB)
  rw [hd] at hH
  have hU := fun W => turn_any r W
  have hS0 := fun v1 W (hB : Below w.heap.size w W) (hx : Bs 0 W.heap.size W v1 (octs r)) => write_any 0 v v1 d ((r.gen % 2 : Nat) : Int) (octs r) W ((h.grow hB).mono (Nat.zero_le _) (Nat.le_refl _)) hx hL (by omega)
  rw [hX] at hS0
  have hS : ∀ v1 W, Below w.heap.size w W → Bs 0 W.heap.size W v1 (octs r) → Calls Tryd.prog 23 #[v, .int .i64 ((r.gen % 2 : Nat) : Int), v1] W fun e w' => ∃ A4 c4 B4 e4, e = .returned (.tuple #[.agg #[.slice A4 X.dry.length c4, .slice B4 X.wet.length e4, .int .i64 X.left], .int .i64 EE]) ∧ Dsk W.heap.size w'.heap.size w' (.agg #[.slice A4 X.dry.length c4, .slice B4 X.wet.length e4, .int .i64 X.left]) X ∧ Below W.heap.size W w' := fun v1 W hB hx => (hS0 v1 W hB hx).mono fun e w' ⟨v', E, he, hx', hE, hb⟩ => by
    obtain ⟨A4, c4, B4, e4, rfl⟩ := hx'.form
    exact ⟨A4, c4, B4, e4, by rw [he, hE], hx', hb⟩
  have hY0 := fun lo' v1 W (hx : Dsk lo' W.heap.size W v1 X) => sync_any lo' v1 X W hx hY.1 hY.2
  subst hE
  obtain ⟨A, c, A', c', rfl⟩ := h.form
  clear h hr ht hT hd hX hL hW hS0 hY
  generalize d.dry.length = n at *
  generalize d.wet.length = m at *
  generalize d.left = l at *
  generalize octs r = z at *
  have X0 : Gx w (((w.alloc (.cells #[.slice A n c, .slice A' m c', .int .i64 l] 31)).alloc (.cells #[.int .u64 (r.gen : Nat), .int .i64 r.at_, .int .i64 r.len, .int .i64 r.long, .int .u32 (r.sum : Nat), .int .u64 (r.next : Nat)] 27)).alloc (.cells zD 31)) [(w.heap.size, 31, #[.slice A n c, .slice A' m c', .int .i64 l]), (w.heap.size + 1, 27, #[.int .u64 (r.gen : Nat), .int .i64 r.at_, .int .i64 r.len, .int .i64 r.long, .int .u32 (r.sum : Nat), .int .u64 (r.next : Nat)]), (w.heap.size + 2, 31, zD)] [] [] := (((Gx.nil w).newB w.heap.size rfl 31 #[.slice A n c, .slice A' m c', .int .i64 l]).newB (w.heap.size + 1) (by simp) 27 #[.int .u64 (r.gen : Nat), .int .i64 r.at_, .int .i64 r.len, .int .i64 r.long, .int .u32 (r.sum : Nat), .int .u64 (r.next : Nat)]).newB (w.heap.size + 2) (by simp) 31 zD
  replace X0 := hide X0; replace hO := hide hO; replace hH := hide hH; replace hU := hide hU; replace hS := hide hS; replace hY0 := hide hY0
  go_enter Tryd.func15, Tryd.ntmps15
  go_upto_region 1 with (fail)
  generalize hW : World.alloc (World.alloc (World.alloc w _) _) _ = W at *
  clear hW
  have a0 : W.cell? ⟨w.heap.size, 0, none⟩ = some (.slice A n c) := ((unhide X0).get 0 rfl).cell 0
  have a1 : W.cell? ⟨w.heap.size, 1, none⟩ = some (.slice A' m c') := ((unhide X0).get 0 rfl).cell 1
  have a2 : W.cell? ⟨w.heap.size, 2, none⟩ = some (.int .i64 l) := ((unhide X0).get 0 rfl).cell 2
  have b0 : W.cell? ⟨w.heap.size + 1, 0, none⟩ = some (.int .u64 (r.gen : Nat)) := ((unhide X0).get 1 rfl).cell 0
  have b1 : W.cell? ⟨w.heap.size + 1, 1, none⟩ = some (.int .i64 r.at_) := ((unhide X0).get 1 rfl).cell 1
  have b2 : W.cell? ⟨w.heap.size + 1, 2, none⟩ = some (.int .i64 r.len) := ((unhide X0).get 1 rfl).cell 2
  have b3 : W.cell? ⟨w.heap.size + 1, 3, none⟩ = some (.int .i64 r.long) := ((unhide X0).get 1 rfl).cell 3
  have b4 : W.cell? ⟨w.heap.size + 1, 4, none⟩ = some (.int .u32 (r.sum : Nat)) := ((unhide X0).get 1 rfl).cell 4
  have b5 : W.cell? ⟨w.heap.size + 1, 5, none⟩ = some (.int .u64 (r.next : Nat)) := ((unhide X0).get 1 rfl).cell 5
  have l0 : w.heap.size < W.heap.size := ((unhide X0).get 0 rfl).lt
  have l1 : w.heap.size + 1 < W.heap.size := ((unhide X0).get 1 rfl).lt
  have l2 : w.heap.size + 2 < W.heap.size := ((unhide X0).get 2 rfl).lt
  go_upto_region 4 with (first
    | (go_at_call 11; refine (unhide hO _ (unhide X0).bl).mono ?_; rintro e w1 ⟨v1, rfl, x1, b1⟩
       obtain ⟨A1, c1, rfl, _⟩ := id x1
       have X1 : Gx w w1 [(w.heap.size, 31, #[.slice A n c, .slice A' m c', .int .i64 l]), (w.heap.size + 1, 27, #[.int .u64 (r.gen : Nat), .int .i64 r.at_, .int .i64 r.len, .int .i64 r.long, .int .u32 (r.sum : Nat), .int .u64 (r.next : Nat)]), (w.heap.size + 2, 31, zD)] [] [(W.heap.size, w1.heap.size, .slice A1 z.length c1, z)] := ((unhide X0).call b1).addZ x1
       have d0 : w1.cell? ⟨w.heap.size, 0, none⟩ = some (.slice A n c) := (X1.get 0 rfl).cell 0
       have d1 : w1.cell? ⟨w.heap.size, 1, none⟩ = some (.slice A' m c') := (X1.get 0 rfl).cell 1
       have d2 : w1.cell? ⟨w.heap.size, 2, none⟩ = some (.int .i64 l) := (X1.get 0 rfl).cell 2
       have e0 : w1.cell? ⟨w.heap.size + 1, 0, none⟩ = some (.int .u64 (r.gen : Nat)) := (X1.get 1 rfl).cell 0
       have e1 : w1.cell? ⟨w.heap.size + 1, 1, none⟩ = some (.int .i64 r.at_) := (X1.get 1 rfl).cell 1
       have e2 : w1.cell? ⟨w.heap.size + 1, 2, none⟩ = some (.int .i64 r.len) := (X1.get 1 rfl).cell 2
       have e3 : w1.cell? ⟨w.heap.size + 1, 3, none⟩ = some (.int .i64 r.long) := (X1.get 1 rfl).cell 3
       have e4 : w1.cell? ⟨w.heap.size + 1, 4, none⟩ = some (.int .u32 (r.sum : Nat)) := (X1.get 1 rfl).cell 4
       have e5 : w1.cell? ⟨w.heap.size + 1, 5, none⟩ = some (.int .u64 (r.next : Nat)) := (X1.get 1 rfl).cell 5
       have g0 : w1.frozen? ⟨w.heap.size + 2, 0, none⟩ = false := (X1.get 2 rfl).frozen 0
       have g1 : w1.frozen? ⟨w.heap.size + 2, 1, none⟩ = false := (X1.get 2 rfl).frozen 1
       have g2 : w1.frozen? ⟨w.heap.size + 2, 2, none⟩ = false := (X1.get 2 rfl).frozen 2
       have i0 : w1.cell? ⟨w.heap.size + 2, 0, none⟩ = some (.slice none 0 0) := (X1.get 2 rfl).cell 0
       have i1 : w1.cell? ⟨w.heap.size + 2, 1, none⟩ = some (.slice none 0 0) := (X1.get 2 rfl).cell 1
       have i2 : w1.cell? ⟨w.heap.size + 2, 2, none⟩ = some (.int .i64 0) := (X1.get 2 rfl).cell 2
       have m0 : w.heap.size < w1.heap.size := (X1.get 0 rfl).lt
       have m1 : w.heap.size + 1 < w1.heap.size := (X1.get 1 rfl).lt
       have m2 : w.heap.size + 2 < w1.heap.size := (X1.get 2 rfl).lt
       replace X1 := hide X1
       clear x1 X0 a0 a1 a2 b0 b1 b2 b3 b4 b5 l0 l1 l2)
    | (go_at_call 35; refine (unhide hH _ (unhide X1).bl).mono ?_; rintro e w2 ⟨rfl, b2⟩
       have X2 : Gx w w2 [(w.heap.size, 31, #[.slice A n c, .slice A' m c', .int .i64 l]), (w.heap.size + 1, 27, #[.int .u64 (r.gen : Nat), .int .i64 r.at_, .int .i64 r.len, .int .i64 r.long, .int .u32 (r.sum : Nat), .int .u64 (r.next : Nat)]), (w.heap.size + 2, 31, zD)] [] [(W.heap.size, w1.heap.size, .slice A1 z.length c1, z)] := (unhide X1).call b2
       have p0 : w2.cell? ⟨w.heap.size, 0, none⟩ = some (.slice A n c) := (X2.get 0 rfl).cell 0
       have p1 : w2.cell? ⟨w.heap.size, 1, none⟩ = some (.slice A' m c') := (X2.get 0 rfl).cell 1
       have p2 : w2.cell? ⟨w.heap.size, 2, none⟩ = some (.int .i64 l) := (X2.get 0 rfl).cell 2
       have q0 : w2.cell? ⟨w.heap.size + 1, 0, none⟩ = some (.int .u64 (r.gen : Nat)) := (X2.get 1 rfl).cell 0
       have q1 : w2.cell? ⟨w.heap.size + 1, 1, none⟩ = some (.int .i64 r.at_) := (X2.get 1 rfl).cell 1
       have q2 : w2.cell? ⟨w.heap.size + 1, 2, none⟩ = some (.int .i64 r.len) := (X2.get 1 rfl).cell 2
       have q3 : w2.cell? ⟨w.heap.size + 1, 3, none⟩ = some (.int .i64 r.long) := (X2.get 1 rfl).cell 3
       have q4 : w2.cell? ⟨w.heap.size + 1, 4, none⟩ = some (.int .u32 (r.sum : Nat)) := (X2.get 1 rfl).cell 4
       have q5 : w2.cell? ⟨w.heap.size + 1, 5, none⟩ = some (.int .u64 (r.next : Nat)) := (X2.get 1 rfl).cell 5
       have n0 : w.heap.size < w2.heap.size := (X2.get 0 rfl).lt
       have n1 : w.heap.size + 1 < w2.heap.size := (X2.get 1 rfl).lt
       have n2 : w.heap.size + 2 < w2.heap.size := (X2.get 2 rfl).lt
       replace X2 := hide X2
       clear b2 X1 d0 d1 d2 e0 e1 e2 e3 e4 e5 i0 i1 i2 g0 g1 g2 m0 m1 m2)
    | fail)
  generalize W.heap.size = lz at *
  generalize w1.heap.size = hz at *
  go_cut [7, 8] (fun s7 s8 wc => ∃ A4 c4 B4 e4 g lo hi, s8 = .pointer (some ⟨g, 0, none⟩) ∧ s7 = .int .i64 0 ∧ w.heap.size + 2 < lo ∧ Hid (Gx w wc [(w.heap.size + 2, 31, zD), (g, 31, #[.slice A4 X.dry.length c4, .slice B4 X.wet.length e4, .int .i64 X.left])] [(lo, hi, .agg #[.slice A4 X.dry.length c4, .slice B4 X.wet.length e4, .int .i64 X.left], X)] []))
  case first =>
    go_region_held3 (fun W => W.cell? ⟨w.heap.size, 0, none⟩ = some (.slice A n c) ∧ W.cell? ⟨w.heap.size, 1, none⟩ = some (.slice A' m c') ∧ W.cell? ⟨w.heap.size, 2, none⟩ = some (.int .i64 l) ∧ W.cell? ⟨w.heap.size + 1, 0, none⟩ = some (.int .u64 (r.gen : Nat)) ∧ W.cell? ⟨w.heap.size + 1, 1, none⟩ = some (.int .i64 r.at_) ∧ W.cell? ⟨w.heap.size + 1, 2, none⟩ = some (.int .i64 r.len) ∧ W.cell? ⟨w.heap.size + 1, 3, none⟩ = some (.int .i64 r.long) ∧ W.cell? ⟨w.heap.size + 1, 4, none⟩ = some (.int .u32 (r.sum : Nat)) ∧ W.cell? ⟨w.heap.size + 1, 5, none⟩ = some (.int .u64 (r.next : Nat))) (first | exact ⟨by with_reducible assumption, by with_reducible assumption, by with_reducible assumption, by with_reducible assumption, by with_reducible assumption, by with_reducible assumption, by with_reducible assumption, by with_reducible assumption, by with_reducible assumption⟩ | exact ⟨by go_simp, by go_simp, by go_simp, by go_simp, by go_simp, by go_simp, by go_simp, by go_simp, by go_simp⟩) (first
      | (go_at_call 36; refine (unhide hU w2.drew).mono ?_; rintro e w5 ⟨rfl, hb5⟩
         have X5 : Gx w w5 [(w.heap.size, 31, #[.slice A n c, .slice A' m c', .int .i64 l]), (w.heap.size + 1, 27, #[.int .u64 (r.gen : Nat), .int .i64 r.at_, .int .i64 r.len, .int .i64 r.long, .int .u32 (r.sum : Nat), .int .u64 (r.next : Nat)]), (w.heap.size + 2, 31, zD)] [] [(lz, hz, .slice A1 z.length c1, z)] := (unhide X2).drew.call hb5
         have r0 : w5.cell? ⟨w.heap.size, 0, none⟩ = some (.slice A n c) := (X5.get 0 rfl).cell 0
         have r1 : w5.cell? ⟨w.heap.size, 1, none⟩ = some (.slice A' m c') := (X5.get 0 rfl).cell 1
         have r2 : w5.cell? ⟨w.heap.size, 2, none⟩ = some (.int .i64 l) := (X5.get 0 rfl).cell 2
         have s0 : w5.cell? ⟨w.heap.size + 1, 0, none⟩ = some (.int .u64 (r.gen : Nat)) := (X5.get 1 rfl).cell 0
         have s1 : w5.cell? ⟨w.heap.size + 1, 1, none⟩ = some (.int .i64 r.at_) := (X5.get 1 rfl).cell 1
         have s2 : w5.cell? ⟨w.heap.size + 1, 2, none⟩ = some (.int .i64 r.len) := (X5.get 1 rfl).cell 2
         have s3 : w5.cell? ⟨w.heap.size + 1, 3, none⟩ = some (.int .i64 r.long) := (X5.get 1 rfl).cell 3
         have s4 : w5.cell? ⟨w.heap.size + 1, 4, none⟩ = some (.int .u32 (r.sum : Nat)) := (X5.get 1 rfl).cell 4
         have s5 : w5.cell? ⟨w.heap.size + 1, 5, none⟩ = some (.int .u64 (r.next : Nat)) := (X5.get 1 rfl).cell 5
         have l5 : w.heap.size < w5.heap.size := (X5.get 0 rfl).lt
         have l6 : w.heap.size + 1 < w5.heap.size := (X5.get 1 rfl).lt
         have l7 : w.heap.size + 2 < w5.heap.size := (X5.get 2 rfl).lt
         replace X5 := hide X5
         clear hb5)
      | (go_at_call 36; refine (unhide hU (w2.drew.alloc (.cells zD 31))).mono ?_; rintro e w5 ⟨rfl, hb5⟩
         have X5 : Gx w w5 [(w.heap.size, 31, #[.slice A n c, .slice A' m c', .int .i64 l]), (w.heap.size + 1, 27, #[.int .u64 (r.gen : Nat), .int .i64 r.at_, .int .i64 r.len, .int .i64 r.long, .int .u32 (r.sum : Nat), .int .u64 (r.next : Nat)]), (w.heap.size + 2, 31, zD)] [] [(lz, hz, .slice A1 z.length c1, z)] := ((unhide X2).drew.alloc (.cells zD 31)).call hb5
         have K5 : Blk w5 w2.heap.size 31 zD := Blk.below (w := (w2.drew.alloc (.cells zD 31))) (Blk.new (w := w2.drew) (t := 31) (cs := zD) rfl) hb5 (by simp)
         have g5 : w2.heap.size < w5.heap.size := K5.lt
         replace K5 := hide K5
         have r0 : w5.cell? ⟨w.heap.size, 0, none⟩ = some (.slice A n c) := (X5.get 0 rfl).cell 0
         have r1 : w5.cell? ⟨w.heap.size, 1, none⟩ = some (.slice A' m c') := (X5.get 0 rfl).cell 1
         have r2 : w5.cell? ⟨w.heap.size, 2, none⟩ = some (.int .i64 l) := (X5.get 0 rfl).cell 2
         have s0 : w5.cell? ⟨w.heap.size + 1, 0, none⟩ = some (.int .u64 (r.gen : Nat)) := (X5.get 1 rfl).cell 0
         have s1 : w5.cell? ⟨w.heap.size + 1, 1, none⟩ = some (.int .i64 r.at_) := (X5.get 1 rfl).cell 1
         have s2 : w5.cell? ⟨w.heap.size + 1, 2, none⟩ = some (.int .i64 r.len) := (X5.get 1 rfl).cell 2
         have s3 : w5.cell? ⟨w.heap.size + 1, 3, none⟩ = some (.int .i64 r.long) := (X5.get 1 rfl).cell 3
         have s4 : w5.cell? ⟨w.heap.size + 1, 4, none⟩ = some (.int .u32 (r.sum : Nat)) := (X5.get 1 rfl).cell 4
         have s5 : w5.cell? ⟨w.heap.size + 1, 5, none⟩ = some (.int .u64 (r.next : Nat)) := (X5.get 1 rfl).cell 5
         have l5 : w.heap.size < w5.heap.size := (X5.get 0 rfl).lt
         have l6 : w.heap.size + 1 < w5.heap.size := (X5.get 1 rfl).lt
         have l7 : w.heap.size + 2 < w5.heap.size := (X5.get 2 rfl).lt
         replace X5 := hide X5
         clear hb5)
      | (go_at_call 23; refine (unhide hS _ w5 (unhide X5).bl ((unhide X5).rd 0 rfl)).mono ?_; rintro e w6 ⟨A4, c4, B4, e4, rfl, x6, hb6⟩
         have X6 : Gx w w6 [(w.heap.size, 31, #[.slice A n c, .slice A' m c', .int .i64 l]), (w.heap.size + 1, 27, #[.int .u64 (r.gen : Nat), .int .i64 r.at_, .int .i64 r.len, .int .i64 r.long, .int .u32 (r.sum : Nat), .int .u64 (r.next : Nat)]), (w.heap.size + 2, 31, zD)] [(w5.heap.size, w6.heap.size, .agg #[.slice A4 X.dry.length c4, .slice B4 X.wet.length e4, .int .i64 X.left], X)] [] := ((((unhide X5)).call hb6).sub (Z' := []) (fun _ h => h) (fun _ h => h) (fun _ h => (nomatch h))).addD x6
         have K6 : Blk w6 w2.heap.size 31 zD := (unhide K5).below hb6 (unhide K5).lt
         have k0 : w6.cell? ⟨w2.heap.size, 0, none⟩ = some (.slice none 0 0) := K6.cell 0
         have kf0 : w6.frozen? ⟨w2.heap.size, 0, none⟩ = false := K6.frozen 0
         have k1 : w6.cell? ⟨w2.heap.size, 1, none⟩ = some (.slice none 0 0) := K6.cell 1
         have kf1 : w6.frozen? ⟨w2.heap.size, 1, none⟩ = false := K6.frozen 1
         have k2 : w6.cell? ⟨w2.heap.size, 2, none⟩ = some (.int .i64 0) := K6.cell 2
         have kf2 : w6.frozen? ⟨w2.heap.size, 2, none⟩ = false := K6.frozen 2
         replace K6 := hide K6
         have t0 : w6.cell? ⟨w.heap.size, 0, none⟩ = some (.slice A n c) := (X6.get 0 rfl).cell 0
         have t1 : w6.cell? ⟨w.heap.size, 1, none⟩ = some (.slice A' m c') := (X6.get 0 rfl).cell 1
         have t2 : w6.cell? ⟨w.heap.size, 2, none⟩ = some (.int .i64 l) := (X6.get 0 rfl).cell 2
         have u0 : w6.cell? ⟨w.heap.size + 1, 0, none⟩ = some (.int .u64 (r.gen : Nat)) := (X6.get 1 rfl).cell 0
         have u1 : w6.cell? ⟨w.heap.size + 1, 1, none⟩ = some (.int .i64 r.at_) := (X6.get 1 rfl).cell 1
         have u2 : w6.cell? ⟨w.heap.size + 1, 2, none⟩ = some (.int .i64 r.len) := (X6.get 1 rfl).cell 2
         have u3 : w6.cell? ⟨w.heap.size + 1, 3, none⟩ = some (.int .i64 r.long) := (X6.get 1 rfl).cell 3
         have u4 : w6.cell? ⟨w.heap.size + 1, 4, none⟩ = some (.int .u32 (r.sum : Nat)) := (X6.get 1 rfl).cell 4
         have u5 : w6.cell? ⟨w.heap.size + 1, 5, none⟩ = some (.int .u64 (r.next : Nat)) := (X6.get 1 rfl).cell 5
         have r6 : w.heap.size < w6.heap.size := (X6.get 0 rfl).lt
         have r7 : w.heap.size + 1 < w6.heap.size := (X6.get 1 rfl).lt
         have r8 : w.heap.size + 2 < w6.heap.size := (X6.get 2 rfl).lt
         replace X6 := hide X6
         clear x6 hb6)
      | (go_at_call 23; refine (unhide hS _ w5 (unhide X5).bl ((unhide X5).rd 0 rfl)).mono ?_; rintro e w6 ⟨A4, c4, B4, e4, rfl, x6, hb6⟩
         have X6 : Gx w w6 [(w.heap.size, 31, #[.slice A n c, .slice A' m c', .int .i64 l]), (w.heap.size + 1, 27, #[.int .u64 (r.gen : Nat), .int .i64 r.at_, .int .i64 r.len, .int .i64 r.long, .int .u32 (r.sum : Nat), .int .u64 (r.next : Nat)]), (w.heap.size + 2, 31, zD)] [(w5.heap.size, w6.heap.size, .agg #[.slice A4 X.dry.length c4, .slice B4 X.wet.length e4, .int .i64 X.left], X)] [] := ((((unhide X5)).call hb6).sub (Z' := []) (fun _ h => h) (fun _ h => h) (fun _ h => (nomatch h))).addD x6
         have t0 : w6.cell? ⟨w.heap.size, 0, none⟩ = some (.slice A n c) := (X6.get 0 rfl).cell 0
         have t1 : w6.cell? ⟨w.heap.size, 1, none⟩ = some (.slice A' m c') := (X6.get 0 rfl).cell 1
         have t2 : w6.cell? ⟨w.heap.size, 2, none⟩ = some (.int .i64 l) := (X6.get 0 rfl).cell 2
         have u0 : w6.cell? ⟨w.heap.size + 1, 0, none⟩ = some (.int .u64 (r.gen : Nat)) := (X6.get 1 rfl).cell 0
         have u1 : w6.cell? ⟨w.heap.size + 1, 1, none⟩ = some (.int .i64 r.at_) := (X6.get 1 rfl).cell 1
         have u2 : w6.cell? ⟨w.heap.size + 1, 2, none⟩ = some (.int .i64 r.len) := (X6.get 1 rfl).cell 2
         have u3 : w6.cell? ⟨w.heap.size + 1, 3, none⟩ = some (.int .i64 r.long) := (X6.get 1 rfl).cell 3
         have u4 : w6.cell? ⟨w.heap.size + 1, 4, none⟩ = some (.int .u32 (r.sum : Nat)) := (X6.get 1 rfl).cell 4
         have u5 : w6.cell? ⟨w.heap.size + 1, 5, none⟩ = some (.int .u64 (r.next : Nat)) := (X6.get 1 rfl).cell 5
         have r6 : w.heap.size < w6.heap.size := (X6.get 0 rfl).lt
         have r7 : w.heap.size + 1 < w6.heap.size := (X6.get 1 rfl).lt
         have r8 : w.heap.size + 2 < w6.heap.size := (X6.get 2 rfl).lt
         replace X6 := hide X6
         clear x6 hb6)
      | (go_at_call 23; refine (unhide hS _ (w5.alloc (.cells zD 31)) ((unhide X5).alloc (.cells zD 31)).bl (((unhide X5).alloc (.cells zD 31)).rd 0 rfl)).mono ?_; rintro e w6 ⟨A4, c4, B4, e4, rfl, x6, hb6⟩
         have X6 : Gx w w6 [(w.heap.size, 31, #[.slice A n c, .slice A' m c', .int .i64 l]), (w.heap.size + 1, 27, #[.int .u64 (r.gen : Nat), .int .i64 r.at_, .int .i64 r.len, .int .i64 r.long, .int .u32 (r.sum : Nat), .int .u64 (r.next : Nat)]), (w.heap.size + 2, 31, zD)] [((w5.alloc (.cells zD 31)).heap.size, w6.heap.size, .agg #[.slice A4 X.dry.length c4, .slice B4 X.wet.length e4, .int .i64 X.left], X)] [] := (((((unhide X5).alloc (.cells zD 31))).call hb6).sub (Z' := []) (fun _ h => h) (fun _ h => h) (fun _ h => (nomatch h))).addD x6
         have K6 : Blk w6 w5.heap.size 31 zD := Blk.below (w := (w5.alloc (.cells zD 31))) (Blk.new (w := w5) (t := 31) (cs := zD) rfl) hb6 (by simp)
         have g5 : w5.heap.size < w6.heap.size := K6.lt
         have k0 : w6.cell? ⟨w5.heap.size, 0, none⟩ = some (.slice none 0 0) := K6.cell 0
         have kf0 : w6.frozen? ⟨w5.heap.size, 0, none⟩ = false := K6.frozen 0
         have k1 : w6.cell? ⟨w5.heap.size, 1, none⟩ = some (.slice none 0 0) := K6.cell 1
         have kf1 : w6.frozen? ⟨w5.heap.size, 1, none⟩ = false := K6.frozen 1
         have k2 : w6.cell? ⟨w5.heap.size, 2, none⟩ = some (.int .i64 0) := K6.cell 2
         have kf2 : w6.frozen? ⟨w5.heap.size, 2, none⟩ = false := K6.frozen 2
         replace K6 := hide K6
         have t0 : w6.cell? ⟨w.heap.size, 0, none⟩ = some (.slice A n c) := (X6.get 0 rfl).cell 0
         have t1 : w6.cell? ⟨w.heap.size, 1, none⟩ = some (.slice A' m c') := (X6.get 0 rfl).cell 1
         have t2 : w6.cell? ⟨w.heap.size, 2, none⟩ = some (.int .i64 l) := (X6.get 0 rfl).cell 2
         have u0 : w6.cell? ⟨w.heap.size + 1, 0, none⟩ = some (.int .u64 (r.gen : Nat)) := (X6.get 1 rfl).cell 0
         have u1 : w6.cell? ⟨w.heap.size + 1, 1, none⟩ = some (.int .i64 r.at_) := (X6.get 1 rfl).cell 1
         have u2 : w6.cell? ⟨w.heap.size + 1, 2, none⟩ = some (.int .i64 r.len) := (X6.get 1 rfl).cell 2
         have u3 : w6.cell? ⟨w.heap.size + 1, 3, none⟩ = some (.int .i64 r.long) := (X6.get 1 rfl).cell 3
         have u4 : w6.cell? ⟨w.heap.size + 1, 4, none⟩ = some (.int .u32 (r.sum : Nat)) := (X6.get 1 rfl).cell 4
         have u5 : w6.cell? ⟨w.heap.size + 1, 5, none⟩ = some (.int .u64 (r.next : Nat)) := (X6.get 1 rfl).cell 5
         have r6 : w.heap.size < w6.heap.size := (X6.get 0 rfl).lt
         have r7 : w.heap.size + 1 < w6.heap.size := (X6.get 1 rfl).lt
         have r8 : w.heap.size + 2 < w6.heap.size := (X6.get 2 rfl).lt
         replace X6 := hide X6
         clear x6 hb6)
      | fail)
    all_goals
      go_wp2_with fail
      go_meet
      first
        | exact ⟨A4, c4, B4, e4, _, _, _, rfl, rfl, (by (try simp) <;> omega), hide (((unhide X6).newB w6.heap.size rfl 31 #[.slice A4 X.dry.length c4, .slice B4 X.wet.length e4, .int .i64 X.left]).sub (L' := [(w.heap.size + 2, 31, zD), (w6.heap.size, 31, #[.slice A4 X.dry.length c4, .slice B4 X.wet.length e4, .int .i64 X.left])]) (by simp) (fun _ h => h) (fun _ h => h))⟩
        | exact ⟨A4, c4, B4, e4, _, _, _, rfl, rfl, (by (try simp) <;> omega), hide (((unhide X6).set3 (g := w2.heap.size) (unhide K6) (by omega) (by simp; omega) (by simp; omega) (by simp) (.slice A4 X.dry.length c4) (.slice B4 X.wet.length e4) (.int .i64 X.left)).sub (L' := [(w.heap.size + 2, 31, zD), (w2.heap.size, 31, #[.slice A4 X.dry.length c4, .slice B4 X.wet.length e4, .int .i64 X.left])]) (by simp) (fun _ h => h) (fun _ h => h))⟩
        | exact ⟨A4, c4, B4, e4, _, _, _, rfl, rfl, (by (try simp) <;> omega), hide (((unhide X6).set3 (g := w5.heap.size) (unhide K6) (by omega) (by simp; omega) (by simp) (by simp) (.slice A4 X.dry.length c4) (.slice B4 X.wet.length e4) (.int .i64 X.left)).sub (L' := [(w.heap.size + 2, 31, zD), (w5.heap.size, 31, #[.slice A4 X.dry.length c4, .slice B4 X.wet.length e4, .int .i64 X.left])]) (by simp) (fun _ h => h) (fun _ h => h))⟩
  case rest =>
    obtain ⟨A4, c4, B4, e4, g, lo', hi', rfl, rfl, hlo, X3⟩ := hcut
    clear X2 p0 p1 p2 q0 q1 q2 q3 q4 q5 n0 n1 n2 hO hH hU hS
    have p0 : wc.cell? ⟨g, 0, none⟩ = some (.slice A4 X.dry.length c4) := ((unhide X3).get 1 rfl).cell 0
    have p1 : wc.cell? ⟨g, 1, none⟩ = some (.slice B4 X.wet.length e4) := ((unhide X3).get 1 rfl).cell 1
    have p2 : wc.cell? ⟨g, 2, none⟩ = some (.int .i64 X.left) := ((unhide X3).get 1 rfl).cell 2
    have n2 : w.heap.size + 2 < wc.heap.size := ((unhide X3).get 0 rfl).lt
    go_wp2_with (first
      | (go_at_call 37; refine (unhide hY0 _ _ _ ((unhide X3).dr 0 rfl)).mono ?_; rintro e w7 ⟨v7, E7, rfl, x7, hE7, b7⟩
         obtain ⟨A7, c7, B7, e7, rfl⟩ := x7.form
         have X7 : Gx w w7 [(w.heap.size + 2, 31, zD)] [(wc.heap.size, w7.heap.size, .agg #[.slice A7 (synD X).1.dry.length c7, .slice B7 (synD X).1.wet.length e7, .int .i64 (synD X).1.left], (synD X).1)] [] := (((unhide X3).call b7).sub (L' := [(w.heap.size + 2, 31, zD)]) (Y' := []) (by simp) (fun _ h => (nomatch h)) (fun _ h => h)).addD x7
         have q0 : w7.cell? ⟨w.heap.size + 2, 0, none⟩ = some (.slice none 0 0) := (X7.get 0 rfl).cell 0
         have q1 : w7.cell? ⟨w.heap.size + 2, 1, none⟩ = some (.slice none 0 0) := (X7.get 0 rfl).cell 1
         have q2 : w7.cell? ⟨w.heap.size + 2, 2, none⟩ = some (.int .i64 0) := (X7.get 0 rfl).cell 2
         have s0 : w7.frozen? ⟨w.heap.size + 2, 0, none⟩ = false := (X7.get 0 rfl).frozen 0
         have s1 : w7.frozen? ⟨w.heap.size + 2, 1, none⟩ = false := (X7.get 0 rfl).frozen 1
         have s2 : w7.frozen? ⟨w.heap.size + 2, 2, none⟩ = false := (X7.get 0 rfl).frozen 2
         replace X7 := hide X7; replace hE7 := hide hE7
         clear x7 b7)
      | fail)
    have X8 := ((unhide X7).sub (L' := []) (fun _ h => (nomatch h)) (fun _ h => h) (fun _ h => h)).set3 ((unhide X7).get 0 rfl) (by omega) (by simp) (by simp; omega) (by simp) (.slice A7 (synD X).1.dry.length c7) (.slice B7 (synD X).1.wet.length e7) (.int .i64 (synD X).1.left)
    exact ret_disk2 rfl (w.heap.size + 2) _ rfl _ rfl rfl (X8.get 0 rfl) rfl ⟨_, _, rfl, (X8.dr 0 rfl).mono (by omega) (Nat.le_refl _), unhide hE7, X8.bl⟩
end Go.Proofs.YtommlgdolahfbaaDoor
