import Derived.Test.YthkccpemgmpadaaGreatDoorU4
import Derived.Maps.AppendAt
namespace Go.Proofs.YthkccpemgmpadaaGreatDoor.P
set_option maxRecDepth 100000
open Go.RowKit
structure But (S : List Nat) (w w' : World) : Prop where
  os : w'.os = w.os
  tape : w'.tape = w.tape
  output : w'.output = w.output
  size : w.heap.size ≤ w'.heap.size
  block : ∀ k, k < w.heap.size → k ∉ S → w'.heap[k]? = w.heap[k]?
theorem But.refl (S : List Nat) (w : World) : But S w w := ⟨rfl, rfl, rfl, Nat.le_refl _, fun _ _ _ => rfl⟩
theorem But.trans {S : List Nat} {a b c : World} (h : But S a b) (k : But S b c) : But S a c :=
  ⟨k.os.trans h.os, k.tape.trans h.tape, k.output.trans h.output, Nat.le_trans h.size k.size, fun i hi hS => (k.block i (Nat.lt_of_lt_of_le hi h.size) hS).trans (h.block i hi hS)⟩
theorem But.mono {S T : List Nat} {a b : World} (h : But S a b) (hs : ∀ k ∈ S, k ∈ T) : But T a b := ⟨h.os, h.tape, h.output, h.size, fun i hi hT => h.block i hi fun hS => hT (hs i hS)⟩
theorem But.below {S : List Nat} {B : Nat} {a b : World} (h : But S a b) (hs : ∀ k ∈ S, B ≤ k) (hB : B ≤ a.heap.size) : Below B a b := ⟨h.os, h.tape, h.output, h.size, fun k hk => h.block k (by omega) fun hS => by have := hs k hS; omega⟩
theorem But.of_below {S : List Nat} {a b c : World} (h : But S a b) (hb : Below b.heap.size b c) : But S a c :=
  ⟨hb.os.trans h.os, hb.tape.trans h.tape, hb.output.trans h.output, Nat.le_trans h.size hb.size, fun k hk hS => (hb.block k (by have := h.size; omega)).trans (h.block k hk hS)⟩
theorem But.drew {S : List Nat} {a b : World} (h : But S a b) : But S a b.drew := ⟨h.os, h.tape, h.output, h.size, h.block⟩
theorem But.drewN {S : List Nat} {a b : World} (h : But S a b) (n : Nat) : But S a (b.drewN n) := ⟨h.os, h.tape, h.output, h.size, h.block⟩
theorem But.set {S : List Nat} {a b : World} (h : But S a b) {p : Addr} (hp : p.block ∈ S) (u : Value) : But S a (b.setCell p u) := by
  have hb : Below p.block b (b.setCell p u) := Below.setCell (Below.refl _ _) (Nat.le_refl _) u
  exact ⟨hb.os.trans h.os, hb.tape.trans h.tape, hb.output.trans h.output, Nat.le_trans h.size hb.size, fun k hk hS => (Below.heap_setCell b p u k (fun e => hS (e ▸ hp))).trans (h.block k hk hS)⟩
theorem But.alloc {S : List Nat} {a b : World} (h : But S a b) (o : Obj) : But S a (b.alloc o) := h.of_below ((Below.refl _ _).alloc (Nat.le_refl _) o)
theorem Blk.but {w w' : World} {g : Nat} {t : TypeId} {cs : Array Value} {S : List Nat} (h : Blk w g t cs) (hb : But S w w') (hS : g ∉ S) : Blk w' g t cs := (hb.block g h.lt hS).trans h
section
variable {w : World} {base n size : Nat} {e : TypeId} {A : Option Addr} {c : Nat} {xs : List Value}
theorem own_pos (h : w.ownsRow base e size (.slice A n c) n xs) (h0 : 0 < n) : ∃ g cur, A = some ⟨g, 0, none⟩ ∧ base ≤ g ∧ Blk w g e cur := by
  obtain ⟨h1, h2⟩ := h
  rcases h2 with ⟨h2, h3⟩ | ⟨g', cap', cur, hv, hb, hh, r1, r2, r3, r4⟩
  · omega
  · injection hv with e1 _ e3
    exact ⟨g', cur, e1, hb, hh⟩
theorem own_cell {g : Nat} (h : w.ownsRow base e 1 (.slice (some ⟨g, 0, none⟩) n c) n xs) (k : Nat) (hk : k < n) : w.cell? ⟨g, k, none⟩ = xs[k]? :=
  World.ownsRow.cellAt (w := w) (base := base) (e := e) (size := 1) (g := g) (n := n) (cap := c) (xs := xs) h k (by omega)
theorem own_put {g k : Nat} (h : w.ownsRow base e size (.slice (some ⟨g, 0, none⟩) n c) n xs) (u : Value) :
    (w.setCell ⟨g, k, none⟩ u).ownsRow base e size (.slice (some ⟨g, 0, none⟩) n c) n (xs.set k u) := by
  obtain ⟨h1, h2⟩ := h
  refine ⟨by rw [List.length_set]; exact h1, ?_⟩
  rcases h2 with ⟨h2, _⟩ | ⟨g', cap', cur, hv, hb, hh, r1, r2, r3, r4⟩
  · cases h2
  · injection hv with e1 _ e3
    injection e1 with e1
    injection e1 with e1
    subst e1 e3
    refine .inr ⟨g, c, cur.setIfInBounds k u, rfl, hb, heap_setCell_same w g k cur e u hh, r1, r2, by simpa using r3, ?_⟩
    rw [Array.toList_setIfInBounds, List.take_set, r4]
theorem own_but {w' : World} {v : Value} {S : List Nat} (h : w.ownsRow base e size v n xs) (hb : But S w w') (hS : ∀ k ∈ S, ∀ cs, ¬ Blk w k e cs) : w'.ownsRow base e size v n xs := by
  obtain ⟨h1, h2⟩ := h
  refine ⟨h1, ?_⟩
  rcases h2 with h2 | ⟨g, cap, cur, hv, hg, hh, r⟩
  · exact .inl h2
  · exact .inr ⟨g, cap, cur, hv, hg, Blk.but (t := e) (cs := cur) hh hb (fun hg' => hS g hg' cur hh), r⟩
end
theorem ivc_at (l : List Int) (k : Nat) (hk : k < l.length) : (l.flatMap ivc)[k]? = some (.int .i64 l[k]) := by
  have := flat_get ivc_len l k hk 0 (by omega)
  simpa [ivc] using this
theorem ivc_set (l : List Int) (k : Nat) (z : Int) : (l.flatMap ivc).set k (.int .i64 z) = (l.set k z).flatMap ivc := by
  induction l generalizing k with
  | nil => rfl
  | cons x r ih =>
    cases k with
    | zero => rfl
    | succ k => rw [List.set_cons_succ, List.flatMap_cons, List.flatMap_cons, ← ih]; rfl
theorem getD_get {l : List Int} {k : Nat} (hk : k < l.length) : l.getD k 0 = l[k] := by rw [List.getD_eq_getElem?_getD, List.getElem?_eq_getElem hk]; rfl
theorem stepA_nat {l : List Int} {k : Nat} (hk : k < l.length) (b : Bool) : stepA l ⟨k, b⟩ = l.set k (lrn l[k] b) := by
  unfold stepA
  simp only [Int.toNat_natCast]
  rw [getD_get hk]
set_option maxHeartbeats 1000000 in
theorem learn_any (g gc cap k base : Nat) (c : List Int) (b : Bool) (w : World) (h1 : w.cell? ⟨g, 1, none⟩ = some (.slice (some ⟨gc, 0, none⟩) c.length cap)) (hk : k < c.length)
    (ho : w.ownsRow base 3 1 (.slice (some ⟨gc, 0, none⟩) c.length cap) c.length (c.flatMap ivc)) (hc : okC c = true) :
    Calls Tryz.prog 122 #[.pointer (some ⟨g, 0, none⟩), .int .i64 k, .bool b] w fun e w' => e = .returned (.tuple #[]) ∧ w'.ownsRow base 3 1 (.slice (some ⟨gc, 0, none⟩) c.length cap) c.length ((stepA c ⟨k, b⟩).flatMap ivc) ∧ But [gc] w w' := by
  have hx := (own_cell ho k hk).trans (ivc_at c k hk)
  obtain ⟨g0, cur, e0, hb0, hB⟩ := own_pos ho (by omega)
  injection e0 with e0
  injection e0 with e0
  subst e0
  have hf := hB.frozen k
  rw [stepA_nat hk]
  have hp := (okC_iff.1 hc).2 _ (List.getElem_mem hk)
  have ho2 := own_put (k := k) ho (.int .i64 (lrn c[k] b))
  rw [ivc_set] at ho2
  generalize c.set k (lrn c[k] b) = c2 at *
  generalize c[k] = p at *
  have hL := fun W => Learn_any p b W
  rw [lrnR_ok b hp, hp, badE_t] at hL
  have hk0 : (0 : Int) ≤ (k : Int) := by omega
  have hk1 : (k : Int) < (c.length : Int) := by omega
  replace hL := hide hL; replace ho := hide ho; replace ho2 := hide ho2
  clear hB hc hp
  generalize lrn p b = q at *
  go_enter Tryz.func122, Tryz.ntmps122
  go_region_with
    (first
      | (go_at_call 135; refine (unhide hL _).mono ?_; rintro e w1 ⟨rfl, rfl⟩))
  all_goals go_wp2_with fail
  all_goals refine bodyPost_end (results_none rfl _ _ _) rfl ?_
  all_goals exact ⟨rfl, own_drew (unhide ho2), But.drew (But.set (But.refl _ _) (by simp) _)⟩
end Go.Proofs.YthkccpemgmpadaaGreatDoor.P
namespace Go.Proofs.YthkccpemgmpadaaGreatDoor.P
set_option maxRecDepth 100000
open Go.RowKit
def byc (z : Int) : List Value := [.int .u8 z]
theorem byc_len : ∀ x, (byc x).length = 1 := fun _ => rfl
theorem byc_at (l : List Int) (k : Nat) (hk : k < l.length) : (l.flatMap byc)[k]? = some (.int .u8 l[k]) := by
  have := flat_get byc_len l k hk 0 (by omega)
  simpa [byc] using this
theorem byc_set (l : List Int) (k : Nat) (z : Int) : (l.flatMap byc).set k (.int .u8 z) = (l.set k z).flatMap byc := by
  induction l generalizing k with
  | nil => rfl
  | cons x r ih =>
    cases k with
    | zero => rfl
    | succ k => rw [List.set_cons_succ, List.flatMap_cons, List.flatMap_cons, ← ih]; rfl
theorem incR_rep (z : Nat) (r : List Int) : incR (List.replicate z 255 ++ r) = List.replicate z 0 ++ incR r := by
  induction z with
  | zero => rfl
  | succ z ih => rw [List.replicate_succ, List.cons_append, incR, if_pos rfl, ih, List.replicate_succ, List.cons_append]
theorem inc_at (p : List Int) (x : Int) (z : Nat) (hx : x ≠ 255) : inc (p ++ x :: List.replicate z 255) = p ++ (x + 1) :: List.replicate z 0 := by
  unfold inc
  rw [List.reverse_append, List.reverse_cons, List.reverse_replicate, List.append_assoc, incR_rep, List.singleton_append, incR, if_neg hx]
  simp
theorem inc_all (z : Nat) : inc (List.replicate z 255) = List.replicate z 0 := by
  have := incR_rep z []
  rw [List.append_nil] at this
  unfold inc
  rw [List.reverse_replicate, this]
  simp [incR]
def car (l : List Int) (j : Nat) : List Int := l.take j ++ List.replicate (l.length - j) 0
theorem car_len {l : List Int} {j : Nat} (h : j ≤ l.length) : (car l j).length = l.length := by simp [car]; omega
theorem car_top (l : List Int) : car l l.length = l := by simp [car]
theorem car_get {l : List Int} {j : Nat} (h : j < l.length) : (car l (j + 1))[j]'(by rw [car_len (by omega)]; exact h) = l[j] := by
  unfold car
  rw [List.getElem_append_left (by simp; omega), List.getElem_take]
theorem car_set {l : List Int} {j : Nat} (h : j < l.length) : (car l (j + 1)).set j 0 = car l j := by
  unfold car
  rw [List.take_succ_eq_append_getElem h, List.append_assoc, List.set_append_right _ _ (by simp; omega)]
  simp only [List.length_take, Nat.min_eq_left (Nat.le_of_lt h), Nat.sub_self, List.singleton_append, List.set_cons_zero]
  rw [← List.replicate_succ, show l.length - (j + 1) + 1 = l.length - j by omega]
theorem car_inc {l : List Int} {j : Nat} (h : j < l.length) (h5 : l.drop (j + 1) = List.replicate (l.length - (j + 1)) 255) (hx : l[j] ≠ 255) : (car l (j + 1)).set j (l[j] + 1) = inc l := by
  have e : l = l.take j ++ l[j] :: List.replicate (l.length - (j + 1)) 255 := by
    rw [← h5, ← List.drop_eq_getElem_cons h, List.take_append_drop]
  have e2 : inc l = l.take j ++ (l[j] + 1) :: List.replicate (l.length - (j + 1)) 0 := by
    conv => lhs; rw [e]
    exact inc_at _ _ _ hx
  rw [e2]
  unfold car
  rw [List.take_succ_eq_append_getElem h, List.append_assoc, List.set_append_right _ _ (by simp; omega)]
  simp only [List.length_take, Nat.min_eq_left (Nat.le_of_lt h), Nat.sub_self, List.singleton_append, List.set_cons_zero]
theorem car_zero {l : List Int} (h5 : l.drop 0 = List.replicate (l.length - 0) 255) : car l 0 = inc l := by
  rw [List.drop_zero, Nat.sub_zero] at h5
  have : inc l = List.replicate l.length 0 := by
    conv => lhs; rw [h5]
    exact inc_all _
  rw [this]
  simp [car]
theorem car_next {l : List Int} {j : Nat} (h : j < l.length) (h5 : l.drop (j + 1) = List.replicate (l.length - (j + 1)) 255) (hx : l[j] = 255) : l.drop j = List.replicate (l.length - j) 255 := by
  rw [List.drop_eq_getElem_cons h, h5, hx, ← List.replicate_succ, show l.length - (j + 1) + 1 = l.length - j by omega]
theorem wrap8 {x : Int} (h : 0 ≤ x ∧ x < 256) : IntKind.u8.wrap (x + 1) = if x = 255 then 0 else x + 1 := by
  split
  · rename_i e; subst e; decide
  · exact IntWalk.u8_in _ (by omega)
set_option maxHeartbeats 1000000 in
theorem more_any (gt cap base : Nat) (l : List Int) (w : World) (ho : w.ownsRow base 5 1 (.slice (some ⟨gt, 0, none⟩) l.length cap) l.length (l.flatMap byc)) (hB : okB l) (hl : l.length ≤ 9223372036854775807) :
    Calls Tryz.prog 102 #[.slice (some ⟨gt, 0, none⟩) l.length cap] w fun e w' => e = .returned (.tuple #[]) ∧ w'.ownsRow base 5 1 (.slice (some ⟨gt, 0, none⟩) l.length cap) l.length ((inc l).flatMap byc) ∧ But [gt] w w' := by
  have i0 : IntKind.i64.wrap ((l.length : Int) - 1) = (l.length : Int) - 1 := IntWalk.i64_in _ (by omega)
  replace ho := hide ho
  go_enter Tryz.func102, Tryz.ntmps102
  go_wp2_with fail
  clear i0
  go_loopw [2] (fun i wr => ∃ (j : Nat), j ≤ l.length ∧ i = .int .i64 ((j : Int) - 1) ∧ Hid (l.drop j = List.replicate (l.length - j) 255) ∧ Hid (wr.ownsRow base 5 1 (.slice (some ⟨gt, 0, none⟩) l.length cap) l.length ((car l j).flatMap byc)) ∧ Hid (But [gt] w wr)) (fun i _ => (intOf i + 1).toNat)
  case atStart => exact ⟨l.length, Nat.le_refl _, rfl, hide (by simp), hide (by rw [car_top]; exact unhide ho), hide (But.refl _ _)⟩
  case round =>
    obtain ⟨j, hj, rfl, h5, ho1, hb⟩ := hrel
    cases j with
    | zero =>
      have e1 := car_zero (unhide h5)
      have ho2 := unhide ho1
      rw [e1] at ho2
      replace ho2 := hide ho2
      clear ho ho1 e1 h5
      go_wp2_with fail
      refine bodyPost_end (results_none rfl _ _ _) rfl ?_
      exact ⟨rfl, unhide ho2, unhide hb⟩
    | succ j =>
      have hjl : j < l.length := by omega
      obtain ⟨g0, cur, e0, hb0, hK⟩ := own_pos (unhide ho1) (by omega)
      injection e0 with e0
      injection e0 with e0
      subst e0
      have hx := (own_cell (unhide ho1) j hjl).trans (byc_at _ j (by rw [car_len (by omega)]; exact hjl))
      rw [car_get hjl] at hx
      have hf := hK.frozen j
      have hx8 := hB l[j] (List.getElem_mem _)
      have hwr := wrap8 hx8
      have j0 : IntKind.i64.wrap ((j : Int) - 1) = (j : Int) - 1 := IntWalk.i64_in _ (by omega)
      have j1 : ((j + 1 : Nat) : Int) - 1 = (j : Int) := by omega
      have j2 : (0 : Int) ≤ (j : Int) := by omega
      have j3 : (j : Int) < (l.length : Int) := by omega
      rw [j1]
      by_cases h255 : l[j] = 255
      · have ho2 := own_put (k := j) (unhide ho1) (.int .u8 0)
        rw [byc_set, car_set hjl] at ho2
        have h5' := car_next hjl (unhide h5) h255
        rw [h255] at hx hwr
        simp only [if_true] at hwr
        have hb2 := (unhide hb).set (p := ⟨gt, j, none⟩) (by simp) (.int .u8 0)
        replace ho2 := hide ho2; replace h5' := hide h5'; replace hb2 := hide hb2
        clear ho ho1 h5 hb hK h255 hx8
        go_wp2_with fail
        clear j0 hwr
        go_roundw
        case rel => exact ⟨j, by omega, rfl, h5', ho2, hb2⟩
        case measure => simp [intOf]
      · have ho2 := own_put (k := j) (unhide ho1) (.int .u8 (l[j] + 1))
        rw [byc_set, car_inc hjl (unhide h5) h255] at ho2
        rw [if_neg h255] at hwr
        have hne : (l[j] + 1 == 0) = false := by simp; omega
        have hne' : (l[j] + 1 != 0) = true := by simp; omega
        have hb2 := (unhide hb).set (p := ⟨gt, j, none⟩) (by simp) (.int .u8 (l[j] + 1))
        replace ho2 := hide ho2; replace hb2 := hide hb2
        clear ho ho1 h5 hb hK h255 hx8
        generalize l[j] = x at *
        go_wp2_with fail
        refine bodyPost_ret (results_none rfl _ _ _) rfl ?_
        exact ⟨rfl, unhide ho2, unhide hb2⟩
set_option maxHeartbeats 1000000 in
theorem add_any (g gt cap base : Nat) (s low p : Int) (cv : Value) (l : List Int) (w : World) (hK : Blk w g 125 #[.int .u32 s, cv, .slice (some ⟨gt, 0, none⟩) l.length cap, .int .u32 low])
    (ho : w.ownsRow base 5 1 (.slice (some ⟨gt, 0, none⟩) l.length cap) l.length (l.flatMap byc)) (hB : okB l) (hl : l.length ≤ 9223372036854775807) (h1 : 0 ≤ low ∧ low < 4294967296) (h2 : 0 ≤ p ∧ p < 4294967296) :
    Calls Tryz.prog 120 #[.pointer (some ⟨g, 0, none⟩), .int .u32 p] w fun e w' => e = .returned (.tuple #[]) ∧ Blk w' g 125 #[.int .u32 s, cv, .slice (some ⟨gt, 0, none⟩) l.length cap, .int .u32 ((low + p) % 4294967296)] ∧
      w'.ownsRow base 5 1 (.slice (some ⟨gt, 0, none⟩) l.length cap) l.length ((if 4294967296 ≤ low + p then inc l else l).flatMap byc) ∧ But [g, gt] w w' := by
  have hw : IntKind.u32.wrap (low + p) = (low + p) % 4294967296 := IntKind.wrap_u32 _
  have c0 := hK.cell 2
  have c1 := hK.cell 3
  have c2 := hK.frozen 3
  simp at c0 c1
  have K1 := hK.set 3 (.int .u32 ((low + p) % 4294967296))
  simp at K1
  have ho1 := own_far ho hK (by decide) 3 (.int .u32 ((low + p) % 4294967296))
  have hb1 := (But.refl [g, gt] w).set (p := ⟨g, 3, none⟩) (by simp) (.int .u32 ((low + p) % 4294967296))
  by_cases hc : 4294967296 ≤ low + p
  · rw [if_pos hc]
    have hlt : (low + p) % 4294967296 < p := by omega
    generalize (low + p) % 4294967296 = z at *
    have i0 : IntKind.i64.wrap ((l.length : Int) - 1) = (l.length : Int) - 1 := IntWalk.i64_in _ (by omega)
    have hd : decide (p ≤ z) = false := by simp; omega
    have hgt : g ≠ gt := by
      rintro rfl
      rcases ho.2 with ⟨e, _⟩ | ⟨g', _, cur, e, _, hh, _⟩
      · cases e
      · injection e with e
        injection e with e
        injection e with e
        subst e
        exact (Blk.ne_ (t := 5) (cs := cur) hh hK (by decide)) rfl
    replace K1 := hide K1; replace ho1 := hide ho1; replace hb1 := hide hb1
    clear hK ho hc hlt
    go_enter Tryz.func120, Tryz.ntmps120
    go_wp2_with fail
    generalize w.setCell ⟨g, 3, none⟩ (.int .u32 z) = w1 at *
    have c0' := (unhide K1).cell 2
    simp at c0'
    clear i0 hw c0 c1 c2 hd
    go_loopw [4] (fun i wr => ∃ (j : Nat), j ≤ l.length ∧ i = .int .i64 ((j : Int) - 1) ∧ Hid (l.drop j = List.replicate (l.length - j) 255) ∧ Hid (Blk wr g 125 #[.int .u32 s, cv, .slice (some ⟨gt, 0, none⟩) l.length cap, .int .u32 z]) ∧ Hid (wr.ownsRow base 5 1 (.slice (some ⟨gt, 0, none⟩) l.length cap) l.length ((car l j).flatMap byc)) ∧ Hid (But [g, gt] w wr)) (fun i _ => (intOf i + 1).toNat)
    case atStart => exact ⟨l.length, Nat.le_refl _, rfl, hide (by simp), K1, hide (by rw [car_top]; exact unhide ho1), hb1⟩
    case round =>
      obtain ⟨j, hj, rfl, h5, hK, ho1, hb⟩ := hrel
      cases j with
      | zero =>
        have e1 := car_zero (unhide h5)
        have ho2 := unhide ho1
        rw [e1] at ho2
        replace ho2 := hide ho2
        clear ho1 e1 h5
        go_wp2_with fail
        refine bodyPost_end (results_none rfl _ _ _) rfl ?_
        exact ⟨rfl, unhide hK, unhide ho2, unhide hb⟩
      | succ j =>
        have hjl : j < l.length := by omega
        obtain ⟨g0, cur, e0, hb0, hG⟩ := own_pos (unhide ho1) (by omega)
        injection e0 with e0
        injection e0 with e0
        subst e0
        have hx := (own_cell (unhide ho1) j hjl).trans (byc_at _ j (by rw [car_len (by omega)]; exact hjl))
        rw [car_get hjl] at hx
        have hf := hG.frozen j
        have hx8 := hB l[j] (List.getElem_mem _)
        have hwr := wrap8 hx8
        have c3 := (unhide hK).cell 2
        simp at c3
        have j0 : IntKind.i64.wrap ((j : Int) - 1) = (j : Int) - 1 := IntWalk.i64_in _ (by omega)
        have j1 : ((j + 1 : Nat) : Int) - 1 = (j : Int) := by omega
        have j2 : (0 : Int) ≤ (j : Int) := by omega
        have j3 : (j : Int) < (l.length : Int) := by omega
        rw [j1]
        by_cases h255 : l[j] = 255
        · have ho2 := own_put (k := j) (unhide ho1) (.int .u8 0)
          rw [byc_set, car_set hjl] at ho2
          have h5' := car_next hjl (unhide h5) h255
          rw [h255] at hx hwr
          simp only [if_true] at hwr
          have hb2 := (unhide hb).set (p := ⟨gt, j, none⟩) (by simp) (.int .u8 0)
          have hK2 := (unhide hK).far (p := ⟨gt, j, none⟩) hgt (.int .u8 0)
          replace ho2 := hide ho2; replace h5' := hide h5'; replace hb2 := hide hb2; replace hK2 := hide hK2
          clear ho1 h5 hb hG h255 hx8 hK
          go_wp2_with fail
          clear j0 hwr
          go_roundw
          case rel => exact ⟨j, by omega, rfl, h5', hK2, ho2, hb2⟩
          case measure => simp [intOf]
        · have ho2 := own_put (k := j) (unhide ho1) (.int .u8 (l[j] + 1))
          rw [byc_set, car_inc hjl (unhide h5) h255] at ho2
          rw [if_neg h255] at hwr
          have hne : (l[j] + 1 == 0) = false := by simp; omega
          have hne' : (l[j] + 1 != 0) = true := by simp; omega
          have hb2 := (unhide hb).set (p := ⟨gt, j, none⟩) (by simp) (.int .u8 (l[j] + 1))
          have hK2 := (unhide hK).far (p := ⟨gt, j, none⟩) hgt (.int .u8 (l[j] + 1))
          replace ho2 := hide ho2; replace hb2 := hide hb2; replace hK2 := hide hK2
          clear ho1 h5 hb hG h255 hx8 hK
          generalize l[j] = x at *
          go_wp2_with fail
          refine bodyPost_ret (results_none rfl _ _ _) rfl ?_
          exact ⟨rfl, unhide hK2, unhide ho2, unhide hb2⟩
  · rw [if_neg hc]
    have hge : decide (p ≤ (low + p) % 4294967296) = true := by simp; omega
    generalize (low + p) % 4294967296 = z at *
    replace K1 := hide K1; replace ho1 := hide ho1; replace hb1 := hide hb1
    clear hK ho hc
    go_enter Tryz.func120, Tryz.ntmps120
    go_wp2_with fail
    refine bodyPost_ret (results_none rfl _ _ _) rfl ?_
    exact ⟨rfl, unhide K1, unhide ho1, unhide hb1⟩
theorem run_app_at {P : Program} (w : World) (base : Nat) (t ty e : TypeId) (i : TypeInfo) (z : Value) (size bytes : Nat) (ht : P.underlying t = some (.slice e)) (hi : P.info? e = some i) (hz : i.zero = some z)
    (hsize : i.size = size) (hby : i.bytes = bytes) (hzs : z.cells.size = size) (hsz : 0 < size)
    (v : Value) (n : Nat) (xs : List Value) (hown : w.ownsRow base e size v n xs)
    (A : Option Addr) (m c : Nat) (news : List Value) (hl : news.length = m * size) (hr : SrcOk w A m news) (h1 : ∀ u ∈ news, u.oneCell' = true)
    (h63 : n + m ≤ maxLen) (hbytes : (n + m) * bytes ≤ 140737488355328) (hbase : base ≤ w.heap.size) :
    ∃ v' w', (Builtin.append_ #[t, t] ty #[v, .slice A m c]).run P w = .ok v' w' ∧ w'.ownsRow base e size v' (n + m) (xs ++ news) ∧ w.grownBy w' v.ownBlock ∧ (v'.ownBlock = v.ownBlock ∨ v'.ownBlock = some w.heap.size) := by
  rcases Nat.eq_zero_or_pos m with rfl | hm
  · have hn : news = [] := List.eq_nil_of_length_eq_zero (by simpa using hl)
    subst hn
    rcases A with _ | ad
    · refine ⟨v, w, ?_, by simpa using hown, World.grownBy.refl w _, .inl rfl⟩
      rcases hown.2 with ⟨rfl, rfl⟩ | ⟨g, cap, cur, rfl, _, _, hnc, _⟩
      · simp [Builtin.append_, run_underlying ht, sizeOf, typeInfo, hi, Builtin.lenOf, Builtin.firstCells]
      · simp [Builtin.append_, run_underlying ht, sizeOf, typeInfo, hi, Builtin.lenOf, Builtin.firstCells, hnc, storeCells]
    · obtain ⟨v', w', a, b, c', _, d⟩ := run_append_own_at (P := P) w base t ty e i z size bytes ht hi hz hsize hby hzs hsz v n xs hown ad 0 c [] hl (by simp) h1 h63 hbytes hbase
      exact ⟨v', w', a, b, c', d⟩
  · obtain ⟨ad, rfl, hc⟩ := hr hm
    obtain ⟨v', w', a, b, c', _, d⟩ := run_append_own_at (P := P) w base t ty e i z size bytes ht hi hz hsize hby hzs hsz v n xs hown ad m c news hl hc h1 h63 hbytes hbase
    exact ⟨v', w', a, b, c', d⟩
theorem wp_app_at {P : Program} (w : World) {o : Oper} {a : Act} {K : Act → World → Prop} {Q : Exit → Act → World → Prop} (s x : Operand) (t : TypeId)
    (ho : o.op = .call { callee := .builtin .append, args := #[s, x], argTypes := #[t, t] })
    (base : Nat) (e : TypeId) (i : TypeInfo) (z : Value) (size bytes : Nat) (ht : P.underlying t = some (.slice e)) (hi : P.info? e = some i) (hz : i.zero = some z)
    (hsize : i.size = size) (hby : i.bytes = bytes) (hzs : z.cells.size = size) (hsz : 0 < size)
    (v : Value) (n : Nat) (xs : List Value) (hs : a.eval s = v) (hown : w.ownsRow base e size v n xs)
    (A : Option Addr) (m c : Nat) (news : List Value) (hx : a.eval x = .slice A m c) (hl : news.length = m * size) (hr : SrcOk w A m news) (h1 : ∀ u ∈ news, u.oneCell' = true)
    (h63 : n + m ≤ maxLen) (hbytes : (n + m) * bytes ≤ 140737488355328) (hbase : base ≤ w.heap.size)
    (h : ∀ v' w', w'.ownsRow base e size v' (n + m) (xs ++ news) → w.grownBy w' v.ownBlock → (v'.ownBlock = v.ownBlock ∨ v'.ownBlock = some w.heap.size) → K (a.put o.dst v') w') : o.wp P a w K Q := by
  obtain ⟨v', w', hr, h2, h3, h4⟩ := run_app_at (P := P) w base t o.type e i z size bytes ht hi hz hsize hby hzs hsz v n xs hown A m c news hl hr h1 h63 hbytes hbase
  unfold Oper.wp execOp
  simp only [ho, resolve, invoke, builtin, Sem.run_bind, Sem.run_pure, Result.andThen_ok, List.map_toArray, List.map_cons, List.map_nil, hs, hx, hr]
  exact h v' w' h2 h3 h4
theorem step_app_at {P : Program} {ops : Array Oper} {o : Oper} {a : Act} {w : World} {K : Act → World → Prop} {Q : Exit → Act → World → Prop} {E : Prop} (hgd : o.guard = none) (s x : Operand) (t : TypeId)
    (ho : o.op = .call { callee := .builtin .append, args := #[s, x], argTypes := #[t, t] })
    (base : Nat) (e : TypeId) (i : TypeInfo) (z : Value) (size bytes : Nat) (ht : P.underlying t = some (.slice e)) (hi : P.info? e = some i) (hz : i.zero = some z)
    (hsize : i.size = size) (hby : i.bytes = bytes) (hzs : z.cells.size = size) (hsz : 0 < size)
    (v : Value) (n : Nat) (xs : List Value) (hs : a.eval s = v) (hown : w.ownsRow base e size v n xs)
    (A : Option Addr) (m c : Nat) (news : List Value) (hx : a.eval x = .slice A m c) (hl : news.length = m * size) (hr : SrcOk w A m news) (h1 : ∀ u ∈ news, u.oneCell' = true)
    (h63 : n + m ≤ maxLen) (hbytes : (n + m) * bytes ≤ 140737488355328) (hbase : base ≤ w.heap.size)
    (h : ∀ v' w', w'.ownsRow base e size v' (n + m) (xs ++ news) → w.grownBy w' v.ownBlock → (v'.ownBlock = v.ownBlock ∨ v'.ownBlock = some w.heap.size) → K (a.put o.dst v') w') :
    if Region.wanted o (yielded ops a.tmps) = true then Oper.wp P o a w K Q else E := by
  have hw : Region.wanted o (yielded ops a.tmps) = true := by simp [Region.wanted, hgd]
  rw [if_pos hw]
  exact wp_app_at w s x t ho base e i z size bytes ht hi hz hsize hby hzs hsz v n xs hs hown A m c news hx hl hr h1 h63 hbytes hbase h
theorem Blk.grown {w w' : World} {g : Nat} {t : TypeId} {cs : Array Value} {row : Option Nat} (h : Blk w g t cs) (hg : w.grownBy w' row) (hne : some g ≠ row) : Blk w' g t cs := (hg.block g h.lt hne).trans h
theorem own_ne {w : World} {base : Nat} {e : TypeId} {size : Nat} {v : Value} {n : Nat} {xs : List Value} (h : w.ownsRow base e size v n xs) {g : Nat} {t : TypeId} {cs : Array Value} (hg : Blk w g t cs) (hne : e ≠ t) : some g ≠ v.ownBlock := by
  intro q
  rcases h.2 with ⟨rfl, _⟩ | ⟨g', cap, cur, rfl, _, hh, _⟩
  · cases q
  · injection q with q
    exact Blk.ne_ (t := e) (cs := cur) hh hg hne q.symm
theorem own_grown {w w' : World} {base : Nat} {e : TypeId} {size : Nat} {v : Value} {n : Nat} {xs : List Value} {row : Option Nat} (h : w.ownsRow base e size v n xs) (hg : w.grownBy w' row) (hne : ∀ k, v.ownBlock = some k → some k ≠ row) : w'.ownsRow base e size v n xs := by
  obtain ⟨h1, h2⟩ := h
  refine ⟨h1, ?_⟩
  rcases h2 with h2 | ⟨g, cap, cur, hv, hb, hh, r⟩
  · exact .inl h2
  · exact .inr ⟨g, cap, cur, hv, hb, (hg.block g (Blk.lt (t := e) (cs := cur) hh) (hne g (by rw [hv]; rfl))).trans hh, r⟩
theorem own_own {w : World} {base base' : Nat} {e e' : TypeId} {size size' : Nat} {v v' : Value} {n n' : Nat} {xs xs' : List Value} (h : w.ownsRow base e size v n xs) (h' : w.ownsRow base' e' size' v' n' xs') (hne : e ≠ e') : ∀ k, v.ownBlock = some k → some k ≠ v'.ownBlock := by
  intro k hk
  rcases h.2 with ⟨rfl, _⟩ | ⟨g, cap, cur, rfl, _, hh, _⟩
  · cases hk
  · injection hk with hk
    subst hk
    exact own_ne h' (t := e) (cs := cur) hh (Ne.symm hne)
theorem But.grown {S : List Nat} {a b c : World} {row : Option Nat} (h : But S a b) (hg : b.grownBy c row) (hr : ∀ k, row = some k → k ∈ S ∨ a.heap.size ≤ k) : But S a c :=
  ⟨hg.os.trans h.os, hg.tape.trans h.tape, hg.output.trans h.output, Nat.le_trans h.size hg.size, fun k hk hS => (hg.block k (by have := h.size; omega) (fun e => by rcases hr k e.symm with h1 | h1; exact hS h1; omega)).trans (h.block k hk hS)⟩
theorem info5 : (Tryz.prog.info? 5).map (fun i => (i.zero, i.size, i.bytes)) = some (some (.int .u8 0), 1, 1) := by kernel_rfl
theorem info5' : ∃ i, Tryz.prog.info? 5 = some i ∧ i.zero = some (.int .u8 0) ∧ i.size = 1 ∧ i.bytes = 1 := info_parts info5
end Go.Proofs.YthkccpemgmpadaaGreatDoor.P

namespace Go.Proofs.YthkccpemgmpadaaGreatDoor.P
set_option maxRecDepth 100000
open Go.RowKit
structure Wrt (base g gc cc gt ct : Nat) (w : World) (c : List Int) (span low : Int) (text : List Int) : Prop where
  blk : Blk w g 125 #[.int .u32 span, .slice (some ⟨gc, 0, none⟩) c.length cc, .slice (some ⟨gt, 0, none⟩) text.length ct, .int .u32 low]
  c : w.ownsRow base 3 1 (.slice (some ⟨gc, 0, none⟩) c.length cc) c.length (c.flatMap ivc)
  text : w.ownsRow base 5 1 (.slice (some ⟨gt, 0, none⟩) text.length ct) text.length (text.flatMap byc)
theorem own_not {w : World} {base : Nat} {e : TypeId} {size g n c : Nat} {xs : List Value} (h : w.ownsRow base e size (.slice (some ⟨g, 0, none⟩) n c) n xs) {t : TypeId} {cs : Array Value} (hne : e ≠ t) : ¬ Blk w g t cs := by
  intro hB
  exact own_ne h hB hne rfl
set_option maxHeartbeats 4000000 in
theorem put_true (base g gc cc gt ct k : Nat) (s : Enc) (w : World) (hW : Wrt base g gc cc gt ct w s.c s.span s.low s.text) (hk : k < s.c.length) (h : OkE s) (hl : s.text.length ≤ 1000000) :
    Calls Tryz.prog 92 #[.pointer (some ⟨g, 0, none⟩), .agg #[.int .i64 k, .bool true]] w fun e w' => e = .returned (.tuple #[]) ∧ ∃ gt' ct', Wrt base g gc cc gt' ct' w' (put s ⟨k, true⟩).c (put s ⟨k, true⟩).span (put s ⟨k, true⟩).low (put s ⟨k, true⟩).text ∧ But [g, gc, gt] w w' := by
  have hx := (own_cell hW.c k hk).trans (ivc_at s.c k hk)
  have hpc := (okC_iff.1 h.c).2 _ (List.getElem_mem hk)
  have hpo := part_ok h.c (i := (k : Int)) (by omega) (by omega) h.span
  have hpp : partP s.span s.c (k : Int) = s.span / 2048 * s.c[k] := by unfold partP; rw [Int.toNat_natCast, getD_get hk]
  have hP := fun W (a : W.cell? ⟨g, 0, none⟩ = some (.int .u32 s.span)) (b : W.cell? ⟨g, 1, none⟩ = some (.slice (some ⟨gc, 0, none⟩) s.c.length cc)) (c : W.cell? ⟨gc, k, none⟩ = some (.int .i64 s.c[k])) => part_any g gc s.c.length cc k s.span s.c[k] W a b hk c h.span hpc
  rw [← hpp] at hP
  have hsp := h.span
  have hlo := h.low
  have hA := fun W a b => add_any g gt ct base s.span s.low (partP s.span s.c (k : Int)) (.slice (some ⟨gc, 0, none⟩) s.c.length cc) s.text W a b h.text (by omega) h.low (by omega)
  have hLf := fun W a => left_any g s.span (partP s.span s.c (k : Int)) true W a (by omega) (by omega)
  have hLn := fun W a b => learn_any g gc cc k base s.c true W a hk b h.c
  obtain ⟨hK, hc, ht⟩ := hW
  have c0 := hK.cell 0
  have c1 := hK.cell 1
  simp at c0 c1
  have hgl := hK.lt
  have hgc : gc < w.heap.size := World.block_lt_of_cell? w _ hx
  have hb0 : Blk (w.alloc (.cells #[.int .i64 k, .bool true] 121)) w.heap.size 121 #[.int .i64 k, .bool true] := Blk.new rfl
  have hK0 := hK.alloc (.cells #[.int .i64 k, .bool true] 121)
  have hc0 := hc.alloc (.cells #[.int .i64 k, .bool true] 121)
  have ht0 := ht.alloc (.cells #[.int .i64 k, .bool true] 121)
  have hx0 := (own_cell hc0 k hk).trans (ivc_at s.c k hk)
  obtain ⟨w1, hw1⟩ : ∃ w1, w1 = w.alloc (.cells #[.int .i64 k, .bool true] 121) := ⟨_, rfl⟩
  rw [← hw1] at hb0 hK0 hc0 ht0 hx0
  have d0 : w1.cell? ⟨g, 0, none⟩ = some (.int .u32 s.span) := hK0.cell 0
  have d1 : w1.cell? ⟨g, 1, none⟩ = some (.slice (some ⟨gc, 0, none⟩) s.c.length cc) := hK0.cell 1
  have e0 : w1.cell? ⟨w.heap.size, 0, none⟩ = some (.int .i64 k) := hb0.cell 0
  have e1 : w1.cell? ⟨w.heap.size, 1, none⟩ = some (.bool true) := hb0.cell 1
  have hB0 : But [g, gc, gt] w w1 := by rw [hw1]; exact (But.refl _ _).alloc _
  replace hP := hide hP; replace hA := hide hA; replace hLf := hide hLf; replace hLn := hide hLn; replace hpo := hide hpo
  replace hK0 := hide hK0; replace hc0 := hide hc0; replace ht0 := hide ht0; replace hb0 := hide hb0; replace hB0 := hide hB0
  generalize hz : partP s.span s.c (k : Int) = z at *
  generalize s.c[k] = p at *
  clear hpp hpc hK hc ht c0 c1 hx
  go_enter Tryz.func92, Tryz.ntmps92
  go_wp2_with fail
  rw [← hw1]
  clear hw1
  generalize w.heap.size = gb at *
  go_quiet ((go_at_call 119; exact Calls.quiet_of (unhide hP _ d0 d1 hx0)))
  obtain ⟨w2, hw2⟩ : ∃ w2, w2 = w1.drewN nq := ⟨_, rfl⟩
  have K2 := (unhide hK0).drewN nq
  have b2 := (unhide hb0).drewN nq
  have r2 : (w1.drewN nq).ownsRow base 3 1 (.slice (some ⟨gc, 0, none⟩) s.c.length cc) s.c.length (s.c.flatMap ivc) := unhide hc0
  have t2 : (w1.drewN nq).ownsRow base 5 1 (.slice (some ⟨gt, 0, none⟩) s.text.length ct) s.text.length (s.text.flatMap byc) := unhide ht0
  have B2 := (unhide hB0).drewN nq
  rw [← hw2] at K2 b2 r2 t2 B2 ⊢
  clear hw2 hK0 hb0 hc0 ht0 hB0 d0 d1 e0 e1 hx0
  have n1 : gb ≠ g := b2.ne_ K2 (by decide)
  have n2 : gb ≠ gt := fun e => own_not t2 (by decide : (5 : TypeId) ≠ 121) (e ▸ b2)
  have n3 : gb ≠ gc := fun e => own_not r2 (by decide : (3 : TypeId) ≠ 121) (e ▸ b2)
  have n4 : g ≠ gc := fun e => own_not r2 (by decide : (3 : TypeId) ≠ 125) (e ▸ K2)
  have n5 : g ≠ gt := fun e => own_not t2 (by decide : (5 : TypeId) ≠ 125) (e ▸ K2)
  have n6 : gt ≠ gc := fun e => by
    obtain ⟨_, cur, e1, _, hh⟩ := own_pos r2 (by omega)
    injection e1 with e1
    injection e1 with e1
    subst e1 e
    exact own_not t2 (by decide : (5 : TypeId) ≠ 3) hh
  have e1 : w2.cell? ⟨gb, 1, none⟩ = some (.bool true) := b2.cell 1
  replace K2 := hide K2; replace b2 := hide b2; replace r2 := hide r2; replace t2 := hide t2; replace B2 := hide B2
  replace n1 := hide n1; replace n2 := hide n2; replace n3 := hide n3; replace n4 := hide n4; replace n5 := hide n5; replace n6 := hide n6
  go_wp2_with (first
    | (go_at_call 120; refine (unhide hA _ (unhide K2) (unhide t2)).mono ?_; rintro e w3 ⟨rfl, K3, t3, B3⟩)
    | fail)
  have r3 := own_but (unhide r2) B3 (fun q hq cs hcs => by
    simp only [List.mem_cons, List.not_mem_nil, or_false] at hq
    rcases hq with rfl | rfl
    · exact (hcs.ne_ (unhide K2) (by decide)) rfl
    · exact own_not (unhide t2) (by decide : (5 : TypeId) ≠ 3) hcs)
  have b3 := (unhide b2).but B3 (by simp [unhide n1, unhide n2])
  replace B3 := (unhide B2).trans (B3.mono (by simp))
  have f1 : w3.cell? ⟨gb, 1, none⟩ = some (.bool true) := b3.cell 1
  have f0 : w3.cell? ⟨g, 0, none⟩ = some (.int .u32 s.span) := K3.cell 0
  have f2 := K3.frozen 0
  have hl1 : (if 4294967296 ≤ s.low + z then inc s.text else s.text).length = s.text.length := by split; exact inc_len _; rfl
  generalize hT : (if 4294967296 ≤ s.low + z then inc s.text else s.text) = T at *
  generalize hL : (s.low + z) % 4294967296 = L at *
  clear e1 b2 r2 t2 K2 B2
  replace K3 := hide K3; replace b3 := hide b3; replace r3 := hide r3; replace t3 := hide t3; replace B3 := hide B3; replace hT := hide hT; replace hL := hide hL; replace hl1 := hide hl1
  simp only [if_true] at hLf
  go_region_held3 (fun W => W.cell? ⟨gb, 1, none⟩ = some (.bool true)) (first | assumption | go_simp)
    (first
      | (go_at_call 121; refine (unhide hLf _ (by first | assumption | exact f0)).mono ?_; rintro e w1 ⟨rfl, rfl⟩))
  obtain ⟨w4, hw4⟩ : ∃ w4, w4 = (w3.setCell ⟨g, 0, none⟩ (.int .u32 (s.span - z))).drew := ⟨_, rfl⟩
  have K4 := ((unhide K3).set 0 (.int .u32 (s.span - z))).drew
  simp at K4
  have b4 := ((unhide b3).far (p := ⟨g, 0, none⟩) (unhide n1) (.int .u32 (s.span - z))).drew
  have r4 := own_drew (own_far (unhide r3) (unhide K3) (by decide) 0 (.int .u32 (s.span - z)))
  have t4 := own_drew (own_far (unhide t3) (unhide K3) (by decide) 0 (.int .u32 (s.span - z)))
  have B4 := ((unhide B3).set (p := ⟨g, 0, none⟩) (by simp) (.int .u32 (s.span - z))).drew
  rw [← hw4] at K4 b4 r4 t4 B4 ⊢
  clear hw4 K3 b3 r3 t3 B3 f0 f1 f2
  have g0 : w4.cell? ⟨gb, 0, none⟩ = some (.int .i64 k) := b4.cell 0
  have g1 : w4.cell? ⟨gb, 1, none⟩ = some (.bool true) := b4.cell 1
  have g2 : w4.cell? ⟨g, 1, none⟩ = some (.slice (some ⟨gc, 0, none⟩) s.c.length cc) := K4.cell 1
  replace K4 := hide K4; replace b4 := hide b4; replace r4 := hide r4; replace t4 := hide t4; replace B4 := hide B4
  generalize hG : s.span - z = G at *
  replace hG := hide hG
  go_wp2_with fail
  go_region_held3 (fun W => W.cell? ⟨gb, 0, none⟩ = some (.int .i64 k) ∧ W.cell? ⟨gb, 1, none⟩ = some (.bool true)) (first | exact ⟨by assumption, by assumption⟩ | exact ⟨by go_simp, by go_simp⟩)
    (first
      | (go_at_call 122; refine (unhide hLn w4.drew g2 (own_drew (unhide r4))).mono ?_; rintro e w5 ⟨rfl, r5, B5⟩
         have h0 : w5.cell? ⟨gb, 0, none⟩ = some (.int .i64 k) := ((unhide b4).drew.but B5 (by simp [unhide n3])).cell 0
         have h1 : w5.cell? ⟨gb, 1, none⟩ = some (.bool true) := ((unhide b4).drew.but B5 (by simp [unhide n3])).cell 1
         replace r5 := hide r5; replace B5 := hide B5))
  have K5 := (unhide K4).drew.but (unhide B5) (by simp [unhide n4])
  have t5 := own_but (own_drew (unhide t4)) (unhide B5) (fun q hq cs hcs => by
    simp only [List.mem_cons, List.not_mem_nil, or_false] at hq
    subst hq
    obtain ⟨_, cur, e1, _, hh⟩ := own_pos (unhide r4) (by omega)
    injection e1 with e1
    injection e1 with e1
    subst e1
    exact (Blk.ne_ (w := w4.drew) hh hcs (by decide)) rfl)
  have B6 : But [g, gc, gt] w w5 := (unhide B4).drew.trans ((unhide B5).mono (by simp))
  have hbase : base ≤ w5.heap.size := by
    obtain ⟨_, cur, e1, h2, hh⟩ := own_pos (unhide r5) (by omega)
    have := hh.lt
    omega
  clear K4 b4 r4 t4 B4 B5 g0 g1 g2 h0 h1
  replace K5 := hide K5; replace t5 := hide t5; replace B6 := hide B6; replace hbase := hide hbase
  have hL0 : 0 ≤ L ∧ L < 4294967296 := by have := unhide hL; omega
  have hG0 : 253952 ≤ G ∧ G < 4294967296 := by have := unhide hG; have := unhide hpo; omega
  have hT1 : T.length = s.text.length := unhide hl1
  have hput1 : put1 s ⟨k, true⟩ = ⟨stepA s.c ⟨k, true⟩, G, L, T⟩ := by
    unfold put1
    simp only [hz, unhide hG, if_true, true_and, unhide hL, unhide hT]
  replace hput1 := hide hput1; replace hT1 := hide hT1
  clear hpo hG hL hT hA hLf hLn hP hl1
  obtain ⟨i5, hi5, iz0, iz1, iz2⟩ := info5'
  go_wp2_with fail
  go_loopg [] 1 (fun kk wr => ∃ (sp lo : Int) (tx : List Int) (gt' ct' : Nat), ((kk = 1 ∧ sp = G ∧ lo = L ∧ tx = T ∧ gt' = gt) ∨ (kk = 0 ∧ G < 16777216 ∧ sp = G * 256 ∧ lo = L % 16777216 * 256 ∧ tx = T ++ [L / 16777216])) ∧
    Hid (Blk wr g 125 #[.int .u32 sp, .slice (some ⟨gc, 0, none⟩) s.c.length cc, .slice (some ⟨gt', 0, none⟩) tx.length ct', .int .u32 lo]) ∧
    Hid (wr.ownsRow base 3 1 (.slice (some ⟨gc, 0, none⟩) s.c.length cc) s.c.length ((stepA s.c ⟨k, true⟩).flatMap ivc)) ∧ Hid (wr.ownsRow base 5 1 (.slice (some ⟨gt', 0, none⟩) tx.length ct') tx.length (tx.flatMap byc)) ∧ Hid (But [g, gc, gt] w wr) ∧ Hid (base ≤ wr.heap.size))
  case atStart => exact ⟨G, L, T, gt, ct, .inl ⟨rfl, rfl, rfl, rfl, rfl⟩, by rw [unhide hT1]; exact K5, r5, by rw [unhide hT1]; exact t5, B6, hbase⟩
  case round =>
    obtain ⟨sp, lo, tx, gt', ct', hcase, hK, hr, ht, hB, hbs⟩ := hrel
    have c0 : wr.cell? ⟨g, 0, none⟩ = some (.int .u32 sp) := (unhide hK).cell 0
    have c2 : wr.cell? ⟨g, 2, none⟩ = some (.slice (some ⟨gt', 0, none⟩) tx.length ct') := (unhide hK).cell 2
    have c3 : wr.cell? ⟨g, 3, none⟩ = some (.int .u32 lo) := (unhide hK).cell 3
    have f0 := (unhide hK).frozen 0
    have f2 := (unhide hK).frozen 2
    have f3 := (unhide hK).frozen 3
    have hgl' := (unhide hK).lt
    rcases hcase with ⟨rfl, rfl, rfl, rfl, rfl⟩ | ⟨rfl, hlt, rfl, rfl, rfl⟩
    · by_cases hlt : sp < 16777216
      · have j1 : IntKind.u8.wrap (lo / 16777216) = lo / 16777216 := IntWalk.u8_in _ (by omega)
        have j2 : IntKind.u32.wrap (lo * 256) = lo % 16777216 * 256 := by rw [IntKind.wrap_u32]; omega
        have j3 : IntKind.u32.wrap (sp * 256) = sp * 256 := IntWalk.u32_in _ (by omega)
        have oA := own_drew ((unhide ht).alloc (.cells #[.int .u8 (lo / 16777216)] 5))
        have KA := ((unhide hK).alloc (.cells #[.int .u8 (lo / 16777216)] 5)).drew
        have sA : SrcOk (wr.alloc (.cells #[.int .u8 (lo / 16777216)] 5)).drew (some ⟨wr.heap.size, 0, none⟩) 1 [.int .u8 (lo / 16777216)] := SrcOk.blk (cur := [.int .u8 (lo / 16777216)]) (Blk.drew (Blk.new rfl)) fun j u hu => by simpa using hu
        have s1 : ∀ u ∈ [Value.int .u8 (lo / 16777216)], u.oneCell' = true := by intro u hu; simp at hu; subst hu; rfl
        have b0 := unhide hT1
        have b1 : tx.length + 1 ≤ maxLen := by simp only [maxLen]; omega
        have b2 : (tx.length + 1) * 1 ≤ 140737488355328 := by omega
        have b3 : base ≤ (wr.alloc (.cells #[.int .u8 (lo / 16777216)] 5)).drew.heap.size := by simp; have := unhide hbs; omega
        replace b0 := hide b0; replace oA := hide oA; replace KA := hide KA; replace sA := hide sA; replace s1 := hide s1; replace b1 := hide b1; replace b2 := hide b2; replace b3 := hide b3
        go_wp2_with fail
        go_region_law (first
          | (refine step_app_at rfl (.tmp 54) (.tmp 61) 29 rfl base 5 i5 _ 1 1 Tryz.underlying29 hi5 iz0 iz1 iz2 rfl (Nat.succ_pos _) _ tx.length (tx.flatMap byc) rfl (unhide oA) (some ⟨wr.heap.size, 0, none⟩) 1 1 [.int .u8 (lo / 16777216)] rfl rfl (unhide sA) (unhide s1) (unhide b1) (unhide b2) (unhide b3) ?_
             intro v6 w6 o6 g6 l6
             obtain ⟨A6, ct6, rfl⟩ := ownsRow_form o6
             have K6 := Blk.grown (unhide KA) g6 (own_ne (unhide oA) (unhide KA) (by decide))
             have x6 := K6.frozen 2
             have y6 := K6.cell 2
             simp at y6
             replace K6 := hide K6; replace o6 := hide o6; replace g6 := hide g6; replace l6 := hide l6))
        all_goals
          clear c0 c2 c3 f0 f2 f3 x6 y6
          obtain ⟨g7, _, e7, _, _⟩ := own_pos (unhide o6) (by omega)
          subst e7
          have K7 := (unhide K6).set 2 (.slice (some ⟨g7, 0, none⟩) (tx.length + 1) ct6)
          have o7 := own_far (unhide o6) (unhide K6) (by decide) 2 (.slice (some ⟨g7, 0, none⟩) (tx.length + 1) ct6)
          have r6 := own_grown (own_drew ((unhide hr).alloc (.cells #[.int .u8 (lo / 16777216)] 5))) (unhide g6) (own_own (own_drew ((unhide hr).alloc (.cells #[.int .u8 (lo / 16777216)] 5))) (unhide oA) (by decide))
          have r7 := own_far r6 (unhide K6) (by decide) 2 (.slice (some ⟨g7, 0, none⟩) (tx.length + 1) ct6)
          have B7 := ((((unhide hB).alloc (.cells #[.int .u8 (lo / 16777216)] 5)).drew.grown (unhide g6) (fun q hq => .inl (by injection hq with hq; simp [← hq]))).set (p := ⟨g, 2, none⟩) (by simp) (.slice (some ⟨g7, 0, none⟩) (tx.length + 1) ct6))
          have hbs7 : base ≤ w6.heap.size := Nat.le_trans (unhide b3) (unhide g6).size
          clear r6 hK hr ht hB hbs oA KA sA s1 b1 b2 b3 K6 o6 g6 l6
          have z7 : w6.heap.size = (w6.setCell ⟨g, 2, none⟩ (.slice (some ⟨g7, 0, none⟩) (tx.length + 1) ct6)).heap.size := by simp
          rw [z7] at hbs7
          clear z7
          generalize w6.setCell ⟨g, 2, none⟩ (.slice (some ⟨g7, 0, none⟩) (tx.length + 1) ct6) = w7 at *
          simp at K7
          have c3 : w7.cell? ⟨g, 3, none⟩ = some (.int .u32 lo) := K7.cell 3
          have c0 : w7.cell? ⟨g, 0, none⟩ = some (.int .u32 sp) := K7.cell 0
          have f0 := K7.frozen 0
          have f3 := K7.frozen 3
          have K8 := K7.set 3 (.int .u32 (lo % 16777216 * 256))
          simp at K8
          have K9 := K8.set 0 (.int .u32 (sp * 256))
          simp at K9
          have o9 := own_far (own_far o7 K7 (by decide) 3 (.int .u32 (lo % 16777216 * 256))) K8 (by decide) 0 (.int .u32 (sp * 256))
          have r9 := own_far (own_far r7 K7 (by decide) 3 (.int .u32 (lo % 16777216 * 256))) K8 (by decide) 0 (.int .u32 (sp * 256))
          have B9 := ((B7.set (p := ⟨g, 3, none⟩) (by simp) (.int .u32 (lo % 16777216 * 256))).set (p := ⟨g, 0, none⟩) (by simp) (.int .u32 (sp * 256)))
          clear o7 r7 B7 K8 K7
          replace K9 := hide K9; replace o9 := hide o9; replace r9 := hide r9; replace B9 := hide B9; replace hbs7 := hide hbs7
          go_wp2_with fail
          clear j1 j2 j3
          go_roundg 0
          case measure => omega
          case rel =>
            refine ⟨sp * 256, lo % 16777216 * 256, tx ++ [lo / 16777216], g7, ct6, .inr ⟨rfl, hlt, rfl, rfl, rfl⟩, ?_, r9, ?_, B9, ?_⟩
            · rw [List.length_append]; exact K9
            · rw [List.length_append, List.flatMap_append]; exact o9
            · exact hide (by simp; exact unhide hbs7)
      · have hp : put s ⟨k, true⟩ = ⟨stepA s.c ⟨k, true⟩, sp, lo, tx⟩ := by
          unfold put
          rw [unhide hput1]
          exact if_neg hlt
        replace hp := hide hp
        clear hput1
        go_wp2_with fail
        refine bodyPost_end (results_none rfl _ _ _) rfl ?_
        rw [unhide hp]
        exact ⟨rfl, ⟨gt', ct', ⟨by rw [stepA_len]; exact unhide hK, by rw [stepA_len]; exact unhide hr, unhide ht⟩⟩, unhide hB⟩
    · have hp : put s ⟨k, true⟩ = ⟨stepA s.c ⟨k, true⟩, G * 256, L % 16777216 * 256, T ++ [L / 16777216]⟩ := by
        unfold put
        rw [unhide hput1]
        exact if_pos hlt
      replace hp := hide hp
      clear hput1
      go_wp2_with fail
      refine bodyPost_end (results_none rfl _ _ _) rfl ?_
      rw [unhide hp]
      exact ⟨rfl, gt', ct', ⟨by rw [stepA_len]; exact unhide hK, by rw [stepA_len]; exact unhide hr, unhide ht⟩, unhide hB⟩
end Go.Proofs.YthkccpemgmpadaaGreatDoor.P
