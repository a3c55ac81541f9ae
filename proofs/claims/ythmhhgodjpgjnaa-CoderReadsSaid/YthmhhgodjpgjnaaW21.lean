import Derived.Test.YthmhhgodjpgjnaaW20
namespace Go.Proofs.Ythmhhgodjpgjnaa
open Go.RowKit

/-- Only these blocks have turned, and there may be new ones. -/
structure But (S : List Nat) (w w' : World) : Prop where
  os : w'.os = w.os
  tape : w'.tape = w.tape
  output : w'.output = w.output
  size : w.heap.size ≤ w'.heap.size
  block : ∀ k, k < w.heap.size → k ∉ S → w'.heap[k]? = w.heap[k]?
theorem But.refl (S : List Nat) (w : World) : But S w w := ⟨rfl, rfl, rfl, Nat.le_refl _, fun _ _ _ => rfl⟩
theorem But.trans {S : List Nat} {a b c : World} (h : But S a b) (k : But S b c) : But S a c :=
  ⟨k.os.trans h.os, k.tape.trans h.tape, k.output.trans h.output, Nat.le_trans h.size k.size, fun i hi hS => (k.block i (Nat.lt_of_lt_of_le hi h.size) hS).trans (h.block i hi hS)⟩
theorem But.mono {S T : List Nat} {a b : World} (h : But S a b) (hs : ∀ k ∈ S, k ∈ T) : But T a b := ⟨h.os, h.tape, h.output, h.size, fun i hi hT => h.block i hi fun hS => hT (hs i hS)⟩
theorem But.below {S : List Nat} {B : Nat} {a b : World} (h : But S a b) (hs : ∀ k ∈ S, B ≤ k) (hB : B ≤ a.heap.size) : Below B a b := ⟨h.os, h.tape, h.output, h.size, fun k hk => h.block k (by omega) fun hS => by have := hs k hS; omega⟩
theorem But.of_below {S : List Nat} {a b c : World} (h : But S a b) (hb : Below b.heap.size b c) : But S a c :=
  ⟨hb.os.trans h.os, hb.tape.trans h.tape, hb.output.trans h.output, Nat.le_trans h.size hb.size, fun k hk hS => (hb.block k (by have := h.size; omega)).trans (h.block k hk hS)⟩
theorem But.drew {S : List Nat} {a b : World} (h : But S a b) : But S a b.drew := ⟨h.os, h.tape, h.output, h.size, h.block⟩
theorem But.drewN {S : List Nat} {a b : World} (h : But S a b) (n : Nat) : But S a (b.drewN n) := ⟨h.os, h.tape, h.output, h.size, h.block⟩
theorem But.set {S : List Nat} {a b : World} (h : But S a b) {p : Addr} (hp : p.block ∈ S) (u : Value) : But S a (b.setCell p u) := by
  have hb : Below p.block b (b.setCell p u) := Below.setCell (Below.refl _ _) (Nat.le_refl _) u
  exact ⟨hb.os.trans h.os, hb.tape.trans h.tape, hb.output.trans h.output, Nat.le_trans h.size hb.size, fun k hk hS => (Below.heap_setCell b p u k (fun e => hS (e ▸ hp))).trans (h.block k hk hS)⟩
theorem But.alloc {S : List Nat} {a b : World} (h : But S a b) (o : Obj) : But S a (b.alloc o) := h.of_below ((Below.refl _ _).alloc (Nat.le_refl _) o)
theorem Blk.but {w w' : World} {g : Nat} {t : TypeId} {cs : Array Value} {S : List Nat} (h : Blk w g t cs) (hb : But S w w') (hS : g ∉ S) : Blk w' g t cs := (hb.block g h.lt hS).trans h

section
variable {w : World} {base n size : Nat} {e : TypeId} {A : Option Addr} {c : Nat} {xs : List Value}
theorem own_pos (h : w.ownsRow base e size (.slice A n c) n xs) (h0 : 0 < n) : ∃ g cur, A = some ⟨g, 0, none⟩ ∧ base ≤ g ∧ Blk w g e cur := by
  obtain ⟨h1, h2⟩ := h
  rcases h2 with ⟨h2, h3⟩ | ⟨g', cap', cur, hv, hb, hh, r1, r2, r3, r4⟩
  · omega
  · injection hv with e1 _ e3
    exact ⟨g', cur, e1, hb, hh⟩
theorem own_cell {g : Nat} (h : w.ownsRow base e 1 (.slice (some ⟨g, 0, none⟩) n c) n xs) (k : Nat) (hk : k < n) : w.cell? ⟨g, k, none⟩ = xs[k]? :=
  World.ownsRow.cellAt (w := w) (base := base) (e := e) (size := 1) (g := g) (n := n) (cap := c) (xs := xs) h k (by omega)
theorem own_put {g k : Nat} (h : w.ownsRow base e size (.slice (some ⟨g, 0, none⟩) n c) n xs) (u : Value) :
    (w.setCell ⟨g, k, none⟩ u).ownsRow base e size (.slice (some ⟨g, 0, none⟩) n c) n (xs.set k u) := by
  obtain ⟨h1, h2⟩ := h
  refine ⟨by rw [List.length_set]; exact h1, ?_⟩
  rcases h2 with ⟨h2, _⟩ | ⟨g', cap', cur, hv, hb, hh, r1, r2, r3, r4⟩
  · cases h2
  · injection hv with e1 _ e3
    injection e1 with e1
    injection e1 with e1
    subst e1 e3
    refine .inr ⟨g, c, cur.setIfInBounds k u, rfl, hb, heap_setCell_same w g k cur e u hh, r1, r2, by simpa using r3, ?_⟩
    rw [Array.toList_setIfInBounds, List.take_set, r4]
theorem own_len (h : w.ownsRow base e size (.slice A n c) n xs) : n ≤ c ∧ c ≤ 9223372036854775807 := by
  rcases h.2 with ⟨h1, h2⟩ | ⟨g', cap', cur, hv, hb, hh, r1, r2, r3, r4⟩
  · injection h1 with _ h3 h4
    omega
  · injection hv with _ _ h4
    subst h4
    exact ⟨r1, by simpa [maxLen] using r2⟩
theorem own_but {w' : World} {v : Value} {S : List Nat} (h : w.ownsRow base e size v n xs) (hb : But S w w') (hS : ∀ k ∈ S, ∀ cs, ¬ Blk w k e cs) : w'.ownsRow base e size v n xs := by
  obtain ⟨h1, h2⟩ := h
  refine ⟨h1, ?_⟩
  rcases h2 with h2 | ⟨g, cap, cur, hv, hg, hh, r⟩
  · exact .inl h2
  · exact .inr ⟨g, cap, cur, hv, hg, Blk.but (t := e) (cs := cur) hh hb (fun hg' => hS g hg' cur hh), r⟩
end
theorem ivc_at (l : List Int) (k : Nat) (hk : k < l.length) : (l.flatMap ivc)[k]? = some (.int .i64 l[k]) := by
  have := flat_get ivc_len l k hk 0 (by omega)
  simpa [ivc] using this
theorem ivc_set (l : List Int) (k : Nat) (z : Int) : (l.flatMap ivc).set k (.int .i64 z) = (l.set k z).flatMap ivc := by
  induction l generalizing k with
  | nil => rfl
  | cons x r ih =>
    cases k with
    | zero => rfl
    | succ k => rw [List.set_cons_succ, List.flatMap_cons, List.flatMap_cons, ← ih]; rfl
theorem getD_get {l : List Int} {k : Nat} (hk : k < l.length) : l.getD k 0 = l[k] := by rw [List.getD_eq_getElem?_getD, List.getElem?_eq_getElem hk]; rfl
theorem stepA_nat {l : List Int} {k : Nat} (hk : k < l.length) (b : Bool) : stepA l ⟨k, b⟩ = l.set k (lrn l[k] b) := by
  unfold stepA
  simp only [Int.toNat_natCast]
  rw [getD_get hk]

set_option maxHeartbeats 1000000 in
/-- 'learn'. -/
theorem learn_any (g gc cap k base : Nat) (c : List Int) (b : Bool) (w : World) (h1 : w.cell? ⟨g, 1, none⟩ = some (.slice (some ⟨gc, 0, none⟩) c.length cap)) (hk : k < c.length)
    (ho : w.ownsRow base 3 1 (.slice (some ⟨gc, 0, none⟩) c.length cap) c.length (c.flatMap ivc)) (hc : okC c = true) :
    Calls Try.prog 36 #[.pointer (some ⟨g, 0, none⟩), .int .i64 k, .bool b] w fun e w' => e = .returned (.tuple #[]) ∧ w'.ownsRow base 3 1 (.slice (some ⟨gc, 0, none⟩) c.length cap) c.length ((stepA c ⟨k, b⟩).flatMap ivc) ∧ But [gc] w w' := by
  have hx := (own_cell ho k hk).trans (ivc_at c k hk)
  obtain ⟨g0, cur, e0, hb0, hB⟩ := own_pos ho (by omega)
  injection e0 with e0
  injection e0 with e0
  subst e0
  have hf := hB.frozen k
  rw [stepA_nat hk]
  have hp := (okC_iff.1 hc).2 _ (List.getElem_mem hk)
  have ho2 := own_put (k := k) ho (.int .i64 (lrn c[k] b))
  rw [ivc_set] at ho2
  generalize c.set k (lrn c[k] b) = c2 at *
  generalize c[k] = p at *
  have hL := fun W => Learn_any p b W
  rw [lrnR_ok b hp, hp, badE_t] at hL
  have hk0 : (0 : Int) ≤ (k : Int) := by omega
  have hk1 : (k : Int) < (c.length : Int) := by omega
  replace hL := hide hL; replace ho := hide ho; replace ho2 := hide ho2
  clear hB hc hp
  generalize lrn p b = q at *
  go_enter Try.func36, Try.ntmps36
  go_region_with
    (first
      | (go_at_call 42; refine (unhide hL _).mono ?_; rintro e w1 ⟨rfl, rfl⟩))
  all_goals go_wp2_with fail
  all_goals refine bodyPost_end (results_none rfl _ _ _) rfl ?_
  all_goals exact ⟨rfl, own_drew (unhide ho2), But.drew (But.set (But.refl _ _) (by simp) _)⟩
end Go.Proofs.Ythmhhgodjpgjnaa
