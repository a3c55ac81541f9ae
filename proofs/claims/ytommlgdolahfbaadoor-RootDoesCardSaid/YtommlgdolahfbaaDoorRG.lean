import Derived.Test.YtommlgdolahfbaaDoorRF
import Derived.Test.YtommlgdolahfbaaDoorW20
import Derived.Test.YtommlgdolahfbaaDoorW7
namespace Go.Proofs.YtommlgdolahfbaaDoor
set_option maxRecDepth 100000
open Go.RowKit

/-- What a walk carries from world to world: what is below stays; boxes; disks and octets that are read, with where they lie. -/
structure Gx (w0 w : World) (L : List (Nat × TypeId × Array Value)) (Y : List (Nat × Nat × Value × Dk)) (Z : List (Nat × Nat × Value × List UInt8)) : Prop where
  bl : Below w0.heap.size w0 w
  blk : ∀ p ∈ L, Blk w p.1 p.2.1 p.2.2
  dsk : ∀ p ∈ Y, p.2.1 ≤ w.heap.size ∧ Dsk p.1 p.2.1 w p.2.2.1 p.2.2.2
  bs : ∀ p ∈ Z, p.2.1 ≤ w.heap.size ∧ Bs p.1 p.2.1 w p.2.2.1 p.2.2.2
section
variable {w0 w w' : World} {L : List (Nat × TypeId × Array Value)} {Y : List (Nat × Nat × Value × Dk)} {Z : List (Nat × Nat × Value × List UInt8)}
theorem Gx.nil (w : World) : Gx w w [] [] [] := ⟨Below.refl _ _, fun _ h => (nomatch h), fun _ h => (nomatch h), fun _ h => (nomatch h)⟩
theorem Gx.call (h : Gx w0 w L Y Z) (hb : Below w.heap.size w w') : Gx w0 w' L Y Z :=
  ⟨bl_call h.bl hb, fun p hp => (h.blk p hp).below hb (h.blk p hp).lt, fun p hp => ⟨Nat.le_trans (h.dsk p hp).1 hb.size, (h.dsk p hp).2.below hb (h.dsk p hp).1⟩, fun p hp => ⟨Nat.le_trans (h.bs p hp).1 hb.size, (h.bs p hp).2.below hb (h.bs p hp).1⟩⟩
theorem Gx.alloc (h : Gx w0 w L Y Z) (o : Obj) : Gx w0 (w.alloc o) L Y Z := h.call ((Below.refl _ _).alloc (Nat.le_refl _) o)
theorem Gx.drew (h : Gx w0 w L Y Z) : Gx w0 w.drew L Y Z := h.call (Below.drew (Below.refl _ _))
theorem Gx.addB (h : Gx w0 w L Y Z) {g : Nat} {t : TypeId} {cs : Array Value} (hk : Blk w g t cs) : Gx w0 w (L ++ [(g, t, cs)]) Y Z :=
  ⟨h.bl, fun p hp => by
    rcases List.mem_append.1 hp with hp | hp
    · exact h.blk p hp
    · rw [List.mem_singleton.1 hp]; exact hk, h.dsk, h.bs⟩
theorem Gx.newB (h : Gx w0 w L Y Z) (g : Nat) (hg : g = w.heap.size) (t : TypeId) (cs : Array Value) : Gx w0 (w.alloc (.cells cs t)) (L ++ [(g, t, cs)]) Y Z := (h.alloc _).addB (Blk.new hg)
theorem Gx.addD (h : Gx w0 w L Y Z) {lo : Nat} {v : Value} {x : Dk} (hk : Dsk lo w.heap.size w v x) : Gx w0 w L (Y ++ [(lo, w.heap.size, v, x)]) Z :=
  ⟨h.bl, h.blk, fun p hp => by
    rcases List.mem_append.1 hp with hp | hp
    · exact h.dsk p hp
    · rw [List.mem_singleton.1 hp]; exact ⟨Nat.le_refl _, hk⟩, h.bs⟩
theorem Gx.addZ (h : Gx w0 w L Y Z) {lo : Nat} {v : Value} {x : List UInt8} (hk : Bs lo w.heap.size w v x) : Gx w0 w L Y (Z ++ [(lo, w.heap.size, v, x)]) :=
  ⟨h.bl, h.blk, h.dsk, fun p hp => by
    rcases List.mem_append.1 hp with hp | hp
    · exact h.bs p hp
    · rw [List.mem_singleton.1 hp]; exact ⟨Nat.le_refl _, hk⟩⟩
theorem Gx.get (h : Gx w0 w L Y Z) (i : Nat) {g : Nat} {t : TypeId} {cs : Array Value} (e : L[i]? = some (g, t, cs)) : Blk w g t cs := h.blk _ (List.mem_of_getElem? e)
theorem Gx.dr (h : Gx w0 w L Y Z) (i : Nat) {lo hi : Nat} {v : Value} {x : Dk} (e : Y[i]? = some (lo, hi, v, x)) : Dsk lo w.heap.size w v x := (h.dsk _ (List.mem_of_getElem? e)).2.mono (Nat.le_refl _) (h.dsk _ (List.mem_of_getElem? e)).1
theorem Gx.rd (h : Gx w0 w L Y Z) (i : Nat) {lo hi : Nat} {v : Value} {x : List UInt8} (e : Z[i]? = some (lo, hi, v, x)) : Bs 0 w.heap.size w v x := (h.bs _ (List.mem_of_getElem? e)).2.mono (Nat.zero_le _) (h.bs _ (List.mem_of_getElem? e)).1
theorem Gx.sub (h : Gx w0 w L Y Z) {L' : List (Nat × TypeId × Array Value)} {Y' : List (Nat × Nat × Value × Dk)} {Z' : List (Nat × Nat × Value × List UInt8)} (h1 : ∀ p ∈ L', p ∈ L) (h2 : ∀ p ∈ Y', p ∈ Y) (h3 : ∀ p ∈ Z', p ∈ Z) : Gx w0 w L' Y' Z' :=
  ⟨h.bl, fun p hp => h.blk p (h1 p hp), fun p hp => h.dsk p (h2 p hp), fun p hp => h.bs p (h3 p hp)⟩
/-- A disk's box is written. -/
theorem Gx.set3 (h : Gx w0 w L Y Z) {g : Nat} {t : TypeId} {a b c : Value} (hk : Blk w g t #[a, b, c]) (hg : w0.heap.size ≤ g) (hL : ∀ p ∈ L, p.1 ≠ g) (hY : ∀ p ∈ Y, p.2.1 ≤ g ∨ g < p.1) (hZ : ∀ p ∈ Z, p.2.1 ≤ g ∨ g < p.1) (x y z : Value) :
    Gx w0 (((w.setCell ⟨g, 0, none⟩ x).setCell ⟨g, 1, none⟩ y).setCell ⟨g, 2, none⟩ z) (L ++ [(g, t, #[x, y, z])]) Y Z := by
  have hag : ∀ lo hi, (hi ≤ g ∨ g < lo) → Agree lo hi w (((w.setCell ⟨g, 0, none⟩ x).setCell ⟨g, 1, none⟩ y).setCell ⟨g, 2, none⟩ z) := fun lo hi hd k h1 h2 =>
    ((Below.heap_setCell _ ⟨g, 2, none⟩ _ k (show k ≠ g by omega)).trans (Below.heap_setCell _ ⟨g, 1, none⟩ _ k (show k ≠ g by omega))).trans (Below.heap_setCell _ ⟨g, 0, none⟩ _ k (show k ≠ g by omega))
  refine Gx.addB (L := L) ⟨bl_set (bl_set (bl_set h.bl hg _ _) hg _ _) hg _ _, fun p hp => ?_, fun p hp => ⟨by simpa using (h.dsk p hp).1, (h.dsk p hp).2.keep (hag _ _ (hY p hp))⟩, fun p hp => ⟨by simpa using (h.bs p hp).1, (h.bs p hp).2.keep (hag _ _ (hZ p hp))⟩⟩ (Blk.set3 hk)
  have hn := hL p hp
  exact (((h.blk p hp).far (p := ⟨g, 0, none⟩) hn x).far (p := ⟨g, 1, none⟩) hn y).far (p := ⟨g, 2, none⟩) hn z
end
theorem ck3 {w : World} {g : Nat} {t : TypeId} {a b c : Value} (h : Blk w g t #[a, b, c]) : w.cell? ⟨g, 0, none⟩ = some a ∧ w.cell? ⟨g, 1, none⟩ = some b ∧ w.cell? ⟨g, 2, none⟩ = some c := ⟨h.cell 0, h.cell 1, h.cell 2⟩
theorem fk3 {w : World} {g : Nat} {t : TypeId} {cs : Array Value} (h : Blk w g t cs) : w.frozen? ⟨g, 0, none⟩ = false ∧ w.frozen? ⟨g, 1, none⟩ = false ∧ w.frozen? ⟨g, 2, none⟩ = false := ⟨h.frozen 0, h.frozen 1, h.frozen 2⟩
theorem fk6 {w : World} {g : Nat} {t : TypeId} {cs : Array Value} (h : Blk w g t cs) : w.frozen? ⟨g, 0, none⟩ = false ∧ w.frozen? ⟨g, 1, none⟩ = false ∧ w.frozen? ⟨g, 2, none⟩ = false ∧ w.frozen? ⟨g, 3, none⟩ = false ∧ w.frozen? ⟨g, 4, none⟩ = false ∧ w.frozen? ⟨g, 5, none⟩ = false := ⟨h.frozen 0, h.frozen 1, h.frozen 2, h.frozen 3, h.frozen 4, h.frozen 5⟩
theorem zk6 {w : World} {g : Nat} {t : TypeId} {a b c d e f : Value} (h : Blk w g t #[a, b, c, d, e, f]) : w.cell? ⟨g, 0, none⟩ = some a ∧ w.cell? ⟨g, 1, none⟩ = some b ∧ w.cell? ⟨g, 2, none⟩ = some c ∧ w.cell? ⟨g, 3, none⟩ = some d ∧ w.cell? ⟨g, 4, none⟩ = some e ∧ w.cell? ⟨g, 5, none⟩ = some f := ⟨h.cell 0, h.cell 1, h.cell 2, h.cell 3, h.cell 4, h.cell 5⟩

/-- A disk may be, and has sectors for roots. -/
def holdB (d : Dk) : Bool := okD d && decide (64 < d.dry.length)
theorem holds_any (lo : Nat) (v : Value) (d : Dk) (w : World) (h : Dsk lo w.heap.size w v d) :
    Calls Tryd.prog 35 #[v] w fun e w' => e = .returned (.bool (holdB d)) ∧ Below w.heap.size w w' := by
  have hC := fun W (hB : Below w.heap.size w W) => check_any lo v d W (h.grow hB)
  obtain ⟨A, c, A', c', rfl⟩ := h.form
  unfold holdB
  clear h
  generalize d.wet.length = m at *
  cases hq : okD d with
  | false =>
    rw [hq, show badE false = 1 from rfl] at hC
    rw [Bool.false_and]
    generalize d.dry.length = n at *
    replace hC := hide hC
    go_enter Tryd.func35, Tryd.ntmps35
    go_wp2_with (go_at_call 44; refine (unhide hC _ (by (repeat (first | with_reducible exact Below.refl _ _ | with_reducible assumption | with_reducible refine Below.drew ?_ | with_reducible refine bl_alloc ?_ _ | with_reducible refine bl_call ?_ (by assumption) | (focus (with_reducible refine Below.setCell ?_ ?_ _; rotate_left; focus (first | omega | (simp <;> omega)))) | fail)))).mono ?_; rintro e w1 ⟨rfl, b1⟩; have B1 := bl_call (bl_alloc (Below.refl w.heap.size w) _) b1)
    go_ret
    exact ⟨rfl, B1⟩
  | true =>
    rw [hq, show badE true = 0 from rfl] at hC
    rw [Bool.true_and]
    generalize d.dry.length = n at *
    replace hC := hide hC
    go_enter Tryd.func35, Tryd.ntmps35
    go_wp2_with (go_at_call 44; refine (unhide hC _ (by (repeat (first | with_reducible exact Below.refl _ _ | with_reducible assumption | with_reducible refine Below.drew ?_ | with_reducible refine bl_alloc ?_ _ | with_reducible refine bl_call ?_ (by assumption) | (focus (with_reducible refine Below.setCell ?_ ?_ _; rotate_left; focus (first | omega | (simp <;> omega)))) | fail)))).mono ?_; rintro e w1 ⟨rfl, b1⟩; have B1 := bl_call (bl_alloc (Below.refl w.heap.size w) _) b1
                 obtain ⟨c0, c1, c2⟩ := ck3 (Blk.below (Blk.new (w := w) (cs := #[.slice A n c, .slice A' m c', .int .i64 d.left]) (t := 31) rfl) b1 (by simp)); clear b1)
    go_ret
    exact ⟨ret_b rfl (by rw [Bool.eq_iff_iff]; simp; omega), B1⟩
end Go.Proofs.YtommlgdolahfbaaDoor
