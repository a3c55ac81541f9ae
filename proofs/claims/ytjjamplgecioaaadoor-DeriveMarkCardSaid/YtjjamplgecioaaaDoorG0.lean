import Derived.Test.YtjjamplgecioaaaDoorG1
import Derived.Test.YtjjamplgecioaaaDoorW14
namespace Go.Proofs.YtjjamplgecioaaaDoor
open Go.RowKit

theorem Blk.call {V w' : World} {g : Nat} {t : TypeId} {cs : Array Value} (h : Blk V g t cs) (hb : Below V.heap.size V w') : Blk w' g t cs := h.below hb h.lt
theorem Bs.at {lo : Nat} {w W : World} {v : Value} {l : List UInt8} (h : Bs lo w.heap.size w v l) (hb : Below w.heap.size w W) : Bs lo W.heap.size W v l := (h.below hb (Nat.le_refl _)).mono (Nat.le_refl _) hb.size
/-- Blocks that are known whole. -/
structure Fx (w0 W : World) (L : List (Nat × Array Value)) : Prop where
  bl : Below w0.heap.size w0 W
  blk : ∀ p ∈ L, Blk W p.1 24 p.2
section
variable {w0 W w' : World} {L : List (Nat × Array Value)}
theorem Fx.nil (w : World) : Fx w w [] := ⟨Below.refl _ _, fun _ hp => (nomatch hp)⟩
theorem Fx.call (h : Fx w0 W L) (hb : Below W.heap.size W w') : Fx w0 w' L := ⟨bl_call h.bl hb, fun p hp => (h.blk p hp).call hb⟩
theorem Fx.alloc (h : Fx w0 W L) (o : Obj) : Fx w0 (W.alloc o) L := h.call ((Below.refl _ _).alloc (Nat.le_refl _) o)
theorem Fx.drew (h : Fx w0 W L) : Fx w0 W.drew L := h.call (Below.drew (Below.refl _ _))
theorem Fx.drewN (h : Fx w0 W L) (n : Nat) : Fx w0 (W.drewN n) L := h.call (below_drewN (Below.refl _ _) n)
theorem Fx.addB (h : Fx w0 W L) {g : Nat} {cs : Array Value} (hk : Blk W g 24 cs) : Fx w0 W (L ++ [(g, cs)]) :=
  ⟨h.bl, fun p hp => (List.mem_append.1 hp).elim (fun hp => h.blk p hp) (fun hp => by rw [List.mem_singleton.1 hp]; exact hk)⟩
/-- A new block. -/
theorem Fx.newB (h : Fx w0 W L) (g : Nat) (hg : g = W.heap.size) (cs : Array Value) : Fx w0 (W.alloc (.cells cs 24)) (L ++ [(g, cs)]) := (h.alloc _).addB (Blk.new hg)
theorem Fx.get (h : Fx w0 W L) (i : Nat) {g : Nat} {cs : Array Value} (e : L[i]? = some (g, cs)) : Blk W g 24 cs := h.blk _ (List.mem_of_getElem? e)
/-- Only some of it. -/
theorem Fx.sub (h : Fx w0 W L) {L' : List (Nat × Array Value)} (h1 : ∀ p ∈ L', p ∈ L) : Fx w0 W L' := ⟨h.bl, fun p hp => h.blk p (h1 p hp)⟩
/-- Block 'i' of the list is written whole. -/
theorem Fx.row (h : Fx w0 W L) (g : Nat) (C : Array Value) (hg : w0.heap.size ≤ g) (hL : ∀ p ∈ L, p.1 ≠ g) {cs : Array Value} (hk : Blk W g 24 cs) : Fx w0 (W.setRow g C) (L ++ [(g, C)]) :=
  ⟨bl_row h.bl C hg, fun p hp => (List.mem_append.1 hp).elim (fun hp => (h.blk p hp).row_other C (hL p hp)) (fun hp => by rw [List.mem_singleton.1 hp]; exact hk.row C)⟩
end

/-- Absorb, in one: its text has no more than 'MaxSqueeze' octets. -/
theorem absorb_any (s : St) (v : Value) (l : List UInt8) (w W : World) (ht : Tab w) (h : Bs 0 w.heap.size w v l) (hl : l.length ≤ 131072) (hb : Below w.heap.size w W) :
    Calls Tryd.prog 18 #[stV s, v] W fun e w' => e = .returned (.tuple #[stV (absorbF s l), .int .i64 0]) ∧ Below W.heap.size W w' :=
  Absorb_good 0 s v l W (ht.below hb (Nat.le_refl _)) (h.at hb) hl
theorem absorbR_any (s : St) (v : Value) (l : List UInt8) (w W : World) (h : Bs 0 w.heap.size w v l) (hl : l.length ≤ 131072) (hb : Below w.heap.size w W) :
    Calls Tryd.prog 19 #[stV s, v] W fun e w' => e = .returned (.tuple #[stV (absorbF s l), .int .i64 0]) ∧ Below W.heap.size W w' :=
  AbsorbR_good 0 s v l W (h.at hb) hl
end Go.Proofs.YtjjamplgecioaaaDoor
