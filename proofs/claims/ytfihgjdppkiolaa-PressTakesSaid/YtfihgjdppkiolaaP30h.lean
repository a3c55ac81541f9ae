import Derived.Test.YtfihgjdppkiolaaP29
import Derived.Test.YtfihgjdppkiolaaMD
namespace Go.Proofs.Ytfihgjdppkiolaa
set_option maxRecDepth 100000
open Go.RowKit

theorem own_far_lt {w : World} {base : Nat} {e : TypeId} {size : Nat} {v : Value} {n : Nat} {xs : List Value} {B g : Nat} (h : w.ownsRow base e size v n xs) (hv : VBelow B v) (hg : B ≤ g) (i : Nat) (u : Value) : (w.setCell ⟨g, i, none⟩ u).ownsRow base e size v n xs := by
  refine ⟨h.1, ?_⟩
  rcases h.2 with hn | ⟨g', cap, cur, rfl, h2, h3, h4⟩
  · exact .inl hn
  · refine .inr ⟨g', cap, cur, rfl, h2, ?_, h4⟩
    have := hv _ _ _ rfl
    simp only [] at this
    rw [Below.heap_setCell _ _ _ _ (by simp only []; omega)]
    exact h3
theorem set4_ownN {w : World} {base size n g9 : Nat} {e : TypeId} {v : Value} {a b c d x y z u : Value} {xs : List Value} (o : w.ownsRow base e size v n xs) (k9 : Blk w g9 60 #[a, b, c, d]) (he : e ≠ 60) :
    ((((w.setCell ⟨g9, 0, none⟩ x).setCell ⟨g9, 1, none⟩ y).setCell ⟨g9, 2, none⟩ z).setCell ⟨g9, 3, none⟩ u).ownsRow base e size v n xs :=
  own_far (own_far (own_far (own_far o k9 he 0 x) (k9.set 0 x) he 1 y) ((k9.set 0 x).set 1 y) he 2 z) (((k9.set 0 x).set 1 y).set 2 z) he 3 u
theorem set3_ownN {w : World} {base size n g : Nat} {e : TypeId} {v : Value} {a b c x y z : Value} {xs : List Value} (o : w.ownsRow base e size v n xs) (k : Blk w g 40 #[a, b, c]) (he : e ≠ 40) :
    (((w.setCell ⟨g, 0, none⟩ x).setCell ⟨g, 1, none⟩ y).setCell ⟨g, 2, none⟩ z).ownsRow base e size v n xs :=
  own_far (own_far (own_far o k he 0 x) (k.set 0 x) he 1 y) ((k.set 0 x).set 1 y) he 2 z
theorem set3_lt {w : World} {base : Nat} {e : TypeId} {size : Nat} {v : Value} {n : Nat} {xs : List Value} {B g : Nat} {x y z : Value} (h : w.ownsRow base e size v n xs) (hv : VBelow B v) (hg : B ≤ g) :
    (((w.setCell ⟨g, 0, none⟩ x).setCell ⟨g, 1, none⟩ y).setCell ⟨g, 2, none⟩ z).ownsRow base e size v n xs := own_far_lt (own_far_lt (own_far_lt h hv hg 0 x) hv hg 1 y) hv hg 2 z
theorem set3_blk {w : World} {g g9 : Nat} {e : TypeId} {x y z : Value} {cs : Array Value} (k : Blk w g e cs) (h : g ≠ g9) : Blk (((w.setCell ⟨g9, 0, none⟩ x).setCell ⟨g9, 1, none⟩ y).setCell ⟨g9, 2, none⟩ z) g e cs :=
  ((k.far (p := ⟨g9, 0, none⟩) h x).far (p := ⟨g9, 1, none⟩) h y).far (p := ⟨g9, 2, none⟩) h z
theorem set3_below {w w0 : World} {g9 B : Nat} {x y z : Value} (b : Below B w0 w) (h : B ≤ g9) : Below B w0 (((w.setCell ⟨g9, 0, none⟩ x).setCell ⟨g9, 1, none⟩ y).setCell ⟨g9, 2, none⟩ z) :=
  ((b.setCell (p := ⟨g9, 0, none⟩) h x).setCell (p := ⟨g9, 1, none⟩) h y).setCell (p := ⟨g9, 2, none⟩) h z

/-- What holds behind the call in the drawn region. -/
structure Pre (w wr w3 : World) (g8 : Nat) (c8 : Array Value) (v3 : Value) (n3 : Nat) (xs3 : List Value) (v4 : Value) (n4 : Nat) (xs4 : List Value) : Prop where
  k8 : Blk w3 g8 60 c8
  l8 : g8 < wr.heap.size
  s3 : wr.heap.size ≤ w3.heap.size
  below : Below w.heap.size w w3
  wz : w.heap.size ≤ wr.heap.size
  o3 : w3.ownsRow w.heap.size 3 1 v3 n3 xs3
  o4 : w3.ownsRow w.heap.size 40 3 v4 n4 xs4
  vb : VBelow wr.heap.size v4
/-- What holds at the region's end. -/
structure Out (w wr wx : World) (g8 g11 g12 : Nat) (c8 : Array Value) (v3 : Value) (n3 : Nat) (xs3 : List Value) (v4 : Value) (n4 : Nat) (xs4 : List Value) (x y z a b c d : Value) : Prop where
  k8 : Blk wx g8 60 c8
  k11 : Blk wx g11 40 #[x, y, z]
  k12 : Blk wx g12 60 #[a, b, c, d]
  below : Below w.heap.size w wx
  o3 : wx.ownsRow w.heap.size 3 1 v3 n3 xs3
  o4 : wx.ownsRow w.heap.size 40 3 v4 n4 xs4
  p11 : wr.heap.size ≤ g11
  n11 : g11 ≠ g8
  n12 : g12 ≠ g8
section
variable {w wr w3 : World} {g8 : Nat} {c8 : Array Value} {v3 : Value} {n3 : Nat} {xs3 : List Value} {v4 : Value} {n4 : Nat} {xs4 : List Value} (h : Pre w wr w3 g8 c8 v3 n3 xs3 v4 n4 xs4) (x y z a b c d : Value)
include h
theorem out1 : Out w wr ((w3.alloc (.cells #[x, y, z] 40)).alloc (.cells #[a, b, c, d] 60)) g8 w3.heap.size (w3.heap.size + 1) c8 v3 n3 xs3 v4 n4 xs4 x y z a b c d := by
  have := h.l8; have := h.s3
  exact ⟨(h.k8.alloc _).alloc _, (Blk.new rfl).alloc _, Blk.new (by simp), bl_alloc (bl_alloc h.below _) _, (h.o3.alloc _).alloc _, (h.o4.alloc _).alloc _, h.s3, by omega, by omega⟩
theorem out2 : Out w wr ((w3.alloc (.cells #[a, b, c, d] 60)).alloc (.cells #[x, y, z] 40)) g8 (w3.heap.size + 1) w3.heap.size c8 v3 n3 xs3 v4 n4 xs4 x y z a b c d := by
  have := h.l8; have := h.s3
  exact ⟨(h.k8.alloc _).alloc _, Blk.new (by simp), (Blk.new rfl).alloc _, bl_alloc (bl_alloc h.below _) _, (h.o3.alloc _).alloc _, (h.o4.alloc _).alloc _, by omega, by omega, by omega⟩
theorem out3 {p q r : Value} (k : Blk w3 wr.heap.size 40 #[p, q, r]) : Out w wr ((((w3.setCell ⟨wr.heap.size, 0, none⟩ x).setCell ⟨wr.heap.size, 1, none⟩ y).setCell ⟨wr.heap.size, 2, none⟩ z).alloc (.cells #[a, b, c, d] 60)) g8 wr.heap.size w3.heap.size c8 v3 n3 xs3 v4 n4 xs4 x y z a b c d := by
  have := h.l8; have := h.s3
  exact ⟨(set3_blk h.k8 (by omega)).alloc _, k.set3.alloc _, Blk.new (by simp [World.setCell]), bl_alloc (set3_below h.below h.wz) _, (set3_ownN h.o3 k (by decide)).alloc _, (set3_lt h.o4 h.vb (Nat.le_refl _)).alloc _, Nat.le_refl _, by omega, by omega⟩
theorem out4 {p q r s t u v : Value} (k : Blk w3 wr.heap.size 40 #[p, q, r]) (l : Blk w3 (wr.heap.size + 1) 60 #[s, t, u, v]) :
    Out w wr (((((((w3.setCell ⟨wr.heap.size, 0, none⟩ x).setCell ⟨wr.heap.size, 1, none⟩ y).setCell ⟨wr.heap.size, 2, none⟩ z).setCell ⟨wr.heap.size + 1, 0, none⟩ a).setCell ⟨wr.heap.size + 1, 1, none⟩ b).setCell ⟨wr.heap.size + 1, 2, none⟩ c).setCell ⟨wr.heap.size + 1, 3, none⟩ d) g8 wr.heap.size (wr.heap.size + 1) c8 v3 n3 xs3 v4 n4 xs4 x y z a b c d := by
  have := h.l8; have := h.s3; have := h.wz
  have l' := set3_blk (x := x) (y := y) (z := z) (g9 := wr.heap.size) l (by omega)
  exact ⟨set4_blk (set3_blk h.k8 (by omega)) (by omega), set4_blk k.set3 (by omega), l'.set4, set4_below (set3_below h.below h.wz) (by omega), set4_ownN (set3_ownN h.o3 k (by decide)) l' (by decide), set4_ownN (set3_lt h.o4 h.vb (Nat.le_refl _)) l' (by decide), Nat.le_refl _, by omega, by omega⟩
theorem out5 {s t u v : Value} (l : Blk w3 wr.heap.size 60 #[s, t, u, v]) :
    Out w wr (((((w3.setCell ⟨wr.heap.size, 0, none⟩ a).setCell ⟨wr.heap.size, 1, none⟩ b).setCell ⟨wr.heap.size, 2, none⟩ c).setCell ⟨wr.heap.size, 3, none⟩ d).alloc (.cells #[x, y, z] 40)) g8 w3.heap.size wr.heap.size c8 v3 n3 xs3 v4 n4 xs4 x y z a b c d := by
  have := h.l8; have := h.s3
  exact ⟨(set4_blk h.k8 (by omega)).alloc _, Blk.new (by simp [World.setCell]), l.set4.alloc _, bl_alloc (set4_below h.below h.wz) _, (set4_ownN h.o3 l (by decide)).alloc _, (set4_ownN h.o4 l (by decide)).alloc _, h.s3, by omega, by omega⟩
theorem out6 {p q r s t u v : Value} (k : Blk w3 (wr.heap.size + 1) 40 #[p, q, r]) (l : Blk w3 wr.heap.size 60 #[s, t, u, v]) :
    Out w wr (((((((w3.setCell ⟨wr.heap.size + 1, 0, none⟩ x).setCell ⟨wr.heap.size + 1, 1, none⟩ y).setCell ⟨wr.heap.size + 1, 2, none⟩ z).setCell ⟨wr.heap.size, 0, none⟩ a).setCell ⟨wr.heap.size, 1, none⟩ b).setCell ⟨wr.heap.size, 2, none⟩ c).setCell ⟨wr.heap.size, 3, none⟩ d) g8 (wr.heap.size + 1) wr.heap.size c8 v3 n3 xs3 v4 n4 xs4 x y z a b c d := by
  have := h.l8; have := h.s3; have := h.wz
  have l' := set3_blk (x := x) (y := y) (z := z) (g9 := wr.heap.size + 1) l (by omega)
  exact ⟨set4_blk (set3_blk h.k8 (by omega)) (by omega), set4_blk k.set3 (by omega), l'.set4, set4_below (set3_below h.below (by omega)) h.wz, set4_ownN (set3_ownN h.o3 k (by decide)) l' (by decide), set4_ownN (set3_lt h.o4 h.vb (by omega)) l' (by decide), by omega, by omega, by omega⟩
end
end Go.Proofs.Ytfihgjdppkiolaa
