import Derived.Test.YthmhhgodjpgjnaaW52
namespace Go.Proofs.Ythmhhgodjpgjnaa
open Go.RowKit

theorem rgC {w w3 : World} {g0 g1 gA cA n : Nat} {e : TypeId} {c0 c1 X : Array Value} {xs : List Value} (o3 : w3.ownsRow w.heap.size e 1 (.slice (some ⟨gA, 0, none⟩) n cA) n xs) (k0 : Blk w3 g0 40 c0) (k1 : Blk w3 g1 40 c1) (B3 : Below w.heap.size w w3) :
    Blk (w3.alloc (.cells X 40)) w3.heap.size 40 X ∧ (w3.alloc (.cells X 40)).ownsRow w.heap.size e 1 (.slice (some ⟨gA, 0, none⟩) n cA) n xs ∧ Blk (w3.alloc (.cells X 40)) g0 40 c0 ∧ Blk (w3.alloc (.cells X 40)) g1 40 c1 ∧ Below w.heap.size w (w3.alloc (.cells X 40)) :=
  ⟨Blk.new rfl, o3.alloc _, k0.alloc _, k1.alloc _, B3.alloc B3.size _⟩
theorem rgD {w w3 : World} {g0 g1 g9 gA cA n : Nat} {c0 c1 : Array Value} {a b c d x y z u : Value} {xs : List Value} (o3 : w3.ownsRow w.heap.size 3 1 (.slice (some ⟨gA, 0, none⟩) n cA) n xs) (k0 : Blk w3 g0 40 c0) (k1 : Blk w3 g1 40 c1) (k9 : Blk w3 g9 40 #[a, b, c, d]) (B3 : Below w.heap.size w w3) (h0 : g0 ≠ g9) (h1 : g1 ≠ g9) (h9 : w.heap.size ≤ g9) :
    Blk ((((w3.setCell ⟨g9, 0, none⟩ x).setCell ⟨g9, 1, none⟩ y).setCell ⟨g9, 2, none⟩ z).setCell ⟨g9, 3, none⟩ u) g9 40 #[x, y, z, u] ∧ ((((w3.setCell ⟨g9, 0, none⟩ x).setCell ⟨g9, 1, none⟩ y).setCell ⟨g9, 2, none⟩ z).setCell ⟨g9, 3, none⟩ u).ownsRow w.heap.size 3 1 (.slice (some ⟨gA, 0, none⟩) n cA) n xs ∧
      Blk ((((w3.setCell ⟨g9, 0, none⟩ x).setCell ⟨g9, 1, none⟩ y).setCell ⟨g9, 2, none⟩ z).setCell ⟨g9, 3, none⟩ u) g0 40 c0 ∧ Blk ((((w3.setCell ⟨g9, 0, none⟩ x).setCell ⟨g9, 1, none⟩ y).setCell ⟨g9, 2, none⟩ z).setCell ⟨g9, 3, none⟩ u) g1 40 c1 ∧ Below w.heap.size w ((((w3.setCell ⟨g9, 0, none⟩ x).setCell ⟨g9, 1, none⟩ y).setCell ⟨g9, 2, none⟩ z).setCell ⟨g9, 3, none⟩ u) :=
  ⟨k9.set4, own_far (own_far (own_far (own_far o3 k9 (by decide) 0 x) (k9.set 0 x) (by decide) 1 y) ((k9.set 0 x).set 1 y) (by decide) 2 z) (((k9.set 0 x).set 1 y).set 2 z) (by decide) 3 u,
    (((k0.far (p := ⟨g9, 0, none⟩) h0 x).far (p := ⟨g9, 1, none⟩) h0 y).far (p := ⟨g9, 2, none⟩) h0 z).far (p := ⟨g9, 3, none⟩) h0 u,
    (((k1.far (p := ⟨g9, 0, none⟩) h1 x).far (p := ⟨g9, 1, none⟩) h1 y).far (p := ⟨g9, 2, none⟩) h1 z).far (p := ⟨g9, 3, none⟩) h1 u,
    (((B3.setCell (p := ⟨g9, 0, none⟩) h9 x).setCell (p := ⟨g9, 1, none⟩) h9 y).setCell (p := ⟨g9, 2, none⟩) h9 z).setCell (p := ⟨g9, 3, none⟩) h9 u⟩

end Go.Proofs.Ythmhhgodjpgjnaa
