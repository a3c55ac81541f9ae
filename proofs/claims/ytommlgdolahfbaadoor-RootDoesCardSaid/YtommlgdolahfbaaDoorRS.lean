import Derived.Test.YtommlgdolahfbaaDoorBase
namespace Go.Proofs.YtommlgdolahfbaaDoor
open Go.RowKit
theorem Dsk.grow {lo : Nat} {w w' : World} {v : Value} {d : Dk} (h : Dsk lo w.heap.size w v d) (hb : Below w.heap.size w w') : Dsk lo w'.heap.size w' v d := (h.below hb (Nat.le_refl _)).mono (Nat.le_refl _) hb.size
theorem Bs.grow {lo : Nat} {w w' : World} {v : Value} {l : List UInt8} (h : Bs lo w.heap.size w v l) (hb : Below w.heap.size w w') : Bs lo w'.heap.size w' v l := (h.below hb (Nat.le_refl _)).mono (Nat.le_refl _) hb.size
end Go.Proofs.YtommlgdolahfbaaDoor
