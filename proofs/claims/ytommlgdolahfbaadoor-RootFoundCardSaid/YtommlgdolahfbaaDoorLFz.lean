import Derived.Test.YtommlgdolahfbaaDoorLFa
import Derived.Test.YtommlgdolahfbaaDoorLFb
import Derived.Test.YtommlgdolahfbaaDoorLFc
namespace Go.Proofs.YtommlgdolahfbaaDoor
set_option maxRecDepth 100000
open Go.RowKit
theorem found_law (A A' : Option Addr) (c c' : Nat) (d : Dk) (r : Rt) (hT : OkT r) (a : Int) (A3 : Option Addr) (c3 : Nat) (b : List UInt8) (w : World) (ht : Tab w) (h : Dsk 0 w.heap.size w (.agg #[.slice A d.dry.length c, .slice A' d.wet.length c', .int .i64 d.left]) d) (hb : Bs 0 w.heap.size w (.slice A3 b.length c3) b) :
    Calls Tryd.prog 5 #[.agg #[.slice A d.dry.length c, .slice A' d.wet.length c', .int .i64 d.left], (.agg #[.int .u64 (r.gen : Nat), .int .i64 r.at_, .int .i64 r.len, .int .i64 r.long, .int .u32 (r.sum : Nat), .int .u64 (r.next : Nat)]), .int .i64 a, .slice A3 b.length c3] w fun e w' => e = .returned (.bool true) ∧ Below w.heap.size w w' := by
  cases hw : fewB d with
  | false => exact found_few A A' c c' d r a A3 c3 b w ht h hw
  | true =>
    by_cases hn : 100 < b.length
    · exact found_long A A' c c' d r a A3 c3 b w ht h hw hn
    · have hn' : b.length ≤ 100 := by omega
      by_cases hE : (wrR d r).2 = 0
      · by_cases h2 : (fdR d).2 = 0
        · by_cases h3 : (fdR d).1.gen ≤ r.gen
          · by_cases h5 : (wrD (wrR d r).1 a b).2 = 0
            · by_cases h6 : a < 2
              · exact found_a2y A A' c c' d r hT a A3 c3 b w ht h hb hw hn' hE h2 h3 h5 h6
              · exact found_a2z A A' c c' d r hT a A3 c3 b w ht h hb hw hn' hE h2 h3 h5 (by omega)
            · exact found_a2x A A' c c' d r hT a A3 c3 b w ht h hb hw hn' hE h2 h3 h5
          · have h3' : r.gen < (fdR d).1.gen := by omega
            by_cases h4 : (fdR d).1.gen % 2 = r.gen % 2
            · by_cases h5 : (wrD (wrR d r).1 a b).2 = 0
              · by_cases h6 : a < 2
                · exact found_b2y A A' c c' d r hT a A3 c3 b w ht h hb hw hn' hE h2 h3' h4 h5 h6
                · exact found_b2z A A' c c' d r hT a A3 c3 b w ht h hb hw hn' hE h2 h3' h4 h5 (by omega)
              · exact found_b2x A A' c c' d r hT a A3 c3 b w ht h hb hw hn' hE h2 h3' h4 h5
            · by_cases h5 : (wrD (wrR d r).1 a b).2 = 0
              · by_cases h6 : a < 2
                · exact found_b1y A A' c c' d r hT a A3 c3 b w ht h hb hw hn' hE h2 h3' h4 h5 h6
                · exact found_b1z A A' c c' d r hT a A3 c3 b w ht h hb hw hn' hE h2 h3' h4 h5 (by omega)
              · exact found_b1x A A' c c' d r hT a A3 c3 b w ht h hb hw hn' hE h2 h3' h4 h5
        · by_cases h5 : (wrD (wrR d r).1 a b).2 = 0
          · by_cases h6 : a < 2
            · exact found_a1y A A' c c' d r hT a A3 c3 b w ht h hb hw hn' hE h2 h5 h6
            · exact found_a1z A A' c c' d r hT a A3 c3 b w ht h hb hw hn' hE h2 h5 (by omega)
          · exact found_a1x A A' c c' d r hT a A3 c3 b w ht h hb hw hn' hE h2 h5
      · exact found_dead A A' c c' d r hT a A3 c3 b w ht h hw hn' hE
end Go.Proofs.YtommlgdolahfbaaDoor
