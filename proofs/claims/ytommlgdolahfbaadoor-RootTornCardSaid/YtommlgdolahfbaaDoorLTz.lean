import Derived.Test.YtommlgdolahfbaaDoorLT0
import Derived.Test.YtommlgdolahfbaaDoorLT1
import Derived.Test.YtommlgdolahfbaaDoorLT2
namespace Go.Proofs.YtommlgdolahfbaaDoor
set_option maxRecDepth 100000
open Go.RowKit
theorem torn_law (A A' : Option Addr) (c c' : Nat) (d : Dk) (o r : Rt) (hT' : OkT o) (hT : OkT r) (m : UInt8) (w : World) (ht : Tab w) (h : Dsk 0 w.heap.size w (.agg #[.slice A d.dry.length c, .slice A' d.wet.length c', .int .i64 d.left]) d) :
    Calls Tryd.prog 6 #[.agg #[.slice A d.dry.length c, .slice A' d.wet.length c', .int .i64 d.left], (.agg #[.int .u64 (o.gen : Nat), .int .i64 o.at_, .int .i64 o.len, .int .i64 o.long, .int .u32 (o.sum : Nat), .int .u64 (o.next : Nat)]), (.agg #[.int .u64 (r.gen : Nat), .int .i64 r.at_, .int .i64 r.len, .int .i64 r.long, .int .u32 (r.sum : Nat), .int .u64 (r.next : Nat)]), .int .u8 (m.toNat : Int)] w fun e w' => e = .returned (.bool true) ∧ Below w.heap.size w w' := by
  cases hw : fewB d with
  | false => exact torn_few A A' c c' d o r m w ht h hw
  | true =>
    by_cases h1 : d.left = -1
    · by_cases h2 : o.gen % 2 = r.gen % 2
      · by_cases h3 : o.gen % 256 = r.gen % 256
        · exact torn_same A A' c c' d o r m w ht h hw h1 h2 h3
        · by_cases hE : (wrR d o).2 = 0
          · cases hr : rOk r with
            | false => exact torn_form A A' c c' d o r hT' hT m w ht h hw h1 h2 h3 hE hr
            | true =>
              obtain ⟨X, C, ho⟩ := torn_of (r := r) (went_of hE) h1 h2 m
              have hfd := ho.found hr hT (went_of hE).ok hT' h3
              by_cases m0 : m = 0
              · rcases hfd with hk | ⟨hk, hp⟩
                · exact torn_0k A A' c c' d o r hT' hT m w ht h hw h1 h2 h3 hE hr m0 X C ho hk
                · by_cases hp0 : (fdR C).1 = r
                  · exact torn_0r A A' c c' d o r hT' hT m w ht h hw h1 h2 h3 hE hr m0 X C ho hk hp0
                  · by_cases hp1 : (fdR C).1 = o
                    · exact torn_0o A A' c c' d o r hT' hT m w ht h hw h1 h2 h3 hE hr m0 X C ho hk hp1
                    · rcases hp with hp | hp | ⟨hy, hy1⟩
                      · exact absurd hp hp0
                      · exact absurd hp hp1
                      · exact torn_0y A A' c c' d o r hT' hT m w ht h hw h1 h2 h3 hE hr m0 X C ho hk hp0 hp1 hy hy1
              · by_cases m1 : m = 255
                · rcases hfd with hk | ⟨hk, hp⟩
                  · exact torn_1k A A' c c' d o r hT' hT m w ht h hw h1 h2 h3 hE hr m1 X C ho hk
                  · by_cases hp0 : (fdR C).1 = r
                    · exact torn_1r A A' c c' d o r hT' hT m w ht h hw h1 h2 h3 hE hr m1 X C ho hk hp0
                    · by_cases hp1 : (fdR C).1 = o
                      · exact torn_1o A A' c c' d o r hT' hT m w ht h hw h1 h2 h3 hE hr m1 X C ho hk hp1
                      · rcases hp with hp | hp | ⟨hy, hy1⟩
                        · exact absurd hp hp0
                        · exact absurd hp hp1
                        · exact torn_1y A A' c c' d o r hT' hT m w ht h hw h1 h2 h3 hE hr m1 X C ho hk hp0 hp1 hy hy1
                · rcases hfd with hk | ⟨hk, hp⟩
                  · exact torn_2k A A' c c' d o r hT' hT m w ht h hw h1 h2 h3 hE hr m0 m1 X C ho hk
                  · by_cases hp0 : (fdR C).1 = r
                    · exact torn_2r A A' c c' d o r hT' hT m w ht h hw h1 h2 h3 hE hr m0 m1 X C ho hk hp0
                    · by_cases hp1 : (fdR C).1 = o
                      · exact torn_2o A A' c c' d o r hT' hT m w ht h hw h1 h2 h3 hE hr m0 m1 X C ho hk hp1
                      · rcases hp with hp | hp | ⟨hy, hy1⟩
                        · exact absurd hp hp0
                        · exact absurd hp hp1
                        · exact torn_2y A A' c c' d o r hT' hT m w ht h hw h1 h2 h3 hE hr m0 m1 X C ho hk hp0 hp1 hy hy1
          · exact torn_dead A A' c c' d o r hT' hT m w ht h hw h1 h2 h3 hE
      · exact torn_par A A' c c' d o r m w ht h hw h1 h2
    · exact torn_left A A' c c' d o r m w ht h hw h1
end Go.Proofs.YtommlgdolahfbaaDoor
