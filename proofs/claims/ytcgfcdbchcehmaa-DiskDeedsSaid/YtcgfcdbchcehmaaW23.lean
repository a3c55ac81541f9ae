import Derived.Test.YtcgfcdbchcehmaaW22
namespace Go.Proofs.Ytcgfcdbchcehmaa
open Go.RowKit
theorem last_any (A A' A2 A3 : Option Addr) (c c' c2 c3 : Nat) (d : Dk) (at_ : Int) (b : List UInt8) (other : Int) (ms : List UInt8) (w : World)
    (h : Dsk 0 w.heap.size w (.agg #[.slice A d.dry.length c, .slice A' d.wet.length c', .int .i64 d.left]) d) (hbs : Bs 0 w.heap.size w (.slice A2 b.length c2) b) (hm : Bs 0 w.heap.size w (.slice A3 ms.length c3) ms) :
    Calls Try.prog 5 #[.agg #[.slice A d.dry.length c, .slice A' d.wet.length c', .int .i64 d.left], .int .i64 at_, .slice A2 b.length c2, .int .i64 other, .slice A3 ms.length c3] w fun e w' => e = .returned (.bool true) ∧ Below w.heap.size w w' := by
  cases hf : fewB d with
  | false => exact last_gate A A' A2 A3 c c' c2 c3 d at_ b other ms w h hbs hm (.inl hf)
  | true =>
    by_cases hb : b.length ≤ 100
    · by_cases hl : ms.length ≤ 300
      · cases hq : wrB d at_ b.length with
        | false => exact last_arg A A' A2 A3 c c' c2 c3 d at_ b other ms w h hbs hm hf hb hl hq
        | true =>
          by_cases h0 : d.left = 0
          · exact last_dead A A' A2 A3 c c' c2 c3 d at_ b other ms w h hbs hm hf hb hl hq h0
          · exact last_go A A' A2 A3 c c' c2 c3 d at_ b other ms w h hbs hm hf hb hl hq h0
      · exact last_gate A A' A2 A3 c c' c2 c3 d at_ b other ms w h hbs hm (.inr ⟨hf, .inr ⟨by omega, by omega⟩⟩)
    · exact last_gate A A' A2 A3 c c' c2 c3 d at_ b other ms w h hbs hm (.inr ⟨hf, .inl (by omega)⟩)
end Go.Proofs.Ytcgfcdbchcehmaa
