import Derived.Test.YtcgfcdbchcehmaaS62a
import Derived.Test.YtcgfcdbchcehmaaS62b
namespace Go.Proofs.Ytcgfcdbchcehmaa
open Go.RowKit

theorem does_any (v vo vb : Value) (d o : Dk) (at_ sec deeds : Int) (b : List UInt8) (w : World) (h : Dsk 0 w.heap.size w v d) (ho : Dsk 0 w.heap.size w vo o) (hb : Bs 0 w.heap.size w vb b) :
    Calls Try.prog 3 #[v, vo, .int .i64 at_, vb, .int .i64 sec, .int .i64 deeds] w fun e w' => e = .returned (.bool true) ∧ Below w.heap.size w w' := by
  obtain ⟨Ab, cb, rfl, _⟩ := id hb
  cases hx : fewB d with
  | false => exact does_gate 0 0 v vo d o at_ sec deeds Ab b.length cb w h ho _ _ hx rfl (.inl rfl)
  | true =>
    cases hy : fewB o with
    | false => exact does_gate 0 0 v vo d o at_ sec deeds Ab b.length cb w h ho _ _ hx hy (.inr (.inl rfl))
    | true =>
      by_cases hl : b.length ≤ 100
      · by_cases h1 : 200 < sec
        · by_cases h2 : sec ≤ 8192
          · exact does_gate 0 0 v vo d o at_ sec deeds Ab b.length cb w h ho _ _ hx hy (.inr (.inr (.inr ⟨h1, h2⟩)))
          · exact does_mainb v vo d o at_ sec deeds Ab cb b w h ho hb hx hy hl h1 h2
        · exact does_maina v vo d o at_ sec deeds Ab cb b w h ho hb hx hy hl h1
      · exact does_gate 0 0 v vo d o at_ sec deeds Ab b.length cb w h ho _ _ hx hy (.inr (.inr (.inl (by omega))))
end Go.Proofs.Ytcgfcdbchcehmaa
