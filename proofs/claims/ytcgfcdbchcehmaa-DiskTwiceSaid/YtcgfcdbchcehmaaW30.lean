import Derived.Test.YtcgfcdbchcehmaaW27
import Derived.Test.YtcgfcdbchcehmaaW28
import Derived.Test.YtcgfcdbchcehmaaW29
namespace Go.Proofs.Ytcgfcdbchcehmaa
open Go.RowKit
theorem twice_any (A A' A1 A2 A3 A4 : Option Addr) (c c' c1 c2 c3 c4 : Nat) (d : Dk) (ms more : List UInt8) (at_ o_ : Int) (a b : List UInt8) (w : World)
    (h : Dsk 0 w.heap.size w (.agg #[.slice A d.dry.length c, .slice A' d.wet.length c', .int .i64 d.left]) d) (hm : Bs 0 w.heap.size w (.slice A1 ms.length c1) ms) (hmo : Bs 0 w.heap.size w (.slice A2 more.length c2) more) (hba : Bs 0 w.heap.size w (.slice A3 a.length c3) a) (hbb : Bs 0 w.heap.size w (.slice A4 b.length c4) b) :
    Calls Try.prog 7 #[.agg #[.slice A d.dry.length c, .slice A' d.wet.length c', .int .i64 d.left], .slice A1 ms.length c1, .slice A2 more.length c2, .int .i64 at_, .int .i64 o_, .slice A3 a.length c3, .slice A4 b.length c4] w fun e w' => e = .returned (.bool true) ∧ Below w.heap.size w w' := by
  have g := twice_gate A A' A1 A2 A3 A4 c c' c1 c2 c3 c4 d ms more at_ o_ a b w h hm hmo hba hbb
  cases hf : fewB d with
  | false => exact g (.inl hf)
  | true =>
    by_cases h1 : ms.length ≤ 300
    · by_cases h2 : more.length ≤ 300
      · by_cases h3 : a.length ≤ 100
        · by_cases h4 : b.length ≤ 100
          · by_cases hl : d.left = -1
            · cases hok : okD d with
              | false => exact twice_bad A A' A1 A2 A3 A4 c c' c1 c2 c3 c4 d ms more at_ o_ a b w h hm hmo hba hbb hf h1 h2 h3 h4 hl hok
              | true =>
                cases q1 : wrB d at_ a.length with
                | false => exact twice_ret A A' A1 A2 A3 A4 c c' c1 c2 c3 c4 d ms more at_ o_ a b w h hm hmo hba hbb hf h1 h2 h3 h4 hl hok (.inl q1)
                | true =>
                  cases q2 : wrB d o_ b.length with
                  | false => exact twice_ret A A' A1 A2 A3 A4 c c' c1 c2 c3 c4 d ms more at_ o_ a b w h hm hmo hba hbb hf h1 h2 h3 h4 hl hok (.inr ⟨q1, q2⟩)
                  | true => exact twice_go A A' A1 A2 A3 A4 c c' c1 c2 c3 c4 d ms more at_ o_ a b w h hm hmo hba hbb hf h1 h2 h3 h4 hl hok ⟨q1, q2⟩
            · have hb : (d.left != -1) = true := by rw [bne_iff_ne]; exact hl
              exact g (.inr ⟨hf, .inr ⟨by omega, .inr ⟨by omega, .inr ⟨by omega, .inr ⟨by omega, hb⟩⟩⟩⟩⟩)
          · exact g (.inr ⟨hf, .inr ⟨by omega, .inr ⟨by omega, .inr ⟨by omega, .inl (by omega)⟩⟩⟩⟩)
        · exact g (.inr ⟨hf, .inr ⟨by omega, .inr ⟨by omega, .inl (by omega)⟩⟩⟩)
      · exact g (.inr ⟨hf, .inr ⟨by omega, .inl (by omega)⟩⟩)
    · exact g (.inr ⟨hf, .inl (by omega)⟩)
end Go.Proofs.Ytcgfcdbchcehmaa
