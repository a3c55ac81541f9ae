import Derived.Test.YtbonnlaplggjgaaW20
namespace Go.Proofs.Ytbonnlaplggjgaa
open Go.RowKit

theorem does_any (p : Int) (b : Bool) (n : Int) (v0 v1 : Value) (l : List Int) (bs : List Bit) (s : Int) (w : World) (h : Is 0 w.heap.size w v0 l) (h1 : Bts 0 w.heap.size w v1 bs) (hs : 0 ≤ s ∧ s < 4294967296) :
    Calls Try.prog 3 #[.int .i64 p, .bool b, .int .i64 n, v0, v1, .int .u32 s] w fun e w' => e = .returned (.bool true) ∧ Below w.heap.size w w' := by
  by_cases hg : (60 < l.length ∧ l.length ≤ 1024) ∨ 1030 < l.length ∨ 200 < bs.length ∨ (60 < n ∧ n ≤ 1024)
  · obtain ⟨A0, c0, e0, _, _, _⟩ := h.open
    obtain ⟨A1, c1, e1, _, _, _⟩ := h1.open
    rw [e0, e1]
    exact does_gate p b n A0 A1 l.length bs.length c0 c1 s w hg
  · have g2 : bs.length ≤ 200 := by omega
    by_cases a1 : l.length ≤ 60
    · by_cases a2 : n ≤ 60
      · exact does_1 0 0 p b n v0 v1 l bs s w h h1 hs a1 a2 g2
      · exact does_2 0 0 p b n v0 v1 l bs s w h h1 hs a1 (by omega) g2
    · by_cases a2 : n ≤ 60
      · exact does_3 0 0 p b n v0 v1 l bs s w h h1 hs (by omega) a2 g2
      · exact does_4 0 0 p b n v0 v1 l bs s w h h1 hs (by omega) (by omega) g2
end Go.Proofs.Ytbonnlaplggjgaa
