import Derived.Test.YtbonnlaplggjgaaW13
namespace Go.Proofs.Ytbonnlaplggjgaa
open Go.RowKit

theorem order_any (v0 v1 v2 : Value) (l : List Int) (a b : List Bit) (at_ : Int) (w : World) (h : Is 0 w.heap.size w v0 l) (h1 : Bts 0 w.heap.size w v1 a) (h2 : Bts 0 w.heap.size w v2 b) :
    Calls Try.prog 6 #[v0, v1, v2, .int .i64 at_] w fun e w' => e = .returned (.bool true) ∧ Below w.heap.size w w' := by
  obtain ⟨A0, c0, e0, _, _, _⟩ := h.open
  obtain ⟨A1, c1, e1, _, _, _⟩ := h1.open
  obtain ⟨A2, c2, e2, _, _, _⟩ := h2.open
  by_cases hg : l.length ≤ 60 ∧ a.length ≤ 100 ∧ b.length ≤ 100 ∧ 0 ≤ at_ ∧ at_ < l.length
  · cases hok : okC l with
    | false => exact order_bad 0 0 v0 v1 v2 l a at_ w h h1 A2 b.length c2 e2 hg [] 1 (by rw [allR, if_pos hok]) (by decide)
    | true =>
      cases hin : a.all (inB l.length) with
      | false => exact order_bad 0 0 v0 v1 v2 l a at_ w h h1 A2 b.length c2 e2 hg [] 4 (by rw [allR, if_neg (by rw [hok]; decide), if_pos hin]) (by decide)
      | true => exact order_good 0 0 0 v0 v1 v2 l a b at_ w h h1 h2 hg hok hin
  · exact order_gate_any v0 v1 v2 A0 A1 A2 l.length a.length b.length c0 c1 c2 at_ w e0 e1 e2 hg
end Go.Proofs.Ytbonnlaplggjgaa
