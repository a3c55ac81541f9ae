import Derived.Test.YtplnnlepjooeoaaW8
namespace Go.Proofs.Ytplnnlepjooeoaa
open Go.RowKit

set_option maxHeartbeats 1000000 in
theorem xor_gate (va vb vc : Value) (A B C : Option Addr) (a b c ca cb cc : Nat) (w : World) (h : 500 < a ∨ (a ≤ 500 ∧ a ≠ b) ∨ (a ≤ 500 ∧ a = b ∧ a ≠ c)) (ea : va = .slice A a ca) (eb : vb = .slice B b cb) (ec : vc = .slice C c cc) :
    Calls Try.prog 5 #[va, vb, vc] w fun e w' => e = .returned (.bool true) ∧ Below w.heap.size w w' := by
  subst ea eb ec
  rcases h with h | ⟨h, h1⟩ | ⟨h, h1, h2⟩
  · have h' : (500 : Int) < (a : Int) := by omega
    go_enter Try.func5, Try.ntmps5
    go_wp2_with (first
      | (go_at_call 7; refine (live_any _).mono ?_; rintro e w1 ⟨rfl, hb1⟩)
      | fail)
    go_ret
    exact ⟨rfl, hb1⟩
  · have h' : ¬ (500 : Int) < (a : Int) := by omega
    have h3 : ((a : Int) != (b : Int)) = true := by rw [bne_iff_ne]; omega
    clear h1
    go_enter Try.func5, Try.ntmps5
    go_wp2_with (first
      | (go_at_call 7; refine (live_any _).mono ?_; rintro e w1 ⟨rfl, hb1⟩)
      | fail)
    go_ret
    exact ⟨rfl, hb1⟩
  · have h' : ¬ (500 : Int) < (a : Int) := by omega
    subst h1
    have h3 : ((a : Int) != (c : Int)) = true := by rw [bne_iff_ne]; omega
    clear h2
    go_enter Try.func5, Try.ntmps5
    go_wp2_with (first
      | (go_at_call 7; refine (live_any _).mono ?_; rintro e w1 ⟨rfl, hb1⟩)
      | fail)
    go_ret
    exact ⟨rfl, hb1⟩

theorem xor_any (lo : Nat) (va vb vc : Value) (a b c : List UInt8) (w : World) (ha : Bs lo w.heap.size w va a) (hb : Bs lo w.heap.size w vb b) (hc : Bs lo w.heap.size w vc c) :
    Calls Try.prog 5 #[va, vb, vc] w fun e w' => e = .returned (.bool true) ∧ Below w.heap.size w w' := by
  by_cases h : a.length ≤ 500 ∧ a.length = b.length ∧ a.length = c.length
  · exact xor_go lo va vb vc a b c w ha hb hc h.1 h.2.1 h.2.2
  · have h' : 500 < a.length ∨ (a.length ≤ 500 ∧ a.length ≠ b.length) ∨ (a.length ≤ 500 ∧ a.length = b.length ∧ a.length ≠ c.length) := by omega
    obtain ⟨A, ca, e1, _⟩ := ha
    obtain ⟨B, cb, e2, _⟩ := hb
    obtain ⟨C, cc, e3, _⟩ := hc
    exact xor_gate va vb vc A B C a.length b.length c.length ca cb cc w h' e1 e2 e3
end Go.Proofs.Ytplnnlepjooeoaa
