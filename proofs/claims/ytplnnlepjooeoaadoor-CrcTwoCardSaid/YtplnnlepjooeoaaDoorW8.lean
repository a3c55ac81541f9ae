/-
  CrcTwo, as a tied card: whatever the register and the two texts: the call returns true, and the arguments read as they did. What is listed of package-level variables (one table of the library's) is tied to the program's text; no other condition.
-/
import Derived.Test.YtplnnlepjooeoaaDoorW7
namespace Go.Proofs.YtplnnlepjooeoaaDoor
open Go

theorem two_card_proved : Rows.CrcTwoCardSaid :=
  Claim7.holds_tied_plain_at .later [] [.data] true (true, "e913f44a2b9064a22f52e0684715a6d95871e3bf7ba46e0b345a0f8c5444ee98") false
    two_holds (fun _ h => by cases h) (by kernel_rfl) (fun _ h => by cases h) crcTwo_row_tie rfl ⟨rfl, rfl⟩ (by kernel_rfl) rfl
    (fun f fn hf hfn => by
      obtain rfl : f = 3 := Option.some.inj ((show Tryd.prog.funcNamed "tansy/tansylaw03.CrcTwo" = some 3 by kernel_rfl).symm.trans hf) |>.symm
      obtain rfl : fn = Tryd.f3 := (Option.some.inj (Tryd.func3.symm.trans hfn)).symm
      exact ⟨by kernel_rfl, fun j t ht => by
        rw [Tryd.params3] at ht
        have hm : t ∈ [22, 23, 23] := by simpa using Array.mem_of_getElem? ht
        have hall : ([22, 23, 23].all fun u => !Tryd.prog.wantsStandIn u) = true := by kernel_rfl
        exact (show Tryd.prog.wantsStandIn t = false by simpa using List.all_eq_true.1 hall t hm)⟩)
    (by kernel_rfl)
#print axioms two_card_proved
end Go.Proofs.YtplnnlepjooeoaaDoor
