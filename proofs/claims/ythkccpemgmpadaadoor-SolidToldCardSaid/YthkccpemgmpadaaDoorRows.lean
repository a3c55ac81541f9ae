/-
  NARROWER THAN 'FOR EVERY INPUT', by the rows' own cells (each row's printed sentence says how): SolidBack: laid · SolidTold: laid · SolidRing: laid.
  DERIVED. THE GIVEN ROWS OF THIS SEAT. 3 by the template 'for every input the law returns true; each argument reads behind the call as it read before'; 0 by the template 'total and deterministic' (their statements: YthkccpemgmpadaaDoorTotals.lean).
  GIVEN WITH THE SEED: the statements are not yours to turn. If you find one false, say at which input.
  Laid BY PROGRAM, IN A SANDBOX (cutbox-rows.mjs): the forced cells as the released guide's own fill.sh prints them over the translation 086d9125867875d2… (all of the seat's roots in one cut). By AI agents, Wed Nov 11 2026. No macro, syntax, notation, axiom, sorry.
-/
import Derived.Test.YthkccpemgmpadaaDoorChecked
import GoSem.Claim
import GoSem.ClaimJoined
import GoSem.ClaimMapViews
import Derived.JoinedTies
import Derived.KernelRfl
namespace Go.Proofs.YthkccpemgmpadaaDoor
/- THE CELL 'sum', in the pinned program and in every row, IS THE sha256 OF THE DUMP (.gsa) THAT YthkccpemgmpadaaDoorProg.lean LOADS. Nothing in Lean hashes anything: it is a label: what it is worth is what the hold of that sum in a sandbox is worth. -/
noncomputable def Tryd.pinned : Pinned := { name := "ythkccpemgmpadaadoor", sum := "086d9125867875d228eac7d21e33815a67bf0adabbf1bf85d98bc6931f8f8134", checked := Tryd.checked }
namespace Rows
def none {H : Type} : Left H := { results := [], args := [] }

/- WHAT THE LISTED PACKAGE-LEVEL VARIABLES READ AS WHEN THE CALL BEGINS. Each datum BY PROGRAM (the guide's laid-datum.mjs) off the statement by which the dump's own 'gosem.cut.vars' lays the variable. In a bare row this is a premise. The card (YthkccpemgmpadaaDoorCards.lean) ties it to the program's text. -/
def laid_tansy_perm_turns {H : Type} : DataW H := .agg [.lit (.int .i64 16), .lit (.int .i64 12), .lit (.int .i64 8), .lit (.int .i64 7)]

/-- 'tansylaw15.SolidBack': WHATEVER THE INPUT: true; the input reads as it did. -/
def solidBackSpec : ChangeSpec := { name := "solidBack", fn := fun _ => fun
  | [d1, d2] => { results := [.lit (.bool true)], args := [d1, d2] }
  | _ => none }
def solidBackRow : OpenClaim := { program := "ythkccpemgmpadaadoor", sum := "086d9125867875d228eac7d21e33815a67bf0adabbf1bf85d98bc6931f8f8134", func := "tansy/tansylaw15.SolidBack", spec := "solidBack", unfollowed := true, recurses := true, named := ["tansy/perm.turns"], apart := false, laid := [("tansy/perm.turns", laid_tansy_perm_turns)] }
def SolidBackSaid : Prop := solidBackRow.holds Tryd.pinned (OpenSpec.ofChange solidBackSpec)

/-- ITS FALSE NEIGHBOUR: 'it returns false'. Refute it at one input. -/
def solidBackWrong : ChangeSpec := { name := "solidBack", fn := fun _ => fun
  | [d1, d2] => { results := [.lit (.bool false)], args := [d1, d2] }
  | _ => none }
def SolidBackWrongFalsely : Prop := solidBackRow.holds Tryd.pinned (OpenSpec.ofChange solidBackWrong)

/-- 'tansylaw15.SolidTold': WHATEVER THE INPUT: true; the input reads as it did. -/
def solidToldSpec : ChangeSpec := { name := "solidTold", fn := fun _ => fun
  | [d1, d2, d3, d4] => { results := [.lit (.bool true)], args := [d1, d2, d3, d4] }
  | _ => none }
def solidToldRow : OpenClaim := { program := "ythkccpemgmpadaadoor", sum := "086d9125867875d228eac7d21e33815a67bf0adabbf1bf85d98bc6931f8f8134", func := "tansy/tansylaw15.SolidTold", spec := "solidTold", unfollowed := true, recurses := true, named := ["tansy/perm.turns"], apart := false, laid := [("tansy/perm.turns", laid_tansy_perm_turns)] }
def SolidToldSaid : Prop := solidToldRow.holds Tryd.pinned (OpenSpec.ofChange solidToldSpec)

/-- ITS FALSE NEIGHBOUR: 'it returns false'. Refute it at one input. -/
def solidToldWrong : ChangeSpec := { name := "solidTold", fn := fun _ => fun
  | [d1, d2, d3, d4] => { results := [.lit (.bool false)], args := [d1, d2, d3, d4] }
  | _ => none }
def SolidToldWrongFalsely : Prop := solidToldRow.holds Tryd.pinned (OpenSpec.ofChange solidToldWrong)

/-- 'tansylaw15.SolidRing': WHATEVER THE INPUT: true; the input reads as it did. -/
def solidRingSpec : ChangeSpec := { name := "solidRing", fn := fun _ => fun
  | [d1, d2, d3] => { results := [.lit (.bool true)], args := [d1, d2, d3] }
  | _ => none }
def solidRingRow : OpenClaim := { program := "ythkccpemgmpadaadoor", sum := "086d9125867875d228eac7d21e33815a67bf0adabbf1bf85d98bc6931f8f8134", func := "tansy/tansylaw15.SolidRing", spec := "solidRing", unfollowed := true, recurses := true, named := ["tansy/perm.turns"], apart := false, laid := [("tansy/perm.turns", laid_tansy_perm_turns)] }
def SolidRingSaid : Prop := solidRingRow.holds Tryd.pinned (OpenSpec.ofChange solidRingSpec)

/-- ITS FALSE NEIGHBOUR: 'it returns false'. Refute it at one input. -/
def solidRingWrong : ChangeSpec := { name := "solidRing", fn := fun _ => fun
  | [d1, d2, d3] => { results := [.lit (.bool false)], args := [d1, d2, d3] }
  | _ => none }
def SolidRingWrongFalsely : Prop := solidRingRow.holds Tryd.pinned (OpenSpec.ofChange solidRingWrong)

/- THE SECOND FORM. 'bulk': how many values and letters a reading holds, each counted each time it is reached (what is shared counts as often as it is met; a slice's spare places count too). A statement '..UptoSaid' is the law's where the arguments, and the package variables that the reading takes, are together of bulk at most 1048576: NARROWER than '..Said'. Prove '..Said' where nothing that the law and all that it calls make is longer than what came in: it says more and counts as full. Else prove '..UptoSaid'. A law counts once. -/
mutual
def uptoBulk {H : Type} : DataW H → Nat
  | .lit (.string bytes) => bytes.length + 1
  | .lit _ => 1
  | .nil => 1
  | .ptr d => uptoBulk d + 1
  | .slice elems spare => uptoBulkAll elems + uptoBulkAll spare + 1
  | .agg parts => uptoBulkAll parts + 1
  | .iface _ d => uptoBulk d + 1
  | .map entries => uptoBulkEntries entries + 1
  | .held _ => 1
def uptoBulkAll {H : Type} : List (DataW H) → Nat
  | [] => 0
  | d :: r => uptoBulk d + uptoBulkAll r
def uptoBulkEntries {H : Type} : List (Lit × DataW H) → Nat
  | [] => 0
  | x :: r => uptoBulkEntry x + uptoBulkEntries r
def uptoBulkEntry {H : Type} : Lit × DataW H → Nat
  | (.string bytes, d) => bytes.length + uptoBulk d + 1
  | (_, d) => uptoBulk d + 1
 end
def uptoSmall : (H : Type) → List (DataW H) → Bool := fun _ ds => decide (uptoBulkAll ds ≤ 1048576)
def OpenSpec.upto (s : _root_.Go.ChangeSpec) : _root_.Go.OpenSpec := { _root_.Go.OpenSpec.ofChange s with cond := some uptoSmall }

/-- 'tansylaw15.SolidBack', WHERE WHAT IT READS IS OF BULK AT MOST 1048576: true; the input reads as it did. -/
def solidBackUptoRow : OpenClaim := { program := "ythkccpemgmpadaadoor", sum := "086d9125867875d228eac7d21e33815a67bf0adabbf1bf85d98bc6931f8f8134", func := "tansy/tansylaw15.SolidBack", spec := "solidBack", unfollowed := true, recurses := true, named := ["tansy/perm.turns"], apart := false, laid := [("tansy/perm.turns", laid_tansy_perm_turns)], narrowed := true }
def SolidBackUptoSaid : Prop := solidBackUptoRow.holds Tryd.pinned (OpenSpec.upto solidBackSpec)

/-- 'tansylaw15.SolidTold', WHERE WHAT IT READS IS OF BULK AT MOST 1048576: true; the input reads as it did. -/
def solidToldUptoRow : OpenClaim := { program := "ythkccpemgmpadaadoor", sum := "086d9125867875d228eac7d21e33815a67bf0adabbf1bf85d98bc6931f8f8134", func := "tansy/tansylaw15.SolidTold", spec := "solidTold", unfollowed := true, recurses := true, named := ["tansy/perm.turns"], apart := false, laid := [("tansy/perm.turns", laid_tansy_perm_turns)], narrowed := true }
def SolidToldUptoSaid : Prop := solidToldUptoRow.holds Tryd.pinned (OpenSpec.upto solidToldSpec)

/-- 'tansylaw15.SolidRing', WHERE WHAT IT READS IS OF BULK AT MOST 1048576: true; the input reads as it did. -/
def solidRingUptoRow : OpenClaim := { program := "ythkccpemgmpadaadoor", sum := "086d9125867875d228eac7d21e33815a67bf0adabbf1bf85d98bc6931f8f8134", func := "tansy/tansylaw15.SolidRing", spec := "solidRing", unfollowed := true, recurses := true, named := ["tansy/perm.turns"], apart := false, laid := [("tansy/perm.turns", laid_tansy_perm_turns)], narrowed := true }
def SolidRingUptoSaid : Prop := solidRingUptoRow.holds Tryd.pinned (OpenSpec.upto solidRingSpec)

end Rows
end Go.Proofs.YthkccpemgmpadaaDoor
