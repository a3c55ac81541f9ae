/-
  No cell of these rows narrows 'for every input' (looked for: loops, veiled, ifaces, maps, wideKeys, modest, calm, conditions, laid).
  DERIVED. THE GIVEN ROWS OF THIS SEAT. 6 by the template 'for every input the law returns true; each argument reads behind the call as it read before'; 0 by the template 'total and deterministic' (their statements: YtcgfcdbchcehmaaTotals.lean).
  GIVEN WITH THE SEED: the statements are not yours to turn. If you find one false, say at which input.
  Laid BY PROGRAM, IN A SANDBOX (cutbox-rows.mjs): the forced cells as the released guide's own fill.sh prints them over the translation f80860dc50f9cb4b… (all of the seat's roots in one cut). By AI agents, Wed Nov 11 2026. No macro, syntax, notation, axiom, sorry.
-/
import Derived.Test.YtcgfcdbchcehmaaChecked
import GoSem.Claim
import GoSem.ClaimJoined
import GoSem.ClaimMapViews
import Derived.JoinedTies
import Derived.KernelRfl
namespace Go.Proofs.Ytcgfcdbchcehmaa
/- THE CELL 'sum', in the pinned program and in every row, IS THE sha256 OF THE DUMP (.gsa) THAT YtcgfcdbchcehmaaProg.lean LOADS. Nothing in Lean hashes anything: it is a label: what it is worth is what the hold of that sum in a sandbox is worth. -/
noncomputable def Try.pinned : Pinned := { name := "ytcgfcdbchcehmaa", sum := "f80860dc50f9cb4b6431fa0e63f030b7b8e3ff62757d2ecc0d07d1f657b80054", checked := Try.checked }
namespace Rows
def none {H : Type} : Left H := { results := [], args := [] }

/-- 'tansylaw01.DiskDoes': WHATEVER THE INPUT: true; the input reads as it did. -/
def diskDoesSpec : ChangeSpec := { name := "diskDoes", fn := fun _ => fun
  | [d1, d2, d3, d4, d5, d6] => { results := [.lit (.bool true)], args := [d1, d2, d3, d4, d5, d6] }
  | _ => none }
def diskDoesRow : OpenClaim := { program := "ytcgfcdbchcehmaa", sum := "f80860dc50f9cb4b6431fa0e63f030b7b8e3ff62757d2ecc0d07d1f657b80054", func := "tansy/tansylaw01.DiskDoes", spec := "diskDoes", inPlace := ["slices.overlaps[tansy/api.Page]"], unfollowed := true, recurses := true, apart := false }
def DiskDoesSaid : Prop := diskDoesRow.holds Try.pinned (OpenSpec.ofChange diskDoesSpec)

/-- ITS FALSE NEIGHBOUR: 'it returns false'. Refute it at one input. -/
def diskDoesWrong : ChangeSpec := { name := "diskDoes", fn := fun _ => fun
  | [d1, d2, d3, d4, d5, d6] => { results := [.lit (.bool false)], args := [d1, d2, d3, d4, d5, d6] }
  | _ => none }
def DiskDoesWrongFalsely : Prop := diskDoesRow.holds Try.pinned (OpenSpec.ofChange diskDoesWrong)

/-- 'tansylaw01.DiskCrashes': WHATEVER THE INPUT: true; the input reads as it did. -/
def diskCrashesSpec : ChangeSpec := { name := "diskCrashes", fn := fun _ => fun
  | [d1, d2] => { results := [.lit (.bool true)], args := [d1, d2] }
  | _ => none }
def diskCrashesRow : OpenClaim := { program := "ytcgfcdbchcehmaa", sum := "f80860dc50f9cb4b6431fa0e63f030b7b8e3ff62757d2ecc0d07d1f657b80054", func := "tansy/tansylaw01.DiskCrashes", spec := "diskCrashes", inPlace := ["slices.overlaps[tansy/api.Page]"], unfollowed := true, recurses := true, apart := false }
def DiskCrashesSaid : Prop := diskCrashesRow.holds Try.pinned (OpenSpec.ofChange diskCrashesSpec)

/-- ITS FALSE NEIGHBOUR: 'it returns false'. Refute it at one input. -/
def diskCrashesWrong : ChangeSpec := { name := "diskCrashes", fn := fun _ => fun
  | [d1, d2] => { results := [.lit (.bool false)], args := [d1, d2] }
  | _ => none }
def DiskCrashesWrongFalsely : Prop := diskCrashesRow.holds Try.pinned (OpenSpec.ofChange diskCrashesWrong)

/-- 'tansylaw01.DiskLast': WHATEVER THE INPUT: true; the input reads as it did. -/
def diskLastSpec : ChangeSpec := { name := "diskLast", fn := fun _ => fun
  | [d1, d2, d3, d4, d5] => { results := [.lit (.bool true)], args := [d1, d2, d3, d4, d5] }
  | _ => none }
def diskLastRow : OpenClaim := { program := "ytcgfcdbchcehmaa", sum := "f80860dc50f9cb4b6431fa0e63f030b7b8e3ff62757d2ecc0d07d1f657b80054", func := "tansy/tansylaw01.DiskLast", spec := "diskLast", inPlace := ["slices.overlaps[tansy/api.Page]"], unfollowed := true, recurses := true, apart := false }
def DiskLastSaid : Prop := diskLastRow.holds Try.pinned (OpenSpec.ofChange diskLastSpec)

/-- ITS FALSE NEIGHBOUR: 'it returns false'. Refute it at one input. -/
def diskLastWrong : ChangeSpec := { name := "diskLast", fn := fun _ => fun
  | [d1, d2, d3, d4, d5] => { results := [.lit (.bool false)], args := [d1, d2, d3, d4, d5] }
  | _ => none }
def DiskLastWrongFalsely : Prop := diskLastRow.holds Try.pinned (OpenSpec.ofChange diskLastWrong)

/-- 'tansylaw01.DiskTorn': WHATEVER THE INPUT: true; the input reads as it did. -/
def diskTornSpec : ChangeSpec := { name := "diskTorn", fn := fun _ => fun
  | [d1, d2, d3, d4] => { results := [.lit (.bool true)], args := [d1, d2, d3, d4] }
  | _ => none }
def diskTornRow : OpenClaim := { program := "ytcgfcdbchcehmaa", sum := "f80860dc50f9cb4b6431fa0e63f030b7b8e3ff62757d2ecc0d07d1f657b80054", func := "tansy/tansylaw01.DiskTorn", spec := "diskTorn", inPlace := ["slices.overlaps[tansy/api.Page]"], unfollowed := true, recurses := true, apart := false }
def DiskTornSaid : Prop := diskTornRow.holds Try.pinned (OpenSpec.ofChange diskTornSpec)

/-- ITS FALSE NEIGHBOUR: 'it returns false'. Refute it at one input. -/
def diskTornWrong : ChangeSpec := { name := "diskTorn", fn := fun _ => fun
  | [d1, d2, d3, d4] => { results := [.lit (.bool false)], args := [d1, d2, d3, d4] }
  | _ => none }
def DiskTornWrongFalsely : Prop := diskTornRow.holds Try.pinned (OpenSpec.ofChange diskTornWrong)

/-- 'tansylaw01.DiskTwice': WHATEVER THE INPUT: true; the input reads as it did. -/
def diskTwiceSpec : ChangeSpec := { name := "diskTwice", fn := fun _ => fun
  | [d1, d2, d3, d4, d5, d6, d7] => { results := [.lit (.bool true)], args := [d1, d2, d3, d4, d5, d6, d7] }
  | _ => none }
def diskTwiceRow : OpenClaim := { program := "ytcgfcdbchcehmaa", sum := "f80860dc50f9cb4b6431fa0e63f030b7b8e3ff62757d2ecc0d07d1f657b80054", func := "tansy/tansylaw01.DiskTwice", spec := "diskTwice", inPlace := ["slices.overlaps[tansy/api.Page]"], unfollowed := true, recurses := true, apart := false }
def DiskTwiceSaid : Prop := diskTwiceRow.holds Try.pinned (OpenSpec.ofChange diskTwiceSpec)

/-- ITS FALSE NEIGHBOUR: 'it returns false'. Refute it at one input. -/
def diskTwiceWrong : ChangeSpec := { name := "diskTwice", fn := fun _ => fun
  | [d1, d2, d3, d4, d5, d6, d7] => { results := [.lit (.bool false)], args := [d1, d2, d3, d4, d5, d6, d7] }
  | _ => none }
def DiskTwiceWrongFalsely : Prop := diskTwiceRow.holds Try.pinned (OpenSpec.ofChange diskTwiceWrong)

/-- 'tansylaw01.DiskDeeds': WHATEVER THE INPUT: true; the input reads as it did. -/
def diskDeedsSpec : ChangeSpec := { name := "diskDeeds", fn := fun _ => fun
  | [d1, d2, d3] => { results := [.lit (.bool true)], args := [d1, d2, d3] }
  | _ => none }
def diskDeedsRow : OpenClaim := { program := "ytcgfcdbchcehmaa", sum := "f80860dc50f9cb4b6431fa0e63f030b7b8e3ff62757d2ecc0d07d1f657b80054", func := "tansy/tansylaw01.DiskDeeds", spec := "diskDeeds", inPlace := ["slices.overlaps[tansy/api.Page]"], unfollowed := true, recurses := true, apart := false }
def DiskDeedsSaid : Prop := diskDeedsRow.holds Try.pinned (OpenSpec.ofChange diskDeedsSpec)

/-- ITS FALSE NEIGHBOUR: 'it returns false'. Refute it at one input. -/
def diskDeedsWrong : ChangeSpec := { name := "diskDeeds", fn := fun _ => fun
  | [d1, d2, d3] => { results := [.lit (.bool false)], args := [d1, d2, d3] }
  | _ => none }
def DiskDeedsWrongFalsely : Prop := diskDeedsRow.holds Try.pinned (OpenSpec.ofChange diskDeedsWrong)

/- THE SECOND FORM. 'bulk': how many values and letters a reading holds, each counted each time it is reached (what is shared counts as often as it is met; a slice's spare places count too). A statement '..UptoSaid' is the law's where the arguments, and the package variables that the reading takes, are together of bulk at most 1048576: NARROWER than '..Said'. Prove '..Said' where nothing that the law and all that it calls make is longer than what came in: it says more and counts as full. Else prove '..UptoSaid'. A law counts once. -/
mutual
def uptoBulk {H : Type} : DataW H → Nat
  | .lit (.string bytes) => bytes.length + 1
  | .lit _ => 1
  | .nil => 1
  | .ptr d => uptoBulk d + 1
  | .slice elems spare => uptoBulkAll elems + uptoBulkAll spare + 1
  | .agg parts => uptoBulkAll parts + 1
  | .iface _ d => uptoBulk d + 1
  | .map entries => uptoBulkEntries entries + 1
  | .held _ => 1
def uptoBulkAll {H : Type} : List (DataW H) → Nat
  | [] => 0
  | d :: r => uptoBulk d + uptoBulkAll r
def uptoBulkEntries {H : Type} : List (Lit × DataW H) → Nat
  | [] => 0
  | x :: r => uptoBulkEntry x + uptoBulkEntries r
def uptoBulkEntry {H : Type} : Lit × DataW H → Nat
  | (.string bytes, d) => bytes.length + uptoBulk d + 1
  | (_, d) => uptoBulk d + 1
 end
def uptoSmall : (H : Type) → List (DataW H) → Bool := fun _ ds => decide (uptoBulkAll ds ≤ 1048576)
def OpenSpec.upto (s : _root_.Go.ChangeSpec) : _root_.Go.OpenSpec := { _root_.Go.OpenSpec.ofChange s with cond := some uptoSmall }

/-- 'tansylaw01.DiskDoes', WHERE WHAT IT READS IS OF BULK AT MOST 1048576: true; the input reads as it did. -/
def diskDoesUptoRow : OpenClaim := { program := "ytcgfcdbchcehmaa", sum := "f80860dc50f9cb4b6431fa0e63f030b7b8e3ff62757d2ecc0d07d1f657b80054", func := "tansy/tansylaw01.DiskDoes", spec := "diskDoes", inPlace := ["slices.overlaps[tansy/api.Page]"], unfollowed := true, recurses := true, apart := false, narrowed := true }
def DiskDoesUptoSaid : Prop := diskDoesUptoRow.holds Try.pinned (OpenSpec.upto diskDoesSpec)

/-- 'tansylaw01.DiskCrashes', WHERE WHAT IT READS IS OF BULK AT MOST 1048576: true; the input reads as it did. -/
def diskCrashesUptoRow : OpenClaim := { program := "ytcgfcdbchcehmaa", sum := "f80860dc50f9cb4b6431fa0e63f030b7b8e3ff62757d2ecc0d07d1f657b80054", func := "tansy/tansylaw01.DiskCrashes", spec := "diskCrashes", inPlace := ["slices.overlaps[tansy/api.Page]"], unfollowed := true, recurses := true, apart := false, narrowed := true }
def DiskCrashesUptoSaid : Prop := diskCrashesUptoRow.holds Try.pinned (OpenSpec.upto diskCrashesSpec)

/-- 'tansylaw01.DiskLast', WHERE WHAT IT READS IS OF BULK AT MOST 1048576: true; the input reads as it did. -/
def diskLastUptoRow : OpenClaim := { program := "ytcgfcdbchcehmaa", sum := "f80860dc50f9cb4b6431fa0e63f030b7b8e3ff62757d2ecc0d07d1f657b80054", func := "tansy/tansylaw01.DiskLast", spec := "diskLast", inPlace := ["slices.overlaps[tansy/api.Page]"], unfollowed := true, recurses := true, apart := false, narrowed := true }
def DiskLastUptoSaid : Prop := diskLastUptoRow.holds Try.pinned (OpenSpec.upto diskLastSpec)

/-- 'tansylaw01.DiskTorn', WHERE WHAT IT READS IS OF BULK AT MOST 1048576: true; the input reads as it did. -/
def diskTornUptoRow : OpenClaim := { program := "ytcgfcdbchcehmaa", sum := "f80860dc50f9cb4b6431fa0e63f030b7b8e3ff62757d2ecc0d07d1f657b80054", func := "tansy/tansylaw01.DiskTorn", spec := "diskTorn", inPlace := ["slices.overlaps[tansy/api.Page]"], unfollowed := true, recurses := true, apart := false, narrowed := true }
def DiskTornUptoSaid : Prop := diskTornUptoRow.holds Try.pinned (OpenSpec.upto diskTornSpec)

/-- 'tansylaw01.DiskTwice', WHERE WHAT IT READS IS OF BULK AT MOST 1048576: true; the input reads as it did. -/
def diskTwiceUptoRow : OpenClaim := { program := "ytcgfcdbchcehmaa", sum := "f80860dc50f9cb4b6431fa0e63f030b7b8e3ff62757d2ecc0d07d1f657b80054", func := "tansy/tansylaw01.DiskTwice", spec := "diskTwice", inPlace := ["slices.overlaps[tansy/api.Page]"], unfollowed := true, recurses := true, apart := false, narrowed := true }
def DiskTwiceUptoSaid : Prop := diskTwiceUptoRow.holds Try.pinned (OpenSpec.upto diskTwiceSpec)

/-- 'tansylaw01.DiskDeeds', WHERE WHAT IT READS IS OF BULK AT MOST 1048576: true; the input reads as it did. -/
def diskDeedsUptoRow : OpenClaim := { program := "ytcgfcdbchcehmaa", sum := "f80860dc50f9cb4b6431fa0e63f030b7b8e3ff62757d2ecc0d07d1f657b80054", func := "tansy/tansylaw01.DiskDeeds", spec := "diskDeeds", inPlace := ["slices.overlaps[tansy/api.Page]"], unfollowed := true, recurses := true, apart := false, narrowed := true }
def DiskDeedsUptoSaid : Prop := diskDeedsUptoRow.holds Try.pinned (OpenSpec.upto diskDeedsSpec)

end Rows
end Go.Proofs.Ytcgfcdbchcehmaa
