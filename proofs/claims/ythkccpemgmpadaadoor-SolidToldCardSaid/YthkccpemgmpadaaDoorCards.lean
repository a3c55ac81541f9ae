/-
  DERIVED. GIVEN WITH THE SEED: THE CARDS: each row of YthkccpemgmpadaaDoorRows.lean that lists a variable, with what it lists TIED to the program's text (the seventh form; the later family's looks); each row that meets fmt, with fmt's text TOLD by the authors' own Lean function (tested against real Go, not proved from fmt's source: count such statements apart). THE CARD IS WHAT COUNTS. Prove the row's statement (the work); the ties are given (YthkccpemgmpadaaDoorTie.lean); close each card by the builder's one call (the guide's Derived/Test/ToyasCard.lean, 'card_holds'). Laid BY PROGRAM, IN A SANDBOX (cutbox-door.mjs). By AI agents, Wed Nov 11 2026. No macro, syntax, notation, axiom, sorry.
-/
import Derived.Test.YthkccpemgmpadaaDoorRows
import GoSem.ClaimSeven
namespace Go.Proofs.YthkccpemgmpadaaDoor
namespace Rows

/-- THE TIED CARD OF 'tansylaw15.SolidBack'. -/
def solidBackCard : Claim7 := { stood := { row := solidBackRow, standIns := [], harness := (true, "e390b70007f8200ca8337a6778bcd97d69a3af3e9dc8aebcdbbe1e67e0388d75"), looks := false }, kinds := [], alts := [], laidByText := true, laidKinds := [.data], laidTests := true, laidLooks := .later }
def SolidBackCardSaid : Prop := Claim7.holds Tryd.pinned (.plain (OpenSpec.ofChange solidBackSpec)) solidBackCard

/-- THE TIED CARD OF 'tansylaw15.SolidTold'. -/
def solidToldCard : Claim7 := { stood := { row := solidToldRow, standIns := [], harness := (true, "e390b70007f8200ca8337a6778bcd97d69a3af3e9dc8aebcdbbe1e67e0388d75"), looks := false }, kinds := [], alts := [], laidByText := true, laidKinds := [.data], laidTests := true, laidLooks := .later }
def SolidToldCardSaid : Prop := Claim7.holds Tryd.pinned (.plain (OpenSpec.ofChange solidToldSpec)) solidToldCard

/-- THE TIED CARD OF 'tansylaw15.SolidRing'. -/
def solidRingCard : Claim7 := { stood := { row := solidRingRow, standIns := [], harness := (true, "e390b70007f8200ca8337a6778bcd97d69a3af3e9dc8aebcdbbe1e67e0388d75"), looks := false }, kinds := [], alts := [], laidByText := true, laidKinds := [.data], laidTests := true, laidLooks := .later }
def SolidRingCardSaid : Prop := Claim7.holds Tryd.pinned (.plain (OpenSpec.ofChange solidRingSpec)) solidRingCard

/-- THE SECOND FORM's CARD OF 'tansylaw15.SolidBack'. -/
def solidBackUptoCard : Claim7 := { stood := { row := solidBackUptoRow, standIns := [], harness := (true, "e390b70007f8200ca8337a6778bcd97d69a3af3e9dc8aebcdbbe1e67e0388d75"), looks := false }, kinds := [], alts := [], laidByText := true, laidKinds := [.data], laidTests := true, laidLooks := .later }
def SolidBackUptoCardSaid : Prop := Claim7.holds Tryd.pinned (.plain (OpenSpec.upto solidBackSpec)) solidBackUptoCard

/-- THE SECOND FORM's CARD OF 'tansylaw15.SolidTold'. -/
def solidToldUptoCard : Claim7 := { stood := { row := solidToldUptoRow, standIns := [], harness := (true, "e390b70007f8200ca8337a6778bcd97d69a3af3e9dc8aebcdbbe1e67e0388d75"), looks := false }, kinds := [], alts := [], laidByText := true, laidKinds := [.data], laidTests := true, laidLooks := .later }
def SolidToldUptoCardSaid : Prop := Claim7.holds Tryd.pinned (.plain (OpenSpec.upto solidToldSpec)) solidToldUptoCard

/-- THE SECOND FORM's CARD OF 'tansylaw15.SolidRing'. -/
def solidRingUptoCard : Claim7 := { stood := { row := solidRingUptoRow, standIns := [], harness := (true, "e390b70007f8200ca8337a6778bcd97d69a3af3e9dc8aebcdbbe1e67e0388d75"), looks := false }, kinds := [], alts := [], laidByText := true, laidKinds := [.data], laidTests := true, laidLooks := .later }
def SolidRingUptoCardSaid : Prop := Claim7.holds Tryd.pinned (.plain (OpenSpec.upto solidRingSpec)) solidRingUptoCard
end Rows
end Go.Proofs.YthkccpemgmpadaaDoor
