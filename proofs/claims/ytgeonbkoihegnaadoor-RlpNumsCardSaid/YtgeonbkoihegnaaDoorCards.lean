/-
  DERIVED. GIVEN WITH THE SEED: THE CARDS: each row of YtgeonbkoihegnaaDoorRows.lean that lists a variable, with what it lists TIED to the program's text (the seventh form; the later family's looks); each row that meets fmt, with fmt's text TOLD by the authors' own Lean function (tested against real Go, not proved from fmt's source: count such statements apart). THE CARD IS WHAT COUNTS. Prove the row's statement (the work); the ties are given (YtgeonbkoihegnaaDoorTie.lean); close each card by the builder's one call (the guide's Derived/Test/ToyasCard.lean, 'card_holds'). Laid BY PROGRAM, IN A SANDBOX (cutbox-door.mjs). By AI agents, Wed Nov 11 2026. No macro, syntax, notation, axiom, sorry.
-/
import Derived.Test.YtgeonbkoihegnaaDoorRows
import GoSem.ClaimSeven
namespace Go.Proofs.YtgeonbkoihegnaaDoor
namespace Rows

/-- THE TIED CARD OF 'guillochelaw02.RlpNums'. -/
def rlpNumsCard : Claim7 := { stood := { row := rlpNumsRow, standIns := [], harness := (true, "abeb62b141f33f0cca1c5313b0db3ee3e8931845e1b928208d146fc2d9a1d3cd"), looks := true }, kinds := [], alts := [], laidByText := true, laidKinds := [.handle], laidTests := true, laidLooks := .later }
def RlpNumsCardSaid : Prop := Claim7.holds Tryd.pinned (.plain (OpenSpec.ofChange rlpNumsSpec)) rlpNumsCard

/-- THE TIED CARD OF 'guillochelaw02.RlpJoins'. -/
def rlpJoinsCard : Claim7 := { stood := { row := rlpJoinsRow, standIns := [], harness := (true, "abeb62b141f33f0cca1c5313b0db3ee3e8931845e1b928208d146fc2d9a1d3cd"), looks := true }, kinds := [], alts := [], laidByText := true, laidKinds := [.handle], laidTests := true, laidLooks := .later }
def RlpJoinsCardSaid : Prop := Claim7.holds Tryd.pinned (.plain (OpenSpec.ofChange rlpJoinsSpec)) rlpJoinsCard

/-- THE TIED CARD OF 'guillochelaw02.RlpCuts'. -/
def rlpCutsCard : Claim7 := { stood := { row := rlpCutsRow, standIns := [], harness := (true, "abeb62b141f33f0cca1c5313b0db3ee3e8931845e1b928208d146fc2d9a1d3cd"), looks := true }, kinds := [], alts := [], laidByText := true, laidKinds := [.handle], laidTests := true, laidLooks := .later }
def RlpCutsCardSaid : Prop := Claim7.holds Tryd.pinned (.plain (OpenSpec.ofChange rlpCutsSpec)) rlpCutsCard

/-- THE TIED CARD OF 'guillochelaw03.ShaCollide'. -/
def shaCollideCard : Claim7 := { stood := { row := shaCollideRow, standIns := [], harness := (true, "abeb62b141f33f0cca1c5313b0db3ee3e8931845e1b928208d146fc2d9a1d3cd"), looks := true }, kinds := [], alts := [], laidByText := true, laidKinds := [.data, .data], laidTests := true, laidLooks := .later }
def ShaCollideCardSaid : Prop := Claim7.holds Tryd.pinned (.plain (OpenSpec.ofChange shaCollideSpec)) shaCollideCard

/-- THE TIED CARD OF 'guillochelaw03.ShaHex'. -/
def shaHexCard : Claim7 := { stood := { row := shaHexRow, standIns := [], harness := (true, "abeb62b141f33f0cca1c5313b0db3ee3e8931845e1b928208d146fc2d9a1d3cd"), looks := true }, kinds := [], alts := [], laidByText := true, laidKinds := [.data, .data], laidTests := true, laidLooks := .later }
def ShaHexCardSaid : Prop := Claim7.holds Tryd.pinned (.plain (OpenSpec.ofChange shaHexSpec)) shaHexCard

/-- THE TIED CARD OF 'guillochelaw03.ShaFresh'. -/
def shaFreshCard : Claim7 := { stood := { row := shaFreshRow, standIns := [], harness := (true, "abeb62b141f33f0cca1c5313b0db3ee3e8931845e1b928208d146fc2d9a1d3cd"), looks := true }, kinds := [], alts := [], laidByText := true, laidKinds := [.data, .data], laidTests := true, laidLooks := .later }
def ShaFreshCardSaid : Prop := Claim7.holds Tryd.pinned (.plain (OpenSpec.ofChange shaFreshSpec)) shaFreshCard

/-- THE TIED CARD OF 'guillochelaw03.ShaDigits'. -/
def shaDigitsCard : Claim7 := { stood := { row := shaDigitsRow, standIns := [], harness := (true, "abeb62b141f33f0cca1c5313b0db3ee3e8931845e1b928208d146fc2d9a1d3cd"), looks := true }, kinds := [], alts := [], laidByText := true, laidKinds := [.data, .data], laidTests := true, laidLooks := .later }
def ShaDigitsCardSaid : Prop := Claim7.holds Tryd.pinned (.plain (OpenSpec.ofChange shaDigitsSpec)) shaDigitsCard

/-- THE SECOND FORM's CARD OF 'guillochelaw02.RlpNums'. -/
def rlpNumsUptoCard : Claim7 := { stood := { row := rlpNumsUptoRow, standIns := [], harness := (true, "abeb62b141f33f0cca1c5313b0db3ee3e8931845e1b928208d146fc2d9a1d3cd"), looks := true }, kinds := [], alts := [], laidByText := true, laidKinds := [.handle], laidTests := true, laidLooks := .later }
def RlpNumsUptoCardSaid : Prop := Claim7.holds Tryd.pinned (.plain (OpenSpec.upto rlpNumsSpec)) rlpNumsUptoCard

/-- THE SECOND FORM's CARD OF 'guillochelaw02.RlpJoins'. -/
def rlpJoinsUptoCard : Claim7 := { stood := { row := rlpJoinsUptoRow, standIns := [], harness := (true, "abeb62b141f33f0cca1c5313b0db3ee3e8931845e1b928208d146fc2d9a1d3cd"), looks := true }, kinds := [], alts := [], laidByText := true, laidKinds := [.handle], laidTests := true, laidLooks := .later }
def RlpJoinsUptoCardSaid : Prop := Claim7.holds Tryd.pinned (.plain (OpenSpec.upto rlpJoinsSpec)) rlpJoinsUptoCard

/-- THE SECOND FORM's CARD OF 'guillochelaw02.RlpCuts'. -/
def rlpCutsUptoCard : Claim7 := { stood := { row := rlpCutsUptoRow, standIns := [], harness := (true, "abeb62b141f33f0cca1c5313b0db3ee3e8931845e1b928208d146fc2d9a1d3cd"), looks := true }, kinds := [], alts := [], laidByText := true, laidKinds := [.handle], laidTests := true, laidLooks := .later }
def RlpCutsUptoCardSaid : Prop := Claim7.holds Tryd.pinned (.plain (OpenSpec.upto rlpCutsSpec)) rlpCutsUptoCard

/-- THE SECOND FORM's CARD OF 'guillochelaw03.ShaCollide'. -/
def shaCollideUptoCard : Claim7 := { stood := { row := shaCollideUptoRow, standIns := [], harness := (true, "abeb62b141f33f0cca1c5313b0db3ee3e8931845e1b928208d146fc2d9a1d3cd"), looks := true }, kinds := [], alts := [], laidByText := true, laidKinds := [.data, .data], laidTests := true, laidLooks := .later }
def ShaCollideUptoCardSaid : Prop := Claim7.holds Tryd.pinned (.plain (OpenSpec.upto shaCollideSpec)) shaCollideUptoCard

/-- THE SECOND FORM's CARD OF 'guillochelaw03.ShaHex'. -/
def shaHexUptoCard : Claim7 := { stood := { row := shaHexUptoRow, standIns := [], harness := (true, "abeb62b141f33f0cca1c5313b0db3ee3e8931845e1b928208d146fc2d9a1d3cd"), looks := true }, kinds := [], alts := [], laidByText := true, laidKinds := [.data, .data], laidTests := true, laidLooks := .later }
def ShaHexUptoCardSaid : Prop := Claim7.holds Tryd.pinned (.plain (OpenSpec.upto shaHexSpec)) shaHexUptoCard

/-- THE SECOND FORM's CARD OF 'guillochelaw03.ShaFresh'. -/
def shaFreshUptoCard : Claim7 := { stood := { row := shaFreshUptoRow, standIns := [], harness := (true, "abeb62b141f33f0cca1c5313b0db3ee3e8931845e1b928208d146fc2d9a1d3cd"), looks := true }, kinds := [], alts := [], laidByText := true, laidKinds := [.data, .data], laidTests := true, laidLooks := .later }
def ShaFreshUptoCardSaid : Prop := Claim7.holds Tryd.pinned (.plain (OpenSpec.upto shaFreshSpec)) shaFreshUptoCard

/-- THE SECOND FORM's CARD OF 'guillochelaw03.ShaDigits'. -/
def shaDigitsUptoCard : Claim7 := { stood := { row := shaDigitsUptoRow, standIns := [], harness := (true, "abeb62b141f33f0cca1c5313b0db3ee3e8931845e1b928208d146fc2d9a1d3cd"), looks := true }, kinds := [], alts := [], laidByText := true, laidKinds := [.data, .data], laidTests := true, laidLooks := .later }
def ShaDigitsUptoCardSaid : Prop := Claim7.holds Tryd.pinned (.plain (OpenSpec.upto shaDigitsSpec)) shaDigitsUptoCard
end Rows
end Go.Proofs.YtgeonbkoihegnaaDoor
