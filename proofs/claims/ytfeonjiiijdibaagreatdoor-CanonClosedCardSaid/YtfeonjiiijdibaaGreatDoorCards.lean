/-
  DERIVED. GIVEN WITH THE SEED: THE CARDS: each row of YtfeonjiiijdibaaGreatDoorRows.lean that lists a variable, with what it lists TIED to the program's text (the seventh form; the later family's looks); each row that meets fmt, with fmt's text TOLD by the authors' own Lean function (tested against real Go, not proved from fmt's source: count such statements apart). THE CARD IS WHAT COUNTS. Prove the row's statement (the work); the ties are given (YtfeonjiiijdibaaGreatDoorTie.lean); close each card by the builder's one call (the guide's Derived/Test/ToyasCard.lean, 'card_holds'). Laid BY PROGRAM, IN A SANDBOX (cutbox-door.mjs). By AI agents, Wed Nov 11 2026. No macro, syntax, notation, axiom, sorry.
-/
import Derived.Test.YtfeonjiiijdibaaGreatDoorRows
import GoSem.ClaimSeven
namespace Go.Proofs.YtfeonjiiijdibaaGreatDoor
namespace Rows

/-- THE TIED CARD OF 'guillochelaw05.CanonBuilds'. -/
def canonBuildsCard : Claim7 := { stood := { row := canonBuildsRow, standIns := [], harness := (true, "029135b3da2c7debc5cf5db6dfaaf931b17a5864f002a646a1e6528fe134621b"), looks := true }, kinds := [], alts := [], laidByText := true, laidKinds := [.data, .data, .handle], laidTests := true, laidLooks := .later }
def CanonBuildsCardSaid : Prop := Claim7.holds Tryz.pinned (.plain (OpenSpec.ofChange canonBuildsSpec)) canonBuildsCard

/-- THE TIED CARD OF 'guillochelaw05.CanonChanges'. -/
def canonChangesCard : Claim7 := { stood := { row := canonChangesRow, standIns := [], harness := (true, "029135b3da2c7debc5cf5db6dfaaf931b17a5864f002a646a1e6528fe134621b"), looks := true }, kinds := [], alts := [], laidByText := true, laidKinds := [.data, .data, .handle], laidTests := true, laidLooks := .later }
def CanonChangesCardSaid : Prop := Claim7.holds Tryz.pinned (.plain (OpenSpec.ofChange canonChangesSpec)) canonChangesCard

/-- THE TIED CARD OF 'guillochelaw05.CanonOnly'. -/
def canonOnlyCard : Claim7 := { stood := { row := canonOnlyRow, standIns := [], harness := (true, "029135b3da2c7debc5cf5db6dfaaf931b17a5864f002a646a1e6528fe134621b"), looks := true }, kinds := [], alts := [], laidByText := true, laidKinds := [.data, .data, .handle], laidTests := true, laidLooks := .later }
def CanonOnlyCardSaid : Prop := Claim7.holds Tryz.pinned (.plain (OpenSpec.ofChange canonOnlySpec)) canonOnlyCard

/-- THE TIED CARD OF 'guillochelaw05.CanonClosed'. -/
def canonClosedCard : Claim7 := { stood := { row := canonClosedRow, standIns := [], harness := (true, "029135b3da2c7debc5cf5db6dfaaf931b17a5864f002a646a1e6528fe134621b"), looks := true }, kinds := [], alts := [], laidByText := true, laidKinds := [.data, .data, .handle], laidTests := true, laidLooks := .later }
def CanonClosedCardSaid : Prop := Claim7.holds Tryz.pinned (.plain (OpenSpec.ofChange canonClosedSpec)) canonClosedCard

/-- THE TIED CARD OF 'guillochelaw05.CanonDiffs'. -/
def canonDiffsCard : Claim7 := { stood := { row := canonDiffsRow, standIns := [], harness := (true, "029135b3da2c7debc5cf5db6dfaaf931b17a5864f002a646a1e6528fe134621b"), looks := true }, kinds := [], alts := [], laidByText := true, laidKinds := [.data, .data, .handle], laidTests := true, laidLooks := .later }
def CanonDiffsCardSaid : Prop := Claim7.holds Tryz.pinned (.plain (OpenSpec.ofChange canonDiffsSpec)) canonDiffsCard

/-- THE TIED CARD OF 'guillochelaw05.CanonTwice'. -/
def canonTwiceCard : Claim7 := { stood := { row := canonTwiceRow, standIns := [], harness := (true, "029135b3da2c7debc5cf5db6dfaaf931b17a5864f002a646a1e6528fe134621b"), looks := true }, kinds := [], alts := [], laidByText := true, laidKinds := [.data, .data, .handle], laidTests := true, laidLooks := .later }
def CanonTwiceCardSaid : Prop := Claim7.holds Tryz.pinned (.plain (OpenSpec.ofChange canonTwiceSpec)) canonTwiceCard

/-- THE TIED CARD OF 'guillochelaw05.CanonOne'. -/
def canonOneCard : Claim7 := { stood := { row := canonOneRow, standIns := [], harness := (true, "029135b3da2c7debc5cf5db6dfaaf931b17a5864f002a646a1e6528fe134621b"), looks := true }, kinds := [], alts := [], laidByText := true, laidKinds := [.data, .data, .handle], laidTests := true, laidLooks := .later }
def CanonOneCardSaid : Prop := Claim7.holds Tryz.pinned (.plain (OpenSpec.ofChange canonOneSpec)) canonOneCard

/-- THE TIED CARD OF 'guillochelaw05.CanonGrows'. -/
def canonGrowsCard : Claim7 := { stood := { row := canonGrowsRow, standIns := [], harness := (true, "029135b3da2c7debc5cf5db6dfaaf931b17a5864f002a646a1e6528fe134621b"), looks := true }, kinds := [], alts := [], laidByText := true, laidKinds := [.data, .data, .handle], laidTests := true, laidLooks := .later }
def CanonGrowsCardSaid : Prop := Claim7.holds Tryz.pinned (.plain (OpenSpec.ofChange canonGrowsSpec)) canonGrowsCard

/-- THE SECOND FORM's CARD OF 'guillochelaw05.CanonBuilds'. -/
def canonBuildsUptoCard : Claim7 := { stood := { row := canonBuildsUptoRow, standIns := [], harness := (true, "029135b3da2c7debc5cf5db6dfaaf931b17a5864f002a646a1e6528fe134621b"), looks := true }, kinds := [], alts := [], laidByText := true, laidKinds := [.data, .data, .handle], laidTests := true, laidLooks := .later }
def CanonBuildsUptoCardSaid : Prop := Claim7.holds Tryz.pinned (.plain (OpenSpec.upto canonBuildsSpec)) canonBuildsUptoCard

/-- THE SECOND FORM's CARD OF 'guillochelaw05.CanonChanges'. -/
def canonChangesUptoCard : Claim7 := { stood := { row := canonChangesUptoRow, standIns := [], harness := (true, "029135b3da2c7debc5cf5db6dfaaf931b17a5864f002a646a1e6528fe134621b"), looks := true }, kinds := [], alts := [], laidByText := true, laidKinds := [.data, .data, .handle], laidTests := true, laidLooks := .later }
def CanonChangesUptoCardSaid : Prop := Claim7.holds Tryz.pinned (.plain (OpenSpec.upto canonChangesSpec)) canonChangesUptoCard

/-- THE SECOND FORM's CARD OF 'guillochelaw05.CanonOnly'. -/
def canonOnlyUptoCard : Claim7 := { stood := { row := canonOnlyUptoRow, standIns := [], harness := (true, "029135b3da2c7debc5cf5db6dfaaf931b17a5864f002a646a1e6528fe134621b"), looks := true }, kinds := [], alts := [], laidByText := true, laidKinds := [.data, .data, .handle], laidTests := true, laidLooks := .later }
def CanonOnlyUptoCardSaid : Prop := Claim7.holds Tryz.pinned (.plain (OpenSpec.upto canonOnlySpec)) canonOnlyUptoCard

/-- THE SECOND FORM's CARD OF 'guillochelaw05.CanonClosed'. -/
def canonClosedUptoCard : Claim7 := { stood := { row := canonClosedUptoRow, standIns := [], harness := (true, "029135b3da2c7debc5cf5db6dfaaf931b17a5864f002a646a1e6528fe134621b"), looks := true }, kinds := [], alts := [], laidByText := true, laidKinds := [.data, .data, .handle], laidTests := true, laidLooks := .later }
def CanonClosedUptoCardSaid : Prop := Claim7.holds Tryz.pinned (.plain (OpenSpec.upto canonClosedSpec)) canonClosedUptoCard

/-- THE SECOND FORM's CARD OF 'guillochelaw05.CanonDiffs'. -/
def canonDiffsUptoCard : Claim7 := { stood := { row := canonDiffsUptoRow, standIns := [], harness := (true, "029135b3da2c7debc5cf5db6dfaaf931b17a5864f002a646a1e6528fe134621b"), looks := true }, kinds := [], alts := [], laidByText := true, laidKinds := [.data, .data, .handle], laidTests := true, laidLooks := .later }
def CanonDiffsUptoCardSaid : Prop := Claim7.holds Tryz.pinned (.plain (OpenSpec.upto canonDiffsSpec)) canonDiffsUptoCard

/-- THE SECOND FORM's CARD OF 'guillochelaw05.CanonTwice'. -/
def canonTwiceUptoCard : Claim7 := { stood := { row := canonTwiceUptoRow, standIns := [], harness := (true, "029135b3da2c7debc5cf5db6dfaaf931b17a5864f002a646a1e6528fe134621b"), looks := true }, kinds := [], alts := [], laidByText := true, laidKinds := [.data, .data, .handle], laidTests := true, laidLooks := .later }
def CanonTwiceUptoCardSaid : Prop := Claim7.holds Tryz.pinned (.plain (OpenSpec.upto canonTwiceSpec)) canonTwiceUptoCard

/-- THE SECOND FORM's CARD OF 'guillochelaw05.CanonOne'. -/
def canonOneUptoCard : Claim7 := { stood := { row := canonOneUptoRow, standIns := [], harness := (true, "029135b3da2c7debc5cf5db6dfaaf931b17a5864f002a646a1e6528fe134621b"), looks := true }, kinds := [], alts := [], laidByText := true, laidKinds := [.data, .data, .handle], laidTests := true, laidLooks := .later }
def CanonOneUptoCardSaid : Prop := Claim7.holds Tryz.pinned (.plain (OpenSpec.upto canonOneSpec)) canonOneUptoCard

/-- THE SECOND FORM's CARD OF 'guillochelaw05.CanonGrows'. -/
def canonGrowsUptoCard : Claim7 := { stood := { row := canonGrowsUptoRow, standIns := [], harness := (true, "029135b3da2c7debc5cf5db6dfaaf931b17a5864f002a646a1e6528fe134621b"), looks := true }, kinds := [], alts := [], laidByText := true, laidKinds := [.data, .data, .handle], laidTests := true, laidLooks := .later }
def CanonGrowsUptoCardSaid : Prop := Claim7.holds Tryz.pinned (.plain (OpenSpec.upto canonGrowsSpec)) canonGrowsUptoCard
end Rows
end Go.Proofs.YtfeonjiiijdibaaGreatDoor
