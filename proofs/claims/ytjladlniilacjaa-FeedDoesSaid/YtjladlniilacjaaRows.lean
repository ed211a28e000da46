/-
  No cell of these rows narrows 'for every input' (looked for: loops, veiled, ifaces, maps, wideKeys, modest, calm, conditions, laid).
  DERIVED. THE GIVEN ROWS OF THIS SEAT. 8 by the template 'for every input the law returns true; each argument reads behind the call as it read before'; 0 by the template 'total and deterministic' (their statements: YtjladlniilacjaaTotals.lean).
  GIVEN WITH THE SEED: the statements are not yours to turn. If you find one false, say at which input.
  Laid BY PROGRAM, IN A SANDBOX (cutbox-rows.mjs): the forced cells as the released guide's own fill.sh prints them over the translation c2e9494599bcb5d0… (all of the seat's roots in one cut). By AI agents, Wed Nov 11 2026. No macro, syntax, notation, axiom, sorry.
-/
import Derived.Test.YtjladlniilacjaaChecked
import GoSem.Claim
import GoSem.ClaimJoined
import GoSem.ClaimMapViews
import Derived.JoinedTies
import Derived.KernelRfl
namespace Go.Proofs.Ytjladlniilacjaa
/- THE CELL 'sum', in the pinned program and in every row, IS THE sha256 OF THE DUMP (.gsa) THAT YtjladlniilacjaaProg.lean LOADS. Nothing in Lean hashes anything: it is a label: what it is worth is what the hold of that sum in a sandbox is worth. -/
noncomputable def Try.pinned : Pinned := { name := "ytjladlniilacjaa", sum := "c2e9494599bcb5d0f4c0d6ae0a78857bcdb7a02a1498c9a1488a18e7e9c26226", checked := Try.checked }
namespace Rows
def none {H : Type} : Left H := { results := [], args := [] }

/-- 'guillochelaw17.LeaseRoom': WHATEVER THE INPUT: true; the input reads as it did. -/
def leaseRoomSpec : ChangeSpec := { name := "leaseRoom", fn := fun _ => fun
  | [d1, d2, d3] => { results := [.lit (.bool true)], args := [d1, d2, d3] }
  | _ => none }
def leaseRoomRow : OpenClaim := { program := "ytjladlniilacjaa", sum := "c2e9494599bcb5d0f4c0d6ae0a78857bcdb7a02a1498c9a1488a18e7e9c26226", func := "guilloche/guillochelaw17.LeaseRoom", spec := "leaseRoom", inPlace := ["internal/reflectlite.TypeOf"], unfollowed := true, recurses := true, apart := false }
def LeaseRoomSaid : Prop := leaseRoomRow.holds Try.pinned (OpenSpec.ofChange leaseRoomSpec)

/-- ITS FALSE NEIGHBOUR: 'it returns false'. Refute it at one input. -/
def leaseRoomWrong : ChangeSpec := { name := "leaseRoom", fn := fun _ => fun
  | [d1, d2, d3] => { results := [.lit (.bool false)], args := [d1, d2, d3] }
  | _ => none }
def LeaseRoomWrongFalsely : Prop := leaseRoomRow.holds Try.pinned (OpenSpec.ofChange leaseRoomWrong)

/-- 'guillochelaw17.LeaseEnds': WHATEVER THE INPUT: true; the input reads as it did. -/
def leaseEndsSpec : ChangeSpec := { name := "leaseEnds", fn := fun _ => fun
  | [d1, d2, d3, d4] => { results := [.lit (.bool true)], args := [d1, d2, d3, d4] }
  | _ => none }
def leaseEndsRow : OpenClaim := { program := "ytjladlniilacjaa", sum := "c2e9494599bcb5d0f4c0d6ae0a78857bcdb7a02a1498c9a1488a18e7e9c26226", func := "guilloche/guillochelaw17.LeaseEnds", spec := "leaseEnds", inPlace := ["internal/reflectlite.TypeOf"], unfollowed := true, recurses := true, apart := false }
def LeaseEndsSaid : Prop := leaseEndsRow.holds Try.pinned (OpenSpec.ofChange leaseEndsSpec)

/-- ITS FALSE NEIGHBOUR: 'it returns false'. Refute it at one input. -/
def leaseEndsWrong : ChangeSpec := { name := "leaseEnds", fn := fun _ => fun
  | [d1, d2, d3, d4] => { results := [.lit (.bool false)], args := [d1, d2, d3, d4] }
  | _ => none }
def LeaseEndsWrongFalsely : Prop := leaseEndsRow.holds Try.pinned (OpenSpec.ofChange leaseEndsWrong)

/-- 'guillochelaw17.LeaseClock': WHATEVER THE INPUT: true; the input reads as it did. -/
def leaseClockSpec : ChangeSpec := { name := "leaseClock", fn := fun _ => fun
  | [d1, d2, d3, d4, d5, d6] => { results := [.lit (.bool true)], args := [d1, d2, d3, d4, d5, d6] }
  | _ => none }
def leaseClockRow : OpenClaim := { program := "ytjladlniilacjaa", sum := "c2e9494599bcb5d0f4c0d6ae0a78857bcdb7a02a1498c9a1488a18e7e9c26226", func := "guilloche/guillochelaw17.LeaseClock", spec := "leaseClock", inPlace := ["internal/reflectlite.TypeOf"], unfollowed := true, recurses := true, apart := false }
def LeaseClockSaid : Prop := leaseClockRow.holds Try.pinned (OpenSpec.ofChange leaseClockSpec)

/-- ITS FALSE NEIGHBOUR: 'it returns false'. Refute it at one input. -/
def leaseClockWrong : ChangeSpec := { name := "leaseClock", fn := fun _ => fun
  | [d1, d2, d3, d4, d5, d6] => { results := [.lit (.bool false)], args := [d1, d2, d3, d4, d5, d6] }
  | _ => none }
def LeaseClockWrongFalsely : Prop := leaseClockRow.holds Try.pinned (OpenSpec.ofChange leaseClockWrong)

/-- 'guillochelaw17.LeaseReleases': WHATEVER THE INPUT: true; the input reads as it did. -/
def leaseReleasesSpec : ChangeSpec := { name := "leaseReleases", fn := fun _ => fun
  | [d1, d2, d3, d4, d5] => { results := [.lit (.bool true)], args := [d1, d2, d3, d4, d5] }
  | _ => none }
def leaseReleasesRow : OpenClaim := { program := "ytjladlniilacjaa", sum := "c2e9494599bcb5d0f4c0d6ae0a78857bcdb7a02a1498c9a1488a18e7e9c26226", func := "guilloche/guillochelaw17.LeaseReleases", spec := "leaseReleases", inPlace := ["internal/reflectlite.TypeOf"], unfollowed := true, recurses := true, apart := false }
def LeaseReleasesSaid : Prop := leaseReleasesRow.holds Try.pinned (OpenSpec.ofChange leaseReleasesSpec)

/-- ITS FALSE NEIGHBOUR: 'it returns false'. Refute it at one input. -/
def leaseReleasesWrong : ChangeSpec := { name := "leaseReleases", fn := fun _ => fun
  | [d1, d2, d3, d4, d5] => { results := [.lit (.bool false)], args := [d1, d2, d3, d4, d5] }
  | _ => none }
def LeaseReleasesWrongFalsely : Prop := leaseReleasesRow.holds Try.pinned (OpenSpec.ofChange leaseReleasesWrong)

/-- 'guillochelaw18.FeedDoes': WHATEVER THE INPUT: true; the input reads as it did. -/
def feedDoesSpec : ChangeSpec := { name := "feedDoes", fn := fun _ => fun
  | [d1, d2, d3] => { results := [.lit (.bool true)], args := [d1, d2, d3] }
  | _ => none }
def feedDoesRow : OpenClaim := { program := "ytjladlniilacjaa", sum := "c2e9494599bcb5d0f4c0d6ae0a78857bcdb7a02a1498c9a1488a18e7e9c26226", func := "guilloche/guillochelaw18.FeedDoes", spec := "feedDoes", unfollowed := true, recurses := true, apart := false }
def FeedDoesSaid : Prop := feedDoesRow.holds Try.pinned (OpenSpec.ofChange feedDoesSpec)

/-- ITS FALSE NEIGHBOUR: 'it returns false'. Refute it at one input. -/
def feedDoesWrong : ChangeSpec := { name := "feedDoes", fn := fun _ => fun
  | [d1, d2, d3] => { results := [.lit (.bool false)], args := [d1, d2, d3] }
  | _ => none }
def FeedDoesWrongFalsely : Prop := feedDoesRow.holds Try.pinned (OpenSpec.ofChange feedDoesWrong)

/-- 'guillochelaw18.FeedRoom': WHATEVER THE INPUT: true; the input reads as it did. -/
def feedRoomSpec : ChangeSpec := { name := "feedRoom", fn := fun _ => fun
  | [d1, d2] => { results := [.lit (.bool true)], args := [d1, d2] }
  | _ => none }
def feedRoomRow : OpenClaim := { program := "ytjladlniilacjaa", sum := "c2e9494599bcb5d0f4c0d6ae0a78857bcdb7a02a1498c9a1488a18e7e9c26226", func := "guilloche/guillochelaw18.FeedRoom", spec := "feedRoom", unfollowed := true, recurses := true, apart := false }
def FeedRoomSaid : Prop := feedRoomRow.holds Try.pinned (OpenSpec.ofChange feedRoomSpec)

/-- ITS FALSE NEIGHBOUR: 'it returns false'. Refute it at one input. -/
def feedRoomWrong : ChangeSpec := { name := "feedRoom", fn := fun _ => fun
  | [d1, d2] => { results := [.lit (.bool false)], args := [d1, d2] }
  | _ => none }
def FeedRoomWrongFalsely : Prop := feedRoomRow.holds Try.pinned (OpenSpec.ofChange feedRoomWrong)

/-- 'guillochelaw18.FeedOthers': WHATEVER THE INPUT: true; the input reads as it did. -/
def feedOthersSpec : ChangeSpec := { name := "feedOthers", fn := fun _ => fun
  | [d1, d2, d3, d4] => { results := [.lit (.bool true)], args := [d1, d2, d3, d4] }
  | _ => none }
def feedOthersRow : OpenClaim := { program := "ytjladlniilacjaa", sum := "c2e9494599bcb5d0f4c0d6ae0a78857bcdb7a02a1498c9a1488a18e7e9c26226", func := "guilloche/guillochelaw18.FeedOthers", spec := "feedOthers", unfollowed := true, recurses := true, apart := false }
def FeedOthersSaid : Prop := feedOthersRow.holds Try.pinned (OpenSpec.ofChange feedOthersSpec)

/-- ITS FALSE NEIGHBOUR: 'it returns false'. Refute it at one input. -/
def feedOthersWrong : ChangeSpec := { name := "feedOthers", fn := fun _ => fun
  | [d1, d2, d3, d4] => { results := [.lit (.bool false)], args := [d1, d2, d3, d4] }
  | _ => none }
def FeedOthersWrongFalsely : Prop := feedOthersRow.holds Try.pinned (OpenSpec.ofChange feedOthersWrong)

/-- 'guillochelaw18.FeedForgets': WHATEVER THE INPUT: true; the input reads as it did. -/
def feedForgetsSpec : ChangeSpec := { name := "feedForgets", fn := fun _ => fun
  | [d1, d2, d3] => { results := [.lit (.bool true)], args := [d1, d2, d3] }
  | _ => none }
def feedForgetsRow : OpenClaim := { program := "ytjladlniilacjaa", sum := "c2e9494599bcb5d0f4c0d6ae0a78857bcdb7a02a1498c9a1488a18e7e9c26226", func := "guilloche/guillochelaw18.FeedForgets", spec := "feedForgets", unfollowed := true, recurses := true, apart := false }
def FeedForgetsSaid : Prop := feedForgetsRow.holds Try.pinned (OpenSpec.ofChange feedForgetsSpec)

/-- ITS FALSE NEIGHBOUR: 'it returns false'. Refute it at one input. -/
def feedForgetsWrong : ChangeSpec := { name := "feedForgets", fn := fun _ => fun
  | [d1, d2, d3] => { results := [.lit (.bool false)], args := [d1, d2, d3] }
  | _ => none }
def FeedForgetsWrongFalsely : Prop := feedForgetsRow.holds Try.pinned (OpenSpec.ofChange feedForgetsWrong)

/- THE SECOND FORM. 'bulk': how many values and letters a reading holds, each counted each time it is reached (what is shared counts as often as it is met; a slice's spare places count too). A statement '..UptoSaid' is the law's where the arguments, and the package variables that the reading takes, are together of bulk at most 1048576: NARROWER than '..Said'. Prove '..Said' where nothing that the law and all that it calls make is longer than what came in: it says more and counts as full. Else prove '..UptoSaid'. A law counts once. -/
mutual
def uptoBulk {H : Type} : DataW H → Nat
  | .lit (.string bytes) => bytes.length + 1
  | .lit _ => 1
  | .nil => 1
  | .ptr d => uptoBulk d + 1
  | .slice elems spare => uptoBulkAll elems + uptoBulkAll spare + 1
  | .agg parts => uptoBulkAll parts + 1
  | .iface _ d => uptoBulk d + 1
  | .map entries => uptoBulkEntries entries + 1
  | .held _ => 1
def uptoBulkAll {H : Type} : List (DataW H) → Nat
  | [] => 0
  | d :: r => uptoBulk d + uptoBulkAll r
def uptoBulkEntries {H : Type} : List (Lit × DataW H) → Nat
  | [] => 0
  | x :: r => uptoBulkEntry x + uptoBulkEntries r
def uptoBulkEntry {H : Type} : Lit × DataW H → Nat
  | (.string bytes, d) => bytes.length + uptoBulk d + 1
  | (_, d) => uptoBulk d + 1
 end
def uptoSmall : (H : Type) → List (DataW H) → Bool := fun _ ds => decide (uptoBulkAll ds ≤ 1048576)
def OpenSpec.upto (s : _root_.Go.ChangeSpec) : _root_.Go.OpenSpec := { _root_.Go.OpenSpec.ofChange s with cond := some uptoSmall }

/-- 'guillochelaw17.LeaseRoom', WHERE WHAT IT READS IS OF BULK AT MOST 1048576: true; the input reads as it did. -/
def leaseRoomUptoRow : OpenClaim := { program := "ytjladlniilacjaa", sum := "c2e9494599bcb5d0f4c0d6ae0a78857bcdb7a02a1498c9a1488a18e7e9c26226", func := "guilloche/guillochelaw17.LeaseRoom", spec := "leaseRoom", inPlace := ["internal/reflectlite.TypeOf"], unfollowed := true, recurses := true, apart := false, narrowed := true }
def LeaseRoomUptoSaid : Prop := leaseRoomUptoRow.holds Try.pinned (OpenSpec.upto leaseRoomSpec)

/-- 'guillochelaw17.LeaseEnds', WHERE WHAT IT READS IS OF BULK AT MOST 1048576: true; the input reads as it did. -/
def leaseEndsUptoRow : OpenClaim := { program := "ytjladlniilacjaa", sum := "c2e9494599bcb5d0f4c0d6ae0a78857bcdb7a02a1498c9a1488a18e7e9c26226", func := "guilloche/guillochelaw17.LeaseEnds", spec := "leaseEnds", inPlace := ["internal/reflectlite.TypeOf"], unfollowed := true, recurses := true, apart := false, narrowed := true }
def LeaseEndsUptoSaid : Prop := leaseEndsUptoRow.holds Try.pinned (OpenSpec.upto leaseEndsSpec)

/-- 'guillochelaw17.LeaseClock', WHERE WHAT IT READS IS OF BULK AT MOST 1048576: true; the input reads as it did. -/
def leaseClockUptoRow : OpenClaim := { program := "ytjladlniilacjaa", sum := "c2e9494599bcb5d0f4c0d6ae0a78857bcdb7a02a1498c9a1488a18e7e9c26226", func := "guilloche/guillochelaw17.LeaseClock", spec := "leaseClock", inPlace := ["internal/reflectlite.TypeOf"], unfollowed := true, recurses := true, apart := false, narrowed := true }
def LeaseClockUptoSaid : Prop := leaseClockUptoRow.holds Try.pinned (OpenSpec.upto leaseClockSpec)

/-- 'guillochelaw17.LeaseReleases', WHERE WHAT IT READS IS OF BULK AT MOST 1048576: true; the input reads as it did. -/
def leaseReleasesUptoRow : OpenClaim := { program := "ytjladlniilacjaa", sum := "c2e9494599bcb5d0f4c0d6ae0a78857bcdb7a02a1498c9a1488a18e7e9c26226", func := "guilloche/guillochelaw17.LeaseReleases", spec := "leaseReleases", inPlace := ["internal/reflectlite.TypeOf"], unfollowed := true, recurses := true, apart := false, narrowed := true }
def LeaseReleasesUptoSaid : Prop := leaseReleasesUptoRow.holds Try.pinned (OpenSpec.upto leaseReleasesSpec)

/-- 'guillochelaw18.FeedDoes', WHERE WHAT IT READS IS OF BULK AT MOST 1048576: true; the input reads as it did. -/
def feedDoesUptoRow : OpenClaim := { program := "ytjladlniilacjaa", sum := "c2e9494599bcb5d0f4c0d6ae0a78857bcdb7a02a1498c9a1488a18e7e9c26226", func := "guilloche/guillochelaw18.FeedDoes", spec := "feedDoes", unfollowed := true, recurses := true, apart := false, narrowed := true }
def FeedDoesUptoSaid : Prop := feedDoesUptoRow.holds Try.pinned (OpenSpec.upto feedDoesSpec)

/-- 'guillochelaw18.FeedRoom', WHERE WHAT IT READS IS OF BULK AT MOST 1048576: true; the input reads as it did. -/
def feedRoomUptoRow : OpenClaim := { program := "ytjladlniilacjaa", sum := "c2e9494599bcb5d0f4c0d6ae0a78857bcdb7a02a1498c9a1488a18e7e9c26226", func := "guilloche/guillochelaw18.FeedRoom", spec := "feedRoom", unfollowed := true, recurses := true, apart := false, narrowed := true }
def FeedRoomUptoSaid : Prop := feedRoomUptoRow.holds Try.pinned (OpenSpec.upto feedRoomSpec)

/-- 'guillochelaw18.FeedOthers', WHERE WHAT IT READS IS OF BULK AT MOST 1048576: true; the input reads as it did. -/
def feedOthersUptoRow : OpenClaim := { program := "ytjladlniilacjaa", sum := "c2e9494599bcb5d0f4c0d6ae0a78857bcdb7a02a1498c9a1488a18e7e9c26226", func := "guilloche/guillochelaw18.FeedOthers", spec := "feedOthers", unfollowed := true, recurses := true, apart := false, narrowed := true }
def FeedOthersUptoSaid : Prop := feedOthersUptoRow.holds Try.pinned (OpenSpec.upto feedOthersSpec)

/-- 'guillochelaw18.FeedForgets', WHERE WHAT IT READS IS OF BULK AT MOST 1048576: true; the input reads as it did. -/
def feedForgetsUptoRow : OpenClaim := { program := "ytjladlniilacjaa", sum := "c2e9494599bcb5d0f4c0d6ae0a78857bcdb7a02a1498c9a1488a18e7e9c26226", func := "guilloche/guillochelaw18.FeedForgets", spec := "feedForgets", unfollowed := true, recurses := true, apart := false, narrowed := true }
def FeedForgetsUptoSaid : Prop := feedForgetsUptoRow.holds Try.pinned (OpenSpec.upto feedForgetsSpec)

end Rows
end Go.Proofs.Ytjladlniilacjaa
