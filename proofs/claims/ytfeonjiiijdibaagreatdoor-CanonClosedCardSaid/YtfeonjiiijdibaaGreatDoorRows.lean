/-
  NARROWER THAN 'FOR EVERY INPUT', by the rows' own cells (each row's printed sentence says how): CanonBuilds: laid · CanonChanges: laid · CanonOnly: laid · CanonClosed: laid · CanonDiffs: laid · CanonTwice: laid · CanonOne: laid · CanonGrows: laid.
  DERIVED. THE GIVEN ROWS OF THIS SEAT. 8 by the template 'for every input the law returns true; each argument reads behind the call as it read before'; 0 by the template 'total and deterministic' (their statements: YtfeonjiiijdibaaGreatDoorTotals.lean).
  GIVEN WITH THE SEED: the statements are not yours to turn. If you find one false, say at which input.
  Laid BY PROGRAM, IN A SANDBOX (cutbox-rows.mjs): the forced cells as the released guide's own fill.sh prints them over the translation dc1274b9fe3e1c8c… (all of the seat's roots in one cut). By AI agents, Wed Nov 11 2026. No macro, syntax, notation, axiom, sorry.
-/
import Derived.Test.YtfeonjiiijdibaaGreatDoorChecked
import GoSem.Claim
import GoSem.ClaimJoined
import GoSem.ClaimMapViews
import Derived.JoinedTies
import Derived.KernelRfl
namespace Go.Proofs.YtfeonjiiijdibaaGreatDoor
/- THE CELL 'sum', in the pinned program and in every row, IS THE sha256 OF THE DUMP (.gsa) THAT YtfeonjiiijdibaaGreatDoorProg.lean LOADS. Nothing in Lean hashes anything: it is a label: what it is worth is what the hold of that sum in a sandbox is worth. -/
noncomputable def Tryz.pinned : Pinned := { name := "ytfeonjiiijdibaagreatdoor", sum := "dc1274b9fe3e1c8c0b866367d3c49faface83cf3be1d9f3aeeaa71e67a9437d2", checked := Tryz.checked }
namespace Rows
def none {H : Type} : Left H := { results := [], args := [] }

/- WHAT THE LISTED PACKAGE-LEVEL VARIABLES READ AS WHEN THE CALL BEGINS. Each datum BY PROGRAM (the guide's laid-datum.mjs) off the statement by which the dump's own 'gosem.cut.vars' lays the variable. In a bare row this is a premise. The card (YtfeonjiiijdibaaGreatDoorCards.lean) ties it to the program's text. -/
def laid_guilloche_sha_start {H : Type} : DataW H := .agg [.lit (.int .u32 1779033703), .lit (.int .u32 3144134277), .lit (.int .u32 1013904242), .lit (.int .u32 2773480762), .lit (.int .u32 1359893119), .lit (.int .u32 2600822924), .lit (.int .u32 528734635), .lit (.int .u32 1541459225)]
def laid_guilloche_sha_added {H : Type} : DataW H := .agg [.lit (.int .u32 1116352408), .lit (.int .u32 1899447441), .lit (.int .u32 3049323471), .lit (.int .u32 3921009573), .lit (.int .u32 961987163), .lit (.int .u32 1508970993), .lit (.int .u32 2453635748), .lit (.int .u32 2870763221), .lit (.int .u32 3624381080), .lit (.int .u32 310598401), .lit (.int .u32 607225278), .lit (.int .u32 1426881987), .lit (.int .u32 1925078388), .lit (.int .u32 2162078206), .lit (.int .u32 2614888103), .lit (.int .u32 3248222580), .lit (.int .u32 3835390401), .lit (.int .u32 4022224774), .lit (.int .u32 264347078), .lit (.int .u32 604807628), .lit (.int .u32 770255983), .lit (.int .u32 1249150122), .lit (.int .u32 1555081692), .lit (.int .u32 1996064986), .lit (.int .u32 2554220882), .lit (.int .u32 2821834349), .lit (.int .u32 2952996808), .lit (.int .u32 3210313671), .lit (.int .u32 3336571891), .lit (.int .u32 3584528711), .lit (.int .u32 113926993), .lit (.int .u32 338241895), .lit (.int .u32 666307205), .lit (.int .u32 773529912), .lit (.int .u32 1294757372), .lit (.int .u32 1396182291), .lit (.int .u32 1695183700), .lit (.int .u32 1986661051), .lit (.int .u32 2177026350), .lit (.int .u32 2456956037), .lit (.int .u32 2730485921), .lit (.int .u32 2820302411), .lit (.int .u32 3259730800), .lit (.int .u32 3345764771), .lit (.int .u32 3516065817), .lit (.int .u32 3600352804), .lit (.int .u32 4094571909), .lit (.int .u32 275423344), .lit (.int .u32 430227734), .lit (.int .u32 506948616), .lit (.int .u32 659060556), .lit (.int .u32 883997877), .lit (.int .u32 958139571), .lit (.int .u32 1322822218), .lit (.int .u32 1537002063), .lit (.int .u32 1747873779), .lit (.int .u32 1955562222), .lit (.int .u32 2024104815), .lit (.int .u32 2227730452), .lit (.int .u32 2361852424), .lit (.int .u32 2428436474), .lit (.int .u32 2756734187), .lit (.int .u32 3204031479), .lit (.int .u32 3329325298)]
def laid_errors_errorType {H : Type} : DataW H := .iface "internal/reflectlite.rtype" (.agg [.ptr (.lit (.string [101, 114, 114, 111, 114]))])

/-- 'guillochelaw05.CanonBuilds': WHATEVER THE INPUT: true; the input reads as it did. -/
def canonBuildsSpec : ChangeSpec := { name := "canonBuilds", fn := fun _ => fun
  | [d] => { results := [.lit (.bool true)], args := [d] }
  | _ => none }
def canonBuildsRow : OpenClaim := { program := "ytfeonjiiijdibaagreatdoor", sum := "dc1274b9fe3e1c8c0b866367d3c49faface83cf3be1d9f3aeeaa71e67a9437d2", func := "guilloche/guillochelaw05.CanonBuilds", spec := "canonBuilds", inPlace := ["internal/reflectlite.ValueOf", "(internal/reflectlite.Value).Type", "(internal/reflectlite.Value).IsNil", "internal/reflectlite.TypeOf", "(internal/reflectlite.Value).Elem", "(internal/reflectlite.Value).Set", "internal/abi.NoEscape", "internal/bytealg.MakeNoZero"], unfollowed := true, recurses := true, named := ["errors.errorType", "guilloche/sha.start", "guilloche/sha.added"], apart := false, laid := [("guilloche/sha.start", laid_guilloche_sha_start), ("guilloche/sha.added", laid_guilloche_sha_added), ("errors.errorType", laid_errors_errorType)] }
def CanonBuildsSaid : Prop := canonBuildsRow.holds Tryz.pinned (OpenSpec.ofChange canonBuildsSpec)

/-- ITS FALSE NEIGHBOUR: 'it returns false'. Refute it at one input. -/
def canonBuildsWrong : ChangeSpec := { name := "canonBuilds", fn := fun _ => fun
  | [d] => { results := [.lit (.bool false)], args := [d] }
  | _ => none }
def CanonBuildsWrongFalsely : Prop := canonBuildsRow.holds Tryz.pinned (OpenSpec.ofChange canonBuildsWrong)

/-- 'guillochelaw05.CanonChanges': WHATEVER THE INPUT: true; the input reads as it did. -/
def canonChangesSpec : ChangeSpec := { name := "canonChanges", fn := fun _ => fun
  | [d1, d2, d3, d4] => { results := [.lit (.bool true)], args := [d1, d2, d3, d4] }
  | _ => none }
def canonChangesRow : OpenClaim := { program := "ytfeonjiiijdibaagreatdoor", sum := "dc1274b9fe3e1c8c0b866367d3c49faface83cf3be1d9f3aeeaa71e67a9437d2", func := "guilloche/guillochelaw05.CanonChanges", spec := "canonChanges", inPlace := ["internal/reflectlite.ValueOf", "(internal/reflectlite.Value).Type", "(internal/reflectlite.Value).IsNil", "internal/reflectlite.TypeOf", "(internal/reflectlite.Value).Elem", "(internal/reflectlite.Value).Set", "internal/abi.NoEscape", "internal/bytealg.MakeNoZero"], unfollowed := true, recurses := true, named := ["errors.errorType", "guilloche/sha.start", "guilloche/sha.added"], apart := false, laid := [("guilloche/sha.start", laid_guilloche_sha_start), ("guilloche/sha.added", laid_guilloche_sha_added), ("errors.errorType", laid_errors_errorType)] }
def CanonChangesSaid : Prop := canonChangesRow.holds Tryz.pinned (OpenSpec.ofChange canonChangesSpec)

/-- ITS FALSE NEIGHBOUR: 'it returns false'. Refute it at one input. -/
def canonChangesWrong : ChangeSpec := { name := "canonChanges", fn := fun _ => fun
  | [d1, d2, d3, d4] => { results := [.lit (.bool false)], args := [d1, d2, d3, d4] }
  | _ => none }
def CanonChangesWrongFalsely : Prop := canonChangesRow.holds Tryz.pinned (OpenSpec.ofChange canonChangesWrong)

/-- 'guillochelaw05.CanonOnly': WHATEVER THE INPUT: true; the input reads as it did. -/
def canonOnlySpec : ChangeSpec := { name := "canonOnly", fn := fun _ => fun
  | [d1, d2] => { results := [.lit (.bool true)], args := [d1, d2] }
  | _ => none }
def canonOnlyRow : OpenClaim := { program := "ytfeonjiiijdibaagreatdoor", sum := "dc1274b9fe3e1c8c0b866367d3c49faface83cf3be1d9f3aeeaa71e67a9437d2", func := "guilloche/guillochelaw05.CanonOnly", spec := "canonOnly", inPlace := ["internal/reflectlite.ValueOf", "(internal/reflectlite.Value).Type", "(internal/reflectlite.Value).IsNil", "internal/reflectlite.TypeOf", "(internal/reflectlite.Value).Elem", "(internal/reflectlite.Value).Set", "internal/abi.NoEscape", "internal/bytealg.MakeNoZero"], unfollowed := true, recurses := true, named := ["errors.errorType", "guilloche/sha.start", "guilloche/sha.added"], apart := false, laid := [("guilloche/sha.start", laid_guilloche_sha_start), ("guilloche/sha.added", laid_guilloche_sha_added), ("errors.errorType", laid_errors_errorType)] }
def CanonOnlySaid : Prop := canonOnlyRow.holds Tryz.pinned (OpenSpec.ofChange canonOnlySpec)

/-- ITS FALSE NEIGHBOUR: 'it returns false'. Refute it at one input. -/
def canonOnlyWrong : ChangeSpec := { name := "canonOnly", fn := fun _ => fun
  | [d1, d2] => { results := [.lit (.bool false)], args := [d1, d2] }
  | _ => none }
def CanonOnlyWrongFalsely : Prop := canonOnlyRow.holds Tryz.pinned (OpenSpec.ofChange canonOnlyWrong)

/-- 'guillochelaw05.CanonClosed': WHATEVER THE INPUT: true; the input reads as it did. -/
def canonClosedSpec : ChangeSpec := { name := "canonClosed", fn := fun _ => fun
  | [d] => { results := [.lit (.bool true)], args := [d] }
  | _ => none }
def canonClosedRow : OpenClaim := { program := "ytfeonjiiijdibaagreatdoor", sum := "dc1274b9fe3e1c8c0b866367d3c49faface83cf3be1d9f3aeeaa71e67a9437d2", func := "guilloche/guillochelaw05.CanonClosed", spec := "canonClosed", inPlace := ["internal/reflectlite.ValueOf", "(internal/reflectlite.Value).Type", "(internal/reflectlite.Value).IsNil", "internal/reflectlite.TypeOf", "(internal/reflectlite.Value).Elem", "(internal/reflectlite.Value).Set", "internal/abi.NoEscape", "internal/bytealg.MakeNoZero"], unfollowed := true, recurses := true, named := ["errors.errorType", "guilloche/sha.start", "guilloche/sha.added"], apart := false, laid := [("guilloche/sha.start", laid_guilloche_sha_start), ("guilloche/sha.added", laid_guilloche_sha_added), ("errors.errorType", laid_errors_errorType)] }
def CanonClosedSaid : Prop := canonClosedRow.holds Tryz.pinned (OpenSpec.ofChange canonClosedSpec)

/-- ITS FALSE NEIGHBOUR: 'it returns false'. Refute it at one input. -/
def canonClosedWrong : ChangeSpec := { name := "canonClosed", fn := fun _ => fun
  | [d] => { results := [.lit (.bool false)], args := [d] }
  | _ => none }
def CanonClosedWrongFalsely : Prop := canonClosedRow.holds Tryz.pinned (OpenSpec.ofChange canonClosedWrong)

/-- 'guillochelaw05.CanonDiffs': WHATEVER THE INPUT: true; the input reads as it did. -/
def canonDiffsSpec : ChangeSpec := { name := "canonDiffs", fn := fun _ => fun
  | [d1, d2] => { results := [.lit (.bool true)], args := [d1, d2] }
  | _ => none }
def canonDiffsRow : OpenClaim := { program := "ytfeonjiiijdibaagreatdoor", sum := "dc1274b9fe3e1c8c0b866367d3c49faface83cf3be1d9f3aeeaa71e67a9437d2", func := "guilloche/guillochelaw05.CanonDiffs", spec := "canonDiffs", inPlace := ["internal/reflectlite.ValueOf", "(internal/reflectlite.Value).Type", "(internal/reflectlite.Value).IsNil", "internal/reflectlite.TypeOf", "(internal/reflectlite.Value).Elem", "(internal/reflectlite.Value).Set", "internal/abi.NoEscape", "internal/bytealg.MakeNoZero"], unfollowed := true, recurses := true, named := ["errors.errorType", "guilloche/sha.start", "guilloche/sha.added"], apart := false, laid := [("guilloche/sha.start", laid_guilloche_sha_start), ("guilloche/sha.added", laid_guilloche_sha_added), ("errors.errorType", laid_errors_errorType)] }
def CanonDiffsSaid : Prop := canonDiffsRow.holds Tryz.pinned (OpenSpec.ofChange canonDiffsSpec)

/-- ITS FALSE NEIGHBOUR: 'it returns false'. Refute it at one input. -/
def canonDiffsWrong : ChangeSpec := { name := "canonDiffs", fn := fun _ => fun
  | [d1, d2] => { results := [.lit (.bool false)], args := [d1, d2] }
  | _ => none }
def CanonDiffsWrongFalsely : Prop := canonDiffsRow.holds Tryz.pinned (OpenSpec.ofChange canonDiffsWrong)

/-- 'guillochelaw05.CanonTwice': WHATEVER THE INPUT: true; the input reads as it did. -/
def canonTwiceSpec : ChangeSpec := { name := "canonTwice", fn := fun _ => fun
  | [d1, d2, d3] => { results := [.lit (.bool true)], args := [d1, d2, d3] }
  | _ => none }
def canonTwiceRow : OpenClaim := { program := "ytfeonjiiijdibaagreatdoor", sum := "dc1274b9fe3e1c8c0b866367d3c49faface83cf3be1d9f3aeeaa71e67a9437d2", func := "guilloche/guillochelaw05.CanonTwice", spec := "canonTwice", inPlace := ["internal/reflectlite.ValueOf", "(internal/reflectlite.Value).Type", "(internal/reflectlite.Value).IsNil", "internal/reflectlite.TypeOf", "(internal/reflectlite.Value).Elem", "(internal/reflectlite.Value).Set", "internal/abi.NoEscape", "internal/bytealg.MakeNoZero"], unfollowed := true, recurses := true, named := ["errors.errorType", "guilloche/sha.start", "guilloche/sha.added"], apart := false, laid := [("guilloche/sha.start", laid_guilloche_sha_start), ("guilloche/sha.added", laid_guilloche_sha_added), ("errors.errorType", laid_errors_errorType)] }
def CanonTwiceSaid : Prop := canonTwiceRow.holds Tryz.pinned (OpenSpec.ofChange canonTwiceSpec)

/-- ITS FALSE NEIGHBOUR: 'it returns false'. Refute it at one input. -/
def canonTwiceWrong : ChangeSpec := { name := "canonTwice", fn := fun _ => fun
  | [d1, d2, d3] => { results := [.lit (.bool false)], args := [d1, d2, d3] }
  | _ => none }
def CanonTwiceWrongFalsely : Prop := canonTwiceRow.holds Tryz.pinned (OpenSpec.ofChange canonTwiceWrong)

/-- 'guillochelaw05.CanonOne': WHATEVER THE INPUT: true; the input reads as it did. -/
def canonOneSpec : ChangeSpec := { name := "canonOne", fn := fun _ => fun
  | [d] => { results := [.lit (.bool true)], args := [d] }
  | _ => none }
def canonOneRow : OpenClaim := { program := "ytfeonjiiijdibaagreatdoor", sum := "dc1274b9fe3e1c8c0b866367d3c49faface83cf3be1d9f3aeeaa71e67a9437d2", func := "guilloche/guillochelaw05.CanonOne", spec := "canonOne", inPlace := ["internal/reflectlite.ValueOf", "(internal/reflectlite.Value).Type", "(internal/reflectlite.Value).IsNil", "internal/reflectlite.TypeOf", "(internal/reflectlite.Value).Elem", "(internal/reflectlite.Value).Set", "internal/abi.NoEscape", "internal/bytealg.MakeNoZero"], unfollowed := true, recurses := true, named := ["errors.errorType", "guilloche/sha.start", "guilloche/sha.added"], apart := false, laid := [("guilloche/sha.start", laid_guilloche_sha_start), ("guilloche/sha.added", laid_guilloche_sha_added), ("errors.errorType", laid_errors_errorType)] }
def CanonOneSaid : Prop := canonOneRow.holds Tryz.pinned (OpenSpec.ofChange canonOneSpec)

/-- ITS FALSE NEIGHBOUR: 'it returns false'. Refute it at one input. -/
def canonOneWrong : ChangeSpec := { name := "canonOne", fn := fun _ => fun
  | [d] => { results := [.lit (.bool false)], args := [d] }
  | _ => none }
def CanonOneWrongFalsely : Prop := canonOneRow.holds Tryz.pinned (OpenSpec.ofChange canonOneWrong)

/-- 'guillochelaw05.CanonGrows': WHATEVER THE INPUT: true; the input reads as it did. -/
def canonGrowsSpec : ChangeSpec := { name := "canonGrows", fn := fun _ => fun
  | [d] => { results := [.lit (.bool true)], args := [d] }
  | _ => none }
def canonGrowsRow : OpenClaim := { program := "ytfeonjiiijdibaagreatdoor", sum := "dc1274b9fe3e1c8c0b866367d3c49faface83cf3be1d9f3aeeaa71e67a9437d2", func := "guilloche/guillochelaw05.CanonGrows", spec := "canonGrows", inPlace := ["internal/reflectlite.ValueOf", "(internal/reflectlite.Value).Type", "(internal/reflectlite.Value).IsNil", "internal/reflectlite.TypeOf", "(internal/reflectlite.Value).Elem", "(internal/reflectlite.Value).Set", "internal/abi.NoEscape", "internal/bytealg.MakeNoZero"], unfollowed := true, recurses := true, named := ["errors.errorType", "guilloche/sha.start", "guilloche/sha.added"], apart := false, laid := [("guilloche/sha.start", laid_guilloche_sha_start), ("guilloche/sha.added", laid_guilloche_sha_added), ("errors.errorType", laid_errors_errorType)] }
def CanonGrowsSaid : Prop := canonGrowsRow.holds Tryz.pinned (OpenSpec.ofChange canonGrowsSpec)

/-- ITS FALSE NEIGHBOUR: 'it returns false'. Refute it at one input. -/
def canonGrowsWrong : ChangeSpec := { name := "canonGrows", fn := fun _ => fun
  | [d] => { results := [.lit (.bool false)], args := [d] }
  | _ => none }
def CanonGrowsWrongFalsely : Prop := canonGrowsRow.holds Tryz.pinned (OpenSpec.ofChange canonGrowsWrong)

/- THE SECOND FORM. 'bulk': how many values and letters a reading holds, each counted each time it is reached (what is shared counts as often as it is met; a slice's spare places count too). A statement '..UptoSaid' is the law's where the arguments, and the package variables that the reading takes, are together of bulk at most 1048576: NARROWER than '..Said'. Prove '..Said' where nothing that the law and all that it calls make is longer than what came in: it says more and counts as full. Else prove '..UptoSaid'. A law counts once. -/
mutual
def uptoBulk {H : Type} : DataW H → Nat
  | .lit (.string bytes) => bytes.length + 1
  | .lit _ => 1
  | .nil => 1
  | .ptr d => uptoBulk d + 1
  | .slice elems spare => uptoBulkAll elems + uptoBulkAll spare + 1
  | .agg parts => uptoBulkAll parts + 1
  | .iface _ d => uptoBulk d + 1
  | .map entries => uptoBulkEntries entries + 1
  | .held _ => 1
def uptoBulkAll {H : Type} : List (DataW H) → Nat
  | [] => 0
  | d :: r => uptoBulk d + uptoBulkAll r
def uptoBulkEntries {H : Type} : List (Lit × DataW H) → Nat
  | [] => 0
  | x :: r => uptoBulkEntry x + uptoBulkEntries r
def uptoBulkEntry {H : Type} : Lit × DataW H → Nat
  | (.string bytes, d) => bytes.length + uptoBulk d + 1
  | (_, d) => uptoBulk d + 1
 end
def uptoSmall : (H : Type) → List (DataW H) → Bool := fun _ ds => decide (uptoBulkAll ds ≤ 1048576)
def OpenSpec.upto (s : _root_.Go.ChangeSpec) : _root_.Go.OpenSpec := { _root_.Go.OpenSpec.ofChange s with cond := some uptoSmall }

/-- 'guillochelaw05.CanonBuilds', WHERE WHAT IT READS IS OF BULK AT MOST 1048576: true; the input reads as it did. -/
def canonBuildsUptoRow : OpenClaim := { program := "ytfeonjiiijdibaagreatdoor", sum := "dc1274b9fe3e1c8c0b866367d3c49faface83cf3be1d9f3aeeaa71e67a9437d2", func := "guilloche/guillochelaw05.CanonBuilds", spec := "canonBuilds", inPlace := ["internal/reflectlite.ValueOf", "(internal/reflectlite.Value).Type", "(internal/reflectlite.Value).IsNil", "internal/reflectlite.TypeOf", "(internal/reflectlite.Value).Elem", "(internal/reflectlite.Value).Set", "internal/abi.NoEscape", "internal/bytealg.MakeNoZero"], unfollowed := true, recurses := true, named := ["errors.errorType", "guilloche/sha.start", "guilloche/sha.added"], apart := false, laid := [("guilloche/sha.start", laid_guilloche_sha_start), ("guilloche/sha.added", laid_guilloche_sha_added), ("errors.errorType", laid_errors_errorType)], narrowed := true }
def CanonBuildsUptoSaid : Prop := canonBuildsUptoRow.holds Tryz.pinned (OpenSpec.upto canonBuildsSpec)

/-- 'guillochelaw05.CanonChanges', WHERE WHAT IT READS IS OF BULK AT MOST 1048576: true; the input reads as it did. -/
def canonChangesUptoRow : OpenClaim := { program := "ytfeonjiiijdibaagreatdoor", sum := "dc1274b9fe3e1c8c0b866367d3c49faface83cf3be1d9f3aeeaa71e67a9437d2", func := "guilloche/guillochelaw05.CanonChanges", spec := "canonChanges", inPlace := ["internal/reflectlite.ValueOf", "(internal/reflectlite.Value).Type", "(internal/reflectlite.Value).IsNil", "internal/reflectlite.TypeOf", "(internal/reflectlite.Value).Elem", "(internal/reflectlite.Value).Set", "internal/abi.NoEscape", "internal/bytealg.MakeNoZero"], unfollowed := true, recurses := true, named := ["errors.errorType", "guilloche/sha.start", "guilloche/sha.added"], apart := false, laid := [("guilloche/sha.start", laid_guilloche_sha_start), ("guilloche/sha.added", laid_guilloche_sha_added), ("errors.errorType", laid_errors_errorType)], narrowed := true }
def CanonChangesUptoSaid : Prop := canonChangesUptoRow.holds Tryz.pinned (OpenSpec.upto canonChangesSpec)

/-- 'guillochelaw05.CanonOnly', WHERE WHAT IT READS IS OF BULK AT MOST 1048576: true; the input reads as it did. -/
def canonOnlyUptoRow : OpenClaim := { program := "ytfeonjiiijdibaagreatdoor", sum := "dc1274b9fe3e1c8c0b866367d3c49faface83cf3be1d9f3aeeaa71e67a9437d2", func := "guilloche/guillochelaw05.CanonOnly", spec := "canonOnly", inPlace := ["internal/reflectlite.ValueOf", "(internal/reflectlite.Value).Type", "(internal/reflectlite.Value).IsNil", "internal/reflectlite.TypeOf", "(internal/reflectlite.Value).Elem", "(internal/reflectlite.Value).Set", "internal/abi.NoEscape", "internal/bytealg.MakeNoZero"], unfollowed := true, recurses := true, named := ["errors.errorType", "guilloche/sha.start", "guilloche/sha.added"], apart := false, laid := [("guilloche/sha.start", laid_guilloche_sha_start), ("guilloche/sha.added", laid_guilloche_sha_added), ("errors.errorType", laid_errors_errorType)], narrowed := true }
def CanonOnlyUptoSaid : Prop := canonOnlyUptoRow.holds Tryz.pinned (OpenSpec.upto canonOnlySpec)

/-- 'guillochelaw05.CanonClosed', WHERE WHAT IT READS IS OF BULK AT MOST 1048576: true; the input reads as it did. -/
def canonClosedUptoRow : OpenClaim := { program := "ytfeonjiiijdibaagreatdoor", sum := "dc1274b9fe3e1c8c0b866367d3c49faface83cf3be1d9f3aeeaa71e67a9437d2", func := "guilloche/guillochelaw05.CanonClosed", spec := "canonClosed", inPlace := ["internal/reflectlite.ValueOf", "(internal/reflectlite.Value).Type", "(internal/reflectlite.Value).IsNil", "internal/reflectlite.TypeOf", "(internal/reflectlite.Value).Elem", "(internal/reflectlite.Value).Set", "internal/abi.NoEscape", "internal/bytealg.MakeNoZero"], unfollowed := true, recurses := true, named := ["errors.errorType", "guilloche/sha.start", "guilloche/sha.added"], apart := false, laid := [("guilloche/sha.start", laid_guilloche_sha_start), ("guilloche/sha.added", laid_guilloche_sha_added), ("errors.errorType", laid_errors_errorType)], narrowed := true }
def CanonClosedUptoSaid : Prop := canonClosedUptoRow.holds Tryz.pinned (OpenSpec.upto canonClosedSpec)

/-- 'guillochelaw05.CanonDiffs', WHERE WHAT IT READS IS OF BULK AT MOST 1048576: true; the input reads as it did. -/
def canonDiffsUptoRow : OpenClaim := { program := "ytfeonjiiijdibaagreatdoor", sum := "dc1274b9fe3e1c8c0b866367d3c49faface83cf3be1d9f3aeeaa71e67a9437d2", func := "guilloche/guillochelaw05.CanonDiffs", spec := "canonDiffs", inPlace := ["internal/reflectlite.ValueOf", "(internal/reflectlite.Value).Type", "(internal/reflectlite.Value).IsNil", "internal/reflectlite.TypeOf", "(internal/reflectlite.Value).Elem", "(internal/reflectlite.Value).Set", "internal/abi.NoEscape", "internal/bytealg.MakeNoZero"], unfollowed := true, recurses := true, named := ["errors.errorType", "guilloche/sha.start", "guilloche/sha.added"], apart := false, laid := [("guilloche/sha.start", laid_guilloche_sha_start), ("guilloche/sha.added", laid_guilloche_sha_added), ("errors.errorType", laid_errors_errorType)], narrowed := true }
def CanonDiffsUptoSaid : Prop := canonDiffsUptoRow.holds Tryz.pinned (OpenSpec.upto canonDiffsSpec)

/-- 'guillochelaw05.CanonTwice', WHERE WHAT IT READS IS OF BULK AT MOST 1048576: true; the input reads as it did. -/
def canonTwiceUptoRow : OpenClaim := { program := "ytfeonjiiijdibaagreatdoor", sum := "dc1274b9fe3e1c8c0b866367d3c49faface83cf3be1d9f3aeeaa71e67a9437d2", func := "guilloche/guillochelaw05.CanonTwice", spec := "canonTwice", inPlace := ["internal/reflectlite.ValueOf", "(internal/reflectlite.Value).Type", "(internal/reflectlite.Value).IsNil", "internal/reflectlite.TypeOf", "(internal/reflectlite.Value).Elem", "(internal/reflectlite.Value).Set", "internal/abi.NoEscape", "internal/bytealg.MakeNoZero"], unfollowed := true, recurses := true, named := ["errors.errorType", "guilloche/sha.start", "guilloche/sha.added"], apart := false, laid := [("guilloche/sha.start", laid_guilloche_sha_start), ("guilloche/sha.added", laid_guilloche_sha_added), ("errors.errorType", laid_errors_errorType)], narrowed := true }
def CanonTwiceUptoSaid : Prop := canonTwiceUptoRow.holds Tryz.pinned (OpenSpec.upto canonTwiceSpec)

/-- 'guillochelaw05.CanonOne', WHERE WHAT IT READS IS OF BULK AT MOST 1048576: true; the input reads as it did. -/
def canonOneUptoRow : OpenClaim := { program := "ytfeonjiiijdibaagreatdoor", sum := "dc1274b9fe3e1c8c0b866367d3c49faface83cf3be1d9f3aeeaa71e67a9437d2", func := "guilloche/guillochelaw05.CanonOne", spec := "canonOne", inPlace := ["internal/reflectlite.ValueOf", "(internal/reflectlite.Value).Type", "(internal/reflectlite.Value).IsNil", "internal/reflectlite.TypeOf", "(internal/reflectlite.Value).Elem", "(internal/reflectlite.Value).Set", "internal/abi.NoEscape", "internal/bytealg.MakeNoZero"], unfollowed := true, recurses := true, named := ["errors.errorType", "guilloche/sha.start", "guilloche/sha.added"], apart := false, laid := [("guilloche/sha.start", laid_guilloche_sha_start), ("guilloche/sha.added", laid_guilloche_sha_added), ("errors.errorType", laid_errors_errorType)], narrowed := true }
def CanonOneUptoSaid : Prop := canonOneUptoRow.holds Tryz.pinned (OpenSpec.upto canonOneSpec)

/-- 'guillochelaw05.CanonGrows', WHERE WHAT IT READS IS OF BULK AT MOST 1048576: true; the input reads as it did. -/
def canonGrowsUptoRow : OpenClaim := { program := "ytfeonjiiijdibaagreatdoor", sum := "dc1274b9fe3e1c8c0b866367d3c49faface83cf3be1d9f3aeeaa71e67a9437d2", func := "guilloche/guillochelaw05.CanonGrows", spec := "canonGrows", inPlace := ["internal/reflectlite.ValueOf", "(internal/reflectlite.Value).Type", "(internal/reflectlite.Value).IsNil", "internal/reflectlite.TypeOf", "(internal/reflectlite.Value).Elem", "(internal/reflectlite.Value).Set", "internal/abi.NoEscape", "internal/bytealg.MakeNoZero"], unfollowed := true, recurses := true, named := ["errors.errorType", "guilloche/sha.start", "guilloche/sha.added"], apart := false, laid := [("guilloche/sha.start", laid_guilloche_sha_start), ("guilloche/sha.added", laid_guilloche_sha_added), ("errors.errorType", laid_errors_errorType)], narrowed := true }
def CanonGrowsUptoSaid : Prop := canonGrowsUptoRow.holds Tryz.pinned (OpenSpec.upto canonGrowsSpec)

end Rows
end Go.Proofs.YtfeonjiiijdibaaGreatDoor
