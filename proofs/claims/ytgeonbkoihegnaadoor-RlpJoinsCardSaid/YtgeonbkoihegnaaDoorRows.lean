/-
  NARROWER THAN 'FOR EVERY INPUT', by the rows' own cells (each row's printed sentence says how): RlpNums: laid · RlpJoins: laid · RlpCuts: laid · ShaCollide: laid · ShaHex: laid · ShaFresh: laid · ShaDigits: laid.
  DERIVED. THE GIVEN ROWS OF THIS SEAT. 7 by the template 'for every input the law returns true; each argument reads behind the call as it read before'; 0 by the template 'total and deterministic' (their statements: YtgeonbkoihegnaaDoorTotals.lean).
  GIVEN WITH THE SEED: the statements are not yours to turn. If you find one false, say at which input.
  Laid BY PROGRAM, IN A SANDBOX (cutbox-rows.mjs): the forced cells as the released guide's own fill.sh prints them over the translation b27036ea34a05212… (all of the seat's roots in one cut). By AI agents, Wed Nov 11 2026. No macro, syntax, notation, axiom, sorry.
-/
import Derived.Test.YtgeonbkoihegnaaDoorChecked
import GoSem.Claim
import GoSem.ClaimJoined
import GoSem.ClaimMapViews
import Derived.JoinedTies
import Derived.KernelRfl
namespace Go.Proofs.YtgeonbkoihegnaaDoor
/- THE CELL 'sum', in the pinned program and in every row, IS THE sha256 OF THE DUMP (.gsa) THAT YtgeonbkoihegnaaDoorProg.lean LOADS. Nothing in Lean hashes anything: it is a label: what it is worth is what the hold of that sum in a sandbox is worth. -/
noncomputable def Tryd.pinned : Pinned := { name := "ytgeonbkoihegnaadoor", sum := "b27036ea34a052122f87dcd73d4cb1629e16be57c35f5c4a8cba1474b93f8662", checked := Tryd.checked }
namespace Rows
def none {H : Type} : Left H := { results := [], args := [] }

/- WHAT THE LISTED PACKAGE-LEVEL VARIABLES READ AS WHEN THE CALL BEGINS. Each datum BY PROGRAM (the guide's laid-datum.mjs) off the statement by which the dump's own 'gosem.cut.vars' lays the variable. In a bare row this is a premise. The card (YtgeonbkoihegnaaDoorCards.lean) ties it to the program's text. -/
def laid_errors_errorType {H : Type} : DataW H := .iface "internal/reflectlite.rtype" (.agg [.ptr (.lit (.string [101, 114, 114, 111, 114]))])
def laid_guilloche_sha_start {H : Type} : DataW H := .agg [.lit (.int .u32 1779033703), .lit (.int .u32 3144134277), .lit (.int .u32 1013904242), .lit (.int .u32 2773480762), .lit (.int .u32 1359893119), .lit (.int .u32 2600822924), .lit (.int .u32 528734635), .lit (.int .u32 1541459225)]
def laid_guilloche_sha_added {H : Type} : DataW H := .agg [.lit (.int .u32 1116352408), .lit (.int .u32 1899447441), .lit (.int .u32 3049323471), .lit (.int .u32 3921009573), .lit (.int .u32 961987163), .lit (.int .u32 1508970993), .lit (.int .u32 2453635748), .lit (.int .u32 2870763221), .lit (.int .u32 3624381080), .lit (.int .u32 310598401), .lit (.int .u32 607225278), .lit (.int .u32 1426881987), .lit (.int .u32 1925078388), .lit (.int .u32 2162078206), .lit (.int .u32 2614888103), .lit (.int .u32 3248222580), .lit (.int .u32 3835390401), .lit (.int .u32 4022224774), .lit (.int .u32 264347078), .lit (.int .u32 604807628), .lit (.int .u32 770255983), .lit (.int .u32 1249150122), .lit (.int .u32 1555081692), .lit (.int .u32 1996064986), .lit (.int .u32 2554220882), .lit (.int .u32 2821834349), .lit (.int .u32 2952996808), .lit (.int .u32 3210313671), .lit (.int .u32 3336571891), .lit (.int .u32 3584528711), .lit (.int .u32 113926993), .lit (.int .u32 338241895), .lit (.int .u32 666307205), .lit (.int .u32 773529912), .lit (.int .u32 1294757372), .lit (.int .u32 1396182291), .lit (.int .u32 1695183700), .lit (.int .u32 1986661051), .lit (.int .u32 2177026350), .lit (.int .u32 2456956037), .lit (.int .u32 2730485921), .lit (.int .u32 2820302411), .lit (.int .u32 3259730800), .lit (.int .u32 3345764771), .lit (.int .u32 3516065817), .lit (.int .u32 3600352804), .lit (.int .u32 4094571909), .lit (.int .u32 275423344), .lit (.int .u32 430227734), .lit (.int .u32 506948616), .lit (.int .u32 659060556), .lit (.int .u32 883997877), .lit (.int .u32 958139571), .lit (.int .u32 1322822218), .lit (.int .u32 1537002063), .lit (.int .u32 1747873779), .lit (.int .u32 1955562222), .lit (.int .u32 2024104815), .lit (.int .u32 2227730452), .lit (.int .u32 2361852424), .lit (.int .u32 2428436474), .lit (.int .u32 2756734187), .lit (.int .u32 3204031479), .lit (.int .u32 3329325298)]

/-- 'guillochelaw02.RlpNums': WHATEVER THE INPUT: true; the input reads as it did. -/
def rlpNumsSpec : ChangeSpec := { name := "rlpNums", fn := fun _ => fun
  | [d1, d2, d3] => { results := [.lit (.bool true)], args := [d1, d2, d3] }
  | _ => none }
def rlpNumsRow : OpenClaim := { program := "ytgeonbkoihegnaadoor", sum := "b27036ea34a052122f87dcd73d4cb1629e16be57c35f5c4a8cba1474b93f8662", func := "guilloche/guillochelaw02.RlpNums", spec := "rlpNums", inPlace := ["internal/reflectlite.ValueOf", "(internal/reflectlite.Value).Type", "(internal/reflectlite.Value).IsNil", "internal/reflectlite.TypeOf", "(internal/reflectlite.Value).Elem", "(internal/reflectlite.Value).Set", "internal/abi.NoEscape", "internal/bytealg.MakeNoZero"], unfollowed := true, recurses := true, named := ["errors.errorType"], apart := false, laid := [("errors.errorType", laid_errors_errorType)] }
def RlpNumsSaid : Prop := rlpNumsRow.holds Tryd.pinned (OpenSpec.ofChange rlpNumsSpec)

/-- ITS FALSE NEIGHBOUR: 'it returns false'. Refute it at one input. -/
def rlpNumsWrong : ChangeSpec := { name := "rlpNums", fn := fun _ => fun
  | [d1, d2, d3] => { results := [.lit (.bool false)], args := [d1, d2, d3] }
  | _ => none }
def RlpNumsWrongFalsely : Prop := rlpNumsRow.holds Tryd.pinned (OpenSpec.ofChange rlpNumsWrong)

/-- 'guillochelaw02.RlpJoins': WHATEVER THE INPUT: true; the input reads as it did. -/
def rlpJoinsSpec : ChangeSpec := { name := "rlpJoins", fn := fun _ => fun
  | [d1, d2] => { results := [.lit (.bool true)], args := [d1, d2] }
  | _ => none }
def rlpJoinsRow : OpenClaim := { program := "ytgeonbkoihegnaadoor", sum := "b27036ea34a052122f87dcd73d4cb1629e16be57c35f5c4a8cba1474b93f8662", func := "guilloche/guillochelaw02.RlpJoins", spec := "rlpJoins", inPlace := ["internal/reflectlite.ValueOf", "(internal/reflectlite.Value).Type", "(internal/reflectlite.Value).IsNil", "internal/reflectlite.TypeOf", "(internal/reflectlite.Value).Elem", "(internal/reflectlite.Value).Set", "internal/abi.NoEscape", "internal/bytealg.MakeNoZero"], unfollowed := true, recurses := true, named := ["errors.errorType"], apart := false, laid := [("errors.errorType", laid_errors_errorType)] }
def RlpJoinsSaid : Prop := rlpJoinsRow.holds Tryd.pinned (OpenSpec.ofChange rlpJoinsSpec)

/-- ITS FALSE NEIGHBOUR: 'it returns false'. Refute it at one input. -/
def rlpJoinsWrong : ChangeSpec := { name := "rlpJoins", fn := fun _ => fun
  | [d1, d2] => { results := [.lit (.bool false)], args := [d1, d2] }
  | _ => none }
def RlpJoinsWrongFalsely : Prop := rlpJoinsRow.holds Tryd.pinned (OpenSpec.ofChange rlpJoinsWrong)

/-- 'guillochelaw02.RlpCuts': WHATEVER THE INPUT: true; the input reads as it did. -/
def rlpCutsSpec : ChangeSpec := { name := "rlpCuts", fn := fun _ => fun
  | [d1, d2, d3] => { results := [.lit (.bool true)], args := [d1, d2, d3] }
  | _ => none }
def rlpCutsRow : OpenClaim := { program := "ytgeonbkoihegnaadoor", sum := "b27036ea34a052122f87dcd73d4cb1629e16be57c35f5c4a8cba1474b93f8662", func := "guilloche/guillochelaw02.RlpCuts", spec := "rlpCuts", inPlace := ["internal/reflectlite.ValueOf", "(internal/reflectlite.Value).Type", "(internal/reflectlite.Value).IsNil", "internal/reflectlite.TypeOf", "(internal/reflectlite.Value).Elem", "(internal/reflectlite.Value).Set", "internal/abi.NoEscape", "internal/bytealg.MakeNoZero"], unfollowed := true, recurses := true, named := ["errors.errorType"], apart := false, laid := [("errors.errorType", laid_errors_errorType)] }
def RlpCutsSaid : Prop := rlpCutsRow.holds Tryd.pinned (OpenSpec.ofChange rlpCutsSpec)

/-- ITS FALSE NEIGHBOUR: 'it returns false'. Refute it at one input. -/
def rlpCutsWrong : ChangeSpec := { name := "rlpCuts", fn := fun _ => fun
  | [d1, d2, d3] => { results := [.lit (.bool false)], args := [d1, d2, d3] }
  | _ => none }
def RlpCutsWrongFalsely : Prop := rlpCutsRow.holds Tryd.pinned (OpenSpec.ofChange rlpCutsWrong)

/-- 'guillochelaw03.ShaCollide': WHATEVER THE INPUT: true; the input reads as it did. -/
def shaCollideSpec : ChangeSpec := { name := "shaCollide", fn := fun _ => fun
  | [d1, d2] => { results := [.lit (.bool true)], args := [d1, d2] }
  | _ => none }
def shaCollideRow : OpenClaim := { program := "ytgeonbkoihegnaadoor", sum := "b27036ea34a052122f87dcd73d4cb1629e16be57c35f5c4a8cba1474b93f8662", func := "guilloche/guillochelaw03.ShaCollide", spec := "shaCollide", named := ["guilloche/sha.start", "guilloche/sha.added"], apart := false, laid := [("guilloche/sha.start", laid_guilloche_sha_start), ("guilloche/sha.added", laid_guilloche_sha_added)] }
def ShaCollideSaid : Prop := shaCollideRow.holds Tryd.pinned (OpenSpec.ofChange shaCollideSpec)

/-- ITS FALSE NEIGHBOUR: 'it returns false'. Refute it at one input. -/
def shaCollideWrong : ChangeSpec := { name := "shaCollide", fn := fun _ => fun
  | [d1, d2] => { results := [.lit (.bool false)], args := [d1, d2] }
  | _ => none }
def ShaCollideWrongFalsely : Prop := shaCollideRow.holds Tryd.pinned (OpenSpec.ofChange shaCollideWrong)

/-- 'guillochelaw03.ShaHex': WHATEVER THE INPUT: true; the input reads as it did. -/
def shaHexSpec : ChangeSpec := { name := "shaHex", fn := fun _ => fun
  | [d1, d2] => { results := [.lit (.bool true)], args := [d1, d2] }
  | _ => none }
def shaHexRow : OpenClaim := { program := "ytgeonbkoihegnaadoor", sum := "b27036ea34a052122f87dcd73d4cb1629e16be57c35f5c4a8cba1474b93f8662", func := "guilloche/guillochelaw03.ShaHex", spec := "shaHex", named := ["guilloche/sha.start", "guilloche/sha.added"], apart := false, laid := [("guilloche/sha.start", laid_guilloche_sha_start), ("guilloche/sha.added", laid_guilloche_sha_added)] }
def ShaHexSaid : Prop := shaHexRow.holds Tryd.pinned (OpenSpec.ofChange shaHexSpec)

/-- ITS FALSE NEIGHBOUR: 'it returns false'. Refute it at one input. -/
def shaHexWrong : ChangeSpec := { name := "shaHex", fn := fun _ => fun
  | [d1, d2] => { results := [.lit (.bool false)], args := [d1, d2] }
  | _ => none }
def ShaHexWrongFalsely : Prop := shaHexRow.holds Tryd.pinned (OpenSpec.ofChange shaHexWrong)

/-- 'guillochelaw03.ShaFresh': WHATEVER THE INPUT: true; the input reads as it did. -/
def shaFreshSpec : ChangeSpec := { name := "shaFresh", fn := fun _ => fun
  | [d1, d2] => { results := [.lit (.bool true)], args := [d1, d2] }
  | _ => none }
def shaFreshRow : OpenClaim := { program := "ytgeonbkoihegnaadoor", sum := "b27036ea34a052122f87dcd73d4cb1629e16be57c35f5c4a8cba1474b93f8662", func := "guilloche/guillochelaw03.ShaFresh", spec := "shaFresh", named := ["guilloche/sha.start", "guilloche/sha.added"], apart := false, laid := [("guilloche/sha.start", laid_guilloche_sha_start), ("guilloche/sha.added", laid_guilloche_sha_added)] }
def ShaFreshSaid : Prop := shaFreshRow.holds Tryd.pinned (OpenSpec.ofChange shaFreshSpec)

/-- ITS FALSE NEIGHBOUR: 'it returns false'. Refute it at one input. -/
def shaFreshWrong : ChangeSpec := { name := "shaFresh", fn := fun _ => fun
  | [d1, d2] => { results := [.lit (.bool false)], args := [d1, d2] }
  | _ => none }
def ShaFreshWrongFalsely : Prop := shaFreshRow.holds Tryd.pinned (OpenSpec.ofChange shaFreshWrong)

/-- 'guillochelaw03.ShaDigits': WHATEVER THE INPUT: true; the input reads as it did. -/
def shaDigitsSpec : ChangeSpec := { name := "shaDigits", fn := fun _ => fun
  | [d] => { results := [.lit (.bool true)], args := [d] }
  | _ => none }
def shaDigitsRow : OpenClaim := { program := "ytgeonbkoihegnaadoor", sum := "b27036ea34a052122f87dcd73d4cb1629e16be57c35f5c4a8cba1474b93f8662", func := "guilloche/guillochelaw03.ShaDigits", spec := "shaDigits", named := ["guilloche/sha.start", "guilloche/sha.added"], apart := false, laid := [("guilloche/sha.start", laid_guilloche_sha_start), ("guilloche/sha.added", laid_guilloche_sha_added)] }
def ShaDigitsSaid : Prop := shaDigitsRow.holds Tryd.pinned (OpenSpec.ofChange shaDigitsSpec)

/-- ITS FALSE NEIGHBOUR: 'it returns false'. Refute it at one input. -/
def shaDigitsWrong : ChangeSpec := { name := "shaDigits", fn := fun _ => fun
  | [d] => { results := [.lit (.bool false)], args := [d] }
  | _ => none }
def ShaDigitsWrongFalsely : Prop := shaDigitsRow.holds Tryd.pinned (OpenSpec.ofChange shaDigitsWrong)

/- THE SECOND FORM. 'bulk': how many values and letters a reading holds, each counted each time it is reached (what is shared counts as often as it is met; a slice's spare places count too). A statement '..UptoSaid' is the law's where the arguments, and the package variables that the reading takes, are together of bulk at most 1048576: NARROWER than '..Said'. Prove '..Said' where nothing that the law and all that it calls make is longer than what came in: it says more and counts as full. Else prove '..UptoSaid'. A law counts once. -/
mutual
def uptoBulk {H : Type} : DataW H → Nat
  | .lit (.string bytes) => bytes.length + 1
  | .lit _ => 1
  | .nil => 1
  | .ptr d => uptoBulk d + 1
  | .slice elems spare => uptoBulkAll elems + uptoBulkAll spare + 1
  | .agg parts => uptoBulkAll parts + 1
  | .iface _ d => uptoBulk d + 1
  | .map entries => uptoBulkEntries entries + 1
  | .held _ => 1
def uptoBulkAll {H : Type} : List (DataW H) → Nat
  | [] => 0
  | d :: r => uptoBulk d + uptoBulkAll r
def uptoBulkEntries {H : Type} : List (Lit × DataW H) → Nat
  | [] => 0
  | x :: r => uptoBulkEntry x + uptoBulkEntries r
def uptoBulkEntry {H : Type} : Lit × DataW H → Nat
  | (.string bytes, d) => bytes.length + uptoBulk d + 1
  | (_, d) => uptoBulk d + 1
 end
def uptoSmall : (H : Type) → List (DataW H) → Bool := fun _ ds => decide (uptoBulkAll ds ≤ 1048576)
def OpenSpec.upto (s : _root_.Go.ChangeSpec) : _root_.Go.OpenSpec := { _root_.Go.OpenSpec.ofChange s with cond := some uptoSmall }

/-- 'guillochelaw02.RlpNums', WHERE WHAT IT READS IS OF BULK AT MOST 1048576: true; the input reads as it did. -/
def rlpNumsUptoRow : OpenClaim := { program := "ytgeonbkoihegnaadoor", sum := "b27036ea34a052122f87dcd73d4cb1629e16be57c35f5c4a8cba1474b93f8662", func := "guilloche/guillochelaw02.RlpNums", spec := "rlpNums", inPlace := ["internal/reflectlite.ValueOf", "(internal/reflectlite.Value).Type", "(internal/reflectlite.Value).IsNil", "internal/reflectlite.TypeOf", "(internal/reflectlite.Value).Elem", "(internal/reflectlite.Value).Set", "internal/abi.NoEscape", "internal/bytealg.MakeNoZero"], unfollowed := true, recurses := true, named := ["errors.errorType"], apart := false, laid := [("errors.errorType", laid_errors_errorType)], narrowed := true }
def RlpNumsUptoSaid : Prop := rlpNumsUptoRow.holds Tryd.pinned (OpenSpec.upto rlpNumsSpec)

/-- 'guillochelaw02.RlpJoins', WHERE WHAT IT READS IS OF BULK AT MOST 1048576: true; the input reads as it did. -/
def rlpJoinsUptoRow : OpenClaim := { program := "ytgeonbkoihegnaadoor", sum := "b27036ea34a052122f87dcd73d4cb1629e16be57c35f5c4a8cba1474b93f8662", func := "guilloche/guillochelaw02.RlpJoins", spec := "rlpJoins", inPlace := ["internal/reflectlite.ValueOf", "(internal/reflectlite.Value).Type", "(internal/reflectlite.Value).IsNil", "internal/reflectlite.TypeOf", "(internal/reflectlite.Value).Elem", "(internal/reflectlite.Value).Set", "internal/abi.NoEscape", "internal/bytealg.MakeNoZero"], unfollowed := true, recurses := true, named := ["errors.errorType"], apart := false, laid := [("errors.errorType", laid_errors_errorType)], narrowed := true }
def RlpJoinsUptoSaid : Prop := rlpJoinsUptoRow.holds Tryd.pinned (OpenSpec.upto rlpJoinsSpec)

/-- 'guillochelaw02.RlpCuts', WHERE WHAT IT READS IS OF BULK AT MOST 1048576: true; the input reads as it did. -/
def rlpCutsUptoRow : OpenClaim := { program := "ytgeonbkoihegnaadoor", sum := "b27036ea34a052122f87dcd73d4cb1629e16be57c35f5c4a8cba1474b93f8662", func := "guilloche/guillochelaw02.RlpCuts", spec := "rlpCuts", inPlace := ["internal/reflectlite.ValueOf", "(internal/reflectlite.Value).Type", "(internal/reflectlite.Value).IsNil", "internal/reflectlite.TypeOf", "(internal/reflectlite.Value).Elem", "(internal/reflectlite.Value).Set", "internal/abi.NoEscape", "internal/bytealg.MakeNoZero"], unfollowed := true, recurses := true, named := ["errors.errorType"], apart := false, laid := [("errors.errorType", laid_errors_errorType)], narrowed := true }
def RlpCutsUptoSaid : Prop := rlpCutsUptoRow.holds Tryd.pinned (OpenSpec.upto rlpCutsSpec)

/-- 'guillochelaw03.ShaCollide', WHERE WHAT IT READS IS OF BULK AT MOST 1048576: true; the input reads as it did. -/
def shaCollideUptoRow : OpenClaim := { program := "ytgeonbkoihegnaadoor", sum := "b27036ea34a052122f87dcd73d4cb1629e16be57c35f5c4a8cba1474b93f8662", func := "guilloche/guillochelaw03.ShaCollide", spec := "shaCollide", named := ["guilloche/sha.start", "guilloche/sha.added"], apart := false, laid := [("guilloche/sha.start", laid_guilloche_sha_start), ("guilloche/sha.added", laid_guilloche_sha_added)], narrowed := true }
def ShaCollideUptoSaid : Prop := shaCollideUptoRow.holds Tryd.pinned (OpenSpec.upto shaCollideSpec)

/-- 'guillochelaw03.ShaHex', WHERE WHAT IT READS IS OF BULK AT MOST 1048576: true; the input reads as it did. -/
def shaHexUptoRow : OpenClaim := { program := "ytgeonbkoihegnaadoor", sum := "b27036ea34a052122f87dcd73d4cb1629e16be57c35f5c4a8cba1474b93f8662", func := "guilloche/guillochelaw03.ShaHex", spec := "shaHex", named := ["guilloche/sha.start", "guilloche/sha.added"], apart := false, laid := [("guilloche/sha.start", laid_guilloche_sha_start), ("guilloche/sha.added", laid_guilloche_sha_added)], narrowed := true }
def ShaHexUptoSaid : Prop := shaHexUptoRow.holds Tryd.pinned (OpenSpec.upto shaHexSpec)

/-- 'guillochelaw03.ShaFresh', WHERE WHAT IT READS IS OF BULK AT MOST 1048576: true; the input reads as it did. -/
def shaFreshUptoRow : OpenClaim := { program := "ytgeonbkoihegnaadoor", sum := "b27036ea34a052122f87dcd73d4cb1629e16be57c35f5c4a8cba1474b93f8662", func := "guilloche/guillochelaw03.ShaFresh", spec := "shaFresh", named := ["guilloche/sha.start", "guilloche/sha.added"], apart := false, laid := [("guilloche/sha.start", laid_guilloche_sha_start), ("guilloche/sha.added", laid_guilloche_sha_added)], narrowed := true }
def ShaFreshUptoSaid : Prop := shaFreshUptoRow.holds Tryd.pinned (OpenSpec.upto shaFreshSpec)

/-- 'guillochelaw03.ShaDigits', WHERE WHAT IT READS IS OF BULK AT MOST 1048576: true; the input reads as it did. -/
def shaDigitsUptoRow : OpenClaim := { program := "ytgeonbkoihegnaadoor", sum := "b27036ea34a052122f87dcd73d4cb1629e16be57c35f5c4a8cba1474b93f8662", func := "guilloche/guillochelaw03.ShaDigits", spec := "shaDigits", named := ["guilloche/sha.start", "guilloche/sha.added"], apart := false, laid := [("guilloche/sha.start", laid_guilloche_sha_start), ("guilloche/sha.added", laid_guilloche_sha_added)], narrowed := true }
def ShaDigitsUptoSaid : Prop := shaDigitsUptoRow.holds Tryd.pinned (OpenSpec.upto shaDigitsSpec)

end Rows
end Go.Proofs.YtgeonbkoihegnaaDoor
