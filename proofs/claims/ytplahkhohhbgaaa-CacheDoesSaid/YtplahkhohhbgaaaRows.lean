/-
  No cell of these rows narrows 'for every input' (looked for: loops, veiled, ifaces, maps, wideKeys, modest, calm, conditions, laid).
  DERIVED. THE GIVEN ROWS OF THIS SEAT. 11 by the template 'for every input the law returns true; each argument reads behind the call as it read before'; 0 by the template 'total and deterministic' (their statements: YtplahkhohhbgaaaTotals.lean).
  GIVEN WITH THE SEED: the statements are not yours to turn. If you find one false, say at which input.
  Laid BY PROGRAM, IN A SANDBOX (cutbox-rows.mjs): the forced cells as the released guide's own fill.sh prints them over the translation f9a1b873e37e8309… (all of the seat's roots in one cut). By AI agents, Wed Nov 11 2026. No macro, syntax, notation, axiom, sorry.
-/
import Derived.Test.YtplahkhohhbgaaaChecked
import GoSem.Claim
import GoSem.ClaimJoined
import GoSem.ClaimMapViews
import Derived.JoinedTies
import Derived.KernelRfl
namespace Go.Proofs.Ytplahkhohhbgaaa
/- THE CELL 'sum', in the pinned program and in every row, IS THE sha256 OF THE DUMP (.gsa) THAT YtplahkhohhbgaaaProg.lean LOADS. Nothing in Lean hashes anything: it is a label: what it is worth is what the hold of that sum in a sandbox is worth. -/
noncomputable def Try.pinned : Pinned := { name := "ytplahkhohhbgaaa", sum := "f9a1b873e37e83091e6993f27015b412df9f06410cbe71f33f9f5320fe6826ae", checked := Try.checked }
namespace Rows
def none {H : Type} : Left H := { results := [], args := [] }

/-- 'guillochelaw07.CacheDoes': WHATEVER THE INPUT: true; the input reads as it did. -/
def cacheDoesSpec : ChangeSpec := { name := "cacheDoes", fn := fun _ => fun
  | [d1, d2, d3] => { results := [.lit (.bool true)], args := [d1, d2, d3] }
  | _ => none }
def cacheDoesRow : OpenClaim := { program := "ytplahkhohhbgaaa", sum := "f9a1b873e37e83091e6993f27015b412df9f06410cbe71f33f9f5320fe6826ae", func := "guilloche/guillochelaw07.CacheDoes", spec := "cacheDoes", inPlace := ["slices.overlaps[guilloche/cache.thing]"], unfollowed := true, recurses := true, apart := false }
def CacheDoesSaid : Prop := cacheDoesRow.holds Try.pinned (OpenSpec.ofChange cacheDoesSpec)

/-- ITS FALSE NEIGHBOUR: 'it returns false'. Refute it at one input. -/
def cacheDoesWrong : ChangeSpec := { name := "cacheDoes", fn := fun _ => fun
  | [d1, d2, d3] => { results := [.lit (.bool false)], args := [d1, d2, d3] }
  | _ => none }
def CacheDoesWrongFalsely : Prop := cacheDoesRow.holds Try.pinned (OpenSpec.ofChange cacheDoesWrong)

/-- 'guillochelaw07.CacheRoom': WHATEVER THE INPUT: true; the input reads as it did. -/
def cacheRoomSpec : ChangeSpec := { name := "cacheRoom", fn := fun _ => fun
  | [d1, d2] => { results := [.lit (.bool true)], args := [d1, d2] }
  | _ => none }
def cacheRoomRow : OpenClaim := { program := "ytplahkhohhbgaaa", sum := "f9a1b873e37e83091e6993f27015b412df9f06410cbe71f33f9f5320fe6826ae", func := "guilloche/guillochelaw07.CacheRoom", spec := "cacheRoom", inPlace := ["slices.overlaps[guilloche/cache.thing]"], unfollowed := true, recurses := true, apart := false }
def CacheRoomSaid : Prop := cacheRoomRow.holds Try.pinned (OpenSpec.ofChange cacheRoomSpec)

/-- ITS FALSE NEIGHBOUR: 'it returns false'. Refute it at one input. -/
def cacheRoomWrong : ChangeSpec := { name := "cacheRoom", fn := fun _ => fun
  | [d1, d2] => { results := [.lit (.bool false)], args := [d1, d2] }
  | _ => none }
def CacheRoomWrongFalsely : Prop := cacheRoomRow.holds Try.pinned (OpenSpec.ofChange cacheRoomWrong)

/-- 'guillochelaw07.CacheGate': WHATEVER THE INPUT: true; the input reads as it did. -/
def cacheGateSpec : ChangeSpec := { name := "cacheGate", fn := fun _ => fun
  | [d1, d2, d3, d4] => { results := [.lit (.bool true)], args := [d1, d2, d3, d4] }
  | _ => none }
def cacheGateRow : OpenClaim := { program := "ytplahkhohhbgaaa", sum := "f9a1b873e37e83091e6993f27015b412df9f06410cbe71f33f9f5320fe6826ae", func := "guilloche/guillochelaw07.CacheGate", spec := "cacheGate", inPlace := ["slices.overlaps[guilloche/cache.thing]"], unfollowed := true, recurses := true, apart := false }
def CacheGateSaid : Prop := cacheGateRow.holds Try.pinned (OpenSpec.ofChange cacheGateSpec)

/-- ITS FALSE NEIGHBOUR: 'it returns false'. Refute it at one input. -/
def cacheGateWrong : ChangeSpec := { name := "cacheGate", fn := fun _ => fun
  | [d1, d2, d3, d4] => { results := [.lit (.bool false)], args := [d1, d2, d3, d4] }
  | _ => none }
def CacheGateWrongFalsely : Prop := cacheGateRow.holds Try.pinned (OpenSpec.ofChange cacheGateWrong)

/-- 'guillochelaw07.CacheForgets': WHATEVER THE INPUT: true; the input reads as it did. -/
def cacheForgetsSpec : ChangeSpec := { name := "cacheForgets", fn := fun _ => fun
  | [d1, d2, d3] => { results := [.lit (.bool true)], args := [d1, d2, d3] }
  | _ => none }
def cacheForgetsRow : OpenClaim := { program := "ytplahkhohhbgaaa", sum := "f9a1b873e37e83091e6993f27015b412df9f06410cbe71f33f9f5320fe6826ae", func := "guilloche/guillochelaw07.CacheForgets", spec := "cacheForgets", inPlace := ["slices.overlaps[guilloche/cache.thing]"], unfollowed := true, recurses := true, apart := false }
def CacheForgetsSaid : Prop := cacheForgetsRow.holds Try.pinned (OpenSpec.ofChange cacheForgetsSpec)

/-- ITS FALSE NEIGHBOUR: 'it returns false'. Refute it at one input. -/
def cacheForgetsWrong : ChangeSpec := { name := "cacheForgets", fn := fun _ => fun
  | [d1, d2, d3] => { results := [.lit (.bool false)], args := [d1, d2, d3] }
  | _ => none }
def CacheForgetsWrongFalsely : Prop := cacheForgetsRow.holds Try.pinned (OpenSpec.ofChange cacheForgetsWrong)

/-- 'guillochelaw07.CacheHits': WHATEVER THE INPUT: true; the input reads as it did. -/
def cacheHitsSpec : ChangeSpec := { name := "cacheHits", fn := fun _ => fun
  | [d1, d2, d3, d4] => { results := [.lit (.bool true)], args := [d1, d2, d3, d4] }
  | _ => none }
def cacheHitsRow : OpenClaim := { program := "ytplahkhohhbgaaa", sum := "f9a1b873e37e83091e6993f27015b412df9f06410cbe71f33f9f5320fe6826ae", func := "guilloche/guillochelaw07.CacheHits", spec := "cacheHits", inPlace := ["slices.overlaps[guilloche/cache.thing]"], unfollowed := true, recurses := true, apart := false }
def CacheHitsSaid : Prop := cacheHitsRow.holds Try.pinned (OpenSpec.ofChange cacheHitsSpec)

/-- ITS FALSE NEIGHBOUR: 'it returns false'. Refute it at one input. -/
def cacheHitsWrong : ChangeSpec := { name := "cacheHits", fn := fun _ => fun
  | [d1, d2, d3, d4] => { results := [.lit (.bool false)], args := [d1, d2, d3, d4] }
  | _ => none }
def CacheHitsWrongFalsely : Prop := cacheHitsRow.holds Try.pinned (OpenSpec.ofChange cacheHitsWrong)

/-- 'guillochelaw07.CacheLast': WHATEVER THE INPUT: true; the input reads as it did. -/
def cacheLastSpec : ChangeSpec := { name := "cacheLast", fn := fun _ => fun
  | [d1, d2] => { results := [.lit (.bool true)], args := [d1, d2] }
  | _ => none }
def cacheLastRow : OpenClaim := { program := "ytplahkhohhbgaaa", sum := "f9a1b873e37e83091e6993f27015b412df9f06410cbe71f33f9f5320fe6826ae", func := "guilloche/guillochelaw07.CacheLast", spec := "cacheLast", inPlace := ["slices.overlaps[guilloche/cache.thing]"], unfollowed := true, recurses := true, apart := false }
def CacheLastSaid : Prop := cacheLastRow.holds Try.pinned (OpenSpec.ofChange cacheLastSpec)

/-- ITS FALSE NEIGHBOUR: 'it returns false'. Refute it at one input. -/
def cacheLastWrong : ChangeSpec := { name := "cacheLast", fn := fun _ => fun
  | [d1, d2] => { results := [.lit (.bool false)], args := [d1, d2] }
  | _ => none }
def CacheLastWrongFalsely : Prop := cacheLastRow.holds Try.pinned (OpenSpec.ofChange cacheLastWrong)

/-- 'guillochelaw19.MeshDoes': WHATEVER THE INPUT: true; the input reads as it did. -/
def meshDoesSpec : ChangeSpec := { name := "meshDoes", fn := fun _ => fun
  | [d1, d2, d3] => { results := [.lit (.bool true)], args := [d1, d2, d3] }
  | _ => none }
def meshDoesRow : OpenClaim := { program := "ytplahkhohhbgaaa", sum := "f9a1b873e37e83091e6993f27015b412df9f06410cbe71f33f9f5320fe6826ae", func := "guilloche/guillochelaw19.MeshDoes", spec := "meshDoes", unfollowed := true, recurses := true, apart := false }
def MeshDoesSaid : Prop := meshDoesRow.holds Try.pinned (OpenSpec.ofChange meshDoesSpec)

/-- ITS FALSE NEIGHBOUR: 'it returns false'. Refute it at one input. -/
def meshDoesWrong : ChangeSpec := { name := "meshDoes", fn := fun _ => fun
  | [d1, d2, d3] => { results := [.lit (.bool false)], args := [d1, d2, d3] }
  | _ => none }
def MeshDoesWrongFalsely : Prop := meshDoesRow.holds Try.pinned (OpenSpec.ofChange meshDoesWrong)

/-- 'guillochelaw19.MeshCounts': WHATEVER THE INPUT: true; the input reads as it did. -/
def meshCountsSpec : ChangeSpec := { name := "meshCounts", fn := fun _ => fun
  | [d1, d2, d3] => { results := [.lit (.bool true)], args := [d1, d2, d3] }
  | _ => none }
def meshCountsRow : OpenClaim := { program := "ytplahkhohhbgaaa", sum := "f9a1b873e37e83091e6993f27015b412df9f06410cbe71f33f9f5320fe6826ae", func := "guilloche/guillochelaw19.MeshCounts", spec := "meshCounts", unfollowed := true, recurses := true, apart := false }
def MeshCountsSaid : Prop := meshCountsRow.holds Try.pinned (OpenSpec.ofChange meshCountsSpec)

/-- ITS FALSE NEIGHBOUR: 'it returns false'. Refute it at one input. -/
def meshCountsWrong : ChangeSpec := { name := "meshCounts", fn := fun _ => fun
  | [d1, d2, d3] => { results := [.lit (.bool false)], args := [d1, d2, d3] }
  | _ => none }
def MeshCountsWrongFalsely : Prop := meshCountsRow.holds Try.pinned (OpenSpec.ofChange meshCountsWrong)

/-- 'guillochelaw19.MeshMoves': WHATEVER THE INPUT: true; the input reads as it did. -/
def meshMovesSpec : ChangeSpec := { name := "meshMoves", fn := fun _ => fun
  | [d1, d2, d3] => { results := [.lit (.bool true)], args := [d1, d2, d3] }
  | _ => none }
def meshMovesRow : OpenClaim := { program := "ytplahkhohhbgaaa", sum := "f9a1b873e37e83091e6993f27015b412df9f06410cbe71f33f9f5320fe6826ae", func := "guilloche/guillochelaw19.MeshMoves", spec := "meshMoves", unfollowed := true, recurses := true, apart := false }
def MeshMovesSaid : Prop := meshMovesRow.holds Try.pinned (OpenSpec.ofChange meshMovesSpec)

/-- ITS FALSE NEIGHBOUR: 'it returns false'. Refute it at one input. -/
def meshMovesWrong : ChangeSpec := { name := "meshMoves", fn := fun _ => fun
  | [d1, d2, d3] => { results := [.lit (.bool false)], args := [d1, d2, d3] }
  | _ => none }
def MeshMovesWrongFalsely : Prop := meshMovesRow.holds Try.pinned (OpenSpec.ofChange meshMovesWrong)

/-- 'guillochelaw19.MeshOrder': WHATEVER THE INPUT: true; the input reads as it did. -/
def meshOrderSpec : ChangeSpec := { name := "meshOrder", fn := fun _ => fun
  | [d1, d2] => { results := [.lit (.bool true)], args := [d1, d2] }
  | _ => none }
def meshOrderRow : OpenClaim := { program := "ytplahkhohhbgaaa", sum := "f9a1b873e37e83091e6993f27015b412df9f06410cbe71f33f9f5320fe6826ae", func := "guilloche/guillochelaw19.MeshOrder", spec := "meshOrder", unfollowed := true, recurses := true, apart := false }
def MeshOrderSaid : Prop := meshOrderRow.holds Try.pinned (OpenSpec.ofChange meshOrderSpec)

/-- ITS FALSE NEIGHBOUR: 'it returns false'. Refute it at one input. -/
def meshOrderWrong : ChangeSpec := { name := "meshOrder", fn := fun _ => fun
  | [d1, d2] => { results := [.lit (.bool false)], args := [d1, d2] }
  | _ => none }
def MeshOrderWrongFalsely : Prop := meshOrderRow.holds Try.pinned (OpenSpec.ofChange meshOrderWrong)

/-- 'guillochelaw19.MeshDoubles': WHATEVER THE INPUT: true; the input reads as it did. -/
def meshDoublesSpec : ChangeSpec := { name := "meshDoubles", fn := fun _ => fun
  | [d1, d2, d3] => { results := [.lit (.bool true)], args := [d1, d2, d3] }
  | _ => none }
def meshDoublesRow : OpenClaim := { program := "ytplahkhohhbgaaa", sum := "f9a1b873e37e83091e6993f27015b412df9f06410cbe71f33f9f5320fe6826ae", func := "guilloche/guillochelaw19.MeshDoubles", spec := "meshDoubles", unfollowed := true, recurses := true, apart := false }
def MeshDoublesSaid : Prop := meshDoublesRow.holds Try.pinned (OpenSpec.ofChange meshDoublesSpec)

/-- ITS FALSE NEIGHBOUR: 'it returns false'. Refute it at one input. -/
def meshDoublesWrong : ChangeSpec := { name := "meshDoubles", fn := fun _ => fun
  | [d1, d2, d3] => { results := [.lit (.bool false)], args := [d1, d2, d3] }
  | _ => none }
def MeshDoublesWrongFalsely : Prop := meshDoublesRow.holds Try.pinned (OpenSpec.ofChange meshDoublesWrong)

/- THE SECOND FORM. 'bulk': how many values and letters a reading holds, each counted each time it is reached (what is shared counts as often as it is met; a slice's spare places count too). A statement '..UptoSaid' is the law's where the arguments, and the package variables that the reading takes, are together of bulk at most 1048576: NARROWER than '..Said'. Prove '..Said' where nothing that the law and all that it calls make is longer than what came in: it says more and counts as full. Else prove '..UptoSaid'. A law counts once. -/
mutual
def uptoBulk {H : Type} : DataW H → Nat
  | .lit (.string bytes) => bytes.length + 1
  | .lit _ => 1
  | .nil => 1
  | .ptr d => uptoBulk d + 1
  | .slice elems spare => uptoBulkAll elems + uptoBulkAll spare + 1
  | .agg parts => uptoBulkAll parts + 1
  | .iface _ d => uptoBulk d + 1
  | .map entries => uptoBulkEntries entries + 1
  | .held _ => 1
def uptoBulkAll {H : Type} : List (DataW H) → Nat
  | [] => 0
  | d :: r => uptoBulk d + uptoBulkAll r
def uptoBulkEntries {H : Type} : List (Lit × DataW H) → Nat
  | [] => 0
  | x :: r => uptoBulkEntry x + uptoBulkEntries r
def uptoBulkEntry {H : Type} : Lit × DataW H → Nat
  | (.string bytes, d) => bytes.length + uptoBulk d + 1
  | (_, d) => uptoBulk d + 1
 end
def uptoSmall : (H : Type) → List (DataW H) → Bool := fun _ ds => decide (uptoBulkAll ds ≤ 1048576)
def OpenSpec.upto (s : _root_.Go.ChangeSpec) : _root_.Go.OpenSpec := { _root_.Go.OpenSpec.ofChange s with cond := some uptoSmall }

/-- 'guillochelaw07.CacheDoes', WHERE WHAT IT READS IS OF BULK AT MOST 1048576: true; the input reads as it did. -/
def cacheDoesUptoRow : OpenClaim := { program := "ytplahkhohhbgaaa", sum := "f9a1b873e37e83091e6993f27015b412df9f06410cbe71f33f9f5320fe6826ae", func := "guilloche/guillochelaw07.CacheDoes", spec := "cacheDoes", inPlace := ["slices.overlaps[guilloche/cache.thing]"], unfollowed := true, recurses := true, apart := false, narrowed := true }
def CacheDoesUptoSaid : Prop := cacheDoesUptoRow.holds Try.pinned (OpenSpec.upto cacheDoesSpec)

/-- 'guillochelaw07.CacheRoom', WHERE WHAT IT READS IS OF BULK AT MOST 1048576: true; the input reads as it did. -/
def cacheRoomUptoRow : OpenClaim := { program := "ytplahkhohhbgaaa", sum := "f9a1b873e37e83091e6993f27015b412df9f06410cbe71f33f9f5320fe6826ae", func := "guilloche/guillochelaw07.CacheRoom", spec := "cacheRoom", inPlace := ["slices.overlaps[guilloche/cache.thing]"], unfollowed := true, recurses := true, apart := false, narrowed := true }
def CacheRoomUptoSaid : Prop := cacheRoomUptoRow.holds Try.pinned (OpenSpec.upto cacheRoomSpec)

/-- 'guillochelaw07.CacheGate', WHERE WHAT IT READS IS OF BULK AT MOST 1048576: true; the input reads as it did. -/
def cacheGateUptoRow : OpenClaim := { program := "ytplahkhohhbgaaa", sum := "f9a1b873e37e83091e6993f27015b412df9f06410cbe71f33f9f5320fe6826ae", func := "guilloche/guillochelaw07.CacheGate", spec := "cacheGate", inPlace := ["slices.overlaps[guilloche/cache.thing]"], unfollowed := true, recurses := true, apart := false, narrowed := true }
def CacheGateUptoSaid : Prop := cacheGateUptoRow.holds Try.pinned (OpenSpec.upto cacheGateSpec)

/-- 'guillochelaw07.CacheForgets', WHERE WHAT IT READS IS OF BULK AT MOST 1048576: true; the input reads as it did. -/
def cacheForgetsUptoRow : OpenClaim := { program := "ytplahkhohhbgaaa", sum := "f9a1b873e37e83091e6993f27015b412df9f06410cbe71f33f9f5320fe6826ae", func := "guilloche/guillochelaw07.CacheForgets", spec := "cacheForgets", inPlace := ["slices.overlaps[guilloche/cache.thing]"], unfollowed := true, recurses := true, apart := false, narrowed := true }
def CacheForgetsUptoSaid : Prop := cacheForgetsUptoRow.holds Try.pinned (OpenSpec.upto cacheForgetsSpec)

/-- 'guillochelaw07.CacheHits', WHERE WHAT IT READS IS OF BULK AT MOST 1048576: true; the input reads as it did. -/
def cacheHitsUptoRow : OpenClaim := { program := "ytplahkhohhbgaaa", sum := "f9a1b873e37e83091e6993f27015b412df9f06410cbe71f33f9f5320fe6826ae", func := "guilloche/guillochelaw07.CacheHits", spec := "cacheHits", inPlace := ["slices.overlaps[guilloche/cache.thing]"], unfollowed := true, recurses := true, apart := false, narrowed := true }
def CacheHitsUptoSaid : Prop := cacheHitsUptoRow.holds Try.pinned (OpenSpec.upto cacheHitsSpec)

/-- 'guillochelaw07.CacheLast', WHERE WHAT IT READS IS OF BULK AT MOST 1048576: true; the input reads as it did. -/
def cacheLastUptoRow : OpenClaim := { program := "ytplahkhohhbgaaa", sum := "f9a1b873e37e83091e6993f27015b412df9f06410cbe71f33f9f5320fe6826ae", func := "guilloche/guillochelaw07.CacheLast", spec := "cacheLast", inPlace := ["slices.overlaps[guilloche/cache.thing]"], unfollowed := true, recurses := true, apart := false, narrowed := true }
def CacheLastUptoSaid : Prop := cacheLastUptoRow.holds Try.pinned (OpenSpec.upto cacheLastSpec)

/-- 'guillochelaw19.MeshDoes', WHERE WHAT IT READS IS OF BULK AT MOST 1048576: true; the input reads as it did. -/
def meshDoesUptoRow : OpenClaim := { program := "ytplahkhohhbgaaa", sum := "f9a1b873e37e83091e6993f27015b412df9f06410cbe71f33f9f5320fe6826ae", func := "guilloche/guillochelaw19.MeshDoes", spec := "meshDoes", unfollowed := true, recurses := true, apart := false, narrowed := true }
def MeshDoesUptoSaid : Prop := meshDoesUptoRow.holds Try.pinned (OpenSpec.upto meshDoesSpec)

/-- 'guillochelaw19.MeshCounts', WHERE WHAT IT READS IS OF BULK AT MOST 1048576: true; the input reads as it did. -/
def meshCountsUptoRow : OpenClaim := { program := "ytplahkhohhbgaaa", sum := "f9a1b873e37e83091e6993f27015b412df9f06410cbe71f33f9f5320fe6826ae", func := "guilloche/guillochelaw19.MeshCounts", spec := "meshCounts", unfollowed := true, recurses := true, apart := false, narrowed := true }
def MeshCountsUptoSaid : Prop := meshCountsUptoRow.holds Try.pinned (OpenSpec.upto meshCountsSpec)

/-- 'guillochelaw19.MeshMoves', WHERE WHAT IT READS IS OF BULK AT MOST 1048576: true; the input reads as it did. -/
def meshMovesUptoRow : OpenClaim := { program := "ytplahkhohhbgaaa", sum := "f9a1b873e37e83091e6993f27015b412df9f06410cbe71f33f9f5320fe6826ae", func := "guilloche/guillochelaw19.MeshMoves", spec := "meshMoves", unfollowed := true, recurses := true, apart := false, narrowed := true }
def MeshMovesUptoSaid : Prop := meshMovesUptoRow.holds Try.pinned (OpenSpec.upto meshMovesSpec)

/-- 'guillochelaw19.MeshOrder', WHERE WHAT IT READS IS OF BULK AT MOST 1048576: true; the input reads as it did. -/
def meshOrderUptoRow : OpenClaim := { program := "ytplahkhohhbgaaa", sum := "f9a1b873e37e83091e6993f27015b412df9f06410cbe71f33f9f5320fe6826ae", func := "guilloche/guillochelaw19.MeshOrder", spec := "meshOrder", unfollowed := true, recurses := true, apart := false, narrowed := true }
def MeshOrderUptoSaid : Prop := meshOrderUptoRow.holds Try.pinned (OpenSpec.upto meshOrderSpec)

/-- 'guillochelaw19.MeshDoubles', WHERE WHAT IT READS IS OF BULK AT MOST 1048576: true; the input reads as it did. -/
def meshDoublesUptoRow : OpenClaim := { program := "ytplahkhohhbgaaa", sum := "f9a1b873e37e83091e6993f27015b412df9f06410cbe71f33f9f5320fe6826ae", func := "guilloche/guillochelaw19.MeshDoubles", spec := "meshDoubles", unfollowed := true, recurses := true, apart := false, narrowed := true }
def MeshDoublesUptoSaid : Prop := meshDoublesUptoRow.holds Try.pinned (OpenSpec.upto meshDoublesSpec)

end Rows
end Go.Proofs.Ytplahkhohhbgaaa
