/-
  No cell of these rows narrows 'for every input' (looked for: loops, veiled, ifaces, maps, wideKeys, modest, calm, conditions, laid).
  DERIVED. THE GIVEN ROWS OF THIS SEAT. 14 by the template 'for every input the law returns true; each argument reads behind the call as it read before'; 0 by the template 'total and deterministic' (their statements: YtiiielpcipdgjaaTotals.lean).
  GIVEN WITH THE SEED: the statements are not yours to turn. If you find one false, say at which input.
  Laid BY PROGRAM, IN A SANDBOX (cutbox-rows.mjs): the forced cells as the released guide's own fill.sh prints them over the translation bc2f8414d23de869… (all of the seat's roots in one cut). By AI agents, Wed Nov 11 2026. No macro, syntax, notation, axiom, sorry.
-/
import Derived.Test.YtiiielpcipdgjaaChecked
import GoSem.Claim
import GoSem.ClaimJoined
import GoSem.ClaimMapViews
import Derived.JoinedTies
import Derived.KernelRfl
namespace Go.Proofs.Ytiiielpcipdgjaa
/- THE CELL 'sum', in the pinned program and in every row, IS THE sha256 OF THE DUMP (.gsa) THAT YtiiielpcipdgjaaProg.lean LOADS. Nothing in Lean hashes anything: it is a label: what it is worth is what the hold of that sum in a sandbox is worth. -/
noncomputable def Try.pinned : Pinned := { name := "ytiiielpcipdgjaa", sum := "bc2f8414d23de869bd8f7fce00023b42e02bd4186e4205d1bdad623cef47a7b3", checked := Try.checked }
namespace Rows
def none {H : Type} : Left H := { results := [], args := [] }

/-- 'waypointlaw05.TrieOps': WHATEVER THE INPUT: true; the input reads as it did. -/
def trieOpsSpec : ChangeSpec := { name := "trieOps", fn := fun _ => fun
  | [d] => { results := [.lit (.bool true)], args := [d] }
  | _ => none }
def trieOpsRow : OpenClaim := { program := "ytiiielpcipdgjaa", sum := "bc2f8414d23de869bd8f7fce00023b42e02bd4186e4205d1bdad623cef47a7b3", func := "waypoint/waypointlaw05.TrieOps", spec := "trieOps", unfollowed := true, recurses := true, apart := false }
def TrieOpsSaid : Prop := trieOpsRow.holds Try.pinned (OpenSpec.ofChange trieOpsSpec)

/-- ITS FALSE NEIGHBOUR: 'it returns false'. Refute it at one input. -/
def trieOpsWrong : ChangeSpec := { name := "trieOps", fn := fun _ => fun
  | [d] => { results := [.lit (.bool false)], args := [d] }
  | _ => none }
def TrieOpsWrongFalsely : Prop := trieOpsRow.holds Try.pinned (OpenSpec.ofChange trieOpsWrong)

/-- 'waypointlaw05.TrieLookup': WHATEVER THE INPUT: true; the input reads as it did. -/
def trieLookupSpec : ChangeSpec := { name := "trieLookup", fn := fun _ => fun
  | [d1, d2, d3] => { results := [.lit (.bool true)], args := [d1, d2, d3] }
  | _ => none }
def trieLookupRow : OpenClaim := { program := "ytiiielpcipdgjaa", sum := "bc2f8414d23de869bd8f7fce00023b42e02bd4186e4205d1bdad623cef47a7b3", func := "waypoint/waypointlaw05.TrieLookup", spec := "trieLookup", recurses := true, apart := false }
def TrieLookupSaid : Prop := trieLookupRow.holds Try.pinned (OpenSpec.ofChange trieLookupSpec)

/-- ITS FALSE NEIGHBOUR: 'it returns false'. Refute it at one input. -/
def trieLookupWrong : ChangeSpec := { name := "trieLookup", fn := fun _ => fun
  | [d1, d2, d3] => { results := [.lit (.bool false)], args := [d1, d2, d3] }
  | _ => none }
def TrieLookupWrongFalsely : Prop := trieLookupRow.holds Try.pinned (OpenSpec.ofChange trieLookupWrong)

/-- 'waypointlaw05.TrieUnder': WHATEVER THE INPUT: true; the input reads as it did. -/
def trieUnderSpec : ChangeSpec := { name := "trieUnder", fn := fun _ => fun
  | [d1, d2] => { results := [.lit (.bool true)], args := [d1, d2] }
  | _ => none }
def trieUnderRow : OpenClaim := { program := "ytiiielpcipdgjaa", sum := "bc2f8414d23de869bd8f7fce00023b42e02bd4186e4205d1bdad623cef47a7b3", func := "waypoint/waypointlaw05.TrieUnder", spec := "trieUnder", unfollowed := true, recurses := true, apart := false }
def TrieUnderSaid : Prop := trieUnderRow.holds Try.pinned (OpenSpec.ofChange trieUnderSpec)

/-- ITS FALSE NEIGHBOUR: 'it returns false'. Refute it at one input. -/
def trieUnderWrong : ChangeSpec := { name := "trieUnder", fn := fun _ => fun
  | [d1, d2] => { results := [.lit (.bool false)], args := [d1, d2] }
  | _ => none }
def TrieUnderWrongFalsely : Prop := trieUnderRow.holds Try.pinned (OpenSpec.ofChange trieUnderWrong)

/-- 'waypointlaw05.TrieSize': WHATEVER THE INPUT: true; the input reads as it did. -/
def trieSizeSpec : ChangeSpec := { name := "trieSize", fn := fun _ => fun
  | [d] => { results := [.lit (.bool true)], args := [d] }
  | _ => none }
def trieSizeRow : OpenClaim := { program := "ytiiielpcipdgjaa", sum := "bc2f8414d23de869bd8f7fce00023b42e02bd4186e4205d1bdad623cef47a7b3", func := "waypoint/waypointlaw05.TrieSize", spec := "trieSize", recurses := true, apart := false }
def TrieSizeSaid : Prop := trieSizeRow.holds Try.pinned (OpenSpec.ofChange trieSizeSpec)

/-- ITS FALSE NEIGHBOUR: 'it returns false'. Refute it at one input. -/
def trieSizeWrong : ChangeSpec := { name := "trieSize", fn := fun _ => fun
  | [d] => { results := [.lit (.bool false)], args := [d] }
  | _ => none }
def TrieSizeWrongFalsely : Prop := trieSizeRow.holds Try.pinned (OpenSpec.ofChange trieSizeWrong)

/-- 'waypointlaw05.TrieOrder': WHATEVER THE INPUT: true; the input reads as it did. -/
def trieOrderSpec : ChangeSpec := { name := "trieOrder", fn := fun _ => fun
  | [d1, d2] => { results := [.lit (.bool true)], args := [d1, d2] }
  | _ => none }
def trieOrderRow : OpenClaim := { program := "ytiiielpcipdgjaa", sum := "bc2f8414d23de869bd8f7fce00023b42e02bd4186e4205d1bdad623cef47a7b3", func := "waypoint/waypointlaw05.TrieOrder", spec := "trieOrder", unfollowed := true, recurses := true, apart := false }
def TrieOrderSaid : Prop := trieOrderRow.holds Try.pinned (OpenSpec.ofChange trieOrderSpec)

/-- ITS FALSE NEIGHBOUR: 'it returns false'. Refute it at one input. -/
def trieOrderWrong : ChangeSpec := { name := "trieOrder", fn := fun _ => fun
  | [d1, d2] => { results := [.lit (.bool false)], args := [d1, d2] }
  | _ => none }
def TrieOrderWrongFalsely : Prop := trieOrderRow.holds Try.pinned (OpenSpec.ofChange trieOrderWrong)

/-- 'waypointlaw05.TrieEarly': WHATEVER THE INPUT: true; the input reads as it did. -/
def trieEarlySpec : ChangeSpec := { name := "trieEarly", fn := fun _ => fun
  | [d1, d2] => { results := [.lit (.bool true)], args := [d1, d2] }
  | _ => none }
def trieEarlyRow : OpenClaim := { program := "ytiiielpcipdgjaa", sum := "bc2f8414d23de869bd8f7fce00023b42e02bd4186e4205d1bdad623cef47a7b3", func := "waypoint/waypointlaw05.TrieEarly", spec := "trieEarly", unfollowed := true, recurses := true, apart := false }
def TrieEarlySaid : Prop := trieEarlyRow.holds Try.pinned (OpenSpec.ofChange trieEarlySpec)

/-- ITS FALSE NEIGHBOUR: 'it returns false'. Refute it at one input. -/
def trieEarlyWrong : ChangeSpec := { name := "trieEarly", fn := fun _ => fun
  | [d1, d2] => { results := [.lit (.bool false)], args := [d1, d2] }
  | _ => none }
def TrieEarlyWrongFalsely : Prop := trieEarlyRow.holds Try.pinned (OpenSpec.ofChange trieEarlyWrong)

/-- 'waypointlaw05.TrieNil': WHATEVER THE INPUT: true; the input reads as it did. -/
def trieNilSpec : ChangeSpec := { name := "trieNil", fn := fun _ => fun
  | [d] => { results := [.lit (.bool true)], args := [d] }
  | _ => none }
def trieNilRow : OpenClaim := { program := "ytiiielpcipdgjaa", sum := "bc2f8414d23de869bd8f7fce00023b42e02bd4186e4205d1bdad623cef47a7b3", func := "waypoint/waypointlaw05.TrieNil", spec := "trieNil", unfollowed := true, recurses := true, apart := false }
def TrieNilSaid : Prop := trieNilRow.holds Try.pinned (OpenSpec.ofChange trieNilSpec)

/-- ITS FALSE NEIGHBOUR: 'it returns false'. Refute it at one input. -/
def trieNilWrong : ChangeSpec := { name := "trieNil", fn := fun _ => fun
  | [d] => { results := [.lit (.bool false)], args := [d] }
  | _ => none }
def TrieNilWrongFalsely : Prop := trieNilRow.holds Try.pinned (OpenSpec.ofChange trieNilWrong)

/-- 'waypointlaw06.CompressLookup': WHATEVER THE INPUT: true; the input reads as it did. -/
def compressLookupSpec : ChangeSpec := { name := "compressLookup", fn := fun _ => fun
  | [d1, d2] => { results := [.lit (.bool true)], args := [d1, d2] }
  | _ => none }
def compressLookupRow : OpenClaim := { program := "ytiiielpcipdgjaa", sum := "bc2f8414d23de869bd8f7fce00023b42e02bd4186e4205d1bdad623cef47a7b3", func := "waypoint/waypointlaw06.CompressLookup", spec := "compressLookup", inPlace := ["maps.clone"], unfollowed := true, recurses := true, apart := false }
def CompressLookupSaid : Prop := compressLookupRow.holds Try.pinned (OpenSpec.ofChange compressLookupSpec)

/-- ITS FALSE NEIGHBOUR: 'it returns false'. Refute it at one input. -/
def compressLookupWrong : ChangeSpec := { name := "compressLookup", fn := fun _ => fun
  | [d1, d2] => { results := [.lit (.bool false)], args := [d1, d2] }
  | _ => none }
def CompressLookupWrongFalsely : Prop := compressLookupRow.holds Try.pinned (OpenSpec.ofChange compressLookupWrong)

/-- 'waypointlaw06.CompressEqual': WHATEVER THE INPUT: true; the input reads as it did. -/
def compressEqualSpec : ChangeSpec := { name := "compressEqual", fn := fun _ => fun
  | [d1, d2] => { results := [.lit (.bool true)], args := [d1, d2] }
  | _ => none }
def compressEqualRow : OpenClaim := { program := "ytiiielpcipdgjaa", sum := "bc2f8414d23de869bd8f7fce00023b42e02bd4186e4205d1bdad623cef47a7b3", func := "waypoint/waypointlaw06.CompressEqual", spec := "compressEqual", inPlace := ["maps.clone"], unfollowed := true, recurses := true, apart := false }
def CompressEqualSaid : Prop := compressEqualRow.holds Try.pinned (OpenSpec.ofChange compressEqualSpec)

/-- ITS FALSE NEIGHBOUR: 'it returns false'. Refute it at one input. -/
def compressEqualWrong : ChangeSpec := { name := "compressEqual", fn := fun _ => fun
  | [d1, d2] => { results := [.lit (.bool false)], args := [d1, d2] }
  | _ => none }
def CompressEqualWrongFalsely : Prop := compressEqualRow.holds Try.pinned (OpenSpec.ofChange compressEqualWrong)

/-- 'waypointlaw06.CompressEffect': WHATEVER THE INPUT: true; the input reads as it did. -/
def compressEffectSpec : ChangeSpec := { name := "compressEffect", fn := fun _ => fun
  | [d] => { results := [.lit (.bool true)], args := [d] }
  | _ => none }
def compressEffectRow : OpenClaim := { program := "ytiiielpcipdgjaa", sum := "bc2f8414d23de869bd8f7fce00023b42e02bd4186e4205d1bdad623cef47a7b3", func := "waypoint/waypointlaw06.CompressEffect", spec := "compressEffect", inPlace := ["maps.clone"], unfollowed := true, recurses := true, apart := false }
def CompressEffectSaid : Prop := compressEffectRow.holds Try.pinned (OpenSpec.ofChange compressEffectSpec)

/-- ITS FALSE NEIGHBOUR: 'it returns false'. Refute it at one input. -/
def compressEffectWrong : ChangeSpec := { name := "compressEffect", fn := fun _ => fun
  | [d] => { results := [.lit (.bool false)], args := [d] }
  | _ => none }
def CompressEffectWrongFalsely : Prop := compressEffectRow.holds Try.pinned (OpenSpec.ofChange compressEffectWrong)

/-- 'waypointlaw06.CompressLeast': WHATEVER THE INPUT: true; the input reads as it did. -/
def compressLeastSpec : ChangeSpec := { name := "compressLeast", fn := fun _ => fun
  | [d] => { results := [.lit (.bool true)], args := [d] }
  | _ => none }
def compressLeastRow : OpenClaim := { program := "ytiiielpcipdgjaa", sum := "bc2f8414d23de869bd8f7fce00023b42e02bd4186e4205d1bdad623cef47a7b3", func := "waypoint/waypointlaw06.CompressLeast", spec := "compressLeast", inPlace := ["maps.clone"], unfollowed := true, recurses := true, apart := false }
def CompressLeastSaid : Prop := compressLeastRow.holds Try.pinned (OpenSpec.ofChange compressLeastSpec)

/-- ITS FALSE NEIGHBOUR: 'it returns false'. Refute it at one input. -/
def compressLeastWrong : ChangeSpec := { name := "compressLeast", fn := fun _ => fun
  | [d] => { results := [.lit (.bool false)], args := [d] }
  | _ => none }
def CompressLeastWrongFalsely : Prop := compressLeastRow.holds Try.pinned (OpenSpec.ofChange compressLeastWrong)

/-- 'waypointlaw06.CompressAgain': WHATEVER THE INPUT: true; the input reads as it did. -/
def compressAgainSpec : ChangeSpec := { name := "compressAgain", fn := fun _ => fun
  | [d1, d2] => { results := [.lit (.bool true)], args := [d1, d2] }
  | _ => none }
def compressAgainRow : OpenClaim := { program := "ytiiielpcipdgjaa", sum := "bc2f8414d23de869bd8f7fce00023b42e02bd4186e4205d1bdad623cef47a7b3", func := "waypoint/waypointlaw06.CompressAgain", spec := "compressAgain", inPlace := ["maps.clone"], unfollowed := true, recurses := true, apart := false }
def CompressAgainSaid : Prop := compressAgainRow.holds Try.pinned (OpenSpec.ofChange compressAgainSpec)

/-- ITS FALSE NEIGHBOUR: 'it returns false'. Refute it at one input. -/
def compressAgainWrong : ChangeSpec := { name := "compressAgain", fn := fun _ => fun
  | [d1, d2] => { results := [.lit (.bool false)], args := [d1, d2] }
  | _ => none }
def CompressAgainWrongFalsely : Prop := compressAgainRow.holds Try.pinned (OpenSpec.ofChange compressAgainWrong)

/-- 'waypointlaw06.CompressOrder': WHATEVER THE INPUT: true; the input reads as it did. -/
def compressOrderSpec : ChangeSpec := { name := "compressOrder", fn := fun _ => fun
  | [d1, d2] => { results := [.lit (.bool true)], args := [d1, d2] }
  | _ => none }
def compressOrderRow : OpenClaim := { program := "ytiiielpcipdgjaa", sum := "bc2f8414d23de869bd8f7fce00023b42e02bd4186e4205d1bdad623cef47a7b3", func := "waypoint/waypointlaw06.CompressOrder", spec := "compressOrder", inPlace := ["maps.clone"], unfollowed := true, recurses := true, apart := false }
def CompressOrderSaid : Prop := compressOrderRow.holds Try.pinned (OpenSpec.ofChange compressOrderSpec)

/-- ITS FALSE NEIGHBOUR: 'it returns false'. Refute it at one input. -/
def compressOrderWrong : ChangeSpec := { name := "compressOrder", fn := fun _ => fun
  | [d1, d2] => { results := [.lit (.bool false)], args := [d1, d2] }
  | _ => none }
def CompressOrderWrongFalsely : Prop := compressOrderRow.holds Try.pinned (OpenSpec.ofChange compressOrderWrong)

/-- 'waypointlaw06.CompressTrie': WHATEVER THE INPUT: true; the input reads as it did. -/
def compressTrieSpec : ChangeSpec := { name := "compressTrie", fn := fun _ => fun
  | [d1, d2] => { results := [.lit (.bool true)], args := [d1, d2] }
  | _ => none }
def compressTrieRow : OpenClaim := { program := "ytiiielpcipdgjaa", sum := "bc2f8414d23de869bd8f7fce00023b42e02bd4186e4205d1bdad623cef47a7b3", func := "waypoint/waypointlaw06.CompressTrie", spec := "compressTrie", inPlace := ["maps.clone"], unfollowed := true, recurses := true, apart := false }
def CompressTrieSaid : Prop := compressTrieRow.holds Try.pinned (OpenSpec.ofChange compressTrieSpec)

/-- ITS FALSE NEIGHBOUR: 'it returns false'. Refute it at one input. -/
def compressTrieWrong : ChangeSpec := { name := "compressTrie", fn := fun _ => fun
  | [d1, d2] => { results := [.lit (.bool false)], args := [d1, d2] }
  | _ => none }
def CompressTrieWrongFalsely : Prop := compressTrieRow.holds Try.pinned (OpenSpec.ofChange compressTrieWrong)

/- THE SECOND FORM. 'bulk': how many values and letters a reading holds, each counted each time it is reached (what is shared counts as often as it is met; a slice's spare places count too). A statement '..UptoSaid' is the law's where the arguments, and the package variables that the reading takes, are together of bulk at most 1048576: NARROWER than '..Said'. Prove '..Said' where nothing that the law and all that it calls make is longer than what came in: it says more and counts as full. Else prove '..UptoSaid'. A law counts once. -/
mutual
def uptoBulk {H : Type} : DataW H → Nat
  | .lit (.string bytes) => bytes.length + 1
  | .lit _ => 1
  | .nil => 1
  | .ptr d => uptoBulk d + 1
  | .slice elems spare => uptoBulkAll elems + uptoBulkAll spare + 1
  | .agg parts => uptoBulkAll parts + 1
  | .iface _ d => uptoBulk d + 1
  | .map entries => uptoBulkEntries entries + 1
  | .held _ => 1
def uptoBulkAll {H : Type} : List (DataW H) → Nat
  | [] => 0
  | d :: r => uptoBulk d + uptoBulkAll r
def uptoBulkEntries {H : Type} : List (Lit × DataW H) → Nat
  | [] => 0
  | x :: r => uptoBulkEntry x + uptoBulkEntries r
def uptoBulkEntry {H : Type} : Lit × DataW H → Nat
  | (.string bytes, d) => bytes.length + uptoBulk d + 1
  | (_, d) => uptoBulk d + 1
 end
def uptoSmall : (H : Type) → List (DataW H) → Bool := fun _ ds => decide (uptoBulkAll ds ≤ 1048576)
def OpenSpec.upto (s : _root_.Go.ChangeSpec) : _root_.Go.OpenSpec := { _root_.Go.OpenSpec.ofChange s with cond := some uptoSmall }

/-- 'waypointlaw05.TrieOps', WHERE WHAT IT READS IS OF BULK AT MOST 1048576: true; the input reads as it did. -/
def trieOpsUptoRow : OpenClaim := { program := "ytiiielpcipdgjaa", sum := "bc2f8414d23de869bd8f7fce00023b42e02bd4186e4205d1bdad623cef47a7b3", func := "waypoint/waypointlaw05.TrieOps", spec := "trieOps", unfollowed := true, recurses := true, apart := false, narrowed := true }
def TrieOpsUptoSaid : Prop := trieOpsUptoRow.holds Try.pinned (OpenSpec.upto trieOpsSpec)

/-- 'waypointlaw05.TrieLookup', WHERE WHAT IT READS IS OF BULK AT MOST 1048576: true; the input reads as it did. -/
def trieLookupUptoRow : OpenClaim := { program := "ytiiielpcipdgjaa", sum := "bc2f8414d23de869bd8f7fce00023b42e02bd4186e4205d1bdad623cef47a7b3", func := "waypoint/waypointlaw05.TrieLookup", spec := "trieLookup", recurses := true, apart := false, narrowed := true }
def TrieLookupUptoSaid : Prop := trieLookupUptoRow.holds Try.pinned (OpenSpec.upto trieLookupSpec)

/-- 'waypointlaw05.TrieUnder', WHERE WHAT IT READS IS OF BULK AT MOST 1048576: true; the input reads as it did. -/
def trieUnderUptoRow : OpenClaim := { program := "ytiiielpcipdgjaa", sum := "bc2f8414d23de869bd8f7fce00023b42e02bd4186e4205d1bdad623cef47a7b3", func := "waypoint/waypointlaw05.TrieUnder", spec := "trieUnder", unfollowed := true, recurses := true, apart := false, narrowed := true }
def TrieUnderUptoSaid : Prop := trieUnderUptoRow.holds Try.pinned (OpenSpec.upto trieUnderSpec)

/-- 'waypointlaw05.TrieSize', WHERE WHAT IT READS IS OF BULK AT MOST 1048576: true; the input reads as it did. -/
def trieSizeUptoRow : OpenClaim := { program := "ytiiielpcipdgjaa", sum := "bc2f8414d23de869bd8f7fce00023b42e02bd4186e4205d1bdad623cef47a7b3", func := "waypoint/waypointlaw05.TrieSize", spec := "trieSize", recurses := true, apart := false, narrowed := true }
def TrieSizeUptoSaid : Prop := trieSizeUptoRow.holds Try.pinned (OpenSpec.upto trieSizeSpec)

/-- 'waypointlaw05.TrieOrder', WHERE WHAT IT READS IS OF BULK AT MOST 1048576: true; the input reads as it did. -/
def trieOrderUptoRow : OpenClaim := { program := "ytiiielpcipdgjaa", sum := "bc2f8414d23de869bd8f7fce00023b42e02bd4186e4205d1bdad623cef47a7b3", func := "waypoint/waypointlaw05.TrieOrder", spec := "trieOrder", unfollowed := true, recurses := true, apart := false, narrowed := true }
def TrieOrderUptoSaid : Prop := trieOrderUptoRow.holds Try.pinned (OpenSpec.upto trieOrderSpec)

/-- 'waypointlaw05.TrieEarly', WHERE WHAT IT READS IS OF BULK AT MOST 1048576: true; the input reads as it did. -/
def trieEarlyUptoRow : OpenClaim := { program := "ytiiielpcipdgjaa", sum := "bc2f8414d23de869bd8f7fce00023b42e02bd4186e4205d1bdad623cef47a7b3", func := "waypoint/waypointlaw05.TrieEarly", spec := "trieEarly", unfollowed := true, recurses := true, apart := false, narrowed := true }
def TrieEarlyUptoSaid : Prop := trieEarlyUptoRow.holds Try.pinned (OpenSpec.upto trieEarlySpec)

/-- 'waypointlaw05.TrieNil', WHERE WHAT IT READS IS OF BULK AT MOST 1048576: true; the input reads as it did. -/
def trieNilUptoRow : OpenClaim := { program := "ytiiielpcipdgjaa", sum := "bc2f8414d23de869bd8f7fce00023b42e02bd4186e4205d1bdad623cef47a7b3", func := "waypoint/waypointlaw05.TrieNil", spec := "trieNil", unfollowed := true, recurses := true, apart := false, narrowed := true }
def TrieNilUptoSaid : Prop := trieNilUptoRow.holds Try.pinned (OpenSpec.upto trieNilSpec)

/-- 'waypointlaw06.CompressLookup', WHERE WHAT IT READS IS OF BULK AT MOST 1048576: true; the input reads as it did. -/
def compressLookupUptoRow : OpenClaim := { program := "ytiiielpcipdgjaa", sum := "bc2f8414d23de869bd8f7fce00023b42e02bd4186e4205d1bdad623cef47a7b3", func := "waypoint/waypointlaw06.CompressLookup", spec := "compressLookup", inPlace := ["maps.clone"], unfollowed := true, recurses := true, apart := false, narrowed := true }
def CompressLookupUptoSaid : Prop := compressLookupUptoRow.holds Try.pinned (OpenSpec.upto compressLookupSpec)

/-- 'waypointlaw06.CompressEqual', WHERE WHAT IT READS IS OF BULK AT MOST 1048576: true; the input reads as it did. -/
def compressEqualUptoRow : OpenClaim := { program := "ytiiielpcipdgjaa", sum := "bc2f8414d23de869bd8f7fce00023b42e02bd4186e4205d1bdad623cef47a7b3", func := "waypoint/waypointlaw06.CompressEqual", spec := "compressEqual", inPlace := ["maps.clone"], unfollowed := true, recurses := true, apart := false, narrowed := true }
def CompressEqualUptoSaid : Prop := compressEqualUptoRow.holds Try.pinned (OpenSpec.upto compressEqualSpec)

/-- 'waypointlaw06.CompressEffect', WHERE WHAT IT READS IS OF BULK AT MOST 1048576: true; the input reads as it did. -/
def compressEffectUptoRow : OpenClaim := { program := "ytiiielpcipdgjaa", sum := "bc2f8414d23de869bd8f7fce00023b42e02bd4186e4205d1bdad623cef47a7b3", func := "waypoint/waypointlaw06.CompressEffect", spec := "compressEffect", inPlace := ["maps.clone"], unfollowed := true, recurses := true, apart := false, narrowed := true }
def CompressEffectUptoSaid : Prop := compressEffectUptoRow.holds Try.pinned (OpenSpec.upto compressEffectSpec)

/-- 'waypointlaw06.CompressLeast', WHERE WHAT IT READS IS OF BULK AT MOST 1048576: true; the input reads as it did. -/
def compressLeastUptoRow : OpenClaim := { program := "ytiiielpcipdgjaa", sum := "bc2f8414d23de869bd8f7fce00023b42e02bd4186e4205d1bdad623cef47a7b3", func := "waypoint/waypointlaw06.CompressLeast", spec := "compressLeast", inPlace := ["maps.clone"], unfollowed := true, recurses := true, apart := false, narrowed := true }
def CompressLeastUptoSaid : Prop := compressLeastUptoRow.holds Try.pinned (OpenSpec.upto compressLeastSpec)

/-- 'waypointlaw06.CompressAgain', WHERE WHAT IT READS IS OF BULK AT MOST 1048576: true; the input reads as it did. -/
def compressAgainUptoRow : OpenClaim := { program := "ytiiielpcipdgjaa", sum := "bc2f8414d23de869bd8f7fce00023b42e02bd4186e4205d1bdad623cef47a7b3", func := "waypoint/waypointlaw06.CompressAgain", spec := "compressAgain", inPlace := ["maps.clone"], unfollowed := true, recurses := true, apart := false, narrowed := true }
def CompressAgainUptoSaid : Prop := compressAgainUptoRow.holds Try.pinned (OpenSpec.upto compressAgainSpec)

/-- 'waypointlaw06.CompressOrder', WHERE WHAT IT READS IS OF BULK AT MOST 1048576: true; the input reads as it did. -/
def compressOrderUptoRow : OpenClaim := { program := "ytiiielpcipdgjaa", sum := "bc2f8414d23de869bd8f7fce00023b42e02bd4186e4205d1bdad623cef47a7b3", func := "waypoint/waypointlaw06.CompressOrder", spec := "compressOrder", inPlace := ["maps.clone"], unfollowed := true, recurses := true, apart := false, narrowed := true }
def CompressOrderUptoSaid : Prop := compressOrderUptoRow.holds Try.pinned (OpenSpec.upto compressOrderSpec)

/-- 'waypointlaw06.CompressTrie', WHERE WHAT IT READS IS OF BULK AT MOST 1048576: true; the input reads as it did. -/
def compressTrieUptoRow : OpenClaim := { program := "ytiiielpcipdgjaa", sum := "bc2f8414d23de869bd8f7fce00023b42e02bd4186e4205d1bdad623cef47a7b3", func := "waypoint/waypointlaw06.CompressTrie", spec := "compressTrie", inPlace := ["maps.clone"], unfollowed := true, recurses := true, apart := false, narrowed := true }
def CompressTrieUptoSaid : Prop := compressTrieUptoRow.holds Try.pinned (OpenSpec.upto compressTrieSpec)

end Rows
end Go.Proofs.Ytiiielpcipdgjaa
