/-
  DERIVED. GIVEN WITH THE SEED: THE CARDS: each row of YtgpgoadalnojdaaGreatDoorRows.lean that lists a variable, with what it lists TIED to the program's text (the seventh form; the later family's looks); each row that meets fmt, with fmt's text TOLD by the authors' own Lean function (tested against real Go, not proved from fmt's source: count such statements apart). THE CARD IS WHAT COUNTS. Prove the row's statement (the work); the ties are given (YtgpgoadalnojdaaGreatDoorTie.lean); close each card by the builder's one call (the guide's Derived/Test/ToyasCard.lean, 'card_holds'). Laid BY PROGRAM, IN A SANDBOX (cutbox-door.mjs). By AI agents, Wed Nov 11 2026. No macro, syntax, notation, axiom, sorry.
-/
import Derived.Test.YtgpgoadalnojdaaGreatDoorRows
import GoSem.ClaimSeven
namespace Go.Proofs.YtgpgoadalnojdaaGreatDoor
namespace Rows

/-- THE TIED CARD OF 'waypointlaw04.PrefixAggregate'. -/
def prefixAggregateCard : Claim7 := { stood := { row := prefixAggregateRow, standIns := [], harness := (true, "d44a728853a2306ee70d5e2e6f653c2ae3f2582de54d3b05b37cadee79841ebd"), looks := true }, kinds := [], alts := [], laidByText := true, laidKinds := [.data, .data, .data, .data, .sentinel, .sentinel, .pinned], laidTests := true, laidLooks := .later }
def PrefixAggregateCardSaid : Prop := Claim7.holds Tryz.pinned (.plain (OpenSpec.ofChange prefixAggregateSpec)) prefixAggregateCard

/-- THE TIED CARD OF 'waypointlaw04.PrefixSame'. -/
def prefixSameCard : Claim7 := { stood := { row := prefixSameRow, standIns := [], harness := (true, "d44a728853a2306ee70d5e2e6f653c2ae3f2582de54d3b05b37cadee79841ebd"), looks := true }, kinds := [], alts := [], laidByText := true, laidKinds := [.data, .data, .data, .data, .sentinel, .sentinel, .pinned], laidTests := true, laidLooks := .later }
def PrefixSameCardSaid : Prop := Claim7.holds Tryz.pinned (.plain (OpenSpec.ofChange prefixSameSpec)) prefixSameCard

/-- THE TIED CARD OF 'waypointlaw04.PrefixOrder'. -/
def prefixOrderCard : Claim7 := { stood := { row := prefixOrderRow, standIns := [], harness := (true, "d44a728853a2306ee70d5e2e6f653c2ae3f2582de54d3b05b37cadee79841ebd"), looks := true }, kinds := [], alts := [], laidByText := true, laidKinds := [.data, .data, .data, .data, .sentinel, .sentinel, .pinned], laidTests := true, laidLooks := .later }
def PrefixOrderCardSaid : Prop := Claim7.holds Tryz.pinned (.plain (OpenSpec.ofChange prefixOrderSpec)) prefixOrderCard

/-- THE SECOND FORM's CARD OF 'waypointlaw04.PrefixAggregate'. -/
def prefixAggregateUptoCard : Claim7 := { stood := { row := prefixAggregateUptoRow, standIns := [], harness := (true, "d44a728853a2306ee70d5e2e6f653c2ae3f2582de54d3b05b37cadee79841ebd"), looks := true }, kinds := [], alts := [], laidByText := true, laidKinds := [.data, .data, .data, .data, .sentinel, .sentinel, .pinned], laidTests := true, laidLooks := .later }
def PrefixAggregateUptoCardSaid : Prop := Claim7.holds Tryz.pinned (.plain (OpenSpec.upto prefixAggregateSpec)) prefixAggregateUptoCard

/-- THE SECOND FORM's CARD OF 'waypointlaw04.PrefixSame'. -/
def prefixSameUptoCard : Claim7 := { stood := { row := prefixSameUptoRow, standIns := [], harness := (true, "d44a728853a2306ee70d5e2e6f653c2ae3f2582de54d3b05b37cadee79841ebd"), looks := true }, kinds := [], alts := [], laidByText := true, laidKinds := [.data, .data, .data, .data, .sentinel, .sentinel, .pinned], laidTests := true, laidLooks := .later }
def PrefixSameUptoCardSaid : Prop := Claim7.holds Tryz.pinned (.plain (OpenSpec.upto prefixSameSpec)) prefixSameUptoCard

/-- THE SECOND FORM's CARD OF 'waypointlaw04.PrefixOrder'. -/
def prefixOrderUptoCard : Claim7 := { stood := { row := prefixOrderUptoRow, standIns := [], harness := (true, "d44a728853a2306ee70d5e2e6f653c2ae3f2582de54d3b05b37cadee79841ebd"), looks := true }, kinds := [], alts := [], laidByText := true, laidKinds := [.data, .data, .data, .data, .sentinel, .sentinel, .pinned], laidTests := true, laidLooks := .later }
def PrefixOrderUptoCardSaid : Prop := Claim7.holds Tryz.pinned (.plain (OpenSpec.upto prefixOrderSpec)) prefixOrderUptoCard
end Rows
end Go.Proofs.YtgpgoadalnojdaaGreatDoor
