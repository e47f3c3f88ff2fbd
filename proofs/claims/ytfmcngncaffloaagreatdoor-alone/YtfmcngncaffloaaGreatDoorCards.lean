/-
  DERIVED. GIVEN WITH THE SEED: THE CARDS: each row of YtfmcngncaffloaaGreatDoorRows.lean that lists a variable, with what it lists TIED to the program's text (the seventh form; the later family's looks); each row that meets fmt, with fmt's text TOLD by the authors' own Lean function (tested against real Go, not proved from fmt's source: count such statements apart). THE CARD IS WHAT COUNTS. Prove the row's statement (the work); the ties are given (YtfmcngncaffloaaGreatDoorTie.lean); close each card by the builder's one call (the guide's Derived/Test/ToyasCard.lean, 'card_holds'). Laid BY PROGRAM, IN A SANDBOX (cutbox-door.mjs). By AI agents, Wed Nov 11 2026. No macro, syntax, notation, axiom, sorry.
-/
import Derived.Test.YtfmcngncaffloaaGreatDoorRows
import GoSem.ClaimSeven
namespace Go.Proofs.YtfmcngncaffloaaGreatDoor
namespace Rows

/-- THE TIED CARD OF 'weavelaw.Alone'. -/
def aloneCard : Claim7 := { stood := { row := aloneRow, standIns := [], harness := (true, "11fe2b6ba9de5dc5e735bf479cab7d6d9173386e1ad2c5b83ddf2507bc2d139e"), looks := true }, kinds := [], alts := [], laidByText := true, laidKinds := [.data, .data, .data, .sentinel, .data, .sentinel, .sentinel, .sentinel, .sentinel, .sentinel, .sentinel], laidTests := true, laidLooks := .later }
def AloneCardSaid : Prop := Claim7.holds Tryz.pinned (.plain (OpenSpec.ofChange aloneSpec)) aloneCard

/-- THE TIED CARD OF 'weavekeep.Own'. -/
def ownCard : Claim7 := { stood := { row := ownRow, standIns := [], harness := (true, "11fe2b6ba9de5dc5e735bf479cab7d6d9173386e1ad2c5b83ddf2507bc2d139e"), looks := true }, kinds := [], alts := [], laidByText := true, laidKinds := [.data, .data, .data, .sentinel, .data], laidTests := true, laidLooks := .later }
def OwnCardSaid : Prop := Claim7.holds Tryz.pinned (.plain (OpenSpec.ofChange ownSpec)) ownCard

/-- THE TIED CARD OF 'weavelaw.Spread'. -/
def spreadCard : Claim7 := { stood := { row := spreadRow, standIns := [], harness := (true, "11fe2b6ba9de5dc5e735bf479cab7d6d9173386e1ad2c5b83ddf2507bc2d139e"), looks := true }, kinds := [], alts := [], laidByText := true, laidKinds := [.data, .data, .data, .sentinel, .data, .sentinel, .sentinel, .sentinel, .sentinel, .sentinel, .sentinel], laidTests := true, laidLooks := .later }
def SpreadCardSaid : Prop := Claim7.holds Tryz.pinned (.plain (OpenSpec.ofChange spreadSpec)) spreadCard

/-- THE TIED CARD OF 'weavekeep.Merged'. -/
def mergedCard : Claim7 := { stood := { row := mergedRow, standIns := [], harness := (true, "11fe2b6ba9de5dc5e735bf479cab7d6d9173386e1ad2c5b83ddf2507bc2d139e"), looks := true }, kinds := [], alts := [], laidByText := true, laidKinds := [.data, .data, .data, .sentinel, .data, .sentinel, .sentinel, .sentinel, .sentinel, .sentinel, .sentinel], laidTests := true, laidLooks := .later }
def MergedCardSaid : Prop := Claim7.holds Tryz.pinned (.plain (OpenSpec.ofChange mergedSpec)) mergedCard

/-- THE TIED CARD OF 'weavekeep.Causal'. -/
def causalCard : Claim7 := { stood := { row := causalRow, standIns := [], harness := (true, "11fe2b6ba9de5dc5e735bf479cab7d6d9173386e1ad2c5b83ddf2507bc2d139e"), looks := true }, kinds := [], alts := [], laidByText := true, laidKinds := [.data, .data, .data, .sentinel, .data, .sentinel, .sentinel, .sentinel, .sentinel, .sentinel, .sentinel], laidTests := true, laidLooks := .later }
def CausalCardSaid : Prop := Claim7.holds Tryz.pinned (.plain (OpenSpec.ofChange causalSpec)) causalCard

/-- THE TIED CARD OF 'weavelaw.Works'. -/
def worksCard : Claim7 := { stood := { row := worksRow, standIns := [], harness := (true, "11fe2b6ba9de5dc5e735bf479cab7d6d9173386e1ad2c5b83ddf2507bc2d139e"), looks := true }, kinds := [], alts := [], laidByText := true, laidKinds := [.data, .data, .data, .sentinel, .data, .sentinel, .sentinel, .sentinel, .sentinel, .sentinel, .sentinel], laidTests := true, laidLooks := .later }
def WorksCardSaid : Prop := Claim7.holds Tryz.pinned (.plain (OpenSpec.ofChange worksSpec)) worksCard

/-- THE TIED CARD OF 'weavelaw.Reads'. -/
def readsCard : Claim7 := { stood := { row := readsRow, standIns := [], harness := (true, "11fe2b6ba9de5dc5e735bf479cab7d6d9173386e1ad2c5b83ddf2507bc2d139e"), looks := true }, kinds := [], alts := [], laidByText := true, laidKinds := [.data, .data, .data, .sentinel, .data, .sentinel, .sentinel, .sentinel, .sentinel, .sentinel, .sentinel], laidTests := true, laidLooks := .later }
def ReadsCardSaid : Prop := Claim7.holds Tryz.pinned (.plain (OpenSpec.ofChange readsSpec)) readsCard

/-- THE TIED CARD OF 'weavelaw.Clocks'. -/
def clocksCard : Claim7 := { stood := { row := clocksRow, standIns := [], harness := (true, "11fe2b6ba9de5dc5e735bf479cab7d6d9173386e1ad2c5b83ddf2507bc2d139e"), looks := true }, kinds := [], alts := [], laidByText := true, laidKinds := [.data, .data, .data, .sentinel, .data, .sentinel, .sentinel, .sentinel, .sentinel, .sentinel, .sentinel], laidTests := true, laidLooks := .later }
def ClocksCardSaid : Prop := Claim7.holds Tryz.pinned (.plain (OpenSpec.ofChange clocksSpec)) clocksCard

/-- THE TIED CARD OF 'weavelaw.Ways'. -/
def waysCard : Claim7 := { stood := { row := waysRow, standIns := [], harness := (true, "11fe2b6ba9de5dc5e735bf479cab7d6d9173386e1ad2c5b83ddf2507bc2d139e"), looks := true }, kinds := [], alts := [], laidByText := true, laidKinds := [.data, .data, .data, .sentinel, .data, .sentinel, .sentinel, .sentinel, .sentinel, .sentinel, .sentinel], laidTests := true, laidLooks := .later }
def WaysCardSaid : Prop := Claim7.holds Tryz.pinned (.plain (OpenSpec.ofChange waysSpec)) waysCard

/-- THE SECOND FORM's CARD OF 'weavelaw.Alone'. -/
def aloneUptoCard : Claim7 := { stood := { row := aloneUptoRow, standIns := [], harness := (true, "11fe2b6ba9de5dc5e735bf479cab7d6d9173386e1ad2c5b83ddf2507bc2d139e"), looks := true }, kinds := [], alts := [], laidByText := true, laidKinds := [.data, .data, .data, .sentinel, .data, .sentinel, .sentinel, .sentinel, .sentinel, .sentinel, .sentinel], laidTests := true, laidLooks := .later }
def AloneUptoCardSaid : Prop := Claim7.holds Tryz.pinned (.plain (OpenSpec.upto aloneSpec)) aloneUptoCard

/-- THE SECOND FORM's CARD OF 'weavekeep.Own'. -/
def ownUptoCard : Claim7 := { stood := { row := ownUptoRow, standIns := [], harness := (true, "11fe2b6ba9de5dc5e735bf479cab7d6d9173386e1ad2c5b83ddf2507bc2d139e"), looks := true }, kinds := [], alts := [], laidByText := true, laidKinds := [.data, .data, .data, .sentinel, .data], laidTests := true, laidLooks := .later }
def OwnUptoCardSaid : Prop := Claim7.holds Tryz.pinned (.plain (OpenSpec.upto ownSpec)) ownUptoCard

/-- THE SECOND FORM's CARD OF 'weavelaw.Spread'. -/
def spreadUptoCard : Claim7 := { stood := { row := spreadUptoRow, standIns := [], harness := (true, "11fe2b6ba9de5dc5e735bf479cab7d6d9173386e1ad2c5b83ddf2507bc2d139e"), looks := true }, kinds := [], alts := [], laidByText := true, laidKinds := [.data, .data, .data, .sentinel, .data, .sentinel, .sentinel, .sentinel, .sentinel, .sentinel, .sentinel], laidTests := true, laidLooks := .later }
def SpreadUptoCardSaid : Prop := Claim7.holds Tryz.pinned (.plain (OpenSpec.upto spreadSpec)) spreadUptoCard

/-- THE SECOND FORM's CARD OF 'weavekeep.Merged'. -/
def mergedUptoCard : Claim7 := { stood := { row := mergedUptoRow, standIns := [], harness := (true, "11fe2b6ba9de5dc5e735bf479cab7d6d9173386e1ad2c5b83ddf2507bc2d139e"), looks := true }, kinds := [], alts := [], laidByText := true, laidKinds := [.data, .data, .data, .sentinel, .data, .sentinel, .sentinel, .sentinel, .sentinel, .sentinel, .sentinel], laidTests := true, laidLooks := .later }
def MergedUptoCardSaid : Prop := Claim7.holds Tryz.pinned (.plain (OpenSpec.upto mergedSpec)) mergedUptoCard

/-- THE SECOND FORM's CARD OF 'weavekeep.Causal'. -/
def causalUptoCard : Claim7 := { stood := { row := causalUptoRow, standIns := [], harness := (true, "11fe2b6ba9de5dc5e735bf479cab7d6d9173386e1ad2c5b83ddf2507bc2d139e"), looks := true }, kinds := [], alts := [], laidByText := true, laidKinds := [.data, .data, .data, .sentinel, .data, .sentinel, .sentinel, .sentinel, .sentinel, .sentinel, .sentinel], laidTests := true, laidLooks := .later }
def CausalUptoCardSaid : Prop := Claim7.holds Tryz.pinned (.plain (OpenSpec.upto causalSpec)) causalUptoCard

/-- THE SECOND FORM's CARD OF 'weavelaw.Works'. -/
def worksUptoCard : Claim7 := { stood := { row := worksUptoRow, standIns := [], harness := (true, "11fe2b6ba9de5dc5e735bf479cab7d6d9173386e1ad2c5b83ddf2507bc2d139e"), looks := true }, kinds := [], alts := [], laidByText := true, laidKinds := [.data, .data, .data, .sentinel, .data, .sentinel, .sentinel, .sentinel, .sentinel, .sentinel, .sentinel], laidTests := true, laidLooks := .later }
def WorksUptoCardSaid : Prop := Claim7.holds Tryz.pinned (.plain (OpenSpec.upto worksSpec)) worksUptoCard

/-- THE SECOND FORM's CARD OF 'weavelaw.Reads'. -/
def readsUptoCard : Claim7 := { stood := { row := readsUptoRow, standIns := [], harness := (true, "11fe2b6ba9de5dc5e735bf479cab7d6d9173386e1ad2c5b83ddf2507bc2d139e"), looks := true }, kinds := [], alts := [], laidByText := true, laidKinds := [.data, .data, .data, .sentinel, .data, .sentinel, .sentinel, .sentinel, .sentinel, .sentinel, .sentinel], laidTests := true, laidLooks := .later }
def ReadsUptoCardSaid : Prop := Claim7.holds Tryz.pinned (.plain (OpenSpec.upto readsSpec)) readsUptoCard

/-- THE SECOND FORM's CARD OF 'weavelaw.Clocks'. -/
def clocksUptoCard : Claim7 := { stood := { row := clocksUptoRow, standIns := [], harness := (true, "11fe2b6ba9de5dc5e735bf479cab7d6d9173386e1ad2c5b83ddf2507bc2d139e"), looks := true }, kinds := [], alts := [], laidByText := true, laidKinds := [.data, .data, .data, .sentinel, .data, .sentinel, .sentinel, .sentinel, .sentinel, .sentinel, .sentinel], laidTests := true, laidLooks := .later }
def ClocksUptoCardSaid : Prop := Claim7.holds Tryz.pinned (.plain (OpenSpec.upto clocksSpec)) clocksUptoCard

/-- THE SECOND FORM's CARD OF 'weavelaw.Ways'. -/
def waysUptoCard : Claim7 := { stood := { row := waysUptoRow, standIns := [], harness := (true, "11fe2b6ba9de5dc5e735bf479cab7d6d9173386e1ad2c5b83ddf2507bc2d139e"), looks := true }, kinds := [], alts := [], laidByText := true, laidKinds := [.data, .data, .data, .sentinel, .data, .sentinel, .sentinel, .sentinel, .sentinel, .sentinel, .sentinel], laidTests := true, laidLooks := .later }
def WaysUptoCardSaid : Prop := Claim7.holds Tryz.pinned (.plain (OpenSpec.upto waysSpec)) waysUptoCard
end Rows
end Go.Proofs.YtfmcngncaffloaaGreatDoor
