/-
  DERIVED. GIVEN WITH THE SEED: THE CARDS: each row of YtkablmjkffdloaaGreatDoorRows.lean that lists a variable, with what it lists TIED to the program's text (the seventh form; the later family's looks); each row that meets fmt, with fmt's text TOLD by the authors' own Lean function (tested against real Go, not proved from fmt's source: count such statements apart). THE CARD IS WHAT COUNTS. Prove the row's statement (the work); the ties are given (YtkablmjkffdloaaGreatDoorTie.lean); close each card by the builder's one call (the guide's Derived/Test/ToyasCard.lean, 'card_holds'). Laid BY PROGRAM, IN A SANDBOX (cutbox-door.mjs). By AI agents, Wed Nov 11 2026. No macro, syntax, notation, axiom, sorry.
-/
import Derived.Test.YtkablmjkffdloaaGreatDoorRows
import GoSem.ClaimSeven
namespace Go.Proofs.YtkablmjkffdloaaGreatDoor
namespace Rows

/-- THE TIED CARD OF 'mewslaw6.ArkBack'. -/
def arkBackCard : Claim7 := { stood := { row := arkBackRow, standIns := [], harness := (true, "9a3a9925f42514b74290272383cf3da43b8cb73fafb23d37c17e39db82003d43"), looks := true }, kinds := [], alts := [], laidByText := true, laidKinds := [.data, .pinned, .pinned], laidTests := true, laidLooks := .later }
def ArkBackCardSaid : Prop := Claim7.holds Tryz.pinned (.plain (OpenSpec.ofChange arkBackSpec)) arkBackCard

/-- THE TIED CARD OF 'mewslaw6.ArkSums'. -/
def arkSumsCard : Claim7 := { stood := { row := arkSumsRow, standIns := [], harness := (true, "9a3a9925f42514b74290272383cf3da43b8cb73fafb23d37c17e39db82003d43"), looks := true }, kinds := [], alts := [], laidByText := true, laidKinds := [.data, .pinned, .pinned], laidTests := true, laidLooks := .later }
def ArkSumsCardSaid : Prop := Claim7.holds Tryz.pinned (.plain (OpenSpec.ofChange arkSumsSpec)) arkSumsCard

/-- THE TIED CARD OF 'mewslaw6.ArkPacks'. -/
def arkPacksCard : Claim7 := { stood := { row := arkPacksRow, standIns := [], harness := (true, "9a3a9925f42514b74290272383cf3da43b8cb73fafb23d37c17e39db82003d43"), looks := true }, kinds := [], alts := [], laidByText := true, laidKinds := [.data, .pinned, .pinned], laidTests := true, laidLooks := .later }
def ArkPacksCardSaid : Prop := Claim7.holds Tryz.pinned (.plain (OpenSpec.ofChange arkPacksSpec)) arkPacksCard

/-- THE TIED CARD OF 'mewslaw6.ArkUnpacks'. -/
def arkUnpacksCard : Claim7 := { stood := { row := arkUnpacksRow, standIns := [], harness := (true, "9a3a9925f42514b74290272383cf3da43b8cb73fafb23d37c17e39db82003d43"), looks := true }, kinds := [], alts := [], laidByText := true, laidKinds := [.data, .pinned, .pinned], laidTests := true, laidLooks := .later }
def ArkUnpacksCardSaid : Prop := Claim7.holds Tryz.pinned (.plain (OpenSpec.ofChange arkUnpacksSpec)) arkUnpacksCard

/-- THE TIED CARD OF 'mewslaw6.ArkLong'. -/
def arkLongCard : Claim7 := { stood := { row := arkLongRow, standIns := [], harness := (true, "9a3a9925f42514b74290272383cf3da43b8cb73fafb23d37c17e39db82003d43"), looks := true }, kinds := [], alts := [], laidByText := true, laidKinds := [.data, .pinned, .pinned], laidTests := true, laidLooks := .later }
def ArkLongCardSaid : Prop := Claim7.holds Tryz.pinned (.plain (OpenSpec.ofChange arkLongSpec)) arkLongCard

/-- THE TIED CARD OF 'mewslaw6.ArkOneForm'. -/
def arkOneFormCard : Claim7 := { stood := { row := arkOneFormRow, standIns := [], harness := (true, "9a3a9925f42514b74290272383cf3da43b8cb73fafb23d37c17e39db82003d43"), looks := true }, kinds := [], alts := [], laidByText := true, laidKinds := [.data, .pinned, .pinned], laidTests := true, laidLooks := .later }
def ArkOneFormCardSaid : Prop := Claim7.holds Tryz.pinned (.plain (OpenSpec.ofChange arkOneFormSpec)) arkOneFormCard

/-- THE TIED CARD OF 'mewslaw6.ArkTells'. -/
def arkTellsCard : Claim7 := { stood := { row := arkTellsRow, standIns := [], harness := (true, "9a3a9925f42514b74290272383cf3da43b8cb73fafb23d37c17e39db82003d43"), looks := true }, kinds := [], alts := [], laidByText := true, laidKinds := [.data, .pinned, .pinned], laidTests := true, laidLooks := .later }
def ArkTellsCardSaid : Prop := Claim7.holds Tryz.pinned (.plain (OpenSpec.ofChange arkTellsSpec)) arkTellsCard

/-- THE TIED CARD OF 'mewslaw8.NoteBack'. -/
def noteBackCard : Claim7 := { stood := { row := noteBackRow, standIns := [], harness := (true, "9a3a9925f42514b74290272383cf3da43b8cb73fafb23d37c17e39db82003d43"), looks := true }, kinds := [], alts := [], laidByText := true, laidKinds := [.data, .data, .data, .data, .pinned], laidTests := true, laidLooks := .later }
def NoteBackCardSaid : Prop := Claim7.holds Tryz.pinned (.plain (OpenSpec.ofChange noteBackSpec)) noteBackCard

/-- THE TIED CARD OF 'mewslaw8.NoteSigns'. -/
def noteSignsCard : Claim7 := { stood := { row := noteSignsRow, standIns := [], harness := (true, "9a3a9925f42514b74290272383cf3da43b8cb73fafb23d37c17e39db82003d43"), looks := true }, kinds := [], alts := [], laidByText := true, laidKinds := [.data, .data, .data, .data, .pinned], laidTests := true, laidLooks := .later }
def NoteSignsCardSaid : Prop := Claim7.holds Tryz.pinned (.plain (OpenSpec.ofChange noteSignsSpec)) noteSignsCard

/-- THE TIED CARD OF 'mewslaw8.NoteOpens'. -/
def noteOpensCard : Claim7 := { stood := { row := noteOpensRow, standIns := [], harness := (true, "9a3a9925f42514b74290272383cf3da43b8cb73fafb23d37c17e39db82003d43"), looks := true }, kinds := [], alts := [], laidByText := true, laidKinds := [.data, .data, .data, .data, .pinned], laidTests := true, laidLooks := .later }
def NoteOpensCardSaid : Prop := Claim7.holds Tryz.pinned (.plain (OpenSpec.ofChange noteOpensSpec)) noteOpensCard

/-- THE TIED CARD OF 'mewslaw8.NoteHeads'. -/
def noteHeadsCard : Claim7 := { stood := { row := noteHeadsRow, standIns := [], harness := (true, "9a3a9925f42514b74290272383cf3da43b8cb73fafb23d37c17e39db82003d43"), looks := true }, kinds := [], alts := [], laidByText := true, laidKinds := [.data, .data, .data, .data, .sentinel, .sentinel, .pinned], laidTests := true, laidLooks := .later }
def NoteHeadsCardSaid : Prop := Claim7.holds Tryz.pinned (.plain (OpenSpec.ofChange noteHeadsSpec)) noteHeadsCard

/-- THE TIED CARD OF 'mewslaw8.NoteGood'. -/
def noteGoodCard : Claim7 := { stood := { row := noteGoodRow, standIns := [], harness := (true, "9a3a9925f42514b74290272383cf3da43b8cb73fafb23d37c17e39db82003d43"), looks := true }, kinds := [], alts := [], laidByText := true, laidKinds := [.data, .data, .data, .data, .pinned], laidTests := true, laidLooks := .later }
def NoteGoodCardSaid : Prop := Claim7.holds Tryz.pinned (.plain (OpenSpec.ofChange noteGoodSpec)) noteGoodCard

/-- THE TIED CARD OF 'mewslaw8.NoteHeadsBack'. -/
def noteHeadsBackCard : Claim7 := { stood := { row := noteHeadsBackRow, standIns := [], harness := (true, "9a3a9925f42514b74290272383cf3da43b8cb73fafb23d37c17e39db82003d43"), looks := true }, kinds := [], alts := [], laidByText := true, laidKinds := [.data, .data, .data, .data, .sentinel, .sentinel, .pinned], laidTests := true, laidLooks := .later }
def NoteHeadsBackCardSaid : Prop := Claim7.holds Tryz.pinned (.plain (OpenSpec.ofChange noteHeadsBackSpec)) noteHeadsBackCard

/-- THE SECOND FORM's CARD OF 'mewslaw6.ArkBack'. -/
def arkBackUptoCard : Claim7 := { stood := { row := arkBackUptoRow, standIns := [], harness := (true, "9a3a9925f42514b74290272383cf3da43b8cb73fafb23d37c17e39db82003d43"), looks := true }, kinds := [], alts := [], laidByText := true, laidKinds := [.data, .pinned, .pinned], laidTests := true, laidLooks := .later }
def ArkBackUptoCardSaid : Prop := Claim7.holds Tryz.pinned (.plain (OpenSpec.upto arkBackSpec)) arkBackUptoCard

/-- THE SECOND FORM's CARD OF 'mewslaw6.ArkSums'. -/
def arkSumsUptoCard : Claim7 := { stood := { row := arkSumsUptoRow, standIns := [], harness := (true, "9a3a9925f42514b74290272383cf3da43b8cb73fafb23d37c17e39db82003d43"), looks := true }, kinds := [], alts := [], laidByText := true, laidKinds := [.data, .pinned, .pinned], laidTests := true, laidLooks := .later }
def ArkSumsUptoCardSaid : Prop := Claim7.holds Tryz.pinned (.plain (OpenSpec.upto arkSumsSpec)) arkSumsUptoCard

/-- THE SECOND FORM's CARD OF 'mewslaw6.ArkPacks'. -/
def arkPacksUptoCard : Claim7 := { stood := { row := arkPacksUptoRow, standIns := [], harness := (true, "9a3a9925f42514b74290272383cf3da43b8cb73fafb23d37c17e39db82003d43"), looks := true }, kinds := [], alts := [], laidByText := true, laidKinds := [.data, .pinned, .pinned], laidTests := true, laidLooks := .later }
def ArkPacksUptoCardSaid : Prop := Claim7.holds Tryz.pinned (.plain (OpenSpec.upto arkPacksSpec)) arkPacksUptoCard

/-- THE SECOND FORM's CARD OF 'mewslaw6.ArkUnpacks'. -/
def arkUnpacksUptoCard : Claim7 := { stood := { row := arkUnpacksUptoRow, standIns := [], harness := (true, "9a3a9925f42514b74290272383cf3da43b8cb73fafb23d37c17e39db82003d43"), looks := true }, kinds := [], alts := [], laidByText := true, laidKinds := [.data, .pinned, .pinned], laidTests := true, laidLooks := .later }
def ArkUnpacksUptoCardSaid : Prop := Claim7.holds Tryz.pinned (.plain (OpenSpec.upto arkUnpacksSpec)) arkUnpacksUptoCard

/-- THE SECOND FORM's CARD OF 'mewslaw6.ArkLong'. -/
def arkLongUptoCard : Claim7 := { stood := { row := arkLongUptoRow, standIns := [], harness := (true, "9a3a9925f42514b74290272383cf3da43b8cb73fafb23d37c17e39db82003d43"), looks := true }, kinds := [], alts := [], laidByText := true, laidKinds := [.data, .pinned, .pinned], laidTests := true, laidLooks := .later }
def ArkLongUptoCardSaid : Prop := Claim7.holds Tryz.pinned (.plain (OpenSpec.upto arkLongSpec)) arkLongUptoCard

/-- THE SECOND FORM's CARD OF 'mewslaw6.ArkOneForm'. -/
def arkOneFormUptoCard : Claim7 := { stood := { row := arkOneFormUptoRow, standIns := [], harness := (true, "9a3a9925f42514b74290272383cf3da43b8cb73fafb23d37c17e39db82003d43"), looks := true }, kinds := [], alts := [], laidByText := true, laidKinds := [.data, .pinned, .pinned], laidTests := true, laidLooks := .later }
def ArkOneFormUptoCardSaid : Prop := Claim7.holds Tryz.pinned (.plain (OpenSpec.upto arkOneFormSpec)) arkOneFormUptoCard

/-- THE SECOND FORM's CARD OF 'mewslaw6.ArkTells'. -/
def arkTellsUptoCard : Claim7 := { stood := { row := arkTellsUptoRow, standIns := [], harness := (true, "9a3a9925f42514b74290272383cf3da43b8cb73fafb23d37c17e39db82003d43"), looks := true }, kinds := [], alts := [], laidByText := true, laidKinds := [.data, .pinned, .pinned], laidTests := true, laidLooks := .later }
def ArkTellsUptoCardSaid : Prop := Claim7.holds Tryz.pinned (.plain (OpenSpec.upto arkTellsSpec)) arkTellsUptoCard

/-- THE SECOND FORM's CARD OF 'mewslaw8.NoteBack'. -/
def noteBackUptoCard : Claim7 := { stood := { row := noteBackUptoRow, standIns := [], harness := (true, "9a3a9925f42514b74290272383cf3da43b8cb73fafb23d37c17e39db82003d43"), looks := true }, kinds := [], alts := [], laidByText := true, laidKinds := [.data, .data, .data, .data, .pinned], laidTests := true, laidLooks := .later }
def NoteBackUptoCardSaid : Prop := Claim7.holds Tryz.pinned (.plain (OpenSpec.upto noteBackSpec)) noteBackUptoCard

/-- THE SECOND FORM's CARD OF 'mewslaw8.NoteSigns'. -/
def noteSignsUptoCard : Claim7 := { stood := { row := noteSignsUptoRow, standIns := [], harness := (true, "9a3a9925f42514b74290272383cf3da43b8cb73fafb23d37c17e39db82003d43"), looks := true }, kinds := [], alts := [], laidByText := true, laidKinds := [.data, .data, .data, .data, .pinned], laidTests := true, laidLooks := .later }
def NoteSignsUptoCardSaid : Prop := Claim7.holds Tryz.pinned (.plain (OpenSpec.upto noteSignsSpec)) noteSignsUptoCard

/-- THE SECOND FORM's CARD OF 'mewslaw8.NoteOpens'. -/
def noteOpensUptoCard : Claim7 := { stood := { row := noteOpensUptoRow, standIns := [], harness := (true, "9a3a9925f42514b74290272383cf3da43b8cb73fafb23d37c17e39db82003d43"), looks := true }, kinds := [], alts := [], laidByText := true, laidKinds := [.data, .data, .data, .data, .pinned], laidTests := true, laidLooks := .later }
def NoteOpensUptoCardSaid : Prop := Claim7.holds Tryz.pinned (.plain (OpenSpec.upto noteOpensSpec)) noteOpensUptoCard

/-- THE SECOND FORM's CARD OF 'mewslaw8.NoteHeads'. -/
def noteHeadsUptoCard : Claim7 := { stood := { row := noteHeadsUptoRow, standIns := [], harness := (true, "9a3a9925f42514b74290272383cf3da43b8cb73fafb23d37c17e39db82003d43"), looks := true }, kinds := [], alts := [], laidByText := true, laidKinds := [.data, .data, .data, .data, .sentinel, .sentinel, .pinned], laidTests := true, laidLooks := .later }
def NoteHeadsUptoCardSaid : Prop := Claim7.holds Tryz.pinned (.plain (OpenSpec.upto noteHeadsSpec)) noteHeadsUptoCard

/-- THE SECOND FORM's CARD OF 'mewslaw8.NoteGood'. -/
def noteGoodUptoCard : Claim7 := { stood := { row := noteGoodUptoRow, standIns := [], harness := (true, "9a3a9925f42514b74290272383cf3da43b8cb73fafb23d37c17e39db82003d43"), looks := true }, kinds := [], alts := [], laidByText := true, laidKinds := [.data, .data, .data, .data, .pinned], laidTests := true, laidLooks := .later }
def NoteGoodUptoCardSaid : Prop := Claim7.holds Tryz.pinned (.plain (OpenSpec.upto noteGoodSpec)) noteGoodUptoCard

/-- THE SECOND FORM's CARD OF 'mewslaw8.NoteHeadsBack'. -/
def noteHeadsBackUptoCard : Claim7 := { stood := { row := noteHeadsBackUptoRow, standIns := [], harness := (true, "9a3a9925f42514b74290272383cf3da43b8cb73fafb23d37c17e39db82003d43"), looks := true }, kinds := [], alts := [], laidByText := true, laidKinds := [.data, .data, .data, .data, .sentinel, .sentinel, .pinned], laidTests := true, laidLooks := .later }
def NoteHeadsBackUptoCardSaid : Prop := Claim7.holds Tryz.pinned (.plain (OpenSpec.upto noteHeadsBackSpec)) noteHeadsBackUptoCard
end Rows
end Go.Proofs.YtkablmjkffdloaaGreatDoor
