/-
  DERIVED. GIVEN WITH THE SEED: THE CARDS: each row of YtnioignblbmflaaDoorRows.lean that lists a variable, with what it lists TIED to the program's text (the seventh form; the later family's looks); each row that meets fmt, with fmt's text TOLD by the authors' own Lean function (tested against real Go, not proved from fmt's source: count such statements apart). THE CARD IS WHAT COUNTS. Prove the row's statement (the work); the ties are given (YtnioignblbmflaaDoorTie.lean); close each card by the builder's one call (the guide's Derived/Test/ToyasCard.lean, 'card_holds'). Laid BY PROGRAM, IN A SANDBOX (cutbox-door.mjs). By AI agents, Wed Nov 11 2026. No macro, syntax, notation, axiom, sorry.
-/
import Derived.Test.YtnioignblbmflaaDoorRows
import GoSem.ClaimSeven
namespace Go.Proofs.YtnioignblbmflaaDoor
namespace Rows

/-- THE TIED CARD OF 'tartanlaw11.KeysUnique'. -/
def keysUniqueCard : Claim7 := { stood := { row := keysUniqueRow, standIns := [], harness := (true, "3f08d606d1d8f1388602b434211a2858f9be794cf279b299e166a8634f695be4"), looks := false }, kinds := [], alts := [], laidByText := true, laidKinds := [.data, .data, .data], laidTests := true, laidLooks := .later }
def KeysUniqueCardSaid : Prop := Claim7.holds Tryd.pinned (.plain (OpenSpec.ofChange keysUniqueSpec)) keysUniqueCard

/-- THE TIED CARD OF 'tartanlaw11.KeysInfers'. -/
def keysInfersCard : Claim7 := { stood := { row := keysInfersRow, standIns := [], harness := (true, "3f08d606d1d8f1388602b434211a2858f9be794cf279b299e166a8634f695be4"), looks := false }, kinds := [], alts := [], laidByText := true, laidKinds := [.data, .data, .data], laidTests := true, laidLooks := .later }
def KeysInfersCardSaid : Prop := Claim7.holds Tryd.pinned (.plain (OpenSpec.ofChange keysInfersSpec)) keysInfersCard

/-- THE TIED CARD OF 'tartanlaw11.KeysMore'. -/
def keysMoreCard : Claim7 := { stood := { row := keysMoreRow, standIns := [], harness := (true, "3f08d606d1d8f1388602b434211a2858f9be794cf279b299e166a8634f695be4"), looks := false }, kinds := [], alts := [], laidByText := true, laidKinds := [.data, .data, .data], laidTests := true, laidLooks := .later }
def KeysMoreCardSaid : Prop := Claim7.holds Tryd.pinned (.plain (OpenSpec.ofChange keysMoreSpec)) keysMoreCard

/-- THE TIED CARD OF 'tartanlaw11.KeysLeast'. -/
def keysLeastCard : Claim7 := { stood := { row := keysLeastRow, standIns := [], harness := (true, "3f08d606d1d8f1388602b434211a2858f9be794cf279b299e166a8634f695be4"), looks := false }, kinds := [], alts := [], laidByText := true, laidKinds := [.data, .data, .data], laidTests := true, laidLooks := .later }
def KeysLeastCardSaid : Prop := Claim7.holds Tryd.pinned (.plain (OpenSpec.ofChange keysLeastSpec)) keysLeastCard

/-- THE TIED CARD OF 'tartanlaw11.KeysFewer'. -/
def keysFewerCard : Claim7 := { stood := { row := keysFewerRow, standIns := [], harness := (true, "3f08d606d1d8f1388602b434211a2858f9be794cf279b299e166a8634f695be4"), looks := false }, kinds := [], alts := [], laidByText := true, laidKinds := [.data, .data, .data], laidTests := true, laidLooks := .later }
def KeysFewerCardSaid : Prop := Claim7.holds Tryd.pinned (.plain (OpenSpec.ofChange keysFewerSpec)) keysFewerCard

/-- THE SECOND FORM's CARD OF 'tartanlaw11.KeysUnique'. -/
def keysUniqueUptoCard : Claim7 := { stood := { row := keysUniqueUptoRow, standIns := [], harness := (true, "3f08d606d1d8f1388602b434211a2858f9be794cf279b299e166a8634f695be4"), looks := false }, kinds := [], alts := [], laidByText := true, laidKinds := [.data, .data, .data], laidTests := true, laidLooks := .later }
def KeysUniqueUptoCardSaid : Prop := Claim7.holds Tryd.pinned (.plain (OpenSpec.upto keysUniqueSpec)) keysUniqueUptoCard

/-- THE SECOND FORM's CARD OF 'tartanlaw11.KeysInfers'. -/
def keysInfersUptoCard : Claim7 := { stood := { row := keysInfersUptoRow, standIns := [], harness := (true, "3f08d606d1d8f1388602b434211a2858f9be794cf279b299e166a8634f695be4"), looks := false }, kinds := [], alts := [], laidByText := true, laidKinds := [.data, .data, .data], laidTests := true, laidLooks := .later }
def KeysInfersUptoCardSaid : Prop := Claim7.holds Tryd.pinned (.plain (OpenSpec.upto keysInfersSpec)) keysInfersUptoCard

/-- THE SECOND FORM's CARD OF 'tartanlaw11.KeysMore'. -/
def keysMoreUptoCard : Claim7 := { stood := { row := keysMoreUptoRow, standIns := [], harness := (true, "3f08d606d1d8f1388602b434211a2858f9be794cf279b299e166a8634f695be4"), looks := false }, kinds := [], alts := [], laidByText := true, laidKinds := [.data, .data, .data], laidTests := true, laidLooks := .later }
def KeysMoreUptoCardSaid : Prop := Claim7.holds Tryd.pinned (.plain (OpenSpec.upto keysMoreSpec)) keysMoreUptoCard

/-- THE SECOND FORM's CARD OF 'tartanlaw11.KeysLeast'. -/
def keysLeastUptoCard : Claim7 := { stood := { row := keysLeastUptoRow, standIns := [], harness := (true, "3f08d606d1d8f1388602b434211a2858f9be794cf279b299e166a8634f695be4"), looks := false }, kinds := [], alts := [], laidByText := true, laidKinds := [.data, .data, .data], laidTests := true, laidLooks := .later }
def KeysLeastUptoCardSaid : Prop := Claim7.holds Tryd.pinned (.plain (OpenSpec.upto keysLeastSpec)) keysLeastUptoCard

/-- THE SECOND FORM's CARD OF 'tartanlaw11.KeysFewer'. -/
def keysFewerUptoCard : Claim7 := { stood := { row := keysFewerUptoRow, standIns := [], harness := (true, "3f08d606d1d8f1388602b434211a2858f9be794cf279b299e166a8634f695be4"), looks := false }, kinds := [], alts := [], laidByText := true, laidKinds := [.data, .data, .data], laidTests := true, laidLooks := .later }
def KeysFewerUptoCardSaid : Prop := Claim7.holds Tryd.pinned (.plain (OpenSpec.upto keysFewerSpec)) keysFewerUptoCard
end Rows
end Go.Proofs.YtnioignblbmflaaDoor
