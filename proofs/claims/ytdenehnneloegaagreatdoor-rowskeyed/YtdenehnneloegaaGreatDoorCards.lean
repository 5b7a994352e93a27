/-
  DERIVED. GIVEN WITH THE SEED: THE CARDS: each row of YtdenehnneloegaaGreatDoorRows.lean that lists a variable, with what it lists TIED to the program's text (the seventh form; the later family's looks); each row that meets fmt, with fmt's text TOLD by the authors' own Lean function (tested against real Go, not proved from fmt's source: count such statements apart). THE CARD IS WHAT COUNTS. Prove the row's statement (the work); the ties are given (YtdenehnneloegaaGreatDoorTie.lean); close each card by the builder's one call (the guide's Derived/Test/ToyasCard.lean, 'card_holds'). Laid BY PROGRAM, IN A SANDBOX (cutbox-door.mjs). By AI agents, Wed Nov 11 2026. No macro, syntax, notation, axiom, sorry.
-/
import Derived.Test.YtdenehnneloegaaGreatDoorRows
import GoSem.ClaimSeven
namespace Go.Proofs.YtdenehnneloegaaGreatDoor
namespace Rows

/-- THE TIED CARD OF 'tartanlaw14.RowsAlign'. -/
def rowsAlignCard : Claim7 := { stood := { row := rowsAlignRow, standIns := [], harness := (true, "f45e3307e305329161ad76c9bb391865178746458ddbacabd2339e2639685570"), looks := false }, kinds := [], alts := [], laidByText := true, laidKinds := [.data, .data, .data], laidTests := true, laidLooks := .later }
def RowsAlignCardSaid : Prop := Claim7.holds Tryz.pinned (.plain (OpenSpec.ofChange rowsAlignSpec)) rowsAlignCard

/-- THE TIED CARD OF 'tartanlaw14.RowsBy'. -/
def rowsByCard : Claim7 := { stood := { row := rowsByRow, standIns := [], harness := (true, "f45e3307e305329161ad76c9bb391865178746458ddbacabd2339e2639685570"), looks := false }, kinds := [], alts := [], laidByText := true, laidKinds := [.data, .data, .data], laidTests := true, laidLooks := .later }
def RowsByCardSaid : Prop := Claim7.holds Tryz.pinned (.plain (OpenSpec.ofChange rowsBySpec)) rowsByCard

/-- THE TIED CARD OF 'tartanlaw14.RowsOnce'. -/
def rowsOnceCard : Claim7 := { stood := { row := rowsOnceRow, standIns := [], harness := (true, "f45e3307e305329161ad76c9bb391865178746458ddbacabd2339e2639685570"), looks := false }, kinds := [], alts := [], laidByText := true, laidKinds := [.data, .data, .data], laidTests := true, laidLooks := .later }
def RowsOnceCardSaid : Prop := Claim7.holds Tryz.pinned (.plain (OpenSpec.ofChange rowsOnceSpec)) rowsOnceCard

/-- THE TIED CARD OF 'tartanlaw14.RowsKeyed'. -/
def rowsKeyedCard : Claim7 := { stood := { row := rowsKeyedRow, standIns := [], harness := (true, "f45e3307e305329161ad76c9bb391865178746458ddbacabd2339e2639685570"), looks := false }, kinds := [], alts := [], laidByText := true, laidKinds := [.data, .data, .data], laidTests := true, laidLooks := .later }
def RowsKeyedCardSaid : Prop := Claim7.holds Tryz.pinned (.plain (OpenSpec.ofChange rowsKeyedSpec)) rowsKeyedCard

/-- THE TIED CARD OF 'tartanlaw14.RowsLeft'. -/
def rowsLeftCard : Claim7 := { stood := { row := rowsLeftRow, standIns := [], harness := (true, "f45e3307e305329161ad76c9bb391865178746458ddbacabd2339e2639685570"), looks := false }, kinds := [], alts := [], laidByText := true, laidKinds := [.data, .data, .data], laidTests := true, laidLooks := .later }
def RowsLeftCardSaid : Prop := Claim7.holds Tryz.pinned (.plain (OpenSpec.ofChange rowsLeftSpec)) rowsLeftCard

/-- THE TIED CARD OF 'tartanlaw14.RowsSame'. -/
def rowsSameCard : Claim7 := { stood := { row := rowsSameRow, standIns := [], harness := (true, "f45e3307e305329161ad76c9bb391865178746458ddbacabd2339e2639685570"), looks := false }, kinds := [], alts := [], laidByText := true, laidKinds := [.data, .data, .data], laidTests := true, laidLooks := .later }
def RowsSameCardSaid : Prop := Claim7.holds Tryz.pinned (.plain (OpenSpec.ofChange rowsSameSpec)) rowsSameCard

/-- THE SECOND FORM's CARD OF 'tartanlaw14.RowsAlign'. -/
def rowsAlignUptoCard : Claim7 := { stood := { row := rowsAlignUptoRow, standIns := [], harness := (true, "f45e3307e305329161ad76c9bb391865178746458ddbacabd2339e2639685570"), looks := false }, kinds := [], alts := [], laidByText := true, laidKinds := [.data, .data, .data], laidTests := true, laidLooks := .later }
def RowsAlignUptoCardSaid : Prop := Claim7.holds Tryz.pinned (.plain (OpenSpec.upto rowsAlignSpec)) rowsAlignUptoCard

/-- THE SECOND FORM's CARD OF 'tartanlaw14.RowsBy'. -/
def rowsByUptoCard : Claim7 := { stood := { row := rowsByUptoRow, standIns := [], harness := (true, "f45e3307e305329161ad76c9bb391865178746458ddbacabd2339e2639685570"), looks := false }, kinds := [], alts := [], laidByText := true, laidKinds := [.data, .data, .data], laidTests := true, laidLooks := .later }
def RowsByUptoCardSaid : Prop := Claim7.holds Tryz.pinned (.plain (OpenSpec.upto rowsBySpec)) rowsByUptoCard

/-- THE SECOND FORM's CARD OF 'tartanlaw14.RowsOnce'. -/
def rowsOnceUptoCard : Claim7 := { stood := { row := rowsOnceUptoRow, standIns := [], harness := (true, "f45e3307e305329161ad76c9bb391865178746458ddbacabd2339e2639685570"), looks := false }, kinds := [], alts := [], laidByText := true, laidKinds := [.data, .data, .data], laidTests := true, laidLooks := .later }
def RowsOnceUptoCardSaid : Prop := Claim7.holds Tryz.pinned (.plain (OpenSpec.upto rowsOnceSpec)) rowsOnceUptoCard

/-- THE SECOND FORM's CARD OF 'tartanlaw14.RowsKeyed'. -/
def rowsKeyedUptoCard : Claim7 := { stood := { row := rowsKeyedUptoRow, standIns := [], harness := (true, "f45e3307e305329161ad76c9bb391865178746458ddbacabd2339e2639685570"), looks := false }, kinds := [], alts := [], laidByText := true, laidKinds := [.data, .data, .data], laidTests := true, laidLooks := .later }
def RowsKeyedUptoCardSaid : Prop := Claim7.holds Tryz.pinned (.plain (OpenSpec.upto rowsKeyedSpec)) rowsKeyedUptoCard

/-- THE SECOND FORM's CARD OF 'tartanlaw14.RowsLeft'. -/
def rowsLeftUptoCard : Claim7 := { stood := { row := rowsLeftUptoRow, standIns := [], harness := (true, "f45e3307e305329161ad76c9bb391865178746458ddbacabd2339e2639685570"), looks := false }, kinds := [], alts := [], laidByText := true, laidKinds := [.data, .data, .data], laidTests := true, laidLooks := .later }
def RowsLeftUptoCardSaid : Prop := Claim7.holds Tryz.pinned (.plain (OpenSpec.upto rowsLeftSpec)) rowsLeftUptoCard

/-- THE SECOND FORM's CARD OF 'tartanlaw14.RowsSame'. -/
def rowsSameUptoCard : Claim7 := { stood := { row := rowsSameUptoRow, standIns := [], harness := (true, "f45e3307e305329161ad76c9bb391865178746458ddbacabd2339e2639685570"), looks := false }, kinds := [], alts := [], laidByText := true, laidKinds := [.data, .data, .data], laidTests := true, laidLooks := .later }
def RowsSameUptoCardSaid : Prop := Claim7.holds Tryz.pinned (.plain (OpenSpec.upto rowsSameSpec)) rowsSameUptoCard
end Rows
end Go.Proofs.YtdenehnneloegaaGreatDoor
