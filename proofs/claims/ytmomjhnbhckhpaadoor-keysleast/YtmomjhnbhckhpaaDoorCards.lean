/-
  DERIVED. GIVEN WITH THE SEED: THE CARDS: each row of YtmomjhnbhckhpaaDoorRows.lean that lists a variable, with what it lists TIED to the program's text (the seventh form; the later family's looks); each row that meets fmt, with fmt's text TOLD by the authors' own Lean function (tested against real Go, not proved from fmt's source: count such statements apart). THE CARD IS WHAT COUNTS. Prove the row's statement (the work); the ties are given (YtmomjhnbhckhpaaDoorTie.lean); close each card by the builder's one call (the guide's Derived/Test/ToyasCard.lean, 'card_holds'). Laid BY PROGRAM, IN A SANDBOX (cutbox-door.mjs). By AI agents, Wed Nov 11 2026. No macro, syntax, notation, axiom, sorry.
-/
import Derived.Test.YtmomjhnbhckhpaaDoorRows
import GoSem.ClaimSeven
namespace Go.Proofs.YtmomjhnbhckhpaaDoor
namespace Rows

/-- THE TIED CARD OF 'tartanlaw12.IndexOwn'. -/
def indexOwnCard : Claim7 := { stood := { row := indexOwnRow, standIns := [], harness := (true, "4b14045bed9dac84f878a07008fec445c657438501b6b6de5e5f110da7c274c9"), looks := false }, kinds := [], alts := [], laidByText := true, laidKinds := [.data, .data, .data], laidTests := true, laidLooks := .later }
def IndexOwnCardSaid : Prop := Claim7.holds Tryd.pinned (.plain (OpenSpec.ofChange indexOwnSpec)) indexOwnCard

/-- THE TIED CARD OF 'tartanlaw11.KeysInfers'. -/
def keysInfersCard : Claim7 := { stood := { row := keysInfersRow, standIns := [], harness := (true, "4b14045bed9dac84f878a07008fec445c657438501b6b6de5e5f110da7c274c9"), looks := false }, kinds := [], alts := [], laidByText := true, laidKinds := [.data, .data, .data], laidTests := true, laidLooks := .later }
def KeysInfersCardSaid : Prop := Claim7.holds Tryd.pinned (.plain (OpenSpec.ofChange keysInfersSpec)) keysInfersCard

/-- THE TIED CARD OF 'tartanlaw11.KeysLeast'. -/
def keysLeastCard : Claim7 := { stood := { row := keysLeastRow, standIns := [], harness := (true, "4b14045bed9dac84f878a07008fec445c657438501b6b6de5e5f110da7c274c9"), looks := false }, kinds := [], alts := [], laidByText := true, laidKinds := [.data, .data, .data], laidTests := true, laidLooks := .later }
def KeysLeastCardSaid : Prop := Claim7.holds Tryd.pinned (.plain (OpenSpec.ofChange keysLeastSpec)) keysLeastCard

/-- THE SECOND FORM's CARD OF 'tartanlaw12.IndexOwn'. -/
def indexOwnUptoCard : Claim7 := { stood := { row := indexOwnUptoRow, standIns := [], harness := (true, "4b14045bed9dac84f878a07008fec445c657438501b6b6de5e5f110da7c274c9"), looks := false }, kinds := [], alts := [], laidByText := true, laidKinds := [.data, .data, .data], laidTests := true, laidLooks := .later }
def IndexOwnUptoCardSaid : Prop := Claim7.holds Tryd.pinned (.plain (OpenSpec.upto indexOwnSpec)) indexOwnUptoCard

/-- THE SECOND FORM's CARD OF 'tartanlaw11.KeysInfers'. -/
def keysInfersUptoCard : Claim7 := { stood := { row := keysInfersUptoRow, standIns := [], harness := (true, "4b14045bed9dac84f878a07008fec445c657438501b6b6de5e5f110da7c274c9"), looks := false }, kinds := [], alts := [], laidByText := true, laidKinds := [.data, .data, .data], laidTests := true, laidLooks := .later }
def KeysInfersUptoCardSaid : Prop := Claim7.holds Tryd.pinned (.plain (OpenSpec.upto keysInfersSpec)) keysInfersUptoCard

/-- THE SECOND FORM's CARD OF 'tartanlaw11.KeysLeast'. -/
def keysLeastUptoCard : Claim7 := { stood := { row := keysLeastUptoRow, standIns := [], harness := (true, "4b14045bed9dac84f878a07008fec445c657438501b6b6de5e5f110da7c274c9"), looks := false }, kinds := [], alts := [], laidByText := true, laidKinds := [.data, .data, .data], laidTests := true, laidLooks := .later }
def KeysLeastUptoCardSaid : Prop := Claim7.holds Tryd.pinned (.plain (OpenSpec.upto keysLeastSpec)) keysLeastUptoCard
end Rows
end Go.Proofs.YtmomjhnbhckhpaaDoor
