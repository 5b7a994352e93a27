/-
  No cell of these rows narrows 'for every input' (looked for: loops, veiled, ifaces, maps, wideKeys, modest, calm, conditions, laid).
  DERIVED. THE GIVEN ROWS OF THIS SEAT. 6 by the template 'for every input the law returns true; each argument reads behind the call as it read before'; 0 by the template 'total and deterministic' (their statements: YtgnkkggcifaabaaTotals.lean).
  GIVEN WITH THE SEED: the statements are not yours to turn. If you find one false, say at which input.
  Laid BY PROGRAM, IN A SANDBOX (cutbox-rows.mjs): the forced cells as the released guide's own fill.sh prints them over the translation e571858ea8f560fe… (all of the seat's roots in one cut). By AI agents, Wed Nov 11 2026. No macro, syntax, notation, axiom, sorry.
-/
import Derived.Test.YtgnkkggcifaabaaChecked
import GoSem.Claim
import GoSem.ClaimJoined
import GoSem.ClaimMapViews
import Derived.JoinedTies
import Derived.KernelRfl
namespace Go.Proofs.Ytgnkkggcifaabaa
/- THE CELL 'sum', in the pinned program and in every row, IS THE sha256 OF THE DUMP (.gsa) THAT YtgnkkggcifaabaaProg.lean LOADS. Nothing in Lean hashes anything: it is a label: what it is worth is what the hold of that sum in a sandbox is worth. -/
noncomputable def Try.pinned : Pinned := { name := "ytgnkkggcifaabaa", sum := "e571858ea8f560fe1128c221a0ae1b50c193d66ef2554ed5f3281e441f8daac2", checked := Try.checked }
namespace Rows
def none {H : Type} : Left H := { results := [], args := [] }

/-- 'tartanlaw01.QuotePuts': WHATEVER THE INPUT: true; the input reads as it did. -/
def quotePutsSpec : ChangeSpec := { name := "quotePuts", fn := fun _ => fun
  | [d1, d2] => { results := [.lit (.bool true)], args := [d1, d2] }
  | _ => none }
def quotePutsRow : OpenClaim := { program := "ytgnkkggcifaabaa", sum := "e571858ea8f560fe1128c221a0ae1b50c193d66ef2554ed5f3281e441f8daac2", func := "tartan/tartanlaw01.QuotePuts", spec := "quotePuts", inPlace := ["internal/abi.NoEscape", "internal/bytealg.MakeNoZero"], unfollowed := true, recurses := true, apart := false }
def QuotePutsSaid : Prop := quotePutsRow.holds Try.pinned (OpenSpec.ofChange quotePutsSpec)

/-- ITS FALSE NEIGHBOUR: 'it returns false'. Refute it at one input. -/
def quotePutsWrong : ChangeSpec := { name := "quotePuts", fn := fun _ => fun
  | [d1, d2] => { results := [.lit (.bool false)], args := [d1, d2] }
  | _ => none }
def QuotePutsWrongFalsely : Prop := quotePutsRow.holds Try.pinned (OpenSpec.ofChange quotePutsWrong)

/-- 'tartanlaw01.QuoteGets': WHATEVER THE INPUT: true; the input reads as it did. -/
def quoteGetsSpec : ChangeSpec := { name := "quoteGets", fn := fun _ => fun
  | [d] => { results := [.lit (.bool true)], args := [d] }
  | _ => none }
def quoteGetsRow : OpenClaim := { program := "ytgnkkggcifaabaa", sum := "e571858ea8f560fe1128c221a0ae1b50c193d66ef2554ed5f3281e441f8daac2", func := "tartan/tartanlaw01.QuoteGets", spec := "quoteGets", inPlace := ["internal/abi.NoEscape", "internal/bytealg.MakeNoZero"], unfollowed := true, recurses := true, apart := false }
def QuoteGetsSaid : Prop := quoteGetsRow.holds Try.pinned (OpenSpec.ofChange quoteGetsSpec)

/-- ITS FALSE NEIGHBOUR: 'it returns false'. Refute it at one input. -/
def quoteGetsWrong : ChangeSpec := { name := "quoteGets", fn := fun _ => fun
  | [d] => { results := [.lit (.bool false)], args := [d] }
  | _ => none }
def QuoteGetsWrongFalsely : Prop := quoteGetsRow.holds Try.pinned (OpenSpec.ofChange quoteGetsWrong)

/-- 'tartanlaw01.QuoteBack': WHATEVER THE INPUT: true; the input reads as it did. -/
def quoteBackSpec : ChangeSpec := { name := "quoteBack", fn := fun _ => fun
  | [d1, d2] => { results := [.lit (.bool true)], args := [d1, d2] }
  | _ => none }
def quoteBackRow : OpenClaim := { program := "ytgnkkggcifaabaa", sum := "e571858ea8f560fe1128c221a0ae1b50c193d66ef2554ed5f3281e441f8daac2", func := "tartan/tartanlaw01.QuoteBack", spec := "quoteBack", inPlace := ["internal/abi.NoEscape", "internal/bytealg.MakeNoZero"], unfollowed := true, recurses := true, apart := false }
def QuoteBackSaid : Prop := quoteBackRow.holds Try.pinned (OpenSpec.ofChange quoteBackSpec)

/-- ITS FALSE NEIGHBOUR: 'it returns false'. Refute it at one input. -/
def quoteBackWrong : ChangeSpec := { name := "quoteBack", fn := fun _ => fun
  | [d1, d2] => { results := [.lit (.bool false)], args := [d1, d2] }
  | _ => none }
def QuoteBackWrongFalsely : Prop := quoteBackRow.holds Try.pinned (OpenSpec.ofChange quoteBackWrong)

/-- 'tartanlaw01.QuoteOnly': WHATEVER THE INPUT: true; the input reads as it did. -/
def quoteOnlySpec : ChangeSpec := { name := "quoteOnly", fn := fun _ => fun
  | [d] => { results := [.lit (.bool true)], args := [d] }
  | _ => none }
def quoteOnlyRow : OpenClaim := { program := "ytgnkkggcifaabaa", sum := "e571858ea8f560fe1128c221a0ae1b50c193d66ef2554ed5f3281e441f8daac2", func := "tartan/tartanlaw01.QuoteOnly", spec := "quoteOnly", inPlace := ["internal/abi.NoEscape", "internal/bytealg.MakeNoZero"], unfollowed := true, recurses := true, apart := false }
def QuoteOnlySaid : Prop := quoteOnlyRow.holds Try.pinned (OpenSpec.ofChange quoteOnlySpec)

/-- ITS FALSE NEIGHBOUR: 'it returns false'. Refute it at one input. -/
def quoteOnlyWrong : ChangeSpec := { name := "quoteOnly", fn := fun _ => fun
  | [d] => { results := [.lit (.bool false)], args := [d] }
  | _ => none }
def QuoteOnlyWrongFalsely : Prop := quoteOnlyRow.holds Try.pinned (OpenSpec.ofChange quoteOnlyWrong)

/-- 'tartanlaw01.QuoteApart': WHATEVER THE INPUT: true; the input reads as it did. -/
def quoteApartSpec : ChangeSpec := { name := "quoteApart", fn := fun _ => fun
  | [d1, d2, d3] => { results := [.lit (.bool true)], args := [d1, d2, d3] }
  | _ => none }
def quoteApartRow : OpenClaim := { program := "ytgnkkggcifaabaa", sum := "e571858ea8f560fe1128c221a0ae1b50c193d66ef2554ed5f3281e441f8daac2", func := "tartan/tartanlaw01.QuoteApart", spec := "quoteApart", inPlace := ["internal/abi.NoEscape", "internal/bytealg.MakeNoZero"], unfollowed := true, recurses := true, apart := false }
def QuoteApartSaid : Prop := quoteApartRow.holds Try.pinned (OpenSpec.ofChange quoteApartSpec)

/-- ITS FALSE NEIGHBOUR: 'it returns false'. Refute it at one input. -/
def quoteApartWrong : ChangeSpec := { name := "quoteApart", fn := fun _ => fun
  | [d1, d2, d3] => { results := [.lit (.bool false)], args := [d1, d2, d3] }
  | _ => none }
def QuoteApartWrongFalsely : Prop := quoteApartRow.holds Try.pinned (OpenSpec.ofChange quoteApartWrong)

/-- 'tartanlaw01.QuoteSizes': WHATEVER THE INPUT: true; the input reads as it did. -/
def quoteSizesSpec : ChangeSpec := { name := "quoteSizes", fn := fun _ => fun
  | [d1, d2, d3] => { results := [.lit (.bool true)], args := [d1, d2, d3] }
  | _ => none }
def quoteSizesRow : OpenClaim := { program := "ytgnkkggcifaabaa", sum := "e571858ea8f560fe1128c221a0ae1b50c193d66ef2554ed5f3281e441f8daac2", func := "tartan/tartanlaw01.QuoteSizes", spec := "quoteSizes", inPlace := ["internal/abi.NoEscape", "internal/bytealg.MakeNoZero"], unfollowed := true, recurses := true, apart := false }
def QuoteSizesSaid : Prop := quoteSizesRow.holds Try.pinned (OpenSpec.ofChange quoteSizesSpec)

/-- ITS FALSE NEIGHBOUR: 'it returns false'. Refute it at one input. -/
def quoteSizesWrong : ChangeSpec := { name := "quoteSizes", fn := fun _ => fun
  | [d1, d2, d3] => { results := [.lit (.bool false)], args := [d1, d2, d3] }
  | _ => none }
def QuoteSizesWrongFalsely : Prop := quoteSizesRow.holds Try.pinned (OpenSpec.ofChange quoteSizesWrong)

/- THE SECOND FORM. 'bulk': how many values and letters a reading holds, each counted each time it is reached (what is shared counts as often as it is met; a slice's spare places count too). A statement '..UptoSaid' is the law's where the arguments, and the package variables that the reading takes, are together of bulk at most 1048576: NARROWER than '..Said'. Prove '..Said' where nothing that the law and all that it calls make is longer than what came in: it says more and counts as full. Else prove '..UptoSaid'. A law counts once. -/
mutual
def uptoBulk {H : Type} : DataW H → Nat
  | .lit (.string bytes) => bytes.length + 1
  | .lit _ => 1
  | .nil => 1
  | .ptr d => uptoBulk d + 1
  | .slice elems spare => uptoBulkAll elems + uptoBulkAll spare + 1
  | .agg parts => uptoBulkAll parts + 1
  | .iface _ d => uptoBulk d + 1
  | .map entries => uptoBulkEntries entries + 1
  | .held _ => 1
def uptoBulkAll {H : Type} : List (DataW H) → Nat
  | [] => 0
  | d :: r => uptoBulk d + uptoBulkAll r
def uptoBulkEntries {H : Type} : List (Lit × DataW H) → Nat
  | [] => 0
  | x :: r => uptoBulkEntry x + uptoBulkEntries r
def uptoBulkEntry {H : Type} : Lit × DataW H → Nat
  | (.string bytes, d) => bytes.length + uptoBulk d + 1
  | (_, d) => uptoBulk d + 1
 end
def uptoSmall : (H : Type) → List (DataW H) → Bool := fun _ ds => decide (uptoBulkAll ds ≤ 1048576)
def OpenSpec.upto (s : _root_.Go.ChangeSpec) : _root_.Go.OpenSpec := { _root_.Go.OpenSpec.ofChange s with cond := some uptoSmall }

/-- 'tartanlaw01.QuotePuts', WHERE WHAT IT READS IS OF BULK AT MOST 1048576: true; the input reads as it did. -/
def quotePutsUptoRow : OpenClaim := { program := "ytgnkkggcifaabaa", sum := "e571858ea8f560fe1128c221a0ae1b50c193d66ef2554ed5f3281e441f8daac2", func := "tartan/tartanlaw01.QuotePuts", spec := "quotePuts", inPlace := ["internal/abi.NoEscape", "internal/bytealg.MakeNoZero"], unfollowed := true, recurses := true, apart := false, narrowed := true }
def QuotePutsUptoSaid : Prop := quotePutsUptoRow.holds Try.pinned (OpenSpec.upto quotePutsSpec)

/-- 'tartanlaw01.QuoteGets', WHERE WHAT IT READS IS OF BULK AT MOST 1048576: true; the input reads as it did. -/
def quoteGetsUptoRow : OpenClaim := { program := "ytgnkkggcifaabaa", sum := "e571858ea8f560fe1128c221a0ae1b50c193d66ef2554ed5f3281e441f8daac2", func := "tartan/tartanlaw01.QuoteGets", spec := "quoteGets", inPlace := ["internal/abi.NoEscape", "internal/bytealg.MakeNoZero"], unfollowed := true, recurses := true, apart := false, narrowed := true }
def QuoteGetsUptoSaid : Prop := quoteGetsUptoRow.holds Try.pinned (OpenSpec.upto quoteGetsSpec)

/-- 'tartanlaw01.QuoteBack', WHERE WHAT IT READS IS OF BULK AT MOST 1048576: true; the input reads as it did. -/
def quoteBackUptoRow : OpenClaim := { program := "ytgnkkggcifaabaa", sum := "e571858ea8f560fe1128c221a0ae1b50c193d66ef2554ed5f3281e441f8daac2", func := "tartan/tartanlaw01.QuoteBack", spec := "quoteBack", inPlace := ["internal/abi.NoEscape", "internal/bytealg.MakeNoZero"], unfollowed := true, recurses := true, apart := false, narrowed := true }
def QuoteBackUptoSaid : Prop := quoteBackUptoRow.holds Try.pinned (OpenSpec.upto quoteBackSpec)

/-- 'tartanlaw01.QuoteOnly', WHERE WHAT IT READS IS OF BULK AT MOST 1048576: true; the input reads as it did. -/
def quoteOnlyUptoRow : OpenClaim := { program := "ytgnkkggcifaabaa", sum := "e571858ea8f560fe1128c221a0ae1b50c193d66ef2554ed5f3281e441f8daac2", func := "tartan/tartanlaw01.QuoteOnly", spec := "quoteOnly", inPlace := ["internal/abi.NoEscape", "internal/bytealg.MakeNoZero"], unfollowed := true, recurses := true, apart := false, narrowed := true }
def QuoteOnlyUptoSaid : Prop := quoteOnlyUptoRow.holds Try.pinned (OpenSpec.upto quoteOnlySpec)

/-- 'tartanlaw01.QuoteApart', WHERE WHAT IT READS IS OF BULK AT MOST 1048576: true; the input reads as it did. -/
def quoteApartUptoRow : OpenClaim := { program := "ytgnkkggcifaabaa", sum := "e571858ea8f560fe1128c221a0ae1b50c193d66ef2554ed5f3281e441f8daac2", func := "tartan/tartanlaw01.QuoteApart", spec := "quoteApart", inPlace := ["internal/abi.NoEscape", "internal/bytealg.MakeNoZero"], unfollowed := true, recurses := true, apart := false, narrowed := true }
def QuoteApartUptoSaid : Prop := quoteApartUptoRow.holds Try.pinned (OpenSpec.upto quoteApartSpec)

/-- 'tartanlaw01.QuoteSizes', WHERE WHAT IT READS IS OF BULK AT MOST 1048576: true; the input reads as it did. -/
def quoteSizesUptoRow : OpenClaim := { program := "ytgnkkggcifaabaa", sum := "e571858ea8f560fe1128c221a0ae1b50c193d66ef2554ed5f3281e441f8daac2", func := "tartan/tartanlaw01.QuoteSizes", spec := "quoteSizes", inPlace := ["internal/abi.NoEscape", "internal/bytealg.MakeNoZero"], unfollowed := true, recurses := true, apart := false, narrowed := true }
def QuoteSizesUptoSaid : Prop := quoteSizesUptoRow.holds Try.pinned (OpenSpec.upto quoteSizesSpec)

end Rows
end Go.Proofs.Ytgnkkggcifaabaa
