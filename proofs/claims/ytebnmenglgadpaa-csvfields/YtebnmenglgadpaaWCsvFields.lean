/-
  A text is parsed just as its fields are read, one by one; the first fault of a field is its own: the statement's walk.
-/
import Derived.Test.YtebnmenglgadpaaCsvFieldsZ
import Derived.Test.YtebnmenglgadpaaCsvFieldsF
namespace Go.Proofs.Ytebnmenglgadpaa
open Go.RowKit Go.Shelf

theorem walkCsvFields (s : ByteArray) (d : Int) (w : World) (hs : s.size ≤ maxLen) (hd : (Lit.int .u8 d).wf = true) :
    Calls Try.prog 9 #[.string s, .int .u8 d] w fun e w' => e = .returned (.bool true) ∧ Below w.heap.size w w' := by
  obtain ⟨u, rfl⟩ := u8_of d hd
  by_cases hz : (parseL s.data.toList (u.toNat : Int)).2.2 = 0
  · exact fieldsZero s u w hs hz
  · exact fieldsFault s u w hs hz
end Go.Proofs.Ytebnmenglgadpaa
