/-
  Lists with one turned, rows turned one by one, cells that are chosen: what the program's generic functions make.
  Conditions: lists of at most 2^38 elements.
-/
import Derived.WalkKit
import Derived.WalkMore
import Derived.WalkLawsBesides
import Derived.OwnWalk
import Derived.Lib.Hide
import Derived.Test.YtigijgcldgbokaaGreatProg
import Derived.Test.YtigijgcldgbokaaGreatEMovS
import Derived.Test.YtigijgcldgbokaaGreatEMovR
namespace Go.Proofs.YtigijgcldgbokaaGreat
open Go.RowKit Go.Shelf
set_option linter.unusedVariables false

theorem cloneS_n (ao : Option Addr) (vs : List Value) (n cp : Nat) (hl : vs.length = n) (hcp : n ≤ cp ∧ (ao = none → cp = 0)) (w : World) (hn : n ≤ 1099511627776) (hpos : 0 < n) (hc : CellsAt w ao vs) (h1 : ∀ u ∈ vs, u.oneCell' = true) :
    Calls Tryz.prog 76 #[.slice ao n cp] w fun e w' => ∃ g gc, e = .returned (.slice (some ⟨g, 0, none⟩) n gc) ∧ w'.ownsRow w.heap.size 9 1 (.slice (some ⟨g, 0, none⟩) n gc) n vs ∧ Below w.heap.size w w' := by
  subst hl
  exact cloneS ao vs ⟨cp, hcp⟩ w hn hpos hc h1
theorem always1_any (x cell : ByteArray) (b : Nat) (w : World) (hb : w.cell? ⟨b, 0, none⟩ = some (.string cell)) :
    Calls Tryz.prog 77 #[.string x, .pointer (some ⟨b, 0, none⟩)] w fun e w' => e = .returned (.string cell) ∧ w' = w := by
  go_enter Tryz.func77, Tryz.ntmps77
  go_wp2_with fail
  go_ret
  exact ⟨rfl, rfl⟩
theorem always_any (cell : ByteArray) (w : World) :
    Calls Tryz.prog 41 #[.string cell] w fun e w' => e = .returned (.func (.func 77) #[] #[.pointer (some ⟨w.heap.size, 0, none⟩)]) ∧ w' = w.alloc (.cells #[.string cell] 9) := by
  go_enter Tryz.func41, Tryz.ntmps41
  go_wp2_with fail
  go_ret
  exact ⟨rfl, rfl⟩

set_option maxRecDepth 100000 in
set_option maxHeartbeats 4000000 in
theorem changedS (ao : Option Addr) (xs : List ByteArray) (cap : Cap ao xs.length) (k : Int) (b : Nat) (cell : ByteArray) (w : World) (hn : xs.length ≤ 274877906944) (hc : StrRow w ao xs) (hb : w.cell? ⟨b, 0, none⟩ = some (.string cell)) :
    Calls Tryz.prog 40 #[.slice ao xs.length cap.1, .int .i64 k, .func (.func 77) #[] #[.pointer (some ⟨b, 0, none⟩)]] w (SNew (setL xs k cell) w) := by
  have N := Lib.hid (need_any k (xs.length : Int) w)
  unfold setL
  by_cases h : 0 ≤ k ∧ k < (xs.length : Int)
  · rw [if_pos (by omega)] at N
    rw [if_pos h]
    obtain ⟨j, rfl⟩ := Int.eq_ofNat_of_zero_le h.1
    have hj : j < xs.length := by omega
    rw [Int.toNat_natCast]
    obtain ⟨x, hx⟩ : ∃ x, xs[j]? = some x := ⟨_, List.getElem?_eq_getElem hj⟩
    have hl : (xs.map Value.string).length = xs.length := by simp
    obtain ⟨cp, hcp⟩ := cap
    simp only
    have C := Lib.hid (cloneS_n ao (xs.map Value.string) xs.length cp hl hcp w (by omega) (by omega) hc.cells (strs_ones xs))
    have HX := Lib.hid hx
    have HBc := Lib.hid hb
    have hbl : b < w.heap.size := block_lt_of_cell hb
    clear hx hc hb hl h hcp
    go_enter Tryz.func40, Tryz.ntmps40
    go_wp2_with fail
    refine N.out.mono ?_; rintro e w' ⟨⟨_, rfl⟩ | ⟨h, rfl⟩, rfl⟩
    · clear N
      go_wp2_with fail
      refine C.out.mono ?_; rintro e w2 ⟨g, gc, rfl, ho, hB⟩
      have hcell : w2.cell? ⟨g, j, none⟩ = some (.string x) := by
        have := ho.cells rfl j (.string x) (by rw [List.getElem?_map, HX.out]; rfl)
        rwa [Addr.add_lit, Nat.zero_add] at this
      have hfr : w2.frozen? ⟨g, j, none⟩ = false := ho.frozenAt j
      have HO := Lib.hid ho
      have HB := Lib.hid hB
      have A1 := Lib.hid (always1_any x cell b w2 ((hB.cell (p := ⟨b, 0, none⟩) hbl).trans HBc.out))
      clear ho hB C
      go_wp2_with fail
      refine A1.out.mono ?_; rintro e w3 ⟨rfl, rfl⟩
      go_wp2_with fail
      go_ret
      have hst := (HO.out.stored j (.string cell)).1
      have e1 : (xs.map Value.string).set j (.string cell) = (xs.set j cell).map Value.string := by rw [List.map_set]
      rw [e1] at hst
      have hl2 : xs.length = (xs.set j cell).length := by simp
      refine SNew.mk xs.length (some ⟨g, 0, none⟩) gc hl2 ⟨own_cap HO.out, fun e => by cases e⟩ rfl ?_ (fun A hA => by cases hA; exact (HO.out.lt g rfl).1) (HB.out.setCell (p := ⟨g, j, none⟩) (HO.out.lt g rfl).1 _)
      rw [hl2] at hst
      exact own_strs hst
    · exact absurd rfl h
  · rw [if_neg (by omega)] at N
    rw [if_neg h]
    clear h hc hb
    go_enter Tryz.func40, Tryz.ntmps40
    go_wp2_with fail
    refine N.out.mono ?_; rintro e w' ⟨⟨h, rfl⟩ | ⟨h, rfl⟩, rfl⟩
    · cases h
    · unfold stopE
      go_wp2_with fail
      exact ⟨rfl, rfl, Below.refl _ _⟩

theorem strRow_set {w w' : World} {ao : Option Addr} {xs : List ByteArray} (g : Nat) (hz : w.heap.size ≤ w'.heap.size) (hk : ∀ k, k ≠ g → w'.heap[k]? = w.heap[k]?) (h : StrRow w ao xs) (hg : ∀ A, ao = some A → xs ≠ [] → A.block ≠ g) : StrRow w' ao xs := by
  by_cases h0 : xs = []
  · exact .inl h0
  · rcases h with h | ⟨A, h1, h2, h3⟩
    · exact .inl h
    · exact .inr ⟨A, h1, Nat.lt_of_lt_of_le h2 hz, fun i c hc => (World.cell?_of_block (a := A.add i) (by rw [add_block]; exact hk _ (hg A h1 h0))).trans (h3 i c hc)⟩
/-- a function that turns a row -/
def RowFn (w : World) (F : FuncId) (caps : Array Value) (f : List ByteArray → Except Int (List ByteArray)) (Ok : List ByteArray → Prop) : Prop :=
  ∀ W, Below w.heap.size w W → ∀ ao (xs : List ByteArray) (cap : Cap ao xs.length), Ok xs → StrRow W ao xs → Calls Tryz.prog F (#[.slice ao xs.length cap.1] ++ caps) W (SNew (f xs) W)
theorem RowFn.kept {w w' : World} {F : FuncId} {caps : Array Value} {f : List ByteArray → Except Int (List ByteArray)} {Ok : List ByteArray → Prop} (h : RowFn w F caps f Ok) (b : Below w.heap.size w w') : RowFn w' F caps f Ok := fun W hW => h W (below_up b hW)

end Go.Proofs.YtigijgcldgbokaaGreat
