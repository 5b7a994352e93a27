/-
  The keys of the map that the program makes, in order: what the library makes of them.
  Conditions: maps of at most 2^40 entries.
-/
import Derived.WalkKit
import Derived.WalkMore
import Derived.Lib.Hide
import Derived.Lib.SlKeysI
import Derived.Shelf.SlIterI.Nil
import Derived.Shelf.SortM.Plain
import Derived.Shelf.SortM.SortNone
import Derived.Test.YtigijgcldgbokaaGreatProg
import Derived.Test.YtigijgcldgbokaaGreatGShelf
import Derived.Test.YtigijgcldgbokaaGreatPMathD
import Derived.Test.YtigijgcldgbokaaGreatGTaken
namespace Go.Proofs.YtigijgcldgbokaaGreat
open Go.RowKit Go.Shelf Go.Maps Go.Sort
set_option linter.unusedVariables false

theorem sortsK (m : Nat) : AnyZI.SortsIn Tryz.prog laysS_ren Fence.wide m :=
  ⟨fun blk off cap ss W hH hblk hsz => callsIn_wide.2 (AnyM.slices_Sort_int laysO blk off cap ss W hH hblk hsz),
   fun p cap W => callsIn_wide.2 (AnyM.slices_Sort_int_none laysO p cap W)⟩
theorem gkeys_any (mb : Option Nat) (W : World) : Calls Tryz.prog 95 #[.map mb] W fun e w' => e = .returned (.func (.func 129) #[] #[.pointer (some ⟨W.heap.size, 0, none⟩)]) ∧ w' = W.alloc (.cells #[.map mb] 117) :=
  (callsIn_wide (n := 5)).1 (AnyZI.keys_in laysK Fence.wide 5 trivial rfl mb W)
theorem gsorted_any (b nn : Nat) (D0 : DataW Unit) (w : World) (hown : w.ownsMap Tryz.prog 3 (plainElem Tryz.prog 3) b nn D0) (hmax : nn ≤ 1099511627776) :
    Calls Tryz.prog 94 #[.func (.func 129) #[] #[.pointer (some ⟨w.heap.size, 0, none⟩)]] (w.alloc (.cells #[.map (some b)] 117)) fun e w' => ∃ (v : Value) (ss : List Int), e = .returned v ∧ ss.Perm (intKeys D0) ∧
      w'.ownsRow (w.heap.size + 1) 3 1 v ss.length ((ss.mergeSort (fun x y => decide (x ≤ y))).map (Value.int .i64)) ∧ Below (w.heap.size + 1) (w.alloc (.cells #[.map (some b)] 117)) w' := by
  have hbl := hown.lt
  have hsz := hown.size_le
  have hseq : SeqGives Fence.wide 2 Tryz.prog 129 #[.pointer (some ⟨w.heap.size, 0, none⟩)] encZ (fun ss => ss.Perm (intKeys D0)) (Maps.size D0) (w.alloc (.cells #[.map (some b)] 117)) :=
    AnyZI.keys_gives (ρ := laysK_ren) { laysK with } Fence.wide _ trivial rfl (by omega) w.heap.size b nn D0 _ (by simp) (by simp) (by
      obtain ⟨es, clock, hb, Ft, hs, hD⟩ := hown
      exact ⟨es, clock, (Below.heap_alloc _ _ b hbl).trans hb, Ft, hs, hD⟩)
  have cS := AnyZI.sorted_in laysS Fence.wide 5 trivial trivial trivial trivial rfl (by omega) (sortsK _) (enters_of Tryz.func128 (by kernel_rfl) rfl) 129 #[.pointer (some ⟨w.heap.size, 0, none⟩)] trivial (enters_of Tryz.func129 (by kernel_rfl) rfl) _ (Maps.size D0) (by unfold maxLen; omega) (by omega) _ hseq
  have hc := (callsIn_wide (n := 5)).1 cS
  refine hc.mono ?_
  rintro e w' ⟨v, ss, rfl, hS, hrow, -, hb⟩
  rw [World.size_alloc] at hrow hb
  exact ⟨v, ss, rfl, hS, hrow, hb⟩
set_option maxRecDepth 100000 in
theorem keys_perm {w : World} {b nn : Nat} {D : DataW Unit} {tk : PL} (hown : w.ownsMap Tryz.prog 3 (plainElem Tryz.prog 3) b nn D) (hF : FirstIs D tk) (hn : (tk.map Prod.snd).Nodup) : (tk.map Prod.snd).Perm (intKeys D) :=
  CollectedI.perm (D0 := D) (left := fun _ => false) ⟨hn, fun x => by
    rw [hF.here]
    cases h : firstB tk x with
    | none => have := (firstB_none tk x).1 h; simp [this]
    | some a =>
      have : x ∈ tk.map Prod.snd := Classical.not_not.1 (fun hx => by have := (firstB_none tk x).2 hx; rw [h] at this; cases this)
      simp only [Option.isSome_some, and_self, iff_true]; exact this⟩ hown (int_keyed Tryz.underlying3) Tryz.underlying3 (fun _ => rfl)
theorem first_of {l : PL} {p : Int × Int} (hn : (l.map Prod.snd).Nodup) (h : p ∈ l) : (firstB l p.2).getD 0 = p.1 := by
  rw [firstB_of (a := p.1) (z := p.2) hn h]; rfl
set_option maxRecDepth 100000 in
/-- what a look into the map tells -/
theorem first_at {w : World} {b k : Nat} {D : DataW Unit} {l : PL} (h : w.ownsMap Tryz.prog 3 (plainElem Tryz.prog 3) b k D) (hS : FirstIs D l) (x : Int) (hx : (Lit.int .i64 x).wf = true) :
    (Instr.lookup 117 (.map (some b)) (.int .i64 x) false).run Tryz.prog w = .ok (.int .i64 ((firstB l x).getD 0)) w := by
  obtain ⟨v, ps, hrun, hv⟩ := h.lookup (int_keyed Tryz.underlying3) Tryz.underlying117 (Tryz.zeroValue3 _) (plainElem_int Tryz.underlying3 (by decide)) (keyOf_int_mk Tryz.underlying3 hx)
  obtain ⟨c, rfl, hc, _⟩ := plainElem_int_inv Tryz.underlying3 hv
  simp only [Prod.mk.injEq] at hc
  rw [hS.look] at hc
  have : (firstB l x).getD 0 = c := by have := hc.1; injection this with h1; injection h1
  rw [this]; exact hrun
end Go.Proofs.YtigijgcldgbokaaGreat
