/-
  The functions that the edits hand over: what each makes of a list, or of rows.
  Conditions: lists of at most 5000 elements (the statements ask about far smaller ones).
-/
import Derived.WalkKit
import Derived.WalkMore
import Derived.WalkLawsBesides
import Derived.Lib.Hide
import Derived.Deep.RegionWith
import Derived.StillTailTactics
import Derived.Test.YtigijgcldgbokaaGreatProg
import Derived.Test.YtigijgcldgbokaaGreatEList
import Derived.Test.YtigijgcldgbokaaGreatETurn
namespace Go.Proofs.YtigijgcldgbokaaGreat
open Go.RowKit Go.Shelf
set_option linter.unusedVariables false

theorem RowFn.head {w : World} {F : FuncId} {caps : Array Value} {f : List ByteArray → Except Int (List ByteArray)} {Ok : List ByteArray → Prop} (h : RowFn w F caps f Ok) : HeadFn w F caps f Ok := fun W hW ao xs cap hok hx => (h W hW ao xs cap hok hx).mono fun e w' q => q.out
theorem HeadFn.kept {w w' : World} {F : FuncId} {caps : Array Value} {f : List ByteArray → Except Int (List ByteArray)} {Ok : List ByteArray → Prop} (h : HeadFn w F caps f Ok) (b : Below w.heap.size w w') : HeadFn w' F caps f Ok := fun W hW => h W (below_up b hW)
theorem RowsFn.kept {w w' : World} {F : FuncId} {caps : Array Value} {f : List (List ByteArray) → Except Int (List (List ByteArray))} {Ok : List (List ByteArray) → Prop} (h : RowsFn w F caps f Ok) (b : Below w.heap.size w w') : RowsFn w' F caps f Ok := fun W hW => h W (below_up b hW)

theorem cMoveCol1 (b1 b2 : Nat) (k : Int) (t : Int) (w : World) (hb1 : w.cell? ⟨b1, 0, none⟩ = some (.int .i64 k)) (hb2 : w.cell? ⟨b2, 0, none⟩ = some (.int .i64 t)) : RowFn w 44 #[.pointer (some ⟨b1, 0, none⟩), .pointer (some ⟨b2, 0, none⟩)] (fun xs => movL xs k t) (fun xs => xs.length ≤ 5000) := by
  intro W hW ao xs cap hok hx
  show Calls Tryz.prog 44 #[.slice ao xs.length cap.1, .pointer (some ⟨b1, 0, none⟩), .pointer (some ⟨b2, 0, none⟩)] W (SNew (movL xs k t) W)
  have kb1 := (hW.cell (p := ⟨b1, 0, none⟩) (block_lt_of_cell hb1)).trans hb1
  have kb2 := (hW.cell (p := ⟨b2, 0, none⟩) (block_lt_of_cell hb2)).trans hb2
  have hok : xs.length ≤ 5000 := hok
  have C := Lib.hid (mov_s ao xs cap k t W (by omega) hx)
  clear hx
  generalize movL xs k t = R at C ⊢
  go_enter Tryz.func44, Tryz.ntmps44
  go_wp2_with fail
  refine C.out.mono ?_; intro e w2 hq
  cases R with
  | error x =>
    obtain ⟨rfl, b⟩ := hq
    unfold stopE
    go_wp2_with fail
    exact ⟨rfl, rfl, b⟩
  | ok ys =>
    obtain ⟨yo, yc, rfl, q1, q2⟩ := hq
    have Q := Lib.hid (And.intro q1 q2)
    clear q1 q2
    go_wp2_with fail
    go_ret
    exact ⟨yo, yc, rfl, Q.out.1, Q.out.2⟩

theorem cSameR (w : World) : RowsFn w 42 #[] (fun rs => .ok rs) (fun _ => True) := by
  intro W hW ao rs cap hok hx
  show Calls Tryz.prog 42 #[.slice ao rs.length cap.1] W _
  have HX := Lib.hid hx
  clear hx
  go_enter Tryz.func42, Tryz.ntmps42
  go_wp2_with fail
  go_ret
  exact ⟨ao, cap, rfl, HX.out, Below.refl _ _⟩

set_option maxRecDepth 100000 in
set_option maxHeartbeats 4000000 in
theorem cRenameCol1 (b1 b2 : Nat) (k : Int) (nm : ByteArray) (w : World) (hb1 : w.cell? ⟨b1, 0, none⟩ = some (.int .i64 k)) (hb2 : w.cell? ⟨b2, 0, none⟩ = some (.string nm)) : RowFn w 39 #[.pointer (some ⟨b1, 0, none⟩), .pointer (some ⟨b2, 0, none⟩)] (fun xs => setL xs k nm) (fun xs => xs.length ≤ 5000) := by
  intro W hW ao xs cap hok hx
  show Calls Tryz.prog 39 #[.slice ao xs.length cap.1, .pointer (some ⟨b1, 0, none⟩), .pointer (some ⟨b2, 0, none⟩)] W (SNew (setL xs k nm) W)
  have kb1 := (hW.cell (p := ⟨b1, 0, none⟩) (block_lt_of_cell hb1)).trans hb1
  have kb2 := (hW.cell (p := ⟨b2, 0, none⟩) (block_lt_of_cell hb2)).trans hb2
  have hok : xs.length ≤ 5000 := hok
  have hBd : Below W.heap.size W (W.drew.alloc (.cells #[.string nm] 9)) := ((Below.refl _ W).drew).alloc (Nat.le_refl _) _
  have HB := Lib.hid hBd
  have C := Lib.hid ((changedS ao xs cap k W.heap.size nm (W.drew.alloc (.cells #[.string nm] 9)) (by omega) (hx.kept hBd) ((Lib.cell_of_heap (World.alloc_heap_new W.drew (.cells #[.string nm] 9)) 0).trans rfl)).mono (fun e w' q => q.mono hBd))
  have l1 := block_lt_of_cell kb1
  have l2 := block_lt_of_cell kb2
  clear hx hBd
  generalize setL xs k nm = R at C ⊢
  go_enter Tryz.func39, Tryz.ntmps39
  go_wp2_with fail
  cases R with
  | error x =>
    refine wp_region_any (by kernel_rfl) ?_
    change wpAny _ _ _ _ _ _ _ (World.drew _)
    refine wpAny_take (i := 0) (v := .slice ao xs.length cap.1) rfl (by kernel_rfl) (by kernel_rfl) (by kernel_rfl) (fun _ _ _ h => h) (Or.inl ⟨by rfl, fun w => by go_simp⟩) ?_
    refine wpAny_ready (rs := [1, 2]) (by kernel_rfl) (by simp) (AllReady.cons rfl (fun K hK => ?_) (AllReady.cons rfl (fun K hK => ?_) AllReady.nil))
    · go_simp
      refine hK _ _ ?_; clear hK K
      refine wpAny_ready (rs := [2]) (by kernel_rfl) (by simp) (AllReady.cons rfl (fun K hK => ?_) AllReady.nil)
      go_simp
      refine hK _ _ ?_; clear hK K
      refine wpAny_ready (rs := [3]) (by kernel_rfl) (by simp) (AllReady.cons rfl (fun K hK => ?_) AllReady.nil)
      go_simp
      go_wp2_with (go_at_call 41; refine (always_any nm W.drew).mono ?_; rintro e w1 ⟨rfl, rfl⟩)
      (try (refine hK _ _ ?_; clear hK K))
      refine wpAny_ready (rs := [4]) (by kernel_rfl) (by simp) (AllReady.cons rfl (fun K hK => ?_) AllReady.nil)
      go_simp
      go_wp2_with fail
      refine C.out.mono ?_; rintro e w2 ⟨rfl, b⟩
      exact ⟨rfl, rfl, b⟩
    · go_simp
      refine hK _ _ ?_; clear hK K
      refine wpAny_ready (rs := [1, 3]) (by kernel_rfl) (by simp) (AllReady.cons rfl (fun K hK => ?_) (AllReady.cons rfl (fun K hK => ?_) AllReady.nil))
      · go_simp
        refine hK _ _ ?_; clear hK K
        refine wpAny_ready (rs := [3]) (by kernel_rfl) (by simp) (AllReady.cons rfl (fun K hK => ?_) AllReady.nil)
        go_simp
        go_wp2_with (go_at_call 41; refine (always_any nm W.drew).mono ?_; rintro e w1 ⟨rfl, rfl⟩)
        (try (refine hK _ _ ?_; clear hK K))
        refine wpAny_ready (rs := [4]) (by kernel_rfl) (by simp) (AllReady.cons rfl (fun K hK => ?_) AllReady.nil)
        go_simp
        go_wp2_with fail
        refine C.out.mono ?_; rintro e w2 ⟨rfl, b⟩
        exact ⟨rfl, rfl, b⟩
      · go_simp
        go_wp2_with (go_at_call 41; refine (always_any nm W.drew).mono ?_; rintro e w1 ⟨rfl, rfl⟩)
        (try (refine hK _ _ ?_; clear hK K))
        refine wpAny_ready (rs := [1]) (by kernel_rfl) (by simp) (AllReady.cons rfl (fun K hK => ?_) AllReady.nil)
        go_simp
        refine hK _ _ ?_; clear hK K
        refine wpAny_ready (rs := [4]) (by kernel_rfl) (by simp) (AllReady.cons rfl (fun K hK => ?_) AllReady.nil)
        go_simp
        go_wp2_with fail
        refine C.out.mono ?_; rintro e w2 ⟨rfl, b⟩
        exact ⟨rfl, rfl, b⟩
  | ok ys =>
    go_region_with (first | (go_at_call 41; refine (always_any nm W.drew).mono ?_; rintro e w1 ⟨rfl, rfl⟩) | (go_at_call 40; refine C.out.mono ?_; rintro e w2 ⟨yo, yc, rfl, q1, q2⟩; have Q := Lib.hid (And.intro q1 q2); clear q1 q2))
    all_goals (go_wp2_with fail; go_ret; exact ⟨yo, yc, rfl, Q.out.1, Q.out.2⟩)

end Go.Proofs.YtigijgcldgbokaaGreat
