/-
  The functions that the edits hand over: what each makes of a list, or of rows.
  Conditions: lists of at most 5000 elements (the statements ask about far smaller ones).
-/
import Derived.WalkKit
import Derived.WalkMore
import Derived.WalkLawsBesides
import Derived.Lib.Hide
import Derived.Deep.RegionWith
import Derived.StillTailTactics
import Derived.Test.YtcifjclokfnocaaGreatProg
import Derived.Test.YtcifjclokfnocaaGreatEList
import Derived.Test.YtcifjclokfnocaaGreatETurn
namespace Go.Proofs.YtcifjclokfnocaaGreat
open Go.RowKit Go.Shelf
set_option linter.unusedVariables false

theorem RowFn.head {w : World} {F : FuncId} {caps : Array Value} {f : List ByteArray → Except Int (List ByteArray)} {Ok : List ByteArray → Prop} (h : RowFn w F caps f Ok) : HeadFn w F caps f Ok := fun W hW ao xs cap hok hx => (h W hW ao xs cap hok hx).mono fun e w' q => q.out
theorem HeadFn.kept {w w' : World} {F : FuncId} {caps : Array Value} {f : List ByteArray → Except Int (List ByteArray)} {Ok : List ByteArray → Prop} (h : HeadFn w F caps f Ok) (b : Below w.heap.size w w') : HeadFn w' F caps f Ok := fun W hW => h W (below_up b hW)
theorem RowsFn.kept {w w' : World} {F : FuncId} {caps : Array Value} {f : List (List ByteArray) → Except Int (List (List ByteArray))} {Ok : List (List ByteArray) → Prop} (h : RowsFn w F caps f Ok) (b : Below w.heap.size w w') : RowsFn w' F caps f Ok := fun W hW => h W (below_up b hW)

theorem cInsertCol1 (b1 b2 : Nat) (k : Int) (nm : ByteArray) (w : World) (hb1 : w.cell? ⟨b1, 0, none⟩ = some (.int .i64 k)) (hb2 : w.cell? ⟨b2, 0, none⟩ = some (.string nm)) : RowFn w 47 #[.pointer (some ⟨b1, 0, none⟩), .pointer (some ⟨b2, 0, none⟩)] (fun xs => insL xs k nm) (fun xs => xs.length ≤ 5000) := by
  intro W hW ao xs cap hok hx
  show Calls Tryz.prog 47 #[.slice ao xs.length cap.1, .pointer (some ⟨b1, 0, none⟩), .pointer (some ⟨b2, 0, none⟩)] W (SNew (insL xs k nm) W)
  have kb1 := (hW.cell (p := ⟨b1, 0, none⟩) (block_lt_of_cell hb1)).trans hb1
  have kb2 := (hW.cell (p := ⟨b2, 0, none⟩) (block_lt_of_cell hb2)).trans hb2
  have hok : xs.length ≤ 5000 := hok
  have C := Lib.hid (ins_s ao xs cap k nm W (by omega) hx)
  clear hx
  generalize insL xs k nm = R at C ⊢
  go_enter Tryz.func47, Tryz.ntmps47
  go_wp2_with fail
  refine C.out.mono ?_; intro e w2 hq
  cases R with
  | error x =>
    obtain ⟨rfl, b⟩ := hq
    unfold stopE
    go_wp2_with fail
    exact ⟨rfl, rfl, b⟩
  | ok ys =>
    obtain ⟨yo, yc, rfl, q1, q2⟩ := hq
    have Q := Lib.hid (And.intro q1 q2)
    clear q1 q2
    go_wp2_with fail
    go_ret
    exact ⟨yo, yc, rfl, Q.out.1, Q.out.2⟩

theorem cDeleteCol1 (b1 : Nat) (k : Int) (w : World) (hb1 : w.cell? ⟨b1, 0, none⟩ = some (.int .i64 k)) : RowFn w 31 #[.pointer (some ⟨b1, 0, none⟩)] (fun xs => delL xs k) (fun xs => xs.length ≤ 5000) := by
  intro W hW ao xs cap hok hx
  show Calls Tryz.prog 31 #[.slice ao xs.length cap.1, .pointer (some ⟨b1, 0, none⟩)] W (SNew (delL xs k) W)
  have kb1 := (hW.cell (p := ⟨b1, 0, none⟩) (block_lt_of_cell hb1)).trans hb1
  have hok : xs.length ≤ 5000 := hok
  have C := Lib.hid (del_s ao xs cap k W (by omega) hx)
  clear hx
  generalize delL xs k = R at C ⊢
  go_enter Tryz.func31, Tryz.ntmps31
  go_wp2_with fail
  refine C.out.mono ?_; intro e w2 hq
  cases R with
  | error x =>
    obtain ⟨rfl, b⟩ := hq
    unfold stopE
    go_wp2_with fail
    exact ⟨rfl, rfl, b⟩
  | ok ys =>
    obtain ⟨yo, yc, rfl, q1, q2⟩ := hq
    have Q := Lib.hid (And.intro q1 q2)
    clear q1 q2
    go_wp2_with fail
    go_ret
    exact ⟨yo, yc, rfl, Q.out.1, Q.out.2⟩

theorem cMoveCol1 (b1 b2 : Nat) (k : Int) (t : Int) (w : World) (hb1 : w.cell? ⟨b1, 0, none⟩ = some (.int .i64 k)) (hb2 : w.cell? ⟨b2, 0, none⟩ = some (.int .i64 t)) : RowFn w 29 #[.pointer (some ⟨b1, 0, none⟩), .pointer (some ⟨b2, 0, none⟩)] (fun xs => movL xs k t) (fun xs => xs.length ≤ 5000) := by
  intro W hW ao xs cap hok hx
  show Calls Tryz.prog 29 #[.slice ao xs.length cap.1, .pointer (some ⟨b1, 0, none⟩), .pointer (some ⟨b2, 0, none⟩)] W (SNew (movL xs k t) W)
  have kb1 := (hW.cell (p := ⟨b1, 0, none⟩) (block_lt_of_cell hb1)).trans hb1
  have kb2 := (hW.cell (p := ⟨b2, 0, none⟩) (block_lt_of_cell hb2)).trans hb2
  have hok : xs.length ≤ 5000 := hok
  have C := Lib.hid (mov_s ao xs cap k t W (by omega) hx)
  clear hx
  generalize movL xs k t = R at C ⊢
  go_enter Tryz.func29, Tryz.ntmps29
  go_wp2_with fail
  refine C.out.mono ?_; intro e w2 hq
  cases R with
  | error x =>
    obtain ⟨rfl, b⟩ := hq
    unfold stopE
    go_wp2_with fail
    exact ⟨rfl, rfl, b⟩
  | ok ys =>
    obtain ⟨yo, yc, rfl, q1, q2⟩ := hq
    have Q := Lib.hid (And.intro q1 q2)
    clear q1 q2
    go_wp2_with fail
    go_ret
    exact ⟨yo, yc, rfl, Q.out.1, Q.out.2⟩

theorem cProject1 (b1 : Nat) (po : Option Addr) (ps : List Int) (pc : Nat) (w : World) (hb1 : w.cell? ⟨b1, 0, none⟩ = some (.slice po ps.length pc)) (hp : IntsAt w po ps) (hpl : ps.length ≤ 5000) : RowFn w 43 #[.pointer (some ⟨b1, 0, none⟩)] (fun xs => pickL xs ps) (fun xs => xs.length ≤ 5000) := by
  intro W hW ao xs cap hok hx
  show Calls Tryz.prog 43 #[.slice ao xs.length cap.1, .pointer (some ⟨b1, 0, none⟩)] W (SNew (pickL xs ps) W)
  have kb1 := (hW.cell (p := ⟨b1, 0, none⟩) (block_lt_of_cell hb1)).trans hb1
  have hok : xs.length ≤ 5000 := hok
  have C := Lib.hid (chosen_any ao xs cap.1 po ps pc W (by omega) (by omega) hx (hp.kept hW))
  clear hx
  generalize pickL xs ps = R at C ⊢
  go_enter Tryz.func43, Tryz.ntmps43
  go_wp2_with fail
  refine C.out.mono ?_; intro e w2 hq
  cases R with
  | error x =>
    obtain ⟨rfl, b⟩ := hq
    unfold stopE
    go_wp2_with fail
    exact ⟨rfl, rfl, b⟩
  | ok ys =>
    obtain ⟨yo, yc, rfl, q1, q2⟩ := hq
    have Q := Lib.hid (And.intro q1 q2)
    clear q1 q2
    go_wp2_with fail
    go_ret
    exact ⟨yo, yc, rfl, Q.out.1, Q.out.2⟩

theorem cInsertRow1 (b1 b2 : Nat) (k : Int) (xo : Option Addr) (x : List ByteArray) (xc : Cap xo x.length) (w : World) (hb1 : w.cell? ⟨b1, 0, none⟩ = some (.int .i64 k)) (hb2 : w.cell? ⟨b2, 0, none⟩ = some (.slice xo x.length xc.1)) (hxx : StrRow w xo x) : RowsFn w 38 #[.pointer (some ⟨b1, 0, none⟩), .pointer (some ⟨b2, 0, none⟩)] (fun rs => insL rs k x) (fun rs => rs.length ≤ 5000) := by
  intro W hW ao rs cap hok hx
  show Calls Tryz.prog 38 #[.slice ao rs.length cap.1, .pointer (some ⟨b1, 0, none⟩), .pointer (some ⟨b2, 0, none⟩)] W (ROut (insL rs k x) W)
  have kb1 := (hW.cell (p := ⟨b1, 0, none⟩) (block_lt_of_cell hb1)).trans hb1
  have kb2 := (hW.cell (p := ⟨b2, 0, none⟩) (block_lt_of_cell hb2)).trans hb2
  have hok : rs.length ≤ 5000 := hok
  have C := Lib.hid (ins_r ao rs cap k xo x xc W (by omega) hx (hxx.kept hW))
  clear hx
  generalize insL rs k x = R at C ⊢
  go_enter Tryz.func38, Tryz.ntmps38
  go_wp2_with fail
  refine C.out.mono ?_; intro e w2 hq
  cases R with
  | error x =>
    obtain ⟨rfl, b⟩ := hq
    unfold stopE
    go_wp2_with fail
    exact ⟨rfl, rfl, b⟩
  | ok ys =>
    obtain ⟨yo, yc, rfl, q1, q2⟩ := hq
    have Q := Lib.hid (And.intro q1 q2)
    clear q1 q2
    go_wp2_with fail
    go_ret
    exact ⟨yo, yc, rfl, Q.out.1, Q.out.2⟩

theorem cDeleteRow1 (b1 : Nat) (k : Int) (w : World) (hb1 : w.cell? ⟨b1, 0, none⟩ = some (.int .i64 k)) : RowsFn w 53 #[.pointer (some ⟨b1, 0, none⟩)] (fun rs => delL rs k) (fun rs => rs.length ≤ 5000) := by
  intro W hW ao rs cap hok hx
  show Calls Tryz.prog 53 #[.slice ao rs.length cap.1, .pointer (some ⟨b1, 0, none⟩)] W (ROut (delL rs k) W)
  have kb1 := (hW.cell (p := ⟨b1, 0, none⟩) (block_lt_of_cell hb1)).trans hb1
  have hok : rs.length ≤ 5000 := hok
  have C := Lib.hid (del_r ao rs cap k W (by omega) hx)
  clear hx
  generalize delL rs k = R at C ⊢
  go_enter Tryz.func53, Tryz.ntmps53
  go_wp2_with fail
  refine C.out.mono ?_; intro e w2 hq
  cases R with
  | error x =>
    obtain ⟨rfl, b⟩ := hq
    unfold stopE
    go_wp2_with fail
    exact ⟨rfl, rfl, b⟩
  | ok ys =>
    obtain ⟨yo, yc, rfl, q1, q2⟩ := hq
    have Q := Lib.hid (And.intro q1 q2)
    clear q1 q2
    go_wp2_with fail
    go_ret
    exact ⟨yo, yc, rfl, Q.out.1, Q.out.2⟩

theorem cMoveRow1 (b1 b2 : Nat) (k : Int) (t : Int) (w : World) (hb1 : w.cell? ⟨b1, 0, none⟩ = some (.int .i64 k)) (hb2 : w.cell? ⟨b2, 0, none⟩ = some (.int .i64 t)) : RowsFn w 55 #[.pointer (some ⟨b1, 0, none⟩), .pointer (some ⟨b2, 0, none⟩)] (fun rs => movL rs k t) (fun rs => rs.length ≤ 5000) := by
  intro W hW ao rs cap hok hx
  show Calls Tryz.prog 55 #[.slice ao rs.length cap.1, .pointer (some ⟨b1, 0, none⟩), .pointer (some ⟨b2, 0, none⟩)] W (ROut (movL rs k t) W)
  have kb1 := (hW.cell (p := ⟨b1, 0, none⟩) (block_lt_of_cell hb1)).trans hb1
  have kb2 := (hW.cell (p := ⟨b2, 0, none⟩) (block_lt_of_cell hb2)).trans hb2
  have hok : rs.length ≤ 5000 := hok
  have C := Lib.hid (mov_r ao rs cap k t W (by omega) hx)
  clear hx
  generalize movL rs k t = R at C ⊢
  go_enter Tryz.func55, Tryz.ntmps55
  go_wp2_with fail
  refine C.out.mono ?_; intro e w2 hq
  cases R with
  | error x =>
    obtain ⟨rfl, b⟩ := hq
    unfold stopE
    go_wp2_with fail
    exact ⟨rfl, rfl, b⟩
  | ok ys =>
    obtain ⟨yo, yc, rfl, q1, q2⟩ := hq
    have Q := Lib.hid (And.intro q1 q2)
    clear q1 q2
    go_wp2_with fail
    go_ret
    exact ⟨yo, yc, rfl, Q.out.1, Q.out.2⟩

theorem cSameS (w : World) : HeadFn w 80 #[] (fun xs => .ok xs) (fun _ => True) := by
  intro W hW ao xs cap hok hx
  show Calls Tryz.prog 80 #[.slice ao xs.length cap.1] W _
  have HX := Lib.hid hx
  clear hx
  go_enter Tryz.func80, Tryz.ntmps80
  go_wp2_with fail
  go_ret
  exact ⟨ao, cap, rfl, HX.out, Below.refl _ _⟩
theorem cSameR (w : World) : RowsFn w 36 #[] (fun rs => .ok rs) (fun _ => True) := by
  intro W hW ao rs cap hok hx
  show Calls Tryz.prog 36 #[.slice ao rs.length cap.1] W _
  have HX := Lib.hid hx
  clear hx
  go_enter Tryz.func36, Tryz.ntmps36
  go_wp2_with fail
  go_ret
  exact ⟨ao, cap, rfl, HX.out, Below.refl _ _⟩

set_option maxRecDepth 100000 in
set_option maxHeartbeats 4000000 in
theorem cRenameCol1 (b1 b2 : Nat) (k : Int) (nm : ByteArray) (w : World) (hb1 : w.cell? ⟨b1, 0, none⟩ = some (.int .i64 k)) (hb2 : w.cell? ⟨b2, 0, none⟩ = some (.string nm)) : RowFn w 33 #[.pointer (some ⟨b1, 0, none⟩), .pointer (some ⟨b2, 0, none⟩)] (fun xs => setL xs k nm) (fun xs => xs.length ≤ 5000) := by
  intro W hW ao xs cap hok hx
  show Calls Tryz.prog 33 #[.slice ao xs.length cap.1, .pointer (some ⟨b1, 0, none⟩), .pointer (some ⟨b2, 0, none⟩)] W (SNew (setL xs k nm) W)
  have kb1 := (hW.cell (p := ⟨b1, 0, none⟩) (block_lt_of_cell hb1)).trans hb1
  have kb2 := (hW.cell (p := ⟨b2, 0, none⟩) (block_lt_of_cell hb2)).trans hb2
  have hok : xs.length ≤ 5000 := hok
  have hBd : Below W.heap.size W (W.drew.alloc (.cells #[.string nm] 9)) := ((Below.refl _ W).drew).alloc (Nat.le_refl _) _
  have HB := Lib.hid hBd
  have C := Lib.hid ((changedS ao xs cap k W.heap.size nm (W.drew.alloc (.cells #[.string nm] 9)) (by omega) (hx.kept hBd) ((Lib.cell_of_heap (World.alloc_heap_new W.drew (.cells #[.string nm] 9)) 0).trans rfl)).mono (fun e w' q => q.mono hBd))
  have l1 := block_lt_of_cell kb1
  have l2 := block_lt_of_cell kb2
  clear hx hBd
  generalize setL xs k nm = R at C ⊢
  go_enter Tryz.func33, Tryz.ntmps33
  go_wp2_with fail
  cases R with
  | error x =>
    refine wp_region_any (by kernel_rfl) ?_
    change wpAny _ _ _ _ _ _ _ (World.drew _)
    refine wpAny_take (i := 0) (v := .slice ao xs.length cap.1) rfl (by kernel_rfl) (by kernel_rfl) (by kernel_rfl) (fun _ _ _ h => h) (Or.inl ⟨by rfl, fun w => by go_simp⟩) ?_
    refine wpAny_ready (rs := [1, 2]) (by kernel_rfl) (by simp) (AllReady.cons rfl (fun K hK => ?_) (AllReady.cons rfl (fun K hK => ?_) AllReady.nil))
    · go_simp
      refine hK _ _ ?_; clear hK K
      refine wpAny_ready (rs := [2]) (by kernel_rfl) (by simp) (AllReady.cons rfl (fun K hK => ?_) AllReady.nil)
      go_simp
      refine hK _ _ ?_; clear hK K
      refine wpAny_ready (rs := [3]) (by kernel_rfl) (by simp) (AllReady.cons rfl (fun K hK => ?_) AllReady.nil)
      go_simp
      go_wp2_with (go_at_call 35; refine (always_any nm W.drew).mono ?_; rintro e w1 ⟨rfl, rfl⟩)
      (try (refine hK _ _ ?_; clear hK K))
      refine wpAny_ready (rs := [4]) (by kernel_rfl) (by simp) (AllReady.cons rfl (fun K hK => ?_) AllReady.nil)
      go_simp
      go_wp2_with fail
      refine C.out.mono ?_; rintro e w2 ⟨rfl, b⟩
      exact ⟨rfl, rfl, b⟩
    · go_simp
      refine hK _ _ ?_; clear hK K
      refine wpAny_ready (rs := [1, 3]) (by kernel_rfl) (by simp) (AllReady.cons rfl (fun K hK => ?_) (AllReady.cons rfl (fun K hK => ?_) AllReady.nil))
      · go_simp
        refine hK _ _ ?_; clear hK K
        refine wpAny_ready (rs := [3]) (by kernel_rfl) (by simp) (AllReady.cons rfl (fun K hK => ?_) AllReady.nil)
        go_simp
        go_wp2_with (go_at_call 35; refine (always_any nm W.drew).mono ?_; rintro e w1 ⟨rfl, rfl⟩)
        (try (refine hK _ _ ?_; clear hK K))
        refine wpAny_ready (rs := [4]) (by kernel_rfl) (by simp) (AllReady.cons rfl (fun K hK => ?_) AllReady.nil)
        go_simp
        go_wp2_with fail
        refine C.out.mono ?_; rintro e w2 ⟨rfl, b⟩
        exact ⟨rfl, rfl, b⟩
      · go_simp
        go_wp2_with (go_at_call 35; refine (always_any nm W.drew).mono ?_; rintro e w1 ⟨rfl, rfl⟩)
        (try (refine hK _ _ ?_; clear hK K))
        refine wpAny_ready (rs := [1]) (by kernel_rfl) (by simp) (AllReady.cons rfl (fun K hK => ?_) AllReady.nil)
        go_simp
        refine hK _ _ ?_; clear hK K
        refine wpAny_ready (rs := [4]) (by kernel_rfl) (by simp) (AllReady.cons rfl (fun K hK => ?_) AllReady.nil)
        go_simp
        go_wp2_with fail
        refine C.out.mono ?_; rintro e w2 ⟨rfl, b⟩
        exact ⟨rfl, rfl, b⟩
  | ok ys =>
    go_region_with (first | (go_at_call 35; refine (always_any nm W.drew).mono ?_; rintro e w1 ⟨rfl, rfl⟩) | (go_at_call 34; refine C.out.mono ?_; rintro e w2 ⟨yo, yc, rfl, q1, q2⟩; have Q := Lib.hid (And.intro q1 q2); clear q1 q2))
    all_goals (go_wp2_with fail; go_ret; exact ⟨yo, yc, rfl, Q.out.1, Q.out.2⟩)

set_option maxRecDepth 100000 in
set_option maxHeartbeats 4000000 in
theorem cSet11 (b1 b2 : Nat) (k : Int) (nm : ByteArray) (w : World) (hb1 : w.cell? ⟨b1, 0, none⟩ = some (.int .i64 k)) (hb2 : w.cell? ⟨b2, 0, none⟩ = some (.string nm)) : RowFn w 42 #[.pointer (some ⟨b1, 0, none⟩), .pointer (some ⟨b2, 0, none⟩)] (fun xs => setL xs k nm) (fun xs => xs.length ≤ 5000) := by
  intro W hW ao xs cap hok hx
  show Calls Tryz.prog 42 #[.slice ao xs.length cap.1, .pointer (some ⟨b1, 0, none⟩), .pointer (some ⟨b2, 0, none⟩)] W (SNew (setL xs k nm) W)
  have kb1 := (hW.cell (p := ⟨b1, 0, none⟩) (block_lt_of_cell hb1)).trans hb1
  have kb2 := (hW.cell (p := ⟨b2, 0, none⟩) (block_lt_of_cell hb2)).trans hb2
  have hok : xs.length ≤ 5000 := hok
  have hBd : Below W.heap.size W (W.drew.alloc (.cells #[.string nm] 9)) := ((Below.refl _ W).drew).alloc (Nat.le_refl _) _
  have HB := Lib.hid hBd
  have C := Lib.hid ((changedS ao xs cap k W.heap.size nm (W.drew.alloc (.cells #[.string nm] 9)) (by omega) (hx.kept hBd) ((Lib.cell_of_heap (World.alloc_heap_new W.drew (.cells #[.string nm] 9)) 0).trans rfl)).mono (fun e w' q => q.mono hBd))
  have l1 := block_lt_of_cell kb1
  have l2 := block_lt_of_cell kb2
  clear hx hBd
  generalize setL xs k nm = R at C ⊢
  go_enter Tryz.func42, Tryz.ntmps42
  go_wp2_with fail
  cases R with
  | error x =>
    refine wp_region_any (by kernel_rfl) ?_
    change wpAny _ _ _ _ _ _ _ (World.drew _)
    refine wpAny_take (i := 0) (v := .slice ao xs.length cap.1) rfl (by kernel_rfl) (by kernel_rfl) (by kernel_rfl) (fun _ _ _ h => h) (Or.inl ⟨by rfl, fun w => by go_simp⟩) ?_
    refine wpAny_ready (rs := [1, 2]) (by kernel_rfl) (by simp) (AllReady.cons rfl (fun K hK => ?_) (AllReady.cons rfl (fun K hK => ?_) AllReady.nil))
    · go_simp
      refine hK _ _ ?_; clear hK K
      refine wpAny_ready (rs := [2]) (by kernel_rfl) (by simp) (AllReady.cons rfl (fun K hK => ?_) AllReady.nil)
      go_simp
      refine hK _ _ ?_; clear hK K
      refine wpAny_ready (rs := [3]) (by kernel_rfl) (by simp) (AllReady.cons rfl (fun K hK => ?_) AllReady.nil)
      go_simp
      go_wp2_with (go_at_call 35; refine (always_any nm W.drew).mono ?_; rintro e w1 ⟨rfl, rfl⟩)
      (try (refine hK _ _ ?_; clear hK K))
      refine wpAny_ready (rs := [4]) (by kernel_rfl) (by simp) (AllReady.cons rfl (fun K hK => ?_) AllReady.nil)
      go_simp
      go_wp2_with fail
      refine C.out.mono ?_; rintro e w2 ⟨rfl, b⟩
      exact ⟨rfl, rfl, b⟩
    · go_simp
      refine hK _ _ ?_; clear hK K
      refine wpAny_ready (rs := [1, 3]) (by kernel_rfl) (by simp) (AllReady.cons rfl (fun K hK => ?_) (AllReady.cons rfl (fun K hK => ?_) AllReady.nil))
      · go_simp
        refine hK _ _ ?_; clear hK K
        refine wpAny_ready (rs := [3]) (by kernel_rfl) (by simp) (AllReady.cons rfl (fun K hK => ?_) AllReady.nil)
        go_simp
        go_wp2_with (go_at_call 35; refine (always_any nm W.drew).mono ?_; rintro e w1 ⟨rfl, rfl⟩)
        (try (refine hK _ _ ?_; clear hK K))
        refine wpAny_ready (rs := [4]) (by kernel_rfl) (by simp) (AllReady.cons rfl (fun K hK => ?_) AllReady.nil)
        go_simp
        go_wp2_with fail
        refine C.out.mono ?_; rintro e w2 ⟨rfl, b⟩
        exact ⟨rfl, rfl, b⟩
      · go_simp
        go_wp2_with (go_at_call 35; refine (always_any nm W.drew).mono ?_; rintro e w1 ⟨rfl, rfl⟩)
        (try (refine hK _ _ ?_; clear hK K))
        refine wpAny_ready (rs := [1]) (by kernel_rfl) (by simp) (AllReady.cons rfl (fun K hK => ?_) AllReady.nil)
        go_simp
        refine hK _ _ ?_; clear hK K
        refine wpAny_ready (rs := [4]) (by kernel_rfl) (by simp) (AllReady.cons rfl (fun K hK => ?_) AllReady.nil)
        go_simp
        go_wp2_with fail
        refine C.out.mono ?_; rintro e w2 ⟨rfl, b⟩
        exact ⟨rfl, rfl, b⟩
  | ok ys =>
    go_region_with (first | (go_at_call 35; refine (always_any nm W.drew).mono ?_; rintro e w1 ⟨rfl, rfl⟩) | (go_at_call 34; refine C.out.mono ?_; rintro e w2 ⟨yo, yc, rfl, q1, q2⟩; have Q := Lib.hid (And.intro q1 q2); clear q1 q2))
    all_goals (go_wp2_with fail; go_ret; exact ⟨yo, yc, rfl, Q.out.1, Q.out.2⟩)

end Go.Proofs.YtcifjclokfnocaaGreat
