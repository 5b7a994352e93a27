/-
  The document's reference: an edit, where what comes may hold rows of the table that it came of.
  Conditions: tables of at most 1000 rows of at most 1000 cells of at most 10000 bytes, edits as small.
  The document's reference: what comes of a renaming that nothing is wrong with.
  Conditions: tables and edits as small as the statements ask about (far more is borne: lists of at most 2^38 elements).
  The document's reference: a table with one column less.
  Conditions: tables as small as the statements ask about.
-/
import Derived.WalkKit
import Derived.WalkMore
import Derived.Lib.Hide
import Derived.Deep.RegionWith
import Derived.Deep.RegionHeld3
import Derived.OwnWalk
import Derived.OneCell
import Derived.Deep.AppendLies
import Derived.Deep.Onto
import Derived.Test.YtcifjclokfnocaaGreatProg
import Derived.Test.YtcifjclokfnocaaGreatERefD
namespace Go.Proofs.YtcifjclokfnocaaGreat
open Go.RowKit Go.Shelf
set_option linter.unusedVariables false

/-- what a call leaves that makes a table, whose rows may be older than n -/
def TabL (n : Nat) (t : Tab) (w : World) (e : Ending) (w' : World) : Prop := ∃ (ho : Option Addr) (hc : Cap ho t.1.length) (ro : Option Addr) (rc : Cap ro t.2.length), e = .returned (.agg #[.slice ho t.1.length hc.1, .slice ro t.2.length rc.1]) ∧ StrRow w' ho t.1 ∧ RowsAt w' ro t.2 ∧ Below w.heap.size w w' ∧ (t.2 ≠ [] → ∀ A, ro = some A → A.block < n ∨ w.heap.size ≤ A.block)
theorem TabV.loose {n : Nat} {t : Tab} {w w' : World} {e : Ending} (h : TabV t w e w') : TabL n t w e w' := by
  obtain ⟨ho, hc, ro, rc, h1, h2, h3, h4, h5⟩ := h.parts
  exact ⟨ho, hc, ro, rc, h1, h2, h3, h4, fun _ A hA => .inr (h5 A hA)⟩
/-- what a call leaves that makes a table, or tells an error; nothing is said of where the rows lie -/
def TabQ (x : Except Int Tab) (w : World) (e : Ending) (w' : World) : Prop :=
  match x with
  | .ok t => ∃ (ho : Option Addr) (hc : Cap ho t.1.length) (ro : Option Addr) (rc : Cap ro t.2.length), e = .returned (.tuple #[.agg #[.slice ho t.1.length hc.1, .slice ro t.2.length rc.1], .int .i64 0]) ∧ StrRow w' ho t.1 ∧ RowsAt w' ro t.2 ∧ Below w.heap.size w w'
  | .error x => ∃ (ho : Option Addr) (hc : Cap ho 0) (ro : Option Addr) (rc : Cap ro 0), e = .returned (.tuple #[.agg #[.slice ho 0 hc.1, .slice ro 0 rc.1], .int .i64 x]) ∧ Below w.heap.size w w'
theorem TabOut.loose {X : Except Int Tab} {w w' : World} {e : Ending} (h : TabOut X w e w') : TabQ X w e w' := by
  cases X with
  | error x => exact h
  | ok t => obtain ⟨a, b, c, d, h1, h2, h3, h4, _⟩ := h; exact ⟨a, b, c, d, h1, h2, h3, h4⟩
theorem TabQ.error_stored {X : Except Int Tab} {x : Int} {w W w1 : World} {b : Nat} (hX : X = .error x) (hb : Below w.heap.size w W) (h1 : Below W.heap.size W w1) (hz : w1.heap[b]? = some (.cells #[.slice none 0 0, .slice none 0 0] 25 (0, 0))) (hle : w.heap.size ≤ b) (hlt : b < W.heap.size) :
    TabQ X w (.returned (.tuple #[.agg #[.slice none 0 0, .slice none 0 0], .int .i64 x])) ((w1.setCell ⟨b, 0, none⟩ (.slice none 0 0)).setCell ⟨b, 1, none⟩ (.slice none 0 0)) :=
  TabOut.loose (TabOut.stored (by rw [hX]; exact ⟨none, ⟨0, Nat.le_refl _, fun _ => rfl⟩, none, ⟨0, Nat.le_refl _, fun _ => rfl⟩, rfl, h1⟩) hb hz hle hlt)
theorem TabQ.ok_stored {X : Except Int Tab} {t : Tab} {w W w1 : World} {b : Nat} {qo so : Option Addr} (qc : Cap qo t.1.length) (sc : Cap so t.2.length) (hX : X = .ok t) (hb : Below w.heap.size w W) (h1 : Below W.heap.size W w1) (hz : w1.heap[b]? = some (.cells #[.slice none 0 0, .slice none 0 0] 25 (0, 0))) (hle : w.heap.size ≤ b) (g1 : StrRow w1 qo t.1) (g2 : RowsAt w1 so t.2) (hf : t.2 ≠ [] → ∀ A, so = some A → A.block ≠ b) :
    TabQ X w (.returned (.tuple #[.agg #[.slice qo t.1.length qc.1, .slice so t.2.length sc.1], .int .i64 0])) ((w1.setCell ⟨b, 0, none⟩ (.slice qo t.1.length qc.1)).setCell ⟨b, 1, none⟩ (.slice so t.2.length sc.1)) := by
  have hk : ∀ k, k ≠ b → ((w1.setCell ⟨b, 0, none⟩ (.slice qo t.1.length qc.1)).setCell ⟨b, 1, none⟩ (.slice so t.2.length sc.1)).heap[k]? = w1.heap[k]? := fun k hk => (heap_setCell_other _ ⟨b, 1, none⟩ k _ hk).trans (heap_setCell_other _ ⟨b, 0, none⟩ k _ hk)
  have hs : w1.heap.size ≤ ((w1.setCell ⟨b, 0, none⟩ (.slice qo t.1.length qc.1)).setCell ⟨b, 1, none⟩ (.slice so t.2.length sc.1)).heap.size := by simp
  have hn : ∀ (j : Nat) s, (#[Value.slice none 0 0, Value.slice none 0 0] : Array Value)[j]? ≠ some (.string s) := fun j s e => by
    match j, e with
    | 0, e => simp at e
    | 1, e => simp at e
  have hR : RowsAt ((w1.setCell ⟨b, 0, none⟩ (.slice qo t.1.length qc.1)).setCell ⟨b, 1, none⟩ (.slice so t.2.length sc.1)) so t.2 := by
    by_cases h0 : t.2 = []
    · exact .inl h0
    · rcases g2 with h | ⟨A, rfl, hA⟩
      · exact absurd h h0
      · exact rows_turn hz hn hs hk (hf h0 A rfl) (.inr ⟨A, rfl, hA⟩)
  rw [hX]
  exact ⟨qo, qc, so, sc, rfl, str_turn hz hn hs hk g1, hR, ((below_up hb h1).setCell (p := ⟨b, 0, none⟩) hle _).setCell (p := ⟨b, 1, none⟩) hle _⟩

set_option maxRecDepth 100000 in
set_option maxHeartbeats 8000000 in
theorem rdoL_any (ho ro : Option Addr) (hd : List ByteArray) (rs : List (List ByteArray)) (hc : Cap ho hd.length) (rc : Cap ro rs.length) (kd a b : Int) (tx : ByteArray) (co : Option Addr) (cells : List ByteArray) (cc : Cap co cells.length) (po : Option Addr) (pn pc : Nat) (w : World) (f : Int) (t : Tab)
    (hs : smT hd rs) (hH : StrRow w ho hd) (hR : RowsAt w ro rs)
    (KW : ∀ V, Below w.heap.size w V → Calls Tryz.prog 24 #[.agg #[.slice ho hd.length hc.1, .slice ro rs.length rc.1], .agg #[.int .i64 kd, .int .i64 a, .int .i64 b, .string tx, .slice co cells.length cc.1, .slice po pn pc]] V fun e w' => e = .returned (.int .i64 f) ∧ Below V.heap.size V w')
    (KT : checkI hd rs = 0 → f = 0 → smT t.1 t.2 ∧ ∀ V, Below w.heap.size w V → Calls Tryz.prog 25 #[.agg #[.slice ho hd.length hc.1, .slice ro rs.length rc.1], .agg #[.int .i64 kd, .int .i64 a, .int .i64 b, .string tx, .slice co cells.length cc.1, .slice po pn pc]] V (TabL w.heap.size t V)) :
    Calls Tryz.prog 8 #[.agg #[.slice ho hd.length hc.1, .slice ro rs.length rc.1], .agg #[.int .i64 kd, .int .i64 a, .int .i64 b, .string tx, .slice co cells.length cc.1, .slice po pn pc]] w (TabQ (refR hd rs f t) w) := by
  obtain ⟨W, HW⟩ : ∃ W, Hid (W = ((w.alloc (TabO ho hd.length hc.1 ro rs.length rc.1)).alloc (EdO kd a b tx co cells.length cc.1 po pn pc)).alloc (.cells #[.slice none 0 0, .slice none 0 0] 25)) := ⟨_, Lib.hid rfl⟩
  have hB : Below w.heap.size w W := by rw [HW.out]; exact ((one_below _ _).alloc (by simp) _).alloc (by simp; omega) _
  have hN := two_new w (TabO ho hd.length hc.1 ro rs.length rc.1) (EdO kd a b tx co cells.length cc.1 po pn pc)
  have g0 : W.heap[w.heap.size]? = some (TabO ho hd.length hc.1 ro rs.length rc.1) := by rw [HW.out]; exact al_old _ hN.2.1
  have g1 : W.heap[w.heap.size + 1]? = some (EdO kd a b tx co cells.length cc.1 po pn pc) := by rw [HW.out]; exact al_old _ hN.2.2
  have g2 : W.heap[w.heap.size + 1 + 1]? = some (.cells #[.slice none 0 0, .slice none 0 0] 25 (0, 0)) := by
    rw [HW.out]
    have h := World.alloc_heap_new ((w.alloc (TabO ho hd.length hc.1 ro rs.length rc.1)).alloc (EdO kd a b tx co cells.length cc.1 po pn pc)) (.cells #[.slice none 0 0, .slice none 0 0] 25)
    simpa only [World.size_alloc] using h
  have hlt : w.heap.size + 1 + 1 < W.heap.size := lt_of_heap g2
  have HX : Hid (∀ V, Below W.heap.size W V → BoxT w W V) := Lib.hid (fun V hV => ⟨hV, hB, hlt, (hV.block _ hlt).trans g2⟩)
  have HS : Hid (∀ V, Below W.heap.size W V → (V.cell? ⟨w.heap.size, 0, none⟩ = some (.slice ho hd.length hc.1) ∧ V.cell? ⟨w.heap.size, 1, none⟩ = some (.slice ro rs.length rc.1)) ∧ (V.cell? ⟨w.heap.size + 1, 0, none⟩ = some (.int .i64 kd) ∧ V.cell? ⟨w.heap.size + 1, 1, none⟩ = some (.int .i64 a) ∧ V.cell? ⟨w.heap.size + 1, 2, none⟩ = some (.int .i64 b) ∧ V.cell? ⟨w.heap.size + 1, 3, none⟩ = some (.string tx) ∧ V.cell? ⟨w.heap.size + 1, 4, none⟩ = some (.slice co cells.length cc.1) ∧ V.cell? ⟨w.heap.size + 1, 5, none⟩ = some (.slice po pn pc))) := Lib.hid (fun V hV => ⟨tabs ((hV.block _ (lt_of_heap g0)).trans g0), edcells ((hV.block _ (lt_of_heap g1)).trans g1)⟩)
  have HZ : Hid (∀ V, Below W.heap.size W V → V.heap[w.heap.size + 1 + 1]? = some (.cells #[.slice none 0 0, .slice none 0 0] 25 (0, 0))) := Lib.hid (fun V hV => (hV.block _ hlt).trans g2)
  have HH : Hid (∀ V, Below W.heap.size W V → StrRow V ho hd) := Lib.hid (fun V hV => hH.kept (below_up hB hV))
  have HR : Hid (∀ V, Below W.heap.size W V → RowsAt V ro rs) := Lib.hid (fun V hV => hR.kept (below_up hB hV))
  have HW2 : Hid (W = ((w.alloc (Obj.cells #[Value.slice ho hd.length hc.1, Value.slice ro rs.length rc.1] 25)).alloc (Obj.cells #[Value.int .i64 kd, Value.int .i64 a, Value.int .i64 b, Value.string tx, Value.slice co cells.length cc.1, Value.slice po pn pc] 28)).alloc (Obj.cells #[Value.slice none 0 0, Value.slice none 0 0] 25)) := Lib.hid HW.out
  obtain ⟨⟨p0, p1⟩, e0, e1, e2, e3, e4, e5⟩ := HS.out W (Below.refl _ _)
  obtain ⟨z0, z1, f0, f1⟩ := zcells (HZ.out W (Below.refl _ _))
  have B0 := Lib.hid hB
  clear hB hN g0 g1 g2 hH hR HW
  have KC := Lib.hid (fun V (h : Below W.heap.size W V) => rcheck_sm ho hc.1 hd ro rc.1 rs V hs (HH.out V h) (HR.out V h))
  have KW' := Lib.hid (fun V (h : Below W.heap.size W V) => KW V (below_up B0.out h))
  have KT' := Lib.hid (fun h0 h1 => (⟨(KT h0 h1).1, fun V (h : Below W.heap.size W V) => (KT h0 h1).2 V (below_up B0.out h)⟩ : smT t.1 t.2 ∧ ∀ V, Below W.heap.size W V → _))
  clear KW KT hs
  generalize hX : refR hd rs f t = X
  have HRX := Lib.hid hX
  generalize hce : checkI hd rs = c at KC KT'
  have HCE := Lib.hid hce
  clear hX hce
  go_enter Tryz.func8, Tryz.ntmps8
  go_wp2_with fail
  rw [← HW2.out]
  refine (KC.out W (Below.refl _ _)).mono ?_; rintro e w1 ⟨rfl, b1⟩
  have B1 := Lib.hid b1
  clear b1 p0 p1 e0 e1 e2 e3 e4 e5 z0 z1 f0 f1
  obtain ⟨⟨p0, p1⟩, e0, e1, e2, e3, e4, e5⟩ := HS.out w1 B1.out
  obtain ⟨z0, z1, f0, f1⟩ := zcells (HZ.out w1 B1.out)
  by_cases h0 : c = 0
  case neg =>
    have hX : X = .error c := by rw [← HRX.out]; unfold refR; rw [HCE.out, if_neg h0]
    have HX0 := Lib.hid hX
    clear hX
    have hb : (c != 0) = true := by simp [h0]
    clear h0
    have Q := Lib.hid (TabQ.error_stored (W := W) HX0.out B0.out B1.out (HZ.out _ B1.out) (by omega) hlt)
    go_wp2_with fail
    exact bodyPost_ret (v := .tuple #[.agg #[.slice none 0 0, .slice none 0 0], .int .i64 c]) (by simp [results, Tryz.results8, go_sem, z0, z1]) rfl Q.out
  have H0 := Lib.hid h0
  have hb : (c != 0) = false := by simp [h0]
  go_wp2_with fail
  refine (KW'.out w1 B1.out).mono ?_; rintro e w2 ⟨rfl, b2⟩
  have B2 := Lib.hid (below_up B1.out b2)
  clear b2 p0 p1 e0 e1 e2 e3 e4 e5 z0 z1 f0 f1 hb
  obtain ⟨⟨p0, p1⟩, e0, e1, e2, e3, e4, e5⟩ := HS.out w2 B2.out
  obtain ⟨z0, z1, f0, f1⟩ := zcells (HZ.out w2 B2.out)
  by_cases h1 : f = 0
  case neg =>
    have hX : X = .error f := by rw [← HRX.out]; unfold refR; rw [HCE.out, if_pos H0.out, if_neg h1]
    have HX0 := Lib.hid hX
    clear hX
    have hb : (f != 0) = true := by simp [h1]
    clear h0 h1
    have Q := Lib.hid (TabQ.error_stored (W := W) HX0.out B0.out B2.out (HZ.out _ B2.out) (by omega) hlt)
    go_wp2_with fail
    exact bodyPost_ret (v := .tuple #[.agg #[.slice none 0 0, .slice none 0 0], .int .i64 f]) (by simp [results, Tryz.results8, go_sem, z0, z1]) rfl Q.out
  have H1 := Lib.hid h1
  have hb : (f != 0) = false := by simp [h1]
  obtain ⟨hsm, KT2⟩ := KT'.out h0 h1
  have HSM := Lib.hid hsm
  have C := Lib.hid (KT2 w2 B2.out)
  clear hsm KT2 KT' h0 h1
  go_wp2_with fail
  refine C.out.mono ?_; intro e w3 q
  obtain ⟨qo, qc, so, sc, rfl, k1, k2, k3, k4⟩ := q
  have D4 := Lib.hid (one_below w3 (TabO qo t.1.length qc.1 so t.2.length sc.1))
  have B4 := Lib.hid (below_up (below_up B2.out k3) D4.out)
  have HN := Lib.hid (World.alloc_heap_new w3 (TabO qo t.1.length qc.1 so t.2.length sc.1))
  have K1 := Lib.hid (k1.kept D4.out)
  have K2 := Lib.hid (k2.kept D4.out)
  have K4 : Hid (t.2 ≠ [] → ∀ A, so = some A → A.block ≠ w.heap.size + 1 + 1) := Lib.hid (fun h0 A hA => by have := k4 h0 A hA; have := B2.out.size; omega)
  clear k1 k2 k3 k4 C p0 p1 e0 e1 e2 e3 e4 e5 z0 z1 f0 f1 hb
  obtain ⟨u0, u1⟩ := tabs HN.out
  have C := Lib.hid (rcheck_sm qo qc.1 t.1 so sc.1 t.2 _ HSM.out K1.out K2.out)
  generalize hge : checkI t.1 t.2 = g at C
  have HGE := Lib.hid hge
  clear hge
  go_wp2_with fail
  refine C.out.mono ?_; rintro e w5 ⟨rfl, b5⟩
  have D5 := Lib.hid b5
  have B5 := Lib.hid (below_up B4.out b5)
  clear b5 C u0 u1
  obtain ⟨u0, u1⟩ := tabs (bk_kept HN.out D5.out)
  obtain ⟨z0, z1, f0, f1⟩ := zcells (HZ.out w5 B5.out)
  by_cases h2 : g = 0
  case neg =>
    have hX : X = .error g := by rw [← HRX.out]; unfold refR; rw [HCE.out, if_pos H0.out, if_pos H1.out, HGE.out, if_neg h2]
    have HX0 := Lib.hid hX
    clear hX
    have hb : (g != 0) = true := by simp [h2]
    clear h2
    have Q := Lib.hid (TabQ.error_stored (W := W) HX0.out B0.out B5.out (HZ.out _ B5.out) (by omega) hlt)
    go_wp2_with fail
    exact bodyPost_ret (v := .tuple #[.agg #[.slice none 0 0, .slice none 0 0], .int .i64 g]) (by simp [results, Tryz.results8, go_sem, z0, z1]) rfl Q.out
  have H2 := Lib.hid h2
  have hb : (g != 0) = false := by simp [h2]
  have hX : X = .ok t := by rw [← HRX.out]; unfold refR; rw [HCE.out, if_pos H0.out, if_pos H1.out, HGE.out, if_pos h2]
  have HX0 := Lib.hid hX
  have Q := Lib.hid (TabQ.ok_stored (W := W) qc sc HX0.out B0.out B5.out (HZ.out _ B5.out) (by omega) (K1.out.kept D5.out) (K2.out.kept D5.out) (fun h0 A hA => K4.out h0 A hA))
  clear h2 hX
  go_wp2_with fail
  exact bodyPost_ret (v := .tuple #[.agg #[.slice qo t.1.length qc.1, .slice so t.2.length sc.1], .int .i64 0]) (by simp [results, Tryz.results8, go_sem, z0, z1]) rfl Q.out
end Go.Proofs.YtcifjclokfnocaaGreat
namespace Go.Proofs.YtcifjclokfnocaaGreat
open Go.RowKit Go.Shelf
set_option linter.unusedVariables false

theorem turnedL_end {n : Nat} {w W V : World} {ho ro : Option Addr} {h : List ByteArray} {r : List (List ByteArray)} (hc : Cap ho h.length) (rc : Cap ro r.length) (hB : BoxT w W V) (hH : StrRow V ho h) (hR : RowsAt V ro r) (hf : r ≠ [] → ∀ A, ro = some A → A.block ≠ w.heap.size + 1 + 1 ∧ (A.block < n ∨ w.heap.size ≤ A.block)) :
    TabL n (h, r) w (.returned (.agg #[.slice ho h.length hc.1, .slice ro r.length rc.1])) ((V.setCell ⟨w.heap.size + 1 + 1, 0, none⟩ (.slice ho h.length hc.1)).setCell ⟨w.heap.size + 1 + 1, 1, none⟩ (.slice ro r.length rc.1)) := by
  have hk : ∀ k, k ≠ w.heap.size + 1 + 1 → ((V.setCell ⟨w.heap.size + 1 + 1, 0, none⟩ (.slice ho h.length hc.1)).setCell ⟨w.heap.size + 1 + 1, 1, none⟩ (.slice ro r.length rc.1)).heap[k]? = V.heap[k]? := fun k hk => (heap_setCell_other _ ⟨w.heap.size + 1 + 1, 1, none⟩ k _ hk).trans (heap_setCell_other _ ⟨w.heap.size + 1 + 1, 0, none⟩ k _ hk)
  have hs : V.heap.size ≤ ((V.setCell ⟨w.heap.size + 1 + 1, 0, none⟩ (.slice ho h.length hc.1)).setCell ⟨w.heap.size + 1 + 1, 1, none⟩ (.slice ro r.length rc.1)).heap.size := by simp
  have hn : ∀ (j : Nat) s, (#[Value.slice none 0 0, Value.slice none 0 0] : Array Value)[j]? ≠ some (.string s) := fun j s e => by
    match j, e with
    | 0, e => simp at e
    | 1, e => simp at e
  have hR2 : RowsAt ((V.setCell ⟨w.heap.size + 1 + 1, 0, none⟩ (.slice ho h.length hc.1)).setCell ⟨w.heap.size + 1 + 1, 1, none⟩ (.slice ro r.length rc.1)) ro r := by
    by_cases h0 : r = []
    · exact .inl h0
    · rcases hR with h | ⟨A, rfl, hA⟩
      · exact absurd h h0
      · exact rows_turn hB.2.2.2 hn hs hk (hf h0 A rfl).1 (.inr ⟨A, rfl, hA⟩)
  exact ⟨ho, hc, ro, rc, rfl, str_turn hB.2.2.2 hn hs hk hH, hR2, ((below_up hB.2.1 hB.1).setCell (p := ⟨w.heap.size + 1 + 1, 0, none⟩) (by show w.heap.size ≤ w.heap.size + 1 + 1; omega) _).setCell (p := ⟨w.heap.size + 1 + 1, 1, none⟩) (by show w.heap.size ≤ w.heap.size + 1 + 1; omega) _, fun h0 A hA => (hf h0 A hA).2⟩

set_option maxRecDepth 100000 in
set_option maxHeartbeats 8000000 in
theorem rturned2 (ho ro : Option Addr) (hd : List ByteArray) (rs : List (List ByteArray)) (hc : Cap ho hd.length) (rc : Cap ro rs.length) (j : Nat) (b : Int) (tx : ByteArray) (co : Option Addr) (cells : List ByteArray) (cc : Cap co cells.length) (po : Option Addr) (pn pc : Nat) (w : World)
    (n : Nat) (hnw : n ≤ w.heap.size) (hro : rs ≠ [] → ∀ A, ro = some A → A.block < n) (hn : hd.length ≤ 1000) (hH : StrRow w ho hd) (hR : RowsAt w ro rs) (hC : StrRow w co cells) (hj : j < hd.length) :
    Calls Tryz.prog 25 #[.agg #[.slice ho hd.length hc.1, .slice ro rs.length rc.1], .agg #[.int .i64 2, .int .i64 j, .int .i64 b, .string tx, .slice co cells.length cc.1, .slice po pn pc]] w (TabL n ((hd.take j ++ hd.drop (j + 1)).take j ++ tx :: (hd.take j ++ hd.drop (j + 1)).drop j, rs) w) := by
  obtain ⟨W, HW⟩ : ∃ W, Hid (W = ((w.alloc (TabO ho hd.length hc.1 ro rs.length rc.1)).alloc (EdO 2 j b tx co cells.length cc.1 po pn pc)).alloc (.cells #[.slice none 0 0, .slice none 0 0] 25)) := ⟨_, Lib.hid rfl⟩
  have hB : Below w.heap.size w W := by rw [HW.out]; exact ((one_below _ _).alloc (by simp) _).alloc (by simp; omega) _
  have hN := two_new w (TabO ho hd.length hc.1 ro rs.length rc.1) (EdO 2 j b tx co cells.length cc.1 po pn pc)
  have g0 : W.heap[w.heap.size]? = some (TabO ho hd.length hc.1 ro rs.length rc.1) := by rw [HW.out]; exact al_old _ hN.2.1
  have g1 : W.heap[w.heap.size + 1]? = some (EdO 2 j b tx co cells.length cc.1 po pn pc) := by rw [HW.out]; exact al_old _ hN.2.2
  have g2 : W.heap[w.heap.size + 1 + 1]? = some (.cells #[.slice none 0 0, .slice none 0 0] 25 (0, 0)) := by
    rw [HW.out]
    have h := World.alloc_heap_new ((w.alloc (TabO ho hd.length hc.1 ro rs.length rc.1)).alloc (EdO 2 j b tx co cells.length cc.1 po pn pc)) (.cells #[.slice none 0 0, .slice none 0 0] 25)
    simpa only [World.size_alloc] using h
  have hlt : w.heap.size + 1 + 1 < W.heap.size := lt_of_heap g2
  have HX : Hid (∀ V, Below W.heap.size W V → BoxT w W V) := Lib.hid (fun V hV => ⟨hV, hB, hlt, (hV.block _ hlt).trans g2⟩)
  have HS : Hid (∀ V, Below W.heap.size W V → (V.cell? ⟨w.heap.size, 0, none⟩ = some (.slice ho hd.length hc.1) ∧ V.cell? ⟨w.heap.size, 1, none⟩ = some (.slice ro rs.length rc.1)) ∧ (V.cell? ⟨w.heap.size + 1, 0, none⟩ = some (.int .i64 2) ∧ V.cell? ⟨w.heap.size + 1, 1, none⟩ = some (.int .i64 j) ∧ V.cell? ⟨w.heap.size + 1, 2, none⟩ = some (.int .i64 b) ∧ V.cell? ⟨w.heap.size + 1, 3, none⟩ = some (.string tx) ∧ V.cell? ⟨w.heap.size + 1, 4, none⟩ = some (.slice co cells.length cc.1) ∧ V.cell? ⟨w.heap.size + 1, 5, none⟩ = some (.slice po pn pc))) := Lib.hid (fun V hV => ⟨tabs ((hV.block _ (lt_of_heap g0)).trans g0), edcells ((hV.block _ (lt_of_heap g1)).trans g1)⟩)
  have HZ : Hid (∀ V, Below W.heap.size W V → V.heap[w.heap.size + 1 + 1]? = some (.cells #[.slice none 0 0, .slice none 0 0] 25 (0, 0))) := Lib.hid (fun V hV => (hV.block _ hlt).trans g2)
  have HH : Hid (∀ V, Below W.heap.size W V → StrRow V ho hd) := Lib.hid (fun V hV => hH.kept (below_up hB hV))
  have HR : Hid (∀ V, Below W.heap.size W V → RowsAt V ro rs) := Lib.hid (fun V hV => hR.kept (below_up hB hV))
  have HC : Hid (∀ V, Below W.heap.size W V → StrRow V co cells) := Lib.hid (fun V hV => hC.kept (below_up hB hV))
  have HW2 : Hid (W = ((w.alloc (Obj.cells #[Value.slice ho hd.length hc.1, Value.slice ro rs.length rc.1] 25)).alloc (Obj.cells #[Value.int .i64 2, Value.int .i64 j, Value.int .i64 b, Value.string tx, Value.slice co cells.length cc.1, Value.slice po pn pc] 28)).alloc (Obj.cells #[Value.slice none 0 0, Value.slice none 0 0] 25)) := Lib.hid HW.out
  obtain ⟨⟨p0, p1⟩, e0, e1, e2, e3, e4, e5⟩ := HS.out W (Below.refl _ _)
  obtain ⟨z0, z1, f0, f1⟩ := zcells (HZ.out W (Below.refl _ _))
  clear hB hN g0 g1 g2 hH hR hC HW
  obtain ⟨y, Hy⟩ : ∃ y, Hid (y = hd.take j ++ hd.drop (j + 1)) := ⟨_, Lib.hid rfl⟩
  have hyl : y.length = hd.length - 1 := by rw [Hy.out]; simp; omega
  have K2 := Lib.hid (fun V (h : Below W.heap.size W V) => rout_s ho hd hc.1 j V hj (by omega) (HH.out V h))
  rw [← Hy.out] at K2
  rw [← Hy.out]
  have K3 := Lib.hid (fun V so (sc : Cap so y.length) (hr : StrRow V so y) => rput_s so y sc.1 j tx V (by omega) (by omega) hr)
  generalize y.take j ++ tx :: y.drop j = F at K3 ⊢
  have HRO : Hid (rs ≠ [] → ∀ A, ro = some A → A.block ≠ w.heap.size + 1 + 1 ∧ (A.block < n ∨ w.heap.size ≤ A.block)) := Lib.hid (fun h0 A hA => by have := hro h0 A hA; omega)
  clear hyl Hy hro
  have B1 : Hid (Below W.heap.size W W.drew) := Lib.hid (Below.refl _ _).drew
  go_enter Tryz.func25, Tryz.ntmps25
  go_wp2_with fail
  rw [← HW2.out]
  go_region_held3 (fun V => V.cell? ⟨w.heap.size, 0, none⟩ = some (.slice ho hd.length hc.1) ∧ V.cell? ⟨w.heap.size, 1, none⟩ = some (.slice ro rs.length rc.1) ∧ V.cell? ⟨w.heap.size + 1, 1, none⟩ = some (.int .i64 j) ∧ V.cell? ⟨w.heap.size + 1, 2, none⟩ = some (.int .i64 b) ∧ V.cell? ⟨w.heap.size + 1, 3, none⟩ = some (.string tx) ∧ V.cell? ⟨w.heap.size + 1, 4, none⟩ = some (.slice co cells.length cc.1)) ((refine ⟨?_, ?_, ?_, ?_, ?_, ?_⟩ <;> first | assumption | exact keep_at (by assumption) (by first | assumption | (dsimp only; omega)) | go_keep))
    (first | (go_at_call 63; refine (K2.out _ B1.out).mono ?_; rintro e wP ⟨sP, cP, rfl, h1, h2⟩; have SZ := Lib.hid B1.out.size; have B1 : Hid (Below W.heap.size W wP) := Lib.hid (below_up B1.out h2); (try (have FO := Lib.hid (FO.out.kept h2))); (try (have FP := Lib.hid (FP.out.kept h2))); (try (have FQ := Lib.hid (FQ.out.kept h2))); have FP := Lib.hid h1.1; have FPf := Lib.hid h1.2; obtain ⟨⟨p0, p1⟩, e0, e1, e2, e3, e4, e5⟩ := HS.out wP B1.out; obtain ⟨z0, z1, f0, f1⟩ := zcells (HZ.out wP B1.out); clear h1 h2) | (go_at_call 62; refine (K3.out _ _ _ FP.out).mono ?_; rintro e wQ ⟨sQ, cQ, rfl, h1, h2⟩; have SZ := Lib.hid B1.out.size; have B1 : Hid (Below W.heap.size W wQ) := Lib.hid (below_up B1.out h2); (try (have FO := Lib.hid (FO.out.kept h2))); (try (have FP := Lib.hid (FP.out.kept h2))); (try (have FQ := Lib.hid (FQ.out.kept h2))); have FQ := Lib.hid h1.1; have FQf := Lib.hid h1.2; obtain ⟨⟨p0, p1⟩, e0, e1, e2, e3, e4, e5⟩ := HS.out wQ B1.out; obtain ⟨z0, z1, f0, f1⟩ := zcells (HZ.out wQ B1.out); clear h1 h2))
  all_goals
    rename_i hHeld
    clear hHeld
    have Q := Lib.hid (turnedL_end cQ rc (HX.out wQ B1.out) FQ.out (HR.out wQ B1.out) HRO.out)
    go_wp2_with fail
    exact bodyPost_ret (v := .agg #[.slice sQ F.length cQ.1, .slice ro rs.length rc.1]) (by simp [results, Tryz.results25, go_sem, z0, z1]) rfl Q.out
end Go.Proofs.YtcifjclokfnocaaGreat
namespace Go.Proofs.YtcifjclokfnocaaGreat
open Go.RowKit Go.Shelf
set_option linter.unusedVariables false

/-- a row with one cell less -/
def lessC (j : Nat) (r : List ByteArray) : List ByteArray := r.take j ++ r.drop (j + 1)
/-- the rows that were appended to a field so far -/
structure Grows (wr : World) (B : Nat) (v : Value) (k : Nat) (L : List RowL) (out : List (List ByteArray)) : Prop where
  own : wr.ownsRow (B + 1) 22 1 v k (L.map RowL.val)
  is : L.map RowL.r = out
  each : ∀ z ∈ L, StrRow wr z.ro z.r ∧ (z.r ≠ [] → ∀ A, z.ro = some A → A.block ≠ B ∧ some A.block ≠ v.ownBlock)
theorem Grows.nil (wr : World) (B : Nat) : Grows wr B (.slice none 0 0) 0 [] [] := ⟨World.ownsRow_nil _ _ _ _, rfl, fun z hz => by cases hz⟩
theorem Grows.kept {wr w' : World} {B : Nat} {v : Value} {k : Nat} {L : List RowL} {out : List (List ByteArray)} (h : Grows wr B v k L out) (hB : Below wr.heap.size wr w') : Grows w' B v k L out :=
  ⟨ownsRow_below h.own hB, h.is, fun z hz => ⟨(h.each z hz).1.kept hB, (h.each z hz).2⟩⟩
theorem strRow_off {w w' : World} {ao : Option Addr} {xs : List ByteArray} (h : StrRow w ao xs) (hs : w.heap.size ≤ w'.heap.size) (hk : xs ≠ [] → ∀ A, ao = some A → w'.heap[A.block]? = w.heap[A.block]?) : StrRow w' ao xs := by
  rcases h with h | ⟨A, h1, h2, h3⟩
  · exact .inl h
  · by_cases h0 : xs = []
    · exact .inl h0
    · refine .inr ⟨A, h1, Nat.lt_of_lt_of_le h2 hs, fun i c hc => ?_⟩
      rw [← h3 i c hc]
      have := hk h0 A h1
      exact World.cell?_of_block (a := A.add i) (by rw [add_block]; exact this)
/-- one row more, and the field turned -/
theorem Grows.next {wr wO w3 : World} {B : Nat} {v : Value} {k : Nat} {L : List RowL} {out : List (List ByteArray)} (h : Grows wr B v k L out) (hBl : B < wr.heap.size) (hB : Below wr.heap.size wr wO) {so : Option Addr} {x : List ByteArray} (xc : Cap so x.length) (hx : StrRow wO so x) (hf : ∀ A, so = some A → wr.heap.size ≤ A.block) {o : Obj} {g cap : Nat}
    (ho : w3.ownsRow (B + 1) 22 1 (.slice (some ⟨g, 0, none⟩) (k + 1) cap) (k + 1) (L.map RowL.val ++ [.slice so x.length xc.1])) (hg : (wO.alloc o).grownBy w3 v.ownBlock) (hl : v.ownBlock = some g ∨ g = (wO.alloc o).heap.size) :
    Grows (w3.setCell ⟨B, 1, none⟩ (.slice (some ⟨g, 0, none⟩) (k + 1) cap)) B (.slice (some ⟨g, 0, none⟩) (k + 1) cap) (k + 1) (L ++ [⟨so, x, xc⟩]) (out ++ [x]) := by
  have hgB := (ho.lt g rfl).1
  have hs3 : (wO.alloc o).heap.size ≤ w3.heap.size := hg.size
  have keep : ∀ (A : Addr), A.block < wO.heap.size → A.block ≠ B → some A.block ≠ v.ownBlock → (w3.setCell ⟨B, 1, none⟩ (.slice (some ⟨g, 0, none⟩) (k + 1) cap)).heap[A.block]? = wO.heap[A.block]? := fun A h1 h2 h3 => by
    rw [heap_setCell_other _ ⟨B, 1, none⟩ _ _ h2, hg.block A.block (by simp; omega) h3, Below.heap_alloc _ _ _ h1]
  have hss : wO.heap.size ≤ (w3.setCell ⟨B, 1, none⟩ (.slice (some ⟨g, 0, none⟩) (k + 1) cap)).heap.size := by simp at hs3 ⊢; omega
  refine ⟨?_, by rw [List.map_append, h.is]; rfl, fun z hz => ?_⟩
  · rw [List.map_append]
    exact ownsRow_setCell_other ho (by simp [Value.ownBlock]; omega) _
  · rcases List.mem_append.1 hz with hz | hz
    · obtain ⟨h1, h2⟩ := h.each z hz
      have h1' := h1.kept hB
      have hlt : z.r ≠ [] → ∀ A, z.ro = some A → A.block < wr.heap.size := fun h0 A hA => by
        rcases h1 with h | ⟨A', e, h3, _⟩
        · exact absurd h h0
        · rw [e] at hA; cases hA; exact h3
      refine ⟨strRow_off h1' hss (fun h0 A hA => keep A (Nat.lt_of_lt_of_le (hlt h0 A hA) hB.size) (h2 h0 A hA).1 (h2 h0 A hA).2), fun h0 A hA => ⟨(h2 h0 A hA).1, fun e => ?_⟩⟩
      have e' : A.block = g := by simpa [Value.ownBlock] using e
      rcases hl with hl | hl
      · exact (h2 h0 A hA).2 (by rw [hl, e'])
      · have := hlt h0 A hA; have := hB.size; simp at hl; omega
    · simp at hz; subst hz
      have hlt : x ≠ [] → ∀ A, so = some A → A.block < wO.heap.size := fun h0 A hA => by
        rcases hx with h | ⟨A', e, h3, _⟩
        · exact absurd h h0
        · rw [e] at hA; cases hA; exact h3
      have hne : ∀ A, so = some A → some A.block ≠ v.ownBlock := fun A hA e => by
        have := (h.own.lt A.block e.symm).2; have := hf A hA; omega
      refine ⟨strRow_off hx hss (fun h0 A hA => keep A (hlt h0 A hA) (by have := hf A hA; omega) (hne A hA)), fun h0 A hA => ⟨by have := hf A hA; omega, fun e => ?_⟩⟩
      have e' : A.block = g := by simpa [Value.ownBlock] using e
      rcases hl with hl | hl
      · exact hne A hA (by rw [hl, e'])
      · have := hlt h0 A hA; simp at hl; omega
end Go.Proofs.YtcifjclokfnocaaGreat
