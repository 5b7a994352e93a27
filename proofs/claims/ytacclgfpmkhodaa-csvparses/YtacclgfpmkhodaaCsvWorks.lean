/-
  The document's examples of records, as the statements ask about them.
  Conditions: none.
-/
import Derived.WalkKit
import Derived.WalkMore
import Derived.Lib.Hide
import Derived.Test.YtacclgfpmkhodaaProg
import Derived.Test.YtacclgfpmkhodaaCsvParse
namespace Go.Proofs.Ytacclgfpmkhodaa
open Go.RowKit Go.Shelf

theorem new_cell (w : World) (cs : Array Value) (T : TypeId) (i : Nat) : (w.alloc (.cells cs T)).cell? ((⟨w.heap.size, 0, none⟩ : Addr).add i) = cs[i]? := cell_row (World.alloc_heap_new w _) i
/-- a slice literal of strings -/
theorem new_row (w : World) (xs : List ByteArray) (T : TypeId) : StrRow (w.alloc (.cells (xs.map Value.string).toArray T)) (some ⟨w.heap.size, 0, none⟩) xs :=
  .inr ⟨_, rfl, by simp, fun i c hc => by rw [new_cell]; simp [hc]⟩
theorem rows_one (w : World) (ro : Option Addr) (cap : Nat) (r : List ByteArray) (T : TypeId) (h : StrRow w ro r) : RowsAt (w.alloc (.cells #[.slice ro r.length cap] T)) (some ⟨w.heap.size, 0, none⟩) [r] := by
  have hB : Below w.heap.size w (w.alloc (.cells #[.slice ro r.length cap] T)) := (Below.refl _ w).alloc (Nat.le_refl _) _
  refine .inr ⟨_, rfl, by simp, fun i x hx => ?_⟩
  match i, hx with
  | 0, hx => simp at hx; subst hx; exact ⟨ro, cap, by rw [new_cell]; rfl, h.kept hB⟩
theorem rows_two (w : World) (ro so : Option Addr) (c1 c2 : Nat) (r s : List ByteArray) (T : TypeId) (h : StrRow w ro r) (k : StrRow w so s) : RowsAt (w.alloc (.cells #[.slice ro r.length c1, .slice so s.length c2] T)) (some ⟨w.heap.size, 0, none⟩) [r, s] := by
  have hB : Below w.heap.size w (w.alloc (.cells #[.slice ro r.length c1, .slice so s.length c2] T)) := (Below.refl _ w).alloc (Nat.le_refl _) _
  refine .inr ⟨_, rfl, by simp, fun i x hx => ?_⟩
  match i, hx with
  | 0, hx => simp at hx; subst hx; exact ⟨ro, c1, by rw [new_cell]; rfl, h.kept hB⟩
  | 1, hx => simp at hx; subst hx; exact ⟨so, c2, by rw [new_cell]; rfl, k.kept hB⟩

def A1 : ByteArray := ⟨#[97, 44, 98, 10, 99]⟩
def A2 : ByteArray := ⟨#[10]⟩
def A3 : ByteArray := ⟨#[97, 10, 34]⟩
def bA : ByteArray := ⟨#[97]⟩
def bB : ByteArray := ⟨#[98]⟩
def bC : ByteArray := ⟨#[99]⟩
def bE : ByteArray := ⟨#[]⟩
theorem ex1 : parseL A1.data.toList 44 = ([[[97], [98]], [[99]]], 0, 0) := by decide
theorem ex2 : parseL A2.data.toList 44 = ([[[]]], 0, 0) := by decide
theorem ex3 : parseL A3.data.toList 44 = ([], 2, 4) := by decide
theorem ex4 : printL [[bA, bB], [bE]] 44 true = ([97, 44, 98, 13, 10, 13, 10], 0) := by decide

theorem rows_len (rs : List (List ByteArray)) (L : Recs) (h : recsOf rs = L) : rs.length = L.length ∧ ∀ n, (∀ x ∈ L, x.length ≤ n) → ∀ r ∈ rs, r.length ≤ n := by
  subst h
  refine ⟨by simp [recsOf], fun n hn r hr => ?_⟩
  have := hn (bytesOf r) (List.mem_map.2 ⟨r, hr, rfl⟩)
  simpa [bytesOf] using this
/-- the answer to an example -/
def Example (w : World) (n : Nat) (L : Recs) (a e : Int) (x : Ending) (w' : World) : Prop := ∃ ao cap rs, x = .returned (.tuple #[.slice ao n cap, .int .i64 a, .int .i64 e]) ∧ n = rs.length ∧ RowsAt w' ao rs ∧ recsOf rs = L ∧ Below w.heap.size w w'
theorem parsed_as {w w' : World} {x : Recs × Int × Nat} {e : Ending} (h : Parsed w x e w') (L : Recs) (a c : Nat) (hx : x = (L, (a : Int), c)) : Example w L.length L (a : Int) (c : Int) e w' := by
  obtain ⟨ao, cap, rs, rfl, h1, h2, h3⟩ := h
  subst hx
  have hn := (rows_len rs L h2).1
  exact ⟨ao, cap, rs, by rw [← hn]; rfl, hn.symm, h1, h2, h3⟩
theorem ex1_any (w : World) : Calls Try.prog 5 #[.string ⟨#[97, 44, 98, 10, 99]⟩, .int .u8 44] w fun e w' => Example w 2 [[[97], [98]], [[99]]] 0 0 e w' :=
  (parse_any A1 44 w (by decide)).mono fun _ _ h => parsed_as h [[[97], [98]], [[99]]] 0 0 ex1
theorem ex2_any (w : World) : Calls Try.prog 5 #[.string ⟨#[10]⟩, .int .u8 44] w fun e w' => Example w 1 [[[]]] 0 0 e w' :=
  (parse_any A2 44 w (by decide)).mono fun _ _ h => parsed_as h [[[]]] 0 0 ex2
theorem ex3_any (w : World) : Calls Try.prog 5 #[.string ⟨#[97, 10, 34]⟩, .int .u8 44] w fun e w' => Example w 0 [] 2 4 e w' :=
  (parse_any A3 44 w (by decide)).mono fun _ _ h => parsed_as h [] 2 4 ex3
theorem lit2 (u : World) (r s : List ByteArray) (T1 T2 T3 : TypeId) :
    RowsAt (((u.alloc (.cells (r.map Value.string).toArray T1)).alloc (.cells (s.map Value.string).toArray T2)).alloc (.cells #[.slice (some ⟨u.heap.size, 0, none⟩) r.length r.length, .slice (some ⟨u.heap.size + 1, 0, none⟩) s.length s.length] T3)) (some ⟨u.heap.size + 1 + 1, 0, none⟩) [r, s] ∧
    Below u.heap.size u (((u.alloc (.cells (r.map Value.string).toArray T1)).alloc (.cells (s.map Value.string).toArray T2)).alloc (.cells #[.slice (some ⟨u.heap.size, 0, none⟩) r.length r.length, .slice (some ⟨u.heap.size + 1, 0, none⟩) s.length s.length] T3)) := by
  have b1 : Below (u.alloc (.cells (r.map Value.string).toArray T1)).heap.size _ ((u.alloc (.cells (r.map Value.string).toArray T1)).alloc (.cells (s.map Value.string).toArray T2)) := (Below.refl _ _).alloc (Nat.le_refl _) _
  have h1 := (new_row u r T1).kept b1
  have h2 := new_row (u.alloc (.cells (r.map Value.string).toArray T1)) s T2
  rw [World.size_alloc] at h2
  have h := rows_two _ _ _ r.length s.length r s T3 h1 h2
  rw [World.size_alloc, World.size_alloc] at h
  exact ⟨h, (((Below.refl _ u).alloc (Nat.le_refl _) _).alloc (by simp) _).alloc (by simp; omega) _⟩
theorem lit1 (u : World) (r : List ByteArray) (T1 T3 : TypeId) :
    RowsAt ((u.alloc (.cells (r.map Value.string).toArray T1)).alloc (.cells #[.slice (some ⟨u.heap.size, 0, none⟩) r.length r.length] T3)) (some ⟨u.heap.size + 1, 0, none⟩) [r] ∧
    Below u.heap.size u ((u.alloc (.cells (r.map Value.string).toArray T1)).alloc (.cells #[.slice (some ⟨u.heap.size, 0, none⟩) r.length r.length] T3)) := by
  have h := rows_one _ _ r.length r T3 (new_row u r T1)
  rw [World.size_alloc] at h
  exact ⟨h, ((Below.refl _ u).alloc (Nat.le_refl _) _).alloc (by simp) _⟩

set_option maxRecDepth 100000 in
set_option maxHeartbeats 4000000 in
theorem cworks_any (w : World) : Calls Try.prog 4 #[] w fun e w' => e = .returned (.bool true) ∧ Below w.heap.size w w' := by
  go_enter Try.func4, Try.ntmps4
  go_wp2_with fail
  refine (ex1_any _).mono ?_; rintro e u1 ⟨a1, c1, r1, rfl, n1, h1, e1, b1⟩
  have N1 := Lib.hid n1; have H1 := Lib.hid h1; have E1 := Lib.hid e1; have B1 := Lib.hid b1
  clear n1 h1 e1 b1
  go_wp2_with fail
  refine (ex2_any _).mono ?_; rintro e u2 ⟨a2, c2, r2, rfl, n2, h2, e2, b2⟩
  have H1 := Lib.hid (H1.out.kept b2)
  have N2 := Lib.hid n2; have H2 := Lib.hid h2; have E2 := Lib.hid e2; have B2 := Lib.hid (below_up B1.out b2)
  clear n2 h2 e2 b2 B1
  go_wp2_with fail
  refine (ex3_any _).mono ?_; rintro e u3 ⟨a3, c3, r3, rfl, n3, h3, e3, b3⟩
  have H1 := Lib.hid (H1.out.kept b3)
  have H2 := Lib.hid (H2.out.kept b3)
  have B3 := Lib.hid (below_up B2.out b3)
  clear n3 h3 e3 b3 B2 r3
  have L := Lib.hid (lit2 u3 [bA, bB] [bE] 9 9 31)
  go_wp2_with fail
  refine (print_any 44 true (some ⟨u3.heap.size + 1 + 1, 0, none⟩) 2 [[bA, bB], [bE]] _ (by decide) (by decide) L.out.1).mono ?_
  rintro e u4 ⟨rfl, b4⟩
  rw [ex4]
  have H1 := Lib.hid ((H1.out.kept L.out.2).kept b4)
  have H2 := Lib.hid ((H2.out.kept L.out.2).kept b4)
  have B4 := Lib.hid (below_up (below_up B3.out L.out.2) b4)
  clear b4 L B3
  have L := Lib.hid (lit2 u4 [bA, bB] [bC] 9 9 31)
  unfold printV
  have S := Lib.hid (fun W (h : RowsAt W a1 r1) so (k : RowsAt W so [[bA, bB], [bC]]) => csame_any a1 so c1 2 r1 [[bA, bB], [bC]] W (by rw [← N1.out]; decide) ((rows_len r1 _ E1.out).2 1099511627776 (by decide)) h k)
  rw [← N1.out, show sameRecs r1 [[bA, bB], [bC]] = true from by unfold sameRecs; rw [E1.out]; decide] at S
  have S2 := Lib.hid (fun W (h : RowsAt W a2 r2) so (k : RowsAt W so [[bE]]) => csame_any a2 so c2 1 r2 [[bE]] W (by rw [← N2.out]; decide) ((rows_len r2 _ E2.out).2 1099511627776 (by decide)) h k)
  rw [← N2.out, show sameRecs r2 [[bE]] = true from by unfold sameRecs; rw [E2.out]; decide] at S2
  have S3 := Lib.hid (fun W (h : RowsAt W a1 r1) (k : RowsAt W a2 r2) => csame_any a1 a2 c1 c2 r1 r2 W (by rw [← N1.out]; decide) ((rows_len r1 _ E1.out).2 1099511627776 (by decide)) h k)
  rw [← N1.out, ← N2.out, show sameRecs r1 r2 = false from by unfold sameRecs; rw [E1.out, E2.out]; decide] at S3
  clear N1 N2 E1 E2
  go_wp2_with fail
  refine (S.out _ (H1.out.kept L.out.2) _ L.out.1).mono ?_; rintro e u5 ⟨rfl, b5⟩
  have H1 := Lib.hid ((H1.out.kept L.out.2).kept b5)
  have H2 := Lib.hid ((H2.out.kept L.out.2).kept b5)
  have B5 := Lib.hid (below_up (below_up B4.out L.out.2) b5)
  clear b5 L B4 S
  have L := Lib.hid (lit1 u5 [bE] 9 31)
  go_wp2_with fail
  refine (S2.out _ (H2.out.kept L.out.2) _ L.out.1).mono ?_; rintro e u6 ⟨rfl, b6⟩
  have H1 := Lib.hid ((H1.out.kept L.out.2).kept b6)
  have H2 := Lib.hid ((H2.out.kept L.out.2).kept b6)
  have B6 := Lib.hid (below_up (below_up B5.out L.out.2) b6)
  clear b6 L B5 S2
  go_wp2_with fail
  refine (S3.out _ H1.out H2.out).mono ?_; rintro e u7 ⟨rfl, b7⟩
  go_wp2_with fail
  go_ret
  exact ⟨rfl, below_up B6.out b7⟩
end Go.Proofs.Ytacclgfpmkhodaa
