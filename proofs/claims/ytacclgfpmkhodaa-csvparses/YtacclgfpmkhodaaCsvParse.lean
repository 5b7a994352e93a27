/-
  The records of a text, and where it is wrong: the program's answer.
  Conditions: the text is at most 2^40 bytes long (the statements ask about far shorter ones).
-/
import Derived.Shelf.Abstract
import Derived.Shelf.RegionOpen
import Derived.WalkKit
import Derived.WalkMore
import Derived.OwnWalkIn
import Derived.TacticsInMore
import Derived.LoopNIn
import Derived.LoopIn
import Derived.Lib.Hide
import Derived.Test.YtacclgfpmkhodaaProg
import Derived.Test.YtacclgfpmkhodaaCsvRecords
namespace Go.Proofs.Ytacclgfpmkhodaa
open Go.RowKit Go.Shelf
attribute [local go_sem] Oper.semAt_some

/-! ### what stands where a block that is no cells turns -/
theorem cell_put {A : World} {l : Nat} {o o' : Obj} (hl : A.heap[l]? = some o) (ho : o.isCells = false) {p : Addr} {v : Value} (h : A.cell? p = some v) : (A.putObj l o').cell? p = some v := by
  have hne : p.block ≠ l := by
    intro e
    rw [World.cell?, e, hl] at h
    cases o <;> simp [Obj.isCells] at ho h
  rw [World.cell?_of_block (World.putObj_heap_other hne)]; exact h
theorem StrRow.put {A : World} {l : Nat} {o o' : Obj} (hl : A.heap[l]? = some o) (ho : o.isCells = false) {ao : Option Addr} {xs : List ByteArray} (h : StrRow A ao xs) : StrRow (A.putObj l o') ao xs := by
  rcases h with h | ⟨p, h1, h2, h3⟩
  · exact .inl h
  · exact .inr ⟨p, h1, by simpa using h2, fun i c hc => cell_put hl ho (h3 i c hc)⟩
theorem heap_put {A : World} {l : Nat} {o o' : Obj} (hl : A.heap[l]? = some o) (ho : o.isCells = false) {b : Nat} {cs : Array Value} {t : TypeId} {fr : Nat × Nat} (h : A.heap[b]? = some (.cells cs t fr)) : (A.putObj l o').heap[b]? = some (.cells cs t fr) := by
  have hne : b ≠ l := by
    rintro rfl
    rw [h] at hl; cases hl; cases ho
  rw [World.putObj_heap_other hne]; exact h
theorem below_put {n : Nat} {w A : World} {l : Nat} (o' : Obj) (h : Below n w A) (hl : n ≤ l) : Below n w (A.putObj l o') :=
  ⟨h.os, h.tape, h.output, by simpa using h.size, fun k hk => (World.putObj_heap_other (by omega)).trans (h.block k hk)⟩

/-- what stands between two rounds; B: the memory that there was, and behind it the boxes of the three results, and of the records -/
structure Between (w : World) (pre : List Told) (W : World) : Prop where
  errs : ∀ x ∈ pre, x.err = 0
  few : pre.length ≤ 2048
  held : ∃ v, Boxed W (w.heap.size + 3) 23 v ∧ W.ownsRow (w.heap.size + 7) 31 1 v pre.length (pre.map rowV)
  rows : ∀ x ∈ pre, rowAt x W
  r0 : Boxed W w.heap.size 23 (.slice none 0 0)
  r1 : Boxed W (w.heap.size + 1) 3 (.int .i64 0)
  r2 : Boxed W (w.heap.size + 2) 24 (.int .i64 0)
  below : Below w.heap.size w W
/-- what stands where a round said that it is enough -/
structure Left (w : World) (pre : List Told) (W : World) : Prop where
  last : ∃ init x, pre = init ++ [x] ∧ x.err ≠ 0 ∧ Boxed W (w.heap.size + 1) 3 (.int .i64 x.at') ∧ Boxed W (w.heap.size + 2) 24 (.int .i64 (x.err : Int))
  r0 : Boxed W w.heap.size 23 (.slice none 0 0)
  below : Below w.heap.size w W
theorem between_stays (w : World) : Stays (Between w) := fun pre A B h k => by
  obtain ⟨v, h1, h2⟩ := h.held
  exact ⟨h.errs, h.few, ⟨v, below_kept k h1, own_below h2 k⟩, fun x hx => own_below (h.rows x hx) k, below_kept k h.r0, below_kept k h.r1, below_kept k h.r2, h.below.trans (k.mono h.below.size)⟩
theorem left_stays (w : World) : Stays (Left w) := fun pre A B h k => by
  obtain ⟨init, x, h1, h2, h3, h4⟩ := h.last
  exact ⟨⟨init, x, h1, h2, below_kept k h3, below_kept k h4⟩, below_kept k h.r0, h.below.trans (k.mono h.below.size)⟩
theorem between_apart (w : World) (pre : List Told) (b : Nat) (hb : w.heap.size ≤ b) : Apart b (Between w pre) := fun A l o o' h hl ho hc => by
  obtain ⟨v, h1, h2⟩ := h.held
  exact ⟨h.errs, h.few, ⟨v, heap_put ho hc h1, ownsRow_putObj h2 o' ho hc⟩, fun x hx => ownsRow_putObj (h.rows x hx) o' ho hc, heap_put ho hc h.r0, heap_put ho hc h.r1, heap_put ho hc h.r2, below_put o' h.below (by omega)⟩
theorem left_apart (w : World) (pre : List Told) (b : Nat) (hb : w.heap.size ≤ b) : Apart b (Left w pre) := fun A l o o' h hl ho hc => by
  obtain ⟨init, x, h1, h2, h3, h4⟩ := h.last
  exact ⟨⟨init, x, h1, h2, heap_put ho hc h3, heap_put ho hc h4⟩, heap_put ho hc h.r0, below_put o' h.below (by omega)⟩
theorem own_slice {w : World} {base : Nat} {e : TypeId} {size : Nat} {v : Value} {n : Nat} {xs : List Value} (h : w.ownsRow base e size v n xs) : ∃ ao cap, v = .slice ao n cap := by
  rcases h.2 with ⟨rfl, rfl⟩ | ⟨g, cap, cur, rfl, _⟩
  · exact ⟨_, _, rfl⟩
  · exact ⟨_, _, rfl⟩
theorem between_len (w : World) (pre : List Told) (A : World) (h : Between w pre A) : hasLen (w.heap.size + 3) pre A := by
  obtain ⟨v, h1, h2⟩ := h.held
  obtain ⟨ao, cap, rfl⟩ := own_slice h2
  exact ⟨ao, cap, h1.cell⟩
theorem between_box (w : World) (pre : List Told) (A : World) (h : Between w pre A) : ∃ ao cap, Boxed A (w.heap.size + 3) 23 (.slice ao pre.length cap) := by
  obtain ⟨v, h1, h2⟩ := h.held
  obtain ⟨ao, cap, rfl⟩ := own_slice h2
  exact ⟨ao, cap, h1⟩
theorem kept3_trans {a b c : Nat} {A B C : World} (h : Kept3 a b c A B) (k : Kept3 a b c B C) : Kept3 a b c A C := ⟨k.1.trans h.1, k.2.1.trans h.2.1, k.2.2.trans h.2.2⟩
theorem kept3_put {a b c : Nat} (n : Nat) (ha : a < n) (hb : b < n) (hc : c < n) (W : World) (l : Nat) (o' : Obj) (hl : n ≤ l) : Kept3 a b c W (W.putObj l o') :=
  ⟨World.cell?_of_block (World.putObj_heap_other (by simp; omega)), World.cell?_of_block (World.putObj_heap_other (by simp; omega)), World.cell?_of_block (World.putObj_heap_other (by simp; omega))⟩
theorem kept3_below {a b c : Nat} (n : Nat) (ha : a < n) (hb : b < n) (hc : c < n) {A B : World} (hn : n ≤ A.heap.size) (h : Below A.heap.size A B) : Kept3 a b c A B :=
  ⟨h.cell (p := ⟨a, 0, none⟩) (by simp; omega), h.cell (p := ⟨b, 0, none⟩) (by simp; omega), h.cell (p := ⟨c, 0, none⟩) (by simp; omega)⟩

theorem own_apart {W : World} {b b' : Nat} {e e' : TypeId} {z z' : Nat} {v v' : Value} {n n' : Nat} {xs xs' : List Value} (h : W.ownsRow b e z v n xs) (h' : W.ownsRow b' e' z' v' n' xs') (hne : e ≠ e') : v.ownBlock = none ∨ v.ownBlock ≠ v'.ownBlock := by
  rcases h.2 with ⟨rfl, _⟩ | ⟨g, cap, cur, rfl, _, hg, _⟩
  · exact .inl rfl
  · right
    rcases h'.2 with ⟨rfl, _⟩ | ⟨g', cap', cur', rfl, _, hg', _⟩
    · simp [Value.ownBlock]
    · intro ee
      obtain rfl : g = g' := by simpa [Value.ownBlock] using ee
      rw [hg] at hg'; cases hg'; exact hne rfl
/-- a round that keeps a record -/
theorem between_next (w : World) (pre : List Told) (x : Told) (A w1 : World) (v v' : Value) (tmp : Obj) (hA : w.heap.size + 7 ≤ A.heap.size) (h : Between w pre A) (hx : x.err = 0) (hr : rowAt x A) (hp : pre.length < 2048)
    (hv : Boxed A (w.heap.size + 3) 23 v) (ho : A.ownsRow (w.heap.size + 7) 31 1 v pre.length (pre.map rowV)) (ho' : w1.ownsRow (w.heap.size + 7) 31 1 v' (pre.length + 1) (pre.map rowV ++ [rowV x])) (hg : (A.alloc tmp).grownBy w1 v.ownBlock) :
    Boxed w1 (w.heap.size + 3) 23 v ∧ KeepsOthers A (w1.setCell ⟨w.heap.size + 3, 0, none⟩ v') ∧ Kept3 (w.heap.size + 4) (w.heap.size + 6) (w.heap.size + 5) A (w1.setCell ⟨w.heap.size + 3, 0, none⟩ v') ∧ Between w (pre ++ [x]) (w1.setCell ⟨w.heap.size + 3, 0, none⟩ v') := by
  have hgl : ∀ g, v.ownBlock = some g → w.heap.size + 7 ≤ g := fun g e => (ho.lt g e).1
  have hbk : ∀ k, k < w.heap.size + 7 → w1.heap[k]? = A.heap[k]? := fun k hk => by
    rw [hg.block k (by simp; omega) (fun e => by have := hgl k e.symm; omega), Below.heap_alloc _ _ _ (by omega)]
  obtain ⟨q1, q2, q3, q4, q5⟩ := Boxed.appended (n₀ := w.heap.size) (size := 1) (tmp := tmp) hv (by decide) (own_mono ho (by omega)) (by omega) (by omega) (own_mono ho' (by omega)) hg
  have hbs : ∀ k, k < w.heap.size + 7 → k ≠ w.heap.size + 3 → (w1.setCell ⟨w.heap.size + 3, 0, none⟩ v').heap[k]? = A.heap[k]? := fun k hk hne => by
    rw [Below.heap_setCell _ _ _ _ hne]; exact hbk k hk
  have hrow : ∀ y, rowAt y A → rowAt y (w1.setCell ⟨w.heap.size + 3, 0, none⟩ v') := fun y hy => by
    have h1 : rowAt y w1 := (World.ownsRow.alloc hy tmp).kept hg (own_apart (World.ownsRow.alloc hy tmp) (ho.alloc tmp) (by decide))
    exact World.ownsRow.kept h1 (grownBy_setCell' w1 (w.heap.size + 3) v') (.inr (q1.not_row (by decide) h1).symm)
  refine ⟨q1, q4, ⟨World.cell?_of_block (hbs _ (by simp) (by simp)), World.cell?_of_block (hbs _ (by simp) (by simp)), World.cell?_of_block (hbs _ (by simp) (by simp))⟩, ?_⟩
  refine ⟨fun y hy => ?_, by simp; omega, ⟨v', q2, ?_⟩, fun y hy => ?_, (hbs _ (by omega) (by omega)).trans h.r0, (hbs _ (by omega) (by omega)).trans h.r1, (hbs _ (by omega) (by omega)).trans h.r2, h.below.trans q5⟩
  · rcases List.mem_append.1 hy with h1 | h1
    · exact h.errs y h1
    · simp at h1; subst h1; exact hx
  · rw [List.length_append, List.map_append]
    exact ho'.kept (grownBy_setCell' w1 (w.heap.size + 3) v') (.inr (q1.not_row (by decide) ho').symm)
  · rcases List.mem_append.1 hy with h1 | h1
    · exact hrow y (h.rows y h1)
    · simp at h1; subst h1; exact hrow _ hr
/-- a round that returns -/
theorem left_next (w : World) (pre : List Told) (x : Told) (A : World) (h : Between w pre A) (hx : x.err ≠ 0) (X : World)
    (hX : X = ((A.drew.setCell ⟨w.heap.size, 0, none⟩ (.slice none 0 0)).setCell ⟨w.heap.size + 1, 0, none⟩ (.int .i64 x.at')).setCell ⟨w.heap.size + 2, 0, none⟩ (.int .i64 (x.err : Int))) :
    KeepsOthers A X ∧ Left w (pre ++ [x]) X := by
  subst hX
  have e0 : Boxed A.drew w.heap.size 23 (.slice none 0 0) := h.r0
  have e1 : Boxed A.drew (w.heap.size + 1) 3 (.int .i64 0) := h.r1
  have e2 : Boxed A.drew (w.heap.size + 2) 24 (.int .i64 0) := h.r2
  refine ⟨(((KeepsOthers.drew A).trans (KeepsOthers.setCell _ _ _)).trans (KeepsOthers.setCell _ _ _)).trans (KeepsOthers.setCell _ _ _), ⟨pre, x, rfl, hx, ?_, ?_⟩, ?_, ?_⟩
  · have := (e1.kept (grownBy_setCell' _ w.heap.size (.slice none 0 0)) (by simp)).set (.int .i64 x.at')
    exact this.kept (grownBy_setCell' _ _ _) (by simp)
  · exact ((e2.kept (grownBy_setCell' _ w.heap.size (.slice none 0 0)) (by simp)).kept (grownBy_setCell' _ (w.heap.size + 1) _) (by simp)).set _
  · exact ((e0.set (.slice none 0 0)).kept (grownBy_setCell' _ (w.heap.size + 1) _) (by simp)).kept (grownBy_setCell' _ (w.heap.size + 2) _) (by simp)
  · exact ((h.below.drew.setCell (p := ⟨w.heap.size, 0, none⟩) (Nat.le_refl _) _).setCell (p := ⟨w.heap.size + 1, 0, none⟩) (by simp) _).setCell (p := ⟨w.heap.size + 2, 0, none⟩) (by simp) _

/-- the records, and their rows -/
def Rows (v : Value) (ys : List Told) (W : World) : Prop := W.ownsRow 0 31 1 v ys.length (ys.map rowV) ∧ ∀ y ∈ ys, rowAt y W
theorem Rows.set {W : World} {v : Value} {ys : List Told} {b : Nat} {t : TypeId} {u : Value} (u' : Value) (h : Rows v ys W) (hb : Boxed W b t u) (h1 : t ≠ 31) (h2 : t ≠ 9) : Rows v ys (W.setCell ⟨b, 0, none⟩ u') :=
  ⟨h.1.kept (grownBy_setCell' W b u') (.inr (hb.not_row h1 h.1).symm), fun y hy => World.ownsRow.kept (h.2 y hy) (grownBy_setCell' W b u') (.inr (hb.not_row h2 (h.2 y hy)).symm)⟩
theorem Rows.at {W : World} {ao : Option Addr} {n cap : Nat} {ys : List Told} (h : Rows (.slice ao n cap) ys W) : RowsAt W ao (ys.map Told.xs) := by
  rcases h.1.2 with ⟨hv, h0⟩ | ⟨g, cap', cur, hv, _⟩
  · exact .inl (by simp [List.eq_nil_of_length_eq_zero h0])
  · cases hv
    refine .inr ⟨_, rfl, (h.1.lt g rfl).2, fun i r hr => ?_⟩
    rw [List.getElem?_map] at hr
    cases hx : ys[i]? with
    | none => rw [hx] at hr; cases hr
    | some x =>
      rw [hx] at hr; cases hr
      exact ⟨x.ao, x.cap, h.1.cells rfl i _ (by rw [List.getElem?_map, hx]; rfl), own_row (h.2 x (List.mem_of_getElem? hx))⟩
theorem set3 {W : World} {B : Nat} {t0 t1 t2 : TypeId} {u0 u1 u2 : Value} (v0 v1 v2 : Value) (h0 : Boxed W B t0 u0) (h1 : Boxed W (B + 1) t1 u1) (h2 : Boxed W (B + 2) t2 u2) (X : World)
    (hX : X = ((W.setCell ⟨B, 0, none⟩ v0).setCell ⟨B + 1, 0, none⟩ v1).setCell ⟨B + 2, 0, none⟩ v2) : Boxed X B t0 v0 ∧ Boxed X (B + 1) t1 v1 ∧ Boxed X (B + 2) t2 v2 ∧ KeepsOthers W X ∧ Below B W X := by
  subst hX
  refine ⟨((h0.set v0).kept (grownBy_setCell' _ (B + 1) _) (by simp)).kept (grownBy_setCell' _ (B + 2) _) (by simp), ((h1.kept (grownBy_setCell' _ B _) (by simp)).set v1).kept (grownBy_setCell' _ (B + 2) _) (by simp),
    ((h2.kept (grownBy_setCell' _ B _) (by simp)).kept (grownBy_setCell' _ (B + 1) _) (by simp)).set v2, ((KeepsOthers.setCell _ _ _).trans (KeepsOthers.setCell _ _ _)).trans (KeepsOthers.setCell _ _ _), ?_⟩
  exact (((Below.refl B W).setCell (p := ⟨B, 0, none⟩) (Nat.le_refl _) _).setCell (p := ⟨B + 1, 0, none⟩) (by simp) _).setCell (p := ⟨B + 2, 0, none⟩) (by simp) _
theorem done_leaves (w A : World) (ys : List Told) (D : Nat) (hD : w.heap.size ≤ D) (hK : A.heap[D]? = some (.deferred (some []))) (h : Between w ys A) (ao : Option Addr) (cap : Nat) (hb : Boxed A (w.heap.size + 3) 23 (.slice ao ys.length cap)) (X : World)
    (hX : X = ((A.setCell ⟨w.heap.size, 0, none⟩ (.slice ao ys.length cap)).setCell ⟨w.heap.size + 1, 0, none⟩ (.int .i64 0)).setCell ⟨w.heap.size + 2, 0, none⟩ (.int .i64 0)) :
    X.heap[D]? = some (.deferred (some [])) ∧ (Boxed (X.putObj D (.deferred none)) w.heap.size 23 (.slice ao ys.length cap) ∧ Boxed (X.putObj D (.deferred none)) (w.heap.size + 1) 3 (.int .i64 0) ∧ Boxed (X.putObj D (.deferred none)) (w.heap.size + 2) 24 (.int .i64 0)) ∧
      RowsAt (X.putObj D (.deferred none)) ao (ys.map Told.xs) ∧ Below w.heap.size w (X.putObj D (.deferred none)) := by
  obtain ⟨v, hv, ho⟩ := h.held
  obtain rfl : v = .slice ao ys.length cap := by
    have := (show A.heap[w.heap.size + 3]? = _ from hb).symm.trans hv
    simp at this; exact this.symm
  obtain ⟨q0, q1, q2, q3, q4⟩ := set3 (.slice ao ys.length cap) (.int .i64 0) (.int .i64 0) h.r0 h.r1 h.r2 X hX
  have hk := q3.same _ _ hK rfl
  have r0 : Rows (.slice ao ys.length cap) ys A := ⟨own_mono ho (by omega), h.rows⟩
  have r1 := r0.set (.slice ao ys.length cap) h.r0 (by decide) (by decide)
  have r2 := r1.set (.int .i64 0) (h.r1.kept (grownBy_setCell' _ w.heap.size _) (by simp)) (by decide) (by decide)
  have r3 := r2.set (.int .i64 0) ((h.r2.kept (grownBy_setCell' _ w.heap.size _) (by simp)).kept (grownBy_setCell' _ (w.heap.size + 1) _) (by simp)) (by decide) (by decide)
  rw [← hX] at r3
  have r4 : Rows (.slice ao ys.length cap) ys (X.putObj D (.deferred none)) := ⟨ownsRow_putObj r3.1 _ hk rfl, fun y hy => ownsRow_putObj (r3.2 y hy) _ hk rfl⟩
  exact ⟨hk, ⟨heap_put hk rfl q0, heap_put hk rfl q1, heap_put hk rfl q2⟩, r4.at, below_put _ (h.below.trans q4) hD⟩

def parseV (ao : Option Addr) (n cap : Nat) (x : Recs × Int × Nat) : Value := .tuple #[.slice ao n cap, .int .i64 x.2.1, .int .i64 (x.2.2 : Int)]
def Parsed (w : World) (x : Recs × Int × Nat) (e : Ending) (w' : World) : Prop := ∃ ao cap rs, e = .returned (parseV ao rs.length cap x) ∧ RowsAt w' ao rs ∧ recsOf rs = x.1 ∧ Below w.heap.size w w'

def roomV (B : Nat) : Value := .func (.func 12) #[] #[.pointer (some ⟨B + 3, 0, none⟩)]
def actOf (B : Nat) (s : ByteArray) (d : UInt8) (x : Told) (b : Nat) : Act := { tmps := #[.string s, .int .u8 (d.toNat : Int), undef, undef, .pointer (some ⟨B, 0, none⟩), .pointer (some ⟨B + 1, 0, none⟩), .pointer (some ⟨B + 2, 0, none⟩), .pointer (some ⟨B + 3, 0, none⟩), roomV B,
  .slice x.ao x.xs.length x.cap, .pointer (some ⟨b, 0, none⟩), .bool false, .int .u8 (d.toNat : Int), .bool true, .bool false, .bool false, .string s, .bool false, roomV B, .string s, .int .u8 (d.toNat : Int), roomV B,
  .func (.func 26) #[] #[.pointer (some ⟨B + 4, 0, none⟩), .pointer (some ⟨B + 6, 0, none⟩), .pointer (some ⟨B + 5, 0, none⟩)], .slice x.ao x.xs.length x.cap, .agg #[.int .i64 x.at', .int .i64 (x.err : Int)],
  undef, undef, undef, undef, undef, undef, undef, undef, undef, undef, undef, undef], defers := [] }

set_option maxRecDepth 100000 in
set_option maxHeartbeats 4000000 in
theorem parse_any (s : ByteArray) (d : UInt8) (w : World) (hs : s.size ≤ 1099511627776) :
    Calls Try.prog 5 #[.string s, .int .u8 (d.toNat : Int)] w fun e w' => Parsed w (parseL s.data.toList (d.toNat : Int)) e w' := by
  have hinfo : (Try.prog.info? 31).map (fun i => (i.zero, i.size, i.bytes)) = some (some (.slice none 0 0), 1, 24) := by kernel_rfl
  obtain ⟨i0, hi, hz0, hz1, hz2⟩ := info_parts hinfo
  have HIN := Lib.hid hi
  clear hi hinfo
  have hmix : Try.prog.follows .mixedOrders = true := by kernel_rfl
  have G := Lib.hid (fun w => good_any (d.toNat : Int) w)
  have C2 := Lib.hid (fun W => largeS_any s 0 4194304 W (by omega))
  obtain ⟨x, HP⟩ : ∃ x, Hid (x = parseL s.data.toList (d.toNat : Int)) := ⟨_, Lib.hid rfl⟩
  rw [← HP.out]
  obtain ⟨W, hW⟩ : ∃ W, W = ((w.alloc (.cells #[.slice none 0 0] 23)).alloc (.cells #[.int .i64 0] 3)).alloc (.cells #[.int .i64 0] 24) := ⟨_, rfl⟩
  obtain ⟨hsz, b0, b1, b2, hB⟩ := three_new w (.cells #[.slice none 0 0] 23) (.cells #[.int .i64 0] 3) (.cells #[.int .i64 0] 24)
  rw [← hW] at hsz b0 b1 b2 hB
  have HSZ := Lib.hid hsz; have B0 := Lib.hid b0; have B1 := Lib.hid b1; have B2 := Lib.hid b2; have HB := Lib.hid hB
  have HW := Lib.hid hW
  clear hsz b0 b1 b2 hB hW
  refine (callsIn_wide (n := 5)).1 (callsIn_of_wp_marks Try.func5 rfl trivial ?_ rfl)
  simp only [Try.ntmps5, List.size_toArray, List.length_cons, List.length_nil, Nat.reduceAdd, Nat.reduceSub, Array.replicate_succ, Array.replicate_zero, List.push_toArray, List.append_toArray, List.nil_append, List.cons_append]
  by_cases hg : goodI (d.toNat : Int) = false
  · have E := Lib.hid (show x = ([], 0, 2) by rw [HP.out]; unfold parseL; rw [if_pos hg])
    rw [hg] at G
    have S3 := Lib.hid (set3 (.slice none 0 0) (.int .i64 0) (.int .i64 2) (t0 := 23) (t1 := 3) (t2 := 24) B0.out B1.out B2.out)
    have r0 := Boxed.cell B0.out; have f0 := Boxed.frozen B0.out
    have r1 := Boxed.cell B1.out; have f1 := Boxed.frozen B1.out
    have r2 := Boxed.cell B2.out; have f2 := Boxed.frozen B2.out
    clear hg
    gi_wp2_with fail
    rw [← HW.out]
    refine ⟨trivial, (callsIn_wide.2 (G.out _)).mono ?_⟩; rintro e1 w1 ⟨rfl, rfl⟩
    simp only [Nat.add_assoc, Nat.reduceAdd]
    gi_wp2_with fail
    obtain ⟨t2, t3, t4, _, t5⟩ := S3.out _ rfl
    have k2 := t2.cell; have k3 := t3.cell; have k4 := t4.cell
    refine ⟨.tuple #[.slice none 0 0, .int .i64 0, .int .i64 2], by simp [results, Try.results5, go_sem, k2, k3, k4], ?_⟩
    exact ⟨none, 0, [], by rw [E.out]; simp [parseV], .inl rfl, by rw [E.out]; rfl, HB.out.trans t5⟩
  have hg' : goodI (d.toNat : Int) = true := by simpa using hg
  rw [hg'] at G
  by_cases hl : decide (4194304 < s.size + 0) = true
  · have E := Lib.hid (show x = ([], 0, 7) by rw [HP.out]; unfold parseL; rw [if_neg hg, if_pos (by have := of_decide_eq_true hl; rw [ba_size]; omega)])
    rw [hl] at C2
    have S3 := Lib.hid (set3 (.slice none 0 0) (.int .i64 0) (.int .i64 7) (t0 := 23) (t1 := 3) (t2 := 24) B0.out B1.out B2.out)
    have r0 := Boxed.cell B0.out; have f0 := Boxed.frozen B0.out
    have r1 := Boxed.cell B1.out; have f1 := Boxed.frozen B1.out
    have r2 := Boxed.cell B2.out; have f2 := Boxed.frozen B2.out
    clear hg hg' hl
    gi_wp2_with fail
    rw [← HW.out]
    refine ⟨trivial, (callsIn_wide.2 (G.out _)).mono ?_⟩; rintro e1 w1 ⟨rfl, rfl⟩
    gi_wp2_with fail
    refine ⟨trivial, (callsIn_wide.2 (C2.out _)).mono ?_⟩; rintro e1 w1 ⟨rfl, rfl⟩
    simp only [Nat.add_assoc, Nat.reduceAdd]
    gi_wp2_with fail
    obtain ⟨t2, t3, t4, _, t5⟩ := S3.out _ rfl
    have k2 := t2.cell; have k3 := t3.cell; have k4 := t4.cell
    refine ⟨.tuple #[.slice none 0 0, .int .i64 0, .int .i64 7], by simp [results, Try.results5, go_sem, k2, k3, k4], ?_⟩
    exact ⟨none, 0, [], by rw [E.out]; simp [parseV], .inl rfl, by rw [E.out]; rfl, HB.out.trans t5⟩
  have hl' : decide (4194304 < s.size + 0) = false := by simpa using hl
  have E := Lib.hid (show x = readL s.data.toList (d.toNat : Int) (2 * s.data.toList.length + 1) 0 [] [] by
    rw [HP.out]; unfold parseL; rw [if_neg hg, if_neg (by have := of_decide_eq_false hl'; rw [ba_size]; omega)])
  rw [hl'] at C2
  clear HP hg hg' hl hl'
  obtain ⟨V, HV⟩ : ∃ V, Hid (V = W.alloc (.cells #[.slice none 0 0] 23)) := ⟨_, Lib.hid rfl⟩
  have hVB : Below W.heap.size W V := by rw [HV.out]; exact (Below.refl _ W).alloc (Nat.le_refl _) _
  have v3 : Boxed V (w.heap.size + 3) 23 (.slice none 0 0) := by
    have := World.alloc_heap_new W (.cells #[.slice none 0 0] 23)
    rwa [← HV.out, HSZ.out] at this
  have hVS : V.heap.size = w.heap.size + 4 := by rw [HV.out]; simp [HSZ.out]
  have RC := Lib.hid (records_any (w.heap.size + 3) s (d.toNat : Int) _ rfl V)
  rw [hVS] at RC
  simp only [Nat.add_assoc, Nat.reduceAdd, ptr] at RC
  have H0 : Hid (Between w [] V) := Lib.hid ⟨fun x hx => by simp at hx, by simp, ⟨_, v3, World.ownsRow_nil _ _ _ _⟩, fun x hx => by simp at hx, below_kept hVB B0.out, below_kept hVB B1.out, below_kept hVB B2.out, HB.out.trans (hVB.mono (by rw [HSZ.out]; omega))⟩
  have HVS := Lib.hid hVS
  clear hVS hVB v3
  gi_wp2_with fail
  refine ⟨trivial, (callsIn_wide.2 (G.out _)).mono ?_⟩; rintro e1 w1 ⟨rfl, rfl⟩
  gi_wp2_with fail
  refine ⟨trivial, (callsIn_wide.2 (C2.out _)).mono ?_⟩; rintro e1 w1 ⟨rfl, rfl⟩
  gi_wp2_with fail
  rw [← HW.out, ← HV.out]
  simp only [Nat.add_assoc, Nat.reduceAdd]
  refine ⟨trivial, (callsIn_wide.2 RC.out).mono ?_⟩
  rintro e1 U ⟨rfl, hUs, u1, u2, u3, hUB⟩
  rw [← HVS.out] at hUB
  have H1 := Lib.hid (between_stays w [] V U H0.out hUB)
  clear RC hUB H0 HVS HV B0 B1 B2 HB HW HSZ G C2
  gi_wp2_with fail
  refine wpIn_range_tells rfl (by decide) (gf := 26) (lb := #[ptr (w.heap.size + 4), ptr (w.heap.size + 6), ptr (w.heap.size + 5)]) rfl trivial (enters_of Try.func26 (by kernel_rfl) rfl)
    (records1_tells 4 s (d.toNat : Int) (w.heap.size + 4) (w.heap.size + 5) (w.heap.size + 6) (w.heap.size + 3) hs U u1 u2 u3 (by omega) (by omega) (by omega)) (Below.refl _ _) (fun _ => rfl)
    kept3_trans (fun A l o o' hl _ _ => kept3_put (w.heap.size + 7) (by omega) (by omega) (by omega) A l o' (by omega)) (fun {A B} hA hAB => kept3_below (w.heap.size + 7) (by omega) (by omega) (by omega) (by omega) hAB)
    (Between w) (Left w) (between_stays w) (left_stays w) (fun pre => between_apart w pre _ (by omega)) (fun pre => left_apart w pre _ (by omega)) (between_len w)
    (fun pre x A B h k h0 => ⟨own_below (h h0).1 k, (h h0).2⟩) (fun pre x A l o o' h hl ho hc h0 => ⟨ownsRow_putObj (h h0).1 o' ho hc, (h h0).2⟩) H1.out
    (fun x a' A => ∃ b, a' = actOf w.heap.size s d x b ∧ w.heap.size + 7 ≤ b ∧ A.heap[b]? = some (.cells #[.int .i64 x.at', .int .i64 (x.err : Int)] 39 (0, 0)))
    (fun x a' A l o o' ⟨b, h1, h2, h3⟩ hl ho hc => ⟨b, h1, h2, heap_put ho hc h3⟩) ?assign ?body ?done ?stop
  case assign =>
    intro l x A K hA hK
    unfold toldV
    gi_wp2_with fail
    exact hK _ _ ((Below.refl _ A).alloc (Nat.le_refl _) _) ⟨A.heap.size, rfl, by omega, World.alloc_heap_new A _⟩
  case body =>
    rintro l pre y a' A hA hI hok ⟨b, rfl, hb, hc⟩
    obtain ⟨v, hv, ho⟩ := hI.held
    obtain ⟨ao, cap, rfl⟩ := own_slice ho
    have hI' := Lib.hid hI
    have y0 := Lib.cell_of_heap hc 0
    have y1 := Lib.cell_of_heap hc 1
    simp only [List.getElem?_toArray, List.getElem?_cons_zero, List.getElem?_cons_succ] at y0 y1
    by_cases he : y.err = 0
    · obtain ⟨hr, hp⟩ := hok he
      have hz : ((y.err : Int) != 0) = false := by rw [he]; rfl
      have HE := Lib.hid he
      have HR := Lib.hid hr
      have HO := Lib.hid ho
      have HV := Lib.hid hv
      have HOA : Hid ((A.alloc (.cells #[.slice y.ao y.xs.length y.cap] 31)).ownsRow (w.heap.size + 7) 31 1 (.slice ao pre.length cap) pre.length (pre.map rowV)) := Lib.hid (ho.alloc _)
      have cl := hv.cell
      clear hI hok hr ho he hv
      unfold actOf roomV
      gi_wp2_with (gi_at_builtin; refine wpListIn_append_own _ rfl _ _ 23 rfl (w.heap.size + 7) 31 i0 (.slice none 0 0) 1 24 Try.underlying23 HIN.out hz0 hz1 hz2 rfl (by decide) _ _ _ rfl HOA.out ⟨A.heap.size, 0, none⟩ 1 1 [.slice y.ao y.xs.length y.cap] rfl rfl ?c1 ?c2 ?c3 ?c4 ?c5 ?_)
      case c1 =>
        intro j u hj
        rw [cell_row (World.alloc_heap_new A _)]
        match j, hj with
        | 0, hj => simp at hj; subst hj; rfl
      case c2 => intro u hu; simp at hu; subst hu; rfl
      case c3 => unfold maxLen; omega
      case c4 => omega
      case c5 => simp; omega
      intro v' w3 hown' hgrow _
      obtain ⟨q1, q2, q3, q4⟩ := between_next w pre y A w3 _ v' _ (by omega) hI'.out HE.out HR.out hp HV.out HO.out hown' hgrow
      obtain ⟨g, cp', rfl⟩ := ownsRow_succ hown'
      have k1 := q1.cell
      have k2 := q1.frozen
      have Q := Lib.hid (And.intro q2 (And.intro q3 q4))
      clear hown' hgrow q1 q2 q3 q4
      gi_wp2_with fail
      exact Q.out
    · have hz : ((y.err : Int) != 0) = true := by simpa using he
      have L := Lib.hid (left_next w pre y A hI he)
      have r0 := hI.r0.cell; have f0 := hI.r0.frozen
      have r1 := hI.r1.cell; have f1 := hI.r1.frozen
      have r2 := hI.r2.cell; have f2 := hI.r2.frozen
      clear hok he
      unfold actOf roomV
      gi_wp2_with fail
      gi_region_o
      all_goals (gi_wp2_with fail; exact L.out _ rfl)
  case done =>
    intro D ys A hD hS hI hK
    obtain ⟨ao, cap, hb⟩ := between_box w ys A hI
    have EE := Lib.hid (hS hI.errs)
    have LV := Lib.hid (done_leaves w A ys D (by omega) hK hI ao cap hb)
    have cl := hb.cell
    have r0 := hI.r0.cell; have f0 := hI.r0.frozen
    have r1 := hI.r1.cell; have f1 := hI.r1.frozen
    have r2 := hI.r2.cell; have f2 := hI.r2.frozen
    clear hI hS hb
    gi_wp2_with fail
    obtain ⟨t1, ⟨t2, t3, t4⟩, t5, t6⟩ := LV.out _ rfl
    refine ⟨by simp, .inl ⟨_, _, rfl, run_takeDeferred t1, ?_⟩⟩
    have k2 := t2.cell; have k3 := t3.cell; have k4 := t4.cell
    refine ⟨.tuple #[.slice ao ys.length cap, .int .i64 0, .int .i64 0], by simp [results, Try.results5, go_sem, k2, k3, k4], ?_⟩
    exact ⟨ao, cap, ys.map Told.xs, by rw [E.out, EE.out]; simp [parseV], t5, by rw [E.out, EE.out]; simp [recsOf, recsT], t6⟩
  case stop =>
    intro D ys A hD hS hI hK
    obtain ⟨init, y, h1, h2⟩ := hS
    obtain ⟨init', y', h1', h2', h3', h4'⟩ := hI.last
    obtain ⟨rfl, hyy⟩ := List.append_inj' (h1.symm.trans h1') rfl
    obtain rfl : y = y' := by simpa using hyy
    have EE := Lib.hid (h2 h2')
    have t2 := heap_put (o' := .deferred none) hK rfl hI.r0
    have t3 := heap_put (o' := .deferred none) hK rfl h3'
    have t4 := heap_put (o' := .deferred none) hK rfl h4'
    have t6 := below_put (l := D) (.deferred none) hI.below (by omega)
    have k2 := Boxed.cell t2; have k3 := Boxed.cell t3; have k4 := Boxed.cell t4
    have T2 := Lib.hid k2; have T3 := Lib.hid k3; have T4 := Lib.hid k4; have T6 := Lib.hid t6
    clear hI h1 h1' h2 h2' h3' h4' hyy t2 t3 t4 t6 k2 k3 k4
    gi_wp2_with fail
    refine ⟨by simp, .inl ⟨_, _, rfl, run_takeDeferred hK, ?_⟩⟩
    refine ⟨.tuple #[.slice none 0 0, .int .i64 y.at', .int .i64 (y.err : Int)], by simp [results, Try.results5, go_sem, T2.out, T3.out, T4.out], ?_⟩
    exact ⟨none, 0, [], by rw [E.out, EE.out]; simp [parseV], .inl rfl, by rw [E.out, EE.out]; rfl, T6.out⟩
end Go.Proofs.Ytacclgfpmkhodaa
