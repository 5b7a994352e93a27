/-
  Lists in memory, whatever their elements are; what a call leaves that makes a list or ends by a stop; the pure functions that edits are.
  Conditions: none.
-/
import Derived.WalkKit
import Derived.WalkMore
import Derived.Lib.Hide
import Derived.Test.YtigijgcldgbokaaGreatProg
import Derived.Test.YtigijgcldgbokaaGreatPkC
namespace Go.Proofs.YtigijgcldgbokaaGreat
open Go.RowKit Go.Shelf
set_option linter.unusedVariables false

/-- the cells of a slice -/
def CellsAt (w : World) (ao : Option Addr) (vs : List Value) : Prop := vs = [] ∨ ∃ A, ao = some A ∧ A.block < w.heap.size ∧ ∀ (i : Nat) v, vs[i]? = some v → w.cell? (A.add i) = some v
theorem CellsAt.kept {w w' : World} {ao : Option Addr} {vs : List Value} (h : CellsAt w ao vs) (hB : Below w.heap.size w w') : CellsAt w' ao vs := by
  rcases h with h | ⟨A, h1, h2, h3⟩
  · exact .inl h
  · exact .inr ⟨A, h1, Nat.lt_of_lt_of_le h2 hB.size, fun i c hc => (hB.cell (p := A.add i) (by rw [add_block]; exact h2)).trans (h3 i c hc)⟩
theorem CellsAt.strs {w : World} {ao : Option Addr} {xs : List ByteArray} (h : CellsAt w ao (xs.map Value.string)) : StrRow w ao xs := by
  rcases h with h | ⟨A, h1, h2, h3⟩
  · exact .inl (List.map_eq_nil_iff.1 h)
  · exact .inr ⟨A, h1, h2, fun i c hc => h3 i _ (by rw [List.getElem?_map, hc]; rfl)⟩
theorem StrRow.cells {w : World} {ao : Option Addr} {xs : List ByteArray} (h : StrRow w ao xs) : CellsAt w ao (xs.map Value.string) := by
  rcases h with h | ⟨A, h1, h2, h3⟩
  · exact .inl (by rw [h]; rfl)
  · refine .inr ⟨A, h1, h2, fun i v hv => ?_⟩
    rw [List.getElem?_map] at hv
    obtain ⟨c, hc, rfl⟩ := Option.map_eq_some_iff.1 hv
    exact h3 i c hc
/-- a list as it lies -/
structure PartE where
  ao : Option Addr
  vs : List Value
  cap : Cap ao vs.length
def PartE.val (p : PartE) : Value := .slice p.ao p.vs.length p.cap.1
/-- a row as it lies -/
structure RowL where
  ro : Option Addr
  r : List ByteArray
  cap : Cap ro r.length
def RowL.val (x : RowL) : Value := .slice x.ro x.r.length x.cap.1
/-- rows as they lie -/
structure RowsL (w : World) (ao : Option Addr) (L : List RowL) : Prop where
  cells : CellsAt w ao (L.map RowL.val)
  each : ∀ x ∈ L, StrRow w x.ro x.r
theorem RowsL.kept {w w' : World} {ao : Option Addr} {L : List RowL} (h : RowsL w ao L) (hB : Below w.heap.size w w') : RowsL w' ao L := ⟨h.cells.kept hB, fun x hx => (h.each x hx).kept hB⟩
theorem RowsL.rows {w : World} {ao : Option Addr} {L : List RowL} (h : RowsL w ao L) : RowsAt w ao (L.map RowL.r) := by
  rcases h.cells with h0 | ⟨A, h1, h2, h3⟩
  · exact .inl (by rw [List.map_eq_nil_iff.1 h0]; rfl)
  · refine .inr ⟨A, h1, h2, fun i r hr => ?_⟩
    rw [List.getElem?_map] at hr
    obtain ⟨x, hx, rfl⟩ := Option.map_eq_some_iff.1 hr
    exact ⟨x.ro, x.cap, h3 i _ (by rw [List.getElem?_map, hx]; rfl), h.each x (List.mem_of_getElem? hx)⟩
theorem choose_list {α β : Type} (rs : List α) : ∀ (Q : Nat → α → β → Prop), (∀ (i : Nat) r, rs[i]? = some r → ∃ y, Q i r y) → ∃ L : List β, L.length = rs.length ∧ ∀ (i : Nat) r y, rs[i]? = some r → L[i]? = some y → Q i r y := by
  induction rs with
  | nil => exact fun Q h => ⟨[], rfl, fun i r y hr => by simp at hr⟩
  | cons x rs ih =>
    intro Q h
    obtain ⟨y0, h0⟩ := h 0 x rfl
    obtain ⟨L, h1, h2⟩ := ih (fun i => Q (i + 1)) (fun i r hr => h (i + 1) r (by simpa using hr))
    refine ⟨y0 :: L, by simp [h1], fun i r y hr hy => ?_⟩
    match i, hr, hy with
    | 0, hr, hy => simp at hr hy; subst hr hy; exact h0
    | i + 1, hr, hy => exact h2 i r y (by simpa using hr) (by simpa using hy)
theorem rows_list {w : World} {ao : Option Addr} {rs : List (List ByteArray)} (h : RowsAt w ao rs) : ∃ L : List RowL, L.map RowL.r = rs ∧ RowsL w ao L := by
  rcases h with rfl | ⟨A, rfl, h2, h3⟩
  · exact ⟨[], rfl, .inl rfl, fun x hx => by cases hx⟩
  · obtain ⟨L, hl, hL⟩ := choose_list rs (fun i r (y : RowL) => y.r = r ∧ w.cell? (A.add i) = some y.val ∧ StrRow w y.ro y.r) (fun i r hr => by
      obtain ⟨ro, cap, h4, h5⟩ := h3 i r hr
      exact ⟨⟨ro, r, cap⟩, rfl, h4, h5⟩)
    have key : ∀ (i : Nat) y, L[i]? = some y → ∃ r, rs[i]? = some r ∧ y.r = r ∧ w.cell? (A.add i) = some y.val ∧ StrRow w y.ro y.r := fun i y hy => by
      have hi := (List.getElem?_eq_some_iff.1 hy).1
      exact ⟨rs[i]'(by omega), List.getElem?_eq_getElem (by omega), hL i _ y (List.getElem?_eq_getElem (by omega)) hy⟩
    refine ⟨L, List.ext_getElem? fun i => ?_, ?_, fun x hx => ?_⟩
    · rw [List.getElem?_map]
      by_cases hi : i < L.length
      · obtain ⟨r, h4, h5, _⟩ := key i L[i] (List.getElem?_eq_getElem hi)
        rw [List.getElem?_eq_getElem hi, h4, ← h5]; rfl
      · rw [List.getElem?_eq_none (by omega), List.getElem?_eq_none (by omega)]; rfl
    · refine .inr ⟨A, rfl, h2, fun i v hv => ?_⟩
      rw [List.getElem?_map] at hv
      obtain ⟨y, hy, rfl⟩ := Option.map_eq_some_iff.1 hv
      obtain ⟨r, _, _, h6, _⟩ := key i y hy
      exact h6
    · obtain ⟨i, hi, rfl⟩ := List.getElem_of_mem hx
      obtain ⟨r, _, _, _, h6⟩ := key i L[i] (List.getElem?_eq_getElem hi)
      exact h6
theorem val_one (x : RowL) : x.val.oneCell' = true := rfl
theorem vals_ones (L : List RowL) : ∀ u ∈ L.map RowL.val, u.oneCell' = true := fun u hu => by
  obtain ⟨x, _, rfl⟩ := List.mem_map.1 hu; rfl
theorem strs_ones (L : List ByteArray) : ∀ u ∈ L.map Value.string, u.oneCell' = true := fun u hu => by
  obtain ⟨x, _, rfl⟩ := List.mem_map.1 hu; rfl

/-- the ending of a call that is stopped by an error -/
def stopE (e : Int) : Ending := .panicked [{ v := .iface 29 (.int .i64 e), recovered := false }]
/-- the cells of a slice that a call has made -/
def NewCells (w w' : World) (ao : Option Addr) (vs : List Value) : Prop := CellsAt w' ao vs ∧ ∀ A, ao = some A → w.heap.size ≤ A.block
theorem NewCells.mono {w W w' : World} {ao : Option Addr} {vs : List Value} (h : NewCells W w' ao vs) (hb : w.heap.size ≤ W.heap.size) : NewCells w w' ao vs := ⟨h.1, fun A hA => Nat.le_trans hb (h.2 A hA)⟩
/-- what a call leaves that makes a list, or is stopped -/
def VOut (r : Except Int (List Value)) (w : World) (e : Ending) (w' : World) : Prop :=
  match r with
  | .ok vs => ∃ (ao : Option Addr) (cap : Cap ao vs.length), e = .returned (.slice ao vs.length cap.1) ∧ NewCells w w' ao vs ∧ Below w.heap.size w w'
  | .error x => e = stopE x ∧ Below w.heap.size w w'
def SOut (r : Except Int (List ByteArray)) (w : World) (e : Ending) (w' : World) : Prop :=
  match r with
  | .ok xs => ∃ (ao : Option Addr) (cap : Cap ao xs.length), e = .returned (.slice ao xs.length cap.1) ∧ StrRow w' ao xs ∧ Below w.heap.size w w'
  | .error x => e = stopE x ∧ Below w.heap.size w w'
/-- the same, of a list that the call has made -/
def SNew (r : Except Int (List ByteArray)) (w : World) (e : Ending) (w' : World) : Prop :=
  match r with
  | .ok xs => ∃ (ao : Option Addr) (cap : Cap ao xs.length), e = .returned (.slice ao xs.length cap.1) ∧ (StrRow w' ao xs ∧ ∀ A, ao = some A → w.heap.size ≤ A.block) ∧ Below w.heap.size w w'
  | .error x => e = stopE x ∧ Below w.heap.size w w'
theorem SNew.out {r : Except Int (List ByteArray)} {w w' : World} {e : Ending} (h : SNew r w e w') : SOut r w e w' := by
  cases r with
  | error x => exact h
  | ok xs => obtain ⟨ao, cap, h1, h2, h3⟩ := h; exact ⟨ao, cap, h1, h2.1, h3⟩
theorem SNew.mk {xs : List ByteArray} {w w' : World} {e : Ending} (n : Nat) (ao : Option Addr) (cap : Nat) (hl : n = xs.length) (hc : n ≤ cap ∧ (ao = none → cap = 0)) (he : e = .returned (.slice ao n cap)) (hr : StrRow w' ao xs) (hf : ∀ A, ao = some A → w.heap.size ≤ A.block) (hb : Below w.heap.size w w') : SNew (.ok xs) w e w' := by
  subst hl; exact ⟨ao, ⟨cap, hc⟩, he, ⟨hr, hf⟩, hb⟩
theorem SNew.mono {r : Except Int (List ByteArray)} {w W w' : World} {e : Ending} (h : SNew r W e w') (hb : Below w.heap.size w W) : SNew r w e w' := by
  cases r with
  | error x => exact ⟨h.1, below_up hb h.2⟩
  | ok xs => obtain ⟨ao, cap, h1, h2, h3⟩ := h; exact ⟨ao, cap, h1, ⟨h2.1, fun A hA => Nat.le_trans hb.size (h2.2 A hA)⟩, below_up hb h3⟩
def ROut (r : Except Int (List (List ByteArray))) (w : World) (e : Ending) (w' : World) : Prop :=
  match r with
  | .ok rs => ∃ (ao : Option Addr) (cap : Cap ao rs.length), e = .returned (.slice ao rs.length cap.1) ∧ RowsAt w' ao rs ∧ Below w.heap.size w w'
  | .error x => e = stopE x ∧ Below w.heap.size w w'
theorem ROut.mk {rs : List (List ByteArray)} {w w' : World} {e : Ending} (n : Nat) (ao : Option Addr) (cap : Nat) (hl : n = rs.length) (hc : n ≤ cap ∧ (ao = none → cap = 0)) (he : e = .returned (.slice ao n cap)) (hr : RowsAt w' ao rs) (hb : Below w.heap.size w w') : ROut (.ok rs) w e w' := by
  subst hl; exact ⟨ao, ⟨cap, hc⟩, he, hr, hb⟩
theorem ROut.mono {r : Except Int (List (List ByteArray))} {w W w' : World} {e : Ending} (h : ROut r W e w') (hb : Below w.heap.size w W) : ROut r w e w' := by
  cases r with
  | error x => exact ⟨h.1, below_up hb h.2⟩
  | ok xs => obtain ⟨ao, cap, h1, h2, h3⟩ := h; exact ⟨ao, cap, h1, h2, below_up hb h3⟩
theorem SOut.mono {r : Except Int (List ByteArray)} {w W w' : World} {e : Ending} (h : SOut r W e w') (hb : Below w.heap.size w W) : SOut r w e w' := by
  cases r with
  | error x => exact ⟨h.1, below_up hb h.2⟩
  | ok xs => obtain ⟨ao, cap, h1, h2, h3⟩ := h; exact ⟨ao, cap, h1, h2, below_up hb h3⟩
def emap {α β : Type} (f : α → β) : Except Int α → Except Int β
  | .ok x => .ok (f x)
  | .error e => .error e
theorem VOut.strs {r : Except Int (List ByteArray)} {w w' : World} {e : Ending} (h : VOut (emap (List.map Value.string) r) w e w') : SNew r w e w' := by
  cases r with
  | error x => exact h
  | ok xs =>
    obtain ⟨ao, cap, h1, h2, h3⟩ := h
    have hl : (xs.map Value.string).length = xs.length := by simp
    exact ⟨ao, ⟨cap.1, Nat.le_trans (Nat.le_of_eq hl.symm) cap.2.1, cap.2.2⟩, by rw [h1]; exact congrArg (fun n => Ending.returned (Value.slice ao n cap.1)) hl, ⟨h2.1.strs, h2.2⟩, h3⟩
theorem VOut.rows {r : Except Int (List RowL)} {w w' : World} {e : Ending} (h : VOut (emap (List.map RowL.val) r) w e w') (hr : ∀ L, r = .ok L → ∀ x ∈ L, StrRow w x.ro x.r) : ROut (emap (List.map RowL.r) r) w e w' := by
  cases r with
  | error x => exact h
  | ok L =>
    obtain ⟨ao, cap, h1, h2, h3⟩ := h
    have hl : (L.map RowL.val).length = (L.map RowL.r).length := by simp
    exact ⟨ao, ⟨cap.1, Nat.le_trans (Nat.le_of_eq hl.symm) cap.2.1, cap.2.2⟩, by rw [h1]; exact congrArg (fun n => Ending.returned (Value.slice ao n cap.1)) hl, (RowsL.rows ⟨h2.1, fun x hx => (hr L rfl x hx).kept h3⟩), h3⟩

/-- the pure functions -/
def insV {α : Type} (l : List α) (k : Int) (x : α) : Except Int (List α) := if 0 ≤ k ∧ k ≤ (l.length : Int) then .ok (l.take k.toNat ++ [x] ++ l.drop k.toNat) else .error 11
def delL {α : Type} (l : List α) (k : Int) : Except Int (List α) := if 0 ≤ k ∧ k < (l.length : Int) then .ok (l.take k.toNat ++ l.drop (k.toNat + 1)) else .error 11
def movL {α : Type} (l : List α) (f t : Int) : Except Int (List α) :=
  match delL l f with
  | .error e => .error e
  | .ok o => match l[f.toNat]? with
    | some x => insV o t x
    | none => .error 11
def setL {α : Type} (l : List α) (k : Int) (x : α) : Except Int (List α) := if 0 ≤ k ∧ k < (l.length : Int) then .ok (l.set k.toNat x) else .error 11
/-- one turned by something that may be stopped -/
def turL {α : Type} (l : List α) (k : Int) (f : α → Except Int α) : Except Int (List α) :=
  if 0 ≤ k ∧ k < (l.length : Int) then
    match l[k.toNat]? with
    | some x => emap (fun y => l.set k.toNat y) (f x)
    | none => .error 11
  else .error 11
def inB (k : Int) (n : Nat) : Bool := decide (0 ≤ k) && decide (k < (n : Int))
def pickV {α : Type} (l : List α) (ps : List Int) : Except Int (List α) := if ps.all (fun p => inB p l.length) then .ok (ps.filterMap fun p => l[p.toNat]?) else .error 11
/-- all turned, one by one, with their numbers from k on -/
def eachL {α : Type} (f : Nat → α → Except Int α) : Nat → List α → Except Int (List α)
  | _, [] => .ok []
  | k, x :: l => match f k x with
    | .error e => .error e
    | .ok y => emap (y :: ·) (eachL f (k + 1) l)
theorem mov_err {α : Type} {l : List α} {f t e : Int} (h : delL l f = .error e) : movL l f t = .error e := by unfold movL; rw [h]
theorem mov_ok {α : Type} {l o : List α} {f t : Int} {x : α} (h : delL l f = .ok o) (hx : l[f.toNat]? = some x) : movL l f t = insV o t x := by unfold movL; rw [h]; simp only [hx]
theorem ins_map {α β : Type} (f : α → β) (l : List α) (k : Int) (x : α) : insV (l.map f) k (f x) = emap (List.map f) (insV l k x) := by
  unfold insV
  rw [List.length_map]
  split
  · simp [emap, List.map_take, List.map_drop]
  · rfl
theorem del_map {α β : Type} (f : α → β) (l : List α) (k : Int) : delL (l.map f) k = emap (List.map f) (delL l k) := by
  unfold delL
  rw [List.length_map]
  split
  · simp [emap, List.map_take, List.map_drop]
  · rfl
theorem mov_map {α β : Type} (f : α → β) (l : List α) (a b : Int) : movL (l.map f) a b = emap (List.map f) (movL l a b) := by
  unfold movL
  rw [del_map]
  cases delL l a with
  | error e => rfl
  | ok o =>
    show (match (l.map f)[a.toNat]? with | some x => insV (o.map f) b x | none => .error 11) = _
    rw [List.getElem?_map]
    cases l[a.toNat]? with
    | none => rfl
    | some x => exact ins_map f o b x
end Go.Proofs.YtigijgcldgbokaaGreat
