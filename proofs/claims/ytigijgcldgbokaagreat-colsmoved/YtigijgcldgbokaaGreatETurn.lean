/-
  A table that is turned by two functions, or what is wrong first: what the program makes of panics that are recovered.
  Conditions: tables of at most 5000 rows of at most 5000 cells of at most 10000 bytes (the statements ask about far smaller ones).
-/
import Derived.WalkKit
import Derived.WalkMore
import Derived.WalkLawsBesides
import Derived.Defers
import Derived.Recover
import Derived.Lib.Hide
import Derived.Test.YtigijgcldgbokaaGreatProg
import Derived.Test.YtigijgcldgbokaaGreatECatch
import Derived.Test.YtigijgcldgbokaaGreatEEach
import Derived.Test.YtigijgcldgbokaaGreatPkC
namespace Go.Proofs.YtigijgcldgbokaaGreat
open Go.RowKit Go.Shelf
set_option linter.unusedVariables false

abbrev Tab := List ByteArray × List (List ByteArray)
def smR (xs : List ByteArray) : Prop := xs.length ≤ 5000 ∧ ∀ c ∈ xs, c.size ≤ 10000
def smT (hd : List ByteArray) (rs : List (List ByteArray)) : Prop := smR hd ∧ rs.length ≤ 5000 ∧ ∀ r ∈ rs, smR r
theorem sum_small (rs : List (List ByteArray)) (h : ∀ r ∈ rs, smR r) : sumT rs.flatten ≤ rs.length * 50000000 := by
  induction rs with
  | nil => simp [sumT]
  | cons r rs ih =>
    have h1 := sum_le 5000 10000 r (h r List.mem_cons_self).1 (h r List.mem_cons_self).2
    have h2 := ih (fun x hx => h x (List.mem_cons_of_mem _ hx))
    simp only [List.flatten_cons, sumT, List.map_append, List.sum_append, List.length_cons] at h1 h2 ⊢
    omega
theorem smT.sum {hd : List ByteArray} {rs : List (List ByteArray)} (h : smT hd rs) : sumT (allT hd rs) ≤ 300000000000 := by
  have h1 := sum_small (hd :: rs) (fun r hr => by
    rcases List.mem_cons.1 hr with rfl | hr
    · exact h.1
    · exact h.2.2 r hr)
  rw [show (hd :: rs).flatten = allT hd rs from rfl, List.length_cons] at h1
  have := h.2.1
  omega
/-- a table as it is turned -/
def turnR (gh : List ByteArray → Except Int (List ByteArray)) (gr : List (List ByteArray) → Except Int (List (List ByteArray))) (hd : List ByteArray) (rs : List (List ByteArray)) : Except Int Tab :=
  if checkI hd rs = 0 then
    match gh hd with
    | .error e => .error e
    | .ok h => match gr rs with
      | .error e => .error e
      | .ok r => if checkI h r = 0 then .ok (h, r) else .error (checkI h r)
  else .error (checkI hd rs)
/-- what a call leaves that makes a table, or tells an error -/
def TabOut (x : Except Int Tab) (w : World) (e : Ending) (w' : World) : Prop :=
  match x with
  | .ok t => ∃ (ho : Option Addr) (hc : Cap ho t.1.length) (ro : Option Addr) (rc : Cap ro t.2.length), e = .returned (.tuple #[.agg #[.slice ho t.1.length hc.1, .slice ro t.2.length rc.1], .int .i64 0]) ∧ StrRow w' ho t.1 ∧ RowsAt w' ro t.2 ∧ Below w.heap.size w w' ∧ ∀ A, ro = some A → w.heap.size ≤ A.block
  | .error x => ∃ (ho : Option Addr) (hc : Cap ho 0) (ro : Option Addr) (rc : Cap ro 0), e = .returned (.tuple #[.agg #[.slice ho 0 hc.1, .slice ro 0 rc.1], .int .i64 x]) ∧ Below w.heap.size w w'
theorem TabOut.mono {x : Except Int Tab} {w W w' : World} {e : Ending} (h : TabOut x W e w') (hb : Below w.heap.size w W) : TabOut x w e w' := by
  cases x with
  | error x => obtain ⟨a, b, c, d, h1, h2⟩ := h; exact ⟨a, b, c, d, h1, below_up hb h2⟩
  | ok t => obtain ⟨a, b, c, d, h1, h2, h3, h4, h5⟩ := h; exact ⟨a, b, c, d, h1, h2, h3, below_up hb h4, fun A hA => Nat.le_trans hb.size (h5 A hA)⟩
theorem of_out {h : List ByteArray} {r : List (List ByteArray)} {w w' : World} {e : Ending} (q : OfPost (h :: r) w e w') : TabOut (if checkI h r = 0 then .ok (h, r) else .error (checkI h r)) w e w' := by
  obtain ⟨ho, hc, ro, rc, h1, h2, h3, h4, h5⟩ := q
  by_cases hk : checkI h r = 0
  · rw [if_pos hk]
    have e1 : ofHead (h :: r) = h := by simp [ofHead, hk]
    have e2 : ofRows (h :: r) = r := by simp [ofRows, hk]
    have e3 : ofErr (h :: r) = 0 := hk
    rw [e3] at h1
    rw [e1] at h2
    rw [e2] at h3
    revert hc rc
    rw [e1, e2]
    intro hc rc h1
    exact ⟨ho, hc, ro, rc, h1, h2, h3, h4, h5⟩
  · rw [if_neg hk]
    have e1 : ofHead (h :: r) = [] := by simp [ofHead, hk]
    have e2 : ofRows (h :: r) = [] := by simp [ofRows, hk]
    have e3 : ofErr (h :: r) = checkI h r := rfl
    rw [e3] at h1
    rw [e1] at h2
    rw [e2] at h3
    revert hc rc
    rw [e1, e2]
    intro hc rc h1
    exact ⟨ho, hc, ro, rc, h1, h4⟩
theorem TabOut.shape {X : Except Int Tab} {w w' : World} {e : Ending} (h : TabOut X w e w') : ∃ qo qn qc so sn sc x, e = .returned (.tuple #[.agg #[.slice qo qn qc, .slice so sn sc], .int .i64 x]) := by
  cases X with
  | error x => obtain ⟨a, b, c, d, h1, h2⟩ := h; exact ⟨_, _, _, _, _, _, _, h1⟩
  | ok t => obtain ⟨a, b, c, d, h1, h2, h3, h4⟩ := h; exact ⟨_, _, _, _, _, _, _, h1⟩
theorem TabOut.below {X : Except Int Tab} {w w' : World} {e : Ending} (h : TabOut X w e w') : Below w.heap.size w w' := by
  cases X with
  | error x => obtain ⟨a, b, c, d, h1, h2⟩ := h; exact h2
  | ok t => obtain ⟨a, b, c, d, h1, h2, h3, h4, _⟩ := h; exact h4
/-- what is told stays so where it is stored into a box of its own -/
theorem TabOut.stored {X : Except Int Tab} {w W w1 : World} {v0 v1 v2 : Value} {b : Nat} (h : TabOut X W (.returned (.tuple #[.agg #[v0, v1], v2])) w1) (hb : Below w.heap.size w W) (hz : w1.heap[b]? = some (.cells #[.slice none 0 0, .slice none 0 0] 25 (0, 0))) (hle : w.heap.size ≤ b) (hlt : b < W.heap.size) :
    TabOut X w (.returned (.tuple #[.agg #[v0, v1], v2])) ((w1.setCell ⟨b, 0, none⟩ v0).setCell ⟨b, 1, none⟩ v1) := by
  have hk : ∀ k, k ≠ b → ((w1.setCell ⟨b, 0, none⟩ v0).setCell ⟨b, 1, none⟩ v1).heap[k]? = w1.heap[k]? := fun k hk => (heap_setCell_other _ ⟨b, 1, none⟩ k _ hk).trans (heap_setCell_other _ ⟨b, 0, none⟩ k _ hk)
  have hs : w1.heap.size ≤ ((w1.setCell ⟨b, 0, none⟩ v0).setCell ⟨b, 1, none⟩ v1).heap.size := by simp
  have hB : ∀ u : World, Below w.heap.size w u → Below w.heap.size w ((u.setCell ⟨b, 0, none⟩ v0).setCell ⟨b, 1, none⟩ v1) := fun u hu => (hu.setCell (p := ⟨b, 0, none⟩) hle _).setCell (p := ⟨b, 1, none⟩) hle _
  have hn : ∀ (j : Nat) s, (#[Value.slice none 0 0, Value.slice none 0 0] : Array Value)[j]? ≠ some (.string s) := fun j s e => by
    match j, e with
    | 0, e => simp at e
    | 1, e => simp at e
  cases X with
  | error x => obtain ⟨p, q, r, s, h1, h2⟩ := h; exact ⟨p, q, r, s, h1, hB _ (below_up hb h2)⟩
  | ok t =>
    obtain ⟨p, q, r, s, h1, h2, h3, h4, h5⟩ := h
    refine ⟨p, q, r, s, h1, str_turn hz hn hs hk h2, ?_, hB _ (below_up hb h4), fun A hA => Nat.le_trans hb.size (h5 A hA)⟩
    cases r with
    | none =>
      rcases h3 with h0 | ⟨A, hA, _⟩
      · exact .inl h0
      · cases hA
    | some A => exact rows_turn hz hn hs hk (by have := h5 A rfl; omega) h3
/-- functions that turn a head, and rows -/
def HeadFn (w : World) (F : FuncId) (caps : Array Value) (f : List ByteArray → Except Int (List ByteArray)) (Ok : List ByteArray → Prop) : Prop :=
  ∀ W, Below w.heap.size w W → ∀ ao (xs : List ByteArray) (cap : Cap ao xs.length), Ok xs → StrRow W ao xs → Calls Tryz.prog F (#[.slice ao xs.length cap.1] ++ caps) W (SOut (f xs) W)
def RowsFn (w : World) (F : FuncId) (caps : Array Value) (f : List (List ByteArray) → Except Int (List (List ByteArray))) (Ok : List (List ByteArray) → Prop) : Prop :=
  ∀ W, Below w.heap.size w W → ∀ ao (rs : List (List ByteArray)) (cap : Cap ao rs.length), Ok rs → RowsAt W ao rs → Calls Tryz.prog F (#[.slice ao rs.length cap.1] ++ caps) W (ROut (f rs) W)

theorem concat_head (w : World) (xo yo : Option Addr) (h : List ByteArray) (r : List (List ByteArray)) (xc : Cap xo h.length) (yc : Cap yo r.length) (h1 : StrRow w xo h) (h2 : RowsAt w yo r) (hn : r.length ≤ 549755813888) :
    Calls Tryz.prog 74 #[.slice (some ⟨w.heap.size + 1, 0, none⟩) 2 2] ((w.alloc (.cells #[.slice xo h.length xc.1] 22)).alloc (.cells #[.slice (some ⟨w.heap.size, 0, none⟩) 1 1, .slice yo r.length yc.1] 23)) (ROut (.ok (h :: r)) w) := by
  obtain ⟨L, hL, hRL⟩ := rows_list h2
  subst hL
  obtain ⟨W, HW⟩ : ∃ W, Hid (W = (w.alloc (.cells #[.slice xo h.length xc.1] 22)).alloc (.cells #[.slice (some ⟨w.heap.size, 0, none⟩) 1 1, .slice yo (L.map RowL.r).length yc.1] 23)) := ⟨_, Lib.hid rfl⟩
  have hB : Below w.heap.size w W := by rw [HW.out]; exact two_below _ _ _
  have hN := two_new w (.cells #[.slice xo h.length xc.1] 22) (.cells #[.slice (some ⟨w.heap.size, 0, none⟩) 1 1, .slice yo (L.map RowL.r).length yc.1] 23)
  rw [← HW.out] at hN ⊢
  have hl : (L.map RowL.r).length = (L.map RowL.val).length := by simp
  let ps : List PartE := [⟨some ⟨w.heap.size, 0, none⟩, [.slice xo h.length xc.1], ⟨1, Nat.le_refl _, fun e => by cases e⟩⟩, ⟨yo, L.map RowL.val, ⟨yc.1, Nat.le_trans (Nat.le_of_eq hl.symm) yc.2.1, yc.2.2⟩⟩]
  have C := concatR (w.heap.size + 1) 2 ps W (by simp [ps]) (fun i p hp => ?_) (lt_of_heap hN.2.2) (fun p hp => ?_) (by simp only [ps, lensTR, List.map_cons, List.map_nil, List.sum_cons, List.sum_nil, List.length_singleton]; rw [← hl]; omega)
  · refine C.mono ?_
    intro e w' q
    have hf : flatTR ps = ((⟨xo, h, xc⟩ : RowL) :: L).map RowL.val := by simp [ps, flatTR, RowL.val]
    rw [hf] at q
    have q2 := VOut.rows (r := .ok (⟨xo, h, xc⟩ :: L)) q (fun L' hL' x hx => by
      injection hL' with hL'
      subst hL'
      rcases List.mem_cons.1 hx with rfl | hx
      · exact h1.kept hB
      · exact (hRL.each x hx).kept hB)
    exact ROut.mono q2 hB
  · rw [Lib.cell_of_heap hN.2.2 i]
    match i, hp with
    | 0, hp => simp [ps] at hp; subst hp; rfl
    | 1, hp =>
      simp [ps] at hp; subst hp
      show some (Value.slice yo (L.map RowL.r).length yc.1) = some (Value.slice yo (L.map RowL.val).length yc.1)
      exact congrArg (fun n => some (Value.slice yo n yc.1)) hl
  · simp only [ps, List.mem_cons, List.not_mem_nil, or_false] at hp
    rcases hp with rfl | rfl
    · refine ⟨.inr ⟨_, rfl, lt_of_heap hN.2.1, fun i v hv => ?_⟩, fun u hu => by simp at hu; subst hu; rfl⟩
      rw [cell_row hN.2.1]
      match i, hv with
      | 0, hv => simpa using hv
    · exact ⟨hRL.cells.kept hB, vals_ones L⟩

/-- the boxes of a turn's results -/
structure Boxes (n : Nat) (V : World) : Prop where
  z : V.heap[n + 1 + 1]? = some (.cells #[.slice none 0 0, .slice none 0 0] 25 (0, 0))
  e : V.heap[n + 1 + 1 + 1]? = some (.cells #[.int .i64 0] 29 (0, 0))
theorem Boxes.kept {n : Nat} {V V' : World} (h : Boxes n V) (b : Below V.heap.size V V') : Boxes n V' := ⟨(b.block _ (lt_of_heap h.z)).trans h.z, (b.block _ (lt_of_heap h.e)).trans h.e⟩

set_option maxRecDepth 100000 in
theorem door_stop (T : Array Value) (x : Int) (w V : World) (X : Except Int Tab) (hX : X = .error x) (hB : Boxes w.heap.size V) (hb : Below w.heap.size w V) (h4 : T[4]? = some (.pointer (some ⟨w.heap.size + 1 + 1, 0, none⟩))) (h5 : T[5]? = some (.pointer (some ⟨w.heap.size + 1 + 1 + 1, 0, none⟩))) :
    bodyPostD Tryz.prog Tryz.f38 (TabOut X w) (Exit.panic [{ v := .iface 29 (.int .i64 x), recovered := false }])
      { tmps := T, defers := [{ target := Target.fn (Fn.func 71) #[.pointer (some ⟨w.heap.size + 1 + 1, 0, none⟩), .pointer (some ⟨w.heap.size + 1 + 1 + 1, 0, none⟩)], args := #[] }] } V := by
  subst hX
  have z0 : V.cell? ⟨w.heap.size + 1 + 1, 0, none⟩ = some (.slice none 0 0) := (Lib.cell_of_heap hB.z 0).trans rfl
  have z1 : V.cell? ⟨w.heap.size + 1 + 1, 1, none⟩ = some (.slice none 0 0) := (Lib.cell_of_heap hB.z 1).trans rfl
  have e0 : V.cell? ⟨w.heap.size + 1 + 1 + 1, 0, none⟩ = some (.int .i64 0) := (Lib.cell_of_heap hB.e 0).trans rfl
  refine leaves_cons (f := 71) (args := #[.pointer (some ⟨w.heap.size + 1 + 1, 0, none⟩), .pointer (some ⟨w.heap.size + 1 + 1 + 1, 0, none⟩)]) (by simp) (by simp [go_sem]) ?_
  refine (catch_panicking (w.heap.size + 1 + 1) (w.heap.size + 1 + 1 + 1) x _ _ _ [] V z0 z1 e0 (Lib.frozen_of_heap hB.z 0) (Lib.frozen_of_heap hB.z 1) (Lib.frozen_of_heap hB.e 0) (by omega)).mono ?_
  rintro e u' w'' ⟨rfl, rfl, rfl⟩
  refine ⟨.tuple #[.agg #[.slice none 0 0, .slice none 0 0], .int .i64 x], ?_, none, ⟨0, Nat.le_refl _, fun _ => rfl⟩, none, ⟨0, Nat.le_refl _, fun _ => rfl⟩, rfl, ?_⟩
  · simp [results, Tryz.results38, go_sem, h4, h5, z0, z1, e0]
  · exact ((((hb.setCell (p := ⟨w.heap.size + 1 + 1, 0, none⟩) (by show w.heap.size ≤ w.heap.size + 1 + 1; omega) _).setCell (p := ⟨w.heap.size + 1 + 1, 1, none⟩) (by show w.heap.size ≤ w.heap.size + 1 + 1; omega) _).setCell (p := ⟨w.heap.size + 1 + 1 + 1, 0, none⟩) (by show w.heap.size ≤ w.heap.size + 1 + 1 + 1; omega) _)).drew

set_option maxRecDepth 100000 in
theorem door_back (T : Array Value) (w V : World) (X : Except Int Tab) (v0 v1 : Value) (x : Int) (hQ : TabOut X w (.returned (.tuple #[.agg #[v0, v1], .int .i64 x])) V) (z0 : V.cell? ⟨w.heap.size + 1 + 1, 0, none⟩ = some v0) (z1 : V.cell? ⟨w.heap.size + 1 + 1, 1, none⟩ = some v1) (e0 : V.cell? ⟨w.heap.size + 1 + 1 + 1, 0, none⟩ = some (.int .i64 x))
    (h4 : T[4]? = some (.pointer (some ⟨w.heap.size + 1 + 1, 0, none⟩))) (h5 : T[5]? = some (.pointer (some ⟨w.heap.size + 1 + 1 + 1, 0, none⟩))) :
    bodyPostD Tryz.prog Tryz.f38 (TabOut X w) Exit.ret
      { tmps := T, defers := [{ target := Target.fn (Fn.func 71) #[.pointer (some ⟨w.heap.size + 1 + 1, 0, none⟩), .pointer (some ⟨w.heap.size + 1 + 1 + 1, 0, none⟩)], args := #[] }] } V := by
  refine leaves_cons (f := 71) (args := #[.pointer (some ⟨w.heap.size + 1 + 1, 0, none⟩), .pointer (some ⟨w.heap.size + 1 + 1 + 1, 0, none⟩)]) (by simp) (by simp [go_sem]) ?_
  refine (catch_idle ⟨w.heap.size + 1 + 1, 0, none⟩ ⟨w.heap.size + 1 + 1 + 1, 0, none⟩ V).mono ?_
  rintro e u' w'' ⟨rfl, rfl, rfl⟩
  refine ⟨.tuple #[.agg #[v0, v1], .int .i64 x], ?_, hQ⟩
  simp [results, Tryz.results38, go_sem, h4, h5, z0, z1, e0]

theorem turn_bad {gh : List ByteArray → Except Int (List ByteArray)} {gr : List (List ByteArray) → Except Int (List (List ByteArray))} {hd : List ByteArray} {rs : List (List ByteArray)} (h : checkI hd rs ≠ 0) : turnR gh gr hd rs = .error (checkI hd rs) := by unfold turnR; rw [if_neg h]
theorem turn_head {gh : List ByteArray → Except Int (List ByteArray)} {gr : List (List ByteArray) → Except Int (List (List ByteArray))} {hd : List ByteArray} {rs : List (List ByteArray)} {e : Int} (h : checkI hd rs = 0) (h1 : gh hd = .error e) : turnR gh gr hd rs = .error e := by unfold turnR; rw [if_pos h, h1]
theorem turn_rows {gh : List ByteArray → Except Int (List ByteArray)} {gr : List (List ByteArray) → Except Int (List (List ByteArray))} {hd : List ByteArray} {rs : List (List ByteArray)} {e : Int} {x : List ByteArray} (h : checkI hd rs = 0) (h1 : gh hd = .ok x) (h2 : gr rs = .error e) : turnR gh gr hd rs = .error e := by unfold turnR; rw [if_pos h, h1]; simp only [h2]
theorem turn_ok {gh : List ByteArray → Except Int (List ByteArray)} {gr : List (List ByteArray) → Except Int (List (List ByteArray))} {hd : List ByteArray} {rs : List (List ByteArray)} {x : List ByteArray} {y : List (List ByteArray)} (h : checkI hd rs = 0) (h1 : gh hd = .ok x) (h2 : gr rs = .ok y) : turnR gh gr hd rs = if checkI x y = 0 then .ok (x, y) else .error (checkI x y) := by unfold turnR; rw [if_pos h, h1]; simp only [h2]
/-- Of, whatever records there are, within wide bounds -/
theorem of_wide (ao : Option Addr) (cap : Nat) (rs : List (List ByteArray)) (w : World) (hn : rs.length ≤ 1099511627776) (hs : ∀ r ∈ rs, r.length ≤ 1099511627776 ∧ ∀ c ∈ r, c.size ≤ 281474976710656) (hsum : sumT rs.flatten ≤ 1152921504606846976) (hc : rs.length ≤ cap) (hR : RowsAt w ao rs) :
    Calls Tryz.prog 73 #[.slice ao rs.length cap] w (OfPost rs w) := by
  cases rs with
  | nil => exact of_nil ao cap w
  | cons x t =>
    obtain ⟨A, rfl⟩ : ∃ A, ao = some A := by rcases hR with h | ⟨A, h, _⟩; cases h; exact ⟨A, h⟩
    have hx := hs x List.mem_cons_self
    simp only [List.length_cons] at hn hc
    by_cases h1 : cap = 1
    · subst h1
      obtain rfl : t = [] := List.eq_nil_of_length_eq_zero (by omega)
      exact of_one A x w hx.1 hx.2 hsum hR
    · exact of_more A cap x t w hc h1 hx.1 hx.2 (by omega) (fun r hr => hs r (List.mem_cons_of_mem _ hr)) hsum hR

set_option maxRecDepth 100000 in
set_option maxHeartbeats 8000000 in
theorem turned_any (ho ro : Option Addr) (hd : List ByteArray) (rs : List (List ByteArray)) (hc : Cap ho hd.length) (rc : Cap ro rs.length) (FH FR : FuncId) (cH cR : Array Value)
    (gh : List ByteArray → Except Int (List ByteArray)) (gr : List (List ByteArray) → Except Int (List (List ByteArray))) (OkH : List ByteArray → Prop) (OkR : List (List ByteArray) → Prop) (w : World)
    (hsm : smT hd rs) (hH : StrRow w ho hd) (hR : RowsAt w ro rs) (fH : HeadFn w FH cH gh OkH) (fR : RowsFn w FR cR gr OkR) (okH : checkI hd rs = 0 → OkH hd) (okR : checkI hd rs = 0 → OkR rs)
    (hres : ∀ h r, checkI hd rs = 0 → gh hd = .ok h → gr rs = .ok r → smT h r)
    (eH : ∀ args w, (callFunc FH args).run Tryz.prog w = .ok (.enter FH args) w) (eR : ∀ args w, (callFunc FR args).run Tryz.prog w = .ok (.enter FR args) w) :
    Calls Tryz.prog 38 #[.agg #[.slice ho hd.length hc.1, .slice ro rs.length rc.1], .agg #[.func (.func FH) #[] cH, .func (.func FR) #[] cR]] w (TabOut (turnR gh gr hd rs) w) := by
  have hmf : ∀ (fn : Fn) (first cap : Array Value) (w : World), (Instr.makeFunc fn first cap).run Tryz.prog w = .ok (.func fn first cap) w := fun _ _ _ _ => rfl
  obtain ⟨W, HW⟩ : ∃ W, Hid (W = (((w.alloc (.cells #[.slice ho hd.length hc.1, .slice ro rs.length rc.1] 25)).alloc (.cells #[.func (.func FH) #[] cH, .func (.func FR) #[] cR] 77)).alloc (.cells #[.slice none 0 0, .slice none 0 0] 25)).alloc (.cells #[.int .i64 0] 29)) := ⟨_, Lib.hid rfl⟩
  have hB : Below w.heap.size w W := by rw [HW.out]; exact (((one_below _ _).alloc (by simp) _).alloc (by simp; omega) _).alloc (by simp; omega) _
  have hN := two_new w (.cells #[.slice ho hd.length hc.1, .slice ro rs.length rc.1] 25) (.cells #[.func (.func FH) #[] cH, .func (.func FR) #[] cR] 77)
  have hM := two_new ((w.alloc (.cells #[.slice ho hd.length hc.1, .slice ro rs.length rc.1] 25)).alloc (.cells #[.func (.func FH) #[] cH, .func (.func FR) #[] cR] 77)) (.cells #[.slice none 0 0, .slice none 0 0] 25) (.cells #[.int .i64 0] 29)
  have hT : W.heap[w.heap.size]? = some (.cells #[.slice ho hd.length hc.1, .slice ro rs.length rc.1] 25 (0, 0)) := by rw [HW.out]; exact al_old _ (al_old _ hN.2.1)
  have hU : W.heap[w.heap.size + 1]? = some (.cells #[.func (.func FH) #[] cH, .func (.func FR) #[] cR] 77 (0, 0)) := by rw [HW.out]; exact al_old _ (al_old _ hN.2.2)
  rw [← HW.out, hN.1] at hM
  have hX : Boxes w.heap.size W := ⟨hM.2.1, hM.2.2⟩
  have C := Lib.hid (check_any ho hc.1 hd ro rc.1 rs W (by have := hsm.1.1; omega) (by have := hsm.2.1; omega) (fun r hr => by have := (hsm.2.2 r hr).1; omega) (hH.kept hB) (hR.kept hB) (fun c hc => by have := hsm.1.2 c hc; unfold maxLen; omega) (by have := hsm.sum; omega))
  have HX := Lib.hid hX
  have HB := Lib.hid hB
  have HT := Lib.hid hT
  have HU := Lib.hid hU
  have T1 := Lib.hid (@turn_bad gh gr hd rs)
  have T2 := Lib.hid (fun e => @turn_head gh gr hd rs e)
  have T3 := Lib.hid (fun e x => @turn_rows gh gr hd rs e x)
  have T4 := Lib.hid (fun x y => @turn_ok gh gr hd rs x y)
  have CH := Lib.hid (fun (h0 : checkI hd rs = 0) V (hV : Below w.heap.size w V) => fH V hV ho hd hc (okH h0) (hH.kept hV))
  have CR := Lib.hid (fun (h0 : checkI hd rs = 0) V (hV : Below w.heap.size w V) => fR V hV ro rs rc (okR h0) (hR.kept hV))
  have HS := Lib.hid hres
  clear hX hB hT hU hN hM okH okR hres fH fR hH hR hsm
  generalize turnR gh gr hd rs = X at T1 T2 T3 T4 ⊢
  generalize checkI hd rs = ck at C T1 T2 T3 T4 CH CR HS
  generalize gh hd = xh at CH HS T2 T3 T4
  generalize gr rs = xr at CR HS T3 T4
  go_enter_defers Tryz.func38, Tryz.ntmps38
  go_wp2_with fail
  rw [← HW.out]
  refine C.out.mono ?_; rintro e w1 ⟨rfl, b1⟩
  have B1 := Lib.hid b1
  clear b1 C
  go_wp2_with fail
  refine (stop_any ck w1).mono ?_; rintro e w' ⟨⟨hk, rfl⟩ | ⟨hk, rfl⟩, rfl⟩
  case inr =>
    unfold stopE
    go_wp2_with fail
    exact door_stop _ ck w w' X (T1.out hk) (HX.out.kept B1.out) (below_up HB.out B1.out) rfl rfl
  subst hk
  have t0 : w'.cell? ⟨w.heap.size, 0, none⟩ = some (.slice ho hd.length hc.1) := (Lib.cell_of_heap ((B1.out.block _ (lt_of_heap HT.out)).trans HT.out) 0).trans rfl
  have u0 : w'.cell? ⟨w.heap.size + 1, 0, none⟩ = some (.func (.func FH) #[] cH) := (Lib.cell_of_heap ((B1.out.block _ (lt_of_heap HU.out)).trans HU.out) 0).trans rfl
  have C := Lib.hid (CH.out (by trivial) w' (below_up HB.out B1.out))
  clear CH
  go_wp2_with fail
  refine C.out.mono ?_; intro e w2 hq
  clear C t0 u0
  cases xh with
  | error x =>
    obtain ⟨rfl, b2⟩ := hq
    have B2 := Lib.hid (below_up B1.out b2)
    clear b2
    unfold stopE
    go_wp2_with fail
    exact door_stop _ x w w2 X (T2.out x (by trivial) rfl) (HX.out.kept B2.out) (below_up HB.out B2.out) rfl rfl
  | ok h =>
    obtain ⟨xo, xc, rfl, hx, b2⟩ := hq
    have B2 := Lib.hid (below_up B1.out b2)
    have HH := Lib.hid hx
    clear b2 hx
    have t1 : w2.cell? ⟨w.heap.size, 1, none⟩ = some (.slice ro rs.length rc.1) := (Lib.cell_of_heap ((B2.out.block _ (lt_of_heap HT.out)).trans HT.out) 1).trans rfl
    have u1 : w2.cell? ⟨w.heap.size + 1, 1, none⟩ = some (.func (.func FR) #[] cR) := (Lib.cell_of_heap ((B2.out.block _ (lt_of_heap HU.out)).trans HU.out) 1).trans rfl
    have C := Lib.hid (CR.out (by trivial) w2 (below_up HB.out B2.out))
    clear CR
    go_wp2_with fail
    refine C.out.mono ?_; intro e w3 hq
    clear C t1 u1
    cases xr with
    | error x =>
      obtain ⟨rfl, b3⟩ := hq
      have B3 := Lib.hid (below_up B2.out b3)
      clear b3
      unfold stopE
      go_wp2_with fail
      exact door_stop _ x w w3 X (T3.out x h (by trivial) rfl rfl) (HX.out.kept B3.out) (below_up HB.out B3.out) rfl rfl
    | ok r =>
      obtain ⟨yo, yc, rfl, hy, b3⟩ := hq
      have hs := HS.out h r (by trivial) rfl rfl
      have C := Lib.hid (concat_head w3 xo yo h r xc yc (HH.out.kept b3) hy (by have := hs.2.1; omega))
      have B3 := Lib.hid (below_up B2.out b3)
      have HSM := Lib.hid hs
      have hE := T4.out h r (by trivial) rfl rfl
      have HE := Lib.hid hE
      clear hE b3 hy hs HS T1 T2 T3 T4
      go_wp2_with fail
      refine C.out.mono ?_; rintro e w4 ⟨zo, zc, rfl, hz, b4⟩
      have B4 := Lib.hid (below_up B3.out b4)
      have O := Lib.hid (of_wide zo zc.1 (h :: r) w4 (by have := HSM.out.2.1; simp; omega) (fun q hq => by
        rcases List.mem_cons.1 hq with rfl | hq
        · exact ⟨by have := HSM.out.1.1; omega, fun c hc => by have := HSM.out.1.2 c hc; omega⟩
        · exact ⟨by have := (HSM.out.2.2 q hq).1; omega, fun c hc => by have := (HSM.out.2.2 q hq).2 c hc; omega⟩) (by rw [show (h :: r).flatten = allT h r from rfl]; have := HSM.out.sum; omega) zc.2.1 hz)
      clear b4 hz C
      go_wp2_with fail
      refine O.out.mono ?_; intro e w5 hq
      obtain ⟨qo, qc, so, sc, rfl, q1, q2, b5, q3⟩ := hq
      have bW := below_up B4.out b5
      have hXX := HX.out.kept bW
      have hbW := below_up HB.out bW
      have z0 : w5.cell? ⟨w.heap.size + 1 + 1, 0, none⟩ = some (.slice none 0 0) := (Lib.cell_of_heap hXX.z 0).trans rfl
      have z1 : w5.cell? ⟨w.heap.size + 1 + 1, 1, none⟩ = some (.slice none 0 0) := (Lib.cell_of_heap hXX.z 1).trans rfl
      have e0 : w5.cell? ⟨w.heap.size + 1 + 1 + 1, 0, none⟩ = some (.int .i64 0) := (Lib.cell_of_heap hXX.e 0).trans rfl
      have f0 : w5.frozen? ⟨w.heap.size + 1 + 1, 0, none⟩ = false := Lib.frozen_of_heap hXX.z 0
      have f1 : w5.frozen? ⟨w.heap.size + 1 + 1, 1, none⟩ = false := Lib.frozen_of_heap hXX.z 1
      have f2 : w5.frozen? ⟨w.heap.size + 1 + 1 + 1, 0, none⟩ = false := Lib.frozen_of_heap hXX.e 0
      have hlt : w.heap.size + 1 + 1 + 1 < w4.heap.size := lt_of_heap (HX.out.kept B4.out).e
      have HXX := Lib.hid hXX
      have Q := Lib.hid (And.intro q1 (And.intro q2 (And.intro q3 hbW)))
      clear q1 q2 q3 b5 bW hXX hbW O
      go_wp2_with fail
      obtain ⟨q1, q2, q3, hbW⟩ := Q.out
      obtain ⟨V1, HV1⟩ : ∃ V1, Hid (V1 = (w5.setCell ⟨w.heap.size + 1 + 1, 0, none⟩ (.slice qo (ofHead (h :: r)).length qc.1)).setCell ⟨w.heap.size + 1 + 1, 1, none⟩ (.slice so (ofRows (h :: r)).length sc.1)) := ⟨_, Lib.hid rfl⟩
      rw [← HV1.out]
      have hk1 : ∀ k, k ≠ w.heap.size + 1 + 1 → V1.heap[k]? = w5.heap[k]? := fun k hk => by
        rw [HV1.out]; exact (heap_setCell_other _ ⟨w.heap.size + 1 + 1, 1, none⟩ k _ hk).trans (heap_setCell_other _ ⟨w.heap.size + 1 + 1, 0, none⟩ k _ hk)
      have hz1 : w5.heap.size ≤ V1.heap.size := by rw [HV1.out]; simp
      have hb1 : Below w.heap.size w V1 := by
        rw [HV1.out]; exact (hbW.setCell (p := ⟨w.heap.size + 1 + 1, 0, none⟩) (by show w.heap.size ≤ w.heap.size + 1 + 1; omega) _).setCell (p := ⟨w.heap.size + 1 + 1, 1, none⟩) (by show w.heap.size ≤ w.heap.size + 1 + 1; omega) _
      have hx1 : V1.heap[w.heap.size + 1 + 1]? = some (.cells #[.slice qo (ofHead (h :: r)).length qc.1, .slice so (ofRows (h :: r)).length sc.1] 25 (0, 0)) := by
        rw [HV1.out]; exact set_two _ _ HXX.out.z
      have hx2 : V1.heap[w.heap.size + 1 + 1 + 1]? = some (.cells #[.int .i64 0] 29 (0, 0)) := (hk1 _ (by omega)).trans HXX.out.e
      have hk2 : ∀ k, k ≠ w.heap.size + 1 + 1 + 1 → (V1.setCell ⟨w.heap.size + 1 + 1 + 1, 0, none⟩ (.int .i64 (ofErr (h :: r)))).heap[k]? = V1.heap[k]? := fun k hk => heap_setCell_other _ ⟨w.heap.size + 1 + 1 + 1, 0, none⟩ k _ hk
      have hz2 : V1.heap.size ≤ (V1.setCell ⟨w.heap.size + 1 + 1 + 1, 0, none⟩ (.int .i64 (ofErr (h :: r)))).heap.size := by simp
      have hb2 : Below w.heap.size w (V1.setCell ⟨w.heap.size + 1 + 1 + 1, 0, none⟩ (.int .i64 (ofErr (h :: r)))) := hb1.setCell (p := ⟨w.heap.size + 1 + 1 + 1, 0, none⟩) (by show w.heap.size ≤ w.heap.size + 1 + 1 + 1; omega) _
      have hx3 := heap_setCell_same V1 (w.heap.size + 1 + 1 + 1) 0 _ _ (.int .i64 (ofErr (h :: r))) hx2
      have hn1 : ∀ (j : Nat) s, (#[Value.slice none 0 0, Value.slice none 0 0] : Array Value)[j]? ≠ some (.string s) := fun j s e => by
        match j, e with
        | 0, e => simp at e
        | 1, e => simp at e
      have hn2 : ∀ (j : Nat) s, (#[Value.int .i64 0] : Array Value)[j]? ≠ some (.string s) := fun j s e => by
        match j, e with
        | 0, e => simp at e
      have hS := str_turn hx2 hn2 hz2 hk2 (str_turn HXX.out.z hn1 hz1 hk1 q1)
      have hRW : RowsAt (V1.setCell ⟨w.heap.size + 1 + 1 + 1, 0, none⟩ (.int .i64 (ofErr (h :: r)))) so (ofRows (h :: r)) := by
        cases so with
        | none =>
          rcases q2 with h0 | ⟨A, hA, _⟩
          · exact .inl h0
          · cases hA
        | some A =>
          have := q3 A rfl
          exact rows_turn hx2 hn2 hz2 hk2 (by omega) (rows_turn HXX.out.z hn1 hz1 hk1 (by omega) q2)
      refine door_back _ w _ X (.slice qo (ofHead (h :: r)).length qc.1) (.slice so (ofRows (h :: r)).length sc.1) (ofErr (h :: r)) ?_ ?_ ?_ ?_ rfl rfl
      · rw [HE.out]
        exact of_out ⟨qo, qc, so, sc, rfl, hS, hRW, hb2, fun A hA => by have := q3 A hA; omega⟩
      · exact (Lib.cell_of_heap ((hk2 _ (by omega)).trans hx1) 0).trans rfl
      · exact (Lib.cell_of_heap ((hk2 _ (by omega)).trans hx1) 1).trans rfl
      · exact (Lib.cell_of_heap hx3 0).trans rfl
end Go.Proofs.YtigijgcldgbokaaGreat
