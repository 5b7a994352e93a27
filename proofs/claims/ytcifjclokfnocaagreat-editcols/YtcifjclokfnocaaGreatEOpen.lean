/-
  What a statement of stage 5 begins with: the document's examples, and whether a table is small.
  Conditions: none beyond the form of claims.
-/
import Derived.WalkKit
import Derived.WalkMore
import Derived.Lib.Hide
import Derived.Test.YtcifjclokfnocaaGreatProg
import Derived.Test.YtcifjclokfnocaaGreatEMath
import Derived.Test.YtcifjclokfnocaaGreatEWorks
import Derived.Test.YtcifjclokfnocaaGreatTOpen
namespace Go.Proofs.YtcifjclokfnocaaGreat
open Go.RowKit Go.Shelf
set_option linter.unusedVariables false

theorem few_ti {hd : List ByteArray} {rs : List (List ByteArray)} (h : fewT hd rs) : tiT hd rs := by
  obtain ⟨h1, h2, h3⟩ := h
  have hs := few_small rs h1
  refine ⟨⟨by omega, fun c hc => ?_⟩, by have := h1.1; omega, fun r hr => ⟨by have := (hs r hr).1; omega, fun c hc => by have := (hs r hr).2 c hc; omega⟩⟩
  obtain ⟨a, b, e⟩ := List.append_of_mem hc
  rw [allT, e] at h3; simp [sumT] at h3; omega
theorem few_len {hd : List ByteArray} {rs : List (List ByteArray)} (h : fewT hd rs) : hd.length ≤ 60 ∧ rs.length ≤ 60 ∧ ∀ r ∈ rs, r.length ≤ 60 := ⟨h.2.1, h.1.1, h.1.2.1⟩
def StrArg.cp {w : World} {ao : Option Addr} {cap : Nat} {xs : List ByteArray} (h : StrArg w ao cap xs) : Cap ao xs.length := ⟨cap, h.cap, h.nil⟩
def RowsArg.cp {w : World} {ao : Option Addr} {cap : Nat} {rs : List (List ByteArray)} (h : RowsArg w ao cap rs) : Cap ao rs.length := ⟨cap, h.cap, h.nil⟩
theorem sameRow_refl (xs : List ByteArray) : sameRow xs xs = true := by simp [sameRow]
theorem sameRecs_refl (xs : List (List ByteArray)) : sameRecs xs xs = true := by simp [sameRecs]
theorem same_refl (hd : List ByteArray) (rs : List (List ByteArray)) : (sameRow hd hd && sameRecs rs rs) = true := by rw [sameRow_refl, sameRecs_refl]; rfl
theorem str_same (x : ByteArray) : (x.toList == x.toList) = true ∧ (x.toList != x.toList) = false := by
  rw [bne, str_beq, decide_eq_true rfl]; exact ⟨rfl, rfl⟩
abbrev ZC : Obj := .cells #[.slice none 0 0, .slice none 0 0] 25
theorem zcells {V : World} {n : Nat} (h : V.heap[n]? = some ZC) : V.cell? ⟨n, 0, none⟩ = some (.slice none 0 0) ∧ V.cell? ⟨n, 1, none⟩ = some (.slice none 0 0) ∧ V.frozen? ⟨n, 0, none⟩ = false ∧ V.frozen? ⟨n, 1, none⟩ = false :=
  ⟨(Lib.cell_of_heap h 0).trans rfl, (Lib.cell_of_heap h 1).trans rfl, Lib.frozen_of_heap h 0, Lib.frozen_of_heap h 1⟩
/-- a table that is stored into a box that was made ahead of it -/
theorem stored_box {w1 W : World} {b : Nat} {bo go : Option Addr} {bc gc : Nat} {hd : List ByteArray} {rs : List (List ByteArray)} (hz : w1.heap[b]? = some ZC) (g1 : StrRow w1 bo hd) (g2 : RowsAt w1 go rs) (hlt : b < W.heap.size) (hf : ∀ A, go = some A → W.heap.size ≤ A.block) :
    ((w1.setCell ⟨b, 0, none⟩ (.slice bo hd.length bc)).setCell ⟨b, 1, none⟩ (.slice go rs.length gc)).heap[b]? = some (TabO bo hd.length bc go rs.length gc) ∧ StrRow ((w1.setCell ⟨b, 0, none⟩ (.slice bo hd.length bc)).setCell ⟨b, 1, none⟩ (.slice go rs.length gc)) bo hd ∧ RowsAt ((w1.setCell ⟨b, 0, none⟩ (.slice bo hd.length bc)).setCell ⟨b, 1, none⟩ (.slice go rs.length gc)) go rs := by
  have hk : ∀ k, k ≠ b → ((w1.setCell ⟨b, 0, none⟩ (.slice bo hd.length bc)).setCell ⟨b, 1, none⟩ (.slice go rs.length gc)).heap[k]? = w1.heap[k]? := fun k hk => (heap_setCell_other _ ⟨b, 1, none⟩ k _ hk).trans (heap_setCell_other _ ⟨b, 0, none⟩ k _ hk)
  have hs : w1.heap.size ≤ ((w1.setCell ⟨b, 0, none⟩ (.slice bo hd.length bc)).setCell ⟨b, 1, none⟩ (.slice go rs.length gc)).heap.size := by simp
  have hn : ∀ (j : Nat) s, (#[Value.slice none 0 0, Value.slice none 0 0] : Array Value)[j]? ≠ some (.string s) := fun j s e => by
    match j, e with
    | 0, e => simp at e
    | 1, e => simp at e
  refine ⟨set_two _ _ hz, str_turn hz hn hs hk g1, ?_⟩
  cases go with
  | none =>
    rcases g2 with h0 | ⟨A, hA, _⟩
    · exact .inl h0
    · cases hA
  | some A => exact rows_turn hz hn hs hk (by have := hf A rfl; omega) g2
/-- what a call of package edit has told, by parts -/
theorem TabOut.parts {X : Except Int Tab} {w w' : World} {qo so : Option Addr} {qn qc sn sc : Nat} {x : Int} (q : TabOut X w (.returned (.tuple #[.agg #[.slice qo qn qc, .slice so sn sc], .int .i64 x])) w') :
    (X = .error x ∧ qn = 0 ∧ sn = 0) ∨ ∃ h r, X = .ok (h, r) ∧ x = 0 ∧ qn = h.length ∧ sn = r.length ∧ (h.length ≤ qc ∧ (qo = none → qc = 0)) ∧ (r.length ≤ sc ∧ (so = none → sc = 0)) ∧ StrRow w' qo h ∧ RowsAt w' so r := by
  cases X with
  | error y =>
    obtain ⟨a, b, c, d, h1, _⟩ := q
    injection h1 with h1
    injection h1 with h1
    have e1 : Value.int IntKind.i64 x = Value.int IntKind.i64 y := by have := congrArg (fun a => a[1]?) h1; injection this
    have e2 : Value.agg #[.slice qo qn qc, .slice so sn sc] = Value.agg #[.slice a 0 b.1, .slice c 0 d.1] := by have := congrArg (fun a => a[0]?) h1; injection this
    injection e1 with _ e1
    injection e2 with e2
    have e3 : Value.slice qo qn qc = Value.slice a 0 b.1 := by have := congrArg (fun a => a[0]?) e2; injection this
    have e4 : Value.slice so sn sc = Value.slice c 0 d.1 := by have := congrArg (fun a => a[1]?) e2; injection this
    injection e3 with _ e3 _
    injection e4 with _ e4 _
    exact .inl ⟨by rw [e1], e3, e4⟩
  | ok t =>
    obtain ⟨h, r⟩ := t
    obtain ⟨a, b, c, d, h1, h2, h3, _⟩ := q
    injection h1 with h1
    injection h1 with h1
    have e1 : Value.int IntKind.i64 x = Value.int IntKind.i64 0 := by have := congrArg (fun a => a[1]?) h1; injection this
    have e2 : Value.agg #[.slice qo qn qc, .slice so sn sc] = Value.agg #[.slice a h.length b.1, .slice c r.length d.1] := by have := congrArg (fun a => a[0]?) h1; injection this
    injection e1 with _ e1
    injection e2 with e2
    have e3 : Value.slice qo qn qc = Value.slice a h.length b.1 := by have := congrArg (fun a => a[0]?) e2; injection this
    have e4 : Value.slice so sn sc = Value.slice c r.length d.1 := by have := congrArg (fun a => a[1]?) e2; injection this
    injection e3 with e30 e31 e32
    injection e4 with e40 e41 e42
    subst e30 e40
    exact .inr ⟨h, r, rfl, e1, e31, e41, by rw [e32]; exact b.2, by rw [e42]; exact d.2, h2, h3⟩
end Go.Proofs.YtcifjclokfnocaaGreat
