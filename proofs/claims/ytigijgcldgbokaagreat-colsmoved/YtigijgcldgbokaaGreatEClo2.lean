/-
  The functions that turn columns, and rows: what each makes of a head, or of rows.
  Conditions: lists of at most 5000 elements, texts of at most 10000 bytes (the statements ask about far smaller ones).
-/
import Derived.WalkKit
import Derived.WalkMore
import Derived.WalkLawsBesides
import Derived.Lib.Hide
import Derived.Deep.RegionWith
import Derived.StillTailTactics
import Derived.Laws.EntriesVeiled
import Derived.Test.YtigijgcldgbokaaGreatProg
import Derived.Test.YtigijgcldgbokaaGreatEClo
namespace Go.Proofs.YtigijgcldgbokaaGreat
open Go.RowKit Go.Shelf
set_option linter.unusedVariables false

/-- a head, and rows, whose columns are turned -/
def colsH (f : List ByteArray → Except Int (List ByteArray)) (xs : List ByteArray) : Except Int (List ByteArray) :=
  match f xs with
  | .error e => .error e
  | .ok ys => if checkI ys [] = 0 then .ok ys else .error (checkI ys [])
def colsR (f : List ByteArray → Except Int (List ByteArray)) (rs : List (List ByteArray)) : Except Int (List (List ByteArray)) := eachL (fun _ r => f r) 0 rs
theorem colsH_err {f : List ByteArray → Except Int (List ByteArray)} {xs : List ByteArray} {e : Int} (h : f xs = .error e) : colsH f xs = .error e := by unfold colsH; rw [h]
theorem colsH_ok {f : List ByteArray → Except Int (List ByteArray)} {xs ys : List ByteArray} (h : f xs = .ok ys) : colsH f xs = if checkI ys [] = 0 then .ok ys else .error (checkI ys []) := by unfold colsH; rw [h]
theorem smR_nil {ys : List ByteArray} (h : smR ys) : smT ys [] := ⟨h, Nat.zero_le _, fun r hr => by cases hr⟩
theorem RowFn.weaken {w : World} {F : FuncId} {caps : Array Value} {f : List ByteArray → Except Int (List ByteArray)} {Ok Ok' : List ByteArray → Prop} (h : RowFn w F caps f Ok) (hi : ∀ xs, Ok' xs → Ok xs) : RowFn w F caps f Ok' := fun W hW ao xs cap hok hx => h W hW ao xs cap (hi xs hok) hx

section
variable (b : Nat) (F : FuncId) (caps : Array Value) (f : List ByteArray → Except Int (List ByteArray)) (Ok : List ByteArray → Prop) (w : World)
  (hb : w.cell? ⟨b, 0, none⟩ = some (.func (.func F) #[] caps)) (hF : RowFn w F caps f Ok) (hent : ∀ args w, (callFunc F args).run Tryz.prog w = .ok (.enter F args) w)
include hb hF hent

set_option maxRecDepth 100000 in
theorem cColumns1 (hsm : ∀ xs ys, Ok xs → f xs = .ok ys → smR ys) : HeadFn w 78 #[.pointer (some ⟨b, 0, none⟩)] (colsH f) Ok := by
  intro W hW ao xs cap hok hx
  show Calls Tryz.prog 78 #[.slice ao xs.length cap.1, .pointer (some ⟨b, 0, none⟩)] W (SOut (colsH f xs) W)
  have kb := (hW.cell (p := ⟨b, 0, none⟩) (block_lt_of_cell hb)).trans hb
  have C := Lib.hid (hF W hW ao xs cap hok hx)
  have H1 := Lib.hid (fun e => @colsH_err f xs e)
  have H2 := Lib.hid (fun ys => @colsH_ok f xs ys)
  have HS := Lib.hid (fun ys => hsm xs ys hok)
  clear hx hF hsm
  generalize colsH f xs = X at H1 H2 ⊢
  generalize f xs = R at C H1 H2 HS
  go_enter Tryz.func78, Tryz.ntmps78
  go_wp2_with fail
  refine C.out.mono ?_; intro e w1 hq
  clear C kb
  cases R with
  | error x =>
    obtain ⟨rfl, b1⟩ := hq
    have hX := H1.out x rfl
    subst hX
    unfold stopE
    go_wp2_with fail
    exact ⟨rfl, rfl, b1⟩
  | ok ys =>
    obtain ⟨yo, yc, rfl, ⟨q1, _⟩, b1⟩ := hq
    have hs := HS.out ys rfl
    have HX := Lib.hid (H2.out ys rfl)
    have K := Lib.hid (check_any yo yc.1 ys none 0 [] w1 (by have := hs.1; omega) (by simp) (fun r hr => by cases hr) q1 (.inl rfl) (fun c hc => by have := hs.2 c hc; unfold maxLen; omega) (by have := (smR_nil hs).sum; omega))
    have Q := Lib.hid (And.intro q1 b1)
    clear hs HS H1 H2 q1 b1
    simp only [List.length_nil] at K
    generalize checkI ys [] = ck at K HX
    go_wp2_with fail
    refine K.out.mono ?_; rintro e w2 ⟨rfl, b2⟩
    have B2 := Lib.hid b2
    clear b2 K
    go_wp2_with fail
    refine (stop_any ck w2).mono ?_; rintro e w' ⟨⟨hk, rfl⟩ | ⟨hk, rfl⟩, rfl⟩
    · have hX := HX.out
      rw [if_pos hk] at hX
      subst hX
      go_wp2_with fail
      go_ret
      exact ⟨yo, yc, rfl, Q.out.1.kept B2.out, below_up Q.out.2 B2.out⟩
    · have hX := HX.out
      rw [if_neg hk] at hX
      subst hX
      unfold stopE
      go_wp2_with fail
      exact ⟨rfl, rfl, below_up Q.out.2 B2.out⟩

set_option maxRecDepth 100000 in
theorem cColumns21 : IdxFn w 81 #[.pointer (some ⟨b, 0, none⟩)] (fun _ r => f r) (fun _ r => Ok r) := by
  intro W hW i ao xs cap hok hx
  show Calls Tryz.prog 81 #[.int .i64 i, .slice ao xs.length cap.1, .pointer (some ⟨b, 0, none⟩)] W (SNew (f xs) W)
  have kb := (hW.cell (p := ⟨b, 0, none⟩) (block_lt_of_cell hb)).trans hb
  have C := Lib.hid (hF W hW ao xs cap hok hx)
  clear hx hF
  generalize f xs = R at C ⊢
  go_enter Tryz.func81, Tryz.ntmps81
  go_wp2_with fail
  refine C.out.mono ?_; intro e w2 hq
  cases R with
  | error x =>
    obtain ⟨rfl, b⟩ := hq
    unfold stopE
    go_wp2_with fail
    exact ⟨rfl, rfl, b⟩
  | ok ys =>
    obtain ⟨yo, yc, rfl, q1, q2⟩ := hq
    have Q := Lib.hid (And.intro q1 q2)
    clear q1 q2
    go_wp2_with fail
    go_ret
    exact ⟨yo, yc, rfl, Q.out.1, Q.out.2⟩

set_option maxRecDepth 100000 in
theorem cColumns2 : RowsFn w 79 #[.pointer (some ⟨b, 0, none⟩)] (colsR f) (fun rs => rs.length ≤ 5000 ∧ ∀ r ∈ rs, Ok r) := by
  intro W hW ao rs cap hok hx
  show Calls Tryz.prog 79 #[.slice ao rs.length cap.1, .pointer (some ⟨b, 0, none⟩)] W (ROut (colsR f rs) W)
  have I := cColumns21 b F caps f Ok w hb hF hent
  have C := Lib.hid (each_any ao rs cap.1 81 #[.pointer (some ⟨b, 0, none⟩)] (fun _ r => f r) (fun _ r => Ok r) W (by have := hok.1; omega) hx (fun i r hr => hok.2 r (List.mem_of_getElem? hr)) (fun V hV => I V (below_up hW hV)) (enters_of Tryz.func81 (by kernel_rfl) rfl))
  have hmf : ∀ (fn : Fn) (first cap : Array Value) (w : World), (Instr.makeFunc fn first cap).run Tryz.prog w = .ok (.func fn first cap) w := fun _ _ _ _ => rfl
  clear hx hF I
  unfold colsR
  generalize eachL (fun _ r => f r) 0 rs = R at C ⊢
  go_enter Tryz.func79, Tryz.ntmps79
  go_wp2_with fail
  refine C.out.mono ?_; intro e w2 hq
  cases R with
  | error x =>
    obtain ⟨rfl, b⟩ := hq
    unfold stopE
    go_wp2_with fail
    exact ⟨rfl, rfl, b⟩
  | ok ys =>
    obtain ⟨yo, yc, rfl, q1, q2⟩ := hq
    have Q := Lib.hid (And.intro q1 q2)
    clear q1 q2
    go_wp2_with fail
    go_ret
    exact ⟨yo, yc, rfl, Q.out.1, Q.out.2⟩
end

theorem ofColumns_any (F : FuncId) (caps : Array Value) (w : World) : Calls Tryz.prog 43 #[.func (.func F) #[] caps] w fun e w' =>
    e = .returned (.agg #[.func (.func 78) #[] #[.pointer (some ⟨w.heap.size, 0, none⟩)], .func (.func 79) #[] #[.pointer (some ⟨w.heap.size, 0, none⟩)]]) ∧ w'.cell? ⟨w.heap.size, 0, none⟩ = some (.func (.func F) #[] caps) ∧ Below w.heap.size w w' := by
  have hmf : ∀ (fn : Fn) (first cap : Array Value) (w : World), (Instr.makeFunc fn first cap).run Tryz.prog w = .ok (.func fn first cap) w := fun _ _ _ _ => rfl
  go_enter Tryz.func43, Tryz.ntmps43
  go_wp2_with fail
  refine bodyPost_ret (v := .agg #[.func (.func 78) #[] #[.pointer (some ⟨w.heap.size, 0, none⟩)], .func (.func 79) #[] #[.pointer (some ⟨w.heap.size, 0, none⟩)]]) (by simp [results, Tryz.results43, go_sem]) rfl ?_
  exact ⟨rfl, (Lib.cell_of_heap (two_new w _ _).2.1 0).trans rfl, two_below _ _ _⟩
/-- rows with one cell more each -/
def addF (k : Int) (cells : List ByteArray) (i : Nat) (r : List ByteArray) : Except Int (List ByteArray) :=
  match cells[i]? with
  | some c => insV r k c
  | none => .error 11
def addR (k : Int) (cells : List ByteArray) (rs : List (List ByteArray)) : Except Int (List (List ByteArray)) := if cells.length = rs.length then eachL (addF k cells) 0 rs else .error 9

section
variable (b1 b2 : Nat) (k : Int) (co : Option Addr) (cells : List ByteArray) (cc : Nat) (w : World)
  (hb1 : w.cell? ⟨b1, 0, none⟩ = some (.int .i64 k)) (hb2 : w.cell? ⟨b2, 0, none⟩ = some (.slice co cells.length cc)) (hco : StrRow w co cells)
include hb1 hb2 hco

end

end Go.Proofs.YtigijgcldgbokaaGreat
