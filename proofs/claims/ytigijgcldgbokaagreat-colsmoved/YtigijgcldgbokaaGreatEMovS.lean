/-
  Lists of strings with one moved: what the program's generic function makes.
  Conditions: lists of at most 2^38 elements.
-/
import Derived.WalkKit
import Derived.WalkMore
import Derived.WalkLawsBesides
import Derived.Lib.Hide
import Derived.Test.YtigijgcldgbokaaGreatProg
import Derived.Test.YtigijgcldgbokaaGreatEGenS
namespace Go.Proofs.YtigijgcldgbokaaGreat
open Go.RowKit Go.Shelf
set_option linter.unusedVariables false

theorem del_lenS {vs o : List Value} {k : Int} (h : delL vs k = .ok o) : 0 ≤ k ∧ k < (vs.length : Int) ∧ o.length ≤ vs.length ∧ ∀ u ∈ o, u ∈ vs := by
  unfold delL at h
  split at h
  · rename_i hk
    injection h with h
    subst h
    refine ⟨hk.1, hk.2, by simp; omega, fun u hu => ?_⟩
    rcases List.mem_append.1 hu with h | h
    · exact List.mem_of_mem_take h
    · exact List.mem_of_mem_drop h
  · cases h

set_option maxRecDepth 100000 in
set_option maxHeartbeats 4000000 in
theorem movedS (ao : Option Addr) (vs : List Value) (cap : Cap ao vs.length) (k t : Int) (w : World) (hn : vs.length ≤ 274877906944) (hc : CellsAt w ao vs) (hv : ∀ u ∈ vs, ∃ xv, u = Value.string xv) :
    Calls Tryz.prog 45 #[.slice ao vs.length cap.1, .int .i64 k, .int .i64 t] w (VOut (movL vs k t) w) := by
  have h1 : ∀ u ∈ vs, u.oneCell' = true := fun u hu => by obtain ⟨xv, rfl⟩ := hv u hu; rfl
  have D := Lib.hid (deletedS ao vs cap k w (by omega) hc h1)
  have HD := Lib.hid (fun o => @del_lenS vs o k)
  have HM1 := Lib.hid (fun e => @mov_err _ vs k t e)
  have HM2 := Lib.hid (fun o x => @mov_ok _ vs o k t x)
  generalize movL vs k t = M at HM1 HM2 ⊢
  generalize delL vs k = d at D HD HM1 HM2
  obtain ⟨cp, hcp⟩ := cap
  simp only at D ⊢
  cases d with
  | error e0 =>
    have hM : M = .error e0 := HM1.out e0 rfl
    subst hM
    clear hc hv h1 HD HM1 HM2 hcp
    go_enter Tryz.func45, Tryz.ntmps45
    go_wp2_with fail
    refine D.out.mono ?_; rintro e w' ⟨rfl, b⟩
    unfold stopE
    go_wp2_with fail
    exact ⟨rfl, rfl, b⟩
  | ok o =>
    obtain ⟨hk0, hk1, hol, hom⟩ := HD.out o rfl
    obtain ⟨j, rfl⟩ := Int.eq_ofNat_of_zero_le hk0
    have hj : j < vs.length := by omega
    obtain ⟨x, hx⟩ : ∃ x, vs[j]? = some x := ⟨_, List.getElem?_eq_getElem hj⟩
    have hM : M = insV o t x := HM2.out o x rfl (by rw [Int.toNat_natCast]; exact hx)
    obtain ⟨xv, rfl⟩ := hv x (List.mem_of_getElem? hx)
    have HX := Lib.hid (fun W (hW : Below w.heap.size w W) bo (bc : Cap bo o.length) (hb : CellsAt W bo o) => insertedS bo o bc t xv W (by omega) hb (fun u hu => h1 u (hom u hu)))
    rcases hc with h0 | ⟨A, rfl, hA, hcell⟩
    · rw [h0] at hj; simp at hj
    have hcj := hcell j _ hx
    have HC := Lib.hid hcj
    rw [← hM] at HX
    clear hM HM1 HM2 HD hcell hv h1 hx hom hcj hcp
    go_enter Tryz.func45, Tryz.ntmps45
    go_wp2_with fail
    refine D.out.mono ?_; rintro e w' ⟨bo, bc, rfl, q1, q2⟩
    have I := Lib.hid (HX.out w' q2 bo bc q1.1)
    have hcw := (q2.cell (p := A.add j) (by rw [add_block]; exact hA)).trans HC.out
    have B := Lib.hid q2
    clear D HX q1 q2
    go_wp2_with fail
    refine I.out.mono ?_; intro e w2 h
    cases M with
    | error e0 =>
      obtain ⟨rfl, b⟩ := h
      have B2 := Lib.hid (below_up B.out b)
      clear b
      unfold stopE
      go_wp2_with fail
      exact ⟨rfl, rfl, B2.out⟩
    | ok m =>
      obtain ⟨ro, rc, rfl, q1, q2⟩ := h
      have Q := Lib.hid (And.intro (q1.mono B.out.size) (below_up B.out q2))
      clear q1 q2
      go_wp2_with fail
      go_ret
      exact ⟨ro, rc, rfl, Q.out.1, Q.out.2⟩
end Go.Proofs.YtigijgcldgbokaaGreat
