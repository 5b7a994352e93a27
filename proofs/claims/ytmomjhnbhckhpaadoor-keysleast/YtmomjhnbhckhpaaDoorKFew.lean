/-
  Whether tables and names are few: what the statements' test tells when it says so.
  Conditions: tables of Go values of the form of claims.
-/
import Derived.WalkKit
import Derived.WalkMore
import Derived.IntWalk
import Derived.Lib.Hide
import Derived.Test.YtmomjhnbhckhpaaDoorProg
import Derived.Test.YtmomjhnbhckhpaaDoorKOf
import Derived.Test.YtmomjhnbhckhpaaDoorTRefA
namespace Go.Proofs.YtmomjhnbhckhpaaDoor
open Go.RowKit Go.Shelf
set_option linter.unusedVariables false

/-- tables as an argument holds them -/
def TabsGo (ts : List Tab) : Prop := ∀ t ∈ ts, (t.1.length ≤ maxLen ∧ ∀ c ∈ t.1, c.size ≤ 140737488351232) ∧ t.2.length ≤ maxLen ∧ ∀ r ∈ t.2, r.length ≤ maxLen ∧ ∀ c ∈ r, c.size ≤ 140737488351232
/-- tables that are few -/
def fewK (ts : List Tab) : Prop := ∀ t ∈ ts, fewT t.1 t.2 ∧ t.1.length ≤ 12 ∧ t.2.length ≤ 30

set_option maxRecDepth 100000 in
set_option maxHeartbeats 8000000 in
theorem few11_any (lo : Option Addr) (lc : Nat) (ts : List Tab) (no : Option Addr) (nc nn : Nat) (w : World) (hn : ts.length ≤ maxLen) (hn2 : nn ≤ maxLen) (hT : TabsGo ts) (hL : TabsAt w lo ts) :
    Calls Tryd.prog 14 #[.slice lo ts.length lc, .slice no nn nc] w fun e w' => ∃ b, e = .returned (.bool b) ∧ (b = true → ts.length ≤ 4 ∧ nn ≤ 12 ∧ fewK ts) ∧ Below w.heap.size w w' := by
  have HTo := Lib.hid hT
  have HLo := Lib.hid hL
  unfold maxLen at hn hn2
  clear hT hL
  by_cases h4 : ts.length ≤ 4
  · have e4 : decide ((4 : Int) < (ts.length : Int)) = false := decide_eq_false (by omega)
    by_cases h12 : nn ≤ 12
    · have e12 : decide ((12 : Int) < (nn : Int)) = false := decide_eq_false (by omega)
      have HBw := Lib.hid (Below.refl w.heap.size w)
      go_enter Tryd.func14, Tryd.ntmps14
      go_wp2_with fail
      go_loopw [5] (fun j wr => ∃ k : Nat, k ≤ ts.length ∧ j = .int .i64 k ∧ Hid (Below w.heap.size w wr) ∧ Hid (∀ (i : Nat) t, i < k → ts[i]? = some t → fewT t.1 t.2 ∧ t.1.length ≤ 12 ∧ t.2.length ≤ 30)) (fun j _ => ts.length - (intOf j).toNat)
      case atStart => exact ⟨0, Nat.zero_le _, rfl, HBw, Lib.hid (fun i t h => by omega)⟩
      case round =>
        obtain ⟨k, hk, rfl, HB, HA⟩ := hrel
        by_cases hlt : k < ts.length
        · obtain ⟨t, ht⟩ : ∃ t, ts[k]? = some t := ⟨_, List.getElem?_eq_getElem hlt⟩
          have HTk := Lib.hid ht
          rcases HLo.out with h0 | ⟨tb, tof, rfl, hA, hcell⟩
          · rw [h0] at hlt; simp at hlt
          obtain ⟨ho, hc, ro, rc, c1, c2, hhead, hrows⟩ := hcell k t ht
          replace c1 := (HB.out.cell (p := ⟨tb, _, none⟩) hA).trans c1
          replace c2 := (HB.out.cell (p := ⟨tb, _, none⟩) hA).trans c2
          obtain ⟨⟨t1, t2⟩, t3, t4⟩ := HTo.out t (List.mem_of_getElem? ht)
          have CF := Lib.hid (rfew_any ho hc t.1 ro rc t.2 wr t1 t3 t4 t2 (hhead.kept HB.out) (hrows.kept HB.out))
          unfold maxLen at t1 t3
          have hAr : tb < wr.heap.size := Nat.lt_of_lt_of_le hA HB.out.size
          clear hcell hhead hrows t2 t4 ht
          go_wp2_with fail
          refine CF.out.mono ?_
          rintro e w1 ⟨b, rfl, hb, b1⟩
          have HB1 := Lib.hid (below_up HB.out b1)
          replace c1 := (b1.cell (p := ⟨tb, _, none⟩) hAr).trans c1
          replace c2 := (b1.cell (p := ⟨tb, _, none⟩) hAr).trans c2
          clear b1 HB CF hAr
          cases b with
          | false =>
            clear hb
            go_wp2_with fail
            go_ret
            exact ⟨false, rfl, (fun h => by cases h), HB1.out⟩
          | true =>
            have HF := Lib.hid (hb rfl)
            clear hb
            by_cases g12 : t.1.length ≤ 12
            · have q12 : decide ((12 : Int) < (t.1.length : Int)) = false := decide_eq_false (by omega)
              by_cases g30 : t.2.length ≤ 30
              · have q30 : decide ((30 : Int) < (t.2.length : Int)) = false := decide_eq_false (by omega)
                have HA' : Hid (∀ (i : Nat) t, i < k + 1 → ts[i]? = some t → fewT t.1 t.2 ∧ t.1.length ≤ 12 ∧ t.2.length ≤ 30) := Lib.hid (fun i t' hi ht' => by
                  by_cases h : i = k
                  · subst h; rw [HTk.out] at ht'; cases ht'; exact ⟨HF.out, g12, g30⟩
                  · exact HA.out i t' (by omega) ht')
                go_wp2_with fail
                go_roundw
                case rel => exact ⟨k + 1, by omega, by go_num, HB1, HA'⟩
                case measure => simp [intOf]; omega
              · have q30 : decide ((30 : Int) < (t.2.length : Int)) = true := decide_eq_true (by omega)
                go_wp2_with fail
                go_ret
                exact ⟨false, rfl, (fun h => by cases h), HB1.out⟩
            · have q12 : decide ((12 : Int) < (t.1.length : Int)) = true := decide_eq_true (by omega)
              go_wp2_with fail
              go_ret
              exact ⟨false, rfl, (fun h => by cases h), HB1.out⟩
        · have hke : k = ts.length := by omega
          have HE : Hid (ts.length ≤ 4 ∧ nn ≤ 12 ∧ fewK ts) := Lib.hid ⟨h4, h12, fun t ht => by
            obtain ⟨i, hi, rfl⟩ := List.mem_iff_getElem.1 ht
            exact HA.out i _ (by omega) (List.getElem?_eq_getElem hi)⟩
          go_wp2_with fail
          go_ret
          exact ⟨true, rfl, fun _ => HE.out, HB.out⟩
    · have e12 : decide ((12 : Int) < (nn : Int)) = true := decide_eq_true (by omega)
      go_enter Tryd.func14, Tryd.ntmps14
      go_wp2_with fail
      go_ret
      exact ⟨false, rfl, (fun h => by cases h), Below.refl _ _⟩
  · have e4 : decide ((4 : Int) < (ts.length : Int)) = true := decide_eq_true (by omega)
    go_enter Tryd.func14, Tryd.ntmps14
    go_wp2_with fail
    go_ret
    exact ⟨false, rfl, (fun h => by cases h), Below.refl _ _⟩

theorem sum_has : ∀ {l : List ByteArray} {c : ByteArray}, c ∈ l → c.size ≤ sumT l
  | x :: l, c, h => by
    rcases List.mem_cons.1 h with rfl | h
    · simp [sumT]
    · have := sum_has h; simp [sumT] at this ⊢; omega
/-- what few tables are -/
theorem few_bounds {ts : List Tab} (h : fewK ts) : TabsOk ts ∧ HeadsOk ts ∧ (∀ t ∈ ts, t.1.length ≤ 1048576 ∧ ∀ c ∈ t.1, c.size ≤ 140737488355328) ∧ (∀ t ∈ ts, t.1.length ≤ 60 ∧ t.2.length ≤ 60 ∧ (∀ c ∈ t.1, c.size ≤ 8000) ∧ ∀ r ∈ t.2, r.length ≤ 60 ∧ ∀ c ∈ r, c.size ≤ 8000) := by
  have key : ∀ t ∈ ts, t.1.length ≤ 60 ∧ t.2.length ≤ 60 ∧ (∀ c ∈ t.1, c.size ≤ 8000) ∧ ∀ r ∈ t.2, r.length ≤ 60 ∧ ∀ c ∈ r, c.size ≤ 8000 := fun t ht => by
    obtain ⟨⟨hP, h60, hS⟩, -, -⟩ := h t ht
    have hcell : ∀ c ∈ allT t.1 t.2, c.size ≤ 8000 := fun c hc => Nat.le_trans (sum_has hc) hS
    refine ⟨h60, hP.1, fun c hc => hcell c (by unfold allT; exact List.mem_append_left _ hc), fun r hr => ⟨hP.2.1 r hr, fun c hc => hcell c (by unfold allT; exact List.mem_append_right _ (List.mem_flatten.2 ⟨r, hr, hc⟩))⟩⟩
  refine ⟨fun t ht => ?_, fun t ht => ?_, fun t ht => ?_, key⟩
  · obtain ⟨h1, h2, h3, h4⟩ := key t ht
    exact ⟨by omega, by omega, fun r hr => ⟨by have := (h4 r hr).1; omega, fun c hc => by have := (h4 r hr).2 c hc; omega⟩⟩
  · obtain ⟨h1, h2, h3, h4⟩ := key t ht
    exact ⟨by omega, fun c hc => by have := h3 c hc; unfold maxLen; omega⟩
  · obtain ⟨h1, h2, h3, h4⟩ := key t ht
    exact ⟨by omega, fun c hc => by have := h3 c hc; omega⟩
end Go.Proofs.YtmomjhnbhckhpaaDoor
