/-
  The walk of the statement KeysInfers.
  Conditions: the library's table of powers of ten reads as its text lays it.
-/
import Derived.WalkKit
import Derived.WalkMore
import Derived.IntWalk
import Derived.Lib.Hide
import Derived.Test.YtmomjhnbhckhpaaDoorProg
import Derived.Test.YtmomjhnbhckhpaaDoorKOpen
import Derived.Test.YtmomjhnbhckhpaaDoorKWorks
import Derived.Test.YtmomjhnbhckhpaaDoorKROf
namespace Go.Proofs.YtmomjhnbhckhpaaDoor
open Go.RowKit Go.Shelf
set_option linter.unusedVariables false

set_option maxRecDepth 100000 in
set_option maxHeartbeats 8000000 in
theorem walkKeysInfers (lo : Option Addr) (lc : Nat) (ts : List Tab) (no : Option Addr) (nc : Nat) (names : List ByteArray) (w : World) (hL : TabsArg w lo lc ts) (hN : StrArg w no nc names) (hpow : Pow w) :
    Calls Tryd.prog 4 #[.slice lo ts.length lc, .slice no names.length nc] w fun e w' => e = .returned (.bool true) ∧ Below w.heap.size w w' := by
  have HL := Lib.hid hL
  have HN := Lib.hid hN
  have HP := Lib.hid hpow
  have C0 := Lib.hid (works_any w hpow)
  clear hL hN hpow
  go_enter Tryd.func4, Tryd.ntmps4
  go_wp2_with fail
  refine C0.out.mono ?_; rintro e w1 ⟨rfl, b1⟩
  have B1 := Lib.hid b1
  have C1 := Lib.hid (few11_any lo lc ts no nc names.length w1 HL.out.len HN.out.len HL.out.ok (HL.out.tabs.kept b1))
  clear b1 C0
  go_wp2_with fail
  refine C1.out.mono ?_; rintro e w2 ⟨b, rfl, hb, b2⟩
  have B2 := Lib.hid (below_up B1.out b2)
  clear b2 C1 B1
  cases b with
  | false =>
    clear hb
    go_wp2_with fail
    go_ret
    exact ⟨rfl, B2.out⟩
  | true =>
    obtain ⟨h4, h12, hf⟩ := hb rfl
    obtain ⟨f1, f2, f3, f4⟩ := few_bounds hf
    have hz : ∀ c ∈ names, c.size ≤ 140737488355328 := fun c hc => by have := HN.out.size c hc; omega
    have hz2 : ∀ c ∈ names, c.size ≤ maxLen := fun c hc => by have := HN.out.size c hc; unfold maxLen; omega
    have hT : ∀ t ∈ ts, t.1.length ≤ 12 ∧ t.2.length ≤ 1099511627776 := fun t ht => ⟨(hf t ht).2.1, by have := (hf t ht).2.2; omega⟩
    have hT2 : ∀ t ∈ ts, t.1.length ≤ 1099511627776 ∧ t.2.length ≤ 1099511627776 := fun t ht => ⟨by have := (hT t ht).1; omega, (hT t ht).2⟩
    have CA := Lib.hid (fun V (h : Below w.heap.size w V) => infer_any lo lc ts no nc names V (by omega) (by omega) hz f1 f2 (HL.out.tabs.kept h) (HN.out.row.kept h) (HP.out.kept h))
    have CB := Lib.hid (fun V (h : Below w.heap.size w V) => rinfer_any lo lc ts no nc names V (by omega) h12 hT2 (HL.out.tabs.kept h) (HN.out.row.kept h))
    have CC := Lib.hid (fun V (h : Below w.heap.size w V) => of_any lo lc ts no nc names V (by omega) (by omega) hz f1 f2 f3 (HL.out.tabs.kept h) (HN.out.row.kept h) (HP.out.kept h))
    have CD := Lib.hid (fun V (h : Below w.heap.size w V) => rof_any lo lc ts no nc names V (by omega) h12 HN.out.cap hT (HL.out.tabs.kept h) (HN.out.row.kept h))
    have CE := Lib.hid (fun V (h : Below w.heap.size w V) => usable_any lo lc ts no nc names V (by omega) (by omega) hz2 f1 f2 (HL.out.tabs.kept h) (HN.out.row.kept h) (HP.out.kept h))
    have CF := Lib.hid (fun V (h : Below w.heap.size w V) => rusable_any lo lc ts no nc names V (by omega) (by omega) HN.out.cap hT2 (HL.out.tabs.kept h) (HN.out.row.kept h))
    have CR := Lib.hid (fun (ao bo : Option Addr) (ca cb : Nat) (xs : List ByteArray) V (hl : xs.length ≤ 1099511627776) (h1 : StrRow V ao xs) (h2 : StrRow V bo xs) => (by
      have := rrow_any ao bo ca cb xs xs V hl h1 h2
      rwa [show sameRow xs xs = true by simp [sameRow]] at this : Calls Tryd.prog 15 #[.slice ao xs.length ca, .slice bo xs.length cb] V fun e w' => e = .returned (.bool true) ∧ Below V.heap.size V w'))
    rw [← infer_same] at CB
    have hl1 : (inferC ts names).length ≤ 1099511627776 := by
      rw [infer_same]; unfold inferR firstOf
      split
      · rename_i x hx
        have hm := List.mem_of_find?_eq_some hx
        unfold preR at hm
        rw [List.mem_flatMap] at hm
        obtain ⟨i, hi, hm⟩ := hm
        rw [(choices_len _ _ x hm).1]; simp at hi; omega
      · simp
    have hl2 : (ofC ts names).length ≤ 1099511627776 := by
      unfold ofC
      split
      · omega
      · split
        · simp
        · rename_i t l
          rw [infer_same]; unfold inferR firstOf
          split
          · rename_i x hx
            have hm := List.mem_of_find?_eq_some hx
            unfold preR at hm
            rw [List.mem_flatMap] at hm
            obtain ⟨i, hi, hm⟩ := hm
            rw [(choices_len _ _ x hm).1]; simp at hi; omega
          · simp
    generalize inferC ts names = X at CA CB hl1
    generalize ofC ts names = Y at CC CD hl2
    generalize usableC ts names = F at CE CF
    have eF : (F == F) = true := by simp
    unfold NamesOut at CA CB CC CD
    clear hf f1 f2 f3 f4 hz hz2 hT hT2 hb
    have D1 := Lib.hid (CA.out w2 B2.out)
    go_wp2_with fail
    refine D1.out.mono ?_; rintro e w3 ⟨ao, ca, rfl, hs3, -, b3⟩
    have B3 := Lib.hid (below_up B2.out b3)
    have D2 := Lib.hid (CB.out w3 B3.out)
    have HS3 := Lib.hid hs3
    clear b3 hs3 D1
    go_wp2_with fail
    refine D2.out.mono ?_; rintro e w4 ⟨bo, cb, rfl, hs4, -, b4⟩
    have B4 := Lib.hid (below_up B3.out b4)
    have D3 := Lib.hid (CR.out ao bo ca cb X w4 hl1 (HS3.out.kept b4) hs4)
    clear b4 hs4 D2
    go_wp2_with fail
    refine D3.out.mono ?_; rintro e w5 ⟨rfl, b5⟩
    have B5 := Lib.hid (below_up B4.out b5)
    have D4 := Lib.hid (CC.out w5 B5.out)
    clear b5 D3
    go_wp2_with fail
    refine D4.out.mono ?_; rintro e w6 ⟨co, cc, rfl, hs6, -, b6⟩
    have B6 := Lib.hid (below_up B5.out b6)
    have D5 := Lib.hid (CD.out w6 B6.out)
    have HS6 := Lib.hid hs6
    clear b6 hs6 D4
    go_wp2_with fail
    refine D5.out.mono ?_; rintro e w7 ⟨eo, ec, rfl, hs7, -, b7⟩
    have B7 := Lib.hid (below_up B6.out b7)
    have D6 := Lib.hid (CR.out co eo cc ec Y w7 hl2 (HS6.out.kept b7) hs7)
    clear b7 hs7 D5
    go_wp2_with fail
    refine D6.out.mono ?_; rintro e w8 ⟨rfl, b8⟩
    have B8 := Lib.hid (below_up B7.out b8)
    have D7 := Lib.hid (CE.out w8 B8.out)
    clear b8 D6
    go_wp2_with fail
    refine D7.out.mono ?_; rintro e w9 ⟨rfl, b9⟩
    have B9 := Lib.hid (below_up B8.out b9)
    have D8 := Lib.hid (CF.out w9 B9.out)
    clear b9 D7
    go_wp2_with fail
    refine D8.out.mono ?_; rintro e w10 ⟨rfl, b10⟩
    have B10 := Lib.hid (below_up B9.out b10)
    clear b10 D8
    go_wp2_with fail
    go_ret
    exact ⟨rfl, B10.out⟩
end Go.Proofs.YtmomjhnbhckhpaaDoor
