/-
  The document's own answers for a table: how many bytes, where a name is, whether a text is too long, whether it is small, whether two are alike, a cell.
  Conditions: tables of at most 2^40 names and rows of at most 2^40 cells; all texts have together at most 2^60 bytes.
-/
import Derived.WalkKit
import Derived.WalkMore
import Derived.Lib.Hide
import Derived.Test.YtigijgcldgbokaaGreatProg
import Derived.Test.YtigijgcldgbokaaGreatTRest
import Derived.Test.YtigijgcldgbokaaGreatTFew
namespace Go.Proofs.YtigijgcldgbokaaGreat
open Go.RowKit Go.Shelf
set_option linter.unusedVariables false

theorem sum_head (hd : List ByteArray) (rs : List (List ByteArray)) (k : Nat) (x : ByteArray) (h : hd[k]? = some x) : sumT (hd.take (k + 1)) = sumT (hd.take k) + x.size ∧ sumT (hd.take (k + 1)) ≤ sumT (allT hd rs) := by
  obtain ⟨h1, h2⟩ := pre_head hd rs k x h
  exact ⟨by rw [h1, sumT_next], by rw [h1]; exact sumT_pre h2⟩
theorem sum_row (hd : List ByteArray) (rs : List (List ByteArray)) (k j : Nat) (r : List ByteArray) (x : ByteArray) (hr : rs[k]? = some r) (h : r[j]? = some x) :
    sumT (hd ++ (rs.take k).flatten ++ r.take (j + 1)) = sumT (hd ++ (rs.take k).flatten ++ r.take j) + x.size ∧ sumT (hd ++ (rs.take k).flatten ++ r.take (j + 1)) ≤ sumT (allT hd rs) := by
  obtain ⟨h1, h2⟩ := pre_row hd rs k j r x hr h
  exact ⟨by rw [h1, sumT_next], by rw [h1]; exact sumT_pre h2⟩

set_option maxRecDepth 100000 in
set_option maxHeartbeats 4000000 in
theorem rtotal_any (ho : Option Addr) (hc : Nat) (hd : List ByteArray) (ro : Option Addr) (rc : Nat) (rs : List (List ByteArray)) (w : World)
    (hn : hd.length ≤ 1099511627776) (hn2 : rs.length ≤ 1099511627776) (hn3 : ∀ r ∈ rs, r.length ≤ 1099511627776) (hH : StrRow w ho hd) (hR : RowsAt w ro rs) (hsum : sumT (allT hd rs) ≤ 1152921504606846976) :
    Calls Tryz.prog 21 #[.agg #[.slice ho hd.length hc, .slice ro rs.length rc]] w fun e w' => e = .returned (.int .i64 (sumT (allT hd rs) : Int)) ∧ Below w.heap.size w w' := by
  obtain ⟨W, HW⟩ : ∃ W, Hid (W = w.alloc (TabO ho hd.length hc ro rs.length rc)) := ⟨_, Lib.hid rfl⟩
  have hB : Below w.heap.size w W := by rw [HW.out]; exact one_below _ _
  have HB := Lib.hid hB
  have HHo := Lib.hid (hH.kept hB)
  have HRo := Lib.hid (hR.kept hB)
  have HN3 := Lib.hid hn3
  have HSH := Lib.hid (sum_head hd rs)
  have HSR := Lib.hid (sum_row hd rs)
  have HRE := Lib.hid (row_end hd rs)
  have E1 := Lib.hid (show allT hd rs = hd ++ (rs.take rs.length).flatten by simp [allT])
  have hN : W.heap[w.heap.size]? = some (TabO ho hd.length hc ro rs.length rc) := by rw [HW.out]; exact World.alloc_heap_new w _
  obtain ⟨c0, c1⟩ := tabs hN
  obtain ⟨S, HS⟩ : ∃ S : Nat, Hid (S = sumT (allT hd rs)) := ⟨_, Lib.hid rfl⟩
  rw [← HS.out] at hsum HSH HSR ⊢
  clear hH hR hn3 hB hN
  go_enter Tryz.func21, Tryz.ntmps21
  go_wp2_with fail
  rw [show w.alloc (Obj.cells #[Value.slice ho hd.length hc, Value.slice ro rs.length rc] 25) = W from HW.out.symm]
  go_loopw [3, 4] (fun p i wr => ∃ k m : Nat, k ≤ hd.length ∧ m ≤ 1152921504606846976 ∧ p = .int .i64 m ∧ i = .int .i64 k ∧ wr = W ∧ Hid (m = sumT (hd.take k))) (fun _ i _ => hd.length - (intOf i).toNat)
  case atStart => exact ⟨0, 0, Nat.zero_le _, Nat.zero_le _, rfl, rfl, rfl, Lib.hid (by simp [sumT])⟩
  case round =>
    obtain ⟨k, m, hk, hm, rfl, rfl, rfl, HM⟩ := hrel
    by_cases hlt : k < hd.length
    · obtain ⟨x, hx⟩ : ∃ x, hd[k]? = some x := ⟨_, List.getElem?_eq_getElem hlt⟩
      have HX := Lib.hid (HSH.out k x hx)
      have hle : m + x.size ≤ 1152921504606846976 := by have h1 := HX.out.1; have h2 := HX.out.2; have h3 := HM.out; omega
      have HM' : Hid (m + x.size = sumT (hd.take (k + 1))) := Lib.hid (by rw [HX.out.1, HM.out])
      rcases HHo.out with h0 | ⟨A, rfl, hA, hcell⟩
      · rw [h0] at hlt; simp at hlt
      have hcx := hcell k x hx
      clear hcell hx
      go_wp2_with fail
      go_roundw
      case rel => exact ⟨k + 1, m + x.size, by omega, hle, by go_num, by go_num, by first | rfl | trivial, HM'⟩
      case measure => simp [intOf]; omega
    · obtain rfl : k = hd.length := by omega
      go_wp2_with fail
      obtain ⟨wo, rfl⟩ : ∃ wo : World, wo = wr := ⟨_, rfl⟩
      go_loopw [3, 5] (fun p i wr => ∃ k m : Nat, k ≤ rs.length ∧ m ≤ 1152921504606846976 ∧ p = .int .i64 m ∧ i = .int .i64 k ∧ wr = wo ∧ Hid (m = sumT (hd ++ (rs.take k).flatten))) (fun _ i _ => rs.length - (intOf i).toNat)
      case atStart => exact ⟨0, m, Nat.zero_le _, hm, rfl, rfl, rfl, Lib.hid (by rw [HM.out, List.take_length]; simp)⟩
      case round =>
        obtain ⟨k, m, hk, hm, rfl, rfl, hww, HM⟩ := hrel
        subst hww
        by_cases hlt : k < rs.length
        · obtain ⟨r, hr⟩ : ∃ r, rs[k]? = some r := ⟨_, List.getElem?_eq_getElem hlt⟩
          have HRk := Lib.hid hr
          have hrl := HN3.out r (List.mem_of_getElem? hr)
          rcases HRo.out with h0 | ⟨A, rfl, hA, hcell⟩
          · rw [h0] at hlt; simp at hlt
          obtain ⟨ro1, rc1, hc1, hs1⟩ := hcell k r hr
          have HS1 := Lib.hid hs1
          clear hcell hr hs1
          go_wp2_with fail
          obtain ⟨wo2, rfl⟩ : ∃ wo2 : World, wo2 = wr := ⟨_, rfl⟩
          go_loopw [3, 6] (fun p i wr => ∃ j m : Nat, j ≤ r.length ∧ m ≤ 1152921504606846976 ∧ p = .int .i64 m ∧ i = .int .i64 j ∧ wr = wo2 ∧ Hid (m = sumT (hd ++ (rs.take k).flatten ++ r.take j))) (fun _ i _ => r.length - (intOf i).toNat)
          case atStart => exact ⟨0, m, Nat.zero_le _, hm, rfl, rfl, rfl, Lib.hid (by rw [HM.out]; simp)⟩
          case round =>
            obtain ⟨j, m, hj, hm, rfl, rfl, hww, HM⟩ := hrel
            subst hww
            by_cases hjl : j < r.length
            · obtain ⟨x, hx⟩ : ∃ x, r[j]? = some x := ⟨_, List.getElem?_eq_getElem hjl⟩
              have HX := Lib.hid (HSR.out k j r x HRk.out hx)
              have hle : m + x.size ≤ 1152921504606846976 := by have h1 := HX.out.1; have h2 := HX.out.2; have h3 := HM.out; omega
              have HM' : Hid (m + x.size = sumT (hd ++ (rs.take k).flatten ++ r.take (j + 1))) := Lib.hid (by rw [HX.out.1, HM.out])
              rcases HS1.out with h0 | ⟨A1, rfl, hA1, hcell⟩
              · rw [h0] at hjl; simp at hjl
              have hcx := hcell j x hx
              clear hcell hx
              go_wp2_with fail
              go_roundw
              case rel => exact ⟨j + 1, m + x.size, by omega, hle, by go_num, by go_num, by first | rfl | trivial, HM'⟩
              case measure => simp [intOf]; omega
            · obtain rfl : j = r.length := by omega
              have HM' : Hid (m = sumT (hd ++ (rs.take (k + 1)).flatten)) := Lib.hid (by rw [← HRE.out k r HRk.out, HM.out])
              go_wp2_with fail
              go_roundw
              case rel => exact ⟨k + 1, m, by omega, hm, rfl, by go_num, by first | rfl | trivial, HM'⟩
              case measure => simp [intOf]; omega
        · obtain rfl : k = rs.length := by omega
          have HE : Hid (m = S) := Lib.hid (by rw [HS.out, E1.out]; exact HM.out)
          go_wp2_with fail
          go_ret
          exact ⟨by rw [← HE.out]; rfl, HB.out⟩

set_option maxRecDepth 100000 in
set_option maxHeartbeats 4000000 in
theorem rfind_any (ho : Option Addr) (hc : Nat) (hd : List ByteArray) (ro : Option Addr) (m rc : Nat) (s : ByteArray) (w : World) (hn : hd.length ≤ 1099511627776) (hH : StrRow w ho hd) :
    Calls Tryz.prog 30 #[.agg #[.slice ho hd.length hc, .slice ro m rc], .string s] w fun e w' => e = .returned (.int .i64 (findL hd s)) ∧ Below w.heap.size w w' := by
  obtain ⟨W, HW⟩ : ∃ W, Hid (W = w.alloc (TabO ho hd.length hc ro m rc)) := ⟨_, Lib.hid rfl⟩
  have hB : Below w.heap.size w W := by rw [HW.out]; exact one_below _ _
  have HB := Lib.hid hB
  have HHo := Lib.hid (hH.kept hB)
  have hN : W.heap[w.heap.size]? = some (TabO ho hd.length hc ro m rc) := by rw [HW.out]; exact World.alloc_heap_new w _
  obtain ⟨c0, c1⟩ := tabs hN
  have HF := Lib.hid (firstAt_none (fun c => decide (c.data.toList = s.data.toList)) hd)
  have HS := Lib.hid (firstAt_some (fun c => decide (c.data.toList = s.data.toList)) hd)
  unfold findL
  clear hH hB hN
  generalize firstAt (fun c => decide (c.data.toList = s.data.toList)) hd = F at HF HS ⊢
  go_enter Tryz.func30, Tryz.ntmps30
  go_wp2_with fail
  rw [show w.alloc (Obj.cells #[Value.slice ho hd.length hc, Value.slice ro m rc] 25) = W from HW.out.symm]
  go_loopw [5] (fun i wr => ∃ k : Nat, k ≤ hd.length ∧ i = .int .i64 k ∧ wr = W ∧ Hid (∀ j c, j < k → hd[j]? = some c → decide (c.data.toList = s.data.toList) = false)) (fun i _ => hd.length - (intOf i).toNat)
  case atStart => exact ⟨0, Nat.zero_le _, rfl, rfl, Lib.hid (fun j c h _ => by omega)⟩
  case round =>
    obtain ⟨k, hk, rfl, rfl, HN⟩ := hrel
    by_cases hlt : k < hd.length
    · obtain ⟨x, hx⟩ : ∃ x, hd[k]? = some x := ⟨_, List.getElem?_eq_getElem hlt⟩
      have HX := Lib.hid hx
      have hbe := str_beq x s
      rcases HHo.out with h0 | ⟨A, rfl, hA, hcell⟩
      · rw [h0] at hlt; simp at hlt
      have hcx := hcell k x hx
      clear hcell hx
      by_cases hp : x.data.toList = s.data.toList
      · have E := Lib.hid (HS.out k x HX.out (decide_eq_true hp) HN.out)
        rw [decide_eq_true hp] at hbe
        clear hp
        go_wp2_with fail
        go_ret
        exact ⟨by rw [E.out]; rfl, HB.out⟩
      · have HN' : Hid (∀ j c, j < k + 1 → hd[j]? = some c → decide (c.data.toList = s.data.toList) = false) := Lib.hid (fun j c hj hc' => by
          by_cases e : j = k
          · subst e; rw [HX.out] at hc'; cases hc'; exact decide_eq_false hp
          · exact HN.out j c (by omega) hc')
        rw [decide_eq_false hp] at hbe
        clear hp
        go_wp2_with fail
        go_roundw
        case rel => exact ⟨k + 1, by omega, by go_num, by first | rfl | trivial, HN'⟩
        case measure => simp [intOf]; omega
    · obtain rfl : k = hd.length := by omega
      have E := Lib.hid (HF.out (fun j c hc => HN.out j c (by obtain ⟨h, _⟩ := List.getElem?_eq_some_iff.1 hc; exact h) hc))
      go_wp2_with fail
      go_ret
      exact ⟨by rw [E.out]; rfl, HB.out⟩

set_option maxRecDepth 100000 in
set_option maxHeartbeats 4000000 in
theorem rlong_any (ho : Option Addr) (hc : Nat) (hd : List ByteArray) (w : World) (hn : hd.length ≤ 1099511627776) (hs : ∀ c ∈ hd, c.size ≤ 1152921504606846976) (hH : StrRow w ho hd) :
    Calls Tryz.prog 53 #[.slice ho hd.length hc] w fun e w' => e = .returned (.bool (longT hd)) ∧ w = w' := by
  have HHo := Lib.hid hH
  have HS := Lib.hid hs
  have HL0 := Lib.hid (fun h => longT_no (l := hd) h)
  have HL1 := Lib.hid (fun h => longT_yes (l := hd) (pre := hd) (List.prefix_refl _) h)
  clear hH hs
  generalize longT hd = F at HL0 HL1 ⊢
  go_enter Tryz.func53, Tryz.ntmps53
  go_wp2_with fail
  go_loopw [3] (fun i wr => ∃ k : Nat, k ≤ hd.length ∧ i = .int .i64 k ∧ wr = w ∧ Hid (∀ j c, j < k → hd[j]? = some c → c.size ≤ 1000)) (fun i _ => hd.length - (intOf i).toNat)
  case atStart => exact ⟨0, Nat.zero_le _, rfl, rfl, Lib.hid (fun j c h _ => by omega)⟩
  case round =>
    obtain ⟨k, hk, rfl, rfl, HN⟩ := hrel
    by_cases hlt : k < hd.length
    · obtain ⟨x, hx⟩ : ∃ x, hd[k]? = some x := ⟨_, List.getElem?_eq_getElem hlt⟩
      have HX := Lib.hid hx
      have hxs := HS.out x (List.mem_of_getElem? hx)
      rcases HHo.out with h0 | ⟨A, rfl, hA, hcell⟩
      · rw [h0] at hlt; simp at hlt
      have hcx := hcell k x hx
      clear hcell hx
      by_cases hp : x.size ≤ 1000
      · have HN' : Hid (∀ j c, j < k + 1 → hd[j]? = some c → c.size ≤ 1000) := Lib.hid (fun j c hj hc' => by
          by_cases e : j = k
          · subst e; rw [HX.out] at hc'; cases hc'; exact hp
          · exact HN.out j c (by omega) hc')
        go_wp2_with fail
        go_roundw
        case rel => exact ⟨k + 1, by omega, by go_num, by first | rfl | trivial, HN'⟩
        case measure => simp [intOf]; omega
      · have E := Lib.hid (HL1.out ⟨x, List.mem_of_getElem? HX.out, by omega⟩)
        go_wp2_with fail
        go_ret
        exact ⟨by rw [E.out]; rfl, rfl⟩
    · obtain rfl : k = hd.length := by omega
      have E := Lib.hid (HL0.out (fun c hc => by
        obtain ⟨i, hi, rfl⟩ := List.getElem_of_mem hc
        exact HN.out i _ hi (List.getElem?_eq_getElem hi)))
      go_wp2_with fail
      go_ret
      exact ⟨by rw [E.out]; rfl, rfl⟩

/-- a small table -/
def fewT (hd : List ByteArray) (rs : List (List ByteArray)) : Prop := fewP rs ∧ hd.length ≤ 60 ∧ sumT (allT hd rs) ≤ 8000
theorem sum_le (n B : Nat) (l : List ByteArray) (hl : l.length ≤ n) (h : ∀ c ∈ l, c.size ≤ B) : sumT l ≤ n * B := by
  induction l generalizing n with
  | nil => simp [sumT]
  | cons x l ih =>
    obtain ⟨m, rfl⟩ : ∃ m, n = m + 1 := ⟨n - 1, by simp at hl; omega⟩
    have := ih m (by simp at hl; omega) (fun c hc => h c (List.mem_cons_of_mem _ hc))
    have hx := h x List.mem_cons_self
    simp only [sumT, List.map_cons, List.sum_cons] at this ⊢
    rw [Nat.add_mul]; omega
theorem sum_rows (rs : List (List ByteArray)) : sumT rs.flatten ≤ tot rs := by
  induction rs with
  | nil => simp [sumT, tot]
  | cons x l ih =>
    have h1 : sumT x ≤ rowTot x := by
      clear ih
      induction x with
      | nil => simp [sumT, rowTot]
      | cons a b ih => simp only [sumT, rowTot, List.map_cons, List.sum_cons] at ih ⊢; omega
    simp only [sumT, tot, List.flatten_cons, List.map_append, List.sum_append, List.map_cons, List.sum_cons] at ih h1 ⊢; omega

set_option maxRecDepth 100000 in
set_option maxHeartbeats 4000000 in
theorem rfew_any (ho : Option Addr) (hc : Nat) (hd : List ByteArray) (ro : Option Addr) (rc : Nat) (rs : List (List ByteArray)) (w : World)
    (hn : hd.length ≤ maxLen) (hn2 : rs.length ≤ maxLen) (hx : ∀ r ∈ rs, r.length ≤ maxLen ∧ ∀ c ∈ r, c.size ≤ 140737488351232) (hs : ∀ c ∈ hd, c.size ≤ 140737488351232) (hH : StrRow w ho hd) (hR : RowsAt w ro rs) :
    Calls Tryz.prog 9 #[.agg #[.slice ho hd.length hc, .slice ro rs.length rc]] w fun e w' => ∃ b, e = .returned (.bool b) ∧ (b = true → fewT hd rs) ∧ Below w.heap.size w w' := by
  obtain ⟨W, HW⟩ : ∃ W, Hid (W = w.alloc (TabO ho hd.length hc ro rs.length rc)) := ⟨_, Lib.hid rfl⟩
  have hB : Below w.heap.size w W := by rw [HW.out]; exact one_below _ _
  have HB := Lib.hid hB
  have C1 := Lib.hid (fewReach_any ro rc rs W hn2 hx (hR.kept hB))
  have C2 : Hid (fewP rs → hd.length ≤ 60 → Calls Tryz.prog 21 #[.agg #[.slice ho hd.length hc, .slice ro rs.length rc]] W fun e w' => e = .returned (.int .i64 (sumT (allT hd rs) : Int)) ∧ Below W.heap.size W w') := Lib.hid (fun h h60 =>
    rtotal_any ho hc hd ro rc rs W (by omega) (by have := h.1; omega) (fun r hr => by have := h.2.1 r hr; omega) (hH.kept hB) (hR.kept hB) (by
      have h1 := sum_le 60 140737488351232 hd h60 hs
      have h2 := sum_rows rs
      have h3 := h.2.2
      have e : sumT (allT hd rs) = sumT hd + sumT rs.flatten := by simp [allT, sumT]
      omega))
  have hN : W.heap[w.heap.size]? = some (TabO ho hd.length hc ro rs.length rc) := by rw [HW.out]; exact World.alloc_heap_new w _
  obtain ⟨c0, c1⟩ := tabs hN
  unfold maxLen at hn hn2
  clear hH hR hx hs hB hN
  go_enter Tryz.func9, Tryz.ntmps9
  go_wp2_with fail
  rw [show w.alloc (Obj.cells #[Value.slice ho hd.length hc, Value.slice ro rs.length rc] 25) = W from HW.out.symm]
  refine C1.out.mono ?_; rintro e w1 ⟨b, rfl, hb, rfl⟩
  cases b with
  | false =>
    clear hb
    go_wp2_with fail
    go_ret
    exact ⟨false, rfl, (fun h => by cases h), HB.out⟩
  | true =>
    have HF := Lib.hid (hb rfl)
    clear hb
    by_cases h60 : hd.length ≤ 60
    · have C3 := Lib.hid (C2.out HF.out h60)
      have H8 := Lib.hid (fun (h : sumT (allT hd rs) ≤ 8000) => (show fewT hd rs from ⟨HF.out, h60, h⟩))
      clear C2
      generalize sumT (allT hd rs) = t at C3 H8
      by_cases h8 : t ≤ 8000
      · go_wp2_with fail
        refine C3.out.mono ?_; rintro e w2 ⟨rfl, b2⟩
        have B2 := Lib.hid (below_up HB.out b2)
        clear b2
        go_wp2_with fail
        go_ret
        exact ⟨_, rfl, fun _ => H8.out h8, B2.out⟩
      · have hd8 : decide ((t : Int) ≤ 8000) = false := by simp; omega
        go_wp2_with fail
        refine C3.out.mono ?_; rintro e w2 ⟨rfl, b2⟩
        have B2 := Lib.hid (below_up HB.out b2)
        clear b2
        go_wp2_with fail
        go_ret
        exact ⟨false, by simp, (fun h => by cases h), B2.out⟩
    · have hd6 : decide ((hd.length : Int) ≤ 60) = false := by simp; omega
      clear C2
      go_wp2_with fail
      go_ret
      exact ⟨false, by simp, (fun h => by cases h), HB.out⟩

theorem cell_parts (rs : List (List ByteArray)) (r c : Int) : (r < 0 ∧ cellL rs r c = ⟨#[]⟩) ∨ ((rs.length : Int) ≤ r ∧ cellL rs r c = ⟨#[]⟩) ∨ (∃ k : Nat, r = k ∧ k < rs.length ∧ ∃ x, rs[k]? = some x ∧
    ((c < 0 ∧ cellL rs r c = ⟨#[]⟩) ∨ (0 ≤ c ∧ (x.length : Int) ≤ c ∧ cellL rs r c = ⟨#[]⟩) ∨ ∃ j : Nat, c = j ∧ j < x.length ∧ ∃ y, x[j]? = some y ∧ cellL rs r c = y)) := by
  by_cases h1 : r < 0
  · exact .inl ⟨h1, cellL_row rs r c (by simp; omega)⟩
  by_cases h2 : (rs.length : Int) ≤ r
  · exact .inr (.inl ⟨h2, cellL_row rs r c (by simp; omega)⟩)
  obtain ⟨k, rfl⟩ := Int.eq_ofNat_of_zero_le (show 0 ≤ r by omega)
  have hk : k < rs.length := by omega
  refine .inr (.inr ⟨k, rfl, hk, rs[k], List.getElem?_eq_getElem hk, ?_⟩)
  by_cases h3 : c < 0
  · exact .inl ⟨h3, cellL_col rs k rs[k] c (List.getElem?_eq_getElem hk) (by simp; omega)⟩
  by_cases h4 : ((rs[k]).length : Int) ≤ c
  · exact .inr (.inl ⟨by omega, h4, cellL_col rs k rs[k] c (List.getElem?_eq_getElem hk) (by simp; omega)⟩)
  obtain ⟨j, rfl⟩ := Int.eq_ofNat_of_zero_le (show 0 ≤ c by omega)
  have hj : j < (rs[k]).length := by omega
  exact .inr (.inr ⟨j, rfl, hj, _, List.getElem?_eq_getElem hj, cellL_at rs k j _ _ (List.getElem?_eq_getElem hk) (List.getElem?_eq_getElem hj)⟩)

set_option maxRecDepth 100000 in
set_option maxHeartbeats 4000000 in
theorem rcell_any (ho : Option Addr) (m hc : Nat) (ro : Option Addr) (rc : Nat) (rs : List (List ByteArray)) (r c : Int) (w : World) (hR : RowsAt w ro rs) :
    Calls Tryz.prog 97 #[.agg #[.slice ho m hc, .slice ro rs.length rc], .int .i64 r, .int .i64 c] w fun e w' => e = .returned (.string (cellL rs r c)) ∧ Below w.heap.size w w' := by
  have HB := Lib.hid (one_below w (TabO ho m hc ro rs.length rc))
  have HR := Lib.hid (hR.kept HB.out)
  have P := cell_parts rs r c
  clear hR
  rcases P with ⟨h, e⟩ | ⟨h, e⟩ | ⟨k, rfl, hk, x, hx, P⟩
  · have E := Lib.hid e
    clear e
    go_enter Tryz.func97, Tryz.ntmps97
    go_wp2_with fail
    go_ret
    exact ⟨by rw [E.out]; rfl, HB.out⟩
  · have E := Lib.hid e
    have h0 : ¬ r < 0 := by omega
    clear e
    go_enter Tryz.func97, Tryz.ntmps97
    go_wp2_with fail
    go_ret
    exact ⟨by rw [E.out]; rfl, HB.out⟩
  · rcases HR.out with h0 | ⟨A, rfl, hA, hcell⟩
    · rw [h0] at hk; simp at hk
    obtain ⟨ro1, rc1, hc1, hs1⟩ := hcell k x hx
    have HS1 := Lib.hid hs1
    clear hcell hs1 hx
    rcases P with ⟨h, e⟩ | ⟨h, h', e⟩ | ⟨j, rfl, hj, y, hy, e⟩
    · have E := Lib.hid e
      clear e
      go_enter Tryz.func97, Tryz.ntmps97
      go_wp2_with fail
      go_ret
      exact ⟨by rw [E.out]; rfl, HB.out⟩
    · have E := Lib.hid e
      have h0 : ¬ c < 0 := by omega
      clear e
      go_enter Tryz.func97, Tryz.ntmps97
      go_wp2_with fail
      go_ret
      exact ⟨by rw [E.out]; rfl, HB.out⟩
    · rcases HS1.out with h0 | ⟨A1, rfl, hA1, hcell⟩
      · rw [h0] at hj; simp at hj
      have hcy := hcell j y hy
      have E := Lib.hid e
      clear e hcell hy
      go_enter Tryz.func97, Tryz.ntmps97
      go_wp2_with fail
      go_ret
      exact ⟨by rw [E.out]; rfl, HB.out⟩
end Go.Proofs.YtigijgcldgbokaaGreat
