/-
  Texts of these rows' proofs, laid one behind the other: TRefA, TRec, PPutR, PRests, PMathD, PSym1, PSym2, PRot.
  Conditions: those of each theorem.
-/
import Derived.WalkKit
import Derived.WalkMore
import Derived.Lib.Hide
import Derived.Test.YtdenehnneloegaaGreatDoorProg
import Derived.Test.YtdenehnneloegaaGreatDoorPb3
import Derived.Test.YtdenehnneloegaaGreatDoorPb6
import Derived.Lib.AppendZerosOnto
import Derived.Laws.CopyOwn
import Derived.Laws.AppendOwn
import Derived.Deep.RegionLaw
import Derived.Deep.RegionWith
import Derived.IntWalk
import Derived.OwnWalk
import Derived.StillTailTactics
import Derived.BigQuiet
import Derived.Deep.QuietTactic
import Derived.Deep.Cut
import Derived.Deep.Onto
import Derived.WalkArith
import Derived.RegionTactic
import Derived.BigRegion
import Derived.Test.YtdenehnneloegaaGreatDoorPb5
namespace Go.Proofs.YtdenehnneloegaaGreatDoor
open Go.RowKit Go.Shelf
set_option linter.unusedVariables false
theorem sum_head (hd : List ByteArray) (rs : List (List ByteArray)) (k : Nat) (x : ByteArray) (h : hd[k]? = some x) : sumT (hd.take (k + 1)) = sumT (hd.take k) + x.size ∧ sumT (hd.take (k + 1)) ≤ sumT (allT hd rs) := by
  obtain ⟨h1, h2⟩ := pre_head hd rs k x h
  exact ⟨by rw [h1, sumT_next], by rw [h1]; exact sumT_pre h2⟩
theorem sum_row (hd : List ByteArray) (rs : List (List ByteArray)) (k j : Nat) (r : List ByteArray) (x : ByteArray) (hr : rs[k]? = some r) (h : r[j]? = some x) :
    sumT (hd ++ (rs.take k).flatten ++ r.take (j + 1)) = sumT (hd ++ (rs.take k).flatten ++ r.take j) + x.size ∧ sumT (hd ++ (rs.take k).flatten ++ r.take (j + 1)) ≤ sumT (allT hd rs) := by
  obtain ⟨h1, h2⟩ := pre_row hd rs k j r x hr h
  exact ⟨by rw [h1, sumT_next], by rw [h1]; exact sumT_pre h2⟩
set_option maxRecDepth 100000 in
set_option maxHeartbeats 4000000 in
theorem rtotal_any (ho : Option Addr) (hc : Nat) (hd : List ByteArray) (ro : Option Addr) (rc : Nat) (rs : List (List ByteArray)) (w : World)
    (hn : hd.length ≤ 1099511627776) (hn2 : rs.length ≤ 1099511627776) (hn3 : ∀ r ∈ rs, r.length ≤ 1099511627776) (hH : StrRow w ho hd) (hR : RowsAt w ro rs) (hsum : sumT (allT hd rs) ≤ 1152921504606846976) :
    Calls Tryz.prog 73 #[.agg #[.slice ho hd.length hc, .slice ro rs.length rc]] w fun e w' => e = .returned (.int .i64 (sumT (allT hd rs) : Int)) ∧ Below w.heap.size w w' := by
  obtain ⟨W, HW⟩ : ∃ W, Hid (W = w.alloc (TabO ho hd.length hc ro rs.length rc)) := ⟨_, Lib.hid rfl⟩
  have hB : Below w.heap.size w W := by rw [HW.out]; exact one_below _ _
  have HB := Lib.hid hB
  have HHo := Lib.hid (hH.kept hB)
  have HRo := Lib.hid (hR.kept hB)
  have HN3 := Lib.hid hn3
  have HSH := Lib.hid (sum_head hd rs)
  have HSR := Lib.hid (sum_row hd rs)
  have HRE := Lib.hid (row_end hd rs)
  have E1 := Lib.hid (show allT hd rs = hd ++ (rs.take rs.length).flatten by simp [allT])
  have hN : W.heap[w.heap.size]? = some (TabO ho hd.length hc ro rs.length rc) := by rw [HW.out]; exact World.alloc_heap_new w _
  obtain ⟨c0, c1⟩ := tabs hN
  obtain ⟨S, HS⟩ : ∃ S : Nat, Hid (S = sumT (allT hd rs)) := ⟨_, Lib.hid rfl⟩
  rw [← HS.out] at hsum HSH HSR ⊢
  clear hH hR hn3 hB hN
  go_enter Tryz.func73, Tryz.ntmps73
  go_wp2_with fail
  rw [show w.alloc (Obj.cells #[Value.slice ho hd.length hc, Value.slice ro rs.length rc] 25) = W from HW.out.symm]
  go_loopw [3, 4] (fun p i wr => ∃ k m : Nat, k ≤ hd.length ∧ m ≤ 1152921504606846976 ∧ p = .int .i64 m ∧ i = .int .i64 k ∧ wr = W ∧ Hid (m = sumT (hd.take k))) (fun _ i _ => hd.length - (intOf i).toNat)
  case atStart => exact ⟨0, 0, Nat.zero_le _, Nat.zero_le _, rfl, rfl, rfl, Lib.hid (by simp [sumT])⟩
  case round =>
    obtain ⟨k, m, hk, hm, rfl, rfl, rfl, HM⟩ := hrel
    by_cases hlt : k < hd.length
    · obtain ⟨x, hx⟩ : ∃ x, hd[k]? = some x := ⟨_, List.getElem?_eq_getElem hlt⟩
      have HX := Lib.hid (HSH.out k x hx)
      have hle : m + x.size ≤ 1152921504606846976 := by have h1 := HX.out.1; have h2 := HX.out.2; have h3 := HM.out; omega
      have HM' : Hid (m + x.size = sumT (hd.take (k + 1))) := Lib.hid (by rw [HX.out.1, HM.out])
      rcases HHo.out with h0 | ⟨A, rfl, hA, hcell⟩
      · rw [h0] at hlt; simp at hlt
      have hcx := hcell k x hx
      clear hcell hx
      go_wp2_with fail
      go_roundw
      case rel => exact ⟨k + 1, m + x.size, by omega, hle, by go_num, by go_num, by first | rfl | trivial, HM'⟩
      case measure => simp [intOf]; omega
    · obtain rfl : k = hd.length := by omega
      go_wp2_with fail
      obtain ⟨wo, rfl⟩ : ∃ wo : World, wo = wr := ⟨_, rfl⟩
      go_loopw [3, 5] (fun p i wr => ∃ k m : Nat, k ≤ rs.length ∧ m ≤ 1152921504606846976 ∧ p = .int .i64 m ∧ i = .int .i64 k ∧ wr = wo ∧ Hid (m = sumT (hd ++ (rs.take k).flatten))) (fun _ i _ => rs.length - (intOf i).toNat)
      case atStart => exact ⟨0, m, Nat.zero_le _, hm, rfl, rfl, rfl, Lib.hid (by rw [HM.out, List.take_length]; simp)⟩
      case round =>
        obtain ⟨k, m, hk, hm, rfl, rfl, hww, HM⟩ := hrel
        subst hww
        by_cases hlt : k < rs.length
        · obtain ⟨r, hr⟩ : ∃ r, rs[k]? = some r := ⟨_, List.getElem?_eq_getElem hlt⟩
          have HRk := Lib.hid hr
          have hrl := HN3.out r (List.mem_of_getElem? hr)
          rcases HRo.out with h0 | ⟨A, rfl, hA, hcell⟩
          · rw [h0] at hlt; simp at hlt
          obtain ⟨ro1, rc1, hc1, hs1⟩ := hcell k r hr
          have HS1 := Lib.hid hs1
          clear hcell hr hs1
          go_wp2_with fail
          obtain ⟨wo2, rfl⟩ : ∃ wo2 : World, wo2 = wr := ⟨_, rfl⟩
          go_loopw [3, 6] (fun p i wr => ∃ j m : Nat, j ≤ r.length ∧ m ≤ 1152921504606846976 ∧ p = .int .i64 m ∧ i = .int .i64 j ∧ wr = wo2 ∧ Hid (m = sumT (hd ++ (rs.take k).flatten ++ r.take j))) (fun _ i _ => r.length - (intOf i).toNat)
          case atStart => exact ⟨0, m, Nat.zero_le _, hm, rfl, rfl, rfl, Lib.hid (by rw [HM.out]; simp)⟩
          case round =>
            obtain ⟨j, m, hj, hm, rfl, rfl, hww, HM⟩ := hrel
            subst hww
            by_cases hjl : j < r.length
            · obtain ⟨x, hx⟩ : ∃ x, r[j]? = some x := ⟨_, List.getElem?_eq_getElem hjl⟩
              have HX := Lib.hid (HSR.out k j r x HRk.out hx)
              have hle : m + x.size ≤ 1152921504606846976 := by have h1 := HX.out.1; have h2 := HX.out.2; have h3 := HM.out; omega
              have HM' : Hid (m + x.size = sumT (hd ++ (rs.take k).flatten ++ r.take (j + 1))) := Lib.hid (by rw [HX.out.1, HM.out])
              rcases HS1.out with h0 | ⟨A1, rfl, hA1, hcell⟩
              · rw [h0] at hjl; simp at hjl
              have hcx := hcell j x hx
              clear hcell hx
              go_wp2_with fail
              go_roundw
              case rel => exact ⟨j + 1, m + x.size, by omega, hle, by go_num, by go_num, by first | rfl | trivial, HM'⟩
              case measure => simp [intOf]; omega
            · obtain rfl : j = r.length := by omega
              have HM' : Hid (m = sumT (hd ++ (rs.take (k + 1)).flatten)) := Lib.hid (by rw [← HRE.out k r HRk.out, HM.out])
              go_wp2_with fail
              go_roundw
              case rel => exact ⟨k + 1, m, by omega, hm, rfl, by go_num, by first | rfl | trivial, HM'⟩
              case measure => simp [intOf]; omega
        · obtain rfl : k = rs.length := by omega
          have HE : Hid (m = S) := Lib.hid (by rw [HS.out, E1.out]; exact HM.out)
          go_wp2_with fail
          go_ret
          exact ⟨by rw [← HE.out]; rfl, HB.out⟩
/-- a small table -/
def fewT (hd : List ByteArray) (rs : List (List ByteArray)) : Prop := fewP rs ∧ hd.length ≤ 60 ∧ sumT (allT hd rs) ≤ 8000
theorem sum_le (n B : Nat) (l : List ByteArray) (hl : l.length ≤ n) (h : ∀ c ∈ l, c.size ≤ B) : sumT l ≤ n * B := by
  induction l generalizing n with
  | nil => simp [sumT]
  | cons x l ih =>
    obtain ⟨m, rfl⟩ : ∃ m, n = m + 1 := ⟨n - 1, by simp at hl; omega⟩
    have := ih m (by simp at hl; omega) (fun c hc => h c (List.mem_cons_of_mem _ hc))
    have hx := h x List.mem_cons_self
    simp only [sumT, List.map_cons, List.sum_cons] at this ⊢
    rw [Nat.add_mul]; omega
theorem sum_rows (rs : List (List ByteArray)) : sumT rs.flatten ≤ tot rs := by
  induction rs with
  | nil => simp [sumT, tot]
  | cons x l ih =>
    have h1 : sumT x ≤ rowTot x := by
      clear ih
      induction x with
      | nil => simp [sumT, rowTot]
      | cons a b ih => simp only [sumT, rowTot, List.map_cons, List.sum_cons] at ih ⊢; omega
    simp only [sumT, tot, List.flatten_cons, List.map_append, List.sum_append, List.map_cons, List.sum_cons] at ih h1 ⊢; omega
set_option maxRecDepth 100000 in
set_option maxHeartbeats 4000000 in
theorem rfew_any (ho : Option Addr) (hc : Nat) (hd : List ByteArray) (ro : Option Addr) (rc : Nat) (rs : List (List ByteArray)) (w : World)
    (hn : hd.length ≤ maxLen) (hn2 : rs.length ≤ maxLen) (hx : ∀ r ∈ rs, r.length ≤ maxLen ∧ ∀ c ∈ r, c.size ≤ 140737488351232) (hs : ∀ c ∈ hd, c.size ≤ 140737488351232) (hH : StrRow w ho hd) (hR : RowsAt w ro rs) :
    Calls Tryz.prog 27 #[.agg #[.slice ho hd.length hc, .slice ro rs.length rc]] w fun e w' => ∃ b, e = .returned (.bool b) ∧ (b = true → fewT hd rs) ∧ Below w.heap.size w w' := by
  obtain ⟨W, HW⟩ : ∃ W, Hid (W = w.alloc (TabO ho hd.length hc ro rs.length rc)) := ⟨_, Lib.hid rfl⟩
  have hB : Below w.heap.size w W := by rw [HW.out]; exact one_below _ _
  have HB := Lib.hid hB
  have C1 := Lib.hid (fewReach_any ro rc rs W hn2 hx (hR.kept hB))
  have C2 : Hid (fewP rs → hd.length ≤ 60 → Calls Tryz.prog 73 #[.agg #[.slice ho hd.length hc, .slice ro rs.length rc]] W fun e w' => e = .returned (.int .i64 (sumT (allT hd rs) : Int)) ∧ Below W.heap.size W w') := Lib.hid (fun h h60 =>
    rtotal_any ho hc hd ro rc rs W (by omega) (by have := h.1; omega) (fun r hr => by have := h.2.1 r hr; omega) (hH.kept hB) (hR.kept hB) (by
      have h1 := sum_le 60 140737488351232 hd h60 hs
      have h2 := sum_rows rs
      have h3 := h.2.2
      have e : sumT (allT hd rs) = sumT hd + sumT rs.flatten := by simp [allT, sumT]
      omega))
  have hN : W.heap[w.heap.size]? = some (TabO ho hd.length hc ro rs.length rc) := by rw [HW.out]; exact World.alloc_heap_new w _
  obtain ⟨c0, c1⟩ := tabs hN
  unfold maxLen at hn hn2
  clear hH hR hx hs hB hN
  go_enter Tryz.func27, Tryz.ntmps27
  go_wp2_with fail
  rw [show w.alloc (Obj.cells #[Value.slice ho hd.length hc, Value.slice ro rs.length rc] 25) = W from HW.out.symm]
  refine C1.out.mono ?_; rintro e w1 ⟨b, rfl, hb, rfl⟩
  cases b with
  | false =>
    clear hb
    go_wp2_with fail
    go_ret
    exact ⟨false, rfl, (fun h => by cases h), HB.out⟩
  | true =>
    have HF := Lib.hid (hb rfl)
    clear hb
    by_cases h60 : hd.length ≤ 60
    · have C3 := Lib.hid (C2.out HF.out h60)
      have H8 := Lib.hid (fun (h : sumT (allT hd rs) ≤ 8000) => (show fewT hd rs from ⟨HF.out, h60, h⟩))
      clear C2
      generalize sumT (allT hd rs) = t at C3 H8
      by_cases h8 : t ≤ 8000
      · go_wp2_with fail
        refine C3.out.mono ?_; rintro e w2 ⟨rfl, b2⟩
        have B2 := Lib.hid (below_up HB.out b2)
        clear b2
        go_wp2_with fail
        go_ret
        exact ⟨_, rfl, fun _ => H8.out h8, B2.out⟩
      · have hd8 : decide ((t : Int) ≤ 8000) = false := by simp; omega
        go_wp2_with fail
        refine C3.out.mono ?_; rintro e w2 ⟨rfl, b2⟩
        have B2 := Lib.hid (below_up HB.out b2)
        clear b2
        go_wp2_with fail
        go_ret
        exact ⟨false, by simp, (fun h => by cases h), B2.out⟩
    · have hd6 : decide ((hd.length : Int) ≤ 60) = false := by simp; omega
      clear C2
      go_wp2_with fail
      go_ret
      exact ⟨false, by simp, (fun h => by cases h), HB.out⟩
end Go.Proofs.YtdenehnneloegaaGreatDoor
namespace Go.Proofs.YtdenehnneloegaaGreatDoor
open Go.RowKit Go.Shelf
set_option linter.unusedVariables false
theorem add0 (A : Addr) : A.add 0 = A := by unfold Addr.add; split <;> (cases A; simp_all)
/-- where a block that holds no text turns, rows of texts elsewhere stay -/
theorem str_turn {w w' : World} {b : Nat} {cs : Array Value} {T : TypeId} {fr : Nat × Nat} (hb : w.heap[b]? = some (.cells cs T fr)) (hcs : ∀ (j : Nat) s, cs[j]? ≠ some (.string s)) (hz : w.heap.size ≤ w'.heap.size) (hk : ∀ k, k ≠ b → w'.heap[k]? = w.heap[k]?)
    {ao : Option Addr} {xs : List ByteArray} (h : StrRow w ao xs) : StrRow w' ao xs := by
  by_cases h0 : xs = []
  · exact .inl h0
  · rcases h with h | ⟨A, h1, h2, h3⟩
    · exact .inl h
    · have hp : 0 < xs.length := List.length_pos_iff.2 h0
      have hne : A.block ≠ b := fun e => by
        have hc := h3 0 xs[0] (List.getElem?_eq_getElem hp)
        rw [add0] at hc
        unfold World.cell? at hc
        rw [e, hb] at hc
        simp only at hc
        split at hc
        · cases hc
        · exact hcs _ _ hc
      exact .inr ⟨A, h1, Nat.lt_of_lt_of_le h2 hz, fun i c hc => (World.cell?_of_block (a := A.add i) (by rw [add_block]; exact hk _ hne)).trans (h3 i c hc)⟩
end Go.Proofs.YtdenehnneloegaaGreatDoor
namespace Go.Proofs.YtdenehnneloegaaGreatDoor
open Go.RowKit Go.Shelf
set_option linter.unusedVariables false
theorem cellsP_inv (L : PL) (j : Nat) (u : Value) (h : (cellsP L)[j]? = some u) : ∃ i p, L[i]? = some p ∧ ((j = i * 2 ∧ u = .int .i64 p.1) ∨ (j = i * 2 + 1 ∧ u = .int .i64 p.2)) := by
  have hj := (List.getElem?_eq_some_iff.1 h).1
  rw [cellsP_length] at hj
  obtain ⟨p, hp⟩ : ∃ p, L[j / 2]? = some p := ⟨_, List.getElem?_eq_getElem (by omega)⟩
  obtain ⟨c1, c2⟩ := cellsP_at L (j / 2) p hp
  rcases Nat.mod_two_eq_zero_or_one j with e | e
  · refine ⟨j / 2, p, hp, .inl ⟨by omega, ?_⟩⟩
    rw [show j / 2 * 2 = j from by omega, h] at c1; exact Option.some.inj c1
  · refine ⟨j / 2, p, hp, .inr ⟨by omega, ?_⟩⟩
    rw [show j / 2 * 2 + 1 = j from by omega, h] at c2; exact Option.some.inj c2
theorem PairsAt.rest {w : World} {b o : Nat} {L : PL} (h : PairsAt w (some ⟨b, o, none⟩) L) (k : Nat) : PairsAt w (some ⟨b, o + k * 2, none⟩) (L.drop k) := by
  rcases h with rfl | ⟨b', o', h1, h2, h3⟩
  · exact .inl (by simp)
  · cases h1
    refine .inr ⟨b, o + k * 2, rfl, h2, fun i p hp => ?_⟩
    rw [List.getElem?_drop] at hp
    have := h3 (k + i) p hp
    rw [show o + k * 2 + i * 2 = o + (k + i) * 2 from by omega]
    exact this
theorem cellsP_ones (L : PL) : ∀ u ∈ cellsP L, u.oneCell' = true := fun u hu => by
  obtain ⟨i, hi, rfl⟩ := List.getElem_of_mem hu
  obtain ⟨j, p, _, ⟨_, e⟩ | ⟨_, e⟩⟩ := cellsP_inv L i _ (List.getElem?_eq_getElem hi)
  · rw [e]; rfl
  · rw [e]; rfl
end Go.Proofs.YtdenehnneloegaaGreatDoor
namespace Go.Proofs.YtdenehnneloegaaGreatDoor
open Go.RowKit Go.Shelf Go.Maps
set_option linter.unusedVariables false
set_option maxRecDepth 100000 in
theorem restA_any (ao : Option Addr) (cap : Nat) (xs : PL) (n : Int) (w : World) (hn : xs.length ≤ 274877906944) (hs : okP xs) (hR : PairsAt w ao xs) (hlo : -9223372036854775808 ≤ n) (hhi : n ≤ 2147483647) :
    Calls Tryz.prog 96 #[.slice ao xs.length cap, .int .i64 n] w (IntsOut (outOf (xs.map Prod.fst) n.toNat) w) := by
  have C := Lib.hid (rest_any 150 Prod.fst restA1 (enters_of Tryz.func150 (by kernel_rfl) rfl) ao cap xs n w hn (fun p hp => (hs p hp).1) hR hlo hhi)
  clear hs hR
  generalize outOf (xs.map Prod.fst) n.toNat = O at C ⊢
  go_enter Tryz.func96, Tryz.ntmps96
  go_wp2_with fail
  refine C.out.mono ?_; rintro e w1 ⟨bo, cp, rfl, h1, h2, h3, h4⟩
  have HE : Hid (IntsOut O w (.returned (.slice bo O.length cp)) w1) := Lib.hid ⟨bo, cp, rfl, h1, h2, h3, h4⟩
  clear h1 h2 h3 h4
  go_wp2_with fail
  go_ret
  exact HE.out
set_option maxRecDepth 100000 in
theorem restB_any (ao : Option Addr) (cap : Nat) (xs : PL) (n : Int) (w : World) (hn : xs.length ≤ 274877906944) (hs : okP xs) (hR : PairsAt w ao xs) (hlo : -9223372036854775808 ≤ n) (hhi : n ≤ 2147483647) :
    Calls Tryz.prog 97 #[.slice ao xs.length cap, .int .i64 n] w (IntsOut (outOf (xs.map Prod.snd) n.toNat) w) := by
  have C := Lib.hid (rest_any 151 Prod.snd restB1 (enters_of Tryz.func151 (by kernel_rfl) rfl) ao cap xs n w hn (fun p hp => (hs p hp).2) hR hlo hhi)
  clear hs hR
  generalize outOf (xs.map Prod.snd) n.toNat = O at C ⊢
  go_enter Tryz.func97, Tryz.ntmps97
  go_wp2_with fail
  refine C.out.mono ?_; rintro e w1 ⟨bo, cp, rfl, h1, h2, h3, h4⟩
  have HE : Hid (IntsOut O w (.returned (.slice bo O.length cp)) w1) := Lib.hid ⟨bo, cp, rfl, h1, h2, h3, h4⟩
  clear h1 h2 h3 h4
  go_wp2_with fail
  go_ret
  exact HE.out
end Go.Proofs.YtdenehnneloegaaGreatDoor
namespace Go.Proofs.YtdenehnneloegaaGreatDoor
set_option linter.unusedVariables false
theorem firstB_mem {l : PL} {z a : Int} (h : firstB l z = some a) : (a, z) ∈ l := by
  unfold firstB at h
  obtain ⟨⟨x, y⟩, hp, e⟩ := Option.map_eq_some_iff.1 h
  have h1 := List.mem_of_find?_eq_some hp
  have h2 := List.find?_some hp
  simp at h2 e
  subst h2 e
  exact h1
theorem firstB_of {l : PL} {z a : Int} (hn : (l.map Prod.snd).Nodup) (h : (a, z) ∈ l) : firstB l z = some a := by
  cases hf : firstB l z with
  | none =>
    unfold firstB at hf
    rw [Option.map_eq_none_iff, List.find?_eq_none] at hf
    have := hf _ h
    simp at this
  | some b =>
    have h2 := firstB_mem hf
    have : ∀ (m : PL), (m.map Prod.snd).Nodup → (a, z) ∈ m → (b, z) ∈ m → b = a := fun m => by
      induction m with
      | nil => intro _ h; cases h
      | cons q m ih =>
        intro hm h1 h2
        rw [List.map_cons, List.nodup_cons] at hm
        rcases List.mem_cons.1 h1 with e1 | e1 <;> rcases List.mem_cons.1 h2 with e2 | e2
        · rw [← e1] at e2; injection e2
        · exact absurd (List.mem_map.2 ⟨_, e2, by rw [← e1]⟩) hm.1
        · exact absurd (List.mem_map.2 ⟨_, e1, by rw [← e2]⟩) hm.1
        · exact ih hm.2 e1 e2
    rw [this l hn h h2]
end Go.Proofs.YtdenehnneloegaaGreatDoor
namespace Go.Proofs.YtdenehnneloegaaGreatDoor
open Go.RowKit Go.Shelf
set_option linter.unusedVariables false
theorem way_swapR (P S : PL) (p q : Int × Int) (k : Nat) (R : PL) (hk : k + 1 ≤ S.length) (hq : S[k]? = some q) : (wayL P S p k R)[P.length + k + 1]? = some q ∧ ((wayL P S p k R).set (P.length + k) q).set (P.length + k + 1) p = wayL P S p (k + 1) R := by
  obtain ⟨hl, e⟩ := List.getElem?_eq_some_iff.1 hq
  have h1 : wayL P S p (k + 1) R = (P ++ S.take k) ++ q :: p :: (S.drop (k + 1) ++ R) := by
    unfold wayL; rw [List.take_succ_eq_append_getElem hl, e]; simp
  have h2 : wayL P S p k R = (P ++ S.take k) ++ p :: q :: (S.drop (k + 1) ++ R) := by
    unfold wayL; rw [List.drop_eq_getElem_cons hl, e]; simp
  have hlen : (P ++ S.take k).length = P.length + k := by simp; omega
  rw [h1, h2]
  constructor
  · rw [List.getElem?_append_right (by rw [hlen]; omega), hlen, show P.length + k + 1 - (P.length + k) = 1 from by omega]; rfl
  · rw [List.set_append_right _ _ (by rw [hlen]; exact Nat.le_refl _), List.set_append_right _ _ (by rw [hlen]; omega), hlen, Nat.sub_self, show P.length + k + 1 - (P.length + k) = 1 from by omega]
    rfl
theorem sorted_le {l : PL} (h : Sorted l) (i j : Nat) (p q : Int × Int) (hp : l[i]? = some p) (hq : l[j]? = some q) (hij : i ≤ j) : p.2 ≤ q.2 := by
  rcases Nat.lt_or_ge i j with hlt | hge
  · obtain ⟨h1, e1⟩ := List.getElem?_eq_some_iff.1 hp
    obtain ⟨h2, e2⟩ := List.getElem?_eq_some_iff.1 hq
    have := List.pairwise_iff_getElem.1 h i j h1 h2 hlt
    rw [e1, e2] at this; exact this
  · rw [show j = i from by omega, hp] at hq; cases hq; exact Int.le_refl _
theorem sorted_take {l : PL} (h : Sorted l) (k : Nat) : Sorted (l.take k) := h.sublist (List.take_sublist _ _)
theorem sorted_drop {l : PL} (h : Sorted l) (k : Nat) : Sorted (l.drop k) := h.sublist (List.drop_sublist _ _)
theorem take_at {l : PL} {c : Nat} {p : Int × Int} (h : p ∈ l.take c) : ∃ i, i < c ∧ l[i]? = some p := by
  obtain ⟨i, hi, rfl⟩ := List.getElem_of_mem h
  rw [List.length_take] at hi
  exact ⟨i, by omega, by rw [List.getElem_take]; exact List.getElem?_eq_getElem (by omega)⟩
theorem drop_atP {l : PL} {c : Nat} {p : Int × Int} (h : p ∈ l.drop c) : ∃ i, c ≤ i ∧ l[i]? = some p := by
  obtain ⟨i, hi, rfl⟩ := List.getElem_of_mem h
  rw [List.length_drop] at hi
  exact ⟨c + i, by omega, by rw [List.getElem_drop]; exact List.getElem?_eq_getElem (by omega)⟩
/-- one pair, put ahead of the first one that is not less -/
theorem sortB_one (x : Int × Int) (B : PL) (c : Nat) (hB : Sorted B) (hc : c ≤ B.length) (h1 : c = 0 ∨ ∃ q, B[c - 1]? = some q ∧ q.2 < x.2) (h2 : c = B.length ∨ ∃ q, B[c]? = some q ∧ x.2 ≤ q.2) : sortB ([x] ++ B) = B.take c ++ x :: B.drop c := by
  have k1 : ∀ q ∈ B.take c, q.2 < x.2 := fun q hq => by
    obtain ⟨i, hi, e⟩ := take_at hq
    rcases h1 with rfl | ⟨r, hr, hrx⟩
    · omega
    · have := sorted_le hB i (c - 1) q r e hr (by omega); omega
  have k2 : ∀ q ∈ B.drop c, x.2 ≤ q.2 := fun q hq => by
    obtain ⟨i, hi, e⟩ := drop_atP hq
    rcases h2 with rfl | ⟨r, hr, hrx⟩
    · have := (List.getElem?_eq_some_iff.1 e).1; omega
    · have := sorted_le hB c i r q hr e hi; omega
  refine (sortB_is ⟨sorted_app (sorted_take hB c) (List.pairwise_cons.2 ⟨k2, sorted_drop hB c⟩) (fun p hp q hq => ?_), fun v => ?_⟩).symm
  · have := k1 p hp
    rcases List.mem_cons.1 hq with rfl | hq
    · omega
    · have := k2 q hq; omega
  · have e : ofB v ([x] ++ B) = ofB v ([x] ++ (B.take c ++ B.drop c)) := by rw [List.take_append_drop]
    rw [e]
    simp only [ofB_app, ofB_cons]
    by_cases hv : x.2 = v
    · rw [ofB_none v (B.take c) (fun q hq => by have := k1 q hq; omega)]; simp [hv, ofB]
    · simp [hv, ofB]
end Go.Proofs.YtdenehnneloegaaGreatDoor
namespace Go.Proofs.YtdenehnneloegaaGreatDoor
open Go.RowKit Go.Shelf
set_option linter.unusedVariables false
theorem sortB_last (A : PL) (y : Int × Int) (c : Nat) (hA : Sorted A) (hc : c ≤ A.length) (h1 : c = 0 ∨ ∃ q, A[c - 1]? = some q ∧ q.2 ≤ y.2) (h2 : c = A.length ∨ ∃ q, A[c]? = some q ∧ y.2 < q.2) : sortB (A ++ [y]) = A.take c ++ y :: A.drop c := by
  rw [sortB_snoc, sortB_sorted hA]
  unfold putB
  rw [putK_is y A c hc h1 (fun t q ht hq => by
    rcases h2 with rfl | ⟨r, hr, hry⟩
    · have := (List.getElem?_eq_some_iff.1 hq).1; omega
    · have := sorted_le hA c t r q hr hq ht; omega)]
end Go.Proofs.YtdenehnneloegaaGreatDoor
namespace Go.Proofs.YtdenehnneloegaaGreatDoor
open Go.RowKit Go.Shelf
set_option linter.unusedVariables false
theorem set2 (L1 L2 L3 : PL) (x y : Int × Int) : ((L1 ++ x :: (L2 ++ y :: L3)).set L1.length y).set (L1.length + 1 + L2.length) x = L1 ++ y :: (L2 ++ x :: L3) := by
  rw [List.set_append_right _ _ (Nat.le_refl _), Nat.sub_self, List.set_cons_zero, List.set_append_right _ _ (by omega), show L1.length + 1 + L2.length - L1.length = L2.length + 1 from by omega, List.set_cons_succ, List.set_append_right _ _ (Nat.le_refl _), Nat.sub_self, List.set_cons_zero]
/-- two pieces X and Y, of which the first i have changed places -/
def midL (P X M Y R : PL) (i : Nat) : PL := P ++ (Y.take i ++ X.drop i) ++ M ++ (X.take i ++ Y.drop i) ++ R
theorem mid_form (P X M Y R : PL) (i : Nat) (x y : Int × Int) (hx : X[i]? = some x) (hy : Y[i]? = some y) :
    midL P X M Y R i = (P ++ Y.take i) ++ x :: ((X.drop (i + 1) ++ M ++ X.take i) ++ y :: (Y.drop (i + 1) ++ R)) ∧ midL P X M Y R (i + 1) = (P ++ Y.take i) ++ y :: ((X.drop (i + 1) ++ M ++ X.take i) ++ x :: (Y.drop (i + 1) ++ R)) := by
  obtain ⟨h1, e1⟩ := List.getElem?_eq_some_iff.1 hx
  obtain ⟨h2, e2⟩ := List.getElem?_eq_some_iff.1 hy
  constructor
  · unfold midL; rw [List.drop_eq_getElem_cons h1, List.drop_eq_getElem_cons h2, e1, e2]; simp
  · unfold midL; rw [List.take_succ_eq_append_getElem h1, List.take_succ_eq_append_getElem h2, e1, e2]; simp
theorem mid_step (P X M Y R : PL) (i a b : Nat) (x y : Int × Int) (hx : X[i]? = some x) (hy : Y[i]? = some y) (ha : a = P.length + i) (hb : b = P.length + X.length + M.length + i) :
    (midL P X M Y R i)[a]? = some x ∧ (midL P X M Y R i)[b]? = some y ∧ ((midL P X M Y R i).set a y).set b x = midL P X M Y R (i + 1) := by
  obtain ⟨e1, e2⟩ := mid_form P X M Y R i x y hx hy
  have h1 := (List.getElem?_eq_some_iff.1 hx).1
  have h2 := (List.getElem?_eq_some_iff.1 hy).1
  have l1 : (P ++ Y.take i).length = a := by simp; omega
  have l2 : (P ++ Y.take i).length + 1 + (X.drop (i + 1) ++ M ++ X.take i).length = b := by simp; omega
  refine ⟨?_, ?_, ?_⟩
  · rw [e1, ← l1, List.getElem?_append_right (Nat.le_refl _), Nat.sub_self]; rfl
  · rw [e1, ← l2, List.getElem?_append_right (by omega), show (P ++ Y.take i).length + 1 + (X.drop (i + 1) ++ M ++ X.take i).length - (P ++ Y.take i).length = (X.drop (i + 1) ++ M ++ X.take i).length + 1 from by omega, List.getElem?_cons_succ, List.getElem?_append_right (Nat.le_refl _), Nat.sub_self]; rfl
  · rw [e1, e2, ← l2, ← l1]; exact set2 _ _ _ x y
theorem mid_zero (P X M Y R : PL) : midL P X M Y R 0 = P ++ X ++ M ++ Y ++ R := by simp [midL]
theorem mid_all (P X M Y R : PL) (h : X.length = Y.length) : midL P X M Y R X.length = P ++ Y ++ M ++ X ++ R := by
  unfold midL
  rw [List.drop_length, List.take_length, List.take_of_length_le (by omega), List.drop_eq_nil_of_le (show Y.length ≤ X.length by omega)]; simp
end Go.Proofs.YtdenehnneloegaaGreatDoor
