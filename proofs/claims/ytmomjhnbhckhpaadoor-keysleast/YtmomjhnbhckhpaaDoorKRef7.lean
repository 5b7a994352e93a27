/-
  The reference: the least key of tables.
  Conditions: at most 2^30 tables, each with at most 2^40 names and rows; at most 12 names.
-/
import Derived.Deep.OwnRows
import Derived.WalkKit
import Derived.WalkMore
import Derived.IntWalk
import Derived.WalkArith
import Derived.OwnWalk
import Derived.Lib.Hide
import Derived.Test.YtmomjhnbhckhpaaDoorProg
import Derived.Test.YtmomjhnbhckhpaaDoorKRef5
import Derived.Test.YtmomjhnbhckhpaaDoorKRef6
namespace Go.Proofs.YtmomjhnbhckhpaaDoor
open Go.RowKit Go.Shelf Go.Deep
set_option linter.unusedVariables false

/-- the choices of fewer than so many -/
def preR (c : List ByteArray) (q : Nat) : List (List ByteArray) := (List.range (q - 1)).flatMap fun i => choicesL (i + 1) c
theorem preR_next (c : List ByteArray) (q : Nat) (h : 1 ≤ q) : preR c (q + 1) = preR c q ++ choicesL q c := by
  unfold preR
  have : q + 1 - 1 = (q - 1) + 1 := by omega
  rw [this, List.range_succ, List.flatMap_append]
  simp
  rw [show q - 1 + 1 = q by omega]
def firstOf (p : List ByteArray → Bool) (l : List (List ByteArray)) : List ByteArray := match l.find? p with | some c => c | none => []
def inferR (ts : List Tab) (names : List ByteArray) : List ByteArray := firstOf (usableC ts) (preR (candR ts names) 4)
theorem first_hit (p : List ByteArray → Bool) (a b c : List (List ByteArray)) (x : List ByteArray) (i : Nat) (ha : ∀ y ∈ a, p y = false) (hb : ∀ (j : Nat) y, j < i → b[j]? = some y → p y = false) (hx : b[i]? = some x) (hp : p x = true) : firstOf p (a ++ b ++ c) = x := by
  obtain ⟨hk, e⟩ := List.getElem?_eq_some_iff.1 hx
  unfold firstOf
  rw [← List.take_append_drop i b, List.drop_eq_getElem_cons hk, e, List.append_assoc, List.find?_append, List.find?_eq_none.2 (fun y hy => by rw [ha y hy]; simp), List.append_assoc, List.find?_append]
  rw [List.find?_eq_none.2 (fun y hy => by
    obtain ⟨j, hj⟩ := List.mem_iff_getElem?.1 hy
    rw [List.getElem?_take] at hj
    split at hj
    · rw [hb j y (by assumption) hj]; simp
    · cases hj)]
  simp [hp]
theorem first_none (p : List ByteArray → Bool) (a : List (List ByteArray)) (ha : ∀ y ∈ a, p y = false) : firstOf p a = [] := by
  unfold firstOf
  rw [List.find?_eq_none.2 (fun y hy => by rw [ha y hy]; simp)]
theorem preR_more (c : List ByteArray) : ∀ q, 1 ≤ q → q ≤ 3 → ∃ t, preR c 4 = preR c q ++ choicesL q c ++ t := fun q h1 h2 => by
  have : q = 1 ∨ q = 2 ∨ q = 3 := by omega
  have e : preR c 4 = choicesL 1 c ++ choicesL 2 c ++ choicesL 3 c := by
    rw [preR_next c 3 (by omega), preR_next c 2 (by omega), preR_next c 1 (by omega)]; simp [preR]
  rw [e]
  rcases this with rfl | rfl | rfl
  · exact ⟨choicesL 2 c ++ choicesL 3 c, by simp [preR]⟩
  · exact ⟨choicesL 3 c, by rw [preR_next c 1 (by omega)]; simp [preR]⟩
  · exact ⟨[], by rw [preR_next c 2 (by omega), preR_next c 1 (by omega)]; simp [preR]⟩

set_option maxRecDepth 100000 in
set_option maxHeartbeats 4000000 in
theorem rinfer_any (lo : Option Addr) (lc : Nat) (ts : List Tab) (no : Option Addr) (nc : Nat) (names : List ByteArray) (w : World) (hts : ts.length ≤ 1073741824) (hn : names.length ≤ 12)
    (hT : ∀ t ∈ ts, t.1.length ≤ 1099511627776 ∧ t.2.length ≤ 1099511627776) (hL : TabsAt w lo ts) (hR : StrRow w no names) :
    Calls Tryd.prog 17 #[.slice lo ts.length lc, .slice no names.length nc] w (NamesOut (inferR ts names) w) := by
  have CC := Lib.hid (rcands_any lo lc ts no nc names w hts (by omega) (fun t ht => (hT t ht).1) hL hR)
  have HLo := Lib.hid hL
  have hcl := candR_len ts names
  unfold inferR
  generalize candR ts names = c at CC hcl ⊢
  have CH := Lib.hid (fun (q : Nat) (bo : Option Addr) (cb : Nat) V (hq : q ≤ 3) (hb : c.length ≤ cb) (h : StrRow V bo c) => (by
    have := rchoices_any q none 0 [] bo cb c V (by simp; omega) ⟨Nat.le_refl _, fun _ => rfl⟩ (by omega) hb (.inl rfl) (fun A e => by cases e) h
    simp only [List.nil_append, List.map_id', List.length_nil] at this
    exact this : Calls Tryd.prog 43 #[.slice none 0 0, .slice bo c.length cb, .int .i64 (q : Int)] V (RowsCap (choicesL q c) V)))
  have CU := Lib.hid (fun (so : Option Addr) (sc : Nat) (x : List ByteArray) V (hx : x.length ≤ 1048576) (hc : x.length ≤ sc) (hW : Below w.heap.size w V) (h : StrRow V so x) => rusable_any lo lc ts so sc x V hts hx hc hT (hL.kept hW) h)
  have HIt := Lib.hid (fun q x i h1 h2 (ha : ∀ y ∈ preR c q, usableC ts y = false) (hb : ∀ (j : Nat) y, j < i → (choicesL q c)[j]? = some y → usableC ts y = false) (hx : (choicesL q c)[i]? = some x) (hp : usableC ts x = true) => (by
    obtain ⟨t, e⟩ := preR_more c q h1 h2
    rw [e]; exact first_hit _ _ _ t x i ha hb hx hp : firstOf (usableC ts) (preR c 4) = x))
  have HNo := Lib.hid (fun (ha : ∀ y ∈ preR c 4, usableC ts y = false) => first_none (usableC ts) (preR c 4) ha)
  have HLn := Lib.hid (fun q x (h : x ∈ choicesL q c) => (choices_len q c x h).1)
  have HFw := Lib.hid (fun q => Nat.le_trans (choices_few q c) (Nat.le_trans (Nat.pow_le_pow_right (by decide) (show c.length ≤ 12 by omega)) (by decide : 2 ^ 12 ≤ 4096)))
  generalize firstOf (usableC ts) (preR c 4) = R at HIt HNo ⊢
  clear hT hL hR
  go_enter Tryd.func17, Tryd.ntmps17
  go_wp2_with fail
  refine CC.out.mono ?_; rintro e w1 ⟨bo, cb, rfl, hst, hcb, b1⟩
  have B1 := Lib.hid b1
  have HSt := Lib.hid hst
  clear b1 hst CC
  go_wp2_with fail
  go_loopw [6] (fun i wr => ∃ q : Nat, 1 ≤ q ∧ q ≤ 4 ∧ i = .int .i64 q ∧ Hid (Below w1.heap.size w1 wr) ∧ Hid (∀ y ∈ preR c q, usableC ts y = false)) (fun i _ => 4 - (intOf i).toNat)
  case atStart => exact ⟨1, Nat.le_refl _, by omega, rfl, Lib.hid (Below.refl _ _), Lib.hid (fun y h => by simp [preR] at h)⟩
  case round =>
    obtain ⟨q, hq1, hq4, rfl, HB, HA⟩ := hrel
    by_cases hq3 : q ≤ 3
    · have C1 := Lib.hid (CH.out q bo cb wr hq3 hcb (HSt.out.kept HB.out))
      go_wp2_with fail
      refine C1.out.mono ?_; rintro e w2 ⟨so, sc, rfl, hsc, hrows, b2⟩
      have B2 := Lib.hid (below_up HB.out b2)
      have HRw := Lib.hid hrows
      have hfw := HFw.out q
      obtain ⟨M, hM⟩ : ∃ M, M = choicesL q c := ⟨_, rfl⟩
      have HM := Lib.hid hM
      rw [← hM] at HRw hfw ⊢
      clear b2 hrows C1 hM hsc
      go_wp2_with fail
      obtain ⟨wo, hwo⟩ : ∃ wo : World, wo = w2 := ⟨_, rfl⟩
      go_loopw [8] (fun i wr => ∃ j : Nat, j ≤ M.length ∧ i = .int .i64 j ∧ Hid (Below w2.heap.size w2 wr) ∧ Hid (∀ (i : Nat) y, i < j → M[i]? = some y → usableC ts y = false)) (fun i _ => M.length - (intOf i).toNat)
      case atStart => exact ⟨0, Nat.zero_le _, rfl, Lib.hid (Below.refl _ _), Lib.hid (fun i y h => by omega)⟩
      case round =>
        obtain ⟨j, hj, rfl, HB3, HA3⟩ := hrel
        have HB4 := Lib.hid (below_up B1.out (below_up B2.out HB3.out))
        by_cases hlt : j < M.length
        · obtain ⟨x, hx⟩ : ∃ x, M[j]? = some x := ⟨_, List.getElem?_eq_getElem hlt⟩
          have HX := Lib.hid hx
          have hxl : x.length ≤ 3 := by rw [HLn.out q x (by rw [← HM.out]; exact List.mem_of_getElem? hx)]; exact hq3
          rcases HRw.out with h0 | ⟨A, rfl, hA, hcell⟩
          · rw [h0] at hlt; simp at hlt
          obtain ⟨v, c1, ro, rcap, rfl, hrow, -⟩ := hcell j x hx
          have HC : Hid (∀ V, Below w2.heap.size w2 V → V.cell? (A.add j) = some (.slice ro x.length rcap.1)) := Lib.hid (fun V h => (h.cell (p := A.add j) (by rw [add_block]; exact hA)).trans c1)
          have C2 := Lib.hid (CU.out ro rcap.1 x wr (by omega) rcap.2.1 HB4.out (hrow.kept HB3.out))
          have HRx := Lib.hid hrow
          have hrc := rcap.2.1
          have c2 := HC.out wr HB3.out
          clear hcell c1 hrow hx
          generalize rcap.1 = rcc at HC C2 hrc c2
          cases hu : usableC ts x with
          | true =>
            rw [hu] at C2
            have E := Lib.hid (HIt.out q x j hq1 hq3 HA.out (fun i y h1 h2 => HA3.out i y h1 (by rw [HM.out]; exact h2)) (by rw [← HM.out]; exact HX.out) hu)
            clear hu
            go_wp2_with fail
            refine C2.out.mono ?_; rintro e w5 ⟨rfl, b5⟩
            have B5 := Lib.hid (below_up HB3.out b5)
            have HE : Hid (NamesOut R w (.returned (.slice ro x.length rcc)) w5) := Lib.hid ⟨ro, rcc, by rw [E.out], by rw [E.out]; exact HRx.out.kept B5.out, by rw [E.out]; exact hrc, below_up HB4.out b5⟩
            clear b5 c2
            have c2 := HC.out w5 B5.out
            go_wp2_with fail
            go_ret
            exact HE.out
          | false =>
            rw [hu] at C2
            have HA' : Hid (∀ (i : Nat) y, i < j + 1 → M[i]? = some y → usableC ts y = false) := Lib.hid (fun i y hi hy => by
              by_cases e : i = j
              · subst e; rw [HX.out] at hy; cases hy; exact hu
              · exact HA3.out i y (by omega) hy)
            clear hu
            go_wp2_with fail
            refine C2.out.mono ?_; rintro e w5 ⟨rfl, b5⟩
            have B5 := Lib.hid (below_up HB3.out b5)
            clear b5
            go_wp2_with fail
            go_roundw
            case rel => exact ⟨j + 1, by omega, by go_num, B5, HA'⟩
            case measure => simp [intOf]; omega
        · obtain rfl : j = M.length := by omega
          have HA' : Hid (∀ y ∈ preR c (q + 1), usableC ts y = false) := Lib.hid (fun y hy => by
            rw [preR_next c q hq1, List.mem_append] at hy
            rcases hy with hy | hy
            · exact HA.out y hy
            · rw [← HM.out] at hy
              obtain ⟨i, hi⟩ := List.mem_iff_getElem?.1 hy
              exact HA3.out i y (List.getElem?_eq_some_iff.1 hi).1 hi)
          have HB5 := Lib.hid (below_up B2.out HB3.out)
          go_wp2_with fail
          go_roundw
          case rel => exact ⟨q + 1, by omega, by omega, by go_num, HB5, HA'⟩
          case measure => simp [intOf]; omega
    · obtain rfl : q = 4 := by omega
      have E := Lib.hid (HNo.out HA.out)
      have HE : Hid (NamesOut R w (.returned (.slice none 0 0)) wr) := Lib.hid ⟨none, 0, by rw [E.out]; rfl, by rw [E.out]; exact .inl rfl, by rw [E.out]; exact Nat.le_refl _, below_up B1.out HB.out⟩
      go_wp2_with fail
      go_ret
      exact HE.out
end Go.Proofs.YtmomjhnbhckhpaaDoor
