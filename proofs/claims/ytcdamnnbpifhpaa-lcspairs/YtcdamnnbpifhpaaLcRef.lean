/-
  The document's reference for the longest common row: its rows, and how long it is.
  Conditions: lists of at most 4096 Go strings.
-/
import Derived.Deep.OwnRows
import Derived.WalkKit
import Derived.WalkMore
import Derived.IntWalk
import Derived.WalkArith
import Derived.Lib.Hide
import Derived.Deep.Cut
import Derived.Deep.RegionWith
import Derived.BigQuiet
import Derived.RegionTactic
import Derived.Deep.QuietTactic
import Derived.Test.YtcdamnnbpifhpaaProg
import Derived.Test.YtcdamnnbpifhpaaLcFirst
import Derived.Test.YtcdamnnbpifhpaaLcNum2
namespace Go.Proofs.Ytcdamnnbpifhpaa
open Go.RowKit Go.Shelf
set_option linter.unusedVariables false

/-- a row of texts that is filled from place j on -/
def fillT (X bs : List Txt) (j : Nat) : Nat → Value := fun t => .int .i64 (if t < j then 0 else ((lcsN X (bs.drop t) : Nat) : Int))
theorem fillT_start (X bs : List Txt) (t : Nat) (h : t < bs.length + 1) : Value.int .i64 0 = fillT X bs bs.length t := by
  unfold fillT
  split
  · rfl
  · rw [List.drop_eq_nil_of_le (by omega), lcs_nil2]; rfl
theorem fillT_next (X bs : List Txt) (j t : Nat) (v : Int) (hv : v = ((lcsN X (bs.drop j) : Nat) : Int)) : (if t = j then Value.int .i64 v else fillT X bs (j + 1) t) = fillT X bs j t := by
  unfold fillT
  by_cases h : t = j
  · subst h; simp [hv]
  · rw [if_neg h]
    by_cases h2 : t < j
    · rw [if_pos h2, if_pos (by omega)]
    · rw [if_neg h2, if_neg (by omega)]
theorem str_eqv (x y : ByteArray) : (x.toList == y.toList) = decide (x.data.toList = y.data.toList) := by
  have e : ∀ z : ByteArray, z.toList = z.data.toList := fun z => by
    exact ba_toList z
  rw [e, e]
  by_cases h : x.data.toList = y.data.toList
  · rw [h]; simp
  · rw [decide_eq_false h, beq_eq_false_iff_ne]; exact h
theorem str_atR {w : World} {ao : Option Addr} {xs : List ByteArray} (h : StrRow w ao xs) (i : Nat) (c : ByteArray) (hc : xs[i]? = some c) : ∃ A, ao = some A ∧ w.cell? (A.add i) = some (.string c) := by
  rcases h with h | ⟨A, h1, _, h3⟩
  · subst h; simp at hc
  · exact ⟨A, h1, h3 i c hc⟩
/-- a row that comes back -/
def RowOut (l : List Int) (w : World) (e : Ending) (w' : World) : Prop := ∃ g, e = .returned (.slice (some ⟨g, 0, none⟩) l.length l.length) ∧ w.heap.size ≤ g ∧ NumsAt w' (some ⟨g, 0, none⟩) l ∧ Below w.heap.size w w'

set_option maxRecDepth 100000 in
set_option maxHeartbeats 2000000 in
theorem rlrow_any (s : ByteArray) (bo lo : Option Addr) (bc lc : Nat) (ys : List ByteArray) (rest : List Txt) (w : World) (hm : ys.length ≤ 4096) (hS : StrRow w bo ys) (hL : NumsAt w lo (rowOf rest (bytesOf ys))) :
    Calls Try.prog 23 #[.string s, .slice bo ys.length bc, .slice lo (ys.length + 1) lc] w (RowOut (rowOf (s.data.toList :: rest) (bytesOf ys)) w) := by
  have hmk2 := make_nums ys.length hm
  have HS := Lib.hid hS
  have hwb : IntKind.i64.wrap ((ys.length : Int) - 1) = (ys.length : Int) - 1 := IntWalk.i64_in _ (by omega)
  obtain ⟨bs, hbs⟩ : ∃ bs, bs = bytesOf ys := ⟨_, rfl⟩
  have hbl : bs.length = ys.length := by rw [hbs, bytes_len]
  have HAt : Hid (∀ (k : Nat) x, ys[k]? = some x → bs[k]? = some x.data.toList) := Lib.hid (fun k x h => by rw [hbs]; exact bytes_at ys k x h)
  rw [← hbs] at hL ⊢
  obtain ⟨X, hX⟩ : ∃ X, X = s.data.toList := ⟨_, rfl⟩
  rw [← hX]
  have HX := Lib.hid hX
  have hlrow : (rowOf rest bs).length = ys.length + 1 := by rw [rowOf_len, hbl]
  rcases hL with h0 | ⟨lb, l0, rfl, hlt0, hcell⟩
  · rw [h0] at hlrow; simp at hlrow
  have hlb := hlt0.lt
  have HC : Hid (∀ j, j ≤ ys.length → w.cell? ⟨lb, l0 + j, none⟩ = some (.int .i64 (lcsN rest (bs.drop j)))) := Lib.hid (fun j hj => hcell j _ (rowOf_at _ _ j (by omega)))
  have HLE : Hid (RowOut (rowOf (X :: rest) bs) w = fun e w' => RowOut (rowOf (X :: rest) bs) w e w') := Lib.hid rfl
  have HBL := Lib.hid hbl
  obtain ⟨g, hg⟩ : ∃ g, g = w.heap.size := ⟨_, rfl⟩
  obtain ⟨U, HU⟩ : ∃ U, Hid (U = w.alloc (.cells (madeCells #[.int .i64 0] (ys.length + 1)) 3)) := ⟨_, Lib.hid rfl⟩
  have HBU : Hid (Below w.heap.size w U) := Lib.hid (by rw [HU.out]; exact (Below.refl _ w).alloc (Nat.le_refl _) _)
  have HRU : Hid (U.rowIs g 3 (ys.length + 1) (fillT (X :: rest) bs ys.length)) := Lib.hid (by rw [HU.out, hg]; exact (World.rowIs_made w _ _ _).congr (fun i hi => by rw [← hbl]; exact fillT_start _ _ i (by omega)))
  clear hS hcell hX hbs hlrow hlt0 hbl
  go_enter Try.func23, Try.ntmps23
  go_upto_region 2 with fail
  rw [← HU.out, ← hg]
  have HG := Lib.hid hg
  clear HU hmk2 hg
  go_wp2_with fail
  clear hwb
  go_loopw [8] (fun i wr => ∃ (j : Nat), j ≤ ys.length ∧ i = .int .i64 ((j : Int) - 1) ∧ Hid (Below w.heap.size w wr) ∧ Hid (wr.rowIs g 3 (ys.length + 1) (fillT (X :: rest) bs j))) (fun i _ => ((intOf i) + 1).toNat)
  case atStart => exact ⟨ys.length, Nat.le_refl _, rfl, HBU, HRU⟩
  case round =>
    obtain ⟨j, hj, rfl, HBi, HRi⟩ := hrel
    clear HBU HRU
    by_cases h0 : j = 0
    · subst h0
      have HE : Hid (RowOut (rowOf (X :: rest) bs) w (.returned (.slice (some ⟨g, 0, none⟩) (ys.length + 1) (ys.length + 1))) wr) := Lib.hid (by
        refine ⟨g, by rw [rowOf_len, HBL.out], by rw [HG.out]; exact Nat.le_refl _, ?_, HBi.out⟩
        refine rowIs_nums HRi.out (by rw [rowOf_len, HBL.out]) (fun i p hp => ?_)
        have hi := (List.getElem?_eq_some_iff.1 hp).1
        rw [rowOf_len] at hi
        rw [rowOf_at _ _ _ (by omega)] at hp; cases hp
        simp [fillT])
      go_wp2_with fail
      go_ret
      exact HE.out
    · obtain ⟨q, hq⟩ : ∃ q, j = q + 1 := ⟨j - 1, by omega⟩
      have hsub : (j : Int) - 1 = (q : Int) := by omega
      rw [hsub]
      have hql : q < ys.length := by omega
      obtain ⟨y, hy⟩ : ∃ y, ys[q]? = some y := ⟨_, List.getElem?_eq_getElem hql⟩
      have HYb := Lib.hid (HAt.out q y hy)
      obtain ⟨A, rfl, a1⟩ := str_atR (HS.out.kept HBi.out) q _ hy
      have HA : Hid (∀ V, Below wr.heap.size wr V → V.cell? (A.add q) = some (.string y)) := Lib.hid (fun V hV => by
        obtain ⟨A', e, a2⟩ := str_atR (HS.out.kept (below_up HBi.out hV)) q _ hy
        cases e; exact a2)
      have k3 := (HBi.out.cell (p := ⟨lb, l0 + (q + 1), none⟩) hlb).trans (HC.out (q + 1) (by omega))
      have k4 := (HBi.out.cell (p := ⟨lb, l0 + q, none⟩) hlb).trans (HC.out q (by omega))
      have k5 := HRi.out.cell (show q + 1 < ys.length + 1 by omega)
      have k6 := HRi.out.cell (show q < ys.length + 1 by omega)
      have k7 := HRi.out.frozen q
      have e5 : fillT (X :: rest) bs j (q + 1) = .int .i64 ((lcsN (X :: rest) (bs.drop (q + 1)) : Nat) : Int) := by simp [fillT, hq]
      rw [e5] at k5
      obtain ⟨z6, hz6⟩ : ∃ z, z = fillT (X :: rest) bs j q := ⟨_, rfl⟩
      rw [← hz6] at k6
      have HH := Lib.hid (fun h : X = y.data.toList => lcs_hit X rest bs q (by rw [h]; exact HYb.out))
      have HM := Lib.hid (fun h : X ≠ y.data.toList => lcs_miss X y.data.toList rest bs q HYb.out h)
      have l3 := (lcs_le rest (bs.drop (q + 1))).2
      have l4 := (lcs_le rest (bs.drop q)).2
      have l5 := (lcs_le (X :: rest) (bs.drop (q + 1))).2
      rw [List.length_drop, HBL.out] at l3 l4 l5
      obtain ⟨n3, hn3⟩ : ∃ n, n = lcsN rest (bs.drop (q + 1)) := ⟨_, rfl⟩
      obtain ⟨n4, hn4⟩ : ∃ n, n = lcsN rest (bs.drop q) := ⟨_, rfl⟩
      obtain ⟨n5, hn5⟩ : ∃ n, n = lcsN (X :: rest) (bs.drop (q + 1)) := ⟨_, rfl⟩
      rw [← hn3] at k3 l3 HH
      rw [← hn4] at k4 l4 HM
      rw [← hn5] at k5 l5 HM
      have hwq : IntKind.i64.wrap ((q : Int) - 1) = (q : Int) - 1 := IntWalk.i64_in _ (by omega)
      have hne : lb ≠ g := by have := HG.out; omega
      have HBo : Hid (Below w.heap.size w wr) := HBi
      have HY := Lib.hid hy
      have HQ := Lib.hid hq
      have HN3 := Lib.hid hn3.symm
      clear hy e5 hz6 hn3 hn4 hn5 h0 hq
      obtain ⟨mx, hmx⟩ : ∃ mx : Int, mx = (if n4 < n5 then (n5 : Int) else (n4 : Int)) := ⟨_, rfl⟩
      obtain ⟨V1, HV1⟩ : ∃ V1, Hid (V1 = (wr.setCell ⟨g, q, none⟩ (.int .i64 mx)).drew) := ⟨_, Lib.hid rfl⟩
      have HR1 : Hid (V1.rowIs g 3 (ys.length + 1) (fun t => if t = q then .int .i64 mx else fillT (X :: rest) bs j t)) := Lib.hid (by rw [HV1.out]; exact (HRi.out.set q _).drew)
      have HB1 : Hid (Below w.heap.size w V1) := Lib.hid (by rw [HV1.out]; exact bdn (n := 1) (HBi.out.setCell (p := ⟨g, q, none⟩) (by rw [← HG.out]; exact Nat.le_refl _) _))
      have HMX := Lib.hid hmx
      go_upto_region 5 with fail
      go_region
      rw [← hmx, ← HV1.out]
      have HA1 : Hid (V1.cell? (A.add q) = some (.string y)) := Lib.hid (by
        obtain ⟨A', e, a2⟩ := str_atR (HS.out.kept HB1.out) q _ HY.out
        cases e; exact a2)
      have a1 := HA1.out
      have hbe := str_eqv s y
      clear k3 k4 k5 k6 k7 HV1 hmx
      by_cases hxy : X = y.data.toList
      · have hxy' : s.data.toList = y.data.toList := by rw [← HX.out]; exact hxy
        rw [decide_eq_true hxy'] at hbe
        have k3 := (HB1.out.cell (p := ⟨lb, l0 + (q + 1), none⟩) hlb).trans (HC.out (q + 1) (by omega))
        rw [HN3.out] at k3
        have k6 := HR1.out.cell (show q < ys.length + 1 by omega)
        rw [if_pos rfl] at k6
        have k7 := HR1.out.frozen q
        have HV3 : Hid (((n3 : Int) + 1) = ((lcsN (X :: rest) (bs.drop q) : Nat) : Int)) := Lib.hid (by rw [HH.out hxy]; rfl)
        obtain ⟨V2, HV2⟩ : ∃ V2, Hid (V2 = V1.setCell ⟨g, q, none⟩ (.int .i64 ((n3 : Int) + 1))) := ⟨_, Lib.hid rfl⟩
        have HB2 : Hid (Below w.heap.size w V2) := Lib.hid (by rw [HV2.out]; exact HB1.out.setCell (p := ⟨g, q, none⟩) (by rw [← HG.out]; exact Nat.le_refl _) _)
        have HR2 : Hid (V2.rowIs g 3 (ys.length + 1) (fillT (X :: rest) bs q)) := Lib.hid (by
          rw [HV2.out]
          refine (HR1.out.set q (.int .i64 ((n3 : Int) + 1))).congr (fun i hi => ?_)
          rw [← fillT_next (X :: rest) bs q i _ HV3.out, ← HQ.out]
          by_cases e : i = q
          · rw [if_pos e, if_pos e]
          · rw [if_neg e, if_neg e, if_neg e])
        clear hxy hxy'
        go_upto_region 8 with fail
        rw [← HV2.out]
        clear k3 k6 k7 HV2
        go_wp2_with fail
        go_roundw
        case rel => exact ⟨q, by omega, rfl, HB2, HR2⟩
        case measure => first | (simp [intOf]; done) | (simp [intOf]; omega)
      · have hxy' : ¬ s.data.toList = y.data.toList := by rw [← HX.out]; exact hxy
        rw [decide_eq_false hxy'] at hbe
        have HV3 : Hid (mx = ((lcsN (X :: rest) (bs.drop q) : Nat) : Int)) := Lib.hid (by rw [HMX.out, HM.out hxy]; split <;> omega)
        have HR2 : Hid (V1.rowIs g 3 (ys.length + 1) (fillT (X :: rest) bs q)) := Lib.hid (HR1.out.congr (fun i hi => by
          rw [← fillT_next (X :: rest) bs q i _ HV3.out, ← HQ.out]))
        clear hxy hxy'
        go_wp2_with fail
        go_roundw
        case rel => exact ⟨q, by omega, rfl, HB1, HR2⟩
        case measure => first | (simp [intOf]; done) | (simp [intOf]; omega)
end Go.Proofs.Ytcdamnnbpifhpaa
