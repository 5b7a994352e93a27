/-
  The keys of all rows, each as its parts, as the program makes them.
  Conditions: at most 2^30 rows, each of at most 2^40 cells of at most 2^48 bytes; at most 2^30 columns that Go integers hold.
-/
import Derived.Maps.Own
import Derived.Maps.OwnOps
import Derived.WalkKit
import Derived.WalkMore
import Derived.IntWalk
import Derived.WalkArith
import Derived.OwnWalk
import Derived.Lib.Hide
import Derived.Laws.OwnMore
import Derived.Deep.Cut
import Derived.Test.YtmomjhnbhckhpaaDoorProg
import Derived.Test.YtmomjhnbhckhpaaDoorIParts2
import Derived.Test.YtmomjhnbhckhpaaDoorIZ
namespace Go.Proofs.YtmomjhnbhckhpaaDoor
open Go.RowKit Go.Shelf Go.Maps
set_option linter.unusedVariables false

theorem parts_few (rs : List (List ByteArray)) (cols : List Int) (row : Int) : (partsL rs cols row).length ≤ cols.length := by
  rw [parts_spots, List.length_map]
  unfold spotsL
  exact Nat.le_trans (List.length_filter_le _ _) (by simp)
/-- the keys of all rows, as parts -/
def keysL (rs : List (List ByteArray)) (cols : List Int) : List (List Part) := (List.range rs.length).map fun (i : Nat) => partsL rs cols (i : Int)
theorem keysL_len (rs : List (List ByteArray)) (cols : List Int) : (keysL rs cols).length = rs.length := by simp [keysL]
theorem keysL_at (rs : List (List ByteArray)) (cols : List Int) (i : Nat) (h : i < rs.length) : (keysL rs cols)[i]? = some (partsL rs cols (i : Int)) := by simp [keysL, h]
def KeysAt (w : World) (ko : Option Addr) (Ls : List (List Part)) : Prop := Ls = [] ∨ ∃ A, ko = some A ∧ A.block < w.heap.size ∧ ∀ (i : Nat) L, Ls[i]? = some L → ∃ po pc, w.cell? (A.add i) = some (.slice po L.length pc) ∧ PartsAt w po L
theorem KeysAt.kept {w w' : World} {ko : Option Addr} {Ls : List (List Part)} (h : KeysAt w ko Ls) (hB : Below w.heap.size w w') : KeysAt w' ko Ls := by
  rcases h with h | ⟨A, h1, h2, h3⟩
  · exact .inl h
  · refine .inr ⟨A, h1, Nat.lt_of_lt_of_le h2 hB.size, fun i L hL => ?_⟩
    obtain ⟨po, pc, h4, h5⟩ := h3 i L hL
    exact ⟨po, pc, (hB.cell (p := A.add i) (by rw [add_block]; exact h2)).trans h4, h5.kept hB⟩
/-- a list of parts as a value, behind block g -/
def PartV (w : World) (g : Nat) (L : List Part) (v : Value) : Prop := ∃ po pc, v = .slice po L.length pc ∧ PartsAt w po L ∧ ∀ A, po = some A → g < A.block
theorem PartV.kept {w w' : World} {g : Nat} {L : List Part} {v : Value} (h : PartV w g L v) (hB : Below w.heap.size w w') : PartV w' g L v := by
  obtain ⟨po, pc, h1, h2, h3⟩ := h
  exact ⟨po, pc, h1, h2.kept hB, h3⟩
theorem PartV.put {w : World} {g : Nat} {L : List Part} {v : Value} (h : PartV w g L v) (k : Nat) (u : Value) : PartV (w.setCell ⟨g, k, none⟩ u) g L v := by
  obtain ⟨po, pc, h1, h2, h3⟩ := h
  refine ⟨po, pc, h1, ?_, h3⟩
  rcases h2 with h2 | ⟨b, o, h4, h5, h6⟩
  · exact .inl h2
  · have hne : g < b := h3 _ h4
    have key : ∀ j, (w.setCell ⟨g, k, none⟩ u).cell? ⟨b, j, none⟩ = w.cell? ⟨b, j, none⟩ := fun j => World.cell?_of_block (a := ⟨b, j, none⟩) (heap_setCell_other w ⟨g, k, none⟩ b u (by show b ≠ g; omega))
    refine .inr ⟨b, o, h4, by simpa using h5, fun i p hp => ?_⟩
    rw [key, key]; exact h6 i p hp
/-- values of which the first k are there -/
def madeV (vs : List Value) (n : Nat) : List Value := vs ++ List.replicate (n - vs.length) (.slice none 0 0)
theorem madeV_next (vs : List Value) (n : Nat) (v : Value) (h : vs.length < n) : (madeV vs n).set vs.length v = madeV (vs ++ [v]) n := by
  unfold madeV
  rw [List.set_append_right _ _ (Nat.le_refl _), Nat.sub_self, List.length_append]
  obtain ⟨m, hm⟩ : ∃ m, n - vs.length = m + 1 := ⟨n - vs.length - 1, by omega⟩
  rw [hm, show n - (vs.length + [v].length) = m from by simp; omega, List.replicate_succ]
  simp
theorem madeV_zero (n : Nat) : madeV [] n = List.replicate n (.slice none 0 0) := by simp [madeV]
theorem madeV_all (vs : List Value) (n : Nat) (h : vs.length = n) : madeV vs n = vs := by simp [madeV, h]
theorem madeV_len (vs : List Value) (n : Nat) (h : vs.length ≤ n) : (madeV vs n).length = n := by simp [madeV]; omega

set_option maxRecDepth 100000 in
set_option maxHeartbeats 1000000 in
theorem keysOf_any (ho : Option Addr) (m hc : Nat) (ro : Option Addr) (rc : Nat) (rs : List (List ByteArray)) (co : Option Addr) (cc : Nat) (cols : List Int) (w : World) (hcl : cols.length ≤ 1073741824) (hn : rs.length ≤ 1073741824)
    (hx : ∀ r ∈ rs, r.length ≤ 1099511627776 ∧ ∀ c ∈ r, c.size ≤ 281474976710656) (hwf : ∀ c ∈ cols, (Lit.int .i64 c).wf = true) (hR : RowsAt w ro rs) (hI : IntsAt w co cols) :
    Calls Tryd.prog 25 #[.agg #[.slice ho m hc, .slice ro rs.length rc], .slice co cols.length cc] w fun e w' => ∃ ko, e = .returned (.slice ko rs.length rs.length) ∧ KeysAt w' ko (keysL rs cols) ∧ Below w.heap.size w w' := by
  have hinfo : (Tryd.prog.info? 49).map (fun i => (i.zero, i.size, i.bytes)) = some (some (.slice none 0 0), 1, 24) := by kernel_rfl
  obtain ⟨i0, hi, hz0, hz1, hz2⟩ := info_parts2 hinfo
  have HI := Lib.hid hi
  have hm : rs.length ≤ maxLen := by unfold maxLen; omega
  have HNew := Lib.hid (World.alloc_heap_new w (TabO ho m hc ro rs.length rc))
  have HB0 := Lib.hid (one_below w (TabO ho m hc ro rs.length rc))
  have CF := Lib.hid (firstsC_any co cc cols (w.alloc (TabO ho m hc ro rs.length rc)) hcl hwf (hI.kept HB0.out))
  have CP := Lib.hid (fun (row : Nat) (r : List ByteArray) (hr : rs[row]? = some r) (B n : Nat) (D : DataW Unit) V (h : Below w.heap.size w V) h1 h2 => partsOf_any ho m hc ro rc rs row r hr B n D cols V hcl (by omega) hx (hR.kept h) h1 h2)
  have HKl := Lib.hid (keysL_at rs cols)
  have HKn := Lib.hid (keysL_len rs cols)
  clear hi hinfo hR hI hx hwf
  generalize keysL rs cols = Ls at HKl HKn ⊢
  go_enter Tryd.func25, Tryd.ntmps25
  go_wp2_with fail
  refine CF.out.mono ?_
  rintro e w1 ⟨B, D, rfl, hB0, hM, hD, b1⟩
  have B1 := Lib.hid (below_up HB0.out b1)
  have HM := Lib.hid hM
  have HD := Lib.hid hD
  obtain ⟨c0, c1⟩ := tabs ((b1.block _ (by simp)).trans HNew.out)
  have HX1 := Lib.hid ((b1.block _ (by simp)).trans HNew.out)
  clear b1 hM hD hB0 CF HNew HB0
  go_wp2_with (at_make; refine wpList_make_full _ rfl _ _ 43 rfl w1.heap.size 49 i0 (.slice none 0 0) 1 Tryd.underlying43 HI.out hz0 hz1 .i64 .i64 (rs.length : Int) (rs.length : Int) rs.length rfl rfl rfl rfl (by rw [hz2]; omega) hm (Nat.le_refl _) ?_; intro w2 hown hgrow)
  have HB2 : Hid (Below w1.heap.size w1 w2) := Lib.hid ((Below.refl _ w1).grown hgrow (Nat.le_refl _) (fun k h => by cases h))
  have HO : Hid (w2.ownsRow w1.heap.size 49 1 (.slice (some ⟨w1.heap.size, 0, none⟩) rs.length rs.length) rs.length (madeV [] rs.length)) := Lib.hid (by
    rw [madeV_zero]; rw [Nat.mul_one] at hown; rw [← toList_madeCells_one]; exact hown)
  have HM2 := Lib.hid (ownsMap_below HM.out HB2.out)
  have HBl := Lib.hid HM.out.lt
  obtain ⟨g, hg⟩ : ∃ g, g = w1.heap.size := ⟨_, rfl⟩
  rw [← hg] at HO HBl ⊢
  have HG := Lib.hid hg
  clear hown hgrow c0 c1 hg
  go_wp2_with fail
  go_loopw [16] (fun i wr => ∃ (k : Nat) (vs : List Value), k ≤ rs.length ∧ i = .int .i64 k ∧ Hid (vs.length = k) ∧ Hid (Below w1.heap.size w1 wr) ∧ Hid (wr.ownsRow g 49 1 (.slice (some ⟨g, 0, none⟩) rs.length rs.length) rs.length (madeV vs rs.length)) ∧ Hid (∀ (i : Nat) v L, vs[i]? = some v → Ls[i]? = some L → PartV wr g L v) ∧ Hid (wr.ownsMap Tryd.prog 3 (plainElem Tryd.prog 3) B cols.length D)) (fun i _ => rs.length - (intOf i).toNat)
  case atStart => exact ⟨0, [], Nat.zero_le _, rfl, Lib.hid rfl, HB2, HO, Lib.hid (fun i v L h => by simp at h), HM2⟩
  case round =>
    obtain ⟨k, vs, hk, rfl, HVl, HB, HO, HP, HM⟩ := hrel
    by_cases hlt : k < rs.length
    · obtain ⟨r, hr⟩ : ∃ r, rs[k]? = some r := ⟨_, List.getElem?_eq_getElem hlt⟩
      have C1 := Lib.hid (CP.out k r hr B cols.length D wr (below_up B1.out HB.out) HM.out HD.out)
      have HL := Lib.hid (HKl.out k hlt)
      obtain ⟨c0, c1⟩ := tabs ((HB.out.block _ (lt_of_heap HX1.out)).trans HX1.out)
      clear hr
      generalize partsL rs cols (k : Int) = L at C1 HL
      go_wp2_with fail
      refine C1.out.mono ?_; rintro e w3 ⟨po, pc, rfl, hpa, hpb, b3⟩
      have hgs : g < wr.heap.size := (HO.out.lt g rfl).2
      have HV : Hid (PartV w3 g L (.slice po L.length pc)) := Lib.hid ⟨po, pc, rfl, hpa, fun A e => Nat.lt_of_lt_of_le hgs (hpb A e)⟩
      have HB3 := Lib.hid (below_up HB.out b3)
      have HO3 := Lib.hid (ownsRow_below HO.out b3)
      have HM3 := Lib.hid (ownsMap_below HM.out b3)
      have HP3 : Hid (∀ (i : Nat) v L, vs[i]? = some v → Ls[i]? = some L → PartV w3 g L v) := Lib.hid (fun i v L h1 h2 => (HP.out i v L h1 h2).kept b3)
      have HLl : Hid (L.length = L.length) := Lib.hid rfl
      clear hpa hpb b3 c0 c1 hgs
      have hml : (madeV vs rs.length).length = rs.length := madeV_len vs _ (by rw [HVl.out]; omega)
      have hcell : w3.cell? ⟨g, k, none⟩ = some ((madeV vs rs.length)[k]'(by omega)) := by
        rw [HO3.out.cellAt k (by omega), List.getElem?_eq_getElem]
      have hfr : w3.frozen? ⟨g, k, none⟩ = false := HO3.out.frozenAt k
      generalize (madeV vs rs.length)[k]'(by omega) = old at hcell
      obtain ⟨v, hv⟩ : ∃ v, v = Value.slice po L.length pc := ⟨_, rfl⟩
      have HO4 := Lib.hid (HO3.out.stored k v).1
      rw [show (madeV vs rs.length).set k v = madeV (vs ++ [v]) rs.length from by have := madeV_next vs rs.length v (by rw [HVl.out]; omega); rwa [HVl.out] at this] at HO4
      have HB4 := Lib.hid (HB3.out.setCell (p := ⟨g, k, none⟩) (by rw [HG.out]; exact Nat.le_refl _) v)
      have HM4 : Hid ((w3.setCell ⟨g, k, none⟩ v).ownsMap Tryd.prog 3 (plainElem Tryd.prog 3) B cols.length D) := Lib.hid (HM3.out.kept (grown_set w3 g k v) (fun e => by have := HBl.out; simp at e; omega))
      have HP4 : Hid (∀ (i : Nat) u L, (vs ++ [v])[i]? = some u → Ls[i]? = some L → PartV (w3.setCell ⟨g, k, none⟩ v) g L u) := Lib.hid (fun i u L' h1 h2 => by
        rw [List.getElem?_append] at h1
        split at h1
        · exact (HP3.out i u L' h1 h2).put k v
        · rename_i hge
          have hle : i < (vs ++ [v]).length := by
            have := (List.getElem?_eq_some_iff.1 h1).1
            simp at this ⊢; omega
          have hik : i = k := by rw [HVl.out] at hge; simp at hle; rw [HVl.out] at hle; omega
          subst hik
          rw [HVl.out, Nat.sub_self] at h1
          simp at h1; subst h1
          rw [HL.out] at h2; cases h2
          rw [← hv] at HV
          exact HV.out.put _ _)
      have HVl4 : Hid ((vs ++ [v]).length = k + 1) := Lib.hid (by simp [HVl.out])
      subst hv
      clear hml HP HP3 HO HO3 HM HM3 HB HB3 HVl
      go_wp2_with fail
      go_roundw
      case rel => exact ⟨k + 1, _, by omega, by go_num, HVl4, HB4, HO4, HP4, HM4⟩
      case measure => simp [intOf]; omega
    · obtain rfl : k = rs.length := by omega
      have HE : Hid (KeysAt wr (some ⟨g, 0, none⟩) Ls) := Lib.hid (by
        refine .inr ⟨⟨g, 0, none⟩, rfl, (HO.out.lt g rfl).2, fun i L hL => ?_⟩
        have hi : i < rs.length := by rw [← HKn.out]; exact (List.getElem?_eq_some_iff.1 hL).1
        obtain ⟨v, hv⟩ : ∃ v, vs[i]? = some v := ⟨_, List.getElem?_eq_getElem (by rw [HVl.out]; exact hi)⟩
        obtain ⟨po, pc, rfl, h2, h3⟩ := HP.out i v L hv hL
        refine ⟨po, pc, ?_, h2⟩
        have e : (⟨g, 0, none⟩ : Addr).add i = ⟨g, i, none⟩ := by unfold Addr.add; split <;> simp_all
        rw [e, HO.out.cellAt i (by rw [Nat.mul_one]; exact hi), madeV_all vs _ HVl.out]; exact hv)
      clear HO HP
      go_wp2_with fail
      go_ret
      exact ⟨_, rfl, HE.out, below_up B1.out HB.out⟩
end Go.Proofs.YtmomjhnbhckhpaaDoor
