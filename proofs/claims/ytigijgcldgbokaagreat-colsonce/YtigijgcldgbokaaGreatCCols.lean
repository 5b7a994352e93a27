/-
  The cells of some columns, as the program tells them.
  Conditions: at most 2^30 columns; a small table.
-/
import Derived.Deep.OwnRows
import Derived.WalkKit
import Derived.WalkMore
import Derived.IntWalk
import Derived.WalkArith
import Derived.OwnWalk
import Derived.Lib.Hide
import Derived.Laws.OwnMore
import Derived.Deep.Cut
import Derived.Test.YtigijgcldgbokaaGreatProg
import Derived.Test.YtigijgcldgbokaaGreatCSpec
import Derived.Test.YtigijgcldgbokaaGreatTRec
namespace Go.Proofs.YtigijgcldgbokaaGreat
open Go.RowKit Go.Shelf
set_option linter.unusedVariables false

/-- a list of texts as a value -/
def ColV (w : World) (L : List ByteArray) (v : Value) : Prop := ∃ (po : Option Addr) (pc : Cap po L.length), v = .slice po L.length pc.1 ∧ StrRow w po L
theorem ColV.kept {w w' : World} {L : List ByteArray} {v : Value} (h : ColV w L v) (hB : Below w.heap.size w w') : ColV w' L v := by
  obtain ⟨po, pc, h1, h2⟩ := h
  exact ⟨po, pc, h1, h2.kept hB⟩
/-- values of which the first ones are there -/
def madeC (vs : List Value) (n : Nat) : List Value := vs ++ List.replicate (n - vs.length) (.slice none 0 0)
theorem madeC_next (vs : List Value) (n : Nat) (v : Value) (h : vs.length < n) : (madeC vs n).set vs.length v = madeC (vs ++ [v]) n := by
  unfold madeC
  rw [List.set_append_right _ _ (Nat.le_refl _), Nat.sub_self, List.length_append]
  obtain ⟨m, hm⟩ : ∃ m, n - vs.length = m + 1 := ⟨n - vs.length - 1, by omega⟩
  rw [hm, show n - (vs.length + [v].length) = m from by simp; omega, List.replicate_succ]
  simp
theorem madeC_zero (n : Nat) : madeC [] n = List.replicate n (.slice none 0 0) := by simp [madeC]
theorem madeC_all (vs : List Value) (n : Nat) (h : vs.length = n) : madeC vs n = vs := by simp [madeC, h]
theorem madeC_len (vs : List Value) (n : Nat) (h : vs.length ≤ n) : (madeC vs n).length = n := by simp [madeC]; omega
theorem madeC_slices (w : World) (vs : List Value) (n : Nat) (h : ∀ v ∈ vs, ∃ L, ColV w L v) : ∀ v ∈ madeC vs n, ∀ s, v ≠ .string s := by
  intro v hv s e
  unfold madeC at hv
  rcases List.mem_append.1 hv with hv | hv
  · obtain ⟨L, po, pc, h1, _⟩ := h v hv
    rw [h1] at e; cases e
  · rw [(List.mem_replicate.1 hv).2] at e; cases e
/-- where a made row of lists turns, rows of texts stay -/
theorem ColV.put {w : World} {base g n k : Nat} {T : TypeId} {xs : List Value} {u : Value} (hO : w.ownsRow base T 1 (.slice (some ⟨g, 0, none⟩) n n) n xs) (hx : ∀ v ∈ xs, ∀ s, v ≠ .string s) {L : List ByteArray} {v : Value} (h : ColV w L v) : ColV (w.setCell ⟨g, k, none⟩ u) L v := by
  obtain ⟨po, pc, h1, h2⟩ := h
  refine ⟨po, pc, h1, ?_⟩
  rcases hO.2 with ⟨h0, _⟩ | ⟨g', cap, cur, hv, _, hb, q1, q2, q3, q4⟩
  · cases h0
  · cases hv
    refine str_turn hb (fun j s hj => ?_) (by simp) (fun i hi => heap_setCell_other _ _ _ _ hi) h2
    have hj' : cur.toList[j]? = some (.string s) := by rw [Array.getElem?_toList]; exact hj
    have hl : cur.toList.length ≤ n * 1 := by simp; omega
    rw [List.take_of_length_le hl] at q4
    rw [q4] at hj'
    exact hx _ (List.mem_of_getElem? hj') s rfl

set_option maxRecDepth 100000 in
set_option maxHeartbeats 1000000 in
theorem columns_any (ho : Option Addr) (hc : Nat) (hd : List ByteArray) (ro : Option Addr) (rc : Nat) (rs : List (List ByteArray)) (co : Option Addr) (cc : Nat) (cols : List Int) (w : World) (hcl : cols.length ≤ 1073741824) (hT : TabIn w ho hc hd ro rc rs) (hI : IntsAt w co cols) :
    Calls Tryz.prog 91 #[.agg #[.slice ho hd.length hc, .slice ro rs.length rc], .slice co cols.length cc] w fun e w' => ∃ ko, e = .returned (.slice ko cols.length cols.length) ∧ RowsAt w' ko (cols.map (columnT hd rs)) ∧ (∀ A, ko = some A → w.heap.size ≤ A.block) ∧ Below w.heap.size w w' := by
  have hinfo : (Tryz.prog.info? 22).map (fun i => (i.zero, i.size, i.bytes)) = some (some (.slice none 0 0), 1, 24) := by kernel_rfl
  obtain ⟨i0, hi, hz0, hz1, hz2⟩ := info_parts2 hinfo
  have HI := Lib.hid hi
  have hm : cols.length ≤ maxLen := by unfold maxLen; omega
  obtain ⟨W, HW⟩ : ∃ W, Hid (W = w.alloc (TabO ho hd.length hc ro rs.length rc)) := ⟨_, Lib.hid rfl⟩
  have HNew := Lib.hid (World.alloc_heap_new w (TabO ho hd.length hc ro rs.length rc))
  rw [← HW.out] at HNew
  have HB0 := Lib.hid (one_below w (TabO ho hd.length hc ro rs.length rc))
  rw [← HW.out] at HB0
  have CP := Lib.hid (fun (c : Int) V (h : Below W.heap.size W V) => tcolumn_any ho hc hd ro rc rs c V (by have := hT.hl; omega) (by have := hT.rl; omega) (fun r hr => ⟨by have := hT.el r hr; omega, fun c hc => by have := hT.size c (by simp only [allT, List.mem_append, List.mem_flatten]; exact .inr ⟨r, hr, hc⟩); omega⟩) (hT.rows.kept (below_up HB0.out h)))
  have HIn := Lib.hid (hI.kept HB0.out)
  have hsz : W.heap.size = w.heap.size + 1 := by rw [HW.out]; simp
  have HSz := Lib.hid hsz
  clear hi hinfo hI hT hsz
  obtain ⟨KL, hKL⟩ : ∃ KL : Int → List ByteArray, Hid (KL = columnT hd rs) := ⟨_, Lib.hid rfl⟩
  rw [← hKL.out] at CP ⊢
  go_enter Tryz.func91, Tryz.ntmps91
  go_upto_region 1 with fail
  rw [show w.alloc (Obj.cells #[Value.slice ho hd.length hc, Value.slice ro rs.length rc] 25) = W from HW.out.symm]
  go_wp2_with (at_make; refine wpList_make_full _ rfl _ _ 23 rfl W.heap.size 22 i0 (.slice none 0 0) 1 Tryz.underlying23 HI.out hz0 hz1 .i64 .i64 (cols.length : Int) (cols.length : Int) cols.length rfl rfl rfl rfl (by rw [hz2]; omega) hm (Nat.le_refl _) ?_; intro w2 hown hgrow)
  have HB2 : Hid (Below W.heap.size W w2) := Lib.hid ((Below.refl _ W).grown hgrow (Nat.le_refl _) (fun k h => by cases h))
  have HO : Hid (w2.ownsRow W.heap.size 22 1 (.slice (some ⟨W.heap.size, 0, none⟩) cols.length cols.length) cols.length (madeC [] cols.length)) := Lib.hid (by
    rw [madeC_zero]; rw [Nat.mul_one] at hown; rw [← toList_madeCells_one]; exact hown)
  obtain ⟨g, hg⟩ : ∃ g, g = W.heap.size := ⟨_, rfl⟩
  rw [← hg] at HO ⊢
  have HG := Lib.hid hg
  clear hown hgrow hg
  go_wp2_with fail
  go_loopw [13] (fun i wr => ∃ (k : Nat) (vs : List Value), k ≤ cols.length ∧ i = .int .i64 k ∧ Hid (vs.length = k) ∧ Hid (Below W.heap.size W wr) ∧ Hid (wr.ownsRow g 22 1 (.slice (some ⟨g, 0, none⟩) cols.length cols.length) cols.length (madeC vs cols.length)) ∧ Hid (∀ (i : Nat) v c, vs[i]? = some v → cols[i]? = some c → ColV wr (KL c) v)) (fun i _ => cols.length - (intOf i).toNat)
  case atStart => exact ⟨0, [], Nat.zero_le _, rfl, Lib.hid rfl, HB2, HO, Lib.hid (fun i v c h => by simp at h)⟩
  case round =>
    obtain ⟨k, vs, hk, rfl, HVl, HB, HO, HP⟩ := hrel
    by_cases hlt : k < cols.length
    · obtain ⟨c, hcc⟩ : ∃ c, cols[k]? = some c := ⟨_, List.getElem?_eq_getElem hlt⟩
      have C1 := Lib.hid (CP.out c wr HB.out)
      rcases (HIn.out.kept HB.out) with h0 | ⟨A, rfl, hA, hcell⟩
      · rw [h0] at hlt; simp at hlt
      have ci := hcell k c hcc
      have HCc := Lib.hid hcc
      obtain ⟨c0, c1⟩ := tabs ((HB.out.block _ (lt_of_heap HNew.out)).trans HNew.out)
      clear hcc hcell
      go_wp2_with fail
      refine C1.out.mono ?_; rintro e w3 ⟨po, rfl, hpa, b3⟩
      have hpc : (KL c).length ≤ (KL c).length ∧ (po = none → (KL c).length = 0) := ⟨Nat.le_refl _, fun e => by
        rcases hpa with h | ⟨A, h, _⟩
        · rw [h]; rfl
        · rw [e] at h; cases h⟩
      have HV : Hid (ColV w3 (KL c) (.slice po (KL c).length (KL c).length)) := Lib.hid ⟨po, ⟨_, hpc⟩, rfl, hpa⟩
      have HB3 := Lib.hid (below_up HB.out b3)
      have HO3 := Lib.hid (ownsRow_below HO.out b3)
      have HP3 : Hid (∀ (i : Nat) v c, vs[i]? = some v → cols[i]? = some c → ColV w3 (KL c) v) := Lib.hid (fun i v c h1 h2 => (HP.out i v c h1 h2).kept b3)
      clear hpa b3 c0 c1 hpc C1 ci
      have hml : (madeC vs cols.length).length = cols.length := madeC_len vs _ (by rw [HVl.out]; omega)
      have hno : ∀ v ∈ madeC vs cols.length, ∀ s, v ≠ .string s := madeC_slices w3 vs _ (fun v hv => by
        obtain ⟨i, hi⟩ := List.mem_iff_getElem?.1 hv
        have hil := (List.getElem?_eq_some_iff.1 hi).1
        rw [HVl.out] at hil
        obtain ⟨c', hc'⟩ : ∃ c', cols[i]? = some c' := ⟨_, List.getElem?_eq_getElem (by omega)⟩
        exact ⟨_, HP3.out i v c' hi hc'⟩)
      have hcell : w3.cell? ⟨g, k, none⟩ = some ((madeC vs cols.length)[k]'(by omega)) := by
        rw [HO3.out.cellAt k (by omega), List.getElem?_eq_getElem]
      have hfr : w3.frozen? ⟨g, k, none⟩ = false := HO3.out.frozenAt k
      generalize (madeC vs cols.length)[k]'(by omega) = old at hcell
      obtain ⟨v, hv⟩ : ∃ v, v = Value.slice po (KL c).length (KL c).length := ⟨_, rfl⟩
      have HO4 := Lib.hid (HO3.out.stored k v).1
      rw [show (madeC vs cols.length).set k v = madeC (vs ++ [v]) cols.length from by have := madeC_next vs cols.length v (by rw [HVl.out]; omega); rwa [HVl.out] at this] at HO4
      have HB4 := Lib.hid (HB3.out.setCell (p := ⟨g, k, none⟩) (by rw [HG.out]; exact Nat.le_refl _) v)
      have HP4 : Hid (∀ (i : Nat) u c, (vs ++ [v])[i]? = some u → cols[i]? = some c → ColV (w3.setCell ⟨g, k, none⟩ v) (KL c) u) := Lib.hid (fun i u c' h1 h2 => by
        rw [List.getElem?_append] at h1
        split at h1
        · exact (HP3.out i u c' h1 h2).put HO3.out hno
        · rename_i hge
          have hle : i < (vs ++ [v]).length := by
            have := (List.getElem?_eq_some_iff.1 h1).1
            simp at this ⊢; omega
          have hik : i = k := by rw [HVl.out] at hge; simp at hle; rw [HVl.out] at hle; omega
          subst hik
          rw [HVl.out, Nat.sub_self] at h1
          simp at h1; subst h1
          rw [HCc.out] at h2; cases h2
          rw [← hv] at HV
          exact HV.out.put HO3.out hno)
      have HVl4 : Hid ((vs ++ [v]).length = k + 1) := Lib.hid (by simp [HVl.out])
      subst hv
      clear hml HP HP3 HO HO3 HB HB3 HVl hno
      go_wp2_with fail
      go_roundw
      case rel => exact ⟨k + 1, _, by omega, by go_num, HVl4, HB4, HO4, HP4⟩
      case measure => simp [intOf]; omega
    · obtain rfl : k = cols.length := by omega
      have HE : Hid (RowsAt wr (some ⟨g, 0, none⟩) (cols.map KL)) := Lib.hid (by
        refine .inr ⟨⟨g, 0, none⟩, rfl, (HO.out.lt g rfl).2, fun i L hL => ?_⟩
        have hi : i < cols.length := by have := (List.getElem?_eq_some_iff.1 hL).1; simpa using this
        rw [List.getElem?_map] at hL
        obtain ⟨c, hc, rfl⟩ := Option.map_eq_some_iff.1 hL
        obtain ⟨v, hv⟩ : ∃ v, vs[i]? = some v := ⟨_, List.getElem?_eq_getElem (by rw [HVl.out]; exact hi)⟩
        obtain ⟨po, pc, rfl, h2⟩ := HP.out i v c hv hc
        refine ⟨po, pc, ?_, h2⟩
        have e : (⟨g, 0, none⟩ : Addr).add i = ⟨g, i, none⟩ := by unfold Addr.add; split <;> simp_all
        rw [e, HO.out.cellAt i (by rw [Nat.mul_one]; exact hi), madeC_all vs _ HVl.out]; exact hv)
      clear HO HP
      go_wp2_with fail
      go_ret
      exact ⟨_, rfl, HE.out, fun A e => by cases e; rw [HG.out, HSz.out]; exact Nat.le_succ _, below_up HB0.out HB.out⟩
end Go.Proofs.YtigijgcldgbokaaGreat
