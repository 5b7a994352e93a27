/-
  The pairs of the choices that are taken, in order of their Bs; whether one choice is better: the program's answers.
  Conditions: lists of at most 2^30 choices of Go integers.
-/
import Derived.WalkKit
import Derived.WalkMore
import Derived.OwnWalk
import Derived.Lib.Hide
import Derived.Maps.OwnSet
import Derived.Deep.Cut
import Derived.Deep.Onto
import Derived.Test.YtigijgcldgbokaaGreatProg
import Derived.Test.YtigijgcldgbokaaGreatGKeys
namespace Go.Proofs.YtigijgcldgbokaaGreat
open Go.RowKit Go.Shelf Go.Maps
set_option linter.unusedVariables false

/-- numbers that lie elsewhere than in a block -/
def IntsOff (w : World) (g : Nat) (ao : Option Addr) (l : List Int) : Prop := l = [] ∨ ∃ A, ao = some A ∧ A.block < w.heap.size ∧ A.block ≠ g ∧ ∀ (i : Nat) x, l[i]? = some x → w.cell? (A.add i) = some (.int .i64 x)
theorem IntsOff.grown {w w' : World} {g : Nat} {ao : Option Addr} {l : List Int} (h : IntsOff w g ao l) (hg : w.grownBy w' (some g)) : IntsOff w' g ao l := by
  rcases h with h | ⟨A, h1, h2, h3, h4⟩
  · exact .inl h
  · obtain ⟨_, _, _, hsz, _⟩ := id hg
    refine .inr ⟨A, h1, Nat.lt_of_lt_of_le h2 hsz, h3, fun i x hx => Go.Proofs.YtigijgcldgbokaaGreat.cell_grown (h4 i x hx) hg ?_⟩
    rw [add_block]; exact fun e => h3 (Option.some.inj e)
theorem ints_off {w : World} {base g : Nat} {v : Value} {l : List Int} {n : Nat} (h : w.ownsRow base 3 1 v n (l.map (Value.int .i64))) (hn : l.length = n) (hg : g < base) : ∃ ao cap, v = .slice ao n cap ∧ IntsOff w g ao l := by
  rcases h.2 with ⟨rfl, h0⟩ | ⟨b, cap, cur, rfl, h1, h2, h3, h4, h5, h6⟩
  · have hl : l = [] := List.eq_nil_of_length_eq_zero (by omega)
    subst h0
    exact ⟨none, 0, rfl, .inl hl⟩
  · refine ⟨_, cap, rfl, .inr ⟨⟨b, 0, none⟩, rfl, (World.ownsRow.lt h b rfl).2, by dsimp only; omega, fun i x hx => ?_⟩⟩
    have := World.ownsRow.cells h rfl i (.int .i64 x) (by rw [List.getElem?_map, hx]; rfl)
    exact this

set_option maxRecDepth 100000 in
set_option maxHeartbeats 2000000 in
theorem pick_any (ao : Option Addr) (cap : Nat) (xs : TL) (w : World) (hn : xs.length ≤ 1073741824) (hs : okT3 xs) (hR : TripAt w ao xs) :
    Calls Tryz.prog 52 #[.slice ao xs.length cap] w (PairsOut (pickL xs) w) := by
  have hinfo : (Tryz.prog.info? 36).map (fun i => (i.zero, i.size, i.bytes)) = some (some (.agg #[.int .i64 0, .int .i64 0]), 2, 16) := by kernel_rfl
  obtain ⟨i0, hi, hz0, hz1, hz2⟩ := info_parts2 hinfo
  have HI := Lib.hid hi
  have C1 := Lib.hid (taken_any ao cap xs w hn hs hR)
  have CK := Lib.hid (fun mb W => gkeys_any mb W)
  have HNd : Hid (((scanT (sortT xs)).map Prod.snd).Nodup) := Lib.hid (taken_all xs).snd
  have HPk := Lib.hid (fun ss f hp hf => pick_keys xs ss f hp hf)
  have hlen : (scanT (sortT xs)).length ≤ xs.length := by have := scan_len (sortT xs); rwa [sortT_len] at this
  have HLen := Lib.hid hlen
  obtain ⟨tk, htk⟩ : ∃ tk, tk = scanT (sortT xs) := ⟨_, rfl⟩
  rw [← htk] at C1 HNd HPk HLen
  generalize pickL xs = R at HPk ⊢
  clear hi hinfo hs hR hlen htk
  go_enter Tryz.func52, Tryz.ntmps52
  go_wp2_with fail
  refine C1.out.mono ?_; rintro e w1 ⟨B, D, rfl, hB0, hM, hF, hb1⟩
  have hlen2 := hM.len Tryz.underlying117
  have hkp := keys_perm hM hF HNd.out
  have hszn := hM.size_le
  have hisz : Maps.size D = tk.length := by
    obtain ⟨es, hD, _⟩ := hM.entries (int_keyed Tryz.underlying3)
    have h1 := hkp.length_eq
    rw [List.length_map] at h1
    rw [h1, hD]
    simp [intKeys, Maps.size]
  have HBl := Lib.hid hM.lt
  have HM := Lib.hid hM
  have HF := Lib.hid hF
  have HB1 := Lib.hid hb1
  have HKp := Lib.hid hkp
  have HW1 : Hid (w.heap.size ≤ w1.heap.size) := Lib.hid hb1.size
  rw [hisz] at hlen2
  have HLt := Lib.hid hszn
  have hm : tk.length ≤ maxLen := by have := HLen.out; unfold maxLen; omega
  have htl : tk.length ≤ 1073741824 := by have := HLen.out; omega
  obtain ⟨g, hg0⟩ : ∃ g, g = w1.heap.size := ⟨_, rfl⟩
  clear hM hF hb1 hB0 hkp hszn hisz C1
  go_wp2_with (at_make; refine wpList_make_own _ rfl _ _ 28 rfl w1.heap.size 36 i0 (.agg #[.int .i64 0, .int .i64 0]) 2 Tryz.underlying28 HI.out hz0 hz1 .i64 .i64 (tk.length : Int) tk.length rfl rfl rfl (by rw [hz2]; omega) hm (Nat.le_refl _) ?_; intro w2 ho hg)
  have hb2 : Below w1.heap.size w1 w2 := (Below.refl _ w1).grown hg (Nat.le_refl _) (fun k h => by cases h)
  have HO := Lib.hid ho
  have HB2 := Lib.hid (below_up HB1.out hb2)
  have HM2 := Lib.hid (ownsMap_below HM.out hb2)
  have hgl := (ho.lt _ rfl).2
  rw [← hg0] at hgl HO HBl
  rw [← hg0]
  have hgw : w.heap.size ≤ g := by rw [hg0]; exact HB1.out.size
  have CS := Lib.hid (gsorted_any B xs.length D w2 HM2.out (by omega))
  clear ho hg hb2 HM HB1 hlen2 hg0
  go_wp2_with fail
  refine (CK.out _ _).mono ?_; rintro e w3 ⟨rfl, rfl⟩
  go_wp2_with fail
  refine CS.out.mono ?_; rintro e w4 ⟨v, ss, rfl, hp, hrow, hb4⟩
  have hb5 : Below w2.heap.size w2 w4 := ((Below.refl _ w2).alloc (Nat.le_refl _) _).trans (hb4.mono (by omega))
  have hp2 : ss.Perm (tk.map Prod.snd) := hp.trans HKp.out.symm
  have hsl : ss.length = tk.length := by have := hp2.length_eq; rwa [List.length_map] at this
  have hwf : ∀ x ∈ ss, (Lit.int .i64 x).wf = true := fun x hx => intKeys_wf HM2.out Tryz.underlying3 x (hp.mem_iff.1 hx)
  have hR : (ss.mergeSort (fun x y => decide (x ≤ y))).map (fun b => ((firstB tk b).getD 0, b)) = R := HPk.out ss _ hp2 (fun p hp => first_of HNd.out hp)
  have hLm : ∀ x ∈ ss.mergeSort (fun x y => decide (x ≤ y)), (Lit.int .i64 x).wf = true := fun x hx => hwf x ((List.mergeSort_perm ss _).mem_iff.1 hx)
  have hLl : (ss.mergeSort (fun x y => decide (x ≤ y))).length = tk.length := by rw [List.length_mergeSort, hsl]
  rw [hsl] at hrow
  obtain ⟨L, hL⟩ : ∃ L, L = ss.mergeSort (fun x y => decide (x ≤ y)) := ⟨_, rfl⟩
  rw [← hL] at hR hLm hLl hrow
  obtain ⟨lo, lc, rfl, hoff⟩ := ints_off hrow hLl (by omega : g < w2.heap.size + 1)
  have HOff := Lib.hid hoff
  have HLm := Lib.hid hLm
  have HLl := Lib.hid hLl
  have HM4 := Lib.hid (ownsMap_below HM2.out hb5)
  have HB4 := Lib.hid (below_up HB2.out hb5)
  have HO4 : Hid (w4.ownsRow g 36 2 (.slice (some ⟨g, 0, none⟩) 0 tk.length) 0 (cellsP (R.take 0))) := Lib.hid (by have := ownsRowP_below HO.out hb5; simpa [cellsP] using this)
  have HBg : Hid (B ≠ g) := Lib.hid (by have := HBl.out; omega)
  have HRl : Hid (R.length = tk.length) := Lib.hid (by rw [← hR, List.length_map, hLl])
  have HLt : Hid (∀ (k : Nat) b, L[k]? = some b → R.take (k + 1) = R.take k ++ [((firstB tk b).getD 0, b)]) := Lib.hid (fun k b h => by
    obtain ⟨h1, e⟩ := List.getElem?_eq_some_iff.1 h
    have h2 : R[k]? = some ((firstB tk b).getD 0, b) := by rw [← hR, List.getElem?_map, h]; rfl
    obtain ⟨h3, e3⟩ := List.getElem?_eq_some_iff.1 h2
    rw [List.take_succ_eq_append_getElem h3, e3])
  have hN9 : tk.length ≤ 1073741824 := htl
  obtain ⟨N, hN⟩ : ∃ N, N = tk.length := ⟨_, rfl⟩
  rw [← hN] at HO HO4 HLl HRl hN9 ⊢
  have HG4 : Hid (w4.grownBy w4 (some g)) := Lib.hid ⟨rfl, rfl, rfl, Nat.le_refl _, fun _ _ _ => rfl⟩
  clear hb5 hb4 hp2 hsl hwf hR hLm hLl hrow hL hoff hN htl hm hp HNd HPk CS CK HKp HLen HO HB2 HM2 HBl
  go_wp2_with fail
  go_loopw [4, 16] (fun v i wr => ∃ k : Nat, k ≤ N ∧ v = .slice (some ⟨g, 0, none⟩) k N ∧ i = .int .i64 k ∧ Hid (w4.grownBy wr (some g)) ∧ Hid (wr.ownsRow g 36 2 (.slice (some ⟨g, 0, none⟩) k N) k (cellsP (R.take k)))) (fun _ i _ => N - (intOf i).toNat)
  case atStart => exact ⟨0, Nat.zero_le _, rfl, rfl, HG4, HO4⟩
  case round =>
    obtain ⟨k, hk, rfl, rfl, HG, HO⟩ := hrel
    by_cases hlt : k < N
    · obtain ⟨b, hb⟩ : ∃ b, L[k]? = some b := ⟨_, List.getElem?_eq_getElem (by rw [HLl.out]; exact hlt)⟩
      rcases HOff.out.grown HG.out with h0 | ⟨A, rfl, hA, hAg, hcell⟩
      · rw [h0] at hb; simp at hb
      have hc := hcell k b hb
      have HMr := Lib.hid (HM4.out.kept HG.out (by have := HBg.out; simpa using this))
      have hlook := first_at HMr.out HF.out b (HLm.out b (List.mem_of_getElem? hb))
      have HSt := Lib.hid (HLt.out k b hb)
      generalize (firstB tk b).getD 0 = a at hlook HSt
      have HO1 := Lib.hid (HO.out.alloc (.cells #[Value.int .i64 a, Value.int .i64 b] 36))
      have hgw : w.heap.size ≤ g := hgw
      clear hcell hb
      go_wp2_with (at_builtin; refine wpList_append_fits _ rfl _ _ 28 rfl g 36 i0 2 Tryz.underlying28 HI.out hz1 g k N _ rfl HO1.out ⟨wr.heap.size, 0, none⟩ 1 1 [Value.int .i64 a, Value.int .i64 b] rfl rfl (lit_cellP wr _ _ _) (fun u hu => by simp at hu; rcases hu with rfl | rfl <;> rfl) (by omega) ?_)
      intro w3 hown' hgrow
      have HG3 := Lib.hid (grown_trans HG.out (grown_trans (grown_below ((Below.refl wr.heap.size wr).alloc (Nat.le_refl _) _)) hgrow))
      have HO3 : Hid (w3.ownsRow g 36 2 (.slice (some ⟨g, 0, none⟩) (k + 1) N) (k + 1) (cellsP (R.take (k + 1)))) := Lib.hid (by rw [HSt.out, cellsP_app]; exact hown')
      clear hown' hgrow hlook hc HO1
      go_wp2_with fail
      go_roundw
      case rel => exact ⟨k + 1, by omega, rfl, by go_num, HG3, HO3⟩
      case measure => simp [intOf]; omega
    · obtain rfl : k = N := by omega
      have HE : Hid (PairsOut R w (.returned (.slice (some ⟨g, 0, none⟩) k k)) wr) := Lib.hid (by
        have h1 := HO.out
        rw [List.take_of_length_le (by rw [HRl.out]; exact Nat.le_refl _)] at h1
        refine OwnL.end_ ?_ (HB4.out.grown HG.out HB4.out.size (fun j h => by cases h; exact hgw))
        unfold OwnL
        rw [HRl.out]
        exact World.ownsRow.mono h1 hgw)
      go_wp2_with fail
      go_ret
      exact HE.out
end Go.Proofs.YtigijgcldgbokaaGreat
