/-
  The walk of the statement KeysFewer.
  Conditions: the library's table of powers of ten reads as its text lays it.
-/
import Derived.Deep.OwnRows
import Derived.Deep.RegionHeld3
import Derived.WalkKit
import Derived.WalkMore
import Derived.IntWalk
import Derived.OwnWalk
import Derived.Lib.Hide
import Derived.Test.YtnioignblbmflaaDoorProg
import Derived.Test.YtnioignblbmflaaDoorKOpen
import Derived.Test.YtnioignblbmflaaDoorKWorks
import Derived.Test.YtnioignblbmflaaDoorKTabs
import Derived.Test.YtnioignblbmflaaDoorKMath2
import Derived.Test.YtnioignblbmflaaDoorKApp
namespace Go.Proofs.YtnioignblbmflaaDoor
open Go.RowKit Go.Shelf Go.Deep
set_option linter.unusedVariables false
set_option linter.unusedSimpArgs false

theorem own_emptyT (base : Nat) (V : World) (T : TypeId) (hb : base ≤ V.heap.size) : (V.alloc (.cells #[] T)).ownsRow base T 2 (.slice (some ⟨V.heap.size, 0, none⟩) 0 0) 0 [] :=
  ⟨rfl, .inr ⟨V.heap.size, 0, #[], rfl, hb, World.alloc_heap_new _ _, Nat.le_refl _, by unfold maxLen; omega, rfl, rfl⟩⟩
theorem ones_lit (ho : Option Addr) (hn hc : Nat) (ro : Option Addr) (rn rc : Nat) : ∀ u ∈ [Value.slice ho hn hc, Value.slice ro rn rc], u.oneCell' = true := fun u hu => by
  simp at hu; rcases hu with rfl | rfl <;> rfl
theorem lit_src1 {V : World} {b : Nat} {ho : Option Addr} {hn hc : Nat} {ro : Option Addr} {rn rc : Nat} (hb : V.heap[b]? = some (.cells #[.slice ho hn hc, .slice ro rn rc] 25 (0, 0))) : SrcT V (some ⟨b, 0, none⟩) 1 1 [.slice ho hn hc, .slice ro rn rc] := by
  refine ⟨(fun e => by cases e), fun ad e j u hu => ?_⟩
  cases e
  match j, hu with
  | 0, hu => cases hu; exact (Lib.cell_of_heap hb 0).trans rfl
  | 1, hu => cases hu; exact (Lib.cell_of_heap hb 1).trans rfl
theorem lit_new (V : World) (ho : Option Addr) (hn hc : Nat) (ro : Option Addr) (rn rc : Nat) : SrcT (V.alloc (.cells #[.slice ho hn hc, .slice ro rn rc] 25)) (some ⟨V.heap.size, 0, none⟩) 1 1 [.slice ho hn hc, .slice ro rn rc] := lit_src1 (World.alloc_heap_new V _)
theorem lit_src {V V' : World} {g b n c : Nat} {ho : Option Addr} {hn hc : Nat} {ro : Option Addr} {rn rc : Nat} (hb : V.heap[b]? = some (.cells #[.slice ho hn hc, .slice ro rn rc] 25 (0, 0))) (hg : V.grownBy V' (Value.slice (some ⟨g, 0, none⟩) n c).ownBlock) (hne : b ≠ g) : SrcT V' (some ⟨b, 0, none⟩) 1 1 [.slice ho hn hc, .slice ro rn rc] :=
  lit_src1 ((hg.block b (lt_of_heap hb) (fun e => hne (by simpa [Value.ownBlock] using e))).trans hb)

set_option maxRecDepth 100000 in
set_option maxHeartbeats 8000000 in
theorem walkKeysFewer (lo : Option Addr) (lc : Nat) (ts : List Tab) (no : Option Addr) (nc : Nat) (names : List ByteArray) (ho : Option Addr) (hc : Nat) (hd : List ByteArray) (ro : Option Addr) (rc : Nat) (rs : List (List ByteArray)) (w : World)
    (hL : TabsArg w lo lc ts) (hN : StrArg w no nc names) (hA : StrArg w ho hc hd) (hB : RowsArg w ro rc rs) (hpow : Pow w) :
    Calls Tryd.prog 7 #[.slice lo ts.length lc, .slice no names.length nc, .agg #[.slice ho hd.length hc, .slice ro rs.length rc]] w fun e w' => e = .returned (.bool true) ∧ Below w.heap.size w w' := by
  have hinfo : (Tryd.prog.info? 25).map (fun i => (i.zero, i.size, i.bytes)) = some (some (.agg #[.slice none 0 0, .slice none 0 0]), 2, 48) := by kernel_rfl
  obtain ⟨i0, hi, hz0, hz1, hz2⟩ := info_parts2 hinfo
  have HIn := Lib.hid hi
  obtain ⟨W, HW⟩ : ∃ W, Hid (W = w.alloc (TabO ho hd.length hc ro rs.length rc)) := ⟨_, Lib.hid rfl⟩
  have hb0 : Below w.heap.size w W := by rw [HW.out]; exact one_below _ _
  have hNw : W.heap[w.heap.size]? = some (TabO ho hd.length hc ro rs.length rc) := by rw [HW.out]; exact World.alloc_heap_new w _
  have HA := Lib.hid hA
  have HB := Lib.hid hB
  have HL := Lib.hid hL
  have HN := Lib.hid hN
  have B0 := Lib.hid hb0
  have HP := Lib.hid hpow
  obtain ⟨vs, hfit, hsrc, hsl⟩ := tabs_vals hL.tabs hL.nil
  have HF0 := Lib.hid hfit
  have HS0 := Lib.hid (And.intro hsrc hsl)
  have hwW : w.heap.size ≤ W.heap.size := hb0.size
  have box : Hid (∀ V, Below W.heap.size W V → V.cell? ⟨w.heap.size, 0, none⟩ = some (.slice ho hd.length hc) ∧ V.cell? ⟨w.heap.size, 1, none⟩ = some (.slice ro rs.length rc)) := Lib.hid (fun V hV => tabs ((hV.block _ (lt_of_heap hNw)).trans hNw))
  have HW2 : Hid (W = w.alloc (Obj.cells #[Value.slice ho hd.length hc, Value.slice ro rs.length rc] 25)) := Lib.hid HW.out
  clear hA hB hL hN hb0 hNw hpow hi hinfo hfit hsrc hsl
  go_enter Tryd.func7, Tryd.ntmps7
  go_wp2_with fail
  rw [← HW2.out]
  refine (works_any _ (HP.out.kept B0.out)).mono ?_; rintro e w1 ⟨rfl, b1⟩
  obtain ⟨p0, p1⟩ := box.out w1 b1
  have B1 := Lib.hid b1
  have X1 := below_up B0.out b1
  have C0 := Lib.hid (few11_any lo lc ts no nc names.length w1 HL.out.len HN.out.len HL.out.ok (HL.out.tabs.kept X1))
  clear b1 X1
  go_wp2_with fail
  refine C0.out.mono ?_; rintro e w2 ⟨b, rfl, hb, b2⟩
  have B2 := Lib.hid (below_up B1.out b2)
  obtain ⟨p0, p1⟩ := box.out w2 B2.out
  clear b2 C0 B1
  cases b with
  | false =>
    clear hb
    go_wp2_with fail
    go_ret
    exact ⟨rfl, below_up B0.out B2.out⟩
  | true =>
    obtain ⟨h4, h12, hf⟩ := hb rfl
    have X2 := below_up B0.out B2.out
    have hT := tabs_lit (W := w2) (ho := ho) (ro := ro) (hc := hc) (rc := rc) (t := (hd, rs)) (HA.out.row.kept X2) (HB.out.rows.kept X2)
    have C1 := Lib.hid (few11_any (some ⟨w2.heap.size, 0, none⟩) 1 [(hd, rs)] none 0 0 _ (by unfold maxLen; simp) (Nat.zero_le _) (fun t ht => by simp at ht; subst ht; exact ⟨⟨HA.out.len, HA.out.size⟩, HB.out.len, HB.out.each⟩) hT)
    have BA := Lib.hid (below_up B2.out (one_below w2 (.cells #[.slice ho hd.length hc, .slice ro rs.length rc] 25)))
    clear X2 hT hb
    go_wp2_with fail
    refine C1.out.mono ?_; rintro e w3 ⟨b, rfl, hb, b3⟩
    have B3 := Lib.hid (below_up BA.out b3)
    clear b3 C1 BA p0 p1 B2
    obtain ⟨p0, p1⟩ := box.out w3 B3.out
    cases b with
    | false =>
      clear hb
      go_wp2_with fail
      go_ret
      exact ⟨rfl, below_up B0.out B3.out⟩
    | true =>
      obtain ⟨-, -, hf2⟩ := hb rfl
      clear hb
      by_cases h3 : ts.length ≤ 3
      · have hfa : fewK (ts ++ [(hd, rs)]) := fun t ht => (List.mem_append.1 ht).elim (hf t) (hf2 t)
        obtain ⟨f1, f2, f3, f4⟩ := few_bounds hf
        obtain ⟨g1, g2, g3, g4⟩ := few_bounds hf2
        obtain ⟨k1, k2, k3, k4⟩ := few_bounds hfa
        have hsz : ∀ c ∈ names, c.size ≤ maxLen := fun c hc => by have := HN.out.size c hc; unfold maxLen; omega
        have CU1 := Lib.hid (fun V (h : Below W.heap.size W V) => usable_any lo lc ts no nc names V (by omega) (by omega) hsz f1 f2 (HL.out.tabs.kept (below_up B0.out h)) (HN.out.row.kept (below_up B0.out h)) (HP.out.kept (below_up B0.out h)))
        have CU2 := Lib.hid (fun (jo : Option Addr) (jc : Nat) V (k : TabsAt V jo [(hd, rs)]) (h : Below W.heap.size W V) => usable_any jo jc [(hd, rs)] no nc names V (by simp) (by omega) hsz g1 g2 k (HN.out.row.kept (below_up B0.out h)) (HP.out.kept (below_up B0.out h)))
        have CU3 := Lib.hid (fun (jo : Option Addr) (jc : Nat) V (k : TabsAt V jo (ts ++ [(hd, rs)])) (h : Below W.heap.size W V) => usable_any jo jc (ts ++ [(hd, rs)]) no nc names V (by simp; omega) (by omega) hsz k1 k2 k (HN.out.row.kept (below_up B0.out h)) (HP.out.kept (below_up B0.out h)))
        rw [usable_more] at CU3
        simp only [List.length_cons, List.length_append, List.length_nil, Nat.zero_add] at CU2 CU3
        have HT2 := Lib.hid (fun V (h : Below W.heap.size W V) => tabs_lit (W := V) (ho := ho) (ro := ro) (hc := hc) (rc := rc) (t := (hd, rs)) (HA.out.row.kept (below_up B0.out h)) (HB.out.rows.kept (below_up B0.out h)))
        have HV := Lib.hid (fun V (h : Below W.heap.size W V) => HF0.out.kept (below_up B0.out h))
        have HVt : Hid (∀ V, Below W.heap.size W V → TabV V (hd, rs) (.slice ho hd.length hc, .slice ro rs.length rc)) := Lib.hid (fun V h => ⟨ho, hc, ro, rc, rfl, HA.out.row.kept (below_up B0.out h), HB.out.rows.kept (below_up B0.out h)⟩)
        have HOn := Lib.hid HF0.out.2.2
        have hfl : (flatT vs).length = ts.length * 2 := by rw [flat_len, HF0.out.1]
        have HS1 := Lib.hid (fun V (h : Below W.heap.size W V) => HS0.out.1.kept HS0.out.2 (below_up B0.out h))
        generalize usableC ts names = u1 at CU1 CU3
        generalize usableC [(hd, rs)] names = u2 at CU2 CU3
        clear f1 f2 f3 f4 g1 g2 g3 g4 k1 k2 k3 k4 hf hf2 hfa hsz HF0 HS0
        have hs3 : W.heap.size ≤ w3.heap.size := B3.out.size
        have q0 : 0 + ts.length ≤ maxLen := by unfold maxLen; omega
        have q3 : (0 + ts.length) * 48 ≤ 140737488355328 := by omega
        have q4 : ts.length + 1 ≤ maxLen := by unfold maxLen; omega
        have q5 : (ts.length + 1) * 48 ≤ 140737488355328 := by omega
        have HVe : Hid (Below W.heap.size W (w3.alloc (.cells #[] 25)).drew) := Lib.hid ((B3.out.alloc hs3 _).drew)
        have HSe := Lib.hid (HS1.out _ HVe.out)
        have HVA : Hid (Below W.heap.size W ((w3.alloc (.cells #[] 25)).alloc (.cells #[.slice ho hd.length hc, .slice ro rs.length rc] 25)).drew) := Lib.hid (((B3.out.alloc hs3 _).alloc (B3.out.alloc hs3 _).size _).drew)
        have HSA := Lib.hid (HS1.out _ HVA.out)
        have HOA := Lib.hid ((own_emptyT W.heap.size w3 25 hs3).alloc (.cells #[.slice ho hd.length hc, .slice ro rs.length rc] 25))
        have HLA : Hid (((w3.alloc (.cells #[] 25)).alloc (.cells #[.slice ho hd.length hc, .slice ro rs.length rc] 25)).drew.heap[w3.heap.size + 1]? = some (.cells #[.slice ho hd.length hc, .slice ro rs.length rc] 25 (0, 0))) := Lib.hid (by
          have := World.alloc_heap_new (w3.alloc (.cells #[] 25)) (.cells #[.slice ho hd.length hc, .slice ro rs.length rc] 25)
          rw [World.size_alloc] at this; exact this)
        have HVC : Hid (Below W.heap.size W ((w3.alloc (.cells #[.slice ho hd.length hc, .slice ro rs.length rc] 25)).alloc (.cells #[] 25)).drew) := Lib.hid (((B3.out.alloc hs3 _).alloc (B3.out.alloc hs3 _).size _).drew)
        have HSC := Lib.hid (HS1.out _ HVC.out)
        have HOC : Hid (((w3.alloc (.cells #[.slice ho hd.length hc, .slice ro rs.length rc] 25)).alloc (.cells #[] 25)).ownsRow W.heap.size 25 2 (.slice (some ⟨w3.heap.size + 1, 0, none⟩) 0 0) 0 []) := Lib.hid (by
          have := own_emptyT W.heap.size (w3.alloc (.cells #[.slice ho hd.length hc, .slice ro rs.length rc] 25)) 25 (by rw [World.size_alloc]; omega)
          rw [World.size_alloc] at this; exact this)
        have HLC : Hid (((w3.alloc (.cells #[.slice ho hd.length hc, .slice ro rs.length rc] 25)).alloc (.cells #[] 25)).drew.heap[w3.heap.size]? = some (.cells #[.slice ho hd.length hc, .slice ro rs.length rc] 25 (0, 0))) := Lib.hid (by
          have h1 := World.alloc_heap_new w3 (.cells #[.slice ho hd.length hc, .slice ro rs.length rc] 25)
          exact ((one_below (w3.alloc (.cells #[.slice ho hd.length hc, .slice ro rs.length rc] 25)) (.cells #[] 25)).block _ (lt_of_heap h1)).trans h1)
        go_upto_region 6 with fail
        go_cut [8] from 28 to 33 (fun v wx => Hid (∃ jo jc, v = .slice jo (ts.length + 1) jc ∧ TabsAt wx jo (ts ++ [(hd, rs)])) ∧ Hid (Below W.heap.size W wx))
        case first =>
          go_region_held3 (fun V => V.cell? ⟨w.heap.size, 0, none⟩ = some (.slice ho hd.length hc) ∧ V.cell? ⟨w.heap.size, 1, none⟩ = some (.slice ro rs.length rc)) ((refine ⟨?_, ?_⟩ <;> first | assumption | go_keep))
                (first
                  | (refine step_append_gd (by rfl) _ _ 29 (by rfl) W.heap.size 25 i0 (.agg #[.slice none 0 0, .slice none 0 0]) 2 48 Tryd.underlying29 HIn.out hz0 hz1 hz2 rfl (by decide) (.slice ko ts.length kc) ts.length (flatT vs) (by rfl) (HO6.out.alloc (.cells #[.slice ho hd.length hc, .slice ro rs.length rc] 25)) (some ⟨w6.heap.size, 0, none⟩) 1 1 [.slice ho hd.length hc, .slice ro rs.length rc] (by rfl) HN6.out.1 (by simp) HN6.out.2 (ones_lit _ _ _ _ _ _) q4 q5 HV6.out.size (ts.length + 1) rfl (flatT vs ++ [.slice ho hd.length hc, .slice ro rs.length rc]) rfl ?_; intro jo2 jc2 w7 hown _ hbel; have B7 := Lib.hid (HV6.out.trans hbel); have HJ := Lib.hid (tabs_of_own (ts := ts ++ [(hd, rs)]) hown (by rw [flat_app]; rfl) (by simp) (fit_snoc (HV.out _ B7.out) (HVt.out _ B7.out))); obtain ⟨p0, p1⟩ := box.out w7 B7.out; clear hown hbel)
                  | (refine step_append_gd (by rfl) _ _ 29 (by rfl) W.heap.size 25 i0 (.agg #[.slice none 0 0, .slice none 0 0]) 2 48 Tryd.underlying29 HIn.out hz0 hz1 hz2 rfl (by decide) (.slice ko ts.length kc) ts.length (flatT vs) (by rfl) (HO6.out.alloc (.cells #[.slice ho hd.length hc, .slice ro rs.length rc] 25)) (some ⟨w6.heap.size, 0, none⟩) 1 1 [.slice ho hd.length hc, .slice ro rs.length rc] (by rfl) HN6.out.1 (by simp) HN6.out.2 (ones_lit _ _ _ _ _ _) q4 q5 HV7.out.size (ts.length + 1) rfl (flatT vs ++ [.slice ho hd.length hc, .slice ro rs.length rc]) rfl ?_; intro jo2 jc2 w7 hown _ hbel; have B7 := Lib.hid (HV7.out.trans hbel); have HJ := Lib.hid (tabs_of_own (ts := ts ++ [(hd, rs)]) hown (by rw [flat_app]; rfl) (by simp) (fit_snoc (HV.out _ B7.out) (HVt.out _ B7.out))); obtain ⟨p0, p1⟩ := box.out w7 B7.out; clear hown hbel)
                  | (refine step_append_gd (by rfl) _ _ 29 (by rfl) W.heap.size 25 i0 (.agg #[.slice none 0 0, .slice none 0 0]) 2 48 Tryd.underlying29 HIn.out hz0 hz1 hz2 rfl (by decide) (.slice ko ts.length kc) ts.length (flatT vs) (by rfl) HOA6.out (some ⟨w3.heap.size + 1, 0, none⟩) 1 1 [.slice ho hd.length hc, .slice ro rs.length rc] (by rfl) HNA6.out.1 (by simp) HNA6.out.2 (ones_lit _ _ _ _ _ _) q4 q5 HPA.out.size (ts.length + 1) rfl (flatT vs ++ [.slice ho hd.length hc, .slice ro rs.length rc]) rfl ?_; intro jo2 jc2 w7 hown _ hbel; have B7 := Lib.hid (HPA.out.trans hbel); have HJ := Lib.hid (tabs_of_own (ts := ts ++ [(hd, rs)]) hown (by rw [flat_app]; rfl) (by simp) (fit_snoc (HV.out _ B7.out) (HVt.out _ B7.out))); obtain ⟨p0, p1⟩ := box.out w7 B7.out; clear hown hbel)
                  | (refine step_append_gd (by rfl) _ _ 29 (by rfl) W.heap.size 25 i0 (.agg #[.slice none 0 0, .slice none 0 0]) 2 48 Tryd.underlying29 HIn.out hz0 hz1 hz2 rfl (by decide) (.slice ko ts.length kc) ts.length (flatT vs) (by rfl) HOA6.out (some ⟨w3.heap.size + 1, 0, none⟩) 1 1 [.slice ho hd.length hc, .slice ro rs.length rc] (by rfl) HNA6.out.1 (by simp) HNA6.out.2 (ones_lit _ _ _ _ _ _) q4 q5 HQA.out.size (ts.length + 1) rfl (flatT vs ++ [.slice ho hd.length hc, .slice ro rs.length rc]) rfl ?_; intro jo2 jc2 w7 hown _ hbel; have B7 := Lib.hid (HQA.out.trans hbel); have HJ := Lib.hid (tabs_of_own (ts := ts ++ [(hd, rs)]) hown (by rw [flat_app]; rfl) (by simp) (fit_snoc (HV.out _ B7.out) (HVt.out _ B7.out))); obtain ⟨p0, p1⟩ := box.out w7 B7.out; clear hown hbel)
                  | (refine step_append_gd (by rfl) _ _ 29 (by rfl) W.heap.size 25 i0 (.agg #[.slice none 0 0, .slice none 0 0]) 2 48 Tryd.underlying29 HIn.out hz0 hz1 hz2 rfl (by decide) (.slice ko ts.length kc) ts.length (flatT vs) (by rfl) HOC6.out (some ⟨w3.heap.size, 0, none⟩) 1 1 [.slice ho hd.length hc, .slice ro rs.length rc] (by rfl) HNC6.out.1 (by simp) HNC6.out.2 (ones_lit _ _ _ _ _ _) q4 q5 HPC.out.size (ts.length + 1) rfl (flatT vs ++ [.slice ho hd.length hc, .slice ro rs.length rc]) rfl ?_; intro jo2 jc2 w7 hown _ hbel; have B7 := Lib.hid (HPC.out.trans hbel); have HJ := Lib.hid (tabs_of_own (ts := ts ++ [(hd, rs)]) hown (by rw [flat_app]; rfl) (by simp) (fit_snoc (HV.out _ B7.out) (HVt.out _ B7.out))); obtain ⟨p0, p1⟩ := box.out w7 B7.out; clear hown hbel)
                  | (refine step_append_gd (by rfl) _ _ 29 (by rfl) W.heap.size 25 i0 (.agg #[.slice none 0 0, .slice none 0 0]) 2 48 Tryd.underlying29 HIn.out hz0 hz1 hz2 rfl (by decide) (.slice ko ts.length kc) ts.length (flatT vs) (by rfl) HOC6.out (some ⟨w3.heap.size, 0, none⟩) 1 1 [.slice ho hd.length hc, .slice ro rs.length rc] (by rfl) HNC6.out.1 (by simp) HNC6.out.2 (ones_lit _ _ _ _ _ _) q4 q5 HQC.out.size (ts.length + 1) rfl (flatT vs ++ [.slice ho hd.length hc, .slice ro rs.length rc]) rfl ?_; intro jo2 jc2 w7 hown _ hbel; have B7 := Lib.hid (HQC.out.trans hbel); have HJ := Lib.hid (tabs_of_own (ts := ts ++ [(hd, rs)]) hown (by rw [flat_app]; rfl) (by simp) (fit_snoc (HV.out _ B7.out) (HVt.out _ B7.out))); obtain ⟨p0, p1⟩ := box.out w7 B7.out; clear hown hbel)
                  | (refine step_append_gd (by rfl) _ _ 29 (by rfl) W.heap.size 25 i0 (.agg #[.slice none 0 0, .slice none 0 0]) 2 48 Tryd.underlying29 HIn.out hz0 hz1 hz2 rfl (by decide) (.slice (some ⟨w3.heap.size, 0, none⟩) 0 0) 0 [] (by rfl) (own_emptyT W.heap.size w3 _ hs3) lo ts.length lc (flatT vs) (by rfl) HSe.out.1 hfl HSe.out.2 HOn.out q0 q3 HVe.out.size ts.length (Nat.zero_add _) (flatT vs) rfl ?_; intro ko kc w6 hown _ hbel; have B6 := Lib.hid (HVe.out.trans hbel); have HO6 := Lib.hid hown; have HN6 := Lib.hid (lit_new w6 ho hd.length hc ro rs.length rc); have HV6 : Hid (Below W.heap.size W (w6.alloc (.cells #[.slice ho hd.length hc, .slice ro rs.length rc] 25)).drew) := Lib.hid ((B6.out.alloc B6.out.size _).drew); have HV7 : Hid (Below W.heap.size W (w6.alloc (.cells #[.slice ho hd.length hc, .slice ro rs.length rc] 25))) := Lib.hid (B6.out.alloc B6.out.size _); obtain ⟨p0, p1⟩ := box.out w6 B6.out; clear hown hbel)
                  | (refine step_append_gd (by rfl) _ _ 29 (by rfl) W.heap.size 25 i0 (.agg #[.slice none 0 0, .slice none 0 0]) 2 48 Tryd.underlying29 HIn.out hz0 hz1 hz2 rfl (by decide) (.slice (some ⟨w3.heap.size, 0, none⟩) 0 0) 0 [] (by rfl) HOA.out lo ts.length lc (flatT vs) (by rfl) HSA.out.1 hfl HSA.out.2 HOn.out q0 q3 HVA.out.size ts.length (Nat.zero_add _) (flatT vs) rfl ?_; intro ko kc w6 hown hg hbel; have B6 := Lib.hid (HVA.out.trans hbel); have HOA6 := Lib.hid hown; have HNA6 := Lib.hid (lit_src (HLA.out) hg (by omega)); have HPA := Lib.hid B6.out; have HQA := Lib.hid B6.out.drew; obtain ⟨p0, p1⟩ := box.out w6 B6.out; clear hown hbel hg)
                  | (refine step_append_gd (by rfl) _ _ 29 (by rfl) W.heap.size 25 i0 (.agg #[.slice none 0 0, .slice none 0 0]) 2 48 Tryd.underlying29 HIn.out hz0 hz1 hz2 rfl (by decide) (.slice (some ⟨w3.heap.size + 1, 0, none⟩) 0 0) 0 [] (by rfl) HOC.out lo ts.length lc (flatT vs) (by rfl) HSC.out.1 hfl HSC.out.2 HOn.out q0 q3 HVC.out.size ts.length (Nat.zero_add _) (flatT vs) rfl ?_; intro ko kc w6 hown hg hbel; have B6 := Lib.hid (HVC.out.trans hbel); have HOC6 := Lib.hid hown; have HNC6 := Lib.hid (lit_src (HLC.out) hg (by omega)); have HPC := Lib.hid B6.out; have HQC := Lib.hid B6.out.drew; obtain ⟨p0, p1⟩ := box.out w6 B6.out; clear hown hbel hg))
          all_goals (go_wp2_with fail; go_meet)
          all_goals exact ⟨Lib.hid ⟨_, _, rfl, HJ.out⟩, B7⟩
        case rest =>
          obtain ⟨HJ, B7⟩ := hcut
          rename World => w7
          obtain ⟨jo, jc, rfl, hJ⟩ := HJ.out
          have HJ := Lib.hid hJ
          clear hJ p0 p1 HVe HSe HVA HSA HOA HLA HVC HSC HOC HLC HS1 hfl HOn HV HVt
          obtain ⟨p0, p1⟩ := box.out w7 B7.out
          cases u1 <;> cases u2
          · simp only [Bool.and_true, Bool.and_false, Bool.false_and, Bool.true_and, Bool.and_self] at CU3
            have D3 := Lib.hid (CU3.out jo jc w7 HJ.out B7.out)
            go_wp2_with fail
            refine D3.out.mono ?_; rintro e w8 ⟨rfl, b8⟩
            have B8 := Lib.hid (below_up B7.out b8)
            clear b8 p0 p1 D3
            obtain ⟨p0, p1⟩ := box.out w8 B8.out
            have D1 := Lib.hid (CU1.out w8 B8.out)
            go_wp2_with fail
            refine D1.out.mono ?_; rintro e w9 ⟨rfl, b9⟩
            have B9 := Lib.hid (below_up B8.out b9)
            clear b9 p0 p1 D1
            go_wp2_with fail
            go_ret
            exact ⟨rfl, below_up B0.out B9.out⟩
          · simp only [Bool.and_true, Bool.and_false, Bool.false_and, Bool.true_and, Bool.and_self] at CU3
            have D3 := Lib.hid (CU3.out jo jc w7 HJ.out B7.out)
            go_wp2_with fail
            refine D3.out.mono ?_; rintro e w8 ⟨rfl, b8⟩
            have B8 := Lib.hid (below_up B7.out b8)
            clear b8 p0 p1 D3
            obtain ⟨p0, p1⟩ := box.out w8 B8.out
            have D1 := Lib.hid (CU1.out w8 B8.out)
            go_wp2_with fail
            refine D1.out.mono ?_; rintro e w9 ⟨rfl, b9⟩
            have B9 := Lib.hid (below_up B8.out b9)
            clear b9 p0 p1 D1
            go_wp2_with fail
            go_ret
            exact ⟨rfl, below_up B0.out B9.out⟩
          · simp only [Bool.and_true, Bool.and_false, Bool.false_and, Bool.true_and, Bool.and_self] at CU3
            have D3 := Lib.hid (CU3.out jo jc w7 HJ.out B7.out)
            go_wp2_with fail
            refine D3.out.mono ?_; rintro e w8 ⟨rfl, b8⟩
            have B8 := Lib.hid (below_up B7.out b8)
            clear b8 p0 p1 D3
            obtain ⟨p0, p1⟩ := box.out w8 B8.out
            have D1 := Lib.hid (CU1.out w8 B8.out)
            go_wp2_with fail
            refine D1.out.mono ?_; rintro e w9 ⟨rfl, b9⟩
            have B9 := Lib.hid (below_up B8.out b9)
            clear b9 p0 p1 D1
            have hT := HT2.out w9 B9.out
            have BA := Lib.hid (below_up B9.out (one_below w9 (.cells #[.slice ho hd.length hc, .slice ro rs.length rc] 25)))
            have D2 := Lib.hid (CU2.out _ 1 _ hT BA.out)
            obtain ⟨p0, p1⟩ := box.out w9 B9.out
            clear hT
            go_wp2_with fail
            refine D2.out.mono ?_; rintro e w10 ⟨rfl, b10⟩
            have B10 := Lib.hid (below_up BA.out b10)
            clear b10
            go_wp2_with fail
            go_ret
            exact ⟨rfl, below_up B0.out B10.out⟩
          · simp only [Bool.and_true, Bool.and_false, Bool.false_and, Bool.true_and, Bool.and_self] at CU3
            have D3 := Lib.hid (CU3.out jo jc w7 HJ.out B7.out)
            go_wp2_with fail
            refine D3.out.mono ?_; rintro e w8 ⟨rfl, b8⟩
            have B8 := Lib.hid (below_up B7.out b8)
            clear b8 p0 p1 D3
            obtain ⟨p0, p1⟩ := box.out w8 B8.out
            have D1 := Lib.hid (CU1.out w8 B8.out)
            go_wp2_with fail
            refine D1.out.mono ?_; rintro e w9 ⟨rfl, b9⟩
            have B9 := Lib.hid (below_up B8.out b9)
            clear b9 p0 p1 D1
            have hT := HT2.out w9 B9.out
            have BA := Lib.hid (below_up B9.out (one_below w9 (.cells #[.slice ho hd.length hc, .slice ro rs.length rc] 25)))
            have D2 := Lib.hid (CU2.out _ 1 _ hT BA.out)
            obtain ⟨p0, p1⟩ := box.out w9 B9.out
            clear hT
            go_wp2_with fail
            refine D2.out.mono ?_; rintro e w10 ⟨rfl, b10⟩
            have B10 := Lib.hid (below_up BA.out b10)
            clear b10
            go_wp2_with fail
            go_ret
            exact ⟨rfl, below_up B0.out B10.out⟩
      · go_wp2_with fail
        go_ret
        exact ⟨rfl, below_up B0.out B3.out⟩
end Go.Proofs.YtnioignblbmflaaDoor
