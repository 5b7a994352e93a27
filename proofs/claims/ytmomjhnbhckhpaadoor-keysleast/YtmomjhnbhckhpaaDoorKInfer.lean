/-
  The least key of tables: what the program answers.
  Conditions: at most 2^30 tables, each with at most 2^40 names and rows and cells of at most 2^20 bytes; at most 2^20 names.
-/
import Derived.Deep.OwnRows
import Derived.WalkKit
import Derived.WalkMore
import Derived.IntWalk
import Derived.WalkArith
import Derived.OwnWalkIn
import Derived.TacticsInMore
import Derived.LoopNIn
import Derived.LoopIn
import Derived.Lib.Hide
import Derived.RegionTactic
import Derived.Test.YtmomjhnbhckhpaaDoorProg
import Derived.Test.YtmomjhnbhckhpaaDoorKChoice2
namespace Go.Proofs.YtmomjhnbhckhpaaDoor
open Go.RowKit Go.Shelf Go.Sort
set_option linter.unusedVariables false
attribute [local go_sem] Oper.semAt_some

/-- the first choice that tells all rows apart, of those of one, two, and three -/
def inferC (ts : List Tab) (names : List ByteArray) : List ByteArray :=
  if apartC ts (candsL ts names) then
    match (choicesL 1 (candsL ts names) ++ choicesL 2 (candsL ts names) ++ choicesL 3 (candsL ts names)).find? (apartC ts) with
    | some ch => ch.map Prod.fst
    | none => []
  else []

theorem own_names {w : World} {base : Nat} {v : Value} {n : Nat} {l : List ByteArray} (h : w.ownsRow base 9 1 v n (l.map Value.string)) (hn : l.length = n) : ∃ ao cap, v = .slice ao l.length cap ∧ StrRow w ao l ∧ l.length ≤ cap := by
  rcases h.2 with ⟨rfl, h0⟩ | ⟨g, cap, cur, rfl, _, hg, hc, _⟩
  · have hl : l = [] := List.eq_nil_of_length_eq_zero (by omega)
    subst hl
    exact ⟨none, 0, rfl, .inl rfl, Nat.le_refl _⟩
  · refine ⟨_, cap, by rw [hn], .inr ⟨_, rfl, lt_of_heap hg, fun i c hc => ?_⟩, by omega⟩
    exact h.cells (g := g) rfl i _ (by rw [List.getElem?_map, hc]; rfl)
theorem grown_box (w : World) (g i : Nat) (v : Value) : w.grownBy (w.setCell ⟨g, i, none⟩ v) (some g) := grown_put w g i v
/-- the choices of fewer than so many -/
def preL (c : List Cand) (q : Nat) : List (List Cand) := (List.range (q - 1)).flatMap fun i => choicesL (i + 1) c
theorem pre_next (c : List Cand) (q : Nat) (h : 1 ≤ q) : preL c (q + 1) = preL c q ++ choicesL q c := by
  unfold preL
  have : q + 1 - 1 = (q - 1) + 1 := by omega
  rw [this, List.range_succ, List.flatMap_append]
  simp
  rw [show q - 1 + 1 = q by omega]
theorem pre_all (c : List Cand) : preL c 4 = choicesL 1 c ++ choicesL 2 c ++ choicesL 3 c := by
  rw [pre_next c 3 (by omega), pre_next c 2 (by omega), pre_next c 1 (by omega)]; simp [preL]
theorem pre_more (c : List Cand) : ∀ q, 1 ≤ q → q ≤ 3 → ∃ t, preL c 4 = preL c q ++ choicesL q c ++ t := fun q h1 h2 => by
  have : q = 1 ∨ q = 2 ∨ q = 3 := by omega
  rw [pre_all]
  rcases this with rfl | rfl | rfl
  · exact ⟨choicesL 2 c ++ choicesL 3 c, by simp [preL]⟩
  · exact ⟨choicesL 3 c, by rw [pre_next c 1 (by omega)]; simp [preL]⟩
  · exact ⟨[], by rw [pre_next c 2 (by omega), pre_next c 1 (by omega)]; simp [preL]⟩

set_option maxRecDepth 100000 in
set_option maxHeartbeats 8000000 in
theorem infer_any (lo : Option Addr) (lc : Nat) (ts : List Tab) (ao : Option Addr) (cap : Nat) (names : List ByteArray) (w : World) (hts : ts.length ≤ 1073741824) (hn : names.length ≤ 1048576) (hs : ∀ c ∈ names, c.size ≤ 140737488355328) (hT : TabsOk ts) (hH : HeadsOk ts) (hL : TabsAt w lo ts) (hR : StrRow w ao names) (hpow : Pow w) :
    Calls Tryd.prog 16 #[.slice lo ts.length lc, .slice ao names.length cap] w (NamesOut (inferC ts names) w) := by
  obtain ⟨V, HV⟩ : ∃ V, Hid (V = w.alloc (.cells #[.slice lo ts.length lc] 35)) := ⟨_, Lib.hid rfl⟩
  have hV' : w.alloc (.cells #[.slice lo ts.length lc] 35) = V := HV.out.symm
  have HB := Lib.hid (show Below w.heap.size w V by rw [HV.out]; exact one_below w _)
  have hVh : V.heap[w.heap.size]? = some (.cells #[.slice lo ts.length lc] 35 (0, 0)) := by rw [HV.out]; exact World.alloc_heap_new w _
  have HVh := Lib.hid hVh
  have v0 : V.cell? ⟨w.heap.size, 0, none⟩ = some (.slice lo ts.length lc) := (Lib.cell_of_heap hVh 0).trans rfl
  have CA := Lib.hid (candidates_any lo lc ts ao cap names V hts (by omega) (fun c hc => Nat.le_trans (hs c hc) (by unfold maxLen; omega)) hH (hL.kept HB.out) (hR.kept HB.out))
  have HTo := Lib.hid hT
  have HLo := Lib.hid hL
  have HP := Lib.hid hpow
  have hcl := cands_len ts names
  have HCK := Lib.hid (cands_ok ts names hT)
  have HNM := Lib.hid (show ∀ c ∈ candsL ts names, c.1.size ≤ 140737488355328 from fun c hc => hs c.1 (cands_names ts names c hc))
  unfold inferC
  obtain ⟨ch, hch⟩ : ∃ ch, ch = candsL ts names := ⟨_, rfl⟩
  rw [← hch] at CA hcl HCK HNM ⊢
  obtain ⟨RES, hRES⟩ : ∃ RES, RES = (if apartC ts ch then match (choicesL 1 ch ++ choicesL 2 ch ++ choicesL 3 ch).find? (apartC ts) with | some c => c.map Prod.fst | none => [] else []) := ⟨_, rfl⟩
  have HRES := Lib.hid hRES
  rw [← hRES]
  clear hT hH hL hR hs hpow hch hVh hRES
  refine (callsIn_wide (n := 6)).1 ?_
  refine callsIn_of_wp_marks Tryd.func16 rfl trivial ?_ rfl
  simp only [Tryd.ntmps16, List.size_toArray, List.length_cons, List.length_nil, Nat.reduceAdd, Nat.reduceSub, Array.replicate_succ, Array.replicate_zero, List.push_toArray, List.append_toArray, List.nil_append, List.cons_append]
  refine wpIn_wide.2 ?_
  go_wp2_with fail
  go_step3
  go_wp2_with fail
  refine CA.out.mono ?_
  rintro e w1 ⟨v, cvs, rfl, hO, hcv, hB⟩
  obtain ⟨co, cc, rfl, hCA⟩ := hO.cands
  have hcc : (cvs.map plainC).length ≤ cc := by
    rcases hO.list.2 with ⟨h1, h2⟩ | ⟨g, cp, cur, h1, _, _, h2, _⟩
    · rw [List.length_map, h2]; omega
    · simp only [Value.slice.injEq] at h1
      rw [List.length_map, h1.2.2]; exact h2
  rw [hcv] at hCA hcc ⊢
  have HB1 := Lib.hid (below_up HB.out hB)
  have HVh1 := Lib.hid ((hB.block _ (lt_of_heap HVh.out)).trans HVh.out)
  have v1 : w1.cell? ⟨w.heap.size, 0, none⟩ = some (.slice lo ts.length lc) := (Lib.cell_of_heap HVh1.out 0).trans rfl
  have C := Lib.hid (apart_any lo lc ts co cc ch w1 hts (by omega) HTo.out HCK.out (HLo.out.kept HB1.out) hCA (HP.out.kept HB1.out))
  have HCA := Lib.hid hCA
  clear hO hcv hB hCA CA v0 hV'
  cases hap : apartC ts ch with
  | false =>
    rw [hap] at C
    have E : Hid (RES = []) := Lib.hid (by rw [HRES.out, hap]; rfl)
    clear hap
    go_wp2_with fail
    refine C.out.mono ?_
    rintro e w2 ⟨rfl, b2⟩
    have B2 := Lib.hid (below_up HB1.out b2)
    clear b2
    go_wp2_with fail
    rw [Exit.noGoto_ret]
    exact ⟨_, results_tmp rfl _ _ _, by rw [E.out]; exact ⟨none, 0, rfl, .inl rfl, Nat.le_refl _, B2.out⟩⟩
  | true =>
    rw [hap] at C
    have E : Hid (RES = match (preL ch 4).find? (apartC ts) with | some c => c.map Prod.fst | none => []) := Lib.hid (by rw [HRES.out, hap, pre_all]; rfl)
    clear hap
    go_wp2_with fail
    refine C.out.mono ?_
    rintro e w2 ⟨rfl, b2⟩
    have B2 := Lib.hid (below_up HB1.out b2)
    have HVh2 := Lib.hid ((b2.block _ (lt_of_heap HVh1.out)).trans HVh1.out)
    have HCA2 := Lib.hid (HCA.out.kept b2)
    clear b2 v1 HCA C
    obtain ⟨Z, hZ⟩ : ∃ Z, Z = w2.alloc (.cells #[.slice none 0 0] 22) := ⟨_, rfl⟩
    have hZ' : w2.alloc (.cells #[.slice none 0 0] 22) = Z := hZ.symm
    have hZb : Below w2.heap.size w2 Z := by rw [hZ]; exact one_below w2 _
    have HBZ := Lib.hid (below_up B2.out hZb)
    have HLZ := Lib.hid ((hZb.block _ (lt_of_heap HVh2.out)).trans HVh2.out)
    have HOZ : Hid (Z.heap[w2.heap.size]? = some (.cells #[.slice none 0 0] 22 (0, 0))) := Lib.hid (by rw [hZ]; exact World.alloc_heap_new _ _)
    have HCZ := Lib.hid (HCA2.out.kept hZb)
    have HCZ2 := Lib.hid (show ∀ W, KeepsC Z W → CandsAt W co ch from fun W hW => HCZ.out.keptC hW)
    clear hZ hZb
    go_wp2_with fail
    go_step3
    go_wp2_with fail
    refine (wpIn_wide (n := 6)).1 ?_
    refine wpIn_loop (fun a' wr => ∃ (u8 u16 u17 u18 u19 u20 u21 u22 u24 u25 u26 u27 u28 u29 : Value) (q : Nat) (ds : List Nat), 1 ≤ q ∧ q ≤ 4 ∧ Hid (∀ c ∈ preL ch q, apartC ts c = false) ∧ Hid (Below w.heap.size w wr) ∧ Hid (KeepsC Z wr) ∧ Hid (Marks w.heap.size ds wr) ∧ Hid ds.Nodup ∧ a' = { tmps := #[.slice lo ts.length lc, .slice ao names.length cap, .pointer (some ⟨w.heap.size, 0, none⟩), undef, .slice none 0 0, .slice co ch.length cc, .pointer (some ⟨w2.heap.size, 0, none⟩), .int .i64 q, u8, .slice lo ts.length lc, .slice ao names.length cap, .slice co ch.length cc, .slice lo ts.length lc, .slice co ch.length cc, .bool true, .bool false, u16, u17, u18, u19, u20, u21, u22, undef, u24, u25, u26, u27, u28, u29], defers := ds.map colD }) (fun a' _ => 4 - (intOf (a'.tmps.getD 7 undef)).toNat) ?_ ?_
    · exact ⟨_, _, _, _, _, _, _, _, _, _, _, _, _, _, 1, [], Nat.le_refl _, by omega, Lib.hid (by simp [preL]), HBZ, Lib.hid (KeepsC.refl Z), Lib.hid (fun D hD => by cases hD), Lib.hid List.nodup_nil, rfl⟩
    · rintro a' wr ⟨u8, u16, u17, u18, u19, u20, u21, u22, u24, u25, u26, u27, u28, u29, q, ds, hq1, hq4, HA, HBr, HK, HM, HN, rfl⟩
      clear hZ'
      by_cases hlt : q ≤ 3
      · have hlti : (q : Int) ≤ 3 := by omega
        have CH := Lib.hid (choices_any co ch.length cc (q : Int) wr)
        gi_wp2_with (first | (gi_at_call 40; refine (callsIn_wide.2 CH.out).mono ?_; rintro e w3 ⟨rfl, hw3⟩) | (refine ⟨trivial, ?_⟩; gi_at_call 40; refine (callsIn_wide.2 CH.out).mono ?_; rintro e w3 ⟨rfl, hw3⟩))
        obtain ⟨X, hX0⟩ : ∃ X, X = ((wr.alloc (.cells #[.slice co ch.length cc] 66)).alloc (.cells #[.int .i64 q] 3)) := ⟨_, rfl⟩
        rw [← hX0] at hw3
        subst hw3
        rw [← hX0]
        have hXb : Below wr.heap.size wr w3 := by rw [hX0]; exact ((one_below wr _).alloc (by simp) _)
        have hXf : w3.heap[wr.heap.size]? = some (.cells #[.slice co ch.length cc] 66 (0, 0)) := by
          rw [hX0, Below.heap_alloc _ _ _ (by simp)]; exact World.alloc_heap_new _ _
        have hXn : w3.heap[wr.heap.size + 1]? = some (.cells #[.int .i64 q] 3 (0, 0)) := by
          rw [hX0]; exact box_new _ _ _ (by simp)
        have HKX := Lib.hid (HK.out.trans (KeepsC.below hXb))
        have HBX := Lib.hid (below_up HBr.out hXb)
        have HMX : Hid (Marks w.heap.size ds w3) := Lib.hid (fun D hD => by
          obtain ⟨h1, h2⟩ := HM.out D hD
          exact ⟨h1, (hXb.block D (lt_of_heap h2)).trans h2⟩)
        have TL := Lib.hid (choices_all q (by omega) 5 ch co cc (wr.heap.size + 1) wr.heap.size w3 (by omega) hcc (HCZ2.out _ HKX.out) hXn hXf)
        have HWX : Hid (w.heap.size ≤ w3.heap.size) := Lib.hid HBX.out.size
        clear hX0 hXb hXf hXn CH
        refine wpIn_range_tellsA (n := 6) rfl (by decide) (gf := 66) (lb := #[.pointer (some ⟨wr.heap.size + 1, 0, none⟩), .pointer (some ⟨wr.heap.size, 0, none⟩)]) rfl trivial (enters_of Tryd.func66 (by kernel_rfl) rfl)
          TL.out (Below.refl _ _) (fun _ => rfl) KeepsC.trans (fun A l o o' hl hk hc => KeepsC.put A l o o' hk hc) (fun {A B} hA hAB => KeepsC.below hAB)
          (fun pre' W' => (∀ y ∈ pre', apartC ts (listE y) = false) ∧ Below w.heap.size w W' ∧ KeepsC w3 W' ∧ Marks w.heap.size ds W')
          (fun c pre' W' => c = .exit 0 ∧ ∃ (p : List Elem) (y : Elem) (v : Value), pre' = p ++ [y] ∧ (∀ z ∈ p, apartC ts (listE z) = false) ∧ apartC ts (listE y) = true ∧ Below w.heap.size w W' ∧ W'.heap[w2.heap.size]? = some (.cells #[v] 22 (0, 0)) ∧ W'.ownsRow w.heap.size 9 1 v (listE y).length (((listE y).map Prod.fst).map Value.string) ∧ Marks w.heap.size ds W')
          (fun pre' A B h hb => by obtain ⟨h1, h2, h3, h4⟩ := h; exact ⟨h1, below_up h2 hb, h3.trans (KeepsC.below hb), fun D hD => ⟨(h4 D hD).1, (hb.block D (lt_of_heap (h4 D hD).2)).trans (h4 D hD).2⟩⟩)
          (fun c pre' A B h hb => by obtain ⟨hc, p, y, v, h1, h2, h3, h4, h5, h6, h7⟩ := h; exact ⟨hc, p, y, v, h1, h2, h3, below_up h4 hb, (hb.block _ (lt_of_heap h5)).trans h5, ownsRow_below h6 hb, fun D hD => ⟨(h7 D hD).1, (hb.block D (lt_of_heap (h7 D hD).2)).trans (h7 D hD).2⟩⟩)
          (fun pre' A l o o' h hl hk hc => by obtain ⟨h1, h2, h3, h4⟩ := h; exact ⟨h1, below_putL o' h2 (Nat.le_trans HWX.out hl), h3.trans (KeepsC.put A l o o' hk hc), fun D hD => ⟨(h4 D hD).1, by rw [World.putObj_heap_other (by have := lt_of_heap (HMX.out D hD).2; omega)]; exact (h4 D hD).2⟩⟩)
          (fun c pre' A l o o' h hl hk hc => by obtain ⟨hcc, p, y, v, h1, h2, h3, h4, h5, h6, h7⟩ := h; exact ⟨hcc, p, y, v, h1, h2, h3, below_putL o' h4 (Nat.le_trans HWX.out hl), heap_putL hk hc h5, ownsRow_putObj h6 o' hk hc, fun D hD => ⟨(h7 D hD).1, by rw [World.putObj_heap_other (by have := lt_of_heap (HMX.out D hD).2; omega)]; exact (h7 D hD).2⟩⟩)
          (fun pre' x' A B h hb => ⟨h.1.kept hb, h.2⟩) (fun pre' x' A l o o' h hl hk hc => ⟨h.1.keptC (KeepsC.put A l o o' hk hc), h.2⟩)
          ⟨by simp, HBX.out, KeepsC.refl w3, HMX.out⟩
          (fun x' a' A => a' = { tmps := #[.slice lo ts.length lc, .slice ao names.length cap, .pointer (some ⟨w.heap.size, 0, none⟩), undef, .slice none 0 0, .slice co ch.length cc, .pointer (some ⟨w2.heap.size, 0, none⟩), .int .i64 q, .slice x'.1 x'.2.2.length x'.2.1, .slice lo ts.length lc, .slice ao names.length cap, .slice co ch.length cc, .slice lo ts.length lc, .slice co ch.length cc, .bool true, .bool false, .int .i64 q, .bool true, u18, u19, .slice co ch.length cc, .int .i64 q, .func (.func 66) #[] #[.pointer (some ⟨wr.heap.size + 1, 0, none⟩), .pointer (some ⟨wr.heap.size, 0, none⟩)], .slice x'.1 x'.2.2.length x'.2.1, u24, u25, u26, u27, u28, u29], defers := [] })
          (fun x' a' A l o o' h hl ho hc => h) ?assign ?body ?done ?stop
        case assign =>
          intro l x' A K hA hK
          unfold encE
          gi_wp2_with fail
          exact hK _ _ (Below.refl _ A) rfl
        case body =>
          rintro lp2 pre' ⟨xa, xc, xl⟩ a' A hA hI hok rfl
          obtain ⟨hna, hbA, hkA, hmA⟩ := hI
          obtain ⟨hcand, -, hpre⟩ := hok
          dsimp only at hcand hpre
          have HKA := Lib.hid (HKX.out.trans hkA)
          have HNA := Lib.hid hna
          have HBA := Lib.hid hbA
          have HMA := Lib.hid hmA
          have HKA3 := Lib.hid hkA
          have hm : xl ∈ choicesL q ch := hpre.subset (by simp [listE])
          obtain ⟨hxl, hxm⟩ := choices_len q ch xl hm
          have a0 : A.cell? ⟨w.heap.size, 0, none⟩ = some (.slice lo ts.length lc) := (Lib.cell_of_heap (HKA.out.2 _ _ _ _ HLZ.out) 0).trans rfl
          have HOA := Lib.hid (HKA.out.2 _ _ _ _ HOZ.out)
          have hxl3 : xl.length ≤ 3 := by omega
          have CP := Lib.hid (apart_any lo lc ts xa xc xl A hts (by omega) HTo.out (fun c hc => HCK.out c (hxm c hc)) (HLo.out.kept HBA.out) hcand (HP.out.kept HBA.out))
          have HXA := Lib.hid hcand
          have HXS : Hid (∀ c ∈ xl, c.1.size ≤ 281474976710656) := Lib.hid (fun c hc => Nat.le_trans (HNM.out c (hxm c hc)) (by omega))
          clear hna hbA hkA hmA hcand hpre hm hxl hxm
          cases hax : apartC ts xl with
          | false =>
            rw [hax] at CP
            have HI2 : Hid (∀ y ∈ pre' ++ [(xa, xc, xl)], apartC ts (listE y) = false) := Lib.hid (fun y hy => by
              rw [List.mem_append, List.mem_singleton] at hy
              rcases hy with hy | rfl
              · exact HNA.out y hy
              · exact hax)
            clear hax
            gi_wp2_with (first | (gi_at_call 39; refine (CallsIn.inRound lp2 (callsIn_wide.2 CP.out)).mono ?_; rintro e w4 ⟨rfl, b4⟩; have B4 := Lib.hid b4; clear b4) | (refine ⟨trivial, ?_⟩; gi_at_call 39; refine (CallsIn.inRound lp2 (callsIn_wide.2 CP.out)).mono ?_; rintro e w4 ⟨rfl, b4⟩; have B4 := Lib.hid b4; clear b4))
            exact ⟨⟨B4.out.size, fun i o hi ho hc => (B4.out.block i (lt_of_heap ho)).trans ho⟩, KeepsC.below B4.out, HI2.out, below_up HBA.out B4.out, HKA3.out.trans (KeepsC.below B4.out), fun D hD => ⟨(HMA.out D hD).1, (B4.out.block D (lt_of_heap (HMA.out D hD).2)).trans (HMA.out D hD).2⟩⟩
          | true =>
            rw [hax] at CP
            have HAX := Lib.hid hax
            clear hax
            have CN := Lib.hid (fun W (hW : Below A.heap.size A W) => namesOf_any xa xc xl W (by omega) HXS.out (HXA.out.kept hW))
            gi_wp2_with (first
              | (gi_at_call 39; refine (CallsIn.inRound lp2 (callsIn_wide.2 CP.out)).mono ?_; rintro e w4 ⟨rfl, b4⟩; have B4 := Lib.hid b4; clear b4)
              | (refine ⟨trivial, ?_⟩; gi_at_call 39; refine (CallsIn.inRound lp2 (callsIn_wide.2 CP.out)).mono ?_; rintro e w4 ⟨rfl, b4⟩; have B4 := Lib.hid b4; clear b4)
              | (gi_at_call 41; refine (CallsIn.inRound lp2 (callsIn_wide.2 (CN.out _ B4.out))).mono ?_; rintro e w5 ⟨v, rfl, ho5, b5⟩; have O5 := Lib.hid ho5; have B5 := Lib.hid (below_up B4.out b5); (obtain ⟨vo, vc, rfl⟩ := own_slice ho5); have k5 : w5.cell? ⟨w2.heap.size, 0, none⟩ = some (.slice none 0 0) := (Lib.cell_of_heap ((B5.out.block _ (lt_of_heap HOA.out)).trans HOA.out) 0).trans rfl; have f5 : w5.frozen? ⟨w2.heap.size, 0, none⟩ = false := frozen_free ((B5.out.block _ (lt_of_heap HOA.out)).trans HOA.out) 0; have H4 := Lib.hid b5.size; clear ho5 b5)
              | (refine ⟨trivial, ?_⟩; gi_at_call 41; refine (CallsIn.inRound lp2 (callsIn_wide.2 (CN.out _ B4.out))).mono ?_; rintro e w5 ⟨v, rfl, ho5, b5⟩; have O5 := Lib.hid ho5; have B5 := Lib.hid (below_up B4.out b5); (obtain ⟨vo, vc, rfl⟩ := own_slice ho5); have k5 : w5.cell? ⟨w2.heap.size, 0, none⟩ = some (.slice none 0 0) := (Lib.cell_of_heap ((B5.out.block _ (lt_of_heap HOA.out)).trans HOA.out) 0).trans rfl; have f5 : w5.frozen? ⟨w2.heap.size, 0, none⟩ = false := frozen_free ((B5.out.block _ (lt_of_heap HOA.out)).trans HOA.out) 0; have H4 := Lib.hid b5.size; clear ho5 b5))
            have HS : Hid ((w5.setCell ⟨w2.heap.size, 0, none⟩ (.slice vo xl.length vc)).heap[w2.heap.size]? = some (.cells #[.slice vo xl.length vc] 22 (0, 0))) := Lib.hid (by
              rw [heap_set _ ((B5.out.block _ (lt_of_heap HOA.out)).trans HOA.out)]; rfl)
            have hlt2 := lt_of_heap HOA.out
            have hB4s := B4.out.size
            have hB2s := B2.out.size
            exact ⟨⟨by have := B5.out.size; simpa using this, fun i o hi ho hc => by
                rw [Go.Deep.blk_setCell_other _ _ _ _ (by
                  rintro rfl
                  rw [HOA.out] at ho; cases ho; cases hc)]
                exact (B5.out.block i (lt_of_heap ho)).trans ho⟩,
              rfl, pre', (xa, xc, xl), _, rfl, HNA.out, HAX.out, (below_up HBA.out B5.out).setCell (p := ⟨w2.heap.size, 0, none⟩) hB2s _, HS.out,
              (O5.out.mono (by have := HBA.out.size; omega)).kept (grown_box w5 w2.heap.size 0 _) (by
                cases hob : (Value.slice vo xl.length vc).ownBlock with
                | none => exact .inl rfl
                | some g => exact .inr (fun e => by cases e; have := (O5.out.lt _ hob).1; omega)),
              fun D hD => ⟨(HMA.out D hD).1, by
                rw [Go.Deep.blk_setCell_other _ _ _ _ (by
                  rintro rfl
                  have := (HMA.out _ hD).2
                  rw [HOA.out] at this; cases this)]
                exact (B5.out.block D (lt_of_heap (HMA.out D hD).2)).trans (HMA.out D hD).2⟩⟩
        case done =>
          rintro D ps A hD hS ⟨h1, h2, h3, h4⟩ hK
          have HA2 : Hid (∀ c ∈ preL ch (q + 1), apartC ts c = false) := Lib.hid (fun c hc => by
            rw [pre_next ch q hq1, List.mem_append] at hc
            rcases hc with hc | hc
            · exact HA.out c hc
            · rw [← hS, List.mem_map] at hc
              obtain ⟨y, hy, rfl⟩ := hc
              exact h1 y hy)
          have HB2 := Lib.hid h2
          have HK2 := Lib.hid (HKX.out.trans h3)
          have HM2 : Hid (Marks w.heap.size (D :: ds) A) := Lib.hid (fun d hd => by
            rcases List.mem_cons.1 hd with rfl | hd
            · exact ⟨Nat.le_trans HWX.out hD, hK⟩
            · exact h4 d hd)
          have HN2 : Hid (D :: ds).Nodup := Lib.hid (by
            rw [List.nodup_cons]
            exact ⟨fun hd => by have := lt_of_heap (HMX.out D hd).2; omega, HN.out⟩)
          have ew : IntKind.i64.wrap ((q : Int) + 1) = (q : Int) + 1 := IntWalk.i64_in _ (by omega)
          clear hS h1 h2 h3 h4
          gi_wp2_with fail
          refine ⟨⟨_, _, _, _, _, _, _, _, _, _, _, _, _, _, q + 1, D :: ds, by omega, by omega, HA2, HB2, HK2, HM2, HN2, rfl⟩, ?_⟩
          simp [intOf]; omega
        case stop =>
          rintro D c ps A hD hS ⟨rfl, p, y, v, rfl, h2, h3, h4, h5, h6, h7⟩ hK
          have HR : Hid (RES = (listE y).map Prod.fst) := Lib.hid (by
            rw [E.out]
            obtain ⟨t, ht⟩ := pre_more ch q hq1 hlt
            obtain ⟨t2, ht2⟩ := hS
            have e : preL ch 4 = (preL ch q ++ p.map listE) ++ listE y :: (t2 ++ t) := by
              rw [ht, ← ht2]; simp
            have hf : (preL ch 4).find? (apartC ts) = some (listE y) := by
              rw [e, List.find?_append]
              have hnone : (preL ch q ++ p.map listE).find? (apartC ts) = none := by
                rw [List.find?_eq_none]
                intro z hz
                rw [List.mem_append, List.mem_map] at hz
                rcases hz with hz | ⟨d, hd, rfl⟩
                · simp [HA.out z hz]
                · simp [h2 d hd]
              rw [hnone, List.find?_cons, h3]; rfl
            rw [hf])
          have c5 : A.cell? ⟨w2.heap.size, 0, none⟩ = some v := (Lib.cell_of_heap h5 0).trans rfl
          have HM2 : Hid (Marks w.heap.size (D :: ds) A) := Lib.hid (fun d hd => by
            rcases List.mem_cons.1 hd with rfl | hd
            · exact ⟨Nat.le_trans HWX.out hD, hK⟩
            · exact h7 d hd)
          have HN2 : Hid (D :: ds).Nodup := Lib.hid (by
            rw [List.nodup_cons]
            exact ⟨fun hd => by have := lt_of_heap (HMX.out D hd).2; omega, HN.out⟩)
          have HO6 := Lib.hid h6
          have HB6 := Lib.hid h4
          clear hS h2 h3 h4 h5 h6 h7
          gi_wp2_with fail
          go_wp2_with fail
          rw [Exit.noGoto_ret]
          refine leaves_all (by simp) w.heap.size (fun W' => W'.ownsRow w.heap.size 9 1 v (listE y).length (((listE y).map Prod.fst).map Value.string) ∧ RowKit.Below w.heap.size w W') (fun A l o o' h hl hk hc => ⟨ownsRow_putObj h.1 o' hk hc, below_putL o' h.2 hl⟩) ?_ (D :: ds) A HN2.out HM2.out ⟨HO6.out, HB6.out⟩
          intro w' h
          obtain ⟨ao2, cap2, hv, hst, hcp⟩ := own_names h.1 (by simp)
          exact ⟨_, results_tmp rfl _ _ _, by rw [HR.out]; exact ⟨ao2, cap2, by rw [← hv]; rfl, hst, hcp, h.2⟩⟩
      · have hlti : ¬ (q : Int) ≤ 3 := by omega
        have HR : Hid (RES = []) := Lib.hid (by
          rw [E.out]
          have hf : (preL ch 4).find? (apartC ts) = none := by
            rw [List.find?_eq_none]
            intro z hz
            have h4 : q = 4 := by omega
            subst h4
            simp [HA.out z hz]
          rw [hf])
        have c5 : wr.cell? ⟨w2.heap.size, 0, none⟩ = some (.slice none 0 0) := (Lib.cell_of_heap (HK.out.2 _ _ _ _ HOZ.out) 0).trans rfl
        gi_wp2_with fail
        go_wp2_with fail
        rw [Exit.noGoto_ret]
        refine leaves_all (by simp) w.heap.size (fun W' => RowKit.Below w.heap.size w W') (fun A l o o' h hl hk hc => below_putL o' h hl) ?_ ds wr HN.out HM.out HBr.out
        intro w' h
        exact ⟨_, results_tmp rfl _ _ _, by rw [HR.out]; exact ⟨none, 0, rfl, .inl rfl, Nat.le_refl _, h⟩⟩
end Go.Proofs.YtmomjhnbhckhpaaDoor
