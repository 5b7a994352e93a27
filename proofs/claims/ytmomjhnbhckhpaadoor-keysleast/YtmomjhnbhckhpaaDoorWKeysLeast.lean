/-
  The walk of the statement KeysLeast.
  Conditions: the library's table of powers of ten reads as its text lays it.
-/
import Derived.WalkKit
import Derived.WalkMore
import Derived.IntWalk
import Derived.OwnWalk
import Derived.Lib.Hide
import Derived.BigQuiet
import Derived.Deep.QuietTactic
import Derived.Test.YtmomjhnbhckhpaaDoorProg
import Derived.Test.YtmomjhnbhckhpaaDoorKOpen
import Derived.Test.YtmomjhnbhckhpaaDoorKWorks
import Derived.Test.YtmomjhnbhckhpaaDoorKMath5
namespace Go.Proofs.YtmomjhnbhckhpaaDoor
open Go.RowKit Go.Shelf
set_option linter.unusedVariables false

theorem txt_same (x y : ByteArray) : (x.toList == y.toList) = decide (x = y) := by
  by_cases h : x = y
  · subst h; simp
  · rw [decide_eq_false h, beq_eq_false_iff_ne]
    intro e
    rw [ba_toList, ba_toList] at e
    exact h (ba_eq e)
theorem nm_inj {names : List ByteArray} (h : names.Nodup) {a b : Nat} (ha : a < names.length) (hb : b < names.length) (e : nm names a = nm names b) : a = b := by
  have h1 := nm_at ha
  have h2 := nm_at hb
  rw [e, ← h2] at h1
  exact (List.getElem?_inj ha h).1 h1
theorem nodup_of (names : List ByteArray) (h : ∀ a b : Nat, b < a → a < names.length → nm names a ≠ nm names b) : names.Nodup := by
  rw [List.Nodup, List.pairwise_iff_getElem]
  intro i j hi hj hij e
  have h1 := nm_at hi
  have h2 := nm_at hj
  rw [List.getElem?_eq_getElem hi] at h1
  rw [List.getElem?_eq_getElem hj] at h2
  have h1 := Option.some.inj h1
  have h2 := Option.some.inj h2
  exact h j i hij hj (by rw [← h1, ← h2, e])
theorem infer_in (ts : List Tab) (names : List ByteArray) : (∀ c ∈ inferC ts names, c ∈ names) ∧ (inferC ts names).length ≤ 3 := by
  rw [infer_same]; unfold inferR firstOf
  split
  · rename_i x hx
    have hm := List.mem_of_find?_eq_some hx
    unfold preR at hm
    rw [List.mem_flatMap] at hm
    obtain ⟨i, hi, hm⟩ := hm
    have hl := choices_len _ _ x hm
    refine ⟨fun c hc => ?_, by rw [hl.1]; simp at hi; omega⟩
    have := hl.2 c hc
    unfold candR at this
    exact (once_mem names c).1 (List.mem_filter.1 this).1
  · exact ⟨(fun c hc => by cases hc), by simp⟩
/-- a beginning of the choice, as places that rise -/
structure Chosen (choice : List Int) (n k : Nat) (C : List Nat) : Prop where
  len : C.length = k
  is : choice.take k = C.map fun (c : Nat) => (c : Int)
  rise : C.Pairwise (· < ·)
  less : ∀ c ∈ C, c < n
theorem Chosen.nil (choice : List Int) (n : Nat) : Chosen choice n 0 [] := ⟨rfl, rfl, List.Pairwise.nil, fun c h => by cases h⟩
theorem Chosen.at {choice : List Int} {n k : Nat} {C : List Nat} (h : Chosen choice n k C) (hk : k ≤ choice.length) (i : Nat) (hi : i < k) : ∃ c : Nat, C[i]? = some c ∧ choice[i]? = some (c : Int) ∧ c < n := by
  obtain ⟨c, hc⟩ : ∃ c, C[i]? = some c := ⟨_, List.getElem?_eq_getElem (by rw [h.len]; exact hi)⟩
  refine ⟨c, hc, ?_, h.less c (List.mem_of_getElem? hc)⟩
  have := congrArg (fun l : List Int => l[i]?) h.is
  simp only [List.getElem?_take_of_lt hi, List.getElem?_map, hc, Option.map_some] at this
  exact this
theorem Chosen.more {choice : List Int} {n k : Nat} {C : List Nat} (h : Chosen choice n k C) (m : Nat) (hm : choice[k]? = some (m : Int)) (hmn : m < n) (hl : k = 0 ∨ ∃ p : Int, choice[k - 1]? = some p ∧ p < (m : Int)) : Chosen choice n (k + 1) (C ++ [m]) := by
  obtain ⟨hk, e⟩ := List.getElem?_eq_some_iff.1 hm
  refine ⟨by simp [h.len], ?_, ?_, fun c hc => ?_⟩
  · rw [List.take_succ_eq_append_getElem hk, e, h.is]; simp
  · rw [List.pairwise_append]
    refine ⟨h.rise, by simp, fun a ha b hb => ?_⟩
    simp only [List.mem_singleton] at hb
    subst hb
    rcases hl with h0 | ⟨p, hp, hpm⟩
    · have := h.len
      have : C = [] := List.eq_nil_of_length_eq_zero (by omega)
      subst this; cases ha
    · by_cases h0 : k = 0
      · have := h.len
        have : C = [] := List.eq_nil_of_length_eq_zero (by omega)
        subst this; cases ha
      obtain ⟨c, hc, hcc, -⟩ := h.at (by omega) (k - 1) (by omega)
      rw [hp] at hcc
      simp only [Option.some.injEq] at hcc
      obtain ⟨i, hi⟩ := List.mem_iff_getElem?.1 ha
      obtain ⟨b1, e1⟩ := List.getElem?_eq_some_iff.1 hi
      obtain ⟨b2, e2⟩ := List.getElem?_eq_some_iff.1 hc
      have hlen := h.len
      rcases Nat.lt_or_ge i (k - 1) with h4 | h4
      · have := List.pairwise_iff_getElem.1 h.rise i (k - 1) b1 b2 h4
        rw [e1, e2] at this; omega
      · have : i = k - 1 := by omega
        subst this
        rw [hi] at hc; cases hc; omega
  · rcases List.mem_append.1 hc with h1 | h1
    · exact h.less c h1
    · simp at h1; subst h1; exact hmn

set_option maxRecDepth 100000 in
set_option maxHeartbeats 4000000 in
theorem walkKeysLeast (lo : Option Addr) (lc : Nat) (ts : List Tab) (no : Option Addr) (nc : Nat) (names : List ByteArray) (co : Option Addr) (cc : Nat) (choice : List Int) (w : World) (hL : TabsArg w lo lc ts) (hN : StrArg w no nc names) (hI : IntsArg w co cc choice) (hpow : Pow w) :
    Calls Tryd.prog 5 #[.slice lo ts.length lc, .slice no names.length nc, .slice co choice.length cc] w fun e w' => e = .returned (.bool true) ∧ Below w.heap.size w w' := by
  have hinfo : (Tryd.prog.info? 9).map (fun i => (i.zero, i.size, i.bytes)) = some (some (.string ⟨#[]⟩), 1, 16) := by kernel_rfl
  obtain ⟨i0, hi, hz0, hz1, hz2⟩ := info_parts2 hinfo
  have HInf := Lib.hid hi
  have HL := Lib.hid hL
  have HN := Lib.hid hN
  have HI := Lib.hid hI
  have HP := Lib.hid hpow
  have C0 := Lib.hid (works_any w hpow)
  have cl := hI.len
  unfold maxLen at cl
  clear hL hN hI hpow hi hinfo
  go_enter Tryd.func5, Tryd.ntmps5
  go_wp2_with fail
  refine C0.out.mono ?_; rintro e w1 ⟨rfl, b1⟩
  have B1 := Lib.hid b1
  have C1 := Lib.hid (few11_any lo lc ts no nc names.length w1 HL.out.len HN.out.len HL.out.ok (HL.out.tabs.kept b1))
  clear b1 C0
  go_wp2_with fail
  refine C1.out.mono ?_; rintro e w2 ⟨b, rfl, hb, b2⟩
  have B2 := Lib.hid (below_up B1.out b2)
  clear b2 C1 B1
  cases b with
  | false =>
    clear hb
    go_wp2_with fail
    go_ret
    exact ⟨rfl, B2.out⟩
  | true =>
    obtain ⟨h4, h12, hf⟩ := hb rfl
    obtain ⟨f1, f2, f3, f4⟩ := few_bounds hf
    have hz : ∀ c ∈ names, c.size ≤ 140737488355328 := fun c hc => by have := HN.out.size c hc; omega
    have hz2' : ∀ c ∈ names, c.size ≤ maxLen := fun c hc => by have := HN.out.size c hc; unfold maxLen; omega
    have CA := Lib.hid (fun V (h : Below w.heap.size w V) => infer_any lo lc ts no nc names V (by omega) (by omega) hz f1 f2 (HL.out.tabs.kept h) (HN.out.row.kept h) (HP.out.kept h))
    have CU := Lib.hid (fun V (ao : Option Addr) (cap : Nat) (xs : List ByteArray) (hxl : xs.length ≤ 1048576) (hxs : ∀ c ∈ xs, c ∈ names) (h : Below w.heap.size w V) (hst : StrRow V ao xs) => usable_any lo lc ts ao cap xs V (by omega) hxl (fun c hc => hz2' c (hxs c hc)) f1 f2 (HL.out.tabs.kept h) hst (HP.out.kept h))
    have hn12 : names.length ≤ 12 := h12
    clear hb h4 h12 hf f1 f2 f3 f4 hz hz2'
    by_cases g1 : choice.length < 1
    · have e1 : decide ((choice.length : Int) < 1) = true := decide_eq_true (by omega)
      go_wp2_with fail
      go_ret
      exact ⟨rfl, B2.out⟩
    have e1 : decide ((choice.length : Int) < 1) = false := decide_eq_false (by omega)
    by_cases g3 : 3 < choice.length
    · have e3 : decide ((3 : Int) < (choice.length : Int)) = true := decide_eq_true (by omega)
      go_wp2_with fail
      go_ret
      exact ⟨rfl, B2.out⟩
    have e3 : decide ((3 : Int) < (choice.length : Int)) = false := decide_eq_false (by omega)
    go_wp2_with fail
    clear e1 e3
    go_loopw [8, 9] (fun u v wr => ∃ (i : Nat), i ≤ names.length ∧ u = .int .i64 i ∧ Hid (Below w.heap.size w wr) ∧ Hid (∀ a b : Nat, b < a → a < i → nm names a ≠ nm names b)) (fun u _ _ => names.length - (intOf u).toNat)
    case atStart => exact ⟨0, Nat.zero_le _, rfl, B2, Lib.hid (fun a b _ h => by omega)⟩
    case round =>
      obtain ⟨i, hi, rfl, HB, HA⟩ := hrel
      by_cases hlt : i < names.length
      · go_wp2_with fail
        obtain ⟨wo, HWo⟩ : ∃ wo : World, Hid (wo = wr) := ⟨_, Lib.hid rfl⟩
        rw [← HWo.out]
        rw [← HWo.out] at HB
        clear HWo
        go_loopw [9] (fun v wr => ∃ (k : Nat), k ≤ i ∧ v = .int .i64 k ∧ Hid (Below w.heap.size w wr) ∧ Hid (∀ b : Nat, b < k → nm names i ≠ nm names b)) (fun v _ => i - (intOf v).toNat)
        case atStart => exact ⟨0, Nat.zero_le _, rfl, HB, Lib.hid (fun b h => by omega)⟩
        case round =>
          obtain ⟨k, hk, rfl, HB, HAk⟩ := hrel
          by_cases hki : k < i
          · rcases (HN.out.row.kept HB.out) with h0 | ⟨A, rfl, hA, hcell⟩
            · rw [h0] at hlt; simp at hlt
            have c1 := hcell i _ (nm_at hlt)
            have c2 := hcell k _ (nm_at (show k < names.length by omega))
            have hkn : k < names.length := by omega
            have hs := txt_same (nm names i) (nm names k)
            obtain ⟨x, hx⟩ : ∃ x, x = nm names i := ⟨_, rfl⟩
            obtain ⟨y, hy⟩ : ∃ y, y = nm names k := ⟨_, rfl⟩
            have HXY := Lib.hid (And.intro hx hy)
            rw [← hx] at c1 hs
            rw [← hy] at c2 hs
            clear hcell hx hy
            by_cases hxy : x = y
            · rw [decide_eq_true hxy] at hs
              clear hxy
              go_upto_region 12 with fail
              go_quiet (fail)
              have HBq := Lib.hid (bdn (n := nq) HB.out)
              go_wp2_with fail
              go_ret
              exact ⟨rfl, HBq.out⟩
            · rw [decide_eq_false hxy] at hs
              have HAk2 : Hid (∀ b : Nat, b < k + 1 → nm names i ≠ nm names b) := Lib.hid (fun b hb => by
                by_cases e : b = k
                · subst e; rw [← HXY.out.1, ← HXY.out.2]; exact hxy
                · exact HAk.out b (by omega))
              clear hxy
              go_upto_region 12 with fail
              go_quiet (fail)
              have HBq := Lib.hid (bdn (n := nq) HB.out)
              go_wp2_with fail
              go_roundw
              case rel => exact ⟨k + 1, by omega, by go_num, HBq, HAk2⟩
              case measure => simp [intOf]; omega
          · obtain rfl : k = i := by omega
            have HA2 : Hid (∀ a b : Nat, b < a → a < k + 1 → nm names a ≠ nm names b) := Lib.hid (fun a b h1 h2 => by
              by_cases e : a = k
              · subst e; exact HAk.out b h1
              · exact HA.out a b h1 (by omega))
            go_wp2_with fail
            go_roundw
            case rel => exact ⟨k + 1, by omega, by go_num, HB, HA2⟩
            case measure => simp [intOf]; omega
      · obtain rfl : i = names.length := by omega
        have HNd : Hid (names.Nodup) := Lib.hid (nodup_of names HA.out)
        have HB3 := HB
        clear HB HA B2 hlt
        go_wp2_with fail
        obtain ⟨wo, HWo⟩ : ∃ wo : World, Hid (wo = wr) := ⟨_, Lib.hid rfl⟩
        rw [← HWo.out]
        rw [← HWo.out] at HB3
        clear HWo
        go_loopw [10, 11] (fun u v wr => ∃ (k cap : Nat) (xo : Option Addr) (C : List Nat), k ≤ choice.length ∧ u = .slice xo k cap ∧ v = .int .i64 k ∧ Hid (Chosen choice names.length k C) ∧ Hid (Below w.heap.size w wr) ∧ Hid (wr.ownsRow w.heap.size 9 1 (.slice xo k cap) k ((C.map (nm names)).map Value.string))) (fun _ v _ => choice.length - (intOf v).toNat)
        case atStart => exact ⟨0, 0, none, [], Nat.zero_le _, rfl, rfl, Lib.hid (Chosen.nil _ _), HB3, Lib.hid (World.ownsRow_nil _ _ _ _)⟩
        case round =>
          clear HB3
          obtain ⟨k, cap, xo, C, hk, rfl, rfl, HC, HB, HO⟩ := hrel
          by_cases hlt : k < choice.length
          · obtain ⟨ch, hch⟩ : ∃ ch, choice[k]? = some ch := ⟨_, List.getElem?_eq_getElem hlt⟩
            rcases (HI.out.ints.kept HB.out) with h0 | ⟨A, rfl, hA, hcell⟩
            · rw [h0] at hlt; simp at hlt
            have c1 := hcell k _ hch
            have HCh := Lib.hid hch
            by_cases hneg : ch < 0
            · have d1 : decide (ch < 0) = true := decide_eq_true hneg
              clear hcell hch hneg
              go_upto_region 18 with fail
              go_quiet (fail)
              have HBq := Lib.hid (bdn (n := nq) HB.out)
              go_wp2_with fail
              go_ret
              exact ⟨rfl, HBq.out⟩
            have d1 : decide (ch < 0) = false := decide_eq_false hneg
            obtain ⟨m, rfl⟩ := Int.eq_ofNat_of_zero_le (show 0 ≤ ch by omega)
            by_cases hbig : names.length ≤ m
            · have d2 : decide ((names.length : Int) ≤ (m : Int)) = true := decide_eq_true (by omega)
              have d2' : decide (names.length ≤ m) = true := decide_eq_true hbig
              clear hcell hch hneg hbig
              go_upto_region 18 with fail
              go_quiet (fail)
              have HBq := Lib.hid (bdn (n := nq) HB.out)
              go_wp2_with fail
              go_ret
              exact ⟨rfl, HBq.out⟩
            have hmn : m < names.length := by omega
            have d2 : decide ((names.length : Int) ≤ (m : Int)) = false := decide_eq_false (by omega)
            have d2' : decide (names.length ≤ m) = false := decide_eq_false hbig
            have HMore := Lib.hid (fun h => HC.out.more m HCh.out hmn h)
            obtain ⟨Q, HQ⟩ : ∃ Q : Prop, Hid (Q ↔ (k = 0 ∨ ∃ p : Int, choice[k - 1]? = some p ∧ p < (m : Int))) := ⟨_, Lib.hid Iff.rfl⟩
            go_upto_region 18 with fail
            go_cut [89] from 60 to 89 (fun u wc => ∃ b : Bool, u = .bool b ∧ Hid (b = false → Q) ∧ Hid (Below wr.heap.size wr wc))
            case first =>
              by_cases hk0 : k = 0
              · have d3 : decide ((0 : Int) < (k : Int)) = false := decide_eq_false (by omega)
                have d3' : decide (0 < k) = false := decide_eq_false (by omega)
                have HQ1 : Hid Q := Lib.hid (HQ.out.2 (.inl hk0))
                clear hcell hch hk0
                go_quiet (fail)
                go_wp2_with fail
                go_meet
                exact ⟨false, rfl, Lib.hid (fun _ => HQ1.out), Lib.hid (bdn (n := nq) (Below.refl _ wr))⟩
              · have d3 : decide ((0 : Int) < (k : Int)) = true := decide_eq_true (by omega)
                have d3' : decide (0 < k) = true := decide_eq_true (by omega)
                obtain ⟨j, hj⟩ : ∃ j, j = k - 1 := ⟨_, rfl⟩
                have es : (k : Int) - 1 = (j : Int) := by omega
                have ws : IntKind.i64.wrap ((k : Int) - 1) = (j : Int) := by rw [IntWalk.i64_in _ (by omega)]; exact es
                have wj : IntKind.i64.wrap (j : Int) = (j : Int) := IntWalk.i64_in _ (by omega)
                have hjl : j < choice.length := by omega
                obtain ⟨p, hp⟩ : ∃ p, choice[j]? = some p := ⟨_, List.getElem?_eq_getElem hjl⟩
                have c2 := hcell j _ hp
                have HPj : Hid (choice[k - 1]? = some p) := Lib.hid (by rw [← hj]; exact hp)
                have HQ1 : Hid (decide ((m : Int) ≤ p) = false → Q) := Lib.hid (fun h => HQ.out.2 (.inr ⟨p, HPj.out, by have := of_decide_eq_false h; omega⟩))
                clear hcell hch hk0 hj hp es
                go_quiet (fail)
                go_wp2_with fail
                go_meet
                exact ⟨_, rfl, HQ1, Lib.hid (bdn (n := nq) (Below.refl _ wr))⟩
            case rest =>
              obtain ⟨b, rfl, HQb, HBc⟩ := hcut
              rename World => wc
              have HB2 := Lib.hid (below_up HB.out HBc.out)
              cases b with
              | true =>
                clear hcell hch c1
                go_wp2_with fail
                go_ret
                exact ⟨rfl, HB2.out⟩
              | false =>
                have HC2 := Lib.hid (HMore.out (HQ.out.1 (HQb.out rfl)))
                have c1' : wc.cell? (A.add k) = some (.int .i64 m) := (HBc.out.cell (p := A.add k) (by rw [add_block]; exact hA)).trans c1
                have HO2 := Lib.hid (ownsRow_below HO.out HBc.out)
                rcases (HN.out.row.kept HB2.out) with h0 | ⟨N, rfl, hNl, hncell⟩
                · rw [h0] at hmn; simp at hmn
                have c3 := hncell m _ (nm_at hmn)
                have HT1 := Lib.hid (HO2.out.alloc (.cells #[Value.string (nm names m)] 9))
                have hws : w.heap.size ≤ (wc.alloc (.cells #[Value.string (nm names m)] 9)).heap.size := by have := HB2.out.size; simp; omega
                have HB2a := Lib.hid (HB2.out.alloc HB2.out.size (.cells #[Value.string (nm names m)] 9))
                have HMp : Hid ((C.map (nm names)).map Value.string ++ [Value.string (nm names m)] = ((C ++ [m]).map (nm names)).map Value.string) := Lib.hid (by simp)
                generalize (C.map (nm names)).map Value.string = L0 at HT1 HMp
                clear hcell hch c1 hncell HO HO2 HC HB HMore HQb HQ
                go_wp2_with (at_builtin; refine wpList_append_own _ rfl _ _ 22 rfl w.heap.size 9 i0 (.string ⟨#[]⟩) 1 16 Tryd.underlying22 HInf.out hz0 hz1 hz2 rfl (by decide) _ _ _ rfl HT1.out ⟨wc.heap.size, 0, none⟩ 1 1 [Value.string (nm names m)] rfl rfl (src_text wc _ _ _ rfl) (fun u hu => by simp at hu; subst hu; rfl) (by unfold maxLen; omega) (by omega) hws ?_)
                intro v' w6 hown hgrow _
                obtain ⟨g, gc, rfl⟩ := ownsRow_succ hown
                have HB6 := Lib.hid (HB2a.out.grown hgrow hws (fun j h => (HT1.out.lt j h).1))
                have HO6 : Hid (w6.ownsRow w.heap.size 9 1 (.slice (some ⟨g, 0, none⟩) (k + 1) gc) (k + 1) (((C ++ [m]).map (nm names)).map Value.string)) := Lib.hid (by rw [← HMp.out]; exact hown)
                clear hown hgrow HT1 HMp hws c1' c3
                go_wp2_with fail
                go_roundw
                case rel => exact ⟨k + 1, gc, _, C ++ [m], by omega, rfl, by go_num, HC2, HB6, HO6⟩
                case measure => simp [intOf]; omega
          · obtain rfl : k = choice.length := by omega
            have HXr : Hid (StrRow wr xo (C.map (nm names))) := Lib.hid (own_strsK HO.out rfl)
            have hCl := HC.out.len
            have HIn : Hid (∀ c ∈ C.map (nm names), c ∈ names) := Lib.hid (fun c hc => by
              obtain ⟨q, hq, rfl⟩ := List.mem_map.1 hc
              exact List.mem_of_getElem? (nm_at (HC.out.less q hq)))
            have HBe := Lib.hid (best_usable ts names)
            have HIi := Lib.hid (infer_in ts names)
            have HLe := Lib.hid (fun h => least_math ts names C HNd.out HC.out.rise HC.out.less (by omega) (by omega) h)
            have HCh := Lib.hid (fun (i : Nat) (hi : i < choice.length) => HC.out.at (Nat.le_refl _) i hi)
            have D1 := Lib.hid (CA.out wr HB.out)
            unfold NamesOut at D1
            have CUx := Lib.hid (fun V (h : Below w.heap.size w V) (hst : StrRow V xo (C.map (nm names))) => CU.out V xo cap (C.map (nm names)) (by rw [List.length_map]; omega) HIn.out h hst)
            rw [List.length_map, hCl] at CUx
            have CUb := Lib.hid (fun V (bo : Option Addr) (bc : Nat) (h : Below w.heap.size w V) (hst : StrRow V bo (inferC ts names)) => CU.out V bo bc (inferC ts names) (by have := HIi.out.2; omega) HIi.out.1 h hst)
            generalize usableC ts (C.map (nm names)) = U at CUx HLe
            have HCl := Lib.hid hCl
            clear hCl hlt HC HO CU CA
            generalize inferC ts names = X at D1 HBe HIi HLe CUb
            go_wp2_with fail
            refine D1.out.mono ?_; rintro e w5 ⟨bo, bc, rfl, hst, -, b5⟩
            have B5 := Lib.hid (below_up HB.out b5)
            have HSt := Lib.hid hst
            have HX5 := Lib.hid (HXr.out.kept b5)
            clear b5 hst D1 HXr HB
            obtain ⟨nb, hnb⟩ : ∃ nb, nb = X.length := ⟨_, rfl⟩
            have HNb := Lib.hid hnb
            rw [← hnb] at CUb ⊢
            clear hnb
            by_cases hX0 : X = []
            · have h0 : nb = 0 := by rw [HNb.out, hX0]; rfl
              have D3 := Lib.hid (CUx.out w5 B5.out HX5.out)
              have HUf : Hid (U = false) := Lib.hid (by
                cases U with
                | false => rfl
                | true =>
                  obtain ⟨P, h1, -, -, h2, -⟩ := HLe.out rfl
                  rw [hX0] at h1
                  have := congrArg List.length h1
                  simp at this; omega)
              rw [HUf.out] at D3
              subst h0
              clear hX0 HLe HBe HUf CUb HNb
              go_wp2_with fail
              refine D3.out.mono ?_; rintro e w6 ⟨rfl, b6⟩
              have B6 := Lib.hid (below_up B5.out b6)
              clear b6
              go_wp2_with fail
              go_ret
              exact ⟨rfl, B6.out⟩
            · have hnp : 0 < nb := by rw [HNb.out]; exact List.length_pos_iff.2 hX0
              have d0 : decide ((0 : Int) < (nb : Int)) = true := decide_eq_true (by omega)
              have d0' : decide (0 < nb) = true := decide_eq_true hnp
              have D2 := Lib.hid (CUb.out w5 bo bc B5.out HSt.out)
              rw [HBe.out hX0] at D2
              clear hX0 HBe CUb
              go_wp2_with fail
              refine D2.out.mono ?_; rintro e w6 ⟨rfl, b6⟩
              have B6 := Lib.hid (below_up B5.out b6)
              have HSt6 := Lib.hid (HSt.out.kept b6)
              have D3 := Lib.hid (CUx.out w6 B6.out (HX5.out.kept b6))
              clear b6 HX5 HSt D2 CUx B5
              go_wp2_with fail
              refine D3.out.mono ?_; rintro e w7 ⟨rfl, b7⟩
              have B7 := Lib.hid (below_up B6.out b7)
              have HSt7 := Lib.hid (HSt6.out.kept b7)
              clear b7 HSt6 D3 B6
              cases U with
              | false =>
                clear HLe
                go_wp2_with fail
                go_ret
                exact ⟨rfl, B7.out⟩
              | true =>
                obtain ⟨P, hP1, hP2, hP3, hP4, hP5⟩ := HLe.out rfl
                have hPn : nb = P.length := by rw [HNb.out, hP1, List.length_map]
                have hPC : P.length ≤ C.length := by
                  rcases hP5 with e | h
                  · rw [e]; exact Nat.le_refl _
                  · rcases h with h | h <;> omega
                have hCl := HCl.out
                have e0 : ((nb : Int) == 0) = false := by rw [beq_eq_false_iff_ne]; omega
                have e1 : decide ((choice.length : Int) < (nb : Int)) = false := decide_eq_false (by omega)
                have e1' : decide (choice.length < nb) = false := decide_eq_false (by omega)
                by_cases hlt : nb < choice.length
                · have e2 : decide ((nb : Int) < (choice.length : Int)) = true := decide_eq_true (by omega)
                  have e2' : decide (nb < choice.length) = true := decide_eq_true hlt
                  clear HLe hP1 hP2 hP3 hP4 hP5 hPn hPC hCl
                  go_wp2_with fail
                  go_ret
                  exact ⟨rfl, B7.out⟩
                · have hnc : choice.length = nb := by omega
                  have e2 : decide ((nb : Int) < (choice.length : Int)) = false := decide_eq_false (by omega)
                  have e2' : decide (nb < choice.length) = false := decide_eq_false hlt
                  have HPe : Hid (P = C ∨ aheadI P C) := Lib.hid (by
                    rcases hP5 with e | h
                    · exact .inl e
                    · rcases h with h | ⟨-, h⟩
                      · omega
                      · exact .inr h)
                  have HAt := Lib.hid (ahead_at P C HPe.out)
                  have HPr := Lib.hid hP2
                  have HPl := Lib.hid hP3
                  have HPX := Lib.hid hP1
                  have HPn : Hid (P.length = choice.length) := Lib.hid (by omega)
                  clear HLe hP1 hP2 hP3 hP4 hP5 hPn hPC hCl hlt HPe
                  subst hnc
                  go_wp2_with fail
                  clear e0 e1 e1' e2 e2' d0 d0'
                  go_loopw [13, 14] (fun u v wr => ∃ (i a : Nat), i ≤ choice.length ∧ u = .int .i64 a ∧ v = .int .i64 i ∧ Hid (∀ j : Nat, j < i → P[j]? = C[j]?) ∧ Hid ((i = 0 ∧ a = 0) ∨ ∃ i', i = i' + 1 ∧ P[i']? = some a) ∧ Hid (Below w.heap.size w wr) ∧ Hid (StrRow wr bo X)) (fun _ v _ => choice.length - (intOf v).toNat)
                  case atStart => exact ⟨0, 0, Nat.zero_le _, rfl, rfl, Lib.hid (fun j h => by omega), Lib.hid (.inl ⟨rfl, rfl⟩), B7, HSt7⟩
                  case round =>
                    clear B7 HSt7
                    obtain ⟨i, a, hi, rfl, rfl, HE, HA, HB, HSt⟩ := hrel
                    by_cases hlt : i < choice.length
                    · obtain ⟨p, hp⟩ : ∃ p, P[i]? = some p := ⟨_, List.getElem?_eq_getElem (by rw [HPn.out]; exact hlt)⟩
                      obtain ⟨c, hcc, hcch, hcn⟩ := HCh.out i hlt
                      have hpc := HAt.out i HE.out p c hp hcc
                      have hpn := HPl.out p (List.mem_of_getElem? hp)
                      have hap : a ≤ p := by
                        rcases HA.out with ⟨-, h⟩ | ⟨i', rfl, hi'⟩
                        · omega
                        · obtain ⟨b1, e1⟩ := List.getElem?_eq_some_iff.1 hi'
                          obtain ⟨b2, e2⟩ := List.getElem?_eq_some_iff.1 hp
                          have := List.pairwise_iff_getElem.1 HPr.out i' (i' + 1) b1 b2 (by omega)
                          rw [e1, e2] at this; omega
                      have hXi : X[i]? = some (nm names p) := by rw [HPX.out, List.getElem?_map, hp]; rfl
                      have HXi := Lib.hid hXi
                      have HPi := Lib.hid hp
                      have HCi := Lib.hid hcc
                      have HCc := Lib.hid hcch
                      clear hp hcc hXi hcch
                      go_wp2_with fail
                      obtain ⟨wo, HWo⟩ : ∃ wo : World, Hid (wo = wr) := ⟨_, Lib.hid rfl⟩
                      rw [← HWo.out]
                      rw [← HWo.out] at HB HSt
                      clear HWo
                      go_loopw [13] (fun u wr => ∃ (a : Nat), a ≤ p ∧ u = .int .i64 a ∧ Hid (Below w.heap.size w wr) ∧ Hid (StrRow wr bo X)) (fun u _ => p - (intOf u).toNat)
                      case atStart => exact ⟨a, hap, rfl, HB, HSt⟩
                      case round =>
                        clear HB HSt HA hap
                        obtain ⟨a, hap, rfl, HB, HSt⟩ := hrel
                        have han : a < names.length := by omega
                        have d1 : decide ((a : Int) < (names.length : Int)) = true := decide_eq_true (by omega)
                        have d1' : decide (a < names.length) = true := decide_eq_true han
                        rcases (HN.out.row.kept HB.out) with h0 | ⟨N, rfl, hNl, hncell⟩
                        · rw [h0] at han; simp at han
                        have c1 := hncell a _ (nm_at han)
                        obtain ⟨Bd, hbo, hbl, hbcell⟩ : ∃ Bd, bo = some Bd ∧ Bd.block < wr.heap.size ∧ Hid (wr.cell? (Bd.add i) = some (.string (nm names p))) := by
                          rcases HSt.out with h0 | ⟨Bd, h1, h2, h3⟩
                          · have := HXi.out; rw [h0] at this; simp at this
                          · exact ⟨Bd, h1, h2, Lib.hid (h3 i _ HXi.out)⟩
                        subst hbo
                        have c2 := hbcell.out
                        have hs := txt_same (nm names a) (nm names p)
                        have HNe : Hid (a ≠ p → nm names a ≠ nm names p) := Lib.hid (fun h e => h (nm_inj HNd.out han hpn e))
                        have HEq : Hid (a = p → nm names a = nm names p) := Lib.hid (fun h => by rw [h])
                        obtain ⟨x, hx⟩ : ∃ x, x = nm names a := ⟨_, rfl⟩
                        obtain ⟨y, hy⟩ : ∃ y, y = nm names p := ⟨_, rfl⟩
                        rw [← hx, ← hy] at hs HNe HEq
                        rw [← hx] at c1
                        rw [← hy] at c2
                        clear hncell hbcell hx hy
                        by_cases hape : a = p
                        · rw [decide_eq_true (HEq.out hape)] at hs
                          clear HNe HEq
                          subst hape
                          go_upto_region 34 with fail
                          go_quiet (fail)
                          have HBq := Lib.hid (bdn (n := nq) HB.out)
                          have HSq := Lib.hid (HSt.out.kept (bdn (n := nq) (Below.refl _ _)))
                          have ean : ((a : Int) == (names.length : Int)) = false := by rw [beq_eq_false_iff_ne]; omega
                          rcases (HI.out.ints.kept HBq.out) with h0 | ⟨A, rfl, hA, hcell⟩
                          · rw [h0] at hlt; simp at hlt
                          have c3 := hcell i _ HCc.out
                          clear hcell c1 c2
                          by_cases hac : a = c
                          · have eac : ((a : Int) != (c : Int)) = false := by simp [hac]
                            have HE2 : Hid (∀ j : Nat, j < i + 1 → P[j]? = C[j]?) := Lib.hid (fun j hj => by
                              by_cases e : j = i
                              · subst e; rw [HPi.out, HCi.out, hac]
                              · exact HE.out j (by omega))
                            have HA2 : Hid ((i + 1 = 0 ∧ a = 0) ∨ ∃ i', i + 1 = i' + 1 ∧ P[i']? = some a) := Lib.hid (.inr ⟨i, rfl, HPi.out⟩)
                            clear hac
                            go_wp2_with fail
                            go_roundw
                            case rel => exact ⟨i + 1, a, by omega, rfl, by go_num, HE2, HA2, HBq, HSq⟩
                            case measure => simp [intOf]; omega
                          · have eac : ((a : Int) != (c : Int)) = true := by rw [bne_iff_ne]; omega
                            have dac : decide ((a : Int) < (c : Int)) = true := decide_eq_true (by omega)
                            have dac' : decide (a < c) = true := decide_eq_true (by omega)
                            clear hac
                            go_wp2_with fail
                            go_ret
                            exact ⟨rfl, HBq.out⟩
                        · rw [decide_eq_false (HNe.out hape)] at hs
                          have hap2 : a < p := by omega
                          clear HNe HEq hape
                          go_upto_region 34 with fail
                          go_quiet (fail)
                          have HBq := Lib.hid (bdn (n := nq) HB.out)
                          have HSq := Lib.hid (HSt.out.kept (bdn (n := nq) (Below.refl _ _)))
                          clear c1 c2
                          go_wp2_with fail
                          go_roundw
                          case rel => exact ⟨a + 1, by omega, by go_num, HBq, HSq⟩
                          case measure => simp [intOf]; omega
                    · go_wp2_with fail
                      go_ret
                      exact ⟨rfl, HB.out⟩
end Go.Proofs.YtmomjhnbhckhpaaDoor
