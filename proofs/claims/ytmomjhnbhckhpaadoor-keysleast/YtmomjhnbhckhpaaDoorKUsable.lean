/-
  Copies of names, the names of a choice, and whether names are a key: what the program answers.
  Conditions: at most 2^30 tables, each with at most 2^40 names and rows and cells of at most 2^20 bytes; at most 2^20 names.
-/
import Derived.WalkKit
import Derived.WalkMore
import Derived.IntWalk
import Derived.WalkArith
import Derived.OwnWalk
import Derived.Lib.Hide
import Derived.Test.YtmomjhnbhckhpaaDoorProg
import Derived.Test.YtmomjhnbhckhpaaDoorKApart
namespace Go.Proofs.YtmomjhnbhckhpaaDoor
open Go.RowKit Go.Shelf Go.Maps
set_option linter.unusedVariables false

def cellsT (l : List ByteArray) : Array Value := (l.map Value.string).toArray
theorem cellsT_set (l : List ByteArray) (k : Nat) (p : ByteArray) : (cellsT l).setIfInBounds k (.string p) = cellsT (l.set k p) := by
  unfold cellsT
  rw [List.setIfInBounds_toArray, List.map_set]
theorem strs_block {W : World} {B : Nat} {l : List ByteArray} {T : TypeId} {fr : Nat × Nat} (h : W.heap[B]? = some (.cells (cellsT l) T fr)) : StrRow W (some ⟨B, 0, none⟩) l :=
  .inr ⟨_, rfl, lt_of_heap h, fun i p hp => by rw [cell_row h]; simp [cellsT, hp]⟩
def NamesOut (l : List ByteArray) (w : World) (e : Ending) (w' : World) : Prop := ∃ (ao : Option Addr) (cap : Nat), e = .returned (.slice ao l.length cap) ∧ StrRow w' ao l ∧ l.length ≤ cap ∧ Below w.heap.size w w'
theorem make_strs (n : Nat) (hn : n ≤ 1099511627776) (W : World) : (Instr.makeSlice 22 (.int .i64 (n : Int)) (.int .i64 (n : Int))).run Tryd.prog W = .ok (.slice (some ⟨W.heap.size, 0, none⟩) n n) (W.alloc (.cells (cellsT (List.replicate n emptyT)) 9)) := by
  have e : cellsT (List.replicate n emptyT) = madeCells #[.string emptyT] n := by
    apply Array.ext'
    symm
    unfold cellsT
    simp only [List.map_replicate]
    refine List.eq_replicate_iff.2 ⟨by simp [size_madeCells], fun b hb => ?_⟩
    simp only [madeCells, Array.toList_map, List.mem_map] at hb
    obtain ⟨i, _, hi⟩ := hb
    simp at hi
    rw [← hi, Nat.mod_one]; rfl
  rw [e]
  exact run_make_row' (P := Tryd.prog) 22 9 (.string emptyT) 16 Tryd.underlying22 (by kernel_rfl) rfl .i64 .i64 n (by omega) (by omega) W

set_option maxRecDepth 100000 in
set_option maxHeartbeats 4000000 in
theorem copied_names (ao : Option Addr) (cap : Nat) (xs : List ByteArray) (w : World) (hn : xs.length ≤ 1099511627776) (hs : ∀ c ∈ xs, c.size ≤ 281474976710656) (hR : StrRow w ao xs) :
    Calls Tryd.prog 44 #[.slice ao xs.length cap] w (NamesOut xs w) := by
  have HRo := Lib.hid hR
  have HSo := Lib.hid hs
  have hmk := make_strs xs.length hn w
  obtain ⟨U, HU⟩ : ∃ U, Hid (U = w.alloc (.cells (cellsT (List.replicate xs.length emptyT)) 9)) := ⟨_, Lib.hid rfl⟩
  have HB0 : Hid (Below w.heap.size w U) := Lib.hid (by rw [HU.out]; exact one_below w _)
  have HX0 : Hid (∃ X : List ByteArray, X.length = xs.length ∧ X.take 0 = xs.take 0 ∧ U.heap[w.heap.size]? = some (.cells (cellsT X) 9 (0, 0))) := Lib.hid ⟨List.replicate xs.length emptyT, by simp, by simp, by rw [HU.out]; exact World.alloc_heap_new _ _⟩
  clear hR hs
  go_enter Tryd.func44, Tryd.ntmps44
  go_wp2_with fail
  rw [← HU.out]
  go_loopw [11] (fun j wr => ∃ k : Nat, k ≤ xs.length ∧ j = .int .i64 k ∧ Hid (Below w.heap.size w wr) ∧ Hid (∃ X : List ByteArray, X.length = xs.length ∧ X.take k = xs.take k ∧ wr.heap[w.heap.size]? = some (.cells (cellsT X) 9 (0, 0)))) (fun j _ => xs.length - (intOf j).toNat)
  case atStart => exact ⟨0, Nat.zero_le _, rfl, HB0, HX0⟩
  case round =>
    obtain ⟨k, hk, rfl, HB, HX⟩ := hrel
    clear HB0 HX0 hmk
    by_cases hlt : k < xs.length
    · obtain ⟨x, hx⟩ : ∃ x, xs[k]? = some x := ⟨_, List.getElem?_eq_getElem hlt⟩
      have HXk := Lib.hid hx
      rcases (HRo.out.kept HB.out) with h0 | ⟨A, rfl, hA, hcell⟩
      · rw [h0] at hlt; simp at hlt
      have c1 := hcell k x hx
      have CC := Lib.hid (fun W => clone_any x W (HSo.out x (List.mem_of_getElem? hx)))
      clear hcell hx
      go_wp2_with fail
      refine (CC.out _).mono ?_
      rintro e w1 ⟨rfl, b1⟩
      obtain ⟨X, hX1, hX2, hX3⟩ := HX.out
      have hX4 := (b1.block _ (lt_of_heap hX3)).trans hX3
      have hsz : k < (cellsT X).size := by unfold cellsT; rw [List.size_toArray, List.length_map, hX1]; exact hlt
      have kc : w1.cell? ⟨w.heap.size, k, none⟩ = some (cellsT X)[k] := (Lib.cell_of_heap hX4 k).trans (Array.getElem?_eq_getElem hsz)
      have kf : w1.frozen? ⟨w.heap.size, k, none⟩ = false := frozen_free hX4 k
      have HB' : Hid (Below w.heap.size w (w1.setCell ⟨w.heap.size, k, none⟩ (.string x))) := Lib.hid ((below_up HB.out b1).setCell (p := ⟨w.heap.size, k, none⟩) (Nat.le_refl _) _)
      have HX' : Hid (∃ X : List ByteArray, X.length = xs.length ∧ X.take (k + 1) = xs.take (k + 1) ∧ (w1.setCell ⟨w.heap.size, k, none⟩ (.string x)).heap[w.heap.size]? = some (.cells (cellsT X) 9 (0, 0))) := Lib.hid ⟨X.set k x, by simpa using hX1, by
        rw [List.take_add_one, List.take_add_one, HXk.out, List.getElem?_set_self (by omega), List.take_set_of_le (Nat.le_refl _), hX2], by rw [heap_set _ hX4, cellsT_set]⟩
      obtain ⟨u, hu⟩ : ∃ u, u = (cellsT X)[k] := ⟨_, rfl⟩
      rw [← hu] at kc
      clear hX1 hX2 hX3 hX4 hsz hu b1 HX c1
      go_wp2_with fail
      go_roundw
      case rel => exact ⟨k + 1, by omega, by go_num, HB', HX'⟩
      case measure => simp [intOf]; omega
    · have hke : k = xs.length := by omega
      have HE : Hid (NamesOut xs w (.returned (.slice (some ⟨w.heap.size, 0, none⟩) xs.length xs.length)) wr) := Lib.hid (by
        obtain ⟨X, hX1, hX2, hX3⟩ := HX.out
        have : X = xs := by rw [← List.take_length (l := X), hX1, ← hke, hX2, hke, List.take_length]
        subst this
        exact ⟨_, _, rfl, strs_block hX3, Nat.le_refl _, HB.out⟩)
      clear hke
      go_wp2_with fail
      go_ret
      exact HE.out

def namesV (ch : List Cand) (k : Nat) : List Value := ((ch.take k).map Prod.fst).map Value.string
set_option maxRecDepth 100000 in
set_option maxHeartbeats 4000000 in
theorem namesOf_any (co : Option Addr) (cc : Nat) (ch : List Cand) (w : World) (hn : ch.length ≤ 1099511627776) (hs : ∀ c ∈ ch, c.1.size ≤ 281474976710656) (hR : CandsAt w co ch) :
    Calls Tryd.prog 41 #[.slice co ch.length cc] w fun e w' => ∃ v, e = .returned v ∧ w'.ownsRow w.heap.size 9 1 v ch.length ((ch.map Prod.fst).map Value.string) ∧ Below w.heap.size w w' := by
  have hinfo : (Tryd.prog.info? 9).map (fun i => (i.zero, i.size, i.bytes)) = some (some (.string ⟨#[]⟩), 1, 16) := by kernel_rfl
  obtain ⟨i0, hi, hz0, hz1, hz2⟩ := info_parts2 hinfo
  have HIN := Lib.hid hi
  have HRo := Lib.hid hR
  have HSo := Lib.hid hs
  have HB0 := Lib.hid (Below.refl w.heap.size w)
  have HO0 : Hid (w.ownsRow w.heap.size 9 1 (.slice none 0 0) 0 (namesV ch 0)) := Lib.hid (World.ownsRow_nil _ _ _ _)
  clear hR hs hi hinfo
  go_enter Tryd.func41, Tryd.ntmps41
  go_wp2_with fail
  go_loopw [3, 8] (fun v j wr => ∃ k : Nat, k ≤ ch.length ∧ j = .int .i64 k ∧ Hid (Below w.heap.size w wr) ∧ Hid (wr.ownsRow w.heap.size 9 1 v k (namesV ch k))) (fun _ j _ => ch.length - (intOf j).toNat)
  case atStart => exact ⟨0, Nat.zero_le _, rfl, HB0, HO0⟩
  case round =>
    obtain ⟨k, hk, rfl, HB, HO⟩ := hrel
    clear HB0 HO0
    obtain ⟨ao, cap, rfl⟩ := own_slice HO.out
    by_cases hlt : k < ch.length
    · obtain ⟨⟨nm, xs⟩, hx⟩ : ∃ x, ch[k]? = some x := ⟨_, List.getElem?_eq_getElem hlt⟩
      have HTk : Hid (namesV ch (k + 1) = namesV ch k ++ [.string nm]) := Lib.hid (by unfold namesV; rw [List.take_add_one, hx]; simp)
      rcases (HRo.out.kept HB.out) with h0 | ⟨cb, cof, rfl, hA, hcell⟩
      · rw [h0] at hlt; simp at hlt
      obtain ⟨n0, bo, bc, n1, -⟩ := hcell k _ hx
      dsimp only at n0 n1
      have CC := Lib.hid (fun W => clone_any nm W (HSo.out _ (List.mem_of_getElem? hx)))
      obtain ⟨W, HW⟩ : ∃ W, Hid (W = wr.alloc (.cells #[.string nm, .slice bo xs.length bc] 94)) := ⟨_, Lib.hid rfl⟩
      have hbW : Below wr.heap.size wr W := by rw [HW.out]; exact one_below wr _
      have hWh : W.heap[wr.heap.size]? = some (.cells #[.string nm, .slice bo xs.length bc] 94 (0, 0)) := by rw [HW.out]; exact World.alloc_heap_new _ _
      have w0 : W.cell? ⟨wr.heap.size, 0, none⟩ = some (.string nm) := (Lib.cell_of_heap hWh 0).trans rfl
      have HOW := Lib.hid (ownsRow_below HO.out hbW)
      have HBW := Lib.hid (below_up HB.out hbW)
      clear hcell hx hbW hWh HB HO
      go_upto_region 5 with fail
      rw [← HW.out]
      go_wp2_with fail
      refine (CC.out _).mono ?_
      rintro e w1 ⟨rfl, b1⟩
      have HO1 := Lib.hid ((ownsRow_below HOW.out b1).alloc (.cells #[.string nm] 9))
      have HB1 := Lib.hid (below_up HBW.out b1)
      have hs1 : w.heap.size ≤ w1.heap.size := HB1.out.size
      clear b1 w0 n0 n1 HOW HBW
      go_wp2_with (at_builtin; refine wpList_append_own _ rfl _ _ 22 rfl w.heap.size 9 i0 (.string ⟨#[]⟩) 1 16 Tryd.underlying22 HIN.out hz0 hz1 hz2 rfl (by decide) _ _ _ rfl HO1.out ⟨w1.heap.size, 0, none⟩ 1 1 [Value.string nm] rfl rfl (by intro j u' hj; match j, hj with | 0, hj => simp at hj; subst hj; exact (cell_row (World.alloc_heap_new w1 _) 0).trans rfl) (by intro u' hu; simp at hu; subst hu; rfl) (by unfold maxLen; omega) (by omega) (by simp; omega) ?_)
      intro v3 w3 ho3 hg3 _
      have HB3 := Lib.hid ((HB1.out.alloc hs1 _).grown hg3 (by simp; omega) (fun k hk => (HO1.out.lt k hk).1))
      have HO3 : Hid (w3.ownsRow w.heap.size 9 1 v3 (k + 1) (namesV ch (k + 1))) := Lib.hid (by rw [HTk.out]; exact ho3)
      obtain ⟨ao3, cap3, rfl⟩ := own_slice ho3
      clear ho3 hg3
      go_wp2_with fail
      go_roundw
      case rel => exact ⟨k + 1, by omega, by go_num, HB3, HO3⟩
      case measure => simp [intOf]; omega
    · have hke : k = ch.length := by omega
      have HE : Hid (wr.ownsRow w.heap.size 9 1 (.slice ao k cap) ch.length ((ch.map Prod.fst).map Value.string)) := Lib.hid (by have := HO.out; unfold namesV at this; rw [hke, List.take_length] at this; rw [hke]; exact this)
      clear hke
      go_wp2_with fail
      go_ret
      exact ⟨_, rfl, HE.out, HB.out⟩

/-! whether names are a key -/
def usableC (ts : List Tab) (names : List ByteArray) : Bool := decide (0 < names.length) && decide ((candsL ts names).length = names.length) && apartC ts (candsL ts names)
theorem heads_of_tabs {ts : List Tab} (h : TabsOk ts) (hs : ∀ t ∈ ts, ∀ c ∈ t.1, c.size ≤ maxLen) : HeadsOk ts := fun t ht => ⟨(h t ht).1, hs t ht⟩
theorem cands_ok (ts : List Tab) (names : List ByteArray) (h : TabsOk ts) : CandsOk ts (candsL ts names) := by
  have key : ∀ (ts : List Tab), TabsOk ts → ∀ c ∈ candsL ts names, ∀ x ∈ c.2, (Lit.int .i64 x).wf = true := fun ts => by
    induction ts using List.reverseRecOn' with
    | nil => intro _ c hc; unfold candsL at hc; simp at hc; obtain ⟨s, _, rfl⟩ := hc; intro x hx; simp at hx
    | snoc ts t ih =>
      intro h c hc
      rw [cands_snoc] at hc
      unfold stepC at hc
      rw [List.mem_filterMap] at hc
      obtain ⟨d, hd, he⟩ := hc
      split at he
      · cases he
        intro x hx
        rw [List.mem_append, List.mem_singleton] at hx
        rcases hx with hx | rfl
        · exact ih (fun t' ht' => h t' (by simp [ht'])) d hd x hx
        · have h1 := (h t (by simp)).1
          rw [find_text]
          rcases find_range t.1 d.1.data.toList with e | ⟨h2, h3⟩
          · rw [e]; exact Go.WalkArith.wf_i64 (by omega)
          · exact Go.WalkArith.wf_i64 (by omega)
      · cases he
  exact fun c hc => ⟨cands_at ts names c hc, key ts h c hc⟩

set_option maxRecDepth 100000 in
set_option maxHeartbeats 4000000 in
theorem usable_any (lo : Option Addr) (lc : Nat) (ts : List Tab) (ao : Option Addr) (cap : Nat) (names : List ByteArray) (w : World) (hts : ts.length ≤ 1073741824) (hn : names.length ≤ 1048576) (hs : ∀ c ∈ names, c.size ≤ maxLen) (hT : TabsOk ts) (hH : HeadsOk ts) (hL : TabsAt w lo ts) (hR : StrRow w ao names) (hpow : Pow w) :
    Calls Tryd.prog 20 #[.slice lo ts.length lc, .slice ao names.length cap] w fun e w' => e = .returned (.bool (usableC ts names)) ∧ Below w.heap.size w w' := by
  have CA := Lib.hid (candidates_any lo lc ts ao cap names w hts (by omega) hs hH hL hR)
  have HTo := Lib.hid hT
  have HLo := Lib.hid hL
  have HP := Lib.hid hpow
  have hcl := cands_len ts names
  have HCK := Lib.hid (cands_ok ts names hT)
  unfold usableC
  obtain ⟨ch, hch⟩ : ∃ ch, ch = candsL ts names := ⟨_, rfl⟩
  rw [← hch] at CA hcl HCK ⊢
  obtain ⟨F, hF⟩ : ∃ F, F = apartC ts ch := ⟨_, rfl⟩
  have HF := Lib.hid hF
  rw [← hF]
  clear hT hH hL hR hs hpow hch hF
  go_enter Tryd.func20, Tryd.ntmps20
  go_wp2_with fail
  refine CA.out.mono ?_
  rintro e w1 ⟨v, cvs, rfl, hO, hcv, hB⟩
  obtain ⟨co, cc, rfl, hCA⟩ := hO.cands
  rw [hcv] at hCA ⊢
  have C := Lib.hid (apart_any lo lc ts co cc ch w1 hts (by omega) HTo.out HCK.out (HLo.out.kept hB) hCA (HP.out.kept hB))
  rw [← HF.out] at C
  have HB := Lib.hid hB
  clear hO hcv hB hCA CA
  by_cases h0 : 0 < names.length
  · by_cases h1 : ch.length = names.length
    · have e0 : decide (0 < (names.length : Int)) = true := by simpa using h0
      have e1 : ((ch.length : Int) == (names.length : Int)) = true := by simp; omega
      have EQ := Lib.hid h1
      clear h1
      go_wp2_with fail
      refine C.out.mono ?_
      rintro e w2 ⟨rfl, b2⟩
      have B2 := Lib.hid (below_up HB.out b2)
      clear b2
      go_wp2_with fail
      go_ret
      exact ⟨by rw [decide_eq_true h0, decide_eq_true EQ.out]; rfl, B2.out⟩
    · have e0 : decide (0 < (names.length : Int)) = true := by simpa using h0
      have e1 : ((ch.length : Int) == (names.length : Int)) = false := by
        cases hh : ((ch.length : Int) == (names.length : Int)) with
        | false => rfl
        | true => exact absurd (eq_of_beq hh) (by omega)
      go_wp2_with fail
      go_ret
      exact ⟨by rw [decide_eq_false h1]; simp, HB.out⟩
  · have e0 : decide (0 < (names.length : Int)) = false := decide_eq_false (by omega)
    go_wp2_with fail
    go_ret
    exact ⟨by rw [decide_eq_false h0]; rfl, HB.out⟩
end Go.Proofs.YtmomjhnbhckhpaaDoor
