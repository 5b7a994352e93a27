/-
  The places of names, as the program tells them.
  Conditions: heads and lists of at most 2^40 Go strings.
-/
import Derived.WalkKit
import Derived.WalkMore
import Derived.IntWalk
import Derived.WalkArith
import Derived.OwnWalk
import Derived.Lib.Hide
import Derived.Test.YtmomjhnbhckhpaaDoorProg
import Derived.Test.YtmomjhnbhckhpaaDoorKFirst
namespace Go.Proofs.YtmomjhnbhckhpaaDoor
open Go.RowKit Go.Shelf Go.Maps
set_option linter.unusedVariables false

/-- are names in a head? -/
def inAll (hd names : List ByteArray) : Bool := names.all fun s => decide (0 ≤ findL hd s)
def PlacesOut (hd names : List ByteArray) (w : World) (e : Ending) (w' : World) : Prop :=
  (inAll hd names = true ∧ ∃ (ao : Option Addr) (cap : Nat), e = .returned (.tuple #[.slice ao names.length cap, .bool true]) ∧ IntsAt w' ao (names.map (findL hd)) ∧ names.length ≤ cap ∧ Below w.heap.size w w') ∨
  (inAll hd names = false ∧ e = .returned (.tuple #[.slice none 0 0, .bool false]) ∧ Below w.heap.size w w')
/-- a list of which the first k are there -/
def madeI (F : List Int) (k : Nat) : List Int := F.take k ++ List.replicate (F.length - k) 0
theorem made_zero (F : List Int) : madeI F 0 = List.replicate F.length 0 := by simp [madeI]
theorem made_all (F : List Int) : madeI F F.length = F := by simp [madeI]
theorem made_len (F : List Int) (k : Nat) (h : k ≤ F.length) : (madeI F k).length = F.length := by simp [madeI]; omega
theorem made_next (F : List Int) (k : Nat) (p : Int) (h : F[k]? = some p) : (madeI F k).set k p = madeI F (k + 1) := by
  obtain ⟨hk, e⟩ := List.getElem?_eq_some_iff.1 h
  unfold madeI
  rw [List.set_append_right _ _ (by simp; omega), List.length_take, Nat.min_eq_left (by omega), Nat.sub_self, List.take_succ_eq_append_getElem hk, e]
  have : F.length - k = (F.length - (k + 1)) + 1 := by omega
  rw [this, List.replicate_succ]; simp
theorem grown_put (w : World) (g i : Nat) (v : Value) : w.grownBy (w.setCell ⟨g, i, none⟩ v) (some g) :=
  ⟨rfl, rfl, rfl, by simp, fun k _ hne => heap_setCell_other w ⟨g, i, none⟩ k v (fun e => hne (by rw [e]))⟩
/-- a block of numbers -/
def cellsI (l : List Int) : Array Value := (l.map (Value.int .i64)).toArray
theorem cellsI_set (l : List Int) (k : Nat) (p : Int) : (cellsI l).setIfInBounds k (.int .i64 p) = cellsI (l.set k p) := by
  unfold cellsI
  rw [List.setIfInBounds_toArray, List.map_set]
theorem ints_block {W : World} {B : Nat} {l : List Int} {T : TypeId} {fr : Nat × Nat} (h : W.heap[B]? = some (.cells (cellsI l) T fr)) : IntsAt W (some ⟨B, 0, none⟩) l :=
  .inr ⟨_, rfl, lt_of_heap h, fun i p hp => by rw [cell_row h]; simp [cellsI, hp]⟩

theorem make_ints (n : Nat) (hn : n ≤ 1099511627776) (W : World) : (Instr.makeSlice 26 (.int .i64 (n : Int)) (.int .i64 (n : Int))).run Tryd.prog W = .ok (.slice (some ⟨W.heap.size, 0, none⟩) n n) (W.alloc (.cells (cellsI (List.replicate n 0)) 3)) := by
  have e : cellsI (List.replicate n 0) = madeCells #[.int .i64 0] n := by
    apply Array.ext'
    symm
    unfold cellsI
    simp only [List.map_replicate]
    refine List.eq_replicate_iff.2 ⟨by simp [size_madeCells], fun b hb => ?_⟩
    simp only [madeCells, Array.toList_map, List.mem_map] at hb
    obtain ⟨i, _, hi⟩ := hb
    simp at hi
    rw [← hi, Nat.mod_one]; rfl
  rw [e]
  exact run_make_row' (P := Tryd.prog) 26 3 (.int .i64 0) 8 Tryd.underlying26 (by kernel_rfl) rfl .i64 .i64 n (by omega) (by omega) W

set_option maxRecDepth 100000 in
set_option maxHeartbeats 4000000 in
theorem places_any (ho : Option Addr) (hc : Nat) (hd : List ByteArray) (ro : Option Addr) (rn rc : Nat) (ao : Option Addr) (cap : Nat) (names : List ByteArray) (w : World) (hn : hd.length ≤ 1099511627776) (hs : ∀ c ∈ hd, c.size ≤ maxLen) (hn2 : names.length ≤ 1099511627776) (hs2 : ∀ c ∈ names, c.size ≤ maxLen) (hH : StrRow w ho hd) (hR : StrRow w ao names) :
    Calls Tryd.prog 37 #[.agg #[.slice ho hd.length hc, .slice ro rn rc], .slice ao names.length cap] w (PlacesOut hd names w) := by
  obtain ⟨V, HV⟩ : ∃ V, Hid (V = w.alloc (TabO ho hd.length hc ro rn rc)) := ⟨_, Lib.hid rfl⟩
  have HB := Lib.hid (show Below w.heap.size w V by rw [HV.out]; exact one_below w _)
  have HRo := Lib.hid hR
  have HSo := Lib.hid hs2
  have CF := Lib.hid (firsts_any ho hc hd V hn hs (hH.kept HB.out))
  obtain ⟨F, HF⟩ : ∃ F, Hid (F = names.map (findL hd)) := ⟨_, Lib.hid rfl⟩
  have HFl : Hid (F.length = names.length) := Lib.hid (by rw [HF.out]; simp)
  clear hR hs2 hH hs
  go_enter Tryd.func37, Tryd.ntmps37
  go_wp2_with fail
  rw [← HV.out]
  refine CF.out.mono ?_
  rintro e w1 ⟨b, kk, D, rfl, hb, hO, hD, hB1⟩
  have HO := Lib.hid hO
  have HD := Lib.hid hD
  have HB1 := Lib.hid (below_up HB.out hB1)
  clear hO hD hB1 CF
  have hmk := make_ints names.length hn2 w1
  obtain ⟨U, HU⟩ : ∃ U, Hid (U = w1.alloc (.cells (cellsI (List.replicate names.length 0)) 3)) := ⟨_, Lib.hid rfl⟩
  have hbU : Below w1.heap.size w1 U := by rw [HU.out]; exact one_below w1 _
  have HBU := Lib.hid (below_up HB1.out hbU)
  have HOU := Lib.hid (ownsMap_below HO.out hbU)
  have HC0 : Hid (U.heap[w1.heap.size]? = some (.cells (cellsI (madeI F 0)) 3 (0, 0))) := Lib.hid (by rw [HU.out, made_zero, HFl.out]; exact World.alloc_heap_new _ _)
  have HbV := Lib.hid (HU.out)
  have hlb : b < w1.heap.size := HO.out.lt
  clear hbU HO
  go_wp2_with fail
  rw [← HU.out]
  go_loopw [20] (fun j wr => ∃ k : Nat, k ≤ names.length ∧ j = .int .i64 k ∧ Hid (wr.heap[w1.heap.size]? = some (.cells (cellsI (madeI F k)) 3 (0, 0))) ∧ Hid (wr.ownsMap Tryd.prog 9 (plainElem Tryd.prog 3) b kk D) ∧ Hid (Below w.heap.size w wr) ∧ Hid (∀ (i : Nat) c, i < k → names[i]? = some c → 0 ≤ findL hd c)) (fun j _ => names.length - (intOf j).toNat)
  case atStart => exact ⟨0, Nat.zero_le _, rfl, HC0, HOU, HBU, Lib.hid (fun i c h => by omega)⟩
  case round =>
    obtain ⟨k, hk, rfl, HC, HOr, HBr, HA⟩ := hrel
    clear HC0 HOU HBU hmk
    by_cases hlt : k < names.length
    · obtain ⟨x, hx⟩ : ∃ x, names[k]? = some x := ⟨_, List.getElem?_eq_getElem hlt⟩
      have HX := Lib.hid hx
      have hrun := firsts_look HOr.out HD.out x (HSo.out x (List.mem_of_getElem? hx))
      rcases (HRo.out.kept HBr.out) with h0 | ⟨A, rfl, hA, hcell⟩
      · rw [h0] at hlt; simp at hlt
      have hc1 := hcell k x hx
      clear hcell hx
      by_cases hf : 0 ≤ findL hd x
      · rw [if_pos hf, decide_eq_true hf] at hrun
        have HA' : Hid (∀ (i : Nat) c, i < k + 1 → names[i]? = some c → 0 ≤ findL hd c) := Lib.hid (fun i c hi hc => by
          by_cases h : i = k
          · subst h; rw [HX.out] at hc; cases hc; exact hf
          · exact HA.out i c (by omega) hc)
        have HFk : Hid (F[k]? = some (findL hd x)) := Lib.hid (by rw [HF.out, List.getElem?_map, HX.out]; rfl)
        obtain ⟨y, hy⟩ : ∃ y, y = findL hd x := ⟨_, rfl⟩
        rw [← hy] at hrun HFk
        have hsz : k < (cellsI (madeI F k)).size := by
          unfold cellsI; rw [List.size_toArray, List.length_map, made_len F k (by rw [HFl.out]; omega), HFl.out]; exact hlt
        have kc : wr.cell? ⟨w1.heap.size, k, none⟩ = some (cellsI (madeI F k))[k] := (Lib.cell_of_heap HC.out k).trans (Array.getElem?_eq_getElem hsz)
        have kf : wr.frozen? ⟨w1.heap.size, k, none⟩ = false := frozen_free HC.out k
        have HC' : Hid ((wr.setCell ⟨w1.heap.size, k, none⟩ (.int .i64 y)).heap[w1.heap.size]? = some (.cells (cellsI (madeI F (k + 1))) 3 (0, 0))) := Lib.hid (by rw [heap_set _ HC.out, cellsI_set, made_next F k y HFk.out])
        have HO' : Hid ((wr.setCell ⟨w1.heap.size, k, none⟩ (.int .i64 y)).ownsMap Tryd.prog 9 (plainElem Tryd.prog 3) b kk D) := Lib.hid (HOr.out.kept (row := some w1.heap.size) (grown_put wr _ _ _) (fun h => by cases h; omega))
        have HB' : Hid (Below w.heap.size w (wr.setCell ⟨w1.heap.size, k, none⟩ (.int .i64 y))) := Lib.hid (HBr.out.setCell (p := ⟨w1.heap.size, k, none⟩) (by have := HB1.out.size; simpa using this) _)
        obtain ⟨u, hu⟩ : ∃ u, u = (cellsI (madeI F k))[k] := ⟨_, rfl⟩
        rw [← hu] at kc
        clear hy hf hu hsz HC HOr HBr
        go_wp2_with fail
        go_roundw
        case rel => exact ⟨k + 1, by omega, by go_num, HC', HO', HB', HA'⟩
        case measure => simp [intOf]; omega
      · rw [if_neg hf, decide_eq_false hf] at hrun
        have HE : Hid (PlacesOut hd names w (.returned (.tuple #[.slice none 0 0, .bool false])) wr) := Lib.hid (.inr ⟨by
          unfold inAll
          rw [List.all_eq_false]
          exact ⟨x, List.mem_of_getElem? HX.out, by simpa using hf⟩, rfl, HBr.out⟩)
        clear hf HC HOr HBr
        go_wp2_with fail
        refine bodyPost_ret (v := .tuple #[.slice none 0 0, .bool false]) (by simp [results, Tryd.results37, go_sem]) rfl ?_
        exact HE.out
    · have hke : k = names.length := by omega
      have HE : Hid (PlacesOut hd names w (.returned (.tuple #[.slice (some ⟨w1.heap.size, 0, none⟩) names.length names.length, .bool true])) wr) := Lib.hid (.inl ⟨by
          unfold inAll
          rw [List.all_eq_true]
          intro c hc
          obtain ⟨i, hi, rfl⟩ := List.mem_iff_getElem.1 hc
          exact decide_eq_true (HA.out i _ (by omega) (List.getElem?_eq_getElem hi)), _, _, rfl, by
          have := ints_block HC.out
          rw [hke, ← HFl.out, made_all, HF.out] at this
          exact this, Nat.le_refl _, HBr.out⟩)
      clear HC HOr HBr hke
      go_wp2_with fail
      refine bodyPost_ret (v := .tuple #[.slice (some ⟨w1.heap.size, 0, none⟩) names.length names.length, .bool true]) (by simp [results, Tryd.results37, go_sem]) rfl ?_
      exact HE.out
end Go.Proofs.YtmomjhnbhckhpaaDoor
