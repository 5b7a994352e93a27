/-
  The reference: where names are.
  Conditions: heads and lists of at most 2^40 names.
-/
import Derived.Deep.OwnRows
import Derived.Deep.RegionHeld3
import Derived.WalkKit
import Derived.WalkMore
import Derived.IntWalk
import Derived.WalkArith
import Derived.OwnWalk
import Derived.Lib.Hide
import Derived.Test.YtmomjhnbhckhpaaDoorProg
import Derived.Test.YtmomjhnbhckhpaaDoorKRef1
namespace Go.Proofs.YtmomjhnbhckhpaaDoor
open Go.RowKit Go.Shelf Go.Deep
set_option linter.unusedVariables false

def PlacesR (hd names : List ByteArray) (w : World) (e : Ending) (w' : World) : Prop :=
  (inAll hd names = true ∧ ∃ (ao : Option Addr) (cap : Nat), e = .returned (.tuple #[.slice ao names.length cap, .bool true]) ∧ IntsAt w' ao (names.map (findL hd)) ∧ Below w.heap.size w w') ∨
  (inAll hd names = false ∧ e = .returned (.tuple #[.slice none 0 0, .bool false]) ∧ Below w.heap.size w w')

set_option maxRecDepth 100000 in
set_option maxHeartbeats 4000000 in
theorem rplaces_any (ho : Option Addr) (hc : Nat) (hd : List ByteArray) (ro : Option Addr) (rn rc : Nat) (no : Option Addr) (nc : Nat) (names : List ByteArray) (w : World) (hn : hd.length ≤ 1099511627776) (hn2 : names.length ≤ 1099511627776) (hH : StrRow w ho hd) (hR : StrRow w no names) :
    Calls Tryd.prog 46 #[.agg #[.slice ho hd.length hc, .slice ro rn rc], .slice no names.length nc] w (PlacesR hd names w) := by
  obtain ⟨W, HW⟩ : ∃ W, Hid (W = w.alloc (TabO ho hd.length hc ro rn rc)) := ⟨_, Lib.hid rfl⟩
  have hB : Below w.heap.size w W := by rw [HW.out]; exact one_below _ _
  have HB0 := Lib.hid hB
  have hN : W.heap[w.heap.size]? = some (TabO ho hd.length hc ro rn rc) := by rw [HW.out]; exact World.alloc_heap_new w _
  have box : Hid (∀ V, Below W.heap.size W V → V.cell? ⟨w.heap.size, 0, none⟩ = some (.slice ho hd.length hc) ∧ V.cell? ⟨w.heap.size, 1, none⟩ = some (.slice ro rn rc)) := Lib.hid (fun V hV => tabs ((hV.block _ (lt_of_heap hN)).trans hN))
  have HRo := Lib.hid (hR.kept hB)
  have CF := Lib.hid (fun V (x : ByteArray) (h : Below W.heap.size W V) => rfind_any ho hc hd ro rn rc x V hn (hH.kept (below_up hB h)))
  have HK : Hid (∀ (k : Nat) x, names[k]? = some x → ((names.map (findL hd)).map (Value.int .i64)).take k ++ [Value.int .i64 (findL hd x)] = ((names.map (findL hd)).map (Value.int .i64)).take (k + 1)) := Lib.hid (fun k c hk => by
    rw [List.take_add_one (i := k), List.getElem?_map, List.getElem?_map, hk]; rfl)
  have HYes : Hid ((∀ (i : Nat) c, i < names.length → names[i]? = some c → 0 ≤ findL hd c) → inAll hd names = true) := Lib.hid (fun h => by
    unfold inAll
    rw [List.all_eq_true]
    intro c hc
    obtain ⟨i, hi, rfl⟩ := List.mem_iff_getElem.1 hc
    exact decide_eq_true (h i _ hi (List.getElem?_eq_getElem hi)))
  have HNo : Hid (∀ (i : Nat) c, names[i]? = some c → findL hd c < 0 → inAll hd names = false) := Lib.hid (fun i c hi h => by
    unfold inAll
    rw [List.all_eq_false]
    exact ⟨c, List.mem_of_getElem? hi, by simp; omega⟩)
  obtain ⟨F, hF⟩ : ∃ F, F = names.map (findL hd) := ⟨_, rfl⟩
  have HF := Lib.hid hF
  have HFl : Hid (F.length = names.length) := Lib.hid (by rw [hF]; simp)
  rw [← hF] at HK
  have hinfo : (Tryd.prog.info? 3).map (fun i => (i.zero, i.size, i.bytes)) = some (some (.int .i64 0), 1, 8) := by kernel_rfl
  obtain ⟨i0, hi, hz0, hz1, hz2⟩ := info_parts2 hinfo
  have HIn := Lib.hid hi
  clear hi hinfo hR hB hN hH hF
  go_enter Tryd.func46, Tryd.ntmps46
  go_wp2_with fail
  rw [show w.alloc (Obj.cells #[Value.slice ho hd.length hc, Value.slice ro rn rc] 25) = W from HW.out.symm]
  go_loopw [6, 7] (fun v i wr => ∃ (k cap : Nat) (ao : Option Addr), k ≤ names.length ∧ v = .slice ao k cap ∧ i = .int .i64 k ∧ Hid (Below W.heap.size W wr) ∧ Hid (wr.ownsRow W.heap.size 3 1 (.slice ao k cap) k ((F.map (Value.int .i64)).take k)) ∧ Hid (∀ (i : Nat) c, i < k → names[i]? = some c → 0 ≤ findL hd c)) (fun _ i _ => names.length - (intOf i).toNat)
  case atStart => exact ⟨0, 0, none, Nat.zero_le _, rfl, rfl, Lib.hid (Below.refl _ _), Lib.hid (World.ownsRow_nil _ _ _ _), Lib.hid (fun i c h => by omega)⟩
  case round =>
    obtain ⟨k, cap, ao, hk, rfl, rfl, HB, HO, HA⟩ := hrel
    by_cases hlt : k < names.length
    · obtain ⟨x, hx⟩ : ∃ x, names[k]? = some x := ⟨_, List.getElem?_eq_getElem hlt⟩
      obtain ⟨c0, c1⟩ := box.out wr HB.out
      rcases HRo.out with h0 | ⟨A, rfl, hA, hcell⟩
      · rw [h0] at hlt; simp at hlt
      have HX := Lib.hid hx
      have ca := (HB.out.cell (p := A.add k) (by rw [add_block]; exact hA)).trans (hcell k x hx)
      have C2 := Lib.hid (CF.out wr.drew x HB.out.drew)
      have HT := Lib.hid (HK.out k x hx)
      have HN1 := Lib.hid (HNo.out k x hx)
      have HA1 : Hid (0 ≤ findL hd x → ∀ (i : Nat) c, i < k + 1 → names[i]? = some c → 0 ≤ findL hd c) := Lib.hid (fun h0 i c hi hc => by
        by_cases h : i = k
        · subst h; rw [HX.out] at hc; cases hc; exact h0
        · exact HA.out i c (by omega) hc)
      have q1 : k + 1 ≤ maxLen := by unfold maxLen; omega
      have q2 : (k + 1) * 8 ≤ 140737488355328 := by omega
      have HRc := Lib.hid hcell
      clear hcell hx
      generalize findL hd x = y at C2 HT HN1 HA1
      go_upto_region 5 with fail
      go_region_held3 (fun V => V.cell? ⟨w.heap.size, 0, none⟩ = some (.slice ho hd.length hc) ∧ V.cell? ⟨w.heap.size, 1, none⟩ = some (.slice ro rn rc) ∧ V.cell? (A.add k) = some (.string x)) ((refine ⟨?_, ?_, ?_⟩ <;> first | assumption | go_keep))
        (first | (go_at_call 67; refine C2.out.mono ?_; rintro e w2 ⟨rfl, b2⟩; have B2 := Lib.hid (below_up HB.out.drew b2); obtain ⟨c0, c1⟩ := box.out w2 B2.out; have ca := (B2.out.cell (p := A.add k) (by rw [add_block]; exact hA)).trans ((HRc.out) k x HX.out); have HO2 := Lib.hid (ownsRow_below HO.out.drew b2); clear b2))
      by_cases hy : y < 0
      · have dy : decide (y < 0) = true := decide_eq_true hy
        have HE : Hid (PlacesR hd names w (.returned (.tuple #[.slice none 0 0, .bool false])) w2) := Lib.hid (.inr ⟨HN1.out hy, rfl, below_up HB0.out B2.out⟩)
        go_wp2_with fail
        refine bodyPost_ret (v := .tuple #[.slice none 0 0, .bool false]) (by simp [results, Tryd.results46, go_sem]) rfl ?_
        exact HE.out
      · have dy : decide (y < 0) = false := decide_eq_false hy
        have HA2 := Lib.hid (HA1.out (by omega))
        have HO3 := Lib.hid (HO2.out.alloc (.cells #[.int .i64 y] 3))
        have HB3 : Hid (Below W.heap.size W (w2.alloc (.cells #[.int .i64 y] 3))) := Lib.hid (B2.out.alloc B2.out.size _)
        have hws := HB3.out.size
        go_wp2_with (at_builtin; refine wpList_append_own _ rfl _ _ 26 rfl W.heap.size 3 i0 (.int .i64 0) 1 8 Tryd.underlying26 HIn.out hz0 hz1 hz2 rfl (by decide) _ _ _ rfl HO3.out ⟨w2.heap.size, 0, none⟩ 1 1 [Value.int .i64 y] rfl rfl (by intro j u' hj; match j, hj with | 0, hj => simp at hj; subst hj; exact (cell_row (World.alloc_heap_new w2 _) 0).trans rfl) (by intro u' hu; simp at hu; subst hu; rfl) q1 q2 hws ?_)
        intro v3 w3 ho3 hg3 _
        rw [HT.out] at ho3
        have HB4 := Lib.hid (HB3.out.grown hg3 (by simpa using hws) (fun k hk => (HO3.out.lt k hk).1))
        obtain ⟨ao3, cap3, rfl⟩ := own_slice ho3
        have HO4 := Lib.hid ho3
        clear ho3 hg3
        go_wp2_with fail
        go_roundw
        case rel => exact ⟨k + 1, cap3, ao3, by omega, rfl, by go_num, HB4, HO4, HA2⟩
        case measure => simp [intOf]; omega
    · have hke : k = names.length := by omega
      have hkx : (F.map (Value.int .i64)).take k = F.map (Value.int .i64) := List.take_of_length_le (by have := HFl.out; simp; omega)
      have HE : Hid (PlacesR hd names w (.returned (.tuple #[.slice ao names.length cap, .bool true])) wr) := Lib.hid (.inl ⟨HYes.out (fun i c h1 h2 => HA.out i c (by omega) h2), ao, cap, rfl, by
        rw [← HF.out]; exact own_intsI (xs := F) HO.out hkx, below_up HB0.out HB.out⟩)
      clear hkx HO HB HA
      subst hke
      go_wp2_with fail
      refine bodyPost_ret (v := .tuple #[.slice ao names.length cap, .bool true]) (by simp [results, Tryd.results46, go_sem]) rfl ?_
      exact HE.out
end Go.Proofs.YtmomjhnbhckhpaaDoor
