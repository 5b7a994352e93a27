/-
  Names, each once, as the program makes candidates of them.
  Conditions: lists of at most 2^40 Go strings.
-/
import Derived.Maps.Own
import Derived.Maps.OwnOps
import Derived.WalkKit
import Derived.WalkMore
import Derived.IntWalk
import Derived.WalkArith
import Derived.OwnWalk
import Derived.Lib.Hide
import Derived.Test.YtmomjhnbhckhpaaDoorProg
import Derived.Test.YtmomjhnbhckhpaaDoorKCand
namespace Go.Proofs.YtmomjhnbhckhpaaDoor
open Go.RowKit Go.Shelf Go.Maps
set_option linter.unusedVariables false

/-- a set of texts, as a map -/
structure SetT (D : DataW Unit) (L : List Txt) : Prop where
  map : IsMap D
  look : ∀ l, D.atKey (.string l) (.lit (.bool false)) = .lit (.bool (decide (l ∈ L)))
theorem SetT.empty : SetT (.map []) [] := ⟨isMap_empty, fun l => by simp; rfl⟩
theorem SetT.same {D : DataW Unit} {L M : List Txt} (h : SetT D L) (e : ∀ l, l ∈ M ↔ l ∈ L) : SetT D M := ⟨h.map, fun l => by rw [h.look]; simp only [e]⟩
theorem SetT.put {D : DataW Unit} {L : List Txt} (h : SetT D L) (x : Txt) : SetT (D.put (.string x) (.lit (.bool true))) (L ++ [x]) := by
  refine ⟨h.map.put _ _, fun l => ?_⟩
  by_cases hl : l = x
  · rw [hl, atKey_put_same h.map (keyS x)]; simp
  · rw [atKey_put_other (fun e => hl (by injection e)), h.look]; simp [hl]
set_option maxRecDepth 100000 in
theorem set_look {w : World} {b k : Nat} {D : DataW Unit} {L : List Txt} (h : w.ownsMap Tryd.prog 9 (plainElem Tryd.prog 4) b k D) (hS : SetT D L) (x : ByteArray) (hx : x.size ≤ maxLen) :
    (Instr.lookup 106 (.map (some b)) (.string x) false).run Tryd.prog w = .ok (.bool (decide (x.data.toList ∈ L))) w := by
  obtain ⟨c, hrun, hat⟩ := lookup_bool h (string_keyed Tryd.underlying9) Tryd.underlying106 Tryd.underlying4 (Tryd.zeroValue4 _) (Go.WideMaps.keyOf_string_mk Tryd.underlying9 hx)
  rw [hS.look] at hat
  have e : decide (x.data.toList ∈ L) = c := by injection hat with h1; injection h1
  rw [e]; exact hrun
def bareC (s : ByteArray) : CandV := (s, .slice none 0 0, [])
theorem bare_owned (w : World) (base : Nat) (l : List ByteArray) : Owned w base (l.map bareC) :=
  ⟨fun c hc => by obtain ⟨s, _, rfl⟩ := List.mem_map.1 hc; exact World.ownsRow_nil _ _ _ _, by
    rw [List.pairwise_map]
    exact List.pairwise_of_forall (fun a b g hg => by cases hg)⟩
theorem cand_info : (Tryd.prog.info? 94).map (fun i => (i.zero, i.size, i.bytes)) = some (some (.agg #[.string ⟨#[]⟩, .slice none 0 0]), 2, 40) := by kernel_rfl

set_option maxRecDepth 100000 in
set_option maxHeartbeats 4000000 in
theorem once_any (ao : Option Addr) (cap : Nat) (xs : List ByteArray) (w : World) (hn : xs.length ≤ 1099511627776) (hs : ∀ c ∈ xs, c.size ≤ maxLen) (hR : StrRow w ao xs) :
    Calls Tryd.prog 65 #[.slice ao xs.length cap] w fun e w' => ∃ v, e = .returned v ∧ OwnC w' w.heap.size v ((onceL xs).map bareC) ∧ Below w.heap.size w w' := by
  obtain ⟨i0, hi0, hz0, hz1, hz2⟩ := info_parts2 cand_info
  have HIN := Lib.hid hi0
  have HRo := Lib.hid hR
  have HSo := Lib.hid hs
  have hmm := @run_makeMap Tryd.prog
  clear hR hs hi0
  go_enter Tryd.func65, Tryd.ntmps65
  go_wp2_with fail
  obtain ⟨V, HV⟩ : ∃ V, Hid (V = w.alloc (.map #[] 0)) := ⟨_, Lib.hid rfl⟩
  have HO : Hid (V.ownsMap Tryd.prog 9 (plainElem Tryd.prog 4) w.heap.size 0 (.map [] : DataW Unit)) := Lib.hid (by rw [HV.out]; exact World.ownsMap_made w _ _ _)
  have HB : Hid (Below w.heap.size w V) := Lib.hid (by rw [HV.out]; exact (Below.refl _ w).alloc (Nat.le_refl _) _)
  have hVs : V.heap.size = w.heap.size + 1 := by rw [HV.out]; simp
  have HC : Hid (OwnC V (w.heap.size + 1) (.slice none 0 0) ((onceL (xs.take 0)).map bareC)) := Lib.hid ⟨World.ownsRow_nil _ _ _ _, bare_owned _ _ _⟩
  rw [← HV.out]
  go_loopw [3, 10] (fun v j wr => ∃ (k kk : Nat) (D : DataW Unit), k ≤ xs.length ∧ kk ≤ k ∧ j = .int .i64 k ∧ Hid (Below w.heap.size w wr) ∧ Hid (w.heap.size + 1 ≤ wr.heap.size) ∧ Hid (wr.ownsMap Tryd.prog 9 (plainElem Tryd.prog 4) w.heap.size kk D) ∧ Hid (SetT D (bytesOf (onceL (xs.take k)))) ∧ Hid (OwnC wr (w.heap.size + 1) v ((onceL (xs.take k)).map bareC))) (fun _ j _ => xs.length - (intOf j).toNat)
  case atStart => exact ⟨0, 0, _, Nat.zero_le _, Nat.le_refl _, rfl, HB, Lib.hid (by omega), HO, Lib.hid SetT.empty, HC⟩
  case round =>
    obtain ⟨k, kk, D, hk, hkk, rfl, HBr, HSr, HOr, HDr, HCr⟩ := hrel
    clear HB HO HC hVs
    by_cases hlt : k < xs.length
    · obtain ⟨x, hx⟩ : ∃ x, xs[k]? = some x := ⟨_, List.getElem?_eq_getElem hlt⟩
      have htk : xs.take (k + 1) = xs.take k ++ [x] := by rw [List.take_add_one, hx]; rfl
      have HTK := Lib.hid htk
      have hxs := HSo.out x (List.mem_of_getElem? hx)
      have HXs := Lib.hid hxs
      have hrun := set_look HOr.out HDr.out x hxs
      have HLe := Lib.hid (show (onceL (xs.take k)).length ≤ k from Nat.le_trans (once_len _) (by rw [List.length_take]; omega))
      rcases (HRo.out.kept HBr.out) with h0 | ⟨A, rfl, hA, hcell⟩
      · rw [h0] at hlt; simp at hlt
      have hc := hcell k x hx
      clear hcell hx htk hxs
      have hli := HCr.out.list
      rw [List.length_map] at hli
      obtain ⟨ao, cap, rfl⟩ := own_slice hli
      have HLI := Lib.hid hli
      clear hli
      by_cases hf : x.data.toList ∈ bytesOf (onceL (xs.take k))
      · rw [decide_eq_true hf] at hrun
        have HE : Hid (onceL (xs.take (k + 1)) = onceL (xs.take k)) := Lib.hid (by rw [HTK.out, once_snoc, if_pos hf])
        clear hf
        go_wp2_with fail
        go_roundw
        case rel => exact ⟨k + 1, kk, D, by omega, by omega, by go_num, HBr, HSr, HOr, by rw [HE.out]; exact HDr, by rw [HE.out]; exact HCr⟩
        case measure => simp [intOf]; omega
      · rw [decide_eq_false hf] at hrun
        have HE : Hid (onceL (xs.take (k + 1)) = onceL (xs.take k) ++ [x]) := Lib.hid (by rw [HTK.out, once_snoc, if_neg hf])
        have HD' : Hid (SetT (D.put (.string x.data.toList) (.lit (.bool true))) (bytesOf (onceL (xs.take (k + 1))))) := Lib.hid ((HDr.out.put x.data.toList).same (fun l => by rw [HE.out]; simp [bytesOf]))
        have hkm : kk < maxLen := by unfold maxLen; omega
        have HK := Lib.hid (Go.WideMaps.keyOf_string_mk (P := Tryd.prog) Tryd.underlying9 HXs.out)
        clear hf
        go_wp2_with (at_mapUpdate; refine wpList_mapUpdate_own _ rfl _ _ _ 106 rfl 9 4 (string_keyed Tryd.underlying9) Tryd.underlying106 _ w.heap.size kk D rfl HOr.out hkm _ _ (.string x.data.toList) rfl rfl HK.out (.lit (.bool true)) [] (plainElem_bool Tryd.underlying4 true) ?_; intro w1 ho hg; refine Hid.out ?_)
        have HB1 := Lib.hid (HBr.out.grown hg HBr.out.size (fun k h => by cases h; exact Nat.le_refl _))
        have hs1 : w.heap.size + 1 ≤ w1.heap.size := Nat.le_trans HSr.out hg.size
        have HO1 : Hid (∃ kk', kk' ≤ k + 1 ∧ w1.ownsMap Tryd.prog 9 (plainElem Tryd.prog 4) w.heap.size kk' (D.put (.string x.data.toList) (.lit (.bool true)))) := Lib.hid ⟨_, by first | omega | (split <;> omega), ho⟩
        obtain ⟨kk', hkk', ho'⟩ := HO1.out
        have HO2 := Lib.hid ho'
        have HL1 := HLI.out.kept hg (by
          cases hob : (Value.slice ao (onceL (xs.take k)).length cap).ownBlock with
          | none => exact .inl rfl
          | some g => exact .inr (fun e => by cases e; have := HLI.out.lt _ hob; omega))
        have hlen : (onceL (xs.take k)).length ≤ k := HLe.out
        have HCA := Lib.hid (HL1.alloc (.cells #[.string x, .slice none 0 0] 94))
        clear ho hg hrun HL1 ho'
        refine Lib.hid ?_
        go_wp2_with (at_builtin; refine wpList_append_own _ rfl _ _ 66 rfl (w.heap.size + 1) 94 i0 (.agg #[.string ⟨#[]⟩, .slice none 0 0]) 2 40 Tryd.underlying66 HIN.out hz0 hz1 hz2 rfl (by decide) _ _ _ rfl HCA.out ⟨w1.heap.size, 0, none⟩ 1 1 [.string x, .slice none 0 0] rfl rfl ?c1 ?c2 ?c3 ?c4 ?c5 ?_)
        case c1 =>
          intro j u hj
          rw [cell_row (World.alloc_heap_new w1 _)]
          match j, hj with
          | 0, hj => simp at hj; subst hj; rfl
          | 1, hj => simp at hj; subst hj; rfl
        case c2 => intro u hu; simp at hu; rcases hu with rfl | rfl <;> rfl
        case c3 => unfold maxLen; omega
        case c4 => omega
        case c5 => simp; omega
        intro v' w3 hown' hgrow _
        have HB3 := Lib.hid ((HB1.out.alloc (by omega) _).grown hgrow (by simp; omega) (fun k hk => by have := HCA.out.lt k hk; omega))
        have hs3 : w.heap.size + 1 ≤ w3.heap.size := by have := hgrow.size; simp at this; omega
        have HS3 := Lib.hid hs3
        have HO3 := Lib.hid ((ownsMap_below HO2.out ((Below.refl _ w1).alloc (Nat.le_refl _) (.cells #[.string x, .slice none 0 0] 94))).kept hgrow (fun e => by have := HCA.out.lt _ e.symm; omega))
        have HC3 : Hid (OwnC w3 (w.heap.size + 1) v' ((onceL (xs.take (k + 1))).map bareC)) := Lib.hid ⟨by
          rw [HE.out, List.length_map, List.length_append, List.map_append, cellsC_app]
          have e : cellsC ((onceL (xs.take k)).map bareC) ++ [Value.string x, Value.slice none 0 0] = cellsC ((onceL (xs.take k)).map bareC) ++ cellsC ([x].map bareC) := rfl
          rw [← e]; exact hown', bare_owned _ _ _⟩
        obtain ⟨ao2, cap2, rfl⟩ := own_slice hown'
        clear hown' hgrow
        go_wp2_with fail
        go_roundw
        case rel => exact ⟨k + 1, kk', _, by omega, by omega, by go_num, HB3, HS3, HO3, HD', HC3⟩
        case measure => simp [intOf]; omega
    · have hke : k = xs.length := by omega
      have HE : Hid (OwnC wr w.heap.size u3 ((onceL xs).map bareC)) := Lib.hid (by
        have := HCr.out
        rw [hke, List.take_length] at this
        exact ⟨this.list.mono (by omega), bare_owned _ _ _⟩)
      obtain ⟨ao, cap, rfl⟩ := own_slice HE.out.list
      clear hke HCr
      go_wp2_with fail
      go_ret
      exact ⟨_, rfl, HE.out, HBr.out⟩
end Go.Proofs.YtmomjhnbhckhpaaDoor
