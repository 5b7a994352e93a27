/-
  The reference: a row's cells at columns; whether rows are told apart; where names are.
  Conditions: at most 2^40 rows and columns.
-/
import Derived.Deep.OwnRows
import Derived.Deep.RegionHeld3
import Derived.Deep.QuietTactic
import Derived.Deep.RegionWith
import Derived.BigQuiet
import Derived.WalkKit
import Derived.WalkMore
import Derived.IntWalk
import Derived.WalkArith
import Derived.OwnWalk
import Derived.Lib.Hide
import Derived.Test.YtmomjhnbhckhpaaDoorProg
import Derived.Test.YtmomjhnbhckhpaaDoorKApp
import Derived.Test.YtmomjhnbhckhpaaDoorKPlaces
namespace Go.Proofs.YtmomjhnbhckhpaaDoor
open Go.RowKit Go.Shelf Go.Deep
set_option linter.unusedVariables false

def StrsOut (xs : List ByteArray) (w : World) (e : Ending) (w' : World) : Prop := ∃ ao cap, e = .returned (.slice ao xs.length cap) ∧ StrRow w' ao xs ∧ Below w.heap.size w w'
theorem own_strsK {w : World} {base : Nat} {e : TypeId} {ao : Option Addr} {n cap : Nat} {xs : List ByteArray} {L : List Value} (h : w.ownsRow base e 1 (.slice ao n cap) n L) (hL : L = xs.map Value.string) : StrRow w ao xs := by
  subst hL
  rcases h.2 with ⟨hv, h0⟩ | ⟨g, c, cur, hv, _, hg, _⟩
  · have := h.1; simp at this; exact .inl (List.eq_nil_of_length_eq_zero (by omega))
  · cases hv
    refine .inr ⟨_, rfl, (h.lt g rfl).2, fun i c hc => h.cells rfl i _ (by rw [List.getElem?_map, hc]; rfl)⟩
theorem src_text (V : World) (x : ByteArray) (T : TypeId) : ∀ ad, some (⟨V.heap.size, 0, none⟩ : Addr) = some ad → ∀ (j : Nat) u, [Value.string x][j]? = some u → (V.alloc (.cells #[.string x] T)).cell? (ad.add j) = some u := fun ad e j u hu => by
  cases e
  match j, hu with
  | 0, hu => cases hu; exact (Lib.cell_of_heap (World.alloc_heap_new V _) 0).trans rfl
def keyR (rs : List (List ByteArray)) (row : Int) (cols : List Int) : List ByteArray := cols.map (cellL rs row)

set_option maxRecDepth 100000 in
set_option maxHeartbeats 4000000 in
theorem rkey_any (ho : Option Addr) (m hc : Nat) (ro : Option Addr) (rc : Nat) (rs : List (List ByteArray)) (row : Int) (co : Option Addr) (cc : Nat) (cols : List Int) (w : World) (hn : cols.length ≤ 1048576) (hR : RowsAt w ro rs) (hI : IntsAt w co cols) :
    Calls Tryd.prog 68 #[.agg #[.slice ho m hc, .slice ro rs.length rc], .int .i64 row, .slice co cols.length cc] w (StrsOut (keyR rs row cols) w) := by
  obtain ⟨W, HW⟩ : ∃ W, Hid (W = w.alloc (TabO ho m hc ro rs.length rc)) := ⟨_, Lib.hid rfl⟩
  have hB : Below w.heap.size w W := by rw [HW.out]; exact one_below _ _
  have HB0 := Lib.hid hB
  have hN : W.heap[w.heap.size]? = some (TabO ho m hc ro rs.length rc) := by rw [HW.out]; exact World.alloc_heap_new w _
  have HNew := Lib.hid hN
  have CC := Lib.hid (fun V (c : Int) (h : Below W.heap.size W V) => rcell_any ho m hc ro rc rs row c V (hR.kept (below_up hB h)))
  have HIo := Lib.hid (hI.kept hB)
  have HK : Hid (∀ (k : Nat) c, cols[k]? = some c → ((keyR rs row cols).map Value.string).take k ++ [Value.string (cellL rs row c)] = ((keyR rs row cols).map Value.string).take (k + 1)) := Lib.hid (fun k c hk => by
    unfold keyR
    rw [List.take_add_one (i := k), List.getElem?_map, List.getElem?_map, hk]; rfl)
  have HKl : Hid ((keyR rs row cols).length = cols.length) := Lib.hid (by unfold keyR; simp)
  generalize keyR rs row cols = xs at HK HKl ⊢
  have hinfo : (Tryd.prog.info? 9).map (fun i => (i.zero, i.size, i.bytes)) = some (some (.string ⟨#[]⟩), 1, 16) := by kernel_rfl
  obtain ⟨i0, hi, hz0, hz1, hz2⟩ := info_parts2 hinfo
  have HIn := Lib.hid hi
  clear hi hinfo hR hB hN hI
  go_enter Tryd.func68, Tryd.ntmps68
  go_wp2_with fail
  rw [show w.alloc (Obj.cells #[Value.slice ho m hc, Value.slice ro rs.length rc] 25) = W from HW.out.symm]
  go_loopw [7, 8] (fun v i wr => ∃ (k cap : Nat) (ao : Option Addr), k ≤ cols.length ∧ v = .slice ao k cap ∧ i = .int .i64 k ∧ Hid (Below W.heap.size W wr) ∧ Hid (wr.ownsRow W.heap.size 9 1 (.slice ao k cap) k ((xs.map Value.string).take k))) (fun _ i _ => cols.length - (intOf i).toNat)
  case atStart => exact ⟨0, 0, none, Nat.zero_le _, rfl, rfl, Lib.hid (Below.refl _ _), Lib.hid (World.ownsRow_nil _ _ _ _)⟩
  case round =>
    obtain ⟨k, cap, ao, hk, rfl, rfl, HB, HO⟩ := hrel
    by_cases hlt : k < cols.length
    · obtain ⟨c, hcol⟩ : ∃ c, cols[k]? = some c := ⟨_, List.getElem?_eq_getElem hlt⟩
      obtain ⟨c0, c1⟩ := tabs ((HB.out.block _ (lt_of_heap HNew.out)).trans HNew.out)
      rcases HIo.out with h0 | ⟨A, rfl, hA, hcell⟩
      · rw [h0] at hlt; simp at hlt
      have HCa : Hid (∀ V, Below W.heap.size W V → V.cell? (A.add k) = some (.int .i64 c)) := Lib.hid (fun V h => (h.cell (p := A.add k) (by rw [add_block]; exact hA)).trans (hcell k c hcol))
      have ca := HCa.out wr HB.out
      have HT := Lib.hid (HK.out k c hcol)
      have hws : W.heap.size ≤ wr.heap.size := HB.out.size
      clear hcell
      have C1 := Lib.hid (CC.out wr c HB.out)
      have C2 := Lib.hid (CC.out wr.drew c HB.out.drew)
      generalize cellL rs row c = x at C1 C2 HT
      have q1 : k + 1 ≤ maxLen := by unfold maxLen; omega
      have q2 : (k + 1) * 16 ≤ 140737488355328 := by omega
      have KEEP : Hid (∀ V, Below W.heap.size W V → V.cell? ⟨w.heap.size, 0, none⟩ = some (.slice ho m hc) ∧ V.cell? ⟨w.heap.size, 1, none⟩ = some (.slice ro rs.length rc) ∧ V.cell? (A.add k) = some (.int .i64 c)) := Lib.hid (fun V h => by
        obtain ⟨d0, d1⟩ := tabs ((h.block _ (lt_of_heap HNew.out)).trans HNew.out)
        exact ⟨d0, d1, (HCa.out V h)⟩)
      go_upto_region 5 with fail
      go_region_held3 (fun V => V.cell? ⟨w.heap.size, 0, none⟩ = some (.slice ho m hc) ∧ V.cell? ⟨w.heap.size, 1, none⟩ = some (.slice ro rs.length rc) ∧ V.cell? (A.add k) = some (.int .i64 c)) ((refine ⟨?_, ?_, ?_⟩ <;> first | assumption | go_keep))
        (first
          | (go_at_call 80; refine C2.out.mono ?_; rintro e w2 ⟨rfl, b2⟩; have B2 := Lib.hid (below_up HB.out.drew b2); obtain ⟨c0, c1, ca⟩ := KEEP.out w2 B2.out; have HO2 := Lib.hid ((ownsRow_below HO.out.drew b2).alloc (.cells #[.string x] 9)); have HB3 : Hid (Below W.heap.size W (w2.alloc (.cells #[.string x] 9))) := Lib.hid (B2.out.alloc B2.out.size _); clear b2)
          | (refine step_append_gd (by rfl) _ _ 22 (by rfl) W.heap.size 9 i0 (.string ⟨#[]⟩) 1 16 Tryd.underlying22 HIn.out hz0 hz1 hz2 rfl (by decide) (.slice ao k cap) k ((xs.map Value.string).take k) (by rfl) HO2.out (some ⟨w2.heap.size, 0, none⟩) 1 1 [.string x] (by rfl) (fun e => by cases e) (by simp) (src_text w2 x _) (fun u hu => by simp at hu; subst hu; rfl) q1 q2 HB3.out.size (k + 1) rfl ((xs.map Value.string).take (k + 1)) HT.out ?_; intro jo jc w4 hown _ hbel; have B4 := Lib.hid (HB3.out.trans hbel); have HO4 := Lib.hid hown; obtain ⟨c0, c1, ca⟩ := KEEP.out w4 B4.out; clear hown hbel))
      go_wp2_with fail
      go_roundw
      case rel => exact ⟨k + 1, jc, jo, by omega, rfl, by go_num, B4, HO4⟩
      case measure => simp [intOf]; omega
    · have hke : k = cols.length := by omega
      have hkx : (xs.map Value.string).take k = xs.map Value.string := List.take_of_length_le (by have := HKl.out; simp; omega)
      have HE := Lib.hid (own_strsK (xs := xs) HO.out hkx)
      have HBe := Lib.hid (below_up HB0.out HB.out)
      clear hkx HO HB
      subst hke
      go_wp2_with fail
      go_ret
      exact ⟨ao, cap, by rw [HKl.out]; rfl, HE.out, HBe.out⟩
theorem bytes_injK {xs ys : List ByteArray} (h : bytesOf xs = bytesOf ys) : xs = ys := by
  unfold bytesOf at h
  exact List.map_inj_right (fun a b e => ba_eq e) |>.1 h

set_option maxRecDepth 100000 in
set_option maxHeartbeats 2000000 in
theorem runique_any (ho : Option Addr) (m hc : Nat) (ro : Option Addr) (rc : Nat) (rs : List (List ByteArray)) (co : Option Addr) (cc : Nat) (cols : List Int) (w : World) (hm : m ≤ 1099511627776) (hr : rs.length ≤ 1099511627776) (hn : cols.length ≤ 1048576) (hR : RowsAt w ro rs) (hI : IntsAt w co cols) :
    Calls Tryd.prog 47 #[.agg #[.slice ho m hc, .slice ro rs.length rc], .slice co cols.length cc] w fun e w' => e = .returned (.bool (uniqL m rs cols)) ∧ Below w.heap.size w w' := by
  obtain ⟨W, HW⟩ : ∃ W, Hid (W = w.alloc (TabO ho m hc ro rs.length rc)) := ⟨_, Lib.hid rfl⟩
  have hB : Below w.heap.size w W := by rw [HW.out]; exact one_below _ _
  have HB0 := Lib.hid hB
  have hN : W.heap[w.heap.size]? = some (TabO ho m hc ro rs.length rc) := by rw [HW.out]; exact World.alloc_heap_new w _
  have HIo := Lib.hid (hI.kept hB)
  have box : Hid (∀ V, Below W.heap.size W V → V.cell? ⟨w.heap.size, 0, none⟩ = some (.slice ho m hc) ∧ V.cell? ⟨w.heap.size, 1, none⟩ = some (.slice ro rs.length rc)) := Lib.hid (fun V hV => tabs ((hV.block _ (lt_of_heap hN)).trans hN))
  have CK := Lib.hid (fun (j : Nat) V (h : Below W.heap.size W V) => rkey_any ho m hc ro rc rs (j : Int) co cc cols V hn (hR.kept (below_up hB h)) (hI.kept (below_up hB h)))
  have CR := Lib.hid (fun (ao bo : Option Addr) (ca cb : Nat) (xs ys : List ByteArray) V (hl : xs.length ≤ 1099511627776) (h1 : StrRow V ao xs) (h2 : StrRow V bo ys) => rrow_any ao bo ca cb xs ys V hl h1 h2)
  have HOut := Lib.hid (fun (c : Int) (hc : c ∈ cols) (h : c < 0 ∨ (m : Int) ≤ c) => uniq_out m rs cols c hc h)
  have HSame : Hid (∀ a b : Nat, a < b → b < rs.length → keyR rs a cols = keyR rs b cols → uniqL m rs cols = false) := Lib.hid (fun a b h1 h2 h3 => by
    cases hu : uniqL m rs cols with
    | false => rfl
    | true =>
      unfold uniqL at hu
      rw [Bool.and_eq_true, apart_iff] at hu
      exact absurd h3 (hu.2 a b h1 h2))
  have HYes : Hid ((∀ c ∈ cols, 0 ≤ c ∧ c < (m : Int)) → (∀ a b : Nat, a < b → b < rs.length → keyR rs a cols ≠ keyR rs b cols) → uniqL m rs cols = decide (0 < cols.length)) := Lib.hid (fun h1 h2 => by
    unfold uniqL
    rw [(inHead_iff m cols).2 h1, (apart_iff rs cols).2 h2]
    cases cols <;> simp)
  have HLn : Hid (∀ a : Int, (keyR rs a cols).length ≤ 1099511627776) := Lib.hid (fun a => by unfold keyR; simp; omega)
  generalize uniqL m rs cols = F at HOut HSame HYes ⊢
  clear hR hI hB hN
  go_enter Tryd.func47, Tryd.ntmps47
  go_wp2_with fail
  rw [show w.alloc (Obj.cells #[Value.slice ho m hc, Value.slice ro rs.length rc] 25) = W from HW.out.symm]
  go_loopw [5] (fun i wr => ∃ (k : Nat), k ≤ cols.length ∧ i = .int .i64 k ∧ Hid (Below W.heap.size W wr) ∧ Hid (∀ (j : Nat) c, j < k → cols[j]? = some c → 0 ≤ c ∧ c < (m : Int))) (fun i _ => cols.length - (intOf i).toNat)
  case atStart => exact ⟨0, Nat.zero_le _, rfl, Lib.hid (Below.refl _ _), Lib.hid (fun j c h => by omega)⟩
  case round =>
    obtain ⟨k, hk, rfl, HB, HA⟩ := hrel
    by_cases hlt : k < cols.length
    · obtain ⟨c, hcol⟩ : ∃ c, cols[k]? = some c := ⟨_, List.getElem?_eq_getElem hlt⟩
      obtain ⟨c0, c1⟩ := box.out wr HB.out
      have HCol := Lib.hid hcol
      rcases (HIo.out.kept HB.out) with h0 | ⟨A, rfl, hA, hcell⟩
      · rw [h0] at hlt; simp at hlt
      have ca := hcell k c hcol
      clear hcell hcol
      by_cases h0 : c < 0
      · have d0 : decide (c < 0) = true := decide_eq_true h0
        have E := Lib.hid (HOut.out c (List.mem_of_getElem? HCol.out) (.inl h0))
        go_upto_region 4 with fail
        go_quiet (fail)
        have HBq := Lib.hid (below_up HB0.out (bdn (n := nq) HB.out))
        go_wp2_with fail
        go_ret
        exact ⟨by rw [E.out]; rfl, HBq.out⟩
      · have d0 : decide (c < 0) = false := decide_eq_false h0
        by_cases h1 : (m : Int) ≤ c
        · have d1 : decide ((m : Int) ≤ c) = true := decide_eq_true h1
          have E := Lib.hid (HOut.out c (List.mem_of_getElem? HCol.out) (.inr h1))
          go_upto_region 4 with fail
          go_quiet (fail)
          have HBq := Lib.hid (below_up HB0.out (bdn (n := nq) HB.out))
          go_wp2_with fail
          go_ret
          exact ⟨by rw [E.out]; rfl, HBq.out⟩
        · have d1 : decide ((m : Int) ≤ c) = false := decide_eq_false h1
          have HA' : Hid (∀ (j : Nat) c, j < k + 1 → cols[j]? = some c → 0 ≤ c ∧ c < (m : Int)) := Lib.hid (fun j x hj hx => by
            by_cases e : j = k
            · subst e; rw [HCol.out] at hx; cases hx; omega
            · exact HA.out j x (by omega) hx)
          go_upto_region 4 with fail
          go_quiet (fail)
          have HBq := Lib.hid (bdn (n := nq) HB.out)
          go_wp2_with fail
          go_roundw
          case rel => exact ⟨k + 1, by omega, by go_num, HBq, HA'⟩
          case measure => simp [intOf]; omega
    · have HIn : Hid (∀ c ∈ cols, 0 ≤ c ∧ c < (m : Int)) := Lib.hid (fun c hc => by
        obtain ⟨i, hi⟩ := List.mem_iff_getElem?.1 hc
        exact HA.out i c (by have := (List.getElem?_eq_some_iff.1 hi).1; omega) hi)
      have HY := Lib.hid (HYes.out HIn.out)
      have HBs := HB
      clear HB HA HIn HYes HOut
      go_wp2_with fail
      go_loopw [6] (fun i wr => ∃ (j : Nat), j ≤ rs.length ∧ i = .int .i64 j ∧ Hid (Below W.heap.size W wr) ∧ Hid (∀ a b : Nat, a < b → b < j → keyR rs a cols ≠ keyR rs b cols)) (fun i _ => rs.length - (intOf i).toNat)
      case atStart => exact ⟨0, Nat.zero_le _, rfl, HBs, Lib.hid (fun a b _ h => by omega)⟩
      case round =>
        obtain ⟨j, hj, rfl, HB, HA⟩ := hrel
        clear HBs
        obtain ⟨c0, c1⟩ := box.out _ HB.out
        by_cases hlt : j < rs.length
        · go_wp2_with fail
          clear c0 c1
          go_loopw [7, 8] (fun i v wr => ∃ (k : Nat), k ≤ j ∧ i = .int .i64 k ∧ Hid (Below W.heap.size W wr) ∧ Hid (∀ a : Nat, a < k → keyR rs a cols ≠ keyR rs j cols)) (fun i _ _ => j - (intOf i).toNat)
          case atStart => exact ⟨0, Nat.zero_le _, rfl, HB, Lib.hid (fun a h => by omega)⟩
          case round =>
            obtain ⟨k, hkj, rfl, HBw, HAk⟩ := hrel
            obtain ⟨p0, p1⟩ := box.out _ HBw.out
            by_cases hkl : k < j
            · have CKj := Lib.hid (CK.out j)
              have CKk := Lib.hid (CK.out k)
              have hl := HLn.out j
              have HS := Lib.hid (HSame.out k j hkl hlt)
              have HX : Hid (∀ a : Nat, a < k → keyR rs a cols ≠ keyR rs j cols) := HAk
              obtain ⟨xs, hxs⟩ : ∃ xs, xs = keyR rs j cols := ⟨_, rfl⟩
              obtain ⟨ys, hys⟩ : ∃ ys, ys = keyR rs k cols := ⟨_, rfl⟩
              have HXY := Lib.hid (And.intro hxs hys)
              rw [← hxs] at CKj hl
              rw [← hys] at CKk
              have CRx := Lib.hid (fun (ao bo : Option Addr) (ca cb : Nat) V (h1 : StrRow V ao xs) (h2 : StrRow V bo ys) => CR.out ao bo ca cb xs ys V hl h1 h2)
              unfold StrsOut at CKj CKk
              have HBd := Lib.hid (HBw.out.drew)
              clear hl hxs hys
              cases hsm : sameRow xs ys with
              | true =>
                rw [hsm] at CRx
                have E : Hid (F = false) := Lib.hid (HS.out (by
                  have := bytes_injK ((sameRow_iff xs ys).1 hsm)
                  rw [← HXY.out.1, ← HXY.out.2, this]))
                clear hsm
                go_upto_region 12 with fail
                go_region_held3 (fun V => V.cell? ⟨w.heap.size, 0, none⟩ = some (.slice ho m hc) ∧ V.cell? ⟨w.heap.size, 1, none⟩ = some (.slice ro rs.length rc)) ((refine ⟨?_, ?_⟩ <;> first | assumption | go_keep)) (first
                  | (go_at_call 68; refine (CKj.out _ HBd.out).mono ?_; rintro e wA ⟨aoA, cA, rfl, hsA, bA⟩; have HBel := Lib.hid (below_up HBd.out bA); have HSA := Lib.hid hsA; obtain ⟨p0, p1⟩ := box.out _ HBel.out; clear hsA bA CKj HBd)
                  | (go_at_call 68; refine (CKk.out _ HBel.out).mono ?_; rintro e wB ⟨aoB, cB, rfl, hsB, bB⟩; have HBel := Lib.hid (below_up HBel.out bB); have HSA := Lib.hid (HSA.out.kept bB); have HSB := Lib.hid hsB; obtain ⟨p0, p1⟩ := box.out _ HBel.out; clear hsB bB CKk)
                  | (go_at_call 15; refine (CRx.out _ _ _ _ _ HSA.out HSB.out).mono ?_; rintro e wC ⟨rfl, bC⟩; have HBel := Lib.hid (below_up HBel.out bC); obtain ⟨p0, p1⟩ := box.out _ HBel.out; clear bC))
                all_goals (go_wp2_with fail; go_ret; exact ⟨by rw [E.out]; rfl, below_up HB0.out HBel.out⟩)
              | false =>
                rw [hsm] at CRx
                have HA' : Hid (∀ a : Nat, a < k + 1 → keyR rs a cols ≠ keyR rs j cols) := Lib.hid (fun a ha e => by
                  by_cases h : a = k
                  · subst h
                    rw [← HXY.out.1, ← HXY.out.2] at e
                    rw [e] at hsm
                    simp [sameRow] at hsm
                  · exact HX.out a (by omega) e)
                clear hsm
                go_upto_region 12 with fail
                go_region_held3 (fun V => V.cell? ⟨w.heap.size, 0, none⟩ = some (.slice ho m hc) ∧ V.cell? ⟨w.heap.size, 1, none⟩ = some (.slice ro rs.length rc)) ((refine ⟨?_, ?_⟩ <;> first | assumption | go_keep)) (first
                  | (go_at_call 68; refine (CKj.out _ HBd.out).mono ?_; rintro e wA ⟨aoA, cA, rfl, hsA, bA⟩; have HBel := Lib.hid (below_up HBd.out bA); have HSA := Lib.hid hsA; obtain ⟨p0, p1⟩ := box.out _ HBel.out; clear hsA bA CKj HBd)
                  | (go_at_call 68; refine (CKk.out _ HBel.out).mono ?_; rintro e wB ⟨aoB, cB, rfl, hsB, bB⟩; have HBel := Lib.hid (below_up HBel.out bB); have HSA := Lib.hid (HSA.out.kept bB); have HSB := Lib.hid hsB; obtain ⟨p0, p1⟩ := box.out _ HBel.out; clear hsB bB CKk)
                  | (go_at_call 15; refine (CRx.out _ _ _ _ _ HSA.out HSB.out).mono ?_; rintro e wC ⟨rfl, bC⟩; have HBel := Lib.hid (below_up HBel.out bC); obtain ⟨p0, p1⟩ := box.out _ HBel.out; clear bC))
                all_goals (go_wp2_with fail; go_roundw)
                all_goals first
                  | exact ⟨k + 1, by omega, by go_num, HBel, HA'⟩
                  | (simp [intOf]; omega)
            · obtain rfl : k = j := by omega
              have HA' : Hid (∀ a b : Nat, a < b → b < k + 1 → keyR rs a cols ≠ keyR rs b cols) := Lib.hid (fun a b h1 h2 => by
                by_cases h : b = k
                · subst h; exact HAk.out a h1
                · exact HA.out a b h1 (by omega))
              go_wp2_with fail
              go_roundw
              case rel => exact ⟨k + 1, by omega, by go_num, HBw, HA'⟩
              case measure => simp [intOf]; omega
        · obtain rfl : j = rs.length := by omega
          have E := Lib.hid (HY.out HA.out)
          go_wp2_with fail
          go_ret
          exact ⟨by rw [E.out]; rfl, below_up HB0.out HB.out⟩
end Go.Proofs.YtmomjhnbhckhpaaDoor
