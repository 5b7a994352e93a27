/-
  The document's own answers for a table: a column, the records, whether it may be, the table of records.
  Conditions: tables of at most 2^40 names and rows of at most 2^40 cells; all texts have together at most 2^60 bytes.
-/
import Derived.WalkKit
import Derived.WalkMore
import Derived.Lib.Hide
import Derived.Laws.AppendOwn
import Derived.Laws.AppendOwnNone
import Derived.Deep.QuietTactic
import Derived.BigQuiet
import Derived.Lib.QuietBelow
import Derived.Deep.RegionWith
import Derived.Deep.CutRange
import Derived.Deep.Onto
import Derived.Test.YtigijgcldgbokaaGreatProg
import Derived.Test.YtigijgcldgbokaaGreatTRefA
import Derived.Test.YtigijgcldgbokaaGreatTRec
namespace Go.Proofs.YtigijgcldgbokaaGreat
open Go.RowKit Go.Shelf
set_option linter.unusedVariables false

def StrOut (xs : List ByteArray) (w : World) (e : Ending) (w' : World) : Prop := ∃ ao cap, e = .returned (.slice ao xs.length cap) ∧ StrRow w' ao xs ∧ Below w.heap.size w w'
/-- and with the room that it has -/
def StrOutC (xs : List ByteArray) (w : World) (e : Ending) (w' : World) : Prop := ∃ ao cap, e = .returned (.slice ao xs.length cap) ∧ xs.length ≤ cap ∧ StrRow w' ao xs ∧ Below w.heap.size w w'
theorem own_room {w : World} {base : Nat} {e : TypeId} {size n m cap : Nat} {ao : Option Addr} {xs : List Value} (h : w.ownsRow base e size (.slice ao n cap) m xs) (hm : n = m) : n ≤ cap := by
  rcases h.2 with ⟨h1, h2⟩ | ⟨g, c, cur, h1, _, _, h3, _⟩
  · omega
  · injection h1 with _ _ e; omega
def RowsOut (rs : List (List ByteArray)) (w : World) (e : Ending) (w' : World) : Prop := ∃ ao cap, e = .returned (.slice ao rs.length cap) ∧ rs.length ≤ cap ∧ RowsAt w' ao rs ∧ Below w.heap.size w w'
theorem own_row_str {w : World} {base : Nat} {e : TypeId} {ao : Option Addr} {n cap : Nat} {xs : List ByteArray} (h : w.ownsRow base e 1 (.slice ao n cap) n (xs.map Value.string)) (hl : xs.length = n) : StrRow w ao xs := by
  rcases h.2 with ⟨h1, h2⟩ | ⟨g, c, cur, h1, _⟩
  · cases h1; exact .inl (List.eq_nil_of_length_eq_zero hl)
  · cases h1; exact .inr ⟨_, rfl, (h.lt g rfl).2, fun i c hc => h.cells rfl i _ (by rw [List.getElem?_map, hc]; rfl)⟩

set_option maxRecDepth 100000 in
set_option maxHeartbeats 4000000 in
theorem rcolumnC_any (ho : Option Addr) (hc : Nat) (hd : List ByteArray) (ro : Option Addr) (rc : Nat) (rs : List (List ByteArray)) (c : Int) (w : World) (hn2 : rs.length ≤ 1099511627776) (hR : RowsAt w ro rs) :
    Calls Tryz.prog 60 #[.agg #[.slice ho hd.length hc, .slice ro rs.length rc], .int .i64 c] w (StrOutC (columnT hd rs c) w) := by
  obtain ⟨W, HW⟩ : ∃ W, Hid (W = w.alloc (TabO ho hd.length hc ro rs.length rc)) := ⟨_, Lib.hid rfl⟩
  have hB : Below w.heap.size w W := by rw [HW.out]; exact one_below _ _
  have HB0 := Lib.hid hB
  have hN : W.heap[w.heap.size]? = some (TabO ho hd.length hc ro rs.length rc) := by rw [HW.out]; exact World.alloc_heap_new w _
  have HNew := Lib.hid hN
  have CC := Lib.hid (fun V (k : Nat) (h : Below W.heap.size W V) => rcell_any ho hd.length hc ro rc rs (k : Int) c V (hR.kept (below_up hB h)))
  obtain ⟨c0, c1⟩ := tabs hN
  clear hR hB hN
  by_cases h1 : c < 0
  · have E := Lib.hid (show columnT hd rs c = [] from by unfold columnT; rw [if_neg]; omega)
    rw [E.out]
    go_enter Tryz.func60, Tryz.ntmps60
    go_wp2_with fail
    go_ret
    exact ⟨none, 0, rfl, Nat.le_refl _, .inl rfl, by rw [HW.out] at HB0; exact HB0.out⟩
  by_cases h2 : (hd.length : Int) ≤ c
  · have E := Lib.hid (show columnT hd rs c = [] from by unfold columnT; rw [if_neg]; omega)
    rw [E.out]
    go_enter Tryz.func60, Tryz.ntmps60
    go_wp2_with fail
    go_ret
    exact ⟨none, 0, rfl, Nat.le_refl _, .inl rfl, by rw [HW.out] at HB0; exact HB0.out⟩
  have E := Lib.hid (show columnT hd rs c = colL rs c from by unfold columnT; rw [if_pos]; omega)
  rw [E.out]
  have HA := Lib.hid (colL_at rs c)
  have HL := Lib.hid (colL_len rs c)
  clear E
  generalize colL rs c = xs at HA HL ⊢
  have hinfo : (Tryz.prog.info? 9).map (fun i => (i.zero, i.size, i.bytes)) = some (some (.string ⟨#[]⟩), 1, 16) := by kernel_rfl
  obtain ⟨i0, hi, hz0, hz1, hz2⟩ := info_parts hinfo
  have HI := Lib.hid hi
  clear hi hinfo
  go_enter Tryz.func60, Tryz.ntmps60
  go_wp2_with fail
  rw [show w.alloc (Obj.cells #[Value.slice ho hd.length hc, Value.slice ro rs.length rc] 25) = W from HW.out.symm]
  clear c0 c1
  go_loopw [5, 6] (fun v i wr => ∃ (k cap : Nat) (ao : Option Addr), k ≤ rs.length ∧ v = .slice ao k cap ∧ i = .int .i64 k ∧ Hid (Below W.heap.size W wr) ∧ Hid (wr.ownsRow W.heap.size 9 1 (.slice ao k cap) k ((xs.map Value.string).take k))) (fun _ i _ => rs.length - (intOf i).toNat)
  case atStart => exact ⟨0, 0, none, Nat.zero_le _, rfl, rfl, Lib.hid (Below.refl _ _), Lib.hid (World.ownsRow_nil _ _ _ _)⟩
  case round =>
    obtain ⟨k, cap, ao, hk, rfl, rfl, HB, HO⟩ := hrel
    obtain ⟨c0, c1⟩ := tabs ((HB.out.block _ (lt_of_heap HNew.out)).trans HNew.out)
    by_cases hlt : k < rs.length
    · have C1 := Lib.hid (CC.out wr k HB.out)
      have HX := Lib.hid (HA.out k hlt)
      generalize cellL rs k c = x at C1 HX
      have HT : Hid ((xs.map Value.string).take k ++ [Value.string x] = (xs.map Value.string).take (k + 1)) := Lib.hid (by
        obtain ⟨hk', e⟩ := List.getElem?_eq_some_iff.1 HX.out
        rw [List.take_succ_eq_append_getElem (by simpa using hk')]; simp [e])
      go_wp2_with fail
      refine C1.out.mono ?_; rintro e w2 ⟨rfl, b2⟩
      have HB2 := Lib.hid (below_up HB.out b2)
      have HO2 := Lib.hid ((ownsRow_below HO.out b2).alloc (.cells #[.string x] 9))
      have hbs : W.heap.size ≤ (w2.alloc (.cells #[.string x] 9)).heap.size := by have := HB2.out.size; simp; omega
      clear b2 c0 c1
      go_wp2_with (at_builtin; refine wpList_append_own _ rfl _ _ 22 rfl W.heap.size 9 i0 (.string ⟨#[]⟩) 1 16 Tryz.underlying22 HI.out hz0 hz1 hz2 rfl (by decide) _ _ _ rfl HO2.out ⟨w2.heap.size, 0, none⟩ 1 1 [.string x] rfl rfl ?c1 ?c2 ?c3 ?c4 ?c5 ?_)
      case c1 =>
        intro j u hj
        rw [cell_row (World.alloc_heap_new w2 _)]
        match j, hj with
        | 0, hj => simp at hj; subst hj; rfl
      case c2 => intro u hu; simp at hu; subst hu; rfl
      case c3 => unfold maxLen; omega
      case c4 => omega
      case c5 => exact hbs
      intro v' w3 hown' hgrow _
      obtain ⟨g, cp, rfl⟩ := ownsRow_succ hown'
      have HB3 := Lib.hid ((HB2.out.alloc HB2.out.size (.cells #[.string x] 9)).grown hgrow hbs (fun k' h' => by
        rcases HO.out.2 with ⟨h1, _⟩ | ⟨g', cp', cur, h1, hb, _⟩
        · cases h1; cases h'
        · cases h1; simp [Value.ownBlock] at h'; omega))
      rw [HT.out] at hown'
      have HO3 := Lib.hid hown'
      clear hown' hgrow hbs
      go_wp2_with fail
      go_roundw
      case rel => exact ⟨k + 1, cp, _, by omega, rfl, by go_num, HB3, HO3⟩
      case measure => simp [intOf]; omega
    · obtain rfl : k = rs.length := by omega
      have HCp := Lib.hid (own_room HO.out rfl)
      have HS : Hid (StrRow wr ao xs) := Lib.hid (own_row_str (by have := HO.out; rw [List.take_of_length_le (by simp [HL.out])] at this; exact this) HL.out)
      go_wp2_with fail
      go_ret
      exact ⟨_, _, by rw [HL.out]; rfl, by rw [HL.out]; exact HCp.out, HS.out, below_up HB0.out HB.out⟩
theorem rcolumn_any (ho : Option Addr) (hc : Nat) (hd : List ByteArray) (ro : Option Addr) (rc : Nat) (rs : List (List ByteArray)) (c : Int) (w : World) (hn2 : rs.length ≤ 1099511627776) (hR : RowsAt w ro rs) :
    Calls Tryz.prog 60 #[.agg #[.slice ho hd.length hc, .slice ro rs.length rc], .int .i64 c] w (StrOut (columnT hd rs c) w) :=
  (rcolumnC_any ho hc hd ro rc rs c w hn2 hR).mono fun e w' ⟨ao, cap, h1, _, h2, h3⟩ => ⟨ao, cap, h1, h2, h3⟩

theorem ownsRow_at {w : World} {base : Nat} {e : TypeId} {size n : Nat} {v : Value} {xs : List Value} (h : w.ownsRow base e size v (1 + n) xs) : ∃ g cap, v = .slice (some ⟨g, 0, none⟩) (1 + n) cap := by
  rcases h.2 with ⟨_, h2⟩ | ⟨g, c, cur, h1, _⟩
  · omega
  · exact ⟨g, c, h1⟩
theorem own_new (W : World) (v : Value) (e : TypeId) : (W.alloc (.cells #[v] e)).ownsRow W.heap.size e 1 (.slice (some ⟨W.heap.size, 0, none⟩) 1 1) 1 [v] :=
  ⟨rfl, .inr ⟨_, 1, _, rfl, Nat.le_refl _, World.alloc_heap_new W _, Nat.le_refl _, by decide, rfl, rfl⟩⟩

theorem dup_find_no (hd : List ByteArray) (h : ∀ (i : Nat) x, hd[i]? = some x → findL hd x = (i : Int)) : dupL hd = false := by
  unfold dupL
  rw [decide_eq_false]
  intro hn
  refine hn (List.pairwise_iff_getElem.2 fun i j hi hj hij e => ?_)
  simp only [bytesOf, List.length_map] at hi hj
  have e' : (hd[i]'(by omega)).data.toList = hd[j].data.toList := by simpa [bytesOf] using e
  have h1 := h i _ (List.getElem?_eq_getElem (show i < hd.length by omega))
  have h2 := h j _ (List.getElem?_eq_getElem hj)
  have : findL hd (hd[i]'(by omega)) = findL hd hd[j] := by unfold findL; simp only [e']
  omega
theorem dup_find_yes (hd : List ByteArray) (i : Nat) (x : ByteArray) (hx : hd[i]? = some x) (h : findL hd x ≠ (i : Int)) : dupL hd = true := by
  obtain ⟨hi, rfl⟩ := List.getElem?_eq_some_iff.1 hx
  unfold dupL
  refine decide_eq_true fun hn => h ?_
  refine firstAt_some _ hd i hd[i] hx (by simp) fun j c hj hc => ?_
  obtain ⟨hj', rfl⟩ := List.getElem?_eq_some_iff.1 hc
  refine decide_eq_false fun e => ?_
  exact List.pairwise_iff_getElem.1 hn j i (by simpa [bytesOf] using hj') (by simpa [bytesOf] using hi) hj (by simp [bytesOf, e])
theorem long_all (hd : List ByteArray) (rs : List (List ByteArray)) : longT (allT hd rs) = (longT hd || rs.any longT) := by
  unfold longT allT
  rw [List.any_append, List.any_flatten]
def restB (hd : List ByteArray) (rs : List (List ByteArray)) (k : Nat) : Bool := decide (40 < hd.length) || decide (400 < rs.length) || longT hd || (rs.take k).any longT
theorem restB_next (hd : List ByteArray) (rs : List (List ByteArray)) (k : Nat) (r : List ByteArray) (h : rs[k]? = some r) : restB hd rs (k + 1) = (restB hd rs k || longT r) := by
  obtain ⟨hk, e⟩ := List.getElem?_eq_some_iff.1 h
  unfold restB
  rw [List.take_succ_eq_append_getElem hk, e, List.any_append]; simp [Bool.or_assoc]
theorem restB_zero (hd : List ByteArray) (rs : List (List ByteArray)) : restB hd rs 0 = (decide (40 < hd.length) || decide (400 < rs.length) || longT hd) := by simp [restB]
theorem restB_all (hd : List ByteArray) (rs : List (List ByteArray)) : largeB hd rs = (restB hd rs rs.length || decide (40000 < sumT (allT hd rs))) := by
  unfold largeB restB; rw [long_all, List.take_length]; simp [Bool.or_assoc]
theorem ragged_no (hd : List ByteArray) (rs : List (List ByteArray)) (h : ∀ (j : Nat) r, rs[j]? = some r → r.length = hd.length) : raggedB hd rs = false := by
  unfold raggedB; rw [List.any_eq_false]; intro r hr
  obtain ⟨i, hi, rfl⟩ := List.getElem_of_mem hr
  simp [wideB, h i _ (List.getElem?_eq_getElem hi)]
theorem ragged_yes (hd : List ByteArray) (rs : List (List ByteArray)) (k : Nat) (r : List ByteArray) (hr : rs[k]? = some r) (h : r.length ≠ hd.length) : raggedB hd rs = true := by
  unfold raggedB; rw [List.any_eq_true]; exact ⟨r, List.mem_of_getElem? hr, by simp [wideB, h]⟩

set_option maxRecDepth 100000 in
set_option maxHeartbeats 8000000 in
theorem rcheck_any (ho : Option Addr) (hc : Nat) (hd : List ByteArray) (ro : Option Addr) (rc : Nat) (rs : List (List ByteArray)) (w : World)
    (hn : hd.length ≤ 1099511627776) (hn2 : rs.length ≤ 1099511627776) (hn3 : ∀ r ∈ rs, r.length ≤ 1099511627776) (hH : StrRow w ho hd) (hR : RowsAt w ro rs) (hsum : sumT (allT hd rs) ≤ 1152921504606846976) :
    Calls Tryz.prog 25 #[.agg #[.slice ho hd.length hc, .slice ro rs.length rc]] w fun e w' => e = .returned (.int .i64 (checkI hd rs)) ∧ Below w.heap.size w w' := by
  have hs : ∀ c ∈ allT hd rs, c.size ≤ 1152921504606846976 := fun c hc => by
    obtain ⟨a, b, e⟩ := List.append_of_mem hc
    rw [e] at hsum; simp [sumT] at hsum; omega
  obtain ⟨W, HW⟩ : ∃ W, Hid (W = w.alloc (TabO ho hd.length hc ro rs.length rc)) := ⟨_, Lib.hid rfl⟩
  have hB : Below w.heap.size w W := by rw [HW.out]; exact one_below _ _
  have HB := Lib.hid hB
  have HHo := Lib.hid hH
  have HRo := Lib.hid hR
  have HN3 := Lib.hid hn3
  have HSS := Lib.hid hs
  have hN : W.heap[w.heap.size]? = some (TabO ho hd.length hc ro rs.length rc) := by rw [HW.out]; exact World.alloc_heap_new w _
  have HNew := Lib.hid hN
  have CF := Lib.hid (fun V s (h : Below w.heap.size w V) => rfind_any ho hc hd ro rs.length rc s V hn (hH.kept h))
  have CL := Lib.hid (fun V (h : Below w.heap.size w V) => rlong_any ho hc hd V hn (fun c hc => hs c (List.mem_append_left _ hc)) (hH.kept h))
  have CT := Lib.hid (fun V (h : Below w.heap.size w V) => rtotal_any ho hc hd ro rc rs V hn hn2 hn3 (hH.kept h) (hR.kept h) hsum)
  obtain ⟨c0, c1⟩ := tabs hN
  have HE : Hid (checkI hd rs = if hd.length = 0 then 8 else if raggedB hd rs then 9 else if dupL hd then 10 else if largeB hd rs then 7 else 0) := Lib.hid rfl
  have HR0 := Lib.hid (ragged_no hd rs)
  have HR1 := Lib.hid (ragged_yes hd rs)
  have HD0 := Lib.hid (dup_find_no hd)
  have HD1 := Lib.hid (dup_find_yes hd)
  have HQ0 := Lib.hid (restB_zero hd rs)
  have HQN := Lib.hid (restB_next hd rs)
  have HQA := Lib.hid (restB_all hd rs)
  clear hH hR hB hN hs hn3
  generalize checkI hd rs = F at HE ⊢
  generalize raggedB hd rs = rg at HE HR0 HR1
  generalize dupL hd = dp at HE HD0 HD1
  generalize largeB hd rs = lg at HE HQA
  generalize sumT (allT hd rs) = tt at CT HQA hsum
  by_cases hz : hd.length = 0
  · have hzb : ((hd.length : Int) == 0) = true := by rw [hz]; rfl
    have E := Lib.hid (show F = 8 from by rw [HE.out, if_pos hz])
    clear hz
    go_enter Tryz.func25, Tryz.ntmps25
    go_wp2_with fail
    go_ret
    exact ⟨by rw [E.out]; rfl, by rw [HW.out] at HB; exact HB.out⟩
  have hzb : ((hd.length : Int) == 0) = false := by rw [beq_eq_false_iff_ne]; omega
  have HE2 : Hid (F = if rg then 9 else if dp then 10 else if lg then 7 else 0) := Lib.hid (by rw [HE.out, if_neg hz])
  clear HE
  go_enter Tryz.func25, Tryz.ntmps25
  go_wp2_with fail
  rw [show w.alloc (Obj.cells #[Value.slice ho hd.length hc, Value.slice ro rs.length rc] 25) = W from HW.out.symm]
  go_loopw [3] (fun i wr => ∃ k : Nat, k ≤ rs.length ∧ i = .int .i64 k ∧ Hid (Below W.heap.size W wr) ∧ Hid (∀ (j : Nat) r, j < k → rs[j]? = some r → r.length = hd.length)) (fun i _ => rs.length - (intOf i).toNat)
  case atStart => exact ⟨0, Nat.zero_le _, rfl, Lib.hid (Below.refl _ _), Lib.hid (fun j c h _ => by omega)⟩
  case round =>
    obtain ⟨k, hk, rfl, HB1, HNr⟩ := hrel
    obtain ⟨k0, k1⟩ := tabs ((HB1.out.block _ (lt_of_heap HNew.out)).trans HNew.out)
    clear c0 c1
    by_cases hlt : k < rs.length
    · obtain ⟨r, hr⟩ : ∃ r, rs[k]? = some r := ⟨_, List.getElem?_eq_getElem hlt⟩
      have HRk := Lib.hid hr
      rcases (HRo.out.kept (below_up HB.out HB1.out)) with h0 | ⟨A, rfl, hA, hcell⟩
      · rw [h0] at hlt; simp at hlt
      obtain ⟨ro1, rc1, hc1, hs1⟩ := hcell k r hr
      clear hcell hs1 hr
      by_cases hl : r.length = hd.length
      · have hb : ((r.length : Int) != (hd.length : Int)) = false := by rw [int_bne]; simp [hl]
        have HN' : Hid (∀ (j : Nat) x, j < k + 1 → rs[j]? = some x → x.length = hd.length) := Lib.hid (fun j x hj hx' => by
          by_cases e : j = k
          · subst e; rw [HRk.out] at hx'; cases hx'; exact hl
          · exact HNr.out j x (by omega) hx')
        have HB2 := Lib.hid (HB1.out.drew)
        clear hl
        go_wp2_with fail
        go_region
        go_wp2_with fail
        go_roundw
        case rel => exact ⟨k + 1, by omega, by go_num, HB2, HN'⟩
        case measure => simp [intOf]; omega
      · have hb : ((r.length : Int) != (hd.length : Int)) = true := by rw [int_bne]; simp [hl]
        have E := Lib.hid (show F = 9 from by rw [HE2.out, HR1.out k r HRk.out hl]; rfl)
        have HB2 := Lib.hid (below_up HB.out HB1.out.drew)
        clear hl
        go_wp2_with fail
        go_region
        go_wp2_with fail
        go_ret
        exact ⟨by rw [E.out]; rfl, HB2.out⟩
    · obtain rfl : k = rs.length := by omega
      have HE3 : Hid (F = if dp then 10 else if lg then 7 else 0) := Lib.hid (by rw [HE2.out, HR0.out (fun j r hr => HNr.out j r (List.getElem?_eq_some_iff.1 hr).1 hr)]; rfl)
      clear HE2 HNr HR0 HR1
      go_wp2_with fail
      obtain ⟨wo, rfl⟩ : ∃ wo : World, wo = wr := ⟨_, rfl⟩
      go_loopw [4] (fun i wr => ∃ k : Nat, k ≤ hd.length ∧ i = .int .i64 k ∧ Hid (Below W.heap.size W wr) ∧ Hid (∀ (j : Nat) x, j < k → hd[j]? = some x → findL hd x = (j : Int))) (fun i _ => hd.length - (intOf i).toNat)
      case atStart => exact ⟨0, Nat.zero_le _, rfl, HB1, Lib.hid (fun j c h _ => by omega)⟩
      case round =>
        obtain ⟨k, hk, rfl, HB1, HNr⟩ := hrel
        clear k0 k1
        obtain ⟨k0, k1⟩ := tabs ((HB1.out.block _ (lt_of_heap HNew.out)).trans HNew.out)
        by_cases hlt : k < hd.length
        · obtain ⟨x, hx⟩ : ∃ x, hd[k]? = some x := ⟨_, List.getElem?_eq_getElem hlt⟩
          have HX := Lib.hid hx
          rcases (HHo.out.kept (below_up HB.out HB1.out)) with h0 | ⟨A, rfl, hA, hcell⟩
          · rw [h0] at hlt; simp at hlt
          have hcx := hcell k x hx
          have C1 := Lib.hid (CF.out wr.drew x (below_up HB.out HB1.out.drew))
          clear hcell hx
          by_cases hf : findL hd x = (k : Int)
          · have HN' : Hid (∀ (j : Nat) x, j < k + 1 → hd[j]? = some x → findL hd x = (j : Int)) := Lib.hid (fun j y hj hx' => by
              by_cases e : j = k
              · subst e; rw [HX.out] at hx'; cases hx'; exact hf
              · exact HNr.out j y (by omega) hx')
            rw [hf] at C1
            have hb : ((k : Int) != (k : Int)) = false := by simp
            have HBx := Lib.hid (fun w2 (h : Below wr.drew.heap.size wr.drew w2) => (show Below W.heap.size W w2 from below_up HB1.out.drew h))
            clear hf
            go_wp2_with fail
            go_region_with (go_at_call 30; refine C1.out.mono ?_; rintro e w2 ⟨rfl, b2⟩; have HB2 := Lib.hid (HBx.out w2 b2); clear b2)
            all_goals (go_wp2_with fail)
            all_goals go_roundw
            all_goals first
              | exact ⟨k + 1, by omega, by go_num, HB2, HN'⟩
              | (simp [intOf]; omega)
          · have hb : (findL hd x != (k : Int)) = true := by rw [bne_iff_ne]; exact hf
            have E := Lib.hid (show F = 10 from by rw [HE3.out, HD1.out k x HX.out hf]; rfl)
            have HBx := Lib.hid (fun w2 (h : Below wr.drew.heap.size wr.drew w2) => (show Below w.heap.size w w2 from below_up HB.out (below_up HB1.out.drew h)))
            clear hf
            generalize findL hd x = fx at C1 hb
            go_wp2_with fail
            go_region_with (go_at_call 30; refine C1.out.mono ?_; rintro e w2 ⟨rfl, b2⟩; have HB2 := Lib.hid (HBx.out w2 b2); clear b2)
            all_goals (go_wp2_with fail)
            all_goals go_ret
            all_goals exact ⟨by rw [E.out]; rfl, HB2.out⟩
        · obtain rfl : k = hd.length := by omega
          have HE4 : Hid (F = if lg then 7 else 0) := Lib.hid (by rw [HE3.out, HD0.out (fun j x hx => HNr.out j x (List.getElem?_eq_some_iff.1 hx).1 hx)]; rfl)
          clear HE3 HNr HD0 HD1 CF
          have hB1 := Lib.hid (below_up HB.out HB1.out)
          obtain ⟨b0, HQb⟩ : ∃ b0, Hid (b0 = restB hd rs 0) := ⟨_, Lib.hid rfl⟩
          have CL1 := Lib.hid (CL.out wr hB1.out)
          clear CL
          go_upto_region 13 with fail
          go_cut [5] from 45 to 59 (fun v wc => v = .bool b0 ∧ wc = wr)
          case first =>
            rw [HQ0.out] at HQb
            generalize longT hd = lh at CL1 HQb
            by_cases h40 : 40 < hd.length
            · have E := Lib.hid (show b0 = true from by rw [HQb.out]; simp [h40])
              go_wp2_with fail
              go_meet
              exact ⟨by rw [E.out], rfl⟩
            by_cases h400 : 400 < rs.length
            · have E := Lib.hid (show b0 = true from by rw [HQb.out]; simp [h400])
              go_wp2_with fail
              go_meet
              exact ⟨by rw [E.out], rfl⟩
            have E := Lib.hid (show b0 = lh from by rw [HQb.out]; simp [h40, h400])
            cases lh
            all_goals
              go_wp2_with fail
              refine CL1.out.mono ?_; rintro e w2 ⟨rfl, rfl⟩
              go_wp2_with fail
              go_meet
              exact ⟨(by first | (rw [E.out]; done) | (rw [E.out]; simp; done) | (rw [E.out]; simp; omega)), rfl⟩
          case rest =>
            obtain ⟨rfl, rfl⟩ := hcut
            clear CL1
            go_wp2_with fail
            go_loopw [5, 6] (fun v i wx => ∃ (k : Nat) (b : Bool), k ≤ rs.length ∧ v = .bool b ∧ i = .int .i64 k ∧ Hid (Below W.heap.size W wx) ∧ Hid (b = restB hd rs k)) (fun _ i _ => rs.length - (intOf i).toNat)
            case atStart => exact ⟨0, b0, Nat.zero_le _, rfl, rfl, HB1, HQb⟩
            case round =>
              obtain ⟨k, b, hk, rfl, rfl, HB2, HQk⟩ := hrel
              clear k0 k1
              obtain ⟨k0, k1⟩ := tabs ((HB2.out.block _ (lt_of_heap HNew.out)).trans HNew.out)
              by_cases hlt : k < rs.length
              · obtain ⟨r, hr⟩ : ∃ r, rs[k]? = some r := ⟨_, List.getElem?_eq_getElem hlt⟩
                rename World => wx
                rcases (HRo.out.kept (below_up HB.out HB2.out)) with h0 | ⟨A, rfl, hA, hcell⟩
                · rw [h0] at hlt; simp at hlt
                obtain ⟨ro1, rc1, hc1, hs1⟩ := hcell k r hr
                have HQ1 := Lib.hid (HQN.out k r hr)
                have CL2 := Lib.hid (rlong_any ro1 rc1 r wx (HN3.out r (List.mem_of_getElem? hr)) (fun c hc => HSS.out c (List.mem_append_right _ (List.mem_flatten.2 ⟨r, List.mem_of_getElem? hr, hc⟩))) hs1)
                clear hcell hs1 hr
                generalize longT r = lr at CL2 HQ1
                cases b
                · have HQ2 : Hid (lr = restB hd rs (k + 1)) := Lib.hid (by rw [HQ1.out, ← HQk.out]; rfl)
                  go_wp2_with fail
                  refine CL2.out.mono ?_; rintro e w2 ⟨rfl, rfl⟩
                  go_wp2_with fail
                  go_roundw
                  case rel => exact ⟨k + 1, lr, by omega, rfl, by go_num, HB2, HQ2⟩
                  case measure => simp [intOf]; omega
                · have HQ2 : Hid (true = restB hd rs (k + 1)) := Lib.hid (by rw [HQ1.out, ← HQk.out]; rfl)
                  go_wp2_with fail
                  refine CL2.out.mono ?_; rintro e w2 ⟨rfl, rfl⟩
                  go_wp2_with fail
                  go_roundw
                  case rel => exact ⟨k + 1, true, by omega, rfl, by go_num, HB2, HQ2⟩
                  case measure => simp [intOf]; omega
              · obtain rfl : k = rs.length := by omega
                rename World => wx
                have HB3 := Lib.hid (below_up HB.out HB2.out)
                cases b
                · have CT1 := Lib.hid (CT.out wx HB3.out)
                  by_cases h4 : 40000 < tt
                  · have E := Lib.hid (show F = 7 from by rw [HE4.out, HQA.out, ← HQk.out]; simp [h4])
                    go_wp2_with fail
                    refine CT1.out.mono ?_; rintro e w2 ⟨rfl, b2⟩
                    have HB4 := Lib.hid (below_up HB3.out b2)
                    clear b2
                    go_wp2_with fail
                    go_ret
                    exact ⟨by rw [E.out]; rfl, HB4.out⟩
                  · have E := Lib.hid (show F = 0 from by rw [HE4.out, HQA.out, ← HQk.out]; simp [h4])
                    go_wp2_with fail
                    refine CT1.out.mono ?_; rintro e w2 ⟨rfl, b2⟩
                    have HB4 := Lib.hid (below_up HB3.out b2)
                    clear b2
                    go_wp2_with fail
                    go_ret
                    exact ⟨by rw [E.out]; rfl, HB4.out⟩
                · have E := Lib.hid (show F = 7 from by rw [HE4.out, HQA.out, ← HQk.out]; simp)
                  go_wp2_with fail
                  go_ret
                  exact ⟨by rw [E.out]; rfl, HB3.out⟩
end Go.Proofs.YtigijgcldgbokaaGreat
