/-
  The walk of the statement TableNames.
  Conditions: none beyond the form of claims.
-/
import Derived.WalkKit
import Derived.WalkMore
import Derived.Lib.Hide
import Derived.Deep.QuietTactic
import Derived.BigQuiet
import Derived.Lib.QuietBelow
import Derived.Deep.RegionWith
import Derived.Deep.CutRange
import Derived.Deep.Onto
import Derived.Test.YtgbmpcfnbdbpgaaProg
import Derived.Test.YtgbmpcfnbdbpgaaWTableBack
namespace Go.Proofs.Ytgbmpcfnbdbpgaa
open Go.RowKit Go.Shelf
set_option linter.unusedVariables false

theorem find_parts (hd : List ByteArray) (s : ByteArray) : (findL hd s = -1 ∧ ∀ (j : Nat) c, hd[j]? = some c → c.data.toList ≠ s.data.toList) ∨ ∃ (k : Nat) (x : ByteArray), findL hd s = (k : Int) ∧ k < hd.length ∧ hd[k]? = some x ∧ x.data.toList = s.data.toList := by
  unfold findL firstAt
  cases h : hd.findIdx? (fun c => decide (c.data.toList = s.data.toList)) with
  | none =>
    refine .inl ⟨rfl, fun j c hc e => ?_⟩
    have := List.findIdx?_eq_none_iff.1 h c (List.mem_of_getElem? hc)
    exact absurd (decide_eq_true e) (by simpa using this)
  | some i =>
    obtain ⟨hi, h1, _⟩ := List.findIdx?_eq_some_iff_getElem.1 h
    exact .inr ⟨i, hd[i], rfl, hi, List.getElem?_eq_getElem hi, of_decide_eq_true h1⟩
theorem str_bne (x y : ByteArray) (h : x.data.toList = y.data.toList) : (x.toList == y.toList) = true ∧ (x.toList != y.toList) = false := by
  rw [bne, str_beq, decide_eq_true h]; exact ⟨rfl, rfl⟩
theorem str_bne' (x y : ByteArray) (h : x.data.toList ≠ y.data.toList) : (x.toList == y.toList) = false ∧ (x.toList != y.toList) = true := by
  rw [bne, str_beq, decide_eq_false h]; exact ⟨rfl, rfl⟩
theorem check_ok (hd : List ByteArray) (rs : List (List ByteArray)) (h : checkI hd rs = 0) : (∀ (j : Nat) x, hd[j]? = some x → findL hd x = (j : Int)) ∧ ∀ r ∈ rs, r.length = hd.length := by
  unfold checkI at h
  split at h
  · cases h
  split at h
  · cases h
  rename_i hr
  split at h
  · cases h
  rename_i hdp
  refine ⟨fun j x hx => ?_, fun r hr' => ?_⟩
  · rcases Classical.em (findL hd x = (j : Int)) with e | e
    · exact e
    · exact absurd (dup_find_yes hd j x hx e) hdp
  · rcases Classical.em (r.length = hd.length) with e | e
    · exact e
    · obtain ⟨i, hi, rfl⟩ := List.getElem_of_mem hr'
      exact absurd (ragged_yes hd rs i _ (List.getElem?_eq_getElem hi) e) hr

set_option maxRecDepth 100000 in
set_option maxHeartbeats 8000000 in
theorem walkTableNames (ho : Option Addr) (hc : Nat) (hd : List ByteArray) (ro : Option Addr) (rc : Nat) (rs : List (List ByteArray)) (nm : ByteArray) (col : Int) (w : World)
    (hA : StrArg w ho hc hd) (hB : RowsArg w ro rc rs) (hnm : nm.size ≤ 140737488351232) (hcol : (Lit.int .i64 col).wf = true) :
    Calls Try.prog 7 #[.agg #[.slice ho hd.length hc, .slice ro rs.length rc], .string nm, .int .i64 col] w fun e w' => e = .returned (.bool true) ∧ Below w.heap.size w w' := by
  obtain ⟨W, HW⟩ : ∃ W, Hid (W = w.alloc (TabO ho hd.length hc ro rs.length rc)) := ⟨_, Lib.hid rfl⟩
  have hb0 : Below w.heap.size w W := by rw [HW.out]; exact one_below _ _
  have hN : W.heap[w.heap.size]? = some (TabO ho hd.length hc ro rs.length rc) := by rw [HW.out]; exact World.alloc_heap_new w _
  have HA := Lib.hid hA
  have HB := Lib.hid hB
  have B0 := Lib.hid hb0
  have box : Hid (∀ V, Below W.heap.size W V → V.cell? ⟨w.heap.size, 0, none⟩ = some (.slice ho hd.length hc) ∧ V.cell? ⟨w.heap.size, 1, none⟩ = some (.slice ro rs.length rc)) := Lib.hid (fun V hV => tabs ((hV.block _ (lt_of_heap hN)).trans hN))
  have HW2 : Hid (W = w.alloc (Obj.cells #[Value.slice ho hd.length hc, Value.slice ro rs.length rc] 25)) := Lib.hid HW.out
  clear hA hB hb0 hN hcol hnm
  go_enter Try.func7, Try.ntmps7
  go_wp2_with fail
  rw [← HW2.out]
  refine (tworks_any _).mono ?_; rintro e w1 ⟨rfl, b1⟩
  obtain ⟨p0, p1⟩ := box.out w1 b1
  have X1 := below_up B0.out b1
  have B1 := Lib.hid b1
  have C1 := Lib.hid (rfew_any ho hc hd ro rc rs w1 HA.out.len HB.out.len HB.out.each HA.out.size (HA.out.row.kept X1) (HB.out.rows.kept X1))
  clear b1 X1
  go_wp2_with fail
  refine C1.out.mono ?_; rintro e w2 ⟨b, rfl, hb, b2⟩
  have B2 := Lib.hid (below_up B1.out b2)
  clear b2 p0 p1 C1 B1
  cases b with
  | false =>
    go_wp2_with fail
    go_ret
    exact ⟨rfl, below_up B0.out B2.out⟩
  | true =>
    have HF := Lib.hid (hb rfl)
    clear hb
    obtain ⟨f1, f2, f3, f4, f5⟩ := fewT_bounds hd rs HF.out
    have HF4 := Lib.hid f4
    have HF3 := Lib.hid f3
    have HX : Hid (∀ r ∈ rs, r.length ≤ 1099511627776 ∧ ∀ c ∈ r, c.size ≤ 281474976710656) := Lib.hid (fun r hr => ⟨by have := (HF4.out r hr).1; omega, fun c hc => by have := (HF4.out r hr).2 c hc; omega⟩)
    clear f3 f4
    obtain ⟨p0, p1⟩ := box.out w2 B2.out
    have KC := Lib.hid (check_any ho hc hd ro rc rs w2 (by omega) (by omega) (fun r hr => (HX.out r hr).1) (HA.out.row.kept (below_up B0.out B2.out)) (HB.out.rows.kept (below_up B0.out B2.out)) (fun c hc => by have := HF3.out c hc; unfold maxLen; omega) (by omega))
    have HCK := Lib.hid (check_ok hd rs)
    generalize checkI hd rs = ck at KC HCK
    by_cases hck : ck = 0
    · have hbk : (ck != 0) = false := by simp [hck]
      obtain ⟨k1, k2⟩ := HCK.out hck
      have HK1 := Lib.hid k1
      have HK2 := Lib.hid k2
      clear hck k1 k2 HCK
      go_wp2_with fail
      refine KC.out.mono ?_; rintro e w3 ⟨rfl, b3⟩
      have B3 := Lib.hid (below_up B2.out b3)
      clear b3 p0 p1 KC B2
      obtain ⟨p0, p1⟩ := box.out w3 B3.out
      have KF := Lib.hid (tfind_any ho hc hd ro rs.length rc nm w3 (by omega) (HA.out.row.kept (below_up B0.out B3.out)))
      have HP := Lib.hid (find_parts hd nm)
      generalize findL hd nm = fx at KF HP
      go_wp2_with fail
      refine KF.out.mono ?_; rintro e w4 ⟨rfl, b4⟩
      have B4 := Lib.hid (below_up B3.out b4)
      clear b4 p0 p1 KF B3
      obtain ⟨p0, p1⟩ := box.out w4 B4.out
      -- what is found
      have HZ : Hid ((fx = -1 ∧ ∀ (j : Nat) c, hd[j]? = some c → c.data.toList ≠ nm.data.toList) ∨ ∃ (k : Nat) (A : Addr) (x : ByteArray), fx = (k : Int) ∧ ho = some A ∧ k < hd.length ∧ w4.cell? (A.add k) = some (.string x) ∧ x.data.toList = nm.data.toList) := Lib.hid (by
        rcases HP.out with h | ⟨k, x, h1, h2, h3, h4⟩
        · exact .inl h
        · rcases (HA.out.row.kept (below_up B0.out B4.out)) with h0 | ⟨A, hA, _, hcell⟩
          · rw [h0] at h2; simp at h2
          · exact .inr ⟨k, A, x, h1, hA, h2, hcell k x h3, h4⟩)
      clear HP
      go_upto_region 8 with fail
      go_cut [45] from 28 to 45 (fun v wc => v = .bool false ∧ wc = w4)
      case first =>
        rcases HZ.out with ⟨h1, h2⟩ | ⟨k, A, x, h1, rfl, h3, h4, h5⟩
        · subst h1
          clear h2
          go_wp2_with fail
          all_goals (go_meet)
          all_goals exact ⟨by simp; omega, rfl⟩
        · subst h1
          obtain ⟨hbe, hbn⟩ := str_bne x nm h5
          clear h5
          go_wp2_with fail
          all_goals (go_meet)
          all_goals exact ⟨by simp; omega, rfl⟩
      case rest =>
        obtain ⟨rfl, rfl⟩ := hcut
        rename World => wq
        have CA := Lib.hid (tcolumn_any ho hc hd ro rc rs col wq (by omega) (by omega) HX.out (HB.out.rows.kept (below_up B0.out B4.out)))
        by_cases hin : 0 ≤ col ∧ col < hd.length
        · have hT : columnT hd rs col = colL rs col := by unfold columnT; rw [if_pos hin]
          rw [hT, colL_len] at CA
          obtain ⟨i0, rfl⟩ := Int.eq_ofNat_of_zero_le hin.1
          have hil : i0 < hd.length := by omega
          have h1 : ¬ ((i0 : Int) < 0) := by omega
          have h2 : ¬ ((hd.length : Int) ≤ (i0 : Int)) := by omega
          clear hin hT
          obtain ⟨hv, hhv⟩ : ∃ hv, hd[i0]? = some hv := ⟨_, List.getElem?_eq_getElem hil⟩
          have HF1 := Lib.hid (HK1.out i0 hv hhv)
          have HA1 := Lib.hid (colL_at rs (i0 : Int))
          go_wp2_with fail
          refine CA.out.mono ?_; rintro e w5 ⟨ao, rfl, hs5, b5⟩
          have B5 := Lib.hid (below_up B4.out b5)
          clear b5 p0 p1 CA
          obtain ⟨p0, p1⟩ := box.out w5 B5.out
          obtain ⟨A, rfl, hch⟩ : ∃ A, ho = some A ∧ w5.cell? (A.add i0) = some (.string hv) := by
            rcases (HA.out.row.kept (below_up B0.out B5.out)) with h0 | ⟨A, hA, _, hcell⟩
            · rw [h0] at hil; simp at hil
            · exact ⟨A, hA, hcell i0 hv hhv⟩
          have KF := Lib.hid (fun V (h : Below W.heap.size W V) => tfind_any (some A) hc hd ro rs.length rc hv V (by omega) (HA.out.row.kept (below_up B0.out h)))
          rw [HF1.out] at KF
          have g0 := cell_regrown p0
          have g1 := cell_regrown p1
          have g2 := cell_regrown hch
          have HQ := Lib.hid (fun d os => below_up B5.out (below_regrown w5 d os))
          have HN1 : Hid (decide (fx < 0) = true → (hv.toList == nm.toList) = false) := Lib.hid (fun h => by
            have h := of_decide_eq_true h
            rcases HZ.out with ⟨h1, h2⟩ | ⟨k, A', x, h1, _⟩
            · exact (str_bne' hv nm (h2 i0 hv hhv)).1
            · omega)
          have HC5 := Lib.hid hs5
          have e1 : ((i0 : Int) != (i0 : Int)) = false := by simp
          have e2 : ((rs.length : Int) != (rs.length : Int)) = false := by simp
          clear p0 p1 hs5 hch hhv
          go_upto_region 13 with fail
          go_cut [95] from 66 to 95 (fun v wd => v = .bool false ∧ Hid (Below w5.heap.size w5 wd))
          case first =>
            by_cases hfx : fx < 0
            · have hd1 : decide (fx < 0) = true := decide_eq_true hfx
              have hbe := HN1.out hd1
              go_wp2_with fail
              refine wp_region_quiet_below (by kernel_rfl) (by kernel_rfl) ?_
              repeat (first
                | go_big_quiet_step (exact Calls.regrown_of (KF.out _ (HQ.out _ _)))
                | quiet_step (exact Calls.regrown_of (KF.out _ (HQ.out _ _))))
              refine wpQuiet_nil ?_
              intro _ hw'
              obtain ⟨⟨dq, osq⟩, hw''⟩ := hw'
              subst hw''
              go_wp2_with fail
              go_meet
              exact ⟨rfl, Lib.hid (below_regrown w5 dq osq)⟩
            · have hd1 : decide (fx < 0) = false := decide_eq_false hfx
              go_wp2_with fail
              refine wp_region_quiet_below (by kernel_rfl) (by kernel_rfl) ?_
              repeat (first
                | go_big_quiet_step (exact Calls.regrown_of (KF.out _ (HQ.out _ _)))
                | quiet_step (exact Calls.regrown_of (KF.out _ (HQ.out _ _))))
              refine wpQuiet_nil ?_
              intro _ hw'
              obtain ⟨⟨dq, osq⟩, hw''⟩ := hw'
              subst hw''
              go_wp2_with fail
              go_meet
              exact ⟨rfl, Lib.hid (below_regrown w5 dq osq)⟩
          case rest =>
            obtain ⟨rfl, HBd⟩ := hcut
            rename World => wd
            clear g0 g1 g2 HQ HN1 KF
            go_wp2_with fail
            go_loopw [11] (fun i wr => ∃ k : Nat, k ≤ rs.length ∧ i = .int .i64 k ∧ Hid (Below w5.heap.size w5 wr)) (fun i _ => rs.length - (intOf i).toNat)
            case atStart => exact ⟨0, Nat.zero_le _, rfl, HBd⟩
            case round =>
              obtain ⟨k, hk, rfl, HBr⟩ := hrel
              by_cases hlt : k < rs.length
              · have B6 := Lib.hid (below_up B5.out HBr.out)
                have hcx := HA1.out k hlt
                obtain ⟨r, hr⟩ : ∃ r, rs[k]? = some r := ⟨_, List.getElem?_eq_getElem hlt⟩
                have hrl := HK2.out r (List.mem_of_getElem? hr)
                obtain ⟨y, hy⟩ : ∃ y, r[i0]? = some y := ⟨_, List.getElem?_eq_getElem (by rw [hrl]; exact hil)⟩
                have hcy := cellL_at rs k i0 r y hr hy
                rw [hcy] at hcx
                have CC := Lib.hid (fun V (h : Below W.heap.size W V) => tcell_any (some A) hd.length hc ro rc rs (k : Int) (i0 : Int) V (by omega) HX.out (HB.out.rows.kept (below_up B0.out h)))
                rw [hcy] at CC
                have hjl : i0 < r.length := by rw [hrl]; exact hil
                have hrle := (HX.out r (List.mem_of_getElem? hr)).1
                obtain ⟨C, rfl, hc1⟩ : ∃ C, ao = some C ∧ wr.cell? (C.add k) = some (.string y) := by
                  rcases (HC5.out.kept HBr.out) with h0 | ⟨C, hC, _, hcell⟩
                  · rw [h0] at hcx; simp at hcx
                  · exact ⟨C, hC, hcell k y hcx⟩
                obtain ⟨R, rfl, rd, rk, hc2, hc3⟩ : ∃ R, ro = some R ∧ ∃ rd rk, wr.cell? (R.add k) = some (.slice (some rd) r.length rk) ∧ wr.cell? (rd.add i0) = some (.string y) := by
                  rcases (HB.out.rows.kept (below_up B0.out B6.out)) with h0 | ⟨R, hR, _, hcell⟩
                  · rw [h0] at hlt; simp at hlt
                  · obtain ⟨rd, rk, h1, h2⟩ := hcell k r hr
                    rcases h2 with h0 | ⟨rd', hrd, _, hcell'⟩
                    · rw [h0] at hjl; simp at hjl
                    · cases hrd; exact ⟨R, hR, rd', rk, h1, hcell' i0 y hy⟩
                obtain ⟨p0, p1⟩ := box.out wr B6.out
                have g0 := cell_regrown p0
                have g1 := cell_regrown p1
                have g2 := cell_regrown hc1
                have g3 := cell_regrown hc2
                have g4 := cell_regrown hc3
                have HQ := Lib.hid (fun d os => below_up B6.out (below_regrown wr d os))
                obtain ⟨y1, y2⟩ := str_bne y y rfl
                clear p0 p1 hc1 hc2 hc3 hcx hcy hr hy hrl
                go_wp2_with fail
                refine wp_region_quiet_below (by kernel_rfl) (by kernel_rfl) ?_
                repeat (first
                  | go_big_quiet_step (exact Calls.regrown_of (CC.out _ (HQ.out _ _)))
                  | quiet_step (exact Calls.regrown_of (CC.out _ (HQ.out _ _))))
                refine wpQuiet_nil ?_
                intro _ hw'
                obtain ⟨⟨dq, osq⟩, hw''⟩ := hw'
                subst hw''
                have HBn := Lib.hid (below_up HBr.out (below_regrown wr dq osq))
                clear g0 g1 g2 g3 g4
                go_wp2_with fail
                go_roundw
                case rel => exact ⟨k + 1, by omega, by go_num, HBn⟩
                case measure => simp [intOf]; omega
              · obtain rfl : k = rs.length := by omega
                go_wp2_with fail
                go_ret
                exact ⟨rfl, below_up B0.out (below_up B5.out HBr.out)⟩
        · have hT : columnT hd rs col = [] := by unfold columnT; rw [if_neg hin]
          rw [hT] at CA
          simp only [List.length_nil] at CA
          clear hT
          by_cases h1 : col < 0
          · clear hin
            go_wp2_with fail
            refine CA.out.mono ?_; rintro e w5 ⟨ao, rfl, hs5, b5⟩
            have B5 := Lib.hid (below_up B4.out b5)
            clear b5 hs5
            go_wp2_with fail
            go_ret
            exact ⟨rfl, below_up B0.out B5.out⟩
          · have h2 : (hd.length : Int) ≤ col := by omega
            clear hin
            go_wp2_with fail
            refine CA.out.mono ?_; rintro e w5 ⟨ao, rfl, hs5, b5⟩
            have B5 := Lib.hid (below_up B4.out b5)
            clear b5 hs5
            go_wp2_with fail
            go_ret
            exact ⟨rfl, below_up B0.out B5.out⟩
    · have hbk : (ck != 0) = true := by simp [hck]
      clear hck HCK
      go_wp2_with fail
      refine KC.out.mono ?_; rintro e w3 ⟨rfl, b3⟩
      have B3 := Lib.hid (below_up B2.out b3)
      clear b3 p0 p1
      go_wp2_with fail
      go_ret
      exact ⟨rfl, below_up B0.out B3.out⟩
end Go.Proofs.Ytgbmpcfnbdbpgaa
