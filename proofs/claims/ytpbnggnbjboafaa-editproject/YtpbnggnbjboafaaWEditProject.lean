/-
  The walk of the statement EditProject.
  Conditions: none beyond the form of claims.
-/
import Derived.WalkKit
import Derived.WalkMore
import Derived.Lib.Hide
import Derived.Deep.QuietTactic
import Derived.BigQuiet
import Derived.Lib.QuietBelow
import Derived.Deep.RegionWith
import Derived.Deep.CutRange
import Derived.Test.YtpbnggnbjboafaaProg
import Derived.Deep.Onto
import Derived.Laws.AppendOwn
import Derived.Test.YtpbnggnbjboafaaEOpen
import Derived.Test.YtpbnggnbjboafaaEOpen2
import Derived.Test.YtpbnggnbjboafaaEMath2
namespace Go.Proofs.Ytpbnggnbjboafaa
open Go.RowKit Go.Shelf
set_option linter.unusedVariables false

set_option maxRecDepth 100000 in
set_option maxHeartbeats 8000000 in
theorem walkEditProject (ho : Option Addr) (hc : Nat) (hd : List ByteArray) (ro : Option Addr) (rc : Nat) (rs : List (List ByteArray)) (co : Option Addr) (cc : Nat) (cols : List Int) (mo : Option Addr) (mc : Nat) (more : List Int) (w : World)
    (hA : StrArg w ho hc hd) (hB : RowsArg w ro rc rs) (hC : IntsArg w co cc cols) (hM : IntsArg w mo mc more) :
    Calls Try.prog 7 #[.agg #[.slice ho hd.length hc, .slice ro rs.length rc], .slice co cols.length cc, .slice mo more.length mc] w fun e w' => e = .returned (.bool true) ∧ Below w.heap.size w w' := by
  obtain ⟨W, HW⟩ : ∃ W, Hid (W = w.alloc (TabO ho hd.length hc ro rs.length rc)) := ⟨_, Lib.hid rfl⟩
  have HW2 : Hid (W = w.alloc (Obj.cells #[Value.slice ho hd.length hc, Value.slice ro rs.length rc] 25)) := Lib.hid HW.out
  have hb0 : Below w.heap.size w W := by rw [HW.out]; exact one_below _ _
  have hN : W.heap[w.heap.size]? = some (TabO ho hd.length hc ro rs.length rc) := by rw [HW.out]; exact World.alloc_heap_new w _
  have HA := Lib.hid hA
  have HB := Lib.hid hB
  have B0 := Lib.hid hb0
  have box : Hid (∀ V, Below W.heap.size W V → V.cell? ⟨w.heap.size, 0, none⟩ = some (.slice ho hd.length hc) ∧ V.cell? ⟨w.heap.size, 1, none⟩ = some (.slice ro rs.length rc)) := Lib.hid (fun V hV => tabs ((hV.block _ (lt_of_heap hN)).trans hN))
  have HC := Lib.hid hC
  have HM := Lib.hid hM
  have hcl := hC.len
  have hml := hM.len
  unfold maxLen at hcl hml
  clear hA hB hb0 hN hC hM
  go_enter Try.func7, Try.ntmps7
  go_wp2_with fail
  rw [← HW2.out]
  refine (eworks_any _).mono ?_; rintro e w1 ⟨rfl, b1⟩
  obtain ⟨p0, p1⟩ := box.out w1 b1
  have X1 := below_up B0.out b1
  have B1 := Lib.hid b1
  have C1 := Lib.hid (rfew_any ho hc hd ro rc rs w1 HA.out.len HB.out.len HB.out.each HA.out.size (HA.out.row.kept X1) (HB.out.rows.kept X1))
  clear b1 X1 HW HW2
  go_wp2_with fail
  refine C1.out.mono ?_; rintro e w2 ⟨b, rfl, hb, b2⟩
  have B2 := Lib.hid (below_up B1.out b2)
  clear b2 p0 p1 C1 B1
  cases b with
  | false =>
    go_wp2_with fail
    go_ret
    exact ⟨rfl, below_up B0.out B2.out⟩
  | true =>
    have HT := Lib.hid (few_ti (hb rfl))
    clear hb
    have HH : Hid (∀ V, Below W.heap.size W V → StrRow V ho hd) := Lib.hid (fun V hV => HA.out.row.kept (below_up B0.out hV))
    have HR : Hid (∀ V, Below W.heap.size W V → RowsAt V ro rs) := Lib.hid (fun V hV => HB.out.rows.kept (below_up B0.out hV))
    by_cases hc60 : cols.length ≤ 60
    case neg =>
      go_wp2_with fail
      go_ret
      exact ⟨rfl, below_up B0.out B2.out⟩
    by_cases hm60 : more.length ≤ 60
    case neg =>
      go_wp2_with fail
      go_ret
      exact ⟨rfl, below_up B0.out B2.out⟩
    obtain ⟨p0, p1⟩ := box.out w2 B2.out
    have C := Lib.hid (eProject ho ro hd rs HA.out.cp HB.out.cp co cols cc w2 HT.out (HH.out _ B2.out) (HR.out _ B2.out) (HC.out.ints.kept (below_up B0.out B2.out)) (by omega))
    have M := Lib.hid (fun through h r => @project_through hd h rs r cols more through)
    have E := Lib.hid (fun x => @cols_ne (fun xs => pickL xs cols) hd rs x (fun xs => pick_ne))
    generalize turnR (colsH (fun xs => pickL xs cols)) (colsR (fun xs => pickL xs cols)) hd rs = X at C M E
    go_wp2_with fail
    refine C.out.mono ?_; intro e w3 q
    clear C p0 p1
    have B3 := Lib.hid (below_up B2.out q.below)
    obtain ⟨qo, qn, qc, so, sn, sc, x, rfl⟩ := q.shape
    have hB3 := one_below w3 (TabO qo qn qc so sn sc)
    have B4 := Lib.hid (below_up B3.out hB3)
    have HN4 := Lib.hid (World.alloc_heap_new w3 (TabO qo qn qc so sn sc))
    clear hB3
    rcases q.parts with ⟨rfl, rfl, rfl⟩ | ⟨h, r, rfl, rfl, rfl, rfl, k1, k2, k3, k4⟩
    · have hx := E.out x rfl
      have hb : (x != 0) = true := by simp [hx]
      clear hx q
      go_wp2_with fail
      go_ret
      exact ⟨rfl, below_up B0.out B4.out⟩
    obtain ⟨m1, m2, m3, _, _⟩ := M.out [] h r rfl
    have MO := Lib.hid ((M.out [] h r rfl).2.2.2.1)
    have MT := Lib.hid (fun through => (M.out through h r rfl).2.2.2.2)
    have C := Lib.hid (eProject qo so h r ⟨qc, k1⟩ ⟨sc, k2⟩ mo more mc (w3.alloc (TabO qo h.length qc so r.length sc)) m1 (k3.kept (one_below _ _)) (k4.kept (one_below _ _)) (HM.out.ints.kept (below_up B0.out B4.out)) (by omega))
    dsimp only at C
    have HTI := Lib.hid m1
    obtain ⟨a0, a1⟩ := tabs HN4.out
    obtain ⟨p0, p1⟩ := box.out _ B4.out
    have hl1 : ((h.length : Int) != (cols.length : Int)) = false := by rw [int_bne]; simpa using m2
    have hl2 : ((r.length : Int) != (rs.length : Int)) = false := by rw [int_bne]; simpa using m3
    clear m1 m2 m3 k1 k2 k3 k4 q M E
    have TI : Hid (∀ h2 r2, turnR (colsH (fun xs => pickL xs more)) (colsR (fun xs => pickL xs more)) h r = .ok (h2, r2) → tiT h2 r2) := Lib.hid (fun h2 r2 e => check_ti (turn_is e).2.2.2)
    generalize turnR (colsH (fun xs => pickL xs more)) (colsR (fun xs => pickL xs more)) h r = Y at C MO MT TI
    go_wp2_with fail
    refine C.out.mono ?_; intro e w5 q
    clear C a0 a1 p0 p1
    have B5 := Lib.hid (below_up B4.out q.below)
    obtain ⟨yo, yn, yc, zo, zn, zc, x, rfl⟩ := q.shape
    have Q := Lib.hid q
    have B6 := Lib.hid (below_up B5.out (one_below w5 (TabO yo yn yc zo zn zc)))
    have HN6 := Lib.hid (World.alloc_heap_new w5 (TabO yo yn yc zo zn zc))
    clear q
    have hinfo : (Try.prog.info? 3).map (fun i => (i.zero, i.size, i.bytes)) = some (some (.int .i64 0), 1, 8) := by kernel_rfl
    obtain ⟨i0, hi, hz0, hz1, hz2⟩ := info_parts hinfo
    have HI := Lib.hid hi
    clear hi hinfo
    obtain ⟨V, HV⟩ : ∃ V, Hid (V = w5.alloc (Obj.cells #[Value.slice yo yn yc, Value.slice zo zn zc] 25)) := ⟨_, Lib.hid rfl⟩
    rw [show w5.alloc (TabO yo yn yc zo zn zc) = V from HV.out.symm] at B6 HN6
    have hs5 : w5.heap.size < V.heap.size := lt_of_heap HN6.out
    have HS5 := Lib.hid hs5
    clear hs5
    go_wp2_with fail
    rw [← HV.out]
    go_loopw [13, 14] (fun v i wr => ∃ (k cap : Nat) (ao : Option Addr) (ts : List Int), k ≤ more.length ∧ v = .slice ao k cap ∧ i = .int .i64 k ∧ Hid (Below V.heap.size V wr) ∧ Hid (wr.ownsRow V.heap.size 3 1 (.slice ao k cap) k (ts.map (Value.int .i64))) ∧ Hid (ts = (more.take k).filterMap (fun p => cols[p.toNat]?) ∧ ∀ (j : Nat) p, j < k → more[j]? = some p → 0 ≤ p ∧ p < (cols.length : Int))) (fun _ i _ => more.length - (intOf i).toNat)
    case atStart => exact ⟨0, 0, none, [], Nat.zero_le _, rfl, rfl, Lib.hid (Below.refl _ _), Lib.hid (World.ownsRow_nil _ _ _ _), Lib.hid ⟨rfl, fun j p h _ => by omega⟩⟩
    case round =>
      obtain ⟨k, cap, ao, ts, hk, rfl, rfl, HBr, HO, HTS⟩ := hrel
      have B7 := Lib.hid (below_up B6.out HBr.out)
      by_cases hlt : k < more.length
      · obtain ⟨p, hp⟩ : ∃ p, more[k]? = some p := ⟨_, List.getElem?_eq_getElem hlt⟩
        have HP := Lib.hid hp
        obtain ⟨D, rfl, hpc⟩ : ∃ D, mo = some D ∧ wr.cell? (D.add k) = some (.int .i64 p) := by
          rcases HM.out.ints.kept (below_up B0.out B7.out) with h0 | ⟨D, hD, _, hcell⟩
          · rw [h0] at hlt; simp at hlt
          · exact ⟨D, hD, hcell k p hp⟩
        by_cases hin : 0 ≤ p ∧ p < (cols.length : Int)
        · obtain ⟨P, rfl⟩ := Int.eq_ofNat_of_zero_le hin.1
          have hP : P < cols.length := by omega
          obtain ⟨c, hcc⟩ : ∃ c, cols[P]? = some c := ⟨_, List.getElem?_eq_getElem hP⟩
          obtain ⟨F, rfl, hfc⟩ : ∃ F, co = some F ∧ wr.cell? (F.add P) = some (.int .i64 c) := by
            rcases HC.out.ints.kept (below_up B0.out B7.out) with h0 | ⟨F, hF, _, hcell⟩
            · rw [h0] at hP; simp at hP
            · exact ⟨F, hF, hcell P c hcc⟩
          have HTS' : Hid (ts ++ [c] = (more.take (k + 1)).filterMap (fun p => cols[p.toNat]?) ∧ ∀ (j : Nat) p, j < k + 1 → more[j]? = some p → 0 ≤ p ∧ p < (cols.length : Int)) := Lib.hid ⟨by
            obtain ⟨hk', e⟩ := List.getElem?_eq_some_iff.1 HP.out
            rw [List.take_succ_eq_append_getElem hk', e, List.filterMap_append, ← HTS.out.1]
            simp [hcc], fun j p hj hp' => by
            by_cases ej : j = k
            · subst ej; rw [HP.out] at hp'; cases hp'; exact hin
            · exact HTS.out.2 j p (by omega) hp'⟩
          have HO2 := Lib.hid (HO.out.alloc (.cells #[.int .i64 c] 3))
          have hbs : V.heap.size ≤ (wr.alloc (.cells #[.int .i64 c] 3)).heap.size := by have := HBr.out.size; simp; omega
          have hk60 : k ≤ 60 := by omega
          clear hin hp hcc
          go_wp2_with (at_builtin; refine wpList_append_own _ rfl _ _ 29 rfl V.heap.size 3 i0 (.int .i64 0) 1 8 Try.underlying29 HI.out hz0 hz1 hz2 rfl (by decide) _ _ _ rfl HO2.out ⟨wr.heap.size, 0, none⟩ 1 1 [.int .i64 c] rfl rfl ?c1 ?c2 ?c3 ?c4 ?c5 ?_)
          case c1 =>
            intro j u hj
            rw [cell_row (World.alloc_heap_new wr _)]
            match j, hj with
            | 0, hj => simp at hj; subst hj; rfl
          case c2 => intro u hu; simp at hu; subst hu; rfl
          case c3 => unfold maxLen; omega
          case c4 => omega
          case c5 => exact hbs
          intro v' w8 hown' hgrow _
          obtain ⟨g, cp, rfl⟩ := ownsRow_succ hown'
          have HB3 := Lib.hid ((HBr.out.alloc HBr.out.size (.cells #[.int .i64 c] 3)).grown hgrow hbs (fun k' h' => by
            rcases HO.out.2 with ⟨h1, _⟩ | ⟨g', cp', cur, h1, hb, _⟩
            · cases h1; cases h'
            · cases h1; simp [Value.ownBlock] at h'; omega))
          have HO3 : Hid (w8.ownsRow V.heap.size 3 1 (.slice (some ⟨g, 0, none⟩) (k + 1) cp) (k + 1) ((ts ++ [c]).map (Value.int .i64))) := Lib.hid (by rw [List.map_append]; exact hown')
          clear hown' hgrow hbs hpc hfc
          go_wp2_with fail
          go_roundw
          case rel => exact ⟨k + 1, cp, _, ts ++ [c], by omega, rfl, by go_num, HB3, HO3, HTS'⟩
          case measure => simp [intOf]; omega
        · have hY := MO.out k p HP.out hin
          rcases Q.out.parts with ⟨hX, rfl, rfl⟩ | ⟨h2, r2, hX, _⟩
          · rw [hY] at hX
            injection hX with hX
            subst hX
            obtain ⟨b0, b1⟩ := tabs (bk_kept HN6.out HBr.out)
            by_cases hp0 : p < 0
            · have hd1 : decide (p < 0) = true := decide_eq_true hp0
              clear hin hp
              go_wp2_with fail
              go_ret
              exact ⟨rfl, below_up B0.out B7.out⟩
            · have hd1 : decide (p < 0) = false := decide_eq_false hp0
              have hd2 : decide ((cols.length : Int) ≤ p) = true := decide_eq_true (by omega)
              clear hin hp
              go_wp2_with fail
              go_ret
              exact ⟨rfl, below_up B0.out B7.out⟩
          · rw [hY] at hX; cases hX
      · obtain rfl : k = more.length := by omega
        have hts := HTS.out.1
        rw [List.take_length] at hts
        have hall : ∀ p ∈ more, 0 ≤ p ∧ p < (cols.length : Int) := fun p hp => by
          obtain ⟨i, hi, rfl⟩ := List.getElem_of_mem hp
          exact HTS.out.2 i _ hi (List.getElem?_eq_getElem hi)
        have hY := MT.out ts hall hts
        have hlen : ts.length = more.length := by have := HO.out.1; simpa using this
        have hints : IntsAt wr ao ts := by
          rcases HO.out.2 with ⟨h1, h2⟩ | ⟨g', cp', cur, h1, hb, hg, _⟩
          · exact .inl (List.eq_nil_of_length_eq_zero (by omega))
          · injection h1 with h1 _ _
            refine .inr ⟨_, h1, lt_of_heap hg, fun i c hc => ?_⟩
            have := HO.out.cells (g := g') (by rw [h1]; rfl) i (.int .i64 c) (by rw [List.getElem?_map, hc]; rfl)
            exact this
        have C := Lib.hid (eProject ho ro hd rs HA.out.cp HB.out.cp ao ts cap wr HT.out (HH.out _ B7.out) (HR.out _ B7.out) hints (by omega))
        rw [← hY, hlen] at C
        obtain ⟨p0, p1⟩ := box.out wr B7.out
        clear hts hall hY hlen hints
        go_wp2_with fail
        refine C.out.mono ?_; intro e w8 q2
        have B8 := Lib.hid (below_up B7.out q2.below)
        have D8 := Lib.hid (below_up HBr.out q2.below)
        obtain ⟨uo, un, uc, vo, vn, vc, x2, rfl⟩ := q2.shape
        have b9 := one_below w8 (TabO uo un uc vo vn vc)
        have B9 := Lib.hid (below_up B8.out b9)
        obtain ⟨u0, u1⟩ := tabs (World.alloc_heap_new w8 (TabO uo un uc vo vn vc))
        obtain ⟨b0, b1⟩ := tabs (bk_kept HN6.out (below_up D8.out b9))
        have HQ2 := Lib.hid q2
        have H9 := Lib.hid b9
        clear q2 b9 C p0 p1
        rcases HQ2.out.parts with ⟨hX, rfl, rfl⟩ | ⟨h2, r2, hX, rfl, rfl, rfl, l1, l2, l3, l4⟩
        · rcases Q.out.parts with ⟨hX2, rfl, rfl⟩ | ⟨h2, r2, hX2, _⟩
          · rw [hX2] at hX
            injection hX with hX
            subst hX
            have SS := Lib.hid (tsame_ok yo uo yc uc [] zo vo zc vc [] (w8.alloc (TabO uo 0 uc vo 0 vc)) ⟨⟨by simp, fun c hc => by cases hc⟩, by simp, fun r hr => by cases hr⟩ (.inl rfl) (.inl rfl) (.inl rfl) (.inl rfl))
            simp only [List.length_nil] at SS
            have hxx : (x == x) = true := by simp
            clear hX2
            go_wp2_with fail
            refine SS.out.mono ?_; rintro e w10 ⟨rfl, b10⟩
            have B10 := Lib.hid (below_up B9.out b10)
            clear b10 SS
            go_wp2_with fail
            go_ret
            exact ⟨rfl, below_up B0.out B10.out⟩
          · rw [hX2] at hX; cases hX
        · rcases Q.out.parts with ⟨hX2, _, _⟩ | ⟨h3, r3, hX2, rfl, rfl, rfl, m1, m2, m3, m4⟩
          · rw [hX2] at hX; cases hX
          · rw [hX2] at hX
            injection hX with hX
            injection hX with e1 e2
            subst e1 e2
            have ht2 := TI.out h3 r3 hX2
            have SS := Lib.hid (tsame_ok yo uo yc uc h3 zo vo zc vc r3 (w8.alloc (TabO uo h3.length uc vo r3.length vc)) ht2 ((m3.kept (by have h := below_up (one_below w5 (TabO yo h3.length yc zo r3.length zc)) (show Below (w5.alloc (TabO yo h3.length yc zo r3.length zc)).heap.size (w5.alloc (TabO yo h3.length yc zo r3.length zc)) V from by rw [HV.out]; exact Below.refl _ _); exact below_up (below_up h D8.out) H9.out))) (l3.kept H9.out) ((m4.kept (by have h := below_up (one_below w5 (TabO yo h3.length yc zo r3.length zc)) (show Below (w5.alloc (TabO yo h3.length yc zo r3.length zc)).heap.size (w5.alloc (TabO yo h3.length yc zo r3.length zc)) V from by rw [HV.out]; exact Below.refl _ _); exact below_up (below_up h D8.out) H9.out))) (l4.kept H9.out))
            clear hX2 ht2 m1 m2 m3 m4 l1 l2 l3 l4
            go_wp2_with fail
            refine SS.out.mono ?_; rintro e w10 ⟨rfl, b10⟩
            have B10 := Lib.hid (below_up B9.out b10)
            clear b10 SS
            go_wp2_with fail
            go_ret
            exact ⟨rfl, below_up B0.out B10.out⟩
end Go.Proofs.Ytpbnggnbjboafaa
