/-
  The walk of the statement IndexOwn.
  Conditions: the library's table of powers of ten reads as its text lays it.
-/
import Derived.WalkKit
import Derived.WalkMore
import Derived.IntWalk
import Derived.Lib.Hide
import Derived.Deep.RegionHeld3
import Derived.Test.YtmomjhnbhckhpaaDoorProg
import Derived.Test.YtmomjhnbhckhpaaDoorIOpen
import Derived.Test.YtmomjhnbhckhpaaDoorTOpen
import Derived.Test.YtmomjhnbhckhpaaDoorIWorks
import Derived.Test.YtmomjhnbhckhpaaDoorKUniq
namespace Go.Proofs.YtmomjhnbhckhpaaDoor
open Go.RowKit Go.Shelf
set_option linter.unusedVariables false

/-- by rank, and of the same rank by number -/
def ordR (p q : Int × Int) : Prop := p.2 < q.2 ∨ (p.2 = q.2 ∧ p.1 < q.1)
theorem sort_order (l : PL) (hl : l.Pairwise fun p q => p.1 < q.1) : (sortB l).Pairwise ordR := by
  have hs := sortB_stab l
  rw [List.pairwise_iff_forall_sublist]
  intro a b hab
  have h1 : a.2 ≤ b.2 := List.pairwise_iff_forall_sublist.1 hs.1 hab
  rcases Int.lt_or_eq_of_le h1 with h | h
  · exact .inl h
  · refine .inr ⟨h, ?_⟩
    have h2 := hab.filter (fun p => decide (p.2 = b.2))
    have h3 : [a, b].filter (fun p => decide (p.2 = b.2)) = [a, b] := by simp [h]
    rw [h3] at h2
    have h4 : (sortB l).filter (fun p => decide (p.2 = b.2)) = l.filter (fun p => decide (p.2 = b.2)) := hs.2 b.2
    rw [h4] at h2
    exact List.pairwise_iff_forall_sublist.1 hl (h2.trans List.filter_sublist)
theorem rowsK_rise (rs : List (List ByteArray)) (cols : List Int) : (rowsK rs cols).Pairwise fun p q => p.1 < q.1 := by
  unfold rowsK
  rw [List.pairwise_map]
  exact List.pairwise_lt_range.imp fun h => by simp only; omega
theorem sort_ranked (rs : List (List ByteArray)) (cols : List Int) : ∀ p ∈ sortB (rowsK rs cols), Ranked rs cols p := fun p hp => by
  have := (stab_mem (sortB_stab (rowsK rs cols)).2 p).1 hp
  unfold rowsK at this
  obtain ⟨i, hi, rfl⟩ := List.mem_map.1 this
  exact ⟨i, List.mem_range.1 hi, rfl⟩
/-- how two rows stand -/
def ahead (rs : List (List ByteArray)) (cols : List Int) (x y : Int) : Prop := keyC (rowKey rs cols x) (rowKey rs cols y) < 0 ∨ (keyC (rowKey rs cols x) (rowKey rs cols y) = 0 ∧ x < y)
theorem build_order (rs : List (List ByteArray)) (cols : List Int) : (buildL rs cols).Pairwise (ahead rs cols) := by
  unfold buildL
  rw [List.pairwise_map]
  have hr := sort_ranked rs cols
  refine (sort_order _ (rowsK_rise rs cols)).imp_of_mem fun {p q} hp hq h => ?_
  obtain ⟨i, hi, rfl⟩ := hr p hp
  obtain ⟨j, hj, rfl⟩ := hr q hq
  have e := rank_key rs cols i j hi hj
  unfold ordR at h
  unfold ahead
  simp only at h ⊢
  rw [← e]
  unfold cmpI
  rcases h with h | ⟨h1, h2⟩
  · left; rw [if_pos h]; omega
  · right; rw [if_neg (by omega), if_neg (by omega)]; exact ⟨rfl, h2⟩
theorem build_mem (rs : List (List ByteArray)) (cols : List Int) (x : Int) : x ∈ buildL rs cols ↔ ∃ i : Nat, i < rs.length ∧ x = i := by
  unfold buildL
  rw [List.mem_map]
  constructor
  · rintro ⟨p, hp, rfl⟩
    obtain ⟨i, hi, rfl⟩ := sort_ranked rs cols p hp
    exact ⟨i, hi, rfl⟩
  · rintro ⟨i, hi, rfl⟩
    refine ⟨((i : Int), rankI rs cols i), ?_, rfl⟩
    rw [stab_mem (sortB_stab (rowsK rs cols)).2]
    unfold rowsK
    exact List.mem_map.2 ⟨i, List.mem_range.2 hi, rfl⟩
theorem ahead_ne (rs : List (List ByteArray)) (cols : List Int) (x y : Int) (h : ahead rs cols x y) : x ≠ y := by
  rintro rfl
  have := (key_cmp.zero (rowKey rs cols x) (rowKey rs cols x)).2 rfl
  rcases h with h | ⟨_, h⟩ <;> omega
theorem build_nodup (rs : List (List ByteArray)) (cols : List Int) : (buildL rs cols).Nodup := (build_order rs cols).imp fun h => ahead_ne rs cols _ _ h
/-- in that order, what halving finds is the first row of the key -/
theorem found_first (rs : List (List ByteArray)) (cols : List Int) (key : List ByteArray) (a : Int) (ok : Bool) (h : FoundAt (fun x => keyC (rowKey rs cols x) key) (buildL rs cols) a ok) :
    (∃ i : Nat, a = i ∧ ok = true ∧ i < rs.length ∧ keyC (rowKey rs cols i) key = 0 ∧ ∀ j : Nat, j < i → keyC (rowKey rs cols j) key ≠ 0) ∨ (a = 0 ∧ ok = false ∧ ∀ j : Nat, j < rs.length → keyC (rowKey rs cols j) key ≠ 0) := by
  obtain ⟨p, hp, h1, h2, h3⟩ := h
  dsimp only at h1 h2 h3
  have ho := build_order rs cols
  -- a row of that key stands at p or behind it
  have hat : ∀ j : Nat, j < rs.length → keyC (rowKey rs cols j) key = 0 → ∃ q, p ≤ q ∧ (buildL rs cols)[q]? = some (j : Int) := fun j hj hk => by
    obtain ⟨q, hq⟩ := List.mem_iff_getElem?.1 ((build_mem rs cols j).2 ⟨j, hj, rfl⟩)
    refine ⟨q, ?_, hq⟩
    rcases Nat.lt_or_ge q p with hlt | hge
    · exfalso
      rcases h1 with h1 | ⟨x, hx, hxk⟩
      · omega
      · have hle : keyC (rowKey rs cols j) (rowKey rs cols x) ≤ 0 := by
          rcases Nat.lt_or_ge q (p - 1) with h4 | h4
          · obtain ⟨b1, e1⟩ := List.getElem?_eq_some_iff.1 hq
            obtain ⟨b2, e2⟩ := List.getElem?_eq_some_iff.1 hx
            have := List.pairwise_iff_getElem.1 ho q (p - 1) b1 b2 h4
            rw [e1, e2] at this
            rcases this with h | ⟨h, _⟩ <;> omega
          · have : q = p - 1 := by omega
            subst this
            rw [hq] at hx; cases hx
            have := (key_cmp.zero (rowKey rs cols (j : Int)) (rowKey rs cols j)).2 rfl
            omega
        have := key_cmp.lt_trans hle (by omega) (.inr hxk)
        omega
    · exact hge
  rcases h3 with ⟨x, hx, hk, rfl, rfl⟩ | ⟨h3, rfl, rfl⟩
  · left
    obtain ⟨i, hi, rfl⟩ := (build_mem rs cols a).1 (List.mem_of_getElem? hx)
    refine ⟨i, rfl, rfl, hi, hk, fun j hj hjk => ?_⟩
    obtain ⟨q, hq, hqj⟩ := hat j (by omega) hjk
    obtain ⟨b1, e1⟩ := List.getElem?_eq_some_iff.1 hx
    obtain ⟨b2, e2⟩ := List.getElem?_eq_some_iff.1 hqj
    rcases Nat.lt_or_ge p q with h4 | h4
    · have := List.pairwise_iff_getElem.1 ho p q b1 b2 h4
      rw [e1, e2] at this
      have hz : keyC (rowKey rs cols i) (rowKey rs cols j) = 0 := by
        rw [key_cmp.zero] at hk hjk ⊢
        rw [hk, hjk]
      rcases this with h | ⟨_, h⟩ <;> omega
    · have : q = p := by omega
      subst this
      rw [hx] at hqj
      simp at hqj; omega
  · right
    refine ⟨rfl, rfl, fun j hj hjk => ?_⟩
    obtain ⟨q, hq, hqj⟩ := hat j hj hjk
    obtain ⟨b2, e2⟩ := List.getElem?_eq_some_iff.1 hqj
    rcases h3 with h3 | ⟨x, hx, hxk⟩
    · omega
    · rcases h2 with h2 | ⟨x', hx', hx0⟩
      · omega
      · rw [hx] at hx'; cases hx'
        obtain ⟨b1, e1⟩ := List.getElem?_eq_some_iff.1 hx
        have hle : keyC (rowKey rs cols x) (rowKey rs cols j) ≤ 0 := by
          rcases Nat.lt_or_ge p q with h4 | h4
          · have := List.pairwise_iff_getElem.1 ho p q b1 b2 h4
            rw [e1, e2] at this
            rcases this with h | ⟨h, _⟩ <;> omega
          · have : q = p := by omega
            subst this
            rw [hx] at hqj; cases hqj
            have := (key_cmp.zero (rowKey rs cols (j : Int)) (rowKey rs cols j)).2 rfl
            omega
        rw [(key_cmp.zero _ _).1 hjk] at hle
        omega
theorem sum_hasI : ∀ {l : List ByteArray} {c : ByteArray}, c ∈ l → c.size ≤ sumT l
  | x :: l, c, h => by
    rcases List.mem_cons.1 h with rfl | h
    · simp [sumT]
    · have := sum_hasI h; simp [sumT] at this ⊢; omega
theorem few_size (hd : List ByteArray) (rs : List (List ByteArray)) (h : sumT (allT hd rs) ≤ 8000) : ∀ r ∈ rs, ∀ c ∈ r, c.size ≤ 8000 := fun r hr c hc =>
  Nat.le_trans (sum_hasI (by unfold allT; exact List.mem_append_right _ (List.mem_flatten.2 ⟨r, hr, hc⟩))) h
theorem own_twice (n : Nat) (rs : List (List ByteArray)) (cols : List Int) (i k : Nat) (hik : i < k) (hk : k < rs.length) (h : keyC (rowKey rs cols i) (rowKey rs cols k) = 0) : uniqL n rs cols = false := by
  cases hu : uniqL n rs cols with
  | false => rfl
  | true =>
    unfold uniqL at hu
    rw [Bool.and_eq_true, apart_iff] at hu
    exact absurd ((key_cmp.zero _ _).1 h) (hu.2 i k hik hk)

set_option maxRecDepth 100000 in
set_option maxHeartbeats 2000000 in
theorem walkIndexOwn (ho : Option Addr) (hc : Nat) (hd : List ByteArray) (ro : Option Addr) (rc : Nat) (rs : List (List ByteArray)) (co : Option Addr) (cc : Nat) (cols : List Int) (row : Int) (w : World)
    (hA : StrArg w ho hc hd) (hB : RowsArg w ro rc rs) (hI : IntsArg w co cc cols) (hrow : (Lit.int .i64 row).wf = true) (hpow : Pow w) :
    Calls Tryd.prog 3 #[.agg #[.slice ho hd.length hc, .slice ro rs.length rc], .slice co cols.length cc, .int .i64 row] w fun e w' => e = .returned (.bool true) ∧ Below w.heap.size w w' := by
  obtain ⟨W, HW⟩ : ∃ W, Hid (W = w.alloc (TabO ho hd.length hc ro rs.length rc)) := ⟨_, Lib.hid rfl⟩
  have hb0 : Below w.heap.size w W := by rw [HW.out]; exact one_below _ _
  have hN : W.heap[w.heap.size]? = some (TabO ho hd.length hc ro rs.length rc) := by rw [HW.out]; exact World.alloc_heap_new w _
  have HA := Lib.hid hA
  have HB := Lib.hid hB
  have HI := Lib.hid hI
  have B0 := Lib.hid hb0
  have HP := Lib.hid hpow
  have box : Hid (∀ V, Below W.heap.size W V → V.cell? ⟨w.heap.size, 0, none⟩ = some (.slice ho hd.length hc) ∧ V.cell? ⟨w.heap.size, 1, none⟩ = some (.slice ro rs.length rc)) := Lib.hid (fun V hV => tabs ((hV.block _ (lt_of_heap hN)).trans hN))
  clear hA hB hI hb0 hrow hpow hN
  go_enter Tryd.func3, Tryd.ntmps3
  go_upto_region 1 with fail
  rw [show w.alloc (TabO ho hd.length hc ro rs.length rc) = W from HW.out.symm]
  go_wp2_with fail
  refine (iworks_any _).mono ?_; rintro e w1 ⟨rfl, b1⟩
  obtain ⟨p0, p1⟩ := box.out w1 b1
  have X1 := below_up B0.out b1
  have B1 := Lib.hid b1
  have C1 := Lib.hid (few12_any ho hc hd ro rc rs co cc cols.length w1 HA.out.len HB.out.len HI.out.len HB.out.each HA.out.size (HA.out.row.kept X1) (HB.out.rows.kept X1))
  clear b1 X1
  go_wp2_with fail
  refine C1.out.mono ?_; rintro e w2 ⟨b, rfl, hb, b2⟩
  have B2 := Lib.hid (below_up B1.out b2)
  clear b2 p0 p1 C1 B1
  obtain ⟨p0, p1⟩ := box.out w2 B2.out
  cases b with
  | false =>
    clear hb
    go_wp2_with fail
    go_ret
    exact ⟨rfl, below_up B0.out B2.out⟩
  | true =>
    obtain ⟨hf, h40, h12⟩ := hb rfl
    have HZ : Hid (∀ r ∈ rs, r.length ≤ 60 ∧ ∀ c ∈ r, c.size ≤ 8000) := Lib.hid (fun r hr => ⟨hf.1.2.1 r hr, fun c hc => few_size hd rs hf.2.2 r hr c hc⟩)
    have HH : Hid (hd.length ≤ 60) := Lib.hid hf.2.1
    have HX : Hid (∀ r ∈ rs, r.length ≤ 1099511627776 ∧ ∀ c ∈ r, c.size ≤ 281474976710656) := Lib.hid (fun r hr => ⟨by have := hf.1.2.1 r hr; omega, fun c hc => by have := (HB.out.each r hr).2 c hc; omega⟩)
    clear hf hb
    by_cases hr0 : row < 0
    · have d0 : decide (row < 0) = true := decide_eq_true hr0
      go_wp2_with fail
      go_ret
      exact ⟨rfl, below_up B0.out B2.out⟩
    have d0 : decide (row < 0) = false := decide_eq_false hr0
    obtain ⟨k, rfl⟩ := Int.eq_ofNat_of_zero_le (show 0 ≤ row by omega)
    by_cases hrn : k < rs.length
    · have d1 : decide ((rs.length : Int) ≤ (k : Int)) = false := decide_eq_false (by omega)
      have d1' : decide (rs.length ≤ k) = false := decide_eq_false (by omega)
      have CB := Lib.hid (fun V (h : Below w.heap.size w V) => build_any ho hd.length hc ro rc rs co cc cols V (by omega) (by omega) HX.out HI.out.wf (HB.out.rows.kept h) (HI.out.ints.kept h))
      have CK := Lib.hid (fun V (x : Int) (h : Below w.heap.size w V) => key_any ho hd.length hc ro rc rs x co cc cols V (by omega) (by omega) HX.out (HB.out.rows.kept h) (HI.out.ints.kept h))
      have CF := Lib.hid (fun V (oo so : Option Addr) (h : Below w.heap.size w V) (h1 : IntsAt V oo (buildL rs cols)) (h2 : StrRow V so (rowKey rs cols (k : Int))) => find_any ho hd.length hc ro rc rs co cc cols oo (buildL rs cols).length (buildL rs cols) so cols.length (rowKey rs cols (k : Int)) V (by omega) (by rw [rowKey_len]; omega) (by rw [build_len]; omega) (by omega) HX.out (HB.out.rows.kept h) (HI.out.ints.kept h) h1 h2)
      have CC := Lib.hid (fun V (ao bo : Option Addr) (x y : Int) (h1 : StrRow V ao (rowKey rs cols x)) (h2 : StrRow V bo (rowKey rs cols y)) => compareK_any ao bo cols.length cols.length (rowKey rs cols x) (rowKey rs cols y) V (by rw [rowKey_len]; omega) (by rw [rowKey_len]; omega) h1 h2)
      have CU := Lib.hid (fun V (h : Below w.heap.size w V) => unique_any ho hd.length hc ro rc rs co cc cols V (by have := HH.out; omega) (by omega) (fun r hr => ⟨by have := (HZ.out r hr).1; omega, fun c hc => by have := (HZ.out r hr).2 c hc; omega⟩) (by omega) HI.out.wf (HB.out.rows.kept h) (HI.out.ints.kept h) (HP.out.kept h))
      have HFF := Lib.hid (fun a ok h => found_first rs cols (rowKey rs cols (k : Int)) a ok h)
      have HTw := Lib.hid (fun (i : Nat) h1 h2 => own_twice hd.length rs cols i k h1 hrn h2)
      have HSelf : Hid (keyC (rowKey rs cols (k : Int)) (rowKey rs cols (k : Int)) = 0) := Lib.hid ((key_cmp.zero _ _).2 rfl)
      have hbl := build_len rs cols
      have HKl := Lib.hid (fun x => rowKey_len rs cols x)
      unfold BuildOut at CB
      generalize buildL rs cols = BL at CB CF HFF hbl
      rw [hbl] at CB CF
      rw [HKl.out] at CF
      have BD := Lib.hid (B2.out.drew)
      clear hbl
      go_upto_region 6 with fail
      go_region_held3 (fun V => V.cell? ⟨w.heap.size, 0, none⟩ = some (.slice ho hd.length hc) ∧ V.cell? ⟨w.heap.size, 1, none⟩ = some (.slice ro rs.length rc)) ((refine ⟨?_, ?_⟩ <;> first | assumption | go_keep)) (first
        | (go_at_call 9; refine (CB.out _ (below_up B0.out BD.out)).mono ?_; rintro e w3 ⟨oo, rfl, hio, b3⟩; have B3 := Lib.hid (below_up BD.out b3); have HIO := Lib.hid hio; obtain ⟨p0, p1⟩ := box.out _ B3.out; clear hio b3)
        | (go_at_call 10; refine (CK.out _ _ (below_up B0.out B3.out)).mono ?_; rintro e w4 ⟨so, rfl, hst, b4⟩; have B4 := Lib.hid (below_up B3.out b4); have HIO2 := Lib.hid (HIO.out.kept b4); have HST := Lib.hid hst; obtain ⟨p0, p1⟩ := box.out _ B4.out; clear hst b4)
        | (go_at_call 8; refine (CF.out _ _ _ (below_up B0.out B4.out) HIO2.out HST.out).mono ?_; rintro e w5 ⟨a, ok, rfl, hfa, b5⟩; have B5 := Lib.hid (below_up B4.out b5); have HFA := Lib.hid hfa; obtain ⟨p0, p1⟩ := box.out _ B5.out; clear hfa b5))
      rcases HFF.out a ok HFA.out with ⟨i, rfl, rfl, hil, hik, hij⟩ | ⟨rfl, rfl, hno⟩
      · have hle : i ≤ k := by
          rcases Nat.lt_or_ge k i with h | h
          · exact absurd HSelf.out (hij k h)
          · exact h
        have d2 : decide ((k : Int) < (i : Int)) = false := decide_eq_false (by omega)
        have d2' : decide (k < i) = false := decide_eq_false (by omega)
        have HIK := Lib.hid hik
        have BD5 := Lib.hid (B5.out.drew)
        have CKi := Lib.hid (fun V h => CK.out V (i : Int) h)
        have CKk := Lib.hid (fun V h => CK.out V (k : Int) h)
        have CCx := Lib.hid (fun V (ao bo : Option Addr) h1 h2 => CC.out V ao bo (i : Int) (k : Int) h1 h2)
        rw [hik, HKl.out, HKl.out] at CCx
        have HUn : Hid (i < k → uniqL hd.length rs cols = false) := Lib.hid (fun h => HTw.out i h HIK.out)
        clear HFA hil hik hij HIO HIO2 HST CB CF CK CC HFF HTw BD B3 B4
        generalize uniqL hd.length rs cols = U at CU HUn
        go_upto_region 7 with fail
        go_region_held3 (fun V => V.cell? ⟨w.heap.size, 0, none⟩ = some (.slice ho hd.length hc) ∧ V.cell? ⟨w.heap.size, 1, none⟩ = some (.slice ro rs.length rc)) ((refine ⟨?_, ?_⟩ <;> first | assumption | go_keep)) (first
          | (go_at_call 10; refine (CKi.out _ (below_up B0.out BD5.out)).mono ?_; rintro e w6 ⟨ao, rfl, hst, b6⟩; have B6 := Lib.hid (below_up BD5.out b6); have HSA := Lib.hid hst; obtain ⟨p0, p1⟩ := box.out _ B6.out; clear hst b6 CKi BD5)
          | (go_at_call 10; refine (CKk.out _ (below_up B0.out B6.out)).mono ?_; rintro e w7 ⟨bo, rfl, hst, b7⟩; have B7 := Lib.hid (below_up B6.out b7); have HSA2 := Lib.hid (HSA.out.kept b7); have HSB := Lib.hid hst; obtain ⟨p0, p1⟩ := box.out _ B7.out; clear hst b7 CKk)
          | (go_at_call 11; refine (CCx.out _ _ _ HSA2.out HSB.out).mono ?_; rintro e w8 ⟨rfl, b8⟩; have B8 := Lib.hid (below_up B7.out b8); obtain ⟨p0, p1⟩ := box.out _ B8.out; clear b8))
        by_cases hik : i = k
        · have eI : ((i : Int) == (k : Int)) = true := by rw [beq_iff_eq]; omega
          go_wp2_with fail
          go_ret
          exact ⟨rfl, below_up B0.out B8.out⟩
        · have eI : ((i : Int) == (k : Int)) = false := by rw [beq_eq_false_iff_ne]; omega
          have D := Lib.hid (CU.out _ (below_up B0.out B8.out))
          rw [HUn.out (by omega)] at D
          go_wp2_with fail
          refine D.out.mono ?_; rintro e w9 ⟨rfl, b9⟩
          have B9 := Lib.hid (below_up B8.out b9)
          clear b9
          go_wp2_with fail
          go_ret
          exact ⟨rfl, below_up B0.out B9.out⟩
      · exact absurd HSelf.out (hno k hrn)
    · have d1 : decide ((rs.length : Int) ≤ (k : Int)) = true := decide_eq_true (by omega)
      have d1' : decide (rs.length ≤ k) = true := decide_eq_true (by omega)
      go_wp2_with fail
      go_ret
      exact ⟨rfl, below_up B0.out B2.out⟩
end Go.Proofs.YtmomjhnbhckhpaaDoor
