/-
  The records of a table, and the table of records: what the program answers.
  Conditions: tables of at most 2^40 names and rows of at most 2^40 cells; texts of at most 2^48 bytes.
-/
import Derived.WalkKit
import Derived.WalkMore
import Derived.Lib.Hide
import Derived.Lib.AppendZerosOnto
import Derived.Laws.CopyOwn
import Derived.Laws.AppendOwn
import Derived.Deep.RegionLaw
import Derived.Deep.RegionWith
import Derived.Test.YtgbmpcfnbdbpgaaProg
import Derived.Test.YtgbmpcfnbdbpgaaTCheck
import Derived.Test.YtgbmpcfnbdbpgaaTPut
import Derived.Test.YtgbmpcfnbdbpgaaTRest
namespace Go.Proofs.Ytgbmpcfnbdbpgaa
open Go.RowKit Go.Shelf
set_option linter.unusedVariables false

theorem own_cap {w : World} {base : Nat} {e : TypeId} {size : Nat} {ao : Option Addr} {m n cap : Nat} {xs : List Value} (h : w.ownsRow base e size (.slice ao m cap) n xs) : n ≤ cap := by
  rcases h.2 with ⟨h1, h2⟩ | ⟨g, c, cur, h1, _, _, h2, _⟩
  · cases h1; omega
  · cases h1; exact h2

set_option maxRecDepth 100000 in
set_option maxHeartbeats 4000000 in
theorem insert0_any (g n vb base : Nat) (v : Value) (vs : List Value) (w : World) (hvl : vs.length = n) (hn : n ≤ 1099511627776) (hown : w.ownsRow base 22 1 (.slice (some ⟨g, 0, none⟩) n n) n vs)
    (hvb : w.cell? ⟨vb, 0, none⟩ = some v) (h1v : v.oneCell' = true) (h1 : ∀ u ∈ vs, u.oneCell' = true) (hpos : 0 < n) :
    Calls Try.prog 36 #[.slice (some ⟨g, 0, none⟩) n n, .int .i64 0, .slice (some ⟨vb, 0, none⟩) 1 1] w fun e w' => ∃ h cap, e = .returned (.slice (some ⟨h, 0, none⟩) (n + 1) cap) ∧ n + 1 ≤ cap ∧ h < w'.heap.size ∧ (∀ (j : Nat) u, (v :: vs)[j]? = some u → w'.cell? ⟨h, j, none⟩ = some u) ∧ Below w.heap.size w w' := by
  have hinfo : (Try.prog.info? 22).map (fun i => (i.zero, i.size, i.bytes)) = some (some (.slice none 0 0), 1, 24) := by kernel_rfl
  obtain ⟨i0, hi, hz0, hz1, hz2⟩ := info_parts hinfo
  have hsz : (Try.prog.info? 22).map (·.size) = some 1 := by rw [hi]; simp [hz1]
  have hne0 : ¬ ((0 : Int) = (n : Int)) := by omega
  have hbeq : ((0 : Int) == (n : Int)) = false := by rw [beq_eq_false_iff_ne]; omega
  have hgrow : (n : Int) < (n : Int) + 1 := by omega
  have hold : (Builtin.firstCells i0.size 0 (.slice (some ⟨g, 0, none⟩) 0 n)).run Try.prog w.drew = .ok ([] : List Value).toArray w.drew := by
    rw [hz1]; rfl
  obtain ⟨G, HG⟩ : ∃ G, Hid (G = grownCap w (0 + (n + 1)) n 22) := ⟨_, Lib.hid rfl⟩
  have hrz := Lib.run_append_grow_zeros w 23 3 23 22 i0 _ .i64 .i64 Try.underlying23 Try.underlying3 hi hz0 (some ⟨g, 0, none⟩) 0 n [] hold (n + 1) (by omega) (by rw [hz1]; omega) (by omega) (by omega) (by rw [hz2]; omega) (by rw [hz2]; exact growslice_fits (by omega) (by omega))
  rw [← HG.out] at hrz
  have hGn : n + 1 ≤ G := by rw [HG.out]; exact Nat.le_trans (by omega) (grownCap_ge w _ _ _)
  have hG63 : G ≤ 9223372036854775807 := by
    have := grownCap_le_maxLen w (0 + (n + 1)) n 22 (by unfold maxLen; omega)
    rw [← HG.out] at this; unfold maxLen at this; omega
  obtain ⟨L, HL⟩ : ∃ L : List Value, Hid (L = (([] : List Value).toArray ++ Builtin.zeroCells (Value.slice none 0 0).cells (n + 1) ++ Builtin.zeroCells (Value.slice none 0 0).cells (G - (0 + (n + 1)))).toList) := ⟨_, Lib.hid rfl⟩
  have hLl : n + 1 ≤ L.length := by
    rw [HL.out]; simp [Builtin.zeroCells, Value.cells]
  rw [show (([] : List Value).toArray ++ Builtin.zeroCells (Value.slice none 0 0).cells (n + 1) ++ Builtin.zeroCells (Value.slice none 0 0).cells (G - (0 + (n + 1)))) = L.toArray from by rw [HL.out], Nat.zero_add, show (((n + 1 : Nat)) : Int) = (n : Int) + 1 from by omega] at hrz
  obtain ⟨W1, HW1⟩ : ∃ W1, Hid (W1 = w.drew.alloc (.cells L.toArray 22)) := ⟨_, Lib.hid rfl⟩
  rw [← HW1.out] at hrz
  have HRZ := Lib.hid hrz
  have hb1 : Below w.heap.size w W1 := by rw [HW1.out]; exact ((Below.refl _ w).drew).alloc (Nat.le_refl _) _
  have hg1 : W1.heap[w.heap.size]? = some (.cells L.toArray 22 (0, 0)) := by rw [HW1.out]; exact World.alloc_heap_new w.drew _
  have hgw : g < w.heap.size := (hown.lt g rfl).2
  have hvw : vb < w.heap.size := block_lt_of_cell hvb
  have HV1 : Hid (∀ j u, [v][j]? = some u → W1.cell? ((⟨vb, 0, none⟩ : Addr).add j) = some u) := Lib.hid (fun j u hu => by
    match j, hu with
    | 0, hu => simp at hu; subst hu; exact (hb1.cell (p := ⟨vb, 0, none⟩) hvw).trans hvb)
  have HCS : Hid (∀ W, Below w.heap.size w W → ∀ j u, vs[j]? = some u → W.cell? ((⟨g, 0, none⟩ : Addr).add j) = some u) := Lib.hid (fun W hW j u hu => by
    have hc := hown.cells rfl j u hu
    rw [Addr.add_lit, Nat.zero_add] at hc ⊢
    exact (hW.cell (p := ⟨g, j, none⟩) hgw).trans hc)
  obtain ⟨W2, HW2⟩ : ∃ W2, Hid (W2 = W1.setRow w.heap.size (L.toArray.toList.take 0 ++ [v] ++ L.toArray.toList.drop (0 + [v].length)).toArray) := ⟨_, Lib.hid rfl⟩
  have hcp1 := run_copy_row (P := Try.prog) W1 23 23 3 22 w.heap.size 0 (n + 1) G ⟨vb, 0, none⟩ 1 1 L.toArray 22 [v] Try.underlying23 hsz hg1 (by simp only [List.length_singleton, Nat.min_def]; split <;> omega) HV1.out (by simp; omega) (by simpa using h1v)
  rw [← HW2.out] at hcp1
  have hb2 : Below w.heap.size w W2 := by rw [HW2.out]; exact below_setRow hb1 (Nat.le_refl _) _
  have hg2 : W2.heap[w.heap.size]? = some (.cells (v :: L.drop 1).toArray 22 (0, 0)) := by rw [HW2.out]; simpa using setRow_heap W1 w.heap.size _ _ 22 _ hg1
  obtain ⟨W3, HW3⟩ : ∃ W3, Hid (W3 = W2.drew.setRow w.heap.size ((v :: L.drop 1).toArray.toList.take 1 ++ vs ++ (v :: L.drop 1).toArray.toList.drop (1 + vs.length)).toArray) := ⟨_, Lib.hid rfl⟩
  have hcp2 := run_copy_row (P := Try.prog) W2.drew 23 23 3 22 w.heap.size 1 n (G - 1) ⟨g, 0, none⟩ n n (v :: L.drop 1).toArray 22 vs Try.underlying23 hsz hg2 (by rw [hvl]; simp) (HCS.out W2.drew hb2.drew) (by simp; omega) h1
  rw [← HW3.out] at hcp2
  have hb3 : Below w.heap.size w W3 := by rw [HW3.out]; exact below_setRow hb2.drew (Nat.le_refl _) _
  have hg3 : W3.heap[w.heap.size]? = some (.cells (v :: (vs ++ L.drop (1 + vs.length))).toArray 22 (0, 0)) := by
    rw [HW3.out]
    have := setRow_heap W2.drew w.heap.size _ ((v :: L.drop 1).toArray.toList.take 1 ++ vs ++ (v :: L.drop 1).toArray.toList.drop (1 + vs.length)).toArray 22 _ hg2
    simpa [Nat.add_comm] using this
  have HB3 := Lib.hid hb3
  have HG3 := Lib.hid hg3
  have HVL := Lib.hid hvl
  have hG0 : ¬ (G = 0) := by omega
  have hG1 : ¬ (G = 1) := by omega
  have hn0 : ¬ (n = 0) := by omega
  have HC1 := Lib.hid hcp1
  have HC2 := Lib.hid hcp2
  clear hown hvb h1 hvl hb1 hg1 hinfo hi hz0 hz1 hz2 hsz hrz hold hb2 hg2 hb3 hg3 HV1 HCS hcp1 hcp2
  have hcp1 := HC1.out
  go_enter Try.func36, Try.ntmps36
  go_wp2_with (at_builtin; refine Lib.wpList_append_run _ rfl _ _ _ _ rfl _ _ rfl rfl _ _ HRZ.out ?_)
  clear hcp1
  have hcp2 := HC2.out
  go_region
  all_goals (clear hcp2; go_wp2_with fail; go_ret)
  all_goals refine ⟨w.heap.size, G, rfl, hGn, lt_of_heap HG3.out, fun j u hu => ?_, HB3.out⟩
  all_goals
    rw [Lib.cell_of_heap HG3.out j]
    match j, hu with
    | 0, hu => simpa using hu
    | j + 1, hu =>
      simp only [List.getElem?_cons_succ] at hu
      have := (List.getElem?_eq_some_iff.1 hu).1
      simp only [List.getElem?_toArray, List.getElem?_cons_succ]
      rw [List.getElem?_append_left this]; exact hu

set_option maxRecDepth 100000 in
set_option maxHeartbeats 4000000 in
theorem insertNil_any (g vb base : Nat) (v : Value) (w : World) (hown : w.ownsRow base 22 1 (.slice (some ⟨g, 0, none⟩) 0 0) 0 [])
    (hvb : w.cell? ⟨vb, 0, none⟩ = some v) (h1v : v.oneCell' = true) :
    Calls Try.prog 36 #[.slice (some ⟨g, 0, none⟩) 0 0, .int .i64 0, .slice (some ⟨vb, 0, none⟩) 1 1] w fun e w' => ∃ h cap, e = .returned (.slice (some ⟨h, 0, none⟩) 1 cap) ∧ 1 ≤ cap ∧ h < w'.heap.size ∧ w'.cell? ⟨h, 0, none⟩ = some v ∧ Below base w w' ∧ ∀ k, k < w.heap.size → k ≠ g → w'.heap[k]? = w.heap[k]? := by
  have hinfo : (Try.prog.info? 22).map (fun i => (i.zero, i.size, i.bytes)) = some (some (.slice none 0 0), 1, 24) := by kernel_rfl
  obtain ⟨i0, hi, hz0, hz1, hz2⟩ := info_parts hinfo
  have HI := Lib.hid hi
  have hbase : base ≤ w.heap.size := by have := hown.lt g rfl; omega
  have hbg : base ≤ g := (hown.lt g rfl).1
  have HO := Lib.hid hown
  clear hown hi hinfo
  go_enter Try.func36, Try.ntmps36
  go_wp2_with (at_builtin; refine wpList_append_own _ rfl _ _ 23 rfl base 22 i0 (.slice none 0 0) 1 24 Try.underlying23 HI.out hz0 hz1 hz2 rfl (by decide) _ _ _ rfl HO.out ⟨vb, 0, none⟩ 1 1 [v] rfl rfl ?c1 ?c2 ?c3 ?c4 ?c5 ?_)
  case c1 =>
    intro j u hu
    match j, hu with
    | 0, hu => simp at hu; subst hu; exact hvb
  case c2 => simpa using h1v
  case c3 => unfold maxLen; omega
  case c4 => omega
  case c5 => exact hbase
  intro v' w3 hown' hgrow _
  obtain ⟨h, cp, rfl⟩ := ownsRow_succ hown'
  have HB1 := Lib.hid ((Below.refl base w).grown hgrow hbase (fun k hk => by simp [Value.ownBlock] at hk; omega))
  have HK : Hid (∀ k, k < w.heap.size → k ≠ g → w3.heap[k]? = w.heap[k]?) := Lib.hid (fun k hk hne => hgrow.block k hk (by simp [Value.ownBlock]; omega))
  have HC : Hid (w3.cell? ⟨h, 0, none⟩ = some v) := Lib.hid (hown'.cellAt 0 (by omega))
  have HL := Lib.hid (hown'.lt h rfl).2
  have HCAP := Lib.hid (own_cap hown')
  clear hown' hgrow
  go_wp2_with fail
  go_ret
  exact ⟨h, cp, rfl, HCAP.out, HL.out, HC.out, HB1.out, HK.out⟩

theorem strRow_other {w w' : World} {ao : Option Addr} {xs : List ByteArray} (h : StrRow w ao xs) (hz : w.heap.size ≤ w'.heap.size) (g : Nat) (hg : ∀ A, ao = some A → A.block ≠ g) (hk : ∀ k, k < w.heap.size → k ≠ g → w'.heap[k]? = w.heap[k]?) : StrRow w' ao xs := by
  rcases h with h | ⟨A, h1, h2, h3⟩
  · exact .inl h
  · exact .inr ⟨A, h1, Nat.lt_of_lt_of_le h2 hz, fun i c hc => (World.cell?_of_block (a := A.add i) (by rw [add_block]; exact hk _ h2 (hg A h1))).trans (h3 i c hc)⟩
/-- the values in the cells of rows -/
theorem rows_vals {w : World} {h n cap base : Nat} {rs : List (List ByteArray)} {vs : List Value} (hR : RowsAt w (some ⟨h, 0, none⟩) rs) (hn : n = rs.length) (ho : w.ownsRow base 22 1 (.slice (some ⟨h, 0, none⟩) n cap) n vs) :
    vs.length = n ∧ ∀ (j : Nat) r, rs[j]? = some r → ∃ ro c, vs[j]? = some (.slice ro r.length c) ∧ StrRow w ro r := by
  have hl : vs.length = n := by have := ho.1; omega
  refine ⟨hl, fun j r hr => ?_⟩
  have hj := (List.getElem?_eq_some_iff.1 hr).1
  rcases hR with h0 | ⟨A, hA, hb, hc⟩
  · rw [h0] at hj; simp at hj
  cases hA
  obtain ⟨ro, c, h1, h2⟩ := hc j r hr
  have h3 := ho.cells rfl j (vs[j]'(by omega)) (List.getElem?_eq_getElem (by omega))
  rw [h1] at h3
  exact ⟨ro, c, by rw [List.getElem?_eq_getElem (by omega), ← h3], h2⟩
theorem vals_one {rs : List (List ByteArray)} {vs : List Value} {w : World} (hl : vs.length = rs.length) (h : ∀ (j : Nat) r, rs[j]? = some r → ∃ ro c, vs[j]? = some (.slice ro r.length c) ∧ StrRow w ro r) : ∀ u ∈ vs, u.oneCell' = true := fun u hu => by
  obtain ⟨i, hi, rfl⟩ := List.getElem_of_mem hu
  obtain ⟨ro, c, h1, _⟩ := h i rs[i] (List.getElem?_eq_getElem (by omega))
  rw [List.getElem?_eq_getElem hi] at h1
  have h2 : vs[i] = Value.slice ro rs[i].length c := Option.some.inj h1
  show (vs[i]).oneCell' = true
  rw [h2]; rfl

set_option maxRecDepth 100000 in
set_option maxHeartbeats 4000000 in
theorem records_any (ho : Option Addr) (hc : Nat) (hd : List ByteArray) (ro : Option Addr) (rc : Nat) (rs : List (List ByteArray)) (w : World) (hn : hd.length ≤ 1099511627776) (hs : ∀ c ∈ hd, c.size ≤ 281474976710656) (hH : StrRow w ho hd)
    (hn2 : rs.length ≤ 1099511627776) (hs2 : ∀ r ∈ rs, r.length ≤ 1099511627776 ∧ ∀ c ∈ r, c.size ≤ 281474976710656) (hR : RowsAt w ro rs) :
    Calls Try.prog 20 #[.agg #[.slice ho hd.length hc, .slice ro rs.length rc]] w fun e w' => ∃ h cap, e = .returned (.slice (some ⟨h, 0, none⟩) (rs.length + 1) cap) ∧ rs.length + 1 ≤ cap ∧ RowsAt w' (some ⟨h, 0, none⟩) (hd :: rs) ∧ Below w.heap.size w w' := by
  have HB := Lib.hid (one_below w (TabO ho hd.length hc ro rs.length rc))
  have C := Lib.hid (put_any ho hc hd ro rc rs (w.alloc (TabO ho hd.length hc ro rs.length rc)) hn hs (hH.kept HB.out) hn2 hs2 (hR.kept HB.out))
  clear hH hR hs hs2
  go_enter Try.func20, Try.ntmps20
  go_wp2_with fail
  refine C.out.mono ?_; rintro e w1 ⟨g, h, rfl, hH, hR, ⟨vs, hown⟩, b1, ho1⟩
  obtain ⟨cur1, hcur1⟩ := own_block hown
  have HNE := Lib.hid (own_ne ho1 hcur1 (by decide))
  obtain ⟨hl, hv⟩ := rows_vals hR rfl hown
  have HB1 := Lib.hid (below_up HB.out b1)
  have HZ1 := Lib.hid b1.size
  have HH := Lib.hid hH
  have HO := Lib.hid hown
  have HV := Lib.hid hv
  have HL := Lib.hid hl
  clear hH hR hown b1 hv hl C ho1 hcur1
  obtain ⟨W2, HW2⟩ : ∃ W2, Hid (W2 = (w1.alloc (.cells #[.slice (some ⟨g, 0, none⟩) hd.length hd.length, .slice (some ⟨h, 0, none⟩) rs.length rs.length] 25)).alloc (.cells #[.slice (some ⟨g, 0, none⟩) hd.length hd.length] 22)) := ⟨_, Lib.hid rfl⟩
  have hN := two_new w1 (.cells #[.slice (some ⟨g, 0, none⟩) hd.length hd.length, .slice (some ⟨h, 0, none⟩) rs.length rs.length] 25) (.cells #[.slice (some ⟨g, 0, none⟩) hd.length hd.length] 22)
  have hb2 : Below w1.heap.size w1 W2 := by rw [HW2.out]; exact two_below _ _ _
  rw [← HW2.out] at hN
  have hvb : W2.cell? ⟨w1.heap.size + 1, 0, none⟩ = some (.slice (some ⟨g, 0, none⟩) hd.length hd.length) := (Lib.cell_of_heap hN.2.2 0).trans rfl
  have HB2 := Lib.hid hb2
  have HVB := Lib.hid hvb
  clear hN hb2 hvb
  have ho2 := ownsRow_below HO.out HB2.out
  rcases Nat.eq_zero_or_pos rs.length with h0 | hpos
  · have hv0 : vs = [] := List.eq_nil_of_length_eq_zero (by rw [HL.out, h0])
    have hr0 : rs = [] := List.eq_nil_of_length_eq_zero h0
    subst hv0 hr0
    rw [List.length_nil] at HW2 ho2
    have CI := Lib.hid (insertNil_any h (w1.heap.size + 1) _ _ W2 ho2 HVB.out rfl)
    clear ho2 h0
    go_wp2_with fail
    rw [← HW2.out]
    refine CI.out.mono ?_; rintro e w3 ⟨h3, cap, rfl, hcap, hlt, hcell, hbel, hoth⟩
    have HQ : Hid (RowsAt w3 (some ⟨h3, 0, none⟩) [hd]) := Lib.hid (.inr ⟨_, rfl, hlt, fun j r hr => by
      match j, hr with
      | 0, hr =>
        simp at hr; subst hr
        refine ⟨some ⟨g, 0, none⟩, hd.length, by rw [Addr.add_lit]; exact hcell, ?_⟩
        exact strRow_other (HH.out.kept HB2.out) hbel.size h (fun A hA => by cases hA; exact fun e => HNE.out e.symm) hoth⟩)
    have HBW := Lib.hid ((below_up HB1.out HB2.out).trans (hbel.mono (by have := HZ1.out; simp)))
    clear hcell hbel hoth hlt
    go_wp2_with fail
    go_ret
    exact ⟨h3, cap, rfl, hcap, HQ.out, HBW.out⟩
  · have CI := Lib.hid (insert0_any h rs.length (w1.heap.size + 1) _ _ vs W2 HL.out hn2 ho2 HVB.out rfl (vals_one HL.out HV.out) hpos)
    clear ho2
    go_wp2_with fail
    rw [← HW2.out]
    refine CI.out.mono ?_; rintro e w3 ⟨h3, cap, rfl, hcap, hlt, hcell, hbel⟩
    have HBX := HB2.out
    have HQ : Hid (RowsAt w3 (some ⟨h3, 0, none⟩) (hd :: rs)) := Lib.hid (.inr ⟨_, rfl, hlt, fun j r hr => by
      match j, hr with
      | 0, hr =>
        simp at hr; subst hr
        exact ⟨some ⟨g, 0, none⟩, hd.length, by rw [Addr.add_lit]; exact hcell 0 _ rfl, (HH.out.kept HB2.out).kept hbel⟩
      | j + 1, hr =>
        simp only [List.getElem?_cons_succ] at hr
        obtain ⟨ro', c', h1, h2⟩ := HV.out j r hr
        exact ⟨ro', c', by rw [Addr.add_lit, Nat.zero_add]; exact hcell (j + 1) _ (by simpa using h1), (h2.kept HB2.out).kept hbel⟩⟩)
    have HBW := Lib.hid (below_up (below_up HB1.out HB2.out) hbel)
    clear hcell hbel hlt HBX
    go_wp2_with fail
    go_ret
    exact ⟨h3, cap, rfl, hcap, HQ.out, HBW.out⟩

def ofErr : List (List ByteArray) → Int | [] => 8 | h :: t => checkI h t
def ofHead : List (List ByteArray) → List ByteArray | [] => [] | h :: t => if checkI h t = 0 then h else []
def ofRows : List (List ByteArray) → List (List ByteArray) | [] => [] | h :: t => if checkI h t = 0 then t else []
/-- what Of answers -/
def OfPost (l : List (List ByteArray)) (w : World) (e : Ending) (w' : World) : Prop :=
  ∃ ho hc ro rc, e = .returned (.tuple #[.agg #[.slice ho (ofHead l).length hc, .slice ro (ofRows l).length rc], .int .i64 (ofErr l)]) ∧ StrRow w' ho (ofHead l) ∧ RowsAt w' ro (ofRows l) ∧ Below w.heap.size w w'
theorem add0 (A : Addr) : A.add 0 = A := by unfold Addr.add; split <;> (cases A; simp_all)
/-- where a block that holds no text turns, rows of texts elsewhere stay -/
theorem str_turn {w w' : World} {b : Nat} {cs : Array Value} {T : TypeId} {fr : Nat × Nat} (hb : w.heap[b]? = some (.cells cs T fr)) (hcs : ∀ (j : Nat) s, cs[j]? ≠ some (.string s)) (hz : w.heap.size ≤ w'.heap.size) (hk : ∀ k, k ≠ b → w'.heap[k]? = w.heap[k]?)
    {ao : Option Addr} {xs : List ByteArray} (h : StrRow w ao xs) : StrRow w' ao xs := by
  by_cases h0 : xs = []
  · exact .inl h0
  · rcases h with h | ⟨A, h1, h2, h3⟩
    · exact .inl h
    · have hp : 0 < xs.length := List.length_pos_iff.2 h0
      have hne : A.block ≠ b := fun e => by
        have hc := h3 0 xs[0] (List.getElem?_eq_getElem hp)
        rw [add0] at hc
        unfold World.cell? at hc
        rw [e, hb] at hc
        simp only at hc
        split at hc
        · cases hc
        · exact hcs _ _ hc
      exact .inr ⟨A, h1, Nat.lt_of_lt_of_le h2 hz, fun i c hc => (World.cell?_of_block (a := A.add i) (by rw [add_block]; exact hk _ hne)).trans (h3 i c hc)⟩
theorem rows_turn {w w' : World} {b : Nat} {cs : Array Value} {T : TypeId} {fr : Nat × Nat} (hb : w.heap[b]? = some (.cells cs T fr)) (hcs : ∀ (j : Nat) s, cs[j]? ≠ some (.string s)) (hz : w.heap.size ≤ w'.heap.size) (hk : ∀ k, k ≠ b → w'.heap[k]? = w.heap[k]?)
    {A : Addr} {rs : List (List ByteArray)} (hA : A.block ≠ b) (h : RowsAt w (some A) rs) : RowsAt w' (some A) rs := by
  rcases h with h | ⟨A', h1, h2, h3⟩
  · exact .inl h
  · cases h1
    refine .inr ⟨A, rfl, Nat.lt_of_lt_of_le h2 hz, fun i r hr => ?_⟩
    obtain ⟨ro, c, h4, h5⟩ := h3 i r hr
    exact ⟨ro, c, (World.cell?_of_block (a := A.add i) (by rw [add_block]; exact hk _ hA)).trans h4, str_turn hb hcs hz hk h5⟩
theorem rows_tail {w : World} {A : Addr} {x : List ByteArray} {t : List (List ByteArray)} (h : RowsAt w (some A) (x :: t)) : RowsAt w (some ⟨A.block, A.off + 1, none⟩) t := by
  show RowsAt w (some (A.add 1)) t
  rcases h with h | ⟨A', hA, hb, hc⟩
  · cases h
  cases hA
  refine .inr ⟨_, rfl, by rw [add_block]; exact hb, fun i r hr => ?_⟩
  obtain ⟨ro, c, h1, h2⟩ := hc (i + 1) r (by simpa using hr)
  exact ⟨ro, c, by rw [Addr.add_add, Nat.add_comm 1 i]; exact h1, h2⟩

set_option maxRecDepth 100000 in
set_option maxHeartbeats 4000000 in
theorem of_nil (ao : Option Addr) (cap : Nat) (w : World) : Calls Try.prog 27 #[.slice ao 0 cap] w (OfPost [] w) := by
  have HB := Lib.hid (one_below w (.cells #[.slice none 0 0, .slice none 0 0] 25))
  go_enter Try.func27, Try.ntmps27
  go_wp2_with fail
  refine bodyPost_ret (v := .tuple #[.agg #[.slice none 0 0, .slice none 0 0], .int .i64 8]) (by simp [results, Try.results27, go_sem]) rfl ?_
  exact ⟨none, 0, none, 0, rfl, .inl rfl, .inl rfl, HB.out⟩

set_option maxRecDepth 100000 in
set_option maxHeartbeats 800000 in
theorem of_more (A : Addr) (cap : Nat) (x : List ByteArray) (t : List (List ByteArray)) (w : World) (hcap : t.length + 1 ≤ cap) (hne : ¬ cap = 1) (hn : x.length ≤ 1099511627776) (hs : ∀ c ∈ x, c.size ≤ 281474976710656)
    (hn2 : t.length ≤ 1099511627776) (hs2 : ∀ r ∈ t, r.length ≤ 1099511627776 ∧ ∀ c ∈ r, c.size ≤ 281474976710656) (hsum : sumT (allT x t) ≤ 1152921504606846976) (hR : RowsAt w (some A) (x :: t)) :
    Calls Try.prog 27 #[.slice (some A) (t.length + 1) cap] w (OfPost (x :: t) w) := by
  obtain ⟨W, HW⟩ : ∃ W, Hid (W = w.alloc (.cells #[.slice none 0 0, .slice none 0 0] 25)) := ⟨_, Lib.hid rfl⟩
  have hB : Below w.heap.size w W := by rw [HW.out]; exact one_below _ _
  have hN : W.heap[w.heap.size]? = some (.cells #[.slice none 0 0, .slice none 0 0] 25 (0, 0)) := by rw [HW.out]; exact World.alloc_heap_new w _
  have hRW := hR.kept hB
  obtain ⟨xo, xc, hx0, hxs⟩ : ∃ xo xc, W.cell? A = some (.slice xo x.length xc) ∧ StrRow W xo x := by
    rcases hRW with h | ⟨A', hA, hb, hc⟩
    · cases h
    cases hA
    obtain ⟨ro, c, h1, h2⟩ := hc 0 x rfl
    rw [add0] at h1
    exact ⟨ro, c, h1, h2⟩
  have hAb : A.block < w.heap.size := by
    rcases hR with h | ⟨A', hA, hb, hc⟩
    · cases h
    cases hA; exact hb
  have htt := rows_tail hRW
  have C := Lib.hid (check_any xo xc x (some ⟨A.block, A.off + 1, none⟩) (cap - 1) t W.drew hn hn2 (fun r hr => (hs2 r hr).1) hxs htt (fun c hc => by have := hs c hc; unfold maxLen; omega) hsum)
  have CP := Lib.hid (fun W' (h : Below W.heap.size W W') => put_any xo xc x (some ⟨A.block, A.off + 1, none⟩) (cap - 1) t W' hn hs (hxs.kept h) hn2 hs2 (htt.kept h))
  clear hR hRW htt hs hs2 hsum hxs
  have hb0 : ((t.length : Int) + 1 == 0) = false := by rw [beq_eq_false_iff_ne]; omega
  have q1 : (0 : Int) ≤ (t.length : Int) + 1 := by omega
  have q2 : (1 : Int) ≤ (t.length : Int) + 1 := by omega
  have q3 : (t.length : Int) + 1 ≤ (cap : Int) := by omega
  have HN := Lib.hid hN
  have HB := Lib.hid hB
  clear hN hB
  have E0 := Lib.hid (show ofErr (x :: t) = checkI x t from rfl)
  obtain ⟨er, HE⟩ : ∃ er, Hid (er = checkI x t) := ⟨_, Lib.hid rfl⟩
  rw [← HE.out] at C E0
  have HZ : Hid (¬ er = 0 → ofHead (x :: t) = [] ∧ ofRows (x :: t) = []) := Lib.hid (fun h => by rw [HE.out] at h; simp [ofHead, ofRows, h])
  have HO : Hid (er = 0 → ofHead (x :: t) = x ∧ ofRows (x :: t) = t) := Lib.hid (fun h => by rw [HE.out] at h; simp [ofHead, ofRows, h])
  unfold OfPost
  rw [E0.out]
  generalize ofHead (x :: t) = oh at HZ HO ⊢
  generalize ofRows (x :: t) = orr at HZ HO ⊢
  clear HE E0
  go_enter Try.func27, Try.ntmps27
  go_wp2_with fail
  rw [← HW.out]
  go_upto_region 3 with fail
  go_cut [4] from 9 to 15 (fun e wc => e = .int .i64 er ∧ Hid (Below W.heap.size W wc))
  case first =>
    go_region_with (go_at_call 11; (with_reducible refine C.out.mono ?_); rintro e w2 ⟨rfl, b2⟩; have B2 := Lib.hid ((Below.drew (Below.refl _ W)).trans b2); clear b2)
    all_goals (go_wp2_with fail; go_meet)
    all_goals exact ⟨rfl, B2⟩
  case rest =>
    obtain ⟨rfl, HBc⟩ := hcut
    rename World => wc
    have hz := (HBc.out.block _ (lt_of_heap HN.out)).trans HN.out
    have z0 : wc.cell? ⟨w.heap.size, 0, none⟩ = some (.slice none 0 0) := (Lib.cell_of_heap hz 0).trans rfl
    have z1 : wc.cell? ⟨w.heap.size, 1, none⟩ = some (.slice none 0 0) := (Lib.cell_of_heap hz 1).trans rfl
    have f0 : wc.frozen? ⟨w.heap.size, 0, none⟩ = false := Lib.frozen_of_heap hz 0
    have f1 : wc.frozen? ⟨w.heap.size, 1, none⟩ = false := Lib.frozen_of_heap hz 1
    have lz := lt_of_heap hz
    have HZz := Lib.hid hz
    clear C hz
    by_cases he : er = 0
    · have hb : (er != 0) = false := by simp [he]
      obtain ⟨h1, h2⟩ := HO.out he
      subst h1 h2
      have HEr := Lib.hid he
      clear he HZ HO
      have hxw := (HBc.out.cell (p := A) (by have := HB.out.size; omega)).trans hx0
      have PP := Lib.hid (CP.out wc.drew (Below.drew HBc.out))
      clear CP
      go_wp2_with fail
      go_region_with (go_at_call 35; (with_reducible refine PP.out.mono ?_); rintro e w2 ⟨g, h, rfl, hH, hR, ⟨vs, hv⟩, b2, hg⟩; have HQ := Lib.hid (And.intro hH (And.intro hR (And.intro (hv.lt h rfl).1 b2))); have k2 := (b2.block w.heap.size lz).trans HZz.out; have k0 : w2.cell? ⟨w.heap.size, 0, none⟩ = some (.slice none 0 0) := (Lib.cell_of_heap k2 0).trans rfl; have k1 : w2.cell? ⟨w.heap.size, 1, none⟩ = some (.slice none 0 0) := (Lib.cell_of_heap k2 1).trans rfl; have g0 : w2.frozen? ⟨w.heap.size, 0, none⟩ = false := Lib.frozen_of_heap k2 0; have g1 : w2.frozen? ⟨w.heap.size, 1, none⟩ = false := Lib.frozen_of_heap k2 1; have HK2 := Lib.hid k2; clear hH hR hv b2 hg k2)
      all_goals (go_wp2_with fail)
      all_goals
        obtain ⟨q1, q2, q3, q4⟩ := HQ.out
        refine bodyPost_ret (v := .tuple #[.agg #[.slice (some ⟨g, 0, none⟩) oh.length oh.length, .slice (some ⟨h, 0, none⟩) orr.length orr.length], .int .i64 er]) (by simp [results, Try.results27, go_sem, k0, k1, HEr.out]) rfl ?_
        have hk : ∀ u v k, k ≠ w.heap.size → ((w2.setCell ⟨w.heap.size, 0, none⟩ u).setCell ⟨w.heap.size, 1, none⟩ v).heap[k]? = w2.heap[k]? := fun u v k hk => (heap_setCell_other _ ⟨w.heap.size, 1, none⟩ k v hk).trans (heap_setCell_other _ ⟨w.heap.size, 0, none⟩ k u hk)
        have hno : ∀ (j : Nat) s, (#[Value.slice none 0 0, Value.slice none 0 0] : Array Value)[j]? ≠ some (.string s) := fun j s e => by
          match j, e with
          | 0, e => simp at e
          | 1, e => simp at e
        refine ⟨_, _, _, _, rfl, str_turn HK2.out hno (by simp) (hk _ _) q1, rows_turn HK2.out hno (by simp) (hk _ _) ?_ q2, ?_⟩
        · have : w.heap.size < wc.heap.size := lz
          show h ≠ w.heap.size
          have q3' : wc.heap.size ≤ h := q3
          omega
        · exact (((below_up HB.out HBc.out).trans ((Below.drew (Below.refl _ wc)).trans q4 |>.mono (show w.heap.size ≤ wc.heap.size by omega))).setCell (p := ⟨w.heap.size, 0, none⟩) (Nat.le_refl _) _).setCell (p := ⟨w.heap.size, 1, none⟩) (Nat.le_refl _) _
    · have hb : (er != 0) = true := by simp [he]
      obtain ⟨h1, h2⟩ := HZ.out he
      subst h1 h2
      have HBW := Lib.hid (below_up HB.out HBc.out)
      clear he HZ HO CP
      go_wp2_with fail
      refine bodyPost_ret (v := .tuple #[.agg #[.slice none 0 0, .slice none 0 0], .int .i64 er]) (by simp [results, Try.results27, go_sem, z0, z1]) rfl ?_
      exact ⟨none, 0, none, 0, rfl, .inl rfl, .inl rfl, (HBW.out.setCell (p := ⟨w.heap.size, 0, none⟩) (Nat.le_refl _) _).setCell (p := ⟨w.heap.size, 1, none⟩) (Nat.le_refl _) _⟩

set_option maxRecDepth 100000 in
set_option maxHeartbeats 800000 in
theorem of_one (A : Addr) (x : List ByteArray) (w : World) (hn : x.length ≤ 1099511627776) (hs : ∀ c ∈ x, c.size ≤ 281474976710656) (hsum : sumT (allT x []) ≤ 1152921504606846976) (hR : RowsAt w (some A) [x]) :
    Calls Try.prog 27 #[.slice (some A) 1 1] w (OfPost [x] w) := by
  obtain ⟨W, HW⟩ : ∃ W, Hid (W = w.alloc (.cells #[.slice none 0 0, .slice none 0 0] 25)) := ⟨_, Lib.hid rfl⟩
  have hB : Below w.heap.size w W := by rw [HW.out]; exact one_below _ _
  have hN : W.heap[w.heap.size]? = some (.cells #[.slice none 0 0, .slice none 0 0] 25 (0, 0)) := by rw [HW.out]; exact World.alloc_heap_new w _
  have hRW := hR.kept hB
  obtain ⟨xo, xc, hx0, hxs⟩ : ∃ xo xc, W.cell? A = some (.slice xo x.length xc) ∧ StrRow W xo x := by
    rcases hRW with h | ⟨A', hA, hb, hc⟩
    · cases h
    cases hA
    obtain ⟨ro, c, h1, h2⟩ := hc 0 x rfl
    rw [add0] at h1
    exact ⟨ro, c, h1, h2⟩
  have hAb : A.block < w.heap.size := by
    rcases hR with h | ⟨A', hA, hb, hc⟩
    · cases h
    cases hA; exact hb
  have htt : RowsAt W (some A) ([] : List (List ByteArray)) := .inl rfl
  have hn2 : ([] : List (List ByteArray)).length ≤ 1099511627776 := by simp
  have hs2 : ∀ r ∈ ([] : List (List ByteArray)), r.length ≤ 1099511627776 ∧ ∀ c ∈ r, c.size ≤ 281474976710656 := fun r hr => by cases hr
  have C := Lib.hid (check_any xo xc x (some A) 0 [] W.drew hn hn2 (fun r hr => (hs2 r hr).1) hxs htt (fun c hc => by have := hs c hc; unfold maxLen; omega) hsum)
  have CP := Lib.hid (fun W' (h : Below W.heap.size W W') => put_any xo xc x (some A) 0 [] W' hn hs (hxs.kept h) hn2 hs2 (htt.kept h))
  simp only [List.length_nil] at C CP
  clear hR hRW htt hs hs2 hsum hxs
  have HN := Lib.hid hN
  have HB := Lib.hid hB
  clear hN hB
  have E0 := Lib.hid (show ofErr (x :: []) = checkI x [] from rfl)
  obtain ⟨er, HE⟩ : ∃ er, Hid (er = checkI x []) := ⟨_, Lib.hid rfl⟩
  rw [← HE.out] at C E0
  have HZ : Hid (¬ er = 0 → ofHead (x :: []) = [] ∧ ofRows (x :: []) = []) := Lib.hid (fun h => by rw [HE.out] at h; simp [ofHead, ofRows, h])
  have HO : Hid (er = 0 → ofHead (x :: []) = x ∧ ofRows (x :: []) = []) := Lib.hid (fun h => by rw [HE.out] at h; simp [ofHead, ofRows, h])
  unfold OfPost
  rw [E0.out]
  generalize ofHead (x :: []) = oh at HZ HO ⊢
  generalize ofRows (x :: []) = orr at HZ HO ⊢
  clear HE E0
  go_enter Try.func27, Try.ntmps27
  go_wp2_with fail
  rw [← HW.out]
  go_upto_region 3 with fail
  go_cut [4] from 9 to 15 (fun e wc => e = .int .i64 er ∧ Hid (Below W.heap.size W wc))
  case first =>
    go_region_with (go_at_call 11; (with_reducible refine C.out.mono ?_); rintro e w2 ⟨rfl, b2⟩; have B2 := Lib.hid ((Below.drew (Below.refl _ W)).trans b2); clear b2)
    all_goals (go_wp2_with fail; go_meet)
    all_goals exact ⟨rfl, B2⟩
  case rest =>
    obtain ⟨rfl, HBc⟩ := hcut
    rename World => wc
    have hz := (HBc.out.block _ (lt_of_heap HN.out)).trans HN.out
    have z0 : wc.cell? ⟨w.heap.size, 0, none⟩ = some (.slice none 0 0) := (Lib.cell_of_heap hz 0).trans rfl
    have z1 : wc.cell? ⟨w.heap.size, 1, none⟩ = some (.slice none 0 0) := (Lib.cell_of_heap hz 1).trans rfl
    have f0 : wc.frozen? ⟨w.heap.size, 0, none⟩ = false := Lib.frozen_of_heap hz 0
    have f1 : wc.frozen? ⟨w.heap.size, 1, none⟩ = false := Lib.frozen_of_heap hz 1
    have lz := lt_of_heap hz
    have HZz := Lib.hid hz
    clear C hz
    by_cases he : er = 0
    · have hb : (er != 0) = false := by simp [he]
      obtain ⟨h1, h2⟩ := HO.out he
      subst h1 h2
      have HEr := Lib.hid he
      clear he HZ HO
      have hxw := (HBc.out.cell (p := A) (by have := HB.out.size; omega)).trans hx0
      have PP := Lib.hid (CP.out wc.drew (Below.drew HBc.out))
      clear CP
      go_wp2_with fail
      go_region_with (go_at_call 35; (with_reducible refine PP.out.mono ?_); rintro e w2 ⟨g, h, rfl, hH, hR, ⟨vs, hv⟩, b2, hg⟩; have HQ := Lib.hid (And.intro hH (And.intro hR (And.intro (hv.lt h rfl).1 b2))); have k2 := (b2.block w.heap.size lz).trans HZz.out; have k0 : w2.cell? ⟨w.heap.size, 0, none⟩ = some (.slice none 0 0) := (Lib.cell_of_heap k2 0).trans rfl; have k1 : w2.cell? ⟨w.heap.size, 1, none⟩ = some (.slice none 0 0) := (Lib.cell_of_heap k2 1).trans rfl; have g0 : w2.frozen? ⟨w.heap.size, 0, none⟩ = false := Lib.frozen_of_heap k2 0; have g1 : w2.frozen? ⟨w.heap.size, 1, none⟩ = false := Lib.frozen_of_heap k2 1; have HK2 := Lib.hid k2; clear hH hR hv b2 hg k2)
      all_goals (go_wp2_with fail)
      all_goals
        obtain ⟨q1, q2, q3, q4⟩ := HQ.out
        refine bodyPost_ret (v := .tuple #[.agg #[.slice (some ⟨g, 0, none⟩) oh.length oh.length, .slice (some ⟨h, 0, none⟩) 0 0], .int .i64 er]) (by simp [results, Try.results27, go_sem, k0, k1, HEr.out]) rfl ?_
        have hk : ∀ u v k, k ≠ w.heap.size → ((w2.setCell ⟨w.heap.size, 0, none⟩ u).setCell ⟨w.heap.size, 1, none⟩ v).heap[k]? = w2.heap[k]? := fun u v k hk => (heap_setCell_other _ ⟨w.heap.size, 1, none⟩ k v hk).trans (heap_setCell_other _ ⟨w.heap.size, 0, none⟩ k u hk)
        have hno : ∀ (j : Nat) s, (#[Value.slice none 0 0, Value.slice none 0 0] : Array Value)[j]? ≠ some (.string s) := fun j s e => by
          match j, e with
          | 0, e => simp at e
          | 1, e => simp at e
        refine ⟨_, _, _, _, rfl, str_turn HK2.out hno (by simp) (hk _ _) q1, rows_turn HK2.out hno (by simp) (hk _ _) ?_ q2, ?_⟩
        · have : w.heap.size < wc.heap.size := lz
          show h ≠ w.heap.size
          have q3' : wc.heap.size ≤ h := q3
          omega
        · exact (((below_up HB.out HBc.out).trans ((Below.drew (Below.refl _ wc)).trans q4 |>.mono (show w.heap.size ≤ wc.heap.size by omega))).setCell (p := ⟨w.heap.size, 0, none⟩) (Nat.le_refl _) _).setCell (p := ⟨w.heap.size, 1, none⟩) (Nat.le_refl _) _
    · have hb : (er != 0) = true := by simp [he]
      obtain ⟨h1, h2⟩ := HZ.out he
      subst h1 h2
      have HBW := Lib.hid (below_up HB.out HBc.out)
      clear he HZ HO CP
      go_wp2_with fail
      refine bodyPost_ret (v := .tuple #[.agg #[.slice none 0 0, .slice none 0 0], .int .i64 er]) (by simp [results, Try.results27, go_sem, z0, z1]) rfl ?_
      exact ⟨none, 0, none, 0, rfl, .inl rfl, .inl rfl, (HBW.out.setCell (p := ⟨w.heap.size, 0, none⟩) (Nat.le_refl _) _).setCell (p := ⟨w.heap.size, 1, none⟩) (Nat.le_refl _) _⟩

end Go.Proofs.Ytgbmpcfnbdbpgaa
