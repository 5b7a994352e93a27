/-
  Texts of these rows' proofs, laid one behind the other: CSort, CCols.
  Conditions: those of each theorem.
-/
import Derived.WalkKit
import Derived.WalkMore
import Derived.Lib.Hide
import Derived.Sort.OwnSorted
import Derived.Shelf.SlSortCmp.NoneTotal
import Derived.Test.YtdenehnneloegaaGreatDoorProg
import Derived.Test.YtdenehnneloegaaGreatDoorPb26
import Derived.Test.YtdenehnneloegaaGreatDoorPb24
import Derived.Test.YtdenehnneloegaaGreatDoorPb5
import Derived.Deep.OwnRows
import Derived.IntWalk
import Derived.WalkArith
import Derived.OwnWalk
import Derived.Laws.OwnMore
import Derived.Deep.Cut
import Derived.Test.YtdenehnneloegaaGreatDoorPb25
import Derived.Test.YtdenehnneloegaaGreatDoorPb7
namespace Go.Proofs.YtdenehnneloegaaGreatDoor
open Go.RowKit Go.Shelf Go.Sort
set_option linter.unusedVariables false
/-- a pair, told by its B -/
def encB (f : Int → Int) (b : Int) : List Value := [.int .i64 (f b), .int .i64 b]
theorem flat_cellsB (f : Int → Int) (l : PL) (hf : ∀ p ∈ l, f p.2 = p.1) : flatK (encB f) 2 (l.map Prod.snd).toArray = (cellsP l).toArray := by
  refine ext_get! (by simp [cellsP_length]) (fun t ht => ?_)
  have ht' : t < l.length * 2 := by simpa using ht
  rw [get_flatK _ _ _ t (by simpa using ht')]
  obtain ⟨p, hp⟩ : ∃ p, l[t / 2]? = some p := ⟨_, List.getElem?_eq_getElem (by omega)⟩
  have e1 : (l.map Prod.snd).toArray[t / 2]! = p.2 := by
    have : (l.map Prod.snd)[t / 2]? = some p.2 := by rw [List.getElem?_map, hp]; rfl
    simp [Array.getElem!_eq_getD, Array.getD_eq_getD_getElem?, hp]
  obtain ⟨c1, c2⟩ := cellsP_at l (t / 2) p hp
  have e2 : (cellsP l).toArray[t]! = ((cellsP l)[t]?).getD default := by simp [Array.getElem!_eq_getD, Array.getD_eq_getD_getElem?]
  have e3 := hf p (List.mem_of_getElem? hp)
  rw [e1, e2]
  have hm : t % 2 = 0 ∨ t % 2 = 1 := by omega
  rcases hm with e | e
  · rw [show t / 2 * 2 = t from by omega] at c1; rw [c1, e]; simp [encB, e3]
  · rw [show t / 2 * 2 + 1 = t from by omega] at c2; rw [c2, e]; simp [encB]
theorem OwnL.holdsB {w : World} {base g n cap : Nat} {l : PL} (f : Int → Int) (hf : ∀ p ∈ l, f p.2 = p.1) (hl : l.length = n) (h : OwnL w base (.slice (some ⟨g, 0, none⟩) n cap) l) : HoldsK (encB f) 2 w g 0 (l.map Prod.snd).toArray := by
  unfold OwnL at h
  subst hl
  unfold HoldsK
  rw [flat_cellsB f l hf]
  intro j hj
  have hj' : j < (cellsP l).length := by simpa using hj
  rw [Nat.zero_add]
  refine ⟨?_, h.frozenAt j⟩
  have := h.cellAt j (by rw [cellsP_length] at hj'; exact hj')
  rw [this]
  simp [List.getElem?_eq_getElem hj', Array.getElem!_eq_getD, Array.getD_eq_getD_getElem?]
theorem OwnL.sortedB {w : World} {base g n cap k : Nat} {l m : PL} {os : Array Obj} (f : Int → Int) (hf : ∀ p ∈ m, f p.2 = p.1) (h : OwnL w base (.slice (some ⟨g, 0, none⟩) n cap) l) (hl : l.length = n) (hm : m.length = n) : OwnL (sortWorldK (encB f) 2 w g 0 k (m.map Prod.snd).toArray os) base (.slice (some ⟨g, 0, none⟩) n cap) m := by
  unfold OwnL at h ⊢
  unfold sortWorldK putRowK
  rw [flat_cellsB f m hf]
  rw [hl] at h
  rw [hm]
  rcases h.2 with ⟨h0, _⟩ | ⟨g', cap', cur, hv, hbase, hb, r1, r2, r3, r4⟩
  · cases h0
  · cases hv
    have hl : (cellsP m).length = n * 2 := by rw [cellsP_length, hm]
    refine ⟨hl, .inr ⟨g, cap, _, rfl, hbase, heap_sortedK _ hb, r1, r2, by simp [putCells, r3], ?_⟩⟩
    have := take_putCellsK cur (cellsP m).toArray (by rw [r3]; simp [hl]; omega)
    rw [List.size_toArray, hl] at this
    exact this
theorem ltB : ltOf cmpI = fun i j => decide (i < j) := by
  funext i j
  show decide (cmpI i j < 0) = _
  exact cmpI_neg i j
theorem swoB : SWO (ltOf cmpI) where
  irrefl x := by rw [ltB]; simp
  trans x y z h1 h2 := by rw [ltB] at *; simp at *; omega
  ntrans x y z h1 h2 := by rw [ltB] at *; simp at *; omega
set_option maxRecDepth 100000 in
theorem byB_any (a b c d : Int) (w : World) :
    Calls Tryz.prog 124 #[.agg #[.int .i64 a, .int .i64 b], .agg #[.int .i64 c, .int .i64 d]] w fun e w' => e = .returned (.int .i64 (cmpI b d)) ∧ ∃ q os', w' = grow (w.drewN q) os' := by
  have C1 := Lib.hid (fun W => compare_any b d W)
  have HG : Hid (∃ q os', (w.alloc (.cells #[.int .i64 a, .int .i64 b] 45)).alloc (.cells #[.int .i64 c, .int .i64 d] 45) = grow (w.drewN q) os') := Lib.hid ⟨0, _, by rw [alloc_eq_grow, alloc_eq_grow, grow_grow]; rfl⟩
  generalize cmpI b d = r at C1 ⊢
  go_enter Tryz.func124, Tryz.ntmps124
  go_wp2_with fail
  refine (C1.out _).mono ?_; rintro e w1 ⟨rfl, rfl⟩
  go_wp2_with fail
  go_ret
  exact ⟨rfl, HG.out⟩
/-- the A of a B -/
def ofBC (l : PL) (b : Int) : Int := ((l.find? (fun p => p.2 == b)).map Prod.fst).getD 0
theorem ofB_isC (l : PL) (hn : (l.map Prod.snd).Nodup) : ∀ p ∈ l, ofBC l p.2 = p.1 := by
  induction l with
  | nil => intro p hp; cases hp
  | cons q l ih =>
    intro p hp
    rw [List.map_cons, List.nodup_cons] at hn
    unfold ofBC
    rw [List.find?_cons]
    rcases List.mem_cons.1 hp with rfl | hp
    · simp
    · have hne : ¬ q.2 = p.2 := fun e => hn.1 (List.mem_map.2 ⟨p, hp, e.symm⟩)
      have : (q.2 == p.2) = false := by simp [hne]
      rw [this]
      exact ih hn.2 p hp
theorem sortedB_is (L R : PL) (hp : R.Perm L) (hr : RiseB R) : (L.map Prod.snd).mergeSort (fun x y => decide (x ≤ y)) = R.map Prod.snd := by
  have h1 : ((L.map Prod.snd).mergeSort (fun x y => decide (x ≤ y))).Perm (R.map Prod.snd) := (List.mergeSort_perm _ _).trans (hp.map Prod.snd).symm
  have h2 := List.pairwise_mergeSort (le := fun x y : Int => decide (x ≤ y)) (fun a b c h k => by simp only [decide_eq_true_eq] at *; omega) (fun a b => by simp only [Bool.or_eq_true, decide_eq_true_eq]; omega) (L.map Prod.snd)
  have h3 : (R.map Prod.snd).Pairwise (fun x y => decide (x ≤ y) = true) := by
    rw [List.pairwise_map]
    exact hr.imp fun h => decide_eq_true (by omega)
  exact h1.eq_of_pairwise (fun a b _ _ h k => by simp only [decide_eq_true_eq] at *; omega) h2 h3
theorem rise_nodup (L R : PL) (hp : R.Perm L) (hr : RiseB R) : (L.map Prod.snd).Nodup := by
  refine (hp.map Prod.snd).nodup_iff.1 ?_
  rw [List.Nodup, List.pairwise_map]
  exact hr.imp fun h => by omega
theorem csort_any (base g n cap : Nat) (L R : PL) (w : World) (hn : n ≤ 1099511627776) (hl : L.length = n) (hp : R.Perm L) (hr : RiseB R) (hO : OwnL w base (.slice (some ⟨g, 0, none⟩) n cap) L) :
    Calls Tryz.prog 46 #[.slice (some ⟨g, 0, none⟩) n cap, .func (.func 124) #[] #[]] w fun e w' => e = .returned (.tuple #[]) ∧ OwnL w' base (.slice (some ⟨g, 0, none⟩) n cap) R ∧ w.grownBy w' (some g) := by
  have hnd := rise_nodup L R hp hr
  have hfL := ofB_isC L hnd
  have hfR : ∀ p ∈ R, ofBC L p.2 = p.1 := fun p h => hfL p (hp.mem_iff.1 h)
  have hc : CmpLays Tryz.prog 124 #[] (encB (ofBC L)) 2 cmpI g 0 (L.map Prod.snd).toArray.size w := fun m os dk _ x y => byB_any _ x _ y _
  have hsz : (L.map Prod.snd).toArray.size = n := by simp [hl]
  have h := AnyQ.slices_SortFunc_total laysFp 2 Tryz.isAgg45 Tryz.sizeOf45 (encB (ofBC L)) (fun _ => rfl) (fun x v hv => by simp [encB] at hv; rcases hv with rfl | rfl <;> rfl) cmpI swoB 124 #[] g 0 cap (L.map Prod.snd).toArray w (enters_of Tryz.func124 (by kernel_rfl) rfl) hc (hO.holdsB _ hfL hl) (World.ownsRow.lt hO g rfl).2 (by rw [hsz]; omega) (fun x y h k => by rw [ltB] at h k; simp at h k; omega)
  rw [hsz, ltB] at h
  refine h.mono ?_
  rintro e w' ⟨rfl, k, os, rfl⟩
  have e : (L.map Prod.snd).toArray.toList.mergeSort (fun x y => !decide (y < x)) = R.map Prod.snd := by
    rw [← sortedB_is L R hp hr]
    show (L.map Prod.snd).mergeSort _ = _
    congr 1
    funext x y
    by_cases h : y < x
    · rw [decide_eq_true h, decide_eq_false (by omega)]; rfl
    · rw [decide_eq_false h, decide_eq_true (by omega)]; rfl
  rw [e]
  exact ⟨rfl, hO.sortedB _ hfR hl (by rw [hp.length_eq, hl]), by unfold sortWorldK putRowK; exact grownBy_sortedK _⟩
set_option maxRecDepth 100000 in
set_option maxHeartbeats 2000000 in
theorem together_any (ao bo : Option Addr) (ca cb : Nat) (xs ys R : PL) (w : World) (hs : xs.length + ys.length ≤ 1073741824) (hx : PairsAt w ao xs) (hy : PairsAt w bo ys) (k1 : ao = none → ca = 0) (k2 : bo = none → cb = 0) (r1 : xs.length ≤ ca) (r2 : ys.length ≤ cb) (g : Nat)
    (hb : w.heap[g]? = some (.cells #[.slice ao xs.length ca, .slice bo ys.length cb] 26 (0, 0))) (hp : R.Perm (xs ++ ys)) (hr : RiseB R) :
    Calls Tryz.prog 70 #[.slice (some ⟨g, 0, none⟩) 2 2] w (PairsOut R w) := by
  have C1 := Lib.hid (concatP2 ao bo ca cb xs ys w hs hx hy k1 k2 r1 r2 g hb)
  have hlen : (xs ++ ys).length ≤ 1099511627776 := by rw [List.length_append]; omega
  have C2 := Lib.hid (fun base b n cap V (hl : (xs ++ ys).length = n) h => csort_any base b n cap (xs ++ ys) R V (by rw [← hl]; exact hlen) hl hp hr h)
  have C0 := Lib.hid (fun V => AnyF.slices_SortFunc_none laysFp none 0 (.func (.func 124) #[] #[]) V)
  have HRl := Lib.hid hp.length_eq
  clear hx hy hb hp hr hlen
  generalize xs ++ ys = L at C1 C2 HRl
  go_enter Tryz.func70, Tryz.ntmps70
  go_wp2_with fail
  refine C1.out.mono ?_; rintro e w1 ⟨v, rfl, hO, b1⟩
  have B1 := Lib.hid b1
  have HO := Lib.hid hO
  rcases hO.2 with ⟨rfl, h0⟩ | ⟨b, cap, cur, rfl, q1, q2, q3, q4, q5, q6⟩
  · have HE : Hid (PairsOut R w (.returned (.slice none 0 0)) w1) := Lib.hid (by
      have hR : R = [] := List.eq_nil_of_length_eq_zero (by rw [HRl.out]; exact h0)
      rw [hR]
      exact ⟨none, 0, rfl, .inl rfl, fun _ => rfl, Nat.le_refl _, B1.out⟩)
    clear b1 hO h0 C1 C2 HO
    go_wp2_with fail
    refine (C0.out _).mono ?_; rintro e w2 ⟨rfl, rfl⟩
    go_wp2_with fail
    go_ret
    exact HE.out
  · obtain ⟨n, hn⟩ : ∃ n, L.length = n := ⟨_, rfl⟩
    rw [hn] at HO ⊢
    have C3 := Lib.hid (C2.out _ _ _ _ _ hn HO.out)
    have HbB := Lib.hid q1
    clear b1 hO q1 q2 q3 q4 q5 q6 C1 C2 C0
    go_wp2_with fail
    refine C3.out.mono ?_; rintro e w2 ⟨rfl, hO2, hg⟩
    have HE : Hid (PairsOut R w (.returned (.slice (some ⟨b, 0, none⟩) n cap)) w2) := Lib.hid (by
      refine OwnL.end_ hO2 (B1.out.grown hg B1.out.size (fun k h => by cases h; exact HbB.out))
      )
    clear hO2 hg C3 HO
    go_wp2_with fail
    go_ret
    exact HE.out
end Go.Proofs.YtdenehnneloegaaGreatDoor
namespace Go.Proofs.YtdenehnneloegaaGreatDoor
open Go.RowKit Go.Shelf
set_option linter.unusedVariables false
/-- a list of texts as a value -/
def ColV (w : World) (L : List ByteArray) (v : Value) : Prop := ∃ (po : Option Addr) (pc : Cap po L.length), v = .slice po L.length pc.1 ∧ StrRow w po L
theorem ColV.kept {w w' : World} {L : List ByteArray} {v : Value} (h : ColV w L v) (hB : Below w.heap.size w w') : ColV w' L v := by
  obtain ⟨po, pc, h1, h2⟩ := h
  exact ⟨po, pc, h1, h2.kept hB⟩
/-- values of which the first ones are there -/
def madeC (vs : List Value) (n : Nat) : List Value := vs ++ List.replicate (n - vs.length) (.slice none 0 0)
theorem madeC_next (vs : List Value) (n : Nat) (v : Value) (h : vs.length < n) : (madeC vs n).set vs.length v = madeC (vs ++ [v]) n := by
  unfold madeC
  rw [List.set_append_right _ _ (Nat.le_refl _), Nat.sub_self, List.length_append]
  obtain ⟨m, hm⟩ : ∃ m, n - vs.length = m + 1 := ⟨n - vs.length - 1, by omega⟩
  rw [hm, show n - (vs.length + [v].length) = m from by simp; omega, List.replicate_succ]
  simp
theorem madeC_zero (n : Nat) : madeC [] n = List.replicate n (.slice none 0 0) := by simp [madeC]
theorem madeC_all (vs : List Value) (n : Nat) (h : vs.length = n) : madeC vs n = vs := by simp [madeC, h]
theorem madeC_len (vs : List Value) (n : Nat) (h : vs.length ≤ n) : (madeC vs n).length = n := by simp [madeC]; omega
theorem madeC_slices (w : World) (vs : List Value) (n : Nat) (h : ∀ v ∈ vs, ∃ L, ColV w L v) : ∀ v ∈ madeC vs n, ∀ s, v ≠ .string s := by
  intro v hv s e
  unfold madeC at hv
  rcases List.mem_append.1 hv with hv | hv
  · obtain ⟨L, po, pc, h1, _⟩ := h v hv
    rw [h1] at e; cases e
  · rw [(List.mem_replicate.1 hv).2] at e; cases e
/-- where a made row of lists turns, rows of texts stay -/
theorem ColV.put {w : World} {base g n k : Nat} {T : TypeId} {xs : List Value} {u : Value} (hO : w.ownsRow base T 1 (.slice (some ⟨g, 0, none⟩) n n) n xs) (hx : ∀ v ∈ xs, ∀ s, v ≠ .string s) {L : List ByteArray} {v : Value} (h : ColV w L v) : ColV (w.setCell ⟨g, k, none⟩ u) L v := by
  obtain ⟨po, pc, h1, h2⟩ := h
  refine ⟨po, pc, h1, ?_⟩
  rcases hO.2 with ⟨h0, _⟩ | ⟨g', cap, cur, hv, _, hb, q1, q2, q3, q4⟩
  · cases h0
  · cases hv
    refine str_turn hb (fun j s hj => ?_) (by simp) (fun i hi => heap_setCell_other _ _ _ _ hi) h2
    have hj' : cur.toList[j]? = some (.string s) := by rw [Array.getElem?_toList]; exact hj
    have hl : cur.toList.length ≤ n * 1 := by simp; omega
    rw [List.take_of_length_le hl] at q4
    rw [q4] at hj'
    exact hx _ (List.mem_of_getElem? hj') s rfl
set_option maxRecDepth 100000 in
set_option maxHeartbeats 1000000 in
theorem columns_any (ho : Option Addr) (hc : Nat) (hd : List ByteArray) (ro : Option Addr) (rc : Nat) (rs : List (List ByteArray)) (co : Option Addr) (cc : Nat) (cols : List Int) (w : World) (hcl : cols.length ≤ 1073741824) (hT : TabIn w ho hc hd ro rc rs) (hI : IntsAt w co cols) :
    Calls Tryz.prog 179 #[.agg #[.slice ho hd.length hc, .slice ro rs.length rc], .slice co cols.length cc] w fun e w' => ∃ ko, e = .returned (.slice ko cols.length cols.length) ∧ RowsAt w' ko (cols.map (columnT hd rs)) ∧ (∀ A, ko = some A → w.heap.size ≤ A.block) ∧ Below w.heap.size w w' := by
  have hinfo : (Tryz.prog.info? 22).map (fun i => (i.zero, i.size, i.bytes)) = some (some (.slice none 0 0), 1, 24) := by kernel_rfl
  obtain ⟨i0, hi, hz0, hz1, hz2⟩ := info_parts2 hinfo
  have HI := Lib.hid hi
  have hm : cols.length ≤ maxLen := by unfold maxLen; omega
  obtain ⟨W, HW⟩ : ∃ W, Hid (W = w.alloc (TabO ho hd.length hc ro rs.length rc)) := ⟨_, Lib.hid rfl⟩
  have HNew := Lib.hid (World.alloc_heap_new w (TabO ho hd.length hc ro rs.length rc))
  rw [← HW.out] at HNew
  have HB0 := Lib.hid (one_below w (TabO ho hd.length hc ro rs.length rc))
  rw [← HW.out] at HB0
  have CP := Lib.hid (fun (c : Int) V (h : Below W.heap.size W V) => tcolumn_any ho hc hd ro rc rs c V (by have := hT.hl; omega) (by have := hT.rl; omega) (fun r hr => ⟨by have := hT.el r hr; omega, fun c hc => by have := hT.size c (by simp only [allT, List.mem_append, List.mem_flatten]; exact .inr ⟨r, hr, hc⟩); omega⟩) (hT.rows.kept (below_up HB0.out h)))
  have HIn := Lib.hid (hI.kept HB0.out)
  have hsz : W.heap.size = w.heap.size + 1 := by rw [HW.out]; simp
  have HSz := Lib.hid hsz
  clear hi hinfo hI hT hsz
  obtain ⟨KL, hKL⟩ : ∃ KL : Int → List ByteArray, Hid (KL = columnT hd rs) := ⟨_, Lib.hid rfl⟩
  rw [← hKL.out] at CP ⊢
  go_enter Tryz.func179, Tryz.ntmps179
  go_upto_region 1 with fail
  rw [show w.alloc (Obj.cells #[Value.slice ho hd.length hc, Value.slice ro rs.length rc] 25) = W from HW.out.symm]
  go_wp2_with (at_make; refine wpList_make_full _ rfl _ _ 23 rfl W.heap.size 22 i0 (.slice none 0 0) 1 Tryz.underlying23 HI.out hz0 hz1 .i64 .i64 (cols.length : Int) (cols.length : Int) cols.length rfl rfl rfl rfl (by rw [hz2]; omega) hm (Nat.le_refl _) ?_; intro w2 hown hgrow)
  have HB2 : Hid (Below W.heap.size W w2) := Lib.hid ((Below.refl _ W).grown hgrow (Nat.le_refl _) (fun k h => by cases h))
  have HO : Hid (w2.ownsRow W.heap.size 22 1 (.slice (some ⟨W.heap.size, 0, none⟩) cols.length cols.length) cols.length (madeC [] cols.length)) := Lib.hid (by
    rw [madeC_zero]; rw [Nat.mul_one] at hown; rw [← toList_madeCells_one]; exact hown)
  obtain ⟨g, hg⟩ : ∃ g, g = W.heap.size := ⟨_, rfl⟩
  rw [← hg] at HO ⊢
  have HG := Lib.hid hg
  clear hown hgrow hg
  go_wp2_with fail
  go_loopw [13] (fun i wr => ∃ (k : Nat) (vs : List Value), k ≤ cols.length ∧ i = .int .i64 k ∧ Hid (vs.length = k) ∧ Hid (Below W.heap.size W wr) ∧ Hid (wr.ownsRow g 22 1 (.slice (some ⟨g, 0, none⟩) cols.length cols.length) cols.length (madeC vs cols.length)) ∧ Hid (∀ (i : Nat) v c, vs[i]? = some v → cols[i]? = some c → ColV wr (KL c) v)) (fun i _ => cols.length - (intOf i).toNat)
  case atStart => exact ⟨0, [], Nat.zero_le _, rfl, Lib.hid rfl, HB2, HO, Lib.hid (fun i v c h => by simp at h)⟩
  case round =>
    obtain ⟨k, vs, hk, rfl, HVl, HB, HO, HP⟩ := hrel
    by_cases hlt : k < cols.length
    · obtain ⟨c, hcc⟩ : ∃ c, cols[k]? = some c := ⟨_, List.getElem?_eq_getElem hlt⟩
      have C1 := Lib.hid (CP.out c wr HB.out)
      rcases (HIn.out.kept HB.out) with h0 | ⟨A, rfl, hA, hcell⟩
      · rw [h0] at hlt; simp at hlt
      have ci := hcell k c hcc
      have HCc := Lib.hid hcc
      obtain ⟨c0, c1⟩ := tabs ((HB.out.block _ (lt_of_heap HNew.out)).trans HNew.out)
      clear hcc hcell
      go_wp2_with fail
      refine C1.out.mono ?_; rintro e w3 ⟨po, rfl, hpa, b3⟩
      have hpc : (KL c).length ≤ (KL c).length ∧ (po = none → (KL c).length = 0) := ⟨Nat.le_refl _, fun e => by
        rcases hpa with h | ⟨A, h, _⟩
        · rw [h]; rfl
        · rw [e] at h; cases h⟩
      have HV : Hid (ColV w3 (KL c) (.slice po (KL c).length (KL c).length)) := Lib.hid ⟨po, ⟨_, hpc⟩, rfl, hpa⟩
      have HB3 := Lib.hid (below_up HB.out b3)
      have HO3 := Lib.hid (ownsRow_below HO.out b3)
      have HP3 : Hid (∀ (i : Nat) v c, vs[i]? = some v → cols[i]? = some c → ColV w3 (KL c) v) := Lib.hid (fun i v c h1 h2 => (HP.out i v c h1 h2).kept b3)
      clear hpa b3 c0 c1 hpc C1 ci
      have hml : (madeC vs cols.length).length = cols.length := madeC_len vs _ (by rw [HVl.out]; omega)
      have hno : ∀ v ∈ madeC vs cols.length, ∀ s, v ≠ .string s := madeC_slices w3 vs _ (fun v hv => by
        obtain ⟨i, hi⟩ := List.mem_iff_getElem?.1 hv
        have hil := (List.getElem?_eq_some_iff.1 hi).1
        rw [HVl.out] at hil
        obtain ⟨c', hc'⟩ : ∃ c', cols[i]? = some c' := ⟨_, List.getElem?_eq_getElem (by omega)⟩
        exact ⟨_, HP3.out i v c' hi hc'⟩)
      have hcell : w3.cell? ⟨g, k, none⟩ = some ((madeC vs cols.length)[k]'(by omega)) := by
        rw [HO3.out.cellAt k (by omega), List.getElem?_eq_getElem]
      have hfr : w3.frozen? ⟨g, k, none⟩ = false := HO3.out.frozenAt k
      generalize (madeC vs cols.length)[k]'(by omega) = old at hcell
      obtain ⟨v, hv⟩ : ∃ v, v = Value.slice po (KL c).length (KL c).length := ⟨_, rfl⟩
      have HO4 := Lib.hid (HO3.out.stored k v).1
      rw [show (madeC vs cols.length).set k v = madeC (vs ++ [v]) cols.length from by have := madeC_next vs cols.length v (by rw [HVl.out]; omega); rwa [HVl.out] at this] at HO4
      have HB4 := Lib.hid (HB3.out.setCell (p := ⟨g, k, none⟩) (by rw [HG.out]; exact Nat.le_refl _) v)
      have HP4 : Hid (∀ (i : Nat) u c, (vs ++ [v])[i]? = some u → cols[i]? = some c → ColV (w3.setCell ⟨g, k, none⟩ v) (KL c) u) := Lib.hid (fun i u c' h1 h2 => by
        rw [List.getElem?_append] at h1
        split at h1
        · exact (HP3.out i u c' h1 h2).put HO3.out hno
        · rename_i hge
          have hle : i < (vs ++ [v]).length := by
            have := (List.getElem?_eq_some_iff.1 h1).1
            simp at this ⊢; omega
          have hik : i = k := by rw [HVl.out] at hge; simp at hle; rw [HVl.out] at hle; omega
          subst hik
          rw [HVl.out, Nat.sub_self] at h1
          simp at h1; subst h1
          rw [HCc.out] at h2; cases h2
          rw [← hv] at HV
          exact HV.out.put HO3.out hno)
      have HVl4 : Hid ((vs ++ [v]).length = k + 1) := Lib.hid (by simp [HVl.out])
      subst hv
      clear hml HP HP3 HO HO3 HB HB3 HVl hno
      go_wp2_with fail
      go_roundw
      case rel => exact ⟨k + 1, _, by omega, by go_num, HVl4, HB4, HO4, HP4⟩
      case measure => simp [intOf]; omega
    · obtain rfl : k = cols.length := by omega
      have HE : Hid (RowsAt wr (some ⟨g, 0, none⟩) (cols.map KL)) := Lib.hid (by
        refine .inr ⟨⟨g, 0, none⟩, rfl, (HO.out.lt g rfl).2, fun i L hL => ?_⟩
        have hi : i < cols.length := by have := (List.getElem?_eq_some_iff.1 hL).1; simpa using this
        rw [List.getElem?_map] at hL
        obtain ⟨c, hc, rfl⟩ := Option.map_eq_some_iff.1 hL
        obtain ⟨v, hv⟩ : ∃ v, vs[i]? = some v := ⟨_, List.getElem?_eq_getElem (by rw [HVl.out]; exact hi)⟩
        obtain ⟨po, pc, rfl, h2⟩ := HP.out i v c hv hc
        refine ⟨po, pc, ?_, h2⟩
        have e : (⟨g, 0, none⟩ : Addr).add i = ⟨g, i, none⟩ := by unfold Addr.add; split <;> simp_all
        rw [e, HO.out.cellAt i (by rw [Nat.mul_one]; exact hi), madeC_all vs _ HVl.out]; exact hv)
      clear HO HP
      go_wp2_with fail
      go_ret
      exact ⟨_, rfl, HE.out, fun A e => by cases e; rw [HG.out, HSz.out]; exact Nat.le_succ _, below_up HB0.out HB.out⟩
end Go.Proofs.YtdenehnneloegaaGreatDoor
