/-
  Pairs put together, in order of their Bs: what the program makes.
  Conditions: two lists of at most 2^30 pairs in all; no B stands twice.
-/
import Derived.WalkKit
import Derived.WalkMore
import Derived.Lib.Hide
import Derived.Sort.OwnSorted
import Derived.Shelf.SlSortCmp.NoneTotal
import Derived.Test.YtigijgcldgbokaaGreatProg
import Derived.Test.YtigijgcldgbokaaGreatCShelf
import Derived.Test.YtigijgcldgbokaaGreatGSort
import Derived.Test.YtigijgcldgbokaaGreatPkA
import Derived.Test.YtigijgcldgbokaaGreatCCat
namespace Go.Proofs.YtigijgcldgbokaaGreat
open Go.RowKit Go.Shelf Go.Sort
set_option linter.unusedVariables false

/-- a pair, told by its B -/
def encB (f : Int → Int) (b : Int) : List Value := [.int .i64 (f b), .int .i64 b]
theorem flat_cellsB (f : Int → Int) (l : PL) (hf : ∀ p ∈ l, f p.2 = p.1) : flatK (encB f) 2 (l.map Prod.snd).toArray = (cellsP l).toArray := by
  refine ext_get! (by simp [cellsP_length]) (fun t ht => ?_)
  have ht' : t < l.length * 2 := by simpa using ht
  rw [get_flatK _ _ _ t (by simpa using ht')]
  obtain ⟨p, hp⟩ : ∃ p, l[t / 2]? = some p := ⟨_, List.getElem?_eq_getElem (by omega)⟩
  have e1 : (l.map Prod.snd).toArray[t / 2]! = p.2 := by
    have : (l.map Prod.snd)[t / 2]? = some p.2 := by rw [List.getElem?_map, hp]; rfl
    simp [Array.getElem!_eq_getD, Array.getD_eq_getD_getElem?, hp]
  obtain ⟨c1, c2⟩ := cellsP_at l (t / 2) p hp
  have e2 : (cellsP l).toArray[t]! = ((cellsP l)[t]?).getD default := by simp [Array.getElem!_eq_getD, Array.getD_eq_getD_getElem?]
  have e3 := hf p (List.mem_of_getElem? hp)
  rw [e1, e2]
  have hm : t % 2 = 0 ∨ t % 2 = 1 := by omega
  rcases hm with e | e
  · rw [show t / 2 * 2 = t from by omega] at c1; rw [c1, e]; simp [encB, e3]
  · rw [show t / 2 * 2 + 1 = t from by omega] at c2; rw [c2, e]; simp [encB]
theorem OwnL.holdsB {w : World} {base g n cap : Nat} {l : PL} (f : Int → Int) (hf : ∀ p ∈ l, f p.2 = p.1) (hl : l.length = n) (h : OwnL w base (.slice (some ⟨g, 0, none⟩) n cap) l) : HoldsK (encB f) 2 w g 0 (l.map Prod.snd).toArray := by
  unfold OwnL at h
  subst hl
  unfold HoldsK
  rw [flat_cellsB f l hf]
  intro j hj
  have hj' : j < (cellsP l).length := by simpa using hj
  rw [Nat.zero_add]
  refine ⟨?_, h.frozenAt j⟩
  have := h.cellAt j (by rw [cellsP_length] at hj'; exact hj')
  rw [this]
  simp [List.getElem?_eq_getElem hj', Array.getElem!_eq_getD, Array.getD_eq_getD_getElem?]
theorem OwnL.sortedB {w : World} {base g n cap k : Nat} {l m : PL} {os : Array Obj} (f : Int → Int) (hf : ∀ p ∈ m, f p.2 = p.1) (h : OwnL w base (.slice (some ⟨g, 0, none⟩) n cap) l) (hl : l.length = n) (hm : m.length = n) : OwnL (sortWorldK (encB f) 2 w g 0 k (m.map Prod.snd).toArray os) base (.slice (some ⟨g, 0, none⟩) n cap) m := by
  unfold OwnL at h ⊢
  unfold sortWorldK putRowK
  rw [flat_cellsB f m hf]
  rw [hl] at h
  rw [hm]
  rcases h.2 with ⟨h0, _⟩ | ⟨g', cap', cur, hv, hbase, hb, r1, r2, r3, r4⟩
  · cases h0
  · cases hv
    have hl : (cellsP m).length = n * 2 := by rw [cellsP_length, hm]
    refine ⟨hl, .inr ⟨g, cap, _, rfl, hbase, heap_sortedK _ hb, r1, r2, by simp [putCells, r3], ?_⟩⟩
    have := take_putCellsK cur (cellsP m).toArray (by rw [r3]; simp [hl]; omega)
    rw [List.size_toArray, hl] at this
    exact this
theorem ltB : ltOf cmpI = fun i j => decide (i < j) := by
  funext i j
  show decide (cmpI i j < 0) = _
  exact cmpI_neg i j
theorem swoB : SWO (ltOf cmpI) where
  irrefl x := by rw [ltB]; simp
  trans x y z h1 h2 := by rw [ltB] at *; simp at *; omega
  ntrans x y z h1 h2 := by rw [ltB] at *; simp at *; omega

set_option maxRecDepth 100000 in
theorem byB_any (a b c d : Int) (w : World) :
    Calls Tryz.prog 48 #[.agg #[.int .i64 a, .int .i64 b], .agg #[.int .i64 c, .int .i64 d]] w fun e w' => e = .returned (.int .i64 (cmpI b d)) ∧ ∃ q os', w' = grow (w.drewN q) os' := by
  have C1 := Lib.hid (fun W => compare_any b d W)
  have HG : Hid (∃ q os', (w.alloc (.cells #[.int .i64 a, .int .i64 b] 36)).alloc (.cells #[.int .i64 c, .int .i64 d] 36) = grow (w.drewN q) os') := Lib.hid ⟨0, _, by rw [alloc_eq_grow, alloc_eq_grow, grow_grow]; rfl⟩
  generalize cmpI b d = r at C1 ⊢
  go_enter Tryz.func48, Tryz.ntmps48
  go_wp2_with fail
  refine (C1.out _).mono ?_; rintro e w1 ⟨rfl, rfl⟩
  go_wp2_with fail
  go_ret
  exact ⟨rfl, HG.out⟩
/-- the A of a B -/
def ofBC (l : PL) (b : Int) : Int := ((l.find? (fun p => p.2 == b)).map Prod.fst).getD 0
theorem ofB_isC (l : PL) (hn : (l.map Prod.snd).Nodup) : ∀ p ∈ l, ofBC l p.2 = p.1 := by
  induction l with
  | nil => intro p hp; cases hp
  | cons q l ih =>
    intro p hp
    rw [List.map_cons, List.nodup_cons] at hn
    unfold ofBC
    rw [List.find?_cons]
    rcases List.mem_cons.1 hp with rfl | hp
    · simp
    · have hne : ¬ q.2 = p.2 := fun e => hn.1 (List.mem_map.2 ⟨p, hp, e.symm⟩)
      have : (q.2 == p.2) = false := by simp [hne]
      rw [this]
      exact ih hn.2 p hp
theorem sortedB_is (L R : PL) (hp : R.Perm L) (hr : RiseB R) : (L.map Prod.snd).mergeSort (fun x y => decide (x ≤ y)) = R.map Prod.snd := by
  have h1 : ((L.map Prod.snd).mergeSort (fun x y => decide (x ≤ y))).Perm (R.map Prod.snd) := (List.mergeSort_perm _ _).trans (hp.map Prod.snd).symm
  have h2 := List.pairwise_mergeSort (le := fun x y : Int => decide (x ≤ y)) (fun a b c h k => by simp only [decide_eq_true_eq] at *; omega) (fun a b => by simp only [Bool.or_eq_true, decide_eq_true_eq]; omega) (L.map Prod.snd)
  have h3 : (R.map Prod.snd).Pairwise (fun x y => decide (x ≤ y) = true) := by
    rw [List.pairwise_map]
    exact hr.imp fun h => decide_eq_true (by omega)
  exact h1.eq_of_pairwise (fun a b _ _ h k => by simp only [decide_eq_true_eq] at *; omega) h2 h3
theorem rise_nodup (L R : PL) (hp : R.Perm L) (hr : RiseB R) : (L.map Prod.snd).Nodup := by
  refine (hp.map Prod.snd).nodup_iff.1 ?_
  rw [List.Nodup, List.pairwise_map]
  exact hr.imp fun h => by omega
theorem csort_any (base g n cap : Nat) (L R : PL) (w : World) (hn : n ≤ 1099511627776) (hl : L.length = n) (hp : R.Perm L) (hr : RiseB R) (hO : OwnL w base (.slice (some ⟨g, 0, none⟩) n cap) L) :
    Calls Tryz.prog 47 #[.slice (some ⟨g, 0, none⟩) n cap, .func (.func 48) #[] #[]] w fun e w' => e = .returned (.tuple #[]) ∧ OwnL w' base (.slice (some ⟨g, 0, none⟩) n cap) R ∧ w.grownBy w' (some g) := by
  have hnd := rise_nodup L R hp hr
  have hfL := ofB_isC L hnd
  have hfR : ∀ p ∈ R, ofBC L p.2 = p.1 := fun p h => hfL p (hp.mem_iff.1 h)
  have hc : CmpLays Tryz.prog 48 #[] (encB (ofBC L)) 2 cmpI g 0 (L.map Prod.snd).toArray.size w := fun m os dk _ x y => byB_any _ x _ y _
  have hsz : (L.map Prod.snd).toArray.size = n := by simp [hl]
  have h := AnyQ.slices_SortFunc_total laysFp 2 Tryz.isAgg36 Tryz.sizeOf36 (encB (ofBC L)) (fun _ => rfl) (fun x v hv => by simp [encB] at hv; rcases hv with rfl | rfl <;> rfl) cmpI swoB 48 #[] g 0 cap (L.map Prod.snd).toArray w (enters_of Tryz.func48 (by kernel_rfl) rfl) hc (hO.holdsB _ hfL hl) (World.ownsRow.lt hO g rfl).2 (by rw [hsz]; omega) (fun x y h k => by rw [ltB] at h k; simp at h k; omega)
  rw [hsz, ltB] at h
  refine h.mono ?_
  rintro e w' ⟨rfl, k, os, rfl⟩
  have e : (L.map Prod.snd).toArray.toList.mergeSort (fun x y => !decide (y < x)) = R.map Prod.snd := by
    rw [← sortedB_is L R hp hr]
    show (L.map Prod.snd).mergeSort _ = _
    congr 1
    funext x y
    by_cases h : y < x
    · rw [decide_eq_true h, decide_eq_false (by omega)]; rfl
    · rw [decide_eq_false h, decide_eq_true (by omega)]; rfl
  rw [e]
  exact ⟨rfl, hO.sortedB _ hfR hl (by rw [hp.length_eq, hl]), by unfold sortWorldK putRowK; exact grownBy_sortedK _⟩

set_option maxRecDepth 100000 in
set_option maxHeartbeats 2000000 in
theorem together_any (ao bo : Option Addr) (ca cb : Nat) (xs ys R : PL) (w : World) (hs : xs.length + ys.length ≤ 1073741824) (hx : PairsAt w ao xs) (hy : PairsAt w bo ys) (k1 : ao = none → ca = 0) (k2 : bo = none → cb = 0) (r1 : xs.length ≤ ca) (r2 : ys.length ≤ cb) (g : Nat)
    (hb : w.heap[g]? = some (.cells #[.slice ao xs.length ca, .slice bo ys.length cb] 28 (0, 0))) (hp : R.Perm (xs ++ ys)) (hr : RiseB R) :
    Calls Tryz.prog 23 #[.slice (some ⟨g, 0, none⟩) 2 2] w (PairsOut R w) := by
  have C1 := Lib.hid (concatP2 ao bo ca cb xs ys w hs hx hy k1 k2 r1 r2 g hb)
  have hlen : (xs ++ ys).length ≤ 1099511627776 := by rw [List.length_append]; omega
  have C2 := Lib.hid (fun base b n cap V (hl : (xs ++ ys).length = n) h => csort_any base b n cap (xs ++ ys) R V (by rw [← hl]; exact hlen) hl hp hr h)
  have C0 := Lib.hid (fun V => AnyF.slices_SortFunc_none laysFp none 0 (.func (.func 48) #[] #[]) V)
  have HRl := Lib.hid hp.length_eq
  clear hx hy hb hp hr hlen
  generalize xs ++ ys = L at C1 C2 HRl
  go_enter Tryz.func23, Tryz.ntmps23
  go_wp2_with fail
  refine C1.out.mono ?_; rintro e w1 ⟨v, rfl, hO, b1⟩
  have B1 := Lib.hid b1
  have HO := Lib.hid hO
  rcases hO.2 with ⟨rfl, h0⟩ | ⟨b, cap, cur, rfl, q1, q2, q3, q4, q5, q6⟩
  · have HE : Hid (PairsOut R w (.returned (.slice none 0 0)) w1) := Lib.hid (by
      have hR : R = [] := List.eq_nil_of_length_eq_zero (by rw [HRl.out]; exact h0)
      rw [hR]
      exact ⟨none, 0, rfl, .inl rfl, fun _ => rfl, Nat.le_refl _, B1.out⟩)
    clear b1 hO h0 C1 C2 HO
    go_wp2_with fail
    refine (C0.out _).mono ?_; rintro e w2 ⟨rfl, rfl⟩
    go_wp2_with fail
    go_ret
    exact HE.out
  · obtain ⟨n, hn⟩ : ∃ n, L.length = n := ⟨_, rfl⟩
    rw [hn] at HO ⊢
    have C3 := Lib.hid (C2.out _ _ _ _ _ hn HO.out)
    have HbB := Lib.hid q1
    clear b1 hO q1 q2 q3 q4 q5 q6 C1 C2 C0
    go_wp2_with fail
    refine C3.out.mono ?_; rintro e w2 ⟨rfl, hO2, hg⟩
    have HE : Hid (PairsOut R w (.returned (.slice (some ⟨b, 0, none⟩) n cap)) w2) := Lib.hid (by
      refine OwnL.end_ hO2 (B1.out.grown hg B1.out.size (fun k h => by cases h; exact HbB.out))
      )
    clear hO2 hg C3 HO
    go_wp2_with fail
    go_ret
    exact HE.out
end Go.Proofs.YtigijgcldgbokaaGreat
