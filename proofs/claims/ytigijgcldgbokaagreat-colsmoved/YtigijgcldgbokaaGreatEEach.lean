/-
  Rows turned one by one, and cells that are chosen: what the program's generic functions make.
  Conditions: lists of at most 2^38 elements.
-/
import Derived.WalkKit
import Derived.WalkMore
import Derived.WalkLawsBesides
import Derived.OwnWalk
import Derived.Lib.Hide
import Derived.Test.YtigijgcldgbokaaGreatProg
import Derived.Test.YtigijgcldgbokaaGreatEChg
namespace Go.Proofs.YtigijgcldgbokaaGreat
open Go.RowKit Go.Shelf
set_option linter.unusedVariables false

theorem each_step {α : Type} (f : Nat → α → Except Int α) (l : List α) (k : Nat) (x : α) (h : l[k]? = some x) : eachL f k (l.drop k) = (match f k x with | .error e => .error e | .ok y => emap (y :: ·) (eachL f (k + 1) (l.drop (k + 1)))) := by
  obtain ⟨hk, e⟩ := List.getElem?_eq_some_iff.1 h
  rw [List.drop_eq_getElem_cons hk, e]
  rfl
/-- a function that turns a row and its number -/
def IdxFn (w : World) (F : FuncId) (caps : Array Value) (f : Nat → List ByteArray → Except Int (List ByteArray)) (Ok : Nat → List ByteArray → Prop) : Prop :=
  ∀ W, Below w.heap.size w W → ∀ (i : Nat) ao (xs : List ByteArray) (cap : Cap ao xs.length), Ok i xs → StrRow W ao xs → Calls Tryz.prog F (#[.int .i64 i, .slice ao xs.length cap.1] ++ caps) W (SNew (f i xs) W)

/-- what is turned so far -/
structure Turned (wr : World) (base g n k : Nat) (ys : List RowL) : Prop where
  len : ys.length = k
  own : wr.ownsRow base 22 1 (.slice (some ⟨g, 0, none⟩) n n) n (ys.map RowL.val ++ List.replicate (n - k) (.slice none 0 0))
  each : ∀ z ∈ ys, StrRow wr z.ro z.r ∧ ∀ A, z.ro = some A → z.r ≠ [] → A.block ≠ g
theorem Turned.next {wr w2 : World} {base g n k : Nat} {ys : List RowL} (T : Turned wr base g n k ys) (hk : k < n) (hb : Below wr.heap.size wr w2) (yo : Option Addr) (y : List ByteArray) (yc : Cap yo y.length) (hy : StrRow w2 yo y) (hf : ∀ A, yo = some A → wr.heap.size ≤ A.block) :
    Turned (w2.setCell ⟨g, k, none⟩ (.slice yo y.length yc.1)) base g n (k + 1) (ys ++ [⟨yo, y, yc⟩]) := by
  have hgl := T.own.lt g rfl
  have hst := ((ownsRow_below T.own hb).stored k (.slice yo y.length yc.1)).1
  have hsz : w2.heap.size ≤ (w2.setCell ⟨g, k, none⟩ (.slice yo y.length yc.1)).heap.size := by simp
  have hkk : ∀ j, j ≠ g → (w2.setCell ⟨g, k, none⟩ (.slice yo y.length yc.1)).heap[j]? = w2.heap[j]? := fun j hj => heap_setCell_other w2 ⟨g, k, none⟩ j _ hj
  refine ⟨by simp [T.len], ?_, fun z hz => ?_⟩
  · have e : (ys.map RowL.val ++ List.replicate (n - k) (Value.slice none 0 0)).set k (.slice yo y.length yc.1) = (ys ++ [(⟨yo, y, yc⟩ : RowL)]).map RowL.val ++ List.replicate (n - (k + 1)) (.slice none 0 0) := by
      obtain ⟨m, hm⟩ : ∃ m, n - k = m + 1 := ⟨n - k - 1, by omega⟩
      rw [List.set_append_right _ _ (by rw [List.length_map, T.len]; exact Nat.le_refl _), List.length_map, T.len, Nat.sub_self, hm, show n - (k + 1) = m from by omega, List.replicate_succ]
      simp [RowL.val]
    rw [← e]; exact hst
  · rcases List.mem_append.1 hz with hz | hz
    · obtain ⟨h1, h2⟩ := T.each z hz
      exact ⟨strRow_set g hsz hkk (h1.kept hb) h2, h2⟩
    · simp only [List.mem_singleton] at hz
      subst hz
      have hne : ∀ A, yo = some A → y ≠ [] → A.block ≠ g := fun A hA _ => by have := hf A hA; omega
      exact ⟨strRow_set g hsz hkk hy hne, hne⟩
theorem Turned.rows {wr : World} {base g n : Nat} {ys : List RowL} (T : Turned wr base g n n ys) : RowsAt wr (some ⟨g, 0, none⟩) (ys.map RowL.r) := by
  have ho := T.own
  rw [Nat.sub_self, List.replicate_zero, List.append_nil] at ho
  exact RowsL.rows ⟨.inr ⟨_, rfl, (ho.lt g rfl).2, fun i v hv => ho.cells rfl i v hv⟩, fun z hz => (T.each z hz).1⟩

set_option maxRecDepth 100000 in
set_option maxHeartbeats 4000000 in
theorem each_any (ao : Option Addr) (rs : List (List ByteArray)) (cp : Nat) (F : FuncId) (caps : Array Value) (f : Nat → List ByteArray → Except Int (List ByteArray)) (Ok : Nat → List ByteArray → Prop) (w : World) (hn : rs.length ≤ 274877906944) (hc : RowsAt w ao rs) (hok : ∀ (i : Nat) r, rs[i]? = some r → Ok i r)
    (hF : IdxFn w F caps f Ok) (hent : ∀ args w, (callFunc F args).run Tryz.prog w = .ok (.enter F args) w) :
    Calls Tryz.prog 80 #[.slice ao rs.length cp, .func (.func F) #[] caps] w (ROut (eachL f 0 rs) w) := by
  have hinfo : (Tryz.prog.info? 22).map (fun i => (i.zero, i.size, i.bytes)) = some (some (.slice none 0 0), 1, 24) := by kernel_rfl
  obtain ⟨i0, hi, hz0, hz1, hz2⟩ := info_parts hinfo
  have HI := Lib.hid hi
  have HRo := Lib.hid hc
  have HF := Lib.hid hF
  have HOk := Lib.hid hok
  have HS := Lib.hid (each_step f rs)
  have hm : rs.length ≤ maxLen := by unfold maxLen; omega
  clear hi hinfo hc hF hok
  go_enter Tryz.func80, Tryz.ntmps80
  go_wp2_with (at_make; refine wpList_make_full _ rfl _ _ 23 rfl w.heap.size 22 i0 (.slice none 0 0) 1 Tryz.underlying23 HI.out hz0 hz1 .i64 .i64 (rs.length : Int) (rs.length : Int) rs.length rfl rfl rfl rfl (by rw [hz2]; omega) hm (Nat.le_refl _) ?_; intro w1 ho hg)
  have HB : Hid (Below w.heap.size w w1) := Lib.hid ((Below.refl _ w).grown hg (Nat.le_refl _) (fun k h => by cases h))
  have HT : Hid (Turned w1 w.heap.size w.heap.size rs.length 0 []) := Lib.hid ⟨rfl, by rw [Nat.mul_one] at ho; rw [List.map_nil, List.nil_append, Nat.sub_zero, ← toList_madeCells_one]; exact ho, fun z hz => by cases hz⟩
  have HE : Hid (eachL f 0 rs = emap (List.map RowL.r [] ++ ·) (eachL f 0 (rs.drop 0))) := Lib.hid (by rw [List.drop_zero]; cases eachL f 0 rs <;> rfl)
  clear ho hg
  go_wp2_with fail
  go_loopw [13] (fun i wr => ∃ (k : Nat) (ys : List RowL), k ≤ rs.length ∧ i = .int .i64 k ∧ Hid (Below w.heap.size w wr) ∧ Hid (Turned wr w.heap.size w.heap.size rs.length k ys) ∧ Hid (eachL f 0 rs = emap (ys.map RowL.r ++ ·) (eachL f k (rs.drop k)))) (fun i _ => rs.length - (intOf i).toNat)
  case atStart => exact ⟨0, [], Nat.zero_le _, rfl, HB, HT, HE⟩
  case round =>
    obtain ⟨k, ys, hk, rfl, HB, HT, HE⟩ := hrel
    by_cases hlt : k < rs.length
    · obtain ⟨r, hr⟩ : ∃ r, rs[k]? = some r := ⟨_, List.getElem?_eq_getElem hlt⟩
      have hstep := HS.out k r hr
      rcases (HRo.out.kept HB.out) with h0 | ⟨A, rfl, hA, hcell⟩
      · rw [h0] at hlt; simp at hlt
      obtain ⟨ro, rc, hcr, hsr⟩ := hcell k r hr
      have C := Lib.hid (HF.out wr HB.out k ro r rc (HOk.out k r hr) hsr)
      have HST := Lib.hid hstep
      clear hcell hr hstep hsr
      generalize f k r = fx at C HST
      cases fx with
      | error e0 =>
        have HX : Hid (eachL f 0 rs = .error e0) := Lib.hid (by rw [HE.out, HST.out]; rfl)
        clear HE HST
        go_wp2_with fail
        refine C.out.mono ?_; rintro e w2 ⟨rfl, b⟩
        unfold stopE
        go_wp2_with fail
        refine ⟨rfl, ?_⟩
        rw [HX.out]
        exact ⟨rfl, below_up HB.out b⟩
      | ok y =>
        have HE' : Hid (∀ z : RowL, z.r = y → eachL f 0 rs = emap ((ys ++ [z]).map RowL.r ++ ·) (eachL f (k + 1) (rs.drop (k + 1)))) := Lib.hid (fun z hz => by
          rw [HE.out, HST.out]
          cases eachL f (k + 1) (rs.drop (k + 1)) with
          | error _ => rfl
          | ok t => simp [emap, hz])
        clear HE HST
        go_wp2_with fail
        refine C.out.mono ?_; rintro e w2 ⟨yo, yc, rfl, ⟨hy, hyf⟩, b⟩
        have hgl := HT.out.own.lt w.heap.size rfl
        have hold : w2.cell? ⟨w.heap.size, k, none⟩ ≠ none := by
          have := (ownsRow_below HT.out.own b).cellAt k (by omega)
          rw [this, List.getElem?_eq_getElem (by rw [List.length_append, List.length_map, HT.out.len, List.length_replicate]; omega)]
          simp
        obtain ⟨old, hcell⟩ := Option.ne_none_iff_exists'.1 hold
        have hfr : w2.frozen? ⟨w.heap.size, k, none⟩ = false := (ownsRow_below HT.out.own b).frozenAt k
        have HT' := Lib.hid (HT.out.next hlt b yo y yc hy hyf)
        have HB' := Lib.hid ((below_up HB.out b).setCell (p := ⟨w.heap.size, k, none⟩) (Nat.le_refl _) (.slice yo y.length yc.1))
        have HEE := Lib.hid (HE'.out ⟨yo, y, yc⟩ rfl)
        clear b hy hyf hold HE' HT C hcr
        go_wp2_with fail
        go_roundw
        case rel => exact ⟨k + 1, ys ++ [⟨yo, y, yc⟩], by omega, by go_num, HB', HT', HEE⟩
        case measure => simp [intOf]; omega
    · obtain rfl : k = rs.length := by omega
      have HX : Hid (eachL f 0 rs = .ok (ys.map RowL.r)) := Lib.hid (by rw [HE.out, List.drop_length]; simp [eachL, emap])
      clear HE
      go_wp2_with fail
      go_ret
      rw [HX.out]
      exact ROut.mk rs.length (some ⟨w.heap.size, 0, none⟩) rs.length (by rw [List.length_map, HT.out.len]) ⟨Nat.le_refl _, fun e => by cases e⟩ rfl HT.out.rows HB.out

/-- the cells of a slice of numbers -/
def IntsAtE (w : World) (ao : Option Addr) (ps : List Int) : Prop := ps = [] ∨ ∃ A, ao = some A ∧ A.block < w.heap.size ∧ ∀ (i : Nat) p, ps[i]? = some p → w.cell? (A.add i) = some (.int .i64 p)
theorem IntsAtE.kept {w w' : World} {ao : Option Addr} {ps : List Int} (h : IntsAtE w ao ps) (hB : Below w.heap.size w w') : IntsAtE w' ao ps := by
  rcases h with h | ⟨A, h1, h2, h3⟩
  · exact .inl h
  · exact .inr ⟨A, h1, Nat.lt_of_lt_of_le h2 hB.size, fun i c hc => (hB.cell (p := A.add i) (by rw [add_block]; exact h2)).trans (h3 i c hc)⟩
theorem pick_no {α : Type} (l : List α) (ps : List Int) (k : Nat) (p : Int) (h : ps[k]? = some p) (hp : ¬ (0 ≤ p ∧ p < (l.length : Int))) : pickV l ps = .error 11 := by
  unfold pickV
  rw [if_neg]
  intro hall
  have := List.all_eq_true.1 hall p (List.mem_of_getElem? h)
  simp [inB] at this
  exact hp this
theorem pick_yes {α : Type} (l : List α) (ps : List Int) (h : ∀ (k : Nat) p, ps[k]? = some p → 0 ≤ p ∧ p < (l.length : Int)) : ∃ ys, pickV l ps = .ok ys ∧ ys.length = ps.length ∧ ∀ (k : Nat) p, ps[k]? = some p → ys[k]? = l[p.toNat]? := by
  have hall : (ps.all fun p => inB p l.length) = true := List.all_eq_true.2 (fun p hp => by
    obtain ⟨i, hi, rfl⟩ := List.getElem_of_mem hp
    have := h i _ (List.getElem?_eq_getElem hi)
    simp [inB, this])
  refine ⟨ps.filterMap fun p => l[p.toNat]?, by unfold pickV; rw [if_pos hall], ?_⟩
  clear hall
  induction ps with
  | nil => exact ⟨rfl, fun k p hp => by simp at hp⟩
  | cons p ps ih =>
    obtain ⟨h1, h2⟩ := ih (fun k q hq => h (k + 1) q (by simpa using hq))
    have hp := h 0 p rfl
    have e : l[p.toNat]? = some (l[p.toNat]'(by omega)) := List.getElem?_eq_getElem (by omega)
    rw [List.filterMap_cons, e]
    refine ⟨by simp [h1], fun k q hq => ?_⟩
    match k, hq with
    | 0, hq => simp at hq; subst hq; simp
    | k + 1, hq => simpa using h2 k q (by simpa using hq)

end Go.Proofs.YtigijgcldgbokaaGreat
