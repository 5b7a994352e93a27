/-
  Texts of these rows' proofs, laid one behind the other: BMath, BTally, BCount, BOver.
  Conditions: those of each theorem.
-/
import Derived.Test.YtdenehnneloegaaGreatDoorProg
import Derived.Test.YtdenehnneloegaaGreatDoorPb8
import Derived.Maps.Own
import Derived.Maps.OwnOps
import Derived.Maps.OwnSet
import Derived.Maps.Views
import Derived.StringKeys
import Derived.WalkKit
import Derived.WalkMore
import Derived.IntWalk
import Derived.WalkArith
import Derived.OwnWalk
import Derived.Lib.Hide
import Derived.Test.YtdenehnneloegaaGreatDoorPb6
import Derived.Maps.RangeWalk
import Derived.Sort.KeysCollected
namespace Go.Proofs.YtdenehnneloegaaGreatDoor
set_option linter.unusedVariables false
set_option linter.unusedSectionVars false
section
variable {α : Type} [DecidableEq α]
/-- how often a thing is in a list -/
def cntN (x : α) : List α → Nat
  | [] => 0
  | y :: ys => (if y = x then 1 else 0) + cntN x ys
/-- how much is in common -/
def overL : List α → List α → Nat
  | [], _ => 0
  | x :: a, b => overL a b + if cntN x a < cntN x b then 1 else 0
theorem cnt_append (x : α) (a b : List α) : cntN x (a ++ b) = cntN x a + cntN x b := by
  induction a with
  | nil => simp [cntN]
  | cons y a ih => simp only [List.cons_append, cntN, ih]; omega
theorem cnt_le (x : α) (a : List α) : cntN x a ≤ a.length := by
  induction a with
  | nil => simp [cntN]
  | cons y a ih => simp only [cntN, List.length_cons]; split <;> omega
theorem cnt_pos (x : α) (a : List α) : 0 < cntN x a ↔ x ∈ a := by
  induction a with
  | nil => simp [cntN]
  | cons y a ih =>
    simp only [cntN, List.mem_cons]
    by_cases h : y = x
    · rw [if_pos h]; exact ⟨fun _ => .inl h.symm, fun _ => by omega⟩
    · rw [if_neg h, Nat.zero_add, ih]
      exact ⟨fun h1 => .inr h1, fun h1 => h1.resolve_left (fun e => h e.symm)⟩
theorem cnt_none (x : α) (a : List α) (h : x ∉ a) : cntN x a = 0 := by
  have := cnt_pos x a
  have : ¬ 0 < cntN x a := fun h1 => h (this.1 h1)
  omega
/-- the sum over some things, each once -/
def sumN (f : α → Nat) : List α → Nat
  | [] => 0
  | x :: l => f x + sumN f l
theorem sum_append (f : α → Nat) (a b : List α) : sumN f (a ++ b) = sumN f a + sumN f b := by
  induction a with
  | nil => simp [sumN]
  | cons y a ih => simp only [List.cons_append, sumN, ih]; omega
theorem sum_congr (f g : α → Nat) (l : List α) (h : ∀ x ∈ l, f x = g x) : sumN f l = sumN g l := by
  induction l with
  | nil => rfl
  | cons y l ih => simp only [sumN]; rw [h y List.mem_cons_self, ih (fun x hx => h x (List.mem_cons_of_mem _ hx))]
theorem sum_zero (l : List α) : sumN (fun _ => 0) l = 0 := by
  induction l with
  | nil => rfl
  | cons y l ih => simp only [sumN, ih]
theorem sum_one (f g : α → Nat) (x : α) (d : Nat) (l : List α) (hn : l.Nodup) (ho : ∀ y, y ≠ x → f y = g y) (hx : f x = g x + d) : sumN f l = sumN g l + if x ∈ l then d else 0 := by
  induction l with
  | nil => simp [sumN]
  | cons y l ih =>
    obtain ⟨h1, h2⟩ := List.nodup_cons.1 hn
    simp only [sumN]
    by_cases e : y = x
    · subst e
      rw [sum_congr f g l (fun z hz => ho z (fun e' => h1 (e' ▸ hz))), hx, if_pos List.mem_cons_self]; omega
    · rw [ih h2, ho y e]
      have : (x ∈ y :: l) ↔ x ∈ l := by simp [Ne.symm e]
      by_cases hm : x ∈ l
      · rw [if_pos hm, if_pos (this.2 hm)]; omega
      · rw [if_neg hm, if_neg (fun h' => hm (this.1 h'))]; omega
/-- what is in common, thing by thing -/
theorem over_sum (a b ss : List α) (hn : ss.Nodup) (hs : ∀ s, s ∈ a → s ∈ b → s ∈ ss) : overL a b = sumN (fun s => min (cntN s b) (cntN s a)) ss := by
  induction a with
  | nil => rw [overL, sum_congr _ (fun _ => 0) ss (fun x _ => by simp [cntN]), sum_zero]
  | cons x a ih =>
    rw [overL, ih (fun s h1 h2 => hs s (List.mem_cons_of_mem _ h1) h2)]
    rw [sum_one (fun s => min (cntN s b) (cntN s (x :: a))) (fun s => min (cntN s b) (cntN s a)) x (if cntN x a < cntN x b then 1 else 0) ss hn
      (fun y hy => by simp only [cntN]; rw [if_neg (Ne.symm hy), Nat.zero_add]) (by simp only [cntN, if_true]; split <;> omega)]
    by_cases hb : x ∈ b
    · rw [if_pos (hs x List.mem_cons_self hb)]
    · rw [cnt_none x b hb]; simp
theorem sum_le_over (a b ss : List α) (hn : ss.Nodup) : sumN (fun s => min (cntN s b) (cntN s a)) ss ≤ overL a b := by
  induction a with
  | nil => rw [overL, sum_congr _ (fun _ => 0) ss (fun x _ => by simp [cntN]), sum_zero]; exact Nat.le_refl _
  | cons x a ih =>
    rw [overL]
    rw [sum_one (fun s => min (cntN s b) (cntN s (x :: a))) (fun s => min (cntN s b) (cntN s a)) x (if cntN x a < cntN x b then 1 else 0) ss hn
      (fun y hy => by simp only [cntN]; rw [if_neg (Ne.symm hy), Nat.zero_add]) (by simp only [cntN, if_true]; split <;> omega)]
    split <;> omega
/-- each thing of a list, once -/
def once : List α → List α
  | [] => []
  | x :: l => if x ∈ once l then once l else x :: once l
theorem once_nodup (l : List α) : (once l).Nodup := by
  induction l with
  | nil => simp [once]
  | cons x l ih => rw [once]; split; exact ih; exact List.nodup_cons.2 ⟨by assumption, ih⟩
theorem mem_once (x : α) (l : List α) : x ∈ once l ↔ x ∈ l := by
  induction l with
  | nil => simp [once]
  | cons y l ih =>
    rw [once]
    split
    · rw [ih]; constructor
      · exact fun h => List.mem_cons_of_mem _ h
      · intro h; rcases List.mem_cons.1 h with rfl | h
        · rename_i h1; exact ih.1 h1
        · exact h
    · rw [List.mem_cons, List.mem_cons, ih]
theorem over_once (a b : List α) : overL a b = sumN (fun s => min (cntN s b) (cntN s a)) (once b) := over_sum a b _ (once_nodup b) (fun s _ h => (mem_once s b).2 h)
theorem over_symm (a b : List α) : overL b a = overL a b := by
  rw [over_sum b a (once b) (once_nodup b) (fun s h _ => (mem_once s b).2 h), over_once a b]
  exact sum_congr _ _ _ (fun x _ => Nat.min_comm _ _)
theorem over_le1 (a b : List α) : overL a b ≤ a.length := by
  induction a with
  | nil => simp [overL]
  | cons x a ih => rw [overL, List.length_cons]; split <;> omega
theorem over_le2 (a b : List α) : overL a b ≤ b.length := by rw [← over_symm]; exact over_le1 b a
/-- those of a list of which something holds, counted -/
theorem cnt_filter (p : α → Bool) (x : α) (a : List α) : cntN x (a.filter p) = if p x = true then cntN x a else 0 := by
  induction a with
  | nil => simp [cntN]
  | cons y a ih =>
    rw [List.filter_cons]
    by_cases hy : p y = true
    · rw [if_pos hy]
      simp only [cntN, ih]
      by_cases e : y = x
      · subst e; simp [hy]
      · simp only [if_neg e, Nat.zero_add]
    · rw [if_neg hy, ih]
      simp only [cntN]
      by_cases e : y = x
      · subst e; simp [hy]
      · simp only [if_neg e, Nat.zero_add]
end
end Go.Proofs.YtdenehnneloegaaGreatDoor
namespace Go.Proofs.YtdenehnneloegaaGreatDoor
open Go.RowKit Go.Shelf Go.Maps
set_option linter.unusedVariables false
/-- a map of counts: of those alone that are there at least once -/
structure CntIs (D : DataW Unit) (f : Txt → Nat) : Prop where
  tidy : Tidy D
  look : ∀ l, D.atKey (.string l) (.lit (.int .i64 0)) = .lit (.int .i64 ((f l : Nat) : Int))
  here : ∀ l, has D (.string l) = decide (0 < f l)
theorem CntIs.empty : CntIs (.map []) (fun _ => 0) := ⟨tidy_empty, fun z => rfl, fun z => rfl⟩
theorem CntIs.put {D : DataW Unit} {f g : Txt → Nat} (h : CntIs D f) (x : Txt) (hg : ∀ l, g l = if l = x then f x + 1 else f l) : CntIs (D.put (.string x) (.lit (.int .i64 ((f x : Nat) + 1 : Int)))) g := by
  refine ⟨h.tidy.put (keyS x) _, fun z => ?_, fun z => ?_⟩
  · by_cases e : z = x
    · subst e
      rw [atKey_put_same h.tidy.isMap (keyS z), hg, if_pos rfl]; simp
    · rw [atKey_put_other (fun e' => e (by injection e')), h.look, hg, if_neg e]
  · by_cases e : z = x
    · subst e
      rw [has_put_same h.tidy.isMap (keyS z), hg, if_pos rfl]; simp
    · rw [has_put_other (fun e' => e (by injection e')), h.here, hg, if_neg e]
theorem CntIs.same {D : DataW Unit} {f g : Txt → Nat} (h : CntIs D f) (e : ∀ l, g l = f l) : CntIs D g := by
  have : g = f := funext e
  rw [this]; exact h
set_option maxRecDepth 100000 in
theorem cnt_look {w : World} {b k : Nat} {D : DataW Unit} {f : Txt → Nat} (h : w.ownsMap Tryz.prog 9 (plainElem Tryz.prog 3) b k D) (hS : CntIs D f) (x : ByteArray) (hx : x.size ≤ maxLen) :
    (Instr.lookup 95 (.map (some b)) (.string x) false).run Tryz.prog w = .ok (.int .i64 ((f x.data.toList : Nat) : Int)) w := by
  obtain ⟨c, hrun, hat, _⟩ := h.lookup_int (string_keyed Tryz.underlying9) Tryz.underlying95 Tryz.underlying3 (Tryz.zeroValue3 _) (Go.WideMaps.keyOf_string_mk Tryz.underlying9 hx)
  rw [hS.look] at hat
  have e : ((f x.data.toList : Nat) : Int) = c := by injection hat with h1; injection h1
  rw [e]; exact hrun
/-- those that are counted, of the first k -/
def talK (xs : List ByteArray) (p : Txt → Bool) (k : Nat) (l : Txt) : Nat := cntN l ((bytesOf (xs.take k)).filter p)
theorem tal_no (xs : List ByteArray) (p : Txt → Bool) (k : Nat) (x : ByteArray) (hx : xs[k]? = some x) (hp : p x.data.toList = false) (l : Txt) : talK xs p (k + 1) l = talK xs p k l := by
  obtain ⟨hk, e⟩ := List.getElem?_eq_some_iff.1 hx
  unfold talK
  rw [List.take_succ_eq_append_getElem hk, e]
  simp [bytesOf, List.filter_append, hp]
theorem tal_yes (xs : List ByteArray) (p : Txt → Bool) (k : Nat) (x : ByteArray) (hx : xs[k]? = some x) (hp : p x.data.toList = true) (l : Txt) : talK xs p (k + 1) l = if l = x.data.toList then talK xs p k x.data.toList + 1 else talK xs p k l := by
  obtain ⟨hk, e⟩ := List.getElem?_eq_some_iff.1 hx
  unfold talK
  rw [List.take_succ_eq_append_getElem hk, e]
  simp only [bytesOf, List.map_append, List.map_cons, List.map_nil, List.filter_append, cnt_append]
  rw [List.filter_cons, if_pos hp, List.filter_nil]
  simp only [cntN]
  by_cases h : l = x.data.toList
  · subst h; simp
  · rw [if_neg h, if_neg (fun e => h e.symm)]; omega
theorem tal_le (xs : List ByteArray) (p : Txt → Bool) (k : Nat) (l : Txt) : talK xs p k l ≤ k := by
  unfold talK
  refine Nat.le_trans (cnt_le _ _) (Nat.le_trans (List.length_filter_le _ _) ?_)
  simp [bytesOf]; omega
/-- what the counting leaves -/
def TalOut (xs : List ByteArray) (p : Txt → Bool) (w : World) (e : Ending) (w' : World) : Prop :=
  ∃ (B : Nat) (D : DataW Unit), e = .returned (.map (some B)) ∧ w.heap.size ≤ B ∧ w'.ownsMap Tryz.prog 9 (plainElem Tryz.prog 3) B xs.length D ∧ CntIs D (fun l => if p l = true then cntN l (bytesOf xs) else 0) ∧ Below w.heap.size w w'
set_option maxRecDepth 100000 in
set_option maxHeartbeats 2000000 in
theorem tally_any (G : FuncId) (caps : Array Value) (p : Txt → Bool) (hent : ∀ args w, (callFunc G args).run Tryz.prog w = .ok (.enter G args) w) (ao : Option Addr) (cap : Nat) (xs : List ByteArray) (w : World) (hn : xs.length ≤ 1048576) (hs : ∀ c ∈ xs, c.size ≤ maxLen) (hR : StrRow w ao xs)
    (hG : ∀ x ∈ xs, ∀ V, Below w.heap.size w V → Calls Tryz.prog G (#[.string x] ++ caps) V fun e w' => e = .returned (.bool (p x.data.toList)) ∧ Below V.heap.size V w') :
    Calls Tryz.prog 209 #[.slice ao xs.length cap, .agg #[.func (.func G) #[] caps]] w (TalOut xs p w) := by
  have hmm := @run_makeMap Tryz.prog
  have HR := Lib.hid hR
  have HS := Lib.hid hs
  have HG := Lib.hid hG
  obtain ⟨V, HV⟩ : ∃ V, Hid (V = (w.alloc (.cells #[.func (.func G) #[] caps] 251)).alloc (.map #[] 0)) := ⟨_, Lib.hid rfl⟩
  obtain ⟨X, hX⟩ : ∃ X, X = w.heap.size := ⟨_, rfl⟩
  have HM : Hid (V.ownsMap Tryz.prog 9 (plainElem Tryz.prog 3) (X + 1) 0 (.map [] : DataW Unit)) := Lib.hid (by
    rw [HV.out, hX]
    have := World.ownsMap_made (H := Unit) (w.alloc (.cells #[.func (.func G) #[] caps] 251)) Tryz.prog 9 (plainElem Tryz.prog 3)
    rwa [World.size_alloc] at this)
  have HX : Hid (V.heap[X]? = some (.cells #[.func (.func G) #[] caps] 251 (0, 0))) := Lib.hid (by
    rw [HV.out, hX]
    exact ((MapKept.heap_alloc _ _).2 _ (by simp)).trans (World.alloc_heap_new w _))
  have HB : Hid (Below w.heap.size w V) := Lib.hid (by rw [HV.out]; exact two_below _ _ _)
  have HXs := Lib.hid hX
  clear hR hs hG
  go_enter Tryz.func209, Tryz.ntmps209
  go_upto_region 2 with fail
  rw [← HV.out, ← hX]
  clear HV hmm hX
  go_wp2_with fail
  go_loopw [11] (fun i wr => ∃ (k : Nat) (D : DataW Unit), k ≤ xs.length ∧ i = .int .i64 k ∧ Hid (Below w.heap.size w wr) ∧ Hid (wr.ownsMap Tryz.prog 9 (plainElem Tryz.prog 3) (X + 1) k D) ∧ Hid (CntIs D (talK xs p k)) ∧ Hid (wr.heap[X]? = some (.cells #[.func (.func G) #[] caps] 251 (0, 0)))) (fun i _ => xs.length - (intOf i).toNat)
  case atStart => exact ⟨0, _, Nat.zero_le _, rfl, HB, HM, Lib.hid (CntIs.empty.same (fun l => by simp [talK, bytesOf, cntN])), HX⟩
  case round =>
    obtain ⟨k, D, hk, rfl, HBw, HMw, HD, HXw⟩ := hrel
    clear HB HM HX
    by_cases hlt : k < xs.length
    · obtain ⟨x, hx⟩ : ∃ x, xs[k]? = some x := ⟨_, List.getElem?_eq_getElem hlt⟩
      have hxm := List.mem_of_getElem? hx
      have C := Lib.hid (HG.out x hxm wr HBw.out)
      have hsz := HS.out x hxm
      have HNo := Lib.hid (fun (h : p x.data.toList = false) l => tal_no xs p k x hx h l)
      have HYe := Lib.hid (fun (h : p x.data.toList = true) l => tal_yes xs p k x hx h l)
      obtain ⟨pb, hpb⟩ : ∃ pb, p x.data.toList = pb := ⟨_, rfl⟩
      rw [hpb] at C HNo HYe
      rcases (HR.out.kept HBw.out) with h0 | ⟨A, rfl, hA, hcell⟩
      · rw [h0] at hlt; simp at hlt
      have hc := hcell k x hx
      obtain ⟨cX, _⟩ := cell_of_box_l HXw.out
      have HSz := Lib.hid hsz
      clear hcell hx hxm hpb hsz
      go_wp2_with fail
      refine C.out.mono ?_; rintro e w2 ⟨rfl, b1⟩
      have HB2 := Lib.hid (below_up HBw.out b1)
      have HX2 := Lib.hid ((b1.block X (lt_of_heap HXw.out)).trans HXw.out)
      have HM2 := Lib.hid (ownsMap_below HMw.out b1)
      clear b1 cX hc C
      cases pb with
      | false =>
        have HD2 := Lib.hid (HD.out.same (HNo.out rfl))
        have HM3 := Lib.hid (HM2.out.mono (Nat.le_succ k))
        go_wp2_with fail
        go_roundw
        case rel => exact ⟨k + 1, D, by omega, by go_num, HB2, HM3, HD2, HX2⟩
        case measure => simp [intOf]; omega
      | true =>
        have HD2 := Lib.hid (HD.out.put x.data.toList (HYe.out rfl))
        have hrun := cnt_look HM2.out HD.out x HSz.out
        have hle := tal_le xs p k x.data.toList
        generalize talK xs p k x.data.toList = c at HD2 hrun hle
        have HKey := Lib.hid (Go.WideMaps.keyOf_string_mk (P := Tryz.prog) Tryz.underlying9 HSz.out)
        have HPe := Lib.hid (plainElem_int (H := Unit) (P := Tryz.prog) (e := 3) (a := (c : Int) + 1) Tryz.underlying3 (WalkArith.wf_i64 (by omega)))
        have hkm : k < maxLen := by unfold maxLen; omega
        have hwr : IntKind.i64.wrap ((c : Int) + 1) = (c : Int) + 1 := IntWalk.i64_in _ (by omega)
        go_wp2_with (at_mapUpdate; refine wpList_mapUpdate_own _ rfl _ _ _ 95 rfl 9 3 (string_keyed Tryz.underlying9) Tryz.underlying95 _ (X + 1) k D rfl HM2.out hkm _ _ (.string x.data.toList) rfl rfl HKey.out (.lit (.int .i64 ((c : Int) + 1))) [] HPe.out ?_; intro w1 ho hg)
        have HB3 := Lib.hid (HB2.out.grown hg HB2.out.size (fun k h => by cases h; have := HXs.out; omega))
        have HX3 := Lib.hid ((hg.block X (lt_of_heap HX2.out) (by simp)).trans HX2.out)
        have HM3 := Lib.hid ho
        clear ho hg hrun hwr
        go_wp2_with fail
        go_roundw
        case rel => exact ⟨k + 1, _, by omega, by go_num, HB3, HM3, HD2, HX3⟩
        case measure => simp [intOf]; omega
    · obtain rfl : k = xs.length := by omega
      have HE : Hid (TalOut xs p w (.returned (.map (some (X + 1)))) wr) := Lib.hid ⟨X + 1, D, rfl, by have := HXs.out; omega, HMw.out, HD.out.same (fun l => by unfold talK; rw [List.take_length, cnt_filter]), HBw.out⟩
      go_wp2_with fail
      go_ret
      exact HE.out
end Go.Proofs.YtdenehnneloegaaGreatDoor
namespace Go.Proofs.YtdenehnneloegaaGreatDoor
open Go.RowKit Go.Shelf Go.Maps
set_option linter.unusedVariables false
set_option maxRecDepth 100000 in
set_option maxHeartbeats 1000000 in
theorem over1_any (x : ByteArray) (w : World) :
    Calls Tryz.prog 210 #[.string x] w fun e w' => e = .returned (.bool true) ∧ Below w.heap.size w w' := by
  go_enter Tryz.func210, Tryz.ntmps210
  go_wp2_with fail
  go_ret
  exact ⟨rfl, Below.refl _ _⟩
set_option maxRecDepth 100000 in
set_option maxHeartbeats 1000000 in
theorem over2_any (x : ByteArray) (b B k : Nat) (D : DataW Unit) (f : Txt → Nat) (w : World) (hx : x.size ≤ maxLen) (hb : w.heap[b]? = some (.cells #[.map (some B)] 95 (0, 0))) (hM : w.ownsMap Tryz.prog 9 (plainElem Tryz.prog 3) B k D) (hD : CntIs D f) :
    Calls Tryz.prog 211 #[.string x, .pointer (some ⟨b, 0, none⟩)] w fun e w' => e = .returned (.bool (decide (0 < f x.data.toList))) ∧ Below w.heap.size w w' := by
  obtain ⟨cX, _⟩ := cell_of_box_l hb
  have hrun := cnt_look hM hD x hx
  generalize f x.data.toList = c at hrun ⊢
  obtain ⟨z, hz⟩ : ∃ z : Int, z = (c : Int) := ⟨_, rfl⟩
  have e : decide (0 < c) = decide (0 < z) := by rw [hz]; simp
  rw [e]
  rw [← hz] at hrun
  clear hz hb hM hD e
  go_enter Tryz.func211, Tryz.ntmps211
  go_wp2_with fail
  go_ret
  exact ⟨rfl, Below.refl _ _⟩
end Go.Proofs.YtdenehnneloegaaGreatDoor
namespace Go.Proofs.YtdenehnneloegaaGreatDoor
open Go.RowKit Go.Shelf Go.Maps
open Go.Proofs (encStr)
set_option linter.unusedVariables false
set_option maxRecDepth 100000 in
/-- a round over the map of the second list: what comes, and that it fits -/
theorem over_come {D : DataW Unit} {ts us : List Txt} {left : Lit → Bool} {ss : List Txt} {x : Txt} {c : Int} {yd : DataW Unit} {yp : List MemPlace} (hD : CntIs D (fun l => if decide (0 < cntN l ts) = true then cntN l us else 0)) (hC : Collected D left ss) (hl : left (.string x) = true)
    (hv : plainElem Tryz.prog 3 (.int .i64 c) = some (yd, yp)) (hat : ∀ zd, D.atKey (.string x) zd = yd) :
    c = ((cntN x us : Nat) : Int) ∧ Collected D (fun z => left z && !z.sameKey (.string x)) (ss ++ [x]) ∧ sumN (fun s => min (cntN s us) (cntN s ts)) (ss ++ [x]) = sumN (fun s => min (cntN s us) (cntN s ts)) ss + min (cntN x us) (cntN x ts) ∧ sumN (fun s => min (cntN s us) (cntN s ts)) (ss ++ [x]) ≤ us.length := by
  have hs := hC.step hl hat
  have hh : has D (.string x) = true := has_true_of_atKey hat
  rw [hD.here] at hh
  have hp := of_decide_eq_true hh
  have h0 := hat (.lit (.int .i64 0))
  rw [hD.look] at h0
  obtain ⟨c', e1, e2, _⟩ := plainElem_int_inv Tryz.underlying3 hv
  cases e1
  simp only [Prod.mk.injEq] at e2
  rw [e2.1] at h0
  have e3 : (((if decide (0 < cntN x ts) = true then cntN x us else 0 : Nat)) : Int) = c := by injection h0 with h1; injection h1
  have hq : decide (0 < cntN x ts) = true := by
    by_cases h : decide (0 < cntN x ts) = true
    · exact h
    · simp only [h] at hp; simp at hp
  rw [if_pos hq] at e3
  refine ⟨e3.symm, hs, ?_, ?_⟩
  · rw [sum_append]; simp [sumN]
  · exact Nat.le_trans (sum_le_over ts us _ hs.1) (over_le2 ts us)
theorem over_done {D : DataW Unit} {ts us : List Txt} {left : Lit → Bool} {ss : List Txt} (hD : CntIs D (fun l => if decide (0 < cntN l ts) = true then cntN l us else 0)) (hC : Collected D left ss) (hl : ∀ kl, left kl = false) :
    sumN (fun s => min (cntN s us) (cntN s ts)) ss = overL ts us := by
  rw [over_sum ts us ss hC.1 (fun s h1 h2 => (hC.2 s).2 ⟨?_, hl _⟩)]
  rw [hD.here]
  have a := (cnt_pos s ts).2 h1
  have b := (cnt_pos s us).2 h2
  rw [if_pos (decide_eq_true a)]; exact decide_eq_true b
set_option maxRecDepth 100000 in
set_option maxHeartbeats 4000000 in
theorem over_any (ao bo : Option Addr) (ca cb : Nat) (xs ys : List ByteArray) (w : World) (hn : xs.length ≤ 1048576) (hm : ys.length ≤ 1048576) (hs : ∀ c ∈ xs, c.size ≤ maxLen) (ht : ∀ c ∈ ys, c.size ≤ maxLen) (hR : StrRow w ao xs) (hS : StrRow w bo ys) :
    Calls Tryz.prog 180 #[.slice ao xs.length ca, .slice bo ys.length cb] w fun e w' => e = .returned (.int .i64 ((overL (bytesOf xs) (bytesOf ys) : Nat) : Int)) ∧ Below w.heap.size w w' := by
  have C1 := Lib.hid (tally_any 210 #[] (fun _ => true) (enters_of Tryz.func210 (by kernel_rfl) rfl) ao ca xs w hn hs hR (fun x hx W hW => over1_any x W))
  have C2 := Lib.hid (fun (b B k : Nat) (D : DataW Unit) (f : Txt → Nat) (V : World) (hb : V.heap[b]? = some (.cells #[.map (some B)] 95 (0, 0))) (hM : V.ownsMap Tryz.prog 9 (plainElem Tryz.prog 3) B k D) (hD : CntIs D f) (hV : Below w.heap.size w V) =>
    tally_any 211 #[.pointer (some ⟨b, 0, none⟩)] (fun l => decide (0 < f l)) (enters_of Tryz.func211 (by kernel_rfl) rfl) bo cb ys V hm ht (hS.kept hV)
      (fun x hx W hW => over2_any x b B k D f W (ht x hx) ((hW.block _ (lt_of_heap hb)).trans hb) (ownsMap_below hM hW) hD))
  have HL : Hid (∀ x ∈ ys, x.size ≤ maxLen) := Lib.hid ht
  have hlen := bytes_len ys
  obtain ⟨N, hN⟩ : ∃ N, N = overL (bytesOf xs) (bytesOf ys) := ⟨_, rfl⟩
  rw [← hN]
  have HN := Lib.hid hN
  clear hR hS hs ht hN
  go_enter Tryz.func180, Tryz.ntmps180
  go_wp2_with fail
  refine C1.out.mono ?_
  rintro e w1 ⟨B1, D1, rfl, hB1, hM1, hD1, b1⟩
  obtain ⟨V, HV⟩ : ∃ V, Hid (V = w1.alloc (.cells #[.map (some B1)] 95)) := ⟨_, Lib.hid rfl⟩
  obtain ⟨X, hX⟩ : ∃ X, X = w1.heap.size := ⟨_, rfl⟩
  have hVB : Below w1.heap.size w1 V := by rw [HV.out]; exact (Below.refl _ _).alloc (Nat.le_refl _) _
  have hVX : V.heap[X]? = some (.cells #[.map (some B1)] 95 (0, 0)) := by rw [HV.out, hX]; exact World.alloc_heap_new _ _
  have hD1' : CntIs D1 (fun l => cntN l (bytesOf xs)) := hD1.same (fun l => by simp)
  have HB := Lib.hid (below_up b1 hVB)
  have HVX := Lib.hid hVX
  have HM1 := Lib.hid (ownsMap_below hM1 hVB)
  have HD1 := Lib.hid hD1'
  have C3 := Lib.hid (C2.out X B1 xs.length D1 _ V hVX HM1.out hD1' HB.out)
  have HX1 := Lib.hid (show w.heap.size ≤ X by rw [hX]; exact b1.size)
  have hXB : B1 < X := by rw [hX]; exact hM1.lt
  have HXB := Lib.hid hXB
  have HBB := Lib.hid hB1
  clear C2 C1 hD1 hD1' hVX hM1 b1 hVB hXB hB1
  go_upto_region 2 with fail
  rw [← HV.out, ← hX]
  clear HV hX
  go_wp2_with fail
  refine C3.out.mono ?_
  rintro e w2 ⟨B2, D2, rfl, hB2, hM2, hD2, b2⟩
  have HB2 := Lib.hid (below_up HB.out b2)
  have HX2 := Lib.hid ((b2.block X (lt_of_heap HVX.out)).trans HVX.out)
  have HMa := Lib.hid (ownsMap_below HM1.out b2)
  have hVs := lt_of_heap HVX.out
  have HNe := Lib.hid (show B2 ≠ X ∧ B2 ≠ B1 from ⟨by omega, by have := HXB.out; omega⟩)
  have HD2 := Lib.hid hD2
  have hszw := Lib.hid (Nat.le_trans HB.out.size b2.size)
  clear HB HVX HM1 C3 b2 hD2 hB2 hVs
  go_upto_region 4 with fail
  go_wp2_with (first
    | (at_range; refine wpList_range_own _ rfl _ 95 rfl 9 3 (string_keyed Tryz.underlying9) Tryz.underlying95 _ B2 ys.length _ rfl hM2 ?_; intro w0 hrg0 hg0 hs0)
    | go_in)
  go_frame
  obtain ⟨r, hr⟩ : ∃ r, r = w2.heap.size := ⟨_, rfl⟩
  rw [← hr] at hrg0 ⊢
  have h20 : Below w2.heap.size w2 w0 := ⟨hg0.os, hg0.tape, hg0.output, hg0.size, fun k hk => hg0.block k hk (by simp)⟩
  have HB0 := Lib.hid (HB2.out.trans (h20.mono hszw.out))
  have HX0 := Lib.hid ((h20.block X (lt_of_heap HX2.out)).trans HX2.out)
  have HM0 := Lib.hid (ownsMap_below HMa.out h20)
  have HRg := Lib.hid hrg0
  have HNr := Lib.hid (show X ≠ r ∧ B1 ≠ r ∧ w.heap.size ≤ r from ⟨by have := lt_of_heap HX2.out; omega, by have := HMa.out.lt; omega, by rw [hr]; exact hszw.out⟩)
  clear hs0 hg0 hrg0 hM2 hr h20 HB2 HX2 HMa hszw
  obtain ⟨g, hg⟩ : ∃ g : Txt → Nat, g = fun s => min (cntN s (bytesOf ys)) (cntN s (bytesOf xs)) := ⟨_, rfl⟩
  have HCo := Lib.hid (fun left ss x c yd yp hC hl hv hat => over_come (left := left) (ss := ss) (x := x) (c := c) (yd := yd) (yp := yp) HD2.out hC hl hv hat)
  have HDo := Lib.hid (fun left ss hC hl => over_done (left := left) (ss := ss) HD2.out hC hl)
  rw [← hg, hlen] at HCo
  rw [← hg, ← HN.out] at HDo
  clear hg hlen HN
  go_loopw [7] (fun n wr => ∃ (left : Lit → Bool) (cnt : Nat) (ss : List Txt), n = .int .i64 ((sumN g ss : Nat) : Int) ∧ Hid (wr.ranges Tryz.prog 9 (plainElem Tryz.prog 3) B2 r ys.length D2 left cnt) ∧ Hid (Collected D2 left ss) ∧ Hid (sumN g ss ≤ ys.length) ∧ Hid (Below w.heap.size w wr) ∧ Hid (wr.heap[X]? = some (.cells #[.map (some B1)] 95 (0, 0))) ∧ Hid (wr.ownsMap Tryz.prog 9 (plainElem Tryz.prog 3) B1 xs.length D1)) (fun _ wr => wr.rangeLeft B2 r)
  case atStart => exact ⟨_, _, [], by simp [sumN], HRg, Lib.hid (Collected.start D2), Lib.hid (by simp [sumN]), HB0, HX0, HM0⟩
  case round =>
    obtain ⟨left, cnt, ss, rfl, HRr, HC, HSm, HBr, HXr, HMr⟩ := hrel
    clear HRg HB0 HX0 HM0
    obtain ⟨z, hz⟩ : ∃ z : Int, z = ((sumN g ss : Nat) : Int) := ⟨_, rfl⟩
    rw [← hz]
    have HZ := Lib.hid hz
    clear hz
    go_wp2_with (first
      | (at_next; refine wpList_next_ranges _ rfl _ rfl 9 (string_keyed Tryz.underlying9) (plainElem Tryz.prog 3) encStr (Value.int .i64) (fun key kl hk => by obtain ⟨x, hx, _⟩ := Maps.keyOf_str Tryz.underlying9 hk; exact ⟨x, hx⟩) (fun v y hv => by obtain ⟨c, rfl, _⟩ := plainElem_int_inv Tryz.underlying3 hv; exact ⟨c, rfl⟩) B2 r ys.length _ _ _ rfl HRr.out ?_ ?_)
      | go_in)
    · intro hc0 hl0
      have HE := Lib.hid (HZ.out.trans (congrArg _ (HDo.out left ss HC.out hl0)))
      clear hl0 hc0
      go_wp2_with fail
      go_ret
      exact ⟨by rw [HE.out]; rfl, HBr.out⟩
    · intro x c kl yd yp w3 cnt3 hkey hlk hv hat hrg3 hlt3 hg3 hs3 hen
      obtain ⟨x', ex, rfl, hxl⟩ := Maps.keyOf_str Tryz.underlying9 hkey
      obtain rfl : x = x' := encStr_inj ex
      obtain ⟨hc, hC3, hsum, hle⟩ := HCo.out left ss x c yd yp HC.out hlk hv hat
      have HB3 := Lib.hid (HBr.out.grown hg3 HBr.out.size (fun j hj => by cases hj; exact HNr.out.2.2))
      have HX3 := Lib.hid ((hg3.block X (lt_of_heap HXr.out) (by simpa using HNr.out.1)).trans HXr.out)
      have HM3 := Lib.hid (HMr.out.kept hg3 (by simpa using HNr.out.2.1))
      have hlook := cnt_look HM3.out HD1.out ⟨x.toArray⟩ (by simpa [ByteArray.size] using hxl)
      have ex2 : (⟨x.toArray⟩ : ByteArray).data.toList = x := by simp
      rw [ex2] at hlook
      have hu := cnt_le x (bytesOf ys)
      have hv2 := cnt_le x (bytesOf xs)
      rw [bytes_len] at hu hv2
      obtain ⟨cX, _⟩ := cell_of_box_l HX3.out
      generalize cntN x (bytesOf ys) = u at hc hsum hu
      generalize cntN x (bytesOf xs) = v at hlook hsum hv2
      subst hc
      obtain ⟨m, hm⟩ : ∃ m, m = min u v := ⟨_, rfl⟩
      have hmin : (if (v : Int) < (u : Int) then (v : Int) else (u : Int)) = (m : Int) := by
        rw [hm]; split <;> omega
      rw [← hm] at hsum
      have hz := HZ.out
      have hwr : IntKind.i64.wrap (z + (m : Int)) = z + (m : Int) := IntWalk.i64_in _ (by omega)
      have HZ2 : Hid (z + (m : Int) = ((sumN g (ss ++ [x]) : Nat) : Int)) := Lib.hid (by omega)
      have HS2 := Lib.hid hle
      have HC4 := Lib.hid hC3
      have HR3 := Lib.hid hrg3
      have HL3 := Lib.hid hlt3
      clear hlk hv hat hkey hg3 hs3 hC3 hsum hle hm hz hrg3 hlt3 ex2 hu hv2 hxl
      have hmn : ∀ (ts : Array TypeId) (t : TypeId) (W : World), (Builtin.min_ ts t #[.int .i64 (u : Int), .int .i64 (v : Int)]).run Tryz.prog W = .ok (.int .i64 (m : Int)) W := fun ts t W => by
        rw [run_min_int2, hmin]
      clear hmin
      go_wp2_with fail
      go_roundw
      case rel => exact ⟨_, cnt3, ss ++ [x], by rw [HZ2.out], HR3, HC4, HS2, HB3, HX3, HM3⟩
      case measure => rw [HR3.out.left_eq, HRr.out.left_eq]; exact HL3.out
end Go.Proofs.YtdenehnneloegaaGreatDoor
