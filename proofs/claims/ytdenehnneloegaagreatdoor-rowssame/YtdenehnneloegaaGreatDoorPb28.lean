/-
  Texts of these rows' proofs, laid one behind the other: CTell.
  Conditions: those of each theorem.
-/
import Derived.Deep.OwnRows
import Derived.WalkKit
import Derived.WalkMore
import Derived.IntWalk
import Derived.WalkArith
import Derived.OwnWalkIn
import Derived.TacticsInMore
import Derived.LoopNIn
import Derived.LoopIn
import Derived.Lib.Hide
import Derived.RegionTactic
import Derived.Deep.RegionHeld3
import Derived.Stop.RegionWithIn
import Derived.Test.YtdenehnneloegaaGreatDoorProg
import Derived.Test.YtdenehnneloegaaGreatDoorPb1
import Derived.Test.YtdenehnneloegaaGreatDoorPb7
import Derived.Test.YtdenehnneloegaaGreatDoorPb22
import Derived.Test.YtdenehnneloegaaGreatDoorPb27
namespace Go.Proofs.YtdenehnneloegaaGreatDoor
open Go.RowKit Go.Shelf
set_option linter.unusedVariables false
attribute [local go_sem] Oper.semAt_some
/-! a box X of a slice that grows: what stays beside it -/
/-- the block of the slice in a box -/
def ownOf (X : Nat) (A : World) : Option Nat := match A.heap[X]? with | some (.cells cs _ _) => (cs[0]?).bind Value.ownBlock | _ => none
theorem ownOf_boxed {A : World} {X : Nat} {v : Value} {T : TypeId} {fr : Nat × Nat} (h : A.heap[X]? = some (.cells #[v] T fr)) : ownOf X A = v.ownBlock := by unfold ownOf; rw [h]; rfl
theorem ownOf_same {A B : World} {X : Nat} (h : B.heap[X]? = A.heap[X]?) : ownOf X B = ownOf X A := by unfold ownOf; rw [h]
structure KeepsY (X : Nat) (A B : World) : Prop where
  size : A.heap.size ≤ B.heap.size
  same : ∀ (k : Nat) (cs : Array Value) (T : TypeId) (fr : Nat × Nat), A.heap[k]? = some (.cells cs T fr) → k ≠ X → ownOf X A ≠ some k → B.heap[k]? = some (.cells cs T fr)
  new : ∀ k, ownOf X B = some k → ownOf X A = some k ∨ A.heap.size ≤ k
theorem KeepsY.refl (X : Nat) (A : World) : KeepsY X A A := ⟨Nat.le_refl _, fun _ _ _ _ h _ _ => h, fun _ h => .inl h⟩
theorem KeepsY.trans {X : Nat} {A B C : World} (h : KeepsY X A B) (k : KeepsY X B C) : KeepsY X A C := by
  refine ⟨Nat.le_trans h.size k.size, fun i cs T fr hi hX ho => ?_, fun i hi => ?_⟩
  · refine k.same i cs T fr (h.same i cs T fr hi hX ho) hX (fun e => ?_)
    rcases h.new i e with e | e
    · exact ho e
    · have := lt_of_heap hi; omega
  · rcases k.new i hi with e | e
    · exact h.new i e
    · exact .inr (Nat.le_trans h.size e)
theorem KeepsY.of_below {X : Nat} {A B : World} (hX : X < A.heap.size) (h : Below A.heap.size A B) : KeepsY X A B :=
  ⟨h.size, fun k cs T fr hk _ _ => (h.block k (lt_of_heap hk)).trans hk, fun k hk => .inl (by rw [ownOf_same (h.block X hX)] at hk; exact hk)⟩
theorem KeepsY.put {X l : Nat} {A : World} {o : Obj} (o' : Obj) (hX : X < l) (ho : A.heap[l]? = some o) (hc : o.isCells = false) : KeepsY X A (A.putObj l o') := by
  refine ⟨by simp, fun k cs T fr hk _ _ => ?_, fun k hk => .inl ?_⟩
  · have hne : k ≠ l := by rintro rfl; rw [hk] at ho; cases ho; cases hc
    rw [World.putObj_heap_other hne]; exact hk
  · rw [ownOf_same (World.putObj_heap_other (by omega))] at hk; exact hk
theorem KeepsY.append {A w3 : World} {X g n cap : Nat} {T : TypeId} {v : Value} {tmp : Obj} (hv : A.heap[X]? = some (.cells #[v] T (0, 0))) (hg : (A.alloc tmp).grownBy w3 v.ownBlock)
    (hl : v.ownBlock = some g ∨ g = A.heap.size + 1) (hq : (w3.setCell ⟨X, 0, none⟩ (.slice (some ⟨g, 0, none⟩) n cap)).heap[X]? = some (.cells #[.slice (some ⟨g, 0, none⟩) n cap] T (0, 0))) : KeepsY X A (w3.setCell ⟨X, 0, none⟩ (.slice (some ⟨g, 0, none⟩) n cap)) := by
  have ho := ownOf_boxed hv
  refine ⟨?_, fun k cs T' fr hk hX hne => ?_, fun k hk => ?_⟩
  · have := hg.size; simp at this ⊢; omega
  · have hlt := lt_of_heap hk
    rw [heap_setCell_other _ _ _ _ (by show k ≠ X; exact hX), hg.block k (by simp; omega) (fun e => hne (by rw [ho]; exact e.symm)), Below.heap_alloc _ _ _ hlt]
    exact hk
  · rw [ownOf_boxed hq] at hk
    have hk' : g = k := by simpa [Value.ownBlock] using hk
    subst hk'
    rw [ho]
    rcases hl with e | e
    · exact .inl e
    · exact .inr (by omega)
theorem cell_block {w : World} {A : Addr} {u : Value} (h : w.cell? A = some u) : ∃ cs T fr, w.heap[A.block]? = some (.cells cs T fr) := by
  unfold World.cell? at h
  cases hb : w.heap[A.block]? with
  | none => rw [hb] at h; cases h
  | some o =>
    cases o with
    | cells cs T fr => exact ⟨cs, T, fr, rfl⟩
    | _ => rw [hb] at h; cases h
theorem block_ne {w : World} {A : Addr} {b : Nat} {cs : Array Value} {T : TypeId} {fr : Nat × Nat} {u : Value} (hb : w.heap[b]? = some (.cells cs T fr)) (hcs : ∀ j : Nat, cs[j]? ≠ some u) (h : w.cell? A = some u) : A.block ≠ b := fun e => by
  unfold World.cell? at h
  rw [e, hb] at h
  simp only at h
  split at h
  · cases h
  · exact hcs _ h
theorem KeepsY.cell {X : Nat} {A B : World} (K : KeepsY X A B) (h0 : ownOf X A = none) {P : Addr} {u : Value} (hne : P.block ≠ X) (h : A.cell? P = some u) : B.cell? P = some u := by
  obtain ⟨cs, T, fr, hb⟩ := cell_block h
  exact (World.cell?_of_block (a := P) ((K.same _ cs T fr hb hne (by rw [h0]; simp)).trans hb.symm)).trans h
theorem nil_no {u : Value} (hu : u ≠ .slice none 0 0) : ∀ j : Nat, (#[Value.slice none 0 0] : Array Value)[j]? ≠ some u := fun j h => by
  cases j with
  | zero => simp at h; exact hu h.symm
  | succ j => simp at h
theorem KeepsY.ints {X : Nat} {A B : World} (K : KeepsY X A B) {T : TypeId} (hX : A.heap[X]? = some (.cells #[.slice none 0 0] T (0, 0))) {ao : Option Addr} {l : List Int} (h : IntsAt A ao l) : IntsAt B ao l := by
  rcases h with h | ⟨P, h1, h2, h3⟩
  · exact .inl h
  · exact .inr ⟨P, h1, Nat.lt_of_lt_of_le h2 K.size, fun i p hp => K.cell (ownOf_boxed hX) (block_ne hX (nil_no (by simp)) (h3 i p hp)) (h3 i p hp)⟩
theorem KeepsY.strs {X : Nat} {A B : World} (K : KeepsY X A B) {T : TypeId} (hX : A.heap[X]? = some (.cells #[.slice none 0 0] T (0, 0))) {ao : Option Addr} {l : List ByteArray} (h : StrRow A ao l) : StrRow B ao l := by
  rcases h with h | ⟨P, h1, h2, h3⟩
  · exact .inl h
  · exact .inr ⟨P, h1, Nat.lt_of_lt_of_le h2 K.size, fun i p hp => K.cell (ownOf_boxed hX) (block_ne hX (nil_no (by simp)) (h3 i p hp)) (h3 i p hp)⟩
theorem KeepsY.rows {X : Nat} {A B : World} (K : KeepsY X A B) {T : TypeId} (hX : A.heap[X]? = some (.cells #[.slice none 0 0] T (0, 0))) {ao : Option Addr} {l : List (List ByteArray)} (hne : ∀ P, ao = some P → X < P.block) (h : RowsAt A ao l) : RowsAt B ao l := by
  rcases h with h | ⟨P, h1, h2, h3⟩
  · exact .inl h
  · refine .inr ⟨P, h1, Nat.lt_of_lt_of_le h2 K.size, fun i r hr => ?_⟩
    obtain ⟨ro, cap, h4, h5⟩ := h3 i r hr
    exact ⟨ro, cap, K.cell (ownOf_boxed hX) (by rw [add_block]; have := hne P h1; omega) h4, K.strs hX h5⟩
/-! all choices, one by one -/
def encT3 (x : T3) : Array Value := #[.agg #[.int .i64 x.1, .int .i64 x.2.1, .int .i64 x.2.2]]
section
variable (ra rb : List (List ByteArray)) (ha hb : List ByteArray)
def rowAll (p : Int) (qs : List Int) : TL := qs.map fun q => (p, q, (scoreC ra rb ha hb p q : Int))
def allOf (ps qs : List Int) : TL := ps.flatMap fun p => rowAll ra rb ha hb p qs
def upAll (ps qs : List Int) (i k : Nat) : TL := allOf ra rb ha hb (ps.take i) qs ++ rowAll ra rb ha hb (ps.getD i 0) (qs.take k)
theorem rowAll_snoc (p : Int) (qs : List Int) (k : Nat) (q : Int) (hq : qs[k]? = some q) : rowAll ra rb ha hb p (qs.take (k + 1)) = rowAll ra rb ha hb p (qs.take k) ++ [(p, q, (scoreC ra rb ha hb p q : Int))] := by
  obtain ⟨hk, e⟩ := List.getElem?_eq_some_iff.1 hq
  unfold rowAll
  rw [List.take_succ_eq_append_getElem hk, e, List.map_append]; rfl
theorem allOf_snoc (ps qs : List Int) (i : Nat) (p : Int) (hp : ps[i]? = some p) : allOf ra rb ha hb (ps.take (i + 1)) qs = allOf ra rb ha hb (ps.take i) qs ++ rowAll ra rb ha hb p qs := by
  obtain ⟨hk, e⟩ := List.getElem?_eq_some_iff.1 hp
  unfold allOf
  rw [List.take_succ_eq_append_getElem hk, e, List.flatMap_append]; simp
theorem upAll_next (ps qs : List Int) (i k : Nat) (p q : Int) (hp : ps[i]? = some p) (hq : qs[k]? = some q) : upAll ra rb ha hb ps qs i (k + 1) = upAll ra rb ha hb ps qs i k ++ [(p, q, (scoreC ra rb ha hb p q : Int))] := by
  unfold upAll
  rw [List.getD_eq_getElem?_getD, hp, Option.getD_some, rowAll_snoc ra rb ha hb p qs k q hq, List.append_assoc]
theorem upAll_pre (ps qs : List Int) (i k : Nat) (p : Int) (hp : ps[i]? = some p) : upAll ra rb ha hb ps qs i k <+: allOf ra rb ha hb ps qs := by
  have e1 : allOf ra rb ha hb ps qs = allOf ra rb ha hb (ps.take (i + 1)) qs ++ allOf ra rb ha hb (ps.drop (i + 1)) qs := by
    conv => lhs; rw [← List.take_append_drop (i + 1) ps]
    unfold allOf; rw [List.flatMap_append]
  have e2 : rowAll ra rb ha hb p qs = rowAll ra rb ha hb p (qs.take k) ++ rowAll ra rb ha hb p (qs.drop k) := by
    conv => lhs; rw [← List.take_append_drop k qs]
    unfold rowAll; rw [List.map_append]
  unfold upAll
  rw [List.getD_eq_getElem?_getD, hp, Option.getD_some, e1, allOf_snoc ra rb ha hb ps qs i p hp, e2]
  simp only [List.append_assoc]
  exact List.prefix_append_right_inj _ |>.2 (List.prefix_append _ _)
theorem upAll_row (ps qs : List Int) (i : Nat) (h : i < ps.length) : upAll ra rb ha hb ps qs i qs.length = upAll ra rb ha hb ps qs (i + 1) 0 := by
  have hp : ps[i]? = some ps[i] := List.getElem?_eq_getElem h
  unfold upAll
  rw [List.take_length, allOf_snoc ra rb ha hb ps qs i _ hp, List.getD_eq_getElem?_getD, hp]
  simp [rowAll]
theorem upAll_zero (ps qs : List Int) : upAll ra rb ha hb ps qs 0 0 = [] := by simp [upAll, allOf, rowAll]
theorem upAll_all (ps qs : List Int) : upAll ra rb ha hb ps qs ps.length 0 = allOf ra rb ha hb ps qs := by simp [upAll, rowAll]
theorem allOf_len (qs : List Int) : ∀ ps : List Int, (allOf ra rb ha hb ps qs).length = ps.length * qs.length
  | [] => by simp [allOf]
  | p :: ps => by
    have h1 := allOf_len qs ps
    unfold allOf at h1 ⊢
    rw [List.flatMap_cons, List.length_append, h1, List.length_cons, Nat.succ_mul]
    simp [rowAll]; omega
/-- whether a choice may be -/
def mayT (m : Int) (c : T3) : Bool := decide (m < 2 * c.2.2)
theorem all_may (ps qs : List Int) : (allOf ra rb ha hb ps qs).filter (mayT (max (ra.length : Int) rb.length)) = choicesOf ra rb ha hb ps qs := by
  unfold allOf choicesOf
  rw [List.filter_flatMap]
  congr 1
  funext p
  unfold rowAll choiceRow
  induction qs with
  | nil => rfl
  | cons q qs ih =>
    rw [List.map_cons, List.filter_cons, List.filterMap_cons, ih]
    have e : mayT (max (ra.length : Int) rb.length) (p, q, (scoreC ra rb ha hb p q : Int)) = mayC ra rb (scoreC ra rb ha hb p q) := by
      unfold mayT mayC
      dsimp only
      rw [← Bool.decide_and]
      exact decide_eq_decide.2 (by omega)
    rw [e]
    unfold choiceO
    by_cases h : mayC ra rb (scoreC ra rb ha hb p q) = true
    · simp [h]
    · simp [h]
end
theorem cellL_mem (rs : List (List ByteArray)) (r c : Int) : cellL rs r c = ⟨#[]⟩ ∨ ∃ x ∈ rs, cellL rs r c ∈ x := by
  unfold cellL
  split
  · cases h1 : rs[r.toNat]? with
    | none => exact .inl rfl
    | some x =>
      cases h2 : x[c.toNat]? with
      | none => left; simp [h2]
      | some y => right; exact ⟨x, List.mem_of_getElem? h1, by simp [h2]; exact List.mem_of_getElem? h2⟩
  · exact .inl rfl
theorem column_few (hd : List ByteArray) (rs : List (List ByteArray)) (c : Int) : (columnT hd rs c).length ≤ rs.length := by
  unfold columnT; split
  · rw [colL_len]; exact Nat.le_refl _
  · simp
theorem column_sizes (hd : List ByteArray) (rs : List (List ByteArray)) (c : Int) (m : Nat) (h : ∀ r ∈ rs, ∀ x ∈ r, x.size ≤ m) : ∀ x ∈ columnT hd rs c, x.size ≤ m := by
  intro x hx
  unfold columnT at hx
  split at hx
  · unfold colL at hx
    obtain ⟨i, _, rfl⟩ := List.mem_map.1 hx
    rcases cellL_mem rs i c with e | ⟨r, hr, hm⟩
    · rw [e]; exact Nat.zero_le _
    · exact h r hr _ hm
  · cases hx
theorem TabIn.cells {w : World} {ho : Option Addr} {hc : Nat} {hd : List ByteArray} {ro : Option Addr} {rc : Nat} {rs : List (List ByteArray)} (h : TabIn w ho hc hd ro rc rs) : ∀ r ∈ rs, ∀ x ∈ r, x.size ≤ 100000 := fun r hr x hx =>
  h.size x (by simp only [allT, List.mem_append, List.mem_flatten]; exact .inr ⟨r, hr, hx⟩)
theorem yield_end {J K Jx : Prop} {e : Ending} (h : (e = .returned (.bool true) ∧ J ∧ K) ∨ (e = .returned (.bool false) ∧ Jx)) : ∃ b, e = .returned (.bool b) ∧ (b = true → J ∧ K) ∧ (b = false → Jx) := by
  rcases h with ⟨rfl, h⟩ | ⟨rfl, h⟩
  · exact ⟨true, rfl, fun _ => h, fun e => by cases e⟩
  · exact ⟨false, rfl, fun e => (by cases e), fun _ => h⟩
set_option maxRecDepth 100000 in
set_option maxHeartbeats 4000000 in
theorem choices1_tells (n X Bn Ba Bb : Nat) (ho : Option Addr) (hc : Nat) (ha : List ByteArray) (ro : Option Addr) (rc : Nat) (ra : List (List ByteArray)) (bo : Option Addr) (bc : Nat) (hb : List ByteArray) (so : Option Addr) (sc : Nat) (rb : List (List ByteArray)) (lo : Option Addr) (lc : Nat) (l : PL) (w : World)
    (hA : TabIn w ho hc ha ro rc ra) (hB : TabIn w bo bc hb so sc rb) (hP : PairsAt w lo l) (hok : okP l) (hll : l.length ≤ 1024)
    (hbn : w.heap[Bn]? = some (.cells #[.slice lo l.length lc] 26 (0, 0))) (hba : w.heap[Ba]? = some (TabO ho ha.length hc ro ra.length rc)) (hbb : w.heap[Bb]? = some (TabO bo hb.length bc so rb.length sc)) (hX : X < w.heap.size) :
    Tells Fence.wide n Tryz.prog 178 #[.pointer (some ⟨Bn, 0, none⟩), .pointer (some ⟨Ba, 0, none⟩), .pointer (some ⟨Bb, 0, none⟩)] encT3 (KeepsY X) (fun pre x _ => pre ++ [x] <+: allOf ra rb ha hb (freeA ha l) (freeB hb l)) (fun pre A => pre = [] → A.heap[X]? = some (.cells #[.slice none 0 0] 68 (0, 0))) (fun xs => xs = allOf ra rb ha hb (freeA ha l) (freeB hb l)) (fun _ => True) w := by
  intro lp J Jx W hW hJ hJx hRm hY h0
  have HY := Lib.hid hY
  have HSt := Lib.hid hJ
  have HRm := Lib.hid hRm
  have H0 := Lib.hid h0
  have hbn1 := (hW.block Bn (lt_of_heap hbn)).trans hbn
  have hba1 := (hW.block Ba (lt_of_heap hba)).trans hba
  have hbb1 := (hW.block Bb (lt_of_heap hbb)).trans hbb
  have box : Hid (∀ V, Below W.heap.size W V → V.cell? ⟨Bn, 0, none⟩ = some (.slice lo l.length lc) ∧ (V.cell? ⟨Ba, 0, none⟩ = some (.slice ho ha.length hc) ∧ V.cell? ⟨Ba, 1, none⟩ = some (.slice ro ra.length rc)) ∧ V.cell? ⟨Bb, 0, none⟩ = some (.slice bo hb.length bc) ∧ V.cell? ⟨Bb, 1, none⟩ = some (.slice so rb.length sc)) :=
    Lib.hid (fun V h => ⟨(cell_of_box_l ((h.block Bn (lt_of_heap hbn1)).trans hbn1)).1, tabs ((h.block Ba (lt_of_heap hba1)).trans hba1), tabs ((h.block Bb (lt_of_heap hbb1)).trans hbb1)⟩)
  have hXW : X < W.heap.size := Nat.lt_of_lt_of_le hX hW.size
  have HA1 := Lib.hid (fun V (h : Below W.heap.size W V) => (hA.kept hW).kept h)
  have HB1 := Lib.hid (fun V (h : Below W.heap.size W V) => (hB.kept hW).kept h)
  have C1 : Hid (∀ V, Below W.heap.size W V → Calls Tryz.prog 96 #[.slice lo l.length lc, .int .i64 (ha.length : Int)] V (IntsOut (freeA ha l) V)) := Lib.hid (fun V h => restA_any lo lc l (ha.length : Int) V (by omega) hok ((hP.kept hW).kept h) (by omega) (by have := hA.hl; omega))
  have C2 : Hid (∀ V, Below W.heap.size W V → Calls Tryz.prog 97 #[.slice lo l.length lc, .int .i64 (hb.length : Int)] V (IntsOut (freeB hb l) V)) := Lib.hid (fun V h => restB_any lo lc l (hb.length : Int) V (by omega) hok ((hP.kept hW).kept h) (by omega) (by have := hB.hl; omega))
  have HPl : Hid ((freeA ha l).length ≤ 60) := Lib.hid (Nat.le_trans (outOf_le _ _) hA.hl)
  have HQl : Hid ((freeB hb l).length ≤ 60) := Lib.hid (Nat.le_trans (outOf_le _ _) hB.hl)
  have HLA : Hid (∀ c, (columnT ha ra c).length ≤ 1048576 ∧ ∀ x ∈ columnT ha ra c, x.size ≤ maxLen) := Lib.hid (fun c => ⟨by have := column_few ha ra c; have := hA.rl; omega, fun x hx => by have := column_sizes ha ra c 100000 hA.cells x hx; unfold maxLen; omega⟩)
  have HLB : Hid (∀ c, (columnT hb rb c).length ≤ 1048576 ∧ ∀ x ∈ columnT hb rb c, x.size ≤ maxLen) := Lib.hid (fun c => ⟨by have := column_few hb rb c; have := hB.rl; omega, fun x hx => by have := column_sizes hb rb c 100000 hB.cells x hx; unfold maxLen; omega⟩)
  clear hJ hJx hRm hY h0 hW hbn hba hbb hbn1 hba1 hbb1 hX hA hB hP hok
  generalize freeA ha l = ps at C1 HPl HY ⊢
  generalize freeB hb l = qs at C2 HQl HY ⊢
  obtain ⟨O, HQ⟩ : ∃ O : Nat → Nat → TL, Hid (O = upAll ra rb ha hb ps qs) := ⟨_, Lib.hid rfl⟩
  have HNx : Hid (∀ (i k : Nat) p q, ps[i]? = some p → qs[k]? = some q → O i (k + 1) = O i k ++ [(p, q, (scoreC ra rb ha hb p q : Int))]) := Lib.hid (fun i k p q h1 h2 => by rw [HQ.out]; exact upAll_next ra rb ha hb ps qs i k p q h1 h2)
  have HRow : Hid (∀ i, i < ps.length → O i qs.length = O (i + 1) 0) := Lib.hid (fun i h => by rw [HQ.out]; exact upAll_row ra rb ha hb ps qs i h)
  have HPre : Hid (∀ (i k : Nat) p, ps[i]? = some p → O i k <+: allOf ra rb ha hb ps qs) := Lib.hid (fun i k p h => by rw [HQ.out]; exact upAll_pre ra rb ha hb ps qs i k p h)
  have HZ : Hid (O 0 0 = []) := Lib.hid (by rw [HQ.out]; exact upAll_zero _ _ _ _ _ _)
  have HAll : Hid (O ps.length 0 = allOf ra rb ha hb ps qs) := Lib.hid (by rw [HQ.out]; exact upAll_all _ _ _ _ _ _)
  generalize allOf ra rb ha hb ps qs = AL at HY HPre HAll ⊢
  have HSc : Hid (∀ p q, scoreC ra rb ha hb p q = overL (bytesOf (columnT ha ra p)) (bytesOf (columnT hb rb q))) := Lib.hid (fun p q => rfl)
  obtain ⟨a0, ⟨b0, b1⟩, c0, c1⟩ := box.out W (Below.refl _ _)
  have HBel : Hid (Below W.heap.size W W.drew) := Lib.hid ((Below.refl _ W).drew)
  refine callsIn_of_wp Tryz.func178 rfl trivial ?_ rfl
  simp only [Tryz.ntmps178, List.size_toArray, List.length_cons, List.length_nil, Nat.reduceAdd, Nat.reduceSub, Array.replicate_succ, Array.replicate_zero, List.push_toArray, List.append_toArray, List.nil_append, List.cons_append]
  gi_wp2_with fail
  refine wpIn_wide.2 ?_
  go_region_held3 (fun V => V.cell? ⟨Bn, 0, none⟩ = some (.slice lo l.length lc) ∧ V.cell? ⟨Ba, 0, none⟩ = some (.slice ho ha.length hc) ∧ V.cell? ⟨Ba, 1, none⟩ = some (.slice ro ra.length rc) ∧ V.cell? ⟨Bb, 0, none⟩ = some (.slice bo hb.length bc) ∧ V.cell? ⟨Bb, 1, none⟩ = some (.slice so rb.length sc)) ((refine ⟨?_, ?_, ?_, ?_, ?_⟩ <;> first | assumption | go_keep))
    (first
      | (go_at_call 96; refine (C1.out _ HBel.out).mono ?_; rintro e w3 ⟨po, pc, rfl, hp, -, -, b2⟩; have HP := Lib.hid hp; have HBel := Lib.hid (below_up HBel.out b2); obtain ⟨a0, ⟨b0, b1⟩, c0, c1⟩ := box.out w3 HBel.out; clear hp b2 C1)
      | (go_at_call 97; refine (C2.out _ HBel.out).mono ?_; rintro e w4 ⟨qo, qc, rfl, hq, -, -, b2⟩; have HP := Lib.hid (HP.out.kept b2); have HQs := Lib.hid hq; have HBel := Lib.hid (below_up HBel.out b2); obtain ⟨a0, ⟨b0, b1⟩, c0, c1⟩ := box.out w4 HBel.out; clear hq b2 C2))
  rename_i hHeld
  clear hHeld a0 b0 b1 c0 c1
  have HJ4 := Lib.hid (HSt.out [] _ _ H0.out HBel.out)
  have boxV : Hid (∀ V, Below w4.heap.size w4 V → (V.cell? ⟨Ba, 0, none⟩ = some (.slice ho ha.length hc) ∧ V.cell? ⟨Ba, 1, none⟩ = some (.slice ro ra.length rc)) ∧ V.cell? ⟨Bb, 0, none⟩ = some (.slice bo hb.length bc) ∧ V.cell? ⟨Bb, 1, none⟩ = some (.slice so rb.length sc)) := Lib.hid (fun V h => (box.out V (below_up HBel.out h)).2)
  have D1 := Lib.hid (fun V (h : Below w4.heap.size w4 V) => columns_any ho hc ha ro rc ra po pc ps V (by have := HPl.out; omega) (HA1.out V (below_up HBel.out h)) (HP.out.kept h))
  have D2 := Lib.hid (fun V (h : Below w4.heap.size w4 V) => columns_any bo bc hb so sc rb qo qc qs V (by have := HQl.out; omega) (HB1.out V (below_up HBel.out h)) (HQs.out.kept h))
  have hX4 : X < w4.heap.size := Nat.lt_of_lt_of_le hXW HBel.out.size
  clear box HA1 HB1 HBel hXW H0
  obtain ⟨⟨b0, b1⟩, c0, c1⟩ := boxV.out w4 (Below.refl _ _)
  have HBel : Hid (Below w4.heap.size w4 w4.drew) := Lib.hid ((Below.refl _ w4).drew)
  gi_wp2_with fail
  refine wpIn_wide.2 ?_
  go_region_held3 (fun V => V.cell? ⟨Ba, 0, none⟩ = some (.slice ho ha.length hc) ∧ V.cell? ⟨Ba, 1, none⟩ = some (.slice ro ra.length rc) ∧ V.cell? ⟨Bb, 0, none⟩ = some (.slice bo hb.length bc) ∧ V.cell? ⟨Bb, 1, none⟩ = some (.slice so rb.length sc)) ((refine ⟨?_, ?_, ?_, ?_⟩ <;> first | assumption | go_keep))
    (first
      | (go_at_call 179; refine (D1.out _ HBel.out).mono ?_; rintro e w5 ⟨ka, rfl, hp, hf, b2⟩; have HKa := Lib.hid hp; have HFa : Hid (∀ A, ka = some A → X < A.block) := Lib.hid (fun A h => Nat.lt_of_lt_of_le (Nat.lt_of_lt_of_le hX4 HBel.out.size) (hf A h)); have HBel := Lib.hid (below_up HBel.out b2); obtain ⟨⟨b0, b1⟩, c0, c1⟩ := boxV.out w5 HBel.out; clear hp hf b2 D1)
      | (go_at_call 179; refine (D2.out _ HBel.out).mono ?_; rintro e w6 ⟨kb, rfl, hp, hf, b2⟩; have HKa := Lib.hid (HKa.out.kept b2); have HKb := Lib.hid hp; have HFb : Hid (∀ A, kb = some A → X < A.block) := Lib.hid (fun A h => Nat.lt_of_lt_of_le (Nat.lt_of_lt_of_le hX4 HBel.out.size) (hf A h)); have HBel := Lib.hid (below_up HBel.out b2); obtain ⟨⟨b0, b1⟩, c0, c1⟩ := boxV.out w6 HBel.out; clear hp hf b2 D2))
  rename_i hHeld
  clear hHeld b0 b1 c0 c1
  have HJ6 : Hid (J (O 0 0) w6) := Lib.hid (by rw [HZ.out]; exact HSt.out [] _ _ HJ4.out HBel.out)
  have HX6 := Lib.hid (HRm.out [] w6 (by have := HJ6.out; rwa [HZ.out] at this) rfl)
  have HPs := Lib.hid (HP.out.kept HBel.out)
  have HQ6 := Lib.hid (HQs.out.kept HBel.out)
  have hX6 : X < w6.heap.size := Nat.lt_of_lt_of_le hX4 HBel.out.size
  have hpl := HPl.out
  have hql := HQl.out
  clear boxV HBel hX4 HJ4 HP HQs
  gi_wp2_with fail
  gi_loopw [31] (fun i wr => ∃ k : Nat, k ≤ ps.length ∧ i = .int .i64 k ∧ Hid (J (O k 0) wr) ∧ Hid (KeepsY X w6 wr)) (fun i _ => ps.length - (intOf i).toNat)
  case atStart => exact ⟨0, Nat.zero_le _, rfl, HJ6, Lib.hid (KeepsY.refl _ _)⟩
  case round =>
    obtain ⟨k, hk, rfl, HJ, HK⟩ := hrel
    by_cases hlt : k < ps.length
    · obtain ⟨p, hp⟩ : ∃ p, ps[k]? = some p := ⟨_, List.getElem?_eq_getElem hlt⟩
      have HPk := Lib.hid hp
      rcases (HK.out.ints HX6.out HPs.out) with h0 | ⟨A, rfl, hA, hcell⟩
      · rw [h0] at hlt; simp at hlt
      have ci := hcell k p hp
      clear hcell hp
      gi_wp2_with fail
      gi_loopw [38] (fun i wr => ∃ j : Nat, j ≤ qs.length ∧ i = .int .i64 j ∧ Hid (J (O k j) wr) ∧ Hid (KeepsY X w6 wr)) (fun i _ => qs.length - (intOf i).toNat)
      case atStart => exact ⟨0, Nat.zero_le _, rfl, HJ, HK⟩
      case round =>
        clear HJ HK ci
        obtain ⟨j, hj, rfl, HJ, HK⟩ := hrel
        by_cases hjl : j < qs.length
        · obtain ⟨q, hq⟩ : ∃ q, qs[j]? = some q := ⟨_, List.getElem?_eq_getElem hjl⟩
          have HN := Lib.hid (HNx.out k j p q HPk.out hq)
          have HOk : Hid (O k j ++ [(p, q, (scoreC ra rb ha hb p q : Int))] <+: AL) := Lib.hid (by rw [← HN.out]; exact HPre.out k (j + 1) p HPk.out)
          rcases (HK.out.ints HX6.out HQ6.out) with h0 | ⟨B, rfl, hB, hcell⟩
          · rw [h0] at hjl; simp at hjl
          have cj := hcell j q hq
          rcases (HK.out.rows HX6.out HFa.out HKa.out) with h0 | ⟨Ka, rfl, hKa, hrow⟩
          · rw [List.map_eq_nil_iff] at h0; rw [h0] at hlt; simp at hlt
          rcases (HK.out.rows HX6.out HFb.out HKb.out) with h0 | ⟨Kb, rfl, hKb, hrow2⟩
          · rw [List.map_eq_nil_iff] at h0; rw [h0] at hjl; simp at hjl
          obtain ⟨xo, xc, hx1, hx2⟩ := hrow k (columnT ha ra p) (by rw [List.getElem?_map, HPk.out]; rfl)
          obtain ⟨yo, yc, hy1, hy2⟩ := hrow2 j (columnT hb rb q) (by rw [List.getElem?_map, hq]; rfl)
          obtain ⟨cx, hcx⟩ : ∃ c, c = xc.1 := ⟨_, rfl⟩
          obtain ⟨cy, hcy⟩ : ∃ c, c = yc.1 := ⟨_, rfl⟩
          rw [← hcx] at hx1
          rw [← hcy] at hy1
          clear hcx hcy xc yc
          have D3 := Lib.hid (fun V (h : Below wr.heap.size wr V) => over_any xo yo cx cy (columnT ha ra p) (columnT hb rb q) V (HLA.out p).1 (HLB.out q).1 (HLA.out p).2 (HLB.out q).2 (hx2.kept h) (hy2.kept h))
          have HY1 := Lib.hid (fun V (h : Below wr.heap.size wr V) => HY.out (O k j) (p, q, (scoreC ra rb ha hb p q : Int)) V (HSt.out _ _ _ HJ.out h) HOk.out)
          rw [← HSc.out p q] at D3
          have HXr : Hid (X < wr.heap.size) := Lib.hid (Nat.lt_of_lt_of_le hX6 HK.out.size)
          generalize scoreC ra rb ha hb p q = s at D3 HY1 HN HOk
          generalize columnT ha ra p = xs at hx1 hx2 D3
          generalize columnT hb rb q = ys at hy1 hy2 D3
          have HBel : Hid (Below wr.heap.size wr wr.drew) := Lib.hid ((Below.refl _ wr).drew)
          clear hrow hrow2 hcell hq hx2 hy2 HOk
          gi_wp2_with fail
          gi_region_with (first
            | (refine ⟨trivial, (fun h => by cases h), (callsIn_wide.2 (D3.out _ HBel.out)).mono ?_⟩; rintro e w7 ⟨rfl, b7⟩; have B7 := Lib.hid (below_up HBel.out b7); obtain ⟨fn, tmps, assign, body, hy, hR⟩ := HY1.out w7 B7.out; dsimp only [encT3] at hy; have HR := Lib.hid hR; clear hR b7 D3 HY1)
            | (refine ⟨(fun h => by cases h), HR.out.mono ?_⟩; intro e W3 hh; obtain ⟨b, rfl, hT, hF⟩ := yield_end hh; have HTr := Lib.hid hT; have HFl := Lib.hid hF; clear hh hT hF HR))
          all_goals
            (cases b with
            | true =>
              obtain ⟨hJ3, hK3⟩ := HTr.out rfl
              have HJ3 : Hid (J (O k (j + 1)) W3) := Lib.hid (by rw [HN.out]; exact hJ3)
              have HK3 : Hid (KeepsY X w6 W3) := Lib.hid ((HK.out.trans (KeepsY.of_below HXr.out B7.out)).trans hK3)
              clear hJ3 hK3 HTr HFl HK HJ HN
              gi_wp2_with fail
              go_roundw
              case rel => exact ⟨j + 1, by omega, by go_num, HJ3, HK3⟩
              case measure => simp [intOf]; omega
            | false =>
              have HXx := Lib.hid (HFl.out rfl)
              clear HTr HFl HK HJ HN
              gi_wp2_with fail
              (first | go_end0 | (refine bodyPost_ret (results_none rfl _ _ _) rfl ?_) | (simp only [Exit.noGoto]; go_end0) | trace_state)
              exact ⟨⟨_, rfl⟩, .inr ⟨_, trivial, HXx.out⟩⟩)
        · obtain rfl : j = qs.length := by omega
          have HJ2 : Hid (J (O (k + 1) 0) wr) := Lib.hid (by rw [← HRow.out k hlt]; exact HJ.out)
          gi_wp2_with fail
          go_roundw
          case rel => exact ⟨k + 1, by omega, by go_num, HJ2, HK⟩
          case measure => first | (simp [intOf]; omega) | omega | go_num
    · obtain rfl : k = ps.length := by omega
      have HE : Hid (J AL wr) := Lib.hid (by rw [← HAll.out]; exact HJ.out)
      gi_wp2_with fail
      (first | go_end0 | (refine bodyPost_ret (results_none rfl _ _ _) rfl ?_) | (simp only [Exit.noGoto]; go_end0) | trace_state)
      exact ⟨⟨_, rfl⟩, .inl ⟨_, rfl, HE.out⟩⟩
end Go.Proofs.YtdenehnneloegaaGreatDoor
