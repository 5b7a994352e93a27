/-
  Texts of these rows' proofs, laid one behind the other: TSum, TSame, TCopy, TTwice.
  Conditions: those of each theorem.
-/
import Derived.WalkKit
import Derived.Lib.Hide
import Derived.Test.YtdenehnneloegaaGreatDoorProg
import Derived.Test.YtdenehnneloegaaGreatDoorPb1
import Derived.WalkMore
import Derived.Deep.RegionWith
import Derived.StillTailTactics
import Derived.Lib.QuietBelow
import Derived.Shelf.LaysM
import Derived.Shelf.Strconv.Clone
import Derived.OwnWalk
import Derived.Laws.OwnMore
import Derived.Maps.Own
import Derived.Maps.OwnOps
import Derived.Maps.Views
import Derived.StringKeys
namespace Go.Proofs.YtdenehnneloegaaGreatDoor
open Go.RowKit Go.Shelf
attribute [local go_sem] Oper.semAt_some
theorem heap_put {A : World} {l : Nat} {o o' : Obj} (hl : A.heap[l]? = some o) (ho : o.isCells = false) {b : Nat} {cs : Array Value} {t : TypeId} {fr : Nat × Nat} (h : A.heap[b]? = some (.cells cs t fr)) : (A.putObj l o').heap[b]? = some (.cells cs t fr) := by
  have hne : b ≠ l := by
    rintro rfl
    rw [h] at hl; cases hl; cases ho
  rw [World.putObj_heap_other hne]; exact h
theorem below_put {n : Nat} {w A : World} {l : Nat} (o' : Obj) (h : Below n w A) (hl : n ≤ l) : Below n w (A.putObj l o') :=
  ⟨h.os, h.tape, h.output, by simpa using h.size, fun k hk => (World.putObj_heap_other (by omega)).trans (h.block k hk)⟩
theorem keepsT_trans {n0 B : Nat} {X Y Z : World} (h : KeepsT n0 B X Y) (k : KeepsT n0 B Y Z) : KeepsT n0 B X Z := fun i hi => (k i hi).trans (h i hi)
theorem keepsT_put {n0 B m : Nat} (h0 : n0 ≤ m) (hB : B < m) (W : World) (l : Nat) (o' : Obj) (hl : m ≤ l) : KeepsT n0 B W (W.putObj l o') := fun i hi => World.putObj_heap_other (by omega)
theorem keepsT_below {n0 B m : Nat} (h0 : n0 ≤ m) (hB : B < m) {X Y : World} (hm : m ≤ X.heap.size) (h : Below X.heap.size X Y) : KeepsT n0 B X Y := fun i hi => h.block i (by omega)
theorem keepsT_set {n0 B : Nat} {W : World} {b j : Nat} {u : Value} (h0 : n0 ≤ b) (hB : B ≠ b) : KeepsT n0 B W (W.setCell ⟨b, j, none⟩ u) := fun i hi => heap_setCell_other W ⟨b, j, none⟩ i u (fun e => by simp at e; omega)
/-- a box beside what was there -/
def Boxd (w : World) (b : Nat) (T : TypeId) (v : Value) (W : World) : Prop := W.heap[b]? = some (.cells #[v] T (0, 0)) ∧ Below w.heap.size w W
theorem boxd_stays {w A B : World} {b : Nat} {T : TypeId} {v : Value} (h : Boxd w b T v A) (k : Below A.heap.size A B) : Boxd w b T v B := ⟨(k.block b (lt_of_heap h.1)).trans h.1, below_up h.2 k⟩
theorem boxd_apart {w A : World} {b l m : Nat} {T : TypeId} {v : Value} {o : Obj} (o' : Obj) (h : Boxd w b T v A) (hl : m ≤ l) (hm : w.heap.size ≤ m) (ho : A.heap[l]? = some o) (hc : o.isCells = false) : Boxd w b T v (A.putObj l o') := ⟨heap_put ho hc h.1, below_put o' h.2 (by omega)⟩
theorem boxd_set {w A : World} {b : Nat} {T : TypeId} {v : Value} (u : Value) (h : Boxd w b T v A) (hb : w.heap.size ≤ b) : Boxd w b T u (A.setCell ⟨b, 0, none⟩ u) :=
  ⟨by simpa using heap_setCell_same A b 0 _ T u h.1, h.2.setCell (p := ⟨b, 0, none⟩) hb u⟩
def sumT (l : List ByteArray) : Nat := (l.map ByteArray.size).sum
theorem sumT_next (l : List ByteArray) (x : ByteArray) : sumT (l ++ [x]) = sumT l + x.size := by simp [sumT]
theorem sumT_pre {a b : List ByteArray} (h : a <+: b) : sumT a ≤ sumT b := by
  obtain ⟨c, rfl⟩ := h; simp [sumT]
def longT (l : List ByteArray) : Bool := l.any fun c => decide (1000 < c.size)
theorem longT_no {l : List ByteArray} (h : ∀ c ∈ l, c.size ≤ 1000) : longT l = false := by
  unfold longT; rw [List.any_eq_false]; intro c hc; have := h c hc; simp; omega
theorem longT_yes {l pre : List ByteArray} (h : pre <+: l) (hx : ∃ c ∈ pre, 1000 < c.size) : longT l = true := by
  obtain ⟨c, hc, hs⟩ := hx
  unfold longT; rw [List.any_eq_true]; exact ⟨c, h.subset hc, by simpa using hs⟩
theorem texts_in (n : Nat) (ho : Option Addr) (m hc : Nat) (ro : Option Addr) (k rc : Nat) (w : World) :
    CallsIn Fence.wide n Tryz.prog 207 #[.agg #[.slice ho m hc, .slice ro k rc]] w fun e w' => e = .returned (.func (.func 243) #[] #[.pointer (some ⟨w.heap.size, 0, none⟩)]) ∧ w' = w.alloc (TabO ho m hc ro k rc) := by
  refine callsIn_of_wp Tryz.func207 rfl trivial ?_ rfl
  simp only [Tryz.ntmps207, List.size_toArray, List.length_cons, List.length_nil, Nat.reduceAdd, Nat.reduceSub, Array.replicate_succ, Array.replicate_zero, List.push_toArray, List.append_toArray, List.nil_append, List.cons_append]
  gi_wp2
  go_ret
  exact ⟨rfl, rfl⟩
section
variable (ho : Option Addr) (hc : Nat) (hd : List ByteArray) (ro : Option Addr) (rc : Nat) (rs : List (List ByteArray)) (w : World)
  (hn : hd.length ≤ 1099511627776) (hn2 : rs.length ≤ 1099511627776) (hn3 : ∀ r ∈ rs, r.length ≤ 1099511627776) (hH : StrRow w ho hd) (hR : RowsAt w ro rs)
include hn hn2 hn3 hH hR
set_option maxRecDepth 100000 in
set_option maxHeartbeats 4000000 in
theorem total_any (hsum : sumT (allT hd rs) ≤ 1152921504606846976) :
    Calls Tryz.prog 176 #[.agg #[.slice ho hd.length hc, .slice ro rs.length rc]] w fun e w' => e = .returned (.int .i64 (sumT (allT hd rs) : Int)) ∧ Below w.heap.size w w' := by
  refine (callsIn_wide (n := 4)).1 ?_
  obtain ⟨U, HU⟩ : ∃ U, Hid (U = (((w.alloc (TabO ho hd.length hc ro rs.length rc)).alloc (.cells #[.int .i64 0] 3)).alloc (TabO ho hd.length hc ro rs.length rc))) := ⟨_, Lib.hid rfl⟩
  have b1 : Below w.heap.size w ((w.alloc (TabO ho hd.length hc ro rs.length rc)).alloc (.cells #[.int .i64 0] 3)) := two_below _ _ _
  have hbU : Below w.heap.size w U := by rw [HU.out]; exact b1.alloc b1.size _
  have hB1 : U.heap[w.heap.size + 1]? = some (.cells #[.int .i64 0] 3 (0, 0)) := by rw [HU.out, Below.heap_alloc _ _ _ (by simp)]; exact (two_new w _ _).2.2
  have hB2 : U.heap[w.heap.size + 1 + 1]? = some (TabO ho hd.length hc ro rs.length rc) := by
    rw [HU.out]
    have := World.alloc_heap_new ((w.alloc (TabO ho hd.length hc ro rs.length rc)).alloc (.cells #[.int .i64 0] 3)) (TabO ho hd.length hc ro rs.length rc)
    simpa using this
  have hsU : w.heap.size + 3 = U.heap.size := by rw [HU.out]; simp
  have TL := Lib.hid (texts1_tells 3 ho hc hd ro rc rs (w.heap.size + 1 + 1) w U hbU hn hn2 hn3 hH hR hB2)
  have H0 : Hid (Boxd w (w.heap.size + 1) 3 (.int .i64 (sumT [] : Int)) U) := Lib.hid ⟨hB1, hbU⟩
  have HSU := Lib.hid hsU
  have HSUM := Lib.hid hsum
  clear hbU hB1 hB2 hsU b1 hsum hH hR hn3
  refine callsIn_of_wp_marks Tryz.func176 rfl trivial ?_ rfl
  simp only [Tryz.ntmps176, List.size_toArray, List.length_cons, List.length_nil, Nat.reduceAdd, Nat.reduceSub, Array.replicate_succ, Array.replicate_zero, List.push_toArray, List.append_toArray, List.nil_append, List.cons_append]
  gi_wp2_with fail
  refine ⟨trivial, (texts_in _ _ _ _ _ _ _ _).mono ?_⟩; rintro e w1 ⟨rfl, rfl⟩
  gi_wp2_with fail
  rw [← HU.out]
  refine wpIn_range_tells rfl (by decide) (gf := 243) (lb := #[.pointer (some ⟨w.heap.size + 1 + 1, 0, none⟩)]) rfl trivial (enters_of Tryz.func243 (by kernel_rfl) rfl)
    TL.out (Below.refl _ _) (fun _ => rfl) keepsT_trans (fun A l o o' hl _ _ => keepsT_put (m := U.heap.size) (by rw [← HSU.out]; omega) (by rw [← HSU.out]; omega) A l o' hl)
    (fun {A B} hA hAB => keepsT_below (m := U.heap.size) (by rw [← HSU.out]; omega) (by rw [← HSU.out]; omega) hA hAB)
    (fun pre W => Boxd w (w.heap.size + 1) 3 (.int .i64 (sumT pre : Int)) W) (fun _ _ => False) (fun pre A B h k => boxd_stays h k) (fun pre A B h k => h)
    (fun pre A l o o' h hl ho hc => boxd_apart o' h hl (by rw [← HSU.out]; omega) ho hc) (fun pre A l o o' h hl ho hc => h) (fun _ _ _ => trivial)
    (fun pre x A B h k => h) (fun pre x A l o o' h hl ho hc => h) H0.out
    (fun x a' A => a' = { tmps := #[.agg #[.slice ho hd.length hc, .slice ro rs.length rc], .pointer (some ⟨w.heap.size, 0, none⟩), .int .i64 0, .pointer (some ⟨w.heap.size + 1, 0, none⟩), .string x, .agg #[.slice ho hd.length hc, .slice ro rs.length rc], .func (.func 243) #[] #[.pointer (some ⟨w.heap.size + 1 + 1, 0, none⟩)], .string x, undef, undef, undef, undef, undef], defers := [] })
    (fun x a' A l o o' h hl ho hc => h) ?assign ?body ?done ?stop
  case assign =>
    intro l x A K hA hK
    gi_wp2_with fail
    exact hK _ _ (Below.refl _ A) rfl
  case body =>
    rintro l pre x a' A hA hI hok rfl
    have hle : sumT pre + x.size ≤ 1152921504606846976 := by have := sumT_pre hok; rw [sumT_next] at this; have := HSUM.out; omega
    have c0 := (cell_of_box_l hI.1).1
    have f0 := (cell_of_box_l hI.1).2
    have HI := Lib.hid hI
    clear hI hok
    gi_wp2_with fail
    refine ⟨KeepsOthers.setCell _ _ _, keepsT_set (by omega) (by omega), ?_⟩
    have := boxd_set (.int .i64 ((sumT pre : Int) + x.size)) HI.out (by omega)
    show Boxd w (w.heap.size + 1) 3 (.int .i64 (sumT (pre ++ [x]) : Int)) _
    rw [sumT_next, Int.natCast_add]; exact this
  case done =>
    rintro D ys A hD rfl hI hK
    have c0 := (cell_of_box_l hI.1).1
    have HI := Lib.hid hI
    clear hI
    gi_wp2_with fail
    refine ⟨by simp, .inl ⟨_, _, rfl, run_takeDeferred hK, ?_⟩⟩
    exact ⟨_, results_tmp rfl _ _ _, rfl, below_put _ HI.out.2 (by rw [← HSU.out] at hD; omega)⟩
  case stop =>
    rintro D pre W _ _ h _
    exact h.elim
set_option maxRecDepth 100000 in
set_option maxHeartbeats 4000000 in
theorem largeText_any (hs : ∀ c ∈ allT hd rs, c.size ≤ 1152921504606846976) :
    Calls Tryz.prog 175 #[.agg #[.slice ho hd.length hc, .slice ro rs.length rc]] w fun e w' => e = .returned (.bool (longT (allT hd rs))) ∧ Below w.heap.size w w' := by
  refine (callsIn_wide (n := 4)).1 ?_
  obtain ⟨U, HU⟩ : ∃ U, Hid (U = (((w.alloc (TabO ho hd.length hc ro rs.length rc)).alloc (.cells #[.bool false] 4)).alloc (TabO ho hd.length hc ro rs.length rc))) := ⟨_, Lib.hid rfl⟩
  have b1 : Below w.heap.size w ((w.alloc (TabO ho hd.length hc ro rs.length rc)).alloc (.cells #[.bool false] 4)) := two_below _ _ _
  have hbU : Below w.heap.size w U := by rw [HU.out]; exact b1.alloc b1.size _
  have hB1 : U.heap[w.heap.size + 1]? = some (.cells #[.bool false] 4 (0, 0)) := by rw [HU.out, Below.heap_alloc _ _ _ (by simp)]; exact (two_new w _ _).2.2
  have hB2 : U.heap[w.heap.size + 1 + 1]? = some (TabO ho hd.length hc ro rs.length rc) := by
    rw [HU.out]
    have := World.alloc_heap_new ((w.alloc (TabO ho hd.length hc ro rs.length rc)).alloc (.cells #[.bool false] 4)) (TabO ho hd.length hc ro rs.length rc)
    simpa using this
  have hsU : w.heap.size + 3 = U.heap.size := by rw [HU.out]; simp
  have TL := Lib.hid (texts1_tells 3 ho hc hd ro rc rs (w.heap.size + 1 + 1) w U hbU hn hn2 hn3 hH hR hB2)
  have H0 : Hid ((∀ c ∈ ([] : List ByteArray), c.size ≤ 1000) ∧ Boxd w (w.heap.size + 1) 4 (.bool false) U) := Lib.hid ⟨by simp, hB1, hbU⟩
  have HSU := Lib.hid hsU
  have HSUM := Lib.hid hs
  clear hbU hB1 hB2 hsU b1 hs hH hR hn3
  refine callsIn_of_wp_marks Tryz.func175 rfl trivial ?_ rfl
  simp only [Tryz.ntmps175, List.size_toArray, List.length_cons, List.length_nil, Nat.reduceAdd, Nat.reduceSub, Array.replicate_succ, Array.replicate_zero, List.push_toArray, List.append_toArray, List.nil_append, List.cons_append]
  gi_wp2_with fail
  refine ⟨trivial, (texts_in _ _ _ _ _ _ _ _).mono ?_⟩; rintro e w1 ⟨rfl, rfl⟩
  gi_wp2_with fail
  rw [← HU.out]
  refine wpIn_range_tells rfl (by decide) (gf := 243) (lb := #[.pointer (some ⟨w.heap.size + 1 + 1, 0, none⟩)]) rfl trivial (enters_of Tryz.func243 (by kernel_rfl) rfl)
    TL.out (Below.refl _ _) (fun _ => rfl) keepsT_trans (fun A l o o' hl _ _ => keepsT_put (m := U.heap.size) (by rw [← HSU.out]; omega) (by rw [← HSU.out]; omega) A l o' hl)
    (fun {A B} hA hAB => keepsT_below (m := U.heap.size) (by rw [← HSU.out]; omega) (by rw [← HSU.out]; omega) hA hAB)
    (fun pre W => (∀ c ∈ pre, c.size ≤ 1000) ∧ Boxd w (w.heap.size + 1) 4 (.bool false) W) (fun pre W => (∃ c ∈ pre, 1000 < c.size) ∧ Boxd w (w.heap.size + 1) 4 (.bool true) W) (fun pre A B h k => ⟨h.1, boxd_stays h.2 k⟩) (fun pre A B h k => ⟨h.1, boxd_stays h.2 k⟩)
    (fun pre A l o o' h hl ho hc => ⟨h.1, boxd_apart o' h.2 hl (by rw [← HSU.out]; omega) ho hc⟩) (fun pre A l o o' h hl ho hc => ⟨h.1, boxd_apart o' h.2 hl (by rw [← HSU.out]; omega) ho hc⟩) (fun _ _ _ => trivial)
    (fun pre x A B h k => h) (fun pre x A l o o' h hl ho hc => h) H0.out
    (fun x a' A => a' = { tmps := #[.agg #[.slice ho hd.length hc, .slice ro rs.length rc], .pointer (some ⟨w.heap.size, 0, none⟩), .pointer (some ⟨w.heap.size + 1, 0, none⟩), .string x, .agg #[.slice ho hd.length hc, .slice ro rs.length rc], .func (.func 243) #[] #[.pointer (some ⟨w.heap.size + 1 + 1, 0, none⟩)], .string x, undef, undef, undef], defers := [] })
    (fun x a' A l o o' h hl ho hc => h) ?assign ?body ?done ?stop
  case assign =>
    intro l x A K hA hK
    gi_wp2_with fail
    exact hK _ _ (Below.refl _ A) rfl
  case body =>
    rintro l pre x a' A hA ⟨hp, hI⟩ hok rfl
    have hxs := HSUM.out x (hok.subset (by simp))
    have HI := Lib.hid hI
    have HP := Lib.hid hp
    have c0 := (cell_of_box_l hI.1).1
    have f0 := (cell_of_box_l hI.1).2
    clear hI hok hp
    by_cases hx : x.size ≤ 1000
    · gi_wp2_with fail
      refine ⟨KeepsOthers.refl _, fun _ _ => rfl, fun c hc => ?_, HI.out⟩
      rcases List.mem_append.1 hc with h | h
      · exact HP.out c h
      · simp at h; subst h; exact hx
    · gi_wp2_with fail
      exact ⟨KeepsOthers.setCell _ _ _, ⟨x, by simp, by omega⟩, boxd_set (.bool true) HI.out (by omega)⟩
  case done =>
    rintro D ys A hD rfl ⟨hp, hI⟩ hK
    have c0 := (cell_of_box_l hI.1).1
    have f0 := (cell_of_box_l hI.1).2
    have E := Lib.hid (longT_no hp)
    have HI := Lib.hid (boxd_set (.bool false) hI (by omega))
    have HK2 := Lib.hid (show (A.setCell ⟨w.heap.size + 1, 0, none⟩ (.bool false)).heap[D]? = some (.deferred (some [])) from by
      rw [heap_setCell_other A ⟨w.heap.size + 1, 0, none⟩ D _ (fun e => by simp at e; rw [e, hI.1] at hK; cases hK)]; exact hK)
    clear hI hp
    gi_wp2_with fail
    refine ⟨by simp, .inl ⟨_, _, rfl, run_takeDeferred HK2.out, ?_⟩⟩
    have q := boxd_apart (.deferred none) HI.out hD (by rw [← HSU.out]; omega) HK2.out rfl
    have k := (cell_of_box_l q.1).1
    exact ⟨.bool false, by simp [results, Tryz.results175, go_sem, k], by rw [E.out], q.2⟩
  case stop =>
    rintro D pre A hD hS ⟨hp, hI⟩ hK
    have E := Lib.hid (longT_yes hS hp)
    have HI := Lib.hid hI
    clear hI hp
    gi_wp2_with fail
    refine ⟨by simp, .inl ⟨_, _, rfl, run_takeDeferred hK, ?_⟩⟩
    have q := boxd_apart (.deferred none) HI.out hD (by rw [← HSU.out]; omega) hK rfl
    have k := (cell_of_box_l q.1).1
    exact ⟨.bool true, by simp [results, Tryz.results175, go_sem, k], by rw [E.out], q.2⟩
end
end Go.Proofs.YtdenehnneloegaaGreatDoor
namespace Go.Proofs.YtdenehnneloegaaGreatDoor
open Go.RowKit Go.Shelf
theorem int_bne (n m : Nat) : ((n : Int) != (m : Int)) = decide (n ≠ m) := by
  by_cases h : n = m
  · subst h; simp
  · rw [decide_eq_true h, bne_iff_ne]; omega
theorem str_beq (x y : ByteArray) : (x.toList == y.toList) = decide (x.data.toList = y.data.toList) := by
  rw [ba_toList, ba_toList]
  by_cases h : x.data.toList = y.data.toList
  · rw [h]; simp
  · rw [decide_eq_false h, beq_eq_false_iff_ne]; exact h
end Go.Proofs.YtdenehnneloegaaGreatDoor
namespace Go.Proofs.YtdenehnneloegaaGreatDoor
open Go.RowKit Go.Shelf
def lays316_ren : Go.Shelf.Ren := ⟨fun | 316 => 123 | n => n, fun | 0 => 0 | 3 => 3 | 4 => 4 | 5 => 5 | 9 => 9 | 37 => 144 | 127 => 216 | n => n, fun | n => n⟩
set_option maxRecDepth 100000 in
theorem lays316 : Go.Proofs.LaysM.n316 Tryz.prog lays316_ren := {
  mixed := by kernel_rfl
  f316 := Tryz.func123.trans (congrArg some (by kernel_rfl))
  t0 := Tryz.underlying0
  a0 := Tryz.isAgg0
  z0 := Tryz.sizeOf0
  v0 := Tryz.zeroValue0
  t3 := Tryz.underlying3
  a3 := Tryz.isAgg3
  z3 := Tryz.sizeOf3
  v3 := Tryz.zeroValue3
  t4 := Tryz.underlying4
  a4 := Tryz.isAgg4
  z4 := Tryz.sizeOf4
  v4 := Tryz.zeroValue4
  t9 := Tryz.underlying9
  a9 := Tryz.isAgg9
  z9 := Tryz.sizeOf9
  v9 := Tryz.zeroValue9
  t37 := Tryz.underlying144
  a37 := Tryz.isAgg144
  z37 := Tryz.sizeOf144
  v37 := Tryz.zeroValue144
  t127 := Tryz.underlying216
  a127 := Tryz.isAgg216
  z127 := Tryz.sizeOf216
  v127 := Tryz.zeroValue216
  t5 := Tryz.underlying5
  a5 := Tryz.isAgg5
  z5 := Tryz.sizeOf5
  v5 := Tryz.zeroValue5
  i0 := by kernel_rfl
  i3 := by kernel_rfl
  i4 := by kernel_rfl
  i5 := by kernel_rfl
  i9 := by kernel_rfl
  i37 := by kernel_rfl
  i127 := by kernel_rfl }
theorem liteClone (s : ByteArray) (w : World) (hlim : s.size ≤ 281474976710656) :
    Calls Tryz.prog 123 #[.string s] w fun e w' => e = .returned (.string s) ∧ Below w.heap.size w w' :=
  Any.stringslite_Clone lays316 s w hlim
theorem clone_any (s : ByteArray) (w : World) (hs : s.size ≤ 281474976710656) :
    Calls Tryz.prog 69 #[.string s] w fun e w' => e = .returned (.string s) ∧ Below w.heap.size w w' := by
  go_enter Tryz.func69, Tryz.ntmps69
  go_wp2_with fail
  refine (liteClone _ _ hs).mono ?_
  rintro e w' ⟨rfl, b⟩
  go_wp2_with fail
  go_ret
  exact ⟨rfl, b⟩
theorem within_any (a n : Int) (w : World) :
    Calls Tryz.prog 68 #[.int .i64 a, .int .i64 n] w fun e w' => e = .returned (.bool (decide (0 ≤ a) && decide (a < n))) ∧ w = w' := by
  by_cases h : 0 ≤ a
  · have h' : decide (0 ≤ a) = true := decide_eq_true h
    go_enter Tryz.func68, Tryz.ntmps68
    go_wp2_with fail
    go_ret
    exact ⟨by simp [h], rfl⟩
  · have h' : decide (0 ≤ a) = false := decide_eq_false h
    go_enter Tryz.func68, Tryz.ntmps68
    go_wp2_with fail
    go_ret
    exact ⟨by simp, rfl⟩
/-- the place of a text in a row of texts -/
def findL (xs : List ByteArray) (s : ByteArray) : Int := firstAt (fun c => decide (c.data.toList = s.data.toList)) xs
set_option maxRecDepth 100000 in
set_option maxHeartbeats 2000000 in
theorem index_any (ao : Option Addr) (cap : Nat) (xs : List ByteArray) (s : ByteArray) (w : World) (hn : xs.length ≤ 1099511627776) (hR : StrRow w ao xs) :
    Calls Tryz.prog 182 #[.slice ao xs.length cap, .string s] w fun e w' => e = .returned (.int .i64 (findL xs s)) ∧ w = w' := by
  have HRo := Lib.hid hR
  have HF := Lib.hid (firstAt_none (fun c => decide (c.data.toList = s.data.toList)) xs)
  have HS := Lib.hid (firstAt_some (fun c => decide (c.data.toList = s.data.toList)) xs)
  unfold findL
  clear hR
  generalize firstAt (fun c => decide (c.data.toList = s.data.toList)) xs = F at HF HS ⊢
  go_enter Tryz.func182, Tryz.ntmps182
  go_wp2_with fail
  go_loopw [8] (fun i wr => ∃ k : Nat, k ≤ xs.length ∧ i = .int .i64 k ∧ wr = w ∧ Hid (∀ j c, j < k → xs[j]? = some c → decide (c.data.toList = s.data.toList) = false)) (fun i _ => xs.length - (intOf i).toNat)
  case atStart => exact ⟨0, Nat.zero_le _, rfl, rfl, Lib.hid (fun j c h _ => by omega)⟩
  case round =>
    obtain ⟨k, hk, rfl, rfl, HN⟩ := hrel
    by_cases hlt : k < xs.length
    · obtain ⟨x, hx⟩ : ∃ x, xs[k]? = some x := ⟨_, List.getElem?_eq_getElem hlt⟩
      have HX := Lib.hid hx
      have hbe := str_beq s x
      rcases HRo.out with h0 | ⟨A, rfl, hA, hcell⟩
      · rw [h0] at hlt; simp at hlt
      have hc := hcell k x hx
      clear hcell hx
      by_cases hp : x.data.toList = s.data.toList
      · have E := Lib.hid (HS.out k x HX.out (decide_eq_true hp) HN.out)
        rw [decide_eq_true hp.symm] at hbe
        clear hp
        go_wp2_with fail
        go_ret
        exact ⟨by rw [E.out]; rfl, rfl⟩
      · have HN' : Hid (∀ j c, j < k + 1 → xs[j]? = some c → decide (c.data.toList = s.data.toList) = false) := Lib.hid (fun j c hj hc' => by
          by_cases e : j = k
          · subst e; rw [HX.out] at hc'; cases hc'; exact decide_eq_false hp
          · exact HN.out j c (by omega) hc')
        rw [decide_eq_false (fun e => hp e.symm)] at hbe
        clear hp
        go_wp2_with fail
        go_roundw
        case rel => exact ⟨k + 1, by omega, by go_num, by first | rfl | trivial, HN'⟩
        case measure => simp [intOf]; omega
    · obtain rfl : k = xs.length := by omega
      have E := Lib.hid (HF.out (fun j c hc => HN.out j c (by obtain ⟨h, _⟩ := List.getElem?_eq_some_iff.1 hc; exact h) hc))
      go_wp2_with fail
      go_ret
      exact ⟨by rw [E.out]; rfl, rfl⟩
theorem ownsRow_below {w w' : World} {base : Nat} {e : TypeId} {size : Nat} {v : Value} {n : Nat} {xs : List Value} (h : w.ownsRow base e size v n xs) (hB : Below w.heap.size w w') : w'.ownsRow base e size v n xs :=
  h.kept (row := none) ⟨hB.os, hB.tape, hB.output, hB.size, fun i hi _ => hB.block i hi⟩ (by cases h : v.ownBlock <;> simp)
/-- a row that is being filled: the first k of xs, and empty texts -/
def half (xs : List ByteArray) (k : Nat) : List Value := (xs.take k).map Value.string ++ List.replicate (xs.length - k) (.string ⟨#[]⟩)
theorem half_zero (xs : List ByteArray) : half xs 0 = List.replicate xs.length (.string ⟨#[]⟩) := by simp [half]
theorem half_all (xs : List ByteArray) : half xs xs.length = xs.map Value.string := by simp [half]
theorem half_next (xs : List ByteArray) (k : Nat) (x : ByteArray) (hx : xs[k]? = some x) : (half xs k).set k (.string x) = half xs (k + 1) := by
  obtain ⟨hk, e⟩ := List.getElem?_eq_some_iff.1 hx
  have h1 : ((xs.take k).map Value.string).length = k := by simp; omega
  unfold half
  rw [List.set_append_right _ _ (by omega), h1, Nat.sub_self, List.take_succ_eq_append_getElem hk, e, List.map_append, List.append_assoc]
  congr 1
  obtain ⟨m, hm⟩ : ∃ m, xs.length - k = m + 1 := ⟨xs.length - k - 1, by omega⟩
  rw [hm, show xs.length - (k + 1) = m from by omega, List.replicate_succ]; rfl
theorem half_len (xs : List ByteArray) (k : Nat) (hk : k ≤ xs.length) : (half xs k).length = xs.length := by simp [half]; omega
end Go.Proofs.YtdenehnneloegaaGreatDoor
namespace Go.Proofs.YtdenehnneloegaaGreatDoor
open Go.RowKit Go.Shelf Go.Maps
/-- the map of the first k texts -/
def seenK (xs : List ByteArray) : Nat → DataW Unit
  | 0 => .map []
  | k + 1 => match xs[k]? with
    | some c => (seenK xs k).put (.string c.data.toList) (.lit (.bool true))
    | none => seenK xs k
theorem seenK_map (xs : List ByteArray) (k : Nat) : IsMap (seenK xs k) := by
  induction k with
  | zero => exact isMap_empty
  | succ k ih =>
    unfold seenK
    split
    · exact ih.put _ _
    · exact ih
theorem seenK_next (xs : List ByteArray) (k : Nat) (c : ByteArray) (h : xs[k]? = some c) : seenK xs (k + 1) = (seenK xs k).put (.string c.data.toList) (.lit (.bool true)) := by
  rw [seenK, h]
theorem seenK_at (xs : List ByteArray) (k : Nat) (l : List UInt8) : (seenK xs k).atKey (.string l) (.lit (.bool false)) = .lit (.bool (decide (l ∈ bytesOf (xs.take k)))) := by
  induction k with
  | zero => simp [seenK, bytesOf]; rfl
  | succ k ih =>
    cases h : xs[k]? with
    | none =>
      have hk : xs.length ≤ k := List.getElem?_eq_none_iff.1 h
      have e1 : seenK xs (k + 1) = seenK xs k := by rw [seenK, h]
      have e2 : xs.take (k + 1) = xs.take k := by rw [List.take_of_length_le (by omega), List.take_of_length_le hk]
      rw [e1, e2]; exact ih
    | some c =>
      obtain ⟨hk, e⟩ := List.getElem?_eq_some_iff.1 h
      have e2 : bytesOf (xs.take (k + 1)) = bytesOf (xs.take k) ++ [c.data.toList] := by rw [List.take_succ_eq_append_getElem hk, e]; simp [bytesOf]
      rw [seenK_next xs k c h, e2]
      by_cases hl : l = c.data.toList
      · rw [hl, atKey_put_same (seenK_map xs k) (by first | exact trivial | constructor | simp [WideAt.IsKeyLit])]; simp
      · rw [atKey_put_other (fun e => hl (by injection e)), ih]; simp [hl]
def dupL (xs : List ByteArray) : Bool := decide (¬ (bytesOf xs).Nodup)
theorem dup_no (xs : List ByteArray) (h : (bytesOf (xs.take xs.length)).Nodup) : dupL xs = false := by
  rw [List.take_length] at h; simp [dupL, h]
theorem dup_yes (xs : List ByteArray) (k : Nat) (c : ByteArray) (hc : xs[k]? = some c) (h : c.data.toList ∈ bytesOf (xs.take k)) : dupL xs = true := by
  obtain ⟨hk, e⟩ := List.getElem?_eq_some_iff.1 hc
  refine decide_eq_true (fun hn => ?_)
  have e2 : bytesOf xs = bytesOf (xs.take k) ++ bytesOf (xs.drop k) := by rw [← List.take_append_drop k xs]; simp [bytesOf]
  rw [e2, List.nodup_append] at hn
  exact hn.2.2 _ h c.data.toList (by rw [List.drop_eq_getElem_cons hk, e]; simp [bytesOf]) rfl
theorem nodup_next (xs : List ByteArray) (k : Nat) (c : ByteArray) (hc : xs[k]? = some c) (hn : (bytesOf (xs.take k)).Nodup) (h : c.data.toList ∉ bytesOf (xs.take k)) : (bytesOf (xs.take (k + 1))).Nodup := by
  obtain ⟨hk, e⟩ := List.getElem?_eq_some_iff.1 hc
  rw [List.take_succ_eq_append_getElem hk, e]
  simp only [bytesOf, List.map_append, List.map_cons, List.map_nil]
  rw [List.nodup_append]
  exact ⟨hn, by simp, fun a ha b hb => by simp at hb; subst hb; exact fun e => h (by rw [← e]; exact ha)⟩
theorem plainElem_bool_inv {H : Type} {P : Program} {e : TypeId} (he : P.underlying e = some .bool) {v : Value} {z : DataW H × List MemPlace} (h : plainElem P e v = some z) : ∃ a, v = .bool a ∧ z = (.lit (.bool a), []) := by
  unfold plainElem at h
  rw [he] at h
  split at h
  · cases h; exact ⟨_, rfl, rfl⟩
  · rename_i h1; cases h1
  · rename_i h1; cases h1
  · cases h
theorem lookup_bool {H : Type} {P : Program} {w : World} {k t e : TypeId} {b n : Nat} {D : DataW H} (h : w.ownsMap P k (plainElem P e) b n D) (K : Keyed P k) (ht : P.underlying t = some (.map k e)) (he : P.underlying e = some .bool) (hz : (zeroValue e).run P w = .ok (.bool false) w)
    {key : Value} {kl : Lit} (hkey : keyOf P k key = some kl) : ∃ c, (Instr.lookup t (.map (some b)) key false).run P w = .ok (.bool c) w ∧ D.atKey kl (.lit (.bool false)) = .lit (.bool c) := by
  obtain ⟨v, ps, hrun, hv⟩ := h.lookup K ht hz (plainElem_bool he false) hkey
  obtain ⟨c, rfl, hc⟩ := plainElem_bool_inv he hv
  simp only [Prod.mk.injEq] at hc
  exact ⟨c, hrun, hc.1⟩
set_option maxRecDepth 100000 in
set_option maxHeartbeats 4000000 in
theorem twice_any (ao : Option Addr) (cap : Nat) (xs : List ByteArray) (w : World) (hn : xs.length ≤ 1099511627776) (hs : ∀ c ∈ xs, c.size ≤ maxLen) (hR : StrRow w ao xs) :
    Calls Tryz.prog 119 #[.slice ao xs.length cap] w fun e w' => e = .returned (.bool (dupL xs)) ∧ Below w.heap.size w w' := by
  have HRo := Lib.hid hR
  have HSo := Lib.hid hs
  have HY := Lib.hid (dup_yes xs)
  have HNn := Lib.hid (dup_no xs)
  clear hR hs
  generalize dupL xs = F at HY HNn ⊢
  have hmm := @run_makeMap Tryz.prog
  go_enter Tryz.func119, Tryz.ntmps119
  go_wp2_with fail
  have HO : Hid ((w.alloc (.map #[] 0)).ownsMap Tryz.prog 9 (plainElem Tryz.prog 4) w.heap.size 0 (seenK xs 0)) := Lib.hid (World.ownsMap_made w _ _ _)
  have HB : Hid (Below w.heap.size w (w.alloc (.map #[] 0))) := Lib.hid ((Below.refl _ w).alloc (Nat.le_refl _) _)
  go_loopw [9] (fun i wr => ∃ k : Nat, k ≤ xs.length ∧ i = .int .i64 k ∧ Hid (Below w.heap.size w wr) ∧ Hid (wr.ownsMap Tryz.prog 9 (plainElem Tryz.prog 4) w.heap.size k (seenK xs k)) ∧ Hid ((bytesOf (xs.take k)).Nodup)) (fun i _ => xs.length - (intOf i).toNat)
  case atStart => exact ⟨0, Nat.zero_le _, rfl, HB, HO, Lib.hid (by simp [bytesOf])⟩
  case round =>
    obtain ⟨k, hk, rfl, HB, HO, HD⟩ := hrel
    by_cases hlt : k < xs.length
    · obtain ⟨x, hx⟩ : ∃ x, xs[k]? = some x := ⟨_, List.getElem?_eq_getElem hlt⟩
      have HX := Lib.hid hx
      have hkey := Go.WideMaps.keyOf_string_mk (P := Tryz.prog) Tryz.underlying9 (HSo.out x (List.mem_of_getElem? hx))
      obtain ⟨c, hrun, hat⟩ := lookup_bool HO.out (string_keyed Tryz.underlying9) Tryz.underlying208 Tryz.underlying4 (Tryz.zeroValue4 _) hkey
      rw [seenK_at] at hat
      have HC : Hid (decide (x.data.toList ∈ bytesOf (xs.take k)) = c) := Lib.hid (by injection hat with h1; injection h1)
      rcases (HRo.out.kept HB.out) with h0 | ⟨A, rfl, hA, hcell⟩
      · rw [h0] at hlt; simp at hlt
      have hc := hcell k x hx
      have HK := Lib.hid hkey
      clear hcell hx hat hkey
      cases c with
      | true =>
        have E := Lib.hid (HY.out k x HX.out (of_decide_eq_true HC.out))
        go_wp2_with fail
        go_ret
        exact ⟨by rw [E.out]; rfl, HB.out⟩
      | false =>
        have HD' := Lib.hid (nodup_next xs k x HX.out HD.out (of_decide_eq_false HC.out))
        have hkm : k < maxLen := by unfold maxLen; omega
        go_wp2_with (at_mapUpdate; refine wpList_mapUpdate_own _ rfl _ _ _ 208 rfl 9 4 (string_keyed Tryz.underlying9) Tryz.underlying208 _ w.heap.size k (seenK xs k) rfl HO.out hkm _ _ (.string x.data.toList) rfl rfl HK.out (.lit (.bool true)) [] (plainElem_bool Tryz.underlying4 true) ?_; intro w1 ho hg)
        have HB' := Lib.hid (HB.out.grown hg HB.out.size (fun k h => by cases h; exact Nat.le_refl _))
        rw [← seenK_next xs k x HX.out] at ho
        have HO' := Lib.hid ho
        clear ho hg hrun
        go_wp2_with fail
        go_roundw
        case rel => exact ⟨k + 1, by omega, by go_num, HB', HO', HD'⟩
        case measure => simp [intOf]; omega
    · obtain rfl : k = xs.length := by omega
      have E := Lib.hid (HNn.out HD.out)
      go_wp2_with fail
      go_ret
      exact ⟨by rw [E.out]; rfl, HB.out⟩
end Go.Proofs.YtdenehnneloegaaGreatDoor
