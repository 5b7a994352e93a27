/-
  How many bytes the texts of a table have together, and whether one of them is too long: what the program answers.
  Conditions: as those of TTexts; all texts have together at most 2^60 bytes.
-/
import Derived.WalkKit
import Derived.Lib.Hide
import Derived.Test.YtigijgcldgbokaaGreatProg
import Derived.Test.YtigijgcldgbokaaGreatPkB
namespace Go.Proofs.YtigijgcldgbokaaGreat
open Go.RowKit Go.Shelf
attribute [local go_sem] Oper.semAt_some

theorem heap_put {A : World} {l : Nat} {o o' : Obj} (hl : A.heap[l]? = some o) (ho : o.isCells = false) {b : Nat} {cs : Array Value} {t : TypeId} {fr : Nat × Nat} (h : A.heap[b]? = some (.cells cs t fr)) : (A.putObj l o').heap[b]? = some (.cells cs t fr) := by
  have hne : b ≠ l := by
    rintro rfl
    rw [h] at hl; cases hl; cases ho
  rw [World.putObj_heap_other hne]; exact h
theorem below_put {n : Nat} {w A : World} {l : Nat} (o' : Obj) (h : Below n w A) (hl : n ≤ l) : Below n w (A.putObj l o') :=
  ⟨h.os, h.tape, h.output, by simpa using h.size, fun k hk => (World.putObj_heap_other (by omega)).trans (h.block k hk)⟩
theorem keepsT_trans {n0 B : Nat} {X Y Z : World} (h : KeepsT n0 B X Y) (k : KeepsT n0 B Y Z) : KeepsT n0 B X Z := fun i hi => (k i hi).trans (h i hi)
theorem keepsT_put {n0 B m : Nat} (h0 : n0 ≤ m) (hB : B < m) (W : World) (l : Nat) (o' : Obj) (hl : m ≤ l) : KeepsT n0 B W (W.putObj l o') := fun i hi => World.putObj_heap_other (by omega)
theorem keepsT_below {n0 B m : Nat} (h0 : n0 ≤ m) (hB : B < m) {X Y : World} (hm : m ≤ X.heap.size) (h : Below X.heap.size X Y) : KeepsT n0 B X Y := fun i hi => h.block i (by omega)
theorem keepsT_set {n0 B : Nat} {W : World} {b j : Nat} {u : Value} (h0 : n0 ≤ b) (hB : B ≠ b) : KeepsT n0 B W (W.setCell ⟨b, j, none⟩ u) := fun i hi => heap_setCell_other W ⟨b, j, none⟩ i u (fun e => by simp at e; omega)
/-- a box beside what was there -/
def Boxd (w : World) (b : Nat) (T : TypeId) (v : Value) (W : World) : Prop := W.heap[b]? = some (.cells #[v] T (0, 0)) ∧ Below w.heap.size w W
theorem boxd_stays {w A B : World} {b : Nat} {T : TypeId} {v : Value} (h : Boxd w b T v A) (k : Below A.heap.size A B) : Boxd w b T v B := ⟨(k.block b (lt_of_heap h.1)).trans h.1, below_up h.2 k⟩
theorem boxd_apart {w A : World} {b l m : Nat} {T : TypeId} {v : Value} {o : Obj} (o' : Obj) (h : Boxd w b T v A) (hl : m ≤ l) (hm : w.heap.size ≤ m) (ho : A.heap[l]? = some o) (hc : o.isCells = false) : Boxd w b T v (A.putObj l o') := ⟨heap_put ho hc h.1, below_put o' h.2 (by omega)⟩
theorem boxd_set {w A : World} {b : Nat} {T : TypeId} {v : Value} (u : Value) (h : Boxd w b T v A) (hb : w.heap.size ≤ b) : Boxd w b T u (A.setCell ⟨b, 0, none⟩ u) :=
  ⟨by simpa using heap_setCell_same A b 0 _ T u h.1, h.2.setCell (p := ⟨b, 0, none⟩) hb u⟩
def sumT (l : List ByteArray) : Nat := (l.map ByteArray.size).sum
theorem sumT_next (l : List ByteArray) (x : ByteArray) : sumT (l ++ [x]) = sumT l + x.size := by simp [sumT]
theorem sumT_pre {a b : List ByteArray} (h : a <+: b) : sumT a ≤ sumT b := by
  obtain ⟨c, rfl⟩ := h; simp [sumT]
def longT (l : List ByteArray) : Bool := l.any fun c => decide (1000 < c.size)
theorem longT_no {l : List ByteArray} (h : ∀ c ∈ l, c.size ≤ 1000) : longT l = false := by
  unfold longT; rw [List.any_eq_false]; intro c hc; have := h c hc; simp; omega
theorem longT_yes {l pre : List ByteArray} (h : pre <+: l) (hx : ∃ c ∈ pre, 1000 < c.size) : longT l = true := by
  obtain ⟨c, hc, hs⟩ := hx
  unfold longT; rw [List.any_eq_true]; exact ⟨c, h.subset hc, by simpa using hs⟩

theorem texts_in (n : Nat) (ho : Option Addr) (m hc : Nat) (ro : Option Addr) (k rc : Nat) (w : World) :
    CallsIn Fence.wide n Tryz.prog 131 #[.agg #[.slice ho m hc, .slice ro k rc]] w fun e w' => e = .returned (.func (.func 145) #[] #[.pointer (some ⟨w.heap.size, 0, none⟩)]) ∧ w' = w.alloc (TabO ho m hc ro k rc) := by
  refine callsIn_of_wp Tryz.func131 rfl trivial ?_ rfl
  simp only [Tryz.ntmps131, List.size_toArray, List.length_cons, List.length_nil, Nat.reduceAdd, Nat.reduceSub, Array.replicate_succ, Array.replicate_zero, List.push_toArray, List.append_toArray, List.nil_append, List.cons_append]
  gi_wp2
  go_ret
  exact ⟨rfl, rfl⟩

section
variable (ho : Option Addr) (hc : Nat) (hd : List ByteArray) (ro : Option Addr) (rc : Nat) (rs : List (List ByteArray)) (w : World)
  (hn : hd.length ≤ 1099511627776) (hn2 : rs.length ≤ 1099511627776) (hn3 : ∀ r ∈ rs, r.length ≤ 1099511627776) (hH : StrRow w ho hd) (hR : RowsAt w ro rs)
include hn hn2 hn3 hH hR

set_option maxRecDepth 100000 in
set_option maxHeartbeats 4000000 in
theorem total_any (hsum : sumT (allT hd rs) ≤ 1152921504606846976) :
    Calls Tryz.prog 102 #[.agg #[.slice ho hd.length hc, .slice ro rs.length rc]] w fun e w' => e = .returned (.int .i64 (sumT (allT hd rs) : Int)) ∧ Below w.heap.size w w' := by
  refine (callsIn_wide (n := 4)).1 ?_
  obtain ⟨U, HU⟩ : ∃ U, Hid (U = (((w.alloc (TabO ho hd.length hc ro rs.length rc)).alloc (.cells #[.int .i64 0] 3)).alloc (TabO ho hd.length hc ro rs.length rc))) := ⟨_, Lib.hid rfl⟩
  have b1 : Below w.heap.size w ((w.alloc (TabO ho hd.length hc ro rs.length rc)).alloc (.cells #[.int .i64 0] 3)) := two_below _ _ _
  have hbU : Below w.heap.size w U := by rw [HU.out]; exact b1.alloc b1.size _
  have hB1 : U.heap[w.heap.size + 1]? = some (.cells #[.int .i64 0] 3 (0, 0)) := by rw [HU.out, Below.heap_alloc _ _ _ (by simp)]; exact (two_new w _ _).2.2
  have hB2 : U.heap[w.heap.size + 1 + 1]? = some (TabO ho hd.length hc ro rs.length rc) := by
    rw [HU.out]
    have := World.alloc_heap_new ((w.alloc (TabO ho hd.length hc ro rs.length rc)).alloc (.cells #[.int .i64 0] 3)) (TabO ho hd.length hc ro rs.length rc)
    simpa using this
  have hsU : w.heap.size + 3 = U.heap.size := by rw [HU.out]; simp
  have TL := Lib.hid (texts1_tells 3 ho hc hd ro rc rs (w.heap.size + 1 + 1) w U hbU hn hn2 hn3 hH hR hB2)
  have H0 : Hid (Boxd w (w.heap.size + 1) 3 (.int .i64 (sumT [] : Int)) U) := Lib.hid ⟨hB1, hbU⟩
  have HSU := Lib.hid hsU
  have HSUM := Lib.hid hsum
  clear hbU hB1 hB2 hsU b1 hsum hH hR hn3
  refine callsIn_of_wp_marks Tryz.func102 rfl trivial ?_ rfl
  simp only [Tryz.ntmps102, List.size_toArray, List.length_cons, List.length_nil, Nat.reduceAdd, Nat.reduceSub, Array.replicate_succ, Array.replicate_zero, List.push_toArray, List.append_toArray, List.nil_append, List.cons_append]
  gi_wp2_with fail
  refine ⟨trivial, (texts_in _ _ _ _ _ _ _ _).mono ?_⟩; rintro e w1 ⟨rfl, rfl⟩
  gi_wp2_with fail
  rw [← HU.out]
  refine wpIn_range_tells rfl (by decide) (gf := 145) (lb := #[.pointer (some ⟨w.heap.size + 1 + 1, 0, none⟩)]) rfl trivial (enters_of Tryz.func145 (by kernel_rfl) rfl)
    TL.out (Below.refl _ _) (fun _ => rfl) keepsT_trans (fun A l o o' hl _ _ => keepsT_put (m := U.heap.size) (by rw [← HSU.out]; omega) (by rw [← HSU.out]; omega) A l o' hl)
    (fun {A B} hA hAB => keepsT_below (m := U.heap.size) (by rw [← HSU.out]; omega) (by rw [← HSU.out]; omega) hA hAB)
    (fun pre W => Boxd w (w.heap.size + 1) 3 (.int .i64 (sumT pre : Int)) W) (fun _ _ => False) (fun pre A B h k => boxd_stays h k) (fun pre A B h k => h)
    (fun pre A l o o' h hl ho hc => boxd_apart o' h hl (by rw [← HSU.out]; omega) ho hc) (fun pre A l o o' h hl ho hc => h) (fun _ _ _ => trivial)
    (fun pre x A B h k => h) (fun pre x A l o o' h hl ho hc => h) H0.out
    (fun x a' A => a' = { tmps := #[.agg #[.slice ho hd.length hc, .slice ro rs.length rc], .pointer (some ⟨w.heap.size, 0, none⟩), .int .i64 0, .pointer (some ⟨w.heap.size + 1, 0, none⟩), .string x, .agg #[.slice ho hd.length hc, .slice ro rs.length rc], .func (.func 145) #[] #[.pointer (some ⟨w.heap.size + 1 + 1, 0, none⟩)], .string x, undef, undef, undef, undef, undef], defers := [] })
    (fun x a' A l o o' h hl ho hc => h) ?assign ?body ?done ?stop
  case assign =>
    intro l x A K hA hK
    gi_wp2_with fail
    exact hK _ _ (Below.refl _ A) rfl
  case body =>
    rintro l pre x a' A hA hI hok rfl
    have hle : sumT pre + x.size ≤ 1152921504606846976 := by have := sumT_pre hok; rw [sumT_next] at this; have := HSUM.out; omega
    have c0 := (cell_of_box_l hI.1).1
    have f0 := (cell_of_box_l hI.1).2
    have HI := Lib.hid hI
    clear hI hok
    gi_wp2_with fail
    refine ⟨KeepsOthers.setCell _ _ _, keepsT_set (by omega) (by omega), ?_⟩
    have := boxd_set (.int .i64 ((sumT pre : Int) + x.size)) HI.out (by omega)
    show Boxd w (w.heap.size + 1) 3 (.int .i64 (sumT (pre ++ [x]) : Int)) _
    rw [sumT_next, Int.natCast_add]; exact this
  case done =>
    rintro D ys A hD rfl hI hK
    have c0 := (cell_of_box_l hI.1).1
    have HI := Lib.hid hI
    clear hI
    gi_wp2_with fail
    refine ⟨by simp, .inl ⟨_, _, rfl, run_takeDeferred hK, ?_⟩⟩
    exact ⟨_, results_tmp rfl _ _ _, rfl, below_put _ HI.out.2 (by rw [← HSU.out] at hD; omega)⟩
  case stop =>
    rintro D pre W _ _ h _
    exact h.elim

set_option maxRecDepth 100000 in
set_option maxHeartbeats 4000000 in
theorem largeText_any (hs : ∀ c ∈ allT hd rs, c.size ≤ 1152921504606846976) :
    Calls Tryz.prog 101 #[.agg #[.slice ho hd.length hc, .slice ro rs.length rc]] w fun e w' => e = .returned (.bool (longT (allT hd rs))) ∧ Below w.heap.size w w' := by
  refine (callsIn_wide (n := 4)).1 ?_
  obtain ⟨U, HU⟩ : ∃ U, Hid (U = (((w.alloc (TabO ho hd.length hc ro rs.length rc)).alloc (.cells #[.bool false] 4)).alloc (TabO ho hd.length hc ro rs.length rc))) := ⟨_, Lib.hid rfl⟩
  have b1 : Below w.heap.size w ((w.alloc (TabO ho hd.length hc ro rs.length rc)).alloc (.cells #[.bool false] 4)) := two_below _ _ _
  have hbU : Below w.heap.size w U := by rw [HU.out]; exact b1.alloc b1.size _
  have hB1 : U.heap[w.heap.size + 1]? = some (.cells #[.bool false] 4 (0, 0)) := by rw [HU.out, Below.heap_alloc _ _ _ (by simp)]; exact (two_new w _ _).2.2
  have hB2 : U.heap[w.heap.size + 1 + 1]? = some (TabO ho hd.length hc ro rs.length rc) := by
    rw [HU.out]
    have := World.alloc_heap_new ((w.alloc (TabO ho hd.length hc ro rs.length rc)).alloc (.cells #[.bool false] 4)) (TabO ho hd.length hc ro rs.length rc)
    simpa using this
  have hsU : w.heap.size + 3 = U.heap.size := by rw [HU.out]; simp
  have TL := Lib.hid (texts1_tells 3 ho hc hd ro rc rs (w.heap.size + 1 + 1) w U hbU hn hn2 hn3 hH hR hB2)
  have H0 : Hid ((∀ c ∈ ([] : List ByteArray), c.size ≤ 1000) ∧ Boxd w (w.heap.size + 1) 4 (.bool false) U) := Lib.hid ⟨by simp, hB1, hbU⟩
  have HSU := Lib.hid hsU
  have HSUM := Lib.hid hs
  clear hbU hB1 hB2 hsU b1 hs hH hR hn3
  refine callsIn_of_wp_marks Tryz.func101 rfl trivial ?_ rfl
  simp only [Tryz.ntmps101, List.size_toArray, List.length_cons, List.length_nil, Nat.reduceAdd, Nat.reduceSub, Array.replicate_succ, Array.replicate_zero, List.push_toArray, List.append_toArray, List.nil_append, List.cons_append]
  gi_wp2_with fail
  refine ⟨trivial, (texts_in _ _ _ _ _ _ _ _).mono ?_⟩; rintro e w1 ⟨rfl, rfl⟩
  gi_wp2_with fail
  rw [← HU.out]
  refine wpIn_range_tells rfl (by decide) (gf := 145) (lb := #[.pointer (some ⟨w.heap.size + 1 + 1, 0, none⟩)]) rfl trivial (enters_of Tryz.func145 (by kernel_rfl) rfl)
    TL.out (Below.refl _ _) (fun _ => rfl) keepsT_trans (fun A l o o' hl _ _ => keepsT_put (m := U.heap.size) (by rw [← HSU.out]; omega) (by rw [← HSU.out]; omega) A l o' hl)
    (fun {A B} hA hAB => keepsT_below (m := U.heap.size) (by rw [← HSU.out]; omega) (by rw [← HSU.out]; omega) hA hAB)
    (fun pre W => (∀ c ∈ pre, c.size ≤ 1000) ∧ Boxd w (w.heap.size + 1) 4 (.bool false) W) (fun pre W => (∃ c ∈ pre, 1000 < c.size) ∧ Boxd w (w.heap.size + 1) 4 (.bool true) W) (fun pre A B h k => ⟨h.1, boxd_stays h.2 k⟩) (fun pre A B h k => ⟨h.1, boxd_stays h.2 k⟩)
    (fun pre A l o o' h hl ho hc => ⟨h.1, boxd_apart o' h.2 hl (by rw [← HSU.out]; omega) ho hc⟩) (fun pre A l o o' h hl ho hc => ⟨h.1, boxd_apart o' h.2 hl (by rw [← HSU.out]; omega) ho hc⟩) (fun _ _ _ => trivial)
    (fun pre x A B h k => h) (fun pre x A l o o' h hl ho hc => h) H0.out
    (fun x a' A => a' = { tmps := #[.agg #[.slice ho hd.length hc, .slice ro rs.length rc], .pointer (some ⟨w.heap.size, 0, none⟩), .pointer (some ⟨w.heap.size + 1, 0, none⟩), .string x, .agg #[.slice ho hd.length hc, .slice ro rs.length rc], .func (.func 145) #[] #[.pointer (some ⟨w.heap.size + 1 + 1, 0, none⟩)], .string x, undef, undef, undef], defers := [] })
    (fun x a' A l o o' h hl ho hc => h) ?assign ?body ?done ?stop
  case assign =>
    intro l x A K hA hK
    gi_wp2_with fail
    exact hK _ _ (Below.refl _ A) rfl
  case body =>
    rintro l pre x a' A hA ⟨hp, hI⟩ hok rfl
    have hxs := HSUM.out x (hok.subset (by simp))
    have HI := Lib.hid hI
    have HP := Lib.hid hp
    have c0 := (cell_of_box_l hI.1).1
    have f0 := (cell_of_box_l hI.1).2
    clear hI hok hp
    by_cases hx : x.size ≤ 1000
    · gi_wp2_with fail
      refine ⟨KeepsOthers.refl _, fun _ _ => rfl, fun c hc => ?_, HI.out⟩
      rcases List.mem_append.1 hc with h | h
      · exact HP.out c h
      · simp at h; subst h; exact hx
    · gi_wp2_with fail
      exact ⟨KeepsOthers.setCell _ _ _, ⟨x, by simp, by omega⟩, boxd_set (.bool true) HI.out (by omega)⟩
  case done =>
    rintro D ys A hD rfl ⟨hp, hI⟩ hK
    have c0 := (cell_of_box_l hI.1).1
    have f0 := (cell_of_box_l hI.1).2
    have E := Lib.hid (longT_no hp)
    have HI := Lib.hid (boxd_set (.bool false) hI (by omega))
    have HK2 := Lib.hid (show (A.setCell ⟨w.heap.size + 1, 0, none⟩ (.bool false)).heap[D]? = some (.deferred (some [])) from by
      rw [heap_setCell_other A ⟨w.heap.size + 1, 0, none⟩ D _ (fun e => by simp at e; rw [e, hI.1] at hK; cases hK)]; exact hK)
    clear hI hp
    gi_wp2_with fail
    refine ⟨by simp, .inl ⟨_, _, rfl, run_takeDeferred HK2.out, ?_⟩⟩
    have q := boxd_apart (.deferred none) HI.out hD (by rw [← HSU.out]; omega) HK2.out rfl
    have k := (cell_of_box_l q.1).1
    exact ⟨.bool false, by simp [results, Tryz.results101, go_sem, k], by rw [E.out], q.2⟩
  case stop =>
    rintro D pre A hD hS ⟨hp, hI⟩ hK
    have E := Lib.hid (longT_yes hS hp)
    have HI := Lib.hid hI
    clear hI hp
    gi_wp2_with fail
    refine ⟨by simp, .inl ⟨_, _, rfl, run_takeDeferred hK, ?_⟩⟩
    have q := boxd_apart (.deferred none) HI.out hD (by rw [← HSU.out]; omega) hK rfl
    have k := (cell_of_box_l q.1).1
    exact ⟨.bool true, by simp [results, Tryz.results101, go_sem, k], by rw [E.out], q.2⟩
end
end Go.Proofs.YtigijgcldgbokaaGreat
