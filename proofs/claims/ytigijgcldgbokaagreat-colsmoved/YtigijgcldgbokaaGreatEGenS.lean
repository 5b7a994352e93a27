/-
  Lists of strings with one more, with one less, with one moved: what the program's generic functions make.
  Conditions: lists of at most 2^39 elements.
-/
import Derived.WalkKit
import Derived.WalkMore
import Derived.WalkLawsBesides
import Derived.Lib.Hide
import Derived.Deep.RegionWith
import Derived.Test.YtigijgcldgbokaaGreatProg
import Derived.Test.YtigijgcldgbokaaGreatEStop
import Derived.Test.YtigijgcldgbokaaGreatESlS
namespace Go.Proofs.YtigijgcldgbokaaGreat
open Go.RowKit Go.Shelf
set_option linter.unusedVariables false

theorem concat3S (w : World) (a1 a3 : Option Addr) (n1 c1 n3 c3 : Nat) (v1 v3 : List Value) (xv : ByteArray) (e1 : v1.length = n1) (e3 : v3.length = n3) (k1 : n1 ≤ c1 ∧ (a1 = none → c1 = 0)) (k3 : n3 ≤ c3 ∧ (a3 = none → c3 = 0)) (h1 : CellsAt w a1 v1) (h3 : CellsAt w a3 v3)
    (o1 : ∀ u ∈ v1, u.oneCell' = true) (o3 : ∀ u ∈ v3, u.oneCell' = true) (hs : n1 + n3 ≤ 549755813888) :
    Calls Tryz.prog 106 #[.slice (some ⟨w.heap.size + 1, 0, none⟩) 3 3] ((w.alloc (.cells #[(.string xv)] 9)).alloc (.cells #[.slice a1 n1 c1, .slice (some ⟨w.heap.size, 0, none⟩) 1 1, .slice a3 n3 c3] 22)).drew (VOut (.ok (v1 ++ (.string xv) :: v3)) w) := by
  subst e1 e3
  obtain ⟨W, HW⟩ : ∃ W, Hid (W = ((w.alloc (.cells #[(.string xv)] 9)).alloc (.cells #[.slice a1 v1.length c1, .slice (some ⟨w.heap.size, 0, none⟩) 1 1, .slice a3 v3.length c3] 22)).drew) := ⟨_, Lib.hid rfl⟩
  have hB : Below w.heap.size w W := by rw [HW.out]; exact (two_below _ _ _).drew
  have hN := two_new w (.cells #[(.string xv)] 9) (.cells #[.slice a1 v1.length c1, .slice (some ⟨w.heap.size, 0, none⟩) 1 1, .slice a3 v3.length c3] 22)
  have hx : W.heap[w.heap.size]? = some (.cells #[(.string xv)] 9 (0, 0)) := by rw [HW.out]; exact hN.2.1
  have hL : W.heap[w.heap.size + 1]? = some (.cells #[.slice a1 v1.length c1, .slice (some ⟨w.heap.size, 0, none⟩) 1 1, .slice a3 v3.length c3] 22 (0, 0)) := by rw [HW.out]; exact hN.2.2
  rw [← HW.out]
  let ps : List PartE := [⟨a1, v1, ⟨c1, k1⟩⟩, ⟨some ⟨w.heap.size, 0, none⟩, [(.string xv)], ⟨1, Nat.le_refl _, fun e => by cases e⟩⟩, ⟨a3, v3, ⟨c3, k3⟩⟩]
  have C := concatS (w.heap.size + 1) 3 ps W (by simp [ps]) (fun i p hp => ?_) (lt_of_heap hL) (fun p hp => ?_) (by simp only [ps, lensTS, List.map_cons, List.map_nil, List.sum_cons, List.sum_nil, List.length_singleton]; omega)
  · refine C.mono ?_
    intro e w' h
    have hf : flatTS ps = v1 ++ (.string xv) :: v3 := by simp [ps, flatTS]
    rw [hf] at h
    obtain ⟨ao, cap, q1, q2, q3⟩ := h
    exact ⟨ao, cap, q1, q2.mono hB.size, below_up hB q3⟩
  · rw [Lib.cell_of_heap hL i]
    match i, hp with
    | 0, hp => simp [ps] at hp; subst hp; rfl
    | 1, hp => simp [ps] at hp; subst hp; rfl
    | 2, hp => simp [ps] at hp; subst hp; rfl
  · simp only [ps, List.mem_cons, List.not_mem_nil, or_false] at hp
    rcases hp with rfl | rfl | rfl
    · exact ⟨h1.kept hB, o1⟩
    · refine ⟨.inr ⟨_, rfl, lt_of_heap hx, fun i v hv => ?_⟩, fun u hu => by simp at hu; subst hu; rfl⟩
      rw [cell_row hx]
      match i, hv with
      | 0, hv => simpa using hv
    · exact ⟨h3.kept hB, o3⟩
theorem concat2S (w : World) (a1 a3 : Option Addr) (n1 c1 n3 c3 : Nat) (v1 v3 : List Value) (e1 : v1.length = n1) (e3 : v3.length = n3) (k1 : n1 ≤ c1 ∧ (a1 = none → c1 = 0)) (k3 : n3 ≤ c3 ∧ (a3 = none → c3 = 0)) (h1 : CellsAt w a1 v1) (h3 : CellsAt w a3 v3)
    (o1 : ∀ u ∈ v1, u.oneCell' = true) (o3 : ∀ u ∈ v3, u.oneCell' = true) (hs : n1 + n3 ≤ 549755813888) :
    Calls Tryz.prog 106 #[.slice (some ⟨w.heap.size, 0, none⟩) 2 2] (w.alloc (.cells #[.slice a1 n1 c1, .slice a3 n3 c3] 22)).drew (VOut (.ok (v1 ++ v3)) w) := by
  subst e1 e3
  obtain ⟨W, HW⟩ : ∃ W, Hid (W = (w.alloc (.cells #[.slice a1 v1.length c1, .slice a3 v3.length c3] 22)).drew) := ⟨_, Lib.hid rfl⟩
  have hB : Below w.heap.size w W := by rw [HW.out]; exact (one_below _ _).drew
  have hL : W.heap[w.heap.size]? = some (.cells #[.slice a1 v1.length c1, .slice a3 v3.length c3] 22 (0, 0)) := by rw [HW.out]; exact World.alloc_heap_new w _
  rw [← HW.out]
  let ps : List PartE := [⟨a1, v1, ⟨c1, k1⟩⟩, ⟨a3, v3, ⟨c3, k3⟩⟩]
  have C := concatS w.heap.size 2 ps W (by simp [ps]) (fun i p hp => ?_) (lt_of_heap hL) (fun p hp => ?_) (by simp only [ps, lensTS, List.map_cons, List.map_nil, List.sum_cons, List.sum_nil]; omega)
  · refine C.mono ?_
    intro e w' h
    have hf : flatTS ps = v1 ++ v3 := by simp [ps, flatTS]
    rw [hf] at h
    obtain ⟨ao, cap, q1, q2, q3⟩ := h
    exact ⟨ao, cap, q1, q2.mono hB.size, below_up hB q3⟩
  · rw [Lib.cell_of_heap hL i]
    match i, hp with
    | 0, hp => simp [ps] at hp; subst hp; rfl
    | 1, hp => simp [ps] at hp; subst hp; rfl
  · simp only [ps, List.mem_cons, List.not_mem_nil, or_false] at hp
    rcases hp with rfl | rfl
    · exact ⟨h1.kept hB, o1⟩
    · exact ⟨h3.kept hB, o3⟩
theorem take_cellsS {w : World} {ao : Option Addr} {vs : List Value} (h : CellsAt w ao vs) (j : Nat) : CellsAt w ao (vs.take j) := by
  rcases h with h | ⟨A, q1, q2, q3⟩
  · exact .inl (by rw [h]; simp)
  · refine .inr ⟨A, q1, q2, fun i v hv => q3 i v ?_⟩
    rw [List.getElem?_take] at hv
    split at hv
    · exact hv
    · cases hv
theorem drop_cellsS {w : World} {A : Addr} {vs : List Value} (h : CellsAt w (some A) vs) (j : Nat) : CellsAt w (some (A.add j)) (vs.drop j) := by
  rcases h with h | ⟨A', q1, q2, q3⟩
  · exact .inl (by rw [h]; simp)
  · cases q1
    refine .inr ⟨_, rfl, by rw [add_block]; exact q2, fun i v hv => ?_⟩
    rw [List.getElem?_drop] at hv
    rw [Addr.add_add]
    exact q3 _ _ hv

set_option maxRecDepth 100000 in
set_option maxHeartbeats 4000000 in
theorem insertedS (ao : Option Addr) (vs : List Value) (cap : Cap ao vs.length) (k : Int) (xv : ByteArray) (w : World) (hn : vs.length ≤ 549755813888) (hc : CellsAt w ao vs) (h1 : ∀ u ∈ vs, u.oneCell' = true) :
    Calls Tryz.prog 83 #[.slice ao vs.length cap.1, .int .i64 k, (.string xv)] w (VOut (insV vs k (.string xv)) w) := by
  have N := Lib.hid (need_any k ((vs.length : Int) + 1) w)
  unfold insV
  by_cases h : 0 ≤ k ∧ k ≤ (vs.length : Int)
  · rw [if_pos (by omega)] at N
    rw [if_pos h]
    obtain ⟨j, rfl⟩ := Int.eq_ofNat_of_zero_le h.1
    have hj : j ≤ vs.length := by omega
    rw [Int.toNat_natCast]
    obtain ⟨cp, hcp⟩ := cap
    simp only
    clear h
    have ot : ∀ u ∈ vs.take j, u.oneCell' = true := fun u hu => h1 u (List.mem_of_mem_take hu)
    have od : ∀ u ∈ vs.drop j, u.oneCell' = true := fun u hu => h1 u (List.mem_of_mem_drop hu)
    have lt : (vs.take j).length = j := by rw [List.length_take]; omega
    have ld : (vs.drop j).length = vs.length - j := List.length_drop
    obtain ⟨L, HL⟩ : ∃ L, Hid (L = vs.take j ++ (.string xv) :: vs.drop j) := ⟨_, Lib.hid rfl⟩
    rw [List.append_assoc, List.singleton_append, ← HL.out]
    cases ao with
    | none =>
      have h0 := hcp.2 rfl
      subst h0
      obtain rfl : vs = [] := List.eq_nil_of_length_eq_zero (by omega)
      obtain rfl : j = 0 := by simpa using hj
      have C := Lib.hid (concat3S w none none 0 0 0 0 [] [] xv rfl rfl ⟨Nat.le_refl _, fun _ => rfl⟩ ⟨Nat.le_refl _, fun _ => rfl⟩ (.inl rfl) (.inl rfl) (fun u hu => by cases hu) (fun u hu => by cases hu) (by decide))
      rw [show ([] : List Value) ++ (.string xv) :: [] = L from HL.out.symm] at C
      clear hc h1 ot od lt ld hcp HL
      go_enter Tryz.func83, Tryz.ntmps83
      go_wp2_with fail
      refine N.out.mono ?_; rintro e w' ⟨⟨_, rfl⟩ | ⟨h, rfl⟩, rfl⟩
      · clear N
        go_wp2_with fail
        go_region_with (go_at_call 106; (refine C.out.mono ?_); rintro e w2 ⟨bo, bc, rfl, q2, q3⟩; have Q := Lib.hid (And.intro q2 q3); clear q2 q3)
        all_goals (go_wp2_with fail; go_ret; exact ⟨bo, bc, rfl, Q.out.1, Q.out.2⟩)
      · exact absurd rfl h
    | some A =>
      by_cases hcj : cp = j
      · subst hcj
        have C := Lib.hid (concat3S w (some A) (some A) cp cp (vs.length - cp) 0 (vs.take cp) (vs.drop cp) xv lt ld ⟨Nat.le_refl _, fun e => by cases e⟩ ⟨by omega, fun e => by cases e⟩ (take_cellsS hc _) (.inl (List.drop_eq_nil_of_le hcp.1)) ot od (by omega))
        rw [← HL.out] at C
        clear hc h1 ot od lt ld hcp HL
        go_enter Tryz.func83, Tryz.ntmps83
        go_wp2_with fail
        refine N.out.mono ?_; rintro e w' ⟨⟨_, rfl⟩ | ⟨h, rfl⟩, rfl⟩
        · clear N
          go_wp2_with fail
          go_region_with (go_at_call 106; (refine C.out.mono ?_); rintro e w2 ⟨bo, bc, rfl, q2, q3⟩; have Q := Lib.hid (And.intro q2 q3); clear q2 q3)
          all_goals (go_wp2_with fail; go_ret; exact ⟨bo, bc, rfl, Q.out.1, Q.out.2⟩)
        · exact absurd rfl h
      · have C := Lib.hid (concat3S w (some A) (some (A.add j)) j cp (vs.length - j) (cp - j) (vs.take j) (vs.drop j) xv lt ld ⟨by omega, fun e => by cases e⟩ ⟨by omega, fun e => by cases e⟩ (take_cellsS hc _) (drop_cellsS hc _) ot od (by omega))
        rw [← HL.out] at C
        have hcp1 := hcp.1
        clear hc h1 ot od lt ld hcp HL
        go_enter Tryz.func83, Tryz.ntmps83
        go_wp2_with fail
        refine N.out.mono ?_; rintro e w' ⟨⟨_, rfl⟩ | ⟨h, rfl⟩, rfl⟩
        · clear N
          go_wp2_with fail
          go_region_with (go_at_call 106; (refine C.out.mono ?_); rintro e w2 ⟨bo, bc, rfl, q2, q3⟩; have Q := Lib.hid (And.intro q2 q3); clear q2 q3)
          all_goals (go_wp2_with fail; go_ret; exact ⟨bo, bc, rfl, Q.out.1, Q.out.2⟩)
        · exact absurd rfl h
  · rw [if_neg (by omega)] at N
    rw [if_neg h]
    clear h hc h1
    go_enter Tryz.func83, Tryz.ntmps83
    go_wp2_with fail
    refine N.out.mono ?_; rintro e w' ⟨⟨h, rfl⟩ | ⟨h, rfl⟩, rfl⟩
    · cases h
    · unfold stopE
      go_wp2_with fail
      exact ⟨rfl, rfl, Below.refl _ _⟩

set_option maxRecDepth 100000 in
set_option maxHeartbeats 4000000 in
theorem deletedS (ao : Option Addr) (vs : List Value) (cap : Cap ao vs.length) (k : Int) (w : World) (hn : vs.length ≤ 549755813888) (hc : CellsAt w ao vs) (h1 : ∀ u ∈ vs, u.oneCell' = true) :
    Calls Tryz.prog 82 #[.slice ao vs.length cap.1, .int .i64 k] w (VOut (delL vs k) w) := by
  have N := Lib.hid (need_any k (vs.length : Int) w)
  unfold delL
  by_cases h : 0 ≤ k ∧ k < (vs.length : Int)
  · rw [if_pos (by omega)] at N
    rw [if_pos h]
    obtain ⟨j, rfl⟩ := Int.eq_ofNat_of_zero_le h.1
    have hj : j < vs.length := by omega
    rw [Int.toNat_natCast]
    obtain ⟨cp, hcp⟩ := cap
    simp only
    clear h
    have ot : ∀ u ∈ vs.take j, u.oneCell' = true := fun u hu => h1 u (List.mem_of_mem_take hu)
    have od : ∀ u ∈ vs.drop (j + 1), u.oneCell' = true := fun u hu => h1 u (List.mem_of_mem_drop hu)
    have lt : (vs.take j).length = j := by rw [List.length_take]; omega
    have ld : (vs.drop (j + 1)).length = vs.length - (j + 1) := List.length_drop
    have hjt : ((j : Int) + 1).toNat = j + 1 := by omega
    have hji : (j : Int) + 1 ≤ (vs.length : Int) := by omega
    have hj0 : (0 : Int) ≤ (j : Int) + 1 := by omega
    have hjj : (j : Int) ≤ (j : Int) + 1 := by omega
    have hwr : IntKind.i64.wrap ((j : Int) + 1) = (j : Int) + 1 := by rw [IntKind.wrap_i64]; omega
    have hjc : (j : Int) ≤ (cp : Int) := by omega
    have hjn : (j : Int) ≤ (vs.length : Int) := by omega
    obtain ⟨L, HL⟩ : ∃ L, Hid (L = vs.take j ++ vs.drop (j + 1)) := ⟨_, Lib.hid rfl⟩
    rw [← HL.out]
    cases ao with
    | none => exact absurd (hcp.2 rfl) (by omega)
    | some A =>
      by_cases hcj : cp = j + 1
      · subst hcj
        have C := Lib.hid (concat2S w (some A) (some A) j (j + 1) (vs.length - (j + 1)) 0 (vs.take j) (vs.drop (j + 1)) lt ld ⟨by omega, fun e => by cases e⟩ ⟨by omega, fun e => by cases e⟩ (take_cellsS hc _) (.inl (List.drop_eq_nil_of_le hcp.1)) ot od (by omega))
        rw [← HL.out] at C
        clear hc h1 ot od lt ld hcp HL
        go_enter Tryz.func82, Tryz.ntmps82
        go_wp2_with fail
        refine N.out.mono ?_; rintro e w' ⟨⟨_, rfl⟩ | ⟨h, rfl⟩, rfl⟩
        · clear N
          go_wp2_with fail
          go_region_with (go_at_call 106; (refine C.out.mono ?_); rintro e w2 ⟨bo, bc, rfl, q2, q3⟩; have Q := Lib.hid (And.intro q2 q3); clear q2 q3)
          all_goals (go_wp2_with fail; go_ret; exact ⟨bo, bc, rfl, Q.out.1, Q.out.2⟩)
        · exact absurd rfl h
      · have C := Lib.hid (concat2S w (some A) (some (A.add (j + 1))) j cp (vs.length - (j + 1)) (cp - (j + 1)) (vs.take j) (vs.drop (j + 1)) lt ld ⟨by omega, fun e => by cases e⟩ ⟨by omega, fun e => by cases e⟩ (take_cellsS hc _) (drop_cellsS hc _) ot od (by omega))
        rw [← HL.out] at C
        have hcp1 := hcp.1
        clear hc h1 ot od lt ld hcp HL
        go_enter Tryz.func82, Tryz.ntmps82
        go_wp2_with fail
        refine N.out.mono ?_; rintro e w' ⟨⟨_, rfl⟩ | ⟨h, rfl⟩, rfl⟩
        · clear N
          go_wp2_with fail
          go_region_with (go_at_call 106; (refine C.out.mono ?_); rintro e w2 ⟨bo, bc, rfl, q2, q3⟩; have Q := Lib.hid (And.intro q2 q3); clear q2 q3)
          all_goals (go_wp2_with fail; go_ret; exact ⟨bo, bc, rfl, Q.out.1, Q.out.2⟩)
        · exact absurd rfl h
  · rw [if_neg (by omega)] at N
    rw [if_neg h]
    clear h hc h1
    go_enter Tryz.func82, Tryz.ntmps82
    go_wp2_with fail
    refine N.out.mono ?_; rintro e w' ⟨⟨h, rfl⟩ | ⟨h, rfl⟩, rfl⟩
    · cases h
    · unfold stopE
      go_wp2_with fail
      exact ⟨rfl, rfl, Below.refl _ _⟩
end Go.Proofs.YtigijgcldgbokaaGreat
