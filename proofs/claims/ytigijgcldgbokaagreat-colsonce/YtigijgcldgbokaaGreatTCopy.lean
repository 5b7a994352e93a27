/-
  Copies of slices of strings; where a text is first found; whether there is such a place.
  Conditions: slices of at most 2^40 elements, texts of at most 2^48 bytes (the statements ask about far smaller ones).
-/
import Derived.Shelf.LaysM
import Derived.Shelf.Strconv.Clone
import Derived.OwnWalk
import Derived.Laws.OwnMore
import Derived.Test.YtigijgcldgbokaaGreatProg
import Derived.Test.YtigijgcldgbokaaGreatTSame
namespace Go.Proofs.YtigijgcldgbokaaGreat
open Go.RowKit Go.Shelf

def lays316_ren : Go.Shelf.Ren := ⟨fun | 316 => 165 | n => n, fun | 0 => 0 | 3 => 3 | 4 => 4 | 5 => 5 | 9 => 9 | 37 => 188 | 127 => 189 | n => n, fun | n => n⟩
set_option maxRecDepth 100000 in
theorem lays316 : Go.Proofs.LaysM.n316 Tryz.prog lays316_ren := {
  mixed := by kernel_rfl
  f316 := Tryz.func165.trans (congrArg some (by kernel_rfl))
  t0 := Tryz.underlying0
  a0 := Tryz.isAgg0
  z0 := Tryz.sizeOf0
  v0 := Tryz.zeroValue0
  t3 := Tryz.underlying3
  a3 := Tryz.isAgg3
  z3 := Tryz.sizeOf3
  v3 := Tryz.zeroValue3
  t4 := Tryz.underlying4
  a4 := Tryz.isAgg4
  z4 := Tryz.sizeOf4
  v4 := Tryz.zeroValue4
  t9 := Tryz.underlying9
  a9 := Tryz.isAgg9
  z9 := Tryz.sizeOf9
  v9 := Tryz.zeroValue9
  t37 := Tryz.underlying188
  a37 := Tryz.isAgg188
  z37 := Tryz.sizeOf188
  v37 := Tryz.zeroValue188
  t127 := Tryz.underlying189
  a127 := Tryz.isAgg189
  z127 := Tryz.sizeOf189
  v127 := Tryz.zeroValue189
  t5 := Tryz.underlying5
  a5 := Tryz.isAgg5
  z5 := Tryz.sizeOf5
  v5 := Tryz.zeroValue5
  i0 := by kernel_rfl
  i3 := by kernel_rfl
  i4 := by kernel_rfl
  i5 := by kernel_rfl
  i9 := by kernel_rfl
  i37 := by kernel_rfl
  i127 := by kernel_rfl }
theorem liteClone (s : ByteArray) (w : World) (hlim : s.size ≤ 281474976710656) :
    Calls Tryz.prog 165 #[.string s] w fun e w' => e = .returned (.string s) ∧ Below w.heap.size w w' :=
  Any.stringslite_Clone lays316 s w hlim
theorem clone_any (s : ByteArray) (w : World) (hs : s.size ≤ 281474976710656) :
    Calls Tryz.prog 146 #[.string s] w fun e w' => e = .returned (.string s) ∧ Below w.heap.size w w' := by
  go_enter Tryz.func146, Tryz.ntmps146
  go_wp2_with fail
  refine (liteClone _ _ hs).mono ?_
  rintro e w' ⟨rfl, b⟩
  go_wp2_with fail
  go_ret
  exact ⟨rfl, b⟩

theorem within_any (a n : Int) (w : World) :
    Calls Tryz.prog 139 #[.int .i64 a, .int .i64 n] w fun e w' => e = .returned (.bool (decide (0 ≤ a) && decide (a < n))) ∧ w = w' := by
  by_cases h : 0 ≤ a
  · have h' : decide (0 ≤ a) = true := decide_eq_true h
    go_enter Tryz.func139, Tryz.ntmps139
    go_wp2_with fail
    go_ret
    exact ⟨by simp [h], rfl⟩
  · have h' : decide (0 ≤ a) = false := decide_eq_false h
    go_enter Tryz.func139, Tryz.ntmps139
    go_wp2_with fail
    go_ret
    exact ⟨by simp, rfl⟩

/-- the place of a text in a row of texts -/
def findL (xs : List ByteArray) (s : ByteArray) : Int := firstAt (fun c => decide (c.data.toList = s.data.toList)) xs

set_option maxRecDepth 100000 in
set_option maxHeartbeats 2000000 in
theorem index_any (ao : Option Addr) (cap : Nat) (xs : List ByteArray) (s : ByteArray) (w : World) (hn : xs.length ≤ 1099511627776) (hR : StrRow w ao xs) :
    Calls Tryz.prog 31 #[.slice ao xs.length cap, .string s] w fun e w' => e = .returned (.int .i64 (findL xs s)) ∧ w = w' := by
  have HRo := Lib.hid hR
  have HF := Lib.hid (firstAt_none (fun c => decide (c.data.toList = s.data.toList)) xs)
  have HS := Lib.hid (firstAt_some (fun c => decide (c.data.toList = s.data.toList)) xs)
  unfold findL
  clear hR
  generalize firstAt (fun c => decide (c.data.toList = s.data.toList)) xs = F at HF HS ⊢
  go_enter Tryz.func31, Tryz.ntmps31
  go_wp2_with fail
  go_loopw [8] (fun i wr => ∃ k : Nat, k ≤ xs.length ∧ i = .int .i64 k ∧ wr = w ∧ Hid (∀ j c, j < k → xs[j]? = some c → decide (c.data.toList = s.data.toList) = false)) (fun i _ => xs.length - (intOf i).toNat)
  case atStart => exact ⟨0, Nat.zero_le _, rfl, rfl, Lib.hid (fun j c h _ => by omega)⟩
  case round =>
    obtain ⟨k, hk, rfl, rfl, HN⟩ := hrel
    by_cases hlt : k < xs.length
    · obtain ⟨x, hx⟩ : ∃ x, xs[k]? = some x := ⟨_, List.getElem?_eq_getElem hlt⟩
      have HX := Lib.hid hx
      have hbe := str_beq s x
      rcases HRo.out with h0 | ⟨A, rfl, hA, hcell⟩
      · rw [h0] at hlt; simp at hlt
      have hc := hcell k x hx
      clear hcell hx
      by_cases hp : x.data.toList = s.data.toList
      · have E := Lib.hid (HS.out k x HX.out (decide_eq_true hp) HN.out)
        rw [decide_eq_true hp.symm] at hbe
        clear hp
        go_wp2_with fail
        go_ret
        exact ⟨by rw [E.out]; rfl, rfl⟩
      · have HN' : Hid (∀ j c, j < k + 1 → xs[j]? = some c → decide (c.data.toList = s.data.toList) = false) := Lib.hid (fun j c hj hc' => by
          by_cases e : j = k
          · subst e; rw [HX.out] at hc'; cases hc'; exact decide_eq_false hp
          · exact HN.out j c (by omega) hc')
        rw [decide_eq_false (fun e => hp e.symm)] at hbe
        clear hp
        go_wp2_with fail
        go_roundw
        case rel => exact ⟨k + 1, by omega, by go_num, by first | rfl | trivial, HN'⟩
        case measure => simp [intOf]; omega
    · obtain rfl : k = xs.length := by omega
      have E := Lib.hid (HF.out (fun j c hc => HN.out j c (by obtain ⟨h, _⟩ := List.getElem?_eq_some_iff.1 hc; exact h) hc))
      go_wp2_with fail
      go_ret
      exact ⟨by rw [E.out]; rfl, rfl⟩

theorem ownsRow_below {w w' : World} {base : Nat} {e : TypeId} {size : Nat} {v : Value} {n : Nat} {xs : List Value} (h : w.ownsRow base e size v n xs) (hB : Below w.heap.size w w') : w'.ownsRow base e size v n xs :=
  h.kept (row := none) ⟨hB.os, hB.tape, hB.output, hB.size, fun i hi _ => hB.block i hi⟩ (by cases h : v.ownBlock <;> simp)
/-- a row that is being filled: the first k of xs, and empty texts -/
def half (xs : List ByteArray) (k : Nat) : List Value := (xs.take k).map Value.string ++ List.replicate (xs.length - k) (.string ⟨#[]⟩)
theorem half_zero (xs : List ByteArray) : half xs 0 = List.replicate xs.length (.string ⟨#[]⟩) := by simp [half]
theorem half_all (xs : List ByteArray) : half xs xs.length = xs.map Value.string := by simp [half]
theorem half_next (xs : List ByteArray) (k : Nat) (x : ByteArray) (hx : xs[k]? = some x) : (half xs k).set k (.string x) = half xs (k + 1) := by
  obtain ⟨hk, e⟩ := List.getElem?_eq_some_iff.1 hx
  have h1 : ((xs.take k).map Value.string).length = k := by simp; omega
  unfold half
  rw [List.set_append_right _ _ (by omega), h1, Nat.sub_self, List.take_succ_eq_append_getElem hk, e, List.map_append, List.append_assoc]
  congr 1
  obtain ⟨m, hm⟩ : ∃ m, xs.length - k = m + 1 := ⟨xs.length - k - 1, by omega⟩
  rw [hm, show xs.length - (k + 1) = m from by omega, List.replicate_succ]; rfl
theorem half_len (xs : List ByteArray) (k : Nat) (hk : k ≤ xs.length) : (half xs k).length = xs.length := by simp [half]; omega

set_option maxRecDepth 100000 in
set_option maxHeartbeats 2000000 in
theorem copied_any (ao : Option Addr) (cap : Nat) (xs : List ByteArray) (w : World) (hn : xs.length ≤ 1099511627776) (hs : ∀ c ∈ xs, c.size ≤ 281474976710656) (hR : StrRow w ao xs) :
    Calls Tryz.prog 132 #[.slice ao xs.length cap] w fun e w' => e = .returned (.slice (some ⟨w.heap.size, 0, none⟩) xs.length xs.length) ∧
      w'.ownsRow w.heap.size 9 1 (.slice (some ⟨w.heap.size, 0, none⟩) xs.length xs.length) xs.length (xs.map Value.string) ∧ Below w.heap.size w w' := by
  have hinfo : (Tryz.prog.info? 9).map (fun i => (i.zero, i.size, i.bytes)) = some (some (.string ⟨#[]⟩), 1, 16) := by kernel_rfl
  obtain ⟨i0, hi, hz0, hz1, hz2⟩ := info_parts hinfo
  have HI := Lib.hid hi
  have HRo := Lib.hid hR
  have HSo := Lib.hid hs
  have hm : xs.length ≤ maxLen := by unfold maxLen; omega
  clear hi hinfo hR hs
  go_enter Tryz.func132, Tryz.ntmps132
  go_wp2_with (at_make; refine wpList_make_full _ rfl _ _ 22 rfl w.heap.size 9 i0 (.string ⟨#[]⟩) 1 Tryz.underlying22 HI.out hz0 hz1 .i64 .i64 (xs.length : Int) (xs.length : Int) xs.length rfl rfl rfl rfl (by rw [hz2]; omega) hm (Nat.le_refl _) ?_; intro w1 ho hg)
  have HB : Hid (Below w.heap.size w w1) := Lib.hid ((Below.refl _ w).grown hg (Nat.le_refl _) (fun k h => by cases h))
  have HO : Hid (w1.ownsRow w.heap.size 9 1 (.slice (some ⟨w.heap.size, 0, none⟩) xs.length xs.length) xs.length (half xs 0)) := Lib.hid (by
    rw [half_zero]; rw [Nat.mul_one] at ho; rw [← toList_madeCells_one]; exact ho)
  clear ho hg
  go_wp2_with fail
  go_loopw [11] (fun i wr => ∃ k : Nat, k ≤ xs.length ∧ i = .int .i64 k ∧ Hid (Below w.heap.size w wr) ∧ Hid (wr.ownsRow w.heap.size 9 1 (.slice (some ⟨w.heap.size, 0, none⟩) xs.length xs.length) xs.length (half xs k))) (fun i _ => xs.length - (intOf i).toNat)
  case atStart => exact ⟨0, Nat.zero_le _, rfl, HB, HO⟩
  case round =>
    obtain ⟨k, hk, rfl, HB, HO⟩ := hrel
    by_cases hlt : k < xs.length
    · obtain ⟨x, hx⟩ : ∃ x, xs[k]? = some x := ⟨_, List.getElem?_eq_getElem hlt⟩
      have HX := Lib.hid hx
      have C := Lib.hid (clone_any x wr (HSo.out x (List.mem_of_getElem? hx)))
      rcases (HRo.out.kept HB.out) with h0 | ⟨A, rfl, hA, hcell⟩
      · rw [h0] at hlt; simp at hlt
      have hc := hcell k x hx
      clear hcell hx
      go_wp2_with fail
      refine C.out.mono ?_; rintro e w2 ⟨rfl, b2⟩
      have HB2 := Lib.hid (below_up HB.out b2)
      have HO2 := Lib.hid (ownsRow_below HO.out b2)
      clear b2 hc
      have hcell : w2.cell? ⟨w.heap.size, k, none⟩ = some ((half xs k)[k]'(by rw [half_len xs k (by omega)]; exact hlt)) := by
        rw [HO2.out.cellAt k (by omega), List.getElem?_eq_getElem]
      have hfr : w2.frozen? ⟨w.heap.size, k, none⟩ = false := HO2.out.frozenAt k
      generalize (half xs k)[k]'(by rw [half_len xs k (by omega)]; exact hlt) = old at hcell
      have HO3 := Lib.hid (HO2.out.stored k (.string x)).1
      rw [half_next xs k x HX.out] at HO3
      have HB3 := Lib.hid (HB2.out.setCell (p := ⟨w.heap.size, k, none⟩) (Nat.le_refl _) (.string x))
      go_wp2_with fail
      go_roundw
      case rel => exact ⟨k + 1, by omega, by go_num, HB3, HO3⟩
      case measure => simp [intOf]; omega
    · obtain rfl : k = xs.length := by omega
      rw [half_all] at HO
      go_wp2_with fail
      go_ret
      exact ⟨rfl, HO.out, HB.out⟩
end Go.Proofs.YtigijgcldgbokaaGreat
