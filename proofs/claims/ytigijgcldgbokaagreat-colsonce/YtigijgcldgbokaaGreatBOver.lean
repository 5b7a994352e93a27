/-
  How much two lists have in common: the program's answer, by a map that is gone through in whatever order.
  Conditions: lists of at most 2^20 Go strings.
-/
import Derived.Maps.RangeWalk
import Derived.Sort.KeysCollected
import Derived.Test.YtigijgcldgbokaaGreatProg
import Derived.Test.YtigijgcldgbokaaGreatBCount
namespace Go.Proofs.YtigijgcldgbokaaGreat
open Go.RowKit Go.Shelf Go.Maps
open Go.Proofs (encStr)
set_option linter.unusedVariables false

set_option maxRecDepth 100000 in
/-- a round over the map of the second list: what comes, and that it fits -/
theorem over_come {D : DataW Unit} {ts us : List Txt} {left : Lit → Bool} {ss : List Txt} {x : Txt} {c : Int} {yd : DataW Unit} {yp : List MemPlace} (hD : CntIs D (fun l => if decide (0 < cntN l ts) = true then cntN l us else 0)) (hC : Collected D left ss) (hl : left (.string x) = true)
    (hv : plainElem Tryz.prog 3 (.int .i64 c) = some (yd, yp)) (hat : ∀ zd, D.atKey (.string x) zd = yd) :
    c = ((cntN x us : Nat) : Int) ∧ Collected D (fun z => left z && !z.sameKey (.string x)) (ss ++ [x]) ∧ sumN (fun s => min (cntN s us) (cntN s ts)) (ss ++ [x]) = sumN (fun s => min (cntN s us) (cntN s ts)) ss + min (cntN x us) (cntN x ts) ∧ sumN (fun s => min (cntN s us) (cntN s ts)) (ss ++ [x]) ≤ us.length := by
  have hs := hC.step hl hat
  have hh : has D (.string x) = true := has_true_of_atKey hat
  rw [hD.here] at hh
  have hp := of_decide_eq_true hh
  have h0 := hat (.lit (.int .i64 0))
  rw [hD.look] at h0
  obtain ⟨c', e1, e2, _⟩ := plainElem_int_inv Tryz.underlying3 hv
  cases e1
  simp only [Prod.mk.injEq] at e2
  rw [e2.1] at h0
  have e3 : (((if decide (0 < cntN x ts) = true then cntN x us else 0 : Nat)) : Int) = c := by injection h0 with h1; injection h1
  have hq : decide (0 < cntN x ts) = true := by
    by_cases h : decide (0 < cntN x ts) = true
    · exact h
    · simp only [h] at hp; simp at hp
  rw [if_pos hq] at e3
  refine ⟨e3.symm, hs, ?_, ?_⟩
  · rw [sum_append]; simp [sumN]
  · exact Nat.le_trans (sum_le_over ts us _ hs.1) (over_le2 ts us)
theorem over_done {D : DataW Unit} {ts us : List Txt} {left : Lit → Bool} {ss : List Txt} (hD : CntIs D (fun l => if decide (0 < cntN l ts) = true then cntN l us else 0)) (hC : Collected D left ss) (hl : ∀ kl, left kl = false) :
    sumN (fun s => min (cntN s us) (cntN s ts)) ss = overL ts us := by
  rw [over_sum ts us ss hC.1 (fun s h1 h2 => (hC.2 s).2 ⟨?_, hl _⟩)]
  rw [hD.here]
  have a := (cnt_pos s ts).2 h1
  have b := (cnt_pos s us).2 h2
  rw [if_pos (decide_eq_true a)]; exact decide_eq_true b

set_option maxRecDepth 100000 in
set_option maxHeartbeats 4000000 in
theorem over_any (ao bo : Option Addr) (ca cb : Nat) (xs ys : List ByteArray) (w : World) (hn : xs.length ≤ 1048576) (hm : ys.length ≤ 1048576) (hs : ∀ c ∈ xs, c.size ≤ maxLen) (ht : ∀ c ∈ ys, c.size ≤ maxLen) (hR : StrRow w ao xs) (hS : StrRow w bo ys) :
    Calls Tryz.prog 92 #[.slice ao xs.length ca, .slice bo ys.length cb] w fun e w' => e = .returned (.int .i64 ((overL (bytesOf xs) (bytesOf ys) : Nat) : Int)) ∧ Below w.heap.size w w' := by
  have C1 := Lib.hid (tally_any 122 #[] (fun _ => true) (enters_of Tryz.func122 (by kernel_rfl) rfl) ao ca xs w hn hs hR (fun x hx W hW => over1_any x W))
  have C2 := Lib.hid (fun (b B k : Nat) (D : DataW Unit) (f : Txt → Nat) (V : World) (hb : V.heap[b]? = some (.cells #[.map (some B)] 55 (0, 0))) (hM : V.ownsMap Tryz.prog 9 (plainElem Tryz.prog 3) B k D) (hD : CntIs D f) (hV : Below w.heap.size w V) =>
    tally_any 123 #[.pointer (some ⟨b, 0, none⟩)] (fun l => decide (0 < f l)) (enters_of Tryz.func123 (by kernel_rfl) rfl) bo cb ys V hm ht (hS.kept hV)
      (fun x hx W hW => over2_any x b B k D f W (ht x hx) ((hW.block _ (lt_of_heap hb)).trans hb) (ownsMap_below hM hW) hD))
  have HL : Hid (∀ x ∈ ys, x.size ≤ maxLen) := Lib.hid ht
  have hlen := bytes_len ys
  obtain ⟨N, hN⟩ : ∃ N, N = overL (bytesOf xs) (bytesOf ys) := ⟨_, rfl⟩
  rw [← hN]
  have HN := Lib.hid hN
  clear hR hS hs ht hN
  go_enter Tryz.func92, Tryz.ntmps92
  go_wp2_with fail
  refine C1.out.mono ?_
  rintro e w1 ⟨B1, D1, rfl, hB1, hM1, hD1, b1⟩
  obtain ⟨V, HV⟩ : ∃ V, Hid (V = w1.alloc (.cells #[.map (some B1)] 55)) := ⟨_, Lib.hid rfl⟩
  obtain ⟨X, hX⟩ : ∃ X, X = w1.heap.size := ⟨_, rfl⟩
  have hVB : Below w1.heap.size w1 V := by rw [HV.out]; exact (Below.refl _ _).alloc (Nat.le_refl _) _
  have hVX : V.heap[X]? = some (.cells #[.map (some B1)] 55 (0, 0)) := by rw [HV.out, hX]; exact World.alloc_heap_new _ _
  have hD1' : CntIs D1 (fun l => cntN l (bytesOf xs)) := hD1.same (fun l => by simp)
  have HB := Lib.hid (below_up b1 hVB)
  have HVX := Lib.hid hVX
  have HM1 := Lib.hid (ownsMap_below hM1 hVB)
  have HD1 := Lib.hid hD1'
  have C3 := Lib.hid (C2.out X B1 xs.length D1 _ V hVX HM1.out hD1' HB.out)
  have HX1 := Lib.hid (show w.heap.size ≤ X by rw [hX]; exact b1.size)
  have hXB : B1 < X := by rw [hX]; exact hM1.lt
  have HXB := Lib.hid hXB
  have HBB := Lib.hid hB1
  clear C2 C1 hD1 hD1' hVX hM1 b1 hVB hXB hB1
  go_upto_region 2 with fail
  rw [← HV.out, ← hX]
  clear HV hX
  go_wp2_with fail
  refine C3.out.mono ?_
  rintro e w2 ⟨B2, D2, rfl, hB2, hM2, hD2, b2⟩
  have HB2 := Lib.hid (below_up HB.out b2)
  have HX2 := Lib.hid ((b2.block X (lt_of_heap HVX.out)).trans HVX.out)
  have HMa := Lib.hid (ownsMap_below HM1.out b2)
  have hVs := lt_of_heap HVX.out
  have HNe := Lib.hid (show B2 ≠ X ∧ B2 ≠ B1 from ⟨by omega, by have := HXB.out; omega⟩)
  have HD2 := Lib.hid hD2
  have hszw := Lib.hid (Nat.le_trans HB.out.size b2.size)
  clear HB HVX HM1 C3 b2 hD2 hB2 hVs
  go_upto_region 4 with fail
  go_wp2_with (first
    | (at_range; refine wpList_range_own _ rfl _ 55 rfl 9 3 (string_keyed Tryz.underlying9) Tryz.underlying55 _ B2 ys.length _ rfl hM2 ?_; intro w0 hrg0 hg0 hs0)
    | go_in)
  go_frame
  obtain ⟨r, hr⟩ : ∃ r, r = w2.heap.size := ⟨_, rfl⟩
  rw [← hr] at hrg0 ⊢
  have h20 : Below w2.heap.size w2 w0 := ⟨hg0.os, hg0.tape, hg0.output, hg0.size, fun k hk => hg0.block k hk (by simp)⟩
  have HB0 := Lib.hid (HB2.out.trans (h20.mono hszw.out))
  have HX0 := Lib.hid ((h20.block X (lt_of_heap HX2.out)).trans HX2.out)
  have HM0 := Lib.hid (ownsMap_below HMa.out h20)
  have HRg := Lib.hid hrg0
  have HNr := Lib.hid (show X ≠ r ∧ B1 ≠ r ∧ w.heap.size ≤ r from ⟨by have := lt_of_heap HX2.out; omega, by have := HMa.out.lt; omega, by rw [hr]; exact hszw.out⟩)
  clear hs0 hg0 hrg0 hM2 hr h20 HB2 HX2 HMa hszw
  obtain ⟨g, hg⟩ : ∃ g : Txt → Nat, g = fun s => min (cntN s (bytesOf ys)) (cntN s (bytesOf xs)) := ⟨_, rfl⟩
  have HCo := Lib.hid (fun left ss x c yd yp hC hl hv hat => over_come (left := left) (ss := ss) (x := x) (c := c) (yd := yd) (yp := yp) HD2.out hC hl hv hat)
  have HDo := Lib.hid (fun left ss hC hl => over_done (left := left) (ss := ss) HD2.out hC hl)
  rw [← hg, hlen] at HCo
  rw [← hg, ← HN.out] at HDo
  clear hg hlen HN
  go_loopw [7] (fun n wr => ∃ (left : Lit → Bool) (cnt : Nat) (ss : List Txt), n = .int .i64 ((sumN g ss : Nat) : Int) ∧ Hid (wr.ranges Tryz.prog 9 (plainElem Tryz.prog 3) B2 r ys.length D2 left cnt) ∧ Hid (Collected D2 left ss) ∧ Hid (sumN g ss ≤ ys.length) ∧ Hid (Below w.heap.size w wr) ∧ Hid (wr.heap[X]? = some (.cells #[.map (some B1)] 55 (0, 0))) ∧ Hid (wr.ownsMap Tryz.prog 9 (plainElem Tryz.prog 3) B1 xs.length D1)) (fun _ wr => wr.rangeLeft B2 r)
  case atStart => exact ⟨_, _, [], by simp [sumN], HRg, Lib.hid (Collected.start D2), Lib.hid (by simp [sumN]), HB0, HX0, HM0⟩
  case round =>
    obtain ⟨left, cnt, ss, rfl, HRr, HC, HSm, HBr, HXr, HMr⟩ := hrel
    clear HRg HB0 HX0 HM0
    obtain ⟨z, hz⟩ : ∃ z : Int, z = ((sumN g ss : Nat) : Int) := ⟨_, rfl⟩
    rw [← hz]
    have HZ := Lib.hid hz
    clear hz
    go_wp2_with (first
      | (at_next; refine wpList_next_ranges _ rfl _ rfl 9 (string_keyed Tryz.underlying9) (plainElem Tryz.prog 3) encStr (Value.int .i64) (fun key kl hk => by obtain ⟨x, hx, _⟩ := Maps.keyOf_str Tryz.underlying9 hk; exact ⟨x, hx⟩) (fun v y hv => by obtain ⟨c, rfl, _⟩ := plainElem_int_inv Tryz.underlying3 hv; exact ⟨c, rfl⟩) B2 r ys.length _ _ _ rfl HRr.out ?_ ?_)
      | go_in)
    · intro hc0 hl0
      have HE := Lib.hid (HZ.out.trans (congrArg _ (HDo.out left ss HC.out hl0)))
      clear hl0 hc0
      go_wp2_with fail
      go_ret
      exact ⟨by rw [HE.out]; rfl, HBr.out⟩
    · intro x c kl yd yp w3 cnt3 hkey hlk hv hat hrg3 hlt3 hg3 hs3 hen
      obtain ⟨x', ex, rfl, hxl⟩ := Maps.keyOf_str Tryz.underlying9 hkey
      obtain rfl : x = x' := encStr_inj ex
      obtain ⟨hc, hC3, hsum, hle⟩ := HCo.out left ss x c yd yp HC.out hlk hv hat
      have HB3 := Lib.hid (HBr.out.grown hg3 HBr.out.size (fun j hj => by cases hj; exact HNr.out.2.2))
      have HX3 := Lib.hid ((hg3.block X (lt_of_heap HXr.out) (by simpa using HNr.out.1)).trans HXr.out)
      have HM3 := Lib.hid (HMr.out.kept hg3 (by simpa using HNr.out.2.1))
      have hlook := cnt_look HM3.out HD1.out ⟨x.toArray⟩ (by simpa [ByteArray.size] using hxl)
      have ex2 : (⟨x.toArray⟩ : ByteArray).data.toList = x := by simp
      rw [ex2] at hlook
      have hu := cnt_le x (bytesOf ys)
      have hv2 := cnt_le x (bytesOf xs)
      rw [bytes_len] at hu hv2
      obtain ⟨cX, _⟩ := cell_of_box_l HX3.out
      generalize cntN x (bytesOf ys) = u at hc hsum hu
      generalize cntN x (bytesOf xs) = v at hlook hsum hv2
      subst hc
      obtain ⟨m, hm⟩ : ∃ m, m = min u v := ⟨_, rfl⟩
      have hmin : (if (v : Int) < (u : Int) then (v : Int) else (u : Int)) = (m : Int) := by
        rw [hm]; split <;> omega
      rw [← hm] at hsum
      have hz := HZ.out
      have hwr : IntKind.i64.wrap (z + (m : Int)) = z + (m : Int) := IntWalk.i64_in _ (by omega)
      have HZ2 : Hid (z + (m : Int) = ((sumN g (ss ++ [x]) : Nat) : Int)) := Lib.hid (by omega)
      have HS2 := Lib.hid hle
      have HC4 := Lib.hid hC3
      have HR3 := Lib.hid hrg3
      have HL3 := Lib.hid hlt3
      clear hlk hv hat hkey hg3 hs3 hC3 hsum hle hm hz hrg3 hlt3 ex2 hu hv2 hxl
      have hmn : ∀ (ts : Array TypeId) (t : TypeId) (W : World), (Builtin.min_ ts t #[.int .i64 (u : Int), .int .i64 (v : Int)]).run Tryz.prog W = .ok (.int .i64 (m : Int)) W := fun ts t W => by
        rw [run_min_int2, hmin]
      clear hmin
      go_wp2_with fail
      go_roundw
      case rel => exact ⟨_, cnt3, ss ++ [x], by rw [HZ2.out], HR3, HC4, HS2, HB3, HX3, HM3⟩
      case measure => rw [HR3.out.left_eq, HRr.out.left_eq]; exact HL3.out
end Go.Proofs.YtigijgcldgbokaaGreat
