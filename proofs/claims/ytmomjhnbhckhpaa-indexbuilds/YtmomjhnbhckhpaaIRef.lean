/-
  The reference of layer 12: how keys stand, the first row of a key.
  Conditions: at most 2^20 columns, 2^30 rows.
-/
import Derived.WalkKit
import Derived.WalkMore
import Derived.IntWalk
import Derived.WalkArith
import Derived.Laws.Cover1
import Derived.Lib.Hide
import Derived.BigQuiet
import Derived.Deep.QuietTactic
import Derived.Deep.Cut
import Derived.Test.YtmomjhnbhckhpaaProg
import Derived.Test.YtmomjhnbhckhpaaIRefKey
import Derived.Test.YtmomjhnbhckhpaaIFind
namespace Go.Proofs.Ytmomjhnbhckhpaa
open Go.RowKit Go.Shelf
set_option linter.unusedVariables false

theorem less_bytes : ∀ a b : List UInt8, Op.bytesLess a b = decide (Lib.compareBytes a b < 0)
  | [], [] => rfl
  | _ :: _, [] => rfl
  | [], _ :: _ => rfl
  | a :: x, b :: y => by
    have ih := less_bytes x y
    simp only [Op.bytesLess, Lib.compareBytes]
    by_cases h1 : a < b
    · simp [h1]
    · by_cases h2 : b < a
      · have hne : (a == b) = false := by
          rw [beq_eq_false_iff_ne]; rintro rfl; exact h1 h2
        simp [h1, h2, hne]
      · have he : (a == b) = true := by
          rw [beq_iff_eq, ← UInt8.toNat_inj]
          rw [UInt8.lt_iff_toNat_lt] at h1 h2; omega
        simp [h1, h2, he, ih]
/-- which of two texts is less, as the language tests it -/
theorem less_txt (a b : ByteArray) : Op.bytesLess a.toList b.toList = decide (txtC a b < 0) := by
  rw [ba_toList, ba_toList]; exact less_bytes _ _
theorem eq_txt (a b : ByteArray) : (a.toList == b.toList) = decide (txtC a b = 0) := by
  have hz := txt_cmp.zero a b
  by_cases h : txtC a b = 0
  · rw [decide_eq_true h, hz.1 h]; simp
  · rw [decide_eq_false h, beq_eq_false_iff_ne]
    intro e
    apply h
    rw [hz]
    rw [ba_toList, ba_toList] at e
    exact ba_eq e
theorem gtr_txt (a b : ByteArray) : (!(Op.bytesLess a.toList b.toList || a.toList == b.toList)) = decide (0 < txtC a b) := by
  rw [less_txt, eq_txt]
  rcases txt_cmp.unit a b with e | e | e <;> rw [e] <;> rfl

set_option maxRecDepth 100000 in
set_option maxHeartbeats 1000000 in
theorem rcmp_any (ao bo : Option Addr) (ca cb : Nat) (xs ys : List ByteArray) (w : World) (hn : xs.length ≤ 274877906944) (hm : ys.length ≤ 274877906944) (hR : StrRow w ao xs) (hS : StrRow w bo ys) :
    Calls Try.prog 19 #[.slice ao xs.length ca, .slice bo ys.length cb] w fun e w' => e = .returned (.int .i64 (keyC xs ys)) ∧ Below w.heap.size w w' := by
  have HRo := Lib.hid hR
  have HSo := Lib.hid hS
  have HH := Lib.hid (lex_hit txtC xs ys)
  have HE := Lib.hid (lex_end txtC xs ys)
  unfold keyC
  clear hR hS
  generalize lexH txtC xs ys = F at HH HE ⊢
  go_enter Try.func19, Try.ntmps19
  go_wp2_with fail
  go_loopw [5] (fun i wr => ∃ (k : Nat), k ≤ xs.length ∧ k ≤ ys.length ∧ i = .int .i64 k ∧ Hid (Below w.heap.size w wr) ∧ Hid (∀ (j : Nat) x y, j < k → xs[j]? = some x → ys[j]? = some y → txtC x y = 0)) (fun i _ => xs.length - (intOf i).toNat)
  case atStart => exact ⟨0, Nat.zero_le _, Nat.zero_le _, rfl, Lib.hid (Below.refl _ _), Lib.hid (fun j x y hj _ _ => by omega)⟩
  case round =>
    obtain ⟨k, hkx, hky, rfl, HB, HZ⟩ := hrel
    by_cases hlx : k < xs.length
    · have d1 : decide ((k : Int) < (xs.length : Int)) = true := decide_eq_true (by omega)
      by_cases hly : k < ys.length
      · have d2 : decide ((k : Int) < (ys.length : Int)) = true := decide_eq_true (by omega)
        obtain ⟨x, hx⟩ : ∃ x, xs[k]? = some x := ⟨_, List.getElem?_eq_getElem hlx⟩
        obtain ⟨y, hy⟩ : ∃ y, ys[k]? = some y := ⟨_, List.getElem?_eq_getElem hly⟩
        rcases (HRo.out.kept HB.out) with h0 | ⟨A, rfl, hA, hcell1⟩
        · rw [h0] at hx; simp at hx
        rcases (HSo.out.kept HB.out) with h0 | ⟨B, rfl, hBl, hcell2⟩
        · rw [h0] at hy; simp at hy
        have hc1 := hcell1 k _ hx
        have hc2 := hcell2 k _ hy
        have HX := Lib.hid hx
        have HY := Lib.hid hy
        have HF := Lib.hid (fun h => HH.out k x y hx hy HZ.out h)
        have hls := less_txt x y
        have hgt := gtr_txt x y
        have hun := txt_cmp.unit x y
        clear hcell1 hcell2 hx hy
        obtain ⟨r, hr⟩ : ∃ r, r = txtC x y := ⟨_, rfl⟩
        rw [← hr] at HF hls hgt hun
        have HRr := Lib.hid hr
        clear hr
        rcases hun with e | e | e
        · rw [e] at hls
          have hls' : Op.bytesLess x.toList y.toList = true := hls
          have E := Lib.hid (HF.out (by omega))
          have e1 := Lib.hid e
          clear hls hgt e HF
          go_upto_region 4 with fail
          go_quiet (fail)
          have HBq := Lib.hid (bdn (n := nq) HB.out)
          go_wp2_with fail
          go_ret
          exact ⟨by rw [E.out, e1.out]; rfl, HBq.out⟩
        · rw [e] at hls hgt
          have hls' : Op.bytesLess x.toList y.toList = false := hls
          have hgt' : (!(Op.bytesLess x.toList y.toList || x.toList == y.toList)) = false := hgt
          have heq : (x.toList == y.toList) = true := by rw [hls'] at hgt'; simpa using hgt'
          have HZ2 : Hid (∀ (j : Nat) x y, j < k + 1 → xs[j]? = some x → ys[j]? = some y → txtC x y = 0) := Lib.hid (fun j x' y' hj h1 h2 => by
            by_cases hjk : j = k
            · subst hjk; rw [HX.out] at h1; rw [HY.out] at h2; cases h1; cases h2; rw [← HRr.out]; exact e
            · exact HZ.out j x' y' (by omega) h1 h2)
          clear hls hgt hgt' e HF
          go_upto_region 4 with fail
          go_quiet (fail)
          have HBq := Lib.hid (bdn (n := nq) HB.out)
          have hA2 : (wr.drewN nq).cell? (A.add k) = some (.string x) := hc1
          have hB2 : (wr.drewN nq).cell? (B.add k) = some (.string y) := hc2
          clear hc1 hc2
          obtain ⟨wq, hwq⟩ : ∃ wq, wq = wr.drewN nq := ⟨_, rfl⟩
          rw [← hwq] at HBq hA2 hB2 ⊢
          clear hwq
          go_upto_region 6 with fail
          go_quiet (fail)
          have HBr := Lib.hid (bdn (n := nq) HBq.out)
          go_wp2_with fail
          go_roundw
          case rel => exact ⟨k + 1, by omega, by omega, by go_num, HBr, HZ2⟩
          case measure => simp [intOf]; omega
        · rw [e] at hls hgt
          have hls' : Op.bytesLess x.toList y.toList = false := hls
          have hgt' : (!(Op.bytesLess x.toList y.toList || x.toList == y.toList)) = true := hgt
          have heq : (x.toList == y.toList) = false := by rw [hls'] at hgt'; simpa using hgt'
          have E := Lib.hid (HF.out (by omega))
          have e1 := Lib.hid e
          clear hls hgt hgt' e HF
          go_upto_region 4 with fail
          go_quiet (fail)
          have HBq := Lib.hid (bdn (n := nq) HB.out)
          have hA2 : (wr.drewN nq).cell? (A.add k) = some (.string x) := hc1
          have hB2 : (wr.drewN nq).cell? (B.add k) = some (.string y) := hc2
          clear hc1 hc2
          obtain ⟨wq, hwq⟩ : ∃ wq, wq = wr.drewN nq := ⟨_, rfl⟩
          rw [← hwq] at HBq hA2 hB2 ⊢
          clear hwq
          go_upto_region 6 with fail
          go_quiet (fail)
          have HBr := Lib.hid (bdn (n := nq) HBq.out)
          go_wp2_with fail
          go_ret
          exact ⟨by rw [E.out, e1.out]; rfl, HBr.out⟩
      · have d2 : decide ((k : Int) < (ys.length : Int)) = false := decide_eq_false (by omega)
        have hyk : ys.length = k := by omega
        have E : Hid (F = cmpI xs.length ys.length) := Lib.hid (HE.out (fun j x y h1 h2 => HZ.out j x y (by have := (List.getElem?_eq_some_iff.1 h2).1; omega) h1 h2))
        have E2 : Hid (F = 1) := Lib.hid (by rw [E.out]; unfold cmpI; rw [if_neg (by omega), if_pos (by omega)])
        have g1 : decide ((xs.length : Int) < (ys.length : Int)) = false := decide_eq_false (by omega)
        have g2 : decide ((ys.length : Int) < (xs.length : Int)) = true := decide_eq_true (by omega)
        clear hyk E
        go_wp2_with fail
        go_ret
        exact ⟨by rw [E2.out]; rfl, HB.out⟩
    · have d1 : decide ((k : Int) < (xs.length : Int)) = false := decide_eq_false (by omega)
      have hxk : xs.length = k := by omega
      have E : Hid (F = cmpI xs.length ys.length) := Lib.hid (HE.out (fun j x y h1 h2 => HZ.out j x y (by have := (List.getElem?_eq_some_iff.1 h1).1; omega) h1 h2))
      by_cases hxy : xs.length < ys.length
      · have E2 : Hid (F = -1) := Lib.hid (by rw [E.out]; unfold cmpI; rw [if_pos (by omega)])
        have g1 : decide ((xs.length : Int) < (ys.length : Int)) = true := decide_eq_true (by omega)
        clear hxk E
        go_wp2_with fail
        go_ret
        exact ⟨by rw [E2.out]; rfl, HB.out⟩
      · have E2 : Hid (F = 0) := Lib.hid (by rw [E.out]; unfold cmpI; rw [if_neg (by omega), if_neg (by omega)])
        have g1 : decide ((xs.length : Int) < (ys.length : Int)) = false := decide_eq_false (by omega)
        have g2 : decide ((ys.length : Int) < (xs.length : Int)) = false := decide_eq_false (by omega)
        clear hxk E
        go_wp2_with fail
        go_ret
        exact ⟨by rw [E2.out]; rfl, HB.out⟩
/-- what the reference finds -/
def firstK (C : Int → Int) (n : Nat) : Option Nat := (List.range n).find? fun (i : Nat) => decide (C i = 0)
theorem firstK_hit (C : Int → Int) (n i : Nat) (hi : i < n) (h : C i = 0) (hb : ∀ j : Nat, j < i → C j ≠ 0) : firstK C n = some i := by
  unfold firstK
  rw [List.find?_range_eq_some]
  exact ⟨decide_eq_true h, List.mem_range.2 hi, fun j hj => by simpa using hb j hj⟩
theorem firstK_none (C : Int → Int) (n : Nat) (h : ∀ j : Nat, j < n → C j ≠ 0) : firstK C n = none := by
  unfold firstK
  rw [List.find?_eq_none]
  intro x hx
  simpa using h x (List.mem_range.1 hx)

set_option maxRecDepth 100000 in
set_option maxHeartbeats 1000000 in
theorem rfindI_any (ho : Option Addr) (m hc : Nat) (ro : Option Addr) (rc : Nat) (rs : List (List ByteArray)) (co : Option Addr) (cc : Nat) (cols : List Int) (so : Option Addr) (sc : Nat) (key : List ByteArray) (w : World) (hcl : cols.length ≤ 1048576) (hkl : key.length ≤ 1048576) (hrl : rs.length ≤ 1073741824) (hR : RowsAt w ro rs) (hI : IntsAt w co cols) (hS : StrRow w so key) :
    Calls Try.prog 17 #[.agg #[.slice ho m hc, .slice ro rs.length rc], .slice co cols.length cc, .slice so key.length sc] w fun e w' => ((∃ i : Nat, firstK (fun x => keyC (rowKey rs cols x) key) rs.length = some i ∧ e = .returned (.tuple #[.int .i64 i, .bool true])) ∨ (firstK (fun x => keyC (rowKey rs cols x) key) rs.length = none ∧ e = .returned (.tuple #[.int .i64 0, .bool false]))) ∧ Below w.heap.size w w' := by
  have HB0 := Lib.hid (one_below w (TabO ho m hc ro rs.length rc))
  have HNew := Lib.hid (World.alloc_heap_new w (TabO ho m hc ro rs.length rc))
  have CK := Lib.hid (fun W (x : Int) (h : Below w.heap.size w W) => rkey_any ho m hc ro rc rs x co cc cols W hcl (hR.kept h) (hI.kept h))
  have CC := Lib.hid (fun W (x : Int) (ao : Option Addr) (ca : Nat) (h : Below w.heap.size w W) (h1 : StrRow W ao (rowKey rs cols x)) => rcmp_any ao so ca sc (rowKey rs cols x) key W (by rw [rowKey_len]; omega) (by omega) h1 (hS.kept h))
  have HHit := Lib.hid (firstK_hit (fun x => keyC (rowKey rs cols x) key) rs.length)
  have HNo := Lib.hid (firstK_none (fun x => keyC (rowKey rs cols x) key) rs.length)
  generalize firstK (fun x => keyC (rowKey rs cols x) key) rs.length = F at HHit HNo ⊢
  clear hR hI hS
  obtain ⟨W, HW⟩ : ∃ W, Hid (W = w.alloc (TabO ho m hc ro rs.length rc)) := ⟨_, Lib.hid rfl⟩
  rw [← HW.out] at HB0 HNew
  go_enter Try.func17, Try.ntmps17
  go_upto_region 1 with fail
  rw [show w.alloc (TabO ho m hc ro rs.length rc) = W from HW.out.symm]
  go_wp2_with fail
  go_loopw [8] (fun i wr => ∃ (k : Nat), k ≤ rs.length ∧ i = .int .i64 k ∧ Hid (Below W.heap.size W wr) ∧ Hid (∀ j : Nat, j < k → keyC (rowKey rs cols j) key ≠ 0)) (fun i _ => rs.length - (intOf i).toNat)
  case atStart => exact ⟨0, Nat.zero_le _, rfl, Lib.hid (Below.refl _ _), Lib.hid (fun j h => by omega)⟩
  case round =>
    obtain ⟨k, hk, rfl, HB, HA⟩ := hrel
    obtain ⟨c0, c1⟩ := tabs ((HB.out.block _ (lt_of_heap HNew.out)).trans HNew.out)
    by_cases hlt : k < rs.length
    · have C1 := Lib.hid (CK.out wr (k : Int) (below_up HB0.out HB.out))
      unfold StrsOut at C1
      have C2 := Lib.hid (fun V (ao : Option Addr) (ca : Nat) h h1 => CC.out V (k : Int) ao ca h h1)
      have H1 := Lib.hid (HHit.out k hlt)
      obtain ⟨r, hr⟩ : ∃ r, r = keyC (rowKey rs cols k) key := ⟨_, rfl⟩
      rw [← hr] at C2
      have HRr := Lib.hid hr
      have HRk : Hid (keyC (rowKey rs cols k) key = r) := Lib.hid hr.symm
      have HKK : Hid (keyR rs k cols = rowKey rs cols k) := Lib.hid rfl
      rw [HKK.out] at C1
      clear hr
      clear HRr HKK
      obtain ⟨kx, hkx⟩ : ∃ kx, kx = rowKey rs cols (k : Int) := ⟨_, rfl⟩
      rw [← hkx] at C1 C2
      clear hkx
      go_wp2_with fail
      refine C1.out.mono ?_; rintro e w2 ⟨ao, ca, rfl, hst, b2⟩
      have B2 := Lib.hid (below_up HB.out b2)
      have C3 := Lib.hid (C2.out w2 ao ca (below_up HB0.out B2.out) hst)
      clear b2 hst c0 c1
      by_cases h0 : r = 0
      · have hb0 : (r == 0) = true := by simpa using h0
        have E := Lib.hid (H1.out (by show keyC (rowKey rs cols k) key = 0; rw [HRk.out]; exact h0) HA.out)
        go_wp2_with fail
        refine C3.out.mono ?_; rintro e w3 ⟨rfl, b3⟩
        have B3 := Lib.hid (below_up B2.out b3)
        clear b3
        go_wp2_with fail
        refine bodyPost_ret (v := .tuple #[.int .i64 (k : Int), .bool true]) (by simp [results, Try.results17, go_sem]) rfl ?_
        exact ⟨.inl ⟨k, E.out, rfl⟩, below_up HB0.out B3.out⟩
      · have hb0 : (r == 0) = false := by simpa using h0
        have HA2 : Hid (∀ j : Nat, j < k + 1 → keyC (rowKey rs cols j) key ≠ 0) := Lib.hid (fun j hj => by
          by_cases e : j = k
          · subst e; rw [HRk.out]; exact h0
          · exact HA.out j (by omega))
        go_wp2_with fail
        refine C3.out.mono ?_; rintro e w3 ⟨rfl, b3⟩
        have B3 := Lib.hid (below_up B2.out b3)
        clear b3
        go_wp2_with fail
        go_roundw
        case rel => exact ⟨k + 1, by omega, by go_num, B3, HA2⟩
        case measure => simp [intOf]; omega
    · obtain rfl : k = rs.length := by omega
      have E := Lib.hid (HNo.out HA.out)
      go_wp2_with fail
      refine bodyPost_ret (v := .tuple #[.int .i64 0, .bool false]) (by simp [results, Try.results17, go_sem]) rfl ?_
      exact ⟨.inr ⟨E.out, rfl⟩, below_up HB0.out HB.out⟩
end Go.Proofs.Ytmomjhnbhckhpaa
