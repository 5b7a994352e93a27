/-
  The document's reference for the longest common row: how long it is, and its pairs.
  Conditions: lists of at most 4096 Go strings.
-/
import Derived.Deep.OwnRows
import Derived.WalkKit
import Derived.WalkMore
import Derived.IntWalk
import Derived.WalkArith
import Derived.OwnWalk
import Derived.Lib.Hide
import Derived.Deep.Cut
import Derived.Deep.Onto
import Derived.BigQuiet
import Derived.RegionTactic
import Derived.Deep.QuietTactic
import Derived.Test.YtcdamnnbpifhpaaProg
import Derived.Test.YtcdamnnbpifhpaaLcCommon
import Derived.Test.YtcdamnnbpifhpaaLcRef2
namespace Go.Proofs.Ytcdamnnbpifhpaa
open Go.RowKit Go.Shelf
set_option linter.unusedVariables false

theorem gridT_cell {w : World} {ao : Option Addr} {az bs : List Txt} (h : GridAt w ao (gridT az bs)) (i k : Nat) (hi : i ≤ az.length) (hk : k ≤ bs.length) : ∃ g b o cap, ao = some ⟨g, 0, none⟩ ∧ w.cell? ⟨g, i, none⟩ = some (.slice (some ⟨b, o, none⟩) (bs.length + 1) cap) ∧ w.cell? ⟨b, o + k, none⟩ = some (.int .i64 ((lcsN (az.drop i) (bs.drop k) : Nat) : Int)) := by
  obtain ⟨g, ro, cap, h1, h2, h3⟩ := grid_at h i _ (gridT_at az bs i hi)
  obtain ⟨b, o, rfl, h4⟩ := nums_at h3 k _ (rowOf_at _ _ k hk)
  rw [rowOf_len] at h2
  exact ⟨g, b, o, cap, h1, h2, h4⟩

set_option maxRecDepth 100000 in
set_option maxHeartbeats 1000000 in
theorem rllength_any (ao bo : Option Addr) (ca cb : Nat) (xs ys : List ByteArray) (w : World) (hn : xs.length ≤ 4096) (hm : ys.length ≤ 4096) (hR : StrRow w ao xs) (hS : StrRow w bo ys) :
    Calls Try.prog 14 #[.slice ao xs.length ca, .slice bo ys.length cb] w fun e w' => e = .returned (.int .i64 ((lcsN (bytesOf xs) (bytesOf ys) : Nat) : Int)) ∧ Below w.heap.size w w' := by
  have C := Lib.hid (rlrows_any ao bo ca cb xs ys w hn hm hR hS)
  clear hR hS
  go_enter Try.func14, Try.ntmps14
  go_wp2_with fail
  refine C.out.mono ?_
  rintro e w1 ⟨go, gc, rfl, hg, hb1⟩
  obtain ⟨g, b, o, cap, rfl, h1, h2⟩ := gridT_cell hg 0 0 (Nat.zero_le _) (Nat.zero_le _)
  have HB1 := Lib.hid hb1
  simp only [List.drop_zero] at h2
  rw [Nat.add_zero] at h2
  rw [gridT_len, bytes_len]
  rw [bytes_len] at h1
  clear hg hb1 C
  go_wp2_with fail
  go_ret
  exact ⟨rfl, HB1.out⟩

set_option maxRecDepth 100000 in
set_option maxHeartbeats 2000000 in
theorem rlpairs_any (ao bo : Option Addr) (ca cb : Nat) (xs ys : List ByteArray) (w : World) (hn : xs.length ≤ 4096) (hm : ys.length ≤ 4096) (hR : StrRow w ao xs) (hS : StrRow w bo ys) :
    Calls Try.prog 12 #[.slice ao xs.length ca, .slice bo ys.length cb] w (PairsOut (wayL 0 0 (bytesOf xs) (bytesOf ys)) w) := by
  have hinfo : (Try.prog.info? 30).map (fun i => (i.zero, i.size, i.bytes)) = some (some (.agg #[.int .i64 0, .int .i64 0]), 2, 16) := by kernel_rfl
  obtain ⟨i0, hi, hz0, hz1, hz2⟩ := info_parts2 hinfo
  have HI := Lib.hid hi
  have C := Lib.hid (rlrows_any ao bo ca cb xs ys w hn hm hR hS)
  have HR := Lib.hid hR
  have HS := Lib.hid hS
  obtain ⟨az, haz⟩ : ∃ az, az = bytesOf xs := ⟨_, rfl⟩
  obtain ⟨bs, hbs⟩ : ∃ bs, bs = bytesOf ys := ⟨_, rfl⟩
  have HAl : Hid (az.length = xs.length) := Lib.hid (by rw [haz, bytes_len])
  have HBl : Hid (bs.length = ys.length) := Lib.hid (by rw [hbs, bytes_len])
  have HAt : Hid (∀ (k : Nat) x, xs[k]? = some x → az[k]? = some x.data.toList) := Lib.hid (fun k x h => by rw [haz]; exact bytes_at xs k x h)
  have HBt : Hid (∀ (k : Nat) x, ys[k]? = some x → bs[k]? = some x.data.toList) := Lib.hid (fun k x h => by rw [hbs]; exact bytes_at ys k x h)
  rw [← haz, ← hbs] at C ⊢
  obtain ⟨L, hL⟩ : ∃ L, L = wayL 0 0 az bs := ⟨_, rfl⟩
  have HL := Lib.hid hL
  rw [← hL]
  have HLn : Hid (L.length ≤ 4096) := Lib.hid (by rw [hL, way_len]; have := (lcs_le az bs).1; have := HAl.out; omega)
  clear hR hS hi hinfo haz hbs hL
  go_enter Try.func12, Try.ntmps12
  go_wp2_with fail
  refine C.out.mono ?_
  rintro e w1 ⟨go1, gc1, rfl, hg, hb1⟩
  obtain ⟨g, b0, o0, cap0, rfl, -, -⟩ := gridT_cell hg 0 0 (Nat.zero_le _) (Nat.zero_le _)
  have HGr := Lib.hid hg
  have HB1 := Lib.hid hb1
  rw [gridT_len, HAl.out]
  clear hg hb1 C
  have H0 : Hid (∃ pre : PL, 0 = pre.length ∧ L = pre ++ wayL 0 0 (az.drop 0) (bs.drop 0) ∧ OwnL w1 w1.heap.size (.slice none 0 0) pre) := Lib.hid ⟨[], rfl, by rw [HL.out]; simp, World.ownsRow_nil _ _ _ _⟩
  go_wp2_with fail
  go_loopw [6, 7, 8] (fun v i k wr => ∃ (s t q cp : Nat) (go : Option Addr), s ≤ xs.length ∧ t ≤ ys.length ∧ i = .int .i64 s ∧ k = .int .i64 t ∧ v = .slice go q cp ∧ Hid (∃ pre : PL, q = pre.length ∧ L = pre ++ wayL s t (az.drop s) (bs.drop t) ∧ OwnL wr w1.heap.size (.slice go q cp) pre) ∧ Hid (Below w1.heap.size w1 wr)) (fun _ i k _ => (xs.length - (intOf i).toNat) + (ys.length - (intOf k).toNat))
  case atStart => exact ⟨0, 0, 0, 0, none, Nat.zero_le _, Nat.zero_le _, rfl, rfl, rfl, H0, Lib.hid (Below.refl _ _)⟩
  case round =>
    obtain ⟨s, t, q, cp, go, hs, ht, rfl, rfl, rfl, HP, HB⟩ := hrel
    clear H0
    have HE : Hid (xs.length ≤ s ∨ ys.length ≤ t → PairsOut L w (.returned (.slice go q cp)) wr) := Lib.hid (fun h => by
      obtain ⟨pre, h1, h2, h3⟩ := HP.out
      rw [way_end az bs s t (by rw [HAl.out, HBl.out]; exact h), List.append_nil] at h2
      rw [h2]
      exact OwnL.end_ (show OwnL wr w.heap.size _ _ from World.ownsRow.mono h3 HB1.out.size) (below_up HB1.out HB.out))
    by_cases hsl : s < xs.length
    · by_cases htl : t < ys.length
      · clear HE
        obtain ⟨x, hx⟩ : ∃ x, xs[s]? = some x := ⟨_, List.getElem?_eq_getElem hsl⟩
        obtain ⟨y, hy⟩ : ∃ y, ys[t]? = some y := ⟨_, List.getElem?_eq_getElem htl⟩
        have HBw := Lib.hid (below_up HB1.out HB.out)
        obtain ⟨A1, rfl, a1⟩ := str_atR (HR.out.kept HBw.out) s _ hx
        obtain ⟨A2, rfl, a2⟩ := str_atR (HS.out.kept HBw.out) t _ hy
        have HX := Lib.hid (HAt.out s x hx)
        have HY := Lib.hid (HBt.out t y hy)
        have hbe := str_eqv x y
        have hq : q ≤ 4096 := by
          obtain ⟨pre, h1, h2, h3⟩ := HP.out
          have := HLn.out
          rw [h2, List.length_append] at this; omega
        have HBd : Hid (Below w1.heap.size w1 wr.drew) := Lib.hid (bdn (n := 1) HB.out)
        clear hx hy
        by_cases hxy : x.data.toList = y.data.toList
        · rw [decide_eq_true hxy] at hbe
          have HW := Lib.hid (way_both az bs s t _ HX.out (by rw [hxy]; exact HY.out))
          have HVB : Hid (Below w1.heap.size w1 (wr.alloc (.cells #[Value.int .i64 (s : Int), Value.int .i64 (t : Int)] 30)).drew) := Lib.hid (bdn (n := 1) (HB.out.alloc HB.out.size _))
          have hbs := HVB.out.size
          obtain ⟨pre, h1, h2, h3⟩ := HP.out
          have HPl := Lib.hid h1
          have HPe := Lib.hid h2
          have HT1 : Hid ((wr.alloc (.cells #[Value.int .i64 (s : Int), Value.int .i64 (t : Int)] 30)).drew.ownsRow w1.heap.size 30 2 (.slice go q cp) q (cellsP pre)) := Lib.hid (by have := ((World.ownsRow.alloc h3 (.cells #[Value.int .i64 (s : Int), Value.int .i64 (t : Int)] 30))).drew; rw [← h1] at this; exact this)
          have HNw : Hid (∀ (j : Nat) u, [Value.int .i64 (s : Int), Value.int .i64 (t : Int)][j]? = some u → (wr.alloc (.cells #[Value.int .i64 (s : Int), Value.int .i64 (t : Int)] 30)).drew.cell? ((⟨wr.heap.size, 0, none⟩ : Addr).add j) = some u) := Lib.hid (fun j u hu => lit_cellP wr _ _ _ j u hu)
          clear hxy h1 h2 h3 HP
          go_upto_region 5 with fail
          go_region
          go_upto_region 7 with (at_builtin; refine wpList_append_own _ rfl _ _ 26 rfl w1.heap.size 30 i0 (.agg #[.int .i64 0, .int .i64 0]) 2 16 Try.underlying26 HI.out hz0 hz1 hz2 rfl (by decide) _ _ _ rfl HT1.out ⟨wr.heap.size, 0, none⟩ 1 1 [Value.int .i64 (s : Int), Value.int .i64 (t : Int)] rfl rfl HNw.out (fun u hu => by simp at hu; rcases hu with rfl | rfl <;> rfl) (by unfold maxLen; omega) (by omega) hbs ?_)
          intro v' w3 hown' hgrow _
          obtain ⟨g3, gc, rfl⟩ := ownsRow_succ hown'
          have HB3 := Lib.hid (HVB.out.grown hgrow hbs (fun j h => (HT1.out.lt j h).1))
          have HP3 : Hid (∃ pre : PL, q + 1 = pre.length ∧ L = pre ++ wayL (s + 1) (t + 1) (az.drop (s + 1)) (bs.drop (t + 1)) ∧ OwnL w3 w1.heap.size (.slice (some ⟨g3, 0, none⟩) (q + 1) gc) pre) := Lib.hid ⟨pre ++ [((s : Int), (t : Int))], by rw [List.length_append, ← HPl.out]; rfl, by rw [HPe.out, HW.out]; simp, by unfold OwnL; rw [List.length_append, ← HPl.out, cellsP_app]; exact hown'⟩
          have hw1 : IntKind.i64.wrap ((s : Int) + 1) = (s : Int) + 1 := IntWalk.i64_in _ (by omega)
          have hw2 : IntKind.i64.wrap ((t : Int) + 1) = (t : Int) + 1 := IntWalk.i64_in _ (by omega)
          clear hown' hgrow a1 a2 hbe
          go_wp2_with fail
          go_roundw
          case rel => exact ⟨s + 1, t + 1, q + 1, gc, _, by omega, by omega, by go_num, by go_num, rfl, HP3, HB3⟩
          case measure => simp [intOf]; omega
        · rw [decide_eq_false hxy] at hbe
          obtain ⟨g1, b1, o1, cap1, e1, c1, c2⟩ := gridT_cell (HGr.out.kept HBd.out) (s + 1) t (by rw [HAl.out]; omega) (by rw [HBl.out]; omega)
          obtain ⟨g2, b2, o2, cap2, e2, d1, d2⟩ := gridT_cell (HGr.out.kept HBd.out) s (t + 1) (by rw [HAl.out]; omega) (by rw [HBl.out]; omega)
          cases e1; cases e2
          rw [HBl.out] at c1 d1
          have HWa := Lib.hid (way_a az bs s t _ _ HX.out HY.out hxy)
          have HWb := Lib.hid (way_b az bs s t _ _ HX.out HY.out hxy)
          generalize lcsN (az.drop (s + 1)) (bs.drop t) = n1 at c2 HWa HWb
          generalize lcsN (az.drop s) (bs.drop (t + 1)) = n2 at d2 HWa HWb
          have hw1 : IntKind.i64.wrap ((s : Int) + 1) = (s : Int) + 1 := IntWalk.i64_in _ (by omega)
          have hw2 : IntKind.i64.wrap ((t : Int) + 1) = (t : Int) + 1 := IntWalk.i64_in _ (by omega)
          obtain ⟨V, HV⟩ : ∃ V, Hid (V = wr.drew) := ⟨_, Lib.hid rfl⟩
          have HPD : Hid (∃ pre : PL, q = pre.length ∧ L = pre ++ wayL s t (az.drop s) (bs.drop t) ∧ OwnL V.drew w1.heap.size (.slice go q cp) pre) := Lib.hid (by
            obtain ⟨pre, h1, h2, h3⟩ := HP.out
            exact ⟨pre, h1, h2, by rw [HV.out]; exact World.ownsRow.drew (World.ownsRow.drew h3)⟩)
          have HBV : Hid (Below w1.heap.size w1 V.drew) := Lib.hid (by rw [HV.out]; exact bdn (n := 1) HBd.out)
          rw [← HV.out] at c1 c2 d1 d2
          clear hxy
          go_upto_region 5 with fail
          go_region
          rw [← HV.out]
          clear HV hbe a1 a2
          by_cases hcmp : n2 ≤ n1
          · have HP3 : Hid (∃ pre : PL, q = pre.length ∧ L = pre ++ wayL (s + 1) t (az.drop (s + 1)) (bs.drop t) ∧ OwnL V.drew w1.heap.size (.slice go q cp) pre) := Lib.hid (by
              obtain ⟨pre, h1, h2, h3⟩ := HPD.out
              exact ⟨pre, h1, by rw [h2, HWa.out hcmp], h3⟩)
            go_upto_region 8 with fail
            go_region
            go_wp2_with fail
            go_roundw
            case rel => exact ⟨s + 1, t, q, cp, _, by omega, ht, by go_num, rfl, rfl, HP3, HBV⟩
            case measure => simp [intOf]; omega
          · have HP3 : Hid (∃ pre : PL, q = pre.length ∧ L = pre ++ wayL s (t + 1) (az.drop s) (bs.drop (t + 1)) ∧ OwnL V.drew w1.heap.size (.slice go q cp) pre) := Lib.hid (by
              obtain ⟨pre, h1, h2, h3⟩ := HPD.out
              exact ⟨pre, h1, by rw [h2, HWb.out hcmp], h3⟩)
            go_upto_region 8 with fail
            go_region
            go_wp2_with fail
            go_roundw
            case rel => exact ⟨s, t + 1, q, cp, _, hs, by omega, rfl, by go_num, rfl, HP3, HBV⟩
            case measure => simp [intOf]; omega
      · have hE := Lib.hid (HE.out (.inr (by omega)))
        clear HE
        go_wp2_with fail
        go_ret
        exact hE.out
    · have hE := Lib.hid (HE.out (.inl (by omega)))
      clear HE
      go_wp2_with fail
      go_ret
      exact hE.out
end Go.Proofs.Ytcdamnnbpifhpaa
