/-
  Pairs through pairs: the document's reference's answer.
  Conditions: lists of at most 2^30 pairs.
-/
import Derived.IntWalk
import Derived.WalkArith
import Derived.OwnWalk
import Derived.Deep.Cut
import Derived.Deep.Onto
import Derived.Deep.RegionHeld3
import Derived.BigQuiet
import Derived.Deep.QuietTactic
import Derived.Test.YtpejdnmfagjfhaaProg
import Derived.Test.YtpejdnmfagjfhaaPThrough
namespace Go.Proofs.Ytpejdnmfagjfhaa
open Go.RowKit Go.Shelf Go.Maps
set_option linter.unusedVariables false

/-- an append at a step of a region that draws its order: of a slice that may be nil -/
theorem step_append_any {P : Program} {w : World} {ops : Array Oper} {o : Oper} {a : Act} {K : Act → World → Prop} {Q : Exit → Act → World → Prop} {E : Prop} (hgd : o.guard = none) (s x : Operand) (t : TypeId)
    (ho : o.op = .call { callee := .builtin .append, args := #[s, x], argTypes := #[t, t] })
    (base : Nat) (e : TypeId) (i : TypeInfo) (z : Value) (size bytes : Nat) (ht : P.underlying t = some (.slice e)) (hi : P.info? e = some i) (hz : i.zero = some z)
    (hsize : i.size = size) (hby : i.bytes = bytes) (hzs : z.cells.size = size) (hsz : 0 < size)
    (v : Value) (n : Nat) (xs : List Value) (hs : a.eval s = v) (hown : w.ownsRow base e size v n xs)
    (xo : Option Addr) (m c : Nat) (news : List Value) (hx : a.eval x = .slice xo m c) (hnone : xo = none → m = 0 ∧ c = 0) (hl : news.length = m * size) (hnews : ∀ ad, xo = some ad → ∀ (j : Nat) u, news[j]? = some u → w.cell? (ad.add j) = some u) (h1 : ∀ u ∈ news, u.oneCell' = true)
    (h63 : n + m ≤ maxLen) (hbytes : (n + m) * bytes ≤ 140737488355328) (hbase : base ≤ w.heap.size) (N : Nat) (hN : n + m = N) (L : List Value) (hL : xs ++ news = L)
    (h : ∀ ao cap w', w'.ownsRow base e size (.slice ao N cap) N L → w.grownBy w' v.ownBlock → Below base w w' → K (a.put o.dst (.slice ao N cap)) w') :
    if Region.wanted o (yielded ops a.tmps) = true then Oper.wp P o a w K Q else E := by
  subst hN hL
  have hw : Region.wanted o (yielded ops a.tmps) = true := by simp [Region.wanted, hgd]
  rw [if_pos hw]
  have fin : ∀ v' w', w'.ownsRow base e size v' (n + m) (xs ++ news) → w.grownBy w' v.ownBlock → K (a.put o.dst v') w' := fun v' w' h2 h3 => by
    obtain ⟨ao, cap, rfl⟩ := own_slice h2
    exact h ao cap w' h2 h3 ((Below.refl base w).grown h3 hbase (fun j hj => (hown.lt j hj).1))
  cases xo with
  | none =>
    obtain ⟨rfl, rfl⟩ := hnone rfl
    have hnil : news = [] := List.eq_nil_of_length_eq_zero (by rw [hl]; simp)
    subst hnil
    have hrun := run_append_owned_none (P := P) (w := w) base t o.type e i size ht hi v n xs hown
    unfold Oper.wp
    simp [execOp, ho, resolve, invoke, builtin, hs, hx, hrun, Result.andThen]
    exact fin v w (by simpa using hown) ⟨rfl, rfl, rfl, Nat.le_refl _, fun _ _ _ => rfl⟩
  | some ad => exact wp_append_own w s x t ho base e i z size bytes ht hi hz hsize hby hzs hsz v n xs hs hown ad m c news hx hl (hnews ad rfl) h1 h63 hbytes hbase (fun v' w' h2 h3 _ => fin v' w' h2 h3)

theorem firstB_next (xs : PL) (k : Nat) (p : Int × Int) (z : Int) (hp : xs[k]? = some p) (h : firstB (xs.take k) z = none) (hne : ¬ p.2 = z) : firstB (xs.take (k + 1)) z = none := by
  obtain ⟨hk, e⟩ := List.getElem?_eq_some_iff.1 hp
  rw [List.take_succ_eq_append_getElem hk, e, firstB_snoc, h]; simp [hne]
theorem firstB_hit (xs : PL) (k : Nat) (p : Int × Int) (z : Int) (hp : xs[k]? = some p) (h : firstB (xs.take k) z = none) (he : p.2 = z) : firstB xs z = some p.1 := by
  obtain ⟨hk, e⟩ := List.getElem?_eq_some_iff.1 hp
  have h1 : firstB (xs.take (k + 1)) z = some p.1 := by rw [List.take_succ_eq_append_getElem hk, e, firstB_snoc, h]; simp [he]
  rw [← List.take_append_drop (k + 1) xs]
  unfold firstB at h1 ⊢
  rw [List.find?_append]
  cases h2 : (xs.take (k + 1)).find? (fun p => p.2 == z) with
  | none => rw [h2] at h1; cases h1
  | some q => rw [h2] at h1; simpa using h1

set_option maxRecDepth 100000 in
set_option maxHeartbeats 2000000 in
theorem rthrough_any (ao bo : Option Addr) (ca cb : Nat) (xs ys : PL) (w : World) (hn : xs.length ≤ 1073741824) (hm : ys.length ≤ 1073741824) (hR : PairsAt w ao xs) (hS : PairsAt w bo ys) :
    Calls Try.prog 18 #[.slice ao xs.length ca, .slice bo ys.length cb] w (PairsOut (throughL xs ys) w) := by
  have hinfo : (Try.prog.info? 37).map (fun i => (i.zero, i.size, i.bytes)) = some (some (.agg #[.int .i64 0, .int .i64 0]), 2, 16) := by kernel_rfl
  obtain ⟨i0, hi, hz0, hz1, hz2⟩ := info_parts2 hinfo
  have HI := Lib.hid hi
  have HRo := Lib.hid hR
  have HSo := Lib.hid hS
  clear hi hinfo hR hS
  obtain ⟨O, HQ⟩ : ∃ O : Nat → PL, Hid (O = fun k => throughL xs (ys.take k)) := ⟨_, Lib.hid rfl⟩
  rw [show throughL xs ys = O ys.length from by rw [HQ.out]; simp]
  have HNs : Hid (∀ (k : Nat) p a, ys[k]? = some p → firstB xs p.1 = some a → O (k + 1) = O k ++ [(a, p.2)]) := Lib.hid (fun k p a hp ha => by rw [HQ.out]; exact through_some xs ys k p a hp ha)
  have HNn : Hid (∀ (k : Nat) p, ys[k]? = some p → firstB xs p.1 = none → O (k + 1) = O k) := Lib.hid (fun k p hp ha => by rw [HQ.out]; exact through_none xs ys k p hp ha)
  have HLe : Hid (∀ k, (O k).length ≤ k) := Lib.hid (fun k => by rw [HQ.out]; exact through_le xs ys k)
  have HZ : Hid (O 0 = []) := Lib.hid (by rw [HQ.out]; rfl)
  have HT : Hid (OwnL w w.heap.size (.slice none 0 0) (O 0)) := Lib.hid (by rw [HZ.out]; exact World.ownsRow_nil _ _ _ _)
  have hL0 : (O 0).length = 0 := by rw [HZ.out]; rfl
  go_enter Try.func18, Try.ntmps18
  go_wp2_with fail
  go_loopw [5, 6] (fun v i wr => ∃ (k q cp : Nat) (go : Option Addr), k ≤ ys.length ∧ i = .int .i64 k ∧ v = .slice go q cp ∧ Hid (q = (O k).length) ∧ Hid (Below w.heap.size w wr) ∧ Hid (OwnL wr w.heap.size (.slice go q cp) (O k))) (fun _ i _ => ys.length - (intOf i).toNat)
  case atStart => exact ⟨0, 0, 0, none, Nat.zero_le _, rfl, rfl, Lib.hid hL0.symm, Lib.hid (Below.refl _ _), HT⟩
  case round =>
    obtain ⟨k, q, cp, go, hk, rfl, rfl, HQ2, HB, HT⟩ := hrel
    by_cases hlt : k < ys.length
    · obtain ⟨⟨y1, y2⟩, hy⟩ : ∃ y, ys[k]? = some y := ⟨_, List.getElem?_eq_getElem hlt⟩
      have hq : q ≤ k := by rw [HQ2.out]; exact HLe.out k
      have HS1 := Lib.hid (fun a h => HNs.out k _ a hy h)
      have HS2 := Lib.hid (fun h => HNn.out k _ hy h)
      dsimp only at HS1 HS2
      have HY := Lib.hid hy
      have HTO : Hid (∀ V, Below wr.heap.size wr V → V.ownsRow w.heap.size 37 2 (.slice go q cp) q (cellsP (O k))) := Lib.hid (fun V hV => by have := ownsRow_below HT.out hV; rw [← HQ2.out] at this; exact this)
      clear hy
      go_wp2_with fail
      obtain ⟨wo, rfl⟩ : ∃ wo : World, wo = wr := ⟨_, rfl⟩
      go_loopw [5, 7] (fun v i wr => ∃ (j : Nat), j ≤ xs.length ∧ i = .int .i64 j ∧ v = .slice go q cp ∧ Hid (firstB (xs.take j) y1 = none) ∧ Hid (Below wo.heap.size wo wr)) (fun _ i _ => xs.length - (intOf i).toNat)
      case atStart => exact ⟨0, Nat.zero_le _, rfl, rfl, Lib.hid rfl, Lib.hid (Below.refl _ _)⟩
      case round =>
        obtain ⟨j, hj, rfl, rfl, HF, HB1⟩ := hrel
        by_cases hjl : j < xs.length
        · obtain ⟨⟨x1, x2⟩, hx⟩ : ∃ x, xs[j]? = some x := ⟨_, List.getElem?_eq_getElem hjl⟩
          have HB2 := Lib.hid (below_up HB.out HB1.out)
          rcases HRo.out with h0 | ⟨b, o, rfl, hA, hcell⟩
          · rw [h0] at hjl; simp at hjl
          rcases HSo.out with h0 | ⟨b', o', rfl, hA', hcell'⟩
          · rw [h0] at hlt; simp at hlt
          have G1 : Hid (∀ W, Below w.heap.size w W → W.cell? ⟨b, o + j * 2, none⟩ = some (.int .i64 x1) ∧ W.cell? ⟨b, o + j * 2 + 1, none⟩ = some (.int .i64 x2)) := Lib.hid (fun W hW => ⟨(hW.cell (p := ⟨b, o + j * 2, none⟩) hA).trans (hcell j _ hx).1, (hW.cell (p := ⟨b, o + j * 2 + 1, none⟩) hA).trans (hcell j _ hx).2⟩)
          have G2 : Hid (∀ W, Below w.heap.size w W → W.cell? ⟨b', o' + k * 2, none⟩ = some (.int .i64 y1) ∧ W.cell? ⟨b', o' + k * 2 + 1, none⟩ = some (.int .i64 y2)) := Lib.hid (fun W hW => ⟨(hW.cell (p := ⟨b', o' + k * 2, none⟩) hA').trans (hcell' k _ HY.out).1, (hW.cell (p := ⟨b', o' + k * 2 + 1, none⟩) hA').trans (hcell' k _ HY.out).2⟩)
          obtain ⟨hc1, hc2⟩ := G1.out wr HB2.out
          obtain ⟨hd1, hd2⟩ := G2.out wr HB2.out
          have HX := Lib.hid hx
          clear hcell hcell' hx
          by_cases he : x2 = y1
          · have HST := Lib.hid (HS1.out x1 (firstB_hit xs j _ y1 HX.out HF.out he))
            subst he
            have hb : ((x2 == x2) = true) := by simp
            go_upto_region 8 with fail
            go_quiet (fail)
            obtain ⟨V, HV⟩ : ∃ V, Hid (V = wr.drewN nq) := ⟨_, Lib.hid rfl⟩
            have hbV : Below wr.heap.size wr V := by rw [HV.out]; exact bdn (Below.refl _ _)
            have HBV := Lib.hid (below_up HB1.out hbV)
            have HWV := Lib.hid (below_up HB2.out hbV)
            obtain ⟨e1, _⟩ := G1.out V HWV.out
            obtain ⟨_, e2⟩ := G2.out V HWV.out
            rw [← HV.out]
            clear hc1 hc2 hd1 hd2 hbV HV
            have hws : w.heap.size ≤ V.heap.size := HWV.out.size
            have HT0 := Lib.hid (HTO.out V HBV.out).drew
            have HT1 := Lib.hid (HT0.out.alloc (.cells #[Value.int .i64 x1, Value.int .i64 y2] 37))
            have HNW := Lib.hid (lit_cellP V.drew (.int .i64 x1) (.int .i64 y2) 37)
            have HB3 : Hid (∀ w3, (V.drew.alloc (.cells #[Value.int .i64 x1, Value.int .i64 y2] 37)).grownBy w3 (Value.slice go q cp).ownBlock → Below w.heap.size w w3) := Lib.hid (fun w3 hg => own_grownI (o := .cells #[Value.int .i64 x1, Value.int .i64 y2] 37) (show Below w.heap.size w V.drew from bdn (n := 1) HWV.out) hws HT0.out hg)
            have HQ3 : Hid (q + 1 = (O (k + 1)).length) := Lib.hid (by rw [HST.out, List.length_append, ← HQ2.out]; rfl)
            go_upto_region 9 with fail
            go_region_held3 (fun W => W.cell? ⟨b, o + j * 2, none⟩ = some (.int .i64 x1) ∧ W.cell? ⟨b', o' + k * 2 + 1, none⟩ = some (.int .i64 y2)) ((refine ⟨?_, ?_⟩ <;> first | assumption | go_keep))
              (first | (refine step_append_any (by rfl) _ _ 22 (by rfl) w.heap.size 37 i0 (.agg #[.int .i64 0, .int .i64 0]) 2 16 Try.underlying22 HI.out hz0 hz1 hz2 rfl (by decide) (.slice go q cp) q (cellsP (O k)) (by rfl) HT1.out _ 1 1 [.int .i64 x1, .int .i64 y2] (by rfl) (fun h => by cases h) rfl (fun ad h => by cases h; exact HNW.out) (fun u hu => by simp at hu; rcases hu with rfl | rfl <;> rfl) (by unfold maxLen; omega) (by omega) (by simp; omega) (q + 1) rfl (cellsP (O k) ++ [.int .i64 x1, .int .i64 y2]) rfl ?_; intro go3 gc w3 hown' hgrow _; have B3 := Lib.hid (HB3.out w3 hgrow); have f1 := (G1.out w3 B3.out).1; have f2 := (G2.out w3 B3.out).2; have HOW := Lib.hid hown'; clear hown' hgrow))
            have HT3 : Hid (OwnL w3 w.heap.size (.slice go3 (q + 1) gc) (O (k + 1))) := Lib.hid (by unfold OwnL; rw [← HQ3.out, HST.out, cellsP_app]; exact HOW.out)
            go_wp2_with fail
            go_roundw
            case rel => exact ⟨k + 1, q + 1, gc, _, by omega, by go_num, rfl, HQ3, B3, HT3⟩
            case measure => simp [intOf]; omega
          · have HF2 := Lib.hid (firstB_next xs j _ y1 HX.out HF.out he)
            have hb : ((x2 == y1) = false) := by simp [he]
            go_upto_region 8 with fail
            go_quiet (fail)
            have HB' : Hid (Below wo.heap.size wo (wr.drewN nq)) := Lib.hid (bdn HB1.out)
            go_wp2_with fail
            go_roundw
            case rel => exact ⟨j + 1, by omega, by go_num, rfl, HF2, HB'⟩
            case measure => simp [intOf]; omega
        · obtain rfl : j = xs.length := by omega
          have hstep := HS2.out (by have := HF.out; rw [List.take_length] at this; exact this)
          have HB2 := Lib.hid (below_up HB.out HB1.out)
          have HT2 : Hid (OwnL wr w.heap.size (.slice go q cp) (O (k + 1))) := Lib.hid (by unfold OwnL; rw [hstep, ← HQ2.out]; exact HTO.out wr HB1.out)
          have HQ3 : Hid (q = (O (k + 1)).length) := Lib.hid (by rw [hstep]; exact HQ2.out)
          clear hstep
          go_wp2_with fail
          go_roundw
          case rel => exact ⟨k + 1, q, cp, go, by omega, by go_num, rfl, HQ3, HB2, HT2⟩
          case measure => simp [intOf]; omega
    · obtain rfl : k = ys.length := by omega
      have HE := Lib.hid (OwnL.end_ HT.out HB.out)
      clear HT
      go_wp2_with fail
      go_ret
      exact HE.out
end Go.Proofs.Ytpejdnmfagjfhaa
