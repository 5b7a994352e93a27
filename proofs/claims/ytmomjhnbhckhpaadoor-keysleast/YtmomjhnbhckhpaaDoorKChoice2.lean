/-
  All choices of so many candidates, as the program tells them one by one, by a range over the same function of one less.
  Conditions: choices of at most 2^20, of at most 2^40 candidates.
-/
import Derived.Deep.OwnRows
import Derived.WalkKit
import Derived.WalkMore
import Derived.IntWalk
import Derived.WalkArith
import Derived.OwnWalkIn
import Derived.TacticsInMore
import Derived.LoopNIn
import Derived.LoopIn
import Derived.Lib.Hide
import Derived.RegionTactic
import Derived.Deep.RegionHeld3
import Derived.Test.YtmomjhnbhckhpaaDoorProg
import Derived.Test.YtmomjhnbhckhpaaDoorKChoice
namespace Go.Proofs.YtmomjhnbhckhpaaDoor
open Go.RowKit Go.Shelf Go.Sort
set_option linter.unusedVariables false
attribute [local go_sem] Oper.semAt_some

/-- what is called behind a function that ranged over functions in a loop -/
def colD (D : Nat) : Deferred := { target := .collected D, args := #[] }
def Marks (b : Nat) (ds : List Nat) (w : World) : Prop := ∀ D ∈ ds, b ≤ D ∧ w.heap[D]? = some (.deferred (some []))
theorem leaves_all {F : Fence} {n : Nat} {P : Program} {fn : Func} {tmps : Array Value} {R : Ending → World → Prop} {u : FrameMode} (hu : u ≠ .run) (b : Nat) (G : World → Prop) (hG : Apart b G) (hl : ∀ w', G w' → LeavesIn F n P fn tmps R [] u w') :
    ∀ (ds : List Nat) (w : World), ds.Nodup → Marks b ds w → G w → LeavesInM F n P fn tmps R (ds.map colD) u w
  | [], w, _, _, h => hl w h
  | D :: ds, w, hn, hm, h => by
    obtain ⟨hb, hD⟩ := hm D List.mem_cons_self
    rw [List.nodup_cons] at hn
    refine ⟨hu, .inl ⟨D, _, rfl, run_takeDeferred hD, leaves_all hu b G hG hl ds _ hn.2 (fun d hd => ?_) (hG w D _ _ h hb hD rfl)⟩⟩
    obtain ⟨h1, h2⟩ := hm d (List.mem_cons_of_mem _ hd)
    exact ⟨h1, by rw [World.putObj_heap_other (by rintro rfl; exact hn.1 hd)]; exact h2⟩
/-- what the iterator tells, of so many candidates -/
def TellsAll (n : Nat) : Prop := ∀ (m : Nat) (from' : List Cand) (fo : Option Addr) (fc Bn Bf : Nat) (w : World), from'.length ≤ 1099511627776 → from'.length ≤ fc → CandsAt w fo from' →
    w.heap[Bn]? = some (.cells #[.int .i64 n] 3 (0, 0)) → w.heap[Bf]? = some (.cells #[.slice fo from'.length fc] 66 (0, 0)) →
    TellsA Fence.wide m Tryd.prog 66 #[.pointer (some ⟨Bn, 0, none⟩), .pointer (some ⟨Bf, 0, none⟩)] encE KeepsC (OkE n from') (fun ys => ys.map listE = choicesL n from') (fun ys => ys.map listE <+: choicesL n from') w

set_option maxRecDepth 100000 in
set_option maxHeartbeats 8000000 in
theorem choices_next (n : Nat) (hn : n ≤ 1048576) (ih : TellsAll n) : TellsAll (n + 1) := by
  obtain ⟨i0, hi0, hz0, hz1, hz2⟩ := info_parts2 cand_info
  have HIN := Lib.hid hi0
  clear hi0
  intro m from' fo fc Bn Bf w hfl hfc hC hbn hbf lp J Jx W hW hJ hJx hJa hJxa hY h0
  have hbnW := (hW.block Bn (lt_of_heap hbn)).trans hbn
  have hbfW := (hW.block Bf (lt_of_heap hbf)).trans hbf
  obtain ⟨V, hV⟩ : ∃ V, V = W.alloc (.cells #[.func (.yield lp) #[] #[]] 95) := ⟨_, rfl⟩
  have hV' : W.alloc (.cells #[.func (.yield lp) #[] #[]] 95) = V := hV.symm
  have hVb : Below W.heap.size W V := by rw [hV]; exact one_below W _
  have HBN := Lib.hid ((hVb.block Bn (lt_of_heap hbnW)).trans hbnW)
  have HBF := Lib.hid ((hVb.block Bf (lt_of_heap hbfW)).trans hbfW)
  have HBY : Hid (V.heap[W.heap.size]? = some (.cells #[.func (.yield lp) #[] #[]] 95 (0, 0))) := Lib.hid (by rw [hV]; exact World.alloc_heap_new _ _)
  have HC := Lib.hid ((hC.kept hW).kept hVb)
  have HJV := Lib.hid (hJ [] W V h0 hVb)
  have HJs := Lib.hid hJ
  have HJxs := Lib.hid hJx
  have HJa := Lib.hid hJa
  have HJxa := Lib.hid hJxa
  have HY := Lib.hid hY
  have HWs := Lib.hid hVb.size
  have c0 : V.cell? ⟨Bn, 0, none⟩ = some (.int .i64 ((n : Int) + 1)) := (Lib.cell_of_heap HBN.out 0).trans (by simp)
  have cf : V.cell? ⟨Bf, 0, none⟩ = some (.slice fo from'.length fc) := (Lib.cell_of_heap HBF.out 0).trans rfl
  have e0 : (((n : Int) + 1) == 0) = false := by
    cases hh : (((n : Int) + 1) == 0) with
    | false => rfl
    | true => exact absurd (eq_of_beq hh) (by omega)
  clear hC hbn hbf hW hJ hJx hJa hJxa hY h0 hbnW hbfW hV hVb
  refine (callsIn_wide (n := m)).2 ((callsIn_wide (n := 6)).1 ?_)
  refine callsIn_of_wp_marks Tryd.func66 rfl trivial ?_ rfl
  simp only [Tryd.ntmps66, List.size_toArray, List.length_cons, List.length_nil, Nat.reduceAdd, Nat.reduceSub, Array.replicate_succ, Array.replicate_zero, List.push_toArray, List.append_toArray, List.nil_append, List.cons_append]
  gi_wp2_with fail
  refine wpIn_loop (fun a' wr => ∃ (u4 u5 u13 u14 u15 u16 u17 u18 u19 u20 u21 u23 u24 u25 u26 u27 u28 u29 u30 u31 u32 u33 : Value) (k : Nat) (pre : List Elem) (ds : List Nat), k ≤ from'.length ∧ Hid (J pre wr) ∧ Hid (pre.map listE ++ choicesL (n + 1) (from'.drop k) = choicesL (n + 1) from') ∧ Hid (KeepsC V wr) ∧ Hid (Marks W.heap.size ds wr) ∧ Hid ds.Nodup ∧ a' = { tmps := #[.func (.yield lp) #[] #[], .pointer (some ⟨Bn, 0, none⟩), .pointer (some ⟨Bf, 0, none⟩), .pointer (some ⟨W.heap.size, 0, none⟩), u4, u5, .int .i64 ((n : Int) + 1), .bool false, undef, undef, .slice fo from'.length fc, .int .i64 from'.length, .int .i64 k, u13, u14, u15, u16, u17, u18, u19, u20, u21, undef, u23, u24, u25, u26, u27, u28, u29, u30, u31, u32, u33], defers := ds.map colD }) (fun a' _ => from'.length - (intOf (a'.tmps.getD 12 undef)).toNat) ?_ ?_
  · exact ⟨_, _, _, _, _, _, _, _, _, _, _, _, _, _, _, _, _, _, _, _, _, _, 0, [], [], Nat.zero_le _, HJV, Lib.hid (by simp), Lib.hid (KeepsC.refl V), Lib.hid (fun D hD => by cases hD), Lib.hid List.nodup_nil, rfl⟩
  · rintro a' wr ⟨u4, u5, u13, u14, u15, u16, u17, u18, u19, u20, u21, u23, u24, u25, u26, u27, u28, u29, u30, u31, u32, u33, k, pre, ds, hk, HJ, HP, HK, HM, HN, rfl⟩
    clear HJV c0 cf hV'
    by_cases hlt : k < from'.length
    · obtain ⟨x, hx⟩ : ∃ x, from'[k]? = some x := ⟨_, List.getElem?_eq_getElem hlt⟩
      have HX := Lib.hid hx
      obtain ⟨U, hU⟩ : ∃ U, U = wr.alloc (.cells #[.int .i64 k] 3) := ⟨_, rfl⟩
      have hU' : wr.alloc (.cells #[.int .i64 k] 3) = U := hU.symm
      have hUb : Below wr.heap.size wr U := by rw [hU]; exact one_below wr _
      have HKU := Lib.hid (HK.out.trans (KeepsC.below hUb))
      have HBI : Hid (U.heap[wr.heap.size]? = some (.cells #[.int .i64 k] 3 (0, 0))) := Lib.hid (by rw [hU]; exact World.alloc_heap_new _ _)
      have HJU := Lib.hid (HJs.out pre wr U HJ.out hUb)
      have HMU : Hid (Marks W.heap.size ds U) := Lib.hid (fun D hD => by
        obtain ⟨h1, h2⟩ := HM.out D hD
        exact ⟨h1, (hUb.block D (lt_of_heap h2)).trans h2⟩)
      have u0 : U.cell? ⟨Bn, 0, none⟩ = some (.int .i64 ((n : Int) + 1)) := (Lib.cell_of_heap (HKU.out.2 _ _ _ _ HBN.out) 0).trans (by simp)
      have u1 : U.cell? ⟨Bf, 0, none⟩ = some (.slice fo from'.length fc) := (Lib.cell_of_heap (HKU.out.2 _ _ _ _ HBF.out) 0).trans rfl
      have u2 : U.cell? ⟨wr.heap.size, 0, none⟩ = some (.int .i64 k) := (Lib.cell_of_heap HBI.out 0).trans rfl
      have e1 : IntKind.i64.wrap ((k : Int) + 1) = (k : Int) + 1 := IntWalk.i64_in _ (by omega)
      have e2 : IntKind.i64.wrap (n : Int) = (n : Int) := IntWalk.i64_in _ (by omega)
      have e3 : ((k : Int) + 1).toNat = k + 1 := by omega
      have e4 : (0 : Int) ≤ (k : Int) + 1 := by omega
      have e5 : (k : Int) + 1 ≤ (from'.length : Int) := by omega
      clear hx hU hUb
      rcases HC.out with h0 | ⟨fb, fof, rfl, hA, hcell⟩
      · rw [h0] at hlt; simp at hlt
      obtain ⟨xo, hxo⟩ : ∃ xo, (if fc = k + 1 then some (⟨fb, fof, none⟩ : Addr) else some ⟨fb, fof + (k + 1) * 2, none⟩) = some xo := by
        by_cases h : fc = k + 1
        · exact ⟨_, by rw [if_pos h]⟩
        · exact ⟨_, by rw [if_neg h]⟩
      have HXO : Hid (CandsAt V (some xo) (from'.drop (k + 1))) := Lib.hid (by
        by_cases h : fc = k + 1
        · exact .inl (List.drop_eq_nil_of_le (by omega))
        · rw [if_neg h] at hxo
          rw [← hxo]; exact CandsAt.drop HC.out (k + 1))
      obtain ⟨z, hz⟩ : ∃ z, from'.length - (k + 1) = z := ⟨_, rfl⟩
      have HZ : Hid ((from'.drop (k + 1)).length = z) := Lib.hid (by rw [List.length_drop]; exact hz)
      obtain ⟨q0, xao, xcp, q1, q2⟩ := hcell k x HX.out
      have HQ0 := Lib.hid q0
      have HQ1 := Lib.hid q1
      have HQ2 := Lib.hid q2
      clear hcell q0 q1 q2
      gi_wp2_with fail
      refine wpIn_wide.2 ?_
      go_region_held3 (fun X => X.cell? ⟨Bn, 0, none⟩ = some (.int .i64 ((n : Int) + 1)) ∧ X.cell? ⟨Bf, 0, none⟩ = some (.slice (some ⟨fb, fof, none⟩) from'.length fc) ∧ X.cell? ⟨wr.heap.size, 0, none⟩ = some (.int .i64 k)) ((refine ⟨?_, ?_, ?_⟩ <;> first | assumption | exact cell_alloc_l _ (cell_alloc_l _ (by assumption)) | go_keep)) (first | (go_at_call 40; refine (choices_any _ _ _ _ _).mono ?_; rintro e w1 ⟨rfl, rfl⟩))
      gi_wp2_with fail
      obtain ⟨X, hX0⟩ : ∃ X, X = ((U.alloc (.cells #[.slice (some xo) z (fc - (k + 1))] 66)).alloc (.cells #[.int .i64 n] 3)).drew := ⟨_, rfl⟩
      have hXb : Below U.heap.size U X := by rw [hX0]; exact (((one_below U _).alloc (by simp) _)).drew
      have hXf : X.heap[U.heap.size]? = some (.cells #[.slice (some xo) z (fc - (k + 1))] 66 (0, 0)) := by
        rw [hX0]; show ((U.alloc _).alloc _).heap[_]? = _
        rw [Below.heap_alloc _ _ _ (by simp)]; exact World.alloc_heap_new _ _
      have hXn : X.heap[U.heap.size + 1]? = some (.cells #[.int .i64 n] 3 (0, 0)) := by
        rw [hX0]; show ((U.alloc _).alloc _).heap[_]? = _
        exact box_new _ _ _ (by simp)
      have HKX := Lib.hid (HKU.out.trans (KeepsC.below hXb))
      have HIX := Lib.hid ((hXb.block _ (lt_of_heap HBI.out)).trans HBI.out)
      have HJX := Lib.hid (HJs.out pre U X HJU.out hXb)
      have HMX : Hid (Marks W.heap.size ds X) := Lib.hid (fun D hD => by
        obtain ⟨h1, h2⟩ := HMU.out D hD
        exact ⟨h1, (hXb.block D (lt_of_heap h2)).trans h2⟩)
      have HZr := HZ.out
      have TL := ih 5 (from'.drop (k + 1)) (some xo) (fc - (k + 1)) (U.heap.size + 1) U.heap.size X (by rw [HZr]; omega) (by rw [HZr]; omega) (HXO.out.keptC HKX.out) hXn (by rw [HZr]; exact hXf)
      have TL := Lib.hid TL
      have HWX : Hid (W.heap.size ≤ X.heap.size) := Lib.hid (Nat.le_trans HWs.out HKX.out.1)
      rw [← hX0]
      clear hX0 hXb hXf hXn u0 u1 u2 HZr
      refine wpIn_range_tellsA (n := 6) rfl (by decide) (gf := 66) (lb := #[.pointer (some ⟨U.heap.size + 1, 0, none⟩), .pointer (some ⟨U.heap.size, 0, none⟩)]) rfl trivial (enters_of Tryd.func66 (by kernel_rfl) rfl)
        TL.out (Below.refl _ _) (fun _ => rfl) KeepsC.trans (fun A l o o' hl hk hc => KeepsC.put A l o o' hk hc) (fun {A B} hA hAB => KeepsC.below hAB)
        (fun pre' W' => ∃ pre2 : List Elem, pre2.map listE = pre.map listE ++ (pre'.map listE).map (x :: ·) ∧ J pre2 W' ∧ KeepsC X W' ∧ Marks W.heap.size ds W')
        (fun c pre' W' => c = .ret ∧ ∃ pre2 : List Elem, pre2.map listE = pre.map listE ++ (pre'.map listE).map (x :: ·) ∧ Jx pre2 W' ∧ Marks W.heap.size ds W')
        (fun pre' A B h hb => by obtain ⟨p2, h1, h2, h3, h4⟩ := h; exact ⟨p2, h1, HJs.out p2 A B h2 hb, h3.trans (KeepsC.below hb), fun D hD => ⟨(h4 D hD).1, (hb.block D (lt_of_heap (h4 D hD).2)).trans (h4 D hD).2⟩⟩)
        (fun c pre' A B h hb => by obtain ⟨hc, p2, h1, h2, h4⟩ := h; exact ⟨hc, p2, h1, HJxs.out p2 A B h2 hb, fun D hD => ⟨(h4 D hD).1, (hb.block D (lt_of_heap (h4 D hD).2)).trans (h4 D hD).2⟩⟩)
        (fun pre' A l o o' h hl hk hc => by obtain ⟨p2, h1, h2, h3, h4⟩ := h; exact ⟨p2, h1, HJa.out p2 A l o o' h2 (Nat.le_trans HWX.out hl) hk hc, h3.trans (KeepsC.put A l o o' hk hc), fun D hD => ⟨(h4 D hD).1, by rw [World.putObj_heap_other (by have := lt_of_heap (HMX.out D hD).2; omega)]; exact (h4 D hD).2⟩⟩)
        (fun c pre' A l o o' h hl hk hc => by obtain ⟨hcc, p2, h1, h2, h4⟩ := h; exact ⟨hcc, p2, h1, HJxa.out p2 A l o o' h2 (Nat.le_trans HWX.out hl) hk hc, fun D hD => ⟨(h4 D hD).1, by rw [World.putObj_heap_other (by have := lt_of_heap (HMX.out D hD).2; omega)]; exact (h4 D hD).2⟩⟩)
        (fun pre' x' A B h hb => ⟨h.1.kept hb, h.2⟩) (fun pre' x' A l o o' h hl hk hc => ⟨h.1.keptC (KeepsC.put A l o o' hk hc), h.2⟩)
        ⟨pre, by simp, HJX.out, KeepsC.refl X, HMX.out⟩
        (fun x' a' A => a' = { tmps := #[.func (.yield lp) #[] #[], .pointer (some ⟨Bn, 0, none⟩), .pointer (some ⟨Bf, 0, none⟩), .pointer (some ⟨W.heap.size, 0, none⟩), .pointer (some ⟨wr.heap.size, 0, none⟩), .slice x'.1 x'.2.2.length x'.2.1, .int .i64 ((n : Int) + 1), .bool false, undef, undef, .slice (some ⟨fb, fof, none⟩) from'.length fc, .int .i64 from'.length, .int .i64 k, .bool true, .int .i64 k, .slice (some ⟨fb, fof, none⟩) from'.length fc, .int .i64 k, .int .i64 ((k : Int) + 1), .slice (some xo) z (fc - (k + 1)), .int .i64 ((n : Int) + 1), .int .i64 n, .func (.func 66) #[] #[.pointer (some ⟨U.heap.size + 1, 0, none⟩), .pointer (some ⟨U.heap.size, 0, none⟩)], .slice x'.1 x'.2.2.length x'.2.1, u23, u24, u25, u26, u27, u28, u29, u30, u31, u32, u33], defers := [] })
        (fun x' a' A l o o' h hl ho hc => h) ?assign ?body ?done ?stop
      case assign =>
        intro l x' A K hA hK
        unfold encE
        gi_wp2_with fail
        exact hK _ _ (Below.refl _ A) rfl
      case body =>
        rintro lp2 pre' ⟨xa, xc, xl⟩ a' A hA hI hok rfl
        obtain ⟨pre2, hp2, hJ2, hk2, hmk⟩ := hI
        have HMA := Lib.hid hmk
        obtain ⟨hcand, hcap0, hpre⟩ := hok
        dsimp only at hcand hcap0 hpre
        have HKA := Lib.hid (HKX.out.trans hk2)
        have HJ2 := Lib.hid hJ2
        have HK2 := Lib.hid hk2
        have HP2 := Lib.hid hp2
        have a0 : A.cell? ⟨W.heap.size, 0, none⟩ = some (.func (.yield lp) #[] #[]) := (Lib.cell_of_heap (HKA.out.2 _ _ _ _ HBY.out) 0).trans rfl
        have a1 : A.cell? ⟨Bf, 0, none⟩ = some (.slice (some ⟨fb, fof, none⟩) from'.length fc) := (Lib.cell_of_heap (HKA.out.2 _ _ _ _ HBF.out) 0).trans rfl
        have a2 : A.cell? ⟨wr.heap.size, 0, none⟩ = some (.int .i64 k) := (Lib.cell_of_heap (hk2.2 _ _ _ _ HIX.out) 0).trans rfl
        have a3 := HKA.out.cell HQ0.out
        have a4 := HKA.out.cell HQ1.out
        have HWA : Hid (W.heap.size < A.heap.size) := Lib.hid (lt_of_heap (HKA.out.2 _ _ _ _ HBY.out))
        have hxlen : xl.length = n := by
          have hm : xl ∈ choicesL n (from'.drop (k + 1)) := hpre.subset (by simp [listE])
          exact (choices_len n _ xl hm).1
        have hxl2 : xl.length ≤ 1048576 := by omega
        -- the literal and the rest
        obtain ⟨L, hL⟩ : ∃ L, L = A.alloc (.cells #[.string x.1, .slice xao x.2.length xcp] 94) := ⟨_, rfl⟩
        have hL' : A.alloc (.cells #[.string x.1, .slice xao x.2.length xcp] 94) = L := hL.symm
        have HLb : Hid (Below A.heap.size A L.drew) := Lib.hid (by rw [hL]; exact (one_below A _).drew)
        have hLh : L.heap[A.heap.size]? = some (.cells #[.string x.1, .slice xao x.2.length xcp] 94 (0, 0)) := by rw [hL]; exact World.alloc_heap_new _ _
        have HLO : Hid (L.drew.ownsRow A.heap.size 94 2 (.slice (some ⟨A.heap.size, 0, none⟩) 1 1) 1 [.string x.1, .slice xao x.2.length xcp]) := Lib.hid ⟨rfl, .inr ⟨A.heap.size, 1, _, rfl, Nat.le_refl _, hLh, Nat.le_refl _, by unfold maxLen; omega, rfl, rfl⟩⟩
        have HLs : Hid (A.heap.size ≤ L.drew.heap.size) := Lib.hid HLb.out.size
        have l0 : L.cell? ⟨W.heap.size, 0, none⟩ = some (.func (.yield lp) #[] #[]) := (HLb.out.cell (p := ⟨W.heap.size, 0, none⟩) HWA.out).trans a0
        obtain ⟨R, hR1, hR2, hR3, hR4⟩ : ∃ R : List CandV, R.map plainC = xl ∧ (∀ c ∈ R, Rd A c) ∧ (xa = none → xl.length = 0 ∧ xc = 0) ∧ (∀ ad, xa = some ad → ∀ (j : Nat) u, (cellsC R)[j]? = some u → L.drew.cell? (ad.add j) = some u) := by
          rcases hcand with h0 | ⟨rb, rof, rfl, hrb, hrc⟩
          · exact ⟨[], by rw [h0]; rfl, by simp, fun h => ⟨by rw [h0]; rfl, hcap0 h⟩, fun ad _ j u hu => by simp [cellsC] at hu⟩
          · obtain ⟨R, r1, r2, r3⟩ := cands_split xl rb rof (.inr ⟨rb, rof, rfl, hrb, hrc⟩)
            exact ⟨R, r1, r2, (fun h => by cases h), fun ad had j u hu => by
              cases had
              exact (HLb.out.cell (p := (⟨rb, rof, none⟩ : Addr).add j) (by rw [add_block]; exact hrb)).trans (r3 j u hu)⟩
        have HNN := Lib.hid hR3
        have HRC := Lib.hid hR4
        have HRl : R.length = xl.length := by rw [← hR1, List.length_map]
        have HRL : Hid ((cellsC R).length = xl.length * 2) := Lib.hid (by rw [cellsC_length, HRl])
        have HR1 : Hid (∀ u ∈ cellsC R, u.oneCell' = true) := Lib.hid (fun u hu => by
          unfold cellsC at hu
          rw [List.mem_flatMap] at hu
          obtain ⟨c, hc, hu⟩ := hu
          obtain ⟨ao, cap, e, _⟩ := hR2 c hc
          rw [e] at hu
          simp at hu
          rcases hu with rfl | rfl <;> rfl)
        have HJOIN : Hid (∀ (ao : Option Addr) (cap : Nat) (w5 : World), w5.ownsRow A.heap.size 94 2 (.slice ao (xl.length + 1) cap) (xl.length + 1) ([.string x.1, .slice xao x.2.length xcp] ++ cellsC R) → Below A.heap.size A w5 → CandsAt w5 ao (x :: xl) ∧ (ao = none → cap = 0)) := Lib.hid (fun ao cap w5 o5 b5 => by
          have e1 : [Value.string x.1, Value.slice xao x.2.length xcp] ++ cellsC R = cellsC ((x.1, Value.slice xao x.2.length xcp, x.2) :: R) := rfl
          rw [e1] at o5
          obtain ⟨co, cc, h1, h2⟩ := cands_join o5 (by rw [List.length_cons, HRl]) (fun c hc => by
            rcases List.mem_cons.1 hc with rfl | hc
            · exact ⟨xao, xcp, rfl, ((HQ2.out.keptC HKA.out)).kept b5⟩
            · exact (hR2 c hc).kept b5)
          simp only [Value.slice.injEq] at h1
          obtain ⟨rfl, -, rfl⟩ := h1
          have e2 : ((x.1, Value.slice xao x.2.length xcp, x.2) :: R).map plainC = x :: xl := by rw [List.map_cons, hR1]; rfl
          rw [e2] at h2
          refine ⟨h2, fun h => ?_⟩
          rcases h2 with h3 | ⟨_, _, h3, _⟩
          · cases h3
          · rw [h] at h3; cases h3)
        have HPE : Hid (∀ e : Elem, listE e = x :: xl → (pre2 ++ [e]).map listE = pre.map listE ++ ((pre' ++ [(xa, xc, xl)]).map listE).map (x :: ·)) := Lib.hid (fun e he => by
          rw [List.map_append, HP2.out, List.map_append, List.map_append, List.append_assoc]
          have he' : e.2.2 = x :: xl := he
          simp [he', listE])
        have HPF : Hid (∀ e : Elem, listE e = x :: xl → (pre2 ++ [e]).map listE <+: choicesL (n + 1) from') := Lib.hid (fun e he => by
          rw [HPE.out e he, ← HP.out, choices_step n from' k x HX.out]
          obtain ⟨t, ht⟩ := hpre
          refine ⟨t.map (x :: ·) ++ choicesL (n + 1) (from'.drop (k + 1)), ?_⟩
          rw [← ht]
          simp only [List.map_append, List.append_assoc])
        have HENDC : Hid (∀ W5 W6, Below A.heap.size A W5 → KeepsC W5 W6 → KeepsC A W6) := Lib.hid (fun W5 W6 h5 h6 => (KeepsC.below h5).trans h6)
        have HENDK : Hid (∀ W5 W6, Below A.heap.size A W5 → KeepsFrom W.heap.size W5 W6 → KeepsFrom X.heap.size A W6) := Lib.hid (fun W5 W6 h5 h6 =>
          ⟨Nat.le_trans h5.size h6.size, fun i o hi ho hc => h6.same i o (Nat.le_trans HWX.out hi) ((h5.block i (lt_of_heap ho)).trans ho) hc⟩)
        have HEND : Hid (∀ (e : Elem) W6, listE e = x :: xl → J (pre2 ++ [e]) W6 → KeepsC A W6 → Marks W.heap.size ds W6 → ∃ p2 : List Elem, p2.map listE = pre.map listE ++ ((pre' ++ [(xa, xc, xl)]).map listE).map (x :: ·) ∧ J p2 W6 ∧ KeepsC X W6 ∧ Marks W.heap.size ds W6) := Lib.hid (fun e W6 he hj hk hm => ⟨pre2 ++ [e], HPE.out e he, hj, HK2.out.trans hk, hm⟩)
        have HENDM : Hid (∀ W5 W6, Below A.heap.size A W5 → KeepsFrom W.heap.size W5 W6 → Marks W.heap.size ds W6) := Lib.hid (fun W5 W6 h5 h6 D hD => ⟨(HMA.out D hD).1, h6.same D _ (HMA.out D hD).1 ((h5.block D (lt_of_heap (HMA.out D hD).2)).trans (HMA.out D hD).2) rfl⟩)
        have HENDX : Hid (∀ (e : Elem) W6, listE e = x :: xl → Jx (pre2 ++ [e]) W6 → Marks W.heap.size ds W6 → Code.ret = Code.ret ∧ ∃ p2 : List Elem, p2.map listE = pre.map listE ++ ((pre' ++ [(xa, xc, xl)]).map listE).map (x :: ·) ∧ Jx p2 W6 ∧ Marks W.heap.size ds W6) := Lib.hid (fun e W6 he hj hm => ⟨rfl, pre2 ++ [e], HPE.out e he, hj, hm⟩)
        clear hcand hcap0 hpre hJ2 hk2 hp2 hmk hxlen hR1 hR2 hR3 hR4 HRl hL hLh
        gi_wp2_with fail
        refine wpIn_region_any (by kernel_rfl) (any_inRound _ rfl (fun i o hi c => by
          match i, hi with
          | 0, hi => cases hi; simp
          | 1, hi => cases hi; simp
          | 2, hi => cases hi; simp
          | 3, hi => cases hi; simp
          | 4, hi => cases hi; simp
          | 5, hi => cases hi; simp
          | 6, hi => cases hi; simp
          | 7, hi => cases hi; simp
          | 8, hi => cases hi; simp
          | 9, hi => cases hi; simp
          | i + 10, hi => simp at hi) _ _ _ _ ?_)
        change wpAnyIn _ _ _ _ _ _ _ _ _ (World.drew _)
        refine wpAnyIn_take (i := 6) (v := .slice xa xl.length xc) rfl rfl (by kernel_rfl) (by kernel_rfl) (by kernel_rfl) (fun _ _ _ h => h) ⟨Or.inl ⟨by rfl, fun w => by go_simp⟩, fun w => by rfl⟩ ?_
        refine wpAnyIn_ready (rs := [0, 1, 2]) (by kernel_rfl) (by simp) (AllReadyIn.cons rfl (fun K hK => ?_) (AllReadyIn.cons rfl (fun K hK => ?_) (AllReadyIn.cons rfl (fun K hK => ?_) AllReadyIn.nil)))
        · go_simp
          refine hK _ _ ?_; clear hK K
          refine wpAnyIn_ready (rs := [1, 2]) (by kernel_rfl) (by simp) (AllReadyIn.cons rfl (fun K hK => ?_) (AllReadyIn.cons rfl (fun K hK => ?_) AllReadyIn.nil))
          · go_simp
            refine hK _ _ ?_; clear hK K
            refine wpAnyIn_ready (rs := [2]) (by kernel_rfl) (by simp) (AllReadyIn.cons rfl (fun K hK => ?_) AllReadyIn.nil)
            go_simp
            refine hK _ _ ?_; clear hK K
            refine wpAnyIn_ready (rs := [3]) (by kernel_rfl) (by simp) (AllReadyIn.cons rfl (fun K hK => ?_) AllReadyIn.nil)
            go_simp
            refine hK _ _ ?_; clear hK K
            refine wpAnyIn_ready (rs := [4]) (by kernel_rfl) (by simp) (AllReadyIn.cons rfl (fun K hK => ?_) AllReadyIn.nil)
            go_simp
            refine hK _ _ ?_; clear hK K
            refine wpAnyIn_ready (rs := [5]) (by kernel_rfl) (by simp) (AllReadyIn.cons rfl (fun K hK => ?_) AllReadyIn.nil)
            go_simp
            refine hK _ _ ?_; clear hK K
            refine wpAnyIn_ready (rs := [7]) (by kernel_rfl) (by simp) (AllReadyIn.cons rfl (fun K hK => ?_) AllReadyIn.nil)
            refine stepIn_append_any (by rfl) _ _ 66 (by rfl) A.heap.size 94 i0 (.agg #[.string ⟨#[]⟩, .slice none 0 0]) 2 40 Tryd.underlying66 HIN.out hz0 hz1 hz2 rfl (by decide) (.slice (some ⟨A.heap.size, 0, none⟩) 1 1) 1 [.string x.1, .slice xao x.2.length xcp] (by rfl) HLO.out xa xl.length xc (cellsC R) (by rfl) HNN.out HRL.out HRC.out HR1.out (by unfold maxLen; omega) (by omega) HLs.out (xl.length + 1) (by omega) ?_
            intro ao cap w5 o5 g5 b5
            have HB5 := Lib.hid (HLb.out.trans b5)
            have HC5 := Lib.hid (HJOIN.out ao cap w5 o5 HB5.out)
            have y5 : w5.cell? ⟨W.heap.size, 0, none⟩ = some (.func (.yield lp) #[] #[]) := (HB5.out.cell (p := ⟨W.heap.size, 0, none⟩) HWA.out).trans a0
            obtain ⟨fn5, tmps5, assign5, body5, hy, hR5⟩ := HY.out pre2 (ao, cap, x :: xl) w5 (HJs.out pre2 A w5 HJ2.out HB5.out) ⟨HC5.out.1, HC5.out.2, HPF.out (ao, cap, x :: xl) rfl⟩
            have HR5 := Lib.hid hR5
            unfold encE at hy
            dsimp only [List.length_cons] at hy
            clear o5 g5 b5 hR5
            refine hK _ _ ?_; clear hK K
            refine wpAnyIn_ready (rs := [8]) (by kernel_rfl) (by simp) (AllReadyIn.cons rfl (fun K hK => ?_) AllReadyIn.nil)
            go_simp
            refine (RoundIn.anyDepth rfl HR5.out).mono ?_
            rintro e6 W6 ⟨hkf, (⟨rfl, hJ6, hk6⟩ | ⟨rfl, hJx6⟩)⟩
            · have HJ6 := Lib.hid hJ6
              have HKF := Lib.hid hkf
              have HK6 := Lib.hid hk6
              clear hJ6 hk6 hkf hy y5
              refine hK _ _ ?_; clear hK K
              refine wpAnyIn_ready (rs := [9]) (by kernel_rfl) (by simp) (AllReadyIn.cons rfl (fun K hK => ?_) AllReadyIn.nil)
              go_simp
              refine hK _ _ ?_; clear hK K
              refine wpAnyIn_done (by kernel_rfl) ?_ _
              gi_wp2_with fail
              exact ⟨HENDK.out _ _ HB5.out HKF.out, HENDC.out _ _ HB5.out HK6.out, HEND.out (ao, cap, x :: xl) _ rfl HJ6.out (HENDC.out _ _ HB5.out HK6.out) (HENDM.out _ _ HB5.out HKF.out)⟩
            · have HJ6 := Lib.hid hJx6
              have HKF := Lib.hid hkf
              clear hJx6 hkf hy y5
              refine hK _ _ ?_; clear hK K
              refine wpAnyIn_ready (rs := [9]) (by kernel_rfl) (by simp) (AllReadyIn.cons rfl (fun K hK => ?_) AllReadyIn.nil)
              go_simp
              refine hK _ _ ?_; clear hK K
              refine wpAnyIn_done (by kernel_rfl) ?_ _
              gi_wp2_with fail
              exact ⟨HENDK.out _ _ HB5.out HKF.out, ⟨rfl, (HENDX.out (ao, cap, x :: xl) _ rfl HJ6.out (HENDM.out _ _ HB5.out HKF.out)).2⟩⟩
          · go_simp
            refine hK _ _ ?_; clear hK K
            refine wpAnyIn_ready (rs := [1]) (by kernel_rfl) (by simp) (AllReadyIn.cons rfl (fun K hK => ?_) AllReadyIn.nil)
            go_simp
            refine hK _ _ ?_; clear hK K
            refine wpAnyIn_ready (rs := [3]) (by kernel_rfl) (by simp) (AllReadyIn.cons rfl (fun K hK => ?_) AllReadyIn.nil)
            go_simp
            refine hK _ _ ?_; clear hK K
            refine wpAnyIn_ready (rs := [4]) (by kernel_rfl) (by simp) (AllReadyIn.cons rfl (fun K hK => ?_) AllReadyIn.nil)
            go_simp
            refine hK _ _ ?_; clear hK K
            refine wpAnyIn_ready (rs := [5]) (by kernel_rfl) (by simp) (AllReadyIn.cons rfl (fun K hK => ?_) AllReadyIn.nil)
            go_simp
            refine hK _ _ ?_; clear hK K
            refine wpAnyIn_ready (rs := [7]) (by kernel_rfl) (by simp) (AllReadyIn.cons rfl (fun K hK => ?_) AllReadyIn.nil)
            refine stepIn_append_any (by rfl) _ _ 66 (by rfl) A.heap.size 94 i0 (.agg #[.string ⟨#[]⟩, .slice none 0 0]) 2 40 Tryd.underlying66 HIN.out hz0 hz1 hz2 rfl (by decide) (.slice (some ⟨A.heap.size, 0, none⟩) 1 1) 1 [.string x.1, .slice xao x.2.length xcp] (by rfl) HLO.out xa xl.length xc (cellsC R) (by rfl) HNN.out HRL.out HRC.out HR1.out (by unfold maxLen; omega) (by omega) HLs.out (xl.length + 1) (by omega) ?_
            intro ao cap w5 o5 g5 b5
            have HB5 := Lib.hid (HLb.out.trans b5)
            have HC5 := Lib.hid (HJOIN.out ao cap w5 o5 HB5.out)
            have y5 : w5.cell? ⟨W.heap.size, 0, none⟩ = some (.func (.yield lp) #[] #[]) := (HB5.out.cell (p := ⟨W.heap.size, 0, none⟩) HWA.out).trans a0
            obtain ⟨fn5, tmps5, assign5, body5, hy, hR5⟩ := HY.out pre2 (ao, cap, x :: xl) w5 (HJs.out pre2 A w5 HJ2.out HB5.out) ⟨HC5.out.1, HC5.out.2, HPF.out (ao, cap, x :: xl) rfl⟩
            have HR5 := Lib.hid hR5
            unfold encE at hy
            dsimp only [List.length_cons] at hy
            clear o5 g5 b5 hR5
            refine hK _ _ ?_; clear hK K
            refine wpAnyIn_ready (rs := [8]) (by kernel_rfl) (by simp) (AllReadyIn.cons rfl (fun K hK => ?_) AllReadyIn.nil)
            go_simp
            refine (RoundIn.anyDepth rfl HR5.out).mono ?_
            rintro e6 W6 ⟨hkf, (⟨rfl, hJ6, hk6⟩ | ⟨rfl, hJx6⟩)⟩
            · have HJ6 := Lib.hid hJ6
              have HKF := Lib.hid hkf
              have HK6 := Lib.hid hk6
              clear hJ6 hk6 hkf hy y5
              refine hK _ _ ?_; clear hK K
              refine wpAnyIn_ready (rs := [9]) (by kernel_rfl) (by simp) (AllReadyIn.cons rfl (fun K hK => ?_) AllReadyIn.nil)
              go_simp
              refine hK _ _ ?_; clear hK K
              refine wpAnyIn_done (by kernel_rfl) ?_ _
              gi_wp2_with fail
              exact ⟨HENDK.out _ _ HB5.out HKF.out, HENDC.out _ _ HB5.out HK6.out, HEND.out (ao, cap, x :: xl) _ rfl HJ6.out (HENDC.out _ _ HB5.out HK6.out) (HENDM.out _ _ HB5.out HKF.out)⟩
            · have HJ6 := Lib.hid hJx6
              have HKF := Lib.hid hkf
              clear hJx6 hkf hy y5
              refine hK _ _ ?_; clear hK K
              refine wpAnyIn_ready (rs := [9]) (by kernel_rfl) (by simp) (AllReadyIn.cons rfl (fun K hK => ?_) AllReadyIn.nil)
              go_simp
              refine hK _ _ ?_; clear hK K
              refine wpAnyIn_done (by kernel_rfl) ?_ _
              gi_wp2_with fail
              exact ⟨HENDK.out _ _ HB5.out HKF.out, ⟨rfl, (HENDX.out (ao, cap, x :: xl) _ rfl HJ6.out (HENDM.out _ _ HB5.out HKF.out)).2⟩⟩
        · go_simp
          refine hK _ _ ?_; clear hK K
          refine wpAnyIn_ready (rs := [0, 2]) (by kernel_rfl) (by simp) (AllReadyIn.cons rfl (fun K hK => ?_) (AllReadyIn.cons rfl (fun K hK => ?_) AllReadyIn.nil))
          · go_simp
            refine hK _ _ ?_; clear hK K
            refine wpAnyIn_ready (rs := [2]) (by kernel_rfl) (by simp) (AllReadyIn.cons rfl (fun K hK => ?_) AllReadyIn.nil)
            go_simp
            refine hK _ _ ?_; clear hK K
            refine wpAnyIn_ready (rs := [3]) (by kernel_rfl) (by simp) (AllReadyIn.cons rfl (fun K hK => ?_) AllReadyIn.nil)
            go_simp
            refine hK _ _ ?_; clear hK K
            refine wpAnyIn_ready (rs := [4]) (by kernel_rfl) (by simp) (AllReadyIn.cons rfl (fun K hK => ?_) AllReadyIn.nil)
            go_simp
            refine hK _ _ ?_; clear hK K
            refine wpAnyIn_ready (rs := [5]) (by kernel_rfl) (by simp) (AllReadyIn.cons rfl (fun K hK => ?_) AllReadyIn.nil)
            go_simp
            refine hK _ _ ?_; clear hK K
            refine wpAnyIn_ready (rs := [7]) (by kernel_rfl) (by simp) (AllReadyIn.cons rfl (fun K hK => ?_) AllReadyIn.nil)
            refine stepIn_append_any (by rfl) _ _ 66 (by rfl) A.heap.size 94 i0 (.agg #[.string ⟨#[]⟩, .slice none 0 0]) 2 40 Tryd.underlying66 HIN.out hz0 hz1 hz2 rfl (by decide) (.slice (some ⟨A.heap.size, 0, none⟩) 1 1) 1 [.string x.1, .slice xao x.2.length xcp] (by rfl) HLO.out xa xl.length xc (cellsC R) (by rfl) HNN.out HRL.out HRC.out HR1.out (by unfold maxLen; omega) (by omega) HLs.out (xl.length + 1) (by omega) ?_
            intro ao cap w5 o5 g5 b5
            have HB5 := Lib.hid (HLb.out.trans b5)
            have HC5 := Lib.hid (HJOIN.out ao cap w5 o5 HB5.out)
            have y5 : w5.cell? ⟨W.heap.size, 0, none⟩ = some (.func (.yield lp) #[] #[]) := (HB5.out.cell (p := ⟨W.heap.size, 0, none⟩) HWA.out).trans a0
            obtain ⟨fn5, tmps5, assign5, body5, hy, hR5⟩ := HY.out pre2 (ao, cap, x :: xl) w5 (HJs.out pre2 A w5 HJ2.out HB5.out) ⟨HC5.out.1, HC5.out.2, HPF.out (ao, cap, x :: xl) rfl⟩
            have HR5 := Lib.hid hR5
            unfold encE at hy
            dsimp only [List.length_cons] at hy
            clear o5 g5 b5 hR5
            refine hK _ _ ?_; clear hK K
            refine wpAnyIn_ready (rs := [8]) (by kernel_rfl) (by simp) (AllReadyIn.cons rfl (fun K hK => ?_) AllReadyIn.nil)
            go_simp
            refine (RoundIn.anyDepth rfl HR5.out).mono ?_
            rintro e6 W6 ⟨hkf, (⟨rfl, hJ6, hk6⟩ | ⟨rfl, hJx6⟩)⟩
            · have HJ6 := Lib.hid hJ6
              have HKF := Lib.hid hkf
              have HK6 := Lib.hid hk6
              clear hJ6 hk6 hkf hy y5
              refine hK _ _ ?_; clear hK K
              refine wpAnyIn_ready (rs := [9]) (by kernel_rfl) (by simp) (AllReadyIn.cons rfl (fun K hK => ?_) AllReadyIn.nil)
              go_simp
              refine hK _ _ ?_; clear hK K
              refine wpAnyIn_done (by kernel_rfl) ?_ _
              gi_wp2_with fail
              exact ⟨HENDK.out _ _ HB5.out HKF.out, HENDC.out _ _ HB5.out HK6.out, HEND.out (ao, cap, x :: xl) _ rfl HJ6.out (HENDC.out _ _ HB5.out HK6.out) (HENDM.out _ _ HB5.out HKF.out)⟩
            · have HJ6 := Lib.hid hJx6
              have HKF := Lib.hid hkf
              clear hJx6 hkf hy y5
              refine hK _ _ ?_; clear hK K
              refine wpAnyIn_ready (rs := [9]) (by kernel_rfl) (by simp) (AllReadyIn.cons rfl (fun K hK => ?_) AllReadyIn.nil)
              go_simp
              refine hK _ _ ?_; clear hK K
              refine wpAnyIn_done (by kernel_rfl) ?_ _
              gi_wp2_with fail
              exact ⟨HENDK.out _ _ HB5.out HKF.out, ⟨rfl, (HENDX.out (ao, cap, x :: xl) _ rfl HJ6.out (HENDM.out _ _ HB5.out HKF.out)).2⟩⟩
          · go_simp
            refine hK _ _ ?_; clear hK K
            refine wpAnyIn_ready (rs := [0, 3]) (by kernel_rfl) (by simp) (AllReadyIn.cons rfl (fun K hK => ?_) (AllReadyIn.cons rfl (fun K hK => ?_) AllReadyIn.nil))
            · go_simp
              refine hK _ _ ?_; clear hK K
              refine wpAnyIn_ready (rs := [3]) (by kernel_rfl) (by simp) (AllReadyIn.cons rfl (fun K hK => ?_) AllReadyIn.nil)
              go_simp
              refine hK _ _ ?_; clear hK K
              refine wpAnyIn_ready (rs := [4]) (by kernel_rfl) (by simp) (AllReadyIn.cons rfl (fun K hK => ?_) AllReadyIn.nil)
              go_simp
              refine hK _ _ ?_; clear hK K
              refine wpAnyIn_ready (rs := [5]) (by kernel_rfl) (by simp) (AllReadyIn.cons rfl (fun K hK => ?_) AllReadyIn.nil)
              go_simp
              refine hK _ _ ?_; clear hK K
              refine wpAnyIn_ready (rs := [7]) (by kernel_rfl) (by simp) (AllReadyIn.cons rfl (fun K hK => ?_) AllReadyIn.nil)
              refine stepIn_append_any (by rfl) _ _ 66 (by rfl) A.heap.size 94 i0 (.agg #[.string ⟨#[]⟩, .slice none 0 0]) 2 40 Tryd.underlying66 HIN.out hz0 hz1 hz2 rfl (by decide) (.slice (some ⟨A.heap.size, 0, none⟩) 1 1) 1 [.string x.1, .slice xao x.2.length xcp] (by rfl) HLO.out xa xl.length xc (cellsC R) (by rfl) HNN.out HRL.out HRC.out HR1.out (by unfold maxLen; omega) (by omega) HLs.out (xl.length + 1) (by omega) ?_
              intro ao cap w5 o5 g5 b5
              have HB5 := Lib.hid (HLb.out.trans b5)
              have HC5 := Lib.hid (HJOIN.out ao cap w5 o5 HB5.out)
              have y5 : w5.cell? ⟨W.heap.size, 0, none⟩ = some (.func (.yield lp) #[] #[]) := (HB5.out.cell (p := ⟨W.heap.size, 0, none⟩) HWA.out).trans a0
              obtain ⟨fn5, tmps5, assign5, body5, hy, hR5⟩ := HY.out pre2 (ao, cap, x :: xl) w5 (HJs.out pre2 A w5 HJ2.out HB5.out) ⟨HC5.out.1, HC5.out.2, HPF.out (ao, cap, x :: xl) rfl⟩
              have HR5 := Lib.hid hR5
              unfold encE at hy
              dsimp only [List.length_cons] at hy
              clear o5 g5 b5 hR5
              refine hK _ _ ?_; clear hK K
              refine wpAnyIn_ready (rs := [8]) (by kernel_rfl) (by simp) (AllReadyIn.cons rfl (fun K hK => ?_) AllReadyIn.nil)
              go_simp
              refine (RoundIn.anyDepth rfl HR5.out).mono ?_
              rintro e6 W6 ⟨hkf, (⟨rfl, hJ6, hk6⟩ | ⟨rfl, hJx6⟩)⟩
              · have HJ6 := Lib.hid hJ6
                have HKF := Lib.hid hkf
                have HK6 := Lib.hid hk6
                clear hJ6 hk6 hkf hy y5
                refine hK _ _ ?_; clear hK K
                refine wpAnyIn_ready (rs := [9]) (by kernel_rfl) (by simp) (AllReadyIn.cons rfl (fun K hK => ?_) AllReadyIn.nil)
                go_simp
                refine hK _ _ ?_; clear hK K
                refine wpAnyIn_done (by kernel_rfl) ?_ _
                gi_wp2_with fail
                exact ⟨HENDK.out _ _ HB5.out HKF.out, HENDC.out _ _ HB5.out HK6.out, HEND.out (ao, cap, x :: xl) _ rfl HJ6.out (HENDC.out _ _ HB5.out HK6.out) (HENDM.out _ _ HB5.out HKF.out)⟩
              · have HJ6 := Lib.hid hJx6
                have HKF := Lib.hid hkf
                clear hJx6 hkf hy y5
                refine hK _ _ ?_; clear hK K
                refine wpAnyIn_ready (rs := [9]) (by kernel_rfl) (by simp) (AllReadyIn.cons rfl (fun K hK => ?_) AllReadyIn.nil)
                go_simp
                refine hK _ _ ?_; clear hK K
                refine wpAnyIn_done (by kernel_rfl) ?_ _
                gi_wp2_with fail
                exact ⟨HENDK.out _ _ HB5.out HKF.out, ⟨rfl, (HENDX.out (ao, cap, x :: xl) _ rfl HJ6.out (HENDM.out _ _ HB5.out HKF.out)).2⟩⟩
            · go_simp
              refine hK _ _ ?_; clear hK K
              refine wpAnyIn_ready (rs := [0, 4]) (by kernel_rfl) (by simp) (AllReadyIn.cons rfl (fun K hK => ?_) (AllReadyIn.cons rfl (fun K hK => ?_) AllReadyIn.nil))
              · go_simp
                refine hK _ _ ?_; clear hK K
                refine wpAnyIn_ready (rs := [4]) (by kernel_rfl) (by simp) (AllReadyIn.cons rfl (fun K hK => ?_) AllReadyIn.nil)
                go_simp
                refine hK _ _ ?_; clear hK K
                refine wpAnyIn_ready (rs := [5]) (by kernel_rfl) (by simp) (AllReadyIn.cons rfl (fun K hK => ?_) AllReadyIn.nil)
                go_simp
                refine hK _ _ ?_; clear hK K
                refine wpAnyIn_ready (rs := [7]) (by kernel_rfl) (by simp) (AllReadyIn.cons rfl (fun K hK => ?_) AllReadyIn.nil)
                refine stepIn_append_any (by rfl) _ _ 66 (by rfl) A.heap.size 94 i0 (.agg #[.string ⟨#[]⟩, .slice none 0 0]) 2 40 Tryd.underlying66 HIN.out hz0 hz1 hz2 rfl (by decide) (.slice (some ⟨A.heap.size, 0, none⟩) 1 1) 1 [.string x.1, .slice xao x.2.length xcp] (by rfl) HLO.out xa xl.length xc (cellsC R) (by rfl) HNN.out HRL.out HRC.out HR1.out (by unfold maxLen; omega) (by omega) HLs.out (xl.length + 1) (by omega) ?_
                intro ao cap w5 o5 g5 b5
                have HB5 := Lib.hid (HLb.out.trans b5)
                have HC5 := Lib.hid (HJOIN.out ao cap w5 o5 HB5.out)
                have y5 : w5.cell? ⟨W.heap.size, 0, none⟩ = some (.func (.yield lp) #[] #[]) := (HB5.out.cell (p := ⟨W.heap.size, 0, none⟩) HWA.out).trans a0
                obtain ⟨fn5, tmps5, assign5, body5, hy, hR5⟩ := HY.out pre2 (ao, cap, x :: xl) w5 (HJs.out pre2 A w5 HJ2.out HB5.out) ⟨HC5.out.1, HC5.out.2, HPF.out (ao, cap, x :: xl) rfl⟩
                have HR5 := Lib.hid hR5
                unfold encE at hy
                dsimp only [List.length_cons] at hy
                clear o5 g5 b5 hR5
                refine hK _ _ ?_; clear hK K
                refine wpAnyIn_ready (rs := [8]) (by kernel_rfl) (by simp) (AllReadyIn.cons rfl (fun K hK => ?_) AllReadyIn.nil)
                go_simp
                refine (RoundIn.anyDepth rfl HR5.out).mono ?_
                rintro e6 W6 ⟨hkf, (⟨rfl, hJ6, hk6⟩ | ⟨rfl, hJx6⟩)⟩
                · have HJ6 := Lib.hid hJ6
                  have HKF := Lib.hid hkf
                  have HK6 := Lib.hid hk6
                  clear hJ6 hk6 hkf hy y5
                  refine hK _ _ ?_; clear hK K
                  refine wpAnyIn_ready (rs := [9]) (by kernel_rfl) (by simp) (AllReadyIn.cons rfl (fun K hK => ?_) AllReadyIn.nil)
                  go_simp
                  refine hK _ _ ?_; clear hK K
                  refine wpAnyIn_done (by kernel_rfl) ?_ _
                  gi_wp2_with fail
                  exact ⟨HENDK.out _ _ HB5.out HKF.out, HENDC.out _ _ HB5.out HK6.out, HEND.out (ao, cap, x :: xl) _ rfl HJ6.out (HENDC.out _ _ HB5.out HK6.out) (HENDM.out _ _ HB5.out HKF.out)⟩
                · have HJ6 := Lib.hid hJx6
                  have HKF := Lib.hid hkf
                  clear hJx6 hkf hy y5
                  refine hK _ _ ?_; clear hK K
                  refine wpAnyIn_ready (rs := [9]) (by kernel_rfl) (by simp) (AllReadyIn.cons rfl (fun K hK => ?_) AllReadyIn.nil)
                  go_simp
                  refine hK _ _ ?_; clear hK K
                  refine wpAnyIn_done (by kernel_rfl) ?_ _
                  gi_wp2_with fail
                  exact ⟨HENDK.out _ _ HB5.out HKF.out, ⟨rfl, (HENDX.out (ao, cap, x :: xl) _ rfl HJ6.out (HENDM.out _ _ HB5.out HKF.out)).2⟩⟩
              · go_simp
                refine hK _ _ ?_; clear hK K
                refine wpAnyIn_ready (rs := [0, 5]) (by kernel_rfl) (by simp) (AllReadyIn.cons rfl (fun K hK => ?_) (AllReadyIn.cons rfl (fun K hK => ?_) AllReadyIn.nil))
                · go_simp
                  refine hK _ _ ?_; clear hK K
                  refine wpAnyIn_ready (rs := [5]) (by kernel_rfl) (by simp) (AllReadyIn.cons rfl (fun K hK => ?_) AllReadyIn.nil)
                  go_simp
                  refine hK _ _ ?_; clear hK K
                  refine wpAnyIn_ready (rs := [7]) (by kernel_rfl) (by simp) (AllReadyIn.cons rfl (fun K hK => ?_) AllReadyIn.nil)
                  refine stepIn_append_any (by rfl) _ _ 66 (by rfl) A.heap.size 94 i0 (.agg #[.string ⟨#[]⟩, .slice none 0 0]) 2 40 Tryd.underlying66 HIN.out hz0 hz1 hz2 rfl (by decide) (.slice (some ⟨A.heap.size, 0, none⟩) 1 1) 1 [.string x.1, .slice xao x.2.length xcp] (by rfl) HLO.out xa xl.length xc (cellsC R) (by rfl) HNN.out HRL.out HRC.out HR1.out (by unfold maxLen; omega) (by omega) HLs.out (xl.length + 1) (by omega) ?_
                  intro ao cap w5 o5 g5 b5
                  have HB5 := Lib.hid (HLb.out.trans b5)
                  have HC5 := Lib.hid (HJOIN.out ao cap w5 o5 HB5.out)
                  have y5 : w5.cell? ⟨W.heap.size, 0, none⟩ = some (.func (.yield lp) #[] #[]) := (HB5.out.cell (p := ⟨W.heap.size, 0, none⟩) HWA.out).trans a0
                  obtain ⟨fn5, tmps5, assign5, body5, hy, hR5⟩ := HY.out pre2 (ao, cap, x :: xl) w5 (HJs.out pre2 A w5 HJ2.out HB5.out) ⟨HC5.out.1, HC5.out.2, HPF.out (ao, cap, x :: xl) rfl⟩
                  have HR5 := Lib.hid hR5
                  unfold encE at hy
                  dsimp only [List.length_cons] at hy
                  clear o5 g5 b5 hR5
                  refine hK _ _ ?_; clear hK K
                  refine wpAnyIn_ready (rs := [8]) (by kernel_rfl) (by simp) (AllReadyIn.cons rfl (fun K hK => ?_) AllReadyIn.nil)
                  go_simp
                  refine (RoundIn.anyDepth rfl HR5.out).mono ?_
                  rintro e6 W6 ⟨hkf, (⟨rfl, hJ6, hk6⟩ | ⟨rfl, hJx6⟩)⟩
                  · have HJ6 := Lib.hid hJ6
                    have HKF := Lib.hid hkf
                    have HK6 := Lib.hid hk6
                    clear hJ6 hk6 hkf hy y5
                    refine hK _ _ ?_; clear hK K
                    refine wpAnyIn_ready (rs := [9]) (by kernel_rfl) (by simp) (AllReadyIn.cons rfl (fun K hK => ?_) AllReadyIn.nil)
                    go_simp
                    refine hK _ _ ?_; clear hK K
                    refine wpAnyIn_done (by kernel_rfl) ?_ _
                    gi_wp2_with fail
                    exact ⟨HENDK.out _ _ HB5.out HKF.out, HENDC.out _ _ HB5.out HK6.out, HEND.out (ao, cap, x :: xl) _ rfl HJ6.out (HENDC.out _ _ HB5.out HK6.out) (HENDM.out _ _ HB5.out HKF.out)⟩
                  · have HJ6 := Lib.hid hJx6
                    have HKF := Lib.hid hkf
                    clear hJx6 hkf hy y5
                    refine hK _ _ ?_; clear hK K
                    refine wpAnyIn_ready (rs := [9]) (by kernel_rfl) (by simp) (AllReadyIn.cons rfl (fun K hK => ?_) AllReadyIn.nil)
                    go_simp
                    refine hK _ _ ?_; clear hK K
                    refine wpAnyIn_done (by kernel_rfl) ?_ _
                    gi_wp2_with fail
                    exact ⟨HENDK.out _ _ HB5.out HKF.out, ⟨rfl, (HENDX.out (ao, cap, x :: xl) _ rfl HJ6.out (HENDM.out _ _ HB5.out HKF.out)).2⟩⟩
                · go_simp
                  refine hK _ _ ?_; clear hK K
                  refine wpAnyIn_ready (rs := [0, 7]) (by kernel_rfl) (by simp) (AllReadyIn.cons rfl (fun K hK => ?_) (AllReadyIn.cons rfl (fun K hK => ?_) AllReadyIn.nil))
                  · go_simp
                    refine hK _ _ ?_; clear hK K
                    refine wpAnyIn_ready (rs := [7]) (by kernel_rfl) (by simp) (AllReadyIn.cons rfl (fun K hK => ?_) AllReadyIn.nil)
                    refine stepIn_append_any (by rfl) _ _ 66 (by rfl) A.heap.size 94 i0 (.agg #[.string ⟨#[]⟩, .slice none 0 0]) 2 40 Tryd.underlying66 HIN.out hz0 hz1 hz2 rfl (by decide) (.slice (some ⟨A.heap.size, 0, none⟩) 1 1) 1 [.string x.1, .slice xao x.2.length xcp] (by rfl) HLO.out xa xl.length xc (cellsC R) (by rfl) HNN.out HRL.out HRC.out HR1.out (by unfold maxLen; omega) (by omega) HLs.out (xl.length + 1) (by omega) ?_
                    intro ao cap w5 o5 g5 b5
                    have HB5 := Lib.hid (HLb.out.trans b5)
                    have HC5 := Lib.hid (HJOIN.out ao cap w5 o5 HB5.out)
                    have y5 : w5.cell? ⟨W.heap.size, 0, none⟩ = some (.func (.yield lp) #[] #[]) := (HB5.out.cell (p := ⟨W.heap.size, 0, none⟩) HWA.out).trans a0
                    obtain ⟨fn5, tmps5, assign5, body5, hy, hR5⟩ := HY.out pre2 (ao, cap, x :: xl) w5 (HJs.out pre2 A w5 HJ2.out HB5.out) ⟨HC5.out.1, HC5.out.2, HPF.out (ao, cap, x :: xl) rfl⟩
                    have HR5 := Lib.hid hR5
                    unfold encE at hy
                    dsimp only [List.length_cons] at hy
                    clear o5 g5 b5 hR5
                    refine hK _ _ ?_; clear hK K
                    refine wpAnyIn_ready (rs := [8]) (by kernel_rfl) (by simp) (AllReadyIn.cons rfl (fun K hK => ?_) AllReadyIn.nil)
                    go_simp
                    refine (RoundIn.anyDepth rfl HR5.out).mono ?_
                    rintro e6 W6 ⟨hkf, (⟨rfl, hJ6, hk6⟩ | ⟨rfl, hJx6⟩)⟩
                    · have HJ6 := Lib.hid hJ6
                      have HKF := Lib.hid hkf
                      have HK6 := Lib.hid hk6
                      clear hJ6 hk6 hkf hy y5
                      refine hK _ _ ?_; clear hK K
                      refine wpAnyIn_ready (rs := [9]) (by kernel_rfl) (by simp) (AllReadyIn.cons rfl (fun K hK => ?_) AllReadyIn.nil)
                      go_simp
                      refine hK _ _ ?_; clear hK K
                      refine wpAnyIn_done (by kernel_rfl) ?_ _
                      gi_wp2_with fail
                      exact ⟨HENDK.out _ _ HB5.out HKF.out, HENDC.out _ _ HB5.out HK6.out, HEND.out (ao, cap, x :: xl) _ rfl HJ6.out (HENDC.out _ _ HB5.out HK6.out) (HENDM.out _ _ HB5.out HKF.out)⟩
                    · have HJ6 := Lib.hid hJx6
                      have HKF := Lib.hid hkf
                      clear hJx6 hkf hy y5
                      refine hK _ _ ?_; clear hK K
                      refine wpAnyIn_ready (rs := [9]) (by kernel_rfl) (by simp) (AllReadyIn.cons rfl (fun K hK => ?_) AllReadyIn.nil)
                      go_simp
                      refine hK _ _ ?_; clear hK K
                      refine wpAnyIn_done (by kernel_rfl) ?_ _
                      gi_wp2_with fail
                      exact ⟨HENDK.out _ _ HB5.out HKF.out, ⟨rfl, (HENDX.out (ao, cap, x :: xl) _ rfl HJ6.out (HENDM.out _ _ HB5.out HKF.out)).2⟩⟩
                  · refine stepIn_append_any (by rfl) _ _ 66 (by rfl) A.heap.size 94 i0 (.agg #[.string ⟨#[]⟩, .slice none 0 0]) 2 40 Tryd.underlying66 HIN.out hz0 hz1 hz2 rfl (by decide) (.slice (some ⟨A.heap.size, 0, none⟩) 1 1) 1 [.string x.1, .slice xao x.2.length xcp] (by rfl) HLO.out xa xl.length xc (cellsC R) (by rfl) HNN.out HRL.out HRC.out HR1.out (by unfold maxLen; omega) (by omega) HLs.out (xl.length + 1) (by omega) ?_
                    intro ao cap w5 o5 g5 b5
                    have HB5 := Lib.hid (HLb.out.trans b5)
                    have HC5 := Lib.hid (HJOIN.out ao cap w5 o5 HB5.out)
                    have y5 : w5.cell? ⟨W.heap.size, 0, none⟩ = some (.func (.yield lp) #[] #[]) := (HB5.out.cell (p := ⟨W.heap.size, 0, none⟩) HWA.out).trans a0
                    obtain ⟨fn5, tmps5, assign5, body5, hy, hR5⟩ := HY.out pre2 (ao, cap, x :: xl) w5 (HJs.out pre2 A w5 HJ2.out HB5.out) ⟨HC5.out.1, HC5.out.2, HPF.out (ao, cap, x :: xl) rfl⟩
                    have HR5 := Lib.hid hR5
                    unfold encE at hy
                    dsimp only [List.length_cons] at hy
                    clear o5 g5 b5 hR5
                    refine hK _ _ ?_; clear hK K
                    refine wpAnyIn_ready (rs := [0]) (by kernel_rfl) (by simp) (AllReadyIn.cons rfl (fun K hK => ?_) AllReadyIn.nil)
                    go_simp
                    refine hK _ _ ?_; clear hK K
                    refine wpAnyIn_ready (rs := [8]) (by kernel_rfl) (by simp) (AllReadyIn.cons rfl (fun K hK => ?_) AllReadyIn.nil)
                    go_simp
                    refine (RoundIn.anyDepth rfl HR5.out).mono ?_
                    rintro e6 W6 ⟨hkf, (⟨rfl, hJ6, hk6⟩ | ⟨rfl, hJx6⟩)⟩
                    · have HJ6 := Lib.hid hJ6
                      have HKF := Lib.hid hkf
                      have HK6 := Lib.hid hk6
                      clear hJ6 hk6 hkf hy y5
                      refine hK _ _ ?_; clear hK K
                      refine wpAnyIn_ready (rs := [9]) (by kernel_rfl) (by simp) (AllReadyIn.cons rfl (fun K hK => ?_) AllReadyIn.nil)
                      go_simp
                      refine hK _ _ ?_; clear hK K
                      refine wpAnyIn_done (by kernel_rfl) ?_ _
                      gi_wp2_with fail
                      exact ⟨HENDK.out _ _ HB5.out HKF.out, HENDC.out _ _ HB5.out HK6.out, HEND.out (ao, cap, x :: xl) _ rfl HJ6.out (HENDC.out _ _ HB5.out HK6.out) (HENDM.out _ _ HB5.out HKF.out)⟩
                    · have HJ6 := Lib.hid hJx6
                      have HKF := Lib.hid hkf
                      clear hJx6 hkf hy y5
                      refine hK _ _ ?_; clear hK K
                      refine wpAnyIn_ready (rs := [9]) (by kernel_rfl) (by simp) (AllReadyIn.cons rfl (fun K hK => ?_) AllReadyIn.nil)
                      go_simp
                      refine hK _ _ ?_; clear hK K
                      refine wpAnyIn_done (by kernel_rfl) ?_ _
                      gi_wp2_with fail
                      exact ⟨HENDK.out _ _ HB5.out HKF.out, ⟨rfl, (HENDX.out (ao, cap, x :: xl) _ rfl HJ6.out (HENDM.out _ _ HB5.out HKF.out)).2⟩⟩
        · go_simp
          refine hK _ _ ?_; clear hK K
          refine wpAnyIn_ready (rs := [0, 1]) (by kernel_rfl) (by simp) (AllReadyIn.cons rfl (fun K hK => ?_) (AllReadyIn.cons rfl (fun K hK => ?_) AllReadyIn.nil))
          · go_simp
            refine hK _ _ ?_; clear hK K
            refine wpAnyIn_ready (rs := [1]) (by kernel_rfl) (by simp) (AllReadyIn.cons rfl (fun K hK => ?_) AllReadyIn.nil)
            go_simp
            refine hK _ _ ?_; clear hK K
            refine wpAnyIn_ready (rs := [3]) (by kernel_rfl) (by simp) (AllReadyIn.cons rfl (fun K hK => ?_) AllReadyIn.nil)
            go_simp
            refine hK _ _ ?_; clear hK K
            refine wpAnyIn_ready (rs := [4]) (by kernel_rfl) (by simp) (AllReadyIn.cons rfl (fun K hK => ?_) AllReadyIn.nil)
            go_simp
            refine hK _ _ ?_; clear hK K
            refine wpAnyIn_ready (rs := [5]) (by kernel_rfl) (by simp) (AllReadyIn.cons rfl (fun K hK => ?_) AllReadyIn.nil)
            go_simp
            refine hK _ _ ?_; clear hK K
            refine wpAnyIn_ready (rs := [7]) (by kernel_rfl) (by simp) (AllReadyIn.cons rfl (fun K hK => ?_) AllReadyIn.nil)
            refine stepIn_append_any (by rfl) _ _ 66 (by rfl) A.heap.size 94 i0 (.agg #[.string ⟨#[]⟩, .slice none 0 0]) 2 40 Tryd.underlying66 HIN.out hz0 hz1 hz2 rfl (by decide) (.slice (some ⟨A.heap.size, 0, none⟩) 1 1) 1 [.string x.1, .slice xao x.2.length xcp] (by rfl) HLO.out xa xl.length xc (cellsC R) (by rfl) HNN.out HRL.out HRC.out HR1.out (by unfold maxLen; omega) (by omega) HLs.out (xl.length + 1) (by omega) ?_
            intro ao cap w5 o5 g5 b5
            have HB5 := Lib.hid (HLb.out.trans b5)
            have HC5 := Lib.hid (HJOIN.out ao cap w5 o5 HB5.out)
            have y5 : w5.cell? ⟨W.heap.size, 0, none⟩ = some (.func (.yield lp) #[] #[]) := (HB5.out.cell (p := ⟨W.heap.size, 0, none⟩) HWA.out).trans a0
            obtain ⟨fn5, tmps5, assign5, body5, hy, hR5⟩ := HY.out pre2 (ao, cap, x :: xl) w5 (HJs.out pre2 A w5 HJ2.out HB5.out) ⟨HC5.out.1, HC5.out.2, HPF.out (ao, cap, x :: xl) rfl⟩
            have HR5 := Lib.hid hR5
            unfold encE at hy
            dsimp only [List.length_cons] at hy
            clear o5 g5 b5 hR5
            refine hK _ _ ?_; clear hK K
            refine wpAnyIn_ready (rs := [8]) (by kernel_rfl) (by simp) (AllReadyIn.cons rfl (fun K hK => ?_) AllReadyIn.nil)
            go_simp
            refine (RoundIn.anyDepth rfl HR5.out).mono ?_
            rintro e6 W6 ⟨hkf, (⟨rfl, hJ6, hk6⟩ | ⟨rfl, hJx6⟩)⟩
            · have HJ6 := Lib.hid hJ6
              have HKF := Lib.hid hkf
              have HK6 := Lib.hid hk6
              clear hJ6 hk6 hkf hy y5
              refine hK _ _ ?_; clear hK K
              refine wpAnyIn_ready (rs := [9]) (by kernel_rfl) (by simp) (AllReadyIn.cons rfl (fun K hK => ?_) AllReadyIn.nil)
              go_simp
              refine hK _ _ ?_; clear hK K
              refine wpAnyIn_done (by kernel_rfl) ?_ _
              gi_wp2_with fail
              exact ⟨HENDK.out _ _ HB5.out HKF.out, HENDC.out _ _ HB5.out HK6.out, HEND.out (ao, cap, x :: xl) _ rfl HJ6.out (HENDC.out _ _ HB5.out HK6.out) (HENDM.out _ _ HB5.out HKF.out)⟩
            · have HJ6 := Lib.hid hJx6
              have HKF := Lib.hid hkf
              clear hJx6 hkf hy y5
              refine hK _ _ ?_; clear hK K
              refine wpAnyIn_ready (rs := [9]) (by kernel_rfl) (by simp) (AllReadyIn.cons rfl (fun K hK => ?_) AllReadyIn.nil)
              go_simp
              refine hK _ _ ?_; clear hK K
              refine wpAnyIn_done (by kernel_rfl) ?_ _
              gi_wp2_with fail
              exact ⟨HENDK.out _ _ HB5.out HKF.out, ⟨rfl, (HENDX.out (ao, cap, x :: xl) _ rfl HJ6.out (HENDM.out _ _ HB5.out HKF.out)).2⟩⟩
          · go_simp
            refine hK _ _ ?_; clear hK K
            refine wpAnyIn_ready (rs := [0, 3]) (by kernel_rfl) (by simp) (AllReadyIn.cons rfl (fun K hK => ?_) (AllReadyIn.cons rfl (fun K hK => ?_) AllReadyIn.nil))
            · go_simp
              refine hK _ _ ?_; clear hK K
              refine wpAnyIn_ready (rs := [3]) (by kernel_rfl) (by simp) (AllReadyIn.cons rfl (fun K hK => ?_) AllReadyIn.nil)
              go_simp
              refine hK _ _ ?_; clear hK K
              refine wpAnyIn_ready (rs := [4]) (by kernel_rfl) (by simp) (AllReadyIn.cons rfl (fun K hK => ?_) AllReadyIn.nil)
              go_simp
              refine hK _ _ ?_; clear hK K
              refine wpAnyIn_ready (rs := [5]) (by kernel_rfl) (by simp) (AllReadyIn.cons rfl (fun K hK => ?_) AllReadyIn.nil)
              go_simp
              refine hK _ _ ?_; clear hK K
              refine wpAnyIn_ready (rs := [7]) (by kernel_rfl) (by simp) (AllReadyIn.cons rfl (fun K hK => ?_) AllReadyIn.nil)
              refine stepIn_append_any (by rfl) _ _ 66 (by rfl) A.heap.size 94 i0 (.agg #[.string ⟨#[]⟩, .slice none 0 0]) 2 40 Tryd.underlying66 HIN.out hz0 hz1 hz2 rfl (by decide) (.slice (some ⟨A.heap.size, 0, none⟩) 1 1) 1 [.string x.1, .slice xao x.2.length xcp] (by rfl) HLO.out xa xl.length xc (cellsC R) (by rfl) HNN.out HRL.out HRC.out HR1.out (by unfold maxLen; omega) (by omega) HLs.out (xl.length + 1) (by omega) ?_
              intro ao cap w5 o5 g5 b5
              have HB5 := Lib.hid (HLb.out.trans b5)
              have HC5 := Lib.hid (HJOIN.out ao cap w5 o5 HB5.out)
              have y5 : w5.cell? ⟨W.heap.size, 0, none⟩ = some (.func (.yield lp) #[] #[]) := (HB5.out.cell (p := ⟨W.heap.size, 0, none⟩) HWA.out).trans a0
              obtain ⟨fn5, tmps5, assign5, body5, hy, hR5⟩ := HY.out pre2 (ao, cap, x :: xl) w5 (HJs.out pre2 A w5 HJ2.out HB5.out) ⟨HC5.out.1, HC5.out.2, HPF.out (ao, cap, x :: xl) rfl⟩
              have HR5 := Lib.hid hR5
              unfold encE at hy
              dsimp only [List.length_cons] at hy
              clear o5 g5 b5 hR5
              refine hK _ _ ?_; clear hK K
              refine wpAnyIn_ready (rs := [8]) (by kernel_rfl) (by simp) (AllReadyIn.cons rfl (fun K hK => ?_) AllReadyIn.nil)
              go_simp
              refine (RoundIn.anyDepth rfl HR5.out).mono ?_
              rintro e6 W6 ⟨hkf, (⟨rfl, hJ6, hk6⟩ | ⟨rfl, hJx6⟩)⟩
              · have HJ6 := Lib.hid hJ6
                have HKF := Lib.hid hkf
                have HK6 := Lib.hid hk6
                clear hJ6 hk6 hkf hy y5
                refine hK _ _ ?_; clear hK K
                refine wpAnyIn_ready (rs := [9]) (by kernel_rfl) (by simp) (AllReadyIn.cons rfl (fun K hK => ?_) AllReadyIn.nil)
                go_simp
                refine hK _ _ ?_; clear hK K
                refine wpAnyIn_done (by kernel_rfl) ?_ _
                gi_wp2_with fail
                exact ⟨HENDK.out _ _ HB5.out HKF.out, HENDC.out _ _ HB5.out HK6.out, HEND.out (ao, cap, x :: xl) _ rfl HJ6.out (HENDC.out _ _ HB5.out HK6.out) (HENDM.out _ _ HB5.out HKF.out)⟩
              · have HJ6 := Lib.hid hJx6
                have HKF := Lib.hid hkf
                clear hJx6 hkf hy y5
                refine hK _ _ ?_; clear hK K
                refine wpAnyIn_ready (rs := [9]) (by kernel_rfl) (by simp) (AllReadyIn.cons rfl (fun K hK => ?_) AllReadyIn.nil)
                go_simp
                refine hK _ _ ?_; clear hK K
                refine wpAnyIn_done (by kernel_rfl) ?_ _
                gi_wp2_with fail
                exact ⟨HENDK.out _ _ HB5.out HKF.out, ⟨rfl, (HENDX.out (ao, cap, x :: xl) _ rfl HJ6.out (HENDM.out _ _ HB5.out HKF.out)).2⟩⟩
            · go_simp
              refine hK _ _ ?_; clear hK K
              refine wpAnyIn_ready (rs := [0, 4]) (by kernel_rfl) (by simp) (AllReadyIn.cons rfl (fun K hK => ?_) (AllReadyIn.cons rfl (fun K hK => ?_) AllReadyIn.nil))
              · go_simp
                refine hK _ _ ?_; clear hK K
                refine wpAnyIn_ready (rs := [4]) (by kernel_rfl) (by simp) (AllReadyIn.cons rfl (fun K hK => ?_) AllReadyIn.nil)
                go_simp
                refine hK _ _ ?_; clear hK K
                refine wpAnyIn_ready (rs := [5]) (by kernel_rfl) (by simp) (AllReadyIn.cons rfl (fun K hK => ?_) AllReadyIn.nil)
                go_simp
                refine hK _ _ ?_; clear hK K
                refine wpAnyIn_ready (rs := [7]) (by kernel_rfl) (by simp) (AllReadyIn.cons rfl (fun K hK => ?_) AllReadyIn.nil)
                refine stepIn_append_any (by rfl) _ _ 66 (by rfl) A.heap.size 94 i0 (.agg #[.string ⟨#[]⟩, .slice none 0 0]) 2 40 Tryd.underlying66 HIN.out hz0 hz1 hz2 rfl (by decide) (.slice (some ⟨A.heap.size, 0, none⟩) 1 1) 1 [.string x.1, .slice xao x.2.length xcp] (by rfl) HLO.out xa xl.length xc (cellsC R) (by rfl) HNN.out HRL.out HRC.out HR1.out (by unfold maxLen; omega) (by omega) HLs.out (xl.length + 1) (by omega) ?_
                intro ao cap w5 o5 g5 b5
                have HB5 := Lib.hid (HLb.out.trans b5)
                have HC5 := Lib.hid (HJOIN.out ao cap w5 o5 HB5.out)
                have y5 : w5.cell? ⟨W.heap.size, 0, none⟩ = some (.func (.yield lp) #[] #[]) := (HB5.out.cell (p := ⟨W.heap.size, 0, none⟩) HWA.out).trans a0
                obtain ⟨fn5, tmps5, assign5, body5, hy, hR5⟩ := HY.out pre2 (ao, cap, x :: xl) w5 (HJs.out pre2 A w5 HJ2.out HB5.out) ⟨HC5.out.1, HC5.out.2, HPF.out (ao, cap, x :: xl) rfl⟩
                have HR5 := Lib.hid hR5
                unfold encE at hy
                dsimp only [List.length_cons] at hy
                clear o5 g5 b5 hR5
                refine hK _ _ ?_; clear hK K
                refine wpAnyIn_ready (rs := [8]) (by kernel_rfl) (by simp) (AllReadyIn.cons rfl (fun K hK => ?_) AllReadyIn.nil)
                go_simp
                refine (RoundIn.anyDepth rfl HR5.out).mono ?_
                rintro e6 W6 ⟨hkf, (⟨rfl, hJ6, hk6⟩ | ⟨rfl, hJx6⟩)⟩
                · have HJ6 := Lib.hid hJ6
                  have HKF := Lib.hid hkf
                  have HK6 := Lib.hid hk6
                  clear hJ6 hk6 hkf hy y5
                  refine hK _ _ ?_; clear hK K
                  refine wpAnyIn_ready (rs := [9]) (by kernel_rfl) (by simp) (AllReadyIn.cons rfl (fun K hK => ?_) AllReadyIn.nil)
                  go_simp
                  refine hK _ _ ?_; clear hK K
                  refine wpAnyIn_done (by kernel_rfl) ?_ _
                  gi_wp2_with fail
                  exact ⟨HENDK.out _ _ HB5.out HKF.out, HENDC.out _ _ HB5.out HK6.out, HEND.out (ao, cap, x :: xl) _ rfl HJ6.out (HENDC.out _ _ HB5.out HK6.out) (HENDM.out _ _ HB5.out HKF.out)⟩
                · have HJ6 := Lib.hid hJx6
                  have HKF := Lib.hid hkf
                  clear hJx6 hkf hy y5
                  refine hK _ _ ?_; clear hK K
                  refine wpAnyIn_ready (rs := [9]) (by kernel_rfl) (by simp) (AllReadyIn.cons rfl (fun K hK => ?_) AllReadyIn.nil)
                  go_simp
                  refine hK _ _ ?_; clear hK K
                  refine wpAnyIn_done (by kernel_rfl) ?_ _
                  gi_wp2_with fail
                  exact ⟨HENDK.out _ _ HB5.out HKF.out, ⟨rfl, (HENDX.out (ao, cap, x :: xl) _ rfl HJ6.out (HENDM.out _ _ HB5.out HKF.out)).2⟩⟩
              · go_simp
                refine hK _ _ ?_; clear hK K
                refine wpAnyIn_ready (rs := [0, 5]) (by kernel_rfl) (by simp) (AllReadyIn.cons rfl (fun K hK => ?_) (AllReadyIn.cons rfl (fun K hK => ?_) AllReadyIn.nil))
                · go_simp
                  refine hK _ _ ?_; clear hK K
                  refine wpAnyIn_ready (rs := [5]) (by kernel_rfl) (by simp) (AllReadyIn.cons rfl (fun K hK => ?_) AllReadyIn.nil)
                  go_simp
                  refine hK _ _ ?_; clear hK K
                  refine wpAnyIn_ready (rs := [7]) (by kernel_rfl) (by simp) (AllReadyIn.cons rfl (fun K hK => ?_) AllReadyIn.nil)
                  refine stepIn_append_any (by rfl) _ _ 66 (by rfl) A.heap.size 94 i0 (.agg #[.string ⟨#[]⟩, .slice none 0 0]) 2 40 Tryd.underlying66 HIN.out hz0 hz1 hz2 rfl (by decide) (.slice (some ⟨A.heap.size, 0, none⟩) 1 1) 1 [.string x.1, .slice xao x.2.length xcp] (by rfl) HLO.out xa xl.length xc (cellsC R) (by rfl) HNN.out HRL.out HRC.out HR1.out (by unfold maxLen; omega) (by omega) HLs.out (xl.length + 1) (by omega) ?_
                  intro ao cap w5 o5 g5 b5
                  have HB5 := Lib.hid (HLb.out.trans b5)
                  have HC5 := Lib.hid (HJOIN.out ao cap w5 o5 HB5.out)
                  have y5 : w5.cell? ⟨W.heap.size, 0, none⟩ = some (.func (.yield lp) #[] #[]) := (HB5.out.cell (p := ⟨W.heap.size, 0, none⟩) HWA.out).trans a0
                  obtain ⟨fn5, tmps5, assign5, body5, hy, hR5⟩ := HY.out pre2 (ao, cap, x :: xl) w5 (HJs.out pre2 A w5 HJ2.out HB5.out) ⟨HC5.out.1, HC5.out.2, HPF.out (ao, cap, x :: xl) rfl⟩
                  have HR5 := Lib.hid hR5
                  unfold encE at hy
                  dsimp only [List.length_cons] at hy
                  clear o5 g5 b5 hR5
                  refine hK _ _ ?_; clear hK K
                  refine wpAnyIn_ready (rs := [8]) (by kernel_rfl) (by simp) (AllReadyIn.cons rfl (fun K hK => ?_) AllReadyIn.nil)
                  go_simp
                  refine (RoundIn.anyDepth rfl HR5.out).mono ?_
                  rintro e6 W6 ⟨hkf, (⟨rfl, hJ6, hk6⟩ | ⟨rfl, hJx6⟩)⟩
                  · have HJ6 := Lib.hid hJ6
                    have HKF := Lib.hid hkf
                    have HK6 := Lib.hid hk6
                    clear hJ6 hk6 hkf hy y5
                    refine hK _ _ ?_; clear hK K
                    refine wpAnyIn_ready (rs := [9]) (by kernel_rfl) (by simp) (AllReadyIn.cons rfl (fun K hK => ?_) AllReadyIn.nil)
                    go_simp
                    refine hK _ _ ?_; clear hK K
                    refine wpAnyIn_done (by kernel_rfl) ?_ _
                    gi_wp2_with fail
                    exact ⟨HENDK.out _ _ HB5.out HKF.out, HENDC.out _ _ HB5.out HK6.out, HEND.out (ao, cap, x :: xl) _ rfl HJ6.out (HENDC.out _ _ HB5.out HK6.out) (HENDM.out _ _ HB5.out HKF.out)⟩
                  · have HJ6 := Lib.hid hJx6
                    have HKF := Lib.hid hkf
                    clear hJx6 hkf hy y5
                    refine hK _ _ ?_; clear hK K
                    refine wpAnyIn_ready (rs := [9]) (by kernel_rfl) (by simp) (AllReadyIn.cons rfl (fun K hK => ?_) AllReadyIn.nil)
                    go_simp
                    refine hK _ _ ?_; clear hK K
                    refine wpAnyIn_done (by kernel_rfl) ?_ _
                    gi_wp2_with fail
                    exact ⟨HENDK.out _ _ HB5.out HKF.out, ⟨rfl, (HENDX.out (ao, cap, x :: xl) _ rfl HJ6.out (HENDM.out _ _ HB5.out HKF.out)).2⟩⟩
                · go_simp
                  refine hK _ _ ?_; clear hK K
                  refine wpAnyIn_ready (rs := [0, 7]) (by kernel_rfl) (by simp) (AllReadyIn.cons rfl (fun K hK => ?_) (AllReadyIn.cons rfl (fun K hK => ?_) AllReadyIn.nil))
                  · go_simp
                    refine hK _ _ ?_; clear hK K
                    refine wpAnyIn_ready (rs := [7]) (by kernel_rfl) (by simp) (AllReadyIn.cons rfl (fun K hK => ?_) AllReadyIn.nil)
                    refine stepIn_append_any (by rfl) _ _ 66 (by rfl) A.heap.size 94 i0 (.agg #[.string ⟨#[]⟩, .slice none 0 0]) 2 40 Tryd.underlying66 HIN.out hz0 hz1 hz2 rfl (by decide) (.slice (some ⟨A.heap.size, 0, none⟩) 1 1) 1 [.string x.1, .slice xao x.2.length xcp] (by rfl) HLO.out xa xl.length xc (cellsC R) (by rfl) HNN.out HRL.out HRC.out HR1.out (by unfold maxLen; omega) (by omega) HLs.out (xl.length + 1) (by omega) ?_
                    intro ao cap w5 o5 g5 b5
                    have HB5 := Lib.hid (HLb.out.trans b5)
                    have HC5 := Lib.hid (HJOIN.out ao cap w5 o5 HB5.out)
                    have y5 : w5.cell? ⟨W.heap.size, 0, none⟩ = some (.func (.yield lp) #[] #[]) := (HB5.out.cell (p := ⟨W.heap.size, 0, none⟩) HWA.out).trans a0
                    obtain ⟨fn5, tmps5, assign5, body5, hy, hR5⟩ := HY.out pre2 (ao, cap, x :: xl) w5 (HJs.out pre2 A w5 HJ2.out HB5.out) ⟨HC5.out.1, HC5.out.2, HPF.out (ao, cap, x :: xl) rfl⟩
                    have HR5 := Lib.hid hR5
                    unfold encE at hy
                    dsimp only [List.length_cons] at hy
                    clear o5 g5 b5 hR5
                    refine hK _ _ ?_; clear hK K
                    refine wpAnyIn_ready (rs := [8]) (by kernel_rfl) (by simp) (AllReadyIn.cons rfl (fun K hK => ?_) AllReadyIn.nil)
                    go_simp
                    refine (RoundIn.anyDepth rfl HR5.out).mono ?_
                    rintro e6 W6 ⟨hkf, (⟨rfl, hJ6, hk6⟩ | ⟨rfl, hJx6⟩)⟩
                    · have HJ6 := Lib.hid hJ6
                      have HKF := Lib.hid hkf
                      have HK6 := Lib.hid hk6
                      clear hJ6 hk6 hkf hy y5
                      refine hK _ _ ?_; clear hK K
                      refine wpAnyIn_ready (rs := [9]) (by kernel_rfl) (by simp) (AllReadyIn.cons rfl (fun K hK => ?_) AllReadyIn.nil)
                      go_simp
                      refine hK _ _ ?_; clear hK K
                      refine wpAnyIn_done (by kernel_rfl) ?_ _
                      gi_wp2_with fail
                      exact ⟨HENDK.out _ _ HB5.out HKF.out, HENDC.out _ _ HB5.out HK6.out, HEND.out (ao, cap, x :: xl) _ rfl HJ6.out (HENDC.out _ _ HB5.out HK6.out) (HENDM.out _ _ HB5.out HKF.out)⟩
                    · have HJ6 := Lib.hid hJx6
                      have HKF := Lib.hid hkf
                      clear hJx6 hkf hy y5
                      refine hK _ _ ?_; clear hK K
                      refine wpAnyIn_ready (rs := [9]) (by kernel_rfl) (by simp) (AllReadyIn.cons rfl (fun K hK => ?_) AllReadyIn.nil)
                      go_simp
                      refine hK _ _ ?_; clear hK K
                      refine wpAnyIn_done (by kernel_rfl) ?_ _
                      gi_wp2_with fail
                      exact ⟨HENDK.out _ _ HB5.out HKF.out, ⟨rfl, (HENDX.out (ao, cap, x :: xl) _ rfl HJ6.out (HENDM.out _ _ HB5.out HKF.out)).2⟩⟩
                  · refine stepIn_append_any (by rfl) _ _ 66 (by rfl) A.heap.size 94 i0 (.agg #[.string ⟨#[]⟩, .slice none 0 0]) 2 40 Tryd.underlying66 HIN.out hz0 hz1 hz2 rfl (by decide) (.slice (some ⟨A.heap.size, 0, none⟩) 1 1) 1 [.string x.1, .slice xao x.2.length xcp] (by rfl) HLO.out xa xl.length xc (cellsC R) (by rfl) HNN.out HRL.out HRC.out HR1.out (by unfold maxLen; omega) (by omega) HLs.out (xl.length + 1) (by omega) ?_
                    intro ao cap w5 o5 g5 b5
                    have HB5 := Lib.hid (HLb.out.trans b5)
                    have HC5 := Lib.hid (HJOIN.out ao cap w5 o5 HB5.out)
                    have y5 : w5.cell? ⟨W.heap.size, 0, none⟩ = some (.func (.yield lp) #[] #[]) := (HB5.out.cell (p := ⟨W.heap.size, 0, none⟩) HWA.out).trans a0
                    obtain ⟨fn5, tmps5, assign5, body5, hy, hR5⟩ := HY.out pre2 (ao, cap, x :: xl) w5 (HJs.out pre2 A w5 HJ2.out HB5.out) ⟨HC5.out.1, HC5.out.2, HPF.out (ao, cap, x :: xl) rfl⟩
                    have HR5 := Lib.hid hR5
                    unfold encE at hy
                    dsimp only [List.length_cons] at hy
                    clear o5 g5 b5 hR5
                    refine hK _ _ ?_; clear hK K
                    refine wpAnyIn_ready (rs := [0]) (by kernel_rfl) (by simp) (AllReadyIn.cons rfl (fun K hK => ?_) AllReadyIn.nil)
                    go_simp
                    refine hK _ _ ?_; clear hK K
                    refine wpAnyIn_ready (rs := [8]) (by kernel_rfl) (by simp) (AllReadyIn.cons rfl (fun K hK => ?_) AllReadyIn.nil)
                    go_simp
                    refine (RoundIn.anyDepth rfl HR5.out).mono ?_
                    rintro e6 W6 ⟨hkf, (⟨rfl, hJ6, hk6⟩ | ⟨rfl, hJx6⟩)⟩
                    · have HJ6 := Lib.hid hJ6
                      have HKF := Lib.hid hkf
                      have HK6 := Lib.hid hk6
                      clear hJ6 hk6 hkf hy y5
                      refine hK _ _ ?_; clear hK K
                      refine wpAnyIn_ready (rs := [9]) (by kernel_rfl) (by simp) (AllReadyIn.cons rfl (fun K hK => ?_) AllReadyIn.nil)
                      go_simp
                      refine hK _ _ ?_; clear hK K
                      refine wpAnyIn_done (by kernel_rfl) ?_ _
                      gi_wp2_with fail
                      exact ⟨HENDK.out _ _ HB5.out HKF.out, HENDC.out _ _ HB5.out HK6.out, HEND.out (ao, cap, x :: xl) _ rfl HJ6.out (HENDC.out _ _ HB5.out HK6.out) (HENDM.out _ _ HB5.out HKF.out)⟩
                    · have HJ6 := Lib.hid hJx6
                      have HKF := Lib.hid hkf
                      clear hJx6 hkf hy y5
                      refine hK _ _ ?_; clear hK K
                      refine wpAnyIn_ready (rs := [9]) (by kernel_rfl) (by simp) (AllReadyIn.cons rfl (fun K hK => ?_) AllReadyIn.nil)
                      go_simp
                      refine hK _ _ ?_; clear hK K
                      refine wpAnyIn_done (by kernel_rfl) ?_ _
                      gi_wp2_with fail
                      exact ⟨HENDK.out _ _ HB5.out HKF.out, ⟨rfl, (HENDX.out (ao, cap, x :: xl) _ rfl HJ6.out (HENDM.out _ _ HB5.out HKF.out)).2⟩⟩
      case done =>
        rintro D ps A hD hS ⟨p2, h1, h2, h3, h4⟩ hK
        have HJ2 := Lib.hid h2
        have HP2 : Hid (p2.map listE ++ choicesL (n + 1) (from'.drop (k + 1)) = choicesL (n + 1) from') := Lib.hid (by rw [h1, hS, List.append_assoc, ← choices_step n from' k x HX.out]; exact HP.out)
        have HK2 := Lib.hid (HKX.out.trans h3)
        have HM2 : Hid (Marks W.heap.size (D :: ds) A) := Lib.hid (fun d hd => by
          rcases List.mem_cons.1 hd with rfl | hd
          · exact ⟨Nat.le_trans HWX.out hD, hK⟩
          · exact h4 d hd)
        have HN2 : Hid (D :: ds).Nodup := Lib.hid (by
          rw [List.nodup_cons]
          exact ⟨fun hd => by have := lt_of_heap (HMX.out D hd).2; omega, HN.out⟩)
        clear hS h1 h2 h3 h4
        gi_wp2_with fail
        refine ⟨⟨_, _, _, _, _, _, _, _, _, _, _, _, _, _, _, _, _, _, _, _, _, _, k + 1, p2, D :: ds, by omega, HJ2, HP2, HK2, HM2, HN2, rfl⟩, ?_⟩
        simp [intOf]; omega
      case stop =>
        rintro D c ps A hD hS ⟨rfl, p2, h1, h2, h4⟩ hK
        have HJ2 := Lib.hid h2
        have HP2 : Hid (p2.map listE <+: choicesL (n + 1) from') := Lib.hid (by
          obtain ⟨t, ht⟩ := hS
          rw [h1, ← HP.out, choices_step n from' k x HX.out, ← ht]
          refine ⟨t.map (x :: ·) ++ choicesL (n + 1) (from'.drop (k + 1)), ?_⟩
          simp only [List.map_append, List.append_assoc])
        have HM2 : Hid (Marks W.heap.size (D :: ds) A) := Lib.hid (fun d hd => by
          rcases List.mem_cons.1 hd with rfl | hd
          · exact ⟨Nat.le_trans HWX.out hD, hK⟩
          · exact h4 d hd)
        have HN2 : Hid (D :: ds).Nodup := Lib.hid (by
          rw [List.nodup_cons]
          exact ⟨fun hd => by have := lt_of_heap (HMX.out D hd).2; omega, HN.out⟩)
        clear hS h1 h2 h4
        gi_wp2_with fail
        refine leaves_all (by simp) W.heap.size (Jx p2) (HJxa.out p2) ?_ (D :: ds) A HN2.out HM2.out HJ2.out
        intro w' h
        exact ⟨_, results_none rfl _ _ _, ⟨_, rfl⟩, .inr ⟨p2, HP2.out, h⟩⟩
    · have hke : k = from'.length := by omega
      have E := Lib.hid (show pre.map listE = choicesL (n + 1) from' by have := HP.out; rw [hke, choices_end, List.append_nil] at this; exact this)
      clear hke
      gi_wp2_with fail
      refine leaves_all (by simp) W.heap.size (J pre) (HJa.out pre) ?_ ds wr HN.out HM.out HJ.out
      intro w' h
      exact ⟨_, results_none rfl _ _ _, ⟨_, rfl⟩, .inl ⟨pre, E.out, h⟩⟩

theorem choices_all : ∀ n, n ≤ 1048576 → TellsAll n
  | 0, _ => fun m from' fo fc Bn Bf w _ _ _ hbn _ => choices_tells0 m from' Bn Bf w hbn
  | n + 1, h => choices_next n (by omega) (choices_all n (by omega))
end Go.Proofs.YtmomjhnbhckhpaaDoor
