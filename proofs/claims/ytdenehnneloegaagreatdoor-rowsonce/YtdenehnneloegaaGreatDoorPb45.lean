/-
  Texts of these rows' proofs, laid one behind the other: RwPartsOf, RwLookOf, RwLooks.
  Conditions: those of each theorem.
-/
import Derived.Maps.Own
import Derived.Maps.OwnOps
import Derived.Maps.OwnSet
import Derived.Maps.Views
import Derived.IntWalk
import Derived.WalkArith
import Derived.OwnWalk
import Derived.Deep.Cut
import Derived.Test.YtdenehnneloegaaGreatDoorProg
import Derived.Test.YtdenehnneloegaaGreatDoorPb25
import Derived.Test.YtdenehnneloegaaGreatDoorPb28
import Derived.Test.YtdenehnneloegaaGreatDoorPb6
import Derived.Test.YtdenehnneloegaaGreatDoorPb44
import Derived.Test.YtdenehnneloegaaGreatDoorPb42
import Derived.Deep.OwnRows
import Derived.WalkKit
import Derived.WalkMore
import Derived.Lib.Hide
import Derived.Laws.OwnMore
import Derived.Test.YtdenehnneloegaaGreatDoorPb27
import Derived.RegionTactic
import Derived.Deep.RegionHeld3
namespace Go.Proofs.YtdenehnneloegaaGreatDoor
open Go.RowKit Go.Shelf Go.Maps
set_option linter.unusedVariables false
/-- columns with their places -/
def placeG (cs : List Int) : PL := cs.zipIdx.map fun p => ((p.2 : Int), p.1)
theorem placeG_snoc (cs : List Int) (k : Nat) (c : Int) (h : cs[k]? = some c) : placeG (cs.take (k + 1)) = placeG (cs.take k) ++ [((k : Int), c)] := by
  obtain ⟨hk, e⟩ := List.getElem?_eq_some_iff.1 h
  unfold placeG
  rw [List.take_succ_eq_append_getElem hk, e, List.zipIdx_append, List.map_append]
  simp [show min k cs.length = k from by omega]
theorem place_upto (cs : List Int) (hnd : cs.Nodup) (z a : Int) : ∀ k, k ≤ cs.length → (firstB (placeG (cs.take k)) z = some a ↔ ∃ c : Nat, c < k ∧ a = c ∧ cs[c]? = some z)
  | 0, _ => by
    constructor
    · intro h; simp [placeG, firstB] at h
    · rintro ⟨c, h, _⟩; omega
  | k + 1, hk => by
    have ih := place_upto cs hnd z a k (by omega)
    have hc : cs[k]? = some cs[k] := List.getElem?_eq_getElem (by omega)
    have inj : ∀ c, c < k → cs[c]? = some z → cs[k] ≠ z := fun c h1 h2 e => by
      rw [← e] at h2
      obtain ⟨h3, h4⟩ := List.getElem?_eq_some_iff.1 h2
      have := List.getElem_inj (h₀ := h3) (h₁ := (by omega : k < cs.length)) hnd
      have := this.1 h4
      omega
    rw [placeG_snoc cs k _ hc, firstB_snoc]
    dsimp only
    cases hf : firstB (placeG (cs.take k)) z with
    | some b =>
      rw [hf] at ih
      obtain ⟨c, h1, h2, h3⟩ := (place_upto cs hnd z b k (by omega)).1 hf
      show some b = some a ↔ _
      rw [ih]
      constructor
      · rintro ⟨d, e1, e2, e3⟩; exact ⟨d, by omega, e2, e3⟩
      · rintro ⟨d, e1, e2, e3⟩
        rcases Nat.lt_or_ge d k with hl | hl
        · exact ⟨d, hl, e2, e3⟩
        · have : d = k := by omega
          subst this
          rw [hc] at e3
          exact absurd (Option.some.inj e3) (inj c h1 h3)
    | none =>
      rw [hf] at ih
      rw [Option.none_or]
      by_cases e : cs[k] = z
      · rw [if_pos e]
        constructor
        · intro h
          exact ⟨k, by omega, (Option.some.inj h).symm, by rw [hc, e]⟩
        · rintro ⟨d, e1, e2, e3⟩
          rcases Nat.lt_or_ge d k with hl | hl
          · exact absurd e (inj d hl e3)
          · have : d = k := by omega
            subst this; rw [e2]
      · rw [if_neg e]
        constructor
        · intro h; cases h
        · rintro ⟨d, e1, e2, e3⟩
          rcases Nat.lt_or_ge d k with hl | hl
          · have := ih.2 ⟨d, hl, e2, e3⟩; cases this
          · have : d = k := by omega
            subst this
            rw [hc] at e3
            exact absurd (Option.some.inj e3) e
theorem place_is (cs : List Int) (hnd : cs.Nodup) (z a : Int) : firstB (placeG cs) z = some a ↔ ∃ c : Nat, a = c ∧ cs[c]? = some z := by
  have h := place_upto cs hnd z a cs.length (Nat.le_refl _)
  rw [List.take_length] at h
  rw [h]
  constructor
  · rintro ⟨c, _, h2, h3⟩; exact ⟨c, h2, h3⟩
  · rintro ⟨c, h2, h3⟩; exact ⟨c, (List.getElem?_eq_some_iff.1 h3).1, h2, h3⟩
def placeN (cs : List Int) (col : Nat) : Option Nat := (firstB (placeG cs) (col : Int)).map Int.toNat
theorem placeN_is (cs : List Int) (hnd : cs.Nodup) (col c : Nat) : placeN cs col = some c ↔ cs[c]? = some (col : Int) := by
  unfold placeN
  rw [Option.map_eq_some_iff]
  constructor
  · rintro ⟨a, h1, h2⟩
    obtain ⟨d, rfl, h3⟩ := (place_is cs hnd _ _).1 h1
    have : d = c := by omega
    subst this; exact h3
  · intro h
    exact ⟨(c : Int), (place_is cs hnd _ _).2 ⟨c, rfl, h⟩, by omega⟩
theorem partO_none {cs : List Int} {r : List ByteArray} {k : Nat} (h : firstB (placeG cs) (k : Int) = none) : partO (placeN cs) r k = none := by
  unfold partO placeN
  rw [h]; rfl
theorem partO_at {cs : List Int} {r : List ByteArray} {k : Nat} {a : Int} {s : ByteArray} (hnd : cs.Nodup) (h : firstB (placeG cs) (k : Int) = some a) (hs : r[k]? = some s) : partO (placeN cs) r k = if s.size = 0 then none else some (a, s) := by
  obtain ⟨c, rfl, h3⟩ := (place_is cs hnd _ _).1 h
  unfold partO
  rw [(placeN_is cs hnd k c).2 h3, hs]
  rfl
theorem partsU_len (m : Nat → Option Nat) (r : List ByteArray) (n : Nat) : (partsU m r n).length ≤ n := by
  unfold partsU
  exact Nat.le_trans (List.length_filterMap_le _ _) (by simp)
theorem lit_cellPt (w : World) (a b : Value) (T : TypeId) : ∀ (j : Nat) u, [a, b][j]? = some u → (w.alloc (.cells #[a, b] T)).cell? ((⟨w.heap.size, 0, none⟩ : Addr).add j) = some u := lit_cellP w a b T
theorem OwnPt.there {w : World} {base q cp : Nat} {go : Option Addr} {l : PtL} (h : OwnPt w base (.slice go q cp) l) (hq : q ≠ 0) : ∃ g, go = some ⟨g, 0, none⟩ ∧ base ≤ g := by
  rcases h.2 with ⟨h0, h1⟩ | ⟨g, cap, cur, h0, hb, hg, r1, r2, r3, r4⟩
  · cases h0; exact absurd rfl hq
  · cases h0; exact ⟨g, rfl, hb⟩
theorem OwnPt.room {w : World} {base q cp : Nat} {go : Option Addr} {l : PtL} (h : OwnPt w base (.slice go q cp) l) : q = l.length ∧ l.length ≤ cp ∧ PtsAt w go l := by
  obtain ⟨ao, cap, e, h1, _, _, h2⟩ := h.ptsAt
  cases e
  exact ⟨rfl, h2, h1⟩
set_option maxRecDepth 100000 in
set_option maxHeartbeats 4000000 in
theorem partsOfR_any (ho : Option Addr) (hc : Nat) (hd : List ByteArray) (ro : Option Addr) (rc : Nat) (rs : List (List ByteArray)) (row : Nat) (r : List ByteArray) (cs : List Int) (m kk : Nat) (D : DataW Unit) (w : World) (hr : rs[row]? = some r) (hT : TabIn w ho hc hd ro rc rs) (hnd : cs.Nodup) (hcl : cs.length ≤ 1024)
    (hM : w.ownsMap Tryz.prog 3 (plainElem Tryz.prog 3) m kk D) (hF : FirstIs D (placeG cs)) :
    Calls Tryz.prog 138 #[.agg #[.slice ho hd.length hc, .slice ro rs.length rc], .int .i64 (row : Int), .map (some m)] w fun e w' => ∃ (po : Option Addr) (pc : Nat), e = .returned (.slice po (partsK 0 (cs.map (cellR r))).length pc) ∧ PtsAt w' po (partsK 0 (cs.map (cellR r))) ∧ (partsK 0 (cs.map (cellR r))).length ≤ pc ∧ Below w.heap.size w w' := by
  have hinfo : (Tryz.prog.info? 129).map (fun i => (i.zero, i.size, i.bytes)) = some (some (.agg #[.int .i64 0, .string ⟨#[]⟩]), 2, 24) := by kernel_rfl
  obtain ⟨i0, hi, hz0, hz1, hz2⟩ := info_parts2 hinfo
  have HI := Lib.hid hi
  have hrn : rs.length ≤ 400 := hT.rl
  have hrl : r.length ≤ 60 := hT.el r (List.mem_of_getElem? hr)
  have hrow : row < rs.length := (List.getElem?_eq_some_iff.1 hr).1
  obtain ⟨W, HW⟩ : ∃ W, Hid (W = w.alloc (TabO ho hd.length hc ro rs.length rc)) := ⟨_, Lib.hid rfl⟩
  have hB0 : Below w.heap.size w W := by rw [HW.out]; exact one_below _ _
  have hN : W.heap[w.heap.size]? = some (TabO ho hd.length hc ro rs.length rc) := by rw [HW.out]; exact World.alloc_heap_new _ _
  have HN := Lib.hid hN
  have HB0 := Lib.hid hB0
  have CC := Lib.hid (fun (c : Int) V (h : Below W.heap.size W V) => tcell_any ho hd.length hc ro rc rs (row : Int) c V (by omega) (fun x hx => ⟨by have := hT.el x hx; omega, fun c hc => by have := hT.cells x hx c hc; omega⟩) (hT.rows.kept (below_up hB0 h)))
  have HCe : Hid (∀ (k : Nat) s, r[k]? = some s → cellL rs (row : Int) (k : Int) = s) := Lib.hid (fun k s hs => by
    rw [cell_row_is hr]; unfold cellR; rw [if_pos (by omega), Int.toNat_natCast, hs]; rfl)
  have HMo := Lib.hid (fun V (h : Below W.heap.size W V) => ownsMap_below hM (below_up hB0 h))
  have HFi := Lib.hid hF
  have HPm := Lib.hid (parts_perm cs (placeN cs) r (placeN_is cs hnd))
  have HRi := Lib.hid (parts_rise (cs.map (cellR r)) 0)
  obtain ⟨O, HQ⟩ : ∃ O : Nat → PtL, Hid (O = fun k => partsU (placeN cs) r k) := ⟨_, Lib.hid rfl⟩
  have HZ : Hid (O 0 = []) := Lib.hid (by rw [HQ.out]; rfl)
  have HLe : Hid (∀ k, (O k).length ≤ k) := Lib.hid (fun k => by rw [HQ.out]; exact partsU_len _ _ k)
  have HNn : Hid (∀ k : Nat, firstB (placeG cs) (k : Int) = none → O (k + 1) = O k) := Lib.hid (fun k h => by rw [HQ.out]; show partsU _ _ (k + 1) = partsU _ _ k; rw [partsU_next, partO_none h]; simp)
  have HNs : Hid (∀ (k : Nat) a s, firstB (placeG cs) (k : Int) = some a → r[k]? = some s → O (k + 1) = if s.size = 0 then O k else O k ++ [(a, s)]) := Lib.hid (fun k a s h1 h2 => by
    rw [HQ.out]; show partsU _ _ (k + 1) = if s.size = 0 then partsU _ _ k else partsU _ _ k ++ [(a, s)]
    rw [partsU_next, partO_at hnd h1 h2]; split <;> simp)
  have HAll : Hid (partsU (placeN cs) r r.length = O r.length) := Lib.hid (by rw [HQ.out])
  rw [HAll.out] at HPm
  generalize partsK 0 (cs.map (cellR r)) = R at HPm HRi ⊢
  have hS0 : ∀ (V : World) base g n cap, (O r.length).length = n → OwnPt V base (.slice (some ⟨g, 0, none⟩) n cap) (O r.length) → Calls Tryz.prog 188 #[.slice (some ⟨g, 0, none⟩) n cap, .func (.func 189) #[] #[]] V fun e w' => e = .returned (.tuple #[]) ∧ OwnPt w' base (.slice (some ⟨g, 0, none⟩) n cap) R ∧ V.grownBy w' (some g) :=
    fun V base g n cap hl h => ptsort_any base g n cap (O r.length) R V (by have := HLe.out r.length; omega) hl HPm.out HRi.out h
  have CS := Lib.hid hS0
  have HRl := Lib.hid HPm.out.length_eq
  obtain ⟨a0, a1⟩ := tabs hN
  obtain ⟨A, rfl, hA, yo, yc, hrc⟩ : ∃ A, ro = some A ∧ A.block < w.heap.size ∧ ∃ yo yc, W.cell? (A.add row) = some (.slice yo r.length yc) := by
    rcases (hT.rows.kept hB0) with h | ⟨A, h1, h2, h3⟩
    · rw [h] at hr; simp at hr
    · obtain ⟨yo, yc, h4, _⟩ := h3 row r hr
      rcases hT.rows with h | ⟨A', k1, k2, _⟩
      · rw [h] at hr; simp at hr
      · rw [h1] at k1; cases k1; exact ⟨A, h1, k2, yo, yc, h4⟩
  clear hi hinfo hT hM hF hnd hN hB0 hr hS0
  go_enter Tryz.func138, Tryz.ntmps138
  go_upto_region 1 with fail
  rw [show w.alloc (Obj.cells #[Value.slice ho hd.length hc, Value.slice (some A) rs.length rc] 25) = W from HW.out.symm]
  have HWl : Hid (Below W.heap.size W W) := Lib.hid (Below.refl _ _)
  have HT0 : Hid (OwnPt W W.heap.size (.slice none 0 0) (O 0)) := Lib.hid (by rw [HZ.out]; exact World.ownsRow_nil _ _ _ _)
  have hL0 : (O 0).length = 0 := by rw [HZ.out]; rfl
  go_wp2_with fail
  go_loopw [7, 18] (fun v i wr => ∃ (k q cp : Nat) (go : Option Addr), k ≤ r.length ∧ i = .int .i64 k ∧ v = .slice go q cp ∧ Hid (q = (O k).length) ∧ Hid (Below W.heap.size W wr) ∧ Hid (OwnPt wr W.heap.size (.slice go q cp) (O k))) (fun _ i _ => r.length - (intOf i).toNat)
  case atStart => exact ⟨0, 0, 0, none, Nat.zero_le _, rfl, rfl, Lib.hid hL0.symm, HWl, HT0⟩
  case round =>
    clear a0 a1 hrc HT0 HWl
    obtain ⟨k, q, cp, go, hk, rfl, rfl, HQ2, HB, HT⟩ := hrel
    by_cases hlt : k < r.length
    · obtain ⟨s, hs⟩ : ∃ s, r[k]? = some s := ⟨_, List.getElem?_eq_getElem hlt⟩
      have C1 := Lib.hid (CC.out (k : Int) wr HB.out)
      rw [HCe.out k s hs] at C1
      have HN0 := Lib.hid (HNn.out k)
      have HN1 := Lib.hid (fun a h => HNs.out k a s h hs)
      have hlook := first_look (HMo.out wr HB.out) HFi.out (k : Int) (Go.WalkArith.wf_i64 (by omega))
      obtain ⟨c0, c1⟩ := tabs ((HB.out.block _ (lt_of_heap HN.out)).trans HN.out)
      generalize firstB (placeG cs) (k : Int) = fx at hlook HN0 HN1
      clear hs
      cases fx with
      | none =>
        have HT2 : Hid (OwnPt wr W.heap.size (.slice go q cp) (O (k + 1))) := Lib.hid (by rw [HN0.out rfl]; exact HT.out)
        have HQ3 : Hid (q = (O (k + 1)).length) := Lib.hid (by rw [HN0.out rfl]; exact HQ2.out)
        clear HN0 HN1 C1 c0 c1
        go_wp2_with fail
        go_roundw
        case rel => exact ⟨k + 1, q, cp, go, by omega, by go_num, rfl, HQ3, HB, HT2⟩
        case measure => simp [intOf]; omega
      | some a =>
        have hN := HN1.out a rfl
        by_cases hxe : s.size = 0
        · rw [if_pos hxe] at hN
          have HT2 : Hid (OwnPt wr W.heap.size (.slice go q cp) (O (k + 1))) := Lib.hid (by rw [hN]; exact HT.out)
          have HQ3 : Hid (q = (O (k + 1)).length) := Lib.hid (by rw [hN]; exact HQ2.out)
          have hbe : s.toList.isEmpty = true := by
            rw [ba_toList]
            have : s.data.toList.length = 0 := by simpa using hxe
            rw [List.eq_nil_of_length_eq_zero this]; rfl
          clear HN0 HN1 hN hxe
          go_wp2_with fail
          refine C1.out.mono ?_; rintro e w2 ⟨rfl, b2⟩
          have HB2 := Lib.hid (below_up HB.out b2)
          have HT3 : Hid (OwnPt w2 W.heap.size (.slice go q cp) (O (k + 1))) := Lib.hid (HT2.out.kept b2)
          clear b2 c0 c1 HT2
          go_wp2_with fail
          go_roundw
          case rel => exact ⟨k + 1, q, cp, go, by omega, by go_num, rfl, HQ3, HB2, HT3⟩
          case measure => simp [intOf]; omega
        · rw [if_neg hxe] at hN
          have HST := Lib.hid hN
          have hne : s.toList.isEmpty = false := by
            cases h : s.toList.isEmpty with
            | false => rfl
            | true =>
              exfalso
              apply hxe
              have h6 : s.data.toList = [] := by rw [← ba_toList]; exact List.isEmpty_iff.1 h
              have : s.data.toList.length = 0 := by rw [h6]; rfl
              simpa using this
          clear HN0 HN1 hxe hN
          go_wp2_with fail
          refine C1.out.mono ?_; rintro e w2 ⟨rfl, b2⟩
          have HB2 := Lib.hid (below_up HB.out b2)
          have HT0 : Hid (w2.ownsRow W.heap.size 129 2 (.slice go q cp) q (cellsPt (O k))) := Lib.hid (by have := HT.out; unfold OwnPt at this; rw [← HQ2.out] at this; exact ownsRow_below this b2)
          have HT1 := Lib.hid (HT0.out.alloc (.cells #[Value.int .i64 a, Value.string s] 129))
          have hbs : W.heap.size ≤ (w2.alloc (.cells #[Value.int .i64 a, Value.string s] 129)).heap.size := by have := HB2.out.size; simp; omega
          have hq : q ≤ k := by rw [HQ2.out]; exact HLe.out k
          clear b2 c0 c1
          go_wp2_with (at_builtin; refine wpList_append_own _ rfl _ _ 127 rfl W.heap.size 129 i0 (.agg #[.int .i64 0, .string ⟨#[]⟩]) 2 24 Tryz.underlying127 HI.out hz0 hz1 hz2 rfl (by decide) _ _ _ rfl HT1.out ⟨w2.heap.size, 0, none⟩ 1 1 [Value.int .i64 a, Value.string s] rfl rfl (lit_cellPt w2 _ _ _) (fun u hu => by simp at hu; rcases hu with rfl | rfl <;> rfl) (by unfold maxLen; omega) (by omega) hbs ?_)
          intro v' w3 hown' hgrow _
          obtain ⟨g, gc, rfl⟩ := ownsRow_succ hown'
          have HB3 := Lib.hid ((HB2.out.alloc HB2.out.size (.cells #[Value.int .i64 a, Value.string s] 129)).grown hgrow (by have := HB2.out.size; simp; omega) (fun j h => (HT0.out.lt j h).1))
          have HQ3 : Hid (q + 1 = (O (k + 1)).length) := Lib.hid (by rw [HST.out, List.length_append, ← HQ2.out]; rfl)
          have HT3 : Hid (OwnPt w3 W.heap.size (.slice (some ⟨g, 0, none⟩) (q + 1) gc) (O (k + 1))) := Lib.hid (by
            unfold OwnPt; rw [← HQ3.out, HST.out, cellsPt_app]; exact hown')
          clear hown' hgrow hbs hlook HT0 HT1
          go_wp2_with fail
          go_roundw
          case rel => exact ⟨k + 1, q + 1, gc, _, by omega, by go_num, rfl, HQ3, HB3, HT3⟩
          case measure => simp [intOf]; omega
    · obtain rfl : k = r.length := by omega
      by_cases hq0 : q = 0
      · subst hq0
        have hnil : Hid (R = []) := Lib.hid (List.eq_nil_of_length_eq_zero (by rw [HRl.out]; exact HQ2.out.symm))
        have CN := Lib.hid (fun W => AnyF.slices_SortFunc_none laysFq go cp (.func (.func 189) #[] #[]) W)
        have HE := Lib.hid (below_up HB0.out HB.out)
        clear HB HT HRl
        go_wp2_with fail
        refine (CN.out _).mono ?_; rintro e w2 ⟨rfl, rfl⟩
        go_wp2_with fail
        go_ret
        rw [hnil.out]
        exact ⟨go, cp, rfl, .inl rfl, Nat.zero_le _, HE.out⟩
      · obtain ⟨g, rfl, hgl⟩ := HT.out.there hq0
        have CSq := Lib.hid (CS.out wr W.heap.size g q cp HQ2.out.symm HT.out)
        go_wp2_with fail
        refine CSq.out.mono ?_; rintro e w2 ⟨rfl, h1, h2⟩
        have HE := Lib.hid ((below_up HB0.out HB.out).grown h2 (by have := HB.out.size; have := HB0.out.size; omega) (fun j h => by cases h; have := HB0.out.size; omega))
        have HO := Lib.hid h1
        have HRq : Hid (R.length = q) := Lib.hid (by rw [HRl.out, HQ2.out])
        clear h1 h2
        go_wp2_with fail
        go_ret
        obtain ⟨e1, e2, e3⟩ := HO.out.room
        exact ⟨some ⟨g, 0, none⟩, cp, by subst e1; rfl, e3, e2, HE.out⟩
end Go.Proofs.YtdenehnneloegaaGreatDoor
namespace Go.Proofs.YtdenehnneloegaaGreatDoor
open Go.RowKit Go.Shelf Go.Maps
set_option linter.unusedVariables false
set_option maxRecDepth 100000 in
set_option maxHeartbeats 1000000 in
theorem lookOf_any (ho : Option Addr) (hc : Nat) (hd : List ByteArray) (ro : Option Addr) (rc : Nat) (rs : List (List ByteArray)) (cs : List Int) (m kk : Nat) (D : DataW Unit) (w : World) (hT : TabIn w ho hc hd ro rc rs) (hnd : cs.Nodup) (hcl : cs.length ≤ 1024)
    (hM : w.ownsMap Tryz.prog 3 (plainElem Tryz.prog 3) m kk D) (hF : FirstIs D (placeG cs)) :
    Calls Tryz.prog 90 #[.agg #[.slice ho hd.length hc, .slice ro rs.length rc], .map (some m)] w fun e w' => ∃ ko, e = .returned (.slice ko rs.length rs.length) ∧ LookAt w' ko (rs.map fun r => partsK 0 (cs.map (cellR r))) ∧ (∀ A, ko = some A → A.block < w'.heap.size) ∧ Below w.heap.size w w' := by
  have hinfo : (Tryz.prog.info? 127).map (fun i => (i.zero, i.size, i.bytes)) = some (some (.slice none 0 0), 1, 24) := by kernel_rfl
  obtain ⟨i0, hi, hz0, hz1, hz2⟩ := info_parts2 hinfo
  have HI := Lib.hid hi
  have hm : rs.length ≤ maxLen := by have := hT.rl; unfold maxLen; omega
  have hn4 : rs.length ≤ 400 := hT.rl
  obtain ⟨W, HW⟩ : ∃ W, Hid (W = w.alloc (TabO ho hd.length hc ro rs.length rc)) := ⟨_, Lib.hid rfl⟩
  have HNew := Lib.hid (World.alloc_heap_new w (TabO ho hd.length hc ro rs.length rc))
  rw [← HW.out] at HNew
  have HB0 := Lib.hid (one_below w (TabO ho hd.length hc ro rs.length rc))
  rw [← HW.out] at HB0
  have CP := Lib.hid (fun (k : Nat) (r : List ByteArray) (hr : rs[k]? = some r) V (h : Below W.heap.size W V) => partsOfR_any ho hc hd ro rc rs k r cs m kk D V hr (hT.kept (below_up HB0.out h)) hnd hcl (ownsMap_below (ownsMap_below hM HB0.out) h) hF)
  have hsz : W.heap.size = w.heap.size + 1 := by rw [HW.out]; simp
  have HSz := Lib.hid hsz
  clear hi hinfo hT hsz hM hF hnd
  obtain ⟨KL, hKL⟩ : ∃ KL : List ByteArray → PtL, Hid (KL = fun r => partsK 0 (cs.map (cellR r))) := ⟨_, Lib.hid rfl⟩
  rw [← hKL.out]
  have HKL : Hid (∀ r, partsK 0 (cs.map (cellR r)) = KL r) := Lib.hid (fun r => by rw [hKL.out])
  obtain ⟨a0, a1⟩ := tabs HNew.out
  go_enter Tryz.func90, Tryz.ntmps90
  go_upto_region 1 with fail
  rw [show w.alloc (Obj.cells #[Value.slice ho hd.length hc, Value.slice ro rs.length rc] 25) = W from HW.out.symm]
  go_wp2_with (at_make; refine wpList_make_full _ rfl _ _ 62 rfl W.heap.size 127 i0 (.slice none 0 0) 1 Tryz.underlying62 HI.out hz0 hz1 .i64 .i64 (rs.length : Int) (rs.length : Int) rs.length rfl rfl rfl rfl (by rw [hz2]; omega) hm (Nat.le_refl _) ?_; intro w2 hown hgrow)
  have HB2 : Hid (Below W.heap.size W w2) := Lib.hid ((Below.refl _ W).grown hgrow (Nat.le_refl _) (fun k h => by cases h))
  have HO : Hid (w2.ownsRow W.heap.size 127 1 (.slice (some ⟨W.heap.size, 0, none⟩) rs.length rs.length) rs.length (madeC [] rs.length)) := Lib.hid (by
    rw [madeC_zero]; rw [Nat.mul_one] at hown; rw [← toList_madeCells_one]; exact hown)
  obtain ⟨g, hg⟩ : ∃ g, g = W.heap.size := ⟨_, rfl⟩
  rw [← hg] at HO ⊢
  have HG := Lib.hid hg
  clear hown hgrow hg a0 a1
  go_wp2_with fail
  go_loopw [13] (fun i wr => ∃ (k : Nat) (vs : List Value), k ≤ rs.length ∧ i = .int .i64 k ∧ Hid (vs.length = k) ∧ Hid (Below W.heap.size W wr) ∧ Hid (wr.ownsRow g 127 1 (.slice (some ⟨g, 0, none⟩) rs.length rs.length) rs.length (madeC vs rs.length)) ∧ Hid (∀ (i : Nat) v c, vs[i]? = some v → rs[i]? = some c → PtV wr (KL c) v)) (fun i _ => rs.length - (intOf i).toNat)
  case atStart => exact ⟨0, [], Nat.zero_le _, rfl, Lib.hid rfl, HB2, HO, Lib.hid (fun i v c h => by simp at h)⟩
  case round =>
    obtain ⟨k, vs, hk, rfl, HVl, HB, HO, HP⟩ := hrel
    by_cases hlt : k < rs.length
    · obtain ⟨c, hcc⟩ : ∃ c, rs[k]? = some c := ⟨_, List.getElem?_eq_getElem hlt⟩
      have C1 := Lib.hid (CP.out k c hcc wr HB.out)
      rw [HKL.out] at C1
      have HCc := Lib.hid hcc
      obtain ⟨c0, c1⟩ := tabs ((HB.out.block _ (lt_of_heap HNew.out)).trans HNew.out)
      clear hcc
      go_wp2_with fail
      refine C1.out.mono ?_; rintro e w3 ⟨po, pc, rfl, hpa, hpc, b3⟩
      have HV : Hid (PtV w3 (KL c) (.slice po (KL c).length pc)) := Lib.hid ⟨po, pc, rfl, hpa, hpc⟩
      have HB3 := Lib.hid (below_up HB.out b3)
      have HO3 := Lib.hid (ownsRow_below HO.out b3)
      have HP3 : Hid (∀ (i : Nat) v c, vs[i]? = some v → rs[i]? = some c → PtV w3 (KL c) v) := Lib.hid (fun i v c h1 h2 => (HP.out i v c h1 h2).kept b3)
      clear hpa b3 c0 c1 hpc C1
      have hml : (madeC vs rs.length).length = rs.length := madeC_len vs _ (by rw [HVl.out]; omega)
      have hno : ∀ v ∈ madeC vs rs.length, ∃ a b c, v = .slice a b c := madeC_ptv w3 vs _ (fun v hv => by
        obtain ⟨i, hi⟩ := List.mem_iff_getElem?.1 hv
        have hil := (List.getElem?_eq_some_iff.1 hi).1
        rw [HVl.out] at hil
        obtain ⟨c', hc'⟩ : ∃ c', rs[i]? = some c' := ⟨_, List.getElem?_eq_getElem (by omega)⟩
        exact ⟨_, HP3.out i v c' hi hc'⟩)
      have hcell : w3.cell? ⟨g, k, none⟩ = some ((madeC vs rs.length)[k]'(by omega)) := by
        rw [HO3.out.cellAt k (by omega), List.getElem?_eq_getElem]
      have hfr : w3.frozen? ⟨g, k, none⟩ = false := HO3.out.frozenAt k
      generalize (madeC vs rs.length)[k]'(by omega) = old at hcell
      obtain ⟨v, hv⟩ : ∃ v, v = Value.slice po (KL c).length pc := ⟨_, rfl⟩
      have HO4 := Lib.hid (HO3.out.stored k v).1
      rw [show (madeC vs rs.length).set k v = madeC (vs ++ [v]) rs.length from by have := madeC_next vs rs.length v (by rw [HVl.out]; omega); rwa [HVl.out] at this] at HO4
      have HB4 := Lib.hid (HB3.out.setCell (p := ⟨g, k, none⟩) (by rw [HG.out]; exact Nat.le_refl _) v)
      have HP4 : Hid (∀ (i : Nat) u c, (vs ++ [v])[i]? = some u → rs[i]? = some c → PtV (w3.setCell ⟨g, k, none⟩ v) (KL c) u) := Lib.hid (fun i u c' h1 h2 => by
        rw [List.getElem?_append] at h1
        split at h1
        · exact (HP3.out i u c' h1 h2).put HO3.out hno
        · rename_i hge
          have hle : i < (vs ++ [v]).length := by
            have := (List.getElem?_eq_some_iff.1 h1).1
            simp at this ⊢; omega
          have hik : i = k := by rw [HVl.out] at hge; simp at hle; rw [HVl.out] at hle; omega
          subst hik
          rw [HVl.out, Nat.sub_self] at h1
          simp at h1; subst h1
          rw [HCc.out] at h2; cases h2
          rw [← hv] at HV
          exact HV.out.put HO3.out hno)
      have HVl4 : Hid ((vs ++ [v]).length = k + 1) := Lib.hid (by simp [HVl.out])
      subst hv
      clear hml HP HP3 HO HO3 HB HB3 HVl hno
      go_wp2_with fail
      go_roundw
      case rel => exact ⟨k + 1, _, by omega, by go_num, HVl4, HB4, HO4, HP4⟩
      case measure => simp [intOf]; omega
    · obtain rfl : k = rs.length := by omega
      have HE : Hid (LookAt wr (some ⟨g, 0, none⟩) (rs.map KL)) := Lib.hid (by
        refine .inr ⟨⟨g, 0, none⟩, rfl, (HO.out.lt g rfl).2, fun i L hL => ?_⟩
        have hi : i < rs.length := by have := (List.getElem?_eq_some_iff.1 hL).1; simpa using this
        rw [List.getElem?_map] at hL
        obtain ⟨c, hc, rfl⟩ := Option.map_eq_some_iff.1 hL
        obtain ⟨v, hv⟩ : ∃ v, vs[i]? = some v := ⟨_, List.getElem?_eq_getElem (by rw [HVl.out]; exact hi)⟩
        obtain ⟨po, pc, rfl, h2, h3⟩ := HP.out i v c hv hc
        refine ⟨po, pc, ?_, h2, h3⟩
        have e : (⟨g, 0, none⟩ : Addr).add i = ⟨g, i, none⟩ := by unfold Addr.add; split <;> simp_all
        rw [e, HO.out.cellAt i (by rw [Nat.mul_one]; exact hi), madeC_all vs _ HVl.out]; exact hv)
      have HGl := Lib.hid ((HO.out.lt g rfl).2)
      clear HO HP
      go_wp2_with fail
      go_ret
      exact ⟨_, rfl, HE.out, (fun A h => by injection h with h; subst h; exact HGl.out), below_up HB0.out HB.out⟩
end Go.Proofs.YtdenehnneloegaaGreatDoor
namespace Go.Proofs.YtdenehnneloegaaGreatDoor
open Go.RowKit Go.Shelf Go.Maps
set_option linter.unusedVariables false
set_option maxRecDepth 100000 in
theorem run_makeMap_hintR (n : Int) (w : World) : (Instr.makeMap 120 (some (.int .i64 n))).run Tryz.prog w = .ok (.map (some w.heap.size)) (w.alloc (.map #[] 0)) := by
  simp [Instr.makeMap, run_underlying Tryz.underlying120, asInt, newObj, go_sem]
  rfl
theorem place_new (cs : List Int) (hnd : cs.Nodup) (k : Nat) (z : Int) (h : cs[k]? = some z) : firstB (placeG (cs.take k)) z = none := by
  cases hf : firstB (placeG (cs.take k)) z with
  | none => rfl
  | some a =>
    have hk := (List.getElem?_eq_some_iff.1 h).1
    obtain ⟨c, h1, _, h3⟩ := (place_upto cs hnd z a k (by omega)).1 hf
    obtain ⟨h4, h5⟩ := List.getElem?_eq_some_iff.1 h
    obtain ⟨h6, h7⟩ := List.getElem?_eq_some_iff.1 h3
    have := (List.getElem_inj (h₀ := h4) (h₁ := h6) hnd).1 (h5.trans h7.symm)
    omega
theorem first_next {D : DataW Unit} {cs : List Int} {k : Nat} {z : Int} (h : FirstIs D (placeG (cs.take k))) (hnd : cs.Nodup) (hz : cs[k]? = some z) : FirstIs (D.put (.int .i64 z) (.lit (.int .i64 (k : Int)))) (placeG (cs.take (k + 1))) := by
  rw [placeG_snoc cs k z hz]
  exact h.put ((k : Int), z) (place_new cs hnd k z hz)
theorem look_rowsA (ra : List (List ByteArray)) (l : PL) : (ra.map fun r => partsK 0 ((l.map Prod.fst).map (cellR r))) = partsA ra l := by
  refine List.ext_getElem? fun i => ?_
  rw [List.getElem?_map]
  rcases Nat.lt_or_ge i ra.length with h | h
  · rw [partsA_at ra l i h, List.getElem?_eq_getElem h, keyAt_row (List.getElem?_eq_getElem h)]; rfl
  · rw [List.getElem?_eq_none h, List.getElem?_eq_none (by rw [partsA_len]; exact h)]; rfl
theorem look_rowsB (rb : List (List ByteArray)) (l : PL) : (rb.map fun r => partsK 0 ((l.map Prod.snd).map (cellR r))) = partsB rb l := by
  refine List.ext_getElem? fun i => ?_
  rw [List.getElem?_map]
  rcases Nat.lt_or_ge i rb.length with h | h
  · rw [partsB_at rb l i h, List.getElem?_eq_getElem h, keyAt_row (List.getElem?_eq_getElem h)]; rfl
  · rw [List.getElem?_eq_none h, List.getElem?_eq_none (by rw [partsB_len]; exact h)]; rfl
set_option maxRecDepth 100000 in
set_option maxHeartbeats 4000000 in
theorem looks_any (ho : Option Addr) (hc : Nat) (ha : List ByteArray) (ro : Option Addr) (rc : Nat) (ra : List (List ByteArray)) (bo : Option Addr) (bc : Nat) (hb : List ByteArray) (so : Option Addr) (sc : Nat) (rb : List (List ByteArray)) (lo : Option Addr) (lc : Nat) (l : PL) (w : World)
    (hA : TabIn w ho hc ha ro rc ra) (hB : TabIn w bo bc hb so sc rb) (hP : PairsAt w lo l) (hok : okP l) (hll : l.length ≤ 1024) (hn1 : (l.map Prod.fst).Nodup) (hn2 : (l.map Prod.snd).Nodup) :
    Calls Tryz.prog 39 #[.agg #[.slice ho ha.length hc, .slice ro ra.length rc], .agg #[.slice bo hb.length bc, .slice so rb.length sc], .slice lo l.length lc] w fun e w' => ∃ (xo yo : Option Addr), e = .returned (.tuple #[.slice xo ra.length ra.length, .slice yo rb.length rb.length]) ∧ LookAt w' xo (partsA ra l) ∧ LookAt w' yo (partsB rb l) ∧ (∀ A, xo = some A → A.block < w'.heap.size) ∧ (∀ A, yo = some A → A.block < w'.heap.size) ∧ Below w.heap.size w w' := by
  obtain ⟨W, HW⟩ : ∃ W, Hid (W = (w.alloc (TabO ho ha.length hc ro ra.length rc)).alloc (TabO bo hb.length bc so rb.length sc)) := ⟨_, Lib.hid rfl⟩
  have hBW : Below w.heap.size w W := by rw [HW.out]; exact two_below _ _ _
  have HB0 := Lib.hid hBW
  have hN := two_new w (TabO ho ha.length hc ro ra.length rc) (TabO bo hb.length bc so rb.length sc)
  rw [← HW.out] at hN
  have box : Hid (∀ V, Below W.heap.size W V → (V.cell? ⟨w.heap.size, 0, none⟩ = some (.slice ho ha.length hc) ∧ V.cell? ⟨w.heap.size, 1, none⟩ = some (.slice ro ra.length rc)) ∧ V.cell? ⟨w.heap.size + 1, 0, none⟩ = some (.slice bo hb.length bc) ∧ V.cell? ⟨w.heap.size + 1, 1, none⟩ = some (.slice so rb.length sc)) := Lib.hid (fun V hV => ⟨tabs ((hV.block _ (lt_of_heap hN.2.1)).trans hN.2.1), tabs ((hV.block _ (lt_of_heap hN.2.2)).trans hN.2.2)⟩)
  have HLA := Lib.hid (fun (P k : Nat) (D : DataW Unit) V (h : Below W.heap.size W V) (hM : V.ownsMap Tryz.prog 3 (plainElem Tryz.prog 3) P k D) (hF : FirstIs D (placeG (l.map Prod.fst))) => lookOf_any ho hc ha ro rc ra (l.map Prod.fst) P k D V ((hA.kept hBW).kept h) hn1 (by rw [List.length_map]; exact hll) hM hF)
  have HLB := Lib.hid (fun (P k : Nat) (D : DataW Unit) V (h : Below W.heap.size W V) (hM : V.ownsMap Tryz.prog 3 (plainElem Tryz.prog 3) P k D) (hF : FirstIs D (placeG (l.map Prod.snd))) => lookOf_any bo bc hb so sc rb (l.map Prod.snd) P k D V ((hB.kept hBW).kept h) hn2 (by rw [List.length_map]; exact hll) hM hF)
  rw [look_rowsA] at HLA
  rw [look_rowsB] at HLB
  have HPo := Lib.hid (hP.kept hBW)
  have HOk := Lib.hid hok
  have HN1 := Lib.hid hn1
  have HN2 := Lib.hid hn2
  have hmm := run_makeMap_hintR
  clear hA hB hP hok hN hBW hn1 hn2
  go_enter Tryz.func39, Tryz.ntmps39
  go_upto_region 1 with fail
  rw [show (w.alloc (Obj.cells #[Value.slice ho ha.length hc, Value.slice ro ra.length rc] 25)).alloc (Obj.cells #[Value.slice bo hb.length bc, Value.slice so rb.length sc] 25) = W from HW.out.symm]
  go_cut [8, 9] from 12 to 17 (fun u v wc => Hid (∃ P Q : Nat, u = .map (some P) ∧ v = .map (some Q) ∧ W.heap.size ≤ P ∧ W.heap.size ≤ Q ∧ P ≠ Q ∧ wc.ownsMap Tryz.prog 3 (plainElem Tryz.prog 3) P 0 (.map [] : DataW Unit) ∧ wc.ownsMap Tryz.prog 3 (plainElem Tryz.prog 3) Q 0 (.map [] : DataW Unit)) ∧ Hid (Below W.heap.size W wc))
  case first =>
    have m1 := World.ownsMap_made (H := Unit) W Tryz.prog 3 (plainElem Tryz.prog 3)
    have m2 := World.ownsMap_made (H := Unit) (W.alloc (.map #[] 0)) Tryz.prog 3 (plainElem Tryz.prog 3)
    have m3 := m1.alloc (.map #[] 0)
    rw [World.size_alloc] at m2
    have HM := Lib.hid (And.intro m2 m3)
    have HB2 := Lib.hid (two_below W (.map #[] 0) (.map #[] 0))
    clear m1 m2 m3
    go_region
    all_goals
      go_wp2_with fail
      go_meet
      first
        | exact ⟨Lib.hid ⟨_, _, rfl, rfl, Nat.le_refl _, Nat.le_succ _, by omega, HM.out.2.drew, HM.out.1.drew⟩, Lib.hid HB2.out.drew⟩
        | exact ⟨Lib.hid ⟨_, _, rfl, rfl, Nat.le_succ _, Nat.le_refl _, by omega, HM.out.1.drew, HM.out.2.drew⟩, Lib.hid HB2.out.drew⟩
  case rest =>
    obtain ⟨HJ, HB⟩ := hcut
    rename World => w1
    obtain ⟨P, Q, rfl, rfl, hP, hQ, hPQ, mP, mQ⟩ := HJ.out
    have HMP := Lib.hid mP
    have HMQ := Lib.hid mQ
    have HPQ := Lib.hid (And.intro hP (And.intro hQ hPQ))
    have HFa : Hid (FirstIs (.map []) (placeG ((l.map Prod.fst).take 0))) := Lib.hid FirstIs.empty
    have HFb : Hid (FirstIs (.map []) (placeG ((l.map Prod.snd).take 0))) := Lib.hid FirstIs.empty
    clear HJ hP hQ hPQ mP mQ hmm
    go_wp2_with fail
    go_loopw [20] (fun i wr => ∃ (k : Nat) (DA DB : DataW Unit), k ≤ l.length ∧ i = .int .i64 k ∧ Hid (Below W.heap.size W wr) ∧ Hid (wr.ownsMap Tryz.prog 3 (plainElem Tryz.prog 3) P k DA) ∧ Hid (wr.ownsMap Tryz.prog 3 (plainElem Tryz.prog 3) Q k DB) ∧ Hid (FirstIs DA (placeG ((l.map Prod.fst).take k))) ∧ Hid (FirstIs DB (placeG ((l.map Prod.snd).take k)))) (fun i _ => l.length - (intOf i).toNat)
    case atStart => exact ⟨0, _, _, Nat.zero_le _, rfl, HB, HMP, HMQ, HFa, HFb⟩
    case round =>
      clear HB HMP HMQ HFa HFb
      obtain ⟨k, DA, DB, hk, rfl, HB, HMP, HMQ, HFa, HFb⟩ := hrel
      by_cases hlt : k < l.length
      · obtain ⟨⟨x1, x2⟩, hx⟩ : ∃ x, l[k]? = some x := ⟨_, List.getElem?_eq_getElem hlt⟩
        rcases (HPo.out.kept HB.out) with h0 | ⟨b, o, rfl, hA, hcell⟩
        · rw [h0] at hlt; simp at hlt
        obtain ⟨hc1, hc2⟩ := hcell k _ hx
        dsimp only at hc1 hc2
        have hW := HOk.out _ (List.mem_of_getElem? hx)
        have HFa2 := Lib.hid (first_next HFa.out HN1.out (z := x1) (by rw [List.getElem?_map, hx]; rfl))
        have HFb2 := Lib.hid (first_next HFb.out HN2.out (z := x2) (by rw [List.getElem?_map, hx]; rfl))
        have HKA := Lib.hid (keyOf_int_mk (P := Tryz.prog) Tryz.underlying3 hW.1)
        have HKB := Lib.hid (keyOf_int_mk (P := Tryz.prog) Tryz.underlying3 hW.2)
        have HE := Lib.hid (plainElem_int (H := Unit) (P := Tryz.prog) (e := 3) (a := (k : Int)) Tryz.underlying3 (Go.WalkArith.wf_i64 (by omega)))
        have hkm : k < maxLen := by unfold maxLen; omega
        obtain ⟨V, HV⟩ : ∃ V, Hid (V = wr.alloc (.cells #[.int .i64 x1, .int .i64 x2] 45)) := ⟨_, Lib.hid rfl⟩
        have hVh : V.heap[wr.heap.size]? = some (.cells #[.int .i64 x1, .int .i64 x2] 45 (0, 0)) := by rw [HV.out]; exact World.alloc_heap_new _ _
        have z0 : V.cell? ⟨wr.heap.size, 0, none⟩ = some (.int .i64 x1) := (Lib.cell_of_heap hVh 0).trans rfl
        have z1 : V.cell? ⟨wr.heap.size, 1, none⟩ = some (.int .i64 x2) := (Lib.cell_of_heap hVh 1).trans rfl
        have hbV : Below wr.heap.size wr V := by rw [HV.out]; exact one_below _ _
        have hneP : wr.heap.size ≠ P := by have := HMP.out.lt; omega
        have hneQ : wr.heap.size ≠ Q := by have := HMQ.out.lt; omega
        have HMP := Lib.hid (ownsMap_below HMP.out hbV).drew
        have HMQ := Lib.hid (ownsMap_below HMQ.out hbV).drew
        have HBel := Lib.hid (below_up HB.out hbV).drew
        have HBox : Hid (V.drew.heap[wr.heap.size]? = some (.cells #[.int .i64 x1, .int .i64 x2] 45 (0, 0))) := Lib.hid hVh
        have HNe := Lib.hid (And.intro hneP hneQ)
        clear hcell hx hbV hVh HFa HFb HB hW hneP hneQ
        go_upto_region 5 with fail
        rw [← HV.out]
        have upP := fun (A : World) (h : A.ownsMap Tryz.prog 3 (plainElem Tryz.prog 3) P k DA) => h.update (int_keyed Tryz.underlying3) Tryz.underlying120 hkm HKA.out HE.out
        have upQ := fun (A : World) (h : A.ownsMap Tryz.prog 3 (plainElem Tryz.prog 3) Q k DB) => h.update (int_keyed Tryz.underlying3) Tryz.underlying120 hkm HKB.out HE.out
        have nP := fun (e : some Q = some P) => HPQ.out.2.2 (Option.some.inj e).symm
        have nQ := fun (e : some P = some Q) => HPQ.out.2.2 (Option.some.inj e)
        obtain ⟨wP, rP, oP, gP⟩ := upP _ HMP.out
        obtain ⟨wQ, rQ, oQ, gQ⟩ := upQ _ HMQ.out
        obtain ⟨wPQ, rPQ, oPQ, gPQ⟩ := upQ _ (HMQ.out.kept gP nP)
        obtain ⟨wQP, rQP, oQP, gQP⟩ := upP _ (HMP.out.kept gQ nQ)
        have boxP := (gP.block _ (lt_of_heap HBox.out) (fun e => HNe.out.1 (Option.some.inj e))).trans HBox.out
        have boxQ := (gQ.block _ (lt_of_heap HBox.out) (fun e => HNe.out.2 (Option.some.inj e))).trans HBox.out
        have p0 : wP.cell? ⟨wr.heap.size, 0, none⟩ = some (.int .i64 x1) := (Lib.cell_of_heap boxP 0).trans rfl
        have p1 : wP.cell? ⟨wr.heap.size, 1, none⟩ = some (.int .i64 x2) := (Lib.cell_of_heap boxP 1).trans rfl
        have q0 : wQ.cell? ⟨wr.heap.size, 0, none⟩ = some (.int .i64 x1) := (Lib.cell_of_heap boxQ 0).trans rfl
        have q1 : wQ.cell? ⟨wr.heap.size, 1, none⟩ = some (.int .i64 x2) := (Lib.cell_of_heap boxQ 1).trans rfl
        have bP := HBel.out.grown gP HBel.out.size (fun j h => by cases h; exact HPQ.out.1)
        have bQ := HBel.out.grown gQ HBel.out.size (fun j h => by cases h; exact HPQ.out.2.1)
        have R1 : Hid (Hid (Below W.heap.size W wPQ) ∧ Hid (wPQ.ownsMap Tryz.prog 3 (plainElem Tryz.prog 3) P (k + 1) (DA.put (.int .i64 x1) (.lit (.int .i64 (k : Int))))) ∧ Hid (wPQ.ownsMap Tryz.prog 3 (plainElem Tryz.prog 3) Q (k + 1) (DB.put (.int .i64 x2) (.lit (.int .i64 (k : Int)))))) :=
          Lib.hid ⟨Lib.hid (bP.grown gPQ bP.size (fun j h => by cases h; exact HPQ.out.2.1)), Lib.hid (oP.kept gPQ nQ), Lib.hid oPQ⟩
        have R2 : Hid (Hid (Below W.heap.size W wQP) ∧ Hid (wQP.ownsMap Tryz.prog 3 (plainElem Tryz.prog 3) P (k + 1) (DA.put (.int .i64 x1) (.lit (.int .i64 (k : Int))))) ∧ Hid (wQP.ownsMap Tryz.prog 3 (plainElem Tryz.prog 3) Q (k + 1) (DB.put (.int .i64 x2) (.lit (.int .i64 (k : Int)))))) :=
          Lib.hid ⟨Lib.hid (bQ.grown gQP bQ.size (fun j h => by cases h; exact HPQ.out.1)), Lib.hid oQP, Lib.hid (oQ.kept gQP nP)⟩
        clear upP upQ nP nQ oP oQ oPQ oQP gP gQ gPQ gQP boxP boxQ bP bQ
        go_region
        all_goals
          go_wp2_with fail
          go_roundw
          case rel => first | exact ⟨k + 1, _, _, by omega, by go_num, R1.out.1, R1.out.2.1, R1.out.2.2, HFa2, HFb2⟩ | exact ⟨k + 1, _, _, by omega, by go_num, R2.out.1, R2.out.2.1, R2.out.2.2, HFa2, HFb2⟩
          case measure => simp [intOf]; omega
      · obtain rfl : k = l.length := by omega
        rw [List.take_of_length_le (by simp)] at HFa HFb
        have HBel : Hid (Below W.heap.size W wr.drew) := Lib.hid HB.out.drew
        have HMP := Lib.hid HMP.out.drew
        have HMQ := Lib.hid HMQ.out.drew
        obtain ⟨⟨a0, a1⟩, b0, b1⟩ := box.out wr HB.out
        clear HB HPo HOk HN1 HN2 HPQ
        go_upto_region 7 with fail
        go_region_held3 (fun V => (V.cell? ⟨w.heap.size, 0, none⟩ = some (.slice ho ha.length hc) ∧ V.cell? ⟨w.heap.size, 1, none⟩ = some (.slice ro ra.length rc)) ∧ V.cell? ⟨w.heap.size + 1, 0, none⟩ = some (.slice bo hb.length bc) ∧ V.cell? ⟨w.heap.size + 1, 1, none⟩ = some (.slice so rb.length sc)) ((refine ⟨⟨?_, ?_⟩, ?_, ?_⟩ <;> first | assumption | go_keep))
          (first
            | (go_at_call 90; refine (HLA.out P l.length DA _ HBel.out HMP.out HFa.out).mono ?_; rintro e w5 ⟨xo, rfl, hx, hxb, b5⟩; have HBel := Lib.hid (below_up HBel.out b5); obtain ⟨⟨a0, a1⟩, b0, b1⟩ := box.out w5 HBel.out; have HMQ := Lib.hid (ownsMap_below HMQ.out b5); have HX := Lib.hid hx; have HXb := Lib.hid hxb; clear hx hxb b5 HLA)
            | (go_at_call 90; refine (HLB.out Q l.length DB _ HBel.out HMQ.out HFb.out).mono ?_; rintro e w6 ⟨yo, rfl, hy, hyb, b6⟩; have HBel := Lib.hid (below_up HBel.out b6); obtain ⟨⟨a0, a1⟩, b0, b1⟩ := box.out w6 HBel.out; have HX := Lib.hid (HX.out.kept b6); have HXb := Lib.hid (fun A e => Nat.lt_of_lt_of_le (HXb.out A e) b6.size); have HY := Lib.hid hy; have HYb := Lib.hid hyb; clear hy hyb b6 HLB))
        rename_i hHeld
        clear hHeld
        have HE := Lib.hid (And.intro HX.out (And.intro HY.out (And.intro HXb.out (And.intro HYb.out (below_up HB0.out HBel.out)))))
        clear HX HY HXb HYb HBel HMP HMQ HFa HFb a0 a1 b0 b1
        go_wp2_with fail
        refine bodyPost_ret (v := .tuple #[.slice xo ra.length ra.length, .slice yo rb.length rb.length]) (by simp [results, Tryz.results39, go_sem]) rfl ?_
        exact ⟨xo, yo, rfl, HE.out⟩
end Go.Proofs.YtdenehnneloegaaGreatDoor
