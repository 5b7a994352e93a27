/-
  The reference: all choices of so many of some texts, in order, behind a head.
  Conditions: at most 12 texts, heads and choices of together at most 8.
-/
import Derived.Deep.OwnRows
import Derived.Deep.RegionHeld3
import Derived.WalkKit
import Derived.WalkMore
import Derived.IntWalk
import Derived.WalkArith
import Derived.OwnWalk
import Derived.Lib.Hide
import Derived.Test.YtmomjhnbhckhpaaDoorProg
import Derived.Test.YtmomjhnbhckhpaaDoorKMath3
import Derived.Test.YtmomjhnbhckhpaaDoorKRef1
namespace Go.Proofs.YtmomjhnbhckhpaaDoor
open Go.RowKit Go.Shelf Go.Deep
set_option linter.unusedVariables false

def SrcS (w : World) (ao : Option Addr) (cap : Nat) (xs : List ByteArray) : Prop := (ao = none → xs.length = 0 ∧ cap = 0) ∧ ∀ ad, ao = some ad → ∀ (j : Nat) u, (xs.map Value.string)[j]? = some u → w.cell? (ad.add j) = some u
theorem srcS_of {w : World} {ao : Option Addr} {cap : Nat} {xs : List ByteArray} (h : StrRow w ao xs) (hn : ao = none → cap = 0) : SrcS w ao cap xs := by
  refine ⟨fun e => ⟨?_, hn e⟩, fun ad e j u hu => ?_⟩
  · rcases h with h | ⟨A, h1, _⟩
    · rw [h]; rfl
    · rw [e] at h1; cases h1
  · rw [List.getElem?_map] at hu
    obtain ⟨c, hc, rfl⟩ := Option.map_eq_some_iff.1 hu
    rcases h with h | ⟨A, h1, _, h3⟩
    · subst h; simp at hc
    · rw [e] at h1; cases h1; exact h3 j c hc
theorem onesS (xs : List ByteArray) : ∀ u ∈ xs.map Value.string, u.oneCell' = true := fun u hu => by
  obtain ⟨c, _, rfl⟩ := List.mem_map.1 hu; rfl
theorem lit_keptS {V V' : World} {g b n c : Nat} {p : ByteArray} {T : TypeId} (hb : V.heap[b]? = some (.cells #[.string p] T (0, 0))) (hg : V.grownBy V' (Value.slice (some ⟨g, 0, none⟩) n c).ownBlock) (hne : b ≠ g) : StrRow V' (some ⟨b, 0, none⟩) [p] := by
  have h1 := (hg.block b (lt_of_heap hb) (fun e => hne (by simpa [Value.ownBlock] using e))).trans hb
  refine .inr ⟨_, rfl, lt_of_heap h1, fun i q hq => ?_⟩
  match i, hq with
  | 0, hq => cases hq; exact (Lib.cell_of_heap h1 0).trans rfl
theorem row_drop {w : World} {A : Addr} {xs : List ByteArray} (h : StrRow w (some A) xs) (m : Nat) (hm : 0 < m) : StrRow w (some ⟨A.block, A.off + m, none⟩) (xs.drop m) := by
  rcases h with h | ⟨B, h1, h2, h3⟩
  · subst h; exact .inl (by simp)
  · cases h1
    refine .inr ⟨_, rfl, h2, fun i c hc => ?_⟩
    rw [List.getElem?_drop] at hc
    have := h3 (m + i) c hc
    rw [show (⟨A.block, A.off + m, none⟩ : Addr).add i = A.add (m + i) by
      unfold Addr.add
      split <;> split <;> simp_all <;> omega]
    exact this
/-- an append of a slice that may be nil -/
theorem wpList_append_K {P : Program} {w : World} {ops : Array Oper} {rest : List Oper} {o : Oper} {a : Act} {Q : Exit → Act → World → Prop} (hgd : o.guard = none) (s x : Operand) (t : TypeId)
    (ho : o.op = .call { callee := .builtin .append, args := #[s, x], argTypes := #[t, t] })
    (base : Nat) (e : TypeId) (i : TypeInfo) (z : Value) (size bytes : Nat) (ht : P.underlying t = some (.slice e)) (hi : P.info? e = some i) (hz : i.zero = some z)
    (hsize : i.size = size) (hby : i.bytes = bytes) (hzs : z.cells.size = size) (hsz : 0 < size)
    (v : Value) (n : Nat) (xs : List Value) (hs : a.eval s = v) (hown : w.ownsRow base e size v n xs)
    (xo : Option Addr) (m c : Nat) (news : List Value) (hx : a.eval x = .slice xo m c) (hnone : xo = none → m = 0 ∧ c = 0) (hl : news.length = m * size) (hnews : ∀ ad, xo = some ad → ∀ (j : Nat) u, news[j]? = some u → w.cell? (ad.add j) = some u) (h1 : ∀ u ∈ news, u.oneCell' = true)
    (h63 : n + m ≤ maxLen) (hbytes : (n + m) * bytes ≤ 140737488355328) (hbase : base ≤ w.heap.size)
    (h : ∀ v' w', w'.ownsRow base e size v' (n + m) (xs ++ news) → w.grownBy w' v.ownBlock → wpList P ops Q rest (a.put o.dst v') w') : wpList P ops Q (o :: rest) a w := by
  cases xo with
  | none =>
    obtain ⟨rfl, rfl⟩ := hnone rfl
    have hnil : news = [] := List.eq_nil_of_length_eq_zero (by rw [hl]; simp)
    subst hnil
    refine wpList_append_own_none hgd s x t ho base e i size ht hi v n xs hs hown hx (h v w (by simpa using hown) ⟨rfl, rfl, rfl, Nat.le_refl _, fun _ _ _ => rfl⟩)
  | some ad => exact wpList_append_own w hgd s x t ho base e i z size bytes ht hi hz hsize hby hzs hsz v n xs hs hown ad m c news hx hl (hnews ad rfl) h1 h63 hbytes hbase (fun v' w' h2 h3 _ => h v' w' h2 h3)
def RowsCap (L : List (List ByteArray)) (w : World) (e : Ending) (w' : World) : Prop := ∃ (co : Option Addr) (cap : Nat), e = .returned (.slice co L.length cap) ∧ (L.length ≤ cap ∧ (co = none → cap = 0)) ∧ RowsT w' co L ∧ Below w.heap.size w w'

set_option maxRecDepth 100000 in
set_option maxHeartbeats 4000000 in
theorem rchoices_any : ∀ (n : Nat) (ao : Option Addr) (ca0 : Nat) (head : List ByteArray) (bo : Option Addr) (cb : Nat) (rest : List ByteArray) (w : World), head.length + n ≤ 8 → (head.length ≤ ca0 ∧ (ao = none → ca0 = 0)) → rest.length ≤ 12 → rest.length ≤ cb → StrRow w ao head → TyS w ao → StrRow w bo rest →
    Calls Tryd.prog 43 #[.slice ao head.length ca0, .slice bo rest.length cb, .int .i64 (n : Int)] w (RowsCap ((choicesL n rest).map fun c => head ++ c) w)
  | 0, ao, ca0, head, bo, cb, rest, w, hn, hca, hr, hcb, hH, hTy, hR => by
    have HH := Lib.hid (And.intro hH (And.intro hca hTy))
    clear hTy
    rw [choices_zero]
    clear hH hR hca
    go_enter Tryd.func43, Tryd.ntmps43
    go_wp2_with fail
    go_ret
    refine ⟨some ⟨w.heap.size, 0, none⟩, 1, rfl, ⟨by simp, fun e => by cases e⟩, .inr ⟨_, rfl, by simp, fun i r hi => ?_⟩, one_below w _⟩
    match i, hi with
    | 0, hi =>
      simp at hi
      subst hi
      exact ⟨_, (cell_row (World.alloc_heap_new w _) 0).trans rfl, ao, ⟨ca0, HH.out.2.1⟩, rfl, HH.out.1.kept (one_below w _), HH.out.2.2.kept (one_below w _)⟩
  | n + 1, ao, ca0, head, bo, cb, rest, w, hn, hca, hr, hcb, hH, hTy, hR => by
    have ih := Lib.hid (rchoices_any n)
    have hinfo : (Tryd.prog.info? 9).map (fun i => (i.zero, i.size, i.bytes)) = some (some (.string ⟨#[]⟩), 1, 16) := by kernel_rfl
    obtain ⟨i0, hi, hz0, hz1, hz2⟩ := info_parts2 hinfo
    have HIn := Lib.hid hi
    have hinfo2 : (Tryd.prog.info? 22).map (fun i => (i.zero, i.size, i.bytes)) = some (some (.slice none 0 0), 1, 24) := by kernel_rfl
    obtain ⟨i1, hi1, hy0, hy1, hy2⟩ := info_parts2 hinfo2
    have HIn1 := Lib.hid hi1
    have HH := Lib.hid hH
    have HR := Lib.hid hR
    have HCa := Lib.hid hca
    have hfew : 2 ^ rest.length ≤ 4096 := Nat.le_trans (Nat.pow_le_pow_right (by decide) hr) (by decide)
    have HFew := Lib.hid (fun i h => Nat.le_trans (done_few head rest n i h) hfew)
    have HNext := Lib.hid (fun i x hx => done_next head rest n i x hx)
    rw [← done_all]
    obtain ⟨D, hD⟩ : ∃ D, D = doneL head rest n := ⟨_, rfl⟩
    rw [← hD] at HFew HNext ⊢
    have HD0 : Hid (D 0 = []) := Lib.hid (by rw [hD]; rfl)
    obtain ⟨z, hz⟩ : ∃ z : Int, z = ((n + 1 : Nat) : Int) := ⟨_, rfl⟩
    rw [← hz]
    have e0 : (z == 0) = false := by rw [beq_eq_false_iff_ne]; omega
    have ew : IntKind.i64.wrap (z - 1) = (n : Int) := by rw [IntWalk.i64_in _ (by omega)]; omega
    clear hD hz hi hinfo hi1 hinfo2 hH hR hca hfew
    go_enter Tryd.func43, Tryd.ntmps43
    go_wp2_with fail
    go_loopw [7, 8] (fun v i wr => ∃ (k q cap : Nat) (co : Option Addr), k ≤ rest.length ∧ v = .slice co q cap ∧ i = .int .i64 k ∧ Hid (q = (D k).length) ∧ Hid (Below w.heap.size w wr) ∧ Hid (∃ vs, wr.ownsRow w.heap.size 22 1 (.slice co q cap) q vs ∧ FitR wr (D k) vs)) (fun _ i _ => rest.length - (intOf i).toNat)
    case atStart => exact ⟨0, 0, 0, none, Nat.zero_le _, rfl, rfl, Lib.hid (by rw [HD0.out]; rfl), Lib.hid (Below.refl _ _), Lib.hid ⟨[], World.ownsRow_nil _ _ _ _, by rw [HD0.out]; exact fitR_nil _⟩⟩
    case round =>
      obtain ⟨k, q, cap, co, hk, rfl, rfl, HQ, HB, HO⟩ := hrel
      by_cases hlt : k < rest.length
      · obtain ⟨x, hx⟩ : ∃ x, rest[k]? = some x := ⟨_, List.getElem?_eq_getElem hlt⟩
        have HNk := Lib.hid (HNext.out k x hx)
        rcases HR.out with h0 | ⟨A, rfl, hA, hcell⟩
        · rw [h0] at hlt; simp at hlt
        have hAr : A.block < wr.heap.size := Nat.lt_of_lt_of_le hA HB.out.size
        have HX : Hid (∀ V, Below wr.heap.size wr V → V.cell? (A.add k) = some (.string x)) := Lib.hid (fun V h => ((below_up HB.out h).cell (p := A.add k) (by rw [add_block]; exact hA)).trans (hcell k x hx))
        have ca := HX.out wr (Below.refl _ _)
        have HS1 := Lib.hid (fun V (h : Below wr.heap.size wr V) => srcS_of (HH.out.kept (below_up HB.out h)) HCa.out.2)
        have hqf : q ≤ 4096 := by rw [HQ.out]; exact HFew.out k hk
        have q0 : 0 + head.length ≤ maxLen := by unfold maxLen; omega
        have q3 : (0 + head.length) * 16 ≤ 140737488355328 := by omega
        have q4 : head.length + 1 ≤ maxLen := by unfold maxLen; omega
        have q5 : (head.length + 1) * 16 ≤ 140737488355328 := by omega
        have R0 := Below.refl wr.heap.size wr
        have HVe : Hid (Below wr.heap.size wr (wr.alloc (.cells #[] 9)).drew) := Lib.hid ((R0.alloc (Nat.le_refl _) _).drew)
        have HSe := Lib.hid (HS1.out _ HVe.out)
        have HVA : Hid (Below wr.heap.size wr ((wr.alloc (.cells #[] 9)).alloc (.cells #[.string x] 9)).drew) := Lib.hid (((R0.alloc (Nat.le_refl _) _).alloc (R0.alloc (Nat.le_refl _) _).size _).drew)
        have HSA := Lib.hid (HS1.out _ HVA.out)
        have HOA := Lib.hid ((own_emptyI wr.heap.size wr 9 (Nat.le_refl _)).alloc (.cells #[.string x] 9))
        have HLA : Hid (((wr.alloc (.cells #[] 9)).alloc (.cells #[.string x] 9)).drew.heap[wr.heap.size + 1]? = some (.cells #[.string x] 9 (0, 0))) := Lib.hid (by
          have := World.alloc_heap_new (wr.alloc (.cells #[] 9)) (.cells #[.string x] 9)
          rw [World.size_alloc] at this; exact this)
        have HVC : Hid (Below wr.heap.size wr ((wr.alloc (.cells #[.string x] 9)).alloc (.cells #[] 9)).drew) := Lib.hid (((R0.alloc (Nat.le_refl _) _).alloc (R0.alloc (Nat.le_refl _) _).size _).drew)
        have HSC := Lib.hid (HS1.out _ HVC.out)
        have HOC : Hid (((wr.alloc (.cells #[.string x] 9)).alloc (.cells #[] 9)).ownsRow wr.heap.size 9 1 (.slice (some ⟨wr.heap.size + 1, 0, none⟩) 0 0) 0 []) := Lib.hid (by
          have := own_emptyI wr.heap.size (wr.alloc (.cells #[.string x] 9)) 9 (by rw [World.size_alloc]; omega)
          rw [World.size_alloc] at this; exact this)
        have HLC : Hid (((wr.alloc (.cells #[.string x] 9)).alloc (.cells #[] 9)).drew.heap[wr.heap.size]? = some (.cells #[.string x] 9 (0, 0))) := Lib.hid (by
          have h1 := World.alloc_heap_new wr (.cells #[.string x] 9)
          exact ((one_below (wr.alloc (.cells #[.string x] 9)) (.cells #[] 9)).block _ (lt_of_heap h1)).trans h1)
        have HRd : Hid (∀ V, Below wr.heap.size wr V → StrRow V (some A) rest) := Lib.hid (fun V h => HR.out.kept (below_up HB.out h))
        clear hcell hx R0
        go_upto_region 7 with fail
        go_cut [9] from 20 to 28 (fun v wx => Hid (∃ jo jc, v = .slice jo (head.length + 1) jc ∧ (head.length + 1 ≤ jc ∧ (jo = none → jc = 0)) ∧ StrRow wx jo (head ++ [x]) ∧ TyS wx jo) ∧ Hid (Below wr.heap.size wr wx))
        case first =>
          go_region_held3 (fun V => V.cell? (A.add k) = some (.string x)) (first | assumption | go_keep)
                (first
                  | (refine step_append_gd (by rfl) _ _ 22 (by rfl) wr.heap.size 9 i0 (.string ⟨#[]⟩) 1 16 Tryd.underlying22 HIn.out hz0 hz1 hz2 rfl (by decide) (.slice ko head.length kc) head.length (head.map Value.string) (by rfl) (HO6.out.alloc (.cells #[.string x] 9)) (some ⟨w6.heap.size, 0, none⟩) 1 1 [.string x] (by rfl) HN6.out.1 (by simp) HN6.out.2 (onesS [x]) q4 q5 HV6.out.size (head.length + 1) rfl ((head ++ [x]).map Value.string) (by simp) ?_; intro jo2 jc2 w7 hown _ hbel; have B7 := Lib.hid (HV6.out.trans hbel); have HJ := Lib.hid (And.intro (own_cap hown) (And.intro (own_strsK hown rfl) (own_ty hown))); have ca := HX.out w7 B7.out; clear hown hbel)
                  | (refine step_append_gd (by rfl) _ _ 22 (by rfl) wr.heap.size 9 i0 (.string ⟨#[]⟩) 1 16 Tryd.underlying22 HIn.out hz0 hz1 hz2 rfl (by decide) (.slice ko head.length kc) head.length (head.map Value.string) (by rfl) (HO6.out.alloc (.cells #[.string x] 9)) (some ⟨w6.heap.size, 0, none⟩) 1 1 [.string x] (by rfl) HN6.out.1 (by simp) HN6.out.2 (onesS [x]) q4 q5 HV7.out.size (head.length + 1) rfl ((head ++ [x]).map Value.string) (by simp) ?_; intro jo2 jc2 w7 hown _ hbel; have B7 := Lib.hid (HV7.out.trans hbel); have HJ := Lib.hid (And.intro (own_cap hown) (And.intro (own_strsK hown rfl) (own_ty hown))); have ca := HX.out w7 B7.out; clear hown hbel)
                  | (refine step_append_gd (by rfl) _ _ 22 (by rfl) wr.heap.size 9 i0 (.string ⟨#[]⟩) 1 16 Tryd.underlying22 HIn.out hz0 hz1 hz2 rfl (by decide) (.slice ko head.length kc) head.length (head.map Value.string) (by rfl) HOA6.out (some ⟨wr.heap.size + 1, 0, none⟩) 1 1 [.string x] (by rfl) HNA6.out.1 (by simp) HNA6.out.2 (onesS [x]) q4 q5 HPA.out.size (head.length + 1) rfl ((head ++ [x]).map Value.string) (by simp) ?_; intro jo2 jc2 w7 hown _ hbel; have B7 := Lib.hid (HPA.out.trans hbel); have HJ := Lib.hid (And.intro (own_cap hown) (And.intro (own_strsK hown rfl) (own_ty hown))); have ca := HX.out w7 B7.out; clear hown hbel)
                  | (refine step_append_gd (by rfl) _ _ 22 (by rfl) wr.heap.size 9 i0 (.string ⟨#[]⟩) 1 16 Tryd.underlying22 HIn.out hz0 hz1 hz2 rfl (by decide) (.slice ko head.length kc) head.length (head.map Value.string) (by rfl) HOA6.out (some ⟨wr.heap.size + 1, 0, none⟩) 1 1 [.string x] (by rfl) HNA6.out.1 (by simp) HNA6.out.2 (onesS [x]) q4 q5 HQA.out.size (head.length + 1) rfl ((head ++ [x]).map Value.string) (by simp) ?_; intro jo2 jc2 w7 hown _ hbel; have B7 := Lib.hid (HQA.out.trans hbel); have HJ := Lib.hid (And.intro (own_cap hown) (And.intro (own_strsK hown rfl) (own_ty hown))); have ca := HX.out w7 B7.out; clear hown hbel)
                  | (refine step_append_gd (by rfl) _ _ 22 (by rfl) wr.heap.size 9 i0 (.string ⟨#[]⟩) 1 16 Tryd.underlying22 HIn.out hz0 hz1 hz2 rfl (by decide) (.slice ko head.length kc) head.length (head.map Value.string) (by rfl) HOC6.out (some ⟨wr.heap.size, 0, none⟩) 1 1 [.string x] (by rfl) HNC6.out.1 (by simp) HNC6.out.2 (onesS [x]) q4 q5 HPC.out.size (head.length + 1) rfl ((head ++ [x]).map Value.string) (by simp) ?_; intro jo2 jc2 w7 hown _ hbel; have B7 := Lib.hid (HPC.out.trans hbel); have HJ := Lib.hid (And.intro (own_cap hown) (And.intro (own_strsK hown rfl) (own_ty hown))); have ca := HX.out w7 B7.out; clear hown hbel)
                  | (refine step_append_gd (by rfl) _ _ 22 (by rfl) wr.heap.size 9 i0 (.string ⟨#[]⟩) 1 16 Tryd.underlying22 HIn.out hz0 hz1 hz2 rfl (by decide) (.slice ko head.length kc) head.length (head.map Value.string) (by rfl) HOC6.out (some ⟨wr.heap.size, 0, none⟩) 1 1 [.string x] (by rfl) HNC6.out.1 (by simp) HNC6.out.2 (onesS [x]) q4 q5 HQC.out.size (head.length + 1) rfl ((head ++ [x]).map Value.string) (by simp) ?_; intro jo2 jc2 w7 hown _ hbel; have B7 := Lib.hid (HQC.out.trans hbel); have HJ := Lib.hid (And.intro (own_cap hown) (And.intro (own_strsK hown rfl) (own_ty hown))); have ca := HX.out w7 B7.out; clear hown hbel)
                  | (refine step_append_gd (by rfl) _ _ 22 (by rfl) wr.heap.size 9 i0 (.string ⟨#[]⟩) 1 16 Tryd.underlying22 HIn.out hz0 hz1 hz2 rfl (by decide) (.slice (some ⟨wr.heap.size, 0, none⟩) 0 0) 0 [] (by rfl) (own_emptyI wr.heap.size wr _ (Nat.le_refl _)) ao head.length ca0 (head.map Value.string) (by rfl) HSe.out.1 (by simp) HSe.out.2 (onesS head) q0 q3 HVe.out.size head.length (Nat.zero_add _) (head.map Value.string) rfl ?_; intro ko kc w6 hown _ hbel; have B6 := Lib.hid (HVe.out.trans hbel); have HO6 := Lib.hid hown; have HN6 := Lib.hid (srcS_of (cap := 1) (new_row w6 [x] 9) (fun e => by cases e)); have HV6 : Hid (Below wr.heap.size wr (w6.alloc (.cells #[.string x] 9)).drew) := Lib.hid ((B6.out.alloc B6.out.size _).drew); have HV7 : Hid (Below wr.heap.size wr (w6.alloc (.cells #[.string x] 9))) := Lib.hid (B6.out.alloc B6.out.size _); have ca := HX.out w6 B6.out; clear hown hbel)
                  | (refine step_append_gd (by rfl) _ _ 22 (by rfl) wr.heap.size 9 i0 (.string ⟨#[]⟩) 1 16 Tryd.underlying22 HIn.out hz0 hz1 hz2 rfl (by decide) (.slice (some ⟨wr.heap.size, 0, none⟩) 0 0) 0 [] (by rfl) HOA.out ao head.length ca0 (head.map Value.string) (by rfl) HSA.out.1 (by simp) HSA.out.2 (onesS head) q0 q3 HVA.out.size head.length (Nat.zero_add _) (head.map Value.string) rfl ?_; intro ko kc w6 hown hg hbel; have B6 := Lib.hid (HVA.out.trans hbel); have HOA6 := Lib.hid hown; have HNA6 := Lib.hid (srcS_of (cap := 1) (lit_keptS (HLA.out) hg (by omega)) (fun e => by cases e)); have HPA := Lib.hid B6.out; have HQA := Lib.hid B6.out.drew; have ca := HX.out w6 B6.out; clear hown hbel hg)
                  | (refine step_append_gd (by rfl) _ _ 22 (by rfl) wr.heap.size 9 i0 (.string ⟨#[]⟩) 1 16 Tryd.underlying22 HIn.out hz0 hz1 hz2 rfl (by decide) (.slice (some ⟨wr.heap.size + 1, 0, none⟩) 0 0) 0 [] (by rfl) HOC.out ao head.length ca0 (head.map Value.string) (by rfl) HSC.out.1 (by simp) HSC.out.2 (onesS head) q0 q3 HVC.out.size head.length (Nat.zero_add _) (head.map Value.string) rfl ?_; intro ko kc w6 hown hg hbel; have B6 := Lib.hid (HVC.out.trans hbel); have HOC6 := Lib.hid hown; have HNC6 := Lib.hid (srcS_of (cap := 1) (lit_keptS (HLC.out) hg (by omega)) (fun e => by cases e)); have HPC := Lib.hid B6.out; have HQC := Lib.hid B6.out.drew; have ca := HX.out w6 B6.out; clear hown hbel hg))
          all_goals (go_wp2_with fail; go_meet)
          all_goals exact ⟨Lib.hid ⟨_, _, rfl, HJ.out.1, HJ.out.2⟩, B7⟩
        case rest =>
          obtain ⟨HJ, B7⟩ := hcut
          rename World => w7
          obtain ⟨jo, jc, rfl, hJ1, hJ2, hJ3⟩ := HJ.out
          clear HVe HSe HVA HSA HOA HLA HVC HSC HOC HLC HS1 ca
          have HB7 := Lib.hid (below_up HB.out B7.out)
          have HO7 : Hid (∃ vs, w7.ownsRow w.heap.size 22 1 (.slice co q cap) q vs ∧ FitR w7 (D k) vs) := Lib.hid (by
            obtain ⟨vs, h1, h2⟩ := HO.out
            exact ⟨vs, ownsRow_below h1 B7.out, h2.kept B7.out⟩)
          have HDr := Lib.hid (row_drop (HRd.out w7 B7.out) (k + 1) (by omega))
          have IH := Lib.hid (fun (bo' : Option Addr) (cb' : Nat) (hb : StrRow w7 bo' (rest.drop (k + 1))) (hl : rest.length - (k + 1) ≤ cb') => (by
            have := ih.out jo jc (head ++ [x]) bo' cb' (rest.drop (k + 1)) w7 (by simp; omega) (by simpa using hJ1) (by simp; omega) (by simpa using hl) hJ2 hJ3 hb
            rw [List.length_append, List.length_drop] at this
            exact this : Calls Tryd.prog 43 #[.slice jo (head.length + 1) jc, .slice bo' (rest.length - (k + 1)) cb', .int .i64 (n : Int)] w7 (RowsCap ((choicesL n (rest.drop (k + 1))).map fun c => (head ++ [x]) ++ c) w7)))
          have HDl : Hid ((D (k + 1)).length ≤ 4096) := Lib.hid (HFew.out (k + 1) (by omega))
          clear HB B7 HO hJ2 ih HRd HNext HFew
          generalize (choicesL n (rest.drop (k + 1))).map (fun c => (head ++ [x]) ++ c) = M at IH HNk
          unfold RowsCap at IH
          by_cases hcb1 : cb = k + 1
          · have C0 := Lib.hid (IH.out (some A) 0 (.inl (List.drop_eq_nil_of_le (by omega))) (by omega))
            have hz0' : rest.length - (k + 1) = 0 := by omega
            rw [hz0'] at C0
            subst hcb1
            go_wp2_with fail
            refine C0.out.mono ?_; rintro e w8 ⟨eo, ec, rfl, hec, hrows, b8⟩
            obtain ⟨us, hf, hsrc⟩ := rows_vals hrows hec.2
            obtain ⟨vs, ho7, hf7⟩ := HO7.out
            have HO8 := Lib.hid (ownsRow_below ho7 b8)
            have HF8 := Lib.hid (hf7.kept b8)
            have HU8 := Lib.hid hf
            have HS8 := Lib.hid hsrc
            have HB8 := Lib.hid (below_up HB7.out b8)
            have hws := HB8.out.size
            have hMl : us.length = M.length := hf.1
            have hq2 : q + M.length ≤ 4096 := by
              have h1 := HDl.out
              rw [HNk.out, List.length_append, ← HQ.out] at h1; exact h1
            have r1 : q + M.length ≤ maxLen := by unfold maxLen; omega
            have r2 : (q + M.length) * 24 ≤ 140737488355328 := by omega
            clear hf hsrc ho7 hf7 b8 hrows C0
            go_wp2_with (at_builtin; refine wpList_append_K rfl _ _ 23 rfl w.heap.size 22 i1 (.slice none 0 0) 1 24 Tryd.underlying23 HIn1.out hy0 hy1 hy2 rfl (by decide) _ _ _ rfl HO8.out eo M.length ec us rfl HS8.out.1 (by rw [hMl]; simp) HS8.out.2 HU8.out.2.2 r1 r2 hws ?_)
            intro v9 w9 ho9 hg9
            have hbel := (Below.refl w.heap.size w8).grown hg9 hws (fun j hj => (HO8.out.lt j hj).1)
            have HB9 := Lib.hid (HB8.out.trans hbel)
            obtain ⟨co9, cap9, rfl⟩ := own_slice ho9
            have HQ9 : Hid (q + M.length = (D (k + 1)).length) := Lib.hid (by rw [HNk.out, List.length_append, HQ.out])
            have HO9 : Hid (∃ vs, w9.ownsRow w.heap.size 22 1 (.slice co9 (q + M.length) cap9) (q + M.length) vs ∧ FitR w9 (D (k + 1)) vs) := Lib.hid ⟨_, ho9, by
              rw [HNk.out]
              exact fitR_app (HF8.out.turn HO8.out hg9) (HU8.out.turn HO8.out hg9)⟩
            clear ho9 hg9 hbel
            go_wp2_with fail
            go_roundw
            case rel => exact ⟨k + 1, q + M.length, cap9, co9, by omega, rfl, by go_num, HQ9, HB9, HO9⟩
            case measure => simp [intOf]; omega
          · have C0 := Lib.hid (IH.out _ (cb - (k + 1)) HDr.out (by omega))
            go_wp2_with fail
            refine C0.out.mono ?_; rintro e w8 ⟨eo, ec, rfl, hec, hrows, b8⟩
            obtain ⟨us, hf, hsrc⟩ := rows_vals hrows hec.2
            obtain ⟨vs, ho7, hf7⟩ := HO7.out
            have HO8 := Lib.hid (ownsRow_below ho7 b8)
            have HF8 := Lib.hid (hf7.kept b8)
            have HU8 := Lib.hid hf
            have HS8 := Lib.hid hsrc
            have HB8 := Lib.hid (below_up HB7.out b8)
            have hws := HB8.out.size
            have hMl : us.length = M.length := hf.1
            have hq2 : q + M.length ≤ 4096 := by
              have h1 := HDl.out
              rw [HNk.out, List.length_append, ← HQ.out] at h1; exact h1
            have r1 : q + M.length ≤ maxLen := by unfold maxLen; omega
            have r2 : (q + M.length) * 24 ≤ 140737488355328 := by omega
            clear hf hsrc ho7 hf7 b8 hrows C0
            go_wp2_with (at_builtin; refine wpList_append_K rfl _ _ 23 rfl w.heap.size 22 i1 (.slice none 0 0) 1 24 Tryd.underlying23 HIn1.out hy0 hy1 hy2 rfl (by decide) _ _ _ rfl HO8.out eo M.length ec us rfl HS8.out.1 (by rw [hMl]; simp) HS8.out.2 HU8.out.2.2 r1 r2 hws ?_)
            intro v9 w9 ho9 hg9
            have hbel := (Below.refl w.heap.size w8).grown hg9 hws (fun j hj => (HO8.out.lt j hj).1)
            have HB9 := Lib.hid (HB8.out.trans hbel)
            obtain ⟨co9, cap9, rfl⟩ := own_slice ho9
            have HQ9 : Hid (q + M.length = (D (k + 1)).length) := Lib.hid (by rw [HNk.out, List.length_append, HQ.out])
            have HO9 : Hid (∃ vs, w9.ownsRow w.heap.size 22 1 (.slice co9 (q + M.length) cap9) (q + M.length) vs ∧ FitR w9 (D (k + 1)) vs) := Lib.hid ⟨_, ho9, by
              rw [HNk.out]
              exact fitR_app (HF8.out.turn HO8.out hg9) (HU8.out.turn HO8.out hg9)⟩
            clear ho9 hg9 hbel
            go_wp2_with fail
            go_roundw
            case rel => exact ⟨k + 1, q + M.length, cap9, co9, by omega, rfl, by go_num, HQ9, HB9, HO9⟩
            case measure => simp [intOf]; omega
      · obtain rfl : k = rest.length := by omega
        obtain ⟨vs, h1, h2⟩ := HO.out
        have HE : Hid (RowsCap (D rest.length) w (.returned (.slice co q cap)) wr) := Lib.hid ⟨co, cap, by rw [← HQ.out], by rw [← HQ.out]; exact own_cap h1, rows_of_own h1 HQ.out.symm h2, HB.out⟩
        clear h1 h2 HO HB
        go_wp2_with fail
        go_ret
        exact HE.out
end Go.Proofs.YtmomjhnbhckhpaaDoor
