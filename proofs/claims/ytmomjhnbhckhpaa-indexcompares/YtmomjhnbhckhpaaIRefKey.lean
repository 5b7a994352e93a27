/-
  The reference: a row's cells at columns; appends in regions that draw.
  Conditions: at most 2^20 columns.
-/
import Derived.Deep.OwnRows
import Derived.Deep.RegionHeld3
import Derived.Deep.QuietTactic
import Derived.Deep.RegionWith
import Derived.BigQuiet
import Derived.WalkKit
import Derived.WalkMore
import Derived.IntWalk
import Derived.WalkArith
import Derived.OwnWalk
import Derived.Lib.Hide
import Derived.Test.YtmomjhnbhckhpaaProg
import Derived.Test.YtmomjhnbhckhpaaTRefA
import Derived.Test.YtmomjhnbhckhpaaPList
namespace Go.Proofs.Ytmomjhnbhckhpaa
open Go.RowKit Go.Shelf Go.Deep
set_option linter.unusedVariables false

theorem own_litI (base : Nat) (V : World) (p : Int) (T : TypeId) (hb : base ≤ V.heap.size) : (V.alloc (.cells #[.int .i64 p] T)).ownsRow base T 1 (.slice (some ⟨V.heap.size, 0, none⟩) 1 1) 1 [.int .i64 p] :=
  ⟨rfl, .inr ⟨V.heap.size, 1, _, rfl, hb, World.alloc_heap_new V _, Nat.le_refl _, by unfold maxLen; omega, rfl, rfl⟩⟩
theorem own_emptyI (base : Nat) (V : World) (T : TypeId) (hb : base ≤ V.heap.size) : (V.alloc (.cells #[] T)).ownsRow base T 1 (.slice (some ⟨V.heap.size, 0, none⟩) 0 0) 0 [] :=
  ⟨rfl, .inr ⟨V.heap.size, 0, #[], rfl, hb, World.alloc_heap_new _ _, Nat.le_refl _, by unfold maxLen; omega, rfl, rfl⟩⟩
theorem own_intsI {w : World} {base : Nat} {e : TypeId} {ro : Option Addr} {n cp : Nat} {xs : List Int} {L : List Value} (h : w.ownsRow base e 1 (.slice ro n cp) n L) (hL : L = xs.map (Value.int .i64)) : IntsAt w ro xs := by
  subst hL
  rcases h.2 with ⟨hv, h0⟩ | ⟨g, cap, cur, hv, _, hg, _⟩
  · have := h.1; simp at this; exact .inl (List.eq_nil_of_length_eq_zero (by omega))
  · cases hv
    refine .inr ⟨_, rfl, (h.lt g rfl).2, fun i c hc => h.cells rfl i _ (by rw [List.getElem?_map, hc]; rfl)⟩
def SrcI (w : World) (ao : Option Addr) (cap : Nat) (xs : List Int) : Prop := (ao = none → xs.length = 0 ∧ cap = 0) ∧ ∀ ad, ao = some ad → ∀ (j : Nat) u, (xs.map (Value.int .i64))[j]? = some u → w.cell? (ad.add j) = some u
theorem srcI_of {w : World} {ao : Option Addr} {cap : Nat} {xs : List Int} (h : IntsAt w ao xs) (hn : ao = none → cap = 0) : SrcI w ao cap xs := by
  refine ⟨fun e => ⟨?_, hn e⟩, fun ad e j u hu => ?_⟩
  · rcases h with h | ⟨A, h1, _⟩
    · rw [h]; rfl
    · rw [e] at h1; cases h1
  · rw [List.getElem?_map] at hu
    obtain ⟨c, hc, rfl⟩ := Option.map_eq_some_iff.1 hu
    rcases h with h | ⟨A, h1, _, h3⟩
    · subst h; simp at hc
    · rw [e] at h1; cases h1; exact h3 j c hc
theorem onesI (xs : List Int) : ∀ u ∈ xs.map (Value.int .i64), u.oneCell' = true := fun u hu => by
  obtain ⟨c, _, rfl⟩ := List.mem_map.1 hu; rfl
theorem lit_kept {V V' : World} {g b n c : Nat} {p : Int} {T : TypeId} (hb : V.heap[b]? = some (.cells #[.int .i64 p] T (0, 0))) (hg : V.grownBy V' (Value.slice (some ⟨g, 0, none⟩) n c).ownBlock) (hne : b ≠ g) : IntsAt V' (some ⟨b, 0, none⟩) [p] := by
  have h1 := (hg.block b (lt_of_heap hb) (fun e => hne (by simpa [Value.ownBlock] using e))).trans hb
  refine .inr ⟨_, rfl, lt_of_heap h1, fun i q hq => ?_⟩
  match i, hq with
  | 0, hq => cases hq; exact (Lib.cell_of_heap h1 0).trans rfl
/-- an append in a region that draws: of a slice that the code owns -/
theorem step_append_gd {P : Program} {w : World} {ops : Array Oper} {o : Oper} {a : Act} {K : Act → World → Prop} {Q : Exit → Act → World → Prop} {E : Prop} (hw : Region.wanted o (yielded ops a.tmps) = true) (s x : Operand) (t : TypeId)
    (ho : o.op = .call { callee := .builtin .append, args := #[s, x], argTypes := #[t, t] })
    (base : Nat) (e : TypeId) (i : TypeInfo) (z : Value) (size bytes : Nat) (ht : P.underlying t = some (.slice e)) (hi : P.info? e = some i) (hz : i.zero = some z)
    (hsize : i.size = size) (hby : i.bytes = bytes) (hzs : z.cells.size = size) (hsz : 0 < size)
    (v : Value) (n : Nat) (xs : List Value) (hs : a.eval s = v) (hown : w.ownsRow base e size v n xs)
    (xo : Option Addr) (m c : Nat) (news : List Value) (hx : a.eval x = .slice xo m c) (hnone : xo = none → m = 0 ∧ c = 0) (hl : news.length = m * size) (hnews : ∀ ad, xo = some ad → ∀ (j : Nat) u, news[j]? = some u → w.cell? (ad.add j) = some u) (h1 : ∀ u ∈ news, u.oneCell' = true)
    (h63 : n + m ≤ maxLen) (hbytes : (n + m) * bytes ≤ 140737488355328) (hbase : base ≤ w.heap.size) (N : Nat) (hN : n + m = N) (L : List Value) (hL : xs ++ news = L)
    (h : ∀ ao cap w', w'.ownsRow base e size (.slice ao N cap) N L → w.grownBy w' v.ownBlock → Below base w w' → K (a.put o.dst (.slice ao N cap)) w') :
    if Region.wanted o (yielded ops a.tmps) = true then Oper.wp P o a w K Q else E := by
  subst hN hL
  rw [if_pos hw]
  have fin : ∀ v' w', w'.ownsRow base e size v' (n + m) (xs ++ news) → w.grownBy w' v.ownBlock → K (a.put o.dst v') w' := fun v' w' h2 h3 => by
    obtain ⟨ao, cap, rfl⟩ := own_slice h2
    exact h ao cap w' h2 h3 ((Below.refl base w).grown h3 hbase (fun j hj => (hown.lt j hj).1))
  cases xo with
  | none =>
    obtain ⟨rfl, rfl⟩ := hnone rfl
    have hnil : news = [] := List.eq_nil_of_length_eq_zero (by rw [hl]; simp)
    subst hnil
    have hrun := run_append_owned_none (P := P) (w := w) base t o.type e i size ht hi v n xs hown
    unfold Oper.wp
    simp [execOp, ho, resolve, invoke, builtin, hs, hx, hrun, Result.andThen]
    exact fin v w (by simpa using hown) ⟨rfl, rfl, rfl, Nat.le_refl _, fun _ _ _ => rfl⟩
  | some ad => exact wp_append_own w s x t ho base e i z size bytes ht hi hz hsize hby hzs hsz v n xs hs hown ad m c news hx hl (hnews ad rfl) h1 h63 hbytes hbase (fun v' w' h2 h3 _ => fin v' w' h2 h3)

def StrsOut (xs : List ByteArray) (w : World) (e : Ending) (w' : World) : Prop := ∃ ao cap, e = .returned (.slice ao xs.length cap) ∧ StrRow w' ao xs ∧ Below w.heap.size w w'
theorem own_strsK {w : World} {base : Nat} {e : TypeId} {ao : Option Addr} {n cap : Nat} {xs : List ByteArray} {L : List Value} (h : w.ownsRow base e 1 (.slice ao n cap) n L) (hL : L = xs.map Value.string) : StrRow w ao xs := by
  subst hL
  rcases h.2 with ⟨hv, h0⟩ | ⟨g, c, cur, hv, _, hg, _⟩
  · have := h.1; simp at this; exact .inl (List.eq_nil_of_length_eq_zero (by omega))
  · cases hv
    refine .inr ⟨_, rfl, (h.lt g rfl).2, fun i c hc => h.cells rfl i _ (by rw [List.getElem?_map, hc]; rfl)⟩
theorem src_text (V : World) (x : ByteArray) (T : TypeId) : ∀ ad, some (⟨V.heap.size, 0, none⟩ : Addr) = some ad → ∀ (j : Nat) u, [Value.string x][j]? = some u → (V.alloc (.cells #[.string x] T)).cell? (ad.add j) = some u := fun ad e j u hu => by
  cases e
  match j, hu with
  | 0, hu => cases hu; exact (Lib.cell_of_heap (World.alloc_heap_new V _) 0).trans rfl
def keyR (rs : List (List ByteArray)) (row : Int) (cols : List Int) : List ByteArray := cols.map (cellL rs row)

set_option maxRecDepth 100000 in
set_option maxHeartbeats 4000000 in
theorem rkey_any (ho : Option Addr) (m hc : Nat) (ro : Option Addr) (rc : Nat) (rs : List (List ByteArray)) (row : Int) (co : Option Addr) (cc : Nat) (cols : List Int) (w : World) (hn : cols.length ≤ 1048576) (hR : RowsAt w ro rs) (hI : IntsAt w co cols) :
    Calls Try.prog 15 #[.agg #[.slice ho m hc, .slice ro rs.length rc], .int .i64 row, .slice co cols.length cc] w (StrsOut (keyR rs row cols) w) := by
  obtain ⟨W, HW⟩ : ∃ W, Hid (W = w.alloc (TabO ho m hc ro rs.length rc)) := ⟨_, Lib.hid rfl⟩
  have hB : Below w.heap.size w W := by rw [HW.out]; exact one_below _ _
  have HB0 := Lib.hid hB
  have hN : W.heap[w.heap.size]? = some (TabO ho m hc ro rs.length rc) := by rw [HW.out]; exact World.alloc_heap_new w _
  have HNew := Lib.hid hN
  have CC := Lib.hid (fun V (c : Int) (h : Below W.heap.size W V) => rcell_any ho m hc ro rc rs row c V (hR.kept (below_up hB h)))
  have HIo := Lib.hid (hI.kept hB)
  have HK : Hid (∀ (k : Nat) c, cols[k]? = some c → ((keyR rs row cols).map Value.string).take k ++ [Value.string (cellL rs row c)] = ((keyR rs row cols).map Value.string).take (k + 1)) := Lib.hid (fun k c hk => by
    unfold keyR
    rw [List.take_add_one (i := k), List.getElem?_map, List.getElem?_map, hk]; rfl)
  have HKl : Hid ((keyR rs row cols).length = cols.length) := Lib.hid (by unfold keyR; simp)
  generalize keyR rs row cols = xs at HK HKl ⊢
  have hinfo : (Try.prog.info? 9).map (fun i => (i.zero, i.size, i.bytes)) = some (some (.string ⟨#[]⟩), 1, 16) := by kernel_rfl
  obtain ⟨i0, hi, hz0, hz1, hz2⟩ := info_parts2 hinfo
  have HIn := Lib.hid hi
  clear hi hinfo hR hB hN hI
  go_enter Try.func15, Try.ntmps15
  go_wp2_with fail
  rw [show w.alloc (Obj.cells #[Value.slice ho m hc, Value.slice ro rs.length rc] 25) = W from HW.out.symm]
  go_loopw [7, 8] (fun v i wr => ∃ (k cap : Nat) (ao : Option Addr), k ≤ cols.length ∧ v = .slice ao k cap ∧ i = .int .i64 k ∧ Hid (Below W.heap.size W wr) ∧ Hid (wr.ownsRow W.heap.size 9 1 (.slice ao k cap) k ((xs.map Value.string).take k))) (fun _ i _ => cols.length - (intOf i).toNat)
  case atStart => exact ⟨0, 0, none, Nat.zero_le _, rfl, rfl, Lib.hid (Below.refl _ _), Lib.hid (World.ownsRow_nil _ _ _ _)⟩
  case round =>
    obtain ⟨k, cap, ao, hk, rfl, rfl, HB, HO⟩ := hrel
    by_cases hlt : k < cols.length
    · obtain ⟨c, hcol⟩ : ∃ c, cols[k]? = some c := ⟨_, List.getElem?_eq_getElem hlt⟩
      obtain ⟨c0, c1⟩ := tabs ((HB.out.block _ (lt_of_heap HNew.out)).trans HNew.out)
      rcases HIo.out with h0 | ⟨A, rfl, hA, hcell⟩
      · rw [h0] at hlt; simp at hlt
      have HCa : Hid (∀ V, Below W.heap.size W V → V.cell? (A.add k) = some (.int .i64 c)) := Lib.hid (fun V h => (h.cell (p := A.add k) (by rw [add_block]; exact hA)).trans (hcell k c hcol))
      have ca := HCa.out wr HB.out
      have HT := Lib.hid (HK.out k c hcol)
      have hws : W.heap.size ≤ wr.heap.size := HB.out.size
      clear hcell
      have C1 := Lib.hid (CC.out wr c HB.out)
      have C2 := Lib.hid (CC.out wr.drew c HB.out.drew)
      generalize cellL rs row c = x at C1 C2 HT
      have q1 : k + 1 ≤ maxLen := by unfold maxLen; omega
      have q2 : (k + 1) * 16 ≤ 140737488355328 := by omega
      have KEEP : Hid (∀ V, Below W.heap.size W V → V.cell? ⟨w.heap.size, 0, none⟩ = some (.slice ho m hc) ∧ V.cell? ⟨w.heap.size, 1, none⟩ = some (.slice ro rs.length rc) ∧ V.cell? (A.add k) = some (.int .i64 c)) := Lib.hid (fun V h => by
        obtain ⟨d0, d1⟩ := tabs ((h.block _ (lt_of_heap HNew.out)).trans HNew.out)
        exact ⟨d0, d1, (HCa.out V h)⟩)
      go_upto_region 5 with fail
      go_region_held3 (fun V => V.cell? ⟨w.heap.size, 0, none⟩ = some (.slice ho m hc) ∧ V.cell? ⟨w.heap.size, 1, none⟩ = some (.slice ro rs.length rc) ∧ V.cell? (A.add k) = some (.int .i64 c)) ((refine ⟨?_, ?_, ?_⟩ <;> first | assumption | go_keep))
        (first
          | (go_at_call 27; refine C2.out.mono ?_; rintro e w2 ⟨rfl, b2⟩; have B2 := Lib.hid (below_up HB.out.drew b2); obtain ⟨c0, c1, ca⟩ := KEEP.out w2 B2.out; have HO2 := Lib.hid ((ownsRow_below HO.out.drew b2).alloc (.cells #[.string x] 9)); have HB3 : Hid (Below W.heap.size W (w2.alloc (.cells #[.string x] 9))) := Lib.hid (B2.out.alloc B2.out.size _); clear b2)
          | (refine step_append_gd (by rfl) _ _ 22 (by rfl) W.heap.size 9 i0 (.string ⟨#[]⟩) 1 16 Try.underlying22 HIn.out hz0 hz1 hz2 rfl (by decide) (.slice ao k cap) k ((xs.map Value.string).take k) (by rfl) HO2.out (some ⟨w2.heap.size, 0, none⟩) 1 1 [.string x] (by rfl) (fun e => by cases e) (by simp) (src_text w2 x _) (fun u hu => by simp at hu; subst hu; rfl) q1 q2 HB3.out.size (k + 1) rfl ((xs.map Value.string).take (k + 1)) HT.out ?_; intro jo jc w4 hown _ hbel; have B4 := Lib.hid (HB3.out.trans hbel); have HO4 := Lib.hid hown; obtain ⟨c0, c1, ca⟩ := KEEP.out w4 B4.out; clear hown hbel))
      go_wp2_with fail
      go_roundw
      case rel => exact ⟨k + 1, jc, jo, by omega, rfl, by go_num, B4, HO4⟩
      case measure => simp [intOf]; omega
    · have hke : k = cols.length := by omega
      have hkx : (xs.map Value.string).take k = xs.map Value.string := List.take_of_length_le (by have := HKl.out; simp; omega)
      have HE := Lib.hid (own_strsK (xs := xs) HO.out hkx)
      have HBe := Lib.hid (below_up HB0.out HB.out)
      clear hkx HO HB
      subst hke
      go_wp2_with fail
      go_ret
      exact ⟨ao, cap, by rw [HKl.out]; rfl, HE.out, HBe.out⟩
end Go.Proofs.Ytmomjhnbhckhpaa
