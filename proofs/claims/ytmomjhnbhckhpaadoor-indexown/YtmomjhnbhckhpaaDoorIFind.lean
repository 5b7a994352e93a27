/-
  A row's key, how keys stand, and the first row of a key: what the program answers.
  Conditions: at most 2^30 rows, each of at most 2^40 cells of at most 2^48 bytes; at most 2^30 columns; keys of at most 2^30 cells; orders of at most 2^30 numbers.
-/
import Derived.WalkKit
import Derived.WalkMore
import Derived.IntWalk
import Derived.WalkArith
import Derived.OwnWalk
import Derived.Lib.Hide
import Derived.Laws.OwnMore
import Derived.StillTailTactics
import Derived.BigQuiet
import Derived.Deep.QuietTactic
import Derived.Deep.Cut
import Derived.Test.YtmomjhnbhckhpaaDoorProg
import Derived.Test.YtmomjhnbhckhpaaDoorICmp2
import Derived.Test.YtmomjhnbhckhpaaDoorTRest
namespace Go.Proofs.YtmomjhnbhckhpaaDoor
open Go.RowKit Go.Shelf
set_option linter.unusedVariables false

/-- a row's key -/
def rowKey (rs : List (List ByteArray)) (cols : List Int) (i : Int) : List ByteArray := cols.map (cellL rs i)
theorem rowKey_len (rs : List (List ByteArray)) (cols : List Int) (i : Int) : (rowKey rs cols i).length = cols.length := by simp [rowKey]
theorem rowKey_at (rs : List (List ByteArray)) (cols : List Int) (i : Int) (k : Nat) (c : Int) (h : cols[k]? = some c) : (rowKey rs cols i)[k]? = some (cellL rs i c) := by simp [rowKey, h]
theorem lex_map {α β γ : Type} (f : β → γ → Int) (g : α → β) : ∀ (xs : List α) (ys : List γ), lexH (fun a b => f (g a) b) xs ys = lexH f (xs.map g) ys
  | [], [] => rfl
  | [], _ :: _ => rfl
  | _ :: _, [] => rfl
  | a :: xs, b :: ys => by simp only [lexH, List.map_cons, lex_map f g xs ys]

set_option maxRecDepth 100000 in
set_option maxHeartbeats 1000000 in
theorem key_any (ho : Option Addr) (m hc : Nat) (ro : Option Addr) (rc : Nat) (rs : List (List ByteArray)) (row : Int) (co : Option Addr) (cc : Nat) (cols : List Int) (w : World) (hcl : cols.length ≤ 1073741824) (hn2 : rs.length ≤ 1099511627776) (hx : ∀ r ∈ rs, r.length ≤ 1099511627776 ∧ ∀ c ∈ r, c.size ≤ 281474976710656) (hR : RowsAt w ro rs) (hI : IntsAt w co cols) :
    Calls Tryd.prog 10 #[.agg #[.slice ho m hc, .slice ro rs.length rc], .int .i64 row, .slice co cols.length cc] w fun e w' => ∃ ao, e = .returned (.slice ao cols.length cols.length) ∧ StrRow w' ao (rowKey rs cols row) ∧ Below w.heap.size w w' := by
  have HB0 := Lib.hid (one_below w (TabO ho m hc ro rs.length rc))
  have HNew := Lib.hid (World.alloc_heap_new w (TabO ho m hc ro rs.length rc))
  have CC := Lib.hid (fun W (c : Int) (h : Below w.heap.size w W) => tcell_any ho m hc ro rc rs row c W hn2 hx (hR.kept h))
  have HIo := Lib.hid (hI.kept HB0.out)
  have HA := Lib.hid (rowKey_at rs cols row)
  have HL := Lib.hid (rowKey_len rs cols row)
  clear hR hx hI
  generalize rowKey rs cols row = xs at HA HL ⊢
  have hinfo : (Tryd.prog.info? 9).map (fun i => (i.zero, i.size, i.bytes)) = some (some (.string ⟨#[]⟩), 1, 16) := by kernel_rfl
  obtain ⟨i0, hi, hz0, hz1, hz2⟩ := info_parts2 hinfo
  have HI := Lib.hid hi
  have hm : cols.length ≤ maxLen := by unfold maxLen; omega
  clear hi hinfo
  obtain ⟨W, HW⟩ : ∃ W, Hid (W = w.alloc (TabO ho m hc ro rs.length rc)) := ⟨_, Lib.hid rfl⟩
  rw [← HW.out] at HB0 HNew HIo
  go_enter Tryd.func10, Tryd.ntmps10
  go_upto_region 1 with fail
  rw [show w.alloc (TabO ho m hc ro rs.length rc) = W from HW.out.symm]
  go_wp2_with (at_make; refine wpList_make_full _ rfl _ _ 22 rfl W.heap.size 9 i0 (.string ⟨#[]⟩) 1 Tryd.underlying22 HI.out hz0 hz1 .i64 .i64 (cols.length : Int) (cols.length : Int) cols.length rfl rfl rfl rfl (by rw [hz2]; omega) hm (Nat.le_refl _) ?_; intro w1 ho hg)
  have HB : Hid (Below W.heap.size W w1) := Lib.hid ((Below.refl _ W).grown hg (Nat.le_refl _) (fun k h => by cases h))
  have HO : Hid (w1.ownsRow W.heap.size 9 1 (.slice (some ⟨W.heap.size, 0, none⟩) cols.length cols.length) cols.length (half xs 0)) := Lib.hid (by
    rw [half_zero, HL.out]; rw [Nat.mul_one] at ho; rw [← toList_madeCells_one]; exact ho)
  clear ho hg
  go_wp2_with fail
  go_loopw [15] (fun i wr => ∃ k : Nat, k ≤ cols.length ∧ i = .int .i64 k ∧ Hid (Below W.heap.size W wr) ∧ Hid (wr.ownsRow W.heap.size 9 1 (.slice (some ⟨W.heap.size, 0, none⟩) cols.length cols.length) cols.length (half xs k))) (fun i _ => cols.length - (intOf i).toNat)
  case atStart => exact ⟨0, Nat.zero_le _, rfl, HB, HO⟩
  case round =>
    obtain ⟨k, hk, rfl, HB, HO⟩ := hrel
    by_cases hlt : k < cols.length
    · obtain ⟨col, hcol⟩ : ∃ c, cols[k]? = some c := ⟨_, List.getElem?_eq_getElem hlt⟩
      have hw0 := below_up HB0.out HB.out
      have C1 := Lib.hid (CC.out wr col hw0)
      obtain ⟨c0, c1⟩ := tabs ((HB.out.block _ (lt_of_heap HNew.out)).trans HNew.out)
      rcases (HIo.out.kept HB.out) with h0 | ⟨A, rfl, hA, hcell⟩
      · rw [h0] at hcol; simp at hcol
      have hci := hcell k _ hcol
      have HX := Lib.hid (HA.out k col hcol)
      clear hw0 hcell hcol
      generalize cellL rs row col = x at C1 HX
      go_wp2_with fail
      refine C1.out.mono ?_; rintro e w2 ⟨rfl, b2⟩
      have HB2 := Lib.hid (below_up HB.out b2)
      have HO2 := Lib.hid (ownsRow_below HO.out b2)
      clear b2 c0 c1 hci
      have hhl : (half xs k).length = cols.length := by rw [half_len xs k (by rw [HL.out]; omega), HL.out]
      have hcell : w2.cell? ⟨W.heap.size, k, none⟩ = some ((half xs k)[k]'(by omega)) := by
        rw [HO2.out.cellAt k (by omega), List.getElem?_eq_getElem]
      have hfr : w2.frozen? ⟨W.heap.size, k, none⟩ = false := HO2.out.frozenAt k
      generalize (half xs k)[k]'(by omega) = old at hcell
      have HO3 := Lib.hid (HO2.out.stored k (.string x)).1
      rw [half_next xs k x HX.out] at HO3
      have HB3 := Lib.hid (HB2.out.setCell (p := ⟨W.heap.size, k, none⟩) (Nat.le_refl _) (.string x))
      clear hhl HO HO2 HB HB2
      go_wp2_with fail
      go_roundw
      case rel => exact ⟨k + 1, by omega, by go_num, HB3, HO3⟩
      case measure => simp [intOf]; omega
    · obtain rfl : k = cols.length := by omega
      have HS : Hid (StrRow wr (some ⟨W.heap.size, 0, none⟩) xs) := Lib.hid (by
        refine .inr ⟨_, rfl, (HO.out.lt _ rfl).2, fun i c hc => ?_⟩
        have hi : i < cols.length := by rw [← HL.out]; exact (List.getElem?_eq_some_iff.1 hc).1
        have e : (⟨W.heap.size, 0, none⟩ : Addr).add i = ⟨W.heap.size, i, none⟩ := by unfold Addr.add; split <;> simp_all
        rw [e, HO.out.cellAt i (by rw [Nat.mul_one]; exact hi)]
        unfold half
        rw [← HL.out, List.take_length, List.getElem?_append_left (by simp; rw [HL.out]; exact hi), List.getElem?_map, hc]; rfl)
      clear HO
      go_wp2_with fail
      go_ret
      exact ⟨_, rfl, HS.out, below_up HB0.out HB.out⟩
theorem compareK_any (ao bo : Option Addr) (ca cb : Nat) (xs ys : List ByteArray) (w : World) (hn : xs.length ≤ 274877906944) (hm : ys.length ≤ 274877906944) (hR : StrRow w ao xs) (hS : StrRow w bo ys) :
    Calls Tryd.prog 11 #[.slice ao xs.length ca, .slice bo ys.length cb] w fun e w' => e = .returned (.int .i64 (keyC xs ys)) ∧ Below w.heap.size w w' := by
  have hent := enters_of Tryd.func32 (by kernel_rfl) rfl
  have C := Lib.hid (cmpS_any 32 txtC ao bo ca cb xs ys w hent hn hm hR hS (fun k x y _ _ V _ => (strc_any x y V).mono fun e V' h => ⟨h.1, by rw [h.2]; exact Below.refl _ _⟩))
  clear hR hS
  unfold keyC
  generalize lexH txtC xs ys = r at C ⊢
  go_enter Tryd.func11, Tryd.ntmps11
  go_wp2_with fail
  refine C.out.mono ?_; rintro e w1 ⟨rfl, b1⟩
  go_wp2_with fail
  go_ret
  exact ⟨rfl, b1⟩
theorem stands1_any (ho : Option Addr) (m hc : Nat) (ro : Option Addr) (rc : Nat) (rs : List (List ByteArray)) (row : Int) (B1 B2 : Nat) (col : Int) (s : ByteArray) (w : World) (hn2 : rs.length ≤ 1099511627776) (hx : ∀ r ∈ rs, r.length ≤ 1099511627776 ∧ ∀ c ∈ r, c.size ≤ 281474976710656) (hR : RowsAt w ro rs)
    (h1 : w.heap[B1]? = some (TabO ho m hc ro rs.length rc)) (h2 : w.heap[B2]? = some (.cells #[.int .i64 row] 3 (0, 0))) :
    Calls Tryd.prog 51 #[.int .i64 col, .string s, .pointer (some ⟨B1, 0, none⟩), .pointer (some ⟨B2, 0, none⟩)] w fun e w' => e = .returned (.int .i64 (txtC (cellL rs row col) s)) ∧ Below w.heap.size w w' := by
  obtain ⟨c0, c1⟩ := tabs h1
  obtain ⟨d0, _⟩ := cell_of_box_l h2
  have C1 := Lib.hid (tcell_any ho m hc ro rc rs row col w hn2 hx hR)
  have C2 := Lib.hid (fun W => strc_any (cellL rs row col) s W)
  clear hR hx h1 h2
  generalize cellL rs row col = x at C1 C2 ⊢
  generalize txtC x s = r at C2 ⊢
  go_enter Tryd.func51, Tryd.ntmps51
  go_wp2_with fail
  refine C1.out.mono ?_; rintro e w1 ⟨rfl, b1⟩
  have HB1 := Lib.hid b1
  clear b1 c0 c1 d0
  go_wp2_with fail
  refine (C2.out _).mono ?_; rintro e w2 ⟨rfl, rfl⟩
  go_wp2_with fail
  go_ret
  exact ⟨rfl, HB1.out⟩
theorem stands_any (ho : Option Addr) (m hc : Nat) (ro : Option Addr) (rc : Nat) (rs : List (List ByteArray)) (row : Int) (co : Option Addr) (cc : Nat) (cols : List Int) (so : Option Addr) (sc : Nat) (key : List ByteArray) (w : World) (hcl : cols.length ≤ 1073741824) (hkl : key.length ≤ 1073741824) (hn2 : rs.length ≤ 1099511627776) (hx : ∀ r ∈ rs, r.length ≤ 1099511627776 ∧ ∀ c ∈ r, c.size ≤ 281474976710656) (hR : RowsAt w ro rs) (hI : IntsAt w co cols) (hS : StrRow w so key) :
    Calls Tryd.prog 24 #[.agg #[.slice ho m hc, .slice ro rs.length rc], .int .i64 row, .slice co cols.length cc, .slice so key.length sc] w fun e w' => e = .returned (.int .i64 (keyC (rowKey rs cols row) key)) ∧ Below w.heap.size w w' := by
  have hent := enters_of Tryd.func51 (by kernel_rfl) rfl
  obtain ⟨V, HV⟩ : ∃ V, Hid (V = (w.alloc (TabO ho m hc ro rs.length rc)).alloc (.cells #[.int .i64 row] 3)) := ⟨_, Lib.hid rfl⟩
  have hb : Below w.heap.size w V := by rw [HV.out]; exact two_below w _ _
  obtain ⟨q1, q2, q3⟩ := two_new w (TabO ho m hc ro rs.length rc) (.cells #[.int .i64 row] 3)
  rw [← HV.out] at q1 q2 q3
  have HB := Lib.hid hb
  have C := Lib.hid (cmpI_any 51 (.pointer (some ⟨w.heap.size, 0, none⟩)) (.pointer (some ⟨w.heap.size + 1, 0, none⟩)) (fun c s => txtC (cellL rs row c) s) co so cc sc cols key V hent (by omega) (by omega) (hI.kept hb) (hS.kept hb) (fun k x y _ _ U hU => stands1_any ho m hc ro rc rs row w.heap.size (w.heap.size + 1) x y U hn2 hx ((hR.kept hb).kept hU) ((hU.block _ (lt_of_heap q2)).trans q2) ((hU.block _ (lt_of_heap q3)).trans q3)))
  rw [lex_map] at C
  rw [show lexH txtC (cols.map (cellL rs row)) key = keyC (rowKey rs cols row) key from rfl] at C
  generalize keyC (rowKey rs cols row) key = r at C ⊢
  clear hR hI hS hx q1 q2 q3 hb
  go_enter Tryd.func24, Tryd.ntmps24
  go_upto_region 1 with fail
  rw [show (w.alloc (TabO ho m hc ro rs.length rc)).alloc (.cells #[.int .i64 row] 3) = V from HV.out.symm]
  go_wp2_with fail
  refine C.out.mono ?_; rintro e w1 ⟨rfl, b1⟩
  have HB1 := Lib.hid (below_up HB.out b1)
  clear b1
  go_wp2_with fail
  go_ret
  exact ⟨rfl, HB1.out⟩
end Go.Proofs.YtmomjhnbhckhpaaDoor
