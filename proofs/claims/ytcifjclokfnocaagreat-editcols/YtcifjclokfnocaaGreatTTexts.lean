/-
  All names and cells of a table are told one by one; how many bytes they have together, and whether one is too long.
  Conditions: tables of at most 2^40 names and rows of at most 2^40 cells; all texts have together at most 2^60 bytes.
-/
import Derived.WalkKit
import Derived.Lib.Hide
import Derived.Test.YtcifjclokfnocaaGreatProg
import Derived.Test.YtcifjclokfnocaaGreatTBase
import Derived.Test.YtcifjclokfnocaaGreatCsvRange
namespace Go.Proofs.YtcifjclokfnocaaGreat
open Go.RowKit Go.Shelf

def KeepsT (n0 B : Nat) (W W' : World) : Prop := ∀ k, k < n0 ∨ k = B → W'.heap[k]? = W.heap[k]?
theorem cell_same {W W' : World} (A : Addr) (h : W'.heap[A.block]? = W.heap[A.block]?) : W'.cell? A = W.cell? A := by unfold World.cell?; rw [h]
/-- a table in the world -/
abbrev TabO (ho : Option Addr) (hn hc : Nat) (ro : Option Addr) (rn rc : Nat) : Obj := .cells #[.slice ho hn hc, .slice ro rn rc] 25
def allT (hd : List ByteArray) (rs : List (List ByteArray)) : List ByteArray := hd ++ rs.flatten
theorem pre_head (hd : List ByteArray) (rs : List (List ByteArray)) (k : Nat) (x : ByteArray) (h : hd[k]? = some x) : hd.take (k + 1) = hd.take k ++ [x] ∧ hd.take k ++ [x] <+: allT hd rs := by
  obtain ⟨hk, e⟩ := List.getElem?_eq_some_iff.1 h
  have e1 : hd.take (k + 1) = hd.take k ++ [x] := by rw [List.take_succ_eq_append_getElem hk, e]
  refine ⟨e1, ?_⟩
  rw [← e1, allT]
  exact (List.take_prefix _ _).trans (List.prefix_append _ _)
theorem pre_row (hd : List ByteArray) (rs : List (List ByteArray)) (k j : Nat) (r : List ByteArray) (x : ByteArray) (hr : rs[k]? = some r) (h : r[j]? = some x) :
    hd ++ (rs.take k).flatten ++ r.take (j + 1) = hd ++ (rs.take k).flatten ++ r.take j ++ [x] ∧ hd ++ (rs.take k).flatten ++ r.take j ++ [x] <+: allT hd rs := by
  obtain ⟨hk, e⟩ := List.getElem?_eq_some_iff.1 hr
  obtain ⟨hj, e'⟩ := List.getElem?_eq_some_iff.1 h
  have e1 : hd ++ (rs.take k).flatten ++ r.take (j + 1) = hd ++ (rs.take k).flatten ++ r.take j ++ [x] := by rw [List.take_succ_eq_append_getElem hj, e']; simp
  refine ⟨e1, ?_⟩
  rw [← e1, allT]
  have e2 : rs.flatten = (rs.take k).flatten ++ (r ++ (rs.drop (k + 1)).flatten) := by
    conv => lhs; rw [← List.take_append_drop k rs]
    rw [List.flatten_append, List.drop_eq_getElem_cons hk, e]; simp
  rw [e2, List.append_assoc]
  refine List.prefix_append_right_inj _ |>.2 (List.prefix_append_right_inj _ |>.2 ?_)
  exact (List.take_prefix _ _).trans (List.prefix_append _ _)
theorem row_end (hd : List ByteArray) (rs : List (List ByteArray)) (k : Nat) (r : List ByteArray) (hr : rs[k]? = some r) : hd ++ (rs.take k).flatten ++ r.take r.length = hd ++ (rs.take (k + 1)).flatten := by
  obtain ⟨hk, e⟩ := List.getElem?_eq_some_iff.1 hr
  rw [List.take_succ_eq_append_getElem hk, e]; simp

set_option maxRecDepth 100000 in
set_option maxHeartbeats 4000000 in
theorem texts1_tells (n : Nat) (ho : Option Addr) (hc : Nat) (hd : List ByteArray) (ro : Option Addr) (rc : Nat) (rs : List (List ByteArray)) (B : Nat) (w0 w : World) (h0w : Below w0.heap.size w0 w)
    (hn : hd.length ≤ 1099511627776) (hn2 : rs.length ≤ 1099511627776) (hn3 : ∀ r ∈ rs, r.length ≤ 1099511627776) (hH : StrRow w0 ho hd) (hR : RowsAt w0 ro rs)
    (hB : w.heap[B]? = some (TabO ho hd.length hc ro rs.length rc)) :
    Tells Fence.wide n Tryz.prog 103 #[.pointer (some ⟨B, 0, none⟩)] (fun x : ByteArray => #[Value.string x]) (KeepsT w0.heap.size B) (fun pre x _ => pre ++ [x] <+: allT hd rs) (fun _ _ => True) (fun xs => xs = allT hd rs) (fun pre => pre <+: allT hd rs) w := by
  intro l J Jx W hW hJ hJx hRm hY h0
  have HY := Lib.hid hY
  have HH := Lib.hid hH
  have HR := Lib.hid hR
  have HN3 := Lib.hid hn3
  have HS0 : Hid (∀ k, k < w0.heap.size → W.heap[k]? = w0.heap[k]?) := Lib.hid (fun k hk => (hW.block k (Nat.lt_of_lt_of_le hk h0w.size)).trans (h0w.block k hk))
  have hBW := (hW.block B (lt_of_heap hB)).trans hB
  have c0 : W.cell? ⟨B, 0, none⟩ = some (.slice ho hd.length hc) := (Lib.cell_of_heap hBW 0).trans rfl
  have HBW := Lib.hid hBW
  have H0 := Lib.hid h0
  have HPH := Lib.hid (pre_head hd rs)
  have HPR := Lib.hid (pre_row hd rs)
  have HRE := Lib.hid (row_end hd rs)
  clear hJ hRm hY hJx hW hB hH hR hn3 h0 hBW h0w
  refine callsIn_of_wp Tryz.func103 rfl trivial ?_ rfl
  simp only [Tryz.ntmps103, List.size_toArray, List.length_cons, List.length_nil, Nat.reduceAdd, Nat.reduceSub, Array.replicate_succ, Array.replicate_zero, List.push_toArray, List.append_toArray, List.nil_append, List.cons_append]
  gi_wp2_with fail
  gi_loopw [12] (fun i wr => ∃ k : Nat, k ≤ hd.length ∧ i = .int .i64 k ∧ Hid (J (hd.take k) wr) ∧ Hid (∀ k, k < w0.heap.size → wr.heap[k]? = w0.heap[k]?) ∧ Hid (wr.heap[B]? = some (TabO ho hd.length hc ro rs.length rc))) (fun i _ => hd.length - (intOf i).toNat)
  case atStart => exact ⟨0, Nat.zero_le _, rfl, H0, HS0, HBW⟩
  case round =>
    obtain ⟨k, hk, rfl, HJ, HS, HB⟩ := hrel
    clear c0
    by_cases hlt : k < hd.length
    · obtain ⟨x, hx⟩ : ∃ x, hd[k]? = some x := ⟨_, List.getElem?_eq_getElem hlt⟩
      have HP := Lib.hid (HPH.out k x hx)
      obtain ⟨fn, tmps, assign, body, hy, hR⟩ := HY.out _ x wr HJ.out HP.out.2
      have HC := Lib.hid hR
      rcases HH.out with h0 | ⟨A, rfl, hA, hcell⟩
      · rw [h0] at hlt; simp at hlt
      have hcx := (cell_same (W := w0) (W' := wr) (A.add k) (by rw [add_block]; exact HS.out _ hA)).trans (hcell k x hx)
      clear hcell hx hR
      gi_wp2_with fail
      refine ⟨(fun h => by cases h), HC.out.mono ?_⟩
      rintro e W3 (⟨rfl, hJ3, hk3⟩ | ⟨rfl, hJx3⟩)
      · have HJ3 : Hid (J (hd.take (k + 1)) W3) := Lib.hid (by rw [HP.out.1]; exact hJ3)
        have HS3 : Hid (∀ k, k < w0.heap.size → W3.heap[k]? = w0.heap[k]?) := Lib.hid (fun j hj => (hk3 j (.inl hj)).trans (HS.out j hj))
        have HB3 := Lib.hid ((hk3 B (.inr rfl)).trans HB.out)
        clear hJ3 hk3
        gi_wp2_with fail
        go_roundw
        case rel => exact ⟨k + 1, by omega, by go_num, HJ3, HS3, HB3⟩
        case measure => simp [intOf]; omega
      · have HX := Lib.hid hJx3
        clear hJx3
        gi_wp2_with fail
        refine bodyPost_ret (results_none rfl _ _ _) rfl ?_
        exact ⟨⟨_, rfl⟩, .inr ⟨_, HP.out.2, HX.out⟩⟩
    · obtain rfl : k = hd.length := by omega
      have c1 : wr.cell? ⟨B, 1, none⟩ = some (.slice ro rs.length rc) := (Lib.cell_of_heap HB.out 1).trans rfl
      gi_wp2_with fail
      clear c1
      obtain ⟨wo, rfl⟩ : ∃ wo : World, wo = wr := ⟨_, rfl⟩
      gi_loopw [24] (fun i wr => ∃ k : Nat, k ≤ rs.length ∧ i = .int .i64 k ∧ Hid (J (hd ++ (rs.take k).flatten) wr) ∧ Hid (∀ k, k < w0.heap.size → wr.heap[k]? = w0.heap[k]?) ∧ Hid (wr.heap[B]? = some (TabO ho hd.length hc ro rs.length rc))) (fun i _ => rs.length - (intOf i).toNat)
      case atStart => exact ⟨0, Nat.zero_le _, rfl, Lib.hid (by have := HJ.out; rw [List.take_length] at this; simpa using this), HS, HB⟩
      case round =>
        obtain ⟨k, hk, rfl, HJ, HS, HB⟩ := hrel
        by_cases hlt : k < rs.length
        · obtain ⟨r, hr⟩ : ∃ r, rs[k]? = some r := ⟨_, List.getElem?_eq_getElem hlt⟩
          have HRk := Lib.hid hr
          have hrl := HN3.out r (List.mem_of_getElem? hr)
          rcases HR.out with h0 | ⟨A, rfl, hA, hcell⟩
          · rw [h0] at hlt; simp at hlt
          obtain ⟨ro1, rc1, hc1, hs1⟩ := hcell k r hr
          have hcx := (cell_same (W := w0) (W' := wr) (A.add k) (by rw [add_block]; exact HS.out _ hA)).trans hc1
          have HS1 := Lib.hid hs1
          clear hcell hr hc1 hs1
          gi_wp2_with fail
          clear hcx
          obtain ⟨wo2, rfl⟩ : ∃ wo2 : World, wo2 = wr := ⟨_, rfl⟩
          gi_loopw [30] (fun i wr => ∃ j : Nat, j ≤ r.length ∧ i = .int .i64 j ∧ Hid (J (hd ++ (rs.take k).flatten ++ r.take j) wr) ∧ Hid (∀ k, k < w0.heap.size → wr.heap[k]? = w0.heap[k]?) ∧ Hid (wr.heap[B]? = some (TabO ho hd.length hc (some A) rs.length rc))) (fun i _ => r.length - (intOf i).toNat)
          case atStart => exact ⟨0, Nat.zero_le _, rfl, Lib.hid (by simpa using HJ.out), HS, HB⟩
          case round =>
            obtain ⟨j, hj, rfl, HJ, HS, HB⟩ := hrel
            by_cases hjl : j < r.length
            · obtain ⟨x, hx⟩ : ∃ x, r[j]? = some x := ⟨_, List.getElem?_eq_getElem hjl⟩
              have HP := Lib.hid (HPR.out k j r x HRk.out hx)
              obtain ⟨fn, tmps, assign, body, hy, hR⟩ := HY.out _ x wr HJ.out HP.out.2
              have HC := Lib.hid hR
              rcases HS1.out with h0 | ⟨A1, rfl, hA1, hcell⟩
              · rw [h0] at hjl; simp at hjl
              have hcx := (cell_same (W := w0) (W' := wr) (A1.add j) (by rw [add_block]; exact HS.out _ hA1)).trans (hcell j x hx)
              clear hcell hx hR
              gi_wp2_with fail
              refine ⟨(fun h => by cases h), HC.out.mono ?_⟩
              rintro e W3 (⟨rfl, hJ3, hk3⟩ | ⟨rfl, hJx3⟩)
              · have HJ3 : Hid (J (hd ++ (rs.take k).flatten ++ r.take (j + 1)) W3) := Lib.hid (by rw [HP.out.1]; exact hJ3)
                have HS3 : Hid (∀ k, k < w0.heap.size → W3.heap[k]? = w0.heap[k]?) := Lib.hid (fun j hj => (hk3 j (.inl hj)).trans (HS.out j hj))
                have HB3 := Lib.hid ((hk3 B (.inr rfl)).trans HB.out)
                clear hJ3 hk3
                gi_wp2_with fail
                go_roundw
                case rel => exact ⟨j + 1, by omega, by go_num, HJ3, HS3, HB3⟩
                case measure => simp [intOf]; omega
              · have HX := Lib.hid hJx3
                clear hJx3
                gi_wp2_with fail
                refine bodyPost_ret (results_none rfl _ _ _) rfl ?_
                exact ⟨⟨_, rfl⟩, .inr ⟨_, HP.out.2, HX.out⟩⟩
            · obtain rfl : j = r.length := by omega
              have HJ3 : Hid (J (hd ++ (rs.take (k + 1)).flatten) wr) := Lib.hid (by rw [← HRE.out k r HRk.out]; exact HJ.out)
              gi_wp2_with fail
              go_roundw
              case rel => exact ⟨k + 1, by omega, by go_num, HJ3, HS, HB⟩
              case measure => simp [intOf]; omega
        · obtain rfl : k = rs.length := by omega
          have HE : Hid (J (allT hd rs) wr) := Lib.hid (by have := HJ.out; rw [List.take_length] at this; exact this)
          gi_wp2_with fail
          go_end0
          exact ⟨⟨_, rfl⟩, .inl ⟨_, rfl, HE.out⟩⟩
end Go.Proofs.YtcifjclokfnocaaGreat
