/-
  Whether a text is in a row of texts twice: what the program answers, by a map of the texts that it has seen.
  Conditions: rows of at most 2^40 texts, each a Go string.
-/
import Derived.Maps.Own
import Derived.Maps.OwnOps
import Derived.Maps.Views
import Derived.StringKeys
import Derived.Test.YtigijgcldgbokaaGreatProg
import Derived.Test.YtigijgcldgbokaaGreatTCopy
namespace Go.Proofs.YtigijgcldgbokaaGreat
open Go.RowKit Go.Shelf Go.Maps

/-- the map of the first k texts -/
def seenK (xs : List ByteArray) : Nat → DataW Unit
  | 0 => .map []
  | k + 1 => match xs[k]? with
    | some c => (seenK xs k).put (.string c.data.toList) (.lit (.bool true))
    | none => seenK xs k
theorem seenK_map (xs : List ByteArray) (k : Nat) : IsMap (seenK xs k) := by
  induction k with
  | zero => exact isMap_empty
  | succ k ih =>
    unfold seenK
    split
    · exact ih.put _ _
    · exact ih
theorem seenK_next (xs : List ByteArray) (k : Nat) (c : ByteArray) (h : xs[k]? = some c) : seenK xs (k + 1) = (seenK xs k).put (.string c.data.toList) (.lit (.bool true)) := by
  rw [seenK, h]
theorem seenK_at (xs : List ByteArray) (k : Nat) (l : List UInt8) : (seenK xs k).atKey (.string l) (.lit (.bool false)) = .lit (.bool (decide (l ∈ bytesOf (xs.take k)))) := by
  induction k with
  | zero => simp [seenK, bytesOf]; rfl
  | succ k ih =>
    cases h : xs[k]? with
    | none =>
      have hk : xs.length ≤ k := List.getElem?_eq_none_iff.1 h
      have e1 : seenK xs (k + 1) = seenK xs k := by rw [seenK, h]
      have e2 : xs.take (k + 1) = xs.take k := by rw [List.take_of_length_le (by omega), List.take_of_length_le hk]
      rw [e1, e2]; exact ih
    | some c =>
      obtain ⟨hk, e⟩ := List.getElem?_eq_some_iff.1 h
      have e2 : bytesOf (xs.take (k + 1)) = bytesOf (xs.take k) ++ [c.data.toList] := by rw [List.take_succ_eq_append_getElem hk, e]; simp [bytesOf]
      rw [seenK_next xs k c h, e2]
      by_cases hl : l = c.data.toList
      · rw [hl, atKey_put_same (seenK_map xs k) (by first | exact trivial | constructor | simp [WideAt.IsKeyLit])]; simp
      · rw [atKey_put_other (fun e => hl (by injection e)), ih]; simp [hl]
def dupL (xs : List ByteArray) : Bool := decide (¬ (bytesOf xs).Nodup)
theorem dup_no (xs : List ByteArray) (h : (bytesOf (xs.take xs.length)).Nodup) : dupL xs = false := by
  rw [List.take_length] at h; simp [dupL, h]
theorem dup_yes (xs : List ByteArray) (k : Nat) (c : ByteArray) (hc : xs[k]? = some c) (h : c.data.toList ∈ bytesOf (xs.take k)) : dupL xs = true := by
  obtain ⟨hk, e⟩ := List.getElem?_eq_some_iff.1 hc
  refine decide_eq_true (fun hn => ?_)
  have e2 : bytesOf xs = bytesOf (xs.take k) ++ bytesOf (xs.drop k) := by rw [← List.take_append_drop k xs]; simp [bytesOf]
  rw [e2, List.nodup_append] at hn
  exact hn.2.2 _ h c.data.toList (by rw [List.drop_eq_getElem_cons hk, e]; simp [bytesOf]) rfl
theorem nodup_next (xs : List ByteArray) (k : Nat) (c : ByteArray) (hc : xs[k]? = some c) (hn : (bytesOf (xs.take k)).Nodup) (h : c.data.toList ∉ bytesOf (xs.take k)) : (bytesOf (xs.take (k + 1))).Nodup := by
  obtain ⟨hk, e⟩ := List.getElem?_eq_some_iff.1 hc
  rw [List.take_succ_eq_append_getElem hk, e]
  simp only [bytesOf, List.map_append, List.map_cons, List.map_nil]
  rw [List.nodup_append]
  exact ⟨hn, by simp, fun a ha b hb => by simp at hb; subst hb; exact fun e => h (by rw [← e]; exact ha)⟩
theorem plainElem_bool_inv {H : Type} {P : Program} {e : TypeId} (he : P.underlying e = some .bool) {v : Value} {z : DataW H × List MemPlace} (h : plainElem P e v = some z) : ∃ a, v = .bool a ∧ z = (.lit (.bool a), []) := by
  unfold plainElem at h
  rw [he] at h
  split at h
  · cases h; exact ⟨_, rfl, rfl⟩
  · rename_i h1; cases h1
  · rename_i h1; cases h1
  · cases h
theorem lookup_bool {H : Type} {P : Program} {w : World} {k t e : TypeId} {b n : Nat} {D : DataW H} (h : w.ownsMap P k (plainElem P e) b n D) (K : Keyed P k) (ht : P.underlying t = some (.map k e)) (he : P.underlying e = some .bool) (hz : (zeroValue e).run P w = .ok (.bool false) w)
    {key : Value} {kl : Lit} (hkey : keyOf P k key = some kl) : ∃ c, (Instr.lookup t (.map (some b)) key false).run P w = .ok (.bool c) w ∧ D.atKey kl (.lit (.bool false)) = .lit (.bool c) := by
  obtain ⟨v, ps, hrun, hv⟩ := h.lookup K ht hz (plainElem_bool he false) hkey
  obtain ⟨c, rfl, hc⟩ := plainElem_bool_inv he hv
  simp only [Prod.mk.injEq] at hc
  exact ⟨c, hrun, hc.1⟩

set_option maxRecDepth 100000 in
set_option maxHeartbeats 4000000 in
theorem twice_any (ao : Option Addr) (cap : Nat) (xs : List ByteArray) (w : World) (hn : xs.length ≤ 1099511627776) (hs : ∀ c ∈ xs, c.size ≤ maxLen) (hR : StrRow w ao xs) :
    Calls Tryz.prog 68 #[.slice ao xs.length cap] w fun e w' => e = .returned (.bool (dupL xs)) ∧ Below w.heap.size w w' := by
  have HRo := Lib.hid hR
  have HSo := Lib.hid hs
  have HY := Lib.hid (dup_yes xs)
  have HNn := Lib.hid (dup_no xs)
  clear hR hs
  generalize dupL xs = F at HY HNn ⊢
  have hmm := @run_makeMap Tryz.prog
  go_enter Tryz.func68, Tryz.ntmps68
  go_wp2_with fail
  have HO : Hid ((w.alloc (.map #[] 0)).ownsMap Tryz.prog 9 (plainElem Tryz.prog 4) w.heap.size 0 (seenK xs 0)) := Lib.hid (World.ownsMap_made w _ _ _)
  have HB : Hid (Below w.heap.size w (w.alloc (.map #[] 0))) := Lib.hid ((Below.refl _ w).alloc (Nat.le_refl _) _)
  go_loopw [9] (fun i wr => ∃ k : Nat, k ≤ xs.length ∧ i = .int .i64 k ∧ Hid (Below w.heap.size w wr) ∧ Hid (wr.ownsMap Tryz.prog 9 (plainElem Tryz.prog 4) w.heap.size k (seenK xs k)) ∧ Hid ((bytesOf (xs.take k)).Nodup)) (fun i _ => xs.length - (intOf i).toNat)
  case atStart => exact ⟨0, Nat.zero_le _, rfl, HB, HO, Lib.hid (by simp [bytesOf])⟩
  case round =>
    obtain ⟨k, hk, rfl, HB, HO, HD⟩ := hrel
    by_cases hlt : k < xs.length
    · obtain ⟨x, hx⟩ : ∃ x, xs[k]? = some x := ⟨_, List.getElem?_eq_getElem hlt⟩
      have HX := Lib.hid hx
      have hkey := Go.WideMaps.keyOf_string_mk (P := Tryz.prog) Tryz.underlying9 (HSo.out x (List.mem_of_getElem? hx))
      obtain ⟨c, hrun, hat⟩ := lookup_bool HO.out (string_keyed Tryz.underlying9) Tryz.underlying126 Tryz.underlying4 (Tryz.zeroValue4 _) hkey
      rw [seenK_at] at hat
      have HC : Hid (decide (x.data.toList ∈ bytesOf (xs.take k)) = c) := Lib.hid (by injection hat with h1; injection h1)
      rcases (HRo.out.kept HB.out) with h0 | ⟨A, rfl, hA, hcell⟩
      · rw [h0] at hlt; simp at hlt
      have hc := hcell k x hx
      have HK := Lib.hid hkey
      clear hcell hx hat hkey
      cases c with
      | true =>
        have E := Lib.hid (HY.out k x HX.out (of_decide_eq_true HC.out))
        go_wp2_with fail
        go_ret
        exact ⟨by rw [E.out]; rfl, HB.out⟩
      | false =>
        have HD' := Lib.hid (nodup_next xs k x HX.out HD.out (of_decide_eq_false HC.out))
        have hkm : k < maxLen := by unfold maxLen; omega
        go_wp2_with (at_mapUpdate; refine wpList_mapUpdate_own _ rfl _ _ _ 126 rfl 9 4 (string_keyed Tryz.underlying9) Tryz.underlying126 _ w.heap.size k (seenK xs k) rfl HO.out hkm _ _ (.string x.data.toList) rfl rfl HK.out (.lit (.bool true)) [] (plainElem_bool Tryz.underlying4 true) ?_; intro w1 ho hg)
        have HB' := Lib.hid (HB.out.grown hg HB.out.size (fun k h => by cases h; exact Nat.le_refl _))
        rw [← seenK_next xs k x HX.out] at ho
        have HO' := Lib.hid ho
        clear ho hg hrun
        go_wp2_with fail
        go_roundw
        case rel => exact ⟨k + 1, by omega, by go_num, HB', HO', HD'⟩
        case measure => simp [intOf]; omega
    · obtain rfl : k = xs.length := by omega
      have E := Lib.hid (HNn.out HD.out)
      go_wp2_with fail
      go_ret
      exact ⟨by rw [E.out]; rfl, HB.out⟩
end Go.Proofs.YtigijgcldgbokaaGreat
