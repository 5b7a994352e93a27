/-
  The text of records: the program's answer.
  Conditions: slices of at most 2^40 elements, texts of at most 2^40 bytes (the statements ask about far smaller ones).
-/
import Derived.WalkKit
import Derived.WalkMore
import Derived.Lib.Hide
import Derived.Lib.AppendStr
import Derived.Laws.BytesArg
import Derived.Laws.AppendOwnNone
import Derived.Test.YtacclgfpmkhodaaProg
import Derived.Test.YtacclgfpmkhodaaCsvSame
namespace Go.Proofs.Ytacclgfpmkhodaa
open Go.RowKit Go.Shelf

set_option maxRecDepth 100000 in
set_option maxHeartbeats 2000000 in
theorem indexRow_any (G : FuncId) (p : List ByteArray → Bool) (ao : Option Addr) (cap : Nat) (xs : List (List ByteArray)) (w : World) (hn : xs.length ≤ 1099511627776) (hR : RowsAt w ao xs)
    (hent : ∀ args w, (callFunc G args).run Try.prog w = .ok (.enter G args) w) (hG : ∀ r ∈ xs, ∀ ro c, StrRow w ro r → Calls Try.prog G #[.slice ro r.length c] w fun e w' => e = .returned (.bool (p r)) ∧ w = w') :
    Calls Try.prog 32 #[.slice ao xs.length cap, .func (.func G) #[] #[]] w fun e w' => e = .returned (.int .i64 (firstAt p xs)) ∧ w = w' := by
  have HG := Lib.hid hG
  have HRo := Lib.hid hR
  have HF := Lib.hid (firstAt_none p xs)
  have HS := Lib.hid (firstAt_some p xs)
  clear hG hR
  generalize firstAt p xs = F at HF HS ⊢
  go_enter Try.func32, Try.ntmps32
  go_wp2_with fail
  go_loopw [8] (fun i wr => ∃ k : Nat, k ≤ xs.length ∧ i = .int .i64 k ∧ wr = w ∧ Hid (∀ (j : Nat) c, j < k → xs[j]? = some c → p c = false)) (fun i _ => xs.length - (intOf i).toNat)
  case atStart => exact ⟨0, Nat.zero_le _, rfl, rfl, Lib.hid (fun j c h _ => by omega)⟩
  case round =>
    obtain ⟨k, hk, rfl, rfl, HN⟩ := hrel
    by_cases hlt : k < xs.length
    · obtain ⟨x, hx⟩ : ∃ x, xs[k]? = some x := ⟨_, List.getElem?_eq_getElem hlt⟩
      have HX := Lib.hid hx
      rcases HRo.out with h0 | ⟨A, rfl, hA, hcell⟩
      · rw [h0] at hlt; simp at hlt
      obtain ⟨ro, rc, hc, hs⟩ := hcell k x hx
      have C := Lib.hid (HG.out x (List.mem_of_getElem? hx) ro rc hs)
      clear hcell hx hs
      cases hp : p x with
      | true =>
        rw [hp] at C
        have E := Lib.hid (HS.out k x HX.out hp HN.out)
        go_wp2_with fail
        refine C.out.mono ?_; rintro e w' ⟨rfl, rfl⟩
        go_wp2_with fail
        go_ret
        exact ⟨by rw [E.out]; rfl, rfl⟩
      | false =>
        rw [hp] at C
        have HN' : Hid (∀ (j : Nat) c, j < k + 1 → xs[j]? = some c → p c = false) := Lib.hid (fun j c hj hc' => by
          by_cases e : j = k
          · subst e; rw [HX.out] at hc'; cases hc'; exact hp
          · exact HN.out j c (by omega) hc')
        go_wp2_with fail
        refine C.out.mono ?_; rintro e w' ⟨rfl, rfl⟩
        go_wp2_with fail
        go_roundw
        case rel => exact ⟨k + 1, by omega, by go_num, by first | rfl | trivial, HN'⟩
        case measure => simp [intOf]; omega
    · obtain rfl : k = xs.length := by omega
      have E := Lib.hid (HF.out (fun j c hc => HN.out j c (by obtain ⟨h, _⟩ := List.getElem?_eq_some_iff.1 hc; exact h) hc))
      go_wp2_with fail
      go_ret
      exact ⟨by rw [E.out]; rfl, rfl⟩
theorem hasRow_any (G : FuncId) (p : List ByteArray → Bool) (ao : Option Addr) (cap : Nat) (xs : List (List ByteArray)) (w : World) (hn : xs.length ≤ 1099511627776) (hR : RowsAt w ao xs)
    (hent : ∀ args w, (callFunc G args).run Try.prog w = .ok (.enter G args) w) (hG : ∀ r ∈ xs, ∀ ro c, StrRow w ro r → Calls Try.prog G #[.slice ro r.length c] w fun e w' => e = .returned (.bool (p r)) ∧ w = w') :
    Calls Try.prog 19 #[.slice ao xs.length cap, .func (.func G) #[] #[]] w fun e w' => e = .returned (.bool (xs.any p)) ∧ w = w' := by
  have C := Lib.hid (indexRow_any G p ao cap xs w hn hR hent hG)
  have E := Lib.hid (any_at p xs)
  clear hG hR hent
  generalize firstAt p xs = F at C E
  go_enter Try.func19, Try.ntmps19
  go_wp2_with fail
  refine C.out.mono ?_; rintro e w' ⟨rfl, rfl⟩
  go_wp2_with fail
  go_ret
  exact ⟨by rw [← E.out]; simp, rfl⟩

/-- the text of records, one behind the other -/
def textL (rs : Recs) (d : UInt8) (crlf : Bool) : List UInt8 := rs.flatMap fun r => writeL r d crlf
def bareRow (r : List ByteArray) : Bool := decide (r.length = 0)
def tooLarge (rs : List (List ByteArray)) : Bool := decide (2048 < rs.length) || rs.any largeRow
def printL (rs : List (List ByteArray)) (d : UInt8) (crlf : Bool) : List UInt8 × Nat :=
  if goodI (d.toNat : Int) = false then ([], 2) else if rs.any bareRow = true then ([], 1) else if tooLarge rs = true then ([], 7)
  else if 4194304 < (textL (recsOf rs) d crlf).length then ([], 7) else (textL (recsOf rs) d crlf, 0)
def printV (x : List UInt8 × Nat) : Value := .tuple #[.string ⟨x.1.toArray⟩, .int .i64 (x.2 : Int)]
theorem text_next (rs : List (List ByteArray)) (k : Nat) (r : List ByteArray) (h : rs[k]? = some r) (d : UInt8) (crlf : Bool) : textL (recsOf (rs.take (k + 1))) d crlf = textL (recsOf (rs.take k)) d crlf ++ writeL (bytesOf r) d crlf := by
  obtain ⟨hk, e⟩ := List.getElem?_eq_some_iff.1 h
  rw [List.take_succ_eq_append_getElem hk, e]; simp [recsOf, textL]
theorem text_part (rs : List (List ByteArray)) (k : Nat) (d : UInt8) (crlf : Bool) : (textL (recsOf (rs.take k)) d crlf).length ≤ (textL (recsOf rs) d crlf).length := by
  have h2 : textL (recsOf rs) d crlf = textL (recsOf (rs.take k)) d crlf ++ textL (recsOf (rs.drop k)) d crlf := by
    simp only [recsOf, textL, ← List.flatMap_append, ← List.map_append, List.take_append_drop]
  rw [h2]; simp
theorem write_le (xs : List ByteArray) (d : UInt8) (crlf : Bool) (hn : xs.length ≤ 1000) (hx : ∀ c ∈ xs, c.size ≤ 10000) : (writeL (bytesOf xs) d crlf).length ≤ 20003002 := by
  have := rec_le d xs xs.length hn hx
  rw [List.take_length] at this
  have hb : (brkL crlf).length ≤ 2 := by cases crlf <;> decide
  simp only [writeL, List.length_append]; omega
theorem row_small (r : List ByteArray) (h : largeRow r = false) : r.length ≤ 1000 ∧ ∀ c ∈ r, c.size ≤ 10000 := by
  unfold largeRow at h
  simp only [Bool.or_eq_false_iff, decide_eq_false_iff_not, List.any_eq_false, decide_eq_true_eq] at h
  exact ⟨by omega, fun c hc => by have := h.2 c hc; omega⟩
theorem ret_print {t : ByteArray} {n : Int} {x : List UInt8 × Nat} (h1 : t.data.toList = x.1) (h2 : n = (x.2 : Int)) : Ending.returned (.tuple #[.string t, .int .i64 n]) = .returned (printV x) := by
  unfold printV; rw [h2, ← h1]

set_option maxRecDepth 100000 in
set_option maxHeartbeats 4000000 in
theorem print_any (d : UInt8) (crlf : Bool) (ao : Option Addr) (cap : Nat) (rs : List (List ByteArray)) (w : World) (hn : rs.length ≤ 1099511627776) (hx : ∀ r ∈ rs, r.length ≤ 1099511627776 ∧ ∀ c ∈ r, c.size ≤ 9223372036854775807) (hR : RowsAt w ao rs) :
    Calls Try.prog 8 #[.slice ao rs.length cap, .int .u8 (d.toNat : Int), .bool crlf] w fun e w' => e = .returned (printV (printL rs d crlf)) ∧ Below w.heap.size w w' := by
  have G := Lib.hid (fun w => good_any (d.toNat : Int) w)
  have C1 := Lib.hid (hasRow_any 20 bareRow ao cap rs w hn hR (enters_of Try.func20 (by kernel_rfl) rfl) (fun r hr ro c _ => bare_any ro r.length c w (hx r hr).1))
  have C2 := Lib.hid (fun W => largeL_any ao rs.length cap 0 2048 W hn (by decide))
  have C3 := Lib.hid (hasRow_any 21 largeRow ao cap rs w hn hR (enters_of Try.func21 (by kernel_rfl) rfl) (fun r hr ro c hs => largeRecord_any ro c r w (hx r hr).1 (hx r hr).2 hs))
  obtain ⟨x, HP⟩ : ∃ x, Hid (x = printL rs d crlf) := ⟨_, Lib.hid rfl⟩
  rw [← HP.out]
  have HRo := Lib.hid hR
  clear hR hx
  by_cases hg : goodI (d.toNat : Int) = false
  · have E := Lib.hid (show x = ([], 2) by rw [HP.out]; unfold printL; rw [if_pos hg])
    rw [hg] at G
    clear hg
    go_enter Try.func8, Try.ntmps8
    go_wp2_with fail
    refine (G.out _).mono ?_; rintro e w' ⟨rfl, rfl⟩
    go_wp2_with fail
    go_ret2
    exact ⟨ret_print (by rw [E.out]) (by rw [E.out]; rfl), Below.refl _ _⟩
  have hg' : goodI (d.toNat : Int) = true := by simpa using hg
  rw [hg'] at G
  by_cases hb : rs.any bareRow = true
  · have E := Lib.hid (show x = ([], 1) by rw [HP.out]; unfold printL; rw [if_neg hg, if_pos hb])
    rw [hb] at C1
    clear hg hb hg'
    go_enter Try.func8, Try.ntmps8
    go_wp2_with fail
    refine (G.out _).mono ?_; rintro e w' ⟨rfl, rfl⟩
    go_wp2_with fail
    refine C1.out.mono ?_; rintro e w' ⟨rfl, rfl⟩
    go_wp2_with fail
    go_ret2
    exact ⟨ret_print (by rw [E.out]) (by rw [E.out]; rfl), Below.refl _ _⟩
  have hb' : rs.any bareRow = false := by simpa using hb
  rw [hb'] at C1
  by_cases hl : decide (2048 < rs.length + 0) = true
  · have E := Lib.hid (show x = ([], 7) by rw [HP.out]; unfold printL tooLarge; rw [if_neg hg, if_neg hb, if_pos (by rw [Nat.add_zero] at hl; rw [hl]; rfl)])
    rw [hl] at C2
    clear hg hb hg' hb' hl
    go_enter Try.func8, Try.ntmps8
    go_wp2_with fail
    refine (G.out _).mono ?_; rintro e w' ⟨rfl, rfl⟩
    go_wp2_with fail
    refine C1.out.mono ?_; rintro e w' ⟨rfl, rfl⟩
    go_wp2_with fail
    refine (C2.out _).mono ?_; rintro e w' ⟨rfl, rfl⟩
    go_wp2_with fail
    go_ret2
    exact ⟨ret_print (by rw [E.out]) (by rw [E.out]; rfl), Below.refl _ _⟩
  have hl' : decide (2048 < rs.length + 0) = false := by simpa using hl
  have hlen : rs.length ≤ 2048 := by have := of_decide_eq_false hl'; omega
  rw [hl'] at C2
  by_cases hr : rs.any largeRow = true
  · have E := Lib.hid (show x = ([], 7) by rw [HP.out]; unfold printL tooLarge; rw [if_neg hg, if_neg hb, if_pos (by rw [hr]; simp)])
    rw [hr] at C3
    clear hg hb hg' hb' hl hl' hr
    go_enter Try.func8, Try.ntmps8
    go_wp2_with fail
    refine (G.out _).mono ?_; rintro e w' ⟨rfl, rfl⟩
    go_wp2_with fail
    refine C1.out.mono ?_; rintro e w' ⟨rfl, rfl⟩
    go_wp2_with fail
    refine (C2.out _).mono ?_; rintro e w' ⟨rfl, rfl⟩
    go_wp2_with fail
    refine C3.out.mono ?_; rintro e w' ⟨rfl, rfl⟩
    go_wp2_with fail
    go_ret2
    exact ⟨ret_print (by rw [E.out]) (by rw [E.out]; rfl), Below.refl _ _⟩
  have hr' : rs.any largeRow = false := by simpa using hr
  rw [hr'] at C3
  have HP2 : Hid (x = if 4194304 < (textL (recsOf rs) d crlf).length then ([], 7) else (textL (recsOf rs) d crlf, 0)) := Lib.hid (by
    rw [HP.out]; unfold printL tooLarge; rw [if_neg hg, if_neg hb, if_neg (by rw [hr']; rw [Nat.add_zero] at hl'; rw [hl']; simp)])
  have HSm : Hid (∀ r ∈ rs, r.length ≤ 1000 ∧ ∀ c ∈ r, c.size ≤ 10000) := Lib.hid (fun r hr => row_small r (by have := List.any_eq_false.1 hr' r hr; simpa using this))
  have hinfo : (Try.prog.info? 5).map (fun i => (i.zero, i.size, i.bytes)) = some (some (.int .u8 0), 1, 1) := by kernel_rfl
  obtain ⟨i0, hi, hz0, hz1, hz2⟩ := info_parts hinfo
  have HI := Lib.hid hi
  clear hg hb hg' hb' hl hl' hr hr' HP hi hinfo
  go_enter Try.func8, Try.ntmps8
  go_wp2_with fail
  refine (G.out _).mono ?_; rintro e w' ⟨rfl, rfl⟩
  go_wp2_with fail
  refine C1.out.mono ?_; rintro e w' ⟨rfl, rfl⟩
  go_wp2_with fail
  refine (C2.out _).mono ?_; rintro e w' ⟨rfl, rfl⟩
  go_wp2_with fail
  refine C3.out.mono ?_; rintro e w' ⟨rfl, rfl⟩
  clear C1 C2 C3 G
  go_wp2_with fail
  go_loopw [8, 28] (fun p i wr => ∃ (k n cp : Nat) (po : Option Addr) (t : List UInt8), k ≤ rs.length ∧ p = .slice po n cp ∧ i = .int .i64 k ∧ n = t.length ∧ t.length ≤ 4194304 ∧ Hid (t = textL (recsOf (rs.take k)) d crlf) ∧
    Hid (wr.ownsRow w.heap.size 5 1 (.slice po n cp) n (Lib.byteCells t)) ∧ Hid (Below w.heap.size w wr)) (fun _ i _ => rs.length - (intOf i).toNat)
  case atStart => exact ⟨0, 0, 0, none, [], Nat.zero_le _, rfl, rfl, rfl, by decide, Lib.hid rfl, Lib.hid (World.ownsRow_nil _ _ _ _), Lib.hid (Below.refl _ _)⟩
  case round =>
    obtain ⟨k, n, cp, po, t, hk, rfl, rfl, hnt, ht, HT, HO, HB⟩ := hrel
    by_cases hlt : k < rs.length
    · obtain ⟨r, hr⟩ : ∃ r, rs[k]? = some r := ⟨_, List.getElem?_eq_getElem hlt⟩
      have HN := Lib.hid (text_next rs k r hr d crlf)
      have hsm := HSm.out r (List.mem_of_getElem? hr)
      have hwl := write_le r d crlf hsm.1 hsm.2
      rcases HRo.out.kept HB.out with h0 | ⟨A, rfl, hA, hcell⟩
      · rw [h0] at hlt; simp at hlt
      obtain ⟨ro, rc, hc, hs⟩ := hcell k r hr
      have Wc := Lib.hid (write_any d crlf ro rc r wr hsm.1 hsm.2 hs)
      have HPart := Lib.hid (text_part rs (k + 1) d crlf)
      clear hcell hs hsm
      obtain ⟨T, HTT, hT⟩ : ∃ T : ByteArray, Hid (T.data.toList = writeL (bytesOf r) d crlf) ∧ T = ⟨(writeL (bytesOf r) d crlf).toArray⟩ := ⟨_, Lib.hid rfl, rfl⟩
      rw [← hT] at Wc
      have hTs : T.size ≤ 20003002 := by rw [← ba_size, HTT.out]; exact hwl
      clear hT hwl
      have LB := Lib.hid (fun W => largeB_any po n cp T.size 4194304 W (by omega) (by omega))
      have HNT := Lib.hid hnt
      go_wp2_with fail
      refine Wc.out.mono ?_; rintro e w1 ⟨rfl, b1⟩
      have HB1 := Lib.hid (below_up HB.out b1)
      have HO1 := Lib.hid (HO.out.kept (row := none) ⟨b1.os, b1.tape, b1.output, b1.size, fun i hi _ => b1.block i hi⟩ (by
        cases hq : (Value.slice po n cp).ownBlock with
        | none => exact .inl rfl
        | some g => exact .inr (by simp)))
      clear b1 HO HB hc hA
      by_cases hbig : decide (4194304 < n + T.size) = true
      · rw [hbig] at LB
        have E := Lib.hid (show x = ([], 7) by
          rw [HP2.out, if_pos]
          have h1 := HPart.out
          rw [HN.out, ← HT.out, ← HTT.out, List.length_append, ba_size] at h1
          have := of_decide_eq_true hbig
          rw [HNT.out] at this; omega)
        clear hbig hnt
        go_wp2_with fail
        refine (LB.out _).mono ?_; rintro e w2 ⟨rfl, rfl⟩
        go_wp2_with fail
        go_ret2
        exact ⟨ret_print (by rw [E.out]) (by rw [E.out]; rfl), HB1.out⟩
      · have hbig' : decide (4194304 < n + T.size) = false := by simpa using hbig
        have hsum : n + T.size ≤ 4194304 := by have := of_decide_eq_false hbig'; omega
        rw [hbig'] at LB
        clear hbig hbig' hnt
        go_wp2_with fail
        refine (LB.out _).mono ?_; rintro e w2 ⟨rfl, rfl⟩
        go_wp2_with (at_builtin; refine Lib.wpList_append_own_string _ rfl _ _ 48 9 rfl w.heap.size 5 i0 Try.underlying48 Try.underlying9 HI.out hz0 hz1 hz2 _ _ _ rfl HO1.out T rfl ?c1 ?c2 ?c3 ?_)
        case c1 => unfold maxLen; omega
        case c2 => omega
        case c3 => exact HB1.out.size
        intro v' w3 hown' hgrow _
        obtain ⟨po', cp', rfl⟩ : ∃ po' cp', v' = .slice po' (n + T.size) cp' := by
          rcases hown'.2 with ⟨hv, h0⟩ | ⟨g, cap', cur, hv, _⟩
          · exact ⟨none, 0, by rw [hv, h0]⟩
          · exact ⟨_, cap', hv⟩
        have HB3 : Hid (Below w.heap.size w w3) := Lib.hid (HB1.out.grown hgrow HB1.out.size (fun j hj => (HO1.out.lt j hj).1))
        have HO3 : Hid (w3.ownsRow w.heap.size 5 1 (.slice po' (n + T.size) cp') (n + T.size) (Lib.byteCells (t ++ T.data.toList))) := Lib.hid (by rw [← str_byte]; exact hown')
        have HT3 : Hid (t ++ T.data.toList = textL (recsOf (rs.take (k + 1))) d crlf) := Lib.hid (by rw [HN.out, ← HT.out, ← HTT.out])
        have HL3 : Hid (n + T.size = (t ++ T.data.toList).length) := Lib.hid (by rw [List.length_append, ba_size, HNT.out])
        clear hown' hgrow HO1 HB1
        go_wp2_with fail
        go_roundw
        case rel => exact ⟨k + 1, n + T.size, cp', po', _, by omega, rfl, by go_num, HL3.out, by rw [← HL3.out]; exact hsum, HT3, HO3, HB3⟩
        case measure => simp [intOf]; omega
    · obtain rfl : k = rs.length := by omega
      have E : Hid (x = (t, 0)) := Lib.hid (by
        have h1 := HT.out
        rw [List.take_length] at h1
        rw [HP2.out, ← h1, if_neg (by omega)])
      have hcv : (convert 48 9 (.slice po n cp)).run Try.prog wr = .ok (.string ⟨t.toArray⟩) wr := by
        rcases HO.out.2 with ⟨hv, h0⟩ | ⟨g, cap', cur, hv, _⟩
        · cases hv
          have : t = [] := List.eq_nil_of_length_eq_zero (by omega)
          subst this
          exact run_convert_bytes_nil (P := Try.prog) wr 48 5 Try.underlying48 Try.underlying5 _ _ _ Try.underlying9
        · cases hv
          rw [hnt]
          exact run_convert_bytes_back wr 48 9 5 ⟨g, 0, none⟩ cp t Try.underlying48 Try.underlying5 Try.underlying9 (fun j hj => HO.out.cells rfl j _ (by simp [Lib.byteCells, hj]))
      clear hnt
      go_wp2_with fail
      go_ret2
      exact ⟨ret_print (by rw [E.out]) (by rw [E.out]; rfl), HB.out⟩
end Go.Proofs.Ytacclgfpmkhodaa
