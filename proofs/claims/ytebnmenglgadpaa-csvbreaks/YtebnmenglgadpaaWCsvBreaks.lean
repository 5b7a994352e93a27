/-
  Which break ends a record makes no difference, nor whether one stands behind the last one, if that is no single empty cell: the statement's walk.
-/
import Derived.WalkKit
import Derived.WalkMore
import Derived.Lib.Hide
import Derived.Test.YtebnmenglgadpaaProg
import Derived.Test.YtebnmenglgadpaaCsvLaw
import Derived.Test.YtebnmenglgadpaaCsvOpen2
namespace Go.Proofs.Ytebnmenglgadpaa
open Go.RowKit Go.Shelf

theorem same_fault (rs : List (List ByteArray)) (u : UInt8) (x y : Bool) (h : fewQ rs) : (printL rs u x).2 = (printL rs u y).2 := by
  by_cases hu : huge rs
  · have hl : rs.any largeRow = true := by
      obtain ⟨r, hr, c, hc, h1⟩ := hu
      exact List.any_eq_true.2 ⟨r, hr, by unfold largeRow; rw [List.any_eq_true.2 ⟨c, hc, decide_eq_true h1⟩]; simp⟩
    have ht : tooLarge rs = true := by unfold tooLarge; rw [hl]; simp
    unfold printL
    rw [ht]
    split
    · rfl
    · split
      · rfl
      · simp
  · have hp := few_kept rs h hu
    have h1 := few_text u x rs hp
    have h2 := few_text u y rs hp
    unfold printL
    split
    · rfl
    · split
      · rfl
      · split
        · rfl
        · rw [if_neg (by omega), if_neg (by omega)]
theorem rows_front (w : World) (ao : Option Addr) (init : List (List ByteArray)) (r : List ByteArray) (h : RowsAt w ao (init ++ [r])) : RowsAt w ao init ∧ ∃ A ro c, ao = some A ∧ A.block < w.heap.size ∧ w.cell? (A.add init.length) = some (.slice ro r.length c) ∧ StrRow w ro r := by
  rcases h with h | ⟨A, h1, h2, h3⟩
  · simp at h
  · refine ⟨.inr ⟨A, h1, h2, fun i x hx => h3 i x (by rw [List.getElem?_append_left (List.getElem?_eq_some_iff.1 hx).1]; exact hx)⟩, ?_⟩
    obtain ⟨ro, c, g1, g2⟩ := h3 init.length r (by simp)
    exact ⟨A, ro, c, h1, h2, g1, g2⟩
theorem text_short (init : Recs) (r : List (List UInt8)) (u : UInt8) (x : Bool) : textL (init ++ [r]) u x = (textL init u x ++ recL u r) ++ brkL x := by simp [textL, writeL]
theorem last_brk (A : List UInt8) (x : Bool) (n : Nat) (hn : (A ++ brkL x).length = n + 1) : brkI (A ++ brkL x) (n : Int) = 1 := by
  rw [brkI_nat]
  apply brk_at_one
  cases x with
  | true =>
    have : n = A.length + 1 := by simp [brkL] at hn; omega
    rw [this, at_shift]; rfl
  | false =>
    have : n = A.length + 0 := by simp [brkL] at hn; omega
    rw [this, at_shift]; rfl

/-- what is known where both texts are printed: N bytes stand ahead of the last break -/
theorem breaks_facts (init : List (List ByteArray)) (lr : List ByteArray) (u : UInt8) (x : Bool) (t : List UInt8) (h : printL (init ++ [lr]) u x = (t, 0)) (hq : fewQ (init ++ [lr])) :
    ∃ Sh : List UInt8, t = Sh ++ brkL x ∧ Sh.length ≤ 24120 ∧ parseL Sh (u.toNat : Int) = (if bytesOf lr = [[]] then recsOf init else recsOf (init ++ [lr]), 0, 0) ∧ (if bytesOf lr = [[]] then recsOf init else recsOf (init ++ [lr])).length ≤ 2048 ∧
      (∀ r ∈ (if bytesOf lr = [[]] then recsOf init else recsOf (init ++ [lr])), fine r) ∧ parseL t (u.toNat : Int) = (recsOf (init ++ [lr]), 0, 0) ∧ (recsOf (init ++ [lr])).length ≤ 2048 ∧ ∀ r ∈ recsOf (init ++ [lr]), fine r := by
  obtain ⟨g1, g2, g3, g4, g5, g6⟩ := print_ok _ u x t h
  have hr : recsOf (init ++ [lr]) = recsOf init ++ [bytesOf lr] := by simp [recsOf]
  have htx := few_text u x _ (few_kept _ hq g6)
  have hfi : ∀ r ∈ recsOf init, fine r := fun r hr' => g5 r (by rw [hr]; exact List.mem_append_left _ hr')
  have hfl : fine (bytesOf lr) := g5 _ (by rw [hr]; simp)
  rw [List.length_append] at g4
  simp only [List.length_cons, List.length_nil] at g4
  refine ⟨textL (recsOf init) u x ++ recL u (bytesOf lr), by rw [g2, hr]; exact text_short _ _ u x, ?_, ?_, ?_, ?_, ?_, by rw [hr]; simp [recs_length]; omega, g5⟩
  · rw [hr, text_short, List.length_append] at htx; omega
  · rw [hr, text_short, List.length_append] at htx
    have := parse_short u g1 x (recsOf init) (bytesOf lr) (by rw [recs_length]; omega) hfi hfl (by omega)
    rw [this, hr]
  · split
    · rw [recs_length]; omega
    · rw [hr]; simp [recs_length]; omega
  · split
    · exact hfi
    · exact g5
  · rw [g2]
    exact parse_text u g1 x _ (by rw [recs_length]; simp; omega) g5 (by omega)
theorem one_empty (lr : List ByteArray) : bytesOf lr = [[]] ↔ (lr.length = 1 ∧ ∀ c, lr[0]? = some c → c.data.toList = []) := by
  cases lr with
  | nil => simp [bytesOf]
  | cons c cs =>
    cases cs with
    | nil => simp [bytesOf]
    | cons c2 cs => simp [bytesOf]
theorem rows_bound (rs : List (List ByteArray)) (h : fewQ rs) : ∀ r ∈ rs, r.length ≤ 1099511627776 := fun r hr => by have := h.2.1 r hr; omega
def LenIs (l : List (List ByteArray)) (k : Nat) : Prop := l.length = k
theorem add_zero_addr (D : Addr) : D.add 0 = D := by unfold Addr.add; split <;> simp_all

set_option maxRecDepth 100000 in
set_option maxHeartbeats 8000000 in
theorem walkCsvBreaks (ao : Option Addr) (cap : Nat) (rs : List (List ByteArray)) (d : Int) (crlf : Bool) (w : World) (hn : rs.length ≤ maxLen) (hR : RowsAt w ao rs) (hs : sized rs) (_hz : ao = none → cap = 0) (hcap : rs.length ≤ cap) (hd : (Lit.int .u8 d).wf = true) :
    Calls Try.prog 6 #[.slice ao rs.length cap, .int .u8 d, .bool crlf] w fun e w' => e = .returned (.bool true) ∧ Below w.heap.size w w' := by
  obtain ⟨u, rfl⟩ := u8_of d hd
  have HR := Lib.hid hR; have HS := Lib.hid hs; have HN := Lib.hid hn
  clear hR hs hd hn _hz
  have F := Lib.hid (fun W (h : RowsAt W ao rs) => few_any ao cap rs W HN.out HS.out h)
  obtain ⟨m, hm⟩ : ∃ m, rs.length = m := ⟨_, rfl⟩
  rw [hm] at F hcap ⊢
  go_enter Try.func6, Try.ntmps6
  go_wp2_with fail
  refine (cworks_any _).mono ?_; rintro e w1 ⟨rfl, b1⟩
  have H1 := Lib.hid (HR.out.kept b1)
  have B1 := Lib.hid b1
  clear b1
  go_wp2_with fail
  refine (F.out w1 H1.out).mono ?_; rintro e w2 ⟨b, rfl, hb, rfl⟩
  have HBf := Lib.hid hb
  clear hb F
  cases b with
  | false =>
    go_wp2_with fail
    go_ret
    exact ⟨rfl, B1.out⟩
  | true =>
    have HQ := Lib.hid (HBf.out rfl)
    clear HBf
    rcases List.eq_nil_or_concat rs with hnil | ⟨init, lr, hrs⟩
    · have hm0 : m = 0 := by rw [← hm, hnil]; rfl
      subst hm0
      go_wp2_with fail
      go_ret
      exact ⟨rfl, B1.out⟩
    rw [List.concat_eq_append] at hrs
    subst hrs
    obtain ⟨k, hk⟩ : ∃ k, init.length = k := ⟨_, rfl⟩
    have HIn : LenIs init k := hk
    have hmk : m = k + 1 := by rw [← hm, ← hk]; simp
    subst hmk
    have HLen : LenIs (init ++ [lr]) (k + 1) := hm
    obtain ⟨q1, q2, q3⟩ := few_bounds _ HQ.out HS.out
    have hk60 : k ≤ 60 := by have := HQ.out.1; omega
    have P := Lib.hid (print_any u crlf ao cap _ w1 q1 q2 H1.out)
    have P2 := Lib.hid (fun W h => print_any u (!crlf) ao cap _ W q1 q2 h)
    rw [hm] at P P2
    have HSf := Lib.hid (same_fault _ u crlf (!crlf) HQ.out)
    clear q1 q2 q3 hk hm
    obtain ⟨yy, Hy⟩ : ∃ yy, Hid (yy = printL (init ++ [lr]) u crlf) := ⟨_, Lib.hid rfl⟩
    rw [← Hy.out] at P HSf
    obtain ⟨t, e⟩ := yy
    obtain ⟨T, HT⟩ : ∃ T : ByteArray, Hid (T = ⟨t.toArray⟩) := ⟨_, Lib.hid rfl⟩
    simp only [printV] at P
    rw [← HT.out] at P
    obtain ⟨z, Hz⟩ : ∃ z, Hid (z = printL (init ++ [lr]) u (!crlf)) := ⟨_, Lib.hid rfl⟩
    rw [← Hz.out] at P2 HSf
    obtain ⟨s, f⟩ := z
    obtain ⟨S, HSt⟩ : ∃ S : ByteArray, Hid (S = ⟨s.toArray⟩) := ⟨_, Lib.hid rfl⟩
    simp only [printV] at P2
    rw [← HSt.out] at P2
    go_wp2_with fail
    refine P.out.mono ?_; rintro e' w2 ⟨rfl, b2⟩
    have H2 := Lib.hid (H1.out.kept b2)
    have B2 := Lib.hid (below_up B1.out b2)
    clear b2 P H1 B1
    go_wp2_with fail
    refine (P2.out _ H2.out).mono ?_; rintro e' w3 ⟨rfl, b3⟩
    have H3 := Lib.hid (H2.out.kept b3)
    have B3 := Lib.hid (below_up B2.out b3)
    clear b3 P2 H2 B2
    by_cases he : e = 0
    · subst he
      by_cases hf : f = 0
      · subst hf
        obtain ⟨Sh, k1, k2, k3, k4, k5, x1, x2, x3⟩ := breaks_facts init lr u crlf t Hy.out.symm HQ.out
        obtain ⟨Sh2, j1, j2, x4, x5, x6, j6, j7, j8⟩ := breaks_facts init lr u (!crlf) s Hz.out.symm HQ.out
        have hss : S.size ≤ 30000 := by rw [← ba_size, HSt.out, mk_data, j1]; cases crlf <;> simp [brkL] <;> omega
        have C2 := Lib.hid (fun W => back_any S u W _ (by rw [HSt.out, mk_data]; exact j6) (by omega) j7 j8)
        obtain ⟨N, hN⟩ : ∃ N, Sh.length = N := ⟨_, rfl⟩
        have hNb : N ≤ 24120 := by omega
        obtain ⟨h3i, A3, ro3, rc3, hA3, hlt3, hld3, hrow3⟩ := rows_front w3 _ init lr H3.out
        cases hA3
        rw [show init.length = k from HIn] at hld3
        have hTd : T.data.toList = Sh ++ brkL crlf := by rw [HT.out, mk_data]; exact k1
        have C := Lib.hid (fun W => back_any (T.extract 0 N) u W _ (by rw [ba_ext, hTd, List.drop_zero, List.take_append_of_le_length (by omega), ← hN, List.take_length]; exact k3) (by simp; rw [← ba_size, hTd]; cases crlf <;> simp [brkL] <;> omega) k4 k5)
        have HRow3 := Lib.hid hrow3
        clear h3i hrow3 k1 k3 k4 k5 j1 j2 j6 j7 j8 hss x1 x2 x3 x4 x5 x6
        cases crlf with
        | false =>
          have hTs : T.size = N + 1 := by rw [← ba_size, hTd, ← hN]; simp [brkL]
          have BK := Lib.hid (fun W => break_any T (N : Int) W (by omega) (by omega) (by omega))
          rw [hTd, last_brk Sh false N (by simp [brkL]; omega), show ((1 : Nat) : Int) = 1 from rfl] at BK
          clear hTd hN k2
          go_wp2_with fail
          refine (BK.out _).mono ?_; rintro e' w3' ⟨rfl, rfl⟩
          go_wp2_with fail
          refine (C.out _).mono ?_; rintro e' w4 ⟨mo, mcap, ms, rfl, hm', b4⟩
          have H4 := Lib.hid (H3.out.kept b4)
          have HM := Lib.hid hm'
          have B4 := Lib.hid (below_up B3.out b4)
          have HRow4 := Lib.hid (HRow3.out.kept b4)
          clear b4 hm' C B3 H3 HRow3
          obtain ⟨h4i, A4, ro4, rc4, hA4, hlt4, hld4, hrow4⟩ := rows_front w4 _ init lr H4.out
          cases hA4
          have HI4 := Lib.hid h4i
          clear h4i hrow4
          by_cases hbe : bytesOf lr = [[]]
          · obtain ⟨hone, hemp⟩ := (one_empty lr).1 hbe
            obtain ⟨c, hc1⟩ : ∃ c, lr[0]? = some c := ⟨lr[0], List.getElem?_eq_getElem (by omega)⟩
            have hte : c.toList.isEmpty = true := by rw [ba_toList, hemp c hc1]; rfl
            have hrow' := HRow4.out
            rcases hrow' with h0 | ⟨D, rfl, hD, hcell⟩
            · rw [h0] at hone; simp at hone
            have hld := hcell 0 c hc1
            rw [show D.add 0 = D from add_zero_addr D] at hld
            have S := Lib.hid (fun W (h1 : RowsAt W mo ms) (h2 : RowsAt W (some A3) init) => rsame_any mo (some A3) mcap cap ms init W HM.out.2.2.1 HM.out.2.2.2 h1 h2)
            rw [same_true ms init (by have := HM.out.2.1; rw [if_pos hbe] at this; exact this), show init.length = k from HIn] at S
            have HOne := Lib.hid hone
            clear hbe hemp hcell hc1
            go_wp2_with fail
            refine (S.out _ HM.out.1 HI4.out).mono ?_; rintro e' w5 ⟨rfl, b5⟩
            go_wp2_with fail
            go_ret
            exact ⟨rfl, below_up B4.out b5⟩
          · have HNb := Lib.hid hbe
            have S1 := Lib.hid (fun W (h1 : RowsAt W mo ms) (h2 : RowsAt W (some A3) (init ++ [lr])) => rsame_any mo (some A3) mcap cap ms (init ++ [lr]) W HM.out.2.2.1 HM.out.2.2.2 h1 h2)
            rw [same_true ms (init ++ [lr]) (by have := HM.out.2.1; rw [if_neg hbe] at this; exact this), show (init ++ [lr]).length = k + 1 from HLen] at S1
            clear hbe
            by_cases hone : lr.length = 1
            · obtain ⟨c, hc1⟩ : ∃ c, lr[0]? = some c := ⟨lr[0], List.getElem?_eq_getElem (by omega)⟩
              have hte : c.toList.isEmpty = false := by
                rw [ba_toList]
                cases hce : c.data.toList with
                | nil => exact absurd ((one_empty lr).2 ⟨hone, fun c' hc' => by rw [hc1] at hc'; cases hc'; exact hce⟩) HNb.out
                | cons => rfl
              have hrow' := HRow4.out
              rcases hrow' with h0 | ⟨D, rfl, hD, hcell⟩
              · rw [h0] at hone; simp at hone
              have hld := hcell 0 c hc1
              rw [show D.add 0 = D from add_zero_addr D] at hld
              clear hcell hc1
              go_wp2_with fail
              refine (C2.out _).mono ?_; rintro e' w5 ⟨ko, kcap, ks, rfl, hk', b5⟩
              have S2 := Lib.hid (fun W (h1 : RowsAt W ko ks) (h2 : RowsAt W (some A3) (init ++ [lr])) => rsame_any ko (some A3) kcap cap ks (init ++ [lr]) W hk'.2.2.1 hk'.2.2.2 h1 h2)
              rw [same_true ks (init ++ [lr]) hk'.2.1, show (init ++ [lr]).length = k + 1 from HLen] at S2
              have H5 := Lib.hid (H4.out.kept b5)
              have HM5 := Lib.hid (HM.out.1.kept b5)
              have HK5 := Lib.hid hk'.1
              have B5 := Lib.hid (below_up B4.out b5)
              clear hk' b5
              go_wp2_with fail
              refine (S1.out _ HM5.out H5.out).mono ?_; rintro e' w6 ⟨rfl, b6⟩
              have H6 := Lib.hid (H5.out.kept b6)
              have HK6 := Lib.hid (HK5.out.kept b6)
              have B6 := Lib.hid (below_up B5.out b6)
              clear b6
              go_wp2_with fail
              refine (S2.out _ HK6.out H6.out).mono ?_; rintro e' w7 ⟨rfl, b7⟩
              go_wp2_with fail
              go_ret
              exact ⟨rfl, below_up B6.out b7⟩
            · have hone' : ((lr.length : Int) == 1) = false := by rw [beq_eq_false_iff_ne]; omega
              go_wp2_with fail
              refine (C2.out _).mono ?_; rintro e' w5 ⟨ko, kcap, ks, rfl, hk', b5⟩
              have S2 := Lib.hid (fun W (h1 : RowsAt W ko ks) (h2 : RowsAt W (some A3) (init ++ [lr])) => rsame_any ko (some A3) kcap cap ks (init ++ [lr]) W hk'.2.2.1 hk'.2.2.2 h1 h2)
              rw [same_true ks (init ++ [lr]) hk'.2.1, show (init ++ [lr]).length = k + 1 from HLen] at S2
              have H5 := Lib.hid (H4.out.kept b5)
              have HM5 := Lib.hid (HM.out.1.kept b5)
              have HK5 := Lib.hid hk'.1
              have B5 := Lib.hid (below_up B4.out b5)
              clear hk' b5
              go_wp2_with fail
              refine (S1.out _ HM5.out H5.out).mono ?_; rintro e' w6 ⟨rfl, b6⟩
              have H6 := Lib.hid (H5.out.kept b6)
              have HK6 := Lib.hid (HK5.out.kept b6)
              have B6 := Lib.hid (below_up B5.out b6)
              clear b6
              go_wp2_with fail
              refine (S2.out _ HK6.out H6.out).mono ?_; rintro e' w7 ⟨rfl, b7⟩
              go_wp2_with fail
              go_ret
              exact ⟨rfl, below_up B6.out b7⟩
        | true =>
          have hTs : T.size = N + 2 := by rw [← ba_size, hTd, ← hN]; simp [brkL]
          have BK := Lib.hid (fun W => break_any T ((N : Int) + 2 - 1) W (by omega) (by omega) (by omega))
          rw [hTd, show ((N : Int) + 2 - 1) = ((N + 1 : Nat) : Int) from by omega, last_brk Sh true (N + 1) (by simp [brkL]; omega), show ((N + 1 : Nat) : Int) = (N : Int) + 2 - 1 from by omega, show ((1 : Nat) : Int) = 1 from rfl] at BK
          clear hTd hN k2
          go_wp2_with fail
          refine (BK.out _).mono ?_; rintro e' w3' ⟨rfl, rfl⟩
          go_wp2_with fail
          refine (C.out _).mono ?_; rintro e' w4 ⟨mo, mcap, ms, rfl, hm', b4⟩
          have H4 := Lib.hid (H3.out.kept b4)
          have HM := Lib.hid hm'
          have B4 := Lib.hid (below_up B3.out b4)
          have HRow4 := Lib.hid (HRow3.out.kept b4)
          clear b4 hm' C B3 H3 HRow3
          obtain ⟨h4i, A4, ro4, rc4, hA4, hlt4, hld4, hrow4⟩ := rows_front w4 _ init lr H4.out
          cases hA4
          have HI4 := Lib.hid h4i
          clear h4i hrow4
          by_cases hbe : bytesOf lr = [[]]
          · obtain ⟨hone, hemp⟩ := (one_empty lr).1 hbe
            obtain ⟨c, hc1⟩ : ∃ c, lr[0]? = some c := ⟨lr[0], List.getElem?_eq_getElem (by omega)⟩
            have hte : c.toList.isEmpty = true := by rw [ba_toList, hemp c hc1]; rfl
            have hrow' := HRow4.out
            rcases hrow' with h0 | ⟨D, rfl, hD, hcell⟩
            · rw [h0] at hone; simp at hone
            have hld := hcell 0 c hc1
            rw [show D.add 0 = D from add_zero_addr D] at hld
            have S := Lib.hid (fun W (h1 : RowsAt W mo ms) (h2 : RowsAt W (some A3) init) => rsame_any mo (some A3) mcap cap ms init W HM.out.2.2.1 HM.out.2.2.2 h1 h2)
            rw [same_true ms init (by have := HM.out.2.1; rw [if_pos hbe] at this; exact this), show init.length = k from HIn] at S
            have HOne := Lib.hid hone
            clear hbe hemp hcell hc1
            go_wp2_with fail
            refine (S.out _ HM.out.1 HI4.out).mono ?_; rintro e' w5 ⟨rfl, b5⟩
            go_wp2_with fail
            go_ret
            exact ⟨rfl, below_up B4.out b5⟩
          · have HNb := Lib.hid hbe
            have S1 := Lib.hid (fun W (h1 : RowsAt W mo ms) (h2 : RowsAt W (some A3) (init ++ [lr])) => rsame_any mo (some A3) mcap cap ms (init ++ [lr]) W HM.out.2.2.1 HM.out.2.2.2 h1 h2)
            rw [same_true ms (init ++ [lr]) (by have := HM.out.2.1; rw [if_neg hbe] at this; exact this), show (init ++ [lr]).length = k + 1 from HLen] at S1
            clear hbe
            by_cases hone : lr.length = 1
            · obtain ⟨c, hc1⟩ : ∃ c, lr[0]? = some c := ⟨lr[0], List.getElem?_eq_getElem (by omega)⟩
              have hte : c.toList.isEmpty = false := by
                rw [ba_toList]
                cases hce : c.data.toList with
                | nil => exact absurd ((one_empty lr).2 ⟨hone, fun c' hc' => by rw [hc1] at hc'; cases hc'; exact hce⟩) HNb.out
                | cons => rfl
              have hrow' := HRow4.out
              rcases hrow' with h0 | ⟨D, rfl, hD, hcell⟩
              · rw [h0] at hone; simp at hone
              have hld := hcell 0 c hc1
              rw [show D.add 0 = D from add_zero_addr D] at hld
              clear hcell hc1
              go_wp2_with fail
              refine (C2.out _).mono ?_; rintro e' w5 ⟨ko, kcap, ks, rfl, hk', b5⟩
              have S2 := Lib.hid (fun W (h1 : RowsAt W ko ks) (h2 : RowsAt W (some A3) (init ++ [lr])) => rsame_any ko (some A3) kcap cap ks (init ++ [lr]) W hk'.2.2.1 hk'.2.2.2 h1 h2)
              rw [same_true ks (init ++ [lr]) hk'.2.1, show (init ++ [lr]).length = k + 1 from HLen] at S2
              have H5 := Lib.hid (H4.out.kept b5)
              have HM5 := Lib.hid (HM.out.1.kept b5)
              have HK5 := Lib.hid hk'.1
              have B5 := Lib.hid (below_up B4.out b5)
              clear hk' b5
              go_wp2_with fail
              refine (S1.out _ HM5.out H5.out).mono ?_; rintro e' w6 ⟨rfl, b6⟩
              have H6 := Lib.hid (H5.out.kept b6)
              have HK6 := Lib.hid (HK5.out.kept b6)
              have B6 := Lib.hid (below_up B5.out b6)
              clear b6
              go_wp2_with fail
              refine (S2.out _ HK6.out H6.out).mono ?_; rintro e' w7 ⟨rfl, b7⟩
              go_wp2_with fail
              go_ret
              exact ⟨rfl, below_up B6.out b7⟩
            · have hone' : ((lr.length : Int) == 1) = false := by rw [beq_eq_false_iff_ne]; omega
              go_wp2_with fail
              refine (C2.out _).mono ?_; rintro e' w5 ⟨ko, kcap, ks, rfl, hk', b5⟩
              have S2 := Lib.hid (fun W (h1 : RowsAt W ko ks) (h2 : RowsAt W (some A3) (init ++ [lr])) => rsame_any ko (some A3) kcap cap ks (init ++ [lr]) W hk'.2.2.1 hk'.2.2.2 h1 h2)
              rw [same_true ks (init ++ [lr]) hk'.2.1, show (init ++ [lr]).length = k + 1 from HLen] at S2
              have H5 := Lib.hid (H4.out.kept b5)
              have HM5 := Lib.hid (HM.out.1.kept b5)
              have HK5 := Lib.hid hk'.1
              have B5 := Lib.hid (below_up B4.out b5)
              clear hk' b5
              go_wp2_with fail
              refine (S1.out _ HM5.out H5.out).mono ?_; rintro e' w6 ⟨rfl, b6⟩
              have H6 := Lib.hid (H5.out.kept b6)
              have HK6 := Lib.hid (HK5.out.kept b6)
              have B6 := Lib.hid (below_up B5.out b6)
              clear b6
              go_wp2_with fail
              refine (S2.out _ HK6.out H6.out).mono ?_; rintro e' w7 ⟨rfl, b7⟩
              go_wp2_with fail
              go_ret
              exact ⟨rfl, below_up B6.out b7⟩
      · have hne : ((f : Int) != 0) = true := by simpa using hf
        have hef := HSf.out
        exact absurd hef.symm hf
    · have hne : ((e : Int) != 0) = true := by simpa using he
      have hef := HSf.out
      subst hef
      clear he
      go_wp2_with fail
      go_ret
      exact ⟨by simp, B3.out⟩
end Go.Proofs.Ytebnmenglgadpaa
