/-
  The walk of the statement TableBack.
  Conditions: none beyond the form of claims.
-/
import Derived.WalkKit
import Derived.WalkMore
import Derived.Lib.Hide
import Derived.Test.YtgbmpcfnbdbpgaaProg
import Derived.Test.YtgbmpcfnbdbpgaaWTableOf
namespace Go.Proofs.Ytgbmpcfnbdbpgaa
open Go.RowKit Go.Shelf
set_option linter.unusedVariables false

/-- Of, whatever records there are, within wide bounds -/
theorem of_ok (ao : Option Addr) (cap : Nat) (rs : List (List ByteArray)) (w : World) (hn : rs.length ≤ 1099511627776) (hs : ∀ r ∈ rs, r.length ≤ 1099511627776 ∧ ∀ c ∈ r, c.size ≤ 281474976710656) (hsum : sumT rs.flatten ≤ 1152921504606846976) (hc : rs.length ≤ cap) (hR : RowsAt w ao rs) :
    Calls Try.prog 27 #[.slice ao rs.length cap] w (OfPost rs w) := by
  cases rs with
  | nil => exact of_nil ao cap w
  | cons x t =>
    obtain ⟨A, rfl⟩ : ∃ A, ao = some A := by rcases hR with h | ⟨A, h, _⟩; cases h; exact ⟨A, h⟩
    have hx := hs x List.mem_cons_self
    simp only [List.length_cons] at hn hc
    by_cases h1 : cap = 1
    · subst h1
      obtain rfl : t = [] := List.eq_nil_of_length_eq_zero (by omega)
      exact of_one A x w hx.1 hx.2 hsum hR
    · exact of_more A cap x t w hc h1 hx.1 hx.2 (by omega) (fun r hr => hs r (List.mem_cons_of_mem _ hr)) hsum hR
theorem of_bad (l : List (List ByteArray)) (h : ofErr l ≠ 0) : ofHead l = [] ∧ ofRows l = [] := by
  cases l with
  | nil => exact ⟨rfl, rfl⟩
  | cons x t => simp only [ofErr] at h; simp [ofHead, ofRows, h]
theorem of_good (l : List (List ByteArray)) (h : ofErr l = 0) : l = ofHead l :: ofRows l ∧ checkI (ofHead l) (ofRows l) = 0 := by
  cases l with
  | nil => simp [ofErr] at h
  | cons x t => simp only [ofErr] at h; simp [ofHead, ofRows, h]
/-- a small table's bounds -/
theorem fewT_bounds (hd : List ByteArray) (rs : List (List ByteArray)) (h : fewT hd rs) : hd.length ≤ 60 ∧ rs.length ≤ 60 ∧ (∀ c ∈ hd, c.size ≤ 8000) ∧ (∀ r ∈ rs, r.length ≤ 60 ∧ ∀ c ∈ r, c.size ≤ 8000) ∧ sumT (allT hd rs) ≤ 8000 := by
  obtain ⟨h1, h2, h3⟩ := h
  obtain ⟨b1, b2, b3, b4⟩ := few_bounds rs h1
  refine ⟨h2, b1, fun c hc => ?_, fun r hr => ⟨b2 r hr, b3 r hr⟩, h3⟩
  obtain ⟨a, b, e⟩ := List.append_of_mem hc
  rw [allT, e] at h3; simp [sumT] at h3; omega
theorem tab_box {w W : World} {ho : Option Addr} {m hc : Nat} {ro : Option Addr} {k rc : Nat} (h : Below (w.alloc (TabO ho m hc ro k rc)).heap.size (w.alloc (TabO ho m hc ro k rc)) W) : W.cell? ⟨w.heap.size, 0, none⟩ = some (.slice ho m hc) ∧ W.cell? ⟨w.heap.size, 1, none⟩ = some (.slice ro k rc) :=
  tabs ((h.block _ (by simp)).trans (World.alloc_heap_new w _))
theorem sameRow_refl (xs : List ByteArray) : sameRow xs xs = true := by simp [sameRow]
theorem sameRecs_refl (xs : List (List ByteArray)) : sameRecs xs xs = true := by simp [sameRecs]

set_option maxRecDepth 100000 in
set_option maxHeartbeats 4000000 in
theorem walkTableBack (ho : Option Addr) (hc : Nat) (hd : List ByteArray) (ro : Option Addr) (rc : Nat) (rs : List (List ByteArray)) (ao : Option Addr) (cap : Nat) (ls : List (List ByteArray)) (w : World) (hA : StrArg w ho hc hd) (hB : RowsArg w ro rc rs) (hL : RowsArg w ao cap ls) :
    Calls Try.prog 6 #[.agg #[.slice ho hd.length hc, .slice ro rs.length rc], .slice ao ls.length cap] w fun e w' => e = .returned (.bool true) ∧ Below w.heap.size w w' := by
  have b0 := one_below w (TabO ho hd.length hc ro rs.length rc)
  have HA := Lib.hid hA
  have HB := Lib.hid hB
  have HL := Lib.hid hL
  have B0 := Lib.hid b0
  clear hA hB hL b0
  go_enter Try.func6, Try.ntmps6
  go_wp2_with fail
  refine (tworks_any _).mono ?_; rintro e w1 ⟨rfl, b1⟩
  obtain ⟨p0, p1⟩ := tab_box b1
  have B1 := Lib.hid b1
  have X1 := below_up B0.out b1
  have C1 := Lib.hid (rfew_any ho hc hd ro rc rs w1 HA.out.len HB.out.len HB.out.each HA.out.size (HA.out.row.kept X1) (HB.out.rows.kept X1))
  clear b1 X1
  go_wp2_with fail
  refine C1.out.mono ?_; rintro e w2 ⟨b, rfl, hb, b2⟩
  have B2 := Lib.hid (below_up B1.out b2)
  clear b2 p0 p1 C1 B1
  cases b with
  | false =>
    go_wp2_with fail
    go_ret
    exact ⟨rfl, below_up B0.out B2.out⟩
  | true =>
    have HF := Lib.hid (hb rfl)
    clear hb
    have C2 := Lib.hid (fewReach_any ao cap ls w2 HL.out.len HL.out.each (HL.out.rows.kept (below_up B0.out B2.out)))
    go_wp2_with fail
    refine C2.out.mono ?_; rintro e w3 ⟨b, rfl, hb, rfl⟩
    clear C2
    cases b with
    | false =>
      go_wp2_with fail
      go_ret
      exact ⟨rfl, below_up B0.out B2.out⟩
    | true =>
      have HG := Lib.hid (hb rfl)
      clear hb
      obtain ⟨f1, f2, f3, f4, f5⟩ := fewT_bounds hd rs HF.out
      have HF4 := Lib.hid f4
      have HF3 := Lib.hid f3
      clear f3 f4
      obtain ⟨p0, p1⟩ := tab_box B2.out
      have R := Lib.hid (records_any ho hc hd ro rc rs w2 (by omega) (fun c hc => by have := HF3.out c hc; omega) (HA.out.row.kept (below_up B0.out B2.out)) (by omega) (fun r hr => ⟨by have := (HF4.out r hr).1; omega, fun c hc => by have := (HF4.out r hr).2 c hc; omega⟩) (HB.out.rows.kept (below_up B0.out B2.out)))
      go_wp2_with fail
      refine R.out.mono ?_; rintro e w4 ⟨g, gc, rfl, hgc, hrec, b4⟩
      have B4 := Lib.hid (below_up B2.out b4)
      have O := Lib.hid (of_ok (some ⟨g, 0, none⟩) gc (hd :: rs) w4 (by simp; omega) (fun r hr => by
        rcases List.mem_cons.1 hr with rfl | h
        · exact ⟨by omega, fun c hc => by have := HF3.out c hc; omega⟩
        · exact ⟨by have := (HF4.out r h).1; omega, fun c hc => by have := (HF4.out r h).2 c hc; omega⟩) (by rw [show (hd :: rs).flatten = allT hd rs from rfl]; omega) (by simpa using hgc) hrec)
      clear b4 hrec p0 p1 R
      obtain ⟨p0, p1⟩ := tab_box B4.out
      simp only [List.length_cons] at O
      have GO := Lib.hid (of_good (hd :: rs))
      have GE := Lib.hid (show ofErr (hd :: rs) = checkI hd rs from rfl)
      unfold OfPost at O
      rw [GE.out] at O GO
      have HK := Lib.hid (fun W (h : Below w.heap.size w W) => check_any ho hc hd ro rc rs W (by omega) (by omega) (fun r hr => by have := (HF4.out r hr).1; omega) (HA.out.row.kept h) (HB.out.rows.kept h) (fun c hc => by have := HF3.out c hc; unfold maxLen; omega) (by omega))
      generalize checkI hd rs = er at O GO HK
      generalize hoh : ofHead (hd :: rs) = oh at O GO
      generalize hor : ofRows (hd :: rs) = orr at O GO
      clear hoh hor
      go_wp2_with fail
      refine O.out.mono ?_; rintro e w5 ⟨xo, xc, yo, yc, rfl, hx, hy, b5⟩
      have b6 := one_below w5 (TabO xo oh.length xc yo orr.length yc)
      have B6 := Lib.hid (below_up (below_up B4.out b5) b6)
      have HX := Lib.hid (And.intro (hx.kept b6) (hy.kept b6))
      have T6 := Lib.hid (World.alloc_heap_new w5 (TabO xo oh.length xc yo orr.length yc))
      clear hx hy b5 b6 p0 p1 O
      obtain ⟨p0, p1⟩ := tab_box B6.out
      go_wp2_with fail
      refine (HK.out _ (below_up B0.out B6.out)).mono ?_; rintro e w7 ⟨rfl, b7⟩
      have B7 := Lib.hid (below_up B6.out b7)
      have HX7 := Lib.hid (And.intro (HX.out.1.kept b7) (HX.out.2.kept b7))
      have t7 := (b7.block _ (lt_of_heap T6.out)).trans T6.out
      have T7 := Lib.hid t7
      clear b7 p0 p1 T6 HX t7
      have hne : (er != er) = false := by simp
      have OL := Lib.hid (fun W (h : Below w.heap.size w W) => of_small ao cap ls W HG.out HL.out.cap (HL.out.rows.kept h))
      have GB := Lib.hid (of_bad ls)
      have GG := Lib.hid (of_good ls)
      have GL := Lib.hid (ofHead_le ls HG.out)
      unfold OfPost at OL
      generalize ofErr ls = el at OL GB GG
      by_cases he : er = 0
      · obtain ⟨h1, h2⟩ := GO.out he
        obtain ⟨rfl, rfl⟩ : hd = oh ∧ rs = orr := by simpa using h1
        have S := Lib.hid (tsame_any xo ho xc hc hd hd yo ro yc rc rs rs w7 (by omega) (by omega) (fun r hr => by have := (HF4.out r hr).1; omega) HX7.out.1 (HA.out.row.kept (below_up B0.out B7.out)) HX7.out.2 (HB.out.rows.kept (below_up B0.out B7.out)))
        rw [sameRow_refl, sameRecs_refl] at S
        have hb0 : (er == 0) = true := by simp [he]
        clear h1 h2 he
        obtain ⟨p0, p1⟩ := tab_box B7.out
        obtain ⟨q0, q1⟩ := tabs T7.out
        go_wp2_with fail
        refine S.out.mono ?_; rintro e w8 ⟨rfl, b8⟩
        have B8 := Lib.hid (below_up B7.out b8)
        clear b8 p0 p1 q0 q1 S
        go_wp2_with fail
        refine (OL.out _ (below_up B0.out B8.out)).mono ?_; rintro e w9 ⟨lo, lc, mo, mc, rfl, hx, hy, b9⟩
        have b10 := one_below w9 (TabO lo (ofHead ls).length lc mo (ofRows ls).length mc)
        have B10 := Lib.hid (below_up (below_up B8.out b9) b10)
        have HY := Lib.hid (And.intro (hx.kept b10) (hy.kept b10))
        have T10 := Lib.hid (World.alloc_heap_new w9 (TabO lo (ofHead ls).length lc mo (ofRows ls).length mc))
        clear hx hy b9 b10
        by_cases hl0 : el = 0
        · have hlb : (el != 0) = false := by simp [hl0]
          obtain ⟨g1, g2⟩ := GG.out hl0
          have HS := Lib.hid (show sameRecs (ofHead ls :: ofRows ls) ls = true from by rw [← g1]; exact sameRecs_refl ls)
          have HZ := Lib.hid g2
          obtain ⟨m1, m2, m3, m4⟩ := few_bounds ls HG.out
          have HM : Hid ((∀ c ∈ ofHead ls, c.size ≤ 8000) ∧ (∀ r ∈ ofRows ls, r.length ≤ 60 ∧ ∀ c ∈ r, c.size ≤ 8000) ∧ sumT (allT (ofHead ls) (ofRows ls)) ≤ 8000 ∧ (ofHead ls).length ≤ 60 ∧ (ofRows ls).length ≤ 60) := Lib.hid (by
            have k1 : ofHead ls ∈ ls := by have := List.mem_cons_self (a := ofHead ls) (l := ofRows ls); rwa [← g1] at this
            have k2 : ∀ r ∈ ofRows ls, r ∈ ls := fun r hr => by rw [g1]; exact List.mem_cons_of_mem _ hr
            refine ⟨m3 _ k1, fun r hr => ⟨m2 r (k2 r hr), m3 r (k2 r hr)⟩, ?_, GL.out.1, GL.out.2.1⟩
            rw [show allT (ofHead ls) (ofRows ls) = (ofHead ls :: ofRows ls).flatten from rfl, ← g1]; exact m4)
          clear hl0 g1 g2 m1 m2 m3 m4
          generalize ofHead ls = oh at HY T10 HM HS HZ B10
          generalize ofRows ls = orr at HY T10 HM HS HZ B10
          obtain ⟨q0, q1⟩ := tabs T10.out
          have R := Lib.hid (records_any lo lc oh mo mc orr _ (by have := HM.out.2.2.2.1; omega) (fun c hc => by have := HM.out.1 c hc; omega) HY.out.1 (by have := HM.out.2.2.2.2; omega) (fun r hr => ⟨by have := (HM.out.2.1 r hr).1; omega, fun c hc => by have := (HM.out.2.1 r hr).2 c hc; omega⟩) HY.out.2)
          go_wp2_with fail
          refine R.out.mono ?_; rintro e w11 ⟨g', gc', rfl, _, hrec, b11⟩
          have B11 := Lib.hid (below_up B10.out b11)
          have HY := Lib.hid (And.intro (HY.out.1.kept b11) (HY.out.2.kept b11))
          have T11 := Lib.hid ((b11.block _ (lt_of_heap T10.out)).trans T10.out)
          have SS := Lib.hid (rsame_any (some ⟨g', 0, none⟩) ao gc' cap (oh :: orr) ls w11 (by have := HM.out.2.2.2.2; simp; omega) (fun r hr => by
            rcases List.mem_cons.1 hr with rfl | h
            · have := HM.out.2.2.2.1; omega
            · have := (HM.out.2.1 r h).1; omega) hrec (HL.out.rows.kept (below_up B0.out B11.out)))
          rw [HS.out] at SS
          simp only [List.length_cons] at SS
          clear hrec b11 q0 q1 R T10
          go_wp2_with fail
          refine SS.out.mono ?_; rintro e w12 ⟨rfl, b12⟩
          have B12 := Lib.hid (below_up B11.out b12)
          have CK := Lib.hid (check_any lo lc oh mo mc orr w12 (by have := HM.out.2.2.2.1; omega) (by have := HM.out.2.2.2.2; omega) (fun r hr => by have := (HM.out.2.1 r hr).1; omega) (HY.out.1.kept b12) (HY.out.2.kept b12) (fun c hc => by have := HM.out.1 c hc; unfold maxLen; omega) (by have := HM.out.2.2.1; omega))
          rw [HZ.out] at CK
          obtain ⟨q0, q1⟩ := tabs ((b12.block _ (lt_of_heap T11.out)).trans T11.out)
          clear b12 SS
          go_wp2_with fail
          refine CK.out.mono ?_; rintro e w13 ⟨rfl, b13⟩
          have B13 := Lib.hid (below_up B12.out b13)
          clear b13 q0 q1
          go_wp2_with fail
          go_ret
          exact ⟨rfl, below_up B0.out B13.out⟩
        · have hlb : (el != 0) = true := by simp [hl0]
          obtain ⟨g1, g2⟩ := GB.out hl0
          rw [g1, g2] at T10 B10
          simp only [List.length_nil] at T10 B10
          rw [g1, g2]
          simp only [List.length_nil]
          obtain ⟨q0, q1⟩ := tabs T10.out
          clear hl0 g1 g2
          go_wp2_with fail
          go_ret
          exact ⟨rfl, below_up B0.out B10.out⟩
      · have hb0 : (er == 0) = false := by simp [he]
        have B8 := B7
        clear he
        go_wp2_with fail
        refine (OL.out _ (below_up B0.out B8.out)).mono ?_; rintro e w9 ⟨lo, lc, mo, mc, rfl, hx, hy, b9⟩
        have b10 := one_below w9 (TabO lo (ofHead ls).length lc mo (ofRows ls).length mc)
        have B10 := Lib.hid (below_up (below_up B8.out b9) b10)
        have HY := Lib.hid (And.intro (hx.kept b10) (hy.kept b10))
        have T10 := Lib.hid (World.alloc_heap_new w9 (TabO lo (ofHead ls).length lc mo (ofRows ls).length mc))
        clear hx hy b9 b10
        by_cases hl0 : el = 0
        · have hlb : (el != 0) = false := by simp [hl0]
          obtain ⟨g1, g2⟩ := GG.out hl0
          have HS := Lib.hid (show sameRecs (ofHead ls :: ofRows ls) ls = true from by rw [← g1]; exact sameRecs_refl ls)
          have HZ := Lib.hid g2
          obtain ⟨m1, m2, m3, m4⟩ := few_bounds ls HG.out
          have HM : Hid ((∀ c ∈ ofHead ls, c.size ≤ 8000) ∧ (∀ r ∈ ofRows ls, r.length ≤ 60 ∧ ∀ c ∈ r, c.size ≤ 8000) ∧ sumT (allT (ofHead ls) (ofRows ls)) ≤ 8000 ∧ (ofHead ls).length ≤ 60 ∧ (ofRows ls).length ≤ 60) := Lib.hid (by
            have k1 : ofHead ls ∈ ls := by have := List.mem_cons_self (a := ofHead ls) (l := ofRows ls); rwa [← g1] at this
            have k2 : ∀ r ∈ ofRows ls, r ∈ ls := fun r hr => by rw [g1]; exact List.mem_cons_of_mem _ hr
            refine ⟨m3 _ k1, fun r hr => ⟨m2 r (k2 r hr), m3 r (k2 r hr)⟩, ?_, GL.out.1, GL.out.2.1⟩
            rw [show allT (ofHead ls) (ofRows ls) = (ofHead ls :: ofRows ls).flatten from rfl, ← g1]; exact m4)
          clear hl0 g1 g2 m1 m2 m3 m4
          generalize ofHead ls = oh at HY T10 HM HS HZ B10
          generalize ofRows ls = orr at HY T10 HM HS HZ B10
          obtain ⟨q0, q1⟩ := tabs T10.out
          have R := Lib.hid (records_any lo lc oh mo mc orr _ (by have := HM.out.2.2.2.1; omega) (fun c hc => by have := HM.out.1 c hc; omega) HY.out.1 (by have := HM.out.2.2.2.2; omega) (fun r hr => ⟨by have := (HM.out.2.1 r hr).1; omega, fun c hc => by have := (HM.out.2.1 r hr).2 c hc; omega⟩) HY.out.2)
          go_wp2_with fail
          refine R.out.mono ?_; rintro e w11 ⟨g', gc', rfl, _, hrec, b11⟩
          have B11 := Lib.hid (below_up B10.out b11)
          have HY := Lib.hid (And.intro (HY.out.1.kept b11) (HY.out.2.kept b11))
          have T11 := Lib.hid ((b11.block _ (lt_of_heap T10.out)).trans T10.out)
          have SS := Lib.hid (rsame_any (some ⟨g', 0, none⟩) ao gc' cap (oh :: orr) ls w11 (by have := HM.out.2.2.2.2; simp; omega) (fun r hr => by
            rcases List.mem_cons.1 hr with rfl | h
            · have := HM.out.2.2.2.1; omega
            · have := (HM.out.2.1 r h).1; omega) hrec (HL.out.rows.kept (below_up B0.out B11.out)))
          rw [HS.out] at SS
          simp only [List.length_cons] at SS
          clear hrec b11 q0 q1 R T10
          go_wp2_with fail
          refine SS.out.mono ?_; rintro e w12 ⟨rfl, b12⟩
          have B12 := Lib.hid (below_up B11.out b12)
          have CK := Lib.hid (check_any lo lc oh mo mc orr w12 (by have := HM.out.2.2.2.1; omega) (by have := HM.out.2.2.2.2; omega) (fun r hr => by have := (HM.out.2.1 r hr).1; omega) (HY.out.1.kept b12) (HY.out.2.kept b12) (fun c hc => by have := HM.out.1 c hc; unfold maxLen; omega) (by have := HM.out.2.2.1; omega))
          rw [HZ.out] at CK
          obtain ⟨q0, q1⟩ := tabs ((b12.block _ (lt_of_heap T11.out)).trans T11.out)
          clear b12 SS
          go_wp2_with fail
          refine CK.out.mono ?_; rintro e w13 ⟨rfl, b13⟩
          have B13 := Lib.hid (below_up B12.out b13)
          clear b13 q0 q1
          go_wp2_with fail
          go_ret
          exact ⟨rfl, below_up B0.out B13.out⟩
        · have hlb : (el != 0) = true := by simp [hl0]
          obtain ⟨g1, g2⟩ := GB.out hl0
          rw [g1, g2] at T10 B10
          simp only [List.length_nil] at T10 B10
          rw [g1, g2]
          simp only [List.length_nil]
          obtain ⟨q0, q1⟩ := tabs T10.out
          clear hl0 g1 g2
          go_wp2_with fail
          go_ret
          exact ⟨rfl, below_up B0.out B10.out⟩
end Go.Proofs.Ytgbmpcfnbdbpgaa
