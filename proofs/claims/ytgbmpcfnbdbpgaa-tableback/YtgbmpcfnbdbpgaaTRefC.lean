/-
  The document's own answer: the table of records.
  Conditions: tables of at most 2^40 names and rows of at most 2^40 cells; all texts have together at most 2^60 bytes.
-/
import Derived.WalkKit
import Derived.WalkMore
import Derived.Lib.Hide
import Derived.Deep.RegionWith
import Derived.Deep.CutRange
import Derived.Deep.Onto
import Derived.Test.YtgbmpcfnbdbpgaaProg
import Derived.Test.YtgbmpcfnbdbpgaaTRefB
namespace Go.Proofs.Ytgbmpcfnbdbpgaa
open Go.RowKit Go.Shelf
set_option linter.unusedVariables false

set_option maxRecDepth 100000 in
set_option maxHeartbeats 4000000 in
theorem rof_nil (ao : Option Addr) (cap : Nat) (w : World) : Calls Try.prog 28 #[.slice ao 0 cap] w (OfPost [] w) := by
  have HB := Lib.hid (one_below w (.cells #[.slice none 0 0, .slice none 0 0] 25))
  go_enter Try.func28, Try.ntmps28
  go_wp2_with fail
  refine bodyPost_ret (v := .tuple #[.agg #[.slice none 0 0, .slice none 0 0], .int .i64 8]) (by simp [results, Try.results28, go_sem]) rfl ?_
  exact ⟨none, 0, none, 0, rfl, .inl rfl, .inl rfl, HB.out⟩

set_option maxRecDepth 100000 in
set_option maxHeartbeats 800000 in
theorem rof_more (A : Addr) (cap : Nat) (x : List ByteArray) (t : List (List ByteArray)) (w : World) (hcap : t.length + 1 ≤ cap) (hne : ¬ cap = 1) (hn : x.length ≤ 1099511627776)
    (hn2 : t.length ≤ 1099511627776) (hn3 : ∀ r ∈ t, r.length ≤ 1099511627776) (hsum : sumT (allT x t) ≤ 1152921504606846976) (hR : RowsAt w (some A) (x :: t)) :
    Calls Try.prog 28 #[.slice (some A) (t.length + 1) cap] w (OfPost (x :: t) w) := by
  obtain ⟨W, HW⟩ : ∃ W, Hid (W = w.alloc (.cells #[.slice none 0 0, .slice none 0 0] 25)) := ⟨_, Lib.hid rfl⟩
  have hB : Below w.heap.size w W := by rw [HW.out]; exact one_below _ _
  have hN : W.heap[w.heap.size]? = some (.cells #[.slice none 0 0, .slice none 0 0] 25 (0, 0)) := by rw [HW.out]; exact World.alloc_heap_new w _
  have hSZ : W.heap.size = w.heap.size + 1 := by rw [HW.out]; simp
  obtain ⟨xo, xc, hx0, hxs⟩ : ∃ xo xc, w.cell? A = some (.slice xo x.length xc) ∧ StrRow w xo x := by
    rcases hR with h | ⟨A', hA, hb, hc⟩
    · cases h
    cases hA
    obtain ⟨ro, c, h1, h2⟩ := hc 0 x rfl
    rw [add0] at h1
    exact ⟨ro, c, h1, h2⟩
  have hAb : A.block < w.heap.size := by
    rcases hR with h | ⟨A', hA, hb, hc⟩
    · cases h
    cases hA; exact hb
  have hxw := (hB.cell (p := A) hAb).trans hx0
  have hxz := cell_alloc_l (.cells #[.slice none 0 0, .slice none 0 0] 25) hxw
  have htt := rows_tail hR
  have C := Lib.hid (fun V (h : Below w.heap.size w V) => rcheck_any xo xc x (some ⟨A.block, A.off + 1, none⟩) (cap - 1) t V hn hn2 hn3 (hxs.kept h) (htt.kept h) hsum)
  have HXS := Lib.hid hxs
  have HTT := Lib.hid htt
  clear hR htt hn3 hsum hxs hx0
  have hb0 : ((t.length : Int) + 1 == 0) = false := by rw [beq_eq_false_iff_ne]; omega
  have q1 : (0 : Int) ≤ (t.length : Int) + 1 := by omega
  have q2 : (1 : Int) ≤ (t.length : Int) + 1 := by omega
  have q3 : (t.length : Int) + 1 ≤ (cap : Int) := by omega
  have HN := Lib.hid hN
  have HB := Lib.hid hB
  have HSZ := Lib.hid hSZ
  clear hN hB hSZ
  have E0 := Lib.hid (show ofErr (x :: t) = checkI x t from rfl)
  obtain ⟨er, HE⟩ : ∃ er, Hid (er = checkI x t) := ⟨_, Lib.hid rfl⟩
  rw [← HE.out] at C E0
  have HZ : Hid (¬ er = 0 → ofHead (x :: t) = [] ∧ ofRows (x :: t) = []) := Lib.hid (fun h => by rw [HE.out] at h; simp [ofHead, ofRows, h])
  have HO : Hid (er = 0 → ofHead (x :: t) = x ∧ ofRows (x :: t) = t) := Lib.hid (fun h => by rw [HE.out] at h; simp [ofHead, ofRows, h])
  unfold OfPost
  rw [E0.out]
  generalize ofHead (x :: t) = oh at HZ HO ⊢
  generalize ofRows (x :: t) = orr at HZ HO ⊢
  clear HE E0
  go_enter Try.func28, Try.ntmps28
  go_wp2_with fail
  rw [← HW.out]
  go_upto_region 3 with fail
  go_cut [4] from 10 to 15 (fun e wc => ∃ B, e = .pointer (some ⟨B, 0, none⟩) ∧ w.heap.size < B ∧ Hid (wc.heap[B]? = some (TabO xo x.length xc (some ⟨A.block, A.off + 1, none⟩) t.length (cap - 1)) ∧ Below W.heap.size W wc))
  case first =>
    go_region
    all_goals (go_wp2_with fail; go_meet)
    all_goals exact ⟨W.heap.size, rfl, by rw [HSZ.out]; omega, Lib.hid ⟨World.alloc_heap_new W _, ((Below.refl _ W).alloc (Nat.le_refl _) _).drew⟩⟩
  case rest =>
    obtain ⟨B, rfl, hBlt, HC⟩ := hcut
    rename World => wc
    have hz := (HC.out.2.block _ (lt_of_heap HN.out)).trans HN.out
    obtain ⟨d0, d1⟩ := tabs HC.out.1
    have HBW := Lib.hid (below_up HB.out HC.out.2)
    have C1 := Lib.hid (C.out wc HBW.out)
    have HZz := Lib.hid hz
    clear C hz hxz
    by_cases he : er = 0
    · have hb : (er != 0) = false := by simp [he]
      obtain ⟨h1, h2⟩ := HO.out he
      subst h1 h2
      have HEr := Lib.hid he
      clear he HZ HO
      go_wp2_with fail
      refine C1.out.mono ?_; rintro e w2 ⟨rfl, b2⟩
      have k2 := (b2.block w.heap.size (lt_of_heap HZz.out)).trans HZz.out
      have k0 : w2.cell? ⟨w.heap.size, 0, none⟩ = some (.slice none 0 0) := (Lib.cell_of_heap k2 0).trans rfl
      have k1 : w2.cell? ⟨w.heap.size, 1, none⟩ = some (.slice none 0 0) := (Lib.cell_of_heap k2 1).trans rfl
      have g0 : w2.frozen? ⟨w.heap.size, 0, none⟩ = false := Lib.frozen_of_heap k2 0
      have g1 : w2.frozen? ⟨w.heap.size, 1, none⟩ = false := Lib.frozen_of_heap k2 1
      obtain ⟨m0, m1⟩ := tabs ((b2.block B (lt_of_heap HC.out.1)).trans HC.out.1)
      have HB2 := Lib.hid (below_up HBW.out b2)
      clear b2 k2 d0 d1
      go_wp2_with fail
      have hBB := (HB2.out.setCell (p := ⟨w.heap.size, 0, none⟩) (Nat.le_refl _) (.slice xo oh.length xc)).setCell (p := ⟨w.heap.size, 1, none⟩) (Nat.le_refl _) (.slice (some ⟨A.block, A.off + 1, none⟩) orr.length (cap - 1))
      refine bodyPost_ret (v := .tuple #[.agg #[.slice xo oh.length xc, .slice (some ⟨A.block, A.off + 1, none⟩) orr.length (cap - 1)], .int .i64 er]) (by simp [results, Try.results28, go_sem, k0, k1, HEr.out]) rfl ?_
      exact ⟨_, _, _, _, rfl, HXS.out.kept hBB, HTT.out.kept hBB, hBB⟩
    · have hb : (er != 0) = true := by simp [he]
      obtain ⟨h1, h2⟩ := HZ.out he
      subst h1 h2
      clear he HZ HO
      go_wp2_with fail
      refine C1.out.mono ?_; rintro e w2 ⟨rfl, b2⟩
      have k2 := (b2.block w.heap.size (lt_of_heap HZz.out)).trans HZz.out
      have k0 : w2.cell? ⟨w.heap.size, 0, none⟩ = some (.slice none 0 0) := (Lib.cell_of_heap k2 0).trans rfl
      have k1 : w2.cell? ⟨w.heap.size, 1, none⟩ = some (.slice none 0 0) := (Lib.cell_of_heap k2 1).trans rfl
      have g0 : w2.frozen? ⟨w.heap.size, 0, none⟩ = false := Lib.frozen_of_heap k2 0
      have g1 : w2.frozen? ⟨w.heap.size, 1, none⟩ = false := Lib.frozen_of_heap k2 1
      have HB2 := Lib.hid (below_up HBW.out b2)
      clear b2 k2 d0 d1
      go_wp2_with fail
      have hBB := (HB2.out.setCell (p := ⟨w.heap.size, 0, none⟩) (Nat.le_refl _) (.slice none 0 0)).setCell (p := ⟨w.heap.size, 1, none⟩) (Nat.le_refl _) (.slice none 0 0)
      refine bodyPost_ret (v := .tuple #[.agg #[.slice none 0 0, .slice none 0 0], .int .i64 er]) (by simp [results, Try.results28, go_sem, k0, k1]) rfl ?_
      exact ⟨none, 0, none, 0, rfl, .inl rfl, .inl rfl, hBB⟩

set_option maxRecDepth 100000 in
set_option maxHeartbeats 800000 in
theorem rof_one (A : Addr) (x : List ByteArray) (w : World) (hn : x.length ≤ 1099511627776) (hsum : sumT (allT x []) ≤ 1152921504606846976) (hR : RowsAt w (some A) [x]) :
    Calls Try.prog 28 #[.slice (some A) 1 1] w (OfPost [x] w) := by
  obtain ⟨W, HW⟩ : ∃ W, Hid (W = w.alloc (.cells #[.slice none 0 0, .slice none 0 0] 25)) := ⟨_, Lib.hid rfl⟩
  have hB : Below w.heap.size w W := by rw [HW.out]; exact one_below _ _
  have hN : W.heap[w.heap.size]? = some (.cells #[.slice none 0 0, .slice none 0 0] 25 (0, 0)) := by rw [HW.out]; exact World.alloc_heap_new w _
  have hSZ : W.heap.size = w.heap.size + 1 := by rw [HW.out]; simp
  obtain ⟨xo, xc, hx0, hxs⟩ : ∃ xo xc, w.cell? A = some (.slice xo x.length xc) ∧ StrRow w xo x := by
    rcases hR with h | ⟨A', hA, hb, hc⟩
    · cases h
    cases hA
    obtain ⟨ro, c, h1, h2⟩ := hc 0 x rfl
    rw [add0] at h1
    exact ⟨ro, c, h1, h2⟩
  have hAb : A.block < w.heap.size := by
    rcases hR with h | ⟨A', hA, hb, hc⟩
    · cases h
    cases hA; exact hb
  have hxw := (hB.cell (p := A) hAb).trans hx0
  have hxz := cell_alloc_l (.cells #[.slice none 0 0, .slice none 0 0] 25) hxw
  have htt : RowsAt w (some A) ([] : List (List ByteArray)) := .inl rfl
  have hn2 : ([] : List (List ByteArray)).length ≤ 1099511627776 := by simp
  have hn3 : ∀ r ∈ ([] : List (List ByteArray)), r.length ≤ 1099511627776 := fun r hr => by cases hr
  have C := Lib.hid (fun V (h : Below w.heap.size w V) => rcheck_any xo xc x (some A) 0 [] V hn hn2 hn3 (hxs.kept h) (htt.kept h) hsum)
  have HXS := Lib.hid hxs
  have HTT := Lib.hid htt
  simp only [List.length_nil] at C
  clear hR htt hn3 hsum hxs hx0
  have HN := Lib.hid hN
  have HB := Lib.hid hB
  have HSZ := Lib.hid hSZ
  clear hN hB hSZ
  have E0 := Lib.hid (show ofErr (x :: []) = checkI x [] from rfl)
  obtain ⟨er, HE⟩ : ∃ er, Hid (er = checkI x []) := ⟨_, Lib.hid rfl⟩
  rw [← HE.out] at C E0
  have HZ : Hid (¬ er = 0 → ofHead (x :: []) = [] ∧ ofRows (x :: []) = []) := Lib.hid (fun h => by rw [HE.out] at h; simp [ofHead, ofRows, h])
  have HO : Hid (er = 0 → ofHead (x :: []) = x ∧ ofRows (x :: []) = []) := Lib.hid (fun h => by rw [HE.out] at h; simp [ofHead, ofRows, h])
  unfold OfPost
  rw [E0.out]
  generalize ofHead (x :: []) = oh at HZ HO ⊢
  generalize ofRows (x :: []) = orr at HZ HO ⊢
  clear HE E0
  go_enter Try.func28, Try.ntmps28
  go_wp2_with fail
  rw [← HW.out]
  go_upto_region 3 with fail
  go_cut [4] from 10 to 15 (fun e wc => ∃ B, e = .pointer (some ⟨B, 0, none⟩) ∧ w.heap.size < B ∧ Hid (wc.heap[B]? = some (TabO xo x.length xc (some A) 0 0) ∧ Below W.heap.size W wc))
  case first =>
    go_region
    all_goals (go_wp2_with fail; go_meet)
    all_goals exact ⟨W.heap.size, rfl, by rw [HSZ.out]; omega, Lib.hid ⟨World.alloc_heap_new W _, ((Below.refl _ W).alloc (Nat.le_refl _) _).drew⟩⟩
  case rest =>
    obtain ⟨B, rfl, hBlt, HC⟩ := hcut
    rename World => wc
    have hz := (HC.out.2.block _ (lt_of_heap HN.out)).trans HN.out
    obtain ⟨d0, d1⟩ := tabs HC.out.1
    have HBW := Lib.hid (below_up HB.out HC.out.2)
    have C1 := Lib.hid (C.out wc HBW.out)
    have HZz := Lib.hid hz
    clear C hz hxz
    by_cases he : er = 0
    · have hb : (er != 0) = false := by simp [he]
      obtain ⟨h1, h2⟩ := HO.out he
      subst h1 h2
      have HEr := Lib.hid he
      clear he HZ HO
      go_wp2_with fail
      refine C1.out.mono ?_; rintro e w2 ⟨rfl, b2⟩
      have k2 := (b2.block w.heap.size (lt_of_heap HZz.out)).trans HZz.out
      have k0 : w2.cell? ⟨w.heap.size, 0, none⟩ = some (.slice none 0 0) := (Lib.cell_of_heap k2 0).trans rfl
      have k1 : w2.cell? ⟨w.heap.size, 1, none⟩ = some (.slice none 0 0) := (Lib.cell_of_heap k2 1).trans rfl
      have g0 : w2.frozen? ⟨w.heap.size, 0, none⟩ = false := Lib.frozen_of_heap k2 0
      have g1 : w2.frozen? ⟨w.heap.size, 1, none⟩ = false := Lib.frozen_of_heap k2 1
      obtain ⟨m0, m1⟩ := tabs ((b2.block B (lt_of_heap HC.out.1)).trans HC.out.1)
      have HB2 := Lib.hid (below_up HBW.out b2)
      clear b2 k2 d0 d1
      go_wp2_with fail
      have hBB := (HB2.out.setCell (p := ⟨w.heap.size, 0, none⟩) (Nat.le_refl _) (.slice xo oh.length xc)).setCell (p := ⟨w.heap.size, 1, none⟩) (Nat.le_refl _) (.slice (some A) 0 0)
      refine bodyPost_ret (v := .tuple #[.agg #[.slice xo oh.length xc, .slice (some A) 0 0], .int .i64 er]) (by simp [results, Try.results28, go_sem, k0, k1, HEr.out]) rfl ?_
      exact ⟨_, _, _, _, rfl, HXS.out.kept hBB, HTT.out.kept hBB, hBB⟩
    · have hb : (er != 0) = true := by simp [he]
      obtain ⟨h1, h2⟩ := HZ.out he
      subst h1 h2
      clear he HZ HO
      go_wp2_with fail
      refine C1.out.mono ?_; rintro e w2 ⟨rfl, b2⟩
      have k2 := (b2.block w.heap.size (lt_of_heap HZz.out)).trans HZz.out
      have k0 : w2.cell? ⟨w.heap.size, 0, none⟩ = some (.slice none 0 0) := (Lib.cell_of_heap k2 0).trans rfl
      have k1 : w2.cell? ⟨w.heap.size, 1, none⟩ = some (.slice none 0 0) := (Lib.cell_of_heap k2 1).trans rfl
      have g0 : w2.frozen? ⟨w.heap.size, 0, none⟩ = false := Lib.frozen_of_heap k2 0
      have g1 : w2.frozen? ⟨w.heap.size, 1, none⟩ = false := Lib.frozen_of_heap k2 1
      have HB2 := Lib.hid (below_up HBW.out b2)
      clear b2 k2 d0 d1
      go_wp2_with fail
      have hBB := (HB2.out.setCell (p := ⟨w.heap.size, 0, none⟩) (Nat.le_refl _) (.slice none 0 0)).setCell (p := ⟨w.heap.size, 1, none⟩) (Nat.le_refl _) (.slice none 0 0)
      refine bodyPost_ret (v := .tuple #[.agg #[.slice none 0 0, .slice none 0 0], .int .i64 er]) (by simp [results, Try.results28, go_sem, k0, k1]) rfl ?_
      exact ⟨none, 0, none, 0, rfl, .inl rfl, .inl rfl, hBB⟩

end Go.Proofs.Ytgbmpcfnbdbpgaa
