/-
  The document's reference: one byte is read.
  Conditions: a text of at most 2^40 bytes (the statements ask about far shorter ones).
-/
import Derived.WalkKit
import Derived.WalkMore
import Derived.Lib.Hide
import Derived.StillTailTactics
import Derived.Deep.CutRange
import Derived.Deep.Onto
import Derived.Test.YtacclgfpmkhodaaProg
import Derived.Test.YtacclgfpmkhodaaCsvRd5
import Derived.Test.YtacclgfpmkhodaaCsvRd3
namespace Go.Proofs.Ytacclgfpmkhodaa
open Go.RowKit Go.Shelf
set_option linter.unusedVariables false

theorem heads_down {w W : World} {dao : Option Addr} {rs : List (List ByteArray)} {hs : List Value} (hR : RowsAt w dao rs) (hB : Below w.heap.size w W) (h : Heads W dao rs hs) : Heads w dao rs hs := by
  rcases hR with rfl | ⟨A, rfl, hA, hcell⟩
  · have h0 : hs = [] := List.eq_nil_of_length_eq_zero (by rw [h.1]; rfl)
    subst h0
    exact ⟨rfl, (fun A _ j u hu => by simp at hu), fun j r hr => by simp at hr⟩
  · have key : ∀ (j : Nat) u, hs[j]? = some u → w.cell? (A.add j) = some u := fun j u hu => by
      have := h.2.1 A rfl j u hu
      rwa [hB.cell (p := A.add j) (by rw [add_block]; exact hA)] at this
    refine ⟨h.1, (fun A' hA' j u hu => by cases hA'; exact key j u hu), fun j r hr => ?_⟩
    obtain ⟨ro, c, h1, h2⟩ := hcell j r hr
    obtain ⟨ro', c', h3, _⟩ := h.2.2 j r hr
    have h4 := key j _ h3
    rw [h1] at h4
    cases h4
    exact ⟨_, _, h3, h2⟩
theorem own_moved {w2 X : World} {base B : Nat} {S : TypeId} {v : Value} {n : Nat} {xs : List Value} (h : w2.ownsRow base S 1 v n xs) (hb : B + 2 ≤ base) (hX : ∀ k, k < w2.heap.size → k ≠ B → k ≠ B + 1 → X.heap[k]? = w2.heap[k]?) : X.ownsRow base S 1 v n xs := by
  refine ⟨h.1, ?_⟩
  rcases h.2 with h0 | ⟨g, cap, cur, h1, h2, h3, h4⟩
  · exact .inl h0
  · exact .inr ⟨g, cap, cur, h1, h2, (hX g (lt_of_heap h3) (by omega) (by omega)).trans h3, h4⟩
theorem own_low {w : World} {base b n : Nat} {S : TypeId} {v : Value} {xs : List Value} (h : w.ownsRow base S 1 v n xs) (hb : b ≤ base) : w.ownsRow b S 1 v n xs := by
  refine ⟨h.1, ?_⟩
  rcases h.2 with h0 | ⟨g, cap, cur, h1, h2, h3⟩
  · exact .inl h0
  · exact .inr ⟨g, cap, cur, h1, by omega, h3⟩
theorem own_some {w : World} {base n : Nat} {S : TypeId} {v : Value} {xs : List Value} (h : w.ownsRow base S 1 v (n + 1) xs) : ∃ g cap, v = .slice (some ⟨g, 0, none⟩) (n + 1) cap := by
  rcases h.2 with ⟨_, h0⟩ | ⟨g, cap, cur, h1, _⟩
  · omega
  · exact ⟨g, cap, h1⟩

set_option maxRecDepth 100000 in
set_option maxHeartbeats 2000000 in
theorem one_delim (s : ByteArray) (a : Nat) (d : Int) (dao : Option Addr) (dlen dcap : Nat) (ro : Option Addr) (cap : Nat) (xs : List ByteArray) (cell : ByteArray) (st beg at' nb : Int) (w : World) (hs : s.size ≤ 1099511627776) (ha : a < s.size) (hnb : (brkI s.data.toList (a : Int) : Int) = nb) (hn : xs.length ≤ 4294967296) (hc : cell.size ≤ 1099511627776) (hR : StrRow w ro xs) (hz : ro = none → xs.length = 0 ∧ cap = 0) (hd : ((s[a].toNat : Int) == d) = true) (h2 : (st == 2) = false) (hq : (st == 3) = true → ((s[a].toNat : Int) == 34) = false) :
    Calls Try.prog 16 #[.string s, .int .i64 a, .int .u8 d, rdV (.slice dao dlen dcap) (.slice ro xs.length cap) cell st beg 0 at'] w fun e w' =>
      (4096 < cell.size ∧ (∃ y, e = .returned (oneV (.slice none 0 0) (.slice none 0 0) ⟨#[]⟩ 0 y 7 beg 1)) ∧ Below w.heap.size w w') ∨
      (cell.size ≤ 4096 ∧ ∃ ro' cap', e = .returned (oneV (.slice dao dlen dcap) (.slice ro' (xs.length + 1) cap') ⟨#[]⟩ 0 ((a : Int) + 1) 0 at' 1) ∧ StrRow w' ro' (xs ++ [cell]) ∧ (∃ g, ro' = some ⟨g, 0, none⟩ ∧ w.heap.size ≤ g) ∧ Below w.heap.size w w') := by
  have k5 : (a : Int) + 1 ≤ 9223372036854775807 := by omega
  obtain ⟨W, HW⟩ : ∃ W, Hid (W = (w.alloc (.cells (rdA (.slice dao dlen dcap) (.slice ro xs.length cap) cell st beg 0 at') 41)).alloc (.cells (rdA (.slice none 0 0) (.slice none 0 0) ⟨#[]⟩ 0 0 0 0) 41)) := ⟨_, Lib.hid rfl⟩
  obtain ⟨hsz, g1, g2⟩ := two_new w (.cells (rdA (.slice dao dlen dcap) (.slice ro xs.length cap) cell st beg 0 at') 41) (.cells (rdA (.slice none 0 0) (.slice none 0 0) ⟨#[]⟩ 0 0 0 0) 41)
  have hB := two_below w (.cells (rdA (.slice dao dlen dcap) (.slice ro xs.length cap) cell st beg 0 at') 41) (.cells (rdA (.slice none 0 0) (.slice none 0 0) ⟨#[]⟩ 0 0 0 0) 41)
  rw [← HW.out] at hsz g1 g2 hB
  have hB0 := hB
  obtain ⟨⟨c0, c1, c2, c3, c4, c5, c6⟩, fz, hlt⟩ := rd_cells g1
  obtain ⟨⟨d0, d1, d2, d3, d4, d5, d6⟩, fy, hlt'⟩ := rd_cells g2
  have HSZ := Lib.hid hsz; have G1 := Lib.hid g1; have G2 := Lib.hid g2; have HB := Lib.hid hB
  have x0 := fz 0; have x1 := fz 1; have x2 := fz 2; have x3 := fz 3; have x4 := fz 4; have x5 := fz 5; have x6 := fz 6
  have n0 := fy 0; have n1 := fy 1; have n2 := fy 2; have n3 := fy 3; have n4 := fy 4; have n5 := fy 5; have n6 := fy 6
  have BK := Lib.hid (fun W => rbreak_any s (a : Int) W hs (by omega) (by omega))
  rw [hnb] at BK
  clear hsz g1 g2 hB fz fy hnb
  have CL := Lib.hid (closed_any dao dlen dcap ro cap xs cell st beg 0 at' W hn hc (hR.kept hB0) hz)
  clear hR hz hB0
  unfold rdV at CL ⊢
  unfold rdA at CL ⊢
  cases h3 : (st == 3)
  · clear hq
    go_enter Try.func16, Try.ntmps16
    go_wp2_with fail
    rw [show ((w.alloc (.cells #[.slice dao dlen dcap, .slice ro xs.length cap, .string cell, .int .i64 st, .int .i64 beg, .int .i64 0, .int .i64 at'] 41)).alloc (.cells #[.slice none 0 0, .slice none 0 0, .string ⟨#[]⟩, .int .i64 0, .int .i64 0, .int .i64 0, .int .i64 0] 41)) = W from HW.out.symm]
    refine (BK.out _).mono ?_; rintro e w1 ⟨rfl, rfl⟩
    go_wp2_with fail
    refine CL.out.mono ?_
    rintro e w2 (⟨hbig, rfl, b1⟩ | ⟨hsm, ro', cap', rfl, hs', ⟨g, rfl, hg⟩, b1⟩)
    · skip
      have g1' := below_kept b1 G1.out
      have g2' := below_kept b1 G2.out
      obtain ⟨⟨k0, k1, k2, k3, k4, k5, k6⟩, fk, hk⟩ := rd_cells g1'
      obtain ⟨⟨m0, m1, m2, m3, m4, m5, m6⟩, fm, hm⟩ := rd_cells g2'
      have y0 := fk 0; have y1 := fk 1; have y2 := fk 2; have y3 := fk 3; have y4 := fk 4; have y5 := fk 5; have y6 := fk 6
      have z0 := fm 0; have z1 := fm 1; have z2 := fm 2; have z3 := fm 3; have z4 := fm 4; have z5 := fm 5; have z6 := fm 6
      have GG1 := Lib.hid g1'
      have GG2 := Lib.hid g2'
      have B1 := Lib.hid (below_up HB.out b1)
      have BW := Lib.hid b1
      clear c0 c1 c2 c3 c4 c5 c6 d0 d1 d2 d3 d4 d5 d6 x0 x1 x2 x3 x4 x5 x6 n0 n1 n2 n3 n4 n5 n6 hlt hlt' fk fm g1' g2' b1 CL
      obtain ⟨V, HV⟩ : ∃ V, Hid (V = ((((((w2.setCell ⟨w.heap.size, 0, none⟩ (.slice none 0 0)).setCell ⟨w.heap.size, 1, none⟩ (.slice none 0 0)).setCell ⟨w.heap.size, 2, none⟩ (.string ⟨#[]⟩)).setCell ⟨w.heap.size, 3, none⟩ (.int .i64 0)).setCell ⟨w.heap.size, 4, none⟩ (.int .i64 0)).setCell ⟨w.heap.size, 5, none⟩ (.int .i64 7)).setCell ⟨w.heap.size, 6, none⟩ (.int .i64 beg)) := ⟨_, Lib.hid rfl⟩
      obtain ⟨q1, q2, q3⟩ := set7 (.slice none 0 0) (.slice none 0 0) ⟨#[]⟩ 0 0 7 beg GG1.out V HV.out
      have GV2 := Lib.hid ((q3 (w.heap.size + 1) (by omega)).trans GG2.out)
      have GV1 := Lib.hid q1
      have Q2 := Lib.hid q2
      have Q3 := Lib.hid q3
      clear q1 q2 q3
      go_upto_region 14 with fail
      rw [← HV.out]
      clear k0 k1 k2 k3 k4 k5 k6 y0 y1 y2 y3 y4 y5 y6 m0 m1 m2 m3 m4 m5 m6 z0 z1 z2 z3 z4 z5 z6 hk hm
      obtain ⟨⟨k0, k1, k2, k3, k4, k5, k6⟩, fk, hk⟩ := rd_cells GV1.out
      have y4 := fk 4
      clear fk
      go_upto_region 15 with fail
      obtain ⟨U, HU⟩ : ∃ U, Hid (U = V.setCell ⟨w.heap.size, 4, none⟩ (.int .i64 ((a : Int) + 1))) := ⟨_, Lib.hid rfl⟩
      rw [← HU.out]
      have gu : U.heap[w.heap.size]? = some (.cells (rdA (.slice none 0 0) (.slice none 0 0) ⟨#[]⟩ 0 ((a : Int) + 1) 7 beg) 41 (0, 0)) := by
        rw [HU.out]; have := heap_set (i := 4) (.int .i64 ((a : Int) + 1)) GV1.out; simpa [rdA] using this
      have gu2 : U.heap[w.heap.size + 1]? = some (.cells (rdA (.slice none 0 0) (.slice none 0 0) ⟨#[]⟩ 0 0 0 0) 41 (0, 0)) := by
        rw [HU.out]; exact (Below.heap_setCell V ⟨w.heap.size, 4, none⟩ (.int .i64 ((a : Int) + 1)) (w.heap.size + 1) (by simp)).trans GV2.out
      have HUB : Hid (Below w.heap.size V U) := Lib.hid (by rw [HU.out]; exact (Below.refl _ V).setCell (p := ⟨w.heap.size, 4, none⟩) (Nat.le_refl _) _)
      have HU3 : Hid (∀ k, k ≠ w.heap.size → U.heap[k]? = V.heap[k]?) := Lib.hid (fun k hk => by rw [HU.out]; exact Below.heap_setCell V ⟨w.heap.size, 4, none⟩ _ k hk)
      clear k0 k1 k2 k3 k4 k5 k6 y4 hk
      obtain ⟨⟨k0, k1, k2, k3, k4, k5, k6⟩, fk, hk⟩ := rd_cells gu
      obtain ⟨⟨m0, m1, m2, m3, m4, m5, m6⟩, fm, hm⟩ := rd_cells gu2
      have z0 := fm 0; have z1 := fm 1; have z2 := fm 2; have z3 := fm 3; have z4 := fm 4; have z5 := fm 5; have z6 := fm 6
      have GU2 := Lib.hid gu2
      clear fk fm gu gu2
      go_wp2_with fail
      obtain ⟨p1, p2, p3⟩ := set7 (.slice none 0 0) (.slice none 0 0) ⟨#[]⟩ 0 ((a : Int) + 1) 7 beg GU2.out _ rfl
      obtain ⟨⟨r0, r1, r2, r3, r4, r5, r6⟩, _, _⟩ := rd_cells p1
      have hBX := ((B1.out.trans Q2.out).trans HUB.out).trans (p2.mono (by omega))
      refine bodyPost_ret (v := oneV (.slice none 0 0) (.slice none 0 0) ⟨#[]⟩ 0 ((a : Int) + 1) 7 beg 1) (by simp [results, oneV, rdV, rdA, Try.results16, go_sem, r0, r1, r2, r3, r4, r5, r6]) rfl ?_
      exact .inl ⟨hbig, ⟨_, rfl⟩, hBX⟩
    · skip
      have HS' := Lib.hid hs'
      clear hs'
      have hg2 : w.heap.size + 2 ≤ g := by have := HSZ.out; omega
      clear hg
      have g1' := below_kept b1 G1.out
      have g2' := below_kept b1 G2.out
      obtain ⟨⟨k0, k1, k2, k3, k4, k5, k6⟩, fk, hk⟩ := rd_cells g1'
      obtain ⟨⟨m0, m1, m2, m3, m4, m5, m6⟩, fm, hm⟩ := rd_cells g2'
      have y0 := fk 0; have y1 := fk 1; have y2 := fk 2; have y3 := fk 3; have y4 := fk 4; have y5 := fk 5; have y6 := fk 6
      have z0 := fm 0; have z1 := fm 1; have z2 := fm 2; have z3 := fm 3; have z4 := fm 4; have z5 := fm 5; have z6 := fm 6
      have GG1 := Lib.hid g1'
      have GG2 := Lib.hid g2'
      have B1 := Lib.hid (below_up HB.out b1)
      have BW := Lib.hid b1
      clear c0 c1 c2 c3 c4 c5 c6 d0 d1 d2 d3 d4 d5 d6 x0 x1 x2 x3 x4 x5 x6 n0 n1 n2 n3 n4 n5 n6 hlt hlt' fk fm g1' g2' b1 CL
      obtain ⟨V, HV⟩ : ∃ V, Hid (V = ((((((w2.setCell ⟨w.heap.size, 0, none⟩ (.slice dao dlen dcap)).setCell ⟨w.heap.size, 1, none⟩ (.slice (some ⟨g, 0, none⟩) (xs.length + 1) cap')).setCell ⟨w.heap.size, 2, none⟩ (.string ⟨#[]⟩)).setCell ⟨w.heap.size, 3, none⟩ (.int .i64 0)).setCell ⟨w.heap.size, 4, none⟩ (.int .i64 beg)).setCell ⟨w.heap.size, 5, none⟩ (.int .i64 0)).setCell ⟨w.heap.size, 6, none⟩ (.int .i64 at')) := ⟨_, Lib.hid rfl⟩
      obtain ⟨q1, q2, q3⟩ := set7 (.slice dao dlen dcap) (.slice (some ⟨g, 0, none⟩) (xs.length + 1) cap') ⟨#[]⟩ 0 beg 0 at' GG1.out V HV.out
      have GV2 := Lib.hid ((q3 (w.heap.size + 1) (by omega)).trans GG2.out)
      have GV1 := Lib.hid q1
      have Q2 := Lib.hid q2
      have Q3 := Lib.hid q3
      clear q1 q2 q3
      go_upto_region 14 with fail
      rw [← HV.out]
      clear k0 k1 k2 k3 k4 k5 k6 y0 y1 y2 y3 y4 y5 y6 m0 m1 m2 m3 m4 m5 m6 z0 z1 z2 z3 z4 z5 z6 hk hm
      obtain ⟨⟨k0, k1, k2, k3, k4, k5, k6⟩, fk, hk⟩ := rd_cells GV1.out
      have y4 := fk 4
      clear fk
      go_upto_region 15 with fail
      obtain ⟨U, HU⟩ : ∃ U, Hid (U = V.setCell ⟨w.heap.size, 4, none⟩ (.int .i64 ((a : Int) + 1))) := ⟨_, Lib.hid rfl⟩
      rw [← HU.out]
      have gu : U.heap[w.heap.size]? = some (.cells (rdA (.slice dao dlen dcap) (.slice (some ⟨g, 0, none⟩) (xs.length + 1) cap') ⟨#[]⟩ 0 ((a : Int) + 1) 0 at') 41 (0, 0)) := by
        rw [HU.out]; have := heap_set (i := 4) (.int .i64 ((a : Int) + 1)) GV1.out; simpa [rdA] using this
      have gu2 : U.heap[w.heap.size + 1]? = some (.cells (rdA (.slice none 0 0) (.slice none 0 0) ⟨#[]⟩ 0 0 0 0) 41 (0, 0)) := by
        rw [HU.out]; exact (Below.heap_setCell V ⟨w.heap.size, 4, none⟩ (.int .i64 ((a : Int) + 1)) (w.heap.size + 1) (by simp)).trans GV2.out
      have HUB : Hid (Below w.heap.size V U) := Lib.hid (by rw [HU.out]; exact (Below.refl _ V).setCell (p := ⟨w.heap.size, 4, none⟩) (Nat.le_refl _) _)
      have HU3 : Hid (∀ k, k ≠ w.heap.size → U.heap[k]? = V.heap[k]?) := Lib.hid (fun k hk => by rw [HU.out]; exact Below.heap_setCell V ⟨w.heap.size, 4, none⟩ _ k hk)
      clear k0 k1 k2 k3 k4 k5 k6 y4 hk
      obtain ⟨⟨k0, k1, k2, k3, k4, k5, k6⟩, fk, hk⟩ := rd_cells gu
      obtain ⟨⟨m0, m1, m2, m3, m4, m5, m6⟩, fm, hm⟩ := rd_cells gu2
      have z0 := fm 0; have z1 := fm 1; have z2 := fm 2; have z3 := fm 3; have z4 := fm 4; have z5 := fm 5; have z6 := fm 6
      have GU2 := Lib.hid gu2
      clear fk fm gu gu2
      go_wp2_with fail
      obtain ⟨p1, p2, p3⟩ := set7 (.slice dao dlen dcap) (.slice (some ⟨g, 0, none⟩) (xs.length + 1) cap') ⟨#[]⟩ 0 ((a : Int) + 1) 0 at' GU2.out _ rfl
      obtain ⟨⟨r0, r1, r2, r3, r4, r5, r6⟩, _, _⟩ := rd_cells p1
      have hBX := ((B1.out.trans Q2.out).trans HUB.out).trans (p2.mono (by omega))
      refine bodyPost_ret (v := oneV (.slice dao dlen dcap) (.slice (some ⟨g, 0, none⟩) (xs.length + 1) cap') ⟨#[]⟩ 0 ((a : Int) + 1) 0 at' 1) (by simp [results, oneV, rdV, rdA, Try.results16, go_sem, r0, r1, r2, r3, r4, r5, r6]) rfl ?_
      have hall : ∀ k, k < w2.heap.size → k ≠ w.heap.size → k ≠ w.heap.size + 1 → _ = w2.heap[k]? := fun k _ h1 h2 => (p3 k h2).trans ((HU3.out k h1).trans (Q3.out k h1))
      have hsx := Nat.le_trans Q2.out.size (Nat.le_trans HUB.out.size p2.size)
      exact .inr ⟨hsm, _, _, rfl, row_other HS'.out hsx hall (by omega) (by omega), ⟨g, rfl, by omega⟩, hBX⟩
  · have h34 := hq h3
    clear hq
    go_enter Try.func16, Try.ntmps16
    go_wp2_with fail
    rw [show ((w.alloc (.cells #[.slice dao dlen dcap, .slice ro xs.length cap, .string cell, .int .i64 st, .int .i64 beg, .int .i64 0, .int .i64 at'] 41)).alloc (.cells #[.slice none 0 0, .slice none 0 0, .string ⟨#[]⟩, .int .i64 0, .int .i64 0, .int .i64 0, .int .i64 0] 41)) = W from HW.out.symm]
    refine (BK.out _).mono ?_; rintro e w1 ⟨rfl, rfl⟩
    go_wp2_with fail
    refine CL.out.mono ?_
    rintro e w2 (⟨hbig, rfl, b1⟩ | ⟨hsm, ro', cap', rfl, hs', ⟨g, rfl, hg⟩, b1⟩)
    · skip
      have g1' := below_kept b1 G1.out
      have g2' := below_kept b1 G2.out
      obtain ⟨⟨k0, k1, k2, k3, k4, k5, k6⟩, fk, hk⟩ := rd_cells g1'
      obtain ⟨⟨m0, m1, m2, m3, m4, m5, m6⟩, fm, hm⟩ := rd_cells g2'
      have y0 := fk 0; have y1 := fk 1; have y2 := fk 2; have y3 := fk 3; have y4 := fk 4; have y5 := fk 5; have y6 := fk 6
      have z0 := fm 0; have z1 := fm 1; have z2 := fm 2; have z3 := fm 3; have z4 := fm 4; have z5 := fm 5; have z6 := fm 6
      have GG1 := Lib.hid g1'
      have GG2 := Lib.hid g2'
      have B1 := Lib.hid (below_up HB.out b1)
      have BW := Lib.hid b1
      clear c0 c1 c2 c3 c4 c5 c6 d0 d1 d2 d3 d4 d5 d6 x0 x1 x2 x3 x4 x5 x6 n0 n1 n2 n3 n4 n5 n6 hlt hlt' fk fm g1' g2' b1 CL
      obtain ⟨V, HV⟩ : ∃ V, Hid (V = ((((((w2.setCell ⟨w.heap.size, 0, none⟩ (.slice none 0 0)).setCell ⟨w.heap.size, 1, none⟩ (.slice none 0 0)).setCell ⟨w.heap.size, 2, none⟩ (.string ⟨#[]⟩)).setCell ⟨w.heap.size, 3, none⟩ (.int .i64 0)).setCell ⟨w.heap.size, 4, none⟩ (.int .i64 0)).setCell ⟨w.heap.size, 5, none⟩ (.int .i64 7)).setCell ⟨w.heap.size, 6, none⟩ (.int .i64 beg)) := ⟨_, Lib.hid rfl⟩
      obtain ⟨q1, q2, q3⟩ := set7 (.slice none 0 0) (.slice none 0 0) ⟨#[]⟩ 0 0 7 beg GG1.out V HV.out
      have GV2 := Lib.hid ((q3 (w.heap.size + 1) (by omega)).trans GG2.out)
      have GV1 := Lib.hid q1
      have Q2 := Lib.hid q2
      have Q3 := Lib.hid q3
      clear q1 q2 q3
      go_upto_region 14 with fail
      rw [← HV.out]
      clear k0 k1 k2 k3 k4 k5 k6 y0 y1 y2 y3 y4 y5 y6 m0 m1 m2 m3 m4 m5 m6 z0 z1 z2 z3 z4 z5 z6 hk hm
      obtain ⟨⟨k0, k1, k2, k3, k4, k5, k6⟩, fk, hk⟩ := rd_cells GV1.out
      have y4 := fk 4
      clear fk
      go_upto_region 15 with fail
      obtain ⟨U, HU⟩ : ∃ U, Hid (U = V.setCell ⟨w.heap.size, 4, none⟩ (.int .i64 ((a : Int) + 1))) := ⟨_, Lib.hid rfl⟩
      rw [← HU.out]
      have gu : U.heap[w.heap.size]? = some (.cells (rdA (.slice none 0 0) (.slice none 0 0) ⟨#[]⟩ 0 ((a : Int) + 1) 7 beg) 41 (0, 0)) := by
        rw [HU.out]; have := heap_set (i := 4) (.int .i64 ((a : Int) + 1)) GV1.out; simpa [rdA] using this
      have gu2 : U.heap[w.heap.size + 1]? = some (.cells (rdA (.slice none 0 0) (.slice none 0 0) ⟨#[]⟩ 0 0 0 0) 41 (0, 0)) := by
        rw [HU.out]; exact (Below.heap_setCell V ⟨w.heap.size, 4, none⟩ (.int .i64 ((a : Int) + 1)) (w.heap.size + 1) (by simp)).trans GV2.out
      have HUB : Hid (Below w.heap.size V U) := Lib.hid (by rw [HU.out]; exact (Below.refl _ V).setCell (p := ⟨w.heap.size, 4, none⟩) (Nat.le_refl _) _)
      have HU3 : Hid (∀ k, k ≠ w.heap.size → U.heap[k]? = V.heap[k]?) := Lib.hid (fun k hk => by rw [HU.out]; exact Below.heap_setCell V ⟨w.heap.size, 4, none⟩ _ k hk)
      clear k0 k1 k2 k3 k4 k5 k6 y4 hk
      obtain ⟨⟨k0, k1, k2, k3, k4, k5, k6⟩, fk, hk⟩ := rd_cells gu
      obtain ⟨⟨m0, m1, m2, m3, m4, m5, m6⟩, fm, hm⟩ := rd_cells gu2
      have z0 := fm 0; have z1 := fm 1; have z2 := fm 2; have z3 := fm 3; have z4 := fm 4; have z5 := fm 5; have z6 := fm 6
      have GU2 := Lib.hid gu2
      clear fk fm gu gu2
      go_wp2_with fail
      obtain ⟨p1, p2, p3⟩ := set7 (.slice none 0 0) (.slice none 0 0) ⟨#[]⟩ 0 ((a : Int) + 1) 7 beg GU2.out _ rfl
      obtain ⟨⟨r0, r1, r2, r3, r4, r5, r6⟩, _, _⟩ := rd_cells p1
      have hBX := ((B1.out.trans Q2.out).trans HUB.out).trans (p2.mono (by omega))
      refine bodyPost_ret (v := oneV (.slice none 0 0) (.slice none 0 0) ⟨#[]⟩ 0 ((a : Int) + 1) 7 beg 1) (by simp [results, oneV, rdV, rdA, Try.results16, go_sem, r0, r1, r2, r3, r4, r5, r6]) rfl ?_
      exact .inl ⟨hbig, ⟨_, rfl⟩, hBX⟩
    · skip
      have HS' := Lib.hid hs'
      clear hs'
      have hg2 : w.heap.size + 2 ≤ g := by have := HSZ.out; omega
      clear hg
      have g1' := below_kept b1 G1.out
      have g2' := below_kept b1 G2.out
      obtain ⟨⟨k0, k1, k2, k3, k4, k5, k6⟩, fk, hk⟩ := rd_cells g1'
      obtain ⟨⟨m0, m1, m2, m3, m4, m5, m6⟩, fm, hm⟩ := rd_cells g2'
      have y0 := fk 0; have y1 := fk 1; have y2 := fk 2; have y3 := fk 3; have y4 := fk 4; have y5 := fk 5; have y6 := fk 6
      have z0 := fm 0; have z1 := fm 1; have z2 := fm 2; have z3 := fm 3; have z4 := fm 4; have z5 := fm 5; have z6 := fm 6
      have GG1 := Lib.hid g1'
      have GG2 := Lib.hid g2'
      have B1 := Lib.hid (below_up HB.out b1)
      have BW := Lib.hid b1
      clear c0 c1 c2 c3 c4 c5 c6 d0 d1 d2 d3 d4 d5 d6 x0 x1 x2 x3 x4 x5 x6 n0 n1 n2 n3 n4 n5 n6 hlt hlt' fk fm g1' g2' b1 CL
      obtain ⟨V, HV⟩ : ∃ V, Hid (V = ((((((w2.setCell ⟨w.heap.size, 0, none⟩ (.slice dao dlen dcap)).setCell ⟨w.heap.size, 1, none⟩ (.slice (some ⟨g, 0, none⟩) (xs.length + 1) cap')).setCell ⟨w.heap.size, 2, none⟩ (.string ⟨#[]⟩)).setCell ⟨w.heap.size, 3, none⟩ (.int .i64 0)).setCell ⟨w.heap.size, 4, none⟩ (.int .i64 beg)).setCell ⟨w.heap.size, 5, none⟩ (.int .i64 0)).setCell ⟨w.heap.size, 6, none⟩ (.int .i64 at')) := ⟨_, Lib.hid rfl⟩
      obtain ⟨q1, q2, q3⟩ := set7 (.slice dao dlen dcap) (.slice (some ⟨g, 0, none⟩) (xs.length + 1) cap') ⟨#[]⟩ 0 beg 0 at' GG1.out V HV.out
      have GV2 := Lib.hid ((q3 (w.heap.size + 1) (by omega)).trans GG2.out)
      have GV1 := Lib.hid q1
      have Q2 := Lib.hid q2
      have Q3 := Lib.hid q3
      clear q1 q2 q3
      go_upto_region 14 with fail
      rw [← HV.out]
      clear k0 k1 k2 k3 k4 k5 k6 y0 y1 y2 y3 y4 y5 y6 m0 m1 m2 m3 m4 m5 m6 z0 z1 z2 z3 z4 z5 z6 hk hm
      obtain ⟨⟨k0, k1, k2, k3, k4, k5, k6⟩, fk, hk⟩ := rd_cells GV1.out
      have y4 := fk 4
      clear fk
      go_upto_region 15 with fail
      obtain ⟨U, HU⟩ : ∃ U, Hid (U = V.setCell ⟨w.heap.size, 4, none⟩ (.int .i64 ((a : Int) + 1))) := ⟨_, Lib.hid rfl⟩
      rw [← HU.out]
      have gu : U.heap[w.heap.size]? = some (.cells (rdA (.slice dao dlen dcap) (.slice (some ⟨g, 0, none⟩) (xs.length + 1) cap') ⟨#[]⟩ 0 ((a : Int) + 1) 0 at') 41 (0, 0)) := by
        rw [HU.out]; have := heap_set (i := 4) (.int .i64 ((a : Int) + 1)) GV1.out; simpa [rdA] using this
      have gu2 : U.heap[w.heap.size + 1]? = some (.cells (rdA (.slice none 0 0) (.slice none 0 0) ⟨#[]⟩ 0 0 0 0) 41 (0, 0)) := by
        rw [HU.out]; exact (Below.heap_setCell V ⟨w.heap.size, 4, none⟩ (.int .i64 ((a : Int) + 1)) (w.heap.size + 1) (by simp)).trans GV2.out
      have HUB : Hid (Below w.heap.size V U) := Lib.hid (by rw [HU.out]; exact (Below.refl _ V).setCell (p := ⟨w.heap.size, 4, none⟩) (Nat.le_refl _) _)
      have HU3 : Hid (∀ k, k ≠ w.heap.size → U.heap[k]? = V.heap[k]?) := Lib.hid (fun k hk => by rw [HU.out]; exact Below.heap_setCell V ⟨w.heap.size, 4, none⟩ _ k hk)
      clear k0 k1 k2 k3 k4 k5 k6 y4 hk
      obtain ⟨⟨k0, k1, k2, k3, k4, k5, k6⟩, fk, hk⟩ := rd_cells gu
      obtain ⟨⟨m0, m1, m2, m3, m4, m5, m6⟩, fm, hm⟩ := rd_cells gu2
      have z0 := fm 0; have z1 := fm 1; have z2 := fm 2; have z3 := fm 3; have z4 := fm 4; have z5 := fm 5; have z6 := fm 6
      have GU2 := Lib.hid gu2
      clear fk fm gu gu2
      go_wp2_with fail
      obtain ⟨p1, p2, p3⟩ := set7 (.slice dao dlen dcap) (.slice (some ⟨g, 0, none⟩) (xs.length + 1) cap') ⟨#[]⟩ 0 ((a : Int) + 1) 0 at' GU2.out _ rfl
      obtain ⟨⟨r0, r1, r2, r3, r4, r5, r6⟩, _, _⟩ := rd_cells p1
      have hBX := ((B1.out.trans Q2.out).trans HUB.out).trans (p2.mono (by omega))
      refine bodyPost_ret (v := oneV (.slice dao dlen dcap) (.slice (some ⟨g, 0, none⟩) (xs.length + 1) cap') ⟨#[]⟩ 0 ((a : Int) + 1) 0 at' 1) (by simp [results, oneV, rdV, rdA, Try.results16, go_sem, r0, r1, r2, r3, r4, r5, r6]) rfl ?_
      have hall : ∀ k, k < w2.heap.size → k ≠ w.heap.size → k ≠ w.heap.size + 1 → _ = w2.heap[k]? := fun k _ h1 h2 => (p3 k h2).trans ((HU3.out k h1).trans (Q3.out k h1))
      have hsx := Nat.le_trans Q2.out.size (Nat.le_trans HUB.out.size p2.size)
      exact .inr ⟨hsm, _, _, rfl, row_other HS'.out hsx hall (by omega) (by omega), ⟨g, rfl, by omega⟩, hBX⟩

set_option maxRecDepth 100000 in
set_option maxHeartbeats 2000000 in
theorem one_break (s : ByteArray) (a : Nat) (d : Int) (dao : Option Addr) (dcap : Nat) (rs : List (List ByteArray)) (ro : Option Addr) (cap : Nat) (xs : List ByteArray) (cell : ByteArray) (st beg at' nb : Int) (w : World) (hs : s.size ≤ 1099511627776) (ha : a < s.size) (hnb : (brkI s.data.toList (a : Int) : Int) = nb) (hrn : rs.length ≤ 4294967296) (hn : xs.length ≤ 4294967296) (hc : cell.size ≤ 1099511627776) (hD : RowsAt w dao rs) (hdz : dao = none → rs.length = 0 ∧ dcap = 0) (hR : StrRow w ro xs) (hz : ro = none → xs.length = 0 ∧ cap = 0) (hd : ((s[a].toNat : Int) == d) = false) (hn0 : decide (0 < nb) = true) (hnb2 : nb ≤ 2) (h2 : (st == 2) = false) (hq : (st == 3) = true → ((s[a].toNat : Int) == 34) = false) :
    Calls Try.prog 16 #[.string s, .int .i64 a, .int .u8 d, rdV (.slice dao rs.length dcap) (.slice ro xs.length cap) cell st beg 0 at'] w fun e w' =>
      (4096 < cell.size ∧ (∃ y, e = .returned (oneV (.slice none 0 0) (.slice none 0 0) ⟨#[]⟩ 0 y 7 beg nb)) ∧ Below w.heap.size w w') ∨
      (cell.size ≤ 4096 ∧ ∃ dao' dcap', e = .returned (oneV (.slice dao' (rs.length + 1) dcap') (.slice none 0 0) ⟨#[]⟩ 0 ((a : Int) + nb) 0 at' nb) ∧ RowsAt w' dao' (rs ++ [xs ++ [cell]]) ∧ (∃ hs g c', Heads w dao rs hs ∧ w.heap.size ≤ g ∧ w'.ownsRow (w.heap.size + 2) 31 1 (.slice dao' (rs.length + 1) dcap') (rs.length + 1) (hs ++ [.slice (some ⟨g, 0, none⟩) (xs ++ [cell]).length c'])) ∧ Below w.heap.size w w') := by
  have hn1 : 0 < nb := of_decide_eq_true hn0
  obtain ⟨W, HW⟩ : ∃ W, Hid (W = (w.alloc (.cells (rdA (.slice dao rs.length dcap) (.slice ro xs.length cap) cell st beg 0 at') 41)).alloc (.cells (rdA (.slice none 0 0) (.slice none 0 0) ⟨#[]⟩ 0 0 0 0) 41)) := ⟨_, Lib.hid rfl⟩
  obtain ⟨hsz, g1, g2⟩ := two_new w (.cells (rdA (.slice dao rs.length dcap) (.slice ro xs.length cap) cell st beg 0 at') 41) (.cells (rdA (.slice none 0 0) (.slice none 0 0) ⟨#[]⟩ 0 0 0 0) 41)
  have hB := two_below w (.cells (rdA (.slice dao rs.length dcap) (.slice ro xs.length cap) cell st beg 0 at') 41) (.cells (rdA (.slice none 0 0) (.slice none 0 0) ⟨#[]⟩ 0 0 0 0) 41)
  rw [← HW.out] at hsz g1 g2 hB
  have hB0 := hB
  have HD0 := Lib.hid hD
  obtain ⟨⟨c0, c1, c2, c3, c4, c5, c6⟩, fz, hlt⟩ := rd_cells g1
  obtain ⟨⟨d0, d1, d2, d3, d4, d5, d6⟩, fy, hlt'⟩ := rd_cells g2
  have HSZ := Lib.hid hsz; have G1 := Lib.hid g1; have G2 := Lib.hid g2; have HB := Lib.hid hB
  have x0 := fz 0; have x1 := fz 1; have x2 := fz 2; have x3 := fz 3; have x4 := fz 4; have x5 := fz 5; have x6 := fz 6
  have n0 := fy 0; have n1 := fy 1; have n2 := fy 2; have n3 := fy 3; have n4 := fy 4; have n5 := fy 5; have n6 := fy 6
  have BK := Lib.hid (fun W => rbreak_any s (a : Int) W hs (by omega) (by omega))
  rw [hnb] at BK
  clear hsz g1 g2 hB fz fy hnb
  have CL := Lib.hid (record_any dao dcap rs ro cap xs cell st beg at' W hrn hn hc (hD.kept hB0) hdz (hR.kept hB0) hz)
  clear hR hz hB0
  clear hD hdz
  unfold rdV at CL ⊢
  unfold rdA at CL ⊢
  cases h3 : (st == 3)
  · clear hq
    go_enter Try.func16, Try.ntmps16
    go_wp2_with fail
    rw [show ((w.alloc (.cells #[.slice dao rs.length dcap, .slice ro xs.length cap, .string cell, .int .i64 st, .int .i64 beg, .int .i64 0, .int .i64 at'] 41)).alloc (.cells #[.slice none 0 0, .slice none 0 0, .string ⟨#[]⟩, .int .i64 0, .int .i64 0, .int .i64 0, .int .i64 0] 41)) = W from HW.out.symm]
    refine (BK.out _).mono ?_; rintro e w1 ⟨rfl, rfl⟩
    go_wp2_with fail
    refine CL.out.mono ?_
    rintro e w2 (⟨hbig, rfl, b1⟩ | ⟨hsm, dao', dcap', rfl, hrr, b1, hh, g, c', hH, hg, ho, hst⟩)
    · skip
      have g1' := below_kept b1 G1.out
      have g2' := below_kept b1 G2.out
      obtain ⟨⟨k0, k1, k2, k3, k4, k5, k6⟩, fk, hk⟩ := rd_cells g1'
      obtain ⟨⟨m0, m1, m2, m3, m4, m5, m6⟩, fm, hm⟩ := rd_cells g2'
      have y0 := fk 0; have y1 := fk 1; have y2 := fk 2; have y3 := fk 3; have y4 := fk 4; have y5 := fk 5; have y6 := fk 6
      have z0 := fm 0; have z1 := fm 1; have z2 := fm 2; have z3 := fm 3; have z4 := fm 4; have z5 := fm 5; have z6 := fm 6
      have GG1 := Lib.hid g1'
      have GG2 := Lib.hid g2'
      have B1 := Lib.hid (below_up HB.out b1)
      have BW := Lib.hid b1
      clear c0 c1 c2 c3 c4 c5 c6 d0 d1 d2 d3 d4 d5 d6 x0 x1 x2 x3 x4 x5 x6 n0 n1 n2 n3 n4 n5 n6 hlt hlt' fk fm g1' g2' b1 CL
      obtain ⟨V, HV⟩ : ∃ V, Hid (V = ((((((w2.setCell ⟨w.heap.size, 0, none⟩ (.slice none 0 0)).setCell ⟨w.heap.size, 1, none⟩ (.slice none 0 0)).setCell ⟨w.heap.size, 2, none⟩ (.string ⟨#[]⟩)).setCell ⟨w.heap.size, 3, none⟩ (.int .i64 0)).setCell ⟨w.heap.size, 4, none⟩ (.int .i64 0)).setCell ⟨w.heap.size, 5, none⟩ (.int .i64 7)).setCell ⟨w.heap.size, 6, none⟩ (.int .i64 beg)) := ⟨_, Lib.hid rfl⟩
      obtain ⟨q1, q2, q3⟩ := set7 (.slice none 0 0) (.slice none 0 0) ⟨#[]⟩ 0 0 7 beg GG1.out V HV.out
      have GV2 := Lib.hid ((q3 (w.heap.size + 1) (by omega)).trans GG2.out)
      have GV1 := Lib.hid q1
      have Q2 := Lib.hid q2
      have Q3 := Lib.hid q3
      clear q1 q2 q3
      go_upto_region 18 with fail
      rw [← HV.out]
      clear k0 k1 k2 k3 k4 k5 k6 y0 y1 y2 y3 y4 y5 y6 m0 m1 m2 m3 m4 m5 m6 z0 z1 z2 z3 z4 z5 z6 hk hm
      obtain ⟨⟨k0, k1, k2, k3, k4, k5, k6⟩, fk, hk⟩ := rd_cells GV1.out
      have y4 := fk 4
      clear fk
      go_upto_region 19 with fail
      obtain ⟨U, HU⟩ : ∃ U, Hid (U = V.setCell ⟨w.heap.size, 4, none⟩ (.int .i64 ((a : Int) + nb))) := ⟨_, Lib.hid rfl⟩
      rw [← HU.out]
      have gu : U.heap[w.heap.size]? = some (.cells (rdA (.slice none 0 0) (.slice none 0 0) ⟨#[]⟩ 0 ((a : Int) + nb) 7 beg) 41 (0, 0)) := by
        rw [HU.out]; have := heap_set (i := 4) (.int .i64 ((a : Int) + nb)) GV1.out; simpa [rdA] using this
      have gu2 : U.heap[w.heap.size + 1]? = some (.cells (rdA (.slice none 0 0) (.slice none 0 0) ⟨#[]⟩ 0 0 0 0) 41 (0, 0)) := by
        rw [HU.out]; exact (Below.heap_setCell V ⟨w.heap.size, 4, none⟩ (.int .i64 ((a : Int) + nb)) (w.heap.size + 1) (by simp)).trans GV2.out
      have HUB : Hid (Below w.heap.size V U) := Lib.hid (by rw [HU.out]; exact (Below.refl _ V).setCell (p := ⟨w.heap.size, 4, none⟩) (Nat.le_refl _) _)
      have HU3 : Hid (∀ k, k ≠ w.heap.size → U.heap[k]? = V.heap[k]?) := Lib.hid (fun k hk => by rw [HU.out]; exact Below.heap_setCell V ⟨w.heap.size, 4, none⟩ _ k hk)
      clear k0 k1 k2 k3 k4 k5 k6 y4 hk
      obtain ⟨⟨k0, k1, k2, k3, k4, k5, k6⟩, fk, hk⟩ := rd_cells gu
      obtain ⟨⟨m0, m1, m2, m3, m4, m5, m6⟩, fm, hm⟩ := rd_cells gu2
      have z0 := fm 0; have z1 := fm 1; have z2 := fm 2; have z3 := fm 3; have z4 := fm 4; have z5 := fm 5; have z6 := fm 6
      have GU2 := Lib.hid gu2
      clear fk fm gu gu2
      go_wp2_with fail
      obtain ⟨p1, p2, p3⟩ := set7 (.slice none 0 0) (.slice none 0 0) ⟨#[]⟩ 0 ((a : Int) + nb) 7 beg GU2.out _ rfl
      obtain ⟨⟨r0, r1, r2, r3, r4, r5, r6⟩, _, _⟩ := rd_cells p1
      have hBX := ((B1.out.trans Q2.out).trans HUB.out).trans (p2.mono (by omega))
      refine bodyPost_ret (v := oneV (.slice none 0 0) (.slice none 0 0) ⟨#[]⟩ 0 ((a : Int) + nb) 7 beg nb) (by simp [results, oneV, rdV, rdA, Try.results16, go_sem, r0, r1, r2, r3, r4, r5, r6]) rfl ?_
      exact .inl ⟨hbig, ⟨_, rfl⟩, hBX⟩
    · skip
      have HHd := Lib.hid (heads_down HD0.out HB.out hH)
      have HOo := Lib.hid ho
      have HSt := Lib.hid hst
      have hg2 : w.heap.size + 2 ≤ g := by have := HSZ.out; omega
      clear hrr hH ho hst hg
      have g1' := below_kept b1 G1.out
      have g2' := below_kept b1 G2.out
      obtain ⟨⟨k0, k1, k2, k3, k4, k5, k6⟩, fk, hk⟩ := rd_cells g1'
      obtain ⟨⟨m0, m1, m2, m3, m4, m5, m6⟩, fm, hm⟩ := rd_cells g2'
      have y0 := fk 0; have y1 := fk 1; have y2 := fk 2; have y3 := fk 3; have y4 := fk 4; have y5 := fk 5; have y6 := fk 6
      have z0 := fm 0; have z1 := fm 1; have z2 := fm 2; have z3 := fm 3; have z4 := fm 4; have z5 := fm 5; have z6 := fm 6
      have GG1 := Lib.hid g1'
      have GG2 := Lib.hid g2'
      have B1 := Lib.hid (below_up HB.out b1)
      have BW := Lib.hid b1
      clear c0 c1 c2 c3 c4 c5 c6 d0 d1 d2 d3 d4 d5 d6 x0 x1 x2 x3 x4 x5 x6 n0 n1 n2 n3 n4 n5 n6 hlt hlt' fk fm g1' g2' b1 CL
      obtain ⟨V, HV⟩ : ∃ V, Hid (V = ((((((w2.setCell ⟨w.heap.size, 0, none⟩ (.slice dao' (rs.length + 1) dcap')).setCell ⟨w.heap.size, 1, none⟩ (.slice none 0 0)).setCell ⟨w.heap.size, 2, none⟩ (.string ⟨#[]⟩)).setCell ⟨w.heap.size, 3, none⟩ (.int .i64 0)).setCell ⟨w.heap.size, 4, none⟩ (.int .i64 beg)).setCell ⟨w.heap.size, 5, none⟩ (.int .i64 0)).setCell ⟨w.heap.size, 6, none⟩ (.int .i64 at')) := ⟨_, Lib.hid rfl⟩
      obtain ⟨q1, q2, q3⟩ := set7 (.slice dao' (rs.length + 1) dcap') (.slice none 0 0) ⟨#[]⟩ 0 beg 0 at' GG1.out V HV.out
      have GV2 := Lib.hid ((q3 (w.heap.size + 1) (by omega)).trans GG2.out)
      have GV1 := Lib.hid q1
      have Q2 := Lib.hid q2
      have Q3 := Lib.hid q3
      clear q1 q2 q3
      go_upto_region 18 with fail
      rw [← HV.out]
      clear k0 k1 k2 k3 k4 k5 k6 y0 y1 y2 y3 y4 y5 y6 m0 m1 m2 m3 m4 m5 m6 z0 z1 z2 z3 z4 z5 z6 hk hm
      obtain ⟨⟨k0, k1, k2, k3, k4, k5, k6⟩, fk, hk⟩ := rd_cells GV1.out
      have y4 := fk 4
      clear fk
      go_upto_region 19 with fail
      obtain ⟨U, HU⟩ : ∃ U, Hid (U = V.setCell ⟨w.heap.size, 4, none⟩ (.int .i64 ((a : Int) + nb))) := ⟨_, Lib.hid rfl⟩
      rw [← HU.out]
      have gu : U.heap[w.heap.size]? = some (.cells (rdA (.slice dao' (rs.length + 1) dcap') (.slice none 0 0) ⟨#[]⟩ 0 ((a : Int) + nb) 0 at') 41 (0, 0)) := by
        rw [HU.out]; have := heap_set (i := 4) (.int .i64 ((a : Int) + nb)) GV1.out; simpa [rdA] using this
      have gu2 : U.heap[w.heap.size + 1]? = some (.cells (rdA (.slice none 0 0) (.slice none 0 0) ⟨#[]⟩ 0 0 0 0) 41 (0, 0)) := by
        rw [HU.out]; exact (Below.heap_setCell V ⟨w.heap.size, 4, none⟩ (.int .i64 ((a : Int) + nb)) (w.heap.size + 1) (by simp)).trans GV2.out
      have HUB : Hid (Below w.heap.size V U) := Lib.hid (by rw [HU.out]; exact (Below.refl _ V).setCell (p := ⟨w.heap.size, 4, none⟩) (Nat.le_refl _) _)
      have HU3 : Hid (∀ k, k ≠ w.heap.size → U.heap[k]? = V.heap[k]?) := Lib.hid (fun k hk => by rw [HU.out]; exact Below.heap_setCell V ⟨w.heap.size, 4, none⟩ _ k hk)
      clear k0 k1 k2 k3 k4 k5 k6 y4 hk
      obtain ⟨⟨k0, k1, k2, k3, k4, k5, k6⟩, fk, hk⟩ := rd_cells gu
      obtain ⟨⟨m0, m1, m2, m3, m4, m5, m6⟩, fm, hm⟩ := rd_cells gu2
      have z0 := fm 0; have z1 := fm 1; have z2 := fm 2; have z3 := fm 3; have z4 := fm 4; have z5 := fm 5; have z6 := fm 6
      have GU2 := Lib.hid gu2
      clear fk fm gu gu2
      go_wp2_with fail
      obtain ⟨p1, p2, p3⟩ := set7 (.slice dao' (rs.length + 1) dcap') (.slice none 0 0) ⟨#[]⟩ 0 ((a : Int) + nb) 0 at' GU2.out _ rfl
      obtain ⟨⟨r0, r1, r2, r3, r4, r5, r6⟩, _, _⟩ := rd_cells p1
      have hBX := ((B1.out.trans Q2.out).trans HUB.out).trans (p2.mono (by omega))
      refine bodyPost_ret (v := oneV (.slice dao' (rs.length + 1) dcap') (.slice none 0 0) ⟨#[]⟩ 0 ((a : Int) + nb) 0 at' nb) (by simp [results, oneV, rdV, rdA, Try.results16, go_sem, r0, r1, r2, r3, r4, r5, r6]) rfl ?_
      have hall : ∀ k, k < w2.heap.size → k ≠ w.heap.size → k ≠ w.heap.size + 1 → _ = w2.heap[k]? := fun k _ h1 h2 => (p3 k h2).trans ((HU3.out k h1).trans (Q3.out k h1))
      have hsx := Nat.le_trans Q2.out.size (Nat.le_trans HUB.out.size p2.size)
      have hrow := row_other HSt.out hsx hall (by omega) (by omega)
      have hown := own_moved HOo.out (B := w.heap.size) (by rw [HSZ.out]; omega) hall
      obtain ⟨co, cc, e, hrows⟩ := heads_join (rs := rs) (ss := [xs ++ [cell]]) (bo := none) (HHd.out.kept HD0.out hBX) (ks := [.slice (some ⟨g, 0, none⟩) (xs ++ [cell]).length c']) ⟨rfl, (fun A hA => by cases hA), fun j r hr => by
        match j, hr with
        | 0, hr => simp at hr; subst hr; exact ⟨_, _, rfl, hrow⟩⟩ hown
      simp only [Value.slice.injEq] at e
      obtain ⟨rfl, _, _⟩ := e
      exact .inr ⟨hsm, _, _, rfl, hrows, ⟨hh, g, c', HHd.out, by omega, own_low hown (by rw [HSZ.out]; omega)⟩, hBX⟩
  · have h34 := hq h3
    clear hq
    go_enter Try.func16, Try.ntmps16
    go_wp2_with fail
    rw [show ((w.alloc (.cells #[.slice dao rs.length dcap, .slice ro xs.length cap, .string cell, .int .i64 st, .int .i64 beg, .int .i64 0, .int .i64 at'] 41)).alloc (.cells #[.slice none 0 0, .slice none 0 0, .string ⟨#[]⟩, .int .i64 0, .int .i64 0, .int .i64 0, .int .i64 0] 41)) = W from HW.out.symm]
    refine (BK.out _).mono ?_; rintro e w1 ⟨rfl, rfl⟩
    go_wp2_with fail
    refine CL.out.mono ?_
    rintro e w2 (⟨hbig, rfl, b1⟩ | ⟨hsm, dao', dcap', rfl, hrr, b1, hh, g, c', hH, hg, ho, hst⟩)
    · skip
      have g1' := below_kept b1 G1.out
      have g2' := below_kept b1 G2.out
      obtain ⟨⟨k0, k1, k2, k3, k4, k5, k6⟩, fk, hk⟩ := rd_cells g1'
      obtain ⟨⟨m0, m1, m2, m3, m4, m5, m6⟩, fm, hm⟩ := rd_cells g2'
      have y0 := fk 0; have y1 := fk 1; have y2 := fk 2; have y3 := fk 3; have y4 := fk 4; have y5 := fk 5; have y6 := fk 6
      have z0 := fm 0; have z1 := fm 1; have z2 := fm 2; have z3 := fm 3; have z4 := fm 4; have z5 := fm 5; have z6 := fm 6
      have GG1 := Lib.hid g1'
      have GG2 := Lib.hid g2'
      have B1 := Lib.hid (below_up HB.out b1)
      have BW := Lib.hid b1
      clear c0 c1 c2 c3 c4 c5 c6 d0 d1 d2 d3 d4 d5 d6 x0 x1 x2 x3 x4 x5 x6 n0 n1 n2 n3 n4 n5 n6 hlt hlt' fk fm g1' g2' b1 CL
      obtain ⟨V, HV⟩ : ∃ V, Hid (V = ((((((w2.setCell ⟨w.heap.size, 0, none⟩ (.slice none 0 0)).setCell ⟨w.heap.size, 1, none⟩ (.slice none 0 0)).setCell ⟨w.heap.size, 2, none⟩ (.string ⟨#[]⟩)).setCell ⟨w.heap.size, 3, none⟩ (.int .i64 0)).setCell ⟨w.heap.size, 4, none⟩ (.int .i64 0)).setCell ⟨w.heap.size, 5, none⟩ (.int .i64 7)).setCell ⟨w.heap.size, 6, none⟩ (.int .i64 beg)) := ⟨_, Lib.hid rfl⟩
      obtain ⟨q1, q2, q3⟩ := set7 (.slice none 0 0) (.slice none 0 0) ⟨#[]⟩ 0 0 7 beg GG1.out V HV.out
      have GV2 := Lib.hid ((q3 (w.heap.size + 1) (by omega)).trans GG2.out)
      have GV1 := Lib.hid q1
      have Q2 := Lib.hid q2
      have Q3 := Lib.hid q3
      clear q1 q2 q3
      go_upto_region 18 with fail
      rw [← HV.out]
      clear k0 k1 k2 k3 k4 k5 k6 y0 y1 y2 y3 y4 y5 y6 m0 m1 m2 m3 m4 m5 m6 z0 z1 z2 z3 z4 z5 z6 hk hm
      obtain ⟨⟨k0, k1, k2, k3, k4, k5, k6⟩, fk, hk⟩ := rd_cells GV1.out
      have y4 := fk 4
      clear fk
      go_upto_region 19 with fail
      obtain ⟨U, HU⟩ : ∃ U, Hid (U = V.setCell ⟨w.heap.size, 4, none⟩ (.int .i64 ((a : Int) + nb))) := ⟨_, Lib.hid rfl⟩
      rw [← HU.out]
      have gu : U.heap[w.heap.size]? = some (.cells (rdA (.slice none 0 0) (.slice none 0 0) ⟨#[]⟩ 0 ((a : Int) + nb) 7 beg) 41 (0, 0)) := by
        rw [HU.out]; have := heap_set (i := 4) (.int .i64 ((a : Int) + nb)) GV1.out; simpa [rdA] using this
      have gu2 : U.heap[w.heap.size + 1]? = some (.cells (rdA (.slice none 0 0) (.slice none 0 0) ⟨#[]⟩ 0 0 0 0) 41 (0, 0)) := by
        rw [HU.out]; exact (Below.heap_setCell V ⟨w.heap.size, 4, none⟩ (.int .i64 ((a : Int) + nb)) (w.heap.size + 1) (by simp)).trans GV2.out
      have HUB : Hid (Below w.heap.size V U) := Lib.hid (by rw [HU.out]; exact (Below.refl _ V).setCell (p := ⟨w.heap.size, 4, none⟩) (Nat.le_refl _) _)
      have HU3 : Hid (∀ k, k ≠ w.heap.size → U.heap[k]? = V.heap[k]?) := Lib.hid (fun k hk => by rw [HU.out]; exact Below.heap_setCell V ⟨w.heap.size, 4, none⟩ _ k hk)
      clear k0 k1 k2 k3 k4 k5 k6 y4 hk
      obtain ⟨⟨k0, k1, k2, k3, k4, k5, k6⟩, fk, hk⟩ := rd_cells gu
      obtain ⟨⟨m0, m1, m2, m3, m4, m5, m6⟩, fm, hm⟩ := rd_cells gu2
      have z0 := fm 0; have z1 := fm 1; have z2 := fm 2; have z3 := fm 3; have z4 := fm 4; have z5 := fm 5; have z6 := fm 6
      have GU2 := Lib.hid gu2
      clear fk fm gu gu2
      go_wp2_with fail
      obtain ⟨p1, p2, p3⟩ := set7 (.slice none 0 0) (.slice none 0 0) ⟨#[]⟩ 0 ((a : Int) + nb) 7 beg GU2.out _ rfl
      obtain ⟨⟨r0, r1, r2, r3, r4, r5, r6⟩, _, _⟩ := rd_cells p1
      have hBX := ((B1.out.trans Q2.out).trans HUB.out).trans (p2.mono (by omega))
      refine bodyPost_ret (v := oneV (.slice none 0 0) (.slice none 0 0) ⟨#[]⟩ 0 ((a : Int) + nb) 7 beg nb) (by simp [results, oneV, rdV, rdA, Try.results16, go_sem, r0, r1, r2, r3, r4, r5, r6]) rfl ?_
      exact .inl ⟨hbig, ⟨_, rfl⟩, hBX⟩
    · skip
      have HHd := Lib.hid (heads_down HD0.out HB.out hH)
      have HOo := Lib.hid ho
      have HSt := Lib.hid hst
      have hg2 : w.heap.size + 2 ≤ g := by have := HSZ.out; omega
      clear hrr hH ho hst hg
      have g1' := below_kept b1 G1.out
      have g2' := below_kept b1 G2.out
      obtain ⟨⟨k0, k1, k2, k3, k4, k5, k6⟩, fk, hk⟩ := rd_cells g1'
      obtain ⟨⟨m0, m1, m2, m3, m4, m5, m6⟩, fm, hm⟩ := rd_cells g2'
      have y0 := fk 0; have y1 := fk 1; have y2 := fk 2; have y3 := fk 3; have y4 := fk 4; have y5 := fk 5; have y6 := fk 6
      have z0 := fm 0; have z1 := fm 1; have z2 := fm 2; have z3 := fm 3; have z4 := fm 4; have z5 := fm 5; have z6 := fm 6
      have GG1 := Lib.hid g1'
      have GG2 := Lib.hid g2'
      have B1 := Lib.hid (below_up HB.out b1)
      have BW := Lib.hid b1
      clear c0 c1 c2 c3 c4 c5 c6 d0 d1 d2 d3 d4 d5 d6 x0 x1 x2 x3 x4 x5 x6 n0 n1 n2 n3 n4 n5 n6 hlt hlt' fk fm g1' g2' b1 CL
      obtain ⟨V, HV⟩ : ∃ V, Hid (V = ((((((w2.setCell ⟨w.heap.size, 0, none⟩ (.slice dao' (rs.length + 1) dcap')).setCell ⟨w.heap.size, 1, none⟩ (.slice none 0 0)).setCell ⟨w.heap.size, 2, none⟩ (.string ⟨#[]⟩)).setCell ⟨w.heap.size, 3, none⟩ (.int .i64 0)).setCell ⟨w.heap.size, 4, none⟩ (.int .i64 beg)).setCell ⟨w.heap.size, 5, none⟩ (.int .i64 0)).setCell ⟨w.heap.size, 6, none⟩ (.int .i64 at')) := ⟨_, Lib.hid rfl⟩
      obtain ⟨q1, q2, q3⟩ := set7 (.slice dao' (rs.length + 1) dcap') (.slice none 0 0) ⟨#[]⟩ 0 beg 0 at' GG1.out V HV.out
      have GV2 := Lib.hid ((q3 (w.heap.size + 1) (by omega)).trans GG2.out)
      have GV1 := Lib.hid q1
      have Q2 := Lib.hid q2
      have Q3 := Lib.hid q3
      clear q1 q2 q3
      go_upto_region 18 with fail
      rw [← HV.out]
      clear k0 k1 k2 k3 k4 k5 k6 y0 y1 y2 y3 y4 y5 y6 m0 m1 m2 m3 m4 m5 m6 z0 z1 z2 z3 z4 z5 z6 hk hm
      obtain ⟨⟨k0, k1, k2, k3, k4, k5, k6⟩, fk, hk⟩ := rd_cells GV1.out
      have y4 := fk 4
      clear fk
      go_upto_region 19 with fail
      obtain ⟨U, HU⟩ : ∃ U, Hid (U = V.setCell ⟨w.heap.size, 4, none⟩ (.int .i64 ((a : Int) + nb))) := ⟨_, Lib.hid rfl⟩
      rw [← HU.out]
      have gu : U.heap[w.heap.size]? = some (.cells (rdA (.slice dao' (rs.length + 1) dcap') (.slice none 0 0) ⟨#[]⟩ 0 ((a : Int) + nb) 0 at') 41 (0, 0)) := by
        rw [HU.out]; have := heap_set (i := 4) (.int .i64 ((a : Int) + nb)) GV1.out; simpa [rdA] using this
      have gu2 : U.heap[w.heap.size + 1]? = some (.cells (rdA (.slice none 0 0) (.slice none 0 0) ⟨#[]⟩ 0 0 0 0) 41 (0, 0)) := by
        rw [HU.out]; exact (Below.heap_setCell V ⟨w.heap.size, 4, none⟩ (.int .i64 ((a : Int) + nb)) (w.heap.size + 1) (by simp)).trans GV2.out
      have HUB : Hid (Below w.heap.size V U) := Lib.hid (by rw [HU.out]; exact (Below.refl _ V).setCell (p := ⟨w.heap.size, 4, none⟩) (Nat.le_refl _) _)
      have HU3 : Hid (∀ k, k ≠ w.heap.size → U.heap[k]? = V.heap[k]?) := Lib.hid (fun k hk => by rw [HU.out]; exact Below.heap_setCell V ⟨w.heap.size, 4, none⟩ _ k hk)
      clear k0 k1 k2 k3 k4 k5 k6 y4 hk
      obtain ⟨⟨k0, k1, k2, k3, k4, k5, k6⟩, fk, hk⟩ := rd_cells gu
      obtain ⟨⟨m0, m1, m2, m3, m4, m5, m6⟩, fm, hm⟩ := rd_cells gu2
      have z0 := fm 0; have z1 := fm 1; have z2 := fm 2; have z3 := fm 3; have z4 := fm 4; have z5 := fm 5; have z6 := fm 6
      have GU2 := Lib.hid gu2
      clear fk fm gu gu2
      go_wp2_with fail
      obtain ⟨p1, p2, p3⟩ := set7 (.slice dao' (rs.length + 1) dcap') (.slice none 0 0) ⟨#[]⟩ 0 ((a : Int) + nb) 0 at' GU2.out _ rfl
      obtain ⟨⟨r0, r1, r2, r3, r4, r5, r6⟩, _, _⟩ := rd_cells p1
      have hBX := ((B1.out.trans Q2.out).trans HUB.out).trans (p2.mono (by omega))
      refine bodyPost_ret (v := oneV (.slice dao' (rs.length + 1) dcap') (.slice none 0 0) ⟨#[]⟩ 0 ((a : Int) + nb) 0 at' nb) (by simp [results, oneV, rdV, rdA, Try.results16, go_sem, r0, r1, r2, r3, r4, r5, r6]) rfl ?_
      have hall : ∀ k, k < w2.heap.size → k ≠ w.heap.size → k ≠ w.heap.size + 1 → _ = w2.heap[k]? := fun k _ h1 h2 => (p3 k h2).trans ((HU3.out k h1).trans (Q3.out k h1))
      have hsx := Nat.le_trans Q2.out.size (Nat.le_trans HUB.out.size p2.size)
      have hrow := row_other HSt.out hsx hall (by omega) (by omega)
      have hown := own_moved HOo.out (B := w.heap.size) (by rw [HSZ.out]; omega) hall
      obtain ⟨co, cc, e, hrows⟩ := heads_join (rs := rs) (ss := [xs ++ [cell]]) (bo := none) (HHd.out.kept HD0.out hBX) (ks := [.slice (some ⟨g, 0, none⟩) (xs ++ [cell]).length c']) ⟨rfl, (fun A hA => by cases hA), fun j r hr => by
        match j, hr with
        | 0, hr => simp at hr; subst hr; exact ⟨_, _, rfl, hrow⟩⟩ hown
      simp only [Value.slice.injEq] at e
      obtain ⟨rfl, _, _⟩ := e
      exact .inr ⟨hsm, _, _, rfl, hrows, ⟨hh, g, c', HHd.out, by omega, own_low hown (by rw [HSZ.out]; omega)⟩, hBX⟩
end Go.Proofs.Ytacclgfpmkhodaa
