/-
  The document's reference: one byte is read.
  Conditions: a text of at most 2^40 bytes (the statements ask about far shorter ones).
-/
import Derived.WalkKit
import Derived.WalkMore
import Derived.Lib.Hide
import Derived.StillTailTactics
import Derived.IntWalk
import Derived.Deep.CutRange
import Derived.Deep.Onto
import Derived.Test.YtacclgfpmkhodaaProg
import Derived.Test.YtacclgfpmkhodaaCsvRd5
namespace Go.Proofs.Ytacclgfpmkhodaa
open Go.RowKit Go.Shelf
set_option linter.unusedVariables false

set_option maxRecDepth 100000 in
set_option maxHeartbeats 2000000 in
theorem one_in (s : ByteArray) (a : Nat) (d : Int) (dao : Option Addr) (dlen dcap : Nat) (ro : Option Addr) (rlen rcap : Nat) (cell : ByteArray) (st beg at' nb : Int) (w : World) (hs : s.size ≤ 1099511627776) (ha : a < s.size) (hnb : (brkI s.data.toList (a : Int) : Int) = nb) (hb : ((s[a].toNat : Int) == 34) = false) (hc : cell.size ≤ 1099511627776) :
    Calls Try.prog 16 #[.string s, .int .i64 a, .int .u8 d, rdV (.slice dao dlen dcap) (.slice ro rlen rcap) cell 2 beg 0 at'] w fun e w' =>
      e = .returned (oneV (.slice dao dlen dcap) (.slice ro rlen rcap) (cell ++ s.extract a (a + 1)) 2 beg 0 at' 1) ∧ Below w.heap.size w w' := by
  obtain ⟨W, HW⟩ : ∃ W, Hid (W = (w.alloc (.cells (rdA (.slice dao dlen dcap) (.slice ro rlen rcap) cell 2 beg 0 at') 41)).alloc (.cells (rdA (.slice none 0 0) (.slice none 0 0) ⟨#[]⟩ 0 0 0 0) 41)) := ⟨_, Lib.hid rfl⟩
  obtain ⟨hsz, g1, g2⟩ := two_new w (.cells (rdA (.slice dao dlen dcap) (.slice ro rlen rcap) cell 2 beg 0 at') 41) (.cells (rdA (.slice none 0 0) (.slice none 0 0) ⟨#[]⟩ 0 0 0 0) 41)
  have hB := two_below w (.cells (rdA (.slice dao dlen dcap) (.slice ro rlen rcap) cell 2 beg 0 at') 41) (.cells (rdA (.slice none 0 0) (.slice none 0 0) ⟨#[]⟩ 0 0 0 0) 41)
  rw [← HW.out] at hsz g1 g2 hB
  obtain ⟨⟨c0, c1, c2, c3, c4, c5, c6⟩, fz, hlt⟩ := rd_cells g1
  obtain ⟨⟨d0, d1, d2, d3, d4, d5, d6⟩, fy, hlt'⟩ := rd_cells g2
  have HSZ := Lib.hid hsz; have G1 := Lib.hid g1; have G2 := Lib.hid g2; have HB := Lib.hid hB
  have x0 := fz 0; have x1 := fz 1; have x2 := fz 2; have x3 := fz 3; have x4 := fz 4; have x5 := fz 5; have x6 := fz 6
  have n0 := fy 0; have n1 := fy 1; have n2 := fy 2; have n3 := fy 3; have n4 := fy 4; have n5 := fy 5; have n6 := fy 6
  have BK := Lib.hid (fun W => rbreak_any s (a : Int) W hs (by omega) (by omega))
  rw [hnb] at BK
  clear hsz g1 g2 hB fz fy hnb
  have k0 : (0 : Int) ≤ (a : Int) := by omega
  have k1 : (a : Int) ≤ (a : Int) + 1 := by omega
  have k2 : (a : Int) + 1 ≤ (s.size : Int) := by omega
  have k3 : IntKind.i64.wrap ((a : Int) + 1) = (a : Int) + 1 := IntWalk.i64_in _ (by omega)
  have k4 : ((a : Int) + 1).toNat = a + 1 := by omega
  have k6 : ¬ 9223372036854775807 < cell.size + (min (a + 1) s.size - a) := by omega
  unfold rdV
  unfold rdA
  go_enter Try.func16, Try.ntmps16
  go_wp2_with fail
  rw [show ((w.alloc (.cells #[.slice dao dlen dcap, .slice ro rlen rcap, .string cell, .int .i64 2, .int .i64 beg, .int .i64 0, .int .i64 at'] 41)).alloc (.cells #[.slice none 0 0, .slice none 0 0, .string ⟨#[]⟩, .int .i64 0, .int .i64 0, .int .i64 0, .int .i64 0] 41)) = W from HW.out.symm]
  refine (BK.out _).mono ?_; rintro e w1 ⟨rfl, rfl⟩
  go_wp2_with fail
  go_still_tail 9, (by kernel_rfl)
  clear k3 k4 k6
  rw [show ({ heap := W.heap, tape := W.tape, drawn := W.drawn + 1, os := W.os, output := W.output } : World) = W.drew from rfl]
  generalize hC : cell ++ s.extract a (a + 1) = C
  have HC := Lib.hid hC
  clear hC
  go_upto_region 8 with fail
  obtain ⟨V, HV⟩ : ∃ V, Hid (V = (W.setCell ⟨w.heap.size, 2, none⟩ (.string C)).drew) := ⟨_, Lib.hid rfl⟩
  have HV2 : Hid (V = (W.drew.setCell ⟨w.heap.size, 2, none⟩ (.string C))) := Lib.hid HV.out
  first
    | rw [← HV.out]
    | rw [← HV2.out]
  have gu : V.heap[w.heap.size]? = some (.cells (rdA (.slice dao dlen dcap) (.slice ro rlen rcap) C 2 beg 0 at') 41 (0, 0)) := by
    rw [HV.out]; show (W.setCell ⟨w.heap.size, 2, none⟩ (.string C)).heap[w.heap.size]? = _; have := (heap_set (i := 2) (.string C) G1.out); simpa [rdA] using this
  have gu2 : V.heap[w.heap.size + 1]? = some (.cells (rdA (.slice none 0 0) (.slice none 0 0) ⟨#[]⟩ 0 0 0 0) 41 (0, 0)) := by
    rw [HV.out]; exact ((Below.heap_setCell W ⟨w.heap.size, 2, none⟩ (.string C) (w.heap.size + 1) (by simp)).trans G2.out)
  have HBV : Hid (Below w.heap.size w V) := Lib.hid (by rw [HV.out]; exact (HB.out.setCell (p := ⟨w.heap.size, 2, none⟩) (Nat.le_refl _) _).drew)
  clear c0 c1 c2 c3 c4 c5 c6 d0 d1 d2 d3 d4 d5 d6 x0 x1 x2 x3 x4 x5 x6 n0 n1 n2 n3 n4 n5 n6 hlt hlt'
  obtain ⟨⟨k0', k1', k2', k3', k4', k5', k6'⟩, fk, hk⟩ := rd_cells gu
  obtain ⟨⟨m0, m1, m2, m3, m4, m5, m6⟩, fm, hm⟩ := rd_cells gu2
  have z0 := fm 0; have z1 := fm 1; have z2 := fm 2; have z3 := fm 3; have z4 := fm 4; have z5 := fm 5; have z6 := fm 6
  have GU2 := Lib.hid gu2
  clear fk fm gu gu2
  go_wp2_with fail
  obtain ⟨p1, p2, p3⟩ := set7 (.slice dao dlen dcap) (.slice ro rlen rcap) C 2 beg 0 at' GU2.out _ rfl
  obtain ⟨⟨r0, r1, r2, r3, r4, r5, r6⟩, _, _⟩ := rd_cells p1
  refine bodyPost_ret (v := oneV (.slice dao dlen dcap) (.slice ro rlen rcap) C 2 beg 0 at' 1) (by simp [results, oneV, rdV, rdA, Try.results16, go_sem, r0, r1, r2, r3, r4, r5, r6]) rfl ?_
  exact ⟨by rw [HC.out], HBV.out.trans (p2.mono (by omega))⟩

set_option maxRecDepth 100000 in
set_option maxHeartbeats 2000000 in
theorem one_plain (s : ByteArray) (a : Nat) (d : Int) (dao : Option Addr) (dlen dcap : Nat) (ro : Option Addr) (rlen rcap : Nat) (cell : ByteArray) (st beg at' nb : Int) (w : World) (hs : s.size ≤ 1099511627776) (ha : a < s.size) (hnb : (brkI s.data.toList (a : Int) : Int) = nb) (hb : ((s[a].toNat : Int) == 34) = false) (hd : ((s[a].toNat : Int) == d) = false) (hn : decide (0 < nb) = false) (h13 : ((s[a].toNat : Int) == 13) = false) (h2 : (st == 2) = false) (h3 : (st == 3) = false) (hc : cell.size ≤ 1099511627776) :
    Calls Try.prog 16 #[.string s, .int .i64 a, .int .u8 d, rdV (.slice dao dlen dcap) (.slice ro rlen rcap) cell st beg 0 at'] w fun e w' =>
      e = .returned (oneV (.slice dao dlen dcap) (.slice ro rlen rcap) (cell ++ s.extract a (a + 1)) 1 beg 0 at' 1) ∧ Below w.heap.size w w' := by
  obtain ⟨W, HW⟩ : ∃ W, Hid (W = (w.alloc (.cells (rdA (.slice dao dlen dcap) (.slice ro rlen rcap) cell st beg 0 at') 41)).alloc (.cells (rdA (.slice none 0 0) (.slice none 0 0) ⟨#[]⟩ 0 0 0 0) 41)) := ⟨_, Lib.hid rfl⟩
  obtain ⟨hsz, g1, g2⟩ := two_new w (.cells (rdA (.slice dao dlen dcap) (.slice ro rlen rcap) cell st beg 0 at') 41) (.cells (rdA (.slice none 0 0) (.slice none 0 0) ⟨#[]⟩ 0 0 0 0) 41)
  have hB := two_below w (.cells (rdA (.slice dao dlen dcap) (.slice ro rlen rcap) cell st beg 0 at') 41) (.cells (rdA (.slice none 0 0) (.slice none 0 0) ⟨#[]⟩ 0 0 0 0) 41)
  rw [← HW.out] at hsz g1 g2 hB
  obtain ⟨⟨c0, c1, c2, c3, c4, c5, c6⟩, fz, hlt⟩ := rd_cells g1
  obtain ⟨⟨d0, d1, d2, d3, d4, d5, d6⟩, fy, hlt'⟩ := rd_cells g2
  have HSZ := Lib.hid hsz; have G1 := Lib.hid g1; have G2 := Lib.hid g2; have HB := Lib.hid hB
  have x0 := fz 0; have x1 := fz 1; have x2 := fz 2; have x3 := fz 3; have x4 := fz 4; have x5 := fz 5; have x6 := fz 6
  have n0 := fy 0; have n1 := fy 1; have n2 := fy 2; have n3 := fy 3; have n4 := fy 4; have n5 := fy 5; have n6 := fy 6
  have BK := Lib.hid (fun W => rbreak_any s (a : Int) W hs (by omega) (by omega))
  rw [hnb] at BK
  clear hsz g1 g2 hB fz fy hnb
  have k0 : (0 : Int) ≤ (a : Int) := by omega
  have k1 : (a : Int) ≤ (a : Int) + 1 := by omega
  have k2 : (a : Int) + 1 ≤ (s.size : Int) := by omega
  have k3 : IntKind.i64.wrap ((a : Int) + 1) = (a : Int) + 1 := IntWalk.i64_in _ (by omega)
  have k4 : ((a : Int) + 1).toNat = a + 1 := by omega
  have k6 : ¬ 9223372036854775807 < cell.size + (min (a + 1) s.size - a) := by omega
  unfold rdV
  unfold rdA
  go_enter Try.func16, Try.ntmps16
  go_wp2_with fail
  rw [show ((w.alloc (.cells #[.slice dao dlen dcap, .slice ro rlen rcap, .string cell, .int .i64 st, .int .i64 beg, .int .i64 0, .int .i64 at'] 41)).alloc (.cells #[.slice none 0 0, .slice none 0 0, .string ⟨#[]⟩, .int .i64 0, .int .i64 0, .int .i64 0, .int .i64 0] 41)) = W from HW.out.symm]
  refine (BK.out _).mono ?_; rintro e w1 ⟨rfl, rfl⟩
  go_wp2_with fail
  go_still_tail 9, (by kernel_rfl)
  clear k3 k4 k6
  rw [show ({ heap := W.heap, tape := W.tape, drawn := W.drawn + 1, os := W.os, output := W.output } : World) = W.drew from rfl]
  generalize hC : cell ++ s.extract a (a + 1) = C
  have HC := Lib.hid hC
  clear hC
  go_upto_region 30 with fail
  obtain ⟨V, HV⟩ : ∃ V, Hid (V = ((W.setCell ⟨w.heap.size, 2, none⟩ (.string C)).setCell ⟨w.heap.size, 3, none⟩ (.int .i64 1)).drew) := ⟨_, Lib.hid rfl⟩
  have HV2 : Hid (V = ((W.drew.setCell ⟨w.heap.size, 2, none⟩ (.string C)).setCell ⟨w.heap.size, 3, none⟩ (.int .i64 1))) := Lib.hid HV.out
  first
    | rw [← HV.out]
    | rw [← HV2.out]
  have gu : V.heap[w.heap.size]? = some (.cells (rdA (.slice dao dlen dcap) (.slice ro rlen rcap) C 1 beg 0 at') 41 (0, 0)) := by
    rw [HV.out]; show ((W.setCell ⟨w.heap.size, 2, none⟩ (.string C)).setCell ⟨w.heap.size, 3, none⟩ (.int .i64 1)).heap[w.heap.size]? = _; have := (heap_set (i := 3) (.int .i64 1) (heap_set (i := 2) (.string C) G1.out)); simpa [rdA] using this
  have gu2 : V.heap[w.heap.size + 1]? = some (.cells (rdA (.slice none 0 0) (.slice none 0 0) ⟨#[]⟩ 0 0 0 0) 41 (0, 0)) := by
    rw [HV.out]; exact ((Below.heap_setCell (W.setCell ⟨w.heap.size, 2, none⟩ (.string C)) ⟨w.heap.size, 3, none⟩ (.int .i64 1) (w.heap.size + 1) (by simp)).trans ((Below.heap_setCell W ⟨w.heap.size, 2, none⟩ (.string C) (w.heap.size + 1) (by simp)).trans G2.out))
  have HBV : Hid (Below w.heap.size w V) := Lib.hid (by rw [HV.out]; exact ((HB.out.setCell (p := ⟨w.heap.size, 2, none⟩) (Nat.le_refl _) _).setCell (p := ⟨w.heap.size, 3, none⟩) (Nat.le_refl _) _).drew)
  clear c0 c1 c2 c3 c4 c5 c6 d0 d1 d2 d3 d4 d5 d6 x0 x1 x2 x3 x4 x5 x6 n0 n1 n2 n3 n4 n5 n6 hlt hlt'
  obtain ⟨⟨k0', k1', k2', k3', k4', k5', k6'⟩, fk, hk⟩ := rd_cells gu
  obtain ⟨⟨m0, m1, m2, m3, m4, m5, m6⟩, fm, hm⟩ := rd_cells gu2
  have z0 := fm 0; have z1 := fm 1; have z2 := fm 2; have z3 := fm 3; have z4 := fm 4; have z5 := fm 5; have z6 := fm 6
  have GU2 := Lib.hid gu2
  clear fk fm gu gu2
  go_wp2_with fail
  obtain ⟨p1, p2, p3⟩ := set7 (.slice dao dlen dcap) (.slice ro rlen rcap) C 1 beg 0 at' GU2.out _ rfl
  obtain ⟨⟨r0, r1, r2, r3, r4, r5, r6⟩, _, _⟩ := rd_cells p1
  refine bodyPost_ret (v := oneV (.slice dao dlen dcap) (.slice ro rlen rcap) C 1 beg 0 at' 1) (by simp [results, oneV, rdV, rdA, Try.results16, go_sem, r0, r1, r2, r3, r4, r5, r6]) rfl ?_
  exact ⟨by rw [HC.out], HBV.out.trans (p2.mono (by omega))⟩
end Go.Proofs.Ytacclgfpmkhodaa
