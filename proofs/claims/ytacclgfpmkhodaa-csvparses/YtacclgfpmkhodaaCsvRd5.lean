/-
  The document's reference: one byte is read.
  Conditions: a text of at most 2^40 bytes (the statements ask about far shorter ones).
-/
import Derived.WalkKit
import Derived.WalkMore
import Derived.Lib.Hide
import Derived.StillTailTactics
import Derived.Deep.CutRange
import Derived.Deep.Onto
import Derived.Test.YtacclgfpmkhodaaProg
import Derived.Test.YtacclgfpmkhodaaCsvRd
namespace Go.Proofs.Ytacclgfpmkhodaa
open Go.RowKit Go.Shelf
set_option linter.unusedVariables false

def oneV (dn rc : Value) (cell : ByteArray) (st beg err at' : Int) (n : Int) : Value := .tuple #[rdV dn rc cell st beg err at', .int .i64 n]

set_option maxRecDepth 100000 in
set_option maxHeartbeats 2000000 in
theorem one_two (s : ByteArray) (a : Nat) (d : Int) (dao : Option Addr) (dlen dcap : Nat) (ro : Option Addr) (rlen rcap : Nat) (cell : ByteArray) (st beg at' nb : Int) (w : World) (hs : s.size ≤ 1099511627776) (ha : a < s.size) (hnb : (brkI s.data.toList (a : Int) : Int) = nb) (hb : ((s[a].toNat : Int) == 34) = true) (hc : cell.size ≤ 1099511627776) :
    Calls Try.prog 16 #[.string s, .int .i64 a, .int .u8 d, rdV (.slice dao dlen dcap) (.slice ro rlen rcap) cell 3 beg 0 at'] w fun e w' =>
      e = .returned (oneV (.slice dao dlen dcap) (.slice ro rlen rcap) (cell ++ ⟨#[34]⟩) 2 beg 0 at' 1) ∧ Below w.heap.size w w' := by
  obtain ⟨W, HW⟩ : ∃ W, Hid (W = (w.alloc (.cells (rdA (.slice dao dlen dcap) (.slice ro rlen rcap) cell 3 beg 0 at') 41)).alloc (.cells (rdA (.slice none 0 0) (.slice none 0 0) ⟨#[]⟩ 0 0 0 0) 41)) := ⟨_, Lib.hid rfl⟩
  obtain ⟨hsz, g1, g2⟩ := two_new w (.cells (rdA (.slice dao dlen dcap) (.slice ro rlen rcap) cell 3 beg 0 at') 41) (.cells (rdA (.slice none 0 0) (.slice none 0 0) ⟨#[]⟩ 0 0 0 0) 41)
  have hB := two_below w (.cells (rdA (.slice dao dlen dcap) (.slice ro rlen rcap) cell 3 beg 0 at') 41) (.cells (rdA (.slice none 0 0) (.slice none 0 0) ⟨#[]⟩ 0 0 0 0) 41)
  rw [← HW.out] at hsz g1 g2 hB
  obtain ⟨⟨c0, c1, c2, c3, c4, c5, c6⟩, fz, hlt⟩ := rd_cells g1
  obtain ⟨⟨d0, d1, d2, d3, d4, d5, d6⟩, fy, hlt'⟩ := rd_cells g2
  have HSZ := Lib.hid hsz; have G1 := Lib.hid g1; have G2 := Lib.hid g2; have HB := Lib.hid hB
  have x0 := fz 0; have x1 := fz 1; have x2 := fz 2; have x3 := fz 3; have x4 := fz 4; have x5 := fz 5; have x6 := fz 6
  have n0 := fy 0; have n1 := fy 1; have n2 := fy 2; have n3 := fy 3; have n4 := fy 4; have n5 := fy 5; have n6 := fy 6
  have BK := Lib.hid (fun W => rbreak_any s (a : Int) W hs (by omega) (by omega))
  rw [hnb] at BK
  clear hsz g1 g2 hB fz fy hnb
  unfold rdV
  unfold rdA
  go_enter Try.func16, Try.ntmps16
  go_wp2_with fail
  rw [show ((w.alloc (.cells #[.slice dao dlen dcap, .slice ro rlen rcap, .string cell, .int .i64 3, .int .i64 beg, .int .i64 0, .int .i64 at'] 41)).alloc (.cells #[.slice none 0 0, .slice none 0 0, .string ⟨#[]⟩, .int .i64 0, .int .i64 0, .int .i64 0, .int .i64 0] 41)) = W from HW.out.symm]
  refine (BK.out _).mono ?_; rintro e w1 ⟨rfl, rfl⟩
  go_wp2_with fail
  obtain ⟨q1, q2, _⟩ := set7 (.slice dao dlen dcap) (.slice ro rlen rcap) (cell ++ ⟨#[34]⟩) 2 beg 0 at' ((Below.heap_setCell (W.setCell ⟨w.heap.size, 2, none⟩ (.string (cell ++ ⟨#[34]⟩))) ⟨w.heap.size, 3, none⟩ (.int .i64 2) (w.heap.size + 1) (by simp)).trans ((Below.heap_setCell W ⟨w.heap.size, 2, none⟩ (.string (cell ++ ⟨#[34]⟩)) (w.heap.size + 1) (by simp)).trans G2.out)) _ rfl
  obtain ⟨⟨r0, r1, r2, r3, r4, r5, r6⟩, _, _⟩ := rd_cells q1
  refine bodyPost_ret (v := oneV (.slice dao dlen dcap) (.slice ro rlen rcap) (cell ++ ⟨#[34]⟩) 2 beg 0 at' 1) (by simp [results, oneV, rdV, rdA, Try.results16, go_sem, r0, r1, r2, r3, r4, r5, r6]) rfl ?_
  exact ⟨rfl, ((HB.out.setCell (p := ⟨w.heap.size, 2, none⟩) (Nat.le_refl _) _).setCell (p := ⟨w.heap.size, 3, none⟩) (Nat.le_refl _) _).trans (q2.mono (by omega))⟩

set_option maxRecDepth 100000 in
set_option maxHeartbeats 2000000 in
theorem one_open (s : ByteArray) (a : Nat) (d : Int) (dao : Option Addr) (dlen dcap : Nat) (ro : Option Addr) (rlen rcap : Nat) (cell : ByteArray) (st beg at' nb : Int) (w : World) (hs : s.size ≤ 1099511627776) (ha : a < s.size) (hnb : (brkI s.data.toList (a : Int) : Int) = nb) (hb : ((s[a].toNat : Int) == 34) = true) (hd : ((s[a].toNat : Int) == d) = false) (hn : decide (0 < nb) = false) :
    Calls Try.prog 16 #[.string s, .int .i64 a, .int .u8 d, rdV (.slice dao dlen dcap) (.slice ro rlen rcap) cell 0 beg 0 at'] w fun e w' =>
      e = .returned (oneV (.slice dao dlen dcap) (.slice ro rlen rcap) cell 2 beg 0 at' 1) ∧ Below w.heap.size w w' := by
  obtain ⟨W, HW⟩ : ∃ W, Hid (W = (w.alloc (.cells (rdA (.slice dao dlen dcap) (.slice ro rlen rcap) cell 0 beg 0 at') 41)).alloc (.cells (rdA (.slice none 0 0) (.slice none 0 0) ⟨#[]⟩ 0 0 0 0) 41)) := ⟨_, Lib.hid rfl⟩
  obtain ⟨hsz, g1, g2⟩ := two_new w (.cells (rdA (.slice dao dlen dcap) (.slice ro rlen rcap) cell 0 beg 0 at') 41) (.cells (rdA (.slice none 0 0) (.slice none 0 0) ⟨#[]⟩ 0 0 0 0) 41)
  have hB := two_below w (.cells (rdA (.slice dao dlen dcap) (.slice ro rlen rcap) cell 0 beg 0 at') 41) (.cells (rdA (.slice none 0 0) (.slice none 0 0) ⟨#[]⟩ 0 0 0 0) 41)
  rw [← HW.out] at hsz g1 g2 hB
  obtain ⟨⟨c0, c1, c2, c3, c4, c5, c6⟩, fz, hlt⟩ := rd_cells g1
  obtain ⟨⟨d0, d1, d2, d3, d4, d5, d6⟩, fy, hlt'⟩ := rd_cells g2
  have HSZ := Lib.hid hsz; have G1 := Lib.hid g1; have G2 := Lib.hid g2; have HB := Lib.hid hB
  have x0 := fz 0; have x1 := fz 1; have x2 := fz 2; have x3 := fz 3; have x4 := fz 4; have x5 := fz 5; have x6 := fz 6
  have n0 := fy 0; have n1 := fy 1; have n2 := fy 2; have n3 := fy 3; have n4 := fy 4; have n5 := fy 5; have n6 := fy 6
  have BK := Lib.hid (fun W => rbreak_any s (a : Int) W hs (by omega) (by omega))
  rw [hnb] at BK
  clear hsz g1 g2 hB fz fy hnb
  unfold rdV
  unfold rdA
  go_enter Try.func16, Try.ntmps16
  go_wp2_with fail
  rw [show ((w.alloc (.cells #[.slice dao dlen dcap, .slice ro rlen rcap, .string cell, .int .i64 0, .int .i64 beg, .int .i64 0, .int .i64 at'] 41)).alloc (.cells #[.slice none 0 0, .slice none 0 0, .string ⟨#[]⟩, .int .i64 0, .int .i64 0, .int .i64 0, .int .i64 0] 41)) = W from HW.out.symm]
  refine (BK.out _).mono ?_; rintro e w1 ⟨rfl, rfl⟩
  go_wp2_with fail
  obtain ⟨q1, q2, _⟩ := set7 (.slice dao dlen dcap) (.slice ro rlen rcap) cell 2 beg 0 at' ((Below.heap_setCell W ⟨w.heap.size, 3, none⟩ (.int .i64 2) (w.heap.size + 1) (by simp)).trans G2.out) _ rfl
  obtain ⟨⟨r0, r1, r2, r3, r4, r5, r6⟩, _, _⟩ := rd_cells q1
  refine bodyPost_ret (v := oneV (.slice dao dlen dcap) (.slice ro rlen rcap) cell 2 beg 0 at' 1) (by simp [results, oneV, rdV, rdA, Try.results16, go_sem, r0, r1, r2, r3, r4, r5, r6]) rfl ?_
  exact ⟨rfl, (HB.out.setCell (p := ⟨w.heap.size, 3, none⟩) (Nat.le_refl _) _).trans (q2.mono (by omega))⟩

set_option maxRecDepth 100000 in
set_option maxHeartbeats 2000000 in
theorem one_behind (s : ByteArray) (a : Nat) (d : Int) (dao : Option Addr) (dlen dcap : Nat) (ro : Option Addr) (rlen rcap : Nat) (cell : ByteArray) (st beg at' nb : Int) (w : World) (hs : s.size ≤ 1099511627776) (ha : a < s.size) (hnb : (brkI s.data.toList (a : Int) : Int) = nb) (hb : ((s[a].toNat : Int) == 34) = false) (hd : ((s[a].toNat : Int) == d) = false) (hn : decide (0 < nb) = false) :
    Calls Try.prog 16 #[.string s, .int .i64 a, .int .u8 d, rdV (.slice dao dlen dcap) (.slice ro rlen rcap) cell 3 beg 0 at'] w fun e w' =>
      (∃ y, e = .returned (oneV (.slice none 0 0) (.slice none 0 0) ⟨#[]⟩ 0 y 5 (a : Int) 1)) ∧ Below w.heap.size w w' := by
  obtain ⟨W, HW⟩ : ∃ W, Hid (W = (w.alloc (.cells (rdA (.slice dao dlen dcap) (.slice ro rlen rcap) cell 3 beg 0 at') 41)).alloc (.cells (rdA (.slice none 0 0) (.slice none 0 0) ⟨#[]⟩ 0 0 0 0) 41)) := ⟨_, Lib.hid rfl⟩
  obtain ⟨hsz, g1, g2⟩ := two_new w (.cells (rdA (.slice dao dlen dcap) (.slice ro rlen rcap) cell 3 beg 0 at') 41) (.cells (rdA (.slice none 0 0) (.slice none 0 0) ⟨#[]⟩ 0 0 0 0) 41)
  have hB := two_below w (.cells (rdA (.slice dao dlen dcap) (.slice ro rlen rcap) cell 3 beg 0 at') 41) (.cells (rdA (.slice none 0 0) (.slice none 0 0) ⟨#[]⟩ 0 0 0 0) 41)
  rw [← HW.out] at hsz g1 g2 hB
  obtain ⟨⟨c0, c1, c2, c3, c4, c5, c6⟩, fz, hlt⟩ := rd_cells g1
  obtain ⟨⟨d0, d1, d2, d3, d4, d5, d6⟩, fy, hlt'⟩ := rd_cells g2
  have HSZ := Lib.hid hsz; have G1 := Lib.hid g1; have G2 := Lib.hid g2; have HB := Lib.hid hB
  have x0 := fz 0; have x1 := fz 1; have x2 := fz 2; have x3 := fz 3; have x4 := fz 4; have x5 := fz 5; have x6 := fz 6
  have n0 := fy 0; have n1 := fy 1; have n2 := fy 2; have n3 := fy 3; have n4 := fy 4; have n5 := fy 5; have n6 := fy 6
  have BK := Lib.hid (fun W => rbreak_any s (a : Int) W hs (by omega) (by omega))
  rw [hnb] at BK
  clear hsz g1 g2 hB fz fy hnb
  unfold rdV
  unfold rdA
  go_enter Try.func16, Try.ntmps16
  go_wp2_with fail
  rw [show ((w.alloc (.cells #[.slice dao dlen dcap, .slice ro rlen rcap, .string cell, .int .i64 3, .int .i64 beg, .int .i64 0, .int .i64 at'] 41)).alloc (.cells #[.slice none 0 0, .slice none 0 0, .string ⟨#[]⟩, .int .i64 0, .int .i64 0, .int .i64 0, .int .i64 0] 41)) = W from HW.out.symm]
  refine (BK.out _).mono ?_; rintro e w1 ⟨rfl, rfl⟩
  go_wp2_with fail
  refine (bad_any _ ⟨_, _, _, _, _, _, _, rfl⟩ _ _ _).mono ?_; rintro e w2 ⟨rfl, b2⟩
  have G3 := Lib.hid ((b2.block _ (lt_of_heap G2.out)).trans G2.out)
  obtain ⟨⟨d0', d1', d2', d3', d4', d5', d6'⟩, fy', hlt''⟩ := rd_cells G3.out
  have m0 := fy' 0; have m1 := fy' 1; have m2 := fy' 2; have m3 := fy' 3; have m4 := fy' 4; have m5 := fy' 5; have m6 := fy' 6
  have B2 := Lib.hid (below_up HB.out b2)
  clear b2 fy'
  unfold rdV rdA
  go_wp2_with fail
  obtain ⟨q1, q2, _⟩ := set7 (.slice none 0 0) (.slice none 0 0) ⟨#[]⟩ 0 0 5 (a : Int) G3.out _ rfl
  obtain ⟨⟨r0, r1, r2, r3, r4, r5, r6⟩, _, _⟩ := rd_cells q1
  refine bodyPost_ret (v := oneV (.slice none 0 0) (.slice none 0 0) ⟨#[]⟩ 0 0 5 (a : Int) 1) (by simp [results, oneV, rdV, rdA, Try.results16, go_sem, r0, r1, r2, r3, r4, r5, r6]) rfl ?_
  exact ⟨⟨_, rfl⟩, B2.out.trans (q2.mono (by omega))⟩

set_option maxRecDepth 100000 in
set_option maxHeartbeats 2000000 in
theorem one_quote (s : ByteArray) (a : Nat) (d : Int) (dao : Option Addr) (dlen dcap : Nat) (ro : Option Addr) (rlen rcap : Nat) (cell : ByteArray) (st beg at' nb : Int) (w : World) (hs : s.size ≤ 1099511627776) (ha : a < s.size) (hnb : (brkI s.data.toList (a : Int) : Int) = nb) (hb : ((s[a].toNat : Int) == 34) = true) (hd : ((s[a].toNat : Int) == d) = false) (hn : decide (0 < nb) = false) :
    Calls Try.prog 16 #[.string s, .int .i64 a, .int .u8 d, rdV (.slice dao dlen dcap) (.slice ro rlen rcap) cell 1 beg 0 at'] w fun e w' =>
      (∃ y, e = .returned (oneV (.slice none 0 0) (.slice none 0 0) ⟨#[]⟩ 0 y 3 (a : Int) 1)) ∧ Below w.heap.size w w' := by
  obtain ⟨W, HW⟩ : ∃ W, Hid (W = (w.alloc (.cells (rdA (.slice dao dlen dcap) (.slice ro rlen rcap) cell 1 beg 0 at') 41)).alloc (.cells (rdA (.slice none 0 0) (.slice none 0 0) ⟨#[]⟩ 0 0 0 0) 41)) := ⟨_, Lib.hid rfl⟩
  obtain ⟨hsz, g1, g2⟩ := two_new w (.cells (rdA (.slice dao dlen dcap) (.slice ro rlen rcap) cell 1 beg 0 at') 41) (.cells (rdA (.slice none 0 0) (.slice none 0 0) ⟨#[]⟩ 0 0 0 0) 41)
  have hB := two_below w (.cells (rdA (.slice dao dlen dcap) (.slice ro rlen rcap) cell 1 beg 0 at') 41) (.cells (rdA (.slice none 0 0) (.slice none 0 0) ⟨#[]⟩ 0 0 0 0) 41)
  rw [← HW.out] at hsz g1 g2 hB
  obtain ⟨⟨c0, c1, c2, c3, c4, c5, c6⟩, fz, hlt⟩ := rd_cells g1
  obtain ⟨⟨d0, d1, d2, d3, d4, d5, d6⟩, fy, hlt'⟩ := rd_cells g2
  have HSZ := Lib.hid hsz; have G1 := Lib.hid g1; have G2 := Lib.hid g2; have HB := Lib.hid hB
  have x0 := fz 0; have x1 := fz 1; have x2 := fz 2; have x3 := fz 3; have x4 := fz 4; have x5 := fz 5; have x6 := fz 6
  have n0 := fy 0; have n1 := fy 1; have n2 := fy 2; have n3 := fy 3; have n4 := fy 4; have n5 := fy 5; have n6 := fy 6
  have BK := Lib.hid (fun W => rbreak_any s (a : Int) W hs (by omega) (by omega))
  rw [hnb] at BK
  clear hsz g1 g2 hB fz fy hnb
  unfold rdV
  unfold rdA
  go_enter Try.func16, Try.ntmps16
  go_wp2_with fail
  rw [show ((w.alloc (.cells #[.slice dao dlen dcap, .slice ro rlen rcap, .string cell, .int .i64 1, .int .i64 beg, .int .i64 0, .int .i64 at'] 41)).alloc (.cells #[.slice none 0 0, .slice none 0 0, .string ⟨#[]⟩, .int .i64 0, .int .i64 0, .int .i64 0, .int .i64 0] 41)) = W from HW.out.symm]
  refine (BK.out _).mono ?_; rintro e w1 ⟨rfl, rfl⟩
  go_wp2_with fail
  refine (bad_any _ ⟨_, _, _, _, _, _, _, rfl⟩ _ _ _).mono ?_; rintro e w2 ⟨rfl, b2⟩
  have G3 := Lib.hid ((b2.block _ (lt_of_heap G2.out)).trans G2.out)
  obtain ⟨⟨d0', d1', d2', d3', d4', d5', d6'⟩, fy', hlt''⟩ := rd_cells G3.out
  have m0 := fy' 0; have m1 := fy' 1; have m2 := fy' 2; have m3 := fy' 3; have m4 := fy' 4; have m5 := fy' 5; have m6 := fy' 6
  have B2 := Lib.hid (below_up HB.out b2)
  clear b2 fy'
  unfold rdV rdA
  go_wp2_with fail
  obtain ⟨q1, q2, _⟩ := set7 (.slice none 0 0) (.slice none 0 0) ⟨#[]⟩ 0 0 3 (a : Int) G3.out _ rfl
  obtain ⟨⟨r0, r1, r2, r3, r4, r5, r6⟩, _, _⟩ := rd_cells q1
  refine bodyPost_ret (v := oneV (.slice none 0 0) (.slice none 0 0) ⟨#[]⟩ 0 0 3 (a : Int) 1) (by simp [results, oneV, rdV, rdA, Try.results16, go_sem, r0, r1, r2, r3, r4, r5, r6]) rfl ?_
  exact ⟨⟨_, rfl⟩, B2.out.trans (q2.mono (by omega))⟩

set_option maxRecDepth 100000 in
set_option maxHeartbeats 2000000 in
theorem one_return (s : ByteArray) (a : Nat) (d : Int) (dao : Option Addr) (dlen dcap : Nat) (ro : Option Addr) (rlen rcap : Nat) (cell : ByteArray) (st beg at' nb : Int) (w : World) (hs : s.size ≤ 1099511627776) (ha : a < s.size) (hnb : (brkI s.data.toList (a : Int) : Int) = nb) (hb : ((s[a].toNat : Int) == 34) = false) (hd : ((s[a].toNat : Int) == d) = false) (hn : decide (0 < nb) = false) (h13 : ((s[a].toNat : Int) == 13) = true) (h2 : (st == 2) = false) (h3 : (st == 3) = false) :
    Calls Try.prog 16 #[.string s, .int .i64 a, .int .u8 d, rdV (.slice dao dlen dcap) (.slice ro rlen rcap) cell st beg 0 at'] w fun e w' =>
      (∃ y, e = .returned (oneV (.slice none 0 0) (.slice none 0 0) ⟨#[]⟩ 0 y 6 (a : Int) 1)) ∧ Below w.heap.size w w' := by
  obtain ⟨W, HW⟩ : ∃ W, Hid (W = (w.alloc (.cells (rdA (.slice dao dlen dcap) (.slice ro rlen rcap) cell st beg 0 at') 41)).alloc (.cells (rdA (.slice none 0 0) (.slice none 0 0) ⟨#[]⟩ 0 0 0 0) 41)) := ⟨_, Lib.hid rfl⟩
  obtain ⟨hsz, g1, g2⟩ := two_new w (.cells (rdA (.slice dao dlen dcap) (.slice ro rlen rcap) cell st beg 0 at') 41) (.cells (rdA (.slice none 0 0) (.slice none 0 0) ⟨#[]⟩ 0 0 0 0) 41)
  have hB := two_below w (.cells (rdA (.slice dao dlen dcap) (.slice ro rlen rcap) cell st beg 0 at') 41) (.cells (rdA (.slice none 0 0) (.slice none 0 0) ⟨#[]⟩ 0 0 0 0) 41)
  rw [← HW.out] at hsz g1 g2 hB
  obtain ⟨⟨c0, c1, c2, c3, c4, c5, c6⟩, fz, hlt⟩ := rd_cells g1
  obtain ⟨⟨d0, d1, d2, d3, d4, d5, d6⟩, fy, hlt'⟩ := rd_cells g2
  have HSZ := Lib.hid hsz; have G1 := Lib.hid g1; have G2 := Lib.hid g2; have HB := Lib.hid hB
  have x0 := fz 0; have x1 := fz 1; have x2 := fz 2; have x3 := fz 3; have x4 := fz 4; have x5 := fz 5; have x6 := fz 6
  have n0 := fy 0; have n1 := fy 1; have n2 := fy 2; have n3 := fy 3; have n4 := fy 4; have n5 := fy 5; have n6 := fy 6
  have BK := Lib.hid (fun W => rbreak_any s (a : Int) W hs (by omega) (by omega))
  rw [hnb] at BK
  clear hsz g1 g2 hB fz fy hnb
  unfold rdV
  unfold rdA
  go_enter Try.func16, Try.ntmps16
  go_wp2_with fail
  rw [show ((w.alloc (.cells #[.slice dao dlen dcap, .slice ro rlen rcap, .string cell, .int .i64 st, .int .i64 beg, .int .i64 0, .int .i64 at'] 41)).alloc (.cells #[.slice none 0 0, .slice none 0 0, .string ⟨#[]⟩, .int .i64 0, .int .i64 0, .int .i64 0, .int .i64 0] 41)) = W from HW.out.symm]
  refine (BK.out _).mono ?_; rintro e w1 ⟨rfl, rfl⟩
  go_wp2_with fail
  refine (bad_any _ ⟨_, _, _, _, _, _, _, rfl⟩ _ _ _).mono ?_; rintro e w2 ⟨rfl, b2⟩
  have G3 := Lib.hid ((b2.block _ (lt_of_heap G2.out)).trans G2.out)
  obtain ⟨⟨d0', d1', d2', d3', d4', d5', d6'⟩, fy', hlt''⟩ := rd_cells G3.out
  have m0 := fy' 0; have m1 := fy' 1; have m2 := fy' 2; have m3 := fy' 3; have m4 := fy' 4; have m5 := fy' 5; have m6 := fy' 6
  have B2 := Lib.hid (below_up HB.out b2)
  clear b2 fy'
  unfold rdV rdA
  go_wp2_with fail
  obtain ⟨q1, q2, _⟩ := set7 (.slice none 0 0) (.slice none 0 0) ⟨#[]⟩ 0 0 6 (a : Int) G3.out _ rfl
  obtain ⟨⟨r0, r1, r2, r3, r4, r5, r6⟩, _, _⟩ := rd_cells q1
  refine bodyPost_ret (v := oneV (.slice none 0 0) (.slice none 0 0) ⟨#[]⟩ 0 0 6 (a : Int) 1) (by simp [results, oneV, rdV, rdA, Try.results16, go_sem, r0, r1, r2, r3, r4, r5, r6]) rfl ?_
  exact ⟨⟨_, rfl⟩, B2.out.trans (q2.mono (by omega))⟩
end Go.Proofs.Ytacclgfpmkhodaa
