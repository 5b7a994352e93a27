/-
  The document's reference: a quote is read within quotes.
  Conditions: a text of at most 2^40 bytes (the statements ask about far shorter ones).
-/
import Derived.WalkKit
import Derived.WalkMore
import Derived.Lib.Hide
import Derived.Test.YtacclgfpmkhodaaProg
import Derived.Test.YtacclgfpmkhodaaCsvRd5
namespace Go.Proofs.Ytacclgfpmkhodaa
open Go.RowKit Go.Shelf


set_option maxRecDepth 100000 in
set_option maxHeartbeats 4000000 in
theorem one_shut (s : ByteArray) (a : Nat) (d : Int) (dao : Option Addr) (dlen dcap : Nat) (ro : Option Addr) (rlen rcap : Nat) (cell : ByteArray) (beg at' : Int) (w : World) (hs : s.size ≤ 1099511627776) (ha : a < s.size) (hq : s[a] = 34) :
    Calls Try.prog 16 #[.string s, .int .i64 a, .int .u8 d, rdV (.slice dao dlen dcap) (.slice ro rlen rcap) cell 2 beg 0 at'] w fun e w' =>
      e = .returned (oneV (.slice dao dlen dcap) (.slice ro rlen rcap) cell 3 beg 0 at' 1) ∧ Below w.heap.size w w' := by
  obtain ⟨W, HW⟩ : ∃ W, Hid (W = (w.alloc (.cells (rdA (.slice dao dlen dcap) (.slice ro rlen rcap) cell 2 beg 0 at') 41)).alloc (.cells (rdA (.slice none 0 0) (.slice none 0 0) ⟨#[]⟩ 0 0 0 0) 41)) := ⟨_, Lib.hid rfl⟩
  obtain ⟨hsz, g1, g2⟩ := two_new w (.cells (rdA (.slice dao dlen dcap) (.slice ro rlen rcap) cell 2 beg 0 at') 41) (.cells (rdA (.slice none 0 0) (.slice none 0 0) ⟨#[]⟩ 0 0 0 0) 41)
  have hB := two_below w (.cells (rdA (.slice dao dlen dcap) (.slice ro rlen rcap) cell 2 beg 0 at') 41) (.cells (rdA (.slice none 0 0) (.slice none 0 0) ⟨#[]⟩ 0 0 0 0) 41)
  rw [← HW.out] at hsz g1 g2 hB
  obtain ⟨⟨c0, c1, c2, c3, c4, c5, c6⟩, fz, hlt⟩ := rd_cells g1
  obtain ⟨⟨d0, d1, d2, d3, d4, d5, d6⟩, fy, hlt'⟩ := rd_cells g2
  have HSZ := Lib.hid hsz; have G1 := Lib.hid g1; have G2 := Lib.hid g2; have HB := Lib.hid hB
  have x2 := fz 2; have x3 := fz 3
  have n0 := fy 0; have n1 := fy 1; have n2 := fy 2; have n3 := fy 3; have n4 := fy 4; have n5 := fy 5; have n6 := fy 6
  have BK := Lib.hid (fun W => rbreak_any s (a : Int) W hs (by omega) (by omega))
  generalize brkI s.data.toList (a : Int) = nb at BK
  clear hsz g1 g2 hB fz fy
  unfold rdV
  unfold rdA
  have hq1 : ((s[a].toNat : Int) == 34) = true := by rw [hq]; rfl
  clear hq
  go_enter Try.func16, Try.ntmps16
  go_wp2_with fail
  rw [show ((w.alloc (.cells #[.slice dao dlen dcap, .slice ro rlen rcap, .string cell, .int .i64 2, .int .i64 beg, .int .i64 0, .int .i64 at'] 41)).alloc (.cells #[.slice none 0 0, .slice none 0 0, .string ⟨#[]⟩, .int .i64 0, .int .i64 0, .int .i64 0, .int .i64 0] 41)) = W from HW.out.symm]
  refine (BK.out _).mono ?_; rintro e w1 ⟨rfl, rfl⟩
  go_wp2_with fail
  obtain ⟨q1, q2, _⟩ := set7 (.slice dao dlen dcap) (.slice ro rlen rcap) cell 3 beg 0 at' ((Below.heap_setCell W ⟨w.heap.size, 3, none⟩ (.int .i64 3) (w.heap.size + 1) (by simp)).trans G2.out) _ rfl
  obtain ⟨⟨r0, r1, r2, r3, r4, r5, r6⟩, _, _⟩ := rd_cells q1
  refine bodyPost_ret (v := oneV (.slice dao dlen dcap) (.slice ro rlen rcap) cell 3 beg 0 at' 1) (by simp [results, oneV, rdV, rdA, Try.results16, go_sem, r0, r1, r2, r3, r4, r5, r6]) rfl ?_
  exact ⟨rfl, (HB.out.setCell (p := ⟨w.heap.size, 3, none⟩) (Nat.le_refl _) _).trans (q2.mono (by omega))⟩
end Go.Proofs.Ytacclgfpmkhodaa
