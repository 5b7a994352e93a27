/-
  The document's reference: a field ends.
  Conditions: slices of at most 2^32 elements (the statements ask about far fewer).
-/
import Derived.WalkKit
import Derived.WalkMore
import Derived.Lib.Hide
import Derived.Deep.RegionLaw
import Derived.Test.YtacclgfpmkhodaaProg
import Derived.Test.YtacclgfpmkhodaaCsvRd
namespace Go.Proofs.Ytacclgfpmkhodaa
open Go.RowKit Go.Shelf

set_option maxRecDepth 100000 in
set_option maxHeartbeats 8000000 in
theorem closed_any (dao : Option Addr) (dlen dcap : Nat) (ro : Option Addr) (cap : Nat) (xs : List ByteArray) (cell : ByteArray) (st beg err at' : Int) (w : World) (hn : xs.length ≤ 4294967296) (hc : cell.size ≤ 1099511627776) (hR : StrRow w ro xs) (hz : ro = none → xs.length = 0 ∧ cap = 0) :
    Calls Try.prog 30 #[rdV (.slice dao dlen dcap) (.slice ro xs.length cap) cell st beg err at'] w fun e w' =>
      (4096 < cell.size ∧ e = .returned (rdV (.slice none 0 0) (.slice none 0 0) ⟨#[]⟩ 0 0 7 beg) ∧ Below w.heap.size w w') ∨
      (cell.size ≤ 4096 ∧ ∃ ro' cap', e = .returned (rdV (.slice dao dlen dcap) (.slice ro' (xs.length + 1) cap') ⟨#[]⟩ 0 beg err at') ∧ StrRow w' ro' (xs ++ [cell]) ∧ (∃ g, ro' = some ⟨g, 0, none⟩ ∧ w.heap.size ≤ g) ∧ Below w.heap.size w w') := by
  have hinfo : (Try.prog.info? 9).map (fun i => (i.zero, i.size, i.bytes)) = some (some (.string ⟨#[]⟩), 1, 16) := by kernel_rfl
  obtain ⟨i0, hi, hz0, hz1, hz2⟩ := info_parts hinfo
  have HIN := Lib.hid hi
  clear hi hinfo
  obtain ⟨W, HW⟩ : ∃ W, Hid (W = (w.alloc (.cells (rdA (.slice dao dlen dcap) (.slice ro xs.length cap) cell st beg err at') 41)).alloc (.cells (rdA (.slice none 0 0) (.slice none 0 0) ⟨#[]⟩ 0 0 0 0) 41)) := ⟨_, Lib.hid rfl⟩
  obtain ⟨hsz, g1, g2⟩ := two_new w (.cells (rdA (.slice dao dlen dcap) (.slice ro xs.length cap) cell st beg err at') 41) (.cells (rdA (.slice none 0 0) (.slice none 0 0) ⟨#[]⟩ 0 0 0 0) 41)
  have hB := two_below w (.cells (rdA (.slice dao dlen dcap) (.slice ro xs.length cap) cell st beg err at') 41) (.cells (rdA (.slice none 0 0) (.slice none 0 0) ⟨#[]⟩ 0 0 0 0) 41)
  rw [← HW.out] at hsz g1 g2 hB
  obtain ⟨⟨c0, c1, c2, c3, c4, c5, c6⟩, fz, hlt⟩ := rd_cells g1
  obtain ⟨⟨d0, d1, d2, d3, d4, d5, d6⟩, fz', hlt'⟩ := rd_cells g2
  have HSZ := Lib.hid hsz; have G1 := Lib.hid g1; have G2 := Lib.hid g2; have HB := Lib.hid hB
  have HR := Lib.hid (hR.kept hB)
  clear hsz g1 g2 hB hR
  unfold rdV
  by_cases hbig : 4096 < cell.size
  · have BD := Lib.hid (fun W' => bad_any (rdA (.slice dao dlen dcap) (.slice ro xs.length cap) cell st beg err at') ⟨_, _, _, _, _, _, _, rfl⟩ beg 7 W')
    unfold rdA at BD ⊢
    go_enter Try.func30, Try.ntmps30
    go_wp2_with fail
    rw [show ((w.alloc (.cells #[(.slice dao dlen dcap), .slice ro xs.length cap, .string cell, .int .i64 st, .int .i64 beg, .int .i64 err, .int .i64 at'] 41)).alloc (.cells #[.slice none 0 0, .slice none 0 0, .string ⟨#[]⟩, .int .i64 0, .int .i64 0, .int .i64 0, .int .i64 0] 41)) = W from HW.out.symm]
    refine (BD.out _).mono ?_; rintro e w1 ⟨rfl, b1⟩
    have g2' := below_kept b1 G2.out
    obtain ⟨⟨d0, d1, d2, d3, d4, d5, d6⟩, fz', hlt'⟩ := rd_cells g2'
    have z0 := fz' 0; have z1 := fz' 1; have z2 := fz' 2; have z3 := fz' 3; have z4 := fz' 4; have z5 := fz' 5; have z6 := fz' 6
    have B1 := Lib.hid (below_up HB.out b1)
    have S7 := Lib.hid (set7 (.slice none 0 0) (.slice none 0 0) ⟨#[]⟩ 0 0 7 beg g2')
    clear c0 c1 c2 c3 c4 c5 c6 fz fz' g2' b1 BD
    unfold rdV rdA
    go_wp2_with fail
    obtain ⟨q1, q2, _⟩ := S7.out _ rfl
    obtain ⟨⟨k0, k1, k2, k3, k4, k5, k6⟩, _, _⟩ := rd_cells q1
    refine bodyPost_ret (v := .agg #[.slice none 0 0, .slice none 0 0, .string ⟨#[]⟩, .int .i64 0, .int .i64 0, .int .i64 7, .int .i64 beg]) (by simp [results, Try.results30, go_sem, k0, k1, k2, k3, k4, k5, k6]) rfl ?_
    exact .inl ⟨hbig, rfl, B1.out.trans (q2.mono (by omega))⟩
  · have hsm : cell.size ≤ 4096 := by omega
    have hbd : decide ((4096 : Int) < (cell.size : Int)) = false := decide_eq_false (by omega)
    have z1 := fz 1; have z2 := fz 2; have z3 := fz 3
    unfold rdA
    go_enter Try.func30, Try.ntmps30
    go_wp2_with fail
    rw [show ((w.alloc (.cells #[(.slice dao dlen dcap), .slice ro xs.length cap, .string cell, .int .i64 st, .int .i64 beg, .int .i64 err, .int .i64 at'] 41)).alloc (.cells #[.slice none 0 0, .slice none 0 0, .string ⟨#[]⟩, .int .i64 0, .int .i64 0, .int .i64 0, .int .i64 0] 41)) = W from HW.out.symm]
    have HN := Lib.hid (fun (w' : World) (hb : Below W.heap.size W w') => str_news HR.out hb)
    have HN1 : Hid ((xs.map Value.string).length = xs.length * 1) := Lib.hid (by simp)
    have HO1 : Hid (∀ u ∈ xs.map Value.string, u.oneCell' = true) := Lib.hid (fun u hu => by obtain ⟨c, _, rfl⟩ := List.mem_map.1 hu; rfl)
    have HZ := Lib.hid hz
    have hW2 : w.heap.size ≤ W.heap.size := by omega
    clear d0 d1 d2 d3 d4 d5 d6 fz' hlt' hz c0 c3 c4 c5 c6
    have c1' := c1
    have c2' := c2
    have HLt := Lib.hid hlt
    have HFz := Lib.hid (fz 1)
    clear z1 z2 z3
    go_region_law
      (first
        | ((refine step_append_any (by rfl) _ _ 31 (by rfl) W.heap.size 9 i0 (.string ⟨#[]⟩) 1 16 Try.underlying31 HIN.out hz0 hz1 hz2 rfl (by decide) (.slice (some ⟨W.heap.size, 0, none⟩) 0 0) 0 [] (by rfl) (by first | exact own_new' _ _ _ _ (by (try simp) <;> omega) (by (try simp) <;> omega) | exact (own_new' _ _ _ _ (by (try simp) <;> omega) (by (try simp) <;> omega)).alloc _) ro xs.length cap (xs.map Value.string) (by rfl) HZ.out HN1.out (HN.out _ (by first | exact ((Below.refl _ W).alloc (Nat.le_refl _) _).drew | exact (((Below.refl _ W).alloc (Nat.le_refl _) _).alloc (by simp) _).drew)) HO1.out (by unfold maxLen; omega) (by omega) (by (try simp) <;> omega) xs.length (Nat.zero_add _) (xs.map Value.string) rfl ?_; intro ao1 cap1 w1 o1 g1 t1; have b1 : Below W.heap.size W w1 := (by first | exact ((Below.refl _ W).alloc (Nat.le_refl _) _).drew.trans t1 | exact (((Below.refl _ W).alloc (Nat.le_refl _) _).alloc (by simp) _).drew.trans t1); have e1 : w1.cell? ⟨w.heap.size, 1, none⟩ = some (.slice ro xs.length cap) := ((b1.cell (p := ⟨w.heap.size, 1, none⟩) HLt.out).trans c1'); have e2 : w1.cell? ⟨w.heap.size, 2, none⟩ = some (.string cell) := ((b1.cell (p := ⟨w.heap.size, 2, none⟩) HLt.out).trans c2')))
        | ((refine step_append_any (by rfl) _ _ 31 (by rfl) W.heap.size 9 i0 (.string ⟨#[]⟩) 1 16 Try.underlying31 HIN.out hz0 hz1 hz2 rfl (by decide) (.slice (some ⟨W.heap.size + 1, 0, none⟩) 0 0) 0 [] (by rfl) (by first | exact own_new' _ _ _ _ (by (try simp) <;> omega) (by (try simp) <;> omega) | exact (own_new' _ _ _ _ (by (try simp) <;> omega) (by (try simp) <;> omega)).alloc _) ro xs.length cap (xs.map Value.string) (by rfl) HZ.out HN1.out (HN.out _ (by first | exact ((Below.refl _ W).alloc (Nat.le_refl _) _).drew | exact (((Below.refl _ W).alloc (Nat.le_refl _) _).alloc (by simp) _).drew)) HO1.out (by unfold maxLen; omega) (by omega) (by (try simp) <;> omega) xs.length (Nat.zero_add _) (xs.map Value.string) rfl ?_; intro ao1 cap1 w1 o1 g1 t1; have b1 : Below W.heap.size W w1 := (by first | exact ((Below.refl _ W).alloc (Nat.le_refl _) _).drew.trans t1 | exact (((Below.refl _ W).alloc (Nat.le_refl _) _).alloc (by simp) _).drew.trans t1); have e1 : w1.cell? ⟨w.heap.size, 1, none⟩ = some (.slice ro xs.length cap) := ((b1.cell (p := ⟨w.heap.size, 1, none⟩) HLt.out).trans c1'); have e2 : w1.cell? ⟨w.heap.size, 2, none⟩ = some (.string cell) := ((b1.cell (p := ⟨w.heap.size, 2, none⟩) HLt.out).trans c2')))
        | ((refine step_append_any (by rfl) _ _ 31 (by rfl) W.heap.size 9 i0 (.string ⟨#[]⟩) 1 16 Try.underlying31 HIN.out hz0 hz1 hz2 rfl (by decide) (.slice ao1 xs.length cap1) xs.length (xs.map Value.string) (by rfl) (by first | exact o1 | exact o1.alloc _) _ 1 1 [.string cell] (by rfl) (fun h => by cases h) rfl (lit_news (by first | exact World.alloc_heap_new _ _ | exact (g1.block _ (by (try simp) <;> omega) (by simp [Value.ownBlock])).trans (two_new W _ _).2.2 | exact (g1.block _ (by (try simp) <;> omega) (by simp [Value.ownBlock])).trans (two_new W _ _).2.1)) (fun u hu => by simp at hu; subst hu; rfl) (by unfold maxLen; omega) (by omega) (by first | exact b1.size | exact Nat.le_trans b1.size (by simp)) (xs.length + 1) rfl (xs.map Value.string ++ [.string cell]) rfl ?_; intro ao2 cap2 w2 o2 g2 t2; have b2 : Below W.heap.size W w2 := (by first | exact b1.trans t2 | exact (b1.alloc b1.size _).trans t2); have e1 : w2.cell? ⟨w.heap.size, 1, none⟩ = some (.slice ro xs.length cap) := ((b2.cell (p := ⟨w.heap.size, 1, none⟩) HLt.out).trans c1'); have z1 : w2.frozen? ⟨w.heap.size, 1, none⟩ = false := ((b2.frozen (p := ⟨w.heap.size, 1, none⟩) HLt.out).trans HFz.out))))
    all_goals (
      have G1' := below_kept b2 G1.out
      have G2' := below_kept b2 G2.out
      obtain ⟨⟨k0, k1, k2, k3, k4, k5, k6⟩, fk, hk⟩ := rd_cells G1'
      obtain ⟨⟨m0, m1, m2, m3, m4, m5, m6⟩, fm, hm⟩ := rd_cells G2'
      have CE := Lib.hid (closed_end HSZ.out G2.out HB.out b2 o2 (.slice dao dlen dcap) beg err at')
      have y1 := fk 1; have y2 := fk 2; have y3 := fk 3
      have n0 := fm 0; have n1 := fm 1; have n2 := fm 2; have n3 := fm 3; have n4 := fm 4; have n5 := fm 5; have n6 := fm 6
      clear G1' G2' fk fm b1 b2 o1 o2 t1 t2 c1 c2 c1' c2' fz hlt e1 z1
      go_wp2_with fail
      obtain ⟨q1, q2, q3, q4⟩ := CE.out _ rfl
      obtain ⟨⟨r0, r1, r2, r3, r4, r5, r6⟩, _, _⟩ := rd_cells q1
      refine bodyPost_ret (v := .agg #[(.slice dao dlen dcap), .slice ao2 (xs.length + 1) cap2, .string ⟨#[]⟩, .int .i64 0, .int .i64 beg, .int .i64 err, .int .i64 at']) (by simp [results, Try.results30, go_sem, r0, r1, r2, r3, r4, r5, r6]) rfl ?_
      exact .inr ⟨hsm, ao2, cap2, rfl, q2, q3, q4⟩)
end Go.Proofs.Ytacclgfpmkhodaa
