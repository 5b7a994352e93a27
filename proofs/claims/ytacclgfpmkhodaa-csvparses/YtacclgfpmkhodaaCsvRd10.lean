/-
  The document's reference: the records of a text, byte by byte, are what they are field by field.
  Conditions: a text of at most 2^22 bytes.
-/
import Derived.WalkKit
import Derived.WalkMore
import Derived.Lib.Hide
import Derived.RegionTactic
import Derived.Deep.CutRange
import Derived.Deep.Onto
import Derived.Test.YtacclgfpmkhodaaProg
import Derived.Test.YtacclgfpmkhodaaCsvRd9
namespace Go.Proofs.Ytacclgfpmkhodaa
open Go.RowKit Go.Shelf
set_option linter.unusedVariables false

abbrev RdO (dao : Option Addr) (dcap : Nat) (rs : List (List ByteArray)) (ro : Option Addr) (cap : Nat) (xs : List ByteArray) (cell : ByteArray) (st beg : Nat) : Obj :=
  .cells (rdA (.slice dao rs.length dcap) (.slice ro xs.length cap) cell (st : Int) (beg : Int) 0 0) 41 (0, 0)
theorem parsed_no {w w' : World} {x : Recs × Int × Nat} {n e : Int} {er : Nat} (h : x = ([], n, er)) (he : e = (er : Int)) (hB : Below w.heap.size w w') : Parsed w x (.returned (.tuple #[.slice none 0 0, .int .i64 n, .int .i64 e])) w' :=
  ⟨none, 0, [], by subst h he; rfl, .inl rfl, by rw [h]; rfl, hB⟩
theorem parsed_yes {w w' : World} {x : Recs × Int × Nat} {ao : Option Addr} {cap : Nat} {rs : List (List ByteArray)} (h : x = (recsOf rs, 0, 0)) (hR : RowsAt w' ao rs) (hB : Below w.heap.size w w') : Parsed w x (.returned (.tuple #[.slice ao rs.length cap, .int .i64 0, .int .i64 0])) w' :=
  ⟨ao, cap, rs, by subst h; rfl, hR, by rw [h], hB⟩

set_option maxRecDepth 100000 in
set_option maxHeartbeats 8000000 in
theorem rparse_any (s : ByteArray) (d : UInt8) (w : World) (hs : s.size ≤ 4194304) :
    Calls Try.prog 6 #[.string s, .int .u8 (d.toNat : Int)] w (Parsed w (parseL s.data.toList (d.toNat : Int))) := by
  have G := Lib.hid (fun W => rgood_any (d.toNat : Int) W)
  obtain ⟨R, HR⟩ : ∃ R, Hid (R = parseL s.data.toList (d.toNat : Int)) := ⟨_, Lib.hid rfl⟩
  rw [← HR.out]
  cases hg : goodI (d.toNat : Int) with
  | false =>
    rw [hg] at G
    have E := Lib.hid (show R = ([], 0, 2) from by rw [HR.out]; unfold parseL; rw [if_pos hg])
    clear hg
    go_enter Try.func6, Try.ntmps6
    go_wp2_with fail
    refine (G.out _).mono ?_; rintro e w1 ⟨rfl, rfl⟩
    go_wp2_with fail
    refine bodyPost_ret (v := .tuple #[.slice none 0 0, .int .i64 0, .int .i64 2]) (by simp [results, Try.results6, go_sem]) rfl ?_
    exact parsed_no E.out rfl (Below.refl _ _)
  | true =>
    rw [hg] at G
    have HG := Lib.hid hg
    have I0 : Hid (LInv s.data.toList (d.toNat : Int) R [] [] [] 0 0 0) := Lib.hid (by rw [HR.out]; exact LInv.start (by rw [ba_size]; exact hs) hg)
    clear hg HR
    obtain ⟨W, HW⟩ : ∃ W, Hid (W = w.alloc (.cells #[.slice none 0 0, .slice none 0 0, .string ⟨#[]⟩, .int .i64 0, .int .i64 0, .int .i64 0, .int .i64 0] 41)) := ⟨_, Lib.hid rfl⟩
    have HB0 : Hid (Below w.heap.size w W) := Lib.hid (by rw [HW.out]; exact (Below.refl _ w).alloc (Nat.le_refl _) _)
    have HN0 : Hid (W.heap[w.heap.size]? = some (RdO none 0 [] none 0 [] ⟨#[]⟩ 0 0)) := Lib.hid (by rw [HW.out]; exact World.alloc_heap_new w _)
    have HD0 : Hid (Rd W w.heap.size none 0 [] none 0 []) := Lib.hid ⟨.inl rfl, fun _ => ⟨rfl, rfl⟩, .inl rfl, .inl rfl, fun _ => ⟨rfl, rfl⟩, .inl rfl⟩
    go_enter Try.func6, Try.ntmps6
    go_wp2_with fail
    refine (G.out _).mono ?_; rintro e w1 ⟨rfl, rfl⟩
    clear G
    go_wp2_with fail
    rw [← HW.out]
    go_loopw [8] (fun i wr => ∃ (a : Nat) (dao : Option Addr) (dcap : Nat) (rs : List (List ByteArray)) (ro : Option Addr) (cap : Nat) (xs : List ByteArray) (cell : ByteArray) (st beg : Nat), a ≤ s.size ∧ i = .int .i64 a ∧ Hid (LInv s.data.toList (d.toNat : Int) R rs xs cell.data.toList st beg a) ∧ Hid (wr.heap[w.heap.size]? = some (RdO dao dcap rs ro cap xs cell st beg)) ∧ Hid (Rd wr w.heap.size dao dcap rs ro cap xs) ∧ Hid (Below w.heap.size w wr)) (fun i _ => s.size - (intOf i).toNat)
    case atStart => exact ⟨0, none, 0, [], none, 0, [], ⟨#[]⟩, 0, 0, Nat.zero_le _, rfl, I0, HN0, HD0, HB0⟩
    case round =>
      obtain ⟨a, dao, dcap, rs, ro, cap, xs, cell, st, beg, has, rfl, HI, HN, HD, HB⟩ := hrel
      obtain ⟨⟨c0, c1, c2, c3, c4, c5, c6⟩, fz, hlt⟩ := rd_cells HN.out
      have hrn := HI.out.rn
      have hxn := HI.out.xn
      by_cases hal : a < s.size
      · have hl : a < s.data.toList.length := by rw [ba_size]; exact hal
        have HL := Lib.hid hl
        clear hl
        by_cases hbig : st = 0 ∧ ¬ (rs.length < 2048 ∧ xs.length < 128)
        · obtain ⟨rfl, hnf⟩ := hbig
          have E := Lib.hid (HI.out.large (.inl HL.out) hnf)
          obtain ⟨e1, _⟩ := HI.out.zero
          subst e1
          have t1 : ((a : Int) == (a : Int)) = true := by simp
          by_cases h128 : 128 ≤ xs.length
          · go_wp2_with fail
            refine bodyPost_ret (v := .tuple #[.slice none 0 0, .int .i64 a, .int .i64 7]) (by simp [results, Try.results6, go_sem]) rfl ?_
            exact parsed_no E.out rfl HB.out
          · have h2048 : 2048 ≤ rs.length := by omega
            go_wp2_with fail
            refine bodyPost_ret (v := .tuple #[.slice none 0 0, .int .i64 a, .int .i64 7]) (by simp [results, Try.results6, go_sem]) rfl ?_
            exact parsed_no E.out rfl HB.out
        · have hfit : rs.length < 2048 ∧ xs.length < 128 := by
            by_cases h0 : st = 0
            · rcases Nat.lt_or_ge rs.length 2048 with h1 | h1
              · rcases Nat.lt_or_ge xs.length 128 with h2 | h2
                · exact ⟨h1, h2⟩
                · exact absurd ⟨h0, fun h => by omega⟩ hbig
              · exact absurd ⟨h0, fun h => by omega⟩ hbig
            · exact HI.out.fit h0
          have OS := Lib.hid (one_step s d R w.heap.size a dao dcap rs ro cap xs cell st beg wr hs hal HG.out hlt HI.out hfit HD.out)
          have n128 : ¬ (128 ≤ xs.length) := by omega
          have n2048 : ¬ (2048 ≤ rs.length) := by omega
          clear hbig hfit
          unfold rdV rdA at OS
          go_upto_region 8 with fail
          go_cut [42] from 22 to 42 (fun v wc => v = .bool false ∧ wc = wr)
          case first =>
            by_cases h0 : st = 0
            · subst h0
              obtain ⟨e1, _⟩ := HI.out.zero
              subst e1
              have t1 : ((a : Int) == (a : Int)) = true := by simp
              go_wp2_with fail
              go_meet
              exact ⟨by simp; omega, rfl⟩
            · have hne : beg < a := by
                rcases HI.out.within with ⟨h, _⟩ | ⟨_, h, _⟩ | ⟨_, h, _⟩ | ⟨_, h, _⟩
                · exact absurd h h0
                · exact h
                · exact h
                · exact h
              have t1 : ((a : Int) == (beg : Int)) = false := by rw [beq_eq_false_iff_ne]; omega
              go_wp2_with fail
              go_meet
              exact ⟨rfl, rfl⟩
          case rest =>
            obtain ⟨rfl, rfl⟩ := hcut
            rename World => wr
            go_wp2_with fail
            refine OS.out.mono ?_
            rintro e w2 ⟨(⟨y, er, at', n, rfl, her, hR⟩ | ⟨dao', dcap', rs', ro', cap', xs', cell', st', beg', n, rfl, hn0, hn2, hI', hD'⟩), b2⟩
            · have hb : ((er : Int) != 0) = true := by rw [bne_iff_ne]; omega
              have HE := Lib.hid hR
              have B2 := Lib.hid (below_up HB.out b2)
              unfold oneV rdV rdA
              clear OS her hR b2 c0 c1 c2 c3 c4 c5 c6 fz hlt
              have HBn := Lib.hid ((B2.out.alloc B2.out.size (.cells #[.slice none 0 0, .slice none 0 0, .string ⟨#[]⟩, .int .i64 0, .int .i64 y, .int .i64 (er : Int), .int .i64 at'] 41)))
              go_wp2_with fail
              go_region
              all_goals (go_wp2_with fail)
              all_goals refine bodyPost_ret (v := .tuple #[.slice none 0 0, .int .i64 at', .int .i64 (er : Int)]) (by simp [results, Try.results6, go_sem]) rfl ?_
              all_goals exact parsed_no HE.out rfl HBn.out.drew
            · have HI2 := Lib.hid hI'
              obtain ⟨V, HV⟩ : ∃ V, Hid (V = w2.alloc (.cells #[.slice dao' rs'.length dcap', .slice ro' xs'.length cap', .string cell', .int .i64 (st' : Int), .int .i64 (beg' : Int), .int .i64 0, .int .i64 0] 41)) := ⟨_, Lib.hid rfl⟩
              have b3 : Below w2.heap.size w2 V := by rw [HV.out]; exact (Below.refl _ w2).alloc (Nat.le_refl _) _
              have HDV := Lib.hid (hD'.kept b3)
              have HBV := Lib.hid (below_up (below_up HB.out b2) b3)
              have HNV := Lib.hid ((b3.block _ (lt_of_heap ((b2.block _ (lt_of_heap HN.out)).trans HN.out))).trans ((b2.block _ (lt_of_heap HN.out)).trans HN.out))
              have hnx : V.heap[w2.heap.size]? = some (RdO dao' dcap' rs' ro' cap' xs' cell' st' beg') := by rw [HV.out]; exact World.alloc_heap_new w2 _
              have HNX := Lib.hid hnx
              have hal2 := HI2.out.al
              rw [ba_size] at hal2
              unfold oneV rdV rdA
              clear OS hI' hD' b2 b3 c0 c1 c2 c3 c4 c5 c6 fz hlt hnx
              go_upto_region 11 with fail
              rw [← HV.out]
              obtain ⟨⟨c0, c1, c2, c3, c4, c5, c6⟩, fz, hlt⟩ := rd_cells HNX.out
              obtain ⟨⟨m0, m1, m2, m3, m4, m5, m6⟩, fm, hm⟩ := rd_cells HNV.out
              have z0 := fm 0; have z1 := fm 1; have z2 := fm 2; have z3 := fm 3; have z4 := fm 4; have z5 := fm 5; have z6 := fm 6
              clear fz fm
              have S7 := Lib.hid (fun X h => set7 (.slice dao' rs'.length dcap') (.slice ro' xs'.length cap') cell' (st' : Int) (beg' : Int) 0 0 HNV.out X h)
              go_wp2_with fail
              obtain ⟨q1, q2, q3⟩ := S7.out _ rfl
              have HQ1 := Lib.hid q1
              have HQ2 := Lib.hid (HBV.out.trans q2)
              have HQ3 := Lib.hid (HDV.out.turn q2.size (fun k _ hk => q3 k hk))
              clear q1 q2 q3
              go_roundw
              case rel => exact ⟨a + n, dao', dcap', rs', ro', cap', xs', cell', st', beg', hal2, by go_num, HI2, HQ1, HQ3, HQ2⟩
              case measure => simp [intOf]; omega
      · obtain rfl : a = s.size := by omega
        have HLn := Lib.hid (show s.data.toList.length = s.size from ba_size s)
        have hbegs := HI.out.ba
        have hst3 := HI.out.st3
        have hcs : cell.size ≤ s.size := by have := HI.out.clen; rw [ba_size] at this; exact this
        by_cases h2 : st = 2
        · subst h2
          have hfo := in_open s.data.toList (d.toNat : Int) beg cell.data.toList HG.out (by rw [HLn.out]; exact HI.out.within)
          have E := Lib.hid (HI.out.wrong (HI.out.fit (by decide)) (.inr (HI.out.some (.inr (by decide)))) _ _ _ _ hfo (by simp) (by decide))
          clear hfo
          go_wp2_with fail
          go_region
          all_goals (go_wp2_with fail)
          all_goals refine bodyPost_ret (v := .tuple #[.slice none 0 0, .int .i64 (beg : Int), .int .i64 4]) (by simp [results, Try.results6, go_sem]) rfl ?_
          all_goals exact parsed_no E.out rfl HB.out.drew
        have t2 : ((st : Int) == 2) = false := by rw [beq_eq_false_iff_ne]; omega
        have hz : beg = s.size → st = 0 := fun e => by
          rcases HI.out.within with ⟨h, _⟩ | ⟨_, h, _⟩ | ⟨_, h, _⟩ | ⟨_, h, _⟩
          · exact h
          all_goals omega
        have hnz : ¬ beg = s.size → st ≠ 0 := fun hne h0 => by subst h0; have := HI.out.zero.1; omega
        by_cases hxe : beg = s.size ∧ xs.length = 0
        · obtain ⟨rfl, hx0⟩ := hxe
          have hx : xs = [] := List.eq_nil_of_length_eq_zero hx0
          subst hx
          have h0 := hz rfl
          subst h0
          have E := Lib.hid (HI.out.done (by rw [HLn.out]; exact Nat.le_refl _))
          have HRW := Lib.hid HD.out.rows
          have t1 : ((s.size : Int) == (s.size : Int)) = true := by simp
          clear hz hnz hx0
          simp only [List.length_nil] at c1
          go_wp2_with fail
          refine bodyPost_ret (v := .tuple #[.slice dao rs.length dcap, .int .i64 0, .int .i64 0]) (by simp [results, Try.results6, go_sem]) rfl ?_
          exact parsed_yes E.out HRW.out HB.out
        by_cases hxl : beg = s.size ∧ 128 ≤ xs.length
        · obtain ⟨rfl, hx⟩ := hxl
          have h0 := hz rfl
          subst h0
          have E := Lib.hid (HI.out.large (.inr (fun e => by rw [e] at hx; simp at hx)) (fun h => by omega))
          have t1 : ((s.size : Int) == (s.size : Int)) = true := by simp
          have t3 : ((xs.length : Int) == 0) = false := by rw [beq_eq_false_iff_ne]; omega
          clear hz hnz hxe
          go_wp2_with fail
          refine bodyPost_ret (v := .tuple #[.slice none 0 0, .int .i64 (s.size : Int), .int .i64 7]) (by simp [results, Try.results6, go_sem]) rfl ?_
          exact parsed_no E.out rfl HB.out
        have hfit : rs.length < 2048 ∧ xs.length < 128 := by
          by_cases hb : beg = s.size
          · have hx1 : xs.length ≠ 0 := fun e => hxe ⟨hb, e⟩
            have hx2 : ¬ 128 ≤ xs.length := fun e => hxl ⟨hb, e⟩
            exact ⟨HI.out.xr (fun e => hx1 (by rw [e]; rfl)), by omega⟩
          · exact HI.out.fit (hnz hb)
        have hrr : xs ≠ [] ∨ beg < s.data.toList.length := by
          by_cases hb : beg = s.size
          · exact .inl (fun e => hxe ⟨hb, by rw [e]; rfl⟩)
          · exact .inr (by rw [HLn.out]; omega)
        have hend : endAt s.data.toList (d.toNat : Int) s.size = (3, 0) := by unfold endAt; rw [List.getElem?_eq_none (by rw [HLn.out]; exact Nat.le_refl _)]
        have hfo := in_end s.data.toList (d.toNat : Int) beg s.size st _ HI.out.ba (by rw [HLn.out]; exact Nat.le_refl _) HG.out HI.out.within h2 (fun _ => by rw [List.getElem?_eq_none (by rw [HLn.out]; exact Nat.le_refl _)]; simp) (fun _ => by rw [List.getElem?_eq_none (by rw [HLn.out]; exact Nat.le_refl _)]; simp) (by rw [hend]; decide)
        rw [hend] at hfo
        have EL := Lib.hid (fun (h : 4096 < cell.size) => HI.out.long hfit hrr _ _ _ hfo (by rw [ba_size]; exact h))
        have EN := Lib.hid (fun (h : cell.size ≤ 4096) => (HI.out.next hfit hrr _ 3 (by decide) hfo (by rw [ba_size]; exact h) (by rw [HLn.out]; exact Nat.le_refl _)).done (by rw [HLn.out]; exact Nat.le_refl _))
        have RC := Lib.hid (record_any dao dcap rs ro cap xs cell (st : Int) (beg : Int) 0 wr (by omega) (by omega) (by omega) HD.out.rows HD.out.rz HD.out.row HD.out.xz)
        unfold rdV rdA at RC
        have hbx : beg = s.size → ¬ xs.length = 0 := fun e h => hxe ⟨e, h⟩
        have hbl : beg = s.size → ¬ 128 ≤ xs.length := fun e h => hxl ⟨e, h⟩
        clear hfo hend hrr hfit hz hnz hxe hxl
        go_upto_region 16 with fail
        go_cut [78] from 68 to 78 (fun v wc => v = .bool false ∧ wc = wr)
        case first =>
          by_cases hb : beg = s.size
          · have hx := hbx hb
            have t1 : ((beg : Int) == (s.size : Int)) = true := by rw [beq_iff_eq]; omega
            have t3 : ((xs.length : Int) == 0) = false := by rw [beq_eq_false_iff_ne]; omega
            clear hb hbx hbl
            go_wp2_with fail
            go_meet
            exact ⟨rfl, rfl⟩
          · have t1 : ((beg : Int) == (s.size : Int)) = false := by rw [beq_eq_false_iff_ne]; omega
            clear hb hbx hbl
            go_wp2_with fail
            go_meet
            exact ⟨rfl, rfl⟩
        case rest =>
        obtain ⟨rfl, rfl⟩ := hcut
        rename World => wr
        go_upto_region 18 with fail
        go_cut [91] from 81 to 91 (fun v wc => v = .bool false ∧ wc = wr)
        case first =>
          by_cases hb : beg = s.size
          · have hx := hbl hb
            have t1 : ((beg : Int) == (s.size : Int)) = true := by rw [beq_iff_eq]; omega
            clear hb hbx hbl
            go_wp2_with fail
            go_meet
            exact ⟨by simp; omega, rfl⟩
          · have t1 : ((beg : Int) == (s.size : Int)) = false := by rw [beq_eq_false_iff_ne]; omega
            clear hb hbx hbl
            go_wp2_with fail
            go_meet
            exact ⟨rfl, rfl⟩
        case rest =>
        obtain ⟨rfl, rfl⟩ := hcut
        rename World => wr
        clear hbx hbl
        go_wp2_with fail
        refine RC.out.mono ?_
        rintro e w2 (⟨hbig, rfl, b2⟩ | ⟨hsm, dao', dcap', rfl, hrows, b2, hh, g, c', hH, hg, ho, hst⟩)
        · have E := Lib.hid (EL.out hbig)
          have B2 := Lib.hid (below_up HB.out b2)
          have HN2 := Lib.hid ((b2.block _ (lt_of_heap HN.out)).trans HN.out)
          obtain ⟨V, HV⟩ : ∃ V, Hid (V = ((((((w2.setCell ⟨w.heap.size, 0, none⟩ (.slice none 0 0)).setCell ⟨w.heap.size, 1, none⟩ (.slice none 0 0)).setCell ⟨w.heap.size, 2, none⟩ (.string ⟨#[]⟩)).setCell ⟨w.heap.size, 3, none⟩ (.int .i64 0)).setCell ⟨w.heap.size, 4, none⟩ (.int .i64 0)).setCell ⟨w.heap.size, 5, none⟩ (.int .i64 7)).setCell ⟨w.heap.size, 6, none⟩ (.int .i64 (beg : Int))) := ⟨_, Lib.hid rfl⟩
          obtain ⟨q1, q2, q3⟩ := set7 (.slice none 0 0) (.slice none 0 0) ⟨#[]⟩ 0 0 7 (beg : Int) HN2.out V HV.out
          have HQ1 := Lib.hid q1
          have HQB := Lib.hid (B2.out.trans q2)
          clear q1 q2 q3 b2 c0 c1 c2 c3 c4 c5 c6 fz hlt RC
          obtain ⟨⟨m0, m1, m2, m3, m4, m5, m6⟩, fm, hm⟩ := rd_cells HN2.out
          have z0 := fm 0; have z1 := fm 1; have z2 := fm 2; have z3 := fm 3; have z4 := fm 4; have z5 := fm 5; have z6 := fm 6
          clear fm
          go_upto_region 21 with fail
          rw [← HV.out]
          clear m0 m1 m2 m3 m4 m5 m6 z0 z1 z2 z3 z4 z5 z6 hm
          obtain ⟨⟨m0, m1, m2, m3, m4, m5, m6⟩, fm, hm⟩ := rd_cells HQ1.out
          clear fm
          go_wp2_with fail
          go_region
          all_goals (go_wp2_with fail)
          all_goals refine bodyPost_ret (v := .tuple #[.slice none 0 0, .int .i64 (beg : Int), .int .i64 7]) (by simp [results, Try.results6, go_sem]) rfl ?_
          all_goals exact parsed_no E.out rfl HQB.out.drew
        · have E := Lib.hid (EN.out hsm)
          have B2 := Lib.hid (below_up HB.out b2)
          have HN2 := Lib.hid ((b2.block _ (lt_of_heap HN.out)).trans HN.out)
          have HF := Lib.hid (far_join (B := w.heap.size) HD.out.rows HD.out.rfar hH (by omega) (by omega) ho)
          have HRw := Lib.hid hrows
          obtain ⟨V, HV⟩ : ∃ V, Hid (V = ((((((w2.setCell ⟨w.heap.size, 0, none⟩ (.slice dao' (rs.length + 1) dcap')).setCell ⟨w.heap.size, 1, none⟩ (.slice none 0 0)).setCell ⟨w.heap.size, 2, none⟩ (.string ⟨#[]⟩)).setCell ⟨w.heap.size, 3, none⟩ (.int .i64 0)).setCell ⟨w.heap.size, 4, none⟩ (.int .i64 (beg : Int))).setCell ⟨w.heap.size, 5, none⟩ (.int .i64 0)).setCell ⟨w.heap.size, 6, none⟩ (.int .i64 0)) := ⟨_, Lib.hid rfl⟩
          obtain ⟨q1, q2, q3⟩ := set7 (.slice dao' (rs.length + 1) dcap') (.slice none 0 0) ⟨#[]⟩ 0 (beg : Int) 0 0 HN2.out V HV.out
          have HQ1 := Lib.hid q1
          have HQB := Lib.hid (B2.out.trans q2)
          have HRV := Lib.hid (rows_far HRw.out HF.out q2.size (fun k _ hk => q3 k hk)).1
          clear q1 q2 q3 b2 c0 c1 c2 c3 c4 c5 c6 fz hlt RC hrows hH ho hst
          obtain ⟨⟨m0, m1, m2, m3, m4, m5, m6⟩, fm, hm⟩ := rd_cells HN2.out
          have z0 := fm 0; have z1 := fm 1; have z2 := fm 2; have z3 := fm 3; have z4 := fm 4; have z5 := fm 5; have z6 := fm 6
          clear fm
          go_upto_region 21 with fail
          rw [← HV.out]
          clear m0 m1 m2 m3 m4 m5 m6 z0 z1 z2 z3 z4 z5 z6 hm
          obtain ⟨⟨m0, m1, m2, m3, m4, m5, m6⟩, fm, hm⟩ := rd_cells HQ1.out
          clear fm
          go_wp2_with fail
          refine bodyPost_ret (v := .tuple #[.slice dao' (rs.length + 1) dcap', .int .i64 0, .int .i64 0]) (by simp [results, Try.results6, go_sem]) rfl ?_
          have := parsed_yes (cap := dcap') E.out HRV.out HQB.out
          rw [show (rs ++ [xs ++ [cell]]).length = rs.length + 1 from by simp] at this
          exact this
end Go.Proofs.Ytacclgfpmkhodaa
