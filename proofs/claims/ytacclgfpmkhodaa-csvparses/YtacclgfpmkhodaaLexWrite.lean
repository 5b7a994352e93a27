/-
  What the program writes for a record.
  Conditions: the record's cells are a slice of strings, at most 2^20 of them, each at most 2^20 bytes long (the statements ask about far fewer and shorter ones).
-/
import Derived.WalkKit
import Derived.WalkMore
import Derived.RegionTactic
import Derived.ChangeAlike
import Derived.StillTailTactics
import Derived.Deep.RegionWith
import Derived.Lib.Hide
import Derived.Test.YtacclgfpmkhodaaProg
import Derived.Test.YtacclgfpmkhodaaBuf
import Derived.Test.YtacclgfpmkhodaaLexField
namespace Go.Proofs.Ytacclgfpmkhodaa
open Go.RowKit Go.Shelf

theorem recType : BufType 65 4 := ⟨by kernel_rfl, by decide⟩
def RecOf (B b : Nat) (l : List UInt8) (d : UInt8) (m : Bool) (w : World) : Prop := IsBuf 65 B b (Lib.byteCells l) [.int .u8 (d.toNat : Int), .bool m] w

theorem RecOf.cells {B b : Nat} {l : List UInt8} {d : UInt8} {m : Bool} {w : World} (h : RecOf B b l d m w) : (w.cell? ⟨b, 2, none⟩ = some (.int .u8 (d.toNat : Int)) ∧ w.cell? ⟨b, 3, none⟩ = some (.bool m)) ∧ w.frozen? ⟨b, 3, none⟩ = false ∧ b < w.heap.size := by
  rcases h with h | h
  · exact ⟨⟨h.cell 0 _ rfl, h.cell 1 _ rfl⟩, h.frozen 3, h.lt⟩
  · exact ⟨⟨h.cell 0 _ rfl, h.cell 1 _ rfl⟩, h.frozen 3, h.lt⟩
theorem RecOf.kept {B b : Nat} {l : List UInt8} {d : UInt8} {m : Bool} {w w' : World} (h : RecOf B b l d m w) (hB : Below w.heap.size w w') : RecOf B b l d m w' := by
  rcases h with h | h
  · exact .inl (h.kept hB)
  · exact .inr (h.kept hB)
theorem RecOf.more {B b : Nat} {l : List UInt8} {d : UInt8} {m : Bool} {w : World} (h : RecOf B b l d m w) : RecOf B b l d true (w.setCell ⟨b, 3, none⟩ (.bool true)) := by
  rcases h with h | h
  · exact .inl (h.set 1 (.bool true))
  · exact .inr (h.set 1 (.bool true))
theorem RecOf.le {B b : Nat} {l : List UInt8} {d : UInt8} {m : Bool} {w : World} (h : RecOf B b l d m w) : B ≤ b := by
  rcases h with h | h
  · exact h.1
  · exact h.1
theorem str_byte (l : List UInt8) (s : ByteArray) : Lib.byteCells l ++ Lib.strCells s = Lib.byteCells (l ++ s.data.toList) := by
  simp [Lib.byteCells, Lib.strCells]
theorem one_byte (l : List UInt8) (d : UInt8) : Lib.byteCells l ++ [.int .u8 (d.toNat : Int)] = Lib.byteCells (l ++ [d]) := by
  simp [Lib.byteCells]
theorem recByte (B b : Nat) (l : List UInt8) (d c : UInt8) (m : Bool) (w : World) (h : RecOf B b l d m w) (hl : l.length ≤ 2199023255552) (hBw : B ≤ w.heap.size) :
    Calls Try.prog 37 #[.pointer (some ⟨b, 0, none⟩), .int .u8 (c.toNat : Int)] w fun e w' => e = .returned .nilIface ∧ (RecOf B b (l ++ [c]) d m w' ∧ Below B w w') := by
  refine (bufByte (c.toNat : Int) w recType h (by rw [Lib.byteCells_length]; omega) hBw).mono ?_
  rintro e w' ⟨rfl, h1, h2⟩
  rw [one_byte] at h1
  exact ⟨rfl, .inr h1, h2⟩
theorem recString (B b : Nat) (l : List UInt8) (d : UInt8) (c : ByteArray) (m : Bool) (w : World) (h : RecOf B b l d m w) (hl : l.length ≤ 2199023255552) (hc : c.size ≤ 2199023255552) (hBw : B ≤ w.heap.size) :
    Calls Try.prog 41 #[.pointer (some ⟨b, 0, none⟩), .string c] w fun e w' => e = .returned (.tuple #[.int .i64 c.size, .nilIface]) ∧ (RecOf B b (l ++ c.data.toList) d m w' ∧ Below B w w') := by
  refine (bufString c w recType h (by rw [Lib.byteCells_length]; omega) hBw).mono ?_
  rintro e w' ⟨rfl, h1, h2⟩
  rw [str_byte] at h1
  exact ⟨rfl, .inr h1, h2⟩
theorem putL_le (l : List UInt8) (d : Int) : (putL l d).length ≤ 2 * l.length + 2 := by
  unfold putL; split
  · omega
  · have := quoted_length l; have := cnt_le l; omega

set_option maxHeartbeats 2000000 in
set_option maxRecDepth 100000 in
theorem add_any (B b : Nat) (l : List UInt8) (d : UInt8) (m : Bool) (c : ByteArray) (w : World) (h : RecOf B b l d m w) (hl : l.length ≤ 1099511627776) (hc : c.size ≤ 1048576) (hBw : B ≤ w.heap.size) :
    Calls Try.prog 36 #[.pointer (some ⟨b, 0, none⟩), .string c] w fun e w' => e = .returned (.tuple #[]) ∧ RecOf B b (l ++ (if m = true then [d] else []) ++ putL c.data.toList (d.toNat : Int)) d true w' ∧ Below B w w' := by
  have Pc := Lib.hid (fun w => put_any c (d.toNat : Int) w (by omega))
  have hPs : ∃ P : ByteArray, Hid (P = ⟨(putL c.data.toList (d.toNat : Int)).toArray⟩) ∧ P.size ≤ 2097154 := by
    refine ⟨_, Lib.hid rfl, ?_⟩
    have h1 := putL_le c.data.toList (d.toNat : Int); have h3 := ba_size c
    rw [ba_mk_size (putL c.data.toList (d.toNat : Int))]; omega
  obtain ⟨P, HP, hP⟩ := hPs
  rw [← HP.out] at Pc
  have hPl : Hid (P.data.toList = putL c.data.toList (d.toNat : Int)) := Lib.hid (by rw [HP.out])
  clear HP
  have H := Lib.hid h
  obtain ⟨⟨c2, c3⟩, f3, hlt⟩ := h.cells
  clear h
  cases m with
  | true =>
    go_enter Try.func36, Try.ntmps36
    go_wp2_with fail
    go_still_tail 7, (by kernel_rfl)
    change wpList _ _ _ _ _ w.drew
    have H1 : Hid (RecOf B b l d true w.drew) := H
    have B1 : Hid (Below B w w.drew) := Lib.hid (Below.refl B w).drew
    have hBw1 : B ≤ w.drew.heap.size := hBw
    clear c2 c3 f3 H hBw
    generalize w.drew = w1 at H1 B1 hBw1
    go_wp2_with fail
    refine (recByte B b l d d true w1 H1.out (by omega) hBw1).mono ?_
    rintro e w2 ⟨rfl, h2, b2⟩
    obtain ⟨⟨c2, c3⟩, f3, hlt2⟩ := h2.cells
    have c2' : w2.drew.cell? ⟨b, 2, none⟩ = some (.int .u8 (d.toNat : Int)) := c2
    have H3 : Hid (RecOf B b (l ++ [d]) d true w2.drew) := Lib.hid h2
    have B3 : Hid (Below B w w2.drew) := Lib.hid (B1.out.trans b2).drew
    have hBw3 : B ≤ w2.drew.heap.size := Nat.le_trans hBw1 b2.size
    clear h2 b2 H1 B1 hlt
    go_wp2_with fail
    go_region_with (first
      | (go_at_call 42; refine (Pc.out _).mono ?_; rintro e w4 ⟨rfl, b4⟩)
      | (go_at_call 41; refine (recString B b (l ++ [d]) d P true _ (H3.out.kept b4) (by simp; omega) (by omega) (Nat.le_trans hBw3 b4.size)).mono ?_; rintro e w5 ⟨rfl, h5, b5⟩))
    all_goals obtain ⟨⟨c2, c3⟩, f3, hlt5⟩ := h5.cells
    all_goals have H5 := Lib.hid h5
    all_goals have B5 := Lib.hid ((B3.out.trans (b4.mono hBw3)).trans b5)
    all_goals clear h5 b5 b4
    all_goals go_wp2_with fail
    all_goals go_end0
    all_goals refine ⟨rfl, ?_, B5.out.setCell (p := ⟨b, 3, none⟩) H5.out.le _⟩
    all_goals have hm := H5.out.more
    all_goals rw [hPl.out] at hm
    all_goals simpa using hm
  | false =>
    have c2' : w.drew.cell? ⟨b, 2, none⟩ = some (.int .u8 (d.toNat : Int)) := c2
    have H3 : Hid (RecOf B b l d false w.drew) := H
    have B3 : Hid (Below B w w.drew) := Lib.hid (Below.refl B w).drew
    have hBw3 : B ≤ w.drew.heap.size := hBw
    clear H hlt
    go_enter Try.func36, Try.ntmps36
    go_wp2_with fail
    go_region_with (first
      | (go_at_call 42; refine (Pc.out _).mono ?_; rintro e w4 ⟨rfl, b4⟩)
      | (go_at_call 41; refine (recString B b l d P false _ (H3.out.kept b4) (by omega) (by omega) (Nat.le_trans hBw3 b4.size)).mono ?_; rintro e w5 ⟨rfl, h5, b5⟩))
    all_goals obtain ⟨⟨c2, c3⟩, f3, hlt5⟩ := h5.cells
    all_goals have H5 := Lib.hid h5
    all_goals have B5 := Lib.hid ((B3.out.trans (b4.mono hBw3)).trans b5)
    all_goals clear h5 b5 b4
    all_goals go_wp2_with fail
    all_goals go_end0
    all_goals refine ⟨rfl, ?_, B5.out.setCell (p := ⟨b, 3, none⟩) H5.out.le _⟩
    all_goals have hm := H5.out.more
    all_goals rw [hPl.out] at hm
    all_goals simpa using hm
end Go.Proofs.Ytacclgfpmkhodaa
