/-
  What the program and the document's reference write for a record.
  Conditions: the record's cells are a slice of strings, at most 1000 of them, each at most 10000 bytes long (the statements ask about far fewer and shorter ones).
-/
import Derived.WalkKit
import Derived.WalkMore
import Derived.WalkSmall
import Derived.Lib.Hide
import Derived.Test.YtacclgfpmkhodaaProg
import Derived.Test.YtacclgfpmkhodaaLexRec
namespace Go.Proofs.Ytacclgfpmkhodaa
open Go.RowKit Go.Shelf

theorem rec_fresh (d : UInt8) (w : World) : RecOf w.heap.size w.heap.size [] d false (w.alloc (.cells #[.pointer none, .slice none 0 0, .int .u8 (d.toNat : Int), .bool false] 65)) :=
  .inl ⟨Nat.le_refl _, .slice none 0 0, World.alloc_heap_new w _, World.ownsRow_nil _ _ _ _, by simp [Value.ownBlock]⟩
theorem recTold (B b : Nat) (l : List UInt8) (d : UInt8) (m : Bool) (w : World) (h : RecOf B b l d m w) (h0 : l ≠ []) :
    Calls Try.prog 38 #[.pointer (some ⟨b, 0, none⟩)] w fun e w' => e = .returned (.string ⟨l.toArray⟩) ∧ Below B w w' := by
  rcases h with h | h
  · exact bufTold l w h h0
  · exact bufTold l w h h0
theorem recByteI (B b : Nat) (l : List UInt8) (d c : UInt8) (i : Int) (m : Bool) (w : World) (hi : i = (c.toNat : Int)) (h : RecOf B b l d m w) (hl : l.length ≤ 2199023255552) (hBw : B ≤ w.heap.size) :
    Calls Try.prog 37 #[.pointer (some ⟨b, 0, none⟩), .int .u8 i] w fun e w' => e = .returned .nilIface ∧ (RecOf B b (l ++ [c]) d m w' ∧ Below B w w') := by
  subst hi; exact recByte B b l d c m w h hl hBw
theorem rec_cells {B b : Nat} {l : List UInt8} {d : UInt8} {m : Bool} {w : World} (h : RecOf B b l d m w) : b < w.heap.size := h.cells.2.2

set_option maxHeartbeats 2000000 in
theorem write_any (d : UInt8) (crlf : Bool) (ao : Option Addr) (cap : Nat) (xs : List ByteArray) (w : World) (hn : xs.length ≤ 1000) (hx : ∀ c ∈ xs, c.size ≤ 10000) (hR : StrRow w ao xs) :
    Calls Try.prog 22 #[.slice ao xs.length cap, .int .u8 (d.toNat : Int), .bool crlf] w fun e w' => e = .returned (.string ⟨(writeL (bytesOf xs) d crlf).toArray⟩) ∧ Below w.heap.size w w' := by
  have hl := rec_le d xs xs.length hn hx
  rw [List.take_length] at hl
  obtain ⟨W, hW⟩ : ∃ W, W = w.alloc (.cells #[.pointer none, .slice none 0 0, .int .u8 (d.toNat : Int), .bool false] 65) := ⟨_, rfl⟩
  have hB0 : Below w.heap.size w W := by rw [hW]; exact (Below.refl _ w).alloc (Nat.le_refl _) _
  have h0 : RecOf w.heap.size w.heap.size [] d false W := by rw [hW]; exact rec_fresh d w
  have C := Lib.hid (each_any w.heap.size w.heap.size d ao cap xs W hn hx hB0.size (by
    rcases hR with h | ⟨A, h1, h2, h3⟩
    · exact .inl h
    · exact .inr ⟨A, h1, h2, fun i c hc => (hB0.cell (p := A.add i) (by rw [add_block]; exact h2)).trans (h3 i c hc)⟩) h0)
  have HB0 := Lib.hid hB0
  clear hR h0 hx hB0
  have HW := Lib.hid hW
  have hwr : Hid (writeL (bytesOf xs) d crlf = recL d (bytesOf xs) ++ brkL crlf) := Lib.hid rfl
  rw [hwr.out]
  generalize recL d (bytesOf xs) = r at C hl
  clear hwr
  cases crlf with
  | true =>
    go_enter Try.func22, Try.ntmps22
    go_wp2_with fail
    rw [← HW.out]
    clear hW
    refine C.out.mono ?_; rintro e w1 ⟨rfl, h1, b1⟩
    have H1 := Lib.hid h1
    have B1 := Lib.hid (HB0.out.trans b1)
    clear h1 b1 HB0 C HW
    go_wp2_with fail
    refine (recByteI _ _ _ _ 13 13 _ w1 rfl H1.out (by omega) B1.out.size).mono ?_; rintro e w2 ⟨rfl, h2, b2⟩
    have H2 := Lib.hid h2
    have B2 := Lib.hid (B1.out.trans b2)
    clear h2 b2 H1 B1
    go_wp2_with fail
    refine (recByteI _ _ _ _ 10 10 _ w2 rfl H2.out (by simp; omega) B2.out.size).mono ?_; rintro e w3 ⟨rfl, h3, b3⟩
    have H3 := Lib.hid h3
    have B3 := Lib.hid (B2.out.trans b3)
    clear h3 b3 H2 B2
    go_wp2_with fail
    refine (recTold _ _ _ _ _ w3 H3.out (by simp)).mono ?_; rintro e w4 ⟨rfl, b4⟩
    go_wp2_with fail
    go_ret
    exact ⟨by simp [brkL], B3.out.trans b4⟩
  | false =>
    go_enter Try.func22, Try.ntmps22
    go_wp2_with fail
    rw [← HW.out]
    clear hW
    refine C.out.mono ?_; rintro e w1 ⟨rfl, h1, b1⟩
    have H1 := Lib.hid h1
    have B1 := Lib.hid (HB0.out.trans b1)
    clear h1 b1 HB0 C HW
    go_wp2_with fail
    refine (recByteI _ _ _ _ 10 10 _ w1 rfl H1.out (by omega) B1.out.size).mono ?_; rintro e w3 ⟨rfl, h3, b3⟩
    have H3 := Lib.hid h3
    have B3 := Lib.hid (B1.out.trans b3)
    clear h3 b3 H1 B1
    go_wp2_with fail
    refine (recTold _ _ _ _ _ w3 H3.out (by simp)).mono ?_; rintro e w4 ⟨rfl, b4⟩
    go_wp2_with fail
    go_ret
    exact ⟨by simp [brkL], B3.out.trans b4⟩

end Go.Proofs.Ytacclgfpmkhodaa
