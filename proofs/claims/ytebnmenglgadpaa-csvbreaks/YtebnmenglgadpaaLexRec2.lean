/-
  What the program and the document's reference write for a record.
  Conditions: the record's cells are a slice of strings, at most 1000 of them, each at most 10000 bytes long (the statements ask about far fewer and shorter ones).
-/
import Derived.WalkKit
import Derived.WalkMore
import Derived.WalkSmall
import Derived.Lib.Hide
import Derived.Test.YtebnmenglgadpaaProg
import Derived.Test.YtebnmenglgadpaaLexRec
namespace Go.Proofs.Ytebnmenglgadpaa
open Go.RowKit Go.Shelf

theorem rec_fresh (d : UInt8) (w : World) : RecOf w.heap.size w.heap.size [] d false (w.alloc (.cells #[.pointer none, .slice none 0 0, .int .u8 (d.toNat : Int), .bool false] 71)) :=
  .inl ⟨Nat.le_refl _, .slice none 0 0, World.alloc_heap_new w _, World.ownsRow_nil _ _ _ _, by simp [Value.ownBlock]⟩
theorem recTold (B b : Nat) (l : List UInt8) (d : UInt8) (m : Bool) (w : World) (h : RecOf B b l d m w) (h0 : l ≠ []) :
    Calls Try.prog 52 #[.pointer (some ⟨b, 0, none⟩)] w fun e w' => e = .returned (.string ⟨l.toArray⟩) ∧ Below B w w' := by
  rcases h with h | h
  · exact bufTold l w h h0
  · exact bufTold l w h h0
theorem recByteI (B b : Nat) (l : List UInt8) (d c : UInt8) (i : Int) (m : Bool) (w : World) (hi : i = (c.toNat : Int)) (h : RecOf B b l d m w) (hl : l.length ≤ 2199023255552) (hBw : B ≤ w.heap.size) :
    Calls Try.prog 51 #[.pointer (some ⟨b, 0, none⟩), .int .u8 i] w fun e w' => e = .returned .nilIface ∧ (RecOf B b (l ++ [c]) d m w' ∧ Below B w w') := by
  subst hi; exact recByte B b l d c m w h hl hBw
theorem rec_cells {B b : Nat} {l : List UInt8} {d : UInt8} {m : Bool} {w : World} (h : RecOf B b l d m w) : b < w.heap.size := h.cells.2.2

set_option maxHeartbeats 2000000 in
theorem write_any (d : UInt8) (crlf : Bool) (ao : Option Addr) (cap : Nat) (xs : List ByteArray) (w : World) (hn : xs.length ≤ 1000) (hx : ∀ c ∈ xs, c.size ≤ 10000) (hR : StrRow w ao xs) :
    Calls Try.prog 33 #[.slice ao xs.length cap, .int .u8 (d.toNat : Int), .bool crlf] w fun e w' => e = .returned (.string ⟨(writeL (bytesOf xs) d crlf).toArray⟩) ∧ Below w.heap.size w w' := by
  have hl := rec_le d xs xs.length hn hx
  rw [List.take_length] at hl
  obtain ⟨W, hW⟩ : ∃ W, W = w.alloc (.cells #[.pointer none, .slice none 0 0, .int .u8 (d.toNat : Int), .bool false] 71) := ⟨_, rfl⟩
  have hB0 : Below w.heap.size w W := by rw [hW]; exact (Below.refl _ w).alloc (Nat.le_refl _) _
  have h0 : RecOf w.heap.size w.heap.size [] d false W := by rw [hW]; exact rec_fresh d w
  have C := Lib.hid (each_any w.heap.size w.heap.size d ao cap xs W hn hx hB0.size (by
    rcases hR with h | ⟨A, h1, h2, h3⟩
    · exact .inl h
    · exact .inr ⟨A, h1, h2, fun i c hc => (hB0.cell (p := A.add i) (by rw [add_block]; exact h2)).trans (h3 i c hc)⟩) h0)
  have HB0 := Lib.hid hB0
  clear hR h0 hx hB0
  have HW := Lib.hid hW
  have hwr : Hid (writeL (bytesOf xs) d crlf = recL d (bytesOf xs) ++ brkL crlf) := Lib.hid rfl
  rw [hwr.out]
  generalize recL d (bytesOf xs) = r at C hl
  clear hwr
  cases crlf with
  | true =>
    go_enter Try.func33, Try.ntmps33
    go_wp2_with fail
    rw [← HW.out]
    clear hW
    refine C.out.mono ?_; rintro e w1 ⟨rfl, h1, b1⟩
    have H1 := Lib.hid h1
    have B1 := Lib.hid (HB0.out.trans b1)
    clear h1 b1 HB0 C HW
    go_wp2_with fail
    refine (recByteI _ _ _ _ 13 13 _ w1 rfl H1.out (by omega) B1.out.size).mono ?_; rintro e w2 ⟨rfl, h2, b2⟩
    have H2 := Lib.hid h2
    have B2 := Lib.hid (B1.out.trans b2)
    clear h2 b2 H1 B1
    go_wp2_with fail
    refine (recByteI _ _ _ _ 10 10 _ w2 rfl H2.out (by simp; omega) B2.out.size).mono ?_; rintro e w3 ⟨rfl, h3, b3⟩
    have H3 := Lib.hid h3
    have B3 := Lib.hid (B2.out.trans b3)
    clear h3 b3 H2 B2
    go_wp2_with fail
    refine (recTold _ _ _ _ _ w3 H3.out (by simp)).mono ?_; rintro e w4 ⟨rfl, b4⟩
    go_wp2_with fail
    go_ret
    exact ⟨by simp [brkL], B3.out.trans b4⟩
  | false =>
    go_enter Try.func33, Try.ntmps33
    go_wp2_with fail
    rw [← HW.out]
    clear hW
    refine C.out.mono ?_; rintro e w1 ⟨rfl, h1, b1⟩
    have H1 := Lib.hid h1
    have B1 := Lib.hid (HB0.out.trans b1)
    clear h1 b1 HB0 C HW
    go_wp2_with fail
    refine (recByteI _ _ _ _ 10 10 _ w1 rfl H1.out (by omega) B1.out.size).mono ?_; rintro e w3 ⟨rfl, h3, b3⟩
    have H3 := Lib.hid h3
    have B3 := Lib.hid (B1.out.trans b3)
    clear h3 b3 H1 B1
    go_wp2_with fail
    refine (recTold _ _ _ _ _ w3 H3.out (by simp)).mono ?_; rintro e w4 ⟨rfl, b4⟩
    go_wp2_with fail
    go_ret
    exact ⟨by simp [brkL], B3.out.trans b4⟩

theorem rput_b (s : ByteArray) (d : Int) (w : World) (hs : s.size ≤ 1099511627776) :
    Calls Try.prog 53 #[.string s, .int .u8 d] w fun e w' => e = .returned (.string ⟨(putL s.data.toList d).toArray⟩) ∧ Below w.heap.size w w' :=
  (rput_any s d w hs).mono fun _ _ ⟨he, m, hw⟩ => ⟨he, by subst hw; exact below_drewN (Below.refl _ _) m⟩

set_option maxHeartbeats 2000000 in
theorem rwrite_any (d : UInt8) (crlf : Bool) (ao : Option Addr) (cap : Nat) (xs : List ByteArray) (w : World) (hn : xs.length ≤ 1000) (hx : ∀ c ∈ xs, c.size ≤ 10000) (hR : StrRow w ao xs) :
    Calls Try.prog 35 #[.slice ao xs.length cap, .int .u8 (d.toNat : Int), .bool crlf] w fun e w' => e = .returned (.string ⟨(writeL (bytesOf xs) d crlf).toArray⟩) ∧ Below w.heap.size w w' := by
  have HX := Lib.hid hx
  have HL := Lib.hid (fun k => rec_le d xs k hn hx)
  have HRo := Lib.hid hR
  clear hx hR
  go_enter Try.func35, Try.ntmps35
  go_wp2_with fail
  go_loopw [7, 8] (fun p i wr => ∃ (k : Nat) (t : ByteArray), k ≤ xs.length ∧ p = .string t ∧ t.size ≤ 20003000 ∧ i = .int .i64 k ∧ Hid (t.data.toList = recL d (bytesOf (xs.take k))) ∧ Hid (Below w.heap.size w wr)) (fun _ i _ => xs.length - (intOf i).toNat)
  case atStart => exact ⟨0, ⟨#[]⟩, Nat.zero_le _, rfl, by decide, rfl, Lib.hid rfl, Lib.hid (Below.refl _ _)⟩
  case round =>
    obtain ⟨k, t, hk, rfl, ht, rfl, HT, HB⟩ := hrel
    by_cases hlt : k < xs.length
    · have HN := Lib.hid (rec_next d xs k xs[k] (List.getElem?_eq_getElem hlt))
      obtain ⟨A, rfl, hA, hcell⟩ : ∃ A, ao = some A ∧ A.block < wr.heap.size ∧ ∀ i c, xs[i]? = some c → wr.cell? (A.add i) = some (.string c) := by
        rcases HRo.out.kept HB.out with h | h
        · rw [h] at hlt; exact absurd hlt (Nat.not_lt_zero _)
        · exact h
      have hc := hcell k xs[k] (List.getElem?_eq_getElem hlt)
      have hsz := HX.out xs[k] (List.getElem_mem hlt)
      have hN := HL.out (k + 1)
      have Pc := Lib.hid (fun w => rput_b xs[k] (d.toNat : Int) w (by omega))
      clear hcell
      obtain ⟨P, HP, hP⟩ : ∃ P : ByteArray, Hid (P = ⟨(putL xs[k].data.toList (d.toNat : Int)).toArray⟩) ∧ P.size ≤ 20002 := by
        refine ⟨_, Lib.hid rfl, ?_⟩
        have h1 := putL_le xs[k].data.toList (d.toNat : Int); have h3 := ba_size xs[k]
        rw [ba_mk_size (putL xs[k].data.toList (d.toNat : Int))]; omega
      rw [← HP.out] at Pc
      have hPl : Hid (P.data.toList = putL xs[k].data.toList (d.toNat : Int)) := Lib.hid (by rw [HP.out])
      clear HP
      rw [← hPl.out] at HN
      clear hPl
      generalize xs[k] = x at hc hsz Pc HN
      by_cases h0 : 0 < k
      · have hcv : (convert 56 9 (.slice (some ⟨wr.heap.size, 0, none⟩) 1 1)).run Try.prog (wr.alloc (.cells #[.int .u8 (d.toNat : Int)] 5)) = .ok (.string ⟨#[d]⟩) (wr.alloc (.cells #[.int .u8 (d.toNat : Int)] 5)) :=
          run_convert_bytes_back _ 56 9 5 ⟨wr.heap.size, 0, none⟩ 1 [d] Try.underlying56 Try.underlying5 Try.underlying9 (fun j hj => by
            match j, hj with
            | 0, _ => rw [cell_row (World.alloc_heap_new wr _)]; rfl)
        have hcl : (wr.alloc (.cells #[.int .u8 (d.toNat : Int)] 5)).cell? (A.add k) = some (.string x) := cell_alloc_l _ hc
        have hd1 : (⟨#[d]⟩ : ByteArray).size = 1 := rfl
        have Bn : Hid (Below w.heap.size w (wr.alloc (.cells #[.int .u8 (d.toNat : Int)] 5))) := Lib.hid (HB.out.alloc HB.out.size _)
        go_wp2_with fail
        refine (Pc.out _).mono ?_; rintro e w1 ⟨rfl, b1⟩
        have B1 := Lib.hid (below_up Bn.out b1)
        clear b1 hcl hcv Bn hc Pc
        go_wp2_with fail
        go_roundw
        case rel =>
          have e1 : (t ++ ⟨#[d]⟩ ++ P).data.toList = recL d (bytesOf (xs.take (k + 1))) := by
            rw [ba_app, ba_app, HT.out, HN.out]; simp [h0]
          refine ⟨k + 1, t ++ ⟨#[d]⟩ ++ P, by omega, rfl, ?_, by go_num, Lib.hid e1, B1⟩
          rw [← ba_size, e1]; exact hN
        case measure => simp [intOf]; omega
      · obtain rfl : k = 0 := by omega
        have hcA : wr.cell? A = some (.string x) := by simpa [Addr.add] using hc
        go_wp2_with fail
        refine (Pc.out _).mono ?_; rintro e w1 ⟨rfl, b1⟩
        have B1 := Lib.hid (below_up HB.out b1)
        clear b1 hc hcA Pc
        go_wp2_with fail
        go_roundw
        case rel =>
          have e1 : (t ++ P).data.toList = recL d (bytesOf (xs.take (0 + 1))) := by
            rw [ba_app, HT.out, HN.out]; simp
          refine ⟨0 + 1, t ++ P, by omega, rfl, ?_, by go_num, Lib.hid e1, B1⟩
          rw [← ba_size, e1]; exact hN
        case measure => simp [intOf]; omega
    · obtain rfl : k = xs.length := by omega
      rw [List.take_length] at HT
      have hwr : Hid (writeL (bytesOf xs) d crlf = t.data.toList ++ brkL crlf) := Lib.hid (by rw [HT.out]; rfl)
      have hs1 : (⟨#[10]⟩ : ByteArray).size = 1 := rfl
      have hs2 : (⟨#[13, 10]⟩ : ByteArray).size = 2 := rfl
      cases crlf with
      | true =>
        go_wp2_with fail
        go_ret
        exact ⟨ret_str (by rw [hwr.out, ba_app]; rfl), HB.out⟩
      | false =>
        go_wp2_with fail
        go_ret
        exact ⟨ret_str (by rw [hwr.out, ba_app]; rfl), HB.out⟩
end Go.Proofs.Ytebnmenglgadpaa
