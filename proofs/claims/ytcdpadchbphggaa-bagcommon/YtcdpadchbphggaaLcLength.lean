/-
  How long the longest common row is: the program's answer.
  Conditions: lists of at most 4096 Go strings.
-/
import Derived.WalkKit
import Derived.WalkMore
import Derived.Lib.Hide
import Derived.Test.YtcdpadchbphggaaProg
import Derived.Test.YtcdpadchbphggaaLcNum2
import Derived.Test.YtcdpadchbphggaaLcParts
import Derived.Test.YtcdpadchbphggaaLcFirst
namespace Go.Proofs.Ytcdpadchbphggaa
open Go.RowKit Go.Shelf
set_option linter.unusedVariables false

/-- numbers that stand for texts -/
def Stand (ts us : List Txt) (l m : List Int) : Prop := ∃ f : Txt → Int, l = ts.map f ∧ m = us.map f ∧ ∀ x ∈ ts, ∀ y ∈ us, f x = f y → x = y
theorem Stand.len {ts us : List Txt} {l m : List Int} (h : Stand ts us l m) : lcsN l m = lcsN ts us := by
  obtain ⟨f, rfl, rfl, h⟩ := h; exact lcs_map f ts us h
theorem Stand.way {ts us : List Txt} {l m : List Int} (h : Stand ts us l m) (i j : Nat) : wayL i j l m = wayL i j ts us := by
  obtain ⟨f, rfl, rfl, h⟩ := h; exact way_map f i j ts us h
theorem both_lists {ts us : List Txt} {w w' : World} {e : Ending} (h : BothOut ts us w e w') : ∃ (l m : List Int) (g1 g2 : Nat), l.length = ts.length ∧ m.length = us.length ∧ Stand ts us l m ∧ e = .returned (.tuple #[.slice (some ⟨g1, 0, none⟩) l.length l.length, .slice (some ⟨g2, 0, none⟩) m.length m.length]) ∧ NumsAt w' (some ⟨g1, 0, none⟩) l ∧ NumsAt w' (some ⟨g2, 0, none⟩) m ∧ Below w.heap.size w w' := by
  obtain ⟨f, g1, g2, h1, h2, h3, h4, h5⟩ := h
  exact ⟨ts.map f, us.map f, g1, g2, by simp, by simp, ⟨f, rfl, rfl, h4⟩, by rw [h1]; simp, h2, h3, h5⟩
theorem first_first {w : World} {ao : Option Addr} {ps : List (List Int)} {bs : List Int} (h : GridAt w ao (firstOf ps bs)) : ∃ g b o rc, ao = some ⟨g, 0, none⟩ ∧ w.cell? ⟨g, 0, none⟩ = some (.slice (some ⟨b, o, none⟩) (bs.length + 1) rc) ∧ w.cell? ⟨b, o, none⟩ = some (.int .i64 ((lcsN ps.flatten bs : Nat) : Int)) := by
  rcases h with h | ⟨g, rfl, h2, h3⟩
  · have := congrArg List.length h; rw [firstOf_len] at this; simp at this
  · obtain ⟨ro, rc, h4, h5⟩ := h3 0 _ (firstOf_at _ _ 0 (Nat.zero_le _))
    rw [rowOf_len] at h4
    rcases h5 with h5 | ⟨b, o, rfl, h6, h7⟩
    · have := congrArg List.length h5; rw [rowOf_len] at this; simp at this
    · have := h7 0 _ (rowOf_at _ _ 0 (Nat.zero_le _))
      simp only [List.drop_zero] at this
      exact ⟨g, b, o, rc, rfl, h4, this⟩
theorem chunk_lens {l : List Int} {ps : List (Nat × Nat)} (h : Chunks l ps) : (ps.map (cutOf l)).length = ps.length ∧ ∀ p ∈ ps.map (cutOf l), p.length ≤ l.length := by
  refine ⟨by simp, fun p hp => ?_⟩
  obtain ⟨x, hx, rfl⟩ := List.mem_map.1 hp
  rw [cut_len l x (h.within x hx)]
  have := h.within x hx; omega

set_option maxRecDepth 100000 in
set_option maxHeartbeats 1000000 in
theorem length_any (ao bo : Option Addr) (ca cb : Nat) (xs ys : List ByteArray) (w : World) (hn : xs.length ≤ 4096) (hm : ys.length ≤ 4096) (hs : ∀ c ∈ xs, c.size ≤ maxLen) (ht : ∀ c ∈ ys, c.size ≤ maxLen) (hR : StrRow w ao xs) (hS : StrRow w bo ys) :
    Calls Try.prog 14 #[.slice ao xs.length ca, .slice bo ys.length cb] w fun e w' => e = .returned (.int .i64 ((lcsN (bytesOf xs) (bytesOf ys) : Nat) : Int)) ∧ Below w.heap.size w w' := by
  have C := Lib.hid (numbered_any ao bo ca cb xs ys w hn hm hs ht hR hS)
  clear hR hS hs ht
  go_enter Try.func14, Try.ntmps14
  go_wp2_with fail
  refine C.out.mono ?_
  intro e w1 h
  obtain ⟨l, m, g1, g2, e1, e2, hst, rfl, h1, h2, hb1⟩ := both_lists h
  rw [bytes_len] at e1 e2
  have hln : l.length ≤ 4096 := by omega
  have hmn : m.length ≤ 4096 := by omega
  have C1 := Lib.hid (parts_any g1 l w1 hln h1)
  have HN := Lib.hid h2
  have HB1 := Lib.hid hb1
  have HST := Lib.hid hst
  clear h h1 h2 hb1 hst e1 e2 C
  go_wp2_with fail
  refine C1.out.mono ?_
  rintro e w2 ⟨ps, po, pc, hch, rfl, hg, hb2⟩
  obtain ⟨e3, e4⟩ := chunk_lens hch
  have C2 := Lib.hid (firstRows_any po (some ⟨g2, 0, none⟩) pc m.length (ps.map (cutOf l)) m w2 (by rw [e3]; have := hch.few; omega) (fun p hp => by have := e4 p hp; omega) hmn hg (HN.out.kept hb2))
  rw [e3] at C2
  have HCH := Lib.hid hch
  have HB2 := Lib.hid (below_up HB1.out hb2)
  clear hch hg hb2 e3 e4 C1
  go_wp2_with fail
  refine C2.out.mono ?_
  rintro e w3 ⟨fo, fc, rfl, hgf, hb3⟩
  obtain ⟨gf, b, o, rc, rfl, c1, c2⟩ := first_first hgf
  rw [HCH.out.all, HST.out.len] at c2
  have hfl : 0 < (firstOf (ps.map (cutOf l)) m).length := by rw [firstOf_len]; omega
  generalize (firstOf (ps.map (cutOf l)) m).length = FL at hfl
  have HB3 := Lib.hid (below_up HB2.out hb3)
  clear hgf hb3 C2
  go_wp2_with fail
  go_ret
  exact ⟨rfl, HB3.out⟩
end Go.Proofs.Ytcdpadchbphggaa
