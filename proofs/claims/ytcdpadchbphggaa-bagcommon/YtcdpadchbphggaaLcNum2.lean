/-
  Both lists as numbers: alike just where the texts are.
  Conditions: lists of at most 4096 Go strings.
-/
import Derived.Maps.Own
import Derived.Maps.OwnOps
import Derived.Maps.OwnSet
import Derived.Test.YtcdpadchbphggaaProg
import Derived.Test.YtcdpadchbphggaaLcNum
namespace Go.Proofs.Ytcdpadchbphggaa
open Go.RowKit Go.Shelf Go.Maps
set_option linter.unusedVariables false

def BothOut (ts us : List Txt) (w : World) (e : Ending) (w' : World) : Prop :=
  ∃ (f : Txt → Int) (g1 g2 : Nat), e = .returned (.tuple #[.slice (some ⟨g1, 0, none⟩) ts.length ts.length, .slice (some ⟨g2, 0, none⟩) us.length us.length]) ∧ NumsAt w' (some ⟨g1, 0, none⟩) (ts.map f) ∧ NumsAt w' (some ⟨g2, 0, none⟩) (us.map f) ∧ (∀ x ∈ ts, ∀ y ∈ us, f x = f y → x = y) ∧ Below w.heap.size w w'
theorem str_grown {w w' : World} {ao : Option Addr} {xs : List ByteArray} {B : Nat} (h : StrRow w ao xs) (hB : w.heap.size ≤ B) (hb : Below w.heap.size w w') : StrRow w' ao xs ∧ ∀ (i : Nat) x, xs[i]? = some x → ∃ A, ao = some A ∧ A.block ≠ B := by
  refine ⟨h.kept hb, fun i x hx => ?_⟩
  rcases h with h | ⟨A, h1, h2, h3⟩
  · subst h; simp at hx
  · exact ⟨A, h1, by omega⟩

set_option maxRecDepth 100000 in
set_option maxHeartbeats 2000000 in
theorem numbered_any (ao bo : Option Addr) (ca cb : Nat) (xs ys : List ByteArray) (w : World) (hn : xs.length ≤ 4096) (hm : ys.length ≤ 4096) (hs : ∀ c ∈ xs, c.size ≤ maxLen) (ht : ∀ c ∈ ys, c.size ≤ maxLen) (hR : StrRow w ao xs) (hS : StrRow w bo ys) :
    Calls Try.prog 19 #[.slice ao xs.length ca, .slice bo ys.length cb] w (BothOut (bytesOf xs) (bytesOf ys) w) := by
  have hent := enters_of Try.func22 (by kernel_rfl) rfl
  have hmm := @run_makeMap Try.prog
  obtain ⟨B, hB⟩ : ∃ B, B = w.heap.size := ⟨_, rfl⟩
  obtain ⟨V, HV⟩ : ∃ V, Hid (V = (w.alloc (.map #[] 0)).alloc (.cells #[.map (some B)] 30)) := ⟨_, Lib.hid rfl⟩
  have HM : Hid (V.ownsMap Try.prog 9 (plainElem Try.prog 3) B 0 (.map [] : DataW Unit)) := Lib.hid (by
    rw [HV.out, hB]
    exact ownsMap_below (World.ownsMap_made w _ _ _) ((Below.refl _ _).alloc (Nat.le_refl _) _))
  have HX : Hid (V.heap[B + 1]? = some (.cells #[.map (some B)] 30 (0, 0))) := Lib.hid (by
    rw [HV.out, hB]
    have := World.alloc_heap_new (w.alloc (.map #[] 0)) (.cells #[.map (some w.heap.size)] 30)
    rwa [World.size_alloc] at this)
  have HBV : Hid (Below w.heap.size w V) := Lib.hid (by rw [HV.out]; exact ((Below.refl _ w).alloc (Nat.le_refl _) _).alloc (by simp) _)
  have R1 := str_grown (B := B) hR (by omega) HBV.out
  have C1 := Lib.hid (numbered1_any ao ca xs (B + 1) B 0 [] _ V hn (by omega) (by simp) hs R1.1 HX.out (by omega) R1.2 HM.out KeyIs.empty)
  have HS := Lib.hid hS
  have HT := Lib.hid ht
  have HB := Lib.hid hB
  rw [hB] at HV
  clear R1 hR hS hs ht HM
  go_enter Try.func19, Try.ntmps19
  go_upto_region 3 with fail
  rw [← HV.out, ← hB]
  clear hB HV hmm
  go_wp2_with fail
  refine C1.out.mono ?_
  rintro e w1 ⟨g1, K1, D1, rfl, hg1, hgB1, hcell1, hM1, hK1, hp1, hl1, hgr1⟩
  rw [bytes_len] at hM1 hl1
  have hbw1 : Below w.heap.size w w1 := ⟨hgr1.os.trans HBV.out.os, hgr1.tape.trans HBV.out.tape, hgr1.output.trans HBV.out.output, Nat.le_trans HBV.out.size hgr1.size, fun k hk => (hgr1.block k (Nat.lt_of_lt_of_le hk HBV.out.size) (by have := HB.out; intro e; injection e; omega)).trans (HBV.out.block k hk)⟩
  have hX1 : w1.heap[B + 1]? = some (.cells #[.map (some B)] 30 (0, 0)) := (hgr1.block (B + 1) (lt_of_heap HX.out) (by intro e; injection e; omega)).trans HX.out
  have R2 := str_grown (B := B) HS.out (by rw [HB.out]; exact Nat.le_refl _) hbw1
  have C2 := Lib.hid (numbered1_any bo cb ys (B + 1) B (0 + xs.length) K1 D1 w1 hm (by omega) (by simp at hl1; omega) HT.out R2.1 hX1 (by omega) R2.2 hM1 hK1)
  have H1 := Lib.hid (And.intro hg1 (And.intro hgB1 hcell1))
  have HBW := Lib.hid hbw1
  clear hg1 hgB1 hcell1 hM1 hK1 hp1 hl1 hgr1 hbw1 hX1 R2 C1 HX HBV
  go_wp2_with fail
  refine C2.out.mono ?_
  rintro e w2 ⟨g2, K2, D2, rfl, hg2, hgB2, hcell2, hM2, hK2, hp2, hl2, hgr2⟩
  have HE : Hid (BothOut (bytesOf xs) (bytesOf ys) w (.returned (.tuple #[.slice (some ⟨g1, 0, none⟩) (bytesOf xs).length (bytesOf xs).length, .slice (some ⟨g2, 0, none⟩) (bytesOf ys).length (bytesOf ys).length])) w2) := Lib.hid (by
    obtain ⟨h1, h2, h3⟩ := H1.out
    refine ⟨fun x => ((K2.idxOf x : Nat) : Int), g1, g2, rfl, .inr ⟨g1, 0, rfl, h1.same (hgr2.block g1 h1.lt (by simpa using h2)), fun i p hp => ?_⟩, .inr ⟨g2, 0, rfl, hg2, fun i p hp => ?_⟩, fun x hx y hy e => ?_, ?_⟩
    · rw [List.getElem?_map] at hp
      obtain ⟨x, hx, rfl⟩ := Option.map_eq_some_iff.1 hp
      obtain ⟨k1, k2⟩ := h3 i x hx
      rw [Nat.zero_add, idx_pre K1 K2 x hp2 k1]
      exact cell_grown k2 hgr2 (by simpa using h2)
    · rw [List.getElem?_map] at hp
      obtain ⟨x, hx, rfl⟩ := Option.map_eq_some_iff.1 hp
      rw [Nat.zero_add]; exact (hcell2 i x hx).2
    · obtain ⟨i, hi, rfl⟩ := List.getElem_of_mem hx
      obtain ⟨j, hj, rfl⟩ := List.getElem_of_mem hy
      have m1 := hp2.subset (h3 i _ (List.getElem?_eq_getElem hi)).1
      have m2 := (hcell2 j _ (List.getElem?_eq_getElem hj)).1
      exact idx_inj K2 _ _ m1 m2 e
    · have h := HBW.out
      exact ⟨hgr2.os.trans h.os, hgr2.tape.trans h.tape, hgr2.output.trans h.output, Nat.le_trans h.size hgr2.size, fun k hk => (hgr2.block k (Nat.lt_of_lt_of_le hk h.size) (by have := HB.out; intro e; injection e; omega)).trans (h.block k hk)⟩)
  clear hg2 hgB2 hcell2 hM2 hK2 hp2 hl2 hgr2
  go_wp2_with fail
  refine bodyPost_ret (v := .tuple #[.slice (some ⟨g1, 0, none⟩) (bytesOf xs).length (bytesOf xs).length, .slice (some ⟨g2, 0, none⟩) (bytesOf ys).length (bytesOf ys).length]) (by simp [results, Try.results19, go_sem]) rfl ?_
  exact HE.out
end Go.Proofs.Ytcdpadchbphggaa
