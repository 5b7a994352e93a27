/-
  The walk of the statement WeaveOwn.
  Conditions: none beyond the form of claims.
-/
import Derived.WalkKit
import Derived.WalkMore
import Derived.IntWalk
import Derived.OwnWalk
import Derived.WalkArith
import Derived.Lib.Hide
import Derived.Deep.Onto
import Derived.Test.YtolcdhdmonaeaaaProg
import Derived.Test.YtolcdhdmonaeaaaPOpen
import Derived.Test.YtolcdhdmonaeaaaWvWorks
import Derived.Test.YtolcdhdmonaeaaaWWeaveAll
namespace Go.Proofs.Ytolcdhdmonaeaaa
open Go.RowKit Go.Shelf
set_option linter.unusedVariables false

/-- each with itself -/
def ownP (n : Nat) : PL := (upTo n).map (fun i => (i, i))
def newP (n : Nat) : PL := (upTo n).map (fun i => (-1, i))
theorem ownP_next (n : Nat) : ownP (n + 1) = ownP n ++ [((n : Int), (n : Int))] := by unfold ownP; rw [upTo_next, List.map_append]; rfl
theorem newP_next (n : Nat) : newP (n + 1) = newP n ++ [(-1, (n : Int))] := by unfold newP; rw [upTo_next, List.map_append]; rfl
theorem goneP_next (n : Nat) : goneP (upTo (n + 1)) = goneP (upTo n) ++ [((n : Int), -1)] := by unfold goneP; rw [upTo_next, List.map_append]; rfl
theorem ownP_len (n : Nat) : (ownP n).length = n := by unfold ownP; rw [List.length_map, upTo_len]
theorem newP_len (n : Nat) : (newP n).length = n := by unfold newP; rw [List.length_map, upTo_len]
theorem goneP_len (n : Nat) : (goneP (upTo n)).length = n := by unfold goneP; rw [List.length_map, upTo_len]
theorem upTo_nodup (n : Nat) : (upTo n).Nodup := by
  unfold upTo
  exact List.Pairwise.map _ (fun a b hab e => hab (Int.ofNat.inj e)) List.nodup_range
theorem own_fst (n : Nat) : (ownP n).map Prod.fst = upTo n := by unfold ownP; rw [List.map_map]; exact List.map_id _
theorem own_snd (n : Nat) : (ownP n).map Prod.snd = upTo n := by unfold ownP; rw [List.map_map]; exact List.map_id _
theorem own_mem (n : Nat) (p : Int × Int) (h : p ∈ ownP n) : 0 ≤ p.1 ∧ p.1 < n ∧ p.2 = p.1 := by
  unfold ownP at h
  obtain ⟨i, hi, rfl⟩ := List.mem_map.1 h
  have := (upTo_mem n i).1 hi
  exact ⟨this.1, this.2, rfl⟩
theorem own_at (n j : Nat) (p : Int × Int) (h : (ownP n)[j]? = some p) : p = ((j : Int), (j : Int)) := by
  unfold ownP upTo at h
  rw [List.getElem?_map, List.getElem?_map] at h
  simp only [Option.map_map, Option.map_eq_some_iff] at h
  obtain ⟨i, hi, rfl⟩ := h
  obtain ⟨h1, h2⟩ := List.getElem?_eq_some_iff.1 hi
  simp at h2; subst h2; rfl
theorem own_check (n : Nat) : checkP (ownP n) n n = 0 := by
  unfold checkP
  have h2 : (ownP n).any (badP n n) = false := List.any_eq_false.2 (fun p hp => by
    have := own_mem n p hp
    simp only [badP, Bool.or_eq_true, decide_eq_true_eq]; omega)
  have h3 : twiceL (ownP n) = false := by simp [twiceL, own_fst, own_snd, upTo_nodup]
  have h4 : risesB (ownP n) = true := (risesB_iff _).2 (fun j p q hp hq => by rw [own_at n j p hp, own_at n (j + 1) q hq]; simp; omega)
  rw [if_neg (by omega), h2, h3, h4]; rfl
theorem nil_check (n m : Nat) : checkP [] n m = 0 := by
  unfold checkP; rw [if_neg (by omega)]; rfl
theorem weave_all (n : Nat) (b : Int) (m : ML) (h : m.map (fun q => q.2.2) = upFrom n b) : weaveM n b m [] = m.map Prod.snd := by
  induction n generalizing b m with
  | zero => cases m with
    | nil => rfl
    | cons q m => simp [upFrom] at h
  | succ n ih =>
    cases m with
    | nil => simp [upFrom] at h
    | cons q m =>
      obtain ⟨s, p⟩ := q
      simp only [upFrom, List.map_cons, List.cons.injEq] at h
      unfold weaveM
      rw [if_pos h.1]
      have hi := ih (b + 1) m h.2
      split
      · rw [show upToA p.1 [] = [] from rfl, show behindA p.1 [] = [] from rfl, hi]; rfl
      · rw [hi]; rfl
theorem own_woven (n : Nat) : orderP (ownP n) n n = ownP n := by
  unfold orderP; rw [if_pos (own_check n)]
  unfold weaveL
  have hg : outOf ((ownP n).map Prod.fst) (n : Int).toNat = [] := by
    rw [own_fst, Int.toNat_natCast]
    exact List.filter_eq_nil_iff.2 (fun x hx => by simp [hx])
  rw [hg, Int.toNat_natCast]
  have hs := marks_snd (ownP n) 0 (stillL (ownP n))
  refine (weave_all n 0 _ ?_).trans hs
  have : (marks 0 (ownP n) (stillL (ownP n))).map (fun q => q.2.2) = (ownP n).map Prod.snd := by
    conv => rhs; rw [← hs, List.map_map]
    rfl
  rw [this, own_snd, upFrom_is]
theorem weave_none (n : Nat) (b : Int) (g : List Int) : weaveM n b [] g = (upFrom n b).map (fun i => (-1, i)) ++ goneP g := by
  induction n generalizing b with
  | zero => rfl
  | succ n ih => unfold weaveM; rw [ih]; rfl
theorem none_woven (n m : Nat) : orderP [] n m = newP m ++ goneP (upTo n) := by
  unfold orderP; rw [if_pos (nil_check n m)]
  unfold weaveL
  rw [show marks 0 [] (stillL []) = [] from rfl, Int.toNat_natCast, Int.toNat_natCast, weave_none, upFrom_is]
  have : outOf (([] : PL).map Prod.fst) n = upTo n := List.filter_eq_self.2 (fun x _ => by simp)
  rw [this]; rfl

set_option maxRecDepth 100000 in
set_option maxHeartbeats 2000000 in
theorem walkWeaveOwn (n0 m0 : Int) (w : World) (ha : (Lit.int .i64 n0).wf = true) (hb : (Lit.int .i64 m0).wf = true) :
    Calls Try.prog 6 #[.int .i64 n0, .int .i64 m0] w fun e w' => e = .returned (.bool true) ∧ Below w.heap.size w w' := by
  have hinfo : (Try.prog.info? 37).map (fun i => (i.zero, i.size, i.bytes)) = some (some (.agg #[.int .i64 0, .int .i64 0]), 2, 16) := by kernel_rfl
  obtain ⟨i0, hi, hz0, hz1, hz2⟩ := info_parts2 hinfo
  have HI := Lib.hid hi
  have C0 := Lib.hid (wworks_any w)
  clear ha hb hi hinfo
  go_enter Try.func6, Try.ntmps6
  go_wp2_with fail
  refine C0.out.mono ?_; rintro e W ⟨rfl, b0⟩
  have B := Lib.hid b0
  clear b0 C0
  by_cases h1 : n0 < 0
  · go_wp2_with fail
    go_ret
    exact ⟨rfl, B.out⟩
  by_cases h2 : 60 < n0
  · go_wp2_with fail
    go_ret
    exact ⟨rfl, B.out⟩
  by_cases h3 : m0 < 0
  · go_wp2_with fail
    go_ret
    exact ⟨rfl, B.out⟩
  by_cases h4 : 60 < m0
  · go_wp2_with fail
    go_ret
    exact ⟨rfl, B.out⟩
  obtain ⟨n, rfl⟩ := Int.eq_ofNat_of_zero_le (show 0 ≤ n0 by omega)
  obtain ⟨m, rfl⟩ := Int.eq_ofNat_of_zero_le (show 0 ≤ m0 by omega)
  have hn : n ≤ 60 := by omega
  have hm : m ≤ 60 := by omega
  have HT : Hid (W.ownsRow W.heap.size 37 2 (.slice none 0 0) 0 (cellsP (ownP 0))) := Lib.hid (World.ownsRow_nil _ _ _ _)
  go_wp2_with fail
  go_loopw [6, 8] (fun v i wr => ∃ (k cp : Nat) (go : Option Addr), k ≤ n ∧ i = .int .i64 k ∧ v = .slice go k cp ∧ Hid (Below W.heap.size W wr) ∧ Hid (wr.ownsRow W.heap.size 37 2 (.slice go k cp) k (cellsP (ownP k)))) (fun _ i _ => n - (intOf i).toNat)
  case atStart => exact ⟨0, 0, none, Nat.zero_le _, rfl, rfl, Lib.hid (Below.refl _ _), HT⟩
  case round =>
    clear HT
    obtain ⟨k, cp, go, hk, rfl, rfl, HB, HO⟩ := hrel
    by_cases hlt : k < n
    · have HO1 := Lib.hid (HO.out.alloc (.cells #[Value.int .i64 (k : Int), Value.int .i64 (k : Int)] 37))
      have hbs : W.heap.size ≤ (wr.alloc (.cells #[Value.int .i64 (k : Int), Value.int .i64 (k : Int)] 37)).heap.size := by have := HB.out.size; simp; omega
      go_wp2_with (at_builtin; refine wpList_append_own _ rfl _ _ 22 rfl W.heap.size 37 i0 (.agg #[.int .i64 0, .int .i64 0]) 2 16 Try.underlying22 HI.out hz0 hz1 hz2 rfl (by decide) _ _ _ rfl HO1.out ⟨wr.heap.size, 0, none⟩ 1 1 [Value.int .i64 (k : Int), Value.int .i64 (k : Int)] rfl rfl (lit_cellP wr _ _ _) (fun u hu => by simp at hu; subst hu; rfl) (by unfold maxLen; omega) (by omega) hbs ?_)
      intro v' w3 hown' hgrow _
      obtain ⟨g, gc, rfl⟩ := ownsRow_succ hown'
      have HB3 := Lib.hid (own_grownI HB.out HB.out.size HO.out hgrow)
      have HO3 : Hid (w3.ownsRow W.heap.size 37 2 (.slice (some ⟨g, 0, none⟩) (k + 1) gc) (k + 1) (cellsP (ownP (k + 1)))) := Lib.hid (by rw [ownP_next, cellsP_app]; exact hown')
      clear hown' hgrow hbs HO1
      go_wp2_with fail
      go_roundw
      case rel => exact ⟨k + 1, gc, _, by omega, by go_num, rfl, HB3, HO3⟩
      case measure => simp [intOf]; omega
    · obtain rfl : k = n := by omega
      have B := Lib.hid (below_up B.out HB.out)
      have HP : Hid (PairsAt wr go (ownP k)) := Lib.hid (by
        have h := HO.out
        have hl : (cellsP (ownP k)).length = k * 2 := by rw [cellsP_length, ownP_len]
        obtain ⟨ao', c', e, h1, _⟩ := OwnL.pairsAt (show OwnL wr W.heap.size (.slice go k cp) (ownP k) from by unfold OwnL; rw [ownP_len]; exact h)
        injection e with e1 e2 e3
        rw [e1]; exact h1)
      clear HO HB
      obtain ⟨W1, rfl⟩ : ∃ W1 : World, W1 = wr := ⟨_, rfl⟩
      have HT : Hid (W1.ownsRow W1.heap.size 37 2 (.slice none 0 0) 0 (cellsP (newP 0))) := Lib.hid (World.ownsRow_nil _ _ _ _)
      go_wp2_with fail
      go_loopw [7, 9] (fun v i wr => ∃ (j cq : Nat) (ho : Option Addr), j ≤ m ∧ i = .int .i64 j ∧ v = .slice ho j cq ∧ Hid (Below W1.heap.size W1 wr) ∧ Hid (wr.ownsRow W1.heap.size 37 2 (.slice ho j cq) j (cellsP (newP j)))) (fun _ i _ => m - (intOf i).toNat)
      case atStart => exact ⟨0, 0, none, Nat.zero_le _, rfl, rfl, Lib.hid (Below.refl _ _), HT⟩
      case round =>
        clear HT
        obtain ⟨j, cq, ho, hj, rfl, rfl, HB, HO⟩ := hrel
        by_cases hjl : j < m
        · have HO1 := Lib.hid (HO.out.alloc (.cells #[Value.int .i64 (-1), Value.int .i64 (j : Int)] 37))
          have hbs : W1.heap.size ≤ (wr.alloc (.cells #[Value.int .i64 (-1), Value.int .i64 (j : Int)] 37)).heap.size := by have := HB.out.size; simp; omega
          go_wp2_with (at_builtin; refine wpList_append_own _ rfl _ _ 22 rfl W1.heap.size 37 i0 (.agg #[.int .i64 0, .int .i64 0]) 2 16 Try.underlying22 HI.out hz0 hz1 hz2 rfl (by decide) _ _ _ rfl HO1.out ⟨wr.heap.size, 0, none⟩ 1 1 [Value.int .i64 (-1), Value.int .i64 (j : Int)] rfl rfl (lit_cellP wr _ _ _) (fun u hu => by simp at hu; rcases hu with rfl | rfl <;> rfl) (by unfold maxLen; omega) (by omega) hbs ?_)
          intro v' w3 hown' hgrow _
          obtain ⟨g, gc, rfl⟩ := ownsRow_succ hown'
          have HB3 := Lib.hid (own_grownI HB.out HB.out.size HO.out hgrow)
          have HO3 : Hid (w3.ownsRow W1.heap.size 37 2 (.slice (some ⟨g, 0, none⟩) (j + 1) gc) (j + 1) (cellsP (newP (j + 1)))) := Lib.hid (by rw [newP_next, cellsP_app]; exact hown')
          clear hown' hgrow hbs HO1
          go_wp2_with fail
          go_roundw
          case rel => exact ⟨j + 1, gc, _, by omega, by go_num, rfl, HB3, HO3⟩
          case measure => simp [intOf]; omega
        · obtain rfl : j = m := by omega
          have HT : Hid (wr.ownsRow W1.heap.size 37 2 (.slice ho (j + 0) cq) (j + 0) (cellsP (newP j ++ goneP (upTo 0)))) := Lib.hid (by simpa [goneP, upTo] using HO.out)
          have HBs := Lib.hid HB.out
          clear HO HB
          go_wp2_with fail
          go_loopw [7, 10] (fun v i wr => ∃ (q cq : Nat) (ho : Option Addr), q ≤ k ∧ i = .int .i64 q ∧ v = .slice ho (j + q) cq ∧ Hid (Below W1.heap.size W1 wr) ∧ Hid (wr.ownsRow W1.heap.size 37 2 (.slice ho (j + q) cq) (j + q) (cellsP (newP j ++ goneP (upTo q))))) (fun _ i _ => k - (intOf i).toNat)
          case atStart => exact ⟨0, cq, ho, Nat.zero_le _, rfl, rfl, HBs, HT⟩
          case round =>
            clear HT HBs
            obtain ⟨q, cq, ho, hq, rfl, rfl, HB, HO⟩ := hrel
            by_cases hql : q < k
            · have HO1 := Lib.hid (HO.out.alloc (.cells #[Value.int .i64 (q : Int), Value.int .i64 (-1)] 37))
              have hbs : W1.heap.size ≤ (wr.alloc (.cells #[Value.int .i64 (q : Int), Value.int .i64 (-1)] 37)).heap.size := by have := HB.out.size; simp; omega
              go_wp2_with (at_builtin; refine wpList_append_own _ rfl _ _ 22 rfl W1.heap.size 37 i0 (.agg #[.int .i64 0, .int .i64 0]) 2 16 Try.underlying22 HI.out hz0 hz1 hz2 rfl (by decide) _ _ _ rfl HO1.out ⟨wr.heap.size, 0, none⟩ 1 1 [Value.int .i64 (q : Int), Value.int .i64 (-1)] rfl rfl (lit_cellP wr _ _ _) (fun u hu => by simp at hu; rcases hu with rfl | rfl <;> rfl) (by unfold maxLen; omega) (by omega) hbs ?_)
              intro v' w3 hown' hgrow _
              obtain ⟨g, gc, rfl⟩ := ownsRow_succ hown'
              have HB3 := Lib.hid (own_grownI HB.out HB.out.size HO.out hgrow)
              have HO3 : Hid (w3.ownsRow W1.heap.size 37 2 (.slice (some ⟨g, 0, none⟩) (j + (q + 1)) gc) (j + (q + 1)) (cellsP (newP j ++ goneP (upTo (q + 1))))) := Lib.hid (by rw [goneP_next, ← List.append_assoc, cellsP_app, ← Nat.add_assoc]; exact hown')
              clear hown' hgrow hbs HO1
              go_wp2_with fail
              go_roundw
              case rel => exact ⟨q + 1, gc, _, by omega, by go_num, by rw [Nat.add_assoc], HB3, HO3⟩
              case measure => simp [intOf]; omega
            · obtain rfl : q = k := by omega
              have B := Lib.hid (below_up B.out HB.out)
              have HN : Hid (PairsAt wr ho (newP j ++ goneP (upTo q))) := Lib.hid (by
                have h := HO.out
                have hl : (newP j ++ goneP (upTo q)).length = j + q := by rw [List.length_append, newP_len, goneP_len]
                obtain ⟨ao', c', e, h1, _⟩ := OwnL.pairsAt (show OwnL wr W1.heap.size (.slice ho (j + q) cq) (newP j ++ goneP (upTo q)) from by unfold OwnL; rw [hl]; exact h)
                injection e with e1 e2 e3
                rw [e1]; exact h1)
              have HP := Lib.hid (HP.out.kept HB.out)
              clear HO HB
              have C1 := Lib.hid (by have := order_any go cp (ownP q) q q wr (by rw [ownP_len]; omega) (fun p hp => by have := own_mem q p hp; exact ⟨WalkArith.wf_i64 (by omega), WalkArith.wf_i64 (by omega)⟩) HP.out (by omega) (by omega); rwa [own_woven, own_check, ownP_len] at this : Calls Try.prog 8 #[.slice go q cp, .int .i64 q, .int .i64 q] wr (OrderOut (ownP q) 0 wr))
              have C2 := Lib.hid (fun V => (by have := order_any none 0 [] q j V (by decide) (fun p hp => by cases hp) (.inl rfl) (by omega) (by omega); rwa [none_woven, nil_check] at this : Calls Try.prog 8 #[.slice none 0 0, .int .i64 q, .int .i64 j] V (OrderOut (newP j ++ goneP (upTo q)) 0 V)))
              have hL1 := Lib.hid (ownP_len q)
              have hL2 : Hid ((newP j ++ goneP (upTo q)).length = j + q) := Lib.hid (by rw [List.length_append, newP_len, goneP_len])
              have CP := Lib.hid (fun a b c d (l : PL) N V (hN : N = l.length) (hl : N ≤ 1000) (h : PairsAt V a l) (k : PairsAt V b l) => (by subst hN; have := psameR_any a b c d l l V (by omega) h k; rwa [same_self] at this : Calls Try.prog 10 #[.slice a l.length c, .slice b N d] V fun e w' => e = .returned (.bool true) ∧ Below V.heap.size V w'))
              generalize ownP q = L1 at C1 HP hL1
              generalize newP j ++ goneP (upTo q) = L2 at C2 HN hL2
              go_wp2_with fail
              refine C1.out.mono ?_; rintro e U1 ⟨o1, c1, rfl, i1, -, -, b1⟩
              have B := Lib.hid (below_up B.out b1)
              have HP := Lib.hid (HP.out.kept b1)
              have HN := Lib.hid (HN.out.kept b1)
              have I1 := Lib.hid i1
              clear b1 i1 C1
              go_wp2_with fail
              refine (C2.out U1).mono ?_; rintro e U2 ⟨o2, c2, rfl, i2, -, -, b1⟩
              have B := Lib.hid (below_up B.out b1)
              have HP := Lib.hid (HP.out.kept b1)
              have HN := Lib.hid (HN.out.kept b1)
              have I1 := Lib.hid (I1.out.kept b1)
              have I2 := Lib.hid i2
              clear b1 i2 C2
              go_wp2_with fail
              refine (CP.out o1 go c1 cp L1 q U2 hL1.out.symm (by omega) I1.out HP.out).mono ?_; rintro e U3 ⟨rfl, b1⟩
              have B := Lib.hid (below_up B.out b1)
              have HN := Lib.hid (HN.out.kept b1)
              have I2 := Lib.hid (I2.out.kept b1)
              clear b1 I1 HP
              go_wp2_with fail
              refine (CP.out o2 ho c2 cq L2 (j + q) U3 hL2.out.symm (by omega) I2.out HN.out).mono ?_; rintro e U4 ⟨rfl, b1⟩
              have B := Lib.hid (below_up B.out b1)
              clear b1 I2 HN
              go_wp2_with fail
              go_ret
              exact ⟨rfl, B.out⟩
end Go.Proofs.Ytolcdhdmonaeaaa
