/-
  The walk of the statement LcsSame.
  Conditions: none beyond the form of claims.
-/
import Derived.WalkKit
import Derived.WalkMore
import Derived.IntWalk
import Derived.OwnWalk
import Derived.Laws.AppendOwn
import Derived.Laws.AppendOwnNone
import Derived.Laws.OwnMore
import Derived.Deep.Onto
import Derived.Deep.RegionLaw
import Derived.Lib.Hide
import Derived.Test.YtcdamnnbpifhpaaProg
import Derived.Test.YtcdamnnbpifhpaaWLcsTurns
namespace Go.Proofs.Ytcdamnnbpifhpaa
open Go.RowKit Go.Shelf
set_option linter.unusedVariables false

theorem bytes_less (xs : List ByteArray) (k : Nat) : bytesOf (xs.take k ++ xs.drop (k + 1)) = (bytesOf xs).take k ++ (bytesOf xs).drop (k + 1) := by simp [bytesOf, List.map_take, List.map_drop]
theorem str_take {w : World} {A : Addr} {xs : List ByteArray} (h : StrRow w (some A) xs) (k : Nat) : ∀ (j : Nat) u, ((xs.take k).map Value.string)[j]? = some u → w.cell? (A.add j) = some u := fun j u hu => by
  rw [List.getElem?_map] at hu
  obtain ⟨c, hc, rfl⟩ := Option.map_eq_some_iff.1 hu
  have hc' : xs[j]? = some c := by
    rw [List.getElem?_take] at hc
    split at hc
    · exact hc
    · cases hc
  rcases h with h | ⟨A', h1, _, h3⟩
  · subst h; simp at hc'
  · cases h1; exact h3 j c hc'
theorem add_addA (A : Addr) (i j : Nat) (h : A.spot = none) : (⟨A.block, A.off + i, none⟩ : Addr).add j = A.add (i + j) := by
  obtain ⟨b, o, s⟩ := A
  simp at h; subst h
  simp only [Addr.add, Nat.add_assoc]
  split <;> split <;> simp_all
theorem spot_of {w : World} {A : Addr} {xs : List ByteArray} (h : StrRow w (some A) xs) (hl : 0 < xs.length) : A.spot = none := by
  rcases h with h | ⟨A', h1, _, h3⟩
  · subst h; simp at hl
  · cases h1
    have h4 := h3 0 _ (List.getElem?_eq_getElem hl)
    cases hsp : A.spot with
    | none => rfl
    | some r =>
      simp [Addr.add, World.cell?, hsp] at h4
      split at h4 <;> cases h4
theorem str_drop {w : World} {A : Addr} {xs : List ByteArray} (h : StrRow w (some A) xs) (hs : A.spot = none) (k : Nat) : ∀ (j : Nat) u, ((xs.drop k).map Value.string)[j]? = some u → w.cell? ((⟨A.block, A.off + k, none⟩ : Addr).add j) = some u := fun j u hu => by
  rw [List.getElem?_map] at hu
  obtain ⟨c, hc, rfl⟩ := Option.map_eq_some_iff.1 hu
  rw [List.getElem?_drop] at hc
  rw [add_addA A k j hs]
  rcases h with h | ⟨A', h1, _, h3⟩
  · subst h; simp at hc
  · cases h1; exact h3 _ c hc

set_option maxRecDepth 100000 in
set_option maxHeartbeats 2000000 in
theorem walkLcsSame (ao : Option Addr) (ca : Nat) (xs : List ByteArray) (at' : Int) (w : World) (hA : StrArg w ao ca xs) (hat : (Lit.int .i64 at').wf = true) :
    Calls Try.prog 7 #[.slice ao xs.length ca, .int .i64 at'] w fun e w' => e = .returned (.bool true) ∧ Below w.heap.size w w' := by
  have hinfo : (Try.prog.info? 9).map (fun i => (i.zero, i.size, i.bytes)) = some (some (.string ⟨#[]⟩), 1, 16) := by kernel_rfl
  obtain ⟨i0, hi, hz0, hz1, hz2⟩ := info_parts2 hinfo
  have HIn := Lib.hid hi
  have HA := Lib.hid hA
  have C0 := Lib.hid (lworks_any w)
  clear hA hi hinfo
  go_enter Try.func7, Try.ntmps7
  go_wp2_with fail
  refine C0.out.mono ?_; rintro e W ⟨rfl, b0⟩
  have B := Lib.hid b0
  clear b0 C0
  by_cases h60 : 60 < xs.length
  · go_wp2_with fail
    go_ret
    exact ⟨rfl, B.out⟩
  have C1 := Lib.hid (fun V (h : Below w.heap.size w V) => lcPairs_any ao ao ca ca xs xs V (by omega) (by omega) HA.out.max HA.out.max (HA.out.row.kept h) (HA.out.row.kept h))
  have hLn := way_len 0 0 (bytesOf xs) (bytesOf xs)
  rw [lcs_self, bytes_len] at hLn
  have HSelf := Lib.hid (way_self 0 (bytesOf xs))
  simp only [bytes_len, Nat.zero_add] at HSelf
  generalize wayL 0 0 (bytesOf xs) (bytesOf xs) = L at C1 hLn HSelf
  have HLn := Lib.hid hLn
  rw [show PairsOut L = fun W e w' => PairsOut L W e w' from rfl] at C1
  go_wp2_with fail
  refine (C1.out W B.out).mono ?_; rintro e W1 ⟨lo, lc, rfl, i1, -, -, b1⟩
  have B1 := Lib.hid (below_up B.out b1)
  have I1 := Lib.hid i1
  rw [hLn]
  clear b1 i1 C1 B hLn
  go_wp2_with fail
  go_loopw [7] (fun i wr => ∃ k : Nat, k ≤ xs.length ∧ i = .int .i64 k ∧ Hid (Below W1.heap.size W1 wr)) (fun i _ => xs.length - (intOf i).toNat)
  case atStart => exact ⟨0, Nat.zero_le _, rfl, Lib.hid (Below.refl _ _)⟩
  case round =>
    obtain ⟨k, hk, rfl, HW⟩ := hrel
    by_cases hlt : k < xs.length
    · have hp := HSelf.out k hlt
      obtain ⟨lb, l0, rfl, z1, z2⟩ := pair_at (I1.out.kept HW.out) k _ hp
      dsimp only at z1 z2
      clear hp
      go_wp2_with fail
      go_roundw
      case rel => exact ⟨k + 1, by omega, by go_num, HW⟩
      case measure => simp [intOf]; omega
    · obtain rfl : k = xs.length := by omega
      have BW := Lib.hid (below_up B1.out HW.out)
      clear hlt hk
      by_cases c1 : at' < 0
      · go_wp2_with fail
        go_ret
        exact ⟨rfl, BW.out⟩
      obtain ⟨q, rfl⟩ := Int.eq_ofNat_of_zero_le (show 0 ≤ at' by omega)
      clear c1
      by_cases c2 : xs.length ≤ q
      · go_wp2_with fail
        go_ret
        exact ⟨rfl, BW.out⟩
      have hql : q < xs.length := by omega
      have hcap := HA.out.cap
      obtain ⟨c, hc⟩ : ∃ c, xs[q]? = some c := ⟨_, List.getElem?_eq_getElem hql⟩
      obtain ⟨A, rfl, -⟩ := str_at HA.out.row q c hc
      have HSp := Lib.hid (spot_of HA.out.row (by omega))
      clear hc c2
      have f0 : IntKind.i64.wrap ((q : Int) + 1) = (q : Int) + 1 := IntWalk.i64_in _ (by omega)
      have f1 : (0 : Int) ≤ (q : Int) + 1 := by omega
      have f2 : (q : Int) + 1 ≤ (xs.length : Int) := by omega
      have f3 : (q : Int) + 1 ≤ (ca : Int) := by omega
      have f4 : (0 : Int) ≤ (q : Int) := by omega
      have f5 : (q : Int) ≤ (xs.length : Int) := by omega
      have f6 : (q : Int) ≤ (ca : Int) := by omega
      obtain ⟨z1, hz1'⟩ : ∃ z, xs.length - (q + 1) = z := ⟨_, rfl⟩
      obtain ⟨z2, hz2'⟩ : ∃ z, ca - (q + 1) = z := ⟨_, rfl⟩
      obtain ⟨y, hy⟩ : ∃ y, xs.length - 1 = y := ⟨_, rfl⟩
      have HYe : Hid (q + z1 = y) := Lib.hid (by omega)
      have HMp : Hid ((xs.take q).map Value.string ++ (xs.drop (q + 1)).map Value.string = (xs.take q ++ xs.drop (q + 1)).map Value.string) := Lib.hid (List.map_append).symm
      have HL1 : Hid (((xs.take q).map Value.string).length = q * 1) := Lib.hid (by simp; omega)
      have HL2 : Hid (((xs.drop (q + 1)).map Value.string).length = z1 * 1) := Lib.hid (by simp; omega)
      have HO0 : Hid ((wr.alloc (.cells #[] 9)).drew.ownsRow wr.heap.size 9 1 (.slice (some ⟨wr.heap.size, 0, none⟩) 0 0) 0 []) := Lib.hid (World.ownsRow_made wr #[] 0 (Nat.le_refl _) (Nat.zero_le _) rfl).drew
      have HU0 : Hid (Below wr.heap.size wr (wr.alloc (.cells #[] 9)).drew) := Lib.hid ((Below.refl _ wr).alloc (Nat.le_refl _) _).drew
      have HB0 : Hid (wr.heap.size ≤ (wr.alloc (.cells #[] 9)).drew.heap.size) := Lib.hid HU0.out.size
      have HR := Lib.hid (fun V (h : Below wr.heap.size wr V) => HA.out.row.kept (below_up BW.out h))
      clear hy
      have hyy : (xs.length : Int) - 1 = (y : Int) := by have := HYe.out; omega
      have hwy : IntKind.i64.wrap ((xs.length : Int) - 1) = (y : Int) := by rw [IntWalk.i64_in _ (by omega)]; exact hyy
      have HLl : Hid ((xs.take q ++ xs.drop (q + 1)).length = y) := Lib.hid (by have := HYe.out; simp; omega)
      have HMx : Hid (∀ c ∈ xs.take q ++ xs.drop (q + 1), c.size ≤ maxLen) := Lib.hid (max_app (fun c hc => HA.out.max c (List.mem_of_mem_take hc)) (fun c hc => HA.out.max c (List.mem_of_mem_drop hc)))
      have HLess := Lib.hid (lcs_less (bytesOf xs) q (by rw [bytes_len]; exact hql))
      rw [← bytes_less, bytes_len, show xs.length - 1 = y from by have := HYe.out; omega] at HLess
      have C2 : Hid (∀ jo jc V, Below w.heap.size w V → StrRow V jo (xs.take q ++ xs.drop (q + 1)) → Calls Try.prog 13 #[.slice (some A) xs.length ca, .slice jo y jc] V fun e w' => e = .returned (.int .i64 (y : Int)) ∧ Below V.heap.size V w') := Lib.hid (fun jo jc V h k => by
        have := length_any (some A) jo ca jc xs (xs.take q ++ xs.drop (q + 1)) V (by omega) (by rw [HLl.out]; have := HYe.out; omega) HA.out.max HMx.out (HA.out.row.kept h) k
        rw [HLess.out.1, HLl.out] at this; exact this)
      have C3 : Hid (∀ jo jc V, Below w.heap.size w V → StrRow V jo (xs.take q ++ xs.drop (q + 1)) → Calls Try.prog 13 #[.slice jo y jc, .slice (some A) xs.length ca] V fun e w' => e = .returned (.int .i64 (y : Int)) ∧ Below V.heap.size V w') := Lib.hid (fun jo jc V h k => by
        have := length_any jo (some A) jc ca (xs.take q ++ xs.drop (q + 1)) xs V (by rw [HLl.out]; have := HYe.out; omega) (by omega) HMx.out HA.out.max k (HA.out.row.kept h)
        rw [HLess.out.2, HLl.out] at this; exact this)
      clear HLess HMx hat
      obtain ⟨xo, hxo⟩ : ∃ xo, (if ca = q + 1 then some A else some ⟨A.block, A.off + (q + 1), none⟩) = some xo := by split <;> exact ⟨_, rfl⟩
      have HNw : Hid (∀ V, Below wr.heap.size wr V → ∀ (j : Nat) u, ((xs.drop (q + 1)).map Value.string)[j]? = some u → V.cell? (xo.add j) = some u) := Lib.hid (fun V hV => by
        split at hxo
        · intro j u hu
          rw [List.drop_eq_nil_of_le (by omega)] at hu; simp at hu
        · cases hxo; exact str_drop (HR.out _ hV) HSp.out (q + 1))
      go_upto_region 16 with fail
      go_region_law (first
        | (refine step_append_any (by rfl) _ _ 22 (by rfl) wr.heap.size 9 i0 (.string ⟨#[]⟩) 1 16 Try.underlying22 HIn.out hz0 hz1 hz2 rfl (by decide) (.slice (some ⟨wr.heap.size, 0, none⟩) 0 0) 0 [] (by rfl) HO0.out (some A) q ca ((xs.take q).map Value.string) (by rfl) (fun h => by cases h) HL1.out (fun ad h => by cases h; exact str_take (HR.out _ HU0.out) q) (ones_str _) (by unfold maxLen; omega) (by omega) HB0.out q (Nat.zero_add _) ((xs.take q).map Value.string) rfl ?_; intro ao1 cap1 w1 o1 g1 t1; have HU1 := Lib.hid (HU0.out.trans t1); have HO1 := Lib.hid o1; clear o1 g1 t1)
        | (refine step_append_any (by rfl) _ _ 22 (by rfl) wr.heap.size 9 i0 (.string ⟨#[]⟩) 1 16 Try.underlying22 HIn.out hz0 hz1 hz2 rfl (by decide) (.slice ao1 q cap1) q ((xs.take q).map Value.string) (by rfl) HO1.out (some xo) z1 z2 ((xs.drop (q + 1)).map Value.string) (by rfl) (fun h => by cases h) HL2.out (fun ad h => by cases h; exact HNw.out _ HU1.out) (ones_str _) (by unfold maxLen; omega) (by omega) HU1.out.size y HYe.out ((xs.take q ++ xs.drop (q + 1)).map Value.string) HMp.out ?_; intro ao2 cap2 w2 o2 g2 t2; have HU2 := Lib.hid (HU1.out.trans t2); have HO2 := Lib.hid o2; clear o2 g2 t2))
      have HLs := Lib.hid (own_strs HO2.out)
      have B2 := Lib.hid (below_up BW.out HU2.out)
      go_wp2_with fail
      refine (C2.out ao2 cap2 w2 B2.out HLs.out).mono ?_; rintro e W3 ⟨rfl, b3⟩
      have B3 := Lib.hid (below_up B2.out b3)
      have HLs := Lib.hid (HLs.out.kept b3)
      clear b3
      go_wp2_with fail
      refine (C3.out ao2 cap2 W3 B3.out HLs.out).mono ?_; rintro e W4 ⟨rfl, b4⟩
      have B4 := Lib.hid (below_up B3.out b4)
      clear b4
      go_wp2_with fail
      go_ret
      exact ⟨rfl, B4.out⟩
end Go.Proofs.Ytcdamnnbpifhpaa
