/-
  The walk of the statement LcsTurns.
  Conditions: none beyond the form of claims.
-/
import Derived.WalkKit
import Derived.WalkMore
import Derived.IntWalk
import Derived.OwnWalk
import Derived.Laws.AppendOwn
import Derived.Laws.AppendOwnNone
import Derived.Laws.OwnMore
import Derived.Lib.Hide
import Derived.Test.YtcdamnnbpifhpaaProg
import Derived.Test.YtcdamnnbpifhpaaWLcsCommon
namespace Go.Proofs.Ytcdamnnbpifhpaa
open Go.RowKit Go.Shelf
set_option linter.unusedVariables false

/-- a slice of strings as a source of an append -/
def SrcAt (w : World) (ao : Option Addr) (cap : Nat) (xs : List ByteArray) : Prop := (ao = none → xs.length = 0 ∧ cap = 0) ∧ ∀ ad, ao = some ad → ∀ (j : Nat) u, (xs.map Value.string)[j]? = some u → w.cell? (ad.add j) = some u
theorem src_of {w : World} {ao : Option Addr} {cap : Nat} {xs : List ByteArray} (h : StrRow w ao xs) (hn : ao = none → cap = 0) : SrcAt w ao cap xs := by
  refine ⟨fun e => ⟨?_, hn e⟩, fun ad e j u hu => ?_⟩
  · rcases h with h | ⟨A, h1, _⟩
    · rw [h]; rfl
    · rw [e] at h1; cases h1
  · rw [List.getElem?_map] at hu
    obtain ⟨c, hc, rfl⟩ := Option.map_eq_some_iff.1 hu
    rcases h with h | ⟨A, h1, _, h3⟩
    · subst h; simp at hc
    · rw [e] at h1; cases h1; exact h3 j c hc
theorem own_strs {w : World} {base : Nat} {e : TypeId} {ro : Option Addr} {n cp : Nat} {xs : List ByteArray} (h : w.ownsRow base e 1 (.slice ro n cp) n (xs.map Value.string)) : StrRow w ro xs := by
  rcases h.2 with ⟨hv, h0⟩ | ⟨g, cap, cur, hv, _, hg, _⟩
  · have := h.1; simp at this; exact .inl (List.eq_nil_of_length_eq_zero (by omega))
  · cases hv
    refine .inr ⟨_, rfl, (h.lt g rfl).2, fun i c hc => h.cells rfl i _ (by rw [List.getElem?_map, hc]; rfl)⟩
theorem app_below {W V V' : World} {base : Nat} {e : TypeId} {s : Nat} {v : Value} {n : Nat} {xs : List Value} (hB : Below base W V) (ho : V.ownsRow base e s v n xs) (hg : V.grownBy V' v.ownBlock) (hb : base ≤ V.heap.size) : Below base W V' := hB.grown hg hb (fun j hj => (ho.lt j hj).1)
theorem ones_str (xs : List ByteArray) : ∀ u ∈ xs.map Value.string, u.oneCell' = true := fun u hu => by
  obtain ⟨c, _, rfl⟩ := List.mem_map.1 hu; rfl
theorem bytes_app (xs ys : List ByteArray) : bytesOf (xs ++ ys) = bytesOf xs ++ bytesOf ys := by simp [bytesOf]
theorem max_app {xs ys : List ByteArray} (h : ∀ c ∈ xs, c.size ≤ maxLen) (k : ∀ c ∈ ys, c.size ≤ maxLen) : ∀ c ∈ xs ++ ys, c.size ≤ maxLen := fun c hc => by
  rcases List.mem_append.1 hc with h1 | h1
  · exact h c h1
  · exact k c h1

set_option maxRecDepth 100000 in
set_option maxHeartbeats 8000000 in
theorem walkLcsTurns (ao : Option Addr) (ca : Nat) (xs : List ByteArray) (bo : Option Addr) (cb : Nat) (ys : List ByteArray) (co : Option Addr) (cc : Nat) (zs : List ByteArray) (w : World) (hA : StrArg w ao ca xs) (hB : StrArg w bo cb ys) (hC : StrArg w co cc zs) :
    Calls Try.prog 6 #[.slice ao xs.length ca, .slice bo ys.length cb, .slice co zs.length cc] w fun e w' => e = .returned (.bool true) ∧ Below w.heap.size w w' := by
  have hinfo : (Try.prog.info? 9).map (fun i => (i.zero, i.size, i.bytes)) = some (some (.string ⟨#[]⟩), 1, 16) := by kernel_rfl
  obtain ⟨i0, hi, hz0, hz1, hz2⟩ := info_parts2 hinfo
  have HIn := Lib.hid hi
  have HA := Lib.hid hA
  have HB := Lib.hid hB
  have HC := Lib.hid hC
  have C0 := Lib.hid (lworks_any w)
  have CS := Lib.hid (fun W => small_any ao bo xs.length ys.length ca cb W)
  clear hA hB hC hi hinfo
  go_enter Try.func6, Try.ntmps6
  go_wp2_with fail
  refine C0.out.mono ?_; rintro e W ⟨rfl, b0⟩
  have B := Lib.hid b0
  clear b0 C0
  by_cases hsm : (decide (xs.length ≤ 60) && decide (ys.length ≤ 60)) = true
  · rw [hsm] at CS
    simp only [Bool.and_eq_true, decide_eq_true_eq] at hsm
    obtain ⟨h1, h2⟩ := hsm
    by_cases hl6 : 60 < zs.length
    · go_wp2_with fail
      refine (CS.out W).mono ?_; rintro e W' ⟨rfl, rfl⟩
      go_wp2_with fail
      go_ret
      exact ⟨rfl, B.out⟩
    have S1 := Lib.hid (fun V (h : Below w.heap.size w V) => src_of (HA.out.row.kept h) HA.out.nil)
    have S2 := Lib.hid (fun V (h : Below w.heap.size w V) => src_of (HB.out.row.kept h) HB.out.nil)
    have S3 := Lib.hid (fun V (h : Below w.heap.size w V) => src_of (HC.out.row.kept h) HC.out.nil)
    have C1 := Lib.hid (fun V (h : Below w.heap.size w V) => length_any ao bo ca cb xs ys V (by omega) (by omega) HA.out.max HB.out.max (HA.out.row.kept h) (HB.out.row.kept h))
    have C2 := Lib.hid (fun V (h : Below w.heap.size w V) => length_any bo ao cb ca ys xs V (by omega) (by omega) HB.out.max HA.out.max (HB.out.row.kept h) (HA.out.row.kept h))
    have C3 := Lib.hid (fun jo ko jc kc V (h : StrRow V jo (zs ++ xs)) (k : StrRow V ko (zs ++ ys)) => length_any jo ko jc kc (zs ++ xs) (zs ++ ys) V (by simp; omega) (by simp; omega) (max_app HC.out.max HA.out.max) (max_app HC.out.max HB.out.max) h k)
    have C4 := Lib.hid (fun jo ko jc kc V (h : StrRow V jo (xs ++ zs)) (k : StrRow V ko (ys ++ zs)) => length_any jo ko jc kc (xs ++ zs) (ys ++ zs) V (by simp; omega) (by simp; omega) (max_app HA.out.max HC.out.max) (max_app HB.out.max HC.out.max) h k)
    rw [lcs_symm] at C2
    rw [bytes_app, bytes_app, lcs_front, bytes_len] at C3
    rw [bytes_app, bytes_app, lcs_end, bytes_len] at C4
    simp only [List.length_append, Int.natCast_add] at C3 C4
    have hle := lcs_le (bytesOf xs) (bytesOf ys)
    rw [bytes_len, bytes_len] at hle
    obtain ⟨hle1, hle2⟩ := hle
    generalize lcsN (bytesOf xs) (bytesOf ys) = n at C1 C2 C3 C4 hle1 hle2
    have hwn : IntKind.i64.wrap ((n : Int) + (zs.length : Int)) = (n : Int) + (zs.length : Int) := IntWalk.i64_in _ (by omega)
    go_wp2_with fail
    refine (CS.out W).mono ?_; rintro e W' ⟨rfl, rfl⟩
    clear CS
    go_wp2_with fail
    refine (C1.out W' B.out).mono ?_; rintro e W0 ⟨rfl, b1⟩
    have B := Lib.hid (below_up B.out b1)
    clear b1 C1
    obtain ⟨E0, HE0⟩ : ∃ E0, Hid (E0 = W0.alloc (.cells #[] 9)) := ⟨_, Lib.hid rfl⟩
    have HO0 : Hid (E0.ownsRow W0.heap.size 9 1 (.slice (some ⟨W0.heap.size, 0, none⟩) 0 0) 0 []) := Lib.hid (by rw [HE0.out]; exact World.ownsRow_made W0 #[] 0 (Nat.le_refl _) (Nat.zero_le _) rfl)
    have HU0 : Hid (Below W0.heap.size W0 E0) := Lib.hid (by rw [HE0.out]; exact (Below.refl _ _).alloc (Nat.le_refl _) _)
    have HB0 : Hid (W0.heap.size ≤ E0.heap.size) := Lib.hid HU0.out.size
    have BE := Lib.hid (below_up B.out HU0.out)
    have R0 : Hid ((W0.alloc (.cells #[] 9)) = E0) := Lib.hid HE0.out.symm
    rw [HE0.out] at HO0 BE HU0 HB0
    go_wp2_with (at_builtin; refine wpList_append_any rfl _ _ 22 rfl W0.heap.size 9 i0 (.string ⟨#[]⟩) 1 16 Try.underlying22 HIn.out hz0 hz1 hz2 rfl (by decide) _ _ _ rfl HO0.out co zs.length cc (zs.map Value.string) rfl ?c0 (by simp) ?c1 (ones_str _) ?c3 ?c4 ?c5 ?_)
    case c0 => exact (S3.out _ BE.out).1
    case c1 => exact (S3.out _ BE.out).2
    case c3 => unfold maxLen; omega
    case c4 => omega
    case c5 => exact HB0.out
    intro v1 w1 ho hg
    (try rw [Nat.zero_add, List.nil_append] at ho)
    have HU1 := Lib.hid (app_below HU0.out HO0.out hg HB0.out)
    have HB1 : Hid (W0.heap.size ≤ w1.heap.size) := Lib.hid HU1.out.size
    have BE := Lib.hid (below_up B.out HU1.out)
    obtain ⟨q1, r1, rfl⟩ := own_slice ho
    have HO1 := Lib.hid ho
    clear ho hg HO0 HU0 HB0 HE0 R0
    (try rw [Nat.zero_add])
    go_wp2_with (at_builtin; refine wpList_append_any rfl _ _ 22 rfl W0.heap.size 9 i0 (.string ⟨#[]⟩) 1 16 Try.underlying22 HIn.out hz0 hz1 hz2 rfl (by decide) _ _ _ rfl HO1.out ao xs.length ca (xs.map Value.string) rfl ?c0 (by simp) ?c1 (ones_str _) ?c3 ?c4 ?c5 ?_)
    case c0 => exact (S1.out _ BE.out).1
    case c1 => exact (S1.out _ BE.out).2
    case c3 => unfold maxLen; omega
    case c4 => omega
    case c5 => exact HB1.out
    intro v2 j ho hg
    have HU2 := Lib.hid (app_below HU1.out HO1.out hg HB1.out)
    have B := Lib.hid (below_up B.out HU2.out)
    rw [← List.map_append] at ho
    obtain ⟨jo, jc, rfl⟩ := own_slice ho
    have Hj := Lib.hid (own_strs ho)
    clear ho hg HO1 HU1 HB1 BE
    obtain ⟨E0, HE0⟩ : ∃ E0, Hid (E0 = j.alloc (.cells #[] 9)) := ⟨_, Lib.hid rfl⟩
    have HO0 : Hid (E0.ownsRow j.heap.size 9 1 (.slice (some ⟨j.heap.size, 0, none⟩) 0 0) 0 []) := Lib.hid (by rw [HE0.out]; exact World.ownsRow_made j #[] 0 (Nat.le_refl _) (Nat.zero_le _) rfl)
    have HU0 : Hid (Below j.heap.size j E0) := Lib.hid (by rw [HE0.out]; exact (Below.refl _ _).alloc (Nat.le_refl _) _)
    have HB0 : Hid (j.heap.size ≤ E0.heap.size) := Lib.hid HU0.out.size
    have BE := Lib.hid (below_up B.out HU0.out)
    have R0 : Hid ((j.alloc (.cells #[] 9)) = E0) := Lib.hid HE0.out.symm
    rw [HE0.out] at HO0 BE HU0 HB0
    go_wp2_with (at_builtin; refine wpList_append_any rfl _ _ 22 rfl j.heap.size 9 i0 (.string ⟨#[]⟩) 1 16 Try.underlying22 HIn.out hz0 hz1 hz2 rfl (by decide) _ _ _ rfl HO0.out co zs.length cc (zs.map Value.string) rfl ?c0 (by simp) ?c1 (ones_str _) ?c3 ?c4 ?c5 ?_)
    case c0 => exact (S3.out _ BE.out).1
    case c1 => exact (S3.out _ BE.out).2
    case c3 => unfold maxLen; omega
    case c4 => omega
    case c5 => exact HB0.out
    intro v1 w1 ho hg
    (try rw [Nat.zero_add, List.nil_append] at ho)
    have HU1 := Lib.hid (app_below HU0.out HO0.out hg HB0.out)
    have HB1 : Hid (j.heap.size ≤ w1.heap.size) := Lib.hid HU1.out.size
    have BE := Lib.hid (below_up B.out HU1.out)
    obtain ⟨q1, r1, rfl⟩ := own_slice ho
    have HO1 := Lib.hid ho
    clear ho hg HO0 HU0 HB0 HE0 R0
    (try rw [Nat.zero_add])
    go_wp2_with (at_builtin; refine wpList_append_any rfl _ _ 22 rfl j.heap.size 9 i0 (.string ⟨#[]⟩) 1 16 Try.underlying22 HIn.out hz0 hz1 hz2 rfl (by decide) _ _ _ rfl HO1.out bo ys.length cb (ys.map Value.string) rfl ?c0 (by simp) ?c1 (ones_str _) ?c3 ?c4 ?c5 ?_)
    case c0 => exact (S2.out _ BE.out).1
    case c1 => exact (S2.out _ BE.out).2
    case c3 => unfold maxLen; omega
    case c4 => omega
    case c5 => exact HB1.out
    intro v2 k ho hg
    have HU2 := Lib.hid (app_below HU1.out HO1.out hg HB1.out)
    have B := Lib.hid (below_up B.out HU2.out)
    rw [← List.map_append] at ho
    obtain ⟨ko, kc, rfl⟩ := own_slice ho
    have Hk := Lib.hid (own_strs ho)
    clear ho hg HO1 HU1 HB1 BE
    have Hj := Lib.hid (Hj.out.kept HU2.out)
    clear HU2
    go_wp2_with fail
    refine (C3.out jo ko jc kc k Hj.out Hk.out).mono ?_; rintro e W1 ⟨rfl, b1⟩
    have B := Lib.hid (below_up B.out b1)
    clear b1 Hj Hk C3
    obtain ⟨E0, HE0⟩ : ∃ E0, Hid (E0 = W1.alloc (.cells #[] 9)) := ⟨_, Lib.hid rfl⟩
    have HO0 : Hid (E0.ownsRow W1.heap.size 9 1 (.slice (some ⟨W1.heap.size, 0, none⟩) 0 0) 0 []) := Lib.hid (by rw [HE0.out]; exact World.ownsRow_made W1 #[] 0 (Nat.le_refl _) (Nat.zero_le _) rfl)
    have HU0 : Hid (Below W1.heap.size W1 E0) := Lib.hid (by rw [HE0.out]; exact (Below.refl _ _).alloc (Nat.le_refl _) _)
    have HB0 : Hid (W1.heap.size ≤ E0.heap.size) := Lib.hid HU0.out.size
    have BE := Lib.hid (below_up B.out HU0.out)
    have R0 : Hid ((W1.alloc (.cells #[] 9)) = E0) := Lib.hid HE0.out.symm
    rw [HE0.out] at HO0 BE HU0 HB0
    go_wp2_with (at_builtin; refine wpList_append_any rfl _ _ 22 rfl W1.heap.size 9 i0 (.string ⟨#[]⟩) 1 16 Try.underlying22 HIn.out hz0 hz1 hz2 rfl (by decide) _ _ _ rfl HO0.out ao xs.length ca (xs.map Value.string) rfl ?c0 (by simp) ?c1 (ones_str _) ?c3 ?c4 ?c5 ?_)
    case c0 => exact (S1.out _ BE.out).1
    case c1 => exact (S1.out _ BE.out).2
    case c3 => unfold maxLen; omega
    case c4 => omega
    case c5 => exact HB0.out
    intro v1 w1 ho hg
    (try rw [Nat.zero_add, List.nil_append] at ho)
    have HU1 := Lib.hid (app_below HU0.out HO0.out hg HB0.out)
    have HB1 : Hid (W1.heap.size ≤ w1.heap.size) := Lib.hid HU1.out.size
    have BE := Lib.hid (below_up B.out HU1.out)
    obtain ⟨q1, r1, rfl⟩ := own_slice ho
    have HO1 := Lib.hid ho
    clear ho hg HO0 HU0 HB0 HE0 R0
    (try rw [Nat.zero_add])
    go_wp2_with (at_builtin; refine wpList_append_any rfl _ _ 22 rfl W1.heap.size 9 i0 (.string ⟨#[]⟩) 1 16 Try.underlying22 HIn.out hz0 hz1 hz2 rfl (by decide) _ _ _ rfl HO1.out co zs.length cc (zs.map Value.string) rfl ?c0 (by simp) ?c1 (ones_str _) ?c3 ?c4 ?c5 ?_)
    case c0 => exact (S3.out _ BE.out).1
    case c1 => exact (S3.out _ BE.out).2
    case c3 => unfold maxLen; omega
    case c4 => omega
    case c5 => exact HB1.out
    intro v2 l ho hg
    have HU2 := Lib.hid (app_below HU1.out HO1.out hg HB1.out)
    have B := Lib.hid (below_up B.out HU2.out)
    rw [← List.map_append] at ho
    obtain ⟨lo, lc, rfl⟩ := own_slice ho
    have Hl := Lib.hid (own_strs ho)
    clear ho hg HO1 HU1 HB1 BE
    obtain ⟨E0, HE0⟩ : ∃ E0, Hid (E0 = l.alloc (.cells #[] 9)) := ⟨_, Lib.hid rfl⟩
    have HO0 : Hid (E0.ownsRow l.heap.size 9 1 (.slice (some ⟨l.heap.size, 0, none⟩) 0 0) 0 []) := Lib.hid (by rw [HE0.out]; exact World.ownsRow_made l #[] 0 (Nat.le_refl _) (Nat.zero_le _) rfl)
    have HU0 : Hid (Below l.heap.size l E0) := Lib.hid (by rw [HE0.out]; exact (Below.refl _ _).alloc (Nat.le_refl _) _)
    have HB0 : Hid (l.heap.size ≤ E0.heap.size) := Lib.hid HU0.out.size
    have BE := Lib.hid (below_up B.out HU0.out)
    have R0 : Hid ((l.alloc (.cells #[] 9)) = E0) := Lib.hid HE0.out.symm
    rw [HE0.out] at HO0 BE HU0 HB0
    go_wp2_with (at_builtin; refine wpList_append_any rfl _ _ 22 rfl l.heap.size 9 i0 (.string ⟨#[]⟩) 1 16 Try.underlying22 HIn.out hz0 hz1 hz2 rfl (by decide) _ _ _ rfl HO0.out bo ys.length cb (ys.map Value.string) rfl ?c0 (by simp) ?c1 (ones_str _) ?c3 ?c4 ?c5 ?_)
    case c0 => exact (S2.out _ BE.out).1
    case c1 => exact (S2.out _ BE.out).2
    case c3 => unfold maxLen; omega
    case c4 => omega
    case c5 => exact HB0.out
    intro v1 w1 ho hg
    (try rw [Nat.zero_add, List.nil_append] at ho)
    have HU1 := Lib.hid (app_below HU0.out HO0.out hg HB0.out)
    have HB1 : Hid (l.heap.size ≤ w1.heap.size) := Lib.hid HU1.out.size
    have BE := Lib.hid (below_up B.out HU1.out)
    obtain ⟨q1, r1, rfl⟩ := own_slice ho
    have HO1 := Lib.hid ho
    clear ho hg HO0 HU0 HB0 HE0 R0
    (try rw [Nat.zero_add])
    go_wp2_with (at_builtin; refine wpList_append_any rfl _ _ 22 rfl l.heap.size 9 i0 (.string ⟨#[]⟩) 1 16 Try.underlying22 HIn.out hz0 hz1 hz2 rfl (by decide) _ _ _ rfl HO1.out co zs.length cc (zs.map Value.string) rfl ?c0 (by simp) ?c1 (ones_str _) ?c3 ?c4 ?c5 ?_)
    case c0 => exact (S3.out _ BE.out).1
    case c1 => exact (S3.out _ BE.out).2
    case c3 => unfold maxLen; omega
    case c4 => omega
    case c5 => exact HB1.out
    intro v2 m ho hg
    have HU2 := Lib.hid (app_below HU1.out HO1.out hg HB1.out)
    have B := Lib.hid (below_up B.out HU2.out)
    rw [← List.map_append] at ho
    obtain ⟨mo, mc, rfl⟩ := own_slice ho
    have Hm := Lib.hid (own_strs ho)
    clear ho hg HO1 HU1 HB1 BE
    have Hl := Lib.hid (Hl.out.kept HU2.out)
    clear HU2
    go_wp2_with fail
    refine (C4.out lo mo lc mc m Hl.out Hm.out).mono ?_; rintro e W2 ⟨rfl, b1⟩
    have B := Lib.hid (below_up B.out b1)
    clear b1 Hl Hm C4
    by_cases hyx : ys.length < xs.length
    · go_wp2_with fail
      refine (C2.out W2 B.out).mono ?_; rintro e W3 ⟨rfl, b1⟩
      have B := Lib.hid (below_up B.out b1)
      clear b1
      go_wp2_with fail
      go_ret
      exact ⟨rfl, B.out⟩
    · go_wp2_with fail
      refine (C2.out W2 B.out).mono ?_; rintro e W3 ⟨rfl, b1⟩
      have B := Lib.hid (below_up B.out b1)
      clear b1
      go_wp2_with fail
      go_ret
      exact ⟨rfl, B.out⟩
  · have hsm' : (decide (xs.length ≤ 60) && decide (ys.length ≤ 60)) = false := by simpa using hsm
    rw [hsm'] at CS
    clear hsm hsm'
    go_wp2_with fail
    refine (CS.out W).mono ?_; rintro e W' ⟨rfl, rfl⟩
    go_wp2_with fail
    go_ret
    exact ⟨rfl, B.out⟩
end Go.Proofs.Ytcdamnnbpifhpaa
