/-
  Texts of these rows' proofs, laid one behind the other: RwTexts, RwUnlike.
  Conditions: those of each theorem.
-/
import Derived.Deep.OwnRows
import Derived.WalkKit
import Derived.WalkMore
import Derived.IntWalk
import Derived.WalkArith
import Derived.OwnWalk
import Derived.Lib.Hide
import Derived.Laws.OwnMore
import Derived.Deep.Cut
import Derived.Test.YtdenehnneloegaaGreatDoorProg
import Derived.Test.YtdenehnneloegaaGreatDoorPb27
import Derived.Test.YtdenehnneloegaaGreatDoorPb42
namespace Go.Proofs.YtdenehnneloegaaGreatDoor
open Go.RowKit Go.Shelf
set_option linter.unusedVariables false
def madeT (vs : List Value) (n : Nat) : List Value := vs ++ List.replicate (n - vs.length) (.string ⟨#[]⟩)
theorem madeT_next (vs : List Value) (n : Nat) (v : Value) (h : vs.length < n) : (madeT vs n).set vs.length v = madeT (vs ++ [v]) n := by
  unfold madeT
  rw [List.set_append_right _ _ (Nat.le_refl _), Nat.sub_self, List.length_append]
  obtain ⟨m, hm⟩ : ∃ m, n - vs.length = m + 1 := ⟨n - vs.length - 1, by omega⟩
  rw [hm, show n - (vs.length + [v].length) = m from by simp; omega, List.replicate_succ]
  simp
theorem madeT_len (vs : List Value) (n : Nat) (h : vs.length ≤ n) : (madeT vs n).length = n := by unfold madeT; simp; omega
theorem madeT_all (vs : List Value) (n : Nat) (h : vs.length = n) : madeT vs n = vs := by unfold madeT; subst h; simp
theorem madeT_zero (n : Nat) : madeT [] n = List.replicate n (.string ⟨#[]⟩) := by simp [madeT]
/-- a row's text, as Go has it -/
def textB (ps : PtL) : ByteArray := ⟨(textP ps).toArray⟩
/-- parts that may be in a row -/
def okPs (l : List PtL) : Prop := ∀ ps ∈ l, ps.length ≤ 100 ∧ ∀ p ∈ ps, 0 ≤ p.1 ∧ p.1.toNat < 100 ∧ p.2.size ≤ 100000
set_option maxRecDepth 100000 in
set_option maxHeartbeats 1000000 in
theorem texts_any (ko : Option Addr) (kc : Nat) (l : List PtL) (w : World) (hok : okPs l) (hL : LookAt w ko l) (hn : l.length ≤ 1024) :
    Calls Tryz.prog 41 #[.int .i64 (l.length : Int), .func (.func 42) #[.slice ko l.length kc] #[]] w fun e w' => ∃ xo, e = .returned (.slice xo l.length l.length) ∧ StrRow w' xo (l.map textB) ∧ Below w.heap.size w w' := by
  have hinfo : (Tryz.prog.info? 9).map (fun i => (i.zero, i.size, i.bytes)) = some (some (.string ⟨#[]⟩), 1, 16) := by kernel_rfl
  obtain ⟨i0, hi, hz0, hz1, hz2⟩ := info_parts2 hinfo
  have HI := Lib.hid hi
  have hm : l.length ≤ maxLen := by unfold maxLen; omega
  have CT : Hid (∀ (k : Nat) ps V, l[k]? = some ps → Below w.heap.size w V → Calls Tryz.prog 42 #[.slice ko l.length kc, .int .i64 (k : Int)] V fun e w' => e = .returned (.string (textB ps)) ∧ Below V.heap.size V w') :=
    Lib.hid (fun k ps V hk h => text_any ko kc l k ps V hk (hok ps (List.mem_of_getElem? hk)).1 (hok ps (List.mem_of_getElem? hk)).2 (hL.kept h) (by omega))
  clear hi hinfo hok hL
  go_enter Tryz.func41, Tryz.ntmps41
  go_wp2_with (at_make; refine wpList_make_full _ rfl _ _ 22 rfl w.heap.size 9 i0 (.string ⟨#[]⟩) 1 Tryz.underlying22 HI.out hz0 hz1 .i64 .i64 (l.length : Int) (l.length : Int) l.length rfl rfl rfl rfl (by rw [hz2]; omega) hm (Nat.le_refl _) ?_; intro w2 hown hgrow)
  have HB2 : Hid (Below w.heap.size w w2) := Lib.hid ((Below.refl _ w).grown hgrow (Nat.le_refl _) (fun k h => by cases h))
  have HO : Hid (w2.ownsRow w.heap.size 9 1 (.slice (some ⟨w.heap.size, 0, none⟩) l.length l.length) l.length (madeT [] l.length)) := Lib.hid (by
    rw [madeT_zero]; rw [Nat.mul_one] at hown; rw [← toList_madeCells_one]; exact hown)
  obtain ⟨g, hg⟩ : ∃ g, g = w.heap.size := ⟨_, rfl⟩
  rw [← hg] at HO ⊢
  have HG := Lib.hid hg
  clear hown hgrow hg
  go_wp2_with fail
  go_loopw [11] (fun i wr => ∃ (k : Nat) (vs : List Value), k ≤ l.length ∧ i = .int .i64 k ∧ Hid (vs.length = k) ∧ Hid (Below w.heap.size w wr) ∧ Hid (wr.ownsRow g 9 1 (.slice (some ⟨g, 0, none⟩) l.length l.length) l.length (madeT vs l.length)) ∧ Hid (∀ (i : Nat) v ps, vs[i]? = some v → l[i]? = some ps → v = .string (textB ps))) (fun i _ => l.length - (intOf i).toNat)
  case atStart => exact ⟨0, [], Nat.zero_le _, rfl, Lib.hid rfl, HB2, HO, Lib.hid (fun i v c h => by simp at h)⟩
  case round =>
    obtain ⟨k, vs, hk, rfl, HVl, HB, HO, HP⟩ := hrel
    by_cases hlt : k < l.length
    · obtain ⟨ps, hps⟩ : ∃ c, l[k]? = some c := ⟨_, List.getElem?_eq_getElem hlt⟩
      have C1 := Lib.hid (CT.out k ps wr hps HB.out)
      have HPs := Lib.hid hps
      obtain ⟨t, ht⟩ : ∃ t, t = textB ps := ⟨_, rfl⟩
      rw [← ht] at C1
      clear hps
      go_wp2_with fail
      refine C1.out.mono ?_; rintro e w3 ⟨rfl, b3⟩
      have HB3 := Lib.hid (below_up HB.out b3)
      have HO3 := Lib.hid (ownsRow_below HO.out b3)
      clear b3 C1
      have hml : (madeT vs l.length).length = l.length := madeT_len vs _ (by rw [HVl.out]; omega)
      have hcell : w3.cell? ⟨g, k, none⟩ = some ((madeT vs l.length)[k]'(by omega)) := by
        rw [HO3.out.cellAt k (by omega), List.getElem?_eq_getElem]
      have hfr : w3.frozen? ⟨g, k, none⟩ = false := HO3.out.frozenAt k
      generalize (madeT vs l.length)[k]'(by omega) = old at hcell
      obtain ⟨v, hv⟩ : ∃ v, v = Value.string t := ⟨_, rfl⟩
      have HO4 := Lib.hid (HO3.out.stored k v).1
      rw [show (madeT vs l.length).set k v = madeT (vs ++ [v]) l.length from by have := madeT_next vs l.length v (by rw [HVl.out]; omega); rwa [HVl.out] at this] at HO4
      have HB4 := Lib.hid (HB3.out.setCell (p := ⟨g, k, none⟩) (by rw [HG.out]; exact Nat.le_refl _) v)
      have HP4 : Hid (∀ (i : Nat) u c, (vs ++ [v])[i]? = some u → l[i]? = some c → u = .string (textB c)) := Lib.hid (fun i u c' h1 h2 => by
        rw [List.getElem?_append] at h1
        split at h1
        · exact HP.out i u c' h1 h2
        · rename_i hge
          have hle : i < (vs ++ [v]).length := by
            have := (List.getElem?_eq_some_iff.1 h1).1
            simp at this ⊢; omega
          have hik : i = k := by rw [HVl.out] at hge; simp at hle; rw [HVl.out] at hle; omega
          subst hik
          rw [HVl.out, Nat.sub_self] at h1
          simp at h1; subst h1
          rw [HPs.out] at h2; cases h2
          rw [hv, ht])
      have HVl4 : Hid ((vs ++ [v]).length = k + 1) := Lib.hid (by simp [HVl.out])
      subst hv
      clear hml HP HO HO3 HB HB3 HVl ht
      go_wp2_with fail
      go_roundw
      case rel => exact ⟨k + 1, _, by omega, by go_num, HVl4, HB4, HO4, HP4⟩
      case measure => simp [intOf]; omega
    · obtain rfl : k = l.length := by omega
      have HE : Hid (StrRow wr (some ⟨g, 0, none⟩) (l.map textB)) := Lib.hid (by
        refine .inr ⟨⟨g, 0, none⟩, rfl, (HO.out.lt g rfl).2, fun i L hL => ?_⟩
        have hi : i < l.length := by have := (List.getElem?_eq_some_iff.1 hL).1; simpa using this
        rw [List.getElem?_map] at hL
        obtain ⟨c, hc, rfl⟩ := Option.map_eq_some_iff.1 hL
        obtain ⟨v, hv⟩ : ∃ v, vs[i]? = some v := ⟨_, List.getElem?_eq_getElem (by rw [HVl.out]; exact hi)⟩
        have e2 := HP.out i v c hv hc
        have e : (⟨g, 0, none⟩ : Addr).add i = ⟨g, i, none⟩ := by unfold Addr.add; split <;> simp_all
        rw [e, HO.out.cellAt i (by rw [Nat.mul_one]; exact hi), madeT_all vs _ HVl.out, hv, e2])
      clear HO HP
      go_wp2_with fail
      go_ret
      exact ⟨_, rfl, HE.out, HB.out⟩
end Go.Proofs.YtdenehnneloegaaGreatDoor
namespace Go.Proofs.YtdenehnneloegaaGreatDoor
open Go.RowKit Go.Shelf
set_option linter.unusedVariables false
def neqP (p q : Int × ByteArray) : Bool := decide (p ≠ q)
set_option maxRecDepth 100000 in
theorem neq_part (a b : Int) (s t : ByteArray) (W : World) : (binOp .neq 129 (.agg #[.int .i64 a, .string s]) (.agg #[.int .i64 b, .string t])).run Tryz.prog W = .ok (.bool (neqP (a, s) (b, t))) W := by
  unfold neqP
  have u3 := Tryz.underlying3
  have a3' := Tryz.isAgg3
  have z3 := Tryz.sizeOf3
  have u9 := Tryz.underlying9
  have a9' := Tryz.isAgg9
  have z9 := Tryz.sizeOf9
  have hS : Tryz.prog.underlying 129 = some (.struct (Tryz.prog.fieldsOf 129)) := by kernel_rfl
  have hp : Tryz.prog.stoodInHeld 129 = false := by kernel_rfl
  rw [run_neq_struct, show (10000 : Nat) = 9999 + 1 from rfl, run_equalIn_agg W 9999 129 _ _ hS hp]
  simp only [Program.fieldsOf, Tryz.underlying129]
  go_simp
  have e : (s.toList = t.toList) ↔ s = t := ⟨fun h => by
    rw [ba_toList, ba_toList] at h
    have h4 : s.data = t.data := Array.ext' h
    cases s; cases t; simpa using h4, fun h => by rw [h]⟩
  by_cases h1 : a = b <;> by_cases h2 : s = t <;> simp [h1, h2, e]
def lenV : Value → Nat
  | .slice _ n _ => n
  | _ => 0
theorem unlike_next {p q : Int × ByteArray} {x y : PtL} {n U : Nat} (h : n + unlikeP (p :: x) (q :: y) = U) : n + (if p = q then 0 else 1) + (if p.1 < q.1 then unlikeP x (q :: y) else if q.1 < p.1 then unlikeP (p :: x) y else unlikeP x y) = U := by
  rw [unlike_le] at h; omega
set_option maxRecDepth 100000 in
set_option maxHeartbeats 4000000 in
theorem unlike_any (xo yo : Option Addr) (xc yc : Nat) (X Y : PtL) (w : World) (hX : X.length ≤ 1048576) (hY : Y.length ≤ 1048576) (hcx : X.length ≤ xc) (hcy : Y.length ≤ yc) (hx : PtsAt w xo X) (hy : PtsAt w yo Y) :
    Calls Tryz.prog 98 #[.slice xo X.length xc, .slice yo Y.length yc] w fun e w' => e = .returned (.int .i64 (unlikeP X Y : Nat)) ∧ Below w.heap.size w w' := by
  have hne := fun a b s t W => neq_part a b s t W
  have HX := Lib.hid hx
  have HY := Lib.hid hy
  have HUl : Hid (unlikeP X Y ≤ 2097152) := Lib.hid (by have := unlike_up X Y; omega)
  obtain ⟨U, hUe⟩ : ∃ U, U = unlikeP X Y := ⟨_, rfl⟩
  rw [← hUe] at HUl ⊢
  have HU : Hid (0 + unlikeP X Y = U) := Lib.hid (by omega)
  clear hx hy hUe
  go_enter Tryz.func98, Tryz.ntmps98
  go_wp2_with fail
  go_loopw [0, 1, 5] (fun u v i wr => ∃ (A B : PtL) (ao bo : Option Addr) (ac bc n : Nat), u = .slice ao A.length ac ∧ v = .slice bo B.length bc ∧ i = .int .i64 (n : Nat) ∧ A.length ≤ ac ∧ B.length ≤ bc ∧ Hid (n + unlikeP A B = U) ∧ Hid (PtsAt wr ao A) ∧ Hid (PtsAt wr bo B) ∧ Hid (Below w.heap.size w wr)) (fun u v _ _ => lenV u + lenV v)
  case atStart => exact ⟨X, Y, xo, yo, xc, yc, 0, rfl, rfl, rfl, hcx, hcy, HU, HX, HY, Lib.hid (Below.refl _ _)⟩
  case round =>
    obtain ⟨A, B, ao, bo, ac, bc, n, rfl, rfl, rfl, hca, hcb, HN, HA, HB, HBel⟩ := hrel
    clear HX HY HU
    cases A with
    | nil =>
      have HE : Hid (n + B.length = U) := Lib.hid (by have := HN.out; rwa [unlike_nil] at this)
      have hn : n ≤ 2097152 := by have := HE.out; have := HUl.out; omega
      have hb : B.length ≤ 2097152 := by have := HE.out; have := HUl.out; omega
      have hw1 : IntKind.i64.wrap ((n : Int) + 0) = (n : Int) := IntWalk.i64_in _ (by omega)
      have hw0 : IntKind.i64.wrap (n : Int) = (n : Int) := IntWalk.i64_in _ (by omega)
      have hw2 : IntKind.i64.wrap ((n : Int) + (B.length : Int)) = (n : Int) + (B.length : Int) := IntWalk.i64_in _ (by omega)
      clear HN
      go_wp2_with fail
      go_ret
      exact ⟨by rw [← HE.out]; simp, HBel.out⟩
    | cons p A =>
      cases B with
      | nil =>
        have HE : Hid (n + (A.length + 1) = U) := Lib.hid (by have := HN.out; rwa [unlike_nil2] at this)
        have hn : n ≤ 2097152 := by have := HE.out; have := HUl.out; omega
        have hb : A.length + 1 ≤ 2097152 := by have := HE.out; have := HUl.out; omega
        have hw1 : IntKind.i64.wrap ((n : Int) + ((A.length : Int) + 1)) = (n : Int) + ((A.length : Int) + 1) := IntWalk.i64_in _ (by omega)
        have hw2 : IntKind.i64.wrap ((n : Int) + ((A.length : Int) + 1) + 0) = (n : Int) + ((A.length : Int) + 1) := IntWalk.i64_in _ (by omega)
        have hw3 : decide (0 < (A.length : Int) + 1) = true := decide_eq_true (by omega)
        clear HN
        go_wp2_with fail
        go_ret
        exact ⟨by rw [← HE.out]; simp, HBel.out⟩
      | cons q B =>
        obtain ⟨a, s⟩ := p
        obtain ⟨b, t⟩ := q
        have HNx := Lib.hid (unlike_next HN.out)
        obtain ⟨ab, ai, rfl, hab, ca0, ca1⟩ := HA.out.first
        obtain ⟨bb, bi, rfl, hbb, cb0, cb1⟩ := HB.out.first
        have HAt := Lib.hid HA.out.tail
        have HBt := Lib.hid HB.out.tail
        have hw3 : decide (0 < (A.length : Int) + 1) = true := decide_eq_true (by omega)
        have hw4 : decide (0 < (B.length : Int) + 1) = true := decide_eq_true (by omega)
        dsimp only at ca0 ca1 cb0 cb1 HNx
        go_upto_region 3 with fail
        go_cut [6, 7] from 16 to 21 (fun u v wc => Hid (∃ P Q : Nat, u = .pointer (some ⟨P, 0, none⟩) ∧ v = .pointer (some ⟨Q, 0, none⟩) ∧ wc.heap[P]? = some (.cells #[.int .i64 a, .string s] 129 (0, 0)) ∧ wc.heap[Q]? = some (.cells #[.int .i64 b, .string t] 129 (0, 0))) ∧ Hid (Below wr.heap.size wr wc))
        case first =>
          have hn1 : wr.heap.size ≠ ab := by omega
          have hn2 : wr.heap.size ≠ bb := by omega
          have hn3 : wr.heap.size + 1 ≠ ab := by omega
          have hn4 : wr.heap.size + 1 ≠ bb := by omega
          go_region
          all_goals
            go_wp2_with fail
            go_meet
            first
              | exact ⟨Lib.hid ⟨_, _, rfl, rfl, (two_new wr _ _).2.1, (two_new wr _ _).2.2⟩, Lib.hid (two_below _ _ _).drew⟩
              | exact ⟨Lib.hid ⟨_, _, rfl, rfl, (two_new wr _ _).2.2, (two_new wr _ _).2.1⟩, Lib.hid (two_below _ _ _).drew⟩
        case rest =>
          obtain ⟨HJ, B7⟩ := hcut
          rename World => w7
          obtain ⟨P, Q, rfl, rfl, hp, hq⟩ := HJ.out
          have HB7 := Lib.hid (below_up HBel.out B7.out)
          have HA7 := Lib.hid (HA.out.kept B7.out)
          have HB7' := Lib.hid (HB.out.kept B7.out)
          have HAt7 := Lib.hid (HAt.out.kept B7.out)
          have HBt7 := Lib.hid (HBt.out.kept B7.out)
          have p0 : w7.cell? ⟨P, 0, none⟩ = some (.int .i64 a) := (Lib.cell_of_heap hp 0).trans rfl
          have p1 : w7.cell? ⟨P, 1, none⟩ = some (.string s) := (Lib.cell_of_heap hp 1).trans rfl
          have q0 : w7.cell? ⟨Q, 0, none⟩ = some (.int .i64 b) := (Lib.cell_of_heap hq 0).trans rfl
          have q1 : w7.cell? ⟨Q, 1, none⟩ = some (.string t) := (Lib.cell_of_heap hq 1).trans rfl
          have hn : n ≤ 2097152 := by have := HN.out; have := HUl.out; omega
          have hwn : IntKind.i64.wrap ((n : Int) + 1) = ((n + 1 : Nat) : Int) := by rw [IntWalk.i64_in _ (by omega)]; omega
          have s1 : (0 : Int) ≤ (A.length : Int) + 1 := by omega
          have s2 : (1 : Int) ≤ (A.length : Int) + 1 := by omega
          have s3 : (A.length : Int) + 1 ≤ (ac : Int) := by simp at hca; omega
          have r1 : (0 : Int) ≤ (B.length : Int) + 1 := by omega
          have r2 : (1 : Int) ≤ (B.length : Int) + 1 := by omega
          have r3 : (B.length : Int) + 1 ≤ (bc : Int) := by simp at hcb; omega
          obtain ⟨m, hm⟩ : ∃ m : Nat, m = n + (if (a, s) = (b, t) then 0 else 1) := ⟨_, rfl⟩
          rw [← hm] at HNx
          have HM := Lib.hid hm
          clear HJ B7 hp hq HN HA HB HAt HBt HBel ca0 ca1 cb0 cb1 hm hab hbb
          by_cases he : (a, s) = (b, t)
          · have hbe : neqP (a, s) (b, t) = false := decide_eq_false (fun h => h he)
            obtain rfl : m = n := by rw [HM.out, if_pos he]; rfl
            clear HM
            have hlt : ¬ a < b := by have := (Prod.mk.inj he).1; omega
            have hgt : ¬ b < a := by have := (Prod.mk.inj he).1; omega
            have l1 : a ≤ b := by omega
            have l2 : b ≤ a := by omega
            have HR : Hid (m + unlikeP A B = U) := Lib.hid (by have := HNx.out; rwa [if_neg hlt, if_neg hgt] at this)
            clear HNx he
            by_cases hc : ac = 1
            · by_cases hd : bc = 1
              · skip
                have hz : A = [] := List.eq_nil_of_length_eq_zero (by omega)
                subst hz
                have hz2 : B = [] := List.eq_nil_of_length_eq_zero (by omega)
                subst hz2
                subst hc
                subst hd
                go_wp2_with fail
                go_roundw
                case rel => exact ⟨[], [], _, _, _, _, m, rfl, rfl, by go_num, by first | omega | (simp; omega) | simp, by first | omega | (simp; omega) | simp, HR, Lib.hid (.inl rfl), Lib.hid (.inl rfl), HB7⟩
                case measure => simp [lenV] <;> omega
              · skip
                have hz : A = [] := List.eq_nil_of_length_eq_zero (by omega)
                subst hz
                subst hc
                go_wp2_with fail
                go_roundw
                case rel => exact ⟨[], B, _, _, _, _, m, rfl, rfl, by go_num, by first | omega | (simp; omega) | simp, by first | omega | (simp; omega) | simp, HR, Lib.hid (.inl rfl), HBt7, HB7⟩
                case measure => simp [lenV] <;> omega
            · by_cases hd : bc = 1
              · skip
                have hz2 : B = [] := List.eq_nil_of_length_eq_zero (by omega)
                subst hz2
                subst hd
                go_wp2_with fail
                go_roundw
                case rel => exact ⟨A, [], _, _, _, _, m, rfl, rfl, by go_num, by first | omega | (simp; omega) | simp, by first | omega | (simp; omega) | simp, HR, HAt7, Lib.hid (.inl rfl), HB7⟩
                case measure => simp [lenV] <;> omega
              · skip
                go_wp2_with fail
                go_roundw
                case rel => exact ⟨A, B, _, _, _, _, m, rfl, rfl, by go_num, by first | omega | (simp; omega) | simp, by first | omega | (simp; omega) | simp, HR, HAt7, HBt7, HB7⟩
                case measure => simp [lenV] <;> omega
          · have hbe : neqP (a, s) (b, t) = true := decide_eq_true he
            obtain rfl : m = n + 1 := by rw [HM.out, if_neg he]
            clear HM
            by_cases hlt : a < b
            · have l1 : a ≤ b := by omega
              have l2 : ¬ b ≤ a := by omega
              have HR : Hid (n + 1 + unlikeP A ((b, t) :: B) = U) := Lib.hid (by have := HNx.out; rwa [if_pos hlt] at this)
              clear HNx he
              by_cases hc : ac = 1
              · skip
                have hz : A = [] := List.eq_nil_of_length_eq_zero (by omega)
                subst hz
                subst hc
                go_wp2_with fail
                go_roundw
                case rel => exact ⟨[], ((b, t) :: B), _, _, _, _, (n + 1), rfl, rfl, by go_num, by first | omega | (simp; omega) | simp, by first | omega | (simp; omega) | simp, HR, Lib.hid (.inl rfl), HB7', HB7⟩
                case measure => simp [lenV] <;> omega
              · skip
                go_wp2_with fail
                go_roundw
                case rel => exact ⟨A, ((b, t) :: B), _, _, _, _, (n + 1), rfl, rfl, by go_num, by first | omega | (simp; omega) | simp, by first | omega | (simp; omega) | simp, HR, HAt7, HB7', HB7⟩
                case measure => simp [lenV] <;> omega
            · by_cases hgt : b < a
              · have l1 : ¬ a ≤ b := by omega
                have l2 : b ≤ a := by omega
                have HR : Hid (n + 1 + unlikeP ((a, s) :: A) B = U) := Lib.hid (by have := HNx.out; rwa [if_neg hlt, if_pos hgt] at this)
                clear HNx he
                by_cases hd : bc = 1
                · skip
                  have hz2 : B = [] := List.eq_nil_of_length_eq_zero (by omega)
                  subst hz2
                  subst hd
                  go_wp2_with fail
                  go_roundw
                  case rel => exact ⟨((a, s) :: A), [], _, _, _, _, (n + 1), rfl, rfl, by go_num, by first | omega | (simp; omega) | simp, by first | omega | (simp; omega) | simp, HR, HA7, Lib.hid (.inl rfl), HB7⟩
                  case measure => simp [lenV] <;> omega
                · skip
                  go_wp2_with fail
                  go_roundw
                  case rel => exact ⟨((a, s) :: A), B, _, _, _, _, (n + 1), rfl, rfl, by go_num, by first | omega | (simp; omega) | simp, by first | omega | (simp; omega) | simp, HR, HA7, HBt7, HB7⟩
                  case measure => simp [lenV] <;> omega
              · have l1 : a ≤ b := by omega
                have l2 : b ≤ a := by omega
                have HR : Hid (n + 1 + unlikeP A B = U) := Lib.hid (by have := HNx.out; rwa [if_neg hlt, if_neg hgt] at this)
                clear HNx he
                by_cases hc : ac = 1
                · by_cases hd : bc = 1
                  · skip
                    have hz : A = [] := List.eq_nil_of_length_eq_zero (by omega)
                    subst hz
                    have hz2 : B = [] := List.eq_nil_of_length_eq_zero (by omega)
                    subst hz2
                    subst hc
                    subst hd
                    go_wp2_with fail
                    go_roundw
                    case rel => exact ⟨[], [], _, _, _, _, (n + 1), rfl, rfl, by go_num, by first | omega | (simp; omega) | simp, by first | omega | (simp; omega) | simp, HR, Lib.hid (.inl rfl), Lib.hid (.inl rfl), HB7⟩
                    case measure => simp [lenV] <;> omega
                  · skip
                    have hz : A = [] := List.eq_nil_of_length_eq_zero (by omega)
                    subst hz
                    subst hc
                    go_wp2_with fail
                    go_roundw
                    case rel => exact ⟨[], B, _, _, _, _, (n + 1), rfl, rfl, by go_num, by first | omega | (simp; omega) | simp, by first | omega | (simp; omega) | simp, HR, Lib.hid (.inl rfl), HBt7, HB7⟩
                    case measure => simp [lenV] <;> omega
                · by_cases hd : bc = 1
                  · skip
                    have hz2 : B = [] := List.eq_nil_of_length_eq_zero (by omega)
                    subst hz2
                    subst hd
                    go_wp2_with fail
                    go_roundw
                    case rel => exact ⟨A, [], _, _, _, _, (n + 1), rfl, rfl, by go_num, by first | omega | (simp; omega) | simp, by first | omega | (simp; omega) | simp, HR, HAt7, Lib.hid (.inl rfl), HB7⟩
                    case measure => simp [lenV] <;> omega
                  · skip
                    go_wp2_with fail
                    go_roundw
                    case rel => exact ⟨A, B, _, _, _, _, (n + 1), rfl, rfl, by go_num, by first | omega | (simp; omega) | simp, by first | omega | (simp; omega) | simp, HR, HAt7, HBt7, HB7⟩
                    case measure => simp [lenV] <;> omega
end Go.Proofs.YtdenehnneloegaaGreatDoor
