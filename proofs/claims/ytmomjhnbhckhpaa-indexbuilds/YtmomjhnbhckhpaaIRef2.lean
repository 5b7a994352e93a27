/-
  The reference of layer 12: rows in order of their keys.
  Conditions: at most 2^20 columns, 2^20 rows.
-/
import Derived.WalkKit
import Derived.WalkMore
import Derived.IntWalk
import Derived.WalkArith
import Derived.OwnWalk
import Derived.Lib.Hide
import Derived.BigQuiet
import Derived.Deep.QuietTactic
import Derived.Deep.RegionHeld3
import Derived.Deep.Cut
import Derived.Deep.Onto
import Derived.Test.YtmomjhnbhckhpaaProg
import Derived.Test.YtmomjhnbhckhpaaIRef
import Derived.Test.YtmomjhnbhckhpaaIOrder
namespace Go.Proofs.Ytmomjhnbhckhpaa
open Go.RowKit Go.Shelf
set_option linter.unusedVariables false

theorem putK_next (p : Int × Int) (l : PL) (k : Nat) (q : Int × Int) (h : l[k]? = some q) : putK p (l.take (k + 1)) = if q.2 ≤ p.2 then k + 1 else putK p (l.take k) := by
  obtain ⟨hk, e⟩ := List.getElem?_eq_some_iff.1 h
  rw [List.take_succ_eq_append_getElem hk, e]
  have key : ∀ (m : PL), putK p (m ++ [q]) = if q.2 ≤ p.2 then m.length + 1 else putK p m := fun m => by
    induction m with
    | nil => simp [putK]
    | cons x m ih =>
      simp only [List.cons_append, putK, ih]
      by_cases hq : q.2 ≤ p.2
      · simp [hq]
      · simp [hq]
  rw [key]
  simp [show min k l.length = k from by omega]
theorem putB_is (L : PL) (p : Int × Int) : putB L p = L.take (putK p L) ++ p :: L.drop (putK p L) := rfl
theorem putB_fst (L : PL) (p : Int × Int) (q : Nat) (h : q = putK p L) : (putB L p).map Prod.fst = (L.map Prod.fst).take q ++ p.1 :: (L.map Prod.fst).drop q := by
  subst h; rw [putB_is]; simp
theorem srcI_cells {w : World} {ao : Option Addr} {L : List Int} (h : IntsAt w ao L) : ∀ ad, ao = some ad → ∀ (j : Nat) u, (L.map (Value.int .i64))[j]? = some u → w.cell? (ad.add j) = some u := fun ad e j u hu => by
  rw [List.getElem?_map] at hu
  obtain ⟨c, hc, rfl⟩ := Option.map_eq_some_iff.1 hu
  rcases h with h | ⟨A, h1, _, h3⟩
  · subst h; simp at hc
  · rw [e] at h1; cases h1; exact h3 j c hc
theorem IntsAt.front {w : World} {ao : Option Addr} {l : List Int} (h : IntsAt w ao l) (k : Nat) : IntsAt w ao (l.take k) := by
  rcases h with h | ⟨A, h1, h2, h3⟩
  · exact .inl (by rw [h]; simp)
  · exact .inr ⟨A, h1, h2, fun i p hp => h3 i p (by rw [List.getElem?_take] at hp; split at hp; exact hp; cases hp)⟩
theorem IntsAt.rest {w : World} {b o : Nat} {l : List Int} (h : IntsAt w (some ⟨b, o, none⟩) l) (k : Nat) : IntsAt w (some ⟨b, o + k, none⟩) (l.drop k) := by
  rcases h with h | ⟨A, h1, h2, h3⟩
  · exact .inl (by rw [h]; simp)
  · cases h1
    refine .inr ⟨_, rfl, h2, fun i p hp => ?_⟩
    rw [List.getElem?_drop] at hp
    have := h3 (k + i) p hp
    have e : ∀ (x y : Nat), (⟨b, x, none⟩ : Addr).add y = ⟨b, x + y, none⟩ := fun x y => by unfold Addr.add; split <;> simp_all
    rw [e] at this ⊢
    rw [show o + k + i = o + (k + i) from by omega]; exact this
theorem lit_cellZ (w : World) (a : Value) (T : TypeId) : ∀ (j : Nat) u, [a][j]? = some u → (w.alloc (.cells #[a] T)).cell? ((⟨w.heap.size, 0, none⟩ : Addr).add j) = some u := fun j u hj => by
  rw [cell_row (World.alloc_heap_new w _)]
  match j, hj with
  | 0, hj => simp at hj; subst hj; rfl
/-- rows in order, the first i of them -/
def upto (rs : List (List ByteArray)) (cols : List Int) (i : Nat) : PL := sortB ((rowsK rs cols).take i)
theorem upto_len (rs : List (List ByteArray)) (cols : List Int) (i : Nat) (h : i ≤ rs.length) : (upto rs cols i).length = i := by
  unfold upto; rw [sortB_len, List.length_take, rowsK_len]; omega
theorem upto_next (rs : List (List ByteArray)) (cols : List Int) (i : Nat) (h : i < rs.length) : upto rs cols (i + 1) = putB (upto rs cols i) ((i : Int), rankI rs cols i) := by
  have hk : (rowsK rs cols)[i]? = some ((i : Int), rankI rs cols i) := by simp [rowsK, h]
  obtain ⟨hl, e⟩ := List.getElem?_eq_some_iff.1 hk
  unfold upto
  rw [List.take_succ_eq_append_getElem hl, e, sortB_snoc]
theorem upto_all (rs : List (List ByteArray)) (cols : List Int) : (upto rs cols rs.length).map Prod.fst = buildL rs cols := by
  unfold upto buildL
  rw [List.take_of_length_le (by rw [rowsK_len]; exact Nat.le_refl _)]
theorem upto_ranked (rs : List (List ByteArray)) (cols : List Int) (i : Nat) : ∀ p ∈ upto rs cols i, Ranked rs cols p := fun p hp => by
  have := (stab_mem (sortB_stab ((rowsK rs cols).take i)).2 p).1 hp
  have := List.mem_of_mem_take this
  unfold rowsK at this
  obtain ⟨i, hi, rfl⟩ := List.mem_map.1 this
  exact ⟨i, List.mem_range.1 hi, rfl⟩
theorem rank_le (rs : List (List ByteArray)) (cols : List Int) (i : Nat) (hi : i < rs.length) (p : Int × Int) (hp : Ranked rs cols p) : (p.2 ≤ rankI rs cols i) ↔ keyC (rowKey rs cols p.1) (rowKey rs cols i) ≤ 0 := by
  obtain ⟨j, hj, rfl⟩ := hp
  rw [← rank_key rs cols j i hj hi]
  simp only
  unfold cmpI
  split
  · omega
  · split <;> omega
/-- where a row is put, among the first j of those that are in order -/
def spotK (rs : List (List ByteArray)) (cols : List Int) (i j : Nat) : Nat := putK ((i : Int), rankI rs cols i) ((upto rs cols i).take j)
theorem spot_step (rs : List (List ByteArray)) (cols : List Int) (i j : Nat) (hi : i < rs.length) (x : Int) (hx : ((upto rs cols i).map Prod.fst)[j]? = some x) :
    spotK rs cols i (j + 1) = if keyC (rowKey rs cols x) (rowKey rs cols i) ≤ 0 then j + 1 else spotK rs cols i j := by
  rw [List.getElem?_map] at hx
  obtain ⟨p, hp, rfl⟩ := Option.map_eq_some_iff.1 hx
  have hr := upto_ranked rs cols i p (List.mem_of_getElem? hp)
  unfold spotK
  rw [putK_next _ _ j p hp]
  simp only [rank_le rs cols i hi p hr]
theorem spot_le (rs : List (List ByteArray)) (cols : List Int) (i j : Nat) : spotK rs cols i j ≤ j := by
  unfold spotK
  exact Nat.le_trans (putK_le _ _) (List.length_take_le _ _)
theorem order_next (rs : List (List ByteArray)) (cols : List Int) (i : Nat) (hi : i < rs.length) (q : Nat) (hq : q = spotK rs cols i i) :
    (upto rs cols (i + 1)).map Prod.fst = ((upto rs cols i).map Prod.fst).take q ++ (i : Int) :: ((upto rs cols i).map Prod.fst).drop q := by
  rw [upto_next rs cols i hi]
  refine putB_fst _ _ q ?_
  rw [hq]
  unfold spotK
  rw [List.take_of_length_le (by rw [upto_len rs cols i (by omega)]; exact Nat.le_refl _)]

theorem own_come {w : World} {base : Nat} {e : TypeId} {v : Value} {n : Nat} {xs : List Value} {L : List Int} (h : w.ownsRow base e 1 v n xs) (hL : xs = L.map (Value.int .i64)) : w.ownsRow base e 1 v n (L.map (Value.int .i64)) := by rw [← hL]; exact h
theorem own_back {w : World} {base : Nat} {e : TypeId} {ao : Option Addr} {n cap : Nat} {xs : List Value} (h : w.ownsRow base e 1 (.slice ao n cap) n xs) : n ≤ cap ∧ (ao = none → cap = 0) ∧ (∀ A, ao = some A → ∃ g, A = ⟨g, 0, none⟩) := by
  rcases h.2 with ⟨hv, h0⟩ | ⟨g, c, cur, hv, hb, hg, hc, _⟩
  · simp only [Value.slice.injEq] at hv
    obtain ⟨rfl, rfl, rfl⟩ := hv
    exact ⟨Nat.le_refl _, fun _ => rfl, fun A e => by cases e⟩
  · simp only [Value.slice.injEq] at hv
    obtain ⟨rfl, -, rfl⟩ := hv
    exact ⟨hc, (fun e => by cases e), fun A e => by cases e; exact ⟨g, rfl⟩⟩
theorem own_intsZ {w : World} {base : Nat} {e : TypeId} {ao : Option Addr} {n cap : Nat} {L : List Int} (h : w.ownsRow base e 1 (.slice ao n cap) n (L.map (Value.int .i64))) : IntsAt w ao L := own_intsI h rfl

set_option maxRecDepth 100000 in
set_option maxHeartbeats 2000000 in
theorem rbuild_any (ho : Option Addr) (m hc : Nat) (ro : Option Addr) (rc : Nat) (rs : List (List ByteArray)) (co : Option Addr) (cc : Nat) (cols : List Int) (w : World) (hcl : cols.length ≤ 1048576) (hrl : rs.length ≤ 1048576) (hR : RowsAt w ro rs) (hI : IntsAt w co cols) :
    Calls Try.prog 12 #[.agg #[.slice ho m hc, .slice ro rs.length rc], .slice co cols.length cc] w fun e w' => ∃ oo oc, e = .returned (.slice oo rs.length oc) ∧ IntsAt w' oo (buildL rs cols) ∧ Below w.heap.size w w' := by
  have hinfo : (Try.prog.info? 3).map (fun i => (i.zero, i.size, i.bytes)) = some (some (.int .i64 0), 1, 8) := by kernel_rfl
  obtain ⟨i0, hi, hz0, hz1, hz2⟩ := info_parts2 hinfo
  have HInf := Lib.hid hi
  have hb0 := one_below w (TabO ho m hc ro rs.length rc)
  have hN := World.alloc_heap_new w (TabO ho m hc ro rs.length rc)
  obtain ⟨W, HW⟩ : ∃ W, Hid (W = w.alloc (TabO ho m hc ro rs.length rc)) := ⟨_, Lib.hid rfl⟩
  rw [← HW.out] at hb0 hN
  have B0 := Lib.hid hb0
  have box : Hid (∀ V, Below W.heap.size W V → V.cell? ⟨w.heap.size, 0, none⟩ = some (.slice ho m hc) ∧ V.cell? ⟨w.heap.size, 1, none⟩ = some (.slice ro rs.length rc)) := Lib.hid (fun V hV => tabs ((hV.block _ (lt_of_heap hN)).trans hN))
  have CK := Lib.hid (fun V (x : Int) (h : Below w.heap.size w V) => rkey_any ho m hc ro rc rs x co cc cols V hcl (hR.kept h) (hI.kept h))
  have CC := Lib.hid (fun V (ao bo : Option Addr) (ca cb : Nat) (x y : Int) (h1 : StrRow V ao (rowKey rs cols x)) (h2 : StrRow V bo (rowKey rs cols y)) => rcmp_any ao bo ca cb (rowKey rs cols x) (rowKey rs cols y) V (by rw [rowKey_len]; omega) (by rw [rowKey_len]; omega) h1 h2)
  have HKK : Hid (∀ x, keyR rs x cols = rowKey rs cols x) := Lib.hid (fun x => rfl)
  obtain ⟨O, HO⟩ : ∃ O : Nat → List Int, Hid (O = fun i => (upto rs cols i).map Prod.fst) := ⟨_, Lib.hid rfl⟩
  have HOl : Hid (∀ i, i ≤ rs.length → (O i).length = i) := Lib.hid (fun i h => by rw [HO.out]; simp only [List.length_map]; exact upto_len rs cols i h)
  have HOa : Hid (O rs.length = buildL rs cols) := Lib.hid (by rw [HO.out]; exact upto_all rs cols)
  have HO0 : Hid (O 0 = []) := Lib.hid (List.eq_nil_of_length_eq_zero (HOl.out 0 (Nat.zero_le _)))
  have HSt : Hid (∀ (i j : Nat) x, i < rs.length → (O i)[j]? = some x → spotK rs cols i (j + 1) = if keyC (rowKey rs cols x) (rowKey rs cols i) ≤ 0 then j + 1 else spotK rs cols i j) := Lib.hid (fun i j x h1 h2 => by rw [HO.out] at h2; exact spot_step rs cols i j h1 x h2)
  have HSl := Lib.hid (fun i j => spot_le rs cols i j)
  have HS0 : Hid (∀ i, spotK rs cols i 0 = 0) := Lib.hid (fun i => by have := spot_le rs cols i 0; omega)
  have HNx : Hid (∀ i q, i < rs.length → q = spotK rs cols i i → O (i + 1) = (O i).take q ++ (i : Int) :: (O i).drop q) := Lib.hid (fun i q h1 h2 => by rw [HO.out]; exact order_next rs cols i h1 q h2)
  clear hi hinfo hR hI hb0 hN
  rw [← HOa.out]
  go_enter Try.func12, Try.ntmps12
  go_upto_region 1 with fail
  rw [show w.alloc (TabO ho m hc ro rs.length rc) = W from HW.out.symm]
  go_wp2_with fail
  go_loopw [5, 6] (fun u v wr => ∃ (i lc : Nat) (lo : Option Addr), i ≤ rs.length ∧ u = .slice lo i lc ∧ v = .int .i64 i ∧ Hid (i ≤ lc ∧ (lo = none → lc = 0) ∧ (i = 0 → lo = none) ∧ (∀ A, lo = some A → ∃ g, A = ⟨g, 0, none⟩)) ∧ Hid (IntsAt wr lo (O i)) ∧ Hid (Below W.heap.size W wr)) (fun _ v _ => rs.length - (intOf v).toNat)
  case atStart => exact ⟨0, 0, none, Nat.zero_le _, rfl, rfl, Lib.hid ⟨Nat.le_refl _, fun _ => rfl, fun _ => rfl, fun A e => by cases e⟩, Lib.hid (.inl HO0.out), Lib.hid (Below.refl _ _)⟩
  case round =>
    obtain ⟨i, lc, lo, hi, rfl, rfl, HC, HP, HB⟩ := hrel
    obtain ⟨p0, p1⟩ := box.out wr HB.out
    by_cases hlt : i < rs.length
    · go_wp2_with fail
      clear p0 p1
      obtain ⟨wo, HWo⟩ : ∃ wo : World, Hid (wo = wr) := ⟨_, Lib.hid rfl⟩
      rw [← HWo.out]
      rw [← HWo.out] at HP HB
      clear HWo
      go_loopw [7, 8] (fun u v wr => ∃ (j q : Nat), j ≤ i ∧ q ≤ j ∧ u = .int .i64 q ∧ v = .int .i64 j ∧ Hid (q = spotK rs cols i j) ∧ Hid (IntsAt wr lo (O i)) ∧ Hid (Below W.heap.size W wr)) (fun _ v _ => i - (intOf v).toNat)
      case atStart => exact ⟨0, 0, Nat.zero_le _, Nat.le_refl _, rfl, rfl, Lib.hid (HS0.out i).symm, HP, HB⟩
      case round =>
        obtain ⟨j, q, hj, hq, rfl, rfl, HQ, HP, HB⟩ := hrel
        by_cases hjl : j < i
        · obtain ⟨x, hx⟩ : ∃ x, (O i)[j]? = some x := ⟨_, List.getElem?_eq_getElem (by rw [HOl.out i hi]; exact hjl)⟩
          have hst := HSt.out i j x hlt hx
          obtain ⟨A, rfl, hAl, HCell⟩ : ∃ A, lo = some A ∧ A.block < wr.heap.size ∧ Hid (wr.cell? (A.add j) = some (.int .i64 x)) := by
            rcases HP.out with h0 | ⟨A, h1, h2, h3⟩
            · rw [h0] at hx; simp at hx
            · exact ⟨A, h1, h2, Lib.hid (h3 j x hx)⟩
          have HKEEP : Hid (∀ U, Below wr.heap.size wr U → U.cell? ⟨w.heap.size, 0, none⟩ = some (.slice ho m hc) ∧ U.cell? ⟨w.heap.size, 1, none⟩ = some (.slice ro rs.length rc) ∧ U.cell? (A.add j) = some (.int .i64 x)) := Lib.hid (fun U h => by
            obtain ⟨d0, d1⟩ := box.out U (below_up HB.out h)
            exact ⟨d0, d1, (h.cell (p := A.add j) (by rw [add_block]; exact hAl)).trans HCell.out⟩)
          have CKx := Lib.hid (fun V h => CK.out V x h)
          have CKi := Lib.hid (fun V h => CK.out V (i : Int) h)
          have CCx := Lib.hid (fun V (ao bo : Option Addr) (ca cb : Nat) h1 h2 => CC.out V ao bo ca cb x (i : Int) h1 h2)
          rw [HKK.out] at CKx CKi
          unfold StrsOut at CKx CKi
          obtain ⟨kx, hkx⟩ : ∃ kx, kx = rowKey rs cols x := ⟨_, rfl⟩
          obtain ⟨ki, hki⟩ : ∃ ki, ki = rowKey rs cols (i : Int) := ⟨_, rfl⟩
          rw [← hkx] at CKx CCx hst
          rw [← hki] at CKi CCx hst
          generalize keyC kx ki = r at CCx hst
          have HPk := Lib.hid (fun U (h : Below wr.heap.size wr U) => HP.out.kept h)
          have BW := Lib.hid HB.out
          have BD := Lib.hid (Below.refl wr.heap.size wr).drew
          obtain ⟨p0, p1, p2⟩ := HKEEP.out wr (Below.refl _ _)
          clear hx hkx hki HP
          have HSt2 := Lib.hid hst
          clear hst
          go_upto_region 9 with fail
          go_cut [35] from 23 to 35 (fun u wc => u = .bool (decide (r ≤ 0)) ∧ Hid (Below wr.heap.size wr wc))
          case first =>
            go_region_held3 (fun U => U.cell? ⟨w.heap.size, 0, none⟩ = some (.slice ho m hc) ∧ U.cell? ⟨w.heap.size, 1, none⟩ = some (.slice ro rs.length rc) ∧ U.cell? (A.add j) = some (.int .i64 x)) ((refine ⟨?_, ?_, ?_⟩ <;> first | assumption | go_keep)) (first
              | (go_at_call 15; refine (CKx.out _ (below_up (below_up B0.out BW.out) BD.out)).mono ?_; rintro e wA ⟨aoA, caA, rfl, hsA, bA⟩; have HBel := Lib.hid (below_up BD.out bA); have HSA := Lib.hid hsA; obtain ⟨p0, p1, p2⟩ := HKEEP.out _ HBel.out; clear hsA bA CKx BD)
              | (go_at_call 15; refine (CKi.out _ (below_up (below_up B0.out BW.out) HBel.out)).mono ?_; rintro e wB ⟨aoB, caB, rfl, hsB, bB⟩; have HBel := Lib.hid (below_up HBel.out bB); have HSA := Lib.hid (HSA.out.kept bB); have HSB := Lib.hid hsB; obtain ⟨p0, p1, p2⟩ := HKEEP.out _ HBel.out; clear hsB bB CKi)
              | (go_at_call 19; refine (CCx.out _ _ _ _ _ HSA.out HSB.out).mono ?_; rintro e wC ⟨rfl, bC⟩; have HBel := Lib.hid (below_up HBel.out bC); obtain ⟨p0, p1, p2⟩ := HKEEP.out _ HBel.out; clear bC))
            all_goals (go_wp2_with fail)
            all_goals (go_meet)
            all_goals (exact ⟨by first | rfl | simp, HBel⟩)
          case rest =>
            obtain ⟨rfl, HB5⟩ := hcut
            rename World => w5
            have HP5 := Lib.hid (HPk.out w5 HB5.out)
            have HB6 := Lib.hid (below_up BW.out HB5.out)
            clear p0 p1 p2 HPk HB5
            by_cases hr : r ≤ 0
            · have dr : decide (r ≤ 0) = true := decide_eq_true hr
              have HQ2 : Hid (j + 1 = spotK rs cols i (j + 1)) := Lib.hid (by rw [HSt2.out, if_pos hr])
              rw [dr]
              go_wp2_with fail
              go_roundw
              case rel => exact ⟨j + 1, j + 1, by omega, Nat.le_refl _, by go_num, by go_num, HQ2, HP5, HB6⟩
              case measure => simp [intOf]; omega
            · have dr : decide (r ≤ 0) = false := decide_eq_false hr
              have HQ2 : Hid (q = spotK rs cols i (j + 1)) := Lib.hid (by rw [HSt2.out, if_neg hr]; exact HQ.out)
              rw [dr]
              go_wp2_with fail
              go_roundw
              case rel => exact ⟨j + 1, q, by omega, by omega, rfl, by go_num, HQ2, HP5, HB6⟩
              case measure => simp [intOf]; omega
        · obtain rfl : j = i := by omega
          have HNx1 := Lib.hid (HNx.out j q hlt HQ.out)
          have hln := HOl.out j (by omega)
          obtain ⟨hc1, hc2, hc3, hc4⟩ := HC.out
          have HO1 := Lib.hid (own_emptyI wr.heap.size wr 3 (Nat.le_refl _))
          have b1 : Below wr.heap.size wr (wr.alloc (.cells #[] 3)) := one_below _ _
          have HB1 := Lib.hid b1
          have HP1 := Lib.hid ((HP.out.kept b1).front q)
          have hbs : wr.heap.size ≤ (wr.alloc (.cells #[] 3)).heap.size := by simp
          have htl : ((O j).take q).length = q := by rw [List.length_take, hln]; omega
          have hcl1 : (((O j).take q).map (Value.int .i64)).length = q * 1 := by rw [List.length_map, htl, Nat.mul_one]
          have HLn := Lib.hid hln
          clear b1 hln htl
          by_cases hj0 : j = 0
          · have hlo := hc3 hj0
            subst hlo
            have hlc := hc2 rfl
            subst hlc
            have hq0 : q = 0 := by omega
            subst hj0
            subst hq0
            go_wp2_with (at_builtin; refine wpList_append_any rfl _ _ 26 rfl wr.heap.size 3 i0 (.int .i64 0) 1 8 Try.underlying26 HInf.out hz0 hz1 hz2 rfl (by decide) _ _ _ rfl HO1.out none 0 0 [] rfl (fun h => ⟨rfl, rfl⟩) rfl (fun ad h => by cases h) (fun u hu => by cases hu) (by unfold maxLen; omega) (by omega) hbs ?_)
            intro v1 w2 ho1 hg1
            obtain ⟨ao1, cp1, rfl⟩ := own_slice ho1
            have b2 : Below wr.heap.size wr w2 := HB1.out.grown hg1 hbs (fun k h => by cases h; exact Nat.le_refl _)
            have HB2 := Lib.hid b2
            have hw2 : wr.heap.size ≤ w2.heap.size := b2.size
            have HO3 := Lib.hid (ho1.alloc (.cells #[Value.int .i64 ((0 : Nat) : Int)] 3))
            have hbs2 : wr.heap.size ≤ (w2.alloc (.cells #[Value.int .i64 ((0 : Nat) : Int)] 3)).heap.size := by simp; omega
            have HB2' := Lib.hid (b2.alloc hw2 (.cells #[Value.int .i64 ((0 : Nat) : Int)] 3))
            clear ho1 hg1 b2 hbs HO1 HP1
            go_wp2_with (at_builtin; refine wpList_append_own _ rfl _ _ 26 rfl wr.heap.size 3 i0 (.int .i64 0) 1 8 Try.underlying26 HInf.out hz0 hz1 hz2 rfl (by decide) _ _ _ rfl HO3.out ⟨w2.heap.size, 0, none⟩ 1 1 [Value.int .i64 ((0 : Nat) : Int)] rfl rfl (lit_cellZ w2 _ _) (fun u hu => by simp at hu; rcases hu with rfl; rfl) (by unfold maxLen; omega) (by omega) hbs2 ?_)
            intro v2 w3 ho2 hg2 _
            obtain ⟨ao2, cp2, rfl⟩ := own_slice ho2
            have b3 : Below wr.heap.size wr w3 := HB2'.out.grown hg2 hbs2 (fun k h => (HO3.out.lt k h).1)
            have HB3 := Lib.hid b3
            have HO4 := Lib.hid ho2
            have hw3 : wr.heap.size ≤ w3.heap.size := b3.size
            clear ho2 hg2 b3 hbs2
            go_wp2_with (at_builtin; refine wpList_append_any rfl _ _ 26 rfl wr.heap.size 3 i0 (.int .i64 0) 1 8 Try.underlying26 HInf.out hz0 hz1 hz2 rfl (by decide) _ _ _ rfl HO4.out none 0 0 [] rfl (fun h => ⟨rfl, rfl⟩) rfl (fun ad h => by cases h) (fun u hu => by cases hu) (by unfold maxLen; omega) (by omega) hw3 ?_)
            intro v3 w4 ho3 hg3
            have b4 : Below wr.heap.size wr w4 := HB3.out.grown hg3 hw3 (fun k h => (HO4.out.lt k h).1)
            have HB4 := Lib.hid (below_up HB.out b4)
            have HP4 := Lib.hid (own_come (L := O (0 + 1)) ho3 (by rw [HNx1.out]; simp [HO0.out]))
            obtain ⟨ao3, cp3, rfl⟩ := own_slice ho3
            clear ho3 hg3 b4
            have HC4 := Lib.hid (own_back HP4.out)
            have HI4 := Lib.hid (own_intsZ HP4.out)
            go_wp2_with fail
            go_roundw
            case rel => exact ⟨0 + 1, cp3, ao3, by omega, rfl, by go_num, Lib.hid ⟨HC4.out.1, HC4.out.2.1, (fun h => by omega), HC4.out.2.2⟩, HI4, HB4⟩
            case measure => simp [intOf]; omega
          · obtain ⟨A, rfl⟩ : ∃ A, lo = some A := by
              cases lo with
              | none => have := hc2 rfl; omega
              | some A => exact ⟨A, rfl⟩
            obtain ⟨g, rfl⟩ := hc4 A rfl
            clear hc2 hc3 hc4
            go_wp2_with (at_builtin; refine wpList_append_any rfl _ _ 26 rfl wr.heap.size 3 i0 (.int .i64 0) 1 8 Try.underlying26 HInf.out hz0 hz1 hz2 rfl (by decide) _ _ _ rfl HO1.out (some ⟨g, 0, none⟩) q lc (((O j).take q).map (Value.int .i64)) rfl (fun h => by cases h) hcl1 (srcI_cells HP1.out) (onesI _) (by unfold maxLen; omega) (by omega) hbs ?_)
            intro v1 w2 ho1 hg1
            obtain ⟨ao1, cp1, rfl⟩ := own_slice ho1
            have b2 : Below wr.heap.size wr w2 := HB1.out.grown hg1 hbs (fun k h => by cases h; exact Nat.le_refl _)
            have HB2 := Lib.hid b2
            have hw2 : wr.heap.size ≤ w2.heap.size := b2.size
            have HO3 := Lib.hid (ho1.alloc (.cells #[Value.int .i64 (j : Int)] 3))
            have hbs2 : wr.heap.size ≤ (w2.alloc (.cells #[Value.int .i64 (j : Int)] 3)).heap.size := by simp; omega
            have HB2' := Lib.hid (b2.alloc hw2 (.cells #[Value.int .i64 (j : Int)] 3))
            clear ho1 hg1 b2 hbs HO1 HP1
            go_wp2_with (at_builtin; refine wpList_append_own _ rfl _ _ 26 rfl wr.heap.size 3 i0 (.int .i64 0) 1 8 Try.underlying26 HInf.out hz0 hz1 hz2 rfl (by decide) _ _ _ rfl HO3.out ⟨w2.heap.size, 0, none⟩ 1 1 [Value.int .i64 (j : Int)] rfl rfl (lit_cellZ w2 _ _) (fun u hu => by simp at hu; rcases hu with rfl; rfl) (by unfold maxLen; omega) (by omega) hbs2 ?_)
            intro v2 w3 ho2 hg2 _
            obtain ⟨ao2, cp2, rfl⟩ := own_slice ho2
            have b3 : Below wr.heap.size wr w3 := HB2'.out.grown hg2 hbs2 (fun k h => (HO3.out.lt k h).1)
            have HB3 := Lib.hid b3
            have HO4 := Lib.hid ho2
            have hw3 : wr.heap.size ≤ w3.heap.size := b3.size
            clear ho2 hg2 b3 hbs2
            by_cases hql : q = lc
            · have hqj : q = j := by omega
              have hdr : (O j).drop q = [] := List.drop_eq_nil_of_le (by rw [HLn.out]; omega)
              have HDr := Lib.hid hdr
              have hql3 : lc = q := hql.symm
              subst hql3
              clear hdr
              subst hqj
              go_wp2_with (at_builtin; refine wpList_append_any rfl _ _ 26 rfl wr.heap.size 3 i0 (.int .i64 0) 1 8 Try.underlying26 HInf.out hz0 hz1 hz2 rfl (by decide) _ _ _ rfl HO4.out (some _) 0 _ [] rfl (fun h => by cases h) rfl (fun ad h j u hu => by simp at hu) (fun u hu => by cases hu) (by unfold maxLen; omega) (by omega) hw3 ?_)
              intro v3 w4 ho3 hg3
              have b4 : Below wr.heap.size wr w4 := HB3.out.grown hg3 hw3 (fun k h => (HO4.out.lt k h).1)
              have HB4 := Lib.hid (below_up HB.out b4)
              have HP4 := Lib.hid (own_come (L := O (lc + 1)) ho3 (by rw [HNx1.out, HDr.out]; simp))
              obtain ⟨ao3, cp3, rfl⟩ := own_slice ho3
              clear ho3 hg3 b4
              have HC4 := Lib.hid (own_back HP4.out)
              have HI4 := Lib.hid (own_intsZ HP4.out)
              go_wp2_with fail
              go_roundw
              case rel => exact ⟨lc + 1, cp3, ao3, by omega, rfl, by go_num, Lib.hid ⟨HC4.out.1, HC4.out.2.1, (fun h => by omega), HC4.out.2.2⟩, HI4, HB4⟩
              case measure => simp [intOf]; omega
            · have hql2 : q < lc := by omega
              have hnq : (q : Int) ≤ (lc : Int) := by omega
              have HP3 : Hid (IntsAt w3 (some ⟨g, q, none⟩) ((O j).drop q)) := Lib.hid (by have := IntsAt.rest (HP.out.kept HB3.out) q; rwa [Nat.zero_add] at this)
              have hdl : ((O j).drop q).length = j - q := by rw [List.length_drop, HLn.out]
              have hcl2 : (((O j).drop q).map (Value.int .i64)).length = (j - q) * 1 := by rw [List.length_map, hdl, Nat.mul_one]
              have HJ := Lib.hid (show q + 1 + (j - q) = j + 1 by omega)
              go_wp2_with (at_builtin; refine wpList_append_any rfl _ _ 26 rfl wr.heap.size 3 i0 (.int .i64 0) 1 8 Try.underlying26 HInf.out hz0 hz1 hz2 rfl (by decide) _ _ _ rfl HO4.out (some ⟨g, q, none⟩) (j - q) _ (((O j).drop q).map (Value.int .i64)) rfl (fun h => by cases h) hcl2 (srcI_cells HP3.out) (onesI _) (by unfold maxLen; omega) (by omega) hw3 ?_)
              intro v3 w4 ho3 hg3
              have b4 : Below wr.heap.size wr w4 := HB3.out.grown hg3 hw3 (fun k h => (HO4.out.lt k h).1)
              have HB4 := Lib.hid (below_up HB.out b4)
              rw [HJ.out] at ho3
              have HP4 := Lib.hid (own_come (L := O (j + 1)) ho3 (by rw [HNx1.out]; simp))
              obtain ⟨ao3, cp3, rfl⟩ := own_slice ho3
              clear ho3 hg3 b4
              have HC4 := Lib.hid (own_back HP4.out)
              have HI4 := Lib.hid (own_intsZ HP4.out)
              go_wp2_with fail
              go_roundw
              case rel => exact ⟨j + 1, cp3, ao3, by omega, by first | rfl | rw [HJ.out], by go_num, Lib.hid ⟨HC4.out.1, HC4.out.2.1, (fun h => by omega), HC4.out.2.2⟩, HI4, HB4⟩
              case measure => simp [intOf]; omega
    · obtain rfl : i = rs.length := by omega
      go_wp2_with fail
      go_ret
      exact ⟨lo, lc, rfl, HP.out, below_up B0.out HB.out⟩
end Go.Proofs.Ytmomjhnbhckhpaa
