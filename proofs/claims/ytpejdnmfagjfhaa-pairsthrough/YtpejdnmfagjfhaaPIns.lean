/-
  Insertion, as the library sorts short pieces: what it makes of a piece of a list of pairs.
  Conditions: lists of at most 2^38 pairs.
-/
import Derived.WalkKit
import Derived.WalkMore
import Derived.IntWalk
import Derived.RegionTactic
import Derived.BigRegion
import Derived.Lib.Hide
import Derived.StillTailTactics
import Derived.BigQuiet
import Derived.Deep.QuietTactic
import Derived.Deep.Cut
import Derived.Test.YtpejdnmfagjfhaaProg
import Derived.Test.YtpejdnmfagjfhaaPSort
namespace Go.Proofs.Ytpejdnmfagjfhaa
open Go.RowKit Go.Shelf
set_option linter.unusedVariables false

/-- how far behind a pair is put: behind the last one whose B is not more -/
def putK (p : Int × Int) : PL → Nat
  | [] => 0
  | q :: l => if putK p l = 0 then (if q.2 ≤ p.2 then 1 else 0) else putK p l + 1
theorem putK_le (p : Int × Int) (l : PL) : putK p l ≤ l.length := by
  induction l with
  | nil => exact Nat.le_refl _
  | cons q l ih => unfold putK; split <;> (try split) <;> simp <;> omega
theorem putK_is (p : Int × Int) (l : PL) (k : Nat) (hk : k ≤ l.length) (h1 : k = 0 ∨ ∃ q, l[k - 1]? = some q ∧ q.2 ≤ p.2) (h2 : ∀ (t : Nat) q, k ≤ t → l[t]? = some q → p.2 < q.2) : putK p l = k := by
  induction l generalizing k with
  | nil => simp at hk; subst hk; rfl
  | cons x l ih =>
    unfold putK
    cases k with
    | zero =>
      have e := ih 0 (Nat.zero_le _) (.inl rfl) (fun t q _ hq => h2 (t + 1) q (Nat.zero_le _) (by simpa using hq))
      have := h2 0 x (Nat.le_refl _) rfl
      rw [if_pos e, if_neg (by omega)]
    | succ k =>
      cases k with
      | zero =>
        have e := ih 0 (Nat.zero_le _) (.inl rfl) (fun t q _ hq => h2 (t + 1) q (by omega) (by simpa using hq))
        rcases h1 with h | ⟨q, hq, hle⟩
        · omega
        · simp at hq; subst hq
          rw [if_pos e, if_pos hle]
      | succ k =>
        have e := ih (k + 1) (by simpa using hk) (by
          rcases h1 with h | ⟨q, hq, hle⟩
          · omega
          · exact .inr ⟨q, by simpa using hq, hle⟩) (fun t q ht hq => h2 (t + 1) q (by omega) (by simpa using hq))
        rw [if_neg (by omega), e]
/-- a pair is put behind the last one whose B is not more -/
def putB (l : PL) (p : Int × Int) : PL := l.take (putK p l) ++ p :: l.drop (putK p l)
theorem putB_len (l : PL) (p : Int × Int) : (putB l p).length = l.length + 1 := by have := putK_le p l; simp [putB]; omega
/-- one by one -/
def sortB (l : PL) : PL := l.foldl putB []
theorem sortB_snoc (l : PL) (p : Int × Int) : sortB (l ++ [p]) = putB (sortB l) p := by simp [sortB, List.foldl_append]
theorem sortB_len (l : PL) : (sortB l).length = l.length := by
  have : ∀ (l m : PL), (l.foldl putB m).length = m.length + l.length := fun l => by
    induction l with
    | nil => intro m; rfl
    | cons p l ih => intro m; rw [List.foldl_cons, ih, putB_len]; simp; omega
  have := this l []; simpa [sortB] using this
/-- a list in which p is on its way -/
def wayL (P S : PL) (p : Int × Int) (k : Nat) (R : PL) : PL := P ++ (S.take k ++ p :: S.drop k) ++ R
theorem way_here (P S : PL) (p : Int × Int) (k : Nat) (R : PL) (hk : k ≤ S.length) : (wayL P S p k R)[P.length + k]? = some p := by
  unfold wayL
  rw [List.append_assoc, List.getElem?_append_right (by omega), List.append_assoc, List.getElem?_append_right (by simp; omega)]
  simp [show min k S.length = k from by omega]
theorem way_ahead (P S : PL) (p q : Int × Int) (k : Nat) (R : PL) (hk : k + 1 ≤ S.length) (hq : S[k]? = some q) : (wayL P S p (k + 1) R)[P.length + k]? = some q := by
  unfold wayL
  rw [List.append_assoc, List.getElem?_append_right (by omega), List.append_assoc, List.getElem?_append_left (by simp; omega), Nat.add_sub_cancel_left, List.getElem?_take, if_pos (by omega), hq]
theorem way_swap (P S : PL) (p q : Int × Int) (k : Nat) (R : PL) (hk : k + 1 ≤ S.length) (hq : S[k]? = some q) : ((wayL P S p (k + 1) R).set (P.length + (k + 1)) q).set (P.length + k) p = wayL P S p k R := by
  obtain ⟨hl, e⟩ := List.getElem?_eq_some_iff.1 hq
  have h1 : wayL P S p (k + 1) R = (P ++ S.take k) ++ q :: p :: (S.drop (k + 1) ++ R) := by
    unfold wayL; rw [List.take_succ_eq_append_getElem hl, e]; simp
  have h2 : wayL P S p k R = (P ++ S.take k) ++ p :: q :: (S.drop (k + 1) ++ R) := by
    unfold wayL; rw [List.drop_eq_getElem_cons hl, e]; simp
  rw [h1, h2]
  have hlen : (P ++ S.take k).length = P.length + k := by simp; omega
  rw [List.set_append_right _ _ (by rw [hlen]; omega), List.set_append_right _ _ (by rw [hlen]; exact Nat.le_refl _), hlen, Nat.sub_self, show P.length + (k + 1) - (P.length + k) = 1 from by omega]
  rfl
theorem way_len (P S : PL) (p : Int × Int) (k : Nat) (R : PL) (hk : k ≤ S.length) : (wayL P S p k R).length = P.length + S.length + 1 + R.length := by simp [wayL]; omega
/-- a list of which the piece from a to i is sorted -/
def insL (l : PL) (a i : Nat) : PL := l.take a ++ sortB ((l.drop a).take (i - a)) ++ l.drop i
theorem insL_start (l : PL) (a : Nat) : insL l a a = l := by simp [insL, sortB]
theorem insL_one (l : PL) (a : Nat) (h : a < l.length) : insL l a (a + 1) = l := by
  unfold insL
  rw [show a + 1 - a = 1 from by omega, List.drop_eq_getElem_cons h]
  simp only [List.take_succ_cons, List.take_zero]
  rw [show sortB [l[a]] = [l[a]] from by simp [sortB, putB, putK], List.append_assoc]
  rw [show [l[a]] ++ l.drop (a + 1) = l.drop a from by rw [List.drop_eq_getElem_cons h]; rfl, List.take_append_drop]
theorem insL_way (l : PL) (a i : Nat) (p : Int × Int) (hai : a ≤ i) (hp : l[i]? = some p) :
    insL l a i = wayL (l.take a) (sortB ((l.drop a).take (i - a))) p (i - a) (l.drop (i + 1)) ∧ insL l a (i + 1) = wayL (l.take a) (sortB ((l.drop a).take (i - a))) p (putK p (sortB ((l.drop a).take (i - a)))) (l.drop (i + 1)) := by
  obtain ⟨hi, e⟩ := List.getElem?_eq_some_iff.1 hp
  have hS : (sortB ((l.drop a).take (i - a))).length = i - a := by rw [sortB_len]; simp; omega
  constructor
  · unfold insL wayL
    generalize sortB ((l.drop a).take (i - a)) = S at hS ⊢
    rw [List.take_of_length_le (show S.length ≤ i - a by omega), List.drop_eq_nil_of_le (show S.length ≤ i - a by omega), List.drop_eq_getElem_cons hi, e]
    simp
  · unfold insL wayL
    have : (l.drop a).take (i + 1 - a) = (l.drop a).take (i - a) ++ [p] := by
      rw [show i + 1 - a = (i - a) + 1 from by omega, List.take_succ_eq_append_getElem (by simp; omega), List.getElem_drop]
      simp [show a + (i - a) = i from by omega, e]
    rw [this, sortB_snoc]
    rfl
theorem insL_len (l : PL) (a i : Nat) (hai : a ≤ i) (hi : i ≤ l.length) : (insL l a i).length = l.length := by
  simp [insL, sortB_len]; omega
theorem grown_trans {a b c : World} {row : Option Nat} (h : a.grownBy b row) (k : b.grownBy c row) : a.grownBy c row :=
  ⟨k.os.trans h.os, k.tape.trans h.tape, k.output.trans h.output, Nat.le_trans h.size k.size, fun i hi hne => (k.block i (Nat.lt_of_lt_of_le hi h.size) hne).trans (h.block i hi hne)⟩
theorem grown_below {w w' : World} {row : Option Nat} (h : Below w.heap.size w w') : w.grownBy w' row := ⟨h.os, h.tape, h.output, h.size, fun k hk _ => h.block k hk⟩
theorem grown_set (w : World) (g i : Nat) (v : Value) : w.grownBy (w.setCell ⟨g, i, none⟩ v) (some g) :=
  ⟨rfl, rfl, rfl, by simp, fun k _ hne => heap_setCell_other w ⟨g, i, none⟩ k v (fun e => hne (by rw [e]))⟩
theorem grown_drewN (w : World) (n : Nat) (row : Option Nat) : w.grownBy (w.drewN n) row := ⟨rfl, rfl, rfl, Nat.le_refl _, fun _ _ _ => rfl⟩
theorem OwnP.swap {w : World} {base : Nat} {T : TypeId} {g n : Nat} {l : PL} (h : OwnP w base T g n l) (i j : Nat) (a b c d : Int) (hi : i < n) (hj : j < n) :
    OwnP ((((w.setCell ⟨g, i * 2, none⟩ (.int .i64 a)).setCell ⟨g, i * 2 + 1, none⟩ (.int .i64 b)).setCell ⟨g, j * 2, none⟩ (.int .i64 c)).setCell ⟨g, j * 2 + 1, none⟩ (.int .i64 d)) base T g n ((l.set i (a, b)).set j (c, d)) :=
  (h.store i a b hi).store j c d hj
theorem grown_swap (w : World) (g i j : Nat) (a b c d : Value) : w.grownBy ((((w.setCell ⟨g, i * 2, none⟩ a).setCell ⟨g, i * 2 + 1, none⟩ b).setCell ⟨g, j * 2, none⟩ c).setCell ⟨g, j * 2 + 1, none⟩ d) (some g) :=
  grown_trans (grown_trans (grown_trans (grown_set w g _ a) (grown_set _ g _ b)) (grown_set _ g _ c)) (grown_set _ g _ d)

set_option maxRecDepth 100000 in
set_option maxHeartbeats 2000000 in
theorem insertion_any (base g n : Nat) (l : PL) (a b : Nat) (w : World) (hn : n ≤ 274877906944) (hab : a ≤ b) (hbn : b ≤ n) (hO : OwnP w base 42 g n l) :
    Calls Try.prog 47 #[.slice (some ⟨g, 0, none⟩) n n, .int .i64 a, .int .i64 b, .func (.func 30) #[] #[]] w fun e w' => e = .returned (.tuple #[]) ∧ OwnP w' base 42 g n (insL l a b) ∧ w.grownBy w' (some g) := by
  have C := Lib.hid (fun a b c d W => compareB_any a b c d W)
  have hent := enters_of Try.func30 (by kernel_rfl) rfl
  have HLen := Lib.hid hO.len
  have HOw := Lib.hid hO
  clear hO
  have HIL := Lib.hid (fun i p (h1 : a ≤ i) (h2 : l[i]? = some p) => insL_way l a i p h1 h2)
  have H0 : Hid (insL l a (min (a + 1) b) = l) := Lib.hid (by
    by_cases h : a = b
    · subst h; rw [show min (a + 1) a = a from by omega]; exact insL_start l a
    · rw [show min (a + 1) b = a + 1 from by omega]; exact insL_one l a (by rw [HLen.out]; omega))
  go_enter Try.func47, Try.ntmps47
  go_wp2_with fail
  go_loopw [8] (fun i wr => ∃ k : Nat, a + 1 ≤ k ∧ (k ≤ b ∨ k = a + 1) ∧ i = .int .i64 k ∧ Hid (OwnP wr base 42 g n (insL l a (min k b))) ∧ Hid (w.grownBy wr (some g))) (fun i _ => b - (intOf i).toNat)
  case atStart => exact ⟨a + 1, Nat.le_refl _, .inr rfl, by go_num, Lib.hid (by rw [H0.out]; exact HOw.out), Lib.hid ⟨rfl, rfl, rfl, Nat.le_refl _, fun _ _ _ => rfl⟩⟩
  case round =>
    obtain ⟨i, hi1, hi2, rfl, HO, HGr⟩ := hrel
    clear HOw
    by_cases hlt : i < b
    · obtain ⟨p, hp⟩ : ∃ p, l[i]? = some p := ⟨_, List.getElem?_eq_getElem (by rw [HLen.out]; omega)⟩
      obtain ⟨e1, e2⟩ := HIL.out i p (by omega) hp
      obtain ⟨P, HP⟩ : ∃ P, Hid (P = l.take a) := ⟨_, Lib.hid rfl⟩
      obtain ⟨S, HS⟩ : ∃ S, Hid (S = sortB ((l.drop a).take (i - a))) := ⟨_, Lib.hid rfl⟩
      obtain ⟨R, HR⟩ : ∃ R, Hid (R = l.drop (i + 1)) := ⟨_, Lib.hid rfl⟩
      rw [← HP.out, ← HS.out, ← HR.out] at e1 e2
      have hPl : P.length = a := by rw [HP.out, List.length_take, HLen.out]; omega
      have hSl : S.length = i - a := by rw [HS.out, sortB_len]; simp; have := HLen.out; omega
      obtain ⟨p1, p2⟩ := p
      have HO1 : Hid (OwnP wr base 42 g n (wayL P S (p1, p2) (i - a) R)) := Lib.hid (by have := HO.out; rw [show min i b = i from by omega, e1] at this; exact this)
      have HE2 := Lib.hid e2
      clear hp e1 e2 HO HIL HP HR
      go_wp2_with fail
      obtain ⟨wo, rfl⟩ : ∃ wo : World, wo = wr := ⟨_, rfl⟩
      go_loopw [9] (fun j wr => ∃ k q : Nat, k ≤ i - a ∧ q = a + k ∧ j = .int .i64 q ∧ Hid (OwnP wr base 42 g n (wayL P S (p1, p2) k R)) ∧ Hid (w.grownBy wr (some g)) ∧ Hid (∀ (t : Nat) x, k ≤ t → S[t]? = some x → p2 < x.2)) (fun j _ => (intOf j).toNat)
      case atStart => exact ⟨i - a, i, Nat.le_refl _, by omega, rfl, HO1, HGr, Lib.hid (fun t x ht hx => by have := (List.getElem?_eq_some_iff.1 hx).1; omega)⟩
      case round =>
        obtain ⟨k, q, hk, hq, rfl, HO, HGr, HF⟩ := hrel
        clear HO1
        have HEnd : Hid ((k = 0 ∨ ∃ x, S[k - 1]? = some x ∧ x.2 ≤ p2) → insL l a (i + 1) = wayL P S (p1, p2) k R) := Lib.hid (fun h => by rw [HE2.out, putK_is (p1, p2) S k (by omega) h HF.out])
        have hqn : q < n := by omega
        cases k with
        | zero =>
          have hqa : ¬ (a : Int) < (q : Int) := by omega
          have HO3 : Hid (OwnP wr base 42 g n (insL l a (min (i + 1) b))) := Lib.hid (by rw [show min (i + 1) b = i + 1 from by omega, HEnd.out (.inl rfl)]; exact HO.out)
          go_wp2_with fail
          go_quiet (fail)
          have HO4 : Hid (OwnP (wr.drewN nq) base 42 g n (insL l a (min (i + 1) b))) := Lib.hid (HO3.out.kept (bdn (Below.refl _ _)))
          have HG4 : Hid (w.grownBy (wr.drewN nq) (some g)) := Lib.hid (grown_trans HGr.out (grown_drewN _ _ _))
          go_wp2_with fail
          go_roundw
          case rel => exact ⟨i + 1, by omega, .inl (by omega), by go_num, HO4, HG4⟩
          case measure => simp [intOf]; omega
        | succ k =>
          obtain ⟨⟨x1, x2⟩, hx⟩ : ∃ x, S[k]? = some x := ⟨_, List.getElem?_eq_getElem (by omega)⟩
          obtain ⟨m, hm⟩ : ∃ m, m = a + k := ⟨_, rfl⟩
          have hqa : (a : Int) < (q : Int) := by omega
          have hsub : (q : Int) - 1 = (m : Int) := by omega
          have hwr : IntKind.i64.wrap ((q : Int) - 1) = (m : Int) := by rw [IntWalk.i64_in _ (by omega)]; exact hsub
          have hwm : IntKind.i64.wrap (m : Int) = (m : Int) := IntWalk.i64_in _ (by omega)
          have hmn : m < n := by omega
          obtain ⟨hc1, hc2⟩ := HO.out.cell q (p1, p2) (by rw [hq, ← hPl]; exact way_here P S (p1, p2) (k + 1) R (by omega))
          obtain ⟨hd1, hd2⟩ := HO.out.cell m (x1, x2) (by rw [hm, ← hPl]; exact way_ahead P S (p1, p2) (x1, x2) k R (by omega) hx)
          dsimp only at hc1 hc2 hd1 hd2
          have HX := Lib.hid hx
          have HSw : Hid (((wayL P S (p1, p2) (k + 1) R).set q (x1, x2)).set m (p1, p2) = wayL P S (p1, p2) k R) := Lib.hid (by rw [hq, hm, ← hPl]; exact way_swap P S (p1, p2) (x1, x2) k R (by omega) hx)
          have C1 := Lib.hid (fun W => C.out p1 p2 x1 x2 W)
          have hneg := cmpI_neg p2 x2
          have HM := Lib.hid hm
          have HQ := Lib.hid hq
          clear hx hm hq
          generalize cmpI p2 x2 = cc at hneg C1
          go_upto_region 4 with fail
          go_still_tail 14, (by kernel_rfl)
          rw [show ({ heap := wr.heap, tape := wr.tape, drawn := wr.drawn + 1, os := wr.os, output := wr.output } : World) = wr.drew from rfl]
          by_cases hpx : p2 < x2
          · have hc0 : cc < 0 := by rw [decide_eq_true hpx] at hneg; exact of_decide_eq_true hneg
            have HF2 : Hid (∀ (t : Nat) x, k ≤ t → S[t]? = some x → p2 < x.2) := Lib.hid (fun t x ht hx => by
              by_cases e : t = k
              · subst e; rw [HX.out] at hx; cases hx; exact hpx
              · exact HF.out t x (by omega) hx)
            clear hneg
            go_wp2_with fail
            refine (C1.out _).mono ?_; rintro e V ⟨rfl, b1⟩
            have b2 : Below wr.heap.size wr V := below_up (bdn (n := 1) (Below.refl _ wr)) b1
            have HOV := Lib.hid (HO.out.kept b2)
            have HGV := Lib.hid (grown_trans HGr.out (grown_below b2))
            clear b1 b2 hc1 hc2 hd1 hd2
            obtain ⟨hc1, hc2⟩ := HOV.out.cell q (p1, p2) (by rw [HQ.out, ← hPl]; exact way_here P S (p1, p2) (k + 1) R (by omega))
            obtain ⟨hd1, hd2⟩ := HOV.out.cell m (x1, x2) (by rw [HM.out, ← hPl]; exact way_ahead P S (p1, p2) (x1, x2) k R (by omega) HX.out)
            dsimp only at hc1 hc2 hd1 hd2
            have f1 := HOV.out.frozen (q * 2)
            have f2 := HOV.out.frozen (q * 2 + 1)
            have f3 := HOV.out.frozen (m * 2)
            have f4 := HOV.out.frozen (m * 2 + 1)
            have n1 : ¬ m * 2 = q * 2 := by omega
            have n2 : ¬ m * 2 = q * 2 + 1 := by omega
            have n3 : ¬ m * 2 + 1 = q * 2 := by omega
            have n4 : ¬ m * 2 + 1 = q * 2 + 1 := by omega
            have O3 := HOV.out.swap q m x1 x2 p1 p2 hqn hmn
            rw [HSw.out] at O3
            have HO3 := Lib.hid (O3.kept (bdn (n := 1) (Below.refl _ _)))
            have HG3 := Lib.hid (grown_trans (grown_trans HGV.out (grown_swap V g q m (.int .i64 x1) (.int .i64 x2) (.int .i64 p1) (.int .i64 p2))) (grown_drewN _ 1 _))
            clear O3
            go_upto_region 6 with fail
            go_region
            go_wp2_with fail
            go_roundw
            case rel => exact ⟨k, m, by omega, HM.out, by first | rfl | go_num, HO3, HG3, HF2⟩
            case measure => simp [intOf]; omega
          · have hc0 : ¬ cc < 0 := by rw [decide_eq_false hpx] at hneg; exact of_decide_eq_false hneg
            have HO3 : Hid (OwnP wr base 42 g n (insL l a (min (i + 1) b))) := Lib.hid (by rw [show min (i + 1) b = i + 1 from by omega, HEnd.out (.inr ⟨_, HX.out, by show x2 ≤ p2; omega⟩)]; exact HO.out)
            clear hneg
            go_wp2_with fail
            refine (C1.out _).mono ?_; rintro e V ⟨rfl, b1⟩
            have b2 : Below wr.heap.size wr V := below_up (bdn (n := 1) (Below.refl _ wr)) b1
            have HOV := Lib.hid (HO3.out.kept b2)
            have HGV := Lib.hid (grown_trans HGr.out (grown_below b2))
            clear b1 b2 hc1 hc2 hd1 hd2
            go_wp2_with fail
            go_roundw
            case rel => exact ⟨i + 1, by omega, .inl (by omega), by go_num, HOV, HGV⟩
            case measure => simp [intOf]; omega
    · have HO3 : Hid (OwnP wr base 42 g n (insL l a b)) := Lib.hid (by have := HO.out; rw [show min i b = b from by omega] at this; exact this)
      go_wp2_with fail
      go_end0
      exact ⟨rfl, HO3.out, HGr.out⟩
end Go.Proofs.Ytpejdnmfagjfhaa
