/-
  The library's stable sort of numbers by their ranks.
  Conditions: lists of at most 2^30 numbers; the comparison is told by ranks, and makes memory alone.
-/
import Derived.WalkKit
import Derived.WalkMore
import Derived.IntWalk
import Derived.RegionTactic
import Derived.BigRegion
import Derived.Lib.Hide
import Derived.StillTailTactics
import Derived.BigQuiet
import Derived.Deep.QuietTactic
import Derived.Deep.Cut
import Derived.Deep.CutRange
import Derived.Test.YtmomjhnbhckhpaaDoorProg
import Derived.Test.YtmomjhnbhckhpaaDoorIIns
import Derived.Test.YtmomjhnbhckhpaaDoorISym3
namespace Go.Proofs.YtmomjhnbhckhpaaDoor
open Go.RowKit Go.Shelf
set_option linter.unusedVariables false

/-- sorted in pieces of s pairs -/
inductive FB (s : Nat) : PL → PL → Prop
  | last (C : PL) : C.length ≤ s → FB s (sortB C) C
  | cons (C Z L : PL) : C.length = s → FB s Z L → FB s (sortB C ++ Z) (C ++ L)
theorem FB.len {s : Nat} {Z L : PL} (h : FB s Z L) : Z.length = L.length := by
  induction h with
  | last C _ => exact sortB_len C
  | cons C Z L _ _ ih => simp [sortB_len, ih]
theorem FB.small {s : Nat} {Z L : PL} (h : FB s Z L) (hl : L.length ≤ s) : Z = sortB L := by
  cases h with
  | last C _ => rfl
  | cons C Z L hC h =>
    have h0 : L = [] := List.eq_nil_of_length_eq_zero (by simp at hl; omega)
    have h1 : Z = [] := List.eq_nil_of_length_eq_zero (by rw [h.len, h0]; rfl)
    rw [h0, h1]; simp
theorem FB.mid {s : Nat} {Z L : PL} (h : FB s Z L) (h1 : s < L.length) (h2 : L.length ≤ 2 * s) : ∃ C1 C2, C1.length = s ∧ L = C1 ++ C2 ∧ Z = sortB C1 ++ sortB C2 := by
  cases h with
  | last C hC => omega
  | cons C Z L hC h => exact ⟨C, L, hC, rfl, by rw [h.small (by simp at h2; omega)]⟩
theorem FB.two {s : Nat} {Z L : PL} (h : FB s Z L) (hs : 0 < s) (h1 : 2 * s ≤ L.length) : ∃ C1 C2 Z' L', C1.length = s ∧ C2.length = s ∧ L = C1 ++ C2 ++ L' ∧ Z = sortB C1 ++ sortB C2 ++ Z' ∧ FB s Z' L' := by
  cases h with
  | last C hC => omega
  | cons C Z L hC h =>
    cases h with
    | last _ hC2 => exact ⟨C, L, [], [], hC, by simp at h1; omega, by simp, by simp, .last [] (Nat.zero_le _)⟩
    | cons C2 Z2 L2 hC2 h => exact ⟨C, C2, Z2, L2, hC, hC2, by simp, by simp, h⟩
/-- a beginning that is sorted in pieces -/
def PreB (s : Nat) (Y L0 : PL) : Prop := ∀ Z L, FB s Z L → FB s (Y ++ Z) (L0 ++ L)
theorem PreB.nil (s : Nat) : PreB s [] [] := fun Z L h => h
theorem PreB.more {s : Nat} {Y L0 : PL} (h : PreB s Y L0) (C : PL) (hC : C.length = s) : PreB s (Y ++ sortB C) (L0 ++ C) := fun Z L k => by
  have := h _ _ (FB.cons C Z L hC k)
  simpa using this
theorem ins_tail (X l : PL) (a b : Nat) (hX : X.length = a) (hab : a ≤ b) : insL (X ++ l) a b = X ++ sortB (l.take (b - a)) ++ l.drop (b - a) := by
  subst hX
  unfold insL
  have h1 : (X ++ l).take X.length = X := List.take_left
  have h2 : (X ++ l).drop X.length = l := List.drop_left
  have h3 : (X ++ l).drop b = l.drop (b - X.length) := by rw [List.drop_append, List.drop_eq_nil_of_le hab, List.nil_append]
  rw [h1, h2, h3]
theorem sortB_twice (C1 C2 : PL) : sortB (sortB C1 ++ sortB C2) = sortB (C1 ++ C2) := by
  refine sortB_is ⟨(sortB_stab _).1, fun v => ?_⟩
  rw [(sortB_stab _).2, ofB_app, ofB_app, (sortB_stab C1).2, (sortB_stab C2).2]

set_option maxRecDepth 100000 in
set_option maxHeartbeats 1500000 in
theorem stableZ_any (w0 : World) (Kg : Int × Int → Prop) (G : FuncId) (cap0 : Value) (hent : ∀ args w, (callFunc G args).run Tryd.prog w = .ok (.enter G args) w) (base g n : Nat) (hC : CmpOK w0 g Kg G cap0) (l : PL) (w : World) (hn : n ≤ 1073741824) (hO : OwnZ w0 Kg w base g n l) :
    Calls Tryd.prog 54 #[.slice (some ⟨g, 0, none⟩) n n, .int .i64 n, .func (.func G) #[] #[cap0]] w fun e w' => e = .returned (.tuple #[]) ∧ OwnZ w0 Kg w' base g n (sortB l) ∧ w.grownBy w' (some g) := by
  have hl := hO.len
  have CI := Lib.hid (fun l a b w (h1 : a ≤ b) (h2 : b ≤ n) h3 => insertionZ_any w0 Kg G cap0 hent base g n hC l a b w (by omega) h1 h2 h3)
  have CS := Lib.hid (fun (P A B R : PL) (a m b : Nat) w h1 h2 h3 h4 h5 h6 h7 h8 => symZ_any w0 Kg G cap0 hent (A.length + B.length) base g n hC P A B R a m b w (by omega) (Nat.le_refl _) h1 h2 h3 h4 h5 h6 h7 h8)
  have HLen := Lib.hid hl
  have HO0 := Lib.hid hO
  have G0 : Hid (w.grownBy w (some g)) := Lib.hid ⟨rfl, rfl, rfl, Nat.le_refl _, fun _ _ _ => rfl⟩
  clear hO hl hC
  go_enter Tryd.func54, Tryd.ntmps54
  go_wp2_with fail
  go_loopw [7, 8] (fun u v wr => ∃ (a b : Nat) (X : PL), b = a + 20 ∧ a ≤ n ∧ u = .int .i64 a ∧ v = .int .i64 b ∧ Hid (X.length = a ∧ PreB 20 X (l.take a)) ∧ Hid (OwnZ w0 Kg wr base g n (X ++ l.drop a)) ∧ Hid (w.grownBy wr (some g))) (fun u _ _ => n - (intOf u).toNat)
  case atStart => exact ⟨0, 20, [], rfl, Nat.zero_le _, rfl, rfl, Lib.hid ⟨rfl, by rw [List.take_zero]; exact PreB.nil 20⟩, Lib.hid (by simpa using HO0.out), G0⟩
  case round =>
    obtain ⟨a, b, X, hb, han, rfl, rfl, HX, HO, HGr⟩ := hrel
    by_cases hle : b ≤ n
    · have C1 := Lib.hid (CI.out _ a b wr (by omega) hle HO.out)
      have hXl := HX.out.1
      have hE : insL (X ++ l.drop a) a b = (X ++ sortB ((l.drop a).take 20)) ++ l.drop b := by
        rw [ins_tail X (l.drop a) a b hXl (by omega), show b - a = 20 from by omega, List.drop_drop, show a + 20 = b from by omega]
      rw [hE] at C1
      have hCl : ((l.drop a).take 20).length = 20 := by rw [List.length_take, List.length_drop, HLen.out]; omega
      have HX2 : Hid ((X ++ sortB ((l.drop a).take 20)).length = b ∧ PreB 20 (X ++ sortB ((l.drop a).take 20)) (l.take b)) := Lib.hid (by
        refine ⟨by rw [List.length_append, sortB_len, hCl]; omega, ?_⟩
        have := HX.out.2.more _ hCl
        rw [show l.take a ++ (l.drop a).take 20 = l.take b from by rw [hb]; exact (List.take_add).symm] at this
        exact this)
      obtain ⟨b2, hb2⟩ : ∃ b2, b2 = b + 20 := ⟨_, rfl⟩
      have hs2 : (b : Int) + 20 = (b2 : Int) := by omega
      have hw2 : IntKind.i64.wrap ((b : Int) + 20) = (b2 : Int) := by rw [IntWalk.i64_in _ (by omega)]; exact hs2
      have HB2 := Lib.hid hb2
      have hab : a < b := by omega
      clear hE hXl hCl HX HO hb hb2
      go_wp2_with fail
      refine C1.out.mono ?_; rintro e w2 ⟨rfl, h1, h2⟩
      have H1 := Lib.hid h1
      have H2 := Lib.hid (grown_trans HGr.out h2)
      clear h1 h2
      go_wp2_with fail
      go_roundw
      case rel => exact ⟨b, b2, _, HB2.out, hle, rfl, by first | rfl | go_num, HX2, H1, H2⟩
      case measure => simp [intOf]; omega
    · have C1 := Lib.hid (CI.out _ a n wr han (Nat.le_refl _) HO.out)
      have hXl := HX.out.1
      have hE : insL (X ++ l.drop a) a n = X ++ sortB (l.drop a) := by
        have h1 : (l.drop a).drop (n - a) = [] := by rw [List.drop_drop]; exact List.drop_eq_nil_of_le (by rw [HLen.out]; omega)
        have h2 : (l.drop a).take (n - a) = l.drop a := List.take_of_length_le (by rw [List.length_drop, HLen.out]; exact Nat.le_refl _)
        rw [ins_tail X (l.drop a) a n hXl han, h2, h1, List.append_nil]
      rw [hE] at C1
      have HF0 : Hid (FB 20 (X ++ sortB (l.drop a)) l) := Lib.hid (by
        have := HX.out.2 _ _ (FB.last (s := 20) (l.drop a) (by rw [List.length_drop, HLen.out]; omega))
        rwa [List.take_append_drop] at this)
      clear hE hXl HX HO hb
      generalize X ++ sortB (l.drop a) = D0 at C1 HF0
      go_wp2_with fail
      refine C1.out.mono ?_; rintro e w1 ⟨rfl, h1, h2⟩
      have H1 := Lib.hid h1
      have H2 := Lib.hid (grown_trans HGr.out h2)
      clear h1 h2 HGr
      go_wp2_with fail
      obtain ⟨wo, rfl⟩ : ∃ wo : World, wo = wr := ⟨_, rfl⟩
      go_loopw [6] (fun u wr => ∃ (s : Nat) (D : PL), 0 < s ∧ s ≤ 2147483648 ∧ u = .int .i64 s ∧ Hid (FB s D l) ∧ Hid (OwnZ w0 Kg wr base g n D) ∧ Hid (w.grownBy wr (some g))) (fun u _ => n - (intOf u).toNat)
      case atStart => exact ⟨20, D0, by decide, by decide, rfl, HF0, H1, H2⟩
      case round =>
        obtain ⟨s, D, hs0, hs1, rfl, HF, HO, HGr⟩ := hrel
        by_cases hsn : s < n
        · obtain ⟨s2, hs2⟩ : ∃ s2, s2 = 2 * s := ⟨_, rfl⟩
          have e2 : 2 * (s : Int) = (s2 : Int) := by omega
          have e2' : (s : Int) * 2 = (s2 : Int) := by omega
          have w2 : IntKind.i64.wrap (2 * (s : Int)) = (s2 : Int) := by rw [IntWalk.i64_in _ (by omega)]; exact e2
          have w2' : IntKind.i64.wrap ((s : Int) * 2) = (s2 : Int) := by rw [IntWalk.i64_in _ (by omega)]; exact e2'
          have HS2 := Lib.hid hs2
          have hss : s < s2 := by omega
          have hs2l : s2 ≤ 2147483648 := by omega
          clear hs2
          go_wp2_with fail
          obtain ⟨wp, HWp⟩ : ∃ wp : World, Hid (wp = wr) := ⟨_, Lib.hid rfl⟩
          rw [← HWp.out]
          rw [← HWp.out] at HO HGr
          clear HWp
          go_loopw [7, 8] (fun u v wr => ∃ (a b : Nat) (Y Z L0 L : PL), b = a + s2 ∧ a ≤ n ∧ u = .int .i64 a ∧ v = .int .i64 b ∧ Hid (Y.length = a ∧ PreB s2 Y L0 ∧ l = L0 ++ L ∧ FB s Z L ∧ L.length + a = n) ∧ Hid (OwnZ w0 Kg wr base g n (Y ++ Z)) ∧ Hid (w.grownBy wr (some g))) (fun u _ _ => n - (intOf u).toNat)
          case atStart => exact ⟨0, s2, [], D, [], l, by omega, Nat.zero_le _, rfl, by first | rfl | go_num, Lib.hid ⟨rfl, PreB.nil s2, rfl, HF.out, HLen.out⟩, Lib.hid (by simpa using HO.out), HGr⟩
          case round =>
            obtain ⟨a, b, Y, Z, L0, L, hb, han, rfl, rfl, HY, HO, HGr⟩ := hrel
            obtain ⟨m, hm⟩ : ∃ m, m = a + s := ⟨_, rfl⟩
            have em : (a : Int) + (s : Int) = (m : Int) := by omega
            have wm : IntKind.i64.wrap ((a : Int) + (s : Int)) = (m : Int) := by rw [IntWalk.i64_in _ (by omega)]; exact em
            by_cases hle : b ≤ n
            · obtain ⟨y1, y2, y3, y4, y5⟩ := HY.out
              have hS2 := HS2.out
              obtain ⟨C1, C2, Z', L', c1, c2, rfl, rfl, f⟩ := y4.two hs0 (by omega)
              have K := Lib.hid (CS.out Y (sortB C1) (sortB C2) Z' a m b wr y1.symm (by rw [sortB_len]; omega) (by rw [sortB_len]; omega) (by rw [sortB_len]; omega) (by rw [sortB_len]; omega) (sortB_stab C1).1 (sortB_stab C2).1 (by have := HO.out; simpa using this))
              rw [sortB_twice] at K
              have HY2 : Hid ((Y ++ sortB (C1 ++ C2)).length = b ∧ PreB s2 (Y ++ sortB (C1 ++ C2)) (L0 ++ (C1 ++ C2)) ∧ l = L0 ++ (C1 ++ C2) ++ L' ∧ FB s Z' L' ∧ L'.length + b = n) := Lib.hid ⟨by simp [sortB_len]; omega, y2.more (C1 ++ C2) (by simp; omega), by rw [y3]; simp, f, by simp at y5; omega⟩
              obtain ⟨b2, hb2⟩ : ∃ b2, b2 = b + s2 := ⟨_, rfl⟩
              have e3 : (b : Int) + (s2 : Int) = (b2 : Int) := by omega
              have w3 : IntKind.i64.wrap ((b : Int) + (s2 : Int)) = (b2 : Int) := by rw [IntWalk.i64_in _ (by omega)]; exact e3
              have HB2 := Lib.hid hb2
              have hab : a < b := by omega
              clear y1 y2 y3 y4 y5 f c1 c2 hS2 HY HO hb hb2 hm
              go_wp2_with fail
              refine K.out.mono ?_; rintro e w5 ⟨rfl, h1, h2⟩
              have H1 := Lib.hid h1
              have H2 := Lib.hid (grown_trans HGr.out h2)
              clear h1 h2
              go_wp2_with fail
              go_roundw
              case rel => exact ⟨b, b2, _, _, _, _, HB2.out, hle, rfl, by first | rfl | go_num, HY2, H1, H2⟩
              case measure => simp [intOf]; omega
            · obtain ⟨y1, y2, y3, y4, y5⟩ := HY.out
              have hS2 := HS2.out
              by_cases hmn : m < n
              · obtain ⟨C1, C2, c1, rfl, rfl⟩ := y4.mid (by omega) (by omega)
                have hc2 : C2.length = n - m := by simp at y5; omega
                have K := Lib.hid (CS.out Y (sortB C1) (sortB C2) [] a m n wr y1.symm (by rw [sortB_len]; omega) (by rw [sortB_len]; omega) (by rw [sortB_len]; omega) (by rw [sortB_len]; omega) (sortB_stab C1).1 (sortB_stab C2).1 (by have := HO.out; simpa using this))
                rw [sortB_twice, List.append_nil] at K
                have HF2 : Hid (FB s2 (Y ++ sortB (C1 ++ C2)) l) := Lib.hid (by rw [y3]; exact y2 _ _ (FB.last _ (by simp; omega)))
                clear y1 y2 y3 y4 y5 c1 hc2 hS2 HY HO hb hm
                go_wp2_with fail
                refine K.out.mono ?_; rintro e w5 ⟨rfl, h1, h2⟩
                have H1 := Lib.hid h1
                have H2 := Lib.hid (grown_trans HGr.out h2)
                clear h1 h2
                go_wp2_with fail
                go_roundw
                case rel => exact ⟨s2, _, by omega, hs2l, by first | rfl | go_num, HF2, H1, H2⟩
                case measure => simp [intOf]; omega
              · have hz := y4.small (by omega)
                have HF2 : Hid (FB s2 (Y ++ Z) l) := Lib.hid (by rw [y3, hz]; exact y2 _ _ (FB.last _ (by omega)))
                clear y1 y2 y3 y4 y5 hS2 HY hb hm hz
                go_wp2_with fail
                go_roundw
                case rel => exact ⟨s2, _, by omega, hs2l, by first | rfl | go_num, HF2, HO, HGr⟩
                case measure => simp [intOf]; omega
        · have hz := HF.out.small (by rw [HLen.out]; omega)
          have HO2 : Hid (OwnZ w0 Kg wr base g n (sortB l)) := Lib.hid (by rw [← hz]; exact HO.out)
          clear HO hz HF
          go_wp2_with fail
          go_end0
          exact ⟨rfl, HO2.out, HGr.out⟩
set_option maxRecDepth 100000 in
theorem sortStableZ_any (w0 : World) (Kg : Int × Int → Prop) (G : FuncId) (cap0 : Value) (hent : ∀ args w, (callFunc G args).run Tryd.prog w = .ok (.enter G args) w) (base g n : Nat) (hC : CmpOK w0 g Kg G cap0) (l : PL) (w : World) (hn : n ≤ 1073741824) (hO : OwnZ w0 Kg w base g n l) :
    Calls Tryd.prog 26 #[.slice (some ⟨g, 0, none⟩) n n, .func (.func G) #[] #[cap0]] w fun e w' => e = .returned (.tuple #[]) ∧ OwnZ w0 Kg w' base g n (sortB l) ∧ w.grownBy w' (some g) := by
  have C := Lib.hid (stableZ_any w0 Kg G cap0 hent base g n hC l w hn hO)
  clear hO hC
  go_enter Tryd.func26, Tryd.ntmps26
  go_wp2_with fail
  refine C.out.mono ?_; rintro e w1 ⟨rfl, h1, h2⟩
  have H1 := Lib.hid h1
  have H2 := Lib.hid h2
  clear h1 h2
  go_wp2_with fail
  go_end0
  exact ⟨rfl, H1.out, H2.out⟩
end Go.Proofs.YtmomjhnbhckhpaaDoor
