/-
  The records of a text, told one by one to a range over a function: all of them, or none beside the first fault.
  Conditions: the text is at most 2^40 bytes long (the statements ask about far shorter ones).
-/
import Derived.Shelf.Abstract
import Derived.Shelf.RegionOpen
import Derived.WalkKit
import Derived.WalkMore
import Derived.OwnWalkIn
import Derived.TacticsInMore
import Derived.LoopNIn
import Derived.LoopIn
import Derived.Lib.Hide
import Derived.Test.YtacclgfpmkhodaaProg
import Derived.Test.YtacclgfpmkhodaaCsvField
namespace Go.Proofs.Ytacclgfpmkhodaa
open Go.RowKit Go.Shelf
attribute [local go_sem] Oper.semAt_some

/-- what a round is handed: a record, and a fault -/
structure Told where
  ao : Option Addr
  cap : Nat
  xs : List ByteArray
  at' : Int
  err : Nat
def toldV (x : Told) : Array Value := #[.slice x.ao x.xs.length x.cap, .agg #[.int .i64 x.at', .int .i64 (x.err : Int)]]
def recsT (pre : List Told) : Recs := pre.map fun x => bytesOf x.xs
def Kept3 (a b c : Nat) (A B : World) : Prop := B.cell? ⟨a, 0, none⟩ = A.cell? ⟨a, 0, none⟩ ∧ B.cell? ⟨b, 0, none⟩ = A.cell? ⟨b, 0, none⟩ ∧ B.cell? ⟨c, 0, none⟩ = A.cell? ⟨c, 0, none⟩
def rowV (x : Told) : Value := .slice x.ao x.xs.length x.cap
def rowAt (x : Told) (W : World) : Prop := W.ownsRow 0 9 1 (rowV x) x.xs.length (x.xs.map Value.string)
def toldOk (pre : List Told) (x : Told) (W : World) : Prop := x.err = 0 → rowAt x W ∧ pre.length < 2048
theorem own_mono {w : World} {base base' : Nat} {e : TypeId} {size : Nat} {v : Value} {n : Nat} {xs : List Value} (h : w.ownsRow base e size v n xs) (hb : base' ≤ base) : w.ownsRow base' e size v n xs := by
  refine ⟨h.1, ?_⟩
  rcases h.2 with h0 | ⟨g, cap, cur, h1, h2, h3⟩
  · exact .inl h0
  · exact .inr ⟨g, cap, cur, h1, by omega, h3⟩
def hasLen (Bl : Nat) (pre : List Told) (W : World) : Prop := ∃ ao cap, W.cell? ⟨Bl, 0, none⟩ = some (.slice ao pre.length cap)
def toldAll (R : Recs × Int × Nat) (pre : List Told) : Prop := (∀ x ∈ pre, x.err = 0) → R = (recsT pre, 0, 0)
def toldStop (R : Recs × Int × Nat) (pre : List Told) : Prop := ∃ init x, pre = init ++ [x] ∧ (x.err ≠ 0 → R = ([], x.at', x.err))
theorem recsT_snoc (pre : List Told) (x : Told) : recsT (pre ++ [x]) = recsT pre ++ [bytesOf x.xs] := by simp [recsT]
theorem bytes_snoc (xs : List ByteArray) (t : ByteArray) : bytesOf (xs ++ [t]) = bytesOf xs ++ [t.data.toList] := by simp [bytesOf]
theorem fits_eq (pre : List Told) (xs : List ByteArray) : fitsB (recsT pre) (bytesOf xs) = (decide (pre.length < 2048) && decide (xs.length < 128)) := by simp [fitsB, recsT, bytesOf]
/-- a row of strings that is owned is a slice of strings -/
theorem own_row {w : World} {base : Nat} {e : TypeId} {ro : Option Addr} {n cp : Nat} {xs : List ByteArray} (h : w.ownsRow base e 1 (.slice ro n cp) n (xs.map Value.string)) : StrRow w ro xs := by
  rcases h.2 with ⟨hv, h0⟩ | ⟨g, cap, cur, hv, _, hg, _⟩
  · have := h.1; simp at this; exact .inl (List.eq_nil_of_length_eq_zero (by omega))
  · cases hv
    refine .inr ⟨_, rfl, (h.lt g rfl).2, fun i c hc => h.cells rfl i _ (by rw [List.getElem?_map, hc]; rfl)⟩

theorem below_up2 {a b c : World} (h : Below a.heap.size a b) (k : Below b.heap.size b c) : Below a.heap.size a c := below_up h k
theorem own_below {w w' : World} {base : Nat} {e : TypeId} {size : Nat} {v : Value} {n : Nat} {xs : List Value} (h : w.ownsRow base e size v n xs) (b : Below w.heap.size w w') : w'.ownsRow base e size v n xs :=
  h.kept (row := none) ⟨b.os, b.tape, b.output, b.size, fun i hi _ => b.block i hi⟩ (by
    cases v.ownBlock with
    | none => exact .inl rfl
    | some g => exact .inr (by simp))
def Mid (l : List UInt8) (d : Int) (R : Recs × Int × Nat) (pre : List Told) (a0 a kd : Nat) (xs : List ByteArray) : Prop :=
  (kd = 1 ∧ (xs = [] → a = a0) ∧ (xs ≠ [] → a0 < a) ∧ ∃ f, enough l a (bytesOf xs) f ∧ R = readL l d f a (recsT pre) (bytesOf xs)) ∨
  (kd ≠ 1 ∧ a0 < a ∧ pre.length < 2048 ∧ ∃ f, enough l a [] f ∧ R = readL l d f a (recsT pre ++ [bytesOf xs]) [])
theorem bytes_nil (xs : List ByteArray) : bytesOf xs = [] ↔ xs = [] := by simp [bytesOf]
theorem mid_step (l : List UInt8) (d : Int) (R : Recs × Int × Nat) (pre : List Told) (a0 a : Nat) (xs : List ByteArray) (h0 : a0 < l.length) (h : Mid l d R pre a0 a 1 xs) (t : ByteArray) (n : Int) (k : Nat)
    (hc : cellOut l a d (fitsB (recsT pre) (bytesOf xs)) = (t.data.toList, n, k, 0)) : ∃ to : Nat, n = (to : Int) ∧ to ≤ l.length ∧ a ≤ to ∧ (k = 1 → a < to) ∧ xs.length < 128 ∧ Mid l d R pre a0 to k (xs ++ [t]) := by
  rcases h with ⟨_, h1, h2, f, h3, h4⟩ | ⟨h1, _⟩
  · obtain ⟨hf, _, _, to, rfl, e1, e2, e3⟩ := cell_ok _ _ _ _ _ _ _ hc
    have hr : bytesOf xs ≠ [] ∨ a < l.length := by
      by_cases he : xs = []
      · right; rw [h1 he]; exact h0
      · left; exact fun e => he ((bytes_nil xs).1 e)
    rw [fits_eq] at hf
    simp only [Bool.and_eq_true, decide_eq_true_eq] at hf
    have hlt : a0 < to := by
      by_cases he : xs = []
      · have := h1 he; omega
      · have := h2 he; omega
    refine ⟨to, rfl, e2, e1, fun hk => by omega, hf.2, ?_⟩
    by_cases hk : k = 1
    · subst hk
      obtain ⟨f', g1, g2⟩ := read_more l d f a (recsT pre) (bytesOf xs) h3 hr _ _ hc
      rw [Int.toNat_natCast] at g1 g2
      exact .inl ⟨rfl, fun e => by simp at e, fun _ => hlt, f', by rw [bytes_snoc]; exact g1, by rw [bytes_snoc, h4, g2]⟩
    · obtain ⟨f', g1, g2⟩ := read_next l d f a (recsT pre) (bytesOf xs) h3 hr _ _ k hk hc
      rw [Int.toNat_natCast] at g1 g2
      exact .inr ⟨hk, hlt, hf.1, f', g1, by rw [bytes_snoc, h4, g2]⟩
  · exact absurd rfl h1
theorem mid_less (S to a k1 : Nat) (h : k1 = 1 → a < to) (ha : to ≤ S) : (if intOf (.int .i64 (k1 : Int)) = 1 then S - (intOf (.int .i64 (to : Int))).toNat + 1 else 0) < (if intOf (.int .i64 ((1 : Nat) : Int)) = 1 then S - (intOf (.int .i64 (a : Int))).toNat + 1 else 0) := by
  rw [if_pos (show intOf (.int .i64 ((1 : Nat) : Int)) = 1 from rfl)]
  by_cases hk : k1 = 1
  · rw [if_pos (show intOf (.int .i64 (k1 : Int)) = 1 by show (k1 : Int) = 1; omega)]
    show S - ((to : Int)).toNat + 1 < S - ((a : Int)).toNat + 1
    have := h hk
    simp only [Int.toNat_natCast]; omega
  · rw [if_neg (show ¬ intOf (.int .i64 (k1 : Int)) = 1 by show ¬ (k1 : Int) = 1; omega)]; omega
theorem mid_err (l : List UInt8) (d : Int) (R : Recs × Int × Nat) (pre : List Told) (a0 a : Nat) (xs : List ByteArray) (h0 : a0 < l.length) (h : Mid l d R pre a0 a 1 xs) (t : List UInt8) (n : Int) (k e : Nat) (he : e ≠ 0)
    (hc : cellOut l a d (fitsB (recsT pre) (bytesOf xs)) = (t, n, k, e)) : R = ([], n, e) := by
  rcases h with ⟨_, h1, h2, f, h3, h4⟩ | ⟨h1, _⟩
  · have hr : bytesOf xs ≠ [] ∨ a < l.length := by
      by_cases he : xs = []
      · right; rw [h1 he]; exact h0
      · left; exact fun e => he ((bytes_nil xs).1 e)
    rw [h4, read_err l d f a (recsT pre) (bytesOf xs) h3 hr t n k e hc he]
  · exact absurd rfl h1

set_option maxRecDepth 100000 in
set_option maxHeartbeats 4000000 in
theorem records1_tells (n : Nat) (s : ByteArray) (d : Int) (Bs Bd Br Bl : Nat) (hs : s.size ≤ 1099511627776) (w : World) (hBs : w.cell? ⟨Bs, 0, none⟩ = some (.string s)) (hBd : w.cell? ⟨Bd, 0, none⟩ = some (.int .u8 d))
    (hBr : w.cell? ⟨Br, 0, none⟩ = some (.func (.func 12) #[] #[ptr Bl])) (hls : Bs < w.heap.size) (hld : Bd < w.heap.size) (hlr : Br < w.heap.size) :
    Tells Fence.wide n Try.prog 26 #[ptr Bs, ptr Br, ptr Bd] toldV (Kept3 Bs Br Bd) toldOk (hasLen Bl) (toldAll (readL s.data.toList d (2 * s.data.toList.length + 1) 0 [] [])) (toldStop (readL s.data.toList d (2 * s.data.toList.length + 1) 0 [] [])) w := by
  intro l J Jx W hW hJ hJx hRm hY h0
  have hent := enters_of Try.func12 (by kernel_rfl) rfl
  have c1 := (hW.cell (p := ⟨Bs, 0, none⟩) hls).trans hBs
  have c2 := (hW.cell (p := ⟨Bd, 0, none⟩) hld).trans hBd
  have c3 := (hW.cell (p := ⟨Br, 0, none⟩) hlr).trans hBr
  have hinfo : (Try.prog.info? 9).map (fun i => (i.zero, i.size, i.bytes)) = some (some (.string ⟨#[]⟩), 1, 16) := by kernel_rfl
  obtain ⟨i0, hi, hz0, hz1, hz2⟩ := info_parts hinfo
  have HI := Lib.hid hi
  have HJ := Lib.hid hJ
  have HRm := Lib.hid hRm
  have HY := Lib.hid hY
  have HS0 : Hid (∃ f, enough s.data.toList 0 [] f ∧ readL s.data.toList d (2 * s.data.toList.length + 1) 0 [] [] = readL s.data.toList d f 0 (recsT []) []) := Lib.hid ⟨2 * s.data.toList.length + 1, by unfold enough; simp, rfl⟩
  obtain ⟨R, HR⟩ : ∃ R, Hid (R = readL s.data.toList d (2 * s.data.toList.length + 1) 0 [] []) := ⟨_, Lib.hid rfl⟩
  rw [← HR.out] at HS0 ⊢
  have H0 := Lib.hid h0
  clear hi hinfo hJ hRm hY hJx hW hBs hBd hBr hls hld hlr HR h0
  unfold ptr
  unfold ptr at c3
  refine callsIn_of_wp Try.func26 rfl trivial ?_ rfl
  simp only [Try.ntmps26, List.size_toArray, List.length_cons, List.length_nil, Nat.reduceAdd, Nat.reduceSub, Array.replicate_succ, Array.replicate_zero, List.push_toArray, List.append_toArray, List.nil_append, List.cons_append]
  gi_wp2_with fail
  refine wpIn_wide.2 (wp_scope_straight ((wpIn_wide (n := n)).1 ?_))
  gi_wp2_with fail
  refine wpIn_wide.2 (wp_label ?_)
  gi_wp2_with fail
  gi_loopw [5] (fun i wr => ∃ (a : Nat) (pre : List Told), a ≤ s.size ∧ pre.length ≤ 2048 ∧ i = .int .i64 a ∧ (wr.cell? ⟨Bs, 0, none⟩ = some (.string s) ∧ wr.cell? ⟨Bd, 0, none⟩ = some (.int .u8 d) ∧ wr.cell? ⟨Br, 0, none⟩ = some (.func (.func 12) #[] #[.pointer (some ⟨Bl, 0, none⟩)])) ∧
    Hid (J pre wr) ∧ Hid (∀ x ∈ pre, x.err = 0) ∧ Hid (∃ f, enough s.data.toList a [] f ∧ R = readL s.data.toList d f a (recsT pre) [])) (fun i _ => s.size - (intOf i).toNat)
  case atStart => exact ⟨0, [], Nat.zero_le _, by simp, rfl, ⟨c1, c2, c3⟩, H0, Lib.hid (fun x hx => by cases hx), HS0⟩
  case round =>
    obtain ⟨a0, pre, ha0, hpl, rfl, ⟨k1, k2, k3⟩, HJ0, HE, HS⟩ := hrel
    have l1 := block_lt_of_cell k1
    have l2 := block_lt_of_cell k2
    have l3 := block_lt_of_cell k3
    by_cases hlt : a0 < s.size
    · have hlt' : a0 < s.data.toList.length := by rw [ba_size]; exact hlt
      have K1 := Lib.hid k1; have K2 := Lib.hid k2; have K3 := Lib.hid k3
      have HLT := Lib.hid hlt'
      clear hlt' c1 c2 c3
      gi_wp2_with fail
      clear k1 k2 k3
      obtain ⟨wo, rfl⟩ : ∃ wo : World, wo = wr := ⟨_, rfl⟩
      gi_loopw [5, 6, 7] (fun i r q wi => ∃ (a m cp kd : Nat) (ro : Option Addr) (xs : List ByteArray), a ≤ s.size ∧ xs.length ≤ 128 ∧ i = .int .i64 a ∧ r = .slice ro m cp ∧ m = xs.length ∧ q = .int .i64 kd ∧ Hid (Mid s.data.toList d R pre a0 a kd xs) ∧
        Hid (wi.ownsRow wo.heap.size 9 1 (.slice ro m cp) m (xs.map Value.string)) ∧ Hid (Below wo.heap.size wo wi)) (fun i _ q _ => if intOf q = 1 then s.size - (intOf i).toNat + 1 else 0)
      case atStart => exact ⟨a0, 0, 0, 1, none, [], ha0, by simp, rfl, rfl, rfl, rfl, Lib.hid (.inl ⟨rfl, fun _ => rfl, fun h => absurd rfl h, HS.out⟩), Lib.hid (World.ownsRow_nil _ _ _ _), Lib.hid (Below.refl _ _)⟩
      case round =>
        obtain ⟨a, m, cp, kd, ro, xs, ha, hx, rfl, rfl, rfl, rfl, HM, HO, HB⟩ := hrel
        have q1 := (HB.out.cell (p := ⟨Bs, 0, none⟩) l1).trans K1.out
        have q2 := (HB.out.cell (p := ⟨Bd, 0, none⟩) l2).trans K2.out
        have q3 := (HB.out.cell (p := ⟨Br, 0, none⟩) l3).trans K3.out
        have HJ1 := Lib.hid (HJ.out pre wo wr HJ0.out HB.out)
        by_cases hk : kd = 1
        · subst hk
          obtain ⟨lo, lc, hl⟩ := HRm.out pre wr HJ1.out
          have Cr := Lib.hid (room_any Bl lo pre.length lc wr (by omega) hl)
          have HF := Lib.hid (fits_eq pre xs)
          have HMe := Lib.hid (fun t n k e => mid_err _ _ _ _ _ _ _ HLT.out HM.out t n k e)
          have HMs := Lib.hid (fun t n k => mid_step _ _ _ _ _ _ _ HLT.out HM.out t n k)
          clear hl HM
          cases hroom : decide (pre.length < 2048) with
          | false =>
            rw [hroom] at Cr
            rw [hroom, Bool.false_and] at HF
            rw [HF.out] at HMe
            have Cx := Lib.hid (fun W => csvField_any s a d false W hs ha)
            rw [show cellOut s.data.toList a d false = ([], (a : Int), 0, 7) from rfl] at Cx HMe
            have E := Lib.hid (HMe.out [] (a : Int) 0 7 (by decide) rfl)
            simp only [fieldV] at Cx
            clear HMe HMs hroom HF
            gi_wp2_with fail
            refine ⟨trivial, (fun h => by cases h), (callsIn_wide.2 Cr.out).mono ?_⟩; rintro e1 w1 ⟨rfl, rfl⟩
            gi_wp2_with fail
            refine ⟨trivial, ?_⟩
            gi_wp2_with fail
            refine ⟨trivial, (fun h => by cases h), (callsIn_wide.2 (Cx.out _)).mono ?_⟩; rintro e2 w2 ⟨rfl, b2⟩
            obtain ⟨fn, tmps, assign, body, hy, hRd⟩ := HY.out pre ⟨none, 0, [], (a : Int), 7⟩ w2 (HJ.out pre wr w2 HJ1.out b2) (fun h => by cases h)
            change (Instr.yield l #[.slice none 0 0, .agg #[.int .i64 (a : Int), .int .i64 7]]).run _ _ = _ at hy
            clear q1 q2 q3 b2
            gi_wp2_with fail
            refine ⟨(fun h => by cases h), hRd.mono ?_⟩
            rintro e3 w3 (⟨rfl, hJ3, _⟩ | ⟨rfl, hJx3⟩)
            · gi_wp2_with fail
              (first | go_end0 | (simp only [Exit.noGoto]; go_end0))
              exact ⟨⟨_, rfl⟩, .inl ⟨_, fun h => absurd (h ⟨none, 0, [], (a : Int), 7⟩ (by simp)) (by simp), hJ3⟩⟩
            · gi_wp2_with fail
              (first | go_end0 | (simp only [Exit.noGoto]; go_end0))
              exact ⟨⟨_, rfl⟩, .inr ⟨_, ⟨pre, _, rfl, fun _ => E.out⟩, hJx3⟩⟩
          | true =>
            rw [hroom] at Cr
            rw [hroom, Bool.true_and] at HF
            have Cl := Lib.hid (fun W => largeR_any ro xs.length cp 1 128 W (by omega) (by decide))
            have EN := Lib.hid (notb xs.length 128)
            have Cx := Lib.hid (fun W => csvField_any s a d (!decide (128 < xs.length + 1)) W hs ha)
            rw [EN.out, ← HF.out] at Cx
            obtain ⟨x, Hx⟩ : ∃ x, Hid (x = cellOut s.data.toList a d (fitsB (recsT pre) (bytesOf xs))) := ⟨_, Lib.hid rfl⟩
            rw [← Hx.out] at Cx HMe HMs
            have Cx' : Hid (∀ W, Calls Try.prog 28 #[.string s, .int .i64 a, .int .u8 d, .bool (!decide (128 < xs.length + 1))] W fun e w' => e = .returned (fieldV x) ∧ Below W.heap.size W w') := Lib.hid (by rw [EN.out, ← HF.out]; exact Cx.out)
            clear Cx HF EN Hx hroom
            obtain ⟨t, n1, k1, e1⟩ := x
            simp only [fieldV] at Cx'
            obtain ⟨T, HT⟩ : ∃ T : ByteArray, Hid (T = ⟨t.toArray⟩) := ⟨_, Lib.hid rfl⟩
            rw [← HT.out] at Cx'
            gi_wp2_with fail
            refine ⟨trivial, (fun h => by cases h), (callsIn_wide.2 Cr.out).mono ?_⟩; rintro e1' w1 ⟨rfl, rfl⟩
            gi_wp2_with fail
            refine ⟨trivial, (fun h => by cases h), (callsIn_wide.2 (Cl.out _)).mono ?_⟩; rintro e1' w1 ⟨rfl, rfl⟩
            gi_wp2_with fail
            refine ⟨trivial, (fun h => by cases h), (callsIn_wide.2 (Cx'.out _)).mono ?_⟩; rintro e2 w2 ⟨rfl, b2⟩
            clear Cx' Cl Cr
            by_cases he : e1 = 0
            · subst he
              obtain ⟨to, rfl, h1, h2, h3, h4, h5⟩ := HMs.out T n1 k1 (by rw [HT.out])
              rw [ba_size] at h1
              have HM5 := Lib.hid h5
              have H3 := Lib.hid h3
              clear HMs HMe h5 h3
              have HB2 := Lib.hid (below_up2 HB.out b2)
              have HO2 : Hid ((w2.alloc (.cells #[.string T] 9)).ownsRow wo.heap.size 9 1 (.slice ro xs.length cp) xs.length (xs.map Value.string)) := Lib.hid ((own_below HO.out b2).alloc _)
              clear q1 q2 q3 b2 HO
              gi_wp2_with (gi_at_builtin; refine wpListIn_append_own _ rfl _ _ 31 rfl wo.heap.size 9 i0 (.string ⟨#[]⟩) 1 16 Try.underlying31 HI.out hz0 hz1 hz2 rfl (by decide) _ _ _ rfl HO2.out ⟨w2.heap.size, 0, none⟩ 1 1 [.string T] rfl rfl ?c1 ?c2 ?c3 ?c4 ?c5 ?_)
              case c1 =>
                intro j u hj
                rw [cell_row (World.alloc_heap_new w2 _)]
                match j, hj with
                | 0, hj => simp at hj; subst hj; rfl
              case c2 => intro u hu; simp at hu; subst hu; rfl
              case c3 => unfold maxLen; omega
              case c4 => omega
              case c5 => have := HB2.out.size; simp; omega
              intro v' w3 hown' hgrow _
              obtain ⟨g, cp', rfl⟩ := ownsRow_succ hown'
              have HB3 : Hid (Below wo.heap.size wo w3) := Lib.hid ((HB2.out.alloc HB2.out.size _).grown hgrow (by have := HB2.out.size; simp; omega) (fun j hj => (HO2.out.lt j hj).1))
              have HO3 : Hid (w3.ownsRow wo.heap.size 9 1 (.slice (some ⟨g, 0, none⟩) (xs.length + 1) cp') (xs.length + 1) ((xs ++ [T]).map Value.string)) := Lib.hid (by rw [List.map_append]; exact hown')
              clear hown' hgrow HO2 HB2
              gi_wp2_with fail
              go_roundw
              case rel => exact ⟨to, xs.length + 1, cp', k1, _, xs ++ [T], h1, by simp; omega, rfl, rfl, by simp, rfl, HM5, HO3, HB3⟩
              case measure => exact mid_less _ _ _ _ H3.out h1
            · have E := Lib.hid (HMe.out t n1 k1 e1 he rfl)
              obtain ⟨fn, tmps, assign, body, hy, hRd⟩ := HY.out pre ⟨none, 0, [], n1, e1⟩ w2 (HJ.out pre wr w2 HJ1.out b2) (fun h => absurd h he)
              change (Instr.yield l #[.slice none 0 0, .agg #[.int .i64 n1, .int .i64 (e1 : Int)]]).run _ _ = _ at hy
              have hne : ((e1 : Int) != 0) = true := by simpa using he
              have HE1 := Lib.hid he
              clear q1 q2 q3 b2 HMs HMe he
              gi_wp2_with fail
              refine ⟨(fun h => by cases h), hRd.mono ?_⟩
              rintro e3 w3 (⟨rfl, hJ3, _⟩ | ⟨rfl, hJx3⟩)
              · gi_wp2_with fail
                (first | go_end0 | (simp only [Exit.noGoto]; go_end0))
                exact ⟨⟨_, rfl⟩, .inl ⟨_, fun h => absurd (h ⟨none, 0, [], n1, e1⟩ (by simp)) HE1.out, hJ3⟩⟩
              · gi_wp2_with fail
                (first | go_end0 | (simp only [Exit.noGoto]; go_end0))
                exact ⟨⟨_, rfl⟩, .inr ⟨_, ⟨pre, _, rfl, fun _ => E.out⟩, hJx3⟩⟩
        · have hk' : ((kd : Int) == 1) = false := by rw [beq_eq_false_iff_ne]; omega
          obtain ⟨h1, h2, h3⟩ : a0 < a ∧ pre.length < 2048 ∧ ∃ f, enough s.data.toList a [] f ∧ R = readL s.data.toList d f a (recsT pre ++ [bytesOf xs]) [] := by
            rcases HM.out with ⟨h, _⟩ | ⟨_, h⟩
            · exact absurd h hk
            · exact h
          obtain ⟨fn, tmps, assign, body, hy, hRd⟩ := HY.out pre ⟨ro, cp, xs, 0, 0⟩ wr HJ1.out (fun _ => ⟨own_mono HO.out (Nat.zero_le _), h2⟩)
          change (Instr.yield l #[.slice ro xs.length cp, .agg #[.int .i64 0, .int .i64 0]]).run _ _ = _ at hy
          have H3 := Lib.hid h3
          clear h3 HM hk
          gi_wp2_with fail
          refine ⟨(fun h => by cases h), hRd.mono ?_⟩
          rintro e3 w3 (⟨rfl, hJ3, p1, p2, p3⟩ | ⟨rfl, hJx3⟩)
          · have q1' := p1.trans q1
            have q2' := p3.trans q2
            have q3' := p2.trans q3
            clear q1 q2 q3 p1 p2 p3 hy
            gi_wp2_with fail
            go_roundw
            case rel => exact ⟨a, pre ++ [⟨ro, cp, xs, 0, 0⟩], ha, by simp; omega, rfl, ⟨q1', q2', q3'⟩, Lib.hid hJ3, Lib.hid (fun x hx => by
              rcases List.mem_append.1 hx with h | h
              · exact HE.out x h
              · simp at h; subst h; rfl), Lib.hid (by rw [recsT_snoc]; exact H3.out)⟩
            case measure => simp [intOf]; omega
          · gi_wp2_with fail
            (first | go_end0 | (simp only [Exit.noGoto]; go_end0))
            exact ⟨⟨_, rfl⟩, .inr ⟨_, ⟨pre, _, rfl, fun h => absurd rfl h⟩, hJx3⟩⟩
    · have E : Hid (R = (recsT pre, 0, 0)) := Lib.hid (by
        obtain ⟨f, _, h2⟩ := HS.out
        rw [h2, read_stop _ _ _ _ _ (by rw [ba_size]; omega)])
      gi_wp2_with fail
      go_end0
      exact ⟨⟨_, rfl⟩, .inl ⟨pre, fun _ => E.out, HJ0.out⟩⟩
end Go.Proofs.Ytacclgfpmkhodaa
