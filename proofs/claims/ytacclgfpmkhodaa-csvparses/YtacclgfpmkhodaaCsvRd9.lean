/-
  The document's reference reader: one byte, whatever was known ahead of it.
  Conditions: a text of at most 2^22 bytes.
-/
import Derived.WalkKit
import Derived.Lib.Hide
import Derived.Test.YtacclgfpmkhodaaProg
import Derived.Test.YtacclgfpmkhodaaCsvRd4
import Derived.Test.YtacclgfpmkhodaaCsvRd6
import Derived.Test.YtacclgfpmkhodaaCsvRd7
import Derived.Test.YtacclgfpmkhodaaCsvRd8
namespace Go.Proofs.Ytacclgfpmkhodaa
open Go.RowKit Go.Shelf
set_option linter.unusedVariables false

/-- texts and rows that lie elsewhere than in a block -/
def FarStr (B : Nat) (ro : Option Addr) (xs : List ByteArray) : Prop := xs = [] ∨ ∃ A, ro = some A ∧ A.block ≠ B
def FarRows (w : World) (B : Nat) (dao : Option Addr) (rs : List (List ByteArray)) : Prop := rs = [] ∨ ∃ A, dao = some A ∧ A.block ≠ B ∧ ∀ (i : Nat) r, rs[i]? = some r → ∀ ro n c, w.cell? (A.add i) = some (.slice ro n c) → FarStr B ro r
theorem str_far {w X : World} {B : Nat} {ro : Option Addr} {xs : List ByteArray} (h : StrRow w ro xs) (hf : FarStr B ro xs) (hz : w.heap.size ≤ X.heap.size) (hX : ∀ k, k < w.heap.size → k ≠ B → X.heap[k]? = w.heap[k]?) : StrRow X ro xs := by
  rcases h with h | ⟨A, rfl, hA, hc⟩
  · exact .inl h
  · rcases hf with h | ⟨A', h1, h2⟩
    · exact .inl h
    · cases h1
      exact .inr ⟨A, rfl, Nat.lt_of_lt_of_le hA hz, fun i c hi => (World.cell?_of_block (a := A.add i) (by rw [add_block]; exact hX _ hA h2)).trans (hc i c hi)⟩
theorem rows_far {w X : World} {B : Nat} {dao : Option Addr} {rs : List (List ByteArray)} (h : RowsAt w dao rs) (hf : FarRows w B dao rs) (hz : w.heap.size ≤ X.heap.size) (hX : ∀ k, k < w.heap.size → k ≠ B → X.heap[k]? = w.heap[k]?) : RowsAt X dao rs ∧ FarRows X B dao rs := by
  rcases h with h | ⟨A, rfl, hA, hc⟩
  · exact ⟨.inl h, .inl h⟩
  · rcases hf with h | ⟨A', h1, h2, h3⟩
    · exact ⟨.inl h, .inl h⟩
    · cases h1
      have hcell : ∀ i, X.cell? (A.add i) = w.cell? (A.add i) := fun i => World.cell?_of_block (a := A.add i) (by rw [add_block]; exact hX _ hA h2)
      refine ⟨.inr ⟨A, rfl, Nat.lt_of_lt_of_le hA hz, fun i r hr => ?_⟩, .inr ⟨A, rfl, h2, fun i r hr ro n c hcl => h3 i r hr ro n c (by rw [← hcell]; exact hcl)⟩⟩
      obtain ⟨ro, c, k1, k2⟩ := hc i r hr
      exact ⟨ro, c, (hcell i).trans k1, str_far k2 (h3 i r hr _ _ _ k1) hz hX⟩
theorem far_kept {w X : World} {B : Nat} {dao : Option Addr} {rs : List (List ByteArray)} (h : RowsAt w dao rs) (hf : FarRows w B dao rs) (hB : Below w.heap.size w X) : FarRows X B dao rs := by
  rcases h with h | ⟨A, rfl, hA, hc⟩
  · exact .inl h
  · rcases hf with h | ⟨A', h1, h2, h3⟩
    · exact .inl h
    · cases h1
      exact .inr ⟨A, rfl, h2, fun i r hr ro n c hcl => h3 i r hr ro n c (by rw [← hB.cell (p := A.add i) (by rw [add_block]; exact hA)]; exact hcl)⟩
theorem far_join {w X : World} {B base g c' cap n : Nat} {dao dao' : Option Addr} {rs : List (List ByteArray)} {row : List ByteArray} {hs : List Value} {T : TypeId} (hR : RowsAt w dao rs) (hf : FarRows w B dao rs) (hH : Heads w dao rs hs) (hg : g ≠ B) (hb : B < base)
    (ho : X.ownsRow base T 1 (.slice dao' n cap) n (hs ++ [.slice (some ⟨g, 0, none⟩) row.length c'])) : FarRows X B dao' (rs ++ [row]) := by
  rcases ho.2 with ⟨_, h0⟩ | ⟨g', cap', cur, h1, h2, _⟩
  · exfalso; have := ho.1; simp at this; omega
  · cases h1
    refine .inr ⟨_, rfl, by show g' ≠ B; omega, fun i r hr ro n' c hcl => ?_⟩
    by_cases hi : i < rs.length
    · rw [List.getElem?_append_left hi] at hr
      obtain ⟨ro1, c1, k1, k2⟩ := hH.2.2 i r hr
      have e := ho.cells rfl i _ (by rw [List.getElem?_append_left (by rw [hH.1]; exact hi)]; exact k1)
      rw [hcl] at e
      cases e
      rcases hf with h | ⟨A', q1, q2, q3⟩
      · rw [h] at hi; simp at hi
      · exact q3 i r hr _ _ _ (hH.2.1 A' q1 i _ k1)
    · have hi' : i = rs.length := by
        have := (List.getElem?_eq_some_iff.1 hr).1; simp at this; omega
      subst hi'
      have e := ho.cells rfl rs.length (.slice (some ⟨g, 0, none⟩) row.length c') (by rw [List.getElem?_append_right (by rw [hH.1]; exact Nat.le_refl _), hH.1]; simp)
      rw [hcl] at e
      cases e
      exact .inr ⟨_, rfl, hg⟩

/-- a reader that goes on -/
structure Rd (w : World) (B : Nat) (dao : Option Addr) (dcap : Nat) (rs : List (List ByteArray)) (ro : Option Addr) (cap : Nat) (xs : List ByteArray) : Prop where
  rows : RowsAt w dao rs
  rz : dao = none → rs.length = 0 ∧ dcap = 0
  rfar : FarRows w B dao rs
  row : StrRow w ro xs
  xz : ro = none → xs.length = 0 ∧ cap = 0
  xfar : FarStr B ro xs
theorem Rd.kept {w X : World} {B : Nat} {dao : Option Addr} {dcap : Nat} {rs : List (List ByteArray)} {ro : Option Addr} {cap : Nat} {xs : List ByteArray} (h : Rd w B dao dcap rs ro cap xs) (k : Below w.heap.size w X) : Rd X B dao dcap rs ro cap xs :=
  ⟨h.rows.kept k, h.rz, far_kept h.rows h.rfar k, h.row.kept k, h.xz, h.xfar⟩
theorem Rd.turn {w X : World} {B : Nat} {dao : Option Addr} {dcap : Nat} {rs : List (List ByteArray)} {ro : Option Addr} {cap : Nat} {xs : List ByteArray} (h : Rd w B dao dcap rs ro cap xs) (hz : w.heap.size ≤ X.heap.size) (hX : ∀ k, k < w.heap.size → k ≠ B → X.heap[k]? = w.heap[k]?) : Rd X B dao dcap rs ro cap xs :=
  ⟨(rows_far h.rows h.rfar hz hX).1, h.rz, (rows_far h.rows h.rfar hz hX).2, str_far h.row h.xfar hz hX, h.xz, h.xfar⟩

/-- what one byte comes to -/
def OnePost (l : List UInt8) (d : Int) (R : Recs × Int × Nat) (B a : Nat) (w : World) (e : Ending) (w' : World) : Prop :=
  ((∃ y er at' n, e = .returned (oneV (.slice none 0 0) (.slice none 0 0) ⟨#[]⟩ 0 y ((er : Nat) : Int) at' n) ∧ er ≠ 0 ∧ R = ([], at', er)) ∨
   (∃ dao dcap rs ro cap xs cell, ∃ st beg n : Nat, e = .returned (oneV (.slice dao (List.length rs) dcap) (.slice ro (List.length xs) cap) cell (st : Int) (beg : Int) 0 0 (n : Int)) ∧ 0 < n ∧ n ≤ 2 ∧ LInv l d R rs xs cell.data.toList st beg (a + n) ∧ Rd w' B dao dcap rs ro cap xs)) ∧ Below w.heap.size w w'

theorem byteS_eq (s : ByteArray) (a : Nat) (h : a < s.size) (u : UInt8) : (((s[a].toNat : Int) == (u.toNat : Int)) = true ↔ s[a] = u) := by
  rw [beq_iff_eq]
  constructor
  · intro e; exact UInt8.toNat_inj.1 (by omega)
  · rintro rfl; rfl
theorem byteS_ne (s : ByteArray) (a : Nat) (h : a < s.size) (u : UInt8) : (((s[a].toNat : Int) == (u.toNat : Int)) = false ↔ s[a] ≠ u) := by
  rw [← Bool.not_eq_true, byteS_eq s a h u]
theorem ext_one (s : ByteArray) (a : Nat) (h : a < s.size) : (s.extract a (a + 1)).data.toList = [s[a]] := by
  rw [ba_ext, List.take_succ_eq_append_getElem (by rw [ba_size]; exact h), List.drop_append_of_le_length (by simp; omega), List.drop_of_length_le (by simp; omega)]
  rfl

theorem one_step (s : ByteArray) (d : UInt8) (R : Recs × Int × Nat) (B a : Nat) (dao : Option Addr) (dcap : Nat) (rs : List (List ByteArray)) (ro : Option Addr) (cap : Nat) (xs : List ByteArray) (cell : ByteArray) (st beg : Nat) (w : World) (hs : s.size ≤ 4194304) (ha : a < s.size) (hg : goodI (d.toNat : Int) = true)
    (hB : B < w.heap.size) (I : LInv s.data.toList (d.toNat : Int) R rs xs cell.data.toList st beg a) (hf : rs.length < 2048 ∧ xs.length < 128) (hr : Rd w B dao dcap rs ro cap xs) :
    Calls Try.prog 16 #[.string s, .int .i64 a, .int .u8 (d.toNat : Int), rdV (.slice dao rs.length dcap) (.slice ro xs.length cap) cell (st : Int) (beg : Int) 0 0] w (OnePost s.data.toList (d.toNat : Int) R B a w) := by
  have hl : a < s.data.toList.length := by rw [ba_size]; exact ha
  have hla : s.data.toList[a] = s[a] := rfl
  have hget : s.data.toList[a]? = some s[a] := List.getElem?_eq_getElem hl
  have hc : cell.size ≤ 1099511627776 := by have := I.clen; rw [ba_size] at this; omega
  have hbl := I.some (.inl hl)
  have hnb0 : (brkI s.data.toList (a : Int) : Int) = ((brk s.data.toList a : Nat) : Int) := by rw [brkI_nat]
  have h34 : ((s[a].toNat : Int) == 34) = ((s[a].toNat : Int) == ((34 : UInt8).toNat : Int)) := rfl
  have h13 : ((s[a].toNat : Int) == 13) = ((s[a].toNat : Int) == ((13 : UInt8).toNat : Int)) := rfl
  have hbr := brk_lt s.data.toList a
  have goon : ∀ (cell' : ByteArray) (st' : Nat) e w', Within s.data.toList (d.toNat : Int) beg (a + 1) st' cell'.data.toList → cell'.data.toList.length ≤ cell.data.toList.length + 1 → st' ≤ 3 →
      (e = .returned (oneV (.slice dao rs.length dcap) (.slice ro xs.length cap) cell' (st' : Int) (beg : Int) 0 0 1) ∧ Below w.heap.size w w') → OnePost s.data.toList (d.toNat : Int) R B a w e w' := fun cell' st' e w' hw hcl h3 h =>
    ⟨.inr ⟨dao, dcap, rs, ro, cap, xs, cell', st', beg, 1, h.1, by decide, by decide, I.same hf _ _ hw hcl hl h3, hr.kept h.2⟩, h.2⟩
  have bad : ∀ (er : Nat) e w', er ≠ 0 → R = ([], (a : Int), er) → ((∃ y, e = .returned (oneV (.slice none 0 0) (.slice none 0 0) ⟨#[]⟩ 0 y ((er : Nat) : Int) (a : Int) 1)) ∧ Below w.heap.size w w') → OnePost s.data.toList (d.toNat : Int) R B a w e w' := fun er e w' he hR h => by
    obtain ⟨⟨y, h1⟩, h2⟩ := h
    exact ⟨.inl ⟨y, er, _, _, h1, he, hR⟩, h2⟩
  by_cases h2 : st = 2
  · subst h2
    by_cases hb : s[a] = 34
    · exact (one_shut s a _ dao rs.length dcap ro xs.length cap cell _ 0 w (by omega) ha hb).mono fun e w' h => goon cell 3 e w' ((in_two _ _ _ _ _ hl I.within).1 (hla.trans hb)) (by omega) (by decide) h
    · refine (one_in s a _ dao rs.length dcap ro xs.length cap cell 2 _ 0 _ w (by omega) ha rfl (by rw [h34, byteS_ne s a ha]; exact hb) hc).mono fun e w' h => goon _ 2 e w' ?_ ?_ (by decide) h
      · rw [ba_app, ext_one s a ha, ← hla]; exact (in_two _ _ _ _ _ hl I.within).2 (by rw [hla]; exact hb)
      · rw [ba_app, ext_one s a ha]; simp
  by_cases hq3 : st = 3 ∧ s[a] = 34
  · obtain ⟨rfl, hb⟩ := hq3
    refine (one_two s a _ dao rs.length dcap ro xs.length cap cell 3 _ 0 _ w (by omega) ha rfl (by rw [h34, byteS_eq s a ha]; exact hb) hc).mono fun e w' h => goon _ 2 e w' ?_ ?_ (by decide) h
    · rw [ba_app]; exact in_three _ _ _ _ _ hl I.within (hla.trans hb)
    · rw [ba_app]; simp
  have t2 : ((st : Int) == 2) = false := by rw [beq_eq_false_iff_ne]; omega
  have hq : ((st : Int) == 3) = true → ((s[a].toNat : Int) == 34) = false := fun h => by
    rw [beq_iff_eq] at h
    rw [h34, byteS_ne s a ha]; exact fun e => hq3 ⟨by omega, e⟩
  have h0q : ∀ (he : (endAt s.data.toList (d.toNat : Int) a).1 ≠ 0), st = 0 → s.data.toList[a]? ≠ some 34 := fun he _ e => by
    obtain ⟨hh, h34', _⟩ : True ∧ s[a] = 34 ∧ True := ⟨trivial, by rw [hget] at e; exact Option.some.inj e, trivial⟩
    unfold endAt at he
    rw [hget, h34'] at he
    have hd34 : ¬ (((34 : UInt8).toNat : Int) = (d.toNat : Int)) := fun e => by rw [← e] at hg; exact absurd hg (by decide)
    simp only [if_neg hd34] at he
    have : brk s.data.toList a = 0 := by unfold brk; rw [hget, h34']; rfl
    simp [this] at he
  have h3q : st = 3 → s.data.toList[a]? ≠ some 34 := fun h e => hq3 ⟨h, by rw [hget] at e; exact Option.some.inj e⟩
  by_cases hd : s[a] = d
  · have he : endAt s.data.toList (d.toNat : Int) a = (1, 1) := by unfold endAt; rw [hget]; simp [hd]
    have hfo := in_end s.data.toList (d.toNat : Int) beg a st _ I.ba (Nat.le_of_lt hl) hg I.within h2 (h0q (by rw [he]; decide)) h3q (by rw [he]; decide)
    rw [he] at hfo
    refine (one_delim s a _ dao rs.length dcap ro cap xs cell (st : Int) _ 0 _ w (by omega) ha rfl (by omega) hc hr.row hr.xz (by rw [beq_iff_eq, hd]) t2 hq).mono ?_
    rintro e w' (⟨hbig, ⟨y, h1⟩, h3⟩ | ⟨hsm, ro', cap', h1, h3, ⟨g, rfl, hg'⟩, h5⟩)
    · exact ⟨.inl ⟨y, 7, _, _, h1, by decide, I.long hf (.inr hbl) _ _ _ hfo (by rw [ba_size]; exact hbig)⟩, h3⟩
    · refine ⟨.inr ⟨dao, dcap, rs, some ⟨g, 0, none⟩, cap', xs ++ [cell], ⟨#[]⟩, 0, a + 1, 1, by rw [h1]; simp, by decide, by decide, I.more hf (.inr hbl) (a + 1) hfo (by rw [ba_size]; exact hsm) (by omega), ?_⟩, h5⟩
      exact ⟨hr.rows.kept h5, hr.rz, far_kept hr.rows hr.rfar h5, h3, (fun h => by cases h), .inr ⟨_, rfl, by show g ≠ B; omega⟩⟩
  have td : ((s[a].toNat : Int) == (d.toNat : Int)) = false := by rw [byteS_ne s a ha]; exact hd
  have hne : ¬ ((s[a].toNat : Int) = (d.toNat : Int)) := by simpa using td
  by_cases hbk : brk s.data.toList a = 0
  · have hn0 : decide (0 < ((brk s.data.toList a : Nat) : Int)) = false := by rw [hbk]; rfl
    have he : (endAt s.data.toList (d.toNat : Int) a).1 = 0 := by unfold endAt; rw [hget]; simp [hne, hbk]
    by_cases h3 : st = 3
    · subst h3
      have hb : s[a] ≠ 34 := fun e => hq3 ⟨rfl, e⟩
      have hfo := in_behind s.data.toList (d.toNat : Int) beg a _ I.ba hl hg I.within (h3q rfl) he
      exact (one_behind s a _ dao rs.length dcap ro xs.length cap cell 3 _ 0 _ w (by omega) ha hnb0 (by rw [h34, byteS_ne s a ha]; exact hb) td hn0).mono fun e w' h => bad 5 e w' (by decide) (I.wrong hf (.inr hbl) _ _ _ _ hfo (by simp) (by decide)) h
    have hst : st = 0 ∨ st = 1 := by have := I.st3; omega
    have t3 : ((st : Int) == 3) = false := by rw [beq_eq_false_iff_ne]; omega
    by_cases hb : s[a] = 34
    · have tb : ((s[a].toNat : Int) == 34) = true := by rw [h34, byteS_eq s a ha]; exact hb
      rcases hst with rfl | rfl
      · obtain ⟨hw, hce⟩ := in_quote _ _ _ _ _ hl I.within (hla.trans hb)
        exact (one_open s a _ dao rs.length dcap ro xs.length cap cell 0 _ 0 _ w (by omega) ha hnb0 tb td hn0).mono fun e w' h => goon cell 2 e w' (by rw [hce]; exact hw) (by omega) (by decide) h
      · have hft : faultAt s.data.toList a = 3 := by unfold faultAt; rw [hget]; simp [hb]
        have hfo := in_fault s.data.toList (d.toNat : Int) beg a 1 _ I.ba hl hg I.within (.inr rfl) (fun h => by cases h) he (by rw [hft]; decide)
        rw [hft] at hfo
        exact (one_quote s a _ dao rs.length dcap ro xs.length cap cell 1 _ 0 _ w (by omega) ha hnb0 tb td hn0).mono fun e w' h => bad 3 e w' (by decide) (I.wrong hf (.inr hbl) _ _ _ _ hfo (by simp) (by decide)) h
    · have tb : ((s[a].toNat : Int) == 34) = false := by rw [h34, byteS_ne s a ha]; exact hb
      by_cases hb13 : s[a] = 13
      · have hft : faultAt s.data.toList a = 6 := by unfold faultAt; rw [hget]; simp [hb13]
        have hfo := in_fault s.data.toList (d.toNat : Int) beg a st _ I.ba hl hg I.within hst (fun _ e => hb (by rw [hget] at e; exact Option.some.inj e)) he (by rw [hft]; decide)
        rw [hft] at hfo
        exact (one_return s a _ dao rs.length dcap ro xs.length cap cell (st : Int) _ 0 _ w (by omega) ha hnb0 tb td hn0 (by rw [h13, byteS_eq s a ha]; exact hb13) t2 t3).mono fun e w' h => bad 6 e w' (by decide) (I.wrong hf (.inr hbl) _ _ _ _ hfo (by simp) (by decide)) h
      · have hft : faultAt s.data.toList a = 0 := by unfold faultAt; rw [hget]; simp [hb, hb13]
        have hstop : stops s.data.toList (d.toNat : Int) a = false := by unfold stops; rw [he, hft]; rfl
        refine (one_plain s a _ dao rs.length dcap ro xs.length cap cell (st : Int) _ 0 _ w (by omega) ha hnb0 tb td hn0 (by rw [h13, byteS_ne s a ha]; exact hb13) t2 t3 hc).mono fun e w' h => goon _ 1 e w' ?_ ?_ (by decide) h
        · rw [ba_app, ext_one s a ha, ← hla]; exact in_plain _ _ _ _ _ _ hl I.within hst (by rw [hla]; exact hb) hstop
        · rw [ba_app, ext_one s a ha]; simp
  · have hn0 : decide (0 < ((brk s.data.toList a : Nat) : Int)) = true := decide_eq_true (by omega)
    have he : endAt s.data.toList (d.toNat : Int) a = (2, brk s.data.toList a) := by unfold endAt; rw [hget]; simp [hne, hbk]
    have hfo := in_end s.data.toList (d.toNat : Int) beg a st _ I.ba (Nat.le_of_lt hl) hg I.within h2 (h0q (by rw [he]; simp)) h3q (by rw [he]; simp)
    rw [he] at hfo
    have hbl2 : a + brk s.data.toList a ≤ s.data.toList.length := by rcases brk_le s.data.toList a with h | h; exact h; exact absurd h hbk
    refine (one_break s a _ dao dcap rs ro cap xs cell (st : Int) _ 0 _ w (by omega) ha hnb0 (by omega) (by omega) hc hr.rows hr.rz hr.row hr.xz td hn0 (by omega) t2 hq).mono ?_
    rintro e w' (⟨hbig, ⟨y, h1⟩, h3⟩ | ⟨hsm, dao', dcap', h1, h3, ⟨hs', g, c', k1, k2, k3⟩, h5⟩)
    · exact ⟨.inl ⟨y, 7, _, _, h1, by decide, I.long hf (.inr hbl) _ _ _ hfo (by rw [ba_size]; exact hbig)⟩, h3⟩
    · have hdz : dao' ≠ none := fun e => by
        rw [e] at k3
        rcases k3.2 with ⟨_, h0⟩ | ⟨_, _, _, h0, _⟩
        · omega
        · cases h0
      refine ⟨.inr ⟨dao', dcap', rs ++ [xs ++ [cell]], none, 0, [], ⟨#[]⟩, 0, a + brk s.data.toList a, brk s.data.toList a, by rw [h1]; simp, by omega, hbr, I.next hf (.inr hbl) _ 2 (by decide) hfo (by rw [ba_size]; exact hsm) hbl2, ?_⟩, h5⟩
      exact ⟨h3, (fun h => absurd h hdz), far_join hr.rows hr.rfar k1 (by omega) (by omega) k3, .inl rfl, fun _ => ⟨rfl, rfl⟩, .inl rfl⟩
end Go.Proofs.Ytacclgfpmkhodaa
