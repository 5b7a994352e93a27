/-
  Texts of these rows' proofs, laid one behind the other: RwPart, RwText, RwBase, RwLookAt, RwTextC.
  Conditions: those of each theorem.
-/
import Derived.Test.YtdenehnneloegaaGreatDoorPb38
import Derived.Test.YtdenehnneloegaaGreatDoorPb14
import Derived.WalkKit
import Derived.WalkMore
import Derived.OwnWalk
import Derived.Lib.Hide
import Derived.Laws.OwnMore
import Derived.Test.YtdenehnneloegaaGreatDoorProg
import Derived.Test.YtdenehnneloegaaGreatDoorPb1
import Derived.Test.YtdenehnneloegaaGreatDoorPb3
import Derived.Test.YtdenehnneloegaaGreatDoorPb27
import Derived.Test.YtdenehnneloegaaGreatDoorPb28
import Derived.Deep.OwnRows
import Derived.Deep.RegionHeld3
import Derived.Deep.QuietTactic
import Derived.Deep.RegionWith
import Derived.BigQuiet
import Derived.IntWalk
import Derived.WalkArith
import Derived.Shelf.Strconv.Itoa3
import Derived.Test.YtdenehnneloegaaGreatDoorPb21
import Derived.Test.YtdenehnneloegaaGreatDoorPb13
import Derived.Test.YtdenehnneloegaaGreatDoorPb41
namespace Go.Proofs.YtdenehnneloegaaGreatDoor
set_option linter.unusedVariables false
/-- the cells that are not empty, with their places from n on -/
def partsK : Nat → List ByteArray → List (Int × ByteArray)
  | _, [] => []
  | n, x :: l => if x.size = 0 then partsK (n + 1) l else ((n : Int), x) :: partsK (n + 1) l
theorem parts_cons (n : Nat) (x : ByteArray) (l : List ByteArray) : partsK n (x :: l) = if x.size = 0 then partsK (n + 1) l else ((n : Int), x) :: partsK (n + 1) l := rfl
theorem parts_mem : ∀ (l : List ByteArray) (n : Nat) (p : Int × ByteArray), p ∈ partsK n l ↔ ∃ k : Nat, l[k]? = some p.2 ∧ p.2.size ≠ 0 ∧ p.1 = (n : Int) + k
  | [], n, p => by simp [partsK]
  | x :: l, n, p => by
    have ih := parts_mem l (n + 1) p
    have hstep : (∃ k : Nat, (x :: l)[k]? = some p.2 ∧ p.2.size ≠ 0 ∧ p.1 = (n : Int) + k) ↔ (x = p.2 ∧ p.2.size ≠ 0 ∧ p.1 = (n : Int)) ∨ ∃ k : Nat, l[k]? = some p.2 ∧ p.2.size ≠ 0 ∧ p.1 = ((n + 1 : Nat) : Int) + k := by
      constructor
      · rintro ⟨k, h1, h2, h3⟩
        cases k with
        | zero => left; simp at h1; exact ⟨h1, h2, by omega⟩
        | succ k => right; exact ⟨k, by simpa using h1, h2, by omega⟩
      · rintro (⟨h1, h2, h3⟩ | ⟨k, h1, h2, h3⟩)
        · exact ⟨0, by simp [h1], h2, by omega⟩
        · exact ⟨k + 1, by simpa using h1, h2, by omega⟩
    rw [hstep, ← ih, parts_cons]
    by_cases hx : x.size = 0
    · rw [if_pos hx]
      constructor
      · exact .inr
      · rintro (⟨h1, h2, h3⟩ | h)
        · subst h1; exact absurd hx h2
        · exact h
    · rw [if_neg hx, List.mem_cons]
      constructor
      · rintro (h | h)
        · subst h; exact .inl ⟨rfl, hx, rfl⟩
        · exact .inr h
      · rintro (⟨h1, h2, h3⟩ | h)
        · exact .inl (Prod.ext h3 h1.symm)
        · exact .inr h
theorem partsK_ge (l : List ByteArray) (n : Nat) : ∀ p ∈ partsK n l, (n : Int) ≤ p.1 := fun p hp => by
  obtain ⟨k, h1, h2, h3⟩ := (parts_mem l n p).1 hp
  omega
def RiseP (l : List (Int × ByteArray)) : Prop := l.Pairwise fun p q => p.1 < q.1
theorem parts_rise : ∀ (l : List ByteArray) (n : Nat), RiseP (partsK n l)
  | [], n => by simp [partsK, RiseP]
  | x :: l, n => by
    rw [parts_cons]
    split
    · exact parts_rise l (n + 1)
    · exact List.Pairwise.cons (fun q hq => by have := partsK_ge l (n + 1) q hq; simp only; omega) (parts_rise l (n + 1))
theorem parts_len : ∀ (l : List ByteArray) (n : Nat), (partsK n l).length ≤ l.length
  | [], n => by simp [partsK]
  | x :: l, n => by
    rw [parts_cons]
    have := parts_len l (n + 1)
    split
    · simp; omega
    · simp; omega
theorem size_nil {x y : ByteArray} (h : x.size = 0) (k : y.size = 0) : x = y := by
  have e : ∀ z : ByteArray, z.size = 0 → z = ⟨#[]⟩ := fun z hz => by
    obtain ⟨a⟩ := z
    have : a.size = 0 := hz
    rw [Array.eq_empty_of_size_eq_zero this]
  rw [e x h, e y k]
theorem partsK_inj {x y : List ByteArray} {n : Nat} (hl : x.length = y.length) (h : partsK n x = partsK n y) : x = y := by
  refine List.ext_getElem hl fun k h1 h2 => ?_
  by_cases hx : x[k].size = 0
  · by_cases hy : y[k].size = 0
    · exact size_nil hx hy
    · have : (((n : Int) + k, y[k]) : Int × ByteArray) ∈ partsK n x := by rw [h]; exact (parts_mem _ _ _).2 ⟨k, List.getElem?_eq_getElem h2, hy, rfl⟩
      obtain ⟨j, e1, e2, e3⟩ := (parts_mem _ _ _).1 this
      simp only at e1 e3
      have : j = k := by omega
      subst this
      rw [List.getElem?_eq_getElem h1] at e1
      exact Option.some.inj e1
  · have : (((n : Int) + k, x[k]) : Int × ByteArray) ∈ partsK n y := by rw [← h]; exact (parts_mem _ _ _).2 ⟨k, List.getElem?_eq_getElem h1, hx, rfl⟩
    obtain ⟨j, e1, e2, e3⟩ := (parts_mem _ _ _).1 this
    simp only at e1 e3
    have : j = k := by omega
    subst this
    rw [List.getElem?_eq_getElem h2] at e1
    exact (Option.some.inj e1).symm
/-- at how many places the parts differ -/
def unlikeP (x y : List (Int × ByteArray)) : Nat :=
  match x, y with
  | [], y => y.length
  | p :: x, [] => x.length + 1
  | p :: x, q :: y => (if p = q then 0 else 1) + if p.1 < q.1 then unlikeP x (q :: y) else if q.1 < p.1 then unlikeP (p :: x) y else unlikeP x y
termination_by x.length + y.length
theorem unlike_nil (y : List (Int × ByteArray)) : unlikeP [] y = y.length := by unfold unlikeP; rfl
theorem unlike_nil2 (x : List (Int × ByteArray)) : unlikeP x [] = x.length := by cases x <;> unfold unlikeP <;> rfl
theorem unlike_le (p q : Int × ByteArray) (x y : List (Int × ByteArray)) : unlikeP (p :: x) (q :: y) = (if p = q then 0 else 1) + if p.1 < q.1 then unlikeP x (q :: y) else if q.1 < p.1 then unlikeP (p :: x) y else unlikeP x y := by rw [unlikeP]
theorem unlike_up (x y : List (Int × ByteArray)) : unlikeP x y ≤ x.length + y.length := by
  induction x, y using unlikeP.induct with
  | case1 y => rw [unlike_nil]; simp
  | case2 p x => rw [unlike_nil2]; simp
  | case3 p x q y h1 h2 h3 => rw [unlike_le]; simp only [List.length_cons] at *; split <;> split <;> (try split) <;> omega
theorem unlike_right (n : Int) (s : ByteArray) (A B : List (Int × ByteArray)) (h : ∀ p ∈ A, n < p.1) : unlikeP A ((n, s) :: B) = 1 + unlikeP A B := by
  cases A with
  | nil => rw [unlike_nil, unlike_nil]; simp; omega
  | cons p A =>
    have hp := h p List.mem_cons_self
    rw [unlike_le, if_neg (show ¬ p = (n, s) from fun e => by rw [e] at hp; simp at hp), if_neg (show ¬ p.1 < n by omega), if_pos (show n < p.1 from hp)]
theorem unlike_left (n : Int) (s : ByteArray) (A B : List (Int × ByteArray)) (h : ∀ p ∈ B, n < p.1) : unlikeP ((n, s) :: A) B = 1 + unlikeP A B := by
  cases B with
  | nil => rw [unlike_nil2, unlike_nil2]; simp; omega
  | cons q B =>
    have hq := h q List.mem_cons_self
    rw [unlike_le, if_neg (show ¬ (n, s) = q from fun e => by rw [← e] at hq; simp at hq), if_pos (show n < q.1 from hq)]
def diffN : List ByteArray → List ByteArray → Nat
  | x :: X, y :: Y => (if x = y then 0 else 1) + diffN X Y
  | _, _ => 0
theorem unlike_parts : ∀ (X Y : List ByteArray) (n : Nat), X.length = Y.length → unlikeP (partsK n X) (partsK n Y) = diffN X Y
  | [], [], n, _ => by simp [partsK, diffN, unlike_nil]
  | [], y :: Y, n, h => by simp at h
  | x :: X, [], n, h => by simp at h
  | x :: X, y :: Y, n, h => by
    have ih := unlike_parts X Y (n + 1) (by simpa using h)
    have gX : ∀ p ∈ partsK (n + 1) X, (n : Int) < p.1 := fun p hp => by have := partsK_ge X (n + 1) p hp; omega
    have gY : ∀ p ∈ partsK (n + 1) Y, (n : Int) < p.1 := fun p hp => by have := partsK_ge Y (n + 1) p hp; omega
    simp only [partsK, diffN]
    by_cases hx : x.size = 0
    · by_cases hy : y.size = 0
      · rw [if_pos hx, if_pos hy, ih, if_pos (size_nil hx hy)]; omega
      · rw [if_pos hx, if_neg hy, unlike_right _ _ _ _ gX, ih, if_neg (fun e => hy (by rw [← e]; exact hx))]
    · by_cases hy : y.size = 0
      · rw [if_neg hx, if_pos hy, unlike_left _ _ _ _ gY, ih, if_neg (fun e => hx (by rw [e]; exact hy))]
      · rw [if_neg hx, if_neg hy, unlike_le]
        simp only [Int.lt_irrefl, if_false, ih]
        by_cases e : x = y
        · rw [if_pos (by rw [e]), if_pos e]
        · rw [if_neg (fun k => e (Prod.mk.inj k).2), if_neg e]
theorem diff_com {γ : Type} (f g : γ → ByteArray) : ∀ l : List γ, diffN (l.map f) (l.map g) + (l.filter fun c => decide (f c = g c)).length = l.length
  | [] => rfl
  | c :: l => by
    have ih := diff_com f g l
    simp only [List.map_cons, diffN, List.filter_cons]
    by_cases e : f c = g c
    · rw [if_pos e, if_pos (by simp [e])]; simp only [List.length_cons]; omega
    · rw [if_neg e, if_neg (by simp [e])]; simp only [List.length_cons]; omega
theorem nodup_rise {l : List (Int × ByteArray)} (h : RiseP l) : l.Nodup := h.imp fun h e => by rw [e] at h; omega
theorem perm_mem {α : Type} [DecidableEq α] {x y : List α} (hx : x.Nodup) (hy : y.Nodup) (h : ∀ a, a ∈ x ↔ a ∈ y) : x.Perm y := by
  rw [List.perm_iff_count]
  intro a
  rw [hx.count, hy.count]
  simp [h a]
/-- the part that a cell tells: m tells the place of a column -/
def partO (m : Nat → Option Nat) (r : List ByteArray) (col : Nat) : Option (Int × ByteArray) := (m col).bind fun c => (r[col]?).bind fun s => if s.size = 0 then none else some ((c : Int), s)
/-- the parts of a row, in the order of its cells -/
def partsU (m : Nat → Option Nat) (r : List ByteArray) (n : Nat) : List (Int × ByteArray) := (List.range n).filterMap (partO m r)
theorem partO_some {m : Nat → Option Nat} {r : List ByteArray} {col : Nat} {p : Int × ByteArray} : partO m r col = some p ↔ ∃ c s, m col = some c ∧ r[col]? = some s ∧ s.size ≠ 0 ∧ p = ((c : Int), s) := by
  unfold partO
  rw [Option.bind_eq_some_iff]
  constructor
  · rintro ⟨c, h1, h2⟩
    rw [Option.bind_eq_some_iff] at h2
    obtain ⟨s, h2, h3⟩ := h2
    split at h3
    · cases h3
    · rename_i h4
      exact ⟨c, s, h1, h2, h4, (Option.some.inj h3).symm⟩
  · rintro ⟨c, s, h1, h2, h3, rfl⟩
    refine ⟨c, h1, ?_⟩
    rw [h2]
    show (if s.size = 0 then none else some ((c : Int), s)) = _
    rw [if_neg h3]
theorem partsU_next (m : Nat → Option Nat) (r : List ByteArray) (n : Nat) : partsU m r (n + 1) = partsU m r n ++ (partO m r n).toList := by
  unfold partsU
  rw [List.range_succ, List.filterMap_append]
  congr 1
def cellR (r : List ByteArray) (c : Int) : ByteArray := if 0 ≤ c then (r[c.toNat]?).getD ⟨#[]⟩ else ⟨#[]⟩
theorem cellR_size {r : List ByteArray} {c : Int} (h : (cellR r c).size ≠ 0) : 0 ≤ c ∧ r[c.toNat]? = some (cellR r c) := by
  unfold cellR at h ⊢
  by_cases h0 : 0 ≤ c
  · rw [if_pos h0] at h ⊢
    cases e : r[c.toNat]? with
    | none => rw [e] at h; exact absurd rfl h
    | some s => exact ⟨h0, rfl⟩
  · rw [if_neg h0] at h; exact absurd rfl h
theorem parts_perm (cs : List Int) (m : Nat → Option Nat) (r : List ByteArray) (hm : ∀ (col c : Nat), m col = some c ↔ cs[c]? = some (col : Int)) : (partsK 0 (cs.map (cellR r))).Perm (partsU m r r.length) := by
  refine perm_mem (nodup_rise (parts_rise _ _)) ?_ fun p => ?_
  · unfold partsU
    rw [List.Nodup, List.pairwise_filterMap]
    refine List.pairwise_lt_range.imp fun {a b} hab x hx y hy e => ?_
    obtain ⟨c, s, h1, h2, h3, rfl⟩ := partO_some.1 hx
    obtain ⟨d, t, k1, k2, k3, rfl⟩ := partO_some.1 hy
    simp only [Prod.mk.injEq] at e
    have : c = d := by omega
    subst this
    have e1 := (hm a c).1 h1
    rw [(hm b c).1 k1] at e1
    have := Option.some.inj e1
    omega
  · rw [parts_mem]
    unfold partsU
    rw [List.mem_filterMap]
    constructor
    · rintro ⟨k, h1, h2, h3⟩
      rw [List.getElem?_map, Option.map_eq_some_iff] at h1
      obtain ⟨c, hc, h4⟩ := h1
      rw [← h4] at h2
      obtain ⟨h0, h5⟩ := cellR_size h2
      rw [h4] at h5 h2
      refine ⟨c.toNat, List.mem_range.2 (List.getElem?_eq_some_iff.1 h5).1, partO_some.2 ⟨k, p.2, (hm _ _).2 (by rw [hc]; congr 1; omega), h5, h2, Prod.ext (by simp only; omega) rfl⟩⟩
    · rintro ⟨col, hcol, h⟩
      obtain ⟨c, s, h1, h2, h3, rfl⟩ := partO_some.1 h
      refine ⟨c, ?_, h3, by simp⟩
      rw [List.getElem?_map, (hm col c).1 h1]
      simp [cellR, h2]
/-- texts that tell a row apart: num tells the number's text -/
def flatP (num : Nat → List UInt8) (ps : List (Int × ByteArray)) : List (List UInt8) := ps.flatMap fun p => [num p.1.toNat, p.2.data.toList]
theorem flatP_inj (num : Nat → List UInt8) (hnum : ∀ u v, num u = num v → u = v) : ∀ (x y : List (Int × ByteArray)), (∀ p ∈ x, 0 ≤ p.1) → (∀ p ∈ y, 0 ≤ p.1) → flatP num x = flatP num y → x = y
  | [], [], _, _, _ => rfl
  | [], q :: y, _, _, h => by simp [flatP] at h
  | p :: x, [], _, _, h => by simp [flatP] at h
  | p :: x, q :: y, hx, hy, h => by
    simp only [flatP, List.flatMap_cons, List.cons_append, List.nil_append, List.cons.injEq] at h
    obtain ⟨h1, h2, h3⟩ := h
    have ih := flatP_inj num hnum x y (fun p hp => hx p (List.mem_cons_of_mem _ hp)) (fun p hp => hy p (List.mem_cons_of_mem _ hp)) h3
    have a1 := hx p List.mem_cons_self
    have a2 := hy q List.mem_cons_self
    have := hnum _ _ h1
    have e1 : p.1 = q.1 := by omega
    have e2 : p.2 = q.2 := by
      have h4 : p.2.data = q.2.data := Array.ext' h2
      cases hp : p.2; cases hq : q.2; rw [hp, hq] at h4; simpa using h4
    rw [ih, Prod.ext e1 e2]
end Go.Proofs.YtdenehnneloegaaGreatDoor
namespace Go.Proofs.YtdenehnneloegaaGreatDoor
set_option linter.unusedVariables false
/-- records that are written alike, and are not empty, are alike -/
theorem write_inj (d : UInt8) (crlf : Bool) (r s : List (List UInt8)) (hd : Q.goodI (d.toNat : Int) = true) (hr : r ≠ []) (hs : s ≠ []) (h : Q.writeL r d crlf = Q.writeL s d crlf) : r = s := by
  have hr0 : 0 < r.length := List.length_pos_iff.2 hr
  have hs0 : 0 < s.length := List.length_pos_iff.2 hs
  have key : ∀ k, k ≤ r.length → k ≤ s.length ∧ (0 < k → (k = r.length ↔ k = s.length)) ∧ (k < r.length → k < s.length → Q.posOf r d crlf k = Q.posOf s d crlf k) ∧ ∀ j, j < k → r[j]? = s[j]? := by
    intro k
    induction k with
    | zero => exact fun _ => ⟨Nat.zero_le _, fun h => absurd h (by omega), fun _ _ => by rw [Q.pos_zero r d crlf hr0, Q.pos_zero s d crlf hs0], fun j hj => absurd hj (by omega)⟩
    | succ k ih =>
      intro hk
      obtain ⟨h1, h2, h3, h4⟩ := ih (by omega)
      have hks : k < s.length := by
        rcases Nat.eq_zero_or_pos k with h0 | h0
        · omega
        · have := h2 h0; omega
      have hp := h3 (by omega) hks
      obtain ⟨f1, -⟩ := Q.back_step r d crlf [] hd k (by omega)
      obtain ⟨f2, -⟩ := Q.back_step s d crlf [] hd k hks
      rw [h, hp, f2] at f1
      simp only [Prod.mk.injEq] at f1
      obtain ⟨g1, g2, g3, -⟩ := f1
      refine ⟨by omega, fun _ => ?_, fun a b => by exact_mod_cast g2.symm, fun j hj => ?_⟩
      · constructor
        · intro e
          rw [if_pos e] at g3
          split at g3
          · assumption
          · cases g3
        · intro e
          rw [if_pos e] at g3
          split at g3
          · assumption
          · cases g3
      · rcases Nat.lt_or_ge j k with hl | hl
        · exact h4 j hl
        · have : j = k := by omega
          subst this
          rw [List.getElem?_eq_getElem (by omega), List.getElem?_eq_getElem hks, g1]
  obtain ⟨-, k2, -, k4⟩ := key r.length (Nat.le_refl _)
  have hl : r.length = s.length := (k2 hr0).1 rfl
  refine List.ext_getElem? fun j => ?_
  rcases Nat.lt_or_ge j r.length with hj | hj
  · exact k4 j hj
  · rw [List.getElem?_eq_none hj, List.getElem?_eq_none (by omega)]
theorem put_ne (c : List UInt8) (d : Int) (h : c ≠ []) : Q.putL c d ≠ [] := by
  unfold Q.putL
  split
  · exact h
  · simp [Q.quoted]
theorem write_one (d : UInt8) (crlf : Bool) (c : List UInt8) (r : List (List UInt8)) (h : c ≠ []) : Q.writeL (c :: r) d crlf ≠ Q.writeL [] d crlf := by
  unfold Q.writeL
  intro e
  have := congrArg List.length e
  have h2 := put_ne c (d.toNat : Int) h
  have h3 : 0 < (Q.putL c (d.toNat : Int)).length := List.length_pos_iff.2 h2
  simp only [Q.recL, List.length_append, List.length_nil] at this
  omega
/-- the text of a row's parts -/
def textP (ps : List (Int × ByteArray)) : List UInt8 := Q.writeL (flatP Lib.decDigits ps) 44 false
theorem dec_ne (u : Nat) : Lib.decDigits u ≠ [] := by rw [Lib.decDigits]; split <;> simp
theorem flat_ne {p : Int × ByteArray} {x : List (Int × ByteArray)} : flatP Lib.decDigits (p :: x) = Lib.decDigits p.1.toNat :: p.2.data.toList :: flatP Lib.decDigits x := rfl
theorem textP_inj {x y : List (Int × ByteArray)} (hx : ∀ p ∈ x, 0 ≤ p.1) (hy : ∀ p ∈ y, 0 ≤ p.1) (h : textP x = textP y) : x = y := by
  unfold textP at h
  cases x with
  | nil =>
    cases y with
    | nil => rfl
    | cons q y => exact absurd h.symm (by rw [flat_ne]; exact write_one _ _ _ _ (dec_ne _))
  | cons p x =>
    cases y with
    | nil => exact absurd h (by rw [flat_ne]; exact write_one _ _ _ _ (dec_ne _))
    | cons q y => exact flatP_inj _ dec_inj _ _ hx hy (write_inj 44 false _ _ (by decide) (by simp [flat_ne]) (by simp [flat_ne]) h)
/-- the text of a row -/
def textR (x : List ByteArray) : List UInt8 := textP (partsK 0 x)
theorem textR_inj {x y : List ByteArray} (hl : x.length = y.length) (h : textR x = textR y) : x = y :=
  partsK_inj hl (textP_inj (fun p hp => by have := partsK_ge x 0 p hp; omega) (fun p hp => by have := partsK_ge y 0 p hp; omega) h)
theorem lookA_row {ra : List (List ByteArray)} {cols : PL} {x : List ByteArray} (h : x ∈ lookA ra cols) : x.length = cols.length := by
  unfold lookA at h
  obtain ⟨i, -, rfl⟩ := List.mem_map.1 h
  rw [keyAt_len, List.length_map]
theorem lookB_row {rb : List (List ByteArray)} {cols : PL} {x : List ByteArray} (h : x ∈ lookB rb cols) : x.length = cols.length := by
  unfold lookB at h
  obtain ⟨i, -, rfl⟩ := List.mem_map.1 h
  rw [keyAt_len, List.length_map]
/-- rows alike are told by their texts -/
theorem look_text (ra rb : List (List ByteArray)) (cols : PL) : wayC 0 0 ((lookA ra cols).map textR) ((lookB rb cols).map textR) = lookC ra rb cols :=
  look_texts ra rb cols textR fun x hx y hy h => textR_inj (by rw [lookA_row hx, lookB_row hy]) h
/-- the score of two rows -/
theorem score_is (ra rb : List (List ByteArray)) (cols : PL) (i k : Int) : unlikeP (partsK 0 (keyAt ra (cols.map Prod.fst) i)) (partsK 0 (keyAt rb (cols.map Prod.snd) k)) + comN ra rb cols i k = cols.length := by
  rw [unlike_parts _ _ 0 (by rw [keyAt_len, keyAt_len, List.length_map, List.length_map])]
  unfold keyAt comN
  rw [List.map_map, List.map_map]
  exact diff_com (fun c => cellL ra i c.1) (fun c => cellL rb k c.2) cols
theorem cell_row_is {rs : List (List ByteArray)} {i : Nat} {r : List ByteArray} (h : rs[i]? = some r) (c : Int) : cellL rs (i : Int) c = cellR r c := by
  unfold cellL cellR
  by_cases h0 : 0 ≤ c
  · rw [if_pos ⟨by omega, h0⟩, if_pos h0, Int.toNat_natCast, h]; rfl
  · rw [if_neg (fun k => h0 k.2), if_neg h0]
theorem keyAt_row {rs : List (List ByteArray)} {i : Nat} {r : List ByteArray} (h : rs[i]? = some r) (cs : List Int) : keyAt rs cs (i : Int) = cs.map (cellR r) := List.map_congr_left fun c _ => cell_row_is h c
end Go.Proofs.YtdenehnneloegaaGreatDoor
namespace Go.Proofs.YtdenehnneloegaaGreatDoor
open Go.RowKit Go.Shelf
set_option linter.unusedVariables false
abbrev PtL := List (Int × ByteArray)
/-- the cells of a part -/
def encPt (c : Int × ByteArray) : List Value := [.int .i64 c.1, .string c.2]
/-- the cells of a slice of parts -/
def PtsAt (w : World) (ao : Option Addr) (l : PtL) : Prop := l = [] ∨ ∃ b o, ao = some ⟨b, o, none⟩ ∧ b < w.heap.size ∧ ∀ (i : Nat) p, l[i]? = some p → w.cell? ⟨b, o + i * 2, none⟩ = some (.int .i64 p.1) ∧ w.cell? ⟨b, o + i * 2 + 1, none⟩ = some (.string p.2)
theorem PtsAt.kept {w w' : World} {ao : Option Addr} {l : PtL} (h : PtsAt w ao l) (hB : Below w.heap.size w w') : PtsAt w' ao l := by
  rcases h with h | ⟨b, o, h1, h2, h3⟩
  · exact .inl h
  · exact .inr ⟨b, o, h1, Nat.lt_of_lt_of_le h2 hB.size, fun i p hp => ⟨(hB.cell (p := ⟨b, o + i * 2, none⟩) h2).trans (h3 i p hp).1, (hB.cell (p := ⟨b, o + i * 2 + 1, none⟩) h2).trans (h3 i p hp).2⟩⟩
/-- without the first one -/
theorem PtsAt.tail {w : World} {b o : Nat} {p : Int × ByteArray} {l : PtL} (h : PtsAt w (some ⟨b, o, none⟩) (p :: l)) : PtsAt w (some ⟨b, o + 2, none⟩) l := by
  rcases h with h | ⟨b', o', h1, h2, h3⟩
  · cases h
  · cases h1
    refine .inr ⟨b, o + 2, rfl, h2, fun i q hq => ?_⟩
    have := h3 (i + 1) q (by simpa using hq)
    rw [show o + (i + 1) * 2 = o + 2 + i * 2 from by omega] at this
    exact this
theorem PtsAt.first {w : World} {ao : Option Addr} {p : Int × ByteArray} {l : PtL} (h : PtsAt w ao (p :: l)) : ∃ b o, ao = some ⟨b, o, none⟩ ∧ b < w.heap.size ∧ w.cell? ⟨b, o, none⟩ = some (.int .i64 p.1) ∧ w.cell? ⟨b, o + 1, none⟩ = some (.string p.2) := by
  rcases h with h | ⟨b, o, h1, h2, h3⟩
  · cases h
  · have := h3 0 p rfl
    exact ⟨b, o, h1, h2, by simpa using this.1, by simpa using this.2⟩
def cellsPt (l : PtL) : List Value := l.flatMap encPt
theorem cellsPt_cons (p : Int × ByteArray) (l : PtL) : cellsPt (p :: l) = .int .i64 p.1 :: .string p.2 :: cellsPt l := rfl
theorem cellsPt_length (l : PtL) : (cellsPt l).length = l.length * 2 := by
  induction l with
  | nil => rfl
  | cons p l ih => rw [cellsPt_cons]; simp only [List.length_cons, ih]; omega
theorem cellsPt_app (l m : PtL) : cellsPt (l ++ m) = cellsPt l ++ cellsPt m := by simp [cellsPt]
theorem cellsPt_at (l : PtL) (k : Nat) (p : Int × ByteArray) (h : l[k]? = some p) : (cellsPt l)[k * 2]? = some (.int .i64 p.1) ∧ (cellsPt l)[k * 2 + 1]? = some (.string p.2) := by
  induction l generalizing k with
  | nil => simp at h
  | cons q l ih =>
    cases k with
    | zero => simp at h; subst h; exact ⟨rfl, rfl⟩
    | succ k =>
      have := ih k (by simpa using h)
      rw [cellsPt_cons, show (k + 1) * 2 = k * 2 + 1 + 1 from by omega]
      simpa using this
/-- a slice of parts that the code owns -/
def OwnPt (w : World) (base : Nat) (v : Value) (l : PtL) : Prop := w.ownsRow base 129 2 v l.length (cellsPt l)
theorem OwnPt.kept {w w' : World} {base : Nat} {v : Value} {l : PtL} (h : OwnPt w base v l) (hB : Below w.heap.size w w') : OwnPt w' base v l := ownsRow_below h hB
theorem OwnPt.ptsAt {w : World} {base : Nat} {v : Value} {l : PtL} (h : OwnPt w base v l) : ∃ ao cap, v = .slice ao l.length cap ∧ PtsAt w ao l ∧ (∀ A, ao = some A → base ≤ A.block) ∧ (ao = none → cap = 0) ∧ l.length ≤ cap := by
  rcases h.2 with ⟨rfl, h1⟩ | ⟨g, cap, cur, h0, hb, hg, r1, r2, r3, r4⟩
  · have hl : l = [] := List.eq_nil_of_length_eq_zero h1
    subst hl
    exact ⟨none, 0, rfl, .inl rfl, (fun A h => nomatch h), (fun _ => rfl), Nat.zero_le _⟩
  · refine ⟨some ⟨g, 0, none⟩, cap, h0, .inr ⟨g, 0, rfl, lt_of_heap hg, fun i p hp => ?_⟩, (fun A h => by injection h with h; subst h; exact hb), (fun h => nomatch h), ?_⟩
    · obtain ⟨hk, _⟩ := List.getElem?_eq_some_iff.1 hp
      obtain ⟨c1, c2⟩ := cellsPt_at l i p hp
      rw [Nat.zero_add]
      subst h0
      exact ⟨(World.ownsRow.cellAt h (i * 2) (by omega)).trans c1, (World.ownsRow.cellAt h (i * 2 + 1) (by omega)).trans c2⟩
    · first | exact r1 | exact r2 | omega
end Go.Proofs.YtdenehnneloegaaGreatDoor
namespace Go.Proofs.YtdenehnneloegaaGreatDoor
open Go.RowKit Go.Shelf
set_option linter.unusedVariables false
/-- a row's parts as a value -/
def PtV (w : World) (L : PtL) (v : Value) : Prop := ∃ (po : Option Addr) (pc : Nat), v = .slice po L.length pc ∧ PtsAt w po L ∧ L.length ≤ pc
theorem PtV.kept {w w' : World} {L : PtL} {v : Value} (h : PtV w L v) (hB : Below w.heap.size w w') : PtV w' L v := by
  obtain ⟨po, pc, h1, h2, h3⟩ := h
  exact ⟨po, pc, h1, h2.kept hB, h3⟩
theorem madeC_ptv (w : World) (vs : List Value) (n : Nat) (h : ∀ v ∈ vs, ∃ L, PtV w L v) : ∀ v ∈ madeC vs n, ∃ a b c, v = .slice a b c := by
  intro v hv
  unfold madeC at hv
  rcases List.mem_append.1 hv with hv | hv
  · obtain ⟨L, po, pc, h1, _⟩ := h v hv
    exact ⟨_, _, _, h1⟩
  · exact ⟨_, _, _, (List.mem_replicate.1 hv).2⟩
/-- where a made row of lists turns, rows of parts stay -/
theorem PtV.put {w : World} {base g n k : Nat} {T : TypeId} {xs : List Value} {u : Value} (hO : w.ownsRow base T 1 (.slice (some ⟨g, 0, none⟩) n n) n xs) (hx : ∀ v ∈ xs, ∃ a b c, v = .slice a b c) {L : PtL} {v : Value} (h : PtV w L v) : PtV (w.setCell ⟨g, k, none⟩ u) L v := by
  obtain ⟨po, pc, h1, h2, h3⟩ := h
  refine ⟨po, pc, h1, ?_, h3⟩
  rcases hO.2 with ⟨h0, _⟩ | ⟨g', cap, cur, hv, _, hb, q1, q2, q3, q4⟩
  · cases h0
  · cases hv
    have hno : ∀ y, (∀ a b c, y ≠ Value.slice a b c) → ∀ j : Nat, cur[j]? ≠ some y := fun y hy j hj => by
      have hj' : cur.toList[j]? = some y := by rw [Array.getElem?_toList]; exact hj
      have hl : cur.toList.length ≤ n * 1 := by simp; omega
      rw [List.take_of_length_le hl] at q4
      rw [q4] at hj'
      obtain ⟨a, b, c, e⟩ := hx _ (List.mem_of_getElem? hj')
      exact hy a b c e
    have key : ∀ (P : Addr) (y : Value), (∀ a b c, y ≠ Value.slice a b c) → w.cell? P = some y → (w.setCell ⟨g, k, none⟩ u).cell? P = some y := fun P y hy hc => by
      have hne : P.block ≠ g := block_ne hb (hno y hy) hc
      exact (World.cell?_of_block (a := P) (heap_setCell_other _ _ _ _ hne)).trans hc
    rcases h2 with h2 | ⟨b, o, e1, e2, e3⟩
    · exact .inl h2
    · exact .inr ⟨b, o, e1, by simpa using e2, fun i p hp => ⟨key _ _ (by simp) (e3 i p hp).1, key _ _ (by simp) (e3 i p hp).2⟩⟩
/-- the parts of all rows, as they lie -/
def LookAt (w : World) (ao : Option Addr) (l : List PtL) : Prop := l = [] ∨ ∃ A, ao = some A ∧ A.block < w.heap.size ∧ ∀ (i : Nat) r, l[i]? = some r → ∃ po pc, w.cell? (A.add i) = some (.slice po r.length pc) ∧ PtsAt w po r ∧ r.length ≤ pc
theorem LookAt.kept {w w' : World} {ao : Option Addr} {l : List PtL} (h : LookAt w ao l) (hB : Below w.heap.size w w') : LookAt w' ao l := by
  rcases h with h | ⟨A, h1, h2, h3⟩
  · exact .inl h
  · refine .inr ⟨A, h1, Nat.lt_of_lt_of_le h2 hB.size, fun i r hr => ?_⟩
    obtain ⟨po, pc, k1, k2, k3⟩ := h3 i r hr
    exact ⟨po, pc, (hB.cell (p := A.add i) (by rw [add_block]; exact h2)).trans k1, k2.kept hB, k3⟩
end Go.Proofs.YtdenehnneloegaaGreatDoor
namespace Go.Proofs.YtdenehnneloegaaGreatDoor
open Go.RowKit Go.Shelf Go.Deep
set_option linter.unusedVariables false
/-- the texts that are written for a row -/
def textsP (ps : PtL) : List ByteArray := ps.flatMap fun p => [⟨(Lib.decDigits p.1.toNat).toArray⟩, p.2]
theorem texts_bytes : ∀ ps : PtL, bytesOf (textsP ps) = flatP Lib.decDigits ps
  | [] => rfl
  | p :: ps => by
    have ih := texts_bytes ps
    unfold textsP flatP at ih ⊢
    unfold bytesOf at ih ⊢
    rw [List.flatMap_cons, List.flatMap_cons, List.map_append, ih]
    rfl
theorem textsP_len : ∀ ps : PtL, (textsP ps).length = ps.length * 2
  | [] => rfl
  | p :: ps => by
    have ih := textsP_len ps
    unfold textsP at ih ⊢
    rw [List.flatMap_cons, List.length_append, ih]; simp; omega
theorem textsP_take (ps : PtL) (k : Nat) (p : Int × ByteArray) (h : ps[k]? = some p) : textsP (ps.take (k + 1)) = textsP (ps.take k) ++ [⟨(Lib.decDigits p.1.toNat).toArray⟩, p.2] := by
  obtain ⟨hk, e⟩ := List.getElem?_eq_some_iff.1 h
  unfold textsP
  rw [List.take_succ_eq_append_getElem hk, e, List.flatMap_append]; simp
theorem dec_len (u : Nat) (h : u < 100) : (Lib.decDigits u).length ≤ 2 := by
  rw [Lib.decDigits]
  split
  · simp
  · rw [Lib.decDigits, dif_pos (by omega)]; simp
theorem textsP_size (ps : PtL) (h : ∀ p ∈ ps, p.1.toNat < 100 ∧ p.2.size ≤ 100000) : ∀ c ∈ textsP ps, c.size ≤ 100000 := by
  intro c hc
  unfold textsP at hc
  obtain ⟨p, hp, hc⟩ := List.mem_flatMap.1 hc
  obtain ⟨h1, h2⟩ := h p hp
  simp at hc
  rcases hc with rfl | rfl
  · have := dec_len p.1.toNat h1
    show (Lib.decDigits p.1.toNat).toArray.size ≤ _
    simp; omega
  · exact h2
theorem src_two (V : World) (x y : ByteArray) (T : TypeId) : ∀ ad, some (⟨V.heap.size, 0, none⟩ : Addr) = some ad → ∀ (j : Nat) u, [Value.string x, Value.string y][j]? = some u → (V.alloc (.cells #[.string x, .string y] T)).cell? (ad.add j) = some u := fun ad e j u hu => by
  cases e
  have h := World.alloc_heap_new V (.cells #[.string x, .string y] T)
  have e : (⟨V.heap.size, 0, none⟩ : Addr).add j = ⟨V.heap.size, j, none⟩ := by unfold Addr.add; split <;> simp_all
  rw [e, Lib.cell_of_heap h]
  match j, hu with
  | 0, hu => simp at hu; subst hu; rfl
  | 1, hu => simp at hu; subst hu; rfl
set_option maxRecDepth 100000 in
set_option maxHeartbeats 4000000 in
theorem text_any (ko : Option Addr) (kc : Nat) (l : List PtL) (row : Nat) (ps : PtL) (w : World) (hrow : l[row]? = some ps) (hl : ps.length ≤ 100) (hp : ∀ p ∈ ps, 0 ≤ p.1 ∧ p.1.toNat < 100 ∧ p.2.size ≤ 100000) (hL : LookAt w ko l) (hn : l.length ≤ 1048576) :
    Calls Tryz.prog 42 #[.slice ko l.length kc, .int .i64 (row : Int)] w fun e w' => e = .returned (.string ⟨(textP ps).toArray⟩) ∧ Below w.heap.size w w' := by
  have hinfo : (Tryz.prog.info? 9).map (fun i => (i.zero, i.size, i.bytes)) = some (some (.string ⟨#[]⟩), 1, 16) := by kernel_rfl
  obtain ⟨i0, hi, hz0, hz1, hz2⟩ := infoK_parts2 hinfo
  have HIn := Lib.hid hi
  have hrl : row < l.length := (List.getElem?_eq_some_iff.1 hrow).1
  obtain ⟨A, rfl, hA, po, pc, hpc, hP, hpl⟩ : ∃ A, ko = some A ∧ A.block < w.heap.size ∧ ∃ po pc, w.cell? (A.add row) = some (.slice po ps.length pc) ∧ PtsAt w po ps ∧ ps.length ≤ pc := by
    rcases hL with h | ⟨A, h1, h2, h3⟩
    · rw [h] at hrow; simp at hrow
    · exact ⟨A, h1, h2, h3 row ps hrow⟩
  have HP := Lib.hid hP
  have HPp := Lib.hid hp
  have CI := Lib.hid (fun (u : Nat) (h : u < 100) V => Any.strconv_Itoa_small laysI u h V)
  have CW := Lib.hid (fun ao cap V (h : StrRow V ao (textsP ps)) => Q.write_any 44 false ao cap (textsP ps) V (by rw [textsP_len]; omega) (textsP_size ps (fun p h => (hp p h).2)) h)
  have HE0 : Hid (Q.writeL (bytesOf (textsP ps)) 44 false = textP ps) := Lib.hid (by rw [texts_bytes]; rfl)
  rw [HE0.out, textsP_len] at CW
  obtain ⟨O, HQ⟩ : ∃ O : Nat → List Value, Hid (O = fun k => (textsP (ps.take k)).map Value.string) := ⟨_, Lib.hid rfl⟩
  have HO0 : Hid (O 0 = []) := Lib.hid (by rw [HQ.out]; rfl)
  have HOn : Hid (∀ (k : Nat) p, ps[k]? = some p → O k ++ [.string ⟨(Lib.decDigits p.1.toNat).toArray⟩, .string p.2] = O (k + 1)) := Lib.hid (fun k p h => by rw [HQ.out]; show _ = (textsP (ps.take (k + 1))).map Value.string; rw [textsP_take ps k p h, List.map_append]; rfl)
  have HOe : Hid (O ps.length = (textsP ps).map Value.string) := Lib.hid (by rw [HQ.out]; show (textsP (ps.take ps.length)).map Value.string = _; rw [List.take_length])
  generalize textP ps = R at CW ⊢
  clear hi hinfo hP hp hL hrow HE0
  go_enter Tryz.func42, Tryz.ntmps42
  go_wp2_with fail
  go_loopw [5, 13] (fun v i wr => ∃ (k cap : Nat) (ao : Option Addr), k ≤ ps.length ∧ v = .slice ao (k * 2) cap ∧ i = .int .i64 k ∧ Hid (Below w.heap.size w wr) ∧ Hid (wr.ownsRow w.heap.size 9 1 (.slice ao (k * 2) cap) (k * 2) (O k))) (fun _ i _ => ps.length - (intOf i).toNat)
  case atStart => exact ⟨0, 0, none, Nat.zero_le _, by simp, rfl, Lib.hid (Below.refl _ _), Lib.hid (by rw [HO0.out]; exact World.ownsRow_nil _ _ _ _)⟩
  case round =>
    obtain ⟨k, cap, ao, hk, rfl, rfl, HB, HO⟩ := hrel
    by_cases hlt : k < ps.length
    · obtain ⟨⟨a, s⟩, hx⟩ : ∃ x, ps[k]? = some x := ⟨_, List.getElem?_eq_getElem hlt⟩
      rcases (HP.out.kept HB.out) with h0 | ⟨b, o, rfl, hb, hcell⟩
      · rw [h0] at hlt; simp at hlt
      obtain ⟨hc1, hc2⟩ := hcell k _ hx
      dsimp only at hc1 hc2
      obtain ⟨pa, pb, pd⟩ := HPp.out _ (List.mem_of_getElem? hx)
      dsimp only at pa pb pd
      have HT := Lib.hid (HOn.out k _ hx)
      dsimp only at HT
      obtain ⟨u, rfl⟩ : ∃ u : Nat, a = (u : Int) := ⟨a.toNat, by omega⟩
      rw [Int.toNat_natCast] at HT pb
      have C1 := Lib.hid (fun V => CI.out u pb V)
      generalize (⟨(Lib.decDigits u).toArray⟩ : ByteArray) = d at C1 HT
      obtain ⟨V, HV⟩ : ∃ V, Hid (V = wr.alloc (.cells #[.int .i64 (u : Int), .string s] 129)) := ⟨_, Lib.hid rfl⟩
      have hVh : V.heap[wr.heap.size]? = some (.cells #[.int .i64 (u : Int), .string s] 129 (0, 0)) := by rw [HV.out]; exact World.alloc_heap_new _ _
      have v0 : V.cell? ⟨wr.heap.size, 0, none⟩ = some (.int .i64 (u : Int)) := (Lib.cell_of_heap hVh 0).trans rfl
      have v1 : V.cell? ⟨wr.heap.size, 1, none⟩ = some (.string s) := (Lib.cell_of_heap hVh 1).trans rfl
      have hbV : Below wr.heap.size wr V := by rw [HV.out]; exact one_below _ _
      have hBV := below_up HB.out hbV
      have HBV := Lib.hid hBV
      have HVO := Lib.hid (ownsRow_below HO.out hbV)
      have hws : w.heap.size ≤ V.heap.size := hBV.size
      have q1 : k * 2 + 2 ≤ maxLen := by unfold maxLen; omega
      have q2 : (k * 2 + 2) * 16 ≤ 140737488355328 := by omega
      have q3 : (k + 1) * 2 = k * 2 + 2 := by omega
      have HO2 := Lib.hid (HVO.out.drew.alloc (.cells #[.string d, .string s] 9))
      have HB3 : Hid (Below w.heap.size w (V.drew.alloc (.cells #[.string d, .string s] 9))) := Lib.hid (hBV.drew.alloc hws _)
      have KP : Hid (∀ w4, (V.drew.alloc (.cells #[.string d, .string s] 9)).grownBy w4 (Value.slice ao (k * 2) cap).ownBlock → w4.cell? ⟨wr.heap.size, 0, none⟩ = some (.int .i64 (u : Int)) ∧ w4.cell? ⟨wr.heap.size, 1, none⟩ = some (.string s)) := Lib.hid (fun w4 hg => by
        have hlt2 := lt_of_heap hVh
        have h1 : w4.heap[wr.heap.size]? = some (.cells #[.int .i64 (u : Int), .string s] 129 (0, 0)) := by
          rw [hg.block _ (by show wr.heap.size < (V.drew.alloc _).heap.size; simp; exact Nat.lt_succ_of_lt hlt2) (fun e => by have := (HO.out.lt _ e.symm).2; omega), Below.heap_alloc _ _ _ (by exact hlt2)]
          exact hVh
        exact ⟨(Lib.cell_of_heap h1 0).trans rfl, (Lib.cell_of_heap h1 1).trans rfl⟩)
      clear hcell hx hVh hbV hBV HB HO pa
      go_upto_region 5 with fail
      rw [← HV.out]
      go_region_held3 (fun V => V.cell? ⟨wr.heap.size, 0, none⟩ = some (.int .i64 (u : Int)) ∧ V.cell? ⟨wr.heap.size, 1, none⟩ = some (.string s)) ((refine ⟨?_, ?_⟩ <;> first | assumption | go_keep))
        (first
          | (go_at_call 93; refine (C1.out _).mono ?_; rintro e w2 ⟨rfl, rfl⟩)
          | (refine step_append_gd (by rfl) _ _ 22 (by rfl) w.heap.size 9 i0 (.string ⟨#[]⟩) 1 16 Tryz.underlying22 HIn.out hz0 hz1 hz2 rfl (by decide) (.slice ao (k * 2) cap) (k * 2) (O k) (by rfl) HO2.out (some ⟨V.heap.size, 0, none⟩) 2 2 [.string d, .string s] (by rfl) (fun e => by cases e) (by simp) (src_two V.drew d s _) (fun u hu => by simp at hu; rcases hu with rfl | rfl <;> rfl) q1 q2 HB3.out.size (k * 2 + 2) rfl (O (k + 1)) HT.out ?_; intro jo jc w4 hown hg hbel; have B4 := Lib.hid (HB3.out.trans hbel); have HO4 := Lib.hid hown; obtain ⟨v0, v1⟩ := KP.out w4 hg; clear hown hbel hg))
      go_wp2_with fail
      go_roundw
      case rel => exact ⟨k + 1, jc, jo, by omega, by rw [q3], by go_num, B4, by rw [q3]; exact HO4⟩
      case measure => simp [intOf]; omega
    · obtain rfl : k = ps.length := by omega
      have HE := Lib.hid (CW.out ao cap wr (own_strsK HO.out HOe.out))
      clear HO
      go_wp2_with fail
      refine HE.out.mono ?_; rintro e w2 ⟨rfl, b2⟩
      have HB2 := Lib.hid (below_up HB.out b2)
      go_wp2_with fail
      go_ret
      exact ⟨rfl, HB2.out⟩
end Go.Proofs.YtdenehnneloegaaGreatDoor
