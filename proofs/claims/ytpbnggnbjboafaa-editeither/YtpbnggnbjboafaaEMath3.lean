/-
  Turning a column and turning a row may change places.
  Conditions: none.
-/
import Derived.WalkKit
import Derived.Lib.Hide
import Derived.Test.YtpbnggnbjboafaaProg
import Derived.Test.YtpbnggnbjboafaaEMath2
namespace Go.Proofs.Ytpbnggnbjboafaa
open Go.RowKit Go.Shelf
set_option linter.unusedVariables false

theorem each_iff {f : List ByteArray → Except Int (List ByteArray)} : ∀ {l o : List (List ByteArray)} {k : Nat}, eachL (fun _ r => f r) k l = .ok o ↔ l.map f = o.map Except.ok := by
  intro l
  induction l with
  | nil =>
    intro o k
    simp only [eachL, List.map_nil]
    constructor
    · intro h; injection h with h; subst h; rfl
    · intro h; rw [List.map_eq_nil_iff.1 h.symm]
  | cons x l ih =>
    intro o k
    simp only [eachL, List.map_cons]
    cases hx : f x with
    | error e =>
      constructor
      · intro h; cases h
      · intro h
        cases o with
        | nil => simp at h
        | cons y o => simp at h
    | ok y =>
      simp only
      cases hl : eachL (fun _ r => f r) (k + 1) l with
      | error e =>
        constructor
        · intro h; cases h
        · intro h
          cases o with
          | nil => simp at h
          | cons z o =>
            simp only [List.map_cons, List.cons.injEq] at h
            rw [ih.2 h.2] at hl; cases hl
      | ok t =>
        simp only [emap]
        constructor
        · intro h; injection h with h; subst h
          simp only [List.map_cons]
          rw [ih.1 hl]
        · intro h
          cases o with
          | nil => simp at h
          | cons z o =>
            simp only [List.map_cons, List.cons.injEq] at h
            have := (ih (o := o) (k := k + 1)).2 h.2
            rw [hl] at this
            injection this with this
            have h1 := h.1
            injection h1 with h1
            rw [this, h1]
theorem ins_sum {l o : List (List ByteArray)} {k : Int} {x : List ByteArray} (h : insL l k x = .ok o) : sumT o.flatten = sumT l.flatten + sumT x := by
  unfold insL at h
  split at h
  · injection h with h
    subst h
    have e : l.flatten = (l.take k.toNat).flatten ++ (l.drop k.toNat).flatten := by rw [← List.flatten_append, List.take_append_drop]
    rw [e]
    simp only [List.flatten_append, List.flatten_cons, List.flatten_nil, List.append_nil, sum_app]
    omega
  · cases h
theorem del_sum {l d : List (List ByteArray)} {k : Int} (h : delL l k = .ok d) : sumT d.flatten ≤ sumT l.flatten := by
  obtain ⟨h1, h2, _⟩ := del_mem h
  have := ins_sum (del_at h (List.getElem?_eq_getElem (show k.toNat < l.length by omega)))
  omega
theorem mov_sum {l o : List (List ByteArray)} {f t : Int} (h : movL l f t = .ok o) : sumT o.flatten ≤ sumT l.flatten := by
  obtain ⟨d, x, h1, h2, h3⟩ := mov_is h
  have e1 := ins_sum h3
  have e2 := ins_sum (del_at h1 h2)
  omega
/-- a turn of rows that looks at no row -/
structure Blind (g : List (List ByteArray) → Except Int (List (List ByteArray))) : Prop where
  nat : ∀ (f : List ByteArray → Except Int (List ByteArray)) (l o d : List (List ByteArray)), l.map f = o.map Except.ok → g l = .ok d → ∃ s, g o = .ok s ∧ d.map f = s.map Except.ok
  mem : ∀ l o, g l = .ok o → (∀ u ∈ o, u ∈ l) ∧ o.length ≤ l.length ∧ sumT o.flatten ≤ sumT l.flatten
theorem blind_del (k : Int) : Blind (fun rs => delL rs k) where
  nat f l o d h1 h2 := by
    have e1 := del_map f l k
    have e2 := del_map (Except.ok : List ByteArray → Except Int (List ByteArray)) o k
    rw [h1, e2] at e1
    rw [h2] at e1
    cases hs : delL o k with
    | error e => rw [hs] at e1; cases e1
    | ok s =>
      rw [hs] at e1
      simp only [emap] at e1
      injection e1 with e1
      exact ⟨s, rfl, e1.symm⟩
  mem l o h := ⟨(del_mem h).2.2.2, by have := (del_mem h).2.2.1; omega, del_sum h⟩
theorem blind_mov (a b : Int) : Blind (fun rs => movL rs a b) where
  nat f l o d h1 h2 := by
    have e1 := mov_map f l a b
    have e2 := mov_map (Except.ok : List ByteArray → Except Int (List ByteArray)) o a b
    rw [h1, e2] at e1
    rw [h2] at e1
    cases hs : movL o a b with
    | error e => rw [hs] at e1; cases e1
    | ok s =>
      rw [hs] at e1
      simp only [emap] at e1
      injection e1 with e1
      exact ⟨s, rfl, e1.symm⟩
  mem l o h := ⟨(mov_mem h).2.2.2.2.2, by have := (mov_mem h).2.2.2.2.1; omega, mov_sum h⟩
/-- columns, turned one by one in all rows, or not at all -/
structure Wise (gr : List (List ByteArray) → Except Int (List (List ByteArray))) : Prop where
  nat : ∀ g, Blind g → ∀ rs r1 r2, gr rs = .ok r1 → g rs = .ok r2 → ∃ s, g r1 = .ok s ∧ gr r2 = .ok s
theorem wise_cols (f : List ByteArray → Except Int (List ByteArray)) : Wise (colsR f) where
  nat g hg rs r1 r2 h1 h2 := by
    obtain ⟨s, e1, e2⟩ := hg.nat f rs r1 r2 (each_iff.1 h1) h2
    exact ⟨s, e1, each_iff.2 e2⟩
theorem wise_ok : Wise (fun rs => .ok rs) where
  nat g hg rs r1 r2 h1 h2 := by
    injection h1 with h1
    subst h1
    exact ⟨r2, h2, rfl⟩
theorem either_is {gh : List ByteArray → Except Int (List ByteArray)} {gr g : List (List ByteArray) → Except Int (List (List ByteArray))} (hw : Wise gr) (hg : Blind g) {hd h1 h2 : List ByteArray} {rs r1 r2 : List (List ByteArray)} (e1 : turnR gh gr hd rs = .ok (h1, r1)) (e2 : turnR (fun xs => .ok xs) g hd rs = .ok (h2, r2)) :
    ∃ s, turnR (fun xs => .ok xs) g h1 r1 = .ok (h1, s) ∧ turnR gh gr h2 r2 = .ok (h1, s) := by
  obtain ⟨a0, a1, a2, a3⟩ := turn_is e1
  obtain ⟨b0, b1, b2, b3⟩ := turn_is e2
  injection b1 with b1
  subst b1
  obtain ⟨s, c1, c2⟩ := hw.nat g hg rs r1 r2 a2 b2
  obtain ⟨m1, m2, m3⟩ := hg.mem r1 s c1
  have hk := check_sub a3 m1 m2 m3
  exact ⟨s, turn_mk a3 rfl c1 hk, turn_mk b3 a1 c2 hk⟩
end Go.Proofs.Ytpbnggnbjboafaa
