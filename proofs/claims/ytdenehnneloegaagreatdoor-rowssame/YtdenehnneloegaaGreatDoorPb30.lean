/-
  Texts of these rows' proofs, laid one behind the other: IShelf, IMath, IFirst.
  Conditions: those of each theorem.
-/
import Derived.Shelf.Small.Strs
import Derived.Shelf.SlSortCmp.NoneTotal
import Derived.Test.YtdenehnneloegaaGreatDoorProg
import Derived.Lib.Bytealg
import Derived.Maps.Own
import Derived.Maps.OwnOps
import Derived.Maps.OwnSet
import Derived.Maps.Views
import Derived.IntWalk
import Derived.WalkArith
import Derived.OwnWalk
import Derived.Deep.Cut
import Derived.Test.YtdenehnneloegaaGreatDoorPb3
namespace Go.Proofs.YtdenehnneloegaaGreatDoor
open Go.Shelf
def laysSi_ren : Go.Shelf.Ren := ⟨fun | 106 => 67 | 213 => 122 | 265 => 177 | n => n, fun | 9 => 9 | 3 => 3 | n => n, fun | n => n⟩
theorem laysSi : Go.Proofs.Lays.n106 Tryz.prog laysSi_ren := {
  mixed := by kernel_rfl
  f106 := Tryz.func67.trans (congrArg some (by kernel_rfl))
  f213 := Tryz.func122.trans (congrArg some (by kernel_rfl))
  f265 := Tryz.func177.trans (congrArg some (by kernel_rfl))
  t3 := Tryz.underlying3
  a3 := Tryz.isAgg3
  z3 := Tryz.sizeOf3
  v3 := Tryz.zeroValue3
  t9 := Tryz.underlying9
  a9 := Tryz.isAgg9
  z9 := Tryz.sizeOf9
  v9 := Tryz.zeroValue9 }
def laysFi_ren : Go.Shelf.Ren := ⟨fun | 6 => 184 | 15 => 104 | 14 => 212 | 28 => 166 | 29 => 167 | 20 => 244 | 21 => 245 | 22 => 246 | 23 => 247 | 24 => 248 | 25 => 249 | 26 => 250 | 27 => 251 | 46 => 275 | 47 => 200 | 48 => 201 | 49 => 276 | 50 => 277 | 57 => 288 | n => n, fun | 22 => 117 | 24 => 116 | 25 => 118 | 3 => 3 | 39 => 142 | 0 => 0 | 53 => 203 | 55 => 205 | 4 => 4 | 46 => 197 | 45 => 196 | 50 => 58 | 5 => 5 | 9 => 9 | 66 => 237 | 70 => 241 | 76 => 273 | 77 => 274 | n => n, fun | n => n⟩
theorem laysFi : Go.Proofs.SlLaysF0.n6 Tryz.prog laysFi_ren := {
  mixed := by kernel_rfl
  f6 := ⟨Tryz.f184.name, by decide, Tryz.func184.trans (congrArg some (by kernel_rfl))⟩
  f14 := ⟨Tryz.f212.name, by decide, Tryz.func212.trans (congrArg some (by kernel_rfl))⟩
  f15 := Tryz.func104.trans (congrArg some (by kernel_rfl))
  f20 := ⟨Tryz.f244.name, by decide, Tryz.func244.trans (congrArg some (by kernel_rfl))⟩
  f21 := ⟨Tryz.f245.name, by decide, Tryz.func245.trans (congrArg some (by kernel_rfl))⟩
  f22 := ⟨Tryz.f246.name, by decide, Tryz.func246.trans (congrArg some (by kernel_rfl))⟩
  f23 := ⟨Tryz.f247.name, by decide, Tryz.func247.trans (congrArg some (by kernel_rfl))⟩
  f24 := ⟨Tryz.f248.name, by decide, Tryz.func248.trans (congrArg some (by kernel_rfl))⟩
  f25 := ⟨Tryz.f249.name, by decide, Tryz.func249.trans (congrArg some (by kernel_rfl))⟩
  f26 := ⟨Tryz.f250.name, by decide, Tryz.func250.trans (congrArg some (by kernel_rfl))⟩
  f27 := ⟨Tryz.f251.name, by decide, Tryz.func251.trans (congrArg some (by kernel_rfl))⟩
  f28 := Tryz.func166.trans (congrArg some (by kernel_rfl))
  f29 := Tryz.func167.trans (congrArg some (by kernel_rfl))
  f46 := ⟨Tryz.f275.name, by decide, Tryz.func275.trans (congrArg some (by kernel_rfl))⟩
  f47 := Tryz.func200.trans (congrArg some (by kernel_rfl))
  f48 := Tryz.func201.trans (congrArg some (by kernel_rfl))
  f49 := ⟨Tryz.f276.name, by decide, Tryz.func276.trans (congrArg some (by kernel_rfl))⟩
  f50 := ⟨Tryz.f277.name, by decide, Tryz.func277.trans (congrArg some (by kernel_rfl))⟩
  f57 := ⟨Tryz.f288.name, by decide, Tryz.func288.trans (congrArg some (by kernel_rfl))⟩
  t0 := Tryz.underlying0
  a0 := Tryz.isAgg0
  z0 := Tryz.sizeOf0
  v0 := Tryz.zeroValue0
  t3 := Tryz.underlying3
  a3 := Tryz.isAgg3
  z3 := Tryz.sizeOf3
  v3 := Tryz.zeroValue3
  t4 := Tryz.underlying4
  a4 := Tryz.isAgg4
  z4 := Tryz.sizeOf4
  v4 := Tryz.zeroValue4
  t5 := Tryz.underlying5
  a5 := Tryz.isAgg5
  z5 := Tryz.sizeOf5
  v5 := Tryz.zeroValue5
  t9 := Tryz.underlying9
  a9 := Tryz.isAgg9
  z9 := Tryz.sizeOf9
  v9 := Tryz.zeroValue9
  t22 := Tryz.underlying117
  a22 := Tryz.isAgg117
  z22 := Tryz.sizeOf117
  v22 := Tryz.zeroValue117
  t25 := Tryz.underlying118
  a25 := Tryz.isAgg118
  z25 := Tryz.sizeOf118
  v25 := Tryz.zeroValue118
  t39 := Tryz.underlying142
  a39 := Tryz.isAgg142
  z39 := Tryz.sizeOf142
  v39 := Tryz.zeroValue142
  t45 := Tryz.underlying196
  a45 := Tryz.isAgg196
  z45 := Tryz.sizeOf196
  v45 := Tryz.zeroValue196
  t46 := Tryz.underlying197
  a46 := Tryz.isAgg197
  z46 := Tryz.sizeOf197
  v46 := Tryz.zeroValue197
  t50 := Tryz.underlying58
  a50 := Tryz.isAgg58
  z50 := Tryz.sizeOf58
  v50 := Tryz.zeroValue58
  t53 := Tryz.underlying203
  a53 := Tryz.isAgg203
  z53 := Tryz.sizeOf203
  v53 := Tryz.zeroValue203
  t55 := Tryz.underlying205
  a55 := Tryz.isAgg205
  z55 := Tryz.sizeOf205
  v55 := Tryz.zeroValue205
  t66 := Tryz.underlying237
  a66 := Tryz.isAgg237
  z66 := Tryz.sizeOf237
  v66 := Tryz.zeroValue237
  t70 := Tryz.underlying241
  a70 := Tryz.isAgg241
  z70 := Tryz.sizeOf241
  v70 := Tryz.zeroValue241
  t76 := Tryz.underlying273
  a76 := Tryz.isAgg273
  z76 := Tryz.sizeOf273
  v76 := Tryz.zeroValue273
  t77 := Tryz.underlying274
  a77 := Tryz.isAgg274
  z77 := Tryz.sizeOf274
  v77 := Tryz.zeroValue274 }
end Go.Proofs.YtdenehnneloegaaGreatDoor
namespace Go.Proofs.YtdenehnneloegaaGreatDoor
set_option linter.unusedVariables false
/-- what a comparison is: one order, either way round and through a third one; alike are just those that are the same -/
structure IsCmp {α : Type} (f : α → α → Int) : Prop where
  unit : ∀ a b, f a b = -1 ∨ f a b = 0 ∨ f a b = 1
  zero : ∀ a b, f a b = 0 ↔ a = b
  anti : ∀ a b, f b a = - f a b
  trans : ∀ a b c, f a b ≤ 0 → f b c ≤ 0 → f a c ≤ 0
/-- two lists, place by place -/
def lexH {α β : Type} (f : α → β → Int) : List α → List β → Int
  | [], [] => 0
  | [], _ :: _ => -1
  | _ :: _, [] => 1
  | a :: x, b :: y => if f a b = 0 then lexH f x y else f a b
theorem IsCmp.lt_trans {α : Type} {f : α → α → Int} (h : IsCmp f) {a b c : α} (h1 : f a b ≤ 0) (h2 : f b c ≤ 0) (h3 : f a b < 0 ∨ f b c < 0) : f a c < 0 := by
  have h4 := h.trans a b c h1 h2
  rcases h.unit a c with e | e | e
  · omega
  · have e2 := (h.zero a c).1 e
    subst e2
    have := h.anti a b
    omega
  · omega
theorem IsCmp.lex {α : Type} {f : α → α → Int} (h : IsCmp f) : IsCmp (lexH f) where
  unit := fun a => by
    induction a with
    | nil => intro b; cases b <;> simp [lexH]
    | cons x a ih =>
      intro b
      cases b with
      | nil => simp [lexH]
      | cons y b => simp only [lexH]; split; exact ih b; exact h.unit x y
  zero := fun a => by
    induction a with
    | nil => intro b; cases b <;> simp [lexH]
    | cons x a ih =>
      intro b
      cases b with
      | nil => simp [lexH]
      | cons y b =>
        simp only [lexH]
        split
        · rename_i e
          rw [ih b, (h.zero x y).1 e]; simp
        · rename_i e
          constructor
          · intro e2; exact absurd e2 e
          · intro e2; injection e2 with e3 _; exact absurd ((h.zero x y).2 e3) e
  anti := fun a => by
    induction a with
    | nil => intro b; cases b <;> simp [lexH]
    | cons x a ih =>
      intro b
      cases b with
      | nil => simp [lexH]
      | cons y b =>
        simp only [lexH]
        have := h.anti x y
        by_cases e : f x y = 0
        · rw [if_pos e, if_pos (by omega)]; exact ih b
        · rw [if_neg e, if_neg (by omega)]; exact this
  trans := fun a => by
    induction a with
    | nil => intro b c h1 h2; cases c <;> simp [lexH]
    | cons x a ih =>
      intro b c h1 h2
      cases b with
      | nil => simp [lexH] at h1
      | cons y b =>
        cases c with
        | nil => simp [lexH] at h2
        | cons z c =>
          simp only [lexH] at h1 h2 ⊢
          by_cases e1 : f x y = 0
          · have e1' := (h.zero x y).1 e1
            subst e1'
            rw [if_pos e1] at h1
            by_cases e2 : f x z = 0
            · rw [if_pos e2] at h2 ⊢; exact ih b c h1 h2
            · rw [if_neg e2] at h2 ⊢; exact h2
          · rw [if_neg e1] at h1
            have h2' : f y z ≤ 0 := by
              by_cases e2 : f y z = 0
              · omega
              · rw [if_neg e2] at h2; exact h2
            have := h.lt_trans h1 h2' (.inl (by omega))
            rw [if_neg (by omega)]; omega
/-- one byte -/
def byteC (a b : UInt8) : Int := if a < b then -1 else if b < a then 1 else 0
theorem byte_is (a b : UInt8) : byteC a b = if a.toNat < b.toNat then -1 else if b.toNat < a.toNat then 1 else 0 := by
  unfold byteC
  simp only [UInt8.lt_iff_toNat_lt]
theorem byte_cmp : IsCmp byteC where
  unit := fun a b => by unfold byteC; split; simp; split <;> simp
  zero := fun a b => by
    have : a = b ↔ a.toNat = b.toNat := ⟨fun h => by rw [h], fun h => UInt8.toNat_inj.1 h⟩
    rw [this, byte_is]
    split
    · simp; omega
    · split
      · simp; omega
      · simp; omega
  anti := fun a b => by
    rw [byte_is, byte_is]
    split
    · split
      · omega
      · rfl
    · split <;> rfl
  trans := fun a b c => by
    rw [byte_is, byte_is, byte_is]
    intro h1 h2
    split at h1 <;> split at h2 <;> (try split at h1) <;> (try split at h2) <;> (split <;> (try split)) <;> omega
theorem compareBytes_lex : ∀ a b : List UInt8, Go.Lib.compareBytes a b = lexH byteC a b
  | [], [] => rfl
  | [], _ :: _ => rfl
  | _ :: _, [] => rfl
  | a :: xr, b :: yr => by
    have ih := compareBytes_lex xr yr
    show (if a < b then -1 else if b < a then 1 else Go.Lib.compareBytes xr yr) = (if byteC a b = 0 then lexH byteC xr yr else byteC a b)
    by_cases h1 : a < b
    · have e : byteC a b = -1 := by unfold byteC; rw [if_pos h1]
      rw [if_pos h1, e]; rfl
    · by_cases h2 : b < a
      · have e : byteC a b = 1 := by unfold byteC; rw [if_neg h1, if_pos h2]
        rw [if_neg h1, if_pos h2, e]; rfl
      · have e : byteC a b = 0 := by unfold byteC; rw [if_neg h1, if_neg h2]
        rw [if_neg h1, if_neg h2, e, ih]; rfl
/-- a part of a key: its place, and its text -/
abbrev Part : Type := Nat × ByteArray
def txtC (a b : ByteArray) : Int := Go.Lib.compareBytes a.data.toList b.data.toList
theorem cmp_on {α β : Type} {f : α → α → Int} (h : IsCmp f) (g : β → α) (hg : ∀ x y, g x = g y → x = y) : IsCmp (fun x y => f (g x) (g y)) where
  unit := fun a b => h.unit _ _
  zero := fun a b => by
    rw [h.zero]
    exact ⟨fun e => hg _ _ e, fun e => by rw [e]⟩
  anti := fun a b => h.anti _ _
  trans := fun a b c => h.trans _ _ _
theorem txt_cmp : IsCmp txtC := by
  have := cmp_on byte_cmp.lex (fun a : ByteArray => a.data.toList) (fun x y e => by
    cases x; cases y
    simp only [Array.toList_inj] at e
    rw [e])
  have e : txtC = fun x y : ByteArray => lexH byteC x.data.toList y.data.toList := by
    funext x y
    exact compareBytes_lex _ _
  rw [e]; exact this
/-- how two keys stand -/
def keyC : List ByteArray → List ByteArray → Int := lexH txtC
theorem key_cmp : IsCmp keyC := txt_cmp.lex
def natC (a b : Nat) : Int := if (a : Int) < b then -1 else if (b : Int) < a then 1 else 0
/-- how two keys stand that are alike ahead of these parts -/
def partC (p q : Part) : Int := if natC q.1 p.1 = 0 then txtC p.2 q.2 else natC q.1 p.1
/-- the parts of a key from place i on: those that no place ahead has told -/
def partsFrom (first : Nat → Bool) (cell : Nat → ByteArray) : Nat → Nat → List Part
  | _, 0 => []
  | i, n + 1 => if first i = true ∧ cell i ≠ ByteArray.empty then (i, cell i) :: partsFrom first cell (i + 1) n else partsFrom first cell (i + 1) n
theorem parts_ge (first : Nat → Bool) (cell : Nat → ByteArray) : ∀ (n i : Nat), ∀ p ∈ partsFrom first cell i n, i ≤ p.1
  | 0, i, p, h => by simp [partsFrom] at h
  | n + 1, i, p, h => by
    unfold partsFrom at h
    split at h
    · rcases List.mem_cons.1 h with rfl | h
      · exact Nat.le_refl _
      · have := parts_ge first cell n (i + 1) p h; omega
    · have := parts_ge first cell n (i + 1) p h; omega
theorem txt_empty (a : ByteArray) (h : a ≠ ByteArray.empty) : txtC a ByteArray.empty = 1 ∧ txtC ByteArray.empty a = -1 := by
  have h1 : txtC a ByteArray.empty = 1 := by
    have hl : a.data.toList ≠ [] := fun e => h (by cases a; simp at e; subst e; rfl)
    unfold txtC
    cases hh : a.data.toList with
    | nil => exact absurd hh hl
    | cons x l => rfl
  exact ⟨h1, by rw [txt_cmp.anti, h1]⟩
/-- two keys' parts stand as the keys do -/
theorem parts_key (first : Nat → Bool) (ca cb : Nat → ByteArray) (N : Nat) (hf : ∀ i, i < N → first i = false → ∃ j, j < i ∧ ca j = ca i ∧ cb j = cb i) : ∀ (n i : Nat), i + n = N → (∀ j, j < i → ca j = cb j) →
    lexH partC (partsFrom first ca i n) (partsFrom first cb i n) = keyC ((List.range' i n).map ca) ((List.range' i n).map cb)
  | 0, i, _, _ => rfl
  | n + 1, i, hN, hD => by
    rw [List.range'_succ, List.map_cons, List.map_cons]
    have step : ca i = cb i → lexH partC (partsFrom first ca (i + 1) n) (partsFrom first cb (i + 1) n) = keyC ((List.range' (i + 1) n).map ca) ((List.range' (i + 1) n).map cb) := fun e =>
      parts_key first ca cb N hf n (i + 1) (by omega) (fun j hj => by
        by_cases h : j = i
        · rw [h]; exact e
        · exact hD j (by omega))
    have hkey : keyC (ca i :: (List.range' (i + 1) n).map ca) (cb i :: (List.range' (i + 1) n).map cb) = if txtC (ca i) (cb i) = 0 then keyC ((List.range' (i + 1) n).map ca) ((List.range' (i + 1) n).map cb) else txtC (ca i) (cb i) := rfl
    rw [hkey]
    unfold partsFrom
    cases hfi : first i with
    | false =>
      obtain ⟨j, hj, e1, e2⟩ := hf i (by omega) hfi
      have e : ca i = cb i := by rw [← e1, ← e2]; exact hD j hj
      rw [if_neg (by simp), if_neg (by simp), if_pos ((txt_cmp.zero _ _).2 e)]
      exact step e
    | true =>
      by_cases ha : ca i = ByteArray.empty
      · by_cases hb : cb i = ByteArray.empty
        · rw [if_neg (by simp [ha]), if_neg (by simp [hb]), if_pos ((txt_cmp.zero _ _).2 (by rw [ha, hb]))]
          exact step (by rw [ha, hb])
        · rw [if_neg (by simp [ha]), if_pos ⟨rfl, hb⟩, ha, (txt_empty _ hb).2]
          have hg := parts_ge first ca n (i + 1)
          generalize partsFrom first ca (i + 1) n = L at hg
          cases L with
          | nil => rfl
          | cons p L =>
            have := hg p List.mem_cons_self
            have e : partC p (i, cb i) = -1 := by
              unfold partC natC
              simp only
              rw [if_pos (show (i : Int) < p.1 by omega)]
              rfl
            simp only [lexH, e]; rfl
      · by_cases hb : cb i = ByteArray.empty
        · rw [if_pos ⟨rfl, ha⟩, if_neg (by simp [hb]), hb, (txt_empty _ ha).1]
          have hg := parts_ge first cb n (i + 1)
          generalize partsFrom first cb (i + 1) n = L at hg
          cases L with
          | nil => rfl
          | cons p L =>
            have := hg p List.mem_cons_self
            have e : partC (i, ca i) p = 1 := by
              unfold partC natC
              simp only
              rw [if_neg (show ¬ (p.1 : Int) < i by omega), if_pos (show (i : Int) < p.1 by omega)]
              rfl
            simp only [lexH, e]; rfl
        · rw [if_pos ⟨rfl, ha⟩, if_pos ⟨rfl, hb⟩]
          have e : partC (i, ca i) (i, cb i) = txtC (ca i) (cb i) := by
            unfold partC natC
            simp
          simp only [lexH, e]
          by_cases hz : txtC (ca i) (cb i) = 0
          · rw [if_pos hz, if_pos hz]; exact step ((txt_cmp.zero _ _).1 hz)
          · rw [if_neg hz, if_neg hz]
/-- the rank of a key: how many are less -/
def rankK {α : Type} (f : α → α → Int) (l : List α) (x : α) : Int := ((l.filter fun y => decide (f y x < 0)).length : Int)
theorem filter_more {α : Type} (p q : α → Bool) : ∀ (l : List α), (∀ y ∈ l, p y = true → q y = true) → (l.filter p).length ≤ (l.filter q).length ∧ (∀ x ∈ l, p x = false → q x = true → (l.filter p).length < (l.filter q).length)
  | [], _ => ⟨Nat.le_refl _, fun x hx => by simp at hx⟩
  | a :: l, h => by
    obtain ⟨i1, i2⟩ := filter_more p q l (fun y hy => h y (List.mem_cons_of_mem _ hy))
    have ha := h a List.mem_cons_self
    rw [List.filter_cons, List.filter_cons]
    cases hp : p a with
    | true =>
      rw [ha hp]
      simp only [if_true, List.length_cons]
      refine ⟨by omega, fun x hx hpx hqx => ?_⟩
      rcases List.mem_cons.1 hx with rfl | hx
      · rw [hp] at hpx; cases hpx
      · have := i2 x hx hpx hqx; omega
    | false =>
      cases hq : q a with
      | true =>
        simp only [if_true, List.length_cons]
        exact ⟨by simp; omega, fun x hx hpx hqx => by simp; omega⟩
      | false =>
        refine ⟨by simpa using i1, fun x hx hpx hqx => ?_⟩
        rcases List.mem_cons.1 hx with rfl | hx
        · rw [hq] at hqx; cases hqx
        · have := i2 x hx hpx hqx; simpa using this
def intC (a b : Int) : Int := if a < b then -1 else if b < a then 1 else 0
theorem rank_cmp {α : Type} {f : α → α → Int} (h : IsCmp f) (l : List α) (x y : α) (hx : x ∈ l) (hy : y ∈ l) : intC (rankK f l x) (rankK f l y) = f x y := by
  have key : ∀ x y, x ∈ l → f x y < 0 → rankK f l x < rankK f l y := fun x y hx hlt => by
    unfold rankK
    have := (filter_more (fun z => decide (f z x < 0)) (fun z => decide (f z y < 0)) l (fun z _ hz => by
      simp only [decide_eq_true_eq] at hz ⊢
      exact h.lt_trans (by omega) (by omega) (.inl hz))).2 x hx (by
        simp only [decide_eq_false_iff_not]; have := (h.zero x x).2 rfl; omega) (by simpa using hlt)
    omega
  unfold intC
  rcases h.unit x y with e | e | e
  · rw [if_pos (key x y hx (by omega)), e]
  · have e2 := (h.zero x y).1 e
    subst e2
    rw [if_neg (by omega), if_neg (by omega), e]
  · have := h.anti x y
    have := key y x hy (by omega)
    rw [if_neg (by omega), if_pos this, e]
end Go.Proofs.YtdenehnneloegaaGreatDoor
namespace Go.Proofs.YtdenehnneloegaaGreatDoor
open Go.RowKit Go.Shelf Go.Maps
set_option linter.unusedVariables false
theorem ownsMapI_below {H : Type} {P : Program} {k : TypeId} {R : Value → Option (DataW H × List MemPlace)} {b n : Nat} {D : DataW H} {w w' : World} (h : w.ownsMap P k R b n D) (hB : Below w.heap.size w w') : w'.ownsMap P k R b n D :=
  h.kept (row := none) ⟨hB.os, hB.tape, hB.output, hB.size, fun k hk _ => hB.block k hk⟩ (by simp)
theorem keyII (x : Int) : WideAt.IsKeyLit (.int .i64 x) := by first | exact trivial | constructor | simp [WideAt.IsKeyLit]
/-- the A of the first pair that has a B -/
def firstBI (l : PL) (z : Int) : Option Int := (l.find? (fun p => p.2 == z)).map Prod.fst
theorem firstBI_snoc (l : PL) (p : Int × Int) (z : Int) : firstBI (l ++ [p]) z = (firstBI l z).or (if p.2 = z then some p.1 else none) := by
  unfold firstBI
  rw [List.find?_append]
  cases h : l.find? (fun p => p.2 == z) with
  | some q => rfl
  | none =>
    by_cases e : p.2 = z
    · simp [e]
    · simp [e]
structure FirstIsI (D : DataW Unit) (l : PL) : Prop where
  map : IsMap D
  look : ∀ z, D.atKey (.int .i64 z) (.lit (.int .i64 0)) = .lit (.int .i64 ((firstBI l z).getD 0))
  here : ∀ z, has D (.int .i64 z) = (firstBI l z).isSome
theorem FirstIsI.empty : FirstIsI (.map []) [] := ⟨isMap_empty, fun z => rfl, fun z => rfl⟩
theorem FirstIsI.put {D : DataW Unit} {l : PL} (h : FirstIsI D l) (p : Int × Int) (hno : firstBI l p.2 = none) : FirstIsI (D.put (.int .i64 p.2) (.lit (.int .i64 p.1))) (l ++ [p]) := by
  refine ⟨h.map.put _ _, fun z => ?_, fun z => ?_⟩
  · rw [firstBI_snoc]
    by_cases e : p.2 = z
    · subst e
      rw [atKey_put_same h.map (keyII _), hno]; simp
    · rw [atKey_put_other (fun e' => e (by injection e' with _ e2; exact e2.symm)), h.look]; simp [e]
  · rw [firstBI_snoc]
    by_cases e : p.2 = z
    · subst e
      rw [has_put_same h.map (keyII _), hno]; simp
    · rw [has_put_other (fun e' => e (by injection e' with _ e2; exact e2.symm)), h.here]; simp [e]
theorem FirstIsI.skip {D : DataW Unit} {l : PL} (h : FirstIsI D l) (p : Int × Int) (a : Int) (hyes : firstBI l p.2 = some a) : FirstIsI D (l ++ [p]) := by
  have key : ∀ z, firstBI (l ++ [p]) z = firstBI l z := fun z => by
    rw [firstBI_snoc]
    by_cases e : p.2 = z
    · subst e; rw [hyes]; rfl
    · simp [e]
  exact ⟨h.map, fun z => by rw [key]; exact h.look z, fun z => by rw [key]; exact h.here z⟩
set_option maxRecDepth 100000 in
theorem first_lookI {w : World} {b k : Nat} {D : DataW Unit} {l : PL} (h : w.ownsMap Tryz.prog 3 (plainElem Tryz.prog 3) b k D) (hS : FirstIsI D l) (x : Int) (hx : (Lit.int .i64 x).wf = true) :
    (Instr.lookup 120 (.map (some b)) (.int .i64 x) true).run Tryz.prog w = .ok (.tuple #[.int .i64 ((firstBI l x).getD 0), .bool (firstBI l x).isSome]) w := by
  obtain ⟨v, ps, hrun, hv⟩ := h.look_ok (int_keyed Tryz.underlying3) Tryz.underlying120 (z := .int .i64 0) (Tryz.zeroValue3 _) (plainElem_int Tryz.underlying3 (by decide)) (keyOf_int_mk Tryz.underlying3 hx)
  obtain ⟨c, rfl, hc, _⟩ := plainElem_int_inv Tryz.underlying3 hv
  simp only [Prod.mk.injEq] at hc
  rw [hS.look] at hc
  have e : (firstBI l x).getD 0 = c := by have := hc.1; injection this with h1; injection h1
  rw [hS.here] at hrun
  rw [e]; exact hrun
/-- the columns, each behind its place -/
def colsP (cols : List Int) : List (Int × Int) := cols.zipIdx.map fun p => ((p.2 : Int), p.1)
theorem colsP_len (cols : List Int) : (colsP cols).length = cols.length := by simp [colsP]
theorem colsP_at (cols : List Int) (i : Nat) : (colsP cols)[i]? = cols[i]?.map fun c => ((i : Int), c) := by
  unfold colsP
  rw [List.getElem?_map, List.getElem?_zipIdx]
  cases cols[i]? <;> simp
theorem first_place (cols : List Int) (c a : Int) (h : firstBI (colsP cols) c = some a) : ∃ i : Nat, a = i ∧ cols[i]? = some c ∧ ∀ j : Nat, j < i → cols[j]? ≠ some c := by
  unfold firstBI at h
  obtain ⟨p, hp, e⟩ := Option.map_eq_some_iff.1 h
  rw [List.find?_eq_some_iff_getElem] at hp
  obtain ⟨h1, i, hi, h2, h3⟩ := hp
  have h4 := colsP_at cols i
  rw [List.getElem?_eq_getElem hi, h2] at h4
  have hil : i < cols.length := by rw [← colsP_len]; exact hi
  rw [List.getElem?_eq_getElem hil] at h4
  simp only [Option.map_some, Option.some.injEq] at h4
  rw [h4] at e h1
  simp only [beq_iff_eq] at h1
  refine ⟨i, e.symm, by rw [List.getElem?_eq_getElem hil, h1], fun j hj hc => ?_⟩
  have h5 := h3 j hj
  have h6 := colsP_at cols j
  rw [List.getElem?_eq_getElem (by omega), hc] at h6
  simp only [Option.map_some, Option.some.injEq] at h6
  rw [h6] at h5
  simp at h5
theorem first_here (cols : List Int) (c : Int) (i : Nat) (h : cols[i]? = some c) : ∃ j : Nat, firstBI (colsP cols) c = some (j : Int) ∧ j ≤ i ∧ cols[j]? = some c := by
  cases hf : firstBI (colsP cols) c with
  | none =>
    unfold firstBI at hf
    rw [Option.map_eq_none_iff, List.find?_eq_none] at hf
    have hm : ((i : Int), c) ∈ colsP cols := List.mem_of_getElem? (by rw [colsP_at, h]; rfl)
    exact absurd (hf _ hm) (by simp)
  | some a =>
    obtain ⟨j, rfl, h1, h2⟩ := first_place cols c a hf
    refine ⟨j, rfl, ?_, h1⟩
    rcases Nat.lt_or_ge i j with h3 | h3
    · exact absurd h (h2 i h3)
    · exact h3
/-- the text at a place of a key -/
def placeC (rs : List (List ByteArray)) (cols : List Int) (row : Int) (i : Nat) : ByteArray := cellL rs row (cols.getD i 0)
/-- is a place the first one of its column? -/
def isFirst (cols : List Int) (i : Nat) : Bool := decide (firstBI (colsP cols) (cols.getD i 0) = some (i : Int))
/-- the places of a row's parts -/
def spotsL (rs : List (List ByteArray)) (cols : List Int) (row : Int) : List Nat := (List.range cols.length).filter fun i => isFirst cols i && decide (placeC rs cols row i ≠ ByteArray.empty)
def partsL (rs : List (List ByteArray)) (cols : List Int) (row : Int) : List Part := partsFrom (isFirst cols) (placeC rs cols row) 0 cols.length
theorem parts_filter (first : Nat → Bool) (cell : Nat → ByteArray) : ∀ n i, partsFrom first cell i n = ((List.range' i n).filter fun j => first j && decide (cell j ≠ ByteArray.empty)).map fun j => (j, cell j)
  | 0, i => rfl
  | n + 1, i => by
    have ih := parts_filter first cell n (i + 1)
    rw [List.range'_succ, List.filter_cons]
    unfold partsFrom
    by_cases h1 : first i = true
    · by_cases h2 : cell i = ByteArray.empty
      · rw [if_neg (by simp [h2]), if_neg (by simp [h2])]; exact ih
      · rw [if_pos ⟨h1, h2⟩, if_pos (by simp [h1, h2]), ih]; rfl
    · rw [if_neg (by simp [h1]), if_neg (by simp [h1])]; exact ih
theorem parts_spots (rs : List (List ByteArray)) (cols : List Int) (row : Int) : partsL rs cols row = (spotsL rs cols row).map fun i => (i, placeC rs cols row i) := by
  unfold partsL spotsL
  rw [parts_filter, List.range_eq_range']
theorem key_places (rs : List (List ByteArray)) (cols : List Int) (row : Int) : cols.map (cellL rs row) = (List.range' 0 cols.length).map (placeC rs cols row) := by
  apply List.ext_getElem?
  intro i
  by_cases h : i < cols.length
  · simp [h, placeC, List.getD_eq_getElem?_getD]
  · simp [h]
/-- parts stand as the keys do -/
theorem parts_cmp (rs : List (List ByteArray)) (cols : List Int) (a b : Int) : lexH partC (partsL rs cols a) (partsL rs cols b) = keyC (cols.map (cellL rs a)) (cols.map (cellL rs b)) := by
  rw [key_places, key_places]
  refine parts_key (isFirst cols) (placeC rs cols a) (placeC rs cols b) cols.length (fun i hi hf => ?_) cols.length 0 (by omega) (fun j hj => by omega)
  have hc : cols[i]? = some (cols.getD i 0) := by simp [hi, List.getD_eq_getElem?_getD]
  obtain ⟨j, h1, h2, h3⟩ := first_here cols _ i hc
  have hne : j ≠ i := fun e => by
    unfold isFirst at hf
    have := of_decide_eq_false hf
    exact this (by rw [h1, e])
  have e : cols.getD j 0 = cols.getD i 0 := by rw [List.getD_eq_getElem?_getD, h3]; rfl
  exact ⟨j, by omega, by unfold placeC; rw [e], by unfold placeC; rw [e]⟩
/-- the place of a column's part, if it has one -/
def spotO (rs : List (List ByteArray)) (cols : List Int) (row : Int) (c : Nat) : Option Nat := match firstBI (colsP cols) c with | some a => if cellL rs row c = ByteArray.empty then none else some a.toNat | none => none
/-- the places, in order of the row's columns -/
def foundL (rs : List (List ByteArray)) (cols : List Int) (row : Int) (k : Nat) : List Nat := (List.range k).filterMap (spotO rs cols row)
theorem spot_is (rs : List (List ByteArray)) (cols : List Int) (row : Int) (c i : Nat) (h : spotO rs cols row c = some i) : firstBI (colsP cols) c = some (i : Int) ∧ cellL rs row c ≠ ByteArray.empty ∧ cols[i]? = some (c : Int) := by
  unfold spotO at h
  split at h
  · rename_i a ha
    split at h
    · cases h
    · rename_i hc
      obtain ⟨j, rfl, h1, h2⟩ := first_place cols _ _ ha
      simp at h; subst h
      exact ⟨ha, hc, h1⟩
  · cases h
theorem rise_unique : ∀ (A B : List Nat), A.Pairwise (· < ·) → B.Pairwise (· < ·) → (∀ x, x ∈ A ↔ x ∈ B) → A = B
  | [], [], _, _, _ => rfl
  | [], b :: B, _, _, h => by have := (h b).2 List.mem_cons_self; simp at this
  | a :: A, [], _, _, h => by have := (h a).1 List.mem_cons_self; simp at this
  | a :: A, b :: B, hA, hB, h => by
    have hA2 := List.pairwise_cons.1 hA
    have hB2 := List.pairwise_cons.1 hB
    have e : a = b := by
      rcases List.mem_cons.1 ((h a).1 List.mem_cons_self) with e | h1
      · exact e
      · rcases List.mem_cons.1 ((h b).2 List.mem_cons_self) with e | h2
        · exact e.symm
        · have := hB2.1 a h1; have := hA2.1 b h2; omega
    subst e
    congr 1
    refine rise_unique A B hA2.2 hB2.2 fun x => ?_
    constructor
    · intro hx
      rcases List.mem_cons.1 ((h x).1 (List.mem_cons_of_mem _ hx)) with e | h1
      · have := hA2.1 x hx; omega
      · exact h1
    · intro hx
      rcases List.mem_cons.1 ((h x).2 (List.mem_cons_of_mem _ hx)) with e | h1
      · have := hB2.1 x hx; omega
      · exact h1
theorem cell_inside (rs : List (List ByteArray)) (row : Nat) (r : List ByteArray) (hr : rs[row]? = some r) (c : Int) (h : cellL rs row c ≠ ByteArray.empty) : 0 ≤ c ∧ c.toNat < r.length := by
  unfold cellL at h
  split at h
  · rename_i hh
    refine ⟨hh.2, ?_⟩
    rcases Nat.lt_or_ge c.toNat r.length with h1 | h1
    · exact h1
    · exfalso
      apply h
      simp [hr, List.getElem?_eq_none h1]; rfl
  · exact absurd rfl h
theorem found_sorted (rs : List (List ByteArray)) (cols : List Int) (row : Nat) (r : List ByteArray) (hr : rs[row]? = some r) : ((foundL rs cols row r.length).mergeSort fun x y => decide (x ≤ y)) = spotsL rs cols row := by
  have hnd : (foundL rs cols row r.length).Nodup := by
    unfold foundL
    rw [List.Nodup, List.pairwise_filterMap]
    refine List.Pairwise.imp_of_mem (R := fun a b => a < b) (fun {a b} _ _ hab i hi j hj e => ?_) List.pairwise_lt_range
    subst e
    have h1 := (spot_is rs cols row a _ hi).2.2
    have h2 := (spot_is rs cols row b _ hj).2.2
    rw [h1] at h2
    simp at h2; omega
  have hs := List.pairwise_mergeSort (le := fun x y : Nat => decide (x ≤ y)) (by intro a b c h k; simp at h k ⊢; omega) (by intro a b; simp; omega) (foundL rs cols row r.length)
  have hp := List.mergeSort_perm (foundL rs cols row r.length) fun x y => decide (x ≤ y)
  refine rise_unique _ _ ?_ (List.pairwise_lt_range.filter _) fun x => ?_
  · have hn2 := hp.nodup_iff.2 hnd
    refine (hs.and hn2).imp fun {a b} h => ?_
    have := of_decide_eq_true h.1
    have := h.2
    omega
  · rw [hp.mem_iff]
    unfold foundL spotsL
    rw [List.mem_filterMap, List.mem_filter, List.mem_range]
    constructor
    · rintro ⟨c, hc, h⟩
      obtain ⟨h1, h2, h3⟩ := spot_is rs cols row c x h
      have hx := (List.getElem?_eq_some_iff.1 h3).1
      have e : cols.getD x 0 = (c : Int) := by rw [List.getD_eq_getElem?_getD, h3]; rfl
      refine ⟨hx, ?_⟩
      rw [Bool.and_eq_true]
      unfold isFirst placeC
      rw [e]
      exact ⟨decide_eq_true h1, decide_eq_true h2⟩
    · rintro ⟨hx, h⟩
      rw [Bool.and_eq_true] at h
      have h1 := of_decide_eq_true h.1
      have h2 := of_decide_eq_true h.2
      unfold placeC at h2
      obtain ⟨h3, h4⟩ := cell_inside rs row r hr _ h2
      obtain ⟨c, hc⟩ := Int.eq_ofNat_of_zero_le h3
      rw [hc] at h1 h2 h4
      refine ⟨c, List.mem_range.2 (by simpa using h4), ?_⟩
      unfold spotO
      rw [show ((c : Nat) : Int) = Int.ofNat c from rfl] at *
      rw [h1]
      simp only
      rw [if_neg h2]; rfl
theorem take_colsP (cols : List Int) (k : Nat) (c : Int) (hc : cols[k]? = some c) : (colsP cols).take (k + 1) = (colsP cols).take k ++ [((k : Int), c)] := by
  have h : (colsP cols)[k]? = some ((k : Int), c) := by rw [colsP_at, hc]; rfl
  obtain ⟨h1, e⟩ := List.getElem?_eq_some_iff.1 h
  rw [List.take_succ_eq_append_getElem h1, e]
set_option maxRecDepth 100000 in
theorem run_makeMap_hintI (n : Int) (w : World) : (Instr.makeMap 120 (some (.int .i64 n))).run Tryz.prog w = .ok (.map (some w.heap.size)) (w.alloc (.map #[] 0)) := by
  simp [Instr.makeMap, run_underlying Tryz.underlying120, asInt, newObj, go_sem]
  rfl
/-- the map of the first places -/
def FirstsC (cols : List Int) (w : World) (e : Ending) (w' : World) : Prop := ∃ B D, e = .returned (.map (some B)) ∧ w.heap.size ≤ B ∧ w'.ownsMap Tryz.prog 3 (plainElem Tryz.prog 3) B cols.length D ∧ FirstIsI D (colsP cols) ∧ Below w.heap.size w w'
set_option maxRecDepth 100000 in
set_option maxHeartbeats 2000000 in
theorem firstsC_any (ao : Option Addr) (ca : Nat) (cols : List Int) (w : World) (hn : cols.length ≤ 1073741824) (hx : ∀ c ∈ cols, (Lit.int .i64 c).wf = true) (hR : IntsAt w ao cols) :
    Calls Tryz.prog 132 #[.slice ao cols.length ca] w (FirstsC cols w) := by
  have HRo := Lib.hid hR
  have HXo := Lib.hid hx
  have hmm := run_makeMap_hintI
  clear hR hx
  go_enter Tryz.func132, Tryz.ntmps132
  go_wp2_with fail
  have HO : Hid ((w.alloc (.map #[] 0)).ownsMap Tryz.prog 3 (plainElem Tryz.prog 3) w.heap.size 0 (.map [] : DataW Unit)) := Lib.hid (World.ownsMap_made w _ _ _)
  have HB : Hid (Below w.heap.size w (w.alloc (.map #[] 0))) := Lib.hid ((Below.refl _ w).alloc (Nat.le_refl _) _)
  go_loopw [13] (fun i wr => ∃ (k : Nat) (D : DataW Unit), k ≤ cols.length ∧ i = .int .i64 k ∧ Hid (Below w.heap.size w wr) ∧ Hid (wr.ownsMap Tryz.prog 3 (plainElem Tryz.prog 3) w.heap.size k D) ∧ Hid (FirstIsI D ((colsP cols).take k))) (fun i _ => cols.length - (intOf i).toNat)
  case atStart => exact ⟨0, _, Nat.zero_le _, rfl, HB, HO, Lib.hid FirstIsI.empty⟩
  case round =>
    obtain ⟨k, D, hk, rfl, HB, HO, HD⟩ := hrel
    by_cases hlt : k < cols.length
    · obtain ⟨x, hx⟩ : ∃ x, cols[k]? = some x := ⟨_, List.getElem?_eq_getElem hlt⟩
      rcases (HRo.out.kept HB.out) with h0 | ⟨A, rfl, hA, hcell⟩
      · rw [h0] at hx; simp at hx
      have hc1 := hcell k _ hx
      have HW := Lib.hid (HXo.out _ (List.mem_of_getElem? hx))
      have HTk := Lib.hid (take_colsP cols k x hx)
      have hlook := first_lookI HO.out HD.out x HW.out
      have HP := Lib.hid (fun h => HD.out.put ((k : Int), x) h)
      have HSk := Lib.hid (fun a h => HD.out.skip ((k : Int), x) a h)
      have hwk : (Lit.int .i64 (k : Int)).wf = true := Go.WalkArith.wf_i64 (n := (k : Int)) (by omega)
      clear hcell hx
      dsimp only at HP HSk
      generalize firstBI ((colsP cols).take k) x = fx at hlook HP HSk
      cases fx with
      | none =>
        have HD2 := Lib.hid (HP.out rfl)
        have hkm : k < maxLen := by unfold maxLen; omega
        have HK := Lib.hid (keyOf_int_mk (P := Tryz.prog) Tryz.underlying3 HW.out)
        have HE := Lib.hid (plainElem_int (H := Unit) (P := Tryz.prog) Tryz.underlying3 hwk)
        go_wp2_with (at_mapUpdate; refine wpList_mapUpdate_own _ rfl _ _ _ 120 rfl 3 3 (int_keyed Tryz.underlying3) Tryz.underlying120 _ w.heap.size k D rfl HO.out hkm _ _ (.int .i64 x) rfl rfl HK.out (.lit (.int .i64 (k : Int))) [] HE.out ?_; intro w3 ho hg)
        have HO3 := Lib.hid ho
        have HB3 := Lib.hid (HB.out.grown hg HB.out.size (fun k h => by cases h; exact Nat.le_refl _))
        have HD3 : Hid (FirstIsI _ ((colsP cols).take (k + 1))) := Lib.hid (by rw [HTk.out]; exact HD2.out)
        clear ho hg hlook
        go_wp2_with fail
        go_roundw
        case rel => exact ⟨k + 1, _, by omega, by go_num, HB3, HO3, HD3⟩
        case measure => simp [intOf]; omega
      | some a =>
        have HD3 : Hid (FirstIsI D ((colsP cols).take (k + 1))) := Lib.hid (by rw [HTk.out]; exact HSk.out a rfl)
        have HO3 := Lib.hid (HO.out.mono (Nat.le_succ k))
        go_wp2_with fail
        go_roundw
        case rel => exact ⟨k + 1, _, by omega, by go_num, HB, HO3, HD3⟩
        case measure => simp [intOf]; omega
    · obtain rfl : k = cols.length := by omega
      have HE : Hid (FirstsC cols w (.returned (.map (some w.heap.size))) wr) := Lib.hid ⟨_, D, rfl, Nat.le_refl _, HO.out, by have := HD.out; rwa [List.take_of_length_le (by rw [colsP_len]; exact Nat.le_refl _)] at this, HB.out⟩
      clear HO HD
      go_wp2_with fail
      go_ret
      exact HE.out
end Go.Proofs.YtdenehnneloegaaGreatDoor
