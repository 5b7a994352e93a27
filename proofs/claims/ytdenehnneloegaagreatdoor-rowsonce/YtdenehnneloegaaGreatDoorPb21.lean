/-
  Texts of these rows' proofs, laid one behind the other: KUsable, KRange, KChoice, KChoice2, KInfer, KApp, KRef1, KMath2.
  Conditions: those of each theorem.
-/
import Derived.WalkKit
import Derived.WalkMore
import Derived.IntWalk
import Derived.WalkArith
import Derived.OwnWalk
import Derived.Lib.Hide
import Derived.Test.YtdenehnneloegaaGreatDoorProg
import Derived.Test.YtdenehnneloegaaGreatDoorPb20
import Derived.RangeFuncWrites
import Derived.Test.YtdenehnneloegaaGreatDoorPb1
import Derived.Deep.OwnRows
import Derived.OwnWalkIn
import Derived.TacticsInMore
import Derived.LoopNIn
import Derived.LoopIn
import Derived.RegionTactic
import Derived.Deep.RegionHeld3
import Derived.ProofKit
import Derived.OpenShut
import Derived.SizedLaws
import Derived.ChangeSlices
import Derived.ChangeArms
import Derived.Deep.SlicePairs
import Derived.Lib.SmallJoins
import Derived.Test.YtdenehnneloegaaGreatDoorPb4
import Derived.Test.YtdenehnneloegaaGreatDoorPb7
import Derived.Deep.QuietTactic
import Derived.Deep.RegionWith
import Derived.BigQuiet
import Derived.Test.YtdenehnneloegaaGreatDoorPb18
namespace Go.Proofs.YtdenehnneloegaaGreatDoor
open Go.RowKit Go.Shelf Go.Maps
set_option linter.unusedVariables false
def usableC (ts : List TabK) (names : List ByteArray) : Bool := decide (0 < names.length) && decide ((candsL ts names).length = names.length) && apartC ts (candsL ts names)
theorem cands_ok (ts : List TabK) (names : List ByteArray) (h : TabsOk ts) : CandsOk ts (candsL ts names) := by
  have key : ∀ (ts : List TabK), TabsOk ts → ∀ c ∈ candsL ts names, ∀ x ∈ c.2, (Lit.int .i64 x).wf = true := fun ts => by
    induction ts using List.reverseRecOn' with
    | nil => intro _ c hc; unfold candsL at hc; simp at hc; obtain ⟨s, _, rfl⟩ := hc; intro x hx; simp at hx
    | snoc ts t ih =>
      intro h c hc
      rw [cands_snoc] at hc
      unfold stepC at hc
      rw [List.mem_filterMap] at hc
      obtain ⟨d, hd, he⟩ := hc
      split at he
      · cases he
        intro x hx
        rw [List.mem_append, List.mem_singleton] at hx
        rcases hx with hx | rfl
        · exact ih (fun t' ht' => h t' (by simp [ht'])) d hd x hx
        · have h1 := (h t (by simp)).1
          rw [find_text]
          rcases find_range t.1 d.1.data.toList with e | ⟨h2, h3⟩
          · rw [e]; exact Go.WalkArith.wf_i64 (by omega)
          · exact Go.WalkArith.wf_i64 (by omega)
      · cases he
  exact fun c hc => ⟨cands_at ts names c hc, key ts h c hc⟩
set_option maxRecDepth 100000 in
set_option maxHeartbeats 4000000 in
theorem usable_any (lo : Option Addr) (lc : Nat) (ts : List TabK) (ao : Option Addr) (cap : Nat) (names : List ByteArray) (w : World) (hts : ts.length ≤ 1073741824) (hn : names.length ≤ 1048576) (hs : ∀ c ∈ names, c.size ≤ maxLen) (hT : TabsOk ts) (hH : HeadsOk ts) (hL : TabsAt w lo ts) (hR : StrRow w ao names) (hpow : Pow w) :
    Calls Tryz.prog 19 #[.slice lo ts.length lc, .slice ao names.length cap] w fun e w' => e = .returned (.bool (usableC ts names)) ∧ Below w.heap.size w w' := by
  have CA := Lib.hid (candidates_any lo lc ts ao cap names w hts (by omega) hs hH hL hR)
  have HTo := Lib.hid hT
  have HLo := Lib.hid hL
  have HP := Lib.hid hpow
  have hcl := cands_len ts names
  have HCK := Lib.hid (cands_ok ts names hT)
  unfold usableC
  obtain ⟨ch, hch⟩ : ∃ ch, ch = candsL ts names := ⟨_, rfl⟩
  rw [← hch] at CA hcl HCK ⊢
  obtain ⟨F, hF⟩ : ∃ F, F = apartC ts ch := ⟨_, rfl⟩
  have HF := Lib.hid hF
  rw [← hF]
  clear hT hH hL hR hs hpow hch hF
  go_enter Tryz.func19, Tryz.ntmps19
  go_wp2_with fail
  refine CA.out.mono ?_
  rintro e w1 ⟨v, cvs, rfl, hO, hcv, hB⟩
  obtain ⟨co, cc, rfl, hCA⟩ := hO.cands
  rw [hcv] at hCA ⊢
  have C := Lib.hid (apart_any lo lc ts co cc ch w1 hts (by omega) HTo.out HCK.out (HLo.out.kept hB) hCA (HP.out.kept hB))
  rw [← HF.out] at C
  have HB := Lib.hid hB
  clear hO hcv hB hCA CA
  by_cases h0 : 0 < names.length
  · by_cases h1 : ch.length = names.length
    · have e0 : decide (0 < (names.length : Int)) = true := by simpa using h0
      have e1 : ((ch.length : Int) == (names.length : Int)) = true := by simp; omega
      have EQ := Lib.hid h1
      clear h1
      go_wp2_with fail
      refine C.out.mono ?_
      rintro e w2 ⟨rfl, b2⟩
      have B2 := Lib.hid (below_up HB.out b2)
      clear b2
      go_wp2_with fail
      go_ret
      exact ⟨by rw [decide_eq_true h0, decide_eq_true EQ.out]; rfl, B2.out⟩
    · have e0 : decide (0 < (names.length : Int)) = true := by simpa using h0
      have e1 : ((ch.length : Int) == (names.length : Int)) = false := by
        cases hh : ((ch.length : Int) == (names.length : Int)) with
        | false => rfl
        | true => exact absurd (eq_of_beq hh) (by omega)
      go_wp2_with fail
      go_ret
      exact ⟨by rw [decide_eq_false h1]; simp, HB.out⟩
  · have e0 : decide (0 < (names.length : Int)) = false := decide_eq_false (by omega)
    go_wp2_with fail
    go_ret
    exact ⟨by rw [decide_eq_false h0]; rfl, HB.out⟩
end Go.Proofs.YtdenehnneloegaaGreatDoor
namespace Go.Proofs.YtdenehnneloegaaGreatDoor
open Go.RowKit
section
variable {α : Type} {F : Fence} {n : Nat} {P : Program}
theorem Apart.mono {b b' : Nat} {J : World → Prop} (h : Apart b J) (hb : b ≤ b') : Apart b' J := fun A l o o' hJ hl hk hc => h A l o o' hJ (by omega) hk hc
end
end Go.Proofs.YtdenehnneloegaaGreatDoor
namespace Go.Proofs.YtdenehnneloegaaGreatDoor
open Go.RowKit Go.Shelf Go.Sort
set_option linter.unusedVariables false
attribute [local go_sem] Oper.semAt_some
/-- all choices of so many, in order -/
def choicesL {α : Type} : Nat → List α → List (List α)
  | 0, _ => [[]]
  | _ + 1, [] => []
  | n + 1, x :: xs => (choicesL n xs).map (x :: ·) ++ choicesL (n + 1) xs
theorem CandsAt.drop {w : World} {b o : Nat} {cs : List Cand} (h : CandsAt w (some ⟨b, o, none⟩) cs) (k : Nat) : CandsAt w (some ⟨b, o + k * 2, none⟩) (cs.drop k) := by
  rcases h with h | ⟨b', o', h1, h2, h3⟩
  · exact .inl (by rw [h]; simp)
  · cases h1
    refine .inr ⟨b, o + k * 2, rfl, h2, fun i c hc => ?_⟩
    rw [List.getElem?_drop] at hc
    have := h3 (k + i) c hc
    rw [show o + k * 2 + i * 2 = o + (k + i) * 2 by omega]
    exact this
end Go.Proofs.YtdenehnneloegaaGreatDoor
namespace Go.Proofs.YtdenehnneloegaaGreatDoor
open Go.RowKit Go.Shelf Go.Sort
set_option linter.unusedVariables false
attribute [local go_sem] Oper.semAt_some
end Go.Proofs.YtdenehnneloegaaGreatDoor
namespace Go.Proofs.YtdenehnneloegaaGreatDoor
open Go.RowKit Go.Shelf Go.Sort
set_option linter.unusedVariables false
attribute [local go_sem] Oper.semAt_some
/-- the choices of fewer than so many -/
def preL (c : List Cand) (q : Nat) : List (List Cand) := (List.range (q - 1)).flatMap fun i => choicesL (i + 1) c
end Go.Proofs.YtdenehnneloegaaGreatDoor
namespace Go.Proofs.YtdenehnneloegaaGreatDoor
open Go.RowKit Go.Shelf Go.Deep
set_option linter.unusedVariables false
/-- an append in a region that draws: of a slice that the code owns -/
theorem step_append_gd {P : Program} {w : World} {ops : Array Oper} {o : Oper} {a : Act} {K : Act → World → Prop} {Q : Exit → Act → World → Prop} {E : Prop} (hw : Region.wanted o (yielded ops a.tmps) = true) (s x : Operand) (t : TypeId)
    (ho : o.op = .call { callee := .builtin .append, args := #[s, x], argTypes := #[t, t] })
    (base : Nat) (e : TypeId) (i : TypeInfo) (z : Value) (size bytes : Nat) (ht : P.underlying t = some (.slice e)) (hi : P.info? e = some i) (hz : i.zero = some z)
    (hsize : i.size = size) (hby : i.bytes = bytes) (hzs : z.cells.size = size) (hsz : 0 < size)
    (v : Value) (n : Nat) (xs : List Value) (hs : a.eval s = v) (hown : w.ownsRow base e size v n xs)
    (xo : Option Addr) (m c : Nat) (news : List Value) (hx : a.eval x = .slice xo m c) (hnone : xo = none → m = 0 ∧ c = 0) (hl : news.length = m * size) (hnews : ∀ ad, xo = some ad → ∀ (j : Nat) u, news[j]? = some u → w.cell? (ad.add j) = some u) (h1 : ∀ u ∈ news, u.oneCell' = true)
    (h63 : n + m ≤ maxLen) (hbytes : (n + m) * bytes ≤ 140737488355328) (hbase : base ≤ w.heap.size) (N : Nat) (hN : n + m = N) (L : List Value) (hL : xs ++ news = L)
    (h : ∀ ao cap w', w'.ownsRow base e size (.slice ao N cap) N L → w.grownBy w' v.ownBlock → Below base w w' → K (a.put o.dst (.slice ao N cap)) w') :
    if Region.wanted o (yielded ops a.tmps) = true then Oper.wp P o a w K Q else E := by
  subst hN hL
  rw [if_pos hw]
  have fin : ∀ v' w', w'.ownsRow base e size v' (n + m) (xs ++ news) → w.grownBy w' v.ownBlock → K (a.put o.dst v') w' := fun v' w' h2 h3 => by
    obtain ⟨ao, cap, rfl⟩ := own_slice h2
    exact h ao cap w' h2 h3 ((Below.refl base w).grown h3 hbase (fun j hj => (hown.lt j hj).1))
  cases xo with
  | none =>
    obtain ⟨rfl, rfl⟩ := hnone rfl
    have hnil : news = [] := List.eq_nil_of_length_eq_zero (by rw [hl]; simp)
    subst hnil
    have hrun := run_append_owned_none (P := P) (w := w) base t o.type e i size ht hi v n xs hown
    unfold Oper.wp
    simp [execOp, ho, resolve, invoke, builtin, hs, hx, hrun, Result.andThen]
    exact fin v w (by simpa using hown) ⟨rfl, rfl, rfl, Nat.le_refl _, fun _ _ _ => rfl⟩
  | some ad => exact wp_append_own w s x t ho base e i z size bytes ht hi hz hsize hby hzs hsz v n xs hs hown ad m c news hx hl (hnews ad rfl) h1 h63 hbytes hbase (fun v' w' h2 h3 _ => fin v' w' h2 h3)
end Go.Proofs.YtdenehnneloegaaGreatDoor
namespace Go.Proofs.YtdenehnneloegaaGreatDoor
open Go.RowKit Go.Shelf Go.Deep
set_option linter.unusedVariables false
theorem own_strsK {w : World} {base : Nat} {e : TypeId} {ao : Option Addr} {n cap : Nat} {xs : List ByteArray} {L : List Value} (h : w.ownsRow base e 1 (.slice ao n cap) n L) (hL : L = xs.map Value.string) : StrRow w ao xs := by
  subst hL
  rcases h.2 with ⟨hv, h0⟩ | ⟨g, c, cur, hv, _, hg, _⟩
  · have := h.1; simp at this; exact .inl (List.eq_nil_of_length_eq_zero (by omega))
  · cases hv
    refine .inr ⟨_, rfl, (h.lt g rfl).2, fun i c hc => h.cells rfl i _ (by rw [List.getElem?_map, hc]; rfl)⟩
end Go.Proofs.YtdenehnneloegaaGreatDoor
namespace Go.Proofs.YtdenehnneloegaaGreatDoor
set_option linter.unusedVariables false
theorem once_eq (xs : List ByteArray) : (onceL xs).length = xs.length → onceL xs = xs := by
  induction xs using List.reverseRecOn' with
  | nil => intro _; rfl
  | snoc xs y ih =>
    intro h
    have hl := once_len xs
    rw [once_snoc] at h ⊢
    split at h
    · rw [List.length_append] at h; simp at h; omega
    · rename_i hn
      rw [if_neg hn]
      rw [ih (by rw [List.length_append, List.length_append] at h; simpa using h)]
theorem once_of (xs : List ByteArray) : xs.Nodup → onceL xs = xs := by
  induction xs using List.reverseRecOn' with
  | nil => intro _; rfl
  | snoc xs y ih =>
    intro h
    rw [List.nodup_append] at h
    obtain ⟨h1, -, h3⟩ := h
    have e := ih h1
    rw [once_snoc, e, if_neg]
    intro hm
    exact h3 y ((mem_bytes _ _).1 hm) y (by simp) rfl
theorem step_map (hd : List ByteArray) (p : ByteArray → Bool) (g : ByteArray → List Int) : ∀ l : List ByteArray, stepC hd ((l.filter p).map fun s => (s, g s)) = (l.filter fun s => p s && decide (0 ≤ findL hd s)).map fun s => (s, g s ++ [findL hd s])
  | [] => rfl
  | a :: l => by
    have ih := step_map hd p g l
    unfold stepC at ih ⊢
    by_cases hp : p a = true
    · by_cases hf : 0 ≤ findL hd a
      · simp only [List.filter_cons, hp, if_true, List.map_cons, List.filterMap_cons, hf, decide_true, Bool.and_true, ih]
      · simp only [List.filter_cons, hp, if_true, List.map_cons, List.filterMap_cons, hf, decide_false, Bool.and_false, if_false, ih]
        rfl
    · simp only [List.filter_cons, hp, Bool.false_and]
      simp [ih]
theorem cands_is (ts : List TabK) (names : List ByteArray) : candsL ts names = ((onceL names).filter fun s => ts.all fun t => decide (0 ≤ findL t.1 s)).map fun s => (s, ts.map fun t => findL t.1 s) := by
  induction ts using List.reverseRecOn' with
  | nil => simp only [List.all_nil, List.map_nil]; rw [List.filter_eq_self.2 (fun _ _ => rfl)]; rfl
  | snoc ts t ih =>
    rw [cands_snoc, ih, step_map]
    simp only [List.all_append, List.all_cons, List.all_nil, Bool.and_true, List.map_append, List.map_cons, List.map_nil]
theorem apartC_iff (ts : List TabK) (ch : List Cand) : apartC ts ch = true ↔ ∀ i t, ts[i]? = some t → uniqL t.1.length t.2 (colsOf ch i) = true := by
  constructor
  · intro h i t ht
    cases hu : uniqL t.1.length t.2 (colsOf ch i) with
    | true => rfl
    | false => rw [apartC_no ht hu] at h; cases h
  · exact apartC_yes
/-- the columns of names in a table -/
def placeL (t : TabK) (names : List ByteArray) : List Int := names.map (findL t.1)
theorem cols_full (ts : List TabK) (names : List ByteArray) (i : Nat) (t : TabK) (ht : ts[i]? = some t) : colsOf (names.map fun s => (s, ts.map fun t => findL t.1 s)) i = placeL t names := by
  unfold colsOf placeL
  rw [List.map_map]
  refine List.map_congr_left fun s _ => ?_
  simp [List.getD_eq_getElem?_getD, ht]
theorem usable_iff (ts : List TabK) (names : List ByteArray) : usableC ts names = true ↔ names ≠ [] ∧ names.Nodup ∧ ∀ t ∈ ts, (∀ s ∈ names, 0 ≤ findL t.1 s) ∧ uniqL t.1.length t.2 (placeL t names) = true := by
  have full : names.Nodup → (∀ t ∈ ts, ∀ s ∈ names, 0 ≤ findL t.1 s) → candsL ts names = names.map fun s => (s, ts.map fun t => findL t.1 s) := fun h1 h2 => by
    rw [cands_is, once_of names h1, List.filter_eq_self.2 (fun s hs => by rw [List.all_eq_true]; intro t ht; exact decide_eq_true (h2 t ht s hs))]
  unfold usableC
  rw [Bool.and_eq_true, Bool.and_eq_true, decide_eq_true_iff, decide_eq_true_iff]
  constructor
  · rintro ⟨⟨h0, h1⟩, h2⟩
    have hlen := h1
    rw [cands_is, List.length_map] at hlen
    have hf := List.length_filter_le (fun s => ts.all fun t => decide (0 ≤ findL t.1 s)) (onceL names)
    have ho := once_len names
    have he := once_eq names (by omega)
    rw [he] at hlen
    have hall := List.length_filter_eq_length_iff.1 hlen
    have hnd : names.Nodup := by rw [← he]; exact onceK_nodup names
    have hin : ∀ t ∈ ts, ∀ s ∈ names, 0 ≤ findL t.1 s := fun t ht s hs => of_decide_eq_true (List.all_eq_true.1 (hall s hs) t ht)
    rw [full hnd hin, apartC_iff] at h2
    refine ⟨by intro e; rw [e] at h0; simp at h0, hnd, fun t ht => ⟨hin t ht, ?_⟩⟩
    obtain ⟨i, hi⟩ := List.mem_iff_getElem?.1 ht
    have := h2 i t hi
    rwa [cols_full ts names i t hi] at this
  · rintro ⟨h0, h1, h2⟩
    have e := full h1 (fun t ht => (h2 t ht).1)
    rw [e]
    refine ⟨⟨by cases names with | nil => exact absurd rfl h0 | cons a l => simp, by simp⟩, (apartC_iff _ _).2 fun i t hi => ?_⟩
    rw [cols_full ts names i t hi]
    exact (h2 t (List.mem_of_getElem? hi)).2
end Go.Proofs.YtdenehnneloegaaGreatDoor
