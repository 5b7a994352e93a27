/-
  A range over a function whose rounds read what the iterator laid, and whose iterator reads what the rounds wrote: the iterator may rely on a fact that the rounds keep (Rm), a round on a fact of what it is handed (Ok); both sides' invariants stand whatever is laid behind the memory there is (Below).
  Conditions: the loop is an outermost one; a round goes on or returns.
-/
import Derived.RangeFuncNested
import Derived.RangeFuncBound
import Derived.RangeFuncCalls
import Derived.RangeFuncLeaves
import Derived.RangeFuncFrom
import Derived.RangeFuncBox
import Derived.Test.YtmomjhnbhckhpaaDoorProg
namespace Go.Proofs.YtmomjhnbhckhpaaDoor
open Go.RowKit

section
variable {α : Type} {F : Fence} {n : Nat} {P : Program}

/-- what is said of a world stands where memory was only added -/
def Stays (J : List α → World → Prop) : Prop := ∀ pre A B, J pre A → Below A.heap.size A B → J pre B
/-- .. and where a block that is no cells turned, at or behind b -/
def Apart (b : Nat) (J : World → Prop) : Prop := ∀ A l o o', J A → b ≤ l → A.heap[l]? = some o → o.isCells = false → J (A.putObj l o')

def Tells (F : Fence) (n : Nat) (P : Program) (gf : Nat) (lb : Array Value) (encs : α → Array Value) (Kp : World → World → Prop) (Ok : List α → α → World → Prop) (Rm : List α → World → Prop) (S Sp : List α → Prop) (w : World) : Prop :=
  ∀ (l : Nat) (J Jx : List α → World → Prop) (W : World), Below w.heap.size w W → Stays J → Stays Jx → (∀ pre A, J pre A → Rm pre A) →
    (∀ pre x W1, J pre W1 → Ok pre x W1 → YieldAt F (n - 1) P l (encs x) W1 fun e W' => (e = .returned (.bool true) ∧ J (pre ++ [x]) W' ∧ Kp W1 W') ∨ (e = .returned (.bool false) ∧ Jx (pre ++ [x]) W')) →
    J [] W → CallsIn F n P gf (#[.func (.yield l) #[] #[]] ++ lb) W fun e W' => (∃ v, e = .returned v) ∧ ((∃ xs, S xs ∧ J xs W') ∨ (∃ pre, Sp pre ∧ Jx pre W'))

/-- how a round may end -/
def roundEnds (Kp : World → World → Prop) (I Ix : List α → World → Prop) (pre : List α) (x : α) (W : World) : Exit → Act → World → Prop
  | .normal, _, W3 => KeepsOthers W W3 ∧ Kp W W3 ∧ I (pre ++ [x]) W3
  | .ret, _, W3 => KeepsOthers W W3 ∧ Ix (pre ++ [x]) W3
  | _, _, _ => False

theorem below_kept {A B : World} (h : Below A.heap.size A B) {k : Nat} {o : Obj} (hk : A.heap[k]? = some o) : B.heap[k]? = some o :=
  (h.block k (Array.getElem?_eq_some_iff.1 hk).1).trans hk

theorem wpIn_range_tells {g : Operand} {ps : Array Tmp} {assign body : Code} {Q : Exit → Act → World → Prop} {a : Act} {w : World}
    (hro : F.round = none) (h1 : 1 ≤ n) {gf : Nat} {lb : Array Value} (hg : a.eval g = .func (.func gf) #[] lb) (hFg : F.fn gf) (eg : ∀ args w, (callFunc gf args).run P w = .ok (.enter gf args) w)
    {encs : α → Array Value} {Kp : World → World → Prop} {Ok : List α → α → World → Prop} {Rm : List α → World → Prop} {S Sp : List α → Prop} {w0 : World} (hit : Tells F (n - 1) P gf lb encs Kp Ok Rm S Sp w0)
    (hb0 : Below w0.heap.size w0 w) (hps : ∀ x, (encs x).size = ps.size)
    (hKt : ∀ {A B C : World}, Kp A B → Kp B C → Kp A C) (hKo : ∀ (W : World) (l : Nat) (o o' : Obj), w.heap.size ≤ l → W.heap[l]? = some o → o.isCells = false → Kp W (W.putObj l o'))
    (hKb : ∀ {A B : World}, w.heap.size ≤ A.heap.size → Below A.heap.size A B → Kp A B)
    (I Ix : List α → World → Prop) (hI : Stays I) (hIx : Stays Ix) (hIo : ∀ pre, Apart w.heap.size (I pre)) (hIxo : ∀ pre, Apart w.heap.size (Ix pre)) (hRm : ∀ pre A, I pre A → Rm pre A)
    (hOk : ∀ pre x A B, Ok pre x A → Below A.heap.size A B → Ok pre x B) (hOko : ∀ pre x, Apart w.heap.size (Ok pre x)) (h0 : I [] w)
    (Ax : α → Act → World → Prop) (hAxo : ∀ x a', Apart w.heap.size (Ax x a'))
    (hassign : ∀ (l : Nat) (x : α) (W : World) (K : Act → World → Prop), w.heap.size ≤ W.heap.size → (∀ a' W', Below W.heap.size W W' → Ax x a' W' → K a' W') →
      assign.wpIn (F.inRound l) (n - 1 - 1) P (Exit.then K (fun _ _ _ => False)) { tmps := (ps.zip (encs x)).foldl (fun t (p, v) => t.setIfInBounds p v) a.tmps, defers := [] } W)
    (hbody : ∀ (l : Nat) (pre : List α) (x : α) (a' : Act) (W : World), w.heap.size ≤ W.heap.size → I pre W → Ok pre x W → Ax x a' W → body.wpIn (F.inRound l) (n - 1 - 1) P (roundEnds Kp I Ix pre x W) a' W)
    (hdone : ∀ (D : Nat) (xs : List α) (W : World), w.heap.size ≤ D → S xs → I xs W → W.heap[D]? = some (.deferred (some [])) → Q .normal { a with defers := { target := .collected D, args := #[] } :: a.defers } W)
    (hstop : ∀ (D : Nat) (pre : List α) (W : World), w.heap.size ≤ D → Sp pre → Ix pre W → W.heap[D]? = some (.deferred (some [])) → Code.ret.wpIn F n P Q { a with defers := { target := .collected D, args := #[] } :: a.defers } W) :
    (Code.rangeFunc g ps assign body).wpIn F n P Q a w := by
  refine wpIn_rangeFunc fun fn hfn => ?_
  rw [hro]
  obtain ⟨R, hR⟩ : ∃ R : LoopState → Option Code → Loop, ∀ st pe, R st pe = { state := st, pending := pe, fn, tmps := a.tmps, params := ps, assign, body, defers := w.heap.size } := ⟨_, fun _ _ => rfl⟩
  obtain ⟨V, hV⟩ : ∃ V, V = (w.alloc (.deferred (some []))).alloc (.loop (R .ready none)) := ⟨_, rfl⟩
  have hb : Below w.heap.size w V := by rw [hV]; exact ((Below.refl _ w).alloc (Nat.le_refl _) _).alloc (by simp) _
  have hsz : V.heap.size = w.heap.size + 2 := by rw [hV]; simp
  have hK : V.heap[w.heap.size]? = some (.deferred (some [])) := by
    rw [hV, Below.heap_alloc _ _ _ (by simp)]; exact World.alloc_heap_new w _
  have hL : V.heap[w.heap.size + 1]? = some (.loop (R .ready none)) := by
    rw [hV]; have := World.alloc_heap_new (w.alloc (.deferred (some []))) (.loop (R .ready none)); rwa [World.size_alloc] at this
  refine ⟨w.heap.size + 1, [{ target := .collected w.heap.size, args := #[] }], V, { target := .fn (.func gf) lb, args := #[.func (.yield (w.heap.size + 1)) #[] #[]] }, V, gf,
    #[.func (.yield (w.heap.size + 1)) #[] #[]] ++ lb, V, ?_, ?_, fun f' hf' => ?_, ?_, fun _ => h1, ?_⟩
  · rw [hV, hR]; exact run_enterLoop_outer _ _ _ _ _
  · simp only [resolve, hg]; simp [go_sem]
  · simp [Target.leads] at hf'; subst hf'; exact hFg
  · simp [invoke, go_sem, eg]
  refine (hit (w.heap.size + 1)
    (fun pre W => I pre W ∧ W.heap[w.heap.size + 1]? = some (.loop (R .ready none)) ∧ W.heap[w.heap.size]? = some (.deferred (some [])))
    (fun pre W => Ix pre W ∧ W.heap[w.heap.size + 1]? = some (.loop (R .done (some .ret))) ∧ W.heap[w.heap.size]? = some (.deferred (some [])))
    V (hb0.trans (hb.mono hb0.size)) (fun pre A B h k => ⟨hI pre A B h.1 k, below_kept k h.2.1, below_kept k h.2.2⟩) (fun pre A B h k => ⟨hIx pre A B h.1 k, below_kept k h.2.1, below_kept k h.2.2⟩)
    (fun pre A h => hRm pre A h.1) ?_ ⟨hI [] w V h0 hb, hL, hK⟩).mono ?_
  · rintro pre x W ⟨hi, hl, hk⟩ hok
    have hlt := (Array.getElem?_eq_some_iff.1 hl).1
    have hy := run_yield (P := P) (args := encs x) hl (by rw [hR]; exact hps x)
    rw [hR] at hy
    refine ⟨fn, _, assign, body, hy, roundIn_of_wpIn hfn (hassign _ x W _ (by omega) fun a' W' hbel hax => ?_)⟩
    have hl' := below_kept hbel hl
    have hk' := below_kept hbel hk
    have hlt' := (Array.getElem?_eq_some_iff.1 hl').1
    refine ⟨_, run_beginRound hl' (by rw [hR]), ?_⟩
    obtain ⟨U, hU⟩ : ∃ U, U = W'.putObj (w.heap.size + 1) (.loop { R .ready none with state := .busy }) := ⟨_, rfl⟩
    rw [← hU]
    have hlU : U.heap[w.heap.size + 1]? = some (.loop { R .ready none with state := .busy }) := by rw [hU]; exact World.putObj_heap_same hlt'
    have hkU : U.heap[w.heap.size]? = some (.deferred (some [])) := by rw [hU]; exact (World.putObj_heap_other (by omega)).trans hk'
    have hKU : Kp W U := by rw [hU]; exact hKt (hKb (by omega) hbel) (hKo _ _ _ _ (by omega) hl' rfl)
    have hIU : I pre U := by rw [hU]; exact hIo pre _ _ _ _ (hI pre W W' hi hbel) (by omega) hl' rfl
    have hOU : Ok pre x U := by rw [hU]; exact hOko pre x _ _ _ _ (hOk pre x W W' hok hbel) (by omega) hl' rfl
    have hAU : Ax x a' U := by rw [hU]; exact hAxo x a' _ _ _ _ hax (by omega) hl' rfl
    refine wpIn_mono (hbody _ pre x a' U (by have := (Array.getElem?_eq_some_iff.1 hkU).1; omega) hIU hOU hAU) ?_
    have fin : ∀ (j : Option Code) (X : World), KeepsOthers U X →
        (Instr.endRound (w.heap.size + 1) j).run P X = .ok (.bool j.isNone) (X.putObj (w.heap.size + 1) (.loop (R (if j.isNone then .ready else .done) j))) ∧
        (∃ o, X.heap[w.heap.size + 1]? = some o ∧ o.isCells = false) ∧
        (X.putObj (w.heap.size + 1) (.loop (R (if j.isNone then .ready else .done) j))).heap[w.heap.size + 1]? = some (.loop (R (if j.isNone then .ready else .done) j)) ∧
        (X.putObj (w.heap.size + 1) (.loop (R (if j.isNone then .ready else .done) j))).heap[w.heap.size]? = some (.deferred (some [])) := fun j X hX => by
      have hlX := hX.same _ _ hlU rfl
      have hkX := hX.same _ _ hkU rfl
      have hr := run_endRound (P := P) j hlX
      rw [hR] at hr ⊢
      exact ⟨hr, ⟨_, hlX, rfl⟩, World.putObj_heap_same (Array.getElem?_eq_some_iff.1 hlX).1, (World.putObj_heap_other (by omega)).trans hkX⟩
    rintro e a3 X hp
    cases e with
    | normal =>
      obtain ⟨h3, h4, h5⟩ := hp
      obtain ⟨q1, ⟨o, q2, q2'⟩, q3, q4⟩ := fin none X h3
      exact ⟨_, _, q1, .inl ⟨rfl, ⟨hIo _ _ _ _ _ h5 (by omega) q2 q2', q3, q4⟩, hKt (hKt hKU h4) (hKo _ _ _ _ (by omega) q2 q2')⟩⟩
    | ret =>
      obtain ⟨h3, h5⟩ := hp
      obtain ⟨q1, ⟨o, q2, q2'⟩, q3, q4⟩ := fin (some .ret) X h3
      exact ⟨_, _, q1, .inr ⟨rfl, hIxo _ _ _ _ _ h5 (by omega) q2 q2', q3, q4⟩⟩
    | exit id => exact hp.elim
    | goto t => exact hp.elim
    | panic ch => exact hp.elim
    | outgrown => exact hp.elim
  · rintro e X ⟨⟨v, rfl⟩, (⟨xs, hS, hi, hl, hk⟩ | ⟨pre, hS, hi, hl, hk⟩)⟩
    · exact ⟨none, _, by have := run_endLoop (P := P) hl (by rw [hR]; simp); rw [hR] at this; exact this, hdone _ xs _ (Nat.le_refl _) hS (hIo xs _ _ _ _ hi (by omega) hl rfl) ((World.putObj_heap_other (by omega)).trans hk)⟩
    · exact ⟨some .ret, _, by have := run_endLoop (P := P) hl (by rw [hR]; simp); rw [hR] at this; exact this, hstop _ pre _ (Nat.le_refl _) hS (hIxo pre _ _ _ _ hi (by omega) hl rfl) ((World.putObj_heap_other (by omega)).trans hk)⟩
end
end Go.Proofs.YtmomjhnbhckhpaaDoor
