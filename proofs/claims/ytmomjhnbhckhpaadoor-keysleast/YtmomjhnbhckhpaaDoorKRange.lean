/-
  A range over a function that may call itself: as the law of CsvRange, but a round may also leave the loop by a break, and what is said of a world stands where a block that is no cells and was laid later turns (so the iterator itself may range over a function).
  Conditions: the loop is an outermost one of its function; a round goes on, returns or breaks.
-/
import Derived.RangeFuncWrites
import Derived.Test.YtmomjhnbhckhpaaDoorCsvRange
namespace Go.Proofs.YtmomjhnbhckhpaaDoor
open Go.RowKit

section
variable {α : Type} {F : Fence} {n : Nat} {P : Program}

theorem Apart.mono {b b' : Nat} {J : World → Prop} (h : Apart b J) (hb : b ≤ b') : Apart b' J := fun A l o o' hJ hl hk hc => h A l o o' hJ (by omega) hk hc
def TellsA (F : Fence) (n : Nat) (P : Program) (gf : Nat) (lb : Array Value) (encs : α → Array Value) (Kp : World → World → Prop) (Ok : List α → α → World → Prop) (S Sp : List α → Prop) (w : World) : Prop :=
  ∀ (l : Nat) (J Jx : List α → World → Prop) (W : World), Below w.heap.size w W → Stays J → Stays Jx → (∀ pre, Apart W.heap.size (J pre)) → (∀ pre, Apart W.heap.size (Jx pre)) →
    (∀ pre x W1, J pre W1 → Ok pre x W1 → YieldAt F (n - 1) P l (encs x) W1 fun e W' => KeepsFrom W.heap.size W1 W' ∧ ((e = .returned (.bool true) ∧ J (pre ++ [x]) W' ∧ Kp W1 W') ∨ (e = .returned (.bool false) ∧ Jx (pre ++ [x]) W'))) →
    J [] W → CallsIn F n P gf (#[.func (.yield l) #[] #[]] ++ lb) W fun e W' => (∃ v, e = .returned v) ∧ ((∃ xs, S xs ∧ J xs W') ∨ (∃ pre, Sp pre ∧ Jx pre W'))

/-- how a round may end -/
def roundEndsA (B : Nat) (Kp : World → World → Prop) (I : List α → World → Prop) (Ix : Code → List α → World → Prop) (pre : List α) (x : α) (W : World) : Exit → Act → World → Prop
  | .normal, _, W3 => KeepsFrom B W W3 ∧ Kp W W3 ∧ I (pre ++ [x]) W3
  | .ret, _, W3 => KeepsFrom B W W3 ∧ Ix .ret (pre ++ [x]) W3
  | .exit id, _, W3 => KeepsFrom B W W3 ∧ Ix (.exit id) (pre ++ [x]) W3
  | _, _, _ => False

theorem wpIn_range_tellsA {g : Operand} {ps : Array Tmp} {assign body : Code} {Q : Exit → Act → World → Prop} {a : Act} {w : World}
    (hro : F.round = none) (h1 : 1 ≤ n) {gf : Nat} {lb : Array Value} (hg : a.eval g = .func (.func gf) #[] lb) (hFg : F.fn gf) (eg : ∀ args w, (callFunc gf args).run P w = .ok (.enter gf args) w)
    {encs : α → Array Value} {Kp : World → World → Prop} {Ok : List α → α → World → Prop} {S Sp : List α → Prop} {w0 : World} (hit : TellsA F (n - 1) P gf lb encs Kp Ok S Sp w0)
    (hb0 : Below w0.heap.size w0 w) (hps : ∀ x, (encs x).size = ps.size)
    (hKt : ∀ {A B C : World}, Kp A B → Kp B C → Kp A C) (hKo : ∀ (W : World) (l : Nat) (o o' : Obj), w.heap.size ≤ l → W.heap[l]? = some o → o.isCells = false → Kp W (W.putObj l o'))
    (hKb : ∀ {A B : World}, w.heap.size ≤ A.heap.size → Below A.heap.size A B → Kp A B)
    (I : List α → World → Prop) (Ix : Code → List α → World → Prop) (hI : Stays I) (hIx : ∀ c, Stays (Ix c)) (hIo : ∀ pre, Apart w.heap.size (I pre)) (hIxo : ∀ c pre, Apart w.heap.size (Ix c pre))
    (hOk : ∀ pre x A B, Ok pre x A → Below A.heap.size A B → Ok pre x B) (hOko : ∀ pre x, Apart w.heap.size (Ok pre x)) (h0 : I [] w)
    (Ax : α → Act → World → Prop) (hAxo : ∀ x a', Apart w.heap.size (Ax x a'))
    (hassign : ∀ (l : Nat) (x : α) (W : World) (K : Act → World → Prop), w.heap.size ≤ W.heap.size → (∀ a' W', Below W.heap.size W W' → Ax x a' W' → K a' W') →
      assign.wpIn (F.inRound l) (n - 1 - 1) P (Exit.then K (fun _ _ _ => False)) { tmps := (ps.zip (encs x)).foldl (fun t (p, v) => t.setIfInBounds p v) a.tmps, defers := [] } W)
    (hbody : ∀ (l : Nat) (pre : List α) (x : α) (a' : Act) (W : World), w.heap.size ≤ W.heap.size → I pre W → Ok pre x W → Ax x a' W → body.wpIn (F.inRound l) (n - 1 - 1) P (roundEndsA w.heap.size Kp I Ix pre x W) a' W)
    (hdone : ∀ (D : Nat) (xs : List α) (W : World), w.heap.size ≤ D → S xs → I xs W → W.heap[D]? = some (.deferred (some [])) → Q .normal { a with defers := { target := .collected D, args := #[] } :: a.defers } W)
    (hstop : ∀ (D : Nat) (c : Code) (pre : List α) (W : World), w.heap.size ≤ D → Sp pre → Ix c pre W → W.heap[D]? = some (.deferred (some [])) → c.wpIn F n P Q { a with defers := { target := .collected D, args := #[] } :: a.defers } W) :
    (Code.rangeFunc g ps assign body).wpIn F n P Q a w := by
  refine wpIn_rangeFunc fun fn hfn => ?_
  rw [hro]
  obtain ⟨R, hR⟩ : ∃ R : LoopState → Option Code → Loop, ∀ st pe, R st pe = { state := st, pending := pe, fn, tmps := a.tmps, params := ps, assign, body, defers := w.heap.size } := ⟨_, fun _ _ => rfl⟩
  obtain ⟨V, hV⟩ : ∃ V, V = (w.alloc (.deferred (some []))).alloc (.loop (R .ready none)) := ⟨_, rfl⟩
  have hb : Below w.heap.size w V := by rw [hV]; exact ((Below.refl _ w).alloc (Nat.le_refl _) _).alloc (by simp) _
  have hsz : V.heap.size = w.heap.size + 2 := by rw [hV]; simp
  have hK : V.heap[w.heap.size]? = some (.deferred (some [])) := by
    rw [hV, Below.heap_alloc _ _ _ (by simp)]; exact World.alloc_heap_new w _
  have hL : V.heap[w.heap.size + 1]? = some (.loop (R .ready none)) := by
    rw [hV]; have := World.alloc_heap_new (w.alloc (.deferred (some []))) (.loop (R .ready none)); rwa [World.size_alloc] at this
  refine ⟨w.heap.size + 1, [{ target := .collected w.heap.size, args := #[] }], V, { target := .fn (.func gf) lb, args := #[.func (.yield (w.heap.size + 1)) #[] #[]] }, V, gf,
    #[.func (.yield (w.heap.size + 1)) #[] #[]] ++ lb, V, ?_, ?_, fun f' hf' => ?_, ?_, fun _ => h1, ?_⟩
  · rw [hV, hR]; exact run_enterLoop_outer _ _ _ _ _
  · simp only [resolve, hg]; simp [go_sem]
  · simp [Target.leads] at hf'; subst hf'; exact hFg
  · simp [invoke, go_sem, eg]
  refine (hit (w.heap.size + 1)
    (fun pre W => I pre W ∧ W.heap[w.heap.size + 1]? = some (.loop (R .ready none)) ∧ W.heap[w.heap.size]? = some (.deferred (some [])))
    (fun pre W => ∃ c, Ix c pre W ∧ W.heap[w.heap.size + 1]? = some (.loop (R .done (some c))) ∧ W.heap[w.heap.size]? = some (.deferred (some [])))
    V (hb0.trans (hb.mono hb0.size)) (fun pre A B h k => ⟨hI pre A B h.1 k, below_kept k h.2.1, below_kept k h.2.2⟩) (fun pre A B h k => by obtain ⟨c, h1, h2, h3⟩ := h; exact ⟨c, hIx c pre A B h1 k, below_kept k h2, below_kept k h3⟩)
    (fun pre A l o o' h hl hk hc => ⟨hIo pre A l o o' h.1 (by omega) hk hc, (World.putObj_heap_other (by omega)).trans h.2.1, (World.putObj_heap_other (by omega)).trans h.2.2⟩)
    (fun pre A l o o' h hl hk hc => by obtain ⟨c, h1, h2, h3⟩ := h; exact ⟨c, hIxo c pre A l o o' h1 (by omega) hk hc, (World.putObj_heap_other (by omega)).trans h2, (World.putObj_heap_other (by omega)).trans h3⟩) ?_ ⟨hI [] w V h0 hb, hL, hK⟩).mono ?_
  · rintro pre x W ⟨hi, hl, hk⟩ hok
    have hlt := (Array.getElem?_eq_some_iff.1 hl).1
    have hy := run_yield (P := P) (args := encs x) hl (by rw [hR]; exact hps x)
    rw [hR] at hy
    refine ⟨fn, _, assign, body, hy, roundIn_of_wpIn hfn (hassign _ x W _ (by omega) fun a' W' hbel hax => ?_)⟩
    have hl' := below_kept hbel hl
    have hk' := below_kept hbel hk
    have hlt' := (Array.getElem?_eq_some_iff.1 hl').1
    refine ⟨_, run_beginRound hl' (by rw [hR]), ?_⟩
    obtain ⟨U, hU⟩ : ∃ U, U = W'.putObj (w.heap.size + 1) (.loop { R .ready none with state := .busy }) := ⟨_, rfl⟩
    rw [← hU]
    have hlU : U.heap[w.heap.size + 1]? = some (.loop { R .ready none with state := .busy }) := by rw [hU]; exact World.putObj_heap_same hlt'
    have hkU : U.heap[w.heap.size]? = some (.deferred (some [])) := by rw [hU]; exact (World.putObj_heap_other (by omega)).trans hk'
    have hKU : Kp W U := by rw [hU]; exact hKt (hKb (by omega) hbel) (hKo _ _ _ _ (by omega) hl' rfl)
    have hIU : I pre U := by rw [hU]; exact hIo pre _ _ _ _ (hI pre W W' hi hbel) (by omega) hl' rfl
    have hOU : Ok pre x U := by rw [hU]; exact hOko pre x _ _ _ _ (hOk pre x W W' hok hbel) (by omega) hl' rfl
    have hAU : Ax x a' U := by rw [hU]; exact hAxo x a' _ _ _ _ hax (by omega) hl' rfl
    refine wpIn_mono (hbody _ pre x a' U (by have := (Array.getElem?_eq_some_iff.1 hkU).1; omega) hIU hOU hAU) ?_
    have fin : ∀ (j : Option Code) (X : World), KeepsFrom w.heap.size U X →
        (Instr.endRound (w.heap.size + 1) j).run P X = .ok (.bool j.isNone) (X.putObj (w.heap.size + 1) (.loop (R (if j.isNone then .ready else .done) j))) ∧
        (∃ o, X.heap[w.heap.size + 1]? = some o ∧ o.isCells = false) ∧
        (X.putObj (w.heap.size + 1) (.loop (R (if j.isNone then .ready else .done) j))).heap[w.heap.size + 1]? = some (.loop (R (if j.isNone then .ready else .done) j)) ∧
        (X.putObj (w.heap.size + 1) (.loop (R (if j.isNone then .ready else .done) j))).heap[w.heap.size]? = some (.deferred (some [])) := fun j X hX => by
      have hlX := hX.same _ _ (by omega) hlU rfl
      have hkX := hX.same _ _ (Nat.le_refl _) hkU rfl
      have hr := run_endRound (P := P) j hlX
      rw [hR] at hr ⊢
      exact ⟨hr, ⟨_, hlX, rfl⟩, World.putObj_heap_same (Array.getElem?_eq_some_iff.1 hlX).1, (World.putObj_heap_other (by omega)).trans hkX⟩
    have kf : ∀ (X : World) (r : Obj), KeepsFrom w.heap.size U X → KeepsFrom V.heap.size W (X.putObj (w.heap.size + 1) r) := fun X r h =>
      ⟨by have h1 := hbel.size; have h2 := h.size; rw [hU] at h2; simp at h2 ⊢; omega, fun k o hk ho hc => by
        rw [World.putObj_heap_other (by omega)]
        refine h.same k o (by omega) ?_ hc
        rw [hU, World.putObj_heap_other (by omega)]
        exact (hbel.block k (Array.getElem?_eq_some_iff.1 ho).1).trans ho⟩
    rintro e a3 X hp
    cases e with
    | normal =>
      obtain ⟨h3, h4, h5⟩ := hp
      obtain ⟨q1, ⟨o, q2, q2'⟩, q3, q4⟩ := fin none X h3
      exact ⟨_, _, q1, kf _ _ h3, .inl ⟨rfl, ⟨hIo _ _ _ _ _ h5 (by omega) q2 q2', q3, q4⟩, hKt (hKt hKU h4) (hKo _ _ _ _ (by omega) q2 q2')⟩⟩
    | ret =>
      obtain ⟨h3, h5⟩ := hp
      obtain ⟨q1, ⟨o, q2, q2'⟩, q3, q4⟩ := fin (some .ret) X h3
      exact ⟨_, _, q1, kf _ _ h3, .inr ⟨rfl, .ret, hIxo _ _ _ _ _ _ h5 (by omega) q2 q2', q3, q4⟩⟩
    | exit id =>
      obtain ⟨h3, h5⟩ := hp
      obtain ⟨q1, ⟨o, q2, q2'⟩, q3, q4⟩ := fin (some (.exit id)) X h3
      exact ⟨_, _, q1, kf _ _ h3, .inr ⟨rfl, .exit id, hIxo _ _ _ _ _ _ h5 (by omega) q2 q2', q3, q4⟩⟩
    | goto t => exact hp.elim
    | panic ch => exact hp.elim
    | outgrown => exact hp.elim
  · rintro e X ⟨⟨v, rfl⟩, (⟨xs, hS, hi, hl, hk⟩ | ⟨pre, hS, c, hi, hl, hk⟩)⟩
    · exact ⟨none, _, by have := run_endLoop (P := P) hl (by rw [hR]; simp); rw [hR] at this; exact this, hdone _ xs _ (Nat.le_refl _) hS (hIo xs _ _ _ _ hi (by omega) hl rfl) ((World.putObj_heap_other (by omega)).trans hk)⟩
    · exact ⟨some c, _, by have := run_endLoop (P := P) hl (by rw [hR]; simp); rw [hR] at this; exact this, hstop _ c pre _ (Nat.le_refl _) hS (hIxo c pre _ _ _ _ hi (by omega) hl rfl) ((World.putObj_heap_other (by omega)).trans hk)⟩
end
end Go.Proofs.YtmomjhnbhckhpaaDoor
