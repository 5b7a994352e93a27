/-
  Lists of texts that are put together: what an append makes, where the list that is appended may be nil.
  Conditions: none.
-/
import Derived.OwnWalk
import Derived.Laws.AppendOwn
import Derived.Laws.AppendOwnNone
import Derived.Laws.OwnMore
import Derived.Test.YtcdpadchbphggaaProg
import Derived.Test.YtcdpadchbphggaaBWorks
namespace Go.Proofs.Ytcdpadchbphggaa
open Go.RowKit Go.Shelf
set_option linter.unusedVariables false

/-- a slice of strings as a source of an append -/
def SrcB (w : World) (ao : Option Addr) (cap : Nat) (xs : List ByteArray) : Prop := (ao = none → xs.length = 0 ∧ cap = 0) ∧ ∀ ad, ao = some ad → ∀ (j : Nat) u, (xs.map Value.string)[j]? = some u → w.cell? (ad.add j) = some u
theorem srcB_of {w : World} {ao : Option Addr} {cap : Nat} {xs : List ByteArray} (h : StrRow w ao xs) (hn : ao = none → cap = 0) : SrcB w ao cap xs := by
  refine ⟨fun e => ⟨?_, hn e⟩, fun ad e j u hu => ?_⟩
  · rcases h with h | ⟨A, h1, _⟩
    · rw [h]; rfl
    · rw [e] at h1; cases h1
  · rw [List.getElem?_map] at hu
    obtain ⟨c, hc, rfl⟩ := Option.map_eq_some_iff.1 hu
    rcases h with h | ⟨A, h1, _, h3⟩
    · subst h; simp at hc
    · rw [e] at h1; cases h1; exact h3 j c hc
theorem ownB_strs {w : World} {base : Nat} {e : TypeId} {ro : Option Addr} {n cp : Nat} {xs : List ByteArray} (h : w.ownsRow base e 1 (.slice ro n cp) n (xs.map Value.string)) : StrRow w ro xs := by
  rcases h.2 with ⟨hv, h0⟩ | ⟨g, cap, cur, hv, _, hg, _⟩
  · have := h.1; simp at this; exact .inl (List.eq_nil_of_length_eq_zero (by omega))
  · cases hv
    refine .inr ⟨_, rfl, (h.lt g rfl).2, fun i c hc => h.cells rfl i _ (by rw [List.getElem?_map, hc]; rfl)⟩
theorem appB_below {W V V' : World} {base : Nat} {e : TypeId} {s : Nat} {v : Value} {n : Nat} {xs : List Value} (hB : Below base W V) (ho : V.ownsRow base e s v n xs) (hg : V.grownBy V' v.ownBlock) (hb : base ≤ V.heap.size) : Below base W V' := hB.grown hg hb (fun j hj => (ho.lt j hj).1)
theorem onesB (xs : List ByteArray) : ∀ u ∈ xs.map Value.string, u.oneCell' = true := fun u hu => by
  obtain ⟨c, _, rfl⟩ := List.mem_map.1 hu; rfl
theorem bytesB_app (xs ys : List ByteArray) : bytesOf (xs ++ ys) = bytesOf xs ++ bytesOf ys := by simp [bytesOf]
theorem maxB_app {xs ys : List ByteArray} (h : ∀ c ∈ xs, c.size ≤ maxLen) (k : ∀ c ∈ ys, c.size ≤ maxLen) : ∀ c ∈ xs ++ ys, c.size ≤ maxLen := fun c hc => by
  rcases List.mem_append.1 hc with h1 | h1
  · exact h c h1
  · exact k c h1
theorem maxB_one {s : ByteArray} (h : s.size ≤ maxLen) : ∀ c ∈ [s], c.size ≤ maxLen := fun c hc => by simp at hc; subst hc; exact h
/-- a literal of texts -/
theorem own_litB (w : World) (xs : List ByteArray) (n base : Nat) (T : TypeId) (hb : base ≤ w.heap.size) (hn : xs.length = n) (hm : n ≤ maxLen) : (w.alloc (.cells (xs.map Value.string).toArray T)).ownsRow base T 1 (.slice (some ⟨w.heap.size, 0, none⟩) n n) n (xs.map Value.string) := by
  refine ⟨by simp [hn], .inr ⟨w.heap.size, n, _, rfl, hb, heap_alloc_new w _, Nat.le_refl _, hm, by simp [hn], by subst hn; simp [List.take_of_length_le]⟩⟩
/-- a guarded operation that is done is done as any other -/
theorem wpList_open {P : Program} {w : World} {ops : Array Oper} {rest : List Oper} {o : Oper} {a : Act} {Q : Exit → Act → World → Prop} (hw : Region.wanted o (yielded ops a.tmps) = true) (h : wpList P ops Q ({o with guard := none} :: rest) a w) : wpList P ops Q (o :: rest) a w := by
  unfold wpList at h ⊢
  rw [if_pos (by simp [Region.wanted])] at h
  rw [if_pos hw]
  cases o; exact h
/-- an append of a slice that may be nil -/
theorem wpList_append_B {P : Program} {w : World} {ops : Array Oper} {rest : List Oper} {o : Oper} {a : Act} {Q : Exit → Act → World → Prop} (hgd : o.guard = none) (s x : Operand) (t : TypeId)
    (ho : o.op = .call { callee := .builtin .append, args := #[s, x], argTypes := #[t, t] })
    (base : Nat) (e : TypeId) (i : TypeInfo) (z : Value) (size bytes : Nat) (ht : P.underlying t = some (.slice e)) (hi : P.info? e = some i) (hz : i.zero = some z)
    (hsize : i.size = size) (hby : i.bytes = bytes) (hzs : z.cells.size = size) (hsz : 0 < size)
    (v : Value) (n : Nat) (xs : List Value) (hs : a.eval s = v) (hown : w.ownsRow base e size v n xs)
    (xo : Option Addr) (m c : Nat) (news : List Value) (hx : a.eval x = .slice xo m c) (hnone : xo = none → m = 0 ∧ c = 0) (hl : news.length = m * size) (hnews : ∀ ad, xo = some ad → ∀ (j : Nat) u, news[j]? = some u → w.cell? (ad.add j) = some u) (h1 : ∀ u ∈ news, u.oneCell' = true)
    (h63 : n + m ≤ maxLen) (hbytes : (n + m) * bytes ≤ 140737488355328) (hbase : base ≤ w.heap.size)
    (h : ∀ v' w', w'.ownsRow base e size v' (n + m) (xs ++ news) → w.grownBy w' v.ownBlock → wpList P ops Q rest (a.put o.dst v') w') : wpList P ops Q (o :: rest) a w := by
  cases xo with
  | none =>
    obtain ⟨rfl, rfl⟩ := hnone rfl
    have hnil : news = [] := List.eq_nil_of_length_eq_zero (by rw [hl]; simp)
    subst hnil
    refine wpList_append_own_none hgd s x t ho base e i size ht hi v n xs hs hown hx (h v w (by simpa using hown) ⟨rfl, rfl, rfl, Nat.le_refl _, fun _ _ _ => rfl⟩)
  | some ad => exact wpList_append_own w hgd s x t ho base e i z size bytes ht hi hz hsize hby hzs hsz v n xs hs hown ad m c news hx hl (hnews ad rfl) h1 h63 hbytes hbase (fun v' w' h2 h3 _ => h v' w' h2 h3)
end Go.Proofs.Ytcdpadchbphggaa
