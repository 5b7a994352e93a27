/-
  Records appended to records: the slice that holds the headers of both.
  Conditions: none.
-/
import Derived.WalkKit
import Derived.Lib.Hide
import Derived.Deep.Slices
import Derived.Laws.AppendOwn
import Derived.Laws.AppendOwnNone
import Derived.Test.YtacclgfpmkhodaaProg
import Derived.Test.YtacclgfpmkhodaaCsvLaw
namespace Go.Proofs.Ytacclgfpmkhodaa
open Go.RowKit Go.Shelf

/-- the values that stand in the cells of a slice of records -/
def Heads (w : World) (ao : Option Addr) (rs : List (List ByteArray)) (hs : List Value) : Prop :=
  hs.length = rs.length ∧ (∀ A, ao = some A → ∀ (j : Nat) u, hs[j]? = some u → w.cell? (A.add j) = some u) ∧ ∀ (j : Nat) r, rs[j]? = some r → ∃ ro c, hs[j]? = some (.slice ro r.length c) ∧ StrRow w ro r
theorem heads_of (w : World) (ao : Option Addr) (rs : List (List ByteArray)) (h : RowsAt w ao rs) : ∃ hs, Heads w ao rs hs := by
  rcases h with rfl | ⟨A, rfl, hA, hcell⟩
  · exact ⟨[], rfl, (fun A _ j u hu => by simp at hu), fun j r hr => by simp at hr⟩
  · obtain ⟨y, hy⟩ := Go.Deep.choose_lt (n := rs.length) (p := fun i (y : Option Addr × Nat) => ∀ r, rs[i]? = some r → w.cell? (A.add i) = some (.slice y.1 r.length y.2) ∧ StrRow w y.1 r) (fun i hi => by
      obtain ⟨ro, c, h1, h2⟩ := hcell i rs[i] (List.getElem?_eq_getElem hi)
      refine ⟨(ro, c), fun r hr => ?_⟩
      rw [List.getElem?_eq_getElem hi] at hr; cases hr
      exact ⟨h1, h2⟩)
    have key : ∀ i, i < rs.length → ((List.range rs.length).map fun i => Value.slice (y i).1 (rs.getD i []).length (y i).2)[i]? = some (.slice (y i).1 (rs.getD i []).length (y i).2) := fun i hi => by
      rw [List.getElem?_map, List.getElem?_range hi]; rfl
    refine ⟨(List.range rs.length).map fun i => .slice (y i).1 (rs.getD i []).length (y i).2, by simp, fun A' hA' j u hu => ?_, fun j r hr => ?_⟩
    · cases hA'
      have hj : j < rs.length := by have := (List.getElem?_eq_some_iff.1 hu).1; simpa using this
      rw [key j hj] at hu; cases hu
      have h1 := (hy j hj rs[j] (List.getElem?_eq_getElem hj)).1
      rw [h1, List.getD_eq_getElem?_getD, List.getElem?_eq_getElem hj]; rfl
    · obtain ⟨hj, _⟩ := List.getElem?_eq_some_iff.1 hr
      refine ⟨(y j).1, (y j).2, ?_, (hy j hj r hr).2⟩
      rw [key j hj, List.getD_eq_getElem?_getD, hr]; rfl
theorem Heads.one {w : World} {ao : Option Addr} {rs : List (List ByteArray)} {hs : List Value} (h : Heads w ao rs hs) : ∀ u ∈ hs, u.oneCell' = true := fun u hu => by
  obtain ⟨i, hi, rfl⟩ := List.getElem_of_mem hu
  have hi2 : i < rs.length := by rw [← h.1]; exact hi
  obtain ⟨ro, c, h1, _⟩ := h.2.2 i rs[i] (List.getElem?_eq_getElem hi2)
  rw [List.getElem?_eq_getElem hi] at h1
  rw [Option.some.inj h1]; rfl
theorem Heads.kept {w w' : World} {ao : Option Addr} {rs : List (List ByteArray)} {hs : List Value} (h : Heads w ao rs hs) (hR : RowsAt w ao rs) (hB : Below w.heap.size w w') : Heads w' ao rs hs := by
  refine ⟨h.1, fun A hA j u hu => ?_, fun j r hr => ?_⟩
  · rcases hR with rfl | ⟨A', hA', hlt, _⟩
    · have h0 : hs = [] := List.eq_nil_of_length_eq_zero h.1
      rw [h0] at hu; simp at hu
    · subst hA; cases hA'
      exact (hB.cell (p := A.add j) (by rw [add_block]; exact hlt)).trans (h.2.1 A rfl j u hu)
  · obtain ⟨ro, c, h1, h2⟩ := h.2.2 j r hr
    exact ⟨ro, c, h1, h2.kept hB⟩
theorem heads_join {w : World} {ao bo : Option Addr} {rs ss : List (List ByteArray)} {hs ks : List Value} (h : Heads w ao rs hs) (k : Heads w bo ss ks) {base : Nat} {T : TypeId} {v : Value} {n : Nat} (ho : w.ownsRow base T 1 v n (hs ++ ks)) :
    ∃ co cap, v = .slice co (rs ++ ss).length cap ∧ RowsAt w co (rs ++ ss) := by
  have hlen : n = (rs ++ ss).length := by have := ho.1; simp [h.1, k.1] at this ⊢; omega
  obtain ⟨co, cap, rfl⟩ := own_slice ho
  refine ⟨co, cap, by rw [hlen], ?_⟩
  rcases ho.2 with ⟨hv, h0⟩ | ⟨g, cap', cur, hv, _⟩
  · exact .inl (List.eq_nil_of_length_eq_zero (by omega))
  · cases hv
    refine .inr ⟨_, rfl, (ho.lt g rfl).2, fun i r hr => ?_⟩
    by_cases hi : i < rs.length
    · rw [List.getElem?_append_left hi] at hr
      obtain ⟨ro, c, h1, h2⟩ := h.2.2 i r hr
      exact ⟨ro, c, ho.cells rfl i _ (by rw [List.getElem?_append_left (by rw [h.1]; exact hi)]; exact h1), h2⟩
    · rw [List.getElem?_append_right (by omega)] at hr
      obtain ⟨ro, c, h1, h2⟩ := k.2.2 (i - rs.length) r hr
      exact ⟨ro, c, ho.cells rfl i _ (by rw [List.getElem?_append_right (by rw [h.1]; omega), h.1]; exact h1), h2⟩

/-- an append of a slice that may be nil -/
theorem wpList_append_any {P : Program} {w : World} {ops : Array Oper} {rest : List Oper} {o : Oper} {a : Act} {Q : Exit → Act → World → Prop} (hgd : o.guard = none) (s x : Operand) (t : TypeId)
    (ho : o.op = .call { callee := .builtin .append, args := #[s, x], argTypes := #[t, t] })
    (base : Nat) (e : TypeId) (i : TypeInfo) (z : Value) (size bytes : Nat) (ht : P.underlying t = some (.slice e)) (hi : P.info? e = some i) (hz : i.zero = some z)
    (hsize : i.size = size) (hby : i.bytes = bytes) (hzs : z.cells.size = size) (hsz : 0 < size)
    (v : Value) (n : Nat) (xs : List Value) (hs : a.eval s = v) (hown : w.ownsRow base e size v n xs)
    (xo : Option Addr) (m c : Nat) (news : List Value) (hx : a.eval x = .slice xo m c) (hnone : xo = none → m = 0 ∧ c = 0) (hl : news.length = m * size) (hnews : ∀ ad, xo = some ad → ∀ (j : Nat) u, news[j]? = some u → w.cell? (ad.add j) = some u) (h1 : ∀ u ∈ news, u.oneCell' = true)
    (h63 : n + m ≤ maxLen) (hbytes : (n + m) * bytes ≤ 140737488355328) (hbase : base ≤ w.heap.size)
    (h : ∀ v' w', w'.ownsRow base e size v' (n + m) (xs ++ news) → w.grownBy w' v.ownBlock → wpList P ops Q rest (a.put o.dst v') w') : wpList P ops Q (o :: rest) a w := by
  cases xo with
  | none =>
    obtain ⟨rfl, rfl⟩ := hnone rfl
    have hnil : news = [] := List.eq_nil_of_length_eq_zero (by rw [hl]; simp)
    subst hnil
    refine wpList_append_own_none hgd s x t ho base e i size ht hi v n xs hs hown hx (h v w (by simpa using hown) ⟨rfl, rfl, rfl, Nat.le_refl _, fun _ _ _ => rfl⟩)
  | some ad => exact wpList_append_own w hgd s x t ho base e i z size bytes ht hi hz hsize hby hzs hsz v n xs hs hown ad m c news hx hl (hnews ad rfl) h1 h63 hbytes hbase (fun v' w' h2 h3 _ => h v' w' h2 h3)
end Go.Proofs.Ytacclgfpmkhodaa
