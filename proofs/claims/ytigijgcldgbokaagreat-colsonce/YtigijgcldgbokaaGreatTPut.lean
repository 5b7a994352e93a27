/-
  A table that is put together: copies of a head and of rows.
  Conditions: slices of at most 2^40 elements, texts of at most 2^48 bytes (the statements ask about far smaller ones).
-/
import Derived.Deep.RegionWith
import Derived.Deep.CutRange
import Derived.Deep.OwnRows
import Derived.Deep.Onto
import Derived.Test.YtigijgcldgbokaaGreatProg
import Derived.Test.YtigijgcldgbokaaGreatTCopy
namespace Go.Proofs.YtigijgcldgbokaaGreat
open Go.RowKit Go.Shelf

theorem own_block {w : World} {base : Nat} {e : TypeId} {size g n cap : Nat} {xs : List Value} (h : w.ownsRow base e size (.slice (some ⟨g, 0, none⟩) n cap) n xs) : ∃ cur, w.heap[g]? = some (.cells cur e (0, 0)) := by
  rcases h.2 with ⟨h', _⟩ | ⟨g', cap', cur, h', _, hg, _⟩
  · simp at h'
  · simp only [Value.slice.injEq, Option.some.injEq, Addr.mk.injEq, and_true, true_and] at h'
    obtain ⟨rfl, rfl⟩ := h'
    exact ⟨cur, hg⟩
theorem own_strs {w : World} {base : Nat} {e : TypeId} {g cap : Nat} {xs : List ByteArray} (h : w.ownsRow base e 1 (.slice (some ⟨g, 0, none⟩) xs.length cap) xs.length (xs.map Value.string)) : StrRow w (some ⟨g, 0, none⟩) xs :=
  .inr ⟨_, rfl, (h.lt g rfl).2, fun i c hc => h.cells rfl i _ (by rw [List.getElem?_map, hc]; rfl)⟩

theorem al_old {w : World} {k : Nat} {o : Obj} (p : Obj) (h : w.heap[k]? = some o) : (w.alloc p).heap[k]? = some o := (Below.heap_alloc _ _ _ (lt_of_heap h)).trans h
theorem set_old {w : World} {k b j : Nat} {o : Obj} (u : Value) (h : w.heap[k]? = some o) (hne : k ≠ b) : (w.setCell ⟨b, j, none⟩ u).heap[k]? = some o := (Below.heap_setCell _ _ _ _ hne).trans h
theorem set_two {w : World} {B : Nat} {a b : Value} {T : TypeId} (x y : Value) (h : w.heap[B]? = some (.cells #[a, b] T (0, 0))) : ((w.setCell ⟨B, 0, none⟩ x).setCell ⟨B, 1, none⟩ y).heap[B]? = some (.cells #[x, y] T (0, 0)) := by
  have h1 := heap_setCell_same w B 0 #[a, b] T x h
  have h2 := heap_setCell_same _ B 1 _ T y h1
  simpa using h2
theorem own_ne {w : World} {base : Nat} {e T : TypeId} {size g n cap b : Nat} {xs : List Value} {cur : Array Value} {fr : Nat × Nat} (h : w.ownsRow base e size (.slice (some ⟨g, 0, none⟩) n cap) n xs) (hb : w.heap[b]? = some (.cells cur T fr)) (hT : T ≠ e) : b ≠ g := by
  rintro rfl
  obtain ⟨cur', h'⟩ := own_block h
  rw [hb] at h'
  simp at h'
  exact hT h'.2.1
theorem own_set {w : World} {base : Nat} {e : TypeId} {size g n cap : Nat} {xs : List Value} (h : w.ownsRow base e size (.slice (some ⟨g, 0, none⟩) n cap) n xs) (b j : Nat) (u : Value) (hne : b ≠ g) : (w.setCell ⟨b, j, none⟩ u).ownsRow base e size (.slice (some ⟨g, 0, none⟩) n cap) n xs :=
  h.kept (row := some b) ⟨rfl, rfl, rfl, by simp, fun k _ hk => heap_setCell_other w ⟨b, j, none⟩ k u (fun e => hk (by simp [e]))⟩ (.inr (fun e => hne (by simpa [Value.ownBlock] using e.symm)))

/-- a zero table; a row of nil rows; a table -/
abbrev ZT : Obj := .cells #[.slice none 0 0, .slice none 0 0] 25
abbrev RT (n : Nat) : Obj := .cells (madeCells #[.slice none 0 0] n) 22
abbrev XT (g m h n : Nat) : Obj := .cells #[.slice (some ⟨g, 0, none⟩) m m, .slice (some ⟨h, 0, none⟩) n n] 25

/-- behind the literal of the table -/
structure Mid (w : World) (hd : List ByteArray) (n B g h : Nat) (wc : World) : Prop where
  z : wc.heap[w.heap.size]? = some ZT
  b : wc.heap[B]? = some (XT g hd.length h n)
  lt : w.heap.size < B
  hrow : wc.ownsRow w.heap.size 9 1 (.slice (some ⟨g, 0, none⟩) hd.length hd.length) hd.length (hd.map Value.string)
  below : Below w.heap.size w wc

/-- the values of rows that are there already, and nil ones -/
def Filled (wr : World) (base : Nat) (rs : List (List ByteArray)) (h k : Nat) : Prop :=
  ∃ vs : List Value, vs.length = k ∧ wr.ownsRow base 22 1 (.slice (some ⟨h, 0, none⟩) rs.length rs.length) rs.length (vs ++ List.replicate (rs.length - k) (.slice none 0 0)) ∧
    ∀ (j : Nat) r, j < k → rs[j]? = some r → ∃ go, vs[j]? = some (.slice (some ⟨go, 0, none⟩) r.length r.length) ∧ wr.ownsRow base 9 1 (.slice (some ⟨go, 0, none⟩) r.length r.length) r.length (r.map Value.string)
theorem Filled.rows {wr : World} {base : Nat} {rs : List (List ByteArray)} {h : Nat} (F : Filled wr base rs h rs.length) : RowsAt wr (some ⟨h, 0, none⟩) rs ∧ ∃ vs, wr.ownsRow base 22 1 (.slice (some ⟨h, 0, none⟩) rs.length rs.length) rs.length vs := by
  obtain ⟨vs, hl, ho, hv⟩ := F
  refine ⟨.inr ⟨_, rfl, (ho.lt h rfl).2, fun i r hr => ?_⟩, _, ho⟩
  have hi := (List.getElem?_eq_some_iff.1 hr).1
  obtain ⟨go, h1, h2⟩ := hv i r hi hr
  exact ⟨_, ⟨r.length, Nat.le_refl _, fun e => by cases e⟩, ho.cells rfl i _ (by rw [List.getElem?_append_left (by omega)]; exact h1), own_strs h2⟩
theorem Filled.other {wr : World} {base : Nat} {rs : List (List ByteArray)} {h k b : Nat} {cur : Array Value} {fr : Nat × Nat} (F : Filled wr base rs h k) (hb : wr.heap[b]? = some (.cells cur 25 fr)) (j : Nat) (u : Value) : Filled (wr.setCell ⟨b, j, none⟩ u) base rs h k := by
  obtain ⟨vs, hl, ho, hv⟩ := F
  refine ⟨vs, hl, own_set ho b j u (own_ne ho hb (by decide)), fun i r hi hr => ?_⟩
  obtain ⟨go, h1, h2⟩ := hv i r hi hr
  exact ⟨go, h1, own_set h2 b j u (own_ne h2 hb (by decide))⟩
theorem Filled.zero {W : World} {base h : Nat} {rs : List (List ByteArray)} (hb : base ≤ h) (hn : rs.length ≤ 1099511627776) (hh : W.heap[h]? = some (RT rs.length)) : Filled W base rs h 0 := by
  have hs : (madeCells #[Value.slice none 0 0] rs.length).size = rs.length * 1 := by rw [size_madeCells]; omega
  have ho : W.ownsRow base 22 1 (.slice (some ⟨h, 0, none⟩) rs.length rs.length) rs.length (madeCells #[Value.slice none 0 0] rs.length).toList :=
    ⟨by simpa using hs, .inr ⟨h, rs.length, _, rfl, hb, hh, Nat.le_refl _, (by unfold maxLen; omega), hs, List.take_of_length_le (by rw [Array.length_toList, hs]; exact Nat.le_refl _)⟩⟩
  rw [toList_madeCells_one] at ho
  exact ⟨[], rfl, (by simpa using ho), fun j r hj => absurd hj (Nat.not_lt_zero _)⟩
theorem Filled.next {wr w2 : World} {base : Nat} {rs : List (List ByteArray)} {h k : Nat} {r : List ByteArray} (F : Filled wr base rs h k) (hr : rs[k]? = some r) (hbase : base ≤ wr.heap.size) (b2 : Below wr.heap.size wr w2)
    (ho2 : w2.ownsRow wr.heap.size 9 1 (.slice (some ⟨wr.heap.size, 0, none⟩) r.length r.length) r.length (r.map Value.string)) : Filled (w2.setCell ⟨h, k, none⟩ (.slice (some ⟨wr.heap.size, 0, none⟩) r.length r.length)) base rs h (k + 1) := by
  obtain ⟨vs, hl, ho, hv⟩ := F
  have hk := (List.getElem?_eq_some_iff.1 hr).1
  have ho' := ownsRow_below ho b2
  obtain ⟨cur, hcur⟩ := own_block ho'
  have hst := (ho'.stored k (.slice (some ⟨wr.heap.size, 0, none⟩) r.length r.length)).1
  refine ⟨vs ++ [.slice (some ⟨wr.heap.size, 0, none⟩) r.length r.length], by simp [hl], ?_, fun j x hj hx => ?_⟩
  · have e : (vs ++ List.replicate (rs.length - k) (Value.slice none 0 0)).set k (.slice (some ⟨wr.heap.size, 0, none⟩) r.length r.length) = vs ++ [.slice (some ⟨wr.heap.size, 0, none⟩) r.length r.length] ++ List.replicate (rs.length - (k + 1)) (.slice none 0 0) := by
      obtain ⟨m, hm⟩ : ∃ m, rs.length - k = m + 1 := ⟨rs.length - k - 1, by omega⟩
      rw [List.set_append_right _ _ (by omega), hl, Nat.sub_self, hm, show rs.length - (k + 1) = m from by omega, List.replicate_succ]; simp
    rw [← e]; exact hst
  · by_cases ej : j = k
    · subst ej
      rw [hr] at hx; cases hx
      exact ⟨wr.heap.size, by rw [List.getElem?_append_right (by omega), hl]; simp, own_set (ho2.mono hbase) h j _ (own_ne ho2 hcur (by decide))⟩
    · obtain ⟨go, h1, h2⟩ := hv j x (by omega) hx
      have h2' := ownsRow_below h2 b2
      exact ⟨go, by rw [List.getElem?_append_left (by omega)]; exact h1, own_set h2' h k _ (own_ne h2' hcur (by decide))⟩
theorem Mid.next {w wr w2 : World} {hd : List ByteArray} {rs : List (List ByteArray)} {B g h k : Nat} {u : Value} (M : Mid w hd rs.length B g h wr) (F : Filled wr w.heap.size rs h k) (b2 : Below wr.heap.size wr w2) : Mid w hd rs.length B g h (w2.setCell ⟨h, k, none⟩ u) := by
  obtain ⟨vs, hl, ho, hv⟩ := F
  have hz := (b2.block w.heap.size (lt_of_heap M.z)).trans M.z
  have hb := (b2.block B (lt_of_heap M.b)).trans M.b
  have ho' := ownsRow_below ho b2
  have hh := ownsRow_below M.hrow b2
  obtain ⟨cur, hcur⟩ := own_block ho'
  exact ⟨set_old u hz (own_ne ho' hz (by decide)), set_old u hb (own_ne ho' hb (by decide)), M.lt, own_set hh h k u (own_ne hh hcur (by decide)), (below_up M.below b2).setCell (p := ⟨h, k, none⟩) ((ho.lt h rfl).1) u⟩
theorem mid_mk {w wc : World} {hd : List ByteArray} {rs : List (List ByteArray)} {B g h : Nat} (hn : rs.length ≤ 1099511627776) (z : wc.heap[w.heap.size]? = some ZT) (b : wc.heap[B]? = some (XT g hd.length h rs.length)) (lt : w.heap.size < B)
    (hrow : wc.ownsRow w.heap.size 9 1 (.slice (some ⟨g, 0, none⟩) hd.length hd.length) hd.length (hd.map Value.string)) (hh : wc.heap[h]? = some (RT rs.length)) (hle : w.heap.size ≤ h) (below : Below w.heap.size w wc) :
    ∃ B' g' h', Value.pointer (some ⟨B, 0, none⟩) = .pointer (some ⟨B', 0, none⟩) ∧ Mid w hd rs.length B' g' h' wc ∧ Filled wc w.heap.size rs h' 0 :=
  ⟨B, g, h, rfl, ⟨z, b, lt, hrow, below⟩, Filled.zero hle hn hh⟩

section ways
variable {w w2 : World} {hd : List ByteArray} {rs : List (List ByteArray)}
/-- what a call leaves that was made in a world with blocks behind w's -/
def Left2 (w W w2 : World) (hd : List ByteArray) (n : Nat) : Prop :=
  W.heap.size = w.heap.size + n ∧ Below w.heap.size w W ∧ Below W.heap.size W w2 ∧ w2.ownsRow W.heap.size 9 1 (.slice (some ⟨W.heap.size, 0, none⟩) hd.length hd.length) hd.length (hd.map Value.string)
theorem Left2.old {W : World} {n k : Nat} {o : Obj} (L : Left2 w W w2 hd n) (h : W.heap[k]? = some o) : w2.heap[k]? = some o := (L.2.2.1.block k (lt_of_heap h)).trans h
theorem Left2.below {W : World} {n : Nat} (L : Left2 w W w2 hd n) : Below w.heap.size w w2 := L.2.1.trans (L.2.2.1.mono L.2.1.size)
theorem Left2.row {W : World} {n : Nat} (L : Left2 w W w2 hd n) : w2.ownsRow w.heap.size 9 1 (.slice (some ⟨w.heap.size + n, 0, none⟩) hd.length hd.length) hd.length (hd.map Value.string) := by
  have := L.2.2.2.mono L.2.1.size
  rw [L.1] at this; exact this
theorem Left2.size {W : World} {n : Nat} (L : Left2 w W w2 hd n) : w.heap.size + n ≤ w2.heap.size := by rw [← L.1]; exact L.2.2.1.size
theorem w1_at : (w.alloc ZT).heap[w.heap.size]? = some ZT := World.alloc_heap_new w _
theorem w2_at (o p : Obj) : ((w.alloc o).alloc p).heap[w.heap.size + 1]? = some p := by have := World.alloc_heap_new (w.alloc o) p; simpa using this
theorem w3_at (o p q : Obj) : (((w.alloc o).alloc p).alloc q).heap[w.heap.size + 1 + 1]? = some q := by have := World.alloc_heap_new ((w.alloc o).alloc p) q; simpa using this

theorem way1 (hn : rs.length ≤ 1099511627776) (L : Left2 w (w.alloc ZT).drew w2 hd 1) :
    ∃ B g h, Value.pointer (some ⟨w2.heap.size + 1, 0, none⟩) = .pointer (some ⟨B, 0, none⟩) ∧ Mid w hd rs.length B g h ((w2.alloc (RT rs.length)).alloc (XT (w.heap.size + 1) hd.length w2.heap.size rs.length)) ∧
      Filled ((w2.alloc (RT rs.length)).alloc (XT (w.heap.size + 1) hd.length w2.heap.size rs.length)) w.heap.size rs h 0 := by
  have hs := L.size
  have hz := L.old (k := w.heap.size) (o := ZT) (w1_at (w := w))
  exact mid_mk hn (al_old _ (al_old _ hz)) (by have := World.alloc_heap_new (w2.alloc (RT rs.length)) (XT (w.heap.size + 1) hd.length w2.heap.size rs.length); simpa using this) (by omega)
    ((L.row.alloc _).alloc _) (al_old _ (World.alloc_heap_new w2 _)) (by omega) ((L.below.alloc (by omega) _).alloc (by simp; omega) _)
theorem way2 (hn : rs.length ≤ 1099511627776) (L : Left2 w (w.alloc ZT).drew w2 hd 1) :
    ∃ B g h, Value.pointer (some ⟨w2.heap.size, 0, none⟩) = .pointer (some ⟨B, 0, none⟩) ∧ Mid w hd rs.length B g h ((w2.alloc (XT (w.heap.size + 1) hd.length (w2.heap.size + 1) rs.length)).alloc (RT rs.length)) ∧
      Filled ((w2.alloc (XT (w.heap.size + 1) hd.length (w2.heap.size + 1) rs.length)).alloc (RT rs.length)) w.heap.size rs h 0 := by
  have hs := L.size
  have hz := L.old (k := w.heap.size) (o := ZT) (w1_at (w := w))
  exact mid_mk hn (al_old _ (al_old _ hz)) (al_old _ (World.alloc_heap_new w2 _)) (by omega)
    ((L.row.alloc _).alloc _) (by have := World.alloc_heap_new (w2.alloc (XT (w.heap.size + 1) hd.length (w2.heap.size + 1) rs.length)) (RT rs.length); simpa using this) (by omega) ((L.below.alloc (by omega) _).alloc (by simp; omega) _)
theorem way3 (hn : rs.length ≤ 1099511627776) (L : Left2 w ((w.alloc ZT).alloc (RT rs.length)).drew w2 hd (1 + 1)) :
    ∃ B g h, Value.pointer (some ⟨w2.heap.size, 0, none⟩) = .pointer (some ⟨B, 0, none⟩) ∧ Mid w hd rs.length B g h (w2.alloc (XT (w.heap.size + 1 + 1) hd.length (w.heap.size + 1) rs.length)) ∧
      Filled (w2.alloc (XT (w.heap.size + 1 + 1) hd.length (w.heap.size + 1) rs.length)) w.heap.size rs h 0 := by
  have hs := L.size
  have hz := L.old (k := w.heap.size) (o := ZT) (al_old (RT rs.length) (w1_at (w := w)))
  have hr := L.old (k := w.heap.size + 1) (o := RT rs.length) (w2_at (w := w) ZT _)
  exact mid_mk hn (al_old _ hz) (World.alloc_heap_new w2 _) (by omega) (L.row.alloc _) (al_old _ hr) (by omega) (L.below.alloc (by omega) _)
theorem way4 (hn : rs.length ≤ 1099511627776) (L : Left2 w (((w.alloc ZT).alloc (RT rs.length)).alloc ZT).drew w2 hd (1 + 1 + 1)) :
    ∃ B g h, Value.pointer (some ⟨w.heap.size + 1 + 1, 0, none⟩) = .pointer (some ⟨B, 0, none⟩) ∧ Mid w hd rs.length B g h ((w2.setCell ⟨w.heap.size + 1 + 1, 0, none⟩ (.slice (some ⟨w.heap.size + 1 + 1 + 1, 0, none⟩) hd.length hd.length)).setCell ⟨w.heap.size + 1 + 1, 1, none⟩ (.slice (some ⟨w.heap.size + 1, 0, none⟩) rs.length rs.length)) ∧
      Filled ((w2.setCell ⟨w.heap.size + 1 + 1, 0, none⟩ (.slice (some ⟨w.heap.size + 1 + 1 + 1, 0, none⟩) hd.length hd.length)).setCell ⟨w.heap.size + 1 + 1, 1, none⟩ (.slice (some ⟨w.heap.size + 1, 0, none⟩) rs.length rs.length)) w.heap.size rs h 0 := by
  have hs := L.size
  have hz := L.old (k := w.heap.size) (o := ZT) (al_old ZT (al_old (RT rs.length) (w1_at (w := w))))
  have hr := L.old (k := w.heap.size + 1) (o := RT rs.length) (al_old ZT (w2_at (w := w) ZT _))
  have hx := L.old (k := w.heap.size + 1 + 1) (o := ZT) (w3_at (w := w) ZT (RT rs.length) ZT)
  exact mid_mk hn (set_old _ (set_old _ hz (by omega)) (by omega)) (set_two _ _ hx) (by omega) (own_set (own_set L.row _ _ _ (by omega)) _ _ _ (by omega)) (set_old _ (set_old _ hr (by omega)) (by omega)) (by omega)
    ((L.below.setCell (p := ⟨w.heap.size + 1 + 1, 0, none⟩) (by show w.heap.size ≤ w.heap.size + 1 + 1; omega) _).setCell (p := ⟨w.heap.size + 1 + 1, 1, none⟩) (by show w.heap.size ≤ w.heap.size + 1 + 1; omega) _)
theorem way5 (hn : rs.length ≤ 1099511627776) (L : Left2 w ((w.alloc ZT).alloc ZT).drew w2 hd (1 + 1)) :
    ∃ B g h, Value.pointer (some ⟨w.heap.size + 1, 0, none⟩) = .pointer (some ⟨B, 0, none⟩) ∧ Mid w hd rs.length B g h (((w2.setCell ⟨w.heap.size + 1, 0, none⟩ (.slice (some ⟨w.heap.size + 1 + 1, 0, none⟩) hd.length hd.length)).setCell ⟨w.heap.size + 1, 1, none⟩ (.slice (some ⟨w2.heap.size, 0, none⟩) rs.length rs.length)).alloc (RT rs.length)) ∧
      Filled (((w2.setCell ⟨w.heap.size + 1, 0, none⟩ (.slice (some ⟨w.heap.size + 1 + 1, 0, none⟩) hd.length hd.length)).setCell ⟨w.heap.size + 1, 1, none⟩ (.slice (some ⟨w2.heap.size, 0, none⟩) rs.length rs.length)).alloc (RT rs.length)) w.heap.size rs h 0 := by
  have hs := L.size
  have hz := L.old (k := w.heap.size) (o := ZT) (al_old ZT (w1_at (w := w)))
  have hx := L.old (k := w.heap.size + 1) (o := ZT) (w2_at (w := w) ZT ZT)
  exact mid_mk hn (al_old _ (set_old _ (set_old _ hz (by omega)) (by omega))) (al_old _ (set_two _ _ hx)) (by omega) ((own_set (own_set L.row _ _ _ (by omega)) _ _ _ (by omega)).alloc _)
    (by have := World.alloc_heap_new ((w2.setCell ⟨w.heap.size + 1, 0, none⟩ (.slice (some ⟨w.heap.size + 1 + 1, 0, none⟩) hd.length hd.length)).setCell ⟨w.heap.size + 1, 1, none⟩ (.slice (some ⟨w2.heap.size, 0, none⟩) rs.length rs.length)) (RT rs.length); simpa using this) (by omega)
    (((L.below.setCell (p := ⟨w.heap.size + 1, 0, none⟩) (by show w.heap.size ≤ w.heap.size + 1; omega) _).setCell (p := ⟨w.heap.size + 1, 1, none⟩) (by show w.heap.size ≤ w.heap.size + 1; omega) _).alloc (by simp; omega) _)
theorem way6 (hn : rs.length ≤ 1099511627776) (L : Left2 w (((w.alloc ZT).alloc ZT).alloc (RT rs.length)).drew w2 hd (1 + 1 + 1)) :
    ∃ B g h, Value.pointer (some ⟨w.heap.size + 1, 0, none⟩) = .pointer (some ⟨B, 0, none⟩) ∧ Mid w hd rs.length B g h ((w2.setCell ⟨w.heap.size + 1, 0, none⟩ (.slice (some ⟨w.heap.size + 1 + 1 + 1, 0, none⟩) hd.length hd.length)).setCell ⟨w.heap.size + 1, 1, none⟩ (.slice (some ⟨w.heap.size + 1 + 1, 0, none⟩) rs.length rs.length)) ∧
      Filled ((w2.setCell ⟨w.heap.size + 1, 0, none⟩ (.slice (some ⟨w.heap.size + 1 + 1 + 1, 0, none⟩) hd.length hd.length)).setCell ⟨w.heap.size + 1, 1, none⟩ (.slice (some ⟨w.heap.size + 1 + 1, 0, none⟩) rs.length rs.length)) w.heap.size rs h 0 := by
  have hs := L.size
  have hz := L.old (k := w.heap.size) (o := ZT) (al_old (RT rs.length) (al_old ZT (w1_at (w := w))))
  have hx := L.old (k := w.heap.size + 1) (o := ZT) (al_old (RT rs.length) (w2_at (w := w) ZT ZT))
  have hr := L.old (k := w.heap.size + 1 + 1) (o := RT rs.length) (w3_at (w := w) ZT ZT (RT rs.length))
  exact mid_mk hn (set_old _ (set_old _ hz (by omega)) (by omega)) (set_two _ _ hx) (by omega) (own_set (own_set L.row _ _ _ (by omega)) _ _ _ (by omega)) (set_old _ (set_old _ hr (by omega)) (by omega)) (by omega)
    ((L.below.setCell (p := ⟨w.heap.size + 1, 0, none⟩) (by show w.heap.size ≤ w.heap.size + 1; omega) _).setCell (p := ⟨w.heap.size + 1, 1, none⟩) (by show w.heap.size ≤ w.heap.size + 1; omega) _)
end ways

theorem Filled.at {wr w2 : World} {base : Nat} {rs : List (List ByteArray)} {h k : Nat} (F : Filled wr base rs h k) (b2 : Below wr.heap.size wr w2) (hk : k < rs.length) : ∃ old, w2.cell? ⟨h, k, none⟩ = some old := by
  obtain ⟨vs, hl, ho, _⟩ := F
  have hlen : k < (vs ++ List.replicate (rs.length - k) (Value.slice none 0 0)).length := by simp; omega
  exact ⟨_, by rw [(ownsRow_below ho b2).cellAt k (by omega), List.getElem?_eq_getElem hlen]⟩
theorem Filled.soft {wr w2 : World} {base : Nat} {rs : List (List ByteArray)} {h k : Nat} (F : Filled wr base rs h k) (b2 : Below wr.heap.size wr w2) (j : Nat) : w2.frozen? ⟨h, j, none⟩ = false := by
  obtain ⟨vs, hl, ho, _⟩ := F
  exact (ownsRow_below ho b2).frozenAt j

set_option maxRecDepth 100000 in
theorem made_rows (W : World) (n : Nat) (hn : n ≤ 1099511627776) : (Instr.makeSlice 23 (.int .i64 (n : Int)) (.int .i64 (n : Int))).run Tryz.prog W = .ok (.slice (some ⟨W.heap.size, 0, none⟩) n n) (W.alloc (.cells (madeCells #[.slice none 0 0] n) 22)) :=
  run_make_row' 23 22 (.slice none 0 0) 24 Tryz.underlying23 (by kernel_rfl) rfl .i64 .i64 n (by omega) (by omega) W

set_option maxRecDepth 100000 in
set_option maxHeartbeats 4000000 in
theorem put_any (ho : Option Addr) (hc : Nat) (hd : List ByteArray) (ro : Option Addr) (rc : Nat) (rs : List (List ByteArray)) (w : World) (hn : hd.length ≤ 1099511627776) (hs : ∀ c ∈ hd, c.size ≤ 281474976710656) (hH : StrRow w ho hd)
    (hn2 : rs.length ≤ 1099511627776) (hs2 : ∀ r ∈ rs, r.length ≤ 1099511627776 ∧ ∀ c ∈ r, c.size ≤ 281474976710656) (hR : RowsAt w ro rs) :
    Calls Tryz.prog 103 #[.slice ho hd.length hc, .slice ro rs.length rc] w fun e w' => ∃ g h, e = .returned (.agg #[.slice (some ⟨g, 0, none⟩) hd.length hd.length, .slice (some ⟨h, 0, none⟩) rs.length rs.length]) ∧
      StrRow w' (some ⟨g, 0, none⟩) hd ∧ RowsAt w' (some ⟨h, 0, none⟩) rs ∧ (∃ vs, w'.ownsRow w.heap.size 22 1 (.slice (some ⟨h, 0, none⟩) rs.length rs.length) rs.length vs) ∧ Below w.heap.size w w' ∧ w'.ownsRow w.heap.size 9 1 (.slice (some ⟨g, 0, none⟩) hd.length hd.length) hd.length (hd.map Value.string) := by
  have C := Lib.hid (fun W (h : Below w.heap.size w W) => copied_any ho hc hd W hn hs (hH.kept h))
  have HRo := Lib.hid hR
  have HS2 := Lib.hid hs2
  have hmk := fun W => made_rows W rs.length hn2
  clear hH hR hs hs2
  go_enter Tryz.func103, Tryz.ntmps103
  go_wp2_with fail
  go_upto_region 1 with fail
  go_cut [5] from 6 (fun p wc => ∃ B g h, p = .pointer (some ⟨B, 0, none⟩) ∧ Mid w hd rs.length B g h wc ∧ Filled wc w.heap.size rs h 0)
  case first =>
    go_region_with (go_at_call 132; refine (C.out _ (by repeat (first | exact Below.refl _ _ | refine Below.drew ?_ | refine Below.alloc ?_ (by (try simp) <;> omega) _))).mono ?_; rintro e w2 ⟨rfl, ho, b2⟩; have hk : ∀ b j, b < _ → w2.cell? ⟨b, j, none⟩ = _ := (fun b j h => b2.cell (p := ⟨b, j, none⟩) h); have hf : ∀ b j, b < _ → w2.frozen? ⟨b, j, none⟩ = _ := (fun b j h => b2.frozen (p := ⟨b, j, none⟩) h); have hz := b2.size; simp at hz; simp at hk hf; have HO := Lib.hid ho; have HB2 := Lib.hid b2; clear ho b2; try (have l1 : w.heap.size + 1 < w2.heap.size := by omega); try (have l2 : w.heap.size + 1 + 1 < w2.heap.size := by omega))
    all_goals (go_wp2_with fail; go_meet)
    all_goals first
      | exact way1 hn2 ⟨by simp, (by repeat (first | exact Below.refl _ _ | refine Below.drew ?_ | refine Below.alloc ?_ (by (try simp) <;> omega) _)), HB2.out, HO.out⟩
      | exact way2 hn2 ⟨by simp, (by repeat (first | exact Below.refl _ _ | refine Below.drew ?_ | refine Below.alloc ?_ (by (try simp) <;> omega) _)), HB2.out, HO.out⟩
      | exact way3 hn2 ⟨by simp, (by repeat (first | exact Below.refl _ _ | refine Below.drew ?_ | refine Below.alloc ?_ (by (try simp) <;> omega) _)), HB2.out, HO.out⟩
      | exact way4 hn2 ⟨by simp, (by repeat (first | exact Below.refl _ _ | refine Below.drew ?_ | refine Below.alloc ?_ (by (try simp) <;> omega) _)), HB2.out, HO.out⟩
      | exact way5 hn2 ⟨by simp, (by repeat (first | exact Below.refl _ _ | refine Below.drew ?_ | refine Below.alloc ?_ (by (try simp) <;> omega) _)), HB2.out, HO.out⟩
      | exact way6 hn2 ⟨by simp, (by repeat (first | exact Below.refl _ _ | refine Below.drew ?_ | refine Below.alloc ?_ (by (try simp) <;> omega) _)), HB2.out, HO.out⟩
  case rest =>
    obtain ⟨B, g, h, rfl, M, F⟩ := hcut
    have HM := Lib.hid M
    have HF := Lib.hid F
    clear C M F hmk
    go_wp2_with fail
    go_loopw [16] (fun i wr => ∃ k : Nat, k ≤ rs.length ∧ i = .int .i64 k ∧ Hid (Mid w hd rs.length B g h wr) ∧ Hid (Filled wr w.heap.size rs h k)) (fun i _ => rs.length - (intOf i).toNat)
    case atStart => exact ⟨0, Nat.zero_le _, rfl, HM, HF⟩
    case round =>
      obtain ⟨k, hk, rfl, HM, HF⟩ := hrel
      by_cases hlt : k < rs.length
      · obtain ⟨r, hr⟩ : ∃ r, rs[k]? = some r := ⟨_, List.getElem?_eq_getElem hlt⟩
        have HX := Lib.hid hr
        rcases (HRo.out.kept HM.out.below) with h0 | ⟨A, rfl, hA, hcell⟩
        · rw [h0] at hlt; simp at hlt
        obtain ⟨ro1, rc1, hc1, hs1⟩ := hcell k r hr
        have C1 := Lib.hid (copied_any ro1 rc1 r wr.drew (HS2.out r (List.mem_of_getElem? hr)).1 (HS2.out r (List.mem_of_getElem? hr)).2 hs1)
        clear hcell hr hs1
        have q0 : wr.cell? ⟨B, 1, none⟩ = some (.slice (some ⟨h, 0, none⟩) rs.length rs.length) := (Lib.cell_of_heap HM.out.b 1).trans rfl
        have lB := lt_of_heap HM.out.b
        go_wp2_with fail
        go_region_with (go_at_call 132; refine C1.out.mono ?_; rintro e w2 ⟨rfl, ho, b2⟩; have B2 := Lib.hid ((Below.drew (Below.refl _ wr)).trans b2); have HO := Lib.hid ho; have q1 := ((B2.out.block B lB).trans HM.out.b); have q2 : w2.cell? ⟨B, 1, none⟩ = some (.slice (some ⟨h, 0, none⟩) rs.length rs.length) := (Lib.cell_of_heap q1 1).trans rfl; obtain ⟨old, q3⟩ : ∃ old, w2.cell? ⟨h, k, none⟩ = some old := (Filled.at HF.out B2.out hlt); have q4 : w2.frozen? ⟨h, k, none⟩ = false := (Filled.soft HF.out B2.out k); clear ho b2 q1)
        all_goals (go_wp2_with fail)
        all_goals go_roundw
        all_goals first
          | exact ⟨k + 1, by omega, by go_num, Lib.hid (HM.out.next HF.out B2.out), Lib.hid (HF.out.next HX.out HM.out.below.size B2.out HO.out)⟩
          | (simp [intOf]; omega)
      · obtain rfl : k = rs.length := by omega
        have c0 : wr.cell? ⟨B, 0, none⟩ = some (.slice (some ⟨g, 0, none⟩) hd.length hd.length) := (Lib.cell_of_heap HM.out.b 0).trans rfl
        have c1 : wr.cell? ⟨B, 1, none⟩ = some (.slice (some ⟨h, 0, none⟩) rs.length rs.length) := (Lib.cell_of_heap HM.out.b 1).trans rfl
        have z0 : wr.cell? ⟨w.heap.size, 0, none⟩ = some (.slice none 0 0) := (Lib.cell_of_heap HM.out.z 0).trans rfl
        have z1 : wr.cell? ⟨w.heap.size, 1, none⟩ = some (.slice none 0 0) := (Lib.cell_of_heap HM.out.z 1).trans rfl
        have f0 : wr.frozen? ⟨w.heap.size, 0, none⟩ = false := Lib.frozen_of_heap HM.out.z 0
        have f1 : wr.frozen? ⟨w.heap.size, 1, none⟩ = false := Lib.frozen_of_heap HM.out.z 1
        go_wp2_with fail
        refine bodyPost_ret (v := .agg #[.slice (some ⟨g, 0, none⟩) hd.length hd.length, .slice (some ⟨h, 0, none⟩) rs.length rs.length]) (by simp [results, Tryz.results103, go_sem, z0, z1]) rfl ?_
        have F1 := (HF.out.other HM.out.z 0 (.slice (some ⟨g, 0, none⟩) hd.length hd.length))
        have hz1 := heap_setCell_same wr w.heap.size 0 _ _ (.slice (some ⟨g, 0, none⟩) hd.length hd.length) HM.out.z
        have F2 := (F1.other hz1 1 (.slice (some ⟨h, 0, none⟩) rs.length rs.length)).rows
        have H1 := own_set HM.out.hrow w.heap.size 0 (.slice (some ⟨g, 0, none⟩) hd.length hd.length) (own_ne HM.out.hrow HM.out.z (by decide))
        have H2' := (own_set H1 w.heap.size 1 (.slice (some ⟨h, 0, none⟩) rs.length rs.length) (own_ne H1 hz1 (by decide)))
        have H2 := own_strs H2'
        exact ⟨g, h, rfl, H2, F2.1, F2.2, (HM.out.below.setCell (p := ⟨w.heap.size, 0, none⟩) (Nat.le_refl _) _).setCell (p := ⟨w.heap.size, 1, none⟩) (Nat.le_refl _) _, H2'⟩
end Go.Proofs.YtigijgcldgbokaaGreat
