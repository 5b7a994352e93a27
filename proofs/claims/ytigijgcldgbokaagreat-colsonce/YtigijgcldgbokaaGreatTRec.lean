/-
  The records of a table, and the table of records: what the program answers.
  Conditions: tables of at most 2^40 names and rows of at most 2^40 cells; texts of at most 2^48 bytes.
-/
import Derived.WalkKit
import Derived.WalkMore
import Derived.Lib.Hide
import Derived.Lib.AppendZerosOnto
import Derived.Laws.CopyOwn
import Derived.Laws.AppendOwn
import Derived.Deep.RegionLaw
import Derived.Deep.RegionWith
import Derived.Test.YtigijgcldgbokaaGreatProg
import Derived.Test.YtigijgcldgbokaaGreatTCheck
import Derived.Test.YtigijgcldgbokaaGreatTPut
import Derived.Test.YtigijgcldgbokaaGreatTRest
namespace Go.Proofs.YtigijgcldgbokaaGreat
open Go.RowKit Go.Shelf
set_option linter.unusedVariables false

theorem own_cap {w : World} {base : Nat} {e : TypeId} {size : Nat} {ao : Option Addr} {m n cap : Nat} {xs : List Value} (h : w.ownsRow base e size (.slice ao m cap) n xs) : n ≤ cap := by
  rcases h.2 with ⟨h1, h2⟩ | ⟨g, c, cur, h1, _, _, h2, _⟩
  · cases h1; omega
  · cases h1; exact h2

theorem strRow_other {w w' : World} {ao : Option Addr} {xs : List ByteArray} (h : StrRow w ao xs) (hz : w.heap.size ≤ w'.heap.size) (g : Nat) (hg : ∀ A, ao = some A → A.block ≠ g) (hk : ∀ k, k < w.heap.size → k ≠ g → w'.heap[k]? = w.heap[k]?) : StrRow w' ao xs := by
  rcases h with h | ⟨A, h1, h2, h3⟩
  · exact .inl h
  · exact .inr ⟨A, h1, Nat.lt_of_lt_of_le h2 hz, fun i c hc => (World.cell?_of_block (a := A.add i) (by rw [add_block]; exact hk _ h2 (hg A h1))).trans (h3 i c hc)⟩
/-- the values in the cells of rows -/
theorem rows_vals {w : World} {h n cap base : Nat} {rs : List (List ByteArray)} {vs : List Value} (hR : RowsAt w (some ⟨h, 0, none⟩) rs) (hn : n = rs.length) (ho : w.ownsRow base 22 1 (.slice (some ⟨h, 0, none⟩) n cap) n vs) :
    vs.length = n ∧ ∀ (j : Nat) r, rs[j]? = some r → ∃ (ro : Option Addr) (c : Cap ro r.length), vs[j]? = some (.slice ro r.length c.1) ∧ StrRow w ro r := by
  have hl : vs.length = n := by have := ho.1; omega
  refine ⟨hl, fun j r hr => ?_⟩
  have hj := (List.getElem?_eq_some_iff.1 hr).1
  rcases hR with h0 | ⟨A, hA, hb, hc⟩
  · rw [h0] at hj; simp at hj
  cases hA
  obtain ⟨ro, c, h1, h2⟩ := hc j r hr
  have h3 := ho.cells rfl j (vs[j]'(by omega)) (List.getElem?_eq_getElem (by omega))
  rw [h1] at h3
  exact ⟨ro, c, by rw [List.getElem?_eq_getElem (by omega), ← h3], h2⟩
theorem vals_one {rs : List (List ByteArray)} {vs : List Value} {w : World} (hl : vs.length = rs.length) (h : ∀ (j : Nat) r, rs[j]? = some r → ∃ (ro : Option Addr) (c : Cap ro r.length), vs[j]? = some (.slice ro r.length c.1) ∧ StrRow w ro r) : ∀ u ∈ vs, u.oneCell' = true := fun u hu => by
  obtain ⟨i, hi, rfl⟩ := List.getElem_of_mem hu
  obtain ⟨ro, c, h1, _⟩ := h i rs[i] (List.getElem?_eq_getElem (by omega))
  rw [List.getElem?_eq_getElem hi] at h1
  have h2 : vs[i] = Value.slice ro rs[i].length c.1 := Option.some.inj h1
  show (vs[i]).oneCell' = true
  rw [h2]; rfl

def ofErr : List (List ByteArray) → Int | [] => 8 | h :: t => checkI h t
def ofHead : List (List ByteArray) → List ByteArray | [] => [] | h :: t => if checkI h t = 0 then h else []
def ofRows : List (List ByteArray) → List (List ByteArray) | [] => [] | h :: t => if checkI h t = 0 then t else []
/-- what Of answers -/
def OfPost (l : List (List ByteArray)) (w : World) (e : Ending) (w' : World) : Prop :=
  ∃ (ho : Option Addr) (hc : Cap ho (ofHead l).length) (ro : Option Addr) (rc : Cap ro (ofRows l).length), e = .returned (.tuple #[.agg #[.slice ho (ofHead l).length hc.1, .slice ro (ofRows l).length rc.1], .int .i64 (ofErr l)]) ∧ StrRow w' ho (ofHead l) ∧ RowsAt w' ro (ofRows l) ∧ Below w.heap.size w w' ∧ ∀ A, ro = some A → w.heap.size ≤ A.block
theorem add0 (A : Addr) : A.add 0 = A := by unfold Addr.add; split <;> (cases A; simp_all)
/-- where a block that holds no text turns, rows of texts elsewhere stay -/
theorem str_turn {w w' : World} {b : Nat} {cs : Array Value} {T : TypeId} {fr : Nat × Nat} (hb : w.heap[b]? = some (.cells cs T fr)) (hcs : ∀ (j : Nat) s, cs[j]? ≠ some (.string s)) (hz : w.heap.size ≤ w'.heap.size) (hk : ∀ k, k ≠ b → w'.heap[k]? = w.heap[k]?)
    {ao : Option Addr} {xs : List ByteArray} (h : StrRow w ao xs) : StrRow w' ao xs := by
  by_cases h0 : xs = []
  · exact .inl h0
  · rcases h with h | ⟨A, h1, h2, h3⟩
    · exact .inl h
    · have hp : 0 < xs.length := List.length_pos_iff.2 h0
      have hne : A.block ≠ b := fun e => by
        have hc := h3 0 xs[0] (List.getElem?_eq_getElem hp)
        rw [add0] at hc
        unfold World.cell? at hc
        rw [e, hb] at hc
        simp only at hc
        split at hc
        · cases hc
        · exact hcs _ _ hc
      exact .inr ⟨A, h1, Nat.lt_of_lt_of_le h2 hz, fun i c hc => (World.cell?_of_block (a := A.add i) (by rw [add_block]; exact hk _ hne)).trans (h3 i c hc)⟩
theorem rows_turn {w w' : World} {b : Nat} {cs : Array Value} {T : TypeId} {fr : Nat × Nat} (hb : w.heap[b]? = some (.cells cs T fr)) (hcs : ∀ (j : Nat) s, cs[j]? ≠ some (.string s)) (hz : w.heap.size ≤ w'.heap.size) (hk : ∀ k, k ≠ b → w'.heap[k]? = w.heap[k]?)
    {A : Addr} {rs : List (List ByteArray)} (hA : A.block ≠ b) (h : RowsAt w (some A) rs) : RowsAt w' (some A) rs := by
  rcases h with h | ⟨A', h1, h2, h3⟩
  · exact .inl h
  · cases h1
    refine .inr ⟨A, rfl, Nat.lt_of_lt_of_le h2 hz, fun i r hr => ?_⟩
    obtain ⟨ro, c, h4, h5⟩ := h3 i r hr
    exact ⟨ro, c, (World.cell?_of_block (a := A.add i) (by rw [add_block]; exact hk _ hA)).trans h4, str_turn hb hcs hz hk h5⟩
theorem rows_tail {w : World} {A : Addr} {x : List ByteArray} {t : List (List ByteArray)} (h : RowsAt w (some A) (x :: t)) : RowsAt w (some ⟨A.block, A.off + 1, none⟩) t := by
  show RowsAt w (some (A.add 1)) t
  rcases h with h | ⟨A', hA, hb, hc⟩
  · cases h
  cases hA
  refine .inr ⟨_, rfl, by rw [add_block]; exact hb, fun i r hr => ?_⟩
  obtain ⟨ro, c, h1, h2⟩ := hc (i + 1) r (by simpa using hr)
  exact ⟨ro, c, by rw [Addr.add_add, Nat.add_comm 1 i]; exact h1, h2⟩

set_option maxRecDepth 100000 in
set_option maxHeartbeats 4000000 in
theorem of_nil (ao : Option Addr) (cap : Nat) (w : World) : Calls Tryz.prog 73 #[.slice ao 0 cap] w (OfPost [] w) := by
  have HB := Lib.hid (one_below w (.cells #[.slice none 0 0, .slice none 0 0] 25))
  go_enter Tryz.func73, Tryz.ntmps73
  go_wp2_with fail
  refine bodyPost_ret (v := .tuple #[.agg #[.slice none 0 0, .slice none 0 0], .int .i64 8]) (by simp [results, Tryz.results73, go_sem]) rfl ?_
  exact ⟨none, ⟨0, Nat.le_refl _, fun _ => rfl⟩, none, ⟨0, Nat.le_refl _, fun _ => rfl⟩, rfl, .inl rfl, .inl rfl, HB.out, fun A hA => by cases hA⟩

set_option maxRecDepth 100000 in
set_option maxHeartbeats 800000 in
theorem of_more (A : Addr) (cap : Nat) (x : List ByteArray) (t : List (List ByteArray)) (w : World) (hcap : t.length + 1 ≤ cap) (hne : ¬ cap = 1) (hn : x.length ≤ 1099511627776) (hs : ∀ c ∈ x, c.size ≤ 281474976710656)
    (hn2 : t.length ≤ 1099511627776) (hs2 : ∀ r ∈ t, r.length ≤ 1099511627776 ∧ ∀ c ∈ r, c.size ≤ 281474976710656) (hsum : sumT (allT x t) ≤ 1152921504606846976) (hR : RowsAt w (some A) (x :: t)) :
    Calls Tryz.prog 73 #[.slice (some A) (t.length + 1) cap] w (OfPost (x :: t) w) := by
  obtain ⟨W, HW⟩ : ∃ W, Hid (W = w.alloc (.cells #[.slice none 0 0, .slice none 0 0] 25)) := ⟨_, Lib.hid rfl⟩
  have hB : Below w.heap.size w W := by rw [HW.out]; exact one_below _ _
  have hN : W.heap[w.heap.size]? = some (.cells #[.slice none 0 0, .slice none 0 0] 25 (0, 0)) := by rw [HW.out]; exact World.alloc_heap_new w _
  have hRW := hR.kept hB
  obtain ⟨xo, xc, hx0, hxs⟩ : ∃ xo xc, W.cell? A = some (.slice xo x.length xc) ∧ StrRow W xo x := by
    rcases hRW with h | ⟨A', hA, hb, hc⟩
    · cases h
    cases hA
    obtain ⟨ro, c, h1, h2⟩ := hc 0 x rfl
    rw [add0] at h1
    exact ⟨ro, c, h1, h2⟩
  have hAb : A.block < w.heap.size := by
    rcases hR with h | ⟨A', hA, hb, hc⟩
    · cases h
    cases hA; exact hb
  have htt := rows_tail hRW
  have C := Lib.hid (check_any xo xc x (some ⟨A.block, A.off + 1, none⟩) (cap - 1) t W.drew hn hn2 (fun r hr => (hs2 r hr).1) hxs htt (fun c hc => by have := hs c hc; unfold maxLen; omega) hsum)
  have CP := Lib.hid (fun W' (h : Below W.heap.size W W') => put_any xo xc x (some ⟨A.block, A.off + 1, none⟩) (cap - 1) t W' hn hs (hxs.kept h) hn2 hs2 (htt.kept h))
  clear hR hRW htt hs hs2 hsum hxs
  have hb0 : ((t.length : Int) + 1 == 0) = false := by rw [beq_eq_false_iff_ne]; omega
  have q1 : (0 : Int) ≤ (t.length : Int) + 1 := by omega
  have q2 : (1 : Int) ≤ (t.length : Int) + 1 := by omega
  have q3 : (t.length : Int) + 1 ≤ (cap : Int) := by omega
  have HN := Lib.hid hN
  have HB := Lib.hid hB
  clear hN hB
  have E0 := Lib.hid (show ofErr (x :: t) = checkI x t from rfl)
  obtain ⟨er, HE⟩ : ∃ er, Hid (er = checkI x t) := ⟨_, Lib.hid rfl⟩
  rw [← HE.out] at C E0
  have HZ : Hid (¬ er = 0 → ofHead (x :: t) = [] ∧ ofRows (x :: t) = []) := Lib.hid (fun h => by rw [HE.out] at h; simp [ofHead, ofRows, h])
  have HO : Hid (er = 0 → ofHead (x :: t) = x ∧ ofRows (x :: t) = t) := Lib.hid (fun h => by rw [HE.out] at h; simp [ofHead, ofRows, h])
  unfold OfPost
  rw [E0.out]
  generalize ofHead (x :: t) = oh at HZ HO ⊢
  generalize ofRows (x :: t) = orr at HZ HO ⊢
  clear HE E0
  go_enter Tryz.func73, Tryz.ntmps73
  go_wp2_with fail
  rw [← HW.out]
  go_upto_region 3 with fail
  go_cut [4] from 9 to 15 (fun e wc => e = .int .i64 er ∧ Hid (Below W.heap.size W wc))
  case first =>
    go_region_with (go_at_call 17; (with_reducible refine C.out.mono ?_); rintro e w2 ⟨rfl, b2⟩; have B2 := Lib.hid ((Below.drew (Below.refl _ W)).trans b2); clear b2)
    all_goals (go_wp2_with fail; go_meet)
    all_goals exact ⟨rfl, B2⟩
  case rest =>
    obtain ⟨rfl, HBc⟩ := hcut
    rename World => wc
    have hz := (HBc.out.block _ (lt_of_heap HN.out)).trans HN.out
    have z0 : wc.cell? ⟨w.heap.size, 0, none⟩ = some (.slice none 0 0) := (Lib.cell_of_heap hz 0).trans rfl
    have z1 : wc.cell? ⟨w.heap.size, 1, none⟩ = some (.slice none 0 0) := (Lib.cell_of_heap hz 1).trans rfl
    have f0 : wc.frozen? ⟨w.heap.size, 0, none⟩ = false := Lib.frozen_of_heap hz 0
    have f1 : wc.frozen? ⟨w.heap.size, 1, none⟩ = false := Lib.frozen_of_heap hz 1
    have lz := lt_of_heap hz
    have HZz := Lib.hid hz
    clear C hz
    by_cases he : er = 0
    · have hb : (er != 0) = false := by simp [he]
      obtain ⟨h1, h2⟩ := HO.out he
      subst h1 h2
      have HEr := Lib.hid he
      clear he HZ HO
      have hxw := (HBc.out.cell (p := A) (by have := HB.out.size; omega)).trans hx0
      have PP := Lib.hid (CP.out wc.drew (Below.drew HBc.out))
      clear CP
      go_wp2_with fail
      go_region_with (go_at_call 103; (with_reducible refine PP.out.mono ?_); rintro e w2 ⟨g, h, rfl, hH, hR, ⟨vs, hv⟩, b2, hg⟩; have HQ := Lib.hid (And.intro hH (And.intro hR (And.intro (hv.lt h rfl).1 b2))); have k2 := (b2.block w.heap.size lz).trans HZz.out; have k0 : w2.cell? ⟨w.heap.size, 0, none⟩ = some (.slice none 0 0) := (Lib.cell_of_heap k2 0).trans rfl; have k1 : w2.cell? ⟨w.heap.size, 1, none⟩ = some (.slice none 0 0) := (Lib.cell_of_heap k2 1).trans rfl; have g0 : w2.frozen? ⟨w.heap.size, 0, none⟩ = false := Lib.frozen_of_heap k2 0; have g1 : w2.frozen? ⟨w.heap.size, 1, none⟩ = false := Lib.frozen_of_heap k2 1; have HK2 := Lib.hid k2; clear hH hR hv b2 hg k2)
      all_goals (go_wp2_with fail)
      all_goals
        obtain ⟨q1, q2, q3, q4⟩ := HQ.out
        refine bodyPost_ret (v := .tuple #[.agg #[.slice (some ⟨g, 0, none⟩) oh.length oh.length, .slice (some ⟨h, 0, none⟩) orr.length orr.length], .int .i64 er]) (by simp [results, Tryz.results73, go_sem, k0, k1, HEr.out]) rfl ?_
        have hk : ∀ u v k, k ≠ w.heap.size → ((w2.setCell ⟨w.heap.size, 0, none⟩ u).setCell ⟨w.heap.size, 1, none⟩ v).heap[k]? = w2.heap[k]? := fun u v k hk => (heap_setCell_other _ ⟨w.heap.size, 1, none⟩ k v hk).trans (heap_setCell_other _ ⟨w.heap.size, 0, none⟩ k u hk)
        have hno : ∀ (j : Nat) s, (#[Value.slice none 0 0, Value.slice none 0 0] : Array Value)[j]? ≠ some (.string s) := fun j s e => by
          match j, e with
          | 0, e => simp at e
          | 1, e => simp at e
        refine ⟨some ⟨g, 0, none⟩, ⟨_, Nat.le_refl _, fun e => by cases e⟩, some ⟨h, 0, none⟩, ⟨_, Nat.le_refl _, fun e => by cases e⟩, rfl, str_turn HK2.out hno (by simp) (hk _ _) q1, rows_turn HK2.out hno (by simp) (hk _ _) ?_ q2, ?_, fun A hA => by cases hA; have : w.heap.size < wc.heap.size := lz; have q3' : wc.heap.size ≤ h := q3; show w.heap.size ≤ h; omega⟩
        · have : w.heap.size < wc.heap.size := lz
          show h ≠ w.heap.size
          have q3' : wc.heap.size ≤ h := q3
          omega
        · exact (((below_up HB.out HBc.out).trans ((Below.drew (Below.refl _ wc)).trans q4 |>.mono (show w.heap.size ≤ wc.heap.size by omega))).setCell (p := ⟨w.heap.size, 0, none⟩) (Nat.le_refl _) _).setCell (p := ⟨w.heap.size, 1, none⟩) (Nat.le_refl _) _
    · have hb : (er != 0) = true := by simp [he]
      obtain ⟨h1, h2⟩ := HZ.out he
      subst h1 h2
      have HBW := Lib.hid (below_up HB.out HBc.out)
      clear he HZ HO CP
      go_wp2_with fail
      refine bodyPost_ret (v := .tuple #[.agg #[.slice none 0 0, .slice none 0 0], .int .i64 er]) (by simp [results, Tryz.results73, go_sem, z0, z1]) rfl ?_
      exact ⟨none, ⟨0, Nat.le_refl _, fun _ => rfl⟩, none, ⟨0, Nat.le_refl _, fun _ => rfl⟩, rfl, .inl rfl, .inl rfl, (HBW.out.setCell (p := ⟨w.heap.size, 0, none⟩) (Nat.le_refl _) _).setCell (p := ⟨w.heap.size, 1, none⟩) (Nat.le_refl _) _, fun A hA => by cases hA⟩

set_option maxRecDepth 100000 in
set_option maxHeartbeats 800000 in
theorem of_one (A : Addr) (x : List ByteArray) (w : World) (hn : x.length ≤ 1099511627776) (hs : ∀ c ∈ x, c.size ≤ 281474976710656) (hsum : sumT (allT x []) ≤ 1152921504606846976) (hR : RowsAt w (some A) [x]) :
    Calls Tryz.prog 73 #[.slice (some A) 1 1] w (OfPost [x] w) := by
  obtain ⟨W, HW⟩ : ∃ W, Hid (W = w.alloc (.cells #[.slice none 0 0, .slice none 0 0] 25)) := ⟨_, Lib.hid rfl⟩
  have hB : Below w.heap.size w W := by rw [HW.out]; exact one_below _ _
  have hN : W.heap[w.heap.size]? = some (.cells #[.slice none 0 0, .slice none 0 0] 25 (0, 0)) := by rw [HW.out]; exact World.alloc_heap_new w _
  have hRW := hR.kept hB
  obtain ⟨xo, xc, hx0, hxs⟩ : ∃ xo xc, W.cell? A = some (.slice xo x.length xc) ∧ StrRow W xo x := by
    rcases hRW with h | ⟨A', hA, hb, hc⟩
    · cases h
    cases hA
    obtain ⟨ro, c, h1, h2⟩ := hc 0 x rfl
    rw [add0] at h1
    exact ⟨ro, c, h1, h2⟩
  have hAb : A.block < w.heap.size := by
    rcases hR with h | ⟨A', hA, hb, hc⟩
    · cases h
    cases hA; exact hb
  have htt : RowsAt W (some A) ([] : List (List ByteArray)) := .inl rfl
  have hn2 : ([] : List (List ByteArray)).length ≤ 1099511627776 := by simp
  have hs2 : ∀ r ∈ ([] : List (List ByteArray)), r.length ≤ 1099511627776 ∧ ∀ c ∈ r, c.size ≤ 281474976710656 := fun r hr => by cases hr
  have C := Lib.hid (check_any xo xc x (some A) 0 [] W.drew hn hn2 (fun r hr => (hs2 r hr).1) hxs htt (fun c hc => by have := hs c hc; unfold maxLen; omega) hsum)
  have CP := Lib.hid (fun W' (h : Below W.heap.size W W') => put_any xo xc x (some A) 0 [] W' hn hs (hxs.kept h) hn2 hs2 (htt.kept h))
  simp only [List.length_nil] at C CP
  clear hR hRW htt hs hs2 hsum hxs
  have HN := Lib.hid hN
  have HB := Lib.hid hB
  clear hN hB
  have E0 := Lib.hid (show ofErr (x :: []) = checkI x [] from rfl)
  obtain ⟨er, HE⟩ : ∃ er, Hid (er = checkI x []) := ⟨_, Lib.hid rfl⟩
  rw [← HE.out] at C E0
  have HZ : Hid (¬ er = 0 → ofHead (x :: []) = [] ∧ ofRows (x :: []) = []) := Lib.hid (fun h => by rw [HE.out] at h; simp [ofHead, ofRows, h])
  have HO : Hid (er = 0 → ofHead (x :: []) = x ∧ ofRows (x :: []) = []) := Lib.hid (fun h => by rw [HE.out] at h; simp [ofHead, ofRows, h])
  unfold OfPost
  rw [E0.out]
  generalize ofHead (x :: []) = oh at HZ HO ⊢
  generalize ofRows (x :: []) = orr at HZ HO ⊢
  clear HE E0
  go_enter Tryz.func73, Tryz.ntmps73
  go_wp2_with fail
  rw [← HW.out]
  go_upto_region 3 with fail
  go_cut [4] from 9 to 15 (fun e wc => e = .int .i64 er ∧ Hid (Below W.heap.size W wc))
  case first =>
    go_region_with (go_at_call 17; (with_reducible refine C.out.mono ?_); rintro e w2 ⟨rfl, b2⟩; have B2 := Lib.hid ((Below.drew (Below.refl _ W)).trans b2); clear b2)
    all_goals (go_wp2_with fail; go_meet)
    all_goals exact ⟨rfl, B2⟩
  case rest =>
    obtain ⟨rfl, HBc⟩ := hcut
    rename World => wc
    have hz := (HBc.out.block _ (lt_of_heap HN.out)).trans HN.out
    have z0 : wc.cell? ⟨w.heap.size, 0, none⟩ = some (.slice none 0 0) := (Lib.cell_of_heap hz 0).trans rfl
    have z1 : wc.cell? ⟨w.heap.size, 1, none⟩ = some (.slice none 0 0) := (Lib.cell_of_heap hz 1).trans rfl
    have f0 : wc.frozen? ⟨w.heap.size, 0, none⟩ = false := Lib.frozen_of_heap hz 0
    have f1 : wc.frozen? ⟨w.heap.size, 1, none⟩ = false := Lib.frozen_of_heap hz 1
    have lz := lt_of_heap hz
    have HZz := Lib.hid hz
    clear C hz
    by_cases he : er = 0
    · have hb : (er != 0) = false := by simp [he]
      obtain ⟨h1, h2⟩ := HO.out he
      subst h1 h2
      have HEr := Lib.hid he
      clear he HZ HO
      have hxw := (HBc.out.cell (p := A) (by have := HB.out.size; omega)).trans hx0
      have PP := Lib.hid (CP.out wc.drew (Below.drew HBc.out))
      clear CP
      go_wp2_with fail
      go_region_with (go_at_call 103; (with_reducible refine PP.out.mono ?_); rintro e w2 ⟨g, h, rfl, hH, hR, ⟨vs, hv⟩, b2, hg⟩; have HQ := Lib.hid (And.intro hH (And.intro hR (And.intro (hv.lt h rfl).1 b2))); have k2 := (b2.block w.heap.size lz).trans HZz.out; have k0 : w2.cell? ⟨w.heap.size, 0, none⟩ = some (.slice none 0 0) := (Lib.cell_of_heap k2 0).trans rfl; have k1 : w2.cell? ⟨w.heap.size, 1, none⟩ = some (.slice none 0 0) := (Lib.cell_of_heap k2 1).trans rfl; have g0 : w2.frozen? ⟨w.heap.size, 0, none⟩ = false := Lib.frozen_of_heap k2 0; have g1 : w2.frozen? ⟨w.heap.size, 1, none⟩ = false := Lib.frozen_of_heap k2 1; have HK2 := Lib.hid k2; clear hH hR hv b2 hg k2)
      all_goals (go_wp2_with fail)
      all_goals
        obtain ⟨q1, q2, q3, q4⟩ := HQ.out
        refine bodyPost_ret (v := .tuple #[.agg #[.slice (some ⟨g, 0, none⟩) oh.length oh.length, .slice (some ⟨h, 0, none⟩) 0 0], .int .i64 er]) (by simp [results, Tryz.results73, go_sem, k0, k1, HEr.out]) rfl ?_
        have hk : ∀ u v k, k ≠ w.heap.size → ((w2.setCell ⟨w.heap.size, 0, none⟩ u).setCell ⟨w.heap.size, 1, none⟩ v).heap[k]? = w2.heap[k]? := fun u v k hk => (heap_setCell_other _ ⟨w.heap.size, 1, none⟩ k v hk).trans (heap_setCell_other _ ⟨w.heap.size, 0, none⟩ k u hk)
        have hno : ∀ (j : Nat) s, (#[Value.slice none 0 0, Value.slice none 0 0] : Array Value)[j]? ≠ some (.string s) := fun j s e => by
          match j, e with
          | 0, e => simp at e
          | 1, e => simp at e
        refine ⟨some ⟨g, 0, none⟩, ⟨_, Nat.le_refl _, fun e => by cases e⟩, some ⟨h, 0, none⟩, ⟨_, Nat.le_refl _, fun e => by cases e⟩, rfl, str_turn HK2.out hno (by simp) (hk _ _) q1, rows_turn HK2.out hno (by simp) (hk _ _) ?_ q2, ?_, fun A hA => by cases hA; have : w.heap.size < wc.heap.size := lz; have q3' : wc.heap.size ≤ h := q3; show w.heap.size ≤ h; omega⟩
        · have : w.heap.size < wc.heap.size := lz
          show h ≠ w.heap.size
          have q3' : wc.heap.size ≤ h := q3
          omega
        · exact (((below_up HB.out HBc.out).trans ((Below.drew (Below.refl _ wc)).trans q4 |>.mono (show w.heap.size ≤ wc.heap.size by omega))).setCell (p := ⟨w.heap.size, 0, none⟩) (Nat.le_refl _) _).setCell (p := ⟨w.heap.size, 1, none⟩) (Nat.le_refl _) _
    · have hb : (er != 0) = true := by simp [he]
      obtain ⟨h1, h2⟩ := HZ.out he
      subst h1 h2
      have HBW := Lib.hid (below_up HB.out HBc.out)
      clear he HZ HO CP
      go_wp2_with fail
      refine bodyPost_ret (v := .tuple #[.agg #[.slice none 0 0, .slice none 0 0], .int .i64 er]) (by simp [results, Tryz.results73, go_sem, z0, z1]) rfl ?_
      exact ⟨none, ⟨0, Nat.le_refl _, fun _ => rfl⟩, none, ⟨0, Nat.le_refl _, fun _ => rfl⟩, rfl, .inl rfl, .inl rfl, (HBW.out.setCell (p := ⟨w.heap.size, 0, none⟩) (Nat.le_refl _) _).setCell (p := ⟨w.heap.size, 1, none⟩) (Nat.le_refl _) _, fun A hA => by cases hA⟩

end Go.Proofs.YtigijgcldgbokaaGreat
