/-
  What the program answers for a field of a text.
  Conditions: the text is at most 2^40 bytes long (the statements ask about far shorter ones).
-/
import Derived.WalkKit
import Derived.WalkMore
import Derived.RegionTactic
import Derived.ChangeAlike
import Derived.BigQuiet
import Derived.Deep.QuietTactic
import Derived.Lib.QuietBelow
import Derived.Lib.Hide
import Derived.Test.YtacclgfpmkhodaaProg
import Derived.Test.YtacclgfpmkhodaaLexFind
namespace Go.Proofs.Ytacclgfpmkhodaa
open Go.RowKit Go.Shelf

theorem below_up {a b c : World} (h : Below a.heap.size a b) (k : Below b.heap.size b c) : Below a.heap.size a c := h.trans (k.mono h.size)

def toldOf (s : ByteArray) (d : Int) (i k : Nat) : Int × Int × Int × Bool :=
  match i with
  | 0 => (0, 3, 0, decide ((s.size : Int) ≤ (k : Int)))
  | 1 => (1, 1, 0, if h : k < s.size then ((s[k].toNat : Int) == d) else false)
  | 2 => ((brk s.data.toList k : Int), 2, 0, decide (0 < (brk s.data.toList k : Int)))
  | 3 => (0, 0, 3, if h : k < s.size then ((s[k].toNat : Int) == 34) else false)
  | _ => (0, 0, 6, if h : k < s.size then ((s[k].toNat : Int) == 13) else false)
def fnOf : Nat → FuncId
  | 0 => 59
  | 1 => 60
  | 2 => 61
  | 3 => 63
  | _ => 64
def capsOf (Bs Bd Bf : Nat) : Nat → Array Value
  | 0 => #[.pointer (some ⟨Bs, 0, none⟩)]
  | 1 => #[.pointer (some ⟨Bs, 0, none⟩), .pointer (some ⟨Bd, 0, none⟩)]
  | 2 => #[.pointer (some ⟨Bs, 0, none⟩)]
  | _ => #[.pointer (some ⟨Bf, 0, none⟩)]
def fvOf (Bs Bd Bf : Nat) (i : Nat) : Value := .func (.func (fnOf i)) #[] (capsOf Bs Bd Bf i)

theorem fn_enters (i : Nat) : ∀ args w, (callFunc (fnOf i) args).run Try.prog w = .ok (.enter (fnOf i) args) w := by
  match i with
  | 0 => exact enters_of Try.func59 (by kernel_rfl) rfl
  | 1 => exact enters_of Try.func60 (by kernel_rfl) rfl
  | 2 => exact enters_of Try.func61 (by kernel_rfl) rfl
  | 3 => exact enters_of Try.func63 (by kernel_rfl) rfl
  | _ + 4 => exact enters_of Try.func64 (by kernel_rfl) rfl

/-- each test at any later world, where those ahead of it said no -/
theorem tests_hold (s : ByteArray) (d : Int) (Bs Bd Bf : Nat) (n : Nat) (w : World) (hs : s.size ≤ 1099511627776) (hBs : Bs < w.heap.size) (hBd : Bd < w.heap.size) (hBf : Bf < w.heap.size ∨ n ≤ 3)
    (hc : w.cell? ⟨Bs, 0, none⟩ = some (.string s)) (hd : w.cell? ⟨Bd, 0, none⟩ = some (.int .u8 d)) (hf : w.cell? ⟨Bf, 0, none⟩ = some (.string s) ∨ n ≤ 3) (a b : Nat) (hb : b ≤ s.size) :
    ∀ i k W, i < n → a ≤ k → k ≤ b → (∀ j, j < i → (toldOf s d j k).2.2.2 = false) → Below w.heap.size w W → Calls Try.prog (fnOf i) (#[.int .i64 (k : Int)] ++ capsOf Bs Bd Bf i) W fun e w' => e = .returned (endV (toldOf s d i k).1 (toldOf s d i k).2.1 (toldOf s d i k).2.2.1 (toldOf s d i k).2.2.2) ∧ Below W.heap.size W w' := by
  intro i k W hi _ hk hj hB
  have hc' := (hB.cell (p := ⟨Bs, 0, none⟩) hBs).trans hc
  have hd' := (hB.cell (p := ⟨Bd, 0, none⟩) hBd).trans hd
  have lBs := Nat.lt_of_lt_of_le hBs hB.size
  have lBd := Nat.lt_of_lt_of_le hBd hB.size
  have hlt : 0 < i → k < s.size := fun h => by have := hj 0 h; simp [toldOf] at this; omega
  match i, hi, hj, hlt with
  | 0, _, _, _ => exact test1 k Bs s W lBs hc'
  | 1, _, _, hlt =>
    have hk' := hlt (by decide)
    simp only [toldOf, dif_pos hk']
    exact test2 k d Bs Bd s W lBs hc' lBd hd' hk'
  | 2, _, _, _ => exact test3 k Bs s W lBs hc' hs (by omega)
  | 3, hi, _, hlt =>
    have hk' := hlt (by decide)
    have hBf' : Bf < w.heap.size := hBf.resolve_right (by omega)
    have hf' := (hB.cell (p := ⟨Bf, 0, none⟩) hBf').trans (hf.resolve_right (by omega))
    simp only [toldOf, dif_pos hk']
    exact test4 k Bf s W (Nat.lt_of_lt_of_le hBf' hB.size) hf' hk'
  | i + 4, hi, _, hlt =>
    have hk' := hlt (by omega)
    have hBf' : Bf < w.heap.size := hBf.resolve_right (by omega)
    have hf' := (hB.cell (p := ⟨Bf, 0, none⟩) hBf').trans (hf.resolve_right (by omega))
    simp only [toldOf, dif_pos hk']
    exact test5 k Bf s W (Nat.lt_of_lt_of_le hBf' hB.size) hf' hk'

theorem told_end (s : ByteArray) (d : Int) (k : Nat) (i : Nat) (hi : i < 3) (hj : ∀ j, j < i → (toldOf s d j k).2.2.2 = false) (ht : (toldOf s d i k).2.2.2 = true) :
    toldOf s d i k = (((endAt s.data.toList d k).2 : Int), ((endAt s.data.toList d k).1 : Int), 0, true) ∧ (endAt s.data.toList d k).1 ≠ 0 := by
  match i, hi with
  | 0, _ =>
    have h : s.size ≤ k := by simp [toldOf] at ht; omega
    rw [endAt_out s d k h]
    refine ⟨?_, by decide⟩
    have : (toldOf s d 0 k).2.2.2 = true := ht
    simp only [toldOf] at this ⊢
    rw [this]; rfl
  | 1, _ =>
    have h0 := hj 0 (by decide)
    have h : k < s.size := by simp [toldOf] at h0; omega
    simp only [toldOf, dif_pos h] at ht ⊢
    rw [endAt_delim s d k h ht, ht]
    exact ⟨rfl, by decide⟩
  | 2, _ =>
    have h0 := hj 0 (by decide)
    have h : k < s.size := by simp [toldOf] at h0; omega
    have h1 := hj 1 (by decide)
    simp only [toldOf, dif_pos h] at h1 ht ⊢
    have hb : brk s.data.toList k ≠ 0 := by simp at ht; omega
    rw [endAt_brk s d k h h1 hb, ht]
    exact ⟨rfl, by simp⟩
theorem told_none (s : ByteArray) (d : Int) (k : Nat) (hj : ∀ j, j < 3 → (toldOf s d j k).2.2.2 = false) : (endAt s.data.toList d k).1 = 0 ∧ k < s.size := by
  have h0 := hj 0 (by decide)
  have h1 := hj 1 (by decide)
  have h2 := hj 2 (by decide)
  have h : k < s.size := by simp [toldOf] at h0; omega
  simp only [toldOf, dif_pos h] at h1 h2
  rw [endAt_no s d k h h1 (by simp at h2; exact h2)]
  exact ⟨rfl, h⟩
theorem eq_of_byte (c k : UInt8) (h : ((c.toNat : Int) == (k.toNat : Int)) = true) : c = k := by
  have := eq_of_beq h; exact UInt8.toNat_inj.1 (by omega)
theorem told_fault (s : ByteArray) (d : Int) (k : Nat) (i : Nat) (hi : i < 5) (hi3 : 3 ≤ i) (hj : ∀ j, j < i → (toldOf s d j k).2.2.2 = false) (ht : (toldOf s d i k).2.2.2 = true) :
    toldOf s d i k = (0, 0, (faultAt s.data.toList k : Int), true) ∧ faultAt s.data.toList k ≠ 0 ∧ (endAt s.data.toList d k).1 = 0 := by
  obtain ⟨he, h⟩ := told_none s d k (fun j h => hj j (by omega))
  match i, hi, hi3 with
  | 3, _, _ =>
    simp only [toldOf, dif_pos h] at ht ⊢
    rw [fault_quote s k h (eq_of_byte _ 34 ht), ht]
    exact ⟨rfl, by decide, he⟩
  | 4, _, _ =>
    simp only [toldOf, dif_pos h] at ht ⊢
    rw [fault_return s k h (eq_of_byte _ 13 ht), ht]
    exact ⟨rfl, by decide, he⟩
theorem told_no (s : ByteArray) (d : Int) (k : Nat) (hj : ∀ j, j < 5 → (toldOf s d j k).2.2.2 = false) : stops s.data.toList d k = false := by
  obtain ⟨he, h⟩ := told_none s d k (fun j h => hj j (by omega))
  have h3 := hj 3 (by decide)
  have h4 := hj 4 (by decide)
  simp only [toldOf, dif_pos h] at h3 h4
  have hq : s[k] ≠ 34 := fun e => by rw [(byte_yes _ e).1] at h3; exact absurd h3 (by decide)
  have hr : s[k] ≠ 13 := fun e => by rw [b13y _ e] at h4; exact absurd h4 (by decide)
  simp [stops, he, fault_no s k h hq hr]

set_option maxHeartbeats 1000000 in
theorem ends_any (s : ByteArray) (d : Int) (w : World) :
    Calls Try.prog 52 #[.string s, .int .u8 d] w fun e w' => e = .returned (.slice (some ⟨w.heap.size + 2, 0, none⟩) 3 3) ∧
      w' = ((w.alloc (.cells #[.string s] 9)).alloc (.cells #[.int .u8 d] 5)).alloc (.cells #[fvOf w.heap.size (w.heap.size + 1) 0 0, fvOf w.heap.size (w.heap.size + 1) 0 1, fvOf w.heap.size (w.heap.size + 1) 0 2] 94) := by
  go_enter Try.func52, Try.ntmps52
  go_wp2_with fail
  go_ret
  exact ⟨rfl, rfl⟩
set_option maxHeartbeats 1000000 in
theorem faults_any (s : ByteArray) (w : World) :
    Calls Try.prog 53 #[.string s] w fun e w' => e = .returned (.slice (some ⟨w.heap.size + 1, 0, none⟩) 2 2) ∧
      w' = (w.alloc (.cells #[.string s] 9)).alloc (.cells #[fvOf 0 0 w.heap.size 3, fvOf 0 0 w.heap.size 4] 94) := by
  go_enter Try.func53, Try.ntmps53
  go_wp2_with fail
  go_ret
  exact ⟨rfl, rfl⟩

theorem box_new (w : World) (o : Obj) (k : Nat) (h : k = w.heap.size) : (w.alloc o).heap[k]? = some o := by subst h; exact World.alloc_heap_new w o
theorem ends_world (s : ByteArray) (d : Int) (w : World) (fs : Array Value) (T : TypeId) : ∃ W, W = ((w.alloc (.cells #[.string s] 9)).alloc (.cells #[.int .u8 d] 5)).alloc (.cells fs T) ∧ W.heap.size = w.heap.size + 3 ∧
    W.heap[w.heap.size]? = some (.cells #[.string s] 9 (0, 0)) ∧ W.heap[w.heap.size + 1]? = some (.cells #[.int .u8 d] 5 (0, 0)) ∧ W.heap[w.heap.size + 2]? = some (.cells fs T (0, 0)) ∧ Below w.heap.size w W := by
  refine ⟨_, rfl, by simp, ?_, ?_, ?_, ?_⟩
  · rw [Below.heap_alloc _ _ _ (by simp; omega), Below.heap_alloc _ _ _ (by simp)]; exact box_new _ _ _ rfl
  · rw [Below.heap_alloc _ _ _ (by simp)]; exact box_new _ _ _ (by simp)
  · exact box_new _ _ _ (by simp)
  · exact (((Below.refl _ w).alloc (Nat.le_refl _) _).alloc (by simp) _).alloc (by simp; omega) _
theorem cell_row {W : World} {g : Nat} {cs : Array Value} {T : TypeId} {fr : Nat × Nat} (h : W.heap[g]? = some (.cells cs T fr)) (j : Nat) : W.cell? ((⟨g, 0, none⟩ : Addr).add j) = cs[j]? := by
  have e : (⟨g, 0, none⟩ : Addr).add j = ⟨g, j, none⟩ := by unfold Addr.add; split <;> simp_all
  rw [e]; exact Lib.cell_of_heap h j
theorem lt_of_heap {W : World} {g : Nat} {o : Obj} (h : W.heap[g]? = some o) : g < W.heap.size := by
  rcases Nat.lt_or_ge g W.heap.size with h' | h'
  · exact h'
  · simp [Array.getElem?_eq_none h'] at h

/-- the search over what may end a field, at one place -/
theorem find_ends (s : ByteArray) (d : Int) (k : Nat) (w : World) (hs : s.size ≤ 1099511627776) (hk : k ≤ s.size) :
    Calls Try.prog 51 #[.slice (some ⟨w.heap.size + 2, 0, none⟩) 3 3, .int .i64 k, .int .i64 k] (((w.alloc (.cells #[.string s] 9)).alloc (.cells #[.int .u8 d] 5)).alloc (.cells #[fvOf w.heap.size (w.heap.size + 1) 0 0, fvOf w.heap.size (w.heap.size + 1) 0 1, fvOf w.heap.size (w.heap.size + 1) 0 2] 94)) fun e w' =>
      (e = .returned (if (endAt s.data.toList d k).1 = 0 then foundV 0 (0, 0, 0, false) else foundV k (((endAt s.data.toList d k).2 : Int), ((endAt s.data.toList d k).1 : Int), 0, true))) ∧ Below w.heap.size w w' := by
  obtain ⟨W, hW, hsz, h0, h1, h2, hB⟩ := ends_world s d w #[fvOf w.heap.size (w.heap.size + 1) 0 0, fvOf w.heap.size (w.heap.size + 1) 0 1, fvOf w.heap.size (w.heap.size + 1) 0 2] 94
  rw [← hW]
  refine (find_any 3 fnOf (capsOf w.heap.size (w.heap.size + 1) 0) (toldOf s d) ⟨w.heap.size + 2, 0, none⟩ 3 k k W (by decide) (by omega) (by rw [hsz]; exact Nat.lt_succ_self _) (Lib.hid fun i _ => fn_enters i) (Lib.hid fun i hi => ?_) (Lib.hid ?_)).mono ?_
  · rw [cell_row h2]
    match i, hi with
    | 0, _ => rfl
    | 1, _ => rfl
    | 2, _ => rfl
  · exact tests_hold s d _ _ 0 3 W hs (by omega) (by omega) (.inr (Nat.le_refl _)) ((Lib.cell_of_heap h0 0).trans rfl) ((Lib.cell_of_heap h1 0).trans rfl) (.inr (Nat.le_refl _)) k k hk
  · rintro e w' ⟨hr, hB'⟩
    refine ⟨?_, hB.trans (hB'.mono (by omega))⟩
    rcases hr with ⟨k', i, hk1, hk2, hi, _, hj, ht, rfl⟩ | ⟨hno, rfl⟩
    · obtain rfl : k' = k := by omega
      obtain ⟨e1, e2⟩ := told_end s d k' i hi hj ht
      rw [if_neg e2, e1]
    · rw [if_pos (told_none s d k (hno k (Nat.le_refl _) (Nat.le_refl _))).1]

set_option maxHeartbeats 4000000 in
theorem quotedField_any (s : ByteArray) (d : Int) (k : Nat) (w : World) (hs : s.size ≤ 1099511627776) (hk : k ≤ s.size) :
    Calls Try.prog 44 #[.string s, .int .i64 k, .int .u8 d] w fun e w' => e = .returned (fieldV (quotedOut s.data.toList d k)) ∧ Below w.heap.size w w' := by
  have A := Lib.hid (fun w => get_any (s.extract k s.size) w (by simp; omega))
  rw [ba_tail] at A
  have HB := Lib.hid (fun t n h => quoted_behind s.data.toList d k n t h)
  have HO := Lib.hid (fun t n h => quoted_ok s.data.toList d k n t h)
  have HE := Lib.hid (quoted_err s.data.toList d k)
  have HL := Lib.hid (fun t n h => got_le s.data.toList k n t h (by rw [ba_size]; exact hk))
  generalize getL (s.data.toList.drop k) = g at A HB HO HE HL
  obtain ⟨t, n, er⟩ := g
  have hk' : (k : Int) ≤ (s.size : Int) := by omega
  by_cases he : er = 0
  · subst he
    have hn := HL.out t n rfl
    rw [ba_size] at hn
    have E := Lib.hid (fun w => ends_any s d w)
    have C := Lib.hid (fun w => find_ends s d (k + n) w hs hn)
    have h2 := endAt_le2 s.data.toList d (k + n)
    by_cases h0 : (endAt s.data.toList d (k + n)).1 = 0
    · have HP := Lib.hid (HB.out t n rfl h0)
      clear HB HO HE HL
      simp only [if_pos h0] at C
      clear h0
      clear h2
      go_enter Try.func44, Try.ntmps44
      go_wp2_with fail
      refine (A.out _).mono ?_; rintro e w1 ⟨rfl, b1⟩
      simp only [gotV]
      go_wp2_with fail
      refine (E.out _).mono ?_; rintro e w2 ⟨rfl, rfl⟩
      go_wp2_with fail
      refine (C.out _).mono ?_; rintro e w3 ⟨rfl, b3⟩
      simp only [foundV]
      go_wp2_with fail
      refine bodyPost_ret (results_tmp4 rfl _ _ _) rfl ?_
      exact ⟨ret_field (by rw [HP.out]) (by rw [HP.out]; simp) (by rw [HP.out]; rfl) (by rw [HP.out]; rfl), (below_up b1 b3).alloc (below_up b1 b3).size _⟩
    · have HP := Lib.hid (HO.out t n rfl h0)
      clear HB HO HE HL
      simp only [if_neg h0] at C
      generalize endAt s.data.toList d (k + n) = p at C HP h0 h2
      obtain ⟨x, y⟩ := p
      simp only at C HP h0 h2
      go_enter Try.func44, Try.ntmps44
      go_wp2_with fail
      refine (A.out _).mono ?_; rintro e w1 ⟨rfl, b1⟩
      simp only [gotV]
      go_wp2_with fail
      refine (E.out _).mono ?_; rintro e w2 ⟨rfl, rfl⟩
      go_wp2_with fail
      refine (C.out _).mono ?_; rintro e w3 ⟨rfl, b3⟩
      simp only [foundV]
      go_wp2_with fail
      go_region
      all_goals (go_wp2_with fail)
      all_goals refine bodyPost_ret (results_tmp4 rfl _ _ _) rfl ?_
      all_goals exact ⟨ret_field (by rw [HP.out]) (by rw [HP.out]; simp) (by rw [HP.out]) (by rw [HP.out]; rfl), ((below_up b1 b3).alloc (below_up b1 b3).size _).drew⟩
  · have HP := Lib.hid (HE.out he)
    simp only at HP
    have hx : ((er : Int) != 0) = true := by simpa using he
    clear HB HO HE HL
    go_enter Try.func44, Try.ntmps44
    go_wp2_with fail
    refine (A.out _).mono ?_; rintro e w1 ⟨rfl, b1⟩
    simp only [gotV]
    go_wp2_with fail
    refine bodyPost_ret (results_tmp4 rfl _ _ _) rfl ?_
    exact ⟨ret_field (by rw [HP.out]) (by rw [HP.out]) (by rw [HP.out]; rfl) (by rw [HP.out]), b1⟩

theorem faults_world (s : ByteArray) (w : World) (fs : Array Value) (T : TypeId) : ∃ W, W = (w.alloc (.cells #[.string s] 9)).alloc (.cells fs T) ∧ W.heap.size = w.heap.size + 2 ∧
    W.heap[w.heap.size]? = some (.cells #[.string s] 9 (0, 0)) ∧ W.heap[w.heap.size + 1]? = some (.cells fs T (0, 0)) ∧ Below w.heap.size w W := by
  refine ⟨_, rfl, by simp, ?_, ?_, ?_⟩
  · rw [Below.heap_alloc _ _ _ (by simp)]; exact box_new _ _ _ rfl
  · exact box_new _ _ _ (by simp)
  · exact ((Below.refl _ w).alloc (Nat.le_refl _) _).alloc (by simp) _
/-- the search over all tests, from a place on -/
theorem find_all (s : ByteArray) (d : Int) (k : Nat) (g cap Bs Bd Bf : Nat) (w : World) (hs : s.size ≤ 1099511627776) (hk : k ≤ s.size) (hg : g < w.heap.size)
    (hcell : ∀ i, i < 5 → w.cell? ((⟨g, 0, none⟩ : Addr).add i) = some (fvOf Bs Bd Bf i))
    (h0 : w.heap[Bs]? = some (.cells #[.string s] 9 (0, 0))) (h1 : w.heap[Bd]? = some (.cells #[.int .u8 d] 5 (0, 0))) (h2 : w.heap[Bf]? = some (.cells #[.string s] 9 (0, 0))) :
    Calls Try.prog 51 #[.slice (some ⟨g, 0, none⟩) 5 cap, .int .i64 k, .int .i64 s.size] w fun e w' =>
      (∃ j : Nat, k ≤ j ∧ j ≤ s.size ∧ (∀ k', k ≤ k' → k' < j → stops s.data.toList d k' = false) ∧
        (((endAt s.data.toList d j).1 ≠ 0 ∧ e = .returned (foundV j (((endAt s.data.toList d j).2 : Int), ((endAt s.data.toList d j).1 : Int), 0, true))) ∨
         ((endAt s.data.toList d j).1 = 0 ∧ faultAt s.data.toList j ≠ 0 ∧ e = .returned (foundV j (0, 0, (faultAt s.data.toList j : Int), true))))) ∧ Below w.heap.size w w' := by
  refine (find_any 5 fnOf (capsOf Bs Bd Bf) (toldOf s d) ⟨g, 0, none⟩ cap k s.size w (by decide) hs hg (Lib.hid fun i _ => fn_enters i) (Lib.hid hcell) (Lib.hid ?_)).mono ?_
  · exact tests_hold s d _ _ _ 5 w hs (lt_of_heap h0) (lt_of_heap h1) (.inl (lt_of_heap h2)) ((Lib.cell_of_heap h0 0).trans rfl) ((Lib.cell_of_heap h1 0).trans rfl) (.inl ((Lib.cell_of_heap h2 0).trans rfl)) k s.size (Nat.le_refl _)
  · rintro e w' ⟨hr, hB'⟩
    refine ⟨?_, hB'⟩
    rcases hr with ⟨j, i, hk1, hk2, hi, hno, hj, ht, rfl⟩ | ⟨hno, rfl⟩
    · refine ⟨j, hk1, hk2, fun k' h3 h4 => told_no s d k' (hno k' h3 h4), ?_⟩
      by_cases h3 : i < 3
      · obtain ⟨e1, e2⟩ := told_end s d j i h3 hj ht
        exact .inl ⟨e2, by rw [e1]⟩
      · obtain ⟨e1, e2, e3⟩ := told_fault s d j i hi (by omega) hj ht
        exact .inr ⟨e3, e2, by rw [e1]⟩
    · have := (told_none s d s.size (fun j h => hno s.size hk (Nat.le_refl _) j (by omega))).2
      omega

set_option maxRecDepth 100000 in
set_option maxHeartbeats 4000000 in
theorem plainField_any (s : ByteArray) (d : Int) (k : Nat) (w : World) (hs : s.size ≤ 1099511627776) (hk : k ≤ s.size) :
    Calls Try.prog 45 #[.string s, .int .i64 k, .int .u8 d] w fun e w' => e = .returned (fieldV (plainOut s.data.toList d k)) ∧ Below w.heap.size w w' := by
  have hinfo : (Try.prog.info? 94).map (fun i => (i.zero, i.size, i.bytes)) = some (some .nilFunc, 1, 8) := by kernel_rfl
  obtain ⟨i0, hi, hz0, hz1, hz2⟩ := info_parts hinfo
  have E := Lib.hid (fun w => ends_any s d w)
  have F := Lib.hid (fun w => faults_any s w)
  have HI := Lib.hid hi
  clear hi hinfo
  go_enter Try.func45, Try.ntmps45
  go_wp2_with fail
  refine (E.out _).mono ?_; rintro e w1 ⟨rfl, hw1⟩
  obtain ⟨W, hW, hsz, h0, h1, h2, hB⟩ := ends_world s d w #[fvOf w.heap.size (w.heap.size + 1) 0 0, fvOf w.heap.size (w.heap.size + 1) 0 1, fvOf w.heap.size (w.heap.size + 1) 0 2] 94
  obtain rfl : w1 = W := hw1.trans hW.symm
  clear hw1 hW
  have HSZ := Lib.hid hsz
  clear hsz
  go_wp2_with fail
  refine (F.out _).mono ?_; rintro e w2 ⟨rfl, hw2⟩
  obtain ⟨W, hW, hsz2, h3, h4, hB2⟩ := faults_world s w1 #[fvOf 0 0 w1.heap.size 3, fvOf 0 0 w1.heap.size 4] 94
  obtain rfl : w2 = W := hw2.trans hW.symm
  clear hw2 hW
  have HSZ2 := Lib.hid hsz2
  clear hsz2
  have g2 : w2.heap[w.heap.size + 2]? = some (.cells #[fvOf w.heap.size (w.heap.size + 1) 0 0, fvOf w.heap.size (w.heap.size + 1) 0 1, fvOf w.heap.size (w.heap.size + 1) 0 2] 94 (0, 0)) := (hB2.block _ (by rw [HSZ.out]; omega)).trans h2
  have g0 := (hB2.block _ (by rw [HSZ.out]; omega)).trans h0
  have g1 := (hB2.block _ (by rw [HSZ.out]; omega)).trans h1
  have own : w2.ownsRow w.heap.size 94 1 (.slice (some ⟨w.heap.size + 2, 0, none⟩) 3 3) 3 [fvOf w.heap.size (w.heap.size + 1) w1.heap.size 0, fvOf w.heap.size (w.heap.size + 1) w1.heap.size 1, fvOf w.heap.size (w.heap.size + 1) w1.heap.size 2] :=
    ⟨rfl, .inr ⟨_, _, _, rfl, Nat.le_add_right _ _, g2, Nat.le_refl _, by decide, rfl, rfl⟩⟩
  have H0 := Lib.hid g0; have H1 := Lib.hid g1; have H2 := Lib.hid g2; have H3 := Lib.hid h3; have H4 := Lib.hid h4
  have HB1 := Lib.hid hB; have HB2 := Lib.hid hB2; have OWN := Lib.hid own
  clear g0 g1 g2 h0 h1 h2 h3 h4 hB hB2 own
  go_wp2_with (at_builtin; refine wpList_append_own _ rfl _ _ 88 rfl w.heap.size 94 i0 .nilFunc 1 8 Try.underlying88 HI.out hz0 hz1 hz2 rfl (by decide) _ _ _ rfl OWN.out ⟨w1.heap.size + 1, 0, none⟩ 2 2 [fvOf w.heap.size (w.heap.size + 1) w1.heap.size 3, fvOf w.heap.size (w.heap.size + 1) w1.heap.size 4] rfl rfl ?c1 ?c2 ?c3 ?c4 ?c5 ?_)
  case c1 =>
    intro j u hj
    rw [cell_row H4.out]
    match j, hj with
    | 0, hj => simp at hj; subst hj; rfl
    | 1, hj => simp at hj; subst hj; rfl
  case c2 => intro u hu; simp at hu; rcases hu with rfl | rfl <;> rfl
  case c3 => unfold maxLen; decide
  case c4 => decide
  case c5 => rw [HSZ2.out, HSZ.out]; omega
  intro v' w3 hown' hgrow _
  obtain ⟨g, cap, rfl⟩ : ∃ g cap, v' = .slice (some ⟨g, 0, none⟩) 5 cap := by
    rcases hown'.2 with ⟨_, h0⟩ | ⟨g, cap, cur, hv, _⟩
    · omega
    · exact ⟨g, cap, hv⟩
  have hlt := (hown'.lt g rfl).2
  have hcells : ∀ i, i < 5 → w3.cell? ((⟨g, 0, none⟩ : Addr).add i) = some (fvOf w.heap.size (w.heap.size + 1) w1.heap.size i) := fun i hi => hown'.cells rfl i _ (by
    match i, hi with
    | 0, _ => rfl
    | 1, _ => rfl
    | 2, _ => rfl
    | 3, _ => rfl
    | 4, _ => rfl)
  have k0 := (hgrow.block w.heap.size (by rw [HSZ2.out, HSZ.out]; omega) (by simp [Value.ownBlock])).trans H0.out
  have k1 := (hgrow.block (w.heap.size + 1) (by rw [HSZ2.out, HSZ.out]; omega) (by simp [Value.ownBlock])).trans H1.out
  have k3 := (hgrow.block w1.heap.size (by rw [HSZ2.out]; omega) (by simp [Value.ownBlock, HSZ.out])).trans H3.out
  have hB3 : Below w.heap.size w w3 := (HB1.out.trans (HB2.out.mono HB1.out.size)).grown hgrow (by rw [HSZ2.out, HSZ.out]; omega) (fun k hk => (OWN.out.lt k hk).1)
  have C := Lib.hid (find_all s d k g cap _ _ _ w3 hs hk hlt hcells k0 k1 k3)
  have HB3 := Lib.hid hB3
  clear hcells k0 k1 k3 hlt hown' hgrow hB3 H0 H1 H2 H3 H4 HB1 HB2 OWN HSZ HSZ2 E F HI hz0 hz1 hz2
  go_wp2_with fail
  refine C.out.mono ?_
  clear C
  rintro e w4 ⟨⟨j, hkj, hj, hno, hr⟩, b4⟩
  have B4 := Lib.hid (below_up HB3.out b4)
  clear b4 HB3
  have hkj' : (k : Int) ≤ (j : Int) := by omega
  have hj' : (j : Int) ≤ (s.size : Int) := by omega
  have h2 := endAt_le2 s.data.toList d j
  rcases hr with ⟨h0, rfl⟩ | ⟨h0, hf, rfl⟩
  · have HP := Lib.hid (plain_stop s d k j hkj hj hno h0)
    have HNO := Lib.hid hno
    clear hno
    generalize endAt s.data.toList d j = p at HP h0 h2
    obtain ⟨x, y⟩ := p
    simp only at HP h0 h2
    simp only [foundV]
    have K := Lib.hid (fun w => clone_any (s.extract k j) w (by simp; omega))
    obtain ⟨wz, hwz⟩ : ∃ wz, wz = w4.alloc (.cells #[.int .i64 (y : Int), .int .i64 (x : Int), .int .i64 0] 85) := ⟨_, rfl⟩
    have hc := (box3 (hwz ▸ World.alloc_heap_new w4 _ : wz.heap[w4.heap.size]? = some (.cells #[.int .i64 (y : Int), .int .i64 (x : Int), .int .i64 0] 85 (0, 0)))).1
    have c0 := fun d os => cell_regrown hc.1 d os
    have c1 := fun d os => cell_regrown hc.2.1 d os
    have Bz : Hid (Below w.heap.size w wz) := Lib.hid (by rw [hwz]; exact B4.out.alloc B4.out.size _)
    go_wp2_with fail
    rw [← hwz]
    clear hwz hc
    refine wp_region_quiet_below (by kernel_rfl) (by kernel_rfl) ?_
    repeat (first | go_big_quiet_step (exact Calls.regrown_of (K.out _)) | quiet_step (exact Calls.regrown_of (K.out _)))
    refine wpQuiet_nil ?_
    intro _ hw'
    obtain ⟨⟨dq, osq⟩, hw''⟩ := hw'
    subst hw''
    go_wp2_with fail
    refine bodyPost_ret (results_tmp4 rfl _ _ _) rfl ?_
    exact ⟨ret_field (by rw [HP.out]) (by rw [HP.out]) (by rw [HP.out]) (by rw [HP.out]; rfl), below_up Bz.out (below_regrown wz dq osq)⟩
  · have HP := Lib.hid (plain_fault s d k j hkj hj hno h0 hf)
    have hx : ((faultAt s.data.toList j : Int) != 0) = true := by simpa using hf
    have HNO := Lib.hid hno
    clear hno h0 hf h2
    generalize faultAt s.data.toList j = x at HP hx
    simp only [foundV]
    go_wp2_with fail
    go_region
    all_goals (go_wp2_with fail)
    all_goals refine bodyPost_ret (results_tmp4 rfl _ _ _) rfl ?_
    all_goals exact ⟨ret_field (by rw [HP.out]) (by rw [HP.out]) (by rw [HP.out]; rfl) (by rw [HP.out]), (B4.out.alloc B4.out.size _).drew⟩

set_option maxHeartbeats 2000000 in
theorem field_any (s : ByteArray) (a d : Int) (w : World) (hs : s.size ≤ 1099511627776) (ha : -9223372036854775808 ≤ a) (ha' : a ≤ 9223372036854775807) :
    Calls Try.prog 39 #[.string s, .int .i64 a, .int .u8 d] w fun e w' => e = .returned (fieldV (fieldOut s.data.toList a d)) ∧ Below w.heap.size w w' := by
  by_cases h0 : a < 0
  · have H := Lib.hid (field_place s.data.toList a d (.inl h0))
    go_enter Try.func39, Try.ntmps39
    go_wp2_with fail
    refine bodyPost_ret (results_tmp4 rfl _ _ _) rfl ?_
    exact ⟨ret_field (by rw [H.out]) (by rw [H.out]) (by rw [H.out]; rfl) (by rw [H.out]; rfl), Below.refl _ _⟩
  obtain ⟨k, rfl⟩ : ∃ k : Nat, a = (k : Int) := ⟨a.toNat, by omega⟩
  by_cases h1 : s.size < k
  · have H := Lib.hid (field_place s.data.toList (k : Int) d (.inr (by rw [ba_size]; omega)))
    go_enter Try.func39, Try.ntmps39
    go_wp2_with fail
    refine bodyPost_ret (results_tmp4 rfl _ _ _) rfl ?_
    exact ⟨ret_field (by rw [H.out]) (by rw [H.out]) (by rw [H.out]; rfl) (by rw [H.out]; rfl), Below.refl _ _⟩
  have hk : k ≤ s.size := by omega
  clear h0 h1 ha ha'
  have G := Lib.hid (fun w => good_any d w)
  cases hg : goodI d with
  | false =>
    have H := Lib.hid (field_delim s.data.toList k d (by rw [ba_size]; exact hk) hg)
    rw [hg] at G
    go_enter Try.func39, Try.ntmps39
    go_wp2_with fail
    refine (G.out _).mono ?_; rintro e _ ⟨rfl, rfl⟩
    go_wp2_with fail
    refine bodyPost_ret (results_tmp4 rfl _ _ _) rfl ?_
    exact ⟨ret_field (by rw [H.out]) (by rw [H.out]) (by rw [H.out]; rfl) (by rw [H.out]; rfl), Below.refl _ _⟩
  | true =>
    rw [hg] at G
    by_cases hq : ∃ hk : k < s.size, s[k] = 34
    · obtain ⟨hlt, hq⟩ := hq
      have q1 := (byte_yes _ hq).1
      rw [field_quoted s k d hlt hg hq]
      have A := Lib.hid (fun w => quotedField_any s d k w hs hk)
      generalize quotedOut s.data.toList d k = x at A
      clear hq
      go_enter Try.func39, Try.ntmps39
      go_wp2_with fail
      refine (G.out _).mono ?_; rintro e _ ⟨rfl, rfl⟩
      go_wp2_with fail
      refine (A.out _).mono ?_; rintro e w1 ⟨rfl, b1⟩
      simp only [fieldV]
      go_wp2_with fail
      refine bodyPost_ret (results_tmp4 rfl _ _ _) rfl ?_
      exact ⟨rfl, b1⟩
    · rw [field_plain s k d hk hg (fun h1 h2 => hq ⟨h1, h2⟩)]
      have A := Lib.hid (fun w => plainField_any s d k w hs hk)
      generalize plainOut s.data.toList d k = x at A
      by_cases hlt : k < s.size
      · have q1 := (byte_no _ (fun h => hq ⟨hlt, h⟩ : s[k] ≠ 34)).1
        clear hq
        go_enter Try.func39, Try.ntmps39
        go_wp2_with fail
        refine (G.out _).mono ?_; rintro e _ ⟨rfl, rfl⟩
        go_wp2_with fail
        refine (A.out _).mono ?_; rintro e w1 ⟨rfl, b1⟩
        simp only [fieldV]
        go_wp2_with fail
        refine bodyPost_ret (results_tmp4 rfl _ _ _) rfl ?_
        exact ⟨rfl, b1⟩
      · clear hq
        go_enter Try.func39, Try.ntmps39
        go_wp2_with fail
        refine (G.out _).mono ?_; rintro e _ ⟨rfl, rfl⟩
        go_wp2_with fail
        refine (A.out _).mono ?_; rintro e w1 ⟨rfl, b1⟩
        simp only [fieldV]
        go_wp2_with fail
        refine bodyPost_ret (results_tmp4 rfl _ _ _) rfl ?_
        exact ⟨rfl, b1⟩
end Go.Proofs.Ytacclgfpmkhodaa
