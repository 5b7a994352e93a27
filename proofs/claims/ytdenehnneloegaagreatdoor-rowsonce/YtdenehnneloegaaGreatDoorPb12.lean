/-
  Texts of these rows' proofs, laid one behind the other: QMath, QCount, QPlain, QShelf, QQuoted, QRef.
  Conditions: those of each theorem.
-/
import Derived.RangeFuncNested
import Derived.RangeFuncBound
import Derived.RangeFuncCalls
import Derived.RangeFuncLeaves
import Derived.RangeFuncFrom
import Derived.Shelf.Abstract
import Derived.Shelf.RegionOpen
import Derived.WalkKit
import Derived.OwnWalkIn
import Derived.TacticsInMore
import Derived.LoopNIn
import Derived.LoopIn
import Derived.Lib.Hide
import Derived.Test.YtdenehnneloegaaGreatDoorProg
import Derived.WalkMore
import Derived.Deep.LoopGhost
import Derived.Shelf.Strings.Builder1
import Derived.Shelf.Strings.Builder2
import Derived.Shelf.LaysM
import Derived.Shelf.Strconv.Clone
import Derived.Deep.QuietTactic
import Derived.BigQuiet
namespace Go.Proofs.YtdenehnneloegaaGreatDoor.Q
/-- may the byte stand between fields? -/
def goodI (d : Int) : Bool := !(d == 34 || d == 13 || d == 10)
/-- are no quotes needed? -/
def plainB (l : List UInt8) (d : Int) : Bool := l.all fun c => goodI (c.toNat : Int) && (c.toNat : Int) != d
/-- each quote twice -/
def twice : List UInt8 → List UInt8
  | [] => []
  | c :: r => if c = 34 then 34 :: 34 :: twice r else c :: twice r
def quoted (l : List UInt8) : List UInt8 := 34 :: (twice l ++ [34])
def putL (l : List UInt8) (d : Int) : List UInt8 := if plainB l d = true then l else quoted l
/-- how many quotes there are -/
def cnt (l : List UInt8) : Nat := (l.filter fun c => c == 34).length
/-- what stands up to the last quote, and how many bytes that was written with -/
def scan : List UInt8 → Option (List UInt8 × Nat)
  | [] => none
  | [c] => if c = 34 then some ([], 1) else none
  | c :: c2 :: r =>
    if c = 34 then
      if c2 = 34 then (scan r).map fun x => (34 :: x.1, x.2 + 2) else some ([], 1)
    else (scan (c2 :: r)).map fun x => (c :: x.1, x.2 + 1)
/-- the answer of reading what stands in quotes: text, count, error number -/
def getL : List UInt8 → List UInt8 × Nat × Nat
  | [] => ([], 0, 3)
  | c :: r => if c = 34 then (match scan r with | some x => (x.1, x.2 + 1, 0) | none => ([], 0, 4)) else ([], 0, 3)
theorem twice_append (a b : List UInt8) : twice (a ++ b) = twice a ++ twice b := by
  induction a with
  | nil => rfl
  | cons c r ih => simp only [List.cons_append, twice, ih]; split <;> simp
theorem cnt_append (a b : List UInt8) : cnt (a ++ b) = cnt a + cnt b := by simp [cnt]
theorem cnt_le (l : List UInt8) : cnt l ≤ l.length := List.length_filter_le _ _
theorem twice_length (l : List UInt8) : (twice l).length = l.length + cnt l := by
  induction l with
  | nil => rfl
  | cons c r ih =>
    have e : cnt (c :: r) = (if c = 34 then 1 else 0) + cnt r := by
      by_cases h : c = 34 <;> simp [cnt, h, Nat.add_comm]
    rw [e]; simp only [twice]
    split <;> simp_all <;> omega
theorem quoted_length (l : List UInt8) : (quoted l).length = l.length + cnt l + 2 := by
  simp [quoted, twice_length]
theorem plainB_append (a b : List UInt8) (d : Int) : plainB (a ++ b) d = (plainB a d && plainB b d) := by simp [plainB]
/-! ### what is scanned -/
theorem scan_quote_end : scan [34] = some ([], 1) := by simp [scan]
theorem scan_close (c2 : UInt8) (r : List UInt8) (h : c2 ≠ 34) : scan (34 :: c2 :: r) = some ([], 1) := by simp [scan, h]
theorem scan_two (r : List UInt8) : scan (34 :: 34 :: r) = (scan r).map fun x => (34 :: x.1, x.2 + 2) := by simp [scan]
theorem scan_other (c : UInt8) (r : List UInt8) (h : c ≠ 34) : scan (c :: r) = (scan r).map fun x => (c :: x.1, x.2 + 1) := by
  cases r with
  | nil => simp [scan, h]
  | cons c2 r => simp [scan, h]
/-- whether a text begins with no quote -/
def noQuote : List UInt8 → Bool
  | [] => true
  | c :: _ => c != 34
theorem scan_end (b : List UInt8) (h : noQuote b = true) : scan (34 :: b) = some ([], 1) := by
  cases b with
  | nil => exact scan_quote_end
  | cons c r => exact scan_close c r (by simpa [noQuote] using h)
theorem scan_twice (l b : List UInt8) (h : noQuote b = true) : scan (twice l ++ 34 :: b) = some (l, (twice l).length + 1) := by
  induction l with
  | nil => simpa [twice] using scan_end b h
  | cons c r ih =>
    by_cases hc : c = 34
    · subst hc; simp [twice, scan_two, ih]
    · simp [twice, hc, scan_other, ih]
theorem get_quoted (l b : List UInt8) (h : noQuote b = true) : getL (quoted l ++ b) = (l, (quoted l).length, 0) := by
  have e : quoted l ++ b = 34 :: (twice l ++ 34 :: b) := by simp [quoted]
  rw [e]; simp [getL, scan_twice l b h, quoted]
theorem drop_at (l : List UInt8) (k : Nat) (h : k < l.length) : l.drop k = l[k] :: l.drop (k + 1) := List.drop_eq_getElem_cons h
end Go.Proofs.YtdenehnneloegaaGreatDoor.Q
namespace Go.Proofs.YtdenehnneloegaaGreatDoor.Q
open Go.RowKit Go.Shelf
attribute [local go_sem] Oper.semAt_some
/-- the places of the quotes among the first k bytes -/
def qpos (s : ByteArray) (k : Nat) : List Int := ((List.range k).filter fun (j : Nat) => s.data.toList[j]? == some 34).map fun (j : Nat) => (j : Int)
theorem qpos_zero (s : ByteArray) : qpos s 0 = [] := rfl
theorem qpos_len (s : ByteArray) (k : Nat) : (qpos s k).length ≤ k := by
  have := List.length_filter_le (fun (j : Nat) => s.data.toList[j]? == some 34) (List.range k); simpa [qpos] using this
theorem qpos_yes (s : ByteArray) (k : Nat) (h : s.data.toList[k]? = some 34) : qpos s (k + 1) = qpos s k ++ [(k : Int)] := by
  unfold qpos; rw [List.range_succ, List.filter_append, List.map_append]; congr 1; simp only [List.filter_cons, h, List.filter_nil]; rfl
theorem qpos_no (s : ByteArray) (k : Nat) (h : s.data.toList[k]? ≠ some 34) : qpos s (k + 1) = qpos s k := by
  unfold qpos; rw [List.range_succ, List.filter_append, List.map_append]
  have e : (s.data.toList[k]? == some 34) = false := by simpa using h
  simp only [List.filter_cons, e, List.filter_nil]; simp
theorem bget (s : ByteArray) (k : Nat) (h : k < s.size) : s.data.toList[k]? = some s[k] := by
  rw [List.getElem?_eq_getElem (by exact h)]; rfl
theorem take_snoc (s : ByteArray) (k : Nat) (h : k < s.size) : s.data.toList.take (k + 1) = s.data.toList.take k ++ [s[k]] := by
  rw [List.take_succ_eq_append_getElem (by exact h)]; rfl
theorem qpos_cnt (s : ByteArray) (k : Nat) (hk : k ≤ s.size) : (qpos s k).length = cnt (s.data.toList.take k) := by
  induction k with
  | zero => simp [qpos, cnt]
  | succ k ih =>
    have hlt : k < s.size := hk
    have ih' := ih (by omega)
    rw [take_snoc s k hlt, cnt_append, ← ih']
    by_cases h : s[k] = 34
    · rw [qpos_yes s k (by rw [bget s k hlt, h])]; simp [cnt, h]
    · rw [qpos_no s k (by rw [bget s k hlt]; simpa using h)]; simp [cnt, h]
/-- the cell of one box stands as it stood -/
def KeepsBox (b : Nat) (W W' : World) : Prop := W'.cell? ⟨b, 0, none⟩ = W.cell? ⟨b, 0, none⟩
set_option maxRecDepth 100000 in
set_option maxHeartbeats 2000000 in
theorem quotes1_in (F : Fence) (n : Nat) (hf : F.fn 292) (hro : F.round = none) (hn : 1 ≤ n) (l Bs : Nat) (s : ByteArray) (hs : s.size ≤ 281474976710656) (J Jx : List Int → World → Prop)
    (hY : ∀ pre x W, J pre W → pre.length < s.size → YieldAt F (n - 1) Tryz.prog l #[.int .i64 x] W fun e W' =>
      (e = .returned (.bool true) ∧ J (pre ++ [x]) W' ∧ KeepsBox Bs W W') ∨ (e = .returned (.bool false) ∧ Jx (pre ++ [x]) W'))
    (W : World) (hBs : W.cell? ⟨Bs, 0, none⟩ = some (.string s)) (h0 : J [] W) :
    CallsIn F n Tryz.prog 292 #[.func (.yield l) #[] #[], .pointer (some ⟨Bs, 0, none⟩)] W fun e W' => (∃ v, e = .returned v) ∧
      ((∃ ys, ys = qpos s s.size ∧ J ys W') ∨ (∃ pre, True ∧ Jx pre W')) := by
  refine callsIn_of_wp Tryz.func292 rfl hf ?_ hro
  simp only [Tryz.ntmps292, List.size_toArray, List.length_cons, List.length_nil, Nat.reduceAdd, Nat.reduceSub, Array.replicate_succ, Array.replicate_zero, List.push_toArray, List.append_toArray, List.nil_append, List.cons_append]
  gi_wp2
  gi_loopw [6] (fun i wr => ∃ k : Nat, k ≤ s.size ∧ i = .int .i64 k ∧ J (qpos s k) wr ∧ wr.cell? ⟨Bs, 0, none⟩ = some (.string s))
    (fun i _ => s.size - (intOf i).toNat)
  case atStart => exact ⟨0, Nat.zero_le _, rfl, by rw [qpos_zero]; exact h0, hBs⟩
  case round =>
    obtain ⟨k, hk, rfl, hJs, hc⟩ := hrel
    by_cases hlt : k < s.size
    · by_cases hq : s[k] = 34
      · have hq1 : ((s[k].toNat : Int) == 34) = true := by rw [hq]; rfl
        have hlen := qpos_len s k
        obtain ⟨fn, tmps, assign, body, hy, hR⟩ := hY _ (k : Int) wr hJs (by omega)
        have HQ := Lib.hid hq; clear hq
        gi_wp2
        refine hR.mono ?_
        rintro e W3 (⟨rfl, hJ3, hk3⟩ | ⟨rfl, hJx3⟩)
        · have hc3 : W3.cell? ⟨Bs, 0, none⟩ = some (.string s) := Eq.trans hk3 hc
          gi_wp2
          go_roundw
          case rel => exact ⟨k + 1, by omega, by go_num, by rw [qpos_yes s k (by rw [bget s k hlt, HQ.out])]; exact hJ3, hc3⟩
          case measure => simp [intOf]; omega
        · gi_wp2
          refine bodyPost_ret (results_none rfl _ _ _) rfl ?_
          exact ⟨⟨_, rfl⟩, .inr ⟨_, trivial, hJx3⟩⟩
      · have hq1 : ((s[k].toNat : Int) == 34) = false := by
          rw [beq_eq_false_iff_ne]; intro e; exact hq (UInt8.toNat_inj.1 (by show s[k].toNat = 34; omega))
        have HQ := Lib.hid hq; clear hq
        gi_wp2
        refine ⟨fun _ h => (by cases h), ?_⟩
        gi_wp2
        go_roundw
        case rel => exact ⟨k + 1, by omega, by go_num, by rw [qpos_no s k (by rw [bget s k hlt]; simpa using HQ.out)]; exact hJs, hc⟩
        case measure => simp [intOf]; omega
    · obtain rfl : k = s.size := by omega
      gi_wp2
      go_end0
      exact ⟨⟨_, rfl⟩, .inl ⟨_, rfl, hJs⟩⟩
set_option maxHeartbeats 1000000 in
theorem quotes_in (F : Fence) (n : Nat) (hf : F.fn 291) (hro : F.round = none) (s : ByteArray) (w : World) :
    CallsIn F n Tryz.prog 291 #[.string s] w fun e w' => e = .returned (.func (.func 292) #[] #[.pointer (some ⟨w.heap.size, 0, none⟩)]) ∧ w' = w.alloc (.cells #[.string s] 9) := by
  refine callsIn_of_wp Tryz.func291 rfl hf ?_ hro
  simp only [Tryz.ntmps291, List.size_toArray, List.length_cons, List.length_nil, Nat.reduceAdd, Nat.reduceSub, Array.replicate_succ, Array.replicate_zero, List.push_toArray, List.append_toArray, List.nil_append, List.cons_append]
  gi_wp2
  go_ret
  exact ⟨rfl, rfl⟩
theorem quotes_stops (F : Fence) (n : Nat) (hf : F.fn 292) (hro : F.round = none) (hn : 1 ≤ n) (Bs : Nat) (s : ByteArray) (hs : s.size ≤ 281474976710656) (w : World) (hBs : Bs < w.heap.size)
    (hc : w.cell? ⟨Bs, 0, none⟩ = some (.string s)) :
    SeqStopsK F n Tryz.prog 292 #[.pointer (some ⟨Bs, 0, none⟩)] (fun x : Int => #[Value.int .i64 x]) (KeepsBox Bs) (fun ys => ys = qpos s s.size) (fun _ => True) s.size w := fun l J Jx W hW _ _ hY h0 =>
  quotes1_in F n hf hro hn l Bs s hs J Jx hY W ((hW.cell (p := ⟨Bs, 0, none⟩) hBs).trans hc) h0
theorem cell_of_box_l {W : World} {B : Nat} {v : Value} {t : TypeId} (h : W.heap[B]? = some (.cells #[v] t (0, 0))) : W.cell? ⟨B, 0, none⟩ = some v ∧ W.frozen? ⟨B, 0, none⟩ = false := by
  constructor <;> simp [World.cell?, World.frozen?, h]
theorem cell_new_l (W : World) (v : Value) (t : TypeId) : (W.alloc (.cells #[v] t)).cell? ⟨W.heap.size, 0, none⟩ = some v ∧ (W.alloc (.cells #[v] t)).frozen? ⟨W.heap.size, 0, none⟩ = false :=
  cell_of_box_l (World.alloc_heap_new W _)
theorem cell_alloc_l {W : World} {a : Addr} {v : Value} (o : Obj) (h : W.cell? a = some v) : (W.alloc o).cell? a = some v := cell_kept h (World.grownBy_alloc W o none) (fun r e => by cases e)
theorem frozen_alloc_l {W : World} {a : Addr} {v : Value} (o : Obj) (h : W.cell? a = some v) (hf : W.frozen? a = false) : (W.alloc o).frozen? a = false := (frozen_kept h (World.grownBy_alloc W o none) (fun r e => by cases e)).trans hf
theorem keepsBox_b {w : World} {b : Nat} (hb : b < w.heap.size) (W : World) (l : Nat) (o o' : Obj) (hl : w.heap.size ≤ l) (h : W.heap[l]? = some o) (hc : o.isCells = false) (hk : o.isWalk = false) : KeepsBox b W (W.putObj l o') :=
  (belowK_b (w := w) (Nat.le_refl _) W l o o' hl h hc hk).cell (p := ⟨b, 0, none⟩) hb
set_option maxRecDepth 100000 in
set_option maxHeartbeats 2000000 in
theorem count_in (F : Fence) (n : Nat) (h3 : F.fn 284) (h5 : F.fn 291) (h6 : F.fn 292) (hro : F.round = none) (hn : 3 ≤ n) (s : ByteArray) (hs : s.size ≤ 281474976710656) (w : World) :
    CallsIn F n Tryz.prog 284 #[.string s] w fun e W' => e = .returned (.int .i64 ((qpos s s.size).length : Int)) ∧ Below w.heap.size w W' := by
  have h1 : 1 ≤ n := by omega
  refine callsIn_of_wp_marks Tryz.func284 rfl h3 ?_ hro
  simp only [Tryz.ntmps284, List.size_toArray, List.length_cons, List.length_nil, Nat.reduceAdd, Nat.reduceSub, Array.replicate_succ, Array.replicate_zero, List.push_toArray, List.append_toArray, List.nil_append, List.cons_append]
  gi_wp2_with (gi_at_call 291; refine (quotes_in F (n - 1) h5 hro _ _).mono ?_; rintro e w' ⟨rfl, rfl⟩)
  have hs0 := cell_new_l w (.int .i64 0) 3
  have hb := cell_new_l (w.alloc (.cells #[.int .i64 0] 3)) (.string s) 9
  rw [World.size_alloc] at hb
  have hB0 : Below w.heap.size w ((w.alloc (.cells #[.int .i64 0] 3)).alloc (.cells #[.string s] 9)) := ((Below.refl _ w).alloc (Nat.le_refl _) _).alloc (by simp) _
  refine wpIn_rangeFunc_ownF hro h1 (gf := 292) (lb := #[.pointer (some ⟨w.heap.size + 1, 0, none⟩)]) rfl h6 (enters_of Tryz.func292 (by kernel_rfl) rfl)
    (quotes_stops F (n - 1) h6 hro (by omega) (w.heap.size + 1) s hs _ (by simp) hb.1) (fun {A B C} h k => Eq.trans k h) (keepsBox_b (by simp)) (Below.refl _ _) (fun _ => rfl)
    (fun pre W => (W.cell? ⟨w.heap.size, 0, none⟩ = some (.int .i64 (pre.length : Int)) ∧ W.frozen? ⟨w.heap.size, 0, none⟩ = false) ∧ Below w.heap.size w W)
    (fun _ _ _ => False)
    (OwnFrom.and (Own.from (fun s A B row hs hg hr => ⟨cell_kept hs.1 hg hr, (frozen_kept hs.1 hg hr).trans hs.2⟩) _) (ownFrom_below (Nat.le_refl _) (by simp; omega)))
    (fun _ _ _ _ _ hs _ _ => hs)
    ⟨⟨cell_alloc_l _ hs0.1, frozen_alloc_l _ hs0.1 hs0.2⟩, hB0⟩
    (fun x => { tmps := #[.string s, undef, .int .i64 0, .pointer (some ⟨w.heap.size, 0, none⟩), .string s, .func (.func 292) #[] #[.pointer (some ⟨w.heap.size + 1, 0, none⟩)], .int .i64 x, undef, undef, undef], defers := [] }) ?assign ?body ?done ?stop
  case assign =>
    intro l x W K hK
    gi_wp2
    simpa using hK
  case body =>
    rintro l pre x W ⟨⟨hc, hf⟩, hB⟩ hlt
    gi_wp2
    refine ⟨KeepsOthers.setCell _ _ _, ?_, ⟨?_, by rw [World.frozen?_setCell]; exact hf⟩, hB.setCell (p := ⟨w.heap.size, 0, none⟩) (Nat.le_refl _) _⟩
    · exact World.cell?_setCell_other _ _ _ _ (fun e => by have e1 := congrArg Addr.block e; simp at e1)
    · rw [show ((pre ++ [x]).length : Int) = (pre.length : Int) + 1 from by simp]; exact World.cell?_setCell_same' _ _ _ (by rw [hc]; rfl)
  case done =>
    rintro D ys W hD rfl ⟨⟨hc, _⟩, hB⟩ hK
    gi_wp2
    refine ⟨by simp, .inl ⟨_, _, rfl, run_takeDeferred hK, ?_⟩⟩
    exact ⟨_, results_tmp rfl _ _ _, rfl, hB.trans (belowK_b (w := w) (Nat.le_refl _) W D _ _ (by simp at hD; omega) hK rfl rfl)⟩
  case stop =>
    rintro D c pre W _ _ h _
    exact h.elim
/-- how many quotes a text has -/
theorem count_any (s : ByteArray) (hs : s.size ≤ 281474976710656) (w : World) :
    Calls Tryz.prog 284 #[.string s] w fun e W' => e = .returned (.int .i64 (cnt s.data.toList : Int)) ∧ Below w.heap.size w W' := by
  have h := callsIn_wide.1 (count_in Fence.wide 3 trivial trivial trivial rfl (Nat.le_refl _) s hs w)
  rw [qpos_cnt s s.size (Nat.le_refl _), List.take_of_length_le (by simp)] at h
  exact h
end Go.Proofs.YtdenehnneloegaaGreatDoor.Q
namespace Go.Proofs.YtdenehnneloegaaGreatDoor.Q
open Go.RowKit Go.Shelf
theorem ret_bool {a b : Bool} (h : a = b) : Ending.returned (.bool a) = .returned (.bool b) := by rw [h]
set_option maxHeartbeats 400000 in
theorem good_any (d : Int) (w : World) :
    Calls Tryz.prog 265 #[.int .u8 d] w fun e w' => e = .returned (.bool (goodI d)) ∧ w = w' := by
  by_cases h1 : d = 34
  · subst h1
    go_enter Tryz.func265, Tryz.ntmps265
    go_wp2
    go_ret
    exact ⟨ret_bool rfl, rfl⟩
  by_cases h2 : d = 13
  · subst h2
    go_enter Tryz.func265, Tryz.ntmps265
    go_wp2
    go_ret
    exact ⟨ret_bool rfl, rfl⟩
  by_cases h3 : d = 10
  · subst h3
    go_enter Tryz.func265, Tryz.ntmps265
    go_wp2
    go_ret
    exact ⟨ret_bool rfl, rfl⟩
  have e1 : (d == 34) = false := beq_eq_false_iff_ne.2 h1
  have e2 : (d == 13) = false := beq_eq_false_iff_ne.2 h2
  have e3 : (d == 10) = false := beq_eq_false_iff_ne.2 h3
  have e4 : (34 == d) = false := beq_eq_false_iff_ne.2 (Ne.symm h1)
  have e5 : (13 == d) = false := beq_eq_false_iff_ne.2 (Ne.symm h2)
  have e6 : (10 == d) = false := beq_eq_false_iff_ne.2 (Ne.symm h3)
  have eg : goodI d = true := by simp [goodI, e1, e2, e3]
  rw [eg]
  clear h1 h2 h3 eg
  go_enter Tryz.func265, Tryz.ntmps265
  go_wp2
  go_ret
  exact ⟨rfl, rfl⟩
theorem plainB_snoc (s : ByteArray) (k : Nat) (d : Int) (h : k < s.size) : plainB (s.data.toList.take (k + 1)) d = (plainB (s.data.toList.take k) d && (goodI (s[k].toNat : Int) && (s[k].toNat : Int) != d)) := by
  rw [take_snoc s k h, plainB_append]; simp [plainB]
theorem plainB_false (s : ByteArray) (k : Nat) (d : Int) (h : k < s.size) (hb : (goodI (s[k].toNat : Int) && (s[k].toNat : Int) != d) = false) : plainB s.data.toList d = false := by
  have e : s.data.toList = s.data.toList.take (k + 1) ++ s.data.toList.drop (k + 1) := (List.take_append_drop _ _).symm
  rw [e, plainB_append, plainB_snoc s k d h, hb]; simp
set_option maxHeartbeats 1000000 in
theorem plain_any (s : ByteArray) (d : Int) (w : World) (hs : s.size ≤ 281474976710656) :
    Calls Tryz.prog 221 #[.string s, .int .u8 d] w fun e w' => e = .returned (.bool (plainB s.data.toList d)) ∧ w = w' := by
  go_enter Tryz.func221, Tryz.ntmps221
  go_wp2_with fail
  go_step3
  go_wp2_with fail
  go_step3
  go_wp2_with fail
  go_loop [5, 9] (fun b i => ∃ k : Nat, k ≤ s.size ∧ b = .bool true ∧ i = .int .i64 k ∧ Hid (plainB (s.data.toList.take k) d = true)) (fun _ i => s.size - (intOf i).toNat)
  case atStart => exact ⟨0, Nat.zero_le _, rfl, rfl, Lib.hid rfl⟩
  case round =>
    obtain ⟨k, hk, rfl, rfl, HP⟩ := hrel
    by_cases hlt : k < s.size
    · cases hg : goodI (s[k].toNat : Int) with
      | false =>
        have HF : Hid (plainB s.data.toList d = false) := Lib.hid (plainB_false s k d hlt (by rw [hg]; rfl))
        go_wp2_with (go_at_call 265; refine (good_any _ _).mono ?_; rintro e w' ⟨rfl, rfl⟩)
        try rw [Exit.noGoto_ret]
        go_ret
        exact ⟨ret_bool HF.out.symm, rfl⟩
      | true =>
        cases hd : ((s[k].toNat : Int) != d) with
        | false =>
          have HF : Hid (plainB s.data.toList d = false) := Lib.hid (plainB_false s k d hlt (by rw [hg, hd]; rfl))
          go_wp2_with (go_at_call 265; refine (good_any _ _).mono ?_; rintro e w' ⟨rfl, rfl⟩)
          try rw [Exit.noGoto_ret]
          go_ret
          exact ⟨ret_bool HF.out.symm, rfl⟩
        | true =>
          have HN : Hid (plainB (s.data.toList.take (k + 1)) d = true) := Lib.hid (by rw [plainB_snoc s k d hlt, HP.out, hg, hd]; rfl)
          go_wp2_with (go_at_call 265; refine (good_any _ _).mono ?_; rintro e w' ⟨rfl, rfl⟩)
          go_round
          case rel => exact ⟨k + 1, by omega, rfl, by go_num, HN⟩
          case measure => simp [intOf]; omega
    · have HT : Hid (plainB s.data.toList d = true) := Lib.hid (by rw [← HP.out, List.take_of_length_le (by simp; omega)])
      go_wp2_with fail
      try rw [Exit.noGoto_ret]
      go_ret
      exact ⟨ret_bool HT.out.symm, rfl⟩
end Go.Proofs.YtdenehnneloegaaGreatDoor.Q
namespace Go.Proofs.YtdenehnneloegaaGreatDoor.Q
open Go.Shelf Go.RowKit
def lays167_ren : Go.Shelf.Ren := ⟨fun | 167 => 147 | 240 => 195 | 276 => 223 | n => n, fun | 0 => 0 | 4 => 4 | 5 => 5 | 9 => 9 | 20 => 20 | 37 => 144 | 70 => 175 | 72 => 177 | 75 => 183 | 80 => 185 | 164 => 261 | n => n, fun | n => n⟩
set_option maxRecDepth 100000 in
theorem lays167 : Go.Proofs.Lays.n167 Tryz.prog lays167_ren := {
  mixed := by kernel_rfl
  f167 := Tryz.func147.trans (congrArg some (by kernel_rfl))
  f240 := Tryz.func195.trans (congrArg some (by kernel_rfl))
  f276 := Tryz.func223.trans (congrArg some (by kernel_rfl))
  t0 := Tryz.underlying0
  a0 := Tryz.isAgg0
  z0 := Tryz.sizeOf0
  v0 := Tryz.zeroValue0
  t4 := Tryz.underlying4
  a4 := Tryz.isAgg4
  z4 := Tryz.sizeOf4
  v4 := Tryz.zeroValue4
  t5 := Tryz.underlying5
  a5 := Tryz.isAgg5
  z5 := Tryz.sizeOf5
  v5 := Tryz.zeroValue5
  t9 := Tryz.underlying9
  a9 := Tryz.isAgg9
  z9 := Tryz.sizeOf9
  v9 := Tryz.zeroValue9
  t20 := Tryz.underlying20
  a20 := Tryz.isAgg20
  z20 := Tryz.sizeOf20
  v20 := Tryz.zeroValue20
  t37 := Tryz.underlying144
  a37 := Tryz.isAgg144
  z37 := Tryz.sizeOf144
  v37 := Tryz.zeroValue144
  t70 := Tryz.underlying175
  a70 := Tryz.isAgg175
  z70 := Tryz.sizeOf175
  v70 := Tryz.zeroValue175
  t72 := Tryz.underlying177
  a72 := Tryz.isAgg177
  z72 := Tryz.sizeOf177
  v72 := Tryz.zeroValue177
  t75 := Tryz.underlying183
  a75 := Tryz.isAgg183
  z75 := Tryz.sizeOf183
  v75 := Tryz.zeroValue183
  t164 := Tryz.underlying261
  a164 := Tryz.isAgg261
  z164 := Tryz.sizeOf261
  v164 := Tryz.zeroValue261 }
set_option maxRecDepth 100000 in
theorem extra167 : Builder.Extra Tryz.prog lays167_ren := {
  sizeBuilder := by kernel_rfl
  liesBuilder := by kernel_rfl
  t5 := Tryz.underlying5
  a5 := Tryz.isAgg5
  z5 := Tryz.sizeOf5
  v5 := Tryz.zeroValue5
  infoByte := by kernel_rfl
  cellsByte := by kernel_rfl
  sizeByte := by kernel_rfl
  neB5 := by decide }
theorem writeByte (B b : Nat) (bs : List Value) (c : Int) (w : World) (h : Lib.IsBuilder 177 5 B b bs w) (hlen : bs.length + 1 ≤ 140737488355328) (hBw : B ≤ w.heap.size) :
    Calls Tryz.prog 147 #[.pointer (some ⟨b, 0, none⟩), .int .u8 c] w fun e w' => e = .returned .nilIface ∧ (Lib.BuilderAt 177 5 B b (.pointer (some ⟨b, 0, none⟩)) (bs ++ [.int .u8 c]) w' ∧ Below B w w') :=
  Any.Builder_WriteByte lays167 extra167 B b bs c w h hlen hBw
def lays169_ren : Go.Shelf.Ren := ⟨fun | 169 => 148 | n => n, fun | 0 => 0 | 3 => 3 | 5 => 5 | 9 => 9 | 37 => 144 | 70 => 175 | 72 => 177 | 127 => 216 | n => n, fun | n => n⟩
set_option maxRecDepth 100000 in
theorem lays169 : Go.Proofs.Lays.n169 Tryz.prog lays169_ren := {
  mixed := by kernel_rfl
  f169 := Tryz.func148.trans (congrArg some (by kernel_rfl))
  t0 := Tryz.underlying0
  a0 := Tryz.isAgg0
  z0 := Tryz.sizeOf0
  v0 := Tryz.zeroValue0
  t3 := Tryz.underlying3
  a3 := Tryz.isAgg3
  z3 := Tryz.sizeOf3
  v3 := Tryz.zeroValue3
  t9 := Tryz.underlying9
  a9 := Tryz.isAgg9
  z9 := Tryz.sizeOf9
  v9 := Tryz.zeroValue9
  t37 := Tryz.underlying144
  a37 := Tryz.isAgg144
  z37 := Tryz.sizeOf144
  v37 := Tryz.zeroValue144
  t70 := Tryz.underlying175
  a70 := Tryz.isAgg175
  z70 := Tryz.sizeOf175
  v70 := Tryz.zeroValue175
  t72 := Tryz.underlying177
  a72 := Tryz.isAgg177
  z72 := Tryz.sizeOf177
  v72 := Tryz.zeroValue177
  t127 := Tryz.underlying216
  a127 := Tryz.isAgg216
  z127 := Tryz.sizeOf216
  v127 := Tryz.zeroValue216 }
set_option maxRecDepth 100000 in
theorem extra169 : Builder.Extra Tryz.prog lays169_ren := {
  sizeBuilder := by kernel_rfl
  liesBuilder := by kernel_rfl
  t5 := Tryz.underlying5
  a5 := Tryz.isAgg5
  z5 := Tryz.sizeOf5
  v5 := Tryz.zeroValue5
  infoByte := by kernel_rfl
  cellsByte := by kernel_rfl
  sizeByte := by kernel_rfl
  neB5 := by decide }
theorem bString (B b : Nat) (l : List UInt8) (w : World) (h : Lib.IsBuilder 177 5 B b (Lib.byteCells l) w) (hBw : B ≤ w.heap.size) :
    Calls Tryz.prog 148 #[.pointer (some ⟨b, 0, none⟩)] w fun e w' => e = .returned (.string ⟨l.toArray⟩) ∧ Below B w w' :=
  Any.Builder_String_any lays169 extra169 B b l w h hBw
def lays165_ren : Go.Shelf.Ren := ⟨fun | 165 => 266 | 240 => 195 | 241 => 283 | 276 => 223 | 277 => 290 | n => n, fun | 0 => 0 | 3 => 3 | 4 => 4 | 5 => 5 | 9 => 9 | 20 => 20 | 37 => 144 | 70 => 175 | 72 => 177 | 164 => 261 | n => n, fun | n => n⟩
set_option maxRecDepth 100000 in
theorem lays165 : Go.Proofs.Lays.n165 Tryz.prog lays165_ren := {
  mixed := by kernel_rfl
  f165 := Tryz.func266.trans (congrArg some (by kernel_rfl))
  f240 := Tryz.func195.trans (congrArg some (by kernel_rfl))
  f241 := Tryz.func283.trans (congrArg some (by kernel_rfl))
  f276 := Tryz.func223.trans (congrArg some (by kernel_rfl))
  f277 := Tryz.func290.trans (congrArg some (by kernel_rfl))
  t0 := Tryz.underlying0
  a0 := Tryz.isAgg0
  z0 := Tryz.sizeOf0
  v0 := Tryz.zeroValue0
  t3 := Tryz.underlying3
  a3 := Tryz.isAgg3
  z3 := Tryz.sizeOf3
  v3 := Tryz.zeroValue3
  t4 := Tryz.underlying4
  a4 := Tryz.isAgg4
  z4 := Tryz.sizeOf4
  v4 := Tryz.zeroValue4
  t9 := Tryz.underlying9
  a9 := Tryz.isAgg9
  z9 := Tryz.sizeOf9
  v9 := Tryz.zeroValue9
  t20 := Tryz.underlying20
  a20 := Tryz.isAgg20
  z20 := Tryz.sizeOf20
  v20 := Tryz.zeroValue20
  t37 := Tryz.underlying144
  a37 := Tryz.isAgg144
  z37 := Tryz.sizeOf144
  v37 := Tryz.zeroValue144
  t70 := Tryz.underlying175
  a70 := Tryz.isAgg175
  z70 := Tryz.sizeOf175
  v70 := Tryz.zeroValue175
  t72 := Tryz.underlying177
  a72 := Tryz.isAgg177
  z72 := Tryz.sizeOf177
  v72 := Tryz.zeroValue177
  t164 := Tryz.underlying261
  a164 := Tryz.isAgg261
  z164 := Tryz.sizeOf261
  v164 := Tryz.zeroValue261 }
set_option maxRecDepth 100000 in
theorem extra165 : Builder.Extra Tryz.prog lays165_ren := {
  sizeBuilder := by kernel_rfl
  liesBuilder := by kernel_rfl
  t5 := Tryz.underlying5
  a5 := Tryz.isAgg5
  z5 := Tryz.sizeOf5
  v5 := Tryz.zeroValue5
  infoByte := by kernel_rfl
  cellsByte := by kernel_rfl
  sizeByte := by kernel_rfl
  neB5 := by decide }
theorem growFresh (B b n : Nat) (w : World) (hB : B ≤ b) (hbk : w.heap[b]? = some (.cells #[.pointer none, .slice none 0 0] 177 (0, 0))) (hBw : B ≤ w.heap.size) (hn : n ≤ 281474976710656) :
    Calls Tryz.prog 266 #[.pointer (some ⟨b, 0, none⟩), .int .i64 n] w fun e w' => e = .returned (.tuple #[]) ∧ (Lib.BuilderAt 177 5 B b (.pointer (some ⟨b, 0, none⟩)) [] w' ∧ Below B w w') :=
  Any.Builder_Grow_fresh lays165 extra165 B b n w hB hbk hBw hn
def lays316_ren : Go.Shelf.Ren := ⟨fun | 316 => 123 | n => n, fun | 0 => 0 | 3 => 3 | 4 => 4 | 5 => 5 | 9 => 9 | 37 => 144 | 127 => 216 | n => n, fun | n => n⟩
set_option maxRecDepth 100000 in
theorem lays316 : Go.Proofs.LaysM.n316 Tryz.prog lays316_ren := {
  mixed := by kernel_rfl
  f316 := Tryz.func123.trans (congrArg some (by kernel_rfl))
  t0 := Tryz.underlying0
  a0 := Tryz.isAgg0
  z0 := Tryz.sizeOf0
  v0 := Tryz.zeroValue0
  t3 := Tryz.underlying3
  a3 := Tryz.isAgg3
  z3 := Tryz.sizeOf3
  v3 := Tryz.zeroValue3
  t4 := Tryz.underlying4
  a4 := Tryz.isAgg4
  z4 := Tryz.sizeOf4
  v4 := Tryz.zeroValue4
  t9 := Tryz.underlying9
  a9 := Tryz.isAgg9
  z9 := Tryz.sizeOf9
  v9 := Tryz.zeroValue9
  t37 := Tryz.underlying144
  a37 := Tryz.isAgg144
  z37 := Tryz.sizeOf144
  v37 := Tryz.zeroValue144
  t127 := Tryz.underlying216
  a127 := Tryz.isAgg216
  z127 := Tryz.sizeOf216
  v127 := Tryz.zeroValue216
  t5 := Tryz.underlying5
  a5 := Tryz.isAgg5
  z5 := Tryz.sizeOf5
  v5 := Tryz.zeroValue5
  i0 := by kernel_rfl
  i3 := by kernel_rfl
  i4 := by kernel_rfl
  i5 := by kernel_rfl
  i9 := by kernel_rfl
  i37 := by kernel_rfl
  i127 := by kernel_rfl }
theorem liteClone (s : ByteArray) (w : World) (hlim : s.size ≤ 281474976710656) :
    Calls Tryz.prog 123 #[.string s] w fun e w' => e = .returned (.string s) ∧ Below w.heap.size w w' :=
  Any.stringslite_Clone lays316 s w hlim
end Go.Proofs.YtdenehnneloegaaGreatDoor.Q
namespace Go.Proofs.YtdenehnneloegaaGreatDoor.Q
open Go.RowKit Go.Shelf
set_option maxHeartbeats 400000 in
theorem quotedSize_any (s : ByteArray) (w : World) (hs : s.size ≤ 1099511627776) :
    Calls Tryz.prog 267 #[.string s] w fun e w' => e = .returned (.int .i64 ((s.size : Int) + (cnt s.data.toList : Int) + 2)) ∧ Below w.heap.size w w' := by
  have hc := cnt_le s.data.toList
  have hl : s.data.toList.length = s.size := by simp
  rw [hl] at hc
  clear hl
  go_enter Tryz.func267, Tryz.ntmps267
  go_wp2_with fail
  refine (count_any _ (by omega) _).mono ?_
  rintro e w1 ⟨rfl, hb1⟩
  go_wp2_with fail
  go_ret
  exact ⟨rfl, hb1⟩
theorem growAny (B b : Nat) (n : Int) (w : World) (hB : B ≤ b) (hbk : w.heap[b]? = some (.cells #[.pointer none, .slice none 0 0] 177 (0, 0))) (hBw : B ≤ w.heap.size) (h0 : 0 ≤ n) (hn : n ≤ 281474976710656) :
    Calls Tryz.prog 266 #[.pointer (some ⟨b, 0, none⟩), .int .i64 n] w fun e w' => e = .returned (.tuple #[]) ∧ (Lib.IsBuilder 177 5 B b (Lib.byteCells []) w' ∧ Below B w w') := by
  obtain ⟨m, rfl⟩ := Int.eq_ofNat_of_zero_le h0
  exact (growFresh B b m w hB hbk hBw (by omega)).mono fun e w' ⟨he, hA, hb⟩ => ⟨he, Or.inr hA, hb⟩
theorem writeC (B b : Nat) (l : List UInt8) (c : UInt8) (w : World) (h : Lib.IsBuilder 177 5 B b (Lib.byteCells l) w) (hlen : l.length + 1 ≤ 140737488355328) (hBw : B ≤ w.heap.size) :
    Calls Tryz.prog 147 #[.pointer (some ⟨b, 0, none⟩), .int .u8 (c.toNat : Int)] w fun e w' => e = .returned .nilIface ∧ (Lib.IsBuilder 177 5 B b (Lib.byteCells (l ++ [c])) w' ∧ Below B w w') := by
  refine (writeByte B b _ _ w h (by simpa [Lib.byteCells] using hlen) hBw).mono ?_
  rintro e w' ⟨he, hA, hb⟩
  exact ⟨he, Or.inr (by simpa [Lib.byteCells] using hA), hb⟩
theorem write34 (B b : Nat) (l : List UInt8) (w : World) (h : Lib.IsBuilder 177 5 B b (Lib.byteCells l) w) (hlen : l.length + 1 ≤ 140737488355328) (hBw : B ≤ w.heap.size) :
    Calls Tryz.prog 147 #[.pointer (some ⟨b, 0, none⟩), .int .u8 34] w fun e w' => e = .returned .nilIface ∧ (Lib.IsBuilder 177 5 B b (Lib.byteCells (l ++ [34])) w' ∧ Below B w w') :=
  writeC B b l 34 w h hlen hBw
theorem twice_snoc (s : ByteArray) (k : Nat) (h : k < s.size) : twice (s.data.toList.take (k + 1)) = twice (s.data.toList.take k) ++ (if s[k] = 34 then [34, 34] else [s[k]]) := by
  rw [take_snoc s k h, twice_append]; rfl
set_option maxHeartbeats 1000000 in
theorem quoted_any (s : ByteArray) (w : World) (hs : s.size ≤ 1099511627776) :
    Calls Tryz.prog 222 #[.string s] w fun e w' => e = .returned (.string ⟨(quoted s.data.toList).toArray⟩) ∧ Below w.heap.size w w' := by
  go_enter Tryz.func222, Tryz.ntmps222
  go_wp2_with fail
  go_step3
  go_wp2_with fail
  refine (quotedSize_any _ _ hs).mono ?_
  rintro e w1 ⟨rfl, hb1⟩
  have hbk1 : w1.heap[w.heap.size]? = some (.cells #[.pointer none, .slice none 0 0] 177 (0, 0)) := (hb1.block _ (by simp)).trans (World.alloc_heap_new w _)
  have hB1 : Below w.heap.size w w1 := ((Below.refl _ w).alloc (Nat.le_refl _) _).trans (hb1.mono (by simp))
  clear hb1
  have hz1 : w.heap.size ≤ w1.heap.size := hB1.size
  have hc := cnt_le s.data.toList
  rw [show s.data.toList.length = s.size by simp] at hc
  have HBK := Lib.hid hbk1; clear hbk1
  go_wp2_with fail
  refine (growAny w.heap.size w.heap.size _ _ (Nat.le_refl _) HBK.out hz1 (by omega) (by omega)).mono ?_
  rintro e w2 ⟨rfl, hA2, hb2⟩
  have hB2 := hB1.trans hb2
  clear hB1 hb2 HBK hz1
  go_wp2_with fail
  refine (write34 w.heap.size w.heap.size [] _ hA2 (by simp) hB2.size).mono ?_
  rintro e w3 ⟨rfl, hA3, hb3⟩
  have hB3 := hB2.trans hb3
  clear hB2 hb3 hA2
  go_wp2_with fail
  go_step3
  go_wp2_with fail
  go_loopw [11] (fun i wr => ∃ k : Nat, k ≤ s.size ∧ i = .int .i64 k ∧ Lib.IsBuilder 177 5 w.heap.size w.heap.size (Lib.byteCells (34 :: twice (s.data.toList.take k))) wr ∧ Below w.heap.size w wr) (fun i _ => s.size - (intOf i).toNat)
  case atStart => exact ⟨0, Nat.zero_le _, rfl, hA3, hB3⟩
  case round =>
    obtain ⟨k, hk, rfl, hA, hB⟩ := hrel
    have hlk : (34 :: twice (s.data.toList.take k)).length ≤ 2 * s.size + 1 := by
      have h1 := twice_length (s.data.toList.take k); have h2 := cnt_le (s.data.toList.take k); simp at h1 h2 ⊢; omega
    by_cases hlt : k < s.size
    · have HS := Lib.hid (twice_snoc s k hlt)
      go_wp2_with fail
      refine (writeC w.heap.size w.heap.size _ s[k] _ hA (by omega) hB.size).mono ?_
      rintro e w4 ⟨rfl, hA4, hb4⟩
      have hB4 := hB.trans hb4
      clear hb4 hA
      by_cases hq : s[k] = 34
      · have hq1 : ((s[k].toNat : Int) != 34) = false := by rw [hq]; rfl
        have HQ := Lib.hid hq; clear hq
        go_wp2_with fail
        refine (write34 w.heap.size w.heap.size _ _ hA4 (by simp at hlk ⊢; omega) hB4.size).mono ?_
        rintro e w5 ⟨rfl, hA5, hb5⟩
        have hB5 := hB4.trans hb5
        clear hb5 hA4
        go_wp2_with fail
        go_roundw
        case rel => exact ⟨k + 1, by omega, by go_num, by rw [HS.out, if_pos HQ.out]; rw [HQ.out] at hA5; simpa using hA5, hB5⟩
        case measure => simp [intOf]; omega
      · have hq1 : ((s[k].toNat : Int) != 34) = true := by
          rw [bne_iff_ne]; intro e; exact hq (UInt8.toNat_inj.1 (by show s[k].toNat = 34; omega))
        have HQ := Lib.hid hq; clear hq
        go_wp2_with fail
        go_roundw
        case rel => exact ⟨k + 1, by omega, by go_num, by rw [HS.out, if_neg HQ.out]; simpa using hA4, hB4⟩
        case measure => simp [intOf]; omega
    · have hA' : Lib.IsBuilder 177 5 w.heap.size w.heap.size (Lib.byteCells (34 :: twice s.data.toList)) wr := by rw [List.take_of_length_le (by simp; omega)] at hA; exact hA
      have hlk' : (34 :: twice s.data.toList).length ≤ 2 * s.size + 1 := by
        have h1 := twice_length s.data.toList; have h2 := cnt_le s.data.toList; simp at h1 h2 ⊢; omega
      clear hA
      go_wp2_with fail
      refine (write34 w.heap.size w.heap.size _ _ hA' (by omega) hB.size).mono ?_
      rintro e w4 ⟨rfl, hA4, hb4⟩
      have hB4 := hB.trans hb4
      go_wp2_with fail
      refine (bString w.heap.size w.heap.size _ _ hA4 hB4.size).mono ?_
      rintro e w5 ⟨rfl, hb5⟩
      have hB5 := hB4.trans hb5
      go_wp2_with fail
      try rw [Exit.noGoto_ret]
      go_ret
      exact ⟨rfl, hB5⟩
end Go.Proofs.YtdenehnneloegaaGreatDoor.Q
namespace Go.Proofs.YtdenehnneloegaaGreatDoor.Q
open Go.RowKit Go.Shelf
theorem ba_toList (s : ByteArray) : s.toList = s.data.toList := by
  obtain ⟨⟨l⟩⟩ := s
  exact ByteArray.toList_mk l
theorem ba_size (s : ByteArray) : s.data.toList.length = s.size := by simp
theorem ba_eq {a b : ByteArray} (h : a.data.toList = b.data.toList) : a = b := by
  obtain ⟨⟨a⟩⟩ := a; obtain ⟨⟨b⟩⟩ := b; simp at h; rw [h]
theorem ba_mk_size (l : List UInt8) : (⟨l.toArray⟩ : ByteArray).size = l.length := by simp [ByteArray.size]
theorem ret_str {a b : ByteArray} (h : a.data.toList = b.data.toList) : Ending.returned (.string a) = .returned (.string b) := by rw [ba_eq h]
set_option maxHeartbeats 1000000 in
theorem clone_any (s : ByteArray) (w : World) (hs : s.size ≤ 1099511627776) :
    Calls Tryz.prog 69 #[.string s] w fun e w' => e = .returned (.string s) ∧ Below w.heap.size w w' := by
  go_enter Tryz.func69, Tryz.ntmps69
  go_wp2_with fail
  refine (liteClone _ _ (by omega)).mono ?_
  rintro e w1 ⟨rfl, hb⟩
  go_wp2_with fail
  go_ret
  exact ⟨rfl, hb⟩
set_option maxHeartbeats 1000000 in
theorem qput_any (s : ByteArray) (d : Int) (w : World) (hs : s.size ≤ 1099511627776) :
    Calls Tryz.prog 194 #[.string s, .int .u8 d] w fun e w' => e = .returned (.string ⟨(putL s.data.toList d).toArray⟩) ∧ Below w.heap.size w w' := by
  cases hp : plainB s.data.toList d with
  | true =>
    have C := Lib.hid (fun w => plain_any s d w (by omega))
    rw [hp] at C
    have HP := Lib.hid hp; clear hp
    go_enter Tryz.func194, Tryz.ntmps194
    go_wp2_with fail
    refine (C.out _).mono ?_
    rintro e w1 ⟨rfl, rfl⟩
    go_wp2_with fail
    refine (clone_any _ _ hs).mono ?_
    rintro e w2 ⟨rfl, hb⟩
    go_wp2_with fail
    go_ret
    exact ⟨ret_str (by simp [putL, HP.out]), hb⟩
  | false =>
    have C := Lib.hid (fun w => plain_any s d w (by omega))
    rw [hp] at C
    have HP := Lib.hid hp; clear hp
    go_enter Tryz.func194, Tryz.ntmps194
    go_wp2_with fail
    refine (C.out _).mono ?_
    rintro e w1 ⟨rfl, rfl⟩
    go_wp2_with fail
    refine (quoted_any _ _ hs).mono ?_
    rintro e w2 ⟨rfl, hb⟩
    go_wp2_with fail
    go_ret
    exact ⟨ret_str (by simp [putL, HP.out]), hb⟩
end Go.Proofs.YtdenehnneloegaaGreatDoor.Q
