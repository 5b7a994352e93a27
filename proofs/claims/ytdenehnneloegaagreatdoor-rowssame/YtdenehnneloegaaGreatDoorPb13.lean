/-
  Texts of these rows' proofs, laid one behind the other: QBuf, QLexMath, QLexWrite, QLexRec, QLexRec2.
  Conditions: those of each theorem.
-/
import Derived.Lib.Strings
import Derived.Lib.Slices
import Derived.Lib.Walk
import Derived.Lib.Builder
import Derived.Lib.AppendStr
import Derived.Lib.UnsafeStr
import Derived.Lib.Hide
import Derived.WalkKit
import Derived.Laws.Externs
import Derived.RegionTactic
import Derived.ChangeAlike
import Derived.Test.YtdenehnneloegaaGreatDoorProg
import Derived.Test.YtdenehnneloegaaGreatDoorPb12
import Derived.WalkMore
import Derived.StillTailTactics
import Derived.Deep.RegionWith
import Derived.Test.YtdenehnneloegaaGreatDoorPb1
import Derived.WalkSmall
set_option linter.unusedVariables false
namespace Go.Proofs.YtdenehnneloegaaGreatDoor.Q
open Go.Shelf Go.RowKit
/-- the block b, from B on, of type T: a builder that holds bs, and the rest of the variable -/
def BufAt (T : TypeId) (B b : Nat) (p : Value) (bs rest : List Value) (w : World) : Prop :=
  B ≤ b ∧ ∃ v, w.heap[b]? = some (.cells (p :: v :: rest).toArray T (0, 0)) ∧ w.ownsRow B 5 1 v bs.length bs ∧ v.ownBlock ≠ some b
def IsBuf (T : TypeId) (B b : Nat) (bs rest : List Value) (w : World) : Prop :=
  BufAt T B b (.pointer none) bs rest w ∨ BufAt T B b (.pointer (some ⟨b, 0, none⟩)) bs rest w
/-- a builder may lie at the beginning of a variable of type T with n cells -/
structure BufType (T : TypeId) (n : Nat) : Prop where
  lies : liesAt Tryz.prog Tryz.prog.depth T (n / Tryz.prog.cellsOf T) 0 177 1 = true
  ne : T ≠ 5
theorem BufAt.lt {T : TypeId} {B b : Nat} {p : Value} {bs rest : List Value} {w : World} (h : BufAt T B b p bs rest w) : b < w.heap.size := by
  obtain ⟨_, v, hb, _⟩ := h
  rcases Nat.lt_or_ge b w.heap.size with h' | h'
  · exact h'
  · simp [Array.getElem?_eq_none h'] at hb
theorem BufAt.cell {T : TypeId} {B b : Nat} {p : Value} {bs rest : List Value} {w : World} (h : BufAt T B b p bs rest w) (j : Nat) (v : Value) (hv : rest[j]? = some v) : w.cell? ⟨b, j + 2, none⟩ = some v := by
  obtain ⟨_, v', hb, _⟩ := h
  rw [Lib.cell_of_heap hb]; simpa using hv
theorem BufAt.cell0 {T : TypeId} {B b : Nat} {p : Value} {bs rest : List Value} {w : World} (h : BufAt T B b p bs rest w) : w.cell? ⟨b, 0, none⟩ = some p := by
  obtain ⟨_, v', hb, _⟩ := h
  rw [Lib.cell_of_heap hb]; rfl
theorem BufAt.frozen {T : TypeId} {B b : Nat} {p : Value} {bs rest : List Value} {w : World} (h : BufAt T B b p bs rest w) (j : Nat) : w.frozen? ⟨b, j, none⟩ = false := by
  obtain ⟨_, v', hb, _⟩ := h
  exact Lib.frozen_of_heap hb j
theorem BufAt.shape {T : TypeId} {B b : Nat} {p : Value} {bs rest : List Value} {w : World} (h : BufAt T B b p bs rest w) : w.shape? b = some (T, rest.length + 2) := by
  obtain ⟨_, v, hb, _⟩ := h
  simp [World.shape?, hb]
theorem BufAt.kept {T : TypeId} {B b : Nat} {p : Value} {bs rest : List Value} {w : World} {w' : World} (h : BufAt T B b p bs rest w) (hB : Below w.heap.size w w') : BufAt T B b p bs rest w' := by
  have hlt := h.lt
  obtain ⟨hBb, v, hb, hown, hne⟩ := h
  refine ⟨hBb, v, (hB.block b hlt).trans hb, ⟨hown.1, ?_⟩, hne⟩
  rcases hown.2 with h0 | ⟨g, cap, cur, hv, h1, h2, h3⟩
  · exact .inl h0
  · refine .inr ⟨g, cap, cur, hv, h1, (hB.block g ?_).trans h2, h3⟩
    exact (hown.lt g (by rw [hv]; rfl)).2
theorem BufAt.used {T : TypeId} {B b : Nat} {p : Value} {bs rest : List Value} {w : World} (h : BufAt T B b p bs rest w) (q : Value) : BufAt T B b q bs rest (w.setCell ⟨b, 0, none⟩ q) := by
  have hlt := h.lt
  obtain ⟨hB, v, hb, hown, hne⟩ := h
  refine ⟨hB, v, ?_, ?_, hne⟩
  · simp [World.setCell, Array.getElem?_modify, hb]
  · exact hown.kept (row := some b) ⟨rfl, rfl, rfl, by simp [World.setCell], fun k _ hk => Below.heap_setCell _ _ _ _ (fun e => hk (by simp [e]))⟩ (Or.inr hne)
theorem BufAt.put {T : TypeId} {B b : Nat} {p : Value} {rest : List Value} {w : World} {v v' : Value} {bs' : List Value} (hB : B ≤ b) (hb : w.heap[b]? = some (.cells (p :: v :: rest).toArray T (0, 0))) (hown : w.ownsRow B 5 1 v' bs'.length bs') (hTe : T ≠ 5) :
    BufAt T B b p bs' rest (w.setCell ⟨b, 1, none⟩ v') := by
  have hne := Lib.ownBlock_ne hown hb hTe
  refine ⟨hB, v', ?_, ?_, hne⟩
  · simp [World.setCell, Array.getElem?_modify, hb]
  · exact hown.kept (row := some b) ⟨rfl, rfl, rfl, by simp [World.setCell], fun k _ hk => Below.heap_setCell _ _ _ _ (fun e => hk (by simp [e]))⟩ (Or.inr hne)
/-- another part of the variable is written -/
theorem BufAt.set {T : TypeId} {B b : Nat} {p : Value} {bs rest : List Value} {w : World} (h : BufAt T B b p bs rest w) (j : Nat) (x : Value) : BufAt T B b p bs (rest.set j x) (w.setCell ⟨b, j + 2, none⟩ x) := by
  obtain ⟨hB, v, hb, hown, hne⟩ := h
  refine ⟨hB, v, ?_, ?_, hne⟩
  · simp [World.setCell, Array.getElem?_modify, hb]
  · exact hown.kept (row := some b) ⟨rfl, rfl, rfl, by simp [World.setCell], fun k _ hk => Below.heap_setCell _ _ _ _ (fun e => hk (by simp [e]))⟩ (Or.inr hne)
set_option maxHeartbeats 1000000 in
set_option maxRecDepth 100000 in
theorem copy_used (b : Nat) (w : World) (h0 : w.cell? ⟨b, 0, none⟩ = some (.pointer (some ⟨b, 0, none⟩))) :
    Calls Tryz.prog 195 #[.pointer (some ⟨b, 0, none⟩)] w fun e w' => e = .returned (.tuple #[]) ∧ w' = w := by
  obtain ⟨j, hj, _⟩ := Option.map_eq_some_iff.1 (show (Tryz.prog.info? 177).map (·.size) = some 2 by kernel_rfl)
  go_enter Tryz.func195, Tryz.ntmps195
  go_wp2
  rw [Lib.run_neq_ptr_same w _ Tryz.underlying175 hj]
  go_wp2
  go_end0
  exact ⟨rfl, rfl⟩
set_option maxHeartbeats 1000000 in
set_option maxRecDepth 100000 in
theorem copy_fresh {T : TypeId} (b n : Nat) (w : World) (L : BufType T (n + 2)) (h0 : w.cell? ⟨b, 0, none⟩ = some (.pointer none)) (hsh : w.shape? b = some (T, n + 2)) (hfz : w.frozen? ⟨b, 0, none⟩ = false) :
    Calls Tryz.prog 195 #[.pointer (some ⟨b, 0, none⟩)] w fun e w' => e = .returned (.tuple #[]) ∧ w' = w.setCell ⟨b, 0, none⟩ (.pointer (some ⟨b, 0, none⟩)) := by
  obtain ⟨j, hj, hjs⟩ := Option.map_eq_some_iff.1 (show (Tryz.prog.info? 177).map (·.size) = some 2 by kernel_rfl)
  go_enter Tryz.func195, Tryz.ntmps195
  go_wp2
  rw [Lib.run_to_unsafe w ⟨b, 0, none⟩ Tryz.underlying175 Tryz.underlying261 hj (by rw [hjs]; decide) hsh (Nat.zero_lt_succ _)]
  simp only [Result.andThen]
  rw [Oper.upon_value]
  go_wp2
  rw [run_callFunc_extern Tryz.func223 (by kernel_rfl) (by kernel_rfl) (by kernel_rfl) (e := Extern.AbiNoEscape.same) (by kernel_rfl)]
  rw [Lib.run_noEscape]
  simp only [Result.andThen]
  rw [Oper.upon_value]
  go_wp2
  rw [Lib.run_from_unsafe w ⟨b, 0, none⟩ Tryz.underlying261 Tryz.underlying175 hj hsh L.lies]
  simp only [Result.andThen]
  rw [Oper.upon_value]
  go_wp2
  go_end0
  exact ⟨rfl, rfl⟩
theorem copy_any {T : TypeId} {B b : Nat} {bs rest : List Value} (w : World) (L : BufType T (rest.length + 2)) (h : IsBuf T B b bs rest w) :
    Calls Tryz.prog 195 #[.pointer (some ⟨b, 0, none⟩)] w fun e w' => e = .returned (.tuple #[]) ∧ (BufAt T B b (.pointer (some ⟨b, 0, none⟩)) bs rest w' ∧ Below B w w') := by
  rcases h with h | h
  · refine (copy_fresh b rest.length w L h.cell0 h.shape (h.frozen 0)).mono ?_
    rintro e w' ⟨rfl, rfl⟩
    exact ⟨rfl, h.used _, (Below.refl B w).setCell (p := ⟨b, 0, none⟩) h.1 _⟩
  · refine (copy_used b w h.cell0).mono ?_
    rintro e w' ⟨rfl, rfl⟩
    exact ⟨rfl, h, Below.refl B _⟩
set_option maxHeartbeats 2000000 in
set_option maxRecDepth 100000 in
theorem bufByte {T : TypeId} {B b : Nat} {bs rest : List Value} (c : Int) (w : World) (L : BufType T (rest.length + 2)) (h : IsBuf T B b bs rest w) (hlen : bs.length + 1 ≤ 140737488355328) (hBw : B ≤ w.heap.size) :
    Calls Tryz.prog 147 #[.pointer (some ⟨b, 0, none⟩), .int .u8 c] w fun e w' => e = .returned .nilIface ∧ (BufAt T B b (.pointer (some ⟨b, 0, none⟩)) (bs ++ [.int .u8 c]) rest w' ∧ Below B w w') := by
  have hinfo : (Tryz.prog.info? 5).map (fun i => (i.zero, i.size, i.bytes)) = some (some (.int .u8 0), 1, 1) := by kernel_rfl
  obtain ⟨i0, hi, hz0, hz1, hz2⟩ := info_parts hinfo
  have C := Lib.hid (copy_any w L h)
  have HI := Lib.hid hi
  clear hi hinfo
  go_enter Tryz.func147, Tryz.ntmps147
  go_wp2_with fail
  refine C.out.mono ?_
  rintro e w1 ⟨rfl, h1, hb1⟩
  obtain ⟨hB, v, hbk, hown, hne⟩ := h1
  have c0 : w1.cell? ⟨b, 0, none⟩ = some (.pointer (some ⟨b, 0, none⟩)) := by rw [Lib.cell_of_heap hbk]; rfl
  have c1 : w1.cell? ⟨b, 1, none⟩ = some v := by rw [Lib.cell_of_heap hbk]; rfl
  go_wp2_with (at_builtin; refine wpList_append_own _ rfl _ _ 144 rfl B 5 i0 (.int .u8 0) 1 1 Tryz.underlying144 HI.out hz0 hz1 hz2 rfl (by decide) _ _ _ rfl (hown.alloc _) ⟨w1.heap.size, 0, none⟩ 1 1 [.int .u8 c] rfl rfl ?c1 ?c2 ?c3 ?c4 ?c5 ?_)
  case c1 =>
    intro j u hj
    match j, hj with
    | 0, hj => simp at hj; subst hj; simp [Addr.add]
  case c2 => intro u hu; simp at hu; subst hu; rfl
  case c3 => unfold maxLen; omega
  case c4 => omega
  case c5 => have := hb1.size; simp; omega
  intro v' w2 hown' hgrow _
  have hlt : b < w1.heap.size := by
    rcases Nat.lt_or_ge b w1.heap.size with h' | h'
    · exact h'
    · simp [Array.getElem?_eq_none h'] at hbk
  have hb2 : w2.heap[b]? = some (.cells (.pointer (some ⟨b, 0, none⟩) :: v :: rest).toArray T (0, 0)) := by
    rw [hgrow.block b (by simp; omega) (fun e => hne e.symm), Lib.alloc_old w1 _ b hlt]
    exact hbk
  have d0 : w2.cell? ⟨b, 0, none⟩ = some (.pointer (some ⟨b, 0, none⟩)) := by rw [Lib.cell_of_heap hb2]; rfl
  have d1 : w2.cell? ⟨b, 1, none⟩ = some v := by rw [Lib.cell_of_heap hb2]; rfl
  have f1 : w2.frozen? ⟨b, 1, none⟩ = false := Lib.frozen_of_heap hb2 1
  obtain ⟨g, cap, rfl⟩ : ∃ g cap, v' = .slice (some ⟨g, 0, none⟩) (bs.length + 1) cap := by
    rcases hown'.2 with ⟨_, h0⟩ | ⟨g, cap, cur, hv, _⟩
    · omega
    · exact ⟨g, cap, hv⟩
  go_wp2_with fail
  go_ret
  refine ⟨rfl, ?_, ?_⟩
  · exact BufAt.put hB hb2 (bs' := bs ++ [.int .u8 c]) (by simpa using hown') L.ne
  · exact ((hb1.alloc (by have := hb1.size; omega) _).grown hgrow (by have := hb1.size; simp; omega) (fun k hk => (hown.lt k hk).1)).setCell (p := ⟨b, 1, none⟩) hB _
set_option maxHeartbeats 2000000 in
set_option maxRecDepth 100000 in
theorem bufString {T : TypeId} {B b : Nat} {bs rest : List Value} (s : ByteArray) (w : World) (L : BufType T (rest.length + 2)) (h : IsBuf T B b bs rest w) (hlen : bs.length + s.size ≤ 140737488355328) (hBw : B ≤ w.heap.size) :
    Calls Tryz.prog 193 #[.pointer (some ⟨b, 0, none⟩), .string s] w fun e w' => e = .returned (.tuple #[.int .i64 s.size, .nilIface]) ∧ (BufAt T B b (.pointer (some ⟨b, 0, none⟩)) (bs ++ Lib.strCells s) rest w' ∧ Below B w w') := by
  have hinfo : (Tryz.prog.info? 5).map (fun i => (i.zero, i.size, i.bytes)) = some (some (.int .u8 0), 1, 1) := by kernel_rfl
  obtain ⟨i0, hi, hz0, hz1, hz2⟩ := info_parts hinfo
  have C := Lib.hid (copy_any w L h)
  have HI := Lib.hid hi
  clear hi hinfo
  go_enter Tryz.func193, Tryz.ntmps193
  go_wp2_with fail
  refine C.out.mono ?_
  rintro e w1 ⟨rfl, h1, hb1⟩
  obtain ⟨hB, v, hbk, hown, hne⟩ := h1
  have c0 : w1.cell? ⟨b, 0, none⟩ = some (.pointer (some ⟨b, 0, none⟩)) := by rw [Lib.cell_of_heap hbk]; rfl
  have c1 : w1.cell? ⟨b, 1, none⟩ = some v := by rw [Lib.cell_of_heap hbk]; rfl
  go_wp2_with (at_builtin; refine Lib.wpList_append_own_string _ rfl _ _ 144 9 rfl B 5 i0 Tryz.underlying144 Tryz.underlying9 HI.out hz0 hz1 hz2 _ _ _ rfl hown s rfl ?c3 ?c4 ?c5 ?_)
  case c3 => unfold maxLen; omega
  case c4 => omega
  case c5 => have := hb1.size; omega
  intro v' w2 hown' hgrow _
  have hlt : b < w1.heap.size := by
    rcases Nat.lt_or_ge b w1.heap.size with h' | h'
    · exact h'
    · simp [Array.getElem?_eq_none h'] at hbk
  have hb2 : w2.heap[b]? = some (.cells (.pointer (some ⟨b, 0, none⟩) :: v :: rest).toArray T (0, 0)) := by
    rw [hgrow.block b hlt (fun e => hne e.symm)]
    exact hbk
  have d0 : w2.cell? ⟨b, 0, none⟩ = some (.pointer (some ⟨b, 0, none⟩)) := by rw [Lib.cell_of_heap hb2]; rfl
  have d1 : w2.cell? ⟨b, 1, none⟩ = some v := by rw [Lib.cell_of_heap hb2]; rfl
  have f1 : w2.frozen? ⟨b, 1, none⟩ = false := Lib.frozen_of_heap hb2 1
  obtain ⟨ao, n', cap, rfl⟩ : ∃ ao n' cap, v' = .slice ao n' cap := by
    rcases hown'.2 with ⟨hv, _⟩ | ⟨g, cap, cur, hv, _⟩
    · exact ⟨_, _, _, hv⟩
    · exact ⟨_, _, _, hv⟩
  go_wp2_with fail
  go_ret2
  refine ⟨rfl, ?_, ?_⟩
  · exact BufAt.put hB hb2 (bs' := bs ++ Lib.strCells s) (by simpa [Lib.strCells_length] using hown') L.ne
  · exact (hb1.grown hgrow (by have := hb1.size; omega) (fun k hk => (hown.lt k hk).1)).setCell (p := ⟨b, 1, none⟩) hB _
set_option maxHeartbeats 1000000 in
set_option maxRecDepth 100000 in
/-- the string of a builder that holds at least one byte -/
theorem bufTold {T : TypeId} {B b : Nat} {p : Value} {rest : List Value} (l : List UInt8) (w : World) (h : BufAt T B b p (Lib.byteCells l) rest w) (h0 : l ≠ []) :
    Calls Tryz.prog 148 #[.pointer (some ⟨b, 0, none⟩)] w fun e w' => e = .returned (.string ⟨l.toArray⟩) ∧ Below B w w' := by
  obtain ⟨hB, v, hbk, hown, hne⟩ := h
  have hl0 : l.length ≠ 0 := by simpa using h0
  rw [Lib.byteCells_length] at hown
  obtain ⟨g, cap, cur, rfl, hbg, hg, hnc, hcm, hcs, htake⟩ : ∃ g cap cur, v = .slice (some ⟨g, 0, none⟩) l.length cap ∧ B ≤ g ∧ w.heap[g]? = some (.cells cur 5 (0, 0)) ∧ l.length ≤ cap ∧ cap ≤ maxLen ∧ cur.size = cap * 1 ∧ cur.toList.take (l.length * 1) = Lib.byteCells l := by
    rcases hown.2 with ⟨_, hz⟩ | ⟨g, cap, cur, hv, r⟩
    · exact absurd hz hl0
    · exact ⟨g, cap, cur, hv, r⟩
  have c1 : w.drew.cell? ⟨b, 1, none⟩ = some (.slice (some ⟨g, 0, none⟩) l.length cap) := by
    have : w.drew.heap[b]? = some (.cells (p :: .slice (some ⟨g, 0, none⟩) l.length cap :: rest).toArray T (0, 0)) := hbk
    rw [Lib.cell_of_heap this]; rfl
  have c1' : w.cell? ⟨b, 1, none⟩ = some (.slice (some ⟨g, 0, none⟩) l.length cap) := c1
  have hSD : (Builtin.unsafeSliceData_ #[144] 216 #[.slice (some ⟨g, 0, none⟩) l.length cap]).run Tryz.prog w.drew = .ok (.pointer (some ⟨g, 0, none⟩)) w.drew :=
    Lib.run_unsafeSliceData_row _ _ _ _ _ _ (by omega)
  have hUS : (Builtin.unsafeString_ #[216, 3] 9 #[.pointer (some ⟨g, 0, none⟩), .int .i64 l.length]).run Tryz.prog w.drew = .ok (.string ⟨l.toArray⟩) (w.drew.freeze ⟨g, 0, none⟩ l.length) := by
    refine Lib.run_unsafeString_row w.drew 216 3 9 5 Tryz.underlying216 (by kernel_rfl) g cur.size (by have hg' : w.drew.heap[g]? = some (.cells cur 5 (0, 0)) := hg; simp [World.shape?, hg']) l h0 (by omega) (by unfold maxLen at hcm; omega) ?_
    intro j x hx
    have := hown.cells (g := g) rfl j (.int .u8 x.toNat) (by simp [Lib.byteCells, hx])
    exact this
  go_enter Tryz.func148, Tryz.ntmps148
  go_wp2_with fail
  go_region
  all_goals (go_wp2_with fail; go_ret; exact ⟨rfl, Lib.below_freeze (Below.drew (Below.refl B w)) (p := ⟨g, 0, none⟩) hbg _⟩)
end Go.Proofs.YtdenehnneloegaaGreatDoor.Q
namespace Go.Proofs.YtdenehnneloegaaGreatDoor.Q
/-- how many bytes the break has that stands at i -/
def brk (l : List UInt8) (i : Nat) : Nat :=
  match l[i]? with
  | none => 0
  | some c => if c = 10 then 1 else if c = 13 ∧ l[i + 1]? = some 10 then 2 else 0
/-- what ends a field at i: its kind and its size; kind 0: nothing -/
def endAt (l : List UInt8) (d : Int) (i : Nat) : Nat × Nat :=
  match l[i]? with
  | none => (3, 0)
  | some c => if (c.toNat : Int) = d then (1, 1) else if brk l i = 0 then (0, 0) else (2, brk l i)
def faultAt (l : List UInt8) (i : Nat) : Nat :=
  match l[i]? with
  | none => 0
  | some c => if c = 34 then 3 else if c = 13 then 6 else 0
def stops (l : List UInt8) (d : Int) (i : Nat) : Bool := (endAt l d i).1 != 0 || faultAt l i != 0
def stopIn (l : List UInt8) (d : Int) : Nat → Nat → Nat
  | 0, i => i
  | n + 1, i => if stops l d i = true then i else stopIn l d n (i + 1)
def stopOf (l : List UInt8) (d : Int) (i : Nat) : Nat := stopIn l d (l.length - i) i
def plainOut (l : List UInt8) (d : Int) (a : Nat) : List UInt8 × Int × Nat × Nat :=
  if (endAt l d (stopOf l d a)).1 = 0 then ([], (stopOf l d a : Int), 0, faultAt l (stopOf l d a))
  else ((l.take (stopOf l d a)).drop a, (stopOf l d a : Int) + ((endAt l d (stopOf l d a)).2 : Int), (endAt l d (stopOf l d a)).1, 0)
def quotedOut (l : List UInt8) (d : Int) (a : Nat) : List UInt8 × Int × Nat × Nat :=
  if (getL (l.drop a)).2.2 ≠ 0 then ([], (a : Int), 0, (getL (l.drop a)).2.2)
  else if (endAt l d (a + (getL (l.drop a)).2.1)).1 = 0 then ([], ((a + (getL (l.drop a)).2.1 : Nat) : Int), 0, 5)
  else ((getL (l.drop a)).1, ((a + (getL (l.drop a)).2.1 : Nat) : Int) + ((endAt l d (a + (getL (l.drop a)).2.1)).2 : Int), (endAt l d (a + (getL (l.drop a)).2.1)).1, 0)
def fieldOut (l : List UInt8) (a : Int) (d : Int) : List UInt8 × Int × Nat × Nat :=
  if a < 0 ∨ (l.length : Int) < a then ([], a, 0, 11)
  else if goodI d = false then ([], a, 0, 2)
  else if l[a.toNat]? = some 34 then quotedOut l d a.toNat
  else plainOut l d a.toNat
/-- a record's cells, with the byte between -/
def restL (d : UInt8) (r : List (List UInt8)) : List UInt8 := r.flatMap fun c => d :: putL c (d.toNat : Int)
def recL (d : UInt8) : List (List UInt8) → List UInt8
  | [] => []
  | c :: r => putL c (d.toNat : Int) ++ restL d r
def brkL (crlf : Bool) : List UInt8 := if crlf = true then [13, 10] else [10]
def writeL (r : List (List UInt8)) (d : UInt8) (crlf : Bool) : List UInt8 := recL d r ++ brkL crlf
theorem stopIn_eq (l : List UInt8) (d : Int) (n : Nat) : ∀ i j, i + n = l.length → i ≤ j → j ≤ l.length → (∀ k, i ≤ k → k < j → stops l d k = false) → stops l d j = true → stopIn l d n i = j := by
  induction n with
  | zero => intro i j h1 h2 h3 _ _; simp only [stopIn]; omega
  | succ n ih =>
    intro i j h1 h2 h3 hno hyes
    unfold stopIn
    by_cases hij : i = j
    · subst hij; simp [hyes]
    · rw [hno i (Nat.le_refl _) (by omega)]
      simp only [Bool.false_eq_true, if_false]
      exact ih (i + 1) j (by omega) (by omega) h3 (fun k hk1 hk2 => hno k (by omega) hk2) hyes
theorem stopOf_eq (l : List UInt8) (d : Int) (i j : Nat) (hij : i ≤ j) (hj : j ≤ l.length) (hno : ∀ k, i ≤ k → k < j → stops l d k = false) (hyes : stops l d j = true) : stopOf l d i = j :=
  stopIn_eq l d _ i j (by omega) hij hj hno hyes
theorem recL_snoc (d : UInt8) (r : List (List UInt8)) (c : List UInt8) : recL d (r ++ [c]) = recL d r ++ (if r.isEmpty = true then [] else [d]) ++ putL c (d.toNat : Int) := by
  cases r with
  | nil => simp [recL, restL]
  | cons x y => simp [recL, restL]
end Go.Proofs.YtdenehnneloegaaGreatDoor.Q
namespace Go.Proofs.YtdenehnneloegaaGreatDoor.Q
open Go.RowKit Go.Shelf
theorem recType : BufType 179 4 := ⟨by kernel_rfl, by decide⟩
def RecOf (B b : Nat) (l : List UInt8) (d : UInt8) (m : Bool) (w : World) : Prop := IsBuf 179 B b (Lib.byteCells l) [.int .u8 (d.toNat : Int), .bool m] w
theorem RecOf.cells {B b : Nat} {l : List UInt8} {d : UInt8} {m : Bool} {w : World} (h : RecOf B b l d m w) : (w.cell? ⟨b, 2, none⟩ = some (.int .u8 (d.toNat : Int)) ∧ w.cell? ⟨b, 3, none⟩ = some (.bool m)) ∧ w.frozen? ⟨b, 3, none⟩ = false ∧ b < w.heap.size := by
  rcases h with h | h
  · exact ⟨⟨h.cell 0 _ rfl, h.cell 1 _ rfl⟩, h.frozen 3, h.lt⟩
  · exact ⟨⟨h.cell 0 _ rfl, h.cell 1 _ rfl⟩, h.frozen 3, h.lt⟩
theorem RecOf.kept {B b : Nat} {l : List UInt8} {d : UInt8} {m : Bool} {w w' : World} (h : RecOf B b l d m w) (hB : Below w.heap.size w w') : RecOf B b l d m w' := by
  rcases h with h | h
  · exact .inl (h.kept hB)
  · exact .inr (h.kept hB)
theorem RecOf.more {B b : Nat} {l : List UInt8} {d : UInt8} {m : Bool} {w : World} (h : RecOf B b l d m w) : RecOf B b l d true (w.setCell ⟨b, 3, none⟩ (.bool true)) := by
  rcases h with h | h
  · exact .inl (h.set 1 (.bool true))
  · exact .inr (h.set 1 (.bool true))
theorem RecOf.le {B b : Nat} {l : List UInt8} {d : UInt8} {m : Bool} {w : World} (h : RecOf B b l d m w) : B ≤ b := by
  rcases h with h | h
  · exact h.1
  · exact h.1
theorem str_byte (l : List UInt8) (s : ByteArray) : Lib.byteCells l ++ Lib.strCells s = Lib.byteCells (l ++ s.data.toList) := by
  simp [Lib.byteCells, Lib.strCells]
theorem one_byte (l : List UInt8) (d : UInt8) : Lib.byteCells l ++ [.int .u8 (d.toNat : Int)] = Lib.byteCells (l ++ [d]) := by
  simp [Lib.byteCells]
theorem recByte (B b : Nat) (l : List UInt8) (d c : UInt8) (m : Bool) (w : World) (h : RecOf B b l d m w) (hl : l.length ≤ 2199023255552) (hBw : B ≤ w.heap.size) :
    Calls Tryz.prog 147 #[.pointer (some ⟨b, 0, none⟩), .int .u8 (c.toNat : Int)] w fun e w' => e = .returned .nilIface ∧ (RecOf B b (l ++ [c]) d m w' ∧ Below B w w') := by
  refine (bufByte (c.toNat : Int) w recType h (by rw [Lib.byteCells_length]; omega) hBw).mono ?_
  rintro e w' ⟨rfl, h1, h2⟩
  rw [one_byte] at h1
  exact ⟨rfl, .inr h1, h2⟩
theorem recString (B b : Nat) (l : List UInt8) (d : UInt8) (c : ByteArray) (m : Bool) (w : World) (h : RecOf B b l d m w) (hl : l.length ≤ 2199023255552) (hc : c.size ≤ 2199023255552) (hBw : B ≤ w.heap.size) :
    Calls Tryz.prog 193 #[.pointer (some ⟨b, 0, none⟩), .string c] w fun e w' => e = .returned (.tuple #[.int .i64 c.size, .nilIface]) ∧ (RecOf B b (l ++ c.data.toList) d m w' ∧ Below B w w') := by
  refine (bufString c w recType h (by rw [Lib.byteCells_length]; omega) hBw).mono ?_
  rintro e w' ⟨rfl, h1, h2⟩
  rw [str_byte] at h1
  exact ⟨rfl, .inr h1, h2⟩
theorem putL_le (l : List UInt8) (d : Int) : (putL l d).length ≤ 2 * l.length + 2 := by
  unfold putL; split
  · omega
  · have := quoted_length l; have := cnt_le l; omega
set_option maxHeartbeats 2000000 in
set_option maxRecDepth 100000 in
theorem qadd_any (B b : Nat) (l : List UInt8) (d : UInt8) (m : Bool) (c : ByteArray) (w : World) (h : RecOf B b l d m w) (hl : l.length ≤ 1099511627776) (hc : c.size ≤ 1048576) (hBw : B ≤ w.heap.size) :
    Calls Tryz.prog 146 #[.pointer (some ⟨b, 0, none⟩), .string c] w fun e w' => e = .returned (.tuple #[]) ∧ RecOf B b (l ++ (if m = true then [d] else []) ++ putL c.data.toList (d.toNat : Int)) d true w' ∧ Below B w w' := by
  have Pc := Lib.hid (fun w => qput_any c (d.toNat : Int) w (by omega))
  have hPs : ∃ P : ByteArray, Hid (P = ⟨(putL c.data.toList (d.toNat : Int)).toArray⟩) ∧ P.size ≤ 2097154 := by
    refine ⟨_, Lib.hid rfl, ?_⟩
    have h1 := putL_le c.data.toList (d.toNat : Int); have h3 := ba_size c
    rw [ba_mk_size (putL c.data.toList (d.toNat : Int))]; omega
  obtain ⟨P, HP, hP⟩ := hPs
  rw [← HP.out] at Pc
  have hPl : Hid (P.data.toList = putL c.data.toList (d.toNat : Int)) := Lib.hid (by rw [HP.out])
  clear HP
  have H := Lib.hid h
  obtain ⟨⟨c2, c3⟩, f3, hlt⟩ := h.cells
  clear h
  cases m with
  | true =>
    go_enter Tryz.func146, Tryz.ntmps146
    go_wp2_with fail
    go_still_tail 7, (by kernel_rfl)
    change wpList _ _ _ _ _ w.drew
    have H1 : Hid (RecOf B b l d true w.drew) := H
    have B1 : Hid (Below B w w.drew) := Lib.hid (Below.refl B w).drew
    have hBw1 : B ≤ w.drew.heap.size := hBw
    clear c2 c3 f3 H hBw
    generalize w.drew = w1 at H1 B1 hBw1
    go_wp2_with fail
    refine (recByte B b l d d true w1 H1.out (by omega) hBw1).mono ?_
    rintro e w2 ⟨rfl, h2, b2⟩
    obtain ⟨⟨c2, c3⟩, f3, hlt2⟩ := h2.cells
    have c2' : w2.drew.cell? ⟨b, 2, none⟩ = some (.int .u8 (d.toNat : Int)) := c2
    have H3 : Hid (RecOf B b (l ++ [d]) d true w2.drew) := Lib.hid h2
    have B3 : Hid (Below B w w2.drew) := Lib.hid (B1.out.trans b2).drew
    have hBw3 : B ≤ w2.drew.heap.size := Nat.le_trans hBw1 b2.size
    clear h2 b2 H1 B1 hlt
    go_wp2_with fail
    go_region_with (first
      | (go_at_call 194; refine (Pc.out _).mono ?_; rintro e w4 ⟨rfl, b4⟩)
      | (go_at_call 193; refine (recString B b (l ++ [d]) d P true _ (H3.out.kept b4) (by simp; omega) (by omega) (Nat.le_trans hBw3 b4.size)).mono ?_; rintro e w5 ⟨rfl, h5, b5⟩))
    all_goals obtain ⟨⟨c2, c3⟩, f3, hlt5⟩ := h5.cells
    all_goals have H5 := Lib.hid h5
    all_goals have B5 := Lib.hid ((B3.out.trans (b4.mono hBw3)).trans b5)
    all_goals clear h5 b5 b4
    all_goals go_wp2_with fail
    all_goals go_end0
    all_goals refine ⟨rfl, ?_, B5.out.setCell (p := ⟨b, 3, none⟩) H5.out.le _⟩
    all_goals have hm := H5.out.more
    all_goals rw [hPl.out] at hm
    all_goals simpa using hm
  | false =>
    have c2' : w.drew.cell? ⟨b, 2, none⟩ = some (.int .u8 (d.toNat : Int)) := c2
    have H3 : Hid (RecOf B b l d false w.drew) := H
    have B3 : Hid (Below B w w.drew) := Lib.hid (Below.refl B w).drew
    have hBw3 : B ≤ w.drew.heap.size := hBw
    clear H hlt
    go_enter Tryz.func146, Tryz.ntmps146
    go_wp2_with fail
    go_region_with (first
      | (go_at_call 194; refine (Pc.out _).mono ?_; rintro e w4 ⟨rfl, b4⟩)
      | (go_at_call 193; refine (recString B b l d P false _ (H3.out.kept b4) (by omega) (by omega) (Nat.le_trans hBw3 b4.size)).mono ?_; rintro e w5 ⟨rfl, h5, b5⟩))
    all_goals obtain ⟨⟨c2, c3⟩, f3, hlt5⟩ := h5.cells
    all_goals have H5 := Lib.hid h5
    all_goals have B5 := Lib.hid ((B3.out.trans (b4.mono hBw3)).trans b5)
    all_goals clear h5 b5 b4
    all_goals go_wp2_with fail
    all_goals go_end0
    all_goals refine ⟨rfl, ?_, B5.out.setCell (p := ⟨b, 3, none⟩) H5.out.le _⟩
    all_goals have hm := H5.out.more
    all_goals rw [hPl.out] at hm
    all_goals simpa using hm
end Go.Proofs.YtdenehnneloegaaGreatDoor.Q
namespace Go.Proofs.YtdenehnneloegaaGreatDoor.Q
open Go.RowKit Go.Shelf
theorem restL_le (d : UInt8) (r : List (List UInt8)) (h : ∀ c ∈ r, c.length ≤ 100000) : (restL d r).length ≤ 200003 * r.length := by
  induction r with
  | nil => simp [restL]
  | cons c r ih =>
    have h1 := putL_le c (d.toNat : Int)
    have h2 := h c (by simp)
    have h3 := ih (fun c hc => h c (by simp [hc]))
    simp only [restL, List.flatMap_cons, List.length_append, List.length_cons] at h3 ⊢
    omega
theorem recL_le (d : UInt8) (r : List (List UInt8)) (h : ∀ c ∈ r, c.length ≤ 100000) : (recL d r).length ≤ 200003 * r.length := by
  cases r with
  | nil => simp [recL]
  | cons c r =>
    have h1 := putL_le c (d.toNat : Int)
    have h2 := h c (by simp)
    have h3 := restL_le d r (fun c hc => h c (by simp [hc]))
    simp only [recL, List.length_append, List.length_cons]
    omega
theorem bytes_take (xs : List ByteArray) (k : Nat) (c : ByteArray) (hc : xs[k]? = some c) : bytesOf (xs.take (k + 1)) = bytesOf (xs.take k) ++ [c.data.toList] := by
  obtain ⟨hk, e⟩ := List.getElem?_eq_some_iff.1 hc
  rw [List.take_succ_eq_append_getElem hk, e]; simp [bytesOf]
theorem rec_next (d : UInt8) (xs : List ByteArray) (k : Nat) (c : ByteArray) (hc : xs[k]? = some c) :
    recL d (bytesOf (xs.take (k + 1))) = recL d (bytesOf (xs.take k)) ++ (if decide (0 < k) = true then [d] else []) ++ putL c.data.toList (d.toNat : Int) := by
  obtain ⟨hk, e⟩ := List.getElem?_eq_some_iff.1 hc
  rw [bytes_take xs k c hc, recL_snoc]
  congr 2
  cases k with
  | zero => simp [bytesOf]
  | succ k => cases xs with
    | nil => simp at hk
    | cons x y => simp [bytesOf]
theorem bytes_le (xs : List ByteArray) (k : Nat) (h : ∀ c ∈ xs, c.size ≤ 100000) : ∀ c ∈ bytesOf (xs.take k), c.length ≤ 100000 := by
  intro c hc
  simp only [bytesOf, List.mem_map] at hc
  obtain ⟨x, hx, rfl⟩ := hc
  rw [ba_size]; exact h x (List.mem_of_mem_take hx)
theorem rec_le (d : UInt8) (xs : List ByteArray) (k : Nat) (hn : xs.length ≤ 1000) (h : ∀ c ∈ xs, c.size ≤ 100000) : (recL d (bytesOf (xs.take k))).length ≤ 200003000 := by
  have h1 := recL_le d _ (bytes_le xs k h)
  have h2 : (bytesOf (xs.take k)).length ≤ 1000 := by simp [bytesOf]; omega
  omega
set_option maxHeartbeats 2000000 in
theorem qeach_any (B b : Nat) (d : UInt8) (ao : Option Addr) (cap : Nat) (xs : List ByteArray) (w : World) (hn : xs.length ≤ 1000) (hx : ∀ c ∈ xs, c.size ≤ 100000) (hBw : B ≤ w.heap.size)
    (hR : xs = [] ∨ ∃ A, ao = some A ∧ A.block < B ∧ ∀ i c, xs[i]? = some c → w.cell? (A.add i) = some (.string c)) (h : RecOf B b [] d false w) :
    Calls Tryz.prog 145 #[.slice ao xs.length cap, .func (.func 146) #[.pointer (some ⟨b, 0, none⟩)] #[]] w fun e w' => e = .returned (.tuple #[]) ∧ RecOf B b (recL d (bytesOf xs)) d (decide (0 < xs.length)) w' ∧ Below B w w' := by
  have H := Lib.hid h
  clear h
  rcases hR with rfl | ⟨A, rfl, hA, hcell⟩
  · go_enter Tryz.func145, Tryz.ntmps145
    go_wp2_with fail
    go_loopw [8] (fun i wr => i = .int .i64 0 ∧ wr = w) (fun _ _ => 0)
    case atStart => exact ⟨rfl, rfl⟩
    case round =>
      obtain ⟨rfl, rfl⟩ := hrel
      go_wp2_with fail
      go_end0
      exact ⟨rfl, H.out, Below.refl _ _⟩
  · have HC := Lib.hid hcell
    have HX := Lib.hid hx
    clear hcell hx
    go_enter Tryz.func145, Tryz.ntmps145
    go_wp2_with fail
    go_loopw [8] (fun i wr => ∃ k : Nat, k ≤ xs.length ∧ i = .int .i64 k ∧ Hid (RecOf B b (recL d (bytesOf (xs.take k))) d (decide (0 < k)) wr) ∧ Hid (Below B w wr)) (fun i _ => xs.length - (intOf i).toNat)
    case atStart => exact ⟨0, Nat.zero_le _, rfl, H, Lib.hid (Below.refl _ _)⟩
    case round =>
      obtain ⟨k, hk, rfl, HR, HB⟩ := hrel
      by_cases hlt : k < xs.length
      · have hc := HC.out k xs[k] (List.getElem?_eq_getElem hlt)
        have hc' := (HB.out.cell (p := A.add k) (by rw [add_block]; exact hA)).trans hc
        have HN := Lib.hid (rec_next d xs k xs[k] (List.getElem?_eq_getElem hlt))
        have C := Lib.hid (qadd_any B b _ d _ xs[k] wr HR.out (by have := rec_le d xs k hn HX.out; omega) (by have := HX.out xs[k] (List.getElem_mem hlt); omega) (Nat.le_trans hBw HB.out.size))
        clear hc
        rw [← HN.out] at C
        generalize xs[k] = x at hc' C
        go_wp2_with fail
        refine C.out.mono ?_; rintro e w1 ⟨rfl, h1, b1⟩
        have H1 := Lib.hid h1
        have B1 := Lib.hid (HB.out.trans b1)
        clear h1 b1 HR HB C HN
        go_wp2_with fail
        go_roundw
        case rel => exact ⟨k + 1, by omega, by go_num, Lib.hid (by simpa using H1.out), B1⟩
        case measure => simp [intOf]; omega
      · obtain rfl : k = xs.length := by omega
        go_wp2_with fail
        go_end0
        refine ⟨rfl, ?_, HB.out⟩
        have := HR.out
        rwa [List.take_length] at this
end Go.Proofs.YtdenehnneloegaaGreatDoor.Q
namespace Go.Proofs.YtdenehnneloegaaGreatDoor.Q
open Go.RowKit Go.Shelf
theorem rec_fresh (d : UInt8) (w : World) : RecOf w.heap.size w.heap.size [] d false (w.alloc (.cells #[.pointer none, .slice none 0 0, .int .u8 (d.toNat : Int), .bool false] 179)) :=
  .inl ⟨Nat.le_refl _, .slice none 0 0, World.alloc_heap_new w _, World.ownsRow_nil _ _ _ _, by simp [Value.ownBlock]⟩
theorem recTold (B b : Nat) (l : List UInt8) (d : UInt8) (m : Bool) (w : World) (h : RecOf B b l d m w) (h0 : l ≠ []) :
    Calls Tryz.prog 148 #[.pointer (some ⟨b, 0, none⟩)] w fun e w' => e = .returned (.string ⟨l.toArray⟩) ∧ Below B w w' := by
  rcases h with h | h
  · exact bufTold l w h h0
  · exact bufTold l w h h0
theorem recByteI (B b : Nat) (l : List UInt8) (d c : UInt8) (i : Int) (m : Bool) (w : World) (hi : i = (c.toNat : Int)) (h : RecOf B b l d m w) (hl : l.length ≤ 2199023255552) (hBw : B ≤ w.heap.size) :
    Calls Tryz.prog 147 #[.pointer (some ⟨b, 0, none⟩), .int .u8 i] w fun e w' => e = .returned .nilIface ∧ (RecOf B b (l ++ [c]) d m w' ∧ Below B w w') := by
  subst hi; exact recByte B b l d c m w h hl hBw
set_option maxHeartbeats 2000000 in
theorem write_any (d : UInt8) (crlf : Bool) (ao : Option Addr) (cap : Nat) (xs : List ByteArray) (w : World) (hn : xs.length ≤ 1000) (hx : ∀ c ∈ xs, c.size ≤ 100000) (hR : StrRow w ao xs) :
    Calls Tryz.prog 94 #[.slice ao xs.length cap, .int .u8 (d.toNat : Int), .bool crlf] w fun e w' => e = .returned (.string ⟨(writeL (bytesOf xs) d crlf).toArray⟩) ∧ Below w.heap.size w w' := by
  have hl := rec_le d xs xs.length hn hx
  rw [List.take_length] at hl
  obtain ⟨W, hW⟩ : ∃ W, W = w.alloc (.cells #[.pointer none, .slice none 0 0, .int .u8 (d.toNat : Int), .bool false] 179) := ⟨_, rfl⟩
  have hB0 : Below w.heap.size w W := by rw [hW]; exact (Below.refl _ w).alloc (Nat.le_refl _) _
  have h0 : RecOf w.heap.size w.heap.size [] d false W := by rw [hW]; exact rec_fresh d w
  have C := Lib.hid (qeach_any w.heap.size w.heap.size d ao cap xs W hn hx hB0.size (by
    rcases hR with h | ⟨A, h1, h2, h3⟩
    · exact .inl h
    · exact .inr ⟨A, h1, h2, fun i c hc => (hB0.cell (p := A.add i) (by rw [add_block]; exact h2)).trans (h3 i c hc)⟩) h0)
  have HB0 := Lib.hid hB0
  clear hR h0 hx hB0
  have HW := Lib.hid hW
  have hwr : Hid (writeL (bytesOf xs) d crlf = recL d (bytesOf xs) ++ brkL crlf) := Lib.hid rfl
  rw [hwr.out]
  generalize recL d (bytesOf xs) = r at C hl
  clear hwr
  cases crlf with
  | true =>
    go_enter Tryz.func94, Tryz.ntmps94
    go_wp2_with fail
    rw [← HW.out]
    clear hW
    refine C.out.mono ?_; rintro e w1 ⟨rfl, h1, b1⟩
    have H1 := Lib.hid h1
    have B1 := Lib.hid (HB0.out.trans b1)
    clear h1 b1 HB0 C HW
    go_wp2_with fail
    refine (recByteI _ _ _ _ 13 13 _ w1 rfl H1.out (by omega) B1.out.size).mono ?_; rintro e w2 ⟨rfl, h2, b2⟩
    have H2 := Lib.hid h2
    have B2 := Lib.hid (B1.out.trans b2)
    clear h2 b2 H1 B1
    go_wp2_with fail
    refine (recByteI _ _ _ _ 10 10 _ w2 rfl H2.out (by simp; omega) B2.out.size).mono ?_; rintro e w3 ⟨rfl, h3, b3⟩
    have H3 := Lib.hid h3
    have B3 := Lib.hid (B2.out.trans b3)
    clear h3 b3 H2 B2
    go_wp2_with fail
    refine (recTold _ _ _ _ _ w3 H3.out (by simp)).mono ?_; rintro e w4 ⟨rfl, b4⟩
    go_wp2_with fail
    go_ret
    exact ⟨by simp [brkL], B3.out.trans b4⟩
  | false =>
    go_enter Tryz.func94, Tryz.ntmps94
    go_wp2_with fail
    rw [← HW.out]
    clear hW
    refine C.out.mono ?_; rintro e w1 ⟨rfl, h1, b1⟩
    have H1 := Lib.hid h1
    have B1 := Lib.hid (HB0.out.trans b1)
    clear h1 b1 HB0 C HW
    go_wp2_with fail
    refine (recByteI _ _ _ _ 10 10 _ w1 rfl H1.out (by omega) B1.out.size).mono ?_; rintro e w3 ⟨rfl, h3, b3⟩
    have H3 := Lib.hid h3
    have B3 := Lib.hid (B1.out.trans b3)
    clear h3 b3 H1 B1
    go_wp2_with fail
    refine (recTold _ _ _ _ _ w3 H3.out (by simp)).mono ?_; rintro e w4 ⟨rfl, b4⟩
    go_wp2_with fail
    go_ret
    exact ⟨by simp [brkL], B3.out.trans b4⟩
end Go.Proofs.YtdenehnneloegaaGreatDoor.Q
