/-
  Texts of these rows' proofs, laid one behind the other: KCand, KOnce.
  Conditions: those of each theorem.
-/
import Derived.Deep.AppendLies
import Derived.Deep.OwnRows
import Derived.WalkKit
import Derived.WalkMore
import Derived.IntWalk
import Derived.WalkArith
import Derived.OwnWalk
import Derived.Lib.Hide
import Derived.Test.YtdenehnneloegaaGreatDoorProg
import Derived.Test.YtdenehnneloegaaGreatDoorPb18
import Derived.Maps.Own
import Derived.Maps.OwnOps
namespace Go.Proofs.YtdenehnneloegaaGreatDoor
open Go.RowKit Go.Shelf Go.Maps
set_option linter.unusedVariables false
/-- a candidate: its name, and its column in each table -/
abbrev Cand := ByteArray × List Int
/-- as it is kept: its name, where its columns are, and which -/
abbrev CandV := ByteArray × Value × List Int
def plainC (c : CandV) : Cand := (c.1, c.2.2)
def cellsC (l : List CandV) : List Value := l.flatMap fun c => [.string c.1, c.2.1]
theorem cellsC_app (l m : List CandV) : cellsC (l ++ m) = cellsC l ++ cellsC m := by simp [cellsC]
theorem cellsC_at : ∀ (l : List CandV) (k : Nat) (c : CandV), l[k]? = some c → (cellsC l)[k * 2]? = some (.string c.1) ∧ (cellsC l)[k * 2 + 1]? = some c.2.1
  | a :: l, 0, c, h => by
    simp at h; subst h; exact ⟨rfl, rfl⟩
  | a :: l, k + 1, c, h => by
    have h1 := cellsC_at l k c (by simpa using h)
    have e : cellsC (a :: l) = .string a.1 :: a.2.1 :: cellsC l := rfl
    rw [e, show (k + 1) * 2 = k * 2 + 1 + 1 by omega, List.getElem?_cons_succ, List.getElem?_cons_succ]
    exact ⟨h1.1, by rw [List.getElem?_cons_succ, List.getElem?_cons_succ]; exact h1.2⟩
  | [], k, c, h => by simp at h
/-- a list of candidates somewhere -/
def CandsAt (w : World) (co : Option Addr) (cs : List Cand) : Prop :=
  cs = [] ∨ ∃ b o, co = some ⟨b, o, none⟩ ∧ b < w.heap.size ∧ ∀ (i : Nat) c, cs[i]? = some c → w.cell? ⟨b, o + i * 2, none⟩ = some (.string c.1) ∧
    ∃ (ao : Option Addr) (cap : Nat), w.cell? ⟨b, o + i * 2 + 1, none⟩ = some (.slice ao c.2.length cap) ∧ IntsAt w ao c.2
theorem CandsAt.kept {w w' : World} {co : Option Addr} {cs : List Cand} (h : CandsAt w co cs) (hB : Below w.heap.size w w') : CandsAt w' co cs := by
  rcases h with h | ⟨b, o, h1, h2, h3⟩
  · exact .inl h
  · refine .inr ⟨b, o, h1, Nat.lt_of_lt_of_le h2 hB.size, fun i c hc => ?_⟩
    obtain ⟨q1, ao, cap, q2, q3⟩ := h3 i c hc
    exact ⟨(hB.cell (p := ⟨b, _, none⟩) h2).trans q1, ao, cap, (hB.cell (p := ⟨b, _, none⟩) h2).trans q2, q3.kept hB⟩
/-- two that do not share where their columns are -/
def OwnApart (a b : CandV) : Prop := ∀ g, a.2.1.ownBlock = some g → b.2.1.ownBlock ≠ some g
theorem OwnApart.symm {a b : CandV} (h : OwnApart a b) : OwnApart b a := fun g hb ha => h g ha hb
/-- candidates of which each owns its columns -/
structure Owned (w : World) (base : Nat) (cs : List CandV) : Prop where
  each : ∀ c ∈ cs, w.ownsRow base 3 1 c.2.1 c.2.2.length (c.2.2.map (Value.int .i64))
  apart : cs.Pairwise OwnApart
theorem Owned.kept {w w' : World} {base : Nat} {cs : List CandV} (h : Owned w base cs) (hB : Below w.heap.size w w') : Owned w' base cs := ⟨fun c hc => ownsRow_below (h.each c hc) hB, h.apart⟩
theorem Owned.grown {w w' : World} {base : Nat} {cs : List CandV} {row : Option Nat} (h : Owned w base cs) (hg : w.grownBy w' row) (hne : ∀ c ∈ cs, c.2.1.ownBlock = none ∨ c.2.1.ownBlock ≠ row) : Owned w' base cs := ⟨fun c hc => (h.each c hc).kept hg (hne c hc), h.apart⟩
/-- a list of candidates that the code owns, with all that they own -/
structure OwnC (w : World) (base : Nat) (v : Value) (cs : List CandV) : Prop where
  list : w.ownsRow base 155 2 v cs.length (cellsC cs)
  owned : Owned w base cs
theorem OwnC.kept {w w' : World} {base : Nat} {v : Value} {cs : List CandV} (h : OwnC w base v cs) (hB : Below w.heap.size w w') : OwnC w' base v cs := ⟨ownsRow_below h.list hB, h.owned.kept hB⟩
/-- a list's block holds no numbers -/
theorem list_apart {w : World} {base : Nat} {v u : Value} {n m : Nat} {xs ys : List Value} (h : w.ownsRow base 155 2 v n xs) (k : w.ownsRow base 3 1 u m ys) : u.ownBlock = none ∨ u.ownBlock ≠ v.ownBlock := by
  rcases k.2 with ⟨rfl, _⟩ | ⟨g, cap, cur, rfl, _, hg, _⟩
  · exact .inl rfl
  · refine .inr fun e => ?_
    rcases h.2 with ⟨rfl, _⟩ | ⟨g', cap', cur', rfl, _, hg', _⟩
    · cases e
    · simp only [Value.ownBlock, Option.some.injEq] at e
      subst e
      rw [hg] at hg'
      injection hg' with h1
      injection h1 with _ h2
      exact absurd h2 (by decide)
theorem OwnC.cands {w : World} {base : Nat} {v : Value} {cs : List CandV} (h : OwnC w base v cs) : ∃ co cap, v = .slice co (cs.map plainC).length cap ∧ CandsAt w co (cs.map plainC) := by
  rcases h.list.2 with ⟨rfl, h0⟩ | ⟨g, cap, cur, rfl, hb, hg, _⟩
  · have hl : cs = [] := List.eq_nil_of_length_eq_zero h0
    subst hl
    exact ⟨none, 0, rfl, .inl rfl⟩
  · refine ⟨_, cap, by simp, .inr ⟨g, 0, rfl, lt_of_heap hg, fun i c hc => ?_⟩⟩
    rw [List.getElem?_map, Option.map_eq_some_iff] at hc
    obtain ⟨d, hd, rfl⟩ := hc
    obtain ⟨q1, q2⟩ := cellsC_at cs i d hd
    have hi : i < cs.length := (List.getElem?_eq_some_iff.1 hd).1
    rw [Nat.zero_add]
    have c1 := h.list.cellAt (i * 2) (by omega)
    have c2 := h.list.cellAt (i * 2 + 1) (by omega)
    rw [q1] at c1
    rw [q2] at c2
    have ho := h.owned.each d (List.mem_of_getElem? hd)
    rcases ho.2 with ⟨he, h0⟩ | ⟨g', cap', cur', he, _, hg', _⟩
    · have hl : d.2.2 = [] := List.eq_nil_of_length_eq_zero h0
      refine ⟨c1, none, 0, ?_, .inl hl⟩
      show w.cell? _ = some (.slice none d.2.2.length 0)
      rw [c2, he, hl]; rfl
    · refine ⟨c1, _, cap', ?_, .inr ⟨⟨g', 0, none⟩, rfl, lt_of_heap hg', fun j p hp => ?_⟩⟩
      · show w.cell? _ = some (.slice _ d.2.2.length cap')
        rw [c2, he]
      · have := ho.cells (g := g') (by rw [he]; rfl) j (.int .i64 p) (by rw [List.getElem?_map]; show Option.map _ (d.2.2[j]?) = _; rw [show d.2.2[j]? = some p from hp]; rfl)
        exact this
/-! each once -/
theorem List.reverseRecOn' {α : Type} {motive : List α → Prop} (l : List α) (nil : motive []) (snoc : ∀ xs y, motive xs → motive (xs ++ [y])) : motive l := by
  have h : ∀ (m : List α), motive m.reverse := fun m => by
    induction m with
    | nil => exact nil
    | cons a m ih => rw [List.reverse_cons]; exact snoc _ _ ih
  have := h l.reverse
  rwa [List.reverse_reverse] at this
theorem mem_bytes (xs : List ByteArray) (x : ByteArray) : x.data.toList ∈ bytesOf xs ↔ x ∈ xs := by
  unfold bytesOf
  rw [List.mem_map]
  exact ⟨fun ⟨y, hy, e⟩ => by rw [← ba_eq e]; exact hy, fun h => ⟨x, h, rfl⟩⟩
/-- each text of a list once, in order -/
def onceL (xs : List ByteArray) : List ByteArray := xs.foldl (fun acc x => if x.data.toList ∈ bytesOf acc then acc else acc ++ [x]) []
theorem once_snoc (xs : List ByteArray) (x : ByteArray) : onceL (xs ++ [x]) = if x.data.toList ∈ bytesOf (onceL xs) then onceL xs else onceL xs ++ [x] := by unfold onceL; rw [List.foldl_append]; rfl
theorem once_mem (xs : List ByteArray) : ∀ x, x ∈ onceL xs ↔ x ∈ xs := by
  induction xs using List.reverseRecOn' with
  | nil => intro x; simp [onceL]
  | snoc xs y ih =>
    intro x
    rw [once_snoc]
    by_cases h : y.data.toList ∈ bytesOf (onceL xs)
    · have h' := (mem_bytes _ _).1 h
      rw [if_pos h, ih, List.mem_append, List.mem_singleton]
      exact ⟨.inl, fun k => k.elim id (fun e => by subst e; exact (ih _).1 h')⟩
    · rw [if_neg h, List.mem_append, List.mem_append, ih]
theorem onceK_nodup (xs : List ByteArray) : (onceL xs).Nodup := by
  induction xs using List.reverseRecOn' with
  | nil => simp [onceL]
  | snoc xs y ih =>
    rw [once_snoc]
    by_cases h : y.data.toList ∈ bytesOf (onceL xs)
    · rw [if_pos h]; exact ih
    · rw [if_neg h, List.nodup_append]
      exact ⟨ih, by simp, fun a ha b hb => by simp at hb; subst hb; exact fun e => h ((mem_bytes _ _).2 (by rw [← e]; exact ha))⟩
theorem once_len (xs : List ByteArray) : (onceL xs).length ≤ xs.length := by
  induction xs using List.reverseRecOn' with
  | nil => simp [onceL]
  | snoc xs y ih =>
    rw [once_snoc]
    split
    · rw [List.length_append]; omega
    · rw [List.length_append, List.length_append]; simp; exact ih
end Go.Proofs.YtdenehnneloegaaGreatDoor
namespace Go.Proofs.YtdenehnneloegaaGreatDoor
open Go.RowKit Go.Shelf Go.Maps
set_option linter.unusedVariables false
/-- a set of texts, as a map -/
structure SetT (D : DataW Unit) (L : List TxtK) : Prop where
  map : IsMap D
  look : ∀ l, D.atKey (.string l) (.lit (.bool false)) = .lit (.bool (decide (l ∈ L)))
theorem SetT.empty : SetT (.map []) [] := ⟨isMap_empty, fun l => by simp; rfl⟩
theorem SetT.same {D : DataW Unit} {L M : List TxtK} (h : SetT D L) (e : ∀ l, l ∈ M ↔ l ∈ L) : SetT D M := ⟨h.map, fun l => by rw [h.look]; simp only [e]⟩
theorem SetT.put {D : DataW Unit} {L : List TxtK} (h : SetT D L) (x : TxtK) : SetT (D.put (.string x) (.lit (.bool true))) (L ++ [x]) := by
  refine ⟨h.map.put _ _, fun l => ?_⟩
  by_cases hl : l = x
  · rw [hl, atKey_put_same h.map (keySK x)]; simp
  · rw [atKey_put_other (fun e => hl (by injection e)), h.look]; simp [hl]
set_option maxRecDepth 100000 in
theorem setK_look {w : World} {b k : Nat} {D : DataW Unit} {L : List TxtK} (h : w.ownsMap Tryz.prog 9 (plainElem Tryz.prog 4) b k D) (hS : SetT D L) (x : ByteArray) (hx : x.size ≤ maxLen) :
    (Instr.lookup 208 (.map (some b)) (.string x) false).run Tryz.prog w = .ok (.bool (decide (x.data.toList ∈ L))) w := by
  obtain ⟨c, hrun, hat⟩ := lookup_bool h (string_keyed Tryz.underlying9) Tryz.underlying208 Tryz.underlying4 (Tryz.zeroValue4 _) (Go.WideMaps.keyOf_string_mk Tryz.underlying9 hx)
  rw [hS.look] at hat
  have e : decide (x.data.toList ∈ L) = c := by injection hat with h1; injection h1
  rw [e]; exact hrun
def bareC (s : ByteArray) : CandV := (s, .slice none 0 0, [])
theorem bare_owned (w : World) (base : Nat) (l : List ByteArray) : Owned w base (l.map bareC) :=
  ⟨fun c hc => by obtain ⟨s, _, rfl⟩ := List.mem_map.1 hc; exact World.ownsRow_nil _ _ _ _, by
    rw [List.pairwise_map]
    exact List.pairwise_of_forall (fun a b g hg => by cases hg)⟩
theorem cand_info : (Tryz.prog.info? 155).map (fun i => (i.zero, i.size, i.bytes)) = some (some (.agg #[.string ⟨#[]⟩, .slice none 0 0]), 2, 40) := by kernel_rfl
set_option maxRecDepth 100000 in
set_option maxHeartbeats 4000000 in
theorem once_any (ao : Option Addr) (cap : Nat) (xs : List ByteArray) (w : World) (hn : xs.length ≤ 1099511627776) (hs : ∀ c ∈ xs, c.size ≤ maxLen) (hR : StrRow w ao xs) :
    Calls Tryz.prog 112 #[.slice ao xs.length cap] w fun e w' => ∃ v, e = .returned v ∧ OwnC w' w.heap.size v ((onceL xs).map bareC) ∧ Below w.heap.size w w' := by
  obtain ⟨i0, hi0, hz0, hz1, hz2⟩ := infoK_parts2 cand_info
  have HIN := Lib.hid hi0
  have HRo := Lib.hid hR
  have HSo := Lib.hid hs
  have hmm := @run_makeMap Tryz.prog
  clear hR hs hi0
  go_enter Tryz.func112, Tryz.ntmps112
  go_wp2_with fail
  obtain ⟨V, HV⟩ : ∃ V, Hid (V = w.alloc (.map #[] 0)) := ⟨_, Lib.hid rfl⟩
  have HO : Hid (V.ownsMap Tryz.prog 9 (plainElem Tryz.prog 4) w.heap.size 0 (.map [] : DataW Unit)) := Lib.hid (by rw [HV.out]; exact World.ownsMap_made w _ _ _)
  have HB : Hid (Below w.heap.size w V) := Lib.hid (by rw [HV.out]; exact (Below.refl _ w).alloc (Nat.le_refl _) _)
  have hVs : V.heap.size = w.heap.size + 1 := by rw [HV.out]; simp
  have HC : Hid (OwnC V (w.heap.size + 1) (.slice none 0 0) ((onceL (xs.take 0)).map bareC)) := Lib.hid ⟨World.ownsRow_nil _ _ _ _, bare_owned _ _ _⟩
  rw [← HV.out]
  go_loopw [3, 10] (fun v j wr => ∃ (k kk : Nat) (D : DataW Unit), k ≤ xs.length ∧ kk ≤ k ∧ j = .int .i64 k ∧ Hid (Below w.heap.size w wr) ∧ Hid (w.heap.size + 1 ≤ wr.heap.size) ∧ Hid (wr.ownsMap Tryz.prog 9 (plainElem Tryz.prog 4) w.heap.size kk D) ∧ Hid (SetT D (bytesOf (onceL (xs.take k)))) ∧ Hid (OwnC wr (w.heap.size + 1) v ((onceL (xs.take k)).map bareC))) (fun _ j _ => xs.length - (intOf j).toNat)
  case atStart => exact ⟨0, 0, _, Nat.zero_le _, Nat.le_refl _, rfl, HB, Lib.hid (by omega), HO, Lib.hid SetT.empty, HC⟩
  case round =>
    obtain ⟨k, kk, D, hk, hkk, rfl, HBr, HSr, HOr, HDr, HCr⟩ := hrel
    clear HB HO HC hVs
    by_cases hlt : k < xs.length
    · obtain ⟨x, hx⟩ : ∃ x, xs[k]? = some x := ⟨_, List.getElem?_eq_getElem hlt⟩
      have htk : xs.take (k + 1) = xs.take k ++ [x] := by rw [List.take_add_one, hx]; rfl
      have HTK := Lib.hid htk
      have hxs := HSo.out x (List.mem_of_getElem? hx)
      have HXs := Lib.hid hxs
      have hrun := setK_look HOr.out HDr.out x hxs
      have HLe := Lib.hid (show (onceL (xs.take k)).length ≤ k from Nat.le_trans (once_len _) (by rw [List.length_take]; omega))
      rcases (HRo.out.kept HBr.out) with h0 | ⟨A, rfl, hA, hcell⟩
      · rw [h0] at hlt; simp at hlt
      have hc := hcell k x hx
      clear hcell hx htk hxs
      have hli := HCr.out.list
      rw [List.length_map] at hli
      obtain ⟨ao, cap, rfl⟩ := own_slice hli
      have HLI := Lib.hid hli
      clear hli
      by_cases hf : x.data.toList ∈ bytesOf (onceL (xs.take k))
      · rw [decide_eq_true hf] at hrun
        have HE : Hid (onceL (xs.take (k + 1)) = onceL (xs.take k)) := Lib.hid (by rw [HTK.out, once_snoc, if_pos hf])
        clear hf
        go_wp2_with fail
        go_roundw
        case rel => exact ⟨k + 1, kk, D, by omega, by omega, by go_num, HBr, HSr, HOr, by rw [HE.out]; exact HDr, by rw [HE.out]; exact HCr⟩
        case measure => simp [intOf]; omega
      · rw [decide_eq_false hf] at hrun
        have HE : Hid (onceL (xs.take (k + 1)) = onceL (xs.take k) ++ [x]) := Lib.hid (by rw [HTK.out, once_snoc, if_neg hf])
        have HD' : Hid (SetT (D.put (.string x.data.toList) (.lit (.bool true))) (bytesOf (onceL (xs.take (k + 1))))) := Lib.hid ((HDr.out.put x.data.toList).same (fun l => by rw [HE.out]; simp [bytesOf]))
        have hkm : kk < maxLen := by unfold maxLen; omega
        have HK := Lib.hid (Go.WideMaps.keyOf_string_mk (P := Tryz.prog) Tryz.underlying9 HXs.out)
        clear hf
        go_wp2_with (at_mapUpdate; refine wpList_mapUpdate_own _ rfl _ _ _ 208 rfl 9 4 (string_keyed Tryz.underlying9) Tryz.underlying208 _ w.heap.size kk D rfl HOr.out hkm _ _ (.string x.data.toList) rfl rfl HK.out (.lit (.bool true)) [] (plainElem_bool Tryz.underlying4 true) ?_; intro w1 ho hg; refine Hid.out ?_)
        have HB1 := Lib.hid (HBr.out.grown hg HBr.out.size (fun k h => by cases h; exact Nat.le_refl _))
        have hs1 : w.heap.size + 1 ≤ w1.heap.size := Nat.le_trans HSr.out hg.size
        have HO1 : Hid (∃ kk', kk' ≤ k + 1 ∧ w1.ownsMap Tryz.prog 9 (plainElem Tryz.prog 4) w.heap.size kk' (D.put (.string x.data.toList) (.lit (.bool true)))) := Lib.hid ⟨_, by first | omega | (split <;> omega), ho⟩
        obtain ⟨kk', hkk', ho'⟩ := HO1.out
        have HO2 := Lib.hid ho'
        have HL1 := HLI.out.kept hg (by
          cases hob : (Value.slice ao (onceL (xs.take k)).length cap).ownBlock with
          | none => exact .inl rfl
          | some g => exact .inr (fun e => by cases e; have := HLI.out.lt _ hob; omega))
        have hlen : (onceL (xs.take k)).length ≤ k := HLe.out
        have HCA := Lib.hid (HL1.alloc (.cells #[.string x, .slice none 0 0] 155))
        clear ho hg hrun HL1 ho'
        refine Lib.hid ?_
        go_wp2_with (at_builtin; refine wpList_append_own _ rfl _ _ 92 rfl (w.heap.size + 1) 155 i0 (.agg #[.string ⟨#[]⟩, .slice none 0 0]) 2 40 Tryz.underlying92 HIN.out hz0 hz1 hz2 rfl (by decide) _ _ _ rfl HCA.out ⟨w1.heap.size, 0, none⟩ 1 1 [.string x, .slice none 0 0] rfl rfl ?c1 ?c2 ?c3 ?c4 ?c5 ?_)
        case c1 =>
          intro j u hj
          rw [cell_row (World.alloc_heap_new w1 _)]
          match j, hj with
          | 0, hj => simp at hj; subst hj; rfl
          | 1, hj => simp at hj; subst hj; rfl
        case c2 => intro u hu; simp at hu; rcases hu with rfl | rfl <;> rfl
        case c3 => unfold maxLen; omega
        case c4 => omega
        case c5 => simp; omega
        intro v' w3 hown' hgrow _
        have HB3 := Lib.hid ((HB1.out.alloc (by omega) _).grown hgrow (by simp; omega) (fun k hk => by have := HCA.out.lt k hk; omega))
        have hs3 : w.heap.size + 1 ≤ w3.heap.size := by have := hgrow.size; simp at this; omega
        have HS3 := Lib.hid hs3
        have HO3 := Lib.hid ((ownsMapK_below HO2.out ((Below.refl _ w1).alloc (Nat.le_refl _) (.cells #[.string x, .slice none 0 0] 155))).kept hgrow (fun e => by have := HCA.out.lt _ e.symm; omega))
        have HC3 : Hid (OwnC w3 (w.heap.size + 1) v' ((onceL (xs.take (k + 1))).map bareC)) := Lib.hid ⟨by
          rw [HE.out, List.length_map, List.length_append, List.map_append, cellsC_app]
          have e : cellsC ((onceL (xs.take k)).map bareC) ++ [Value.string x, Value.slice none 0 0] = cellsC ((onceL (xs.take k)).map bareC) ++ cellsC ([x].map bareC) := rfl
          rw [← e]; exact hown', bare_owned _ _ _⟩
        obtain ⟨ao2, cap2, rfl⟩ := own_slice hown'
        clear hown' hgrow
        go_wp2_with fail
        go_roundw
        case rel => exact ⟨k + 1, kk', _, by omega, by omega, by go_num, HB3, HS3, HO3, HD', HC3⟩
        case measure => simp [intOf]; omega
    · have hke : k = xs.length := by omega
      have HE : Hid (OwnC wr w.heap.size u3 ((onceL xs).map bareC)) := Lib.hid (by
        have := HCr.out
        rw [hke, List.take_length] at this
        exact ⟨this.list.mono (by omega), bare_owned _ _ _⟩)
      obtain ⟨ao, cap, rfl⟩ := own_slice HE.out.list
      clear hke HCr
      go_wp2_with fail
      go_ret
      exact ⟨_, rfl, HE.out, HBr.out⟩
end Go.Proofs.YtdenehnneloegaaGreatDoor
