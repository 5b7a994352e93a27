/-
  Texts of these rows' proofs, laid one behind the other: KCands, KApart.
  Conditions: those of each theorem.
-/
import Derived.RegionTactic
import Derived.Deep.AppendLies
import Derived.WalkKit
import Derived.WalkMore
import Derived.IntWalk
import Derived.WalkArith
import Derived.OwnWalk
import Derived.Lib.Hide
import Derived.Test.YtdenehnneloegaaGreatDoorProg
import Derived.Test.YtdenehnneloegaaGreatDoorPb19
namespace Go.Proofs.YtdenehnneloegaaGreatDoor
open Go.RowKit Go.Shelf Go.Maps
set_option linter.unusedVariables false
/-- a table: its head, and its rows -/
abbrev TabK := List ByteArray × List (List ByteArray)
/-- a list of tables somewhere -/
def TabsAt (w : World) (lo : Option Addr) (ts : List TabK) : Prop :=
  ts = [] ∨ ∃ b o, lo = some ⟨b, o, none⟩ ∧ b < w.heap.size ∧ ∀ (i : Nat) t, ts[i]? = some t → ∃ (ho : Option Addr) (hc : Nat) (ro : Option Addr) (rc : Nat),
    w.cell? ⟨b, o + i * 2, none⟩ = some (.slice ho t.1.length hc) ∧ w.cell? ⟨b, o + i * 2 + 1, none⟩ = some (.slice ro t.2.length rc) ∧ StrRow w ho t.1 ∧ RowsAt w ro t.2
theorem TabsAt.kept {w w' : World} {lo : Option Addr} {ts : List TabK} (h : TabsAt w lo ts) (hB : Below w.heap.size w w') : TabsAt w' lo ts := by
  rcases h with h | ⟨b, o, h1, h2, h3⟩
  · exact .inl h
  · refine .inr ⟨b, o, h1, Nat.lt_of_lt_of_le h2 hB.size, fun i t ht => ?_⟩
    obtain ⟨ho, hc, ro, rc, q1, q2, q3, q4⟩ := h3 i t ht
    exact ⟨ho, hc, ro, rc, (hB.cell (p := ⟨b, _, none⟩) h2).trans q1, (hB.cell (p := ⟨b, _, none⟩) h2).trans q2, q3.kept hB, q4.kept hB⟩
/-- tables whose heads are lists of Go strings -/
def HeadsOk (ts : List TabK) : Prop := ∀ t ∈ ts, t.1.length ≤ 1099511627776 ∧ ∀ c ∈ t.1, c.size ≤ maxLen
/-! what comes -/
def stepC (hd : List ByteArray) (cs : List Cand) : List Cand := cs.filterMap fun c => if 0 ≤ findL hd c.1 then some (c.1, c.2 ++ [findL hd c.1]) else none
def candsL (ts : List TabK) (names : List ByteArray) : List Cand := ts.foldl (fun cs t => stepC t.1 cs) ((onceL names).map fun s => (s, []))
theorem step_snoc (hd : List ByteArray) (cs : List Cand) (c : Cand) : stepC hd (cs ++ [c]) = stepC hd cs ++ (if 0 ≤ findL hd c.1 then [(c.1, c.2 ++ [findL hd c.1])] else []) := by
  unfold stepC
  rw [List.filterMap_append]
  by_cases h : 0 ≤ findL hd c.1
  · simp [h]
  · simp [h]
theorem cands_snoc (ts : List TabK) (t : TabK) (names : List ByteArray) : candsL (ts ++ [t]) names = stepC t.1 (candsL ts names) := by unfold candsL; rw [List.foldl_append]; rfl
theorem step_len (hd : List ByteArray) (cs : List Cand) : (stepC hd cs).length ≤ cs.length := List.length_filterMap_le _ _
theorem cands_len (ts : List TabK) (names : List ByteArray) : (candsL ts names).length ≤ names.length := by
  induction ts using List.reverseRecOn' with
  | nil => unfold candsL; simp; exact once_len names
  | snoc ts t ih => rw [cands_snoc]; exact Nat.le_trans (step_len _ _) ih
theorem cands_at (ts : List TabK) (names : List ByteArray) : ∀ c ∈ candsL ts names, c.2.length = ts.length := by
  induction ts using List.reverseRecOn' with
  | nil => intro c hc; unfold candsL at hc; simp at hc; obtain ⟨s, _, rfl⟩ := hc; rfl
  | snoc ts t ih =>
    intro c hc
    rw [cands_snoc] at hc
    unfold stepC at hc
    rw [List.mem_filterMap] at hc
    obtain ⟨d, hd, h⟩ := hc
    split at h
    · cases h; simp [ih d hd]
    · cases h
theorem cands_names (ts : List TabK) (names : List ByteArray) : ∀ c ∈ candsL ts names, c.1 ∈ names := by
  induction ts using List.reverseRecOn' with
  | nil => intro c hc; unfold candsL at hc; simp at hc; obtain ⟨s, hs, rfl⟩ := hc; exact (once_mem names s).1 hs
  | snoc ts t ih =>
    intro c hc
    rw [cands_snoc] at hc
    unfold stepC at hc
    rw [List.mem_filterMap] at hc
    obtain ⟨d, hd, h⟩ := hc
    split at h
    · cases h; exact ih d hd
    · cases h
/-! what is owned -/
theorem list_apart' {w : World} {base base2 : Nat} {v u : Value} {n m : Nat} {xs ys : List Value} (h : w.ownsRow base 155 2 v n xs) (k : w.ownsRow base2 3 1 u m ys) : u.ownBlock = none ∨ u.ownBlock ≠ v.ownBlock :=
  list_apart (h.mono (Nat.zero_le _)) (k.mono (Nat.zero_le _))
theorem Owned.sub {w : World} {base : Nat} {a b c : List CandV} (h : Owned w base (a ++ b ++ c)) : Owned w base (a ++ c) :=
  ⟨fun d hd => h.each d (by simp at hd ⊢; rcases hd with h | h <;> simp [h]), by
    have := h.apart
    rw [List.append_assoc] at this
    rw [List.pairwise_append] at this ⊢
    obtain ⟨h1, h2, h3⟩ := this
    rw [List.pairwise_append] at h2
    exact ⟨h1, h2.2.1, fun x hx y hy => h3 x hx y (by simp [hy])⟩⟩
theorem Owned.mono {w : World} {base base' : Nat} {cs : List CandV} (h : Owned w base cs) (hb : base' ≤ base) : Owned w base' cs := ⟨fun c hc => (h.each c hc).mono hb, h.apart⟩
/-- one of them has one column more -/
theorem Owned.turn {w w' : World} {base : Nat} {I R : List CandV} {c : CandV} (h : Owned w base (I ++ [c] ++ R)) (hg : w.grownBy w' c.2.1.ownBlock) (g cap : Nat) (xs : List Int) (n : Nat) (hn : xs.length = n)
    (hown : w'.ownsRow base 3 1 (.slice (some ⟨g, 0, none⟩) n cap) n (xs.map (Value.int .i64))) (hl : c.2.1.ownBlock = some g ∨ g = w.heap.size) :
    Owned w' base (I ++ [(c.1, .slice (some ⟨g, 0, none⟩) n cap, xs)] ++ R) := by
  subst hn
  have hap := h.apart
  rw [List.pairwise_append, List.pairwise_append] at hap
  obtain ⟨⟨h1, _, h2⟩, h3, h4⟩ := hap
  have hother : ∀ d, d ∈ I ∨ d ∈ R → (∀ k, c.2.1.ownBlock = some k → d.2.1.ownBlock ≠ some k) := fun d hd k hk => by
    rcases hd with hd | hd
    · exact OwnApart.symm (h2 d hd c (by simp)) k hk
    · exact h4 c (by simp) d hd k hk
  have hin : ∀ d, d ∈ I ∨ d ∈ R → d ∈ I ++ [c] ++ R := fun d hd => by simp; rcases hd with h | h <;> simp [h]
  have hne : ∀ d, d ∈ I ∨ d ∈ R → d.2.1.ownBlock ≠ some g := fun d hd e => by
    rcases hl with hl | hl
    · exact hother d hd g hl e
    · have := (h.each d (hin d hd)).lt g e; omega
  have hkept : ∀ d, d ∈ I ∨ d ∈ R → w'.ownsRow base 3 1 d.2.1 d.2.2.length (d.2.2.map (Value.int .i64)) := fun d hd =>
    (h.each d (hin d hd)).kept hg (by
      cases hb : c.2.1.ownBlock with
      | none =>
        cases hd2 : d.2.1.ownBlock with
        | none => exact .inl rfl
        | some k => exact .inr (by simp)
      | some k => exact .inr (hother d hd k hb))
  refine ⟨fun d hd => ?_, ?_⟩
  · simp only [List.mem_append, List.mem_singleton] at hd
    rcases hd with (hd | rfl) | hd
    · exact hkept d (.inl hd)
    · exact hown
    · exact hkept d (.inr hd)
  · rw [List.pairwise_append, List.pairwise_append]
    refine ⟨⟨h1, by simp, fun x hx y hy => ?_⟩, h3, fun x hx y hy => ?_⟩
    · simp only [List.mem_singleton] at hy; subst hy
      intro k hk e
      simp only [Value.ownBlock, Option.some.injEq] at e; subst e
      exact hne x (.inl hx) hk
    · simp only [List.mem_append, List.mem_singleton] at hx
      rcases hx with hx | rfl
      · exact h4 x (by simp [hx]) y hy
      · intro k hk e
        simp only [Value.ownBlock, Option.some.injEq] at hk; subst hk
        exact hne y (.inr hy) e
/-- a list stands where numbers turn -/
theorem list_kept {w w' : World} {base base2 : Nat} {v u : Value} {n m : Nat} {xs ys : List Value} (h : w.ownsRow base 155 2 v n xs) (k : w.ownsRow base2 3 1 u m ys) (hg : w.grownBy w' u.ownBlock) : w'.ownsRow base 155 2 v n xs :=
  h.kept hg (by
    rcases list_apart' h k with h1 | h1
    · cases hv : v.ownBlock with
      | none => exact .inl rfl
      | some g => rw [h1]; exact .inr (by simp)
    · exact .inr (fun e => h1 e.symm))
/-- a box stands where numbers turn -/
theorem box_kept {w w' : World} {base m B : Nat} {u : Value} {ys : List Value} {cs : Array Value} {fr : Nat × Nat} (h : w.heap[B]? = some (.cells cs 155 fr)) (k : w.ownsRow base 3 1 u m ys) (hg : w.grownBy w' u.ownBlock) : w'.heap[B]? = some (.cells cs 155 fr) := by
  rw [hg.block B (lt_of_heap h) (fun e => by
    rcases k.2 with ⟨rfl, _⟩ | ⟨g, cap, cur, rfl, _, hg', _⟩
    · cases e
    · simp only [Value.ownBlock, Option.some.injEq] at e
      subst e
      rw [h] at hg'
      injection hg' with h1
      injection h1 with _ h2
      exact absurd h2 (by decide))]
  exact h
/-- a map's block is no slice's -/
theorem map_apart {w : World} {k : TypeId} {R : Value → Option (DataW Unit × List MemPlace)} {b n : Nat} {D : DataW Unit} (h : w.ownsMap Tryz.prog k R b n D) {base : Nat} {e : TypeId} {sz m : Nat} {v : Value} {xs : List Value} (ho : w.ownsRow base e sz v m xs) : some b ≠ v.ownBlock := by
  obtain ⟨es, clock, hb, _⟩ := h
  rcases ho.2 with ⟨rfl, _⟩ | ⟨g, cap, cur, rfl, _, hg, _⟩
  · intro e; cases e
  · intro e
    simp only [Value.ownBlock, Option.some.injEq] at e
    subst e
    rw [hb] at hg; cases hg
set_option maxRecDepth 100000 in
set_option maxHeartbeats 8000000 in
theorem candidates_any (lo : Option Addr) (lc : Nat) (ts : List TabK) (ao : Option Addr) (cap : Nat) (names : List ByteArray) (w : World) (hts : ts.length ≤ 1073741824) (hn : names.length ≤ 1099511627776) (hs : ∀ c ∈ names, c.size ≤ maxLen) (hH : HeadsOk ts) (hT : TabsAt w lo ts) (hR : StrRow w ao names) :
    Calls Tryz.prog 61 #[.slice lo ts.length lc, .slice ao names.length cap] w fun e w' => ∃ v cvs, e = .returned v ∧ OwnC w' w.heap.size v cvs ∧ cvs.map plainC = candsL ts names ∧ Below w.heap.size w w' := by
  obtain ⟨i0, hi0, hz0, hz1, hz2⟩ := infoK_parts2 cand_info
  have hinfo : (Tryz.prog.info? 3).map (fun i => (i.zero, i.size, i.bytes)) = some (some (.int .i64 0), 1, 8) := by kernel_rfl
  obtain ⟨j0, hj0, hy0, hy1, hy2⟩ := infoK_parts2 hinfo
  have HIN := Lib.hid hi0
  have HJN := Lib.hid hj0
  have HTo := Lib.hid hT
  have HHo := Lib.hid hH
  have HSo := Lib.hid hs
  have CO := Lib.hid (once_any ao cap names w hn hs hR)
  clear hT hH hs hR hi0 hj0 hinfo
  go_enter Tryz.func61, Tryz.ntmps61
  go_wp2_with fail
  refine CO.out.mono ?_
  rintro e w1 ⟨v, rfl, hO, hB⟩
  have HB := Lib.hid hB
  have HC : Hid (∃ cvs, OwnC w1 w.heap.size v cvs ∧ cvs.map plainC = candsL (ts.take 0) names) := Lib.hid ⟨_, hO, by unfold candsL; simp [plainC, bareC, Function.comp_def]⟩
  have hli := hO.list
  rw [List.length_map] at hli
  obtain ⟨bo, bc, rfl⟩ := own_slice hli
  clear hO hB CO hli
  go_wp2_with fail
  go_loopw [5, 18] (fun v j wr => ∃ k : Nat, k ≤ ts.length ∧ j = .int .i64 k ∧ Hid (Below w.heap.size w wr) ∧ Hid (∃ cvs, OwnC wr w.heap.size v cvs ∧ cvs.map plainC = candsL (ts.take k) names)) (fun _ j _ => ts.length - (intOf j).toNat)
  case atStart => exact ⟨0, Nat.zero_le _, rfl, HB, HC⟩
  case round =>
    obtain ⟨k, hk, rfl, HB, HC⟩ := hrel
    obtain ⟨O, hO, hOp⟩ := HC.out
    have hli := hO.list
    obtain ⟨vo, vc, rfl⟩ := own_slice hli
    clear HC
    by_cases hlt : k < ts.length
    · obtain ⟨t, ht⟩ : ∃ t, ts[k]? = some t := ⟨_, List.getElem?_eq_getElem hlt⟩
      have htk : ts.take (k + 1) = ts.take k ++ [t] := by rw [List.take_add_one, ht]; rfl
      rcases (HTo.out.kept HB.out) with h0 | ⟨tb, tof, rfl, hA, hcell⟩
      · rw [h0] at hlt; simp at hlt
      obtain ⟨ho, hc, ro, rc, c1, c2, hst, -⟩ := hcell k t ht
      obtain ⟨hH1, hH2⟩ := HHo.out t (List.mem_of_getElem? ht)
      have HOp := Lib.hid hOp
      have HOl : Hid (candsL (ts.take (k + 1)) names = stepC t.1 (O.map plainC)) := Lib.hid (by rw [htk, cands_snoc, hOp])
      have HOat : Hid (∀ c ∈ O, c.2.2.length = k) := Lib.hid (fun c hc => by
        have := cands_at (ts.take k) names (plainC c) (by rw [← hOp]; exact List.mem_map_of_mem hc)
        rw [List.length_take] at this
        have e : (plainC c).2.length = c.2.2.length := rfl
        omega)
      have HOnm : Hid (∀ c ∈ O, c.1.size ≤ maxLen) := Lib.hid (fun c hc => HSo.out c.1 (cands_names (ts.take k) names (plainC c) (by rw [← hOp]; exact List.mem_map_of_mem hc)))
      have hOn : O.length ≤ 1099511627776 := by
        have h1 := cands_len (ts.take k) names
        rw [← hOp, List.length_map] at h1; omega
      have HOo := Lib.hid hO
      obtain ⟨V, HV⟩ : ∃ V, Hid (V = wr.alloc (.cells #[.slice ho t.1.length hc, .slice ro t.2.length rc] 25)) := ⟨_, Lib.hid rfl⟩
      have hbV : Below wr.heap.size wr V := by rw [HV.out]; exact one_below wr _
      have hVh : V.heap[wr.heap.size]? = some (.cells #[.slice ho t.1.length hc, .slice ro t.2.length rc] 25 (0, 0)) := by rw [HV.out]; exact World.alloc_heap_new _ _
      have v0 : V.cell? ⟨wr.heap.size, 0, none⟩ = some (.slice ho t.1.length hc) := (Lib.cell_of_heap hVh 0).trans rfl
      have CF := Lib.hid (firsts_any ho hc t.1 V hH1 hH2 (hst.kept hbV))
      have HBV := Lib.hid (below_up HB.out hbV)
      have HOV := Lib.hid (hO.kept hbV)
      clear hcell hst hH1 hH2 hO hOp hbV hVh HB HOo ht htk hli
      go_upto_region 5 with fail
      rw [← HV.out]
      go_wp2_with fail
      refine CF.out.mono ?_
      rintro e w2 ⟨b, kk, D, rfl, hb, hM, hD, hB2⟩
      have HM := Lib.hid hM
      have HD := Lib.hid hD
      have HB2 := Lib.hid (below_up HBV.out hB2)
      have HO2 := Lib.hid (HOV.out.kept hB2)
      have HB2' := Lib.hid HB2.out.size
      clear hM hD hB2 CF HOV HBV v0 c1 c2
      go_wp2_with fail
      obtain ⟨wo, rfl⟩ : ∃ wo : World, wo = wr := ⟨_, rfl⟩
      have HG0 : Hid (∀ g, (Value.slice vo O.length vc).ownBlock = some g → g < w2.heap.size) := Lib.hid (fun g h => (HO2.out.list.lt g h).2)
      have HI0 : Hid (([] : List CandV).map plainC = stepC t.1 ((O.take 0).map plainC)) := Lib.hid (by simp [stepC])
      have HL0 : Hid (w2.ownsRow w2.heap.size 155 2 (.slice none 0 0) ([] : List CandV).length (cellsC [])) := Lib.hid (World.ownsRow_nil _ _ _ _)
      have HS0 : Hid (w2.ownsRow w.heap.size 155 2 (.slice vo O.length vc) O.length (cellsC O)) := Lib.hid HO2.out.list
      have HW0 : Hid (Owned w2 w.heap.size ([] ++ O.drop 0)) := Lib.hid (by simpa using HO2.out.owned)
      go_loopw [9, 27] (fun v j wi => ∃ (q : Nat) (I : List CandV), q ≤ O.length ∧ j = .int .i64 q ∧ Hid (I.map plainC = stepC t.1 ((O.take q).map plainC)) ∧ Hid (wi.ownsRow w2.heap.size 155 2 v I.length (cellsC I)) ∧ Hid (wi.ownsRow w.heap.size 155 2 (.slice vo O.length vc) O.length (cellsC O)) ∧ Hid (Owned wi w.heap.size (I ++ O.drop q)) ∧ Hid (wi.ownsMap Tryz.prog 9 (plainElem Tryz.prog 3) b kk D) ∧ Hid (Below w.heap.size w wi) ∧ Hid (w2.heap.size ≤ wi.heap.size)) (fun _ j _ => O.length - (intOf j).toNat)
      case atStart => exact ⟨0, [], Nat.zero_le _, rfl, HI0, HL0, HS0, HW0, HM, HB2, Lib.hid (Nat.le_refl _)⟩
      case round =>
        obtain ⟨q, I, hq, rfl, HI, HL, HS, HW, HMi, HBi, HZ⟩ := hrel
        clear HI0 HL0 HS0 HW0 HM HB2 HO2
        have hIl := HL.out
        obtain ⟨io, ic, rfl⟩ := own_slice hIl
        by_cases hlq : q < O.length
        · obtain ⟨⟨nm, v, xs⟩, hc0⟩ : ∃ c, O[q]? = some c := ⟨_, List.getElem?_eq_getElem hlq⟩
          have htq : O.take (q + 1) = O.take q ++ [(nm, v, xs)] := by rw [List.take_add_one, hc0]; rfl
          have hdq : O.drop q = (nm, v, xs) :: O.drop (q + 1) := by
            obtain ⟨h1, e1⟩ := List.getElem?_eq_some_iff.1 hc0
            rw [List.drop_eq_getElem_cons h1, e1]
          have hmem := List.mem_of_getElem? hc0
          have HXK := Lib.hid (show xs.length = k from HOat.out _ hmem)
          have HNM := Lib.hid (HOnm.out _ hmem)
          have HIq : Hid (stepC t.1 ((O.take (q + 1)).map plainC) = stepC t.1 ((O.take q).map plainC) ++ (if 0 ≤ findL t.1 nm then [(nm, xs ++ [findL t.1 nm])] else [])) := Lib.hid (by rw [htq, List.map_append]; exact step_snoc _ _ _)
          have hWq : Owned wr w.heap.size (I ++ [(nm, v, xs)] ++ O.drop (q + 1)) := by have := HW.out; rw [hdq] at this; rw [List.append_assoc]; exact this
          have HWq := Lib.hid hWq
          have hvo := hWq.each (nm, v, xs) (by simp)
          dsimp only at hvo
          obtain ⟨xo, xc, rfl⟩ := own_slice hvo
          have hIlen : I.length ≤ O.length := by
            have h1 := congrArg List.length HI.out
            rw [List.length_map] at h1
            have h2 := step_len t.1 ((O.take q).map plainC)
            rw [List.length_map, List.length_take] at h2
            omega
          rcases HS.out.2 with ⟨h0, h00⟩ | ⟨g0, cp0, cur0, h0, hb0, hg0, -, -, -, -⟩
          · omega
          · simp only [Value.slice.injEq] at h0
            obtain ⟨rfl, -, rfl⟩ := h0
            obtain ⟨q1, q2⟩ := cellsC_at O q _ hc0
            have k0 := (HS.out.cellAt (q * 2) (by omega)).trans q1
            have k1 := (HS.out.cellAt (q * 2 + 1) (by omega)).trans q2
            dsimp only at k0 k1
            obtain ⟨U, HU⟩ : ∃ U, Hid (U = wr.alloc (.cells #[.string nm, .slice xo xs.length xc] 155)) := ⟨_, Lib.hid rfl⟩
            have hbU : Below wr.heap.size wr U := by rw [HU.out]; exact one_below wr _
            have hUh : U.heap[wr.heap.size]? = some (.cells #[.string nm, .slice xo xs.length xc] 155 (0, 0)) := by rw [HU.out]; exact World.alloc_heap_new _ _
            have u0 : U.cell? ⟨wr.heap.size, 0, none⟩ = some (.string nm) := (Lib.cell_of_heap hUh 0).trans rfl
            have u1 : U.cell? ⟨wr.heap.size, 1, none⟩ = some (.slice xo xs.length xc) := (Lib.cell_of_heap hUh 1).trans rfl
            have HUh := Lib.hid hUh
            have HMU := Lib.hid (ownsMapK_below HMi.out hbU)
            have HLU := Lib.hid (ownsRow_below HL.out hbU)
            have HSU := Lib.hid (ownsRow_below HS.out hbU)
            have HWU := Lib.hid (hWq.kept hbU)
            have HBU := Lib.hid (below_up HBi.out hbU)
            have HZU := Lib.hid (Nat.le_trans HZ.out hbU.size)
            have hrun := firsts_look HMU.out HD.out nm HNM.out
            clear q1 q2 hc0 htq hdq hmem hWq hvo hbU hUh HW HL HS HMi HBi HZ HWq hIl
            by_cases hf : 0 ≤ findL t.1 nm
            · rw [if_pos hf, decide_eq_true hf] at hrun
              have HIn : Hid (stepC t.1 ((O.take (q + 1)).map plainC) = I.map plainC ++ [(nm, xs ++ [findL t.1 nm])]) := Lib.hid (by rw [HIq.out, if_pos hf, HI.out])
              obtain ⟨y, hy⟩ : ∃ y, y = findL t.1 nm := ⟨_, rfl⟩
              rw [← hy] at hrun HIn
              clear hf hy HIq HI
              go_upto_region 10 with fail
              rw [← HU.out]
              go_wp2_with fail
              obtain ⟨L1, hL1⟩ : ∃ L1, L1 = U.alloc (.cells #[.int .i64 y] 3) := ⟨_, rfl⟩
              have HL1 := Lib.hid hL1
              have hb1 : Below U.heap.size U L1 := by rw [hL1]; exact one_below U _
              have hLh : L1.heap[U.heap.size]? = some (.cells #[.int .i64 y] 3 (0, 0)) := by rw [hL1]; exact World.alloc_heap_new _ _
              have HLh := Lib.hid hLh
              have HWL := Lib.hid (HWU.out.kept hb1)
              have HIL : Hid (L1.drew.ownsRow w.heap.size 3 1 (.slice xo xs.length xc) xs.length (xs.map (Value.int .i64))) := Lib.hid (HWL.out.each (nm, .slice xo xs.length xc, xs) (by simp)).drew
              have HLL := Lib.hid (ownsRow_below HLU.out hb1)
              have HSL := Lib.hid (ownsRow_below HSU.out hb1)
              have HML := Lib.hid (ownsMapK_below HMU.out hb1)
              have HBL := Lib.hid (below_up HBU.out hb1)
              have hsL : L1.heap.size = U.heap.size + 1 := by rw [hL1]; simp
              have HsL := Lib.hid hsL
              have HZL := Lib.hid (Nat.le_trans HZU.out hb1.size)
              have HXL : Hid (L1.heap[wr.heap.size]? = some (.cells #[.string nm, .slice xo xs.length xc] 155 (0, 0))) := Lib.hid ((hb1.block _ (lt_of_heap HUh.out)).trans HUh.out)
              have l0 : L1.cell? ⟨wr.heap.size, 0, none⟩ = some (.string nm) := (Lib.cell_of_heap HXL.out 0).trans rfl
              have l1 : L1.cell? ⟨wr.heap.size, 1, none⟩ = some (.slice xo xs.length xc) := (Lib.cell_of_heap HXL.out 1).trans rfl
              have hL1' : U.alloc (.cells #[.int .i64 y] 3) = L1 := hL1.symm
              clear hL1 hb1 hLh hsL
              go_region_law (first
                | (refine step_append_lies _ (by rfl) _ _ 41 (by rfl) w.heap.size 3 j0 (.int .i64 0) 1 8 Tryz.underlying41 HJN.out hy0 hy1 hy2 rfl (by decide) (.slice xo xs.length xc) xs.length (xs.map (Value.int .i64)) (by rfl) HIL.out ⟨U.heap.size, 0, none⟩ 1 1 [.int .i64 y] (by rfl) rfl (by
                    intro j u hj
                    refine (cell_row HLh.out j).trans ?_
                    match j, hj with
                    | 0, hj => simp at hj; subst hj; rfl) (by intro u hu; simp at hu; subst hu; rfl) (by omega) (by have := HXK.out; unfold maxLen; omega) (by have := HXK.out; omega) HBL.out.size L1.heap.size (by rfl) ?_
                   intro g1 cp1 X1 o1 gr1 hl1 hlt1
                   have HO1 := Lib.hid o1
                   have HG1 := Lib.hid gr1
                   have HH1 := Lib.hid hl1
                   have HLX := Lib.hid ((list_kept HLL.out.drew HIL.out gr1).alloc (.cells #[.string nm, .slice (some ⟨g1, 0, none⟩) (xs.length + 1) cp1] 155))
                   have HBX := Lib.hid (HBL.out.drew.grown gr1 HBL.out.size (fun k hk => (HIL.out.lt k hk).1))
                   have HZX := Lib.hid (Nat.le_trans HZL.out gr1.size)
                   have x0 : X1.cell? ⟨wr.heap.size, 0, none⟩ = some (.string nm) := (Lib.cell_of_heap (box_kept (w := L1.drew) HXL.out HIL.out gr1) 0).trans rfl
                   have x1 : X1.cell? ⟨wr.heap.size, 1, none⟩ = some (.slice xo xs.length xc) := (Lib.cell_of_heap (box_kept (w := L1.drew) HXL.out HIL.out gr1) 1).trans rfl
                   clear o1 gr1 hl1)
                | (refine step_append_lies _ (by rfl) _ _ 92 (by rfl) w2.heap.size 155 i0 (.agg #[.string ⟨#[]⟩, .slice none 0 0]) 2 40 Tryz.underlying92 HIN.out hz0 hz1 hz2 rfl (by decide) (.slice io I.length ic) I.length (cellsC I) (by rfl) HLX.out ⟨X1.heap.size, 0, none⟩ 1 1 [.string nm, .slice (some ⟨g1, 0, none⟩) (xs.length + 1) cp1] (by rfl) rfl (by
                    intro j u hj
                    refine (cell_row (World.alloc_heap_new X1 _) j).trans ?_
                    match j, hj with
                    | 0, hj => simp at hj; subst hj; rfl
                    | 1, hj => simp at hj; subst hj; rfl) (by intro u hu; simp at hu; rcases hu with rfl | rfl <;> rfl) (by omega) (by unfold maxLen; omega) (by omega) (by have := HZX.out; simp; omega) (X1.heap.size + 1) (by simp) ?_
                   intro g2 cp2 X2 o2 gr2 hl2 hlt2
                   have HO2 := Lib.hid o2
                   have HG2 := Lib.hid gr2
                   have HH2 := Lib.hid hl2
                   clear o2 gr2 hl2)
)
              all_goals
                have HWX : Hid (Owned X1 w.heap.size (I ++ [(nm, .slice (some ⟨g1, 0, none⟩) (xs.length + 1) cp1, xs ++ [y])] ++ O.drop (q + 1))) := Lib.hid (Owned.turn (w := L1.drew) (c := (nm, .slice xo xs.length xc, xs)) ⟨fun c hc => (HWL.out.each c hc).drew, HWL.out.apart⟩ HG1.out g1 cp1 (xs ++ [y]) (xs.length + 1) (by simp) (by rw [List.map_append]; exact HO1.out) HH1.out)
                have hal : Below X1.heap.size X1 (X1.alloc (.cells #[.string nm, .slice (some ⟨g1, 0, none⟩) (xs.length + 1) cp1] 155)) := one_below X1 _
                have HWA := HWX.out.kept hal
                have HW2 := Lib.hid (HWA.grown HG2.out (fun c hc => list_apart' HLX.out (HWA.each c hc)))
                have HI2 : Hid ((I ++ [(nm, Value.slice (some ⟨g1, 0, none⟩) (xs.length + 1) cp1, xs ++ [y])]).map plainC = stepC t.1 ((O.take (q + 1)).map plainC)) := Lib.hid (by rw [HIn.out, List.map_append]; rfl)
                have HL2 : Hid (X2.ownsRow w2.heap.size 155 2 (.slice (some ⟨g2, 0, none⟩) (I.length + 1) cp2) (I ++ [(nm, Value.slice (some ⟨g1, 0, none⟩) (xs.length + 1) cp1, xs ++ [y])]).length (cellsC (I ++ [(nm, Value.slice (some ⟨g1, 0, none⟩) (xs.length + 1) cp1, xs ++ [y])]))) := Lib.hid (by
                  rw [List.length_append, cellsC_app]; exact HO2.out)
                have HS2 : Hid (X2.ownsRow w.heap.size 155 2 (.slice (some ⟨g0, 0, none⟩) O.length vc) O.length (cellsC O)) := Lib.hid (((list_kept HSL.out.drew HIL.out HG1.out).alloc _).kept HG2.out (.inr (fun e => by
                  have h1 := HG0.out g0 rfl
                  have h2 := (HLX.out.lt g0 e.symm).1
                  omega)))
                have HM2 := Lib.hid ((ownsMapK_below ((ownsMapK_below HML.out ((Below.refl _ L1).drew)).kept HG1.out (fun e => map_apart HML.out HIL.out e)) hal).kept HG2.out (fun e => map_apart (ownsMapK_below ((ownsMapK_below HML.out ((Below.refl _ L1).drew)).kept HG1.out (fun e => map_apart HML.out HIL.out e)) hal) HLX.out e))
                have HB2 := Lib.hid ((HBX.out.trans (hal.mono HBX.out.size)).grown HG2.out (Nat.le_trans HBX.out.size hal.size) (fun k hk => by have h1 := (HLX.out.lt k hk).1; have h2 := HB2'.out; omega))
                have HZ2 := Lib.hid (Nat.le_trans (Nat.le_trans HZX.out hal.size) HG2.out.size)
                clear HWA hal HLX HG2 HO2 HWX HO1 HG1 HH1 x0 x1 l0 l1 u0 u1 hL1' HBX HZX
                go_wp2_with fail
                go_roundw
                case rel => exact ⟨q + 1, _, by omega, by go_num, HI2, HL2, HS2, HW2, HM2, HB2, HZ2⟩
                case measure => simp [intOf]; omega
            · rw [if_neg hf, decide_eq_false hf] at hrun
              have HIn : Hid (I.map plainC = stepC t.1 ((O.take (q + 1)).map plainC)) := Lib.hid (by rw [HIq.out, if_neg hf, List.append_nil]; exact HI.out)
              have HWn := Lib.hid (Owned.sub (b := [(nm, .slice xo xs.length xc, xs)]) HWU.out)
              clear hf HIq HI
              go_upto_region 10 with fail
              rw [← HU.out]
              go_wp2_with fail
              go_roundw
              case rel => exact ⟨q + 1, I, by omega, by go_num, HIn, HLU, HSU, HWn, HMU, HBU, HZU⟩
              case measure => simp [intOf]; omega
        · have hke : q = O.length := by omega
          have HE : Hid (∃ cvs, OwnC wr w.heap.size (.slice io I.length ic) cvs ∧ cvs.map plainC = candsL (ts.take (k + 1)) names) := Lib.hid ⟨I, ⟨hIl.mono (by have := HB2'.out; omega), by have := HW.out; rw [hke, List.drop_length, List.append_nil] at this; exact this⟩, by rw [HOl.out, HI.out, hke, List.take_length]⟩
          clear hIl
          go_wp2_with fail
          go_roundw
          case rel => exact ⟨k + 1, by omega, by go_num, HBi, HE⟩
          case measure => simp [intOf]; omega
    · have hke : ts.take k = ts := List.take_of_length_le (by omega)
      rw [hke] at hOp
      have HO := Lib.hid hO
      clear hO hke hli
      go_wp2_with fail
      go_ret
      exact ⟨_, O, rfl, HO.out, hOp, HB.out⟩
end Go.Proofs.YtdenehnneloegaaGreatDoor
namespace Go.Proofs.YtdenehnneloegaaGreatDoor
open Go.RowKit Go.Shelf Go.Maps
set_option linter.unusedVariables false
/-- the columns of a choice in a table -/
def colsOf (ch : List Cand) (i : Nat) : List Int := ch.map fun c => c.2.getD i 0
/-- are the rows of each table told apart? -/
def apartC (ts : List TabK) (ch : List Cand) : Bool := (List.range ts.length).all fun i => match ts[i]? with | some t => uniqL t.1.length t.2 (colsOf ch i) | none => true
theorem apartC_no {ts : List TabK} {ch : List Cand} {i : Nat} {t : TabK} (ht : ts[i]? = some t) (h : uniqL t.1.length t.2 (colsOf ch i) = false) : apartC ts ch = false := by
  unfold apartC
  rw [List.all_eq_false]
  exact ⟨i, List.mem_range.2 (List.getElem?_eq_some_iff.1 ht).1, by rw [ht]; simpa using h⟩
theorem apartC_yes {ts : List TabK} {ch : List Cand} (h : ∀ i t, ts[i]? = some t → uniqL t.1.length t.2 (colsOf ch i) = true) : apartC ts ch = true := by
  unfold apartC
  rw [List.all_eq_true]
  intro i hi
  rw [List.mem_range] at hi
  rw [List.getElem?_eq_getElem hi]
  exact h i _ (List.getElem?_eq_getElem hi)
/-- tables that are small enough -/
def TabsOk (ts : List TabK) : Prop := ∀ t ∈ ts, t.1.length ≤ 1099511627776 ∧ t.2.length ≤ 1099511627776 ∧ SmallK t.2
def CandsOk (ts : List TabK) (ch : List Cand) : Prop := ∀ c ∈ ch, c.2.length = ts.length ∧ ∀ x ∈ c.2, (Lit.int .i64 x).wf = true
set_option maxRecDepth 100000 in
set_option maxHeartbeats 8000000 in
theorem apart_any (lo : Option Addr) (lc : Nat) (ts : List TabK) (co : Option Addr) (cc : Nat) (ch : List Cand) (w : World) (hts : ts.length ≤ 1073741824) (hcl : ch.length ≤ 1048576) (hT : TabsOk ts) (hC : CandsOk ts ch) (hL : TabsAt w lo ts) (hR : CandsAt w co ch) (hpow : Pow w) :
    Calls Tryz.prog 62 #[.slice lo ts.length lc, .slice co ch.length cc] w fun e w' => e = .returned (.bool (apartC ts ch)) ∧ Below w.heap.size w w' := by
  have HTo := Lib.hid hT
  have HCo := Lib.hid hC
  have HLo := Lib.hid hL
  have HRo := Lib.hid hR
  have HP := Lib.hid hpow
  have HNo := Lib.hid (fun i t h k => @apartC_no ts ch i t h k)
  have HYs := Lib.hid (fun h => @apartC_yes ts ch h)
  have hmk := make_ints ch.length (by omega) w
  obtain ⟨F, hF⟩ : ∃ F, F = apartC ts ch := ⟨_, rfl⟩
  rw [← hF] at HNo HYs ⊢
  obtain ⟨U, HU⟩ : ∃ U, Hid (U = w.alloc (.cells (cellsI (List.replicate ch.length 0)) 3)) := ⟨_, Lib.hid rfl⟩
  have HB0 : Hid (Below w.heap.size w U) := Lib.hid (by rw [HU.out]; exact one_below w _)
  have HX0 : Hid (∃ X : List Int, X.length = ch.length ∧ U.heap[w.heap.size]? = some (.cells (cellsI X) 3 (0, 0))) := Lib.hid ⟨List.replicate ch.length 0, by simp, by rw [HU.out]; exact World.alloc_heap_new _ _⟩
  clear hT hC hL hR hpow hF
  go_enter Tryz.func62, Tryz.ntmps62
  go_wp2_with fail
  rw [← HU.out]
  go_loopw [15] (fun j wr => ∃ k : Nat, k ≤ ts.length ∧ j = .int .i64 k ∧ Hid (Below w.heap.size w wr) ∧ Hid (∃ X : List Int, X.length = ch.length ∧ wr.heap[w.heap.size]? = some (.cells (cellsI X) 3 (0, 0))) ∧ Hid (∀ i t, i < k → ts[i]? = some t → uniqL t.1.length t.2 (colsOf ch i) = true)) (fun j _ => ts.length - (intOf j).toNat)
  case atStart => exact ⟨0, Nat.zero_le _, rfl, HB0, HX0, Lib.hid (fun i t h => by omega)⟩
  case round =>
    obtain ⟨k, hk, rfl, HB, HX, HA⟩ := hrel
    clear HB0 HX0 hmk
    by_cases hlt : k < ts.length
    · obtain ⟨t, ht⟩ : ∃ t, ts[k]? = some t := ⟨_, List.getElem?_eq_getElem hlt⟩
      have HTk := Lib.hid ht
      rcases HLo.out with h0 | ⟨tb, tof, rfl, hA, hcell⟩
      · rw [h0] at hlt; simp at hlt
      obtain ⟨ho, hc, ro, rc, c1, c2, -, hrows⟩ := hcell k t ht
      replace c1 := (HB.out.cell (p := ⟨tb, _, none⟩) hA).trans c1
      replace c2 := (HB.out.cell (p := ⟨tb, _, none⟩) hA).trans c2
      obtain ⟨t1, t2, t3⟩ := HTo.out t (List.mem_of_getElem? ht)
      have HT1 := Lib.hid t1
      have HT2 := Lib.hid t2
      have HT3 := Lib.hid t3
      obtain ⟨V, HV⟩ : ∃ V, Hid (V = wr.alloc (.cells #[.slice ho t.1.length hc, .slice ro t.2.length rc] 25)) := ⟨_, Lib.hid rfl⟩
      have hbV : Below wr.heap.size wr V := by rw [HV.out]; exact one_below wr _
      have hVh : V.heap[wr.heap.size]? = some (.cells #[.slice ho t.1.length hc, .slice ro t.2.length rc] 25 (0, 0)) := by rw [HV.out]; exact World.alloc_heap_new _ _
      have HVh := Lib.hid hVh
      have HBV := Lib.hid (below_up HB.out hbV)
      have HRW := Lib.hid hrows
      have HlV := Lib.hid (lt_of_heap hVh)
      have HXV : Hid (∃ X : List Int, X.length = ch.length ∧ X.take 0 = (colsOf ch k).take 0 ∧ V.heap[w.heap.size]? = some (.cells (cellsI X) 3 (0, 0))) := Lib.hid (by
        obtain ⟨X, h1, h2⟩ := HX.out
        exact ⟨X, h1, by simp, (hbV.block _ (lt_of_heap h2)).trans h2⟩)
      have hws : w.heap.size ≤ wr.heap.size := HB.out.size
      have HWlt := Lib.hid (show w.heap.size < wr.heap.size from by obtain ⟨X, h1, h2⟩ := HX.out; exact lt_of_heap h2)
      clear hcell hrows t1 t2 t3 hbV hVh ht HB HX
      go_upto_region 5 with fail
      rw [← HV.out]
      go_wp2_with fail
      obtain ⟨wo, rfl⟩ : ∃ wo : World, wo = wr := ⟨_, rfl⟩
      go_loopw [22] (fun j wr => ∃ q : Nat, q ≤ ch.length ∧ j = .int .i64 q ∧ Hid (Below w.heap.size w wr) ∧ Hid (wr.heap[wo.heap.size]? = some (.cells #[.slice ho t.1.length hc, .slice ro t.2.length rc] 25 (0, 0))) ∧ Hid (∃ X : List Int, X.length = ch.length ∧ X.take q = (colsOf ch k).take q ∧ wr.heap[w.heap.size]? = some (.cells (cellsI X) 3 (0, 0)))) (fun j _ => ch.length - (intOf j).toNat)
      case atStart => exact ⟨0, Nat.zero_le _, rfl, HBV, HVh, HXV⟩
      case round =>
        obtain ⟨q, hq, rfl, HB, HT, HX⟩ := hrel
        clear HBV HVh HXV
        by_cases hlq : q < ch.length
        · obtain ⟨⟨nm, xs⟩, hcq⟩ : ∃ c, ch[q]? = some c := ⟨_, List.getElem?_eq_getElem hlq⟩
          obtain ⟨hxl, -⟩ := HCo.out _ (List.mem_of_getElem? hcq)
          dsimp only at hxl
          obtain ⟨y, hy⟩ : ∃ y, xs[k]? = some y := ⟨_, List.getElem?_eq_getElem (by omega)⟩
          have HFq : Hid ((colsOf ch k)[q]? = some y) := Lib.hid (by unfold colsOf; rw [List.getElem?_map, hcq]; simp [List.getD_eq_getElem?_getD, hy])
          have hkx : k < xs.length := by omega
          rcases (HRo.out.kept HB.out) with h0 | ⟨cb, cof, rfl, hcA, hccell⟩
          · rw [h0] at hlq; simp at hlq
          obtain ⟨n0, ao, ac, n1, hints⟩ := hccell q _ hcq
          dsimp only at n0 n1 hints
          rcases hints with h0 | ⟨A, rfl, hAA, hacell⟩
          · rw [h0] at hkx; simp at hkx
          have ny := hacell k y hy
          obtain ⟨W, HW⟩ : ∃ W, Hid (W = wr.alloc (.cells #[.string nm, .slice (some A) xs.length ac] 155)) := ⟨_, Lib.hid rfl⟩
          have hbW : Below wr.heap.size wr W := by rw [HW.out]; exact one_below wr _
          have hWh : W.heap[wr.heap.size]? = some (.cells #[.string nm, .slice (some A) xs.length ac] 155 (0, 0)) := by rw [HW.out]; exact World.alloc_heap_new _ _
          have w1 : W.cell? ⟨wr.heap.size, 1, none⟩ = some (.slice (some A) xs.length ac) := (Lib.cell_of_heap hWh 1).trans rfl
          have ny2 : W.cell? (A.add k) = some (.int .i64 y) := (hbW.cell (by rw [add_block]; exact hAA)).trans ny
          obtain ⟨X, hX1, hX2, hX3⟩ := HX.out
          have hX4 := (hbW.block _ (lt_of_heap hX3)).trans hX3
          have HX4 := Lib.hid hX4
          have hsz : q < (cellsI X).size := by unfold cellsI; rw [List.size_toArray, List.length_map, hX1]; exact hlq
          have kc : W.cell? ⟨w.heap.size, q, none⟩ = some (cellsI X)[q] := (Lib.cell_of_heap hX4 q).trans (Array.getElem?_eq_getElem hsz)
          have kf : W.frozen? ⟨w.heap.size, q, none⟩ = false := frozen_free hX4 q
          have HB' : Hid (Below w.heap.size w (W.setCell ⟨w.heap.size, q, none⟩ (.int .i64 y))) := Lib.hid ((below_up HB.out hbW).setCell (p := ⟨w.heap.size, q, none⟩) (Nat.le_refl _) _)
          have HT' : Hid ((W.setCell ⟨w.heap.size, q, none⟩ (.int .i64 y)).heap[wo.heap.size]? = some (.cells #[.slice ho t.1.length hc, .slice ro t.2.length rc] 25 (0, 0))) := Lib.hid (by
            rw [Go.Deep.blk_setCell_other _ _ _ _ (by have := HWlt.out; simp; omega)]
            exact (hbW.block _ (lt_of_heap HT.out)).trans HT.out)
          have HX' : Hid (∃ X : List Int, X.length = ch.length ∧ X.take (q + 1) = (colsOf ch k).take (q + 1) ∧ (W.setCell ⟨w.heap.size, q, none⟩ (.int .i64 y)).heap[w.heap.size]? = some (.cells (cellsI X) 3 (0, 0))) := Lib.hid ⟨X.set q y, by simpa using hX1, by
            rw [List.take_add_one, List.take_add_one, HFq.out, List.getElem?_set_self (by omega), List.take_set_of_le (Nat.le_refl _), hX2], by rw [heap_set _ hX4, cellsI_set]⟩
          obtain ⟨u, hu⟩ : ∃ u, u = (cellsI X)[q] := ⟨_, rfl⟩
          rw [← hu] at kc
          clear hccell hacell ny hbW hWh hX1 hX2 hX3 hX4 hsz hu hcq hy hxl HX HB HT
          go_upto_region 8 with fail
          rw [← HW.out]
          go_wp2_with fail
          go_roundw
          case rel => exact ⟨q + 1, by omega, by go_num, HB', HT', HX'⟩
          case measure => simp [intOf]; omega
        · have hqe : q = ch.length := by omega
          obtain ⟨X, hX1, hX2, hX3⟩ := HX.out
          have hlc : (colsOf ch k).length = ch.length := by simp [colsOf]
          have hXe : X = colsOf ch k := by rw [← List.take_length (l := X), hX1, ← hqe, hX2, hqe, ← hlc, List.take_length]
          subst hXe
          have hwf : ∀ c ∈ colsOf ch k, (Lit.int .i64 c).wf = true := fun c hc => by
            unfold colsOf at hc
            rw [List.mem_map] at hc
            obtain ⟨d, hd, rfl⟩ := hc
            obtain ⟨d1, d2⟩ := HCo.out d hd
            rw [List.getD_eq_getElem?_getD, List.getElem?_eq_getElem (by omega)]
            exact d2 _ (List.getElem_mem _)
          have CU := unique_any ho t.1.length hc ro rc t.2 (some ⟨w.heap.size, 0, none⟩) ch.length (colsOf ch k) wr HT1.out HT2.out HT3.out (by rw [hlc]; omega) hwf (HRW.out.kept HB.out) (ints_block hX3) (HP.out.kept HB.out)
          rw [hlc] at CU
          have CU := Lib.hid CU
          have t0 : wr.cell? ⟨wo.heap.size, 0, none⟩ = some (.slice ho t.1.length hc) := (Lib.cell_of_heap HT.out 0).trans rfl
          have t1 : wr.cell? ⟨wo.heap.size, 1, none⟩ = some (.slice ro t.2.length rc) := (Lib.cell_of_heap HT.out 1).trans rfl
          have HX3 := Lib.hid hX3
          clear hX1 hX2 hX3 hwf hlc HX HT
          cases hu : uniqL t.1.length t.2 (colsOf ch k) with
          | false =>
            rw [hu] at CU
            have E := Lib.hid (HNo.out k t HTk.out hu)
            clear hu hqe
            go_wp2_with fail
            refine CU.out.mono ?_
            rintro e w9 ⟨rfl, b9⟩
            have B9 := Lib.hid (below_up HB.out b9)
            clear b9 t0 t1
            go_wp2_with fail
            go_ret
            exact ⟨by rw [E.out]; rfl, B9.out⟩
          | true =>
            rw [hu] at CU
            have HA' : Hid (∀ i t, i < k + 1 → ts[i]? = some t → uniqL t.1.length t.2 (colsOf ch i) = true) := Lib.hid (fun i t' hi ht' => by
              by_cases h : i = k
              · subst h; rw [HTk.out] at ht'; cases ht'; exact hu
              · exact HA.out i t' (by omega) ht')
            clear hu hqe
            go_wp2_with fail
            refine CU.out.mono ?_
            rintro e w9 ⟨rfl, b9⟩
            have B9 := Lib.hid (below_up HB.out b9)
            have X9 : Hid (∃ X : List Int, X.length = ch.length ∧ w9.heap[w.heap.size]? = some (.cells (cellsI X) 3 (0, 0))) := Lib.hid ⟨colsOf ch k, by simp [colsOf], (b9.block _ (lt_of_heap HX3.out)).trans HX3.out⟩
            clear b9 t0 t1
            go_wp2_with fail
            go_roundw
            case rel => exact ⟨k + 1, by omega, by go_num, B9, X9, HA'⟩
            case measure => simp [intOf]; omega
    · have E := Lib.hid (HYs.out (fun i t ht => HA.out i t (by have := (List.getElem?_eq_some_iff.1 ht).1; omega) ht))
      go_wp2_with fail
      go_ret
      exact ⟨by rw [E.out]; rfl, HB.out⟩
end Go.Proofs.YtdenehnneloegaaGreatDoor
