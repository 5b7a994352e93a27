/-
  All choices of so many candidates, as the program tells them one by one.
  Conditions: choices of at most 2^20, of at most 2^40 candidates.
-/
import Derived.Deep.OwnRows
import Derived.WalkKit
import Derived.WalkMore
import Derived.IntWalk
import Derived.WalkArith
import Derived.OwnWalkIn
import Derived.TacticsInMore
import Derived.LoopNIn
import Derived.LoopIn
import Derived.Lib.Hide
import Derived.RegionTactic
import Derived.Deep.RegionHeld3
import Derived.Test.YtmomjhnbhckhpaaDoorProg
import Derived.Test.YtmomjhnbhckhpaaDoorKRange
import Derived.Test.YtmomjhnbhckhpaaDoorKUsable
namespace Go.Proofs.YtmomjhnbhckhpaaDoor
open Go.RowKit Go.Shelf Go.Sort
set_option linter.unusedVariables false
attribute [local go_sem] Oper.semAt_some

/-- in a round, what is no deferred call is done as anywhere -/
theorem any_inRound {F : Fence} {n : Nat} {P : Program} {md : Region.Mode} {ops : Array Oper} {Q : Exit → Act → World → Prop} (l : Nat) (hro : F.round = none) (hop : ∀ (i : Nat) o, ops[i]? = some o → ∀ c, o.op ≠ .defer c) :
    ∀ (fuel : Nat) (listed : Array Bool) (a : Act) (w : World), wpAnyIn F n P md ops Q fuel listed a w → wpAnyIn (F.inRound l) n P md ops Q fuel listed a w := by
  intro fuel
  induction fuel with
  | zero => intro listed a w h; exact h
  | succ fuel ih =>
    intro listed a w h
    refine ⟨h.1, fun i hi => ?_⟩
    have h2 := h.2 i hi
    have key : wpOpIn (F.inRound l) n P ops Q i (wpAnyIn F n P md ops Q fuel (listed.setIfInBounds i true)) a w := by
      unfold wpOpIn at h2 ⊢
      cases ho : ops[i]? with
      | none => rw [ho] at h2; exact h2
      | some o =>
        rw [ho] at h2
        dsimp only at h2 ⊢
        split
        · rename_i hw
          rw [if_pos hw] at h2
          unfold Oper.wpIn at h2 ⊢
          refine ⟨h2.1, ?_⟩
          have e : o.semAt (F.inRound l).round a.eval = o.semAt F.round a.eval := by
            rw [hro, Fence.inRound_round, Oper.semAt_some l _ _ (hop i o ho), Oper.semAt_none]
          rw [e]
          have h3 := h2.2
          revert h3
          generalize (o.semAt F.round a.eval).run P w = r
          intro h3
          exact h3
        · rename_i hw
          rw [if_neg hw] at h2
          exact h2
    exact wpOpIn_mono (fun a w h => ih _ a w h) key
theorem room_of_none {F : Fence} (hd : F.depth = none) (k : Nat) : F.room k := fun d h => by rw [hd] at h; cases h
theorem RoundIn.anyDepth {F : Fence} (hd : F.depth = none) {m m' : Nat} {P : Program} {l : Nat} {f : FuncId} {tmps : Array Value} {assign body : Code} {w : World} {R : Ending → World → Prop}
    (h : RoundIn F m P l f tmps assign body w R) : RoundIn F m' P l f tmps assign body w R := ⟨h.1, fun c cs _ => h.2 c cs (room_of_none hd _)⟩
theorem YieldAt.anyDepth {F : Fence} (hd : F.depth = none) {m : Nat} (m' : Nat) {P : Program} {l : Nat} {args : Array Value} {W : World} {R : Ending → World → Prop} (h : YieldAt F m P l args W R) : YieldAt F m' P l args W R := by
  obtain ⟨fn, tmps, assign, body, hy, hR⟩ := h
  exact ⟨fn, tmps, assign, body, hy, RoundIn.anyDepth hd hR⟩
/-- all choices of so many, in order -/
def choicesL {α : Type} : Nat → List α → List (List α)
  | 0, _ => [[]]
  | _ + 1, [] => []
  | n + 1, x :: xs => (choicesL n xs).map (x :: ·) ++ choicesL (n + 1) xs
theorem choices_zero {α : Type} (xs : List α) : choicesL 0 xs = [[]] := by cases xs <;> rfl
theorem choices_end {α : Type} (n : Nat) (xs : List α) : choicesL (n + 1) (xs.drop xs.length) = [] := by rw [List.drop_length]; rfl
theorem choices_step {α : Type} (n : Nat) (xs : List α) (i : Nat) (x : α) (h : xs[i]? = some x) : choicesL (n + 1) (xs.drop i) = (choicesL n (xs.drop (i + 1))).map (x :: ·) ++ choicesL (n + 1) (xs.drop (i + 1)) := by
  obtain ⟨hk, e⟩ := List.getElem?_eq_some_iff.1 h
  rw [List.drop_eq_getElem_cons hk, e]; rfl
theorem choices_len {α : Type} : ∀ (n : Nat) (xs : List α), ∀ c ∈ choicesL n xs, c.length = n ∧ ∀ x ∈ c, x ∈ xs
  | 0, xs, c, hc => by rw [choices_zero] at hc; simp at hc; subst hc; simp
  | n + 1, [], c, hc => by simp [choicesL] at hc
  | n + 1, y :: ys, c, hc => by
    simp only [choicesL, List.mem_append, List.mem_map] at hc
    rcases hc with ⟨d, hd, rfl⟩ | hc
    · obtain ⟨h1, h2⟩ := choices_len n ys d hd
      exact ⟨by simp [h1], fun x hx => by rcases List.mem_cons.1 hx with rfl | hx; exact List.mem_cons_self; exact List.mem_cons_of_mem _ (h2 x hx)⟩
    · obtain ⟨h1, h2⟩ := choices_len (n + 1) ys c hc
      exact ⟨h1, fun x hx => List.mem_cons_of_mem _ (h2 x hx)⟩

/-- what is cells stays -/
def KeepsC (A B : World) : Prop := A.heap.size ≤ B.heap.size ∧ ∀ (k : Nat) cs T fr, A.heap[k]? = some (.cells cs T fr) → B.heap[k]? = some (.cells cs T fr)
theorem KeepsC.trans {A B C : World} (h : KeepsC A B) (k : KeepsC B C) : KeepsC A C := ⟨Nat.le_trans h.1 k.1, fun i cs T fr hi => k.2 i cs T fr (h.2 i cs T fr hi)⟩
theorem KeepsC.refl (A : World) : KeepsC A A := ⟨Nat.le_refl _, fun _ _ _ _ h => h⟩
theorem KeepsC.below {A B : World} (h : Below A.heap.size A B) : KeepsC A B := ⟨h.size, fun k cs T fr hk => (h.block k (lt_of_heap hk)).trans hk⟩
theorem KeepsC.put (W : World) (l : Nat) (o o' : Obj) (h : W.heap[l]? = some o) (hc : o.isCells = false) : KeepsC W (W.putObj l o') :=
  ⟨by simp, fun k cs T fr hk => heap_putL h hc hk⟩
theorem KeepsC.cell {A B : World} (h : KeepsC A B) {a : Addr} {v : Value} (ha : A.cell? a = some v) : B.cell? a = some v := by
  have hb : ∃ cs T fr, A.heap[a.block]? = some (.cells cs T fr) := by
    unfold World.cell? at ha
    cases ho : A.heap[a.block]? with
    | none => rw [ho] at ha; simp at ha
    | some o =>
      rw [ho] at ha
      cases o with
      | cells cs T fr => exact ⟨_, _, _, rfl⟩
      | _ => simp at ha
  obtain ⟨cs, T, fr, hA⟩ := hb
  rw [World.cell?_of_block ((h.2 _ _ _ _ hA).trans hA.symm)]; exact ha
theorem IntsAt.keptC {w w' : World} {ao : Option Addr} {l : List Int} (h : IntsAt w ao l) (hB : KeepsC w w') : IntsAt w' ao l := by
  rcases h with h | ⟨A, h1, h2, h3⟩
  · exact .inl h
  · exact .inr ⟨A, h1, Nat.lt_of_lt_of_le h2 hB.1, fun i p hp => hB.cell (h3 i p hp)⟩
theorem CandsAt.keptC {w w' : World} {co : Option Addr} {cs : List Cand} (h : CandsAt w co cs) (hB : KeepsC w w') : CandsAt w' co cs := by
  rcases h with h | ⟨b, o, h1, h2, h3⟩
  · exact .inl h
  · refine .inr ⟨b, o, h1, Nat.lt_of_lt_of_le h2 hB.1, fun i c hc => ?_⟩
    obtain ⟨q1, ao, cap, q2, q3⟩ := h3 i c hc
    exact ⟨hB.cell q1, ao, cap, hB.cell q2, q3.keptC hB⟩
theorem CandsAt.drop {w : World} {b o : Nat} {cs : List Cand} (h : CandsAt w (some ⟨b, o, none⟩) cs) (k : Nat) : CandsAt w (some ⟨b, o + k * 2, none⟩) (cs.drop k) := by
  rcases h with h | ⟨b', o', h1, h2, h3⟩
  · exact .inl (by rw [h]; simp)
  · cases h1
    refine .inr ⟨b, o + k * 2, rfl, h2, fun i c hc => ?_⟩
    rw [List.getElem?_drop] at hc
    have := h3 (k + i) c hc
    rw [show o + k * 2 + i * 2 = o + (k + i) * 2 by omega]
    exact this
/-- what is handed on: where a choice lies, and which it is -/
abbrev Elem := Option Addr × Nat × List Cand
def encE (x : Elem) : Array Value := #[.slice x.1 x.2.2.length x.2.1]
def listE (x : Elem) : List Cand := x.2.2
def OkE (n : Nat) (from' : List Cand) (pre : List Elem) (x : Elem) (W : World) : Prop := CandsAt W x.1 x.2.2 ∧ (x.1 = none → x.2.1 = 0) ∧ (pre ++ [x]).map listE <+: choicesL n from'

/-- what a candidate's columns read as -/
def Rd (w : World) (c : CandV) : Prop := ∃ (ao : Option Addr) (cap : Nat), c.2.1 = .slice ao c.2.2.length cap ∧ IntsAt w ao c.2.2
theorem Rd.kept {w w' : World} {c : CandV} (h : Rd w c) (hB : Below w.heap.size w w') : Rd w' c := by obtain ⟨ao, cap, h1, h2⟩ := h; exact ⟨ao, cap, h1, h2.kept hB⟩
theorem cands_split {w : World} : ∀ (cs : List Cand) (b o : Nat), CandsAt w (some ⟨b, o, none⟩) cs → ∃ R : List CandV, R.map plainC = cs ∧ (∀ c ∈ R, Rd w c) ∧ ∀ (j : Nat) u, (cellsC R)[j]? = some u → w.cell? ((⟨b, o, none⟩ : Addr).add j) = some u
  | [], b, o, h => ⟨[], rfl, by simp, fun j u hu => by simp [cellsC] at hu⟩
  | c :: cs, b, o, h => by
    obtain ⟨R, h1, h2, h3⟩ := cands_split cs b (o + 1 * 2) (by simpa using CandsAt.drop h 1)
    rcases h with h | ⟨b', o', e, hb, hcell⟩
    · cases h
    · cases e
      obtain ⟨q0, ao, cap, q1, q2⟩ := hcell 0 c rfl
      refine ⟨(c.1, .slice ao c.2.length cap, c.2) :: R, by simp [plainC, h1], fun d hd => ?_, fun j u hu => ?_⟩
      · rcases List.mem_cons.1 hd with rfl | hd
        · exact ⟨ao, cap, rfl, q2⟩
        · exact h2 d hd
      · have ha : ∀ j, (⟨b, o, none⟩ : Addr).add j = ⟨b, o + j, none⟩ := fun j => by unfold Addr.add; split <;> simp_all
        rw [ha]
        match j, hu with
        | 0, hu => simp [cellsC] at hu; subst hu; simpa using q0
        | 1, hu => simp [cellsC] at hu; subst hu; simpa using q1
        | j + 2, hu =>
          have hu' : (cellsC R)[j]? = some u := by simpa [cellsC] using hu
          have := h3 j u hu'
          have ha2 : (⟨b, o + 1 * 2, none⟩ : Addr).add j = ⟨b, o + 1 * 2 + j, none⟩ := by unfold Addr.add; split <;> simp_all
          rw [ha2] at this
          rw [show o + (j + 2) = o + 1 * 2 + j by omega]; exact this
theorem cands_join {w : World} {base : Nat} {v : Value} {R : List CandV} {n : Nat} (h : w.ownsRow base 94 2 v n (cellsC R)) (hn : R.length = n) (hR : ∀ c ∈ R, Rd w c) : ∃ co cap, v = .slice co n cap ∧ CandsAt w co (R.map plainC) := by
  rcases h.2 with ⟨rfl, h0⟩ | ⟨g, cap, cur, rfl, hb, hg, _⟩
  · have hl : R = [] := List.eq_nil_of_length_eq_zero (by omega)
    subst hl
    exact ⟨none, 0, by rw [h0], .inl rfl⟩
  · refine ⟨_, cap, rfl, .inr ⟨g, 0, rfl, lt_of_heap hg, fun i c hc => ?_⟩⟩
    rw [List.getElem?_map, Option.map_eq_some_iff] at hc
    obtain ⟨d, hd, rfl⟩ := hc
    obtain ⟨q1, q2⟩ := cellsC_at R i d hd
    have hi : i < R.length := (List.getElem?_eq_some_iff.1 hd).1
    rw [Nat.zero_add]
    have c1 := h.cellAt (i * 2) (by omega)
    have c2 := h.cellAt (i * 2 + 1) (by omega)
    rw [q1] at c1
    rw [q2] at c2
    obtain ⟨ao, cp, e, hi2⟩ := hR d (List.mem_of_getElem? hd)
    rw [e] at c2
    exact ⟨c1, ao, cp, c2, hi2⟩
theorem stepIn_append_any {F : Fence} {nn : Nat} {P : Program} {w : World} {ops : Array Oper} {o : Oper} {a : Act} {K : Act → World → Prop} {Q : Exit → Act → World → Prop} {E : Prop} (hgd : o.guard = none) (s x : Operand) (t : TypeId)
    (ho : o.op = .call { callee := .builtin .append, args := #[s, x], argTypes := #[t, t] })
    (base : Nat) (e : TypeId) (i : TypeInfo) (z : Value) (size bytes : Nat) (ht : P.underlying t = some (.slice e)) (hi : P.info? e = some i) (hz : i.zero = some z)
    (hsize : i.size = size) (hby : i.bytes = bytes) (hzs : z.cells.size = size) (hsz : 0 < size)
    (v : Value) (n : Nat) (xs : List Value) (hs : a.eval s = v) (hown : w.ownsRow base e size v n xs)
    (xo : Option Addr) (m c : Nat) (news : List Value) (hx : a.eval x = .slice xo m c) (hnone : xo = none → m = 0 ∧ c = 0) (hl : news.length = m * size) (hnews : ∀ ad, xo = some ad → ∀ (j : Nat) u, news[j]? = some u → w.cell? (ad.add j) = some u) (h1 : ∀ u ∈ news, u.oneCell' = true)
    (h63 : n + m ≤ maxLen) (hbytes : (n + m) * bytes ≤ 140737488355328) (hbase : base ≤ w.heap.size) (N : Nat) (hN : n + m = N)
    (h : ∀ ao cap w', w'.ownsRow base e size (.slice ao N cap) N (xs ++ news) → w.grownBy w' v.ownBlock → Below base w w' → K (a.put o.dst (.slice ao N cap)) w') :
    if Region.wanted o (yielded ops a.tmps) = true then Oper.wpIn F nn P o a w K Q else E := by
  subst hN
  have hw : Region.wanted o (yielded ops a.tmps) = true := by simp [Region.wanted, hgd]
  rw [if_pos hw]
  have fin : ∀ v' w', w'.ownsRow base e size v' (n + m) (xs ++ news) → w.grownBy w' v.ownBlock → K (a.put o.dst v') w' := fun v' w' h2 h3 => by
    obtain ⟨ao, cap, rfl⟩ := own_slice h2
    exact h ao cap w' h2 h3 ((Below.refl base w).grown h3 hbase (fun j hj => (hown.lt j hj).1))
  unfold Oper.wpIn
  refine ⟨by simp [Oper.about, ho, resolve, Target.leads, Sem.run_pure], ?_⟩
  rw [Oper.semAt_plain F _ _ (by rw [ho]; intro c hc'; cases hc')]
  cases xo with
  | none =>
    obtain ⟨rfl, rfl⟩ := hnone rfl
    have hnil : news = [] := List.eq_nil_of_length_eq_zero (by rw [hl]; simp)
    subst hnil
    have hrun := run_append_owned_none (P := P) (w := w) base t o.type e i size ht hi v n xs hown
    simp [execOp, ho, resolve, invoke, builtin, hs, hx, hrun, Result.andThen]
    exact fin v w (by simpa using hown) ⟨rfl, rfl, rfl, Nat.le_refl _, fun _ _ _ => rfl⟩
  | some ad =>
    obtain ⟨v', w', hrun, r1, r2, r3⟩ := run_append_own (P := P) w base t o.type e i z size bytes ht hi hz hsize hby hzs hsz v n xs hown ad m c news hl (hnews ad rfl) h1 h63 hbytes hbase
    simp [execOp, ho, resolve, invoke, builtin, hs, hx, hrun, Result.andThen]
    exact fin v' w' r1 r2

theorem choices_any (fo : Option Addr) (k fc : Nat) (n : Int) (w : World) : Calls Tryd.prog 40 #[.slice fo k fc, .int .i64 n] w fun e w' => e = .returned (.func (.func 66) #[] #[.pointer (some ⟨w.heap.size + 1, 0, none⟩), .pointer (some ⟨w.heap.size, 0, none⟩)]) ∧
    w' = (w.alloc (.cells #[.slice fo k fc] 66)).alloc (.cells #[.int .i64 n] 3) := by
  go_enter Tryd.func40, Tryd.ntmps40
  go_wp2_with fail
  go_ret
  exact ⟨rfl, rfl⟩

set_option maxRecDepth 100000 in
set_option maxHeartbeats 8000000 in
theorem choices_tells0 (m : Nat) (from' : List Cand) (Bn Bf : Nat) (w : World) (hbn : w.heap[Bn]? = some (.cells #[.int .i64 0] 3 (0, 0))) :
    TellsA Fence.wide m Tryd.prog 66 #[.pointer (some ⟨Bn, 0, none⟩), .pointer (some ⟨Bf, 0, none⟩)] encE KeepsC (OkE 0 from') (fun ys => ys.map listE = choicesL 0 from') (fun ys => ys.map listE <+: choicesL 0 from') w := by
  intro lp J Jx W hW hJ hJx hJa hJxa hY h0
  have hbW := (hW.block Bn (lt_of_heap hbn)).trans hbn
  obtain ⟨V, hV⟩ : ∃ V, V = W.alloc (.cells #[.func (.yield lp) #[] #[]] 95) := ⟨_, rfl⟩
  have hV' : W.alloc (.cells #[.func (.yield lp) #[] #[]] 95) = V := hV.symm
  have hVb : Below W.heap.size W V := by rw [hV]; exact one_below W _
  have hbV := (hVb.block Bn (lt_of_heap hbW)).trans hbW
  have c0 : V.cell? ⟨Bn, 0, none⟩ = some (.int .i64 0) := (Lib.cell_of_heap hbV 0).trans rfl
  have hVh : V.heap[W.heap.size]? = some (.cells #[.func (.yield lp) #[] #[]] 95 (0, 0)) := by rw [hV]; exact World.alloc_heap_new _ _
  have c1 : V.cell? ⟨W.heap.size, 0, none⟩ = some (.func (.yield lp) #[] #[]) := (Lib.cell_of_heap hVh 0).trans rfl
  have hJV := hJ [] W V h0 hVb
  obtain ⟨fn, tmps, assign, body, hy, hR⟩ := hY [] (none, 0, []) V hJV ⟨.inl rfl, fun _ => rfl, by rw [choices_zero]; exact List.prefix_rfl⟩
  have HR := Lib.hid hR
  clear hJ hJx hJa hJxa hY hW hV hVb hbV hVh hbW hbn h0 hR hJV
  unfold encE at hy
  dsimp only [List.length_nil] at hy
  refine callsIn_of_wp Tryd.func66 rfl trivial ?_ rfl
  simp only [Tryd.ntmps66, List.size_toArray, List.length_cons, List.length_nil, Nat.reduceAdd, Nat.reduceSub, Array.replicate_succ, Array.replicate_zero, List.push_toArray, List.append_toArray, List.nil_append, List.cons_append]
  gi_wp2_with fail
  refine ⟨(fun h => by cases h), HR.out.mono ?_⟩
  rintro ee W3 ⟨-, (⟨rfl, hJ3, -⟩ | ⟨rfl, hJx3⟩)⟩
  · have HJ3 := Lib.hid hJ3
    clear hJ3
    gi_wp2_with fail
    refine bodyPost_ret (results_none rfl _ _ _) rfl ?_
    exact ⟨⟨_, rfl⟩, .inl ⟨_, by rw [choices_zero]; rfl, HJ3.out⟩⟩
  · have HJ3 := Lib.hid hJx3
    clear hJx3
    gi_wp2_with fail
    refine bodyPost_ret (results_none rfl _ _ _) rfl ?_
    exact ⟨⟨_, rfl⟩, .inr ⟨_, by rw [choices_zero]; exact List.prefix_rfl, HJ3.out⟩⟩

end Go.Proofs.YtmomjhnbhckhpaaDoor
