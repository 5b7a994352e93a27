/-
  Gone ones, taken from a list up to where a function says so: the program's answer.
  Conditions: lists of at most 2^32 pairs.
-/
import Derived.IntWalk
import Derived.WalkArith
import Derived.OwnWalk
import Derived.Deep.Cut
import Derived.BigQuiet
import Derived.Deep.QuietTactic
import Derived.Test.YtolcdhdmonaeaaaProg
import Derived.Test.YtolcdhdmonaeaaaWvMath
import Derived.Test.YtolcdhdmonaeaaaPThrough
import Derived.Test.YtolcdhdmonaeaaaPIns
namespace Go.Proofs.Ytolcdhdmonaeaaa
open Go.RowKit Go.Shelf
set_option linter.unusedVariables false

/-- the cells of a slice of numbers, by block and place, outside of a block -/
def IntsIn (w : World) (g : Nat) (ao : Option Addr) (ps : List Int) : Prop := ps = [] ∨ ∃ b o, ao = some ⟨b, o, none⟩ ∧ b < w.heap.size ∧ b ≠ g ∧ ∀ (i : Nat) p, ps[i]? = some p → w.cell? ⟨b, o + i, none⟩ = some (.int .i64 p)
theorem add_none (b o j : Nat) : (⟨b, o, none⟩ : Addr).add j = ⟨b, o + j, none⟩ := by unfold Addr.add; split <;> simp_all
theorem IntsAt.in_ {w : World} {ao : Option Addr} {ps : List Int} (h : IntsAt w ao ps) {g : Nat} (hg : w.heap.size ≤ g) : IntsIn w g ao ps := by
  rcases h with h | ⟨A, rfl, h2, h3⟩
  · exact .inl h
  · cases ps with
    | nil => exact .inl rfl
    | cons p ps =>
      have g0 := h3 0 p rfl
      have hs : A.spot = none := by
        cases hsp : A.spot with
        | none => rfl
        | some r =>
          simp [Addr.add, World.cell?, hsp] at g0
          split at g0 <;> cases g0
      obtain ⟨b, o, s⟩ := A
      simp at hs; subst hs
      exact .inr ⟨b, o, rfl, h2, by simp at h2; omega, fun i c hc => by rw [← add_none]; exact h3 i c hc⟩
theorem IntsIn.at_ {w : World} {g : Nat} {ao : Option Addr} {ps : List Int} (h : IntsIn w g ao ps) : IntsAt w ao ps := by
  rcases h with h | ⟨b, o, rfl, h2, _, h3⟩
  · exact .inl h
  · exact .inr ⟨_, rfl, h2, fun i c hc => by rw [add_none]; exact h3 i c hc⟩
theorem IntsIn.grown {w w' : World} {ao : Option Addr} {ps : List Int} {g : Nat} (h : IntsIn w g ao ps) (hg : w.grownBy w' (some g)) : IntsIn w' g ao ps := by
  rcases h with h | ⟨b, o, rfl, h2, hn, h3⟩
  · exact .inl h
  · exact .inr ⟨b, o, rfl, Nat.lt_of_lt_of_le h2 hg.size, hn, fun i c hc => cell_grown (h3 i c hc) hg (fun e => hn (by cases e; rfl))⟩
theorem IntsIn.drop {w : World} {g b o : Nat} {ps : List Int} (h : IntsIn w g (some ⟨b, o, none⟩) ps) (k : Nat) : IntsIn w g (some ⟨b, o + k, none⟩) (ps.drop k) := by
  rcases h with h | ⟨b', o', he, h2, hn, h3⟩
  · exact .inl (by rw [h]; simp)
  · simp at he; obtain ⟨rfl, rfl⟩ := he
    exact .inr ⟨b, o + k, rfl, h2, hn, fun i c hc => by rw [Nat.add_assoc]; exact h3 (k + i) c (by rw [List.getElem?_drop] at hc; exact hc)⟩
theorem tw_stop {p : Int → Bool} {gs : List Int} {k : Nat} {x : Int} (h : ∀ a ∈ gs.take k, p a = true) (hx : gs[k]? = some x) (hp : p x = false) : gs.takeWhile p = gs.take k ∧ gs.dropWhile p = gs.drop k := by
  obtain ⟨hk, e⟩ := List.getElem?_eq_some_iff.1 hx
  have hs : gs = gs.take k ++ x :: gs.drop (k + 1) := by rw [← e, List.getElem_cons_drop hk, List.take_append_drop]
  constructor
  · conv => lhs; rw [hs]
    rw [List.takeWhile_append_of_pos h, List.takeWhile_cons_of_neg (by simp [hp])]; simp
  · conv => lhs; rw [hs]
    rw [List.dropWhile_append_of_pos h, List.dropWhile_cons_of_neg (by simp [hp]), ← e, List.getElem_cons_drop hk]
theorem tw_all {p : Int → Bool} {gs : List Int} (h : ∀ a ∈ gs, p a = true) : gs.takeWhile p = gs ∧ gs.dropWhile p = [] := by
  have h1 := List.takeWhile_append_of_pos (l₂ := []) h
  have h2 := List.dropWhile_append_of_pos (l₂ := []) h
  simp only [List.append_nil, List.takeWhile_nil, List.dropWhile_nil] at h1 h2
  exact ⟨h1, h2⟩
/-- what was taken, and what is left -/
def TakeOut (base g n cap : Nat) (xs : PL) (tk lf : List Int) (w : World) (e : Ending) (w' : World) : Prop := ∃ ro rc, e = .returned (.tuple #[.slice (some ⟨g, 0, none⟩) (n + tk.length) cap, .slice ro lf.length rc]) ∧ w'.ownsRow base 37 2 (.slice (some ⟨g, 0, none⟩) (n + tk.length) cap) (n + tk.length) (cellsP (xs ++ goneP tk)) ∧ IntsIn w' g ro lf ∧ lf.length ≤ rc ∧ w.grownBy w' (some g)
theorem alloc_belowW (w : World) (o : Obj) : Below w.heap.size w (w.alloc o) := (Below.refl _ w).alloc (Nat.le_refl _) o

set_option maxRecDepth 100000 in
set_option maxHeartbeats 2000000 in
theorem take1_any (G : FuncId) (c1 : Value) (stop : Int → Bool) (hent : ∀ args w, (callFunc G args).run Try.prog w = .ok (.enter G args) w) (base g n cap gc : Nat) (xs : PL) (go : Option Addr) (gs : List Int) (w : World)
    (hfit : n + gs.length ≤ cap) (hcap : cap ≤ 4294967296) (hgl : gs.length ≤ gc) (hO : w.ownsRow base 37 2 (.slice (some ⟨g, 0, none⟩) n cap) n (cellsP xs)) (hI : IntsIn w g go gs)
    (hG : ∀ a V, w.grownBy V (some g) → Calls Try.prog G #[.int .i64 a, c1] V fun e w' => e = .returned (.bool (stop a)) ∧ Below V.heap.size V w') :
    Calls Try.prog 17 #[.slice (some ⟨g, 0, none⟩) n cap, .slice go gs.length gc, .func (.func G) #[] #[c1]] w (TakeOut base g n cap xs (gs.takeWhile (fun a => !stop a)) (gs.dropWhile (fun a => !stop a)) w) := by
  have hinfo : (Try.prog.info? 37).map (fun i => (i.zero, i.size, i.bytes)) = some (some (.agg #[.int .i64 0, .int .i64 0]), 2, 16) := by kernel_rfl
  obtain ⟨i0, hi, hz0, hz1, hz2⟩ := info_parts2 hinfo
  have HI := Lib.hid hi
  have HG := Lib.hid hG
  have HIo := Lib.hid hI
  have HO0 : Hid (w.ownsRow base 37 2 (.slice (some ⟨g, 0, none⟩) (n + 0) cap) (n + 0) (cellsP (xs ++ goneP (gs.take 0)))) := Lib.hid (by simpa [goneP] using hO)
  obtain ⟨Q, HQ⟩ : ∃ Q, Hid (Q = TakeOut base g n cap xs (gs.takeWhile (fun a => !stop a)) (gs.dropWhile (fun a => !stop a)) w) := ⟨_, Lib.hid rfl⟩
  have HE1 : Hid (∀ (k : Nat) x b o W, (∀ a ∈ gs.take k, (!stop a) = true) → gs[k]? = some x → stop x = true → go = some ⟨b, o, none⟩ → W.ownsRow base 37 2 (.slice (some ⟨g, 0, none⟩) (n + k) cap) (n + k) (cellsP (xs ++ goneP (gs.take k))) → w.grownBy W (some g) → Q (.returned (.tuple #[.slice (some ⟨g, 0, none⟩) (n + k) cap, .slice (some ⟨b, o + k, none⟩) (gs.length - k) (gc - k)])) W) := Lib.hid (fun k x b o W h1 h2 h3 h4 h5 h6 => by
    obtain ⟨t1, t2⟩ := tw_stop (p := fun a => !stop a) h1 h2 (by simp [h3])
    have hk := (List.getElem?_eq_some_iff.1 h2).1
    rw [HQ.out, t1, t2]
    refine ⟨some ⟨b, o + k, none⟩, gc - k, by rw [List.length_take, List.length_drop, Nat.min_eq_left (by omega)], by rw [List.length_take, Nat.min_eq_left (by omega)]; exact h5, ?_, by rw [List.length_drop]; omega, h6⟩
    have := (hI.grown h6); rw [h4] at this; exact this.drop k)
  have HE2 : Hid (∀ W, (∀ a ∈ gs.take gs.length, (!stop a) = true) → W.ownsRow base 37 2 (.slice (some ⟨g, 0, none⟩) (n + gs.length) cap) (n + gs.length) (cellsP (xs ++ goneP (gs.take gs.length))) → w.grownBy W (some g) → Q (.returned (.tuple #[.slice (some ⟨g, 0, none⟩) (n + gs.length) cap, .slice none 0 0])) W) := Lib.hid (fun W h1 h5 h6 => by
    rw [List.take_length] at h1 h5
    obtain ⟨t1, t2⟩ := tw_all (p := fun a => !stop a) h1
    rw [HQ.out, t1, t2]
    exact ⟨none, 0, rfl, h5, .inl rfl, Nat.le_refl _, h6⟩)
  rw [← HQ.out]
  clear hi hinfo hI hG hO HQ
  go_enter Try.func17, Try.ntmps17
  go_wp2_with fail
  go_loopw [0, 12] (fun v i wr => ∃ (k : Nat), k ≤ gs.length ∧ i = .int .i64 k ∧ v = .slice (some ⟨g, 0, none⟩) (n + k) cap ∧ Hid (w.grownBy wr (some g)) ∧ Hid (wr.ownsRow base 37 2 (.slice (some ⟨g, 0, none⟩) (n + k) cap) (n + k) (cellsP (xs ++ goneP (gs.take k)))) ∧ Hid (∀ a ∈ gs.take k, (!stop a) = true)) (fun _ i _ => gs.length - (intOf i).toNat)
  case atStart => exact ⟨0, Nat.zero_le _, rfl, rfl, Lib.hid (World.grownBy.refl _ _), HO0, Lib.hid (by simp)⟩
  case round =>
    obtain ⟨k, hk, rfl, rfl, HGr, HO, HS⟩ := hrel
    by_cases hlt : k < gs.length
    · obtain ⟨x, hx⟩ : ∃ x, gs[k]? = some x := ⟨_, List.getElem?_eq_getElem hlt⟩
      rcases (HIo.out.grown HGr.out) with h0 | ⟨b, o, rfl, hb, hbg, hcell⟩
      · rw [h0] at hlt; simp at hlt
      have hc := hcell k x hx
      have C := Lib.hid (HG.out x wr HGr.out)
      have HX := Lib.hid hx
      clear hcell hx hbg
      obtain ⟨sx, hsx⟩ : ∃ s, s = stop x := ⟨_, rfl⟩
      rw [← hsx] at C
      go_wp2_with fail
      refine C.out.mono ?_; rintro e w2 ⟨rfl, b1⟩
      have HG2 := Lib.hid (grown_trans HGr.out (grown_below b1))
      have HO2 := Lib.hid (ownsRow_below HO.out b1)
      clear C b1 HO hc
      cases sx with
      | true =>
        have HE := Lib.hid (HE1.out k x b o)
        have HSX := Lib.hid hsx.symm
        have hkc : k ≤ gc := by omega
        clear hsx
        go_wp2_with fail
        go_quiet (fail)
        go_wp2_with fail
        exact HE.out _ HS.out HX.out HSX.out (by first | trivial | rfl) HO2.out (grown_trans HG2.out (grown_drewN _ _ _))
      | false =>
        have HSX := Lib.hid hsx.symm
        have HTk : Hid (gs.take (k + 1) = gs.take k ++ [x]) := Lib.hid (by
          obtain ⟨h1, e⟩ := List.getElem?_eq_some_iff.1 HX.out
          rw [List.take_succ_eq_append_getElem h1, e])
        clear hsx
        have HO3 := Lib.hid (HO2.out.alloc (.cells #[Value.int .i64 x, Value.int .i64 (-1)] 37))
        go_wp2_with (at_builtin; refine wpList_append_fits _ rfl _ _ 22 rfl base 37 i0 2 Try.underlying22 HI.out hz1 g (n + k) cap _ rfl HO3.out ⟨w2.heap.size, 0, none⟩ 1 1 [Value.int .i64 x, Value.int .i64 (-1)] rfl rfl (lit_cellP w2 _ _ _) (fun u hu => by simp at hu; rcases hu with rfl | rfl <;> rfl) (by omega) ?_)
        intro w3 hown' hgrow
        have HG3 := Lib.hid (grown_trans HG2.out (grown_trans (grown_below (alloc_belowW w2 _)) hgrow))
        have HO4 : Hid (w3.ownsRow base 37 2 (.slice (some ⟨g, 0, none⟩) (n + (k + 1)) cap) (n + (k + 1)) (cellsP (xs ++ goneP (gs.take (k + 1))))) := Lib.hid (by
          rw [HTk.out]
          have e : cellsP (xs ++ goneP (gs.take k ++ [x])) = cellsP (xs ++ goneP (gs.take k)) ++ [Value.int .i64 x, Value.int .i64 (-1)] := by
            unfold goneP; rw [List.map_append, ← List.append_assoc, cellsP_app (xs ++ _)]; rfl
          rw [e, ← Nat.add_assoc]; exact hown')
        have HS2 : Hid (∀ a ∈ gs.take (k + 1), (!stop a) = true) := Lib.hid (fun a ha => by
          rw [HTk.out] at ha
          rcases List.mem_append.1 ha with h | h
          · exact HS.out a h
          · simp at h; subst h; simp [HSX.out])
        clear hown' hgrow HO3 HO2
        go_wp2_with fail
        go_roundw
        case rel => exact ⟨k + 1, by omega, by go_num, by rw [Nat.add_assoc], HG3, HO4, HS2⟩
        case measure => simp [intOf]; omega
    · obtain rfl : k = gs.length := by omega
      have HE := Lib.hid (HE2.out wr HS.out HO.out HGr.out)
      clear HO HS
      go_wp2_with fail
      exact HE.out

set_option maxRecDepth 100000 in
set_option maxHeartbeats 2000000 in
theorem take0_any (G : FuncId) (stop : Int → Bool) (hent : ∀ args w, (callFunc G args).run Try.prog w = .ok (.enter G args) w) (base g n cap gc : Nat) (xs : PL) (go : Option Addr) (gs : List Int) (w : World)
    (hfit : n + gs.length ≤ cap) (hcap : cap ≤ 4294967296) (hgl : gs.length ≤ gc) (hO : w.ownsRow base 37 2 (.slice (some ⟨g, 0, none⟩) n cap) n (cellsP xs)) (hI : IntsIn w g go gs)
    (hG : ∀ a V, w.grownBy V (some g) → Calls Try.prog G #[.int .i64 a] V fun e w' => e = .returned (.bool (stop a)) ∧ Below V.heap.size V w') :
    Calls Try.prog 17 #[.slice (some ⟨g, 0, none⟩) n cap, .slice go gs.length gc, .func (.func G) #[] #[]] w (TakeOut base g n cap xs (gs.takeWhile (fun a => !stop a)) (gs.dropWhile (fun a => !stop a)) w) := by
  have hinfo : (Try.prog.info? 37).map (fun i => (i.zero, i.size, i.bytes)) = some (some (.agg #[.int .i64 0, .int .i64 0]), 2, 16) := by kernel_rfl
  obtain ⟨i0, hi, hz0, hz1, hz2⟩ := info_parts2 hinfo
  have HI := Lib.hid hi
  have HG := Lib.hid hG
  have HIo := Lib.hid hI
  have HO0 : Hid (w.ownsRow base 37 2 (.slice (some ⟨g, 0, none⟩) (n + 0) cap) (n + 0) (cellsP (xs ++ goneP (gs.take 0)))) := Lib.hid (by simpa [goneP] using hO)
  obtain ⟨Q, HQ⟩ : ∃ Q, Hid (Q = TakeOut base g n cap xs (gs.takeWhile (fun a => !stop a)) (gs.dropWhile (fun a => !stop a)) w) := ⟨_, Lib.hid rfl⟩
  have HE1 : Hid (∀ (k : Nat) x b o W, (∀ a ∈ gs.take k, (!stop a) = true) → gs[k]? = some x → stop x = true → go = some ⟨b, o, none⟩ → W.ownsRow base 37 2 (.slice (some ⟨g, 0, none⟩) (n + k) cap) (n + k) (cellsP (xs ++ goneP (gs.take k))) → w.grownBy W (some g) → Q (.returned (.tuple #[.slice (some ⟨g, 0, none⟩) (n + k) cap, .slice (some ⟨b, o + k, none⟩) (gs.length - k) (gc - k)])) W) := Lib.hid (fun k x b o W h1 h2 h3 h4 h5 h6 => by
    obtain ⟨t1, t2⟩ := tw_stop (p := fun a => !stop a) h1 h2 (by simp [h3])
    have hk := (List.getElem?_eq_some_iff.1 h2).1
    rw [HQ.out, t1, t2]
    refine ⟨some ⟨b, o + k, none⟩, gc - k, by rw [List.length_take, List.length_drop, Nat.min_eq_left (by omega)], by rw [List.length_take, Nat.min_eq_left (by omega)]; exact h5, ?_, by rw [List.length_drop]; omega, h6⟩
    have := (hI.grown h6); rw [h4] at this; exact this.drop k)
  have HE2 : Hid (∀ W, (∀ a ∈ gs.take gs.length, (!stop a) = true) → W.ownsRow base 37 2 (.slice (some ⟨g, 0, none⟩) (n + gs.length) cap) (n + gs.length) (cellsP (xs ++ goneP (gs.take gs.length))) → w.grownBy W (some g) → Q (.returned (.tuple #[.slice (some ⟨g, 0, none⟩) (n + gs.length) cap, .slice none 0 0])) W) := Lib.hid (fun W h1 h5 h6 => by
    rw [List.take_length] at h1 h5
    obtain ⟨t1, t2⟩ := tw_all (p := fun a => !stop a) h1
    rw [HQ.out, t1, t2]
    exact ⟨none, 0, rfl, h5, .inl rfl, Nat.le_refl _, h6⟩)
  rw [← HQ.out]
  clear hi hinfo hI hG hO HQ
  go_enter Try.func17, Try.ntmps17
  go_wp2_with fail
  go_loopw [0, 12] (fun v i wr => ∃ (k : Nat), k ≤ gs.length ∧ i = .int .i64 k ∧ v = .slice (some ⟨g, 0, none⟩) (n + k) cap ∧ Hid (w.grownBy wr (some g)) ∧ Hid (wr.ownsRow base 37 2 (.slice (some ⟨g, 0, none⟩) (n + k) cap) (n + k) (cellsP (xs ++ goneP (gs.take k)))) ∧ Hid (∀ a ∈ gs.take k, (!stop a) = true)) (fun _ i _ => gs.length - (intOf i).toNat)
  case atStart => exact ⟨0, Nat.zero_le _, rfl, rfl, Lib.hid (World.grownBy.refl _ _), HO0, Lib.hid (by simp)⟩
  case round =>
    obtain ⟨k, hk, rfl, rfl, HGr, HO, HS⟩ := hrel
    by_cases hlt : k < gs.length
    · obtain ⟨x, hx⟩ : ∃ x, gs[k]? = some x := ⟨_, List.getElem?_eq_getElem hlt⟩
      rcases (HIo.out.grown HGr.out) with h0 | ⟨b, o, rfl, hb, hbg, hcell⟩
      · rw [h0] at hlt; simp at hlt
      have hc := hcell k x hx
      have C := Lib.hid (HG.out x wr HGr.out)
      have HX := Lib.hid hx
      clear hcell hx hbg
      obtain ⟨sx, hsx⟩ : ∃ s, s = stop x := ⟨_, rfl⟩
      rw [← hsx] at C
      go_wp2_with fail
      refine C.out.mono ?_; rintro e w2 ⟨rfl, b1⟩
      have HG2 := Lib.hid (grown_trans HGr.out (grown_below b1))
      have HO2 := Lib.hid (ownsRow_below HO.out b1)
      clear C b1 HO hc
      cases sx with
      | true =>
        have HE := Lib.hid (HE1.out k x b o)
        have HSX := Lib.hid hsx.symm
        have hkc : k ≤ gc := by omega
        clear hsx
        go_wp2_with fail
        go_quiet (fail)
        go_wp2_with fail
        exact HE.out _ HS.out HX.out HSX.out (by first | trivial | rfl) HO2.out (grown_trans HG2.out (grown_drewN _ _ _))
      | false =>
        have HSX := Lib.hid hsx.symm
        have HTk : Hid (gs.take (k + 1) = gs.take k ++ [x]) := Lib.hid (by
          obtain ⟨h1, e⟩ := List.getElem?_eq_some_iff.1 HX.out
          rw [List.take_succ_eq_append_getElem h1, e])
        clear hsx
        have HO3 := Lib.hid (HO2.out.alloc (.cells #[Value.int .i64 x, Value.int .i64 (-1)] 37))
        go_wp2_with (at_builtin; refine wpList_append_fits _ rfl _ _ 22 rfl base 37 i0 2 Try.underlying22 HI.out hz1 g (n + k) cap _ rfl HO3.out ⟨w2.heap.size, 0, none⟩ 1 1 [Value.int .i64 x, Value.int .i64 (-1)] rfl rfl (lit_cellP w2 _ _ _) (fun u hu => by simp at hu; rcases hu with rfl | rfl <;> rfl) (by omega) ?_)
        intro w3 hown' hgrow
        have HG3 := Lib.hid (grown_trans HG2.out (grown_trans (grown_below (alloc_belowW w2 _)) hgrow))
        have HO4 : Hid (w3.ownsRow base 37 2 (.slice (some ⟨g, 0, none⟩) (n + (k + 1)) cap) (n + (k + 1)) (cellsP (xs ++ goneP (gs.take (k + 1))))) := Lib.hid (by
          rw [HTk.out]
          have e : cellsP (xs ++ goneP (gs.take k ++ [x])) = cellsP (xs ++ goneP (gs.take k)) ++ [Value.int .i64 x, Value.int .i64 (-1)] := by
            unfold goneP; rw [List.map_append, ← List.append_assoc, cellsP_app (xs ++ _)]; rfl
          rw [e, ← Nat.add_assoc]; exact hown')
        have HS2 : Hid (∀ a ∈ gs.take (k + 1), (!stop a) = true) := Lib.hid (fun a ha => by
          rw [HTk.out] at ha
          rcases List.mem_append.1 ha with h | h
          · exact HS.out a h
          · simp at h; subst h; simp [HSX.out])
        clear hown' hgrow HO3 HO2
        go_wp2_with fail
        go_roundw
        case rel => exact ⟨k + 1, by omega, by go_num, by rw [Nat.add_assoc], HG3, HO4, HS2⟩
        case measure => simp [intOf]; omega
    · obtain rfl : k = gs.length := by omega
      have HE := Lib.hid (HE2.out wr HS.out HO.out HGr.out)
      clear HO HS
      go_wp2_with fail
      exact HE.out
end Go.Proofs.Ytolcdhdmonaeaaa
