/-
  The key that is asked for, or the least one: what the program answers.
  Conditions: at most 2^30 tables, each with at most 2^20 names and 2^40 rows and cells of at most 2^20 bytes; at most 2^20 names.
-/
import Derived.WalkKit
import Derived.WalkMore
import Derived.Lib.Hide
import Derived.Test.YtmomjhnbhckhpaaDoorProg
import Derived.Test.YtmomjhnbhckhpaaDoorKInfer
namespace Go.Proofs.YtmomjhnbhckhpaaDoor
open Go.RowKit Go.Shelf
set_option linter.unusedVariables false

def ofC (ts : List Tab) (names : List ByteArray) : List ByteArray :=
  if usableC ts names then names else match ts with | [] => [] | t :: _ => inferC ts t.1

set_option maxRecDepth 100000 in
set_option maxHeartbeats 4000000 in
theorem of_any (lo : Option Addr) (lc : Nat) (ts : List Tab) (ao : Option Addr) (cap : Nat) (names : List ByteArray) (w : World) (hts : ts.length ≤ 1073741824) (hn : names.length ≤ 1048576) (hs : ∀ c ∈ names, c.size ≤ 140737488355328) (hT : TabsOk ts) (hH : HeadsOk ts) (hHs : ∀ t ∈ ts, t.1.length ≤ 1048576 ∧ ∀ c ∈ t.1, c.size ≤ 140737488355328) (hL : TabsAt w lo ts) (hR : StrRow w ao names) (hpow : Pow w) :
    Calls Tryd.prog 18 #[.slice lo ts.length lc, .slice ao names.length cap] w (NamesOut (ofC ts names) w) := by
  have CU := Lib.hid (usable_any lo lc ts ao cap names w hts hn (fun c hc => Nat.le_trans (hs c hc) (by unfold maxLen; omega)) hT hH hL hR hpow)
  have CC := Lib.hid (fun W (hW : Below w.heap.size w W) => copied_names ao cap names W (by omega) (fun c hc => Nat.le_trans (hs c hc) (by omega)) (hR.kept hW))
  obtain ⟨RES, hRES⟩ : ∃ RES, RES = ofC ts names := ⟨_, rfl⟩
  rw [← hRES]
  unfold ofC at hRES
  cases hu : usableC ts names with
  | true =>
    rw [hu] at CU hRES
    have E : Hid (RES = names) := Lib.hid hRES
    clear hRES hu hT hH hHs hL hR hpow hs
    go_enter Tryd.func18, Tryd.ntmps18
    go_wp2_with fail
    refine CU.out.mono ?_
    rintro e w1 ⟨rfl, b1⟩
    have B1 := Lib.hid b1
    clear b1
    go_wp2_with fail
    refine (CC.out _ B1.out).mono ?_
    rintro e w2 ⟨bo, bc, rfl, h1, h2, h3⟩
    have HE : Hid (NamesOut names w (.returned (.slice bo names.length bc)) w2) := Lib.hid ⟨bo, bc, rfl, h1, h2, below_up B1.out h3⟩
    clear h1 h2 h3
    go_wp2_with fail
    go_ret
    rw [E.out]; exact HE.out
  | false =>
    rw [hu] at CU hRES
    cases ts with
    | nil =>
      have E : Hid (RES = []) := Lib.hid hRES
      simp only [List.length_nil] at CU ⊢
      clear hRES hu hT hH hHs hL hR hpow hs CC
      go_enter Tryd.func18, Tryd.ntmps18
      go_wp2_with fail
      refine CU.out.mono ?_
      rintro e w1 ⟨rfl, b1⟩
      have B1 := Lib.hid b1
      clear b1
      go_wp2_with fail
      go_ret
      rw [E.out]; exact ⟨none, 0, rfl, .inl rfl, Nat.le_refl _, B1.out⟩
    | cons t rest =>
      have E : Hid (RES = inferC (t :: rest) t.1) := Lib.hid hRES
      rcases hL with h0 | ⟨tb, tof, rfl, hA, hcell⟩
      · cases h0
      obtain ⟨ho, hc, ro, rc, c1, c2, hst, -⟩ := hcell 0 t rfl
      obtain ⟨hh1, hh2⟩ := hHs t List.mem_cons_self
      have CI := Lib.hid (fun W (hW : Below w.heap.size w W) => infer_any (some ⟨tb, tof, none⟩) lc (t :: rest) ho hc t.1 W hts hh1 hh2 hT hH (TabsAt.kept (.inr ⟨tb, tof, rfl, hA, hcell⟩) hW) (hst.kept hW) (hpow.kept hW))
      have HC1 := Lib.hid (fun W (hW : Below w.heap.size w W) => (hW.cell (p := ⟨tb, tof + 0 * 2, none⟩) hA).trans c1)
      obtain ⟨n, hnl⟩ : ∃ n, n = (t :: rest).length := ⟨_, rfl⟩
      have hn0 : 0 < n := by rw [hnl]; simp
      rw [← hnl] at CU CI ⊢
      have e0 : ((n : Int) == 0) = false := by
        cases hh : ((n : Int) == 0) with
        | false => rfl
        | true => exact absurd (eq_of_beq hh) (by omega)
      clear hRES hu hT hH hHs hR hpow hs CC hcell c1 c2 hst hh1 hh2 hnl
      go_enter Tryd.func18, Tryd.ntmps18
      go_wp2_with fail
      refine CU.out.mono ?_
      rintro e w1 ⟨rfl, b1⟩
      have B1 := Lib.hid b1
      have d1 : w1.cell? ⟨tb, tof, none⟩ = some (.slice ho t.1.length hc) := by have := HC1.out w1 b1; simpa using this
      clear b1
      go_wp2_with fail
      refine (CI.out _ B1.out).mono ?_
      rintro e w2 ⟨bo, bc, rfl, h1, h2, h3⟩
      have HE : Hid (NamesOut RES w (.returned (.slice bo (inferC (t :: rest) t.1).length bc)) w2) := Lib.hid (by rw [E.out]; exact ⟨bo, bc, rfl, h1, h2, below_up B1.out h3⟩)
      clear h1 h2 h3 d1
      go_wp2_with fail
      go_ret
      exact HE.out
end Go.Proofs.YtmomjhnbhckhpaaDoor
