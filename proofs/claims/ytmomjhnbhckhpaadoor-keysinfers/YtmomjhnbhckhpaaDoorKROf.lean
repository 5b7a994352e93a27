/-
  The reference: the key that is asked for, or the least one.
  Conditions: at most 2^30 tables, each of at most twelve names and 2^40 rows; at most twelve names.
-/
import Derived.WalkKit
import Derived.WalkMore
import Derived.IntWalk
import Derived.Lib.Hide
import Derived.Test.YtmomjhnbhckhpaaDoorProg
import Derived.Test.YtmomjhnbhckhpaaDoorKOf
import Derived.Test.YtmomjhnbhckhpaaDoorKMath4
namespace Go.Proofs.YtmomjhnbhckhpaaDoor
open Go.RowKit Go.Shelf
set_option linter.unusedVariables false

set_option maxRecDepth 100000 in
set_option maxHeartbeats 4000000 in
theorem rof_any (lo : Option Addr) (lc : Nat) (ts : List Tab) (no : Option Addr) (nc : Nat) (names : List ByteArray) (w : World) (hts : ts.length ≤ 1073741824) (hn : names.length ≤ 12) (hcap : names.length ≤ nc)
    (hT : ∀ t ∈ ts, t.1.length ≤ 12 ∧ t.2.length ≤ 1099511627776) (hL : TabsAt w lo ts) (hR : StrRow w no names) :
    Calls Tryd.prog 19 #[.slice lo ts.length lc, .slice no names.length nc] w (NamesOut (ofC ts names) w) := by
  have hT2 : ∀ t ∈ ts, t.1.length ≤ 1099511627776 ∧ t.2.length ≤ 1099511627776 := fun t ht => ⟨by have := (hT t ht).1; omega, (hT t ht).2⟩
  have CU := Lib.hid (rusable_any lo lc ts no nc names w hts (by omega) hcap hT2 hL hR)
  have HRK := Lib.hid (fun W (hW : Below w.heap.size w W) => hR.kept hW)
  obtain ⟨RES, hRES⟩ : ∃ RES, RES = ofC ts names := ⟨_, rfl⟩
  rw [← hRES]
  unfold ofC at hRES
  cases hu : usableC ts names with
  | true =>
    rw [hu] at CU hRES
    have E : Hid (RES = names) := Lib.hid hRES
    have HE : Hid (∀ W, Below w.heap.size w W → NamesOut RES w (.returned (.slice no names.length nc)) W) := Lib.hid (fun W h => by rw [E.out]; exact ⟨no, nc, rfl, HRK.out W h, hcap, h⟩)
    clear hRES hu hT hT2 hL hR E HRK hts hn hcap
    obtain ⟨n, hnl⟩ : ∃ n, n = ts.length := ⟨_, rfl⟩
    obtain ⟨m, hml⟩ : ∃ m, m = names.length := ⟨_, rfl⟩
    rw [← hnl, ← hml] at CU
    rw [← hml] at HE
    rw [← hnl, ← hml]
    clear hnl hml
    go_enter Tryd.func19, Tryd.ntmps19
    go_wp2_with fail
    refine CU.out.mono ?_
    rintro e w1 ⟨rfl, b1⟩
    have HE2 := Lib.hid (HE.out _ b1)
    clear b1
    go_wp2_with fail
    go_ret
    exact HE2.out
  | false =>
    rw [hu] at CU hRES
    cases ts with
    | nil =>
      have E : Hid (RES = []) := Lib.hid hRES
      simp only [List.length_nil] at CU ⊢
      have HE : Hid (∀ W, Below w.heap.size w W → NamesOut RES w (.returned (.slice none 0 0)) W) := Lib.hid (fun W h => by rw [E.out]; exact ⟨none, 0, rfl, .inl rfl, Nat.le_refl _, h⟩)
      clear hRES hu hT hT2 hL hR E HRK hts hn hcap
      obtain ⟨m, hml⟩ : ∃ m, m = names.length := ⟨_, rfl⟩
      rw [← hml] at CU
      rw [← hml]
      clear hml
      go_enter Tryd.func19, Tryd.ntmps19
      go_wp2_with fail
      refine CU.out.mono ?_
      rintro e w1 ⟨rfl, b1⟩
      have HE2 := Lib.hid (HE.out _ b1)
      clear b1
      go_wp2_with fail
      go_ret
      exact HE2.out
    | cons t rest =>
      have E : Hid (RES = inferR (t :: rest) t.1) := Lib.hid (by rw [hRES, ← infer_same]; rfl)
      rcases hL with h0 | ⟨tb, tof, rfl, hA, hcell⟩
      · cases h0
      obtain ⟨ho, hc, ro, rc, c1, c2, hst, hrs⟩ := hcell 0 t rfl
      have CI := Lib.hid (fun W (hW : Below w.heap.size w W) => rinfer_any (some ⟨tb, tof, none⟩) lc (t :: rest) ho hc t.1 W hts (hT t List.mem_cons_self).1 hT2 (TabsAt.kept (.inr ⟨tb, tof, rfl, hA, hcell⟩) hW) (hst.kept hW))
      rw [← E.out] at CI
      have HC1 := Lib.hid (fun W (hW : Below w.heap.size w W) => (hW.cell (p := ⟨tb, tof + 0 * 2, none⟩) hA).trans c1)
      obtain ⟨n, hnl⟩ : ∃ n, n = (t :: rest).length := ⟨_, rfl⟩
      have hn0 : 0 < n := by rw [hnl]; simp
      rw [← hnl] at CU CI ⊢
      obtain ⟨m, hml⟩ : ∃ m, m = names.length := ⟨_, rfl⟩
      rw [← hml] at CU
      rw [← hml]
      have e0 : ((n : Int) == 0) = false := by
        cases hh : ((n : Int) == 0) with
        | false => rfl
        | true => exact absurd (eq_of_beq hh) (by omega)
      clear hRES hu hT hT2 hR hcell c1 c2 hst hrs hnl hml E HRK hts hn hcap
      go_enter Tryd.func19, Tryd.ntmps19
      go_wp2_with fail
      refine CU.out.mono ?_
      rintro e w1 ⟨rfl, b1⟩
      have B1 := Lib.hid b1
      have d1 : w1.cell? ⟨tb, tof, none⟩ = some (.slice ho t.1.length hc) := by have := HC1.out w1 b1; simpa using this
      clear b1
      go_wp2_with fail
      refine (CI.out _ B1.out).mono ?_
      rintro e w2 ⟨bo, bc, rfl, h1, h2, h3⟩
      have HE : Hid (NamesOut RES w (.returned (.slice bo RES.length bc)) w2) := Lib.hid ⟨bo, bc, rfl, h1, h2, below_up B1.out h3⟩
      clear h1 h2 h3 d1
      go_wp2_with fail
      go_ret
      exact HE.out
end Go.Proofs.YtmomjhnbhckhpaaDoor
