/-
  Which columns are the same of a table and of what it becomes by another name, or by a move.
  Conditions: none.
-/
import Derived.Test.YtigijgcldgbokaaGreatProg
import Derived.Test.YtigijgcldgbokaaGreatEMath
import Derived.Test.YtigijgcldgbokaaGreatCFew
namespace Go.Proofs.YtigijgcldgbokaaGreat
set_option linter.unusedVariables false

theorem few_tiC {hd : List ByteArray} {rs : List (List ByteArray)} (h : fewT hd rs) : tiT hd rs := by
  obtain ⟨h1, h2, h3⟩ := h
  have hs := few_small rs h1
  refine ⟨⟨by omega, fun c hc => ?_⟩, by have := h1.1; omega, fun r hr => ⟨by have := (hs r hr).1; omega, fun c hc => by have := (hs r hr).2 c hc; omega⟩⟩
  obtain ⟨a, b, e⟩ := List.append_of_mem hc
  rw [allT, e] at h3; simp [sumT] at h3; omega
def StrArg.cpC {w : World} {ao : Option Addr} {cap : Nat} {xs : List ByteArray} (h : StrArg w ao cap xs) : Cap ao xs.length := ⟨cap, h.cap, h.nil⟩
def RowsArg.cpC {w : World} {ao : Option Addr} {cap : Nat} {rs : List (List ByteArray)} (h : RowsArg w ao cap rs) : Cap ao rs.length := ⟨cap, h.cap, h.nil⟩
/-- a table of which nothing is wrong is small -/
theorem tabIn_check {V : World} {ho ro : Option Addr} {hd : List ByteArray} {rs : List (List ByteArray)} (hc : Cap ho hd.length) (rc : Cap ro rs.length) (h : checkI hd rs = 0) (h1 : StrRow V ho hd) (h2 : RowsAt V ro rs) : TabIn V ho hc.1 hd ro rc.1 rs := by
  obtain ⟨k0, k1, k2, k3, k4, k5, k6, k7⟩ := check_parts.1 h
  exact ⟨by omega, k4, fun r hr => by have := k1 r hr; omega, by omega, h1, h2, hc.2.1, rc.2.1, hc.2.2, rc.2.2⟩
theorem check_nodup {hd : List ByteArray} {rs : List (List ByteArray)} (h : checkI hd rs = 0) : hd.Nodup := nodup_of_dup hd (check_dup h)
/-- another name -/
theorem rename_facts {hd h : List ByteArray} {rs r : List (List ByteArray)} {k : Int} {name : ByteArray} (e : turnR (fun xs => setL xs k name) (fun rs => .ok rs) hd rs = .ok (h, r)) :
    r = rs ∧ checkI hd rs = 0 ∧ checkI h rs = 0 ∧ h.length = hd.length ∧ ∃ (i : Nat) (s : ByteArray), k = i ∧ hd[i]? = some s ∧ h = hd.set i name := by
  obtain ⟨h0, h1, h2, h3⟩ := turn_is e
  injection h2 with h2
  subst h2
  unfold setL at h1
  split at h1
  · rename_i hk
    injection h1 with h1
    obtain ⟨i, rfl⟩ := Int.eq_ofNat_of_zero_le hk.1
    refine ⟨rfl, h0, h3, by rw [← h1]; simp, i, hd[i]'(by omega), rfl, List.getElem?_eq_getElem _, ?_⟩
    rw [← h1]; simp
  · cases h1
theorem rename_err {hd : List ByteArray} {rs : List (List ByteArray)} {k : Int} {name : ByteArray} {x : Int} (e : turnR (fun xs => setL xs k name) (fun rs => .ok rs) hd rs = .error x) : x ≠ 0 := by
  refine turn_ne (fun e he => ?_) (fun e he => by cases he) e
  unfold setL at he
  split at he
  · cases he
  · injection he with he; omega
theorem set_same {hd : List ByteArray} {i : Nat} {s : ByteArray} (h : hd[i]? = some s) : hd.set i s = hd := by
  obtain ⟨hi, e⟩ := List.getElem?_eq_some_iff.1 h
  rw [← e]; exact List.set_getElem_self hi
theorem rename_align {hd : List ByteArray} {rs : List (List ByteArray)} {i : Nat} {s name : ByteArray} (hi : hd[i]? = some s) (h0 : checkI hd rs = 0) (h1 : checkI (hd.set i name) rs = 0) (rename : Bool) :
    alignE hd rs (hd.set i name) rs = 0 ∧ (s = name → alignR hd rs (hd.set i name) rs rename = diagL hd.length) ∧ (rename = true → 0 < rs.length → alignR hd rs (hd.set i name) rs rename = diagL hd.length) ∧
    (s ≠ name → (rename = false ∨ rs.length = 0) → (alignR hd rs (hd.set i name) rs rename).length = hd.length - 1) := by
  obtain ⟨g1, g2⟩ := align_good hd rs (hd.set i name) rs rename h0 h1
  have hs : s = name → alignR hd rs (hd.set i name) rs rename = diagL hd.length := fun e => by
    subst e
    rw [set_same hi]
    exact alignR_self hd rs rename h0
  refine ⟨g1, hs, fun hr h => ?_, fun hne h => ?_⟩
  · by_cases e : s = name
    · exact hs e
    · rw [g2]; exact (renamed_align rs hd i s name hi (check_nodup h0) (check_nodup h1) e rename).1 hr h
  · rw [g2]; exact (renamed_align rs hd i s name hi (check_nodup h0) (check_nodup h1) hne rename).2 h
/-- a move -/
theorem ins_perm {α : Type} {l o : List α} {k : Int} {x : α} (h : insV l k x = .ok o) : o.Perm (x :: l) := by
  unfold insV at h
  split at h
  · injection h with h
    rw [← h, List.append_assoc]
    refine (List.perm_middle (a := x)).trans ?_
    show (x :: (l.take k.toNat ++ l.drop k.toNat)).Perm (x :: l)
    rw [List.take_append_drop]
  · cases h
theorem mov_perm {α : Type} {l o : List α} {f t : Int} (h : movL l f t = .ok o) : o.Perm l := by
  obtain ⟨d, x, h1, h2, h3⟩ := mov_is h
  refine (ins_perm h3).trans ?_
  unfold delL at h1
  split at h1
  · injection h1 with h1
    obtain ⟨hi, e⟩ := List.getElem?_eq_some_iff.1 h2
    rw [← h1]
    refine List.perm_middle.symm.trans ?_
    rw [← e, ← List.drop_eq_getElem_cons hi, List.take_append_drop]
  · cases h1
theorem move_facts {hd h : List ByteArray} {rs r : List (List ByteArray)} {f t : Int} (e : turnR (colsH (fun xs => movL xs f t)) (colsR (fun xs => movL xs f t)) hd rs = .ok (h, r)) (rename : Bool) :
    checkI hd rs = 0 ∧ checkI h r = 0 ∧ h.length = hd.length ∧ alignE hd rs h r = 0 ∧ (alignR hd rs h r rename).length = hd.length ∧
    (∀ (i : Nat) s, h[i]? = some s → ∃ k : Nat, (alignR hd rs h r rename)[i]? = some ((k : Int), (i : Int)) ∧ hd[k]? = some s) ∧
    ∃ (i j : Nat), f = i ∧ t = j ∧ j < hd.length ∧ (alignR hd rs h r rename)[j]? = some ((i : Int), (j : Int)) := by
  obtain ⟨-, -, h4, i, j, x, e1, e2, h5, h6, h7, h8⟩ := moves_cols e
  obtain ⟨h0, h1, h2, h3⟩ := turn_is e
  have hp := mov_perm (colsH_is h1).1
  obtain ⟨g1, g2⟩ := align_good hd rs h r rename h0 h3
  obtain ⟨m1, m2⟩ := moved_align rs r hd h (check_nodup h0) hp rename
  rw [← g2] at m1 m2
  refine ⟨h0, h3, h4, g1, m1, fun q s hs => ?_, i, j, e1, e2, h6, ?_⟩
  · obtain ⟨a, k, b, c⟩ := m2 q s hs
    rw [b] at a
    exact ⟨k, a, c⟩
  · obtain ⟨a, -⟩ := m2 j x h8
    rw [find_is hd (check_nodup h0) i x h7] at a
    exact a
theorem move_err {hd : List ByteArray} {rs : List (List ByteArray)} {f t : Int} {x : Int} (e : turnR (colsH (fun xs => movL xs f t)) (colsR (fun xs => movL xs f t)) hd rs = .error x) : x ≠ 0 := by
  exact cols_ne (fun xs => mov_ne) e
end Go.Proofs.YtigijgcldgbokaaGreat
