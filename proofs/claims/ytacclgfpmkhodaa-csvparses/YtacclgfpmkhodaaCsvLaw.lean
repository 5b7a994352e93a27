/-
  What the statements about records have in common.
  Conditions: none.
-/
import Derived.WalkKit
import Derived.Lib.Hide
import Derived.Test.YtacclgfpmkhodaaProg
import Derived.Test.YtacclgfpmkhodaaCsvOpen
namespace Go.Proofs.Ytacclgfpmkhodaa
open Go.RowKit Go.Shelf

def Back (W : World) (L : Recs) (e : Ending) (w' : World) : Prop := ∃ ao cap rs, e = .returned (.tuple #[.slice ao rs.length cap, .int .i64 0, .int .i64 0]) ∧ (RowsAt w' ao rs ∧ recsOf rs = L ∧ rs.length ≤ 1099511627776 ∧ ∀ r ∈ rs, r.length ≤ 1099511627776) ∧ Below W.heap.size W w'
theorem back_of {W w' : World} {e : Ending} {x : Recs × Int × Nat} (h : Parsed W x e w') (L : Recs) (hx : x = (L, 0, 0)) (hL : L.length ≤ 1099511627776 ∧ ∀ r ∈ L, r.length ≤ 1099511627776) : Back W L e w' := by
  obtain ⟨ao, cap, rs, rfl, h1, h2, h3⟩ := h
  subst hx
  obtain ⟨k1, k2⟩ := rows_len rs L h2
  exact ⟨ao, cap, rs, rfl, ⟨h1, h2, by rw [k1]; exact hL.1, k2 _ hL.2⟩, h3⟩
theorem fine_bounds (L : Recs) (hn : L.length ≤ 2048) (hf : ∀ r ∈ L, fine r) : L.length ≤ 1099511627776 ∧ ∀ r ∈ L, r.length ≤ 1099511627776 :=
  ⟨by omega, fun r hr => by have := (hf r hr).2.1; omega⟩
theorem back_any (T : ByteArray) (u : UInt8) (W : World) (L : Recs) (h : parseL T.data.toList (u.toNat : Int) = (L, 0, 0)) (hs : T.size ≤ 1099511627776) (hn : L.length ≤ 2048) (hf : ∀ r ∈ L, fine r) :
    Calls Try.prog 5 #[.string T, .int .u8 (u.toNat : Int)] W fun e w' => Back W L e w' :=
  (parse_any T u W hs).mono fun _ _ k => back_of k L h (fine_bounds L hn hf)
theorem same_true (a b : List (List ByteArray)) (h : recsOf a = recsOf b) : sameRecs a b = true := decide_eq_true h
theorem str_nil (T : ByteArray) (t : List UInt8) (h : T = ⟨t.toArray⟩) (ht : t = []) : T.toList.isEmpty = true := by
  subst h; subst ht; rw [ba_toList]; rfl
theorem mk_data (t : List UInt8) : ((⟨t.toArray⟩ : ByteArray)).data.toList = t := rfl
theorem few_kept (rs : List (List ByteArray)) (h : fewQ rs) (hu : ¬ huge rs) : fewP rs := ⟨h.1, h.2.1, by rcases h.2.2 with h1 | h1; exact h1; exact absurd h1 hu⟩
theorem recs_length (rs : List (List ByteArray)) : (recsOf rs).length = rs.length := by simp [recsOf]
end Go.Proofs.Ytacclgfpmkhodaa
