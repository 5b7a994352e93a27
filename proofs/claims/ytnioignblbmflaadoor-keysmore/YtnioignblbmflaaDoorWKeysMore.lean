/-
  The walk of the statement KeysMore.
  Conditions: the library's table of powers of ten reads as its text lays it.
-/
import Derived.Deep.OwnRows
import Derived.Deep.RegionHeld3
import Derived.WalkKit
import Derived.WalkMore
import Derived.IntWalk
import Derived.OwnWalk
import Derived.Lib.Hide
import Derived.Test.YtnioignblbmflaaDoorProg
import Derived.Test.YtnioignblbmflaaDoorKOpen
import Derived.Test.YtnioignblbmflaaDoorKWorks
namespace Go.Proofs.YtnioignblbmflaaDoor
open Go.RowKit Go.Shelf Go.Deep
set_option linter.unusedVariables false

theorem own_litI (base : Nat) (V : World) (p : Int) (T : TypeId) (hb : base ≤ V.heap.size) : (V.alloc (.cells #[.int .i64 p] T)).ownsRow base T 1 (.slice (some ⟨V.heap.size, 0, none⟩) 1 1) 1 [.int .i64 p] :=
  ⟨rfl, .inr ⟨V.heap.size, 1, _, rfl, hb, World.alloc_heap_new V _, Nat.le_refl _, by unfold maxLen; omega, rfl, rfl⟩⟩
theorem own_emptyI (base : Nat) (V : World) (T : TypeId) (hb : base ≤ V.heap.size) : (V.alloc (.cells #[] T)).ownsRow base T 1 (.slice (some ⟨V.heap.size, 0, none⟩) 0 0) 0 [] :=
  ⟨rfl, .inr ⟨V.heap.size, 0, #[], rfl, hb, World.alloc_heap_new _ _, Nat.le_refl _, by unfold maxLen; omega, rfl, rfl⟩⟩
theorem own_intsI {w : World} {base : Nat} {e : TypeId} {ro : Option Addr} {n cp : Nat} {xs : List Int} {L : List Value} (h : w.ownsRow base e 1 (.slice ro n cp) n L) (hL : L = xs.map (Value.int .i64)) : IntsAt w ro xs := by
  subst hL
  rcases h.2 with ⟨hv, h0⟩ | ⟨g, cap, cur, hv, _, hg, _⟩
  · have := h.1; simp at this; exact .inl (List.eq_nil_of_length_eq_zero (by omega))
  · cases hv
    refine .inr ⟨_, rfl, (h.lt g rfl).2, fun i c hc => h.cells rfl i _ (by rw [List.getElem?_map, hc]; rfl)⟩
def SrcI (w : World) (ao : Option Addr) (cap : Nat) (xs : List Int) : Prop := (ao = none → xs.length = 0 ∧ cap = 0) ∧ ∀ ad, ao = some ad → ∀ (j : Nat) u, (xs.map (Value.int .i64))[j]? = some u → w.cell? (ad.add j) = some u
theorem srcI_of {w : World} {ao : Option Addr} {cap : Nat} {xs : List Int} (h : IntsAt w ao xs) (hn : ao = none → cap = 0) : SrcI w ao cap xs := by
  refine ⟨fun e => ⟨?_, hn e⟩, fun ad e j u hu => ?_⟩
  · rcases h with h | ⟨A, h1, _⟩
    · rw [h]; rfl
    · rw [e] at h1; cases h1
  · rw [List.getElem?_map] at hu
    obtain ⟨c, hc, rfl⟩ := Option.map_eq_some_iff.1 hu
    rcases h with h | ⟨A, h1, _, h3⟩
    · subst h; simp at hc
    · rw [e] at h1; cases h1; exact h3 j c hc
theorem onesI (xs : List Int) : ∀ u ∈ xs.map (Value.int .i64), u.oneCell' = true := fun u hu => by
  obtain ⟨c, _, rfl⟩ := List.mem_map.1 hu; rfl
theorem lit_kept {V V' : World} {g b n c : Nat} {p : Int} {T : TypeId} (hb : V.heap[b]? = some (.cells #[.int .i64 p] T (0, 0))) (hg : V.grownBy V' (Value.slice (some ⟨g, 0, none⟩) n c).ownBlock) (hne : b ≠ g) : IntsAt V' (some ⟨b, 0, none⟩) [p] := by
  have h1 := (hg.block b (lt_of_heap hb) (fun e => hne (by simpa [Value.ownBlock] using e))).trans hb
  refine .inr ⟨_, rfl, lt_of_heap h1, fun i q hq => ?_⟩
  match i, hq with
  | 0, hq => cases hq; exact (Lib.cell_of_heap h1 0).trans rfl
/-- an append in a region that draws: of a slice that the code owns -/
theorem step_append_gd {P : Program} {w : World} {ops : Array Oper} {o : Oper} {a : Act} {K : Act → World → Prop} {Q : Exit → Act → World → Prop} {E : Prop} (hw : Region.wanted o (yielded ops a.tmps) = true) (s x : Operand) (t : TypeId)
    (ho : o.op = .call { callee := .builtin .append, args := #[s, x], argTypes := #[t, t] })
    (base : Nat) (e : TypeId) (i : TypeInfo) (z : Value) (size bytes : Nat) (ht : P.underlying t = some (.slice e)) (hi : P.info? e = some i) (hz : i.zero = some z)
    (hsize : i.size = size) (hby : i.bytes = bytes) (hzs : z.cells.size = size) (hsz : 0 < size)
    (v : Value) (n : Nat) (xs : List Value) (hs : a.eval s = v) (hown : w.ownsRow base e size v n xs)
    (xo : Option Addr) (m c : Nat) (news : List Value) (hx : a.eval x = .slice xo m c) (hnone : xo = none → m = 0 ∧ c = 0) (hl : news.length = m * size) (hnews : ∀ ad, xo = some ad → ∀ (j : Nat) u, news[j]? = some u → w.cell? (ad.add j) = some u) (h1 : ∀ u ∈ news, u.oneCell' = true)
    (h63 : n + m ≤ maxLen) (hbytes : (n + m) * bytes ≤ 140737488355328) (hbase : base ≤ w.heap.size) (N : Nat) (hN : n + m = N) (L : List Value) (hL : xs ++ news = L)
    (h : ∀ ao cap w', w'.ownsRow base e size (.slice ao N cap) N L → w.grownBy w' v.ownBlock → Below base w w' → K (a.put o.dst (.slice ao N cap)) w') :
    if Region.wanted o (yielded ops a.tmps) = true then Oper.wp P o a w K Q else E := by
  subst hN hL
  rw [if_pos hw]
  have fin : ∀ v' w', w'.ownsRow base e size v' (n + m) (xs ++ news) → w.grownBy w' v.ownBlock → K (a.put o.dst v') w' := fun v' w' h2 h3 => by
    obtain ⟨ao, cap, rfl⟩ := own_slice h2
    exact h ao cap w' h2 h3 ((Below.refl base w).grown h3 hbase (fun j hj => (hown.lt j hj).1))
  cases xo with
  | none =>
    obtain ⟨rfl, rfl⟩ := hnone rfl
    have hnil : news = [] := List.eq_nil_of_length_eq_zero (by rw [hl]; simp)
    subst hnil
    have hrun := run_append_owned_none (P := P) (w := w) base t o.type e i size ht hi v n xs hown
    unfold Oper.wp
    simp [execOp, ho, resolve, invoke, builtin, hs, hx, hrun, Result.andThen]
    exact fin v w (by simpa using hown) ⟨rfl, rfl, rfl, Nat.le_refl _, fun _ _ _ => rfl⟩
  | some ad => exact wp_append_own w s x t ho base e i z size bytes ht hi hz hsize hby hzs hsz v n xs hs hown ad m c news hx hl (hnews ad rfl) h1 h63 hbytes hbase (fun v' w' h2 h3 _ => fin v' w' h2 h3)

set_option maxRecDepth 100000 in
set_option maxHeartbeats 8000000 in
theorem walkKeysMore (ho : Option Addr) (hc : Nat) (hd : List ByteArray) (ro : Option Addr) (rc : Nat) (rs : List (List ByteArray)) (co : Option Addr) (cc : Nat) (cols : List Int) (more : Int) (w : World)
    (hA : StrArg w ho hc hd) (hB : RowsArg w ro rc rs) (hI : IntsArg w co cc cols) (hm : (Lit.int .i64 more).wf = true) (hpow : Pow w) :
    Calls Tryd.prog 5 #[.agg #[.slice ho hd.length hc, .slice ro rs.length rc], .slice co cols.length cc, .int .i64 more] w fun e w' => e = .returned (.bool true) ∧ Below w.heap.size w w' := by
  have hinfo : (Tryd.prog.info? 3).map (fun i => (i.zero, i.size, i.bytes)) = some (some (.int .i64 0), 1, 8) := by kernel_rfl
  obtain ⟨i0, hi, hz0, hz1, hz2⟩ := info_parts2 hinfo
  have HIn := Lib.hid hi
  obtain ⟨W, HW⟩ : ∃ W, Hid (W = w.alloc (TabO ho hd.length hc ro rs.length rc)) := ⟨_, Lib.hid rfl⟩
  have hb0 : Below w.heap.size w W := by rw [HW.out]; exact one_below _ _
  have hN : W.heap[w.heap.size]? = some (TabO ho hd.length hc ro rs.length rc) := by rw [HW.out]; exact World.alloc_heap_new w _
  have HA := Lib.hid hA
  have HB := Lib.hid hB
  have HI := Lib.hid hI
  have HM := Lib.hid hm
  have B0 := Lib.hid hb0
  have HP := Lib.hid hpow
  have hwW : w.heap.size ≤ W.heap.size := hb0.size
  have box : Hid (∀ V, Below W.heap.size W V → V.cell? ⟨w.heap.size, 0, none⟩ = some (.slice ho hd.length hc) ∧ V.cell? ⟨w.heap.size, 1, none⟩ = some (.slice ro rs.length rc)) := Lib.hid (fun V hV => tabs ((hV.block _ (lt_of_heap hN)).trans hN))
  have HW2 : Hid (W = w.alloc (Obj.cells #[Value.slice ho hd.length hc, Value.slice ro rs.length rc] 25)) := Lib.hid HW.out
  clear hA hB hI hb0 hN hm hpow hi hinfo
  go_enter Tryd.func5, Tryd.ntmps5
  go_wp2_with fail
  rw [← HW2.out]
  refine (works_any _ (HP.out.kept B0.out)).mono ?_; rintro e w1 ⟨rfl, b1⟩
  obtain ⟨p0, p1⟩ := box.out w1 b1
  have X1 := below_up B0.out b1
  have B1 := Lib.hid b1
  have hT := tabs_lit (W := w1) (ho := ho) (ro := ro) (hc := hc) (rc := rc) (t := (hd, rs)) (HA.out.row.kept X1) (HB.out.rows.kept X1)
  have C1 := Lib.hid (few11_any (some ⟨w1.heap.size, 0, none⟩) 1 [(hd, rs)] none 0 0 _ (by unfold maxLen; simp) (Nat.zero_le _) (fun t ht => by simp at ht; subst ht; exact ⟨⟨HA.out.len, HA.out.size⟩, HB.out.len, HB.out.each⟩) hT)
  have BA := Lib.hid (below_up B1.out (one_below w1 (.cells #[.slice ho hd.length hc, .slice ro rs.length rc] 25)))
  clear b1 X1 hT B1
  go_wp2_with fail
  refine C1.out.mono ?_; rintro e w2 ⟨b, rfl, hb, b2⟩
  have B2 := Lib.hid (below_up BA.out b2)
  obtain ⟨p0, p1⟩ := box.out w2 B2.out
  clear b2 C1 BA
  cases b with
  | false =>
    clear hb
    go_wp2_with fail
    go_ret
    exact ⟨rfl, below_up B0.out B2.out⟩
  | true =>
    obtain ⟨-, -, hf⟩ := hb rfl
    obtain ⟨f1, f2, f3, f4⟩ := few_bounds hf
    obtain ⟨g1, g2, g3, g4⟩ := f4 _ List.mem_cons_self
    dsimp only at g1 g2 g3 g4
    have hSm : SmallK rs := (f1 _ List.mem_cons_self).2.2
    by_cases h20 : cols.length ≤ 20
    · by_cases h0 : 0 ≤ more
      · by_cases hlt : more < (hd.length : Int)
        · have C2 := Lib.hid (fun V (h : Below W.heap.size W V) => unique_any ho hd.length hc ro rc rs co cc cols V (by omega) (by omega) hSm (by omega) HI.out.wf (HB.out.rows.kept (below_up B0.out h)) (HI.out.ints.kept (below_up B0.out h)) (HP.out.kept (below_up B0.out h)))
          have D2 := Lib.hid (C2.out w2 B2.out)
          have C3 := Lib.hid (fun (jo : Option Addr) (jc : Nat) (own : List Int) V (hl : own.length = cols.length + 1) (hmm : ∀ c ∈ own, (Lit.int .i64 c).wf = true) (k : IntsAt V jo own) (h : Below W.heap.size W V) => unique_any ho hd.length hc ro rc rs jo jc own V (by omega) (by omega) hSm (by omega) hmm (HB.out.rows.kept (below_up B0.out h)) k (HP.out.kept (below_up B0.out h)))
          have HG : Hid (uniqL hd.length rs cols = true → ∀ own, (∀ c ∈ cols, c ∈ own) → (∀ c ∈ own, c = more ∨ c ∈ cols) → uniqL hd.length rs own = true) := Lib.hid (fun h own h1 h2 => uniq_more hd.length rs cols own h1 (fun c hc => by
            rcases h2 c hc with rfl | h3
            · exact ⟨h0, hlt⟩
            · exact ((uniq_iff _ _ _).1 h).2.1 c h3) h)
          clear hf f1 f2 f3 f4 g3 g4 hSm hb
          cases hu : uniqL hd.length rs cols with
          | false =>
            rw [hu] at D2
            go_wp2_with fail
            refine D2.out.mono ?_; rintro e w3 ⟨rfl, b3⟩
            have B3 := Lib.hid (below_up B2.out b3)
            clear b3
            go_wp2_with fail
            go_ret
            exact ⟨rfl, below_up B0.out B3.out⟩
          | true =>
            rw [hu] at D2
            have HU := Lib.hid (HG.out hu)
            clear hu HG
            go_wp2_with fail
            refine D2.out.mono ?_; rintro e w3 ⟨rfl, b3⟩
            have B3 := Lib.hid (below_up B2.out b3)
            clear b3 p0 p1 D2 C2 B2
            obtain ⟨p0, p1⟩ := box.out w3 B3.out
            have HS1 := Lib.hid (fun V (h : Below W.heap.size W V) => srcI_of (HI.out.ints.kept (below_up B0.out h)) HI.out.nil)
            have hwf1 : ∀ c ∈ more :: cols, (Lit.int .i64 c).wf = true := fun c hc => by
              rcases List.mem_cons.1 hc with rfl | h
              · exact HM.out
              · exact HI.out.wf c h
            have hwf2 : ∀ c ∈ cols ++ [more], (Lit.int .i64 c).wf = true := fun c hc => by
              rcases List.mem_append.1 hc with h | h
              · exact HI.out.wf c h
              · simp at h; subst h; exact HM.out
            have D3 := Lib.hid (fun (jo : Option Addr) (jc : Nat) V (k : IntsAt V jo (more :: cols)) (h : Below W.heap.size W V) => C3.out jo jc (more :: cols) V rfl hwf1 k h)
            have D4 := Lib.hid (fun (jo : Option Addr) (jc : Nat) V (k : IntsAt V jo (cols ++ [more])) (h : Below W.heap.size W V) => C3.out jo jc (cols ++ [more]) V (by simp) hwf2 k h)
            rw [HU.out (more :: cols) (fun c hc => List.mem_cons_of_mem _ hc) (fun c hc => List.mem_cons.1 hc)] at D3
            rw [HU.out (cols ++ [more]) (fun c hc => List.mem_append_left _ hc) (fun c hc => by
              rcases List.mem_append.1 hc with h | h
              · exact .inr h
              · simp at h; exact .inl h)] at D4
            simp only [List.length_cons, List.length_append, List.length_nil, Nat.zero_add] at D3 D4
            clear C3 HU hwf1 hwf2
            have hs3 : W.heap.size ≤ w3.heap.size := B3.out.size
            have HV1 : Hid (Below W.heap.size W (w3.alloc (.cells #[.int .i64 more] 3)).drew) := Lib.hid ((B3.out.alloc hs3 _).drew)
            have HSa := Lib.hid (HS1.out _ HV1.out)
            have q1 : 1 + cols.length ≤ maxLen := by unfold maxLen; omega
            have q2 : (1 + cols.length) * 8 ≤ 140737488355328 := by omega
            go_upto_region 6 with fail
            go_region_held3 (fun V => V.cell? ⟨w.heap.size, 0, none⟩ = some (.slice ho hd.length hc) ∧ V.cell? ⟨w.heap.size, 1, none⟩ = some (.slice ro rs.length rc)) ((refine ⟨?_, ?_⟩ <;> first | assumption | go_keep))
              (first
                | (refine step_append_gd (by rfl) _ _ 26 (by rfl) W.heap.size 3 i0 (.int .i64 0) 1 8 Tryd.underlying26 HIn.out hz0 hz1 hz2 rfl (by decide) _ 1 [.int .i64 more] (by rfl) (own_litI W.heap.size _ more _ hs3) co cols.length cc (cols.map (Value.int .i64)) (by rfl) HSa.out.1 (by simp) HSa.out.2 (onesI cols) q1 q2 HV1.out.size (cols.length + 1) (Nat.add_comm _ _) (.int .i64 more :: cols.map (Value.int .i64)) rfl ?_; intro jo jc w4 hown _ hbel; have B4 := Lib.hid (HV1.out.trans hbel); have HJ := Lib.hid (own_intsI (xs := more :: cols) hown rfl); obtain ⟨p0, p1⟩ := box.out w4 B4.out; clear hown hbel)
                | (go_at_call 14; refine (D3.out jo jc w4 HJ.out B4.out).mono ?_; rintro e w5 ⟨rfl, b5⟩; have B5 := Lib.hid (below_up B4.out b5); obtain ⟨p0, p1⟩ := box.out w5 B5.out; clear b5))
            clear HS1 HSa HJ B4 D3 HV1 hs3 p0 p1
            have HS1 := Lib.hid (fun V (h : Below W.heap.size W V) => srcI_of (HI.out.ints.kept (below_up B0.out h)) HI.out.nil)
            rename_i hh
            obtain ⟨p0, p1⟩ := hh
            have hs5 : W.heap.size ≤ w5.heap.size := B5.out.size
            have q0 : 0 + cols.length ≤ maxLen := by unfold maxLen; omega
            have q3 : (0 + cols.length) * 8 ≤ 140737488355328 := by omega
            have q4 : cols.length + 1 ≤ maxLen := by unfold maxLen; omega
            have q5 : (cols.length + 1) * 8 ≤ 140737488355328 := by omega
            have HVe : Hid (Below W.heap.size W (w5.alloc (.cells #[] 3)).drew) := Lib.hid ((B5.out.alloc hs5 _).drew)
            have HSe := Lib.hid (HS1.out _ HVe.out)
            have HVA : Hid (Below W.heap.size W ((w5.alloc (.cells #[] 3)).alloc (.cells #[.int .i64 more] 3)).drew) := Lib.hid (((B5.out.alloc hs5 _).alloc (B5.out.alloc hs5 _).size _).drew)
            have HSA := Lib.hid (HS1.out _ HVA.out)
            have HOA := Lib.hid ((own_emptyI W.heap.size w5 3 hs5).alloc (.cells #[.int .i64 more] 3))
            have HLA : Hid (((w5.alloc (.cells #[] 3)).alloc (.cells #[.int .i64 more] 3)).drew.heap[w5.heap.size + 1]? = some (.cells #[.int .i64 more] 3 (0, 0))) := Lib.hid (by
              have := World.alloc_heap_new (w5.alloc (.cells #[] 3)) (.cells #[.int .i64 more] 3)
              rw [World.size_alloc] at this; exact this)
            have HVC : Hid (Below W.heap.size W ((w5.alloc (.cells #[.int .i64 more] 3)).alloc (.cells #[] 3)).drew) := Lib.hid (((B5.out.alloc hs5 _).alloc (B5.out.alloc hs5 _).size _).drew)
            have HSC := Lib.hid (HS1.out _ HVC.out)
            have HOC : Hid (((w5.alloc (.cells #[.int .i64 more] 3)).alloc (.cells #[] 3)).ownsRow W.heap.size 3 1 (.slice (some ⟨w5.heap.size + 1, 0, none⟩) 0 0) 0 []) := Lib.hid (by
              have := own_emptyI W.heap.size (w5.alloc (.cells #[.int .i64 more] 3)) 3 (by rw [World.size_alloc]; omega)
              rw [World.size_alloc] at this; exact this)
            have HLC : Hid (((w5.alloc (.cells #[.int .i64 more] 3)).alloc (.cells #[] 3)).drew.heap[w5.heap.size]? = some (.cells #[.int .i64 more] 3 (0, 0))) := Lib.hid (by
              have h1 := World.alloc_heap_new w5 (.cells #[.int .i64 more] 3)
              exact ((one_below (w5.alloc (.cells #[.int .i64 more] 3)) (.cells #[] 3)).block _ (lt_of_heap h1)).trans h1)
            go_upto_region 7 with fail
            go_region_held3 (fun V => V.cell? ⟨w.heap.size, 0, none⟩ = some (.slice ho hd.length hc) ∧ V.cell? ⟨w.heap.size, 1, none⟩ = some (.slice ro rs.length rc)) ((refine ⟨?_, ?_⟩ <;> first | assumption | go_keep))
              (first
                | (refine step_append_gd (by rfl) _ _ 26 (by rfl) W.heap.size 3 i0 (.int .i64 0) 1 8 Tryd.underlying26 HIn.out hz0 hz1 hz2 rfl (by decide) (.slice ko cols.length kc) cols.length (cols.map (Value.int .i64)) (by rfl) (HO6.out.alloc (.cells #[.int .i64 more] 3)) (some ⟨w6.heap.size, 0, none⟩) 1 1 [.int .i64 more] (by rfl) HN6.out.1 (by simp) HN6.out.2 (onesI [more]) q4 q5 HV6.out.size (cols.length + 1) rfl (cols.map (Value.int .i64) ++ [.int .i64 more]) rfl ?_; intro jo2 jc2 w7 hown _ hbel; have B7 := Lib.hid (HV6.out.trans hbel); have HJ := Lib.hid (own_intsI (xs := cols ++ [more]) hown (by simp)); obtain ⟨p0, p1⟩ := box.out w7 B7.out; clear hown hbel)
                | (refine step_append_gd (by rfl) _ _ 26 (by rfl) W.heap.size 3 i0 (.int .i64 0) 1 8 Tryd.underlying26 HIn.out hz0 hz1 hz2 rfl (by decide) (.slice ko cols.length kc) cols.length (cols.map (Value.int .i64)) (by rfl) (HO6.out.alloc (.cells #[.int .i64 more] 3)) (some ⟨w6.heap.size, 0, none⟩) 1 1 [.int .i64 more] (by rfl) HN6.out.1 (by simp) HN6.out.2 (onesI [more]) q4 q5 HV7.out.size (cols.length + 1) rfl (cols.map (Value.int .i64) ++ [.int .i64 more]) rfl ?_; intro jo2 jc2 w7 hown _ hbel; have B7 := Lib.hid (HV7.out.trans hbel); have HJ := Lib.hid (own_intsI (xs := cols ++ [more]) hown (by simp)); obtain ⟨p0, p1⟩ := box.out w7 B7.out; clear hown hbel)
                | (refine step_append_gd (by rfl) _ _ 26 (by rfl) W.heap.size 3 i0 (.int .i64 0) 1 8 Tryd.underlying26 HIn.out hz0 hz1 hz2 rfl (by decide) (.slice (some ⟨w5.heap.size, 0, none⟩) 0 0) 0 [] (by rfl) (own_emptyI W.heap.size w5 _ hs5) co cols.length cc (cols.map (Value.int .i64)) (by rfl) HSe.out.1 (by simp) HSe.out.2 (onesI cols) q0 q3 HVe.out.size cols.length (Nat.zero_add _) (cols.map (Value.int .i64)) rfl ?_; intro ko kc w6 hown _ hbel; have B6 := Lib.hid (HVe.out.trans hbel); have HO6 := Lib.hid hown; have HN6 := Lib.hid (srcI_of (cap := 1) (new_int1 w6 more 3) (fun e => by cases e)); have HV6 : Hid (Below W.heap.size W (w6.alloc (.cells #[.int .i64 more] 3)).drew) := Lib.hid ((B6.out.alloc B6.out.size _).drew); have HV7 : Hid (Below W.heap.size W (w6.alloc (.cells #[.int .i64 more] 3))) := Lib.hid (B6.out.alloc B6.out.size _); obtain ⟨p0, p1⟩ := box.out w6 B6.out; clear hown hbel)
                | (refine step_append_gd (by rfl) _ _ 26 (by rfl) W.heap.size 3 i0 (.int .i64 0) 1 8 Tryd.underlying26 HIn.out hz0 hz1 hz2 rfl (by decide) (.slice ko cols.length kc) cols.length (cols.map (Value.int .i64)) (by rfl) HOA6.out (some ⟨w5.heap.size + 1, 0, none⟩) 1 1 [.int .i64 more] (by rfl) HNA6.out.1 (by simp) HNA6.out.2 (onesI [more]) q4 q5 HPA.out.size (cols.length + 1) rfl (cols.map (Value.int .i64) ++ [.int .i64 more]) rfl ?_; intro jo2 jc2 w7 hown _ hbel; have B7 := Lib.hid (HPA.out.trans hbel); have HJ := Lib.hid (own_intsI (xs := cols ++ [more]) hown (by simp)); obtain ⟨p0, p1⟩ := box.out w7 B7.out; clear hown hbel)
                | (refine step_append_gd (by rfl) _ _ 26 (by rfl) W.heap.size 3 i0 (.int .i64 0) 1 8 Tryd.underlying26 HIn.out hz0 hz1 hz2 rfl (by decide) (.slice ko cols.length kc) cols.length (cols.map (Value.int .i64)) (by rfl) HOA6.out (some ⟨w5.heap.size + 1, 0, none⟩) 1 1 [.int .i64 more] (by rfl) HNA6.out.1 (by simp) HNA6.out.2 (onesI [more]) q4 q5 HQA.out.size (cols.length + 1) rfl (cols.map (Value.int .i64) ++ [.int .i64 more]) rfl ?_; intro jo2 jc2 w7 hown _ hbel; have B7 := Lib.hid (HQA.out.trans hbel); have HJ := Lib.hid (own_intsI (xs := cols ++ [more]) hown (by simp)); obtain ⟨p0, p1⟩ := box.out w7 B7.out; clear hown hbel)
                | (refine step_append_gd (by rfl) _ _ 26 (by rfl) W.heap.size 3 i0 (.int .i64 0) 1 8 Tryd.underlying26 HIn.out hz0 hz1 hz2 rfl (by decide) (.slice ko cols.length kc) cols.length (cols.map (Value.int .i64)) (by rfl) HOC6.out (some ⟨w5.heap.size, 0, none⟩) 1 1 [.int .i64 more] (by rfl) HNC6.out.1 (by simp) HNC6.out.2 (onesI [more]) q4 q5 HPC.out.size (cols.length + 1) rfl (cols.map (Value.int .i64) ++ [.int .i64 more]) rfl ?_; intro jo2 jc2 w7 hown _ hbel; have B7 := Lib.hid (HPC.out.trans hbel); have HJ := Lib.hid (own_intsI (xs := cols ++ [more]) hown (by simp)); obtain ⟨p0, p1⟩ := box.out w7 B7.out; clear hown hbel)
                | (refine step_append_gd (by rfl) _ _ 26 (by rfl) W.heap.size 3 i0 (.int .i64 0) 1 8 Tryd.underlying26 HIn.out hz0 hz1 hz2 rfl (by decide) (.slice ko cols.length kc) cols.length (cols.map (Value.int .i64)) (by rfl) HOC6.out (some ⟨w5.heap.size, 0, none⟩) 1 1 [.int .i64 more] (by rfl) HNC6.out.1 (by simp) HNC6.out.2 (onesI [more]) q4 q5 HQC.out.size (cols.length + 1) rfl (cols.map (Value.int .i64) ++ [.int .i64 more]) rfl ?_; intro jo2 jc2 w7 hown _ hbel; have B7 := Lib.hid (HQC.out.trans hbel); have HJ := Lib.hid (own_intsI (xs := cols ++ [more]) hown (by simp)); obtain ⟨p0, p1⟩ := box.out w7 B7.out; clear hown hbel)
                | (refine step_append_gd (by rfl) _ _ 26 (by rfl) W.heap.size 3 i0 (.int .i64 0) 1 8 Tryd.underlying26 HIn.out hz0 hz1 hz2 rfl (by decide) (.slice (some ⟨w5.heap.size, 0, none⟩) 0 0) 0 [] (by rfl) HOA.out co cols.length cc (cols.map (Value.int .i64)) (by rfl) HSA.out.1 (by simp) HSA.out.2 (onesI cols) q0 q3 HVA.out.size cols.length (Nat.zero_add _) (cols.map (Value.int .i64)) rfl ?_; intro ko kc w6 hown hg hbel; have B6 := Lib.hid (HVA.out.trans hbel); have HOA6 := Lib.hid hown; have HNA6 := Lib.hid (srcI_of (cap := 1) (lit_kept (HLA.out) hg (by omega)) (fun e => by cases e)); have HPA := Lib.hid B6.out; have HQA := Lib.hid B6.out.drew; obtain ⟨p0, p1⟩ := box.out w6 B6.out; clear hown hbel hg)
                | (refine step_append_gd (by rfl) _ _ 26 (by rfl) W.heap.size 3 i0 (.int .i64 0) 1 8 Tryd.underlying26 HIn.out hz0 hz1 hz2 rfl (by decide) (.slice (some ⟨w5.heap.size + 1, 0, none⟩) 0 0) 0 [] (by rfl) HOC.out co cols.length cc (cols.map (Value.int .i64)) (by rfl) HSC.out.1 (by simp) HSC.out.2 (onesI cols) q0 q3 HVC.out.size cols.length (Nat.zero_add _) (cols.map (Value.int .i64)) rfl ?_; intro ko kc w6 hown hg hbel; have B6 := Lib.hid (HVC.out.trans hbel); have HOC6 := Lib.hid hown; have HNC6 := Lib.hid (srcI_of (cap := 1) (lit_kept (HLC.out) hg (by omega)) (fun e => by cases e)); have HPC := Lib.hid B6.out; have HQC := Lib.hid B6.out.drew; obtain ⟨p0, p1⟩ := box.out w6 B6.out; clear hown hbel hg)
                | (go_at_call 14; refine (D4.out jo2 jc2 w7 HJ.out B7.out).mono ?_; rintro e w8 ⟨rfl, b8⟩; have B8 := Lib.hid (below_up B7.out b8); obtain ⟨p0, p1⟩ := box.out w8 B8.out; clear b8)
                | (trace_state; fail))
            all_goals (go_wp2_with fail; go_ret; exact ⟨rfl, below_up B0.out B8.out⟩)
        · go_wp2_with fail
          go_ret
          exact ⟨rfl, below_up B0.out B2.out⟩
      · go_wp2_with fail
        go_ret
        exact ⟨rfl, below_up B0.out B2.out⟩
    · go_wp2_with fail
      go_ret
      exact ⟨rfl, below_up B0.out B2.out⟩
end Go.Proofs.YtnioignblbmflaaDoor
