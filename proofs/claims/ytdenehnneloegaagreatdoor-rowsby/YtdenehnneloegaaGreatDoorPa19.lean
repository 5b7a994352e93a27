/-
  Texts of these rows' proofs, laid one behind the other: KApart, KUsable, KRange, KChoice, KMath3, KChoice2, KInfer, KApp, KRef1.
  Conditions: those of each theorem.
-/
import Derived.WalkKit
import Derived.WalkMore
import Derived.IntWalk
import Derived.WalkArith
import Derived.OwnWalk
import Derived.Lib.Hide
import Derived.Test.YtdenehnneloegaaGreatDoorProg
import Derived.Test.YtdenehnneloegaaGreatDoorPa18
import Derived.RangeFuncWrites
import Derived.Test.YtdenehnneloegaaGreatDoorPa1
import Derived.Deep.OwnRows
import Derived.OwnWalkIn
import Derived.TacticsInMore
import Derived.LoopNIn
import Derived.LoopIn
import Derived.RegionTactic
import Derived.Deep.RegionHeld3
import Derived.Lib.SmallJoins
import Derived.Deep.SlicePairs
import Derived.ProofKit
import Derived.OpenShut
import Derived.SizedLaws
import Derived.ChangeSlices
import Derived.ChangeArms
import Derived.Test.YtdenehnneloegaaGreatDoorPa4
import Derived.Test.YtdenehnneloegaaGreatDoorPa7
import Derived.Deep.QuietTactic
import Derived.Deep.RegionWith
import Derived.BigQuiet
import Derived.Test.YtdenehnneloegaaGreatDoorPa17
namespace Go.Proofs.YtdenehnneloegaaGreatDoor
set_option linter.unusedVariables false
set_option maxRecDepth 100000
set_option maxHeartbeats 8000000
section
open Go.RowKit Go.Shelf Go.Maps
def colsOf (ch:List Cand) (i:Nat):List Int:=ch.map fun c=>c.2.getD i 0
def apartC (ts:List TabK) (ch:List Cand):Bool:=(List.range ts.length).all fun i=>match ts[i]? with | some t=>uniqL t.1.length t.2 (colsOf ch i) | none=>true
theorem apartC_no {ts:List TabK} {ch:List Cand} {i:Nat} {t:TabK} (ht:ts[i]?=some t) (h:uniqL t.1.length t.2 (colsOf ch i)=false):apartC ts ch=false:=by
 unfold apartC
 rw [List.all_eq_false]
 exact ⟨i,List.mem_range.2 (List.getElem?_eq_some_iff.1 ht).1,by rw [ht];simpa using h⟩
theorem apartC_yes {ts:List TabK} {ch:List Cand} (h:∀ i t,ts[i]?=some t→uniqL t.1.length t.2 (colsOf ch i)=true):apartC ts ch=true:=by
 unfold apartC
 rw [List.all_eq_true]
 intro i hi
 rw [List.mem_range] at hi
 rw [List.getElem?_eq_getElem hi]
 exact h i _ (List.getElem?_eq_getElem hi)
def TabsOk (ts:List TabK):Prop:=∀ t ∈ ts,t.1.length≤1099511627776∧t.2.length≤1099511627776∧SmallK t.2
def CandsOk (ts:List TabK) (ch:List Cand):Prop:=∀ c ∈ ch,c.2.length=ts.length∧∀ x ∈ c.2,(Lit.int .i64 x).wf=true
theorem apart_any (lo:Option Addr) (lc:Nat) (ts:List TabK) (co:Option Addr) (cc:Nat) (ch:List Cand) (w:World) (hts:ts.length≤1073741824) (hcl:ch.length≤1048576) (hT:TabsOk ts) (hC:CandsOk ts ch) (hL:TabsAt w lo ts) (hR:CandsAt w co ch) (hpow:Pow w) :
 Calls Tryz.prog 62 #[.slice lo ts.length lc,.slice co ch.length cc] w fun e w'=>e=.returned (.bool (apartC ts ch))∧Below w.heap.size w w':=by
 have HTo:=Lib.hid hT
 have HCo:=Lib.hid hC
 have HLo:=Lib.hid hL
 have HRo:=Lib.hid hR
 have HP:=Lib.hid hpow
 have HNo:=Lib.hid (fun i t h k=>@apartC_no ts ch i t h k)
 have HYs:=Lib.hid (fun h=>@apartC_yes ts ch h)
 have hmk:=make_ints ch.length (by omega) w
 obtain ⟨F,hF⟩:∃ F,F=apartC ts ch:=⟨_,rfl⟩
 rw [← hF] at HNo HYs ⊢
 obtain ⟨U,HU⟩:∃ U,Hid (U=w.alloc (.cells (cellsI (List.replicate ch.length 0)) 3)):=⟨_,Lib.hid rfl⟩
 have HB0:Hid (Below w.heap.size w U):=Lib.hid (by rw [HU.out];exact one_below w _)
 have HX0:Hid (∃ X:List Int,X.length=ch.length∧U.heap[w.heap.size]?=some (.cells (cellsI X) 3 (0,0))):=Lib.hid ⟨List.replicate ch.length 0,by simp,by rw [HU.out];exact World.alloc_heap_new _ _⟩
 clear hT hC hL hR hpow hF
 go_enter Tryz.func62,Tryz.ntmps62
 go_wp2_with fail
 rw [← HU.out]
 go_loopw [15] (fun j wr=>∃ k:Nat,k≤ts.length∧j=.int .i64 k∧Hid (Below w.heap.size w wr)∧Hid (∃ X:List Int,X.length=ch.length∧wr.heap[w.heap.size]?=some (.cells (cellsI X) 3 (0,0)))∧Hid (∀ i t,i < k→ts[i]?=some t→uniqL t.1.length t.2 (colsOf ch i)=true)) (fun j _=>ts.length - (intOf j).toNat)
 case atStart=>exact ⟨0,Nat.zero_le _,rfl,HB0,HX0,Lib.hid (fun i t h=>by omega)⟩
 case round =>
  obtain ⟨k,hk,rfl,HB,HX,HA⟩:=hrel
  clear HB0 HX0 hmk
  by_cases hlt:k < ts.length
  · obtain ⟨t,ht⟩:∃ t,ts[k]?=some t:=⟨_,List.getElem?_eq_getElem hlt⟩
    have HTk:=Lib.hid ht
    rcases HLo.out with h0 | ⟨tb,tof,rfl,hA,hcell⟩
    · rw [h0] at hlt;simp at hlt
    obtain ⟨ho,hc,ro,rc,c1,c2,-,hrows⟩:=hcell k t ht
    replace c1:=(HB.out.cell (p:=⟨tb,_,none⟩) hA).trans c1
    replace c2:=(HB.out.cell (p:=⟨tb,_,none⟩) hA).trans c2
    obtain ⟨t1,t2,t3⟩:=HTo.out t (List.mem_of_getElem? ht)
    have HT1:=Lib.hid t1
    have HT2:=Lib.hid t2
    have HT3:=Lib.hid t3
    obtain ⟨V,HV⟩:∃ V,Hid (V=wr.alloc (.cells #[.slice ho t.1.length hc,.slice ro t.2.length rc] 25)):=⟨_,Lib.hid rfl⟩
    have hbV:Below wr.heap.size wr V:=by rw [HV.out];exact one_below wr _
    have hVh:V.heap[wr.heap.size]?=some (.cells #[.slice ho t.1.length hc,.slice ro t.2.length rc] 25 (0,0)):=by rw [HV.out];exact World.alloc_heap_new _ _
    have HVh:=Lib.hid hVh
    have HBV:=Lib.hid (below_up HB.out hbV)
    have HRW:=Lib.hid hrows
    have HlV:=Lib.hid (lt_of_heap hVh)
    have HXV:Hid (∃ X:List Int,X.length=ch.length∧X.take 0=(colsOf ch k).take 0∧V.heap[w.heap.size]?=some (.cells (cellsI X) 3 (0,0))):=Lib.hid (by
     obtain ⟨X,h1,h2⟩:=HX.out
     exact ⟨X,h1,by simp,(hbV.block _ (lt_of_heap h2)).trans h2⟩)
    have hws:w.heap.size≤wr.heap.size:=HB.out.size
    have HWlt:=Lib.hid (show w.heap.size < wr.heap.size from by obtain ⟨X,h1,h2⟩:=HX.out;exact lt_of_heap h2)
    clear hcell hrows t1 t2 t3 hbV hVh ht HB HX
    go_upto_region 5 with fail
    rw [← HV.out]
    go_wp2_with fail
    obtain ⟨wo,rfl⟩:∃ wo:World,wo=wr:=⟨_,rfl⟩
    go_loopw [22] (fun j wr=>∃ q:Nat,q≤ch.length∧j=.int .i64 q∧Hid (Below w.heap.size w wr)∧Hid (wr.heap[wo.heap.size]?=some (.cells #[.slice ho t.1.length hc,.slice ro t.2.length rc] 25 (0,0)))∧Hid (∃ X:List Int,X.length=ch.length∧X.take q=(colsOf ch k).take q∧wr.heap[w.heap.size]?=some (.cells (cellsI X) 3 (0,0)))) (fun j _=>ch.length - (intOf j).toNat)
    case atStart=>exact ⟨0,Nat.zero_le _,rfl,HBV,HVh,HXV⟩
    case round =>
     obtain ⟨q,hq,rfl,HB,HT,HX⟩:=hrel
     clear HBV HVh HXV
     by_cases hlq:q < ch.length
     · obtain ⟨⟨nm,xs⟩,hcq⟩:∃ c,ch[q]?=some c:=⟨_,List.getElem?_eq_getElem hlq⟩
       obtain ⟨hxl,-⟩:=HCo.out _ (List.mem_of_getElem? hcq)
       dsimp only at hxl
       obtain ⟨y,hy⟩:∃ y,xs[k]?=some y:=⟨_,List.getElem?_eq_getElem (by omega)⟩
       have HFq:Hid ((colsOf ch k)[q]?=some y):=Lib.hid (by unfold colsOf;rw [List.getElem?_map,hcq];simp [List.getD_eq_getElem?_getD,hy])
       have hkx:k < xs.length:=by omega
       rcases (HRo.out.kept HB.out) with h0 | ⟨cb,cof,rfl,hcA,hccell⟩
       · rw [h0] at hlq;simp at hlq
       obtain ⟨n0,ao,ac,n1,hints⟩:=hccell q _ hcq
       dsimp only at n0 n1 hints
       rcases hints with h0 | ⟨A,rfl,hAA,hacell⟩
       · rw [h0] at hkx;simp at hkx
       have ny:=hacell k y hy
       obtain ⟨W,HW⟩:∃ W,Hid (W=wr.alloc (.cells #[.string nm,.slice (some A) xs.length ac] 155)):=⟨_,Lib.hid rfl⟩
       have hbW:Below wr.heap.size wr W:=by rw [HW.out];exact one_below wr _
       have hWh:W.heap[wr.heap.size]?=some (.cells #[.string nm,.slice (some A) xs.length ac] 155 (0,0)):=by rw [HW.out];exact World.alloc_heap_new _ _
       have w1:W.cell? ⟨wr.heap.size,1,none⟩=some (.slice (some A) xs.length ac):=(Lib.cell_of_heap hWh 1).trans rfl
       have ny2:W.cell? (A.add k)=some (.int .i64 y):=(hbW.cell (by rw [add_block];exact hAA)).trans ny
       obtain ⟨X,hX1,hX2,hX3⟩:=HX.out
       have hX4:=(hbW.block _ (lt_of_heap hX3)).trans hX3
       have HX4:=Lib.hid hX4
       have hsz:q < (cellsI X).size:=by unfold cellsI;rw [List.size_toArray,List.length_map,hX1];exact hlq
       have kc:W.cell? ⟨w.heap.size,q,none⟩=some (cellsI X)[q]:=(Lib.cell_of_heap hX4 q).trans (Array.getElem?_eq_getElem hsz)
       have kf:W.frozen? ⟨w.heap.size,q,none⟩=false:=frozen_free hX4 q
       have HB':Hid (Below w.heap.size w (W.setCell ⟨w.heap.size,q,none⟩ (.int .i64 y))):=Lib.hid ((below_up HB.out hbW).setCell (p:=⟨w.heap.size,q,none⟩) (Nat.le_refl _) _)
       have HT':Hid ((W.setCell ⟨w.heap.size,q,none⟩ (.int .i64 y)).heap[wo.heap.size]?=some (.cells #[.slice ho t.1.length hc,.slice ro t.2.length rc] 25 (0,0))):=Lib.hid (by
        rw [Go.Deep.blk_setCell_other _ _ _ _ (by have:=HWlt.out;simp;omega)]
        exact (hbW.block _ (lt_of_heap HT.out)).trans HT.out)
       have HX':Hid (∃ X:List Int,X.length=ch.length∧X.take (q+1)=(colsOf ch k).take (q+1)∧(W.setCell ⟨w.heap.size,q,none⟩ (.int .i64 y)).heap[w.heap.size]?=some (.cells (cellsI X) 3 (0,0))):=Lib.hid ⟨X.set q y,by simpa using hX1,by
        rw [List.take_add_one,List.take_add_one,HFq.out,List.getElem?_set_self (by omega),List.take_set_of_le (Nat.le_refl _),hX2],by rw [heap_set _ hX4,cellsI_set]⟩
       obtain ⟨u,hu⟩:∃ u,u=(cellsI X)[q]:=⟨_,rfl⟩
       rw [← hu] at kc
       clear hccell hacell ny hbW hWh hX1 hX2 hX3 hX4 hsz hu hcq hy hxl HX HB HT
       go_upto_region 8 with fail
       rw [← HW.out]
       go_wp2_with fail
       go_roundw
       case rel=>exact ⟨q+1,by omega,by go_num,HB',HT',HX'⟩
       case measure=>simp [intOf];omega
     · have hqe:q=ch.length:=by omega
       obtain ⟨X,hX1,hX2,hX3⟩:=HX.out
       have hlc:(colsOf ch k).length=ch.length:=by simp [colsOf]
       have hXe:X=colsOf ch k:=by rw [← List.take_length (l:=X),hX1,← hqe,hX2,hqe,← hlc,List.take_length]
       subst hXe
       have hwf:∀ c ∈ colsOf ch k,(Lit.int .i64 c).wf=true:=fun c hc=>by
        unfold colsOf at hc
        rw [List.mem_map] at hc
        obtain ⟨d,hd,rfl⟩:=hc
        obtain ⟨d1,d2⟩:=HCo.out d hd
        rw [List.getD_eq_getElem?_getD,List.getElem?_eq_getElem (by omega)]
        exact d2 _ (List.getElem_mem _)
       have CU:=unique_any ho t.1.length hc ro rc t.2 (some ⟨w.heap.size,0,none⟩) ch.length (colsOf ch k) wr HT1.out HT2.out HT3.out (by rw [hlc];omega) hwf (HRW.out.kept HB.out) (ints_block hX3) (HP.out.kept HB.out)
       rw [hlc] at CU
       have CU:=Lib.hid CU
       have t0:wr.cell? ⟨wo.heap.size,0,none⟩=some (.slice ho t.1.length hc):=(Lib.cell_of_heap HT.out 0).trans rfl
       have t1:wr.cell? ⟨wo.heap.size,1,none⟩=some (.slice ro t.2.length rc):=(Lib.cell_of_heap HT.out 1).trans rfl
       have HX3:=Lib.hid hX3
       clear hX1 hX2 hX3 hwf hlc HX HT
       cases hu:uniqL t.1.length t.2 (colsOf ch k) with
       | false =>
        rw [hu] at CU
        have E:=Lib.hid (HNo.out k t HTk.out hu)
        clear hu hqe
        go_wp2_with fail
        refine CU.out.mono ?_
        rintro e w9 ⟨rfl,b9⟩
        have B9:=Lib.hid (below_up HB.out b9)
        clear b9 t0 t1
        go_wp2_with fail
        go_ret
        exact ⟨by rw [E.out];rfl,B9.out⟩
       | true =>
        rw [hu] at CU
        have HA':Hid (∀ i t,i < k+1→ts[i]?=some t→uniqL t.1.length t.2 (colsOf ch i)=true):=Lib.hid (fun i t' hi ht'=>by
         by_cases h:i=k
         · subst h;rw [HTk.out] at ht';cases ht';exact hu
         · exact HA.out i t' (by omega) ht')
        clear hu hqe
        go_wp2_with fail
        refine CU.out.mono ?_
        rintro e w9 ⟨rfl,b9⟩
        have B9:=Lib.hid (below_up HB.out b9)
        have X9:Hid (∃ X:List Int,X.length=ch.length∧w9.heap[w.heap.size]?=some (.cells (cellsI X) 3 (0,0))):=Lib.hid ⟨colsOf ch k,by simp [colsOf],(b9.block _ (lt_of_heap HX3.out)).trans HX3.out⟩
        clear b9 t0 t1
        go_wp2_with fail
        go_roundw
        case rel=>exact ⟨k+1,by omega,by go_num,B9,X9,HA'⟩
        case measure=>simp [intOf];omega
  · have E:=Lib.hid (HYs.out (fun i t ht=>HA.out i t (by have:=(List.getElem?_eq_some_iff.1 ht).1;omega) ht))
    go_wp2_with fail
    go_ret
    exact ⟨by rw [E.out];rfl,HB.out⟩
end
section
open Go.RowKit Go.Shelf Go.Maps
def usableC (ts:List TabK) (names:List ByteArray):Bool:=decide (0 < names.length) && decide ((candsL ts names).length=names.length) && apartC ts (candsL ts names)
theorem cands_ok (ts:List TabK) (names:List ByteArray) (h:TabsOk ts):CandsOk ts (candsL ts names):=by
 have key:∀ (ts:List TabK),TabsOk ts→∀ c ∈ candsL ts names,∀ x ∈ c.2,(Lit.int .i64 x).wf=true:=fun ts=>by
  induction ts using List.reverseRecOn' with
  | nil=>intro _ c hc;unfold candsL at hc;simp at hc;obtain ⟨s,_,rfl⟩:=hc;intro x hx;simp at hx
  | snoc ts t ih =>
   intro h c hc
   rw [cands_snoc] at hc
   unfold stepC at hc
   rw [List.mem_filterMap] at hc
   obtain ⟨d,hd,he⟩:=hc
   split at he
   · cases he
     intro x hx
     rw [List.mem_append,List.mem_singleton] at hx
     rcases hx with hx | rfl
     · exact ih (fun t' ht'=>h t' (by simp [ht'])) d hd x hx
     · have h1:=(h t (by simp)).1
       rw [find_text]
       rcases find_range t.1 d.1.data.toList with e | ⟨h2,h3⟩
       · rw [e];exact Go.WalkArith.wf_i64 (by omega)
       · exact Go.WalkArith.wf_i64 (by omega)
   · cases he
 exact fun c hc=>⟨cands_at ts names c hc,key ts h c hc⟩
theorem usable_any (lo:Option Addr) (lc:Nat) (ts:List TabK) (ao:Option Addr) (cap:Nat) (names:List ByteArray) (w:World) (hts:ts.length≤1073741824) (hn:names.length≤1048576) (hs:∀ c ∈ names,c.size≤maxLen) (hT:TabsOk ts) (hH:HeadsOk ts) (hL:TabsAt w lo ts) (hR:StrRow w ao names) (hpow:Pow w) :
 Calls Tryz.prog 19 #[.slice lo ts.length lc,.slice ao names.length cap] w fun e w'=>e=.returned (.bool (usableC ts names))∧Below w.heap.size w w':=by
 have CA:=Lib.hid (candidates_any lo lc ts ao cap names w hts (by omega) hs hH hL hR)
 have HTo:=Lib.hid hT
 have HLo:=Lib.hid hL
 have HP:=Lib.hid hpow
 have hcl:=cands_len ts names
 have HCK:=Lib.hid (cands_ok ts names hT)
 unfold usableC
 obtain ⟨ch,hch⟩:∃ ch,ch=candsL ts names:=⟨_,rfl⟩
 rw [← hch] at CA hcl HCK ⊢
 obtain ⟨F,hF⟩:∃ F,F=apartC ts ch:=⟨_,rfl⟩
 have HF:=Lib.hid hF
 rw [← hF]
 clear hT hH hL hR hs hpow hch hF
 go_enter Tryz.func19,Tryz.ntmps19
 go_wp2_with fail
 refine CA.out.mono ?_
 rintro e w1 ⟨v,cvs,rfl,hO,hcv,hB⟩
 obtain ⟨co,cc,rfl,hCA⟩:=hO.cands
 rw [hcv] at hCA ⊢
 have C:=Lib.hid (apart_any lo lc ts co cc ch w1 hts (by omega) HTo.out HCK.out (HLo.out.kept hB) hCA (HP.out.kept hB))
 rw [← HF.out] at C
 have HB:=Lib.hid hB
 clear hO hcv hB hCA CA
 by_cases h0:0 < names.length
 · by_cases h1:ch.length=names.length
   · have e0:decide (0 < (names.length:Int))=true:=by simpa using h0
     have e1:((ch.length:Int) == (names.length:Int))=true:=by simp;omega
     have EQ:=Lib.hid h1
     clear h1
     go_wp2_with fail
     refine C.out.mono ?_
     rintro e w2 ⟨rfl,b2⟩
     have B2:=Lib.hid (below_up HB.out b2)
     clear b2
     go_wp2_with fail
     go_ret
     exact ⟨by rw [decide_eq_true h0,decide_eq_true EQ.out];rfl,B2.out⟩
   · have e0:decide (0 < (names.length:Int))=true:=by simpa using h0
     have e1:((ch.length:Int) == (names.length:Int))=false:=by
      cases hh:((ch.length:Int) == (names.length:Int)) with
      | false=>rfl
      | true=>exact absurd (eq_of_beq hh) (by omega)
     go_wp2_with fail
     go_ret
     exact ⟨by rw [decide_eq_false h1];simp,HB.out⟩
 · have e0:decide (0 < (names.length:Int))=false:=decide_eq_false (by omega)
   go_wp2_with fail
   go_ret
   exact ⟨by rw [decide_eq_false h0];rfl,HB.out⟩
end
section
open Go.RowKit
section
variable {α : Type} {F : Fence} {n : Nat} {P : Program}
theorem Apart.mono {b b':Nat} {J:World→Prop} (h:Apart b J) (hb:b≤b'):Apart b' J:=fun A l o o' hJ hl hk hc=>h A l o o' hJ (by omega) hk hc
end
end
section
open Go.RowKit Go.Shelf Go.Sort
attribute [local go_sem] Oper.semAt_some
def choicesL {α:Type}:Nat→List α→List (List α)
 | 0,_=>[[]]
 | _+1,[]=>[]
 | n+1,x :: xs=>(choicesL n xs).map (x :: ·) ++ choicesL (n+1) xs
theorem CandsAt.drop {w:World} {b o:Nat} {cs:List Cand} (h:CandsAt w (some ⟨b,o,none⟩) cs) (k:Nat):CandsAt w (some ⟨b,o+k * 2,none⟩) (cs.drop k):=by
 rcases h with h | ⟨b',o',h1,h2,h3⟩
 · exact .inl (by rw [h];simp)
 · cases h1
   refine .inr ⟨b,o+k * 2,rfl,h2,fun i c hc=>?_⟩
   rw [List.getElem?_drop] at hc
   have:=h3 (k+i) c hc
   rw [show o+k * 2+i * 2=o+(k+i) * 2 by omega]
   exact this
end
section
open Go.RowKit Go.Shelf Go.Deep Go.Lib
def TyS (w:World) (ro:Option Addr):Prop:=∀ A,ro=some A→∃ cs fr,w.heap[A.block]?=some (.cells cs 9 fr)
theorem TyS.kept {w w':World} {ro:Option Addr} (h:TyS w ro) (hB:Below w.heap.size w w'):TyS w' ro:=fun A e=>by
 obtain ⟨cs,fr,h1⟩:=h A e
 exact ⟨cs,fr,(hB.block _ (lt_of_heap h1)).trans h1⟩
theorem own_ty {w:World} {base:Nat} {s:Nat} {ao:Option Addr} {n cap:Nat} {xs:List Value} (h:w.ownsRow base 9 s (.slice ao n cap) n xs):TyS w ao:=fun A e=>by
 rcases h.2 with ⟨hv,h0⟩ | ⟨g,c,cur,hv,hb,hg,_⟩
 · cases hv;cases e
 · cases hv;cases e;exact ⟨_,_,hg⟩
def RowV (w:World) (r:List ByteArray) (v:Value):Prop:=∃ (ro:Option Addr) (c:Cap ro r.length),v=.slice ro r.length c.1∧StrRow w ro r∧TyS w ro
theorem RowV.kept {w w':World} {r:List ByteArray} {v:Value} (h:RowV w r v) (hB:Below w.heap.size w w'):RowV w' r v:=by
 obtain ⟨ro,c,h1,h2,h3⟩:=h
 exact ⟨ro,c,h1,h2.kept hB,h3.kept hB⟩
theorem RowV.one {w:World} {r:List ByteArray} {v:Value} (h:RowV w r v):v.oneCell'=true:=by
 obtain ⟨ro,c,rfl,_⟩:=h;rfl
def RowsT (w:World) (ao:Option Addr) (rs:List (List ByteArray)):Prop :=
 rs=[]∨∃ A,ao=some A∧A.block < w.heap.size∧∀ (i:Nat) r,rs[i]?=some r→∃ v,w.cell? (A.add i)=some v∧RowV w r v
theorem RowsT.rows {w:World} {ao:Option Addr} {rs:List (List ByteArray)} (h:RowsT w ao rs):RowsAt w ao rs:=by
 rcases h with h | ⟨A,h1,h2,h3⟩
 · exact .inl h
 · refine .inr ⟨A,h1,h2,fun i r hr=>?_⟩
   obtain ⟨v,q1,ro,c,rfl,q2,_⟩:=h3 i r hr
   exact ⟨ro,c,q1,q2⟩
def FitR (w:World) (rs:List (List ByteArray)) (vs:List Value):Prop:=vs.length=rs.length∧(∀ (i:Nat) r v,rs[i]?=some r→vs[i]?=some v→RowV w r v)∧∀ u ∈ vs,u.oneCell'=true
theorem FitR.kept {w w':World} {rs:List (List ByteArray)} {vs:List Value} (h:FitR w rs vs) (hB:Below w.heap.size w w'):FitR w' rs vs:=⟨h.1,fun i r v h1 h2=>(h.2.1 i r v h1 h2).kept hB,h.2.2⟩
theorem fitR_nil (w:World):FitR w [] []:=⟨rfl,(fun i r v h=>by simp at h),(fun u hu=>by simp at hu)⟩
theorem fitR_app {w:World} {rs ss:List (List ByteArray)} {vs us:List Value} (h:FitR w rs vs) (k:FitR w ss us):FitR w (rs ++ ss) (vs ++ us):=by
 refine ⟨by simp [h.1,k.1],fun i r v hr hv=>?_,fun u hu=>(List.mem_append.1 hu).elim (h.2.2 u) (k.2.2 u)⟩
 rw [List.getElem?_append] at hr hv
 rw [h.1] at hv
 split at hr
 · rename_i hi
   rw [if_pos hi] at hv
   exact h.2.1 i r v hr hv
 · rename_i hi
   rw [if_neg hi] at hv
   exact k.2.1 _ r v hr hv
theorem FitR.turn {w w':World} {rs:List (List ByteArray)} {vs:List Value} {base n:Nat} {u:Value} {xs:List Value} (h:FitR w rs vs) (ho:w.ownsRow base 22 1 u n xs) (hg:w.grownBy w' u.ownBlock):FitR w' rs vs:=by
 refine ⟨h.1,fun i r v hr hv=>?_,h.2.2⟩
 obtain ⟨ro,c,rfl,h2,h3⟩:=h.2.1 i r v hr hv
 have key:∀ A,ro=some A→w'.heap[A.block]?=w.heap[A.block]?:=fun A e=>by
  obtain ⟨cs,fr,h4⟩:=h3 A e
  refine hg.block A.block (lt_of_heap h4) (fun e2=>?_)
  rcases ho.2 with ⟨rfl,_⟩ | ⟨g,cap,cur,rfl,_,hgg,_⟩
  · simp [Value.ownBlock] at e2
  · simp only [Value.ownBlock,Option.some.injEq] at e2
    subst e2
    rw [h4] at hgg
    simp at hgg
 refine ⟨ro,c,rfl,?_,fun A e=>?_⟩
 · rcases h2 with h2 | ⟨A,h4,h5,h6⟩
   · exact .inl h2
   · refine .inr ⟨A,h4,Nat.lt_of_lt_of_le h5 hg.size,fun j x hx=>?_⟩
     exact (World.cell?_of_block (a:=A.add j) (by rw [add_block];exact key A h4)).trans (h6 j x hx)
 · obtain ⟨cs,fr,h4⟩:=h3 A e
   exact ⟨cs,fr,(key A e).trans h4⟩
theorem rows_of_own {w:World} {base:Nat} {e:TypeId} {ao:Option Addr} {n cap:Nat} {rs:List (List ByteArray)} {vs:List Value} (h:w.ownsRow base e 1 (.slice ao n cap) n vs) (hn:rs.length=n) (hV:FitR w rs vs):RowsT w ao rs:=by
 rcases h.2 with ⟨hv,h0⟩ | ⟨g,c,cur,hv,hb,hg,_⟩
 · exact .inl (List.eq_nil_of_length_eq_zero (by omega))
 · cases hv
   refine .inr ⟨_,rfl,lt_of_heap hg,fun i r hr=>?_⟩
   have hi:i < rs.length:=(List.getElem?_eq_some_iff.1 hr).1
   obtain ⟨v,hv⟩:∃ v,vs[i]?=some v:=⟨_,List.getElem?_eq_getElem (by rw [hV.1];exact hi)⟩
   exact ⟨v,h.cells (g:=g) rfl i _ hv,hV.2.1 i r v hr hv⟩
theorem ownK_cap {w:World} {base:Nat} {e:TypeId} {s:Nat} {ao:Option Addr} {n cap:Nat} {xs:List Value} (h:w.ownsRow base e s (.slice ao n cap) n xs):n≤cap∧(ao=none→cap=0):=by
 rcases h.2 with ⟨hv,h0⟩ | ⟨g,c,cur,hv,hb,hg,hc,_⟩
 · cases hv;exact ⟨Nat.le_refl _,fun _=>rfl⟩
 · cases hv;exact ⟨hc,fun e=>by cases e⟩
end
section
open Go.RowKit Go.Shelf Go.Sort
attribute [local go_sem] Oper.semAt_some
end
section
open Go.RowKit Go.Shelf Go.Sort
attribute [local go_sem] Oper.semAt_some
def preL (c:List Cand) (q:Nat):List (List Cand):=(List.range (q - 1)).flatMap fun i=>choicesL (i+1) c
end
section
open Go.RowKit Go.Shelf Go.Deep
theorem own_intsI {w:World} {base:Nat} {e:TypeId} {ro:Option Addr} {n cp:Nat} {xs:List Int} {L:List Value} (h:w.ownsRow base e 1 (.slice ro n cp) n L) (hL:L=xs.map (Value.int .i64)):IntsAt w ro xs:=by
 subst hL
 rcases h.2 with ⟨hv,h0⟩ | ⟨g,cap,cur,hv,_,hg,_⟩
 · have:=h.1;simp at this;exact .inl (List.eq_nil_of_length_eq_zero (by omega))
 · cases hv
   refine .inr ⟨_,rfl,(h.lt g rfl).2,fun i c hc=>h.cells rfl i _ (by rw [List.getElem?_map,hc];rfl)⟩
theorem step_append_gd {P:Program} {w:World} {ops:Array Oper} {o:Oper} {a:Act} {K:Act→World→Prop} {Q:Exit→Act→World→Prop} {E:Prop} (hw:Region.wanted o (yielded ops a.tmps)=true) (s x:Operand) (t:TypeId)
 (ho:o.op=.call { callee:=.builtin .append,args:=#[s,x],argTypes:=#[t,t] })
 (base:Nat) (e:TypeId) (i:TypeInfo) (z:Value) (size bytes:Nat) (ht:P.underlying t=some (.slice e)) (hi:P.info? e=some i) (hz:i.zero=some z)
 (hsize:i.size=size) (hby:i.bytes=bytes) (hzs:z.cells.size=size) (hsz:0 < size)
 (v:Value) (n:Nat) (xs:List Value) (hs:a.eval s=v) (hown:w.ownsRow base e size v n xs)
 (xo:Option Addr) (m c:Nat) (news:List Value) (hx:a.eval x=.slice xo m c) (hnone:xo=none→m=0∧c=0) (hl:news.length=m * size) (hnews:∀ ad,xo=some ad→∀ (j:Nat) u,news[j]?=some u→w.cell? (ad.add j)=some u) (h1:∀ u ∈ news,u.oneCell'=true)
 (h63:n+m≤maxLen) (hbytes:(n+m) * bytes≤140737488355328) (hbase:base≤w.heap.size) (N:Nat) (hN:n+m=N) (L:List Value) (hL:xs ++ news=L)
 (h:∀ ao cap w',w'.ownsRow base e size (.slice ao N cap) N L→w.grownBy w' v.ownBlock→Below base w w'→K (a.put o.dst (.slice ao N cap)) w') :
 if Region.wanted o (yielded ops a.tmps)=true then Oper.wp P o a w K Q else E:=by
 subst hN hL
 rw [if_pos hw]
 have fin:∀ v' w',w'.ownsRow base e size v' (n+m) (xs ++ news)→w.grownBy w' v.ownBlock→K (a.put o.dst v') w':=fun v' w' h2 h3=>by
  obtain ⟨ao,cap,rfl⟩:=own_slice h2
  exact h ao cap w' h2 h3 ((Below.refl base w).grown h3 hbase (fun j hj=>(hown.lt j hj).1))
 cases xo with
 | none =>
  obtain ⟨rfl,rfl⟩:=hnone rfl
  have hnil:news=[]:=List.eq_nil_of_length_eq_zero (by rw [hl];simp)
  subst hnil
  have hrun:=run_append_owned_none (P:=P) (w:=w) base t o.type e i size ht hi v n xs hown
  unfold Oper.wp
  simp [execOp,ho,resolve,invoke,builtin,hs,hx,hrun,Result.andThen]
  exact fin v w (by simpa using hown) ⟨rfl,rfl,rfl,Nat.le_refl _,fun _ _ _=>rfl⟩
 | some ad=>exact wp_append_own w s x t ho base e i z size bytes ht hi hz hsize hby hzs hsz v n xs hs hown ad m c news hx hl (hnews ad rfl) h1 h63 hbytes hbase (fun v' w' h2 h3 _=>fin v' w' h2 h3)
end
section
open Go.RowKit Go.Shelf Go.Deep
def StrsOut (xs:List ByteArray) (w:World) (e:Ending) (w':World):Prop:=∃ ao cap,e=.returned (.slice ao xs.length cap)∧StrRow w' ao xs∧Below w.heap.size w w'
theorem own_strsK {w:World} {base:Nat} {e:TypeId} {ao:Option Addr} {n cap:Nat} {xs:List ByteArray} {L:List Value} (h:w.ownsRow base e 1 (.slice ao n cap) n L) (hL:L=xs.map Value.string):StrRow w ao xs:=by
 subst hL
 rcases h.2 with ⟨hv,h0⟩ | ⟨g,c,cur,hv,_,hg,_⟩
 · have:=h.1;simp at this;exact .inl (List.eq_nil_of_length_eq_zero (by omega))
 · cases hv
   refine .inr ⟨_,rfl,(h.lt g rfl).2,fun i c hc=>h.cells rfl i _ (by rw [List.getElem?_map,hc];rfl)⟩
theorem src_text (V:World) (x:ByteArray) (T:TypeId):∀ ad,some (⟨V.heap.size,0,none⟩:Addr)=some ad→∀ (j:Nat) u,[Value.string x][j]?=some u→(V.alloc (.cells #[.string x] T)).cell? (ad.add j)=some u:=fun ad e j u hu=>by
 cases e
 match j,hu with
 | 0,hu=>cases hu;exact (Lib.cell_of_heap (World.alloc_heap_new V _) 0).trans rfl
def keyR (rs:List (List ByteArray)) (row:Int) (cols:List Int):List ByteArray:=cols.map (cellL rs row)
theorem rkey_any (ho:Option Addr) (m hc:Nat) (ro:Option Addr) (rc:Nat) (rs:List (List ByteArray)) (row:Int) (co:Option Addr) (cc:Nat) (cols:List Int) (w:World) (hn:cols.length≤1048576) (hR:RowsAt w ro rs) (hI:IntsAt w co cols) :
 Calls Tryz.prog 38 #[.agg #[.slice ho m hc,.slice ro rs.length rc],.int .i64 row,.slice co cols.length cc] w (StrsOut (keyR rs row cols) w):=by
 obtain ⟨W,HW⟩:∃ W,Hid (W=w.alloc (TabO ho m hc ro rs.length rc)):=⟨_,Lib.hid rfl⟩
 have hB:Below w.heap.size w W:=by rw [HW.out];exact one_below _ _
 have HB0:=Lib.hid hB
 have hN:W.heap[w.heap.size]?=some (TabO ho m hc ro rs.length rc):=by rw [HW.out];exact World.alloc_heap_new w _
 have HNew:=Lib.hid hN
 have CC:=Lib.hid (fun V (c:Int) (h:Below W.heap.size W V)=>rcell_any ho m hc ro rc rs row c V (hR.kept (below_up hB h)))
 have HIo:=Lib.hid (hI.kept hB)
 have HK:Hid (∀ (k:Nat) c,cols[k]?=some c→((keyR rs row cols).map Value.string).take k ++ [Value.string (cellL rs row c)]=((keyR rs row cols).map Value.string).take (k+1)):=Lib.hid (fun k c hk=>by
  unfold keyR
  rw [List.take_add_one (i:=k),List.getElem?_map,List.getElem?_map,hk];rfl)
 have HKl:Hid ((keyR rs row cols).length=cols.length):=Lib.hid (by unfold keyR;simp)
 generalize keyR rs row cols=xs at HK HKl ⊢
 have hinfo:(Tryz.prog.info? 9).map (fun i=>(i.zero,i.size,i.bytes))=some (some (.string ⟨#[]⟩),1,16):=by kernel_rfl
 obtain ⟨i0,hi,hz0,hz1,hz2⟩:=infoK_parts2 hinfo
 have HIn:=Lib.hid hi
 clear hi hinfo hR hB hN hI
 go_enter Tryz.func38,Tryz.ntmps38
 go_wp2_with fail
 rw [show w.alloc (Obj.cells #[Value.slice ho m hc,Value.slice ro rs.length rc] 25)=W from HW.out.symm]
 go_loopw [7,8] (fun v i wr=>∃ (k cap:Nat) (ao:Option Addr),k≤cols.length∧v=.slice ao k cap∧i=.int .i64 k∧Hid (Below W.heap.size W wr)∧Hid (wr.ownsRow W.heap.size 9 1 (.slice ao k cap) k ((xs.map Value.string).take k))) (fun _ i _=>cols.length - (intOf i).toNat)
 case atStart=>exact ⟨0,0,none,Nat.zero_le _,rfl,rfl,Lib.hid (Below.refl _ _),Lib.hid (World.ownsRow_nil _ _ _ _)⟩
 case round =>
  obtain ⟨k,cap,ao,hk,rfl,rfl,HB,HO⟩:=hrel
  by_cases hlt:k < cols.length
  · obtain ⟨c,hcol⟩:∃ c,cols[k]?=some c:=⟨_,List.getElem?_eq_getElem hlt⟩
    obtain ⟨c0,c1⟩:=tabs ((HB.out.block _ (lt_of_heap HNew.out)).trans HNew.out)
    rcases HIo.out with h0 | ⟨A,rfl,hA,hcell⟩
    · rw [h0] at hlt;simp at hlt
    have HCa:Hid (∀ V,Below W.heap.size W V→V.cell? (A.add k)=some (.int .i64 c)):=Lib.hid (fun V h=>(h.cell (p:=A.add k) (by rw [add_block];exact hA)).trans (hcell k c hcol))
    have ca:=HCa.out wr HB.out
    have HT:=Lib.hid (HK.out k c hcol)
    have hws:W.heap.size≤wr.heap.size:=HB.out.size
    clear hcell
    have C1:=Lib.hid (CC.out wr c HB.out)
    have C2:=Lib.hid (CC.out wr.drew c HB.out.drew)
    generalize cellL rs row c=x at C1 C2 HT
    have q1:k+1≤maxLen:=by unfold maxLen;omega
    have q2:(k+1) * 16≤140737488355328:=by omega
    have KEEP:Hid (∀ V,Below W.heap.size W V→V.cell? ⟨w.heap.size,0,none⟩=some (.slice ho m hc)∧V.cell? ⟨w.heap.size,1,none⟩=some (.slice ro rs.length rc)∧V.cell? (A.add k)=some (.int .i64 c)):=Lib.hid (fun V h=>by
     obtain ⟨d0,d1⟩:=tabs ((h.block _ (lt_of_heap HNew.out)).trans HNew.out)
     exact ⟨d0,d1,(HCa.out V h)⟩)
    go_upto_region 5 with fail
    go_region_held3 (fun V=>V.cell? ⟨w.heap.size,0,none⟩=some (.slice ho m hc)∧V.cell? ⟨w.heap.size,1,none⟩=some (.slice ro rs.length rc)∧V.cell? (A.add k)=some (.int .i64 c)) ((refine ⟨?_,?_,?_⟩ <;> first | assumption | go_keep))
     (first
      | (go_at_call 89;refine C2.out.mono ?_;rintro e w2 ⟨rfl,b2⟩;have B2:=Lib.hid (below_up HB.out.drew b2);obtain ⟨c0,c1,ca⟩:=KEEP.out w2 B2.out;have HO2:=Lib.hid ((ownsRow_below HO.out.drew b2).alloc (.cells #[.string x] 9));have HB3:Hid (Below W.heap.size W (w2.alloc (.cells #[.string x] 9))):=Lib.hid (B2.out.alloc B2.out.size _);clear b2)
      | (refine step_append_gd (by rfl) _ _ 22 (by rfl) W.heap.size 9 i0 (.string ⟨#[]⟩) 1 16 Tryz.underlying22 HIn.out hz0 hz1 hz2 rfl (by decide) (.slice ao k cap) k ((xs.map Value.string).take k) (by rfl) HO2.out (some ⟨w2.heap.size,0,none⟩) 1 1 [.string x] (by rfl) (fun e=>by cases e) (by simp) (src_text w2 x _) (fun u hu=>by simp at hu;subst hu;rfl) q1 q2 HB3.out.size (k+1) rfl ((xs.map Value.string).take (k+1)) HT.out ?_;intro jo jc w4 hown _ hbel;have B4:=Lib.hid (HB3.out.trans hbel);have HO4:=Lib.hid hown;obtain ⟨c0,c1,ca⟩:=KEEP.out w4 B4.out;clear hown hbel))
    go_wp2_with fail
    go_roundw
    case rel=>exact ⟨k+1,jc,jo,by omega,rfl,by go_num,B4,HO4⟩
    case measure=>simp [intOf];omega
  · have hke:k=cols.length:=by omega
    have hkx:(xs.map Value.string).take k=xs.map Value.string:=List.take_of_length_le (by have:=HKl.out;simp;omega)
    have HE:=Lib.hid (own_strsK (xs:=xs) HO.out hkx)
    have HBe:=Lib.hid (below_up HB0.out HB.out)
    clear hkx HO HB
    subst hke
    go_wp2_with fail
    go_ret
    exact ⟨ao,cap,by rw [HKl.out];rfl,HE.out,HBe.out⟩
theorem bytes_injK {xs ys:List ByteArray} (h:bytesOf xs=bytesOf ys):xs=ys:=by
 unfold bytesOf at h
 exact List.map_inj_right (fun a b e=>ba_eq e) |>.1 h
theorem runique_any (ho:Option Addr) (m hc:Nat) (ro:Option Addr) (rc:Nat) (rs:List (List ByteArray)) (co:Option Addr) (cc:Nat) (cols:List Int) (w:World) (hm:m≤1099511627776) (hr:rs.length≤1099511627776) (hn:cols.length≤1048576) (hR:RowsAt w ro rs) (hI:IntsAt w co cols) :
 Calls Tryz.prog 81 #[.agg #[.slice ho m hc,.slice ro rs.length rc],.slice co cols.length cc] w fun e w'=>e=.returned (.bool (uniqL m rs cols))∧Below w.heap.size w w':=by
 obtain ⟨W,HW⟩:∃ W,Hid (W=w.alloc (TabO ho m hc ro rs.length rc)):=⟨_,Lib.hid rfl⟩
 have hB:Below w.heap.size w W:=by rw [HW.out];exact one_below _ _
 have HB0:=Lib.hid hB
 have hN:W.heap[w.heap.size]?=some (TabO ho m hc ro rs.length rc):=by rw [HW.out];exact World.alloc_heap_new w _
 have HIo:=Lib.hid (hI.kept hB)
 have box:Hid (∀ V,Below W.heap.size W V→V.cell? ⟨w.heap.size,0,none⟩=some (.slice ho m hc)∧V.cell? ⟨w.heap.size,1,none⟩=some (.slice ro rs.length rc)):=Lib.hid (fun V hV=>tabs ((hV.block _ (lt_of_heap hN)).trans hN))
 have CK:=Lib.hid (fun (j:Nat) V (h:Below W.heap.size W V)=>rkey_any ho m hc ro rc rs (j:Int) co cc cols V hn (hR.kept (below_up hB h)) (hI.kept (below_up hB h)))
 have CR:=Lib.hid (fun (ao bo:Option Addr) (ca cb:Nat) (xs ys:List ByteArray) V (hl:xs.length≤1099511627776) (h1:StrRow V ao xs) (h2:StrRow V bo ys)=>rrow_any ao bo ca cb xs ys V hl h1 h2)
 have HOut:=Lib.hid (fun (c:Int) (hc:c ∈ cols) (h:c < 0∨(m:Int)≤c)=>uniq_out m rs cols c hc h)
 have HSame:Hid (∀ a b:Nat,a < b→b < rs.length→keyR rs a cols=keyR rs b cols→uniqL m rs cols=false):=Lib.hid (fun a b h1 h2 h3=>by
  cases hu:uniqL m rs cols with
  | false=>rfl
  | true =>
   unfold uniqL at hu
   rw [Bool.and_eq_true,apart_iff] at hu
   exact absurd h3 (hu.2 a b h1 h2))
 have HYes:Hid ((∀ c ∈ cols,0≤c∧c < (m:Int))→(∀ a b:Nat,a < b→b < rs.length→keyR rs a cols ≠ keyR rs b cols)→uniqL m rs cols=decide (0 < cols.length)):=Lib.hid (fun h1 h2=>by
  unfold uniqL
  rw [(inHead_iff m cols).2 h1,(apart_iff rs cols).2 h2]
  cases cols <;> simp)
 have HLn:Hid (∀ a:Int,(keyR rs a cols).length≤1099511627776):=Lib.hid (fun a=>by unfold keyR;simp;omega)
 generalize uniqL m rs cols=F at HOut HSame HYes ⊢
 clear hR hI hB hN
 go_enter Tryz.func81,Tryz.ntmps81
 go_wp2_with fail
 rw [show w.alloc (Obj.cells #[Value.slice ho m hc,Value.slice ro rs.length rc] 25)=W from HW.out.symm]
 go_loopw [5] (fun i wr=>∃ (k:Nat),k≤cols.length∧i=.int .i64 k∧Hid (Below W.heap.size W wr)∧Hid (∀ (j:Nat) c,j < k→cols[j]?=some c→0≤c∧c < (m:Int))) (fun i _=>cols.length - (intOf i).toNat)
 case atStart=>exact ⟨0,Nat.zero_le _,rfl,Lib.hid (Below.refl _ _),Lib.hid (fun j c h=>by omega)⟩
 case round =>
  obtain ⟨k,hk,rfl,HB,HA⟩:=hrel
  by_cases hlt:k < cols.length
  · obtain ⟨c,hcol⟩:∃ c,cols[k]?=some c:=⟨_,List.getElem?_eq_getElem hlt⟩
    obtain ⟨c0,c1⟩:=box.out wr HB.out
    have HCol:=Lib.hid hcol
    rcases (HIo.out.kept HB.out) with h0 | ⟨A,rfl,hA,hcell⟩
    · rw [h0] at hlt;simp at hlt
    have ca:=hcell k c hcol
    clear hcell hcol
    by_cases h0:c < 0
    · have d0:decide (c < 0)=true:=decide_eq_true h0
      have E:=Lib.hid (HOut.out c (List.mem_of_getElem? HCol.out) (.inl h0))
      go_upto_region 4 with fail
      go_quiet (fail)
      have HBq:=Lib.hid (below_up HB0.out (bdn (n:=nq) HB.out))
      go_wp2_with fail
      go_ret
      exact ⟨by rw [E.out];rfl,HBq.out⟩
    · have d0:decide (c < 0)=false:=decide_eq_false h0
      by_cases h1:(m:Int)≤c
      · have d1:decide ((m:Int)≤c)=true:=decide_eq_true h1
        have E:=Lib.hid (HOut.out c (List.mem_of_getElem? HCol.out) (.inr h1))
        go_upto_region 4 with fail
        go_quiet (fail)
        have HBq:=Lib.hid (below_up HB0.out (bdn (n:=nq) HB.out))
        go_wp2_with fail
        go_ret
        exact ⟨by rw [E.out];rfl,HBq.out⟩
      · have d1:decide ((m:Int)≤c)=false:=decide_eq_false h1
        have HA':Hid (∀ (j:Nat) c,j < k+1→cols[j]?=some c→0≤c∧c < (m:Int)):=Lib.hid (fun j x hj hx=>by
         by_cases e:j=k
         · subst e;rw [HCol.out] at hx;cases hx;omega
         · exact HA.out j x (by omega) hx)
        go_upto_region 4 with fail
        go_quiet (fail)
        have HBq:=Lib.hid (bdn (n:=nq) HB.out)
        go_wp2_with fail
        go_roundw
        case rel=>exact ⟨k+1,by omega,by go_num,HBq,HA'⟩
        case measure=>simp [intOf];omega
  · have HIn:Hid (∀ c ∈ cols,0≤c∧c < (m:Int)):=Lib.hid (fun c hc=>by
     obtain ⟨i,hi⟩:=List.mem_iff_getElem?.1 hc
     exact HA.out i c (by have:=(List.getElem?_eq_some_iff.1 hi).1;omega) hi)
    have HY:=Lib.hid (HYes.out HIn.out)
    have HBs:=HB
    clear HB HA HIn HYes HOut
    go_wp2_with fail
    go_loopw [6] (fun i wr=>∃ (j:Nat),j≤rs.length∧i=.int .i64 j∧Hid (Below W.heap.size W wr)∧Hid (∀ a b:Nat,a < b→b < j→keyR rs a cols ≠ keyR rs b cols)) (fun i _=>rs.length - (intOf i).toNat)
    case atStart=>exact ⟨0,Nat.zero_le _,rfl,HBs,Lib.hid (fun a b _ h=>by omega)⟩
    case round =>
     obtain ⟨j,hj,rfl,HB,HA⟩:=hrel
     clear HBs
     obtain ⟨c0,c1⟩:=box.out _ HB.out
     by_cases hlt:j < rs.length
     · go_wp2_with fail
       clear c0 c1
       go_loopw [7,8] (fun i v wr=>∃ (k:Nat),k≤j∧i=.int .i64 k∧Hid (Below W.heap.size W wr)∧Hid (∀ a:Nat,a < k→keyR rs a cols ≠ keyR rs j cols)) (fun i _ _=>j - (intOf i).toNat)
       case atStart=>exact ⟨0,Nat.zero_le _,rfl,HB,Lib.hid (fun a h=>by omega)⟩
       case round =>
        obtain ⟨k,hkj,rfl,HBw,HAk⟩:=hrel
        obtain ⟨p0,p1⟩:=box.out _ HBw.out
        by_cases hkl:k < j
        · have CKj:=Lib.hid (CK.out j)
          have CKk:=Lib.hid (CK.out k)
          have hl:=HLn.out j
          have HS:=Lib.hid (HSame.out k j hkl hlt)
          have HX:Hid (∀ a:Nat,a < k→keyR rs a cols ≠ keyR rs j cols):=HAk
          obtain ⟨xs,hxs⟩:∃ xs,xs=keyR rs j cols:=⟨_,rfl⟩
          obtain ⟨ys,hys⟩:∃ ys,ys=keyR rs k cols:=⟨_,rfl⟩
          have HXY:=Lib.hid (And.intro hxs hys)
          rw [← hxs] at CKj hl
          rw [← hys] at CKk
          have CRx:=Lib.hid (fun (ao bo:Option Addr) (ca cb:Nat) V (h1:StrRow V ao xs) (h2:StrRow V bo ys)=>CR.out ao bo ca cb xs ys V hl h1 h2)
          unfold StrsOut at CKj CKk
          have HBd:=Lib.hid (HBw.out.drew)
          clear hl hxs hys
          cases hsm:sameRow xs ys with
          | true =>
           rw [hsm] at CRx
           have E:Hid (F=false):=Lib.hid (HS.out (by
            have:=bytes_injK ((sameRow_iff xs ys).1 hsm)
            rw [← HXY.out.1,← HXY.out.2,this]))
           clear hsm
           go_upto_region 12 with fail
           go_region_held3 (fun V=>V.cell? ⟨w.heap.size,0,none⟩=some (.slice ho m hc)∧V.cell? ⟨w.heap.size,1,none⟩=some (.slice ro rs.length rc)) ((refine ⟨?_,?_⟩ <;> first | assumption | go_keep)) (first
            | (go_at_call 38;refine (CKj.out _ HBd.out).mono ?_;rintro e wA ⟨aoA,cA,rfl,hsA,bA⟩;have HBel:=Lib.hid (below_up HBd.out bA);have HSA:=Lib.hid hsA;obtain ⟨p0,p1⟩:=box.out _ HBel.out;clear hsA bA CKj HBd)
            | (go_at_call 38;refine (CKk.out _ HBel.out).mono ?_;rintro e wB ⟨aoB,cB,rfl,hsB,bB⟩;have HBel:=Lib.hid (below_up HBel.out bB);have HSA:=Lib.hid (HSA.out.kept bB);have HSB:=Lib.hid hsB;obtain ⟨p0,p1⟩:=box.out _ HBel.out;clear hsB bB CKk)
            | (go_at_call 37;refine (CRx.out _ _ _ _ _ HSA.out HSB.out).mono ?_;rintro e wC ⟨rfl,bC⟩;have HBel:=Lib.hid (below_up HBel.out bC);obtain ⟨p0,p1⟩:=box.out _ HBel.out;clear bC))
           all_goals (go_wp2_with fail;go_ret;exact ⟨by rw [E.out];rfl,below_up HB0.out HBel.out⟩)
          | false =>
           rw [hsm] at CRx
           have HA':Hid (∀ a:Nat,a < k+1→keyR rs a cols ≠ keyR rs j cols):=Lib.hid (fun a ha e=>by
            by_cases h:a=k
            · subst h
              rw [← HXY.out.1,← HXY.out.2] at e
              rw [e] at hsm
              simp [sameRow] at hsm
            · exact HX.out a (by omega) e)
           clear hsm
           go_upto_region 12 with fail
           go_region_held3 (fun V=>V.cell? ⟨w.heap.size,0,none⟩=some (.slice ho m hc)∧V.cell? ⟨w.heap.size,1,none⟩=some (.slice ro rs.length rc)) ((refine ⟨?_,?_⟩ <;> first | assumption | go_keep)) (first
            | (go_at_call 38;refine (CKj.out _ HBd.out).mono ?_;rintro e wA ⟨aoA,cA,rfl,hsA,bA⟩;have HBel:=Lib.hid (below_up HBd.out bA);have HSA:=Lib.hid hsA;obtain ⟨p0,p1⟩:=box.out _ HBel.out;clear hsA bA CKj HBd)
            | (go_at_call 38;refine (CKk.out _ HBel.out).mono ?_;rintro e wB ⟨aoB,cB,rfl,hsB,bB⟩;have HBel:=Lib.hid (below_up HBel.out bB);have HSA:=Lib.hid (HSA.out.kept bB);have HSB:=Lib.hid hsB;obtain ⟨p0,p1⟩:=box.out _ HBel.out;clear hsB bB CKk)
            | (go_at_call 37;refine (CRx.out _ _ _ _ _ HSA.out HSB.out).mono ?_;rintro e wC ⟨rfl,bC⟩;have HBel:=Lib.hid (below_up HBel.out bC);obtain ⟨p0,p1⟩:=box.out _ HBel.out;clear bC))
           all_goals (go_wp2_with fail;go_roundw)
           all_goals first
            | exact ⟨k+1,by omega,by go_num,HBel,HA'⟩
            | (simp [intOf];omega)
        · obtain rfl:k=j:=by omega
          have HA':Hid (∀ a b:Nat,a < b→b < k+1→keyR rs a cols ≠ keyR rs b cols):=Lib.hid (fun a b h1 h2=>by
           by_cases h:b=k
           · subst h;exact HAk.out a h1
           · exact HA.out a b h1 (by omega))
          go_wp2_with fail
          go_roundw
          case rel=>exact ⟨k+1,by omega,by go_num,HBw,HA'⟩
          case measure=>simp [intOf];omega
     · obtain rfl:j=rs.length:=by omega
       have E:=Lib.hid (HY.out HA.out)
       go_wp2_with fail
       go_ret
       exact ⟨by rw [E.out];rfl,below_up HB0.out HB.out⟩
end
end Go.Proofs.YtdenehnneloegaaGreatDoor
