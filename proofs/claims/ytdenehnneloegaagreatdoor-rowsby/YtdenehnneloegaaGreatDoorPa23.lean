/-
  Texts of these rows' proofs, laid one behind the other: GRef, GRef2, GShelf.
  Conditions: those of each theorem.
-/
import Derived.WalkKit
import Derived.WalkMore
import Derived.IntWalk
import Derived.OwnWalk
import Derived.StillTailTactics
import Derived.BigQuiet
import Derived.Deep.QuietTactic
import Derived.Lib.Hide
import Derived.Deep.Cut
import Derived.Deep.Onto
import Derived.Test.YtdenehnneloegaaGreatDoorProg
import Derived.Test.YtdenehnneloegaaGreatDoorPa22
import Derived.Test.YtdenehnneloegaaGreatDoorPa8
import Derived.Shelf.SlSortCmp.NoneTotal
import Derived.Shelf.SlIterI.Nil
import Derived.Shelf.SortM.Plain
import Derived.Shelf.SortM.SortNone
namespace Go.Proofs.YtdenehnneloegaaGreatDoor
set_option linter.unusedVariables false
set_option maxRecDepth 100000
set_option maxHeartbeats 8000000
section
open Go.RowKit Go.Shelf
def TripsOut (l:TL) (w:World) (e:Ending) (w':World):Prop:=∃ ao cap,e=.returned (.slice ao l.length cap)∧TripAt w' ao l∧(ao=none→cap=0)∧l.length≤cap∧Below w.heap.size w w'
def OwnTL (w:World) (base:Nat) (v:Value) (l:TL):Prop:=w.ownsRow base 73 3 v l.length (cellsT l)
theorem OwnTL.tripAt {w:World} {base:Nat} {v:Value} {l:TL} (h:OwnTL w base v l):∃ ao cap,v=.slice ao l.length cap∧TripAt w ao l∧(ao=none→cap=0)∧l.length≤cap:=by
 rcases h.2 with ⟨rfl,h0⟩ | ⟨g,cap,cur,rfl,h1,h2,h3,h4,h5,h6⟩
 · have hl:l=[]:=List.eq_nil_of_length_eq_zero h0
   subst hl
   exact ⟨none,0,rfl,.inl rfl,fun _=>rfl,Nat.le_refl _⟩
 · refine ⟨_,cap,rfl,.inr ⟨g,0,rfl,(World.ownsRow.lt h g rfl).2,fun i p hp=>?_⟩,(fun e=>by cases e),h3⟩
   obtain ⟨c1,c2,c3⟩:=cellsT_at l i p hp
   have k1:=World.ownsRow.cells h rfl (i * 3) _ c1
   have k2:=World.ownsRow.cells h rfl (i * 3+1) _ c2
   have k3:=World.ownsRow.cells h rfl (i * 3+2) _ c3
   have e:∀ j,(⟨g,0,none⟩:Addr).add j=⟨g,0+j,none⟩:=fun j=>by unfold Addr.add;split <;> simp_all
   rw [e] at k1 k2 k3
   exact ⟨k1,by rw [Nat.add_assoc];exact k2,by rw [Nat.add_assoc];exact k3⟩
theorem OwnTL.end_ {w w':World} {v:Value} {l:TL} (h:OwnTL w' w.heap.size v l) (hB:Below w.heap.size w w'):TripsOut l w (.returned v) w':=by
 obtain ⟨ao,cap,rfl,h1,h2,h3⟩:=h.tripAt
 exact ⟨ao,cap,rfl,h1,h2,h3,hB⟩
theorem lit_cell3 (w:World) (a b c:Value) (T:TypeId):∀ (j:Nat) u,[a,b,c][j]?=some u→(w.alloc (.cells #[a,b,c] T)).cell? ((⟨w.heap.size,0,none⟩:Addr).add j)=some u:=fun j u hj=>by
 rw [cell_row (World.alloc_heap_new w _)]
 match j,hj with
 | 0,hj=>simp at hj;subst hj;rfl
 | 1,hj=>simp at hj;subst hj;rfl
 | 2,hj=>simp at hj;subst hj;rfl
theorem filt_next {p:T3→Bool} {xs:TL} {k:Nat} {x:T3} (hx:xs[k]?=some x):(xs.take (k+1)).filter p=(xs.take k).filter p ++ if p x then [x] else []:=by
 obtain ⟨hk,e⟩:=List.getElem?_eq_some_iff.1 hx
 rw [List.take_succ_eq_append_getElem hk,e,List.filter_append,List.filter_cons]
 simp
theorem filt_le (p:T3→Bool) (xs:TL) (k:Nat):((xs.take k).filter p).length≤k:=Nat.le_trans (List.length_filter_le _ _) (List.length_take_le _ _)
theorem rbetter_any (c d:T3) (w:World) :
 Calls Tryz.prog 108 #[.agg #[.int .i64 c.1,.int .i64 c.2.1,.int .i64 c.2.2],.agg #[.int .i64 d.1,.int .i64 d.2.1,.int .i64 d.2.2]] w fun e w'=>e=.returned (.bool (betterT c d))∧Below w.heap.size w w':=by
 obtain ⟨c1,c2,c3⟩:=c
 obtain ⟨d1,d2,d3⟩:=d
 have E1:Hid (¬ c3=d3→betterT (c1,c2,c3) (d1,d2,d3)=decide (d3 < c3)):=Lib.hid (fun h=>by simp [betterT,h])
 have E2:Hid (c3=d3→¬ c1=d1→betterT (c1,c2,c3) (d1,d2,d3)=decide (c1 < d1)):=Lib.hid (fun h k=>by simp [betterT,h,k])
 have E3:Hid (c3=d3→c1=d1→betterT (c1,c2,c3) (d1,d2,d3)=decide (c2 < d2)):=Lib.hid (fun h k=>by simp [betterT,h,k])
 generalize betterT (c1,c2,c3) (d1,d2,d3)=t at E1 E2 E3 ⊢
 dsimp only
 obtain ⟨V,HV⟩:∃ V,Hid (V=(w.alloc (.cells #[.int .i64 c1,.int .i64 c2,.int .i64 c3] 73)).alloc (.cells #[.int .i64 d1,.int .i64 d2,.int .i64 d3] 73)):=⟨_,Lib.hid rfl⟩
 have hB:Below w.heap.size w V:=by rw [HV.out];exact two_below _ _ _
 have hA:V.heap[w.heap.size]?=some (.cells #[.int .i64 c1,.int .i64 c2,.int .i64 c3] 73 (0,0)):=by rw [HV.out];exact (two_new _ _ _).2.1
 have hD:V.heap[w.heap.size+1]?=some (.cells #[.int .i64 d1,.int .i64 d2,.int .i64 d3] 73 (0,0)):=by rw [HV.out];exact (two_new _ _ _).2.2
 have a0:V.cell? ⟨w.heap.size,0,none⟩=some (.int .i64 c1):=(Lib.cell_of_heap hA 0).trans rfl
 have a1:V.cell? ⟨w.heap.size,1,none⟩=some (.int .i64 c2):=(Lib.cell_of_heap hA 1).trans rfl
 have a2:V.cell? ⟨w.heap.size,2,none⟩=some (.int .i64 c3):=(Lib.cell_of_heap hA 2).trans rfl
 have b0:V.cell? ⟨w.heap.size+1,0,none⟩=some (.int .i64 d1):=(Lib.cell_of_heap hD 0).trans rfl
 have b1:V.cell? ⟨w.heap.size+1,1,none⟩=some (.int .i64 d2):=(Lib.cell_of_heap hD 1).trans rfl
 have b2:V.cell? ⟨w.heap.size+1,2,none⟩=some (.int .i64 d3):=(Lib.cell_of_heap hD 2).trans rfl
 have HB:=Lib.hid hB
 clear hA hD hB
 by_cases h1:c3=d3
 · subst h1
   by_cases h2:c1=d1
   · subst h2
     have E:=Lib.hid (E3.out rfl rfl)
     clear E1 E2 E3
     go_enter Tryz.func108,Tryz.ntmps108
     go_upto_region 1 with fail
     rw [← HV.out]
     go_wp2_with fail
     go_ret
     exact ⟨by rw [E.out];rfl,HB.out⟩
   · have E:=Lib.hid (E2.out rfl h2)
     clear E1 E2 E3
     go_enter Tryz.func108,Tryz.ntmps108
     go_upto_region 1 with fail
     rw [← HV.out]
     go_wp2_with fail
     go_ret
     exact ⟨by rw [E.out];rfl,HB.out⟩
 · have E:=Lib.hid (E1.out h1)
   clear E1 E2 E3
   go_enter Tryz.func108,Tryz.ntmps108
   go_upto_region 1 with fail
   rw [← HV.out]
   go_wp2_with fail
   go_ret
   exact ⟨by rw [E.out];rfl,HB.out⟩
theorem rfree_any (ao:Option Addr) (cap:Nat) (xs:TL) (w:World) (hn:xs.length≤1073741824) (hR:TripAt w ao xs) :
 Calls Tryz.prog 107 #[.slice ao xs.length cap] w (TripsOut (freeT xs) w):=by
 have hinfo:(Tryz.prog.info? 73).map (fun i=>(i.zero,i.size,i.bytes))=some (some (.agg #[.int .i64 0,.int .i64 0,.int .i64 0]),3,24):=by kernel_rfl
 obtain ⟨i0,hi,hz0,hz1,hz2⟩:=info_parts3 hinfo
 have HI:=Lib.hid hi
 have HRo:=Lib.hid hR
 obtain ⟨O,HQ⟩:∃ O:Nat→TL,Hid (O=fun k=>freeT (xs.take k)):=⟨_,Lib.hid rfl⟩
 have HNy:Hid (∀ (k:Nat) x,xs[k]?=some x→0≤x.1→0≤x.2.1→O (k+1)=O k ++ [x]):=Lib.hid (fun k x hx h1 h2=>by rw [HQ.out];show freeT _=freeT _ ++ _;unfold freeT;rw [filt_next hx];simp [h1,h2])
 have HNn:Hid (∀ (k:Nat) x,xs[k]?=some x→¬ (0≤x.1∧0≤x.2.1)→O (k+1)=O k):=Lib.hid (fun k x hx h=>by
  have e:(decide (0≤x.1) && decide (0≤x.2.1))=false:=by rw [← Bool.decide_and];exact decide_eq_false h
  rw [HQ.out];show freeT _=freeT _;unfold freeT;rw [filt_next hx,e];simp)
 have HLe:Hid (∀ k,(O k).length≤k):=Lib.hid (fun k=>by rw [HQ.out];exact filt_le _ _ _)
 have HZ:Hid (O 0=[]):=Lib.hid (by rw [HQ.out];rfl)
 rw [show freeT xs=O xs.length from by rw [HQ.out];simp]
 have hL0:(O 0).length=0:=by rw [HZ.out];rfl
 have HT:Hid (OwnTL w w.heap.size (.slice none 0 0) (O 0)):=Lib.hid (by rw [HZ.out];exact World.ownsRow_nil _ _ _ _)
 clear hi hinfo hR
 go_enter Tryz.func107,Tryz.ntmps107
 go_wp2_with fail
 go_loopw [3,4] (fun v i wr=>∃ (k q cp:Nat) (go:Option Addr),k≤xs.length∧i=.int .i64 k∧v=.slice go q cp∧Hid (q=(O k).length)∧Hid (Below w.heap.size w wr)∧Hid (OwnTL wr w.heap.size (.slice go q cp) (O k))) (fun _ i _=>xs.length - (intOf i).toNat)
 case atStart=>exact ⟨0,0,0,none,Nat.zero_le _,rfl,rfl,Lib.hid hL0.symm,Lib.hid (Below.refl _ _),HT⟩
 case round =>
  obtain ⟨k,q,cp,go,hk,rfl,rfl,HQ2,HB,HT⟩:=hrel
  by_cases hlt:k < xs.length
  · obtain ⟨⟨x1,x2,x3⟩,hx⟩:∃ x,xs[k]?=some x:=⟨_,List.getElem?_eq_getElem hlt⟩
    rcases (HRo.out.kept HB.out) with h0 | ⟨b,o,rfl,hA,hcell⟩
    · rw [h0] at hlt;simp at hlt
    obtain ⟨hc1,hc2,hc3⟩:=hcell k _ hx
    have HS1:=Lib.hid (HNy.out k _ hx)
    have HS2:=Lib.hid (HNn.out k _ hx)
    dsimp only at hc1 hc2 hc3 HS1 HS2
    clear hcell hx
    by_cases h1:0≤x1
    · by_cases h2:0≤x2
      · have hq:q≤k:=by rw [HQ2.out];exact HLe.out k
        have HST:=Lib.hid (HS1.out h1 h2)
        have HTO:Hid (wr.ownsRow w.heap.size 73 3 (.slice go q cp) q (cellsT (O k))):=Lib.hid (by have:=HT.out;unfold OwnTL at this;rw [← HQ2.out] at this;exact this)
        have HT1:=Lib.hid (HTO.out.alloc (.cells #[Value.int .i64 x1,Value.int .i64 x2,Value.int .i64 x3] 73))
        have hws:=HB.out.size
        have hbs:w.heap.size≤(wr.alloc (.cells #[Value.int .i64 x1,Value.int .i64 x2,Value.int .i64 x3] 73)).heap.size:=by simp;omega
        clear HS1 HS2
        go_wp2_with (at_builtin;refine wpList_append_own _ rfl _ _ 68 rfl w.heap.size 73 i0 (.agg #[.int .i64 0,.int .i64 0,.int .i64 0]) 3 24 Tryz.underlying68 HI.out hz0 hz1 hz2 rfl (by decide) _ _ _ rfl HT1.out ⟨wr.heap.size,0,none⟩ 1 1 [Value.int .i64 x1,Value.int .i64 x2,Value.int .i64 x3] rfl rfl (lit_cell3 wr _ _ _ _) (fun u hu=>by simp at hu;rcases hu with rfl | rfl | rfl <;> rfl) (by unfold maxLen;omega) (by omega) hbs ?_)
        intro v' w3 hown' hgrow _
        obtain ⟨g,gc,rfl⟩:=ownsRow_succ hown'
        have HB3:=Lib.hid ((HB.out.alloc HB.out.size (.cells #[Value.int .i64 x1,Value.int .i64 x2,Value.int .i64 x3] 73)).grown hgrow hbs (fun j h=>(HTO.out.lt j h).1))
        have HQ3:Hid (q+1=(O (k+1)).length):=Lib.hid (by rw [HST.out,List.length_append,← HQ2.out];rfl)
        have HT3:Hid (OwnTL w3 w.heap.size (.slice (some ⟨g,0,none⟩) (q+1) gc) (O (k+1))):=Lib.hid (by unfold OwnTL;rw [← HQ3.out,HST.out,cellsT_app];exact hown')
        clear hown' hgrow hbs
        go_wp2_with fail
        go_roundw
        case rel=>exact ⟨k+1,q+1,gc,_,by omega,by go_num,rfl,HQ3,HB3,HT3⟩
        case measure=>simp [intOf];omega
      · have hstep:=HS2.out (fun h=>h2 h.2)
        have HT2:Hid (OwnTL wr w.heap.size (.slice go q cp) (O (k+1))):=Lib.hid (by rw [hstep];exact HT.out)
        have HQ3:Hid (q=(O (k+1)).length):=Lib.hid (by rw [hstep];exact HQ2.out)
        clear hstep HS1 HS2
        go_wp2_with fail
        go_roundw
        case rel=>exact ⟨k+1,q,cp,go,by omega,by go_num,rfl,HQ3,HB,HT2⟩
        case measure=>simp [intOf];omega
    · have hstep:=HS2.out (fun h=>h1 h.1)
      have HT2:Hid (OwnTL wr w.heap.size (.slice go q cp) (O (k+1))):=Lib.hid (by rw [hstep];exact HT.out)
      have HQ3:Hid (q=(O (k+1)).length):=Lib.hid (by rw [hstep];exact HQ2.out)
      clear hstep HS1 HS2
      go_wp2_with fail
      go_roundw
      case rel=>exact ⟨k+1,q,cp,go,by omega,by go_num,rfl,HQ3,HB,HT2⟩
      case measure=>simp [intOf];omega
  · obtain rfl:k=xs.length:=by omega
    have HE:=Lib.hid (OwnTL.end_ HT.out HB.out)
    clear HT
    go_wp2_with fail
    go_ret
    exact HE.out
theorem rwithout_any (ao:Option Addr) (cap:Nat) (xs:TL) (z:T3) (w:World) (hn:xs.length≤1073741824) (hR:TripAt w ao xs) :
 Calls Tryz.prog 109 #[.slice ao xs.length cap,.agg #[.int .i64 z.1,.int .i64 z.2.1,.int .i64 z.2.2]] w (TripsOut (withoutT xs z) w):=by
 have hinfo:(Tryz.prog.info? 73).map (fun i=>(i.zero,i.size,i.bytes))=some (some (.agg #[.int .i64 0,.int .i64 0,.int .i64 0]),3,24):=by kernel_rfl
 obtain ⟨i0,hi,hz0,hz1,hz2⟩:=info_parts3 hinfo
 obtain ⟨z1,z2,z3⟩:=z
 have HI:=Lib.hid hi
 obtain ⟨O,HQ⟩:∃ O:Nat→TL,Hid (O=fun k=>withoutT (xs.take k) (z1,z2,z3)):=⟨_,Lib.hid rfl⟩
 have HNy:Hid (∀ (k:Nat) x,xs[k]?=some x→¬ x.1=z1→¬ x.2.1=z2→O (k+1)=O k ++ [x]):=Lib.hid (fun k x hx h1 h2=>by rw [HQ.out];show withoutT _ _=withoutT _ _ ++ _;unfold withoutT;rw [filt_next hx];simp [h1,h2])
 have HNn:Hid (∀ (k:Nat) x,xs[k]?=some x→(x.1=z1∨x.2.1=z2)→O (k+1)=O k):=Lib.hid (fun k x hx h=>by
  have e:(decide (x.1 ≠ z1) && decide (x.2.1 ≠ z2))=false:=by rw [← Bool.decide_and];exact decide_eq_false (fun g=>h.elim g.1 g.2)
  rw [HQ.out];show withoutT _ _=withoutT _ _;unfold withoutT;rw [filt_next hx];dsimp only;rw [e];simp)
 have HLe:Hid (∀ k,(O k).length≤k):=Lib.hid (fun k=>by rw [HQ.out];exact filt_le _ _ _)
 have HZ:Hid (O 0=[]):=Lib.hid (by rw [HQ.out];rfl)
 rw [show withoutT xs (z1,z2,z3)=O xs.length from by rw [HQ.out];simp]
 have hL0:(O 0).length=0:=by rw [HZ.out];rfl
 dsimp only
 obtain ⟨V,HV⟩:∃ V,Hid (V=w.alloc (.cells #[.int .i64 z1,.int .i64 z2,.int .i64 z3] 73)):=⟨_,Lib.hid rfl⟩
 have hVh:V.heap[w.heap.size]?=some (.cells #[.int .i64 z1,.int .i64 z2,.int .i64 z3] 73 (0,0)):=by rw [HV.out];exact World.alloc_heap_new _ _
 have HVh:=Lib.hid hVh
 have hVB:Below w.heap.size w V:=by rw [HV.out];exact (Below.refl _ w).alloc (Nat.le_refl _) _
 have HVB:=Lib.hid hVB
 have HRo:=Lib.hid (hR.kept hVB)
 have HBox:Hid (∀ W,Below V.heap.size V W→W.cell? ⟨w.heap.size,0,none⟩=some (.int .i64 z1)∧W.cell? ⟨w.heap.size,1,none⟩=some (.int .i64 z2)):=Lib.hid (fun W h=>by
  have:=(h.block _ (lt_of_heap HVh.out)).trans HVh.out
  exact ⟨(Lib.cell_of_heap this 0).trans rfl,(Lib.cell_of_heap this 1).trans rfl⟩)
 have HT:Hid (OwnTL V V.heap.size (.slice none 0 0) (O 0)):=Lib.hid (by rw [HZ.out];exact World.ownsRow_nil _ _ _ _)
 clear hi hinfo hR hVh hVB
 go_enter Tryz.func109,Tryz.ntmps109
 go_upto_region 1 with fail
 rw [← HV.out]
 go_wp2_with fail
 go_loopw [5,6] (fun v i wr=>∃ (k q cp:Nat) (go:Option Addr),k≤xs.length∧i=.int .i64 k∧v=.slice go q cp∧Hid (q=(O k).length)∧Hid (Below V.heap.size V wr)∧Hid (OwnTL wr V.heap.size (.slice go q cp) (O k))) (fun _ i _=>xs.length - (intOf i).toNat)
 case atStart=>exact ⟨0,0,0,none,Nat.zero_le _,rfl,rfl,Lib.hid hL0.symm,Lib.hid (Below.refl _ _),HT⟩
 case round =>
  obtain ⟨k,q,cp,go,hk,rfl,rfl,HQ2,HB,HT⟩:=hrel
  by_cases hlt:k < xs.length
  · obtain ⟨⟨x1,x2,x3⟩,hx⟩:∃ x,xs[k]?=some x:=⟨_,List.getElem?_eq_getElem hlt⟩
    obtain ⟨y0,y1⟩:=HBox.out wr HB.out
    rcases (HRo.out.kept HB.out) with h0 | ⟨b,o,rfl,hA,hcell⟩
    · rw [h0] at hlt;simp at hlt
    obtain ⟨hc1,hc2,hc3⟩:=hcell k _ hx
    have HS1:=Lib.hid (HNy.out k _ hx)
    have HS2:=Lib.hid (HNn.out k _ hx)
    dsimp only at hc1 hc2 hc3 HS1 HS2
    clear hcell hx
    by_cases h1:x1=z1
    · have hstep:=HS2.out (.inl h1)
      have HT2:Hid (OwnTL wr V.heap.size (.slice go q cp) (O (k+1))):=Lib.hid (by rw [hstep];exact HT.out)
      have HQ3:Hid (q=(O (k+1)).length):=Lib.hid (by rw [hstep];exact HQ2.out)
      subst h1
      clear hstep HS1 HS2
      go_upto_region 5 with fail
      go_quiet (fail)
      have HB2:Hid (Below V.heap.size V (wr.drewN nq)):=Lib.hid (bdn HB.out)
      have HT4:Hid (OwnTL (wr.drewN nq) V.heap.size (.slice go q cp) (O (k+1))):=Lib.hid (ownsRowP_below HT2.out (bdn (Below.refl _ _)))
      go_wp2_with fail
      go_roundw
      case rel=>exact ⟨k+1,q,cp,go,by omega,by go_num,rfl,HQ3,HB2,HT4⟩
      case measure=>simp [intOf];omega
    · by_cases h2:x2=z2
      · have hstep:=HS2.out (.inr h2)
        have HT2:Hid (OwnTL wr V.heap.size (.slice go q cp) (O (k+1))):=Lib.hid (by rw [hstep];exact HT.out)
        have HQ3:Hid (q=(O (k+1)).length):=Lib.hid (by rw [hstep];exact HQ2.out)
        subst h2
        clear hstep HS1 HS2
        go_upto_region 5 with fail
        go_quiet (fail)
        have HB2:Hid (Below V.heap.size V (wr.drewN nq)):=Lib.hid (bdn HB.out)
        have HT4:Hid (OwnTL (wr.drewN nq) V.heap.size (.slice go q cp) (O (k+1))):=Lib.hid (ownsRowP_below HT2.out (bdn (Below.refl _ _)))
        go_wp2_with fail
        go_roundw
        case rel=>exact ⟨k+1,q,cp,go,by omega,by go_num,rfl,HQ3,HB2,HT4⟩
        case measure=>simp [intOf];omega
      · have hq:q≤k:=by rw [HQ2.out];exact HLe.out k
        have HST:=Lib.hid (HS1.out h1 h2)
        have e1:(x1 != z1)=true:=by simp [h1]
        have e2:(x2 != z2)=true:=by simp [h2]
        clear HS1 HS2
        go_upto_region 5 with fail
        go_quiet (fail)
        obtain ⟨wq,hwq⟩:∃ wq,wq=wr.drewN nq:=⟨_,rfl⟩
        have bq:Below wr.heap.size wr wq:=by rw [hwq];exact bdn (Below.refl _ _)
        have HB2:Hid (Below V.heap.size V wq):=Lib.hid (below_up HB.out bq)
        have HTO:Hid (wq.ownsRow V.heap.size 73 3 (.slice go q cp) q (cellsT (O k))):=Lib.hid (by have:=ownsRowP_below HT.out bq;rw [← HQ2.out] at this;exact this)
        have d1:wq.cell? ⟨b,o+k * 3,none⟩=some (.int .i64 x1):=(bq.cell (p:=⟨b,o+k * 3,none⟩) hA).trans hc1
        have d2:wq.cell? ⟨b,o+k * 3+1,none⟩=some (.int .i64 x2):=(bq.cell (p:=⟨b,o+k * 3+1,none⟩) hA).trans hc2
        have d3:wq.cell? ⟨b,o+k * 3+2,none⟩=some (.int .i64 x3):=(bq.cell (p:=⟨b,o+k * 3+2,none⟩) hA).trans hc3
        rw [← hwq]
        have HT1:=Lib.hid (HTO.out.alloc (.cells #[Value.int .i64 x1,Value.int .i64 x2,Value.int .i64 x3] 73))
        have hws:=HB2.out.size
        have hbs:V.heap.size≤(wq.alloc (.cells #[Value.int .i64 x1,Value.int .i64 x2,Value.int .i64 x3] 73)).heap.size:=by simp;omega
        clear hc1 hc2 hc3 y0 y1 bq hwq hA
        go_wp2_with (at_builtin;refine wpList_append_own _ rfl _ _ 68 rfl V.heap.size 73 i0 (.agg #[.int .i64 0,.int .i64 0,.int .i64 0]) 3 24 Tryz.underlying68 HI.out hz0 hz1 hz2 rfl (by decide) _ _ _ rfl HT1.out ⟨wq.heap.size,0,none⟩ 1 1 [Value.int .i64 x1,Value.int .i64 x2,Value.int .i64 x3] rfl rfl (lit_cell3 wq _ _ _ _) (fun u hu=>by simp at hu;rcases hu with rfl | rfl | rfl <;> rfl) (by unfold maxLen;omega) (by omega) hbs ?_)
        intro v' w3 hown' hgrow _
        obtain ⟨g,gc,rfl⟩:=ownsRow_succ hown'
        have HB3:=Lib.hid ((HB2.out.alloc HB2.out.size (.cells #[Value.int .i64 x1,Value.int .i64 x2,Value.int .i64 x3] 73)).grown hgrow hbs (fun j h=>(HTO.out.lt j h).1))
        have HQ3:Hid (q+1=(O (k+1)).length):=Lib.hid (by rw [HST.out,List.length_append,← HQ2.out];rfl)
        have HT3:Hid (OwnTL w3 V.heap.size (.slice (some ⟨g,0,none⟩) (q+1) gc) (O (k+1))):=Lib.hid (by unfold OwnTL;rw [← HQ3.out,HST.out,cellsT_app];exact hown')
        clear hown' hgrow hbs d1 d2 d3
        go_wp2_with fail
        go_roundw
        case rel=>exact ⟨k+1,q+1,gc,_,by omega,by go_num,rfl,HQ3,HB3,HT3⟩
        case measure=>simp [intOf];omega
  · obtain rfl:k=xs.length:=by omega
    have HE:=Lib.hid (OwnTL.end_ (show OwnTL wr w.heap.size _ _ from World.ownsRow.mono HT.out HVB.out.size) (below_up HVB.out HB.out))
    clear HT
    go_wp2_with fail
    go_ret
    exact HE.out
end
section
open Go.RowKit Go.Shelf
theorem best_next (x:T3) (l:TL) (k:Nat) (y:T3) (h:l[k]?=some y):bestT x (l.take (k+1))=if betterT y (bestT x (l.take k)) then y else bestT x (l.take k):=by
 obtain ⟨hk,e⟩:=List.getElem?_eq_some_iff.1 h
 rw [List.take_succ_eq_append_getElem hk,e,best_snoc]
theorem without_mem {G:TL} {z:T3} (hm:z ∈ G):(withoutT G z).length < G.length:=by
 unfold withoutT
 exact List.length_filter_lt_length_iff_exists.2 ⟨z,hm,by simp⟩
def sliceLen:Value→Nat
 | .slice _ n _=>n
 | _=>0
theorem free_len (l:TL):(freeT l).length≤l.length:=List.length_filter_le _ _
theorem putB_cons (L:PL) (p:Int × Int):putB L p ≠ []:=fun h=>by have:=putB_len L p;rw [h] at this;simp at this
theorem rpick_any (ao:Option Addr) (cap:Nat) (xs:TL) (w:World) (hn:xs.length≤536870912) (hR:TripAt w ao xs) :
 Calls Tryz.prog 54 #[.slice ao xs.length cap] w (PairsOut (pickL xs) w):=by
 have C1:=Lib.hid (rfree_any ao cap xs w (by omega) hR)
 have CP:=Lib.hid (fun lo lc L p1 p2 W h1 h2 h3 h4 h5=>rput_any lo lc L p1 p2 W h1 h2 h3 h4 h5)
 have CB:=Lib.hid (fun c d W=>rbetter_any c d W)
 have CW:=Lib.hid (fun ao cap ys z W h1 h2=>rwithout_any ao cap ys z W h1 h2)
 have HP:Hid (pickL xs=sortB (refT xs.length (freeT xs))):=Lib.hid (pick_ref xs)
 have HFl:=Lib.hid (free_len xs)
 obtain ⟨F,hF⟩:∃ F,F=freeT xs:=⟨_,rfl⟩
 rw [← hF] at C1 HP HFl
 have H0:Hid (refT xs.length F=[] ++ refT xs.length F):=Lib.hid rfl
 obtain ⟨T,hT⟩:∃ T,T=refT xs.length F:=⟨_,rfl⟩
 have HT0:=Lib.hid hT
 rw [← hT] at HP
 generalize pickL xs=R at HP ⊢
 clear hR hF hT
 go_enter Tryz.func54,Tryz.ntmps54
 go_wp2_with fail
 refine C1.out.mono ?_;rintro e w1 ⟨fo,fc,rfl,hfa,hfn,hfl,hb1⟩
 have HI:Hid (∃ t:PL,T=t ++ refT xs.length F∧sortB t=[]∧t.length+F.length≤xs.length):=Lib.hid ⟨[],by rw [HT0.out];rfl,rfl,by simpa using HFl.out⟩
 have HF1:=Lib.hid hfa
 have HB1:=Lib.hid hb1
 have HFn:=Lib.hid hfn
 have HFc:=Lib.hid hfl
 clear hfa hb1 hfn hfl C1
 go_wp2_with fail
 go_loopw [3,4] (fun v u wr=>∃ (lo fo:Option Addr) (lc fc:Nat) (L:PL) (G:TL),v=.slice lo L.length lc∧u=.slice fo G.length fc∧G.length≤xs.length∧Hid (L.length≤lc∧(lo=none→lc=0)∧(L=[]→lo=none))∧Hid (∃ t:PL,T=t ++ refT xs.length G∧sortB t=L∧t.length+G.length≤xs.length)∧Hid (PairsAt wr lo L)∧Hid (TripAt wr fo G)∧Hid (Below w.heap.size w wr)) (fun _ u _=>sliceLen u)
 case atStart=>exact ⟨none,fo,0,fc,[],F,rfl,rfl,HFl.out,Lib.hid ⟨Nat.le_refl _,fun _=>rfl,fun _=>rfl⟩,HI,Lib.hid (.inl rfl),HF1,HB1⟩
 case round =>
  clear HI HF1 HB1 HFn HFc HFl
  obtain ⟨lo,go,lc,gc,L,G,rfl,rfl,hGn,HC,HI,HPA,HTA,HB⟩:=hrel
  have hws:=HB.out.size
  cases G with
  | nil =>
   have HE:Hid (PairsOut R w (.returned (.slice lo L.length lc)) wr):=Lib.hid (by
    obtain ⟨t,h1,h2,_⟩:=HI.out
    rw [ref_none,List.append_nil] at h1
    have e:R=L:=by rw [HP.out,h1,h2]
    rw [e]
    exact ⟨lo,lc,rfl,HPA.out,HC.out.2.1,HC.out.1,HB.out⟩)
   clear HC HI HPA HTA HP HT0 H0
   go_wp2_with fail
   go_ret
   exact HE.out
  | cons x0 G' =>
   obtain ⟨n,hn9⟩:∃ n,n=(x0 :: G').length:=⟨_,rfl⟩
   obtain ⟨G,hG⟩:∃ G,G=x0 :: G':=⟨_,rfl⟩
   have HGl:Hid (G.length=n):=Lib.hid (by rw [hG,hn9])
   have HGt:Hid (∀ j:Nat,G[j+1]?=G'[j]?):=Lib.hid (fun j=>by rw [hG];rfl)
   have HG'l:Hid (G'.length+1=n):=Lib.hid (by rw [hn9];rfl)
   have HStep:Hid (∀ (q:Nat) (b:T3),G[q]?=some b→b=bestT x0 G'→∃ t:PL,T=t ++ refT xs.length (withoutT G b)∧sortB t=putB L (b.1,b.2.1)∧t.length+(withoutT G b).length≤xs.length):=Lib.hid (fun q b _ hb=>by
    obtain ⟨t,h1,h2,h3⟩:=HI.out
    have hw:=without_less x0 G'
    rw [← hG,← hb] at hw
    obtain ⟨m,hm⟩:∃ m,xs.length=m+1:=⟨xs.length - 1,by simp at h3;omega⟩
    have h4:refT (m+1) (x0 :: G')=(b.1,b.2.1) :: refT m (withoutT G b):=by rw [refT,← hb,hG]
    have hlm:(withoutT G b).length≤m:=by simp at h3;omega
    refine ⟨t ++ [(b.1,b.2.1)],?_,?_,?_⟩
    · rw [h1,hm,h4,ref_more m (m+1) _ hlm (Nat.le_succ m)];simp
    · rw [sortB_snoc,h2]
    · rw [List.length_append];simp at h3 ⊢;omega)
   have HLb:Hid (L.length+n≤xs.length):=Lib.hid (by
    obtain ⟨t,_,h2,h3⟩:=HI.out
    rw [← h2,sortB_len,hn9];exact h3)
   have HG0:Hid (G[0]?=some (bestT x0 (G'.take 0))):=Lib.hid (by rw [hG];rfl)
   have hn0:0 < n:=by rw [hn9];simp
   have hnx:n≤xs.length:=by rw [hn9];exact hGn
   rw [← hG] at HTA
   rw [← hn9]
   have HNx:=Lib.hid (best_next x0 G')
   have HAll:Hid (bestT x0 (G'.take (n - 1))=bestT x0 G'):=Lib.hid (by rw [List.take_of_length_le (by have:=HG'l.out;omega)])
   clear hn9 hG HI hGn H0 HT0
   obtain ⟨b,o,hgo,hA,hcell⟩:∃ b o,go=some ⟨b,o,none⟩∧b < wr.heap.size∧∀ (i:Nat) c,G[i]?=some c→wr.cell? ⟨b,o+i * 3,none⟩=some (.int .i64 c.1)∧wr.cell? ⟨b,o+i * 3+1,none⟩=some (.int .i64 c.2.1)∧wr.cell? ⟨b,o+i * 3+2,none⟩=some (.int .i64 c.2.2):=by
    rcases HTA.out with h | h
    · have:=HGl.out;rw [h] at this;simp at this;omega
    · exact h
   subst hgo
   have HCell:=Lib.hid hcell
   have HA:=Lib.hid hA
   clear hcell hA
   go_wp2_with fail
   obtain ⟨wo,rfl⟩:∃ wo:World,wo=wr:=⟨_,rfl⟩
   go_loopw [5,6] (fun u v wr=>∃ (q k j:Nat),k≤n∧q < n∧u=.int .i64 q∧v=.int .i64 k∧Hid (k=j+1)∧Hid (G[q]?=some (bestT x0 (G'.take j)))∧Hid (Below wo.heap.size wo wr)) (fun _ v _=>n - (intOf v).toNat)
   case atStart=>exact ⟨0,1,0,hn0,hn0,rfl,rfl,Lib.hid rfl,HG0,Lib.hid (Below.refl _ _)⟩
   case round =>
    obtain ⟨q,k,j,hk,hq,rfl,rfl,HK,HGq,HBo⟩:=hrel
    have HAr:Hid (b < wr.heap.size):=Lib.hid (Nat.lt_of_lt_of_le HA.out HBo.out.size)
    have HCr:Hid (∀ (i:Nat) c,G[i]?=some c→wr.cell? ⟨b,o+i * 3,none⟩=some (.int .i64 c.1)∧wr.cell? ⟨b,o+i * 3+1,none⟩=some (.int .i64 c.2.1)∧wr.cell? ⟨b,o+i * 3+2,none⟩=some (.int .i64 c.2.2)):=Lib.hid (fun i c h=>by
     obtain ⟨h1,h2,h3⟩:=HCell.out i c h
     exact ⟨(HBo.out.cell (p:=⟨b,o+i * 3,none⟩) HA.out).trans h1,(HBo.out.cell (p:=⟨b,o+i * 3+1,none⟩) HA.out).trans h2,(HBo.out.cell (p:=⟨b,o+i * 3+2,none⟩) HA.out).trans h3⟩)
    by_cases hlt:k < n
    · obtain ⟨⟨y1,y2,y3⟩,hy⟩:∃ y,G[k]?=some y:=⟨_,List.getElem?_eq_getElem (by rw [HGl.out];exact hlt)⟩
      obtain ⟨⟨z1,z2,z3⟩,hz⟩:∃ z,z=bestT x0 (G'.take j):=⟨_,rfl⟩
      have hst:=HNx.out j (y1,y2,y3) (by rw [← HGt.out,← HK.out];exact hy)
      obtain ⟨c1,c2,c3⟩:=HCr.out k _ hy
      rw [← hz] at HGq hst
      obtain ⟨d1,d2,d3⟩:=HCr.out q _ HGq.out
      dsimp only at c1 c2 c3 d1 d2 d3
      have C:=Lib.hid (fun W=>CB.out (y1,y2,y3) (z1,z2,z3) W)
      have HY:=Lib.hid hy
      obtain ⟨t,ht⟩:∃ t,betterT (y1,y2,y3) (z1,z2,z3)=t:=⟨_,rfl⟩
      rw [ht] at hst C
      dsimp only at C
      have HZ:=Lib.hid hz
      clear hy hz ht
      cases t with
      | true =>
       have HG2:Hid (G[k]?=some (bestT x0 (G'.take (j+1)))):=Lib.hid (by rw [hst];exact HY.out)
       clear hst
       go_upto_region 8 with fail
       go_still_tail 8,(by kernel_rfl)
       rw [show ({ heap:=wr.heap,tape:=wr.tape,drawn:=wr.drawn+1,os:=wr.os,output:=wr.output }:World)=wr.drew from rfl]
       go_wp2_with fail
       refine (C.out _).mono ?_;rintro e w2 ⟨rfl,b1⟩
       have HB2:=Lib.hid (below_up (show Below wo.heap.size wo wr.drew from bdn (n:=1) HBo.out) b1)
       clear b1 c1 c2 c3 d1 d2 d3 C
       go_wp2_with fail
       go_roundw
       case rel=>exact ⟨k,k+1,j+1,hlt,hlt,rfl,by go_num,Lib.hid (by rw [HK.out]),HG2,HB2⟩
       case measure=>simp [intOf];omega
      | false =>
       have HG2:Hid (G[q]?=some (bestT x0 (G'.take (j+1)))):=Lib.hid (by rw [hst];exact HGq.out)
       clear hst
       go_upto_region 8 with fail
       go_still_tail 8,(by kernel_rfl)
       rw [show ({ heap:=wr.heap,tape:=wr.tape,drawn:=wr.drawn+1,os:=wr.os,output:=wr.output }:World)=wr.drew from rfl]
       go_wp2_with fail
       refine (C.out _).mono ?_;rintro e w2 ⟨rfl,b1⟩
       have HB2:=Lib.hid (below_up (show Below wo.heap.size wo wr.drew from bdn (n:=1) HBo.out) b1)
       clear b1 c1 c2 c3 d1 d2 d3 C
       go_wp2_with fail
       go_roundw
       case rel=>exact ⟨q,k+1,j+1,hlt,hq,rfl,by go_num,Lib.hid (by rw [HK.out]),HG2,HB2⟩
       case measure=>simp [intOf];omega
    · obtain rfl:k=n:=by omega
      obtain ⟨⟨z1,z2,z3⟩,hz⟩:∃ z,z=bestT x0 G':=⟨_,rfl⟩
      have hGq:G[q]?=some (z1,z2,z3):=by
       have:=HGq.out
       rw [show j=k - 1 from by have:=HK.out;omega,HAll.out,← hz] at this;exact this
      obtain ⟨d1,d2,d3⟩:=HCr.out q _ hGq
      dsimp only at d1 d2 d3
      have HI2:=Lib.hid (HStep.out q _ hGq hz)
      have hlx:L.length≤1073741823:=by have:=HLb.out;omega
      have hLk:k≤1073741824:=by omega
      have HBr:Hid (Below w.heap.size w wr.drew):=Lib.hid (bdn (n:=1) (below_up HB.out HBo.out))
      have HPr:Hid (PairsAt wr.drew lo L):=Lib.hid (HPA.out.kept (bdn (n:=1) HBo.out))
      have CPr:=Lib.hid (CP.out lo lc L z1 z2 wr.drew hlx HC.out.1 HC.out.2.1 HC.out.2.2 HPr.out)
      have HTr:Hid (TripAt wr.drew (some ⟨b,o,none⟩) G):=Lib.hid (.inr ⟨b,o,rfl,HAr.out,HCr.out⟩)
      have HWl:Hid ((withoutT G (z1,z2,z3)).length < k):=Lib.hid (by
       have:=without_mem (List.mem_of_getElem? hGq)
       rw [HGl.out] at this
       exact this)
      have HDr:Hid (wr.drew.cell? ⟨b,o+q * 3,none⟩=some (.int .i64 z1)∧wr.drew.cell? ⟨b,o+q * 3+1,none⟩=some (.int .i64 z2)∧wr.drew.cell? ⟨b,o+q * 3+2,none⟩=some (.int .i64 z3)):=Lib.hid ⟨d1,d2,d3⟩
      clear hz hGq HStep HNx HAll HG0 HGt HCell HC HPA CB
      go_upto_region 10 with fail
      go_still_tail 12,(by kernel_rfl)
      rw [show ({ heap:=wr.heap,tape:=wr.tape,drawn:=wr.drawn+1,os:=wr.os,output:=wr.output }:World)=wr.drew from rfl]
      go_wp2_with fail
      refine CPr.out.mono ?_;rintro e w2 ⟨lo2,lc2,rfl,p1,p2,p3,p4⟩
      have HB2:=Lib.hid (below_up HBr.out p4)
      have HT2:=Lib.hid (HTr.out.kept p4)
      have HP2:=Lib.hid p1
      have HC2:Hid ((putB L (z1,z2)).length≤lc2∧(lo2=none→lc2=0)∧(putB L (z1,z2)=[]→lo2=none)):=Lib.hid ⟨p3,p2,fun h=>absurd h (putB_cons _ _)⟩
      have e1:w2.cell? ⟨b,o+q * 3,none⟩=some (.int .i64 z1):=(p4.cell (p:=⟨b,o+q * 3,none⟩) HAr.out).trans HDr.out.1
      have e2:w2.cell? ⟨b,o+q * 3+1,none⟩=some (.int .i64 z2):=(p4.cell (p:=⟨b,o+q * 3+1,none⟩) HAr.out).trans HDr.out.2.1
      have e3:w2.cell? ⟨b,o+q * 3+2,none⟩=some (.int .i64 z3):=(p4.cell (p:=⟨b,o+q * 3+2,none⟩) HAr.out).trans HDr.out.2.2
      have CWr:=Lib.hid (CW.out (some ⟨b,o,none⟩) gc G (z1,z2,z3) w2 (by rw [HGl.out];exact hLk) HT2.out)
      rw [HGl.out] at CWr
      dsimp only at CWr
      clear p1 p2 p3 p4 d1 d2 d3 CPr HPr HTr HDr
      go_wp2_with fail
      refine CWr.out.mono ?_;rintro e w3 ⟨go2,gc2,rfl,q1,q2,q3,q4⟩
      have HB3:=Lib.hid (below_up HB2.out q4)
      have HP3:=Lib.hid (HP2.out.kept q4)
      have HT3:=Lib.hid q1
      clear q1 q2 q3 q4 e1 e2 e3 CWr
      go_wp2_with fail
      go_roundw
      case rel=>exact ⟨lo2,go2,lc2,gc2,_,_,rfl,rfl,by have:=HWl.out;omega,HC2,HI2,HP3,HT3,HB3⟩
      case measure=>simp [sliceLen];exact HWl.out
end
section
open Go.Shelf
def laysF_ren:Go.Shelf.Ren:=⟨fun | 6=>153 | 15=>104 | 14=>196 | 28=>166 | 29=>167 | 20=>224 | 21=>225 | 22=>226 | 23=>227 | 24=>228 | 25=>229 | 26=>230 | 27=>231 | 46=>268 | 47=>200 | 48=>201 | 49=>269 | 50=>270 | 57=>285 | n=>n,fun | 22=>188 | 24=>191 | 25=>192 | 3=>3 | 39=>142 | 0=>0 | 53=>203 | 55=>205 | 4=>4 | 46=>197 | 45=>196 | 50=>58 | 5=>5 | 9=>9 | 66=>237 | 70=>241 | 76=>273 | 77=>274 | n=>n,fun | n=>n⟩
theorem laysF:Go.Proofs.SlLaysF0.n6 Tryz.prog laysF_ren:={
 mixed:=by kernel_rfl
 f6:=⟨Tryz.f153.name,by decide,Tryz.func153.trans (congrArg some (by kernel_rfl))⟩
 f14:=⟨Tryz.f196.name,by decide,Tryz.func196.trans (congrArg some (by kernel_rfl))⟩
 f15:=Tryz.func104.trans (congrArg some (by kernel_rfl))
 f20:=⟨Tryz.f224.name,by decide,Tryz.func224.trans (congrArg some (by kernel_rfl))⟩
 f21:=⟨Tryz.f225.name,by decide,Tryz.func225.trans (congrArg some (by kernel_rfl))⟩
 f22:=⟨Tryz.f226.name,by decide,Tryz.func226.trans (congrArg some (by kernel_rfl))⟩
 f23:=⟨Tryz.f227.name,by decide,Tryz.func227.trans (congrArg some (by kernel_rfl))⟩
 f24:=⟨Tryz.f228.name,by decide,Tryz.func228.trans (congrArg some (by kernel_rfl))⟩
 f25:=⟨Tryz.f229.name,by decide,Tryz.func229.trans (congrArg some (by kernel_rfl))⟩
 f26:=⟨Tryz.f230.name,by decide,Tryz.func230.trans (congrArg some (by kernel_rfl))⟩
 f27:=⟨Tryz.f231.name,by decide,Tryz.func231.trans (congrArg some (by kernel_rfl))⟩
 f28:=Tryz.func166.trans (congrArg some (by kernel_rfl))
 f29:=Tryz.func167.trans (congrArg some (by kernel_rfl))
 f46:=⟨Tryz.f268.name,by decide,Tryz.func268.trans (congrArg some (by kernel_rfl))⟩
 f47:=Tryz.func200.trans (congrArg some (by kernel_rfl))
 f48:=Tryz.func201.trans (congrArg some (by kernel_rfl))
 f49:=⟨Tryz.f269.name,by decide,Tryz.func269.trans (congrArg some (by kernel_rfl))⟩
 f50:=⟨Tryz.f270.name,by decide,Tryz.func270.trans (congrArg some (by kernel_rfl))⟩
 f57:=⟨Tryz.f285.name,by decide,Tryz.func285.trans (congrArg some (by kernel_rfl))⟩
 t0:=Tryz.underlying0
 a0:=Tryz.isAgg0
 z0:=Tryz.sizeOf0
 v0:=Tryz.zeroValue0
 t3:=Tryz.underlying3
 a3:=Tryz.isAgg3
 z3:=Tryz.sizeOf3
 v3:=Tryz.zeroValue3
 t4:=Tryz.underlying4
 a4:=Tryz.isAgg4
 z4:=Tryz.sizeOf4
 v4:=Tryz.zeroValue4
 t5:=Tryz.underlying5
 a5:=Tryz.isAgg5
 z5:=Tryz.sizeOf5
 v5:=Tryz.zeroValue5
 t9:=Tryz.underlying9
 a9:=Tryz.isAgg9
 z9:=Tryz.sizeOf9
 v9:=Tryz.zeroValue9
 t22:=Tryz.underlying188
 a22:=Tryz.isAgg188
 z22:=Tryz.sizeOf188
 v22:=Tryz.zeroValue188
 t25:=Tryz.underlying192
 a25:=Tryz.isAgg192
 z25:=Tryz.sizeOf192
 v25:=Tryz.zeroValue192
 t39:=Tryz.underlying142
 a39:=Tryz.isAgg142
 z39:=Tryz.sizeOf142
 v39:=Tryz.zeroValue142
 t45:=Tryz.underlying196
 a45:=Tryz.isAgg196
 z45:=Tryz.sizeOf196
 v45:=Tryz.zeroValue196
 t46:=Tryz.underlying197
 a46:=Tryz.isAgg197
 z46:=Tryz.sizeOf197
 v46:=Tryz.zeroValue197
 t50:=Tryz.underlying58
 a50:=Tryz.isAgg58
 z50:=Tryz.sizeOf58
 v50:=Tryz.zeroValue58
 t53:=Tryz.underlying203
 a53:=Tryz.isAgg203
 z53:=Tryz.sizeOf203
 v53:=Tryz.zeroValue203
 t55:=Tryz.underlying205
 a55:=Tryz.isAgg205
 z55:=Tryz.sizeOf205
 v55:=Tryz.zeroValue205
 t66:=Tryz.underlying237
 a66:=Tryz.isAgg237
 z66:=Tryz.sizeOf237
 v66:=Tryz.zeroValue237
 t70:=Tryz.underlying241
 a70:=Tryz.isAgg241
 z70:=Tryz.sizeOf241
 v70:=Tryz.zeroValue241
 t76:=Tryz.underlying273
 a76:=Tryz.isAgg273
 z76:=Tryz.sizeOf273
 v76:=Tryz.zeroValue273
 t77:=Tryz.underlying274
 a77:=Tryz.isAgg274
 z77:=Tryz.sizeOf274
 v77:=Tryz.zeroValue274 }
def laysK_ren:Go.Shelf.Ren:=⟨fun | 7=>102 | 10=>157 | n=>n,fun | 23=>120 | 26=>3 | 3=>3 | 28=>138 | 0=>0 | 27=>137 | 33=>143 | 4=>4 | n=>n,fun | n=>n⟩
theorem laysK:Go.Proofs.SlLaysZI.n7 Tryz.prog laysK_ren:={
 mixed:=by kernel_rfl
 f7:=⟨Tryz.f102.name,by decide,Tryz.func102.trans (congrArg some (by kernel_rfl))⟩
 f10:=⟨Tryz.f157.name,by decide,Tryz.func157.trans (congrArg some (by kernel_rfl))⟩
 t0:=Tryz.underlying0
 a0:=Tryz.isAgg0
 z0:=Tryz.sizeOf0
 v0:=Tryz.zeroValue0
 t4:=Tryz.underlying4
 a4:=Tryz.isAgg4
 z4:=Tryz.sizeOf4
 v4:=Tryz.zeroValue4
 t23:=Tryz.underlying120
 a23:=Tryz.isAgg120
 z23:=Tryz.sizeOf120
 v23:=Tryz.zeroValue120
 t26:=Tryz.underlying3
 a26:=Tryz.isAgg3
 z26:=Tryz.sizeOf3
 v26:=Tryz.zeroValue3
 t27:=Tryz.underlying137
 a27:=Tryz.isAgg137
 z27:=Tryz.sizeOf137
 v27:=Tryz.zeroValue137
 t28:=Tryz.underlying138
 a28:=Tryz.isAgg138
 z28:=Tryz.sizeOf138
 v28:=Tryz.zeroValue138
 t33:=Tryz.underlying143
 a33:=Tryz.isAgg143
 z33:=Tryz.sizeOf143
 v33:=Tryz.zeroValue143 }
def laysS_ren:Go.Shelf.Ren:=⟨fun | 6=>101 | 8=>155 | 9=>156 | 11=>197 | 13=>104 | 12=>198 | 23=>166 | 24=>167 | 14=>232 | 15=>233 | 16=>234 | 17=>235 | 18=>236 | 19=>237 | 20=>238 | 21=>239 | 22=>240 | 25=>271 | 26=>200 | 27=>201 | 28=>272 | 29=>273 | 30=>105 | 31=>286 | n=>n,fun | 26=>3 | 28=>138 | 24=>41 | 0=>0 | 3=>3 | 37=>142 | 48=>203 | 50=>205 | 4=>4 | 40=>197 | 39=>196 | 45=>58 | 5=>5 | 9=>9 | 51=>237 | 55=>241 | 57=>273 | 58=>274 | 33=>143 | n=>n,fun | n=>n⟩
theorem laysS:Go.Proofs.SlLaysZI.n6 Tryz.prog laysS_ren:={
 mixed:=by kernel_rfl
 f6:=⟨Tryz.f101.name,by decide,Tryz.func101.trans (congrArg some (by kernel_rfl))⟩
 f8:=⟨Tryz.f155.name,by decide,Tryz.func155.trans (congrArg some (by kernel_rfl))⟩
 f11:=⟨Tryz.f197.name,by decide,Tryz.func197.trans (congrArg some (by kernel_rfl))⟩
 t0:=Tryz.underlying0
 a0:=Tryz.isAgg0
 z0:=Tryz.sizeOf0
 v0:=Tryz.zeroValue0
 t24:=Tryz.underlying41
 a24:=Tryz.isAgg41
 z24:=Tryz.sizeOf41
 v24:=Tryz.zeroValue41
 t26:=Tryz.underlying3
 a26:=Tryz.isAgg3
 z26:=Tryz.sizeOf3
 v26:=Tryz.zeroValue3
 t28:=Tryz.underlying138
 a28:=Tryz.isAgg138
 z28:=Tryz.sizeOf138
 v28:=Tryz.zeroValue138
 i26:=by kernel_rfl }
def laysOg_ren:Go.Shelf.Ren:=⟨fun | 5=>156 | 8=>104 | 7=>198 | 19=>166 | 20=>167 | 10=>232 | 11=>233 | 12=>234 | 13=>235 | 14=>236 | 15=>237 | 16=>238 | 17=>239 | 18=>240 | 30=>271 | 31=>200 | 32=>201 | 33=>272 | 34=>273 | 35=>105 | 40=>286 | n=>n,fun | 23=>41 | 25=>3 | 3=>3 | 32=>142 | 22=>41 | 0=>0 | 44=>203 | 46=>205 | 4=>4 | 36=>197 | 35=>196 | 41=>58 | 5=>5 | 9=>9 | 53=>237 | 57=>241 | 63=>273 | 64=>274 | n=>n,fun | n=>n⟩
theorem laysOg:Go.Proofs.SlLaysM.n5 Tryz.prog laysOg_ren:={
 mixed:=by kernel_rfl
 f5:=⟨Tryz.f156.name,by decide,Tryz.func156.trans (congrArg some (by kernel_rfl))⟩
 f7:=⟨Tryz.f198.name,by decide,Tryz.func198.trans (congrArg some (by kernel_rfl))⟩
 f8:=Tryz.func104.trans (congrArg some (by kernel_rfl))
 f10:=⟨Tryz.f232.name,by decide,Tryz.func232.trans (congrArg some (by kernel_rfl))⟩
 f11:=⟨Tryz.f233.name,by decide,Tryz.func233.trans (congrArg some (by kernel_rfl))⟩
 f12:=⟨Tryz.f234.name,by decide,Tryz.func234.trans (congrArg some (by kernel_rfl))⟩
 f13:=⟨Tryz.f235.name,by decide,Tryz.func235.trans (congrArg some (by kernel_rfl))⟩
 f14:=⟨Tryz.f236.name,by decide,Tryz.func236.trans (congrArg some (by kernel_rfl))⟩
 f15:=⟨Tryz.f237.name,by decide,Tryz.func237.trans (congrArg some (by kernel_rfl))⟩
 f16:=⟨Tryz.f238.name,by decide,Tryz.func238.trans (congrArg some (by kernel_rfl))⟩
 f17:=⟨Tryz.f239.name,by decide,Tryz.func239.trans (congrArg some (by kernel_rfl))⟩
 f18:=⟨Tryz.f240.name,by decide,Tryz.func240.trans (congrArg some (by kernel_rfl))⟩
 f19:=Tryz.func166.trans (congrArg some (by kernel_rfl))
 f20:=Tryz.func167.trans (congrArg some (by kernel_rfl))
 f30:=⟨Tryz.f271.name,by decide,Tryz.func271.trans (congrArg some (by kernel_rfl))⟩
 f31:=Tryz.func200.trans (congrArg some (by kernel_rfl))
 f32:=Tryz.func201.trans (congrArg some (by kernel_rfl))
 f33:=⟨Tryz.f272.name,by decide,Tryz.func272.trans (congrArg some (by kernel_rfl))⟩
 f34:=⟨Tryz.f273.name,by decide,Tryz.func273.trans (congrArg some (by kernel_rfl))⟩
 f35:=⟨Tryz.f105.name,by decide,Tryz.func105.trans (congrArg some (by kernel_rfl))⟩
 f40:=⟨Tryz.f286.name,by decide,Tryz.func286.trans (congrArg some (by kernel_rfl))⟩
 t0:=Tryz.underlying0
 a0:=Tryz.isAgg0
 z0:=Tryz.sizeOf0
 v0:=Tryz.zeroValue0
 t3:=Tryz.underlying3
 a3:=Tryz.isAgg3
 z3:=Tryz.sizeOf3
 v3:=Tryz.zeroValue3
 t4:=Tryz.underlying4
 a4:=Tryz.isAgg4
 z4:=Tryz.sizeOf4
 v4:=Tryz.zeroValue4
 t5:=Tryz.underlying5
 a5:=Tryz.isAgg5
 z5:=Tryz.sizeOf5
 v5:=Tryz.zeroValue5
 t9:=Tryz.underlying9
 a9:=Tryz.isAgg9
 z9:=Tryz.sizeOf9
 v9:=Tryz.zeroValue9
 t22:=Tryz.underlying41
 a22:=Tryz.isAgg41
 z22:=Tryz.sizeOf41
 v22:=Tryz.zeroValue41
 t23:=Tryz.underlying41
 a23:=Tryz.isAgg41
 z23:=Tryz.sizeOf41
 v23:=Tryz.zeroValue41
 t25:=Tryz.underlying3
 a25:=Tryz.isAgg3
 z25:=Tryz.sizeOf3
 v25:=Tryz.zeroValue3
 t32:=Tryz.underlying142
 a32:=Tryz.isAgg142
 z32:=Tryz.sizeOf142
 v32:=Tryz.zeroValue142
 t35:=Tryz.underlying196
 a35:=Tryz.isAgg196
 z35:=Tryz.sizeOf196
 v35:=Tryz.zeroValue196
 t36:=Tryz.underlying197
 a36:=Tryz.isAgg197
 z36:=Tryz.sizeOf197
 v36:=Tryz.zeroValue197
 t41:=Tryz.underlying58
 a41:=Tryz.isAgg58
 z41:=Tryz.sizeOf58
 v41:=Tryz.zeroValue58
 t44:=Tryz.underlying203
 a44:=Tryz.isAgg203
 z44:=Tryz.sizeOf203
 v44:=Tryz.zeroValue203
 t46:=Tryz.underlying205
 a46:=Tryz.isAgg205
 z46:=Tryz.sizeOf205
 v46:=Tryz.zeroValue205
 t53:=Tryz.underlying237
 a53:=Tryz.isAgg237
 z53:=Tryz.sizeOf237
 v53:=Tryz.zeroValue237
 t57:=Tryz.underlying241
 a57:=Tryz.isAgg241
 z57:=Tryz.sizeOf241
 v57:=Tryz.zeroValue241
 t63:=Tryz.underlying273
 a63:=Tryz.isAgg273
 z63:=Tryz.sizeOf273
 v63:=Tryz.zeroValue273
 t64:=Tryz.underlying274
 a64:=Tryz.isAgg274
 z64:=Tryz.sizeOf274
 v64:=Tryz.zeroValue274 }
end
end Go.Proofs.YtdenehnneloegaaGreatDoor
