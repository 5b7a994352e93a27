/-
  Texts of these rows' proofs, laid one behind the other: CMath, CRef, CRef2.
  Conditions: those of each theorem.
-/
import Derived.Test.YtdenehnneloegaaGreatDoorPa3
import Derived.Test.YtdenehnneloegaaGreatDoorPa2
import Derived.Test.YtdenehnneloegaaGreatDoorPa6
import Derived.Test.YtdenehnneloegaaGreatDoorPa5
import Derived.Test.YtdenehnneloegaaGreatDoorPa22
import Derived.Test.YtdenehnneloegaaGreatDoorPa21
import Derived.Deep.OwnRows
import Derived.Deep.RegionHeld3
import Derived.WalkKit
import Derived.WalkMore
import Derived.IntWalk
import Derived.WalkArith
import Derived.OwnWalk
import Derived.Lib.Hide
import Derived.Test.YtdenehnneloegaaGreatDoorProg
import Derived.Test.YtdenehnneloegaaGreatDoorPa7
import Derived.Test.YtdenehnneloegaaGreatDoorPa8
import Derived.Test.YtdenehnneloegaaGreatDoorPa23
namespace Go.Proofs.YtdenehnneloegaaGreatDoor
set_option linter.unusedVariables false
set_option maxRecDepth 100000
set_option maxHeartbeats 8000000
section
def namedO (ha hb:List ByteArray) (q:Nat):Option (Int × Int):=match hb[q]? with | some s=>if 0≤findL ha s then some (findL ha s,(q:Int)) else none | none=>none
def namedK (ha hb:List ByteArray) (k:Nat):PL:=(List.range k).filterMap (namedO ha hb)
def namedL (ha hb:List ByteArray):PL:=namedK ha hb hb.length
theorem named_next (ha hb:List ByteArray) (k:Nat) (s:ByteArray) (hs:hb[k]?=some s):namedK ha hb (k+1)=if 0≤findL ha s then namedK ha hb k ++ [(findL ha s,(k:Int))] else namedK ha hb k:=by
 unfold namedK
 rw [List.range_succ,List.filterMap_append]
 have e:namedO ha hb k=if 0≤findL ha s then some (findL ha s,(k:Int)) else none:=by unfold namedO;rw [hs]
 by_cases h:0≤findL ha s
 · rw [if_pos h] at e ⊢;simp [e]
 · rw [if_neg h] at e ⊢;simp [e]
theorem named_le (ha hb:List ByteArray) (k:Nat):(namedK ha hb k).length≤k:=by
 unfold namedK;exact Nat.le_trans (List.length_filterMap_le _ _) (by simp)
theorem find_there (hd:List ByteArray) (s:ByteArray) (h:0≤findL hd s):∃ k:Nat,findL hd s=k∧hd[k]?=some s:=by
 unfold findL firstAt at h ⊢
 cases hf:hd.findIdx? (fun c=>decide (c.data.toList=s.data.toList)) with
 | none=>rw [hf] at h;simp at h
 | some i =>
  obtain ⟨hi,h1,_⟩:=List.findIdx?_eq_some_iff_getElem.1 hf
  refine ⟨i,rfl,?_⟩
  rw [List.getElem?_eq_getElem hi]
  exact congrArg some (ba_eq (of_decide_eq_true h1))
def scoreC (ra rb:List (List ByteArray)) (ha hb:List ByteArray) (p q:Int):Nat:=overL (bytesOf (columnT ha ra p)) (bytesOf (columnT hb rb q))
def mayC (ra rb:List (List ByteArray)) (n:Nat):Bool:=decide (ra.length < 2 * n) && decide (rb.length < 2 * n)
def choiceO (ra rb:List (List ByteArray)) (ha hb:List ByteArray) (p q:Int):Option T3:=if mayC ra rb (scoreC ra rb ha hb p q) then some (p,q,(scoreC ra rb ha hb p q:Int)) else none
def choiceRow (ra rb:List (List ByteArray)) (ha hb:List ByteArray) (p:Int) (qs:List Int):TL:=qs.filterMap (choiceO ra rb ha hb p)
def choicesOf (ra rb:List (List ByteArray)) (ha hb:List ByteArray) (ps qs:List Int):TL:=ps.flatMap fun p=>choiceRow ra rb ha hb p qs
def freeA (ha:List ByteArray) (l:PL):List Int:=outOf (l.map Prod.fst) ha.length
def freeB (hb:List ByteArray) (l:PL):List Int:=outOf (l.map Prod.snd) hb.length
def choicesA (ra rb:List (List ByteArray)) (ha hb:List ByteArray):TL:=choicesOf ra rb ha hb (freeA ha (namedL ha hb)) (freeB hb (namedL ha hb))
def alignL (ra rb:List (List ByteArray)) (ha hb:List ByteArray) (rename:Bool):PL:=if rename then (pickL (choicesA ra rb ha hb)).foldl putB (namedL ha hb) else namedL ha hb
theorem out_mem (S:List Int) (n:Nat) (z:Int):z ∈ outOf S n ↔ (0≤z∧z < (n:Int))∧z ∉ S:=by
 unfold outOf
 rw [List.mem_filter,upTo_mem]
 simp
theorem putB_perm (l:PL) (p:Int × Int):(putB l p).Perm (p :: l):=by
 unfold putB
 refine List.perm_middle.trans ?_
 rw [List.take_append_drop]
theorem puts_perm:∀ (m l:PL),(m.foldl putB l).Perm (l ++ m)
 | [],l=>by simp
 | p :: m,l=>by
  rw [List.foldl_cons]
  refine (puts_perm m (putB l p)).trans ?_
  refine ((putB_perm l p).append_right m).trans ?_
  exact (List.perm_middle).symm
def RiseB (l:PL):Prop:=l.Pairwise fun p q=>p.2 < q.2
theorem puts_rise:∀ (m l:PL),RiseB l→(∀ p ∈ m,∀ q ∈ l,q.2 ≠ p.2)→(m.map Prod.snd).Nodup→RiseB (m.foldl putB l)
 | [],l,h,_,_=>h
 | p :: m,l,h,hd,hn=>by
  rw [List.foldl_cons]
  rw [List.map_cons,List.nodup_cons] at hn
  have hs:Sorted l:=h.imp fun h=>by omega
  refine puts_rise m _ ?_ (fun r hr q hq=>?_) hn.2
  · have hp:=putK_ahead p l hs
    unfold RiseB putB
    rw [List.pairwise_append,List.pairwise_cons]
    refine ⟨h.sublist (List.take_sublist _ _),⟨fun q hq=>hp.2 q hq,h.sublist (List.drop_sublist _ _)⟩,fun a ha b hb=>?_⟩
    have h1:=hp.1 a ha
    have h2:=hd p List.mem_cons_self a (List.mem_of_mem_take ha)
    rcases List.mem_cons.1 hb with rfl | hb
    · omega
    · have:=hp.2 b hb;omega
  · rcases List.mem_cons.1 ((putB_perm l p).mem_iff.1 hq) with rfl | hq
    · intro e
      exact hn.1 (List.mem_map.2 ⟨r,hr,e.symm⟩)
    · exact hd r (List.mem_cons_of_mem _ hr) q hq
end
section
open Go.RowKit Go.Shelf Go.Deep
def PairsOutN (l:PL) (w:World) (e:Ending) (w':World):Prop:=∃ ao cap,e=.returned (.slice ao l.length cap)∧PairsAt w' ao l∧(ao=none→cap=0)∧l.length≤cap∧(l=[]→ao=none)∧Below w.heap.size w w'
theorem rnamed_any (ho:Option Addr) (hc:Nat) (ha:List ByteArray) (ro:Option Addr) (m rc:Nat) (bo:Option Addr) (bc:Nat) (hb:List ByteArray) (so:Option Addr) (sn sc:Nat) (w:World) (hn:ha.length≤1099511627776) (hn2:hb.length≤1073741823) (hH:StrRow w ho ha) (hR:StrRow w bo hb) :
 Calls Tryz.prog 78 #[.agg #[.slice ho ha.length hc,.slice ro m rc],.agg #[.slice bo hb.length bc,.slice so sn sc]] w (PairsOutN (namedL ha hb) w):=by
 obtain ⟨W,HW⟩:∃ W,Hid (W=(w.alloc (TabO ho ha.length hc ro m rc)).alloc (TabO bo hb.length bc so sn sc)):=⟨_,Lib.hid rfl⟩
 have hB:Below w.heap.size w W:=by rw [HW.out];exact two_below _ _ _
 have HB0:=Lib.hid hB
 have hN:=two_new w (TabO ho ha.length hc ro m rc) (TabO bo hb.length bc so sn sc)
 rw [← HW.out] at hN
 have box:Hid (∀ V,Below W.heap.size W V→(V.cell? ⟨w.heap.size,0,none⟩=some (.slice ho ha.length hc)∧V.cell? ⟨w.heap.size,1,none⟩=some (.slice ro m rc))∧V.cell? ⟨w.heap.size+1,0,none⟩=some (.slice bo hb.length bc)∧V.cell? ⟨w.heap.size+1,1,none⟩=some (.slice so sn sc)):=Lib.hid (fun V hV=>⟨tabs ((hV.block _ (lt_of_heap hN.2.1)).trans hN.2.1),tabs ((hV.block _ (lt_of_heap hN.2.2)).trans hN.2.2)⟩)
 have HRo:=Lib.hid (hR.kept hB)
 have CF:=Lib.hid (fun V (x:ByteArray) (h:Below W.heap.size W V)=>rfind_any ho hc ha ro m rc x V hn (hH.kept (below_up hB h)))
 obtain ⟨O,HQ⟩:∃ O:Nat→PL,Hid (O=namedK ha hb):=⟨_,Lib.hid rfl⟩
 have HNx:Hid (∀ (k:Nat) x,hb[k]?=some x→O (k+1)=if 0≤findL ha x then O k ++ [(findL ha x,(k:Int))] else O k):=Lib.hid (fun k x h=>by rw [HQ.out];exact named_next ha hb k x h)
 have HLe:Hid (∀ k,(O k).length≤k):=Lib.hid (fun k=>by rw [HQ.out];exact named_le _ _ _)
 have HZ:Hid (O 0=[]):=Lib.hid (by rw [HQ.out];rfl)
 rw [show namedL ha hb=O hb.length from by rw [HQ.out];rfl]
 have hL0:(O 0).length=0:=by rw [HZ.out];rfl
 have HT:Hid (OwnL W W.heap.size (.slice none 0 0) (O 0)):=Lib.hid (by rw [HZ.out];exact World.ownsRow_nil _ _ _ _)
 have hinfo:(Tryz.prog.info? 45).map (fun i=>(i.zero,i.size,i.bytes))=some (some (.agg #[.int .i64 0,.int .i64 0]),2,16):=by kernel_rfl
 obtain ⟨i0,hi,hz0,hz1,hz2⟩:=info_parts2 hinfo
 have HI:=Lib.hid hi
 clear hi hinfo hR hB hN hH
 go_enter Tryz.func78,Tryz.ntmps78
 go_wp2_with fail
 rw [show (w.alloc (Obj.cells #[Value.slice ho ha.length hc,Value.slice ro m rc] 25)).alloc (Obj.cells #[Value.slice bo hb.length bc,Value.slice so sn sc] 25)=W from HW.out.symm]
 go_loopw [5,6] (fun v i wr=>∃ (k q cp:Nat) (go:Option Addr),k≤hb.length∧i=.int .i64 k∧v=.slice go q cp∧Hid (q=(O k).length)∧Hid (Below W.heap.size W wr)∧Hid (OwnL wr W.heap.size (.slice go q cp) (O k))∧Hid (O k=[]→go=none)) (fun _ i _=>hb.length - (intOf i).toNat)
 case atStart=>exact ⟨0,0,0,none,Nat.zero_le _,rfl,rfl,Lib.hid hL0.symm,Lib.hid (Below.refl _ _),HT,Lib.hid (fun _=>rfl)⟩
 case round =>
  obtain ⟨k,q,cp,go,hk,rfl,rfl,HQ2,HB,HT,HG⟩:=hrel
  obtain ⟨⟨a0,a1⟩,b0,b1⟩:=box.out wr HB.out
  by_cases hlt:k < hb.length
  · obtain ⟨x,hx⟩:∃ x,hb[k]?=some x:=⟨_,List.getElem?_eq_getElem hlt⟩
    rcases HRo.out with h0 | ⟨A,rfl,hA,hcell⟩
    · rw [h0] at hlt;simp at hlt
    have HX:=Lib.hid hx
    have ca:=(HB.out.cell (p:=A.add k) (by rw [add_block];exact hA)).trans (hcell k x hx)
    have C2:=Lib.hid (CF.out wr.drew x HB.out.drew)
    have HST:=Lib.hid (HNx.out k x hx)
    have hq:q≤k:=by rw [HQ2.out];exact HLe.out k
    have HRc:=Lib.hid hcell
    have HTO:Hid (wr.ownsRow W.heap.size 45 2 (.slice go q cp) q (cellsP (O k))):=Lib.hid (by have:=HT.out;unfold OwnL at this;rw [← HQ2.out] at this;exact this)
    clear hcell hx HT
    generalize findL ha x=y at C2 HST
    go_upto_region 5 with fail
    go_region_held3 (fun V=>V.cell? ⟨w.heap.size,0,none⟩=some (.slice ho ha.length hc)∧V.cell? ⟨w.heap.size,1,none⟩=some (.slice ro m rc)∧V.cell? ⟨w.heap.size+1,0,none⟩=some (.slice (some A) hb.length bc)∧V.cell? (A.add k)=some (.string x)) ((refine ⟨?_,?_,?_,?_⟩ <;> first | assumption | go_keep))
     (first | (go_at_call 82;refine C2.out.mono ?_;rintro e w2 ⟨rfl,b2⟩;have B2:=Lib.hid (below_up HB.out.drew b2);obtain ⟨⟨a0,a1⟩,b0,b1⟩:=box.out w2 B2.out;have ca:=(B2.out.cell (p:=A.add k) (by rw [add_block];exact hA)).trans ((HRc.out) k x HX.out);have HO2:=Lib.hid (ownsRow_below HTO.out.drew b2);clear b2))
    by_cases hy:0≤y
    · have dy:decide (0≤y)=true:=decide_eq_true hy
      have HS2:Hid (O (k+1)=O k ++ [(y,(k:Int))]):=Lib.hid (by rw [HST.out,if_pos hy])
      have HT1:=Lib.hid (HO2.out.alloc (.cells #[Value.int .i64 y,Value.int .i64 k] 45))
      have hws:=B2.out.size
      have hbs:W.heap.size≤(w2.alloc (.cells #[Value.int .i64 y,Value.int .i64 k] 45)).heap.size:=by simp;omega
      clear HST
      go_wp2_with (at_builtin;refine wpList_append_own _ rfl _ _ 26 rfl W.heap.size 45 i0 (.agg #[.int .i64 0,.int .i64 0]) 2 16 Tryz.underlying26 HI.out hz0 hz1 hz2 rfl (by decide) _ _ _ rfl HT1.out ⟨w2.heap.size,0,none⟩ 1 1 [Value.int .i64 y,Value.int .i64 k] rfl rfl (lit_cellP w2 _ _ _) (fun u hu=>by simp at hu;rcases hu with rfl | rfl <;> rfl) (by unfold maxLen;omega) (by omega) hbs ?_)
      intro v' w3 hown' hgrow _
      obtain ⟨g,gc,rfl⟩:=ownsRow_succ hown'
      have HB3:=Lib.hid ((B2.out.alloc B2.out.size (.cells #[Value.int .i64 y,Value.int .i64 k] 45)).grown hgrow hbs (fun j h=>(HO2.out.lt j h).1))
      have HQ3:Hid (q+1=(O (k+1)).length):=Lib.hid (by rw [HS2.out,List.length_append,← HQ2.out];rfl)
      have HT3:Hid (OwnL w3 W.heap.size (.slice (some ⟨g,0,none⟩) (q+1) gc) (O (k+1))):=Lib.hid (by unfold OwnL;rw [← HQ3.out,HS2.out,cellsP_app];exact hown')
      have HG3:Hid (O (k+1)=[]→(some (⟨g,0,none⟩:Addr))=none):=Lib.hid (fun h=>by rw [HS2.out] at h;simp at h)
      clear hown' hgrow hbs
      go_wp2_with fail
      go_roundw
      case rel=>exact ⟨k+1,q+1,gc,_,by omega,by go_num,rfl,HQ3,HB3,HT3,HG3⟩
      case measure=>simp [intOf];omega
    · have dy:decide (0≤y)=false:=decide_eq_false hy
      have HS2:Hid (O (k+1)=O k):=Lib.hid (by rw [HST.out,if_neg hy])
      have HT2:Hid (OwnL w2 W.heap.size (.slice go q cp) (O (k+1))):=Lib.hid (by unfold OwnL;rw [HS2.out,← HQ2.out];exact HO2.out)
      have HQ3:Hid (q=(O (k+1)).length):=Lib.hid (by rw [HS2.out];exact HQ2.out)
      have HG3:Hid (O (k+1)=[]→go=none):=Lib.hid (fun h=>HG.out (by rw [← HS2.out];exact h))
      clear HST
      go_wp2_with fail
      go_roundw
      case rel=>exact ⟨k+1,q,cp,go,by omega,by go_num,rfl,HQ3,B2,HT2,HG3⟩
      case measure=>simp [intOf];omega
  · obtain rfl:k=hb.length:=by omega
    have HE:Hid (PairsOutN (O hb.length) w (.returned (.slice go q cp)) wr):=Lib.hid (by
     obtain ⟨ao,cap,h1,h2,h3,h4,h5⟩:=OwnL.end_ HT.out HB.out
     refine ⟨ao,cap,h1,h2,h3,h4,fun h=>?_,below_up HB0.out h5⟩
     have hg:=HG.out h
     injection h1 with h1;injection h1 with h1;rw [← h1];exact hg)
    clear HT HG
    go_wp2_with fail
    go_ret
    exact HE.out
end
section
open Go.RowKit Go.Shelf Go.Deep
def upChoices (ra rb:List (List ByteArray)) (ha hb:List ByteArray) (ps qs:List Int) (i k:Nat):TL:=choicesOf ra rb ha hb (ps.take i) qs ++ choiceRow ra rb ha hb (ps.getD i 0) (qs.take k)
theorem up_next (ra rb:List (List ByteArray)) (ha hb:List ByteArray) (ps qs:List Int) (i k:Nat) (p q:Int) (hp:ps[i]?=some p) (hq:qs[k]?=some q) :
 upChoices ra rb ha hb ps qs i (k+1)=if mayC ra rb (scoreC ra rb ha hb p q) then upChoices ra rb ha hb ps qs i k ++ [(p,q,(scoreC ra rb ha hb p q:Int))] else upChoices ra rb ha hb ps qs i k:=by
 obtain ⟨hk,e⟩:=List.getElem?_eq_some_iff.1 hq
 unfold upChoices choiceRow
 rw [List.getD_eq_getElem?_getD,hp,List.take_succ_eq_append_getElem hk,e,List.filterMap_append]
 simp only [Option.getD_some,List.filterMap_cons,List.filterMap_nil]
 unfold choiceO
 by_cases h:mayC ra rb (scoreC ra rb ha hb p q)=true
 · rw [if_pos h,if_pos h];simp
 · rw [if_neg h,if_neg h];simp
theorem up_row (ra rb:List (List ByteArray)) (ha hb:List ByteArray) (ps qs:List Int) (i:Nat) (h:i < ps.length):upChoices ra rb ha hb ps qs i qs.length=upChoices ra rb ha hb ps qs (i+1) 0:=by
 unfold upChoices choicesOf
 rw [List.take_length,List.take_succ_eq_append_getElem h,List.flatMap_append,List.getD_eq_getElem?_getD,List.getElem?_eq_getElem h]
 simp only [Option.getD_some,List.flatMap_cons,List.flatMap_nil,List.append_nil,List.take_zero]
 simp [choiceRow]
theorem up_zero (ra rb:List (List ByteArray)) (ha hb:List ByteArray) (ps qs:List Int):upChoices ra rb ha hb ps qs 0 0=[]:=by simp [upChoices,choicesOf,choiceRow]
theorem up_all (ra rb:List (List ByteArray)) (ha hb:List ByteArray) (ps qs:List Int):upChoices ra rb ha hb ps qs ps.length 0=choicesOf ra rb ha hb ps qs:=by simp [upChoices,choiceRow]
theorem row_le (ra rb:List (List ByteArray)) (ha hb:List ByteArray) (p:Int) (qs:List Int):(choiceRow ra rb ha hb p qs).length≤qs.length:=List.length_filterMap_le _ _
theorem choices_le (ra rb:List (List ByteArray)) (ha hb:List ByteArray) (qs:List Int):∀ ps:List Int,(choicesOf ra rb ha hb ps qs).length≤ps.length * qs.length
 | []=>by simp [choicesOf]
 | p :: ps=>by
  have h1:=choices_le ra rb ha hb qs ps
  have h2:=row_le ra rb ha hb p qs
  unfold choicesOf at h1 ⊢
  rw [List.flatMap_cons,List.length_append,List.length_cons,Nat.succ_mul]
  omega
theorem up_le (ra rb:List (List ByteArray)) (ha hb:List ByteArray) (ps qs:List Int) (i k:Nat) (hi:i≤1024) (hq:qs.length≤1024):(upChoices ra rb ha hb ps qs i k).length≤1049600:=by
 have h1:=choices_le ra rb ha hb qs (ps.take i)
 have h2:=row_le ra rb ha hb (ps.getD i 0) (qs.take k)
 have h3:(ps.take i).length * qs.length≤1024 * 1024:=Nat.mul_le_mul (by rw [List.length_take];omega) hq
 rw [List.length_take] at h2
 unfold upChoices
 rw [List.length_append];omega
theorem rchoices_any (ho:Option Addr) (hc:Nat) (ha:List ByteArray) (ro:Option Addr) (rc:Nat) (ra:List (List ByteArray)) (bo:Option Addr) (bc:Nat) (hb:List ByteArray) (so:Option Addr) (sc:Nat) (rb:List (List ByteArray)) (lo:Option Addr) (lc:Nat) (l:PL) (w:World)
 (hn:ha.length≤1024) (hn2:hb.length≤1024) (hra:ra.length≤1048576) (hrb:rb.length≤1048576) (hl:l.length≤1024) (hR:RowsAt w ro ra) (hS:RowsAt w so rb) (hP:PairsAt w lo l) :
 Calls Tryz.prog 79 #[.agg #[.slice ho ha.length hc,.slice ro ra.length rc],.agg #[.slice bo hb.length bc,.slice so rb.length sc],.slice lo l.length lc] w (TripsOut (choicesOf ra rb ha hb (freeA ha l) (freeB hb l)) w):=by
 obtain ⟨W,HW⟩:∃ W,Hid (W=(w.alloc (TabO ho ha.length hc ro ra.length rc)).alloc (TabO bo hb.length bc so rb.length sc)):=⟨_,Lib.hid rfl⟩
 have hB:Below w.heap.size w W:=by rw [HW.out];exact two_below _ _ _
 have HB0:=Lib.hid hB
 have hN:=two_new w (TabO ho ha.length hc ro ra.length rc) (TabO bo hb.length bc so rb.length sc)
 rw [← HW.out] at hN
 have box:Hid (∀ V,Below W.heap.size W V→(V.cell? ⟨w.heap.size,0,none⟩=some (.slice ho ha.length hc)∧V.cell? ⟨w.heap.size,1,none⟩=some (.slice ro ra.length rc))∧V.cell? ⟨w.heap.size+1,0,none⟩=some (.slice bo hb.length bc)∧V.cell? ⟨w.heap.size+1,1,none⟩=some (.slice so rb.length sc)):=Lib.hid (fun V hV=>⟨tabs ((hV.block _ (lt_of_heap hN.2.1)).trans hN.2.1),tabs ((hV.block _ (lt_of_heap hN.2.2)).trans hN.2.2)⟩)
 have CA:=Lib.hid (fun V (c:Int) (h:Below W.heap.size W V)=>rcolumnC_any ho hc ha ro rc ra c V (by omega) (hR.kept (below_up hB h)))
 have CB:=Lib.hid (fun V (c:Int) (h:Below W.heap.size W V)=>rcolumnC_any bo bc hb so sc rb c V (by omega) (hS.kept (below_up hB h)))
 have HLA:Hid (∀ c,(columnT ha ra c).length≤1048576):=Lib.hid (fun c=>by unfold columnT;split;rw [colL_len];exact hra;simp)
 have HLB:Hid (∀ c,(columnT hb rb c).length≤1048576):=Lib.hid (fun c=>by unfold columnT;split;rw [colL_len];exact hrb;simp)
 have C1:=Lib.hid (rrestA_any lo lc l (ha.length:Int) W (by omega) (hP.kept hB) (by omega) (by omega))
 have C2:=Lib.hid (fun V (h:Below W.heap.size W V)=>rrestB_any lo lc l (hb.length:Int) V (by omega) ((hP.kept hB).kept h) (by omega) (by omega))
 have ea:outOf (l.map Prod.fst) ((ha.length:Int)).toNat=freeA ha l:=rfl
 have eb:outOf (l.map Prod.snd) ((hb.length:Int)).toNat=freeB hb l:=rfl
 rw [ea] at C1
 have HPl:Hid ((freeA ha l).length≤1024):=Lib.hid (Nat.le_trans (outOf_le _ _) hn)
 have HQl:Hid ((freeB hb l).length≤1024):=Lib.hid (Nat.le_trans (outOf_le _ _) hn2)
 have C2':Hid (∀ V,Below W.heap.size W V→Calls Tryz.prog 52 #[.slice lo l.length lc,.int .i64 (hb.length:Int)] V (IntsOut (freeB hb l) V)):=Lib.hid (fun V h=>C2.out V h)
 clear C2
 generalize freeA ha l=ps at C1 HPl ⊢
 generalize freeB hb l=qs at C2' HQl ⊢
 obtain ⟨O,HQ⟩:∃ O:Nat→Nat→TL,Hid (O=upChoices ra rb ha hb ps qs):=⟨_,Lib.hid rfl⟩
 have HNx:Hid (∀ (i k:Nat) p q,ps[i]?=some p→qs[k]?=some q→O i (k+1)=if mayC ra rb (scoreC ra rb ha hb p q) then O i k ++ [(p,q,(scoreC ra rb ha hb p q:Int))] else O i k):=Lib.hid (fun i k p q h1 h2=>by rw [HQ.out];exact up_next ra rb ha hb ps qs i k p q h1 h2)
 have HRow:Hid (∀ i,i < ps.length→O i qs.length=O (i+1) 0):=Lib.hid (fun i h=>by rw [HQ.out];exact up_row ra rb ha hb ps qs i h)
 have HLe:Hid (∀ i k,i≤1024→(O i k).length≤1049600):=Lib.hid (fun i k h=>by rw [HQ.out];exact up_le ra rb ha hb ps qs i k h HQl.out)
 have HZ:Hid (O 0 0=[]):=Lib.hid (by rw [HQ.out];exact up_zero _ _ _ _ _ _)
 rw [show choicesOf ra rb ha hb ps qs=O ps.length 0 from by rw [HQ.out];exact (up_all _ _ _ _ _ _).symm]
 have hL0:(O 0 0).length=0:=by rw [HZ.out];rfl
 have HSc:Hid (∀ p q,scoreC ra rb ha hb p q=overL (bytesOf (columnT ha ra p)) (bytesOf (columnT hb rb q))):=Lib.hid (fun p q=>rfl)
 have HSl:Hid (∀ p q,scoreC ra rb ha hb p q≤1048576):=Lib.hid (fun p q=>by
  have:=over_le1 (bytesOf (columnT ha ra p)) (bytesOf (columnT hb rb q))
  rw [bytes_len] at this
  exact Nat.le_trans this (HLA.out p))
 have HM:Hid (∀ n,mayC ra rb n=(decide (ra.length < 2 * n) && decide (rb.length < 2 * n))):=Lib.hid (fun n=>rfl)
 have hinfo:(Tryz.prog.info? 73).map (fun i=>(i.zero,i.size,i.bytes))=some (some (.agg #[.int .i64 0,.int .i64 0,.int .i64 0]),3,24):=by kernel_rfl
 obtain ⟨i0,hi,hz0,hz1,hz2⟩:=info_parts3 hinfo
 have HI:=Lib.hid hi
 obtain ⟨a,b⟩:=box.out W (Below.refl _ _)
 obtain ⟨a0,a1⟩:=a
 obtain ⟨b0,b1⟩:=b
 clear hi hinfo hR hS hP hB hN ea eb
 go_enter Tryz.func79,Tryz.ntmps79
 go_upto_region 1 with fail
 rw [show (w.alloc (Obj.cells #[Value.slice ho ha.length hc,Value.slice ro ra.length rc] 25)).alloc (Obj.cells #[Value.slice bo hb.length bc,Value.slice so rb.length sc] 25)=W from HW.out.symm]
 go_wp2_with fail
 refine C1.out.mono ?_;rintro e w1 ⟨po,pc,rfl,hp,-,-,g1⟩
 have HP1:=Lib.hid hp
 have HB1:=Lib.hid g1
 have D2:=Lib.hid (C2'.out w1 g1)
 clear hp g1 C1 C2' a0 a1 b0 b1
 obtain ⟨⟨a0,a1⟩,b0,b1⟩:=box.out w1 HB1.out
 go_wp2_with fail
 refine D2.out.mono ?_;rintro e w2 ⟨qo,qc,rfl,hq,-,-,g2⟩
 have HBW:=Lib.hid (below_up HB1.out g2)
 have HP2:=Lib.hid (HP1.out.kept g2)
 have HQ2:=Lib.hid hq
 have box2:Hid (∀ V,Below w2.heap.size w2 V→(V.cell? ⟨w.heap.size,0,none⟩=some (.slice ho ha.length hc)∧V.cell? ⟨w.heap.size,1,none⟩=some (.slice ro ra.length rc))∧V.cell? ⟨w.heap.size+1,0,none⟩=some (.slice bo hb.length bc)∧V.cell? ⟨w.heap.size+1,1,none⟩=some (.slice so rb.length sc)):=Lib.hid (fun V h=>box.out V (below_up HBW.out h))
 have CA2:=Lib.hid (fun V (c:Int) (h:Below w2.heap.size w2 V)=>CA.out V c (below_up HBW.out h))
 have CB2:=Lib.hid (fun V (c:Int) (h:Below w2.heap.size w2 V)=>CB.out V c (below_up HBW.out h))
 have HT:Hid (OwnTL w2 w2.heap.size (.slice none 0 0) (O 0 0)):=Lib.hid (by rw [HZ.out];exact World.ownsRow_nil _ _ _ _)
 clear hq g2 HP1 D2 a0 a1 b0 b1 CA CB box HB1
 go_wp2_with fail
 go_loopw [9,10] (fun v u wr=>∃ (i q cp:Nat) (go:Option Addr),i≤ps.length∧u=.int .i64 i∧v=.slice go q cp∧Hid (q=(O i 0).length)∧Hid (Below w2.heap.size w2 wr)∧Hid (OwnTL wr w2.heap.size (.slice go q cp) (O i 0))) (fun _ u _=>ps.length - (intOf u).toNat)
 case atStart=>exact ⟨0,0,0,none,Nat.zero_le _,rfl,rfl,Lib.hid hL0.symm,Lib.hid (Below.refl _ _),HT⟩
 case round =>
  obtain ⟨i,q,cp,go,hi,rfl,rfl,HQn,HB,HT⟩:=hrel
  by_cases hlt:i < ps.length
  · obtain ⟨p,hp⟩:∃ p,ps[i]?=some p:=⟨_,List.getElem?_eq_getElem hlt⟩
    have HPI:=Lib.hid hp
    have hi2:i≤1024:=by have:=HPl.out;omega
    rcases HP2.out with h0 | ⟨A,rfl,hA,hcell⟩
    · rw [h0] at hlt;simp at hlt
    have HPc:Hid (∀ V,Below w2.heap.size w2 V→V.cell? (A.add i)=some (.int .i64 p)):=Lib.hid (fun V h=>(h.cell (p:=A.add i) (by rw [add_block];exact hA)).trans (hcell i p hp))
    have HN1:=Lib.hid (fun k z h=>HNx.out i k p z hp h)
    have HR1:=Lib.hid (HRow.out i hlt)
    have HL1:=Lib.hid (fun k=>HLe.out i k hi2)
    clear hcell hp
    go_wp2_with fail
    go_loopw [9,11] (fun v u wr=>∃ (k q cp:Nat) (go:Option Addr),k≤qs.length∧u=.int .i64 k∧v=.slice go q cp∧Hid (q=(O i k).length)∧Hid (Below w2.heap.size w2 wr)∧Hid (OwnTL wr w2.heap.size (.slice go q cp) (O i k))) (fun _ u _=>qs.length - (intOf u).toNat)
    case atStart=>exact ⟨0,q,cp,go,Nat.zero_le _,rfl,rfl,HQn,HB,HT⟩
    case round =>
     obtain ⟨k,q,cp,go,hk,rfl,rfl,HQn,HB,HT⟩:=hrel
     have hk2:k≤1024:=by have:=HQl.out;omega
     by_cases hkl:k < qs.length
     · obtain ⟨z,hz⟩:∃ z,qs[k]?=some z:=⟨_,List.getElem?_eq_getElem hkl⟩
       rcases HQ2.out with h0 | ⟨B,rfl,hBB,hcell⟩
       · rw [h0] at hkl;simp at hkl
       have HQc:Hid (∀ V,Below w2.heap.size w2 V→V.cell? (B.add k)=some (.int .i64 z)):=Lib.hid (fun V h=>(h.cell (p:=B.add k) (by rw [add_block];exact hBB)).trans (hcell k z hz))
       have HST:=Lib.hid (HN1.out k z hz)
       have hq:q≤1049600:=by rw [HQn.out];exact HL1.out k
       have D1:=Lib.hid (CA2.out wr.drew p HB.out.drew)
       have D2:=Lib.hid (fun V h=>CB2.out V z h)
       have hE:=HSc.out p z
       have hEl:=HSl.out p z
       have HLa:=Lib.hid (HLA.out p)
       have HLb:=Lib.hid (HLB.out z)
       have HMz:=Lib.hid (HM.out (scoreC ra rb ha hb p z))
       have HTO:Hid (wr.ownsRow w2.heap.size 73 3 (.slice go q cp) q (cellsT (O i k))):=Lib.hid (by have:=HT.out;unfold OwnTL at this;rw [← HQn.out] at this;exact this)
       have D3:=Lib.hid (fun ao bo ca cb V h1 h2 h3=>rover_any ao bo ca cb (columnT ha ra p) (columnT hb rb z) V HLa.out HLb.out h1 h2 h3)
       rw [← hE] at D3
       generalize scoreC ra rb ha hb p z=s at D3 HST HMz hE hEl
       clear hE
       generalize columnT ha ra p=xs at D1 D3 HLa
       generalize columnT hb rb z=ys at D2 D3 HLb
       obtain ⟨⟨a0,a1⟩,b0,b1⟩:=box2.out wr HB.out
       have cp1:=HPc.out wr HB.out
       have cq1:=HQc.out wr HB.out
       clear hcell hz HT
       go_upto_region 10 with fail
       go_region_held3 (fun V=>V.cell? ⟨w.heap.size,0,none⟩=some (.slice ho ha.length hc)∧V.cell? ⟨w.heap.size,1,none⟩=some (.slice ro ra.length rc)∧V.cell? ⟨w.heap.size+1,0,none⟩=some (.slice bo hb.length bc)∧V.cell? ⟨w.heap.size+1,1,none⟩=some (.slice so rb.length sc)∧V.cell? (A.add i)=some (.int .i64 p)∧V.cell? (B.add k)=some (.int .i64 z)) ((refine ⟨?_,?_,?_,?_,?_,?_⟩ <;> first | assumption | go_keep))
        (first
         | (go_at_call 131;refine D1.out.mono ?_;rintro e w3 ⟨ao1,c1,rfl,l1,s1,b3⟩;have B3:=Lib.hid (below_up HB.out.drew b3);have S1:=Lib.hid s1;have L1:=Lib.hid l1;have HO3:=Lib.hid (ownsRow_below HTO.out.drew b3);obtain ⟨⟨a0,a1⟩,b0,b1⟩:=box2.out w3 B3.out;have cp1:=HPc.out w3 B3.out;have cq1:=HQc.out w3 B3.out;have D2:=Lib.hid (D2.out w3 B3.out);clear b3 s1 l1 D1)
         | (go_at_call 131;refine D2.out.mono ?_;rintro e w4 ⟨ao2,c2,rfl,l2,s2,b4⟩;have B4:=Lib.hid (below_up B3.out b4);have S1:=Lib.hid (S1.out.kept b4);have HO4:=Lib.hid (ownsRow_below HO3.out b4);have D3:=Lib.hid (D3.out ao1 ao2 c1 c2 w4 L1.out S1.out s2);obtain ⟨⟨a0,a1⟩,b0,b1⟩:=box2.out w4 B4.out;have cp1:=HPc.out w4 B4.out;have cq1:=HQc.out w4 B4.out;clear b4 s2 l2 D2)
         | (go_at_call 130;refine D3.out.mono ?_;rintro e w5 ⟨rfl,b5⟩;have B5:=Lib.hid (below_up B4.out b5);have HO5:=Lib.hid (ownsRow_below HO4.out b5);obtain ⟨⟨a0,a1⟩,b0,b1⟩:=box2.out w5 B5.out;have cp1:=HPc.out w5 B5.out;have cq1:=HQc.out w5 B5.out;clear b5 D3))
       have hw:IntKind.i64.wrap (2 * (s:Int))=2 * (s:Int):=IntWalk.i64_in _ (by omega)
       by_cases h1:ra.length < 2 * s
       · have e1:decide ((ra.length:Int) < 2 * (s:Int))=true:=decide_eq_true (by omega)
         by_cases h2:rb.length < 2 * s
         · have e2:decide ((rb.length:Int) < 2 * (s:Int))=true:=decide_eq_true (by omega)
           have hm:mayC ra rb s=true:=by rw [HMz.out,decide_eq_true h1,decide_eq_true h2];rfl
           have HS2:Hid (O i (k+1)=O i k ++ [(p,z,(s:Int))]):=Lib.hid (by rw [HST.out,hm];rfl)
           have HT0:=Lib.hid HO5.out.drew
           have HT1:=Lib.hid (HT0.out.alloc (.cells #[Value.int .i64 p,Value.int .i64 z,Value.int .i64 s] 73))
           have HNW:=Lib.hid (lit_cell3 w5.drew (.int .i64 p) (.int .i64 z) (.int .i64 s) 73)
           have hws:w2.heap.size≤w5.heap.size:=B5.out.size
           have HB3:Hid (∀ w3,(w5.drew.alloc (.cells #[Value.int .i64 p,Value.int .i64 z,Value.int .i64 s] 73)).grownBy w3 (Value.slice go q cp).ownBlock→Below w2.heap.size w2 w3):=Lib.hid (fun w3 hg=>own_grownI (o:=.cells #[Value.int .i64 p,Value.int .i64 z,Value.int .i64 s] 73) (show Below w2.heap.size w2 w5.drew from bdn (n:=1) B5.out) hws HT0.out hg)
           have HQ3:Hid (q+1=(O i (k+1)).length):=Lib.hid (by rw [HS2.out,List.length_append,← HQn.out];rfl)
           clear HST hm HMz
           go_upto_region 12 with fail
           go_region_held3 (fun V=>V.cell? (A.add i)=some (.int .i64 p)∧V.cell? (B.add k)=some (.int .i64 z)) ((refine ⟨?_,?_⟩ <;> first | assumption | go_keep))
            (first | (refine step_append_any (by rfl) _ _ 68 (by rfl) w2.heap.size 73 i0 (.agg #[.int .i64 0,.int .i64 0,.int .i64 0]) 3 24 Tryz.underlying68 HI.out hz0 hz1 hz2 rfl (by decide) (.slice go q cp) q (cellsT (O i k)) (by rfl) HT1.out _ 1 1 [.int .i64 p,.int .i64 z,.int .i64 s] (by rfl) (fun h=>by cases h) rfl (fun ad h=>by cases h;exact HNW.out) (fun u hu=>by simp at hu;rcases hu with rfl | rfl | rfl <;> rfl) (by unfold maxLen;omega) (by omega) (by simp;omega) (q+1) rfl (cellsT (O i k) ++ [.int .i64 p,.int .i64 z,.int .i64 s]) rfl ?_;intro go3 gc w6 hown' hgrow _;have B6:=Lib.hid (HB3.out w6 hgrow);have f1:=HPc.out w6 B6.out;have f2:=HQc.out w6 B6.out;have HOW:=Lib.hid hown';clear hown' hgrow))
           have HT3:Hid (OwnTL w6 w2.heap.size (.slice go3 (q+1) gc) (O i (k+1))):=Lib.hid (by unfold OwnTL;rw [← HQ3.out,HS2.out,cellsT_app];exact HOW.out)
           go_wp2_with fail
           go_roundw
           case rel=>exact ⟨k+1,q+1,gc,_,by omega,by go_num,rfl,HQ3,B6,HT3⟩
           case measure=>simp [intOf];omega
         · have e2:decide ((rb.length:Int) < 2 * (s:Int))=false:=decide_eq_false (by omega)
           have hm:mayC ra rb s=false:=by rw [HMz.out,decide_eq_false h2,Bool.and_false]
           have HS2:Hid (O i (k+1)=O i k):=Lib.hid (by rw [HST.out,hm];rfl)
           have HT3:Hid (OwnTL w5 w2.heap.size (.slice go q cp) (O i (k+1))):=Lib.hid (by unfold OwnTL;rw [HS2.out,← HQn.out];exact HO5.out)
           have HQ3:Hid (q=(O i (k+1)).length):=Lib.hid (by rw [HS2.out];exact HQn.out)
           clear HST hm HMz
           go_wp2_with fail
           go_roundw
           case rel=>exact ⟨k+1,q,cp,go,by omega,by go_num,rfl,HQ3,B5,HT3⟩
           case measure=>simp [intOf];omega
       · have e1:decide ((ra.length:Int) < 2 * (s:Int))=false:=decide_eq_false (by omega)
         have hm:mayC ra rb s=false:=by rw [HMz.out,decide_eq_false h1,Bool.false_and]
         have HS2:Hid (O i (k+1)=O i k):=Lib.hid (by rw [HST.out,hm];rfl)
         have HT3:Hid (OwnTL w5 w2.heap.size (.slice go q cp) (O i (k+1))):=Lib.hid (by unfold OwnTL;rw [HS2.out,← HQn.out];exact HO5.out)
         have HQ3:Hid (q=(O i (k+1)).length):=Lib.hid (by rw [HS2.out];exact HQn.out)
         clear HST hm HMz
         go_wp2_with fail
         go_roundw
         case rel=>exact ⟨k+1,q,cp,go,by omega,by go_num,rfl,HQ3,B5,HT3⟩
         case measure=>simp [intOf];omega
     · obtain rfl:k=qs.length:=by omega
       have HQ3:Hid (q=(O (i+1) 0).length):=Lib.hid (by rw [← HR1.out];exact HQn.out)
       have HT3:Hid (OwnTL wr w2.heap.size (.slice go q cp) (O (i+1) 0)):=Lib.hid (by rw [← HR1.out];exact HT.out)
       clear HT HQn
       go_wp2_with fail
       go_roundw
       case rel=>exact ⟨i+1,q,cp,go,by omega,by go_num,rfl,HQ3,HB,HT3⟩
       case measure=>simp [intOf];omega
  · obtain rfl:i=ps.length:=by omega
    have HE:Hid (TripsOut (O ps.length 0) w (.returned (.slice go q cp)) wr):=Lib.hid (by
     obtain ⟨ao,cap,h1,h2,h3,h4,h5⟩:=OwnTL.end_ HT.out HB.out
     exact ⟨ao,cap,h1,h2,h3,h4,below_up (below_up HB0.out HBW.out) h5⟩)
    clear HT
    go_wp2_with fail
    go_ret
    exact HE.out
end
end Go.Proofs.YtdenehnneloegaaGreatDoor
