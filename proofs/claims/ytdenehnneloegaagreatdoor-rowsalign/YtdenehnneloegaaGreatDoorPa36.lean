/-
  Texts of these rows' proofs, laid one behind the other: RwRef3.
  Conditions: those of each theorem.
-/
import Derived.Deep.OwnRows
import Derived.Deep.RegionHeld3
import Derived.Deep.AppendLies
import Derived.Deep.Cut
import Derived.WalkKit
import Derived.WalkMore
import Derived.IntWalk
import Derived.WalkArith
import Derived.OwnWalk
import Derived.Lib.Hide
import Derived.Test.YtdenehnneloegaaGreatDoorProg
import Derived.Test.YtdenehnneloegaaGreatDoorPa6
import Derived.Test.YtdenehnneloegaaGreatDoorPa35
namespace Go.Proofs.YtdenehnneloegaaGreatDoor
set_option linter.unusedVariables false
set_option maxRecDepth 100000
set_option maxHeartbeats 8000000
section
open Go.RowKit Go.Shelf Go.Deep
theorem own_ints {w:World} {base n cap:Nat} {ao:Option Addr} {l:List Int} (h:w.ownsRow base 3 1 (.slice ao n cap) n (l.map (Value.int .i64))):IntsAt w ao l:=by
 rcases h.2 with ⟨h0,h1⟩ | ⟨g,c,cur,hv,_,hg,_⟩
 · have:=h.1;simp at this;exact .inl (List.eq_nil_of_length_eq_zero (by omega))
 · simp only [Value.slice.injEq] at hv
   obtain ⟨rfl,-,-⟩:=hv
   refine .inr ⟨⟨g,0,none⟩,rfl,lt_of_heap hg,fun i p hp=>?_⟩
   exact h.cells rfl i _ (by rw [List.getElem?_map,hp];rfl)
theorem row_slice {w:World} {r:List ByteArray} {v:Value} (h:RowV w r v):∃ vo vn vc,v=.slice vo vn vc:=by
 obtain ⟨a,b,rfl,_,_⟩:=h;exact ⟨_,_,_,rfl⟩
def ApartV (v u:Value):Prop:=∀ g,v.ownBlock=some g→u.ownBlock ≠ some g
theorem apart_row {v u:Value} (h:ApartV v u) (hv:∃ ao n c,v=.slice ao n c):u.ownBlock=none∨u.ownBlock ≠ v.ownBlock:=by
 cases hu:u.ownBlock with
 | none=>exact .inl rfl
 | some g=>exact .inr (fun e=>h g e.symm hu)
theorem apart_left {w:World} {base s n:Nat} {T:TypeId} {v u:Value} {g k c:Nat} {xs:List Value} (h:ApartV v u) (hu:w.ownsRow base T s u n xs) (hl:v.ownBlock=some g∨g=w.heap.size+1):ApartV (.slice (some ⟨g,0,none⟩) k c) u:=fun j hj e=>by
 have hj':g=j:=by simpa [Value.ownBlock] using hj
 subst hj'
 rcases hl with hl | hl
 · exact h g hl e
 · have:=(hu.lt g e).2;omega
theorem ApartV.symm {v u:Value} (h:ApartV v u):ApartV u v:=fun g h1 h2=>h g h2 h1
theorem src_one (w:World) (v:Value) (T:TypeId):∀ (j:Nat) u,[v][j]?=some u→(w.alloc (.cells #[v] T)).cell? ((⟨w.heap.size,0,none⟩:Addr).add j)=some u:=fun j u hj=>by
 rw [cell_row (World.alloc_heap_new w _)]
 match j,hj with
 | 0,hj=>simp at hj;subst hj;rfl
def codeB (all:List (List ByteArray)) (x:List ByteArray):ByteArray:=⟨(codeR all x).toArray⟩
theorem lookA_at (ra:List (List ByteArray)) (cols:PL) (i:Nat) (h:i < ra.length):(lookA ra cols)[i]?=some (keyAt ra (cols.map Prod.fst) i):=by simp [lookA,h]
theorem lookB_at (rb:List (List ByteArray)) (cols:PL) (k:Nat) (h:k < rb.length):(lookB rb cols)[k]?=some (keyAt rb (cols.map Prod.snd) k):=by simp [lookB,h]
theorem take_one {α:Type} (l:List α) (k:Nat) (x:α) (h:l[k]?=some x):l.take (k+1)=l.take k ++ [x]:=by
 obtain ⟨hk,e⟩:=List.getElem?_eq_some_iff.1 h
 rw [List.take_succ_eq_append_getElem hk,e]
def NamesOf (all xs ys:List (List ByteArray)) (w:World) (e:Ending) (w':World):Prop:=∃ (ao bo:Option Addr) (ca cb:Nat),e=.returned (.tuple #[.slice ao xs.length ca,.slice bo ys.length cb])∧StrRow w' ao (xs.map (codeB all))∧StrRow w' bo (ys.map (codeB all))∧Below w.heap.size w w'
theorem rnames14_any (ho:Option Addr) (n1 hc:Nat) (ro:Option Addr) (rc:Nat) (ra:List (List ByteArray)) (bo:Option Addr) (n2 bc:Nat) (so:Option Addr) (sc:Nat) (rb:List (List ByteArray)) (lo:Option Addr) (lc:Nat) (l:PL) (w:World)
 (hra:ra.length≤1024) (hrb:rb.length≤1024) (hl:l.length≤1024) (hR:RowsAt w ro ra) (hS:RowsAt w so rb) (hP:PairsAt w lo l) :
 Calls Tryz.prog 49 #[.agg #[.slice ho n1 hc,.slice ro ra.length rc],.agg #[.slice bo n2 bc,.slice so rb.length sc],.slice lo l.length lc] w (NamesOf (lookA ra l ++ lookB rb l) (lookA ra l) (lookB rb l) w):=by
 obtain ⟨W,HW⟩:∃ W,Hid (W=(w.alloc (TabO ho n1 hc ro ra.length rc)).alloc (TabO bo n2 bc so rb.length sc)):=⟨_,Lib.hid rfl⟩
 have hB:Below w.heap.size w W:=by rw [HW.out];exact two_below _ _ _
 have HB0:=Lib.hid hB
 have hN:=two_new w (TabO ho n1 hc ro ra.length rc) (TabO bo n2 bc so rb.length sc)
 rw [← HW.out] at hN
 have box:Hid (∀ V,Below W.heap.size W V→(V.cell? ⟨w.heap.size,0,none⟩=some (.slice ho n1 hc)∧V.cell? ⟨w.heap.size,1,none⟩=some (.slice ro ra.length rc))∧V.cell? ⟨w.heap.size+1,0,none⟩=some (.slice bo n2 bc)∧V.cell? ⟨w.heap.size+1,1,none⟩=some (.slice so rb.length sc)):=Lib.hid (fun V hV=>⟨tabs ((hV.block _ (lt_of_heap hN.2.1)).trans hN.2.1),tabs ((hV.block _ (lt_of_heap hN.2.2)).trans hN.2.2)⟩)
 obtain ⟨ps,Hps⟩:∃ ps,Hid (ps=l.map Prod.fst):=⟨_,Lib.hid rfl⟩
 obtain ⟨qs,Hqs⟩:∃ qs,Hid (qs=l.map Prod.snd):=⟨_,Lib.hid rfl⟩
 have HPl:Hid (ps.length=l.length):=Lib.hid (by rw [Hps.out];simp)
 have HQl:Hid (qs.length=l.length):=Lib.hid (by rw [Hqs.out];simp)
 have CK1:=Lib.hid (fun (j:Nat) po pc V (h:Below W.heap.size W V) (hI:IntsAt V po ps)=>rkeyT_any ho n1 hc ro rc ra (j:Int) po pc ps V (by rw [HPl.out];omega) (hR.kept (below_up hB h)) hI)
 have CK2:=Lib.hid (fun (j:Nat) po pc V (h:Below W.heap.size W V) (hI:IntsAt V po qs)=>rkeyT_any bo n2 bc so sc rb (j:Int) po pc qs V (by rw [HQl.out];omega) (hS.kept (below_up hB h)) hI)
 have CR:=Lib.hid (fun (ao bo:Option Addr) (ca cb:Nat) (xs ys:List ByteArray) V (hl:xs.length≤1099511627776) (h1:StrRow V ao xs) (h2:StrRow V bo ys)=>rrow_any ao bo ca cb xs ys V hl h1 h2)
 have HPo:=Lib.hid (hP.kept hB)
 have HTp:Hid (∀ (c:Nat) x,l[c]?=some x→(ps.map (Value.int .i64)).take (c+1)=(ps.map (Value.int .i64)).take c ++ [.int .i64 x.1]):=Lib.hid (fun c x h=>take_one _ c _ (by rw [Hps.out];simp [h]))
 have HTq:Hid (∀ (c:Nat) x,l[c]?=some x→(qs.map (Value.int .i64)).take (c+1)=(qs.map (Value.int .i64)).take c ++ [.int .i64 x.2]):=Lib.hid (fun c x h=>take_one _ c _ (by rw [Hqs.out];simp [h]))
 have hinfo:(Tryz.prog.info? 3).map (fun i=>(i.zero,i.size,i.bytes))=some (some (.int .i64 0),1,8):=by kernel_rfl
 obtain ⟨i0,hi,hz0,hz1,hz2⟩:=info_parts2 hinfo
 have HI:=Lib.hid hi
 have hinfo1:(Tryz.prog.info? 22).map (fun i=>(i.zero,i.size,i.bytes))=some (some (.slice none 0 0),1,24):=by kernel_rfl
 obtain ⟨i1,hi1,hy0,hy1,hy2⟩:=info_parts2 hinfo1
 have HI1:=Lib.hid hi1
 have hinfo2:(Tryz.prog.info? 9).map (fun i=>(i.zero,i.size,i.bytes))=some (some (.string ⟨#[]⟩),1,16):=by kernel_rfl
 obtain ⟨i2,hi2,hx0,hx1,hx2⟩:=info_parts2 hinfo2
 have HI2:=Lib.hid hi2
 clear hi hinfo hi1 hinfo1 hi2 hinfo2 hR hS hP hB hN
 go_enter Tryz.func49,Tryz.ntmps49
 go_upto_region 1 with fail
 rw [show (w.alloc (Obj.cells #[Value.slice ho n1 hc,Value.slice ro ra.length rc] 25)).alloc (Obj.cells #[Value.slice bo n2 bc,Value.slice so rb.length sc] 25)=W from HW.out.symm]
 go_wp2_with fail
 go_loopw [8,9,10] (fun v u i wr=>∃ (c ca cb:Nat) (ao bo:Option Addr),c≤l.length∧i=.int .i64 c∧v=.slice ao c ca∧u=.slice bo c cb∧Hid (Below W.heap.size W wr)∧Hid (wr.ownsRow W.heap.size 3 1 (.slice ao c ca) c ((ps.map (Value.int .i64)).take c))∧Hid (wr.ownsRow W.heap.size 3 1 (.slice bo c cb) c ((qs.map (Value.int .i64)).take c))∧Hid (ApartV (.slice ao c ca) (.slice bo c cb))) (fun _ _ i _=>l.length - (intOf i).toNat)
 case atStart=>exact ⟨0,0,0,none,none,Nat.zero_le _,rfl,rfl,rfl,Lib.hid (Below.refl _ _),Lib.hid (World.ownsRow_nil _ _ _ _),Lib.hid (World.ownsRow_nil _ _ _ _),Lib.hid (fun g h=>by cases h)⟩
 case round =>
  obtain ⟨c,ca,cb,ao,bo2,hcl,rfl,rfl,rfl,HB,HO1,HO2,HAp⟩:=hrel
  by_cases hlt:c < l.length
  · obtain ⟨⟨x1,x2⟩,hx⟩:∃ x,l[c]?=some x:=⟨_,List.getElem?_eq_getElem hlt⟩
    rcases (HPo.out.kept HB.out) with h0 | ⟨b,o,rfl,hA,hcell⟩
    · rw [h0] at hlt;simp at hlt
    obtain ⟨hc1,hc3⟩:=hcell c _ hx
    have HTa:=Lib.hid (HTp.out c _ hx)
    have HTb:=Lib.hid (HTq.out c _ hx)
    dsimp only at hc1 hc3 HTa HTb
    have HCc:Hid (∀ V,Below W.heap.size W V→V.cell? ⟨b,o+c * 2+1,none⟩=some (.int .i64 x2)):=Lib.hid (fun V h=>by
     rcases (HPo.out.kept h) with h0 | ⟨b',o',e,hA',hcell'⟩
     · rw [h0] at hlt;simp at hlt
     · cases e;exact (hcell' c _ hx).2)
    have HOa:=Lib.hid (HO1.out.alloc (.cells #[.int .i64 x1] 3))
    have HOb:=Lib.hid (HO2.out.alloc (.cells #[.int .i64 x1] 3))
    have hws:W.heap.size≤(wr.alloc (.cells #[.int .i64 x1] 3)).heap.size:=by have:=HB.out.size;simp;omega
    have HBa:=Lib.hid (HB.out.alloc HB.out.size (.cells #[.int .i64 x1] 3))
    clear hcell hx HO1
    go_wp2_with (at_builtin;refine wpList_append_lies _ rfl _ _ 41 rfl W.heap.size 3 i0 (.int .i64 0) 1 8 Tryz.underlying41 HI.out hz0 hz1 hz2 rfl (by decide) _ _ _ rfl HOa.out ⟨wr.heap.size,0,none⟩ 1 1 [Value.int .i64 x1] rfl rfl ?c1 ?c2 (by decide) ?c3 ?c4 hws (wr.heap.size+1) (by simp) ?_)
    case c1=>exact src_one wr _ 3
    case c2=>intro u hu;simp at hu;subst hu;rfl
    case c3=>unfold maxLen;omega
    case c4=>omega
    intro g cap w1 hown hgrow hat _
    have hg1:(wr.alloc (.cells #[.int .i64 x1] 3)).heap.size=wr.heap.size+1:=by simp
    have HB1:Hid (Below W.heap.size W w1):=Lib.hid (HBa.out.grown hgrow (by have:=HB.out.size;simp;omega) (fun j h=>(HOa.out.lt j h).1))
    have HO1:Hid (w1.ownsRow W.heap.size 3 1 (.slice (some ⟨g,0,none⟩) (c+1) cap) (c+1) ((ps.map (Value.int .i64)).take (c+1))):=Lib.hid (by rw [HTa.out];exact hown)
    have HO2':Hid (w1.ownsRow W.heap.size 3 1 (.slice bo2 c cb) c ((qs.map (Value.int .i64)).take c)):=Lib.hid (HOb.out.kept hgrow (apart_row HAp.out ⟨_,_,_,rfl⟩))
    have HAp1:Hid (ApartV (.slice (some ⟨g,0,none⟩) (c+1) cap) (.slice bo2 c cb)):=Lib.hid (apart_left HAp.out HO2.out hat)
    have hc4:=HCc.out w1 HB1.out
    have HOc:=Lib.hid (HO2'.out.alloc (.cells #[.int .i64 x2] 3))
    have HOd:=Lib.hid (HO1.out.alloc (.cells #[.int .i64 x2] 3))
    have hwt:W.heap.size≤(w1.alloc (.cells #[.int .i64 x2] 3)).heap.size:=by have:=HB1.out.size;simp;omega
    have HBb:=Lib.hid (HB1.out.alloc HB1.out.size (.cells #[.int .i64 x2] 3))
    clear hown hgrow hat hg1 HOa HOb HO2 HAp HBa HB hc1 hc3 hws
    go_wp2_with (at_builtin;refine wpList_append_lies _ rfl _ _ 41 rfl W.heap.size 3 i0 (.int .i64 0) 1 8 Tryz.underlying41 HI.out hz0 hz1 hz2 rfl (by decide) _ _ _ rfl HOc.out ⟨w1.heap.size,0,none⟩ 1 1 [Value.int .i64 x2] rfl rfl ?c1 ?c2 (by decide) ?c3 ?c4 hwt (w1.heap.size+1) (by simp) ?_)
    case c1=>exact src_one w1 _ 3
    case c2=>intro u hu;simp at hu;subst hu;rfl
    case c3=>unfold maxLen;omega
    case c4=>omega
    intro g2 cap2 w2 hown hgrow hat _
    have HB2:Hid (Below W.heap.size W w2):=Lib.hid (HBb.out.grown hgrow (by have:=HB1.out.size;simp;omega) (fun j h=>(HOc.out.lt j h).1))
    have HO4:Hid (w2.ownsRow W.heap.size 3 1 (.slice (some ⟨g2,0,none⟩) (c+1) cap2) (c+1) ((qs.map (Value.int .i64)).take (c+1))):=Lib.hid (by rw [HTb.out];exact hown)
    have HO3:Hid (w2.ownsRow W.heap.size 3 1 (.slice (some ⟨g,0,none⟩) (c+1) cap) (c+1) ((ps.map (Value.int .i64)).take (c+1))):=Lib.hid (HOd.out.kept hgrow (apart_row HAp1.out.symm ⟨_,_,_,rfl⟩))
    have HAp2:Hid (ApartV (.slice (some ⟨g,0,none⟩) (c+1) cap) (.slice (some ⟨g2,0,none⟩) (c+1) cap2)):=Lib.hid (apart_left HAp1.out.symm HO1.out hat).symm
    clear hown hgrow hat HOc HOd HO2' HO1 HAp1 HBb HB1 hc4 hwt HTa HTb HCc
    go_wp2_with fail
    go_roundw
    case rel=>exact ⟨c+1,cap,cap2,_,_,by omega,by go_num,rfl,rfl,HB2,HO3,HO4,HAp2⟩
    case measure=>simp [intOf];omega
  · obtain rfl:c=l.length:=by omega
    have HP1:Hid (IntsAt wr ao ps):=Lib.hid (by
     have h:=HO1.out
     rw [List.take_of_length_le (by rw [List.length_map,HPl.out];exact Nat.le_refl _)] at h
     exact own_ints h)
    have HQ1:Hid (IntsAt wr bo2 qs):=Lib.hid (by
     have h:=HO2.out
     rw [List.take_of_length_le (by rw [List.length_map,HQl.out];exact Nat.le_refl _)] at h
     exact own_ints h)
    obtain ⟨wo,hwo⟩:∃ wo:World,wo=wr:=⟨_,rfl⟩
    subst hwo
    clear HO1 HO2 HAp HTp HTq HPo
    have E1:=Lib.hid (fun (j:Nat) V (h:Below wo.heap.size wo V)=>by have:=CK1.out j ao ca V (below_up HB.out h) (HP1.out.kept h);rw [HPl.out] at this;exact this)
    have E2:=Lib.hid (fun (j:Nat) V (h:Below wo.heap.size wo V)=>by have:=CK2.out j bo2 cb V (below_up HB.out h) (HQ1.out.kept h);rw [HQl.out] at this;exact this)
    have boxo:Hid (∀ V,Below wo.heap.size wo V→(V.cell? ⟨w.heap.size,0,none⟩=some (.slice ho n1 hc)∧V.cell? ⟨w.heap.size,1,none⟩=some (.slice ro ra.length rc))∧V.cell? ⟨w.heap.size+1,0,none⟩=some (.slice bo n2 bc)∧V.cell? ⟨w.heap.size+1,1,none⟩=some (.slice so rb.length sc)):=Lib.hid (fun V h=>box.out V (below_up HB.out h))
    have HBo:=Lib.hid (below_up HB0.out HB.out)
    obtain ⟨LA,HLA⟩:∃ LA,Hid (LA=lookA ra l):=⟨_,Lib.hid rfl⟩
    obtain ⟨LB,HLB⟩:∃ LB,Hid (LB=lookB rb l):=⟨_,Lib.hid rfl⟩
    have HLAl:Hid (LA.length=ra.length):=Lib.hid (by rw [HLA.out];exact lookA_len _ _)
    have HLBl:Hid (LB.length=rb.length):=Lib.hid (by rw [HLB.out];exact lookB_len _ _)
    have HLAt:Hid (∀ i:Nat,i < ra.length→LA.take (i+1)=LA.take i ++ [keyR ra (i:Int) ps]):=Lib.hid (fun i h=>take_one _ i _ (by rw [HLA.out,Hps.out];exact lookA_at ra l i h))
    have HLBt:Hid (∀ i:Nat,i < rb.length→LB.take (i+1)=LB.take i ++ [keyR rb (i:Int) qs]):=Lib.hid (fun i h=>take_one _ i _ (by rw [HLB.out,Hqs.out];exact lookB_at rb l i h))
    clear CK1 CK2 box HP1 HQ1 HB HPl HQl Hps Hqs
    go_wp2_with fail
    go_loopw [11,12] (fun v i wr=>∃ (k cp:Nat) (co:Option Addr),k≤ra.length∧i=.int .i64 k∧v=.slice co k cp∧Hid (Below wo.heap.size wo wr)∧Hid (∃ vs,wr.ownsRow wo.heap.size 22 1 (.slice co k cp) k vs∧FitR wr (LA.take k) vs)) (fun _ i _=>ra.length - (intOf i).toNat)
    case atStart=>exact ⟨0,0,none,Nat.zero_le _,rfl,rfl,Lib.hid (Below.refl _ _),Lib.hid ⟨[],World.ownsRow_nil _ _ _ _,fitR_nil _⟩⟩
    case round =>
     obtain ⟨k,cp,co,hk,rfl,rfl,HB,HO⟩:=hrel
     obtain ⟨⟨a0,a1⟩,b0,b1⟩:=boxo.out wr HB.out
     by_cases hlt:k < ra.length
     · have D1:=Lib.hid (E1.out k wr HB.out)
       have HT:=Lib.hid (HLAt.out k hlt)
       generalize keyR ra (k:Int) ps=x at D1 HT
       go_wp2_with fail
       refine D1.out.mono ?_;rintro e w2 ⟨v,rfl,hv,b2⟩
       obtain ⟨vo,vn,vc,rfl⟩:=row_slice hv
       obtain ⟨vs,ho1,hf1⟩:=HO.out
       have HV:=Lib.hid hv
       have HB2:=Lib.hid (below_up HB.out b2)
       have HO2:=Lib.hid (ownsRow_below ho1 b2)
       have HF2:=Lib.hid (hf1.kept b2)
       have hone:=hv.one
       have HOa:=Lib.hid (HO2.out.alloc (.cells #[.slice vo vn vc] 22))
       have HFa:=Lib.hid (HF2.out.kept (one_below w2 (.cells #[.slice vo vn vc] 22)))
       have HVa:=Lib.hid (HV.out.kept (one_below w2 (.cells #[.slice vo vn vc] 22)))
       have hws:wo.heap.size≤(w2.alloc (.cells #[.slice vo vn vc] 22)).heap.size:=by have:=HB2.out.size;simp;omega
       have HBa:=Lib.hid (HB2.out.alloc HB2.out.size (.cells #[.slice vo vn vc] 22))
       clear hv b2 D1 ho1 hf1 HO HF2 HO2 HV a0 a1 b0 b1
       go_wp2_with (at_builtin;refine wpList_append_own _ rfl _ _ 23 rfl wo.heap.size 22 i1 (.slice none 0 0) 1 24 Tryz.underlying23 HI1.out hy0 hy1 hy2 rfl (by decide) _ _ _ rfl HOa.out ⟨w2.heap.size,0,none⟩ 1 1 [.slice vo vn vc] rfl rfl ?c1 ?c2 ?c3 ?c4 hws ?_)
       case c1=>exact src_one w2 _ 22
       case c2=>intro u hu;simp at hu;subst hu;exact hone
       case c3=>unfold maxLen;omega
       case c4=>omega
       intro v' w3 hown hgrow _
       obtain ⟨g,gc,rfl⟩:=ownsRow_succ hown
       have HB3:Hid (Below wo.heap.size wo w3):=Lib.hid (HBa.out.grown hgrow hws (fun j h=>(HOa.out.lt j h).1))
       have HO3:Hid (∃ vs,w3.ownsRow wo.heap.size 22 1 (.slice (some ⟨g,0,none⟩) (k+1) gc) (k+1) vs∧FitR w3 (LA.take (k+1)) vs):=Lib.hid ⟨_,hown,by
        rw [HT.out]
        have hfv:FitR (w2.alloc (.cells #[.slice vo vn vc] 22)) [x] [.slice vo vn vc]:=⟨rfl,fun i r u h1 h2=>by
         match i,h1,h2 with
         | 0,h1,h2=>simp at h1 h2;subst h1 h2;exact HVa.out,fun u hu=>by simp at hu;subst hu;exact hone⟩
        exact (fitR_app HFa.out hfv).turn HOa.out hgrow⟩
       clear hown hgrow HBa HOa HFa HVa hws hone HT
       go_wp2_with fail
       go_roundw
       case rel=>exact ⟨k+1,gc,_,by omega,by go_num,rfl,HB3,HO3⟩
       case measure=>simp [intOf];omega
     · obtain rfl:k=ra.length:=by omega
       obtain ⟨na,hna⟩:∃ na,na=ra.length:=⟨_,rfl⟩
       have hna2:na≤1024:=by omega
       have HO0:Hid (∃ vs,wr.ownsRow wo.heap.size 22 1 (.slice co (na+0) cp) (na+0) vs∧FitR wr (LA ++ LB.take 0) vs):=Lib.hid (by
        obtain ⟨vs,h1,h2⟩:=HO.out
        rw [List.take_of_length_le (by rw [HLAl.out];exact Nat.le_refl _)] at h2
        rw [hna];simp only [List.take_zero,List.append_nil,Nat.add_zero]
        exact ⟨vs,h1,h2⟩)
       clear HO E1 HLAt
       go_wp2_with fail
       rw [← hna]
       have HNa:=Lib.hid hna
       clear hna a0 a1 b0 b1
       go_loopw [11,13] (fun v i wr=>∃ (k cp:Nat) (co:Option Addr),k≤rb.length∧i=.int .i64 k∧v=.slice co (na+k) cp∧Hid (Below wo.heap.size wo wr)∧Hid (∃ vs,wr.ownsRow wo.heap.size 22 1 (.slice co (na+k) cp) (na+k) vs∧FitR wr (LA ++ LB.take k) vs)) (fun _ i _=>rb.length - (intOf i).toNat)
       case atStart=>exact ⟨0,cp,co,Nat.zero_le _,rfl,rfl,HB,HO0⟩
       case round =>
        clear HO0 HB
        obtain ⟨k,cp,co,hk,rfl,rfl,HB,HO⟩:=hrel
        obtain ⟨⟨a0,a1⟩,b0,b1⟩:=boxo.out wr HB.out
        by_cases hlt:k < rb.length
        · have D1:=Lib.hid (E2.out k wr HB.out)
          have HT:=Lib.hid (HLBt.out k hlt)
          generalize keyR rb (k:Int) qs=x at D1 HT
          go_wp2_with fail
          refine D1.out.mono ?_;rintro e w2 ⟨v,rfl,hv,b2⟩
          obtain ⟨vo,vn,vc,rfl⟩:=row_slice hv
          obtain ⟨vs,ho1,hf1⟩:=HO.out
          have HV:=Lib.hid hv
          have HB2:=Lib.hid (below_up HB.out b2)
          have HO2:=Lib.hid (ownsRow_below ho1 b2)
          have HF2:=Lib.hid (hf1.kept b2)
          have hone:=hv.one
          have HOa:=Lib.hid (HO2.out.alloc (.cells #[.slice vo vn vc] 22))
          have HFa:=Lib.hid (HF2.out.kept (one_below w2 (.cells #[.slice vo vn vc] 22)))
          have HVa:=Lib.hid (HV.out.kept (one_below w2 (.cells #[.slice vo vn vc] 22)))
          have hws:wo.heap.size≤(w2.alloc (.cells #[.slice vo vn vc] 22)).heap.size:=by have:=HB2.out.size;simp;omega
          have HBa:=Lib.hid (HB2.out.alloc HB2.out.size (.cells #[.slice vo vn vc] 22))
          clear hv b2 D1 ho1 hf1 HO HF2 HO2 HV a0 a1 b0 b1
          go_wp2_with (at_builtin;refine wpList_append_own _ rfl _ _ 23 rfl wo.heap.size 22 i1 (.slice none 0 0) 1 24 Tryz.underlying23 HI1.out hy0 hy1 hy2 rfl (by decide) _ _ _ rfl HOa.out ⟨w2.heap.size,0,none⟩ 1 1 [.slice vo vn vc] rfl rfl ?c1 ?c2 ?c3 ?c4 hws ?_)
          case c1=>exact src_one w2 _ 22
          case c2=>intro u hu;simp at hu;subst hu;exact hone
          case c3=>unfold maxLen;omega
          case c4=>omega
          intro v' w3 hown hgrow _
          obtain ⟨g,gc,rfl⟩:=ownsRow_succ hown
          have HB3:Hid (Below wo.heap.size wo w3):=Lib.hid (HBa.out.grown hgrow hws (fun j h=>(HOa.out.lt j h).1))
          have HO3:Hid (∃ vs,w3.ownsRow wo.heap.size 22 1 (.slice (some ⟨g,0,none⟩) (na+k+1) gc) (na+k+1) vs∧FitR w3 (LA ++ LB.take (k+1)) vs):=Lib.hid ⟨_,hown,by
           rw [HT.out,← List.append_assoc]
           have hfv:FitR (w2.alloc (.cells #[.slice vo vn vc] 22)) [x] [.slice vo vn vc]:=⟨rfl,fun i r u h1 h2=>by
            match i,h1,h2 with
            | 0,h1,h2=>simp at h1 h2;subst h1 h2;exact HVa.out,fun u hu=>by simp at hu;subst hu;exact hone⟩
           exact (fitR_app HFa.out hfv).turn HOa.out hgrow⟩
          clear hown hgrow HBa HOa HFa HVa hws hone HT
          go_wp2_with fail
          go_roundw
          case rel=>exact ⟨k+1,gc,_,by omega,by go_num,rfl,HB3,HO3⟩
          case measure=>simp [intOf];omega
        · obtain rfl:k=rb.length:=by omega
          obtain ⟨nb,hnb⟩:∃ nb,nb=rb.length:=⟨_,rfl⟩
          have hnb2:nb≤1024:=by omega
          rw [← hnb] at HO
          have HRT:Hid (RowsT wr co (LA ++ LB)):=Lib.hid (by
           obtain ⟨vs,h1,h2⟩:=HO.out
           rw [List.take_of_length_le (by rw [HLBl.out,hnb];exact Nat.le_refl _)] at h2
           exact rows_of_own h1 (by rw [List.length_append,HLAl.out,HLBl.out,HNa.out,hnb]) h2)
          obtain ⟨AL,HAL⟩:∃ AL,Hid (AL=LA ++ LB):=⟨_,Lib.hid rfl⟩
          have HLen:Hid (∀ y ∈ AL,y.length≤1024):=Lib.hid (fun y hy=>by
           rw [HAL.out,List.mem_append,HLA.out,HLB.out] at hy
           rcases hy with hy | hy
           · obtain ⟨i,_,rfl⟩:=List.mem_map.1 hy;rw [keyAt_len,List.length_map];exact hl
           · obtain ⟨i,_,rfl⟩:=List.mem_map.1 hy;rw [keyAt_len,List.length_map];exact hl)
          have HALl:Hid (AL.length=na+nb):=Lib.hid (by rw [HAL.out,List.length_append,HLAl.out,HLBl.out,HNa.out,hnb])
          rw [← HAL.out] at HRT
          obtain ⟨wp,hwp⟩:∃ wp:World,wp=wr:=⟨_,rfl⟩
          subst hwp
          clear HO E2 HLBt
          go_wp2_with fail
          rw [← hnb]
          have HNb:=Lib.hid hnb
          clear hnb a0 a1 b0 b1
          obtain ⟨N,hN⟩:∃ N,N=na+nb:=⟨_,rfl⟩
          have hN2:N≤2048:=by omega
          rw [← hN]
          rw [← hN] at HALl
          have HN:=Lib.hid hN
          obtain ⟨CS,HCS⟩:∃ CS:List Value,Hid (CS=(AL.map (codeB AL)).map Value.string):=⟨_,Lib.hid rfl⟩
          have HCn:Hid (∀ (k:Nat) x,AL[k]?=some x→CS.take (k+1)=CS.take k ++ [.string (codeB AL x)]):=Lib.hid (fun k x h=>take_one _ k _ (by rw [HCS.out];simp [h]))
          clear hN
          go_loopw [14,15] (fun v i wr=>∃ (k oc:Nat) (oo:Option Addr),k≤N∧i=.int .i64 k∧v=.slice oo k oc∧Hid (Below wp.heap.size wp wr)∧Hid (wr.ownsRow wp.heap.size 9 1 (.slice oo k oc) k (CS.take k))) (fun _ i _=>N - (intOf i).toNat)
          case atStart=>exact ⟨0,0,none,Nat.zero_le _,rfl,rfl,Lib.hid (Below.refl _ _),Lib.hid (World.ownsRow_nil _ _ _ _)⟩
          case round =>
           obtain ⟨k,oc,oo,hk,rfl,rfl,HBr,HO⟩:=hrel
           by_cases hlt:k < N
           · obtain ⟨x,hx⟩:∃ x,AL[k]?=some x:=⟨_,List.getElem?_eq_getElem (by rw [HALl.out];exact hlt)⟩
             have HX:=Lib.hid hx
             rcases (HRT.out.rows.kept HBr.out) with h0 | ⟨A,rfl,hA,hcell⟩
             · rw [h0] at hx;simp at hx
             have HCell:Hid (∀ V,Below wr.heap.size wr V→∀ (j:Nat) y,AL[j]?=some y→∃ (yo:Option Addr) (yc:Nat),V.cell? (A.add j)=some (.slice yo y.length yc)∧StrRow V yo y):=Lib.hid (fun V h j y hy=>by
              obtain ⟨yo,yc,h1,h2⟩:=hcell j y hy
              exact ⟨yo,yc.1,(h.cell (p:=A.add j) (by rw [add_block];exact hA)).trans h1,h2.kept h⟩)
             have HTk:=Lib.hid (HCn.out k x hx)
             have hpl:=place_le AL x k hx
             have HPb:=Lib.hid (fun (j:Nat) y (hj:j < placeR AL x) (hy:AL[j]?=some y)=>place_before AL x y j hj hy)
             have HPa:=Lib.hid (place_at AL x (List.mem_of_getElem? hx))
             have HCd:Hid (codeB AL x=⟨#[UInt8.ofNat (placeR AL x / 256),UInt8.ofNat (placeR AL x % 256)]⟩):=Lib.hid rfl
             generalize codeB AL x=cx at HTk HCd
             generalize placeR AL x=px at hpl HPb HPa HCd
             clear hcell hx
             have hpk:px≤2048:=by omega
             go_wp2_with fail
             obtain ⟨wq,hwq⟩:∃ wq:World,wq=wr:=⟨_,rfl⟩
             subst hwq
             go_loopw [17] (fun i wr=>∃ j:Nat,j≤px∧i=.int .i64 j∧Hid (Below wq.heap.size wq wr)) (fun i _=>px+1 - (intOf i).toNat)
             case atStart=>exact ⟨0,Nat.zero_le _,rfl,Lib.hid (Below.refl _ _)⟩
             case round =>
              obtain ⟨j,hj,rfl,HBj⟩:=hrel
              obtain ⟨y,hy⟩:∃ y,AL[j]?=some y:=⟨_,List.getElem?_eq_getElem (by rw [HALl.out];omega)⟩
              obtain ⟨yo,yc,d1,d2⟩:=HCell.out wr HBj.out j y hy
              obtain ⟨xo,xc,d3,d4⟩:=HCell.out wr HBj.out k x HX.out
              have hjk:(j:Int)≤(k:Int):=by omega
              have hyl:y.length≤1099511627776:=by have:=HLen.out y (List.mem_of_getElem? hy);omega
              have hj0:(0:Int)≤(j:Int):=by omega
              have hjN:(j:Int) < (N:Int):=by omega
              have hk0:(0:Int)≤(k:Int):=by omega
              have hkN:(k:Int) < (N:Int):=by omega
              have E3:=Lib.hid (fun V (h:Below wr.heap.size wr V)=>CR.out yo xo yc xc y x V hyl (d2.kept h) (d4.kept h))
              rw [same_iff] at E3
              have HBel:Hid (Below wr.heap.size wr wr.drew):=Lib.hid ((Below.refl _ _).drew)
              clear hyl d2 d4
              go_upto_region 25 with fail
              go_region_held3 (fun V=>V.cell? (A.add j)=some (.slice yo y.length yc)∧V.cell? (A.add k)=some (.slice xo x.length xc)) ((refine ⟨?_,?_⟩ <;> first | assumption | go_keep))
               (first
                | (go_at_call 37;refine (E3.out _ HBel.out).mono ?_;rintro e wC ⟨rfl,bC⟩;have HBel:=Lib.hid (below_up HBel.out bC);have d1:=(HBel.out.cell (p:=A.add j) (block_lt_of_cell d1)).trans d1;have d3:=(HBel.out.cell (p:=A.add k) (block_lt_of_cell d3)).trans d3;clear bC))
              rename_i hHeld
              clear hHeld
              have HB5:=Lib.hid (below_up HBj.out HBel.out)
              clear E3 HBj d1 d3
              by_cases hjp:j=px
              · subst hjp
                have hyx:y=x:=by rw [HPa.out] at hy;exact (Option.some.inj hy).symm
                rw [decide_eq_true hyx]
                clear hy hyx HPa HPb
                obtain ⟨BO,hBO⟩:∃ BO:Obj,BO=.cells #[.int .u8 ((j:Int) / 256),.int .u8 ((j:Int) % 256)] 5:=⟨_,rfl⟩
                have hcv:(convert 144 9 (.slice (some ⟨wC.heap.size,0,none⟩) 2 2)).run Tryz.prog (wC.alloc BO)=.ok (.string cx) (wC.alloc BO):=by
                 rw [HCd.out]
                 refine run_convert_bytes_back _ 144 9 5 ⟨wC.heap.size,0,none⟩ 2 [UInt8.ofNat (j / 256),UInt8.ofNat (j % 256)] Tryz.underlying144 Tryz.underlying5 Tryz.underlying9 (fun i hi=>?_)
                 rw [hBO]
                 match i,hi with
                 | 0,_ =>
                  rw [cell_row (World.alloc_heap_new wC _)]
                  simp only [List.getElem_cons_zero,UInt8.toNat_ofNat']
                  exact congrArg (fun z=>some (Value.int .u8 z)) (by omega)
                 | 1,_ =>
                  rw [cell_row (World.alloc_heap_new wC _)]
                  simp only [List.getElem_cons_succ,List.getElem_cons_zero,UInt8.toNat_ofNat']
                  exact congrArg (fun z=>some (Value.int .u8 z)) (by omega)
                have HOC:=Lib.hid (ownsRow_below HO.out HB5.out)
                have HOa:=Lib.hid ((HOC.out.alloc BO).alloc (.cells #[.string cx] 9))
                have HBp:=Lib.hid (below_up HBr.out HB5.out)
                have hws:wp.heap.size≤((wC.alloc BO).alloc (.cells #[.string cx] 9)).heap.size:=by have:=HBp.out.size;simp;omega
                have HBa:=Lib.hid ((HBp.out.alloc HBp.out.size BO).alloc (by have:=HBp.out.size;simp;omega) (.cells #[.string cx] 9))
                subst hBO
                go_wp2_with (at_builtin;refine wpList_append_own _ rfl _ _ 22 rfl wp.heap.size 9 i2 (.string ⟨#[]⟩) 1 16 Tryz.underlying22 HI2.out hx0 hx1 hx2 rfl (by decide) _ _ _ rfl HOa.out ⟨wC.heap.size+1,0,none⟩ 1 1 [.string cx] rfl rfl ?c1 ?c2 ?c3 ?c4 hws ?_)
                case c1 =>
                 have:=src_one (wC.alloc (.cells #[.int .u8 ((j:Int) / 256),.int .u8 ((j:Int) % 256)] 5)) (.string cx) 9
                 rw [World.size_alloc] at this;exact this
                case c2=>intro u hu;simp at hu;subst hu;rfl
                case c3=>unfold maxLen;omega
                case c4=>omega
                intro v' w3 hown hgrow _
                obtain ⟨g,gc,rfl⟩:=ownsRow_succ hown
                have HB6:Hid (Below wp.heap.size wp w3):=Lib.hid (HBa.out.grown hgrow hws (fun j h=>(HOa.out.lt j h).1))
                have HO6:Hid (w3.ownsRow wp.heap.size 9 1 (.slice (some ⟨g,0,none⟩) (k+1) gc) (k+1) (CS.take (k+1))):=Lib.hid (by rw [HTk.out];exact hown)
                clear hown hgrow HBa HOa hws hcv HOC HBp HTk HCd
                go_wp2_with fail
                go_roundw
                case rel=>exact ⟨k+1,gc,_,by omega,by go_num,rfl,HB6,HO6⟩
                case measure=>simp [intOf];omega
              · have hyx:¬ y=x:=HPb.out j y (by omega) hy
                rw [decide_eq_false hyx]
                clear hy hyx
                go_wp2_with fail
                go_roundw
                case rel=>exact ⟨j+1,by omega,by go_num,HB5⟩
                case measure=>simp [intOf];omega
           · obtain rfl:k=N:=by omega
             have HNs:=HN.out
             have hl1:(LA.map (codeB AL)).length=na:=by rw [List.length_map,HLAl.out,HNa.out]
             have hl2:(LB.map (codeB AL)).length=nb:=by rw [List.length_map,HLBl.out,HNb.out]
             have hcs:CS.take k=((LA.map (codeB AL)) ++ (LB.map (codeB AL))).map Value.string:=by
              rw [List.take_of_length_le (by rw [HCS.out,List.length_map,List.length_map,HALl.out];exact Nat.le_refl _),HCS.out,HAL.out,List.map_append]
             obtain ⟨X,HX⟩:∃ X,Hid (X=LA.map (codeB AL)):=⟨_,Lib.hid rfl⟩
             obtain ⟨Y,HY⟩:∃ Y,Hid (Y=LB.map (codeB AL)):=⟨_,Lib.hid rfl⟩
             rw [← HX.out] at hl1 hcs
             rw [← HY.out] at hl2 hcs
             have HFin:Hid (∀ (ao bo:Option Addr) (ca cb:Nat) (V:World),StrRow V ao X→StrRow V bo Y→Below wp.heap.size wp V→NamesOf (lookA ra l ++ lookB rb l) (lookA ra l) (lookB rb l) w (.returned (.tuple #[.slice ao na ca,.slice bo nb cb])) V):=Lib.hid (fun ao bo ca cb V h1 h2 h3=>by
              have e1:lookA ra l ++ lookB rb l=AL:=by rw [HAL.out,HLA.out,HLB.out]
              refine ⟨ao,bo,ca,cb,?_,?_,?_,below_up HBo.out (below_up HB.out h3)⟩
              · rw [lookA_len,lookB_len,HNa.out,HNb.out]
              · rw [e1,← HLA.out,← HX.out];exact h1
              · rw [e1,← HLB.out,← HY.out];exact h2)
             obtain ⟨⟨a0,a1⟩,b0,b1⟩:=boxo.out wr (below_up HB.out HBr.out)
             rw [← HNa.out] at a1
             rcases HO.out.2 with ⟨hv,h0⟩ | ⟨g,c,cur,hv,hbase,hg,hn,_,hcu,htk⟩
             · simp only [Value.slice.injEq] at hv
               obtain ⟨rfl,-,rfl⟩:=hv
               have ha0:na=0:=by omega
               have hb0:nb=0:=by omega
               subst ha0 hb0
               have hX0:X=[]:=List.eq_nil_of_length_eq_zero hl1
               have hY0:Y=[]:=List.eq_nil_of_length_eq_zero hl2
               clear HO hcs hl1 hl2 h0 HCS HCn HRT HLen
               go_upto_region 29 with fail
               go_quiet (fail)
               have HE:=Lib.hid (HFin.out none none 0 0 (wr.drewN nq) (by rw [hX0];exact .inl rfl) (by rw [hY0];exact .inl rfl) (bdn (n:=nq) HBr.out))
               clear HFin
               go_wp2_with fail
               refine bodyPost_ret (v:=.tuple #[.slice none 0 0,.slice none 0 0]) (by simp [results,Tryz.results49,go_sem]) rfl ?_
               exact HE.out
             · simp only [Value.slice.injEq] at hv
               obtain ⟨rfl,-,rfl⟩:=hv
               have hrow:=HO.out
               rw [hcs] at hrow
               have HR1:Hid (StrRow wr (some ⟨g,0,none⟩) X):=Lib.hid (.inr ⟨⟨g,0,none⟩,rfl,lt_of_heap hg,fun i x hx=>by
                have hi:=(List.getElem?_eq_some_iff.1 hx).1
                exact hrow.cells rfl i (.string x) (by rw [List.getElem?_map,List.getElem?_append_left hi,hx];rfl)⟩)
               have HR2:Hid (StrRow wr (some ⟨g,na,none⟩) Y):=Lib.hid (.inr ⟨⟨g,na,none⟩,rfl,lt_of_heap hg,fun i x hx=>by
                have hi:=(List.getElem?_eq_some_iff.1 hx).1
                have:=hrow.cells rfl (na+i) (.string x) (by rw [List.getElem?_map,List.getElem?_append_right (by omega),hl1,show na+i - na=i by omega,hx];rfl)
                have e1:(⟨g,0,none⟩:Addr).add (na+i)=⟨g,na+i,none⟩:=by unfold Addr.add;split <;> simp_all
                have e2:(⟨g,na,none⟩:Addr).add i=⟨g,na+i,none⟩:=by unfold Addr.add;split <;> simp_all
                rw [e2,← e1];exact this⟩)
               have h01:(0:Int)≤(na:Int):=by omega
               have h02:(na:Int)≤(oc:Int):=by omega
               have h03:(na:Int)≤(k:Int):=by omega
               have h04:(k:Int)≤(oc:Int):=by omega
               have h05:IntKind.i64.wrap ((k:Int) - (na:Int))=((nb:Nat):Int):=by rw [IntWalk.i64_in _ (by omega)];omega
               have HYl:=Lib.hid hl2
               clear HO hrow hcs hl1 hl2 HCS HCn HRT HLen hg hcu htk hbase
               go_upto_region 29 with fail
               go_quiet (fail)
               obtain ⟨bo3,hbo⟩:∃ bo3,bo3=(if oc=na then some (⟨g,0,none⟩:Addr) else some ⟨g,na,none⟩):=⟨_,rfl⟩
               rw [← hbo]
               have HE:=Lib.hid (HFin.out (some ⟨g,0,none⟩) bo3 oc (oc - na) (wr.drewN nq) (HR1.out.kept (bdn (n:=nq) (Below.refl _ _))) (by
                rw [hbo]
                by_cases he:oc=na
                · exact .inl (List.eq_nil_of_length_eq_zero (by rw [HYl.out];omega))
                · rw [if_neg he];exact HR2.out.kept (bdn (n:=nq) (Below.refl _ _))) (bdn (n:=nq) HBr.out))
               clear HFin hbo HR1 HR2
               go_wp2_with fail
               refine bodyPost_ret (v:=.tuple #[.slice (some ⟨g,0,none⟩) na oc,.slice bo3 nb (oc - na)]) (by simp [results,Tryz.results49,go_sem]) rfl ?_
               exact HE.out
end
end Go.Proofs.YtdenehnneloegaaGreatDoor
