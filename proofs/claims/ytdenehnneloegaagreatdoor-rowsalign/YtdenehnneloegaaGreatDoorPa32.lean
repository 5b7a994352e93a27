/-
  Texts of these rows' proofs, laid one behind the other: ISym3, IStable.
  Conditions: those of each theorem.
-/
import Derived.WalkKit
import Derived.WalkMore
import Derived.IntWalk
import Derived.RegionTactic
import Derived.BigRegion
import Derived.Lib.Hide
import Derived.StillTailTactics
import Derived.BigQuiet
import Derived.Deep.QuietTactic
import Derived.Deep.Cut
import Derived.Deep.CutRange
import Derived.Test.YtdenehnneloegaaGreatDoorProg
import Derived.Test.YtdenehnneloegaaGreatDoorPa30
import Derived.Test.YtdenehnneloegaaGreatDoorPa31
namespace Go.Proofs.YtdenehnneloegaaGreatDoor
set_option linter.unusedVariables false
set_option maxRecDepth 100000
set_option maxHeartbeats 8000000
section
open Go.RowKit Go.Shelf
def SymZ (w0:World) (Kg:Int × Int→Prop) (G:FuncId) (cap0:Value) (d:Nat):Prop:=∀ (base g n:Nat) (hC:CmpOK w0 g Kg G cap0) (P A B R:PL) (a m b:Nat) (w:World),n≤274877906944→A.length+B.length≤d→a=P.length→m=a+A.length→b=m+B.length→0 < A.length→0 < B.length→Sorted A→Sorted B→OwnZ w0 Kg w base g n (P ++ A ++ B ++ R) →
 Calls Tryz.prog 187 #[.slice (some ⟨g,0,none⟩) n n,.int .i64 a,.int .i64 m,.int .i64 b,.func (.func G) #[] #[cap0]] w fun e w'=>e=.returned (.tuple #[])∧OwnZ w0 Kg w' base g n (P ++ sortB (A ++ B) ++ R)∧w.grownBy w' (some g)
theorem symZ3_any (w0:World) (Kg:Int × Int→Prop) (G:FuncId) (cap0:Value) (hent:∀ args w,(callFunc G args).run Tryz.prog w=.ok (.enter G args) w) (d base g n:Nat) (hC:CmpOK w0 g Kg G cap0) (P A B R:PL) (a m b:Nat) (w:World) (hn:n≤274877906944) (ha:a=P.length) (hm:m=a+A.length) (hb:b=m+B.length) (hA2:2≤A.length) (hB2:2≤B.length) (hA:Sorted A) (hB:Sorted B) (hd:A.length+B.length≤d+1) (ih:SymZ w0 Kg G cap0 d) (hO:OwnZ w0 Kg w base g n (P ++ A ++ B ++ R)) :
 Calls Tryz.prog 187 #[.slice (some ⟨g,0,none⟩) n n,.int .i64 a,.int .i64 m,.int .i64 b,.func (.func G) #[] #[cap0]] w fun e w'=>e=.returned (.tuple #[])∧OwnZ w0 Kg w' base g n (P ++ sortB (A ++ B) ++ R)∧w.grownBy w' (some g):=by
 have hl:=hO.len
 simp only [List.length_append] at hl
 have C:=Lib.hid hC
 have hbn:b≤n:=by omega
 have ham:a+2≤m:=by omega
 have hmb:m+2≤b:=by omega
 obtain ⟨z,hz⟩:∃ z,z=m - a:=⟨_,rfl⟩
 obtain ⟨y,hy⟩:∃ y,y=b - m:=⟨_,rfl⟩
 obtain ⟨mid,hmid⟩:∃ mid,mid=(a+b) / 2:=⟨_,rfl⟩
 have hs0:(m:Int) - (a:Int)=(z:Int):=by omega
 have hw0:IntKind.i64.wrap ((m:Int) - (a:Int))=(z:Int):=by rw [IntWalk.i64_in _ (by omega)];exact hs0
 have hz1:((z:Int) == 1)=false:=by simp;omega
 have hz2:¬ z=1:=by omega
 have hs1:(b:Int) - (m:Int)=(y:Int):=by omega
 have hw1:IntKind.i64.wrap ((b:Int) - (m:Int))=(y:Int):=by rw [IntWalk.i64_in _ (by omega)];exact hs1
 have hy1:((y:Int) == 1)=false:=by simp;omega
 have hy2:¬ y=1:=by omega
 have hmd:((a:Int)+(b:Int)) / 2=(mid:Int):=by omega
 obtain ⟨nn,hnn⟩:∃ nn,nn=mid+m:=⟨_,rfl⟩
 have hsn:(mid:Int)+(m:Int)=(nn:Int):=by omega
 have hwn:IntKind.i64.wrap ((mid:Int)+(m:Int))=(nn:Int):=by rw [IntWalk.i64_in _ (by omega)];exact hsn
 obtain ⟨p,hp⟩:∃ p,p=nn - 1:=⟨_,rfl⟩
 have hsp:(nn:Int) - 1=(p:Int):=by omega
 have hwp:IntKind.i64.wrap ((nn:Int) - 1)=(p:Int):=by rw [IntWalk.i64_in _ (by omega)];exact hsp
 have hamid:a < mid:=by omega
 have hmidb:mid < b:=by omega
 have HMd:=Lib.hid hmid
 have HNn:=Lib.hid hnn
 have HPp:=Lib.hid hp
 have HPl:=Lib.hid ha
 have HMl:=Lib.hid hm
 have HBl:=Lib.hid hb
 have HO0:=Lib.hid hO
 have HA:=Lib.hid hA
 have HB:=Lib.hid hB
 have HIH:=Lib.hid ih
 have HAt:Hid (∀ (h t:Nat) q,h=a+t→A[t]?=some q→(P ++ A ++ B ++ R)[h]?=some q):=Lib.hid (fun h t q hh hq=>by
  have h1:=(List.getElem?_eq_some_iff.1 hq).1
  rw [List.append_assoc,List.getElem?_append_left (by simp;omega),List.getElem?_append_right (by omega),show h - P.length=t from by omega];exact hq)
 have HBt:Hid (∀ (h t:Nat) q,h=m+t→B[t]?=some q→(P ++ A ++ B ++ R)[h]?=some q):=Lib.hid (fun h t q hh hq=>by
  have h1:=(List.getElem?_eq_some_iff.1 hq).1
  rw [List.append_assoc,List.getElem?_append_right (by simp;omega),List.getElem?_append_left (by simp;omega)]
  simp only [List.length_append];rw [show h - (P.length+A.length)=t from by omega];exact hq)
 clear hC hO hA hB ih hz hy hmid hnn hp ha hm hb hl
 generalize hDD:P ++ A ++ B ++ R=D at HAt HBt HO0
 have HDD:=Lib.hid hDD
 clear hDD
 go_enter Tryz.func187,Tryz.ntmps187
 go_upto_if 140 with fail
 clear hs0 hw0 hz1 hz2 hs1 hw1 hy1 hy2 hsn hwn hmd
 go_cut [20,21,140] from 141 to 146 (fun u v _ wc=>∃ lo hi:Nat,u=.int .i64 lo∧v=.int .i64 hi∧lo≤hi∧Hid (a≤lo∧hi≤m∧hi≤nn∧m≤nn - hi∧nn - lo≤b∧(lo=a∨nn - lo=b)∧(hi=m∨nn - hi=m))∧Hid (wc=w))
 case first =>
  have hNN:=HNn.out
  have hMM:=HMd.out
  by_cases hmm:mid < m
  · obtain ⟨nb,hnb⟩:∃ nb,nb=nn - b:=⟨_,rfl⟩
    have hsb:(nn:Int) - (b:Int)=(nb:Int):=by omega
    have hwb:IntKind.i64.wrap ((nn:Int) - (b:Int))=(nb:Int):=by rw [IntWalk.i64_in _ (by omega)];exact hsb
    have HR:Hid (a≤nb∧mid≤m∧mid≤nn∧m≤nn - mid∧nn - nb≤b∧(nb=a∨nn - nb=b)∧(mid=m∨nn - mid=m)):=Lib.hid (by refine ⟨?_,?_,?_,?_,?_,.inr ?_,.inr ?_⟩ <;> omega)
    have hlh:nb≤mid:=by omega
    clear hnb hNN hMM
    go_wp2_with fail
    go_meet
    exact ⟨nb,mid,by first | rfl | go_num,rfl,hlh,HR,Lib.hid rfl⟩
  · have hlh:a≤m:=by omega
    have HMm:=Lib.hid hmm
    clear hNN hMM
    go_wp2_with fail
    go_meet
    exact ⟨a,m,rfl,rfl,hlh,Lib.hid (by have:=HNn.out;have:=HMd.out;have:=HMm.out;refine ⟨?_,?_,?_,?_,?_,.inl rfl,.inl rfl⟩ <;> omega),Lib.hid rfl⟩
 case rest =>
  obtain ⟨lo,hi,rfl,rfl,hlh,HR,HW⟩:=hcut
  have hW:=HW.out
  rw [hW]
  clear hW HW
  have hnp:nn=p+1:=by have:=HPp.out;have:=HNn.out;omega
  have HNp:=Lib.hid hnp
  have hnn2:nn≤549755813888:=by have:=HNn.out;omega
  clear hnp
  go_wp2_with fail
  clear hsp hwp
  go_loopw [20,21] (fun u v wr=>∃ (i j:Nat),lo≤i∧i≤j∧j≤hi∧u=.int .i64 i∧v=.int .i64 j∧Hid (OwnZ w0 Kg wr base g n D)∧Hid (w.grownBy wr (some g))∧Hid (i=lo∨∃ x y,A[i - 1 - a]?=some x∧B[nn - i - m]?=some y∧x.2≤y.2)∧Hid (j=hi∨∃ x y,A[j - a]?=some x∧B[nn - j - 1 - m]?=some y∧y.2 < x.2)) (fun u v _=>(intOf v).toNat - (intOf u).toNat)
  case atStart=>exact ⟨lo,hi,Nat.le_refl _,hlh,Nat.le_refl _,rfl,rfl,HO0,Lib.hid ⟨rfl,rfl,rfl,Nat.le_refl _,fun _ _ _=>rfl⟩,Lib.hid (.inl rfl),Lib.hid (.inl rfl)⟩
  case round =>
   obtain ⟨i,j,hli,hij,hjh,rfl,rfl,HO,HGr,HI,HJ⟩:=hrel
   clear HO0
   by_cases hlt:i < j
   · obtain ⟨h,hh⟩:∃ h,h=(i+j) / 2:=⟨_,rfl⟩
     have hz:((i:Int)+(j:Int)) / 2=(h:Int):=by omega
     have h1:i≤h:=by omega
     have h2:h < j:=by omega
     obtain ⟨r1,r2,r3,r4,r5,_,_⟩:=HR.out
     have hNp:=HNp.out
     obtain ⟨ph,hph⟩:∃ ph,ph=p - h:=⟨_,rfl⟩
     obtain ⟨⟨x1,x2⟩,hx⟩:∃ q,A[h - a]?=some q:=⟨_,List.getElem?_eq_getElem (by have:=HMl.out;omega)⟩
     obtain ⟨⟨y1,y2⟩,hy⟩:∃ q,B[ph - m]?=some q:=⟨_,List.getElem?_eq_getElem (by have:=HBl.out;omega)⟩
     have hc1:=HO.out.cell h _ (HAt.out h (h - a) _ (by omega) hx)
     have kc:=HO.out.at h _ (HAt.out h (h - a) _ (by omega) hx)
     have hd1:=HO.out.cell ph _ (HBt.out ph (ph - m) _ (by omega) hy)
     have kd:=HO.out.at ph _ (HBt.out ph (ph - m) _ (by omega) hy)
     dsimp only at hc1 hd1
     have hhn:h < n:=by omega
     have hpn:ph < n:=by omega
     have hsp:(p:Int) - (h:Int)=(ph:Int):=by omega
     have hwp:IntKind.i64.wrap ((p:Int) - (h:Int))=(ph:Int):=by rw [IntWalk.i64_in _ (by omega)];exact hsp
     have hwq:IntKind.i64.wrap (ph:Int)=(ph:Int):=IntWalk.i64_in _ (by omega)
     have C1:=Lib.hid (C.out y1 y2 x1 x2 kd kc wr.drew (grown_trans HO.out.grown (grown_drewN wr 1 _)))
     have hneg:=cmpI_neg y2 x2
     have HX:Hid (A[h - a]?=some (x1,x2)):=Lib.hid hx
     have HY:Hid (B[nn - h - 1 - m]?=some (y1,y2)):=Lib.hid (by rw [show nn - h - 1 - m=ph - m from by omega];exact hy)
     clear hh hy hx hph r1 r2 r3 r4 r5 hNp
     generalize cmpI y2 x2=cc at hneg C1
     go_upto_region 35 with fail
     go_still_tail 11,(by kernel_rfl)
     rw [show ({ heap:=wr.heap,tape:=wr.tape,drawn:=wr.drawn+1,os:=wr.os,output:=wr.output }:World)=wr.drew from rfl]
     by_cases hlt2:y2 < x2
     · have hc0:cc < 0:=by rw [decide_eq_true hlt2] at hneg;exact of_decide_eq_true hneg
       have hcd:decide (cc < 0)=true:=decide_eq_true hc0
       have hce:(!decide (cc < 0))=false:=by rw [hcd];rfl
       have HJ2:Hid (h=hi∨∃ x y,A[h - a]?=some x∧B[nn - h - 1 - m]?=some y∧y.2 < x.2):=Lib.hid (.inr ⟨_,_,HX.out,HY.out,hlt2⟩)
       clear hneg hlt2
       go_wp2_with fail
       refine C1.out.mono ?_;rintro e w2 ⟨rfl,b1⟩
       have b2:Below wr.heap.size wr w2:=below_up (bdn (n:=1) (Below.refl _ wr)) b1
       have HO2:=Lib.hid (HO.out.kept b2)
       have HG2:=Lib.hid (grown_trans HGr.out (grown_below b2))
       clear b1 b2 hc1 hd1 HO HGr
       go_wp2_with fail
       go_roundw
       case rel=>exact ⟨i,h,hli,h1,by omega,rfl,by first | rfl | go_num,HO2,HG2,HI,HJ2⟩
       case measure=>simp [intOf];omega
     · have hc0:¬ cc < 0:=by rw [decide_eq_false hlt2] at hneg;exact of_decide_eq_false hneg
       have hcd:decide (cc < 0)=false:=decide_eq_false hc0
       have hce:(!decide (cc < 0))=true:=by rw [hcd];rfl
       have HI2:Hid (h+1=lo∨∃ x y,A[h+1 - 1 - a]?=some x∧B[nn - (h+1) - m]?=some y∧x.2≤y.2):=Lib.hid (.inr ⟨_,_,HX.out,by rw [show nn - (h+1) - m=nn - h - 1 - m from by omega];exact HY.out,by show x2≤y2;omega⟩)
       clear hneg hlt2
       go_wp2_with fail
       refine C1.out.mono ?_;rintro e w2 ⟨rfl,b1⟩
       have b2:Below wr.heap.size wr w2:=below_up (bdn (n:=1) (Below.refl _ wr)) b1
       have HO2:=Lib.hid (HO.out.kept b2)
       have HG2:=Lib.hid (grown_trans HGr.out (grown_below b2))
       clear b1 b2 hc1 hd1 HO HGr
       go_wp2_with fail
       go_roundw
       case rel=>exact ⟨h+1,j,by omega,by omega,hjh,by go_num,rfl,HO2,HG2,HI2,HJ⟩
       case measure=>simp [intOf];omega
   · obtain rfl:i=j:=by omega
     clear hlt
     obtain ⟨r1,r2,r3,r4,r5,r6,r7⟩:=HR.out
     obtain ⟨e,he⟩:∃ e,e=nn - i:=⟨_,rfl⟩
     have hai:a≤i:=by omega
     have him:i≤m:=by omega
     have hme:m≤e:=by omega
     have heb:e≤b:=by omega
     have hpA:=HMl.out
     have hpB:=HBl.out
     have hpP:=HPl.out
     obtain ⟨A1,HA1⟩:∃ A1,Hid (A1=A.take (i - a)):=⟨_,Lib.hid rfl⟩
     obtain ⟨A2,HA2⟩:∃ A2,Hid (A2=A.drop (i - a)):=⟨_,Lib.hid rfl⟩
     obtain ⟨B1,HB1⟩:∃ B1,Hid (B1=B.take (e - m)):=⟨_,Lib.hid rfl⟩
     obtain ⟨B2,HB2⟩:∃ B2,Hid (B2=B.drop (e - m)):=⟨_,Lib.hid rfl⟩
     have eA:A1 ++ A2=A:=by rw [HA1.out,HA2.out];exact List.take_append_drop _ _
     have eB:B1 ++ B2=B:=by rw [HB1.out,HB2.out];exact List.take_append_drop _ _
     have lA1:A1.length=i - a:=by rw [HA1.out,List.length_take];omega
     have lA2:A2.length=m - i:=by rw [HA2.out,List.length_drop];omega
     have lB1:B1.length=e - m:=by rw [HB1.out,List.length_take];omega
     have lB2:B2.length=b - e:=by rw [HB2.out,List.length_drop];omega
     have h12:∀ u ∈ A1,∀ v ∈ B2,u.2≤v.2:=fun u hu v hv=>by
      rw [HA1.out] at hu;rw [HB2.out] at hv
      obtain ⟨k1,g1,g2⟩:=take_at hu
      obtain ⟨k2,g3,g4⟩:=drop_atP hv
      rcases HI.out with h | ⟨x,y,hx,hy,hxy⟩
      · have:=(List.getElem?_eq_some_iff.1 g4).1
        exfalso;omega
      · have q1:=sorted_le HA.out k1 (i - 1 - a) u x g2 hx (by omega)
        have q2:=sorted_le HB.out (nn - i - m) k2 y v hy g4 (by omega)
        omega
     have h21:∀ u ∈ B1,∀ v ∈ A2,u.2 < v.2:=fun u hu v hv=>by
      rw [HB1.out] at hu;rw [HA2.out] at hv
      obtain ⟨k1,g1,g2⟩:=take_at hu
      obtain ⟨k2,g3,g4⟩:=drop_atP hv
      rcases HJ.out with h | ⟨x,y,hx,hy,hxy⟩
      · have:=(List.getElem?_eq_some_iff.1 g4).1
        exfalso;omega
      · have q1:=sorted_le HB.out k1 (nn - i - 1 - m) u y g2 hy (by omega)
        have q2:=sorted_le HA.out (i - a) k2 x v hx g4 (by omega)
        omega
     have hParts:=sortB_parts A1 A2 B1 B2 (by rw [eA];exact HA.out) (by rw [eB];exact HB.out) h12 h21
     rw [eA,eB] at hParts
     have HParts:=Lib.hid hParts
     have sA1:Sorted A1:=by rw [HA1.out];exact sorted_take HA.out _
     have sA2:Sorted A2:=by rw [HA2.out];exact sorted_drop HA.out _
     have sB1:Sorted B1:=by rw [HB1.out];exact sorted_take HB.out _
     have sB2:Sorted B2:=by rw [HB2.out];exact sorted_drop HB.out _
     have HO1:Hid (OwnZ w0 Kg wr base g n (P ++ A1 ++ A2 ++ B1 ++ B2 ++ R)):=Lib.hid (by have:=HO.out;rw [← HDD.out,← eA,← eB] at this;simpa using this)
     have hle:Hid (mid=a+A1.length+B1.length∧e=mid+A2.length):=Lib.hid (by have:=HNn.out;omega)
     have HL1:=Lib.hid lA1
     have HL2:=Lib.hid lA2
     have HL3:=Lib.hid lB1
     have HL4:=Lib.hid lB2
     have HS1:=Lib.hid sA1
     have HS2:=Lib.hid sA2
     have HS3:=Lib.hid sB1
     have HS4:=Lib.hid sB2
     have hse:(nn:Int) - (i:Int)=(e:Int):=by omega
     have hwe:IntKind.i64.wrap ((nn:Int) - (i:Int))=(e:Int):=by rw [IntWalk.i64_in _ (by omega)];exact hse
     have hen:e≤n:=by omega
     clear eA eB lA1 lA2 lB1 lB2 h12 h21 hParts sA1 sA2 sB1 sB2 he hpA hpB hpP HO HI HJ HR r1 r2 r3 r4 r5 r6 r7 HAt HBt HA HB HDD
     obtain ⟨c1,Hc1⟩:∃ c:Bool,Hid (c=decide (i < m∧m < e)):=⟨_,Lib.hid rfl⟩
     go_upto_region 39 with fail
     clear hse hwe
     go_cut [185] from 178 to 184 (fun t wc=>t=.bool c1∧Hid (wc=wr))
     case first =>
      by_cases k1:i < m
      · by_cases k2:m < e
        · have hcc:c1=true:=by rw [Hc1.out];exact decide_eq_true ⟨k1,k2⟩
          subst hcc
          go_wp2_with fail
          go_meet
          exact ⟨rfl,Lib.hid rfl⟩
        · have hcc:c1=false:=by rw [Hc1.out];exact decide_eq_false (fun h=>k2 h.2)
          subst hcc
          go_wp2_with fail
          go_meet
          exact ⟨rfl,Lib.hid rfl⟩
      · have hcc:c1=false:=by rw [Hc1.out];exact decide_eq_false (fun h=>k1 h.1)
        subst hcc
        go_wp2_with fail
        go_meet
        exact ⟨rfl,Lib.hid rfl⟩
     case rest =>
      obtain ⟨rfl,HWc⟩:=hcut
      have hWc:=HWc.out
      rw [hWc]
      clear hWc HWc
      go_upto_if 185 with fail
      go_cut [24] from 186 to 191 (fun x wc=>x=.int .i64 e∧Hid (OwnZ w0 Kg wc base g n (P ++ A1 ++ B1 ++ A2 ++ B2 ++ R))∧Hid (w.grownBy wc (some g)))
      case first =>
       cases c1 with
       | true =>
        obtain ⟨c1a,c1b⟩:=of_decide_eq_true Hc1.out.symm
        have CR:=Lib.hid (rotateZ_any w0 Kg base g n (P ++ A1) A2 B1 (B2 ++ R) i m e (.func (.func G) #[] #[cap0]) wr hn (by rw [List.length_append,HL1.out,← HPl.out];omega) (by rw [List.length_append,HL1.out,HL2.out,← HPl.out];omega) (by rw [List.length_append,HL1.out,HL2.out,HL3.out,← HPl.out];omega) (by rw [HL2.out];omega) (by rw [HL3.out];omega) (by have:=HO1.out;simpa using this))
        go_wp2_with fail
        refine CR.out.mono ?_;rintro ee w2 ⟨rfl,h1,h2⟩
        have H1:Hid (OwnZ w0 Kg w2 base g n (P ++ A1 ++ B1 ++ A2 ++ B2 ++ R)):=Lib.hid (by simpa using h1)
        have H2:=Lib.hid (grown_trans HGr.out h2)
        clear h1 h2
        go_wp2_with fail
        go_meet
        exact ⟨rfl,H1,H2⟩
       | false =>
        have hc1:=of_decide_eq_false Hc1.out.symm
        have H1:Hid (OwnZ w0 Kg wr base g n (P ++ A1 ++ B1 ++ A2 ++ B2 ++ R)):=Lib.hid (by
         have h:=HO1.out
         rcases Nat.lt_or_ge i m with q | q
         · have:B1=[]:=List.eq_nil_of_length_eq_zero (by rw [HL3.out];have:¬ m < e:=fun h=>hc1 ⟨q,h⟩;omega)
           rw [this] at h ⊢;simpa using h
         · have:A2=[]:=List.eq_nil_of_length_eq_zero (by rw [HL2.out];omega)
           rw [this] at h ⊢;simpa using h)
        clear hc1
        go_wp2_with fail
        go_meet
        exact ⟨rfl,H1,HGr⟩
      case rest =>
       obtain ⟨rfl,HO2,HG2⟩:=hcut
       rename World=>w2
       clear HO1 HGr
       obtain ⟨c2,Hc2⟩:∃ c:Bool,Hid (c=decide (a < i∧i < mid)):=⟨_,Lib.hid rfl⟩
       go_upto_region 41 with fail
       go_cut [199] from 192 to 198 (fun t wc=>t=.bool c2∧Hid (wc=w2))
       case first =>
        by_cases k1:a < i
        · by_cases k2:i < mid
          · have hcc:c2=true:=by rw [Hc2.out];exact decide_eq_true ⟨k1,k2⟩
            subst hcc
            go_wp2_with fail
            go_meet
            exact ⟨rfl,Lib.hid rfl⟩
          · have hcc:c2=false:=by rw [Hc2.out];exact decide_eq_false (fun h=>k2 h.2)
            subst hcc
            go_wp2_with fail
            go_meet
            exact ⟨rfl,Lib.hid rfl⟩
        · have hcc:c2=false:=by rw [Hc2.out];exact decide_eq_false (fun h=>k1 h.1)
          subst hcc
          go_wp2_with fail
          go_meet
          exact ⟨rfl,Lib.hid rfl⟩
       case rest =>
        obtain ⟨rfl,HWc⟩:=hcut
        have hWc:=HWc.out
        rw [hWc]
        clear hWc HWc
        go_upto_if 199 with fail
        go_cut [24] from 200 to 205 (fun x wc=>x=.int .i64 e∧Hid (OwnZ w0 Kg wc base g n (P ++ sortB (A1 ++ B1) ++ A2 ++ B2 ++ R))∧Hid (w.grownBy wc (some g)))
        case first =>
         cases c2 with
         | true =>
          obtain ⟨c2a,c2b⟩:=of_decide_eq_true Hc2.out.symm
          have CR:=Lib.hid (HIH.out base g n C.out P A1 B1 (A2 ++ B2 ++ R) a i mid w2 hn (by have:=hle.out;have:=HMl.out;have:=HBl.out;omega) HPl.out (by rw [HL1.out];omega) (by have:=hle.out;rw [HL1.out] at this;omega) (by rw [HL1.out];omega) (by have:=hle.out;rw [HL1.out] at this;omega) HS1.out HS3.out (by have:=HO2.out;simpa using this))
          go_wp2_with fail
          refine CR.out.mono ?_;rintro ee w3 ⟨rfl,h1,h2⟩
          have H1:Hid (OwnZ w0 Kg w3 base g n (P ++ sortB (A1 ++ B1) ++ A2 ++ B2 ++ R)):=Lib.hid (by simpa using h1)
          have H2:=Lib.hid (grown_trans HG2.out h2)
          clear h1 h2
          go_wp2_with fail
          go_meet
          exact ⟨rfl,H1,H2⟩
         | false =>
          have hc2:=of_decide_eq_false Hc2.out.symm
          have H1:Hid (OwnZ w0 Kg w2 base g n (P ++ sortB (A1 ++ B1) ++ A2 ++ B2 ++ R)):=Lib.hid (by
           have h:=HO2.out
           have es:sortB (A1 ++ B1)=A1 ++ B1:=by
            rcases Nat.lt_or_ge a i with q | q
            · have:B1=[]:=List.eq_nil_of_length_eq_zero (by have h3:=hle.out;rw [HL1.out] at h3;have:¬ i < mid:=fun h=>hc2 ⟨q,h⟩;omega)
              rw [this,List.append_nil];exact sortB_sorted HS1.out
            · have:A1=[]:=List.eq_nil_of_length_eq_zero (by rw [HL1.out];omega)
              rw [this,List.nil_append];exact sortB_sorted HS3.out
           rw [es];simpa using h)
          clear hc2
          go_wp2_with fail
          go_meet
          exact ⟨rfl,H1,HG2⟩
        case rest =>
         obtain ⟨rfl,HO3,HG3⟩:=hcut
         rename World=>w3
         clear HO2 HG2
         obtain ⟨c3,Hc3⟩:∃ c:Bool,Hid (c=decide (mid < e∧e < b)):=⟨_,Lib.hid rfl⟩
         go_upto_region 43 with fail
         go_cut [213] from 206 to 212 (fun t wc=>t=.bool c3∧Hid (wc=w3))
         case first =>
          by_cases k1:mid < e
          · by_cases k2:e < b
            · have hcc:c3=true:=by rw [Hc3.out];exact decide_eq_true ⟨k1,k2⟩
              subst hcc
              go_wp2_with fail
              go_meet
              exact ⟨rfl,Lib.hid rfl⟩
            · have hcc:c3=false:=by rw [Hc3.out];exact decide_eq_false (fun h=>k2 h.2)
              subst hcc
              go_wp2_with fail
              go_meet
              exact ⟨rfl,Lib.hid rfl⟩
          · have hcc:c3=false:=by rw [Hc3.out];exact decide_eq_false (fun h=>k1 h.1)
            subst hcc
            go_wp2_with fail
            go_meet
            exact ⟨rfl,Lib.hid rfl⟩
         case rest =>
          obtain ⟨rfl,HWc⟩:=hcut
          have hWc:=HWc.out
          rw [hWc]
          clear hWc HWc
          have HFin:Hid (∀ W:World,OwnZ w0 Kg W base g n (P ++ sortB (A1 ++ B1) ++ sortB (A2 ++ B2) ++ R)→OwnZ w0 Kg W base g n (P ++ sortB (A ++ B) ++ R)):=Lib.hid (fun W h=>by rw [← HParts.out];simpa using h)
          cases c3 with
          | true =>
           obtain ⟨c3a,c3b⟩:=of_decide_eq_true Hc3.out.symm
           have CR:=Lib.hid (HIH.out base g n C.out (P ++ sortB (A1 ++ B1)) A2 B2 R mid e b w3 hn (by have:=hle.out;have:=HL2.out;have:=HL4.out;have:=HMl.out;have:=HBl.out;omega) (by have:=hle.out;rw [List.length_append,sortB_len,List.length_append,← HPl.out];omega) (by have:=hle.out;omega) (by rw [HL4.out];omega) (by have:=hle.out;omega) (by rw [HL4.out];omega) HS2.out HS4.out HO3.out)
           go_wp2_with fail
           refine CR.out.mono ?_;rintro ee w4 ⟨rfl,h1,h2⟩
           have H1:=Lib.hid (HFin.out w4 h1)
           have H2:=Lib.hid (grown_trans HG3.out h2)
           clear h1 h2
           go_wp2_with fail
           go_end0
           exact ⟨rfl,H1.out,H2.out⟩
          | false =>
           have hc3:=of_decide_eq_false Hc3.out.symm
           have H1:=Lib.hid (HFin.out w3 (by
            have h:=HO3.out
            have es:sortB (A2 ++ B2)=A2 ++ B2:=by
             rcases Nat.lt_or_ge mid e with q | q
             · have:B2=[]:=List.eq_nil_of_length_eq_zero (by rw [HL4.out];have:¬ e < b:=fun h=>hc3 ⟨q,h⟩;omega)
               rw [this,List.append_nil];exact sortB_sorted HS2.out
             · have:A2=[]:=List.eq_nil_of_length_eq_zero (by have h3:=hle.out;omega)
               rw [this,List.nil_append];exact sortB_sorted HS4.out
            rw [es];simpa using h))
           clear hc3
           go_wp2_with fail
           go_end0
           exact ⟨rfl,H1.out,HG3.out⟩
theorem symZ_any (w0:World) (Kg:Int × Int→Prop) (G:FuncId) (cap0:Value) (hent:∀ args w,(callFunc G args).run Tryz.prog w=.ok (.enter G args) w):∀ d,SymZ w0 Kg G cap0 d
 | 0=>fun base g n hC P A B R a m b w _ hd _ _ _ h1 h2 _ _ _=>by omega
 | d+1=>fun base g n hC P A B R a m b w hn hd ha hm hb h1 h2 hA hB hO=>by
  by_cases hA1:A.length=1
  · obtain ⟨x,rfl⟩:=List.length_eq_one_iff.1 hA1
    exact symZ1_any w0 Kg G cap0 hent base g n hC P B R x a m b w hn ha hm hb hB hO
  · by_cases hB1:B.length=1
    · obtain ⟨y,rfl⟩:=List.length_eq_one_iff.1 hB1
      exact symZ2_any w0 Kg G cap0 hent base g n hC P A R y a m b w hn ha hm hb hA1 hA hO
    · exact symZ3_any w0 Kg G cap0 hent d base g n hC P A B R a m b w hn ha hm hb (by omega) (by omega) hA hB hd (symZ_any w0 Kg G cap0 hent d) hO
end
section
open Go.RowKit Go.Shelf
inductive FB (s:Nat):PL→PL→Prop
 | last (C:PL):C.length≤s→FB s (sortB C) C
 | cons (C Z L:PL):C.length=s→FB s Z L→FB s (sortB C ++ Z) (C ++ L)
theorem FB.len {s:Nat} {Z L:PL} (h:FB s Z L):Z.length=L.length:=by
 induction h with
 | last C _=>exact sortB_len C
 | cons C Z L _ _ ih=>simp [sortB_len,ih]
theorem FB.small {s:Nat} {Z L:PL} (h:FB s Z L) (hl:L.length≤s):Z=sortB L:=by
 cases h with
 | last C _=>rfl
 | cons C Z L hC h =>
  have h0:L=[]:=List.eq_nil_of_length_eq_zero (by simp at hl;omega)
  have h1:Z=[]:=List.eq_nil_of_length_eq_zero (by rw [h.len,h0];rfl)
  rw [h0,h1];simp
theorem FB.mid {s:Nat} {Z L:PL} (h:FB s Z L) (h1:s < L.length) (h2:L.length≤2 * s):∃ C1 C2,C1.length=s∧L=C1 ++ C2∧Z=sortB C1 ++ sortB C2:=by
 cases h with
 | last C hC=>omega
 | cons C Z L hC h=>exact ⟨C,L,hC,rfl,by rw [h.small (by simp at h2;omega)]⟩
theorem FB.two {s:Nat} {Z L:PL} (h:FB s Z L) (hs:0 < s) (h1:2 * s≤L.length):∃ C1 C2 Z' L',C1.length=s∧C2.length=s∧L=C1 ++ C2 ++ L'∧Z=sortB C1 ++ sortB C2 ++ Z'∧FB s Z' L':=by
 cases h with
 | last C hC=>omega
 | cons C Z L hC h =>
  cases h with
  | last _ hC2=>exact ⟨C,L,[],[],hC,by simp at h1;omega,by simp,by simp,.last [] (Nat.zero_le _)⟩
  | cons C2 Z2 L2 hC2 h=>exact ⟨C,C2,Z2,L2,hC,hC2,by simp,by simp,h⟩
def PreB (s:Nat) (Y L0:PL):Prop:=∀ Z L,FB s Z L→FB s (Y ++ Z) (L0 ++ L)
theorem PreB.nil (s:Nat):PreB s [] []:=fun Z L h=>h
theorem PreB.more {s:Nat} {Y L0:PL} (h:PreB s Y L0) (C:PL) (hC:C.length=s):PreB s (Y ++ sortB C) (L0 ++ C):=fun Z L k=>by
 have:=h _ _ (FB.cons C Z L hC k)
 simpa using this
theorem ins_tail (X l:PL) (a b:Nat) (hX:X.length=a) (hab:a≤b):insL (X ++ l) a b=X ++ sortB (l.take (b - a)) ++ l.drop (b - a):=by
 subst hX
 unfold insL
 have h1:(X ++ l).take X.length=X:=List.take_left
 have h2:(X ++ l).drop X.length=l:=List.drop_left
 have h3:(X ++ l).drop b=l.drop (b - X.length):=by rw [List.drop_append,List.drop_eq_nil_of_le hab,List.nil_append]
 rw [h1,h2,h3]
theorem sortB_twice (C1 C2:PL):sortB (sortB C1 ++ sortB C2)=sortB (C1 ++ C2):=by
 refine sortB_is ⟨(sortB_stab _).1,fun v=>?_⟩
 rw [(sortB_stab _).2,ofB_app,ofB_app,(sortB_stab C1).2,(sortB_stab C2).2]
theorem stableZ_any (w0:World) (Kg:Int × Int→Prop) (G:FuncId) (cap0:Value) (hent:∀ args w,(callFunc G args).run Tryz.prog w=.ok (.enter G args) w) (base g n:Nat) (hC:CmpOK w0 g Kg G cap0) (l:PL) (w:World) (hn:n≤1073741824) (hO:OwnZ w0 Kg w base g n l) :
 Calls Tryz.prog 134 #[.slice (some ⟨g,0,none⟩) n n,.int .i64 n,.func (.func G) #[] #[cap0]] w fun e w'=>e=.returned (.tuple #[])∧OwnZ w0 Kg w' base g n (sortB l)∧w.grownBy w' (some g):=by
 have hl:=hO.len
 have CI:=Lib.hid (fun l a b w (h1:a≤b) (h2:b≤n) h3=>insertionZ_any w0 Kg G cap0 hent base g n hC l a b w (by omega) h1 h2 h3)
 have CS:=Lib.hid (fun (P A B R:PL) (a m b:Nat) w h1 h2 h3 h4 h5 h6 h7 h8=>symZ_any w0 Kg G cap0 hent (A.length+B.length) base g n hC P A B R a m b w (by omega) (Nat.le_refl _) h1 h2 h3 h4 h5 h6 h7 h8)
 have HLen:=Lib.hid hl
 have HO0:=Lib.hid hO
 have G0:Hid (w.grownBy w (some g)):=Lib.hid ⟨rfl,rfl,rfl,Nat.le_refl _,fun _ _ _=>rfl⟩
 clear hO hl hC
 go_enter Tryz.func134,Tryz.ntmps134
 go_wp2_with fail
 go_loopw [7,8] (fun u v wr=>∃ (a b:Nat) (X:PL),b=a+20∧a≤n∧u=.int .i64 a∧v=.int .i64 b∧Hid (X.length=a∧PreB 20 X (l.take a))∧Hid (OwnZ w0 Kg wr base g n (X ++ l.drop a))∧Hid (w.grownBy wr (some g))) (fun u _ _=>n - (intOf u).toNat)
 case atStart=>exact ⟨0,20,[],rfl,Nat.zero_le _,rfl,rfl,Lib.hid ⟨rfl,by rw [List.take_zero];exact PreB.nil 20⟩,Lib.hid (by simpa using HO0.out),G0⟩
 case round =>
  obtain ⟨a,b,X,hb,han,rfl,rfl,HX,HO,HGr⟩:=hrel
  by_cases hle:b≤n
  · have C1:=Lib.hid (CI.out _ a b wr (by omega) hle HO.out)
    have hXl:=HX.out.1
    have hE:insL (X ++ l.drop a) a b=(X ++ sortB ((l.drop a).take 20)) ++ l.drop b:=by
     rw [ins_tail X (l.drop a) a b hXl (by omega),show b - a=20 from by omega,List.drop_drop,show a+20=b from by omega]
    rw [hE] at C1
    have hCl:((l.drop a).take 20).length=20:=by rw [List.length_take,List.length_drop,HLen.out];omega
    have HX2:Hid ((X ++ sortB ((l.drop a).take 20)).length=b∧PreB 20 (X ++ sortB ((l.drop a).take 20)) (l.take b)):=Lib.hid (by
     refine ⟨by rw [List.length_append,sortB_len,hCl];omega,?_⟩
     have:=HX.out.2.more _ hCl
     rw [show l.take a ++ (l.drop a).take 20=l.take b from by rw [hb];exact (List.take_add).symm] at this
     exact this)
    obtain ⟨b2,hb2⟩:∃ b2,b2=b+20:=⟨_,rfl⟩
    have hs2:(b:Int)+20=(b2:Int):=by omega
    have hw2:IntKind.i64.wrap ((b:Int)+20)=(b2:Int):=by rw [IntWalk.i64_in _ (by omega)];exact hs2
    have HB2:=Lib.hid hb2
    have hab:a < b:=by omega
    clear hE hXl hCl HX HO hb hb2
    go_wp2_with fail
    refine C1.out.mono ?_;rintro e w2 ⟨rfl,h1,h2⟩
    have H1:=Lib.hid h1
    have H2:=Lib.hid (grown_trans HGr.out h2)
    clear h1 h2
    go_wp2_with fail
    go_roundw
    case rel=>exact ⟨b,b2,_,HB2.out,hle,rfl,by first | rfl | go_num,HX2,H1,H2⟩
    case measure=>simp [intOf];omega
  · have C1:=Lib.hid (CI.out _ a n wr han (Nat.le_refl _) HO.out)
    have hXl:=HX.out.1
    have hE:insL (X ++ l.drop a) a n=X ++ sortB (l.drop a):=by
     have h1:(l.drop a).drop (n - a)=[]:=by rw [List.drop_drop];exact List.drop_eq_nil_of_le (by rw [HLen.out];omega)
     have h2:(l.drop a).take (n - a)=l.drop a:=List.take_of_length_le (by rw [List.length_drop,HLen.out];exact Nat.le_refl _)
     rw [ins_tail X (l.drop a) a n hXl han,h2,h1,List.append_nil]
    rw [hE] at C1
    have HF0:Hid (FB 20 (X ++ sortB (l.drop a)) l):=Lib.hid (by
     have:=HX.out.2 _ _ (FB.last (s:=20) (l.drop a) (by rw [List.length_drop,HLen.out];omega))
     rwa [List.take_append_drop] at this)
    clear hE hXl HX HO hb
    generalize X ++ sortB (l.drop a)=D0 at C1 HF0
    go_wp2_with fail
    refine C1.out.mono ?_;rintro e w1 ⟨rfl,h1,h2⟩
    have H1:=Lib.hid h1
    have H2:=Lib.hid (grown_trans HGr.out h2)
    clear h1 h2 HGr
    go_wp2_with fail
    obtain ⟨wo,rfl⟩:∃ wo:World,wo=wr:=⟨_,rfl⟩
    go_loopw [6] (fun u wr=>∃ (s:Nat) (D:PL),0 < s∧s≤2147483648∧u=.int .i64 s∧Hid (FB s D l)∧Hid (OwnZ w0 Kg wr base g n D)∧Hid (w.grownBy wr (some g))) (fun u _=>n - (intOf u).toNat)
    case atStart=>exact ⟨20,D0,by decide,by decide,rfl,HF0,H1,H2⟩
    case round =>
     obtain ⟨s,D,hs0,hs1,rfl,HF,HO,HGr⟩:=hrel
     by_cases hsn:s < n
     · obtain ⟨s2,hs2⟩:∃ s2,s2=2 * s:=⟨_,rfl⟩
       have e2:2 * (s:Int)=(s2:Int):=by omega
       have e2':(s:Int) * 2=(s2:Int):=by omega
       have w2:IntKind.i64.wrap (2 * (s:Int))=(s2:Int):=by rw [IntWalk.i64_in _ (by omega)];exact e2
       have w2':IntKind.i64.wrap ((s:Int) * 2)=(s2:Int):=by rw [IntWalk.i64_in _ (by omega)];exact e2'
       have HS2:=Lib.hid hs2
       have hss:s < s2:=by omega
       have hs2l:s2≤2147483648:=by omega
       clear hs2
       go_wp2_with fail
       obtain ⟨wp,HWp⟩:∃ wp:World,Hid (wp=wr):=⟨_,Lib.hid rfl⟩
       rw [← HWp.out]
       rw [← HWp.out] at HO HGr
       clear HWp
       go_loopw [7,8] (fun u v wr=>∃ (a b:Nat) (Y Z L0 L:PL),b=a+s2∧a≤n∧u=.int .i64 a∧v=.int .i64 b∧Hid (Y.length=a∧PreB s2 Y L0∧l=L0 ++ L∧FB s Z L∧L.length+a=n)∧Hid (OwnZ w0 Kg wr base g n (Y ++ Z))∧Hid (w.grownBy wr (some g))) (fun u _ _=>n - (intOf u).toNat)
       case atStart=>exact ⟨0,s2,[],D,[],l,by omega,Nat.zero_le _,rfl,by first | rfl | go_num,Lib.hid ⟨rfl,PreB.nil s2,rfl,HF.out,HLen.out⟩,Lib.hid (by simpa using HO.out),HGr⟩
       case round =>
        obtain ⟨a,b,Y,Z,L0,L,hb,han,rfl,rfl,HY,HO,HGr⟩:=hrel
        obtain ⟨m,hm⟩:∃ m,m=a+s:=⟨_,rfl⟩
        have em:(a:Int)+(s:Int)=(m:Int):=by omega
        have wm:IntKind.i64.wrap ((a:Int)+(s:Int))=(m:Int):=by rw [IntWalk.i64_in _ (by omega)];exact em
        by_cases hle:b≤n
        · obtain ⟨y1,y2,y3,y4,y5⟩:=HY.out
          have hS2:=HS2.out
          obtain ⟨C1,C2,Z',L',c1,c2,rfl,rfl,f⟩:=y4.two hs0 (by omega)
          have K:=Lib.hid (CS.out Y (sortB C1) (sortB C2) Z' a m b wr y1.symm (by rw [sortB_len];omega) (by rw [sortB_len];omega) (by rw [sortB_len];omega) (by rw [sortB_len];omega) (sortB_stab C1).1 (sortB_stab C2).1 (by have:=HO.out;simpa using this))
          rw [sortB_twice] at K
          have HY2:Hid ((Y ++ sortB (C1 ++ C2)).length=b∧PreB s2 (Y ++ sortB (C1 ++ C2)) (L0 ++ (C1 ++ C2))∧l=L0 ++ (C1 ++ C2) ++ L'∧FB s Z' L'∧L'.length+b=n):=Lib.hid ⟨by simp [sortB_len];omega,y2.more (C1 ++ C2) (by simp;omega),by rw [y3];simp,f,by simp at y5;omega⟩
          obtain ⟨b2,hb2⟩:∃ b2,b2=b+s2:=⟨_,rfl⟩
          have e3:(b:Int)+(s2:Int)=(b2:Int):=by omega
          have w3:IntKind.i64.wrap ((b:Int)+(s2:Int))=(b2:Int):=by rw [IntWalk.i64_in _ (by omega)];exact e3
          have HB2:=Lib.hid hb2
          have hab:a < b:=by omega
          clear y1 y2 y3 y4 y5 f c1 c2 hS2 HY HO hb hb2 hm
          go_wp2_with fail
          refine K.out.mono ?_;rintro e w5 ⟨rfl,h1,h2⟩
          have H1:=Lib.hid h1
          have H2:=Lib.hid (grown_trans HGr.out h2)
          clear h1 h2
          go_wp2_with fail
          go_roundw
          case rel=>exact ⟨b,b2,_,_,_,_,HB2.out,hle,rfl,by first | rfl | go_num,HY2,H1,H2⟩
          case measure=>simp [intOf];omega
        · obtain ⟨y1,y2,y3,y4,y5⟩:=HY.out
          have hS2:=HS2.out
          by_cases hmn:m < n
          · obtain ⟨C1,C2,c1,rfl,rfl⟩:=y4.mid (by omega) (by omega)
            have hc2:C2.length=n - m:=by simp at y5;omega
            have K:=Lib.hid (CS.out Y (sortB C1) (sortB C2) [] a m n wr y1.symm (by rw [sortB_len];omega) (by rw [sortB_len];omega) (by rw [sortB_len];omega) (by rw [sortB_len];omega) (sortB_stab C1).1 (sortB_stab C2).1 (by have:=HO.out;simpa using this))
            rw [sortB_twice,List.append_nil] at K
            have HF2:Hid (FB s2 (Y ++ sortB (C1 ++ C2)) l):=Lib.hid (by rw [y3];exact y2 _ _ (FB.last _ (by simp;omega)))
            clear y1 y2 y3 y4 y5 c1 hc2 hS2 HY HO hb hm
            go_wp2_with fail
            refine K.out.mono ?_;rintro e w5 ⟨rfl,h1,h2⟩
            have H1:=Lib.hid h1
            have H2:=Lib.hid (grown_trans HGr.out h2)
            clear h1 h2
            go_wp2_with fail
            go_roundw
            case rel=>exact ⟨s2,_,by omega,hs2l,by first | rfl | go_num,HF2,H1,H2⟩
            case measure=>simp [intOf];omega
          · have hz:=y4.small (by omega)
            have HF2:Hid (FB s2 (Y ++ Z) l):=Lib.hid (by rw [y3,hz];exact y2 _ _ (FB.last _ (by omega)))
            clear y1 y2 y3 y4 y5 hS2 HY hb hm hz
            go_wp2_with fail
            go_roundw
            case rel=>exact ⟨s2,_,by omega,hs2l,by first | rfl | go_num,HF2,HO,HGr⟩
            case measure=>simp [intOf];omega
     · have hz:=HF.out.small (by rw [HLen.out];omega)
       have HO2:Hid (OwnZ w0 Kg wr base g n (sortB l)):=Lib.hid (by rw [← hz];exact HO.out)
       clear HO hz HF
       go_wp2_with fail
       go_end0
       exact ⟨rfl,HO2.out,HGr.out⟩
theorem sortStableZ_any (w0:World) (Kg:Int × Int→Prop) (G:FuncId) (cap0:Value) (hent:∀ args w,(callFunc G args).run Tryz.prog w=.ok (.enter G args) w) (base g n:Nat) (hC:CmpOK w0 g Kg G cap0) (l:PL) (w:World) (hn:n≤1073741824) (hO:OwnZ w0 Kg w base g n l) :
 Calls Tryz.prog 84 #[.slice (some ⟨g,0,none⟩) n n,.func (.func G) #[] #[cap0]] w fun e w'=>e=.returned (.tuple #[])∧OwnZ w0 Kg w' base g n (sortB l)∧w.grownBy w' (some g):=by
 have C:=Lib.hid (stableZ_any w0 Kg G cap0 hent base g n hC l w hn hO)
 clear hO hC
 go_enter Tryz.func84,Tryz.ntmps84
 go_wp2_with fail
 refine C.out.mono ?_;rintro e w1 ⟨rfl,h1,h2⟩
 have H1:=Lib.hid h1
 have H2:=Lib.hid h2
 clear h1 h2
 go_wp2_with fail
 go_end0
 exact ⟨rfl,H1.out,H2.out⟩
end
end Go.Proofs.YtdenehnneloegaaGreatDoor
