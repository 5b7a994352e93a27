/-
  Texts of these rows' proofs, laid one behind the other: RwByKey, RwSortP, RwShelfI, RwPart, RwText, RwBase.
  Conditions: those of each theorem.
-/
import Derived.WalkKit
import Derived.WalkMore
import Derived.IntWalk
import Derived.WalkArith
import Derived.OwnWalk
import Derived.Deep.RegionHeld3
import Derived.Lib.Hide
import Derived.Test.YtdenehnneloegaaGreatDoorProg
import Derived.Test.YtdenehnneloegaaGreatDoorPa39
import Derived.Sort.OwnSorted
import Derived.Shelf.SlSortCmp.NoneTotal
import Derived.Test.YtdenehnneloegaaGreatDoorPa26
import Derived.Shelf.Strconv.Itoa3
import Derived.Test.YtdenehnneloegaaGreatDoorPa34
import Derived.Test.YtdenehnneloegaaGreatDoorPa14
import Derived.Laws.OwnMore
import Derived.Test.YtdenehnneloegaaGreatDoorPa1
import Derived.Test.YtdenehnneloegaaGreatDoorPa3
namespace Go.Proofs.YtdenehnneloegaaGreatDoor
set_option linter.unusedVariables false
set_option maxRecDepth 100000
set_option maxHeartbeats 8000000
section
open Go.RowKit Go.Shelf Go.Deep
theorem by_key_ok:ByKeyOK:=by
 intro ho hc ha ro rc ra bo bc hb so sc rb no nc names w hA hB2 hN hpow
 obtain ⟨W,HW⟩:∃ W,Hid (W=(w.alloc (TabO ho ha.length hc ro ra.length rc)).alloc (TabO bo hb.length bc so rb.length sc)):=⟨_,Lib.hid rfl⟩
 have hB:Below w.heap.size w W:=by rw [HW.out];exact two_below _ _ _
 have HB0:=Lib.hid hB
 have hNw:=two_new w (TabO ho ha.length hc ro ra.length rc) (TabO bo hb.length bc so rb.length sc)
 rw [← HW.out] at hNw
 have box:Hid (∀ V,Below W.heap.size W V→(V.cell? ⟨w.heap.size,0,none⟩=some (.slice ho ha.length hc)∧V.cell? ⟨w.heap.size,1,none⟩=some (.slice ro ra.length rc))∧V.cell? ⟨w.heap.size+1,0,none⟩=some (.slice bo hb.length bc)∧V.cell? ⟨w.heap.size+1,1,none⟩=some (.slice so rb.length sc)):=Lib.hid (fun V hV=>⟨tabs ((hV.block _ (lt_of_heap hNw.2.1)).trans hNw.2.1),tabs ((hV.block _ (lt_of_heap hNw.2.2)).trans hNw.2.2)⟩)
 have b1:=one_below W (TwoO ho ha.length hc ro ra.length rc bo hb.length bc so rb.length sc)
 have HA:Hid (∀ V,Below W.heap.size W V→TabR V ho hc ha ro rc ra):=Lib.hid (fun V h=>hA.kept (below_up hB h))
 have HBt:Hid (∀ V,Below W.heap.size W V→TabR V bo bc hb so sc rb):=Lib.hid (fun V h=>hB2.kept (below_up hB h))
 have HNm:Hid (∀ V,Below W.heap.size W V→NamesIn V no nc names):=Lib.hid (fun V h=>hN.kept (below_up hB h))
 have CU:Hid (Calls Tryz.prog 19 #[.slice (some ⟨W.heap.size,0,none⟩) 2 2,.slice no names.length nc] (W.alloc (TwoO ho ha.length hc ro ra.length rc bo hb.length bc so rb.length sc)) fun e w'=>e=.returned (.bool (useAB ha ra hb rb names))∧Below (W.alloc (TwoO ho ha.length hc ro ra.length rc bo hb.length bc so rb.length sc)).heap.size (W.alloc (TwoO ho ha.length hc ro ra.length rc bo hb.length bc so rb.length sc)) w') :=
  Lib.hid (usable_ok (some ⟨W.heap.size,0,none⟩) 2 ho hc ha ro rc ra bo bc hb so sc rb no nc names _ (HA.out _ b1) (HBt.out _ b1) (HNm.out _ b1) (hpow.kept (below_up hB b1)) (tabs_two (hA.tab.row.kept hB) (hA.tab.rows.kept hB) (hB2.tab.row.kept hB) (hB2.tab.rows.kept hB)))
 have HB1:=Lib.hid b1
 have hra:=hA.r25
 have hrb:=hB2.r25
 have hm:=hN.len
 have h12a:=hA.h12
 have h12b:=hB2.h12
 have HIn:=Lib.hid (fun h=>use_in (ha:=ha) (ra:=ra) (hb:=hb) (rb:=rb) (names:=names) h)
 have HUo:=Lib.hid (fun h=>use_of (ha:=ha) (ra:=ra) (hb:=hb) (rb:=rb) (names:=names) h)
 have HRU:Hid (∀ u,byKeyU u ha ra hb rb names=if u then byKeyL ra rb (names.map (findL ha)) (names.map (findL hb)) else []):=Lib.hid (fun u=>rfl)
 obtain ⟨R,HRR⟩:∃ R,Hid (R=byKeyU (useAB ha ra hb rb names) ha ra hb rb names):=⟨_,Lib.hid rfl⟩
 rw [← HRR.out]
 have hinfo:(Tryz.prog.info? 45).map (fun i=>(i.zero,i.size,i.bytes))=some (some (.agg #[.int .i64 0,.int .i64 0]),2,16):=by kernel_rfl
 obtain ⟨i0,hi,hz0,hz1,hz2⟩:=info_parts2 hinfo
 have HI:=Lib.hid hi
 obtain ⟨⟨a0,a1⟩,c0,c1⟩:=box.out W (Below.refl _ _)
 clear hi hinfo hB hNw b1 hA hB2 hN hpow
 cases hu:useAB ha ra hb rb names with
 | false =>
  have HR0:Hid (R=[]):=Lib.hid (by rw [HRR.out,hu,HRU.out];rfl)
  rw [hu] at CU
  clear hu HIn HUo HRU HRR HA HBt HNm
  go_enter Tryz.func14,Tryz.ntmps14
  go_upto_region 1 with fail
  rw [show (w.alloc (Obj.cells #[Value.slice ho ha.length hc,Value.slice ro ra.length rc] 25)).alloc (Obj.cells #[Value.slice bo hb.length bc,Value.slice so rb.length sc] 25)=W from HW.out.symm]
  go_wp2_with fail
  refine CU.out.mono ?_;rintro e w2 ⟨rfl,b2⟩
  have HE:Hid (PairsOut R w (.returned (.slice none 0 0)) w2):=Lib.hid (by rw [HR0.out];exact ⟨none,0,rfl,.inl rfl,fun _=>rfl,Nat.le_refl _,below_up HB0.out (below_up HB1.out b2)⟩)
  clear b2 CU
  go_wp2_with fail
  go_ret
  exact HE.out
 | true =>
  obtain ⟨hi1,hi2⟩:=HIn.out hu
  have hU:=HUo.out hu
  have hap:=hU.ua
  rw [hu] at CU
  obtain ⟨ps,Hps⟩:∃ ps,Hid (ps=names.map (findL ha)):=⟨_,Lib.hid rfl⟩
  obtain ⟨qs,Hqs⟩:∃ qs,Hid (qs=names.map (findL hb)):=⟨_,Lib.hid rfl⟩
  have HWf:Hid (∀ c ∈ ps,(Lit.int .i64 c).wf=true):=Lib.hid (by rw [Hps.out];exact find_wf hU.a h12a)
  rw [← Hps.out] at hap
  have HAp:=Lib.hid hap
  have HR1:Hid (R=byKeyK ra rb ps qs rb.length):=Lib.hid (by rw [HRR.out,hu,HRU.out,if_pos rfl,← Hps.out,← Hqs.out];rfl)
  have HPl:Hid (ps.length=names.length):=Lib.hid (by rw [Hps.out];simp)
  have HQl:Hid (qs.length=names.length):=Lib.hid (by rw [Hqs.out];simp)
  have D1:Hid (∀ V,Below W.heap.size W V→Calls Tryz.prog 22 #[.agg #[.slice ho ha.length hc,.slice ro ra.length rc],.slice no names.length nc] V fun e w'=>∃ (ao:Option Addr) (cap:Nat),e=.returned (.tuple #[.slice ao ps.length cap,.bool true])∧IntsAt w' ao ps∧Below V.heap.size V w'):=Lib.hid (fun V h=>(places_ok ho hc ha ro rc ra no nc names V (HA.out V h) (HNm.out V h) hi1).mono (by
   rintro e w' ⟨ao,cap,rfl,h1,h2⟩
   rw [← Hps.out] at h1;exact ⟨ao,cap,by rw [HPl.out],h1,h2⟩))
  have D2:Hid (∀ V,Below W.heap.size W V→Calls Tryz.prog 22 #[.agg #[.slice bo hb.length bc,.slice so rb.length sc],.slice no names.length nc] V fun e w'=>∃ (ao:Option Addr) (cap:Nat),e=.returned (.tuple #[.slice ao qs.length cap,.bool true])∧IntsAt w' ao qs∧Below V.heap.size V w'):=Lib.hid (fun V h=>(places_ok bo bc hb so sc rb no nc names V (HBt.out V h) (HNm.out V h) hi2).mono (by
   rintro e w' ⟨ao,cap,rfl,h1,h2⟩
   rw [← Hqs.out] at h1;exact ⟨ao,cap,by rw [HQl.out],h1,h2⟩))
  have hpl:ps.length≤8:=by rw [HPl.out];exact hm
  have hql:qs.length≤8:=by rw [HQl.out];exact hm
  have CB:=Lib.hid (fun po pc V (h:Below W.heap.size W V) (hI:IntsAt V po ps)=>build_any ho ha.length hc ro rc ra po pc ps V (by omega) (by omega) (tabIn_rows (HA.out V h).tab) HWf.out (HA.out V h).tab.rows hI)
  obtain ⟨OS,HOS⟩:∃ OS,Hid (OS=buildL ra ps):=⟨_,Lib.hid rfl⟩
  have HOl:Hid (OS.length≤25):=Lib.hid (by rw [HOS.out,build_len];exact hra)
  have CK:=Lib.hid (fun (j:Nat) po pc V (h:Below W.heap.size W V) (hI:IntsAt V po qs)=>key_any bo hb.length bc so sc rb (j:Int) po pc qs V (by omega) (by omega) (tabIn_rows (HBt.out V h).tab) (HBt.out V h).tab.rows hI)
  have CF:=Lib.hid (fun po pc oo oc so2 sc2 key V (hk:key.length≤8) (h:Below W.heap.size W V) (hI:IntsAt V po ps) (hO:IntsAt V oo OS) (hS:StrRow V so2 key)=>find_any ho ha.length hc ro rc ra po pc ps oo oc OS so2 sc2 key V (by omega) (by omega) (by have:=HOl.out;omega) (by omega) (tabIn_rows (HA.out V h).tab) (HA.out V h).tab.rows hI hO hS)
  rw [← HOS.out] at CB
  have HFo:Hid (∀ (k:Nat) a ok,FoundAt (fun x=>keyC (rowKey ra ps x) (keyAt rb qs k)) OS a ok→(ok=true∧byKeyO ra rb ps qs k=some (a,(k:Int)))∨(ok=false∧byKeyO ra rb ps qs k=none)):=Lib.hid (fun k a ok h=>found_byKey HAp.out (by rw [← HOS.out];exact h))
  obtain ⟨O,HQ⟩:∃ O:Nat→PL,Hid (O=byKeyK ra rb ps qs):=⟨_,Lib.hid rfl⟩
  have HNx:Hid (∀ k:Nat,O (k+1)=O k ++ (byKeyO ra rb ps qs k).toList):=Lib.hid (fun k=>by rw [HQ.out];exact byKey_next ra rb ps qs k)
  have HLe:Hid (∀ k,(O k).length≤k):=Lib.hid (fun k=>by rw [HQ.out];exact byKeyK_le ra rb ps qs k)
  have HZ:Hid (O 0=[]):=Lib.hid (by rw [HQ.out];rfl)
  have HAl:Hid (R=O rb.length):=Lib.hid (by rw [HR1.out,HQ.out])
  clear hu HIn HUo HRU HRR hi1 hi2 hap HR1 hU HA HBt HNm
  go_enter Tryz.func14,Tryz.ntmps14
  go_upto_region 1 with fail
  rw [show (w.alloc (Obj.cells #[Value.slice ho ha.length hc,Value.slice ro ra.length rc] 25)).alloc (Obj.cells #[Value.slice bo hb.length bc,Value.slice so rb.length sc] 25)=W from HW.out.symm]
  go_wp2_with fail
  refine CU.out.mono ?_;rintro e w2 ⟨rfl,b2⟩
  have HBa:=Lib.hid (below_up HB1.out b2)
  have D1':=Lib.hid (D1.out w2 HBa.out)
  clear b2 CU a0 a1 c0 c1 D1
  obtain ⟨⟨a0,a1⟩,c0,c1⟩:=box.out w2 HBa.out
  go_wp2_with fail
  refine D1'.out.mono ?_;rintro e w3 ⟨po,pc,rfl,hp,b3⟩
  have HBb:=Lib.hid (below_up HBa.out b3)
  have D2':=Lib.hid (D2.out w3 HBb.out)
  have HP3:=Lib.hid hp
  clear b3 D1' a0 a1 c0 c1 D2 hp
  obtain ⟨⟨a0,a1⟩,c0,c1⟩:=box.out w3 HBb.out
  go_wp2_with fail
  refine D2'.out.mono ?_;rintro e w4 ⟨qo,qc,rfl,hq,b4⟩
  have HBc:=Lib.hid (below_up HBb.out b4)
  have HP4:=Lib.hid (HP3.out.kept b4)
  have HQ4:=Lib.hid hq
  have CB':=Lib.hid (CB.out po pc w4 HBc.out HP4.out)
  clear b4 D2' a0 a1 c0 c1 hq HP3 CB
  obtain ⟨⟨a0,a1⟩,c0,c1⟩:=box.out w4 HBc.out
  go_wp2_with fail
  refine CB'.out.mono ?_;rintro e w5 ⟨oo,rfl,hos,b5⟩
  have HBd:=Lib.hid (below_up HBc.out b5)
  have HP5:=Lib.hid (HP4.out.kept b5)
  have HQ5:=Lib.hid (HQ4.out.kept b5)
  have HO5:=Lib.hid hos
  have HT:Hid (OwnL w5 w5.heap.size (.slice none 0 0) (O 0)):=Lib.hid (by rw [HZ.out];exact World.ownsRow_nil _ _ _ _)
  have hL0:(O 0).length=0:=by rw [HZ.out];rfl
  have HL0:=Lib.hid hL0
  clear b5 CB' a0 a1 c0 c1 hos HP4 HQ4 hL0
  obtain ⟨⟨a0,a1⟩,c0,c1⟩:=box.out w5 HBd.out
  go_wp2_with fail
  clear a0 a1 c0 c1
  go_loopw [12,40] (fun v u wr=>∃ (k q cp:Nat) (go:Option Addr),k≤rb.length∧u=.int .i64 k∧v=.slice go q cp∧Hid (q=(O k).length)∧Hid (Below w5.heap.size w5 wr)∧Hid (OwnL wr w5.heap.size (.slice go q cp) (O k))) (fun _ u _=>rb.length - (intOf u).toNat)
  case atStart=>exact ⟨0,0,0,none,Nat.zero_le _,rfl,rfl,Lib.hid HL0.out.symm,Lib.hid (Below.refl _ _),HT⟩
  case round =>
   clear HT HL0
   obtain ⟨k,q,cp,go,hk,rfl,rfl,HQn,HB,HT⟩:=hrel
   by_cases hlt:k < rb.length
   · have hq:q≤25:=by rw [HQn.out];have:=HLe.out k;omega
     have HST:=Lib.hid (HNx.out k)
     have boxr:Hid (∀ V,Below wr.heap.size wr V→(V.cell? ⟨w.heap.size,0,none⟩=some (.slice ho ha.length hc)∧V.cell? ⟨w.heap.size,1,none⟩=some (.slice ro ra.length rc))∧V.cell? ⟨w.heap.size+1,0,none⟩=some (.slice bo hb.length bc)∧V.cell? ⟨w.heap.size+1,1,none⟩=some (.slice so rb.length sc)):=Lib.hid (fun V h=>box.out V (below_up HBd.out (below_up HB.out h)))
     obtain ⟨⟨a0,a1⟩,c0,c1⟩:=boxr.out wr (Below.refl _ _)
     have E1:=Lib.hid (fun V (h:Below wr.heap.size wr V)=>CK.out k qo qc V (below_up HBd.out (below_up HB.out h)) (HQ5.out.kept (below_up HB.out h)))
     have hkl:(rowKey rb qs (k:Int)).length=qs.length:=rowKey_len _ _ _
     have HF:=Lib.hid (HFo.out k)
     rw [show keyAt rb qs (k:Int)=rowKey rb qs (k:Int) from rfl] at HF
     obtain ⟨key,hkey⟩:∃ key,key=rowKey rb qs (k:Int):=⟨_,rfl⟩
     rw [← hkey] at E1 HF hkl
     have hkl2:key.length≤8:=by omega
     have E2:=Lib.hid (fun so2 V (h:Below wr.heap.size wr V) (hS:StrRow V so2 key)=>CF.out po pc oo OS.length so2 qs.length key V hkl2 (below_up HBd.out (below_up HB.out h)) (HP5.out.kept (below_up HB.out h)) (HO5.out.kept (below_up HB.out h)) hS)
     rw [hkl] at E2
     have HTO:Hid (wr.ownsRow w5.heap.size 45 2 (.slice go q cp) q (cellsP (O k))):=Lib.hid (by have:=HT.out;unfold OwnL at this;rw [← HQn.out] at this;exact this)
     have HBel:Hid (Below wr.heap.size wr wr.drew):=Lib.hid ((Below.refl _ _).drew)
     generalize byKeyO ra rb ps qs k=BO at HF HST
     clear hkey hkl hkl2 HT
     go_upto_region 10 with fail
     go_region_held3 (fun V=>(V.cell? ⟨w.heap.size,0,none⟩=some (.slice ho ha.length hc)∧V.cell? ⟨w.heap.size,1,none⟩=some (.slice ro ra.length rc))∧V.cell? ⟨w.heap.size+1,0,none⟩=some (.slice bo hb.length bc)∧V.cell? ⟨w.heap.size+1,1,none⟩=some (.slice so rb.length sc)) ((refine ⟨⟨?_,?_⟩,?_,?_⟩ <;> first | assumption | go_keep))
      (first
       | (go_at_call 24;refine (E1.out _ HBel.out).mono ?_;rintro e wA ⟨aoA,rfl,hsA,bA⟩;have HBel:=Lib.hid (below_up HBel.out bA);have HSA:=Lib.hid hsA;obtain ⟨⟨a0,a1⟩,c0,c1⟩:=boxr.out wA HBel.out;clear hsA bA E1)
       | (go_at_call 35;refine (E2.out _ _ HBel.out HSA.out).mono ?_;rintro e wB ⟨fa,fok,rfl,hfo,bB⟩;have HBel:=Lib.hid (below_up HBel.out bB);have HFd:=Lib.hid (HF.out _ _ hfo);obtain ⟨⟨a0,a1⟩,c0,c1⟩:=boxr.out wB HBel.out;clear hfo bB E2))
     rename_i hHeld
     clear hHeld
     have HTC:=Lib.hid (ownsRow_below HTO.out HBel.out)
     have HBC:=Lib.hid (below_up HB.out HBel.out)
     clear HF HSA HTO boxr
     cases fok with
     | true =>
      have HS2:Hid (O (k+1)=O k ++ [(fa,(k:Int))]):=Lib.hid (by
       rw [HST.out]
       rcases HFd.out with ⟨-,h⟩ | ⟨h,-⟩
       · rw [h];rfl
       · cases h)
      have HT1:=Lib.hid (HTC.out.alloc (.cells #[Value.int .i64 fa,Value.int .i64 k] 45))
      have hws:=HBC.out.size
      have hbs:w5.heap.size≤(wB.alloc (.cells #[Value.int .i64 fa,Value.int .i64 k] 45)).heap.size:=by simp;omega
      clear HST HFd
      go_wp2_with (at_builtin;refine wpList_append_own _ rfl _ _ 26 rfl w5.heap.size 45 i0 (.agg #[.int .i64 0,.int .i64 0]) 2 16 Tryz.underlying26 HI.out hz0 hz1 hz2 rfl (by decide) _ _ _ rfl HT1.out ⟨wB.heap.size,0,none⟩ 1 1 [Value.int .i64 fa,Value.int .i64 k] rfl rfl (lit_cellP wB _ _ _) (fun u hu=>by simp at hu;rcases hu with rfl | rfl <;> rfl) (by unfold maxLen;omega) (by omega) hbs ?_)
      intro v' w6 hown' hgrow _
      obtain ⟨g,gc,rfl⟩:=ownsRow_succ hown'
      have HB3:=Lib.hid ((HBC.out.alloc HBC.out.size (.cells #[Value.int .i64 fa,Value.int .i64 k] 45)).grown hgrow hbs (fun j h=>(HTC.out.lt j h).1))
      have HQ3:Hid (q+1=(O (k+1)).length):=Lib.hid (by rw [HS2.out,List.length_append,← HQn.out];rfl)
      have HT3:Hid (OwnL w6 w5.heap.size (.slice (some ⟨g,0,none⟩) (q+1) gc) (O (k+1))):=Lib.hid (by unfold OwnL;rw [← HQ3.out,HS2.out,cellsP_app];exact hown')
      clear hown' hgrow hbs
      go_wp2_with fail
      go_roundw
      case rel=>exact ⟨k+1,q+1,gc,_,by omega,by go_num,rfl,HQ3,HB3,HT3⟩
      case measure=>simp [intOf];omega
     | false =>
      have HS2:Hid (O (k+1)=O k):=Lib.hid (by
       rw [HST.out]
       rcases HFd.out with ⟨h,-⟩ | ⟨-,h⟩
       · cases h
       · rw [h];simp)
      have HT2:Hid (OwnL wB w5.heap.size (.slice go q cp) (O (k+1))):=Lib.hid (by unfold OwnL;rw [HS2.out,← HQn.out];exact HTC.out)
      have HQ3:Hid (q=(O (k+1)).length):=Lib.hid (by rw [HS2.out];exact HQn.out)
      clear HST HFd
      go_wp2_with fail
      go_roundw
      case rel=>exact ⟨k+1,q,cp,go,by omega,by go_num,rfl,HQ3,HBC,HT2⟩
      case measure=>simp [intOf];omega
   · obtain rfl:k=rb.length:=by omega
     have HE:Hid (PairsOut R w (.returned (.slice go q cp)) wr):=Lib.hid (by
      rw [HAl.out]
      obtain ⟨ao,cap,h1,h2,h3,h4,h5⟩:=OwnL.end_ HT.out HB.out
      exact ⟨ao,cap,h1,h2,h3,h4,below_up HB0.out (below_up HBd.out h5)⟩)
     clear HT
     go_wp2_with fail
     go_ret
     exact HE.out
end
section
open Go.RowKit Go.Shelf Go.Sort
theorem byBr_any (a b c d:Int) (w:World) :
 Calls Tryz.prog 47 #[.agg #[.int .i64 a,.int .i64 b],.agg #[.int .i64 c,.int .i64 d]] w fun e w'=>e=.returned (.int .i64 (cmpI b d))∧∃ q os',w'=grow (w.drewN q) os':=by
 have C1:=Lib.hid (fun W=>compare_any b d W)
 have HG:Hid (∃ q os',(w.alloc (.cells #[.int .i64 a,.int .i64 b] 45)).alloc (.cells #[.int .i64 c,.int .i64 d] 45)=grow (w.drewN q) os'):=Lib.hid ⟨0,_,by rw [alloc_eq_grow,alloc_eq_grow,grow_grow];rfl⟩
 generalize cmpI b d=r at C1 ⊢
 go_enter Tryz.func47,Tryz.ntmps47
 go_wp2_with fail
 refine (C1.out _).mono ?_;rintro e w1 ⟨rfl,rfl⟩
 go_wp2_with fail
 go_ret
 exact ⟨rfl,HG.out⟩
theorem rsort_any (base g n cap:Nat) (L R:PL) (w:World) (hn:n≤1099511627776) (hl:L.length=n) (hp:R.Perm L) (hr:RiseB R) (hO:OwnL w base (.slice (some ⟨g,0,none⟩) n cap) L) :
 Calls Tryz.prog 46 #[.slice (some ⟨g,0,none⟩) n cap,.func (.func 47) #[] #[]] w fun e w'=>e=.returned (.tuple #[])∧OwnL w' base (.slice (some ⟨g,0,none⟩) n cap) R∧w.grownBy w' (some g):=by
 have hnd:=rise_nodup L R hp hr
 have hfL:=ofB_isC L hnd
 have hfR:∀ p ∈ R,ofBC L p.2=p.1:=fun p h=>hfL p (hp.mem_iff.1 h)
 have hc:CmpLays Tryz.prog 47 #[] (encB (ofBC L)) 2 cmpI g 0 (L.map Prod.snd).toArray.size w:=fun m os dk _ x y=>byBr_any _ x _ y _
 have hsz:(L.map Prod.snd).toArray.size=n:=by simp [hl]
 have h:=AnyQ.slices_SortFunc_total laysFp 2 Tryz.isAgg45 Tryz.sizeOf45 (encB (ofBC L)) (fun _=>rfl) (fun x v hv=>by simp [encB] at hv;rcases hv with rfl | rfl <;> rfl) cmpI swoB 47 #[] g 0 cap (L.map Prod.snd).toArray w (enters_of Tryz.func47 (by kernel_rfl) rfl) hc (hO.holdsB _ hfL hl) (World.ownsRow.lt hO g rfl).2 (by rw [hsz];omega) (fun x y h k=>by rw [ltB] at h k;simp at h k;omega)
 rw [hsz,ltB] at h
 refine h.mono ?_
 rintro e w' ⟨rfl,k,os,rfl⟩
 have e:(L.map Prod.snd).toArray.toList.mergeSort (fun x y=>!decide (y < x))=R.map Prod.snd:=by
  rw [← sortedB_is L R hp hr]
  show (L.map Prod.snd).mergeSort _=_
  congr 1
  funext x y
  by_cases h:y < x
  · rw [decide_eq_true h,decide_eq_false (by omega)];rfl
  · rw [decide_eq_false h,decide_eq_true (by omega)];rfl
 rw [e]
 exact ⟨rfl,hO.sortedB _ hfR hl (by rw [hp.length_eq,hl]),by unfold sortWorldK putRowK;exact grownBy_sortedK _⟩
end
section
open Go.Shelf
def laysI_ren:Go.Shelf.Ren:=⟨fun | 171=>93 | 243=>144 | 246=>192 | 283=>217 | 284=>218 | 285=>219 | 286=>220 | 129=>167 | 317=>261 | 318=>262 | 319=>263 | 320=>264 | 337=>281 | 338=>282 | n=>n,fun | 3=>3 | 9=>9 | 2=>2 | 4=>4 | 171=>256 | 0=>0 | 53=>205 | 37=>144 | 5=>5 | 173=>258 | 212=>289 | 51=>203 | 20=>20 | 213=>290 | 46=>142 | 232=>307 | 233=>308 | n=>n,fun | 17=>1 | 18=>2 | 19=>3 | n=>n⟩
theorem laysI:Go.Proofs.Lays.n171 Tryz.prog laysI_ren:={
 mixed:=by kernel_rfl
 f129:=Tryz.func167.trans (congrArg some (by kernel_rfl))
 f171:=Tryz.func93.trans (congrArg some (by kernel_rfl))
 f243:=Tryz.func144.trans (congrArg some (by kernel_rfl))
 f246:=Tryz.func192.trans (congrArg some (by kernel_rfl))
 f283:=Tryz.func217.trans (congrArg some (by kernel_rfl))
 f284:=Tryz.func218.trans (congrArg some (by kernel_rfl))
 f285:=Tryz.func219.trans (congrArg some (by kernel_rfl))
 f286:=Tryz.func220.trans (congrArg some (by kernel_rfl))
 f317:=Tryz.func261.trans (congrArg some (by kernel_rfl))
 f318:=Tryz.func262.trans (congrArg some (by kernel_rfl))
 f319:=Tryz.func263.trans (congrArg some (by kernel_rfl))
 f320:=Tryz.func264.trans (congrArg some (by kernel_rfl))
 f337:=Tryz.func281.trans (congrArg some (by kernel_rfl))
 f338:=Tryz.func282.trans (congrArg some (by kernel_rfl))
 t0:=Tryz.underlying0
 a0:=Tryz.isAgg0
 z0:=Tryz.sizeOf0
 v0:=Tryz.zeroValue0
 t2:=Tryz.underlying2
 a2:=Tryz.isAgg2
 z2:=Tryz.sizeOf2
 v2:=Tryz.zeroValue2
 t3:=Tryz.underlying3
 a3:=Tryz.isAgg3
 z3:=Tryz.sizeOf3
 v3:=Tryz.zeroValue3
 t4:=Tryz.underlying4
 a4:=Tryz.isAgg4
 z4:=Tryz.sizeOf4
 v4:=Tryz.zeroValue4
 t5:=Tryz.underlying5
 a5:=Tryz.isAgg5
 z5:=Tryz.sizeOf5
 v5:=Tryz.zeroValue5
 t9:=Tryz.underlying9
 a9:=Tryz.isAgg9
 z9:=Tryz.sizeOf9
 v9:=Tryz.zeroValue9
 t20:=Tryz.underlying20
 a20:=Tryz.isAgg20
 z20:=Tryz.sizeOf20
 v20:=Tryz.zeroValue20
 t37:=Tryz.underlying144
 a37:=Tryz.isAgg144
 z37:=Tryz.sizeOf144
 v37:=Tryz.zeroValue144
 t46:=Tryz.underlying142
 a46:=Tryz.isAgg142
 z46:=Tryz.sizeOf142
 v46:=Tryz.zeroValue142
 t51:=Tryz.underlying203
 a51:=Tryz.isAgg203
 z51:=Tryz.sizeOf203
 v51:=Tryz.zeroValue203
 t53:=Tryz.underlying205
 a53:=Tryz.isAgg205
 z53:=Tryz.sizeOf205
 v53:=Tryz.zeroValue205
 t171:=Tryz.underlying256
 a171:=Tryz.isAgg256
 z171:=Tryz.sizeOf256
 v171:=Tryz.zeroValue256
 t173:=Tryz.underlying258
 a173:=Tryz.isAgg258
 z173:=Tryz.sizeOf258
 v173:=Tryz.zeroValue258
 t212:=Tryz.underlying289
 a212:=Tryz.isAgg289
 z212:=Tryz.sizeOf289
 v212:=Tryz.zeroValue289
 t213:=Tryz.underlying290
 a213:=Tryz.isAgg290
 z213:=Tryz.sizeOf290
 t232:=Tryz.underlying307
 a232:=Tryz.isAgg307
 z232:=Tryz.sizeOf307
 v232:=Tryz.zeroValue307
 t233:=Tryz.underlying308
 a233:=Tryz.isAgg308
 z233:=Tryz.sizeOf308
 v233:=Tryz.zeroValue308
 g17:=by kernel_rfl
 g18:=by kernel_rfl
 g19:=by kernel_rfl }
end
section
def partsK:Nat→List ByteArray→List (Int × ByteArray)
 | _,[]=>[]
 | n,x :: l=>if x.size=0 then partsK (n+1) l else ((n:Int),x) :: partsK (n+1) l
theorem parts_cons (n:Nat) (x:ByteArray) (l:List ByteArray):partsK n (x :: l)=if x.size=0 then partsK (n+1) l else ((n:Int),x) :: partsK (n+1) l:=rfl
theorem parts_mem:∀ (l:List ByteArray) (n:Nat) (p:Int × ByteArray),p ∈ partsK n l ↔ ∃ k:Nat,l[k]?=some p.2∧p.2.size ≠ 0∧p.1=(n:Int)+k
 | [],n,p=>by simp [partsK]
 | x :: l,n,p=>by
  have ih:=parts_mem l (n+1) p
  have hstep:(∃ k:Nat,(x :: l)[k]?=some p.2∧p.2.size ≠ 0∧p.1=(n:Int)+k) ↔ (x=p.2∧p.2.size ≠ 0∧p.1=(n:Int))∨∃ k:Nat,l[k]?=some p.2∧p.2.size ≠ 0∧p.1=((n+1:Nat):Int)+k:=by
   constructor
   · rintro ⟨k,h1,h2,h3⟩
     cases k with
     | zero=>left;simp at h1;exact ⟨h1,h2,by omega⟩
     | succ k=>right;exact ⟨k,by simpa using h1,h2,by omega⟩
   · rintro (⟨h1,h2,h3⟩ | ⟨k,h1,h2,h3⟩)
     · exact ⟨0,by simp [h1],h2,by omega⟩
     · exact ⟨k+1,by simpa using h1,h2,by omega⟩
  rw [hstep,← ih,parts_cons]
  by_cases hx:x.size=0
  · rw [if_pos hx]
    constructor
    · exact .inr
    · rintro (⟨h1,h2,h3⟩ | h)
      · subst h1;exact absurd hx h2
      · exact h
  · rw [if_neg hx,List.mem_cons]
    constructor
    · rintro (h | h)
      · subst h;exact .inl ⟨rfl,hx,rfl⟩
      · exact .inr h
    · rintro (⟨h1,h2,h3⟩ | h)
      · exact .inl (Prod.ext h3 h1.symm)
      · exact .inr h
theorem partsK_ge (l:List ByteArray) (n:Nat):∀ p ∈ partsK n l,(n:Int)≤p.1:=fun p hp=>by
 obtain ⟨k,h1,h2,h3⟩:=(parts_mem l n p).1 hp
 omega
def RiseP (l:List (Int × ByteArray)):Prop:=l.Pairwise fun p q=>p.1 < q.1
theorem parts_rise:∀ (l:List ByteArray) (n:Nat),RiseP (partsK n l)
 | [],n=>by simp [partsK,RiseP]
 | x :: l,n=>by
  rw [parts_cons]
  split
  · exact parts_rise l (n+1)
  · exact List.Pairwise.cons (fun q hq=>by have:=partsK_ge l (n+1) q hq;simp only;omega) (parts_rise l (n+1))
theorem parts_len:∀ (l:List ByteArray) (n:Nat),(partsK n l).length≤l.length
 | [],n=>by simp [partsK]
 | x :: l,n=>by
  rw [parts_cons]
  have:=parts_len l (n+1)
  split
  · simp;omega
  · simp;omega
theorem size_nil {x y:ByteArray} (h:x.size=0) (k:y.size=0):x=y:=by
 have e:∀ z:ByteArray,z.size=0→z=⟨#[]⟩:=fun z hz=>by
  obtain ⟨a⟩:=z
  have:a.size=0:=hz
  rw [Array.eq_empty_of_size_eq_zero this]
 rw [e x h,e y k]
theorem partsK_inj {x y:List ByteArray} {n:Nat} (hl:x.length=y.length) (h:partsK n x=partsK n y):x=y:=by
 refine List.ext_getElem hl fun k h1 h2=>?_
 by_cases hx:x[k].size=0
 · by_cases hy:y[k].size=0
   · exact size_nil hx hy
   · have:(((n:Int)+k,y[k]):Int × ByteArray) ∈ partsK n x:=by rw [h];exact (parts_mem _ _ _).2 ⟨k,List.getElem?_eq_getElem h2,hy,rfl⟩
     obtain ⟨j,e1,e2,e3⟩:=(parts_mem _ _ _).1 this
     simp only at e1 e3
     have:j=k:=by omega
     subst this
     rw [List.getElem?_eq_getElem h1] at e1
     exact Option.some.inj e1
 · have:(((n:Int)+k,x[k]):Int × ByteArray) ∈ partsK n y:=by rw [← h];exact (parts_mem _ _ _).2 ⟨k,List.getElem?_eq_getElem h1,hx,rfl⟩
   obtain ⟨j,e1,e2,e3⟩:=(parts_mem _ _ _).1 this
   simp only at e1 e3
   have:j=k:=by omega
   subst this
   rw [List.getElem?_eq_getElem h2] at e1
   exact (Option.some.inj e1).symm
def unlikeP (x y:List (Int × ByteArray)):Nat :=
 match x,y with
 | [],y=>y.length
 | p :: x,[]=>x.length+1
 | p :: x,q :: y=>(if p=q then 0 else 1)+if p.1 < q.1 then unlikeP x (q :: y) else if q.1 < p.1 then unlikeP (p :: x) y else unlikeP x y
termination_by x.length+y.length
theorem unlike_nil (y:List (Int × ByteArray)):unlikeP [] y=y.length:=by unfold unlikeP;rfl
theorem unlike_nil2 (x:List (Int × ByteArray)):unlikeP x []=x.length:=by cases x <;> unfold unlikeP <;> rfl
theorem unlike_le (p q:Int × ByteArray) (x y:List (Int × ByteArray)):unlikeP (p :: x) (q :: y)=(if p=q then 0 else 1)+if p.1 < q.1 then unlikeP x (q :: y) else if q.1 < p.1 then unlikeP (p :: x) y else unlikeP x y:=by rw [unlikeP]
theorem unlike_up (x y:List (Int × ByteArray)):unlikeP x y≤x.length+y.length:=by
 induction x,y using unlikeP.induct with
 | case1 y=>rw [unlike_nil];simp
 | case2 p x=>rw [unlike_nil2];simp
 | case3 p x q y h1 h2 h3=>rw [unlike_le];simp only [List.length_cons] at *;split <;> split <;> (try split) <;> omega
theorem unlike_right (n:Int) (s:ByteArray) (A B:List (Int × ByteArray)) (h:∀ p ∈ A,n < p.1):unlikeP A ((n,s) :: B)=1+unlikeP A B:=by
 cases A with
 | nil=>rw [unlike_nil,unlike_nil];simp;omega
 | cons p A =>
  have hp:=h p List.mem_cons_self
  rw [unlike_le,if_neg (show ¬ p=(n,s) from fun e=>by rw [e] at hp;simp at hp),if_neg (show ¬ p.1 < n by omega),if_pos (show n < p.1 from hp)]
theorem unlike_left (n:Int) (s:ByteArray) (A B:List (Int × ByteArray)) (h:∀ p ∈ B,n < p.1):unlikeP ((n,s) :: A) B=1+unlikeP A B:=by
 cases B with
 | nil=>rw [unlike_nil2,unlike_nil2];simp;omega
 | cons q B =>
  have hq:=h q List.mem_cons_self
  rw [unlike_le,if_neg (show ¬ (n,s)=q from fun e=>by rw [← e] at hq;simp at hq),if_pos (show n < q.1 from hq)]
def diffN:List ByteArray→List ByteArray→Nat
 | x :: X,y :: Y=>(if x=y then 0 else 1)+diffN X Y
 | _,_=>0
theorem unlike_parts:∀ (X Y:List ByteArray) (n:Nat),X.length=Y.length→unlikeP (partsK n X) (partsK n Y)=diffN X Y
 | [],[],n,_=>by simp [partsK,diffN,unlike_nil]
 | [],y :: Y,n,h=>by simp at h
 | x :: X,[],n,h=>by simp at h
 | x :: X,y :: Y,n,h=>by
  have ih:=unlike_parts X Y (n+1) (by simpa using h)
  have gX:∀ p ∈ partsK (n+1) X,(n:Int) < p.1:=fun p hp=>by have:=partsK_ge X (n+1) p hp;omega
  have gY:∀ p ∈ partsK (n+1) Y,(n:Int) < p.1:=fun p hp=>by have:=partsK_ge Y (n+1) p hp;omega
  simp only [partsK,diffN]
  by_cases hx:x.size=0
  · by_cases hy:y.size=0
    · rw [if_pos hx,if_pos hy,ih,if_pos (size_nil hx hy)];omega
    · rw [if_pos hx,if_neg hy,unlike_right _ _ _ _ gX,ih,if_neg (fun e=>hy (by rw [← e];exact hx))]
  · by_cases hy:y.size=0
    · rw [if_neg hx,if_pos hy,unlike_left _ _ _ _ gY,ih,if_neg (fun e=>hx (by rw [e];exact hy))]
    · rw [if_neg hx,if_neg hy,unlike_le]
      simp only [Int.lt_irrefl,if_false,ih]
      by_cases e:x=y
      · rw [if_pos (by rw [e]),if_pos e]
      · rw [if_neg (fun k=>e (Prod.mk.inj k).2),if_neg e]
theorem diff_com {γ:Type} (f g:γ→ByteArray):∀ l:List γ,diffN (l.map f) (l.map g)+(l.filter fun c=>decide (f c=g c)).length=l.length
 | []=>rfl
 | c :: l=>by
  have ih:=diff_com f g l
  simp only [List.map_cons,diffN,List.filter_cons]
  by_cases e:f c=g c
  · rw [if_pos e,if_pos (by simp [e])];simp only [List.length_cons];omega
  · rw [if_neg e,if_neg (by simp [e])];simp only [List.length_cons];omega
theorem nodup_rise {l:List (Int × ByteArray)} (h:RiseP l):l.Nodup:=h.imp fun h e=>by rw [e] at h;omega
theorem perm_mem {α:Type} [DecidableEq α] {x y:List α} (hx:x.Nodup) (hy:y.Nodup) (h:∀ a,a ∈ x ↔ a ∈ y):x.Perm y:=by
 rw [List.perm_iff_count]
 intro a
 rw [hx.count,hy.count]
 simp [h a]
def partO (m:Nat→Option Nat) (r:List ByteArray) (col:Nat):Option (Int × ByteArray):=(m col).bind fun c=>(r[col]?).bind fun s=>if s.size=0 then none else some ((c:Int),s)
def partsU (m:Nat→Option Nat) (r:List ByteArray) (n:Nat):List (Int × ByteArray):=(List.range n).filterMap (partO m r)
theorem partO_some {m:Nat→Option Nat} {r:List ByteArray} {col:Nat} {p:Int × ByteArray}:partO m r col=some p ↔ ∃ c s,m col=some c∧r[col]?=some s∧s.size ≠ 0∧p=((c:Int),s):=by
 unfold partO
 rw [Option.bind_eq_some_iff]
 constructor
 · rintro ⟨c,h1,h2⟩
   rw [Option.bind_eq_some_iff] at h2
   obtain ⟨s,h2,h3⟩:=h2
   split at h3
   · cases h3
   · rename_i h4
     exact ⟨c,s,h1,h2,h4,(Option.some.inj h3).symm⟩
 · rintro ⟨c,s,h1,h2,h3,rfl⟩
   refine ⟨c,h1,?_⟩
   rw [h2]
   show (if s.size=0 then none else some ((c:Int),s))=_
   rw [if_neg h3]
theorem partsU_next (m:Nat→Option Nat) (r:List ByteArray) (n:Nat):partsU m r (n+1)=partsU m r n ++ (partO m r n).toList:=by
 unfold partsU
 rw [List.range_succ,List.filterMap_append]
 congr 1
def cellR (r:List ByteArray) (c:Int):ByteArray:=if 0≤c then (r[c.toNat]?).getD ⟨#[]⟩ else ⟨#[]⟩
theorem cellR_size {r:List ByteArray} {c:Int} (h:(cellR r c).size ≠ 0):0≤c∧r[c.toNat]?=some (cellR r c):=by
 unfold cellR at h ⊢
 by_cases h0:0≤c
 · rw [if_pos h0] at h ⊢
   cases e:r[c.toNat]? with
   | none=>rw [e] at h;exact absurd rfl h
   | some s=>exact ⟨h0,rfl⟩
 · rw [if_neg h0] at h;exact absurd rfl h
theorem parts_perm (cs:List Int) (m:Nat→Option Nat) (r:List ByteArray) (hm:∀ (col c:Nat),m col=some c ↔ cs[c]?=some (col:Int)):(partsK 0 (cs.map (cellR r))).Perm (partsU m r r.length):=by
 refine perm_mem (nodup_rise (parts_rise _ _)) ?_ fun p=>?_
 · unfold partsU
   rw [List.Nodup,List.pairwise_filterMap]
   refine List.pairwise_lt_range.imp fun {a b} hab x hx y hy e=>?_
   obtain ⟨c,s,h1,h2,h3,rfl⟩:=partO_some.1 hx
   obtain ⟨d,t,k1,k2,k3,rfl⟩:=partO_some.1 hy
   simp only [Prod.mk.injEq] at e
   have:c=d:=by omega
   subst this
   have e1:=(hm a c).1 h1
   rw [(hm b c).1 k1] at e1
   have:=Option.some.inj e1
   omega
 · rw [parts_mem]
   unfold partsU
   rw [List.mem_filterMap]
   constructor
   · rintro ⟨k,h1,h2,h3⟩
     rw [List.getElem?_map,Option.map_eq_some_iff] at h1
     obtain ⟨c,hc,h4⟩:=h1
     rw [← h4] at h2
     obtain ⟨h0,h5⟩:=cellR_size h2
     rw [h4] at h5 h2
     refine ⟨c.toNat,List.mem_range.2 (List.getElem?_eq_some_iff.1 h5).1,partO_some.2 ⟨k,p.2,(hm _ _).2 (by rw [hc];congr 1;omega),h5,h2,Prod.ext (by simp only;omega) rfl⟩⟩
   · rintro ⟨col,hcol,h⟩
     obtain ⟨c,s,h1,h2,h3,rfl⟩:=partO_some.1 h
     refine ⟨c,?_,h3,by simp⟩
     rw [List.getElem?_map,(hm col c).1 h1]
     simp [cellR,h2]
def flatP (num:Nat→List UInt8) (ps:List (Int × ByteArray)):List (List UInt8):=ps.flatMap fun p=>[num p.1.toNat,p.2.data.toList]
theorem flatP_inj (num:Nat→List UInt8) (hnum:∀ u v,num u=num v→u=v):∀ (x y:List (Int × ByteArray)),(∀ p ∈ x,0≤p.1)→(∀ p ∈ y,0≤p.1)→flatP num x=flatP num y→x=y
 | [],[],_,_,_=>rfl
 | [],q :: y,_,_,h=>by simp [flatP] at h
 | p :: x,[],_,_,h=>by simp [flatP] at h
 | p :: x,q :: y,hx,hy,h=>by
  simp only [flatP,List.flatMap_cons,List.cons_append,List.nil_append,List.cons.injEq] at h
  obtain ⟨h1,h2,h3⟩:=h
  have ih:=flatP_inj num hnum x y (fun p hp=>hx p (List.mem_cons_of_mem _ hp)) (fun p hp=>hy p (List.mem_cons_of_mem _ hp)) h3
  have a1:=hx p List.mem_cons_self
  have a2:=hy q List.mem_cons_self
  have:=hnum _ _ h1
  have e1:p.1=q.1:=by omega
  have e2:p.2=q.2:=by
   have h4:p.2.data=q.2.data:=Array.ext' h2
   cases hp:p.2;cases hq:q.2;rw [hp,hq] at h4;simpa using h4
  rw [ih,Prod.ext e1 e2]
end
section
theorem write_inj (d:UInt8) (crlf:Bool) (r s:List (List UInt8)) (hd:Q.goodI (d.toNat:Int)=true) (hr:r ≠ []) (hs:s ≠ []) (h:Q.writeL r d crlf=Q.writeL s d crlf):r=s:=by
 have hr0:0 < r.length:=List.length_pos_iff.2 hr
 have hs0:0 < s.length:=List.length_pos_iff.2 hs
 have key:∀ k,k≤r.length→k≤s.length∧(0 < k→(k=r.length ↔ k=s.length))∧(k < r.length→k < s.length→Q.posOf r d crlf k=Q.posOf s d crlf k)∧∀ j,j < k→r[j]?=s[j]?:=by
  intro k
  induction k with
  | zero=>exact fun _=>⟨Nat.zero_le _,fun h=>absurd h (by omega),fun _ _=>by rw [Q.pos_zero r d crlf hr0,Q.pos_zero s d crlf hs0],fun j hj=>absurd hj (by omega)⟩
  | succ k ih =>
   intro hk
   obtain ⟨h1,h2,h3,h4⟩:=ih (by omega)
   have hks:k < s.length:=by
    rcases Nat.eq_zero_or_pos k with h0 | h0
    · omega
    · have:=h2 h0;omega
   have hp:=h3 (by omega) hks
   obtain ⟨f1,-⟩:=Q.back_step r d crlf [] hd k (by omega)
   obtain ⟨f2,-⟩:=Q.back_step s d crlf [] hd k hks
   rw [h,hp,f2] at f1
   simp only [Prod.mk.injEq] at f1
   obtain ⟨g1,g2,g3,-⟩:=f1
   refine ⟨by omega,fun _=>?_,fun a b=>by exact_mod_cast g2.symm,fun j hj=>?_⟩
   · constructor
     · intro e
       rw [if_pos e] at g3
       split at g3
       · assumption
       · cases g3
     · intro e
       rw [if_pos e] at g3
       split at g3
       · assumption
       · cases g3
   · rcases Nat.lt_or_ge j k with hl | hl
     · exact h4 j hl
     · have:j=k:=by omega
       subst this
       rw [List.getElem?_eq_getElem (by omega),List.getElem?_eq_getElem hks,g1]
 obtain ⟨-,k2,-,k4⟩:=key r.length (Nat.le_refl _)
 have hl:r.length=s.length:=(k2 hr0).1 rfl
 refine List.ext_getElem? fun j=>?_
 rcases Nat.lt_or_ge j r.length with hj | hj
 · exact k4 j hj
 · rw [List.getElem?_eq_none hj,List.getElem?_eq_none (by omega)]
theorem put_ne (c:List UInt8) (d:Int) (h:c ≠ []):Q.putL c d ≠ []:=by
 unfold Q.putL
 split
 · exact h
 · simp [Q.quoted]
theorem write_one (d:UInt8) (crlf:Bool) (c:List UInt8) (r:List (List UInt8)) (h:c ≠ []):Q.writeL (c :: r) d crlf ≠ Q.writeL [] d crlf:=by
 unfold Q.writeL
 intro e
 have:=congrArg List.length e
 have h2:=put_ne c (d.toNat:Int) h
 have h3:0 < (Q.putL c (d.toNat:Int)).length:=List.length_pos_iff.2 h2
 simp only [Q.recL,List.length_append,List.length_nil] at this
 omega
def textP (ps:List (Int × ByteArray)):List UInt8:=Q.writeL (flatP Lib.decDigits ps) 44 false
theorem dec_ne (u:Nat):Lib.decDigits u ≠ []:=by rw [Lib.decDigits];split <;> simp
theorem flat_ne {p:Int × ByteArray} {x:List (Int × ByteArray)}:flatP Lib.decDigits (p :: x)=Lib.decDigits p.1.toNat :: p.2.data.toList :: flatP Lib.decDigits x:=rfl
theorem textP_inj {x y:List (Int × ByteArray)} (hx:∀ p ∈ x,0≤p.1) (hy:∀ p ∈ y,0≤p.1) (h:textP x=textP y):x=y:=by
 unfold textP at h
 cases x with
 | nil =>
  cases y with
  | nil=>rfl
  | cons q y=>exact absurd h.symm (by rw [flat_ne];exact write_one _ _ _ _ (dec_ne _))
 | cons p x =>
  cases y with
  | nil=>exact absurd h (by rw [flat_ne];exact write_one _ _ _ _ (dec_ne _))
  | cons q y=>exact flatP_inj _ dec_inj _ _ hx hy (write_inj 44 false _ _ (by decide) (by simp [flat_ne]) (by simp [flat_ne]) h)
def textR (x:List ByteArray):List UInt8:=textP (partsK 0 x)
theorem textR_inj {x y:List ByteArray} (hl:x.length=y.length) (h:textR x=textR y):x=y :=
 partsK_inj hl (textP_inj (fun p hp=>by have:=partsK_ge x 0 p hp;omega) (fun p hp=>by have:=partsK_ge y 0 p hp;omega) h)
theorem lookA_row {ra:List (List ByteArray)} {cols:PL} {x:List ByteArray} (h:x ∈ lookA ra cols):x.length=cols.length:=by
 unfold lookA at h
 obtain ⟨i,-,rfl⟩:=List.mem_map.1 h
 rw [keyAt_len,List.length_map]
theorem lookB_row {rb:List (List ByteArray)} {cols:PL} {x:List ByteArray} (h:x ∈ lookB rb cols):x.length=cols.length:=by
 unfold lookB at h
 obtain ⟨i,-,rfl⟩:=List.mem_map.1 h
 rw [keyAt_len,List.length_map]
theorem look_text (ra rb:List (List ByteArray)) (cols:PL):wayC 0 0 ((lookA ra cols).map textR) ((lookB rb cols).map textR)=lookC ra rb cols :=
 look_texts ra rb cols textR fun x hx y hy h=>textR_inj (by rw [lookA_row hx,lookB_row hy]) h
theorem score_is (ra rb:List (List ByteArray)) (cols:PL) (i k:Int):unlikeP (partsK 0 (keyAt ra (cols.map Prod.fst) i)) (partsK 0 (keyAt rb (cols.map Prod.snd) k))+comN ra rb cols i k=cols.length:=by
 rw [unlike_parts _ _ 0 (by rw [keyAt_len,keyAt_len,List.length_map,List.length_map])]
 unfold keyAt comN
 rw [List.map_map,List.map_map]
 exact diff_com (fun c=>cellL ra i c.1) (fun c=>cellL rb k c.2) cols
theorem cell_row_is {rs:List (List ByteArray)} {i:Nat} {r:List ByteArray} (h:rs[i]?=some r) (c:Int):cellL rs (i:Int) c=cellR r c:=by
 unfold cellL cellR
 by_cases h0:0≤c
 · rw [if_pos ⟨by omega,h0⟩,if_pos h0,Int.toNat_natCast,h];rfl
 · rw [if_neg (fun k=>h0 k.2),if_neg h0]
theorem keyAt_row {rs:List (List ByteArray)} {i:Nat} {r:List ByteArray} (h:rs[i]?=some r) (cs:List Int):keyAt rs cs (i:Int)=cs.map (cellR r):=List.map_congr_left fun c _=>cell_row_is h c
end
section
open Go.RowKit Go.Shelf
abbrev PtL:=List (Int × ByteArray)
def encPt (c:Int × ByteArray):List Value:=[.int .i64 c.1,.string c.2]
def PtsAt (w:World) (ao:Option Addr) (l:PtL):Prop:=l=[]∨∃ b o,ao=some ⟨b,o,none⟩∧b < w.heap.size∧∀ (i:Nat) p,l[i]?=some p→w.cell? ⟨b,o+i * 2,none⟩=some (.int .i64 p.1)∧w.cell? ⟨b,o+i * 2+1,none⟩=some (.string p.2)
theorem PtsAt.kept {w w':World} {ao:Option Addr} {l:PtL} (h:PtsAt w ao l) (hB:Below w.heap.size w w'):PtsAt w' ao l:=by
 rcases h with h | ⟨b,o,h1,h2,h3⟩
 · exact .inl h
 · exact .inr ⟨b,o,h1,Nat.lt_of_lt_of_le h2 hB.size,fun i p hp=>⟨(hB.cell (p:=⟨b,o+i * 2,none⟩) h2).trans (h3 i p hp).1,(hB.cell (p:=⟨b,o+i * 2+1,none⟩) h2).trans (h3 i p hp).2⟩⟩
theorem PtsAt.tail {w:World} {b o:Nat} {p:Int × ByteArray} {l:PtL} (h:PtsAt w (some ⟨b,o,none⟩) (p :: l)):PtsAt w (some ⟨b,o+2,none⟩) l:=by
 rcases h with h | ⟨b',o',h1,h2,h3⟩
 · cases h
 · cases h1
   refine .inr ⟨b,o+2,rfl,h2,fun i q hq=>?_⟩
   have:=h3 (i+1) q (by simpa using hq)
   rw [show o+(i+1) * 2=o+2+i * 2 from by omega] at this
   exact this
theorem PtsAt.first {w:World} {ao:Option Addr} {p:Int × ByteArray} {l:PtL} (h:PtsAt w ao (p :: l)):∃ b o,ao=some ⟨b,o,none⟩∧b < w.heap.size∧w.cell? ⟨b,o,none⟩=some (.int .i64 p.1)∧w.cell? ⟨b,o+1,none⟩=some (.string p.2):=by
 rcases h with h | ⟨b,o,h1,h2,h3⟩
 · cases h
 · have:=h3 0 p rfl
   exact ⟨b,o,h1,h2,by simpa using this.1,by simpa using this.2⟩
def cellsPt (l:PtL):List Value:=l.flatMap encPt
theorem cellsPt_cons (p:Int × ByteArray) (l:PtL):cellsPt (p :: l)=.int .i64 p.1 :: .string p.2 :: cellsPt l:=rfl
theorem cellsPt_length (l:PtL):(cellsPt l).length=l.length * 2:=by
 induction l with
 | nil=>rfl
 | cons p l ih=>rw [cellsPt_cons];simp only [List.length_cons,ih];omega
theorem cellsPt_app (l m:PtL):cellsPt (l ++ m)=cellsPt l ++ cellsPt m:=by simp [cellsPt]
theorem cellsPt_at (l:PtL) (k:Nat) (p:Int × ByteArray) (h:l[k]?=some p):(cellsPt l)[k * 2]?=some (.int .i64 p.1)∧(cellsPt l)[k * 2+1]?=some (.string p.2):=by
 induction l generalizing k with
 | nil=>simp at h
 | cons q l ih =>
  cases k with
  | zero=>simp at h;subst h;exact ⟨rfl,rfl⟩
  | succ k =>
   have:=ih k (by simpa using h)
   rw [cellsPt_cons,show (k+1) * 2=k * 2+1+1 from by omega]
   simpa using this
def OwnPt (w:World) (base:Nat) (v:Value) (l:PtL):Prop:=w.ownsRow base 129 2 v l.length (cellsPt l)
theorem OwnPt.kept {w w':World} {base:Nat} {v:Value} {l:PtL} (h:OwnPt w base v l) (hB:Below w.heap.size w w'):OwnPt w' base v l:=ownsRow_below h hB
theorem OwnPt.ptsAt {w:World} {base:Nat} {v:Value} {l:PtL} (h:OwnPt w base v l):∃ ao cap,v=.slice ao l.length cap∧PtsAt w ao l∧(∀ A,ao=some A→base≤A.block)∧(ao=none→cap=0)∧l.length≤cap:=by
 rcases h.2 with ⟨rfl,h1⟩ | ⟨g,cap,cur,h0,hb,hg,r1,r2,r3,r4⟩
 · have hl:l=[]:=List.eq_nil_of_length_eq_zero h1
   subst hl
   exact ⟨none,0,rfl,.inl rfl,(fun A h=>nomatch h),(fun _=>rfl),Nat.zero_le _⟩
 · refine ⟨some ⟨g,0,none⟩,cap,h0,.inr ⟨g,0,rfl,lt_of_heap hg,fun i p hp=>?_⟩,(fun A h=>by injection h with h;subst h;exact hb),(fun h=>nomatch h),?_⟩
   · obtain ⟨hk,_⟩:=List.getElem?_eq_some_iff.1 hp
     obtain ⟨c1,c2⟩:=cellsPt_at l i p hp
     rw [Nat.zero_add]
     subst h0
     exact ⟨(World.ownsRow.cellAt h (i * 2) (by omega)).trans c1,(World.ownsRow.cellAt h (i * 2+1) (by omega)).trans c2⟩
   · first | exact r1 | exact r2 | omega
end
end Go.Proofs.YtdenehnneloegaaGreatDoor
