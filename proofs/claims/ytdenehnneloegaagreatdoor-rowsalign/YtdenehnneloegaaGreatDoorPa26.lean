/-
  Texts of these rows' proofs, laid one behind the other: CRef3, CSpec, CWorks, CFew, CShelf, CCat, CSort, CCols.
  Conditions: those of each theorem.
-/
import Derived.Deep.OwnRows
import Derived.Deep.RegionHeld3
import Derived.WalkKit
import Derived.WalkMore
import Derived.IntWalk
import Derived.WalkArith
import Derived.OwnWalk
import Derived.Lib.Hide
import Derived.Test.YtdenehnneloegaaGreatDoorProg
import Derived.Test.YtdenehnneloegaaGreatDoorPa25
import Derived.Test.YtdenehnneloegaaGreatDoorPa23
import Derived.Test.YtdenehnneloegaaGreatDoorPa3
import Derived.Test.YtdenehnneloegaaGreatDoorPa4
import Derived.Shelf.SlSortCmp.NoneTotal
import Derived.Lib.SliceRun
import Derived.Lib.AppendZerosOnto
import Derived.Laws.AppendOwn
import Derived.Sort.OwnSorted
import Derived.Test.YtdenehnneloegaaGreatDoorPa24
import Derived.Laws.OwnMore
import Derived.Deep.Cut
import Derived.Laws.CopyOwn
import Derived.Deep.RegionLaw
import Derived.Deep.RegionWith
import Derived.Deep.CutRange
import Derived.Deep.Onto
import Derived.Test.YtdenehnneloegaaGreatDoorPa2
namespace Go.Proofs.YtdenehnneloegaaGreatDoor
set_option linter.unusedVariables false
set_option maxRecDepth 100000
set_option maxHeartbeats 8000000
section
open Go.RowKit Go.Shelf Go.Deep
def alignE (ha:List ByteArray) (ra:List (List ByteArray)) (hb:List ByteArray) (rb:List (List ByteArray)):Int:=if checkI ha ra ≠ 0 then checkI ha ra else checkI hb rb
def alignR (ha:List ByteArray) (ra:List (List ByteArray)) (hb:List ByteArray) (rb:List (List ByteArray)) (rename:Bool):PL:=if alignE ha ra hb rb=0 then alignL ra rb ha hb rename else []
def AlignOut (E:Int) (L:PL) (w:World) (e:Ending) (w':World):Prop:=∃ ao cap,e=.returned (.tuple #[.slice ao L.length cap,.int .i64 E])∧PairsAt w' ao L∧(ao=none→cap=0)∧L.length≤cap∧Below w.heap.size w w'
theorem align_bad1 (ha:List ByteArray) (ra:List (List ByteArray)) (hb:List ByteArray) (rb:List (List ByteArray)) (rename:Bool) (h:checkI ha ra ≠ 0):alignE ha ra hb rb=checkI ha ra∧alignR ha ra hb rb rename=[]:=by
 have e:alignE ha ra hb rb=checkI ha ra:=if_pos h
 exact ⟨e,by unfold alignR;rw [e,if_neg h]⟩
theorem align_bad2 (ha:List ByteArray) (ra:List (List ByteArray)) (hb:List ByteArray) (rb:List (List ByteArray)) (rename:Bool) (h0:checkI ha ra=0) (h:checkI hb rb ≠ 0):alignE ha ra hb rb=checkI hb rb∧alignR ha ra hb rb rename=[]:=by
 have e:alignE ha ra hb rb=checkI hb rb:=if_neg (by simp [h0])
 exact ⟨e,by unfold alignR;rw [e,if_neg h]⟩
theorem align_good (ha:List ByteArray) (ra:List (List ByteArray)) (hb:List ByteArray) (rb:List (List ByteArray)) (rename:Bool) (h0:checkI ha ra=0) (h:checkI hb rb=0):alignE ha ra hb rb=0∧alignR ha ra hb rb rename=alignL ra rb ha hb rename:=by
 have e:alignE ha ra hb rb=0:=by unfold alignE;rw [if_neg (by simp [h0])];exact h
 exact ⟨e,by unfold alignR;rw [e,if_pos rfl]⟩
theorem puts_next (M l:PL) (k:Nat) (x:Int × Int) (h:M[k]?=some x):(M.take (k+1)).foldl putB l=putB ((M.take k).foldl putB l) x:=by
 obtain ⟨hk,e⟩:=List.getElem?_eq_some_iff.1 h
 rw [List.take_succ_eq_append_getElem hk,e,List.foldl_append];rfl
theorem puts_len (M l:PL):(M.foldl putB l).length=l.length+M.length:=by rw [(puts_perm M l).length_eq,List.length_append]
theorem choicesA_le (ra rb:List (List ByteArray)) (ha hb:List ByteArray) (hn:ha.length≤1024) (hn2:hb.length≤1024):(choicesA ra rb ha hb).length≤1048576:=by
 have h1:=choices_le ra rb ha hb (freeB hb (namedL ha hb)) (freeA ha (namedL ha hb))
 have h2:(freeA ha (namedL ha hb)).length * (freeB hb (namedL ha hb)).length≤1024 * 1024:=Nat.mul_le_mul (Nat.le_trans (outOf_le _ _) hn) (Nat.le_trans (outOf_le _ _) hn2)
 unfold choicesA;omega
theorem ralign_any (ho:Option Addr) (hc:Nat) (ha:List ByteArray) (ro:Option Addr) (rc:Nat) (ra:List (List ByteArray)) (bo:Option Addr) (bc:Nat) (hb:List ByteArray) (so:Option Addr) (sc:Nat) (rb:List (List ByteArray)) (rename:Bool) (w:World)
 (hn:ha.length≤1024) (hn2:hb.length≤1024) (hra:ra.length≤1048576) (hrb:rb.length≤1048576) (hxa:∀ r ∈ ra,r.length≤1099511627776) (hxb:∀ r ∈ rb,r.length≤1099511627776)
 (hsa:sumT (allT ha ra)≤1152921504606846976) (hsb:sumT (allT hb rb)≤1152921504606846976) (hH:StrRow w ho ha) (hK:StrRow w bo hb) (hR:RowsAt w ro ra) (hS:RowsAt w so rb) :
 Calls Tryz.prog 30 #[.agg #[.slice ho ha.length hc,.slice ro ra.length rc],.agg #[.slice bo hb.length bc,.slice so rb.length sc],.bool rename] w (AlignOut (alignE ha ra hb rb) (alignR ha ra hb rb rename) w):=by
 obtain ⟨W,HW⟩:∃ W,Hid (W=(w.alloc (TabO ho ha.length hc ro ra.length rc)).alloc (TabO bo hb.length bc so rb.length sc)):=⟨_,Lib.hid rfl⟩
 have hB:Below w.heap.size w W:=by rw [HW.out];exact two_below _ _ _
 have HB0:=Lib.hid hB
 have hN:=two_new w (TabO ho ha.length hc ro ra.length rc) (TabO bo hb.length bc so rb.length sc)
 rw [← HW.out] at hN
 have box:Hid (∀ V,Below W.heap.size W V→(V.cell? ⟨w.heap.size,0,none⟩=some (.slice ho ha.length hc)∧V.cell? ⟨w.heap.size,1,none⟩=some (.slice ro ra.length rc))∧V.cell? ⟨w.heap.size+1,0,none⟩=some (.slice bo hb.length bc)∧V.cell? ⟨w.heap.size+1,1,none⟩=some (.slice so rb.length sc)):=Lib.hid (fun V hV=>⟨tabs ((hV.block _ (lt_of_heap hN.2.1)).trans hN.2.1),tabs ((hV.block _ (lt_of_heap hN.2.2)).trans hN.2.2)⟩)
 have C1:=Lib.hid (rcheck_any ho hc ha ro rc ra W (by omega) (by omega) hxa (hH.kept hB) (hR.kept hB) hsa)
 have C2:=Lib.hid (fun V (h:Below W.heap.size W V)=>rcheck_any bo bc hb so sc rb V (by omega) (by omega) hxb (hK.kept (below_up hB h)) (hS.kept (below_up hB h)) hsb)
 have C3:=Lib.hid (fun V (h:Below W.heap.size W V)=>rnamed_any ho hc ha ro ra.length rc bo bc hb so rb.length sc V (by omega) (by omega) (hH.kept (below_up hB h)) (hK.kept (below_up hB h)))
 have C4:=Lib.hid (fun V lo lc l (h:Below W.heap.size W V) (hl:l.length≤1024) (hP:PairsAt V lo l)=>rchoices_any ho hc ha ro rc ra bo bc hb so sc rb lo lc l V hn hn2 hra hrb hl (hR.kept (below_up hB h)) (hS.kept (below_up hB h)) hP)
 have C5:=Lib.hid (fun V ao cap (h:TripAt V ao (choicesA ra rb ha hb))=>rpick_any ao cap (choicesA ra rb ha hb) V (by have:=choicesA_le ra rb ha hb hn hn2;omega) h)
 have HB1:=Lib.hid (fun h=>align_bad1 ha ra hb rb rename h)
 have HB2:=Lib.hid (fun h1 h2=>align_bad2 ha ra hb rb rename h1 h2)
 have HG:=Lib.hid (fun h1 h2=>align_good ha ra hb rb rename h1 h2)
 have HLn:Hid ((namedL ha hb).length≤1024):=Lib.hid (Nat.le_trans (named_le ha hb hb.length) hn2)
 have HLp:Hid ((pickL (choicesA ra rb ha hb)).length≤1048576):=Lib.hid (Nat.le_trans (pick_len _) (choicesA_le ra rb ha hb hn hn2))
 have HAl:Hid (∀ b,alignL ra rb ha hb b=if b then (pickL (choicesA ra rb ha hb)).foldl putB (namedL ha hb) else namedL ha hb):=Lib.hid (fun b=>rfl)
 have HCA:Hid (choicesOf ra rb ha hb (freeA ha (namedL ha hb)) (freeB hb (namedL ha hb))=choicesA ra rb ha hb):=Lib.hid rfl
 obtain ⟨a,b⟩:=box.out W (Below.refl _ _)
 obtain ⟨a0,a1⟩:=a
 obtain ⟨b0,b1⟩:=b
 clear hR hS hB hN hH hK
 generalize alignE ha ra hb rb=E at HB1 HB2 HG ⊢
 generalize alignR ha ra hb rb rename=R at HB1 HB2 HG ⊢
 generalize checkI ha ra=E1 at C1 HB1 HB2 HG
 generalize checkI hb rb=E2 at C2 HB2 HG
 go_enter Tryz.func30,Tryz.ntmps30
 go_upto_region 1 with fail
 rw [show (w.alloc (Obj.cells #[Value.slice ho ha.length hc,Value.slice ro ra.length rc] 25)).alloc (Obj.cells #[Value.slice bo hb.length bc,Value.slice so rb.length sc] 25)=W from HW.out.symm]
 go_wp2_with fail
 refine C1.out.mono ?_;rintro e w1 ⟨rfl,g1⟩
 have HBa:=Lib.hid g1
 have D2:=Lib.hid (C2.out w1 g1)
 clear g1 a0 a1 b0 b1 C1 C2
 obtain ⟨⟨a0,a1⟩,b0,b1⟩:=box.out w1 HBa.out
 by_cases h1:E1=0
 · have HG1:=Lib.hid (fun h=>HG.out h1 h)
   have HB3:=Lib.hid (fun h=>HB2.out h1 h)
   clear HG HB2 HB1
   subst h1
   go_wp2_with fail
   refine D2.out.mono ?_;rintro e w2 ⟨rfl,g2⟩
   have HBb:=Lib.hid (below_up HBa.out g2)
   clear g2 a0 a1 b0 b1 D2 HBa
   obtain ⟨⟨a0,a1⟩,b0,b1⟩:=box.out w2 HBb.out
   by_cases h2:E2=0
   · obtain ⟨hE,hR⟩:=HG1.out h2
     have HEq:=Lib.hid hE
     have HRq:=Lib.hid hR
     clear hE hR HG1 HB3
     subst h2
     have D3:=Lib.hid (C3.out w2 HBb.out)
     clear C3
     go_wp2_with fail
     refine D3.out.mono ?_;rintro e w3 ⟨lo,lc,rfl,p3,k1,k2,k3,g3⟩
     have HBc:=Lib.hid (below_up HBb.out g3)
     have HP:=Lib.hid p3
     have HK1:=Lib.hid k1
     have HK2:=Lib.hid k2
     have HK3:=Lib.hid k3
     clear g3 a0 a1 b0 b1 p3 D3 HBb k1 k2 k3
     obtain ⟨⟨a0,a1⟩,b0,b1⟩:=box.out w3 HBc.out
     cases rename with
     | false =>
      have HE:Hid (AlignOut E R w (.returned (.tuple #[.slice lo (namedL ha hb).length lc,.int .i64 0])) w3):=Lib.hid (by rw [HEq.out,HRq.out];exact ⟨lo,lc,rfl,HP.out,HK1.out,HK2.out,below_up HB0.out HBc.out⟩)
      clear HAl HEq HRq C4 HCA C5
      generalize namedL ha hb=L at HE
      go_wp2_with fail
      refine bodyPost_ret (v:=.tuple #[.slice lo L.length lc,.int .i64 0]) (by simp [results,Tryz.results30,go_sem]) rfl ?_
      exact HE.out
     | true =>
      have D4:=Lib.hid (C4.out w3 lo lc (namedL ha hb) HBc.out HLn.out HP.out)
      have hA:=HAl.out true
      rw [if_pos rfl] at hA
      rw [HCA.out] at D4
      have HR2:Hid (R=(pickL (choicesA ra rb ha hb)).foldl putB (namedL ha hb)):=Lib.hid (by rw [HRq.out,hA])
      clear hA HAl HCA C4 HRq
      generalize choicesA ra rb ha hb=ch at D4 C5 HLp HR2
      generalize namedL ha hb=L at D4 HP HK1 HK2 HK3 HLn HR2
      go_wp2_with fail
      refine D4.out.mono ?_;rintro e w4 ⟨co,cc,rfl,t4,-,-,g4⟩
      have HBd:=Lib.hid (below_up HBc.out g4)
      have HP4:=Lib.hid (HP.out.kept g4)
      have D5:=Lib.hid (C5.out w4 co cc t4)
      clear g4 a0 a1 b0 b1 D4 C5 HP HBc t4
      generalize pickL ch=M at D5 HLp HR2
      go_wp2_with fail
      refine D5.out.mono ?_;rintro e w5 ⟨mo,mc,rfl,m5,-,-,g5⟩
      have HBe:=Lib.hid (below_up HBd.out g5)
      have HP5:=Lib.hid (HP4.out.kept g5)
      have HM:=Lib.hid m5
      clear g5 D5 HP4 HBd m5
      obtain ⟨O,HO⟩:∃ O:Nat→PL,Hid (O=fun k=>(M.take k).foldl putB L):=⟨_,Lib.hid rfl⟩
      have HO0:Hid (O 0=L):=Lib.hid (by rw [HO.out];rfl)
      have HOn:Hid (∀ (k:Nat) x,M[k]?=some x→O (k+1)=putB (O k) x):=Lib.hid (fun k x h=>by rw [HO.out];exact puts_next M L k x h)
      have HOl:Hid (∀ k,(O k).length≤1049600):=Lib.hid (fun k=>by
       rw [HO.out]
       show ((M.take k).foldl putB L).length≤_
       have:=puts_len (M.take k) L
       have:=HLn.out;have:=HLp.out
       rw [List.length_take] at *
       omega)
      have HR3:Hid (R=O M.length):=Lib.hid (by rw [HR2.out,HO.out];simp)
      clear HR2
      have hst:lo=none→lc=0:=HK1.out
      have hL0:=congrArg List.length HO0.out
      have HS0:Hid (PairsAt w5 lo (O 0)∧(lo=none→lc=0)∧(O 0).length≤lc∧(O 0=[]→lo=none)):=Lib.hid (by rw [HO0.out];exact ⟨HP5.out,HK1.out,HK2.out,HK3.out⟩)
      have HL0:Hid (L.length=(O 0).length):=Lib.hid (by rw [HO0.out])
      clear hst hL0 HP5 HK1 HK2 HK3 HO0
      go_wp2_with fail
      go_loopw [10,12] (fun v u wr=>∃ (k q cp:Nat) (go:Option Addr),k≤M.length∧u=.int .i64 k∧v=.slice go q cp∧Hid (q=(O k).length)∧Hid (Below w5.heap.size w5 wr)∧Hid (PairsAt wr go (O k)∧(go=none→cp=0)∧(O k).length≤cp∧(O k=[]→go=none))) (fun _ u _=>M.length - (intOf u).toNat)
      case atStart=>exact ⟨0,L.length,lc,lo,Nat.zero_le _,rfl,rfl,HL0,Lib.hid (Below.refl _ _),HS0⟩
      case round =>
       obtain ⟨k,q,cp,go,hk,rfl,rfl,HQ,HB,HS⟩:=hrel
       have hk2:k≤1048576:=by have:=HLp.out;omega
       by_cases hlt:k < M.length
       · obtain ⟨⟨x1,x2⟩,hx⟩:∃ x,M[k]?=some x:=⟨_,List.getElem?_eq_getElem hlt⟩
         rcases (HM.out.kept HB.out) with h0 | ⟨b,o,rfl,hA,hcell⟩
         · rw [h0] at hlt;simp at hlt
         obtain ⟨hc1,hc2⟩:=hcell k _ hx
         have HN:=Lib.hid (HOn.out k _ hx)
         obtain ⟨s1,s2,s3,s4⟩:=HS.out
         have D6:=Lib.hid (rput_any go cp (O k) x1 x2 wr (by have:=HOl.out k;omega) s3 s2 s4 s1)
         rw [← HQ.out] at D6
         dsimp only at hc1 hc2
         clear hcell hx s1 s2 s3 s4 HS
         go_wp2_with fail
         refine D6.out.mono ?_;rintro e w6 ⟨go6,cp6,rfl,p6,n6,l6,g6⟩
         rw [← HN.out] at p6 l6 ⊢
         have HB6:=Lib.hid (below_up HB.out g6)
         have HNe:Hid (O (k+1)=[]→go6=none):=Lib.hid (fun h=>by
          have:=congrArg List.length (HN.out.symm.trans h)
          rw [putB_len] at this;simp at this)
         have HS6:Hid (PairsAt w6 go6 (O (k+1))∧(go6=none→cp6=0)∧(O (k+1)).length≤cp6∧(O (k+1)=[]→go6=none)):=Lib.hid ⟨p6,n6,l6,HNe.out⟩
         clear D6 p6 n6 l6 g6 HNe HQ HN
         obtain ⟨q6,hq6⟩:∃ q6,q6=(O (k+1)).length:=⟨_,rfl⟩
         rw [← hq6]
         have HQ6:=Lib.hid hq6
         clear hq6
         go_wp2_with fail
         go_roundw
         case rel=>exact ⟨k+1,q6,cp6,go6,by omega,by go_num,rfl,HQ6,HB6,HS6⟩
         case measure=>simp [intOf];omega
       · obtain rfl:k=M.length:=by omega
         obtain ⟨s1,s2,s3,s4⟩:=HS.out
         have HE:Hid (AlignOut E R w (.returned (.tuple #[.slice go q cp,.int .i64 0])) wr):=Lib.hid (by rw [HEq.out,HR3.out];exact ⟨go,cp,by rw [HQ.out],s1,s2,s3,below_up HB0.out (below_up HBe.out HB.out)⟩)
         clear HS s1 s2 s3 s4 HQ HEq HR3
         go_wp2_with fail
         refine bodyPost_ret (v:=.tuple #[.slice go q cp,.int .i64 0]) (by simp [results,Tryz.results30,go_sem]) rfl ?_
         exact HE.out
   · have hb:(E2 != 0)=true:=by simp [h2]
     obtain ⟨hE,hR⟩:=HB3.out h2
     have HE:Hid (AlignOut E R w (.returned (.tuple #[.slice none 0 0,.int .i64 E2])) w2):=Lib.hid (by rw [hE,hR];exact ⟨none,0,rfl,.inl rfl,fun _=>rfl,Nat.le_refl _,below_up HB0.out HBb.out⟩)
     clear HG1 HB3 C3 C4 C5 HAl HCA hE hR
     go_wp2_with fail
     refine bodyPost_ret (v:=.tuple #[.slice none 0 0,.int .i64 E2]) (by simp [results,Tryz.results30,go_sem]) rfl ?_
     exact HE.out
 · have hb:(E1 != 0)=true:=by simp [h1]
   obtain ⟨hE,hR⟩:=HB1.out h1
   have HE:Hid (AlignOut E R w (.returned (.tuple #[.slice none 0 0,.int .i64 E1])) w1):=Lib.hid (by rw [hE,hR];exact ⟨none,0,rfl,.inl rfl,fun _=>rfl,Nat.le_refl _,below_up HB0.out HBa.out⟩)
   clear HB1 HB2 HG C3 C4 C5 HAl HCA D2 hE hR
   go_wp2_with fail
   refine bodyPost_ret (v:=.tuple #[.slice none 0 0,.int .i64 E1]) (by simp [results,Tryz.results30,go_sem]) rfl ?_
   exact HE.out
end
section
open Go.RowKit Go.Shelf
structure TabIn (w:World) (ho:Option Addr) (hc:Nat) (hd:List ByteArray) (ro:Option Addr) (rc:Nat) (rs:List (List ByteArray)):Prop where
 hl:hd.length≤60
 rl:rs.length≤400
 el:∀ r ∈ rs,r.length≤60
 sum:sumT (allT hd rs)≤100000
 row:StrRow w ho hd
 rows:RowsAt w ro rs
 hcap:hd.length≤hc
 rcap:rs.length≤rc
 hnil:ho=none→hc=0
 rnil:ro=none→rc=0
theorem TabIn.kept {w w':World} {ho:Option Addr} {hc:Nat} {hd:List ByteArray} {ro:Option Addr} {rc:Nat} {rs:List (List ByteArray)} (h:TabIn w ho hc hd ro rc rs) (hB:Below w.heap.size w w'):TabIn w' ho hc hd ro rc rs :=
 ⟨h.hl,h.rl,h.el,h.sum,h.row.kept hB,h.rows.kept hB,h.hcap,h.rcap,h.hnil,h.rnil⟩
theorem TabIn.size {w:World} {ho:Option Addr} {hc:Nat} {hd:List ByteArray} {ro:Option Addr} {rc:Nat} {rs:List (List ByteArray)} (h:TabIn w ho hc hd ro rc rs):∀ c ∈ allT hd rs,c.size≤100000:=fun c hc=>by
 obtain ⟨a,b,e⟩:=List.append_of_mem hc
 have:=h.sum
 rw [e] at this;simp [sumT] at this;omega
theorem TabIn.two {w:World} {ho:Option Addr} {hc:Nat} {hd:List ByteArray} {ro:Option Addr} {rc:Nat} {rs:List (List ByteArray)} (h:TabIn w ho hc hd ro rc rs) {o:Obj}:TabIn (w.alloc o) ho hc hd ro rc rs:=h.kept (one_below _ _)
end
section
open Go.RowKit Go.Shelf
structure ExC (B:Nat) (h:List ByteArray) (rs:List (List ByteArray)) (W:World):Prop where
 lies:∃ (ho:Option Addr) (ro:Option Addr),W.heap[B]?=some (.cells #[.slice ho 2 2,.slice ro 2 2] 25 (0,0))∧StrRow W ho h∧RowsAt W ro rs∧ho ≠ none∧ro ≠ none
theorem ExC.kept {B:Nat} {h:List ByteArray} {rs:List (List ByteArray)} {W V:World} (x:ExC B h rs W) (k:Below W.heap.size W V):ExC B h rs V:=by
 obtain ⟨ho,ro,h1,h2,h3,h4⟩:=x.lies
 exact ⟨ho,ro,(k.block _ (lt_of_heap h1)).trans h1,h2.kept k,h3.kept k,h4⟩
abbrev litRowC (a b:ByteArray):Obj:=.cells #[.string a,.string b] 9
theorem row_litC (W:World) (a b:ByteArray):StrRow (W.alloc (litRowC a b)) (some ⟨W.heap.size,0,none⟩) [a,b]:=new_row W [a,b] 9
theorem lit_tC (w V:World) (a b c d e f:ByteArray) (hV:V=(((((w.alloc (litRowC a b)).alloc (litRowC c d)).alloc (litRowC e f)).alloc (.cells #[.slice (some ⟨w.heap.size+1,0,none⟩) 2 2,.slice (some ⟨w.heap.size+1+1,0,none⟩) 2 2] 22)).alloc (.cells #[.slice (some ⟨w.heap.size,0,none⟩) 2 2,.slice (some ⟨w.heap.size+1+1+1,0,none⟩) 2 2] 25))) :
 ExC (w.heap.size+1+1+1+1) [a,b] [[c,d],[e,f]] V∧Below w.heap.size w V:=by
 obtain ⟨W1,h1⟩:∃ W1,W1=w.alloc (litRowC a b):=⟨_,rfl⟩
 obtain ⟨W2,h2⟩:∃ W2,W2=W1.alloc (litRowC c d):=⟨_,rfl⟩
 obtain ⟨W3,h3⟩:∃ W3,W3=W2.alloc (litRowC e f):=⟨_,rfl⟩
 obtain ⟨W4,h4⟩:∃ W4,W4=W3.alloc (.cells #[.slice (some ⟨w.heap.size+1,0,none⟩) 2 2,.slice (some ⟨w.heap.size+1+1,0,none⟩) 2 2] 22):=⟨_,rfl⟩
 rw [← h1,← h2,← h3,← h4] at hV
 have s1:W1.heap.size=w.heap.size+1:=by rw [h1];simp
 have s2:W2.heap.size=w.heap.size+1+1:=by rw [h2,World.size_alloc,s1]
 have s3:W3.heap.size=w.heap.size+1+1+1:=by rw [h3,World.size_alloc,s2]
 have s4:W4.heap.size=w.heap.size+1+1+1+1:=by rw [h4,World.size_alloc,s3]
 have b1:Below w.heap.size w W1:=by rw [h1];exact one_below _ _
 have b2:Below W1.heap.size W1 W2:=by rw [h2];exact one_below _ _
 have b3:Below W2.heap.size W2 W3:=by rw [h3];exact one_below _ _
 have b4:Below W3.heap.size W3 W4:=by rw [h4];exact one_below _ _
 have b5:Below W4.heap.size W4 V:=by rw [hV];exact one_below _ _
 have r1:StrRow W1 (some ⟨w.heap.size,0,none⟩) [a,b]:=by rw [h1];exact row_litC w a b
 have r2:StrRow W2 (some ⟨w.heap.size+1,0,none⟩) [c,d]:=by rw [h2,← s1];exact row_litC W1 c d
 have r3:StrRow W3 (some ⟨w.heap.size+1+1,0,none⟩) [e,f]:=by rw [h3,← s2];exact row_litC W2 e f
 have rr:RowsAt W4 (some ⟨w.heap.size+1+1+1,0,none⟩) [[c,d],[e,f]]:=by
  rw [h4,← s3];exact rows_two W3 _ _ [c,d] [e,f] ⟨2,Nat.le_refl _,fun e=>by cases e⟩ ⟨2,Nat.le_refl _,fun e=>by cases e⟩ _ (r2.kept b3) r3
 refine ⟨⟨_,_,by rw [hV,← s4];exact World.alloc_heap_new _ _,(((r1.kept b2).kept b3).kept b4).kept b5,rr.kept b5,by simp,by simp⟩,below_up (below_up (below_up (below_up b1 b2) b3) b4) b5⟩
theorem lit_pairsC (w:World) (l:PL) (T:TypeId):PairsAt (w.alloc (.cells (cellsP l).toArray T)) (some ⟨w.heap.size,0,none⟩) l:=by
 refine .inr ⟨w.heap.size,0,rfl,by simp,fun i p hp=>?_⟩
 obtain ⟨c1,c2⟩:=cellsP_at l i p hp
 have h:=World.alloc_heap_new w (.cells (cellsP l).toArray T)
 constructor
 · rw [Lib.cell_of_heap h];simpa using c1
 · rw [Lib.cell_of_heap h];simpa using c2
end
section
open Go.RowKit Go.Shelf
theorem tabIn_of {w V:World} {ho:Option Addr} {hc:Nat} {hd:List ByteArray} {ro:Option Addr} {rc:Nat} {rs:List (List ByteArray)} (hA:StrArg w ho hc hd) (hB:RowsArg w ro rc rs) (hf:fewT hd rs) (hk:Below w.heap.size w V):TabIn V ho hc hd ro rc rs :=
 ⟨hf.2.1,by have:=hf.1.1;omega,hf.1.2.1,by have:=hf.2.2;omega,hA.row.kept hk,hB.rows.kept hk,hA.cap,hB.cap,hA.nil,hB.nil⟩
theorem few_in {w V:World} {ho:Option Addr} {hc:Nat} {hd:List ByteArray} {ro:Option Addr} {rc:Nat} {rs:List (List ByteArray)} (hA:StrArg w ho hc hd) (hB:RowsArg w ro rc rs) (hk:Below w.heap.size w V) :
 Calls Tryz.prog 27 #[.agg #[.slice ho hd.length hc,.slice ro rs.length rc]] V fun e w'=>∃ b,e=.returned (.bool b)∧(b=true→fewT hd rs)∧Below V.heap.size V w' :=
 rfew_any ho hc hd ro rc rs V hA.len hB.len hB.each hA.size (hA.row.kept hk) (hB.rows.kept hk)
theorem tcheck_in {V:World} {ho:Option Addr} {hc:Nat} {hd:List ByteArray} {ro:Option Addr} {rc:Nat} {rs:List (List ByteArray)} (h:TabIn V ho hc hd ro rc rs) :
 Calls Tryz.prog 21 #[.agg #[.slice ho hd.length hc,.slice ro rs.length rc]] V fun e w'=>e=.returned (.int .i64 (checkI hd rs))∧Below V.heap.size V w' :=
 check_any ho hc hd ro rc rs V (by have:=h.hl;omega) (by have:=h.rl;omega) (fun r hr=>by have:=h.el r hr;omega) h.row h.rows (fun c hc=>by
  have:=h.size c (List.mem_append_left _ hc);unfold maxLen;omega) (by have:=h.sum;omega)
theorem same_pairs (l:PL):sameL l l=true:=by simp [sameL]
structure BoxedC (w W:World) (ho:Option Addr) (hn hc:Nat) (ro:Option Addr) (rn rc:Nat) (bo:Option Addr) (bn bc:Nat) (so:Option Addr) (sn sc:Nat):Prop where
 start:Below w.heap.size w W
 cell:∀ V,Below W.heap.size W V→(V.cell? ⟨w.heap.size,0,none⟩=some (.slice ho hn hc)∧V.cell? ⟨w.heap.size,1,none⟩=some (.slice ro rn rc))∧V.cell? ⟨w.heap.size+1,0,none⟩=some (.slice bo bn bc)∧V.cell? ⟨w.heap.size+1,1,none⟩=some (.slice so sn sc)
theorem boxedC (w:World) (ho:Option Addr) (hn hc:Nat) (ro:Option Addr) (rn rc:Nat) (bo:Option Addr) (bn bc:Nat) (so:Option Addr) (sn sc:Nat):BoxedC w ((w.alloc (TabO ho hn hc ro rn rc)).alloc (TabO bo bn bc so sn sc)) ho hn hc ro rn rc bo bn bc so sn sc:=by
 have hN:=two_new w (TabO ho hn hc ro rn rc) (TabO bo bn bc so sn sc)
 exact ⟨two_below _ _ _,fun V hV=>⟨tabs ((hV.block _ (lt_of_heap hN.2.1)).trans hN.2.1),tabs ((hV.block _ (lt_of_heap hN.2.2)).trans hN.2.2)⟩⟩
end
section
open Go.Shelf
def laysFp_ren:Go.Shelf.Ren:=⟨fun | 6=>46 | 15=>104 | 14=>103 | 28=>166 | 29=>167 | 20=>158 | 21=>159 | 22=>160 | 23=>161 | 24=>162 | 25=>163 | 26=>164 | 27=>165 | 46=>199 | 47=>200 | 48=>201 | 49=>202 | 50=>203 | 57=>241 | n=>n,fun | 22=>26 | 24=>45 | 25=>78 | 3=>3 | 39=>142 | 0=>0 | 53=>203 | 55=>205 | 4=>4 | 46=>197 | 45=>196 | 50=>58 | 5=>5 | 9=>9 | 66=>237 | 70=>241 | 76=>273 | 77=>274 | n=>n,fun | n=>n⟩
theorem laysFp:Go.Proofs.SlLaysF0.n6 Tryz.prog laysFp_ren:={
 mixed:=by kernel_rfl
 f6:=⟨Tryz.f46.name,by decide,Tryz.func46.trans (congrArg some (by kernel_rfl))⟩
 f14:=⟨Tryz.f103.name,by decide,Tryz.func103.trans (congrArg some (by kernel_rfl))⟩
 f15:=Tryz.func104.trans (congrArg some (by kernel_rfl))
 f20:=⟨Tryz.f158.name,by decide,Tryz.func158.trans (congrArg some (by kernel_rfl))⟩
 f21:=⟨Tryz.f159.name,by decide,Tryz.func159.trans (congrArg some (by kernel_rfl))⟩
 f22:=⟨Tryz.f160.name,by decide,Tryz.func160.trans (congrArg some (by kernel_rfl))⟩
 f23:=⟨Tryz.f161.name,by decide,Tryz.func161.trans (congrArg some (by kernel_rfl))⟩
 f24:=⟨Tryz.f162.name,by decide,Tryz.func162.trans (congrArg some (by kernel_rfl))⟩
 f25:=⟨Tryz.f163.name,by decide,Tryz.func163.trans (congrArg some (by kernel_rfl))⟩
 f26:=⟨Tryz.f164.name,by decide,Tryz.func164.trans (congrArg some (by kernel_rfl))⟩
 f27:=⟨Tryz.f165.name,by decide,Tryz.func165.trans (congrArg some (by kernel_rfl))⟩
 f28:=Tryz.func166.trans (congrArg some (by kernel_rfl))
 f29:=Tryz.func167.trans (congrArg some (by kernel_rfl))
 f46:=⟨Tryz.f199.name,by decide,Tryz.func199.trans (congrArg some (by kernel_rfl))⟩
 f47:=Tryz.func200.trans (congrArg some (by kernel_rfl))
 f48:=Tryz.func201.trans (congrArg some (by kernel_rfl))
 f49:=⟨Tryz.f202.name,by decide,Tryz.func202.trans (congrArg some (by kernel_rfl))⟩
 f50:=⟨Tryz.f203.name,by decide,Tryz.func203.trans (congrArg some (by kernel_rfl))⟩
 f57:=⟨Tryz.f241.name,by decide,Tryz.func241.trans (congrArg some (by kernel_rfl))⟩
 t0:=Tryz.underlying0
 a0:=Tryz.isAgg0
 z0:=Tryz.sizeOf0
 v0:=Tryz.zeroValue0
 t3:=Tryz.underlying3
 a3:=Tryz.isAgg3
 z3:=Tryz.sizeOf3
 v3:=Tryz.zeroValue3
 t4:=Tryz.underlying4
 a4:=Tryz.isAgg4
 z4:=Tryz.sizeOf4
 v4:=Tryz.zeroValue4
 t5:=Tryz.underlying5
 a5:=Tryz.isAgg5
 z5:=Tryz.sizeOf5
 v5:=Tryz.zeroValue5
 t9:=Tryz.underlying9
 a9:=Tryz.isAgg9
 z9:=Tryz.sizeOf9
 v9:=Tryz.zeroValue9
 t22:=Tryz.underlying26
 a22:=Tryz.isAgg26
 z22:=Tryz.sizeOf26
 v22:=Tryz.zeroValue26
 t25:=Tryz.underlying78
 a25:=Tryz.isAgg78
 z25:=Tryz.sizeOf78
 v25:=Tryz.zeroValue78
 t39:=Tryz.underlying142
 a39:=Tryz.isAgg142
 z39:=Tryz.sizeOf142
 v39:=Tryz.zeroValue142
 t45:=Tryz.underlying196
 a45:=Tryz.isAgg196
 z45:=Tryz.sizeOf196
 v45:=Tryz.zeroValue196
 t46:=Tryz.underlying197
 a46:=Tryz.isAgg197
 z46:=Tryz.sizeOf197
 v46:=Tryz.zeroValue197
 t50:=Tryz.underlying58
 a50:=Tryz.isAgg58
 z50:=Tryz.sizeOf58
 v50:=Tryz.zeroValue58
 t53:=Tryz.underlying203
 a53:=Tryz.isAgg203
 z53:=Tryz.sizeOf203
 v53:=Tryz.zeroValue203
 t55:=Tryz.underlying205
 a55:=Tryz.isAgg205
 z55:=Tryz.sizeOf205
 v55:=Tryz.zeroValue205
 t66:=Tryz.underlying237
 a66:=Tryz.isAgg237
 z66:=Tryz.sizeOf237
 v66:=Tryz.zeroValue237
 t70:=Tryz.underlying241
 a70:=Tryz.isAgg241
 z70:=Tryz.sizeOf241
 v70:=Tryz.zeroValue241
 t76:=Tryz.underlying273
 a76:=Tryz.isAgg273
 z76:=Tryz.sizeOf273
 v76:=Tryz.zeroValue273
 t77:=Tryz.underlying274
 a77:=Tryz.isAgg274
 z77:=Tryz.sizeOf274
 v77:=Tryz.zeroValue274 }
end
section
open Go.RowKit Go.Shelf
theorem growP (n:Nat) (w:World) (hn:n≤1099511627776) :
 Calls Tryz.prog 99 #[.slice none 0 0,.int .i64 n] w fun e w'=>∃ v,e=.returned v∧w'.ownsRow w.heap.size 45 2 v 0 []∧Below w.heap.size w w':=by
 have hinfo:(Tryz.prog.info? 45).map (fun i=>(i.zero,i.size,i.bytes))=some (some (.agg #[.int .i64 0,.int .i64 0]),2,16):=by kernel_rfl
 obtain ⟨i0,hi,hz0,hz1,hz2⟩:=info_parts2 hinfo
 rcases Nat.eq_zero_or_pos n with h0 | hpos
 · subst h0
   clear hi hz0 hz1 hz2 hinfo
   go_enter Tryz.func99,Tryz.ntmps99
   go_wp2_with fail
   go_ret
   exact ⟨_,rfl,World.ownsRow_nil _ _ _ _,Below.refl _ _⟩
 · have hold:(Builtin.firstCells i0.size 0 (.slice none 0 0)).run Tryz.prog w.drew=.ok ([]:List Value).toArray w.drew:=by rw [hz1];rfl
   obtain ⟨G,HG⟩:∃ G,Hid (G=grownCap w (0+n) 0 45):=⟨_,Lib.hid rfl⟩
   have hrz:=Lib.run_append_grow_zeros w 26 3 26 45 i0 _ .i64 .i64 Tryz.underlying26 Tryz.underlying3 hi hz0 none 0 0 [] hold n hpos (by rw [hz1];omega) (by omega) (by omega) (by rw [hz2];omega) (by rw [hz2];exact growslice_fits (by omega) (by omega))
   rw [← HG.out] at hrz
   have hGn:n≤G:=by rw [HG.out];exact Nat.le_trans (by omega) (grownCap_ge w _ _ _)
   have hGm:G≤maxLen:=by rw [HG.out];exact grownCap_le_maxLen w _ _ _ (by unfold maxLen;omega)
   obtain ⟨L,HL⟩:∃ L:Array Value,Hid (L=(([]:List Value).toArray ++ Builtin.zeroCells (Value.agg #[.int .i64 0,.int .i64 0]).cells n ++ Builtin.zeroCells (Value.agg #[.int .i64 0,.int .i64 0]).cells (G - (0+n)))):=⟨_,Lib.hid rfl⟩
   have hLs:L.size=G * 2:=by
    rw [HL.out]
    have hz:∀ m,(Builtin.zeroCells (Value.agg #[.int .i64 0,.int .i64 0]).cells m).size=m * 2:=fun m=>by
     rw [show (Value.agg #[.int .i64 0,.int .i64 0]).cells=#[.int .i64 0,.int .i64 0] from rfl]
     simp [Builtin.zeroCells]
    rw [Array.size_append,Array.size_append,hz,hz];simp;omega
   rw [← HL.out,Nat.zero_add] at hrz
   obtain ⟨W1,HW1⟩:∃ W1,Hid (W1=w.drew.alloc (.cells L 45)):=⟨_,Lib.hid rfl⟩
   have hown:W1.ownsRow w.heap.size 45 2 (.slice (some ⟨w.heap.size,0,none⟩) 0 G) 0 []:=by
    rw [HW1.out];exact World.ownsRow_made w.drew L G (Nat.le_refl _) hGm hLs
   have hb1:Below w.heap.size w W1:=by rw [HW1.out];exact ((Below.refl _ w).drew).alloc (Nat.le_refl _) _
   rw [← HW1.out] at hrz
   have HRZ:=Lib.hid hrz
   have HO:=Lib.hid hown
   have HB:=Lib.hid hb1
   have hG0:¬ (G=0):=by omega
   clear hown hb1 hrz hinfo hi hz0 hz1 hz2 hold hLs hGm
   go_enter Tryz.func99,Tryz.ntmps99
   go_wp2_with (at_builtin;refine Lib.wpList_append_run _ rfl _ _ _ _ rfl _ _ rfl rfl _ _ HRZ.out ?_)
   go_ret
   exact ⟨_,rfl,HO.out,HB.out⟩
structure PartC where
 ao:Option Addr
 l:PL
 cap:Nat
def PartC.val (p:PartC):Value:=.slice p.ao p.l.length p.cap
structure PartC.In (w:World) (p:PartC):Prop where
 pairs:PairsAt w p.ao p.l
 nil:p.ao=none→p.cap=0
 room:p.l.length≤p.cap
def lensC (ps:List PartC):Nat:=(ps.map fun p=>p.l.length).sum
def flatC (ps:List PartC):PL:=ps.flatMap fun p=>p.l
theorem flatC_len (ps:List PartC):(flatC ps).length=lensC ps:=by
 induction ps with
 | nil=>rfl
 | cons p ps ih=>simp only [flatC,lensC,List.flatMap_cons,List.length_append,List.map_cons,List.sum_cons] at ih ⊢;omega
theorem lensC_next (ps:List PartC) (k:Nat) (p:PartC) (h:ps[k]?=some p):lensC (ps.take (k+1))=lensC (ps.take k)+p.l.length∧lensC (ps.take (k+1))≤lensC ps:=by
 obtain ⟨hk,e⟩:=List.getElem?_eq_some_iff.1 h
 constructor
 · rw [List.take_succ_eq_append_getElem hk,e];simp [lensC]
 · have e2:lensC ps=lensC (ps.take (k+1))+lensC (ps.drop (k+1)):=by
    conv=>lhs;rw [← List.take_append_drop (k+1) ps]
    unfold lensC;rw [List.map_append,List.sum_append]
   omega
theorem flatC_next (ps:List PartC) (k:Nat) (p:PartC) (h:ps[k]?=some p):flatC (ps.take (k+1))=flatC (ps.take k) ++ p.l:=by
 obtain ⟨hk,e⟩:=List.getElem?_eq_some_iff.1 h
 rw [List.take_succ_eq_append_getElem hk,e];simp [flatC]
theorem pairs_cellsC {w:World} {ad:Addr} {L:PL} (h:PairsAt w (some ad) L):∀ (j:Nat) u,(cellsP L)[j]?=some u→w.cell? (ad.add j)=some u:=fun j u hu=>by
 rcases h with rfl | ⟨b',o',h1,_,h3⟩
 · simp [cellsP] at hu
 · cases h1
   have e:(⟨b',o',none⟩:Addr).add j=⟨b',o'+j,none⟩:=by unfold Addr.add;split <;> simp_all
   rw [e]
   obtain ⟨i,p,hp,⟨rfl,rfl⟩ | ⟨rfl,rfl⟩⟩:=cellsP_inv L j u hu
   · exact (h3 i p hp).1
   · exact (h3 i p hp).2
theorem concatP (g cap:Nat) (ps:List PartC) (w:World) (hn:ps.length≤1000) (hc:∀ (i:Nat) p,ps[i]?=some p→w.cell? ⟨g,i,none⟩=some p.val) (hg:g < w.heap.size) (hp:∀ p ∈ ps,p.In w) (hsum:lensC ps≤1073741824) :
 Calls Tryz.prog 44 #[.slice (some ⟨g,0,none⟩) ps.length cap] w fun e w'=>∃ v,e=.returned v∧OwnL w' w.heap.size v (flatC ps)∧Below w.heap.size w w':=by
 have hinfo:(Tryz.prog.info? 45).map (fun i=>(i.zero,i.size,i.bytes))=some (some (.agg #[.int .i64 0,.int .i64 0]),2,16):=by kernel_rfl
 obtain ⟨i0,hi,hz0,hz1,hz2⟩:=info_parts2 hinfo
 have HI:=Lib.hid hi
 have HC:=Lib.hid hc
 have HP:=Lib.hid hp
 have G:=Lib.hid (growP (lensC ps) w (by omega))
 have HS:=Lib.hid hsum
 clear hi hinfo hc hp
 go_enter Tryz.func44,Tryz.ntmps44
 go_wp2_with fail
 go_loopw [3,11] (fun s i wr=>∃ k:Nat,k≤ps.length∧s=.int .i64 (lensC (ps.take k))∧i=.int .i64 k∧wr=w) (fun _ i _=>ps.length - (intOf i).toNat)
 case atStart=>exact ⟨0,Nat.zero_le _,rfl,rfl,rfl⟩
 case round =>
  obtain ⟨k,hk,rfl,rfl,hww⟩:=hrel
  subst hww
  by_cases hlt:k < ps.length
  · obtain ⟨p,hpk⟩:∃ p,ps[k]?=some p:=⟨_,List.getElem?_eq_getElem hlt⟩
    have hcell:=HC.out k p hpk
    have hnx:=lensC_next ps k p hpk
    have HN:=Lib.hid hnx
    obtain ⟨t,ht⟩:∃ t,t=lensC (ps.take k):=⟨_,rfl⟩
    have hle:t+p.l.length≤1099511627776:=by rw [ht];omega
    have HT:Hid (lensC (ps.take (k+1))=t+p.l.length):=Lib.hid (by rw [ht];exact hnx.1)
    rw [← ht]
    clear hnx hpk ht
    unfold PartC.val at hcell
    go_wp2_with fail
    go_roundw
    case rel=>exact ⟨k+1,by omega,by rw [HT.out];go_num,by go_num,by first | rfl | trivial⟩
    case measure=>simp [intOf];omega
  · obtain rfl:k=ps.length:=by omega
    rw [List.take_length]
    obtain ⟨wo,rfl⟩:∃ wo:World,wo=wr:=⟨_,rfl⟩
    go_wp2_with fail
    refine G.out.mono ?_;rintro e w1 ⟨v,rfl,hown,hb⟩
    have HO:Hid (w1.ownsRow wo.heap.size 45 2 v (flatC (ps.take 0)).length (cellsP (flatC (ps.take 0)))):=Lib.hid hown
    have HB:=Lib.hid hb
    clear hown hb G
    go_wp2_with fail
    go_loopw [6,27] (fun s i wr=>∃ k:Nat,k≤ps.length∧i=.int .i64 k∧Hid (wr.ownsRow wo.heap.size 45 2 s (flatC (ps.take k)).length (cellsP (flatC (ps.take k))))∧Hid (Below wo.heap.size wo wr)) (fun _ i _=>ps.length - (intOf i).toNat)
    case atStart=>exact ⟨0,Nat.zero_le _,rfl,HO,HB⟩
    case round =>
     obtain ⟨k,hk,rfl,HO,HB⟩:=hrel
     by_cases hlt:k < ps.length
     · obtain ⟨p,hpk⟩:∃ p,ps[k]?=some p:=⟨_,List.getElem?_eq_getElem hlt⟩
       have hcell:=(HB.out.cell (p:=⟨g,k,none⟩) hg).trans (HC.out k p hpk)
       have HPK:=Lib.hid (HP.out p (List.mem_of_getElem? hpk))
       have HFN:=Lib.hid (flatC_next ps k p hpk)
       have hle:(flatC (ps.take k)).length+p.l.length≤1073741824:=by rw [flatC_len];have:=lensC_next ps k p hpk;have:=HS.out;omega
       unfold PartC.val at hcell
       clear hpk
       go_wp2_with (at_builtin;refine wpList_append_any rfl _ _ 26 rfl wo.heap.size 45 i0 (.agg #[.int .i64 0,.int .i64 0]) 2 16 Tryz.underlying26 HI.out hz0 hz1 hz2 rfl (by decide) _ _ _ rfl HO.out p.ao p.l.length p.cap (cellsP p.l) rfl ?c0 (cellsP_length _) ?c1 (cellsP_ones _) ?c3 ?c4 HB.out.size ?_)
       case c0=>intro h;have h1:=HPK.out.nil h;have h2:=HPK.out.room;omega
       case c1 =>
        intro ad had j u hu
        have h:=HPK.out.pairs.kept HB.out
        rw [had] at h
        exact pairs_cellsC h j u hu
       case c3=>unfold maxLen;omega
       case c4=>omega
       intro v' w3 hown' hgrow
       have HO':Hid (w3.ownsRow wo.heap.size 45 2 v' (flatC (ps.take (k+1))).length (cellsP (flatC (ps.take (k+1))))):=Lib.hid (by rw [HFN.out,List.length_append,cellsP_app];exact hown')
       have HB':=Lib.hid (HB.out.trans ((Below.refl _ wr).grown hgrow HB.out.size (fun j hj=>(HO.out.lt j hj).1)))
       clear hown' hgrow
       go_wp2_with fail
       go_roundw
       case rel=>exact ⟨k+1,by omega,by go_num,HO',HB'⟩
       case measure=>simp [intOf];omega
     · obtain rfl:k=ps.length:=by omega
       rw [List.take_length] at HO
       go_wp2_with fail
       go_ret
       exact ⟨_,rfl,HO.out,HB.out⟩
theorem concatP2 (ao bo:Option Addr) (ca cb:Nat) (xs ys:PL) (w:World) (hs:xs.length+ys.length≤1073741824) (hx:PairsAt w ao xs) (hy:PairsAt w bo ys) (k1:ao=none→ca=0) (k2:bo=none→cb=0) (r1:xs.length≤ca) (r2:ys.length≤cb) (g:Nat)
 (hb:w.heap[g]?=some (.cells #[.slice ao xs.length ca,.slice bo ys.length cb] 26 (0,0))) :
 Calls Tryz.prog 44 #[.slice (some ⟨g,0,none⟩) 2 2] w fun e w'=>∃ v,e=.returned v∧OwnL w' w.heap.size v (xs ++ ys)∧Below w.heap.size w w':=by
 let ps:List PartC:=[⟨ao,xs,ca⟩,⟨bo,ys,cb⟩]
 have h:=concatP g 2 ps w (by simp [ps]) (fun i p hp=>by
  rw [Lib.cell_of_heap hb i]
  match i,hp with
  | 0,hp=>simp [ps] at hp;subst hp;rfl
  | 1,hp=>simp [ps] at hp;subst hp;rfl) (lt_of_heap hb) (fun p hp=>by
  simp only [ps,List.mem_cons,List.not_mem_nil,or_false] at hp
  rcases hp with rfl | rfl
  · exact ⟨hx,k1,r1⟩
  · exact ⟨hy,k2,r2⟩) (by simp only [ps,lensC,List.map_cons,List.map_nil,List.sum_cons,List.sum_nil];omega)
 have hf:flatC ps=xs ++ ys:=by simp [ps,flatC]
 rw [hf] at h
 exact h
end
section
open Go.RowKit Go.Shelf Go.Sort
def encB (f:Int→Int) (b:Int):List Value:=[.int .i64 (f b),.int .i64 b]
theorem flat_cellsB (f:Int→Int) (l:PL) (hf:∀ p ∈ l,f p.2=p.1):flatK (encB f) 2 (l.map Prod.snd).toArray=(cellsP l).toArray:=by
 refine ext_get! (by simp [cellsP_length]) (fun t ht=>?_)
 have ht':t < l.length * 2:=by simpa using ht
 rw [get_flatK _ _ _ t (by simpa using ht')]
 obtain ⟨p,hp⟩:∃ p,l[t / 2]?=some p:=⟨_,List.getElem?_eq_getElem (by omega)⟩
 have e1:(l.map Prod.snd).toArray[t / 2]! = p.2:=by
  have:(l.map Prod.snd)[t / 2]?=some p.2:=by rw [List.getElem?_map,hp];rfl
  simp [Array.getElem!_eq_getD,Array.getD_eq_getD_getElem?,hp]
 obtain ⟨c1,c2⟩:=cellsP_at l (t / 2) p hp
 have e2:(cellsP l).toArray[t]! = ((cellsP l)[t]?).getD default:=by simp [Array.getElem!_eq_getD,Array.getD_eq_getD_getElem?]
 have e3:=hf p (List.mem_of_getElem? hp)
 rw [e1,e2]
 have hm:t % 2=0∨t % 2=1:=by omega
 rcases hm with e | e
 · rw [show t / 2 * 2=t from by omega] at c1;rw [c1,e];simp [encB,e3]
 · rw [show t / 2 * 2+1=t from by omega] at c2;rw [c2,e];simp [encB]
theorem OwnL.holdsB {w:World} {base g n cap:Nat} {l:PL} (f:Int→Int) (hf:∀ p ∈ l,f p.2=p.1) (hl:l.length=n) (h:OwnL w base (.slice (some ⟨g,0,none⟩) n cap) l):HoldsK (encB f) 2 w g 0 (l.map Prod.snd).toArray:=by
 unfold OwnL at h
 subst hl
 unfold HoldsK
 rw [flat_cellsB f l hf]
 intro j hj
 have hj':j < (cellsP l).length:=by simpa using hj
 rw [Nat.zero_add]
 refine ⟨?_,h.frozenAt j⟩
 have:=h.cellAt j (by rw [cellsP_length] at hj';exact hj')
 rw [this]
 simp [List.getElem?_eq_getElem hj',Array.getElem!_eq_getD,Array.getD_eq_getD_getElem?]
theorem OwnL.sortedB {w:World} {base g n cap k:Nat} {l m:PL} {os:Array Obj} (f:Int→Int) (hf:∀ p ∈ m,f p.2=p.1) (h:OwnL w base (.slice (some ⟨g,0,none⟩) n cap) l) (hl:l.length=n) (hm:m.length=n):OwnL (sortWorldK (encB f) 2 w g 0 k (m.map Prod.snd).toArray os) base (.slice (some ⟨g,0,none⟩) n cap) m:=by
 unfold OwnL at h ⊢
 unfold sortWorldK putRowK
 rw [flat_cellsB f m hf]
 rw [hl] at h
 rw [hm]
 rcases h.2 with ⟨h0,_⟩ | ⟨g',cap',cur,hv,hbase,hb,r1,r2,r3,r4⟩
 · cases h0
 · cases hv
   have hl:(cellsP m).length=n * 2:=by rw [cellsP_length,hm]
   refine ⟨hl,.inr ⟨g,cap,_,rfl,hbase,heap_sortedK _ hb,r1,r2,by simp [putCells,r3],?_⟩⟩
   have:=take_putCellsK cur (cellsP m).toArray (by rw [r3];simp [hl];omega)
   rw [List.size_toArray,hl] at this
   exact this
theorem ltB:ltOf cmpI=fun i j=>decide (i < j):=by
 funext i j
 show decide (cmpI i j < 0)=_
 exact cmpI_neg i j
theorem swoB:SWO (ltOf cmpI) where
 irrefl x:=by rw [ltB];simp
 trans x y z h1 h2:=by rw [ltB] at *;simp at *;omega
 ntrans x y z h1 h2:=by rw [ltB] at *;simp at *;omega
def ofBC (l:PL) (b:Int):Int:=((l.find? (fun p=>p.2 == b)).map Prod.fst).getD 0
theorem ofB_isC (l:PL) (hn:(l.map Prod.snd).Nodup):∀ p ∈ l,ofBC l p.2=p.1:=by
 induction l with
 | nil=>intro p hp;cases hp
 | cons q l ih =>
  intro p hp
  rw [List.map_cons,List.nodup_cons] at hn
  unfold ofBC
  rw [List.find?_cons]
  rcases List.mem_cons.1 hp with rfl | hp
  · simp
  · have hne:¬ q.2=p.2:=fun e=>hn.1 (List.mem_map.2 ⟨p,hp,e.symm⟩)
    have:(q.2 == p.2)=false:=by simp [hne]
    rw [this]
    exact ih hn.2 p hp
theorem sortedB_is (L R:PL) (hp:R.Perm L) (hr:RiseB R):(L.map Prod.snd).mergeSort (fun x y=>decide (x≤y))=R.map Prod.snd:=by
 have h1:((L.map Prod.snd).mergeSort (fun x y=>decide (x≤y))).Perm (R.map Prod.snd):=(List.mergeSort_perm _ _).trans (hp.map Prod.snd).symm
 have h2:=List.pairwise_mergeSort (le:=fun x y:Int=>decide (x≤y)) (fun a b c h k=>by simp only [decide_eq_true_eq] at *;omega) (fun a b=>by simp only [Bool.or_eq_true,decide_eq_true_eq];omega) (L.map Prod.snd)
 have h3:(R.map Prod.snd).Pairwise (fun x y=>decide (x≤y)=true):=by
  rw [List.pairwise_map]
  exact hr.imp fun h=>decide_eq_true (by omega)
 exact h1.eq_of_pairwise (fun a b _ _ h k=>by simp only [decide_eq_true_eq] at *;omega) h2 h3
theorem rise_nodup (L R:PL) (hp:R.Perm L) (hr:RiseB R):(L.map Prod.snd).Nodup:=by
 refine (hp.map Prod.snd).nodup_iff.1 ?_
 rw [List.Nodup,List.pairwise_map]
 exact hr.imp fun h=>by omega
end
section
open Go.RowKit Go.Shelf
def madeC (vs:List Value) (n:Nat):List Value:=vs ++ List.replicate (n - vs.length) (.slice none 0 0)
theorem madeC_next (vs:List Value) (n:Nat) (v:Value) (h:vs.length < n):(madeC vs n).set vs.length v=madeC (vs ++ [v]) n:=by
 unfold madeC
 rw [List.set_append_right _ _ (Nat.le_refl _),Nat.sub_self,List.length_append]
 obtain ⟨m,hm⟩:∃ m,n - vs.length=m+1:=⟨n - vs.length - 1,by omega⟩
 rw [hm,show n - (vs.length+[v].length)=m from by simp;omega,List.replicate_succ]
 simp
theorem madeC_zero (n:Nat):madeC [] n=List.replicate n (.slice none 0 0):=by simp [madeC]
theorem madeC_all (vs:List Value) (n:Nat) (h:vs.length=n):madeC vs n=vs:=by simp [madeC,h]
theorem madeC_len (vs:List Value) (n:Nat) (h:vs.length≤n):(madeC vs n).length=n:=by simp [madeC];omega
end
end Go.Proofs.YtdenehnneloegaaGreatDoor
