/-
  Texts of these rows' proofs, laid one behind the other: RwRef4.
  Conditions: those of each theorem.
-/
import Derived.Deep.OwnRows
import Derived.Deep.RegionHeld3
import Derived.WalkKit
import Derived.WalkMore
import Derived.IntWalk
import Derived.WalkArith
import Derived.OwnWalk
import Derived.Lib.Hide
import Derived.Test.YtdenehnneloegaaGreatDoorProg
import Derived.Test.YtdenehnneloegaaGreatDoorPa26
import Derived.Test.YtdenehnneloegaaGreatDoorPa34
import Derived.Test.YtdenehnneloegaaGreatDoorPa36
namespace Go.Proofs.YtdenehnneloegaaGreatDoor
set_option linter.unusedVariables false
set_option maxRecDepth 100000
set_option maxHeartbeats 8000000
section
open Go.RowKit Go.Shelf Go.Deep
theorem bytes_codes (all ls:List (List ByteArray)):bytesOf (ls.map (codeB all))=ls.map (codeR all):=by
 unfold bytesOf
 rw [List.map_map]
 refine List.map_congr_left fun x _=>?_
 simp [codeB]
def upPick (ra rb:List (List ByteArray)) (cols:PL) (is ks:List Int) (i k:Nat):TL:=pickAll ra rb cols (is.take i) ks ++ pickRow ra rb cols (is.getD i 0) (ks.take k)
theorem upPick_next (ra rb:List (List ByteArray)) (cols:PL) (is ks:List Int) (i k:Nat) (p q:Int) (hp:is[i]?=some p) (hq:ks[k]?=some q) :
 upPick ra rb cols is ks i (k+1)=if cols.length < 2 * comN ra rb cols p q then upPick ra rb cols is ks i k ++ [(p,q,(comN ra rb cols p q:Int))] else upPick ra rb cols is ks i k:=by
 obtain ⟨hk,e⟩:=List.getElem?_eq_some_iff.1 hq
 unfold upPick pickRow
 rw [List.getD_eq_getElem?_getD,hp,List.take_succ_eq_append_getElem hk,e,List.filterMap_append]
 simp only [Option.getD_some,List.filterMap_cons,List.filterMap_nil]
 unfold pickO
 by_cases h:cols.length < 2 * comN ra rb cols p q
 · rw [if_pos h,if_pos h];simp
 · rw [if_neg h,if_neg h];simp
theorem upPick_row (ra rb:List (List ByteArray)) (cols:PL) (is ks:List Int) (i:Nat) (h:i < is.length):upPick ra rb cols is ks i ks.length=upPick ra rb cols is ks (i+1) 0:=by
 unfold upPick pickAll
 rw [List.take_length,List.take_succ_eq_append_getElem h,List.flatMap_append,List.getD_eq_getElem?_getD,List.getElem?_eq_getElem h]
 simp only [Option.getD_some,List.flatMap_cons,List.flatMap_nil,List.append_nil,List.take_zero]
 simp [pickRow]
theorem upPick_zero (ra rb:List (List ByteArray)) (cols:PL) (is ks:List Int):upPick ra rb cols is ks 0 0=[]:=by simp [upPick,pickAll,pickRow]
theorem upPick_all (ra rb:List (List ByteArray)) (cols:PL) (is ks:List Int):upPick ra rb cols is ks is.length 0=pickAll ra rb cols is ks:=by simp [upPick,pickRow]
theorem pickAll_le (ra rb:List (List ByteArray)) (cols:PL) (ks:List Int):∀ is:List Int,(pickAll ra rb cols is ks).length≤is.length * ks.length
 | []=>by simp [pickAll]
 | p :: is=>by
  have h1:=pickAll_le ra rb cols ks is
  have h2:(pickRow ra rb cols p ks).length≤ks.length:=List.length_filterMap_le _ _
  unfold pickAll at h1 ⊢
  rw [List.flatMap_cons,List.length_append,List.length_cons,Nat.succ_mul]
  omega
theorem upPick_le (ra rb:List (List ByteArray)) (cols:PL) (is ks:List Int) (i k:Nat) (hi:i≤1024) (hq:ks.length≤1024):(upPick ra rb cols is ks i k).length≤1049600:=by
 have h1:=pickAll_le ra rb cols ks (is.take i)
 have h2:(pickRow ra rb cols (is.getD i 0) (ks.take k)).length≤(ks.take k).length:=List.length_filterMap_le _ _
 have h3:(is.take i).length * ks.length≤1024 * 1024:=Nat.mul_le_mul (by rw [List.length_take];omega) hq
 rw [List.length_take] at h2
 unfold upPick
 rw [List.length_append];omega
theorem restL_le (ra rb:List (List ByteArray)) (cols:PL) (h1:ra.length≤1024) (h2:rb.length≤1024):(restL ra rb cols).length≤1048576:=by
 unfold restL
 have a:=pickAll_le ra rb cols (outOf ((lookC ra rb cols).map Prod.snd) rb.length) (outOf ((lookC ra rb cols).map Prod.fst) ra.length)
 have b:=Nat.mul_le_mul (outOf_le ((lookC ra rb cols).map Prod.fst) ra.length) (outOf_le ((lookC ra rb cols).map Prod.snd) rb.length)
 have c:ra.length * rb.length≤1024 * 1024:=Nat.mul_le_mul h1 h2
 omega
theorem lookC_le (ra rb:List (List ByteArray)) (cols:PL):(lookC ra rb cols).length≤ra.length:=by
 unfold lookC
 rw [wayC_len]
 have:=(lcs_le (lookA ra cols) (lookB rb cols)).1
 rw [lookA_len] at this;exact this
theorem rbylook_any (ho:Option Addr) (hc:Nat) (ha:List ByteArray) (ro:Option Addr) (rc:Nat) (ra:List (List ByteArray)) (bo:Option Addr) (bc:Nat) (hb:List ByteArray) (so:Option Addr) (sc:Nat) (rb:List (List ByteArray)) (lo:Option Addr) (lc:Nat) (l:PL) (w:World)
 (hra:ra.length≤1024) (hrb:rb.length≤1024) (hl:l.length≤1024) (hR:RowsAt w ro ra) (hS:RowsAt w so rb) (hP:PairsAt w lo l) :
 Calls Tryz.prog 17 #[.agg #[.slice ho ha.length hc,.slice ro ra.length rc],.agg #[.slice bo hb.length bc,.slice so rb.length sc],.slice lo l.length lc] w (PairsOut (byLookU ha ra hb rb l) w):=by
 obtain ⟨W,HW⟩:∃ W,Hid (W=(w.alloc (TabO ho ha.length hc ro ra.length rc)).alloc (TabO bo hb.length bc so rb.length sc)):=⟨_,Lib.hid rfl⟩
 have hB:Below w.heap.size w W:=by rw [HW.out];exact two_below _ _ _
 have HB0:=Lib.hid hB
 have hN:=two_new w (TabO ho ha.length hc ro ra.length rc) (TabO bo hb.length bc so rb.length sc)
 rw [← HW.out] at hN
 have box:Hid (∀ V,Below W.heap.size W V→(V.cell? ⟨w.heap.size,0,none⟩=some (.slice ho ha.length hc)∧V.cell? ⟨w.heap.size,1,none⟩=some (.slice ro ra.length rc))∧V.cell? ⟨w.heap.size+1,0,none⟩=some (.slice bo hb.length bc)∧V.cell? ⟨w.heap.size+1,1,none⟩=some (.slice so rb.length sc)):=Lib.hid (fun V hV=>⟨tabs ((hV.block _ (lt_of_heap hN.2.1)).trans hN.2.1),tabs ((hV.block _ (lt_of_heap hN.2.2)).trans hN.2.2)⟩)
 have C1:=Lib.hid (rcheckP_any lo lc l (ha.length:Int) (hb.length:Int) W (by omega) (hP.kept hB))
 have C2:=Lib.hid (fun V (h:Below W.heap.size W V)=>rnames14_any ho ha.length hc ro rc ra bo hb.length bc so sc rb lo lc l V hra hrb hl (hR.kept (below_up hB h)) (hS.kept (below_up hB h)) (hP.kept (below_up hB h)))
 have C6:=Lib.hid (fun V i k (h:Below W.heap.size W V)=>rcommon_any ho ha.length hc ro rc ra bo hb.length bc so sc rb lo lc l i k V (by omega) (hR.kept (below_up hB h)) (hS.kept (below_up hB h)) (hP.kept (below_up hB h)))
 have HU0:Hid (l.length=0→byLookU ha ra hb rb l=[]):=Lib.hid (fun h=>if_pos (.inl h))
 have HU1:Hid (checkP l ha.length hb.length ≠ 0→byLookU ha ra hb rb l=[]):=Lib.hid (fun h=>if_pos (.inr h))
 have HU2:Hid (l.length ≠ 0→checkP l ha.length hb.length=0→byLookU ha ra hb rb l=(pickL (restL ra rb l)).foldl putB (lookC ra rb l)):=Lib.hid (fun h k=>by
  unfold byLookU
  rw [if_neg (by rintro (h1 | h1);exact h h1;exact h1 k)];rfl)
 obtain ⟨R,HR0⟩:∃ R,Hid (R=byLookU ha ra hb rb l):=⟨_,Lib.hid rfl⟩
 rw [← HR0.out] at HU0 HU1 HU2
 rw [← HR0.out]
 obtain ⟨a,b⟩:=box.out W (Below.refl _ _)
 obtain ⟨a0,a1⟩:=a
 obtain ⟨b0,b1⟩:=b
 clear hB hN
 by_cases hl0:l.length=0
 · have HE:Hid (PairsOut R w (.returned (.slice none 0 0)) W):=Lib.hid (by rw [HU0.out hl0];exact ⟨none,0,rfl,.inl rfl,fun _=>rfl,Nat.le_refl _,HB0.out⟩)
   have hlb:((l.length:Int) == 0)=true:=by rw [hl0];rfl
   clear HU0 HU1 HU2 C1 C2 C6 hR hS hP
   go_enter Tryz.func17,Tryz.ntmps17
   go_upto_region 1 with fail
   rw [show (w.alloc (Obj.cells #[Value.slice ho ha.length hc,Value.slice ro ra.length rc] 25)).alloc (Obj.cells #[Value.slice bo hb.length bc,Value.slice so rb.length sc] 25)=W from HW.out.symm]
   go_wp2_with fail
   go_ret
   exact HE.out
 have hlb:((l.length:Int) == 0)=false:=by rw [beq_eq_false_iff_ne];omega
 obtain ⟨E,hE⟩:∃ E,E=checkP l ha.length hb.length:=⟨_,rfl⟩
 rw [← hE] at C1 HU1 HU2
 by_cases hE0:E=0
 · have HR1:=Lib.hid (HU2.out hl0 hE0)
   subst hE0
   clear HU0 HU1 HU2 hE
   obtain ⟨L,HL⟩:∃ L,Hid (L=lookC ra rb l):=⟨_,Lib.hid rfl⟩
   obtain ⟨CH,HCH⟩:∃ CH,Hid (CH=restL ra rb l):=⟨_,Lib.hid rfl⟩
   rw [← HL.out,← HCH.out] at HR1
   obtain ⟨X,HX⟩:∃ X,Hid (X=(lookA ra l).map (codeB (lookA ra l ++ lookB rb l))):=⟨_,Lib.hid rfl⟩
   obtain ⟨Y,HY⟩:∃ Y,Hid (Y=(lookB rb l).map (codeB (lookA ra l ++ lookB rb l))):=⟨_,Lib.hid rfl⟩
   have HXl:Hid (X.length=ra.length):=Lib.hid (by rw [HX.out,List.length_map,lookA_len])
   have HYl:Hid (Y.length=rb.length):=Lib.hid (by rw [HY.out,List.length_map,lookB_len])
   have D2:Hid (∀ V,Below W.heap.size W V→Calls Tryz.prog 49 #[.agg #[.slice ho ha.length hc,.slice ro ra.length rc],.agg #[.slice bo hb.length bc,.slice so rb.length sc],.slice lo l.length lc] V fun e w'=>∃ (xo yo:Option Addr) (xc yc:Nat),e=.returned (.tuple #[.slice xo X.length xc,.slice yo Y.length yc])∧StrRow w' xo X∧StrRow w' yo Y∧Below V.heap.size V w'):=Lib.hid (fun V h=>(C2.out V h).mono (by
    rintro e w' ⟨xo,yo,xc,yc,rfl,h1,h2,h3⟩
    rw [← HX.out] at h1
    rw [← HY.out] at h2
    exact ⟨xo,yo,xc,yc,by rw [lookA_len,lookB_len,HXl.out,HYl.out],h1,h2,h3⟩))
   have D3:=Lib.hid (fun xo yo xc yc V (h1:StrRow V xo X) (h2:StrRow V yo Y)=>rlpairsN_any xo yo xc yc X Y V (by rw [HXl.out];omega) (by rw [HYl.out];omega) h1 h2)
   have hway:wayC 0 0 (bytesOf X) (bytesOf Y)=L:=by rw [HX.out,HY.out,bytes_codes,bytes_codes,HL.out];exact look_codes ra rb l (by omega)
   rw [hway] at D3
   have HLl:Hid (L.length≤1024):=Lib.hid (by rw [HL.out];exact Nat.le_trans (lookC_le ra rb l) hra)
   obtain ⟨is,His⟩:∃ is,Hid (is=outOf (L.map Prod.fst) ra.length):=⟨_,Lib.hid rfl⟩
   obtain ⟨ks,Hks⟩:∃ ks,Hid (ks=outOf (L.map Prod.snd) rb.length):=⟨_,Lib.hid rfl⟩
   have HIl:Hid (is.length≤1024):=Lib.hid (by rw [His.out];exact Nat.le_trans (outOf_le _ _) hra)
   have HKl:Hid (ks.length≤1024):=Lib.hid (by rw [Hks.out];exact Nat.le_trans (outOf_le _ _) hrb)
   have D4:Hid (∀ mo mc V,PairsAt V mo L→Calls Tryz.prog 51 #[.slice mo L.length mc,.int .i64 (ra.length:Int)] V (IntsOut is V)):=Lib.hid (fun mo mc V h=>by
    have:=rrestA_any mo mc L (ra.length:Int) V (by have:=HLl.out;omega) h (by omega) (by omega)
    rw [Int.toNat_natCast,← His.out] at this;exact this)
   have D5:Hid (∀ mo mc V,PairsAt V mo L→Calls Tryz.prog 52 #[.slice mo L.length mc,.int .i64 (rb.length:Int)] V (IntsOut ks V)):=Lib.hid (fun mo mc V h=>by
    have:=rrestB_any mo mc L (rb.length:Int) V (by have:=HLl.out;omega) h (by omega) (by omega)
    rw [Int.toNat_natCast,← Hks.out] at this;exact this)
   obtain ⟨O,HQ⟩:∃ O:Nat→Nat→TL,Hid (O=upPick ra rb l is ks):=⟨_,Lib.hid rfl⟩
   have HNx:Hid (∀ (i k:Nat) p q,is[i]?=some p→ks[k]?=some q→O i (k+1)=if l.length < 2 * comN ra rb l p q then O i k ++ [(p,q,(comN ra rb l p q:Int))] else O i k):=Lib.hid (fun i k p q h1 h2=>by rw [HQ.out];exact upPick_next ra rb l is ks i k p q h1 h2)
   have HRow:Hid (∀ i,i < is.length→O i ks.length=O (i+1) 0):=Lib.hid (fun i h=>by rw [HQ.out];exact upPick_row ra rb l is ks i h)
   have HLe:Hid (∀ i k,i≤1024→(O i k).length≤1049600):=Lib.hid (fun i k h=>by rw [HQ.out];exact upPick_le ra rb l is ks i k h HKl.out)
   have HZ:Hid (O 0 0=[]):=Lib.hid (by rw [HQ.out];exact upPick_zero _ _ _ _ _)
   have HAl:Hid (O is.length 0=CH):=Lib.hid (by rw [HQ.out,upPick_all,HCH.out,His.out,Hks.out,HL.out];rfl)
   have hL0:(O 0 0).length=0:=by rw [HZ.out];rfl
   have HL0:=Lib.hid hL0
   have HSl:Hid (∀ p q,comN ra rb l p q≤1024):=Lib.hid (fun p q=>Nat.le_trans (com_le ra rb l p q) hl)
   have D6:=Lib.hid (fun ao cap V (h:TripAt V ao CH)=>rpick_any ao cap CH V (by rw [HCH.out];have:=restL_le ra rb l hra hrb;omega) h)
   have HMl:Hid ((pickL CH).length≤1048576):=Lib.hid (Nat.le_trans (pick_len _) (by rw [HCH.out];exact restL_le ra rb l hra hrb))
   have hinfo:(Tryz.prog.info? 73).map (fun i=>(i.zero,i.size,i.bytes))=some (some (.agg #[.int .i64 0,.int .i64 0,.int .i64 0]),3,24):=by kernel_rfl
   obtain ⟨i0,hi,hz0,hz1,hz2⟩:=info_parts3 hinfo
   have HI:=Lib.hid hi
   clear hi hinfo hR hS hP hway C2 hL0
   go_enter Tryz.func17,Tryz.ntmps17
   go_upto_region 1 with fail
   rw [show (w.alloc (Obj.cells #[Value.slice ho ha.length hc,Value.slice ro ra.length rc] 25)).alloc (Obj.cells #[Value.slice bo hb.length bc,Value.slice so rb.length sc] 25)=W from HW.out.symm]
   go_wp2_with fail
   refine C1.out.mono ?_;rintro e w1 ⟨rfl,g1⟩
   have HBa:=Lib.hid g1
   have D2':=Lib.hid (D2.out w1 g1)
   clear g1 a0 a1 b0 b1 C1 D2
   obtain ⟨⟨a0,a1⟩,b0,b1⟩:=box.out w1 HBa.out
   go_wp2_with fail
   refine D2'.out.mono ?_;rintro e w2 ⟨xo,yo,xc,yc,rfl,h1,h2,g2⟩
   have HBb:=Lib.hid (below_up HBa.out g2)
   have D3':=Lib.hid (D3.out xo yo xc yc w2 h1 h2)
   clear g2 h1 h2 a0 a1 b0 b1 D2' D3
   obtain ⟨⟨a0,a1⟩,b0,b1⟩:=box.out w2 HBb.out
   go_wp2_with fail
   refine D3'.out.mono ?_;rintro e w3 ⟨mo,mc,rfl,p3,k1,k2,k3,g3⟩
   have HBc:=Lib.hid (below_up HBb.out g3)
   have HP:=Lib.hid p3
   have HK1:=Lib.hid k1
   have HK2:=Lib.hid k2
   have HK3:=Lib.hid k3
   have D4':=Lib.hid (D4.out mo mc w3 p3)
   clear g3 p3 k1 k2 k3 a0 a1 b0 b1 D3' D4
   obtain ⟨⟨a0,a1⟩,b0,b1⟩:=box.out w3 HBc.out
   go_wp2_with fail
   refine D4'.out.mono ?_;rintro e w4 ⟨io,ic,rfl,p4,-,-,g4⟩
   have HBd:=Lib.hid (below_up HBc.out g4)
   have HP4:=Lib.hid (HP.out.kept g4)
   have HIs:=Lib.hid p4
   have D5':=Lib.hid (D5.out mo mc w4 HP4.out)
   clear g4 p4 a0 a1 b0 b1 D4' D5 HP
   obtain ⟨⟨a0,a1⟩,b0,b1⟩:=box.out w4 HBd.out
   go_wp2_with fail
   refine D5'.out.mono ?_;rintro e w5 ⟨ko,kc,rfl,p5,-,-,g5⟩
   have HBe:=Lib.hid (below_up HBd.out g5)
   have HP5:=Lib.hid (HP4.out.kept g5)
   have HI5:=Lib.hid (HIs.out.kept g5)
   have HK5:=Lib.hid p5
   have box5:Hid (∀ V,Below w5.heap.size w5 V→(V.cell? ⟨w.heap.size,0,none⟩=some (.slice ho ha.length hc)∧V.cell? ⟨w.heap.size,1,none⟩=some (.slice ro ra.length rc))∧V.cell? ⟨w.heap.size+1,0,none⟩=some (.slice bo hb.length bc)∧V.cell? ⟨w.heap.size+1,1,none⟩=some (.slice so rb.length sc)):=Lib.hid (fun V h=>box.out V (below_up HBe.out h))
   have C7:=Lib.hid (fun V i k (h:Below w5.heap.size w5 V)=>C6.out V i k (below_up HBe.out h))
   have HT:Hid (OwnTL w5 w5.heap.size (.slice none 0 0) (O 0 0)):=Lib.hid (by rw [HZ.out];exact World.ownsRow_nil _ _ _ _)
   clear g5 p5 a0 a1 b0 b1 D5' HP4 HIs C6 box
   go_wp2_with fail
   go_loopw [12,13] (fun v u wr=>∃ (i q cp:Nat) (go:Option Addr),i≤is.length∧u=.int .i64 i∧v=.slice go q cp∧Hid (q=(O i 0).length)∧Hid (Below w5.heap.size w5 wr)∧Hid (OwnTL wr w5.heap.size (.slice go q cp) (O i 0))) (fun _ u _=>is.length - (intOf u).toNat)
   case atStart=>exact ⟨0,0,0,none,Nat.zero_le _,rfl,rfl,Lib.hid HL0.out.symm,Lib.hid (Below.refl _ _),HT⟩
   case round =>
    clear HT HL0
    obtain ⟨i,q,cp,go,hi,rfl,rfl,HQn,HB,HT⟩:=hrel
    by_cases hlt:i < is.length
    · obtain ⟨p,hp⟩:∃ p,is[i]?=some p:=⟨_,List.getElem?_eq_getElem hlt⟩
      have hi2:i≤1024:=by have:=HIl.out;omega
      rcases HI5.out with h0 | ⟨A,rfl,hA,hcell⟩
      · rw [h0] at hlt;simp at hlt
      have HPc:Hid (∀ V,Below w5.heap.size w5 V→V.cell? (A.add i)=some (.int .i64 p)):=Lib.hid (fun V h=>(h.cell (p:=A.add i) (by rw [add_block];exact hA)).trans (hcell i p hp))
      have HN1:=Lib.hid (fun k z h=>HNx.out i k p z hp h)
      have HR1':=Lib.hid (HRow.out i hlt)
      have HL1:=Lib.hid (fun k=>HLe.out i k hi2)
      clear hcell hp
      go_wp2_with fail
      go_loopw [12,14] (fun v u wr=>∃ (k q cp:Nat) (go:Option Addr),k≤ks.length∧u=.int .i64 k∧v=.slice go q cp∧Hid (q=(O i k).length)∧Hid (Below w5.heap.size w5 wr)∧Hid (OwnTL wr w5.heap.size (.slice go q cp) (O i k))) (fun _ u _=>ks.length - (intOf u).toNat)
      case atStart=>exact ⟨0,q,cp,go,Nat.zero_le _,rfl,rfl,HQn,HB,HT⟩
      case round =>
       clear HT HQn HB
       obtain ⟨k,q,cp,go,hk,rfl,rfl,HQn,HB,HT⟩:=hrel
       have hk2:k≤1024:=by have:=HKl.out;omega
       by_cases hkl:k < ks.length
       · obtain ⟨z,hz⟩:∃ z,ks[k]?=some z:=⟨_,List.getElem?_eq_getElem hkl⟩
         rcases HK5.out with h0 | ⟨B,rfl,hBB,hcell⟩
         · rw [h0] at hkl;simp at hkl
         have HQc:Hid (∀ V,Below w5.heap.size w5 V→V.cell? (B.add k)=some (.int .i64 z)):=Lib.hid (fun V h=>(h.cell (p:=B.add k) (by rw [add_block];exact hBB)).trans (hcell k z hz))
         have HST:=Lib.hid (HN1.out k z hz)
         have hq:q≤1049600:=by rw [HQn.out];exact HL1.out k
         have E1:=Lib.hid (fun V (h:Below w5.heap.size w5 V)=>C7.out V p z h)
         have hsl:=HSl.out p z
         generalize comN ra rb l p z=s at E1 HST hsl
         have HTO:Hid (wr.ownsRow w5.heap.size 73 3 (.slice go q cp) q (cellsT (O i k))):=Lib.hid (by have:=HT.out;unfold OwnTL at this;rw [← HQn.out] at this;exact this)
         have HBel:Hid (Below wr.heap.size wr wr.drew):=Lib.hid ((Below.refl _ _).drew)
         have cp1:=HPc.out wr HB.out
         have cq1:=HQc.out wr HB.out
         obtain ⟨⟨a0,a1⟩,b0,b1⟩:=box5.out wr HB.out
         clear hcell hz HT
         go_upto_region 14 with fail
         go_region_held3 (fun V=>((V.cell? ⟨w.heap.size,0,none⟩=some (.slice ho ha.length hc)∧V.cell? ⟨w.heap.size,1,none⟩=some (.slice ro ra.length rc))∧V.cell? ⟨w.heap.size+1,0,none⟩=some (.slice bo hb.length bc)∧V.cell? ⟨w.heap.size+1,1,none⟩=some (.slice so rb.length sc))∧V.cell? (A.add i)=some (.int .i64 p)∧V.cell? (B.add k)=some (.int .i64 z)) ((refine ⟨⟨⟨?_,?_⟩,?_,?_⟩,?_,?_⟩ <;> first | assumption | go_keep))
          (first | (go_at_call 53;refine (E1.out _ (below_up HB.out HBel.out)).mono ?_;rintro e w6 ⟨rfl,b6⟩;have HBel:=Lib.hid (below_up HBel.out b6);have HB6:=Lib.hid (below_up HB.out HBel.out);obtain ⟨⟨a0,a1⟩,b0,b1⟩:=box5.out w6 HB6.out;have cp1:=HPc.out w6 HB6.out;have cq1:=HQc.out w6 HB6.out;clear b6))
         rename_i hHeld
         clear hHeld
         have HT6:=Lib.hid (ownsRow_below HTO.out HBel.out)
         clear E1 HTO a0 a1 b0 b1
         have hw1:IntKind.i64.wrap (2 * (s:Int))=2 * (s:Int):=IntWalk.i64_in _ (by omega)
         by_cases hm:l.length < 2 * s
         · have HS2:Hid (O i (k+1)=O i k ++ [(p,z,(s:Int))]):=Lib.hid (by rw [HST.out,if_pos hm])
           have hgt:(l.length:Int) < 2 * (s:Int):=by omega
           obtain ⟨V,HV⟩:∃ V,Hid (V=w6.drew):=⟨_,Lib.hid rfl⟩
           have HBV:Hid (Below w5.heap.size w5 V):=Lib.hid (by rw [HV.out];exact HB6.out.drew)
           have HT0:Hid (V.ownsRow w5.heap.size 73 3 (.slice go q cp) q (cellsT (O i k))):=Lib.hid (by rw [HV.out];exact HT6.out.drew)
           have HT1:=Lib.hid (HT0.out.alloc (.cells #[Value.int .i64 p,Value.int .i64 z,Value.int .i64 s] 73))
           have HNW:=Lib.hid (lit_cell3 V (.int .i64 p) (.int .i64 z) (.int .i64 (s:Int)) 73)
           have hws:=HBV.out.size
           have hbs:w5.heap.size≤(V.alloc (.cells #[Value.int .i64 p,Value.int .i64 z,Value.int .i64 s] 73)).heap.size:=by simp;omega
           have HBb3:Hid (∀ w7,(V.alloc (.cells #[Value.int .i64 p,Value.int .i64 z,Value.int .i64 s] 73)).grownBy w7 (Value.slice go q cp).ownBlock→Below w5.heap.size w5 w7):=Lib.hid (fun w7 hg=>(HBV.out.alloc hws _).grown hg hbs (fun j h=>(HT0.out.lt j h).1))
           rw [HV.out] at HT1 HNW hbs HBb3
           clear HST hm
           go_upto_region 16 with fail
           go_region_held3 (fun V=>V.cell? (A.add i)=some (.int .i64 p)∧V.cell? (B.add k)=some (.int .i64 z)) ((refine ⟨?_,?_⟩ <;> first | assumption | go_keep))
            (first | (refine step_append_any (by rfl) _ _ 68 (by rfl) w5.heap.size 73 i0 (.agg #[.int .i64 0,.int .i64 0,.int .i64 0]) 3 24 Tryz.underlying68 HI.out hz0 hz1 hz2 rfl (by decide) (.slice go q cp) q (cellsT (O i k)) (by rfl) HT1.out _ 1 1 [.int .i64 p,.int .i64 z,.int .i64 (s:Int)] (by rfl) (fun h=>by cases h) rfl (fun ad h=>by cases h;exact HNW.out) (fun u hu=>by simp at hu;rcases hu with rfl | rfl | rfl <;> rfl) (by unfold maxLen;omega) (by omega) hbs (q+1) rfl (cellsT (O i k) ++ [.int .i64 p,.int .i64 z,.int .i64 (s:Int)]) rfl ?_;intro go3 gc w7 hown' hgrow _;have B7:=Lib.hid (HBb3.out w7 hgrow);have cp1:=HPc.out w7 B7.out;have cq1:=HQc.out w7 B7.out;have HOW:=Lib.hid hown';clear hown' hgrow))
           rename_i hHeld
           clear hHeld
           have HQ3:Hid (q+1=(O i (k+1)).length):=Lib.hid (by rw [HS2.out,List.length_append,← HQn.out];rfl)
           have HT3:Hid (OwnTL w7 w5.heap.size (.slice go3 (q+1) gc) (O i (k+1))):=Lib.hid (by unfold OwnTL;rw [← HQ3.out,HS2.out,cellsT_app];exact HOW.out)
           clear HOW HT1 HT0 HNW hbs HBb3 HV
           go_wp2_with fail
           go_roundw
           case rel=>exact ⟨k+1,q+1,gc,_,by omega,by go_num,rfl,HQ3,B7,HT3⟩
           case measure=>simp [intOf];omega
         · have HS2:Hid (O i (k+1)=O i k):=Lib.hid (by rw [HST.out,if_neg hm])
           have hgt:¬ (l.length:Int) < 2 * (s:Int):=by omega
           have HT2:Hid (OwnTL w6 w5.heap.size (.slice go q cp) (O i (k+1))):=Lib.hid (by unfold OwnTL;rw [HS2.out,← HQn.out];exact HT6.out)
           have HQ3:Hid (q=(O i (k+1)).length):=Lib.hid (by rw [HS2.out];exact HQn.out)
           clear HST hm
           go_wp2_with fail
           go_roundw
           case rel=>exact ⟨k+1,q,cp,go,by omega,by go_num,rfl,HQ3,HB6,HT2⟩
           case measure=>simp [intOf];omega
       · obtain rfl:k=ks.length:=by omega
         have HQ3:Hid (q=(O (i+1) 0).length):=Lib.hid (by rw [← HR1'.out];exact HQn.out)
         have HT3:Hid (OwnTL wr w5.heap.size (.slice go q cp) (O (i+1) 0)):=Lib.hid (by rw [← HR1'.out];exact HT.out)
         clear HT HQn
         go_wp2_with fail
         go_roundw
         case rel=>exact ⟨i+1,q,cp,go,by omega,by go_num,rfl,HQ3,HB,HT3⟩
         case measure=>simp [intOf];omega
    · obtain rfl:i=is.length:=by omega
      have HTr:=Lib.hid (OwnTL.tripAt (by rw [← HAl.out];exact HT.out:OwnTL wr w5.heap.size (.slice go q cp) CH))
      have hqc:q=CH.length:=by rw [HQn.out,HAl.out]
      obtain ⟨ao,cap,e1,htr,-,-⟩:=HTr.out
      simp only [Value.slice.injEq] at e1
      obtain ⟨rfl,-,rfl⟩:=e1
      have D6':=Lib.hid (D6.out go cp wr htr)
      have HB9:=Lib.hid (below_up HBe.out HB.out)
      have HP9:=Lib.hid (HP5.out.kept HB.out)
      subst hqc
      clear HTr htr D6 HT HQn HAl HNx HRow HLe HZ HI5 HK5 C7 box5 HP5
      generalize pickL CH=M at D6' HMl HR1
      go_wp2_with fail
      refine D6'.out.mono ?_;rintro e wA ⟨no,nc,rfl,m5,-,-,gA⟩
      have HBA:=Lib.hid (below_up HB9.out gA)
      have HPA:=Lib.hid (HP9.out.kept gA)
      have HM:=Lib.hid m5
      clear gA D6' HP9 HB9 m5
      obtain ⟨G,HG⟩:∃ G:Nat→PL,Hid (G=fun k=>(M.take k).foldl putB L):=⟨_,Lib.hid rfl⟩
      have HG0:Hid (G 0=L):=Lib.hid (by rw [HG.out];rfl)
      have HGn:Hid (∀ (k:Nat) x,M[k]?=some x→G (k+1)=putB (G k) x):=Lib.hid (fun k x h=>by rw [HG.out];exact puts_next M L k x h)
      have HGl:Hid (∀ k,(G k).length≤1049600):=Lib.hid (fun k=>by
       rw [HG.out]
       show ((M.take k).foldl putB L).length≤_
       have:=puts_len (M.take k) L
       have:=HLl.out;have:=HMl.out
       rw [List.length_take] at *
       omega)
      have HR3:Hid (R=G M.length):=Lib.hid (by rw [HR1.out,HG.out];simp)
      have HS0:Hid (PairsAt wA mo (G 0)∧(mo=none→mc=0)∧(G 0).length≤mc∧(G 0=[]→mo=none)):=Lib.hid (by rw [HG0.out];exact ⟨HPA.out,HK1.out,HK2.out,HK3.out⟩)
      have HL9:Hid (L.length=(G 0).length):=Lib.hid (by rw [HG0.out])
      clear HPA HK1 HK2 HK3 HG0 HR1
      go_wp2_with fail
      go_loopw [9,17] (fun v u wr=>∃ (k q cp:Nat) (go:Option Addr),k≤M.length∧u=.int .i64 k∧v=.slice go q cp∧Hid (q=(G k).length)∧Hid (Below wA.heap.size wA wr)∧Hid (PairsAt wr go (G k)∧(go=none→cp=0)∧(G k).length≤cp∧(G k=[]→go=none))) (fun _ u _=>M.length - (intOf u).toNat)
      case atStart=>exact ⟨0,L.length,mc,mo,Nat.zero_le _,rfl,rfl,HL9,Lib.hid (Below.refl _ _),HS0⟩
      case round =>
       obtain ⟨k,q,cp,go,hk,rfl,rfl,HQ,HB,HS⟩:=hrel
       have hk2:k≤1048576:=by have:=HMl.out;omega
       by_cases hlt:k < M.length
       · obtain ⟨⟨x1,x2⟩,hx⟩:∃ x,M[k]?=some x:=⟨_,List.getElem?_eq_getElem hlt⟩
         rcases (HM.out.kept HB.out) with h0 | ⟨b,o,rfl,hA,hcell⟩
         · rw [h0] at hlt;simp at hlt
         obtain ⟨hc1,hc2⟩:=hcell k _ hx
         have HN:=Lib.hid (HGn.out k _ hx)
         obtain ⟨s1,s2,s3,s4⟩:=HS.out
         have D7:=Lib.hid (rput_any go cp (G k) x1 x2 wr (by have:=HGl.out k;omega) s3 s2 s4 s1)
         rw [← HQ.out] at D7
         dsimp only at hc1 hc2
         clear hcell hx s1 s2 s3 s4 HS
         go_wp2_with fail
         refine D7.out.mono ?_;rintro e w6 ⟨go6,cp6,rfl,p6,n6,l6,g6⟩
         rw [← HN.out] at p6 l6 ⊢
         have HB6:=Lib.hid (below_up HB.out g6)
         have HNe:Hid (G (k+1)=[]→go6=none):=Lib.hid (fun h=>by
          have:=congrArg List.length (HN.out.symm.trans h)
          rw [putB_len] at this;simp at this)
         have HS6:Hid (PairsAt w6 go6 (G (k+1))∧(go6=none→cp6=0)∧(G (k+1)).length≤cp6∧(G (k+1)=[]→go6=none)):=Lib.hid ⟨p6,n6,l6,HNe.out⟩
         clear D7 p6 n6 l6 g6 HNe HQ HN
         obtain ⟨q6,hq6⟩:∃ q6,q6=(G (k+1)).length:=⟨_,rfl⟩
         rw [← hq6]
         have HQ6:=Lib.hid hq6
         clear hq6
         go_wp2_with fail
         go_roundw
         case rel=>exact ⟨k+1,q6,cp6,go6,by omega,by go_num,rfl,HQ6,HB6,HS6⟩
         case measure=>simp [intOf];omega
       · obtain rfl:k=M.length:=by omega
         obtain ⟨s1,s2,s3,s4⟩:=HS.out
         have HE:Hid (PairsOut R w (.returned (.slice go q cp)) wr):=Lib.hid (by rw [HR3.out];exact ⟨go,cp,by rw [HQ.out],s1,s2,s3,below_up HB0.out (below_up HBA.out HB.out)⟩)
         clear HS s1 s2 s3 s4 HQ HR3
         go_wp2_with fail
         go_ret
         exact HE.out
 · have hEb:(E != 0)=true:=by simp [hE0]
   have HE:Hid (∀ V,Below W.heap.size W V→PairsOut R w (.returned (.slice none 0 0)) V):=Lib.hid (fun V h=>by rw [HU1.out hE0];exact ⟨none,0,rfl,.inl rfl,fun _=>rfl,Nat.le_refl _,below_up HB0.out h⟩)
   clear HU0 HU1 HU2 C2 C6 hR hS hP hE
   go_enter Tryz.func17,Tryz.ntmps17
   go_upto_region 1 with fail
   rw [show (w.alloc (Obj.cells #[Value.slice ho ha.length hc,Value.slice ro ra.length rc] 25)).alloc (Obj.cells #[Value.slice bo hb.length bc,Value.slice so rb.length sc] 25)=W from HW.out.symm]
   go_wp2_with fail
   refine C1.out.mono ?_;rintro e w1 ⟨rfl,g1⟩
   have HE2:=Lib.hid (HE.out w1 g1)
   clear HE C1 g1
   go_wp2_with fail
   go_ret
   exact HE2.out
end
end Go.Proofs.YtdenehnneloegaaGreatDoor
