/-
  Texts of these rows' proofs, laid one behind the other: KUniq, KFirst, KPlaces.
  Conditions: those of each theorem.
-/
import Derived.WideKeyPair
import Derived.WalkKit
import Derived.WalkMore
import Derived.IntWalk
import Derived.WalkArith
import Derived.OwnWalk
import Derived.Lib.Hide
import Derived.Test.YtdenehnneloegaaGreatDoorProg
import Derived.Test.YtdenehnneloegaaGreatDoorPa2
import Derived.Test.YtdenehnneloegaaGreatDoorPa16
import Derived.Maps.OwnSet
namespace Go.Proofs.YtdenehnneloegaaGreatDoor
set_option linter.unusedVariables false
set_option maxRecDepth 100000
set_option maxHeartbeats 8000000
section
open Go.RowKit Go.Shelf Go.Maps
theorem ownsMapK_below {H:Type} {P:Program} {k:TypeId} {R:Value→Option (DataW H × List MemPlace)} {b n:Nat} {D:DataW H} {w w':World} (h:w.ownsMap P k R b n D) (hB:Below w.heap.size w w'):w'.ownsMap P k R b n D :=
 h.kept (row:=none) ⟨hB.os,hB.tape,hB.output,hB.size,fun k hk _=>hB.block k hk⟩ (by simp)
theorem arrK:WideMaps.ArrKey Tryz.prog 213 9 3:={ hu:=Tryz.underlying213,plain:=by kernel_rfl,one:=by kernel_rfl,size:=by kernel_rfl }
theorem keyedK:Keyed Tryz.prog 213:=Keyed.of_law arrK.law
def keyT (k:ByteArray × ByteArray × ByteArray):ByteArray:=⟨(keyBytes [.string k.1.data.toList,.string k.2.1.data.toList,.string k.2.2.data.toList]).toArray⟩
theorem keyOf_three (k:ByteArray × ByteArray × ByteArray) (h0:k.1.size≤maxLen) (h1:k.2.1.size≤maxLen) (h2:k.2.2.size≤maxLen):keyOf Tryz.prog 213 (.agg (keyV k))=some (.string (keyT k).data.toList):=by
 have hsz:∃ m,Tryz.prog.types.size=m+1:=⟨Tryz.prog.types.size - 1,by kernel_rfl⟩
 have hkt:=arrK.keyType hsz
 obtain ⟨m,hm⟩:=hsz
 unfold keyOf
 simp only [arrK.hu]
 rw [if_pos (by simp [hkt,Value.formed,arrK.hu,arrK.size,keyV]),hm]
 unfold Program.keyLits
 simp only [arrK.hu,Value.cells,keyV]
 rw [if_pos (by rw [arrK.size];rfl),show List.range 3=[0,1,2] from rfl,List.mapM_cons,List.mapM_cons,List.mapM_cons,List.mapM_nil]
 simp [arrK.one,Program.keyLits,Tryz.underlying9,h0,h1,h2,keyT]
theorem keyT_inj (k l:ByteArray × ByteArray × ByteArray) (h0:k.1.size≤maxLen) (h1:k.2.1.size≤maxLen) (h2:k.2.2.size≤maxLen) (g0:l.1.size≤maxLen) (g1:l.2.1.size≤maxLen) (g2:l.2.2.size≤maxLen) (h:keyT k=keyT l):k=l:=by
 have e:=arrK.law.inj (keyOf_three k h0 h1 h2) (by rw [h];exact keyOf_three l g0 g1 g2)
 simp only [keyV,Value.agg.injEq,Array.mk.injEq,List.cons.injEq,Value.string.injEq,and_true] at e
 obtain ⟨a,b,c⟩:=k
 obtain ⟨a',b',c'⟩:=l
 simp only [Prod.mk.injEq];exact e
def keysOf (rs:List (List ByteArray)) (own:List Int):List ByteArray:=(List.range rs.length).map fun i=>keyT (key3 rs own i)
theorem keysOf_at (rs:List (List ByteArray)) (own:List Int) (i:Nat) (h:i < rs.length):(keysOf rs own)[i]?=some (keyT (key3 rs own i)):=by
 unfold keysOf;rw [List.getElem?_map,List.getElem?_range h];rfl
def SmallK (rs:List (List ByteArray)):Prop:=∀ r ∈ rs,r.length≤1099511627776∧∀ c ∈ r,c.size≤1048576
theorem cell_small {rs:List (List ByteArray)} (hs:SmallK rs) (i c:Int):(cellL rs i c).size≤1048576:=by
 unfold cellL
 split
 · cases hr:rs[i.toNat]? with
   | none=>simp [ByteArray.size]
   | some r =>
    show ((r[c.toNat]?).getD _).size≤_
    cases hx:r[c.toNat]? with
    | none=>simp [ByteArray.size]
    | some x=>exact (hs r (List.mem_of_getElem? hr)).2 x (List.mem_of_getElem? hx)
 · simp [ByteArray.size]
theorem key3_small {rs:List (List ByteArray)} (hs:SmallK rs) (own:List Int) (hl:own.length≤1048576) (hw:∀ c ∈ own,(Lit.int .i64 c).wf=true) (i:Nat):(key3 rs own i).1.size≤maxLen∧(key3 rs own i).2.1.size≤maxLen∧(key3 rs own i).2.2.size≤maxLen:=by
 have hm:1099579000000000≤maxLen:=by unfold maxLen;omega
 have hcell:=fun c:Int=>cell_small hs (i:Int) c
 have hk:∀ j,((keyL rs own i).getD j emptyT).size≤1048576:=fun j=>by
  unfold keyL
  rw [List.getD_eq_getElem?_getD,List.getElem?_map]
  cases own[j]? with
  | none=>simp [emptyT,ByteArray.size]
  | some c=>exact hcell c
 unfold key3
 split
 · refine ⟨by have:=hcell (own.getD 0 0);dsimp only;omega,by have:=hcell (own.getD 1 0);dsimp only;omega,?_⟩
   have h1:=text_few rs i (own.drop 2) (fun r hr=>(hs r hr).2) (fun c hc=>hw c (List.mem_of_mem_drop hc))
   have h2:(own.drop 2).length≤1048576:=by rw [List.length_drop];omega
   show (⟨(textL rs i (own.drop 2)).toArray⟩:ByteArray).size≤maxLen
   rw [ba_mk_size]
   omega
 · exact ⟨by have:=hk 0;dsimp only;omega,by have:=hk 1;dsimp only;omega,by have:=hk 2;dsimp only;omega⟩
theorem dup_keys {rs:List (List ByteArray)} (hs:SmallK rs) (own:List Int) (hl:own.length≤1048576) (hw:∀ c ∈ own,(Lit.int .i64 c).wf=true) (hn:own.Nodup):dupL (keysOf rs own)=!apartRows rs own:=by
 have hiff:(bytesOf (keysOf rs own)).Nodup ↔ apartRows rs own=true:=by
  rw [apart_iff]
  unfold bytesOf
  rw [List.Nodup,List.pairwise_iff_getElem]
  constructor
  · intro h i j hij hj he
    have hlen:((keysOf rs own).map fun c=>c.data.toList).length=rs.length:=by simp [keysOf]
    have:=h i j (by rw [hlen];omega) (by rw [hlen];omega) hij
    apply this
    simp only [List.getElem_map,keysOf,List.getElem_range]
    rw [(key3_eq rs own hn i j).2 he]
  · intro h i j hi hj hij he
    have hlen:((keysOf rs own).map fun c=>c.data.toList).length=rs.length:=by simp [keysOf]
    rw [hlen] at hi hj
    simp only [List.getElem_map,keysOf,List.getElem_range] at he
    obtain ⟨a1,a2,a3⟩:=key3_small hs own hl hw i
    obtain ⟨b1,b2,b3⟩:=key3_small hs own hl hw j
    exact h i j hij hj ((key3_eq rs own hn i j).1 (keyT_inj _ _ a1 a2 a3 b1 b2 b3 (ba_eq he)))
 unfold dupL
 cases h:apartRows rs own with
 | true=>rw [h] at hiff;simp [hiff.2 rfl]
 | false =>
  rw [h] at hiff
  have:¬ (bytesOf (keysOf rs own)).Nodup:=fun hh=>by have:=hiff.1 hh;cases this
  simp [this]
theorem out_head (n:Nat) (rs:List (List ByteArray)) (own:List Int) (h:own.Pairwise (fun a b=>a < b)) (f g:Int) (q:Nat) (hf:own[0]?=some f) (hg:own[q]?=some g) (hq:q+1=own.length):inHead n own=(!decide (f < 0) && decide (g < (n:Int))):=by
 rw [Bool.eq_iff_iff,inHead_iff,Bool.and_eq_true,Bool.not_eq_true',decide_eq_false_iff_not,decide_eq_true_iff]
 obtain ⟨hf1,hf2⟩:=List.getElem?_eq_some_iff.1 hf
 obtain ⟨hg1,hg2⟩:=List.getElem?_eq_some_iff.1 hg
 constructor
 · intro h1
   have a:=h1 f (List.mem_of_getElem? hf)
   have b:=h1 g (List.mem_of_getElem? hg)
   omega
 · rintro ⟨h1,h2⟩ c hc
   obtain ⟨j,hj,rfl⟩:=List.mem_iff_getElem.1 hc
   rw [List.pairwise_iff_getElem] at h
   constructor
   · by_cases h0:j=0
     · subst h0;rw [hf2];omega
     · have:=h 0 j hf1 hj (by omega);rw [hf2] at this;omega
   · by_cases h0:j=q
     · subst h0;rw [hg2];omega
     · have:=h j q hj hg1 (by omega);rw [hg2] at this;omega
theorem unique_any (ho:Option Addr) (n hc:Nat) (ro:Option Addr) (rc:Nat) (rs:List (List ByteArray)) (co:Option Addr) (cc:Nat) (cols:List Int) (w:World) (hn:n≤1099511627776) (hn2:rs.length≤1099511627776) (hx:SmallK rs)
 (hcl:cols.length≤1048576) (hw:∀ c ∈ cols,(Lit.int .i64 c).wf=true) (hR:RowsAt w ro rs) (hI:IntsAt w co cols) (hpow:Pow w) :
 Calls Tryz.prog 113 #[.agg #[.slice ho n hc,.slice ro rs.length rc],.slice co cols.length cc] w fun e w'=>e=.returned (.bool (uniqL n rs cols))∧Below w.heap.size w w':=by
 have hmm:=@run_makeMap Tryz.prog
 obtain ⟨V,HV⟩:∃ V,Hid (V=w.alloc (TabO ho n hc ro rs.length rc)):=⟨_,Lib.hid rfl⟩
 have HB:=Lib.hid (show Below w.heap.size w V by rw [HV.out];exact one_below w _)
 have HbV:=Lib.hid (show V.heap[w.heap.size]?=some (TabO ho n hc ro rs.length rc) by rw [HV.out];exact World.alloc_heap_new w _)
 have HX:=Lib.hid hx
 have HR:=Lib.hid hR
 have HI:=Lib.hid (hI.kept HB.out)
 have HP:=Lib.hid hpow
 have HU:=Lib.hid (uniq_mem n rs cols (ownL cols) (own_mem cols))
 have HW:=Lib.hid (show ∀ c ∈ ownL cols,(Lit.int .i64 c).wf=true from fun c hc=>hw c ((own_mem cols c).1 hc))
 have HRi:=Lib.hid (own_rises cols)
 have HND:=Lib.hid (own_nodup cols)
 have HOL:=Lib.hid (own_len cols)
 have HSL:=Lib.hid (sort_len cols)
 obtain ⟨V1,HV1⟩:∃ V1,Hid (V1=V.alloc (.cells #[.slice co cols.length cc] 41)):=⟨_,Lib.hid rfl⟩
 have HB1:=Lib.hid (show Below V.heap.size V V1 by rw [HV1.out];exact one_below V _)
 have CV:Hid (Calls Tryz.prog 171 #[.slice co cols.length cc] V fun e w'=>e=.returned (.func (.func 204) #[] #[.pointer (some ⟨V.heap.size,0,none⟩)])∧w'=V1):=Lib.hid (by rw [HV1.out];exact values_any co cols.length cc V)
 have CS:=Lib.hid (sorted_any co cc cols V.heap.size V1 (by omega) (HI.out.kept HB1.out) (by rw [HV1.out];exact World.alloc_heap_new V _))
 have HVs:=Lib.hid (lt_of_heap HbV.out)
 obtain ⟨L,hL⟩:∃ L,L=ownL cols:=⟨_,rfl⟩
 rw [← HU.out,← hL]
 clear hx hw hR hI hpow
 go_enter Tryz.func113,Tryz.ntmps113
 go_wp2_with fail
 rw [← HV.out]
 refine CV.out.mono ?_
 rintro e w1 ⟨rfl,rfl⟩
 go_wp2_with fail
 refine CS.out.mono ?_
 rintro e w2 ⟨v,rfl,hown,hb2⟩
 have CC:=Lib.hid (compact_any w1.heap.size v (sortL cols) w2 hb2.size (by rw [HSL.out];omega) hown)
 have HB2:=Lib.hid (HB1.out.trans (hb2.mono HB1.out.size))
 have HB2s:=Lib.hid hb2
 obtain ⟨so,sc,rfl⟩:=own_slice hown
 clear hown hb2 CV CS
 go_wp2_with fail
 refine CC.out.mono ?_
 rintro e Z ⟨oo,oc,rfl,hIo,hoc,hbz⟩
 have HBZ:=Lib.hid (HB2.out.trans (hbz.mono HB1.out.size))
 change IntsAt Z oo (ownL cols) at hIo
 change (ownL cols).length≤oc at hoc
 rw [show Lib.compact (sortL cols)=ownL cols from rfl]
 rw [← hL] at hIo hoc HU HW HRi HND HOL ⊢
 have hLn:L.length≤1048576:=by have:=HOL.out;omega
 have HIo:=Lib.hid hIo
 have hbox:=(HBZ.out.block _ HVs.out).trans HbV.out
 have bc0:Z.cell? ⟨w.heap.size,0,none⟩=some (.slice ho n hc):=(Lib.cell_of_heap hbox 0).trans rfl
 have bc1:Z.cell? ⟨w.heap.size,1,none⟩=some (.slice ro rs.length rc):=(Lib.cell_of_heap hbox 1).trans rfl
 have HBw:=Lib.hid (HB.out.trans (HBZ.out.mono HB.out.size))
 clear hL hbz CC hbox HB2 HU HSL HOL
 by_cases h0:L.length=0
 · have hl:L=[]:=List.eq_nil_of_length_eq_zero h0
   subst hl
   have E:=Lib.hid (uniq_none n rs)
   clear h0
   simp only [List.length_nil]
   go_wp2_with fail
   go_region
   go_wp2_with fail
   go_ret
   exact ⟨by rw [E.out];rfl,HBw.out.drew⟩
 · obtain ⟨q,hq⟩:∃ q,q+1=L.length:=⟨L.length - 1,by omega⟩
   obtain ⟨f,hf⟩:∃ f,L[0]?=some f:=⟨_,List.getElem?_eq_getElem (by omega)⟩
   obtain ⟨g,hg⟩:∃ g,L[q]?=some g:=⟨_,List.getElem?_eq_getElem (by omega)⟩
   have HO:=Lib.hid (out_head n rs L HRi.out f g q hf hg hq)
   rcases hIo with h1 | ⟨A,rfl,hA,hcell⟩
   · rw [h1] at h0;simp at h0
   have cf:Z.cell? A=some (.int .i64 f):=hcell 0 f hf
   have cg:=hcell q g hg
   have e1:IntKind.i64.wrap ((L.length:Int) - 1)=(q:Int):=by
    have h:=IntWalk.i64_in ((L.length:Int) - 1) (by omega)
    rw [h];omega
   have e0:((L.length:Int) == 0)=false:=by
    cases hh:((L.length:Int) == 0) with
    | false=>rfl
    | true=>exact absurd (eq_of_beq hh) (by omega)
   have hqL:q < L.length:=by omega
   have hL0:0 < L.length:=by omega
   have HF:=Lib.hid hf
   have HG:=Lib.hid hg
   have HQ:=Lib.hid hq
   clear hcell hf hg hq h0
   by_cases hb1:f < 0
   · have E:Hid (uniqL n rs L=false):=Lib.hid (uniq_out n rs L f (List.mem_of_getElem? HF.out) (.inl hb1))
     have b1:decide (f < 0)=true:=by simpa using hb1
     go_wp2_with fail
     go_region
     go_wp2_with fail
     go_ret
     exact ⟨by rw [E.out];rfl,HBw.out.drew⟩
   · have b1:decide (f < 0)=false:=by simpa using hb1
     by_cases hb2:(n:Int)≤g
     · have E:Hid (uniqL n rs L=false):=Lib.hid (uniq_out n rs L g (List.mem_of_getElem? HG.out) (.inr hb2))
       have b2:decide ((n:Int)≤g)=true:=by simpa using hb2
       go_wp2_with fail
       go_region
       go_wp2_with fail
       go_ret
       exact ⟨by rw [E.out];rfl,HBw.out.drew⟩
     · have b2:decide ((n:Int)≤g)=false:=by simpa using hb2
       have E:Hid (uniqL n rs L=!dupL (keysOf rs L)):=Lib.hid (by
        rw [dup_keys HX.out L hLn HW.out HND.out,Bool.not_not]
        unfold uniqL
        rw [HO.out,b1]
        have:L.isEmpty=false:=by cases L with | nil=>simp at hL0 | cons a l=>rfl
        have h3:decide (g < (n:Int))=true:=by simp at b2 ⊢;omega
        rw [this,h3];rfl)
       have HY:=Lib.hid (dup_yes (keysOf rs L))
       have HNn:=Lib.hid (dup_no (keysOf rs L))
       have HKL:Hid ((keysOf rs L).length=rs.length):=Lib.hid (by simp [keysOf])
       have HKA:=Lib.hid (keysOf_at rs L)
       obtain ⟨xs,hxs⟩:∃ xs,xs=keysOf rs L:=⟨_,rfl⟩
       rw [← hxs] at E HY HNn HKL HKA
       obtain ⟨D,hD⟩:∃ D,D=dupL xs:=⟨_,rfl⟩
       rw [← hD] at E HY HNn
       clear hxs hD HO
       go_wp2_with fail
       go_region
       obtain ⟨Z1,hZ1⟩:∃ Z1,Z1=Z.drew:=⟨_,rfl⟩
       have bd0:Z1.cell? ⟨w.heap.size,0,none⟩=some (.slice ho n hc):=by rw [hZ1];exact bc0
       have bd1:Z1.cell? ⟨w.heap.size,1,none⟩=some (.slice ro rs.length rc):=by rw [hZ1];exact bc1
       have HBw1:Hid (Below w.heap.size w Z1):=Lib.hid (by rw [hZ1];exact HBw.out.drew)
       have HBZ1:Hid (Below V.heap.size V Z1):=Lib.hid (by rw [hZ1];exact HBZ.out.drew)
       have HIo1:Hid (IntsAt Z1 (some A) L):=Lib.hid (HIo.out.kept (by rw [hZ1];exact (Below.refl _ Z).drew))
       have HMO:Hid ((Z1.alloc (.map #[] 0)).ownsMap Tryz.prog 213 (plainElem Tryz.prog 4) Z1.heap.size 0 (seenK xs 0)):=Lib.hid (World.ownsMap_made Z1 _ _ _)
       have HMB:Hid (Below Z1.heap.size Z1 (Z1.alloc (.map #[] 0))):=Lib.hid ((Below.refl _ Z1).alloc (Nat.le_refl _) _)
       have bm1:(Z1.alloc (.map #[] 0)).cell? ⟨w.heap.size,1,none⟩=some (.slice ro rs.length rc):=cell_alloc_l _ bd1
       rw [← hZ1]
       clear hZ1 bc0 bc1 cf cg e1 e0 b1 b2 hb1 hb2 HF HG HQ HBw HBZ HIo bd0 bd1
       go_wp2_with fail
       go_loopw [38] (fun j wr=>∃ k:Nat,k≤rs.length∧j=.int .i64 k∧Hid (Below Z1.heap.size Z1 wr)∧Hid (wr.ownsMap Tryz.prog 213 (plainElem Tryz.prog 4) Z1.heap.size k (seenK xs k))∧Hid ((bytesOf (xs.take k)).Nodup)) (fun j _=>rs.length - (intOf j).toNat)
       case atStart=>exact ⟨0,Nat.zero_le _,rfl,HMB,HMO,Lib.hid (by simp [bytesOf])⟩
       case round =>
        obtain ⟨k,hk,rfl,HB,HO,HD⟩:=hrel
        clear bm1
        by_cases hlt:k < rs.length
        · have HBwr:=Lib.hid (HBw1.out.trans (HB.out.mono HBw1.out.size))
          have HBVr:=Lib.hid (HBZ1.out.trans (HB.out.mono HBZ1.out.size))
          have hbox:=(HBVr.out.block _ HVs.out).trans HbV.out
          have bc0:wr.cell? ⟨w.heap.size,0,none⟩=some (.slice ho n hc):=(Lib.cell_of_heap hbox 0).trans rfl
          have bc1:wr.cell? ⟨w.heap.size,1,none⟩=some (.slice ro rs.length rc):=(Lib.cell_of_heap hbox 1).trans rfl
          have CK:=Lib.hid (keyOf_any ho n hc ro rc rs k (some A) oc L wr hlt hn2 HX.out hLn hoc HRi.out HW.out (HR.out.kept HBwr.out) (HIo1.out.kept HB.out) (HP.out.kept HBwr.out))
          obtain ⟨k1,k2,k3⟩:=key3_small HX.out L hLn HW.out k
          have hkey:=keyOf_three (key3 rs L k) k1 k2 k3
          have hx:xs[k]?=some (keyT (key3 rs L k)):=HKA.out k hlt
          obtain ⟨K3,hK3⟩:∃ K3,K3=key3 rs L k:=⟨_,rfl⟩
          rw [← hK3] at CK hkey hx
          clear k1 k2 k3 hbox hK3
          go_wp2_with fail
          refine CK.out.mono ?_
          rintro e w3 ⟨rfl,b3⟩
          have HBa:=Lib.hid (below_up HB.out b3)
          have HOa:=Lib.hid (ownsMapK_below HO.out b3)
          clear b3 bc0 bc1 CK HB HO HBwr HBVr
          unfold keyV at hkey ⊢
          obtain ⟨U,HU⟩:∃ U,Hid (U=w3.alloc (.cells #[.string K3.1,.string K3.2.1,.string K3.2.2] 213)):=⟨_,Lib.hid rfl⟩
          have hbU:Below w3.heap.size w3 U:=by rw [HU.out];exact one_below w3 _
          have hUh:U.heap[w3.heap.size]?=some (.cells #[.string K3.1,.string K3.2.1,.string K3.2.2] 213 (0,0)):=by rw [HU.out];exact World.alloc_heap_new _ _
          have u0:U.cell? ⟨w3.heap.size,0,none⟩=some (.string K3.1):=(Lib.cell_of_heap hUh 0).trans rfl
          have u1:U.cell? ⟨w3.heap.size,1,none⟩=some (.string K3.2.1):=(Lib.cell_of_heap hUh 1).trans rfl
          have u2:U.cell? ⟨w3.heap.size,2,none⟩=some (.string K3.2.2):=(Lib.cell_of_heap hUh 2).trans rfl
          have HOU:=Lib.hid (ownsMapK_below HOa.out hbU)
          have HBU:=Lib.hid (below_up HBa.out hbU)
          obtain ⟨c,hrun,hat⟩:=lookup_bool HOU.out keyedK Tryz.underlying211 Tryz.underlying4 (Tryz.zeroValue4 _) hkey
          rw [seenK_at] at hat
          have HC:Hid (decide ((keyT K3).data.toList ∈ bytesOf (xs.take k))=c):=Lib.hid (by injection hat with h1;injection h1)
          have HX3:=Lib.hid hx
          have HK:=Lib.hid hkey
          clear hbU hUh hat hkey hx HOa HBa
          cases c with
          | true =>
           have E2:=Lib.hid (HY.out k _ HX3.out (of_decide_eq_true HC.out))
           have HBF:=Lib.hid (HBw1.out.trans (HBU.out.mono HBw1.out.size))
           go_upto_region 9 with fail
           rw [← HU.out]
           go_wp2_with fail
           go_ret
           exact ⟨by rw [E.out,E2.out];rfl,HBF.out⟩
          | false =>
           have HD':=Lib.hid (nodup_next xs k _ HX3.out HD.out (of_decide_eq_false HC.out))
           have hkm:k < maxLen:=by unfold maxLen;omega
           go_upto_region 9 with fail
           rw [← HU.out]
           go_wp2_with (at_mapUpdate;refine wpList_mapUpdate_own _ rfl _ _ _ 211 rfl 213 4 keyedK Tryz.underlying211 _ Z1.heap.size k (seenK xs k) rfl HOU.out hkm _ _ (.string (keyT K3).data.toList) rfl rfl HK.out (.lit (.bool true)) [] (plainElem_bool Tryz.underlying4 true) ?_;intro w4 ho hg)
           have HB':=Lib.hid (HBU.out.grown hg HBU.out.size (fun k h=>by cases h;exact Nat.le_refl _))
           rw [← seenK_next xs k _ HX3.out] at ho
           have HO':=Lib.hid ho
           clear ho hg u0 u1 u2 hrun
           go_wp2_with fail
           go_roundw
           case rel=>exact ⟨k+1,by omega,by go_num,HB',HO',HD'⟩
           case measure=>simp [intOf];omega
        · have hke:k=xs.length:=by have:=HKL.out;omega
          have E2:=Lib.hid (HNn.out (by rw [← hke];exact HD.out))
          have HBF:=Lib.hid (HBw1.out.trans (HB.out.mono HBw1.out.size))
          clear hke
          go_wp2_with fail
          go_ret
          exact ⟨by rw [E.out,E2.out];rfl,HBF.out⟩
end
section
open Go.RowKit Go.Shelf Go.Maps
abbrev TxtK:=List UInt8
theorem keySK (l:TxtK):WideAt.IsKeyLit (.string l):=by first | exact trivial | constructor | simp [WideAt.IsKeyLit]
def findT (xs:List ByteArray) (l:TxtK):Int:=firstAt (fun c=>decide (c.data.toList=l)) xs
theorem find_text (xs:List ByteArray) (s:ByteArray):findL xs s=findT xs s.data.toList:=rfl
theorem find_range (xs:List ByteArray) (l:TxtK):findT xs l=-1∨(0≤findT xs l∧findT xs l < (xs.length:Int)):=by
 unfold findT firstAt
 cases h:xs.findIdx? (fun c=>decide (c.data.toList=l)) with
 | none=>exact .inl rfl
 | some i =>
  obtain ⟨hi,_⟩:=List.findIdx?_eq_some_iff_getElem.1 h
  exact .inr ⟨by show (0:Int)≤(i:Int);omega,by show (i:Int) < _;omega⟩
theorem find_snoc (xs:List ByteArray) (x:ByteArray) (l:TxtK):findT (xs ++ [x]) l=if 0≤findT xs l then findT xs l else if x.data.toList=l then (xs.length:Int) else -1:=by
 unfold findT firstAt
 rw [List.findIdx?_append]
 cases h:xs.findIdx? (fun c=>decide (c.data.toList=l)) with
 | some i =>
  simp only [Option.some_or]
  rw [if_pos (by omega)]
 | none =>
  simp only [Option.none_or]
  rw [if_neg (by omega)]
  by_cases hx:x.data.toList=l
  · rw [if_pos hx];simp [List.findIdx?_cons,hx]
  · rw [if_neg hx];simp [List.findIdx?_cons,hx]
structure FirstsIs (D:DataW Unit) (xs:List ByteArray):Prop where
 tidy:Tidy D
 look:∀ l,D.atKey (.string l) (.lit (.int .i64 0))=.lit (.int .i64 (if 0≤findT xs l then findT xs l else 0))
 here:∀ l,has D (.string l)=decide (0≤findT xs l)
theorem FirstsIs.empty:FirstsIs (.map []) []:=⟨tidy_empty,fun z=>rfl,fun z=>rfl⟩
theorem FirstsIs.old {D:DataW Unit} {xs:List ByteArray} (h:FirstsIs D xs) (x:ByteArray) (hx:0≤findT xs x.data.toList):FirstsIs D (xs ++ [x]):=by
 have e:∀ l,findT (xs ++ [x]) l=findT xs l:=fun l=>by
  rw [find_snoc]
  by_cases h0:0≤findT xs l
  · rw [if_pos h0]
  · rw [if_neg h0]
    by_cases hl:x.data.toList=l
    · subst hl;exact absurd hx h0
    · rw [if_neg hl];rcases find_range xs l with h1 | h1
      · exact h1.symm
      · exact absurd h1.1 h0
 exact ⟨h.tidy,fun l=>by rw [e];exact h.look l,fun l=>by rw [e];exact h.here l⟩
theorem FirstsIs.put {D:DataW Unit} {xs:List ByteArray} (h:FirstsIs D xs) (x:ByteArray) (hx:¬ 0≤findT xs x.data.toList):FirstsIs (D.put (.string x.data.toList) (.lit (.int .i64 (xs.length:Int)))) (xs ++ [x]):=by
 refine ⟨h.tidy.put (keySK _) _,fun z=>?_,fun z=>?_⟩
 · by_cases e:z=x.data.toList
   · subst e
     rw [atKey_put_same h.tidy.isMap (keySK _),find_snoc,if_neg hx,if_pos rfl,if_pos (by omega)]
   · rw [atKey_put_other (fun e'=>e (by injection e')),h.look,find_snoc]
     by_cases h0:0≤findT xs z
     · rw [if_pos h0,if_pos h0,if_pos h0]
     · have e2:¬ x.data.toList=z:=fun e'=>e e'.symm
       simp [h0,e2]
 · by_cases e:z=x.data.toList
   · subst e
     rw [has_put_same h.tidy.isMap (keySK _),find_snoc,if_neg hx,if_pos rfl]
     exact (decide_eq_true (by omega)).symm
   · rw [has_put_other (fun e'=>e (by injection e')),h.here,find_snoc]
     by_cases h0:0≤findT xs z
     · rw [if_pos h0]
     · rw [if_neg h0,if_neg (fun e'=>e e'.symm)]
       simp only [h0,decide_false];rfl
theorem firsts_look {w:World} {b k:Nat} {D:DataW Unit} {xs:List ByteArray} (h:w.ownsMap Tryz.prog 9 (plainElem Tryz.prog 3) b k D) (hS:FirstsIs D xs) (x:ByteArray) (hx:x.size≤maxLen) :
 (Instr.lookup 95 (.map (some b)) (.string x) true).run Tryz.prog w=.ok (.tuple #[.int .i64 (if 0≤findL xs x then findL xs x else 0),.bool (decide (0≤findL xs x))]) w:=by
 obtain ⟨v,ps,hrun,hv⟩:=h.look_ok (string_keyed Tryz.underlying9) Tryz.underlying95 (z:=.int .i64 0) (Tryz.zeroValue3 _) (plainElem_int Tryz.underlying3 (by decide)) (Go.WideMaps.keyOf_string_mk Tryz.underlying9 hx)
 obtain ⟨c,rfl,hc,_⟩:=plainElem_int_inv Tryz.underlying3 hv
 simp only [Prod.mk.injEq] at hc
 rw [hS.look] at hc
 have e:(if 0≤findT xs x.data.toList then findT xs x.data.toList else 0)=c:=by have:=hc.1;injection this with h1;injection h1
 rw [hS.here] at hrun
 rw [find_text,e];exact hrun
theorem run_makeMap_hint (n:Int) (w:World):(Instr.makeMap 95 (some (.int .i64 n))).run Tryz.prog w=.ok (.map (some w.heap.size)) (w.alloc (.map #[] 0)):=by
 simp [Instr.makeMap,run_underlying Tryz.underlying95,asInt,newObj,go_sem]
 rfl
def FirstsOut (hd:List ByteArray) (w:World) (e:Ending) (w':World):Prop:=∃ (b kk:Nat) (D:DataW Unit),e=.returned (.map (some b))∧w.heap.size≤b∧w'.ownsMap Tryz.prog 9 (plainElem Tryz.prog 3) b kk D∧FirstsIs D hd∧Below w.heap.size w w'
theorem firsts_any (ao:Option Addr) (cap:Nat) (xs:List ByteArray) (w:World) (hn:xs.length≤1099511627776) (hs:∀ c ∈ xs,c.size≤maxLen) (hR:StrRow w ao xs) :
 Calls Tryz.prog 65 #[.slice ao xs.length cap] w (FirstsOut xs w):=by
 have HRo:=Lib.hid hR
 have HSo:=Lib.hid hs
 have hmm:=run_makeMap_hint
 clear hR hs
 go_enter Tryz.func65,Tryz.ntmps65
 go_wp2_with fail
 have HO:Hid ((w.alloc (.map #[] 0)).ownsMap Tryz.prog 9 (plainElem Tryz.prog 3) w.heap.size 0 (.map []:DataW Unit)):=Lib.hid (World.ownsMap_made w _ _ _)
 have HB:Hid (Below w.heap.size w (w.alloc (.map #[] 0))):=Lib.hid ((Below.refl _ w).alloc (Nat.le_refl _) _)
 go_loopw [13] (fun j wr=>∃ (k kk:Nat) (D:DataW Unit),k≤xs.length∧kk≤k∧j=.int .i64 k∧Hid (Below w.heap.size w wr)∧Hid (wr.ownsMap Tryz.prog 9 (plainElem Tryz.prog 3) w.heap.size kk D)∧Hid (FirstsIs D (xs.take k))) (fun j _=>xs.length - (intOf j).toNat)
 case atStart=>exact ⟨0,0,_,Nat.zero_le _,Nat.le_refl _,rfl,HB,HO,Lib.hid FirstsIs.empty⟩
 case round =>
  obtain ⟨k,kk,D,hk,hkk,rfl,HB,HO,HD⟩:=hrel
  by_cases hlt:k < xs.length
  · obtain ⟨x,hx⟩:∃ x,xs[k]?=some x:=⟨_,List.getElem?_eq_getElem hlt⟩
    have htk:xs.take (k+1)=xs.take k ++ [x]:=by rw [List.take_add_one,hx];rfl
    have htl:(xs.take k).length=k:=by rw [List.length_take];omega
    have HTK:=Lib.hid htk
    have HTL:=Lib.hid htl
    have hxs:=HSo.out x (List.mem_of_getElem? hx)
    have HXs:=Lib.hid hxs
    have hrun:=firsts_look HO.out HD.out x hxs
    rcases (HRo.out.kept HB.out) with h0 | ⟨A,rfl,hA,hcell⟩
    · rw [h0] at hlt;simp at hlt
    have hc:=hcell k x hx
    clear hcell hx htk htl hxs
    by_cases hf:0≤findL (xs.take k) x
    · rw [if_pos hf,decide_eq_true hf] at hrun
      have HD':Hid (FirstsIs D (xs.take (k+1))):=Lib.hid (by rw [HTK.out];exact HD.out.old x hf)
      obtain ⟨y,hy⟩:∃ y,y=findL (xs.take k) x:=⟨_,rfl⟩
      rw [← hy] at hrun
      clear hy hf
      go_wp2_with fail
      go_roundw
      case rel=>exact ⟨k+1,kk,D,by omega,by omega,by go_num,HB,HO,HD'⟩
      case measure=>simp [intOf];omega
    · rw [if_neg hf,decide_eq_false hf] at hrun
      have HD':Hid (FirstsIs (D.put (.string x.data.toList) (.lit (.int .i64 (k:Int)))) (xs.take (k+1))):=Lib.hid (by
       rw [HTK.out]
       have:=HD.out.put x hf
       rw [HTL.out] at this;exact this)
      have hkm:kk < maxLen:=by unfold maxLen;omega
      have HK:=Lib.hid (Go.WideMaps.keyOf_string_mk (P:=Tryz.prog) Tryz.underlying9 HXs.out)
      have HW:=Lib.hid (Go.WalkArith.wf_i64 (n:=(k:Int)) (by omega))
      clear hf
      go_wp2_with (at_mapUpdate;refine wpList_mapUpdate_own _ rfl _ _ _ 95 rfl 9 3 (string_keyed Tryz.underlying9) Tryz.underlying95 _ w.heap.size kk D rfl HO.out hkm _ _ (.string x.data.toList) rfl rfl HK.out (.lit (.int .i64 (k:Int))) [] (plainElem_int Tryz.underlying3 HW.out) ?_;intro w1 ho hg)
      have HB':=Lib.hid (HB.out.grown hg HB.out.size (fun k h=>by cases h;exact Nat.le_refl _))
      have HO':Hid (∃ kk',kk'≤k+1∧w1.ownsMap Tryz.prog 9 (plainElem Tryz.prog 3) w.heap.size kk' (D.put (.string x.data.toList) (.lit (.int .i64 (k:Int))))):=Lib.hid ⟨_,by first | omega | (split <;> omega),ho⟩
      obtain ⟨kk',hk',ho'⟩:=HO'.out
      have HO2:=Lib.hid ho'
      clear ho hg ho' HO'
      go_wp2_with fail
      go_roundw
      case rel=>exact ⟨k+1,kk',_,by omega,by omega,by go_num,HB',HO2,HD'⟩
      case measure=>simp [intOf];omega
  · have hke:k=xs.length:=by omega
    have HE:Hid (FirstsOut xs w (.returned (.map (some w.heap.size))) wr):=Lib.hid ⟨_,kk,D,rfl,Nat.le_refl _,HO.out,by have:=HD.out;rw [hke,List.take_length] at this;exact this,HB.out⟩
    go_wp2_with fail
    go_ret
    exact HE.out
end
section
open Go.RowKit Go.Shelf Go.Maps
def inAll (hd names:List ByteArray):Bool:=names.all fun s=>decide (0≤findL hd s)
def PlacesOut (hd names:List ByteArray) (w:World) (e:Ending) (w':World):Prop :=
 (inAll hd names=true∧∃ (ao:Option Addr) (cap:Nat),e=.returned (.tuple #[.slice ao names.length cap,.bool true])∧IntsAt w' ao (names.map (findL hd))∧names.length≤cap∧Below w.heap.size w w') ∨
 (inAll hd names=false∧e=.returned (.tuple #[.slice none 0 0,.bool false])∧Below w.heap.size w w')
def madeI (F:List Int) (k:Nat):List Int:=F.take k ++ List.replicate (F.length - k) 0
theorem made_zero (F:List Int):madeI F 0=List.replicate F.length 0:=by simp [madeI]
theorem made_all (F:List Int):madeI F F.length=F:=by simp [madeI]
theorem made_len (F:List Int) (k:Nat) (h:k≤F.length):(madeI F k).length=F.length:=by simp [madeI];omega
theorem made_next (F:List Int) (k:Nat) (p:Int) (h:F[k]?=some p):(madeI F k).set k p=madeI F (k+1):=by
 obtain ⟨hk,e⟩:=List.getElem?_eq_some_iff.1 h
 unfold madeI
 rw [List.set_append_right _ _ (by simp;omega),List.length_take,Nat.min_eq_left (by omega),Nat.sub_self,List.take_succ_eq_append_getElem hk,e]
 have:F.length - k=(F.length - (k+1))+1:=by omega
 rw [this,List.replicate_succ];simp
theorem grownK_put (w:World) (g i:Nat) (v:Value):w.grownBy (w.setCell ⟨g,i,none⟩ v) (some g) :=
 ⟨rfl,rfl,rfl,by simp,fun k _ hne=>heap_setCell_other w ⟨g,i,none⟩ k v (fun e=>hne (by rw [e]))⟩
def cellsI (l:List Int):Array Value:=(l.map (Value.int .i64)).toArray
theorem cellsI_set (l:List Int) (k:Nat) (p:Int):(cellsI l).setIfInBounds k (.int .i64 p)=cellsI (l.set k p):=by
 unfold cellsI
 rw [List.setIfInBounds_toArray,List.map_set]
theorem ints_block {W:World} {B:Nat} {l:List Int} {T:TypeId} {fr:Nat × Nat} (h:W.heap[B]?=some (.cells (cellsI l) T fr)):IntsAt W (some ⟨B,0,none⟩) l :=
 .inr ⟨_,rfl,lt_of_heap h,fun i p hp=>by rw [cell_row h];simp [cellsI,hp]⟩
theorem make_ints (n:Nat) (hn:n≤1099511627776) (W:World):(Instr.makeSlice 41 (.int .i64 (n:Int)) (.int .i64 (n:Int))).run Tryz.prog W=.ok (.slice (some ⟨W.heap.size,0,none⟩) n n) (W.alloc (.cells (cellsI (List.replicate n 0)) 3)):=by
 have e:cellsI (List.replicate n 0)=madeCells #[.int .i64 0] n:=by
  apply Array.ext'
  symm
  unfold cellsI
  simp only [List.map_replicate]
  refine List.eq_replicate_iff.2 ⟨by simp [size_madeCells],fun b hb=>?_⟩
  simp only [madeCells,Array.toList_map,List.mem_map] at hb
  obtain ⟨i,_,hi⟩:=hb
  simp at hi
  rw [← hi,Nat.mod_one];rfl
 rw [e]
 exact run_make_row' (P:=Tryz.prog) 41 3 (.int .i64 0) 8 Tryz.underlying41 (by kernel_rfl) rfl .i64 .i64 n (by omega) (by omega) W
theorem places_any (ho:Option Addr) (hc:Nat) (hd:List ByteArray) (ro:Option Addr) (rn rc:Nat) (ao:Option Addr) (cap:Nat) (names:List ByteArray) (w:World) (hn:hd.length≤1099511627776) (hs:∀ c ∈ hd,c.size≤maxLen) (hn2:names.length≤1099511627776) (hs2:∀ c ∈ names,c.size≤maxLen) (hH:StrRow w ho hd) (hR:StrRow w ao names) :
 Calls Tryz.prog 22 #[.agg #[.slice ho hd.length hc,.slice ro rn rc],.slice ao names.length cap] w (PlacesOut hd names w):=by
 obtain ⟨V,HV⟩:∃ V,Hid (V=w.alloc (TabO ho hd.length hc ro rn rc)):=⟨_,Lib.hid rfl⟩
 have HB:=Lib.hid (show Below w.heap.size w V by rw [HV.out];exact one_below w _)
 have HRo:=Lib.hid hR
 have HSo:=Lib.hid hs2
 have CF:=Lib.hid (firsts_any ho hc hd V hn hs (hH.kept HB.out))
 obtain ⟨F,HF⟩:∃ F,Hid (F=names.map (findL hd)):=⟨_,Lib.hid rfl⟩
 have HFl:Hid (F.length=names.length):=Lib.hid (by rw [HF.out];simp)
 clear hR hs2 hH hs
 go_enter Tryz.func22,Tryz.ntmps22
 go_wp2_with fail
 rw [← HV.out]
 refine CF.out.mono ?_
 rintro e w1 ⟨b,kk,D,rfl,hb,hO,hD,hB1⟩
 have HO:=Lib.hid hO
 have HD:=Lib.hid hD
 have HB1:=Lib.hid (below_up HB.out hB1)
 clear hO hD hB1 CF
 have hmk:=make_ints names.length hn2 w1
 obtain ⟨U,HU⟩:∃ U,Hid (U=w1.alloc (.cells (cellsI (List.replicate names.length 0)) 3)):=⟨_,Lib.hid rfl⟩
 have hbU:Below w1.heap.size w1 U:=by rw [HU.out];exact one_below w1 _
 have HBU:=Lib.hid (below_up HB1.out hbU)
 have HOU:=Lib.hid (ownsMapK_below HO.out hbU)
 have HC0:Hid (U.heap[w1.heap.size]?=some (.cells (cellsI (madeI F 0)) 3 (0,0))):=Lib.hid (by rw [HU.out,made_zero,HFl.out];exact World.alloc_heap_new _ _)
 have HbV:=Lib.hid (HU.out)
 have hlb:b < w1.heap.size:=HO.out.lt
 clear hbU HO
 go_wp2_with fail
 rw [← HU.out]
 go_loopw [20] (fun j wr=>∃ k:Nat,k≤names.length∧j=.int .i64 k∧Hid (wr.heap[w1.heap.size]?=some (.cells (cellsI (madeI F k)) 3 (0,0)))∧Hid (wr.ownsMap Tryz.prog 9 (plainElem Tryz.prog 3) b kk D)∧Hid (Below w.heap.size w wr)∧Hid (∀ (i:Nat) c,i < k→names[i]?=some c→0≤findL hd c)) (fun j _=>names.length - (intOf j).toNat)
 case atStart=>exact ⟨0,Nat.zero_le _,rfl,HC0,HOU,HBU,Lib.hid (fun i c h=>by omega)⟩
 case round =>
  obtain ⟨k,hk,rfl,HC,HOr,HBr,HA⟩:=hrel
  clear HC0 HOU HBU hmk
  by_cases hlt:k < names.length
  · obtain ⟨x,hx⟩:∃ x,names[k]?=some x:=⟨_,List.getElem?_eq_getElem hlt⟩
    have HX:=Lib.hid hx
    have hrun:=firsts_look HOr.out HD.out x (HSo.out x (List.mem_of_getElem? hx))
    rcases (HRo.out.kept HBr.out) with h0 | ⟨A,rfl,hA,hcell⟩
    · rw [h0] at hlt;simp at hlt
    have hc1:=hcell k x hx
    clear hcell hx
    by_cases hf:0≤findL hd x
    · rw [if_pos hf,decide_eq_true hf] at hrun
      have HA':Hid (∀ (i:Nat) c,i < k+1→names[i]?=some c→0≤findL hd c):=Lib.hid (fun i c hi hc=>by
       by_cases h:i=k
       · subst h;rw [HX.out] at hc;cases hc;exact hf
       · exact HA.out i c (by omega) hc)
      have HFk:Hid (F[k]?=some (findL hd x)):=Lib.hid (by rw [HF.out,List.getElem?_map,HX.out];rfl)
      obtain ⟨y,hy⟩:∃ y,y=findL hd x:=⟨_,rfl⟩
      rw [← hy] at hrun HFk
      have hsz:k < (cellsI (madeI F k)).size:=by
       unfold cellsI;rw [List.size_toArray,List.length_map,made_len F k (by rw [HFl.out];omega),HFl.out];exact hlt
      have kc:wr.cell? ⟨w1.heap.size,k,none⟩=some (cellsI (madeI F k))[k]:=(Lib.cell_of_heap HC.out k).trans (Array.getElem?_eq_getElem hsz)
      have kf:wr.frozen? ⟨w1.heap.size,k,none⟩=false:=frozen_free HC.out k
      have HC':Hid ((wr.setCell ⟨w1.heap.size,k,none⟩ (.int .i64 y)).heap[w1.heap.size]?=some (.cells (cellsI (madeI F (k+1))) 3 (0,0))):=Lib.hid (by rw [heap_set _ HC.out,cellsI_set,made_next F k y HFk.out])
      have HO':Hid ((wr.setCell ⟨w1.heap.size,k,none⟩ (.int .i64 y)).ownsMap Tryz.prog 9 (plainElem Tryz.prog 3) b kk D):=Lib.hid (HOr.out.kept (row:=some w1.heap.size) (grownK_put wr _ _ _) (fun h=>by cases h;omega))
      have HB':Hid (Below w.heap.size w (wr.setCell ⟨w1.heap.size,k,none⟩ (.int .i64 y))):=Lib.hid (HBr.out.setCell (p:=⟨w1.heap.size,k,none⟩) (by have:=HB1.out.size;simpa using this) _)
      obtain ⟨u,hu⟩:∃ u,u=(cellsI (madeI F k))[k]:=⟨_,rfl⟩
      rw [← hu] at kc
      clear hy hf hu hsz HC HOr HBr
      go_wp2_with fail
      go_roundw
      case rel=>exact ⟨k+1,by omega,by go_num,HC',HO',HB',HA'⟩
      case measure=>simp [intOf];omega
    · rw [if_neg hf,decide_eq_false hf] at hrun
      have HE:Hid (PlacesOut hd names w (.returned (.tuple #[.slice none 0 0,.bool false])) wr):=Lib.hid (.inr ⟨by
       unfold inAll
       rw [List.all_eq_false]
       exact ⟨x,List.mem_of_getElem? HX.out,by simpa using hf⟩,rfl,HBr.out⟩)
      clear hf HC HOr HBr
      go_wp2_with fail
      refine bodyPost_ret (v:=.tuple #[.slice none 0 0,.bool false]) (by simp [results,Tryz.results22,go_sem]) rfl ?_
      exact HE.out
  · have hke:k=names.length:=by omega
    have HE:Hid (PlacesOut hd names w (.returned (.tuple #[.slice (some ⟨w1.heap.size,0,none⟩) names.length names.length,.bool true])) wr):=Lib.hid (.inl ⟨by
     unfold inAll
     rw [List.all_eq_true]
     intro c hc
     obtain ⟨i,hi,rfl⟩:=List.mem_iff_getElem.1 hc
     exact decide_eq_true (HA.out i _ (by omega) (List.getElem?_eq_getElem hi)),_,_,rfl,by
     have:=ints_block HC.out
     rw [hke,← HFl.out,made_all,HF.out] at this
     exact this,Nat.le_refl _,HBr.out⟩)
    clear HC HOr HBr hke
    go_wp2_with fail
    refine bodyPost_ret (v:=.tuple #[.slice (some ⟨w1.heap.size,0,none⟩) names.length names.length,.bool true]) (by simp [results,Tryz.results22,go_sem]) rfl ?_
    exact HE.out
end
end Go.Proofs.YtdenehnneloegaaGreatDoor
