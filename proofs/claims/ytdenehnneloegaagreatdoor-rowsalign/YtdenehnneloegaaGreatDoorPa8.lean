/-
  Texts of these rows' proofs, laid one behind the other: PPutR, PThroughR, PRests, PMathD, PSym1, PSym2, PRot.
  Conditions: those of each theorem.
-/
import Derived.WalkKit
import Derived.WalkMore
import Derived.IntWalk
import Derived.OwnWalk
import Derived.StillTailTactics
import Derived.BigQuiet
import Derived.Deep.QuietTactic
import Derived.Lib.Hide
import Derived.Deep.Cut
import Derived.Deep.Onto
import Derived.Test.YtdenehnneloegaaGreatDoorProg
import Derived.Test.YtdenehnneloegaaGreatDoorPa6
import Derived.WalkArith
import Derived.Deep.RegionHeld3
import Derived.RegionTactic
import Derived.BigRegion
import Derived.Test.YtdenehnneloegaaGreatDoorPa5
namespace Go.Proofs.YtdenehnneloegaaGreatDoor
set_option linter.unusedVariables false
set_option maxRecDepth 100000
set_option maxHeartbeats 8000000
section
open Go.RowKit Go.Shelf
theorem cellsP_inv (L:PL) (j:Nat) (u:Value) (h:(cellsP L)[j]?=some u):∃ i p,L[i]?=some p∧((j=i * 2∧u=.int .i64 p.1)∨(j=i * 2+1∧u=.int .i64 p.2)):=by
 have hj:=(List.getElem?_eq_some_iff.1 h).1
 rw [cellsP_length] at hj
 obtain ⟨p,hp⟩:∃ p,L[j / 2]?=some p:=⟨_,List.getElem?_eq_getElem (by omega)⟩
 obtain ⟨c1,c2⟩:=cellsP_at L (j / 2) p hp
 rcases Nat.mod_two_eq_zero_or_one j with e | e
 · refine ⟨j / 2,p,hp,.inl ⟨by omega,?_⟩⟩
   rw [show j / 2 * 2=j from by omega,h] at c1;exact Option.some.inj c1
 · refine ⟨j / 2,p,hp,.inr ⟨by omega,?_⟩⟩
   rw [show j / 2 * 2+1=j from by omega,h] at c2;exact Option.some.inj c2
theorem pairs_cells {w:World} {b o:Nat} {L:PL} (h:PairsAt w (some ⟨b,o,none⟩) L):∀ (j:Nat) u,(cellsP L)[j]?=some u→w.cell? ((⟨b,o,none⟩:Addr).add j)=some u:=fun j u hu=>by
 have e:(⟨b,o,none⟩:Addr).add j=⟨b,o+j,none⟩:=by unfold Addr.add;split <;> simp_all
 rw [e]
 rcases h with rfl | ⟨b',o',h1,_,h3⟩
 · simp [cellsP] at hu
 · cases h1
   obtain ⟨i,p,hp,⟨rfl,rfl⟩ | ⟨rfl,rfl⟩⟩:=cellsP_inv L j u hu
   · exact (h3 i p hp).1
   · exact (h3 i p hp).2
theorem PairsAt.rest {w:World} {b o:Nat} {L:PL} (h:PairsAt w (some ⟨b,o,none⟩) L) (k:Nat):PairsAt w (some ⟨b,o+k * 2,none⟩) (L.drop k):=by
 rcases h with rfl | ⟨b',o',h1,h2,h3⟩
 · exact .inl (by simp)
 · cases h1
   refine .inr ⟨b,o+k * 2,rfl,h2,fun i p hp=>?_⟩
   rw [List.getElem?_drop] at hp
   have:=h3 (k+i) p hp
   rw [show o+k * 2+i * 2=o+(k+i) * 2 from by omega]
   exact this
theorem PairsAt.front {w:World} {ao:Option Addr} {l:PL} (h:PairsAt w ao l) (k:Nat):PairsAt w ao (l.take k):=by
 rcases h with h | ⟨b,o,h1,h2,h3⟩
 · exact .inl (by rw [h];simp)
 · exact .inr ⟨b,o,h1,h2,fun i p hp=>h3 i p (by rw [List.getElem?_take] at hp;split at hp;exact hp;cases hp)⟩
theorem cellsP_ones (L:PL):∀ u ∈ cellsP L,u.oneCell'=true:=fun u hu=>by
 obtain ⟨i,hi,rfl⟩:=List.getElem_of_mem hu
 obtain ⟨j,p,_,⟨_,e⟩ | ⟨_,e⟩⟩:=cellsP_inv L i _ (List.getElem?_eq_getElem hi)
 · rw [e];rfl
 · rw [e];rfl
theorem putK_next (p:Int × Int) (l:PL) (k:Nat) (q:Int × Int) (h:l[k]?=some q):putK p (l.take (k+1))=if q.2≤p.2 then k+1 else putK p (l.take k):=by
 obtain ⟨hk,e⟩:=List.getElem?_eq_some_iff.1 h
 rw [List.take_succ_eq_append_getElem hk,e]
 have key:∀ (m:PL),putK p (m ++ [q])=if q.2≤p.2 then m.length+1 else putK p m:=fun m=>by
  induction m with
  | nil=>simp [putK]
  | cons x m ih =>
   simp only [List.cons_append,putK,ih]
   by_cases hq:q.2≤p.2
   · simp [hq]
   · simp [hq]
 rw [key]
 simp [show min k l.length=k from by omega]
theorem own_newP (w:World) (base:Nat) (hb:base≤w.heap.size):(w.alloc (.cells #[] 45)).ownsRow base 45 2 (.slice (some ⟨w.heap.size,0,none⟩) 0 0) 0 []:=by
 refine ⟨rfl,.inr ⟨w.heap.size,0,#[],rfl,hb,World.alloc_heap_new _ _,Nat.le_refl _,by unfold maxLen;omega,rfl,rfl⟩⟩
theorem rput_any (lo:Option Addr) (lc:Nat) (L:PL) (p1 p2:Int) (w:World) (hn:L.length≤1073741823) (hc:L.length≤lc) (hnil:lo=none→lc=0) (hne:L=[]→lo=none) (hR:PairsAt w lo L) :
 Calls Tryz.prog 55 #[.slice lo L.length lc,.agg #[.int .i64 p1,.int .i64 p2]] w (PairsOut (putB L (p1,p2)) w):=by
 have hinfo:(Tryz.prog.info? 45).map (fun i=>(i.zero,i.size,i.bytes))=some (some (.agg #[.int .i64 0,.int .i64 0]),2,16):=by kernel_rfl
 obtain ⟨i0,hi,hz0,hz1,hz2⟩:=info_parts2 hinfo
 have HI:=Lib.hid hi
 have HRo:=Lib.hid hR
 obtain ⟨V,HV⟩:∃ V,Hid (V=w.alloc (.cells #[.int .i64 p1,.int .i64 p2] 45)):=⟨_,Lib.hid rfl⟩
 have hVh:V.heap[w.heap.size]?=some (.cells #[.int .i64 p1,.int .i64 p2] 45 (0,0)):=by rw [HV.out];exact World.alloc_heap_new _ _
 have HVh:=Lib.hid hVh
 have HVB:Hid (Below w.heap.size w V):=Lib.hid (by rw [HV.out];exact (Below.refl _ w).alloc (Nat.le_refl _) _)
 have HBox:Hid (∀ W,Below V.heap.size V W→W.cell? ⟨w.heap.size,0,none⟩=some (.int .i64 p1)∧W.cell? ⟨w.heap.size,1,none⟩=some (.int .i64 p2)):=Lib.hid (fun W h=>by
  have:=(h.block _ (lt_of_heap HVh.out)).trans HVh.out
  exact ⟨(Lib.cell_of_heap this 0).trans rfl,(Lib.cell_of_heap this 1).trans rfl⟩)
 have HPA:Hid (∀ W,Below V.heap.size V W→PairsAt W lo L):=Lib.hid (fun W h=>HRo.out.kept (below_up HVB.out h))
 have HK:=Lib.hid (putK_next (p1,p2) L)
 have HKl:=Lib.hid (putK_le (p1,p2) L)
 have HPB:Hid (putB L (p1,p2)=L.take (putK (p1,p2) L) ++ (p1,p2) :: L.drop (putK (p1,p2) L)):=Lib.hid rfl
 have hK0:putK (p1,p2) (L.take 0)=0:=rfl
 have HKa:Hid (putK (p1,p2) (L.take L.length)=putK (p1,p2) L):=Lib.hid (by rw [List.take_length])
 have HKb:Hid (∀ k,putK (p1,p2) (L.take k)≤L.length):=Lib.hid (fun k=>Nat.le_trans (putK_le _ _) (by rw [List.length_take];omega))
 clear hi hinfo hR hVh
 go_enter Tryz.func55,Tryz.ntmps55
 go_upto_region 1 with fail
 rw [← HV.out]
 go_wp2_with fail
 go_loopw [5,6] (fun u v wr=>∃ (k q:Nat),k≤L.length∧q≤L.length∧u=.int .i64 q∧v=.int .i64 k∧Hid (q=putK (p1,p2) (L.take k))∧Hid (Below V.heap.size V wr)) (fun _ v _=>L.length - (intOf v).toNat)
 case atStart=>exact ⟨0,0,Nat.zero_le _,Nat.zero_le _,rfl,rfl,Lib.hid hK0.symm,Lib.hid (Below.refl _ _)⟩
 case round =>
  obtain ⟨k,q,hk,hq,rfl,rfl,HQ,HB⟩:=hrel
  obtain ⟨x0,x1⟩:=HBox.out wr HB.out
  by_cases hlt:k < L.length
  · obtain ⟨⟨y1,y2⟩,hy⟩:∃ y,L[k]?=some y:=⟨_,List.getElem?_eq_getElem hlt⟩
    have hst:=HK.out k _ hy
    rcases HPA.out wr HB.out with h0 | ⟨b,o,rfl,hA,hcell⟩
    · rw [h0] at hlt;simp at hlt
    obtain ⟨_,hd2⟩:=hcell k _ hy
    dsimp only at hd2 hst
    clear hcell hy
    by_cases hle:y2≤p2
    · rw [if_pos hle] at hst
      have HQ2:Hid (k+1=putK (p1,p2) (L.take (k+1))):=Lib.hid hst.symm
      clear hst
      go_wp2_with fail
      go_quiet (fail)
      have HB2:Hid (Below V.heap.size V (wr.drewN nq)):=Lib.hid (bdn HB.out)
      go_wp2_with fail
      go_roundw
      case rel=>exact ⟨k+1,k+1,by omega,by omega,by go_num,by go_num,HQ2,HB2⟩
      case measure=>simp [intOf];omega
    · rw [if_neg hle,← HQ.out] at hst
      have HQ2:Hid (q=putK (p1,p2) (L.take (k+1))):=Lib.hid hst.symm
      clear hst
      go_wp2_with fail
      go_quiet (fail)
      have HB2:Hid (Below V.heap.size V (wr.drewN nq)):=Lib.hid (bdn HB.out)
      go_wp2_with fail
      go_roundw
      case rel=>exact ⟨k+1,q,by omega,hq,rfl,by go_num,HQ2,HB2⟩
      case measure=>simp [intOf];omega
  · obtain rfl:k=L.length:=by omega
    have hqk:q=putK (p1,p2) L:=by rw [HQ.out,HKa.out]
    have HPB2:Hid (putB L (p1,p2)=L.take q ++ (p1,p2) :: L.drop q):=Lib.hid (by rw [HPB.out,hqk])
    clear hlt HQ hqk HPB HK HKl HKa HKb
    by_cases h0:L=[]
    · subst h0
      have hlo:=hne rfl
      subst hlo
      have hlc:=hnil rfl
      subst hlc
      have hq0:q=0:=by simp at hq;exact hq
      subst hq0
      have hws:w.heap.size≤wr.heap.size:=Nat.le_trans HVB.out.size HB.out.size
      have HO1:=Lib.hid (own_newP wr w.heap.size hws)
      have b1:Below wr.heap.size wr (wr.alloc (.cells #[] 45)):=(Below.refl _ wr).alloc (Nat.le_refl _) _
      have HB1:=Lib.hid (below_up HB.out b1)
      have hbs:w.heap.size≤(wr.alloc (.cells #[] 45)).heap.size:=by simp;omega
      clear b1 hne hnil
      go_wp2_with (at_builtin;refine wpList_append_any rfl _ _ 26 rfl w.heap.size 45 i0 (.agg #[.int .i64 0,.int .i64 0]) 2 16 Tryz.underlying26 HI.out hz0 hz1 hz2 rfl (by decide) _ _ _ rfl HO1.out none 0 0 [] rfl (fun h=>⟨rfl,rfl⟩) rfl (fun ad h=>by cases h) (fun u hu=>by cases hu) (by unfold maxLen;omega) (by omega) hbs ?_)
      intro v1 w2 ho1 hg1
      obtain ⟨ao1,cp1,rfl⟩:=own_slice ho1
      have b2:Below w.heap.size w w2:=((show Below w.heap.size w (wr.alloc (.cells #[] 45)) from below_up HVB.out HB1.out)).grown hg1 hbs (fun k h=>by cases h;exact hws)
      have bV2:Below V.heap.size V w2:=HB1.out.grown hg1 (by have:=HB.out.size;simp;omega) (fun k h=>by cases h;exact HB.out.size)
      obtain ⟨x0',x1'⟩:=HBox.out w2 bV2
      have HB2:=Lib.hid b2
      have HO2:=Lib.hid (ho1.alloc (.cells #[Value.int .i64 p1,Value.int .i64 p2] 45))
      have HO2':=Lib.hid ho1
      have hw2:w.heap.size≤w2.heap.size:=b2.size
      have hbs2:w.heap.size≤(w2.alloc (.cells #[Value.int .i64 p1,Value.int .i64 p2] 45)).heap.size:=by simp;omega
      clear ho1 hg1 b2 bV2 HO1 hbs x0 x1
      go_wp2_with (at_builtin;refine wpList_append_own _ rfl _ _ 26 rfl w.heap.size 45 i0 (.agg #[.int .i64 0,.int .i64 0]) 2 16 Tryz.underlying26 HI.out hz0 hz1 hz2 rfl (by decide) _ _ _ rfl HO2.out ⟨w2.heap.size,0,none⟩ 1 1 [Value.int .i64 p1,Value.int .i64 p2] rfl rfl (lit_cellP w2 _ _ _) (fun u hu=>by simp at hu;rcases hu with rfl | rfl <;> rfl) (by unfold maxLen;omega) (by omega) hbs2 ?_)
      intro v2 w3 ho2 hg2 _
      obtain ⟨ao2,cp2,rfl⟩:=own_slice ho2
      have b3:Below w.heap.size w w3:=own_grownI HB2.out hw2 HO2'.out hg2
      have HB3:=Lib.hid b3
      have HO3:=Lib.hid ho2
      have hw3:w.heap.size≤w3.heap.size:=b3.size
      clear ho2 hg2 b3
      go_wp2_with (at_builtin;refine wpList_append_any rfl _ _ 26 rfl w.heap.size 45 i0 (.agg #[.int .i64 0,.int .i64 0]) 2 16 Tryz.underlying26 HI.out hz0 hz1 hz2 rfl (by decide) _ _ _ rfl HO3.out none 0 0 [] rfl (fun h=>⟨rfl,rfl⟩) rfl (fun ad h=>by cases h) (fun u hu=>by cases hu) (by unfold maxLen;omega) (by omega) hw3 ?_)
      intro v3 w4 ho3 hg3
      have b4:Below w.heap.size w w4:=HB3.out.grown hg3 hw3 (fun k h=>(HO3.out.lt k h).1)
      have HE:Hid (OwnL w4 w.heap.size v3 (putB [] (p1,p2))):=Lib.hid (by
       unfold OwnL
       simpa [putB,putK,cellsP] using ho3)
      have HE2:=Lib.hid (OwnL.end_ HE.out b4)
      obtain ⟨ao3,cp3,rfl⟩:=own_slice ho3
      clear ho3 hg3 b4 HE
      go_wp2_with fail
      go_ret
      exact HE2.out
    · rcases HPA.out wr HB.out with h | ⟨b,o,rfl,hA,hcell⟩
      · exact absurd h h0
      clear hcell
      have hlp:0 < L.length:=List.length_pos_iff.2 h0
      have hws:w.heap.size≤wr.heap.size:=Nat.le_trans HVB.out.size HB.out.size
      have HO1:=Lib.hid (own_newP wr w.heap.size hws)
      have b1:Below wr.heap.size wr (wr.alloc (.cells #[] 45)):=(Below.refl _ wr).alloc (Nat.le_refl _) _
      have HP1:=Lib.hid ((HPA.out _ (below_up HB.out b1)).front q)
      have HB1:=Lib.hid (below_up HB.out b1)
      have htl:(L.take q).length=q:=by rw [List.length_take];omega
      have hcl:(cellsP (L.take q)).length=q * 2:=by rw [cellsP_length,htl]
      have hbs:w.heap.size≤(wr.alloc (.cells #[] 45)).heap.size:=by simp;omega
      clear b1
      go_wp2_with (at_builtin;refine wpList_append_any rfl _ _ 26 rfl w.heap.size 45 i0 (.agg #[.int .i64 0,.int .i64 0]) 2 16 Tryz.underlying26 HI.out hz0 hz1 hz2 rfl (by decide) _ _ _ rfl HO1.out (some ⟨b,o,none⟩) q lc (cellsP (L.take q)) rfl (fun h=>by cases h) hcl (fun ad h=>by cases h;exact pairs_cells HP1.out) (cellsP_ones _) (by unfold maxLen;omega) (by omega) hbs ?_)
      intro v1 w2 ho1 hg1
      obtain ⟨ao1,cp1,rfl⟩:=own_slice ho1
      have b2:Below w.heap.size w w2:=((show Below w.heap.size w (wr.alloc (.cells #[] 45)) from below_up HVB.out HB1.out)).grown hg1 hbs (fun k h=>by cases h;exact hws)
      have bV2:Below V.heap.size V w2:=HB1.out.grown hg1 (by have:=HB.out.size;simp;omega) (fun k h=>by cases h;exact HB.out.size)
      obtain ⟨x0',x1'⟩:=HBox.out w2 bV2
      have HB2:=Lib.hid b2
      have HBV2:=Lib.hid bV2
      have HO2:=Lib.hid (ho1.alloc (.cells #[Value.int .i64 p1,Value.int .i64 p2] 45))
      have HO2':=Lib.hid ho1
      have hw2:w.heap.size≤w2.heap.size:=b2.size
      have hbs2:w.heap.size≤(w2.alloc (.cells #[Value.int .i64 p1,Value.int .i64 p2] 45)).heap.size:=by simp;omega
      clear ho1 hg1 b2 bV2 HO1 HP1 hbs x0 x1
      go_wp2_with (at_builtin;refine wpList_append_own _ rfl _ _ 26 rfl w.heap.size 45 i0 (.agg #[.int .i64 0,.int .i64 0]) 2 16 Tryz.underlying26 HI.out hz0 hz1 hz2 rfl (by decide) _ _ _ rfl HO2.out ⟨w2.heap.size,0,none⟩ 1 1 [Value.int .i64 p1,Value.int .i64 p2] rfl rfl (lit_cellP w2 _ _ _) (fun u hu=>by simp at hu;rcases hu with rfl | rfl <;> rfl) (by unfold maxLen;omega) (by omega) hbs2 ?_)
      intro v2 w3 ho2 hg2 _
      obtain ⟨ao2,cp2,rfl⟩:=own_slice ho2
      have b3:Below w.heap.size w w3:=own_grownI HB2.out hw2 HO2'.out hg2
      have HB3:=Lib.hid b3
      have HO3:=Lib.hid ho2
      have hw3:w.heap.size≤w3.heap.size:=b3.size
      clear ho2 hg2 b3
      by_cases hql:q=lc
      · have hqL:q=L.length:=by omega
        have hdr:L.drop q=[]:=List.drop_eq_nil_of_le (by omega)
        have HDr:=Lib.hid hdr
        have hql3:lc=q:=hql.symm
        subst hql3
        have hlq:L.length=lc:=hqL.symm
        rw [hlq] at hq
        clear hdr hqL
        go_wp2_with (at_builtin;refine wpList_append_any rfl _ _ 26 rfl w.heap.size 45 i0 (.agg #[.int .i64 0,.int .i64 0]) 2 16 Tryz.underlying26 HI.out hz0 hz1 hz2 rfl (by decide) _ _ _ rfl HO3.out (some _) 0 _ [] rfl (fun h=>by cases h) rfl (fun ad h j u hu=>by simp at hu) (fun u hu=>by cases hu) (by unfold maxLen;omega) (by omega) hw3 ?_)
        intro v3 w4 ho3 hg3
        have b4:Below w.heap.size w w4:=HB3.out.grown hg3 hw3 (fun k h=>(HO3.out.lt k h).1)
        have HE:Hid (OwnL w4 w.heap.size v3 (putB L (p1,p2))):=Lib.hid (by
         unfold OwnL
         rw [HPB2.out,cellsP_app,cellsP_cons]
         have hlen:(L.take lc ++ (p1,p2) :: L.drop lc).length=lc+1+0:=by simp;omega
         rw [hlen]
         rw [HDr.out];simpa [cellsP] using ho3)
        have HE2:=Lib.hid (OwnL.end_ HE.out b4)
        obtain ⟨ao3,cp3,rfl⟩:=own_slice ho3
        clear ho3 hg3 b4 HE
        go_wp2_with fail
        go_ret
        exact HE2.out
      · have hql2:q < lc:=by omega
        have hnq:(q:Int)≤(lc:Int):=by omega
        have HP3:=Lib.hid ((HRo.out.kept HB3.out).rest q)
        have hdl:(L.drop q).length=L.length - q:=List.length_drop ..
        have hcl2:(cellsP (L.drop q)).length=(L.length - q) * 2:=by rw [cellsP_length,hdl]
        go_wp2_with (at_builtin;refine wpList_append_any rfl _ _ 26 rfl w.heap.size 45 i0 (.agg #[.int .i64 0,.int .i64 0]) 2 16 Tryz.underlying26 HI.out hz0 hz1 hz2 rfl (by decide) _ _ _ rfl HO3.out (some ⟨b,o+q * 2,none⟩) (L.length - q) _ (cellsP (L.drop q)) rfl (fun h=>by cases h) hcl2 (fun ad h=>by cases h;exact pairs_cells HP3.out) (cellsP_ones _) (by unfold maxLen;omega) (by omega) hw3 ?_)
        intro v3 w4 ho3 hg3
        have b4:Below w.heap.size w w4:=HB3.out.grown hg3 hw3 (fun k h=>(HO3.out.lt k h).1)
        have HE:Hid (OwnL w4 w.heap.size v3 (putB L (p1,p2))):=Lib.hid (by
         unfold OwnL
         rw [HPB2.out,cellsP_app,cellsP_cons]
         have hlen:(L.take q ++ (p1,p2) :: L.drop q).length=q+1+(L.length - q):=by simp;omega
         rw [hlen]
         simpa using ho3)
        have HE2:=Lib.hid (OwnL.end_ HE.out b4)
        obtain ⟨ao3,cp3,rfl⟩:=own_slice ho3
        clear ho3 hg3 b4 HE
        go_wp2_with fail
        go_ret
        exact HE2.out
end
section
open Go.RowKit Go.Shelf Go.Maps
theorem step_append_any {P:Program} {w:World} {ops:Array Oper} {o:Oper} {a:Act} {K:Act→World→Prop} {Q:Exit→Act→World→Prop} {E:Prop} (hgd:o.guard=none) (s x:Operand) (t:TypeId)
 (ho:o.op=.call { callee:=.builtin .append,args:=#[s,x],argTypes:=#[t,t] })
 (base:Nat) (e:TypeId) (i:TypeInfo) (z:Value) (size bytes:Nat) (ht:P.underlying t=some (.slice e)) (hi:P.info? e=some i) (hz:i.zero=some z)
 (hsize:i.size=size) (hby:i.bytes=bytes) (hzs:z.cells.size=size) (hsz:0 < size)
 (v:Value) (n:Nat) (xs:List Value) (hs:a.eval s=v) (hown:w.ownsRow base e size v n xs)
 (xo:Option Addr) (m c:Nat) (news:List Value) (hx:a.eval x=.slice xo m c) (hnone:xo=none→m=0∧c=0) (hl:news.length=m * size) (hnews:∀ ad,xo=some ad→∀ (j:Nat) u,news[j]?=some u→w.cell? (ad.add j)=some u) (h1:∀ u ∈ news,u.oneCell'=true)
 (h63:n+m≤maxLen) (hbytes:(n+m) * bytes≤140737488355328) (hbase:base≤w.heap.size) (N:Nat) (hN:n+m=N) (L:List Value) (hL:xs ++ news=L)
 (h:∀ ao cap w',w'.ownsRow base e size (.slice ao N cap) N L→w.grownBy w' v.ownBlock→Below base w w'→K (a.put o.dst (.slice ao N cap)) w') :
 if Region.wanted o (yielded ops a.tmps)=true then Oper.wp P o a w K Q else E:=by
 subst hN hL
 have hw:Region.wanted o (yielded ops a.tmps)=true:=by simp [Region.wanted,hgd]
 rw [if_pos hw]
 have fin:∀ v' w',w'.ownsRow base e size v' (n+m) (xs ++ news)→w.grownBy w' v.ownBlock→K (a.put o.dst v') w':=fun v' w' h2 h3=>by
  obtain ⟨ao,cap,rfl⟩:=own_slice h2
  exact h ao cap w' h2 h3 ((Below.refl base w).grown h3 hbase (fun j hj=>(hown.lt j hj).1))
 cases xo with
 | none =>
  obtain ⟨rfl,rfl⟩:=hnone rfl
  have hnil:news=[]:=List.eq_nil_of_length_eq_zero (by rw [hl];simp)
  subst hnil
  have hrun:=run_append_owned_none (P:=P) (w:=w) base t o.type e i size ht hi v n xs hown
  unfold Oper.wp
  simp [execOp,ho,resolve,invoke,builtin,hs,hx,hrun,Result.andThen]
  exact fin v w (by simpa using hown) ⟨rfl,rfl,rfl,Nat.le_refl _,fun _ _ _=>rfl⟩
 | some ad=>exact wp_append_own w s x t ho base e i z size bytes ht hi hz hsize hby hzs hsz v n xs hs hown ad m c news hx hl (hnews ad rfl) h1 h63 hbytes hbase (fun v' w' h2 h3 _=>fin v' w' h2 h3)
end
section
open Go.RowKit Go.Shelf Go.Maps
theorem in_take_next (S:List Int) (i:Nat) (x a:Int) (h:S[i]?=some x):decide (a ∈ S.take (i+1))=(decide (a ∈ S.take i) || (x == a)):=by
 obtain ⟨hk,e⟩:=List.getElem?_eq_some_iff.1 h
 rw [List.take_succ_eq_append_getElem hk,e]
 by_cases h1:a ∈ S.take i
 · simp [h1]
 · by_cases h2:x=a
   · subst h2;simp
   · have h3:¬ a=x:=fun e=>h2 e.symm
     simp [h1,h2,h3]
theorem restA_any (ao:Option Addr) (cap:Nat) (xs:PL) (n:Int) (w:World) (hn:xs.length≤274877906944) (hs:okP xs) (hR:PairsAt w ao xs) (hlo:-9223372036854775808≤n) (hhi:n≤2147483647) :
 Calls Tryz.prog 96 #[.slice ao xs.length cap,.int .i64 n] w (IntsOut (outOf (xs.map Prod.fst) n.toNat) w):=by
 have C:=Lib.hid (rest_any 150 Prod.fst restA1 (enters_of Tryz.func150 (by kernel_rfl) rfl) ao cap xs n w hn (fun p hp=>(hs p hp).1) hR hlo hhi)
 clear hs hR
 generalize outOf (xs.map Prod.fst) n.toNat=O at C ⊢
 go_enter Tryz.func96,Tryz.ntmps96
 go_wp2_with fail
 refine C.out.mono ?_;rintro e w1 ⟨bo,cp,rfl,h1,h2,h3,h4⟩
 have HE:Hid (IntsOut O w (.returned (.slice bo O.length cp)) w1):=Lib.hid ⟨bo,cp,rfl,h1,h2,h3,h4⟩
 clear h1 h2 h3 h4
 go_wp2_with fail
 go_ret
 exact HE.out
theorem rrestA_any (ao:Option Addr) (cap:Nat) (xs:PL) (n:Int) (w:World) (hn:xs.length≤274877906944) (hR:PairsAt w ao xs) (hlo:-9223372036854775808≤n) (hhi:n≤2147483647) :
 Calls Tryz.prog 51 #[.slice ao xs.length cap,.int .i64 n] w (IntsOut (outOf (xs.map Prod.fst) n.toNat) w):=by
 have hinfo:(Tryz.prog.info? 3).map (fun i=>(i.zero,i.size,i.bytes))=some (some (.int .i64 0),1,8):=by kernel_rfl
 obtain ⟨i0,hi,hz0,hz1,hz2⟩:=info_parts2 hinfo
 have HI:=Lib.hid hi
 have HRo:=Lib.hid hR
 have HNx:=Lib.hid (outOf_next (xs.map Prod.fst))
 have HLe:=Lib.hid (outOf_le (xs.map Prod.fst))
 have HZ:Hid (outOf (xs.map Prod.fst) 0=[]):=Lib.hid rfl
 clear hi hinfo hR
 generalize outOf (xs.map Prod.fst)=O at HNx HLe HZ ⊢
 have hneg:n < 0→n.toNat=0:=fun h=>by omega
 by_cases hn0:n < 0
 · rw [hneg hn0,HZ.out]
   go_enter Tryz.func51,Tryz.ntmps51
   go_wp2_with fail
   go_loopw [5,6] (fun v i wr=>v=.slice none 0 0∧i=.int .i64 0∧Hid (wr=w)) (fun _ i _=>0)
   case atStart=>exact ⟨rfl,rfl,Lib.hid rfl⟩
   case round =>
    obtain ⟨rfl,rfl,HW⟩:=hrel
    have hle:¬ 0 < n:=by omega
    go_wp2_with fail
    go_ret
    rw [HW.out]
    exact ⟨none,0,rfl,.inl rfl,fun _=>rfl,Nat.le_refl _,Below.refl _ _⟩
 obtain ⟨m,rfl⟩:=Int.eq_ofNat_of_zero_le (show 0≤n by omega)
 have hm31:m≤2147483647:=by omega
 rw [Int.toNat_natCast]
 clear hneg hn0 hlo hhi
 go_enter Tryz.func51,Tryz.ntmps51
 go_wp2_with fail
 go_loopw [5,6] (fun v i wr=>∃ (k q cp:Nat) (bo:Option Addr),k≤m∧i=.int .i64 k∧v=.slice bo q cp∧Hid (q=(O k).length)∧Hid (Below w.heap.size w wr)∧Hid (OwnI wr w.heap.size (.slice bo q cp) (O k))) (fun _ i _=>m - (intOf i).toNat)
 case atStart=>exact ⟨0,0,0,none,Nat.zero_le _,rfl,rfl,Lib.hid (by rw [HZ.out];rfl),Lib.hid (Below.refl _ _),Lib.hid (by rw [HZ.out];exact World.ownsRow_nil _ _ _ _)⟩
 case round =>
  obtain ⟨k,q,cp,bo,hk,rfl,rfl,HQ2,HB,HT⟩:=hrel
  by_cases hlt:k < m
  · obtain ⟨wo,HWO⟩:∃ wo:World,Hid (wo=wr):=⟨_,Lib.hid rfl⟩
    go_wp2_with fail
    rw [← HWO.out]
    rw [← HWO.out] at HB HT
    clear HWO
    go_loopw [7,8] (fun b i wr=>∃ (j:Nat) (c:Bool),j≤xs.length∧i=.int .i64 j∧b=.bool c∧Hid (c=decide ((k:Int) ∈ (xs.map Prod.fst).take j))∧Hid (wr=wo)) (fun _ i _=>xs.length - (intOf i).toNat)
    case atStart=>exact ⟨0,false,Nat.zero_le _,rfl,rfl,Lib.hid (by simp),Lib.hid rfl⟩
    case round =>
     obtain ⟨j,c,hj,rfl,rfl,HC,HW⟩:=hrel
     by_cases hjl:j < xs.length
     · obtain ⟨⟨x1,x2⟩,hx⟩:∃ x,xs[j]?=some x:=⟨_,List.getElem?_eq_getElem hjl⟩
       have HB2:Below w.heap.size w wr:=by rw [HW.out];exact HB.out
       rcases (HRo.out.kept HB2) with h0 | ⟨b,o,rfl,hA,hcell⟩
       · rw [h0] at hjl;simp at hjl
       obtain ⟨hc1,hc2⟩:=hcell j _ hx
       dsimp only at hc1 hc2
       have HN:=Lib.hid (in_take_next (xs.map Prod.fst) j x1 (k:Int) (by rw [List.getElem?_map,hx];rfl))
       clear hcell hx HB2
       cases c with
       | true =>
        have HC2:Hid (true=decide ((k:Int) ∈ (xs.map Prod.fst).take (j+1))):=Lib.hid (by rw [HN.out,← HC.out];rfl)
        go_wp2_with fail
        go_roundw
        case rel=>exact ⟨j+1,true,by omega,by go_num,rfl,HC2,HW⟩
        case measure=>simp [intOf];omega
       | false =>
        have HC2:Hid ((x1 == (k:Int))=decide ((k:Int) ∈ (xs.map Prod.fst).take (j+1))):=Lib.hid (by rw [HN.out,← HC.out];rfl)
        obtain ⟨bb,hbb⟩:∃ bb,(x1 == (k:Int))=bb:=⟨_,rfl⟩
        rw [hbb] at HC2
        go_wp2_with fail
        go_roundw
        case rel=>exact ⟨j+1,bb,by omega,by go_num,by first | rfl | (rw [← hbb];try simp),HC2,HW⟩
        case measure=>simp [intOf];omega
     · obtain rfl:j=xs.length:=by omega
       have hwr:=HW.out
       subst hwr
       have HC1:Hid (c=decide ((k:Int) ∈ xs.map Prod.fst)):=Lib.hid (by rw [HC.out,show xs.length=(xs.map Prod.fst).length from by simp,List.take_length])
       clear HC HW
       have hstep:=HNx.out k
       cases c with
       | true =>
        have hin:(k:Int) ∈ xs.map Prod.fst:=of_decide_eq_true HC1.out.symm
        rw [if_pos hin] at hstep
        have HT2:Hid (OwnI wr w.heap.size (.slice bo q cp) (O (k+1))):=Lib.hid (by rw [hstep];exact HT.out)
        have HQ3:Hid (q=(O (k+1)).length):=Lib.hid (by rw [hstep];exact HQ2.out)
        clear hstep hin
        go_wp2_with fail
        go_roundw
        case rel=>exact ⟨k+1,q,cp,bo,by omega,by go_num,rfl,HQ3,HB,HT2⟩
        case measure=>simp [intOf];omega
       | false =>
        have hin:¬ (k:Int) ∈ xs.map Prod.fst:=of_decide_eq_false HC1.out.symm
        rw [if_neg hin] at hstep
        have hq:q≤k:=by rw [HQ2.out];exact HLe.out k
        have HTO:Hid (wr.ownsRow w.heap.size 3 1 (.slice bo q cp) q ((O k).map (Value.int .i64))):=Lib.hid (by have:=HT.out;unfold OwnI at this;rw [← HQ2.out] at this;exact this)
        have HT1:=Lib.hid (HTO.out.alloc (.cells #[Value.int .i64 (k:Int)] 3))
        have hws:w.heap.size≤wr.heap.size:=HB.out.size
        have hbs:w.heap.size≤(wr.alloc (.cells #[Value.int .i64 (k:Int)] 3)).heap.size:=by simp;omega
        have HST:=Lib.hid hstep
        clear hstep hin
        go_wp2_with (at_builtin;refine wpList_append_own _ rfl _ _ 41 rfl w.heap.size 3 i0 (.int .i64 0) 1 8 Tryz.underlying41 HI.out hz0 hz1 hz2 rfl (by decide) _ _ _ rfl HT1.out ⟨wr.heap.size,0,none⟩ 1 1 [Value.int .i64 (k:Int)] rfl rfl (lit_cellI wr _) (fun u hu=>by simp at hu;subst hu;rfl) (by unfold maxLen;omega) (by omega) hbs ?_)
        intro v' w3 hown' hgrow _
        obtain ⟨g,gc,rfl⟩:=ownsRow_succ hown'
        have HB3:=Lib.hid (own_grownI HB.out hws HTO.out hgrow)
        have HQ3:Hid (q+1=(O (k+1)).length):=Lib.hid (by rw [HST.out,List.length_append,← HQ2.out];rfl)
        have HT3:Hid (OwnI w3 w.heap.size (.slice (some ⟨g,0,none⟩) (q+1) gc) (O (k+1))):=Lib.hid (by unfold OwnI;rw [← HQ3.out,HST.out,List.map_append];exact hown')
        clear hown' hgrow hbs
        go_wp2_with fail
        go_roundw
        case rel=>exact ⟨k+1,q+1,gc,_,by omega,by go_num,rfl,HQ3,HB3,HT3⟩
        case measure=>simp [intOf];omega
  · obtain rfl:k=m:=by omega
    have HE:=Lib.hid (OwnI.end_ HT.out HB.out)
    clear HT
    go_wp2_with fail
    go_ret
    exact HE.out
theorem restB_any (ao:Option Addr) (cap:Nat) (xs:PL) (n:Int) (w:World) (hn:xs.length≤274877906944) (hs:okP xs) (hR:PairsAt w ao xs) (hlo:-9223372036854775808≤n) (hhi:n≤2147483647) :
 Calls Tryz.prog 97 #[.slice ao xs.length cap,.int .i64 n] w (IntsOut (outOf (xs.map Prod.snd) n.toNat) w):=by
 have C:=Lib.hid (rest_any 151 Prod.snd restB1 (enters_of Tryz.func151 (by kernel_rfl) rfl) ao cap xs n w hn (fun p hp=>(hs p hp).2) hR hlo hhi)
 clear hs hR
 generalize outOf (xs.map Prod.snd) n.toNat=O at C ⊢
 go_enter Tryz.func97,Tryz.ntmps97
 go_wp2_with fail
 refine C.out.mono ?_;rintro e w1 ⟨bo,cp,rfl,h1,h2,h3,h4⟩
 have HE:Hid (IntsOut O w (.returned (.slice bo O.length cp)) w1):=Lib.hid ⟨bo,cp,rfl,h1,h2,h3,h4⟩
 clear h1 h2 h3 h4
 go_wp2_with fail
 go_ret
 exact HE.out
theorem rrestB_any (ao:Option Addr) (cap:Nat) (xs:PL) (n:Int) (w:World) (hn:xs.length≤274877906944) (hR:PairsAt w ao xs) (hlo:-9223372036854775808≤n) (hhi:n≤2147483647) :
 Calls Tryz.prog 52 #[.slice ao xs.length cap,.int .i64 n] w (IntsOut (outOf (xs.map Prod.snd) n.toNat) w):=by
 have hinfo:(Tryz.prog.info? 3).map (fun i=>(i.zero,i.size,i.bytes))=some (some (.int .i64 0),1,8):=by kernel_rfl
 obtain ⟨i0,hi,hz0,hz1,hz2⟩:=info_parts2 hinfo
 have HI:=Lib.hid hi
 have HRo:=Lib.hid hR
 have HNx:=Lib.hid (outOf_next (xs.map Prod.snd))
 have HLe:=Lib.hid (outOf_le (xs.map Prod.snd))
 have HZ:Hid (outOf (xs.map Prod.snd) 0=[]):=Lib.hid rfl
 clear hi hinfo hR
 generalize outOf (xs.map Prod.snd)=O at HNx HLe HZ ⊢
 have hneg:n < 0→n.toNat=0:=fun h=>by omega
 by_cases hn0:n < 0
 · rw [hneg hn0,HZ.out]
   go_enter Tryz.func52,Tryz.ntmps52
   go_wp2_with fail
   go_loopw [5,6] (fun v i wr=>v=.slice none 0 0∧i=.int .i64 0∧Hid (wr=w)) (fun _ i _=>0)
   case atStart=>exact ⟨rfl,rfl,Lib.hid rfl⟩
   case round =>
    obtain ⟨rfl,rfl,HW⟩:=hrel
    have hle:¬ 0 < n:=by omega
    go_wp2_with fail
    go_ret
    rw [HW.out]
    exact ⟨none,0,rfl,.inl rfl,fun _=>rfl,Nat.le_refl _,Below.refl _ _⟩
 obtain ⟨m,rfl⟩:=Int.eq_ofNat_of_zero_le (show 0≤n by omega)
 have hm31:m≤2147483647:=by omega
 rw [Int.toNat_natCast]
 clear hneg hn0 hlo hhi
 go_enter Tryz.func52,Tryz.ntmps52
 go_wp2_with fail
 go_loopw [5,6] (fun v i wr=>∃ (k q cp:Nat) (bo:Option Addr),k≤m∧i=.int .i64 k∧v=.slice bo q cp∧Hid (q=(O k).length)∧Hid (Below w.heap.size w wr)∧Hid (OwnI wr w.heap.size (.slice bo q cp) (O k))) (fun _ i _=>m - (intOf i).toNat)
 case atStart=>exact ⟨0,0,0,none,Nat.zero_le _,rfl,rfl,Lib.hid (by rw [HZ.out];rfl),Lib.hid (Below.refl _ _),Lib.hid (by rw [HZ.out];exact World.ownsRow_nil _ _ _ _)⟩
 case round =>
  obtain ⟨k,q,cp,bo,hk,rfl,rfl,HQ2,HB,HT⟩:=hrel
  by_cases hlt:k < m
  · obtain ⟨wo,HWO⟩:∃ wo:World,Hid (wo=wr):=⟨_,Lib.hid rfl⟩
    go_wp2_with fail
    rw [← HWO.out]
    rw [← HWO.out] at HB HT
    clear HWO
    go_loopw [7,8] (fun b i wr=>∃ (j:Nat) (c:Bool),j≤xs.length∧i=.int .i64 j∧b=.bool c∧Hid (c=decide ((k:Int) ∈ (xs.map Prod.snd).take j))∧Hid (wr=wo)) (fun _ i _=>xs.length - (intOf i).toNat)
    case atStart=>exact ⟨0,false,Nat.zero_le _,rfl,rfl,Lib.hid (by simp),Lib.hid rfl⟩
    case round =>
     obtain ⟨j,c,hj,rfl,rfl,HC,HW⟩:=hrel
     by_cases hjl:j < xs.length
     · obtain ⟨⟨x1,x2⟩,hx⟩:∃ x,xs[j]?=some x:=⟨_,List.getElem?_eq_getElem hjl⟩
       have HB2:Below w.heap.size w wr:=by rw [HW.out];exact HB.out
       rcases (HRo.out.kept HB2) with h0 | ⟨b,o,rfl,hA,hcell⟩
       · rw [h0] at hjl;simp at hjl
       obtain ⟨hc1,hc2⟩:=hcell j _ hx
       dsimp only at hc1 hc2
       have HN:=Lib.hid (in_take_next (xs.map Prod.snd) j x2 (k:Int) (by rw [List.getElem?_map,hx];rfl))
       clear hcell hx HB2
       cases c with
       | true =>
        have HC2:Hid (true=decide ((k:Int) ∈ (xs.map Prod.snd).take (j+1))):=Lib.hid (by rw [HN.out,← HC.out];rfl)
        go_wp2_with fail
        go_roundw
        case rel=>exact ⟨j+1,true,by omega,by go_num,rfl,HC2,HW⟩
        case measure=>simp [intOf];omega
       | false =>
        have HC2:Hid ((x2 == (k:Int))=decide ((k:Int) ∈ (xs.map Prod.snd).take (j+1))):=Lib.hid (by rw [HN.out,← HC.out];rfl)
        obtain ⟨bb,hbb⟩:∃ bb,(x2 == (k:Int))=bb:=⟨_,rfl⟩
        rw [hbb] at HC2
        go_wp2_with fail
        go_roundw
        case rel=>exact ⟨j+1,bb,by omega,by go_num,by first | rfl | (rw [← hbb];try simp),HC2,HW⟩
        case measure=>simp [intOf];omega
     · obtain rfl:j=xs.length:=by omega
       have hwr:=HW.out
       subst hwr
       have HC1:Hid (c=decide ((k:Int) ∈ xs.map Prod.snd)):=Lib.hid (by rw [HC.out,show xs.length=(xs.map Prod.snd).length from by simp,List.take_length])
       clear HC HW
       have hstep:=HNx.out k
       cases c with
       | true =>
        have hin:(k:Int) ∈ xs.map Prod.snd:=of_decide_eq_true HC1.out.symm
        rw [if_pos hin] at hstep
        have HT2:Hid (OwnI wr w.heap.size (.slice bo q cp) (O (k+1))):=Lib.hid (by rw [hstep];exact HT.out)
        have HQ3:Hid (q=(O (k+1)).length):=Lib.hid (by rw [hstep];exact HQ2.out)
        clear hstep hin
        go_wp2_with fail
        go_roundw
        case rel=>exact ⟨k+1,q,cp,bo,by omega,by go_num,rfl,HQ3,HB,HT2⟩
        case measure=>simp [intOf];omega
       | false =>
        have hin:¬ (k:Int) ∈ xs.map Prod.snd:=of_decide_eq_false HC1.out.symm
        rw [if_neg hin] at hstep
        have hq:q≤k:=by rw [HQ2.out];exact HLe.out k
        have HTO:Hid (wr.ownsRow w.heap.size 3 1 (.slice bo q cp) q ((O k).map (Value.int .i64))):=Lib.hid (by have:=HT.out;unfold OwnI at this;rw [← HQ2.out] at this;exact this)
        have HT1:=Lib.hid (HTO.out.alloc (.cells #[Value.int .i64 (k:Int)] 3))
        have hws:w.heap.size≤wr.heap.size:=HB.out.size
        have hbs:w.heap.size≤(wr.alloc (.cells #[Value.int .i64 (k:Int)] 3)).heap.size:=by simp;omega
        have HST:=Lib.hid hstep
        clear hstep hin
        go_wp2_with (at_builtin;refine wpList_append_own _ rfl _ _ 41 rfl w.heap.size 3 i0 (.int .i64 0) 1 8 Tryz.underlying41 HI.out hz0 hz1 hz2 rfl (by decide) _ _ _ rfl HT1.out ⟨wr.heap.size,0,none⟩ 1 1 [Value.int .i64 (k:Int)] rfl rfl (lit_cellI wr _) (fun u hu=>by simp at hu;subst hu;rfl) (by unfold maxLen;omega) (by omega) hbs ?_)
        intro v' w3 hown' hgrow _
        obtain ⟨g,gc,rfl⟩:=ownsRow_succ hown'
        have HB3:=Lib.hid (own_grownI HB.out hws HTO.out hgrow)
        have HQ3:Hid (q+1=(O (k+1)).length):=Lib.hid (by rw [HST.out,List.length_append,← HQ2.out];rfl)
        have HT3:Hid (OwnI w3 w.heap.size (.slice (some ⟨g,0,none⟩) (q+1) gc) (O (k+1))):=Lib.hid (by unfold OwnI;rw [← HQ3.out,HST.out,List.map_append];exact hown')
        clear hown' hgrow hbs
        go_wp2_with fail
        go_roundw
        case rel=>exact ⟨k+1,q+1,gc,_,by omega,by go_num,rfl,HQ3,HB3,HT3⟩
        case measure=>simp [intOf];omega
  · obtain rfl:k=m:=by omega
    have HE:=Lib.hid (OwnI.end_ HT.out HB.out)
    clear HT
    go_wp2_with fail
    go_ret
    exact HE.out
end
section
theorem firstB_mem {l:PL} {z a:Int} (h:firstB l z=some a):(a,z) ∈ l:=by
 unfold firstB at h
 obtain ⟨⟨x,y⟩,hp,e⟩:=Option.map_eq_some_iff.1 h
 have h1:=List.mem_of_find?_eq_some hp
 have h2:=List.find?_some hp
 simp at h2 e
 subst h2 e
 exact h1
theorem firstB_of {l:PL} {z a:Int} (hn:(l.map Prod.snd).Nodup) (h:(a,z) ∈ l):firstB l z=some a:=by
 cases hf:firstB l z with
 | none =>
  unfold firstB at hf
  rw [Option.map_eq_none_iff,List.find?_eq_none] at hf
  have:=hf _ h
  simp at this
 | some b =>
  have h2:=firstB_mem hf
  have:∀ (m:PL),(m.map Prod.snd).Nodup→(a,z) ∈ m→(b,z) ∈ m→b=a:=fun m=>by
   induction m with
   | nil=>intro _ h;cases h
   | cons q m ih =>
    intro hm h1 h2
    rw [List.map_cons,List.nodup_cons] at hm
    rcases List.mem_cons.1 h1 with e1 | e1 <;> rcases List.mem_cons.1 h2 with e2 | e2
    · rw [← e1] at e2;injection e2
    · exact absurd (List.mem_map.2 ⟨_,e2,by rw [← e1]⟩) hm.1
    · exact absurd (List.mem_map.2 ⟨_,e1,by rw [← e2]⟩) hm.1
    · exact ih hm.2 e1 e2
  rw [this l hn h h2]
end
section
open Go.RowKit Go.Shelf
theorem way_swapR (P S:PL) (p q:Int × Int) (k:Nat) (R:PL) (hk:k+1≤S.length) (hq:S[k]?=some q):(wayL P S p k R)[P.length+k+1]?=some q∧((wayL P S p k R).set (P.length+k) q).set (P.length+k+1) p=wayL P S p (k+1) R:=by
 obtain ⟨hl,e⟩:=List.getElem?_eq_some_iff.1 hq
 have h1:wayL P S p (k+1) R=(P ++ S.take k) ++ q :: p :: (S.drop (k+1) ++ R):=by
  unfold wayL;rw [List.take_succ_eq_append_getElem hl,e];simp
 have h2:wayL P S p k R=(P ++ S.take k) ++ p :: q :: (S.drop (k+1) ++ R):=by
  unfold wayL;rw [List.drop_eq_getElem_cons hl,e];simp
 have hlen:(P ++ S.take k).length=P.length+k:=by simp;omega
 rw [h1,h2]
 constructor
 · rw [List.getElem?_append_right (by rw [hlen];omega),hlen,show P.length+k+1 - (P.length+k)=1 from by omega];rfl
 · rw [List.set_append_right _ _ (by rw [hlen];exact Nat.le_refl _),List.set_append_right _ _ (by rw [hlen];omega),hlen,Nat.sub_self,show P.length+k+1 - (P.length+k)=1 from by omega]
   rfl
theorem sorted_le {l:PL} (h:Sorted l) (i j:Nat) (p q:Int × Int) (hp:l[i]?=some p) (hq:l[j]?=some q) (hij:i≤j):p.2≤q.2:=by
 rcases Nat.lt_or_ge i j with hlt | hge
 · obtain ⟨h1,e1⟩:=List.getElem?_eq_some_iff.1 hp
   obtain ⟨h2,e2⟩:=List.getElem?_eq_some_iff.1 hq
   have:=List.pairwise_iff_getElem.1 h i j h1 h2 hlt
   rw [e1,e2] at this;exact this
 · rw [show j=i from by omega,hp] at hq;cases hq;exact Int.le_refl _
theorem sorted_take {l:PL} (h:Sorted l) (k:Nat):Sorted (l.take k):=h.sublist (List.take_sublist _ _)
theorem sorted_drop {l:PL} (h:Sorted l) (k:Nat):Sorted (l.drop k):=h.sublist (List.drop_sublist _ _)
theorem take_at {l:PL} {c:Nat} {p:Int × Int} (h:p ∈ l.take c):∃ i,i < c∧l[i]?=some p:=by
 obtain ⟨i,hi,rfl⟩:=List.getElem_of_mem h
 rw [List.length_take] at hi
 exact ⟨i,by omega,by rw [List.getElem_take];exact List.getElem?_eq_getElem (by omega)⟩
theorem drop_atP {l:PL} {c:Nat} {p:Int × Int} (h:p ∈ l.drop c):∃ i,c≤i∧l[i]?=some p:=by
 obtain ⟨i,hi,rfl⟩:=List.getElem_of_mem h
 rw [List.length_drop] at hi
 exact ⟨c+i,by omega,by rw [List.getElem_drop];exact List.getElem?_eq_getElem (by omega)⟩
theorem sortB_one (x:Int × Int) (B:PL) (c:Nat) (hB:Sorted B) (hc:c≤B.length) (h1:c=0∨∃ q,B[c - 1]?=some q∧q.2 < x.2) (h2:c=B.length∨∃ q,B[c]?=some q∧x.2≤q.2):sortB ([x] ++ B)=B.take c ++ x :: B.drop c:=by
 have k1:∀ q ∈ B.take c,q.2 < x.2:=fun q hq=>by
  obtain ⟨i,hi,e⟩:=take_at hq
  rcases h1 with rfl | ⟨r,hr,hrx⟩
  · omega
  · have:=sorted_le hB i (c - 1) q r e hr (by omega);omega
 have k2:∀ q ∈ B.drop c,x.2≤q.2:=fun q hq=>by
  obtain ⟨i,hi,e⟩:=drop_atP hq
  rcases h2 with rfl | ⟨r,hr,hrx⟩
  · have:=(List.getElem?_eq_some_iff.1 e).1;omega
  · have:=sorted_le hB c i r q hr e hi;omega
 refine (sortB_is ⟨sorted_app (sorted_take hB c) (List.pairwise_cons.2 ⟨k2,sorted_drop hB c⟩) (fun p hp q hq=>?_),fun v=>?_⟩).symm
 · have:=k1 p hp
   rcases List.mem_cons.1 hq with rfl | hq
   · omega
   · have:=k2 q hq;omega
 · have e:ofB v ([x] ++ B)=ofB v ([x] ++ (B.take c ++ B.drop c)):=by rw [List.take_append_drop]
   rw [e]
   simp only [ofB_app,ofB_cons]
   by_cases hv:x.2=v
   · rw [ofB_none v (B.take c) (fun q hq=>by have:=k1 q hq;omega)];simp [hv,ofB]
   · simp [hv,ofB]
end
section
open Go.RowKit Go.Shelf
theorem sortB_last (A:PL) (y:Int × Int) (c:Nat) (hA:Sorted A) (hc:c≤A.length) (h1:c=0∨∃ q,A[c - 1]?=some q∧q.2≤y.2) (h2:c=A.length∨∃ q,A[c]?=some q∧y.2 < q.2):sortB (A ++ [y])=A.take c ++ y :: A.drop c:=by
 rw [sortB_snoc,sortB_sorted hA]
 unfold putB
 rw [putK_is y A c hc h1 (fun t q ht hq=>by
  rcases h2 with rfl | ⟨r,hr,hry⟩
  · have:=(List.getElem?_eq_some_iff.1 hq).1;omega
  · have:=sorted_le hA c t r q hr hq ht;omega)]
end
section
open Go.RowKit Go.Shelf
theorem set2 (L1 L2 L3:PL) (x y:Int × Int):((L1 ++ x :: (L2 ++ y :: L3)).set L1.length y).set (L1.length+1+L2.length) x=L1 ++ y :: (L2 ++ x :: L3):=by
 rw [List.set_append_right _ _ (Nat.le_refl _),Nat.sub_self,List.set_cons_zero,List.set_append_right _ _ (by omega),show L1.length+1+L2.length - L1.length=L2.length+1 from by omega,List.set_cons_succ,List.set_append_right _ _ (Nat.le_refl _),Nat.sub_self,List.set_cons_zero]
def midL (P X M Y R:PL) (i:Nat):PL:=P ++ (Y.take i ++ X.drop i) ++ M ++ (X.take i ++ Y.drop i) ++ R
theorem mid_form (P X M Y R:PL) (i:Nat) (x y:Int × Int) (hx:X[i]?=some x) (hy:Y[i]?=some y) :
 midL P X M Y R i=(P ++ Y.take i) ++ x :: ((X.drop (i+1) ++ M ++ X.take i) ++ y :: (Y.drop (i+1) ++ R))∧midL P X M Y R (i+1)=(P ++ Y.take i) ++ y :: ((X.drop (i+1) ++ M ++ X.take i) ++ x :: (Y.drop (i+1) ++ R)):=by
 obtain ⟨h1,e1⟩:=List.getElem?_eq_some_iff.1 hx
 obtain ⟨h2,e2⟩:=List.getElem?_eq_some_iff.1 hy
 constructor
 · unfold midL;rw [List.drop_eq_getElem_cons h1,List.drop_eq_getElem_cons h2,e1,e2];simp
 · unfold midL;rw [List.take_succ_eq_append_getElem h1,List.take_succ_eq_append_getElem h2,e1,e2];simp
theorem mid_step (P X M Y R:PL) (i a b:Nat) (x y:Int × Int) (hx:X[i]?=some x) (hy:Y[i]?=some y) (ha:a=P.length+i) (hb:b=P.length+X.length+M.length+i) :
 (midL P X M Y R i)[a]?=some x∧(midL P X M Y R i)[b]?=some y∧((midL P X M Y R i).set a y).set b x=midL P X M Y R (i+1):=by
 obtain ⟨e1,e2⟩:=mid_form P X M Y R i x y hx hy
 have h1:=(List.getElem?_eq_some_iff.1 hx).1
 have h2:=(List.getElem?_eq_some_iff.1 hy).1
 have l1:(P ++ Y.take i).length=a:=by simp;omega
 have l2:(P ++ Y.take i).length+1+(X.drop (i+1) ++ M ++ X.take i).length=b:=by simp;omega
 refine ⟨?_,?_,?_⟩
 · rw [e1,← l1,List.getElem?_append_right (Nat.le_refl _),Nat.sub_self];rfl
 · rw [e1,← l2,List.getElem?_append_right (by omega),show (P ++ Y.take i).length+1+(X.drop (i+1) ++ M ++ X.take i).length - (P ++ Y.take i).length=(X.drop (i+1) ++ M ++ X.take i).length+1 from by omega,List.getElem?_cons_succ,List.getElem?_append_right (Nat.le_refl _),Nat.sub_self];rfl
 · rw [e1,e2,← l2,← l1];exact set2 _ _ _ x y
theorem mid_zero (P X M Y R:PL):midL P X M Y R 0=P ++ X ++ M ++ Y ++ R:=by simp [midL]
theorem mid_all (P X M Y R:PL) (h:X.length=Y.length):midL P X M Y R X.length=P ++ Y ++ M ++ X ++ R:=by
 unfold midL
 rw [List.drop_length,List.take_length,List.take_of_length_le (by omega),List.drop_eq_nil_of_le (show Y.length≤X.length by omega)];simp
end
end Go.Proofs.YtdenehnneloegaaGreatDoor
