/-
  Texts of these rows' proofs, laid one behind the other: IBuild, IFind2, IOrder.
  Conditions: those of each theorem.
-/
import Derived.WalkKit
import Derived.WalkMore
import Derived.IntWalk
import Derived.WalkArith
import Derived.OwnWalk
import Derived.Lib.Hide
import Derived.Laws.OwnMore
import Derived.StillTailTactics
import Derived.Deep.Cut
import Derived.Test.YtdenehnneloegaaGreatDoorProg
import Derived.Test.YtdenehnneloegaaGreatDoorPa30
import Derived.Test.YtdenehnneloegaaGreatDoorPa32
import Derived.BigQuiet
import Derived.Deep.QuietTactic
namespace Go.Proofs.YtdenehnneloegaaGreatDoor
set_option linter.unusedVariables false
set_option maxRecDepth 100000
set_option maxHeartbeats 8000000
section
open Go.RowKit Go.Shelf
def allKeys (rs:List (List ByteArray)) (cols:List Int):List (List ByteArray):=(List.range rs.length).map fun (i:Nat)=>rowKey rs cols i
def rankI (rs:List (List ByteArray)) (cols:List Int) (i:Nat):Int:=rankK keyC (allKeys rs cols) (rowKey rs cols i)
def rowsK (rs:List (List ByteArray)) (cols:List Int):PL:=(List.range rs.length).map fun (i:Nat)=>((i:Int),rankI rs cols i)
def buildL (rs:List (List ByteArray)) (cols:List Int):List Int:=(sortB (rowsK rs cols)).map Prod.fst
theorem rowsK_len (rs:List (List ByteArray)) (cols:List Int):(rowsK rs cols).length=rs.length:=by simp [rowsK]
theorem build_len (rs:List (List ByteArray)) (cols:List Int):(buildL rs cols).length=rs.length:=by simp [buildL,sortB_len,rowsK_len]
theorem rank_key (rs:List (List ByteArray)) (cols:List Int) (i j:Nat) (hi:i < rs.length) (hj:j < rs.length):cmpI (rankI rs cols i) (rankI rs cols j)=keyC (rowKey rs cols i) (rowKey rs cols j):=by
 have:=rank_cmp key_cmp (allKeys rs cols) (rowKey rs cols i) (rowKey rs cols j) (List.mem_map.2 ⟨i,List.mem_range.2 hi,rfl⟩) (List.mem_map.2 ⟨j,List.mem_range.2 hj,rfl⟩)
 exact this
theorem rank_parts (rs:List (List ByteArray)) (cols:List Int) (i j:Nat) (hi:i < rs.length) (hj:j < rs.length):lexH partC (partsL rs cols i) (partsL rs cols j)=cmpI (rankI rs cols i) (rankI rs cols j):=by
 rw [parts_cmp,rank_key rs cols i j hi hj];rfl
def Ranked (rs:List (List ByteArray)) (cols:List Int) (p:Int × Int):Prop:=∃ i:Nat,i < rs.length∧p=((i:Int),rankI rs cols i)
theorem build1_any (rs:List (List ByteArray)) (cols:List Int) (hcl:cols.length≤1073741824) (hrl:rs.length≤1073741824) (w0:World) (g B:Nat) (ko:Option Addr) (kc:Nat) (hg:w0.heap.size≤g) (hbox:w0.heap[B]?=some (.cells #[.slice ko rs.length kc] 111 (0,0))) (hK:KeysAt w0 ko (keysL rs cols)) :
 CmpOK w0 g (Ranked rs cols) 85 (.pointer (some ⟨B,0,none⟩)):=by
 intro a b c d ha hc W hW
 obtain ⟨i,hi,e1⟩:=ha
 obtain ⟨j,hj,e2⟩:=hc
 simp only [Prod.mk.injEq] at e1 e2
 obtain ⟨rfl,rfl⟩:=e1
 obtain ⟨rfl,rfl⟩:=e2
 have hB:Below w0.heap.size w0 W:=(Below.refl _ w0).grown hW (Nat.le_refl _) (fun k h=>by cases h;exact hg)
 rw [← rank_parts rs cols i j hi hj]
 have hL1:=keysL_at rs cols i hi
 have hL2:=keysL_at rs cols j hj
 have hl1:=parts_few rs cols (i:Int)
 have hl2:=parts_few rs cols (j:Int)
 rcases hK.kept hB with h0 | ⟨A,rfl,hA,hcell⟩
 · rw [h0] at hL1;simp at hL1
 obtain ⟨po,pc,hc1,hp1⟩:=hcell i _ hL1
 obtain ⟨qo,qc,hc2,hp2⟩:=hcell j _ hL2
 obtain ⟨c0,_⟩:=cell_of_box_l ((hB.block B (lt_of_heap hbox)).trans hbox)
 have hent:=enters_of Tryz.func87 (by kernel_rfl) rfl
 have C1:=Lib.hid (cmpP_any 87 partC po qo pc qc (partsL rs cols i) (partsL rs cols j) W.drew hent (by omega) (by omega) (hp1.kept (bdn (n:=1) (Below.refl _ W))) (hp2.kept (bdn (n:=1) (Below.refl _ W))) (fun k x y _ _ V _=>partsI_any x y V))
 clear hL1 hL2 hcell hp1 hp2 hbox hK hB hW
 generalize lexH partC (partsL rs cols i) (partsL rs cols j)=r at C1 ⊢
 obtain ⟨n1,hn1⟩:∃ n,n=(partsL rs cols i).length:=⟨_,rfl⟩
 obtain ⟨n2,hn2⟩:∃ n,n=(partsL rs cols j).length:=⟨_,rfl⟩
 rw [← hn1] at C1 hc1
 rw [← hn2] at C1 hc2
 clear hn1 hn2 hl1 hl2
 go_enter Tryz.func85,Tryz.ntmps85
 go_upto_region 1 with fail
 go_still_tail 8,(by kernel_rfl)
 rw [show ({ heap:=W.heap,tape:=W.tape,drawn:=W.drawn+1,os:=W.os,output:=W.output }:World)=W.drew from rfl]
 go_wp2_with fail
 refine C1.out.mono ?_;rintro e w2 ⟨rfl,b1⟩
 have B1:=Lib.hid (below_up (show Below W.heap.size W W.drew from bdn (n:=1) (Below.refl _ W)) b1)
 clear b1
 go_wp2_with fail
 go_ret
 exact ⟨rfl,B1.out⟩
def fillK (rs:List (List ByteArray)) (cols:List Int) (k:Nat):PL:=(rowsK rs cols).take k ++ List.replicate (rs.length - k) ((0:Int),rankI rs cols 0)
theorem fill_zero (rs:List (List ByteArray)) (cols:List Int):fillK rs cols 0=List.replicate rs.length ((0:Int),rankI rs cols 0):=by simp [fillK]
theorem fill_all (rs:List (List ByteArray)) (cols:List Int):fillK rs cols rs.length=rowsK rs cols:=by
 unfold fillK;rw [List.take_of_length_le (by rw [rowsK_len];exact Nat.le_refl _)];simp
theorem fill_nextI (rs:List (List ByteArray)) (cols:List Int) (k:Nat) (h:k < rs.length):(fillK rs cols k).set k ((k:Int),rankI rs cols k)=fillK rs cols (k+1):=by
 have hk:(rowsK rs cols)[k]?=some ((k:Int),rankI rs cols k):=by simp [rowsK,h]
 obtain ⟨hl,e⟩:=List.getElem?_eq_some_iff.1 hk
 unfold fillK
 rw [List.set_append_right _ _ (by simp;omega),List.take_succ_eq_append_getElem hl,e]
 obtain ⟨m,hm⟩:∃ m,rs.length - k=m+1:=⟨rs.length - k - 1,by omega⟩
 rw [hm,show rs.length - (k+1)=m from by omega,List.replicate_succ]
 have hlen:(List.take k (rowsK rs cols)).length=k:=by rw [List.length_take,rowsK_len];omega
 rw [hlen,Nat.sub_self];simp
theorem fill_good (rs:List (List ByteArray)) (cols:List Int) (k:Nat):∀ p ∈ fillK rs cols k,Ranked rs cols p:=fun p hp=>by
 unfold fillK at hp
 rcases List.mem_append.1 hp with h | h
 · have:=List.mem_of_mem_take h
   unfold rowsK at this
   obtain ⟨i,hi,rfl⟩:=List.mem_map.1 this
   exact ⟨i,List.mem_range.1 hi,rfl⟩
 · obtain ⟨h1,rfl⟩:=List.mem_replicate.1 h
   exact ⟨0,by omega,rfl⟩
theorem fill_len (rs:List (List ByteArray)) (cols:List Int) (k:Nat) (h:k≤rs.length):(fillK rs cols k).length=rs.length:=by
 unfold fillK;rw [List.length_append,List.length_take,rowsK_len,List.length_replicate];omega
theorem cellsZ_zero (n:Nat) (r:Int):(madeCells #[.int .i64 0] (n * 1)).toList=cellsZ (List.replicate n (0,r)):=by
 have h2:cellsZ (List.replicate n ((0:Int),r))=List.replicate n (.int .i64 0):=by unfold cellsZ;rw [List.map_replicate]
 rw [h2,Nat.mul_one]
 refine List.eq_replicate_iff.2 ⟨by simp [size_madeCells],fun b hb=>?_⟩
 simp only [madeCells,Array.toList_map,List.mem_map] at hb
 obtain ⟨i,_,hi⟩:=hb
 simp at hi
 rw [← hi,Nat.mod_one];rfl
theorem OwnZ.ints {w0:World} {Kg:Int × Int→Prop} {w:World} {base g n:Nat} {l:PL} (h:OwnZ w0 Kg w base g n l):IntsAt w (some ⟨g,0,none⟩) (l.map Prod.fst):=by
 refine .inr ⟨_,rfl,h.lt.2,fun i p hp=>?_⟩
 have e:(⟨g,0,none⟩:Addr).add i=⟨g,i,none⟩:=by unfold Addr.add;split <;> simp_all
 rw [List.getElem?_map] at hp
 obtain ⟨q,hq,rfl⟩:=Option.map_eq_some_iff.1 hp
 rw [e];exact h.cell i q hq
def BuildOut (l:List Int) (w:World) (e:Ending) (w':World):Prop:=∃ oo,e=.returned (.slice oo l.length l.length)∧IntsAt w' oo l∧Below w.heap.size w w'
theorem build_any (ho:Option Addr) (m hc:Nat) (ro:Option Addr) (rc:Nat) (rs:List (List ByteArray)) (co:Option Addr) (cc:Nat) (cols:List Int) (w:World) (hcl:cols.length≤1073741824) (hn:rs.length≤1073741824)
 (hx:∀ r ∈ rs,r.length≤1099511627776∧∀ c ∈ r,c.size≤281474976710656) (hwf:∀ c ∈ cols,(Lit.int .i64 c).wf=true) (hR:RowsAt w ro rs) (hI:IntsAt w co cols) :
 Calls Tryz.prog 34 #[.agg #[.slice ho m hc,.slice ro rs.length rc],.slice co cols.length cc] w (BuildOut (buildL rs cols) w):=by
 have hinfo:(Tryz.prog.info? 3).map (fun i=>(i.zero,i.size,i.bytes))=some (some (.int .i64 0),1,8):=by kernel_rfl
 obtain ⟨i0,hi,hz0,hz1,hz2⟩:=info_parts2 hinfo
 have HI:=Lib.hid hi
 have hm:rs.length≤maxLen:=by unfold maxLen;omega
 have HB0:=Lib.hid (one_below w (TabO ho m hc ro rs.length rc))
 have CK:=Lib.hid (keysOf_any ho m hc ro rc rs co cc cols (w.alloc (TabO ho m hc ro rs.length rc)) hcl hn hx hwf (hR.kept HB0.out) (hI.kept HB0.out))
 have CC:=Lib.hid (fun (w0:World) (g B:Nat) (ko:Option Addr) (kc:Nat) h1 h2 h3=>build1_any rs cols hcl hn w0 g B ko kc h1 h2 h3)
 have hent:=enters_of Tryz.func85 (by kernel_rfl) rfl
 have CS:=Lib.hid (fun (w0:World) (c:Value) (base g:Nat) (hC:CmpOK w0 g (Ranked rs cols) 85 c) (l:PL) (V:World) (hO:OwnZ w0 (Ranked rs cols) V base g rs.length l)=>sortStableZ_any w0 (Ranked rs cols) 85 c hent base g rs.length hC l V hn hO)
 have HFn:=Lib.hid (fill_nextI rs cols)
 have HFa:=Lib.hid (fill_all rs cols)
 have HFz:=Lib.hid (fill_zero rs cols)
 have HFl:=Lib.hid (fill_len rs cols)
 have HFg:=Lib.hid (fill_good rs cols)
 have HL:Hid ((buildL rs cols).length=rs.length):=Lib.hid (build_len rs cols)
 have HBl:Hid (buildL rs cols=(sortB (rowsK rs cols)).map Prod.fst):=Lib.hid rfl
 clear hi hinfo hR hI hx hwf hent
 generalize buildL rs cols=BL at HL HBl ⊢
 go_enter Tryz.func34,Tryz.ntmps34
 go_wp2_with fail
 refine CK.out.mono ?_
 rintro e w1 ⟨ko,rfl,hK,b1⟩
 have B1:=Lib.hid (below_up HB0.out b1)
 have HK:=Lib.hid hK
 clear b1 hK CK HB0
 obtain ⟨V,HV⟩:∃ V,Hid (V=w1.alloc (.cells #[.slice ko rs.length rs.length] 111)):=⟨_,Lib.hid rfl⟩
 go_upto_region 2 with fail
 rw [← HV.out]
 have hVh:V.heap[w1.heap.size]?=some (.cells #[.slice ko rs.length rs.length] 111 (0,0)):=by rw [HV.out];exact World.alloc_heap_new _ _
 have hbV:Below w1.heap.size w1 V:=by rw [HV.out];exact (Below.refl _ w1).alloc (Nat.le_refl _) _
 have HBV:=Lib.hid (below_up B1.out hbV)
 have HVh:=Lib.hid hVh
 have HKV:=Lib.hid (HK.out.kept hbV)
 obtain ⟨c0,_⟩:=cell_of_box_l hVh
 clear hVh hbV HV HK B1
 obtain ⟨X,hX⟩:∃ X,X=w1.heap.size:=⟨_,rfl⟩
 rw [← hX] at HVh c0 ⊢
 clear hX
 go_wp2_with (at_make;refine wpList_make_full _ rfl _ _ 41 rfl V.heap.size 3 i0 (.int .i64 0) 1 Tryz.underlying41 HI.out hz0 hz1 .i64 .i64 (rs.length:Int) (rs.length:Int) rs.length rfl rfl rfl rfl (by rw [hz2];omega) hm (Nat.le_refl _) ?_;intro w2 hown hgrow)
 obtain ⟨g,hg⟩:∃ g,g=V.heap.size:=⟨_,rfl⟩
 have HG:=Lib.hid hg
 have HO:Hid (OwnZ V (Ranked rs cols) w2 V.heap.size g rs.length (fillK rs cols 0)):=Lib.hid ⟨HFl.out 0 (Nat.zero_le _),by rw [HFz.out,← cellsZ_zero,hg];exact hown,HFg.out 0,grown_trans ⟨rfl,rfl,rfl,Nat.le_refl _,fun _ _ _=>rfl⟩ ⟨hgrow.os,hgrow.tape,hgrow.output,hgrow.size,fun k hk hne=>hgrow.block k hk (by simp)⟩⟩
 rw [← hg]
 clear hown hgrow c0 hg
 go_wp2_with fail
 go_loopw [16] (fun i wr=>∃ (k:Nat),k≤rs.length∧i=.int .i64 k∧Hid (OwnZ V (Ranked rs cols) wr V.heap.size g rs.length (fillK rs cols k))) (fun i _=>rs.length - (intOf i).toNat)
 case atStart=>exact ⟨0,Nat.zero_le _,rfl,HO⟩
 case round =>
  clear HO
  obtain ⟨k,hk,rfl,HO⟩:=hrel
  by_cases hlt:k < rs.length
  · obtain ⟨p,hp⟩:∃ p,(fillK rs cols k)[k]?=some p:=⟨_,List.getElem?_eq_getElem (by rw [HFl.out k hk];exact hlt)⟩
    have hc:=HO.out.cell k p hp
    have hf:=HO.out.frozen k
    have O3:=HO.out.store k (k:Int) (rankI rs cols k) ⟨k,hlt,rfl⟩
    rw [HFn.out k hlt] at O3
    have HO3:=Lib.hid O3
    clear O3 hp HO
    generalize p.1=old at hc
    go_wp2_with fail
    go_roundw
    case rel=>exact ⟨k+1,by omega,by go_num,HO3⟩
    case measure=>simp [intOf];omega
  · obtain rfl:k=rs.length:=by omega
    have O2:=HO.out
    rw [HFa.out] at O2
    have C1:=Lib.hid (CS.out V (.pointer (some ⟨X,0,none⟩)) V.heap.size g (CC.out V g X ko rs.length (by rw [HG.out];exact Nat.le_refl _) HVh.out HKV.out) _ wr O2)
    clear O2 HO hlt
    go_wp2_with fail
    refine C1.out.mono ?_;rintro e w3 ⟨rfl,h1,h2⟩
    have HE:Hid (BuildOut BL w (.returned (.slice (some ⟨g,0,none⟩) rs.length rs.length)) w3):=Lib.hid ⟨_,by rw [HL.out],by rw [HBl.out];exact h1.ints,HBV.out.grown h1.grown (by have:=HBV.out.size;omega) (fun j h=>by cases h;rw [HG.out];exact HBV.out.size)⟩
    clear h1 h2
    go_wp2_with fail
    go_ret
    exact HE.out
end
section
open Go.RowKit Go.Shelf
def FoundAt (C:Int→Int) (os:List Int) (a:Int) (ok:Bool):Prop:=∃ p:Nat,p≤os.length∧(p=0∨∃ x,os[p - 1]?=some x∧C x < 0)∧(p=os.length∨∃ x,os[p]?=some x∧0≤C x) ∧
 ((∃ x,os[p]?=some x∧C x=0∧a=x∧ok=true)∨((p=os.length∨∃ x,os[p]?=some x∧C x ≠ 0)∧a=0∧ok=false))
theorem find_any (ho:Option Addr) (m hc:Nat) (ro:Option Addr) (rc:Nat) (rs:List (List ByteArray)) (co:Option Addr) (cc:Nat) (cols:List Int) (oo:Option Addr) (oc:Nat) (os:List Int) (so:Option Addr) (sc:Nat) (key:List ByteArray) (w:World) (hcl:cols.length≤1073741824) (hkl:key.length≤1073741824) (hol:os.length≤1073741824) (hn2:rs.length≤1099511627776) (hx:∀ r ∈ rs,r.length≤1099511627776∧∀ c ∈ r,c.size≤281474976710656) (hR:RowsAt w ro rs) (hI:IntsAt w co cols) (hO:IntsAt w oo os) (hS:StrRow w so key) :
 Calls Tryz.prog 35 #[.agg #[.slice ho m hc,.slice ro rs.length rc],.slice co cols.length cc,.slice oo os.length oc,.slice so key.length sc] w fun e w'=>∃ a ok,e=.returned (.tuple #[.int .i64 a,.bool ok])∧FoundAt (fun x=>keyC (rowKey rs cols x) key) os a ok∧Below w.heap.size w w':=by
 have HB0:=Lib.hid (one_below w (TabO ho m hc ro rs.length rc))
 have HNew:=Lib.hid (World.alloc_heap_new w (TabO ho m hc ro rs.length rc))
 have CC:=Lib.hid (fun W (x:Int) (h:Below w.heap.size w W)=>stands_any ho m hc ro rc rs x co cc cols so sc key W hcl hkl hn2 hx (hR.kept h) (hI.kept h) (hS.kept h))
 have HO0:=Lib.hid (hO.kept HB0.out)
 obtain ⟨C,hC⟩:∃ C:Int→Int,C=fun x=>keyC (rowKey rs cols x) key:=⟨_,rfl⟩
 rw [← hC]
 have HC:Hid (∀ x,keyC (rowKey rs cols x) key=C x):=Lib.hid (fun x=>by rw [hC])
 have CS:=Lib.hid (fun W (x:Int) (h:Below w.heap.size w W)=>by have:=CC.out W x h;rw [HC.out x] at this;exact this)
 obtain ⟨W,HW⟩:∃ W,Hid (W=w.alloc (TabO ho m hc ro rs.length rc)):=⟨_,Lib.hid rfl⟩
 rw [← HW.out] at HB0 HNew HO0
 clear hR hI hO hS hx CC hC HC
 go_enter Tryz.func35,Tryz.ntmps35
 go_upto_region 1 with fail
 rw [show w.alloc (TabO ho m hc ro rs.length rc)=W from HW.out.symm]
 go_wp2_with fail
 go_step3
 go_wp2_with fail
 go_step3
 go_wp2_with fail
 go_loopw [10,11] (fun u v wr=>∃ (i j:Nat),i≤j∧j≤os.length∧u=.int .i64 i∧v=.int .i64 j∧Hid (Below W.heap.size W wr)∧Hid (i=0∨∃ x,os[i - 1]?=some x∧C x < 0)∧Hid (j=os.length∨∃ x,os[j]?=some x∧0≤C x)) (fun u v _=>(intOf v).toNat - (intOf u).toNat)
 case atStart=>exact ⟨0,os.length,Nat.zero_le _,Nat.le_refl _,rfl,rfl,Lib.hid (Below.refl _ _),Lib.hid (.inl rfl),Lib.hid (.inl rfl)⟩
 case round =>
  obtain ⟨i,j,hij,hjn,rfl,rfl,HB,HI,HJ⟩:=hrel
  obtain ⟨d,hd⟩:∃ d,d=j - i:=⟨_,rfl⟩
  obtain ⟨q,hq⟩:∃ q,q=d / 2:=⟨_,rfl⟩
  obtain ⟨h,hh⟩:∃ h,h=i+q:=⟨_,rfl⟩
  have e1:(j:Int) - (i:Int)=(d:Int):=by omega
  have w1:IntKind.i64.wrap ((j:Int) - (i:Int))=(d:Int):=by rw [IntWalk.i64_in _ (by omega)];exact e1
  have e2:(d:Int) / 2=(q:Int):=by omega
  have w2:IntKind.i64.wrap ((d:Int).tdiv 2)=(q:Int):=by rw [IntWalk.i64_quo _ _ ⟨by omega,by omega,by omega⟩];exact e2
  have e3:(i:Int)+(q:Int)=(h:Int):=by omega
  have w3:IntKind.i64.wrap ((i:Int)+(q:Int))=(h:Int):=by rw [IntWalk.i64_in _ (by omega)];exact e3
  by_cases hlt:i < j
  · have hne:((i:Int) == (j:Int))=false:=by rw [beq_eq_false_iff_ne];omega
    have h1:i≤h:=by omega
    have h2:h < j:=by omega
    obtain ⟨x,hxx⟩:∃ x,os[h]?=some x:=⟨_,List.getElem?_eq_getElem (by omega)⟩
    rcases (HO0.out.kept HB.out) with h0 | ⟨A,rfl,hA,hcell⟩
    · rw [h0] at hxx;simp at hxx
    have hcx:=hcell h _ hxx
    obtain ⟨c0,c1⟩:=tabs ((HB.out.block _ (lt_of_heap HNew.out)).trans HNew.out)
    have HX:=Lib.hid hxx
    have C1:=Lib.hid (CS.out wr.drew x (bdn (n:=1) (below_up HB0.out HB.out)))
    have hhn:h < os.length:=by omega
    have HH:=Lib.hid hh
    clear hcell hxx hh hd hq
    obtain ⟨r,hr⟩:∃ r,r=C x:=⟨_,rfl⟩
    rw [← hr] at C1
    have HRr:=Lib.hid hr
    clear hr
    go_upto_region 5 with fail
    clear e1 w1 e2 w2 e3 w3
    go_still_tail 7,(by kernel_rfl)
    rw [show ({ heap:=wr.heap,tape:=wr.tape,drawn:=wr.drawn+1,os:=wr.os,output:=wr.output }:World)=wr.drew from rfl]
    by_cases hneg:r < 0
    · have HI2:Hid (h+1=0∨∃ x,os[h+1 - 1]?=some x∧C x < 0):=Lib.hid (.inr ⟨x,by simpa using HX.out,by rw [← HRr.out];exact hneg⟩)
      go_wp2_with fail
      refine C1.out.mono ?_;rintro e w2 ⟨rfl,b1⟩
      have B1:=Lib.hid (below_up (show Below W.heap.size W wr.drew from bdn (n:=1) HB.out) b1)
      clear b1 c0 c1 hcx
      go_wp2_with fail
      go_roundw
      case rel=>exact ⟨h+1,j,by omega,hjn,by go_num,rfl,B1,HI2,HJ⟩
      case measure=>simp [intOf];omega
    · have HJ2:Hid (h=os.length∨∃ x,os[h]?=some x∧0≤C x):=Lib.hid (.inr ⟨x,HX.out,by rw [← HRr.out];omega⟩)
      go_wp2_with fail
      refine C1.out.mono ?_;rintro e w2 ⟨rfl,b1⟩
      have B1:=Lib.hid (below_up (show Below W.heap.size W wr.drew from bdn (n:=1) HB.out) b1)
      clear b1 c0 c1 hcx
      go_wp2_with fail
      go_roundw
      case rel=>exact ⟨i,h,h1,by omega,rfl,by first | rfl | go_num,B1,HI,HJ2⟩
      case measure=>simp [intOf];omega
  · obtain rfl:i=j:=by omega
    have heq:((i:Int) == (i:Int))=true:=by simp
    clear hlt
    by_cases hl:i=os.length
    · have hbl:((i:Int) == (os.length:Int))=true:=by rw [beq_iff_eq];omega
      have HF:Hid (FoundAt C os 0 false):=Lib.hid ⟨i,hjn,HI.out,HJ.out,.inr ⟨.inl hl,rfl,rfl⟩⟩
      have HL:=Lib.hid hl
      clear hl
      go_upto_region 7 with fail
      clear e1 w1 e2 w2 e3 w3
      go_quiet (fail)
      have B1:Hid (Below W.heap.size W (wr.drewN nq)):=Lib.hid (bdn HB.out)
      go_wp2_with fail
      try rw [Exit.noGoto_ret]
      refine bodyPost_ret (v:=(.tuple #[.int .i64 0,.bool false])) (by simp [results,Tryz.results35,go_sem]) rfl ?_
      exact ⟨0,false,rfl,HF.out,below_up HB0.out B1.out⟩
    · have hbl:((i:Int) == (os.length:Int))=false:=by rw [beq_eq_false_iff_ne];omega
      obtain ⟨x,hxx⟩:∃ x,os[i]?=some x:=⟨_,List.getElem?_eq_getElem (by omega)⟩
      rcases (HO0.out.kept HB.out) with h0 | ⟨A,rfl,hA,hcell⟩
      · rw [h0] at hxx;simp at hxx
      have hcx:=hcell i _ hxx
      obtain ⟨c0,c1⟩:=tabs ((HB.out.block _ (lt_of_heap HNew.out)).trans HNew.out)
      have HX:=Lib.hid hxx
      have C1:=Lib.hid (CS.out wr.drew x (bdn (n:=1) (below_up HB0.out HB.out)))
      have hin:i < os.length:=by omega
      have hHB:=HB.out
      clear hcell hxx hl
      obtain ⟨r,hr⟩:∃ r,r=C x:=⟨_,rfl⟩
      rw [← hr] at C1
      have HRr:=Lib.hid hr
      clear hr
      go_upto_region 7 with fail
      clear e1 w1 e2 w2 e3 w3
      go_still_tail 12,(by kernel_rfl)
      rw [show ({ heap:=wr.heap,tape:=wr.tape,drawn:=wr.drawn+1,os:=wr.os,output:=wr.output }:World)=wr.drew from rfl]
      by_cases hz:r=0
      · have hbz:(r != 0)=false:=by rw [hz];rfl
        have HF:Hid (FoundAt C os x true):=Lib.hid ⟨i,hjn,HI.out,HJ.out,.inl ⟨x,HX.out,by rw [← HRr.out];exact hz,rfl,rfl⟩⟩
        clear hz
        go_wp2_with fail
        refine C1.out.mono ?_;rintro e w2 ⟨rfl,b1⟩
        have B1:=Lib.hid (below_up (show Below W.heap.size W wr.drew from bdn (n:=1) HB.out) b1)
        have hcx2:w2.cell? (A.add i)=some (.int .i64 x):=(b1.cell (p:=A.add i) (by rw [add_block];exact hA)).trans hcx
        clear b1 c0 c1 hcx
        go_wp2_with fail
        try rw [Exit.noGoto_ret]
        refine bodyPost_ret (v:=(.tuple #[.int .i64 x,.bool true])) (by simp [results,Tryz.results35,go_sem]) rfl ?_
        exact ⟨x,true,rfl,HF.out,below_up HB0.out B1.out⟩
      · have hbz:(r != 0)=true:=by simpa using hz
        have HF:Hid (FoundAt C os 0 false):=Lib.hid ⟨i,hjn,HI.out,HJ.out,.inr ⟨.inr ⟨x,HX.out,by rw [← HRr.out];exact hz⟩,rfl,rfl⟩⟩
        clear hz
        go_wp2_with fail
        refine C1.out.mono ?_;rintro e w2 ⟨rfl,b1⟩
        have B1:=Lib.hid (below_up (show Below W.heap.size W wr.drew from bdn (n:=1) HB.out) b1)
        clear b1 c0 c1 hcx
        go_wp2_with fail
        try rw [Exit.noGoto_ret]
        refine bodyPost_ret (v:=(.tuple #[.int .i64 0,.bool false])) (by simp [results,Tryz.results35,go_sem]) rfl ?_
        exact ⟨0,false,rfl,HF.out,below_up HB0.out B1.out⟩
end
section
def ordR (p q:Int × Int):Prop:=p.2 < q.2∨(p.2=q.2∧p.1 < q.1)
theorem sort_order (l:PL) (hl:l.Pairwise fun p q=>p.1 < q.1):(sortB l).Pairwise ordR:=by
 have hs:=sortB_stab l
 rw [List.pairwise_iff_forall_sublist]
 intro a b hab
 have h1:a.2≤b.2:=List.pairwise_iff_forall_sublist.1 hs.1 hab
 rcases Int.lt_or_eq_of_le h1 with h | h
 · exact .inl h
 · refine .inr ⟨h,?_⟩
   have h2:=hab.filter (fun p=>decide (p.2=b.2))
   have h3:[a,b].filter (fun p=>decide (p.2=b.2))=[a,b]:=by simp [h]
   rw [h3] at h2
   have h4:(sortB l).filter (fun p=>decide (p.2=b.2))=l.filter (fun p=>decide (p.2=b.2)):=hs.2 b.2
   rw [h4] at h2
   exact List.pairwise_iff_forall_sublist.1 hl (h2.trans List.filter_sublist)
theorem rowsK_rise (rs:List (List ByteArray)) (cols:List Int):(rowsK rs cols).Pairwise fun p q=>p.1 < q.1:=by
 unfold rowsK
 rw [List.pairwise_map]
 exact List.pairwise_lt_range.imp fun h=>by simp only;omega
theorem sort_ranked (rs:List (List ByteArray)) (cols:List Int):∀ p ∈ sortB (rowsK rs cols),Ranked rs cols p:=fun p hp=>by
 have:=(stab_mem (sortB_stab (rowsK rs cols)).2 p).1 hp
 unfold rowsK at this
 obtain ⟨i,hi,rfl⟩:=List.mem_map.1 this
 exact ⟨i,List.mem_range.1 hi,rfl⟩
def ahead (rs:List (List ByteArray)) (cols:List Int) (x y:Int):Prop:=keyC (rowKey rs cols x) (rowKey rs cols y) < 0∨(keyC (rowKey rs cols x) (rowKey rs cols y)=0∧x < y)
theorem build_order (rs:List (List ByteArray)) (cols:List Int):(buildL rs cols).Pairwise (ahead rs cols):=by
 unfold buildL
 rw [List.pairwise_map]
 have hr:=sort_ranked rs cols
 refine (sort_order _ (rowsK_rise rs cols)).imp_of_mem fun {p q} hp hq h=>?_
 obtain ⟨i,hi,rfl⟩:=hr p hp
 obtain ⟨j,hj,rfl⟩:=hr q hq
 have e:=rank_key rs cols i j hi hj
 unfold ordR at h
 unfold ahead
 simp only at h ⊢
 rw [← e]
 unfold cmpI
 rcases h with h | ⟨h1,h2⟩
 · left;rw [if_pos h];omega
 · right;rw [if_neg (by omega),if_neg (by omega)];exact ⟨rfl,h2⟩
theorem build_mem (rs:List (List ByteArray)) (cols:List Int) (x:Int):x ∈ buildL rs cols ↔ ∃ i:Nat,i < rs.length∧x=i:=by
 unfold buildL
 rw [List.mem_map]
 constructor
 · rintro ⟨p,hp,rfl⟩
   obtain ⟨i,hi,rfl⟩:=sort_ranked rs cols p hp
   exact ⟨i,hi,rfl⟩
 · rintro ⟨i,hi,rfl⟩
   refine ⟨((i:Int),rankI rs cols i),?_,rfl⟩
   rw [stab_mem (sortB_stab (rowsK rs cols)).2]
   unfold rowsK
   exact List.mem_map.2 ⟨i,List.mem_range.2 hi,rfl⟩
theorem found_first (rs:List (List ByteArray)) (cols:List Int) (key:List ByteArray) (a:Int) (ok:Bool) (h:FoundAt (fun x=>keyC (rowKey rs cols x) key) (buildL rs cols) a ok) :
 (∃ i:Nat,a=i∧ok=true∧i < rs.length∧keyC (rowKey rs cols i) key=0∧∀ j:Nat,j < i→keyC (rowKey rs cols j) key ≠ 0)∨(a=0∧ok=false∧∀ j:Nat,j < rs.length→keyC (rowKey rs cols j) key ≠ 0):=by
 obtain ⟨p,hp,h1,h2,h3⟩:=h
 dsimp only at h1 h2 h3
 have ho:=build_order rs cols
 -- a row of that key stands at p or behind it
 have hat:∀ j:Nat,j < rs.length→keyC (rowKey rs cols j) key=0→∃ q,p≤q∧(buildL rs cols)[q]?=some (j:Int):=fun j hj hk=>by
  obtain ⟨q,hq⟩:=List.mem_iff_getElem?.1 ((build_mem rs cols j).2 ⟨j,hj,rfl⟩)
  refine ⟨q,?_,hq⟩
  rcases Nat.lt_or_ge q p with hlt | hge
  · exfalso
    rcases h1 with h1 | ⟨x,hx,hxk⟩
    · omega
    · have hle:keyC (rowKey rs cols j) (rowKey rs cols x)≤0:=by
       rcases Nat.lt_or_ge q (p - 1) with h4 | h4
       · obtain ⟨b1,e1⟩:=List.getElem?_eq_some_iff.1 hq
         obtain ⟨b2,e2⟩:=List.getElem?_eq_some_iff.1 hx
         have:=List.pairwise_iff_getElem.1 ho q (p - 1) b1 b2 h4
         rw [e1,e2] at this
         rcases this with h | ⟨h,_⟩ <;> omega
       · have:q=p - 1:=by omega
         subst this
         rw [hq] at hx;cases hx
         have:=(key_cmp.zero (rowKey rs cols (j:Int)) (rowKey rs cols j)).2 rfl
         omega
      have:=key_cmp.lt_trans hle (by omega) (.inr hxk)
      omega
  · exact hge
 rcases h3 with ⟨x,hx,hk,rfl,rfl⟩ | ⟨h3,rfl,rfl⟩
 · left
   obtain ⟨i,hi,rfl⟩:=(build_mem rs cols a).1 (List.mem_of_getElem? hx)
   refine ⟨i,rfl,rfl,hi,hk,fun j hj hjk=>?_⟩
   obtain ⟨q,hq,hqj⟩:=hat j (by omega) hjk
   obtain ⟨b1,e1⟩:=List.getElem?_eq_some_iff.1 hx
   obtain ⟨b2,e2⟩:=List.getElem?_eq_some_iff.1 hqj
   rcases Nat.lt_or_ge p q with h4 | h4
   · have:=List.pairwise_iff_getElem.1 ho p q b1 b2 h4
     rw [e1,e2] at this
     have hz:keyC (rowKey rs cols i) (rowKey rs cols j)=0:=by
      rw [key_cmp.zero] at hk hjk ⊢
      rw [hk,hjk]
     rcases this with h | ⟨_,h⟩ <;> omega
   · have:q=p:=by omega
     subst this
     rw [hx] at hqj
     simp at hqj;omega
 · right
   refine ⟨rfl,rfl,fun j hj hjk=>?_⟩
   obtain ⟨q,hq,hqj⟩:=hat j hj hjk
   obtain ⟨b2,e2⟩:=List.getElem?_eq_some_iff.1 hqj
   rcases h3 with h3 | ⟨x,hx,hxk⟩
   · omega
   · rcases h2 with h2 | ⟨x',hx',hx0⟩
     · omega
     · rw [hx] at hx';cases hx'
       obtain ⟨b1,e1⟩:=List.getElem?_eq_some_iff.1 hx
       have hle:keyC (rowKey rs cols x) (rowKey rs cols j)≤0:=by
        rcases Nat.lt_or_ge p q with h4 | h4
        · have:=List.pairwise_iff_getElem.1 ho p q b1 b2 h4
          rw [e1,e2] at this
          rcases this with h | ⟨h,_⟩ <;> omega
        · have:q=p:=by omega
          subst this
          rw [hx] at hqj;cases hqj
          have:=(key_cmp.zero (rowKey rs cols (j:Int)) (rowKey rs cols j)).2 rfl
          omega
       rw [(key_cmp.zero _ _).1 hjk] at hle
       omega
end
end Go.Proofs.YtdenehnneloegaaGreatDoor
