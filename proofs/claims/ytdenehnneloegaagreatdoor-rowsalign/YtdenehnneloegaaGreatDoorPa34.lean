/-
  Texts of these rows' proofs, laid one behind the other: RwLcs, RwMath, RwMath2, RwRef1.
  Conditions: those of each theorem.
-/
import Derived.Deep.OwnRows
import Derived.WalkKit
import Derived.WalkMore
import Derived.IntWalk
import Derived.WalkArith
import Derived.OwnWalk
import Derived.Lib.Hide
import Derived.Deep.Cut
import Derived.Deep.Onto
import Derived.BigQuiet
import Derived.RegionTactic
import Derived.Deep.QuietTactic
import Derived.Test.YtdenehnneloegaaGreatDoorProg
import Derived.Test.YtdenehnneloegaaGreatDoorPa11
import Derived.Test.YtdenehnneloegaaGreatDoorPa25
import Derived.Test.YtdenehnneloegaaGreatDoorPa15
import Derived.Test.YtdenehnneloegaaGreatDoorPa9
import Derived.Test.YtdenehnneloegaaGreatDoorPa26
import Derived.Deep.RegionHeld3
import Derived.Test.YtdenehnneloegaaGreatDoorPa7
namespace Go.Proofs.YtdenehnneloegaaGreatDoor
set_option linter.unusedVariables false
set_option maxRecDepth 100000
set_option maxHeartbeats 8000000
section
open Go.RowKit Go.Shelf
theorem rlpairsN_any (ao bo:Option Addr) (ca cb:Nat) (xs ys:List ByteArray) (w:World) (hn:xs.length≤4096) (hm:ys.length≤4096) (hR:StrRow w ao xs) (hS:StrRow w bo ys) :
 Calls Tryz.prog 50 #[.slice ao xs.length ca,.slice bo ys.length cb] w (PairsOutN (wayC 0 0 (bytesOf xs) (bytesOf ys)) w):=by
 have hinfo:(Tryz.prog.info? 45).map (fun i=>(i.zero,i.size,i.bytes))=some (some (.agg #[.int .i64 0,.int .i64 0]),2,16):=by kernel_rfl
 obtain ⟨i0,hi,hz0,hz1,hz2⟩:=info_parts2 hinfo
 have HI:=Lib.hid hi
 have C:=Lib.hid (rlrows_any ao bo ca cb xs ys w hn hm hR hS)
 have HR:=Lib.hid hR
 have HS:=Lib.hid hS
 obtain ⟨az,haz⟩:∃ az,az=bytesOf xs:=⟨_,rfl⟩
 obtain ⟨bs,hbs⟩:∃ bs,bs=bytesOf ys:=⟨_,rfl⟩
 have HAl:Hid (az.length=xs.length):=Lib.hid (by rw [haz,bytes_len])
 have HBl:Hid (bs.length=ys.length):=Lib.hid (by rw [hbs,bytes_len])
 have HAt:Hid (∀ (k:Nat) x,xs[k]?=some x→az[k]?=some x.data.toList):=Lib.hid (fun k x h=>by rw [haz];exact bytes_at xs k x h)
 have HBt:Hid (∀ (k:Nat) x,ys[k]?=some x→bs[k]?=some x.data.toList):=Lib.hid (fun k x h=>by rw [hbs];exact bytes_at ys k x h)
 rw [← haz,← hbs] at C ⊢
 obtain ⟨L,hL⟩:∃ L,L=wayC 0 0 az bs:=⟨_,rfl⟩
 have HL:=Lib.hid hL
 rw [← hL]
 have HLn:Hid (L.length≤4096):=Lib.hid (by rw [hL,wayC_len];have:=(lcs_le az bs).1;have:=HAl.out;omega)
 clear hR hS hi hinfo haz hbs hL
 go_enter Tryz.func50,Tryz.ntmps50
 go_wp2_with fail
 refine C.out.mono ?_
 rintro e w1 ⟨go1,gc1,rfl,hg,hb1⟩
 obtain ⟨g,b0,o0,cap0,rfl,-,-⟩:=gridT_cell hg 0 0 (Nat.zero_le _) (Nat.zero_le _)
 have HGr:=Lib.hid hg
 have HB1:=Lib.hid hb1
 rw [gridT_len,HAl.out]
 clear hg hb1 C
 have H0:Hid (∃ pre:PL,0=pre.length∧L=pre ++ wayC 0 0 (az.drop 0) (bs.drop 0)∧OwnL w1 w1.heap.size (.slice none 0 0) pre):=Lib.hid ⟨[],rfl,by rw [HL.out];simp,World.ownsRow_nil _ _ _ _⟩
 go_wp2_with fail
 go_loopw [6,7,8] (fun v i k wr=>∃ (s t q cp:Nat) (go:Option Addr),s≤xs.length∧t≤ys.length∧i=.int .i64 s∧k=.int .i64 t∧v=.slice go q cp∧Hid (∃ pre:PL,q=pre.length∧L=pre ++ wayC s t (az.drop s) (bs.drop t)∧OwnL wr w1.heap.size (.slice go q cp) pre∧(pre=[]→go=none))∧Hid (Below w1.heap.size w1 wr)) (fun _ i k _=>(xs.length - (intOf i).toNat)+(ys.length - (intOf k).toNat))
 case atStart=>exact ⟨0,0,0,0,none,Nat.zero_le _,Nat.zero_le _,rfl,rfl,rfl,Lib.hid (by obtain ⟨pre,h1,h2,h3⟩:=H0.out;exact ⟨pre,h1,h2,h3,fun _=>rfl⟩),Lib.hid (Below.refl _ _)⟩
 case round =>
  obtain ⟨s,t,q,cp,go,hs,ht,rfl,rfl,rfl,HP,HB⟩:=hrel
  clear H0
  have HE:Hid (xs.length≤s∨ys.length≤t→PairsOutN L w (.returned (.slice go q cp)) wr):=Lib.hid (fun h=>by
   obtain ⟨pre,h1,h2,h3,h4⟩:=HP.out
   rw [way_end az bs s t (by rw [HAl.out,HBl.out];exact h),List.append_nil] at h2
   rw [h2]
   obtain ⟨ao,cap,k1,k2,k3,k4,k5⟩:=OwnL.end_ (show OwnL wr w.heap.size _ _ from World.ownsRow.mono h3 HB1.out.size) (below_up HB1.out HB.out)
   refine ⟨ao,cap,k1,k2,k3,k4,fun e=>?_,k5⟩
   have hg:=h4 e
   injection k1 with k1;injection k1 with k1;rw [← k1];exact hg)
  by_cases hsl:s < xs.length
  · by_cases htl:t < ys.length
    · clear HE
      obtain ⟨x,hx⟩:∃ x,xs[s]?=some x:=⟨_,List.getElem?_eq_getElem hsl⟩
      obtain ⟨y,hy⟩:∃ y,ys[t]?=some y:=⟨_,List.getElem?_eq_getElem htl⟩
      have HBw:=Lib.hid (below_up HB1.out HB.out)
      obtain ⟨A1,rfl,a1⟩:=str_atR (HR.out.kept HBw.out) s _ hx
      obtain ⟨A2,rfl,a2⟩:=str_atR (HS.out.kept HBw.out) t _ hy
      have HX:=Lib.hid (HAt.out s x hx)
      have HY:=Lib.hid (HBt.out t y hy)
      have hbe:=str_eqv x y
      have hq:q≤4096:=by
       obtain ⟨pre,h1,h2,h3,-⟩:=HP.out
       have:=HLn.out
       rw [h2,List.length_append] at this;omega
      have HBd:Hid (Below w1.heap.size w1 wr.drew):=Lib.hid (bdn (n:=1) HB.out)
      clear hx hy
      by_cases hxy:x.data.toList=y.data.toList
      · rw [decide_eq_true hxy] at hbe
        have HW:=Lib.hid (way_both az bs s t _ HX.out (by rw [hxy];exact HY.out))
        have HVB:Hid (Below w1.heap.size w1 (wr.alloc (.cells #[Value.int .i64 (s:Int),Value.int .i64 (t:Int)] 45)).drew):=Lib.hid (bdn (n:=1) (HB.out.alloc HB.out.size _))
        have hbs:=HVB.out.size
        obtain ⟨pre,h1,h2,h3,-⟩:=HP.out
        have HPl:=Lib.hid h1
        have HPe:=Lib.hid h2
        have HT1:Hid ((wr.alloc (.cells #[Value.int .i64 (s:Int),Value.int .i64 (t:Int)] 45)).drew.ownsRow w1.heap.size 45 2 (.slice go q cp) q (cellsP pre)):=Lib.hid (by have:=((World.ownsRow.alloc h3 (.cells #[Value.int .i64 (s:Int),Value.int .i64 (t:Int)] 45))).drew;rw [← h1] at this;exact this)
        have HNw:Hid (∀ (j:Nat) u,[Value.int .i64 (s:Int),Value.int .i64 (t:Int)][j]?=some u→(wr.alloc (.cells #[Value.int .i64 (s:Int),Value.int .i64 (t:Int)] 45)).drew.cell? ((⟨wr.heap.size,0,none⟩:Addr).add j)=some u):=Lib.hid (fun j u hu=>lit_cellP wr _ _ _ j u hu)
        clear hxy h1 h2 h3 HP
        go_upto_region 5 with fail
        go_region
        go_upto_region 7 with (at_builtin;refine wpList_append_own _ rfl _ _ 26 rfl w1.heap.size 45 i0 (.agg #[.int .i64 0,.int .i64 0]) 2 16 Tryz.underlying26 HI.out hz0 hz1 hz2 rfl (by decide) _ _ _ rfl HT1.out ⟨wr.heap.size,0,none⟩ 1 1 [Value.int .i64 (s:Int),Value.int .i64 (t:Int)] rfl rfl HNw.out (fun u hu=>by simp at hu;rcases hu with rfl | rfl <;> rfl) (by unfold maxLen;omega) (by omega) hbs ?_)
        intro v' w3 hown' hgrow _
        obtain ⟨g3,gc,rfl⟩:=ownsRow_succ hown'
        have HB3:=Lib.hid (HVB.out.grown hgrow hbs (fun j h=>(HT1.out.lt j h).1))
        have HP3:Hid (∃ pre:PL,q+1=pre.length∧L=pre ++ wayC (s+1) (t+1) (az.drop (s+1)) (bs.drop (t+1))∧OwnL w3 w1.heap.size (.slice (some ⟨g3,0,none⟩) (q+1) gc) pre∧(pre=[]→(some (⟨g3,0,none⟩:Addr))=none)):=Lib.hid ⟨pre ++ [((s:Int),(t:Int))],by rw [List.length_append,← HPl.out];rfl,by rw [HPe.out,HW.out];simp,by unfold OwnL;rw [List.length_append,← HPl.out,cellsP_app];exact hown',fun e=>by simp at e⟩
        have hw1:IntKind.i64.wrap ((s:Int)+1)=(s:Int)+1:=IntWalk.i64_in _ (by omega)
        have hw2:IntKind.i64.wrap ((t:Int)+1)=(t:Int)+1:=IntWalk.i64_in _ (by omega)
        clear hown' hgrow a1 a2 hbe
        go_wp2_with fail
        go_roundw
        case rel=>exact ⟨s+1,t+1,q+1,gc,_,by omega,by omega,by go_num,by go_num,rfl,HP3,HB3⟩
        case measure=>simp [intOf];omega
      · rw [decide_eq_false hxy] at hbe
        obtain ⟨g1,b1,o1,cap1,e1,c1,c2⟩:=gridT_cell (HGr.out.kept HBd.out) (s+1) t (by rw [HAl.out];omega) (by rw [HBl.out];omega)
        obtain ⟨g2,b2,o2,cap2,e2,d1,d2⟩:=gridT_cell (HGr.out.kept HBd.out) s (t+1) (by rw [HAl.out];omega) (by rw [HBl.out];omega)
        cases e1;cases e2
        rw [HBl.out] at c1 d1
        have HWa:=Lib.hid (way_a az bs s t _ _ HX.out HY.out hxy)
        have HWb:=Lib.hid (way_b az bs s t _ _ HX.out HY.out hxy)
        generalize lcsN (az.drop (s+1)) (bs.drop t)=n1 at c2 HWa HWb
        generalize lcsN (az.drop s) (bs.drop (t+1))=n2 at d2 HWa HWb
        have hw1:IntKind.i64.wrap ((s:Int)+1)=(s:Int)+1:=IntWalk.i64_in _ (by omega)
        have hw2:IntKind.i64.wrap ((t:Int)+1)=(t:Int)+1:=IntWalk.i64_in _ (by omega)
        obtain ⟨V,HV⟩:∃ V,Hid (V=wr.drew):=⟨_,Lib.hid rfl⟩
        have HPD:Hid (∃ pre:PL,q=pre.length∧L=pre ++ wayC s t (az.drop s) (bs.drop t)∧OwnL V.drew w1.heap.size (.slice go q cp) pre∧(pre=[]→go=none)):=Lib.hid (by
         obtain ⟨pre,h1,h2,h3,h4⟩:=HP.out
         exact ⟨pre,h1,h2,by rw [HV.out];exact World.ownsRow.drew (World.ownsRow.drew h3),h4⟩)
        have HBV:Hid (Below w1.heap.size w1 V.drew):=Lib.hid (by rw [HV.out];exact bdn (n:=1) HBd.out)
        rw [← HV.out] at c1 c2 d1 d2
        clear hxy
        go_upto_region 5 with fail
        go_region
        rw [← HV.out]
        clear HV hbe a1 a2
        by_cases hcmp:n2≤n1
        · have HP3:Hid (∃ pre:PL,q=pre.length∧L=pre ++ wayC (s+1) t (az.drop (s+1)) (bs.drop t)∧OwnL V.drew w1.heap.size (.slice go q cp) pre∧(pre=[]→go=none)):=Lib.hid (by
           obtain ⟨pre,h1,h2,h3,h4⟩:=HPD.out
           exact ⟨pre,h1,by rw [h2,HWa.out hcmp],h3,h4⟩)
          go_upto_region 8 with fail
          go_region
          go_wp2_with fail
          go_roundw
          case rel=>exact ⟨s+1,t,q,cp,_,by omega,ht,by go_num,rfl,rfl,HP3,HBV⟩
          case measure=>simp [intOf];omega
        · have HP3:Hid (∃ pre:PL,q=pre.length∧L=pre ++ wayC s (t+1) (az.drop s) (bs.drop (t+1))∧OwnL V.drew w1.heap.size (.slice go q cp) pre∧(pre=[]→go=none)):=Lib.hid (by
           obtain ⟨pre,h1,h2,h3,h4⟩:=HPD.out
           exact ⟨pre,h1,by rw [h2,HWb.out hcmp],h3,h4⟩)
          go_upto_region 8 with fail
          go_region
          go_wp2_with fail
          go_roundw
          case rel=>exact ⟨s,t+1,q,cp,_,hs,by omega,rfl,by go_num,rfl,HP3,HBV⟩
          case measure=>simp [intOf];omega
    · have hE:=Lib.hid (HE.out (.inr (by omega)))
      clear HE
      go_wp2_with fail
      go_ret
      exact hE.out
  · have hE:=Lib.hid (HE.out (.inl (by omega)))
    clear HE
    go_wp2_with fail
    go_ret
    exact hE.out
end
section
def keyAt (rs:List (List ByteArray)) (cols:List Int) (i:Int):List ByteArray:=cols.map (cellL rs i)
theorem keyAt_len (rs:List (List ByteArray)) (cols:List Int) (i:Int):(keyAt rs cols i).length=cols.length:=by simp [keyAt]
def byKeyO (ra rb:List (List ByteArray)) (ps qs:List Int) (k:Nat):Option (Int × Int):=((List.range ra.length).find? fun (i:Nat)=>decide (keyAt ra ps i=keyAt rb qs k)).map fun (i:Nat)=>((i:Int),(k:Int))
def byKeyK (ra rb:List (List ByteArray)) (ps qs:List Int) (n:Nat):PL:=(List.range n).filterMap (byKeyO ra rb ps qs)
def byKeyL (ra rb:List (List ByteArray)) (ps qs:List Int):PL:=byKeyK ra rb ps qs rb.length
theorem byKey_next (ra rb:List (List ByteArray)) (ps qs:List Int) (k:Nat):byKeyK ra rb ps qs (k+1)=byKeyK ra rb ps qs k ++ (byKeyO ra rb ps qs k).toList:=by
 unfold byKeyK
 rw [List.range_succ,List.filterMap_append]
 congr 1
theorem byKeyO_some {ra rb:List (List ByteArray)} {ps qs:List Int} {k:Nat} {p:Int × Int} (h:byKeyO ra rb ps qs k=some p):∃ i:Nat,p=((i:Int),(k:Int))∧i < ra.length∧keyAt ra ps i=keyAt rb qs k:=by
 unfold byKeyO at h
 rw [Option.map_eq_some_iff] at h
 obtain ⟨i,hi,rfl⟩:=h
 have h1:=List.find?_some hi
 have h2:=List.mem_of_find?_eq_some hi
 exact ⟨i,rfl,List.mem_range.1 h2,of_decide_eq_true h1⟩
theorem byKeyO_is {ra rb:List (List ByteArray)} {ps qs:List Int} {i k:Nat} (hu:apartRows ra ps=true) (hi:i < ra.length) (h:keyAt ra ps i=keyAt rb qs k):byKeyO ra rb ps qs k=some ((i:Int),(k:Int)):=by
 cases hf:byKeyO ra rb ps qs k with
 | none =>
  unfold byKeyO at hf
  rw [Option.map_eq_none_iff,List.find?_eq_none] at hf
  have:=hf i (List.mem_range.2 hi)
  simp [h] at this
 | some p =>
  obtain ⟨j,rfl,hj,e⟩:=byKeyO_some hf
  rw [← h] at e
  rcases Nat.lt_trichotomy i j with hl | rfl | hl
  · exact absurd e.symm ((apart_iff ra ps).1 hu i j hl hj)
  · rfl
  · exact absurd e ((apart_iff ra ps).1 hu j i hl hi)
theorem byKey_rise (ra rb:List (List ByteArray)) (ps qs:List Int):RiseB (byKeyL ra rb ps qs):=by
 unfold RiseB byKeyL byKeyK
 rw [List.pairwise_filterMap]
 refine List.pairwise_lt_range.imp fun {a b} hab p hp q hq=>?_
 obtain ⟨i,rfl,_,_⟩:=byKeyO_some hp
 obtain ⟨j,rfl,_,_⟩:=byKeyO_some hq
 simp only;omega
theorem byKey_in {ra rb:List (List ByteArray)} {ps qs:List Int} {p:Int × Int} (h:p ∈ byKeyL ra rb ps qs):∃ i k:Nat,p=((i:Int),(k:Int))∧i < ra.length∧k < rb.length∧keyAt ra ps i=keyAt rb qs k:=by
 unfold byKeyL byKeyK at h
 rw [List.mem_filterMap] at h
 obtain ⟨k,hk,h⟩:=h
 obtain ⟨i,rfl,hi,e⟩:=byKeyO_some h
 exact ⟨i,k,rfl,hi,List.mem_range.1 hk,e⟩
theorem byKey_fst {ra rb:List (List ByteArray)} {ps qs:List Int} (hu:apartRows rb qs=true):((byKeyL ra rb ps qs).map Prod.fst).Nodup:=by
 rw [List.Nodup,List.pairwise_map]
 refine (byKey_rise ra rb ps qs).imp_of_mem fun {p q} hp hq hlt e=>?_
 obtain ⟨i,k,rfl,hi,hk,h1⟩:=byKey_in hp
 obtain ⟨j,m,rfl,hj,hm,h2⟩:=byKey_in hq
 simp only at hlt e
 have:i=j:=by omega
 subst this
 have hkm:k < m:=by omega
 exact (apart_iff rb qs).1 hu k m hkm hm (h1.symm.trans h2)
def byKeyRow (ra rb:List (List ByteArray)) (ps qs:List Int) (k n:Nat):PL:=((List.range n).filter fun (i:Nat)=>decide (keyAt ra ps i=keyAt rb qs k)).map fun (i:Nat)=>((i:Int),(k:Int))
def byKeyAll (ra rb:List (List ByteArray)) (ps qs:List Int) (m:Nat):PL:=(List.range m).flatMap fun k=>byKeyRow ra rb ps qs k ra.length
theorem filter_one {p:Nat→Bool}:∀ (n:Nat),(∀ i j,i < j→j < n→p i=true→p j=true→False)→((List.range n).filter p)=((List.range n).find? p).toList
 | 0,_=>rfl
 | n+1,h=>by
  have ih:=filter_one n fun i j a b=>h i j a (by omega)
  rw [List.range_succ,List.filter_append,List.find?_append,ih]
  cases hf:(List.range n).find? p with
  | none=>cases hp:p n <;> simp [hp]
  | some i =>
   have h1:=List.find?_some hf
   have h2:=List.mem_range.1 (List.mem_of_find?_eq_some hf)
   have:p n=false:=by
    cases hp:p n with
    | false=>rfl
    | true=>exact (h i n h2 (by omega) h1 hp).elim
   simp [this]
theorem fm_flat {α β:Type} (f:α→Option β):∀ l:List α,l.filterMap f=l.flatMap fun k=>(f k).toList
 | []=>rfl
 | x :: l=>by
  rw [List.filterMap_cons,List.flatMap_cons,fm_flat f l]
  cases f x <;> rfl
theorem byKey_all {ra rb:List (List ByteArray)} {ps qs:List Int} (hu:apartRows ra ps=true) (m:Nat):byKeyAll ra rb ps qs m=byKeyK ra rb ps qs m:=by
 unfold byKeyAll byKeyK
 rw [fm_flat]
 congr 1
 funext k
 unfold byKeyRow byKeyO
 rw [filter_one]
 · cases (List.range ra.length).find? (fun (i:Nat)=>decide (keyAt ra ps i=keyAt rb qs k)) <;> rfl
 · intro i j hij hj h1 h2
   exact (apart_iff ra ps).1 hu i j hij hj ((of_decide_eq_true h1).trans (of_decide_eq_true h2).symm)
def lookA (ra:List (List ByteArray)) (cols:PL):List (List ByteArray):=(List.range ra.length).map fun (i:Nat)=>keyAt ra (cols.map Prod.fst) i
def lookB (rb:List (List ByteArray)) (cols:PL):List (List ByteArray):=(List.range rb.length).map fun (k:Nat)=>keyAt rb (cols.map Prod.snd) k
def lookC (ra rb:List (List ByteArray)) (cols:PL):PL:=wayC 0 0 (lookA ra cols) (lookB rb cols)
def comN (ra rb:List (List ByteArray)) (cols:PL) (i k:Int):Nat:=(cols.filter fun c=>decide (cellL ra i c.1=cellL rb k c.2)).length
def pickO (ra rb:List (List ByteArray)) (cols:PL) (i k:Int):Option T3:=if cols.length < 2 * comN ra rb cols i k then some (i,k,(comN ra rb cols i k:Int)) else none
def pickRow (ra rb:List (List ByteArray)) (cols:PL) (i:Int) (ks:List Int):TL:=ks.filterMap (pickO ra rb cols i)
def pickAll (ra rb:List (List ByteArray)) (cols:PL) (is ks:List Int):TL:=is.flatMap fun i=>pickRow ra rb cols i ks
def restL (ra rb:List (List ByteArray)) (cols:PL):TL:=pickAll ra rb cols (outOf ((lookC ra rb cols).map Prod.fst) ra.length) (outOf ((lookC ra rb cols).map Prod.snd) rb.length)
def byLookL (ra rb:List (List ByteArray)) (cols:PL):PL:=(pickL (restL ra rb cols)).foldl putB (lookC ra rb cols)
theorem lookA_len (ra:List (List ByteArray)) (cols:PL):(lookA ra cols).length=ra.length:=by simp [lookA]
theorem lookB_len (rb:List (List ByteArray)) (cols:PL):(lookB rb cols).length=rb.length:=by simp [lookB]
theorem look_in {ra rb:List (List ByteArray)} {cols:PL} {p:Int × Int} (h:p ∈ lookC ra rb cols):∃ i k:Nat,p=((i:Int),(k:Int))∧i < ra.length∧k < rb.length∧keyAt ra (cols.map Prod.fst) i=keyAt rb (cols.map Prod.snd) k:=by
 obtain ⟨s,t,x,rfl,-,-,h1,h2⟩:=way_both_in _ _ p h
 have a1:=(List.getElem?_eq_some_iff.1 h1).1
 have a2:=(List.getElem?_eq_some_iff.1 h2).1
 rw [lookA_len] at a1
 rw [lookB_len] at a2
 refine ⟨s,t,rfl,a1,a2,?_⟩
 simp only [lookA,List.getElem?_map,List.getElem?_range a1,Option.map_some,Option.some.injEq] at h1
 simp only [lookB,List.getElem?_map,List.getElem?_range a2,Option.map_some,Option.some.injEq] at h2
 rw [h1,h2]
theorem look_ahead (ra rb:List (List ByteArray)) (cols:PL):(lookC ra rb cols).Pairwise Ahead:=(way_in 0 0 _ _).2
theorem look_rise (ra rb:List (List ByteArray)) (cols:PL):RiseB (lookC ra rb cols):=(look_ahead ra rb cols).imp fun h=>h.2
theorem look_fst (ra rb:List (List ByteArray)) (cols:PL):((lookC ra rb cols).map Prod.fst).Nodup:=by
 rw [List.Nodup,List.pairwise_map]
 exact (look_ahead ra rb cols).imp fun h e=>by have:=h.1;omega
theorem pick_mem2 (ra rb:List (List ByteArray)) (cols:PL) (is ks:List Int) (c:T3):c ∈ pickAll ra rb cols is ks ↔ c.1 ∈ is∧c.2.1 ∈ ks∧cols.length < 2 * comN ra rb cols c.1 c.2.1∧c.2.2=(comN ra rb cols c.1 c.2.1:Int):=by
 unfold pickAll pickRow pickO
 rw [List.mem_flatMap]
 constructor
 · rintro ⟨p,hp,h⟩
   rw [List.mem_filterMap] at h
   obtain ⟨q,hq,h⟩:=h
   split at h
   · rename_i hm
     simp only [Option.some.injEq] at h
     subst h
     exact ⟨hp,hq,hm,rfl⟩
   · cases h
 · rintro ⟨h1,h2,h3,h4⟩
   refine ⟨c.1,h1,?_⟩
   rw [List.mem_filterMap]
   refine ⟨c.2.1,h2,?_⟩
   rw [if_pos h3,← h4]
theorem rest_picked {ra rb:List (List ByteArray)} {cols:PL} {p:Int × Int} (h:p ∈ pickL (restL ra rb cols)):p.1 ∈ outOf ((lookC ra rb cols).map Prod.fst) ra.length∧p.2 ∈ outOf ((lookC ra rb cols).map Prod.snd) rb.length:=by
 obtain ⟨c,hc,h1,h2⟩:=(pick_taken (restL ra rb cols)).choice p h
 obtain ⟨k1,k2,-,-⟩:=(pick_mem2 ra rb cols _ _ c).1 hc
 rw [h1] at k1;rw [h2] at k2
 exact ⟨k1,k2⟩
theorem byLook_mem (ra rb:List (List ByteArray)) (cols:PL) (p:Int × Int):p ∈ byLookL ra rb cols ↔ p ∈ lookC ra rb cols∨p ∈ pickL (restL ra rb cols):=by
 unfold byLookL
 rw [(puts_perm _ _).mem_iff,List.mem_append]
theorem byLook_in {ra rb:List (List ByteArray)} {cols:PL} {p:Int × Int} (h:p ∈ byLookL ra rb cols):∃ i k:Nat,p=((i:Int),(k:Int))∧i < ra.length∧k < rb.length:=by
 rcases (byLook_mem ra rb cols p).1 h with h | h
 · obtain ⟨i,k,e,h1,h2,-⟩:=look_in h
   exact ⟨i,k,e,h1,h2⟩
 · obtain ⟨h1,h2⟩:=rest_picked h
   obtain ⟨⟨a1,a2⟩,-⟩:=(out_mem _ _ _).1 h1
   obtain ⟨⟨b1,b2⟩,-⟩:=(out_mem _ _ _).1 h2
   obtain ⟨i,hi⟩:=Int.eq_ofNat_of_zero_le a1
   obtain ⟨k,hk⟩:=Int.eq_ofNat_of_zero_le b1
   exact ⟨i,k,Prod.ext hi hk,by omega,by omega⟩
theorem byLook_rise (ra rb:List (List ByteArray)) (cols:PL):RiseB (byLookL ra rb cols):=by
 unfold byLookL
 refine puts_rise _ _ (look_rise ra rb cols) (fun p hp q hq e=>?_) (pick_taken _).snd
 exact ((out_mem _ _ _).1 (rest_picked hp).2).2 (List.mem_map.2 ⟨q,hq,e⟩)
theorem byLook_fst (ra rb:List (List ByteArray)) (cols:PL):((byLookL ra rb cols).map Prod.fst).Nodup:=by
 unfold byLookL
 refine ((puts_perm _ _).map Prod.fst).nodup_iff.2 ?_
 rw [List.map_append,List.nodup_append]
 refine ⟨look_fst ra rb cols,(pick_taken _).fst,fun a ha1 b hb1 e=>?_⟩
 subst e
 obtain ⟨p,hp,rfl⟩:=List.mem_map.1 hb1
 exact ((out_mem _ _ _).1 (rest_picked hp).1).2 ha1
end
section
theorem look_texts {β:Type} [DecidableEq β] (ra rb:List (List ByteArray)) (cols:PL) (f:List ByteArray→β) (hf:∀ x ∈ lookA ra cols,∀ y ∈ lookB rb cols,f x=f y→x=y):wayC 0 0 ((lookA ra cols).map f) ((lookB rb cols).map f)=lookC ra rb cols:=way_map f 0 0 _ _ hf
def placeR (all:List (List ByteArray)) (x:List ByteArray):Nat:=all.findIdx fun y=>decide (y=x)
theorem place_lt (all:List (List ByteArray)) (x:List ByteArray) (h:x ∈ all):placeR all x < all.length:=List.findIdx_lt_length_of_exists ⟨x,h,by simp⟩
theorem place_at (all:List (List ByteArray)) (x:List ByteArray) (h:x ∈ all):all[placeR all x]?=some x:=by
 have hl:=place_lt all x h
 rw [List.getElem?_eq_getElem hl]
 have:=List.findIdx_getElem (w:=hl)
 exact congrArg some (of_decide_eq_true this)
theorem place_le (all:List (List ByteArray)) (x:List ByteArray) (i:Nat) (h:all[i]?=some x):placeR all x≤i:=by
 obtain ⟨hi,e⟩:=List.getElem?_eq_some_iff.1 h
 refine Nat.le_of_not_lt fun hlt=>?_
 have:=List.not_of_lt_findIdx hlt
 rw [e] at this
 simp at this
theorem place_before (all:List (List ByteArray)) (x y:List ByteArray) (k:Nat) (hk:k < placeR all x) (hy:all[k]?=some y):y ≠ x:=by
 obtain ⟨hi,e⟩:=List.getElem?_eq_some_iff.1 hy
 have:=List.not_of_lt_findIdx hk
 rw [e] at this
 simpa using this
theorem place_inj (all:List (List ByteArray)) (x y:List ByteArray) (hx:x ∈ all) (hy:y ∈ all) (h:placeR all x=placeR all y):x=y:=by
 have h1:=place_at all x hx
 rw [h,place_at all y hy] at h1
 exact (Option.some.inj h1).symm
def codeR (all:List (List ByteArray)) (x:List ByteArray):List UInt8:=[UInt8.ofNat (placeR all x / 256),UInt8.ofNat (placeR all x % 256)]
theorem code_inj (all:List (List ByteArray)) (hl:all.length≤65536) (x y:List ByteArray) (hx:x ∈ all) (hy:y ∈ all) (h:codeR all x=codeR all y):x=y:=by
 have a:=place_lt all x hx
 have b:=place_lt all y hy
 unfold codeR at h
 simp only [List.cons.injEq,and_true] at h
 have h1:=congrArg UInt8.toNat h.1
 have h2:=congrArg UInt8.toNat h.2
 simp only [UInt8.toNat_ofNat'] at h1 h2
 exact place_inj all x y hx hy (by omega)
theorem look_codes (ra rb:List (List ByteArray)) (cols:PL) (hl:ra.length+rb.length≤65536):wayC 0 0 ((lookA ra cols).map (codeR (lookA ra cols ++ lookB rb cols))) ((lookB rb cols).map (codeR (lookA ra cols ++ lookB rb cols)))=lookC ra rb cols :=
 look_texts ra rb cols _ fun x hx y hy h=>code_inj _ (by rw [List.length_append,lookA_len,lookB_len];exact hl) x y (List.mem_append_left _ hx) (List.mem_append_right _ hy) h
def pairedB (ha hb:List ByteArray) (cols:PL) (names:List ByteArray):Bool:=names.all fun s=>decide ((findL ha s,findL hb s) ∈ cols)
def byKeyU (u:Bool) (ha:List ByteArray) (ra:List (List ByteArray)) (hb:List ByteArray) (rb:List (List ByteArray)) (names:List ByteArray):PL:=if u then byKeyL ra rb (names.map (findL ha)) (names.map (findL hb)) else []
def byLookU (ha:List ByteArray) (ra:List (List ByteArray)) (hb:List ByteArray) (rb:List (List ByteArray)) (cols:PL):PL:=if cols.length=0∨checkP cols ha.length hb.length ≠ 0 then [] else byLookL ra rb cols
def rowsE (ha:List ByteArray) (ra:List (List ByteArray)) (hb:List ByteArray) (rb:List (List ByteArray)) (cols:PL):Int:=if alignE ha ra hb rb ≠ 0 then alignE ha ra hb rb else checkP cols ha.length hb.length
def rowsL (u:Bool) (ha:List ByteArray) (ra:List (List ByteArray)) (hb:List ByteArray) (rb:List (List ByteArray)) (cols:PL) (names:List ByteArray):PL :=
 if rowsE ha ra hb rb cols ≠ 0 then [] else if u && pairedB ha hb cols names then byKeyU u ha ra hb rb names else byLookU ha ra hb rb cols
structure UseOf (ha:List ByteArray) (ra:List (List ByteArray)) (hb:List ByteArray) (rb:List (List ByteArray)) (names:List ByteArray):Prop where
 a:∀ s ∈ names,0≤findL ha s
 b:∀ s ∈ names,0≤findL hb s
 ua:apartRows ra (names.map (findL ha))=true
 ub:apartRows rb (names.map (findL hb))=true
theorem uniq_apart {n:Nat} {rs:List (List ByteArray)} {cols:List Int} (h:uniqL n rs cols=true):apartRows rs cols=true:=by
 unfold uniqL at h;rw [Bool.and_eq_true] at h;exact h.2
theorem rows_bad {u:Bool} {ha:List ByteArray} {ra:List (List ByteArray)} {hb:List ByteArray} {rb:List (List ByteArray)} {cols:PL} {names:List ByteArray} (h:rowsE ha ra hb rb cols ≠ 0):rowsL u ha ra hb rb cols names=[]:=if_pos h
theorem com_next (ra rb:List (List ByteArray)) (cols:PL) (i k:Int) (n:Nat) (c:Int × Int) (h:cols[n]?=some c):comN ra rb (cols.take (n+1)) i k=comN ra rb (cols.take n) i k+if cellL ra i c.1=cellL rb k c.2 then 1 else 0:=by
 obtain ⟨hk,e⟩:=List.getElem?_eq_some_iff.1 h
 unfold comN
 rw [List.take_succ_eq_append_getElem hk,e,List.filter_append,List.length_append]
 congr 1
 by_cases he:cellL ra i c.1=cellL rb k c.2
 · simp [he]
 · simp [he]
theorem com_le (ra rb:List (List ByteArray)) (cols:PL) (i k:Int):comN ra rb cols i k≤cols.length:=List.length_filter_le _ _
end
section
open Go.RowKit Go.Shelf Go.Deep
theorem ba_iff (a b:ByteArray):(a.toList == b.toList)=decide (a=b):=by
 rw [str_beq]
 by_cases h:a=b
 · subst h;simp
 · rw [decide_eq_false h]
   exact decide_eq_false (fun e=>h (ba_eq e))
theorem rcommon_any (ho:Option Addr) (n1 hc:Nat) (ro:Option Addr) (rc:Nat) (ra:List (List ByteArray)) (bo:Option Addr) (n2 bc:Nat) (so:Option Addr) (sc:Nat) (rb:List (List ByteArray)) (lo:Option Addr) (lc:Nat) (l:PL) (i k:Int) (w:World)
 (hl:l.length≤1048576) (hR:RowsAt w ro ra) (hS:RowsAt w so rb) (hP:PairsAt w lo l) :
 Calls Tryz.prog 53 #[.agg #[.slice ho n1 hc,.slice ro ra.length rc],.agg #[.slice bo n2 bc,.slice so rb.length sc],.slice lo l.length lc,.int .i64 i,.int .i64 k] w fun e w'=>e=.returned (.int .i64 (comN ra rb l i k:Int))∧Below w.heap.size w w':=by
 obtain ⟨W,HW⟩:∃ W,Hid (W=(w.alloc (TabO ho n1 hc ro ra.length rc)).alloc (TabO bo n2 bc so rb.length sc)):=⟨_,Lib.hid rfl⟩
 have hB:Below w.heap.size w W:=by rw [HW.out];exact two_below _ _ _
 have HB0:=Lib.hid hB
 have hN:=two_new w (TabO ho n1 hc ro ra.length rc) (TabO bo n2 bc so rb.length sc)
 rw [← HW.out] at hN
 have box:Hid (∀ V,Below W.heap.size W V→(V.cell? ⟨w.heap.size,0,none⟩=some (.slice ho n1 hc)∧V.cell? ⟨w.heap.size,1,none⟩=some (.slice ro ra.length rc))∧V.cell? ⟨w.heap.size+1,0,none⟩=some (.slice bo n2 bc)∧V.cell? ⟨w.heap.size+1,1,none⟩=some (.slice so rb.length sc)):=Lib.hid (fun V hV=>⟨tabs ((hV.block _ (lt_of_heap hN.2.1)).trans hN.2.1),tabs ((hV.block _ (lt_of_heap hN.2.2)).trans hN.2.2)⟩)
 have CA:=Lib.hid (fun V (c:Int) (h:Below W.heap.size W V)=>rcell_any ho n1 hc ro rc ra i c V (hR.kept (below_up hB h)))
 have CB:=Lib.hid (fun V (c:Int) (h:Below W.heap.size W V)=>rcell_any bo n2 bc so sc rb k c V (hS.kept (below_up hB h)))
 have HPo:=Lib.hid (hP.kept hB)
 obtain ⟨O,HQ⟩:∃ O:Nat→Nat,Hid (O=fun c=>comN ra rb (l.take c) i k):=⟨_,Lib.hid rfl⟩
 have HNx:Hid (∀ (c:Nat) x,l[c]?=some x→O (c+1)=O c+if cellL ra i x.1=cellL rb k x.2 then 1 else 0):=Lib.hid (fun c x h=>by rw [HQ.out];exact com_next ra rb l i k c x h)
 have HLe:Hid (∀ c,O c≤1048576):=Lib.hid (fun c=>by
  rw [HQ.out]
  have:=com_le ra rb (l.take c) i k
  have h2:=List.length_take_le c l
  show comN ra rb (l.take c) i k≤_
  rw [List.length_take] at this
  omega)
 have HZ:Hid (O 0=0):=Lib.hid (by rw [HQ.out];rfl)
 rw [show comN ra rb l i k=O l.length from by rw [HQ.out];simp]
 clear hR hS hP hB hN
 go_enter Tryz.func53,Tryz.ntmps53
 go_upto_region 1 with fail
 rw [show (w.alloc (Obj.cells #[Value.slice ho n1 hc,Value.slice ro ra.length rc] 25)).alloc (Obj.cells #[Value.slice bo n2 bc,Value.slice so rb.length sc] 25)=W from HW.out.symm]
 go_wp2_with fail
 go_loopw [11,12] (fun v u wr=>∃ (c m:Nat),c≤l.length∧u=.int .i64 c∧v=.int .i64 m∧Hid (m=O c)∧Hid (Below W.heap.size W wr)) (fun _ u _=>l.length - (intOf u).toNat)
 case atStart=>exact ⟨0,0,Nat.zero_le _,rfl,rfl,Lib.hid HZ.out.symm,Lib.hid (Below.refl _ _)⟩
 case round =>
  obtain ⟨c,m,hc2,rfl,rfl,HM,HB⟩:=hrel
  by_cases hlt:c < l.length
  · obtain ⟨⟨x1,x2⟩,hx⟩:∃ x,l[c]?=some x:=⟨_,List.getElem?_eq_getElem hlt⟩
    rcases (HPo.out.kept HB.out) with h0 | ⟨b,o,rfl,hA,hcell⟩
    · rw [h0] at hlt;simp at hlt
    obtain ⟨hc1,hc3⟩:=hcell c _ hx
    have HST:=Lib.hid (HNx.out c _ hx)
    have hm:=HLe.out c
    rw [← HM.out] at hm
    have D1:=Lib.hid (fun V (h:Below W.heap.size W V)=>CA.out V x1 h)
    have D2:=Lib.hid (fun V (h:Below W.heap.size W V)=>CB.out V x2 h)
    dsimp only at hc1 hc3 HST
    obtain ⟨⟨a0,a1⟩,b0,b1⟩:=box.out wr HB.out
    have HCc:Hid (∀ V,Below wr.heap.size wr V→V.cell? ⟨b,o+c * 2,none⟩=some (.int .i64 x1)∧V.cell? ⟨b,o+c * 2+1,none⟩=some (.int .i64 x2)):=Lib.hid (fun V h=>⟨(h.cell (p:=⟨b,_,none⟩) hA).trans hc1,(h.cell (p:=⟨b,_,none⟩) hA).trans hc3⟩)
    have HBel:Hid (Below wr.heap.size wr wr.drew):=Lib.hid ((Below.refl _ _).drew)
    generalize cellL ra i x1=y1 at D1 HST
    generalize cellL rb k x2=y2 at D2 HST
    clear hcell hx
    go_upto_region 5 with fail
    go_region_held3 (fun V=>((V.cell? ⟨w.heap.size,0,none⟩=some (.slice ho n1 hc)∧V.cell? ⟨w.heap.size,1,none⟩=some (.slice ro ra.length rc))∧V.cell? ⟨w.heap.size+1,0,none⟩=some (.slice bo n2 bc)∧V.cell? ⟨w.heap.size+1,1,none⟩=some (.slice so rb.length sc))∧V.cell? ⟨b,o+c * 2,none⟩=some (.int .i64 x1)∧V.cell? ⟨b,o+c * 2+1,none⟩=some (.int .i64 x2)) ((refine ⟨⟨⟨?_,?_⟩,?_,?_⟩,?_,?_⟩ <;> first | assumption | go_keep))
     (first
      | (go_at_call 89;refine (D1.out _ (below_up HB.out HBel.out)).mono ?_;rintro e w2 ⟨rfl,b2⟩;have HBel:=Lib.hid (below_up HBel.out b2);obtain ⟨⟨a0,a1⟩,b0,b1⟩:=box.out w2 (below_up HB.out HBel.out);obtain ⟨hc1,hc3⟩:=HCc.out w2 HBel.out;clear b2 D1)
      | (go_at_call 89;refine (D2.out _ (below_up HB.out HBel.out)).mono ?_;rintro e w3 ⟨rfl,b2⟩;have HBel:=Lib.hid (below_up HBel.out b2);obtain ⟨⟨a0,a1⟩,b0,b1⟩:=box.out w3 (below_up HB.out HBel.out);obtain ⟨hc1,hc3⟩:=HCc.out w3 HBel.out;clear b2 D2))
    rename_i hHeld
    clear hHeld
    have HB3:=Lib.hid (below_up HB.out HBel.out)
    by_cases hy:y1=y2
    · have HM2:Hid (m+1=O (c+1)):=Lib.hid (by rw [HST.out,if_pos hy,HM.out])
      have hbb:(y1.toList == y2.toList)=true:=by rw [ba_iff];exact decide_eq_true hy
      clear HST hy HM
      simp only [hbb]
      go_wp2_with fail
      go_roundw
      case rel=>exact ⟨c+1,m+1,by omega,by go_num,by go_num,HM2,HB3⟩
      case measure=>simp [intOf];omega
    · have HM2:Hid (m=O (c+1)):=Lib.hid (by rw [HST.out,if_neg hy,HM.out];rfl)
      have hbb:(y1.toList == y2.toList)=false:=by rw [ba_iff];exact decide_eq_false hy
      clear HST hy HM
      simp only [hbb]
      go_wp2_with fail
      go_roundw
      case rel=>exact ⟨c+1,m,by omega,by go_num,rfl,HM2,HB3⟩
      case measure=>simp [intOf];omega
  · obtain rfl:c=l.length:=by omega
    have HE:Hid ((.returned (.int .i64 (m:Int)):Ending)=.returned (.int .i64 (O l.length:Int))∧Below w.heap.size w wr):=Lib.hid ⟨by rw [HM.out],below_up HB0.out HB.out⟩
    clear HM
    go_wp2_with fail
    go_ret
    exact HE.out
end
end Go.Proofs.YtdenehnneloegaaGreatDoor
