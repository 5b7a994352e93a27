/-
  Texts of these rows' proofs, laid one behind the other: ICmp2, IParts, IParts2, IZ.
  Conditions: those of each theorem.
-/
import Derived.WalkKit
import Derived.WalkMore
import Derived.IntWalk
import Derived.Lib.Hide
import Derived.StillTailTactics
import Derived.Deep.Cut
import Derived.Test.YtdenehnneloegaaGreatDoorProg
import Derived.Test.YtdenehnneloegaaGreatDoorPa28
import Derived.Maps.Own
import Derived.Maps.OwnOps
import Derived.Maps.Views
import Derived.WalkArith
import Derived.OwnWalk
import Derived.Lib.SmallJoins
import Derived.Laws.OwnMore
import Derived.Sort.Grow
import Derived.Sort.OwnSorted
import Derived.Shelf.SlSortCmp.NoneTotal
import Derived.RegionTactic
import Derived.BigRegion
import Derived.BigQuiet
import Derived.Deep.QuietTactic
import Derived.Deep.CutRange
import Derived.Test.YtdenehnneloegaaGreatDoorPa5
namespace Go.Proofs.YtdenehnneloegaaGreatDoor
set_option linter.unusedVariables false
set_option maxRecDepth 100000
set_option maxHeartbeats 8000000
section
open Go.RowKit Go.Shelf
theorem cmpI_any (G:FuncId) (c1 c2:Value) (f:Int→ByteArray→Int) (ao bo:Option Addr) (ca cb:Nat) (xs:List (Int)) (ys:List (ByteArray)) (w:World) (hent:∀ args w,(callFunc G args).run Tryz.prog w=.ok (.enter G args) w) (hn:xs.length≤274877906944) (hm:ys.length≤274877906944) (hR:IntsAt w ao xs) (hS:StrRow w bo ys)
 (hby:∀ (k:Nat) x y,xs[k]?=some x→ys[k]?=some y→∀ W,Below w.heap.size w W→Calls Tryz.prog G #[.int .i64 x,.string y,c1,c2] W fun e w'=>e=.returned (.int .i64 (f x y))∧Below W.heap.size W w') :
 Calls Tryz.prog 136 #[.slice ao xs.length ca,.slice bo ys.length cb,.func (.func G) #[] #[c1,c2]] w fun e w'=>e=.returned (.int .i64 (lexH f xs ys))∧Below w.heap.size w w':=by
 have HRo:=Lib.hid hR
 have HSo:=Lib.hid hS
 have C:=Lib.hid hby
 have CE:=Lib.hid (fun W=>compare_any (xs.length:Int) (ys.length:Int) W)
 have HH:=Lib.hid (lex_hit f xs ys)
 have HE:=Lib.hid (lex_end f xs ys)
 obtain ⟨m,hmin⟩:∃ m,m=min xs.length ys.length:=⟨_,rfl⟩
 have hmin2:min (xs.length:Int) (ys.length:Int)=(m:Int):=by omega
 have hmx:m≤xs.length:=by omega
 have hmy:m≤ys.length:=by omega
 have HM:=Lib.hid hmin
 clear hR hS hby hmin
 generalize lexH f xs ys=F at HH HE ⊢
 generalize cmpI (xs.length:Int) (ys.length:Int)=fe at CE HE
 go_enter Tryz.func136,Tryz.ntmps136
 go_wp2_with fail
 go_loopw [14] (fun i wr=>∃ (k:Nat),k≤m∧i=.int .i64 k∧Hid (Below w.heap.size w wr)∧Hid (∀ (j:Nat) x y,j < k→xs[j]?=some x→ys[j]?=some y→f x y=0)) (fun i _=>m - (intOf i).toNat)
 case atStart=>exact ⟨0,Nat.zero_le _,by first | rfl | go_num,Lib.hid (Below.refl _ _),Lib.hid (fun j x y hj _ _=>by omega)⟩
 case round =>
  obtain ⟨k,hk,rfl,HB,HZ⟩:=hrel
  by_cases hlt:k < m
  · obtain ⟨x,hx⟩:∃ x,xs[k]?=some x:=⟨_,List.getElem?_eq_getElem (by omega)⟩
    obtain ⟨y,hy⟩:∃ y,ys[k]?=some y:=⟨_,List.getElem?_eq_getElem (by omega)⟩
    rcases (HRo.out.kept HB.out) with h0 | ⟨A,rfl,hA,hcell1⟩
    · rw [h0] at hx;simp at hx
    have hc1:=hcell1 k _ hx
    clear hcell1
    rcases (HSo.out.kept HB.out) with h0 | ⟨B,rfl,hB,hcell2⟩
    · rw [h0] at hy;simp at hy
    have hc2:=hcell2 k _ hy
    clear hcell2
    have C1:=Lib.hid (C.out k x y hx hy wr.drew (bdn (n:=1) HB.out))
    have HX:=Lib.hid hx
    have HY:=Lib.hid hy
    have hkx:k < xs.length:=by omega
    have hky:k < ys.length:=by omega
    have HF:Hid (f x y ≠ 0→F=f x y):=Lib.hid (fun h=>HH.out k x y hx hy HZ.out h)
    clear hx hy
    obtain ⟨r,hr⟩:∃ r,r=f x y:=⟨_,rfl⟩
    rw [← hr] at C1 HF
    have HRr:=Lib.hid hr
    clear hr
    go_upto_region 4 with fail
    go_still_tail 9,(by kernel_rfl)
    rw [show ({ heap:=wr.heap,tape:=wr.tape,drawn:=wr.drawn+1,os:=wr.os,output:=wr.output }:World)=wr.drew from rfl]
    by_cases h0:r=0
    · have HZ2:Hid (∀ (j:Nat) x y,j < k+1→xs[j]?=some x→ys[j]?=some y→f x y=0):=Lib.hid (fun j x' y' hj h1 h2=>by
       by_cases e:j=k
       · subst e;rw [HX.out] at h1;rw [HY.out] at h2;cases h1;cases h2;rw [← HRr.out];exact h0
       · exact HZ.out j x' y' (by omega) h1 h2)
      clear HF
      subst h0
      go_wp2_with fail
      refine C1.out.mono ?_;rintro e w2 ⟨rfl,b1⟩
      have B1:=Lib.hid (below_up (show Below w.heap.size w wr.drew from bdn (n:=1) HB.out) b1)
      clear b1
      go_wp2_with fail
      go_roundw
      case rel=>exact ⟨k+1,by omega,by go_num,B1,HZ2⟩
      case measure=>simp [intOf];omega
    · have E:=Lib.hid (HF.out h0)
      have hb:(r != 0)=true:=by simpa using h0
      clear HF
      go_wp2_with fail
      refine C1.out.mono ?_;rintro e w2 ⟨rfl,b1⟩
      have B1:=Lib.hid (below_up (show Below w.heap.size w wr.drew from bdn (n:=1) HB.out) b1)
      clear b1
      go_wp2_with fail
      go_ret
      exact ⟨by rw [E.out];rfl,B1.out⟩
  · obtain rfl:k=m:=by omega
    have E:Hid (F=fe):=Lib.hid (HE.out (fun j x y h1 h2=>HZ.out j x y (by have:=(List.getElem?_eq_some_iff.1 h1).1;have:=(List.getElem?_eq_some_iff.1 h2).1;have:=HM.out;omega) h1 h2))
    go_wp2_with fail
    refine (CE.out _).mono ?_;rintro e w2 ⟨rfl,rfl⟩
    go_wp2_with fail
    go_ret
    exact ⟨by rw [E.out];rfl,HB.out⟩
theorem cmpP_any (G:FuncId) (f:Part→Part→Int) (ao bo:Option Addr) (ca cb:Nat) (xs:List (Part)) (ys:List (Part)) (w:World) (hent:∀ args w,(callFunc G args).run Tryz.prog w=.ok (.enter G args) w) (hn:xs.length≤274877906944) (hm:ys.length≤274877906944) (hR:PartsAt w ao xs) (hS:PartsAt w bo ys)
 (hby:∀ (k:Nat) x y,xs[k]?=some x→ys[k]?=some y→∀ W,Below w.heap.size w W→Calls Tryz.prog G #[.agg #[.int .i64 x.1,.string x.2],.agg #[.int .i64 y.1,.string y.2]] W fun e w'=>e=.returned (.int .i64 (f x y))∧Below W.heap.size W w') :
 Calls Tryz.prog 86 #[.slice ao xs.length ca,.slice bo ys.length cb,.func (.func G) #[] #[]] w fun e w'=>e=.returned (.int .i64 (lexH f xs ys))∧Below w.heap.size w w':=by
 have HRo:=Lib.hid hR
 have HSo:=Lib.hid hS
 have C:=Lib.hid hby
 have CE:=Lib.hid (fun W=>compare_any (xs.length:Int) (ys.length:Int) W)
 have HH:=Lib.hid (lex_hit f xs ys)
 have HE:=Lib.hid (lex_end f xs ys)
 obtain ⟨m,hmin⟩:∃ m,m=min xs.length ys.length:=⟨_,rfl⟩
 have hmin2:min (xs.length:Int) (ys.length:Int)=(m:Int):=by omega
 have hmx:m≤xs.length:=by omega
 have hmy:m≤ys.length:=by omega
 have HM:=Lib.hid hmin
 clear hR hS hby hmin
 generalize lexH f xs ys=F at HH HE ⊢
 generalize cmpI (xs.length:Int) (ys.length:Int)=fe at CE HE
 go_enter Tryz.func86,Tryz.ntmps86
 go_wp2_with fail
 go_loopw [14] (fun i wr=>∃ (k:Nat),k≤m∧i=.int .i64 k∧Hid (Below w.heap.size w wr)∧Hid (∀ (j:Nat) x y,j < k→xs[j]?=some x→ys[j]?=some y→f x y=0)) (fun i _=>m - (intOf i).toNat)
 case atStart=>exact ⟨0,Nat.zero_le _,by first | rfl | go_num,Lib.hid (Below.refl _ _),Lib.hid (fun j x y hj _ _=>by omega)⟩
 case round =>
  obtain ⟨k,hk,rfl,HB,HZ⟩:=hrel
  by_cases hlt:k < m
  · obtain ⟨x,hx⟩:∃ x,xs[k]?=some x:=⟨_,List.getElem?_eq_getElem (by omega)⟩
    obtain ⟨y,hy⟩:∃ y,ys[k]?=some y:=⟨_,List.getElem?_eq_getElem (by omega)⟩
    rcases (HRo.out.kept HB.out) with h0 | ⟨b1,o1,rfl,hA,hcell1⟩
    · rw [h0] at hx;simp at hx
    obtain ⟨hc1,hc1'⟩:=hcell1 k _ hx
    clear hcell1
    rcases (HSo.out.kept HB.out) with h0 | ⟨b2,o2,rfl,hB,hcell2⟩
    · rw [h0] at hy;simp at hy
    obtain ⟨hc2,hc2'⟩:=hcell2 k _ hy
    clear hcell2
    have C1:=Lib.hid (C.out k x y hx hy wr.drew (bdn (n:=1) HB.out))
    have HX:=Lib.hid hx
    have HY:=Lib.hid hy
    have hkx:k < xs.length:=by omega
    have hky:k < ys.length:=by omega
    have HF:Hid (f x y ≠ 0→F=f x y):=Lib.hid (fun h=>HH.out k x y hx hy HZ.out h)
    clear hx hy
    obtain ⟨r,hr⟩:∃ r,r=f x y:=⟨_,rfl⟩
    rw [← hr] at C1 HF
    have HRr:=Lib.hid hr
    clear hr
    obtain ⟨x1,x2⟩:=x
    obtain ⟨y1,y2⟩:=y
    dsimp only at hc1 hc1' hc2 hc2' C1
    go_upto_region 4 with fail
    go_still_tail 9,(by kernel_rfl)
    rw [show ({ heap:=wr.heap,tape:=wr.tape,drawn:=wr.drawn+1,os:=wr.os,output:=wr.output }:World)=wr.drew from rfl]
    by_cases h0:r=0
    · have HZ2:Hid (∀ (j:Nat) x y,j < k+1→xs[j]?=some x→ys[j]?=some y→f x y=0):=Lib.hid (fun j x' y' hj h1 h2=>by
       by_cases e:j=k
       · subst e;rw [HX.out] at h1;rw [HY.out] at h2;cases h1;cases h2;rw [← HRr.out];exact h0
       · exact HZ.out j x' y' (by omega) h1 h2)
      clear HF
      subst h0
      go_wp2_with fail
      refine C1.out.mono ?_;rintro e w2 ⟨rfl,b1⟩
      have B1:=Lib.hid (below_up (show Below w.heap.size w wr.drew from bdn (n:=1) HB.out) b1)
      clear b1
      go_wp2_with fail
      go_roundw
      case rel=>exact ⟨k+1,by omega,by go_num,B1,HZ2⟩
      case measure=>simp [intOf];omega
    · have E:=Lib.hid (HF.out h0)
      have hb:(r != 0)=true:=by simpa using h0
      clear HF
      go_wp2_with fail
      refine C1.out.mono ?_;rintro e w2 ⟨rfl,b1⟩
      have B1:=Lib.hid (below_up (show Below w.heap.size w wr.drew from bdn (n:=1) HB.out) b1)
      clear b1
      go_wp2_with fail
      go_ret
      exact ⟨by rw [E.out];rfl,B1.out⟩
  · obtain rfl:k=m:=by omega
    have E:Hid (F=fe):=Lib.hid (HE.out (fun j x y h1 h2=>HZ.out j x y (by have:=(List.getElem?_eq_some_iff.1 h1).1;have:=(List.getElem?_eq_some_iff.1 h2).1;have:=HM.out;omega) h1 h2))
    go_wp2_with fail
    refine (CE.out _).mono ?_;rintro e w2 ⟨rfl,rfl⟩
    go_wp2_with fail
    go_ret
    exact ⟨by rw [E.out];rfl,HB.out⟩
end
section
open Go.RowKit Go.Shelf Go.Sort Go.Maps
def encN (c:Nat→ByteArray) (i:Nat):List Value:=[.int .i64 i,.string (c i)]
def cellsN (c:Nat→ByteArray) (l:List Nat):List Value:=l.flatMap (encN c)
theorem cellsN_cons (c:Nat→ByteArray) (i:Nat) (l:List Nat):cellsN c (i :: l)=.int .i64 i :: .string (c i) :: cellsN c l:=rfl
theorem cellsN_length (c:Nat→ByteArray) (l:List Nat):(cellsN c l).length=l.length * 2:=by
 induction l with
 | nil=>rfl
 | cons p l ih=>rw [cellsN_cons];simp only [List.length_cons,ih];omega
theorem cellsN_app (c:Nat→ByteArray) (l m:List Nat):cellsN c (l ++ m)=cellsN c l ++ cellsN c m:=by simp [cellsN]
theorem cellsN_at (c:Nat→ByteArray) (l:List Nat) (k i:Nat) (h:l[k]?=some i):(cellsN c l)[k * 2]?=some (.int .i64 i)∧(cellsN c l)[k * 2+1]?=some (.string (c i)):=by
 induction l generalizing k with
 | nil=>simp at h
 | cons q l ih =>
  cases k with
  | zero=>simp at h;subst h;exact ⟨rfl,rfl⟩
  | succ k =>
   have:=ih k (by simpa using h)
   rw [cellsN_cons,show (k+1) * 2=k * 2+1+1 from by omega]
   simpa using this
def OwnN (w:World) (base:Nat) (c:Nat→ByteArray) (v:Value) (l:List Nat):Prop:=w.ownsRow base 116 2 v l.length (cellsN c l)
theorem OwnN.partsAt {w:World} {base:Nat} {c:Nat→ByteArray} {v:Value} {l:List Nat} (h:OwnN w base c v l):∃ ao cap,v=.slice ao l.length cap∧PartsAt w ao (l.map fun i=>(i,c i))∧(∀ A,ao=some A→base≤A.block):=by
 rcases h.2 with ⟨rfl,h0⟩ | ⟨g,cap,cur,rfl,h1,h2,h3,h4,h5,h6⟩
 · have hl:l=[]:=List.eq_nil_of_length_eq_zero h0
   subst hl
   exact ⟨none,0,rfl,.inl rfl,fun A e=>by cases e⟩
 · refine ⟨_,cap,rfl,.inr ⟨g,0,rfl,(World.ownsRow.lt h g rfl).2,fun i p hp=>?_⟩,fun A e=>by cases e;exact h1⟩
   rw [List.getElem?_map] at hp
   obtain ⟨j,hj,rfl⟩:=Option.map_eq_some_iff.1 hp
   obtain ⟨c1,c2⟩:=cellsN_at c l i j hj
   have k1:=World.ownsRow.cells h rfl (i * 2) _ c1
   have k2:=World.ownsRow.cells h rfl (i * 2+1) _ c2
   have e:∀ j,(⟨g,0,none⟩:Addr).add j=⟨g,0+j,none⟩:=fun j=>by unfold Addr.add;split <;> simp_all
   rw [e] at k1 k2
   exact ⟨k1,by rw [Nat.add_assoc];exact k2⟩
theorem lit_cellQ (w:World) (a b:Value) (T:TypeId):∀ (j:Nat) u,[a,b][j]?=some u→(w.alloc (.cells #[a,b] T)).cell? ((⟨w.heap.size,0,none⟩:Addr).add j)=some u:=fun j u hj=>by
 rw [cell_row (World.alloc_heap_new w _)]
 match j,hj with
 | 0,hj=>simp at hj;subst hj;rfl
 | 1,hj=>simp at hj;subst hj;rfl
theorem flat_cellsN (c:Nat→ByteArray) (l:List Nat):flatK (encN c) 2 l.toArray=(cellsN c l).toArray:=by
 refine ext_get! (by simp [cellsN_length]) (fun t ht=>?_)
 have ht':t < l.length * 2:=by simpa using ht
 rw [get_flatK _ _ _ t (by simpa using ht')]
 obtain ⟨p,hp⟩:∃ p,l[t / 2]?=some p:=⟨_,List.getElem?_eq_getElem (by omega)⟩
 have e1:l.toArray[t / 2]! = p:=by simp [Array.getElem!_eq_getD,Array.getD_eq_getD_getElem?,hp]
 obtain ⟨c1,c2⟩:=cellsN_at c l (t / 2) p hp
 have e2:(cellsN c l).toArray[t]! = ((cellsN c l)[t]?).getD default:=by simp [Array.getElem!_eq_getD,Array.getD_eq_getD_getElem?]
 rw [e1,e2]
 have hm:t % 2=0∨t % 2=1:=by omega
 rcases hm with e | e
 · rw [show t / 2 * 2=t from by omega] at c1;rw [c1,e];rfl
 · rw [show t / 2 * 2+1=t from by omega] at c2;rw [c2,e];rfl
theorem heap_sortedQ {w:World} {g n:Nat} {os:Array Obj} {cur:Array Value} {e:TypeId} {fr:Nat × Nat} (F:Array Value) (hb:w.heap[g]?=some (.cells cur e fr)) :
 (grow (putRow id (Sort.ahead w n) g 0 F) os).heap[g]?=some (.cells (putCells id 0 F cur) e fr):=by
 have hg:g < w.heap.size:=(Array.getElem?_eq_some_iff.1 hb).1
 rw [heap_grow_old _ _ (by simpa using hg)]
 simp [putRow,mapBlock,Sort.ahead,Array.getElem?_modify,hb,onCells]
theorem grownBy_sortedQ {w:World} {g n:Nat} {os:Array Obj} (F:Array Value):w.grownBy (grow (putRow id (Sort.ahead w n) g 0 F) os) (some g):=by
 refine ⟨rfl,rfl,rfl,by simp,fun k hk hne=>?_⟩
 rw [heap_grow_old _ _ (by simpa using hk)]
 have:g ≠ k:=fun e=>hne (by rw [e])
 simp [putRow,mapBlock,Sort.ahead,Array.getElem?_modify,this]
theorem take_putCellsQ (cur F:Array Value) (h:F.size≤cur.size):(putCells id 0 F cur).toList.take F.size=F.toList:=by
 apply List.ext_getElem?
 intro j
 by_cases hj:j < F.size
 · rw [List.getElem?_take_of_lt hj,Array.getElem?_toList]
   simp [putCells,hj,show j < cur.size by omega]
 · rw [List.getElem?_take_eq_none (by omega),List.getElem?_eq_none (by simp;omega)]
theorem OwnN.holds {w:World} {base:Nat} {c:Nat→ByteArray} {g n cap:Nat} {l:List Nat} (h:OwnN w base c (.slice (some ⟨g,0,none⟩) n cap) l) (hl:l.length=n):HoldsK (encN c) 2 w g 0 l.toArray:=by
 unfold OwnN at h
 subst hl
 unfold HoldsK
 rw [flat_cellsN]
 intro j hj
 have hj':j < (cellsN c l).length:=by simpa using hj
 rw [Nat.zero_add]
 refine ⟨?_,h.frozenAt j⟩
 have:=h.cellAt j (by rw [cellsN_length] at hj';exact hj')
 rw [this]
 simp [List.getElem?_eq_getElem hj',Array.getElem!_eq_getD,Array.getD_eq_getD_getElem?]
theorem OwnN.sorted {w:World} {base:Nat} {c:Nat→ByteArray} {g n cap k:Nat} {l m:List Nat} {os:Array Obj} (h:OwnN w base c (.slice (some ⟨g,0,none⟩) n cap) l) (hl:l.length=n) (hm:m.length=n):OwnN (sortWorldK (encN c) 2 w g 0 k m.toArray os) base c (.slice (some ⟨g,0,none⟩) n cap) m:=by
 unfold OwnN at h ⊢
 unfold sortWorldK putRowK
 rw [flat_cellsN]
 rw [hl] at h
 rw [hm]
 rcases h.2 with ⟨h0,_⟩ | ⟨g',cap',cur,hv,hbase,hb,r1,r2,r3,r4⟩
 · cases h0
 · cases hv
   have hl:(cellsN c m).length=n * 2:=by rw [cellsN_length,hm]
   refine ⟨hl,.inr ⟨g,cap,_,rfl,hbase,heap_sortedQ _ hb,r1,r2,by simp [putCells,r3],?_⟩⟩
   have:=take_putCellsQ cur (cellsN c m).toArray (by rw [r3];simp [hl];omega)
   rw [List.size_toArray,hl] at this
   exact this
def cfN (i j:Nat):Int:=cmpI i j
theorem ltN:ltOf cfN=fun i j=>decide (i < j):=by
 funext i j
 show decide (cmpI i j < 0)=_
 rw [cmpI_neg]
 by_cases h:i < j
 · rw [decide_eq_true h];exact decide_eq_true (by omega)
 · rw [decide_eq_false h];exact decide_eq_false (by omega)
theorem swoN:SWO (ltOf cfN) where
 irrefl x:=by rw [ltN];simp
 trans x y z h1 h2:=by rw [ltN] at *;simp at *;omega
 ntrans x y z h1 h2:=by rw [ltN] at *;simp at *;omega
theorem partCmp_any (i j:Nat) (a b:ByteArray) (w:World) :
 Calls Tryz.prog 185 #[.agg #[.int .i64 i,.string a],.agg #[.int .i64 j,.string b]] w fun e w'=>e=.returned (.int .i64 (cfN i j))∧∃ q os',w'=grow (w.drewN q) os':=by
 have C1:=Lib.hid (fun W=>compare_any (i:Int) (j:Int) W)
 have HG:Hid (∃ q os',(w.alloc (.cells #[.int .i64 i,.string a] 116)).alloc (.cells #[.int .i64 j,.string b] 116)=grow (w.drewN q) os'):=Lib.hid ⟨0,_,by rw [alloc_eq_grow,alloc_eq_grow,grow_grow];rfl⟩
 unfold cfN
 generalize cmpI (i:Int) (j:Int)=r at C1 ⊢
 go_enter Tryz.func185,Tryz.ntmps185
 go_wp2_with fail
 refine (C1.out _).mono ?_;rintro e w1 ⟨rfl,rfl⟩
 go_wp2_with fail
 go_ret
 exact ⟨rfl,HG.out⟩
theorem psort_any (c:Nat→ByteArray) (base g n cap:Nat) (l:List Nat) (w:World) (hn:n≤1099511627776) (hl:l.length=n) (hO:OwnN w base c (.slice (some ⟨g,0,none⟩) n cap) l) :
 Calls Tryz.prog 184 #[.slice (some ⟨g,0,none⟩) n cap,.func (.func 185) #[] #[]] w fun e w'=>e=.returned (.tuple #[])∧OwnN w' base c (.slice (some ⟨g,0,none⟩) n cap) (l.mergeSort fun x y=>decide (x≤y))∧w.grownBy w' (some g):=by
 have hc:CmpLays Tryz.prog 185 #[] (encN c) 2 cfN g 0 l.toArray.size w:=fun m os dk _ x y=>partCmp_any x y _ _ _
 have h:=AnyQ.slices_SortFunc_total laysFi 2 Tryz.isAgg116 Tryz.sizeOf116 (encN c) (fun _=>rfl) (fun x v hv=>by simp [encN] at hv;rcases hv with rfl | rfl <;> rfl) cfN swoN 185 #[] g 0 cap l.toArray w (enters_of Tryz.func185 (by kernel_rfl) rfl) hc (hO.holds hl) (World.ownsRow.lt hO g rfl).2 (by simp;omega) (fun x y h k=>by rw [ltN] at h k;simp at h k;omega)
 rw [List.size_toArray,hl,ltN] at h
 refine h.mono ?_
 rintro e w' ⟨rfl,k,os,rfl⟩
 have e:(l.mergeSort fun x y=>!decide (y < x))=(l.mergeSort fun x y=>decide (x≤y)):=by
  congr 1
  funext x y
  by_cases h:y < x
  · rw [decide_eq_true h,decide_eq_false (by omega)];rfl
  · rw [decide_eq_false h,decide_eq_true (by omega)];rfl
 rw [e]
 exact ⟨rfl,hO.sorted hl (by rw [List.length_mergeSort,hl]),by unfold sortWorldK putRowK;exact grownBy_sortedQ _⟩
end
section
open Go.RowKit Go.Shelf Go.Maps
theorem found_none (rs:List (List ByteArray)) (cols:List Int) (row:Int) (k:Nat) (h:spotO rs cols row k=none):foundL rs cols row (k+1)=foundL rs cols row k:=by
 unfold foundL;rw [List.range_succ,List.filterMap_append];simp [h]
theorem found_some (rs:List (List ByteArray)) (cols:List Int) (row:Int) (k i:Nat) (h:spotO rs cols row k=some i):foundL rs cols row (k+1)=foundL rs cols row k ++ [i]:=by
 unfold foundL;rw [List.range_succ,List.filterMap_append];simp [h]
theorem found_le (rs:List (List ByteArray)) (cols:List Int) (row:Int) (k:Nat):(foundL rs cols row k).length≤k:=by
 unfold foundL;exact Nat.le_trans (List.length_filterMap_le _ _) (by simp)
theorem found_len (rs:List (List ByteArray)) (cols:List Int) (row:Nat) (r:List ByteArray) (hr:rs[row]?=some r):(foundL rs cols row r.length).length=(partsL rs cols row).length:=by
 rw [parts_spots,List.length_map,← found_sorted rs cols row r hr,List.length_mergeSort]
theorem OwnN.above {w:World} {base:Nat} {c:Nat→ByteArray} {go:Option Addr} {q cp:Nat} {l:List Nat} (h:OwnN w base c (.slice go q cp) l):∀ A,go=some A→base≤A.block:=fun A e=>by
 unfold OwnN at h
 rcases h.2 with ⟨h1,_⟩ | ⟨g,cap,cur,h1,h2,_⟩
 · simp only [Value.slice.injEq] at h1;rw [h1.1] at e;cases e
 · simp only [Value.slice.injEq] at h1;rw [h1.1] at e;cases e;exact h2
theorem OwnN.there {w:World} {base:Nat} {c:Nat→ByteArray} {go:Option Addr} {q cp:Nat} {l:List Nat} (h:OwnN w base c (.slice go q cp) l) (hq:q ≠ 0):∃ g,go=some ⟨g,0,none⟩:=by
 unfold OwnN at h
 rcases h.2 with ⟨h1,_⟩ | ⟨g,cap,cur,h1,h2,_⟩
 · simp only [Value.slice.injEq] at h1;exact absurd h1.2.1 hq
 · simp only [Value.slice.injEq] at h1;exact ⟨g,h1.1⟩
theorem OwnN.come {w:World} {base:Nat} {c:Nat→ByteArray} {ao:Option Addr} {q cp:Nat} {l:List Nat} (h:OwnN w base c (.slice ao q cp) l):PartsAt w ao (l.map fun i=>(i,c i)):=by
 obtain ⟨ao',cap,e1,e2,e3⟩:=h.partsAt
 simp only [Value.slice.injEq] at e1
 rw [e1.1];exact e2
def PartsOutI (L:List Part) (w:World) (e:Ending) (w':World):Prop:=∃ po pc,e=.returned (.slice po L.length pc)∧PartsAt w' po L∧(∀ A,po=some A→w.heap.size≤A.block)∧Below w.heap.size w w'
theorem partsOf_any (ho:Option Addr) (m hc:Nat) (ro:Option Addr) (rc:Nat) (rs:List (List ByteArray)) (row:Nat) (r:List ByteArray) (hr:rs[row]?=some r) (B n:Nat) (D:DataW Unit) (cols:List Int) (w:World) (hcl:cols.length≤1073741824)
 (hn2:rs.length≤1099511627776) (hx:∀ r ∈ rs,r.length≤1099511627776∧∀ c ∈ r,c.size≤281474976710656) (hR:RowsAt w ro rs) (hM:w.ownsMap Tryz.prog 3 (plainElem Tryz.prog 3) B n D) (hD:FirstIsI D (colsP cols)) :
 Calls Tryz.prog 133 #[.agg #[.slice ho m hc,.slice ro rs.length rc],.int .i64 row,.map (some B)] w (PartsOutI (partsL rs cols row) w):=by
 have hinfo:(Tryz.prog.info? 116).map (fun i=>(i.zero,i.size,i.bytes))=some (some (.agg #[.int .i64 0,.string ⟨#[]⟩]),2,24):=by kernel_rfl
 obtain ⟨i0,hi,hz0,hz1,hz2⟩:=info_parts2 hinfo
 have HI:=Lib.hid hi
 have HRo:=Lib.hid hR
 have hrl:row < rs.length:=(List.getElem?_eq_some_iff.1 hr).1
 have HRW:=Lib.hid hr
 have HRl:r.length≤1099511627776:=(hx r (List.mem_of_getElem? hr)).1
 have CC:=Lib.hid (fun W (k:Nat) (h:Below w.heap.size w W)=>tcell_any ho m hc ro rc rs (row:Int) (k:Int) W hn2 hx (hR.kept h))
 have HNew:=Lib.hid (World.alloc_heap_new w (TabO ho m hc ro rs.length rc))
 have HB0:=Lib.hid (one_below w (TabO ho m hc ro rs.length rc))
 have HM0:=Lib.hid (ownsMapI_below hM HB0.out)
 have HD:=Lib.hid hD
 obtain ⟨O,HQ⟩:∃ O:Nat→List Nat,Hid (O=foundL rs cols row):=⟨_,Lib.hid rfl⟩
 obtain ⟨cl,HCl⟩:∃ cl:Nat→ByteArray,Hid (cl=placeC rs cols row):=⟨_,Lib.hid rfl⟩
 have HFin:Hid (((O r.length).mergeSort fun x y=>decide (x≤y)).map (fun i=>(i,cl i))=partsL rs cols row):=Lib.hid (by rw [HQ.out,HCl.out,found_sorted rs cols row r hr,← parts_spots])
 have HFl:Hid ((O r.length).length=(partsL rs cols row).length):=Lib.hid (by rw [HQ.out];exact found_len rs cols row r hr)
 generalize partsL rs cols row=L at HFin HFl ⊢
 clear hi hinfo hR hr hx hM hD
 go_enter Tryz.func133,Tryz.ntmps133
 go_upto_region 2 with fail
 obtain ⟨W0,HW0⟩:∃ W,Hid (W=w.alloc (TabO ho m hc ro rs.length rc)):=⟨_,Lib.hid rfl⟩
 rw [show w.alloc (TabO ho m hc ro rs.length rc)=W0 from HW0.out.symm] at HB0 HNew HM0
 try rw [← HW0.out]
 obtain ⟨c0,c1⟩:=tabs HNew.out
 rcases (HRo.out.kept HB0.out) with h0 | ⟨A,rfl,hA,hcell⟩
 · rw [h0] at hrl;simp at hrl
 obtain ⟨xo,xc,hcr,hxr⟩:=hcell row r HRW.out
 clear hcell hxr
 have HW1:Hid (w.heap.size+1=W0.heap.size):=Lib.hid (by rw [HW0.out];simp)
 have HT:Hid (OwnN W0 (w.heap.size+1) cl (.slice none 0 0) (O 0)):=Lib.hid (by rw [show O 0=[] from by rw [HQ.out];rfl];exact World.ownsRow_nil _ _ _ _)
 have hL0:(O 0).length=0:=by rw [HQ.out];rfl
 have HH:Hid (∀ V,Below w.heap.size w V→w.heap.size+1≤V.heap.size→True):=Lib.hid (fun _ _ _=>trivial)
 go_wp2_with fail
 clear c0 c1 hcr
 go_loopw [7,18] (fun v i wr=>∃ (k q cp:Nat) (go:Option Addr),k≤r.length∧i=.int .i64 k∧v=.slice go q cp∧Hid (q=(O k).length)∧Hid (Below W0.heap.size W0 wr)∧Hid (wr.ownsMap Tryz.prog 3 (plainElem Tryz.prog 3) B n D)∧Hid (OwnN wr (w.heap.size+1) cl (.slice go q cp) (O k))) (fun _ i _=>r.length - (intOf i).toNat)
 case atStart=>exact ⟨0,0,0,none,Nat.zero_le _,rfl,rfl,Lib.hid hL0.symm,Lib.hid (Below.refl _ _),HM0,HT⟩
 case round =>
  obtain ⟨k,q,cp,go,hk,rfl,rfl,HQ2,HB,HO,HT⟩:=hrel
  by_cases hlt:k < r.length
  · have hwk:(Lit.int .i64 (k:Int)).wf=true:=Go.WalkArith.wf_i64 (n:=(k:Int)) (by omega)
    have hlook:=first_lookI HO.out HD.out (k:Int) hwk
    have C1:=Lib.hid (CC.out wr k (below_up HB0.out HB.out))
    obtain ⟨c0,c1⟩:=tabs ((HB.out.block _ (lt_of_heap HNew.out)).trans HNew.out)
    have HS:Hid (spotO rs cols row k=match firstBI (colsP cols) k with | some a=>if cellL rs row k=ByteArray.empty then none else some a.toNat | none=>none):=Lib.hid rfl
    have HN0:Hid (spotO rs cols row k=none→O (k+1)=O k):=Lib.hid (fun h=>by rw [HQ.out];exact found_none rs cols row k h)
    have HN1:Hid (∀ i,spotO rs cols row k=some i→O (k+1)=O k ++ [i]∧firstBI (colsP cols) k=some (i:Int)∧cl i=cellL rs row k∧i < 1073741824):=Lib.hid (fun i h=>by
     obtain ⟨h1,h2,h3⟩:=spot_is rs cols row k i h
     refine ⟨by rw [HQ.out];exact found_some rs cols row k i h,h1,?_,?_⟩
     · rw [HCl.out];unfold placeC;rw [List.getD_eq_getElem?_getD,h3];rfl
     · have:=(List.getElem?_eq_some_iff.1 h3).1;omega)
    have HLe:Hid ((O k).length≤k):=Lib.hid (by rw [HQ.out];exact found_le rs cols row k)
    generalize spotO rs cols row k=sp at HS HN0 HN1
    generalize firstBI (colsP cols) k=fx at hlook HS HN1
    generalize cellL rs row k=x at C1 HS HN1
    cases fx with
    | none =>
     have hs:sp=none:=HS.out
     have HT2:Hid (OwnN wr (w.heap.size+1) cl (.slice go q cp) (O (k+1))):=Lib.hid (by rw [HN0.out hs];exact HT.out)
     have HQ3:Hid (q=(O (k+1)).length):=Lib.hid (by rw [HN0.out hs];exact HQ2.out)
     clear hs HS HN0 HN1 C1 c0 c1
     go_wp2_with fail
     go_roundw
     case rel=>exact ⟨k+1,q,cp,go,by omega,by go_num,rfl,HQ3,HB,HO,HT2⟩
     case measure=>simp [intOf];omega
    | some a =>
     by_cases hxe:x=ByteArray.empty
     · have hs:sp=none:=by rw [HS.out];simp only;rw [if_pos hxe]
       have HT2:Hid (OwnN wr (w.heap.size+1) cl (.slice go q cp) (O (k+1))):=Lib.hid (by rw [HN0.out hs];exact HT.out)
       have HQ3:Hid (q=(O (k+1)).length):=Lib.hid (by rw [HN0.out hs];exact HQ2.out)
       have hbe:x.toList.isEmpty=true:=by rw [ba_toList,hxe];rfl
       clear hs HS HN0 HN1 hxe
       go_wp2_with fail
       refine C1.out.mono ?_;rintro e w2 ⟨rfl,b2⟩
       have HB2:=Lib.hid (below_up HB.out b2)
       have HO2:=Lib.hid (ownsMapI_below HO.out b2)
       have HT3:Hid (OwnN w2 (w.heap.size+1) cl (.slice go q cp) (O (k+1))):=Lib.hid (ownsRow_below HT2.out b2)
       clear b2 c0 c1 HT2
       go_wp2_with fail
       go_roundw
       case rel=>exact ⟨k+1,q,cp,go,by omega,by go_num,rfl,HQ3,HB2,HO2,HT3⟩
       case measure=>simp [intOf];omega
     · have hs:sp=some a.toNat:=by rw [HS.out];simp only;rw [if_neg hxe]
       obtain ⟨h1,h2,h3,h4⟩:=HN1.out _ hs
       obtain ⟨i,hi⟩:∃ i,i=a.toNat:=⟨_,rfl⟩
       rw [← hi] at h1 h2 h3 h4
       simp only [Option.some.injEq] at h2
       subst h2
       have HST:=Lib.hid h1
       have HX3:=Lib.hid h3
       have hne:x.toList.isEmpty=false:=by
        cases h:x.toList.isEmpty with
        | false=>rfl
        | true =>
         exfalso
         apply hxe
         have h6:x.data.toList=[]:=by rw [← ba_toList];exact List.isEmpty_iff.1 h
         cases x;simp at h6;subst h6;rfl
       clear hs HS HN0 HN1 hxe h1 h3 hi
       go_wp2_with fail
       refine C1.out.mono ?_;rintro e w2 ⟨rfl,b2⟩
       have HB2:=Lib.hid (below_up HB.out b2)
       have HO2:=Lib.hid (ownsMapI_below HO.out b2)
       have HT0:Hid (w2.ownsRow (w.heap.size+1) 116 2 (.slice go q cp) q (cellsN cl (O k))):=Lib.hid (by have:=HT.out;unfold OwnN at this;rw [← HQ2.out] at this;exact ownsRow_below this b2)
       have HT1:=Lib.hid (HT0.out.alloc (.cells #[Value.int .i64 (i:Int),Value.string x] 116))
       have hbs:w.heap.size+1≤(w2.alloc (.cells #[Value.int .i64 (i:Int),Value.string x] 116)).heap.size:=by have:=HB2.out.size;have:=HW1.out;simp;omega
       have hq:q≤k:=by rw [HQ2.out];exact HLe.out
       clear b2 c0 c1
       go_wp2_with (at_builtin;refine wpList_append_own _ rfl _ _ 117 rfl (w.heap.size+1) 116 i0 (.agg #[.int .i64 0,.string ⟨#[]⟩]) 2 24 Tryz.underlying117 HI.out hz0 hz1 hz2 rfl (by decide) _ _ _ rfl HT1.out ⟨w2.heap.size,0,none⟩ 1 1 [Value.int .i64 (i:Int),Value.string x] rfl rfl (lit_cellQ w2 _ _ _) (fun u hu=>by simp at hu;rcases hu with rfl | rfl <;> rfl) (by unfold maxLen;omega) (by omega) hbs ?_)
       intro v' w3 hown' hgrow _
       obtain ⟨g,gc,rfl⟩:=ownsRow_succ hown'
       have HO3:Hid (w3.ownsMap Tryz.prog 3 (plainElem Tryz.prog 3) B n D):=Lib.hid ((HO2.out.alloc _).kept hgrow (fun e=>by have:=(HT0.out.lt _ e.symm).1;have:=HM0.out.lt;have:=HW1.out;omega))
       have HB3:=Lib.hid ((HB2.out.alloc HB2.out.size (.cells #[Value.int .i64 (i:Int),Value.string x] 116)).grown hgrow (by have:=HB2.out.size;have:=HW1.out;simp;omega) (fun j h=>by have:=(HT0.out.lt j h).1;have:=HW1.out;omega))
       have HQ3:Hid (q+1=(O (k+1)).length):=Lib.hid (by rw [HST.out,List.length_append,← HQ2.out];rfl)
       have HT3:Hid (OwnN w3 (w.heap.size+1) cl (.slice (some ⟨g,0,none⟩) (q+1) gc) (O (k+1))):=Lib.hid (by
        have e:cellsN cl [i]=[Value.int .i64 (i:Int),Value.string x]:=by rw [cellsN_cons,HX3.out];rfl
        unfold OwnN;rw [← HQ3.out,HST.out,cellsN_app,e];exact hown')
       clear hown' hgrow hbs hlook HT0 HT1
       go_wp2_with fail
       go_roundw
       case rel=>exact ⟨k+1,q+1,gc,_,by omega,by go_num,rfl,HQ3,HB3,HO3,HT3⟩
       case measure=>simp [intOf];omega
  · obtain rfl:k=r.length:=by omega
    have HQL:Hid (q=L.length):=Lib.hid (by rw [HQ2.out,HFl.out])
    by_cases hq0:q=0
    · have hnil:Hid (L=[]):=Lib.hid (List.eq_nil_of_length_eq_zero (by have:=HQL.out;omega))
      subst hq0
      have CN:=Lib.hid (fun W=>AnyF.slices_SortFunc_none { laysFi with } go cp (.func (.func 185) #[] #[]) W)
      have HE:Hid (PartsOutI L w (.returned (.slice go 0 cp)) wr):=Lib.hid ⟨go,cp,by rw [← HQL.out],by rw [hnil.out];exact .inl rfl,(fun A' e=>Nat.le_of_succ_le (HT.out.above A' e)),below_up HB0.out HB.out⟩
      clear HQL HFin HFl
      go_wp2_with fail
      refine (CN.out _).mono ?_;rintro e w2 ⟨rfl,rfl⟩
      go_wp2_with fail
      go_ret
      exact HE.out
    · obtain ⟨g,rfl⟩:=HT.out.there hq0
      have CS:=Lib.hid (psort_any cl (w.heap.size+1) g q cp (O r.length) wr (by have:=found_le rs cols row r.length;rw [← HQ.out,← HQ2.out] at this;omega) HQ2.out.symm HT.out)
      have hgl:w.heap.size+1≤g:=HT.out.above _ rfl
      go_wp2_with fail
      refine CS.out.mono ?_;rintro e w2 ⟨rfl,h1,h2⟩
      have HE:Hid (PartsOutI L w (.returned (.slice (some ⟨g,0,none⟩) q cp)) w2):=Lib.hid ⟨_,cp,by rw [HQL.out],by rw [← HFin.out];exact h1.come,fun A' e=>by cases e;exact Nat.le_of_succ_le hgl,(below_up HB0.out HB.out).grown h2 (by have:=HB.out.size;have:=HW1.out;omega) (fun j h=>by cases h;omega)⟩
      clear h1 h2
      go_wp2_with fail
      go_ret
      exact HE.out
end
section
open Go.RowKit Go.Shelf
def cellsZ (l:PL):List Value:=l.map fun p=>.int .i64 p.1
theorem cellsZ_set (l:PL) (k:Nat) (a b:Int):(cellsZ l).set k (.int .i64 a)=cellsZ (l.set k (a,b)):=by
 unfold cellsZ;rw [List.map_set]
structure OwnZ (w0:World) (Kg:Int × Int→Prop) (w:World) (base g n:Nat) (l:PL):Prop where
 len:l.length=n
 own:w.ownsRow base 3 1 (.slice (some ⟨g,0,none⟩) n n) n (cellsZ l)
 good:∀ p ∈ l,Kg p
 grown:w0.grownBy w (some g)
def CmpOK (w0:World) (g:Nat) (Kg:Int × Int→Prop) (G:FuncId) (cap0:Value):Prop:=∀ a b c d,Kg (a,b)→Kg (c,d)→∀ W,w0.grownBy W (some g) →
 Calls Tryz.prog G #[.int .i64 a,.int .i64 c,cap0] W fun e w'=>e=.returned (.int .i64 (cmpI b d))∧Below W.heap.size W w'
theorem OwnZ.lt {w0:World} {Kg:Int × Int→Prop} {w:World} {base g n:Nat} {l:PL} (h:OwnZ w0 Kg w base g n l):base≤g∧g < w.heap.size:=h.own.lt g rfl
theorem OwnZ.kept {w0:World} {Kg:Int × Int→Prop} {w w':World} {base g n:Nat} {l:PL} (h:OwnZ w0 Kg w base g n l) (hB:Below w.heap.size w w'):OwnZ w0 Kg w' base g n l:=⟨h.len,ownsRowP_below h.own hB,h.good,grown_trans h.grown (grown_below hB)⟩
theorem OwnZ.at {w0:World} {Kg:Int × Int→Prop} {w:World} {base g n:Nat} {l:PL} (h:OwnZ w0 Kg w base g n l) (k:Nat) (p:Int × Int) (hp:l[k]?=some p):Kg p:=h.good p (List.mem_of_getElem? hp)
theorem OwnZ.cell {w0:World} {Kg:Int × Int→Prop} {w:World} {base g n:Nat} {l:PL} (h:OwnZ w0 Kg w base g n l) (k:Nat) (p:Int × Int) (hp:l[k]?=some p):w.cell? ⟨g,k,none⟩=some (.int .i64 p.1):=by
 obtain ⟨hk,_⟩:=List.getElem?_eq_some_iff.1 hp
 have hl:=h.len
 have h1:(cellsZ l)[k]?=some (.int .i64 p.1):=by unfold cellsZ;rw [List.getElem?_map,hp];rfl
 exact (h.own.cellAt k (by omega)).trans h1
theorem OwnZ.frozen {w0:World} {Kg:Int × Int→Prop} {w:World} {base g n:Nat} {l:PL} (h:OwnZ w0 Kg w base g n l) (k:Nat):w.frozen? ⟨g,k,none⟩=false:=h.own.frozenAt k
theorem OwnZ.store {w0:World} {Kg:Int × Int→Prop} {w:World} {base g n:Nat} {l:PL} (h:OwnZ w0 Kg w base g n l) (k:Nat) (a b:Int) (hk:Kg (a,b)):OwnZ w0 Kg (w.setCell ⟨g,k,none⟩ (.int .i64 a)) base g n (l.set k (a,b)):=by
 refine ⟨by simp [h.len],?_,fun p hp=>?_,grown_trans h.grown (grown_set w g k _)⟩
 · rw [← cellsZ_set l k a b]
   exact (h.own.stored k (.int .i64 a)).1
 · rcases List.mem_or_eq_of_mem_set hp with h1 | rfl
   · exact h.good p h1
   · exact hk
theorem OwnZ.swap {w0:World} {Kg:Int × Int→Prop} {w:World} {base g n:Nat} {l:PL} (h:OwnZ w0 Kg w base g n l) (i j:Nat) (a b c d:Int) (hi:i < n) (hj:j < n) (h1:Kg (a,b)) (h2:Kg (c,d)) :
 OwnZ w0 Kg ((w.setCell ⟨g,i,none⟩ (.int .i64 a)).setCell ⟨g,j,none⟩ (.int .i64 c)) base g n ((l.set i (a,b)).set j (c,d)) :=
 (h.store i a b h1).store j c d h2
theorem grown_swapZ (w:World) (g i j:Nat) (a c:Value):w.grownBy ((w.setCell ⟨g,i,none⟩ a).setCell ⟨g,j,none⟩ c) (some g) :=
 grown_trans (grown_set w g _ a) (grown_set _ g _ c)
end
end Go.Proofs.YtdenehnneloegaaGreatDoor
