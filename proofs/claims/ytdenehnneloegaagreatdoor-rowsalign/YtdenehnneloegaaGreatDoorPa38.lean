/-
  Texts of these rows' proofs, laid one behind the other: RwRef5, RwRef6, RwSpec, RwFew, RwEx.
  Conditions: those of each theorem.
-/
import Derived.Deep.OwnRows
import Derived.Deep.RegionHeld3
import Derived.WalkKit
import Derived.WalkMore
import Derived.IntWalk
import Derived.WalkArith
import Derived.OwnWalk
import Derived.Lib.Hide
import Derived.Test.YtdenehnneloegaaGreatDoorProg
import Derived.Test.YtdenehnneloegaaGreatDoorPa37
import Derived.Test.YtdenehnneloegaaGreatDoorPa26
import Derived.Test.YtdenehnneloegaaGreatDoorPa16
namespace Go.Proofs.YtdenehnneloegaaGreatDoor
set_option linter.unusedVariables false
set_option maxRecDepth 100000
set_option maxHeartbeats 8000000
section
open Go.RowKit Go.Shelf Go.Deep
theorem paired_no {ha hb:List ByteArray} {l:PL} {names:List ByteArray} {s:ByteArray} (hs:s ∈ names) (h:(findL ha s,findL hb s) ∉ l):pairedB ha hb l names=false:=by
 unfold pairedB
 rw [List.all_eq_false]
 exact ⟨s,hs,by simpa using h⟩
theorem box2 {W:World} {b:Nat} {x y:Value} {T:TypeId} (h:W.heap[b]?=some (.cells #[x,y] T (0,0))):(W.cell? ⟨b,0,none⟩=some x∧W.cell? ⟨b,1,none⟩=some y)∧W.frozen? ⟨b,0,none⟩=false∧W.frozen? ⟨b,1,none⟩=false:=by
 refine ⟨⟨(Lib.cell_of_heap h 0).trans rfl,(Lib.cell_of_heap h 1).trans rfl⟩,?_,?_⟩
 · simp [World.frozen?,h]
 · simp [World.frozen?,h]
theorem keep_atR {V:World} {v0 v1 x:Value} {m:Nat} {p:Addr} (h:V.cell? p=some x) (hne:m ≠ p.block):((V.setCell ⟨m,0,none⟩ v0).setCell ⟨m,1,none⟩ v1).cell? p=some x:=by
 have key:∀ (U:World) (j:Nat) (v:Value),(U.setCell ⟨m,j,none⟩ v).cell? p=U.cell? p:=fun U j v=>World.cell?_of_block (heap_setCell_other U ⟨m,j,none⟩ p.block v (fun e=>hne e.symm))
 rw [key,key];exact h
theorem keep_boxR {V:World} {v0 v1 x:Value} {n m o:Nat} (h:V.cell? ⟨n,o,none⟩=some x) (hne:m ≠ n):((V.setCell ⟨m,0,none⟩ v0).setCell ⟨m,1,none⟩ v1).cell? ⟨n,o,none⟩=some x:=keep_atR h hne
theorem set2R {W:World} {b:Nat} {x y u v:Value} {T:TypeId} (h:W.heap[b]?=some (.cells #[x,y] T (0,0))):((W.setCell ⟨b,0,none⟩ u).setCell ⟨b,1,none⟩ v).heap[b]?=some (.cells #[u,v] T (0,0)):=by
 have h1:(W.setCell ⟨b,0,none⟩ u).heap[b]?=some (.cells #[u,y] T (0,0)):=by simpa using heap_setCell_same W b 0 _ T u h
 simpa using heap_setCell_same (W.setCell ⟨b,0,none⟩ u) b 1 _ T v h1
theorem paired_yes {ha hb:List ByteArray} {l:PL} {names:List ByteArray} (h:∀ (j:Nat) s,names[j]?=some s→(findL ha s,findL hb s) ∈ l):pairedB ha hb l names=true:=by
 unfold pairedB
 rw [List.all_eq_true]
 intro s hs
 obtain ⟨j,hj⟩:=List.mem_iff_getElem?.1 hs
 exact decide_eq_true (h j s hj)
theorem rpaired_any (ho:Option Addr) (hc:Nat) (ha:List ByteArray) (ro:Option Addr) (m1 rc:Nat) (bo:Option Addr) (bc:Nat) (hb:List ByteArray) (so:Option Addr) (m2 sc:Nat) (lo:Option Addr) (lc:Nat) (l:PL) (no:Option Addr) (nc:Nat) (names:List ByteArray) (w:World)
 (hn:ha.length≤1073741824) (hn2:hb.length≤1073741824) (hl:l.length≤1073741824) (hm:names.length≤1073741824) (hH:StrRow w ho ha) (hK:StrRow w bo hb) (hP:PairsAt w lo l) (hN:StrRow w no names) :
 Calls Tryz.prog 33 #[.agg #[.slice ho ha.length hc,.slice ro m1 rc],.agg #[.slice bo hb.length bc,.slice so m2 sc],.slice lo l.length lc,.slice no names.length nc] w fun e w'=>e=.returned (.bool (pairedB ha hb l names))∧Below w.heap.size w w':=by
 obtain ⟨W,HW⟩:∃ W,Hid (W=(w.alloc (TabO ho ha.length hc ro m1 rc)).alloc (TabO bo hb.length bc so m2 sc)):=⟨_,Lib.hid rfl⟩
 have hB:Below w.heap.size w W:=by rw [HW.out];exact two_below _ _ _
 have HB0:=Lib.hid hB
 have hNw:=two_new w (TabO ho ha.length hc ro m1 rc) (TabO bo hb.length bc so m2 sc)
 rw [← HW.out] at hNw
 have box:Hid (∀ V,Below W.heap.size W V→(V.cell? ⟨w.heap.size,0,none⟩=some (.slice ho ha.length hc)∧V.cell? ⟨w.heap.size,1,none⟩=some (.slice ro m1 rc))∧V.cell? ⟨w.heap.size+1,0,none⟩=some (.slice bo hb.length bc)∧V.cell? ⟨w.heap.size+1,1,none⟩=some (.slice so m2 sc)):=Lib.hid (fun V hV=>⟨tabs ((hV.block _ (lt_of_heap hNw.2.1)).trans hNw.2.1),tabs ((hV.block _ (lt_of_heap hNw.2.2)).trans hNw.2.2)⟩)
 have C1:=Lib.hid (fun V s (h:Below W.heap.size W V)=>rfind_any ho hc ha ro m1 rc s V (by omega) (hH.kept (below_up hB h)))
 have C2:=Lib.hid (fun V s (h:Below W.heap.size W V)=>rfind_any bo bc hb so m2 sc s V (by omega) (hK.kept (below_up hB h)))
 have HPo:=Lib.hid (hP.kept hB)
 have HNo:=Lib.hid (hN.kept hB)
 have HF:=Lib.hid (fun s (h1:s ∈ names) h2=>paired_no (ha:=ha) (hb:=hb) (l:=l) h1 h2)
 have HY:=Lib.hid (fun h=>paired_yes (ha:=ha) (hb:=hb) (l:=l) (names:=names) h)
 have HSz:Hid (W.heap.size=w.heap.size+1+1):=Lib.hid (by rw [HW.out];simp)
 generalize pairedB ha hb l names=F at HF HY ⊢
 clear hB hNw hH hK hP hN
 go_enter Tryz.func33,Tryz.ntmps33
 go_upto_region 1 with fail
 rw [show (w.alloc (Obj.cells #[Value.slice ho ha.length hc,Value.slice ro m1 rc] 25)).alloc (Obj.cells #[Value.slice bo hb.length bc,Value.slice so m2 sc] 25)=W from HW.out.symm]
 go_wp2_with fail
 go_loopw [9] (fun i wr=>∃ k:Nat,k≤names.length∧i=.int .i64 k∧Hid (Below W.heap.size W wr)∧Hid (∀ (j:Nat) s,j < k→names[j]?=some s→(findL ha s,findL hb s) ∈ l)) (fun i _=>names.length - (intOf i).toNat)
 case atStart=>exact ⟨0,Nat.zero_le _,rfl,Lib.hid (Below.refl _ _),Lib.hid (fun j s h=>by omega)⟩
 case round =>
  obtain ⟨k,hk,rfl,HB,HA⟩:=hrel
  by_cases hlt:k < names.length
  · obtain ⟨s,hs⟩:∃ s,names[k]?=some s:=⟨_,List.getElem?_eq_getElem hlt⟩
    have HSk:=Lib.hid hs
    rcases HNo.out with h0 | ⟨A,rfl,hA,hcell⟩
    · rw [h0] at hlt;simp at hlt
    have HNc:Hid (∀ V,Below W.heap.size W V→V.cell? (A.add k)=some (.string s)):=Lib.hid (fun V h=>(h.cell (p:=A.add k) (by rw [add_block];exact hA)).trans (hcell k s hs))
    have ca:=HNc.out wr HB.out
    have D1:=Lib.hid (fun V (h:Below W.heap.size W V)=>C1.out V s h)
    have D2:=Lib.hid (fun V (h:Below W.heap.size W V)=>C2.out V s h)
    have HA2:Hid ((findL ha s,findL hb s) ∈ l→∀ (j:Nat) t,j < k+1→names[j]?=some t→(findL ha t,findL hb t) ∈ l):=Lib.hid (fun h j t hj ht=>by
     by_cases e:j=k
     · subst e;rw [HSk.out] at ht;cases ht;exact h
     · exact HA.out j t (by omega) ht)
    have HF2:=Lib.hid (fun h=>HF.out s (List.mem_of_getElem? HSk.out) h)
    have HBel:Hid (Below wr.heap.size wr wr.drew):=Lib.hid ((Below.refl _ _).drew)
    obtain ⟨⟨a0,a1⟩,b0,b1⟩:=box.out wr HB.out
    generalize findL ha s=y1 at D1 HA2 HF2
    generalize findL hb s=y2 at D2 HA2 HF2
    clear hcell hs
    go_upto_region 4 with fail
    go_cut [10] from 19 to 31 (fun v wx=>Hid (∃ b:Nat,v=.pointer (some ⟨b,0,none⟩)∧wr.heap.size≤b∧wx.heap[b]?=some (.cells #[.int .i64 y1,.int .i64 y2] 45 (0,0)))∧Hid (Below wr.heap.size wr wx))
    case first =>
     have hsz1:w.heap.size+1 < wr.heap.size:=by have:=HB.out.size;have:=HSz.out;omega
     have hsz2:(A.add k).block < wr.heap.size:=by rw [add_block];exact Nat.lt_of_lt_of_le hA HB.out.size
     have n1:wr.heap.size ≠ w.heap.size:=by omega
     have n2:wr.heap.size ≠ w.heap.size+1:=by omega
     have n3:wr.heap.size ≠ (A.add k).block:=by omega
     have HSz3:=Lib.hid (And.intro hsz1 hsz2)
     clear hsz1 hsz2
     have HBz:Hid (Below wr.heap.size wr (wr.alloc (.cells #[.int .i64 0,.int .i64 0] 45)).drew):=Lib.hid (((Below.refl _ _).alloc (Nat.le_refl _) _).drew)
     have HZ1:Hid ((wr.alloc (.cells #[.int .i64 0,.int .i64 0] 45)).drew.heap[wr.heap.size]?=some (.cells #[.int .i64 0,.int .i64 0] 45 (0,0))):=Lib.hid (World.alloc_heap_new wr _)
     go_region_held3 (fun V=>((V.cell? ⟨w.heap.size,0,none⟩=some (.slice ho ha.length hc)∧V.cell? ⟨w.heap.size,1,none⟩=some (.slice ro m1 rc))∧V.cell? ⟨w.heap.size+1,0,none⟩=some (.slice bo hb.length bc)∧V.cell? ⟨w.heap.size+1,1,none⟩=some (.slice so m2 sc))∧V.cell? (A.add k)=some (.string s)) ((refine ⟨⟨⟨?_,?_⟩,?_,?_⟩,?_⟩ <;> first | assumption | with_reducible exact keep_boxR (by assumption) (by assumption) | with_reducible exact keep_atR (by assumption) (by assumption) | go_keep))
      (first
       | (go_at_call 82;with_reducible refine (D1.out wr.drew (below_up HB.out HBel.out)).mono ?_;rintro e w2 ⟨rfl,b2⟩;have HBel:=Lib.hid (below_up HBel.out b2);have HSw:=Lib.hid HBel.out.size;have n4:w2.heap.size ≠ w.heap.size:=(by have:=HSz3.out;have:=HBel.out.size;omega);have n5:w2.heap.size ≠ w.heap.size+1:=(by have:=HSz3.out;have:=HBel.out.size;omega);have n6:w2.heap.size ≠ (A.add k).block:=(by have:=HSz3.out;have:=HBel.out.size;omega);have HBx:=Lib.hid (below_up HB.out HBel.out);obtain ⟨⟨a0,a1⟩,b0,b1⟩:=box.out w2 HBx.out;have ca:=HNc.out w2 HBx.out;have HBz2:Hid (Below wr.heap.size wr (w2.alloc (.cells #[.int .i64 0,.int .i64 0] 45))):=Lib.hid (HBel.out.alloc HBel.out.size _);have HZ2:=Lib.hid (World.alloc_heap_new w2 (.cells #[.int .i64 0,.int .i64 0] 45));clear b2 D1 HBz HZ1)
       | (go_at_call 82;with_reducible refine (D1.out (wr.alloc (.cells #[.int .i64 0,.int .i64 0] 45)).drew (below_up HB.out HBz.out)).mono ?_;rintro e w2 ⟨rfl,b2⟩;have HBel:=Lib.hid (below_up HBz.out b2);have HBx:=Lib.hid (below_up HB.out HBel.out);obtain ⟨⟨a0,a1⟩,b0,b1⟩:=box.out w2 HBx.out;have ca:=HNc.out w2 HBx.out;have HZ3:=Lib.hid ((b2.block _ (lt_of_heap HZ1.out)).trans HZ1.out);clear b2 D1 HBz HZ1)
       | (go_at_call 82;with_reducible refine (D2.out w2 (below_up HB.out HBel.out)).mono ?_;rintro e w3 ⟨rfl,b2⟩;have HBel:=Lib.hid (below_up HBel.out b2);have HBx:=Lib.hid (below_up HB.out HBel.out);obtain ⟨⟨a0,a1⟩,b0,b1⟩:=box.out w3 HBx.out;have ca:=HNc.out w3 HBx.out;(try (have HZ3:=Lib.hid ((b2.block _ (lt_of_heap HZ3.out)).trans HZ3.out);obtain ⟨⟨z0,z1⟩,z2,z3⟩:=box2 HZ3.out));clear b2 D2)
       | (go_at_call 82;with_reducible refine (D2.out (w2.alloc (.cells #[.int .i64 0,.int .i64 0] 45)) (below_up HB.out HBz2.out)).mono ?_;rintro e w3 ⟨rfl,b2⟩;have HBel:=Lib.hid (below_up HBz2.out b2);have HBx:=Lib.hid (below_up HB.out HBel.out);obtain ⟨⟨a0,a1⟩,b0,b1⟩:=box.out w3 HBx.out;have ca:=HNc.out w3 HBx.out;have HZ3:=Lib.hid ((b2.block _ (lt_of_heap HZ2.out)).trans HZ2.out);obtain ⟨⟨z0,z1⟩,z2,z3⟩:=box2 HZ3.out;clear b2 D2))
     all_goals
      rename_i hHeld
      clear hHeld
     · have HBn:Hid (Below wr.heap.size wr (w3.alloc (.cells #[.int .i64 y1,.int .i64 y2] 45))):=Lib.hid (HBel.out.alloc HBel.out.size _)
       have HF3:=Lib.hid (And.intro HBel.out.size (World.alloc_heap_new w3 (.cells #[.int .i64 y1,.int .i64 y2] 45)))
       go_wp2_with fail
       go_meet
       exact ⟨Lib.hid ⟨_,rfl,HF3.out.1,HF3.out.2⟩,HBn⟩
     · have HBn:Hid (Below wr.heap.size wr ((w3.setCell ⟨w2.heap.size,0,none⟩ (.int .i64 y1)).setCell ⟨w2.heap.size,1,none⟩ (.int .i64 y2))):=Lib.hid ((HBel.out.setCell (p:=⟨w2.heap.size,0,none⟩) HSw.out _).setCell (p:=⟨w2.heap.size,1,none⟩) HSw.out _)
       have HF3:=Lib.hid (set2R (u:=.int .i64 y1) (v:=.int .i64 y2) HZ3.out)
       go_wp2_with fail
       go_meet
       exact ⟨Lib.hid ⟨_,rfl,HSw.out,HF3.out⟩,HBn⟩
     · have HBn:Hid (Below wr.heap.size wr ((w3.setCell ⟨wr.heap.size,0,none⟩ (.int .i64 y1)).setCell ⟨wr.heap.size,1,none⟩ (.int .i64 y2))):=Lib.hid ((HBel.out.setCell (p:=⟨wr.heap.size,0,none⟩) (Nat.le_refl _) _).setCell (p:=⟨wr.heap.size,1,none⟩) (Nat.le_refl _) _)
       have HF3:=Lib.hid (set2R (u:=.int .i64 y1) (v:=.int .i64 y2) HZ3.out)
       go_wp2_with fail
       go_meet
       exact ⟨Lib.hid ⟨_,rfl,Nat.le_refl _,HF3.out⟩,HBn⟩
    case rest =>
     obtain ⟨HJ,B7⟩:=hcut
     rename World=>w7
     obtain ⟨b,rfl,hb1,hb2⟩:=HJ.out
     have HB7:=Lib.hid (below_up HB.out B7.out)
     have HBx:Hid (∀ V,Below w7.heap.size w7 V→V.cell? ⟨b,0,none⟩=some (.int .i64 y1)∧V.cell? ⟨b,1,none⟩=some (.int .i64 y2)):=Lib.hid (fun V h=>(box2 ((h.block b (lt_of_heap hb2)).trans hb2)).1)
     have HPo7:=Lib.hid (HPo.out.kept HB7.out)
     clear HJ B7 hb1 hb2 D1 D2 HB HA HBel a0 a1 b0 b1 ca
     go_wp2_with fail
     go_loopw [11,12] (fun t u wr=>∃ (c:Nat) (tt:Bool),c≤l.length∧u=.int .i64 c∧t=.bool tt∧Hid (tt=decide ((y1,y2) ∈ l.take c))∧Hid (Below w7.heap.size w7 wr)) (fun _ u _=>l.length - (intOf u).toNat)
     case atStart=>exact ⟨0,false,Nat.zero_le _,rfl,rfl,Lib.hid (by simp),Lib.hid (Below.refl _ _)⟩
     case round =>
      obtain ⟨c,tt,hc2,rfl,rfl,HT,HB⟩:=hrel
      by_cases hcl:c < l.length
      · obtain ⟨⟨x1,x2⟩,hx⟩:∃ x,l[c]?=some x:=⟨_,List.getElem?_eq_getElem hcl⟩
        have hTk:=take_one l c _ hx
        rcases (HPo7.out.kept HB.out) with h0 | ⟨b',o,rfl,hA',hcell'⟩
        · rw [h0] at hcl;simp at hcl
        obtain ⟨hc1,hc3⟩:=hcell' c _ hx
        dsimp only at hc1 hc3
        obtain ⟨z0,z1⟩:=HBx.out wr HB.out
        have HTn:Hid (decide ((y1,y2) ∈ l.take (c+1))=(tt || decide (x1=y1∧x2=y2))):=Lib.hid (by
         rw [hTk,HT.out]
         by_cases h1:(y1,y2) ∈ l.take c
         · simp [h1]
         · by_cases h2:x1=y1∧x2=y2
           · obtain ⟨rfl,rfl⟩:=h2;simp
           · have h3:¬ (y1,y2)=(x1,x2):=fun e=>h2 (by simp only [Prod.mk.injEq] at e;exact ⟨e.1.symm,e.2.symm⟩)
             have h4:(y1,y2) ∉ l.take c ++ [(x1,x2)]:=by
              rw [List.mem_append,List.mem_singleton];exact fun h=>h.elim h1 h3
             rw [decide_eq_false h1,decide_eq_false h2,decide_eq_false h4];rfl)
        clear hcell' hx hTk HT
        cases tt with
        | true =>
         go_upto_region 9 with fail
         go_quiet (fail)
         have HB2:=Lib.hid (bdn (n:=nq) HB.out)
         have HT2:Hid (true=decide ((y1,y2) ∈ l.take (c+1))):=Lib.hid (by rw [HTn.out];rfl)
         clear HTn
         go_wp2_with fail
         go_roundw
         case rel=>exact ⟨c+1,true,by omega,by go_num,rfl,HT2,HB2⟩
         case measure=>simp [intOf];omega
        | false =>
         by_cases hxy:x1=y1∧x2=y2
         · have HT2:Hid (true=decide ((y1,y2) ∈ l.take (c+1))):=Lib.hid (by rw [HTn.out,decide_eq_true hxy];rfl)
           obtain ⟨rfl,rfl⟩:=hxy
           clear HTn
           go_upto_region 9 with fail
           go_quiet (fail)
           have HB2:=Lib.hid (bdn (n:=nq) HB.out)
           go_wp2_with fail
           go_roundw
           case rel=>exact ⟨c+1,true,by omega,by go_num,rfl,HT2,HB2⟩
           case measure=>simp [intOf];omega
         · have HT2:Hid (false=decide ((y1,y2) ∈ l.take (c+1))):=Lib.hid (by rw [HTn.out,decide_eq_false hxy];rfl)
           by_cases h1:x1=y1
           · have h2:¬ x2=y2:=fun e=>hxy ⟨h1,e⟩
             subst h1
             clear HTn hxy
             go_upto_region 9 with fail
             go_quiet (fail)
             have HB2:=Lib.hid (bdn (n:=nq) HB.out)
             go_wp2_with fail
             go_roundw
             case rel=>exact ⟨c+1,false,by omega,by go_num,rfl,HT2,HB2⟩
             case measure=>simp [intOf];omega
           · clear HTn hxy
             go_upto_region 9 with fail
             go_quiet (fail)
             have HB2:=Lib.hid (bdn (n:=nq) HB.out)
             go_wp2_with fail
             go_roundw
             case rel=>exact ⟨c+1,false,by omega,by go_num,rfl,HT2,HB2⟩
             case measure=>simp [intOf];omega
      · obtain rfl:c=l.length:=by omega
        rw [List.take_length] at HT
        cases tt with
        | true =>
         have hin:=of_decide_eq_true HT.out.symm
         have HA3:=Lib.hid (HA2.out hin)
         have HB2:=Lib.hid (below_up HB7.out HB.out)
         clear HT hin
         go_wp2_with fail
         go_roundw
         case rel=>exact ⟨k+1,by omega,by go_num,HB2,HA3⟩
         case measure=>simp [intOf];omega
        | false =>
         have hin:=of_decide_eq_false HT.out.symm
         have HE:Hid ((.returned (.bool false):Ending)=.returned (.bool F)∧Below w.heap.size w wr):=Lib.hid ⟨by rw [HF2.out hin],below_up HB0.out (below_up HB7.out HB.out)⟩
         clear HT hin
         go_wp2_with fail
         go_ret
         exact HE.out
  · obtain rfl:k=names.length:=by omega
    have HE:Hid ((.returned (.bool true):Ending)=.returned (.bool F)∧Below w.heap.size w wr):=Lib.hid ⟨by rw [HY.out (fun j s hj=>HA.out j s (List.getElem?_eq_some_iff.1 hj).1 hj)],below_up HB0.out HB.out⟩
    clear HA
    go_wp2_with fail
    go_ret
    exact HE.out
end
section
open Go.RowKit Go.Shelf Go.Deep
theorem rrows_any (ho:Option Addr) (hc:Nat) (ha:List ByteArray) (ro:Option Addr) (rc:Nat) (ra:List (List ByteArray)) (bo:Option Addr) (bc:Nat) (hb:List ByteArray) (so:Option Addr) (sc:Nat) (rb:List (List ByteArray)) (lo:Option Addr) (lc:Nat) (l:PL) (no:Option Addr) (nc:Nat) (names:List ByteArray) (w:World)
 (hn:ha.length≤1024) (hn2:hb.length≤1024) (hra:ra.length≤1024) (hrb:rb.length≤1024) (hxa:∀ r ∈ ra,r.length≤1099511627776) (hxb:∀ r ∈ rb,r.length≤1099511627776)
 (hsa:sumT (allT ha ra)≤1152921504606846976) (hsb:sumT (allT hb rb)≤1152921504606846976) (hl:l.length≤1024) (hm:names.length≤1024) (hcap:names.length≤nc)
 (hH:StrRow w ho ha) (hK:StrRow w bo hb) (hR:RowsAt w ro ra) (hS:RowsAt w so rb) (hP:PairsAt w lo l) (hN:StrRow w no names) :
 Calls Tryz.prog 12 #[.agg #[.slice ho ha.length hc,.slice ro ra.length rc],.agg #[.slice bo hb.length bc,.slice so rb.length sc],.slice lo l.length lc,.slice no names.length nc] w (AlignOut (rowsE ha ra hb rb l) (rowsL (useAB ha ra hb rb names) ha ra hb rb l names) w):=by
 obtain ⟨W,HW⟩:∃ W,Hid (W=(w.alloc (TabO ho ha.length hc ro ra.length rc)).alloc (TabO bo hb.length bc so rb.length sc)):=⟨_,Lib.hid rfl⟩
 have hB:Below w.heap.size w W:=by rw [HW.out];exact two_below _ _ _
 have HB0:=Lib.hid hB
 have hNw:=two_new w (TabO ho ha.length hc ro ra.length rc) (TabO bo hb.length bc so rb.length sc)
 rw [← HW.out] at hNw
 have box:Hid (∀ V,Below W.heap.size W V→(V.cell? ⟨w.heap.size,0,none⟩=some (.slice ho ha.length hc)∧V.cell? ⟨w.heap.size,1,none⟩=some (.slice ro ra.length rc))∧V.cell? ⟨w.heap.size+1,0,none⟩=some (.slice bo hb.length bc)∧V.cell? ⟨w.heap.size+1,1,none⟩=some (.slice so rb.length sc)):=Lib.hid (fun V hV=>⟨tabs ((hV.block _ (lt_of_heap hNw.2.1)).trans hNw.2.1),tabs ((hV.block _ (lt_of_heap hNw.2.2)).trans hNw.2.2)⟩)
 have C1:=Lib.hid (ralign_any ho hc ha ro rc ra bo bc hb so sc rb false W hn hn2 (by omega) (by omega) hxa hxb hsa hsb (hH.kept hB) (hK.kept hB) (hR.kept hB) (hS.kept hB))
 have C2:=Lib.hid (fun V (h:Below W.heap.size W V)=>rcheckP_any lo lc l (ha.length:Int) (hb.length:Int) V (by omega) (hP.kept (below_up hB h)))
 have CU:Hid (∀ V,Below W.heap.size W V→Calls Tryz.prog 32 #[.slice (some ⟨V.heap.size,0,none⟩) 2 2,.slice no names.length nc] (V.alloc (TwoO ho ha.length hc ro ra.length rc bo hb.length bc so rb.length sc)) fun e w'=>e=.returned (.bool (useAB ha ra hb rb names))∧Below V.heap.size V w') :=
  Lib.hid (fun V h=>(rusable_any (some ⟨V.heap.size,0,none⟩) 2 [(ha,ra),(hb,rb)] no nc names (V.alloc (TwoO ho ha.length hc ro ra.length rc bo hb.length bc so rb.length sc)) (by simp) (by omega) hcap (fun t ht=>by simp at ht;rcases ht with rfl | rfl <;> (constructor <;> dsimp only <;> omega)) (tabs_two (hH.kept (below_up hB h)) (hR.kept (below_up hB h)) (hK.kept (below_up hB h)) (hS.kept (below_up hB h))) ((hN.kept (below_up hB h)).kept (one_below V (TwoO ho ha.length hc ro ra.length rc bo hb.length bc so rb.length sc)))).mono (by
   rintro e w' ⟨rfl,b⟩
   exact ⟨rfl,below_up (one_below V _) b⟩))
 have C3:=Lib.hid (fun V (h:Below W.heap.size W V)=>rpaired_any ho hc ha ro ra.length rc bo bc hb so rb.length sc lo lc l no nc names V (by omega) (by omega) (by omega) (by omega) (hH.kept (below_up hB h)) (hK.kept (below_up hB h)) (hP.kept (below_up hB h)) (hN.kept (below_up hB h)))
 have C4:=Lib.hid (fun V (h:Below W.heap.size W V)=>rbykey_any ho hc ha ro rc ra bo bc hb so sc rb no nc names V (by omega) (by omega) hra hrb hm hcap (hH.kept (below_up hB h)) (hK.kept (below_up hB h)) (hR.kept (below_up hB h)) (hS.kept (below_up hB h)) (hN.kept (below_up hB h)))
 have C5:=Lib.hid (fun V (h:Below W.heap.size W V)=>rbylook_any ho hc ha ro rc ra bo bc hb so sc rb lo lc l V hra hrb hl (hR.kept (below_up hB h)) (hS.kept (below_up hB h)) (hP.kept (below_up hB h)))
 have HE1:Hid (alignE ha ra hb rb ≠ 0→rowsE ha ra hb rb l=alignE ha ra hb rb∧rowsL (useAB ha ra hb rb names) ha ra hb rb l names=[]):=Lib.hid (fun h=>by
  have h1:rowsE ha ra hb rb l=alignE ha ra hb rb:=if_pos h
  exact ⟨h1,rows_bad (by rw [h1];exact h)⟩)
 have HE2:Hid (alignE ha ra hb rb=0→checkP l ha.length hb.length ≠ 0→rowsE ha ra hb rb l=checkP l ha.length hb.length∧rowsL (useAB ha ra hb rb names) ha ra hb rb l names=[]):=Lib.hid (fun h k=>by
  have h1:rowsE ha ra hb rb l=checkP l ha.length hb.length:=if_neg (fun e=>e h)
  exact ⟨h1,rows_bad (by rw [h1];exact k)⟩)
 have HE3:Hid (alignE ha ra hb rb=0→checkP l ha.length hb.length=0→rowsE ha ra hb rb l=0∧rowsL (useAB ha ra hb rb names) ha ra hb rb l names=if (useAB ha ra hb rb names && pairedB ha hb l names)=true then byKeyU (useAB ha ra hb rb names) ha ra hb rb names else byLookU ha ra hb rb l):=Lib.hid (fun h k=>by
  have h1:rowsE ha ra hb rb l=0:=(if_neg (fun e=>e h)).trans k
  exact ⟨h1,if_neg (fun e=>e h1)⟩)
 obtain ⟨⟨a0,a1⟩,b0,b1⟩:=box.out W (Below.refl _ _)
 clear hB hNw hH hK hR hS hP hN
 generalize rowsE ha ra hb rb l=X at HE1 HE2 HE3 ⊢
 generalize rowsL (useAB ha ra hb rb names) ha ra hb rb l names=L at HE1 HE2 HE3 ⊢
 generalize alignE ha ra hb rb=E1 at C1 HE1 HE2 HE3
 generalize alignR ha ra hb rb false=R1 at C1
 generalize checkP l ha.length hb.length=E2 at C2 HE2 HE3
 generalize byKeyU (useAB ha ra hb rb names) ha ra hb rb names=K1 at C4 HE3
 generalize byLookU ha ra hb rb l=K2 at C5 HE3
 generalize pairedB ha hb l names=pd at C3 HE3
 generalize useAB ha ra hb rb names=us at CU HE3
 go_enter Tryz.func12,Tryz.ntmps12
 go_upto_region 1 with fail
 rw [show (w.alloc (Obj.cells #[Value.slice ho ha.length hc,Value.slice ro ra.length rc] 25)).alloc (Obj.cells #[Value.slice bo hb.length bc,Value.slice so rb.length sc] 25)=W from HW.out.symm]
 go_wp2_with fail
 refine C1.out.mono ?_;rintro e w1 ⟨xo,xc,rfl,-,-,-,g1⟩
 have HBa:=Lib.hid g1
 have D2:=Lib.hid (C2.out w1 g1)
 clear g1 a0 a1 b0 b1 C1 C2
 obtain ⟨⟨a0,a1⟩,b0,b1⟩:=box.out w1 HBa.out
 by_cases h1:E1=0
 · have HF2:=Lib.hid (fun h=>HE2.out h1 h)
   have HF3:=Lib.hid (fun h=>HE3.out h1 h)
   clear HE1 HE2 HE3
   subst h1
   go_wp2_with fail
   refine D2.out.mono ?_;rintro e w2 ⟨rfl,g2⟩
   have HBb:=Lib.hid (below_up HBa.out g2)
   clear g2 a0 a1 b0 b1 D2 HBa
   obtain ⟨⟨a0,a1⟩,b0,b1⟩:=box.out w2 HBb.out
   by_cases h2:E2=0
   · obtain ⟨rfl,hL⟩:=HF3.out h2
     have HL:=Lib.hid hL
     clear hL HF2 HF3
     subst h2
     have DU:=Lib.hid (CU.out w2 HBb.out)
     clear CU
     go_wp2_with fail
     refine DU.out.mono ?_;rintro e w3 ⟨rfl,g3⟩
     have HBc:=Lib.hid (below_up HBb.out g3)
     clear g3 a0 a1 b0 b1 DU HBb
     obtain ⟨⟨a0,a1⟩,b0,b1⟩:=box.out w3 HBc.out
     have D3:=Lib.hid (C3.out w3 HBc.out)
     have D5:=Lib.hid (C5.out w3 HBc.out)
     cases us with
     | false =>
      have HLn:Hid (L=K2):=Lib.hid (by rw [HL.out];rfl)
      clear HL D3 C3 C4 C5
      go_wp2_with fail
      refine D5.out.mono ?_;rintro e w4 ⟨yo,yc,rfl,p4,k1,k2,g4⟩
      have HE:Hid (AlignOut 0 L w (.returned (.tuple #[.slice yo K2.length yc,.int .i64 0])) w4):=Lib.hid (by rw [HLn.out];exact ⟨yo,yc,rfl,p4,k1,k2,below_up HB0.out (below_up HBc.out g4)⟩)
      clear p4 k1 k2 g4 D5
      go_wp2_with fail
      refine bodyPost_ret (v:=.tuple #[.slice yo K2.length yc,.int .i64 0]) (by simp [results,Tryz.results12,go_sem]) rfl ?_
      exact HE.out
     | true =>
      clear D5
      go_wp2_with fail
      refine D3.out.mono ?_;rintro e w4 ⟨rfl,g4⟩
      have HBd:=Lib.hid (below_up HBc.out g4)
      clear g4 a0 a1 b0 b1 D3 C3 HBc
      obtain ⟨⟨a0,a1⟩,b0,b1⟩:=box.out w4 HBd.out
      have D4:=Lib.hid (C4.out w4 HBd.out)
      have D5:=Lib.hid (C5.out w4 HBd.out)
      clear C4 C5
      cases pd with
      | false =>
       have HLn:Hid (L=K2):=Lib.hid (by rw [HL.out];rfl)
       clear HL D4
       go_wp2_with fail
       refine D5.out.mono ?_;rintro e w5 ⟨yo,yc,rfl,p4,k1,k2,g4⟩
       have HE:Hid (AlignOut 0 L w (.returned (.tuple #[.slice yo K2.length yc,.int .i64 0])) w5):=Lib.hid (by rw [HLn.out];exact ⟨yo,yc,rfl,p4,k1,k2,below_up HB0.out (below_up HBd.out g4)⟩)
       clear p4 k1 k2 g4 D5
       go_wp2_with fail
       refine bodyPost_ret (v:=.tuple #[.slice yo K2.length yc,.int .i64 0]) (by simp [results,Tryz.results12,go_sem]) rfl ?_
       exact HE.out
      | true =>
       have HLn:Hid (L=K1):=Lib.hid (by rw [HL.out];rfl)
       clear HL D5
       go_wp2_with fail
       refine D4.out.mono ?_;rintro e w5 ⟨yo,yc,rfl,p4,k1,k2,g4⟩
       have HE:Hid (AlignOut 0 L w (.returned (.tuple #[.slice yo K1.length yc,.int .i64 0])) w5):=Lib.hid (by rw [HLn.out];exact ⟨yo,yc,rfl,p4,k1,k2,below_up HB0.out (below_up HBd.out g4)⟩)
       clear p4 k1 k2 g4 D4
       go_wp2_with fail
       refine bodyPost_ret (v:=.tuple #[.slice yo K1.length yc,.int .i64 0]) (by simp [results,Tryz.results12,go_sem]) rfl ?_
       exact HE.out
   · obtain ⟨rfl,rfl⟩:=HF2.out h2
     have HE:Hid (AlignOut X [] w (.returned (.tuple #[.slice none 0 0,.int .i64 X])) w2):=Lib.hid ⟨none,0,rfl,.inl rfl,fun _=>rfl,Nat.le_refl _,below_up HB0.out HBb.out⟩
     clear HF2 HF3 CU C3 C4 C5
     go_wp2_with fail
     refine bodyPost_ret (v:=.tuple #[.slice none 0 0,.int .i64 X]) (by simp [results,Tryz.results12,go_sem]) rfl ?_
     exact HE.out
 · obtain ⟨rfl,rfl⟩:=HE1.out h1
   have HE:Hid (AlignOut X [] w (.returned (.tuple #[.slice none 0 0,.int .i64 X])) w1):=Lib.hid ⟨none,0,rfl,.inl rfl,fun _=>rfl,Nat.le_refl _,below_up HB0.out HBa.out⟩
   clear HE1 HE2 HE3 CU C3 C4 C5 D2
   go_wp2_with fail
   refine bodyPost_ret (v:=.tuple #[.slice none 0 0,.int .i64 X]) (by simp [results,Tryz.results12,go_sem]) rfl ?_
   exact HE.out
end
section
open Go.RowKit Go.Shelf
structure TabR (w:World) (ho:Option Addr) (hc:Nat) (hd:List ByteArray) (ro:Option Addr) (rc:Nat) (rs:List (List ByteArray)):Prop where
 tab:TabIn w ho hc hd ro rc rs
 r25:rs.length≤25
 h12:hd.length≤12
theorem TabR.kept {w w':World} {ho:Option Addr} {hc:Nat} {hd:List ByteArray} {ro:Option Addr} {rc:Nat} {rs:List (List ByteArray)} (h:TabR w ho hc hd ro rc rs) (hB:Below w.heap.size w w'):TabR w' ho hc hd ro rc rs:=⟨h.tab.kept hB,h.r25,h.h12⟩
structure NamesIn (w:World) (no:Option Addr) (nc:Nat) (names:List ByteArray):Prop where
 len:names.length≤8
 size:∀ c ∈ names,c.size≤140737488351232
 row:StrRow w no names
 cap:names.length≤nc
 nil:no=none→nc=0
theorem NamesIn.kept {w w':World} {no:Option Addr} {nc:Nat} {names:List ByteArray} (h:NamesIn w no nc names) (hB:Below w.heap.size w w'):NamesIn w' no nc names:=⟨h.len,h.size,h.row.kept hB,h.cap,h.nil⟩
structure PairsIn (w:World) (lo:Option Addr) (lc:Nat) (l:PL):Prop where
 len:l.length≤20
 ok:okP l
 pairs:PairsAt w lo l
 cap:l.length≤lc
 nil:lo=none→lc=0
theorem PairsIn.kept {w w':World} {lo:Option Addr} {lc:Nat} {l:PL} (h:PairsIn w lo lc l) (hB:Below w.heap.size w w'):PairsIn w' lo lc l:=⟨h.len,h.ok,h.pairs.kept hB,h.cap,h.nil⟩
def ByKeyOK:Prop:=∀ (ho:Option Addr) (hc:Nat) (ha:List ByteArray) (ro:Option Addr) (rc:Nat) (ra:List (List ByteArray)) (bo:Option Addr) (bc:Nat) (hb:List ByteArray) (so:Option Addr) (sc:Nat) (rb:List (List ByteArray)) (no:Option Addr) (nc:Nat) (names:List ByteArray) (w:World),
 TabR w ho hc ha ro rc ra→TabR w bo bc hb so sc rb→NamesIn w no nc names→Pow w →
  Calls Tryz.prog 14 #[.agg #[.slice ho ha.length hc,.slice ro ra.length rc],.agg #[.slice bo hb.length bc,.slice so rb.length sc],.slice no names.length nc] w (PairsOut (byKeyU (useAB ha ra hb rb names) ha ra hb rb names) w)
def ByLookOK:Prop:=∀ (ho:Option Addr) (hc:Nat) (ha:List ByteArray) (ro:Option Addr) (rc:Nat) (ra:List (List ByteArray)) (bo:Option Addr) (bc:Nat) (hb:List ByteArray) (so:Option Addr) (sc:Nat) (rb:List (List ByteArray)) (lo:Option Addr) (lc:Nat) (l:PL) (w:World),
 TabR w ho hc ha ro rc ra→TabR w bo bc hb so sc rb→PairsIn w lo lc l→Pow w →
  Calls Tryz.prog 16 #[.agg #[.slice ho ha.length hc,.slice ro ra.length rc],.agg #[.slice bo hb.length bc,.slice so rb.length sc],.slice lo l.length lc] w (PairsOut (byLookU ha ra hb rb l) w)
def RowsOK:Prop:=∀ (ho:Option Addr) (hc:Nat) (ha:List ByteArray) (ro:Option Addr) (rc:Nat) (ra:List (List ByteArray)) (bo:Option Addr) (bc:Nat) (hb:List ByteArray) (so:Option Addr) (sc:Nat) (rb:List (List ByteArray)) (lo:Option Addr) (lc:Nat) (l:PL) (no:Option Addr) (nc:Nat) (names:List ByteArray) (w:World),
 TabR w ho hc ha ro rc ra→TabR w bo bc hb so sc rb→PairsIn w lo lc l→NamesIn w no nc names→Pow w →
  Calls Tryz.prog 11 #[.agg #[.slice ho ha.length hc,.slice ro ra.length rc],.agg #[.slice bo hb.length bc,.slice so rb.length sc],.slice lo l.length lc,.slice no names.length nc] w (AlignOut (rowsE ha ra hb rb l) (rowsL (useAB ha ra hb rb names) ha ra hb rb l names) w)
theorem rrows_in (ho:Option Addr) (hc:Nat) (ha:List ByteArray) (ro:Option Addr) (rc:Nat) (ra:List (List ByteArray)) (bo:Option Addr) (bc:Nat) (hb:List ByteArray) (so:Option Addr) (sc:Nat) (rb:List (List ByteArray)) (lo:Option Addr) (lc:Nat) (l:PL) (no:Option Addr) (nc:Nat) (names:List ByteArray) (w:World)
 (hA:TabR w ho hc ha ro rc ra) (hB:TabR w bo bc hb so sc rb) (hP:PairsIn w lo lc l) (hN:NamesIn w no nc names) :
 Calls Tryz.prog 12 #[.agg #[.slice ho ha.length hc,.slice ro ra.length rc],.agg #[.slice bo hb.length bc,.slice so rb.length sc],.slice lo l.length lc,.slice no names.length nc] w (AlignOut (rowsE ha ra hb rb l) (rowsL (useAB ha ra hb rb names) ha ra hb rb l names) w) :=
 rrows_any ho hc ha ro rc ra bo bc hb so sc rb lo lc l no nc names w (by have:=hA.h12;omega) (by have:=hB.h12;omega) (by have:=hA.r25;omega) (by have:=hB.r25;omega) (fun r hr=>by have:=hA.tab.el r hr;omega) (fun r hr=>by have:=hB.tab.el r hr;omega) (by have:=hA.tab.sum;omega) (by have:=hB.tab.sum;omega) (by have:=hP.len;omega) (by have:=hN.len;omega) hN.cap hA.tab.row hB.tab.row hA.tab.rows hB.tab.rows hP.pairs hN.row
theorem rbykey_in (ho:Option Addr) (hc:Nat) (ha:List ByteArray) (ro:Option Addr) (rc:Nat) (ra:List (List ByteArray)) (bo:Option Addr) (bc:Nat) (hb:List ByteArray) (so:Option Addr) (sc:Nat) (rb:List (List ByteArray)) (no:Option Addr) (nc:Nat) (names:List ByteArray) (w:World)
 (hA:TabR w ho hc ha ro rc ra) (hB:TabR w bo bc hb so sc rb) (hN:NamesIn w no nc names) :
 Calls Tryz.prog 15 #[.agg #[.slice ho ha.length hc,.slice ro ra.length rc],.agg #[.slice bo hb.length bc,.slice so rb.length sc],.slice no names.length nc] w (PairsOut (byKeyU (useAB ha ra hb rb names) ha ra hb rb names) w) :=
 rbykey_any ho hc ha ro rc ra bo bc hb so sc rb no nc names w (by have:=hA.h12;omega) (by have:=hB.h12;omega) (by have:=hA.r25;omega) (by have:=hB.r25;omega) (by have:=hN.len;omega) hN.cap hA.tab.row hB.tab.row hA.tab.rows hB.tab.rows hN.row
theorem rbylook_in (ho:Option Addr) (hc:Nat) (ha:List ByteArray) (ro:Option Addr) (rc:Nat) (ra:List (List ByteArray)) (bo:Option Addr) (bc:Nat) (hb:List ByteArray) (so:Option Addr) (sc:Nat) (rb:List (List ByteArray)) (lo:Option Addr) (lc:Nat) (l:PL) (w:World)
 (hA:TabR w ho hc ha ro rc ra) (hB:TabR w bo bc hb so sc rb) (hP:PairsIn w lo lc l) :
 Calls Tryz.prog 17 #[.agg #[.slice ho ha.length hc,.slice ro ra.length rc],.agg #[.slice bo hb.length bc,.slice so rb.length sc],.slice lo l.length lc] w (PairsOut (byLookU ha ra hb rb l) w) :=
 rbylook_any ho hc ha ro rc ra bo bc hb so sc rb lo lc l w (by have:=hA.r25;omega) (by have:=hB.r25;omega) (by have:=hP.len;omega) hA.tab.rows hB.tab.rows hP.pairs
end
section
open Go.RowKit Go.Shelf
def few14 (ha:List ByteArray) (ra:List (List ByteArray)) (hb:List ByteArray) (rb:List (List ByteArray)):Prop:=(fewT ha ra∧fewT hb rb)∧(ra.length≤25∧rb.length≤25)∧ha.length≤12∧hb.length≤12
theorem tabR_of {w V:World} {ho:Option Addr} {hc:Nat} {ha:List ByteArray} {ro:Option Addr} {rc:Nat} {ra:List (List ByteArray)} {bo:Option Addr} {bc:Nat} {hb:List ByteArray} {so:Option Addr} {sc:Nat} {rb:List (List ByteArray)}
 (hA:StrArg w ho hc ha) (hB:RowsArg w ro rc ra) (hC:StrArg w bo bc hb) (hD:RowsArg w so sc rb) (hf:few14 ha ra hb rb) (hk:Below w.heap.size w V):TabR V ho hc ha ro rc ra∧TabR V bo bc hb so sc rb :=
 ⟨⟨tabIn_of hA hB hf.1.1 hk,hf.2.1.1,hf.2.2.1⟩,⟨tabIn_of hC hD hf.1.2 hk,hf.2.1.2,hf.2.2.2⟩⟩
theorem few14_any {w:World} {ho:Option Addr} {hc:Nat} {ha:List ByteArray} {ro:Option Addr} {rc:Nat} {ra:List (List ByteArray)} {bo:Option Addr} {bc:Nat} {hb:List ByteArray} {so:Option Addr} {sc:Nat} {rb:List (List ByteArray)}
 (hA:StrArg w ho hc ha) (hB:RowsArg w ro rc ra) (hC:StrArg w bo bc hb) (hD:RowsArg w so sc rb) (v:World) (hv:Below w.heap.size w v) :
 Calls Tryz.prog 10 #[.agg #[.slice ho ha.length hc,.slice ro ra.length rc],.agg #[.slice bo hb.length bc,.slice so rb.length sc]] v fun e w'=>∃ b,e=.returned (.bool b)∧(b=true→few14 ha ra hb rb)∧Below v.heap.size v w':=by
 obtain ⟨W,HW⟩:∃ W,Hid (W=(v.alloc (TabO ho ha.length hc ro ra.length rc)).alloc (TabO bo hb.length bc so rb.length sc)):=⟨_,Lib.hid rfl⟩
 have box:Hid (BoxedC v W ho ha.length hc ro ra.length rc bo hb.length bc so rb.length sc):=Lib.hid (by rw [HW.out];exact boxedC _ _ _ _ _ _ _ _ _ _ _ _ _)
 have B0:=Lib.hid box.out.start
 have F1:=Lib.hid (fun V (h:Below v.heap.size v V)=>few_in hA hB (below_up hv h))
 have F2:=Lib.hid (fun V (h:Below v.heap.size v V)=>few_in hC hD (below_up hv h))
 have hn1:ra.length≤9223372036854775807:=by have:=hB.len;unfold maxLen at this;omega
 have hn2:rb.length≤9223372036854775807:=by have:=hD.len;unfold maxLen at this;omega
 have hn3:ha.length≤9223372036854775807:=by have:=hA.len;unfold maxLen at this;omega
 have hn4:hb.length≤9223372036854775807:=by have:=hC.len;unfold maxLen at this;omega
 obtain ⟨Q,HQ⟩:∃ Q:Prop,Hid (Q ↔ few14 ha ra hb rb):=⟨_,Lib.hid Iff.rfl⟩
 have HFin:Hid (fewT ha ra→fewT hb rb→ra.length≤25→rb.length≤25→ha.length≤12→hb.length≤12→Q):=Lib.hid (fun a b c d e f=>HQ.out.2 ⟨⟨a,b⟩,⟨c,d⟩,e,f⟩)
 clear hA hB hC hD hv
 obtain ⟨⟨k0,k1⟩,k2,k3⟩:=box.out.cell W (Below.refl _ _)
 have D1:=Lib.hid (F1.out W B0.out)
 suffices h:Calls Tryz.prog 10 #[.agg #[.slice ho ha.length hc,.slice ro ra.length rc],.agg #[.slice bo hb.length bc,.slice so rb.length sc]] v fun e w'=>∃ b,e=.returned (.bool b)∧(b=true→Q)∧Below v.heap.size v w' by
  refine h.mono ?_;rintro e w' ⟨b,h1,h2,h3⟩;exact ⟨b,h1,fun h=>HQ.out.1 (h2 h),h3⟩
 clear HQ F1
 go_enter Tryz.func10,Tryz.ntmps10
 go_upto_region 1 with fail
 rw [show (v.alloc (TabO ho ha.length hc ro ra.length rc)).alloc (TabO bo hb.length bc so rb.length sc)=W from HW.out.symm]
 go_wp2_with fail
 refine D1.out.mono ?_;rintro e w1 ⟨b,rfl,hf,b1⟩
 have B1:=Lib.hid b1
 have D2:=Lib.hid (F2.out w1 (below_up B0.out b1))
 obtain ⟨⟨k0,k1⟩,k2,k3⟩:=box.out.cell w1 b1
 have HFa:=Lib.hid hf
 clear b1 hf F2 D1
 cases b with
 | false =>
  clear HFin HFa D2
  go_wp2_with fail
  go_ret
  exact ⟨false,rfl,fun h=>by simp at h,below_up B0.out B1.out⟩
 | true =>
  have HFin:=Lib.hid (HFin.out (HFa.out rfl))
  clear HFa
  go_wp2_with fail
  refine D2.out.mono ?_;rintro e w2 ⟨b,rfl,hf,b2⟩
  have B2:=Lib.hid (below_up B1.out b2)
  have HFa:=Lib.hid hf
  clear b2 hf D2 k0 k1 k2 k3 B1
  obtain ⟨⟨k0,k1⟩,k2,k3⟩:=box.out.cell w2 B2.out
  cases b with
  | false =>
   clear HFin HFa
   go_wp2_with fail
   go_ret
   exact ⟨false,rfl,fun h=>by simp at h,below_up B0.out B2.out⟩
  | true =>
   have HFin:=Lib.hid (HFin.out (HFa.out rfl))
   clear HFa
   by_cases h1:ra.length≤25
   · have HFin:=Lib.hid (HFin.out h1)
     by_cases h2:rb.length≤25
     · have HFin:=Lib.hid (HFin.out h2)
       by_cases h3:ha.length≤12
       · have HFin:=Lib.hid (HFin.out h3)
         by_cases h4:hb.length≤12
         · have HFin:=Lib.hid (HFin.out h4)
           have e1:decide ((ra.length:Int)≤25)=true:=decide_eq_true (by omega)
           have e2:decide ((rb.length:Int)≤25)=true:=decide_eq_true (by omega)
           have e3:decide ((ha.length:Int)≤12)=true:=decide_eq_true (by omega)
           have e4:decide ((hb.length:Int)≤12)=true:=decide_eq_true (by omega)
           go_wp2_with fail
           go_ret
           exact ⟨_,rfl,fun _=>HFin.out,below_up B0.out B2.out⟩
         · have e1:decide ((ra.length:Int)≤25)=true:=decide_eq_true (by omega)
           have e2:decide ((rb.length:Int)≤25)=true:=decide_eq_true (by omega)
           have e3:decide ((ha.length:Int)≤12)=true:=decide_eq_true (by omega)
           have e4:decide ((hb.length:Int)≤12)=false:=decide_eq_false (by omega)
           go_wp2_with fail
           go_ret
           exact ⟨false,rfl,fun h=>by simp at h,below_up B0.out B2.out⟩
       · have e1:decide ((ra.length:Int)≤25)=true:=decide_eq_true (by omega)
         have e2:decide ((rb.length:Int)≤25)=true:=decide_eq_true (by omega)
         have e3:decide ((ha.length:Int)≤12)=false:=decide_eq_false (by omega)
         go_wp2_with fail
         go_ret
         exact ⟨false,rfl,fun h=>by simp at h,below_up B0.out B2.out⟩
     · have e1:decide ((ra.length:Int)≤25)=true:=decide_eq_true (by omega)
       have e2:decide ((rb.length:Int)≤25)=false:=decide_eq_false (by omega)
       go_wp2_with fail
       go_ret
       exact ⟨false,rfl,fun h=>by simp at h,below_up B0.out B2.out⟩
   · have e1:decide ((ra.length:Int)≤25)=false:=decide_eq_false (by omega)
     go_wp2_with fail
     go_ret
     exact ⟨false,rfl,fun h=>by simp at h,below_up B0.out B2.out⟩
end
section
open Go.RowKit Go.Shelf
abbrev xK:ByteArray:=⟨#[107]⟩
abbrev xV:ByteArray:=⟨#[118]⟩
abbrev xH:List ByteArray:=[xK,xV]
abbrev xA:List (List ByteArray):=[[⟨#[49]⟩,⟨#[120]⟩],[⟨#[50]⟩,⟨#[121]⟩]]
abbrev xB:List (List ByteArray):=[[⟨#[50]⟩,⟨#[122]⟩],[⟨#[49]⟩,⟨#[120]⟩]]
abbrev xBoth:PL:=[(0,0),(1,1)]
theorem rex_useK:useAB xH xA xH xB [xK]=true:=by kernel_rfl
theorem rex_useN:useAB xH xA xH xB []=false:=by kernel_rfl
theorem rex_e1:rowsE xH xA xH xB xBoth=0:=by kernel_rfl
theorem rex_e2:rowsE xH xA xH xB [(2,0)]=11:=by kernel_rfl
theorem rex_key:byKeyU true xH xA xH xB [xK]=[(1,0),(0,1)]:=by kernel_rfl
theorem rex_look:byLookU xH xA xH xB xBoth=[(0,1)]:=by kernel_rfl
theorem rex_none:byLookU xH xA xH xB []=[]:=by kernel_rfl
theorem rex_l1:rowsL (useAB xH xA xH xB [xK]) xH xA xH xB xBoth [xK]=[(1,0),(0,1)]:=by rw [rex_useK];kernel_rfl
theorem rex_l2:rowsL (useAB xH xA xH xB []) xH xA xH xB xBoth []=[(0,1)]:=by rw [rex_useN];kernel_rfl
theorem rex_l3:rowsL (useAB xH xA xH xB []) xH xA xH xB [(2,0)] []=[]:=rows_bad (by rw [rex_e2];decide)
end
end Go.Proofs.YtdenehnneloegaaGreatDoor
