/-
  Texts of these rows' proofs, laid one behind the other: TRefA, TRefB.
  Conditions: those of each theorem.
-/
import Derived.WalkKit
import Derived.WalkMore
import Derived.Lib.Hide
import Derived.Test.YtdenehnneloegaaGreatDoorProg
import Derived.Test.YtdenehnneloegaaGreatDoorPa3
import Derived.Test.YtdenehnneloegaaGreatDoorPa6
import Derived.Laws.AppendOwn
import Derived.Laws.AppendOwnNone
import Derived.Deep.QuietTactic
import Derived.BigQuiet
import Derived.Lib.QuietBelow
import Derived.Deep.RegionWith
import Derived.Deep.CutRange
import Derived.Deep.Onto
import Derived.Lib.AppendZerosOnto
import Derived.Laws.CopyOwn
import Derived.Deep.RegionLaw
import Derived.Deep.OwnRows
import Derived.Test.YtdenehnneloegaaGreatDoorPa2
namespace Go.Proofs.YtdenehnneloegaaGreatDoor
set_option linter.unusedVariables false
set_option maxRecDepth 100000
set_option maxHeartbeats 8000000
section
open Go.RowKit Go.Shelf
theorem sum_head (hd:List ByteArray) (rs:List (List ByteArray)) (k:Nat) (x:ByteArray) (h:hd[k]?=some x):sumT (hd.take (k+1))=sumT (hd.take k)+x.size∧sumT (hd.take (k+1))≤sumT (allT hd rs):=by
 obtain ⟨h1,h2⟩:=pre_head hd rs k x h
 exact ⟨by rw [h1,sumT_next],by rw [h1];exact sumT_pre h2⟩
theorem sum_row (hd:List ByteArray) (rs:List (List ByteArray)) (k j:Nat) (r:List ByteArray) (x:ByteArray) (hr:rs[k]?=some r) (h:r[j]?=some x) :
 sumT (hd ++ (rs.take k).flatten ++ r.take (j+1))=sumT (hd ++ (rs.take k).flatten ++ r.take j)+x.size∧sumT (hd ++ (rs.take k).flatten ++ r.take (j+1))≤sumT (allT hd rs):=by
 obtain ⟨h1,h2⟩:=pre_row hd rs k j r x hr h
 exact ⟨by rw [h1,sumT_next],by rw [h1];exact sumT_pre h2⟩
theorem rtotal_any (ho:Option Addr) (hc:Nat) (hd:List ByteArray) (ro:Option Addr) (rc:Nat) (rs:List (List ByteArray)) (w:World)
 (hn:hd.length≤1099511627776) (hn2:rs.length≤1099511627776) (hn3:∀ r ∈ rs,r.length≤1099511627776) (hH:StrRow w ho hd) (hR:RowsAt w ro rs) (hsum:sumT (allT hd rs)≤1152921504606846976) :
 Calls Tryz.prog 73 #[.agg #[.slice ho hd.length hc,.slice ro rs.length rc]] w fun e w'=>e=.returned (.int .i64 (sumT (allT hd rs):Int))∧Below w.heap.size w w':=by
 obtain ⟨W,HW⟩:∃ W,Hid (W=w.alloc (TabO ho hd.length hc ro rs.length rc)):=⟨_,Lib.hid rfl⟩
 have hB:Below w.heap.size w W:=by rw [HW.out];exact one_below _ _
 have HB:=Lib.hid hB
 have HHo:=Lib.hid (hH.kept hB)
 have HRo:=Lib.hid (hR.kept hB)
 have HN3:=Lib.hid hn3
 have HSH:=Lib.hid (sum_head hd rs)
 have HSR:=Lib.hid (sum_row hd rs)
 have HRE:=Lib.hid (row_end hd rs)
 have E1:=Lib.hid (show allT hd rs=hd ++ (rs.take rs.length).flatten by simp [allT])
 have hN:W.heap[w.heap.size]?=some (TabO ho hd.length hc ro rs.length rc):=by rw [HW.out];exact World.alloc_heap_new w _
 obtain ⟨c0,c1⟩:=tabs hN
 obtain ⟨S,HS⟩:∃ S:Nat,Hid (S=sumT (allT hd rs)):=⟨_,Lib.hid rfl⟩
 rw [← HS.out] at hsum HSH HSR ⊢
 clear hH hR hn3 hB hN
 go_enter Tryz.func73,Tryz.ntmps73
 go_wp2_with fail
 rw [show w.alloc (Obj.cells #[Value.slice ho hd.length hc,Value.slice ro rs.length rc] 25)=W from HW.out.symm]
 go_loopw [3,4] (fun p i wr=>∃ k m:Nat,k≤hd.length∧m≤1152921504606846976∧p=.int .i64 m∧i=.int .i64 k∧wr=W∧Hid (m=sumT (hd.take k))) (fun _ i _=>hd.length - (intOf i).toNat)
 case atStart=>exact ⟨0,0,Nat.zero_le _,Nat.zero_le _,rfl,rfl,rfl,Lib.hid (by simp [sumT])⟩
 case round =>
  obtain ⟨k,m,hk,hm,rfl,rfl,rfl,HM⟩:=hrel
  by_cases hlt:k < hd.length
  · obtain ⟨x,hx⟩:∃ x,hd[k]?=some x:=⟨_,List.getElem?_eq_getElem hlt⟩
    have HX:=Lib.hid (HSH.out k x hx)
    have hle:m+x.size≤1152921504606846976:=by have h1:=HX.out.1;have h2:=HX.out.2;have h3:=HM.out;omega
    have HM':Hid (m+x.size=sumT (hd.take (k+1))):=Lib.hid (by rw [HX.out.1,HM.out])
    rcases HHo.out with h0 | ⟨A,rfl,hA,hcell⟩
    · rw [h0] at hlt;simp at hlt
    have hcx:=hcell k x hx
    clear hcell hx
    go_wp2_with fail
    go_roundw
    case rel=>exact ⟨k+1,m+x.size,by omega,hle,by go_num,by go_num,by first | rfl | trivial,HM'⟩
    case measure=>simp [intOf];omega
  · obtain rfl:k=hd.length:=by omega
    go_wp2_with fail
    obtain ⟨wo,rfl⟩:∃ wo:World,wo=wr:=⟨_,rfl⟩
    go_loopw [3,5] (fun p i wr=>∃ k m:Nat,k≤rs.length∧m≤1152921504606846976∧p=.int .i64 m∧i=.int .i64 k∧wr=wo∧Hid (m=sumT (hd ++ (rs.take k).flatten))) (fun _ i _=>rs.length - (intOf i).toNat)
    case atStart=>exact ⟨0,m,Nat.zero_le _,hm,rfl,rfl,rfl,Lib.hid (by rw [HM.out,List.take_length];simp)⟩
    case round =>
     obtain ⟨k,m,hk,hm,rfl,rfl,hww,HM⟩:=hrel
     subst hww
     by_cases hlt:k < rs.length
     · obtain ⟨r,hr⟩:∃ r,rs[k]?=some r:=⟨_,List.getElem?_eq_getElem hlt⟩
       have HRk:=Lib.hid hr
       have hrl:=HN3.out r (List.mem_of_getElem? hr)
       rcases HRo.out with h0 | ⟨A,rfl,hA,hcell⟩
       · rw [h0] at hlt;simp at hlt
       obtain ⟨ro1,rc1,hc1,hs1⟩:=hcell k r hr
       have HS1:=Lib.hid hs1
       clear hcell hr hs1
       go_wp2_with fail
       obtain ⟨wo2,rfl⟩:∃ wo2:World,wo2=wr:=⟨_,rfl⟩
       go_loopw [3,6] (fun p i wr=>∃ j m:Nat,j≤r.length∧m≤1152921504606846976∧p=.int .i64 m∧i=.int .i64 j∧wr=wo2∧Hid (m=sumT (hd ++ (rs.take k).flatten ++ r.take j))) (fun _ i _=>r.length - (intOf i).toNat)
       case atStart=>exact ⟨0,m,Nat.zero_le _,hm,rfl,rfl,rfl,Lib.hid (by rw [HM.out];simp)⟩
       case round =>
        obtain ⟨j,m,hj,hm,rfl,rfl,hww,HM⟩:=hrel
        subst hww
        by_cases hjl:j < r.length
        · obtain ⟨x,hx⟩:∃ x,r[j]?=some x:=⟨_,List.getElem?_eq_getElem hjl⟩
          have HX:=Lib.hid (HSR.out k j r x HRk.out hx)
          have hle:m+x.size≤1152921504606846976:=by have h1:=HX.out.1;have h2:=HX.out.2;have h3:=HM.out;omega
          have HM':Hid (m+x.size=sumT (hd ++ (rs.take k).flatten ++ r.take (j+1))):=Lib.hid (by rw [HX.out.1,HM.out])
          rcases HS1.out with h0 | ⟨A1,rfl,hA1,hcell⟩
          · rw [h0] at hjl;simp at hjl
          have hcx:=hcell j x hx
          clear hcell hx
          go_wp2_with fail
          go_roundw
          case rel=>exact ⟨j+1,m+x.size,by omega,hle,by go_num,by go_num,by first | rfl | trivial,HM'⟩
          case measure=>simp [intOf];omega
        · obtain rfl:j=r.length:=by omega
          have HM':Hid (m=sumT (hd ++ (rs.take (k+1)).flatten)):=Lib.hid (by rw [← HRE.out k r HRk.out,HM.out])
          go_wp2_with fail
          go_roundw
          case rel=>exact ⟨k+1,m,by omega,hm,rfl,by go_num,by first | rfl | trivial,HM'⟩
          case measure=>simp [intOf];omega
     · obtain rfl:k=rs.length:=by omega
       have HE:Hid (m=S):=Lib.hid (by rw [HS.out,E1.out];exact HM.out)
       go_wp2_with fail
       go_ret
       exact ⟨by rw [← HE.out];rfl,HB.out⟩
theorem rfind_any (ho:Option Addr) (hc:Nat) (hd:List ByteArray) (ro:Option Addr) (m rc:Nat) (s:ByteArray) (w:World) (hn:hd.length≤1099511627776) (hH:StrRow w ho hd) :
 Calls Tryz.prog 82 #[.agg #[.slice ho hd.length hc,.slice ro m rc],.string s] w fun e w'=>e=.returned (.int .i64 (findL hd s))∧Below w.heap.size w w':=by
 obtain ⟨W,HW⟩:∃ W,Hid (W=w.alloc (TabO ho hd.length hc ro m rc)):=⟨_,Lib.hid rfl⟩
 have hB:Below w.heap.size w W:=by rw [HW.out];exact one_below _ _
 have HB:=Lib.hid hB
 have HHo:=Lib.hid (hH.kept hB)
 have hN:W.heap[w.heap.size]?=some (TabO ho hd.length hc ro m rc):=by rw [HW.out];exact World.alloc_heap_new w _
 obtain ⟨c0,c1⟩:=tabs hN
 have HF:=Lib.hid (firstAt_none (fun c=>decide (c.data.toList=s.data.toList)) hd)
 have HS:=Lib.hid (firstAt_some (fun c=>decide (c.data.toList=s.data.toList)) hd)
 unfold findL
 clear hH hB hN
 generalize firstAt (fun c=>decide (c.data.toList=s.data.toList)) hd=F at HF HS ⊢
 go_enter Tryz.func82,Tryz.ntmps82
 go_wp2_with fail
 rw [show w.alloc (Obj.cells #[Value.slice ho hd.length hc,Value.slice ro m rc] 25)=W from HW.out.symm]
 go_loopw [5] (fun i wr=>∃ k:Nat,k≤hd.length∧i=.int .i64 k∧wr=W∧Hid (∀ j c,j < k→hd[j]?=some c→decide (c.data.toList=s.data.toList)=false)) (fun i _=>hd.length - (intOf i).toNat)
 case atStart=>exact ⟨0,Nat.zero_le _,rfl,rfl,Lib.hid (fun j c h _=>by omega)⟩
 case round =>
  obtain ⟨k,hk,rfl,rfl,HN⟩:=hrel
  by_cases hlt:k < hd.length
  · obtain ⟨x,hx⟩:∃ x,hd[k]?=some x:=⟨_,List.getElem?_eq_getElem hlt⟩
    have HX:=Lib.hid hx
    have hbe:=str_beq x s
    rcases HHo.out with h0 | ⟨A,rfl,hA,hcell⟩
    · rw [h0] at hlt;simp at hlt
    have hcx:=hcell k x hx
    clear hcell hx
    by_cases hp:x.data.toList=s.data.toList
    · have E:=Lib.hid (HS.out k x HX.out (decide_eq_true hp) HN.out)
      rw [decide_eq_true hp] at hbe
      clear hp
      go_wp2_with fail
      go_ret
      exact ⟨by rw [E.out];rfl,HB.out⟩
    · have HN':Hid (∀ j c,j < k+1→hd[j]?=some c→decide (c.data.toList=s.data.toList)=false):=Lib.hid (fun j c hj hc'=>by
       by_cases e:j=k
       · subst e;rw [HX.out] at hc';cases hc';exact decide_eq_false hp
       · exact HN.out j c (by omega) hc')
      rw [decide_eq_false hp] at hbe
      clear hp
      go_wp2_with fail
      go_roundw
      case rel=>exact ⟨k+1,by omega,by go_num,by first | rfl | trivial,HN'⟩
      case measure=>simp [intOf];omega
  · obtain rfl:k=hd.length:=by omega
    have E:=Lib.hid (HF.out (fun j c hc=>HN.out j c (by obtain ⟨h,_⟩:=List.getElem?_eq_some_iff.1 hc;exact h) hc))
    go_wp2_with fail
    go_ret
    exact ⟨by rw [E.out];rfl,HB.out⟩
theorem rlong_any (ho:Option Addr) (hc:Nat) (hd:List ByteArray) (w:World) (hn:hd.length≤1099511627776) (hs:∀ c ∈ hd,c.size≤1152921504606846976) (hH:StrRow w ho hd) :
 Calls Tryz.prog 129 #[.slice ho hd.length hc] w fun e w'=>e=.returned (.bool (longT hd))∧w=w':=by
 have HHo:=Lib.hid hH
 have HS:=Lib.hid hs
 have HL0:=Lib.hid (fun h=>longT_no (l:=hd) h)
 have HL1:=Lib.hid (fun h=>longT_yes (l:=hd) (pre:=hd) (List.prefix_refl _) h)
 clear hH hs
 generalize longT hd=F at HL0 HL1 ⊢
 go_enter Tryz.func129,Tryz.ntmps129
 go_wp2_with fail
 go_loopw [3] (fun i wr=>∃ k:Nat,k≤hd.length∧i=.int .i64 k∧wr=w∧Hid (∀ j c,j < k→hd[j]?=some c→c.size≤1000)) (fun i _=>hd.length - (intOf i).toNat)
 case atStart=>exact ⟨0,Nat.zero_le _,rfl,rfl,Lib.hid (fun j c h _=>by omega)⟩
 case round =>
  obtain ⟨k,hk,rfl,rfl,HN⟩:=hrel
  by_cases hlt:k < hd.length
  · obtain ⟨x,hx⟩:∃ x,hd[k]?=some x:=⟨_,List.getElem?_eq_getElem hlt⟩
    have HX:=Lib.hid hx
    have hxs:=HS.out x (List.mem_of_getElem? hx)
    rcases HHo.out with h0 | ⟨A,rfl,hA,hcell⟩
    · rw [h0] at hlt;simp at hlt
    have hcx:=hcell k x hx
    clear hcell hx
    by_cases hp:x.size≤1000
    · have HN':Hid (∀ j c,j < k+1→hd[j]?=some c→c.size≤1000):=Lib.hid (fun j c hj hc'=>by
       by_cases e:j=k
       · subst e;rw [HX.out] at hc';cases hc';exact hp
       · exact HN.out j c (by omega) hc')
      go_wp2_with fail
      go_roundw
      case rel=>exact ⟨k+1,by omega,by go_num,by first | rfl | trivial,HN'⟩
      case measure=>simp [intOf];omega
    · have E:=Lib.hid (HL1.out ⟨x,List.mem_of_getElem? HX.out,by omega⟩)
      go_wp2_with fail
      go_ret
      exact ⟨by rw [E.out];rfl,rfl⟩
  · obtain rfl:k=hd.length:=by omega
    have E:=Lib.hid (HL0.out (fun c hc=>by
     obtain ⟨i,hi,rfl⟩:=List.getElem_of_mem hc
     exact HN.out i _ hi (List.getElem?_eq_getElem hi)))
    go_wp2_with fail
    go_ret
    exact ⟨by rw [E.out];rfl,rfl⟩
def fewT (hd:List ByteArray) (rs:List (List ByteArray)):Prop:=fewP rs∧hd.length≤60∧sumT (allT hd rs)≤8000
theorem sum_le (n B:Nat) (l:List ByteArray) (hl:l.length≤n) (h:∀ c ∈ l,c.size≤B):sumT l≤n * B:=by
 induction l generalizing n with
 | nil=>simp [sumT]
 | cons x l ih =>
  obtain ⟨m,rfl⟩:∃ m,n=m+1:=⟨n - 1,by simp at hl;omega⟩
  have:=ih m (by simp at hl;omega) (fun c hc=>h c (List.mem_cons_of_mem _ hc))
  have hx:=h x List.mem_cons_self
  simp only [sumT,List.map_cons,List.sum_cons] at this ⊢
  rw [Nat.add_mul];omega
theorem sum_rows (rs:List (List ByteArray)):sumT rs.flatten≤tot rs:=by
 induction rs with
 | nil=>simp [sumT,tot]
 | cons x l ih =>
  have h1:sumT x≤rowTot x:=by
   clear ih
   induction x with
   | nil=>simp [sumT,rowTot]
   | cons a b ih=>simp only [sumT,rowTot,List.map_cons,List.sum_cons] at ih ⊢;omega
  simp only [sumT,tot,List.flatten_cons,List.map_append,List.sum_append,List.map_cons,List.sum_cons] at ih h1 ⊢;omega
theorem rfew_any (ho:Option Addr) (hc:Nat) (hd:List ByteArray) (ro:Option Addr) (rc:Nat) (rs:List (List ByteArray)) (w:World)
 (hn:hd.length≤maxLen) (hn2:rs.length≤maxLen) (hx:∀ r ∈ rs,r.length≤maxLen∧∀ c ∈ r,c.size≤140737488351232) (hs:∀ c ∈ hd,c.size≤140737488351232) (hH:StrRow w ho hd) (hR:RowsAt w ro rs) :
 Calls Tryz.prog 27 #[.agg #[.slice ho hd.length hc,.slice ro rs.length rc]] w fun e w'=>∃ b,e=.returned (.bool b)∧(b=true→fewT hd rs)∧Below w.heap.size w w':=by
 obtain ⟨W,HW⟩:∃ W,Hid (W=w.alloc (TabO ho hd.length hc ro rs.length rc)):=⟨_,Lib.hid rfl⟩
 have hB:Below w.heap.size w W:=by rw [HW.out];exact one_below _ _
 have HB:=Lib.hid hB
 have C1:=Lib.hid (fewReach_any ro rc rs W hn2 hx (hR.kept hB))
 have C2:Hid (fewP rs→hd.length≤60→Calls Tryz.prog 73 #[.agg #[.slice ho hd.length hc,.slice ro rs.length rc]] W fun e w'=>e=.returned (.int .i64 (sumT (allT hd rs):Int))∧Below W.heap.size W w'):=Lib.hid (fun h h60 =>
  rtotal_any ho hc hd ro rc rs W (by omega) (by have:=h.1;omega) (fun r hr=>by have:=h.2.1 r hr;omega) (hH.kept hB) (hR.kept hB) (by
   have h1:=sum_le 60 140737488351232 hd h60 hs
   have h2:=sum_rows rs
   have h3:=h.2.2
   have e:sumT (allT hd rs)=sumT hd+sumT rs.flatten:=by simp [allT,sumT]
   omega))
 have hN:W.heap[w.heap.size]?=some (TabO ho hd.length hc ro rs.length rc):=by rw [HW.out];exact World.alloc_heap_new w _
 obtain ⟨c0,c1⟩:=tabs hN
 unfold maxLen at hn hn2
 clear hH hR hx hs hB hN
 go_enter Tryz.func27,Tryz.ntmps27
 go_wp2_with fail
 rw [show w.alloc (Obj.cells #[Value.slice ho hd.length hc,Value.slice ro rs.length rc] 25)=W from HW.out.symm]
 refine C1.out.mono ?_;rintro e w1 ⟨b,rfl,hb,rfl⟩
 cases b with
 | false =>
  clear hb
  go_wp2_with fail
  go_ret
  exact ⟨false,rfl,(fun h=>by cases h),HB.out⟩
 | true =>
  have HF:=Lib.hid (hb rfl)
  clear hb
  by_cases h60:hd.length≤60
  · have C3:=Lib.hid (C2.out HF.out h60)
    have H8:=Lib.hid (fun (h:sumT (allT hd rs)≤8000)=>(show fewT hd rs from ⟨HF.out,h60,h⟩))
    clear C2
    generalize sumT (allT hd rs)=t at C3 H8
    by_cases h8:t≤8000
    · go_wp2_with fail
      refine C3.out.mono ?_;rintro e w2 ⟨rfl,b2⟩
      have B2:=Lib.hid (below_up HB.out b2)
      clear b2
      go_wp2_with fail
      go_ret
      exact ⟨_,rfl,fun _=>H8.out h8,B2.out⟩
    · have hd8:decide ((t:Int)≤8000)=false:=by simp;omega
      go_wp2_with fail
      refine C3.out.mono ?_;rintro e w2 ⟨rfl,b2⟩
      have B2:=Lib.hid (below_up HB.out b2)
      clear b2
      go_wp2_with fail
      go_ret
      exact ⟨false,by simp,(fun h=>by cases h),B2.out⟩
  · have hd6:decide ((hd.length:Int)≤60)=false:=by simp;omega
    clear C2
    go_wp2_with fail
    go_ret
    exact ⟨false,by simp,(fun h=>by cases h),HB.out⟩
theorem cell_parts (rs:List (List ByteArray)) (r c:Int):(r < 0∧cellL rs r c=⟨#[]⟩)∨((rs.length:Int)≤r∧cellL rs r c=⟨#[]⟩)∨(∃ k:Nat,r=k∧k < rs.length∧∃ x,rs[k]?=some x ∧
 ((c < 0∧cellL rs r c=⟨#[]⟩)∨(0≤c∧(x.length:Int)≤c∧cellL rs r c=⟨#[]⟩)∨∃ j:Nat,c=j∧j < x.length∧∃ y,x[j]?=some y∧cellL rs r c=y)):=by
 by_cases h1:r < 0
 · exact .inl ⟨h1,cellL_row rs r c (by simp;omega)⟩
 by_cases h2:(rs.length:Int)≤r
 · exact .inr (.inl ⟨h2,cellL_row rs r c (by simp;omega)⟩)
 obtain ⟨k,rfl⟩:=Int.eq_ofNat_of_zero_le (show 0≤r by omega)
 have hk:k < rs.length:=by omega
 refine .inr (.inr ⟨k,rfl,hk,rs[k],List.getElem?_eq_getElem hk,?_⟩)
 by_cases h3:c < 0
 · exact .inl ⟨h3,cellL_col rs k rs[k] c (List.getElem?_eq_getElem hk) (by simp;omega)⟩
 by_cases h4:((rs[k]).length:Int)≤c
 · exact .inr (.inl ⟨by omega,h4,cellL_col rs k rs[k] c (List.getElem?_eq_getElem hk) (by simp;omega)⟩)
 obtain ⟨j,rfl⟩:=Int.eq_ofNat_of_zero_le (show 0≤c by omega)
 have hj:j < (rs[k]).length:=by omega
 exact .inr (.inr ⟨j,rfl,hj,_,List.getElem?_eq_getElem hj,cellL_at rs k j _ _ (List.getElem?_eq_getElem hk) (List.getElem?_eq_getElem hj)⟩)
theorem rcell_any (ho:Option Addr) (m hc:Nat) (ro:Option Addr) (rc:Nat) (rs:List (List ByteArray)) (r c:Int) (w:World) (hR:RowsAt w ro rs) :
 Calls Tryz.prog 89 #[.agg #[.slice ho m hc,.slice ro rs.length rc],.int .i64 r,.int .i64 c] w fun e w'=>e=.returned (.string (cellL rs r c))∧Below w.heap.size w w':=by
 have HB:=Lib.hid (one_below w (TabO ho m hc ro rs.length rc))
 have HR:=Lib.hid (hR.kept HB.out)
 have P:=cell_parts rs r c
 clear hR
 rcases P with ⟨h,e⟩ | ⟨h,e⟩ | ⟨k,rfl,hk,x,hx,P⟩
 · have E:=Lib.hid e
   clear e
   go_enter Tryz.func89,Tryz.ntmps89
   go_wp2_with fail
   go_ret
   exact ⟨by rw [E.out];rfl,HB.out⟩
 · have E:=Lib.hid e
   have h0:¬ r < 0:=by omega
   clear e
   go_enter Tryz.func89,Tryz.ntmps89
   go_wp2_with fail
   go_ret
   exact ⟨by rw [E.out];rfl,HB.out⟩
 · rcases HR.out with h0 | ⟨A,rfl,hA,hcell⟩
   · rw [h0] at hk;simp at hk
   obtain ⟨ro1,rc1,hc1,hs1⟩:=hcell k x hx
   have HS1:=Lib.hid hs1
   clear hcell hs1 hx
   rcases P with ⟨h,e⟩ | ⟨h,h',e⟩ | ⟨j,rfl,hj,y,hy,e⟩
   · have E:=Lib.hid e
     clear e
     go_enter Tryz.func89,Tryz.ntmps89
     go_wp2_with fail
     go_ret
     exact ⟨by rw [E.out];rfl,HB.out⟩
   · have E:=Lib.hid e
     have h0:¬ c < 0:=by omega
     clear e
     go_enter Tryz.func89,Tryz.ntmps89
     go_wp2_with fail
     go_ret
     exact ⟨by rw [E.out];rfl,HB.out⟩
   · rcases HS1.out with h0 | ⟨A1,rfl,hA1,hcell⟩
     · rw [h0] at hj;simp at hj
     have hcy:=hcell j y hy
     have E:=Lib.hid e
     clear e hcell hy
     go_enter Tryz.func89,Tryz.ntmps89
     go_wp2_with fail
     go_ret
     exact ⟨by rw [E.out];rfl,HB.out⟩
end
section
open Go.RowKit Go.Shelf
def StrOutC (xs:List ByteArray) (w:World) (e:Ending) (w':World):Prop:=∃ ao cap,e=.returned (.slice ao xs.length cap)∧xs.length≤cap∧StrRow w' ao xs∧Below w.heap.size w w'
theorem own_room {w:World} {base:Nat} {e:TypeId} {size n m cap:Nat} {ao:Option Addr} {xs:List Value} (h:w.ownsRow base e size (.slice ao n cap) m xs) (hm:n=m):n≤cap:=by
 rcases h.2 with ⟨h1,h2⟩ | ⟨g,c,cur,h1,_,_,h3,_⟩
 · omega
 · injection h1 with _ _ e;omega
theorem own_row_str {w:World} {base:Nat} {e:TypeId} {ao:Option Addr} {n cap:Nat} {xs:List ByteArray} (h:w.ownsRow base e 1 (.slice ao n cap) n (xs.map Value.string)) (hl:xs.length=n):StrRow w ao xs:=by
 rcases h.2 with ⟨h1,h2⟩ | ⟨g,c,cur,h1,_⟩
 · cases h1;exact .inl (List.eq_nil_of_length_eq_zero hl)
 · cases h1;exact .inr ⟨_,rfl,(h.lt g rfl).2,fun i c hc=>h.cells rfl i _ (by rw [List.getElem?_map,hc];rfl)⟩
theorem rcolumnC_any (ho:Option Addr) (hc:Nat) (hd:List ByteArray) (ro:Option Addr) (rc:Nat) (rs:List (List ByteArray)) (c:Int) (w:World) (hn2:rs.length≤1099511627776) (hR:RowsAt w ro rs) :
 Calls Tryz.prog 131 #[.agg #[.slice ho hd.length hc,.slice ro rs.length rc],.int .i64 c] w (StrOutC (columnT hd rs c) w):=by
 obtain ⟨W,HW⟩:∃ W,Hid (W=w.alloc (TabO ho hd.length hc ro rs.length rc)):=⟨_,Lib.hid rfl⟩
 have hB:Below w.heap.size w W:=by rw [HW.out];exact one_below _ _
 have HB0:=Lib.hid hB
 have hN:W.heap[w.heap.size]?=some (TabO ho hd.length hc ro rs.length rc):=by rw [HW.out];exact World.alloc_heap_new w _
 have HNew:=Lib.hid hN
 have CC:=Lib.hid (fun V (k:Nat) (h:Below W.heap.size W V)=>rcell_any ho hd.length hc ro rc rs (k:Int) c V (hR.kept (below_up hB h)))
 obtain ⟨c0,c1⟩:=tabs hN
 clear hR hB hN
 by_cases h1:c < 0
 · have E:=Lib.hid (show columnT hd rs c=[] from by unfold columnT;rw [if_neg];omega)
   rw [E.out]
   go_enter Tryz.func131,Tryz.ntmps131
   go_wp2_with fail
   go_ret
   exact ⟨none,0,rfl,Nat.le_refl _,.inl rfl,by rw [HW.out] at HB0;exact HB0.out⟩
 by_cases h2:(hd.length:Int)≤c
 · have E:=Lib.hid (show columnT hd rs c=[] from by unfold columnT;rw [if_neg];omega)
   rw [E.out]
   go_enter Tryz.func131,Tryz.ntmps131
   go_wp2_with fail
   go_ret
   exact ⟨none,0,rfl,Nat.le_refl _,.inl rfl,by rw [HW.out] at HB0;exact HB0.out⟩
 have E:=Lib.hid (show columnT hd rs c=colL rs c from by unfold columnT;rw [if_pos];omega)
 rw [E.out]
 have HA:=Lib.hid (colL_at rs c)
 have HL:=Lib.hid (colL_len rs c)
 clear E
 generalize colL rs c=xs at HA HL ⊢
 have hinfo:(Tryz.prog.info? 9).map (fun i=>(i.zero,i.size,i.bytes))=some (some (.string ⟨#[]⟩),1,16):=by kernel_rfl
 obtain ⟨i0,hi,hz0,hz1,hz2⟩:=info_parts hinfo
 have HI:=Lib.hid hi
 clear hi hinfo
 go_enter Tryz.func131,Tryz.ntmps131
 go_wp2_with fail
 rw [show w.alloc (Obj.cells #[Value.slice ho hd.length hc,Value.slice ro rs.length rc] 25)=W from HW.out.symm]
 clear c0 c1
 go_loopw [5,6] (fun v i wr=>∃ (k cap:Nat) (ao:Option Addr),k≤rs.length∧v=.slice ao k cap∧i=.int .i64 k∧Hid (Below W.heap.size W wr)∧Hid (wr.ownsRow W.heap.size 9 1 (.slice ao k cap) k ((xs.map Value.string).take k))) (fun _ i _=>rs.length - (intOf i).toNat)
 case atStart=>exact ⟨0,0,none,Nat.zero_le _,rfl,rfl,Lib.hid (Below.refl _ _),Lib.hid (World.ownsRow_nil _ _ _ _)⟩
 case round =>
  obtain ⟨k,cap,ao,hk,rfl,rfl,HB,HO⟩:=hrel
  obtain ⟨c0,c1⟩:=tabs ((HB.out.block _ (lt_of_heap HNew.out)).trans HNew.out)
  by_cases hlt:k < rs.length
  · have C1:=Lib.hid (CC.out wr k HB.out)
    have HX:=Lib.hid (HA.out k hlt)
    generalize cellL rs k c=x at C1 HX
    have HT:Hid ((xs.map Value.string).take k ++ [Value.string x]=(xs.map Value.string).take (k+1)):=Lib.hid (by
     obtain ⟨hk',e⟩:=List.getElem?_eq_some_iff.1 HX.out
     rw [List.take_succ_eq_append_getElem (by simpa using hk')];simp [e])
    go_wp2_with fail
    refine C1.out.mono ?_;rintro e w2 ⟨rfl,b2⟩
    have HB2:=Lib.hid (below_up HB.out b2)
    have HO2:=Lib.hid ((ownsRow_below HO.out b2).alloc (.cells #[.string x] 9))
    have hbs:W.heap.size≤(w2.alloc (.cells #[.string x] 9)).heap.size:=by have:=HB2.out.size;simp;omega
    clear b2 c0 c1
    go_wp2_with (at_builtin;refine wpList_append_own _ rfl _ _ 22 rfl W.heap.size 9 i0 (.string ⟨#[]⟩) 1 16 Tryz.underlying22 HI.out hz0 hz1 hz2 rfl (by decide) _ _ _ rfl HO2.out ⟨w2.heap.size,0,none⟩ 1 1 [.string x] rfl rfl ?c1 ?c2 ?c3 ?c4 ?c5 ?_)
    case c1 =>
     intro j u hj
     rw [cell_row (World.alloc_heap_new w2 _)]
     match j,hj with
     | 0,hj=>simp at hj;subst hj;rfl
    case c2=>intro u hu;simp at hu;subst hu;rfl
    case c3=>unfold maxLen;omega
    case c4=>omega
    case c5=>exact hbs
    intro v' w3 hown' hgrow _
    obtain ⟨g,cp,rfl⟩:=ownsRow_succ hown'
    have HB3:=Lib.hid ((HB2.out.alloc HB2.out.size (.cells #[.string x] 9)).grown hgrow hbs (fun k' h'=>by
     rcases HO.out.2 with ⟨h1,_⟩ | ⟨g',cp',cur,h1,hb,_⟩
     · cases h1;cases h'
     · cases h1;simp [Value.ownBlock] at h';omega))
    rw [HT.out] at hown'
    have HO3:=Lib.hid hown'
    clear hown' hgrow hbs
    go_wp2_with fail
    go_roundw
    case rel=>exact ⟨k+1,cp,_,by omega,rfl,by go_num,HB3,HO3⟩
    case measure=>simp [intOf];omega
  · obtain rfl:k=rs.length:=by omega
    have HCp:=Lib.hid (own_room HO.out rfl)
    have HS:Hid (StrRow wr ao xs):=Lib.hid (own_row_str (by have:=HO.out;rw [List.take_of_length_le (by simp [HL.out])] at this;exact this) HL.out)
    go_wp2_with fail
    go_ret
    exact ⟨_,_,by rw [HL.out];rfl,by rw [HL.out];exact HCp.out,HS.out,below_up HB0.out HB.out⟩
theorem dup_find_no (hd:List ByteArray) (h:∀ (i:Nat) x,hd[i]?=some x→findL hd x=(i:Int)):dupL hd=false:=by
 unfold dupL
 rw [decide_eq_false]
 intro hn
 refine hn (List.pairwise_iff_getElem.2 fun i j hi hj hij e=>?_)
 simp only [bytesOf,List.length_map] at hi hj
 have e':(hd[i]'(by omega)).data.toList=hd[j].data.toList:=by simpa [bytesOf] using e
 have h1:=h i _ (List.getElem?_eq_getElem (show i < hd.length by omega))
 have h2:=h j _ (List.getElem?_eq_getElem hj)
 have:findL hd (hd[i]'(by omega))=findL hd hd[j]:=by unfold findL;simp only [e']
 omega
theorem dup_find_yes (hd:List ByteArray) (i:Nat) (x:ByteArray) (hx:hd[i]?=some x) (h:findL hd x ≠ (i:Int)):dupL hd=true:=by
 obtain ⟨hi,rfl⟩:=List.getElem?_eq_some_iff.1 hx
 unfold dupL
 refine decide_eq_true fun hn=>h ?_
 refine firstAt_some _ hd i hd[i] hx (by simp) fun j c hj hc=>?_
 obtain ⟨hj',rfl⟩:=List.getElem?_eq_some_iff.1 hc
 refine decide_eq_false fun e=>?_
 exact List.pairwise_iff_getElem.1 hn j i (by simpa [bytesOf] using hj') (by simpa [bytesOf] using hi) hj (by simp [bytesOf,e])
theorem long_all (hd:List ByteArray) (rs:List (List ByteArray)):longT (allT hd rs)=(longT hd || rs.any longT):=by
 unfold longT allT
 rw [List.any_append,List.any_flatten]
def restB (hd:List ByteArray) (rs:List (List ByteArray)) (k:Nat):Bool:=decide (40 < hd.length) || decide (400 < rs.length) || longT hd || (rs.take k).any longT
theorem restB_next (hd:List ByteArray) (rs:List (List ByteArray)) (k:Nat) (r:List ByteArray) (h:rs[k]?=some r):restB hd rs (k+1)=(restB hd rs k || longT r):=by
 obtain ⟨hk,e⟩:=List.getElem?_eq_some_iff.1 h
 unfold restB
 rw [List.take_succ_eq_append_getElem hk,e,List.any_append];simp [Bool.or_assoc]
theorem restB_zero (hd:List ByteArray) (rs:List (List ByteArray)):restB hd rs 0=(decide (40 < hd.length) || decide (400 < rs.length) || longT hd):=by simp [restB]
theorem restB_all (hd:List ByteArray) (rs:List (List ByteArray)):largeB hd rs=(restB hd rs rs.length || decide (40000 < sumT (allT hd rs))):=by
 unfold largeB restB;rw [long_all,List.take_length];simp [Bool.or_assoc]
theorem ragged_no (hd:List ByteArray) (rs:List (List ByteArray)) (h:∀ (j:Nat) r,rs[j]?=some r→r.length=hd.length):raggedB hd rs=false:=by
 unfold raggedB;rw [List.any_eq_false];intro r hr
 obtain ⟨i,hi,rfl⟩:=List.getElem_of_mem hr
 simp [wideB,h i _ (List.getElem?_eq_getElem hi)]
theorem ragged_yes (hd:List ByteArray) (rs:List (List ByteArray)) (k:Nat) (r:List ByteArray) (hr:rs[k]?=some r) (h:r.length ≠ hd.length):raggedB hd rs=true:=by
 unfold raggedB;rw [List.any_eq_true];exact ⟨r,List.mem_of_getElem? hr,by simp [wideB,h]⟩
theorem rcheck_any (ho:Option Addr) (hc:Nat) (hd:List ByteArray) (ro:Option Addr) (rc:Nat) (rs:List (List ByteArray)) (w:World)
 (hn:hd.length≤1099511627776) (hn2:rs.length≤1099511627776) (hn3:∀ r ∈ rs,r.length≤1099511627776) (hH:StrRow w ho hd) (hR:RowsAt w ro rs) (hsum:sumT (allT hd rs)≤1152921504606846976) :
 Calls Tryz.prog 77 #[.agg #[.slice ho hd.length hc,.slice ro rs.length rc]] w fun e w'=>e=.returned (.int .i64 (checkI hd rs))∧Below w.heap.size w w':=by
 have hs:∀ c ∈ allT hd rs,c.size≤1152921504606846976:=fun c hc=>by
  obtain ⟨a,b,e⟩:=List.append_of_mem hc
  rw [e] at hsum;simp [sumT] at hsum;omega
 obtain ⟨W,HW⟩:∃ W,Hid (W=w.alloc (TabO ho hd.length hc ro rs.length rc)):=⟨_,Lib.hid rfl⟩
 have hB:Below w.heap.size w W:=by rw [HW.out];exact one_below _ _
 have HB:=Lib.hid hB
 have HHo:=Lib.hid hH
 have HRo:=Lib.hid hR
 have HN3:=Lib.hid hn3
 have HSS:=Lib.hid hs
 have hN:W.heap[w.heap.size]?=some (TabO ho hd.length hc ro rs.length rc):=by rw [HW.out];exact World.alloc_heap_new w _
 have HNew:=Lib.hid hN
 have CF:=Lib.hid (fun V s (h:Below w.heap.size w V)=>rfind_any ho hc hd ro rs.length rc s V hn (hH.kept h))
 have CL:=Lib.hid (fun V (h:Below w.heap.size w V)=>rlong_any ho hc hd V hn (fun c hc=>hs c (List.mem_append_left _ hc)) (hH.kept h))
 have CT:=Lib.hid (fun V (h:Below w.heap.size w V)=>rtotal_any ho hc hd ro rc rs V hn hn2 hn3 (hH.kept h) (hR.kept h) hsum)
 obtain ⟨c0,c1⟩:=tabs hN
 have HE:Hid (checkI hd rs=if hd.length=0 then 8 else if raggedB hd rs then 9 else if dupL hd then 10 else if largeB hd rs then 7 else 0):=Lib.hid rfl
 have HR0:=Lib.hid (ragged_no hd rs)
 have HR1:=Lib.hid (ragged_yes hd rs)
 have HD0:=Lib.hid (dup_find_no hd)
 have HD1:=Lib.hid (dup_find_yes hd)
 have HQ0:=Lib.hid (restB_zero hd rs)
 have HQN:=Lib.hid (restB_next hd rs)
 have HQA:=Lib.hid (restB_all hd rs)
 clear hH hR hB hN hs hn3
 generalize checkI hd rs=F at HE ⊢
 generalize raggedB hd rs=rg at HE HR0 HR1
 generalize dupL hd=dp at HE HD0 HD1
 generalize largeB hd rs=lg at HE HQA
 generalize sumT (allT hd rs)=tt at CT HQA hsum
 by_cases hz:hd.length=0
 · have hzb:((hd.length:Int) == 0)=true:=by rw [hz];rfl
   have E:=Lib.hid (show F=8 from by rw [HE.out,if_pos hz])
   clear hz
   go_enter Tryz.func77,Tryz.ntmps77
   go_wp2_with fail
   go_ret
   exact ⟨by rw [E.out];rfl,by rw [HW.out] at HB;exact HB.out⟩
 have hzb:((hd.length:Int) == 0)=false:=by rw [beq_eq_false_iff_ne];omega
 have HE2:Hid (F=if rg then 9 else if dp then 10 else if lg then 7 else 0):=Lib.hid (by rw [HE.out,if_neg hz])
 clear HE
 go_enter Tryz.func77,Tryz.ntmps77
 go_wp2_with fail
 rw [show w.alloc (Obj.cells #[Value.slice ho hd.length hc,Value.slice ro rs.length rc] 25)=W from HW.out.symm]
 go_loopw [3] (fun i wr=>∃ k:Nat,k≤rs.length∧i=.int .i64 k∧Hid (Below W.heap.size W wr)∧Hid (∀ (j:Nat) r,j < k→rs[j]?=some r→r.length=hd.length)) (fun i _=>rs.length - (intOf i).toNat)
 case atStart=>exact ⟨0,Nat.zero_le _,rfl,Lib.hid (Below.refl _ _),Lib.hid (fun j c h _=>by omega)⟩
 case round =>
  obtain ⟨k,hk,rfl,HB1,HNr⟩:=hrel
  obtain ⟨k0,k1⟩:=tabs ((HB1.out.block _ (lt_of_heap HNew.out)).trans HNew.out)
  clear c0 c1
  by_cases hlt:k < rs.length
  · obtain ⟨r,hr⟩:∃ r,rs[k]?=some r:=⟨_,List.getElem?_eq_getElem hlt⟩
    have HRk:=Lib.hid hr
    rcases (HRo.out.kept (below_up HB.out HB1.out)) with h0 | ⟨A,rfl,hA,hcell⟩
    · rw [h0] at hlt;simp at hlt
    obtain ⟨ro1,rc1,hc1,hs1⟩:=hcell k r hr
    clear hcell hs1 hr
    by_cases hl:r.length=hd.length
    · have hb:((r.length:Int) != (hd.length:Int))=false:=by rw [int_bne];simp [hl]
      have HN':Hid (∀ (j:Nat) x,j < k+1→rs[j]?=some x→x.length=hd.length):=Lib.hid (fun j x hj hx'=>by
       by_cases e:j=k
       · subst e;rw [HRk.out] at hx';cases hx';exact hl
       · exact HNr.out j x (by omega) hx')
      have HB2:=Lib.hid (HB1.out.drew)
      clear hl
      go_wp2_with fail
      go_region
      go_wp2_with fail
      go_roundw
      case rel=>exact ⟨k+1,by omega,by go_num,HB2,HN'⟩
      case measure=>simp [intOf];omega
    · have hb:((r.length:Int) != (hd.length:Int))=true:=by rw [int_bne];simp [hl]
      have E:=Lib.hid (show F=9 from by rw [HE2.out,HR1.out k r HRk.out hl];rfl)
      have HB2:=Lib.hid (below_up HB.out HB1.out.drew)
      clear hl
      go_wp2_with fail
      go_region
      go_wp2_with fail
      go_ret
      exact ⟨by rw [E.out];rfl,HB2.out⟩
  · obtain rfl:k=rs.length:=by omega
    have HE3:Hid (F=if dp then 10 else if lg then 7 else 0):=Lib.hid (by rw [HE2.out,HR0.out (fun j r hr=>HNr.out j r (List.getElem?_eq_some_iff.1 hr).1 hr)];rfl)
    clear HE2 HNr HR0 HR1
    go_wp2_with fail
    obtain ⟨wo,rfl⟩:∃ wo:World,wo=wr:=⟨_,rfl⟩
    go_loopw [4] (fun i wr=>∃ k:Nat,k≤hd.length∧i=.int .i64 k∧Hid (Below W.heap.size W wr)∧Hid (∀ (j:Nat) x,j < k→hd[j]?=some x→findL hd x=(j:Int))) (fun i _=>hd.length - (intOf i).toNat)
    case atStart=>exact ⟨0,Nat.zero_le _,rfl,HB1,Lib.hid (fun j c h _=>by omega)⟩
    case round =>
     obtain ⟨k,hk,rfl,HB1,HNr⟩:=hrel
     clear k0 k1
     obtain ⟨k0,k1⟩:=tabs ((HB1.out.block _ (lt_of_heap HNew.out)).trans HNew.out)
     by_cases hlt:k < hd.length
     · obtain ⟨x,hx⟩:∃ x,hd[k]?=some x:=⟨_,List.getElem?_eq_getElem hlt⟩
       have HX:=Lib.hid hx
       rcases (HHo.out.kept (below_up HB.out HB1.out)) with h0 | ⟨A,rfl,hA,hcell⟩
       · rw [h0] at hlt;simp at hlt
       have hcx:=hcell k x hx
       have C1:=Lib.hid (CF.out wr.drew x (below_up HB.out HB1.out.drew))
       clear hcell hx
       by_cases hf:findL hd x=(k:Int)
       · have HN':Hid (∀ (j:Nat) x,j < k+1→hd[j]?=some x→findL hd x=(j:Int)):=Lib.hid (fun j y hj hx'=>by
          by_cases e:j=k
          · subst e;rw [HX.out] at hx';cases hx';exact hf
          · exact HNr.out j y (by omega) hx')
         rw [hf] at C1
         have hb:((k:Int) != (k:Int))=false:=by simp
         have HBx:=Lib.hid (fun w2 (h:Below wr.drew.heap.size wr.drew w2)=>(show Below W.heap.size W w2 from below_up HB1.out.drew h))
         clear hf
         go_wp2_with fail
         go_region_with (go_at_call 82;refine C1.out.mono ?_;rintro e w2 ⟨rfl,b2⟩;have HB2:=Lib.hid (HBx.out w2 b2);clear b2)
         all_goals (go_wp2_with fail)
         all_goals go_roundw
         all_goals first
          | exact ⟨k+1,by omega,by go_num,HB2,HN'⟩
          | (simp [intOf];omega)
       · have hb:(findL hd x != (k:Int))=true:=by rw [bne_iff_ne];exact hf
         have E:=Lib.hid (show F=10 from by rw [HE3.out,HD1.out k x HX.out hf];rfl)
         have HBx:=Lib.hid (fun w2 (h:Below wr.drew.heap.size wr.drew w2)=>(show Below w.heap.size w w2 from below_up HB.out (below_up HB1.out.drew h)))
         clear hf
         generalize findL hd x=fx at C1 hb
         go_wp2_with fail
         go_region_with (go_at_call 82;refine C1.out.mono ?_;rintro e w2 ⟨rfl,b2⟩;have HB2:=Lib.hid (HBx.out w2 b2);clear b2)
         all_goals (go_wp2_with fail)
         all_goals go_ret
         all_goals exact ⟨by rw [E.out];rfl,HB2.out⟩
     · obtain rfl:k=hd.length:=by omega
       have HE4:Hid (F=if lg then 7 else 0):=Lib.hid (by rw [HE3.out,HD0.out (fun j x hx=>HNr.out j x (List.getElem?_eq_some_iff.1 hx).1 hx)];rfl)
       clear HE3 HNr HD0 HD1 CF
       have hB1:=Lib.hid (below_up HB.out HB1.out)
       obtain ⟨b0,HQb⟩:∃ b0,Hid (b0=restB hd rs 0):=⟨_,Lib.hid rfl⟩
       have CL1:=Lib.hid (CL.out wr hB1.out)
       clear CL
       go_upto_region 13 with fail
       go_cut [5] from 45 to 59 (fun v wc=>v=.bool b0∧wc=wr)
       case first =>
        rw [HQ0.out] at HQb
        generalize longT hd=lh at CL1 HQb
        by_cases h40:40 < hd.length
        · have E:=Lib.hid (show b0=true from by rw [HQb.out];simp [h40])
          go_wp2_with fail
          go_meet
          exact ⟨by rw [E.out],rfl⟩
        by_cases h400:400 < rs.length
        · have E:=Lib.hid (show b0=true from by rw [HQb.out];simp [h400])
          go_wp2_with fail
          go_meet
          exact ⟨by rw [E.out],rfl⟩
        have E:=Lib.hid (show b0=lh from by rw [HQb.out];simp [h40,h400])
        cases lh
        all_goals
         go_wp2_with fail
         refine CL1.out.mono ?_;rintro e w2 ⟨rfl,rfl⟩
         go_wp2_with fail
         go_meet
         exact ⟨(by first | (rw [E.out];done) | (rw [E.out];simp;done) | (rw [E.out];simp;omega)),rfl⟩
       case rest =>
        obtain ⟨rfl,rfl⟩:=hcut
        clear CL1
        go_wp2_with fail
        go_loopw [5,6] (fun v i wx=>∃ (k:Nat) (b:Bool),k≤rs.length∧v=.bool b∧i=.int .i64 k∧Hid (Below W.heap.size W wx)∧Hid (b=restB hd rs k)) (fun _ i _=>rs.length - (intOf i).toNat)
        case atStart=>exact ⟨0,b0,Nat.zero_le _,rfl,rfl,HB1,HQb⟩
        case round =>
         obtain ⟨k,b,hk,rfl,rfl,HB2,HQk⟩:=hrel
         clear k0 k1
         obtain ⟨k0,k1⟩:=tabs ((HB2.out.block _ (lt_of_heap HNew.out)).trans HNew.out)
         by_cases hlt:k < rs.length
         · obtain ⟨r,hr⟩:∃ r,rs[k]?=some r:=⟨_,List.getElem?_eq_getElem hlt⟩
           rename World=>wx
           rcases (HRo.out.kept (below_up HB.out HB2.out)) with h0 | ⟨A,rfl,hA,hcell⟩
           · rw [h0] at hlt;simp at hlt
           obtain ⟨ro1,rc1,hc1,hs1⟩:=hcell k r hr
           have HQ1:=Lib.hid (HQN.out k r hr)
           have CL2:=Lib.hid (rlong_any ro1 rc1 r wx (HN3.out r (List.mem_of_getElem? hr)) (fun c hc=>HSS.out c (List.mem_append_right _ (List.mem_flatten.2 ⟨r,List.mem_of_getElem? hr,hc⟩))) hs1)
           clear hcell hs1 hr
           generalize longT r=lr at CL2 HQ1
           cases b
           · have HQ2:Hid (lr=restB hd rs (k+1)):=Lib.hid (by rw [HQ1.out,← HQk.out];rfl)
             go_wp2_with fail
             refine CL2.out.mono ?_;rintro e w2 ⟨rfl,rfl⟩
             go_wp2_with fail
             go_roundw
             case rel=>exact ⟨k+1,lr,by omega,rfl,by go_num,HB2,HQ2⟩
             case measure=>simp [intOf];omega
           · have HQ2:Hid (true=restB hd rs (k+1)):=Lib.hid (by rw [HQ1.out,← HQk.out];rfl)
             go_wp2_with fail
             refine CL2.out.mono ?_;rintro e w2 ⟨rfl,rfl⟩
             go_wp2_with fail
             go_roundw
             case rel=>exact ⟨k+1,true,by omega,rfl,by go_num,HB2,HQ2⟩
             case measure=>simp [intOf];omega
         · obtain rfl:k=rs.length:=by omega
           rename World=>wx
           have HB3:=Lib.hid (below_up HB.out HB2.out)
           cases b
           · have CT1:=Lib.hid (CT.out wx HB3.out)
             by_cases h4:40000 < tt
             · have E:=Lib.hid (show F=7 from by rw [HE4.out,HQA.out,← HQk.out];simp [h4])
               go_wp2_with fail
               refine CT1.out.mono ?_;rintro e w2 ⟨rfl,b2⟩
               have HB4:=Lib.hid (below_up HB3.out b2)
               clear b2
               go_wp2_with fail
               go_ret
               exact ⟨by rw [E.out];rfl,HB4.out⟩
             · have E:=Lib.hid (show F=0 from by rw [HE4.out,HQA.out,← HQk.out];simp [h4])
               go_wp2_with fail
               refine CT1.out.mono ?_;rintro e w2 ⟨rfl,b2⟩
               have HB4:=Lib.hid (below_up HB3.out b2)
               clear b2
               go_wp2_with fail
               go_ret
               exact ⟨by rw [E.out];rfl,HB4.out⟩
           · have E:=Lib.hid (show F=7 from by rw [HE4.out,HQA.out,← HQk.out];simp)
             go_wp2_with fail
             go_ret
             exact ⟨by rw [E.out];rfl,HB3.out⟩
end
end Go.Proofs.YtdenehnneloegaaGreatDoor
