/-
  Texts of these rows' proofs, laid one behind the other: TCheck, TRest, PBase, PSame.
  Conditions: those of each theorem.
-/
import Derived.WalkKit
import Derived.WalkMore
import Derived.Lib.Hide
import Derived.Deep.QuietTactic
import Derived.BigQuiet
import Derived.Deep.RegionWith
import Derived.Lib.QuietBelow
import Derived.Test.YtdenehnneloegaaGreatDoorProg
import Derived.Test.YtdenehnneloegaaGreatDoorPa2
import Derived.Deep.CutRange
import Derived.Deep.OwnRows
import Derived.Deep.Onto
import Derived.Test.YtdenehnneloegaaGreatDoorPa1
import Derived.StillTailTactics
namespace Go.Proofs.YtdenehnneloegaaGreatDoor
set_option linter.unusedVariables false
set_option maxRecDepth 100000
set_option maxHeartbeats 8000000
section
open Go.RowKit Go.Shelf
theorem indexRow_any (G:FuncId) (v:Value) (p:List ByteArray→Bool) (ao:Option Addr) (cap:Nat) (xs:List (List ByteArray)) (w:World) (hn:xs.length≤1099511627776) (hR:RowsAt w ao xs)
 (hent:∀ args w,(callFunc G args).run Tryz.prog w=.ok (.enter G args) w) (hG:∀ r ∈ xs,∀ ro c W,Below w.heap.size w W→StrRow W ro r→Calls Tryz.prog G #[.slice ro r.length c,v] W fun e w'=>e=.returned (.bool (p r))∧Below W.heap.size W w') :
 Calls Tryz.prog 206 #[.slice ao xs.length cap,.func (.func G) #[] #[v]] w fun e w'=>e=.returned (.int .i64 (firstAt p xs))∧Below w.heap.size w w':=by
 have HG:=Lib.hid hG
 have HRo:=Lib.hid hR
 have HF:=Lib.hid (firstAt_none p xs)
 have HS:=Lib.hid (firstAt_some p xs)
 clear hG hR
 generalize firstAt p xs=F at HF HS ⊢
 go_enter Tryz.func206,Tryz.ntmps206
 go_wp2_with fail
 go_loopw [8] (fun i wr=>∃ k:Nat,k≤xs.length∧i=.int .i64 k∧Hid (Below w.heap.size w wr)∧Hid (∀ (j:Nat) c,j < k→xs[j]?=some c→p c=false)) (fun i _=>xs.length - (intOf i).toNat)
 case atStart=>exact ⟨0,Nat.zero_le _,rfl,Lib.hid (Below.refl _ _),Lib.hid (fun j c h _=>by omega)⟩
 case round =>
  obtain ⟨k,hk,rfl,HB,HN⟩:=hrel
  by_cases hlt:k < xs.length
  · obtain ⟨x,hx⟩:∃ x,xs[k]?=some x:=⟨_,List.getElem?_eq_getElem hlt⟩
    have HX:=Lib.hid hx
    rcases (HRo.out.kept HB.out) with h0 | ⟨A,rfl,hA,hcell⟩
    · rw [h0] at hlt;simp at hlt
    obtain ⟨ro,rc,hc,hs⟩:=hcell k x hx
    have C:=Lib.hid (HG.out x (List.mem_of_getElem? hx) ro rc wr HB.out hs)
    clear hcell hx hs
    cases hp:p x with
    | true =>
     rw [hp] at C
     have E:=Lib.hid (HS.out k x HX.out hp HN.out)
     go_wp2_with fail
     refine C.out.mono ?_;rintro e w' ⟨rfl,b1⟩
     have HB1:=Lib.hid (below_up HB.out b1)
     clear b1 hc
     go_wp2_with fail
     go_ret
     exact ⟨by rw [E.out];rfl,HB1.out⟩
    | false =>
     rw [hp] at C
     have HN':Hid (∀ (j:Nat) c,j < k+1→xs[j]?=some c→p c=false):=Lib.hid (fun j c hj hc'=>by
      by_cases e:j=k
      · subst e;rw [HX.out] at hc';cases hc';exact hp
      · exact HN.out j c (by omega) hc')
     go_wp2_with fail
     refine C.out.mono ?_;rintro e w' ⟨rfl,b1⟩
     have HB1:=Lib.hid (below_up HB.out b1)
     clear b1 hc
     go_wp2_with fail
     go_roundw
     case rel=>exact ⟨k+1,by omega,by go_num,HB1,HN'⟩
     case measure=>simp [intOf];omega
  · obtain rfl:k=xs.length:=by omega
    have E:=Lib.hid (HF.out (fun j c hc=>HN.out j c (by obtain ⟨h,_⟩:=List.getElem?_eq_some_iff.1 hc;exact h) hc))
    go_wp2_with fail
    go_ret
    exact ⟨by rw [E.out];rfl,HB.out⟩
theorem hasRow_any (G:FuncId) (v:Value) (p:List ByteArray→Bool) (ao:Option Addr) (cap:Nat) (xs:List (List ByteArray)) (w:World) (hn:xs.length≤1099511627776) (hR:RowsAt w ao xs)
 (hent:∀ args w,(callFunc G args).run Tryz.prog w=.ok (.enter G args) w) (hG:∀ r ∈ xs,∀ ro c W,Below w.heap.size w W→StrRow W ro r→Calls Tryz.prog G #[.slice ro r.length c,v] W fun e w'=>e=.returned (.bool (p r))∧Below W.heap.size W w') :
 Calls Tryz.prog 173 #[.slice ao xs.length cap,.func (.func G) #[] #[v]] w fun e w'=>e=.returned (.bool (xs.any p))∧Below w.heap.size w w':=by
 have C:=Lib.hid (indexRow_any G v p ao cap xs w hn hR hent hG)
 have E:=Lib.hid (any_at p xs)
 clear hG hR hent
 generalize firstAt p xs=F at C E
 go_enter Tryz.func173,Tryz.ntmps173
 go_wp2_with fail
 refine C.out.mono ?_;rintro e w' ⟨rfl,b1⟩
 go_wp2_with fail
 go_ret
 exact ⟨by rw [← E.out];simp,b1⟩
theorem tabs {W:World} {B:Nat} {ho:Option Addr} {m hc:Nat} {ro:Option Addr} {k rc:Nat} (h:W.heap[B]?=some (TabO ho m hc ro k rc)):W.cell? ⟨B,0,none⟩=some (.slice ho m hc)∧W.cell? ⟨B,1,none⟩=some (.slice ro k rc) :=
 ⟨(Lib.cell_of_heap h 0).trans rfl,(Lib.cell_of_heap h 1).trans rfl⟩
def wideB (n:Nat) (r:List ByteArray):Bool:=decide (r.length ≠ n)
def raggedB (hd:List ByteArray) (rs:List (List ByteArray)):Bool:=rs.any (wideB hd.length)
theorem ragged1_any (ao:Option Addr) (n cap B:Nat) (ho:Option Addr) (m hc:Nat) (ro:Option Addr) (k rc:Nat) (w:World) (hB:w.heap[B]?=some (TabO ho m hc ro k rc)) :
 Calls Tryz.prog 174 #[.slice ao n cap,.pointer (some ⟨B,0,none⟩)] w fun e w'=>e=.returned (.bool (decide (n ≠ m)))∧Below w.heap.size w w':=by
 have hb:=int_bne n m
 obtain ⟨c0,_⟩:=tabs hB
 clear hB
 generalize decide (n ≠ m)=b at hb ⊢
 go_enter Tryz.func174,Tryz.ntmps174
 go_wp2_with fail
 go_ret
 exact ⟨rfl,Below.refl _ _⟩
def tellI (e:Int) (b:Bool):Int:=if b then e else 0
theorem tell_any (e:Int) (b:Bool) (w:World):Calls Tryz.prog 115 #[.int .i64 e,.bool b] w fun x w'=>x=.returned (.int .i64 (tellI e b))∧w=w':=by
 cases b
 all_goals
  go_enter Tryz.func115,Tryz.ntmps115
  go_wp2_with fail
  go_ret
  exact ⟨rfl,rfl⟩
theorem ragged_any (ho:Option Addr) (hc:Nat) (hd:List ByteArray) (ro:Option Addr) (rc:Nat) (rs:List (List ByteArray)) (w:World)
 (hn2:rs.length≤1099511627776) (hR:RowsAt w ro rs):Calls Tryz.prog 117 #[.agg #[.slice ho hd.length hc,.slice ro rs.length rc]] w fun e w'=>e=.returned (.bool (raggedB hd rs))∧Below w.heap.size w w':=by
 have hB:=World.alloc_heap_new w (TabO ho hd.length hc ro rs.length rc)
 have hb:Below w.heap.size w (w.alloc (TabO ho hd.length hc ro rs.length rc)):=(Below.refl _ w).alloc (Nat.le_refl _) _
 have C:=Lib.hid (hasRow_any 174 (.pointer (some ⟨w.heap.size,0,none⟩)) (wideB hd.length) ro rc rs _ hn2 (hR.kept hb) (enters_of Tryz.func174 (by kernel_rfl) rfl)
  (fun r _ ro1 c1 W hW _=>ragged1_any ro1 r.length c1 w.heap.size ho hd.length hc ro rs.length rc W ((hW.block _ (lt_of_heap hB)).trans hB)))
 have HB:=Lib.hid hb
 clear hB hb hR
 unfold raggedB
 go_enter Tryz.func117,Tryz.ntmps117
 go_wp2_with fail
 refine C.out.mono ?_;rintro e w' ⟨rfl,b1⟩
 have B1:=Lib.hid (below_up HB.out b1)
 clear b1
 go_wp2_with fail
 go_ret
 exact ⟨rfl,B1.out⟩
def largeB (hd:List ByteArray) (rs:List (List ByteArray)):Bool:=decide (40 < hd.length) || decide (400 < rs.length) || longT (allT hd rs) || decide (40000 < sumT (allT hd rs))
def faultF:Nat→FuncId | 0=>114 | 1=>116 | 2=>118 | _=>120
def faultI (hd:List ByteArray) (rs:List (List ByteArray)):Nat→Int | 0=>tellI 8 (decide (hd.length=0)) | 1=>tellI 9 (raggedB hd rs) | 2=>tellI 10 (dupL hd) | _=>tellI 7 (largeB hd rs)
def checkI (hd:List ByteArray) (rs:List (List ByteArray)):Int:=if hd.length=0 then 8 else if raggedB hd rs then 9 else if dupL hd then 10 else if largeB hd rs then 7 else 0
theorem tell_no {e:Int} {b:Bool} (he:e ≠ 0) (h:tellI e b=0):b=false:=by cases b <;> simp_all [tellI]
theorem tell_yes {e:Int} {b:Bool} (h:tellI e b ≠ 0):b=true∧tellI e b=e:=by cases b <;> simp_all [tellI]
theorem check_none (hd:List ByteArray) (rs:List (List ByteArray)) (h:∀ j,j < 4→faultI hd rs j=0):checkI hd rs=0:=by
 have h0:=tell_no (by decide) (h 0 (by decide));have h1:=tell_no (by decide) (h 1 (by decide));have h2:=tell_no (by decide) (h 2 (by decide));have h3:=tell_no (by decide) (h 3 (by decide))
 have h0':¬ hd.length=0:=of_decide_eq_false h0
 unfold checkI;rw [if_neg h0',h1,h2,h3];rfl
theorem check_one (hd:List ByteArray) (rs:List (List ByteArray)) (i:Nat) (hi:i < 4) (h:∀ j,j < i→faultI hd rs j=0) (hne:faultI hd rs i ≠ 0):checkI hd rs=faultI hd rs i:=by
 have k0:0 < i→¬ hd.length=0:=fun hh=>of_decide_eq_false (tell_no (by decide) (h 0 hh))
 have k1:1 < i→raggedB hd rs=false:=fun hh=>tell_no (by decide) (h 1 hh)
 have k2:2 < i→dupL hd=false:=fun hh=>tell_no (by decide) (h 2 hh)
 match i,hi with
 | 0,_=>have:=tell_yes hne;show _=tellI _ _;rw [this.2];unfold checkI;rw [if_pos (of_decide_eq_true this.1)]
 | 1,_=>have:=tell_yes hne;show _=tellI _ _;rw [this.2];unfold checkI;rw [if_neg (k0 (by decide)),this.1];rfl
 | 2,_=>have:=tell_yes hne;show _=tellI _ _;rw [this.2];unfold checkI;rw [if_neg (k0 (by decide)),k1 (by decide),this.1];rfl
 | 3,_=>have:=tell_yes hne;show _=tellI _ _;rw [this.2];unfold checkI;rw [if_neg (k0 (by decide)),k1 (by decide),k2 (by decide),this.1];rfl
theorem faults_any (ho:Option Addr) (m hc:Nat) (ro:Option Addr) (k rc:Nat) (w:World) :
 Calls Tryz.prog 64 #[.agg #[.slice ho m hc,.slice ro k rc]] w fun e w'=>e=.returned (.slice (some ⟨w.heap.size+1,0,none⟩) 4 4)∧w'=(w.alloc (TabO ho m hc ro k rc)).alloc (.cells #[.func (.func (faultF 0)) #[] #[.pointer (some ⟨w.heap.size,0,none⟩)],.func (.func (faultF 1)) #[] #[.pointer (some ⟨w.heap.size,0,none⟩)],.func (.func (faultF 2)) #[] #[.pointer (some ⟨w.heap.size,0,none⟩)],.func (.func (faultF 3)) #[] #[.pointer (some ⟨w.heap.size,0,none⟩)]] 99):=by
 unfold faultF
 go_enter Tryz.func64,Tryz.ntmps64
 go_wp2_with fail
 go_ret
 exact ⟨rfl,rfl⟩
section
variable (ho : Option Addr) (hc : Nat) (hd : List ByteArray) (ro : Option Addr) (rc : Nat) (rs : List (List ByteArray)) (w : World)
 (hn:hd.length≤1099511627776) (hn2:rs.length≤1099511627776) (hn3:∀ r ∈ rs,r.length≤1099511627776) (hH:StrRow w ho hd) (hR:RowsAt w ro rs)
include hn hn2 hn3 hH hR
theorem large_any (hsum:sumT (allT hd rs)≤1152921504606846976) :
 Calls Tryz.prog 121 #[.agg #[.slice ho hd.length hc,.slice ro rs.length rc]] w fun e w'=>e=.returned (.bool (largeB hd rs))∧Below w.heap.size w w':=by
 have hs:∀ c ∈ allT hd rs,c.size≤1152921504606846976:=fun c hc=>by
  obtain ⟨a,b,e⟩:=List.append_of_mem hc
  rw [e] at hsum;simp [sumT] at hsum;omega
 have C1:=Lib.hid (fun W (h:Below w.heap.size w W)=>largeText_any ho hc hd ro rc rs W hn hn2 hn3 (hH.kept h) (hR.kept h) hs)
 have C2:=Lib.hid (fun W (h:Below w.heap.size w W)=>total_any ho hc hd ro rc rs W hn hn2 hn3 (hH.kept h) (hR.kept h) hsum)
 have HB:Hid (Below w.heap.size w (w.alloc (TabO ho hd.length hc ro rs.length rc))):=Lib.hid ((Below.refl _ w).alloc (Nat.le_refl _) _)
 have hB:=World.alloc_heap_new w (TabO ho hd.length hc ro rs.length rc)
 have HN:=Lib.hid hB
 clear hH hR hn3 hs hB
 have E:Hid (largeB hd rs=(decide (40 < hd.length) || decide (400 < rs.length) || longT (allT hd rs) || decide (40000 < sumT (allT hd rs)))):=Lib.hid rfl
 generalize largeB hd rs=F at E ⊢
 generalize longT (allT hd rs)=g at E C1
 generalize sumT (allT hd rs)=t at E C2 hsum
 by_cases h1:40 < hd.length
 · have E':=Lib.hid (show F=true from by rw [E.out];simp [h1])
   go_enter Tryz.func121,Tryz.ntmps121
   go_wp2_with fail
   go_ret
   exact ⟨by rw [E'.out];rfl,HB.out⟩
 by_cases h2:400 < rs.length
 · have E':=Lib.hid (show F=true from by rw [E.out];simp [h2])
   go_enter Tryz.func121,Tryz.ntmps121
   go_wp2_with fail
   go_ret
   exact ⟨by rw [E'.out];rfl,HB.out⟩
 cases g with
 | true =>
  have E':=Lib.hid (show F=true from by rw [E.out];simp)
  go_enter Tryz.func121,Tryz.ntmps121
  go_wp2_with fail
  refine (C1.out _ HB.out).mono ?_;rintro e w' ⟨rfl,b1⟩
  have B1:=Lib.hid (below_up HB.out b1)
  clear b1
  go_wp2_with fail
  go_ret
  exact ⟨by rw [E'.out];rfl,B1.out⟩
 | false =>
  by_cases h4:40000 < t
  · have E':=Lib.hid (show F=true from by rw [E.out];simp [h4])
    have HZ:Hid ((decide ((40:Int) < (hd.length:Int)) || decide ((400:Int) < (rs.length:Int)) || decide ((40000:Int) < (t:Int)))=true):=Lib.hid (by simp;omega)
    go_enter Tryz.func121,Tryz.ntmps121
    go_wp2_with fail
    refine (C1.out _ HB.out).mono ?_;rintro e w' ⟨rfl,b1⟩
    have hBw:=(b1.block _ (lt_of_heap HN.out)).trans HN.out
    obtain ⟨k0,k1⟩:=tabs hBw
    have B1:=Lib.hid (below_up HB.out b1)
    clear b1 hBw
    go_wp2_with fail
    refine (C2.out _ B1.out).mono ?_;rintro e w2 ⟨rfl,b2⟩
    have B2:=Lib.hid (below_up B1.out b2)
    clear b2
    go_wp2_with fail
    go_ret
    exact ⟨by rw [E'.out];exact congrArg (fun b=>Ending.returned (.bool b)) HZ.out,B2.out⟩
  · have E':=Lib.hid (show F=false from by rw [E.out];simp [h1,h2,h4])
    have HZ:Hid ((decide ((40:Int) < (hd.length:Int)) || decide ((400:Int) < (rs.length:Int)) || decide ((40000:Int) < (t:Int)))=false):=Lib.hid (by simp;omega)
    go_enter Tryz.func121,Tryz.ntmps121
    go_wp2_with fail
    refine (C1.out _ HB.out).mono ?_;rintro e w' ⟨rfl,b1⟩
    have hBw:=(b1.block _ (lt_of_heap HN.out)).trans HN.out
    obtain ⟨k0,k1⟩:=tabs hBw
    have B1:=Lib.hid (below_up HB.out b1)
    clear b1 hBw
    go_wp2_with fail
    refine (C2.out _ B1.out).mono ?_;rintro e w2 ⟨rfl,b2⟩
    have B2:=Lib.hid (below_up B1.out b2)
    clear b2
    go_wp2_with fail
    go_ret
    exact ⟨by rw [E'.out];exact congrArg (fun b=>Ending.returned (.bool b)) HZ.out,B2.out⟩
theorem fault_any (B:Nat) (hB:w.heap[B]?=some (TabO ho hd.length hc ro rs.length rc)) (hs:∀ c ∈ hd,c.size≤maxLen) (hsum:sumT (allT hd rs)≤1152921504606846976) (i:Nat) (hi:i < 4) :
 Calls Tryz.prog (faultF i) #[.pointer (some ⟨B,0,none⟩)] w fun e w'=>e=.returned (.int .i64 (faultI hd rs i))∧Below w.heap.size w w':=by
 obtain ⟨c0,c1⟩:=tabs hB
 clear hB
 match i,hi with
 | 0,_ =>
  unfold faultF faultI
  clear hn3 hH hR hs hsum
  by_cases h0:hd.length=0
  · have hb:((hd.length:Int) == 0)=true:=by rw [h0];rfl
    rw [show decide (hd.length=0)=true from decide_eq_true h0]
    clear h0
    go_enter Tryz.func114,Tryz.ntmps114
    go_wp2_with fail
    refine (tell_any _ _ _).mono ?_;rintro e w' ⟨rfl,rfl⟩
    go_wp2_with fail
    go_ret
    exact ⟨rfl,Below.refl _ _⟩
  · have hb:((hd.length:Int) == 0)=false:=by rw [beq_eq_false_iff_ne];omega
    rw [show decide (hd.length=0)=false from decide_eq_false h0]
    clear h0
    go_enter Tryz.func114,Tryz.ntmps114
    go_wp2_with fail
    refine (tell_any _ _ _).mono ?_;rintro e w' ⟨rfl,rfl⟩
    go_wp2_with fail
    go_ret
    exact ⟨rfl,Below.refl _ _⟩
 | 1,_ =>
  unfold faultF faultI
  have C:=Lib.hid (ragged_any ho hc hd ro rc rs w hn2 hR)
  clear hn3 hH hR hs hsum
  go_enter Tryz.func116,Tryz.ntmps116
  go_wp2_with fail
  refine C.out.mono ?_;rintro e w' ⟨rfl,b1⟩
  have B1:=Lib.hid b1
  clear b1
  go_wp2_with fail
  refine (tell_any _ _ _).mono ?_;rintro e w' ⟨rfl,rfl⟩
  go_wp2_with fail
  go_ret
  exact ⟨rfl,B1.out⟩
 | 2,_ =>
  unfold faultF faultI
  have C:=Lib.hid (twice_any ho hc hd w hn hs hH)
  clear hn3 hH hR hs hsum
  go_enter Tryz.func118,Tryz.ntmps118
  go_wp2_with fail
  refine C.out.mono ?_;rintro e w' ⟨rfl,b1⟩
  have B1:=Lib.hid b1
  clear b1
  go_wp2_with fail
  refine (tell_any _ _ _).mono ?_;rintro e w' ⟨rfl,rfl⟩
  go_wp2_with fail
  go_ret
  exact ⟨rfl,B1.out⟩
 | 3,_ =>
  unfold faultF faultI
  have C:=Lib.hid (large_any ho hc hd ro rc rs w hn hn2 hn3 hH hR hsum)
  clear hn3 hH hR hs hsum
  go_enter Tryz.func120,Tryz.ntmps120
  go_wp2_with fail
  refine C.out.mono ?_;rintro e w' ⟨rfl,b1⟩
  have B1:=Lib.hid b1
  clear b1
  go_wp2_with fail
  refine (tell_any _ _ _).mono ?_;rintro e w' ⟨rfl,rfl⟩
  go_wp2_with fail
  go_ret
  exact ⟨rfl,B1.out⟩
theorem check_any (hs:∀ c ∈ hd,c.size≤maxLen) (hsum:sumT (allT hd rs)≤1152921504606846976) :
 Calls Tryz.prog 21 #[.agg #[.slice ho hd.length hc,.slice ro rs.length rc]] w fun e w'=>e=.returned (.int .i64 (checkI hd rs))∧Below w.heap.size w w':=by
 obtain ⟨T,HT⟩:∃ T,Hid (T=TabO ho hd.length hc ro rs.length rc):=⟨_,Lib.hid rfl⟩
 have HT2:Hid (T=Obj.cells #[Value.slice ho hd.length hc,Value.slice ro rs.length rc] 25):=Lib.hid HT.out
 obtain ⟨U,HU⟩:∃ U,Hid (U=((w.alloc T).alloc T).alloc (.cells #[.func (.func (faultF 0)) #[] #[.pointer (some ⟨w.heap.size+1,0,none⟩)],.func (.func (faultF 1)) #[] #[.pointer (some ⟨w.heap.size+1,0,none⟩)],.func (.func (faultF 2)) #[] #[.pointer (some ⟨w.heap.size+1,0,none⟩)],.func (.func (faultF 3)) #[] #[.pointer (some ⟨w.heap.size+1,0,none⟩)]] 99)):=⟨_,Lib.hid rfl⟩
 have b1:Below w.heap.size w ((w.alloc T).alloc T):=two_below _ _ _
 have hbU:Below w.heap.size w U:=by rw [HU.out];exact b1.alloc b1.size _
 have hB1:U.heap[w.heap.size+1]?=some (TabO ho hd.length hc ro rs.length rc):=by rw [HU.out,Below.heap_alloc _ _ _ (by simp),← HT.out];exact (two_new w T T).2.2
 have hrow:∀ j,j < 4→U.cell? ⟨w.heap.size+1+1,j,none⟩=some (.func (.func (faultF j)) #[] #[.pointer (some ⟨w.heap.size+1,0,none⟩)]):=fun j hj=>by
  have h:=World.alloc_heap_new ((w.alloc T).alloc T) (.cells #[.func (.func (faultF 0)) #[] #[.pointer (some ⟨w.heap.size+1,0,none⟩)],.func (.func (faultF 1)) #[] #[.pointer (some ⟨w.heap.size+1,0,none⟩)],.func (.func (faultF 2)) #[] #[.pointer (some ⟨w.heap.size+1,0,none⟩)],.func (.func (faultF 3)) #[] #[.pointer (some ⟨w.heap.size+1,0,none⟩)]] 99)
  rw [← HU.out,(two_new w T T).1] at h
  rw [show w.heap.size+1+1=w.heap.size+2 from rfl,Lib.cell_of_heap h j]
  match j,hj with
  | 0,_=>rfl
  | 1,_=>rfl
  | 2,_=>rfl
  | 3,_=>rfl
 have hsU:U.heap.size=w.heap.size+3:=by rw [HU.out];simp
 have C:=Lib.hid (fun W (h:Below U.heap.size U W) i (hi:i < 4)=>fault_any ho hc hd ro rc rs W hn hn2 hn3 (hH.kept (below_up hbU h)) (hR.kept (below_up hbU h)) (w.heap.size+1) ((h.block _ (lt_of_heap hB1)).trans hB1) hs hsum i hi)
 have hent:Hid (∀ i,i < 4→∀ args w,(callFunc (faultF i) args).run Tryz.prog w=.ok (.enter (faultF i) args) w):=Lib.hid (fun i hi=>by
  match i,hi with
  | 0,_=>exact enters_of Tryz.func114 (by kernel_rfl) rfl
  | 1,_=>exact enters_of Tryz.func116 (by kernel_rfl) rfl
  | 2,_=>exact enters_of Tryz.func118 (by kernel_rfl) rfl
  | 3,_=>exact enters_of Tryz.func120 (by kernel_rfl) rfl)
 have HBU:=Lib.hid hbU
 have HRW:=Lib.hid hrow
 have HSU:=Lib.hid hsU
 have E1:=Lib.hid (check_one hd rs)
 have E0:=Lib.hid (check_none hd rs)
 clear b1 hbU hB1 hrow hsU hs hsum hH hR hn3
 generalize checkI hd rs=F at E0 E1 ⊢
 generalize faultI hd rs=fi at E0 E1 C
 go_enter Tryz.func21,Tryz.ntmps21
 go_wp2_with fail
 refine (faults_any _ _ _ _ _ _ _).mono ?_;rintro e w' ⟨rfl,rfl⟩
 go_wp2_with fail
 rw [← HT.out,← HT2.out]
 rw [← HU.out]
 go_loopw [9] (fun i wr=>∃ k:Nat,k≤4∧i=.int .i64 k∧Hid (Below U.heap.size U wr)∧Hid (∀ j,j < k→fi j=0)) (fun i _=>4 - (intOf i).toNat)
 case atStart=>exact ⟨0,Nat.zero_le _,rfl,Lib.hid (Below.refl _ _),Lib.hid (fun j h=>by omega)⟩
 case round =>
  obtain ⟨k,hk,rfl,HB,HN⟩:=hrel
  by_cases hlt:k < 4
  · have C1:=Lib.hid (C.out wr HB.out k hlt)
    have hc1:wr.cell? ⟨w.heap.size+1+1,k,none⟩=some (.func (.func (faultF k)) #[] #[.pointer (some ⟨w.heap.size+1,0,none⟩)]):=(HB.out.cell (p:=⟨w.heap.size+1+1,k,none⟩) (by rw [HSU.out];simp)).trans (HRW.out k hlt)
    have hen:=hent.out k hlt
    have E1k:=Lib.hid (E1.out k hlt HN.out)
    have HN':Hid (fi k=0→∀ j,j < k+1→fi j=0):=Lib.hid (fun h j hj=>by
     by_cases e:j=k
     · rw [e];exact h
     · exact HN.out j (by omega))
    generalize faultF k=G at C1 hc1 hen
    generalize fi k=v at C1 E1k HN'
    by_cases hv:v=0
    · have hb:(v != 0)=false:=by simp [hv]
      have HN2:=Lib.hid (HN'.out hv)
      clear hv
      go_wp2_with fail
      refine C1.out.mono ?_;rintro e w' ⟨rfl,b1⟩
      have HB1:=Lib.hid (below_up HB.out b1)
      clear b1 hc1
      go_wp2_with fail
      go_roundw
      case rel=>exact ⟨k+1,by omega,by go_num,HB1,HN2⟩
      case measure=>simp [intOf];omega
    · have hb:(v != 0)=true:=by simp [hv]
      have EE:=Lib.hid (E1k.out hv)
      clear hv
      go_wp2_with fail
      refine C1.out.mono ?_;rintro e w' ⟨rfl,b1⟩
      have HB1:=Lib.hid (below_up HB.out b1)
      clear b1 hc1
      go_wp2_with fail
      go_ret
      exact ⟨by rw [EE.out];rfl,below_up HBU.out HB1.out⟩
  · obtain rfl:k=4:=by omega
    have EE:=Lib.hid (E0.out HN.out)
    go_wp2_with fail
    go_ret
    exact ⟨by rw [EE.out];rfl,below_up HBU.out HB.out⟩
end
end
section
open Go.RowKit Go.Shelf
theorem one_below (w:World) (o:Obj):Below w.heap.size w (w.alloc o):=(Below.refl _ w).alloc (Nat.le_refl _) _
theorem tfind_any (ho:Option Addr) (hc:Nat) (hd:List ByteArray) (ro:Option Addr) (k rc:Nat) (s:ByteArray) (w:World) (hn:hd.length≤1099511627776) (hH:StrRow w ho hd) :
 Calls Tryz.prog 128 #[.agg #[.slice ho hd.length hc,.slice ro k rc],.string s] w fun e w'=>e=.returned (.int .i64 (findL hd s))∧Below w.heap.size w w':=by
 have HB:=Lib.hid (one_below w (TabO ho hd.length hc ro k rc))
 have C:=Lib.hid (index_any ho hc hd s (w.alloc (TabO ho hd.length hc ro k rc)) hn (hH.kept HB.out))
 clear hH
 go_enter Tryz.func128,Tryz.ntmps128
 go_wp2_with fail
 refine C.out.mono ?_;rintro e w' ⟨rfl,rfl⟩
 go_wp2_with fail
 go_ret
 exact ⟨rfl,HB.out⟩
def cellL (rs:List (List ByteArray)) (r c:Int):ByteArray:=if 0≤r∧0≤c then (rs[r.toNat]?.bind fun x=>x[c.toNat]?).getD ⟨#[]⟩ else ⟨#[]⟩
theorem cellL_row (rs:List (List ByteArray)) (r c:Int) (h:(decide (0≤r) && decide (r < (rs.length:Int)))=false):cellL rs r c=⟨#[]⟩:=by
 unfold cellL
 split
 · rename_i hh
   rw [List.getElem?_eq_none (by simp at h;have:=h hh.1;omega)];rfl
 · rfl
theorem cellL_col (rs:List (List ByteArray)) (k:Nat) (x:List ByteArray) (c:Int) (hx:rs[k]?=some x) (h:(decide (0≤c) && decide (c < (x.length:Int)))=false):cellL rs k c=⟨#[]⟩:=by
 unfold cellL
 split
 · rename_i hh
   rw [Int.toNat_natCast,hx]
   show (x[c.toNat]?).getD _=_
   rw [List.getElem?_eq_none (by simp at h;have:=h hh.2;omega)];rfl
 · rfl
theorem cellL_at (rs:List (List ByteArray)) (k j:Nat) (x:List ByteArray) (y:ByteArray) (hx:rs[k]?=some x) (hy:x[j]?=some y):cellL rs k j=y:=by
 unfold cellL
 rw [if_pos ⟨by omega,by omega⟩,Int.toNat_natCast,hx,Int.toNat_natCast]
 show (x[j]?).getD _=_
 rw [hy];rfl
theorem tcell_any (ho:Option Addr) (m hc:Nat) (ro:Option Addr) (rc:Nat) (rs:List (List ByteArray)) (r c:Int) (w:World) (hn2:rs.length≤1099511627776) (hx:∀ r ∈ rs,r.length≤1099511627776∧∀ c ∈ r,c.size≤281474976710656) (hR:RowsAt w ro rs) :
 Calls Tryz.prog 25 #[.agg #[.slice ho m hc,.slice ro rs.length rc],.int .i64 r,.int .i64 c] w fun e w'=>e=.returned (.string (cellL rs r c))∧Below w.heap.size w w':=by
 have HB:=Lib.hid (one_below w (TabO ho m hc ro rs.length rc))
 have W1:=Lib.hid (fun W=>within_any r (rs.length:Int) W)
 have HR:=Lib.hid hR
 have HX:=Lib.hid hx
 clear hR hx
 cases h1:(decide (0≤r) && decide (r < (rs.length:Int))) with
 | false =>
  rw [h1] at W1
  have E:=Lib.hid (cellL_row rs r c h1)
  clear h1
  go_enter Tryz.func25,Tryz.ntmps25
  go_wp2_with fail
  refine (W1.out _).mono ?_;rintro e w' ⟨rfl,rfl⟩
  go_wp2_with fail
  go_ret
  exact ⟨by rw [E.out];rfl,HB.out⟩
 | true =>
  rw [h1] at W1
  simp only [Bool.and_eq_true,decide_eq_true_eq] at h1
  obtain ⟨k,rfl⟩:=Int.eq_ofNat_of_zero_le h1.1
  have hlt:k < rs.length:=by omega
  clear h1
  obtain ⟨x,hx⟩:∃ x,rs[k]?=some x:=⟨_,List.getElem?_eq_getElem hlt⟩
  have HXk:=Lib.hid hx
  rcases (HR.out.kept HB.out) with h0 | ⟨A,rfl,hA,hcell⟩
  · rw [h0] at hlt;simp at hlt
  obtain ⟨ro1,rc1,hc1,hs1⟩:=hcell k x hx
  have HS1:=Lib.hid hs1
  have hxl:=(HX.out x (List.mem_of_getElem? hx)).1
  have HXc:=Lib.hid (HX.out x (List.mem_of_getElem? hx)).2
  have W2:=Lib.hid (fun W=>within_any c (x.length:Int) W)
  clear hcell hx hs1
  cases h2:(decide (0≤c) && decide (c < (x.length:Int))) with
  | false =>
   rw [h2] at W2
   have E:=Lib.hid (cellL_col rs k x c HXk.out h2)
   clear h2
   go_enter Tryz.func25,Tryz.ntmps25
   go_wp2_with fail
   refine (W1.out _).mono ?_;rintro e w' ⟨rfl,rfl⟩
   go_wp2_with fail
   refine (W2.out _).mono ?_;rintro e w' ⟨rfl,rfl⟩
   go_wp2_with fail
   go_ret
   exact ⟨by rw [E.out];rfl,HB.out⟩
  | true =>
   rw [h2] at W2
   simp only [Bool.and_eq_true,decide_eq_true_eq] at h2
   obtain ⟨j,rfl⟩:=Int.eq_ofNat_of_zero_le h2.1
   have hjl:j < x.length:=by omega
   clear h2
   obtain ⟨y,hy⟩:∃ y,x[j]?=some y:=⟨_,List.getElem?_eq_getElem hjl⟩
   have E:=Lib.hid (cellL_at rs k j x y HXk.out hy)
   have CC:=Lib.hid (fun W=>clone_any y W (HXc.out y (List.mem_of_getElem? hy)))
   rcases HS1.out with h0 | ⟨A1,rfl,hA1,hcell⟩
   · rw [h0] at hjl;simp at hjl
   have hcy:=hcell j y hy
   clear hcell hy
   go_enter Tryz.func25,Tryz.ntmps25
   go_wp2_with fail
   refine (W1.out _).mono ?_;rintro e w' ⟨rfl,rfl⟩
   go_wp2_with fail
   refine (W2.out _).mono ?_;rintro e w' ⟨rfl,rfl⟩
   go_wp2_with fail
   refine (CC.out _).mono ?_;rintro e w' ⟨rfl,b1⟩
   have B1:=Lib.hid (below_up HB.out b1)
   clear b1 hc1 hcy
   go_wp2_with fail
   go_ret
   exact ⟨by rw [E.out];rfl,B1.out⟩
def colL (rs:List (List ByteArray)) (c:Int):List ByteArray:=(List.range rs.length).map fun (i:Nat)=>cellL rs (i:Int) c
theorem colL_len (rs:List (List ByteArray)) (c:Int):(colL rs c).length=rs.length:=by simp [colL]
theorem colL_at (rs:List (List ByteArray)) (c:Int) (k:Nat) (h:k < rs.length):(colL rs c)[k]?=some (cellL rs k c):=by simp [colL,h]
def columnT (hd:List ByteArray) (rs:List (List ByteArray)) (c:Int):List ByteArray:=if 0≤c∧c < hd.length then colL rs c else []
end
section
open Go.RowKit Go.Shelf
theorem bdn {B:Nat} {a w:World} (h:Below B a w) {n:Nat}:Below B a (w.drewN n):=⟨h.os,h.tape,h.output,h.size,h.block⟩
theorem cell_grown {W W':World} {row:Option Nat} {a:Addr} {v:Value} (h:W.cell? a=some v) (hg:W.grownBy W' row) (hne:some a.block ≠ row):W'.cell? a=some v:=by
 obtain ⟨_,_,_,_,hk⟩:=hg
 have:=hk a.block (block_lt_of_cell h) hne
 unfold World.cell? at h ⊢;rw [this];exact h
abbrev PL:=List (Int × Int)
def PairsAt (w:World) (ao:Option Addr) (l:PL):Prop:=l=[]∨∃ b o,ao=some ⟨b,o,none⟩∧b < w.heap.size∧∀ (i:Nat) p,l[i]?=some p→w.cell? ⟨b,o+i * 2,none⟩=some (.int .i64 p.1)∧w.cell? ⟨b,o+i * 2+1,none⟩=some (.int .i64 p.2)
theorem PairsAt.kept {w w':World} {ao:Option Addr} {l:PL} (h:PairsAt w ao l) (hB:Below w.heap.size w w'):PairsAt w' ao l:=by
 rcases h with h | ⟨b,o,h1,h2,h3⟩
 · exact .inl h
 · exact .inr ⟨b,o,h1,Nat.lt_of_lt_of_le h2 hB.size,fun i p hp=>⟨(hB.cell (p:=⟨b,o+i * 2,none⟩) h2).trans (h3 i p hp).1,(hB.cell (p:=⟨b,o+i * 2+1,none⟩) h2).trans (h3 i p hp).2⟩⟩
def IntsAt (w:World) (ao:Option Addr) (ps:List Int):Prop:=ps=[]∨∃ A,ao=some A∧A.block < w.heap.size∧∀ (i:Nat) p,ps[i]?=some p→w.cell? (A.add i)=some (.int .i64 p)
theorem IntsAt.kept {w w':World} {ao:Option Addr} {ps:List Int} (h:IntsAt w ao ps) (hB:Below w.heap.size w w'):IntsAt w' ao ps:=by
 rcases h with h | ⟨A,h1,h2,h3⟩
 · exact .inl h
 · exact .inr ⟨A,h1,Nat.lt_of_lt_of_le h2 hB.size,fun i p hp=>(hB.cell (p:=A.add i) (by rw [add_block];exact h2)).trans (h3 i p hp)⟩
theorem int_bneP (n m:Nat):((n:Int) != (m:Int))=decide (n ≠ m):=by
 by_cases h:n=m
 · subst h;simp
 · rw [decide_eq_true h,bne_iff_ne];omega
theorem list_all {α:Type} (xs ys:List α) (h:xs.length=ys.length) (hall:∀ (j:Nat) x y,j < xs.length→xs[j]?=some x→ys[j]?=some y→x=y):xs=ys:=by
 refine List.ext_getElem? fun i=>?_
 by_cases hi:i < xs.length
 · rw [List.getElem?_eq_getElem hi,List.getElem?_eq_getElem (show i < ys.length by omega)]
   exact congrArg some (hall i _ _ hi (List.getElem?_eq_getElem hi) (List.getElem?_eq_getElem (by omega)))
 · rw [List.getElem?_eq_none (by omega),List.getElem?_eq_none (by omega)]
def sameL {α:Type} [DecidableEq α] (xs ys:List α):Bool:=decide (xs=ys)
theorem same_len {α:Type} [DecidableEq α] (xs ys:List α) (h:xs.length ≠ ys.length):sameL xs ys=false:=decide_eq_false (fun e=>h (congrArg List.length e))
theorem same_all {α:Type} [DecidableEq α] (xs ys:List α) (h:xs.length=ys.length) (hall:∀ (j:Nat) x y,j < xs.length→xs[j]?=some x→ys[j]?=some y→x=y):sameL xs ys=true:=decide_eq_true (list_all xs ys h hall)
theorem same_no {α:Type} [DecidableEq α] (xs ys:List α) (k:Nat) (x y:α) (hx:xs[k]?=some x) (hy:ys[k]?=some y) (hne:x ≠ y):sameL xs ys=false :=
 decide_eq_false (fun e=>hne (by subst e;rw [hx] at hy;exact Option.some.inj hy))
end
section
open Go.RowKit Go.Shelf
theorem psameR_any (ao bo:Option Addr) (ca cb:Nat) (xs ys:PL) (w:World) (hn:xs.length≤1099511627776) (hR:PairsAt w ao xs) (hS:PairsAt w bo ys) :
 Calls Tryz.prog 13 #[.slice ao xs.length ca,.slice bo ys.length cb] w fun e w'=>e=.returned (.bool (sameL xs ys))∧Below w.heap.size w w':=by
 have HRo:=Lib.hid hR
 have HSo:=Lib.hid hS
 have HL:=Lib.hid (same_len xs ys)
 have HA:=Lib.hid (same_all xs ys)
 have HNo:=Lib.hid (same_no xs ys)
 clear hR hS
 generalize sameL xs ys=F at HL HA HNo ⊢
 by_cases hlen:xs.length=ys.length
 · have hb:((xs.length:Int) != (ys.length:Int))=false:=by rw [int_bneP];simpa using hlen
   have HLen:=Lib.hid hlen
   go_enter Tryz.func13,Tryz.ntmps13
   go_wp2_with fail
   go_loopw [5] (fun i wr=>∃ k:Nat,k≤xs.length∧i=.int .i64 k∧Hid (Below w.heap.size w wr)∧Hid (∀ (j:Nat) x y,j < k→xs[j]?=some x→ys[j]?=some y→x=y)) (fun i _=>xs.length - (intOf i).toNat)
   case atStart=>exact ⟨0,Nat.zero_le _,rfl,Lib.hid (Below.refl _ _),Lib.hid (fun j x y h _ _=>by omega)⟩
   case round =>
    obtain ⟨k,hk,rfl,HB,HN⟩:=hrel
    by_cases hlt:k < xs.length
    · obtain ⟨x,hx⟩:∃ x,xs[k]?=some x:=⟨_,List.getElem?_eq_getElem hlt⟩
      obtain ⟨y,hy⟩:∃ y,ys[k]?=some y:=⟨_,List.getElem?_eq_getElem (by rw [← HLen.out];exact hlt)⟩
      have HX:=Lib.hid hx
      have HY:=Lib.hid hy
      have hlt2:k < ys.length:=by rw [← HLen.out];exact hlt
      rcases (HRo.out.kept HB.out) with h0 | ⟨b,o,rfl,hA,hcell⟩
      · rw [h0] at hlt;simp at hlt
      rcases (HSo.out.kept HB.out) with h0 | ⟨c,q,rfl,hC,hcell2⟩
      · rw [h0] at hlt2;simp at hlt2
      have hc:=hcell k _ hx
      have hd:=hcell2 k _ hy
      clear hcell hcell2 hx hy
      obtain ⟨x1,x2⟩:=x
      obtain ⟨y1,y2⟩:=y
      obtain ⟨hc1,hc2⟩:=hc
      obtain ⟨hd1,hd2⟩:=hd
      dsimp only at hc1 hc2 hd1 hd2
      by_cases hxy:x1=y1∧x2=y2
      · have HN':Hid (∀ (j:Nat) x y,j < k+1→xs[j]?=some x→ys[j]?=some y→x=y):=Lib.hid (fun j u v hj hu hv=>by
         rcases Nat.lt_or_ge j k with h | h
         · exact HN.out j u v h hu hv
         · obtain rfl:j=k:=by omega
           rw [HX.out] at hu;rw [HY.out] at hv
           cases hu;cases hv;obtain ⟨rfl,rfl⟩:=hxy;rfl)
        obtain ⟨rfl,rfl⟩:=hxy
        go_wp2_with fail
        go_quiet (fail)
        have HB':Hid (Below w.heap.size w (wr.drewN nq)):=Lib.hid (bdn HB.out)
        go_wp2_with fail
        go_roundw
        case rel=>exact ⟨k+1,by omega,by go_num,HB',HN'⟩
        case measure=>simp [intOf];omega
      · have E:=Lib.hid (HNo.out k _ _ HX.out HY.out (by intro e;injection e with e1 e2;exact hxy ⟨e1,e2⟩))
        by_cases h1:x1=y1
        · have h2:¬ x2=y2:=fun e=>hxy ⟨h1,e⟩
          clear hxy
          go_wp2_with fail
          go_quiet (fail)
          have HB':Hid (Below w.heap.size w (wr.drewN nq)):=Lib.hid (bdn HB.out)
          go_wp2_with fail
          go_ret
          exact ⟨by rw [E.out];rfl,HB'.out⟩
        clear hxy
        all_goals
         go_wp2_with fail
         go_quiet (fail)
         have HB':Hid (Below w.heap.size w (wr.drewN nq)):=Lib.hid (bdn HB.out)
         go_wp2_with fail
         go_ret
         exact ⟨by rw [E.out];rfl,HB'.out⟩
    · obtain rfl:k=xs.length:=by omega
      have E:=Lib.hid (HA.out HLen.out HN.out)
      go_wp2_with fail
      go_ret
      exact ⟨by rw [E.out];rfl,HB.out⟩
 · have hb:((xs.length:Int) != (ys.length:Int))=true:=by rw [int_bneP];simpa using hlen
   have E:=Lib.hid (HL.out hlen)
   go_enter Tryz.func13,Tryz.ntmps13
   go_wp2_with fail
   go_ret
   exact ⟨by rw [E.out];rfl,Below.refl _ _⟩
end
end Go.Proofs.YtdenehnneloegaaGreatDoor
