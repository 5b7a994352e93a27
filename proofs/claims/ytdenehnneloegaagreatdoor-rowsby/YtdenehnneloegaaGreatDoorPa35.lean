/-
  Texts of these rows' proofs, laid one behind the other: RwRef2, RwKey.
  Conditions: those of each theorem.
-/
import Derived.Deep.OwnRows
import Derived.Deep.RegionHeld3
import Derived.WalkKit
import Derived.WalkMore
import Derived.IntWalk
import Derived.WalkArith
import Derived.OwnWalk
import Derived.Lib.Hide
import Derived.Test.YtdenehnneloegaaGreatDoorProg
import Derived.Test.YtdenehnneloegaaGreatDoorPa20
import Derived.Test.YtdenehnneloegaaGreatDoorPa34
import Derived.Deep.QuietTactic
import Derived.Deep.RegionWith
import Derived.BigQuiet
import Derived.Test.YtdenehnneloegaaGreatDoorPa19
namespace Go.Proofs.YtdenehnneloegaaGreatDoor
set_option linter.unusedVariables false
set_option maxRecDepth 100000
set_option maxHeartbeats 8000000
section
open Go.RowKit Go.Shelf Go.Deep
abbrev TwoO (ho:Option Addr) (n1 hc:Nat) (ro:Option Addr) (m1 rc:Nat) (bo:Option Addr) (n2 bc:Nat) (so:Option Addr) (m2 sc:Nat):Obj:=.cells #[.slice ho n1 hc,.slice ro m1 rc,.slice bo n2 bc,.slice so m2 sc] 25
theorem tabs_two {W:World} {ho ro bo so:Option Addr} {hc rc bc sc:Nat} {ha hb:List ByteArray} {ra rb:List (List ByteArray)} (h1:StrRow W ho ha) (h2:RowsAt W ro ra) (h3:StrRow W bo hb) (h4:RowsAt W so rb) :
 TabsAt (W.alloc (TwoO ho ha.length hc ro ra.length rc bo hb.length bc so rb.length sc)) (some ⟨W.heap.size,0,none⟩) [(ha,ra),(hb,rb)]:=by
 refine .inr ⟨_,_,rfl,by simp,fun i t' ht=>?_⟩
 have hbx:=World.alloc_heap_new W (TwoO ho ha.length hc ro ra.length rc bo hb.length bc so rb.length sc)
 match i,ht with
 | 0,ht =>
  cases ht
  exact ⟨ho,hc,ro,rc,(Lib.cell_of_heap hbx 0).trans rfl,(Lib.cell_of_heap hbx 1).trans rfl,h1.kept (one_below _ _),h2.kept (one_below _ _)⟩
 | 1,ht =>
  cases ht
  exact ⟨bo,bc,so,sc,(Lib.cell_of_heap hbx 2).trans rfl,(Lib.cell_of_heap hbx 3).trans rfl,h3.kept (one_below _ _),h4.kept (one_below _ _)⟩
def useAB (ha:List ByteArray) (ra:List (List ByteArray)) (hb:List ByteArray) (rb:List (List ByteArray)) (names:List ByteArray):Bool:=usableC [(ha,ra),(hb,rb)] names
theorem use_of {ha:List ByteArray} {ra:List (List ByteArray)} {hb:List ByteArray} {rb:List (List ByteArray)} {names:List ByteArray} (h:useAB ha ra hb rb names=true):UseOf ha ra hb rb names:=by
 obtain ⟨-,-,hT⟩:=(usable_iff _ _).1 h
 obtain ⟨a1,a2⟩:=hT (ha,ra) (by simp)
 obtain ⟨b1,b2⟩:=hT (hb,rb) (by simp)
 exact ⟨a1,b1,uniq_apart a2,uniq_apart b2⟩
theorem use_in {ha:List ByteArray} {ra:List (List ByteArray)} {hb:List ByteArray} {rb:List (List ByteArray)} {names:List ByteArray} (h:useAB ha ra hb rb names=true):inAll ha names=true∧inAll hb names=true:=by
 have u:=use_of h
 unfold inAll
 rw [List.all_eq_true,List.all_eq_true]
 exact ⟨fun s hs=>decide_eq_true (u.a s hs),fun s hs=>decide_eq_true (u.b s hs)⟩
theorem keyR_at (rs:List (List ByteArray)) (row:Int) (cols:List Int):keyR rs row cols=keyAt rs cols row:=rfl
theorem same_iff (a b:List ByteArray):sameRow a b=decide (a=b):=by
 by_cases h:a=b
 · subst h;simp [sameRow]
 · rw [decide_eq_false h]
   unfold sameRow
   exact decide_eq_false (fun e=>h (bytes_injK e))
def upKey (ra rb:List (List ByteArray)) (ps qs:List Int) (k i:Nat):PL:=byKeyAll ra rb ps qs k ++ byKeyRow ra rb ps qs k i
theorem upKey_next (ra rb:List (List ByteArray)) (ps qs:List Int) (k i:Nat):upKey ra rb ps qs k (i+1)=if keyAt ra ps i=keyAt rb qs k then upKey ra rb ps qs k i ++ [((i:Int),(k:Int))] else upKey ra rb ps qs k i:=by
 unfold upKey byKeyRow
 rw [List.range_succ,List.filter_append]
 by_cases h:keyAt ra ps i=keyAt rb qs k
 · rw [if_pos h];simp [h]
 · rw [if_neg h];simp [h]
theorem upKey_row (ra rb:List (List ByteArray)) (ps qs:List Int) (k:Nat):upKey ra rb ps qs k ra.length=upKey ra rb ps qs (k+1) 0:=by
 unfold upKey byKeyAll
 rw [List.range_succ,List.flatMap_append]
 simp [byKeyRow]
theorem upKey_zero (ra rb:List (List ByteArray)) (ps qs:List Int):upKey ra rb ps qs 0 0=[]:=by simp [upKey,byKeyAll,byKeyRow]
theorem upKey_all (ra rb:List (List ByteArray)) (ps qs:List Int) (m:Nat):upKey ra rb ps qs m 0=byKeyAll ra rb ps qs m:=by simp [upKey,byKeyRow]
theorem rowKey_le (ra rb:List (List ByteArray)) (ps qs:List Int) (k i:Nat):(byKeyRow ra rb ps qs k i).length≤i:=by
 unfold byKeyRow;rw [List.length_map];exact Nat.le_trans (List.length_filter_le _ _) (by simp)
theorem allKey_le (ra rb:List (List ByteArray)) (ps qs:List Int):∀ m:Nat,(byKeyAll ra rb ps qs m).length≤m * ra.length
 | 0=>by simp [byKeyAll]
 | m+1=>by
  have h1:=allKey_le ra rb ps qs m
  have h2:=rowKey_le ra rb ps qs m ra.length
  unfold byKeyAll at h1 ⊢
  rw [List.range_succ,List.flatMap_append,List.length_append,Nat.succ_mul]
  simp only [List.flatMap_cons,List.flatMap_nil,List.append_nil]
  omega
theorem upKey_le (ra rb:List (List ByteArray)) (ps qs:List Int) (k i:Nat) (h1:ra.length≤1024) (h2:k≤1024) (h3:i≤1024):(upKey ra rb ps qs k i).length≤1049600:=by
 have a:=allKey_le ra rb ps qs k
 have b:=rowKey_le ra rb ps qs k i
 have c:k * ra.length≤1024 * 1024:=Nat.mul_le_mul h2 h1
 unfold upKey;rw [List.length_append];omega
theorem rbykey_any (ho:Option Addr) (hc:Nat) (ha:List ByteArray) (ro:Option Addr) (rc:Nat) (ra:List (List ByteArray)) (bo:Option Addr) (bc:Nat) (hb:List ByteArray) (so:Option Addr) (sc:Nat) (rb:List (List ByteArray)) (no:Option Addr) (nc:Nat) (names:List ByteArray) (w:World)
 (hn:ha.length≤1099511627776) (hn2:hb.length≤1099511627776) (hra:ra.length≤1024) (hrb:rb.length≤1024) (hm:names.length≤1024) (hcap:names.length≤nc) (hH:StrRow w ho ha) (hK:StrRow w bo hb) (hR:RowsAt w ro ra) (hS:RowsAt w so rb) (hN:StrRow w no names) :
 Calls Tryz.prog 15 #[.agg #[.slice ho ha.length hc,.slice ro ra.length rc],.agg #[.slice bo hb.length bc,.slice so rb.length sc],.slice no names.length nc] w (PairsOut (byKeyU (useAB ha ra hb rb names) ha ra hb rb names) w):=by
 obtain ⟨W,HW⟩:∃ W,Hid (W=(w.alloc (TabO ho ha.length hc ro ra.length rc)).alloc (TabO bo hb.length bc so rb.length sc)):=⟨_,Lib.hid rfl⟩
 have hB:Below w.heap.size w W:=by rw [HW.out];exact two_below _ _ _
 have HB0:=Lib.hid hB
 have hNw:=two_new w (TabO ho ha.length hc ro ra.length rc) (TabO bo hb.length bc so rb.length sc)
 rw [← HW.out] at hNw
 have box:Hid (∀ V,Below W.heap.size W V→(V.cell? ⟨w.heap.size,0,none⟩=some (.slice ho ha.length hc)∧V.cell? ⟨w.heap.size,1,none⟩=some (.slice ro ra.length rc))∧V.cell? ⟨w.heap.size+1,0,none⟩=some (.slice bo hb.length bc)∧V.cell? ⟨w.heap.size+1,1,none⟩=some (.slice so rb.length sc)):=Lib.hid (fun V hV=>⟨tabs ((hV.block _ (lt_of_heap hNw.2.1)).trans hNw.2.1),tabs ((hV.block _ (lt_of_heap hNw.2.2)).trans hNw.2.2)⟩)
 have b1:=one_below W (TwoO ho ha.length hc ro ra.length rc bo hb.length bc so rb.length sc)
 have CU:Hid (Calls Tryz.prog 32 #[.slice (some ⟨W.heap.size,0,none⟩) 2 2,.slice no names.length nc] (W.alloc (TwoO ho ha.length hc ro ra.length rc bo hb.length bc so rb.length sc)) fun e w'=>e=.returned (.bool (useAB ha ra hb rb names))∧Below (W.alloc (TwoO ho ha.length hc ro ra.length rc bo hb.length bc so rb.length sc)).heap.size (W.alloc (TwoO ho ha.length hc ro ra.length rc bo hb.length bc so rb.length sc)) w') :=
  Lib.hid (rusable_any (some ⟨W.heap.size,0,none⟩) 2 [(ha,ra),(hb,rb)] no nc names (W.alloc (TwoO ho ha.length hc ro ra.length rc bo hb.length bc so rb.length sc)) (by simp) (by omega) hcap (fun t ht=>by simp at ht;rcases ht with rfl | rfl <;> (constructor <;> dsimp only <;> omega)) (tabs_two (hH.kept hB) (hR.kept hB) (hK.kept hB) (hS.kept hB)) ((hN.kept hB).kept b1))
 have HB1:=Lib.hid b1
 have CP1:=Lib.hid (fun V (h:Below W.heap.size W V)=>rplaces_any ho hc ha ro ra.length rc no nc names V hn (by omega) (hH.kept (below_up hB h)) (hN.kept (below_up hB h)))
 have CP2:=Lib.hid (fun V (h:Below W.heap.size W V)=>rplaces_any bo bc hb so rb.length sc no nc names V hn2 (by omega) (hK.kept (below_up hB h)) (hN.kept (below_up hB h)))
 have CK1:=Lib.hid (fun (j:Nat) po pc ps V (hl:ps.length≤1024) (h:Below W.heap.size W V) (hI:IntsAt V po ps)=>rkey_any ho ha.length hc ro rc ra (j:Int) po pc ps V (by omega) (hR.kept (below_up hB h)) hI)
 have CK2:=Lib.hid (fun (j:Nat) po pc ps V (hl:ps.length≤1024) (h:Below W.heap.size W V) (hI:IntsAt V po ps)=>rkey_any bo hb.length bc so sc rb (j:Int) po pc ps V (by omega) (hS.kept (below_up hB h)) hI)
 have CR:=Lib.hid (fun (ao bo:Option Addr) (ca cb:Nat) (xs ys:List ByteArray) V (hl:xs.length≤1099511627776) (h1:StrRow V ao xs) (h2:StrRow V bo ys)=>rrow_any ao bo ca cb xs ys V hl h1 h2)
 have HIn:=Lib.hid (fun h=>use_in (ha:=ha) (ra:=ra) (hb:=hb) (rb:=rb) (names:=names) h)
 have HAp:=Lib.hid (fun h=>(use_of (ha:=ha) (ra:=ra) (hb:=hb) (rb:=rb) (names:=names) h).ua)
 have HRU:Hid (∀ u,byKeyU u ha ra hb rb names=if u then byKeyL ra rb (names.map (findL ha)) (names.map (findL hb)) else []):=Lib.hid (fun u=>rfl)
 obtain ⟨R,HRR⟩:∃ R,Hid (R=byKeyU (useAB ha ra hb rb names) ha ra hb rb names):=⟨_,Lib.hid rfl⟩
 rw [← HRR.out]
 have hinfo:(Tryz.prog.info? 45).map (fun i=>(i.zero,i.size,i.bytes))=some (some (.agg #[.int .i64 0,.int .i64 0]),2,16):=by kernel_rfl
 obtain ⟨i0,hi,hz0,hz1,hz2⟩:=info_parts2 hinfo
 have HI:=Lib.hid hi
 obtain ⟨⟨a0,a1⟩,c0,c1⟩:=box.out W (Below.refl _ _)
 clear hi hinfo hR hS hB hNw hH hK hN b1
 cases hu:useAB ha ra hb rb names with
 | false =>
  have HR0:Hid (R=[]):=Lib.hid (by rw [HRR.out,hu,HRU.out];rfl)
  rw [hu] at CU
  clear hu HIn HAp HRU HRR CP1 CP2 CK1 CK2 CR
  go_enter Tryz.func15,Tryz.ntmps15
  go_upto_region 1 with fail
  rw [show (w.alloc (Obj.cells #[Value.slice ho ha.length hc,Value.slice ro ra.length rc] 25)).alloc (Obj.cells #[Value.slice bo hb.length bc,Value.slice so rb.length sc] 25)=W from HW.out.symm]
  go_wp2_with fail
  refine CU.out.mono ?_;rintro e w2 ⟨rfl,b2⟩
  have HE:Hid (PairsOut R w (.returned (.slice none 0 0)) w2):=Lib.hid (by rw [HR0.out];exact ⟨none,0,rfl,.inl rfl,fun _=>rfl,Nat.le_refl _,below_up HB0.out (below_up HB1.out b2)⟩)
  clear b2 CU
  go_wp2_with fail
  go_ret
  exact HE.out
 | true =>
  obtain ⟨hi1,hi2⟩:=HIn.out hu
  have hap:=HAp.out hu
  rw [hu] at CU
  obtain ⟨ps,Hps⟩:∃ ps,Hid (ps=names.map (findL ha)):=⟨_,Lib.hid rfl⟩
  obtain ⟨qs,Hqs⟩:∃ qs,Hid (qs=names.map (findL hb)):=⟨_,Lib.hid rfl⟩
  rw [← Hps.out] at hap
  have HR1:Hid (R=byKeyAll ra rb ps qs rb.length):=Lib.hid (by rw [HRR.out,hu,HRU.out,if_pos rfl,← Hps.out,← Hqs.out];exact (byKey_all hap rb.length).symm)
  have HPl:Hid (ps.length=names.length):=Lib.hid (by rw [Hps.out];simp)
  have HQl:Hid (qs.length=names.length):=Lib.hid (by rw [Hqs.out];simp)
  have D1:Hid (∀ V,Below W.heap.size W V→Calls Tryz.prog 36 #[.agg #[.slice ho ha.length hc,.slice ro ra.length rc],.slice no names.length nc] V fun e w'=>∃ (ao:Option Addr) (cap:Nat),e=.returned (.tuple #[.slice ao ps.length cap,.bool true])∧IntsAt w' ao ps∧Below V.heap.size V w'):=Lib.hid (fun V h=>(CP1.out V h).mono (by
   rintro e w' (⟨-,ao,cap,rfl,h1,h2⟩ | ⟨h0,-⟩)
   · rw [← Hps.out] at h1;exact ⟨ao,cap,by rw [HPl.out],h1,h2⟩
   · rw [hi1] at h0;cases h0))
  have D2:Hid (∀ V,Below W.heap.size W V→Calls Tryz.prog 36 #[.agg #[.slice bo hb.length bc,.slice so rb.length sc],.slice no names.length nc] V fun e w'=>∃ (ao:Option Addr) (cap:Nat),e=.returned (.tuple #[.slice ao qs.length cap,.bool true])∧IntsAt w' ao qs∧Below V.heap.size V w'):=Lib.hid (fun V h=>(CP2.out V h).mono (by
   rintro e w' (⟨-,ao,cap,rfl,h1,h2⟩ | ⟨h0,-⟩)
   · rw [← Hqs.out] at h1;exact ⟨ao,cap,by rw [HQl.out],h1,h2⟩
   · rw [hi2] at h0;cases h0))
  obtain ⟨O,HQ⟩:∃ O:Nat→Nat→PL,Hid (O=upKey ra rb ps qs):=⟨_,Lib.hid rfl⟩
  have HNx:Hid (∀ (k i:Nat),O k (i+1)=if keyAt ra ps i=keyAt rb qs k then O k i ++ [((i:Int),(k:Int))] else O k i):=Lib.hid (fun k i=>by rw [HQ.out];exact upKey_next ra rb ps qs k i)
  have HRow:Hid (∀ k,O k ra.length=O (k+1) 0):=Lib.hid (fun k=>by rw [HQ.out];exact upKey_row ra rb ps qs k)
  have HLe:Hid (∀ k i,k≤1024→i≤1024→(O k i).length≤1049600):=Lib.hid (fun k i h1 h2=>by rw [HQ.out];exact upKey_le ra rb ps qs k i hra h1 h2)
  have HZ:Hid (O 0 0=[]):=Lib.hid (by rw [HQ.out];exact upKey_zero _ _ _ _)
  have HAl:Hid (R=O rb.length 0):=Lib.hid (by rw [HR1.out,HQ.out];exact (upKey_all _ _ _ _ _).symm)
  have hpl:ps.length≤1024:=by rw [HPl.out];exact hm
  have hql:qs.length≤1024:=by rw [HQl.out];exact hm
  clear hu HIn HAp HRU HRR CP1 CP2 hi1 hi2 hap HR1
  go_enter Tryz.func15,Tryz.ntmps15
  go_upto_region 1 with fail
  rw [show (w.alloc (Obj.cells #[Value.slice ho ha.length hc,Value.slice ro ra.length rc] 25)).alloc (Obj.cells #[Value.slice bo hb.length bc,Value.slice so rb.length sc] 25)=W from HW.out.symm]
  go_wp2_with fail
  refine CU.out.mono ?_;rintro e w2 ⟨rfl,b2⟩
  have HBa:=Lib.hid (below_up HB1.out b2)
  have D1':=Lib.hid (D1.out w2 HBa.out)
  clear b2 CU a0 a1 c0 c1 D1
  obtain ⟨⟨a0,a1⟩,c0,c1⟩:=box.out w2 HBa.out
  go_wp2_with fail
  refine D1'.out.mono ?_;rintro e w3 ⟨po,pc,rfl,hp,b3⟩
  have HBb:=Lib.hid (below_up HBa.out b3)
  have D2':=Lib.hid (D2.out w3 HBb.out)
  have HP3:=Lib.hid hp
  clear b3 D1' a0 a1 c0 c1 D2 hp
  obtain ⟨⟨a0,a1⟩,c0,c1⟩:=box.out w3 HBb.out
  go_wp2_with fail
  refine D2'.out.mono ?_;rintro e w4 ⟨qo,qc,rfl,hq,b4⟩
  have HBc:=Lib.hid (below_up HBb.out b4)
  have HP4:=Lib.hid (HP3.out.kept b4)
  have HQ4:=Lib.hid hq
  have HT:Hid (OwnL w4 w4.heap.size (.slice none 0 0) (O 0 0)):=Lib.hid (by rw [HZ.out];exact World.ownsRow_nil _ _ _ _)
  have hL0:(O 0 0).length=0:=by rw [HZ.out];rfl
  have HL0:=Lib.hid hL0
  clear b4 D2' a0 a1 c0 c1 hq HP3 hL0
  go_wp2_with fail
  go_loopw [12,13] (fun v u wr=>∃ (k q cp:Nat) (go:Option Addr),k≤rb.length∧u=.int .i64 k∧v=.slice go q cp∧Hid (q=(O k 0).length)∧Hid (Below w4.heap.size w4 wr)∧Hid (OwnL wr w4.heap.size (.slice go q cp) (O k 0))) (fun _ u _=>rb.length - (intOf u).toNat)
  case atStart=>exact ⟨0,0,0,none,Nat.zero_le _,rfl,rfl,Lib.hid HL0.out.symm,Lib.hid (Below.refl _ _),HT⟩
  case round =>
   clear HT HL0
   obtain ⟨k,q,cp,go,hk,rfl,rfl,HQn,HB,HT⟩:=hrel
   obtain ⟨⟨a0,a1⟩,c0,c1⟩:=box.out wr (below_up HBc.out HB.out)
   by_cases hlt:k < rb.length
   · have hk2:k≤1024:=by omega
     go_wp2_with fail
     clear a0 a1 c0 c1
     go_loopw [12,14] (fun v u wr=>∃ (i q cp:Nat) (go:Option Addr),i≤ra.length∧u=.int .i64 i∧v=.slice go q cp∧Hid (q=(O k i).length)∧Hid (Below w4.heap.size w4 wr)∧Hid (OwnL wr w4.heap.size (.slice go q cp) (O k i))) (fun _ u _=>ra.length - (intOf u).toNat)
     case atStart=>exact ⟨0,q,cp,go,Nat.zero_le _,rfl,rfl,HQn,HB,HT⟩
     case round =>
      clear HT HQn HB
      obtain ⟨i,q,cp,go,hi,rfl,rfl,HQn,HB,HT⟩:=hrel
      obtain ⟨⟨a0,a1⟩,c0,c1⟩:=box.out wr (below_up HBc.out HB.out)
      by_cases hil:i < ra.length
      · have hi2:i≤1024:=by omega
        have hq:q≤1049600:=by rw [HQn.out];exact HLe.out k i hk2 hi2
        have HST:=Lib.hid (HNx.out k i)
        have E1:=Lib.hid (fun V (h:Below wr.heap.size wr V)=>CK1.out i po pc ps V hpl (below_up HBc.out (below_up HB.out h)) (HP4.out.kept (below_up HB.out h)))
        have E2:=Lib.hid (fun V (h:Below wr.heap.size wr V)=>CK2.out k qo qc qs V hql (below_up HBc.out (below_up HB.out h)) (HQ4.out.kept (below_up HB.out h)))
        have hxl:(keyAt ra ps i).length≤1099511627776:=by rw [keyAt_len];omega
        rw [keyR_at] at E1
        rw [keyR_at] at E2
        obtain ⟨xs,hxs⟩:∃ xs,xs=keyAt ra ps i:=⟨_,rfl⟩
        obtain ⟨ys,hys⟩:∃ ys,ys=keyAt rb qs k:=⟨_,rfl⟩
        rw [← hxs] at E1 HST hxl
        rw [← hys] at E2 HST
        have E3:=Lib.hid (fun (ao bo:Option Addr) (ca cb:Nat) V (h1:StrRow V ao xs) (h2:StrRow V bo ys)=>CR.out ao bo ca cb xs ys V hxl h1 h2)
        rw [same_iff] at E3
        unfold StrsOut at E1 E2
        have HTO:Hid (wr.ownsRow w4.heap.size 45 2 (.slice go q cp) q (cellsP (O k i))):=Lib.hid (by have:=HT.out;unfold OwnL at this;rw [← HQn.out] at this;exact this)
        have boxr:Hid (∀ V,Below wr.heap.size wr V→(V.cell? ⟨w.heap.size,0,none⟩=some (.slice ho ha.length hc)∧V.cell? ⟨w.heap.size,1,none⟩=some (.slice ro ra.length rc))∧V.cell? ⟨w.heap.size+1,0,none⟩=some (.slice bo hb.length bc)∧V.cell? ⟨w.heap.size+1,1,none⟩=some (.slice so rb.length sc)):=Lib.hid (fun V h=>box.out V (below_up HBc.out (below_up HB.out h)))
        have HBel:Hid (Below wr.heap.size wr wr.drew):=Lib.hid ((Below.refl _ _).drew)
        clear hxl hxs hys HT
        go_upto_region 13 with fail
        go_region_held3 (fun V=>(V.cell? ⟨w.heap.size,0,none⟩=some (.slice ho ha.length hc)∧V.cell? ⟨w.heap.size,1,none⟩=some (.slice ro ra.length rc))∧V.cell? ⟨w.heap.size+1,0,none⟩=some (.slice bo hb.length bc)∧V.cell? ⟨w.heap.size+1,1,none⟩=some (.slice so rb.length sc)) ((refine ⟨⟨?_,?_⟩,?_,?_⟩ <;> first | assumption | go_keep))
         (first
          | (go_at_call 38;refine (E1.out _ HBel.out).mono ?_;rintro e wA ⟨aoA,cA,rfl,hsA,bA⟩;have HBel:=Lib.hid (below_up HBel.out bA);have HSA:=Lib.hid hsA;obtain ⟨⟨a0,a1⟩,c0,c1⟩:=boxr.out wA HBel.out;clear hsA bA E1)
          | (go_at_call 38;refine (E2.out _ HBel.out).mono ?_;rintro e wB ⟨aoB,cB,rfl,hsB,bB⟩;have HBel:=Lib.hid (below_up HBel.out bB);have HSA:=Lib.hid (HSA.out.kept bB);have HSB:=Lib.hid hsB;obtain ⟨⟨a0,a1⟩,c0,c1⟩:=boxr.out wB HBel.out;clear hsB bB E2)
          | (go_at_call 37;refine (E3.out _ _ _ _ _ HSA.out HSB.out).mono ?_;rintro e wC ⟨rfl,bC⟩;have HBel:=Lib.hid (below_up HBel.out bC);obtain ⟨⟨a0,a1⟩,c0,c1⟩:=boxr.out wC HBel.out;clear bC))
        rename_i hHeld
        clear hHeld
        have HTC:=Lib.hid (ownsRow_below HTO.out HBel.out)
        have HBC:=Lib.hid (below_up HB.out HBel.out)
        clear E3 HSA HSB HTO boxr
        by_cases hxy:xs=ys
        · have HS2:Hid (O k (i+1)=O k i ++ [((i:Int),(k:Int))]):=Lib.hid (by rw [HST.out,if_pos hxy])
          rw [decide_eq_true hxy]
          have HT1:=Lib.hid (HTC.out.alloc (.cells #[Value.int .i64 i,Value.int .i64 k] 45))
          have hws:=HBC.out.size
          have hbs:w4.heap.size≤(wC.alloc (.cells #[Value.int .i64 i,Value.int .i64 k] 45)).heap.size:=by simp;omega
          clear HST hxy
          go_wp2_with (at_builtin;refine wpList_append_own _ rfl _ _ 26 rfl w4.heap.size 45 i0 (.agg #[.int .i64 0,.int .i64 0]) 2 16 Tryz.underlying26 HI.out hz0 hz1 hz2 rfl (by decide) _ _ _ rfl HT1.out ⟨wC.heap.size,0,none⟩ 1 1 [Value.int .i64 i,Value.int .i64 k] rfl rfl (lit_cellP wC _ _ _) (fun u hu=>by simp at hu;rcases hu with rfl | rfl <;> rfl) (by unfold maxLen;omega) (by omega) hbs ?_)
          intro v' w5 hown' hgrow _
          obtain ⟨g,gc,rfl⟩:=ownsRow_succ hown'
          have HB3:=Lib.hid ((HBC.out.alloc HBC.out.size (.cells #[Value.int .i64 i,Value.int .i64 k] 45)).grown hgrow hbs (fun j h=>(HTC.out.lt j h).1))
          have HQ3:Hid (q+1=(O k (i+1)).length):=Lib.hid (by rw [HS2.out,List.length_append,← HQn.out];rfl)
          have HT3:Hid (OwnL w5 w4.heap.size (.slice (some ⟨g,0,none⟩) (q+1) gc) (O k (i+1))):=Lib.hid (by unfold OwnL;rw [← HQ3.out,HS2.out,cellsP_app];exact hown')
          clear hown' hgrow hbs
          go_wp2_with fail
          go_roundw
          case rel=>exact ⟨i+1,q+1,gc,_,by omega,by go_num,rfl,HQ3,HB3,HT3⟩
          case measure=>simp [intOf];omega
        · have HS2:Hid (O k (i+1)=O k i):=Lib.hid (by rw [HST.out,if_neg hxy])
          rw [decide_eq_false hxy]
          have HT2:Hid (OwnL wC w4.heap.size (.slice go q cp) (O k (i+1))):=Lib.hid (by unfold OwnL;rw [HS2.out,← HQn.out];exact HTC.out)
          have HQ3:Hid (q=(O k (i+1)).length):=Lib.hid (by rw [HS2.out];exact HQn.out)
          clear HST hxy
          go_wp2_with fail
          go_roundw
          case rel=>exact ⟨i+1,q,cp,go,by omega,by go_num,rfl,HQ3,HBC,HT2⟩
          case measure=>simp [intOf];omega
      · obtain rfl:i=ra.length:=by omega
        have HQ3:Hid (q=(O (k+1) 0).length):=Lib.hid (by rw [← HRow.out k];exact HQn.out)
        have HT3:Hid (OwnL wr w4.heap.size (.slice go q cp) (O (k+1) 0)):=Lib.hid (by rw [← HRow.out k];exact HT.out)
        clear HT HQn
        go_wp2_with fail
        go_roundw
        case rel=>exact ⟨k+1,q,cp,go,by omega,by go_num,rfl,HQ3,HB,HT3⟩
        case measure=>simp [intOf];omega
   · obtain rfl:k=rb.length:=by omega
     have HE:Hid (PairsOut R w (.returned (.slice go q cp)) wr):=Lib.hid (by
      rw [HAl.out]
      obtain ⟨ao,cap,h1,h2,h3,h4,h5⟩:=OwnL.end_ HT.out HB.out
      exact ⟨ao,cap,h1,h2,h3,h4,below_up HB0.out (below_up HBc.out h5)⟩)
     clear HT
     go_wp2_with fail
     go_ret
     exact HE.out
end
section
open Go.RowKit Go.Shelf Go.Deep
def RowOutT (xs:List ByteArray) (w:World) (e:Ending) (w':World):Prop:=∃ v,e=.returned v∧RowV w' xs v∧Below w.heap.size w w'
theorem rkeyT_any (ho:Option Addr) (m hc:Nat) (ro:Option Addr) (rc:Nat) (rs:List (List ByteArray)) (row:Int) (co:Option Addr) (cc:Nat) (cols:List Int) (w:World) (hn:cols.length≤1048576) (hR:RowsAt w ro rs) (hI:IntsAt w co cols) :
 Calls Tryz.prog 38 #[.agg #[.slice ho m hc,.slice ro rs.length rc],.int .i64 row,.slice co cols.length cc] w (RowOutT (keyR rs row cols) w):=by
 obtain ⟨W,HW⟩:∃ W,Hid (W=w.alloc (TabO ho m hc ro rs.length rc)):=⟨_,Lib.hid rfl⟩
 have hB:Below w.heap.size w W:=by rw [HW.out];exact one_below _ _
 have HB0:=Lib.hid hB
 have hN:W.heap[w.heap.size]?=some (TabO ho m hc ro rs.length rc):=by rw [HW.out];exact World.alloc_heap_new w _
 have HNew:=Lib.hid hN
 have CC:=Lib.hid (fun V (c:Int) (h:Below W.heap.size W V)=>rcell_any ho m hc ro rc rs row c V (hR.kept (below_up hB h)))
 have HIo:=Lib.hid (hI.kept hB)
 have HK:Hid (∀ (k:Nat) c,cols[k]?=some c→((keyR rs row cols).map Value.string).take k ++ [Value.string (cellL rs row c)]=((keyR rs row cols).map Value.string).take (k+1)):=Lib.hid (fun k c hk=>by
  unfold keyR
  rw [List.take_add_one (i:=k),List.getElem?_map,List.getElem?_map,hk];rfl)
 have HKl:Hid ((keyR rs row cols).length=cols.length):=Lib.hid (by unfold keyR;simp)
 generalize keyR rs row cols=xs at HK HKl ⊢
 have hinfo:(Tryz.prog.info? 9).map (fun i=>(i.zero,i.size,i.bytes))=some (some (.string ⟨#[]⟩),1,16):=by kernel_rfl
 obtain ⟨i0,hi,hz0,hz1,hz2⟩:=infoK_parts2 hinfo
 have HIn:=Lib.hid hi
 clear hi hinfo hR hB hN hI
 go_enter Tryz.func38,Tryz.ntmps38
 go_wp2_with fail
 rw [show w.alloc (Obj.cells #[Value.slice ho m hc,Value.slice ro rs.length rc] 25)=W from HW.out.symm]
 go_loopw [7,8] (fun v i wr=>∃ (k cap:Nat) (ao:Option Addr),k≤cols.length∧v=.slice ao k cap∧i=.int .i64 k∧Hid (Below W.heap.size W wr)∧Hid (wr.ownsRow W.heap.size 9 1 (.slice ao k cap) k ((xs.map Value.string).take k))) (fun _ i _=>cols.length - (intOf i).toNat)
 case atStart=>exact ⟨0,0,none,Nat.zero_le _,rfl,rfl,Lib.hid (Below.refl _ _),Lib.hid (World.ownsRow_nil _ _ _ _)⟩
 case round =>
  obtain ⟨k,cap,ao,hk,rfl,rfl,HB,HO⟩:=hrel
  by_cases hlt:k < cols.length
  · obtain ⟨c,hcol⟩:∃ c,cols[k]?=some c:=⟨_,List.getElem?_eq_getElem hlt⟩
    obtain ⟨c0,c1⟩:=tabs ((HB.out.block _ (lt_of_heap HNew.out)).trans HNew.out)
    rcases HIo.out with h0 | ⟨A,rfl,hA,hcell⟩
    · rw [h0] at hlt;simp at hlt
    have HCa:Hid (∀ V,Below W.heap.size W V→V.cell? (A.add k)=some (.int .i64 c)):=Lib.hid (fun V h=>(h.cell (p:=A.add k) (by rw [add_block];exact hA)).trans (hcell k c hcol))
    have ca:=HCa.out wr HB.out
    have HT:=Lib.hid (HK.out k c hcol)
    have hws:W.heap.size≤wr.heap.size:=HB.out.size
    clear hcell
    have C1:=Lib.hid (CC.out wr c HB.out)
    have C2:=Lib.hid (CC.out wr.drew c HB.out.drew)
    generalize cellL rs row c=x at C1 C2 HT
    have q1:k+1≤maxLen:=by unfold maxLen;omega
    have q2:(k+1) * 16≤140737488355328:=by omega
    have KEEP:Hid (∀ V,Below W.heap.size W V→V.cell? ⟨w.heap.size,0,none⟩=some (.slice ho m hc)∧V.cell? ⟨w.heap.size,1,none⟩=some (.slice ro rs.length rc)∧V.cell? (A.add k)=some (.int .i64 c)):=Lib.hid (fun V h=>by
     obtain ⟨d0,d1⟩:=tabs ((h.block _ (lt_of_heap HNew.out)).trans HNew.out)
     exact ⟨d0,d1,(HCa.out V h)⟩)
    go_upto_region 5 with fail
    go_region_held3 (fun V=>V.cell? ⟨w.heap.size,0,none⟩=some (.slice ho m hc)∧V.cell? ⟨w.heap.size,1,none⟩=some (.slice ro rs.length rc)∧V.cell? (A.add k)=some (.int .i64 c)) ((refine ⟨?_,?_,?_⟩ <;> first | assumption | go_keep))
     (first
      | (go_at_call 89;refine C2.out.mono ?_;rintro e w2 ⟨rfl,b2⟩;have B2:=Lib.hid (below_up HB.out.drew b2);obtain ⟨c0,c1,ca⟩:=KEEP.out w2 B2.out;have HO2:=Lib.hid ((ownsRow_below HO.out.drew b2).alloc (.cells #[.string x] 9));have HB3:Hid (Below W.heap.size W (w2.alloc (.cells #[.string x] 9))):=Lib.hid (B2.out.alloc B2.out.size _);clear b2)
      | (refine step_append_gd (by rfl) _ _ 22 (by rfl) W.heap.size 9 i0 (.string ⟨#[]⟩) 1 16 Tryz.underlying22 HIn.out hz0 hz1 hz2 rfl (by decide) (.slice ao k cap) k ((xs.map Value.string).take k) (by rfl) HO2.out (some ⟨w2.heap.size,0,none⟩) 1 1 [.string x] (by rfl) (fun e=>by cases e) (by simp) (src_text w2 x _) (fun u hu=>by simp at hu;subst hu;rfl) q1 q2 HB3.out.size (k+1) rfl ((xs.map Value.string).take (k+1)) HT.out ?_;intro jo jc w4 hown _ hbel;have B4:=Lib.hid (HB3.out.trans hbel);have HO4:=Lib.hid hown;obtain ⟨c0,c1,ca⟩:=KEEP.out w4 B4.out;clear hown hbel))
    go_wp2_with fail
    go_roundw
    case rel=>exact ⟨k+1,jc,jo,by omega,rfl,by go_num,B4,HO4⟩
    case measure=>simp [intOf];omega
  · have hke:k=cols.length:=by omega
    have hkx:(xs.map Value.string).take k=xs.map Value.string:=List.take_of_length_le (by have:=HKl.out;simp;omega)
    have hkl:k=xs.length:=by rw [HKl.out];exact hke
    have HE:Hid (RowV wr xs (.slice ao k cap)):=Lib.hid (by
     have hc1:=ownK_cap HO.out
     have hs1:=own_strsK (xs:=xs) HO.out hkx
     have ht1:=own_ty HO.out
     clear HO hkx
     subst hkl
     exact ⟨ao,⟨cap,hc1⟩,rfl,hs1,ht1⟩)
    clear hkl
    have HBe:=Lib.hid (below_up HB0.out HB.out)
    clear hkx HO HB
    subst hke
    go_wp2_with fail
    go_ret
    exact ⟨_,rfl,HE.out,HBe.out⟩
end
end Go.Proofs.YtdenehnneloegaaGreatDoor
