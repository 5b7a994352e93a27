/-
  Texts of these rows' proofs, laid one behind the other: RwByLook.
  Conditions: those of each theorem.
-/
import Derived.WalkKit
import Derived.WalkMore
import Derived.OwnWalkIn
import Derived.TacticsInMore
import Derived.Lib.Hide
import Derived.RangeFuncCalls
import Derived.Deep.AppendLies
import Derived.Deep.WholeRow
import Derived.Laws.EntriesVeiled
import Derived.Sort.CutIn
import Derived.Test.YtdenehnneloegaaGreatDoorProg
import Derived.Test.YtdenehnneloegaaGreatDoorPa12
import Derived.Test.YtdenehnneloegaaGreatDoorPa24
import Derived.Test.YtdenehnneloegaaGreatDoorPa27
import Derived.Test.YtdenehnneloegaaGreatDoorPa6
import Derived.Test.YtdenehnneloegaaGreatDoorPa38
import Derived.Test.YtdenehnneloegaaGreatDoorPa40
import Derived.Test.YtdenehnneloegaaGreatDoorPa41
import Derived.Test.YtdenehnneloegaaGreatDoorPa42
import Derived.Test.YtdenehnneloegaaGreatDoorPa43
namespace Go.Proofs.YtdenehnneloegaaGreatDoor
set_option linter.unusedVariables false
set_option maxRecDepth 100000
set_option maxHeartbeats 8000000
section
open Go.RowKit Go.Shelf
attribute [local go_sem] Oper.semAt_some
theorem textB_le (ps:PtL) (hl:ps.length≤100) (hp:∀ p ∈ ps,0≤p.1∧p.1.toNat < 100∧p.2.size≤100000):(textB ps).size≤maxLen:=by
 have h1:∀ c ∈ bytesOf (textsP ps),c.length≤100000:=fun c hc=>by
  unfold bytesOf at hc
  obtain ⟨t,ht,rfl⟩:=List.mem_map.1 hc
  have:=textsP_size ps (fun p h=>(hp p h).2) t ht
  simpa using this
 have h2:=Q.recL_le 44 (bytesOf (textsP ps)) h1
 have h3:(bytesOf (textsP ps)).length=ps.length * 2:=by unfold bytesOf;rw [List.length_map,textsP_len]
 have e:(textB ps).size=(Q.writeL (bytesOf (textsP ps)) 44 false).length:=by
  rw [texts_bytes]
  show (textP ps).toArray.size=_
  rw [List.size_toArray];rfl
 rw [e]
 unfold Q.writeL
 rw [List.length_append]
 have h4:(Q.brkL false).length=1:=rfl
 rw [h4];unfold maxLen;omega
theorem cellR_le {r:List ByteArray} (h:∀ c ∈ r,c.size≤100000) (c:Int):(cellR r c).size≤100000:=by
 by_cases h0:(cellR r c).size=0
 · omega
 · exact h _ (List.mem_of_getElem? (cellR_size h0).2)
theorem okPs_keys (rs:List (List ByteArray)) (cs:List Int) (hc:cs.length≤100) (h:∀ r ∈ rs,∀ c ∈ r,c.size≤100000):okPs ((List.range rs.length).map fun (i:Nat)=>partsK 0 (keyAt rs cs i)):=by
 intro ps hps
 obtain ⟨i,hi,rfl⟩:=List.mem_map.1 hps
 have hi2:=List.mem_range.1 hi
 have hr:rs[i]?=some rs[i]:=List.getElem?_eq_getElem hi2
 refine ⟨Nat.le_trans (partsR_key rs cs i) hc,fun p hp=>?_⟩
 obtain ⟨k,h1,h2,h3⟩:=(parts_mem _ _ _).1 hp
 rw [keyAt_row hr,List.getElem?_map] at h1
 obtain ⟨c,hc1,hc2⟩:=Option.map_eq_some_iff.1 h1
 have hk:k < cs.length:=(List.getElem?_eq_some_iff.1 hc1).1
 refine ⟨by omega,by omega,?_⟩
 rw [← hc2]
 exact cellR_le (h _ (List.getElem_mem hi2)) c
theorem okPs_A (ra:List (List ByteArray)) (l:PL) (hl:l.length≤100) (h:∀ r ∈ ra,∀ c ∈ r,c.size≤100000):okPs (partsA ra l):=by
 have:=okPs_keys ra (l.map Prod.fst) (by rw [List.length_map];exact hl) h
 unfold partsA lookA
 rw [List.map_map];exact this
theorem okPs_B (rb:List (List ByteArray)) (l:PL) (hl:l.length≤100) (h:∀ r ∈ rb,∀ c ∈ r,c.size≤100000):okPs (partsB rb l):=by
 have:=okPs_keys rb (l.map Prod.snd) (by rw [List.length_map];exact hl) h
 unfold partsB lookB
 rw [List.map_map];exact this
theorem texts_lookA (ra:List (List ByteArray)) (l:PL):bytesOf ((partsA ra l).map textB)=(lookA ra l).map textR:=by
 unfold bytesOf partsA
 rw [List.map_map,List.map_map]
 refine List.map_congr_left fun x _=>?_
 simp [textB,textR]
theorem texts_lookB (rb:List (List ByteArray)) (l:PL):bytesOf ((partsB rb l).map textB)=(lookB rb l).map textR:=by
 unfold bytesOf partsB
 rw [List.map_map,List.map_map]
 refine List.map_congr_left fun x _=>?_
 simp [textB,textR]
theorem restL_ok (ra rb:List (List ByteArray)) (cols:PL) (h1:ra.length≤1024) (h2:rb.length≤1024) (h3:cols.length≤1024):okT3 (restL ra rb cols):=fun c hc=>by
 obtain ⟨k1,k2,-,k4⟩:=(pick_mem2 ra rb cols _ _ c).1 hc
 obtain ⟨⟨a1,a2⟩,-⟩:=(out_mem _ _ _).1 k1
 obtain ⟨⟨b1,b2⟩,-⟩:=(out_mem _ _ _).1 k2
 have:=com_le ra rb cols c.1 c.2.1
 exact ⟨Go.WalkArith.wf_i64 (by omega),Go.WalkArith.wf_i64 (by omega),Go.WalkArith.wf_i64 (by omega)⟩
theorem lookC_ok (ra rb:List (List ByteArray)) (cols:PL) (h1:ra.length≤1024) (h2:rb.length≤1024):okP (lookC ra rb cols):=fun p hp=>by
 obtain ⟨i,k,rfl,h3,h4,-⟩:=look_in hp
 exact ⟨Go.WalkArith.wf_i64 (by dsimp only;omega),Go.WalkArith.wf_i64 (by dsimp only;omega)⟩
theorem inPart_any (xo:Option Addr) (xn xc:Nat) (yo:Option Addr) (yn yc:Nat) (ko:Option Addr) (kn kc:Nat) (m:Int) (w:World) :
 Calls Tryz.prog 43 #[.slice xo xn xc,.slice yo yn yc,.slice ko kn kc,.int .i64 m] w fun e w'=>e=.returned (.func (.func 95) #[] #[.pointer (some ⟨w.heap.size+1+1,0,none⟩),.pointer (some ⟨w.heap.size,0,none⟩),.pointer (some ⟨w.heap.size+1,0,none⟩),.pointer (some ⟨w.heap.size+1+1+1,0,none⟩)]) ∧
  w'=(((w.alloc (.cells #[.slice xo xn xc] 62)).alloc (.cells #[.slice yo yn yc] 62)).alloc (.cells #[.slice ko kn kc] 26)).alloc (.cells #[.int .i64 m] 3):=by
 go_enter Tryz.func43,Tryz.ntmps43
 go_wp2_with fail
 go_ret
 exact ⟨rfl,rfl⟩
theorem rsorted_any (base:Nat) (v:Value) (L R:PL) (w:World) (hl:L.length≤1099511627776) (hp:R.Perm L) (hr:RiseB R) (hO:OwnL w base v L) :
 Calls Tryz.prog 46 #[v,.func (.func 47) #[] #[]] w fun e w'=>e=.returned (.tuple #[])∧OwnL w' base v R∧w.grownBy w' v.ownBlock:=by
 rcases hO.2 with ⟨rfl,h0⟩ | ⟨b,cap,cur,rfl,-⟩
 · have hL:L=[]:=List.eq_nil_of_length_eq_zero h0
   have hR:R=[]:=by subst hL;exact hp.eq_nil
   refine (AnyF.slices_SortFunc_none laysFp none 0 (.func (.func 47) #[] #[]) w).mono ?_
   rintro e w2 ⟨rfl,rfl⟩
   refine ⟨rfl,?_,World.grownBy.refl _ _⟩
   rw [hR,← hL];exact hO
 · refine (rsort_any base b L.length cap L R w hl rfl hp hr hO).mono ?_
   rintro e w2 ⟨rfl,h1,h2⟩
   exact ⟨rfl,h1,h2⟩
theorem boxed_appended2 {W w1:World} {n₀ nR B:Nat} {t e:TypeId} {size:Nat} {v v':Value} {k m:Nat} {xs ys:List Value} {tmp:Obj}
 (hv:Boxed W B t v) (hte:t ≠ e) (hrow:W.ownsRow nR e size v k xs) (hle:n₀≤nR) (hn₀:nR≤W.heap.size) (hB:n₀≤B)
 (hown':w1.ownsRow nR e size v' m ys) (hgrow:(W.alloc tmp).grownBy w1 v.ownBlock) :
 Boxed w1 B t v∧Boxed (w1.setCell ⟨B,0,none⟩ v') B t v'∧(w1.setCell ⟨B,0,none⟩ v').ownsRow nR e size v' m ys∧KeepsOthers W (w1.setCell ⟨B,0,none⟩ v')∧Below n₀ W (w1.setCell ⟨B,0,none⟩ v')∧(∀ b,b < nR→b ≠ B→(w1.setCell ⟨B,0,none⟩ v').heap[b]?=W.heap[b]?):=by
 have hv1:Boxed w1 B t v:=(hv.alloc tmp).kept hgrow (hv.not_row hte hrow)
 have hge:∀ j,v.ownBlock=some j→nR≤j:=fun j ej=>by
  rcases hrow.2 with ⟨rfl,_⟩ | ⟨g,cap,cur,rfl,hb,_,_⟩
  · simp [Value.ownBlock] at ej
  · obtain rfl:g=j:=by simpa [Value.ownBlock] using ej
    exact hb
 refine ⟨hv1,hv1.set v',hown'.kept (grownBy_setCell' w1 B v') (.inr (hv1.not_row hte hown').symm),?_,?_,fun b hb hne=>?_⟩
 · refine ((KeepsOthers.alloc W tmp).trans (KeepsOthers.of_grownBy hgrow fun j o ej hj=>?_)).trans (KeepsOthers.setCell _ _ _)
   rcases (hrow.alloc tmp).2 with ⟨rfl,_⟩ | ⟨g,cap,cur,rfl,_,hgb,_⟩
   · simp [Value.ownBlock] at ej
   · obtain rfl:g=j:=by simpa [Value.ownBlock] using ej
     rw [hgb] at hj;cases hj;rfl
 · refine (((Below.refl n₀ W).alloc (Nat.le_trans hle hn₀) tmp).grown hgrow (by simp;omega) fun j ej=>Nat.le_trans hle (hge j ej)).setCell (p:=⟨B,0,none⟩) hB v'
 · rw [heap_setCell_other _ _ _ _ (by show b ≠ B;exact hne),hgrow.block b (by simp;omega) (fun e=>by have:=hge b e.symm;omega),Below.heap_alloc _ _ _ (by omega)]
theorem PairsAt.beside {A B C:World} {ko:Option Addr} {L:PL} (h:PairsAt A ko L) (h0:PairsAt C ko L) (hs:A.heap.size≤B.heap.size) (hk:∀ b,b < C.heap.size→B.heap[b]?=A.heap[b]?):PairsAt B ko L:=by
 rcases h0 with h0 | ⟨b,o,e,hb,-⟩
 · exact .inl h0
 rcases h with h | ⟨b',o',e',hb',h3⟩
 · exact .inl h
 rw [e] at e'
 cases e'
 exact .inr ⟨b,o,e,Nat.lt_of_lt_of_le hb' hs,fun i p hp=>⟨(World.cell?_of_block (a:=⟨b,o+i * 2,none⟩) (hk b hb)).trans (h3 i p hp).1,(World.cell?_of_block (a:=⟨b,o+i * 2+1,none⟩) (hk b hb)).trans (h3 i p hp).2⟩⟩
structure RwI (w:World) (nR X:Nat) (ko:Option Addr) (L:PL) (pre:TL) (A:World):Prop where
 held:∃ v,Boxed A X 68 v∧A.ownsRow nR 73 3 v pre.length (cellsT pre)∧(pre=[]→v=.slice none 0 0)
 below:Below w.heap.size w A
 size:nR≤A.heap.size
 pairs:PairsAt A ko L
theorem RwI.stays {w:World} {nR X:Nat} {ko:Option Addr} {L:PL} {pre:TL} {A B:World} (h:RwI w nR X ko L pre A) (k:Below A.heap.size A B):RwI w nR X ko L pre B:=by
 obtain ⟨v,h1,h2,h3⟩:=h.held
 exact ⟨⟨v,below_kept k h1,ownsRow_below h2 k,h3⟩,below_up h.below k,Nat.le_trans h.size k.size,h.pairs.kept k⟩
theorem RwI.apart {w:World} {nR X:Nat} {ko:Option Addr} {L:PL} {pre:TL} {A:World} {l:Nat} {o:Obj} (o':Obj) (h:RwI w nR X ko L pre A) (hl:w.heap.size≤l) (ho:A.heap[l]?=some o) (hc:o.isCells=false):RwI w nR X ko L pre (A.putObj l o'):=by
 obtain ⟨v,h1,h2,h3⟩:=h.held
 exact ⟨⟨v,heap_put ho hc h1,ownsRow_putObj h2 o' ho hc,h3⟩,below_put o' h.below hl,by have:=h.size;simpa using this,h.pairs.put o' ho hc⟩
theorem by_look_ok:ByLookOK:=by
 intro ho hc ha ro rc ra bo bc hb so sc rb lo lc l w hA0 hB0 hP0 hpow
 obtain ⟨hll,hok,hP,hlc,hln⟩:=hP0
 have hra:=hA0.r25
 have hrb:=hB0.r25
 have hA:=hA0.tab
 have hB:=hB0.tab
 obtain ⟨W,HW⟩:∃ W,Hid (W=(w.alloc (TabO ho ha.length hc ro ra.length rc)).alloc (TabO bo hb.length bc so rb.length sc)):=⟨_,Lib.hid rfl⟩
 have hBW:Below w.heap.size w W:=by rw [HW.out];exact two_below _ _ _
 have HB0:=Lib.hid hBW
 have hN:=two_new w (TabO ho ha.length hc ro ra.length rc) (TabO bo hb.length bc so rb.length sc)
 rw [← HW.out] at hN
 have box:Hid (∀ V,Below W.heap.size W V→(V.cell? ⟨w.heap.size,0,none⟩=some (.slice ho ha.length hc)∧V.cell? ⟨w.heap.size,1,none⟩=some (.slice ro ra.length rc))∧V.cell? ⟨w.heap.size+1,0,none⟩=some (.slice bo hb.length bc)∧V.cell? ⟨w.heap.size+1,1,none⟩=some (.slice so rb.length sc)):=Lib.hid (fun V hV=>⟨tabs ((hV.block _ (lt_of_heap hN.2.1)).trans hN.2.1),tabs ((hV.block _ (lt_of_heap hN.2.2)).trans hN.2.2)⟩)
 have C1:=Lib.hid (pcheck_any lo lc l (ha.length:Int) (hb.length:Int) W (by omega) hok (hP.kept hBW))
 have HU0:Hid (l.length=0→byLookU ha ra hb rb l=[]):=Lib.hid (fun h=>if_pos (.inl h))
 have HU1:Hid (checkP l ha.length hb.length ≠ 0→byLookU ha ra hb rb l=[]):=Lib.hid (fun h=>if_pos (.inr h))
 have HU2:Hid (l.length ≠ 0→checkP l ha.length hb.length=0→byLookU ha ra hb rb l=byLookL ra rb l):=Lib.hid (fun h k=>by
  unfold byLookU
  rw [if_neg (by rintro (h1 | h1);exact h h1;exact h1 k)])
 obtain ⟨R,HR0⟩:∃ R,Hid (R=byLookU ha ra hb rb l):=⟨_,Lib.hid rfl⟩
 rw [← HR0.out] at HU0 HU1 HU2
 rw [← HR0.out]
 obtain ⟨a,b⟩:=box.out W (Below.refl _ _)
 obtain ⟨a0,a1⟩:=a
 obtain ⟨b0,b1⟩:=b
 clear hN hpow hA0 hB0 HR0
 by_cases hl0:l.length=0
 · have HE:Hid (PairsOut R w (.returned (.slice none 0 0)) W):=Lib.hid (by rw [HU0.out hl0];exact ⟨none,0,rfl,.inl rfl,fun _=>rfl,Nat.le_refl _,HB0.out⟩)
   have hlb:((l.length:Int) == 0)=true:=by rw [hl0];rfl
   clear HU0 HU1 HU2 C1 hP hBW hA hB hok
   refine (callsIn_wide (n:=5)).1 ?_
   refine callsIn_of_wp_marks Tryz.func16 rfl trivial ?_ rfl
   simp only [Tryz.ntmps16,List.size_toArray,List.length_cons,List.length_nil,Nat.reduceAdd,Nat.reduceSub,Array.replicate_succ,Array.replicate_zero,List.push_toArray,List.append_toArray,List.nil_append,List.cons_append]
   gi_upto_region 1 with fail
   rw [show (w.alloc (Obj.cells #[Value.slice ho ha.length hc,Value.slice ro ra.length rc] 25)).alloc (Obj.cells #[Value.slice bo hb.length bc,Value.slice so rb.length sc] 25)=W from HW.out.symm]
   gi_wp2_with fail
   refine ⟨by first | trivial | exact fun f h=>(by cases h),?_⟩
   gi_wp2_with fail
   first | go_ret | go_end0 | skip
   refine ⟨_,results_tmp rfl _ _ _,?_⟩
   exact HE.out
 have hlb:((l.length:Int) == 0)=false:=by rw [beq_eq_false_iff_ne];omega
 obtain ⟨E,hE⟩:∃ E,E=checkP l ha.length hb.length:=⟨_,rfl⟩
 rw [← hE] at C1 HU1 HU2
 by_cases hE0:E=0
 · have HR1:=Lib.hid (HU2.out hl0 hE0)
   have hm:=(may_be l ha.length hb.length).1 (by rw [← hE];exact hE0)
   subst hE0
   have hn1:=hm.fst
   have hn2:=hm.snd
   clear HU0 HU1 HU2 hE hm
   have CL:=Lib.hid (fun V (h:Below W.heap.size W V)=>looks_any ho hc ha ro rc ra bo bc hb so sc rb lo lc l V ((hA.kept hBW).kept h) ((hB.kept hBW).kept h) ((hP.kept hBW).kept h) hok (by omega) hn1 hn2)
   have hOA:=okPs_A ra l (by omega) hA.cells
   have hOB:=okPs_B rb l (by omega) hB.cells
   have T1:=Lib.hid (fun xo V (h:LookAt V xo (partsA ra l))=>by
    have:=texts_any xo ra.length (partsA ra l) V hOA h (by rw [partsA_len];omega)
    rw [partsA_len] at this;exact this)
   have T2:=Lib.hid (fun xo V (h:LookAt V xo (partsB rb l))=>by
    have:=texts_any xo rb.length (partsB rb l) V hOB h (by rw [partsB_len];omega)
    rw [partsB_len] at this;exact this)
   obtain ⟨TA,HTA⟩:∃ TA,Hid (TA=(partsA ra l).map textB):=⟨_,Lib.hid rfl⟩
   obtain ⟨TB,HTB⟩:∃ TB,Hid (TB=(partsB rb l).map textB):=⟨_,Lib.hid rfl⟩
   rw [← HTA.out] at T1
   rw [← HTB.out] at T2
   have HTAl:Hid (TA.length=ra.length):=Lib.hid (by rw [HTA.out,List.length_map,partsA_len])
   have HTBl:Hid (TB.length=rb.length):=Lib.hid (by rw [HTB.out,List.length_map,partsB_len])
   obtain ⟨L,HL⟩:∃ L,Hid (L=lookC ra rb l):=⟨_,Lib.hid rfl⟩
   have hway:wayC 0 0 (bytesOf TA) (bytesOf TB)=L:=by rw [HTA.out,HTB.out,texts_lookA,texts_lookB,HL.out];exact look_text ra rb l
   have D3:=Lib.hid (fun ao bo V (h1:StrRow V ao TA) (h2:StrRow V bo TB)=>by
    have:=lcPairs_any ao bo ra.length rb.length TA TB V (by rw [HTAl.out];omega) (by rw [HTBl.out];omega) (fun c hc=>by
     rw [HTA.out] at hc
     obtain ⟨ps,h3,rfl⟩:=List.mem_map.1 hc
     exact textB_le ps (hOA ps h3).1 (hOA ps h3).2) (fun c hc=>by
     rw [HTB.out] at hc
     obtain ⟨ps,h3,rfl⟩:=List.mem_map.1 hc
     exact textB_le ps (hOB ps h3).1 (hOB ps h3).2) h1 h2
    rw [HTAl.out,HTBl.out,hway] at this
    exact this)
   have HLl:Hid (L.length≤1024):=Lib.hid (by rw [HL.out];have:=lookC_le ra rb l;omega)
   have HLo:Hid (okP L):=Lib.hid (by rw [HL.out];exact lookC_ok ra rb l (by omega) (by omega))
   obtain ⟨CH,HCH⟩:∃ CH,Hid (CH=pickAll ra rb l (outOf (L.map Prod.fst) ra.length) (outOf (L.map Prod.snd) rb.length)):=⟨_,Lib.hid rfl⟩
   have HCR:Hid (CH=restL ra rb l):=Lib.hid (by rw [HCH.out,HL.out];rfl)
   have HCl:Hid (CH.length≤1048576):=Lib.hid (by rw [HCR.out];exact restL_le ra rb l (by omega) (by omega))
   have HCo:Hid (okT3 CH):=Lib.hid (by rw [HCR.out];exact restL_ok ra rb l (by omega) (by omega) (by omega))
   have HMl:Hid ((pickL CH).length≤1048576):=Lib.hid (Nat.le_trans (pick_len _) HCl.out)
   have HPm:Hid (R.Perm (L ++ pickL CH)):=Lib.hid (by rw [HR1.out,HL.out,HCR.out];exact puts_perm _ _)
   have HRs:Hid (RiseB R):=Lib.hid (by rw [HR1.out];exact byLook_rise ra rb l)
   have hinfo:(Tryz.prog.info? 73).map (fun i=>(i.zero,i.size,i.bytes))=some (some (.agg #[.int .i64 0,.int .i64 0,.int .i64 0]),3,24):=by kernel_rfl
   obtain ⟨i0,hi,hz0,hz1,hz2⟩:=info_parts3 hinfo
   have HIN:=Lib.hid hi
   have HHl:=Lib.hid (And.intro hra (And.intro hrb hll))
   clear hi hinfo hP hA hB hok hBW hn1 hn2 hOA hOB hway HR1
   refine (callsIn_wide (n:=5)).1 ?_
   refine callsIn_of_wp_marks Tryz.func16 rfl trivial ?_ rfl
   simp only [Tryz.ntmps16,List.size_toArray,List.length_cons,List.length_nil,Nat.reduceAdd,Nat.reduceSub,Array.replicate_succ,Array.replicate_zero,List.push_toArray,List.append_toArray,List.nil_append,List.cons_append]
   gi_upto_region 1 with fail
   rw [show (w.alloc (Obj.cells #[Value.slice ho ha.length hc,Value.slice ro ra.length rc] 25)).alloc (Obj.cells #[Value.slice bo hb.length bc,Value.slice so rb.length sc] 25)=W from HW.out.symm]
   gi_wp2_with fail
   refine ⟨?_,(callsIn_wide.2 C1.out).mono ?_⟩
   · first | trivial | (intro h;cases h) | skip
   rintro e w1 ⟨rfl,g1⟩
   have HBa:=Lib.hid g1
   have L1:=Lib.hid (CL.out w1 g1)
   clear g1 a0 a1 b0 b1 C1 CL
   obtain ⟨⟨a0,a1⟩,b0,b1⟩:=box.out w1 HBa.out
   gi_wp2_with fail
   refine ⟨trivial,(callsIn_wide.2 L1.out).mono ?_⟩
   rintro e w2 ⟨xo,yo,rfl,hx,hy,hxb,hyb,g2⟩
   have HBb:=Lib.hid (below_up HBa.out g2)
   have HX:=Lib.hid hx
   have HY:=Lib.hid hy
   have HXY:=Lib.hid (And.intro hxb hyb)
   have T1':=Lib.hid (T1.out xo w2 hx)
   clear g2 hx hy hxb hyb a0 a1 b0 b1 L1 T1 box
   gi_wp2_with fail
   refine ⟨trivial,(callsIn_wide.2 T1'.out).mono ?_⟩
   rintro e w3 ⟨s1,rfl,h1,g3⟩
   have HS1:=Lib.hid h1
   have HBc:=Lib.hid (below_up HBb.out g3)
   have HX3:=Lib.hid (HX.out.kept g3)
   have HY3:=Lib.hid (HY.out.kept g3)
   have T2':=Lib.hid (T2.out yo w3 HY3.out)
   have HZ3:=Lib.hid g3.size
   clear h1 g3 T1' T2 HX HY
   gi_wp2_with fail
   refine ⟨trivial,(callsIn_wide.2 T2'.out).mono ?_⟩
   rintro e w4 ⟨s2,rfl,h2,g4⟩
   have HBd:=Lib.hid (below_up HBc.out g4)
   have HX4:=Lib.hid (HX3.out.kept g4)
   have HY4:=Lib.hid (HY3.out.kept g4)
   have D3':=Lib.hid (D3.out s1 s2 w4 (HS1.out.kept g4) h2)
   have HZ4:=Lib.hid (Nat.le_trans HZ3.out g4.size)
   clear h2 g4 T2' D3 HX3 HY3 HS1
   gi_wp2_with fail
   refine ⟨trivial,(callsIn_wide.2 D3'.out).mono ?_⟩
   rintro e w5 ⟨ko,kc,rfl,hk,k1,k2,g5⟩
   have HBe:=Lib.hid (below_up HBd.out g5)
   obtain ⟨V3,HV3⟩:∃ V3,Hid (V3=w5.alloc (.cells #[.slice none 0 0] 68)):=⟨_,Lib.hid rfl⟩
   have g6:Below w5.heap.size w5 V3:=by rw [HV3.out];exact one_below _ _
   have hXb:V3.heap[w5.heap.size]?=some (.cells #[.slice none 0 0] 68 (0,0)):=by rw [HV3.out];exact World.alloc_heap_new _ _
   have HX5:=Lib.hid ((HX4.out.kept g5).kept g6)
   have HY5:=Lib.hid ((HY4.out.kept g5).kept g6)
   have HK5:=Lib.hid (hk.kept g6)
   have HKc:=Lib.hid (And.intro k1 k2)
   have HKw:=Lib.hid hk
   have HBf:=Lib.hid (below_up HB0.out (below_up HBe.out g6))
   have HI3:Hid (∀ nR B,nR≤B.heap.size→Below V3.heap.size V3 B→RwI w nR w5.heap.size ko L [] B):=Lib.hid (fun nR B hs k=>⟨⟨_,below_kept k hXb,World.ownsRow_nil _ _ _ _,fun _=>rfl⟩,below_up HBf.out k,hs,HK5.out.kept k⟩)
   have HXs:Hid (w5.heap.size < V3.heap.size∧w.heap.size≤w5.heap.size∧w2.heap.size≤w5.heap.size):=Lib.hid ⟨lt_of_heap hXb,Nat.le_trans HB0.out.size HBe.out.size,Nat.le_trans HZ4.out g5.size⟩
   have CC:=Lib.hid (inPart_any xo ra.length ra.length yo rb.length rb.length ko L.length kc (l.length:Int) V3)
   clear hk k1 k2 g5 g6 hXb D3' HX4 HY4 HBa HBb HBc HBd HBe
   gi_upto_region 6 with fail
   rw [← HV3.out]
   gi_wp2_with fail
   refine ⟨trivial,(callsIn_wide.2 CC.out).mono ?_⟩
   rintro e U ⟨rfl,hU⟩
   have m4:=Below.heap_alloc
   have b2:Below V3.heap.size V3 U:=by rw [hU];exact ((two_below _ _ _).alloc (two_below _ _ _).size _).alloc (by simp;omega) _
   have y1:U.heap[V3.heap.size]?=some (.cells #[.slice xo ra.length ra.length] 62 (0,0)):=by rw [hU,Below.heap_alloc _ _ _ (by simp <;> omega),Below.heap_alloc _ _ _ (by simp <;> omega),Below.heap_alloc _ _ _ (by simp)];exact World.alloc_heap_new _ _
   have y2:U.heap[V3.heap.size+1]?=some (.cells #[.slice yo rb.length rb.length] 62 (0,0)):=by
    rw [hU,Below.heap_alloc _ _ _ (by simp <;> omega),Below.heap_alloc _ _ _ (by simp)]
    have:=World.alloc_heap_new (V3.alloc (.cells #[.slice xo ra.length ra.length] 62)) (.cells #[.slice yo rb.length rb.length] 62)
    simpa using this
   have y3:U.heap[V3.heap.size+1+1]?=some (.cells #[.slice ko L.length kc] 26 (0,0)):=by
    rw [hU,Below.heap_alloc _ _ _ (by simp)]
    have:=World.alloc_heap_new ((V3.alloc (.cells #[.slice xo ra.length ra.length] 62)).alloc (.cells #[.slice yo rb.length rb.length] 62)) (.cells #[.slice ko L.length kc] 26)
    simpa using this
   have y4:U.heap[V3.heap.size+1+1+1]?=some (.cells #[.int .i64 (l.length:Int)] 3 (0,0)):=by
    rw [hU]
    have:=World.alloc_heap_new (((V3.alloc (.cells #[.slice xo ra.length ra.length] 62)).alloc (.cells #[.slice yo rb.length rb.length] 62)).alloc (.cells #[.slice ko L.length kc] 26)) (.cells #[.int .i64 (l.length:Int)] 3)
    simpa using this
   have hxs:=HXs.out
   have TLs:=Lib.hid (inPart1_tells 4 w5.heap.size (V3.heap.size+1+1) V3.heap.size (V3.heap.size+1) (V3.heap.size+1+1+1) ra rb l L ko kc xo ra.length yo rb.length U (by have:=HHl.out;omega) (by have:=HHl.out;omega) (by have:=HHl.out;omega) (HX5.out.kept b2) (HY5.out.kept b2) (HK5.out.kept b2) HLo.out HLl.out y3 y1 y2 y4 (Nat.lt_of_lt_of_le hxs.1 b2.size) (by omega) (by omega) (by omega) (by omega) (fun P e h=>by have:=HXY.out.1 P e;omega) (fun P e h=>by have:=HXY.out.2 P e;omega))
   have H0:=Lib.hid (HI3.out U.heap.size U (Nat.le_refl _) b2)
   have HXU:Hid (w.heap.size≤w5.heap.size∧w5.heap.size < U.heap.size):=Lib.hid ⟨hxs.2.1,Nat.lt_of_lt_of_le hxs.1 b2.size⟩
   rw [← HCH.out] at TLs
   have HKU:=Lib.hid (HK5.out.kept b2)
   clear hU b2 y1 y2 y3 y4 CC HI3 HXs HX5 HY5 HK5 hxs m4
   gi_wp2_with fail
   refine wpIn_range_tells rfl (by decide) (gf:=95) (lb:=#[.pointer (some ⟨V3.heap.size+1+1,0,none⟩),.pointer (some ⟨V3.heap.size,0,none⟩),.pointer (some ⟨V3.heap.size+1,0,none⟩),.pointer (some ⟨V3.heap.size+1+1+1,0,none⟩)]) rfl trivial (enters_of Tryz.func95 (by kernel_rfl) rfl)
    TLs.out (Below.refl _ _) (fun _=>rfl) KeepsY.trans (fun A lp o o' hl ho hc=>KeepsY.put o' (by have:=HXU.out;omega) ho hc)
    (fun {A B} hA hAB=>KeepsY.of_below (by have:=HXU.out;omega) hAB)
    (fun pre A=>RwI w U.heap.size w5.heap.size ko L pre A) (fun _ _=>False) (fun pre A B h k=>h.stays k) (fun pre A B h k=>h)
    (fun pre A lp o o' h hl ho hc=>h.apart o' (by have:=HXU.out;omega) ho hc) (fun pre A lp o o' h hl ho hc=>h) (fun pre A h e=>by
     subst e
     obtain ⟨v,h1,h2,h3⟩:=h.held
     rw [h3 rfl] at h1;exact h1)
    (fun pre x A B h k=>h) (fun pre x A lp o o' h hl ho hc=>h) H0.out
    (fun x a' A=>∃ b,a'={ tmps:=#[.agg #[.slice ho ha.length hc,.slice ro ra.length rc],.agg #[.slice bo hb.length bc,.slice so rb.length sc],.slice lo l.length lc,.pointer (some ⟨w.heap.size,0,none⟩),.pointer (some ⟨w.heap.size+1,0,none⟩),undef,.slice none 0 0,.slice xo ra.length ra.length,.slice yo rb.length rb.length,.slice ko L.length kc,.pointer (some ⟨w5.heap.size,0,none⟩),.pointer (some ⟨b,0,none⟩),.int .i64 x.2.2,undef,.slice lo l.length lc,.int .i64 (l.length:Int),.bool false,.bool false,.slice lo l.length lc,.pointer (some ⟨w.heap.size,0,none⟩),.slice ho ha.length hc,.int .i64 (ha.length:Int),.pointer (some ⟨w.heap.size+1,0,none⟩),.slice bo hb.length bc,.int .i64 (hb.length:Int),.int .i64 0,.bool false,.bool false,.tuple #[.slice xo ra.length ra.length,.slice yo rb.length rb.length],.agg #[.slice ho ha.length hc,.slice ro ra.length rc],.agg #[.slice bo hb.length bc,.slice so rb.length sc],.slice lo l.length lc,.tuple #[.slice xo ra.length ra.length,.slice yo rb.length rb.length],.slice xo ra.length ra.length,.slice yo rb.length rb.length,.slice xo ra.length ra.length,.int .i64 (ra.length:Int),.slice xo ra.length ra.length,.func (.func 42) #[.slice xo ra.length ra.length] #[],.slice s1 ra.length ra.length,.slice yo rb.length rb.length,.int .i64 (rb.length:Int),.slice yo rb.length rb.length,.func (.func 42) #[.slice yo rb.length rb.length] #[],.slice s2 rb.length rb.length,.slice ko L.length kc,.slice xo ra.length ra.length,.slice yo rb.length rb.length,.slice ko L.length kc,.slice lo l.length lc,.int .i64 (l.length:Int),.func (.func 95) #[] #[.pointer (some ⟨V3.heap.size+1+1,0,none⟩),.pointer (some ⟨V3.heap.size,0,none⟩),.pointer (some ⟨V3.heap.size+1,0,none⟩),.pointer (some ⟨V3.heap.size+1+1+1,0,none⟩)],.agg #[.int .i64 x.1,.int .i64 x.2.1],.int .i64 x.2.2,undef,undef,undef,undef,undef,undef,undef,undef,undef,undef,undef,undef,undef,undef,undef,undef,undef],defers:=[] }∧A.heap[b]?=some (.cells #[.int .i64 x.1,.int .i64 x.2.1] 45 (0,0)))
    (fun x a' A lp o o' h hl ho hc=>by obtain ⟨b,h1,h2⟩:=h;exact ⟨b,h1,heap_put ho hc h2⟩) ?assign ?body ?done ?stop
   case assign =>
    rintro lp ⟨p,q,s⟩ A K hA hK
    dsimp only [encS3] at hK ⊢
    gi_wp2_with fail
    exact hK _ _ (one_below A _) ⟨A.heap.size,rfl,World.alloc_heap_new _ _⟩
   case body =>
    rintro lp pre ⟨p,q,s⟩ a' A hA hI hok ⟨b,rfl,hbx⟩
    dsimp only at hbx ⊢
    have hpl:pre.length≤1048576:=by
     have h2:=hok.length_le
     have h3:=HCl.out
     rw [List.length_append] at h2
     omega
    have z0:A.cell? ⟨b,0,none⟩=some (.int .i64 p):=(Lib.cell_of_heap hbx 0).trans rfl
    have z1:A.cell? ⟨b,1,none⟩=some (.int .i64 q):=(Lib.cell_of_heap hbx 1).trans rfl
    obtain ⟨v,hv,ho,hn⟩:=hI.held
    obtain ⟨vo,vc,rfl⟩:=own_slice ho
    obtain ⟨fn,hfn⟩:∃ fn,fn=pre.length:=⟨_,rfl⟩
    rw [← hfn] at ho hpl
    have HFn:=Lib.hid hfn
    have HO:=Lib.hid ho
    rw [← hfn] at hv
    have HVv:=Lib.hid hv
    have HOA:Hid ((A.alloc (.cells #[.int .i64 p,.int .i64 q,.int .i64 s] 73)).ownsRow U.heap.size 73 3 (.slice vo fn vc) fn (cellsT pre)):=Lib.hid (ho.alloc _)
    have cl:=hv.cell
    have hws:U.heap.size≤A.heap.size:=hI.size
    have HIb:=Lib.hid hI.below
    have HIp:=Lib.hid hI.pairs
    clear ho hv hn hbx hfn hI hok
    gi_wp2_with (gi_at_builtin;refine wpListIn_append_lies _ rfl _ _ 68 rfl U.heap.size 73 i0 (.agg #[.int .i64 0,.int .i64 0,.int .i64 0]) 3 24 Tryz.underlying68 HIN.out hz0 hz1 hz2 rfl (by decide) _ _ _ rfl HOA.out ⟨A.heap.size,0,none⟩ 1 1 [.int .i64 p,.int .i64 q,.int .i64 s] rfl rfl ?c1 ?c2 (by decide) ?c3 ?c4 ?c5 (A.heap.size+1) (by simp) ?_)
    case c1=>exact lit_cell3 A _ _ _ 73
    case c2=>intro u hu;simp at hu;rcases hu with rfl | rfl | rfl <;> rfl
    case c3=>unfold maxLen;omega
    case c4=>omega
    case c5=>simp;omega
    intro g cap w3 hown' hgrow hl
    obtain ⟨q1,q2,q3,q4,q5,q8⟩:=boxed_appended2 (n₀:=w.heap.size) (nR:=U.heap.size) (size:=3) HVv.out (by decide) HO.out (by have:=HXU.out;omega) hws HXU.out.1 hown' hgrow
    have q6:=KeepsY.append HVv.out hgrow hl q2
    have k1:=q1.cell
    have k2:=q1.frozen
    have Q:Hid (KeepsOthers A (w3.setCell ⟨w5.heap.size,0,none⟩ (.slice (some ⟨g,0,none⟩) (fn+1) cap))∧KeepsY w5.heap.size A (w3.setCell ⟨w5.heap.size,0,none⟩ (.slice (some ⟨g,0,none⟩) (fn+1) cap))∧RwI w U.heap.size w5.heap.size ko L (pre ++ [(p,q,s)]) (w3.setCell ⟨w5.heap.size,0,none⟩ (.slice (some ⟨g,0,none⟩) (fn+1) cap))) :=
     Lib.hid ⟨q4,q6,⟨⟨_,q2,by rw [List.length_append,cellsT_app,← HFn.out];exact q3,fun e=>by simp at e⟩,HIb.out.trans q5,Nat.le_trans hws q6.size,HIp.out.beside HKw.out q6.size (fun b hb=>q8 b (by have:=HXU.out;omega) (by omega))⟩⟩
    clear hown' hgrow q1 q2 q3 q4 q5 q6 q8 HIb HIp HVv HO HOA HFn
    gi_wp2_with fail
    exact Q.out
   case done =>
    rintro D xs A hD hS hI hK
    subst hS
    obtain ⟨v,hv,ho,-⟩:=hI.held
    have c0:=hv.cell
    obtain ⟨xo2,xc2,rfl,ht,-,-⟩:=OwnTL.tripAt (w:=A) (l:=xs) ho
    have C5:=Lib.hid (pick_any xo2 xc2 xs A (by have:=HCl.out;omega) HCo.out ht)
    have HBA:=Lib.hid hI.below
    have HKd:=Lib.hid hK
    have HDw:Hid (w.heap.size≤D):=Lib.hid (by have:=HXU.out;omega)
    have HPA:=Lib.hid hI.pairs
    clear hI hv ho ht hK
    gi_wp2_with fail
    refine ⟨trivial,(callsIn_wide.2 C5.out).mono ?_⟩
    rintro e A5 ⟨mo,mc,rfl,hm,k1,k2,b5⟩
    have hK5:=below_kept b5 HKd.out
    have b6:=one_below A5 (.cells #[.slice ko L.length kc,.slice mo (pickL xs).length mc] 26)
    have C6:=Lib.hid (concatP2 ko mo kc mc L (pickL xs) (A5.alloc (.cells #[.slice ko L.length kc,.slice mo (pickL xs).length mc] 26)) (by have:=HLl.out;have:=HMl.out;omega) ((HPA.out.kept b5).kept b6) (hm.kept b6) HKc.out.1 k1 HKc.out.2 k2 A5.heap.size (World.alloc_heap_new _ _))
    have HB6:=Lib.hid (below_up (below_up HBA.out b5) b6)
    have HK6:=Lib.hid ((b6.block D (lt_of_heap hK5)).trans hK5)
    have HPl:Hid ((L ++ pickL xs).length≤1099511627776):=Lib.hid (by rw [List.length_append];have:=HLl.out;have:=HMl.out;omega)
    clear hm k1 k2 b5 b6 hK5 C5 c0 HPA HKd HBA
    generalize pickL xs=M at C6 HPm HMl HPl HB6 HK6
    gi_wp2_with fail
    refine ⟨trivial,(callsIn_wide.2 C6.out).mono ?_⟩
    rintro e w7 ⟨v,rfl,hO,b7⟩
    have HB7:=Lib.hid (below_up HB6.out b7)
    have HK7:=Lib.hid (below_kept b7 HK6.out)
    have C7:=Lib.hid (rsorted_any _ v (L ++ M) R w7 HPl.out HPm.out HRs.out hO)
    have HO7:=Lib.hid hO
    have HS7:=Lib.hid (HB6.out.size)
    clear b7 hO C6 HK6
    gi_wp2_with fail
    refine ⟨trivial,(callsIn_wide.2 C7.out).mono ?_⟩
    rintro e w8 ⟨rfl,hO8,hg⟩
    have HE:Hid (PairsOut R w (.returned v) (w8.putObj D (.deferred none))∧w8.heap[D]?=some (.deferred (some []))):=Lib.hid (by
     have hne:some D ≠ v.ownBlock:=fun e=>by
      rcases HO7.out.2 with ⟨rfl,_⟩ | ⟨g,cap,cur,rfl,_,hgb,_⟩
      · cases e
      · simp [Value.ownBlock] at e
        subst e
        have:=HK7.out
        rw [hgb] at this;cases this
     have hK8:w8.heap[D]?=some (.deferred (some [])):=(hg.block D (lt_of_heap HK7.out) (fun e=>hne e)).trans HK7.out
     have hB8:Below w.heap.size w w8:=HB7.out.grown hg HB7.out.size (fun j hj=>Nat.le_trans HS7.out (HO7.out.lt j hj).1)
     obtain ⟨ao,cap,rfl,p1,p2,p3⟩:=hO8.pairsAt
     exact ⟨⟨ao,cap,rfl,p1.put _ hK8 rfl,p2,p3,below_put (.deferred none) hB8 HDw.out⟩,hK8⟩)
    clear hO8 hg C7 HO7 HK7 HB7
    gi_wp2_with fail
    refine ⟨by simp,.inl ⟨_,_,rfl,run_takeDeferred HE.out.2,?_⟩⟩
    refine ⟨_,results_tmp rfl _ _ _,?_⟩
    exact HE.out.1
   case stop =>
    rintro D pre A _ _ h _
    exact h.elim
 · have hEb:(E != 0)=true:=by simp [hE0]
   have HE:Hid (∀ V,Below W.heap.size W V→PairsOut R w (.returned (.slice none 0 0)) V):=Lib.hid (fun V h=>by rw [HU1.out hE0];exact ⟨none,0,rfl,.inl rfl,fun _=>rfl,Nat.le_refl _,below_up HB0.out h⟩)
   clear HU0 HU1 HU2 hP hE hA hB hok hBW
   refine (callsIn_wide (n:=5)).1 ?_
   refine callsIn_of_wp_marks Tryz.func16 rfl trivial ?_ rfl
   simp only [Tryz.ntmps16,List.size_toArray,List.length_cons,List.length_nil,Nat.reduceAdd,Nat.reduceSub,Array.replicate_succ,Array.replicate_zero,List.push_toArray,List.append_toArray,List.nil_append,List.cons_append]
   gi_upto_region 1 with fail
   rw [show (w.alloc (Obj.cells #[Value.slice ho ha.length hc,Value.slice ro ra.length rc] 25)).alloc (Obj.cells #[Value.slice bo hb.length bc,Value.slice so rb.length sc] 25)=W from HW.out.symm]
   gi_wp2_with fail
   refine ⟨?_,(callsIn_wide.2 C1.out).mono ?_⟩
   · first | trivial | (intro h;cases h) | skip
   rintro e w1 ⟨rfl,g1⟩
   have HE2:=Lib.hid (HE.out w1 g1)
   clear HE C1 g1
   gi_wp2_with fail
   first | go_ret | go_end0 | skip
   refine ⟨_,results_tmp rfl _ _ _,?_⟩
   exact HE2.out
end
end Go.Proofs.YtdenehnneloegaaGreatDoor
