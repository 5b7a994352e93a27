/-
  Texts of these rows' proofs, laid one behind the other: KRef2, KMath2, KRef3, KRef4.
  Conditions: those of each theorem.
-/
import Derived.Deep.OwnRows
import Derived.Deep.RegionHeld3
import Derived.WalkKit
import Derived.WalkMore
import Derived.IntWalk
import Derived.WalkArith
import Derived.OwnWalk
import Derived.Lib.Hide
import Derived.Test.YtdenehnneloegaaGreatDoorProg
import Derived.Test.YtdenehnneloegaaGreatDoorPa19
namespace Go.Proofs.YtdenehnneloegaaGreatDoor
set_option linter.unusedVariables false
set_option maxRecDepth 100000
set_option maxHeartbeats 8000000
section
open Go.RowKit Go.Shelf Go.Deep
def PlacesR (hd names:List ByteArray) (w:World) (e:Ending) (w':World):Prop :=
 (inAll hd names=true∧∃ (ao:Option Addr) (cap:Nat),e=.returned (.tuple #[.slice ao names.length cap,.bool true])∧IntsAt w' ao (names.map (findL hd))∧Below w.heap.size w w') ∨
 (inAll hd names=false∧e=.returned (.tuple #[.slice none 0 0,.bool false])∧Below w.heap.size w w')
theorem rplaces_any (ho:Option Addr) (hc:Nat) (hd:List ByteArray) (ro:Option Addr) (rn rc:Nat) (no:Option Addr) (nc:Nat) (names:List ByteArray) (w:World) (hn:hd.length≤1099511627776) (hn2:names.length≤1099511627776) (hH:StrRow w ho hd) (hR:StrRow w no names) :
 Calls Tryz.prog 36 #[.agg #[.slice ho hd.length hc,.slice ro rn rc],.slice no names.length nc] w (PlacesR hd names w):=by
 obtain ⟨W,HW⟩:∃ W,Hid (W=w.alloc (TabO ho hd.length hc ro rn rc)):=⟨_,Lib.hid rfl⟩
 have hB:Below w.heap.size w W:=by rw [HW.out];exact one_below _ _
 have HB0:=Lib.hid hB
 have hN:W.heap[w.heap.size]?=some (TabO ho hd.length hc ro rn rc):=by rw [HW.out];exact World.alloc_heap_new w _
 have box:Hid (∀ V,Below W.heap.size W V→V.cell? ⟨w.heap.size,0,none⟩=some (.slice ho hd.length hc)∧V.cell? ⟨w.heap.size,1,none⟩=some (.slice ro rn rc)):=Lib.hid (fun V hV=>tabs ((hV.block _ (lt_of_heap hN)).trans hN))
 have HRo:=Lib.hid (hR.kept hB)
 have CF:=Lib.hid (fun V (x:ByteArray) (h:Below W.heap.size W V)=>rfind_any ho hc hd ro rn rc x V hn (hH.kept (below_up hB h)))
 have HK:Hid (∀ (k:Nat) x,names[k]?=some x→((names.map (findL hd)).map (Value.int .i64)).take k ++ [Value.int .i64 (findL hd x)]=((names.map (findL hd)).map (Value.int .i64)).take (k+1)):=Lib.hid (fun k c hk=>by
  rw [List.take_add_one (i:=k),List.getElem?_map,List.getElem?_map,hk];rfl)
 have HYes:Hid ((∀ (i:Nat) c,i < names.length→names[i]?=some c→0≤findL hd c)→inAll hd names=true):=Lib.hid (fun h=>by
  unfold inAll
  rw [List.all_eq_true]
  intro c hc
  obtain ⟨i,hi,rfl⟩:=List.mem_iff_getElem.1 hc
  exact decide_eq_true (h i _ hi (List.getElem?_eq_getElem hi)))
 have HNo:Hid (∀ (i:Nat) c,names[i]?=some c→findL hd c < 0→inAll hd names=false):=Lib.hid (fun i c hi h=>by
  unfold inAll
  rw [List.all_eq_false]
  exact ⟨c,List.mem_of_getElem? hi,by simp;omega⟩)
 obtain ⟨F,hF⟩:∃ F,F=names.map (findL hd):=⟨_,rfl⟩
 have HF:=Lib.hid hF
 have HFl:Hid (F.length=names.length):=Lib.hid (by rw [hF];simp)
 rw [← hF] at HK
 have hinfo:(Tryz.prog.info? 3).map (fun i=>(i.zero,i.size,i.bytes))=some (some (.int .i64 0),1,8):=by kernel_rfl
 obtain ⟨i0,hi,hz0,hz1,hz2⟩:=infoK_parts2 hinfo
 have HIn:=Lib.hid hi
 clear hi hinfo hR hB hN hH hF
 go_enter Tryz.func36,Tryz.ntmps36
 go_wp2_with fail
 rw [show w.alloc (Obj.cells #[Value.slice ho hd.length hc,Value.slice ro rn rc] 25)=W from HW.out.symm]
 go_loopw [6,7] (fun v i wr=>∃ (k cap:Nat) (ao:Option Addr),k≤names.length∧v=.slice ao k cap∧i=.int .i64 k∧Hid (Below W.heap.size W wr)∧Hid (wr.ownsRow W.heap.size 3 1 (.slice ao k cap) k ((F.map (Value.int .i64)).take k))∧Hid (∀ (i:Nat) c,i < k→names[i]?=some c→0≤findL hd c)) (fun _ i _=>names.length - (intOf i).toNat)
 case atStart=>exact ⟨0,0,none,Nat.zero_le _,rfl,rfl,Lib.hid (Below.refl _ _),Lib.hid (World.ownsRow_nil _ _ _ _),Lib.hid (fun i c h=>by omega)⟩
 case round =>
  obtain ⟨k,cap,ao,hk,rfl,rfl,HB,HO,HA⟩:=hrel
  by_cases hlt:k < names.length
  · obtain ⟨x,hx⟩:∃ x,names[k]?=some x:=⟨_,List.getElem?_eq_getElem hlt⟩
    obtain ⟨c0,c1⟩:=box.out wr HB.out
    rcases HRo.out with h0 | ⟨A,rfl,hA,hcell⟩
    · rw [h0] at hlt;simp at hlt
    have HX:=Lib.hid hx
    have ca:=(HB.out.cell (p:=A.add k) (by rw [add_block];exact hA)).trans (hcell k x hx)
    have C2:=Lib.hid (CF.out wr.drew x HB.out.drew)
    have HT:=Lib.hid (HK.out k x hx)
    have HN1:=Lib.hid (HNo.out k x hx)
    have HA1:Hid (0≤findL hd x→∀ (i:Nat) c,i < k+1→names[i]?=some c→0≤findL hd c):=Lib.hid (fun h0 i c hi hc=>by
     by_cases h:i=k
     · subst h;rw [HX.out] at hc;cases hc;exact h0
     · exact HA.out i c (by omega) hc)
    have q1:k+1≤maxLen:=by unfold maxLen;omega
    have q2:(k+1) * 8≤140737488355328:=by omega
    have HRc:=Lib.hid hcell
    clear hcell hx
    generalize findL hd x=y at C2 HT HN1 HA1
    go_upto_region 5 with fail
    go_region_held3 (fun V=>V.cell? ⟨w.heap.size,0,none⟩=some (.slice ho hd.length hc)∧V.cell? ⟨w.heap.size,1,none⟩=some (.slice ro rn rc)∧V.cell? (A.add k)=some (.string x)) ((refine ⟨?_,?_,?_⟩ <;> first | assumption | go_keep))
     (first | (go_at_call 82;refine C2.out.mono ?_;rintro e w2 ⟨rfl,b2⟩;have B2:=Lib.hid (below_up HB.out.drew b2);obtain ⟨c0,c1⟩:=box.out w2 B2.out;have ca:=(B2.out.cell (p:=A.add k) (by rw [add_block];exact hA)).trans ((HRc.out) k x HX.out);have HO2:=Lib.hid (ownsRow_below HO.out.drew b2);clear b2))
    by_cases hy:y < 0
    · have dy:decide (y < 0)=true:=decide_eq_true hy
      have HE:Hid (PlacesR hd names w (.returned (.tuple #[.slice none 0 0,.bool false])) w2):=Lib.hid (.inr ⟨HN1.out hy,rfl,below_up HB0.out B2.out⟩)
      go_wp2_with fail
      refine bodyPost_ret (v:=.tuple #[.slice none 0 0,.bool false]) (by simp [results,Tryz.results36,go_sem]) rfl ?_
      exact HE.out
    · have dy:decide (y < 0)=false:=decide_eq_false hy
      have HA2:=Lib.hid (HA1.out (by omega))
      have HO3:=Lib.hid (HO2.out.alloc (.cells #[.int .i64 y] 3))
      have HB3:Hid (Below W.heap.size W (w2.alloc (.cells #[.int .i64 y] 3))):=Lib.hid (B2.out.alloc B2.out.size _)
      have hws:=HB3.out.size
      go_wp2_with (at_builtin;refine wpList_append_own _ rfl _ _ 41 rfl W.heap.size 3 i0 (.int .i64 0) 1 8 Tryz.underlying41 HIn.out hz0 hz1 hz2 rfl (by decide) _ _ _ rfl HO3.out ⟨w2.heap.size,0,none⟩ 1 1 [Value.int .i64 y] rfl rfl (by intro j u' hj;match j,hj with | 0,hj=>simp at hj;subst hj;exact (cell_row (World.alloc_heap_new w2 _) 0).trans rfl) (by intro u' hu;simp at hu;subst hu;rfl) q1 q2 hws ?_)
      intro v3 w3 ho3 hg3 _
      rw [HT.out] at ho3
      have HB4:=Lib.hid (HB3.out.grown hg3 (by simpa using hws) (fun k hk=>(HO3.out.lt k hk).1))
      obtain ⟨ao3,cap3,rfl⟩:=own_slice ho3
      have HO4:=Lib.hid ho3
      clear ho3 hg3
      go_wp2_with fail
      go_roundw
      case rel=>exact ⟨k+1,cap3,ao3,by omega,rfl,by go_num,HB4,HO4,HA2⟩
      case measure=>simp [intOf];omega
  · have hke:k=names.length:=by omega
    have hkx:(F.map (Value.int .i64)).take k=F.map (Value.int .i64):=List.take_of_length_le (by have:=HFl.out;simp;omega)
    have HE:Hid (PlacesR hd names w (.returned (.tuple #[.slice ao names.length cap,.bool true])) wr):=Lib.hid (.inl ⟨HYes.out (fun i c h1 h2=>HA.out i c (by omega) h2),ao,cap,rfl,by
     rw [← HF.out];exact own_intsI (xs:=F) HO.out hkx,below_up HB0.out HB.out⟩)
    clear hkx HO HB HA
    subst hke
    go_wp2_with fail
    refine bodyPost_ret (v:=.tuple #[.slice ao names.length cap,.bool true]) (by simp [results,Tryz.results36,go_sem]) rfl ?_
    exact HE.out
end
section
theorem once_eq (xs:List ByteArray):(onceL xs).length=xs.length→onceL xs=xs:=by
 induction xs using List.reverseRecOn' with
 | nil=>intro _;rfl
 | snoc xs y ih =>
  intro h
  have hl:=once_len xs
  rw [once_snoc] at h ⊢
  split at h
  · rw [List.length_append] at h;simp at h;omega
  · rename_i hn
    rw [if_neg hn]
    rw [ih (by rw [List.length_append,List.length_append] at h;simpa using h)]
theorem once_of (xs:List ByteArray):xs.Nodup→onceL xs=xs:=by
 induction xs using List.reverseRecOn' with
 | nil=>intro _;rfl
 | snoc xs y ih =>
  intro h
  rw [List.nodup_append] at h
  obtain ⟨h1,-,h3⟩:=h
  have e:=ih h1
  rw [once_snoc,e,if_neg]
  intro hm
  exact h3 y ((mem_bytes _ _).1 hm) y (by simp) rfl
theorem step_map (hd:List ByteArray) (p:ByteArray→Bool) (g:ByteArray→List Int):∀ l:List ByteArray,stepC hd ((l.filter p).map fun s=>(s,g s))=(l.filter fun s=>p s && decide (0≤findL hd s)).map fun s=>(s,g s ++ [findL hd s])
 | []=>rfl
 | a :: l=>by
  have ih:=step_map hd p g l
  unfold stepC at ih ⊢
  by_cases hp:p a=true
  · by_cases hf:0≤findL hd a
    · simp only [List.filter_cons,hp,if_true,List.map_cons,List.filterMap_cons,hf,decide_true,Bool.and_true,ih]
    · simp only [List.filter_cons,hp,if_true,List.map_cons,List.filterMap_cons,hf,decide_false,Bool.and_false,if_false,ih]
      rfl
  · simp only [List.filter_cons,hp,Bool.false_and]
    simp [ih]
theorem cands_is (ts:List TabK) (names:List ByteArray):candsL ts names=((onceL names).filter fun s=>ts.all fun t=>decide (0≤findL t.1 s)).map fun s=>(s,ts.map fun t=>findL t.1 s):=by
 induction ts using List.reverseRecOn' with
 | nil=>simp only [List.all_nil,List.map_nil];rw [List.filter_eq_self.2 (fun _ _=>rfl)];rfl
 | snoc ts t ih =>
  rw [cands_snoc,ih,step_map]
  simp only [List.all_append,List.all_cons,List.all_nil,Bool.and_true,List.map_append,List.map_cons,List.map_nil]
theorem apartC_iff (ts:List TabK) (ch:List Cand):apartC ts ch=true ↔ ∀ i t,ts[i]?=some t→uniqL t.1.length t.2 (colsOf ch i)=true:=by
 constructor
 · intro h i t ht
   cases hu:uniqL t.1.length t.2 (colsOf ch i) with
   | true=>rfl
   | false=>rw [apartC_no ht hu] at h;cases h
 · exact apartC_yes
def placeL (t:TabK) (names:List ByteArray):List Int:=names.map (findL t.1)
theorem cols_full (ts:List TabK) (names:List ByteArray) (i:Nat) (t:TabK) (ht:ts[i]?=some t):colsOf (names.map fun s=>(s,ts.map fun t=>findL t.1 s)) i=placeL t names:=by
 unfold colsOf placeL
 rw [List.map_map]
 refine List.map_congr_left fun s _=>?_
 simp [List.getD_eq_getElem?_getD,ht]
theorem usable_iff (ts:List TabK) (names:List ByteArray):usableC ts names=true ↔ names ≠ []∧names.Nodup∧∀ t ∈ ts,(∀ s ∈ names,0≤findL t.1 s)∧uniqL t.1.length t.2 (placeL t names)=true:=by
 have full:names.Nodup→(∀ t ∈ ts,∀ s ∈ names,0≤findL t.1 s)→candsL ts names=names.map fun s=>(s,ts.map fun t=>findL t.1 s):=fun h1 h2=>by
  rw [cands_is,once_of names h1,List.filter_eq_self.2 (fun s hs=>by rw [List.all_eq_true];intro t ht;exact decide_eq_true (h2 t ht s hs))]
 unfold usableC
 rw [Bool.and_eq_true,Bool.and_eq_true,decide_eq_true_iff,decide_eq_true_iff]
 constructor
 · rintro ⟨⟨h0,h1⟩,h2⟩
   have hlen:=h1
   rw [cands_is,List.length_map] at hlen
   have hf:=List.length_filter_le (fun s=>ts.all fun t=>decide (0≤findL t.1 s)) (onceL names)
   have ho:=once_len names
   have he:=once_eq names (by omega)
   rw [he] at hlen
   have hall:=List.length_filter_eq_length_iff.1 hlen
   have hnd:names.Nodup:=by rw [← he];exact onceK_nodup names
   have hin:∀ t ∈ ts,∀ s ∈ names,0≤findL t.1 s:=fun t ht s hs=>of_decide_eq_true (List.all_eq_true.1 (hall s hs) t ht)
   rw [full hnd hin,apartC_iff] at h2
   refine ⟨by intro e;rw [e] at h0;simp at h0,hnd,fun t ht=>⟨hin t ht,?_⟩⟩
   obtain ⟨i,hi⟩:=List.mem_iff_getElem?.1 ht
   have:=h2 i t hi
   rwa [cols_full ts names i t hi] at this
 · rintro ⟨h0,h1,h2⟩
   have e:=full h1 (fun t ht=>(h2 t ht).1)
   rw [e]
   refine ⟨⟨by cases names with | nil=>exact absurd rfl h0 | cons a l=>simp,by simp⟩,(apartC_iff _ _).2 fun i t hi=>?_⟩
   rw [cols_full ts names i t hi]
   exact (h2 t (List.mem_of_getElem? hi)).2
end
section
open Go.RowKit Go.Shelf Go.Deep
theorem rinK_any (ao:Option Addr) (cap n:Nat) (xs:List ByteArray) (s:ByteArray) (w:World) (hl:xs.length=n) (hn:n≤1099511627776) (hH:StrRow w ao xs) :
 Calls Tryz.prog 80 #[.slice ao n cap,.string s] w fun e w'=>e=.returned (.bool (decide (s.data.toList ∈ bytesOf xs)))∧w=w':=by
 subst hl
 have HHo:=Lib.hid hH
 have HF:Hid ((∀ (j:Nat) c,xs[j]?=some c→¬ c.data.toList=s.data.toList)→decide (s.data.toList ∈ bytesOf xs)=false):=Lib.hid (fun h=>decide_eq_false (fun hm=>by
  obtain ⟨i,hi⟩:=List.mem_iff_getElem?.1 ((mem_bytes _ _).1 hm)
  exact h i s hi rfl))
 have HS:Hid (∀ (j:Nat) c,xs[j]?=some c→c.data.toList=s.data.toList→decide (s.data.toList ∈ bytesOf xs)=true):=Lib.hid (fun j c h e=>decide_eq_true ((mem_bytes _ _).2 (by rw [← ba_eq e];exact List.mem_of_getElem? h)))
 clear hH
 generalize decide (s.data.toList ∈ bytesOf xs)=F at HF HS ⊢
 go_enter Tryz.func80,Tryz.ntmps80
 go_wp2_with fail
 go_loopw [5] (fun i wr=>∃ k:Nat,k≤xs.length∧i=.int .i64 k∧wr=w∧Hid (∀ (j:Nat) c,j < k→xs[j]?=some c→¬ c.data.toList=s.data.toList)) (fun i _=>xs.length - (intOf i).toNat)
 case atStart=>exact ⟨0,Nat.zero_le _,rfl,rfl,Lib.hid (fun j c h _=>by omega)⟩
 case round =>
  obtain ⟨k,hk,rfl,rfl,HN⟩:=hrel
  by_cases hlt:k < xs.length
  · obtain ⟨x,hx⟩:∃ x,xs[k]?=some x:=⟨_,List.getElem?_eq_getElem hlt⟩
    have HX:=Lib.hid hx
    have hbe:=str_beq x s
    rcases HHo.out with h0 | ⟨A,rfl,hA,hcell⟩
    · rw [h0] at hlt;simp at hlt
    have hcx:=hcell k x hx
    clear hcell hx
    by_cases hp:x.data.toList=s.data.toList
    · have E:=Lib.hid (HS.out k x HX.out hp)
      rw [decide_eq_true hp] at hbe
      clear hp
      go_wp2_with fail
      go_ret
      exact ⟨by rw [E.out];rfl,rfl⟩
    · have HN':Hid (∀ (j:Nat) c,j < k+1→xs[j]?=some c→¬ c.data.toList=s.data.toList):=Lib.hid (fun j c hj hc'=>by
       by_cases e:j=k
       · subst e;rw [HX.out] at hc';cases hc';exact hp
       · exact HN.out j c (by omega) hc')
      rw [decide_eq_false hp] at hbe
      clear hp
      go_wp2_with fail
      go_roundw
      case rel=>exact ⟨k+1,by omega,by go_num,by first | rfl | trivial,HN'⟩
      case measure=>simp [intOf];omega
  · obtain rfl:k=xs.length:=by omega
    have E:=Lib.hid (HF.out (fun j c hc=>HN.out j c (by obtain ⟨h,_⟩:=List.getElem?_eq_some_iff.1 hc;exact h) hc))
    go_wp2_with fail
    go_ret
    exact ⟨by rw [E.out];rfl,rfl⟩
theorem row_take {w:World} {ao:Option Addr} {xs:List ByteArray} (h:StrRow w ao xs) (k:Nat):StrRow w ao (xs.take k):=by
 rcases h with rfl | ⟨A,h1,h2,h3⟩
 · exact .inl (by simp)
 · refine .inr ⟨A,h1,h2,fun i c hc=>h3 i c ?_⟩
   rw [List.getElem?_take] at hc
   split at hc
   · exact hc
   · cases hc
theorem usable_twice (ts:List TabK) (names:List ByteArray) (k:Nat) (x:ByteArray) (hx:names[k]?=some x) (h:x ∈ names.take k):usableC ts names=false:=by
 cases hu:usableC ts names with
 | false=>rfl
 | true =>
  obtain ⟨-,hn,-⟩:=(usable_iff ts names).1 hu
  have hs:=List.take_append_drop k names
  rw [← hs,List.nodup_append] at hn
  obtain ⟨hk,e⟩:=List.getElem?_eq_some_iff.1 hx
  exact absurd rfl (hn.2.2 x h x (by rw [List.drop_eq_getElem_cons hk,e];exact List.mem_cons_self))
theorem usable_out (ts:List TabK) (names:List ByteArray) (i:Nat) (t:TabK) (ht:ts[i]?=some t) (h:inAll t.1 names=false):usableC ts names=false:=by
 cases hu:usableC ts names with
 | false=>rfl
 | true =>
  obtain ⟨-,-,h3⟩:=(usable_iff ts names).1 hu
  have h4:=(h3 t (List.mem_of_getElem? ht)).1
  unfold inAll at h
  rw [List.all_eq_false] at h
  obtain ⟨c,hc,hf⟩:=h
  exact absurd (decide_eq_true (h4 c hc)) hf
theorem usable_same (ts:List TabK) (names:List ByteArray) (i:Nat) (t:TabK) (ht:ts[i]?=some t) (h:uniqL t.1.length t.2 (names.map (findL t.1))=false):usableC ts names=false:=by
 cases hu:usableC ts names with
 | false=>rfl
 | true =>
  obtain ⟨-,-,h3⟩:=(usable_iff ts names).1 hu
  have h4:=(h3 t (List.mem_of_getElem? ht)).2
  unfold placeL at h4
  rw [h] at h4;cases h4
theorem usable_yes (ts:List TabK) (names:List ByteArray) (h1:∀ (k:Nat) x,names[k]?=some x→¬ x ∈ names.take k) (h2:∀ (i:Nat) t,ts[i]?=some t→inAll t.1 names=true∧uniqL t.1.length t.2 (names.map (findL t.1))=true):usableC ts names=decide (0 < names.length):=by
 by_cases h0:0 < names.length
 · rw [decide_eq_true h0,usable_iff]
   refine ⟨by intro e;rw [e] at h0;simp at h0,?_,fun t ht=>?_⟩
   · unfold List.Nodup
     rw [List.pairwise_iff_getElem]
     intro i j hi hj hij e
     refine h1 j names[j] (List.getElem?_eq_getElem hj) (List.mem_iff_getElem?.2 ⟨i,?_⟩)
     rw [List.getElem?_take,if_pos hij,List.getElem?_eq_getElem hi,e]
   · obtain ⟨i,hi⟩:=List.mem_iff_getElem?.1 ht
     obtain ⟨q1,q2⟩:=h2 i t hi
     refine ⟨fun s hs=>?_,q2⟩
     unfold inAll at q1
     rw [List.all_eq_true] at q1
     exact of_decide_eq_true (q1 s hs)
 · rw [decide_eq_false h0]
   have:names=[]:=List.eq_nil_of_length_eq_zero (by omega)
   subst this;rfl
end
section
open Go.RowKit Go.Shelf Go.Deep
theorem rusable_any (lo:Option Addr) (lc:Nat) (ts:List TabK) (no:Option Addr) (nc:Nat) (names:List ByteArray) (w:World) (hts:ts.length≤1073741824) (hn:names.length≤1048576) (hcap:names.length≤nc)
 (hT:∀ t ∈ ts,t.1.length≤1099511627776∧t.2.length≤1099511627776) (hL:TabsAt w lo ts) (hR:StrRow w no names) :
 Calls Tryz.prog 32 #[.slice lo ts.length lc,.slice no names.length nc] w fun e w'=>e=.returned (.bool (usableC ts names))∧Below w.heap.size w w':=by
 have HTo:=Lib.hid hT
 have HLo:=Lib.hid hL
 have HRo:=Lib.hid hR
 have HTw:=Lib.hid (usable_twice ts names)
 have HOu:=Lib.hid (usable_out ts names)
 have HSa:=Lib.hid (usable_same ts names)
 have HYe:=Lib.hid (usable_yes ts names)
 have CI:=Lib.hid (fun (k:Nat) (x:ByteArray) V (hk:k < names.length) (h:StrRow V no names)=>rinK_any no nc k (names.take k) x V (by simp;omega) (by omega) (row_take h k))
 have CP:=Lib.hid (fun (ho:Option Addr) (hc:Nat) (hd:List ByteArray) (ro:Option Addr) (rn rc:Nat) V (h1:hd.length≤1099511627776) (h2:StrRow V ho hd) (h:StrRow V no names)=>rplaces_any ho hc hd ro rn rc no nc names V h1 (by omega) h2 h)
 have CU:=Lib.hid (fun (ho:Option Addr) (m hc:Nat) (ro:Option Addr) (rc:Nat) (rs:List (List ByteArray)) (co:Option Addr) (cc:Nat) (hd:List ByteArray) V (h1:m≤1099511627776) (h2:rs.length≤1099511627776) (h3:RowsAt V ro rs) (h4:IntsAt V co (names.map (findL hd)))=>(by
  have:=runique_any ho m hc ro rc rs co cc (names.map (findL hd)) V h1 h2 (by simp;omega) h3 h4
  rw [List.length_map] at this
  exact this:Calls Tryz.prog 81 #[.agg #[.slice ho m hc,.slice ro rs.length rc],.slice co names.length cc] V fun e w'=>e=.returned (.bool (uniqL m rs (names.map (findL hd))))∧Below V.heap.size V w'))
 generalize usableC ts names=F at HTw HOu HSa HYe ⊢
 clear hT hL hR
 go_enter Tryz.func32,Tryz.ntmps32
 go_wp2_with fail
 go_loopw [5] (fun i wr=>∃ k:Nat,k≤names.length∧i=.int .i64 k∧Hid (Below w.heap.size w wr)∧Hid (∀ (j:Nat) x,j < k→names[j]?=some x→¬ x ∈ names.take j)) (fun i _=>names.length - (intOf i).toNat)
 case atStart=>exact ⟨0,Nat.zero_le _,rfl,Lib.hid (Below.refl _ _),Lib.hid (fun j x h=>by omega)⟩
 case round =>
  obtain ⟨k,hk,rfl,HB,HA⟩:=hrel
  by_cases hlt:k < names.length
  · obtain ⟨x,hx⟩:∃ x,names[k]?=some x:=⟨_,List.getElem?_eq_getElem hlt⟩
    have HX:=Lib.hid hx
    have C1:=Lib.hid (CI.out k x wr.drew hlt (HRo.out.kept HB.out.drew))
    rcases (HRo.out.kept HB.out) with h0 | ⟨A,rfl,hA,hcell⟩
    · rw [h0] at hlt;simp at hlt
    have ca:=hcell k x hx
    have hkc:k≤nc:=by omega
    have T1:=Lib.hid (HTw.out k x hx)
    clear hcell hx
    cases hm:decide (x.data.toList ∈ bytesOf (names.take k)) with
    | true =>
     rw [hm] at C1
     have E:=Lib.hid (T1.out ((mem_bytes _ _).1 (of_decide_eq_true hm)))
     clear hm
     go_upto_region 4 with fail
     go_region_held3 (fun V=>V.cell? (A.add k)=some (.string x)) (first | assumption | go_keep)
      (first | (go_at_call 80;refine C1.out.mono ?_;rintro e w2 ⟨rfl,rfl⟩;have B2:=Lib.hid (HB.out.drew)))
     all_goals (go_wp2_with fail;go_ret;exact ⟨by rw [E.out];rfl,B2.out⟩)
    | false =>
     rw [hm] at C1
     have HA':Hid (∀ (j:Nat) x,j < k+1→names[j]?=some x→¬ x ∈ names.take j):=Lib.hid (fun j y hj hy hin=>by
      by_cases e:j=k
      · subst e;rw [HX.out] at hy;cases hy
        exact of_decide_eq_false hm ((mem_bytes _ _).2 hin)
      · exact HA.out j y (by omega) hy hin)
     clear hm
     go_upto_region 4 with fail
     go_region_held3 (fun V=>V.cell? (A.add k)=some (.string x)) (first | assumption | go_keep)
      (first | (go_at_call 80;refine C1.out.mono ?_;rintro e w2 ⟨rfl,rfl⟩;have B2:=Lib.hid (HB.out.drew)))
     all_goals (go_wp2_with fail;go_roundw)
     all_goals first
      | exact ⟨k+1,by omega,by go_num,B2,HA'⟩
      | (simp [intOf];omega)
  · have HY1:=Lib.hid (HYe.out (fun j x hx=>HA.out j x (by have:=(List.getElem?_eq_some_iff.1 hx).1;omega) hx))
    have HBs:=HB
    clear HB HA HYe HTw CI
    go_wp2_with fail
    go_loopw [6] (fun i wr=>∃ k:Nat,k≤ts.length∧i=.int .i64 k∧Hid (Below w.heap.size w wr)∧Hid (∀ (i:Nat) t,i < k→ts[i]?=some t→inAll t.1 names=true∧uniqL t.1.length t.2 (names.map (findL t.1))=true)) (fun i _=>ts.length - (intOf i).toNat)
    case atStart=>exact ⟨0,Nat.zero_le _,rfl,HBs,Lib.hid (fun i t h=>by omega)⟩
    case round =>
     obtain ⟨j,hj,rfl,HB,HA⟩:=hrel
     clear HBs
     by_cases hlt2:j < ts.length
     · obtain ⟨t,ht⟩:∃ t,ts[j]?=some t:=⟨_,List.getElem?_eq_getElem hlt2⟩
       have HTk:=Lib.hid ht
       rcases HLo.out with h0 | ⟨tb,tof,rfl,hA,hcell⟩
       · rw [h0] at hlt2;simp at hlt2
       obtain ⟨ho,hc,ro,rc,q1,q2,hhead,hrows⟩:=hcell j t ht
       have HC:Hid (∀ V,Below w.heap.size w V→V.cell? ⟨tb,tof+j * 2,none⟩=some (.slice ho t.1.length hc)∧V.cell? ⟨tb,tof+j * 2+1,none⟩=some (.slice ro t.2.length rc)):=Lib.hid (fun V h=>⟨(h.cell (p:=⟨tb,_,none⟩) hA).trans q1,(h.cell (p:=⟨tb,_,none⟩) hA).trans q2⟩)
       obtain ⟨t1,t2⟩:=HTo.out t (List.mem_of_getElem? ht)
       have HHd:=Lib.hid hhead
       have HRw:=Lib.hid hrows
       have C1:=Lib.hid (CP.out ho hc t.1 ro t.2.length rc wr t1 (hhead.kept HB.out) (HRo.out.kept HB.out))
       have HO1:=Lib.hid (HOu.out j t ht)
       have HS1:=Lib.hid (HSa.out j t ht)
       unfold PlacesR at C1
       obtain ⟨c1,c2⟩:=HC.out wr HB.out
       clear hcell hhead hrows q1 q2 ht
       go_wp2_with fail
       refine C1.out.mono ?_;clear C1
       rintro e w2 (⟨hin,co,cc,rfl,hI,b2⟩ | ⟨hin,rfl,b2⟩)
       · have B2:=Lib.hid (below_up HB.out b2)
         have C2:=Lib.hid (CU.out ho t.1.length hc ro rc t.2 co cc t.1 w2 t1 t2 (HRw.out.kept B2.out) hI)
         clear b2 c1 c2 hI
         obtain ⟨c1,c2⟩:=HC.out w2 B2.out
         cases hu:uniqL t.1.length t.2 (names.map (findL t.1)) with
         | false =>
          rw [hu] at C2
          have E:=Lib.hid (HS1.out hu)
          clear hu hin
          go_wp2_with fail
          refine C2.out.mono ?_;rintro e w3 ⟨rfl,b3⟩
          have B3:=Lib.hid (below_up B2.out b3)
          clear b3
          go_wp2_with fail
          go_ret
          exact ⟨by rw [E.out];rfl,B3.out⟩
         | true =>
          rw [hu] at C2
          have HA':Hid (∀ (i:Nat) t,i < j+1→ts[i]?=some t→inAll t.1 names=true∧uniqL t.1.length t.2 (names.map (findL t.1))=true):=Lib.hid (fun i t' hi ht'=>by
           by_cases e:i=j
           · subst e;rw [HTk.out] at ht';cases ht';exact ⟨hin,hu⟩
           · exact HA.out i t' (by omega) ht')
          clear hu hin
          go_wp2_with fail
          refine C2.out.mono ?_;rintro e w3 ⟨rfl,b3⟩
          have B3:=Lib.hid (below_up B2.out b3)
          clear b3
          go_wp2_with fail
          go_roundw
          case rel=>exact ⟨j+1,by omega,by go_num,B3,HA'⟩
          case measure=>simp [intOf];omega
       · have B2:=Lib.hid (below_up HB.out b2)
         have E:=Lib.hid (HO1.out hin)
         clear b2 c1 c2 hin
         go_wp2_with fail
         go_ret
         exact ⟨by rw [E.out];rfl,B2.out⟩
     · obtain rfl:j=ts.length:=by omega
       have E:=Lib.hid (HY1.out (fun i t ht=>HA.out i t (by have:=(List.getElem?_eq_some_iff.1 ht).1;omega) ht))
       go_wp2_with fail
       go_ret
       exact ⟨by rw [E.out];rfl,HB.out⟩
end
end Go.Proofs.YtdenehnneloegaaGreatDoor
