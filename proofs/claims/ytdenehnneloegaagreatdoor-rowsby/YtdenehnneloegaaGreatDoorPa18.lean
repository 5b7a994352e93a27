/-
  Texts of these rows' proofs, laid one behind the other: KCand, KOnce, KCands.
  Conditions: those of each theorem.
-/
import Derived.Deep.AppendLies
import Derived.Deep.OwnRows
import Derived.WalkKit
import Derived.WalkMore
import Derived.IntWalk
import Derived.WalkArith
import Derived.OwnWalk
import Derived.Lib.Hide
import Derived.Test.YtdenehnneloegaaGreatDoorProg
import Derived.Test.YtdenehnneloegaaGreatDoorPa17
import Derived.Maps.Own
import Derived.Maps.OwnOps
import Derived.RegionTactic
namespace Go.Proofs.YtdenehnneloegaaGreatDoor
set_option linter.unusedVariables false
set_option maxRecDepth 100000
set_option maxHeartbeats 8000000
section
open Go.RowKit Go.Shelf Go.Maps
abbrev Cand:=ByteArray × List Int
abbrev CandV:=ByteArray × Value × List Int
def plainC (c:CandV):Cand:=(c.1,c.2.2)
def cellsC (l:List CandV):List Value:=l.flatMap fun c=>[.string c.1,c.2.1]
theorem cellsC_app (l m:List CandV):cellsC (l ++ m)=cellsC l ++ cellsC m:=by simp [cellsC]
theorem cellsC_at:∀ (l:List CandV) (k:Nat) (c:CandV),l[k]?=some c→(cellsC l)[k * 2]?=some (.string c.1)∧(cellsC l)[k * 2+1]?=some c.2.1
 | a :: l,0,c,h=>by
  simp at h;subst h;exact ⟨rfl,rfl⟩
 | a :: l,k+1,c,h=>by
  have h1:=cellsC_at l k c (by simpa using h)
  have e:cellsC (a :: l)=.string a.1 :: a.2.1 :: cellsC l:=rfl
  rw [e,show (k+1) * 2=k * 2+1+1 by omega,List.getElem?_cons_succ,List.getElem?_cons_succ]
  exact ⟨h1.1,by rw [List.getElem?_cons_succ,List.getElem?_cons_succ];exact h1.2⟩
 | [],k,c,h=>by simp at h
def CandsAt (w:World) (co:Option Addr) (cs:List Cand):Prop :=
 cs=[]∨∃ b o,co=some ⟨b,o,none⟩∧b < w.heap.size∧∀ (i:Nat) c,cs[i]?=some c→w.cell? ⟨b,o+i * 2,none⟩=some (.string c.1) ∧
  ∃ (ao:Option Addr) (cap:Nat),w.cell? ⟨b,o+i * 2+1,none⟩=some (.slice ao c.2.length cap)∧IntsAt w ao c.2
theorem CandsAt.kept {w w':World} {co:Option Addr} {cs:List Cand} (h:CandsAt w co cs) (hB:Below w.heap.size w w'):CandsAt w' co cs:=by
 rcases h with h | ⟨b,o,h1,h2,h3⟩
 · exact .inl h
 · refine .inr ⟨b,o,h1,Nat.lt_of_lt_of_le h2 hB.size,fun i c hc=>?_⟩
   obtain ⟨q1,ao,cap,q2,q3⟩:=h3 i c hc
   exact ⟨(hB.cell (p:=⟨b,_,none⟩) h2).trans q1,ao,cap,(hB.cell (p:=⟨b,_,none⟩) h2).trans q2,q3.kept hB⟩
def OwnApart (a b:CandV):Prop:=∀ g,a.2.1.ownBlock=some g→b.2.1.ownBlock ≠ some g
theorem OwnApart.symm {a b:CandV} (h:OwnApart a b):OwnApart b a:=fun g hb ha=>h g ha hb
structure Owned (w:World) (base:Nat) (cs:List CandV):Prop where
 each:∀ c ∈ cs,w.ownsRow base 3 1 c.2.1 c.2.2.length (c.2.2.map (Value.int .i64))
 apart:cs.Pairwise OwnApart
theorem Owned.kept {w w':World} {base:Nat} {cs:List CandV} (h:Owned w base cs) (hB:Below w.heap.size w w'):Owned w' base cs:=⟨fun c hc=>ownsRow_below (h.each c hc) hB,h.apart⟩
theorem Owned.grown {w w':World} {base:Nat} {cs:List CandV} {row:Option Nat} (h:Owned w base cs) (hg:w.grownBy w' row) (hne:∀ c ∈ cs,c.2.1.ownBlock=none∨c.2.1.ownBlock ≠ row):Owned w' base cs:=⟨fun c hc=>(h.each c hc).kept hg (hne c hc),h.apart⟩
structure OwnC (w:World) (base:Nat) (v:Value) (cs:List CandV):Prop where
 list:w.ownsRow base 155 2 v cs.length (cellsC cs)
 owned:Owned w base cs
theorem OwnC.kept {w w':World} {base:Nat} {v:Value} {cs:List CandV} (h:OwnC w base v cs) (hB:Below w.heap.size w w'):OwnC w' base v cs:=⟨ownsRow_below h.list hB,h.owned.kept hB⟩
theorem list_apart {w:World} {base:Nat} {v u:Value} {n m:Nat} {xs ys:List Value} (h:w.ownsRow base 155 2 v n xs) (k:w.ownsRow base 3 1 u m ys):u.ownBlock=none∨u.ownBlock ≠ v.ownBlock:=by
 rcases k.2 with ⟨rfl,_⟩ | ⟨g,cap,cur,rfl,_,hg,_⟩
 · exact .inl rfl
 · refine .inr fun e=>?_
   rcases h.2 with ⟨rfl,_⟩ | ⟨g',cap',cur',rfl,_,hg',_⟩
   · cases e
   · simp only [Value.ownBlock,Option.some.injEq] at e
     subst e
     rw [hg] at hg'
     injection hg' with h1
     injection h1 with _ h2
     exact absurd h2 (by decide)
theorem OwnC.cands {w:World} {base:Nat} {v:Value} {cs:List CandV} (h:OwnC w base v cs):∃ co cap,v=.slice co (cs.map plainC).length cap∧CandsAt w co (cs.map plainC):=by
 rcases h.list.2 with ⟨rfl,h0⟩ | ⟨g,cap,cur,rfl,hb,hg,_⟩
 · have hl:cs=[]:=List.eq_nil_of_length_eq_zero h0
   subst hl
   exact ⟨none,0,rfl,.inl rfl⟩
 · refine ⟨_,cap,by simp,.inr ⟨g,0,rfl,lt_of_heap hg,fun i c hc=>?_⟩⟩
   rw [List.getElem?_map,Option.map_eq_some_iff] at hc
   obtain ⟨d,hd,rfl⟩:=hc
   obtain ⟨q1,q2⟩:=cellsC_at cs i d hd
   have hi:i < cs.length:=(List.getElem?_eq_some_iff.1 hd).1
   rw [Nat.zero_add]
   have c1:=h.list.cellAt (i * 2) (by omega)
   have c2:=h.list.cellAt (i * 2+1) (by omega)
   rw [q1] at c1
   rw [q2] at c2
   have ho:=h.owned.each d (List.mem_of_getElem? hd)
   rcases ho.2 with ⟨he,h0⟩ | ⟨g',cap',cur',he,_,hg',_⟩
   · have hl:d.2.2=[]:=List.eq_nil_of_length_eq_zero h0
     refine ⟨c1,none,0,?_,.inl hl⟩
     show w.cell? _=some (.slice none d.2.2.length 0)
     rw [c2,he,hl];rfl
   · refine ⟨c1,_,cap',?_,.inr ⟨⟨g',0,none⟩,rfl,lt_of_heap hg',fun j p hp=>?_⟩⟩
     · show w.cell? _=some (.slice _ d.2.2.length cap')
       rw [c2,he]
     · have:=ho.cells (g:=g') (by rw [he];rfl) j (.int .i64 p) (by rw [List.getElem?_map];show Option.map _ (d.2.2[j]?)=_;rw [show d.2.2[j]?=some p from hp];rfl)
       exact this
theorem List.reverseRecOn' {α:Type} {motive:List α→Prop} (l:List α) (nil:motive []) (snoc:∀ xs y,motive xs→motive (xs ++ [y])):motive l:=by
 have h:∀ (m:List α),motive m.reverse:=fun m=>by
  induction m with
  | nil=>exact nil
  | cons a m ih=>rw [List.reverse_cons];exact snoc _ _ ih
 have:=h l.reverse
 rwa [List.reverse_reverse] at this
theorem mem_bytes (xs:List ByteArray) (x:ByteArray):x.data.toList ∈ bytesOf xs ↔ x ∈ xs:=by
 unfold bytesOf
 rw [List.mem_map]
 exact ⟨fun ⟨y,hy,e⟩=>by rw [← ba_eq e];exact hy,fun h=>⟨x,h,rfl⟩⟩
def onceL (xs:List ByteArray):List ByteArray:=xs.foldl (fun acc x=>if x.data.toList ∈ bytesOf acc then acc else acc ++ [x]) []
theorem once_snoc (xs:List ByteArray) (x:ByteArray):onceL (xs ++ [x])=if x.data.toList ∈ bytesOf (onceL xs) then onceL xs else onceL xs ++ [x]:=by unfold onceL;rw [List.foldl_append];rfl
theorem once_mem (xs:List ByteArray):∀ x,x ∈ onceL xs ↔ x ∈ xs:=by
 induction xs using List.reverseRecOn' with
 | nil=>intro x;simp [onceL]
 | snoc xs y ih =>
  intro x
  rw [once_snoc]
  by_cases h:y.data.toList ∈ bytesOf (onceL xs)
  · have h':=(mem_bytes _ _).1 h
    rw [if_pos h,ih,List.mem_append,List.mem_singleton]
    exact ⟨.inl,fun k=>k.elim id (fun e=>by subst e;exact (ih _).1 h')⟩
  · rw [if_neg h,List.mem_append,List.mem_append,ih]
theorem onceK_nodup (xs:List ByteArray):(onceL xs).Nodup:=by
 induction xs using List.reverseRecOn' with
 | nil=>simp [onceL]
 | snoc xs y ih =>
  rw [once_snoc]
  by_cases h:y.data.toList ∈ bytesOf (onceL xs)
  · rw [if_pos h];exact ih
  · rw [if_neg h,List.nodup_append]
    exact ⟨ih,by simp,fun a ha b hb=>by simp at hb;subst hb;exact fun e=>h ((mem_bytes _ _).2 (by rw [← e];exact ha))⟩
theorem once_len (xs:List ByteArray):(onceL xs).length≤xs.length:=by
 induction xs using List.reverseRecOn' with
 | nil=>simp [onceL]
 | snoc xs y ih =>
  rw [once_snoc]
  split
  · rw [List.length_append];omega
  · rw [List.length_append,List.length_append];simp;exact ih
end
section
open Go.RowKit Go.Shelf Go.Maps
structure SetT (D:DataW Unit) (L:List TxtK):Prop where
 map:IsMap D
 look:∀ l,D.atKey (.string l) (.lit (.bool false))=.lit (.bool (decide (l ∈ L)))
theorem SetT.empty:SetT (.map []) []:=⟨isMap_empty,fun l=>by simp;rfl⟩
theorem SetT.same {D:DataW Unit} {L M:List TxtK} (h:SetT D L) (e:∀ l,l ∈ M ↔ l ∈ L):SetT D M:=⟨h.map,fun l=>by rw [h.look];simp only [e]⟩
theorem SetT.put {D:DataW Unit} {L:List TxtK} (h:SetT D L) (x:TxtK):SetT (D.put (.string x) (.lit (.bool true))) (L ++ [x]):=by
 refine ⟨h.map.put _ _,fun l=>?_⟩
 by_cases hl:l=x
 · rw [hl,atKey_put_same h.map (keySK x)];simp
 · rw [atKey_put_other (fun e=>hl (by injection e)),h.look];simp [hl]
theorem setK_look {w:World} {b k:Nat} {D:DataW Unit} {L:List TxtK} (h:w.ownsMap Tryz.prog 9 (plainElem Tryz.prog 4) b k D) (hS:SetT D L) (x:ByteArray) (hx:x.size≤maxLen) :
 (Instr.lookup 208 (.map (some b)) (.string x) false).run Tryz.prog w=.ok (.bool (decide (x.data.toList ∈ L))) w:=by
 obtain ⟨c,hrun,hat⟩:=lookup_bool h (string_keyed Tryz.underlying9) Tryz.underlying208 Tryz.underlying4 (Tryz.zeroValue4 _) (Go.WideMaps.keyOf_string_mk Tryz.underlying9 hx)
 rw [hS.look] at hat
 have e:decide (x.data.toList ∈ L)=c:=by injection hat with h1;injection h1
 rw [e];exact hrun
def bareC (s:ByteArray):CandV:=(s,.slice none 0 0,[])
theorem bare_owned (w:World) (base:Nat) (l:List ByteArray):Owned w base (l.map bareC) :=
 ⟨fun c hc=>by obtain ⟨s,_,rfl⟩:=List.mem_map.1 hc;exact World.ownsRow_nil _ _ _ _,by
  rw [List.pairwise_map]
  exact List.pairwise_of_forall (fun a b g hg=>by cases hg)⟩
theorem cand_info:(Tryz.prog.info? 155).map (fun i=>(i.zero,i.size,i.bytes))=some (some (.agg #[.string ⟨#[]⟩,.slice none 0 0]),2,40):=by kernel_rfl
theorem once_any (ao:Option Addr) (cap:Nat) (xs:List ByteArray) (w:World) (hn:xs.length≤1099511627776) (hs:∀ c ∈ xs,c.size≤maxLen) (hR:StrRow w ao xs) :
 Calls Tryz.prog 112 #[.slice ao xs.length cap] w fun e w'=>∃ v,e=.returned v∧OwnC w' w.heap.size v ((onceL xs).map bareC)∧Below w.heap.size w w':=by
 obtain ⟨i0,hi0,hz0,hz1,hz2⟩:=infoK_parts2 cand_info
 have HIN:=Lib.hid hi0
 have HRo:=Lib.hid hR
 have HSo:=Lib.hid hs
 have hmm:=@run_makeMap Tryz.prog
 clear hR hs hi0
 go_enter Tryz.func112,Tryz.ntmps112
 go_wp2_with fail
 obtain ⟨V,HV⟩:∃ V,Hid (V=w.alloc (.map #[] 0)):=⟨_,Lib.hid rfl⟩
 have HO:Hid (V.ownsMap Tryz.prog 9 (plainElem Tryz.prog 4) w.heap.size 0 (.map []:DataW Unit)):=Lib.hid (by rw [HV.out];exact World.ownsMap_made w _ _ _)
 have HB:Hid (Below w.heap.size w V):=Lib.hid (by rw [HV.out];exact (Below.refl _ w).alloc (Nat.le_refl _) _)
 have hVs:V.heap.size=w.heap.size+1:=by rw [HV.out];simp
 have HC:Hid (OwnC V (w.heap.size+1) (.slice none 0 0) ((onceL (xs.take 0)).map bareC)):=Lib.hid ⟨World.ownsRow_nil _ _ _ _,bare_owned _ _ _⟩
 rw [← HV.out]
 go_loopw [3,10] (fun v j wr=>∃ (k kk:Nat) (D:DataW Unit),k≤xs.length∧kk≤k∧j=.int .i64 k∧Hid (Below w.heap.size w wr)∧Hid (w.heap.size+1≤wr.heap.size)∧Hid (wr.ownsMap Tryz.prog 9 (plainElem Tryz.prog 4) w.heap.size kk D)∧Hid (SetT D (bytesOf (onceL (xs.take k))))∧Hid (OwnC wr (w.heap.size+1) v ((onceL (xs.take k)).map bareC))) (fun _ j _=>xs.length - (intOf j).toNat)
 case atStart=>exact ⟨0,0,_,Nat.zero_le _,Nat.le_refl _,rfl,HB,Lib.hid (by omega),HO,Lib.hid SetT.empty,HC⟩
 case round =>
  obtain ⟨k,kk,D,hk,hkk,rfl,HBr,HSr,HOr,HDr,HCr⟩:=hrel
  clear HB HO HC hVs
  by_cases hlt:k < xs.length
  · obtain ⟨x,hx⟩:∃ x,xs[k]?=some x:=⟨_,List.getElem?_eq_getElem hlt⟩
    have htk:xs.take (k+1)=xs.take k ++ [x]:=by rw [List.take_add_one,hx];rfl
    have HTK:=Lib.hid htk
    have hxs:=HSo.out x (List.mem_of_getElem? hx)
    have HXs:=Lib.hid hxs
    have hrun:=setK_look HOr.out HDr.out x hxs
    have HLe:=Lib.hid (show (onceL (xs.take k)).length≤k from Nat.le_trans (once_len _) (by rw [List.length_take];omega))
    rcases (HRo.out.kept HBr.out) with h0 | ⟨A,rfl,hA,hcell⟩
    · rw [h0] at hlt;simp at hlt
    have hc:=hcell k x hx
    clear hcell hx htk hxs
    have hli:=HCr.out.list
    rw [List.length_map] at hli
    obtain ⟨ao,cap,rfl⟩:=own_slice hli
    have HLI:=Lib.hid hli
    clear hli
    by_cases hf:x.data.toList ∈ bytesOf (onceL (xs.take k))
    · rw [decide_eq_true hf] at hrun
      have HE:Hid (onceL (xs.take (k+1))=onceL (xs.take k)):=Lib.hid (by rw [HTK.out,once_snoc,if_pos hf])
      clear hf
      go_wp2_with fail
      go_roundw
      case rel=>exact ⟨k+1,kk,D,by omega,by omega,by go_num,HBr,HSr,HOr,by rw [HE.out];exact HDr,by rw [HE.out];exact HCr⟩
      case measure=>simp [intOf];omega
    · rw [decide_eq_false hf] at hrun
      have HE:Hid (onceL (xs.take (k+1))=onceL (xs.take k) ++ [x]):=Lib.hid (by rw [HTK.out,once_snoc,if_neg hf])
      have HD':Hid (SetT (D.put (.string x.data.toList) (.lit (.bool true))) (bytesOf (onceL (xs.take (k+1))))):=Lib.hid ((HDr.out.put x.data.toList).same (fun l=>by rw [HE.out];simp [bytesOf]))
      have hkm:kk < maxLen:=by unfold maxLen;omega
      have HK:=Lib.hid (Go.WideMaps.keyOf_string_mk (P:=Tryz.prog) Tryz.underlying9 HXs.out)
      clear hf
      go_wp2_with (at_mapUpdate;refine wpList_mapUpdate_own _ rfl _ _ _ 208 rfl 9 4 (string_keyed Tryz.underlying9) Tryz.underlying208 _ w.heap.size kk D rfl HOr.out hkm _ _ (.string x.data.toList) rfl rfl HK.out (.lit (.bool true)) [] (plainElem_bool Tryz.underlying4 true) ?_;intro w1 ho hg;refine Hid.out ?_)
      have HB1:=Lib.hid (HBr.out.grown hg HBr.out.size (fun k h=>by cases h;exact Nat.le_refl _))
      have hs1:w.heap.size+1≤w1.heap.size:=Nat.le_trans HSr.out hg.size
      have HO1:Hid (∃ kk',kk'≤k+1∧w1.ownsMap Tryz.prog 9 (plainElem Tryz.prog 4) w.heap.size kk' (D.put (.string x.data.toList) (.lit (.bool true)))):=Lib.hid ⟨_,by first | omega | (split <;> omega),ho⟩
      obtain ⟨kk',hkk',ho'⟩:=HO1.out
      have HO2:=Lib.hid ho'
      have HL1:=HLI.out.kept hg (by
       cases hob:(Value.slice ao (onceL (xs.take k)).length cap).ownBlock with
       | none=>exact .inl rfl
       | some g=>exact .inr (fun e=>by cases e;have:=HLI.out.lt _ hob;omega))
      have hlen:(onceL (xs.take k)).length≤k:=HLe.out
      have HCA:=Lib.hid (HL1.alloc (.cells #[.string x,.slice none 0 0] 155))
      clear ho hg hrun HL1 ho'
      refine Lib.hid ?_
      go_wp2_with (at_builtin;refine wpList_append_own _ rfl _ _ 92 rfl (w.heap.size+1) 155 i0 (.agg #[.string ⟨#[]⟩,.slice none 0 0]) 2 40 Tryz.underlying92 HIN.out hz0 hz1 hz2 rfl (by decide) _ _ _ rfl HCA.out ⟨w1.heap.size,0,none⟩ 1 1 [.string x,.slice none 0 0] rfl rfl ?c1 ?c2 ?c3 ?c4 ?c5 ?_)
      case c1 =>
       intro j u hj
       rw [cell_row (World.alloc_heap_new w1 _)]
       match j,hj with
       | 0,hj=>simp at hj;subst hj;rfl
       | 1,hj=>simp at hj;subst hj;rfl
      case c2=>intro u hu;simp at hu;rcases hu with rfl | rfl <;> rfl
      case c3=>unfold maxLen;omega
      case c4=>omega
      case c5=>simp;omega
      intro v' w3 hown' hgrow _
      have HB3:=Lib.hid ((HB1.out.alloc (by omega) _).grown hgrow (by simp;omega) (fun k hk=>by have:=HCA.out.lt k hk;omega))
      have hs3:w.heap.size+1≤w3.heap.size:=by have:=hgrow.size;simp at this;omega
      have HS3:=Lib.hid hs3
      have HO3:=Lib.hid ((ownsMapK_below HO2.out ((Below.refl _ w1).alloc (Nat.le_refl _) (.cells #[.string x,.slice none 0 0] 155))).kept hgrow (fun e=>by have:=HCA.out.lt _ e.symm;omega))
      have HC3:Hid (OwnC w3 (w.heap.size+1) v' ((onceL (xs.take (k+1))).map bareC)):=Lib.hid ⟨by
       rw [HE.out,List.length_map,List.length_append,List.map_append,cellsC_app]
       have e:cellsC ((onceL (xs.take k)).map bareC) ++ [Value.string x,Value.slice none 0 0]=cellsC ((onceL (xs.take k)).map bareC) ++ cellsC ([x].map bareC):=rfl
       rw [← e];exact hown',bare_owned _ _ _⟩
      obtain ⟨ao2,cap2,rfl⟩:=own_slice hown'
      clear hown' hgrow
      go_wp2_with fail
      go_roundw
      case rel=>exact ⟨k+1,kk',_,by omega,by omega,by go_num,HB3,HS3,HO3,HD',HC3⟩
      case measure=>simp [intOf];omega
  · have hke:k=xs.length:=by omega
    have HE:Hid (OwnC wr w.heap.size u3 ((onceL xs).map bareC)):=Lib.hid (by
     have:=HCr.out
     rw [hke,List.take_length] at this
     exact ⟨this.list.mono (by omega),bare_owned _ _ _⟩)
    obtain ⟨ao,cap,rfl⟩:=own_slice HE.out.list
    clear hke HCr
    go_wp2_with fail
    go_ret
    exact ⟨_,rfl,HE.out,HBr.out⟩
end
section
open Go.RowKit Go.Shelf Go.Maps
abbrev TabK:=List ByteArray × List (List ByteArray)
def TabsAt (w:World) (lo:Option Addr) (ts:List TabK):Prop :=
 ts=[]∨∃ b o,lo=some ⟨b,o,none⟩∧b < w.heap.size∧∀ (i:Nat) t,ts[i]?=some t→∃ (ho:Option Addr) (hc:Nat) (ro:Option Addr) (rc:Nat),
  w.cell? ⟨b,o+i * 2,none⟩=some (.slice ho t.1.length hc)∧w.cell? ⟨b,o+i * 2+1,none⟩=some (.slice ro t.2.length rc)∧StrRow w ho t.1∧RowsAt w ro t.2
theorem TabsAt.kept {w w':World} {lo:Option Addr} {ts:List TabK} (h:TabsAt w lo ts) (hB:Below w.heap.size w w'):TabsAt w' lo ts:=by
 rcases h with h | ⟨b,o,h1,h2,h3⟩
 · exact .inl h
 · refine .inr ⟨b,o,h1,Nat.lt_of_lt_of_le h2 hB.size,fun i t ht=>?_⟩
   obtain ⟨ho,hc,ro,rc,q1,q2,q3,q4⟩:=h3 i t ht
   exact ⟨ho,hc,ro,rc,(hB.cell (p:=⟨b,_,none⟩) h2).trans q1,(hB.cell (p:=⟨b,_,none⟩) h2).trans q2,q3.kept hB,q4.kept hB⟩
def HeadsOk (ts:List TabK):Prop:=∀ t ∈ ts,t.1.length≤1099511627776∧∀ c ∈ t.1,c.size≤maxLen
def stepC (hd:List ByteArray) (cs:List Cand):List Cand:=cs.filterMap fun c=>if 0≤findL hd c.1 then some (c.1,c.2 ++ [findL hd c.1]) else none
def candsL (ts:List TabK) (names:List ByteArray):List Cand:=ts.foldl (fun cs t=>stepC t.1 cs) ((onceL names).map fun s=>(s,[]))
theorem step_snoc (hd:List ByteArray) (cs:List Cand) (c:Cand):stepC hd (cs ++ [c])=stepC hd cs ++ (if 0≤findL hd c.1 then [(c.1,c.2 ++ [findL hd c.1])] else []):=by
 unfold stepC
 rw [List.filterMap_append]
 by_cases h:0≤findL hd c.1
 · simp [h]
 · simp [h]
theorem cands_snoc (ts:List TabK) (t:TabK) (names:List ByteArray):candsL (ts ++ [t]) names=stepC t.1 (candsL ts names):=by unfold candsL;rw [List.foldl_append];rfl
theorem step_len (hd:List ByteArray) (cs:List Cand):(stepC hd cs).length≤cs.length:=List.length_filterMap_le _ _
theorem cands_len (ts:List TabK) (names:List ByteArray):(candsL ts names).length≤names.length:=by
 induction ts using List.reverseRecOn' with
 | nil=>unfold candsL;simp;exact once_len names
 | snoc ts t ih=>rw [cands_snoc];exact Nat.le_trans (step_len _ _) ih
theorem cands_at (ts:List TabK) (names:List ByteArray):∀ c ∈ candsL ts names,c.2.length=ts.length:=by
 induction ts using List.reverseRecOn' with
 | nil=>intro c hc;unfold candsL at hc;simp at hc;obtain ⟨s,_,rfl⟩:=hc;rfl
 | snoc ts t ih =>
  intro c hc
  rw [cands_snoc] at hc
  unfold stepC at hc
  rw [List.mem_filterMap] at hc
  obtain ⟨d,hd,h⟩:=hc
  split at h
  · cases h;simp [ih d hd]
  · cases h
theorem cands_names (ts:List TabK) (names:List ByteArray):∀ c ∈ candsL ts names,c.1 ∈ names:=by
 induction ts using List.reverseRecOn' with
 | nil=>intro c hc;unfold candsL at hc;simp at hc;obtain ⟨s,hs,rfl⟩:=hc;exact (once_mem names s).1 hs
 | snoc ts t ih =>
  intro c hc
  rw [cands_snoc] at hc
  unfold stepC at hc
  rw [List.mem_filterMap] at hc
  obtain ⟨d,hd,h⟩:=hc
  split at h
  · cases h;exact ih d hd
  · cases h
theorem list_apart' {w:World} {base base2:Nat} {v u:Value} {n m:Nat} {xs ys:List Value} (h:w.ownsRow base 155 2 v n xs) (k:w.ownsRow base2 3 1 u m ys):u.ownBlock=none∨u.ownBlock ≠ v.ownBlock :=
 list_apart (h.mono (Nat.zero_le _)) (k.mono (Nat.zero_le _))
theorem Owned.sub {w:World} {base:Nat} {a b c:List CandV} (h:Owned w base (a ++ b ++ c)):Owned w base (a ++ c) :=
 ⟨fun d hd=>h.each d (by simp at hd ⊢;rcases hd with h | h <;> simp [h]),by
  have:=h.apart
  rw [List.append_assoc] at this
  rw [List.pairwise_append] at this ⊢
  obtain ⟨h1,h2,h3⟩:=this
  rw [List.pairwise_append] at h2
  exact ⟨h1,h2.2.1,fun x hx y hy=>h3 x hx y (by simp [hy])⟩⟩
theorem Owned.mono {w:World} {base base':Nat} {cs:List CandV} (h:Owned w base cs) (hb:base'≤base):Owned w base' cs:=⟨fun c hc=>(h.each c hc).mono hb,h.apart⟩
theorem Owned.turn {w w':World} {base:Nat} {I R:List CandV} {c:CandV} (h:Owned w base (I ++ [c] ++ R)) (hg:w.grownBy w' c.2.1.ownBlock) (g cap:Nat) (xs:List Int) (n:Nat) (hn:xs.length=n)
 (hown:w'.ownsRow base 3 1 (.slice (some ⟨g,0,none⟩) n cap) n (xs.map (Value.int .i64))) (hl:c.2.1.ownBlock=some g∨g=w.heap.size) :
 Owned w' base (I ++ [(c.1,.slice (some ⟨g,0,none⟩) n cap,xs)] ++ R):=by
 subst hn
 have hap:=h.apart
 rw [List.pairwise_append,List.pairwise_append] at hap
 obtain ⟨⟨h1,_,h2⟩,h3,h4⟩:=hap
 have hother:∀ d,d ∈ I∨d ∈ R→(∀ k,c.2.1.ownBlock=some k→d.2.1.ownBlock ≠ some k):=fun d hd k hk=>by
  rcases hd with hd | hd
  · exact OwnApart.symm (h2 d hd c (by simp)) k hk
  · exact h4 c (by simp) d hd k hk
 have hin:∀ d,d ∈ I∨d ∈ R→d ∈ I ++ [c] ++ R:=fun d hd=>by simp;rcases hd with h | h <;> simp [h]
 have hne:∀ d,d ∈ I∨d ∈ R→d.2.1.ownBlock ≠ some g:=fun d hd e=>by
  rcases hl with hl | hl
  · exact hother d hd g hl e
  · have:=(h.each d (hin d hd)).lt g e;omega
 have hkept:∀ d,d ∈ I∨d ∈ R→w'.ownsRow base 3 1 d.2.1 d.2.2.length (d.2.2.map (Value.int .i64)):=fun d hd =>
  (h.each d (hin d hd)).kept hg (by
   cases hb:c.2.1.ownBlock with
   | none =>
    cases hd2:d.2.1.ownBlock with
    | none=>exact .inl rfl
    | some k=>exact .inr (by simp)
   | some k=>exact .inr (hother d hd k hb))
 refine ⟨fun d hd=>?_,?_⟩
 · simp only [List.mem_append,List.mem_singleton] at hd
   rcases hd with (hd | rfl) | hd
   · exact hkept d (.inl hd)
   · exact hown
   · exact hkept d (.inr hd)
 · rw [List.pairwise_append,List.pairwise_append]
   refine ⟨⟨h1,by simp,fun x hx y hy=>?_⟩,h3,fun x hx y hy=>?_⟩
   · simp only [List.mem_singleton] at hy;subst hy
     intro k hk e
     simp only [Value.ownBlock,Option.some.injEq] at e;subst e
     exact hne x (.inl hx) hk
   · simp only [List.mem_append,List.mem_singleton] at hx
     rcases hx with hx | rfl
     · exact h4 x (by simp [hx]) y hy
     · intro k hk e
       simp only [Value.ownBlock,Option.some.injEq] at hk;subst hk
       exact hne y (.inr hy) e
theorem list_kept {w w':World} {base base2:Nat} {v u:Value} {n m:Nat} {xs ys:List Value} (h:w.ownsRow base 155 2 v n xs) (k:w.ownsRow base2 3 1 u m ys) (hg:w.grownBy w' u.ownBlock):w'.ownsRow base 155 2 v n xs :=
 h.kept hg (by
  rcases list_apart' h k with h1 | h1
  · cases hv:v.ownBlock with
    | none=>exact .inl rfl
    | some g=>rw [h1];exact .inr (by simp)
  · exact .inr (fun e=>h1 e.symm))
theorem box_kept {w w':World} {base m B:Nat} {u:Value} {ys:List Value} {cs:Array Value} {fr:Nat × Nat} (h:w.heap[B]?=some (.cells cs 155 fr)) (k:w.ownsRow base 3 1 u m ys) (hg:w.grownBy w' u.ownBlock):w'.heap[B]?=some (.cells cs 155 fr):=by
 rw [hg.block B (lt_of_heap h) (fun e=>by
  rcases k.2 with ⟨rfl,_⟩ | ⟨g,cap,cur,rfl,_,hg',_⟩
  · cases e
  · simp only [Value.ownBlock,Option.some.injEq] at e
    subst e
    rw [h] at hg'
    injection hg' with h1
    injection h1 with _ h2
    exact absurd h2 (by decide))]
 exact h
theorem map_apart {w:World} {k:TypeId} {R:Value→Option (DataW Unit × List MemPlace)} {b n:Nat} {D:DataW Unit} (h:w.ownsMap Tryz.prog k R b n D) {base:Nat} {e:TypeId} {sz m:Nat} {v:Value} {xs:List Value} (ho:w.ownsRow base e sz v m xs):some b ≠ v.ownBlock:=by
 obtain ⟨es,clock,hb,_⟩:=h
 rcases ho.2 with ⟨rfl,_⟩ | ⟨g,cap,cur,rfl,_,hg,_⟩
 · intro e;cases e
 · intro e
   simp only [Value.ownBlock,Option.some.injEq] at e
   subst e
   rw [hb] at hg;cases hg
theorem candidates_any (lo:Option Addr) (lc:Nat) (ts:List TabK) (ao:Option Addr) (cap:Nat) (names:List ByteArray) (w:World) (hts:ts.length≤1073741824) (hn:names.length≤1099511627776) (hs:∀ c ∈ names,c.size≤maxLen) (hH:HeadsOk ts) (hT:TabsAt w lo ts) (hR:StrRow w ao names) :
 Calls Tryz.prog 61 #[.slice lo ts.length lc,.slice ao names.length cap] w fun e w'=>∃ v cvs,e=.returned v∧OwnC w' w.heap.size v cvs∧cvs.map plainC=candsL ts names∧Below w.heap.size w w':=by
 obtain ⟨i0,hi0,hz0,hz1,hz2⟩:=infoK_parts2 cand_info
 have hinfo:(Tryz.prog.info? 3).map (fun i=>(i.zero,i.size,i.bytes))=some (some (.int .i64 0),1,8):=by kernel_rfl
 obtain ⟨j0,hj0,hy0,hy1,hy2⟩:=infoK_parts2 hinfo
 have HIN:=Lib.hid hi0
 have HJN:=Lib.hid hj0
 have HTo:=Lib.hid hT
 have HHo:=Lib.hid hH
 have HSo:=Lib.hid hs
 have CO:=Lib.hid (once_any ao cap names w hn hs hR)
 clear hT hH hs hR hi0 hj0 hinfo
 go_enter Tryz.func61,Tryz.ntmps61
 go_wp2_with fail
 refine CO.out.mono ?_
 rintro e w1 ⟨v,rfl,hO,hB⟩
 have HB:=Lib.hid hB
 have HC:Hid (∃ cvs,OwnC w1 w.heap.size v cvs∧cvs.map plainC=candsL (ts.take 0) names):=Lib.hid ⟨_,hO,by unfold candsL;simp [plainC,bareC,Function.comp_def]⟩
 have hli:=hO.list
 rw [List.length_map] at hli
 obtain ⟨bo,bc,rfl⟩:=own_slice hli
 clear hO hB CO hli
 go_wp2_with fail
 go_loopw [5,18] (fun v j wr=>∃ k:Nat,k≤ts.length∧j=.int .i64 k∧Hid (Below w.heap.size w wr)∧Hid (∃ cvs,OwnC wr w.heap.size v cvs∧cvs.map plainC=candsL (ts.take k) names)) (fun _ j _=>ts.length - (intOf j).toNat)
 case atStart=>exact ⟨0,Nat.zero_le _,rfl,HB,HC⟩
 case round =>
  obtain ⟨k,hk,rfl,HB,HC⟩:=hrel
  obtain ⟨O,hO,hOp⟩:=HC.out
  have hli:=hO.list
  obtain ⟨vo,vc,rfl⟩:=own_slice hli
  clear HC
  by_cases hlt:k < ts.length
  · obtain ⟨t,ht⟩:∃ t,ts[k]?=some t:=⟨_,List.getElem?_eq_getElem hlt⟩
    have htk:ts.take (k+1)=ts.take k ++ [t]:=by rw [List.take_add_one,ht];rfl
    rcases (HTo.out.kept HB.out) with h0 | ⟨tb,tof,rfl,hA,hcell⟩
    · rw [h0] at hlt;simp at hlt
    obtain ⟨ho,hc,ro,rc,c1,c2,hst,-⟩:=hcell k t ht
    obtain ⟨hH1,hH2⟩:=HHo.out t (List.mem_of_getElem? ht)
    have HOp:=Lib.hid hOp
    have HOl:Hid (candsL (ts.take (k+1)) names=stepC t.1 (O.map plainC)):=Lib.hid (by rw [htk,cands_snoc,hOp])
    have HOat:Hid (∀ c ∈ O,c.2.2.length=k):=Lib.hid (fun c hc=>by
     have:=cands_at (ts.take k) names (plainC c) (by rw [← hOp];exact List.mem_map_of_mem hc)
     rw [List.length_take] at this
     have e:(plainC c).2.length=c.2.2.length:=rfl
     omega)
    have HOnm:Hid (∀ c ∈ O,c.1.size≤maxLen):=Lib.hid (fun c hc=>HSo.out c.1 (cands_names (ts.take k) names (plainC c) (by rw [← hOp];exact List.mem_map_of_mem hc)))
    have hOn:O.length≤1099511627776:=by
     have h1:=cands_len (ts.take k) names
     rw [← hOp,List.length_map] at h1;omega
    have HOo:=Lib.hid hO
    obtain ⟨V,HV⟩:∃ V,Hid (V=wr.alloc (.cells #[.slice ho t.1.length hc,.slice ro t.2.length rc] 25)):=⟨_,Lib.hid rfl⟩
    have hbV:Below wr.heap.size wr V:=by rw [HV.out];exact one_below wr _
    have hVh:V.heap[wr.heap.size]?=some (.cells #[.slice ho t.1.length hc,.slice ro t.2.length rc] 25 (0,0)):=by rw [HV.out];exact World.alloc_heap_new _ _
    have v0:V.cell? ⟨wr.heap.size,0,none⟩=some (.slice ho t.1.length hc):=(Lib.cell_of_heap hVh 0).trans rfl
    have CF:=Lib.hid (firsts_any ho hc t.1 V hH1 hH2 (hst.kept hbV))
    have HBV:=Lib.hid (below_up HB.out hbV)
    have HOV:=Lib.hid (hO.kept hbV)
    clear hcell hst hH1 hH2 hO hOp hbV hVh HB HOo ht htk hli
    go_upto_region 5 with fail
    rw [← HV.out]
    go_wp2_with fail
    refine CF.out.mono ?_
    rintro e w2 ⟨b,kk,D,rfl,hb,hM,hD,hB2⟩
    have HM:=Lib.hid hM
    have HD:=Lib.hid hD
    have HB2:=Lib.hid (below_up HBV.out hB2)
    have HO2:=Lib.hid (HOV.out.kept hB2)
    have HB2':=Lib.hid HB2.out.size
    clear hM hD hB2 CF HOV HBV v0 c1 c2
    go_wp2_with fail
    obtain ⟨wo,rfl⟩:∃ wo:World,wo=wr:=⟨_,rfl⟩
    have HG0:Hid (∀ g,(Value.slice vo O.length vc).ownBlock=some g→g < w2.heap.size):=Lib.hid (fun g h=>(HO2.out.list.lt g h).2)
    have HI0:Hid (([]:List CandV).map plainC=stepC t.1 ((O.take 0).map plainC)):=Lib.hid (by simp [stepC])
    have HL0:Hid (w2.ownsRow w2.heap.size 155 2 (.slice none 0 0) ([]:List CandV).length (cellsC [])):=Lib.hid (World.ownsRow_nil _ _ _ _)
    have HS0:Hid (w2.ownsRow w.heap.size 155 2 (.slice vo O.length vc) O.length (cellsC O)):=Lib.hid HO2.out.list
    have HW0:Hid (Owned w2 w.heap.size ([] ++ O.drop 0)):=Lib.hid (by simpa using HO2.out.owned)
    go_loopw [9,27] (fun v j wi=>∃ (q:Nat) (I:List CandV),q≤O.length∧j=.int .i64 q∧Hid (I.map plainC=stepC t.1 ((O.take q).map plainC))∧Hid (wi.ownsRow w2.heap.size 155 2 v I.length (cellsC I))∧Hid (wi.ownsRow w.heap.size 155 2 (.slice vo O.length vc) O.length (cellsC O))∧Hid (Owned wi w.heap.size (I ++ O.drop q))∧Hid (wi.ownsMap Tryz.prog 9 (plainElem Tryz.prog 3) b kk D)∧Hid (Below w.heap.size w wi)∧Hid (w2.heap.size≤wi.heap.size)) (fun _ j _=>O.length - (intOf j).toNat)
    case atStart=>exact ⟨0,[],Nat.zero_le _,rfl,HI0,HL0,HS0,HW0,HM,HB2,Lib.hid (Nat.le_refl _)⟩
    case round =>
     obtain ⟨q,I,hq,rfl,HI,HL,HS,HW,HMi,HBi,HZ⟩:=hrel
     clear HI0 HL0 HS0 HW0 HM HB2 HO2
     have hIl:=HL.out
     obtain ⟨io,ic,rfl⟩:=own_slice hIl
     by_cases hlq:q < O.length
     · obtain ⟨⟨nm,v,xs⟩,hc0⟩:∃ c,O[q]?=some c:=⟨_,List.getElem?_eq_getElem hlq⟩
       have htq:O.take (q+1)=O.take q ++ [(nm,v,xs)]:=by rw [List.take_add_one,hc0];rfl
       have hdq:O.drop q=(nm,v,xs) :: O.drop (q+1):=by
        obtain ⟨h1,e1⟩:=List.getElem?_eq_some_iff.1 hc0
        rw [List.drop_eq_getElem_cons h1,e1]
       have hmem:=List.mem_of_getElem? hc0
       have HXK:=Lib.hid (show xs.length=k from HOat.out _ hmem)
       have HNM:=Lib.hid (HOnm.out _ hmem)
       have HIq:Hid (stepC t.1 ((O.take (q+1)).map plainC)=stepC t.1 ((O.take q).map plainC) ++ (if 0≤findL t.1 nm then [(nm,xs ++ [findL t.1 nm])] else [])):=Lib.hid (by rw [htq,List.map_append];exact step_snoc _ _ _)
       have hWq:Owned wr w.heap.size (I ++ [(nm,v,xs)] ++ O.drop (q+1)):=by have:=HW.out;rw [hdq] at this;rw [List.append_assoc];exact this
       have HWq:=Lib.hid hWq
       have hvo:=hWq.each (nm,v,xs) (by simp)
       dsimp only at hvo
       obtain ⟨xo,xc,rfl⟩:=own_slice hvo
       have hIlen:I.length≤O.length:=by
        have h1:=congrArg List.length HI.out
        rw [List.length_map] at h1
        have h2:=step_len t.1 ((O.take q).map plainC)
        rw [List.length_map,List.length_take] at h2
        omega
       rcases HS.out.2 with ⟨h0,h00⟩ | ⟨g0,cp0,cur0,h0,hb0,hg0,-,-,-,-⟩
       · omega
       · simp only [Value.slice.injEq] at h0
         obtain ⟨rfl,-,rfl⟩:=h0
         obtain ⟨q1,q2⟩:=cellsC_at O q _ hc0
         have k0:=(HS.out.cellAt (q * 2) (by omega)).trans q1
         have k1:=(HS.out.cellAt (q * 2+1) (by omega)).trans q2
         dsimp only at k0 k1
         obtain ⟨U,HU⟩:∃ U,Hid (U=wr.alloc (.cells #[.string nm,.slice xo xs.length xc] 155)):=⟨_,Lib.hid rfl⟩
         have hbU:Below wr.heap.size wr U:=by rw [HU.out];exact one_below wr _
         have hUh:U.heap[wr.heap.size]?=some (.cells #[.string nm,.slice xo xs.length xc] 155 (0,0)):=by rw [HU.out];exact World.alloc_heap_new _ _
         have u0:U.cell? ⟨wr.heap.size,0,none⟩=some (.string nm):=(Lib.cell_of_heap hUh 0).trans rfl
         have u1:U.cell? ⟨wr.heap.size,1,none⟩=some (.slice xo xs.length xc):=(Lib.cell_of_heap hUh 1).trans rfl
         have HUh:=Lib.hid hUh
         have HMU:=Lib.hid (ownsMapK_below HMi.out hbU)
         have HLU:=Lib.hid (ownsRow_below HL.out hbU)
         have HSU:=Lib.hid (ownsRow_below HS.out hbU)
         have HWU:=Lib.hid (hWq.kept hbU)
         have HBU:=Lib.hid (below_up HBi.out hbU)
         have HZU:=Lib.hid (Nat.le_trans HZ.out hbU.size)
         have hrun:=firsts_look HMU.out HD.out nm HNM.out
         clear q1 q2 hc0 htq hdq hmem hWq hvo hbU hUh HW HL HS HMi HBi HZ HWq hIl
         by_cases hf:0≤findL t.1 nm
         · rw [if_pos hf,decide_eq_true hf] at hrun
           have HIn:Hid (stepC t.1 ((O.take (q+1)).map plainC)=I.map plainC ++ [(nm,xs ++ [findL t.1 nm])]):=Lib.hid (by rw [HIq.out,if_pos hf,HI.out])
           obtain ⟨y,hy⟩:∃ y,y=findL t.1 nm:=⟨_,rfl⟩
           rw [← hy] at hrun HIn
           clear hf hy HIq HI
           go_upto_region 10 with fail
           rw [← HU.out]
           go_wp2_with fail
           obtain ⟨L1,hL1⟩:∃ L1,L1=U.alloc (.cells #[.int .i64 y] 3):=⟨_,rfl⟩
           have HL1:=Lib.hid hL1
           have hb1:Below U.heap.size U L1:=by rw [hL1];exact one_below U _
           have hLh:L1.heap[U.heap.size]?=some (.cells #[.int .i64 y] 3 (0,0)):=by rw [hL1];exact World.alloc_heap_new _ _
           have HLh:=Lib.hid hLh
           have HWL:=Lib.hid (HWU.out.kept hb1)
           have HIL:Hid (L1.drew.ownsRow w.heap.size 3 1 (.slice xo xs.length xc) xs.length (xs.map (Value.int .i64))):=Lib.hid (HWL.out.each (nm,.slice xo xs.length xc,xs) (by simp)).drew
           have HLL:=Lib.hid (ownsRow_below HLU.out hb1)
           have HSL:=Lib.hid (ownsRow_below HSU.out hb1)
           have HML:=Lib.hid (ownsMapK_below HMU.out hb1)
           have HBL:=Lib.hid (below_up HBU.out hb1)
           have hsL:L1.heap.size=U.heap.size+1:=by rw [hL1];simp
           have HsL:=Lib.hid hsL
           have HZL:=Lib.hid (Nat.le_trans HZU.out hb1.size)
           have HXL:Hid (L1.heap[wr.heap.size]?=some (.cells #[.string nm,.slice xo xs.length xc] 155 (0,0))):=Lib.hid ((hb1.block _ (lt_of_heap HUh.out)).trans HUh.out)
           have l0:L1.cell? ⟨wr.heap.size,0,none⟩=some (.string nm):=(Lib.cell_of_heap HXL.out 0).trans rfl
           have l1:L1.cell? ⟨wr.heap.size,1,none⟩=some (.slice xo xs.length xc):=(Lib.cell_of_heap HXL.out 1).trans rfl
           have hL1':U.alloc (.cells #[.int .i64 y] 3)=L1:=hL1.symm
           clear hL1 hb1 hLh hsL
           go_region_law (first
            | (refine step_append_lies _ (by rfl) _ _ 41 (by rfl) w.heap.size 3 j0 (.int .i64 0) 1 8 Tryz.underlying41 HJN.out hy0 hy1 hy2 rfl (by decide) (.slice xo xs.length xc) xs.length (xs.map (Value.int .i64)) (by rfl) HIL.out ⟨U.heap.size,0,none⟩ 1 1 [.int .i64 y] (by rfl) rfl (by
                intro j u hj
                refine (cell_row HLh.out j).trans ?_
                match j,hj with
                | 0,hj=>simp at hj;subst hj;rfl) (by intro u hu;simp at hu;subst hu;rfl) (by omega) (by have:=HXK.out;unfold maxLen;omega) (by have:=HXK.out;omega) HBL.out.size L1.heap.size (by rfl) ?_
               intro g1 cp1 X1 o1 gr1 hl1 hlt1
               have HO1:=Lib.hid o1
               have HG1:=Lib.hid gr1
               have HH1:=Lib.hid hl1
               have HLX:=Lib.hid ((list_kept HLL.out.drew HIL.out gr1).alloc (.cells #[.string nm,.slice (some ⟨g1,0,none⟩) (xs.length+1) cp1] 155))
               have HBX:=Lib.hid (HBL.out.drew.grown gr1 HBL.out.size (fun k hk=>(HIL.out.lt k hk).1))
               have HZX:=Lib.hid (Nat.le_trans HZL.out gr1.size)
               have x0:X1.cell? ⟨wr.heap.size,0,none⟩=some (.string nm):=(Lib.cell_of_heap (box_kept (w:=L1.drew) HXL.out HIL.out gr1) 0).trans rfl
               have x1:X1.cell? ⟨wr.heap.size,1,none⟩=some (.slice xo xs.length xc):=(Lib.cell_of_heap (box_kept (w:=L1.drew) HXL.out HIL.out gr1) 1).trans rfl
               clear o1 gr1 hl1)
            | (refine step_append_lies _ (by rfl) _ _ 92 (by rfl) w2.heap.size 155 i0 (.agg #[.string ⟨#[]⟩,.slice none 0 0]) 2 40 Tryz.underlying92 HIN.out hz0 hz1 hz2 rfl (by decide) (.slice io I.length ic) I.length (cellsC I) (by rfl) HLX.out ⟨X1.heap.size,0,none⟩ 1 1 [.string nm,.slice (some ⟨g1,0,none⟩) (xs.length+1) cp1] (by rfl) rfl (by
                intro j u hj
                refine (cell_row (World.alloc_heap_new X1 _) j).trans ?_
                match j,hj with
                | 0,hj=>simp at hj;subst hj;rfl
                | 1,hj=>simp at hj;subst hj;rfl) (by intro u hu;simp at hu;rcases hu with rfl | rfl <;> rfl) (by omega) (by unfold maxLen;omega) (by omega) (by have:=HZX.out;simp;omega) (X1.heap.size+1) (by simp) ?_
               intro g2 cp2 X2 o2 gr2 hl2 hlt2
               have HO2:=Lib.hid o2
               have HG2:=Lib.hid gr2
               have HH2:=Lib.hid hl2
               clear o2 gr2 hl2)
)
           all_goals
            have HWX:Hid (Owned X1 w.heap.size (I ++ [(nm,.slice (some ⟨g1,0,none⟩) (xs.length+1) cp1,xs ++ [y])] ++ O.drop (q+1))):=Lib.hid (Owned.turn (w:=L1.drew) (c:=(nm,.slice xo xs.length xc,xs)) ⟨fun c hc=>(HWL.out.each c hc).drew,HWL.out.apart⟩ HG1.out g1 cp1 (xs ++ [y]) (xs.length+1) (by simp) (by rw [List.map_append];exact HO1.out) HH1.out)
            have hal:Below X1.heap.size X1 (X1.alloc (.cells #[.string nm,.slice (some ⟨g1,0,none⟩) (xs.length+1) cp1] 155)):=one_below X1 _
            have HWA:=HWX.out.kept hal
            have HW2:=Lib.hid (HWA.grown HG2.out (fun c hc=>list_apart' HLX.out (HWA.each c hc)))
            have HI2:Hid ((I ++ [(nm,Value.slice (some ⟨g1,0,none⟩) (xs.length+1) cp1,xs ++ [y])]).map plainC=stepC t.1 ((O.take (q+1)).map plainC)):=Lib.hid (by rw [HIn.out,List.map_append];rfl)
            have HL2:Hid (X2.ownsRow w2.heap.size 155 2 (.slice (some ⟨g2,0,none⟩) (I.length+1) cp2) (I ++ [(nm,Value.slice (some ⟨g1,0,none⟩) (xs.length+1) cp1,xs ++ [y])]).length (cellsC (I ++ [(nm,Value.slice (some ⟨g1,0,none⟩) (xs.length+1) cp1,xs ++ [y])]))):=Lib.hid (by
             rw [List.length_append,cellsC_app];exact HO2.out)
            have HS2:Hid (X2.ownsRow w.heap.size 155 2 (.slice (some ⟨g0,0,none⟩) O.length vc) O.length (cellsC O)):=Lib.hid (((list_kept HSL.out.drew HIL.out HG1.out).alloc _).kept HG2.out (.inr (fun e=>by
             have h1:=HG0.out g0 rfl
             have h2:=(HLX.out.lt g0 e.symm).1
             omega)))
            have HM2:=Lib.hid ((ownsMapK_below ((ownsMapK_below HML.out ((Below.refl _ L1).drew)).kept HG1.out (fun e=>map_apart HML.out HIL.out e)) hal).kept HG2.out (fun e=>map_apart (ownsMapK_below ((ownsMapK_below HML.out ((Below.refl _ L1).drew)).kept HG1.out (fun e=>map_apart HML.out HIL.out e)) hal) HLX.out e))
            have HB2:=Lib.hid ((HBX.out.trans (hal.mono HBX.out.size)).grown HG2.out (Nat.le_trans HBX.out.size hal.size) (fun k hk=>by have h1:=(HLX.out.lt k hk).1;have h2:=HB2'.out;omega))
            have HZ2:=Lib.hid (Nat.le_trans (Nat.le_trans HZX.out hal.size) HG2.out.size)
            clear HWA hal HLX HG2 HO2 HWX HO1 HG1 HH1 x0 x1 l0 l1 u0 u1 hL1' HBX HZX
            go_wp2_with fail
            go_roundw
            case rel=>exact ⟨q+1,_,by omega,by go_num,HI2,HL2,HS2,HW2,HM2,HB2,HZ2⟩
            case measure=>simp [intOf];omega
         · rw [if_neg hf,decide_eq_false hf] at hrun
           have HIn:Hid (I.map plainC=stepC t.1 ((O.take (q+1)).map plainC)):=Lib.hid (by rw [HIq.out,if_neg hf,List.append_nil];exact HI.out)
           have HWn:=Lib.hid (Owned.sub (b:=[(nm,.slice xo xs.length xc,xs)]) HWU.out)
           clear hf HIq HI
           go_upto_region 10 with fail
           rw [← HU.out]
           go_wp2_with fail
           go_roundw
           case rel=>exact ⟨q+1,I,by omega,by go_num,HIn,HLU,HSU,HWn,HMU,HBU,HZU⟩
           case measure=>simp [intOf];omega
     · have hke:q=O.length:=by omega
       have HE:Hid (∃ cvs,OwnC wr w.heap.size (.slice io I.length ic) cvs∧cvs.map plainC=candsL (ts.take (k+1)) names):=Lib.hid ⟨I,⟨hIl.mono (by have:=HB2'.out;omega),by have:=HW.out;rw [hke,List.drop_length,List.append_nil] at this;exact this⟩,by rw [HOl.out,HI.out,hke,List.take_length]⟩
       clear hIl
       go_wp2_with fail
       go_roundw
       case rel=>exact ⟨k+1,by omega,by go_num,HBi,HE⟩
       case measure=>simp [intOf];omega
  · have hke:ts.take k=ts:=List.take_of_length_le (by omega)
    rw [hke] at hOp
    have HO:=Lib.hid hO
    clear hO hke hli
    go_wp2_with fail
    go_ret
    exact ⟨_,O,rfl,HO.out,hOp,HB.out⟩
end
end Go.Proofs.YtdenehnneloegaaGreatDoor
