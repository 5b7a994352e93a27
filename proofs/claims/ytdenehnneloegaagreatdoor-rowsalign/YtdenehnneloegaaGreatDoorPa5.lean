/-
  Texts of these rows' proofs, laid one behind the other: PIns, PMathT, PWithin, PCheck.
  Conditions: those of each theorem.
-/
import Derived.WalkKit
import Derived.WalkMore
import Derived.IntWalk
import Derived.RegionTactic
import Derived.BigRegion
import Derived.Lib.Hide
import Derived.StillTailTactics
import Derived.BigQuiet
import Derived.Deep.QuietTactic
import Derived.Deep.Cut
import Derived.Test.YtdenehnneloegaaGreatDoorProg
import Derived.Test.YtdenehnneloegaaGreatDoorPa4
import Derived.Deep.RegionWith
import Derived.Lib.QuietBelow
import Derived.Test.YtdenehnneloegaaGreatDoorPa3
namespace Go.Proofs.YtdenehnneloegaaGreatDoor
set_option linter.unusedVariables false
set_option maxRecDepth 100000
set_option maxHeartbeats 8000000
section
open Go.RowKit Go.Shelf
def putK (p:Int × Int):PL→Nat
 | []=>0
 | q :: l=>if putK p l=0 then (if q.2≤p.2 then 1 else 0) else putK p l+1
theorem putK_le (p:Int × Int) (l:PL):putK p l≤l.length:=by
 induction l with
 | nil=>exact Nat.le_refl _
 | cons q l ih=>unfold putK;split <;> (try split) <;> simp <;> omega
theorem putK_is (p:Int × Int) (l:PL) (k:Nat) (hk:k≤l.length) (h1:k=0∨∃ q,l[k - 1]?=some q∧q.2≤p.2) (h2:∀ (t:Nat) q,k≤t→l[t]?=some q→p.2 < q.2):putK p l=k:=by
 induction l generalizing k with
 | nil=>simp at hk;subst hk;rfl
 | cons x l ih =>
  unfold putK
  cases k with
  | zero =>
   have e:=ih 0 (Nat.zero_le _) (.inl rfl) (fun t q _ hq=>h2 (t+1) q (Nat.zero_le _) (by simpa using hq))
   have:=h2 0 x (Nat.le_refl _) rfl
   rw [if_pos e,if_neg (by omega)]
  | succ k =>
   cases k with
   | zero =>
    have e:=ih 0 (Nat.zero_le _) (.inl rfl) (fun t q _ hq=>h2 (t+1) q (by omega) (by simpa using hq))
    rcases h1 with h | ⟨q,hq,hle⟩
    · omega
    · simp at hq;subst hq
      rw [if_pos e,if_pos hle]
   | succ k =>
    have e:=ih (k+1) (by simpa using hk) (by
     rcases h1 with h | ⟨q,hq,hle⟩
     · omega
     · exact .inr ⟨q,by simpa using hq,hle⟩) (fun t q ht hq=>h2 (t+1) q (by omega) (by simpa using hq))
    rw [if_neg (by omega),e]
def putB (l:PL) (p:Int × Int):PL:=l.take (putK p l) ++ p :: l.drop (putK p l)
theorem putB_len (l:PL) (p:Int × Int):(putB l p).length=l.length+1:=by have:=putK_le p l;simp [putB];omega
def sortB (l:PL):PL:=l.foldl putB []
theorem sortB_snoc (l:PL) (p:Int × Int):sortB (l ++ [p])=putB (sortB l) p:=by simp [sortB,List.foldl_append]
theorem sortB_len (l:PL):(sortB l).length=l.length:=by
 have:∀ (l m:PL),(l.foldl putB m).length=m.length+l.length:=fun l=>by
  induction l with
  | nil=>intro m;rfl
  | cons p l ih=>intro m;rw [List.foldl_cons,ih,putB_len];simp;omega
 have:=this l [];simpa [sortB] using this
def wayL (P S:PL) (p:Int × Int) (k:Nat) (R:PL):PL:=P ++ (S.take k ++ p :: S.drop k) ++ R
theorem way_here (P S:PL) (p:Int × Int) (k:Nat) (R:PL) (hk:k≤S.length):(wayL P S p k R)[P.length+k]?=some p:=by
 unfold wayL
 rw [List.append_assoc,List.getElem?_append_right (by omega),List.append_assoc,List.getElem?_append_right (by simp;omega)]
 simp [show min k S.length=k from by omega]
theorem way_ahead (P S:PL) (p q:Int × Int) (k:Nat) (R:PL) (hk:k+1≤S.length) (hq:S[k]?=some q):(wayL P S p (k+1) R)[P.length+k]?=some q:=by
 unfold wayL
 rw [List.append_assoc,List.getElem?_append_right (by omega),List.append_assoc,List.getElem?_append_left (by simp;omega),Nat.add_sub_cancel_left,List.getElem?_take,if_pos (by omega),hq]
theorem way_swap (P S:PL) (p q:Int × Int) (k:Nat) (R:PL) (hk:k+1≤S.length) (hq:S[k]?=some q):((wayL P S p (k+1) R).set (P.length+(k+1)) q).set (P.length+k) p=wayL P S p k R:=by
 obtain ⟨hl,e⟩:=List.getElem?_eq_some_iff.1 hq
 have h1:wayL P S p (k+1) R=(P ++ S.take k) ++ q :: p :: (S.drop (k+1) ++ R):=by
  unfold wayL;rw [List.take_succ_eq_append_getElem hl,e];simp
 have h2:wayL P S p k R=(P ++ S.take k) ++ p :: q :: (S.drop (k+1) ++ R):=by
  unfold wayL;rw [List.drop_eq_getElem_cons hl,e];simp
 rw [h1,h2]
 have hlen:(P ++ S.take k).length=P.length+k:=by simp;omega
 rw [List.set_append_right _ _ (by rw [hlen];omega),List.set_append_right _ _ (by rw [hlen];exact Nat.le_refl _),hlen,Nat.sub_self,show P.length+(k+1) - (P.length+k)=1 from by omega]
 rfl
def insL (l:PL) (a i:Nat):PL:=l.take a ++ sortB ((l.drop a).take (i - a)) ++ l.drop i
theorem insL_start (l:PL) (a:Nat):insL l a a=l:=by simp [insL,sortB]
theorem insL_one (l:PL) (a:Nat) (h:a < l.length):insL l a (a+1)=l:=by
 unfold insL
 rw [show a+1 - a=1 from by omega,List.drop_eq_getElem_cons h]
 simp only [List.take_succ_cons,List.take_zero]
 rw [show sortB [l[a]]=[l[a]] from by simp [sortB,putB,putK],List.append_assoc]
 rw [show [l[a]] ++ l.drop (a+1)=l.drop a from by rw [List.drop_eq_getElem_cons h];rfl,List.take_append_drop]
theorem insL_way (l:PL) (a i:Nat) (p:Int × Int) (hai:a≤i) (hp:l[i]?=some p) :
 insL l a i=wayL (l.take a) (sortB ((l.drop a).take (i - a))) p (i - a) (l.drop (i+1))∧insL l a (i+1)=wayL (l.take a) (sortB ((l.drop a).take (i - a))) p (putK p (sortB ((l.drop a).take (i - a)))) (l.drop (i+1)):=by
 obtain ⟨hi,e⟩:=List.getElem?_eq_some_iff.1 hp
 have hS:(sortB ((l.drop a).take (i - a))).length=i - a:=by rw [sortB_len];simp;omega
 constructor
 · unfold insL wayL
   generalize sortB ((l.drop a).take (i - a))=S at hS ⊢
   rw [List.take_of_length_le (show S.length≤i - a by omega),List.drop_eq_nil_of_le (show S.length≤i - a by omega),List.drop_eq_getElem_cons hi,e]
   simp
 · unfold insL wayL
   have:(l.drop a).take (i+1 - a)=(l.drop a).take (i - a) ++ [p]:=by
    rw [show i+1 - a=(i - a)+1 from by omega,List.take_succ_eq_append_getElem (by simp;omega),List.getElem_drop]
    simp [show a+(i - a)=i from by omega,e]
   rw [this,sortB_snoc]
   rfl
theorem grown_trans {a b c:World} {row:Option Nat} (h:a.grownBy b row) (k:b.grownBy c row):a.grownBy c row :=
 ⟨k.os.trans h.os,k.tape.trans h.tape,k.output.trans h.output,Nat.le_trans h.size k.size,fun i hi hne=>(k.block i (Nat.lt_of_lt_of_le hi h.size) hne).trans (h.block i hi hne)⟩
theorem grown_below {w w':World} {row:Option Nat} (h:Below w.heap.size w w'):w.grownBy w' row:=⟨h.os,h.tape,h.output,h.size,fun k hk _=>h.block k hk⟩
theorem grown_set (w:World) (g i:Nat) (v:Value):w.grownBy (w.setCell ⟨g,i,none⟩ v) (some g) :=
 ⟨rfl,rfl,rfl,by simp,fun k _ hne=>heap_setCell_other w ⟨g,i,none⟩ k v (fun e=>hne (by rw [e]))⟩
theorem grown_drewN (w:World) (n:Nat) (row:Option Nat):w.grownBy (w.drewN n) row:=⟨rfl,rfl,rfl,Nat.le_refl _,fun _ _ _=>rfl⟩
theorem OwnP.swap {w:World} {base:Nat} {T:TypeId} {g n:Nat} {l:PL} (h:OwnP w base T g n l) (i j:Nat) (a b c d:Int) (hi:i < n) (hj:j < n) :
 OwnP ((((w.setCell ⟨g,i * 2,none⟩ (.int .i64 a)).setCell ⟨g,i * 2+1,none⟩ (.int .i64 b)).setCell ⟨g,j * 2,none⟩ (.int .i64 c)).setCell ⟨g,j * 2+1,none⟩ (.int .i64 d)) base T g n ((l.set i (a,b)).set j (c,d)) :=
 (h.store i a b hi).store j c d hj
end
section
def Sorted (l:PL):Prop:=l.Pairwise (fun p q=>p.2≤q.2)
def ofB (v:Int) (l:PL):PL:=l.filter (fun p=>decide (p.2=v))
def StabOf (R L:PL):Prop:=Sorted R∧∀ v,ofB v R=ofB v L
theorem ofB_app (v:Int) (a b:PL):ofB v (a ++ b)=ofB v a ++ ofB v b:=by simp [ofB]
theorem ofB_cons (v:Int) (p:Int × Int) (l:PL):ofB v (p :: l)=if p.2=v then p :: ofB v l else ofB v l:=by
 unfold ofB;rw [List.filter_cons];simp
theorem ofB_none (v:Int) (l:PL) (h:∀ p ∈ l,p.2 ≠ v):ofB v l=[]:=List.filter_eq_nil_iff.2 (fun p hp=>by simp [h p hp])
theorem ofB_mem (v:Int) (l:PL) (p:Int × Int) (h:p ∈ l) (hv:p.2=v):p ∈ ofB v l:=List.mem_filter.2 ⟨h,by simp [hv]⟩
theorem mem_ofB {v:Int} {l:PL} {p:Int × Int} (h:p ∈ ofB v l):p ∈ l∧p.2=v:=by
 have:=List.mem_filter.1 h;simpa using this
theorem stab_mem {R L:PL} (h:∀ v,ofB v R=ofB v L) (p:Int × Int):p ∈ R ↔ p ∈ L :=
 ⟨fun hp=>(mem_ofB (by rw [← h];exact ofB_mem p.2 R p hp rfl)).1,fun hp=>(mem_ofB (by rw [h];exact ofB_mem p.2 L p hp rfl)).1⟩
theorem stab_unique:∀ (R R':PL),Sorted R→Sorted R'→(∀ v,ofB v R=ofB v R')→R=R'
 | [],[],_,_,_=>rfl
 | [],p :: R',_,_,h=>by have:=h p.2;rw [ofB_cons,if_pos rfl] at this;cases this
 | p :: R,[],_,_,h=>by have:=h p.2;rw [ofB_cons,if_pos rfl] at this;cases this
 | p :: R,q :: R',hs,hs',h=>by
  obtain ⟨h1,h2⟩:=List.pairwise_cons.1 hs
  obtain ⟨h1',h2'⟩:=List.pairwise_cons.1 hs'
  have hp:p ∈ q :: R':=(stab_mem h p).1 (by simp)
  have hq:q ∈ p :: R:=(stab_mem h q).2 (by simp)
  have e:p.2=q.2:=by
   have a1:q.2≤p.2:=by rcases List.mem_cons.1 hp with rfl | hp';exact Int.le_refl _;exact h1' p hp'
   have a2:p.2≤q.2:=by rcases List.mem_cons.1 hq with rfl | hq';exact Int.le_refl _;exact h1 q hq'
   omega
  have hh:=h p.2
  rw [ofB_cons,if_pos rfl,ofB_cons,if_pos e.symm] at hh
  injection hh with e1 e2
  subst e1
  rw [stab_unique R R' h2 h2' (fun v=>by
   have:=h v
   rw [ofB_cons,ofB_cons] at this
   split at this
   · injection this
   · exact this)]
theorem sorted_app {a b:PL} (ha:Sorted a) (hb:Sorted b) (h:∀ p ∈ a,∀ q ∈ b,p.2≤q.2):Sorted (a ++ b):=List.pairwise_append.2 ⟨ha,hb,h⟩
theorem putK_ahead (p:Int × Int) (l:PL) (hs:Sorted l):(∀ q ∈ l.take (putK p l),q.2≤p.2)∧(∀ q ∈ l.drop (putK p l),p.2 < q.2):=by
 induction l with
 | nil=>simp
 | cons x l ih =>
  obtain ⟨h1,h2⟩:=List.pairwise_cons.1 hs
  obtain ⟨i1,i2⟩:=ih h2
  unfold putK
  by_cases hz:putK p l=0
  · rw [if_pos hz]
    rw [hz] at i2
    simp at i2
    by_cases hx:x.2≤p.2
    · rw [if_pos hx]
      refine ⟨fun q hq=>?_,fun q hq=>?_⟩
      · simp at hq;subst hq;exact hx
      · simp at hq;exact i2 _ _ hq
    · rw [if_neg hx]
      refine ⟨fun q hq=>by simp at hq,fun q hq=>?_⟩
      rw [List.drop_zero] at hq
      rcases List.mem_cons.1 hq with rfl | hq
      · omega
      · exact i2 q.1 q.2 hq
  · rw [if_neg hz]
    refine ⟨fun q hq=>?_,fun q hq=>i2 q (by simpa using hq)⟩
    rw [List.take_succ_cons] at hq
    rcases List.mem_cons.1 hq with rfl | hq
    · cases l with
      | nil=>simp [putK] at hz
      | cons y l =>
       obtain ⟨k,hk⟩:∃ k,putK p (y :: l)=k+1:=⟨putK p (y :: l) - 1,by omega⟩
       have:=i1 y (by rw [hk];simp)
       have:=h1 y (by simp)
       omega
    · exact i1 q hq
theorem putB_stab (l:PL) (p:Int × Int) (hs:Sorted l):Sorted (putB l p)∧∀ v,ofB v (putB l p)=ofB v (l ++ [p]):=by
 obtain ⟨h1,h2⟩:=putK_ahead p l hs
 unfold putB
 have hsp:Sorted (l.take (putK p l) ++ l.drop (putK p l)):=by rw [List.take_append_drop];exact hs
 obtain ⟨s1,s2,s3⟩:=List.pairwise_append.1 hsp
 refine ⟨sorted_app s1 (List.pairwise_cons.2 ⟨fun q hq=>by have:=h2 q hq;omega,s2⟩) (fun q hq r hr=>?_),fun v=>?_⟩
 · rcases List.mem_cons.1 hr with rfl | hr
   · exact h1 q hq
   · exact s3 q hq r hr
 · have e:ofB v (l ++ [p])=ofB v (l.take (putK p l) ++ l.drop (putK p l) ++ [p]):=by rw [List.take_append_drop]
   rw [e,ofB_app,ofB_cons,ofB_app,ofB_app,ofB_cons]
   by_cases hv:p.2=v
   · rw [ofB_none v (l.drop (putK p l)) (fun q hq=>by have:=h2 q hq;omega)]
     simp [hv,ofB]
   · simp [hv,ofB]
theorem sortB_stab (l:PL):StabOf (sortB l) l:=by
 have key:∀ (l m n:PL),StabOf m n→StabOf (l.foldl putB m) (n ++ l):=fun l=>by
  induction l with
  | nil=>intro m n h;simpa using h
  | cons p l ih =>
   intro m n h
   rw [List.foldl_cons,show n ++ p :: l=(n ++ [p]) ++ l from by simp]
   obtain ⟨g1,g2⟩:=putB_stab m p h.1
   exact ih _ _ ⟨g1,fun v=>by rw [g2,ofB_app,ofB_app,h.2]⟩
 have:=key l [] [] ⟨List.Pairwise.nil,fun v=>rfl⟩
 simpa [sortB] using this
theorem sortB_is {R L:PL} (h:StabOf R L):R=sortB L:=stab_unique _ _ h.1 (sortB_stab L).1 (fun v=>by rw [h.2,(sortB_stab L).2])
theorem sortB_sorted {L:PL} (h:Sorted L):sortB L=L:=(sortB_is ⟨h,fun v=>rfl⟩).symm
theorem sortB_mem (L:PL) (p:Int × Int):p ∈ sortB L ↔ p ∈ L:=stab_mem (sortB_stab L).2 p
theorem sortB_parts (A1 A2 B1 B2:PL) (hA:Sorted (A1 ++ A2)) (hB:Sorted (B1 ++ B2)) (h12:∀ p ∈ A1,∀ q ∈ B2,p.2≤q.2) (h21:∀ p ∈ B1,∀ q ∈ A2,p.2 < q.2):sortB (A1 ++ B1) ++ sortB (A2 ++ B2)=sortB ((A1 ++ A2) ++ (B1 ++ B2)):=by
 obtain ⟨a1,a2,a3⟩:=List.pairwise_append.1 hA
 obtain ⟨b1,b2,b3⟩:=List.pairwise_append.1 hB
 refine sortB_is ⟨sorted_app (sortB_stab _).1 (sortB_stab _).1 (fun p hp q hq=>?_),fun v=>?_⟩
 · rw [sortB_mem] at hp hq
   rcases List.mem_append.1 hp with hp | hp <;> rcases List.mem_append.1 hq with hq | hq
   · exact a3 p hp q hq
   · exact h12 p hp q hq
   · have:=h21 p hp q hq;omega
   · exact b3 p hp q hq
 · rw [ofB_app,(sortB_stab _).2,(sortB_stab _).2]
   simp only [ofB_app]
   by_cases hv:∃ p ∈ B1,p.2=v
   · obtain ⟨p,hp,rfl⟩:=hv
     rw [ofB_none p.2 A2 (fun q hq=>by have:=h21 p hp q hq;omega)];simp
   · rw [ofB_none v B1 (fun q hq e=>hv ⟨q,hq,e⟩)];simp
end
section
open Go.RowKit Go.Shelf
theorem indexP_any (G:FuncId) (v1 v2:Value) (p:Int × Int→Bool) (ao:Option Addr) (cap:Nat) (xs:PL) (w:World) (hn:xs.length≤1099511627776) (hR:PairsAt w ao xs)
 (hent:∀ args w,(callFunc G args).run Tryz.prog w=.ok (.enter G args) w) (hG:∀ x1 x2 W,Below w.heap.size w W→Calls Tryz.prog G #[.agg #[.int .i64 x1,.int .i64 x2],v1,v2] W fun e w'=>e=.returned (.bool (p (x1,x2)))∧Below W.heap.size W w') :
 Calls Tryz.prog 169 #[.slice ao xs.length cap,.func (.func G) #[] #[v1,v2]] w fun e w'=>e=.returned (.int .i64 (firstAt p xs))∧Below w.heap.size w w':=by
 have HG:=Lib.hid hG
 have HRo:=Lib.hid hR
 have HF:=Lib.hid (firstAt_none p xs)
 have HS:=Lib.hid (firstAt_some p xs)
 clear hG hR
 generalize firstAt p xs=F at HF HS ⊢
 go_enter Tryz.func169,Tryz.ntmps169
 go_wp2_with fail
 go_loopw [8] (fun i wr=>∃ k:Nat,k≤xs.length∧i=.int .i64 k∧Hid (Below w.heap.size w wr)∧Hid (∀ (j:Nat) c,j < k→xs[j]?=some c→p c=false)) (fun i _=>xs.length - (intOf i).toNat)
 case atStart=>exact ⟨0,Nat.zero_le _,rfl,Lib.hid (Below.refl _ _),Lib.hid (fun j c h _=>by omega)⟩
 case round =>
  obtain ⟨k,hk,rfl,HB,HN⟩:=hrel
  by_cases hlt:k < xs.length
  · obtain ⟨⟨x1,x2⟩,hx⟩:∃ x,xs[k]?=some x:=⟨_,List.getElem?_eq_getElem hlt⟩
    have HX:=Lib.hid hx
    rcases (HRo.out.kept HB.out) with h0 | ⟨b,o,rfl,hA,hcell⟩
    · rw [h0] at hlt;simp at hlt
    obtain ⟨hc1,hc2⟩:=hcell k _ hx
    dsimp only at hc1 hc2
    have C:=Lib.hid (HG.out x1 x2 wr HB.out)
    clear hcell hx
    cases hp:p (x1,x2) with
    | true =>
     rw [hp] at C
     have E:=Lib.hid (HS.out k _ HX.out hp HN.out)
     go_wp2_with fail
     refine C.out.mono ?_;rintro e w' ⟨rfl,b1⟩
     have HB1:=Lib.hid (below_up HB.out b1)
     clear b1 hc1 hc2
     go_wp2_with fail
     go_ret
     exact ⟨by rw [E.out];rfl,HB1.out⟩
    | false =>
     rw [hp] at C
     have HN':Hid (∀ (j:Nat) c,j < k+1→xs[j]?=some c→p c=false):=Lib.hid (fun j c hj hc'=>by
      by_cases e:j=k
      · subst e;rw [HX.out] at hc';cases hc';exact hp
      · exact HN.out j c (by omega) hc')
     go_wp2_with fail
     refine C.out.mono ?_;rintro e w' ⟨rfl,b1⟩
     have HB1:=Lib.hid (below_up HB.out b1)
     clear b1 hc1 hc2
     go_wp2_with fail
     go_roundw
     case rel=>exact ⟨k+1,by omega,by go_num,HB1,HN'⟩
     case measure=>simp [intOf];omega
  · obtain rfl:k=xs.length:=by omega
    have E:=Lib.hid (HF.out (fun j c hc=>HN.out j c (by obtain ⟨h,_⟩:=List.getElem?_eq_some_iff.1 hc;exact h) hc))
    go_wp2_with fail
    go_ret
    exact ⟨by rw [E.out];rfl,HB.out⟩
theorem hasP_any (G:FuncId) (v1 v2:Value) (p:Int × Int→Bool) (ao:Option Addr) (cap:Nat) (xs:PL) (w:World) (hn:xs.length≤1099511627776) (hR:PairsAt w ao xs)
 (hent:∀ args w,(callFunc G args).run Tryz.prog w=.ok (.enter G args) w) (hG:∀ x1 x2 W,Below w.heap.size w W→Calls Tryz.prog G #[.agg #[.int .i64 x1,.int .i64 x2],v1,v2] W fun e w'=>e=.returned (.bool (p (x1,x2)))∧Below W.heap.size W w') :
 Calls Tryz.prog 110 #[.slice ao xs.length cap,.func (.func G) #[] #[v1,v2]] w fun e w'=>e=.returned (.bool (xs.any p))∧Below w.heap.size w w':=by
 have C:=Lib.hid (indexP_any G v1 v2 p ao cap xs w hn hR hent hG)
 have E:=Lib.hid (any_at p xs)
 clear hG hR hent
 generalize firstAt p xs=F at C E
 go_enter Tryz.func110,Tryz.ntmps110
 go_wp2_with fail
 refine C.out.mono ?_;rintro e w' ⟨rfl,b1⟩
 go_wp2_with fail
 go_ret
 exact ⟨by rw [← E.out];simp,b1⟩
def badP (na nb:Int) (p:Int × Int):Bool:=decide (p.1 < 0) || decide (na≤p.1) || decide (p.2 < 0) || decide (nb≤p.2)
theorem within1_any (x1 x2 na nb:Int) (b1 b2:Nat) (w:World) (h1:w.cell? ⟨b1,0,none⟩=some (.int .i64 na)) (h2:w.cell? ⟨b2,0,none⟩=some (.int .i64 nb)) :
 Calls Tryz.prog 111 #[.agg #[.int .i64 x1,.int .i64 x2],.pointer (some ⟨b1,0,none⟩),.pointer (some ⟨b2,0,none⟩)] w fun e w'=>e=.returned (.bool (badP na nb (x1,x2)))∧Below w.heap.size w w':=by
 have HB:Hid (Below w.heap.size w (w.alloc (.cells #[.int .i64 x1,.int .i64 x2] 45))):=Lib.hid ((Below.refl _ w).alloc (Nat.le_refl _) _)
 have E:Hid (badP na nb (x1,x2)=(decide (x1 < 0) || decide (na≤x1) || decide (x2 < 0) || decide (nb≤x2))):=Lib.hid rfl
 generalize badP na nb (x1,x2)=F at E ⊢
 have g1:=cell_alloc_l (.cells #[.int .i64 x1,.int .i64 x2] 45) h1
 have g2:=cell_alloc_l (.cells #[.int .i64 x1,.int .i64 x2] 45) h2
 have l1:=block_lt_of_cell h1
 have l2:=block_lt_of_cell h2
 by_cases k1:x1 < 0
 · have E':=Lib.hid (show F=true from by rw [E.out];simp [k1])
   go_enter Tryz.func111,Tryz.ntmps111
   go_wp2_with fail
   go_ret
   exact ⟨by rw [E'.out];rfl,HB.out⟩
 by_cases k2:na≤x1
 · have E':=Lib.hid (show F=true from by rw [E.out];simp [k2])
   go_enter Tryz.func111,Tryz.ntmps111
   go_wp2_with fail
   go_ret
   exact ⟨by rw [E'.out];rfl,HB.out⟩
 by_cases k3:x2 < 0
 · have E':=Lib.hid (show F=true from by rw [E.out];simp [k3])
   go_enter Tryz.func111,Tryz.ntmps111
   go_wp2_with fail
   go_ret
   exact ⟨by rw [E'.out];rfl,HB.out⟩
 by_cases k4:nb≤x2
 · have E':=Lib.hid (show F=true from by rw [E.out];simp [k4])
   go_enter Tryz.func111,Tryz.ntmps111
   go_wp2_with fail
   go_ret
   exact ⟨by rw [E'.out];rfl,HB.out⟩
 · have E':=Lib.hid (show F=false from by rw [E.out];simp [k1,k2,k3,k4])
   go_enter Tryz.func111,Tryz.ntmps111
   go_wp2_with fail
   go_ret
   exact ⟨by rw [E'.out];rfl,HB.out⟩
theorem withinP_any (ao:Option Addr) (cap:Nat) (xs:PL) (na nb:Int) (w:World) (hn:xs.length≤1099511627776) (hR:PairsAt w ao xs) :
 Calls Tryz.prog 56 #[.slice ao xs.length cap,.int .i64 na,.int .i64 nb] w fun e w'=>e=.returned (.bool (!(xs.any (badP na nb))))∧Below w.heap.size w w':=by
 obtain ⟨_,hB1,hB2⟩:=two_new w (.cells #[.int .i64 na] 3) (.cells #[.int .i64 nb] 3)
 have hb:=two_below w (.cells #[.int .i64 na] 3) (.cells #[.int .i64 nb] 3)
 have C:=Lib.hid (hasP_any 111 (.pointer (some ⟨w.heap.size,0,none⟩)) (.pointer (some ⟨w.heap.size+1,0,none⟩)) (badP na nb) ao cap xs _ hn (hR.kept hb) (enters_of Tryz.func111 (by kernel_rfl) rfl)
  (fun x1 x2 W hW=>within1_any x1 x2 na nb w.heap.size (w.heap.size+1) W (cell_of_box_l ((hW.block _ (lt_of_heap hB1)).trans hB1)).1 (cell_of_box_l ((hW.block _ (lt_of_heap hB2)).trans hB2)).1))
 have HB:=Lib.hid hb
 clear hB1 hB2 hb hR
 go_enter Tryz.func56,Tryz.ntmps56
 go_wp2_with fail
 refine C.out.mono ?_;rintro e w' ⟨rfl,b1⟩
 have B1:=Lib.hid (below_up HB.out b1)
 clear b1
 go_wp2_with fail
 go_ret
 exact ⟨rfl,B1.out⟩
end
section
open Go.RowKit Go.Shelf
def checkP (l:PL) (na nb:Int):Int:=if na < 0∨nb < 0 then 1 else if l.any (badP na nb) then 11 else if twiceL l then 10 else if risesB l then 0 else 12
theorem checkP1 {l:PL} {na nb:Int} (h:na < 0∨nb < 0):checkP l na nb=1:=by unfold checkP;rw [if_pos h]
theorem checkP2 {l:PL} {na nb:Int} (h:¬ (na < 0∨nb < 0)) (k:l.any (badP na nb)=true):checkP l na nb=11:=by unfold checkP;rw [if_neg h,if_pos k]
theorem checkP3 {l:PL} {na nb:Int} (h:¬ (na < 0∨nb < 0)) (k:l.any (badP na nb)=false) (m:twiceL l=true):checkP l na nb=10:=by unfold checkP;rw [if_neg h,k,m];rfl
theorem checkP4 {l:PL} {na nb:Int} (h:¬ (na < 0∨nb < 0)) (k:l.any (badP na nb)=false) (m:twiceL l=false) (r:risesB l=false):checkP l na nb=12:=by unfold checkP;rw [if_neg h,k,m,r];rfl
theorem checkP5 {l:PL} {na nb:Int} (h:¬ (na < 0∨nb < 0)) (k:l.any (badP na nb)=false) (m:twiceL l=false) (r:risesB l=true):checkP l na nb=0:=by unfold checkP;rw [if_neg h,k,m,r];rfl
theorem pcheck_any (ao:Option Addr) (cap:Nat) (xs:PL) (na nb:Int) (w:World) (hn:xs.length≤274877906944) (hs:okP xs) (hR:PairsAt w ao xs) :
 Calls Tryz.prog 18 #[.slice ao xs.length cap,.int .i64 na,.int .i64 nb] w fun e w'=>e=.returned (.int .i64 (checkP xs na nb))∧Below w.heap.size w w':=by
 have C1:=Lib.hid (withinP_any ao cap xs na nb w (by omega) hR)
 have C2:=Lib.hid (fun W (h:Below w.heap.size w W)=>ptwice_any ao cap xs W (by omega) hs (hR.kept h))
 have C3:=Lib.hid (fun W (h:Below w.heap.size w W)=>list_any ao cap xs W hn (hR.kept h))
 have C4:=Lib.hid (fun W g (h:PairsAt W (some ⟨g,0,none⟩) xs)=>isSorted_any g 0 xs.length xs W hn h)
 have E1:=Lib.hid (@checkP1 xs na nb)
 have E2:=Lib.hid (@checkP2 xs na nb)
 have E3:=Lib.hid (@checkP3 xs na nb)
 have E4:=Lib.hid (@checkP4 xs na nb)
 have E5:=Lib.hid (@checkP5 xs na nb)
 clear hs hR
 generalize checkP xs na nb=F at E1 E2 E3 E4 E5 ⊢
 generalize xs.any (badP na nb)=b1 at C1 E2 E3 E4 E5
 generalize twiceL xs=b2 at C2 E3 E4 E5
 generalize risesB xs=b3 at C4 E4 E5
 by_cases ha:na < 0
 · have E:=Lib.hid (E1.out (.inl ha))
   go_enter Tryz.func18,Tryz.ntmps18
   go_wp2_with fail
   go_ret
   exact ⟨by rw [E.out];rfl,Below.refl _ _⟩
 by_cases hb:nb < 0
 · have E:=Lib.hid (E1.out (.inr hb))
   go_enter Tryz.func18,Tryz.ntmps18
   go_wp2_with fail
   go_ret
   exact ⟨by rw [E.out];rfl,Below.refl _ _⟩
 have hab:¬ (na < 0∨nb < 0):=fun h=>h.elim ha hb
 cases b1 with
 | true =>
  have E:=Lib.hid (E2.out hab (by trivial))
  go_enter Tryz.func18,Tryz.ntmps18
  go_wp2_with fail
  refine C1.out.mono ?_;rintro e w1 ⟨rfl,h1⟩
  go_wp2_with fail
  go_ret
  exact ⟨by rw [E.out];rfl,h1⟩
 | false =>
  cases b2 with
  | true =>
   have E:=Lib.hid (E3.out hab (by trivial) (by trivial))
   go_enter Tryz.func18,Tryz.ntmps18
   go_wp2_with fail
   refine C1.out.mono ?_;rintro e w1 ⟨rfl,h1⟩
   have H1:=Lib.hid h1
   clear h1
   go_wp2_with fail
   refine (C2.out _ H1.out).mono ?_;rintro e w2 ⟨rfl,h2⟩
   have H2:=Lib.hid (below_up H1.out h2)
   clear h2
   go_wp2_with fail
   go_ret
   exact ⟨by rw [E.out];rfl,H2.out⟩
  | false =>
   go_enter Tryz.func18,Tryz.ntmps18
   go_wp2_with fail
   refine C1.out.mono ?_;rintro e w1 ⟨rfl,h1⟩
   have H1:=Lib.hid h1
   clear h1
   go_wp2_with fail
   refine (C2.out _ H1.out).mono ?_;rintro e w2 ⟨rfl,h2⟩
   have H2:=Lib.hid (below_up H1.out h2)
   clear h2
   go_wp2_with fail
   refine (C3.out _ H2.out).mono ?_;rintro e w3 ⟨g,rfl,h3,h4⟩
   have H3:=Lib.hid (below_up H2.out h4)
   have HP:=Lib.hid h3.pairs
   clear h3 h4
   go_wp2_with fail
   refine (C4.out _ g HP.out).mono ?_;rintro e w4 ⟨rfl,h5⟩
   have H4:=Lib.hid (below_up H3.out h5)
   clear h5
   cases b3 with
   | true =>
    have E:=Lib.hid (E5.out hab (by trivial) (by trivial) (by trivial))
    go_wp2_with fail
    go_ret
    exact ⟨by rw [E.out];rfl,H4.out⟩
   | false =>
    have E:=Lib.hid (E4.out hab (by trivial) (by trivial) (by trivial))
    go_wp2_with fail
    go_ret
    exact ⟨by rw [E.out];rfl,H4.out⟩
theorem any_no (f:Int × Int→Bool) (l:PL) (h:∀ (j:Nat) p,j < l.length→l[j]?=some p→f p=false):l.any f=false :=
 List.any_eq_false.2 (fun p hp=>by
  obtain ⟨i,hi,rfl⟩:=List.getElem_of_mem hp
  rw [h i _ hi (List.getElem?_eq_getElem hi)];simp)
theorem any_yes (f:Int × Int→Bool) (l:PL) (k:Nat) (p:Int × Int) (hp:l[k]?=some p) (h:f p=true):l.any f=true :=
 List.any_eq_true.2 ⟨p,List.mem_of_getElem? hp,h⟩
theorem notin_next {α:Type} (xs:List α) (k:Nat) (x y:α) (hy:xs[k]?=some y) (h:x ∉ xs.take k) (hne:¬ y=x):x ∉ xs.take (k+1):=by
 obtain ⟨hk,e⟩:=List.getElem?_eq_some_iff.1 hy
 rw [List.take_succ_eq_append_getElem hk,e,List.mem_append]
 rintro (h' | h')
 · exact h h'
 · simp at h';exact hne h'.symm
theorem in_take {α:Type} (xs:List α) (k i:Nat) (x:α) (hx:xs[k]?=some x) (h:k < i):x ∈ xs.take i:=by
 refine List.mem_of_getElem? (i:=k) ?_
 rw [List.getElem?_take,if_pos h,hx]
theorem rcheckP_any (ao:Option Addr) (cap:Nat) (xs:PL) (na nb:Int) (w:World) (hn:xs.length≤274877906944) (hR:PairsAt w ao xs) :
 Calls Tryz.prog 31 #[.slice ao xs.length cap,.int .i64 na,.int .i64 nb] w fun e w'=>e=.returned (.int .i64 (checkP xs na nb))∧Below w.heap.size w w':=by
 have HRo:=Lib.hid hR
 have E1:=Lib.hid (@checkP1 xs na nb)
 have E2:=Lib.hid (@checkP2 xs na nb)
 have E3:=Lib.hid (@checkP3 xs na nb)
 have E4:=Lib.hid (@checkP4 xs na nb)
 have E5:=Lib.hid (@checkP5 xs na nb)
 clear hR
 generalize checkP xs na nb=F at E1 E2 E3 E4 E5 ⊢
 by_cases ha:na < 0
 · have E:=Lib.hid (E1.out (.inl ha))
   go_enter Tryz.func31,Tryz.ntmps31
   go_wp2_with fail
   go_ret
   exact ⟨by rw [E.out];rfl,Below.refl _ _⟩
 by_cases hb:nb < 0
 · have E:=Lib.hid (E1.out (.inr hb))
   go_enter Tryz.func31,Tryz.ntmps31
   go_wp2_with fail
   go_ret
   exact ⟨by rw [E.out];rfl,Below.refl _ _⟩
 have hab:Hid (¬ (na < 0∨nb < 0)):=Lib.hid (fun h=>h.elim ha hb)
 have HAny:=Lib.hid (any_yes (badP na nb) xs)
 have HNone:=Lib.hid (any_no (badP na nb) xs)
 go_enter Tryz.func31,Tryz.ntmps31
 go_wp2_with fail
 clear ha hb
 go_loopw [7] (fun i wr=>∃ k:Nat,k≤xs.length∧i=.int .i64 k∧Hid (Below w.heap.size w wr)∧Hid (∀ (j:Nat) p,j < k→xs[j]?=some p→badP na nb p=false)) (fun i _=>xs.length - (intOf i).toNat)
 case atStart=>exact ⟨0,Nat.zero_le _,rfl,Lib.hid (Below.refl _ _),Lib.hid (fun j p h _=>by omega)⟩
 case round =>
  obtain ⟨k,hk,rfl,HB,HJ⟩:=hrel
  by_cases hlt:k < xs.length
  · obtain ⟨⟨x1,x2⟩,hx⟩:∃ x,xs[k]?=some x:=⟨_,List.getElem?_eq_getElem hlt⟩
    rcases (HRo.out.kept HB.out) with h0 | ⟨b,o,rfl,hA,hcell⟩
    · rw [h0] at hlt;simp at hlt
    obtain ⟨hc1,hc2⟩:=hcell k _ hx
    dsimp only at hc1 hc2
    have HX:=Lib.hid hx
    clear hcell hx
    have HBad:Hid (badP na nb (x1,x2)=(decide (x1 < 0) || decide (na≤x1) || decide (x2 < 0) || decide (nb≤x2))):=Lib.hid rfl
    have HE:Hid (badP na nb (x1,x2)=true→F=11):=Lib.hid (fun h=>E2.out hab.out (HAny.out k _ HX.out h))
    by_cases k1:x1 < 0
    · have E:=Lib.hid (HE.out (by rw [HBad.out];simp [k1]))
      go_wp2_with fail
      go_ret
      exact ⟨by rw [E.out];rfl,HB.out⟩
    by_cases k2:na≤x1
    · have E:=Lib.hid (HE.out (by rw [HBad.out];simp [k2]))
      go_wp2_with fail
      go_ret
      exact ⟨by rw [E.out];rfl,HB.out⟩
    by_cases k3:x2 < 0
    · have E:=Lib.hid (HE.out (by rw [HBad.out];simp [k3]))
      go_wp2_with fail
      go_ret
      exact ⟨by rw [E.out];rfl,HB.out⟩
    by_cases k4:nb≤x2
    · have E:=Lib.hid (HE.out (by rw [HBad.out];simp [k4]))
      go_wp2_with fail
      go_ret
      exact ⟨by rw [E.out];rfl,HB.out⟩
    have HJ':Hid (∀ (j:Nat) p,j < k+1→xs[j]?=some p→badP na nb p=false):=Lib.hid (fun j p hj hp=>by
     by_cases e:j=k
     · subst e;rw [HX.out] at hp;cases hp;rw [HBad.out];simp [k1,k2,k3,k4]
     · exact HJ.out j p (by omega) hp)
    go_wp2_with fail
    go_roundw
    case rel=>exact ⟨k+1,by omega,by go_num,HB,HJ'⟩
    case measure=>simp [intOf];omega
  · obtain rfl:k=xs.length:=by omega
    have HNo:=Lib.hid (HNone.out HJ.out)
    have HT:=Lib.hid (twice_yes xs)
    have HTn:=Lib.hid (twice_no xs)
    clear hlt HJ HAny HNone E1 E2
    go_wp2_with fail
    go_loopw [8] (fun i wr=>∃ k:Nat,k≤xs.length∧i=.int .i64 k∧Hid (Below w.heap.size w wr)∧Hid (((xs.map Prod.fst).take k).Nodup)∧Hid (((xs.map Prod.snd).take k).Nodup)) (fun i _=>xs.length - (intOf i).toNat)
    case atStart=>exact ⟨0,Nat.zero_le _,rfl,HB,Lib.hid (by simp),Lib.hid (by simp)⟩
    case round =>
     obtain ⟨i,hi,rfl,HB,HD1,HD2⟩:=hrel
     by_cases hlt:i < xs.length
     · obtain ⟨⟨x1,x2⟩,hx⟩:∃ x,xs[i]?=some x:=⟨_,List.getElem?_eq_getElem hlt⟩
       have HX:=Lib.hid hx
       clear hx
       go_wp2_with fail
       obtain ⟨wo,rfl⟩:∃ wo:World,wo=wr:=⟨_,rfl⟩
       go_loopw [9] (fun q wr=>∃ k:Nat,k≤i∧q=.int .i64 k∧Hid (Below w.heap.size w wr)∧Hid (x1 ∉ (xs.map Prod.fst).take k)∧Hid (x2 ∉ (xs.map Prod.snd).take k)) (fun q _=>i - (intOf q).toNat)
       case atStart=>exact ⟨0,Nat.zero_le _,rfl,HB,Lib.hid (by simp),Lib.hid (by simp)⟩
       case round =>
        obtain ⟨k,hk,rfl,HB,HM1,HM2⟩:=hrel
        by_cases hki:k < i
        · obtain ⟨⟨y1,y2⟩,hy⟩:∃ x,xs[k]?=some x:=⟨_,List.getElem?_eq_getElem (by omega)⟩
          rcases (HRo.out.kept HB.out) with h0 | ⟨b,o,rfl,hA,hcell⟩
          · rw [h0] at hlt;simp at hlt
          obtain ⟨hc1,hc2⟩:=hcell i _ HX.out
          obtain ⟨hd1,hd2⟩:=hcell k _ hy
          dsimp only at hc1 hc2 hd1 hd2
          have hkl:k < xs.length:=by omega
          have HY:=Lib.hid hy
          clear hcell hy
          by_cases e1:y1=x1
          · have E:=Lib.hid (E3.out hab.out HNo.out (HT.out i _ HX.out (.inl (in_take _ k i x1 (by rw [List.getElem?_map,HY.out,← e1];rfl) hki))))
            go_wp2_with fail
            go_quiet (fail)
            go_wp2_with fail
            go_ret
            exact ⟨by rw [E.out];rfl,bdn HB.out⟩
          by_cases e2:y2=x2
          · have E:=Lib.hid (E3.out hab.out HNo.out (HT.out i _ HX.out (.inr (in_take _ k i x2 (by rw [List.getElem?_map,HY.out,← e2];rfl) hki))))
            go_wp2_with fail
            go_quiet (fail)
            go_wp2_with fail
            go_ret
            exact ⟨by rw [E.out];rfl,bdn HB.out⟩
          have HM1':=Lib.hid (notin_next _ k x1 y1 (by rw [List.getElem?_map,HY.out];rfl) HM1.out e1)
          have HM2':=Lib.hid (notin_next _ k x2 y2 (by rw [List.getElem?_map,HY.out];rfl) HM2.out e2)
          have hb1:(y1 == x1)=false:=by simp [e1]
          have hb2:(y2 == x2)=false:=by simp [e2]
          go_wp2_with fail
          go_quiet (fail)
          have HB':Hid (Below w.heap.size w (wr.drewN nq)):=Lib.hid (bdn HB.out)
          go_wp2_with fail
          go_roundw
          case rel=>exact ⟨k+1,by omega,by go_num,HB',HM1',HM2'⟩
          case measure=>simp [intOf];omega
        · obtain rfl:k=i:=by omega
          have HD1':=Lib.hid (nodupZ_next _ k x1 (by rw [List.getElem?_map,HX.out];rfl) HD1.out HM1.out)
          have HD2':=Lib.hid (nodupZ_next _ k x2 (by rw [List.getElem?_map,HX.out];rfl) HD2.out HM2.out)
          go_wp2_with fail
          go_roundw
          case rel=>exact ⟨k+1,by omega,by go_num,HB,HD1',HD2'⟩
          case measure=>simp [intOf];omega
     · obtain rfl:i=xs.length:=by omega
       have HTw:=Lib.hid (HTn.out (by rw [List.map_take];exact HD1.out) (by rw [List.map_take];exact HD2.out))
       have HRn:=Lib.hid (rises_no xs)
       have HRy:=Lib.hid (rises_yes xs)
       clear hlt HD1 HD2 HT HTn E3
       go_wp2_with fail
       go_loopw [10] (fun q wr=>∃ k:Nat,1≤k∧k≤xs.length+1∧q=.int .i64 k∧Hid (Below w.heap.size w wr)∧Hid (∀ (j:Nat) p q,j+1 < k→xs[j]?=some p→xs[j+1]?=some q→p.2≤q.2)) (fun q _=>xs.length - (intOf q).toNat)
       case atStart=>exact ⟨1,Nat.le_refl _,by omega,rfl,HB,Lib.hid (fun j p q h _ _=>by omega)⟩
       case round =>
        obtain ⟨n,hk1,hk2,rfl,HB,HJ⟩:=hrel
        by_cases hlt:n < xs.length
        · obtain ⟨m,hmk⟩:∃ m,n=m+1:=⟨n - 1,by omega⟩
          obtain ⟨⟨x1,x2⟩,hx⟩:∃ x,xs[m]?=some x:=⟨_,List.getElem?_eq_getElem (by omega)⟩
          obtain ⟨⟨y1,y2⟩,hy⟩:∃ x,xs[n]?=some x:=⟨_,List.getElem?_eq_getElem (by omega)⟩
          rcases (HRo.out.kept HB.out) with h0 | ⟨b,o,rfl,hA,hcell⟩
          · rw [h0] at hlt;simp at hlt
          obtain ⟨hc1,hc2⟩:=hcell m _ hx
          obtain ⟨hd1,hd2⟩:=hcell n _ hy
          dsimp only at hc1 hc2 hd1 hd2
          have HX:=Lib.hid hx
          have HYY:Hid (xs[m+1]?=some (y1,y2)):=Lib.hid (by rw [← hmk];exact hy)
          have hsub:(n:Int) - 1=(m:Int):=by omega
          have hwr:IntKind.i64.wrap ((n:Int) - 1)=(m:Int):=by rw [IntWalk.i64_in _ (by omega)];exact hsub
          have hwm:IntKind.i64.wrap (m:Int)=(m:Int):=IntWalk.i64_in _ (by omega)
          have hlm:m < xs.length:=by omega
          have HM:=Lib.hid hmk
          clear hcell hx hy hmk
          by_cases hyx:y2 < x2
          · have E:=Lib.hid (E4.out hab.out HNo.out HTw.out (HRn.out m _ _ HX.out HYY.out hyx))
            go_wp2_with fail
            go_quiet (fail)
            go_wp2_with fail
            go_ret
            exact ⟨by rw [E.out];rfl,bdn HB.out⟩
          have HJ':Hid (∀ (j:Nat) p q,j+1 < n+1→xs[j]?=some p→xs[j+1]?=some q→p.2≤q.2):=Lib.hid (fun j p q hj hp hq=>by
           by_cases e:j=m
           · subst e;rw [HX.out] at hp;rw [HYY.out] at hq;cases hp;cases hq;show x2≤y2;omega
           · exact HJ.out j p q (by have:=HM.out;omega) hp hq)
          go_wp2_with fail
          go_quiet (fail)
          have HB':Hid (Below w.heap.size w (wr.drewN nq)):=Lib.hid (bdn HB.out)
          go_wp2_with fail
          go_roundw
          case rel=>exact ⟨n+1,by omega,by omega,by go_num,HB',HJ'⟩
          case measure=>simp [intOf];omega
        · have E:=Lib.hid (E5.out hab.out HNo.out HTw.out (HRy.out (fun j p q _ hp hq=>HJ.out j p q (by have:=(List.getElem?_eq_some_iff.1 hq).1;omega) hp hq)))
          go_wp2_with fail
          go_ret
          exact ⟨by rw [E.out];rfl,HB.out⟩
end
end Go.Proofs.YtdenehnneloegaaGreatDoor
