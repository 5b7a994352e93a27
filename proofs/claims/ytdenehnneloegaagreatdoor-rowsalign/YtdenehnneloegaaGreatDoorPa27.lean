/-
  Texts of these rows' proofs, laid one behind the other: CTell, CPick, CAlign.
  Conditions: those of each theorem.
-/
import Derived.Deep.OwnRows
import Derived.WalkKit
import Derived.WalkMore
import Derived.IntWalk
import Derived.WalkArith
import Derived.OwnWalkIn
import Derived.TacticsInMore
import Derived.LoopNIn
import Derived.LoopIn
import Derived.Lib.Hide
import Derived.RegionTactic
import Derived.Deep.RegionHeld3
import Derived.Stop.RegionWithIn
import Derived.Test.YtdenehnneloegaaGreatDoorProg
import Derived.Test.YtdenehnneloegaaGreatDoorPa1
import Derived.Test.YtdenehnneloegaaGreatDoorPa8
import Derived.Maps.RangeWalk
import Derived.Sort.KeysCollected
import Derived.Test.YtdenehnneloegaaGreatDoorPa21
import Derived.Test.YtdenehnneloegaaGreatDoorPa26
import Derived.RangeFuncCalls
import Derived.Deep.AppendLies
import Derived.Deep.WholeRow
import Derived.Laws.EntriesVeiled
import Derived.Sort.CutIn
import Derived.Test.YtdenehnneloegaaGreatDoorPa9
import Derived.Test.YtdenehnneloegaaGreatDoorPa24
import Derived.Test.YtdenehnneloegaaGreatDoorPa23
import Derived.Test.YtdenehnneloegaaGreatDoorPa22
import Derived.OwnWalk
import Derived.Maps.OwnSet
namespace Go.Proofs.YtdenehnneloegaaGreatDoor
set_option linter.unusedVariables false
set_option maxRecDepth 100000
set_option maxHeartbeats 8000000
section
open Go.RowKit Go.Shelf
attribute [local go_sem] Oper.semAt_some
def ownOf (X:Nat) (A:World):Option Nat:=match A.heap[X]? with | some (.cells cs _ _)=>(cs[0]?).bind Value.ownBlock | _=>none
theorem ownOf_boxed {A:World} {X:Nat} {v:Value} {T:TypeId} {fr:Nat × Nat} (h:A.heap[X]?=some (.cells #[v] T fr)):ownOf X A=v.ownBlock:=by unfold ownOf;rw [h];rfl
theorem ownOf_same {A B:World} {X:Nat} (h:B.heap[X]?=A.heap[X]?):ownOf X B=ownOf X A:=by unfold ownOf;rw [h]
structure KeepsY (X:Nat) (A B:World):Prop where
 size:A.heap.size≤B.heap.size
 same:∀ (k:Nat) (cs:Array Value) (T:TypeId) (fr:Nat × Nat),A.heap[k]?=some (.cells cs T fr)→k ≠ X→ownOf X A ≠ some k→B.heap[k]?=some (.cells cs T fr)
 new:∀ k,ownOf X B=some k→ownOf X A=some k∨A.heap.size≤k
theorem KeepsY.refl (X:Nat) (A:World):KeepsY X A A:=⟨Nat.le_refl _,fun _ _ _ _ h _ _=>h,fun _ h=>.inl h⟩
theorem KeepsY.trans {X:Nat} {A B C:World} (h:KeepsY X A B) (k:KeepsY X B C):KeepsY X A C:=by
 refine ⟨Nat.le_trans h.size k.size,fun i cs T fr hi hX ho=>?_,fun i hi=>?_⟩
 · refine k.same i cs T fr (h.same i cs T fr hi hX ho) hX (fun e=>?_)
   rcases h.new i e with e | e
   · exact ho e
   · have:=lt_of_heap hi;omega
 · rcases k.new i hi with e | e
   · exact h.new i e
   · exact .inr (Nat.le_trans h.size e)
theorem KeepsY.of_below {X:Nat} {A B:World} (hX:X < A.heap.size) (h:Below A.heap.size A B):KeepsY X A B :=
 ⟨h.size,fun k cs T fr hk _ _=>(h.block k (lt_of_heap hk)).trans hk,fun k hk=>.inl (by rw [ownOf_same (h.block X hX)] at hk;exact hk)⟩
theorem KeepsY.put {X l:Nat} {A:World} {o:Obj} (o':Obj) (hX:X < l) (ho:A.heap[l]?=some o) (hc:o.isCells=false):KeepsY X A (A.putObj l o'):=by
 refine ⟨by simp,fun k cs T fr hk _ _=>?_,fun k hk=>.inl ?_⟩
 · have hne:k ≠ l:=by rintro rfl;rw [hk] at ho;cases ho;cases hc
   rw [World.putObj_heap_other hne];exact hk
 · rw [ownOf_same (World.putObj_heap_other (by omega))] at hk;exact hk
theorem KeepsY.append {A w3:World} {X g n cap:Nat} {T:TypeId} {v:Value} {tmp:Obj} (hv:A.heap[X]?=some (.cells #[v] T (0,0))) (hg:(A.alloc tmp).grownBy w3 v.ownBlock)
 (hl:v.ownBlock=some g∨g=A.heap.size+1) (hq:(w3.setCell ⟨X,0,none⟩ (.slice (some ⟨g,0,none⟩) n cap)).heap[X]?=some (.cells #[.slice (some ⟨g,0,none⟩) n cap] T (0,0))):KeepsY X A (w3.setCell ⟨X,0,none⟩ (.slice (some ⟨g,0,none⟩) n cap)):=by
 have ho:=ownOf_boxed hv
 refine ⟨?_,fun k cs T' fr hk hX hne=>?_,fun k hk=>?_⟩
 · have:=hg.size;simp at this ⊢;omega
 · have hlt:=lt_of_heap hk
   rw [heap_setCell_other _ _ _ _ (by show k ≠ X;exact hX),hg.block k (by simp;omega) (fun e=>hne (by rw [ho];exact e.symm)),Below.heap_alloc _ _ _ hlt]
   exact hk
 · rw [ownOf_boxed hq] at hk
   have hk':g=k:=by simpa [Value.ownBlock] using hk
   subst hk'
   rw [ho]
   rcases hl with e | e
   · exact .inl e
   · exact .inr (by omega)
theorem cell_block {w:World} {A:Addr} {u:Value} (h:w.cell? A=some u):∃ cs T fr,w.heap[A.block]?=some (.cells cs T fr):=by
 unfold World.cell? at h
 cases hb:w.heap[A.block]? with
 | none=>rw [hb] at h;cases h
 | some o =>
  cases o with
  | cells cs T fr=>exact ⟨cs,T,fr,rfl⟩
  | _=>rw [hb] at h;cases h
theorem block_ne {w:World} {A:Addr} {b:Nat} {cs:Array Value} {T:TypeId} {fr:Nat × Nat} {u:Value} (hb:w.heap[b]?=some (.cells cs T fr)) (hcs:∀ j:Nat,cs[j]? ≠ some u) (h:w.cell? A=some u):A.block ≠ b:=fun e=>by
 unfold World.cell? at h
 rw [e,hb] at h
 simp only at h
 split at h
 · cases h
 · exact hcs _ h
theorem KeepsY.cell {X:Nat} {A B:World} (K:KeepsY X A B) (h0:ownOf X A=none) {P:Addr} {u:Value} (hne:P.block ≠ X) (h:A.cell? P=some u):B.cell? P=some u:=by
 obtain ⟨cs,T,fr,hb⟩:=cell_block h
 exact (World.cell?_of_block (a:=P) ((K.same _ cs T fr hb hne (by rw [h0];simp)).trans hb.symm)).trans h
theorem nil_no {u:Value} (hu:u ≠ .slice none 0 0):∀ j:Nat,(#[Value.slice none 0 0]:Array Value)[j]? ≠ some u:=fun j h=>by
 cases j with
 | zero=>simp at h;exact hu h.symm
 | succ j=>simp at h
theorem KeepsY.ints {X:Nat} {A B:World} (K:KeepsY X A B) {T:TypeId} (hX:A.heap[X]?=some (.cells #[.slice none 0 0] T (0,0))) {ao:Option Addr} {l:List Int} (h:IntsAt A ao l):IntsAt B ao l:=by
 rcases h with h | ⟨P,h1,h2,h3⟩
 · exact .inl h
 · exact .inr ⟨P,h1,Nat.lt_of_lt_of_le h2 K.size,fun i p hp=>K.cell (ownOf_boxed hX) (block_ne hX (nil_no (by simp)) (h3 i p hp)) (h3 i p hp)⟩
theorem KeepsY.strs {X:Nat} {A B:World} (K:KeepsY X A B) {T:TypeId} (hX:A.heap[X]?=some (.cells #[.slice none 0 0] T (0,0))) {ao:Option Addr} {l:List ByteArray} (h:StrRow A ao l):StrRow B ao l:=by
 rcases h with h | ⟨P,h1,h2,h3⟩
 · exact .inl h
 · exact .inr ⟨P,h1,Nat.lt_of_lt_of_le h2 K.size,fun i p hp=>K.cell (ownOf_boxed hX) (block_ne hX (nil_no (by simp)) (h3 i p hp)) (h3 i p hp)⟩
theorem KeepsY.rows {X:Nat} {A B:World} (K:KeepsY X A B) {T:TypeId} (hX:A.heap[X]?=some (.cells #[.slice none 0 0] T (0,0))) {ao:Option Addr} {l:List (List ByteArray)} (hne:∀ P,ao=some P→X < P.block) (h:RowsAt A ao l):RowsAt B ao l:=by
 rcases h with h | ⟨P,h1,h2,h3⟩
 · exact .inl h
 · refine .inr ⟨P,h1,Nat.lt_of_lt_of_le h2 K.size,fun i r hr=>?_⟩
   obtain ⟨ro,cap,h4,h5⟩:=h3 i r hr
   exact ⟨ro,cap,K.cell (ownOf_boxed hX) (by rw [add_block];have:=hne P h1;omega) h4,K.strs hX h5⟩
section
variable (ra rb : List (List ByteArray)) (ha hb : List ByteArray)
end
theorem TabIn.cells {w:World} {ho:Option Addr} {hc:Nat} {hd:List ByteArray} {ro:Option Addr} {rc:Nat} {rs:List (List ByteArray)} (h:TabIn w ho hc hd ro rc rs):∀ r ∈ rs,∀ x ∈ r,x.size≤100000:=fun r hr x hx =>
 h.size x (by simp only [allT,List.mem_append,List.mem_flatten];exact .inr ⟨r,hr,hx⟩)
theorem yield_end {J K Jx:Prop} {e:Ending} (h:(e=.returned (.bool true)∧J∧K)∨(e=.returned (.bool false)∧Jx)):∃ b,e=.returned (.bool b)∧(b=true→J∧K)∧(b=false→Jx):=by
 rcases h with ⟨rfl,h⟩ | ⟨rfl,h⟩
 · exact ⟨true,rfl,fun _=>h,fun e=>by cases e⟩
 · exact ⟨false,rfl,fun e=>(by cases e),fun _=>h⟩
end
section
open Go.RowKit Go.Shelf
attribute [local go_sem] Oper.semAt_some
theorem wpListIn_append_lies {F:Fence} {n:Nat} {P:Program} (w:World) {ops:Array Oper} {rest:List Oper} {o:Oper} {a:Act} {Q:Exit→Act→World→Prop}
 (hg:o.guard=none) (s x:Operand) (t:TypeId) (hop:o.op=Op.call { callee:=Callee.builtin Builtin.append,args:=#[s,x],argTypes:=#[t,t] })
 (base:Nat) (e:TypeId) (i:TypeInfo) (z:Value) (size bytes:Nat) (h1:P.underlying t=some (.slice e)) (h2:P.info? e=some i) (h3:i.zero=some z) (h4:i.size=size) (h5:i.bytes=bytes) (h6:z.cells.size=size) (h7:0 < size)
 (v:Value) (k:Nat) (xs:List Value) (hs:a.eval s=v) (hown:w.ownsRow base e size v k xs) (ad:Addr) (m c:Nat) (news:List Value) (hx:a.eval x=.slice (some ad) m c) (hn:news.length=m * size)
 (hc:∀ j u,news[j]?=some u→w.cell? (ad.add j)=some u) (h1c:∀ u ∈ news,u.oneCell'=true) (hm:0 < m) (b1:k+m≤maxLen) (b2:(k+m) * bytes≤140737488355328) (b3:base≤w.heap.size) (H:Nat) (hH:w.heap.size=H)
 (hK:∀ g cap w',w'.ownsRow base e size (.slice (some ⟨g,0,none⟩) (k+m) cap) (k+m) (xs ++ news)→w.grownBy w' v.ownBlock→(v.ownBlock=some g∨g=H)→wpListIn F n P ops Q rest (a.put o.dst (.slice (some ⟨g,0,none⟩) (k+m) cap)) w') :
 wpListIn F n P ops Q (o :: rest) a w:=by
 refine wpListIn_plain hg fun K hK'=>?_
 obtain ⟨g,cap,w',hrun,r1,r2,r3,_⟩:=run_append_lies (P:=P) w t o.type base e i z size bytes h1 h2 h3 h4 h5 h6 h7 v k xs hown ad m c news hn hc h1c hm b1 b2 b3 H hH
 unfold Oper.wpIn
 refine ⟨?_,?_⟩
 · simp [Oper.about,hop,resolve,Target.leads,Sem.run_pure]
 · rw [Oper.semAt_plain F _ _ (by rw [hop];intro c hc';cases hc')]
   simp [execOp,hop,resolve,invoke,builtin,hs,hx,hrun,Result.andThen]
   exact hK' _ _ (hK g cap w' r1 r2 r3)
section
variable (ra rb : List (List ByteArray)) (ha hb : List ByteArray)
end
theorem PairsAt.put {A:World} {D:Nat} {o:Obj} (o':Obj) {ao:Option Addr} {l:PL} (h:PairsAt A ao l) (hD:A.heap[D]?=some o) (hc:o.isCells=false):PairsAt (A.putObj D o') ao l:=by
 rcases h with h | ⟨b,k,h1,h2,h3⟩
 · exact .inl h
 · have key:∀ (P:Addr) u,A.cell? P=some u→(A.putObj D o').cell? P=some u:=fun P u hu=>by
    obtain ⟨cs,T,fr,hb⟩:=cell_block hu
    have hne:P.block ≠ D:=by rintro e;rw [e,hD] at hb;cases hb;cases hc
    exact (World.cell?_of_block (a:=P) (World.putObj_heap_other hne)).trans hu
   exact .inr ⟨b,k,h1,by simpa using h2,fun i p hp=>⟨key _ _ (h3 i p hp).1,key _ _ (h3 i p hp).2⟩⟩
end
section
open Go.RowKit Go.Shelf
theorem orE_any (ao:Option Addr) (cap:Nat) (xs:List Int) (w:World) (hn:xs.length≤274877906944) (hR:IntsAt w ao xs) :
 Calls Tryz.prog 28 #[.slice ao xs.length cap] w fun e w'=>e=.returned (.int .i64 (orL xs))∧w'=w:=by
 have HRo:=Lib.hid hR
 have HH:=Lib.hid (or_hit xs)
 have HNo:=Lib.hid (or_none xs)
 clear hR
 generalize orL xs=F at HH HNo ⊢
 go_enter Tryz.func28,Tryz.ntmps28
 go_wp2_with fail
 go_loopw [8] (fun i wr=>∃ (k:Nat),k≤xs.length∧i=.int .i64 k∧Hid (wr=w)∧Hid (∀ (j:Nat) y,j < k→xs[j]?=some y→y=0)) (fun i _=>xs.length - (intOf i).toNat)
 case atStart=>exact ⟨0,Nat.zero_le _,rfl,Lib.hid rfl,Lib.hid (fun j y hj _=>by omega)⟩
 case round =>
  obtain ⟨k,hk,rfl,HW,HZ⟩:=hrel
  by_cases hlt:k < xs.length
  · obtain ⟨x,hx⟩:∃ x,xs[k]?=some x:=⟨_,List.getElem?_eq_getElem hlt⟩
    have hR:=HRo.out
    rw [← HW.out] at hR
    rcases hR with h0 | ⟨A,rfl,hA,hcell⟩
    · rw [h0] at hlt;simp at hlt
    have hc:=hcell k _ hx
    have HX:=Lib.hid hx
    clear hcell hx
    by_cases h0:x=0
    · have HZ2:Hid (∀ (j:Nat) y,j < k+1→xs[j]?=some y→y=0):=Lib.hid (fun j y hj hy=>by
       by_cases e:j=k
       · subst e;rw [HX.out] at hy;cases hy;exact h0
       · exact HZ.out j y (by omega) hy)
      subst h0
      go_wp2_with fail
      go_roundw
      case rel=>exact ⟨k+1,by omega,by go_num,HW,HZ2⟩
      case measure=>simp [intOf];omega
    · have E:=Lib.hid (HH.out k x HX.out HZ.out h0)
      go_wp2_with fail
      go_ret
      exact ⟨by rw [E.out];rfl,HW.out⟩
  · obtain rfl:k=xs.length:=by omega
    have E:=Lib.hid (HNo.out HZ.out)
    go_wp2_with fail
    go_ret
    exact ⟨by rw [E.out];rfl,HW.out⟩
end
end Go.Proofs.YtdenehnneloegaaGreatDoor
