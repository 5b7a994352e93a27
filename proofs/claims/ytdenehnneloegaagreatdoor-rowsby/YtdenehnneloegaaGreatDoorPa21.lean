/-
  Texts of these rows' proofs, laid one behind the other: BMath, BCount, BRef.
  Conditions: those of each theorem.
-/
import Derived.Test.YtdenehnneloegaaGreatDoorProg
import Derived.Test.YtdenehnneloegaaGreatDoorPa9
import Derived.Maps.RangeWalk
import Derived.Sort.KeysCollected
import Derived.Maps.Own
import Derived.Maps.OwnOps
import Derived.Maps.OwnSet
import Derived.Maps.Views
import Derived.StringKeys
import Derived.WalkKit
import Derived.WalkMore
import Derived.IntWalk
import Derived.WalkArith
import Derived.OwnWalk
import Derived.Lib.Hide
import Derived.Test.YtdenehnneloegaaGreatDoorPa6
import Derived.BigQuiet
import Derived.Deep.QuietTactic
namespace Go.Proofs.YtdenehnneloegaaGreatDoor
set_option linter.unusedVariables false
set_option maxRecDepth 100000
set_option maxHeartbeats 8000000
section
set_option linter.unusedSectionVars false
section
variable {α : Type} [DecidableEq α]
def cntN (x:α):List α→Nat
 | []=>0
 | y :: ys=>(if y=x then 1 else 0)+cntN x ys
def overL:List α→List α→Nat
 | [],_=>0
 | x :: a,b=>overL a b+if cntN x a < cntN x b then 1 else 0
theorem cnt_append (x:α) (a b:List α):cntN x (a ++ b)=cntN x a+cntN x b:=by
 induction a with
 | nil=>simp [cntN]
 | cons y a ih=>simp only [List.cons_append,cntN,ih];omega
theorem cnt_le (x:α) (a:List α):cntN x a≤a.length:=by
 induction a with
 | nil=>simp [cntN]
 | cons y a ih=>simp only [cntN,List.length_cons];split <;> omega
theorem cnt_pos (x:α) (a:List α):0 < cntN x a ↔ x ∈ a:=by
 induction a with
 | nil=>simp [cntN]
 | cons y a ih =>
  simp only [cntN,List.mem_cons]
  by_cases h:y=x
  · rw [if_pos h];exact ⟨fun _=>.inl h.symm,fun _=>by omega⟩
  · rw [if_neg h,Nat.zero_add,ih]
    exact ⟨fun h1=>.inr h1,fun h1=>h1.resolve_left (fun e=>h e.symm)⟩
theorem cnt_none (x:α) (a:List α) (h:x ∉ a):cntN x a=0:=by
 have:=cnt_pos x a
 have:¬ 0 < cntN x a:=fun h1=>h (this.1 h1)
 omega
theorem cnt_perm (x:α) {a b:List α} (h:a.Perm b):cntN x a=cntN x b:=by
 induction h with
 | nil=>rfl
 | cons y _ ih=>simp only [cntN,ih]
 | swap y z l=>simp only [cntN];omega
 | trans _ _ h1 h2=>exact h1.trans h2
def sumN (f:α→Nat):List α→Nat
 | []=>0
 | x :: l=>f x+sumN f l
theorem sum_append (f:α→Nat) (a b:List α):sumN f (a ++ b)=sumN f a+sumN f b:=by
 induction a with
 | nil=>simp [sumN]
 | cons y a ih=>simp only [List.cons_append,sumN,ih];omega
theorem sum_congr (f g:α→Nat) (l:List α) (h:∀ x ∈ l,f x=g x):sumN f l=sumN g l:=by
 induction l with
 | nil=>rfl
 | cons y l ih=>simp only [sumN];rw [h y List.mem_cons_self,ih (fun x hx=>h x (List.mem_cons_of_mem _ hx))]
theorem sum_le_sum (f g:α→Nat) (l:List α) (h:∀ x ∈ l,f x≤g x):sumN f l≤sumN g l:=by
 induction l with
 | nil=>exact Nat.le_refl _
 | cons y l ih=>simp only [sumN];have:=h y List.mem_cons_self;have:=ih (fun x hx=>h x (List.mem_cons_of_mem _ hx));omega
theorem sum_zero (l:List α):sumN (fun _=>0) l=0:=by
 induction l with
 | nil=>rfl
 | cons y l ih=>simp only [sumN,ih]
theorem sum_one (f g:α→Nat) (x:α) (d:Nat) (l:List α) (hn:l.Nodup) (ho:∀ y,y ≠ x→f y=g y) (hx:f x=g x+d):sumN f l=sumN g l+if x ∈ l then d else 0:=by
 induction l with
 | nil=>simp [sumN]
 | cons y l ih =>
  obtain ⟨h1,h2⟩:=List.nodup_cons.1 hn
  simp only [sumN]
  by_cases e:y=x
  · subst e
    rw [sum_congr f g l (fun z hz=>ho z (fun e'=>h1 (e' ▸ hz))),hx,if_pos List.mem_cons_self];omega
  · rw [ih h2,ho y e]
    have:(x ∈ y :: l) ↔ x ∈ l:=by simp [Ne.symm e]
    by_cases hm:x ∈ l
    · rw [if_pos hm,if_pos (this.2 hm)];omega
    · rw [if_neg hm,if_neg (fun h'=>hm (this.1 h'))];omega
theorem over_sum (a b ss:List α) (hn:ss.Nodup) (hs:∀ s,s ∈ a→s ∈ b→s ∈ ss):overL a b=sumN (fun s=>min (cntN s b) (cntN s a)) ss:=by
 induction a with
 | nil=>rw [overL,sum_congr _ (fun _=>0) ss (fun x _=>by simp [cntN]),sum_zero]
 | cons x a ih =>
  rw [overL,ih (fun s h1 h2=>hs s (List.mem_cons_of_mem _ h1) h2)]
  rw [sum_one (fun s=>min (cntN s b) (cntN s (x :: a))) (fun s=>min (cntN s b) (cntN s a)) x (if cntN x a < cntN x b then 1 else 0) ss hn
   (fun y hy=>by simp only [cntN];rw [if_neg (Ne.symm hy),Nat.zero_add]) (by simp only [cntN,if_true];split <;> omega)]
  by_cases hb:x ∈ b
  · rw [if_pos (hs x List.mem_cons_self hb)]
  · rw [cnt_none x b hb];simp
def once:List α→List α
 | []=>[]
 | x :: l=>if x ∈ once l then once l else x :: once l
theorem once_nodup (l:List α):(once l).Nodup:=by
 induction l with
 | nil=>simp [once]
 | cons x l ih=>rw [once];split;exact ih;exact List.nodup_cons.2 ⟨by assumption,ih⟩
theorem mem_once (x:α) (l:List α):x ∈ once l ↔ x ∈ l:=by
 induction l with
 | nil=>simp [once]
 | cons y l ih =>
  rw [once]
  split
  · rw [ih];constructor
    · exact fun h=>List.mem_cons_of_mem _ h
    · intro h;rcases List.mem_cons.1 h with rfl | h
      · rename_i h1;exact ih.1 h1
      · exact h
  · rw [List.mem_cons,List.mem_cons,ih]
theorem over_once (a b:List α):overL a b=sumN (fun s=>min (cntN s b) (cntN s a)) (once b):=over_sum a b _ (once_nodup b) (fun s _ h=>(mem_once s b).2 h)
theorem over_mono {a a' b b':List α} (h:∀ x,cntN x a≤cntN x a') (k:∀ x,cntN x b≤cntN x b'):overL a b≤overL a' b':=by
 have sub:∀ s,s ∈ b→s ∈ b':=fun s hs=>(cnt_pos s b').1 (Nat.lt_of_lt_of_le ((cnt_pos s b).2 hs) (k s))
 rw [over_sum a b (once b') (once_nodup b') (fun s _ h=>(mem_once s b').2 (sub s h)),over_once a' b']
 exact sum_le_sum _ _ _ (fun x _=>by have:=h x;have:=k x;omega)
theorem over_same {a a' b b':List α} (h:∀ x,cntN x a=cntN x a') (k:∀ x,cntN x b=cntN x b'):overL a b=overL a' b' :=
 Nat.le_antisymm (over_mono (fun x=>Nat.le_of_eq (h x)) (fun x=>Nat.le_of_eq (k x))) (over_mono (fun x=>Nat.le_of_eq (h x).symm) (fun x=>Nat.le_of_eq (k x).symm))
theorem over_perm {a a' b b':List α} (h:a.Perm a') (k:b.Perm b'):overL a b=overL a' b':=over_same (fun x=>cnt_perm x h) (fun x=>cnt_perm x k)
theorem over_snoc (a b:List α) (x:α):overL (a ++ [x]) b=overL a b+if cntN x a < cntN x b then 1 else 0:=by
 rw [over_perm (a':=x :: a) (b':=b) (List.perm_append_comm) (List.Perm.refl _),overL]
theorem over_le1 (a b:List α):overL a b≤a.length:=by
 induction a with
 | nil=>simp [overL]
 | cons x a ih=>rw [overL,List.length_cons];split <;> omega
end
end
section
open Go.RowKit Go.Shelf Go.Maps
theorem strb_eq (x y:ByteArray):(x.toList == y.toList)=decide (x.data.toList=y.data.toList):=by
 rw [ba_toList,ba_toList]
 by_cases h:x.data.toList=y.data.toList
 · rw [h];simp
 · rw [decide_eq_false h,beq_eq_false_iff_ne];exact h
end
section
open Go.RowKit Go.Shelf Go.Maps
theorem cnt_next (xs:List ByteArray) (k:Nat) (x:ByteArray) (l:Txt) (hx:xs[k]?=some x):cntN l (bytesOf (xs.take (k+1)))=cntN l (bytesOf (xs.take k))+if x.data.toList=l then 1 else 0:=by
 obtain ⟨hk,e⟩:=List.getElem?_eq_some_iff.1 hx
 rw [List.take_succ_eq_append_getElem hk,e]
 simp only [bytesOf,List.map_append,List.map_cons,List.map_nil,cnt_append,cntN];omega
theorem rcnt_any (ao:Option Addr) (cap:Nat) (xs:List ByteArray) (s:ByteArray) (w:World) (hn:xs.length≤1048576) (hR:StrRow w ao xs) :
 Calls Tryz.prog 183 #[.slice ao xs.length cap,.string s] w fun e w'=>e=.returned (.int .i64 ((cntN s.data.toList (bytesOf xs):Nat):Int))∧w'=w:=by
 have HR:=Lib.hid hR
 have HN:=Lib.hid (fun k x hx=>cnt_next xs k x s.data.toList hx)
 have HF:Hid (cntN s.data.toList (bytesOf xs)=cntN s.data.toList (bytesOf (xs.take xs.length))):=Lib.hid (by rw [List.take_length])
 have HLe:=Lib.hid (fun k=>cnt_le s.data.toList (bytesOf (xs.take k)))
 clear hR
 go_enter Tryz.func183,Tryz.ntmps183
 go_wp2_with fail
 go_loopw [5,6] (fun n i wr=>∃ k:Nat,k≤xs.length∧i=.int .i64 k∧n=.int .i64 ((cntN s.data.toList (bytesOf (xs.take k)):Nat):Int)∧wr=w) (fun _ i _=>xs.length - (intOf i).toNat)
 case atStart=>exact ⟨0,Nat.zero_le _,rfl,by simp [bytesOf,cntN],rfl⟩
 case round =>
  obtain ⟨k,hk,rfl,rfl,rfl⟩:=hrel
  obtain ⟨wo,hwo⟩:∃ wo:World,wo=wr:=⟨_,rfl⟩
  by_cases hlt:k < xs.length
  · obtain ⟨x,hx⟩:∃ x,xs[k]?=some x:=⟨_,List.getElem?_eq_getElem hlt⟩
    have hnx:=HN.out k x hx
    have hle:=HLe.out k
    rw [bytes_len,List.length_take] at hle
    rcases HR.out with h0 | ⟨A,rfl,hA,hcell⟩
    · rw [h0] at hlt;simp at hlt
    have hc:=hcell k x hx
    have hbe:=strb_eq x s
    obtain ⟨c,hcc⟩:∃ c,c=cntN s.data.toList (bytesOf (xs.take k)):=⟨_,rfl⟩
    rw [← hcc] at hnx hle ⊢
    by_cases he:x.data.toList=s.data.toList
    · rw [decide_eq_true he] at hbe
      rw [if_pos he] at hnx
      have HNx:=Lib.hid hnx
      have hwr:IntKind.i64.wrap ((c:Int)+1)=(c:Int)+1:=IntWalk.i64_in _ (by omega)
      clear hcell hx he hcc hnx hwo
      go_wp2_with fail
      go_roundw
      case rel=>exact ⟨k+1,by omega,by go_num,by rw [HNx.out];simp,by first | rfl | trivial⟩
      case measure=>simp [intOf];omega
    · rw [decide_eq_false he] at hbe
      rw [if_neg he] at hnx
      have HNx:=Lib.hid hnx
      clear hcell hx he hcc hnx hwo
      go_wp2_with fail
      go_roundw
      case rel=>exact ⟨k+1,by omega,by go_num,by rw [HNx.out];simp,by first | rfl | trivial⟩
      case measure=>simp [intOf];omega
  · obtain rfl:k=xs.length:=by omega
    go_wp2_with fail
    go_ret
    exact ⟨by rw [HF.out];rfl,rfl⟩
theorem over_next (xs:List ByteArray) (us:List Txt) (k:Nat) (x:ByteArray) (hx:xs[k]?=some x):overL (bytesOf (xs.take (k+1))) us=overL (bytesOf (xs.take k)) us+if cntN x.data.toList (bytesOf (xs.take k)) < cntN x.data.toList us then 1 else 0:=by
 obtain ⟨hk,e⟩:=List.getElem?_eq_some_iff.1 hx
 rw [List.take_succ_eq_append_getElem hk,e]
 simp only [bytesOf,List.map_append,List.map_cons,List.map_nil]
 exact over_snoc _ _ _
theorem rover_any (ao bo:Option Addr) (ca cb:Nat) (xs ys:List ByteArray) (w:World) (hn:xs.length≤1048576) (hm:ys.length≤1048576) (hca:xs.length≤ca) (hR:StrRow w ao xs) (hS:StrRow w bo ys) :
 Calls Tryz.prog 130 #[.slice ao xs.length ca,.slice bo ys.length cb] w fun e w'=>e=.returned (.int .i64 ((overL (bytesOf xs) (bytesOf ys):Nat):Int))∧Below w.heap.size w w':=by
 have HR:=Lib.hid hR
 have HS:=Lib.hid hS
 have HN:=Lib.hid (fun k x hx=>over_next xs (bytesOf ys) k x hx)
 have HF:Hid (overL (bytesOf xs) (bytesOf ys)=overL (bytesOf (xs.take xs.length)) (bytesOf ys)):=Lib.hid (by rw [List.take_length])
 have HLe:=Lib.hid (fun k=>over_le1 (bytesOf (xs.take k)) (bytesOf ys))
 clear hR hS
 go_enter Tryz.func130,Tryz.ntmps130
 go_wp2_with fail
 go_loopw [5,6] (fun n i wr=>∃ k:Nat,k≤xs.length∧i=.int .i64 k∧n=.int .i64 ((overL (bytesOf (xs.take k)) (bytesOf ys):Nat):Int)∧Hid (Below w.heap.size w wr)) (fun _ i _=>xs.length - (intOf i).toNat)
 case atStart=>exact ⟨0,Nat.zero_le _,rfl,by simp [bytesOf,overL],Lib.hid (Below.refl _ _)⟩
 case round =>
  obtain ⟨k,hk,rfl,rfl,HB⟩:=hrel
  by_cases hlt:k < xs.length
  · obtain ⟨x,hx⟩:∃ x,xs[k]?=some x:=⟨_,List.getElem?_eq_getElem hlt⟩
    have hnx:=HN.out k x hx
    have hle:=HLe.out k
    rw [bytes_len,List.length_take] at hle
    have hRw:=HR.out.kept HB.out
    rcases hRw with h0 | ⟨A,rfl,hA,hcell⟩
    · rw [h0] at hlt;simp at hlt
    have hc:=hcell k x hx
    have htl:(xs.take k).length=k:=by rw [List.length_take];omega
    have hT:StrRow wr (some A) (xs.take k):=.inr ⟨A,rfl,hA,fun i c hi=>hcell i c (by
     rw [List.getElem?_take] at hi
     split at hi
     · exact hi
     · cases hi)⟩
    have C1:=Lib.hid (fun m=>(rcnt_any (some A) ca (xs.take k) x (wr.drewN m) (by rw [htl];omega) (hT.kept (bdn (Below.refl _ _)))).mono (fun e w' h=>(⟨h.1,m,h.2⟩:_∧∃ m,w'=wr.drewN m)))
    have C2:=Lib.hid (fun m=>(rcnt_any bo cb ys x (wr.drewN m) hm ((HS.out.kept HB.out).kept (bdn (Below.refl _ _)))).mono (fun e w' h=>(⟨h.1,m,h.2⟩:_∧∃ m,w'=wr.drewN m)))
    rw [htl] at C1
    obtain ⟨c,hcc⟩:∃ c,c=overL (bytesOf (xs.take k)) (bytesOf ys):=⟨_,rfl⟩
    rw [← hcc] at hnx hle ⊢
    generalize cntN x.data.toList (bytesOf (xs.take k))=u at C1 hnx
    generalize cntN x.data.toList (bytesOf ys)=v at C2 hnx
    have hca2:k≤ca:=by omega
    have n1:decide ((k:Int) < 0)=false:=decide_eq_false (by omega)
    have n2:decide (xs.length≤k)=false:=decide_eq_false (by omega)
    have n3:decide (ca < k)=false:=decide_eq_false (by omega)
    have HNx:=Lib.hid hnx
    clear hcell hx hcc hnx htl hT hA
    go_upto_region 5 with fail
    go_quiet (first | (go_at_call 183;with_reducible exact C1.out _) | (go_at_call 183;with_reducible exact C2.out _))
    have HB2:Hid (Below w.heap.size w (wr.drewN nq)):=Lib.hid (bdn HB.out)
    by_cases huv:u < v
    · have hwr:IntKind.i64.wrap ((c:Int)+1)=(c:Int)+1:=IntWalk.i64_in _ (by omega)
      have HNy:=Lib.hid (show overL (bytesOf (xs.take (k+1))) (bytesOf ys)=c+1 by rw [HNx.out,if_pos huv])
      clear HNx C1 C2 hc
      go_wp2_with fail
      go_roundw
      case rel=>exact ⟨k+1,by omega,by go_num,by rw [HNy.out];simp,HB2⟩
      case measure=>simp [intOf];omega
    · have HNy:=Lib.hid (show overL (bytesOf (xs.take (k+1))) (bytesOf ys)=c by rw [HNx.out,if_neg huv];rfl)
      clear HNx C1 C2 hc
      go_wp2_with fail
      go_roundw
      case rel=>exact ⟨k+1,by omega,by go_num,by rw [HNy.out],HB2⟩
      case measure=>simp [intOf];omega
  · obtain rfl:k=xs.length:=by omega
    go_wp2_with fail
    go_ret
    exact ⟨by rw [HF.out];rfl,HB.out⟩
end
end Go.Proofs.YtdenehnneloegaaGreatDoor
