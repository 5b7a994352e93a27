/-
  Texts of these rows' proofs, laid one behind the other: KMath, KShelf, KSort.
  Conditions: those of each theorem.
-/
import Derived.Lib.ItoaNum
import Derived.Test.YtdenehnneloegaaGreatDoorPa3
import Derived.Shelf.SortM.Plain
import Derived.Shelf.SortM.SortNone
import Derived.Shelf.SlicesG.CompactI
import Derived.Shelf.Strconv.AppendIntPublic10
import Derived.Test.YtdenehnneloegaaGreatDoorProg
import Derived.Deep.OwnRows
import Derived.WalkKit
import Derived.WalkMore
import Derived.IntWalk
import Derived.WalkArith
import Derived.OwnWalkIn
import Derived.TacticsInMore
import Derived.LoopNIn
import Derived.LoopIn
import Derived.Lib.Hide
import Derived.RegionTactic
import Derived.Sort.OwnSortedInts
import Derived.Test.YtdenehnneloegaaGreatDoorPa1
import Derived.Test.YtdenehnneloegaaGreatDoorPa2
namespace Go.Proofs.YtdenehnneloegaaGreatDoor
set_option linter.unusedVariables false
set_option maxRecDepth 100000
set_option maxHeartbeats 8000000
section
open Go.Lib
def keyL (rs:List (List ByteArray)) (cols:List Int) (i:Nat):List ByteArray:=cols.map (cellL rs i)
theorem key_eq (rs:List (List ByteArray)) (cols:List Int) (i j:Nat):keyL rs cols i=keyL rs cols j ↔ ∀ c ∈ cols,cellL rs i c=cellL rs j c:=by
 unfold keyL;exact List.map_inj_left
def apartRows (rs:List (List ByteArray)) (cols:List Int):Bool:=(List.range rs.length).all fun j=>(List.range j).all fun i=>decide (keyL rs cols i ≠ keyL rs cols j)
def inHead (n:Nat) (cols:List Int):Bool:=cols.all fun c=>decide (0≤c) && decide (c < (n:Int))
def uniqL (n:Nat) (rs:List (List ByteArray)) (cols:List Int):Bool:=!cols.isEmpty && inHead n cols && apartRows rs cols
theorem apart_iff (rs:List (List ByteArray)) (cols:List Int):apartRows rs cols=true ↔ ∀ i j,i < j→j < rs.length→keyL rs cols i ≠ keyL rs cols j:=by
 unfold apartRows
 rw [List.all_eq_true]
 constructor
 · intro h i j hij hj
   have:=h j (List.mem_range.2 hj)
   rw [List.all_eq_true] at this
   exact of_decide_eq_true (this i (List.mem_range.2 hij))
 · intro h j hj
   rw [List.all_eq_true]
   intro i hi
   exact decide_eq_true (h i j (List.mem_range.1 hi) (List.mem_range.1 hj))
theorem inHead_iff (n:Nat) (cols:List Int):inHead n cols=true ↔ ∀ c ∈ cols,0≤c∧c < (n:Int):=by
 unfold inHead;rw [List.all_eq_true];simp
theorem uniq_iff (n:Nat) (rs:List (List ByteArray)) (cols:List Int):uniqL n rs cols=true ↔ cols ≠ []∧(∀ c ∈ cols,0≤c∧c < (n:Int))∧∀ i j,i < j→j < rs.length→∃ c ∈ cols,cellL rs i c ≠ cellL rs j c:=by
 unfold uniqL
 rw [Bool.and_eq_true,Bool.and_eq_true,inHead_iff,apart_iff]
 constructor
 · rintro ⟨⟨h1,h2⟩,h3⟩
   refine ⟨by intro e;rw [e] at h1;simp at h1,h2,fun i j hij hj=>?_⟩
   have:=h3 i j hij hj
   rw [Ne,key_eq] at this
   simpa using this
 · rintro ⟨h1,h2,h3⟩
   refine ⟨⟨by cases cols <;> simp at h1 ⊢,h2⟩,fun i j hij hj=>?_⟩
   rw [Ne,key_eq]
   obtain ⟨c,hc,hne⟩:=h3 i j hij hj
   exact fun h=>hne (h c hc)
theorem uniq_mem (n:Nat) (rs:List (List ByteArray)) (cols own:List Int) (h:∀ c,c ∈ own ↔ c ∈ cols):uniqL n rs own=uniqL n rs cols:=by
 rw [Bool.eq_iff_iff,uniq_iff,uniq_iff]
 have hn:own ≠ [] ↔ cols ≠ []:=by
  constructor
  · intro h1 e;subst e
    cases own with
    | nil=>exact h1 rfl
    | cons a l=>have:=(h a).1 List.mem_cons_self;simp at this
  · intro h1 e;subst e
    cases cols with
    | nil=>exact h1 rfl
    | cons a l=>have:=(h a).2 List.mem_cons_self;simp at this
 simp only [h,hn]
theorem uniq_none (n:Nat) (rs:List (List ByteArray)):uniqL n rs []=false:=rfl
theorem uniq_out (n:Nat) (rs:List (List ByteArray)) (cols:List Int) (c:Int) (hc:c ∈ cols) (h:c < 0∨(n:Int)≤c):uniqL n rs cols=false:=by
 cases hu:uniqL n rs cols with
 | false=>rfl
 | true =>
  have:=((uniq_iff n rs cols).1 hu).2.1 c hc
  omega
theorem dec_digits:∀ (u:Nat),∀ c ∈ decDigits u,48≤c.toNat∧c.toNat≤57:=fun u=>by
 induction u using Nat.strongRecOn with
 | ind u ih =>
  intro c hc
  rw [decDigits] at hc
  have key:∀ d,d < 10→48≤(UInt8.ofNat (48+d)).toNat∧(UInt8.ofNat (48+d)).toNat≤57:=fun d hd=>by
   rw [UInt8.toNat_ofNat'];omega
  split at hc
  · rename_i h
    simp only [List.mem_singleton] at hc;subst hc;exact key u h
  · rename_i h
    rw [List.mem_append] at hc
    rcases hc with hc | hc
    · exact ih (u / 10) (by omega) c hc
    · simp only [List.mem_singleton] at hc;subst hc;exact key _ (by omega)
theorem dec_inj:∀ (u v:Nat),decDigits u=decDigits v→u=v:=fun u=>by
 have key:∀ d e,d < 10→e < 10→UInt8.ofNat (48+d)=UInt8.ofNat (48+e)→d=e:=fun d e hd he h=>by
  have:=congrArg UInt8.toNat h
  rw [UInt8.toNat_ofNat',UInt8.toNat_ofNat'] at this;omega
 induction u using Nat.strongRecOn with
 | ind u ih =>
  intro v h
  have hpos:∀ u,decDigits u ≠ []:=fun u=>by rw [decDigits];split <;> simp
  rw [decDigits,decDigits.eq_1 v] at h
  split at h <;> split at h
  · simp only [List.cons.injEq,and_true] at h;exact key u v (by assumption) (by assumption) h
  · have:=congrArg List.length h
    have h2:=hpos (v / 10)
    simp at this
    exact absurd this h2
  · have:=congrArg List.length h
    have h2:=hpos (u / 10)
    simp at this
    exact absurd this h2
  · have h2:=List.append_inj' h rfl
    have e1:=ih (u / 10) (by omega) (v / 10) h2.1
    have e2:=key (u % 10) (v % 10) (by omega) (by omega) (by simpa using h2.2)
    omega
theorem itoa_bytes (n:Int):∀ c ∈ itoa n,c ≠ 32:=fun c hc e=>by
 subst e
 unfold itoa at hc
 split at hc
 · rw [List.mem_cons] at hc
   rcases hc with hc | hc
   · exact absurd hc (by decide)
   · have:=dec_digits _ _ hc;exact absurd this.1 (by decide)
 · have:=dec_digits _ _ hc;exact absurd this.1 (by decide)
theorem itoa_inj (a b:Int) (h:itoa a=itoa b):a=b:=by
 have hne:∀ u v,(45:UInt8) :: decDigits u ≠ decDigits v:=fun u v e=>by
  have:(45:UInt8) ∈ decDigits v:=by rw [← e];exact List.mem_cons_self
  have:=dec_digits _ _ this;exact absurd this.1 (by decide)
 unfold itoa at h
 split at h <;> split at h
 · have:=dec_inj _ _ (List.cons.inj h).2;omega
 · exact absurd h (hne _ _)
 · exact absurd h.symm (hne _ _)
 · have:=dec_inj _ _ h;omega
theorem upto_space:∀ (x y r s:List UInt8),(∀ c ∈ x,c ≠ 32)→(∀ c ∈ y,c ≠ 32)→x ++ 32 :: r=y ++ 32 :: s→x=y∧r=s
 | [],[],r,s,_,_,h=>⟨rfl,(List.cons.inj h).2⟩
 | [],b :: y,r,s,_,hy,h=>absurd (List.cons.inj h).1.symm (hy b List.mem_cons_self)
 | a :: x,[],r,s,hx,_,h=>absurd (List.cons.inj h).1 (hx a List.mem_cons_self)
 | a :: x,b :: y,r,s,hx,hy,h=>by
  obtain ⟨e1,e2⟩:=List.cons.inj h
  obtain ⟨h1,h2⟩:=upto_space x y r s (fun c hc=>hx c (List.mem_cons_of_mem _ hc)) (fun c hc=>hy c (List.mem_cons_of_mem _ hc)) e2
  exact ⟨by rw [e1,h1],h2⟩
theorem num_space (a b:Int) (r s:List UInt8) (h:itoa a ++ 32 :: r=itoa b ++ 32 :: s):a=b∧r=s:=by
 obtain ⟨h1,h2⟩:=upto_space _ _ r s (itoa_bytes a) (itoa_bytes b) h
 exact ⟨itoa_inj _ _ h1,h2⟩
def partL (c:Int) (x:ByteArray):List UInt8:=if x.data.toList=[] then [] else itoa c ++ 32 :: (itoa (x.size:Int) ++ 32 :: x.data.toList)
def textL (rs:List (List ByteArray)) (i:Nat) (cols:List Int):List UInt8:=cols.flatMap fun c=>partL c (cellL rs i c)
theorem part_head (f:Int→ByteArray):∀ (cols:List Int) (t:List UInt8),cols.flatMap (fun c=>partL c (f c))=t→t=[]∨∃ c ∈ cols,∃ r,t=itoa c ++ 32 :: r
 | [],t,h=>.inl h.symm
 | c :: cols,t,h=>by
  rw [List.flatMap_cons] at h
  unfold partL at h
  split at h
  · rcases part_head f cols t (by unfold partL;simpa using h) with h1 | ⟨d,hd,r,hr⟩
    · exact .inl h1
    · exact .inr ⟨d,List.mem_cons_of_mem _ hd,r,hr⟩
  · exact .inr ⟨c,List.mem_cons_self,itoa ((f c).size:Int) ++ 32 :: ((f c).data.toList ++ cols.flatMap fun c=>partL c (f c)),by rw [← h];simp only [List.append_assoc,List.cons_append];rfl⟩
theorem parts_inj (f g:Int→ByteArray):∀ (cols:List Int),cols.Nodup→cols.flatMap (fun c=>partL c (f c))=cols.flatMap (fun c=>partL c (g c))→∀ c ∈ cols,f c=g c
 | [],_,_=>fun c hc=>by simp at hc
 | c :: cols,hn,h=>by
  rw [List.nodup_cons] at hn
  rw [List.flatMap_cons,List.flatMap_cons] at h
  have hclash:∀ (x:ByteArray) (k:Int→ByteArray) (r:List UInt8),partL c x ≠ []→partL c x ++ r=cols.flatMap (fun c=>partL c (k c))→False:=fun x k r hx he=>by
   rcases part_head k cols _ he.symm with h1 | ⟨d,hd,r',hr⟩
   · exact hx (List.append_eq_nil_iff.1 h1).1
   · unfold partL at hr hx
     split at hr
     · rename_i h0;rw [if_pos h0] at hx;exact hx rfl
     · rw [List.append_assoc,List.cons_append] at hr
       have:=(num_space _ _ _ _ hr).1
       subst this;exact hn.1 hd
  have hemp:∀ x:ByteArray,partL c x=[]→x=⟨#[]⟩:=fun x hx=>by
   unfold partL at hx
   split at hx
   · rename_i h0;exact ba_eq (by simpa using h0)
   · simp at hx
  by_cases hf:partL c (f c)=[] <;> by_cases hg:partL c (g c)=[]
  · rw [hf,hg] at h
    intro d hd
    rcases List.mem_cons.1 hd with rfl | hd
    · rw [hemp _ hf,hemp _ hg]
    · exact parts_inj f g cols hn.2 (by simpa using h) d hd
  · rw [hf,List.nil_append] at h
    exact (hclash _ _ _ hg h.symm).elim
  · rw [hg,List.nil_append] at h
    exact (hclash _ _ _ hf h).elim
  · have hf':¬ (f c).data.toList=[]:=fun e=>hf (by unfold partL;rw [if_pos e])
    have hg':¬ (g c).data.toList=[]:=fun e=>hg (by unfold partL;rw [if_pos e])
    have u1:partL c (f c)=itoa c ++ 32 :: (itoa ((f c).size:Int) ++ 32 :: (f c).data.toList):=if_neg hf'
    have u2:partL c (g c)=itoa c ++ 32 :: (itoa ((g c).size:Int) ++ 32 :: (g c).data.toList):=if_neg hg'
    rw [u1,u2] at h
    simp only [List.append_assoc,List.cons_append] at h
    have h1:=(num_space _ _ _ _ h).2
    have h2:=num_space _ _ _ _ h1
    have hl:(f c).data.toList.length=(g c).data.toList.length:=by
     rw [ba_size,ba_size];have:=h2.1;omega
    obtain ⟨h3,h4⟩:=List.append_inj h2.2 hl
    intro d hd
    rcases List.mem_cons.1 hd with rfl | hd
    · exact ba_eq h3
    · exact parts_inj f g cols hn.2 h4 d hd
theorem text_inj (rs:List (List ByteArray)) (i j:Nat) (cols:List Int) (hn:cols.Nodup) (h:textL rs i cols=textL rs j cols):∀ c ∈ cols,cellL rs i c=cellL rs j c:=parts_inj _ _ cols hn h
theorem text_eq (rs:List (List ByteArray)) (i j:Nat) (cols:List Int) (hn:cols.Nodup):textL rs i cols=textL rs j cols ↔ ∀ c ∈ cols,cellL rs i c=cellL rs j c :=
 ⟨text_inj rs i j cols hn,fun h=>by
  unfold textL
  rw [List.flatMap_def,List.flatMap_def,List.map_congr_left fun c hc=>by rw [h c hc]]⟩
def emptyT:ByteArray:=⟨#[]⟩
def key3 (rs:List (List ByteArray)) (cols:List Int) (i:Nat):ByteArray × ByteArray × ByteArray :=
 if 3 < cols.length then (cellL rs i (cols.getD 0 0),cellL rs i (cols.getD 1 0),⟨(textL rs i (cols.drop 2)).toArray⟩)
 else ((keyL rs cols i).getD 0 emptyT,(keyL rs cols i).getD 1 emptyT,(keyL rs cols i).getD 2 emptyT)
theorem key3_eq (rs:List (List ByteArray)) (cols:List Int) (hn:cols.Nodup) (i j:Nat):key3 rs cols i=key3 rs cols j ↔ keyL rs cols i=keyL rs cols j:=by
 unfold key3
 split
 · rename_i h
   match cols,h,hn with
   | a :: b :: rest,h,hn =>
    simp only [List.getD_cons_zero,List.getD_cons_succ,List.drop_succ_cons,List.drop_zero,Prod.mk.injEq]
    have e:((⟨(textL rs i rest).toArray⟩:ByteArray)=⟨(textL rs j rest).toArray⟩) ↔ textL rs i rest=textL rs j rest:=⟨fun h=>by simpa using congrArg (fun x:ByteArray=>x.data.toList) h,fun h=>by rw [h]⟩
    rw [e,text_eq rs i j rest (by rw [List.nodup_cons,List.nodup_cons] at hn;exact hn.2.2),key_eq]
    simp
 · rename_i h
   constructor
   · intro he
     simp only [Prod.mk.injEq] at he
     unfold keyL at he ⊢
     match cols,h with
     | [],_=>rfl
     | [a],_=>simpa using he.1
     | [a,b],_=>simpa using ⟨he.1,he.2.1⟩
     | [a,b,c],_=>simpa using he
     | a :: b :: c :: d :: l,h=>simp at h
   · intro he;rw [he]
end
section
open Go.Shelf
def laysO_ren:Go.Shelf.Ren:=⟨fun | 5=>156 | 8=>104 | 7=>198 | 19=>166 | 20=>167 | 10=>232 | 11=>233 | 12=>234 | 13=>235 | 14=>236 | 15=>237 | 16=>238 | 17=>239 | 18=>240 | 30=>271 | 31=>200 | 32=>201 | 33=>272 | 34=>273 | 35=>105 | 40=>286 | n=>n,fun | 23=>41 | 25=>3 | 3=>3 | 32=>142 | 22=>41 | 0=>0 | 44=>203 | 46=>205 | 4=>4 | 36=>197 | 35=>196 | 41=>58 | 5=>5 | 9=>9 | 53=>237 | 57=>241 | 63=>273 | 64=>274 | n=>n,fun | n=>n⟩
theorem laysO:Go.Proofs.SlLaysM.n5 Tryz.prog laysO_ren:={
 mixed:=by kernel_rfl
 f5:=⟨Tryz.f156.name,by decide,Tryz.func156.trans (congrArg some (by kernel_rfl))⟩
 f7:=⟨Tryz.f198.name,by decide,Tryz.func198.trans (congrArg some (by kernel_rfl))⟩
 f8:=Tryz.func104.trans (congrArg some (by kernel_rfl))
 f10:=⟨Tryz.f232.name,by decide,Tryz.func232.trans (congrArg some (by kernel_rfl))⟩
 f11:=⟨Tryz.f233.name,by decide,Tryz.func233.trans (congrArg some (by kernel_rfl))⟩
 f12:=⟨Tryz.f234.name,by decide,Tryz.func234.trans (congrArg some (by kernel_rfl))⟩
 f13:=⟨Tryz.f235.name,by decide,Tryz.func235.trans (congrArg some (by kernel_rfl))⟩
 f14:=⟨Tryz.f236.name,by decide,Tryz.func236.trans (congrArg some (by kernel_rfl))⟩
 f15:=⟨Tryz.f237.name,by decide,Tryz.func237.trans (congrArg some (by kernel_rfl))⟩
 f16:=⟨Tryz.f238.name,by decide,Tryz.func238.trans (congrArg some (by kernel_rfl))⟩
 f17:=⟨Tryz.f239.name,by decide,Tryz.func239.trans (congrArg some (by kernel_rfl))⟩
 f18:=⟨Tryz.f240.name,by decide,Tryz.func240.trans (congrArg some (by kernel_rfl))⟩
 f19:=Tryz.func166.trans (congrArg some (by kernel_rfl))
 f20:=Tryz.func167.trans (congrArg some (by kernel_rfl))
 f30:=⟨Tryz.f271.name,by decide,Tryz.func271.trans (congrArg some (by kernel_rfl))⟩
 f31:=Tryz.func200.trans (congrArg some (by kernel_rfl))
 f32:=Tryz.func201.trans (congrArg some (by kernel_rfl))
 f33:=⟨Tryz.f272.name,by decide,Tryz.func272.trans (congrArg some (by kernel_rfl))⟩
 f34:=⟨Tryz.f273.name,by decide,Tryz.func273.trans (congrArg some (by kernel_rfl))⟩
 f35:=⟨Tryz.f105.name,by decide,Tryz.func105.trans (congrArg some (by kernel_rfl))⟩
 f40:=⟨Tryz.f286.name,by decide,Tryz.func286.trans (congrArg some (by kernel_rfl))⟩
 t0:=Tryz.underlying0
 a0:=Tryz.isAgg0
 z0:=Tryz.sizeOf0
 v0:=Tryz.zeroValue0
 t3:=Tryz.underlying3
 a3:=Tryz.isAgg3
 z3:=Tryz.sizeOf3
 v3:=Tryz.zeroValue3
 t4:=Tryz.underlying4
 a4:=Tryz.isAgg4
 z4:=Tryz.sizeOf4
 v4:=Tryz.zeroValue4
 t5:=Tryz.underlying5
 a5:=Tryz.isAgg5
 z5:=Tryz.sizeOf5
 v5:=Tryz.zeroValue5
 t9:=Tryz.underlying9
 a9:=Tryz.isAgg9
 z9:=Tryz.sizeOf9
 v9:=Tryz.zeroValue9
 t22:=Tryz.underlying41
 a22:=Tryz.isAgg41
 z22:=Tryz.sizeOf41
 v22:=Tryz.zeroValue41
 t23:=Tryz.underlying41
 a23:=Tryz.isAgg41
 z23:=Tryz.sizeOf41
 v23:=Tryz.zeroValue41
 t25:=Tryz.underlying3
 a25:=Tryz.isAgg3
 z25:=Tryz.sizeOf3
 v25:=Tryz.zeroValue3
 t32:=Tryz.underlying142
 a32:=Tryz.isAgg142
 z32:=Tryz.sizeOf142
 v32:=Tryz.zeroValue142
 t35:=Tryz.underlying196
 a35:=Tryz.isAgg196
 z35:=Tryz.sizeOf196
 v35:=Tryz.zeroValue196
 t36:=Tryz.underlying197
 a36:=Tryz.isAgg197
 z36:=Tryz.sizeOf197
 v36:=Tryz.zeroValue197
 t41:=Tryz.underlying58
 a41:=Tryz.isAgg58
 z41:=Tryz.sizeOf58
 v41:=Tryz.zeroValue58
 t44:=Tryz.underlying203
 a44:=Tryz.isAgg203
 z44:=Tryz.sizeOf203
 v44:=Tryz.zeroValue203
 t46:=Tryz.underlying205
 a46:=Tryz.isAgg205
 z46:=Tryz.sizeOf205
 v46:=Tryz.zeroValue205
 t53:=Tryz.underlying237
 a53:=Tryz.isAgg237
 z53:=Tryz.sizeOf237
 v53:=Tryz.zeroValue237
 t57:=Tryz.underlying241
 a57:=Tryz.isAgg241
 z57:=Tryz.sizeOf241
 v57:=Tryz.zeroValue241
 t63:=Tryz.underlying273
 a63:=Tryz.isAgg273
 z63:=Tryz.sizeOf273
 v63:=Tryz.zeroValue273
 t64:=Tryz.underlying274
 a64:=Tryz.isAgg274
 z64:=Tryz.sizeOf274
 v64:=Tryz.zeroValue274 }
def laysC_ren:Go.Shelf.Ren:=⟨fun | 43=>170 | n=>n,fun | 22=>41 | 23=>3 | 3=>3 | 4=>4 | 0=>0 | n=>n,fun | n=>n⟩
theorem laysC:Go.Proofs.SlLaysN.n43 Tryz.prog laysC_ren:={
 mixed:=by kernel_rfl
 f43:=⟨Tryz.f170.name,by decide,Tryz.func170.trans (congrArg some (by kernel_rfl))⟩
 t0:=Tryz.underlying0
 a0:=Tryz.isAgg0
 z0:=Tryz.sizeOf0
 v0:=Tryz.zeroValue0
 t3:=Tryz.underlying3
 a3:=Tryz.isAgg3
 z3:=Tryz.sizeOf3
 v3:=Tryz.zeroValue3
 t4:=Tryz.underlying4
 a4:=Tryz.isAgg4
 z4:=Tryz.sizeOf4
 v4:=Tryz.zeroValue4
 t22:=Tryz.underlying41
 a22:=Tryz.isAgg41
 z22:=Tryz.sizeOf41
 v22:=Tryz.zeroValue41
 t23:=Tryz.underlying3
 a23:=Tryz.isAgg3
 z23:=Tryz.sizeOf3
 v23:=Tryz.zeroValue3
 i23:=by kernel_rfl }
def laysA_ren:Go.Shelf.Ren:=⟨fun | 176=>242 | 249=>274 | 288=>287 | 283=>217 | 284=>218 | 285=>219 | 286=>220 | 129=>167 | 317=>261 | 318=>262 | 319=>263 | 320=>264 | 337=>281 | 338=>282 | n=>n,fun | 37=>144 | 2=>2 | 3=>3 | 53=>205 | 4=>4 | 9=>9 | 171=>256 | 0=>0 | 173=>258 | 212=>289 | 51=>203 | 5=>5 | 20=>20 | 213=>290 | 46=>142 | 232=>307 | 233=>308 | n=>n,fun | 17=>1 | 18=>2 | 19=>3 | n=>n⟩
theorem laysA:Go.Proofs.LaysM.n176 Tryz.prog laysA_ren:={
 mixed:=by kernel_rfl
 f129:=Tryz.func167.trans (congrArg some (by kernel_rfl))
 f176:=Tryz.func242.trans (congrArg some (by kernel_rfl))
 f249:=Tryz.func274.trans (congrArg some (by kernel_rfl))
 f283:=Tryz.func217.trans (congrArg some (by kernel_rfl))
 f284:=Tryz.func218.trans (congrArg some (by kernel_rfl))
 f285:=Tryz.func219.trans (congrArg some (by kernel_rfl))
 f286:=Tryz.func220.trans (congrArg some (by kernel_rfl))
 f288:=Tryz.func287.trans (congrArg some (by kernel_rfl))
 f317:=Tryz.func261.trans (congrArg some (by kernel_rfl))
 f318:=Tryz.func262.trans (congrArg some (by kernel_rfl))
 f319:=Tryz.func263.trans (congrArg some (by kernel_rfl))
 f320:=Tryz.func264.trans (congrArg some (by kernel_rfl))
 f337:=Tryz.func281.trans (congrArg some (by kernel_rfl))
 f338:=Tryz.func282.trans (congrArg some (by kernel_rfl))
 t0:=Tryz.underlying0
 a0:=Tryz.isAgg0
 z0:=Tryz.sizeOf0
 v0:=Tryz.zeroValue0
 t2:=Tryz.underlying2
 a2:=Tryz.isAgg2
 z2:=Tryz.sizeOf2
 v2:=Tryz.zeroValue2
 t3:=Tryz.underlying3
 a3:=Tryz.isAgg3
 z3:=Tryz.sizeOf3
 v3:=Tryz.zeroValue3
 t4:=Tryz.underlying4
 a4:=Tryz.isAgg4
 z4:=Tryz.sizeOf4
 v4:=Tryz.zeroValue4
 t5:=Tryz.underlying5
 a5:=Tryz.isAgg5
 z5:=Tryz.sizeOf5
 v5:=Tryz.zeroValue5
 t9:=Tryz.underlying9
 a9:=Tryz.isAgg9
 z9:=Tryz.sizeOf9
 v9:=Tryz.zeroValue9
 t20:=Tryz.underlying20
 a20:=Tryz.isAgg20
 z20:=Tryz.sizeOf20
 v20:=Tryz.zeroValue20
 t37:=Tryz.underlying144
 a37:=Tryz.isAgg144
 z37:=Tryz.sizeOf144
 v37:=Tryz.zeroValue144
 t46:=Tryz.underlying142
 a46:=Tryz.isAgg142
 z46:=Tryz.sizeOf142
 v46:=Tryz.zeroValue142
 t51:=Tryz.underlying203
 a51:=Tryz.isAgg203
 z51:=Tryz.sizeOf203
 v51:=Tryz.zeroValue203
 t53:=Tryz.underlying205
 a53:=Tryz.isAgg205
 z53:=Tryz.sizeOf205
 v53:=Tryz.zeroValue205
 t171:=Tryz.underlying256
 a171:=Tryz.isAgg256
 z171:=Tryz.sizeOf256
 v171:=Tryz.zeroValue256
 t173:=Tryz.underlying258
 a173:=Tryz.isAgg258
 z173:=Tryz.sizeOf258
 v173:=Tryz.zeroValue258
 t212:=Tryz.underlying289
 a212:=Tryz.isAgg289
 z212:=Tryz.sizeOf289
 v212:=Tryz.zeroValue289
 t213:=Tryz.underlying290
 a213:=Tryz.isAgg290
 z213:=Tryz.sizeOf290
 t232:=Tryz.underlying307
 a232:=Tryz.isAgg307
 z232:=Tryz.sizeOf307
 v232:=Tryz.zeroValue307
 t233:=Tryz.underlying308
 a233:=Tryz.isAgg308
 z233:=Tryz.sizeOf308
 v233:=Tryz.zeroValue308
 g17:=by kernel_rfl
 g18:=by kernel_rfl
 g19:=by kernel_rfl
 i0:=by kernel_rfl
 i2:=by kernel_rfl
 i3:=by kernel_rfl
 i4:=by kernel_rfl
 i5:=by kernel_rfl
 i9:=by kernel_rfl
 i20:=by kernel_rfl
 i37:=by kernel_rfl
 i46:=by kernel_rfl
 i51:=by kernel_rfl
 i53:=by kernel_rfl
 i171:=by kernel_rfl
 i173:=by kernel_rfl
 i212:=by kernel_rfl
 i232:=by kernel_rfl
 i233:=by kernel_rfl
 m17:=by kernel_rfl
 m18:=by kernel_rfl
 m19:=by kernel_rfl }
end
section
open Go.RowKit Go.Shelf Go.Sort
attribute [local go_sem] Oper.semAt_some
theorem infoK_parts2 {P:Program} {e:TypeId} {z:Option Value} {s b:Nat} (h:(P.info? e).map (fun i=>(i.zero,i.size,i.bytes))=some (z,s,b)):∃ i,P.info? e=some i∧i.zero=z∧i.size=s∧i.bytes=b:=by
 obtain ⟨i,hi,e'⟩:=Option.map_eq_some_iff.1 h
 simp only [Prod.mk.injEq] at e'
 exact ⟨i,hi,e'⟩
def sortL (l:List Int):List Int:=l.mergeSort fun x y=>decide (x≤y)
def ownL (l:List Int):List Int:=Lib.compact (sortL l)
theorem sort_len (l:List Int):(sortL l).length=l.length:=by unfold sortL;simp
theorem sort_mem (l:List Int) (c:Int):c ∈ sortL l ↔ c ∈ l:=by unfold sortL;exact List.mem_mergeSort
theorem sort_rises (l:List Int):(sortL l).Pairwise (fun a b=>a≤b):=by
 have:=List.pairwise_mergeSort (le:=fun x y:Int=>decide (x≤y)) (by intro a b c h k;simp at h k ⊢;omega) (by intro a b;simp;omega) l
 exact this.imp fun h=>of_decide_eq_true h
theorem compact_upto (zs:List Int) (hs:zs.Pairwise (fun a b=>a≤b)):∀ m,m≤zs.length→(∀ x,x ∈ Lib.compactUpTo zs.toArray m ↔ x ∈ zs.take m)∧(Lib.compactUpTo zs.toArray m).Pairwise (fun a b=>a < b):=by
 intro m
 induction m with
 | zero=>intro _;exact ⟨fun x=>by simp [Lib.compactUpTo],by simp [Lib.compactUpTo]⟩
 | succ m ih =>
  intro hm
  obtain ⟨h1,h2⟩:=ih (by omega)
  have hlt:m < zs.length:=by omega
  have e0:zs.toArray[m]! = zs[m]:=by simp [getElem!_pos,hlt]
  rw [Lib.compactUpTo_succ]
  have hle:∀ x ∈ zs.take m,x≤zs[m]:=fun x hx=>by
   obtain ⟨i,hi,rfl⟩:=List.mem_iff_getElem.1 hx
   rw [List.getElem_take]
   rw [List.length_take] at hi
   exact List.pairwise_iff_getElem.1 hs i m (by omega) hlt (by omega)
  have htk:zs.take (m+1)=zs.take m ++ [zs[m]]:=List.take_succ_eq_append_getElem hlt
  by_cases hk:Lib.keeps zs.toArray m=true
  · rw [if_pos hk,e0,htk]
    refine ⟨fun x=>by rw [List.mem_append,List.mem_append,h1],?_⟩
    rw [List.pairwise_append]
    refine ⟨h2,by simp,fun a ha b hb=>?_⟩
    simp only [List.mem_singleton] at hb;subst hb
    have ha':=(h1 a).1 ha
    have:=hle a ha'
    unfold Lib.keeps at hk
    have hk:=of_decide_eq_true hk
    rcases hk with rfl | hk
    · simp at ha'
    · by_cases hm0:m=0
      · subst hm0;simp at ha'
      · have e1:zs.toArray[m - 1]! = zs[m - 1]:=by simp [getElem!_pos,show m - 1 < zs.length by omega]
        rw [e0,e1] at hk
        have h3:a≤zs[m - 1]:=by
         obtain ⟨i,hi,rfl⟩:=List.mem_iff_getElem.1 ha'
         rw [List.getElem_take]
         rw [List.length_take] at hi
         by_cases hi2:i=m - 1
         · subst hi2;exact Int.le_refl _
         · exact List.pairwise_iff_getElem.1 hs i (m - 1) (by omega) (by omega) (by omega)
        have h4:zs[m - 1]≤zs[m]:=List.pairwise_iff_getElem.1 hs (m - 1) m (by omega) hlt (by omega)
        omega
  · have hk:Lib.keeps zs.toArray m=false:=by cases h:Lib.keeps zs.toArray m <;> simp_all
    rw [hk,htk]
    refine ⟨fun x=>?_,by simpa using h2⟩
    simp only [Bool.false_eq_true,if_false,List.append_nil,List.mem_append,List.mem_singleton]
    rw [h1]
    refine ⟨.inl,?_⟩
    rintro (h | rfl)
    · exact h
    · unfold Lib.keeps at hk
      have hk:=of_decide_eq_false hk
      have hm0:m ≠ 0:=fun e=>hk (.inl e)
      have e1:zs.toArray[m - 1]! = zs[m - 1]:=by simp [getElem!_pos,show m - 1 < zs.length by omega]
      have:zs[m]=zs[m - 1]:=by
       rw [e0,e1] at hk
       exact Classical.not_not.1 fun h=>hk (.inr h)
      rw [this]
      exact List.mem_iff_getElem.2 ⟨m - 1,by rw [List.length_take];omega,by rw [List.getElem_take]⟩
theorem own_mem (l:List Int) (c:Int):c ∈ ownL l ↔ c ∈ l:=by
 unfold ownL Lib.compact
 rw [(compact_upto _ (sort_rises l) _ (Nat.le_refl _)).1,List.take_length,sort_mem]
theorem own_rises (l:List Int):(ownL l).Pairwise (fun a b=>a < b):=(compact_upto _ (sort_rises l) _ (Nat.le_refl _)).2
theorem own_nodup (l:List Int):(ownL l).Nodup:=(own_rises l).imp fun h e=>by subst e;omega
theorem own_len (l:List Int):(ownL l).length≤l.length:=by
 unfold ownL Lib.compact Lib.compactUpTo
 rw [List.length_map]
 exact Nat.le_trans (List.length_filter_le _ _) (by rw [List.length_range,sort_len];exact Nat.le_refl _)
def Keeps0K (n0:Nat) (W W':World):Prop:=∀ k,k < n0→W'.heap[k]?=W.heap[k]?
theorem keepsK0_trans {n0:Nat} {A B C:World} (h:Keeps0K n0 A B) (k:Keeps0K n0 B C):Keeps0K n0 A C:=fun i hi=>(k i hi).trans (h i hi)
theorem heap_putLK {A:World} {l:Nat} {o o':Obj} (hl:A.heap[l]?=some o) (ho:o.isCells=false) {b:Nat} {cs:Array Value} {t:TypeId} {fr:Nat × Nat} (h:A.heap[b]?=some (.cells cs t fr)):(A.putObj l o').heap[b]?=some (.cells cs t fr):=by
 have hne:b ≠ l:=by
  rintro rfl
  rw [h] at hl;cases hl;cases ho
 rw [World.putObj_heap_other hne];exact h
theorem below_putLK {n:Nat} {w A:World} {l:Nat} (o':Obj) (h:Below n w A) (hl:n≤l):Below n w (A.putObj l o') :=
 ⟨h.os,h.tape,h.output,by simpa using h.size,fun k hk=>(World.putObj_heap_other (by omega)).trans (h.block k hk)⟩
structure GrowingK (w:World) (T E:TypeId) (z:Nat) (cells:List Value) (n:Nat) (W:World):Prop where
 held:∃ v,Boxed W w.heap.size T v∧W.ownsRow w.heap.size E z v n cells
 below:Below w.heap.size w W
theorem GrowingK.stays {w:World} {T E:TypeId} {z:Nat} {cells:List Value} {n:Nat} {A B:World} (h:GrowingK w T E z cells n A) (k:Below A.heap.size A B):GrowingK w T E z cells n B:=by
 obtain ⟨v,h1,h2⟩:=h.held
 exact ⟨⟨v,below_kept k h1,ownsRow_below h2 k⟩,h.below.trans (k.mono h.below.size)⟩
theorem GrowingK.apart {w:World} {T E:TypeId} {z:Nat} {cells:List Value} {n:Nat} {A:World} {l:Nat} {o:Obj} (o':Obj) (h:GrowingK w T E z cells n A) (hl:w.heap.size≤l) (ho:A.heap[l]?=some o) (hc:o.isCells=false):GrowingK w T E z cells n (A.putObj l o'):=by
 obtain ⟨v,h1,h2⟩:=h.held
 exact ⟨⟨v,heap_putLK ho hc h1,ownsRow_putObj h2 o' ho hc⟩,below_putLK o' h.below hl⟩
theorem values1_tells (n:Nat) (ao:Option Addr) (cap:Nat) (l:List Int) (Bs n0:Nat) (w:World) (hN:l.length≤1099511627776) (hI:IntsAt w ao l) (hbs:w.heap[Bs]?=some (.cells #[.slice ao l.length cap] 41 (0,0))) (h1:Bs < n0) (h2:l=[]∨∀ A,ao=some A→A.block < n0) :
 Tells Fence.wide n Tryz.prog 204 #[.pointer (some ⟨Bs,0,none⟩)] (fun x:Int=>#[Value.int .i64 x]) (Keeps0K n0) (fun pre x _=>pre.length < l.length) (fun _ _=>True) (fun ys=>ys=l) (fun _=>True) w:=by
 intro lp J Jx W hW hJ hJx hRm hY h0
 have HY:=Lib.hid hY
 have HBs:=Lib.hid ((hW.block Bs (lt_of_heap hbs)).trans hbs)
 have HI:=Lib.hid (hI.kept hW)
 have H0:=Lib.hid h0
 have HSt:=Lib.hid hJ
 have H2:=Lib.hid h2
 clear hJ hRm hY hJx hW hbs h0 hI h2
 refine callsIn_of_wp Tryz.func204 rfl trivial ?_ rfl
 simp only [Tryz.ntmps204,List.size_toArray,List.length_cons,List.length_nil,Nat.reduceAdd,Nat.reduceSub,Array.replicate_succ,Array.replicate_zero,List.push_toArray,List.append_toArray,List.nil_append,List.cons_append]
 obtain ⟨c0,_⟩:=cell_of_box_l HBs.out
 gi_wp2_with fail
 gi_loopw [7] (fun i wr=>∃ (k:Nat),k≤l.length∧i=.int .i64 k∧Hid (J (l.take k) wr)∧Hid (IntsAt wr ao l)) (fun i _=>l.length - (intOf i).toNat)
 case atStart=>exact ⟨0,Nat.zero_le _,rfl,H0,HI⟩
 case round =>
  obtain ⟨k,hk,rfl,HJ,HIr⟩:=hrel
  clear HBs H0 HI c0
  by_cases hlt:k < l.length
  · rcases HIr.out with h | ⟨A,rfl,hA,hcell⟩
    · rw [h] at hlt;simp at hlt
    obtain ⟨x,hx⟩:∃ x,l[k]?=some x:=⟨_,List.getElem?_eq_getElem hlt⟩
    have c1:=hcell k x hx
    have htk:l.take (k+1)=l.take k ++ [x]:=by rw [List.take_add_one,hx];rfl
    have HTK:=Lib.hid htk
    obtain ⟨fn,tmps,assign,body,hy,hR⟩:=HY.out (l.take k) x wr HJ.out (by rw [List.length_take];omega)
    have HR:=Lib.hid hR
    have e7:IntKind.i64.wrap ((k:Int)+1)=(k:Int)+1:=IntWalk.i64_in _ (by omega)
    have HIK:=Lib.hid (show ∀ B,Keeps0K n0 wr B→IntsAt B (some A) l from fun B hB=>by
     have hlt2:A.block < n0:=by
      rcases H2.out with h | h
      · rw [h] at hlt;simp at hlt
      · exact h A rfl
     have hblk:=hB _ hlt2
     refine .inr ⟨A,rfl,?_,fun i p hp=>?_⟩
     · have:=Array.getElem?_eq_some_iff.2 ⟨hA,rfl⟩
       rw [← hblk] at this
       exact (Array.getElem?_eq_some_iff.1 this).1
     · have:=hcell i p hp
       have hb:(A.add i).block=A.block:=add_block A i
       rw [← this]
       unfold World.cell?
       rw [hb,hblk])
    clear hR hcell htk hx
    gi_wp2_with fail
    refine ⟨(fun h=>by cases h),HR.out.mono ?_⟩
    rintro ee W3 (⟨rfl,hJ3,hk3⟩ | ⟨rfl,hJx3⟩)
    · have HJ3:=Lib.hid hJ3
      have HI3:=Lib.hid (HIK.out _ hk3)
      clear hJ3 hk3 hy c1
      gi_wp2_with fail
      go_roundw
      case rel=>exact ⟨k+1,by omega,by go_num,by rw [HTK.out];exact HJ3,HI3⟩
      case measure=>simp [intOf];omega
    · have HX:=Lib.hid hJx3
      clear hJx3
      gi_wp2_with fail
      refine bodyPost_ret (results_none rfl _ _ _) rfl ?_
      exact ⟨⟨_,rfl⟩,.inr ⟨_,trivial,HX.out⟩⟩
  · have E:=Lib.hid (show l.take k=l from List.take_of_length_le (by omega))
    gi_wp2_with fail
    go_end0
    exact ⟨⟨_,rfl⟩,.inl ⟨_,E.out,HJ.out⟩⟩
def IntsNew (l:List Int) (w:World) (e:Ending) (w':World):Prop:=∃ v,e=.returned v∧w'.ownsRow w.heap.size 3 1 v l.length (l.map (Value.int .i64))∧Below w.heap.size w w'
theorem appendSeqK_any (ao:Option Addr) (cap:Nat) (l:List Int) (Bs:Nat) (w:World) (hN:l.length≤1099511627776) (hI:IntsAt w ao l) (hbs:w.heap[Bs]?=some (.cells #[.slice ao l.length cap] 41 (0,0))) :
 Calls Tryz.prog 197 #[.slice none 0 0,.func (.func 204) #[] #[.pointer (some ⟨Bs,0,none⟩)]] w (IntsNew l w):=by
 have hinfo:(Tryz.prog.info? 3).map (fun i=>(i.zero,i.size,i.bytes))=some (some (.int .i64 0),1,8):=by kernel_rfl
 obtain ⟨i0,hi,hz0,hz1,hz2⟩:=infoK_parts2 hinfo
 have HIN:=Lib.hid hi
 refine (callsIn_wide (n:=4)).1 ?_
 obtain ⟨U,HU⟩:∃ U,Hid (U=w.alloc (.cells #[.slice none 0 0] 41)):=⟨_,Lib.hid rfl⟩
 have hbU:Below w.heap.size w U:=by rw [HU.out];exact (Below.refl _ w).alloc (Nat.le_refl _) _
 have hB1:U.heap[w.heap.size]?=some (.cells #[.slice none 0 0] 41 (0,0)):=by rw [HU.out];exact World.alloc_heap_new _ _
 have hsU:w.heap.size+1=U.heap.size:=by rw [HU.out];simp
 have hA:l=[]∨∀ A,ao=some A→A.block < w.heap.size:=by
  rcases hI with h | ⟨A,h1,h2,h3⟩
  · exact .inl h
  · exact .inr fun A' h=>by rw [h1] at h;cases h;exact h2
 have TL:=Lib.hid (values1_tells 3 ao cap l Bs w.heap.size U hN (hI.kept hbU) ((hbU.block _ (lt_of_heap hbs)).trans hbs) (lt_of_heap hbs) hA)
 have H0:Hid (GrowingK w 41 3 1 (([]:List Int).map (Value.int .i64)) ([]:List Int).length U):=Lib.hid ⟨⟨_,hB1,World.ownsRow_nil _ _ _ _⟩,hbU⟩
 have HSU:=Lib.hid hsU
 clear hbU hB1 hsU hbs hI hi hinfo hA
 refine callsIn_of_wp_marks Tryz.func197 rfl trivial ?_ rfl
 simp only [Tryz.ntmps197,List.size_toArray,List.length_cons,List.length_nil,Nat.reduceAdd,Nat.reduceSub,Array.replicate_succ,Array.replicate_zero,List.push_toArray,List.append_toArray,List.nil_append,List.cons_append]
 gi_wp2_with fail
 rw [← HU.out]
 refine wpIn_range_tells rfl (by decide) (gf:=204) (lb:=#[.pointer (some ⟨Bs,0,none⟩)]) rfl trivial (enters_of Tryz.func204 (by kernel_rfl) rfl)
  TL.out (Below.refl _ _) (fun _=>rfl) keepsK0_trans (fun A l o o' hl _ _ k hk=>World.putObj_heap_other (by have:=HSU.out;omega))
  (fun {A B} hA hAB k hk=>hAB.block k (by have:=HSU.out;omega))
  (fun pre W=>GrowingK w 41 3 1 (pre.map (Value.int .i64)) pre.length W) (fun _ _=>False) (fun pre A B h k=>h.stays k) (fun pre A B h k=>h)
  (fun pre A l o o' h hl ho hc=>h.apart o' (by have:=HSU.out;omega) ho hc) (fun pre A l o o' h hl ho hc=>h) (fun _ _ _=>trivial)
  (fun pre x A B h k=>h) (fun pre x A l o o' h hl ho hc=>h) H0.out
  (fun x a' A=>a'={ tmps:=#[.slice none 0 0,.func (.func 204) #[] #[.pointer (some ⟨Bs,0,none⟩)],.pointer (some ⟨w.heap.size,0,none⟩),undef,.slice none 0 0,.int .i64 x,.func (.func 204) #[] #[.pointer (some ⟨Bs,0,none⟩)],.int .i64 x,undef,undef,undef,undef,undef],defers:=[] })
  (fun x a' A l o o' h hl ho hc=>h) ?assign ?body ?done ?stop
 case assign =>
  intro l x A K hA hK
  gi_wp2_with fail
  exact hK _ _ (Below.refl _ A) rfl
 case body =>
  rintro lp pre x a' A hA hI hok1 rfl
  obtain ⟨v,hv,ho⟩:=hI.held
  obtain ⟨ao,cap,rfl⟩:=own_slice ho
  have hI':=Lib.hid hI
  have HO:=Lib.hid ho
  have HV:=Lib.hid hv
  have HOA:Hid ((A.alloc (.cells #[.int .i64 x] 3)).ownsRow w.heap.size 3 1 (.slice ao pre.length cap) pre.length (pre.map (Value.int .i64))):=Lib.hid (ho.alloc _)
  have cl:=hv.cell
  have hws:w.heap.size≤A.heap.size:=hI.below.size
  clear hI ho hv
  gi_wp2_with (gi_at_builtin;refine wpListIn_append_own _ rfl _ _ 41 rfl w.heap.size 3 i0 (.int .i64 0) 1 8 Tryz.underlying41 HIN.out hz0 hz1 hz2 rfl (by decide) _ _ _ rfl HOA.out ⟨A.heap.size,0,none⟩ 1 1 [.int .i64 x] rfl rfl ?c1 ?c2 ?c3 ?c4 ?c5 ?_)
  case c1 =>
   intro j u hj
   rw [cell_row (World.alloc_heap_new A _)]
   match j,hj with
   | 0,hj=>simp at hj;subst hj;rfl
  case c2=>intro u hu;simp at hu;subst hu;rfl
  case c3=>unfold maxLen;omega
  case c4=>omega
  case c5=>simp;omega
  intro v' w3 hown' hgrow _
  obtain ⟨q1,q2,q3,q4,q5⟩:=Boxed.appended (n₀:=w.heap.size) (size:=1) HV.out (by decide) HO.out hws (Nat.le_refl _) hown' hgrow
  obtain ⟨g2,cp',rfl⟩:=ownsRow_succ hown'
  have k1:=q1.cell
  have k2:=q1.frozen
  have Q:Hid (KeepsOthers A (w3.setCell ⟨w.heap.size,0,none⟩ (.slice (some ⟨g2,0,none⟩) (pre.length+1) cp'))∧Keeps0K w.heap.size A (w3.setCell ⟨w.heap.size,0,none⟩ (.slice (some ⟨g2,0,none⟩) (pre.length+1) cp'))∧GrowingK w 41 3 1 ((pre ++ [x]).map (Value.int .i64)) (pre ++ [x]).length (w3.setCell ⟨w.heap.size,0,none⟩ (.slice (some ⟨g2,0,none⟩) (pre.length+1) cp'))) :=
   Lib.hid ⟨q4,fun k hk=>q5.block k hk,⟨⟨_,q2,by rw [List.length_append,List.map_append];exact q3⟩,hI'.out.below.trans q5⟩⟩
  clear hown' hgrow q1 q2 q3 q4 q5
  gi_wp2_with fail
  exact Q.out
 case done =>
  rintro D ps A hD rfl hI hK
  obtain ⟨v,hv,ho⟩:=hI.held
  have c0:=hv.cell
  have HE:Hid (IntsNew ps w (.returned v) (A.putObj D (.deferred none))):=Lib.hid ⟨_,rfl,ownsRow_putObj ho (.deferred none) hK rfl,below_putLK (.deferred none) hI.below (show w.heap.size≤D by have:=HSU.out;omega)⟩
  obtain ⟨ao,cap,rfl⟩:=own_slice ho
  clear hI ho hv
  gi_wp2_with fail
  refine ⟨by simp,.inl ⟨_,_,rfl,run_takeDeferred hK,?_⟩⟩
  refine ⟨_,results_tmp rfl _ _ _,?_⟩
  exact HE.out
 case stop =>
  rintro D pre W _ _ h _
  exact h.elim
theorem collectK_any (ao:Option Addr) (cap:Nat) (l:List Int) (Bs:Nat) (w:World) (hN:l.length≤1099511627776) (hI:IntsAt w ao l) (hbs:w.heap[Bs]?=some (.cells #[.slice ao l.length cap] 41 (0,0))) :
 Calls Tryz.prog 155 #[.func (.func 204) #[] #[.pointer (some ⟨Bs,0,none⟩)]] w (IntsNew l w):=by
 have C:=Lib.hid (appendSeqK_any ao cap l Bs w hN hI hbs)
 clear hI hbs
 go_enter Tryz.func155,Tryz.ntmps155
 go_wp2_with fail
 refine C.out.mono ?_
 rintro e w1 ⟨v,rfl,h2⟩
 have HE:Hid (IntsNew l w (.returned v) w1):=Lib.hid ⟨v,rfl,h2⟩
 obtain ⟨bo,cap,rfl⟩:=own_slice h2.1
 clear h2
 go_wp2_with fail
 go_ret
 exact HE.out
theorem sorted_any (ao:Option Addr) (cap:Nat) (l:List Int) (Bs:Nat) (w:World) (hN:l.length≤1099511627776) (hI:IntsAt w ao l) (hbs:w.heap[Bs]?=some (.cells #[.slice ao l.length cap] 41 (0,0))) :
 Calls Tryz.prog 101 #[.func (.func 204) #[] #[.pointer (some ⟨Bs,0,none⟩)]] w (IntsNew (sortL l) w):=by
 have C:=Lib.hid (collectK_any ao cap l Bs w hN hI hbs)
 clear hI hbs
 go_enter Tryz.func101,Tryz.ntmps101
 go_wp2_with fail
 refine C.out.mono ?_
 rintro e w1 ⟨v,rfl,hown,hbel⟩
 rcases hown.2 with ⟨rfl,h0⟩ | ⟨g,cap,cur,rfl,hbase,hgb,r1,r2,r3,r4⟩
 · have hl:l=[]:=List.eq_nil_of_length_eq_zero h0
   subst hl
   have HE:Hid (IntsNew (sortL []) w (.returned (.slice none 0 0)) w1):=Lib.hid ⟨_,rfl,by simpa [sortL] using hown,hbel⟩
   have S:=Lib.hid (AnyM.slices_Sort_int_none laysO none 0 w1)
   clear hown hbel h0
   go_wp2_with fail
   refine S.out.mono ?_
   rintro e w2 ⟨rfl,rfl⟩
   go_wp2_with fail
   go_ret
   exact HE.out
 · have hH:Holds (Value.int .i64) w1 g 0 l.toArray:=holds_of_blockI hgb (by simpa using r4)
   have hgl:g < w1.heap.size:=lt_of_heap hgb
   have S:=Lib.hid (AnyM.slices_Sort_int laysO g 0 cap l w1 hH hgl (by omega))
   have HE:Hid (∀ n os,IntsNew (sortL l) w (.returned (.slice (some ⟨g,0,none⟩) l.length cap)) (grow (putRow (Value.int .i64) (Sort.ahead w1 n) g 0 (sortL l).toArray) os)):=Lib.hid fun n os =>
    ⟨_,rfl,by rw [sort_len];exact ownsRow_sortedI (sort_len l) hbase hgb r1 r2 r3,hbel.grown (grownBy_sortedI _) hbel.size (fun j hj=>by cases hj;exact hbase)⟩
   clear hown hbel hgb r1 r2 r3 r4 hH hgl
   go_wp2_with fail
   refine S.out.mono ?_
   rintro e w2 ⟨rfl,n,os,hw2⟩
   have HE2:=Lib.hid (HE.out n os)
   rw [show (grow (putRow (Value.int .i64) (Sort.ahead w1 n) g 0 (sortL l).toArray) os)=w2 from hw2.symm] at HE2
   clear hw2
   go_wp2_with fail
   go_ret
   exact HE2.out
theorem values_any (ao:Option Addr) (n cap:Nat) (w:World):Calls Tryz.prog 171 #[.slice ao n cap] w fun e w'=>e=.returned (.func (.func 204) #[] #[.pointer (some ⟨w.heap.size,0,none⟩)])∧w'=w.alloc (.cells #[.slice ao n cap] 41):=by
 go_enter Tryz.func171,Tryz.ntmps171
 go_wp2_with fail
 go_ret
 exact ⟨rfl,rfl⟩
theorem compact_any (base:Nat) (v:Value) (l:List Int) (w:World) (hb:base≤w.heap.size) (hN:l.length≤1099511627776) (hown:w.ownsRow base 3 1 v l.length (l.map (Value.int .i64))) :
 Calls Tryz.prog 170 #[v] w fun e w'=>∃ ao cap,e=.returned (.slice ao (Lib.compact l).length cap)∧IntsAt w' ao (Lib.compact l)∧(Lib.compact l).length≤cap∧Below base w w':=by
 rcases hown.2 with ⟨rfl,h0⟩ | ⟨g,cap,cur,rfl,hbase,hgb,r1,r2,r3,r4⟩
 · have hl:l=[]:=List.eq_nil_of_length_eq_zero h0
   subst hl
   refine (AnyG.slices_Compact_int_empty laysC none 0 w).mono ?_
   rintro e w' ⟨rfl,rfl⟩
   exact ⟨none,0,rfl,.inl rfl,Nat.le_refl _,Below.refl _ _⟩
 · have hH:Holds (Value.int .i64) w g 0 l.toArray:=holds_of_blockI hgb (by simpa using r4)
   have hgl:g < w.heap.size:=lt_of_heap hgb
   refine (AnyG.slices_Compact_int laysC g 0 cap l w hH (by omega) r1).mono ?_
   rintro e w' ⟨rfl,q,rfl⟩
   have hlen:(Lib.compact l).length≤l.length:=by
    unfold Lib.compact Lib.compactUpTo
    rw [List.length_map]
    exact Nat.le_trans (List.length_filter_le _ _) (by rw [List.length_range];exact Nat.le_refl _)
   have hsz:(Lib.compact l ++ List.replicate (l.length - (Lib.compact l).length) 0).toArray.size=l.toArray.size:=by simp;omega
   refine ⟨_,cap,rfl,.inr ⟨⟨g,0,none⟩,rfl,by simpa using hgl,fun i p hp=>?_⟩,by omega,?_⟩
   · have hi:i < (Lib.compact l).length:=(List.getElem?_eq_some_iff.1 hp).1
     have e1:((⟨g,0,none⟩:Addr).add i)=⟨g,0+i,none⟩:=by unfold Addr.add;split <;> simp_all
     have h3:=cell?_putRow (Value.int .i64) (Sort.ahead w q) g 0 l.toArray (Lib.compact l ++ List.replicate (l.length - (Lib.compact l).length) 0).toArray hH hsz i (by simp;omega)
     rw [e1,h3]
     congr 2
     simp [List.getElem!_eq_getElem?_getD,List.getElem?_append_left hi,hp]
   · exact (Below.refl base w).grown (grownBy_sortedI (os:=#[]) _) hb (fun j hj=>by cases hj;exact hbase)
end
end Go.Proofs.YtdenehnneloegaaGreatDoor
