/-
  Texts of these rows' proofs, laid one behind the other: GMath, GBase, GCmp.
  Conditions: those of each theorem.
-/
import Derived.Test.YtdenehnneloegaaGreatDoorPa6
import Derived.WalkKit
import Derived.WalkMore
import Derived.OwnWalk
import Derived.Lib.Hide
import Derived.Laws.OwnMore
import Derived.Test.YtdenehnneloegaaGreatDoorProg
import Derived.IntWalk
import Derived.Sort.Grow
import Derived.StillTailTactics
import Derived.Deep.Cut
import Derived.Deep.RegionWith
import Derived.Deep.RegionHeld3
namespace Go.Proofs.YtdenehnneloegaaGreatDoor
set_option linter.unusedVariables false
set_option maxRecDepth 100000
set_option maxHeartbeats 8000000
section
set_option linter.unusedSimpArgs false
abbrev T3:=Int × Int × Int
abbrev TL:=List T3
def cmpT (c d:T3):Int:=if cmpI d.2.2 c.2.2 ≠ 0 then cmpI d.2.2 c.2.2 else if cmpI c.1 d.1 ≠ 0 then cmpI c.1 d.1 else cmpI c.2.1 d.2.1
def betterT (c d:T3):Bool:=if c.2.2 ≠ d.2.2 then decide (d.2.2 < c.2.2) else if c.1 ≠ d.1 then decide (c.1 < d.1) else decide (c.2.1 < d.2.1)
theorem better_iff (c d:T3):betterT c d=true ↔ d.2.2 < c.2.2∨(c.2.2=d.2.2∧(c.1 < d.1∨(c.1=d.1∧c.2.1 < d.2.1))):=by
 unfold betterT
 split
 · rename_i h;simp;omega
 · rename_i h
   split
   · rename_i h2;simp;omega
   · rename_i h2;simp;omega
theorem cmpT_neg (c d:T3):decide (cmpT c d < 0)=betterT c d:=by
 have key:cmpT c d < 0 ↔ betterT c d=true:=by
  rw [better_iff]
  unfold cmpT cmpI
  obtain ⟨a,b,s⟩:=c
  obtain ⟨x,y,t⟩:=d
  dsimp
  rcases Int.lt_trichotomy t s with h | h | h
  · have h2:¬ s < t:=by omega
    simp only [h,if_true];simp
  · subst h
    simp only [Int.lt_irrefl,if_false,not_true,false_or,true_and]
    rcases Int.lt_trichotomy a x with g | g | g
    · simp [g]
    · subst g
      simp only [Int.lt_irrefl,if_false,not_true,false_or,true_and]
      rcases Int.lt_trichotomy b y with k | k | k
      · simp [k]
      · subst k;simp
      · have k2:¬ b < y:=by omega
        simp [k,k2]
    · have g2:¬ a < x:=by omega
      have g3:¬ a=x:=by omega
      simp [g,g2,g3]
  · have h2:¬ t < s:=by omega
    have h3:¬ s=t:=by omega
    simp [h,h2,h3]
 cases hb:betterT c d with
 | true=>exact decide_eq_true (key.2 hb)
 | false=>exact decide_eq_false (fun h=>by have:=key.1 h;rw [hb] at this;cases this)
theorem better_irrefl (c:T3):betterT c c=false:=by
 cases h:betterT c c with
 | false=>rfl
 | true=>rw [better_iff] at h;omega
theorem better_trans {c d e:T3} (h:betterT c d=true) (k:betterT d e=true):betterT c e=true:=by
 rw [better_iff] at *;omega
theorem better_ntrans {c d e:T3} (h:betterT c d=false) (k:betterT d e=false):betterT c e=false:=by
 cases hc:betterT c e with
 | false=>rfl
 | true =>
  have h':¬ betterT c d=true:=by rw [h];simp
  have k':¬ betterT d e=true:=by rw [k];simp
  rw [better_iff] at *;omega
theorem better_either {c d:T3} (h:betterT c d=false) (k:betterT d c=false):c=d:=by
 have h':¬ betterT c d=true:=by rw [h];simp
 have k':¬ betterT d c=true:=by rw [k];simp
 rw [better_iff] at *
 obtain ⟨a,b,s⟩:=c
 obtain ⟨x,y,t⟩:=d
 dsimp at *
 have h1:s=t:=by omega
 have h2:a=x:=by omega
 have h3:b=y:=by omega
 rw [h1,h2,h3]
theorem better_one {c d:T3} (h:betterT c d=true):betterT d c=false:=by
 cases k:betterT d c with
 | false=>rfl
 | true=>have:=better_trans h k;rw [better_irrefl] at this;cases this
def okT (tk:PL) (c:T3):Bool:=decide (0≤c.1) && decide (0≤c.2.1) && decide (c.1 ∉ tk.map Prod.fst) && decide (c.2.1 ∉ tk.map Prod.snd)
theorem ok_iff (tk:PL) (c:T3):okT tk c=true ↔ 0≤c.1∧0≤c.2.1∧c.1 ∉ tk.map Prod.fst∧c.2.1 ∉ tk.map Prod.snd:=by
 simp only [okT,Bool.and_eq_true,decide_eq_true_eq]
 constructor
 · rintro ⟨⟨⟨a,b⟩,c⟩,d⟩;exact ⟨a,b,c,d⟩
 · rintro ⟨a,b,c,d⟩;exact ⟨⟨⟨a,b⟩,c⟩,d⟩
def stepT (tk:PL) (c:T3):PL:=if okT tk c then tk ++ [(c.1,c.2.1)] else tk
def scanT (l:TL):PL:=l.foldl stepT []
theorem scan_snoc (l:TL) (c:T3):scanT (l ++ [c])=stepT (scanT l) c:=by simp [scanT,List.foldl_append]
def bestT (x:T3) (l:TL):T3:=l.foldl (fun b y=>if betterT y b then y else b) x
theorem best_snoc (x:T3) (l:TL) (y:T3):bestT x (l ++ [y])=if betterT y (bestT x l) then y else bestT x l:=by unfold bestT;rw [List.foldl_append];rfl
theorem best_spec (l:TL):∀ x,bestT x l ∈ x :: l∧∀ y ∈ x :: l,betterT y (bestT x l)=false:=by
 induction l with
 | nil=>intro x;simp [bestT,better_irrefl]
 | cons z l ih =>
  intro x
  have e:bestT x (z :: l)=bestT (if betterT z x then z else x) l:=rfl
  rw [e]
  cases hz:betterT z x with
  | true =>
   obtain ⟨h1,h2⟩:=ih z
   simp only [if_true]
   refine ⟨List.mem_cons_of_mem _ h1,fun y hy=>?_⟩
   rcases List.mem_cons.1 hy with rfl | hy
   · exact better_ntrans (better_one hz) (h2 z (by simp))
   · exact h2 y hy
  | false =>
   obtain ⟨h1,h2⟩:=ih x
   simp only [Bool.false_eq_true,if_false]
   refine ⟨?_,fun y hy=>?_⟩
   · rcases List.mem_cons.1 h1 with h | h
     · rw [h];simp
     · simp [h]
   · rcases List.mem_cons.1 hy with rfl | hy
     · exact h2 y (by simp)
     · rcases List.mem_cons.1 hy with rfl | hy
       · exact better_ntrans hz (h2 x (by simp))
       · exact h2 y (by simp [hy])
theorem best_is {x m:T3} {l:TL} (hm:m ∈ x :: l) (h:∀ y ∈ x :: l,betterT y m=false):bestT x l=m:=by
 obtain ⟨h1,h2⟩:=best_spec l x
 exact better_either (h _ h1) (h2 m hm)
def withoutT (l:TL) (x:T3):TL:=l.filter (fun y=>decide (y.1 ≠ x.1) && decide (y.2.1 ≠ x.2.1))
def freeT (l:TL):TL:=l.filter (fun c=>decide (0≤c.1) && decide (0≤c.2.1))
def refT:Nat→TL→PL
 | 0,_=>[]
 | _+1,[]=>[]
 | n+1,x :: l=>((bestT x l).1,(bestT x l).2.1) :: refT n (withoutT (x :: l) (bestT x l))
theorem without_less (x:T3) (l:TL):(withoutT (x :: l) (bestT x l)).length≤l.length:=by
 have hm:=(best_spec l x).1
 unfold withoutT
 have:∀ (m:T3) (r:TL),m ∈ r→(r.filter (fun y=>decide (y.1 ≠ m.1) && decide (y.2.1 ≠ m.2.1))).length < r.length:=fun m r hr=>by
  refine List.length_filter_lt_length_iff_exists.2 ⟨m,hr,by simp⟩
 have:=this _ _ hm
 rw [List.length_cons] at this;omega
theorem ref_none (n:Nat):refT n []=[]:=by cases n <;> rfl
theorem ref_more:∀ (n m:Nat) (l:TL),l.length≤n→n≤m→refT m l=refT n l
 | 0,m,l,h,_=>by
  have:l=[]:=List.eq_nil_of_length_eq_zero (by omega)
  subst this;rw [ref_none,ref_none]
 | n+1,m,[],h,_=>by rw [ref_none,ref_none]
 | n+1,m,x :: l,h,k=>by
  obtain ⟨m,rfl⟩:∃ q,m=q+1:=⟨m - 1,by omega⟩
  have:=without_less x l
  rw [refT,refT,ref_more n m _ (by simp at h;omega) (by omega)]
theorem ref_perm:∀ (n:Nat) (l l':TL),l.Perm l'→refT n l=refT n l'
 | 0,l,l',_=>rfl
 | n+1,[],l',h=>by rw [List.nil_perm.1 h]
 | n+1,x :: l,[],h=>by have:=h.length_eq;simp at this
 | n+1,x :: l,x' :: l',h=>by
  obtain ⟨h1,h2⟩:=best_spec l' x'
  have e:bestT x l=bestT x' l':=best_is (h.mem_iff.2 h1) (fun y hy=>h2 y (h.mem_iff.1 hy))
  rw [refT,refT,e]
  have hp:(withoutT (x :: l) (bestT x' l')).Perm (withoutT (x' :: l') (bestT x' l')):=h.filter _
  rw [ref_perm n _ _ hp]
def SortedT (l:TL):Prop:=l.Pairwise (fun x y=>betterT y x=false)
theorem scan_ref:∀ (S:TL) (tk:PL) (n:Nat),SortedT S→S.length≤n→S.foldl stepT tk=tk ++ refT n (S.filter (okT tk))
 | [],tk,n,_,_=>by simp [ref_none]
 | c :: S,tk,n,hs,hn=>by
  obtain ⟨h1,h2⟩:=List.pairwise_cons.1 hs
  rw [List.foldl_cons]
  cases hc:okT tk c with
  | false =>
   have e:stepT tk c=tk:=by simp [stepT,hc]
   rw [e,scan_ref S tk n h2 (by simp at hn;omega),List.filter_cons]
   simp [hc]
  | true =>
   obtain ⟨n,rfl⟩:∃ q,n=q+1:=⟨n - 1,by simp at hn;omega⟩
   have e:stepT tk c=tk ++ [(c.1,c.2.1)]:=by simp [stepT,hc]
   have eb:bestT c (S.filter (okT tk))=c:=best_is (by simp) (fun y hy=>by
    rcases List.mem_cons.1 hy with rfl | hy
    · exact better_irrefl _
    · exact h1 y (List.mem_filter.1 hy).1)
   have ef:withoutT (c :: S.filter (okT tk)) c=S.filter (okT (tk ++ [(c.1,c.2.1)])):=by
    unfold withoutT
    rw [List.filter_cons,if_neg (by simp),List.filter_filter]
    refine List.filter_congr (fun y _=>?_)
    rw [Bool.eq_iff_iff,Bool.and_eq_true,ok_iff,ok_iff]
    simp only [Bool.and_eq_true,decide_eq_true_eq,List.map_append,List.map_cons,List.map_nil,List.mem_append,List.mem_singleton,not_or]
    constructor
    · rintro ⟨⟨a,b⟩,c,d,e,f⟩;exact ⟨c,d,⟨e,a⟩,f,b⟩
    · rintro ⟨c,d,⟨e,a⟩,f,b⟩;exact ⟨⟨a,b⟩,c,d,e,f⟩
   rw [e,scan_ref S _ n h2 (by simp at hn;omega),List.filter_cons,if_pos hc,refT,eb,ef]
   simp
theorem free_ok (l:TL):l.filter (okT [])=freeT l:=by
 unfold freeT
 refine List.filter_congr (fun y _=>?_)
 simp [okT]
def sortT (l:TL):TL:=l.mergeSort (fun x y=>!betterT y x)
theorem sortT_perm (l:TL):(sortT l).Perm l:=List.mergeSort_perm _ _
theorem sortT_len (l:TL):(sortT l).length=l.length:=(sortT_perm l).length_eq
theorem sortT_sorted (l:TL):SortedT (sortT l):=by
 have:=List.pairwise_mergeSort (le:=fun x y=>!betterT y x) (fun a b c h k=>by
  simp only [Bool.not_eq_true'] at h k ⊢
  exact better_ntrans k h) (fun a b=>by
  simp only [Bool.or_eq_true,Bool.not_eq_true']
  cases h:betterT b a with
  | false=>exact .inl rfl
  | true=>exact .inr (better_one h)) l
 exact this.imp (fun h=>by simpa using h)
theorem scan_sort (l:TL):scanT (sortT l)=refT l.length (freeT l):=by
 unfold scanT
 rw [scan_ref (sortT l) [] l.length (sortT_sorted l) (by rw [sortT_len];exact Nat.le_refl _),free_ok,List.nil_append]
 exact ref_perm _ _ _ ((sortT_perm l).filter _)
structure TakenT (l:TL) (tk:PL):Prop where
 from0:∀ p ∈ tk,0≤p.1∧0≤p.2
 choice:∀ p ∈ tk,∃ c ∈ l,c.1=p.1∧c.2.1=p.2
 fst:(tk.map Prod.fst).Nodup
 snd:(tk.map Prod.snd).Nodup
 best:∀ c ∈ l,0≤c.1→0≤c.2.1→(c.1,c.2.1) ∈ tk∨∃ d ∈ l,(d.1,d.2.1) ∈ tk∧(d.1=c.1∨d.2.1=c.2.1)∧betterT c d=false
theorem nodup_snoc {l:List Int} {a:Int} (h:l.Nodup) (ha:a ∉ l):(l ++ [a]).Nodup :=
 List.nodup_append.2 ⟨h,by simp,fun x hx y hy=>by simp at hy;subst hy;exact fun e=>ha (e ▸ hx)⟩
theorem taken_step {l:TL} {tk:PL} (h:TakenT l tk) (c:T3) (hb:∀ d ∈ l,betterT c d=false):TakenT (l ++ [c]) (stepT tk c):=by
 cases hc:okT tk c with
 | true =>
  have e:stepT tk c=tk ++ [(c.1,c.2.1)]:=by simp [stepT,hc]
  obtain ⟨o1,o2,o3,o4⟩:=(ok_iff tk c).1 hc
  rw [e]
  refine ⟨fun p hp=>?_,fun p hp=>?_,?_,?_,fun x hx x1 x2=>?_⟩
  · rcases List.mem_append.1 hp with hp | hp
    · exact h.from0 p hp
    · simp at hp;subst hp;exact ⟨o1,o2⟩
  · rcases List.mem_append.1 hp with hp | hp
    · obtain ⟨y,hy,e⟩:=h.choice p hp;exact ⟨y,by simp [hy],e⟩
    · simp at hp;subst hp;exact ⟨c,by simp,rfl,rfl⟩
  · rw [List.map_append];exact nodup_snoc h.fst o3
  · rw [List.map_append];exact nodup_snoc h.snd o4
  · rcases List.mem_append.1 hx with hx | hx
    · rcases h.best x hx x1 x2 with g | ⟨d,d1,d2,d3,d4⟩
      · exact .inl (by simp [g])
      · exact .inr ⟨d,by simp [d1],by simp [d2],d3,d4⟩
    · simp at hx;subst hx;exact .inl (by simp)
 | false =>
  have e:stepT tk c=tk:=by simp [stepT,hc]
  rw [e]
  refine ⟨h.from0,fun p hp=>?_,h.fst,h.snd,fun x hx x1 x2=>?_⟩
  · obtain ⟨y,hy,e⟩:=h.choice p hp;exact ⟨y,by simp [hy],e⟩
  · rcases List.mem_append.1 hx with hx | hx
    · rcases h.best x hx x1 x2 with g | ⟨d,d1,d2,d3,d4⟩
      · exact .inl g
      · exact .inr ⟨d,by simp [d1],d2,d3,d4⟩
    · simp at hx;subst hx
      have:∃ p ∈ tk,p.1=x.1∨p.2=x.2.1:=by
       by_cases h3:x.1 ∈ tk.map Prod.fst
       · obtain ⟨p,hp,e⟩:=List.mem_map.1 h3;exact ⟨p,hp,.inl e⟩
       · by_cases h4:x.2.1 ∈ tk.map Prod.snd
         · obtain ⟨p,hp,e⟩:=List.mem_map.1 h4;exact ⟨p,hp,.inr e⟩
         · have:=(ok_iff tk x).2 ⟨x1,x2,h3,h4⟩;rw [hc] at this;cases this
      obtain ⟨p,hp,hor⟩:=this
      obtain ⟨d,hd,e1,e2⟩:=h.choice p hp
      exact .inr ⟨d,by simp [hd],by rw [e1,e2];exact hp,by rw [e1,e2];exact hor,hb d hd⟩
theorem taken_scan:∀ (Q P:TL) (tk:PL),SortedT (P ++ Q)→TakenT P tk→TakenT (P ++ Q) (Q.foldl stepT tk)
 | [],P,tk,_,h=>by simpa using h
 | c :: Q,P,tk,hs,h=>by
  have:=taken_step h c (fun d hd=>(List.pairwise_append.1 hs).2.2 d hd c (by simp))
  have:=taken_scan Q (P ++ [c]) _ (by simpa using hs) this
  simpa using this
theorem taken_sort (l:TL):TakenT (sortT l) (scanT (sortT l)):=by
 have:=taken_scan (sortT l) [] [] (sortT_sorted l) ⟨by simp,by simp,by simp,by simp,by simp⟩
 simpa [scanT] using this
theorem taken_all (l:TL):TakenT l (scanT (sortT l)):=by
 have h:=taken_sort l
 have hm:=fun c=>(sortT_perm l).mem_iff (a:=c)
 exact ⟨h.from0,fun p hp=>by obtain ⟨c,hc,e⟩:=h.choice p hp;exact ⟨c,(hm c).1 hc,e⟩,h.fst,h.snd,fun c hc c1 c2=>by
  rcases h.best c ((hm c).2 hc) c1 c2 with g | ⟨d,d1,d2⟩
  · exact .inl g
  · exact .inr ⟨d,(hm d).1 d1,d2⟩⟩
def pickL (l:TL):PL:=sortB (scanT (sortT l))
theorem pick_ref (l:TL):pickL l=sortB (refT l.length (freeT l)):=by unfold pickL;rw [scan_sort]
theorem sortB_perm (l:PL):(sortB l).Perm l:=stab_perm (sortB_stab l).2
theorem pick_scan (l:TL):(pickL l).Perm (scanT (sortT l)):=sortB_perm _
theorem pick_taken (l:TL):TakenT l (pickL l):=by
 have h:=taken_all l
 have hp:=pick_scan l
 refine ⟨fun p hm=>h.from0 p (hp.mem_iff.1 hm),fun p hm=>h.choice p (hp.mem_iff.1 hm),(hp.map Prod.fst).nodup_iff.2 h.fst,(hp.map Prod.snd).nodup_iff.2 h.snd,fun c hc c1 c2=>?_⟩
 rcases h.best c hc c1 c2 with g | ⟨d,d1,d2,d3,d4⟩
 · exact .inl (hp.mem_iff.2 g)
 · exact .inr ⟨d,d1,hp.mem_iff.2 d2,d3,d4⟩
theorem pick_sorted (l:TL):Sorted (pickL l):=(sortB_stab _).1
theorem pick_keys (l:TL) (ss:List Int) (f:Int→Int) (hp:ss.Perm ((scanT (sortT l)).map Prod.snd)) (hf:∀ p ∈ scanT (sortT l),f p.2=p.1):(ss.mergeSort (fun x y=>decide (x≤y))).map (fun b=>(f b,b))=pickL l:=by
 have h1:((ss.mergeSort (fun x y=>decide (x≤y))).map (fun b=>(f b,b))).Perm (scanT (sortT l)):=by
  have e:((scanT (sortT l)).map Prod.snd).map (fun b=>(f b,b))=scanT (sortT l):=by
   rw [List.map_map]
   exact (List.map_congr_left (fun p hp=>by show (f p.2,p.2)=id p;rw [hf p hp];rfl)).trans (List.map_id _)
  have:=((List.mergeSort_perm ss (fun x y=>decide (x≤y))).trans hp).map (fun b=>(f b,b))
  rwa [e] at this
 refine sorted_perm ?_ (pick_sorted l) (h1.trans (pick_scan l).symm) (pick_taken l).snd
 refine List.pairwise_map.2 ?_
 have:=List.pairwise_mergeSort (le:=fun x y:Int=>decide (x≤y)) (fun a b c h k=>by simp only [decide_eq_true_eq] at *;omega) (fun a b=>by simp only [Bool.or_eq_true,decide_eq_true_eq];omega) ss
 exact this.imp (fun h=>by simpa using h)
theorem taken_len (l:TL) (tk:PL):(l.foldl stepT tk).length≤tk.length+l.length:=by
 induction l generalizing tk with
 | nil=>simp
 | cons c l ih =>
  have:=ih (stepT tk c)
  have h2:(stepT tk c).length≤tk.length+1:=by unfold stepT;split <;> simp
  rw [List.foldl_cons,List.length_cons];omega
theorem scan_len (l:TL):(scanT l).length≤l.length:=by have:=taken_len l [];simpa [scanT] using this
theorem pick_len (l:TL):(pickL l).length≤l.length:=by
 rw [(pick_scan l).length_eq]
 exact Nat.le_trans (scan_len _) (by rw [sortT_len];exact Nat.le_refl _)
end
section
open Go.RowKit Go.Shelf
def okT3 (l:TL):Prop:=∀ c ∈ l,(Lit.int .i64 c.1).wf=true∧(Lit.int .i64 c.2.1).wf=true∧(Lit.int .i64 c.2.2).wf=true
def encT (c:T3):List Value:=[.int .i64 c.1,.int .i64 c.2.1,.int .i64 c.2.2]
def TripAt (w:World) (ao:Option Addr) (l:TL):Prop:=l=[]∨∃ b o,ao=some ⟨b,o,none⟩∧b < w.heap.size∧∀ (i:Nat) c,l[i]?=some c→w.cell? ⟨b,o+i * 3,none⟩=some (.int .i64 c.1)∧w.cell? ⟨b,o+i * 3+1,none⟩=some (.int .i64 c.2.1)∧w.cell? ⟨b,o+i * 3+2,none⟩=some (.int .i64 c.2.2)
theorem TripAt.kept {w w':World} {ao:Option Addr} {l:TL} (h:TripAt w ao l) (hB:Below w.heap.size w w'):TripAt w' ao l:=by
 rcases h with h | ⟨b,o,h1,h2,h3⟩
 · exact .inl h
 · exact .inr ⟨b,o,h1,Nat.lt_of_lt_of_le h2 hB.size,fun i p hp=>⟨(hB.cell (p:=⟨b,o+i * 3,none⟩) h2).trans (h3 i p hp).1,(hB.cell (p:=⟨b,o+i * 3+1,none⟩) h2).trans (h3 i p hp).2.1,(hB.cell (p:=⟨b,o+i * 3+2,none⟩) h2).trans (h3 i p hp).2.2⟩⟩
def cellsT (l:TL):List Value:=l.flatMap encT
theorem cellsT_cons (p:T3) (l:TL):cellsT (p :: l)=.int .i64 p.1 :: .int .i64 p.2.1 :: .int .i64 p.2.2 :: cellsT l:=rfl
theorem cellsT_length (l:TL):(cellsT l).length=l.length * 3:=by
 induction l with
 | nil=>rfl
 | cons p l ih=>rw [cellsT_cons];simp only [List.length_cons,ih];omega
theorem cellsT_app (l m:TL):cellsT (l ++ m)=cellsT l ++ cellsT m:=by simp [cellsT]
theorem cellsT_at (l:TL) (k:Nat) (p:T3) (h:l[k]?=some p):(cellsT l)[k * 3]?=some (.int .i64 p.1)∧(cellsT l)[k * 3+1]?=some (.int .i64 p.2.1)∧(cellsT l)[k * 3+2]?=some (.int .i64 p.2.2):=by
 induction l generalizing k with
 | nil=>simp at h
 | cons q l ih =>
  cases k with
  | zero=>simp at h;subst h;exact ⟨rfl,rfl,rfl⟩
  | succ k =>
   have:=ih k (by simpa using h)
   rw [cellsT_cons,show (k+1) * 3=k * 3+1+1+1 from by omega]
   simpa using this
theorem cellsT_set (l:TL) (k:Nat) (a b s:Int) (h:k < l.length):(((cellsT l).set (k * 3) (.int .i64 a)).set (k * 3+1) (.int .i64 b)).set (k * 3+2) (.int .i64 s)=cellsT (l.set k (a,b,s)):=by
 induction l generalizing k with
 | nil=>simp at h
 | cons q l ih =>
  cases k with
  | zero=>rfl
  | succ k =>
   have:=ih k (by simpa using h)
   rw [cellsT_cons,show (k+1) * 3=k * 3+1+1+1 from by omega]
   simp only [List.set_cons_succ,this]
   rfl
theorem cellsT_zero (n:Nat):(madeCells #[.int .i64 0,.int .i64 0,.int .i64 0] (n * 3)).toList=cellsT (List.replicate n (0,0,0)):=by
 have h1:(madeCells #[.int .i64 0,.int .i64 0,.int .i64 0] (n * 3)).toList=List.replicate (n * 3) (.int .i64 0):=by
  refine List.eq_replicate_iff.2 ⟨by simp [size_madeCells],fun b hb=>?_⟩
  simp only [madeCells,Array.toList_map,List.mem_map] at hb
  obtain ⟨i,_,rfl⟩:=hb
  have:i % 3=0∨i % 3=1∨i % 3=2:=by omega
  rcases this with h | h | h <;> simp [h]
 have h2:cellsT (List.replicate n (0,0,0))=List.replicate (n * 3) (.int .i64 0):=by
  refine List.eq_replicate_iff.2 ⟨by rw [cellsT_length];simp,fun b hb=>?_⟩
  simp only [cellsT,List.mem_flatMap] at hb
  obtain ⟨p,hp,hb⟩:=hb
  rw [(List.mem_replicate.1 hp).2] at hb
  simp [encT] at hb
  exact hb
 rw [h1,h2]
structure OwnT (w:World) (base:Nat) (T:TypeId) (g n:Nat) (l:TL):Prop where
 len:l.length=n
 own:w.ownsRow base T 3 (.slice (some ⟨g,0,none⟩) n n) n (cellsT l)
theorem OwnT.lt {w:World} {base:Nat} {T:TypeId} {g n:Nat} {l:TL} (h:OwnT w base T g n l):base≤g∧g < w.heap.size:=h.own.lt g rfl
theorem OwnT.kept {w w':World} {base:Nat} {T:TypeId} {g n:Nat} {l:TL} (h:OwnT w base T g n l) (hB:Below w.heap.size w w'):OwnT w' base T g n l:=⟨h.len,ownsRowP_below h.own hB⟩
theorem OwnT.cell {w:World} {base:Nat} {T:TypeId} {g n:Nat} {l:TL} (h:OwnT w base T g n l) (k:Nat) (p:T3) (hp:l[k]?=some p):w.cell? ⟨g,k * 3,none⟩=some (.int .i64 p.1)∧w.cell? ⟨g,k * 3+1,none⟩=some (.int .i64 p.2.1)∧w.cell? ⟨g,k * 3+2,none⟩=some (.int .i64 p.2.2):=by
 obtain ⟨hk,_⟩:=List.getElem?_eq_some_iff.1 hp
 have hl:=h.len
 obtain ⟨h1,h2,h3⟩:=cellsT_at l k p hp
 exact ⟨(h.own.cellAt (k * 3) (by omega)).trans h1,(h.own.cellAt (k * 3+1) (by omega)).trans h2,(h.own.cellAt (k * 3+2) (by omega)).trans h3⟩
theorem OwnT.frozen {w:World} {base:Nat} {T:TypeId} {g n:Nat} {l:TL} (h:OwnT w base T g n l) (k:Nat):w.frozen? ⟨g,k,none⟩=false:=h.own.frozenAt k
theorem OwnT.store {w:World} {base:Nat} {T:TypeId} {g n:Nat} {l:TL} (h:OwnT w base T g n l) (k:Nat) (a b s:Int) (hk:k < n):OwnT (((w.setCell ⟨g,k * 3,none⟩ (.int .i64 a)).setCell ⟨g,k * 3+1,none⟩ (.int .i64 b)).setCell ⟨g,k * 3+2,none⟩ (.int .i64 s)) base T g n (l.set k (a,b,s)):=by
 refine ⟨by simp [h.len],?_⟩
 rw [← cellsT_set l k a b s (by rw [h.len];exact hk)]
 exact (((h.own.stored (k * 3) (.int .i64 a)).1.stored (k * 3+1) (.int .i64 b)).1.stored (k * 3+2) (.int .i64 s)).1
theorem info_parts3 {P:Program} {e:TypeId} {z:Option Value} {s b:Nat} (h:(P.info? e).map (fun i=>(i.zero,i.size,i.bytes))=some (z,s,b)):∃ i,P.info? e=some i∧i.zero=z∧i.size=s∧i.bytes=b:=by
 obtain ⟨i,hi,e'⟩:=Option.map_eq_some_iff.1 h
 simp only [Prod.mk.injEq] at e'
 exact ⟨i,hi,e'⟩
def copyT (l:TL) (k:Nat):TL:=l.take k ++ List.replicate (l.length - k) (0,0,0)
theorem copyT_zero (l:TL):copyT l 0=List.replicate l.length (0,0,0):=by simp [copyT]
theorem copyT_all (l:TL):copyT l l.length=l:=by simp [copyT]
theorem copyT_next (l:TL) (k:Nat) (p:T3) (h:l[k]?=some p):(copyT l k).set k p=copyT l (k+1):=by
 obtain ⟨hk,e⟩:=List.getElem?_eq_some_iff.1 h
 unfold copyT
 rw [List.set_append_right _ _ (by simp;omega),List.take_succ_eq_append_getElem hk,e]
 obtain ⟨m,hm⟩:∃ m,l.length - k=m+1:=⟨l.length - k - 1,by omega⟩
 rw [hm,show l.length - (k+1)=m from by omega,List.replicate_succ]
 simp [show min k l.length=k from by omega]
theorem copyT_len (l:TL) (k:Nat) (h:k≤l.length):(copyT l k).length=l.length:=by simp [copyT];omega
end
section
open Go.RowKit Go.Shelf Go.Sort
def orL:List Int→Int
 | []=>0
 | x :: l=>if x ≠ 0 then x else orL l
theorem or_hit (l:List Int) (k:Nat) (x:Int) (hx:l[k]?=some x) (h:∀ (j:Nat) y,j < k→l[j]?=some y→y=0) (hne:x ≠ 0):orL l=x:=by
 induction l generalizing k with
 | nil=>simp at hx
 | cons a l ih =>
  unfold orL
  cases k with
  | zero=>simp at hx;subst hx;rw [if_pos hne]
  | succ k =>
   have e:=h 0 a (by omega) rfl
   rw [if_neg (by simp [e])]
   exact ih k (by simpa using hx) (fun j y hj hy=>h (j+1) y (by omega) (by simpa using hy))
theorem or_none (l:List Int) (h:∀ (j:Nat) y,j < l.length→l[j]?=some y→y=0):orL l=0:=by
 induction l with
 | nil=>rfl
 | cons a l ih =>
  unfold orL
  have e:=h 0 a (by simp) rfl
  rw [if_neg (by simp [e])]
  exact ih (fun j y hj hy=>h (j+1) y (by simp;omega) (by simpa using hy))
theorem cmpT_or (c d:T3):cmpT c d=orL [cmpI d.2.2 c.2.2,cmpI c.1 d.1,cmpI c.2.1 d.2.1]:=by
 unfold cmpT orL orL orL orL
 split
 · rfl
 · split
   · rfl
   · rename_i h1 h2
     by_cases h:cmpI c.2.1 d.2.1=0
     · rw [h];simp
     · rw [if_pos h]
theorem or_any (ao:Option Addr) (cap:Nat) (xs:List Int) (w:World) (hn:xs.length≤274877906944) (hR:IntsAt w ao xs) :
 Calls Tryz.prog 135 #[.slice ao xs.length cap] w fun e w'=>e=.returned (.int .i64 (orL xs))∧w'=w:=by
 have HRo:=Lib.hid hR
 have HH:=Lib.hid (or_hit xs)
 have HNo:=Lib.hid (or_none xs)
 clear hR
 generalize orL xs=F at HH HNo ⊢
 go_enter Tryz.func135,Tryz.ntmps135
 go_wp2_with fail
 go_loopw [8] (fun i wr=>∃ (k:Nat),k≤xs.length∧i=.int .i64 k∧Hid (wr=w)∧Hid (∀ (j:Nat) y,j < k→xs[j]?=some y→y=0)) (fun i _=>xs.length - (intOf i).toNat)
 case atStart=>exact ⟨0,Nat.zero_le _,rfl,Lib.hid rfl,Lib.hid (fun j y hj _=>by omega)⟩
 case round =>
  obtain ⟨k,hk,rfl,HW,HZ⟩:=hrel
  by_cases hlt:k < xs.length
  · obtain ⟨x,hx⟩:∃ x,xs[k]?=some x:=⟨_,List.getElem?_eq_getElem hlt⟩
    have hR:=HRo.out
    rw [← HW.out] at hR
    rcases hR with h0 | ⟨A,rfl,hA,hcell⟩
    · rw [h0] at hlt;simp at hlt
    have hc:=hcell k _ hx
    have HX:=Lib.hid hx
    clear hcell hx
    by_cases h0:x=0
    · have HZ2:Hid (∀ (j:Nat) y,j < k+1→xs[j]?=some y→y=0):=Lib.hid (fun j y hj hy=>by
       by_cases e:j=k
       · subst e;rw [HX.out] at hy;cases hy;exact h0
       · exact HZ.out j y (by omega) hy)
      subst h0
      go_wp2_with fail
      go_roundw
      case rel=>exact ⟨k+1,by omega,by go_num,HW,HZ2⟩
      case measure=>simp [intOf];omega
    · have E:=Lib.hid (HH.out k x HX.out HZ.out h0)
      go_wp2_with fail
      go_ret
      exact ⟨by rw [E.out];rfl,HW.out⟩
  · obtain rfl:k=xs.length:=by omega
    have E:=Lib.hid (HNo.out HZ.out)
    go_wp2_with fail
    go_ret
    exact ⟨by rw [E.out];rfl,HW.out⟩
theorem ints3_at (w:World) (a b c:Int) (T:TypeId):IntsAt (w.alloc (.cells #[.int .i64 a,.int .i64 b,.int .i64 c] T)) (some ⟨w.heap.size,0,none⟩) [a,b,c]:=by
 refine .inr ⟨_,rfl,by simp,fun i p hp=>?_⟩
 have h:=World.alloc_heap_new w (.cells #[.int .i64 a,.int .i64 b,.int .i64 c] T)
 have e:(⟨w.heap.size,0,none⟩:Addr).add i=⟨w.heap.size,i,none⟩:=by unfold Addr.add;split <;> simp_all
 rw [e,Lib.cell_of_heap h]
 match i,hp with
 | 0,hp=>simp at hp;subst hp;rfl
 | 1,hp=>simp at hp;subst hp;rfl
 | 2,hp=>simp at hp;subst hp;rfl
 | i+3,hp=>simp at hp
theorem choice_any (c d:T3) (w:World) :
 Calls Tryz.prog 154 #[.agg #[.int .i64 c.1,.int .i64 c.2.1,.int .i64 c.2.2],.agg #[.int .i64 d.1,.int .i64 d.2.1,.int .i64 d.2.2]] w fun e w'=>e=.returned (.int .i64 (cmpT c d))∧∃ q os',w'=grow (w.drewN q) os':=by
 obtain ⟨c1,c2,c3⟩:=c
 obtain ⟨d1,d2,d3⟩:=d
 have C1:=Lib.hid (fun W=>compare_any d3 c3 W)
 have C2:=Lib.hid (fun W=>compare_any c1 d1 W)
 have C3:=Lib.hid (fun W=>compare_any c2 d2 W)
 have CO:Hid (∀ W:World,Calls Tryz.prog 135 #[.slice (some ⟨W.heap.size,0,none⟩) 3 3] (W.alloc (.cells #[.int .i64 (cmpI d3 c3),.int .i64 (cmpI c1 d1),.int .i64 (cmpI c2 d2)] 3)).drew fun e w'=>e=.returned (.int .i64 (cmpT (c1,c2,c3) (d1,d2,d3)))∧w'=(W.alloc (.cells #[.int .i64 (cmpI d3 c3),.int .i64 (cmpI c1 d1),.int .i64 (cmpI c2 d2)] 3)).drew):=Lib.hid (fun W=>by
  rw [cmpT_or]
  exact or_any _ 3 [cmpI d3 c3,cmpI c1 d1,cmpI c2 d2] _ (by simp) (ints3_at W _ _ _ _))
 generalize cmpT (c1,c2,c3) (d1,d2,d3)=F at CO ⊢
 generalize cmpI d3 c3=r1 at C1 CO
 generalize cmpI c1 d1=r2 at C2 CO
 generalize cmpI c2 d2=r3 at C3 CO
 dsimp only
 obtain ⟨V,HV⟩:∃ V,Hid (V=(w.alloc (.cells #[.int .i64 c1,.int .i64 c2,.int .i64 c3] 191)).alloc (.cells #[.int .i64 d1,.int .i64 d2,.int .i64 d3] 191)):=⟨_,Lib.hid rfl⟩
 have hg:V=grow w #[.cells #[.int .i64 c1,.int .i64 c2,.int .i64 c3] 191,.cells #[.int .i64 d1,.int .i64 d2,.int .i64 d3] 191]:=by rw [HV.out,alloc_eq_grow,alloc_eq_grow,grow_grow];rfl
 have HG:=Lib.hid hg
 have hA:V.heap[w.heap.size]?=some (.cells #[.int .i64 c1,.int .i64 c2,.int .i64 c3] 191 (0,0)):=by rw [hg];simp [grow]
 have hD:V.heap[w.heap.size+1]?=some (.cells #[.int .i64 d1,.int .i64 d2,.int .i64 d3] 191 (0,0)):=by rw [hg];simp [grow]
 have a0:V.cell? ⟨w.heap.size,0,none⟩=some (.int .i64 c1):=(Lib.cell_of_heap hA 0).trans rfl
 have a1:V.cell? ⟨w.heap.size,1,none⟩=some (.int .i64 c2):=(Lib.cell_of_heap hA 1).trans rfl
 have a2:V.cell? ⟨w.heap.size,2,none⟩=some (.int .i64 c3):=(Lib.cell_of_heap hA 2).trans rfl
 have b0:V.cell? ⟨w.heap.size+1,0,none⟩=some (.int .i64 d1):=(Lib.cell_of_heap hD 0).trans rfl
 have b1:V.cell? ⟨w.heap.size+1,1,none⟩=some (.int .i64 d2):=(Lib.cell_of_heap hD 1).trans rfl
 have b2:V.cell? ⟨w.heap.size+1,2,none⟩=some (.int .i64 d3):=(Lib.cell_of_heap hD 2).trans rfl
 clear hg hA hD
 go_enter Tryz.func154,Tryz.ntmps154
 go_upto_region 1 with fail
 rw [← HV.out]
 go_region_held3 (fun W=>W.cell? ⟨w.heap.size,0,none⟩=some (.int .i64 c1)∧W.cell? ⟨w.heap.size,1,none⟩=some (.int .i64 c2)∧W.cell? ⟨w.heap.size,2,none⟩=some (.int .i64 c3)∧W.cell? ⟨w.heap.size+1,0,none⟩=some (.int .i64 d1)∧W.cell? ⟨w.heap.size+1,1,none⟩=some (.int .i64 d2)∧W.cell? ⟨w.heap.size+1,2,none⟩=some (.int .i64 d3))
  ((refine ⟨?_,?_,?_,?_,?_,?_⟩ <;> first | assumption | go_keep))
  (first
   | (go_at_call 48;with_reducible refine (C1.out _).mono ?_;rintro e w1 ⟨rfl,rfl⟩)
   | (go_at_call 48;with_reducible refine (C2.out _).mono ?_;rintro e w1 ⟨rfl,rfl⟩)
   | (go_at_call 48;with_reducible refine (C3.out _).mono ?_;rintro e w1 ⟨rfl,rfl⟩)
   | (go_at_call 135;refine (CO.out _).mono ?_;rintro e w1 ⟨rfl,rfl⟩))
 go_wp2_with fail
 go_ret
 exact ⟨rfl,1,_,by rw [alloc_eq_grow,HG.out,grow_grow,drew_grow];rfl⟩
end
end Go.Proofs.YtdenehnneloegaaGreatDoor
