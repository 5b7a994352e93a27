/-
  Texts of these rows' proofs, laid one behind the other: IKeys, IFind, IIns, ISym1.
  Conditions: those of each theorem.
-/
import Derived.Maps.Own
import Derived.Maps.OwnOps
import Derived.WalkKit
import Derived.WalkMore
import Derived.IntWalk
import Derived.WalkArith
import Derived.OwnWalk
import Derived.Lib.Hide
import Derived.Laws.OwnMore
import Derived.Deep.Cut
import Derived.Test.YtdenehnneloegaaGreatDoorProg
import Derived.Test.YtdenehnneloegaaGreatDoorPa29
import Derived.StillTailTactics
import Derived.BigQuiet
import Derived.Deep.QuietTactic
import Derived.Test.YtdenehnneloegaaGreatDoorPa3
import Derived.RegionTactic
import Derived.BigRegion
import Derived.Deep.CutRange
import Derived.Test.YtdenehnneloegaaGreatDoorPa8
namespace Go.Proofs.YtdenehnneloegaaGreatDoor
set_option linter.unusedVariables false
set_option maxRecDepth 100000
set_option maxHeartbeats 8000000
section
open Go.RowKit Go.Shelf Go.Maps
theorem parts_few (rs:List (List ByteArray)) (cols:List Int) (row:Int):(partsL rs cols row).length≤cols.length:=by
 rw [parts_spots,List.length_map]
 unfold spotsL
 exact Nat.le_trans (List.length_filter_le _ _) (by simp)
def keysL (rs:List (List ByteArray)) (cols:List Int):List (List Part):=(List.range rs.length).map fun (i:Nat)=>partsL rs cols (i:Int)
theorem keysL_len (rs:List (List ByteArray)) (cols:List Int):(keysL rs cols).length=rs.length:=by simp [keysL]
theorem keysL_at (rs:List (List ByteArray)) (cols:List Int) (i:Nat) (h:i < rs.length):(keysL rs cols)[i]?=some (partsL rs cols (i:Int)):=by simp [keysL,h]
def KeysAt (w:World) (ko:Option Addr) (Ls:List (List Part)):Prop:=Ls=[]∨∃ A,ko=some A∧A.block < w.heap.size∧∀ (i:Nat) L,Ls[i]?=some L→∃ po pc,w.cell? (A.add i)=some (.slice po L.length pc)∧PartsAt w po L
theorem KeysAt.kept {w w':World} {ko:Option Addr} {Ls:List (List Part)} (h:KeysAt w ko Ls) (hB:Below w.heap.size w w'):KeysAt w' ko Ls:=by
 rcases h with h | ⟨A,h1,h2,h3⟩
 · exact .inl h
 · refine .inr ⟨A,h1,Nat.lt_of_lt_of_le h2 hB.size,fun i L hL=>?_⟩
   obtain ⟨po,pc,h4,h5⟩:=h3 i L hL
   exact ⟨po,pc,(hB.cell (p:=A.add i) (by rw [add_block];exact h2)).trans h4,h5.kept hB⟩
def PartV (w:World) (g:Nat) (L:List Part) (v:Value):Prop:=∃ po pc,v=.slice po L.length pc∧PartsAt w po L∧∀ A,po=some A→g < A.block
theorem PartV.kept {w w':World} {g:Nat} {L:List Part} {v:Value} (h:PartV w g L v) (hB:Below w.heap.size w w'):PartV w' g L v:=by
 obtain ⟨po,pc,h1,h2,h3⟩:=h
 exact ⟨po,pc,h1,h2.kept hB,h3⟩
theorem PartV.put {w:World} {g:Nat} {L:List Part} {v:Value} (h:PartV w g L v) (k:Nat) (u:Value):PartV (w.setCell ⟨g,k,none⟩ u) g L v:=by
 obtain ⟨po,pc,h1,h2,h3⟩:=h
 refine ⟨po,pc,h1,?_,h3⟩
 rcases h2 with h2 | ⟨b,o,h4,h5,h6⟩
 · exact .inl h2
 · have hne:g < b:=h3 _ h4
   have key:∀ j,(w.setCell ⟨g,k,none⟩ u).cell? ⟨b,j,none⟩=w.cell? ⟨b,j,none⟩:=fun j=>World.cell?_of_block (a:=⟨b,j,none⟩) (heap_setCell_other w ⟨g,k,none⟩ b u (by show b ≠ g;omega))
   refine .inr ⟨b,o,h4,by simpa using h5,fun i p hp=>?_⟩
   rw [key,key];exact h6 i p hp
def madeV (vs:List Value) (n:Nat):List Value:=vs ++ List.replicate (n - vs.length) (.slice none 0 0)
theorem madeV_next (vs:List Value) (n:Nat) (v:Value) (h:vs.length < n):(madeV vs n).set vs.length v=madeV (vs ++ [v]) n:=by
 unfold madeV
 rw [List.set_append_right _ _ (Nat.le_refl _),Nat.sub_self,List.length_append]
 obtain ⟨m,hm⟩:∃ m,n - vs.length=m+1:=⟨n - vs.length - 1,by omega⟩
 rw [hm,show n - (vs.length+[v].length)=m from by simp;omega,List.replicate_succ]
 simp
theorem madeV_zero (n:Nat):madeV [] n=List.replicate n (.slice none 0 0):=by simp [madeV]
theorem madeV_all (vs:List Value) (n:Nat) (h:vs.length=n):madeV vs n=vs:=by simp [madeV,h]
theorem madeV_len (vs:List Value) (n:Nat) (h:vs.length≤n):(madeV vs n).length=n:=by simp [madeV];omega
theorem keysOf_any (ho:Option Addr) (m hc:Nat) (ro:Option Addr) (rc:Nat) (rs:List (List ByteArray)) (co:Option Addr) (cc:Nat) (cols:List Int) (w:World) (hcl:cols.length≤1073741824) (hn:rs.length≤1073741824)
 (hx:∀ r ∈ rs,r.length≤1099511627776∧∀ c ∈ r,c.size≤281474976710656) (hwf:∀ c ∈ cols,(Lit.int .i64 c).wf=true) (hR:RowsAt w ro rs) (hI:IntsAt w co cols) :
 Calls Tryz.prog 83 #[.agg #[.slice ho m hc,.slice ro rs.length rc],.slice co cols.length cc] w fun e w'=>∃ ko,e=.returned (.slice ko rs.length rs.length)∧KeysAt w' ko (keysL rs cols)∧Below w.heap.size w w':=by
 have hinfo:(Tryz.prog.info? 117).map (fun i=>(i.zero,i.size,i.bytes))=some (some (.slice none 0 0),1,24):=by kernel_rfl
 obtain ⟨i0,hi,hz0,hz1,hz2⟩:=info_parts2 hinfo
 have HI:=Lib.hid hi
 have hm:rs.length≤maxLen:=by unfold maxLen;omega
 have HNew:=Lib.hid (World.alloc_heap_new w (TabO ho m hc ro rs.length rc))
 have HB0:=Lib.hid (one_below w (TabO ho m hc ro rs.length rc))
 have CF:=Lib.hid (firstsC_any co cc cols (w.alloc (TabO ho m hc ro rs.length rc)) hcl hwf (hI.kept HB0.out))
 have CP:=Lib.hid (fun (row:Nat) (r:List ByteArray) (hr:rs[row]?=some r) (B n:Nat) (D:DataW Unit) V (h:Below w.heap.size w V) h1 h2=>partsOf_any ho m hc ro rc rs row r hr B n D cols V hcl (by omega) hx (hR.kept h) h1 h2)
 have HKl:=Lib.hid (keysL_at rs cols)
 have HKn:=Lib.hid (keysL_len rs cols)
 clear hi hinfo hR hI hx hwf
 generalize keysL rs cols=Ls at HKl HKn ⊢
 go_enter Tryz.func83,Tryz.ntmps83
 go_wp2_with fail
 refine CF.out.mono ?_
 rintro e w1 ⟨B,D,rfl,hB0,hM,hD,b1⟩
 have B1:=Lib.hid (below_up HB0.out b1)
 have HM:=Lib.hid hM
 have HD:=Lib.hid hD
 obtain ⟨c0,c1⟩:=tabs ((b1.block _ (by simp)).trans HNew.out)
 have HX1:=Lib.hid ((b1.block _ (by simp)).trans HNew.out)
 clear b1 hM hD hB0 CF HNew HB0
 go_wp2_with (at_make;refine wpList_make_full _ rfl _ _ 111 rfl w1.heap.size 117 i0 (.slice none 0 0) 1 Tryz.underlying111 HI.out hz0 hz1 .i64 .i64 (rs.length:Int) (rs.length:Int) rs.length rfl rfl rfl rfl (by rw [hz2];omega) hm (Nat.le_refl _) ?_;intro w2 hown hgrow)
 have HB2:Hid (Below w1.heap.size w1 w2):=Lib.hid ((Below.refl _ w1).grown hgrow (Nat.le_refl _) (fun k h=>by cases h))
 have HO:Hid (w2.ownsRow w1.heap.size 117 1 (.slice (some ⟨w1.heap.size,0,none⟩) rs.length rs.length) rs.length (madeV [] rs.length)):=Lib.hid (by
  rw [madeV_zero];rw [Nat.mul_one] at hown;rw [← toList_madeCells_one];exact hown)
 have HM2:=Lib.hid (ownsMapI_below HM.out HB2.out)
 have HBl:=Lib.hid HM.out.lt
 obtain ⟨g,hg⟩:∃ g,g=w1.heap.size:=⟨_,rfl⟩
 rw [← hg] at HO HBl ⊢
 have HG:=Lib.hid hg
 clear hown hgrow c0 c1 hg
 go_wp2_with fail
 go_loopw [16] (fun i wr=>∃ (k:Nat) (vs:List Value),k≤rs.length∧i=.int .i64 k∧Hid (vs.length=k)∧Hid (Below w1.heap.size w1 wr)∧Hid (wr.ownsRow g 117 1 (.slice (some ⟨g,0,none⟩) rs.length rs.length) rs.length (madeV vs rs.length))∧Hid (∀ (i:Nat) v L,vs[i]?=some v→Ls[i]?=some L→PartV wr g L v)∧Hid (wr.ownsMap Tryz.prog 3 (plainElem Tryz.prog 3) B cols.length D)) (fun i _=>rs.length - (intOf i).toNat)
 case atStart=>exact ⟨0,[],Nat.zero_le _,rfl,Lib.hid rfl,HB2,HO,Lib.hid (fun i v L h=>by simp at h),HM2⟩
 case round =>
  obtain ⟨k,vs,hk,rfl,HVl,HB,HO,HP,HM⟩:=hrel
  by_cases hlt:k < rs.length
  · obtain ⟨r,hr⟩:∃ r,rs[k]?=some r:=⟨_,List.getElem?_eq_getElem hlt⟩
    have C1:=Lib.hid (CP.out k r hr B cols.length D wr (below_up B1.out HB.out) HM.out HD.out)
    have HL:=Lib.hid (HKl.out k hlt)
    obtain ⟨c0,c1⟩:=tabs ((HB.out.block _ (lt_of_heap HX1.out)).trans HX1.out)
    clear hr
    generalize partsL rs cols (k:Int)=L at C1 HL
    go_wp2_with fail
    refine C1.out.mono ?_;rintro e w3 ⟨po,pc,rfl,hpa,hpb,b3⟩
    have hgs:g < wr.heap.size:=(HO.out.lt g rfl).2
    have HV:Hid (PartV w3 g L (.slice po L.length pc)):=Lib.hid ⟨po,pc,rfl,hpa,fun A e=>Nat.lt_of_lt_of_le hgs (hpb A e)⟩
    have HB3:=Lib.hid (below_up HB.out b3)
    have HO3:=Lib.hid (ownsRow_below HO.out b3)
    have HM3:=Lib.hid (ownsMapI_below HM.out b3)
    have HP3:Hid (∀ (i:Nat) v L,vs[i]?=some v→Ls[i]?=some L→PartV w3 g L v):=Lib.hid (fun i v L h1 h2=>(HP.out i v L h1 h2).kept b3)
    have HLl:Hid (L.length=L.length):=Lib.hid rfl
    clear hpa hpb b3 c0 c1 hgs
    have hml:(madeV vs rs.length).length=rs.length:=madeV_len vs _ (by rw [HVl.out];omega)
    have hcell:w3.cell? ⟨g,k,none⟩=some ((madeV vs rs.length)[k]'(by omega)):=by
     rw [HO3.out.cellAt k (by omega),List.getElem?_eq_getElem]
    have hfr:w3.frozen? ⟨g,k,none⟩=false:=HO3.out.frozenAt k
    generalize (madeV vs rs.length)[k]'(by omega)=old at hcell
    obtain ⟨v,hv⟩:∃ v,v=Value.slice po L.length pc:=⟨_,rfl⟩
    have HO4:=Lib.hid (HO3.out.stored k v).1
    rw [show (madeV vs rs.length).set k v=madeV (vs ++ [v]) rs.length from by have:=madeV_next vs rs.length v (by rw [HVl.out];omega);rwa [HVl.out] at this] at HO4
    have HB4:=Lib.hid (HB3.out.setCell (p:=⟨g,k,none⟩) (by rw [HG.out];exact Nat.le_refl _) v)
    have HM4:Hid ((w3.setCell ⟨g,k,none⟩ v).ownsMap Tryz.prog 3 (plainElem Tryz.prog 3) B cols.length D):=Lib.hid (HM3.out.kept (grown_set w3 g k v) (fun e=>by have:=HBl.out;simp at e;omega))
    have HP4:Hid (∀ (i:Nat) u L,(vs ++ [v])[i]?=some u→Ls[i]?=some L→PartV (w3.setCell ⟨g,k,none⟩ v) g L u):=Lib.hid (fun i u L' h1 h2=>by
     rw [List.getElem?_append] at h1
     split at h1
     · exact (HP3.out i u L' h1 h2).put k v
     · rename_i hge
       have hle:i < (vs ++ [v]).length:=by
        have:=(List.getElem?_eq_some_iff.1 h1).1
        simp at this ⊢;omega
       have hik:i=k:=by rw [HVl.out] at hge;simp at hle;rw [HVl.out] at hle;omega
       subst hik
       rw [HVl.out,Nat.sub_self] at h1
       simp at h1;subst h1
       rw [HL.out] at h2;cases h2
       rw [← hv] at HV
       exact HV.out.put _ _)
    have HVl4:Hid ((vs ++ [v]).length=k+1):=Lib.hid (by simp [HVl.out])
    subst hv
    clear hml HP HP3 HO HO3 HM HM3 HB HB3 HVl
    go_wp2_with fail
    go_roundw
    case rel=>exact ⟨k+1,_,by omega,by go_num,HVl4,HB4,HO4,HP4,HM4⟩
    case measure=>simp [intOf];omega
  · obtain rfl:k=rs.length:=by omega
    have HE:Hid (KeysAt wr (some ⟨g,0,none⟩) Ls):=Lib.hid (by
     refine .inr ⟨⟨g,0,none⟩,rfl,(HO.out.lt g rfl).2,fun i L hL=>?_⟩
     have hi:i < rs.length:=by rw [← HKn.out];exact (List.getElem?_eq_some_iff.1 hL).1
     obtain ⟨v,hv⟩:∃ v,vs[i]?=some v:=⟨_,List.getElem?_eq_getElem (by rw [HVl.out];exact hi)⟩
     obtain ⟨po,pc,rfl,h2,h3⟩:=HP.out i v L hv hL
     refine ⟨po,pc,?_,h2⟩
     have e:(⟨g,0,none⟩:Addr).add i=⟨g,i,none⟩:=by unfold Addr.add;split <;> simp_all
     rw [e,HO.out.cellAt i (by rw [Nat.mul_one];exact hi),madeV_all vs _ HVl.out];exact hv)
    clear HO HP
    go_wp2_with fail
    go_ret
    exact ⟨_,rfl,HE.out,below_up B1.out HB.out⟩
end
section
open Go.RowKit Go.Shelf
def rowKey (rs:List (List ByteArray)) (cols:List Int) (i:Int):List ByteArray:=cols.map (cellL rs i)
theorem rowKey_len (rs:List (List ByteArray)) (cols:List Int) (i:Int):(rowKey rs cols i).length=cols.length:=by simp [rowKey]
theorem rowKey_at (rs:List (List ByteArray)) (cols:List Int) (i:Int) (k:Nat) (c:Int) (h:cols[k]?=some c):(rowKey rs cols i)[k]?=some (cellL rs i c):=by simp [rowKey,h]
theorem lex_map {α β γ:Type} (f:β→γ→Int) (g:α→β):∀ (xs:List α) (ys:List γ),lexH (fun a b=>f (g a) b) xs ys=lexH f (xs.map g) ys
 | [],[]=>rfl
 | [],_ :: _=>rfl
 | _ :: _,[]=>rfl
 | a :: xs,b :: ys=>by simp only [lexH,List.map_cons,lex_map f g xs ys]
theorem key_any (ho:Option Addr) (m hc:Nat) (ro:Option Addr) (rc:Nat) (rs:List (List ByteArray)) (row:Int) (co:Option Addr) (cc:Nat) (cols:List Int) (w:World) (hcl:cols.length≤1073741824) (hn2:rs.length≤1099511627776) (hx:∀ r ∈ rs,r.length≤1099511627776∧∀ c ∈ r,c.size≤281474976710656) (hR:RowsAt w ro rs) (hI:IntsAt w co cols) :
 Calls Tryz.prog 24 #[.agg #[.slice ho m hc,.slice ro rs.length rc],.int .i64 row,.slice co cols.length cc] w fun e w'=>∃ ao,e=.returned (.slice ao cols.length cols.length)∧StrRow w' ao (rowKey rs cols row)∧Below w.heap.size w w':=by
 have HB0:=Lib.hid (one_below w (TabO ho m hc ro rs.length rc))
 have HNew:=Lib.hid (World.alloc_heap_new w (TabO ho m hc ro rs.length rc))
 have CC:=Lib.hid (fun W (c:Int) (h:Below w.heap.size w W)=>tcell_any ho m hc ro rc rs row c W hn2 hx (hR.kept h))
 have HIo:=Lib.hid (hI.kept HB0.out)
 have HA:=Lib.hid (rowKey_at rs cols row)
 have HL:=Lib.hid (rowKey_len rs cols row)
 clear hR hx hI
 generalize rowKey rs cols row=xs at HA HL ⊢
 have hinfo:(Tryz.prog.info? 9).map (fun i=>(i.zero,i.size,i.bytes))=some (some (.string ⟨#[]⟩),1,16):=by kernel_rfl
 obtain ⟨i0,hi,hz0,hz1,hz2⟩:=info_parts2 hinfo
 have HI:=Lib.hid hi
 have hm:cols.length≤maxLen:=by unfold maxLen;omega
 clear hi hinfo
 obtain ⟨W,HW⟩:∃ W,Hid (W=w.alloc (TabO ho m hc ro rs.length rc)):=⟨_,Lib.hid rfl⟩
 rw [← HW.out] at HB0 HNew HIo
 go_enter Tryz.func24,Tryz.ntmps24
 go_upto_region 1 with fail
 rw [show w.alloc (TabO ho m hc ro rs.length rc)=W from HW.out.symm]
 go_wp2_with (at_make;refine wpList_make_full _ rfl _ _ 22 rfl W.heap.size 9 i0 (.string ⟨#[]⟩) 1 Tryz.underlying22 HI.out hz0 hz1 .i64 .i64 (cols.length:Int) (cols.length:Int) cols.length rfl rfl rfl rfl (by rw [hz2];omega) hm (Nat.le_refl _) ?_;intro w1 ho hg)
 have HB:Hid (Below W.heap.size W w1):=Lib.hid ((Below.refl _ W).grown hg (Nat.le_refl _) (fun k h=>by cases h))
 have HO:Hid (w1.ownsRow W.heap.size 9 1 (.slice (some ⟨W.heap.size,0,none⟩) cols.length cols.length) cols.length (half xs 0)):=Lib.hid (by
  rw [half_zero,HL.out];rw [Nat.mul_one] at ho;rw [← toList_madeCells_one];exact ho)
 clear ho hg
 go_wp2_with fail
 go_loopw [15] (fun i wr=>∃ k:Nat,k≤cols.length∧i=.int .i64 k∧Hid (Below W.heap.size W wr)∧Hid (wr.ownsRow W.heap.size 9 1 (.slice (some ⟨W.heap.size,0,none⟩) cols.length cols.length) cols.length (half xs k))) (fun i _=>cols.length - (intOf i).toNat)
 case atStart=>exact ⟨0,Nat.zero_le _,rfl,HB,HO⟩
 case round =>
  obtain ⟨k,hk,rfl,HB,HO⟩:=hrel
  by_cases hlt:k < cols.length
  · obtain ⟨col,hcol⟩:∃ c,cols[k]?=some c:=⟨_,List.getElem?_eq_getElem hlt⟩
    have hw0:=below_up HB0.out HB.out
    have C1:=Lib.hid (CC.out wr col hw0)
    obtain ⟨c0,c1⟩:=tabs ((HB.out.block _ (lt_of_heap HNew.out)).trans HNew.out)
    rcases (HIo.out.kept HB.out) with h0 | ⟨A,rfl,hA,hcell⟩
    · rw [h0] at hcol;simp at hcol
    have hci:=hcell k _ hcol
    have HX:=Lib.hid (HA.out k col hcol)
    clear hw0 hcell hcol
    generalize cellL rs row col=x at C1 HX
    go_wp2_with fail
    refine C1.out.mono ?_;rintro e w2 ⟨rfl,b2⟩
    have HB2:=Lib.hid (below_up HB.out b2)
    have HO2:=Lib.hid (ownsRow_below HO.out b2)
    clear b2 c0 c1 hci
    have hhl:(half xs k).length=cols.length:=by rw [half_len xs k (by rw [HL.out];omega),HL.out]
    have hcell:w2.cell? ⟨W.heap.size,k,none⟩=some ((half xs k)[k]'(by omega)):=by
     rw [HO2.out.cellAt k (by omega),List.getElem?_eq_getElem]
    have hfr:w2.frozen? ⟨W.heap.size,k,none⟩=false:=HO2.out.frozenAt k
    generalize (half xs k)[k]'(by omega)=old at hcell
    have HO3:=Lib.hid (HO2.out.stored k (.string x)).1
    rw [half_next xs k x HX.out] at HO3
    have HB3:=Lib.hid (HB2.out.setCell (p:=⟨W.heap.size,k,none⟩) (Nat.le_refl _) (.string x))
    clear hhl HO HO2 HB HB2
    go_wp2_with fail
    go_roundw
    case rel=>exact ⟨k+1,by omega,by go_num,HB3,HO3⟩
    case measure=>simp [intOf];omega
  · obtain rfl:k=cols.length:=by omega
    have HS:Hid (StrRow wr (some ⟨W.heap.size,0,none⟩) xs):=Lib.hid (by
     refine .inr ⟨_,rfl,(HO.out.lt _ rfl).2,fun i c hc=>?_⟩
     have hi:i < cols.length:=by rw [← HL.out];exact (List.getElem?_eq_some_iff.1 hc).1
     have e:(⟨W.heap.size,0,none⟩:Addr).add i=⟨W.heap.size,i,none⟩:=by unfold Addr.add;split <;> simp_all
     rw [e,HO.out.cellAt i (by rw [Nat.mul_one];exact hi)]
     unfold half
     rw [← HL.out,List.take_length,List.getElem?_append_left (by simp;rw [HL.out];exact hi),List.getElem?_map,hc];rfl)
    clear HO
    go_wp2_with fail
    go_ret
    exact ⟨_,rfl,HS.out,below_up HB0.out HB.out⟩
theorem stands1_any (ho:Option Addr) (m hc:Nat) (ro:Option Addr) (rc:Nat) (rs:List (List ByteArray)) (row:Int) (B1 B2:Nat) (col:Int) (s:ByteArray) (w:World) (hn2:rs.length≤1099511627776) (hx:∀ r ∈ rs,r.length≤1099511627776∧∀ c ∈ r,c.size≤281474976710656) (hR:RowsAt w ro rs)
 (h1:w.heap[B1]?=some (TabO ho m hc ro rs.length rc)) (h2:w.heap[B2]?=some (.cells #[.int .i64 row] 3 (0,0))) :
 Calls Tryz.prog 137 #[.int .i64 col,.string s,.pointer (some ⟨B1,0,none⟩),.pointer (some ⟨B2,0,none⟩)] w fun e w'=>e=.returned (.int .i64 (txtC (cellL rs row col) s))∧Below w.heap.size w w':=by
 obtain ⟨c0,c1⟩:=tabs h1
 obtain ⟨d0,_⟩:=cell_of_box_l h2
 have C1:=Lib.hid (tcell_any ho m hc ro rc rs row col w hn2 hx hR)
 have C2:=Lib.hid (fun W=>strc_any (cellL rs row col) s W)
 clear hR hx h1 h2
 generalize cellL rs row col=x at C1 C2 ⊢
 generalize txtC x s=r at C2 ⊢
 go_enter Tryz.func137,Tryz.ntmps137
 go_wp2_with fail
 refine C1.out.mono ?_;rintro e w1 ⟨rfl,b1⟩
 have HB1:=Lib.hid b1
 clear b1 c0 c1 d0
 go_wp2_with fail
 refine (C2.out _).mono ?_;rintro e w2 ⟨rfl,rfl⟩
 go_wp2_with fail
 go_ret
 exact ⟨rfl,HB1.out⟩
theorem stands_any (ho:Option Addr) (m hc:Nat) (ro:Option Addr) (rc:Nat) (rs:List (List ByteArray)) (row:Int) (co:Option Addr) (cc:Nat) (cols:List Int) (so:Option Addr) (sc:Nat) (key:List ByteArray) (w:World) (hcl:cols.length≤1073741824) (hkl:key.length≤1073741824) (hn2:rs.length≤1099511627776) (hx:∀ r ∈ rs,r.length≤1099511627776∧∀ c ∈ r,c.size≤281474976710656) (hR:RowsAt w ro rs) (hI:IntsAt w co cols) (hS:StrRow w so key) :
 Calls Tryz.prog 88 #[.agg #[.slice ho m hc,.slice ro rs.length rc],.int .i64 row,.slice co cols.length cc,.slice so key.length sc] w fun e w'=>e=.returned (.int .i64 (keyC (rowKey rs cols row) key))∧Below w.heap.size w w':=by
 have hent:=enters_of Tryz.func137 (by kernel_rfl) rfl
 obtain ⟨V,HV⟩:∃ V,Hid (V=(w.alloc (TabO ho m hc ro rs.length rc)).alloc (.cells #[.int .i64 row] 3)):=⟨_,Lib.hid rfl⟩
 have hb:Below w.heap.size w V:=by rw [HV.out];exact two_below w _ _
 obtain ⟨q1,q2,q3⟩:=two_new w (TabO ho m hc ro rs.length rc) (.cells #[.int .i64 row] 3)
 rw [← HV.out] at q1 q2 q3
 have HB:=Lib.hid hb
 have C:=Lib.hid (cmpI_any 137 (.pointer (some ⟨w.heap.size,0,none⟩)) (.pointer (some ⟨w.heap.size+1,0,none⟩)) (fun c s=>txtC (cellL rs row c) s) co so cc sc cols key V hent (by omega) (by omega) (hI.kept hb) (hS.kept hb) (fun k x y _ _ U hU=>stands1_any ho m hc ro rc rs row w.heap.size (w.heap.size+1) x y U hn2 hx ((hR.kept hb).kept hU) ((hU.block _ (lt_of_heap q2)).trans q2) ((hU.block _ (lt_of_heap q3)).trans q3)))
 rw [lex_map] at C
 rw [show lexH txtC (cols.map (cellL rs row)) key=keyC (rowKey rs cols row) key from rfl] at C
 generalize keyC (rowKey rs cols row) key=r at C ⊢
 clear hR hI hS hx q1 q2 q3 hb
 go_enter Tryz.func88,Tryz.ntmps88
 go_upto_region 1 with fail
 rw [show (w.alloc (TabO ho m hc ro rs.length rc)).alloc (.cells #[.int .i64 row] 3)=V from HV.out.symm]
 go_wp2_with fail
 refine C.out.mono ?_;rintro e w1 ⟨rfl,b1⟩
 have HB1:=Lib.hid (below_up HB.out b1)
 clear b1
 go_wp2_with fail
 go_ret
 exact ⟨rfl,HB1.out⟩
end
section
open Go.RowKit Go.Shelf
theorem insertionZ_any (w0:World) (Kg:Int × Int→Prop) (G:FuncId) (cap0:Value) (hent:∀ args w,(callFunc G args).run Tryz.prog w=.ok (.enter G args) w) (base g n:Nat) (hC:CmpOK w0 g Kg G cap0) (l:PL) (a b:Nat) (w:World) (hn:n≤274877906944) (hab:a≤b) (hbn:b≤n) (hO:OwnZ w0 Kg w base g n l) :
 Calls Tryz.prog 186 #[.slice (some ⟨g,0,none⟩) n n,.int .i64 a,.int .i64 b,.func (.func G) #[] #[cap0]] w fun e w'=>e=.returned (.tuple #[])∧OwnZ w0 Kg w' base g n (insL l a b)∧w.grownBy w' (some g):=by
 have C:=Lib.hid hC
 have HLen:=Lib.hid hO.len
 have HOw:=Lib.hid hO
 clear hO hC
 have HIL:=Lib.hid (fun i p (h1:a≤i) (h2:l[i]?=some p)=>insL_way l a i p h1 h2)
 have H0:Hid (insL l a (min (a+1) b)=l):=Lib.hid (by
  by_cases h:a=b
  · subst h;rw [show min (a+1) a=a from by omega];exact insL_start l a
  · rw [show min (a+1) b=a+1 from by omega];exact insL_one l a (by rw [HLen.out];omega))
 go_enter Tryz.func186,Tryz.ntmps186
 go_wp2_with fail
 go_loopw [8] (fun i wr=>∃ k:Nat,a+1≤k∧(k≤b∨k=a+1)∧i=.int .i64 k∧Hid (OwnZ w0 Kg wr base g n (insL l a (min k b)))∧Hid (w.grownBy wr (some g))) (fun i _=>b - (intOf i).toNat)
 case atStart=>exact ⟨a+1,Nat.le_refl _,.inr rfl,by go_num,Lib.hid (by rw [H0.out];exact HOw.out),Lib.hid ⟨rfl,rfl,rfl,Nat.le_refl _,fun _ _ _=>rfl⟩⟩
 case round =>
  obtain ⟨i,hi1,hi2,rfl,HO,HGr⟩:=hrel
  clear HOw
  by_cases hlt:i < b
  · obtain ⟨p,hp⟩:∃ p,l[i]?=some p:=⟨_,List.getElem?_eq_getElem (by rw [HLen.out];omega)⟩
    obtain ⟨e1,e2⟩:=HIL.out i p (by omega) hp
    obtain ⟨P,HP⟩:∃ P,Hid (P=l.take a):=⟨_,Lib.hid rfl⟩
    obtain ⟨S,HS⟩:∃ S,Hid (S=sortB ((l.drop a).take (i - a))):=⟨_,Lib.hid rfl⟩
    obtain ⟨R,HR⟩:∃ R,Hid (R=l.drop (i+1)):=⟨_,Lib.hid rfl⟩
    rw [← HP.out,← HS.out,← HR.out] at e1 e2
    have hPl:P.length=a:=by rw [HP.out,List.length_take,HLen.out];omega
    have hSl:S.length=i - a:=by rw [HS.out,sortB_len];simp;have:=HLen.out;omega
    obtain ⟨p1,p2⟩:=p
    have HO1:Hid (OwnZ w0 Kg wr base g n (wayL P S (p1,p2) (i - a) R)):=Lib.hid (by have:=HO.out;rw [show min i b=i from by omega,e1] at this;exact this)
    have HE2:=Lib.hid e2
    clear hp e1 e2 HO HIL HP HR
    go_wp2_with fail
    obtain ⟨wo,rfl⟩:∃ wo:World,wo=wr:=⟨_,rfl⟩
    go_loopw [9] (fun j wr=>∃ k q:Nat,k≤i - a∧q=a+k∧j=.int .i64 q∧Hid (OwnZ w0 Kg wr base g n (wayL P S (p1,p2) k R))∧Hid (w.grownBy wr (some g))∧Hid (∀ (t:Nat) x,k≤t→S[t]?=some x→p2 < x.2)) (fun j _=>(intOf j).toNat)
    case atStart=>exact ⟨i - a,i,Nat.le_refl _,by omega,rfl,HO1,HGr,Lib.hid (fun t x ht hx=>by have:=(List.getElem?_eq_some_iff.1 hx).1;omega)⟩
    case round =>
     obtain ⟨k,q,hk,hq,rfl,HO,HGr,HF⟩:=hrel
     clear HO1
     have HEnd:Hid ((k=0∨∃ x,S[k - 1]?=some x∧x.2≤p2)→insL l a (i+1)=wayL P S (p1,p2) k R):=Lib.hid (fun h=>by rw [HE2.out,putK_is (p1,p2) S k (by omega) h HF.out])
     have hqn:q < n:=by omega
     cases k with
     | zero =>
      have hqa:¬ (a:Int) < (q:Int):=by omega
      have HO3:Hid (OwnZ w0 Kg wr base g n (insL l a (min (i+1) b))):=Lib.hid (by rw [show min (i+1) b=i+1 from by omega,HEnd.out (.inl rfl)];exact HO.out)
      go_wp2_with fail
      go_quiet (fail)
      have HO4:Hid (OwnZ w0 Kg (wr.drewN nq) base g n (insL l a (min (i+1) b))):=Lib.hid (HO3.out.kept (bdn (Below.refl _ _)))
      have HG4:Hid (w.grownBy (wr.drewN nq) (some g)):=Lib.hid (grown_trans HGr.out (grown_drewN _ _ _))
      go_wp2_with fail
      go_roundw
      case rel=>exact ⟨i+1,by omega,.inl (by omega),by go_num,HO4,HG4⟩
      case measure=>simp [intOf];omega
     | succ k =>
      obtain ⟨⟨x1,x2⟩,hx⟩:∃ x,S[k]?=some x:=⟨_,List.getElem?_eq_getElem (by omega)⟩
      obtain ⟨m,hm⟩:∃ m,m=a+k:=⟨_,rfl⟩
      have hqa:(a:Int) < (q:Int):=by omega
      have hsub:(q:Int) - 1=(m:Int):=by omega
      have hwr:IntKind.i64.wrap ((q:Int) - 1)=(m:Int):=by rw [IntWalk.i64_in _ (by omega)];exact hsub
      have hwm:IntKind.i64.wrap (m:Int)=(m:Int):=IntWalk.i64_in _ (by omega)
      have hmn:m < n:=by omega
      have hc1:=HO.out.cell q (p1,p2) (by rw [hq,← hPl];exact way_here P S (p1,p2) (k+1) R (by omega))
      have kc:=HO.out.at q (p1,p2) (by rw [hq,← hPl];exact way_here P S (p1,p2) (k+1) R (by omega))
      have hd1:=HO.out.cell m (x1,x2) (by rw [hm,← hPl];exact way_ahead P S (p1,p2) (x1,x2) k R (by omega) hx)
      have kd:=HO.out.at m (x1,x2) (by rw [hm,← hPl];exact way_ahead P S (p1,p2) (x1,x2) k R (by omega) hx)
      dsimp only at hc1 hd1
      have HX:=Lib.hid hx
      have HSw:Hid (((wayL P S (p1,p2) (k+1) R).set q (x1,x2)).set m (p1,p2)=wayL P S (p1,p2) k R):=Lib.hid (by rw [hq,hm,← hPl];exact way_swap P S (p1,p2) (x1,x2) k R (by omega) hx)
      have C1:=Lib.hid (C.out p1 p2 x1 x2 kc kd wr.drew (grown_trans HO.out.grown (grown_drewN wr 1 _)))
      have hneg:=cmpI_neg p2 x2
      have HM:=Lib.hid hm
      have HQ:=Lib.hid hq
      clear hx hm hq
      generalize cmpI p2 x2=cc at hneg C1
      go_upto_region 4 with fail
      go_still_tail 14,(by kernel_rfl)
      rw [show ({ heap:=wr.heap,tape:=wr.tape,drawn:=wr.drawn+1,os:=wr.os,output:=wr.output }:World)=wr.drew from rfl]
      by_cases hpx:p2 < x2
      · have hc0:cc < 0:=by rw [decide_eq_true hpx] at hneg;exact of_decide_eq_true hneg
        have HF2:Hid (∀ (t:Nat) x,k≤t→S[t]?=some x→p2 < x.2):=Lib.hid (fun t x ht hx=>by
         by_cases e:t=k
         · subst e;rw [HX.out] at hx;cases hx;exact hpx
         · exact HF.out t x (by omega) hx)
        clear hneg
        go_wp2_with fail
        refine C1.out.mono ?_;rintro e V ⟨rfl,b1⟩
        have b2:Below wr.heap.size wr V:=below_up (bdn (n:=1) (Below.refl _ wr)) b1
        have HOV:=Lib.hid (HO.out.kept b2)
        have HGV:=Lib.hid (grown_trans HGr.out (grown_below b2))
        clear b1 b2 hc1 hd1
        have hc1:=HOV.out.cell q (p1,p2) (by rw [HQ.out,← hPl];exact way_here P S (p1,p2) (k+1) R (by omega))
        have kc:=HOV.out.at q (p1,p2) (by rw [HQ.out,← hPl];exact way_here P S (p1,p2) (k+1) R (by omega))
        have hd1:=HOV.out.cell m (x1,x2) (by rw [HM.out,← hPl];exact way_ahead P S (p1,p2) (x1,x2) k R (by omega) HX.out)
        have kd:=HOV.out.at m (x1,x2) (by rw [HM.out,← hPl];exact way_ahead P S (p1,p2) (x1,x2) k R (by omega) HX.out)
        dsimp only at hc1 hd1
        have f1:=HOV.out.frozen q
        have f3:=HOV.out.frozen m
        have n1:¬ m=q:=by omega
        have O3:=HOV.out.swap q m x1 x2 p1 p2 hqn hmn kd kc
        rw [HSw.out] at O3
        have HO3:=Lib.hid (O3.kept (bdn (n:=1) (Below.refl _ _)))
        have HG3:=Lib.hid (grown_trans (grown_trans HGV.out (grown_swapZ V g q m (.int .i64 x1) (.int .i64 p1))) (grown_drewN _ 1 _))
        clear O3
        go_upto_region 6 with fail
        go_region
        go_wp2_with fail
        go_roundw
        case rel=>exact ⟨k,m,by omega,HM.out,by first | rfl | go_num,HO3,HG3,HF2⟩
        case measure=>simp [intOf];omega
      · have hc0:¬ cc < 0:=by rw [decide_eq_false hpx] at hneg;exact of_decide_eq_false hneg
        have HO3:Hid (OwnZ w0 Kg wr base g n (insL l a (min (i+1) b))):=Lib.hid (by rw [show min (i+1) b=i+1 from by omega,HEnd.out (.inr ⟨_,HX.out,by show x2≤p2;omega⟩)];exact HO.out)
        clear hneg
        go_wp2_with fail
        refine C1.out.mono ?_;rintro e V ⟨rfl,b1⟩
        have b2:Below wr.heap.size wr V:=below_up (bdn (n:=1) (Below.refl _ wr)) b1
        have HOV:=Lib.hid (HO3.out.kept b2)
        have HGV:=Lib.hid (grown_trans HGr.out (grown_below b2))
        clear b1 b2 hc1 hd1
        go_wp2_with fail
        go_roundw
        case rel=>exact ⟨i+1,by omega,.inl (by omega),by go_num,HOV,HGV⟩
        case measure=>simp [intOf];omega
  · have HO3:Hid (OwnZ w0 Kg wr base g n (insL l a b)):=Lib.hid (by have:=HO.out;rw [show min i b=b from by omega] at this;exact this)
    go_wp2_with fail
    go_end0
    exact ⟨rfl,HO3.out,HGr.out⟩
end
section
open Go.RowKit Go.Shelf
theorem symZ1_any (w0:World) (Kg:Int × Int→Prop) (G:FuncId) (cap0:Value) (hent:∀ args w,(callFunc G args).run Tryz.prog w=.ok (.enter G args) w) (base g n:Nat) (hC:CmpOK w0 g Kg G cap0) (P B R:PL) (x:Int × Int) (a m b:Nat) (w:World) (hn:n≤274877906944) (ha:a=P.length) (hm:m=a+1) (hb:b=m+B.length) (hB:Sorted B) (hO:OwnZ w0 Kg w base g n (P ++ [x] ++ B ++ R)) :
 Calls Tryz.prog 187 #[.slice (some ⟨g,0,none⟩) n n,.int .i64 a,.int .i64 m,.int .i64 b,.func (.func G) #[] #[cap0]] w fun e w'=>e=.returned (.tuple #[])∧OwnZ w0 Kg w' base g n (P ++ sortB ([x] ++ B) ++ R)∧w.grownBy w' (some g):=by
 have hl:=hO.len
 simp only [List.length_append,List.length_cons,List.length_nil] at hl
 have C:=Lib.hid hC
 obtain ⟨x1,x2⟩:=x
 have hbn:b≤n:=by omega
 have hmb:m≤b:=by omega
 have ham:a < m:=by omega
 have han:a < n:=by omega
 have hsub:(m:Int) - (a:Int)=1:=by omega
 have hws:IntKind.i64.wrap ((m:Int) - (a:Int))=1:=by rw [IntWalk.i64_in _ (by omega)];exact hsub
 have HAt:Hid ((P ++ [(x1,x2)] ++ B ++ R)[a]?=some (x1,x2)):=Lib.hid (by rw [ha];simp)
 have HBt:Hid (∀ (h t:Nat) q,h=m+t→B[t]?=some q→(P ++ [(x1,x2)] ++ B ++ R)[h]?=some q):=Lib.hid (fun h t q hh hq=>by
  have h1:=(List.getElem?_eq_some_iff.1 hq).1
  rw [List.getElem?_append_left (by simp;omega),List.getElem?_append_right (by simp;omega)]
  simp only [List.length_append,List.length_cons,List.length_nil]
  rw [show h - (P.length+(0+1))=t from by omega];exact hq)
 have HOne:=Lib.hid (fun c h1 h2 h3=>sortB_one (x1,x2) B c hB h1 h2 h3)
 have HPl:=Lib.hid ha
 have HBl:Hid (b=m+B.length):=Lib.hid hb
 have HMa:Hid (m=a+1):=Lib.hid hm
 have HO0:=Lib.hid hO
 have HD:Hid (∀ c,c≤B.length→P ++ [(x1,x2)] ++ B ++ R=wayL P (B.take c) (x1,x2) 0 (B.drop c ++ R)∧P ++ (B.take c ++ (x1,x2) :: B.drop c) ++ R=wayL P (B.take c) (x1,x2) c (B.drop c ++ R)):=Lib.hid (fun c hc=>by
  have hlc:(B.take c).length=c:=by simp;omega
  constructor
  · have e:P ++ [(x1,x2)] ++ B ++ R=P ++ [(x1,x2)] ++ (B.take c ++ B.drop c) ++ R:=by rw [List.take_append_drop]
    rw [e];simp only [wayL,List.take_zero,List.drop_zero,List.nil_append,List.append_assoc,List.cons_append]
  · unfold wayL
    rw [List.take_of_length_le (show (B.take c).length≤c by omega),List.drop_eq_nil_of_le (show (B.take c).length≤c by omega)];simp)
 clear hO hl ha hm hb hB hC
 generalize P ++ [(x1,x2)] ++ B ++ R=D at HAt HBt HO0 HD
 go_enter Tryz.func187,Tryz.ntmps187
 go_wp2_with fail
 clear hsub hws
 go_loopw [10,11] (fun u v wr=>∃ (i j:Nat),m≤i∧i≤j∧j≤b∧u=.int .i64 i∧v=.int .i64 j∧Hid (OwnZ w0 Kg wr base g n D)∧Hid (w.grownBy wr (some g))∧Hid (i=m∨∃ q,B[i - m - 1]?=some q∧q.2 < x2)∧Hid (j=b∨∃ q,B[j - m]?=some q∧x2≤q.2)) (fun u v _=>(intOf v).toNat - (intOf u).toNat)
 case atStart=>exact ⟨m,b,Nat.le_refl _,hmb,Nat.le_refl _,rfl,rfl,HO0,Lib.hid ⟨rfl,rfl,rfl,Nat.le_refl _,fun _ _ _=>rfl⟩,Lib.hid (.inl rfl),Lib.hid (.inl rfl)⟩
 case round =>
  obtain ⟨i,j,hmi,hij,hjb,rfl,rfl,HO,HGr,HI,HJ⟩:=hrel
  clear HO0
  by_cases hlt:i < j
  · obtain ⟨h,hh⟩:∃ h,h=(i+j) / 2:=⟨_,rfl⟩
    have hz:((i:Int)+(j:Int)) / 2=(h:Int):=by omega
    have h1:i≤h:=by omega
    have h2:h < j:=by omega
    obtain ⟨⟨y1,y2⟩,hy⟩:∃ q,B[h - m]?=some q:=⟨_,List.getElem?_eq_getElem (by have:=HBl.out;omega)⟩
    have hc1:=HO.out.cell h _ (HBt.out h (h - m) _ (by omega) hy)
    have kc:=HO.out.at h _ (HBt.out h (h - m) _ (by omega) hy)
    have hd1:=HO.out.cell a _ HAt.out
    have kd:=HO.out.at a _ HAt.out
    dsimp only at hc1 hd1
    have hhn:h < n:=by omega
    have C1:=Lib.hid (C.out y1 y2 x1 x2 kc kd wr.drew (grown_trans HO.out.grown (grown_drewN wr 1 _)))
    have hneg:=cmpI_neg y2 x2
    have HY:=Lib.hid hy
    clear hh hy
    generalize cmpI y2 x2=cc at hneg C1
    go_upto_region 5 with fail
    go_still_tail 9,(by kernel_rfl)
    rw [show ({ heap:=wr.heap,tape:=wr.tape,drawn:=wr.drawn+1,os:=wr.os,output:=wr.output }:World)=wr.drew from rfl]
    by_cases hlt2:y2 < x2
    · have hc0:cc < 0:=by rw [decide_eq_true hlt2] at hneg;exact of_decide_eq_true hneg
      have HI2:Hid (h+1=m∨∃ q,B[h+1 - m - 1]?=some q∧q.2 < x2):=Lib.hid (.inr ⟨_,by rw [show h+1 - m - 1=h - m from by omega];exact HY.out,hlt2⟩)
      clear hneg hlt2
      go_wp2_with fail
      refine C1.out.mono ?_;rintro e w2 ⟨rfl,b1⟩
      have b2:Below wr.heap.size wr w2:=below_up (bdn (n:=1) (Below.refl _ wr)) b1
      have HO2:=Lib.hid (HO.out.kept b2)
      have HG2:=Lib.hid (grown_trans HGr.out (grown_below b2))
      clear b1 b2 hc1 hd1 HO HGr
      go_wp2_with fail
      go_roundw
      case rel=>exact ⟨h+1,j,by omega,by omega,hjb,by go_num,rfl,HO2,HG2,HI2,HJ⟩
      case measure=>simp [intOf];omega
    · have hc0:¬ cc < 0:=by rw [decide_eq_false hlt2] at hneg;exact of_decide_eq_false hneg
      have HJ2:Hid (h=b∨∃ q,B[h - m]?=some q∧x2≤q.2):=Lib.hid (.inr ⟨_,HY.out,by show x2≤y2;omega⟩)
      clear hneg hlt2
      go_wp2_with fail
      refine C1.out.mono ?_;rintro e w2 ⟨rfl,b1⟩
      have b2:Below wr.heap.size wr w2:=below_up (bdn (n:=1) (Below.refl _ wr)) b1
      have HO2:=Lib.hid (HO.out.kept b2)
      have HG2:=Lib.hid (grown_trans HGr.out (grown_below b2))
      clear b1 b2 hc1 hd1 HO HGr
      go_wp2_with fail
      go_roundw
      case rel=>exact ⟨i,h,hmi,h1,by omega,rfl,by first | rfl | go_num,HO2,HG2,HI,HJ2⟩
      case measure=>simp [intOf];omega
  · obtain rfl:i=j:=by omega
    obtain ⟨c,hc⟩:∃ c,c=i - m:=⟨_,rfl⟩
    have hcB:c≤B.length:=by have:=HBl.out;omega
    have hE:=HOne.out c hcB (by
     rcases HI.out with h | ⟨q,h3,h4⟩
     · exact .inl (by omega)
     · rcases Nat.eq_zero_or_pos c with h0 | h0
       · exact .inl h0
       · exact .inr ⟨q,by rw [show c - 1=i - m - 1 from by omega];exact h3,h4⟩) (by
     rcases HJ.out with h | ⟨q,h3,h4⟩
     · exact .inl (by have:=HBl.out;omega)
     · exact .inr ⟨q,by rw [hc];exact h3,h4⟩)
    obtain ⟨d1,d2⟩:=HD.out c hcB
    rw [← hE] at d2
    have HD2:=Lib.hid d2
    have HO1:Hid (OwnZ w0 Kg wr base g n (wayL P (B.take c) (x1,x2) 0 (B.drop c ++ R))):=Lib.hid (by rw [← d1];exact HO.out)
    have HSl:Hid ((B.take c).length=c):=Lib.hid (by simp;omega)
    obtain ⟨i1,hi1⟩:∃ i1,i1=a+c:=⟨_,rfl⟩
    have hsub:(i:Int) - 1=(i1:Int):=by have:=HMa.out;omega
    have hwr:IntKind.i64.wrap ((i:Int) - 1)=(i1:Int):=by rw [IntWalk.i64_in _ (by omega)];exact hsub
    have HI1:=Lib.hid hi1
    have hi1n:i1 < n:=by have:=HMa.out;omega
    clear d1 d2 hE hc HI HJ HO hlt hi1 HOne HD
    go_wp2_with fail
    obtain ⟨wo,rfl⟩:∃ wo:World,wo=wr:=⟨_,rfl⟩
    go_loopw [13] (fun u wr=>∃ (t k:Nat),t≤c∧k=a+t∧u=.int .i64 k∧Hid (OwnZ w0 Kg wr base g n (wayL P (B.take c) (x1,x2) t (B.drop c ++ R)))∧Hid (w.grownBy wr (some g))) (fun u _=>i1 - (intOf u).toNat)
    case atStart=>exact ⟨0,a,Nat.zero_le _,rfl,rfl,HO1,HGr⟩
    case round =>
     obtain ⟨t,k,ht,hk,rfl,HO,HGr⟩:=hrel
     clear HO1
     by_cases hlt:k < i1
     · obtain ⟨⟨y1,y2⟩,hy⟩:∃ q,(B.take c)[t]?=some q:=⟨_,List.getElem?_eq_getElem (by rw [HSl.out];have:=HI1.out;omega)⟩
       obtain ⟨s1,s2⟩:=way_swapR P (B.take c) (x1,x2) (y1,y2) t (B.drop c ++ R) (by rw [HSl.out];have:=HI1.out;omega) hy
       have s0:=way_here P (B.take c) (x1,x2) t (B.drop c ++ R) (by rw [HSl.out];exact ht)
       obtain ⟨k1,hk1⟩:∃ k1,k1=k+1:=⟨_,rfl⟩
       rw [← HPl.out,← hk] at s0 s1 s2
       rw [← hk1] at s1 s2
       have hc1:=HO.out.cell k _ s0
       have kc:=HO.out.at k _ s0
       have hd1:=HO.out.cell k1 _ s1
       have kd:=HO.out.at k1 _ s1
       dsimp only at hc1 hd1
       have hadd:(k:Int)+1=(k1:Int):=by omega
       have hwa:IntKind.i64.wrap ((k:Int)+1)=(k1:Int):=by rw [IntWalk.i64_in _ (by omega)];exact hadd
       have hwk:IntKind.i64.wrap (k1:Int)=(k1:Int):=IntWalk.i64_in _ (by omega)
       have hkn:k < n:=by omega
       have hk1n:k1 < n:=by omega
       have f1:=HO.out.frozen k
       have f3:=HO.out.frozen k1
       have n1:¬ k1=k:=by omega
       have O3:=HO.out.swap k k1 y1 y2 x1 x2 hkn hk1n kd kc
       rw [s2] at O3
       have HO3:=Lib.hid (O3.kept (bdn (n:=1) (Below.refl _ _)))
       have HG3:=Lib.hid (grown_trans (grown_trans HGr.out (grown_swapZ wr g k k1 (.int .i64 y1) (.int .i64 x1))) (grown_drewN _ 1 _))
       have ht1:t+1≤c:=by have:=HI1.out;omega
       have HK1:=Lib.hid hk1
       have HK:=Lib.hid hk
       clear O3 s0 s1 s2 hy HO hk hk1
       go_upto_region 11 with fail
       go_region
       go_wp2_with fail
       go_roundw
       case rel=>exact ⟨t+1,k1,ht1,by have:=HK.out;have:=HK1.out;omega,by first | rfl | go_num,HO3,HG3⟩
       case measure=>have:=HK1.out;simp [intOf];omega
     · have hic:c=t:=by have:=HI1.out;omega
       have HO3:Hid (OwnZ w0 Kg wr base g n (P ++ sortB ([(x1,x2)] ++ B) ++ R)):=Lib.hid (by rw [HD2.out];have:=HO.out;rw [← hic] at this;exact this)
       clear HO hic hk
       go_wp2_with fail
       refine bodyPost_ret (results_none rfl _ _ _) rfl ?_
       exact ⟨rfl,HO3.out,HGr.out⟩
end
end Go.Proofs.YtdenehnneloegaaGreatDoor
