/-
  Texts of these rows' proofs, laid one behind the other: KText, KLaid, KKey.
  Conditions: those of each theorem.
-/
import Derived.Lib.AppendStr
import Derived.Lib.AppendIntMem
import Derived.Lib.ItoaLen
import Derived.Lib.LaidTab
import Derived.Laws.IdiomStrings
import Derived.WalkKit
import Derived.WalkMore
import Derived.IntWalk
import Derived.WalkArith
import Derived.OwnWalk
import Derived.Lib.Hide
import Derived.Test.YtdenehnneloegaaGreatDoorProg
import Derived.Test.YtdenehnneloegaaGreatDoorPa15
import Derived.Test.YtdenehnneloegaaGreatDoorRows
import Derived.LaidLaws
import Derived.Stop.LaidErr
import Derived.RowKit
namespace Go.Proofs.YtdenehnneloegaaGreatDoor
set_option linter.unusedVariables false
set_option maxRecDepth 100000
set_option maxHeartbeats 8000000
section
open Go.RowKit Go.Shelf
def Pow (w : World) : Prop := Lib.TabIs Tryz.prog w "internal/strconv.uint64pow10" .u64 Lib.pow10Tab
theorem Pow.kept {w w':World} (h:Pow w) (hB:Below w.heap.size w w'):Pow w':=Lib.tabBelow_of_tabIs h w' hB
theorem Pow.below {w w' : World} {B : Nat} (h : Pow w) (hB : w.heap.size ≤ B) (hb : Below B w w') : Lib.TabBelow Tryz.prog B w' "internal/strconv.uint64pow10" .u64 Lib.pow10Tab :=
 fun w2 h2=>h.kept ((hb.trans h2).mono hB)
def OwnU (w:World) (base:Nat) (v:Value) (l:List UInt8):Prop:=w.ownsRow base 5 1 v l.length (Lib.byteCells l)
theorem OwnU.kept {w w':World} {base:Nat} {v:Value} {l:List UInt8} (h:OwnU w base v l) (hB:Below w.heap.size w w'):OwnU w' base v l:=ownsRow_below h hB
theorem OwnU.slice {w:World} {base:Nat} {v:Value} {l:List UInt8} (h:OwnU w base v l):∃ ao cap,v=.slice ao l.length cap:=own_slice h
theorem wf_int {c:Int} (h:(Lit.int .i64 c).wf=true):-9223372036854775808≤c∧c≤9223372036854775807:=by
 have h1:IntKind.i64.min≤c∧c≤IntKind.i64.max:=by simpa [Lit.wf] using h
 exact ⟨Int.le_trans (by decide) h1.1,Int.le_trans h1.2 (by decide)⟩
theorem conv_any {w:World} {base:Nat} {ao:Option Addr} {cap:Nat} {l:List UInt8} (h:OwnU w base (.slice ao l.length cap) l):(convert 144 9 (.slice ao l.length cap)).run Tryz.prog w=.ok (.string ⟨l.toArray⟩) w:=by
 rcases h.2 with ⟨h0,h1⟩ | ⟨g,cp,cur,h0,-,-,-,-,-,-⟩
 · have hl:l=[]:=List.eq_nil_of_length_eq_zero h1
   subst hl
   simp only [List.length_nil,Value.slice.injEq] at h0
   obtain ⟨rfl,-,rfl⟩:=h0
   rw [run_convert_bytes_string w _ _ 5 none _ 0 Tryz.underlying144 Tryz.underlying5 Tryz.underlying9]
   simp [Conv.bytesToString,go_sem]
   rfl
 · simp only [Value.slice.injEq] at h0
   obtain ⟨rfl,-,rfl⟩:=h0
   exact run_convert_bytes_back (P:=Tryz.prog) w _ _ 5 ⟨g,0,none⟩ cap l Tryz.underlying144 Tryz.underlying5 Tryz.underlying9 (fun j hj=>h.cells (g:=g) rfl j _ (by simp [Lib.byteCells,hj]))
theorem text_next (rs:List (List ByteArray)) (i:Nat) (cols:List Int) (k:Nat) (c:Int) (hc:cols[k]?=some c):textL rs i (cols.take (k+1))=textL rs i (cols.take k) ++ partL c (cellL rs i c):=by
 obtain ⟨hk,e⟩:=List.getElem?_eq_some_iff.1 hc
 unfold textL
 rw [List.take_succ_eq_append_getElem hk,e,List.flatMap_append];simp
theorem text_few (rs:List (List ByteArray)) (i:Nat) (cols:List Int) (hs:∀ r ∈ rs,∀ c ∈ r,c.size≤1048576) (hw:∀ c ∈ cols,(Lit.int .i64 c).wf=true):(textL rs i cols).length≤cols.length * 1048640:=by
 induction cols with
 | nil=>simp [textL]
 | cons c cols ih =>
  have h1:=ih (fun c hc=>hw c (List.mem_cons_of_mem _ hc))
  unfold textL at h1 ⊢
  rw [List.flatMap_cons,List.length_append,List.length_cons]
  have hcell:(cellL rs i c).size≤1048576:=by
   unfold cellL
   split
   · cases hr:rs[(i:Int).toNat]? with
     | none=>simp [ByteArray.size]
     | some r =>
      show ((r[c.toNat]?).getD _).size≤_
      cases hx:r[c.toNat]? with
      | none=>simp [ByteArray.size]
      | some x=>exact hs r (List.mem_of_getElem? hr) x (List.mem_of_getElem? hx)
   · simp [ByteArray.size]
  have hwf:=hw c List.mem_cons_self
  have hlo:-9223372036854775808≤c∧c≤9223372036854775807:=by
   exact wf_int hwf
  have h2:(partL c (cellL rs i c)).length≤1048640:=by
   unfold partL
   split
   · simp
   · have e1:=Lib.itoa_length_le c hlo.1 hlo.2
     have e2:=Lib.itoa_length_le ((cellL rs i c).size:Int) (by omega) (by omega)
     rw [List.length_append,List.length_cons,List.length_append,List.length_cons,ba_size];omega
  omega
theorem text_end (rs:List (List ByteArray)) (i:Nat) (r:List ByteArray) (hr:rs[i]?=some r) (cols:List Int) (hp:cols.Pairwise (fun a b=>a < b)) (k:Nat) (c:Int) (hc:cols[k]?=some c) (hl:(r.length:Int)≤c):textL rs i cols=textL rs i (cols.take k):=by
 have hdrop:textL rs i (cols.drop k)=[]:=by
  unfold textL
  rw [List.flatMap_eq_nil_iff]
  intro d hd
  obtain ⟨hk,e⟩:=List.getElem?_eq_some_iff.1 hc
  have hcd:c≤d:=by
   obtain ⟨j,hj,rfl⟩:=List.mem_iff_getElem.1 hd
   rw [List.getElem_drop]
   rw [List.length_drop] at hj
   by_cases h0:j=0
   · subst h0;simp;omega
   · have:=List.pairwise_iff_getElem.1 hp k (k+j) hk (by omega) (by omega);omega
  have:cellL rs i d=⟨#[]⟩:=cellL_col rs i r d hr (by simp;omega)
  unfold partL;rw [this,if_pos rfl]
 have h2:textL rs i cols=textL rs i (cols.take k) ++ textL rs i (cols.drop k):=by
  unfold textL;rw [← List.flatMap_append,List.take_append_drop]
 rw [h2,hdrop,List.append_nil]
theorem written_any (ho:Option Addr) (m hc:Nat) (ro:Option Addr) (rc:Nat) (rs:List (List ByteArray)) (i:Nat) (co:Option Addr) (cc:Nat) (cols:List Int) (w:World) (hi:i < rs.length) (hn2:rs.length≤1099511627776) (hx:∀ r ∈ rs,r.length≤1099511627776∧∀ c ∈ r,c.size≤1048576)
 (hcl:cols.length≤1048576) (hp:cols.Pairwise (fun a b=>a < b)) (hw:∀ c ∈ cols,(Lit.int .i64 c).wf=true) (hR:RowsAt w ro rs) (hI:IntsAt w co cols) (hpow:Pow w) :
 Calls Tryz.prog 205 #[.agg #[.slice ho m hc,.slice ro rs.length rc],.int .i64 i,.slice co cols.length cc] w fun e w'=>e=.returned (.string ⟨(textL rs i cols).toArray⟩)∧Below w.heap.size w w':=by
 have hinfo:(Tryz.prog.info? 5).map (fun i=>(i.zero,i.size,i.bytes))=some (some (.int .u8 0),1,1):=by kernel_rfl
 obtain ⟨i0,hi0,hz0,hz1,hz2⟩:=infoK_parts2 hinfo
 have HIN:=Lib.hid hi0
 obtain ⟨V,HV⟩:∃ V,Hid (V=w.alloc (TabO ho m hc ro rs.length rc)):=⟨_,Lib.hid rfl⟩
 have HB:=Lib.hid (show Below w.heap.size w V by rw [HV.out];exact one_below w _)
 have HbV:=Lib.hid (show V.heap[w.heap.size]?=some (TabO ho m hc ro rs.length rc) by rw [HV.out];exact World.alloc_heap_new w _)
 have HP:=Lib.hid (hpow.kept HB.out)
 have HR:=Lib.hid (hR.kept HB.out)
 have HI:=Lib.hid (hI.kept HB.out)
 have HX:=Lib.hid hx
 have HPW:=Lib.hid hp
 have HW:=Lib.hid hw
 have HTF:=Lib.hid (fun k=>text_few rs i (cols.take k) (fun r hr=>(hx r hr).2) (fun c hc=>hw c (List.mem_of_mem_take hc)))
 obtain ⟨r,hr⟩:∃ r,rs[i]?=some r:=⟨_,List.getElem?_eq_getElem hi⟩
 have HRi:=Lib.hid hr
 have hlV:w.heap.size < V.heap.size:=lt_of_heap HbV.out
 have HlV:=Lib.hid hlV
 clear hi0 hinfo hpow hR hI hx hp hw hr
 go_enter Tryz.func205,Tryz.ntmps205
 go_wp2_with fail
 rw [← HV.out]
 go_loopw [7,13] (fun v j wr=>∃ (k:Nat),k≤cols.length∧j=.int .i64 k∧Hid (OwnU wr V.heap.size v (textL rs i (cols.take k)))∧Hid (Below V.heap.size V wr)) (fun _ j _=>cols.length - (intOf j).toNat)
 case atStart=>exact ⟨0,Nat.zero_le _,rfl,Lib.hid (World.ownsRow_nil _ _ _ _),Lib.hid (Below.refl _ _)⟩
 case round =>
  obtain ⟨k,hk,rfl,HO,HBr⟩:=hrel
  have hbox:=(HBr.out.block _ HlV.out).trans HbV.out
  have bc0:wr.cell? ⟨w.heap.size,0,none⟩=some (.slice ho m hc):=(Lib.cell_of_heap hbox 0).trans rfl
  have bc1:wr.cell? ⟨w.heap.size,1,none⟩=some (.slice ro rs.length rc):=(Lib.cell_of_heap hbox 1).trans rfl
  clear hbox
  by_cases hlt:k < cols.length
  · obtain ⟨c,hcol⟩:∃ c,cols[k]?=some c:=⟨_,List.getElem?_eq_getElem hlt⟩
    have HC:=Lib.hid hcol
    have HWc:=Lib.hid (HW.out c (List.mem_of_getElem? hcol))
    rcases HI.out.kept HBr.out with h0 | ⟨A,rfl,hA,hcell⟩
    · rw [h0] at hlt;simp at hlt
    have cc1:=hcell k c hcol
    rcases HR.out.kept HBr.out with h0 | ⟨A2,rfl,hA2,hcell2⟩
    · rw [h0] at hi;simp at hi
    obtain ⟨ro1,rc1,hc1,hs1⟩:=hcell2 i r HRi.out
    obtain ⟨ao,cap,rfl⟩:=HO.out.slice
    have CT:=Lib.hid (tcell_any ho m hc (some A2) rc rs (i:Int) c wr hn2 (fun r hr=>⟨(HX.out r hr).1,fun c hc=>Nat.le_trans ((HX.out r hr).2 c hc) (by omega)⟩) (HR.out.kept HBr.out))
    clear hcell hcell2 hs1 hcol
    by_cases hend:(r.length:Int)≤c
    · have E:=Lib.hid (text_end rs i r HRi.out cols HPW.out k c HC.out hend)
      have HF:Hid (OwnU wr V.heap.size (.slice ao (textL rs i (cols.take k)).length cap) (textL rs i cols)∧Below w.heap.size w wr):=Lib.hid ⟨by have:=HO.out;rw [← E.out] at this ⊢;exact this,HB.out.trans (HBr.out.mono (by have:=HlV.out;omega))⟩
      rw [← E.out] at HF ⊢
      obtain ⟨l,hl⟩:∃ l,l=textL rs i cols:=⟨_,rfl⟩
      rw [← hl] at HF ⊢
      have hcv:=conv_any HF.out.1
      have HL:=Lib.hid hl
      clear HO CT hl E HTF
      go_wp2_with fail
      go_ret
      exact ⟨by rw [← HL.out];rfl,HF.out.2⟩
    · have hlt3:c < (r.length:Int):=by omega
      have HTn:=Lib.hid (text_next rs i cols k c HC.out)
      have hxs:(cellL rs i c).size≤1048576:=by
       by_cases h0:0≤c
       · obtain ⟨j,rfl⟩:=Int.eq_ofNat_of_zero_le h0
         obtain ⟨y,hy⟩:∃ y,r[j]?=some y:=⟨_,List.getElem?_eq_getElem (by omega)⟩
         rw [cellL_at rs i j r y HRi.out hy]
         exact (HX.out r (List.mem_of_getElem? HRi.out)).2 y (List.mem_of_getElem? hy)
       · rw [cellL_col rs i r c HRi.out (by simp;omega)];simp [ByteArray.size]
      have hnl:=HTF.out k
      have htl:(cols.take k).length=k:=by rw [List.length_take];omega
      rw [htl] at hnl
      obtain ⟨x,hx⟩:∃ x,x=cellL rs i c:=⟨_,rfl⟩
      rw [← hx] at CT HTn hxs
      obtain ⟨l,hl⟩:∃ l,l=textL rs i (cols.take k):=⟨_,rfl⟩
      rw [← hl] at HO HTn hnl ⊢
      clear hx hl htl HTF
      go_wp2_with fail
      refine CT.out.mono ?_
      rintro e w1 ⟨rfl,b1⟩
      have HO1:=Lib.hid (HO.out.kept b1)
      have HB1:=Lib.hid (HBr.out.trans (b1.mono HBr.out.size))
      have hs1:V.heap.size≤w1.heap.size:=HB1.out.size
      clear b1 HO bc0 bc1 cc1 hc1
      by_cases hemp:x.toList=[]
      · have hem2:x.toList.isEmpty=true:=by rw [hemp];rfl
        have HTe:Hid (textL rs i (cols.take (k+1))=l):=Lib.hid (by rw [HTn.out];unfold partL;rw [if_pos (by rw [← ba_toList];exact hemp),List.append_nil])
        clear hemp
        go_wp2_with fail
        go_roundw
        case rel=>exact ⟨k+1,by omega,by go_num,by rw [HTe.out];exact HO1,HB1⟩
        case measure=>simp [intOf];omega
      · have hem2:x.toList.isEmpty=false:=by cases h:x.toList with | nil=>exact absurd h hemp | cons a l=>rfl
        have HTe:Hid (textL rs i (cols.take (k+1))=l ++ (Lib.itoa c ++ 32 :: (Lib.itoa (x.size:Int) ++ 32 :: x.data.toList))):=Lib.hid (by rw [HTn.out];unfold partL;rw [if_neg (by rw [← ba_toList];exact hemp)])
        obtain ⟨wc0,wc1⟩:=wf_int HWc.out
        have la:=Lib.itoa_length_le c wc0 wc1
        have lb:=Lib.itoa_length_le (x.size:Int) (by omega) (by omega)
        have CA1:=Lib.hid (Any.strconv_AppendInt_10 laysA V.heap.size l.length c wc0 wc1 (.slice ao l.length cap) (Lib.byteCells l) w1 HO1.out hs1 (by omega) (HP.out.below (Nat.le_refl _) HB1.out))
        clear hemp HO1
        go_wp2_with fail
        refine CA1.out.mono ?_
        rintro e w2 ⟨v2,rfl,ho2,hb2,-⟩
        have HOA2:=Lib.hid ho2
        have HB2:=Lib.hid (HB1.out.trans hb2)
        have hs2:V.heap.size≤w2.heap.size:=HB2.out.size
        obtain ⟨ao2,cap2,rfl⟩:=own_slice ho2
        clear ho2 hb2 CA1
        go_wp2_with (at_builtin;refine wpList_append_own _ rfl _ _ 144 rfl V.heap.size 5 i0 (.int .u8 0) 1 1 Tryz.underlying144 HIN.out hz0 hz1 hz2 rfl (by decide) _ _ _ rfl (HOA2.out.alloc _) ⟨w2.heap.size,0,none⟩ 1 1 [Value.int .u8 32] rfl rfl (by intro j u' hj;match j,hj with | 0,hj=>simp at hj;subst hj;exact (cell_row (World.alloc_heap_new w2 _) 0).trans rfl) (by intro u' hu;simp at hu;subst hu;rfl) (by unfold maxLen;omega) (by omega) (by simp;omega) ?_)
        intro v3 w3 ho3 hg3 _
        have HB3:=Lib.hid ((HB2.out.alloc hs2 _).grown hg3 (by simp;omega) (fun k hk=>(HOA2.out.lt k hk).1))
        have hs3:V.heap.size≤w3.heap.size:=HB3.out.size
        have CA2:=Lib.hid (Any.strconv_AppendInt_10 laysA V.heap.size _ (x.size:Int) (by omega) (by omega) v3 _ w3 ho3 hs3 (by omega) (HP.out.below (Nat.le_refl _) HB3.out))
        obtain ⟨ao3,cap3,rfl⟩:=own_slice ho3
        clear ho3 hg3
        go_wp2_with fail
        refine CA2.out.mono ?_
        rintro e w4 ⟨v4,rfl,ho4,hb4,-⟩
        have HOA4:=Lib.hid ho4
        have HB4:=Lib.hid (HB3.out.trans hb4)
        have hs4:V.heap.size≤w4.heap.size:=HB4.out.size
        obtain ⟨ao4,cap4,rfl⟩:=own_slice ho4
        clear ho4 hb4 CA2
        go_wp2_with (at_builtin;refine wpList_append_own _ rfl _ _ 144 rfl V.heap.size 5 i0 (.int .u8 0) 1 1 Tryz.underlying144 HIN.out hz0 hz1 hz2 rfl (by decide) _ _ _ rfl (HOA4.out.alloc _) ⟨w4.heap.size,0,none⟩ 1 1 [Value.int .u8 32] rfl rfl (by intro j u' hj;match j,hj with | 0,hj=>simp at hj;subst hj;exact (cell_row (World.alloc_heap_new w4 _) 0).trans rfl) (by intro u' hu;simp at hu;subst hu;rfl) (by unfold maxLen;omega) (by omega) (by simp;omega) ?_)
        intro v5 w5 ho5 hg5 _
        have HB5:=Lib.hid ((HB4.out.alloc hs4 _).grown hg5 (by simp;omega) (fun k hk=>(HOA4.out.lt k hk).1))
        have hs5:V.heap.size≤w5.heap.size:=HB5.out.size
        have HO5:=Lib.hid ho5
        obtain ⟨ao5,cap5,rfl⟩:=own_slice ho5
        clear ho5 hg5
        go_wp2_with (at_builtin;refine Lib.wpList_append_own_string _ rfl _ _ 144 9 rfl V.heap.size 5 i0 Tryz.underlying144 Tryz.underlying9 HIN.out hz0 hz1 hz2 _ _ _ rfl HO5.out x rfl (by unfold maxLen;omega) (by omega) hs5 ?_)
        intro v6 w6 ho6 hg6 _
        have HB6:=Lib.hid (HB5.out.grown hg6 hs5 (fun k hk=>(HO5.out.lt k hk).1))
        have HO6:Hid (OwnU w6 V.heap.size v6 (l ++ (Lib.itoa c ++ 32 :: (Lib.itoa (x.size:Int) ++ 32 :: x.data.toList)))):=Lib.hid (by
         have e1:l.length+(Lib.itoa c).length+1+(Lib.itoa (x.size:Int)).length+1+x.size=(l ++ (Lib.itoa c ++ 32 :: (Lib.itoa (x.size:Int) ++ 32 :: x.data.toList))).length:=by
          rw [List.length_append,List.length_append,List.length_cons,List.length_append,List.length_cons,ba_size];omega
         have e2:(Lib.byteCells l ++ (Lib.byteCells (Lib.itoa c) ++ Value.int IntKind.u8 32 :: (Lib.byteCells (Lib.itoa (x.size:Int)) ++ Value.int IntKind.u8 32 :: Lib.strCells x)))=Lib.byteCells (l ++ (Lib.itoa c ++ 32 :: (Lib.itoa (x.size:Int) ++ 32 :: x.data.toList))):=by
          simp [Lib.byteCells,Lib.strCells]
         unfold OwnU
         rw [← e1,← e2]
         exact ho6)
        clear ho6 hg6
        go_wp2_with fail
        go_roundw
        case rel=>exact ⟨k+1,by omega,by go_num,by rw [HTe.out];exact HO6,HB6⟩
        case measure=>simp [intOf];omega
  · have hke:k=cols.length:=by omega
    have E:cols.take k=cols:=List.take_of_length_le (by omega)
    rw [E] at HO
    obtain ⟨ao,cap,rfl⟩:=HO.out.slice
    have HF:Hid (OwnU wr V.heap.size (.slice ao (textL rs i cols).length cap) (textL rs i cols)∧Below w.heap.size w wr):=Lib.hid ⟨HO.out,HB.out.trans (HBr.out.mono (by have:=HlV.out;omega))⟩
    obtain ⟨l,hl⟩:∃ l,l=textL rs i cols:=⟨_,rfl⟩
    rw [← hl] at HF ⊢
    have hcv:=conv_any HF.out.1
    have HL:=Lib.hid hl
    clear HO hl E HTF
    go_wp2_with fail
    go_ret
    exact ⟨by rw [← HL.out];rfl,HF.out.2⟩
end
section
open Go.ChangeShapes Go.RowKit
abbrev laidL : List (String × DataW Unit) := [("math/bits.deBruijn32tab", Rows.laid_math_bits_deBruijn32tab), ("math/bits.deBruijn64tab", Rows.laid_math_bits_deBruijn64tab), ("internal/strconv.uint64pow10", Rows.laid_internal_strconv_uint64pow10)]
theorem laid_pow:(Rows.laid_internal_strconv_uint64pow10:DataW Unit)=Lib.tabData .u64 Lib.pow10Tab:=by
 unfold Rows.laid_internal_strconv_uint64pow10 Lib.tabData Lib.pow10Tab
 simp [List.range,List.range.loop]
theorem pow_of_laid {W:World} (h:laidMet Tryz.prog laidL W):Pow W:=by
 have h3:=h.tail.tail
 rw [laid_pow] at h3
 exact Lib.tabIs_of_head (g:=1) (t:=289) (e:=205) (n:=20) (by kernel_rfl) (by kernel_rfl) (by kernel_rfl) (by kernel_rfl) (by kernel_rfl) (by kernel_rfl) h3
def tab32:List Int:=[0,1,28,2,29,14,24,3,30,22,20,15,25,17,4,8,31,27,13,23,21,19,16,7,26,12,18,6,11,5,10,9]
def tab64:List Int:=[0,1,56,2,57,49,28,3,61,58,42,50,38,29,17,4,62,47,59,36,45,43,51,22,53,39,33,30,24,18,12,5,63,55,48,27,60,41,37,16,46,35,44,21,52,32,23,11,54,26,40,15,34,20,31,10,25,14,19,9,13,8,7,6]
def putTab (h:Array Obj) (g:Nat) (k:IntKind) (zs:List Int):Array Obj:=h.modify g fun
 | .cells _ t fr=>.cells (zs.map fun z=>Value.int k z).toArray t fr
 | o=>o
noncomputable def laidWorld (os:Os):World :=
 let w0:=World.holding Tryz.prog os ⟨#[],#[],[]⟩
 { w0 with heap:=putTab (putTab (putTab w0.heap 1 .u64 Lib.pow10Tab) 2 .u8 tab32) 3 .u8 tab64 }
theorem laidWorld_met (os:Os) (args:Array Value):laidMet Tryz.prog laidL ((laidWorld os).forCall (fun _ _=>0) ⟨#[],args,[]⟩).memory :=
 laidMet_of_run' 8 (by kernel_rfl) (by kernel_rfl)
end
section
open Go.RowKit Go.Shelf
def stage (rs:List (List ByteArray)) (i:Nat) (L:List Int) (z:ByteArray) (k:Nat):ByteArray × ByteArray × ByteArray :=
 (if 0 < k then cellL rs i (L.getD 0 0) else emptyT,if 1 < k then cellL rs i (L.getD 1 0) else emptyT,if 2 < k then cellL rs i (L.getD 2 0) else z)
theorem stage_start (rs:List (List ByteArray)) (i:Nat) (L:List Int) (z:ByteArray):stage rs i L z 0=(emptyT,emptyT,z):=rfl
theorem stage_more (rs:List (List ByteArray)) (i:Nat) (cols:List Int) (h:3 < cols.length):stage rs i (cols.take 2) ⟨(textL rs i (cols.drop 2)).toArray⟩ (cols.take 2).length=key3 rs cols i:=by
 unfold key3 stage
 rw [if_pos h]
 match cols,h with
 | a :: b :: c :: l,_=>simp
theorem stage_few (rs:List (List ByteArray)) (i:Nat) (cols:List Int) (h:¬ 3 < cols.length):stage rs i cols emptyT cols.length=key3 rs cols i:=by
 unfold key3 stage keyL
 rw [if_neg h]
 match cols,h with
 | [],_=>simp
 | [a],_=>simp
 | [a,b],_=>simp
 | [a,b,c],_=>simp
 | a :: b :: c :: d :: l,h=>simp at h
def keyV (k:ByteArray × ByteArray × ByteArray):Array Value:=#[.string k.1,.string k.2.1,.string k.2.2]
theorem heap_set {W:World} {B i:Nat} {cs:Array Value} {T:TypeId} (v:Value) (h:W.heap[B]?=some (.cells cs T (0,0))):(W.setCell ⟨B,i,none⟩ v).heap[B]?=some (.cells (cs.setIfInBounds i v) T (0,0)):=by
 obtain ⟨hlt,hk⟩:=Array.getElem?_eq_some_iff.1 h
 show (W.heap.modify B _)[B]?=_
 rw [Array.getElem?_eq_getElem (by rw [Array.size_modify];exact hlt),Array.getElem_modify_self,hk]
 rfl
theorem frozen_free {W:World} {B:Nat} {cs:Array Value} {T:TypeId} (h:W.heap[B]?=some (.cells cs T (0,0))) (j:Nat):W.frozen? ⟨B,j,none⟩=false:=by
 unfold World.frozen?
 rw [h];simp
theorem keyOf_any (ho:Option Addr) (m hc:Nat) (ro:Option Addr) (rc:Nat) (rs:List (List ByteArray)) (i:Nat) (co:Option Addr) (cc:Nat) (cols:List Int) (w:World) (hi:i < rs.length) (hn2:rs.length≤1099511627776) (hx:∀ r ∈ rs,r.length≤1099511627776∧∀ c ∈ r,c.size≤1048576)
 (hcl:cols.length≤1048576) (hcap:cols.length≤cc) (hp:cols.Pairwise (fun a b=>a < b)) (hw:∀ c ∈ cols,(Lit.int .i64 c).wf=true) (hR:RowsAt w ro rs) (hI:IntsAt w co cols) (hpow:Pow w) :
 Calls Tryz.prog 172 #[.agg #[.slice ho m hc,.slice ro rs.length rc],.int .i64 i,.slice co cols.length cc] w fun e w'=>e=.returned (.agg (keyV (key3 rs cols i)))∧Below w.heap.size w w':=by
 have HX:=Lib.hid hx
 obtain ⟨V,HV⟩:∃ V,Hid (V=((w.alloc (TabO ho m hc ro rs.length rc)).alloc (.cells #[.string ⟨#[]⟩,.string ⟨#[]⟩,.string ⟨#[]⟩] 213)).alloc (.cells #[.string ⟨#[]⟩,.string ⟨#[]⟩,.string ⟨#[]⟩] 213)):=⟨_,Lib.hid rfl⟩
 have HBv:Hid (Below w.heap.size w V):=Lib.hid (by rw [HV.out];exact ((one_below w _).alloc (by simp) _).alloc (by simp;omega) _)
 have HT:Hid (V.heap[w.heap.size]?=some (TabO ho m hc ro rs.length rc)):=Lib.hid (by
  rw [HV.out,Below.heap_alloc _ _ _ (by simp;omega),Below.heap_alloc _ _ _ (by simp)];exact World.alloc_heap_new _ _)
 have HE:Hid (V.heap[w.heap.size+1]?=some (.cells (keyV (emptyT,emptyT,emptyT)) 213 (0,0))):=Lib.hid (by
  rw [HV.out,Below.heap_alloc _ _ _ (by simp)]
  exact box_new _ _ _ (by simp))
 have HK:Hid (V.heap[w.heap.size+1+1]?=some (.cells (keyV (emptyT,emptyT,emptyT)) 213 (0,0))):=Lib.hid (by
  rw [HV.out];exact box_new _ _ _ (by simp))
 have HR:=Lib.hid hR
 have HI:=Lib.hid hI
 have HPW:=Lib.hid hp
 have HW:=Lib.hid hw
 have HP:=Lib.hid hpow
 by_cases h3:3 < cols.length
 · have HF:Hid (stage rs i (cols.take 2) ⟨(textL rs i (cols.drop 2)).toArray⟩ (cols.take 2).length=key3 rs cols i):=Lib.hid (stage_more rs i cols h3)
   rcases hI with h0 | ⟨A,rfl,hA,hcell⟩
   · rw [h0] at h3;simp at h3
   have hdrop:∀ (W:World),Below V.heap.size V W→IntsAt W (some ⟨A.block,A.off+2,none⟩) (cols.drop 2):=fun W h=>by
    have hb2:=HBv.out.trans (h.mono HBv.out.size)
    refine .inr ⟨_,rfl,by have:=hb2.size;simp;omega,fun j p hj=>?_⟩
    rw [List.getElem?_drop] at hj
    have h1:=hcell (2+j) p hj
    have e:(⟨A.block,A.off+2,none⟩:Addr).add j=A.add (2+j):=by
     unfold Addr.add
     by_cases h0:j=0
     · subst h0;simp
     · rw [if_neg h0,if_neg (by omega)];simp;omega
    rw [e]
    have hlt:(A.add (2+j)).block < w.heap.size:=by rw [add_block];exact hA
    exact (hb2.cell hlt).trans h1
   have C:=Lib.hid (fun W (h:Below V.heap.size V W)=>written_any ho m hc ro rc rs i (some ⟨A.block,A.off+2,none⟩) (cc - 2) (cols.drop 2) W hi hn2 hx (by rw [List.length_drop];omega) (HPW.out.drop) (fun c hc=>hw c (List.mem_of_mem_drop hc)) (HR.out.kept (HBv.out.trans (h.mono HBv.out.size))) (hdrop W h) (HP.out.kept (HBv.out.trans (h.mono HBv.out.size))))
   have bc0:V.cell? ⟨w.heap.size,0,none⟩=some (.slice ho m hc):=(Lib.cell_of_heap HT.out 0).trans rfl
   have bc1:V.cell? ⟨w.heap.size,1,none⟩=some (.slice ro rs.length rc):=(Lib.cell_of_heap HT.out 1).trans rfl
   have HIL:Hid (IntsAt w (some A) (cols.take 2)):=Lib.hid (.inr ⟨A,rfl,hA,fun j p hj=>hcell j p (by
    rw [List.getElem?_take] at hj
    split at hj
    · exact hj
    · cases hj)⟩)
   have h3i:(3:Int) < (cols.length:Int):=by omega
   have h2i:(2:Int)≤(cols.length:Int):=by omega
   have hcc2:cc ≠ 2:=by omega
   have hd2:(cols.drop 2).length=cols.length - 2:=by simp
   rw [hd2] at C
   have HL2:Hid ((cols.take 2).length=2):=Lib.hid (by rw [List.length_take];omega)
   obtain ⟨L,hL⟩:∃ L,L=cols.take 2:=⟨_,rfl⟩
   obtain ⟨z,hz⟩:∃ z,z=(⟨(textL rs i (cols.drop 2)).toArray⟩:ByteArray):=⟨_,rfl⟩
   rw [← hL] at HIL HL2 HF
   rw [← hz] at HF C
   have HFz:=HF
   clear hL hz hdrop hcell hR hw hp hpow hx hd2
   go_enter Tryz.func172,Tryz.ntmps172
   go_wp2_with fail
   rw [← HV.out]
   go_region_with (go_at_call 205;refine (C.out _ (by first | exact (Below.refl _ V) | exact (Below.refl _ V).drew | exact ((Below.refl _ V).drew).drew)).mono ?_;rintro e w1 ⟨rfl,b1⟩;(have HBw:Hid (Below V.heap.size V w1):=Lib.hid (((Below.refl _ V).drew).trans b1));clear b1;have ky:w1.cell? ⟨w.heap.size+1+1,2,none⟩=some (.string emptyT):=(Lib.cell_of_heap ((HBw.out.block _ (lt_of_heap HK.out)).trans HK.out) 2).trans rfl;have kf0:w1.frozen? ⟨w.heap.size+1+1,2,none⟩=false:=frozen_free ((HBw.out.block _ (lt_of_heap HK.out)).trans HK.out) 2)
   obtain ⟨V2,hV2⟩:∃ V2,V2=w1.setCell ⟨w.heap.size+1+1,2,none⟩ (.string z):=⟨_,rfl⟩
   rw [← hV2]
   have HK:Hid (V2.heap[w.heap.size+1+1]?=some (.cells (keyV (stage rs i L z 0)) 213 (0,0))):=Lib.hid (by
    rw [hV2,heap_set _ ((HBw.out.block _ (lt_of_heap HK.out)).trans HK.out)];simp [keyV,stage])
   have HT:Hid (V2.heap[w.heap.size]?=some (TabO ho m hc ro rs.length rc)):=Lib.hid (by
    rw [hV2,Go.Deep.blk_setCell_other _ _ _ _ (by simp;omega)];exact (HBw.out.block _ (lt_of_heap HT.out)).trans HT.out)
   have HE:Hid (V2.heap[w.heap.size+1]?=some (.cells (keyV (emptyT,emptyT,emptyT)) 213 (0,0))):=Lib.hid (by
    rw [hV2,Go.Deep.blk_setCell_other _ _ _ _ (by simp)];exact (HBw.out.block _ (lt_of_heap HE.out)).trans HE.out)
   have HBv:Hid (Below w.heap.size w V2):=Lib.hid (by
    rw [hV2];exact (HBv.out.trans (HBw.out.mono HBv.out.size)).setCell (p:=⟨w.heap.size+1+1,2,none⟩) (by simp;omega) _)
   clear hV2 ky kf0 C bc0 bc1
   go_wp2_with fail
   have HI0:=HIL
   go_loopw [27] (fun j wr=>∃ (k:Nat),k≤2∧j=.int .i64 k∧Hid (wr.heap[w.heap.size+1+1]?=some (.cells (keyV (stage rs i L z k)) 213 (0,0)))∧Hid (wr.heap[w.heap.size]?=some (TabO ho m hc ro rs.length rc))∧Hid (wr.heap[w.heap.size+1]?=some (.cells (keyV (emptyT,emptyT,emptyT)) 213 (0,0)))∧Hid (Below w.heap.size w wr)) (fun j _=>2 - (intOf j).toNat)
   case atStart=>exact ⟨0,Nat.zero_le _,rfl,HK,HT,HE,HBv⟩
   case round =>
    obtain ⟨k,hk,rfl,HKr,HTr,HEr,HBr⟩:=hrel
    have bc0:wr.cell? ⟨w.heap.size,0,none⟩=some (.slice ho m hc):=(Lib.cell_of_heap HTr.out 0).trans rfl
    have bc1:wr.cell? ⟨w.heap.size,1,none⟩=some (.slice ro rs.length rc):=(Lib.cell_of_heap HTr.out 1).trans rfl
    by_cases hlt:k < 2
    · obtain ⟨c,hcol⟩:∃ c,L[k]?=some c:=⟨_,List.getElem?_eq_getElem (by have:=HL2.out;omega)⟩
      have hgd:L.getD k 0=c:=by rw [List.getD_eq_getElem?_getD,hcol];rfl
      have HGD:=Lib.hid hgd
      rcases HIL.out.kept HBr.out with h0 | ⟨A',hAA,hA',hcell⟩
      · have:=HL2.out;rw [h0] at this;simp at this
      cases hAA
      have cc1:=hcell k c hcol
      have CT:=Lib.hid (tcell_any ho m hc ro rc rs (i:Int) c wr hn2 (fun r hr=>⟨(HX.out r hr).1,fun c hc=>Nat.le_trans ((HX.out r hr).2 c hc) (by omega)⟩) (HR.out.kept HBr.out))
      clear hcell hcol hgd
      go_wp2_with fail
      refine CT.out.mono ?_
      rintro e w1 ⟨rfl,b1⟩
      have HK1:=Lib.hid ((b1.block _ (lt_of_heap HKr.out)).trans HKr.out)
      have HT1:=Lib.hid ((b1.block _ (lt_of_heap HTr.out)).trans HTr.out)
      have HE1:=Lib.hid ((b1.block _ (lt_of_heap HEr.out)).trans HEr.out)
      have HB1:=Lib.hid (below_up HBr.out b1)
      obtain ⟨x,hx⟩:∃ x,x=cellL rs i c:=⟨_,rfl⟩
      have HXc:=Lib.hid hx
      rw [← hx]
      have HK2:Hid (∀ k',k'=k→(w1.setCell ⟨w.heap.size+1+1,k',none⟩ (.string x)).heap[w.heap.size+1+1]?=some (.cells (keyV (stage rs i L z (k+1))) 213 (0,0))):=Lib.hid (fun k' hk'=>by
       subst hk'
       rw [heap_set _ HK1.out,HXc.out,← HGD.out]
       congr 1
       have hk3:k'=0∨k'=1∨k'=2:=by omega
       rcases hk3 with rfl | rfl | rfl <;> simp [keyV,stage])
      have HT2:Hid (∀ k',(w1.setCell ⟨w.heap.size+1+1,k',none⟩ (.string x)).heap[w.heap.size]?=some (TabO ho m hc ro rs.length rc)):=Lib.hid (fun k'=>by rw [Go.Deep.blk_setCell_other _ _ _ _ (by simp;omega)];exact HT1.out)
      have HE2:Hid (∀ k',(w1.setCell ⟨w.heap.size+1+1,k',none⟩ (.string x)).heap[w.heap.size+1]?=some (.cells (keyV (emptyT,emptyT,emptyT)) 213 (0,0))):=Lib.hid (fun k'=>by rw [Go.Deep.blk_setCell_other _ _ _ _ (by simp)];exact HE1.out)
      have HB2:Hid (∀ k',Below w.heap.size w (w1.setCell ⟨w.heap.size+1+1,k',none⟩ (.string x))):=Lib.hid (fun k'=>HB1.out.setCell (p:=⟨w.heap.size+1+1,k',none⟩) (by simp;omega) _)
      have hk3:k < 3:=by omega
      obtain ⟨y,ky⟩:∃ y,w1.cell? ⟨w.heap.size+1+1,k,none⟩=some (.string y):=by
       have hk3:k=0∨k=1∨k=2:=by omega
       rcases hk3 with h | h | h
       · rw [h];exact ⟨_,(Lib.cell_of_heap HK1.out 0).trans rfl⟩
       · rw [h];exact ⟨_,(Lib.cell_of_heap HK1.out 1).trans rfl⟩
       · rw [h];exact ⟨_,(Lib.cell_of_heap HK1.out 2).trans rfl⟩
      have kf0:w1.frozen? ⟨w.heap.size+1+1,k,none⟩=false:=frozen_free HK1.out k
      clear b1 hx bc0 bc1 cc1 HKr HTr HEr CT
      go_wp2_with fail
      go_roundw
      case rel=>exact ⟨k+1,by omega,by go_num,Lib.hid (HK2.out k rfl),Lib.hid (HT2.out k),Lib.hid (HE2.out k),Lib.hid (HB2.out k)⟩
      case measure=>simp [intOf];omega
    · have hke:k=L.length:=by have:=HL2.out;omega
      have E:stage rs i L z k=key3 rs cols i:=by rw [hke];exact HF.out
      rw [E] at HKr
      have k0:wr.cell? ⟨w.heap.size+1+1,0,none⟩=some (.string (key3 rs cols i).1):=(Lib.cell_of_heap HKr.out 0).trans rfl
      have k1:wr.cell? ⟨w.heap.size+1+1,1,none⟩=some (.string (key3 rs cols i).2.1):=(Lib.cell_of_heap HKr.out 1).trans rfl
      have k2:wr.cell? ⟨w.heap.size+1+1,2,none⟩=some (.string (key3 rs cols i).2.2):=(Lib.cell_of_heap HKr.out 2).trans rfl
      have e0:wr.cell? ⟨w.heap.size+1,0,none⟩=some (.string emptyT):=(Lib.cell_of_heap HEr.out 0).trans rfl
      have e1:wr.cell? ⟨w.heap.size+1,1,none⟩=some (.string emptyT):=(Lib.cell_of_heap HEr.out 1).trans rfl
      have e2:wr.cell? ⟨w.heap.size+1,2,none⟩=some (.string emptyT):=(Lib.cell_of_heap HEr.out 2).trans rfl
      have f0:=frozen_free HEr.out 0
      have f1:=frozen_free HEr.out 1
      have f2:=frozen_free HEr.out 2
      have HU:=Lib.hid (heap_set (i:=2) (.string (key3 rs cols i).2.2) (heap_set (i:=1) (.string (key3 rs cols i).2.1) (heap_set (i:=0) (.string (key3 rs cols i).1) HEr.out)))
      have HBU:=Lib.hid (((HBr.out.setCell (p:=⟨w.heap.size+1,0,none⟩) (by simp) (.string (key3 rs cols i).1)).setCell (p:=⟨w.heap.size+1,1,none⟩) (by simp) (.string (key3 rs cols i).2.1)).setCell (p:=⟨w.heap.size+1,2,none⟩) (by simp) (.string (key3 rs cols i).2.2))
      clear E HKr HTr HEr bc0 bc1
      go_wp2_with fail
      obtain ⟨U,hU⟩:∃ U,U=((wr.setCell ⟨w.heap.size+1,0,none⟩ (.string (key3 rs cols i).1)).setCell ⟨w.heap.size+1,1,none⟩ (.string (key3 rs cols i).2.1)).setCell ⟨w.heap.size+1,2,none⟩ (.string (key3 rs cols i).2.2):=⟨_,rfl⟩
      rw [← hU] at HU HBU ⊢
      have u0:U.cell? ⟨w.heap.size+1,0,none⟩=some (.string (key3 rs cols i).1):=(Lib.cell_of_heap HU.out 0).trans rfl
      have u1:U.cell? ⟨w.heap.size+1,1,none⟩=some (.string (key3 rs cols i).2.1):=(Lib.cell_of_heap HU.out 1).trans rfl
      have u2:U.cell? ⟨w.heap.size+1,2,none⟩=some (.string (key3 rs cols i).2.2):=(Lib.cell_of_heap HU.out 2).trans rfl
      refine bodyPost_ret (v:=.agg (keyV (key3 rs cols i))) (by simp [results,keyV,Tryz.results172,go_sem,u0,u1,u2]) rfl ?_
      exact ⟨rfl,HBU.out⟩
 · have HF:Hid (stage rs i cols emptyT cols.length=key3 rs cols i):=Lib.hid (stage_few rs i cols h3)
   have HIL:=HI
   have hL3:cols.length≤3:=by omega
   obtain ⟨L,hL⟩:∃ L,L=cols:=⟨_,rfl⟩
   obtain ⟨z,hz⟩:∃ z,z=emptyT:=⟨_,rfl⟩
   rw [← hL] at HIL hL3 h3 ⊢
   have HK:Hid (V.heap[w.heap.size+1+1]?=some (.cells (keyV (stage rs i L z 0)) 213 (0,0))):=Lib.hid (by rw [stage_start,hz];exact HK.out)
   have HF:Hid (stage rs i L z L.length=key3 rs cols i):=Lib.hid (by rw [hz,hL];exact HF.out)
   have HLc:=Lib.hid hL
   clear hz hL hR hI hp hw hpow hx hcl hcap
   go_enter Tryz.func172,Tryz.ntmps172
   go_wp2_with fail
   rw [← HV.out]
   have HI0:=HIL
   go_loopw [27] (fun j wr=>∃ (k:Nat),k≤L.length∧j=.int .i64 k∧Hid (wr.heap[w.heap.size+1+1]?=some (.cells (keyV (stage rs i L z k)) 213 (0,0)))∧Hid (wr.heap[w.heap.size]?=some (TabO ho m hc ro rs.length rc))∧Hid (wr.heap[w.heap.size+1]?=some (.cells (keyV (emptyT,emptyT,emptyT)) 213 (0,0)))∧Hid (Below w.heap.size w wr)) (fun j _=>L.length - (intOf j).toNat)
   case atStart=>exact ⟨0,Nat.zero_le _,rfl,HK,HT,HE,HBv⟩
   case round =>
    obtain ⟨k,hk,rfl,HKr,HTr,HEr,HBr⟩:=hrel
    have bc0:wr.cell? ⟨w.heap.size,0,none⟩=some (.slice ho m hc):=(Lib.cell_of_heap HTr.out 0).trans rfl
    have bc1:wr.cell? ⟨w.heap.size,1,none⟩=some (.slice ro rs.length rc):=(Lib.cell_of_heap HTr.out 1).trans rfl
    by_cases hlt:k < L.length
    · obtain ⟨c,hcol⟩:∃ c,L[k]?=some c:=⟨_,List.getElem?_eq_getElem hlt⟩
      have hgd:L.getD k 0=c:=by rw [List.getD_eq_getElem?_getD,hcol];rfl
      have HGD:=Lib.hid hgd
      rcases HIL.out.kept HBr.out with h0 | ⟨A,rfl,hA,hcell⟩
      · rw [h0] at hlt;simp at hlt
      have cc1:=hcell k c hcol
      have CT:=Lib.hid (tcell_any ho m hc ro rc rs (i:Int) c wr hn2 (fun r hr=>⟨(HX.out r hr).1,fun c hc=>Nat.le_trans ((HX.out r hr).2 c hc) (by omega)⟩) (HR.out.kept HBr.out))
      clear hcell hcol hgd
      go_wp2_with fail
      refine CT.out.mono ?_
      rintro e w1 ⟨rfl,b1⟩
      have HK1:=Lib.hid ((b1.block _ (lt_of_heap HKr.out)).trans HKr.out)
      have HT1:=Lib.hid ((b1.block _ (lt_of_heap HTr.out)).trans HTr.out)
      have HE1:=Lib.hid ((b1.block _ (lt_of_heap HEr.out)).trans HEr.out)
      have HB1:=Lib.hid (below_up HBr.out b1)
      obtain ⟨x,hx⟩:∃ x,x=cellL rs i c:=⟨_,rfl⟩
      have HXc:=Lib.hid hx
      rw [← hx]
      have HK2:Hid (∀ k',k'=k→(w1.setCell ⟨w.heap.size+1+1,k',none⟩ (.string x)).heap[w.heap.size+1+1]?=some (.cells (keyV (stage rs i L z (k+1))) 213 (0,0))):=Lib.hid (fun k' hk'=>by
       subst hk'
       rw [heap_set _ HK1.out,HXc.out,← HGD.out]
       congr 1
       have hk3:k'=0∨k'=1∨k'=2:=by omega
       rcases hk3 with rfl | rfl | rfl <;> simp [keyV,stage])
      have HT2:Hid (∀ k',(w1.setCell ⟨w.heap.size+1+1,k',none⟩ (.string x)).heap[w.heap.size]?=some (TabO ho m hc ro rs.length rc)):=Lib.hid (fun k'=>by rw [Go.Deep.blk_setCell_other _ _ _ _ (by simp;omega)];exact HT1.out)
      have HE2:Hid (∀ k',(w1.setCell ⟨w.heap.size+1+1,k',none⟩ (.string x)).heap[w.heap.size+1]?=some (.cells (keyV (emptyT,emptyT,emptyT)) 213 (0,0))):=Lib.hid (fun k'=>by rw [Go.Deep.blk_setCell_other _ _ _ _ (by simp)];exact HE1.out)
      have HB2:Hid (∀ k',Below w.heap.size w (w1.setCell ⟨w.heap.size+1+1,k',none⟩ (.string x))):=Lib.hid (fun k'=>HB1.out.setCell (p:=⟨w.heap.size+1+1,k',none⟩) (by simp;omega) _)
      have hk3:k < 3:=by omega
      obtain ⟨y,ky⟩:∃ y,w1.cell? ⟨w.heap.size+1+1,k,none⟩=some (.string y):=by
       have hk3:k=0∨k=1∨k=2:=by omega
       rcases hk3 with h | h | h
       · rw [h];exact ⟨_,(Lib.cell_of_heap HK1.out 0).trans rfl⟩
       · rw [h];exact ⟨_,(Lib.cell_of_heap HK1.out 1).trans rfl⟩
       · rw [h];exact ⟨_,(Lib.cell_of_heap HK1.out 2).trans rfl⟩
      have kf0:w1.frozen? ⟨w.heap.size+1+1,k,none⟩=false:=frozen_free HK1.out k
      clear b1 hx bc0 bc1 cc1 HKr HTr HEr CT
      go_wp2_with fail
      go_roundw
      case rel=>exact ⟨k+1,by omega,by go_num,Lib.hid (HK2.out k rfl),Lib.hid (HT2.out k),Lib.hid (HE2.out k),Lib.hid (HB2.out k)⟩
      case measure=>simp [intOf];omega
    · have hke:k=L.length:=by omega
      have E:stage rs i L z k=key3 rs cols i:=by rw [hke];exact HF.out
      rw [E] at HKr
      have k0:wr.cell? ⟨w.heap.size+1+1,0,none⟩=some (.string (key3 rs cols i).1):=(Lib.cell_of_heap HKr.out 0).trans rfl
      have k1:wr.cell? ⟨w.heap.size+1+1,1,none⟩=some (.string (key3 rs cols i).2.1):=(Lib.cell_of_heap HKr.out 1).trans rfl
      have k2:wr.cell? ⟨w.heap.size+1+1,2,none⟩=some (.string (key3 rs cols i).2.2):=(Lib.cell_of_heap HKr.out 2).trans rfl
      have e0:wr.cell? ⟨w.heap.size+1,0,none⟩=some (.string emptyT):=(Lib.cell_of_heap HEr.out 0).trans rfl
      have e1:wr.cell? ⟨w.heap.size+1,1,none⟩=some (.string emptyT):=(Lib.cell_of_heap HEr.out 1).trans rfl
      have e2:wr.cell? ⟨w.heap.size+1,2,none⟩=some (.string emptyT):=(Lib.cell_of_heap HEr.out 2).trans rfl
      have f0:=frozen_free HEr.out 0
      have f1:=frozen_free HEr.out 1
      have f2:=frozen_free HEr.out 2
      have HU:=Lib.hid (heap_set (i:=2) (.string (key3 rs cols i).2.2) (heap_set (i:=1) (.string (key3 rs cols i).2.1) (heap_set (i:=0) (.string (key3 rs cols i).1) HEr.out)))
      have HBU:=Lib.hid (((HBr.out.setCell (p:=⟨w.heap.size+1,0,none⟩) (by simp) (.string (key3 rs cols i).1)).setCell (p:=⟨w.heap.size+1,1,none⟩) (by simp) (.string (key3 rs cols i).2.1)).setCell (p:=⟨w.heap.size+1,2,none⟩) (by simp) (.string (key3 rs cols i).2.2))
      clear E HKr HTr HEr bc0 bc1
      go_wp2_with fail
      obtain ⟨U,hU⟩:∃ U,U=((wr.setCell ⟨w.heap.size+1,0,none⟩ (.string (key3 rs cols i).1)).setCell ⟨w.heap.size+1,1,none⟩ (.string (key3 rs cols i).2.1)).setCell ⟨w.heap.size+1,2,none⟩ (.string (key3 rs cols i).2.2):=⟨_,rfl⟩
      rw [← hU] at HU HBU ⊢
      have u0:U.cell? ⟨w.heap.size+1,0,none⟩=some (.string (key3 rs cols i).1):=(Lib.cell_of_heap HU.out 0).trans rfl
      have u1:U.cell? ⟨w.heap.size+1,1,none⟩=some (.string (key3 rs cols i).2.1):=(Lib.cell_of_heap HU.out 1).trans rfl
      have u2:U.cell? ⟨w.heap.size+1,2,none⟩=some (.string (key3 rs cols i).2.2):=(Lib.cell_of_heap HU.out 2).trans rfl
      refine bodyPost_ret (v:=.agg (keyV (key3 rs cols i))) (by simp [results,keyV,Tryz.results172,go_sem,u0,u1,u2]) rfl ?_
      exact ⟨by rw [HLc.out],HBU.out⟩
end
end Go.Proofs.YtdenehnneloegaaGreatDoor
