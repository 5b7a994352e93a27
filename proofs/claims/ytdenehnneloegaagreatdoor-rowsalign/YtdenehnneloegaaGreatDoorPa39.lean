/-
  Texts of these rows' proofs, laid one behind the other: RwWorks, RwLen, RwWKeyed, RwKeyOk, RwTogether.
  Conditions: those of each theorem.
-/
import Derived.WalkKit
import Derived.WalkMore
import Derived.IntWalk
import Derived.Lib.Hide
import Derived.Test.YtdenehnneloegaaGreatDoorProg
import Derived.Test.YtdenehnneloegaaGreatDoorPa3
import Derived.Test.YtdenehnneloegaaGreatDoorPa38
import Derived.Test.YtdenehnneloegaaGreatDoorPa6
import Derived.Test.YtdenehnneloegaaGreatDoorPa4
import Derived.Deep.RegionHeld3
import Derived.Deep.OwnRows
import Derived.WalkArith
import Derived.OwnWalk
import Derived.Maps.OwnSet
import Derived.Test.YtdenehnneloegaaGreatDoorPa26
import Derived.Test.YtdenehnneloegaaGreatDoorPa19
import Derived.Test.YtdenehnneloegaaGreatDoorPa17
import Derived.Test.YtdenehnneloegaaGreatDoorPa33
import Derived.Deep.RegionWith
import Derived.StillTailTactics
import Derived.Lib.QuietBelow
import Derived.Test.YtdenehnneloegaaGreatDoorPa5
namespace Go.Proofs.YtdenehnneloegaaGreatDoor
set_option linter.unusedVariables false
set_option maxRecDepth 100000
set_option maxHeartbeats 8000000
section
open Go.RowKit Go.Shelf
theorem xA_in {W:World} {ho ro:Option Addr} (h1:StrRow W ho xH) (h2:RowsAt W ro xA) (h3:ho ≠ none) (h4:ro ≠ none):TabR W ho 2 xH ro 2 xA:=⟨⟨by decide,by decide,by decide,by decide,h1,h2,by decide,by decide,fun e=>absurd e h3,fun e=>absurd e h4⟩,by decide,by decide⟩
theorem xB_in {W:World} {ho ro:Option Addr} (h1:StrRow W ho xH) (h2:RowsAt W ro xB) (h3:ho ≠ none) (h4:ro ≠ none):TabR W ho 2 xH ro 2 xB:=⟨⟨by decide,by decide,by decide,by decide,h1,h2,by decide,by decide,fun e=>absurd e h3,fun e=>absurd e h4⟩,by decide,by decide⟩
theorem names_none (W:World):NamesIn W none 0 []:=⟨by decide,by simp,.inl rfl,Nat.le_refl _,fun _=>rfl⟩
theorem pairs_none (W:World):PairsIn W none 0 []:=⟨by decide,fun p h=>by simp at h,.inl rfl,Nat.le_refl _,fun _=>rfl⟩
theorem names_one (W:World):NamesIn (W.alloc (.cells #[.string xK] 9)) (some ⟨W.heap.size,0,none⟩) 1 [xK]:=⟨by decide,by simp;decide,new_row W [xK] 9,Nat.le_refl _,fun e=>by cases e⟩
theorem pairs_lit (W:World) (l:PL) (h:l.length≤20) (ho:okP l):PairsIn (W.alloc (.cells (cellsP l).toArray 45)) (some ⟨W.heap.size,0,none⟩) l.length l:=⟨h,ho,lit_pairsC W l 45,Nat.le_refl _,fun e=>by cases e⟩
theorem okP_both:okP xBoth:=fun p h=>by simp at h;rcases h with rfl | rfl <;> decide
theorem okP_two:okP [(2,0)]:=fun p h=>by simp at h;subst h;decide
theorem rwworks_any (HKe:ByKeyOK) (HLo:ByLookOK) (HRo:RowsOK) (w:World) (hpow:Pow w):Calls Tryz.prog 9 #[] w fun e w'=>e=.returned (.bool true)∧Below w.heap.size w w':=by
 have HK:=Lib.hid HKe
 have HL:=Lib.hid HLo
 have HR:=Lib.hid HRo
 have HPw:=Lib.hid hpow
 clear HKe HLo HRo hpow
 go_enter Tryz.func9,Tryz.ntmps9
 go_upto_region 2 with fail
 obtain ⟨V,hV⟩:∃ V,V=(((((w.alloc (litRowC xK xV)).alloc (litRowC ⟨#[49]⟩ ⟨#[120]⟩)).alloc (litRowC ⟨#[50]⟩ ⟨#[121]⟩)).alloc (.cells #[.slice (some ⟨w.heap.size+1,0,none⟩) 2 2,.slice (some ⟨w.heap.size+1+1,0,none⟩) 2 2] 22)).alloc (.cells #[.slice (some ⟨w.heap.size,0,none⟩) 2 2,.slice (some ⟨w.heap.size+1+1+1,0,none⟩) 2 2] 25)):=⟨_,rfl⟩
 rw [← hV]
 obtain ⟨hE,hB⟩:=lit_tC w V _ _ _ _ _ _ hV
 obtain ⟨A,hAk⟩:∃ A,A=w.heap.size+1+1+1+1:=⟨_,rfl⟩
 rw [← hAk] at hE ⊢
 have HEa:=Lib.hid hE
 have HB:=Lib.hid hB
 clear hV hE hB hAk
 go_upto_region 3 with fail
 obtain ⟨U,hU⟩:∃ U,U=(((((V.alloc (litRowC xK xV)).alloc (litRowC ⟨#[50]⟩ ⟨#[122]⟩)).alloc (litRowC ⟨#[49]⟩ ⟨#[120]⟩)).alloc (.cells #[.slice (some ⟨V.heap.size+1,0,none⟩) 2 2,.slice (some ⟨V.heap.size+1+1,0,none⟩) 2 2] 22)).alloc (.cells #[.slice (some ⟨V.heap.size,0,none⟩) 2 2,.slice (some ⟨V.heap.size+1+1+1,0,none⟩) 2 2] 25)):=⟨_,rfl⟩
 rw [← hU]
 obtain ⟨hE,hB⟩:=lit_tC V U _ _ _ _ _ _ hU
 obtain ⟨B,hBk⟩:∃ B,B=V.heap.size+1+1+1+1:=⟨_,rfl⟩
 rw [← hBk] at hE ⊢
 have HEb:=Lib.hid hE
 have HEa:=Lib.hid (HEa.out.kept hB)
 have HB:=Lib.hid (below_up HB.out hB)
 clear hU hE hB hBk
 go_upto_region 4 with fail
 obtain ⟨Y,HY⟩:∃ Y,Hid (Y=U.alloc (.cells #[.int .i64 0,.int .i64 0,.int .i64 1,.int .i64 1] 45)):=⟨_,Lib.hid rfl⟩
 rw [show U.alloc (.cells #[.int .i64 0,.int .i64 0,.int .i64 1,.int .i64 1] 45)=Y from HY.out.symm]
 have hbY:Below U.heap.size U Y:=by rw [HY.out];exact one_below _ _
 have hP0:PairsIn Y (some ⟨U.heap.size,0,none⟩) 2 xBoth:=by rw [HY.out];exact pairs_lit U xBoth (by decide) okP_both
 obtain ⟨P,HP⟩:∃ P,Hid (P=(some ⟨U.heap.size,0,none⟩:Option Addr)):=⟨_,Lib.hid rfl⟩
 rw [← HP.out] at hP0 ⊢
 obtain ⟨ho,ro,ha0,hr1,hr2,hr3,hr4⟩:=(HEa.out.kept hbY).lies
 obtain ⟨bo,so,hb0,hs1,hs2,hs3,hs4⟩:=(HEb.out.kept hbY).lies
 have HIa:=Lib.hid (fun X (h:Below Y.heap.size Y X)=>(xA_in hr1 hr2 hr3 hr4).kept h)
 have HIb:=Lib.hid (fun X (h:Below Y.heap.size Y X)=>(xB_in hs1 hs2 hs3 hs4).kept h)
 have HIp:=Lib.hid (fun X (h:Below Y.heap.size Y X)=>hP0.kept h)
 have hpY:=(HPw.out.kept HB.out).kept hbY
 have HPo:=Lib.hid (fun X (h:Below Y.heap.size Y X)=>hpY.kept h)
 have HCell:Hid (∀ X,Below Y.heap.size Y X→(X.cell? ⟨A,0,none⟩=some (.slice ho 2 2)∧X.cell? ⟨A,1,none⟩=some (.slice ro 2 2))∧X.cell? ⟨B,0,none⟩=some (.slice bo 2 2)∧X.cell? ⟨B,1,none⟩=some (.slice so 2 2)):=Lib.hid (fun X h=>⟨tabs ((h.block _ (lt_of_heap ha0)).trans ha0),tabs ((h.block _ (lt_of_heap hb0)).trans hb0)⟩)
 have HB:=Lib.hid (below_up HB.out hbY)
 obtain ⟨⟨k0,k1⟩,k2,k3⟩:=HCell.out Y (Below.refl _ _)
 have g1:=one_below Y (.cells #[.string xK] 9)
 have G1:=Lib.hid g1
 have C1:Hid (Calls Tryz.prog 11 #[.agg #[.slice ho 2 2,.slice ro 2 2],.agg #[.slice bo 2 2,.slice so 2 2],.slice P 2 2,.slice (some ⟨Y.heap.size,0,none⟩) 1 1] (Y.alloc (.cells #[.string xK] 9)) (AlignOut 0 [(1,0),(0,1)] (Y.alloc (.cells #[.string xK] 9)))):=Lib.hid (by
  have:=HR.out ho 2 xH ro 2 xA bo 2 xH so 2 xB P 2 xBoth (some ⟨Y.heap.size,0,none⟩) 1 [xK] _ (HIa.out _ g1) (HIb.out _ g1) (HIp.out _ g1) (names_one Y) (HPo.out _ g1)
  rw [rex_e1,rex_l1] at this;exact this)
 clear ha0 hr1 hr2 hr3 hr4 hb0 hs1 hs2 hs3 hs4 HEa HEb hP0 hpY hbY g1 HPw
 go_wp2_with fail
 refine C1.out.mono ?_;rintro e W1 ⟨lo,lc,rfl,p1,-,-,b1⟩
 have B1:=Lib.hid (below_up G1.out b1)
 have P1:=Lib.hid p1
 have C2:Hid (Calls Tryz.prog 11 #[.agg #[.slice ho 2 2,.slice ro 2 2],.agg #[.slice bo 2 2,.slice so 2 2],.slice P 2 2,.slice none 0 0] W1 (AlignOut 0 [(0,1)] W1)):=Lib.hid (by
  have:=HR.out ho 2 xH ro 2 xA bo 2 xH so 2 xB P 2 xBoth none 0 [] _ (HIa.out _ B1.out) (HIb.out _ B1.out) (HIp.out _ B1.out) (names_none W1) (HPo.out _ B1.out)
  rw [rex_e1,rex_l2] at this;exact this)
 clear k0 k1 k2 k3 C1 b1 p1 G1
 obtain ⟨⟨k0,k1⟩,k2,k3⟩:=HCell.out W1 B1.out
 go_wp2_with fail
 refine C2.out.mono ?_;rintro e W2 ⟨mo,mc,rfl,p2,-,-,b2⟩
 have P1:=Lib.hid (P1.out.kept b2)
 have P2:=Lib.hid p2
 have B2:=Lib.hid (below_up B1.out b2)
 have g1:=one_below W2 (.cells #[.int .i64 2,.int .i64 0] 45)
 have g2:=below_up B2.out g1
 have G2:=Lib.hid g1
 have G3:=Lib.hid g2
 have C3:Hid (Calls Tryz.prog 11 #[.agg #[.slice ho 2 2,.slice ro 2 2],.agg #[.slice bo 2 2,.slice so 2 2],.slice (some ⟨W2.heap.size,0,none⟩) 1 1,.slice none 0 0] (W2.alloc (.cells #[.int .i64 2,.int .i64 0] 45)) (AlignOut 11 [] (W2.alloc (.cells #[.int .i64 2,.int .i64 0] 45)))):=Lib.hid (by
  have:=HR.out ho 2 xH ro 2 xA bo 2 xH so 2 xB (some ⟨W2.heap.size,0,none⟩) 1 [(2,0)] none 0 [] _ (HIa.out _ g2) (HIb.out _ g2) (pairs_lit W2 [(2,0)] (by decide) okP_two) (names_none _) (HPo.out _ g2)
  rw [rex_e2,rex_l3] at this;exact this)
 clear k0 k1 k2 k3 C2 b2 p2 B1 g1 g2
 obtain ⟨⟨k0,k1⟩,k2,k3⟩:=HCell.out W2 B2.out
 go_wp2_with fail
 refine C3.out.mono ?_;rintro e W3 ⟨xo,xc,rfl,-,-,-,b3⟩
 have B3:=Lib.hid (below_up G3.out b3)
 have h3:=below_up G2.out b3
 have P1:=Lib.hid (P1.out.kept h3)
 have P2:=Lib.hid (P2.out.kept h3)
 have g1:=one_below W3 (.cells #[.int .i64 1,.int .i64 0,.int .i64 0,.int .i64 1] 45)
 have G4:=Lib.hid g1
 have C4:Hid (Calls Tryz.prog 13 #[.slice lo 2 lc,.slice (some ⟨W3.heap.size,0,none⟩) 2 2] (W3.alloc (.cells #[.int .i64 1,.int .i64 0,.int .i64 0,.int .i64 1] 45)) fun e w'=>e=.returned (.bool true)∧Below (W3.alloc (.cells #[.int .i64 1,.int .i64 0,.int .i64 0,.int .i64 1] 45)).heap.size (W3.alloc (.cells #[.int .i64 1,.int .i64 0,.int .i64 0,.int .i64 1] 45)) w'):=Lib.hid (psameR_any lo (some ⟨W3.heap.size,0,none⟩) lc 2 [(1,0),(0,1)] [(1,0),(0,1)] _ (by decide) (P1.out.kept g1) (lit_pairsC W3 [(1,0),(0,1)] 45))
 clear k0 k1 k2 k3 C3 b3 G2 G3 h3 g1 B2 P1
 obtain ⟨⟨k0,k1⟩,k2,k3⟩:=HCell.out W3 B3.out
 go_wp2_with fail
 refine C4.out.mono ?_;rintro e W4 ⟨rfl,b4⟩
 have h4:=below_up G4.out b4
 have B4:=Lib.hid (below_up B3.out h4)
 have P2:=Lib.hid (P2.out.kept h4)
 have g1:=one_below W4 (.cells #[.int .i64 0,.int .i64 1] 45)
 have G5:=Lib.hid g1
 have C5:Hid (Calls Tryz.prog 13 #[.slice mo 1 mc,.slice (some ⟨W4.heap.size,0,none⟩) 1 1] (W4.alloc (.cells #[.int .i64 0,.int .i64 1] 45)) fun e w'=>e=.returned (.bool true)∧Below (W4.alloc (.cells #[.int .i64 0,.int .i64 1] 45)).heap.size (W4.alloc (.cells #[.int .i64 0,.int .i64 1] 45)) w'):=Lib.hid (psameR_any mo (some ⟨W4.heap.size,0,none⟩) mc 1 [(0,1)] [(0,1)] _ (by decide) (P2.out.kept g1) (lit_pairsC W4 [(0,1)] 45))
 clear k0 k1 k2 k3 C4 b4 G4 h4 g1 B3 P2
 obtain ⟨⟨k0,k1⟩,k2,k3⟩:=HCell.out W4 B4.out
 go_wp2_with fail
 refine C5.out.mono ?_;rintro e W5 ⟨rfl,b5⟩
 have B5:=Lib.hid (below_up B4.out (below_up G5.out b5))
 have g1:=one_below W5 (.cells #[.string xK] 9)
 have g2:=below_up B5.out g1
 have G6:=Lib.hid g2
 have C6:Hid (Calls Tryz.prog 14 #[.agg #[.slice ho 2 2,.slice ro 2 2],.agg #[.slice bo 2 2,.slice so 2 2],.slice (some ⟨W5.heap.size,0,none⟩) 1 1] (W5.alloc (.cells #[.string xK] 9)) (PairsOut [(1,0),(0,1)] (W5.alloc (.cells #[.string xK] 9)))):=Lib.hid (by
  have:=HK.out ho 2 xH ro 2 xA bo 2 xH so 2 xB (some ⟨W5.heap.size,0,none⟩) 1 [xK] _ (HIa.out _ g2) (HIb.out _ g2) (names_one W5) (HPo.out _ g2)
  rw [rex_useK,rex_key] at this;exact this)
 have C7:Hid (∀ X,Below Y.heap.size Y X→Calls Tryz.prog 16 #[.agg #[.slice ho 2 2,.slice ro 2 2],.agg #[.slice bo 2 2,.slice so 2 2],.slice P 2 2] X (PairsOut [(0,1)] X)):=Lib.hid (fun X h=>by
  have:=HL.out ho 2 xH ro 2 xA bo 2 xH so 2 xB P 2 xBoth X (HIa.out _ h) (HIb.out _ h) (HIp.out _ h) (HPo.out _ h)
  rw [rex_look] at this;exact this)
 have C8:Hid (∀ X,Below Y.heap.size Y X→Calls Tryz.prog 16 #[.agg #[.slice ho 2 2,.slice ro 2 2],.agg #[.slice bo 2 2,.slice so 2 2],.slice none 0 0] X (PairsOut [] X)):=Lib.hid (fun X h=>by
  have:=HL.out ho 2 xH ro 2 xA bo 2 xH so 2 xB none 0 [] X (HIa.out _ h) (HIb.out _ h) (pairs_none X) (HPo.out _ h)
  rw [rex_none] at this;exact this)
 clear k0 k1 k2 k3 C5 b5 G5 g1 g2 B4 HIa HIb HIp HPo HK HL HR
 obtain ⟨⟨k0,k1⟩,k2,k3⟩:=HCell.out W5 B5.out
 go_wp2_with fail
 refine C6.out.mono ?_;rintro e W6 ⟨o6,c6,rfl,-,-,-,b6⟩
 have B6:=Lib.hid (below_up G6.out b6)
 have D7:=Lib.hid (C7.out W6 B6.out)
 clear k0 k1 k2 k3 C6 C7 b6 G6
 obtain ⟨⟨k0,k1⟩,k2,k3⟩:=HCell.out W6 B6.out
 go_wp2_with fail
 refine D7.out.mono ?_;rintro e W7 ⟨o7,c7,rfl,-,-,-,b7⟩
 have B7:=Lib.hid (below_up B6.out b7)
 have D8:=Lib.hid (C8.out W7 B7.out)
 clear k0 k1 k2 k3 D7 C8 b7
 obtain ⟨⟨k0,k1⟩,k2,k3⟩:=HCell.out W7 B7.out
 go_wp2_with fail
 refine D8.out.mono ?_;rintro e W8 ⟨o8,c8,rfl,-,-,-,b8⟩
 have B8:=Lib.hid (below_up B7.out b8)
 clear k0 k1 k2 k3 D8 b8
 go_wp2_with fail
 go_ret
 exact ⟨rfl,below_up HB.out B8.out⟩
end
section
open Go.RowKit Go.Shelf
theorem pairs_len {l:PL} {na nb:Nat} (hi:∀ p ∈ l,∃ i k:Nat,p=((i:Int),(k:Int))∧i < na∧k < nb) (hf:(l.map Prod.fst).Nodup):l.length≤na:=by
 have h:=sub_len (l.map Prod.fst) ((List.range na).map fun n:Nat=>(n:Int)) hf (fun x hx=>by
  obtain ⟨p,hp,rfl⟩:=List.mem_map.1 hx
  obtain ⟨i,k,rfl,h1,h2⟩:=hi p hp
  exact List.mem_map.2 ⟨i,List.mem_range.2 h1,rfl⟩)
 simpa using h
theorem byKeyU_len {u:Bool} {ha:List ByteArray} {ra:List (List ByteArray)} {hb:List ByteArray} {rb:List (List ByteArray)} {names:List ByteArray} (hu:u=true→UseOf ha ra hb rb names):(byKeyU u ha ra hb rb names).length≤ra.length:=by
 unfold byKeyU
 split
 · rename_i e
   refine pairs_len (nb:=rb.length) (fun p hp=>?_) (byKey_fst (hu e).ub)
   obtain ⟨i,k,e2,h3,h4,-⟩:=byKey_in hp
   exact ⟨i,k,e2,h3,h4⟩
 · simp
theorem byLookU_len (ha:List ByteArray) (ra:List (List ByteArray)) (hb:List ByteArray) (rb:List (List ByteArray)) (cols:PL):(byLookU ha ra hb rb cols).length≤ra.length:=by
 unfold byLookU
 split
 · simp
 · exact pairs_len (nb:=rb.length) (fun p hp=>byLook_in hp) (byLook_fst _ _ _)
theorem rowsL_len {u:Bool} {ha:List ByteArray} {ra:List (List ByteArray)} {hb:List ByteArray} {rb:List (List ByteArray)} {cols:PL} {names:List ByteArray} (hu:u=true→UseOf ha ra hb rb names):(rowsL u ha ra hb rb cols names).length≤ra.length:=by
 unfold rowsL
 split
 · simp
 · split
   · exact byKeyU_len hu
   · exact byLookU_len ha ra hb rb cols
theorem pairsIn_of {w V:World} {lo:Option Addr} {lc:Nat} {l:PL} (h:PairsArg w lo lc l) (hl:l.length≤20) (hk:Below w.heap.size w V):PairsIn V lo lc l:=⟨hl,h.ok,h.pairs.kept hk,h.cap,h.nil⟩
theorem namesIn_of {w V:World} {no:Option Addr} {nc:Nat} {names:List ByteArray} (h:StrArg w no nc names) (hl:names.length≤8) (hk:Below w.heap.size w V):NamesIn V no nc names:=⟨hl,h.size,h.row.kept hk,h.cap,h.nil⟩
end
section
open Go.RowKit Go.Shelf
def UsableOK:Prop:=∀ (lo:Option Addr) (lc:Nat) (ho:Option Addr) (hc:Nat) (ha:List ByteArray) (ro:Option Addr) (rc:Nat) (ra:List (List ByteArray)) (bo:Option Addr) (bc:Nat) (hb:List ByteArray) (so:Option Addr) (sc:Nat) (rb:List (List ByteArray)) (no:Option Addr) (nc:Nat) (names:List ByteArray) (w:World),
 TabR w ho hc ha ro rc ra→TabR w bo bc hb so sc rb→NamesIn w no nc names→Pow w→TabsAt w lo [(ha,ra),(hb,rb)] →
  Calls Tryz.prog 19 #[.slice lo 2 lc,.slice no names.length nc] w fun e w'=>e=.returned (.bool (useAB ha ra hb rb names))∧Below w.heap.size w w'
def PlacesOK:Prop:=∀ (ho:Option Addr) (hc:Nat) (hd:List ByteArray) (ro:Option Addr) (rc:Nat) (rs:List (List ByteArray)) (no:Option Addr) (nc:Nat) (names:List ByteArray) (w:World),
 TabR w ho hc hd ro rc rs→NamesIn w no nc names→inAll hd names=true →
  Calls Tryz.prog 22 #[.agg #[.slice ho hd.length hc,.slice ro rs.length rc],.slice no names.length nc] w fun e w'=>∃ (ao:Option Addr) (cap:Nat),e=.returned (.tuple #[.slice ao names.length cap,.bool true])∧IntsAt w' ao (names.map (findL hd))∧Below w.heap.size w w'
end
section
open Go.RowKit Go.Shelf
theorem tabIn_cells {w:World} {ho:Option Addr} {hc:Nat} {hd:List ByteArray} {ro:Option Addr} {rc:Nat} {rs:List (List ByteArray)} (h:TabIn w ho hc hd ro rc rs):∀ r ∈ rs,∀ c ∈ r,c.size≤100000:=fun r hr c hcr =>
 h.size c (by unfold allT;exact List.mem_append_right _ (List.mem_flatten.2 ⟨r,hr,hcr⟩))
theorem tabIn_rows {w:World} {ho:Option Addr} {hc:Nat} {hd:List ByteArray} {ro:Option Addr} {rc:Nat} {rs:List (List ByteArray)} (h:TabIn w ho hc hd ro rc rs):∀ r ∈ rs,r.length≤1099511627776∧∀ c ∈ r,c.size≤281474976710656:=fun r hr =>
 ⟨by have:=h.el r hr;omega,fun c hcr=>by have:=tabIn_cells h r hr c hcr;omega⟩
theorem tabIn_head {w:World} {ho:Option Addr} {hc:Nat} {hd:List ByteArray} {ro:Option Addr} {rc:Nat} {rs:List (List ByteArray)} (h:TabIn w ho hc hd ro rc rs):∀ c ∈ hd,c.size≤maxLen:=fun c hc=>by
 have:=h.size c (by unfold allT;exact List.mem_append_left _ hc)
 unfold maxLen;omega
theorem usable_ok:UsableOK:=by
 intro lo lc ho hc ha ro rc ra bo bc hb so sc rb no nc names w hA hB hN hpow hT
 have hl:=hN.len
 refine usable_any lo lc [(ha,ra),(hb,rb)] no nc names w (by simp) (by omega) (fun c hc=>by have:=hN.size c hc;unfold maxLen;omega) (fun t ht=>?_) (fun t ht=>?_) hT hN.row hpow
 · simp only [List.mem_cons,List.not_mem_nil,or_false] at ht
   rcases ht with rfl | rfl
   · exact ⟨by have:=hA.h12;dsimp only;omega,by have:=hA.r25;dsimp only;omega,fun r hr=>⟨by have:=hA.tab.el r hr;omega,fun c hcr=>by have:=tabIn_cells hA.tab r hr c hcr;omega⟩⟩
   · exact ⟨by have:=hB.h12;dsimp only;omega,by have:=hB.r25;dsimp only;omega,fun r hr=>⟨by have:=hB.tab.el r hr;omega,fun c hcr=>by have:=tabIn_cells hB.tab r hr c hcr;omega⟩⟩
 · simp only [List.mem_cons,List.not_mem_nil,or_false] at ht
   rcases ht with rfl | rfl
   · exact ⟨by have:=hA.h12;dsimp only;omega,tabIn_head hA.tab⟩
   · exact ⟨by have:=hB.h12;dsimp only;omega,tabIn_head hB.tab⟩
theorem places_ok:PlacesOK:=by
 intro ho hc hd ro rc rs no nc names w hT hN hin
 have hl:=hN.len
 refine (places_any ho hc hd ro rs.length rc no nc names w (by have:=hT.h12;omega) (tabIn_head hT.tab) (by omega) (fun c hc=>by have:=hN.size c hc;unfold maxLen;omega) hT.tab.row hN.row).mono ?_
 rintro e w' (⟨-,ao,cap,h1,h2,-,h3⟩ | ⟨h0,-⟩)
 · exact ⟨ao,cap,h1,h2,h3⟩
 · rw [hin] at h0;cases h0
theorem found_byKey {ra rb:List (List ByteArray)} {ps qs:List Int} {k:Nat} {a:Int} {ok:Bool} (hu:apartRows ra ps=true) (h:FoundAt (fun x=>keyC (rowKey ra ps x) (keyAt rb qs k)) (buildL ra ps) a ok) :
 (ok=true∧byKeyO ra rb ps qs k=some (a,(k:Int)))∨(ok=false∧byKeyO ra rb ps qs k=none):=by
 rcases found_first ra ps (keyAt rb qs k) a ok h with ⟨i,rfl,rfl,hi,hk,-⟩ | ⟨-,rfl,hn⟩
 · exact .inl ⟨rfl,byKeyO_is hu hi ((key_cmp.zero _ _).1 hk)⟩
 · refine .inr ⟨rfl,?_⟩
   unfold byKeyO
   rw [Option.map_eq_none_iff,List.find?_eq_none]
   intro i hi
   have:=hn i (List.mem_range.1 hi)
   simp only [decide_eq_true_eq]
   exact fun e=>this ((key_cmp.zero _ _).2 e)
theorem find_wf {hd names:List ByteArray} (h:∀ s ∈ names,0≤findL hd s) (hl:hd.length≤12):∀ c ∈ names.map (findL hd),(Lit.int .i64 c).wf=true:=fun c hc=>by
 obtain ⟨s,hs,rfl⟩:=List.mem_map.1 hc
 obtain ⟨k,e,hk⟩:=find_there hd s (h s hs)
 have:=(List.getElem?_eq_some_iff.1 hk).1
 rw [e]
 exact Go.WalkArith.wf_i64 (by omega)
theorem byKeyK_le (ra rb:List (List ByteArray)) (ps qs:List Int) (n:Nat):(byKeyK ra rb ps qs n).length≤n:=by
 unfold byKeyK
 have:=List.length_filterMap_le (byKeyO ra rb ps qs) (List.range n)
 rw [List.length_range] at this;exact this
end
section
open Go.RowKit Go.Shelf Go.Deep
def isP (x:Int × Int) (p:Int × Int):Bool:=decide (p=x)
theorem any_isP (x:Int × Int) (l:PL):l.any (isP x)=decide (x ∈ l):=by
 rw [Bool.eq_iff_iff,List.any_eq_true,decide_eq_true_iff]
 unfold isP
 constructor
 · rintro ⟨p,hp,h⟩
   rw [decide_eq_true_iff] at h
   subst h;exact hp
 · exact fun h=>⟨x,h,by simp⟩
theorem pindex_any (ao:Option Addr) (cap:Nat) (xs:PL) (x1 x2:Int) (w:World) (hn:xs.length≤1099511627776) (hR:PairsAt w ao xs) :
 Calls Tryz.prog 181 #[.slice ao xs.length cap,.agg #[.int .i64 x1,.int .i64 x2]] w fun e w'=>e=.returned (.int .i64 (firstAt (isP (x1,x2)) xs))∧Below w.heap.size w w':=by
 obtain ⟨W,HW⟩:∃ W,Hid (W=w.alloc (.cells #[.int .i64 x1,.int .i64 x2] 45)):=⟨_,Lib.hid rfl⟩
 have HNew:Hid (W.heap[w.heap.size]?=some (.cells #[.int .i64 x1,.int .i64 x2] 45 (0,0))):=Lib.hid (by rw [HW.out];exact World.alloc_heap_new _ _)
 have HB0:Hid (Below w.heap.size w W):=Lib.hid (by rw [HW.out];exact one_below _ _)
 have HRo:=Lib.hid (hR.kept HB0.out)
 have HF:=Lib.hid (firstAt_none (isP (x1,x2)) xs)
 have HS:=Lib.hid (firstAt_some (isP (x1,x2)) xs)
 clear hR
 generalize firstAt (isP (x1,x2)) xs=F at HF HS ⊢
 go_enter Tryz.func181,Tryz.ntmps181
 go_upto_region 1 with fail
 rw [show w.alloc (Obj.cells #[Value.int .i64 x1,Value.int .i64 x2] 45)=W from HW.out.symm]
 go_wp2_with fail
 go_loopw [8] (fun i wr=>∃ k:Nat,k≤xs.length∧i=.int .i64 k∧Hid (Below W.heap.size W wr)∧Hid (∀ (j:Nat) c,j < k→xs[j]?=some c→isP (x1,x2) c=false)) (fun i _=>xs.length - (intOf i).toNat)
 case atStart=>exact ⟨0,Nat.zero_le _,rfl,Lib.hid (Below.refl _ _),Lib.hid (fun j c h _=>by omega)⟩
 case round =>
  obtain ⟨k,hk,rfl,HB,HN⟩:=hrel
  by_cases hlt:k < xs.length
  · obtain ⟨⟨y1,y2⟩,hx⟩:∃ x,xs[k]?=some x:=⟨_,List.getElem?_eq_getElem hlt⟩
    have HX:=Lib.hid hx
    have hbx:=(HB.out.block _ (lt_of_heap HNew.out)).trans HNew.out
    have z0:wr.cell? ⟨w.heap.size,0,none⟩=some (.int .i64 x1):=(Lib.cell_of_heap hbx 0).trans rfl
    have z1:wr.cell? ⟨w.heap.size,1,none⟩=some (.int .i64 x2):=(Lib.cell_of_heap hbx 1).trans rfl
    rcases (HRo.out.kept HB.out) with h0 | ⟨b,o,rfl,hA,hcell⟩
    · rw [h0] at hlt;simp at hlt
    obtain ⟨hc1,hc2⟩:=hcell k _ hx
    dsimp only at hc1 hc2
    clear hcell hx hbx
    by_cases hxy:x1=y1∧x2=y2
    · have E:=Lib.hid (HS.out k _ HX.out (by unfold isP;obtain ⟨rfl,rfl⟩:=hxy;simp) HN.out)
      obtain ⟨e1,e2⟩:=hxy
      subst e1 e2
      go_wp2_with fail
      go_quiet (fail)
      have HB':Hid (Below w.heap.size w (wr.drewN nq)):=Lib.hid (bdn (below_up HB0.out HB.out))
      go_wp2_with fail
      go_ret
      exact ⟨by rw [E.out];rfl,HB'.out⟩
    · have HN':Hid (∀ (j:Nat) c,j < k+1→xs[j]?=some c→isP (x1,x2) c=false):=Lib.hid (fun j c hj hc'=>by
       by_cases e:j=k
       · subst e;rw [HX.out] at hc';cases hc'
         unfold isP
         exact decide_eq_false (fun e=>by injection e with e1 e2;exact hxy ⟨e1.symm,e2.symm⟩)
       · exact HN.out j c (by omega) hc')
      by_cases h1:x1=y1
      · have h2:¬ x2=y2:=fun e=>hxy ⟨h1,e⟩
        clear hxy
        go_wp2_with fail
        go_quiet (fail)
        have HB':Hid (Below W.heap.size W (wr.drewN nq)):=Lib.hid (bdn HB.out)
        go_wp2_with fail
        go_roundw
        case rel=>exact ⟨k+1,by omega,by go_num,HB',HN'⟩
        case measure=>simp [intOf];omega
      clear hxy
      go_wp2_with fail
      go_quiet (fail)
      have HB':Hid (Below W.heap.size W (wr.drewN nq)):=Lib.hid (bdn HB.out)
      go_wp2_with fail
      go_roundw
      case rel=>exact ⟨k+1,by omega,by go_num,HB',HN'⟩
      case measure=>simp [intOf];omega
  · obtain rfl:k=xs.length:=by omega
    have E:=Lib.hid (HF.out (fun j c hj=>HN.out j c (List.getElem?_eq_some_iff.1 hj).1 hj))
    go_wp2_with fail
    go_ret
    exact ⟨by rw [E.out];rfl,below_up HB0.out HB.out⟩
theorem pcontains_any (ao:Option Addr) (cap:Nat) (xs:PL) (x1 x2:Int) (w:World) (hn:xs.length≤1099511627776) (hR:PairsAt w ao xs) :
 Calls Tryz.prog 127 #[.slice ao xs.length cap,.agg #[.int .i64 x1,.int .i64 x2]] w fun e w'=>e=.returned (.bool (decide ((x1,x2) ∈ xs)))∧Below w.heap.size w w':=by
 have b0:=one_below w (.cells #[.int .i64 x1,.int .i64 x2] 45)
 have HB0:=Lib.hid b0
 have C:=Lib.hid (pindex_any ao cap xs x1 x2 (w.alloc (.cells #[.int .i64 x1,.int .i64 x2] 45)) hn (hR.kept b0))
 have E:=Lib.hid (any_at (isP (x1,x2)) xs)
 rw [any_isP] at E
 clear hR b0
 generalize firstAt (isP (x1,x2)) xs=F at C E
 generalize decide ((x1,x2) ∈ xs)=B at E ⊢
 go_enter Tryz.func127,Tryz.ntmps127
 go_wp2_with fail
 refine C.out.mono ?_;rintro e w' ⟨rfl,b1⟩
 have HB1:=Lib.hid (below_up HB0.out b1)
 clear b1 C
 go_wp2_with fail
 go_ret
 exact ⟨by rw [← E.out];simp,HB1.out⟩
theorem paired_at (ha hb:List ByteArray) (cols:PL) (names:List ByteArray):(∀ (j:Nat) s,names[j]?=some s→(findL ha s,findL hb s) ∈ cols)→pairedB ha hb cols names=true:=fun h=>by
 unfold pairedB
 rw [List.all_eq_true]
 intro s hs
 obtain ⟨j,hj⟩:=List.mem_iff_getElem?.1 hs
 exact decide_eq_true (h j s hj)
theorem paired_missing (ha hb:List ByteArray) (cols:PL) (names:List ByteArray) (j:Nat) (s:ByteArray) (h:names[j]?=some s) (k:¬ (findL ha s,findL hb s) ∈ cols):pairedB ha hb cols names=false:=by
 unfold pairedB
 rw [List.all_eq_false]
 exact ⟨s,List.mem_of_getElem? h,by simpa using k⟩
theorem rtogether_any (ho:Option Addr) (hc:Nat) (ha:List ByteArray) (ro:Option Addr) (rn rc:Nat) (bo:Option Addr) (bc:Nat) (hb:List ByteArray) (so:Option Addr) (sn sc:Nat) (lo:Option Addr) (lc:Nat) (l:PL) (no:Option Addr) (nc:Nat) (names:List ByteArray) (w:World)
 (h1:ha.length≤1099511627776) (h2:hb.length≤1099511627776) (h3:l.length≤1099511627776) (h4:names.length≤1099511627776) (hA:StrRow w ho ha) (hB:StrRow w bo hb) (hP:PairsAt w lo l) (hN:StrRow w no names) :
 Calls Tryz.prog 74 #[.agg #[.slice ho ha.length hc,.slice ro rn rc],.agg #[.slice bo hb.length bc,.slice so sn sc],.slice lo l.length lc,.slice no names.length nc] w fun e w'=>e=.returned (.bool (pairedB ha hb l names))∧Below w.heap.size w w':=by
 obtain ⟨W,HW⟩:∃ W,Hid (W=(w.alloc (TabO ho ha.length hc ro rn rc)).alloc (TabO bo hb.length bc so sn sc)):=⟨_,Lib.hid rfl⟩
 have hBW:Below w.heap.size w W:=by rw [HW.out];exact two_below _ _ _
 have HB0:=Lib.hid hBW
 have hNw:=two_new w (TabO ho ha.length hc ro rn rc) (TabO bo hb.length bc so sn sc)
 rw [← HW.out] at hNw
 have box:Hid (∀ V,Below W.heap.size W V→(V.cell? ⟨w.heap.size,0,none⟩=some (.slice ho ha.length hc)∧V.cell? ⟨w.heap.size,1,none⟩=some (.slice ro rn rc))∧V.cell? ⟨w.heap.size+1,0,none⟩=some (.slice bo hb.length bc)∧V.cell? ⟨w.heap.size+1,1,none⟩=some (.slice so sn sc)):=Lib.hid (fun V hV=>⟨tabs ((hV.block _ (lt_of_heap hNw.2.1)).trans hNw.2.1),tabs ((hV.block _ (lt_of_heap hNw.2.2)).trans hNw.2.2)⟩)
 have C1:=Lib.hid (fun s V (h:Below W.heap.size W V)=>tfind_any ho hc ha ro rn rc s V h1 ((hA.kept hBW).kept h))
 have C2:=Lib.hid (fun s V (h:Below W.heap.size W V)=>tfind_any bo bc hb so sn sc s V h2 ((hB.kept hBW).kept h))
 have C3:=Lib.hid (fun x1 x2 V (h:Below W.heap.size W V)=>pcontains_any lo lc l x1 x2 V h3 ((hP.kept hBW).kept h))
 have HNo:=Lib.hid (hN.kept hBW)
 have HAll:=Lib.hid (paired_at ha hb l names)
 have HOne:=Lib.hid (paired_missing ha hb l names)
 clear hBW hNw hA hB hP hN
 generalize pairedB ha hb l names=R at HAll HOne ⊢
 go_enter Tryz.func74,Tryz.ntmps74
 go_upto_region 1 with fail
 rw [show (w.alloc (Obj.cells #[Value.slice ho ha.length hc,Value.slice ro rn rc] 25)).alloc (Obj.cells #[Value.slice bo hb.length bc,Value.slice so sn sc] 25)=W from HW.out.symm]
 go_wp2_with fail
 go_loopw [13] (fun i wr=>∃ k:Nat,k≤names.length∧i=.int .i64 k∧Hid (Below W.heap.size W wr)∧Hid (∀ (j:Nat) s,j < k→names[j]?=some s→(findL ha s,findL hb s) ∈ l)) (fun i _=>names.length - (intOf i).toNat)
 case atStart=>exact ⟨0,Nat.zero_le _,rfl,Lib.hid (Below.refl _ _),Lib.hid (fun j c h _=>by omega)⟩
 case round =>
  obtain ⟨k,hk,rfl,HB,HN⟩:=hrel
  by_cases hlt:k < names.length
  · obtain ⟨s,hs⟩:∃ x,names[k]?=some x:=⟨_,List.getElem?_eq_getElem hlt⟩
    have HS:=Lib.hid hs
    rcases (HNo.out.kept HB.out) with h0 | ⟨A,rfl,hA,hcell⟩
    · rw [h0] at hlt;simp at hlt
    have hcs:=hcell k _ hs
    obtain ⟨⟨a0,a1⟩,b0,b1⟩:=box.out wr HB.out
    have D1:=Lib.hid (C1.out s)
    have D2:=Lib.hid (C2.out s)
    have D3:=Lib.hid (C3.out (findL ha s) (findL hb s))
    have HM:Hid (decide ((findL ha s,findL hb s) ∈ l)=true→(findL ha s,findL hb s) ∈ l):=Lib.hid of_decide_eq_true
    have HM2:Hid (decide ((findL ha s,findL hb s) ∈ l)=false→R=false):=Lib.hid (fun h=>HOne.out k s hs (of_decide_eq_false h))
    have HM3:Hid (decide ((findL ha s,findL hb s) ∈ l)=true→∀ (j:Nat) t,j < k+1→names[j]?=some t→(findL ha t,findL hb t) ∈ l):=Lib.hid (fun h j t hj ht=>by
     by_cases e:j=k
     · subst e;rw [hs] at ht;cases ht;exact of_decide_eq_true h
     · exact HN.out j t (by omega) ht)
    generalize decide ((findL ha s,findL hb s) ∈ l)=d at D3 HM HM2 HM3
    generalize findL ha s=f1 at D1 D3 HM
    generalize findL hb s=f2 at D2 D3 HM
    have HBel:Hid (Below W.heap.size W wr.drew):=Lib.hid HB.out.drew
    clear hcell hs HM
    go_upto_region 4 with fail
    go_region_held3 (fun V=>(V.cell? ⟨w.heap.size,0,none⟩=some (.slice ho ha.length hc)∧V.cell? ⟨w.heap.size,1,none⟩=some (.slice ro rn rc))∧V.cell? ⟨w.heap.size+1,0,none⟩=some (.slice bo hb.length bc)∧V.cell? ⟨w.heap.size+1,1,none⟩=some (.slice so sn sc)) ((refine ⟨⟨?_,?_⟩,?_,?_⟩ <;> first | assumption | go_keep))
     (first
      | (go_at_call 128;refine (D1.out _ HBel.out).mono ?_;rintro e wA ⟨rfl,bA⟩;have HBel:=Lib.hid (below_up HBel.out bA);obtain ⟨⟨a0,a1⟩,b0,b1⟩:=box.out wA HBel.out;clear bA D1)
      | (go_at_call 128;refine (D2.out _ HBel.out).mono ?_;rintro e wB ⟨rfl,bB⟩;have HBel:=Lib.hid (below_up HBel.out bB);obtain ⟨⟨a0,a1⟩,b0,b1⟩:=box.out wB HBel.out;clear bB D2)
      | (go_at_call 127;refine (D3.out _ HBel.out).mono ?_;rintro e wC ⟨rfl,bC⟩;have HBel:=Lib.hid (below_up HBel.out bC);obtain ⟨⟨a0,a1⟩,b0,b1⟩:=box.out wC HBel.out;clear bC D3))
    rename_i hHeld
    clear hHeld
    cases d with
    | true =>
     have HN':=Lib.hid (HM3.out rfl)
     clear HM2 HM3
     go_wp2_with fail
     go_roundw
     case rel=>exact ⟨k+1,by omega,by go_num,HBel,HN'⟩
     case measure=>simp [intOf];omega
    | false =>
     have HE:=Lib.hid (HM2.out rfl)
     clear HM2 HM3
     go_wp2_with fail
     go_ret
     exact ⟨by rw [HE.out];rfl,below_up HB0.out HBel.out⟩
  · obtain rfl:k=names.length:=by omega
    have HE:=Lib.hid (HAll.out (fun j s hj=>HN.out j s (List.getElem?_eq_some_iff.1 hj).1 hj))
    go_wp2_with fail
    go_ret
    exact ⟨by rw [HE.out];rfl,below_up HB0.out HB.out⟩
end
end Go.Proofs.YtdenehnneloegaaGreatDoor
