import Derived.Test.YtlidckepahpaeaaGreatDoorPy
import Derived.Test.YtlidckepahpaeaaGreatDoorPk22
import Derived.Test.YtlidckepahpaeaaGreatDoorPk7
import Derived.Test.YtlidckepahpaeaaGreatDoorPk24
import Derived.Test.YtlidckepahpaeaaGreatDoorPk32
namespace Go.Proofs.YtlidckepahpaeaaGreatDoor
open Go.RowKit
def allE:List El := [⟨1,[0,255],0,0⟩] ++ [⟨4,[],0,-1⟩]
def whL (l r:Bool) (L:List El):List El :=
 let M:=if l then L else allE ++ L ++ [⟨2,[],0,0⟩]
 if r then M else M ++ allE ++ [⟨2,[],0,0⟩]
theorem whL_len (l r:Bool) (L:List El):(whL l r L).length≤L.length+6:=by
 unfold whL allE
 cases l <;> cases r <;> simp <;> omega
theorem ClosX.all {Q:Value→List El→Prop} (hQ:ClosX Q) {g:Nat→Nat} (hw:WordsOf [0,255] g):Q (rV (sV g) 0 (-1)) allE:=hQ.rep (hQ.s canon_all hw) (by decide) (by decide) (Or.inl rfl)
def WhRet (Q:Value→List El→Prop) (l r:Bool) (xs:List El) (e:Ending):Prop :=
 (∃ U L,e = .returned (.tuple #[U,.bool true])∧(∃ T x,U = .iface T x)∧ValidT xs∧SegX xs L∧L.length≤1000∧Q U (whL l r L))∨(e = .returned (.tuple #[.nilIface,.bool false])∧¬ ValidT xs)
set_option maxHeartbeats 4000000 in
set_option maxRecDepth 100000 in
theorem wholeTree_any {Q:Value→List El→Prop} (hQ:ClosX Q) (l r:Bool) (v:Value) (xs:List El) (w:World) (hv:ElsAt 0 w.heap.size w v xs) :
  Calls Tryz.prog 18 #[.agg #[.bool l,.bool r,v]] w fun e w' => WhRet Q l r xs e∧Below w.heap.size w w':=by
 obtain ⟨a,cp,rfl,-,-⟩ := id hv
 have Hv:=hide hv
 have hb0:=below1 w (.cells #[.bool l,.bool r,.slice a xs.length cp] 34)
 have HC:Hid (∀ W,Below (w.heap.size+1) (w.alloc (.cells #[.bool l,.bool r,.slice a xs.length cp] 34)) W→W.cell? ⟨w.heap.size,0,none⟩ = some (.bool l)∧W.cell? ⟨w.heap.size,1,none⟩ = some (.bool r)):=fun W hW =>
  ⟨(hW.cell (p:=⟨w.heap.size,0,none⟩) (Nat.lt_succ_self _)).trans ((pushd_alloc w _).news 0 _ rfl),(hW.cell (p:=⟨w.heap.size,1,none⟩) (Nat.lt_succ_self _)).trans ((pushd_alloc w _).news 1 _ rfl)⟩
 clear hv
 go_enter Tryz.func18,Tryz.ntmps18
 go_wp2_with fail
 have hz0:(w.alloc (.cells #[.bool l,.bool r,.slice a xs.length cp] 34)).heap.size=w.heap.size+1:=sz_alloc _ _
 generalize w.alloc (.cells #[.bool l,.bool r,.slice a xs.length cp] 34)=W0 at *
 have hz0':w.heap.size+1≤W0.heap.size:=by omega
 clear hz0
 refine (gnodeOf_any (closR hQ) _ xs _ ((unhide Hv).below hb0 (Nat.le_refl _))).mono ?_
 rintro e w1 ⟨⟨u,c,rfl,hok,hgx,hc5,-⟩ | ⟨rfl,hbad⟩,hb1⟩
 ·obtain ⟨L,hl,hsx,-,hU⟩ := valid_r hQ hok
  obtain ⟨U,hE,hqu⟩ := hU u c hgx hc5
  obtain ⟨T0,x0,rfl⟩ := hgx.1.iface
  obtain ⟨⟨T,x,rfl⟩,hE⟩ := hE
  have HE:=hide hE
  have HQU:=hide hqu
  have HOK:=hide hok
  have HSX:=hide hsx
  have HL:=hide hl
  have HB1:=hide (hb1.mono hz0')
  have HB01:=hide (hb0.trans (hb1.mono (by omega)))
  clear hE hqu hok hsx hl hb1 hU hgx hb0
  go_wp2_with fail
  refine (unhide HE _).mono ?_
  rintro e w2 ⟨rfl,hb2⟩
  have hz1:=(unhide HB01).size
  have hz2:=hb2.size
  have hz3:=(unhide HB1).size
  have HB2:=hide ((unhide HB1).trans (hb2.mono (by omega)))
  have HB02:=hide ((unhide HB01).trans (hb2.mono hz1))
  clear hb2 HE HB1 HB01
  go_wp2_with fail
  refine (allBytes_w _).mono ?_
  rintro e w3 ⟨⟨g,rfl,hg⟩,hb3⟩
  have hz4:=hb3.size
  have HB3:=hide ((unhide HB2).trans (hb3.mono (by omega)))
  have HB03:=hide ((unhide HB02).trans (hb3.mono (by omega)))
  have HALL:=hide (hQ.all hg)
  have hb4:=below1 w3 (.cells #[.iface 88 (.agg #[.int .u64 (g 0:Nat),.int .u64 (g 1:Nat),.int .u64 (g 2:Nat),.int .u64 (g 3:Nat)]),.int .i64 0,.int .i64 (-1)] 90)
  obtain ⟨k0,k1⟩ := unhide HC _ ((unhide HB3).trans (hb4.mono (by omega)))
  have HB04:=hide ((unhide HB03).trans (hb4.mono (by omega)))
  clear hb3 hg hb4 HB2 HB02 HC
  unfold ws4
  have HFIN:Hid (∀ U',Q U' (whL l r L)→(∃ T x,U' = .iface T x)→∀ w',Below w.heap.size w w'→WhRet Q l r xs (.returned (.tuple #[U',.bool true]))∧Below w.heap.size w w'):=fun U' h1 h2 w' h3 => ⟨Or.inl ⟨U',L,rfl,h2,unhide HOK,unhide HSX,unhide HL,h1⟩,h3⟩
  cases l <;> cases r
  ·go_wp2
   go_ret2
   exact unhide HFIN _ (hQ.cat (hQ.cat (unhide HALL) (unhide HQU)) (unhide HALL)) ⟨_,_,rfl⟩ _ (unhide HB04)
  ·go_wp2
   go_ret2
   exact unhide HFIN _ (hQ.cat (unhide HALL) (unhide HQU)) ⟨_,_,rfl⟩ _ (unhide HB04)
  ·go_wp2
   go_ret2
   exact unhide HFIN _ (hQ.cat (unhide HQU) (unhide HALL)) ⟨_,_,rfl⟩ _ (unhide HB04)
  ·go_wp2
   go_ret2
   exact unhide HFIN _ (unhide HQU) ⟨_,_,rfl⟩ _ (unhide HB04)
 ·have HB:=hide (hb0.trans (hb1.mono (by omega)))
  have HBAD:=hide hbad
  clear hbad hb1 hb0
  go_wp2
  go_ret2
  exact ⟨Or.inr ⟨rfl,unhide HBAD⟩,unhide HB⟩
section
variable {n:Nat} {hs:List Int→Nat→Prop}
end
theorem words_in {xs:List Int} {g:Nat→Nat} (h:WordsOf xs g) (b:Nat):Bt g b=true↔inPs xs (b:Int):=by
 rw [h.2 b,inP_iff]
 unfold inPs
 constructor
 ·rintro ⟨i,h1,h2⟩; exact ⟨i,by omega,h2⟩
 ·rintro ⟨i,h1,h2⟩; exact ⟨i,by omega,h2⟩
end Go.Proofs.YtlidckepahpaeaaGreatDoor
