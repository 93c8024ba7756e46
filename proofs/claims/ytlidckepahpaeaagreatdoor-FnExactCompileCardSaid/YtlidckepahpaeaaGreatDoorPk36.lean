import Derived.Test.YtlidckepahpaeaaGreatDoorPk10
import Derived.Test.YtlidckepahpaeaaGreatDoorPk9
import Derived.Deep.RegionWith
import Derived.Deep.DeepCutAuto
import Derived.Test.YtlidckepahpaeaaGreatDoorPk7
import Derived.Test.YtlidckepahpaeaaGreatDoorPk12
import Derived.BigQuiet
namespace Go.Proofs.YtlidckepahpaeaaGreatDoor
open Go.RowKit
def edg (a:It) (last:Bool) (n:Nat):List Int:=(if last then a.la else a.fi).map (fun i => ((n+i:Nat):Int))
def EdS (L:List El) (a:It):Prop:=a.fi.length≤L.length∧a.la.length≤L.length∧∀ (v:Value) (w:World) (n:Nat) (last:Bool),ElsAt 0 w.heap.size w v L→L.length≤3000→n+L.length≤10000 →
 Calls Tryz.prog 64 #[v,.int .i64 n,.bool last] w fun e w' => ∃ v',e = .returned v'∧w'.ownsRow w.heap.size 3 1 v' (edg a last n).length ((edg a last n).map mI)∧Below w.heap.size w w'
theorem edg_len {L:List El} {a:It} (h:EdS L a) (last:Bool) (n:Nat):(edg a last n).length≤L.length:=by
 unfold edg
 rw [List.length_map]
 cases last
 ·exact h.1
 ·exact h.2.1
set_option maxHeartbeats 4000000 in
set_option maxRecDepth 100000 in
theorem ed_e:EdS [⟨0,[],0,0⟩] ⟨true,[],[]⟩ := by
 refine ⟨by simp,by simp,?_⟩
 intro v w n last hv hlen hn
 obtain ⟨a,cp,rfl,-,-⟩ := id hv
 obtain ⟨hlen2,hcap,b,off,rfl,hbn,hel⟩ := ElsAt.last (p := []) hv
 simp only [List.length_singleton,List.length_nil,Nat.zero_mul,Nat.add_zero] at hel hv ⊢
 obtain ⟨i1,i2,i3,sv,c0,c1,c2,c3,hints⟩ := hel
 obtain ⟨sa,sc,rfl,-,-,-⟩ := id hints
 have HE:Hid (edg ⟨true,[],[]⟩ last n = []):=by show edg _ _ _=_; cases last <;> rfl
 rw [unhide HE]
 clear hv hints i1 i2 i3 HE
 go_enter Tryz.func64,Tryz.ntmps64
 go_wp2
 go_ret
 exact ⟨_,rfl,World.ownsRow_nil _ _ _ _,below1 w _⟩
set_option maxHeartbeats 4000000 in
set_option maxRecDepth 100000 in
theorem ed_s (xs:List Int):EdS [⟨1,xs,0,0⟩] ⟨false,[0],[0]⟩ := by
 refine ⟨by simp,by simp,?_⟩
 intro v w n last hv hlen hn
 obtain ⟨a,cp,rfl,-,-⟩ := id hv
 obtain ⟨hlen2,hcap,b,off,rfl,hbn,hel⟩ := ElsAt.last (p := []) hv
 simp only [List.length_singleton,List.length_nil,Nat.zero_mul,Nat.add_zero] at hel hv ⊢
 obtain ⟨i1,i2,i3,sv,c0,c1,c2,c3,hints⟩ := hel
 obtain ⟨sa,sc,rfl,-,-,-⟩ := id hints
 have HE:Hid (edg ⟨false,[0],[0]⟩ last n = [(n:Int)]):=by show edg _ _ _=_; cases last <;> rfl
 rw [unhide HE]
 clear hv hints i1 i2 i3 HE
 go_enter Tryz.func64,Tryz.ntmps64
 go_wp2
 go_ret
 have ho:=World.ownsRow_lit (base:=w.heap.size) (size:=1) (e:=3) (w.alloc (.cells #[.int .i64 1,.slice sa xs.length sc,.int .i64 0,.int .i64 0] 79)) #[.int .i64 (n:Int)] 1 (by rw [sz_alloc]; omega) (by unfold maxLen; omega) rfl
 rw [sz_alloc] at ho
 exact ⟨_,rfl,ho,below2 w _ _⟩
set_option maxHeartbeats 4000000 in
set_option maxRecDepth 100000 in
theorem ed_rep (l:List El) (a0:It) (mn mx:Int) (hl:EdS l a0):EdS (l ++ [⟨4,[],mn,mx⟩]) (itRep a0 mn):=by
 obtain ⟨h1,h2,hl⟩ := hl
 refine ⟨by simp [itRep]; omega,by simp [itRep]; omega,?_⟩
 intro v w n last hv hlen hn
 have hv0:=hv
 obtain ⟨a,cp,rfl,-,-⟩ := id hv
 obtain ⟨hlen2,hcap,b,off,rfl,hbn,hel⟩ := hv.last
 rw [hlen2] at hv hv0 hcap ⊢
 simp only [List.length_append,List.length_singleton] at hlen hlen2
 unfold maxLen at hcap
 obtain ⟨i1,i2,i3,sv,c0,c1,c2,c3,hints⟩ := hel
 obtain ⟨sa,sc,rfl,-,-,-⟩ := id hints
 simp only at c0 c2 c3
 clear hlen2 i1 i2 i3 hints
 have hvL:ElsAt 0 w.heap.size w (.slice (some ⟨b,off,none⟩) l.length cp) l:=hv0.pre
 have HvL:=hide hvL
 have e1:(((l.length+1:Nat):Int) - 1)=((l.length:Nat):Int):=by omega
 have hB0:=below1 w (.cells #[.int .i64 4,.slice sa 0 sc,.int .i64 mn,.int .i64 mx] 79)
 have HH:=hide hl
 have HE:Hid (edg (itRep a0 mn) last n=edg a0 last n):=rfl
 rw [unhide HE]
 generalize hX:edg a0 last n=X
 have HX:=hide hX
 clear hvL hv hv0 hl HE hX
 go_enter Tryz.func64,Tryz.ntmps64
 go_wp2_with fail
 refine (unhide HH _ _ n last ((unhide HvL).below hB0 (Nat.le_refl _)) (by omega) (by simp only [List.length_append,List.length_singleton] at hn; omega)).mono ?_
 rintro e w1 ⟨v1,rfl,ho1,hb1⟩
 rw [unhide HX,sz_alloc] at ho1
 have hB1:=hB0.trans (hb1.mono (by rw [sz_alloc]; omega))
 have Ho1:=hide (own_low ho1 (show w.heap.size≤w.heap.size+1 by omega))
 obtain ⟨a1,c9,rfl⟩ := own_is ho1
 clear hb1 ho1
 go_wp2
 go_ret
 exact ⟨_,rfl,unhide Ho1,hB1⟩
theorem map_sh (xs:List Nat) (n m:Nat):(xs.map (m + ·)).map (fun i => ((n+i:Nat):Int))=xs.map (fun i => ((n+m+i:Nat):Int)):=by
 rw [List.map_map]
 congr 1
 funext i
 simp only [Function.comp]
 omega
theorem edg_alt (a b:It) (last:Bool) (n m:Nat):edg (itAlt a (b.sh m)) last n=edg a last n ++ edg b last (n+m):=by
 cases last <;> simp only [edg,itAlt,It.sh,List.map_append,map_sh,if_true,if_false,Bool.false_eq_true]
theorem cat_lens (a b:It) (m:Nat):(itCat a (b.sh m)).fi.length≤a.fi.length+b.fi.length∧(itCat a (b.sh m)).la.length≤a.la.length+b.la.length:=by
 obtain ⟨an,af,al⟩ := a
 obtain ⟨bn,bf,bl⟩ := b
 cases an <;> cases bn <;> simp [itCat,It.sh]
theorem edg_catF (a b:It) (n m:Nat):edg (itCat a (b.sh m)) false n=edg a false n ++ (if a.nl then edg b false (n+m) else []):=by
 simp only [edg,itCat,It.sh,Bool.false_eq_true,if_false,List.map_append]
 by_cases h:a.nl=true
 ·rw [if_pos h,if_pos h,map_sh]
 ·rw [if_neg h,if_neg h,List.map_nil]
theorem edg_catT (a b:It) (n m:Nat):edg (itCat a (b.sh m)) true n=(if b.nl then edg a true n else []) ++ edg b true (n+m):=by
 obtain ⟨bn,bf,bl⟩ := b
 cases bn <;> simp only [edg,itCat,It.sh,if_true,List.map_append,map_sh,Bool.false_eq_true,if_false,List.map_nil]
set_option maxHeartbeats 8000000 in
set_option maxRecDepth 100000 in
theorem ed_alt (l r:List El) (a1 a2:It) (cr:Int) (sr:SegM r cr) (hl:EdS l a1) (hr:EdS r a2):EdS (l ++ r ++ [⟨3,[],0,0⟩]) (itAlt a1 (a2.sh (lvs l))):=by
 have HLl:=hide (edg_len hl)
 have HLr:=hide (edg_len hr)
 obtain ⟨p1,p2,hl⟩ := hl
 obtain ⟨q1,q2,hr⟩ := hr
 refine ⟨by simp [itAlt,It.sh]; omega,by simp [itAlt,It.sh]; omega,?_⟩
 intro v w n last hv hlen hn
 have hv0:=hv
 obtain ⟨a,cp,rfl,-,-⟩ := id hv
 obtain ⟨hlen2,hcap,b,off,rfl,hbn,hel⟩ := hv.last
 rw [hlen2] at hv hv0 hcap ⊢
 simp only [List.length_append,List.length_singleton] at hv hv0 hlen hlen2 hel hcap hn ⊢
 unfold maxLen at hcap
 obtain ⟨i1,i2,i3,sv,c0,c1,c2,c3,hints⟩ := hel
 obtain ⟨sa,sc,rfl,-,-,-⟩ := id hints
 simp only at c0 c2 c3
 clear hlen2 i1 i2 i3 hints
 have e1:(((l.length+r.length+1:Nat):Int) - 1)=((l.length+r.length:Nat):Int):=by omega
 have hvL:ElsAt 0 w.heap.size w (.slice (some ⟨b,off,none⟩) l.length cp) (l):=by rw [List.append_assoc] at hv0; exact hv0.pre
 have hvR:=hv0.mid (cap':=cp - l.length) (by unfold maxLen; omega)
 have f5:l.length+r.length - l.length=r.length:=by omega
 have hlv:=lvs_le l
 have f6:IntKind.i64.wrap ((n:Int)+(lvs l:Int))=(n:Int)+(lvs l:Int):=k64i (by omega) (by omega)
 have HvL:=hide hvL
 have HvR:=hide hvR
 have Hv0:=hide hv0
 have HHl:=hide hl
 have HHr:=hide hr
 have hB0:=below1 w (.cells #[.int .i64 3,.slice sa 0 sc,.int .i64 0,.int .i64 0] 79)
 have HRow:Hid (∀ W,Below (w.heap.size+1) (w.alloc (.cells #[.int .i64 3,.slice sa 0 sc,.int .i64 0,.int .i64 0] 79)) W→W.cell? ⟨w.heap.size,0,none⟩ = some (.int .i64 3)):=fun W hW => (hW.cell (p:=⟨w.heap.size,0,none⟩) (Nat.lt_succ_self _)).trans ((pushd_alloc w _).news 0 _ rfl)
 clear hvL hvR hv hv0 hl hr
 obtain ⟨T,hT⟩ : ∃ T,T=edg (itAlt a1 (a2.sh (lvs l))) last n:=⟨_,rfl⟩
 rw [← hT]
 have HT:Hid (T=edg a1 last n ++ edg a2 last (n+lvs l)):=by show T=_; rw [hT,edg_alt]
 clear hT
 go_enter Tryz.func64,Tryz.ntmps64
 go_wp2_with fail
 refine (l1start_bin _ l r cr _ _ _ sr (by exact (unhide Hv0).below (below1 w _) (Nat.le_refl _)) (by omega) rfl).mono ?_
 rintro e w1 ⟨rfl,rfl⟩
 go_wp2_with fail
 have hz0:(w.alloc (.cells #[.int .i64 3,.slice sa 0 sc,.int .i64 0,.int .i64 0] 79)).heap.size=w.heap.size+1:=sz_alloc _ _
 generalize w.alloc (.cells #[.int .i64 3,.slice sa 0 sc,.int .i64 0,.int .i64 0] 79)=W0 at *
 have hz0':w.heap.size+1≤W0.heap.size:=by omega
 clear hz0 c0 c1 c2 c3
 refine (unhide HHl _ _ n last ((unhide HvL).below hB0 (Nat.le_refl _)) (by omega) (by omega)).mono ?_
 rintro e w2 ⟨v2,rfl,ho2,hb2⟩
 have hB2:Below w.heap.size w w2:=hB0.trans (hb2.mono hB0.size)
 obtain ⟨X1,hX1⟩ : ∃ X,X=edg a1 last n:=⟨_,rfl⟩
 rw [← hX1] at ho2
 have hxl1:X1.length≤3000:=by rw [hX1]; have:=unhide HLl last n; omega
 have HX1:=hide hX1
 have S2:=hide (SlW.at (own_slw (lo:=0) ho2 (Nat.zero_le _) (by unfold maxLen; omega)))
 obtain ⟨x2a,x2c,rfl⟩ := own_is ho2
 have hz2:=hB2.size
 clear ho2 hb2 hX1
 go_wp2_with (at_builtin; refine app_more rfl _ _ rfl w.heap.size _ rfl ([]:List Int) (World.ownsRow_nil _ _ _ _) hz2 _ rfl X1 (unhide S2) (by simp; omega) ?_; intro v3 w3 hb3 ho3 hv3; have ho3':w3.ownsRow w.heap.size 3 1 v3 X1.length (X1.map mI):=ho3; have Ho3:=hide ho3'; obtain ⟨x3a,x3c,rfl⟩ := own_is ho3'; have hB3:Below w.heap.size w w3:=hB2.trans hb3; clear ho3 ho3' hb3 hv3)
 refine (l2leaves_any _ l _ ((unhide HvL).below hB3 (Nat.le_refl _)) (by omega)).mono ?_
 rintro e w4 ⟨rfl,rfl⟩
 go_wp2_with fail
 refine (unhide HHr _ _ (n+lvs l) last ((unhide HvR).below hB3 (Nat.le_refl _)) (by omega) (by omega)).mono ?_
 rintro e w5 ⟨v5,rfl,ho5,hb5⟩
 have hB5:Below w.heap.size w w5:=hB3.trans (hb5.mono hB3.size)
 obtain ⟨X2,hX2⟩ : ∃ X,X=edg a2 last (n+lvs l):=⟨_,rfl⟩
 rw [← hX2] at ho5
 have hxl2:X2.length≤3000:=by rw [hX2]; have:=unhide HLr last (n+lvs l); omega
 have HX2:=hide hX2
 have S5:=hide (SlW.at (own_slw (lo:=0) ho5 (Nat.zero_le _) (by unfold maxLen; omega)))
 have OWNK:=hide (own_keep (unhide Ho3) hb5 (Nat.le_refl _))
 obtain ⟨x5a,x5c,rfl⟩ := own_is ho5
 have hz5:=hB5.size
 clear ho5 hb5 hX2
 go_wp2_with (at_builtin; refine app_more rfl _ _ rfl w.heap.size _ rfl X1 (unhide OWNK) hz5 _ rfl X2 (unhide S5) (by (try simp only [List.length_nil]); omega) ?_; intro v6 w6 hb6 ho6 hv6; obtain ⟨Z,hZ⟩ : ∃ Z,Z=X1 ++ X2:=⟨_,rfl⟩; rw [← hZ] at ho6; have HZ:=hide hZ; have Ho6:=hide ho6; obtain ⟨x6a,x6c,rfl⟩ := own_is ho6; have hB6:Below w.heap.size w w6:=hB5.trans hb6; clear ho6 hb6 hv6 hZ)
 go_ret
 exact ⟨_,rfl,by rw [unhide HT,← unhide HX1,← unhide HX2,← unhide HZ]; exact unhide Ho6,hB6⟩
set_option maxHeartbeats 8000000 in
set_option maxRecDepth 100000 in
theorem ed_cat (l r:List El) (a1 a2:It) (cr:Int) (sr:SegM r cr) (hl:EdS l a1) (hr:EdS r a2) (nl:NuS l a1.nl) (nr:NuS r a2.nl):EdS (l ++ r ++ [⟨2,[],0,0⟩]) (itCat a1 (a2.sh (lvs l))):=by
 have HLl:=hide (edg_len hl)
 have HLr:=hide (edg_len hr)
 obtain ⟨p1,p2,hl⟩ := hl
 obtain ⟨q1,q2,hr⟩ := hr
 refine ⟨by have:=(cat_lens a1 a2 (lvs l)).1; simp only [List.length_append,List.length_singleton]; omega,by have:=(cat_lens a1 a2 (lvs l)).2; simp only [List.length_append,List.length_singleton]; omega,?_⟩
 intro v w n last hv hlen hn
 have hv0:=hv
 obtain ⟨a,cp,rfl,-,-⟩ := id hv
 obtain ⟨hlen2,hcap,b,off,rfl,hbn,hel⟩ := hv.last
 rw [hlen2] at hv hv0 hcap ⊢
 simp only [List.length_append,List.length_singleton] at hv hv0 hlen hlen2 hel hcap hn ⊢
 unfold maxLen at hcap
 obtain ⟨i1,i2,i3,sv,c0,c1,c2,c3,hints⟩ := hel
 obtain ⟨sa,sc,rfl,-,-,-⟩ := id hints
 simp only at c0 c2 c3
 clear hlen2 i1 i2 i3 hints
 have e1:(((l.length+r.length+1:Nat):Int) - 1)=((l.length+r.length:Nat):Int):=by omega
 have hvL:ElsAt 0 w.heap.size w (.slice (some ⟨b,off,none⟩) l.length cp) (l):=by rw [List.append_assoc] at hv0; exact hv0.pre
 have hvR:=hv0.mid (cap':=cp - l.length) (by unfold maxLen; omega)
 have f5:l.length+r.length - l.length=r.length:=by omega
 have hlv:=lvs_le l
 have f6:IntKind.i64.wrap ((n:Int)+(lvs l:Int))=(n:Int)+(lvs l:Int):=k64i (by omega) (by omega)
 have HvL:=hide hvL
 have HvR:=hide hvR
 have Hv0:=hide hv0
 have HHl:=hide hl
 have HHr:=hide hr
 have hB0:=below1 w (.cells #[.int .i64 2,.slice sa 0 sc,.int .i64 0,.int .i64 0] 79)
 have HRow:Hid (∀ W,Below (w.heap.size+1) (w.alloc (.cells #[.int .i64 2,.slice sa 0 sc,.int .i64 0,.int .i64 0] 79)) W→W.cell? ⟨w.heap.size,0,none⟩ = some (.int .i64 2)):=fun W hW => (hW.cell (p:=⟨w.heap.size,0,none⟩) (Nat.lt_succ_self _)).trans ((pushd_alloc w _).news 0 _ rfl)
 clear hvL hvR hv hv0 hl hr
 obtain ⟨T,hT⟩ : ∃ T,T=edg (itCat a1 (a2.sh (lvs l))) last n:=⟨_,rfl⟩
 rw [← hT]
 have NL:=hide nl
 have NR:=hide nr
 clear nl nr
 cases last with
 | true =>
  have HT:Hid (T=(if a2.nl then edg a1 true n else []) ++ edg a2 true (n+lvs l)):=by show T=_; rw [hT,edg_catT]
  clear hT
  go_enter Tryz.func64,Tryz.ntmps64
  go_wp2_with fail
  refine (l1start_bin _ l r cr _ _ _ sr (by exact (unhide Hv0).below (below1 w _) (Nat.le_refl _)) (by omega) rfl).mono ?_
  rintro e w1 ⟨rfl,rfl⟩
  go_wp2_with fail
  have hz0:(w.alloc (.cells #[.int .i64 2,.slice sa 0 sc,.int .i64 0,.int .i64 0] 79)).heap.size=w.heap.size+1:=sz_alloc _ _
  generalize w.alloc (.cells #[.int .i64 2,.slice sa 0 sc,.int .i64 0,.int .i64 0] 79)=W0 at *
  have hz0':w.heap.size+1≤W0.heap.size:=by omega
  clear hz0 c0 c1 c2 c3
  refine (unhide NR _ _ ((unhide HvR).below hB0 (Nat.le_refl _)) (by omega)).mono ?_
  rintro e w1 ⟨rfl,hb1⟩
  have hB1:Below w.heap.size w w1:=hB0.trans (hb1.mono (by omega))
  clear hb1
  cases hq:a2.nl with
  | true =>
   rw [hq,if_pos rfl] at HT
   go_wp2_with fail
   refine (unhide HHl _ _ n true ((unhide HvL).below hB1 (Nat.le_refl _)) (by omega) (by omega)).mono ?_
   rintro e w2 ⟨v2,rfl,ho2,hb2⟩
   have hB2:Below w.heap.size w w2:=hB1.trans (hb2.mono hB1.size)
   obtain ⟨X1,hX1⟩ : ∃ X,X=edg a1 true n:=⟨_,rfl⟩
   rw [← hX1] at ho2
   have hxl1:X1.length≤3000:=by rw [hX1]; have:=unhide HLl true n; omega
   have HX1:=hide hX1
   have S2:=hide (SlW.at (own_slw (lo:=0) ho2 (Nat.zero_le _) (by unfold maxLen; omega)))
   obtain ⟨x2a,x2c,rfl⟩ := own_is ho2
   have hz2:=hB2.size
   clear ho2 hb2 hX1
   go_wp2_with (at_builtin; refine app_more rfl _ _ rfl w.heap.size _ rfl ([]:List Int) (World.ownsRow_nil _ _ _ _) hz2 _ rfl X1 (unhide S2) (by simp; omega) ?_; intro v3 w3 hb3 ho3 hv3; have ho3':w3.ownsRow w.heap.size 3 1 v3 X1.length (X1.map mI):=ho3; have Ho3:=hide ho3'; obtain ⟨x3a,x3c,rfl⟩ := own_is ho3'; have hB3:Below w.heap.size w w3:=hB2.trans hb3; clear ho3 ho3' hb3 hv3)
   refine (l2leaves_any _ l _ ((unhide HvL).below hB3 (Nat.le_refl _)) (by omega)).mono ?_
   rintro e w4 ⟨rfl,rfl⟩
   go_wp2_with fail
   refine (unhide HHr _ _ (n+lvs l) true ((unhide HvR).below hB3 (Nat.le_refl _)) (by omega) (by omega)).mono ?_
   rintro e w5 ⟨v5,rfl,ho5,hb5⟩
   have hB5:Below w.heap.size w w5:=hB3.trans (hb5.mono hB3.size)
   obtain ⟨X2,hX2⟩ : ∃ X,X=edg a2 true (n+lvs l):=⟨_,rfl⟩
   rw [← hX2] at ho5
   have hxl2:X2.length≤3000:=by rw [hX2]; have:=unhide HLr true (n+lvs l); omega
   have HX2:=hide hX2
   have S5:=hide (SlW.at (own_slw (lo:=0) ho5 (Nat.zero_le _) (by unfold maxLen; omega)))
   have OWNK:=hide (own_keep (unhide Ho3) hb5 (Nat.le_refl _))
   obtain ⟨x5a,x5c,rfl⟩ := own_is ho5
   have hz5:=hB5.size
   clear ho5 hb5 hX2
   go_wp2_with (at_builtin; refine app_more rfl _ _ rfl w.heap.size _ rfl X1 (unhide OWNK) hz5 _ rfl X2 (unhide S5) (by (try simp only [List.length_nil]); omega) ?_; intro v6 w6 hb6 ho6 hv6; obtain ⟨Z,hZ⟩ : ∃ Z,Z=X1 ++ X2:=⟨_,rfl⟩; rw [← hZ] at ho6; have HZ:=hide hZ; have Ho6:=hide ho6; obtain ⟨x6a,x6c,rfl⟩ := own_is ho6; have hB6:Below w.heap.size w w6:=hB5.trans hb6; clear ho6 hb6 hv6 hZ)
   go_ret
   exact ⟨_,rfl,by rw [unhide HT,← unhide HX1,← unhide HX2,← unhide HZ]; exact unhide Ho6,hB6⟩
  | false =>
   rw [hq,if_neg (by simp)] at HT
   go_wp2_with fail
   refine (l2leaves_any _ l _ ((unhide HvL).below hB1 (Nat.le_refl _)) (by omega)).mono ?_
   rintro e w4 ⟨rfl,rfl⟩
   go_wp2_with fail
   refine (unhide HHr _ _ (n+lvs l) true ((unhide HvR).below hB1 (Nat.le_refl _)) (by omega) (by omega)).mono ?_
   rintro e w5 ⟨v5,rfl,ho5,hb5⟩
   have hB5:Below w.heap.size w w5:=hB1.trans (hb5.mono hB1.size)
   obtain ⟨X2,hX2⟩ : ∃ X,X=edg a2 true (n+lvs l):=⟨_,rfl⟩
   rw [← hX2] at ho5
   have hxl2:X2.length≤3000:=by rw [hX2]; have:=unhide HLr true (n+lvs l); omega
   have HX2:=hide hX2
   have S5:=hide (SlW.at (own_slw (lo:=0) ho5 (Nat.zero_le _) (by unfold maxLen; omega)))
   have OWNK:=hide (World.ownsRow_nil w5 w.heap.size 3 1)
   obtain ⟨x5a,x5c,rfl⟩ := own_is ho5
   have hz5:=hB5.size
   clear ho5 hb5 hX2
   go_wp2_with (at_builtin; refine app_more rfl _ _ rfl w.heap.size _ rfl ([]:List Int) (unhide OWNK) hz5 _ rfl X2 (unhide S5) (by (try simp only [List.length_nil]); omega) ?_; intro v6 w6 hb6 ho6 hv6; obtain ⟨Z,hZ⟩ : ∃ Z,Z=([]:List Int) ++ X2:=⟨_,rfl⟩; rw [← hZ] at ho6; have HZ:=hide hZ; have Ho6:=hide ho6; obtain ⟨x6a,x6c,rfl⟩ := own_is ho6; have hB6:Below w.heap.size w w6:=hB5.trans hb6; clear ho6 hb6 hv6 hZ)
   go_ret
   exact ⟨_,rfl,by rw [unhide HT,← unhide HX2,← unhide HZ]; exact unhide Ho6,hB6⟩
 | false =>
  have HT:Hid (T=edg a1 false n ++ (if a1.nl then edg a2 false (n+lvs l) else [])):=by show T=_; rw [hT,edg_catF]
  clear hT
  go_enter Tryz.func64,Tryz.ntmps64
  go_wp2_with fail
  refine (l1start_bin _ l r cr _ _ _ sr (by exact (unhide Hv0).below (below1 w _) (Nat.le_refl _)) (by omega) rfl).mono ?_
  rintro e w1 ⟨rfl,rfl⟩
  go_wp2_with fail
  have hz0:(w.alloc (.cells #[.int .i64 2,.slice sa 0 sc,.int .i64 0,.int .i64 0] 79)).heap.size=w.heap.size+1:=sz_alloc _ _
  generalize w.alloc (.cells #[.int .i64 2,.slice sa 0 sc,.int .i64 0,.int .i64 0] 79)=W0 at *
  have hz0':w.heap.size+1≤W0.heap.size:=by omega
  clear hz0 c0 c1 c2 c3
  refine (unhide NL _ _ ((unhide HvL).below hB0 (Nat.le_refl _)) (by omega)).mono ?_
  rintro e w1 ⟨rfl,hb1⟩
  have hB1:Below w.heap.size w w1:=hB0.trans (hb1.mono (by omega))
  clear hb1
  cases hq:a1.nl with
  | true =>
   rw [hq,if_pos rfl] at HT
   go_wp2_with fail
   refine (unhide HHl _ _ n false ((unhide HvL).below hB1 (Nat.le_refl _)) (by omega) (by omega)).mono ?_
   rintro e w2 ⟨v2,rfl,ho2,hb2⟩
   have hB2:Below w.heap.size w w2:=hB1.trans (hb2.mono hB1.size)
   obtain ⟨X1,hX1⟩ : ∃ X,X=edg a1 false n:=⟨_,rfl⟩
   rw [← hX1] at ho2
   have hxl1:X1.length≤3000:=by rw [hX1]; have:=unhide HLl false n; omega
   have HX1:=hide hX1
   have S2:=hide (SlW.at (own_slw (lo:=0) ho2 (Nat.zero_le _) (by unfold maxLen; omega)))
   obtain ⟨x2a,x2c,rfl⟩ := own_is ho2
   have hz2:=hB2.size
   clear ho2 hb2 hX1
   go_wp2_with (at_builtin; refine app_more rfl _ _ rfl w.heap.size _ rfl ([]:List Int) (World.ownsRow_nil _ _ _ _) hz2 _ rfl X1 (unhide S2) (by simp; omega) ?_; intro v3 w3 hb3 ho3 hv3; have ho3':w3.ownsRow w.heap.size 3 1 v3 X1.length (X1.map mI):=ho3; have Ho3:=hide ho3'; obtain ⟨x3a,x3c,rfl⟩ := own_is ho3'; have hB3:Below w.heap.size w w3:=hB2.trans hb3; clear ho3 ho3' hb3 hv3)
   refine (l2leaves_any _ l _ ((unhide HvL).below hB3 (Nat.le_refl _)) (by omega)).mono ?_
   rintro e w4 ⟨rfl,rfl⟩
   go_wp2_with fail
   refine (unhide HHr _ _ (n+lvs l) false ((unhide HvR).below hB3 (Nat.le_refl _)) (by omega) (by omega)).mono ?_
   rintro e w5 ⟨v5,rfl,ho5,hb5⟩
   have hB5:Below w.heap.size w w5:=hB3.trans (hb5.mono hB3.size)
   obtain ⟨X2,hX2⟩ : ∃ X,X=edg a2 false (n+lvs l):=⟨_,rfl⟩
   rw [← hX2] at ho5
   have hxl2:X2.length≤3000:=by rw [hX2]; have:=unhide HLr false (n+lvs l); omega
   have HX2:=hide hX2
   have S5:=hide (SlW.at (own_slw (lo:=0) ho5 (Nat.zero_le _) (by unfold maxLen; omega)))
   have OWNK:=hide (own_keep (unhide Ho3) hb5 (Nat.le_refl _))
   obtain ⟨x5a,x5c,rfl⟩ := own_is ho5
   have hz5:=hB5.size
   clear ho5 hb5 hX2
   go_wp2_with (at_builtin; refine app_more rfl _ _ rfl w.heap.size _ rfl X1 (unhide OWNK) hz5 _ rfl X2 (unhide S5) (by (try simp only [List.length_nil]); omega) ?_; intro v6 w6 hb6 ho6 hv6; obtain ⟨Z,hZ⟩ : ∃ Z,Z=X1 ++ X2:=⟨_,rfl⟩; rw [← hZ] at ho6; have HZ:=hide hZ; have Ho6:=hide ho6; obtain ⟨x6a,x6c,rfl⟩ := own_is ho6; have hB6:Below w.heap.size w w6:=hB5.trans hb6; clear ho6 hb6 hv6 hZ)
   go_ret
   exact ⟨_,rfl,by rw [unhide HT,← unhide HX1,← unhide HX2,← unhide HZ]; exact unhide Ho6,hB6⟩
  | false =>
   rw [hq,if_neg (by simp),List.append_nil] at HT
   go_wp2_with fail
   refine (unhide HHl _ _ n false ((unhide HvL).below hB1 (Nat.le_refl _)) (by omega) (by omega)).mono ?_
   rintro e w2 ⟨v2,rfl,ho2,hb2⟩
   have hB2:Below w.heap.size w w2:=hB1.trans (hb2.mono hB1.size)
   obtain ⟨X1,hX1⟩ : ∃ X,X=edg a1 false n:=⟨_,rfl⟩
   rw [← hX1] at ho2
   have hxl1:X1.length≤3000:=by rw [hX1]; have:=unhide HLl false n; omega
   have HX1:=hide hX1
   have S2:=hide (SlW.at (own_slw (lo:=0) ho2 (Nat.zero_le _) (by unfold maxLen; omega)))
   obtain ⟨x2a,x2c,rfl⟩ := own_is ho2
   have hz2:=hB2.size
   clear ho2 hb2 hX1
   go_wp2_with (at_builtin; refine app_more rfl _ _ rfl w.heap.size _ rfl ([]:List Int) (World.ownsRow_nil _ _ _ _) hz2 _ rfl X1 (unhide S2) (by simp; omega) ?_; intro v3 w3 hb3 ho3 hv3; have ho3':w3.ownsRow w.heap.size 3 1 v3 X1.length (X1.map mI):=ho3; have Ho3:=hide ho3'; obtain ⟨x3a,x3c,rfl⟩ := own_is ho3'; have hB3:Below w.heap.size w w3:=hB2.trans hb3; clear ho3 ho3' hb3 hv3)
   go_ret
   exact ⟨_,rfl,by rw [unhide HT,← unhide HX1]; exact unhide Ho3,hB3⟩
structure Mx (w:World) (G n:Nat) (f:Nat→Nat→Bool):Prop where
 top:w.rowIs G 27 n (fun i => .slice (some ⟨G+1+i,0,none⟩) n n)
 row:∀ i,i<n→w.rowIs (G+1+i) 4 n (fun j => .bool (f i j))
theorem Mx.keep {w w':World} {G n m:Nat} {f:Nat→Nat→Bool} (h:Mx w G n f) (hb:Below m w w') (hm:G+1+n≤m):Mx w' G n f :=
 ⟨h.top.of_block (hb.block G (by omega)),fun i hi => (h.row i hi).of_block (hb.block _ (by omega))⟩
theorem Mx.put {w:World} {G n i j:Nat} {f:Nat→Nat→Bool} (h:Mx w G n f) (hi:i<n):Mx (w.setCell ⟨G+1+i,j,none⟩ (.bool true)) G n (fun a b => f a b || (decide (a=i) && decide (b=j))):=by
 refine ⟨h.top.setOther (by show G ≠ G+1+i; omega) _,fun a ha => ?_⟩
 by_cases e:a=i
 ·subst e
  refine ((h.row a ha).set j _).congr (fun b hb => ?_)
  by_cases e2:b=j
  ·simp [e2]
  ·simp [e2]
 ·exact ((h.row a ha).setOther (by show G+1+a ≠ G+1+i; omega) _).congr (fun b hb => by simp [e])
theorem Mx.same {w:World} {G n:Nat} {f g:Nat→Nat→Bool} (h:Mx w G n f) (e:∀ i j,i<n→j<n→f i j=g i j):Mx w G n g :=
 ⟨h.top,fun i hi => (h.row i hi).congr (fun j hj => by rw [e i j hi hj])⟩
theorem l1start_seg (v:Value) (P seg R:List El) (c z:Int) (w:World) (sm:SegM seg c) (hv:ElsAt 0 w.heap.size w v (P ++ seg ++ R)) (hlen:(P ++ seg ++ R).length≤1048576) (hz:z=P.length+seg.length) :
  Calls Tryz.prog 96 #[v,.int .i64 z] w fun e w' => e = .returned (.int .i64 (P.length:Int))∧w'=w:=by
 subst hz
 have pr:=sm.ne
 have h:=l1start_any v (P ++ seg ++ R) P.length (P.length+seg.length) w hv hlen (by omega) (by simp only [List.length_append]; omega) ?_ ?_
 ·rwa [Int.natCast_add] at h
 ·rw [show P.length+seg.length=(P ++ seg).length by simp,List.take_left' rfl,List.drop_left' rfl]
  exact sm.ws
 ·intro k h1 h2
  rw [show P.length+seg.length=(P ++ seg).length by simp,List.take_left' rfl,List.drop_append,List.drop_eq_nil_of_le (by omega),List.nil_append]
  exact sm.tl _ (by omega) (by omega)
def GM (t:List El × Int):Prop:=SegM t.1 t.2∧∃ a ln ss,NuS t.1 a.nl∧EdS t.1 a∧SegO t.1 (lvs t.1) a ln ss∧Bdd a (lvs t.1)
theorem GM.bin {l r:List El × Int} {k:Int} (hk:k=2∨k=3) (hl:GM l) (hr:GM r):GM (l.1 ++ r.1 ++ [⟨k,[],0,0⟩],cap (l.2+r.2)):=by
 obtain ⟨l1,a,la,sa,l2,l3,l4,l5⟩ := hl
 obtain ⟨r1,b,lb,sb,r2,r3,r4,r5⟩ := hr
 have e:lvs (l.1 ++ r.1 ++ [⟨k,[],0,0⟩])=lvs l.1+lvs r.1:=lvs_snoc _ _ _ (by simp only; omega)
 rcases hk with rfl | rfl
 ·exact ⟨SegM.bin l1 r1 (Or.inl rfl),itCat a (b.sh (lvs l.1)),_,_,nu_cat _ _ _ _ _ r1 l2 r2,ed_cat _ _ _ _ _ r1 l3 r3 l2 r2,e ▸ l4.cat r4,by rw [show lvs (l.1 ++ r.1 ++ [⟨2,[],0,0⟩],cap (l.2+r.2)).1=lvs l.1+lvs r.1 from e]; exact (l5.mono (by omega)).cat (r5.sh _)⟩
 ·exact ⟨SegM.bin l1 r1 (Or.inr rfl),itAlt a (b.sh (lvs l.1)),_,_,nu_alt _ _ _ _ _ r1 l2 r2,ed_alt _ _ _ _ _ r1 l3 r3,e ▸ l4.alt r4,by rw [show lvs (l.1 ++ r.1 ++ [⟨3,[],0,0⟩],cap (l.2+r.2)).1=lvs l.1+lvs r.1 from e]; exact (l5.mono (by omega)).alt (r5.sh _)⟩
theorem GM.rep {o:List El × Int} {mn mx:Int} (h:GM o) (o2:0≤mn) (o4:mx = -1∨(mn≤mx∧mx≤250)):GM (o.1 ++ [⟨4,[],mn,mx⟩],cap (repSize o.2 mn mx)):=by
 obtain ⟨l1,a,la,sa,l2,l3,l4,l5⟩ := h
 have hne:=l1.ne
 have e:lvs (o.1 ++ [⟨4,[],mn,mx⟩])=lvs o.1:=by rw [lvs_app]; simp [lvs]
 exact ⟨SegM.rep l1 rfl o2 (o4.imp id (fun q => q)),itRep a mn,_,_,nu_rep _ _ mn mx l2 (by omega),ed_rep _ _ mn mx l3,e ▸ l4.rep mn mx,by rw [show lvs (o.1 ++ [⟨4,[],mn,mx⟩],cap (repSize o.2 mn mx)).1=lvs o.1 from e]; exact l5⟩
theorem GM.e:GM ([⟨0,[],0,0⟩],1):=⟨SegM.leaf (Or.inl rfl),⟨true,[],[]⟩,_,_,nu_e,ed_e,SegO.e,by constructor <;> simp⟩
theorem GM.s (xs:List Int):GM ([⟨1,xs,0,0⟩],1):=⟨SegM.leaf (Or.inr rfl),⟨false,[0],[0]⟩,_,_,nu_s xs,ed_s xs,SegO.s xs,by constructor <;> simp [lvs]⟩
theorem PushR.gm {st st':List (List El × Int)} {x:El} (h:PushR st x st') (ok:ElOk x) (hs:∀ s ∈ st,GM s):∀ s ∈ st',GM s:=by
 intro s hm
 obtain ⟨k,xs,mn,mx⟩ := x
 rcases h with ⟨hk,rfl⟩ | ⟨hk,b,l,r,rfl,rfl⟩ | ⟨hk,b,o,rfl,rfl⟩
 ·simp only [List.mem_append,List.mem_singleton] at hm; rcases hm with hm | rfl
  ·exact hs s hm
  ·rcases ok with ⟨q1,q2,q3,q4⟩ | ⟨q1,q2,q3,q4⟩ | ⟨q1,q2,q3,q4,q5⟩ <;> simp only at hk q1 q2 q3 q4
   ·subst q1 q3 q4
    exact GM.s xs
   ·subst q3 q4
    obtain rfl:=List.eq_nil_of_length_eq_zero q2
    obtain rfl:k=0:=by omega
    exact GM.e
   ·omega
 ·simp only [List.mem_append,List.mem_singleton] at hm; rcases hm with hm | rfl
  ·exact hs s (by simp [hm])
  ·have hu:=hs l (by simp)
   have hv:=hs r (by simp)
   rcases ok with ⟨q1,q2,q3,q4⟩ | ⟨q1,q2,q3,q4⟩ | ⟨q1,q2,q3,q4,q5⟩ <;> simp only at hk q1 q2 q3 q4
   ·omega
   ·subst q3 q4
    obtain rfl:=List.eq_nil_of_length_eq_zero q2
    exact GM.bin hk hu hv
   ·omega
 ·simp only [List.mem_append,List.mem_singleton] at hm; rcases hm with hm | rfl
  ·exact hs s (by simp [hm])
  ·have hu:=hs o (by simp)
   rcases ok with ⟨q1,q2,q3,q4⟩ | ⟨q1,q2,q3,q4⟩ | ⟨q1,q2,q3,q4,q5⟩ <;> simp only at hk q1 q2 q3 q4
   ·omega
   ·omega
   ·subst hk
    obtain rfl:=List.eq_nil_of_length_eq_zero q2
    exact GM.rep hu q3 q5
theorem forest {xs:List El} (ok:∀ k:Nat,k<xs.length→ElOk (xs[k]?.getD dE)) (h1:wsum xs=1) (h2:∀ k:Nat,1≤k→k≤xs.length→wsum (xs.drop k)≤0) :
  ∀ k:Nat,k≤xs.length→∃ st,flats st=xs.take k∧(∀ s ∈ st,GM s)∧(k<xs.length→∃ st',PushR st (xs[k]?.getD dE) st'):=by
 have step:∀ k:Nat,∀ st,k<xs.length→flats st=xs.take k→(∀ s ∈ st,GM s)→∃ st',PushR st (xs[k]?.getD dE) st':=by
  intro k st hk hst hg
  have e1:wsum (xs.take (k+1))+wsum (xs.drop (k+1))=1:=by rw [← wsum_append,List.take_append_drop]; exact h1
  have e2:=h2 (k+1) (by omega) (by omega)
  have e3:=wsum_flats (fun s hs => (hg s hs).1.ws)
  rw [hst] at e3
  rw [take_next hk,wsum_append,e3] at e1
  simp only [wsum] at e1
  exact PushR.ex (st:=st) (ok k hk) (by omega)
 intro k
 induction k with
 | zero => intro _; exact ⟨[],by simp [flats],by simp,fun h => step 0 [] h (by simp [flats]) (by simp)⟩
 | succ k ih =>
  intro hk
  obtain ⟨st,hst,hg,hp⟩ := ih (by omega)
  obtain ⟨st',hp⟩ := hp (by omega)
  have hst':flats st'=xs.take (k+1):=by rw [hp.flats,hst,take_next (by omega)]
  have hg':=hp.gm (ok k (by omega)) hg
  exact ⟨st',hst',hg',fun h => step (k+1) st' h hst' hg'⟩
theorem link_cat {P l r:List El} {a b:It} {la lb:List Lk} {sa sb:List (List Int)} (ha:SegO l (lvs l) a la sa) (hb:SegO r (lvs r) b lb sb) :
  (oRun ini (P ++ l ++ r ++ [⟨2,[],0,0⟩])).ln=(oRun ini (P ++ l ++ r)).ln ++ [(a.la.map (lvs P + ·),b.fi.map (lvs P+lvs l + ·))]:=by
 rw [oRun_append,oRun_append,oRun_append,ha,hb]
 have hc:=ini_c P
 generalize oRun ini P=s at *
 obtain ⟨c,st,ln,ss⟩ := s
 simp only at hc
 subst hc
 simp [oRun,oPush,It.sh]
theorem link_alt {P l r:List El} {a b:It} {la lb:List Lk} {sa sb:List (List Int)} (ha:SegO l (lvs l) a la sa) (hb:SegO r (lvs r) b lb sb) :
  (oRun ini (P ++ l ++ r ++ [⟨3,[],0,0⟩])).ln=(oRun ini (P ++ l ++ r)).ln:=by
 rw [oRun_append,oRun_append,oRun_append,ha,hb]
 simp [oRun,oPush]
theorem link_rep {P o:List El} {a:It} {la:List Lk} {sa:List (List Int)} (ha:SegO o (lvs o) a la sa) (mn mx:Int) :
  (oRun ini (P ++ o ++ [⟨4,[],mn,mx⟩])).ln=(oRun ini (P ++ o)).ln ++ [(a.la.map (lvs P + ·),a.fi.map (lvs P + ·))]:=by
 rw [oRun_append,oRun_append,ha]
 have hc:=ini_c P
 generalize oRun ini P=s at *
 obtain ⟨c,st,ln,ss⟩ := s
 simp only at hc
 subst hc
 cases st <;> simp [oRun,oPush,It.sh]
theorem link_leaf {P:List El} {x:El} (hx:x.kind=0∨x.kind=1):(oRun ini (P ++ [x])).ln=(oRun ini P).ln:=by
 rw [oRun_append]
 simp only [oRun,oPush]
 rcases hx with hx | hx <;> simp [hx]
theorem Tryz.zinBool1:(Tryz.prog.info? 4).map (fun i => (i.zero,i.size,i.bytes))=some (some (.bool false),1,1):=by kernel_rfl
theorem Tryz.zinBoolS1:(Tryz.prog.info? 27).map (fun i => (i.zero,i.size,i.bytes))=some (some (.slice none 0 0),1,24):=by kernel_rfl
theorem ElsAt.eq {lo n:Nat} {w:World} {v:Value} {xs ys:List El} (h:ElsAt lo n w v xs) (e:xs=ys):ElsAt lo n w v ys:=e ▸ h
theorem edgT (a:It) (c:Nat):edg a true c=(a.la.map (c + ·)).map Int.ofNat:=by simp [edg]
theorem edgF (a:It) (c:Nat):edg a false c=(a.fi.map (c + ·)).map Int.ofNat:=by simp [edg]
set_option maxHeartbeats 16000000 in
set_option maxRecDepth 100000 in
theorem l2marks_any (v:Value) (xs:List El) (w:World) (hv:ElsAt 0 w.heap.size w v xs) (hlen:xs.length≤3000)
  (ok:∀ k:Nat,k<xs.length→ElOk (xs[k]?.getD dE)) (h1:wsum xs=1) (h2:∀ k:Nat,1≤k→k≤xs.length→wsum (xs.drop k)≤0) :
  Calls Tryz.prog 65 #[v] w fun e w' => ∃ G cp,e = .returned (.slice (some ⟨G,0,none⟩) (lvs xs) cp)∧w.heap.size≤G∧Mx w' G (lvs xs) (mkd (oRun ini xs).ln)∧G+1+lvs xs≤w'.heap.size∧Below w.heap.size w w':=by
 have Hfo:=hide (forest ok h1 h2)
 have Hok:=hide ok
 have hnl:=lvs_le xs
 have HL:=hide (l2leaves_any v xs w hv hlen)
 have Hv:=hide hv
 obtain ⟨a,cap,rfl,hcap,-⟩ := id hv
 obtain ⟨N,hN⟩ : ∃ N,N=lvs xs:=⟨_,rfl⟩
 rw [← hN] at HL hnl ⊢
 have HN:=hide hN
 have hmk:=run_make_row' (P:=Tryz.prog) 131 27 (.slice none 0 0) 24 Tryz.underlying131 Tryz.zinBoolS1 rfl .i64 .i64 N (by omega) (by omega)
 have hmk2:=run_make_row' (P:=Tryz.prog) 27 4 (.bool false) 1 Tryz.underlying27 Tryz.zinBool1 rfl .i64 .i64 N (by omega) (by omega)
 clear hv ok h1 h2 hN
 go_enter Tryz.func65,Tryz.ntmps65
 go_wp2_with fail
 refine (unhide HL).mono ?_
 rintro e w1 ⟨rfl,rfl⟩
 go_wp2_with fail
 have hrow0:=World.rowIs_made w1 (.slice none 0 0) N 27
 have hB0:=below1 w1 (.cells (madeCells #[.slice none 0 0] N) 27)
 have hz0:(w1.alloc (.cells (madeCells #[.slice none 0 0] N) 27)).heap.size=w1.heap.size+1:=sz_alloc _ _
 go_loopw [5] (fun iv wr => ∃ i:Nat,i≤N∧iv = .int .i64 i∧wr.rowIs w1.heap.size 27 N (fun b => if b<i then .slice (some ⟨w1.heap.size+1+b,0,none⟩) N N else .slice none 0 0)∧(∀ b,b<i→wr.rowIs (w1.heap.size+1+b) 4 N (fun _ => .bool false))∧wr.heap.size=w1.heap.size+1+i∧Below w1.heap.size w1 wr) (fun iv _ => N - (intOf iv).toNat)
 case atStart => exact ⟨0,Nat.zero_le _,rfl,hrow0.congr (fun b hb => by simp),fun b hb => absurd hb (Nat.not_lt_zero _),by rw [hz0],hB0⟩
 case round =>
  obtain ⟨i,hi,rfl,hrow,hrows,hsz,hb⟩ := hrel
  by_cases hlt:i<N
  ·have hlt':(i:Int)<(N:Int):=by omega
   have f0:∀ o:Obj,(wr.alloc o).frozen? ⟨w1.heap.size,i,none⟩ = false:=fun o => (hrow.alloc o).frozen i
   have c0:∀ o:Obj,(wr.alloc o).cell? ⟨w1.heap.size,i,none⟩ = some (.slice none 0 0):=fun o => by rw [(hrow.alloc o).cell hlt,if_neg (Nat.lt_irrefl _)]
   have Hsz:=hide hsz
   have Hrow:=hide hrow
   have Hrows:=hide hrows
   have hle:w1.heap.size+1≤wr.heap.size:=by omega
   clear hrow hrows hsz hmk hrow0 hz0
   go_wp2
   refine ⟨⟨i+1,by omega,by go_num,?_,fun b hb2 => ?_,?_,?_⟩,by simp [intOf]; omega⟩
   ·refine (((unhide Hrow).alloc _).set i _).congr (fun b hb2 => ?_)
    by_cases e:b=i
    ·subst e; simp [unhide Hsz]
    ·have e2:b<i+1↔b<i:=by omega
     simp [e,e2]
   ·by_cases e:b=i
    ·subst e
     have h:=World.rowIs_made wr (.bool false) N 4
     rw [unhide Hsz] at h
     exact h.setOther (by show w1.heap.size+1+b ≠ w1.heap.size; omega) _
    ·exact ((unhide Hrows b (by omega)).alloc _).setOther (by show w1.heap.size+1+b ≠ w1.heap.size; omega) _
   ·rw [sz_put,sz_alloc,unhide Hsz]; omega
   ·exact bput (hb.alloc (by omega) _) (Nat.le_refl _) _
  ·have eN:N=i:=by omega
   subst eN
   have HM:Hid (Mx wr w1.heap.size N (fun _ _ => false)):=⟨hrow.congr (fun b hb2 => by rw [if_pos hb2]),hrows⟩
   have hle:w1.heap.size+1+N≤wr.heap.size:=by omega
   obtain ⟨G,hG⟩ : ∃ G,G=w1.heap.size:=⟨_,rfl⟩
   rw [← hG] at HM hle hb ⊢
   have hGw:w1.heap.size≤G:=by omega
   have hGw2:G≤w1.heap.size:=by omega
   clear hrow hrows hsz hmk hmk2 hrow0 hz0 hB0 hG
   go_wp2_with fail
   go_loopw [6] (fun ev wr => ∃ k:Nat,k≤xs.length∧ev = .int .i64 ((k+1:Nat):Int)∧Mx wr G N (mkd (oRun ini (xs.take k)).ln)∧Below G w1 wr∧G+1+N≤wr.heap.size) (fun ev _ => xs.length+1 - (intOf ev).toNat)
   case atStart => exact ⟨0,Nat.zero_le _,rfl,(unhide HM).same (fun i j _ _ => rfl),hb,hle⟩
   case round =>
    clear HM hle hb
    obtain ⟨k,hk,rfl,hM,hb,hle⟩ := hrel
    have HM:=hide hM
    clear hM
    by_cases hlt:k<xs.length
    ·have hlt':((k+1:Nat):Int)≤(xs.length:Int):=by omega
     have e1:((k+1:Nat):Int) - 1=(k:Int):=by omega
     have hlt0:(k:Int)<(xs.length:Int):=by omega
     obtain ⟨_,_,e,-,hc⟩ := (unhide Hv).below (hb.mono hGw) (Nat.le_refl _)
     cases e
     obtain ⟨b,off,rfl,-,hbn,hcell⟩ := hc (by omega)
     obtain ⟨-,-,-,sv,c0,c1,c2,c3,hints⟩ := hcell k hlt
     obtain ⟨sa,sc,rfl,-,-,-⟩ := id hints
     obtain ⟨st,hst,hg,hp⟩ := unhide Hfo k hk
     obtain ⟨st',hp⟩ := hp hlt
     have HNX:Hid (xs.take (k+1)=xs.take k ++ [xs[k]?.getD dE]):=take_next hlt
     clear hc hcell hints
     generalize hX:xs[k]?.getD dE=x at *
     have HX:=hide hX
     obtain ⟨xk,xset,xmn,xmx⟩ := x
     simp only at c0 c1 c2 c3
     clear hX
     have hB2:=below1 wr (.cells #[.int .i64 xk,.slice sa xset.length sc,.int .i64 xmn,.int .i64 xmx] 79)
     rcases hp with ⟨hk2,-⟩ | ⟨hk2,B,l,r,hB,-⟩ | ⟨hk2,B,o,hB,-⟩
     ·have HE:Hid ((oRun ini (xs.take (k+1))).ln=(oRun ini (xs.take k)).ln):=by
       show (oRun ini (xs.take (k+1))).ln=_
       rw [unhide HNX]
       exact link_leaf hk2
      simp only at hk2
      have g1:(xk != 2)=true:=by simp; omega
      have g2:(xk != 4)=true:=by simp; omega
      clear hg
      go_wp2
      go_roundw
      case rel => exact ⟨k+1,by omega,by go_num,by rw [unhide HE]; exact (unhide HM).keep hB2 hle,hb.trans (hB2.mono (by omega)),by rw [sz_alloc]; omega⟩
      case measure => simp [intOf]; omega
     ·have ok2:=unhide Hok k hlt
      rw [unhide HX] at ok2
      simp only at hk2
      have ex:(⟨xk,xset,xmn,xmx⟩ : El)=⟨xk,[],0,0⟩ := by
       rcases ok2 with ⟨q1,q2,q3,q4⟩ | ⟨q1,q2,q3,q4⟩ | ⟨q1,q2,q3,q4,q5⟩ <;> simp only at q1 q2 q3 q4
       ·omega
       ·subst q3 q4
        obtain rfl:=List.eq_nil_of_length_eq_zero q2
        rfl
       ·omega
      obtain ⟨slM,al,la,sal,nl,el,ol,bl⟩ := hg l (by rw [hB]; simp)
      obtain ⟨srM,ar,lb,sbr,nr,er,orr,br⟩ := hg r (by rw [hB]; simp)
      have hfl:xs.take k=flats B ++ l.1 ++ r.1:=by rw [← hst,hB]; simp [flats]
      have hsp:xs=xs.take (k+1) ++ xs.drop (k+1):=(List.take_append_drop _ _).symm
      rw [unhide HNX,hfl,ex] at hsp
      have hkl:(flats B ++ l.1 ++ r.1).length=k:=by rw [← hfl,List.length_take]; omega
      obtain ⟨P,hP⟩ : ∃ P,P=flats B:=⟨_,rfl⟩
      obtain ⟨L,hL⟩ : ∃ L,L=l.1:=⟨_,rfl⟩
      obtain ⟨R,hR⟩ : ∃ R,R=r.1:=⟨_,rfl⟩
      obtain ⟨S,hS⟩ : ∃ S,S=xs.drop (k+1):=⟨_,rfl⟩
      rw [← hL] at slM nl el ol bl
      rw [← hR] at srM nr er orr br
      rw [← hP,← hL,← hR] at hfl hkl hsp
      rw [← hS] at hsp
      clear hP hL hR hS hg hst hB ok2 nl nr
      simp only [List.length_append] at hkl
      rcases hk2 with rfl | rfl
      ·obtain ⟨K,hK⟩ : ∃ K,K=(oRun ini (xs.take k)).ln:=⟨_,rfl⟩
       have HK:=hide hK
       obtain ⟨A,hA⟩ : ∃ A,A=al.la.map (lvs P + ·):=⟨_,rfl⟩
       obtain ⟨Bq,hBq⟩ : ∃ B,B=ar.fi.map (lvs P+lvs L + ·):=⟨_,rfl⟩
       have HE:Hid ((oRun ini (xs.take (k+1))).ln=K ++ [(A,Bq)]):=by
        show (oRun ini (xs.take (k+1))).ln=_
        rw [unhide HNX,hfl,ex,link_cat ol orr,← hfl,← hK,← hA,← hBq]
       have hnl2:N=lvs P+lvs L+lvs R+lvs S:=by rw [unhide HN,hsp]; simp only [lvs_app]; simp [lvs]
       have HAN:Hid (∀ i ∈ A,i<N):=fun i hi => by rw [hA] at hi; obtain ⟨j,hj,rfl⟩ := List.mem_map.1 hi; have:=bl.2 j hj; omega
       have HBN:Hid (∀ i ∈ Bq,i<N):=fun i hi => by rw [hBq] at hi; obtain ⟨j,hj,rfl⟩ := List.mem_map.1 hi; have:=br.1 j hj; omega
       have hxl0:xs.length=P.length+(L.length+R.length+1)+S.length:=by
        have:=congrArg List.length hsp
        simp only [List.length_append,List.length_singleton] at this
        omega
       have HAL:A.length≤3000:=by rw [hA,List.length_map]; have:=el.2.1; omega
       have HBL:Bq.length≤3000:=by rw [hBq,List.length_map]; have:=er.1; omega
       obtain ⟨pl,hpl⟩ : ∃ n,n=P.length:=⟨_,rfl⟩
       obtain ⟨ql,hql⟩ : ∃ n,n=P.length+L.length:=⟨_,rfl⟩
       obtain ⟨cl,hcl⟩ : ∃ n,n=lvs P+lvs L:=⟨_,rfl⟩
       unfold maxLen at hcap
       have HV:Hid (∀ W,Below G w1 W→ElsAt 0 W.heap.size W (.slice (some ⟨b,off,none⟩) xs.length cap) xs):=fun W hW => (unhide Hv).below (hW.mono hGw) (Nat.le_refl _)
       have HS1:Hid (∀ W,Below G w1 W→Calls Tryz.prog 96 #[.slice (some ⟨b,off,none⟩) xs.length cap,.int .i64 ((k+1:Nat):Int)] W fun e w' => e = .returned (.int .i64 (pl:Int))∧w'=W):=fun W hW => by
        rw [hpl]
        exact l1start_seg _ P (L ++ R ++ [⟨2,[],0,0⟩]) S _ _ W (SegM.bin slM srM (Or.inl rfl)) ((unhide HV W hW).eq (by rw [hsp]; simp)) (by simp only [List.length_append,List.length_singleton]; omega) (by simp only [List.length_append,List.length_singleton]; omega)
       have HS2:Hid (∀ W,Below G w1 W→Calls Tryz.prog 96 #[.slice (some ⟨b,off,none⟩) xs.length cap,.int .i64 (k:Int)] W fun e w' => e = .returned (.int .i64 (ql:Int))∧w'=W):=fun W hW => by
        rw [hql,← List.length_append]
        exact l1start_seg _ (P ++ L) R ([⟨2,[],0,0⟩] ++ S) _ _ W srM ((unhide HV W hW).eq (by rw [hsp]; simp)) (by simp only [List.length_append,List.length_singleton]; omega) (by simp only [List.length_append]; omega)
       have HL1:Hid (∀ W,Below G w1 W→Calls Tryz.prog 102 #[.slice (some ⟨b,off,none⟩) pl cap] W fun e w' => e = .returned (.int .i64 ((lvs P:Nat):Int))∧w'=W):=fun W hW => by
        rw [hpl]
        exact l2leaves_any _ P W (ElsAt.pre (len:=xs.length) ((unhide HV W hW).eq (by rw [hsp,List.append_assoc,List.append_assoc,List.append_assoc]))) (by omega)
       have HL2:Hid (∀ W,Below G w1 W→Calls Tryz.prog 102 #[.slice (some ⟨b,off,none⟩) ql cap] W fun e w' => e = .returned (.int .i64 (cl:Int))∧w'=W):=fun W hW => by
        rw [hcl,hql,← List.length_append,← lvs_app]
        exact l2leaves_any _ (P ++ L) W (ElsAt.pre (len:=xs.length) (q:=R ++ ([⟨2,[],0,0⟩] ++ S)) ((unhide HV W hW).eq (by rw [hsp]; simp))) (by simp only [List.length_append]; omega)
       have HE1:Hid (∀ W,Below G w1 W→Calls Tryz.prog 64 #[.slice (some ⟨b,off+pl * 4,none⟩) (ql - pl) (cap - pl),.int .i64 ((lvs P:Nat):Int),.bool true] W fun e w' => ∃ v',e = .returned v'∧w'.ownsRow W.heap.size 3 1 v' A.length ((A.map Int.ofNat).map mI)∧Below W.heap.size W w'):=fun W hW => by
        have h:=el.2.2 (.slice (some ⟨b,off+pl * 4,none⟩) (ql - pl) (cap - pl)) W (lvs P) true (by rw [show ql - pl=L.length by omega,hpl]; exact ElsAt.mid (len:=xs.length) (r:=R ++ ([⟨2,[],0,0⟩] ++ S)) ((unhide HV W hW).eq (by rw [hsp]; simp)) (by unfold maxLen; omega)) (by omega) (by have:=lvs_le P; omega)
        rw [edgT,← hA,List.length_map] at h
        exact h
       have HE2:Hid (∀ W,Below G w1 W→Calls Tryz.prog 64 #[.slice (some ⟨b,off+ql * 4,none⟩) (k - ql) (cap - ql),.int .i64 (cl:Int),.bool false] W fun e w' => ∃ v',e = .returned v'∧w'.ownsRow W.heap.size 3 1 v' Bq.length ((Bq.map Int.ofNat).map mI)∧Below W.heap.size W w'):=fun W hW => by
        have h:=er.2.2 (.slice (some ⟨b,off+ql * 4,none⟩) (k - ql) (cap - ql)) W (lvs P+lvs L) false (by rw [show k - ql=R.length by omega,hql,← List.length_append]; exact ElsAt.mid (len:=xs.length) (r := [⟨2,[],0,0⟩] ++ S) ((unhide HV W hW).eq (by rw [hsp]; simp)) (by unfold maxLen; simp only [List.length_append]; omega)) (by omega) (by have:=lvs_le P; have:=lvs_le L; omega)
        rw [edgF,← hBq,List.length_map,← hcl] at h
        exact h
       have f7:IntKind.i64.wrap (k:Int)=(k:Int):=k64i (by omega) (by omega)
       have j1:(pl:Int)≤(ql:Int):=by omega
       have j2:(ql:Int)≤(k:Int):=by omega
       have j3:(k:Int)≤(cap:Int):=by omega
       have j4:(ql:Int)≤(cap:Int):=by omega
       have j5:(pl:Int)≤(cap:Int):=by omega
       have hb0:Below G w1 (wr.alloc (.cells #[.int .i64 2,.slice sa xset.length sc,.int .i64 xmn,.int .i64 xmx] 79)):=hb.alloc (by omega) _
       have hz0:(wr.alloc (.cells #[.int .i64 2,.slice sa xset.length sc,.int .i64 xmn,.int .i64 xmx] 79)).heap.size=wr.heap.size+1:=sz_alloc _ _
       clear hpl hql hcl hA hBq el er ol orr bl br slM srM hsp hfl hkl hxl0 hK Hfo Hok hnl2 HV HNX
       go_wp2_with fail
       refine (unhide HS1 _ hb0).mono ?_
       rintro e _ ⟨rfl,rfl⟩
       go_wp2_with fail
       refine (unhide HS2 _ hb0).mono ?_
       rintro e _ ⟨rfl,rfl⟩
       have f0:(wr.alloc (.cells #[.int .i64 2,.slice sa xset.length sc,.int .i64 xmn,.int .i64 xmx] 79)).cell? ⟨wr.heap.size,0,none⟩ = some (.int .i64 2):=(pushd_alloc wr _).news 0 _ rfl
       obtain ⟨wa,hwa⟩ : ∃ wa,wa=wr.alloc (.cells #[.int .i64 2,.slice sa xset.length sc,.int .i64 xmn,.int .i64 xmx] 79):=⟨_,rfl⟩
       rw [← hwa] at hb0 hz0 hB2 f0 ⊢
       have hb_wa:=hb0
       clear hwa hb0 HS1 HS2
       go_upto_region 17 with fail
       go_cut [9] (fun fv wx => wx.ownsRow wa.heap.size 3 1 fv A.length ((A.map Int.ofNat).map mI)∧Below wa.heap.size wa wx)
       case first =>
        go_region_with (first
         | (go_at_call 102; (with_reducible refine (unhide HL1 _ ?_).mono ?_); (first | exact hb_wa | exact hb_wa.drew | exact hb_wa.drew.drew); rintro e w7 ⟨rfl,rfl⟩)
         | (go_at_call 64; (with_reducible refine (unhide HE1 _ ?_).mono ?_); (first | exact hb_wa | exact hb_wa.drew | exact hb_wa.drew.drew); rintro e w8 ⟨v8,rfl,ho8,hb8⟩))
        all_goals go_wp2_with fail
        all_goals go_meet
        all_goals exact ⟨ho8,⟨hb8.os,hb8.tape,hb8.output,hb8.size,hb8.block⟩⟩
       case rest =>
       obtain ⟨ho_wb,hk_wb⟩ := hcut
       obtain ⟨wb,hw_wb⟩ : ∃ wb,wb=wc:=⟨_,rfl⟩
       rw [← hw_wb] at ho_wb hk_wb ⊢
       clear hw_wb
       have hb_wb:Below G w1 wb:=hb_wa.trans (hk_wb.mono (by omega))
       have hz_wb:=hk_wb.size
       have HO_wb:=hide ho_wb
       obtain ⟨fa,fc,rfl⟩ := own_is ho_wb
       clear ho_wb
       go_upto_region 18 with fail
       go_cut [10] (fun fv wx => wx.ownsRow wb.heap.size 3 1 fv Bq.length ((Bq.map Int.ofNat).map mI)∧Below wb.heap.size wb wx)
       case first =>
        go_region_with (first
         | (go_at_call 102; (with_reducible refine (unhide HL2 _ ?_).mono ?_); (first | exact hb_wb | exact hb_wb.drew | exact hb_wb.drew.drew); rintro e w7 ⟨rfl,rfl⟩)
         | (go_at_call 64; (with_reducible refine (unhide HE2 _ ?_).mono ?_); (first | exact hb_wb | exact hb_wb.drew | exact hb_wb.drew.drew); rintro e w8 ⟨v8,rfl,ho8,hb8⟩))
        all_goals go_wp2_with fail
        all_goals go_meet
        all_goals exact ⟨ho8,⟨hb8.os,hb8.tape,hb8.output,hb8.size,hb8.block⟩⟩
       case rest =>
       obtain ⟨ho_wd,hk_wd⟩ := hcut
       obtain ⟨wd,hw_wd⟩ : ∃ wd,wd=wc:=⟨_,rfl⟩
       rw [← hw_wd] at ho_wd hk_wd ⊢
       clear hw_wd
       have hb_wd:Below G w1 wd:=hb_wb.trans (hk_wd.mono (by omega))
       have hz_wd:=hk_wd.size
       have HO_wd:=hide ho_wd
       obtain ⟨ta,tc,rfl⟩ := own_is ho_wd
       clear ho_wd
       have hMd:Mx wd G N (mkd K):=by rw [unhide HK]; exact (((unhide HM).keep hB2 hle).keep (hk_wb.mono (by omega)) (Nat.le_refl _)).keep (hk_wd.mono (by omega)) (Nat.le_refl _)
       have HMd:=hide hMd
       obtain ⟨_,_,e8,hFA⟩ := own_far (own_keep (unhide HO_wb) hk_wd (Nat.le_refl _)) rfl (by have:=HAL; omega)
       cases e8
       obtain ⟨_,_,e9,hTB⟩ := own_far (unhide HO_wd) rfl (by have:=HBL; omega)
       cases e9
       have HFA:=hide hFA
       have HTB:=hide hTB
       have hbd:=hb_wd
       clear hMd hFA hTB HO_wb HO_wd HM hk_wb hk_wd HL1 HE1 HL2 HE2
       have hAl:A.length≤3000:=HAL
       have hBl:Bq.length≤3000:=HBL
       go_wp2_with fail
       go_loopw [12] (fun iv wr => ∃ x:Nat,x≤A.length∧iv = .int .i64 x∧Mx wr G N (mkd (K ++ [(A.take x,Bq)]))∧Chg (G+1) (G+1+N) wd wr) (fun iv _ => A.length - (intOf iv).toNat)
       case atStart => exact ⟨0,Nat.zero_le _,rfl,(unhide HMd).same (fun i j _ _ => by rw [List.take_zero,mkd_none]),Chg.refl _ _ _⟩
       case round =>
        obtain ⟨x,hx,rfl,hM3,hc3⟩ := hrel
        have HM3:=hide hM3
        clear hM3
        by_cases hxl:x<A.length
        ·have hxl':(x:Int)<(A.length:Int):=by omega
         obtain ⟨fg,fo,rfl,hfg,hfg2,hfc⟩ := unhide HFA (by omega)
         have HFC:=hide hfc
         have hax:A[x]<N:=unhide HAN _ (List.getElem_mem hxl)
         clear hfc
         go_wp2_with fail
         go_loopw [13] (fun jv wr => ∃ y:Nat,y≤Bq.length∧jv = .int .i64 y∧Mx wr G N (mkd (K ++ [(A.take x,Bq)] ++ [([A[x]],Bq.take y)]))∧Chg (G+1) (G+1+N) wd wr) (fun jv _ => Bq.length - (intOf jv).toNat)
         case atStart => exact ⟨0,Nat.zero_le _,rfl,(unhide HM3).same (fun i j _ _ => by rw [List.take_zero,mkd_none2]),hc3⟩
         case round =>
          clear HM3 hc3
          obtain ⟨y,hy,rfl,hM4,hc4⟩ := hrel
          by_cases hyl:y<Bq.length
          ·have hyl':(y:Int)<(Bq.length:Int):=by omega
           obtain ⟨tg,tof,rfl,htg,htg2,htc⟩ := unhide HTB (by omega)
           have hby:Bq[y]<N:=unhide HBN _ (List.getElem_mem hyl)
           obtain ⟨ax,hAX⟩ : ∃ ax,ax=A[x]:=⟨_,rfl⟩
           obtain ⟨ly,hBY⟩ : ∃ ly,ly=Bq[y]:=⟨_,rfl⟩
           have q1:=unhide HFC wr (hc4.block _ (Or.inr (by omega))) x hxl
           have q2:=htc wr (hc4.block _ (Or.inr (by omega))) y hyl
           rw [← hAX] at q1 hax
           rw [← hBY] at q2 hby
           have q3:=hM4.top.cell hax
           have q4:=(hM4.row ax hax).cell hby
           have q5:=(hM4.row ax hax).frozen ly
           have hax':(ax:Int)<(N:Int):=by omega
           have hby':(ly:Int)<(N:Int):=by omega
           have HM4:=hide hM4
           have HAX:=hide hAX
           have HBY:=hide hBY
           have HM5:Hid (Mx (wr.setCell ⟨G+1+ax,ly,none⟩ (.bool true)) G N (mkd (K ++ [(A.take x,Bq)] ++ [([A[x]],Bq.take (y+1))]))):=(hM4.put (j:=ly) hax).same (fun i j _ _ => by rw [mkd_step _ _ _ _ _ hxl hyl,hAX,hBY])
           have HC5:Hid (Chg (G+1) (G+1+N) wd (wr.setCell ⟨G+1+ax,ly,none⟩ (.bool true))):=hc4.put (by omega) (by omega) _
           clear htc hM4 hAX hBY HM4 HAX HBY
           go_wp2_with fail
           go_region
           all_goals
            go_wp2
            go_roundw
            case rel =>
             exact ⟨y+1,by omega,by go_num,⟨(unhide HM5).top,(unhide HM5).row⟩,⟨(unhide HC5).os,(unhide HC5).tape,(unhide HC5).output,(unhide HC5).size,(unhide HC5).block⟩⟩
            case measure => simp [intOf]; omega
          ·have ey:y=Bq.length:=by omega
           subst ey
           rw [List.take_length] at hM4
           have HM4:=hide hM4
           clear hM4
           go_wp2_with fail
           go_roundw
           case rel =>
            exact ⟨x+1,by omega,by go_num,(unhide HM4).same (fun i j _ _ => mkd_row _ _ _ _ hxl i j),hc4⟩
           case measure => simp [intOf]; omega
        ·have ex:x=A.length:=by omega
         subst ex
         rw [List.take_length] at HM3
         go_wp2_with fail
         go_roundw
         case rel =>
          exact ⟨k+1,by omega,by go_num,by rw [unhide HE]; exact unhide HM3,hbd.trans (hc3.below.mono (by omega)),by rw [hc3.size]; omega⟩
         case measure => simp [intOf]; omega
      ·have HE:Hid ((oRun ini (xs.take (k+1))).ln=(oRun ini (xs.take k)).ln):=by
        show (oRun ini (xs.take (k+1))).ln=_
        rw [unhide HNX,hfl,ex,link_alt ol orr]
       clear el er ol orr bl br slM srM hsp hfl hkl
       go_wp2
       go_roundw
       case rel => exact ⟨k+1,by omega,by go_num,by rw [unhide HE]; exact (unhide HM).keep hB2 hle,hb.trans (hB2.mono (by omega)),by rw [sz_alloc]; omega⟩
       case measure => simp [intOf]; omega
     ·have ok2:=unhide Hok k hlt
      rw [unhide HX] at ok2
      simp only at hk2
      have ex:(⟨xk,xset,xmn,xmx⟩ : El)=⟨4,[],xmn,xmx⟩ := by
       rcases ok2 with ⟨q1,q2,q3,q4⟩ | ⟨q1,q2,q3,q4⟩ | ⟨q1,q2,q3,q4,q5⟩ <;> simp only at q1 q2 q3 q4
       ·omega
       ·omega
       ·obtain rfl:=List.eq_nil_of_length_eq_zero q2
        rw [hk2]
      have okq:0≤xmn∧(xmx = -1∨(xmn≤xmx∧xmx≤250)):=by
       rcases ok2 with ⟨q1,q2,q3,q4⟩ | ⟨q1,q2,q3,q4⟩ | ⟨q1,q2,q3,q4,q5⟩ <;> simp only at q1 q2 q3 q4
       ·omega
       ·omega
       ·exact ⟨q3,q5⟩
      obtain ⟨slM,al,la,sal,nl,el,ol,bl⟩ := hg o (by rw [hB]; simp)
      have hfl:xs.take k=flats B ++ o.1:=by rw [← hst,hB]; simp [flats]
      have hsp:xs=xs.take (k+1) ++ xs.drop (k+1):=(List.take_append_drop _ _).symm
      rw [unhide HNX,hfl,ex] at hsp
      have hkl:(flats B ++ o.1).length=k:=by rw [← hfl,List.length_take]; omega
      obtain ⟨P,hP⟩ : ∃ P,P=flats B:=⟨_,rfl⟩
      obtain ⟨L,hL⟩ : ∃ L,L=o.1:=⟨_,rfl⟩
      obtain ⟨S,hS⟩ : ∃ S,S=xs.drop (k+1):=⟨_,rfl⟩
      rw [← hL] at slM nl el ol bl
      rw [← hP,← hL] at hfl hkl hsp
      rw [← hS] at hsp
      subst hk2
      clear hP hL hS hg hst hB ok2 nl
      simp only [List.length_append] at hkl
      obtain ⟨K,hK⟩ : ∃ K,K=(oRun ini (xs.take k)).ln:=⟨_,rfl⟩
      have HK:=hide hK
      obtain ⟨A,hA⟩ : ∃ A,A=al.la.map (lvs P + ·):=⟨_,rfl⟩
      obtain ⟨Bq,hBq⟩ : ∃ B,B=al.fi.map (lvs P + ·):=⟨_,rfl⟩
      have HE:Hid ((oRun ini (xs.take (k+1))).ln=K ++ [(A,Bq)]):=by
       show (oRun ini (xs.take (k+1))).ln=_
       rw [unhide HNX,hfl,ex,link_rep ol xmn xmx,← hfl,← hK,← hA,← hBq]
      have hnl2:N=lvs P+lvs L+lvs S:=by rw [unhide HN,hsp]; simp only [lvs_app]; simp [lvs]
      have HAN:Hid (∀ i ∈ A,i<N):=fun i hi => by rw [hA] at hi; obtain ⟨j,hj,rfl⟩ := List.mem_map.1 hi; have:=bl.2 j hj; omega
      have HBN:Hid (∀ i ∈ Bq,i<N):=fun i hi => by rw [hBq] at hi; obtain ⟨j,hj,rfl⟩ := List.mem_map.1 hi; have:=bl.1 j hj; omega
      have hxl0:xs.length=P.length+(L.length+1)+S.length:=by
       have:=congrArg List.length hsp
       simp only [List.length_append,List.length_singleton] at this
       omega
      have HAL:A.length≤3000:=by rw [hA,List.length_map]; have:=el.2.1; omega
      have HBL:Bq.length≤3000:=by rw [hBq,List.length_map]; have:=el.1; omega
      obtain ⟨pl,hpl⟩ : ∃ n,n=P.length:=⟨_,rfl⟩
      unfold maxLen at hcap
      have HV:Hid (∀ W,Below G w1 W→ElsAt 0 W.heap.size W (.slice (some ⟨b,off,none⟩) xs.length cap) xs):=fun W hW => (unhide Hv).below (hW.mono hGw) (Nat.le_refl _)
      have HS1:Hid (∀ W,Below G w1 W→Calls Tryz.prog 96 #[.slice (some ⟨b,off,none⟩) xs.length cap,.int .i64 ((k+1:Nat):Int)] W fun e w' => e = .returned (.int .i64 (pl:Int))∧w'=W):=fun W hW => by
       rw [hpl]
       exact l1start_seg _ P (L ++ [⟨4,[],xmn,xmx⟩]) S _ _ W (SegM.rep slM rfl okq.1 okq.2) ((unhide HV W hW).eq (by rw [hsp]; simp)) (by simp only [List.length_append,List.length_singleton]; omega) (by simp only [List.length_append,List.length_singleton]; omega)
      have HL1:Hid (∀ W,Below G w1 W→Calls Tryz.prog 102 #[.slice (some ⟨b,off,none⟩) pl cap] W fun e w' => e = .returned (.int .i64 ((lvs P:Nat):Int))∧w'=W):=fun W hW => by
       rw [hpl]
       exact l2leaves_any _ P W (ElsAt.pre (len:=xs.length) (q:=L ++ ([⟨4,[],xmn,xmx⟩] ++ S)) ((unhide HV W hW).eq (by rw [hsp]; simp))) (by omega)
      have HEL:Hid (∀ W,Below G w1 W→ElsAt 0 W.heap.size W (.slice (some ⟨b,off+pl * 4,none⟩) (k - pl) (cap - pl)) L):=fun W hW => by
       rw [show k - pl=L.length by omega,hpl]
       exact ElsAt.mid (len:=xs.length) (r := [⟨4,[],xmn,xmx⟩] ++ S) ((unhide HV W hW).eq (by rw [hsp]; simp)) (by unfold maxLen; omega)
      have HE1:Hid (∀ W,Below G w1 W→Calls Tryz.prog 64 #[.slice (some ⟨b,off+pl * 4,none⟩) (k - pl) (cap - pl),.int .i64 ((lvs P:Nat):Int),.bool true] W fun e w' => ∃ v',e = .returned v'∧w'.ownsRow W.heap.size 3 1 v' A.length ((A.map Int.ofNat).map mI)∧Below W.heap.size W w'):=fun W hW => by
       have h:=el.2.2 (.slice (some ⟨b,off+pl * 4,none⟩) (k - pl) (cap - pl)) W (lvs P) true (unhide HEL W hW) (by omega) (by have:=lvs_le P; omega)
       rw [edgT,← hA,List.length_map] at h
       exact h
      have HE2:Hid (∀ W,Below G w1 W→Calls Tryz.prog 64 #[.slice (some ⟨b,off+pl * 4,none⟩) (k - pl) (cap - pl),.int .i64 ((lvs P:Nat):Int),.bool false] W fun e w' => ∃ v',e = .returned v'∧w'.ownsRow W.heap.size 3 1 v' Bq.length ((Bq.map Int.ofNat).map mI)∧Below W.heap.size W w'):=fun W hW => by
       have h:=el.2.2 (.slice (some ⟨b,off+pl * 4,none⟩) (k - pl) (cap - pl)) W (lvs P) false (unhide HEL W hW) (by omega) (by have:=lvs_le P; omega)
       rw [edgF,← hBq,List.length_map] at h
       exact h
      have HL2:=HL1
      have f7:IntKind.i64.wrap (k:Int)=(k:Int):=k64i (by omega) (by omega)
      have j1:(pl:Int)≤(k:Int):=by omega
      have j3:(k:Int)≤(cap:Int):=by omega
      have j5:(pl:Int)≤(cap:Int):=by omega
      have hb0:Below G w1 (wr.alloc (.cells #[.int .i64 4,.slice sa xset.length sc,.int .i64 xmn,.int .i64 xmx] 79)):=hb.alloc (by omega) _
      have hz0:(wr.alloc (.cells #[.int .i64 4,.slice sa xset.length sc,.int .i64 xmn,.int .i64 xmx] 79)).heap.size=wr.heap.size+1:=sz_alloc _ _
      clear hpl hA hBq el ol bl slM hsp hfl hkl hxl0 hK Hfo Hok hnl2 HV HNX HEL okq
      go_wp2_with fail
      refine (unhide HS1 _ hb0).mono ?_
      rintro e _ ⟨rfl,rfl⟩
      have f0:(wr.alloc (.cells #[.int .i64 4,.slice sa xset.length sc,.int .i64 xmn,.int .i64 xmx] 79)).cell? ⟨wr.heap.size,0,none⟩ = some (.int .i64 4):=(pushd_alloc wr _).news 0 _ rfl
      obtain ⟨wa,hwa⟩ : ∃ wa,wa=wr.alloc (.cells #[.int .i64 4,.slice sa xset.length sc,.int .i64 xmn,.int .i64 xmx] 79):=⟨_,rfl⟩
      rw [← hwa] at hb0 hz0 hB2 f0 ⊢
      have hb_wa:=hb0
      clear hwa hb0 HS1
      go_upto_region 19 with fail
      go_cut [9] (fun fv wx => wx.ownsRow wa.heap.size 3 1 fv A.length ((A.map Int.ofNat).map mI)∧Below wa.heap.size wa wx)
      case first =>
       go_region_with (first
        | (go_at_call 102; (with_reducible refine (unhide HL1 _ ?_).mono ?_); (first | exact hb_wa | exact hb_wa.drew | exact hb_wa.drew.drew); rintro e w7 ⟨rfl,rfl⟩)
        | (go_at_call 64; (with_reducible refine (unhide HE1 _ ?_).mono ?_); (first | exact hb_wa | exact hb_wa.drew | exact hb_wa.drew.drew); rintro e w8 ⟨v8,rfl,ho8,hb8⟩))
       all_goals go_wp2_with fail
       all_goals go_meet
       all_goals exact ⟨ho8,⟨hb8.os,hb8.tape,hb8.output,hb8.size,hb8.block⟩⟩
      case rest =>
      obtain ⟨ho_wb,hk_wb⟩ := hcut
      obtain ⟨wb,hw_wb⟩ : ∃ wb,wb=wc:=⟨_,rfl⟩
      rw [← hw_wb] at ho_wb hk_wb ⊢
      clear hw_wb
      have hb_wb:Below G w1 wb:=hb_wa.trans (hk_wb.mono (by omega))
      have hz_wb:=hk_wb.size
      have HO_wb:=hide ho_wb
      obtain ⟨fa,fc,rfl⟩ := own_is ho_wb
      clear ho_wb
      go_upto_region 20 with fail
      go_cut [10] (fun fv wx => wx.ownsRow wb.heap.size 3 1 fv Bq.length ((Bq.map Int.ofNat).map mI)∧Below wb.heap.size wb wx)
      case first =>
       go_region_with (first
        | (go_at_call 102; (with_reducible refine (unhide HL2 _ ?_).mono ?_); (first | exact hb_wb | exact hb_wb.drew | exact hb_wb.drew.drew); rintro e w7 ⟨rfl,rfl⟩)
        | (go_at_call 64; (with_reducible refine (unhide HE2 _ ?_).mono ?_); (first | exact hb_wb | exact hb_wb.drew | exact hb_wb.drew.drew); rintro e w8 ⟨v8,rfl,ho8,hb8⟩))
       all_goals go_wp2_with fail
       all_goals go_meet
       all_goals exact ⟨ho8,⟨hb8.os,hb8.tape,hb8.output,hb8.size,hb8.block⟩⟩
      case rest =>
      obtain ⟨ho_wd,hk_wd⟩ := hcut
      obtain ⟨wd,hw_wd⟩ : ∃ wd,wd=wc:=⟨_,rfl⟩
      rw [← hw_wd] at ho_wd hk_wd ⊢
      clear hw_wd
      have hb_wd:Below G w1 wd:=hb_wb.trans (hk_wd.mono (by omega))
      have hz_wd:=hk_wd.size
      have HO_wd:=hide ho_wd
      obtain ⟨ta,tc,rfl⟩ := own_is ho_wd
      clear ho_wd
      have hMd:Mx wd G N (mkd K):=by rw [unhide HK]; exact (((unhide HM).keep hB2 hle).keep (hk_wb.mono (by omega)) (Nat.le_refl _)).keep (hk_wd.mono (by omega)) (Nat.le_refl _)
      have HMd:=hide hMd
      obtain ⟨_,_,e8,hFA⟩ := own_far (own_keep (unhide HO_wb) hk_wd (Nat.le_refl _)) rfl (by have:=HAL; omega)
      cases e8
      obtain ⟨_,_,e9,hTB⟩ := own_far (unhide HO_wd) rfl (by have:=HBL; omega)
      cases e9
      have HFA:=hide hFA
      have HTB:=hide hTB
      have hbd:=hb_wd
      clear hMd hFA hTB HO_wb HO_wd HM hk_wb hk_wd HL1 HE1 HL2 HE2
      have hAl:A.length≤3000:=HAL
      have hBl:Bq.length≤3000:=HBL
      go_wp2_with fail
      go_loopw [12] (fun iv wr => ∃ x:Nat,x≤A.length∧iv = .int .i64 x∧Mx wr G N (mkd (K ++ [(A.take x,Bq)]))∧Chg (G+1) (G+1+N) wd wr) (fun iv _ => A.length - (intOf iv).toNat)
      case atStart => exact ⟨0,Nat.zero_le _,rfl,(unhide HMd).same (fun i j _ _ => by rw [List.take_zero,mkd_none]),Chg.refl _ _ _⟩
      case round =>
       obtain ⟨x,hx,rfl,hM3,hc3⟩ := hrel
       have HM3:=hide hM3
       clear hM3
       by_cases hxl:x<A.length
       ·have hxl':(x:Int)<(A.length:Int):=by omega
        obtain ⟨fg,fo,rfl,hfg,hfg2,hfc⟩ := unhide HFA (by omega)
        have HFC:=hide hfc
        have hax:A[x]<N:=unhide HAN _ (List.getElem_mem hxl)
        clear hfc
        go_wp2_with fail
        go_loopw [13] (fun jv wr => ∃ y:Nat,y≤Bq.length∧jv = .int .i64 y∧Mx wr G N (mkd (K ++ [(A.take x,Bq)] ++ [([A[x]],Bq.take y)]))∧Chg (G+1) (G+1+N) wd wr) (fun jv _ => Bq.length - (intOf jv).toNat)
        case atStart => exact ⟨0,Nat.zero_le _,rfl,(unhide HM3).same (fun i j _ _ => by rw [List.take_zero,mkd_none2]),hc3⟩
        case round =>
         clear HM3 hc3
         obtain ⟨y,hy,rfl,hM4,hc4⟩ := hrel
         by_cases hyl:y<Bq.length
         ·have hyl':(y:Int)<(Bq.length:Int):=by omega
          obtain ⟨tg,tof,rfl,htg,htg2,htc⟩ := unhide HTB (by omega)
          have hby:Bq[y]<N:=unhide HBN _ (List.getElem_mem hyl)
          obtain ⟨ax,hAX⟩ : ∃ ax,ax=A[x]:=⟨_,rfl⟩
          obtain ⟨ly,hBY⟩ : ∃ ly,ly=Bq[y]:=⟨_,rfl⟩
          have q1:=unhide HFC wr (hc4.block _ (Or.inr (by omega))) x hxl
          have q2:=htc wr (hc4.block _ (Or.inr (by omega))) y hyl
          rw [← hAX] at q1 hax
          rw [← hBY] at q2 hby
          have q3:=hM4.top.cell hax
          have q4:=(hM4.row ax hax).cell hby
          have q5:=(hM4.row ax hax).frozen ly
          have hax':(ax:Int)<(N:Int):=by omega
          have hby':(ly:Int)<(N:Int):=by omega
          have HM4:=hide hM4
          have HAX:=hide hAX
          have HBY:=hide hBY
          have HM5:Hid (Mx (wr.setCell ⟨G+1+ax,ly,none⟩ (.bool true)) G N (mkd (K ++ [(A.take x,Bq)] ++ [([A[x]],Bq.take (y+1))]))):=(hM4.put (j:=ly) hax).same (fun i j _ _ => by rw [mkd_step _ _ _ _ _ hxl hyl,hAX,hBY])
          have HC5:Hid (Chg (G+1) (G+1+N) wd (wr.setCell ⟨G+1+ax,ly,none⟩ (.bool true))):=hc4.put (by omega) (by omega) _
          clear htc hM4 hAX hBY HM4 HAX HBY
          go_wp2_with fail
          go_region
          all_goals
           go_wp2
           go_roundw
           case rel =>
            exact ⟨y+1,by omega,by go_num,⟨(unhide HM5).top,(unhide HM5).row⟩,⟨(unhide HC5).os,(unhide HC5).tape,(unhide HC5).output,(unhide HC5).size,(unhide HC5).block⟩⟩
           case measure => simp [intOf]; omega
         ·have ey:y=Bq.length:=by omega
          subst ey
          rw [List.take_length] at hM4
          have HM4:=hide hM4
          clear hM4
          go_wp2_with fail
          go_roundw
          case rel =>
           exact ⟨x+1,by omega,by go_num,(unhide HM4).same (fun i j _ _ => mkd_row _ _ _ _ hxl i j),hc4⟩
          case measure => simp [intOf]; omega
       ·have ex:x=A.length:=by omega
        subst ex
        rw [List.take_length] at HM3
        go_wp2_with fail
        go_roundw
        case rel =>
         exact ⟨k+1,by omega,by go_num,by rw [unhide HE]; exact unhide HM3,hbd.trans (hc3.below.mono (by omega)),by rw [hc3.size]; omega⟩
        case measure => simp [intOf]; omega
    ·have ek:k=xs.length:=by omega
     subst ek
     rw [List.take_length] at HM
     have HQ:Hid (∃ G' cp,Ending.returned (.slice (some ⟨G,0,none⟩) N N) = .returned (.slice (some ⟨G',0,none⟩) N cp)∧w1.heap.size≤G'∧Mx wr G' N (mkd (oRun ini xs).ln)∧G'+1+N≤wr.heap.size∧Below w1.heap.size w1 wr):=⟨G,N,rfl,hGw,unhide HM,hle,hb.mono hGw⟩
     clear HM
     go_wp2
     go_ret
     exact unhide HQ
set_option maxHeartbeats 1000000 in
theorem l1all_any (w:World):Calls Tryz.prog 100 #[] w fun e w' => ∃ v,e = .returned v∧SlAt mI 0 0 w'.heap.size w' v [0,255]∧Below w.heap.size w w':=by
 go_enter Tryz.func100,Tryz.ntmps100
 go_wp2
 go_ret
 refine ⟨_,rfl,⟨_,2,rfl,by unfold maxLen; simp,fun _ => ⟨w.heap.size,0,rfl,Nat.zero_le _,by rw [sz_alloc]; exact Nat.lt_succ_self _,fun i hi => ?_⟩⟩,below1 w _⟩
 have hi':i<2:=hi
 match i,hi' with
 | 0,_ => exact (pushd_alloc w _).news 0 _ rfl
 | 1,_ => exact (pushd_alloc w _).news 1 _ rfl
set_option maxHeartbeats 1000000 in
set_option maxRecDepth 100000 in
theorem l1same_any (u v:Value) (xs ys:List Int) (w:World) (hu:SlAt mI 0 0 w.heap.size w u xs) (hv:SlAt mI 0 0 w.heap.size w v ys) :
  Calls Tryz.prog 103 #[u,v] w fun e w' => RetB e (xs=ys)∧∃ q,w'=w.drewN q:=by
 obtain ⟨a,cap,rfl,hl,hc⟩ := hu
 obtain ⟨a2,cap2,rfl,hl2,hc2⟩ := hv
 unfold maxLen at hl hl2
 by_cases hn:xs.length=ys.length
 ·have hn':((xs.length:Int) != (ys.length:Int))=false:=by simp [hn]
  have HN:=hide hn
  have hle1:xs.length≤ys.length:=by omega
  have hle2:ys.length≤xs.length:=by omega
  clear hn
  go_enter Tryz.func103,Tryz.ntmps103
  go_wp2_with fail
  go_loopw [5] (fun i wr => (∃ k:Nat,k≤xs.length∧i = .int .i64 k∧∀ j:Nat,j<k→xs[j]?.getD 0=ys[j]?.getD 0)∧∃ q,wr=w.drewN q) (fun i _ => xs.length - (intOf i).toNat)
  case atStart => exact ⟨⟨0,Nat.zero_le _,rfl,fun j hj => absurd hj (Nat.not_lt_zero _)⟩,0,rfl⟩
  case round =>
   obtain ⟨⟨k,hk,rfl,he⟩,q,rfl⟩ := hrel
   have He:=hide he
   clear he
   by_cases h1:k<xs.length
   ·have h1':(k:Int)<(xs.length:Int):=by omega
    have h2':(k:Int)<(ys.length:Int):=by omega
    obtain ⟨b,off,rfl,-,-,hcell⟩ := hc (by omega)
    obtain ⟨b2,off2,rfl,-,-,hcell2⟩ := hc2 (by omega)
    have hx:w.cell? ⟨b,off+k,none⟩ = some (.int .i64 (xs[k]?.getD 0)):=hcell k h1
    have hy:w.cell? ⟨b2,off2+k,none⟩ = some (.int .i64 (ys[k]?.getD 0)):=hcell2 k (by omega)
    have Hst:Hid (xs[k]?.getD 0=ys[k]?.getD 0→∀ j:Nat,j<k+1→xs[j]?.getD 0=ys[j]?.getD 0):=fun h j hj => by
     by_cases e:j=k
     ·subst e; exact h
     ·exact unhide He j (by omega)
    have Hno:Hid (xs[k]?.getD 0 ≠ ys[k]?.getD 0→xs ≠ ys):=fun h e => h (by rw [e])
    clear hcell hcell2 hc hc2 He
    generalize xs[k]?.getD 0=x at *
    generalize ys[k]?.getD 0=y at *
    by_cases g0:x=y
    ·subst g0
     have HQ:=hide (unhide Hst rfl)
     clear Hst Hno
     go_wp2_with fail
     go_quiet (fail)
     go_wp2
     go_roundw
     case rel => exact ⟨⟨k+1,by omega,by go_num,unhide HQ⟩,_,rfl⟩
     case measure => simp [intOf]; omega
    ·have g0':(x != y)=true:=by simp [g0]
     have HQ:=hide (unhide Hno g0)
     clear Hst Hno
     go_wp2_with fail
     go_quiet (fail)
     go_wp2
     go_ret
     exact ⟨RetB.no (unhide HQ),_,drew2 _ _ _⟩
   ·obtain rfl:k=xs.length:=by omega
    clear hc hc2
    have HQ:Hid (xs=ys):=by
     apply List.ext_getElem (unhide HN)
     intro i h1 h2
     have:=unhide He i h1
     simpa [h1,h2] using this
    go_wp2
    go_ret
    exact ⟨RetB.yes (unhide HQ),_,rfl⟩
 ·have hn':((xs.length:Int) != (ys.length:Int))=true:=by simp; omega
  clear hc hc2
  go_enter Tryz.func103,Tryz.ntmps103
  go_wp2
  go_ret
  exact ⟨RetB.no (fun h => hn (by rw [h])),0,rfl⟩
theorem mem_getL {xs:List Int} {z:Int}:z ∈ xs↔∃ k:Nat,k<xs.length∧xs[k]?.getD 0=z:=by
 rw [List.mem_iff_getElem]
 constructor
 ·rintro ⟨k,hk,rfl⟩
  exact ⟨k,hk,by simp [hk]⟩
 ·rintro ⟨k,hk,rfl⟩
  exact ⟨k,hk,by simp [hk]⟩
set_option maxHeartbeats 1000000 in
theorem l2inList_any (v:Value) (xs:List Int) (k:Int) (w:World) (hv:SlAt mI 0 0 w.heap.size w v xs) :
  Calls Tryz.prog 67 #[v,.int .i64 k] w fun e w' => RetB e (k ∈ xs)∧∃ q,w'=w.drewN q:=by
 obtain ⟨a,cap,rfl,hl,hc⟩ := hv
 unfold maxLen at hl
 go_enter Tryz.func67,Tryz.ntmps67
 go_wp2
 go_loopw [5] (fun i wr => (∃ m:Nat,m≤xs.length∧i = .int .i64 m∧∀ j:Nat,j<m→xs[j]?.getD 0 ≠ k)∧∃ q,wr=w.drewN q) (fun i _ => xs.length - (intOf i).toNat)
 case atStart => exact ⟨⟨0,Nat.zero_le _,rfl,fun i hi => absurd hi (Nat.not_lt_zero _)⟩,0,rfl⟩
 case round =>
  obtain ⟨⟨m,hm,rfl,hp⟩,q,rfl⟩ := hrel
  have Hp:=hide hp
  clear hp
  by_cases hlt:m<xs.length
  ·have hlt':(m:Int)<(xs.length:Int):=by omega
   obtain ⟨b,off,rfl,-,-,hcell⟩ := hc (by omega)
   have hx:=hcell m hlt
   unfold mI at hx
   clear hcell hc
   by_cases he:xs[m]?.getD 0=k
   ·have HN:Hid (k ∈ xs):=mem_getL.2 ⟨m,hlt,he⟩
    rw [he] at hx
    clear he
    go_wp2
    go_ret
    exact ⟨RetB.yes (unhide HN),_,rfl⟩
   ·have HN:Hid (∀ j:Nat,j<m+1→xs[j]?.getD 0 ≠ k):=fun j hj => by
     by_cases e:j=m
     ·subst e; exact he
     ·exact unhide Hp j (by omega)
    generalize xs[m]?.getD 0=u at *
    have he':(u == k)=false:=by simp [he]
    go_wp2
    go_roundw
    case rel => exact ⟨⟨m+1,by omega,by go_num,unhide HN⟩,_,rfl⟩
    case measure => simp [intOf]; omega
  ·obtain rfl:m=xs.length:=by omega
   have HN:Hid (k ∉ xs):=fun h => by
    obtain ⟨j,hj,e⟩ := mem_getL.1 h
    exact unhide Hp j hj e
   clear hc
   go_wp2
   go_ret
   exact ⟨RetB.no (unhide HN),_,rfl⟩
end Go.Proofs.YtlidckepahpaeaaGreatDoor
