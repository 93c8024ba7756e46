import Derived.Test.YtlidckepahpaeaaGreatDoorPy
import Derived.Test.YtlidckepahpaeaaGreatDoorPk26
import Derived.Test.YtlidckepahpaeaaGreatDoorY6
import Derived.Test.YtlidckepahpaeaaGreatDoorY7
import Derived.Test.YtlidckepahpaeaaGreatDoorPk21
import Derived.Test.YtlidckepahpaeaaGreatDoorPa11
import Derived.Test.YtlidckepahpaeaaGreatDoorPa12
import Derived.Test.YtlidckepahpaeaaGreatDoorPk36
import Derived.Test.YtlidckepahpaeaaGreatDoorPk23
import Derived.Test.YtlidckepahpaeaaGreatDoorPk31
import Derived.Test.YtlidckepahpaeaaGreatDoorPk24
import Derived.Test.YtlidckepahpaeaaGreatDoorPk29
import Derived.Deep.RegionWith
namespace Go.Proofs.YtlidckepahpaeaaGreatDoor
open Go.RowKit
def GQ (Q:Value→List El→Prop) (u:Value) (t:List El × Int):Prop :=
 SzV u t.2∧SegM t.1 t.2∧(t.2≤500→1≤t.2∧∃ U L,ExpV u U∧Q U L∧XpS t.1 L∧Nice L∧(L.length:Int)≤2 * t.2 - 1∧SegX t.1 L)
theorem closQ {Q:Value→List El→Prop} (hQ:ClosX Q):Clos (GQ Q):=by
 refine ⟨fun h => h.1,?_,?_,?_,?_,?_⟩
 ·exact ⟨SzV.e,SegM.leaf (Or.inl rfl),fun _ => ⟨by omega,eV,_,ExpV.e,hQ.e,xpS_leaf _ (Or.inl rfl) (by simp),Nice.op _ _ _ (by simp [In64]) (by simp [In64]) (by simp [In64]),by simp,SegX.leaf (Or.inl rfl)⟩⟩
 ·intro xs g hc hw
  exact ⟨SzV.s _ _ _ _,SegM.leaf (Or.inr rfl),fun _ => ⟨by omega,sV g,_,ExpV.s g,hQ.s hc hw,xpS_leaf _ (Or.inr rfl) (by have:=canon_len hc; show xs.length≤1048576; omega),nice_set hc,by simp,SegX.leaf (Or.inr rfl)⟩⟩
 ·rintro u v l r ⟨hu1,hu2,hu3⟩ ⟨hv1,hv2,hv3⟩
  refine ⟨SzV.cat hu1 hv1,SegM.bin hu2 hv2 (Or.inl rfl),fun hle => ?_⟩
  obtain ⟨e1,e2⟩ := cap_small hle
  have b1:=hu1.2
  have b2:=hv1.2
  obtain ⟨p1,U,L,a1,a2,a3,a4,a5,a6⟩ := hu3 (by omega)
  obtain ⟨p2,V,R,c1,c2,c3,c4,c5,c6⟩ := hv3 (by omega)
  simp only at hle e1 ⊢
  exact ⟨by omega,cV U V,_,ExpV.cat hu1.iface hv1.iface a1 c1,hQ.cat a2 c2,xpS_bin 2 (Or.inl rfl) _ _ L R _ _ hu2 hv2 a3 c3 a4 c4 (by omega) (by omega),(a4.app c4).app (Nice.op _ _ _ (by simp [In64]) (by simp [In64]) (by simp [In64])),by rw [List.length_append,List.length_append]; simp; omega,SegX.bin a6 c6 (Or.inl rfl)⟩
 ·rintro u v l r ⟨hu1,hu2,hu3⟩ ⟨hv1,hv2,hv3⟩
  refine ⟨SzV.alt hu1 hv1,SegM.bin hu2 hv2 (Or.inr rfl),fun hle => ?_⟩
  obtain ⟨e1,e2⟩ := cap_small hle
  have b1:=hu1.2
  have b2:=hv1.2
  obtain ⟨p1,U,L,a1,a2,a3,a4,a5,a6⟩ := hu3 (by omega)
  obtain ⟨p2,V,R,c1,c2,c3,c4,c5,c6⟩ := hv3 (by omega)
  simp only at hle e1 ⊢
  exact ⟨by omega,aV U V,_,ExpV.alt hu1.iface hv1.iface a1 c1,hQ.alt a2 c2,xpS_bin 3 (Or.inr rfl) _ _ L R _ _ hu2 hv2 a3 c3 a4 c4 (by omega) (by omega),(a4.app c4).app (Nice.op _ _ _ (by simp [In64]) (by simp [In64]) (by simp [In64])),by rw [List.length_append,List.length_append]; simp; omega,SegX.bin a6 c6 (Or.inr rfl)⟩
 ·rintro u o mn mx ⟨hu1,hu2,hu3⟩ o2 o3 o4
  refine ⟨SzV.rep hu1 o2 o3 o4,SegM.rep hu2 rfl o2 (o4.imp id (fun q => q)),fun hle => ?_⟩
  obtain ⟨e1,e2⟩ := cap_small hle
  have b1:=hu1.2
  have hge:=rep_ge o.2 mn mx b1.1 o2 o4
  obtain ⟨p1,U,L,a1,a2,a3,a4,a5,a6⟩ := hu3 (by omega)
  obtain ⟨T,x,rfl⟩ := hu1.iface
  obtain ⟨T',x',rfl⟩ := a1.1
  simp only at hle e1 ⊢
  rw [e1]
  have a7:SegX (o.1 ++ [⟨4,[],mn,mx⟩]) (repX L mn mx):=SegX.rep a6 rfl
  unfold repX at a7
  rcases o4 with rfl | ⟨o4,o5⟩
  ·exact ⟨by omega,jV (partsV (.iface T' x') mn (-1)),jn (partsX L mn (-1)),ExpV.rep0 ⟨_,_,rfl⟩ (jV_iface (partsV_ne _ _ _ (Or.inl rfl)) (parts_iface ⟨_,_,rfl⟩ _ _)) (fun w => expandRep_star T x T' x' mn w a1 o2 o3),qs_join hQ (qs_parts hQ a2 mn (-1) o2) (partsV_ne _ _ _ (Or.inl rfl)),xpS_star mn _ L _ hu2 a3 o2 o3 a4 (by omega),parts_nice a4 _ _ o2 o3,parts_len L o.2 mn (-1) a5 o2 (Or.inl rfl),by rwa [if_neg (by omega)] at a7⟩
  ·by_cases h0:mx=0
   ·subst h0
    exact ⟨by omega,eV,[⟨0,[],0,0⟩],ExpV.rep0 ⟨_,_,rfl⟩ ⟨_,_,rfl⟩ (fun w => expandRep_zero T x mn w),hQ.e,xpS_zero mn _ L _ hu2 a3,Nice.op _ _ _ (by simp [In64]) (by simp [In64]) (by simp [In64]),by simp; omega,by rwa [if_pos rfl] at a7⟩
   ·obtain ⟨m,rfl⟩ := Int.eq_ofNat_of_zero_le o2
    obtain ⟨M,rfl⟩ := Int.eq_ofNat_of_zero_le (show 0≤mx by omega)
    have hs:(Int.ofNat M = -1)∨(0<(M:Int)∧(m:Int)≤(M:Int)∧0≤(m:Int)):=Or.inr ⟨by omega,by omega,by omega⟩
    refine ⟨by omega,jV (partsV (.iface T' x') m M),jn (partsX L m M),ExpV.rep0 ⟨_,_,rfl⟩ (jV_iface (partsV_ne _ _ _ hs) (parts_iface ⟨_,_,rfl⟩ _ _)) (fun w => ?_),qs_join hQ (qs_parts hQ a2 m M o2) (partsV_ne _ _ _ hs),xpS_count m M _ L _ hu2 a3 (by omega) (by omega) (by omega) a4 (by omega),parts_nice a4 _ _ o2 o3,parts_len L o.2 m M a5 o2 (Or.inr ⟨by omega,by omega⟩),by rwa [if_neg (by omega)] at a7⟩
    by_cases he:m=M
    ·exact expandRep_count0 T x T' x' m M w a1 he (by omega) (by omega)
    ·exact expandRep_count1 T x T' x' m M w a1 (by omega) (by omega) (by omega)
theorem valid_q {Q:Value→List El→Prop} (hQ:ClosX Q) {xs:List El} (h:ValidT xs):∃ L,XpS xs L∧Nice L∧L.length≤1000∧SegX xs L∧(∃ U,Q U L)∧∀ u c,GQ Q u (xs,c)→c≤500→∃ U,ExpV u U∧Q U L:=by
 obtain ⟨u,c',hu⟩ := valid_g (closQ hQ) h
 obtain ⟨h1,ok,sh,c,hc1,hc2⟩ := h
 have hr:=hu.2.1.run []
 simp only at hr
 rw [hc1] at hr
 simp only [List.cons.injEq,and_true] at hr
 obtain ⟨-,-,h5⟩ := hu
 obtain ⟨-,U,L,a1,a2,a3,a4,a5,a6⟩ := h5 (by simp only; omega)
 simp only at a5
 refine ⟨L,a3,a4,by omega,a6,⟨U,a2⟩,fun u' c' hu' hc' => ?_⟩
 obtain ⟨-,U',L',b1,b2,-,-,-,b6⟩ := hu'.2.2 hc'
 rw [SegX.one a6 b6]
 exact ⟨U',b1,b2⟩
def PosS (U:Value) (L:List El):Prop:=∃ a ln ss c,AddV U (lvs L) a ln ss∧NuS L a.nl∧EdS L a∧SegO L (lvs L) a ln ss∧Bdd a (lvs L)∧AscI a∧SegM L c∧AllOk L
theorem closPos:ClosX PosS:=by
 refine ⟨?_,?_,?_,?_,?_⟩
 ·exact ⟨⟨true,[],[]⟩,[],[],1,AddV.e,nu_e,ed_e,SegO.e,by constructor <;> simp,⟨List.Pairwise.nil,List.Pairwise.nil⟩,SegM.leaf (Or.inl rfl),AllOk.one (Or.inr (Or.inl ⟨Or.inl rfl,rfl,rfl,rfl⟩))⟩
 ·intro xs g hc hw
  exact ⟨⟨false,[0],[0]⟩,[],[xs],1,AddV.s hw hc,nu_s xs,ed_s xs,SegO.s xs,by constructor <;> simp [lvs],⟨List.pairwise_singleton _ _,List.pairwise_singleton _ _⟩,SegM.leaf (Or.inr rfl),AllOk.one (Or.inl ⟨rfl,hc,rfl,rfl⟩)⟩
 ·rintro u v L R ⟨a,la,sa,c,u1,u2,u3,u4,u5,u6,u7,u8⟩ ⟨b,lb,sb,d,v1,v2,v3,v4,v5,v6,v7,v8⟩
  have e:=lvs_cat L R 2 (by decide)
  have h1:=AddV.cat u1 v1 u5
  have h4:=u4.cat v4
  have h5:Bdd (itCat a (b.sh (lvs L))) (lvs L+lvs R):=(u5.mono (Nat.le_add_right _ _)).cat (v5.sh (lvs L))
  rw [← e] at h1 h4 h5
  exact ⟨_,_,_,_,h1,nu_cat L R _ _ d v7 u2 v2,ed_cat L R _ _ d v7 u3 v3 u2 v2,h4,h5,u6.cat v6 u5,SegM.bin u7 v7 (Or.inl rfl),(u8.app v8).app (AllOk.one (Or.inr (Or.inl ⟨Or.inr (Or.inl rfl),rfl,rfl,rfl⟩)))⟩
 ·rintro u v L R ⟨a,la,sa,c,u1,u2,u3,u4,u5,u6,u7,u8⟩ ⟨b,lb,sb,d,v1,v2,v3,v4,v5,v6,v7,v8⟩
  have e:=lvs_cat L R 3 (by decide)
  have h1:=AddV.alt u1 v1 u5
  have h4:=u4.alt v4
  have h5:Bdd (itAlt a (b.sh (lvs L))) (lvs L+lvs R):=(u5.mono (Nat.le_add_right _ _)).alt (v5.sh (lvs L))
  rw [← e] at h1 h4 h5
  exact ⟨_,_,_,_,h1,nu_alt L R _ _ d v7 u2 v2,ed_alt L R _ _ d v7 u3 v3,h4,h5,u6.alt v6 u5,SegM.bin u7 v7 (Or.inr rfl),(u8.app v8).app (AllOk.one (Or.inr (Or.inl ⟨Or.inr (Or.inr rfl),rfl,rfl,rfl⟩)))⟩
 ·rintro u L mn mx ⟨a,la,sa,c,u1,u2,u3,u4,u5,u6,u7,u8⟩ o2 o3 o4
  have e:lvs (L ++ [⟨4,[],mn,mx⟩])=lvs L:=by rw [lvs_app]; simp [lvs]
  have h1:=AddV.rep u1 u5 mn mx
  have h4:=u4.rep mn mx
  have h5:Bdd (itRep a mn) (lvs L):=u5
  rw [← e] at h1 h4 h5
  exact ⟨_,_,_,_,h1,nu_rep L _ mn mx u2 u7.ne,ed_rep L _ mn mx u3,h4,h5,u6,SegM.rep u7 rfl o2 o4,u8.app (AllOk.one (Or.inr (Or.inr ⟨rfl,rfl,o2,o3,o4⟩)))⟩
set_option maxHeartbeats 4000000 in
set_option maxRecDepth 100000 in
theorem l2samePend_any (u v:Value) (xs ys:List Int) (e f:Bool) (w:World) (hu:SlAt mI 0 0 w.heap.size w u xs) (hv:SlAt mI 0 0 w.heap.size w v ys) :
  Calls Tryz.prog 68 #[.agg #[u,.bool e],.agg #[v,.bool f]] w fun x w' => RetB x (xs=ys∧e=f)∧Below w.heap.size w w':=by
 obtain ⟨a,c,rfl,-,-⟩ := id hu
 obtain ⟨a2,c2,rfl,-,-⟩ := id hv
 have hB:=below2 w (.cells #[.slice a xs.length c,.bool e] 74) (.cells #[.slice a2 ys.length c2,.bool f] 74)
 have HC:=hide (l1same_any _ _ xs ys _ (hu.below hB (Nat.le_refl _)) (hv.below hB (Nat.le_refl _)))
 have HB:=hide hB
 clear hu hv hB
 cases e <;> cases f
 ·go_enter Tryz.func68,Tryz.ntmps68
  go_wp2_with fail
  refine (unhide HC).mono ?_
  rintro x w1 ⟨hr,q,rfl⟩
  rcases hr.cases with ⟨rfl,h⟩ | ⟨rfl,h⟩
  ·have HH:=hide h
   clear h hr
   go_wp2
   go_ret
   exact ⟨RetB.yes ⟨unhide HH,by simp⟩,below_drewN (unhide HB) _⟩
  ·go_wp2
   go_ret
   exact ⟨RetB.no (fun k => h k.1),below_drewN (unhide HB) _⟩
 ·go_enter Tryz.func68,Tryz.ntmps68
  go_wp2
  go_ret
  exact ⟨RetB.no (fun k => by cases k.2),unhide HB⟩
 ·go_enter Tryz.func68,Tryz.ntmps68
  go_wp2
  go_ret
  exact ⟨RetB.no (fun k => by cases k.2),unhide HB⟩
 ·go_enter Tryz.func68,Tryz.ntmps68
  go_wp2_with fail
  refine (unhide HC).mono ?_
  rintro x w1 ⟨hr,q,rfl⟩
  rcases hr.cases with ⟨rfl,h⟩ | ⟨rfl,h⟩
  ·have HH:=hide h
   clear h hr
   go_wp2
   go_ret
   exact ⟨RetB.yes ⟨unhide HH,by simp⟩,below_drewN (unhide HB) _⟩
  ·go_wp2
   go_ret
   exact ⟨RetB.no (fun k => h k.1),below_drewN (unhide HB) _⟩
def Alk (S:List (List Int)) (a b:Nat):Prop:=∀ i,i<S.length→(inPs (S[i]?.getD []) (a:Int)↔inPs (S[i]?.getD []) (b:Int))
theorem alk_equ (S:List (List Int)):Equ (fun _ => True) (Alk S):=⟨fun _ _ _ _ => Iff.rfl,fun _ _ _ _ h i hi => (h i hi).symm,fun _ _ _ _ _ _ h g i hi => (h i hi).trans (g i hi)⟩
theorem has_r (v:Value) (set:List Int) (b N:Nat) (r:Bool) (w:World) (hr:r=true↔inPs set (b:Int)) (hv:SlAt mI 0 0 N w v set) (hN:N≤w.heap.size) (hl:set.length≤1048576) :
  Calls Tryz.prog 66 #[v,.int .i64 (b:Nat)] w fun e w' => e = .returned (.bool r)∧w'=w :=
 (l1has_any v set b w (hv.mono (Nat.le_refl _) hN) hl).mono (fun e w' ⟨⟨r',h1,h2⟩,h3⟩ => ⟨by rw [h1]; congr 2; rw [Bool.eq_iff_iff,h2,hr],h3⟩)
set_option maxHeartbeats 8000000 in
set_option maxRecDepth 100000 in
open Classical in
theorem l2alike_any (sv:Value) (S:List (List Int)) (w:World) (hS:SsAt mI 0 w.heap.size w sv S) (hn:S.length≤1000) (hl:∀ i:Nat,i<S.length→(S[i]?.getD []).length≤1048576) :
  Calls Tryz.prog 34 #[sv] w fun e w' => ∃ (v:Value) (out:List Nat),e = .returned v∧w'.ownsRow w.heap.size 3 1 v 256 (out.map mN)∧out.length=256∧(∀ b,b<256→FstIn (fun _ => True) (fun p => out[p]?.getD 0=p) (Alk S) b (out[b]?.getD 0))∧Below w.heap.size w w':=by
 obtain ⟨sa,sc,rfl,hsc,hcs⟩ := id hS
 have HL:=hide hl
 have HS:=hide hS
 have HCS:=hide hcs
 clear hS hcs hl
 go_enter Tryz.func34,Tryz.ntmps34
 go_wp2_with fail
 go_loopw [3,4] (fun ov bv wr => ∃ (b:Nat) (out:List Nat),b≤256∧bv = .int .i64 (b:Nat)∧out.length=b∧wr.ownsRow w.heap.size 3 1 ov out.length (out.map mN)∧Below w.heap.size w wr∧∀ j,j<b→FstIn (fun _ => True) (fun p => out[p]?.getD 0=p) (Alk S) j (out[j]?.getD 0)) (fun _ bv _ => 256 - (intOf bv).toNat)
 case atStart => exact ⟨0,[],by omega,rfl,rfl,World.ownsRow_nil _ _ _ _,Below.refl _ _,fun j hj => by omega⟩
 case round =>
  obtain ⟨b,out,hb,rfl,hlen,hown,hB,hV⟩ := hrel
  obtain ⟨w1,rfl⟩ : ∃ w1,w1=wr:=⟨_,rfl⟩
  have hz1:=hB.size
  obtain ⟨oa,oc,rfl⟩ := own_is hown
  have hol:out.length≤256:=by omega
  have HO:=hide hown
  have HB:=hide hB
  have HV:=hide hV
  have HLEN:=hide hlen
  clear hown hB hV hlen
  by_cases hlt:b<256
  ·have hlt':(b:Int)<256:=by omega
   go_wp2_with fail
   go_loopw [5] (fun cv wx => ∃ c:Nat,c≤b∧cv = .int .i64 (c:Nat)∧Obk w1.heap.size w1 wx∧∀ p,p<c→out[p]?.getD 0=p→¬ Alk S p b) (fun cv _ => b - (intOf cv).toNat)
   case atStart => exact ⟨0,by omega,rfl,Obk.refl _ _,fun p hp => by omega⟩
   case round =>
    obtain ⟨c,hc,rfl,hO,hno⟩ := hrel
    obtain ⟨w2,rfl⟩ : ∃ w2,w2=wr:=⟨_,rfl⟩
    have hz2:=Nat.le_of_eq hO.size.symm
    have hown2:=own_blk (unhide HO) (fun g hg => hO.block g (by have:=((unhide HO).lt g hg).2; omega))
    have hB2:Below w.heap.size w w2:=(unhide HB).trans (hO.blw.mono (by omega))
    by_cases hcl:c<b
    ·have hcl':(c:Int)<(b:Int):=by omega
     have hco:c<out.length:=by rw [unhide HLEN]; exact hcl
     have hco':(c:Int)<(out.length:Int):=by omega
     obtain ⟨x,hx⟩ : ∃ x,out[c]? = some x:=⟨_,List.getElem?_eq_getElem hco⟩
     obtain ⟨og,ocap,e9,hcell⟩ := own_at hown2 (by omega)
     have hoax:oa=some ⟨og,0,none⟩∧oc=ocap:=by simpa using e9
     obtain ⟨era,erc⟩ := hoax
     have y0:w2.cell? ⟨og,c,none⟩ = some (.int .i64 (x:Nat)):=by rw [hcell c hco,List.getElem?_map,hx]; rfl
     have HX:=hide hx
     have HNO:=hide hno
     have HO2:=hide hO
     clear hx hno hO hcell e9 hown2 hB2
     subst era
     subst erc
     by_cases hxc:x=c
     ·have hxi:(x:Int)=(c:Int):=by omega
      rw [hxi] at y0
      clear hxi
      have HXC:=hide hxc
      clear hxc
      go_wp2_with fail
      go_loopw [6,7] (fun mv iv wx => ∃ (i:Nat) (sm:Bool),i≤S.length∧iv = .int .i64 (i:Nat)∧mv = .bool sm∧Obk w1.heap.size w1 wx∧(sm=true→∀ i',i'<i→(inPs (S[i']?.getD []) (b:Int)↔inPs (S[i']?.getD []) (c:Int)))∧(sm=false→∃ i',i'<S.length∧¬ (inPs (S[i']?.getD []) (b:Int)↔inPs (S[i']?.getD []) (c:Int)))) (fun _ iv _ => S.length - (intOf iv).toNat)
      case atStart => exact ⟨0,true,by omega,rfl,by simp,unhide HO2,fun _ i' hi' => by omega,fun h => by cases h⟩
      case round =>
       clear HO2
       obtain ⟨i,sm,hi,rfl,rfl,hO,hs1,hs2⟩ := hrel
       obtain ⟨w3,rfl⟩ : ∃ w3,w3=wr:=⟨_,rfl⟩
       have hz3:=Nat.le_of_eq hO.size.symm
       cases sm
       ·have HO2:=hide hO
        have HS2:=hide (hs2 rfl)
        clear hO hs1 hs2
        by_cases hil:i<S.length
        ·have hil':(i:Int)<(S.length:Int):=by omega
         go_wp2
         go_roundw
         case rel => exact ⟨c+1,by omega,by go_num,unhide HO2,fun p hp hl => (by
          by_cases e:p=c
          ·subst e
           obtain ⟨i',h1,h2⟩ := unhide HS2
           exact fun hh => h2 (hh i' h1).symm
          ·exact unhide HNO p (by omega) hl)⟩
         case measure => simp [intOf]; omega
        ·have hil':¬ (i:Int)<(S.length:Int):=by omega
         go_wp2
         go_roundw
         case rel => exact ⟨c+1,by omega,by go_num,unhide HO2,fun p hp hl => (by
          by_cases e:p=c
          ·subst e
           obtain ⟨i',h1,h2⟩ := unhide HS2
           exact fun hh => h2 (hh i' h1).symm
          ·exact unhide HNO p (by omega) hl)⟩
         case measure => simp [intOf]; omega
       by_cases hil:i<S.length
       ·have hil':(i:Int)<(S.length:Int):=by omega
        obtain ⟨sb,so,e8,hsb,hel⟩ := unhide HCS (by omega)
        obtain ⟨s,hsc1,hsl,-⟩ := hel i hil
        have hB3:Below w.heap.size w w3:=(unhide HB).trans (hO.blw.mono (by omega))
        have y1:w3.cell? ⟨sb,so+i,none⟩ = some s:=by rw [hB3.cell (p:=⟨sb,so+i,none⟩) hsb]; exact hsc1
        have hsl3:=hsl.below hB3 (Nat.le_refl _)
        have hlen:=unhide HL i hil
        have HO2:=hide hO
        have HS1:=hide (hs1 rfl)
        obtain ⟨si,hsi⟩ : ∃ si,si=S[i]?.getD []:=⟨_,rfl⟩
        rw [← hsi] at hsl hsl3 hlen
        obtain ⟨rb,hrb⟩ : ∃ rb:Bool,rb=true↔inPs si (b:Int):=⟨decide (inPs si (b:Int)),decide_eq_true_iff⟩
        obtain ⟨rcc,hrc⟩ : ∃ rc:Bool,rc=true↔inPs si (c:Int):=⟨decide (inPs si (c:Int)),decide_eq_true_iff⟩
        have HEQ:Hid (rb=rcc↔(inPs (S[i]?.getD []) (b:Int)↔inPs (S[i]?.getD []) (c:Int))):=by show (rb=rcc↔_); rw [← hsi,← hrb,← hrc,Bool.eq_iff_iff]
        have HRB:=hide hrb
        have HRC:=hide hrc
        obtain ⟨ss,sl,e7,-,-⟩ := id hsl
        subst e7
        have HSL:=hide hsl3
        subst e8
        clear hel hsc1 hsl hsl3 hB3 hrb hrc hO hs1 hs2 hsi
        go_wp2_with fail
        refine wp_region_quiet_tail 12 (by kernel_rfl) (by kernel_rfl) ?_
        simp only [List.take_succ_cons,List.take_zero,List.drop_succ_cons,List.drop_zero]
        repeat (first | go_big_quiet_skip | (go_big_quiet_want; go_big_quiet_op; go_big_quiet_on))
        go_big_quiet_want
        go_big_quiet_op
        refine ⟨_,has_r _ si b w3.heap.size _ _ (unhide HRB) (by exact unhide HSL) (Nat.le_refl _) hlen,?_⟩
        go_big_quiet_on
        repeat (first | go_big_quiet_skip | (go_big_quiet_want; go_big_quiet_op; go_big_quiet_on))
        go_big_quiet_want
        go_big_quiet_op
        refine ⟨_,has_r _ si c w3.heap.size _ _ (unhide HRC) (by exact unhide HSL) (Nat.le_refl _) hlen,?_⟩
        go_big_quiet_on
        repeat (first | go_big_quiet_skip | (go_big_quiet_want; go_big_quiet_op; go_big_quiet_on))
        refine wpQuiet_nil ?_
        go_wp2
        ·have hne:rb ≠ rcc:=by
          intro e
          subst e
          simp_all
         go_roundw
         case rel => exact ⟨i+1,false,by omega,by go_num,rfl,(unhide HO2).drew,(fun h => by cases h),fun _ => ⟨i,hil,fun h => hne ((unhide HEQ).2 h)⟩⟩
         case measure => simp [intOf]; omega
        ·have heq:rb=rcc:=by
          rename_i hcd
          cases rb <;> cases rcc <;> simp at hcd ⊢
         go_roundw
         case rel => exact ⟨i+1,true,by omega,by go_num,rfl,(unhide HO2).drew,fun _ i' hi' => (by
          by_cases e:i'=i
          ·subst e; exact (unhide HEQ).1 heq
          ·exact unhide HS1 i' (by omega)),fun h => by cases h⟩
         case measure => simp [intOf]; omega
       ·have hil':¬ (i:Int)<(S.length:Int):=by omega
        obtain rfl:i=S.length:=by omega
        have hal:Alk S c b:=fun i' hi' => (hs1 rfl i' hi').symm
        have hown3:=own_blk (unhide HO) (fun g hg => hO.block g (by have:=((unhide HO).lt g hg).2; omega))
        have hB3:Below w.heap.size w w3:=(unhide HB).trans (hO.blw.mono (by omega))
        have hF:FstIn (fun _ => True) (fun p => out[p]?.getD 0=p) (Alk S) b c:=.inl ⟨hcl,trivial,by show out[c]?.getD 0=c; rw [unhide HX]; exact unhide HXC,hal,fun p hp _ hl => unhide HNO p hp hl⟩
        have HF:=hide hF
        have HO3:=hide hown3
        have HB3:=hide hB3
        clear hO hs1 hs2 hal hown3 hB3 hF
        go_wp2_with (at_builtin; refine app_n1 rfl _ _ rfl w.heap.size (.slice (some ⟨og,0,none⟩) out.length oc) rfl c rfl out (unhide HO3) ?_ ?_ ?_)
        ·omega
        ·omega
        intro ov4 w4 r1 r2 r3
        have hB4:Below w.heap.size w w4:=(unhide HB3).trans (r2.belowG (unhide HO3) (Nat.le_refl _) (by omega))
        obtain ⟨out2,hout2⟩ : ∃ out2,out2=out ++ [c]:=⟨_,rfl⟩
        have r1:w4.ownsRow w.heap.size 3 1 ov4 out2.length (out2.map mN):=by rw [hout2,List.length_append,List.map_append]; exact r1
        have hl2:out2.length=b+1:=by rw [hout2,List.length_append,unhide HLEN]; rfl
        have hV2:∀ j,j<b+1→FstIn (fun _ => True) (fun p => out2[p]?.getD 0=p) (Alk S) j (out2[j]?.getD 0):=fun j hj => by
         have hlow:∀ p,p<b→out2[p]?.getD 0=out[p]?.getD 0:=fun p hp => by rw [hout2]; exact snoc_lt (by rw [unhide HLEN]; exact hp)
         by_cases e:j=b
         ·subst e
          have:out2[j]?.getD 0=c:=by
           rw [hout2]
           have:=snoc_at (ys:=out) (j:=c)
           rw [unhide HLEN] at this
           exact this
          rw [this]
          exact (unhide HF).congr (fun _ _ => Iff.rfl) (fun p hp _ => by rw [hlow p hp]) (fun _ _ _ => Iff.rfl)
         ·rw [hlow j (by omega)]
          exact (unhide HV j (by omega)).congr (fun _ _ => Iff.rfl) (fun p hp _ => by rw [hlow p (by omega)]) (fun _ _ _ => Iff.rfl)
        have HO4:=hide r1
        have HB4:=hide hB4
        have HL2:=hide hl2
        have HV2:=hide hV2
        clear r1 r2 r3 hB4 hout2 hl2 hV2
        go_wp2
        go_roundw
        case rel => exact ⟨b+1,out2,by omega,by go_num,unhide HL2,unhide HO4,unhide HB4,unhide HV2⟩
        case measure => simp [intOf]; omega
     ·have hxi:¬ (x:Int)=(c:Int):=by omega
      go_wp2_with fail
      go_loopw [6,7] (fun mv iv wx => ∃ (i:Nat),i=0∧iv = .int .i64 (i:Nat)∧mv = .bool false∧Obk w1.heap.size w1 wx) (fun _ iv _ => S.length - (intOf iv).toNat)
      case atStart => exact ⟨0,rfl,rfl,by rw [beq_eq_false_iff_ne.mpr hxi],unhide HO2⟩
      case round =>
       clear HO2
       obtain ⟨i,rfl,rfl,rfl,hO⟩ := hrel
       obtain ⟨w3,rfl⟩ : ∃ w3,w3=wr:=⟨_,rfl⟩
       have hz3:=Nat.le_of_eq hO.size.symm
       have HO2:=hide hO
       clear hO
       by_cases hil:0<S.length
       ·have hil':(0:Int)<(S.length:Int):=by omega
        go_wp2
        go_roundw
        case rel => exact ⟨c+1,by omega,by go_num,unhide HO2,fun p hp hl => (by
         by_cases e:p=c
         ·subst e
          rw [unhide HX] at hl
          exact absurd hl hxc
         ·exact unhide HNO p (by omega) hl)⟩
        case measure => simp [intOf]; omega
       ·have hil':¬ (0:Int)<(S.length:Int):=by omega
        go_wp2
        go_roundw
        case rel => exact ⟨c+1,by omega,by go_num,unhide HO2,fun p hp hl => (by
         by_cases e:p=c
         ·subst e
          rw [unhide HX] at hl
          exact absurd hl hxc
         ·exact unhide HNO p (by omega) hl)⟩
        case measure => simp [intOf]; omega
    ·have hcl':¬ (c:Int)<(b:Int):=by omega
     obtain rfl:c=b:=by omega
     have hF:FstIn (fun _ => True) (fun p => out[p]?.getD 0=p) (Alk S) c c:=.inr ⟨rfl,fun p hp _ hl => hno p hp hl⟩
     have HF:=hide hF
     have HO3:=hide hown2
     have HB3:=hide hB2
     clear hO hno hown2 hB2 hF
     go_wp2_with (at_builtin; refine app_n1 rfl _ _ rfl w.heap.size (.slice (oa) out.length oc) rfl c rfl out (unhide HO3) ?_ ?_ ?_)
     ·omega
     ·omega
     intro ov4 w4 r1 r2 r3
     have hB4:Below w.heap.size w w4:=(unhide HB3).trans (r2.belowG (unhide HO3) (Nat.le_refl _) (by omega))
     obtain ⟨out2,hout2⟩ : ∃ out2,out2=out ++ [c]:=⟨_,rfl⟩
     have r1:w4.ownsRow w.heap.size 3 1 ov4 out2.length (out2.map mN):=by rw [hout2,List.length_append,List.map_append]; exact r1
     have hl2:out2.length=c+1:=by rw [hout2,List.length_append,unhide HLEN]; rfl
     have hV2:∀ j,j<c+1→FstIn (fun _ => True) (fun p => out2[p]?.getD 0=p) (Alk S) j (out2[j]?.getD 0):=fun j hj => by
      have hlow:∀ p,p<c→out2[p]?.getD 0=out[p]?.getD 0:=fun p hp => by rw [hout2]; exact snoc_lt (by rw [unhide HLEN]; exact hp)
      by_cases e:j=c
      ·subst e
       have:out2[j]?.getD 0=j:=by
        rw [hout2]
        have:=snoc_at (ys:=out) (j:=j)
        rw [unhide HLEN] at this
        exact this
       rw [this]
       exact (unhide HF).congr (fun _ _ => Iff.rfl) (fun p hp _ => by rw [hlow p hp]) (fun _ _ _ => Iff.rfl)
      ·rw [hlow j (by omega)]
       exact (unhide HV j (by omega)).congr (fun _ _ => Iff.rfl) (fun p hp _ => by rw [hlow p (by omega)]) (fun _ _ _ => Iff.rfl)
     have HO4:=hide r1
     have HB4:=hide hB4
     have HL2:=hide hl2
     have HV2:=hide hV2
     clear r1 r2 r3 hB4 hout2 hl2 hV2
     go_wp2
     go_roundw
     case rel => exact ⟨c+1,out2,by omega,by go_num,unhide HL2,unhide HO4,unhide HB4,unhide HV2⟩
     case measure => simp [intOf]; omega
  ·have hlt':¬ (b:Int)<256:=by omega
   obtain rfl:b=256:=by omega
   go_wp2
   go_ret
   exact ⟨_,rfl,out,by have h:=unhide HO; rw [unhide HLEN] at h ⊢; exact h,unhide HLEN,unhide HV,unhide HB⟩
def iL (X:List Nat):List Int:=X.map fun (x:Nat) => (x:Int)
theorem iL_inj {X Y:List Nat}:iL X=iL Y↔X=Y:=by
 constructor
 ·intro h
  have:=congrArg (List.map Int.toNat) h
  simpa [iL,Function.comp_def] using this
 ·intro h; rw [h]
def fl2 (ps:List (Value × List Nat × Bool)):List Value:=ps.flatMap fun p => [p.1,.bool p.2.2]
theorem fl2_at (ps:List (Value × List Nat × Bool)) {i:Nat} {p:Value × List Nat × Bool} (h:ps[i]? = some p):(fl2 ps)[i * 2]? = some p.1∧(fl2 ps)[i * 2+1]? = some (.bool p.2.2):=by
 induction ps generalizing i with
 | nil => simp at h
 | cons a ps ih =>
  cases i with
  | zero => simp at h; subst h; simp [fl2]
  | succ i =>
   simp only [List.getElem?_cons_succ] at h
   obtain ⟨h1,h2⟩ := ih h
   have e1:(i+1) * 2=i * 2+1+1:=by omega
   have e2:(i+1) * 2+1=i * 2+1+1+1:=by omega
   rw [e1]
   exact ⟨by simpa [fl2] using h1,by simpa [fl2] using h2⟩
theorem fl2_snoc (ps:List (Value × List Nat × Bool)) (p:Value × List Nat × Bool):fl2 (ps ++ [p])=fl2 ps ++ [p.1,.bool p.2.2]:=by simp [fl2]
structure PdL (w:World) (base:Nat) (lv:Value) (ps:List (Value × List Nat × Bool)):Prop where
 own:w.ownsRow base 74 2 lv ps.length (fl2 ps)
 at_:∀ p ∈ ps,SlAt mI 0 0 w.heap.size w p.1 (iL p.2.1)∧(0<p.2.1.length→∀ b off n c,p.1 = .slice (some ⟨b,off,none⟩) n c→lv.ownBlock ≠ some b)
theorem own_cells2 {base e n:Nat} {w:World} {v:Value} {xs:List Value} (h:w.ownsRow base e 2 v n xs) (hp:0<n):∃ g cap,v = .slice (some ⟨g,0,none⟩) n cap∧base≤g∧g<w.heap.size∧∀ j,j<n * 2→w.cell? ⟨g,j,none⟩ = xs[j]? := by
 rcases h.2 with ⟨rfl,hz⟩ | ⟨g,cap,cur,rfl,hbg,hg,hnc,hcm,hcs,htake⟩
 ·omega
 ·exact ⟨g,cap,rfl,hbg,(h.lt g rfl).2,fun j hj => h.cellAt j hj⟩
def FindR (x:Ending) (ps:List (Value × List Nat × Bool)) (X:List Nat) (e:Bool):Prop :=
 (x = .returned (.int .i64 (-1))∧∀ (i:Nat) (p:Value × List Nat × Bool),ps[i]? = some p→p.2 ≠ (X,e))∨∃ i:Nat,x = .returned (.int .i64 (i:Nat))∧∃ p,ps[i]? = some p∧p.2=(X,e)
set_option maxHeartbeats 4000000 in
set_option maxRecDepth 100000 in
theorem l2find_any (base:Nat) (lv pv:Value) (ps:List (Value × List Nat × Bool)) (X:List Nat) (e:Bool) (w:World) (hl:PdL w base lv ps) (hn:ps.length≤100000) (hp:SlAt mI 0 0 w.heap.size w pv (iL X)) :
  Calls Tryz.prog 36 #[lv,.agg #[pv,.bool e]] w fun x w' => Below w.heap.size w w'∧FindR x ps X e:=by
 obtain ⟨pa,pc,rfl,-,-⟩ := id hp
 obtain ⟨la,lc,rfl⟩ := own_is hl.own
 obtain ⟨W1,hW1⟩ : ∃ W1,W1=w.alloc (.cells #[.slice pa (iL X).length pc,.bool e] 74):=⟨_,rfl⟩
 have hb1:Below w.heap.size w W1:=by rw [hW1]; exact below1 w _
 have hr1:Rq2 W1 w.heap.size 74 (.slice pa (iL X).length pc) (.bool e):=by rw [hW1]; exact Rq2.new w _ _ _
 have hz1:w.heap.size+1≤W1.heap.size:=by rw [hW1,sz_alloc]; omega
 have HL:=hide hl
 have HP:=hide hp
 have HW1:=hide hW1
 have HB1:=hide hb1
 have HR1:=hide hr1
 clear hl hp hW1 hb1 hr1
 go_enter Tryz.func36,Tryz.ntmps36
 go_wp2_with fail
 rw [← unhide HW1]
 clear HW1
 go_loopw [5] (fun iv wr => ∃ i:Nat,i≤ps.length∧iv = .int .i64 (i:Nat)∧Below W1.heap.size W1 wr∧∀ (j:Nat) (p:Value × List Nat × Bool),j<i→ps[j]? = some p→p.2 ≠ (X,e)) (fun iv _ => ps.length - (intOf iv).toNat)
 case atStart => exact ⟨0,by omega,rfl,Below.refl _ _,fun j p hj => by omega⟩
 case round =>
  obtain ⟨i,hi,rfl,hB,hno⟩ := hrel
  obtain ⟨w2,rfl⟩ : ∃ w2,w2=wr:=⟨_,rfl⟩
  have hz2:=hB.size
  by_cases hlt:i<ps.length
  ·have hlt':(i:Int)<(ps.length:Int):=by omega
   obtain ⟨p,hpi⟩ : ∃ p,ps[i]? = some p:=⟨_,List.getElem?_eq_getElem hlt⟩
   obtain ⟨lg,lcap,e9,-,hlg,hcell⟩ := own_cells2 (unhide HL).own (by omega)
   obtain ⟨f1,f2⟩ := fl2_at ps hpi
   obtain ⟨hat,-⟩ := (unhide HL).at_ p (List.mem_of_getElem? hpi)
   have hB2:Below w.heap.size w w2:=(unhide HB1).trans (hB.mono (by omega))
   have y0:w2.cell? ⟨lg,i * 2,none⟩ = some p.1:=by rw [hB2.cell (p:=⟨lg,i * 2,none⟩) hlg,hcell _ (by omega),f1]
   have y1:w2.cell? ⟨lg,i * 2+1,none⟩ = some (.bool p.2.2):=by rw [hB2.cell (p:=⟨lg,i * 2+1,none⟩) hlg,hcell _ (by omega),f2]
   obtain ⟨x0,x1⟩ := ((unhide HR1).on (hB.block _ (by omega))).cells
   obtain ⟨qv,Z,f⟩ := p
   simp only at y0 y1 hat
   obtain ⟨qa,qc,rfl,-,-⟩ := id hat
   have HC:=hide (l2samePend_any (.slice qa (iL Z).length qc) (.slice pa (iL X).length pc) (iL Z) (iL X) f e w2.drew (hat.below hB2.drew (Nat.le_refl _)) ((unhide HP).below hB2.drew (Nat.le_refl _)))
   have HPI:=hide hpi
   have HNO:=hide hno
   have HB:=hide hB
   have hlax:la=some ⟨lg,0,none⟩∧lc=lcap:=by simpa using e9
   obtain ⟨rfl,rfl⟩ := hlax
   clear hpi hno hB hcell f1 f2 hat hB2 e9
   go_wp2_with fail
   go_region_with (go_at_call 68; refine (unhide HC).mono ?_; rintro x w3 ⟨hr,hb3⟩; have HR3:=hide hr; obtain ⟨rr,hrr,-⟩ := hr; subst hrr)
   all_goals
    have hB3:Below w2.heap.size w2 w3:=⟨hb3.os,hb3.tape,hb3.output,hb3.size,hb3.block⟩
    have hBW3:Below W1.heap.size W1 w3:=(unhide HB).trans (hB3.mono hz2)
    have HBW3:=hide hBW3
    have hz3:=hBW3.size
    obtain ⟨r9,h9,h10⟩ := unhide HR3
    cases h9
    have HI:=hide h10
    clear h10 hb3 hB3 hBW3 HR3 HC y0 y1 x0 x1 HB
    cases rr
    ·go_wp2
     go_roundw
     case rel => exact ⟨i+1,by omega,by go_num,unhide HBW3,fun j p hj hp => (by
      by_cases e9:j=i
      ·subst e9
       rw [unhide HPI] at hp
       cases hp
       intro hh
       cases hh
       have:=(unhide HI).2 ⟨rfl,rfl⟩
       cases this
      ·exact unhide HNO j p (by omega) hp)⟩
     case measure => simp [intOf]; omega
    ·have hyes:=(unhide HI).1 rfl
     have hZX:=iL_inj.1 hyes.1
     have hfe:=hyes.2
     have HZ:=hide hZX
     have HF:=hide hfe
     clear hyes hZX hfe
     go_wp2
     go_ret
     exact ⟨(unhide HB1).trans ((unhide HBW3).mono (by omega)),.inr ⟨i,rfl,_,unhide HPI,by rw [← unhide HZ,← unhide HF]⟩⟩
  ·have hlt':¬ (i:Int)<(ps.length:Int):=by omega
   obtain rfl:i=ps.length:=by omega
   have HNO:=hide hno
   have HB:=hide hB
   clear hno hB
   go_wp2
   go_ret
   exact ⟨(unhide HB1).trans ((unhide HB).mono (by omega)),.inl ⟨rfl,fun j p hp => unhide HNO j p (List.getElem?_eq_some_iff.1 hp).1 hp⟩⟩
end Go.Proofs.YtlidckepahpaeaaGreatDoor
