import Derived.Test.YtlidckepahpaeaaGreatDoorCo13
import Derived.Test.YtlidckepahpaeaaGreatDoorPk39
import Derived.Test.YtlidckepahpaeaaGreatDoorPk31
import Derived.Test.YtlidckepahpaeaaGreatDoorPk24
import Derived.Test.YtlidckepahpaeaaGreatDoorPk33
import Derived.Test.YtlidckepahpaeaaGreatDoorPk37
import Derived.Test.YtlidckepahpaeaaGreatDoorPk35
import Derived.Test.YtlidckepahpaeaaGreatDoorPk26
import Derived.Deep.RegionHeld3
import Derived.Test.YtlidckepahpaeaaGreatDoorCards
import Derived.Test.YtlidckepahpaeaaGreatDoorTie
import Derived.ShutString
import Derived.ChangeOld
import Derived.WalkKit
import Derived.ProofKit
import Derived.OpenShut
import Derived.Deep.DeepHandedRow
import Derived.Lib.LaidTab
import Derived.LaidSub
import Derived.SevenTiedAt
namespace Go.Proofs.YtlidckepahpaeaaGreatDoor
open Go.RowKit
def CmpRet (l r:Bool) (xs:List El) (w:World) (e:Ending) (w':World):Prop :=
 ∃ (cv nv av:Value) (K code:Int) (X Y:List Int) (Z:List Bool),e = .returned (.tuple #[.agg #[cv,.int .i64 K,nv,av],.int .i64 code])∧DfaF (OwB cv) (OwB nv) (OwB av) w' cv nv av X Y Z∧(∀ j,OwB cv j∨OwB nv j∨OwB av j→w.heap.size≤j∧j<w'.heap.size) ∧
   (∀ j,OwB cv j→¬ OwB nv j∧¬ OwB av j)∧(∀ j,OwB nv j→¬ OwB av j)∧CmI l r xs code K X Y Z∧X.length≤1048576∧Y.length≤1048576∧Z.length≤1048576∧Below w.heap.size w w'
theorem cmpRet_none {l r:Bool} {xs:List El} {w w':World} {code:Int} (h:CmI l r xs code 0 [] [] []) (hb:Below w.heap.size w w'):CmpRet l r xs w (.returned (.tuple #[.agg #[.slice none 0 0,.int .i64 0,.slice none 0 0,.slice none 0 0],.int .i64 code])) w':=by
 refine ⟨_,_,_,0,code,[],[],[],rfl,⟨⟨0,0,⟨none,0,rfl,by simp,by simp⟩,fun k _ h => by omega⟩,⟨0,0,⟨none,0,rfl,by simp,by simp⟩,fun k _ h => by omega⟩,⟨0,0,⟨none,0,rfl,by simp,by simp⟩,fun k _ h => by omega⟩⟩,?_,?_,?_,h,by simp,by simp,by simp,hb⟩
 ·intro j hj
  rcases hj with h | h | h <;> cases h
 ·intro j hj; cases hj
 ·intro j hj; cases hj
theorem ys_at {k:Nat} {o:List (List Nat × Bool)} {ys:List Nat} (hl:ys.length=o.length * k) {q c:Nat} (hq:q<o.length) (hc:c<k):ys[q * k+c]? = some (ys[q * k+c]?.getD 0):=by
 rw [List.getElem?_eq_getElem (by rw [hl]; exact row_in hq hc)]; rfl
theorem ac_at {o:List (List Nat × Bool)} {q:Nat} (hq:q<o.length):(o.map Prod.snd)[q]? = some ((o[q]?.map Prod.snd).getD false):=by
 rw [List.getElem?_map,List.getElem?_eq_getElem hq]; rfl
theorem smallest_pt {pst:List Nat × Bool→Nat→List Nat × Bool} {s0:List Nat × Bool} {k:Nat} {cls rep:Nat→Nat} {o:List (List Nat × Bool)} {ys:List Nat} (h:PTab pst s0 k cls rep o ys) (hl:ys.length=o.length * k) (ho:o.length≤1024) (hk:k≤256) (gc base:Nat) (nv av:Value) (w:World) (hrow:w.rowIs gc 3 256 (fun x => .int .i64 (cls x:Nat))) (hn:w.ownsRow base 3 1 nv ys.length (ys.map mN)) (ha:w.ownsRow base 4 1 av o.length ((o.map Prod.snd).map mT)) :
  Calls Tryz.prog 22 #[.agg #[.slice (some ⟨gc,0,none⟩) 256 256,.int .i64 (k:Nat),nv,av]] w fun e w' => ∃ (cv nv av:Value) (K:Int) (X Y:List Int) (Z:List Bool),e = .returned (.agg #[cv,.int .i64 K,nv,av])∧DfaF (OwB cv) (OwB nv) (OwB av) w' cv nv av X Y Z∧(∀ j,OwB cv j∨OwB nv j∨OwB av j→w.heap.size≤j∧j<w'.heap.size) ∧
   (∀ j,OwB cv j→¬ OwB nv j∧¬ OwB av j)∧(∀ j,OwB nv j→¬ OwB av j)∧(∃ (kk:Nat) (o2 ys2:List Nat) (m:Nat) (num Fn mg G:Nat→Nat),ProgT (bfsT k cls Prod.snd o ys) o2 ys2 m num Fn kk mg G∧K=(kk:Nat)∧X=clL (ProgT.out (bfsT k cls Prod.snd o ys) o2 ys2 m num Fn kk mg G)∧Y=nxL (ProgT.out (bfsT k cls Prod.snd o ys) o2 ys2 m num Fn kk mg G)∧Z=acL (ProgT.out (bfsT k cls Prod.snd o ys) o2 ys2 m num Fn kk mg G))∧X.length≤1048576∧Y.length≤1048576∧Z.length≤1048576∧Below w.heap.size w w':=by
 have hp:=h.pre hl Prod.snd
 have hop:=h.bfs.pos
 have hkp:=h.kpos
 obtain ⟨nb,ncap,rfl,-,hnb,hnc,hncell⟩ := own_cells hn (by rw [hl]; exact Nat.mul_pos hop hkp)
 obtain ⟨ab,acap,rfl,-,hab,-,hacell⟩ := own_cells ha hop
 have hgc:=hrow.lt
 rw [hl] at hnc ⊢
 refine (smallest_any (bfsT k cls Prod.snd o ys) gc 0 256 nb 0 ncap ab 0 acap w hp.wf hp.clUp hp.clAll ho ⟨hkp,hk⟩ hnc hnb (fun q c hq hc => ⟨hp.wf.nxt q c hq hc,?_⟩) hgc (fun q hq => ?_) hab (fun q hq => ?_)).mono ?_
 ·rw [Nat.zero_add]
  have hq':q<o.length:=hq
  have hc':c<k:=hc
  have e1:w.cell? ⟨nb,q * k+c,none⟩ = (ys.map mN)[q * k+c]? := hncell _ (by rw [hl]; exact row_in hq' hc')
  have e2:=ys_at hl hq' hc'
  show w.cell? ⟨nb,q * k+c,none⟩ = some (mN (ys[q * k+c]?.getD 0))
  rw [e1,List.getElem?_map,e2]
  rfl
 ·rw [Nat.zero_add,hrow.cell hq]; rfl
 ·rw [Nat.zero_add,hacell q hq,List.getElem?_map,ac_at hq]
  rfl
 rintro e w' ⟨xv,nv,av,kk,rfl,hB,o2,ys2,m,num,F,mg,G,hs,hm,hkk,o1,o2',o3,d1,d2⟩
 have hl2:m * kk≤1024 * 256:=Nat.mul_le_mul hm hkk
 have e1:=o1.1
 have e2:=o2'.1
 have e3:=o3.1
 rw [List.length_map,Nat.mul_one] at e1 e2 e3
 refine ⟨xv,nv,av,(kk:Nat),_,_,_,rfl,⟨own_slf o1 (by unfold maxLen; omega),own_slf o2' (by unfold maxLen; omega),own_slft o3 (by unfold maxLen; omega)⟩,?_,fun j hj => d1 j hj,fun j hj => d2 j hj,⟨kk,o2,ys2,m,num,F,mg,G,hs,rfl,rfl,rfl,rfl⟩,by omega,by omega,by omega,hB⟩
 intro j hj
 rcases hj with h | h | h
 ·exact o1.lt j h
 ·exact o2'.lt j h
 ·exact o3.lt j h
set_option maxHeartbeats 8000000 in
set_option maxRecDepth 100000 in
theorem implComp_any (l r:Bool) (v:Value) (xs:List El) (w:World) (hv:ElsAt 0 w.heap.size w v xs) (htz:TZ w) (htl:Tryz.laysTZ_ren.g 1<w.heap.size) :
  Calls Tryz.prog 7 #[.agg #[.bool l,.bool r,v]] w fun e w' => CmpRet l r xs w e w':=by
 obtain ⟨a,cp,rfl,-,-⟩ := id hv
 have Hv:=hide hv
 have HTZ:Hid (∀ W,Below w.heap.size w W→TZ W):=fun W hW => htz.below hW htl
 obtain ⟨W0,hW0⟩ : ∃ W0,W0=(w.alloc (.cells #[.bool l,.bool r,.slice a xs.length cp] 34)).alloc (.cells #[.slice none 0 0,.int .i64 0,.slice none 0 0,.slice none 0 0] 29):=⟨_,rfl⟩
 have hz0:W0.heap.size=w.heap.size+2:=by rw [hW0,sz_alloc,sz_alloc]
 have hb0:Below w.heap.size w W0:=by rw [hW0]; exact below2 w _ _
 have hE0:Row4 W0 (w.heap.size+1) 29 (.slice none 0 0) (.int .i64 0) (.slice none 0 0) (.slice none 0 0):=by
  have:=Row4.new (w.alloc (.cells #[.bool l,.bool r,.slice a xs.length cp] 34)) 29 (.slice none 0 0) (.int .i64 0) (.slice none 0 0) (.slice none 0 0)
  rw [sz_alloc] at this
  rw [hW0]
  exact this
 have HE0:=hide hE0
 have HW0:=hide hW0
 clear hv htz hW0 hE0
 go_enter Tryz.func7,Tryz.ntmps7
 go_wp2_with fail
 rw [← unhide HW0]
 clear HW0
 refine (wholeTree_any closPos l r _ xs _ ((unhide Hv).below hb0 (Nat.le_refl _))).mono ?_
 rintro e w1 ⟨hret,hb1⟩
 have hz1:=hb1.size
 have HB1:Hid (Below w.heap.size w w1):=hb0.trans (hb1.mono (by omega))
 have hE1:=(unhide HE0).below hb1 (by omega)
 have HE1:=hide hE1
 clear hb1 hb0 HE0
 rcases hret with ⟨U,L,rfl,⟨T,x,rfl⟩,hok,hsx,hL,hQ⟩ | ⟨rfl,hbad⟩
 ·clear hE1
  obtain ⟨A,ln,ss,c,hadd,hnu,hed,hso,hbd,hasc,hsm,hall⟩ := hQ
  have hlen:=whL_len l r L
  have hfew:=lvs_half (whL l r L)
  rw [hsm.ws] at hfew
  have hn512:lvs (whL l r L)≤512:=by omega
  have hwl:=(unhide HB1).size
  have HAU:=hide (automatonOf_any hadd hn512 w1 (unhide HTZ _ (unhide HB1)) (by omega))
  have HANS:Hid (AnsA l r xs (setsOf (whL l r L)) A.nl (edg A false 0) (edg A true 0) (folL ln (lvs (whL l r L)))):=Or.inl ⟨hok,L,A,ln,ss,hsx,hL,hso,rfl,rfl,rfl,rfl,rfl⟩
  have HSN:Hid ((setsOf (whL l r L)).length=lvs (whL l r L)):=setsOf_len _
  have HSS:=hide hso.sets
  have HLK:=hide hso.lkb
  have HBDD:=hide hbd
  have HASC:=hide hasc
  have HOK:=hide hok
  obtain ⟨N,hNN⟩ : ∃ N,N=lvs (whL l r L):=⟨_,rfl⟩
  obtain ⟨S,hSS⟩ : ∃ S,S=setsOf (whL l r L):=⟨_,rfl⟩
  rw [← hNN] at HAU HLK HBDD hn512 HANS HSN
  rw [← hSS] at HANS HSN HSS
  clear hadd hso hbd hsm hnu hed hasc hall hok hsx hL hlen hfew hNN hSS
  go_wp2_with fail
  refine (unhide HAU).mono ?_
  rintro e w2 ⟨f,l2,rfl,hAut,hf,hl2,hb2⟩
  obtain ⟨sv,gs,fv,fs,c0,hSB,hSlen,hWo,hAR,hFfs,hBfs⟩ := hAut.rd
  have hAl:w1.heap.size<w2.heap.size:=by obtain ⟨⟨F,h1,-⟩,-⟩ := hAR; exact h1.lt
  have HWO:=hide (walkerOf_any w1.heap.size N sv gs w2 c0 hAl hSB (fun i hi => (hWo i hi).1) hn512)
  have HB2:Hid (Below w.heap.size w w2):=(unhide HB1).trans (hb2.mono hwl)
  have HE2:=hide ((unhide HE1).below hb2 (by omega))
  have HAR:=hide hAR
  have HF:=hide hf
  have HL2:=hide hl2
  have HFFS:=hide hFfs
  have HBFS:=hide hBfs
  have HWRD:=hide hWo
  have hz2:=hb2.size
  clear hAut hf hl2 hb2 c0 hSB hSlen hWo hAR hFfs hBfs HAU HE1
  go_wp2_with fail
  refine (unhide HWO).mono ?_
  rintro e w3 ⟨⟨gc,mm,K,hs,hv,ks,H,rfl,hrow,hhol,hcl,hH⟩,hb3⟩
  have hz3:=hb3.size
  obtain ⟨ha9,hc9,rfl⟩ := own_is hhol
  obtain ⟨W,hW⟩ : ∃ W,W=w3.alloc (.cells #[.pointer (some ⟨w1.heap.size,0,none⟩),.slice (some ⟨gc,0,none⟩) 256 256,.slice ha9 mm hc9] 54):=⟨_,rfl⟩
  have hWk:=wkR_of (unhide HAR) hb3 hW hrow hhol hcl hH (unhide HF).1 (unhide HL2).1 (unhide HFFS)
  have hB3:Below w.heap.size w w3:=(unhide HB2).trans (hb3.mono (unhide HB2).size)
  have hBW3:Below w3.heap.size w3 W:=by rw [hW]; exact below1 w3 _
  have hBW:Below w.heap.size w W:=by rw [hW]; exact hB3.alloc hB3.size _
  have hzW:w3.heap.size+1≤W.heap.size:=by rw [hW,sz_alloc]; omega
  have HEW:=hide (((unhide HE2).below hb3 (by omega)).below hBW3 (by omega))
  obtain ⟨rep,hnum⟩ := hcl.num1
  have hmm:mm≤256:=hcl.le
  have hmm1:1≤mm:=(hnum.zero (by decide)).2.2
  have hhold:∀ x,x<256→∀ i,Bt (H x) i=hldA S i x:=fun x hx i => by
   rw [Bool.eq_iff_iff,(hH x hx).2 i,hldA_iff,unhide HSN]
   constructor
   ·rintro ⟨q1,q2⟩
    rw [words_in (unhide HWRD i q1),unhide HSS] at q2
    exact ⟨q1,q2⟩
   ·rintro ⟨q1,q2⟩
    refine ⟨q1,?_⟩
    rw [words_in (unhide HWRD i q1),unhide HSS]
    exact q2
  have hcls:∀ x,x<256→∀ i,Bt (hs (K x)) i=hldA S i x:=fun x hx i => by
   rw [← hhold x hx i]
   by_cases e:i<512
   ·exact (ps_bt (hcl.cl x hx).2 i e).symm
   ·have h1:∀ b:Bool,(b=true→i<N)→b=false:=fun b hb => by
     cases b
     ·rfl
     ·have:=hb rfl; omega
    rw [h1 _ (fun q => hWk.inn _ (hcl.cl x hx).1 i q),h1 _ (fun q => ((hH x hx).2 i).1 q |>.1)]
  have hfol:∀ i j,Bt (fs i) j=folA (folL ln N) i j:=fun i j => by rw [unhide HBFS,folA_is (unhide HLK)]
  have hlst:∀ i,Bt l2 i=lstA (edg A true 0) i:=fun i => by rw [(unhide HL2).2,lstA_is]
  have hfst:blN f N=(edg A false 0).map Int.toNat:=by
   rw [fstA_is,← bl_is (unhide HF) (unhide HASC).1 (fun y hy => by have:=(unhide HBDD).1 y hy; omega)]
   unfold blN
   have hlow:∀ i,Bt f i=true→i<N:=fun i hi => by rw [(unhide HF).2,List.contains_iff_mem] at hi; exact (unhide HBDD).1 i hi
   exact (filt_low (by omega) hlow).symm
  have hf0:Low N f:=⟨(unhide HF).1,fun i hi => by rw [(unhide HF).2,List.contains_iff_mem] at hi; exact (unhide HBDD).1 i hi⟩
  have HTB:=hide (table_any w3.heap.size w1.heap.size N mm gc (.slice ha9 mm hc9) fv K hs fs A.nl f l2 W hWk (hldA S) (folA (folL ln N)) (lstA (edg A true 0)) rep hn512 hmm hmm1 (fun c hc i => by
   have:=hnum.fst c hc
   rw [← hcls (rep c) this.1 i,this.2]) hfol hlst (fun i j h => by rw [unhide HBFS] at h; exact (mkd_lt (unhide HLK) h).2) hf0 (unhide HTZ _ hBW) (by have:=hBW.size; omega))
  have hsame:∀ b,b<256→∀ x,pstA S (edg A true 0) (folL ln N) x (rep (K b))=pstA S (edg A true 0) (folL ln N) x b:=fun b hb x => by
   unfold pstA
   refine pstep_same x fun i _ => ?_
   have hk:=hnum.fst (K b) (hnum.lt b hb)
   rw [← hcls b hb i,← hcls _ hk.1 i,hk.2]
  have HPT:Hid (∀ (o:List ((Nat→Nat) × Bool)) (ys:List Nat),Bfs mm (fun x e => pstep N (hldA S) (folA (folL ln N)) (lstA (edg A true 0)) x (rep e)) (pab N (f,A.nl)) (o.map (pab N)) ys→PTab (pstA S (edg A true 0) (folL ln N)) (fstA (edg A false 0) A.nl) mm K rep (o.map (pab N)) ys):=fun o ys hB => by
   refine ⟨hnum,hsame,?_⟩
   have e1:fstA (edg A false 0) A.nl=pab N (f,A.nl):=by unfold fstA pab; rw [hfst]
   rw [e1]
   unfold pstA
   rw [unhide HSN]
   exact hB
  have HROW:=hide (hrow.of_block (hBW3.block _ hrow.lt))
  have hgl:gc<W.heap.size:=by have:=hrow.lt; omega
  have HBW:=hide hBW
  have HW:=hide hW
  clear hWk hrow hhol hcl hH hb3 hB3 hBW hW HWO hBW3 hnum hhold hcls hfol hlst hfst hf0 hsame HE2
  go_wp2_with fail
  rw [← unhide HW]
  clear HW
  refine (unhide HTB).mono ?_
  rintro e w4 ⟨hb4,hret⟩
  have hz4:=hb4.size
  have hBw4:Below w.heap.size w w4:=(unhide HBW).trans (hb4.mono (unhide HBW).size)
  have hE4:=(unhide HEW).below hb4 (by omega)
  have hw2:=(unhide HBW).size
  rcases hret with ⟨nv,av,o,ys,rfl,hBf,hyl,hol,hon,hoa,hna⟩ | ⟨o,ys,rfl,hBf,hbig⟩
  ·obtain ⟨na,nc,rfl⟩ := own_is hon
   obtain ⟨aa,ac,rfl⟩ := own_is hoa
   obtain ⟨w5,hw5⟩ : ∃ w5,w5=w4.alloc (.cells #[.slice (some ⟨gc,0,none⟩) 256 256,.int .i64 (mm:Nat),.slice na ys.length nc,.slice aa o.length ac] 29):=⟨_,rfl⟩
   have hV5:Below w4.heap.size w4 w5:=by rw [hw5]; exact below1 w4 _
   have hR5:Row4 w5 w4.heap.size 29 (.slice (some ⟨gc,0,none⟩) 256 256) (.int .i64 (mm:Nat)) (.slice na ys.length nc) (.slice aa o.length ac):=by rw [hw5]; exact Row4.new w4 _ _ _ _ _
   have hE5:=hE4.below hV5 (by omega)
   have hB5:Below w.heap.size w w5:=hBw4.trans (hV5.mono (by have:=hBw4.size; omega))
   have hz5:=hV5.size
   have hpt:=unhide HPT o ys hBf
   have hlo:(o.map (pab N)).length=o.length:=by simp
   have hoa5:w5.ownsRow W.heap.size 4 1 (.slice aa o.length ac) (o.map (pab N)).length (((o.map (pab N)).map Prod.snd).map mT):=by
    rw [hlo,show (o.map (pab N)).map Prod.snd=o.map Prod.snd by rw [List.map_map]; rfl]
    exact own_keep hoa hV5 (Nat.le_refl _)
   have HSM:=hide (smallest_pt hpt (by rw [hlo]; exact hyl) (by rw [hlo]; exact hol) hmm gc W.heap.size _ _ w5 ((unhide HROW).of_block ((hV5.block _ (by omega)).trans (hb4.block _ hgl))) (own_keep hon hV5 (Nat.le_refl _)) hoa5)
   have HPTX:=hide hpt
   have HLO:=hide hlo
   have HYL:=hide hyl
   obtain ⟨g0,g1,g2,g3,-⟩ := hR5.facts
   have HW5:=hide hw5
   have HB5:=hide hB5
   have HE5:=hide hE5
   rw [hw5] at g0 g1 g2 g3
   clear hV5 hR5 hE5 hB5 hw5 hpt hlo hoa5 hBf hyl hon hoa hna hE4 hBw4 hb4 HTB HPT HEW HROW
   go_wp2_with fail
   rw [← unhide HW5]
   clear HW5 g0 g1 g2 g3
   refine (unhide HSM).mono ?_
   rintro e w6 ⟨cv,nv6,av6,KK,X,Y,Z,rfl,hDF,hT,d1,d2,hpr,q1,q2,q3,hb6⟩
   obtain ⟨u1,v1,rfl⟩ := hDF.x.val
   obtain ⟨u2,v2,rfl⟩ := hDF.y.val
   obtain ⟨u3,v3,rfl⟩ := hDF.z.val
   have hE6:=(unhide HE5).below hb6 (by omega)
   obtain ⟨x0,x1,x2,x3,z0,z1,z2,z3⟩ := hE6.facts
   have HCI:Hid (CmI l r xs 0 KK X Y Z):=Or.inr ⟨unhide HOK,_,_,_,_,_,unhide HANS,Or.inr ⟨_,_,_,_,_,unhide HPTX,by rw [unhide HLO]; exact unhide HYL,by rw [unhide HLO]; exact hol,rfl,hpr⟩⟩
   have HE6:=hide hE6
   have HDF:=hide hDF
   have HT:=hide hT
   have HD1:=hide d1
   have HD2:=hide d2
   have HB6:=hide hb6
   clear hE6 hDF hT d1 d2 hb6 hpr HSM
   go_wp2
   refine bodyPost_ret (dfab_ret (row4_all (unhide HE6) _ _ _ _) rfl _ rfl rfl) rfl ?_
   have hob:=row4_ob w6 (w.heap.size+1) (.slice u1 X.length v1) (.int .i64 KK) (.slice u2 Y.length v2) (.slice u3 Z.length v3)
   have hz6:=(unhide HB6).size
   have hlow:∀ j,OwB (.slice u1 X.length v1) j∨OwB (.slice u2 Y.length v2) j∨OwB (.slice u3 Z.length v3) j→j ≠ w.heap.size+1:=fun j hj => by have:=(unhide HT j hj).1; omega
   refine ⟨_,_,_,KK,0,X,Y,Z,rfl,(unhide HDF).same (fun k hk => hob.block k (hlow k hk)),fun j hj => ⟨by have:=(unhide HT j hj).1; omega,by rw [hob.size]; exact (unhide HT j hj).2⟩,unhide HD1,unhide HD2,unhide HCI,q1,q2,q3,((unhide HB5).trans ((unhide HB6).mono (by omega))).trans (hob.bel (by omega))⟩
  ·obtain ⟨w5,hw5⟩ : ∃ w5,w5=w4.alloc (.cells #[.slice none 0 0,.int .i64 0,.slice none 0 0,.slice none 0 0] 29):=⟨_,rfl⟩
   have hV5:Below w4.heap.size w4 w5:=by rw [hw5]; exact below1 w4 _
   have hE5:=hE4.below hV5 (by omega)
   have hB5:Below w.heap.size w w5:=hBw4.trans (hV5.mono (by have:=hBw4.size; omega))
   have HCI:Hid (CmI l r xs 3 0 [] [] []):=Or.inr ⟨unhide HOK,_,_,_,_,_,unhide HANS,Or.inl ⟨_,_,_,_,_,unhide HPT o ys hBf,by rw [List.length_map]; exact hbig,rfl,rfl,rfl,rfl,rfl⟩⟩
   obtain ⟨x0,x1,x2,x3,z0,z1,z2,z3⟩ := hE5.facts
   have HW5:=hide hw5
   have HB5:=hide hB5
   have HE5:=hide hE5
   rw [hw5] at x0 x1 x2 x3 z0 z1 z2 z3
   clear hV5 hE5 hB5 hw5 hBf hbig hE4 hBw4 hb4 HTB HPT HEW HROW
   go_wp2
   rw [← unhide HW5]
   refine bodyPost_ret (dfab_ret (row4_all (unhide HE5) _ _ _ _) rfl _ rfl rfl) rfl ?_
   exact cmpRet_none (unhide HCI) ((unhide HB5).trans ((row4_ob w5 (w.heap.size+1) (.slice none 0 0) (.int .i64 0) (.slice none 0 0) (.slice none 0 0)).bel (by omega)))
 ·obtain ⟨x0,x1,x2,x3,z0,z1,z2,z3⟩ := hE1.facts
  have HCI:Hid (CmI l r xs 4 0 [] [] []):=Or.inl ⟨hbad,rfl,rfl,rfl,rfl,rfl⟩
  clear hE1 hbad
  go_wp2
  refine bodyPost_ret (dfab_ret (row4_all (unhide HE1) _ _ _ _) rfl _ rfl rfl) rfl ?_
  exact cmpRet_none (unhide HCI) ((unhide HB1).trans ((row4_ob w1 (w.heap.size+1) (.slice none 0 0) (.int .i64 0) (.slice none 0 0) (.slice none 0 0)).bel (by omega)))
set_option maxHeartbeats 8000000 in
set_option maxRecDepth 100000 in
theorem lawComp_any (l r:Bool) (v:Value) (xs:List El) (w:World) (hv:ElsAt 0 w.heap.size w v xs) (htz:TZ w) (hlt:Tryz.laysTZ_ren.g 1<w.heap.size) :
  Calls Tryz.prog 3 #[.agg #[.bool l,.bool r,v]] w fun e w' => e = .returned (.bool true)∧Below w.heap.size w w':=by
 obtain ⟨a,cp,rfl,-,-⟩ := id hv
 have HN:=hide (num_of hv)
 have Hv:=hide hv
 have HTZ:Hid (∀ W,Below w.heap.size w W→TZ W∧Tryz.laysTZ_ren.g 1<W.heap.size):=fun W hW => ⟨htz.below hW hlt,by have:=hW.size; omega⟩
 clear hv htz hlt
 go_enter Tryz.func3,Tryz.ntmps3
 go_wp2_with fail
 refine (szPattern_any l r _ xs _ (by exact (unhide Hv).below (below1 w _) (Nat.le_refl _))).mono ?_
 rintro e w1 ⟨⟨q,rfl,hq⟩,hb1⟩
 have hz1:=hb1.size
 rw [sz_alloc] at hz1
 have hB1:Below w.heap.size w w1:=(below1 w _).trans (hb1.mono (by rw [sz_alloc]; omega))
 have RA1:=hide ((Bx3.new w 24 (.bool l) (.bool r) (.slice a xs.length cp)).below hb1 (by rw [sz_alloc]; omega))
 clear hb1
 rcases hq with rfl | ⟨hq0,hq1⟩
 ·go_wp2
  go_ret
  exact ⟨rfl,hB1⟩
 ·have hsum:xs.length+bulk xs≤1048576:=by omega
  have Hset:=hide (set_le (xs:=xs) (m:=1048576) (by omega))
  have hxl:xs.length≤1048576:=by omega
  obtain ⟨k0,k1,k2⟩ := (unhide RA1).facts
  clear hq1
  go_wp2_with fail
  refine (toPattern_w l r _ xs _ ((unhide Hv).below hB1 (Nat.le_refl _)) hxl (unhide Hset)).mono ?_
  rintro e w2 ⟨v2,rfl,h2,hb2⟩
  obtain ⟨a2,c2,rfl⟩ := el_is h2
  have hz2:=hb2.size
  have hB2:Below w.heap.size w w2:=hB1.trans (hb2.mono (by omega))
  have RA2:=hide ((unhide RA1).below hb2 (by omega))
  have E2:=hide (h2.at (N:=w2.heap.size) (fun k hk => hk.2) (unhide HN))
  clear h2 hb2 RA1 k0 k1 k2
  go_wp2_with fail
  refine (specComp_any l r _ xs _ (unhide E2)).mono ?_
  rintro e w3' ⟨cw,nw,aw,K,code,X,Y,Z,rfl,s1,s2,s3,hans,hb3⟩
  obtain ⟨p1,pc1,rfl,-,-⟩ := id s1
  obtain ⟨p2,pc2,rfl,-,-⟩ := id s2
  obtain ⟨p3,pc3,rfl,-,-⟩ := id s3
  have hz3:=hb3.size
  obtain ⟨w3,hw3⟩ : ∃ w3,w3=w3'.alloc (.cells #[.slice p1 X.length pc1,.int .i64 K,.slice p2 Y.length pc2,.slice p3 Z.length pc3] 29):=⟨_,rfl⟩
  have hV3:Below w3'.heap.size w3' w3:=by rw [hw3]; exact below1 w3' _
  have S3:Hid (SlAt mI 0 0 w3.heap.size w3 (.slice p1 X.length pc1) X∧SlAt mI 0 0 w3.heap.size w3 (.slice p2 Y.length pc2) Y∧SlAt mT false 0 w3.heap.size w3 (.slice p3 Z.length pc3) Z):=⟨s1.below hV3 (Nat.le_refl _),s2.below hV3 (Nat.le_refl _),s3.below hV3 (Nat.le_refl _)⟩
  have RA3:=hide (((unhide RA2).below hb3 (by omega)).below hV3 (by omega))
  have RS3:Hid (Row4 w3 w3'.heap.size 29 (.slice p1 X.length pc1) (.int .i64 K) (.slice p2 Y.length pc2) (.slice p3 Z.length pc3)):=by rw [hw3]; exact Row4.new w3' _ _ _ _ _
  have hz3':w3'.heap.size+1≤w3.heap.size:=by rw [hw3,sz_alloc]; omega
  have hB3:Below w.heap.size w w3:=(hB2.trans (hb3.mono (by omega))).trans (hV3.mono (by omega))
  have Hans:=hide hans
  obtain ⟨k0,k1,k2⟩ := (unhide RA3).facts
  rw [hw3] at k0 k1 k2
  have HW3:=hide hw3
  clear hans E2 hb3 RA2 hV3 hw3 s1 s2 s3
  go_wp2_with fail
  rw [← unhide HW3]
  clear HW3
  refine (toPattern_w l r _ xs _ ((unhide Hv).below hB3 (Nat.le_refl _)) hxl (unhide Hset)).mono ?_
  rintro e w4 ⟨x0,rfl,hx0,hb4⟩
  obtain ⟨a4,c4,rfl⟩ := el_is hx0
  have hz4:=hb4.size
  have hB4:Below w.heap.size w w4:=hB3.trans (hb4.mono (by omega))
  have RA4:=hide ((unhide RA3).below hb4 (by omega))
  have RS4:=hide ((unhide RS3).below hb4 (by omega))
  have hB34:Below w3.heap.size w3 w4:=hb4
  have X4:=hide hx0
  clear hx0 hb4 RA3 k0 k1 k2 RS3
  go_wp2_with fail
  have hV4:=below1 w4 (.cells #[.bool l,.bool r,.slice a4 xs.length c4] 34)
  have RX:=Bx3.new w4 34 (.bool l) (.bool r) (.slice a4 xs.length c4)
  have hzV:(w4.alloc (.cells #[.bool l,.bool r,.slice a4 xs.length c4] 34)).heap.size=w4.heap.size+1:=sz_alloc _ _
  generalize w4.alloc (.cells #[.bool l,.bool r,.slice a4 xs.length c4] 34)=V4 at *
  have hzV':w4.heap.size+1≤V4.heap.size:=by omega
  clear hzV
  have hWV4:Below w.heap.size w V4:=hB4.trans (hV4.mono (by omega))
  refine (implComp_any l r _ xs _ (((unhide X4).at (fun k hk => hk.2) (unhide HN)).below hV4 (Nat.le_refl _)) (unhide HTZ _ hWV4).1 (unhide HTZ _ hWV4).2).mono ?_
  rintro e w5' ⟨cg,ng,ag,K',code',X',Y',Z',rfl,hDF,hT,dd1,dd2,hans',q1,q2,q3,hb5⟩
  obtain ⟨rfl,rfl,rfl,rfl,rfl⟩ := (unhide Hans).one hans'
  obtain ⟨T1,hT1⟩ : ∃ T1,T1=OwB cg:=⟨_,rfl⟩
  obtain ⟨T2,hT2⟩ : ∃ T2,T2=OwB ng:=⟨_,rfl⟩
  obtain ⟨T3,hT3⟩ : ∃ T3,T3=OwB ag:=⟨_,rfl⟩
  rw [← hT1,← hT2,← hT3] at hDF hT
  rw [← hT1,← hT2,← hT3] at dd1
  rw [← hT2,← hT3] at dd2
  clear hT1 hT2 hT3
  obtain ⟨g1,gc1,rfl⟩ := hDF.x.val
  obtain ⟨g2,gc2,rfl⟩ := hDF.y.val
  obtain ⟨g3,gc3,rfl⟩ := hDF.z.val
  have hz5:=hb5.size
  obtain ⟨w5,hw5⟩ : ∃ w5,w5=w5'.alloc (.cells #[.slice g1 X.length gc1,.int .i64 K,.slice g2 Y.length gc2,.slice g3 Z.length gc3] 29):=⟨_,rfl⟩
  have hV5:Below w5'.heap.size w5' w5:=by rw [hw5]; exact below1 w5' _
  have hz5':w5'.heap.size+1≤w5.heap.size:=by rw [hw5,sz_alloc]; omega
  have RG5:Hid (Row4 w5 w5'.heap.size 29 (.slice g1 X.length gc1) (.int .i64 K) (.slice g2 Y.length gc2) (.slice g3 Z.length gc3)):=by rw [hw5]; exact Row4.new w5' _ _ _ _ _
  have hB45:Below w4.heap.size w4 w5:=(hV4.trans (hb5.mono (by omega))).trans (hV5.mono (by omega))
  have hB35:Below w3.heap.size w3 w5:=hB34.trans (hB45.mono (by omega))
  have hB5:Below w.heap.size w w5:=hB4.trans (hB45.mono (by omega))
  have RA5:=hide ((unhide RA4).below hB45 (by omega))
  have RS5:=hide ((unhide RS4).below hB45 (by omega))
  have RX5:=hide ((RX.below hb5 (by omega)).below hV5 (by omega))
  have X5:=hide ((unhide X4).keep hB45 (fun k hk => hk.2))
  have HT:=hide hT
  have HD1:=hide dd1
  have HD2:=hide dd2
  have G5:=hide (hDF.same (w':=w5) (fun k hk => hV5.block k (hT k hk).2))
  have hTl:∀ k,T1 k∨T2 k∨T3 k→k<w5.heap.size:=fun k hk => by have:=(hT k hk).2; omega
  have HTL:=hide hTl
  obtain ⟨y0,y1,y2,y3,-⟩ := (unhide RS5).facts
  rw [hw5] at y0 y1 y2 y3
  have HW5:=hide hw5
  have hE5:Hid (∀ V:World,Below w3.heap.size w3 V→SlAt mI 0 0 V.heap.size V (.slice p1 X.length pc1) X∧SlAt mI 0 0 V.heap.size V (.slice p2 Y.length pc2) Y∧SlAt mT false 0 V.heap.size V (.slice p3 Z.length pc3) Z):=fun V hh => ⟨(unhide S3).1.below hh (Nat.le_refl _),(unhide S3).2.1.below hh (Nat.le_refl _),(unhide S3).2.2.below hh (Nat.le_refl _)⟩
  have HEQ5:=hide (eqDFA_same _ _ _ _ _ _ X Y Z K w5 ((unhide G5).x.at (fun k hk => unhide HTL k (.inl hk))) ((unhide G5).y.at (fun k hk => unhide HTL k (.inr (.inl hk)))) ((unhide G5).z.at (fun k hk => unhide HTL k (.inr (.inr hk)))) (unhide hE5 w5 hB35).1 (unhide hE5 w5 hB35).2.1 (unhide hE5 w5 hB35).2.2)
  clear hDF hb5 X4 hans' RA4 RX hV4 hB34 hT dd1 dd2 hTl RS4 hV5 hw5
  go_wp2_with fail
  rw [← unhide HW5]
  clear HW5 y0 y1 y2 y3
  refine (unhide HEQ5).mono ?_
  rintro e w6 ⟨rfl,hb6⟩
  have hz6:=hb6.size
  have hW6:Below w.heap.size w w6:=hB5.trans (hb6.mono (by omega))
  have hB36:Below w3.heap.size w3 w6:=hB35.trans (hb6.mono (by omega))
  have RA6:=hide ((unhide RA5).below hb6 (by omega))
  have RX6:=hide ((unhide RX5).below hb6 (by omega))
  have RS6:=hide ((unhide RS5).below hb6 (by omega))
  have RG6:=hide ((unhide RG5).below hb6 (by omega))
  have X6:=hide ((unhide X5).keep hb6 (fun k hk => by have:=hk.2; omega))
  have G6:=hide ((unhide G5).same (w':=w6) (fun k hk => hb6.block k (unhide HTL k hk)))
  have hS:Hid (∀ W':World,Below w6.heap.size w6 W'→(W'.cell? ⟨w4.heap.size,0,none⟩ = some (.bool l)∧W'.cell? ⟨w4.heap.size,1,none⟩ = some (.bool r)∧W'.cell? ⟨w4.heap.size,2,none⟩ = some (.slice a4 xs.length c4))∧W'.cell? ⟨w.heap.size,0,none⟩ = some (.bool l)∧W'.cell? ⟨w.heap.size,1,none⟩ = some (.bool r)∧W'.cell? ⟨w.heap.size,2,none⟩ = some (.slice a xs.length cp)):=fun W' hW => ⟨((unhide RX6).below hW (by omega)).facts,((unhide RA6).below hW (by omega)).facts⟩
  obtain ⟨k0,k1,k2⟩ := (unhide RA6).facts
  obtain ⟨x0,x1,x2⟩ := (unhide RX6).facts
  clear hb6 X5 G5 RA5 RX5 RS5 RG5 hB5 hB35 HEQ5
  go_wp2_with fail
  go_region_held3 (fun W' => (W'.cell? ⟨w4.heap.size,0,none⟩ = some (.bool l)∧W'.cell? ⟨w4.heap.size,1,none⟩ = some (.bool r)∧W'.cell? ⟨w4.heap.size,2,none⟩ = some (.slice a4 xs.length c4))∧W'.cell? ⟨w.heap.size,0,none⟩ = some (.bool l)∧W'.cell? ⟨w.heap.size,1,none⟩ = some (.bool r)∧W'.cell? ⟨w.heap.size,2,none⟩ = some (.slice a xs.length cp))
   (first | go_keep | exact unhide hS _ hB9 | exact unhide hS _ hB8)
   (first
    | (go_at_call 6; refine (toPattern_w l r _ xs _ (by exact (unhide Hv).below hW6.drew (Nat.le_refl _)) hxl (unhide Hset)).mono ?_; rintro e w8 ⟨u8,rfl,hs8,hb8⟩; have hB8:Below w6.heap.size w6 w8:=⟨hb8.os,hb8.tape,hb8.output,hb8.size,hb8.block⟩; have S8:=hide (hs8.at (N:=w8.heap.size) (fun k hk => hk.2) (unhide HN)); obtain ⟨p8,q8,rfl⟩ := el_is hs8; clear hb8 hs8)
    | (go_at_call 9; refine (eqPattern_same l r _ _ xs _ (by exact ((unhide X6).keep hB8 (fun k hk => by have:=hk.2; omega)).at (fun k hk => by have:=hk.2; have:=hB8.size; show k<w8.heap.size; omega) (unhide HN)) (by exact unhide S8)).mono ?_; rintro e w9 ⟨rfl,hb9⟩; have hB9:Below w6.heap.size w6 w9:=hB8.trans (hb9.mono hB8.size); clear hb9))
  have hz9:=hB9.size
  have RA9:=hide ((unhide RA6).below hB9 (by omega))
  have RX9:=hide ((unhide RX6).below hB9 (by omega))
  have RS9:=hide ((unhide RS6).below hB9 (by omega))
  have RG9:=hide ((unhide RG6).below hB9 (by omega))
  have X9:=hide ((unhide X6).keep hB9 (fun k hk => by have:=hk.2; omega))
  have G9:=hide ((unhide G6).same (w':=w9) (fun k hk => hB9.block k (by have:=unhide HTL k hk; omega)))
  have hB39:Below w3.heap.size w3 w9:=hB36.trans (hB9.mono (by omega))
  have hW9:Below w.heap.size w w9:=hW6.trans (hB9.mono (by omega))
  clear k0 k1 k2 x0 x1 x2
  obtain ⟨x0,x1,x2⟩ := (unhide RX9).facts
  clear hB8 S8 hS hB9 X6 G6 RA6 RX6 RS6 RG6 hB36
  go_wp2_with fail
  refine (markPattern_f l r _ xs 1 (Rng w3.heap.size w4.heap.size) _ (unhide X9) (by omega) (by omega) hsum (unhide Hset) (fun j hj => by have:=hj.2; omega)).mono ?_
  rintro e w10 ⟨rfl,WW,hbW,hcW⟩
  have hzW:=hbW.size
  have hzW2:=hcW.size
  have hblk:∀ k,k<w9.heap.size→¬ Rng w3.heap.size w4.heap.size k→w10.heap[k]? = w9.heap[k]? := fun k h1 h2 => (hcW.block k h2).trans (hbW.block k h1)
  have hz10:w9.heap.size≤w10.heap.size:=by omega
  have hB310:Below w3.heap.size w3 w10:=hB39.trans ((hbW.mono (by omega)).trans ((hcW.below (lo:=w3.heap.size) (fun k hk => hk.1)).mono (by omega)))
  have hW10:Below w.heap.size w w10:=hW9.trans ((hbW.mono (by omega)).trans ((hcW.below (lo:=w3.heap.size) (fun k hk => hk.1)).mono (by omega)))
  have G10:=hide ((unhide G9).same (w':=w10) (fun k hk => hblk k (by have:=unhide HTL k hk; omega) (fun q => by have:=q.2; have:=(unhide HT k hk).1; omega)))
  have RA10:=hide ((unhide RA9).blk (hblk _ (by omega) (fun q => by have:=q.1; omega)))
  have RS10:Hid (Row4 w10 w3'.heap.size 29 (.slice p1 X.length pc1) (.int .i64 K) (.slice p2 Y.length pc2) (.slice p3 Z.length pc3)):=World.rowIs.of_block (unhide RS9) (hblk _ (by omega) (fun q => by have:=q.1; omega))
  have RG10:Hid (Row4 w10 w5'.heap.size 29 (.slice g1 X.length gc1) (.int .i64 K) (.slice g2 Y.length gc2) (.slice g3 Z.length gc3)):=World.rowIs.of_block (unhide RG9) (hblk _ (by omega) (fun q => by have:=q.2; omega))
  have hen:=endE_bd 1 xs
  generalize endE 1 xs=K9 at *
  have hK9:¬ K9<0:=by omega
  obtain ⟨y0,y1,y2,y3,-⟩ := (unhide RS10).facts
  obtain ⟨z0,z1,z2,z3,-⟩ := (unhide RG10).facts
  have hE10:=unhide hE5 w10 hB310
  have HEQ10:=hide (eqDFA_same _ _ _ _ _ _ X Y Z K w10 ((unhide G10).x.at (fun k hk => by have:=unhide HTL k (.inl hk); omega)) ((unhide G10).y.at (fun k hk => by have:=unhide HTL k (.inr (.inl hk)); omega)) ((unhide G10).z.at (fun k hk => by have:=unhide HTL k (.inr (.inr hk)); omega)) hE10.1 hE10.2.1 hE10.2.2)
  clear hbW hcW hblk X9 G9 RA9 RX9 RS9 RG9 hen x0 x1 x2 hzW hzW2 hB39 hE10
  go_wp2_with fail
  refine (unhide HEQ10).mono ?_
  rintro e w11 ⟨rfl,hb11⟩
  have hz11:=hb11.size
  have hW11:Below w.heap.size w w11:=hW10.trans (hb11.mono (by omega))
  have hB311:Below w3.heap.size w3 w11:=hB310.trans (hb11.mono (by omega))
  have G11:=hide ((unhide G10).same (w':=w11) (fun k hk => hb11.block k (by have:=unhide HTL k hk; omega)))
  have RA11:=hide ((unhide RA10).below hb11 (by omega))
  have RS11:=hide ((unhide RS10).below hb11 (by omega))
  have RG11:=hide ((unhide RG10).below hb11 (by omega))
  clear y0 y1 y2 y3 z0 z1 z2 z3 HEQ10
  obtain ⟨z0,z1,z2,z3,-⟩ := (unhide RG11).facts
  clear hb11 G10 RA10 RS10 RG10 hB310
  go_wp2_with fail
  refine (markDFA_w T1 T2 T3 _ _ _ X Y Z K 1 _ (unhide G11) (fun k hk => by have:=unhide HTL k hk; omega) (unhide HD1) (unhide HD2) (by omega) (by omega) q1 q2 q3).mono ?_
  rintro e w12 ⟨rfl,hm12,hz12,hfr12,oo1,oo2,oo3⟩
  have hno:∀ j,j<V4.heap.size∨w5'.heap.size≤j→j<w11.heap.size→w12.heap[j]? = w11.heap[j]? := fun j h1 h2 => hfr12 j h2 (fun q => by have:=unhide HT j (.inl q); omega) (fun q => by have:=unhide HT j (.inr (.inl q)); omega) (fun q => by have:=unhide HT j (.inr (.inr q)); omega)
  have hb12:Below V4.heap.size w11 w12:=⟨oo1,oo2,oo3,hz12,fun k hk => hno k (.inl hk) (by omega)⟩
  have hW12:Below w.heap.size w w12:=hW11.trans (hb12.mono (by omega))
  have hB312:Below w3.heap.size w3 w12:=hB311.trans (hb12.mono (by omega))
  have RA12:=hide ((unhide RA11).below hb12 (by omega))
  have RS12:=hide ((unhide RS11).below hb12 (by omega))
  have RG12:Hid (Row4 w12 w5'.heap.size 29 (.slice g1 X.length gc1) (.int .i64 K) (.slice g2 Y.length gc2) (.slice g3 Z.length gc3)):=World.rowIs.of_block (unhide RG11) (hno _ (.inr (Nat.le_refl _)) (by omega))
  clear z0 z1 z2 z3
  obtain ⟨z0,z1,z2,z3,-⟩ := (unhide RG12).facts
  have hHE:=heldDFA_w _ _ _ X.length Y.length Z.length K 1 w12 (hm12.x.at (fun k hk => by have:=unhide HTL k (.inl hk); omega)) (hm12.y.at (fun k hk => by have:=unhide HTL k (.inr (.inl hk)); omega)) (hm12.z.at (fun k hk => by have:=unhide HTL k (.inr (.inr hk)); omega)) (by omega) (by omega) q1 q2 q3
  obtain ⟨KK,hKK⟩ : ∃ KK:Int,KK=(1:Int)+X.length+Y.length+Z.length:=⟨_,rfl⟩
  have hk2:¬ KK<0:=by omega
  rw [← hKK] at hHE ⊢
  have HHE:=hide hHE
  clear hm12 hfr12 hno G11 RA11 RS11 RG11 hb12 hB311 oo1 oo2 oo3 hHE hKK
  go_wp2_with fail
  refine (unhide HHE).mono ?_
  rintro e w13 ⟨rfl,hb13⟩
  have hz13:=hb13.size
  have hW13:Below w.heap.size w w13:=hW12.trans (hb13.mono (by omega))
  have hB313:Below w3.heap.size w3 w13:=hB312.trans (hb13.mono (by omega))
  have RA13:=hide ((unhide RA12).below hb13 (by omega))
  have RS13:=hide ((unhide RS12).below hb13 (by omega))
  obtain ⟨k0,k1,k2⟩ := (unhide RA13).facts
  clear hb13 RA12 RS12 RG12 HHE z0 z1 z2 z3 hB312
  go_wp2_with fail
  refine (toPattern_w l r _ xs _ ((unhide Hv).below hW13 (Nat.le_refl _)) hxl (unhide Hset)).mono ?_
  rintro e w14 ⟨u0,rfl,hu0,hb14⟩
  obtain ⟨a14,c14,rfl⟩ := el_is hu0
  have hz14:=hb14.size
  have hW14:Below w.heap.size w w14:=hW13.trans (hb14.mono (by omega))
  have hB314:Below w3.heap.size w3 w14:=hB313.trans (hb14.mono (by omega))
  have Z14:=hide (hu0.at (N:=w14.heap.size) (fun k hk => hk.2) (unhide HN))
  have RS14:=hide ((unhide RS13).below hb14 (by omega))
  clear hu0 hb14 RA13 k0 k1 k2 hB313 RS13
  go_wp2_with fail
  refine (implComp_any l r _ xs _ (unhide Z14) (unhide HTZ _ hW14).1 (unhide HTZ _ hW14).2).mono ?_
  rintro e w15' ⟨ch,nh,ah,K',code',X',Y',Z',rfl,hDF,hT,-,-,hans',-,-,-,hb15⟩
  obtain ⟨rfl,rfl,rfl,rfl,rfl⟩ := (unhide Hans).one hans'
  have i1:=hDF.x.at (fun k hk => (hT k (.inl hk)).2)
  have i2:=hDF.y.at (fun k hk => (hT k (.inr (.inl hk))).2)
  have i3:=hDF.z.at (fun k hk => (hT k (.inr (.inr hk))).2)
  obtain ⟨m1',mc1,rfl⟩ := hDF.x.val
  obtain ⟨m2',mc2,rfl⟩ := hDF.y.val
  obtain ⟨m3',mc3,rfl⟩ := hDF.z.val
  have hz15:=hb15.size
  obtain ⟨w15,hw15⟩ : ∃ w15,w15=w15'.alloc (.cells #[.slice m1' X.length mc1,.int .i64 K,.slice m2' Y.length mc2,.slice m3' Z.length mc3] 29):=⟨_,rfl⟩
  have hV15:Below w15'.heap.size w15' w15:=by rw [hw15]; exact below1 w15' _
  have hzV:=hV15.size
  have hW15:Below w.heap.size w w15:=(hW14.trans (hb15.mono (by omega))).trans (hV15.mono (by omega))
  have hB315:Below w3.heap.size w3 w15:=(hB314.trans (hb15.mono (by omega))).trans (hV15.mono (by omega))
  have HE15:=hide (eqDFA_same _ _ _ _ _ _ X Y Z K w15 (i1.below hV15 (Nat.le_refl _)) (i2.below hV15 (Nat.le_refl _)) (i3.below hV15 (Nat.le_refl _)) (unhide hE5 w15 hB315).1 (unhide hE5 w15 hB315).2.1 (unhide hE5 w15 hB315).2.2)
  obtain ⟨y0,y1,y2,y3,-⟩ := (((unhide RS14).below hb15 (by omega)).below hV15 (by omega)).facts
  have hz16:=hW15.size
  have HW15:=hide hw15
  rw [hw15] at y0 y1 y2 y3
  clear hDF i1 i2 i3 hb15 hans' hB314 hT RS14 hV15 hB315 hw15
  go_wp2_with fail
  rw [← unhide HW15]
  refine (unhide HE15).mono ?_
  rintro e w16 ⟨rfl,hb16⟩
  have hW16:Below w.heap.size w w16:=hW15.trans (hb16.mono hz16)
  clear hb16 y0 y1 y2 y3 HW15
  go_wp2
  go_ret
  exact ⟨rfl,hW16⟩
open Go.ChangeShapes Go.WideShapes Go.ChangeAt Go.RowKit
theorem Tryz.own:ownKnob Tryz.prog.godebug=none:=by kernel_rfl
theorem Tryz.laidOut:laidOutB Tryz.prog=true:=by kernel_rfl
theorem gTab:Tryz.prog.globalNamed "math/bits.deBruijn64tab" = some 0:=by kernel_rfl
theorem gTabType:(Tryz.prog.globals[0]?).map (·.type)=some 184:=by kernel_rfl
theorem tabCells:Tryz.prog.cellsOf 184=64:=by kernel_rfl
theorem tabCell:Tryz.prog.cellsOf 5=1:=by kernel_rfl
theorem tabUnder:Tryz.prog.underlying 184=some (.array 64 5):=by kernel_rfl
theorem tabUnder1:Tryz.prog.underlying 5=some (.int .u8):=by kernel_rfl
theorem onlyTab:Rows.fnExactCompileRow.laid.filter (fun x => x.1 == "math/bits.deBruijn64tab") = [("math/bits.deBruijn64tab",Lib.tabData .u8 (Lib.deBruijn64tab.map Int.ofNat))]:=by kernel_rfl
theorem table {W:World} (h:laidMetH Tryz.prog Rows.fnExactCompileRow.laid W):Lib.TabIs Tryz.prog W "math/bits.deBruijn64tab" .u8 (Lib.deBruijn64tab.map Int.ofNat):=by
 have h2:=laidMetH.filter (fun x => x.1 == "math/bits.deBruijn64tab") h
 rw [onlyTab] at h2
 exact Lib.tabIs_of_head (rest := []) gTab gTabType tabUnder tabUnder1 tabCell tabCells h2
theorem tzRen:Tryz.laysTZ_ren.g 1=0:=by kernel_rfl
theorem tz_of {W:World} (h:Lib.TabIs Tryz.prog W "math/bits.deBruijn64tab" .u8 (Lib.deBruijn64tab.map Int.ofNat)):TZ W∧Tryz.laysTZ_ren.g 1<W.heap.size:=by
 unfold Lib.TabIs World.var? at h
 rw [gTab] at h
 simp only [Option.bind_some] at h
 have hlt:0<W.heap.size:=by
  rcases Nat.lt_or_ge 0 W.heap.size with h' | h'
  ·exact h'
  ·rw [Array.getElem?_eq_none h'] at h; simp at h
 refine ⟨fun j hj => ?_,by rw [tzRen]; exact hlt⟩
 rw [tzRen]
 cases hg:W.heap[0]? with
 | none => rw [hg] at h; cases h
 | some o =>
  rw [hg] at h
  cases o with
  | cells cs t fr =>
   have e:cs=((Lib.deBruijn64tab.map Int.ofNat).map fun z => Value.int .u8 z).toArray:=Option.some.inj h
   rw [cell_of_row W 0 j cs t fr hg,e]
   simp [hj]
  | _ => cases h
def laidCells:DataW Unit→Array Value
 | .agg ps => (ps.map fun | .lit (.int k z) => Value.int k z | _ => undef).toArray
 | _ => #[]
def putCs (cs:Array Value):Obj→Obj
 | .cells _ t frozen => .cells cs t frozen
 | o => o
theorem laid_met (os:Os):laidMet Tryz.prog Rows.fnExactCompileRow.laid (({ World.holding Tryz.prog os ⟨#[],#[],[]⟩ with heap:=(World.holding Tryz.prog os ⟨#[],#[],[]⟩).heap.modify 0 (putCs (laidCells Rows.laid_math_bits_deBruijn64tab)) }:World).forCall (fun _ _ => 0) ⟨#[],#[.agg #[.bool false,.bool false,.slice none 0 0]],[]⟩).memory :=
 laidMet_of_run' 8 (by kernel_rfl) (by kernel_rfl)
theorem reads (os:Os) {H:Type} (enc:TypeId × Value→H):∃ places,DataW.whole enc Tryz.prog (({ World.holding Tryz.prog os ⟨#[],#[],[]⟩ with heap:=(World.holding Tryz.prog os ⟨#[],#[],[]⟩).heap.modify 0 (putCs (laidCells Rows.laid_math_bits_deBruijn64tab)) }:World).forCall (fun _ _ => 0) ⟨#[],#[.agg #[.bool false,.bool false,.slice none 0 0]],[]⟩).memory Tryz.f3.params.toList Rows.fnExactCompileSpec.vars false #[Value.agg #[.bool false,.bool false,.slice none 0 0]].toList 8=some ([.agg [.lit (.bool false),.lit (.bool false),.nil]],[],places) :=
 ⟨[],by kernel_rfl⟩
set_option maxRecDepth 100000 in
theorem comp_lifted (os:Os) (started:os.Started) (H:Type) (enc:TypeId × Value→H) (F:Stop.Interp) :
  ReturnsInHanded {} Tryz.checked os 3 .any ((OpenSpec.ofChange Rows.fnExactCompileSpec).preRow enc Tryz.prog Tryz.f3 Rows.fnExactCompileRow.domain false Rows.fnExactCompileRow.laid) (((OpenSpec.ofChange Rows.fnExactCompileSpec).at F).post enc Tryz.prog Tryz.f3 false true false false):=by
 obtain ⟨places,hx⟩ := reads os enc
 refine returnsInHanded_of_row (C:=Tryz.checked) (s:=OpenSpec.ofChange Rows.fnExactCompileSpec) Tryz.own started (by kernel_rfl) Tryz.func3
  (witness_row_at (enc:=enc) (C:=Tryz.checked) false ({ World.holding Tryz.prog os ⟨#[],#[],[]⟩ with heap:=(World.holding Tryz.prog os ⟨#[],#[],[]⟩).heap.modify 0 (putCs (laidCells Rows.laid_math_bits_deBruijn64tab)) }:World) #[.agg #[.bool false,.bool false,.slice none 0 0]] rfl (by kernel_rfl) (by kernel_rfl) (by kernel_rfl)
   (OpenSpec.preRow_of_cond 8 hx (by kernel_rfl) (fun k hk => by cases hk) (by kernel_rfl) (laid_met os))) ?_
 intro W base args ds gs before hval0 hW _ _ _ hL _ _
 have hval:∀ (j:Nat) t v,Tryz.f3.params[j]? = some t→args[j]? = some v→Value.okWide Tryz.prog W .any base t v:=hval0
 have hW':=hW
 obtain ⟨p,q,hA0,hV,rfl,hfz,hnd⟩ := hW
 have hA:DataW.TrodAll enc Tryz.prog W 0 (fun _ => true) true Tryz.f3.params.toList args.toList ds p:=hA0
 rw [Tryz.params3] at hA hval
 obtain ⟨v0,vs0,d0,ds0,p0,q0,hargs,rfl,rfl,h0,r0⟩ := trodAll_cons hA
 obtain ⟨rfl,rfl,rfl⟩ := trodAll_nil r0
 obtain rfl:args = #[v0]:=by cases args; simp_all
 obtain ⟨rfl,rfl⟩ := trodVars_none hV
 have k0:=h0
 have lt0:∀ x ∈ p0,x.block<W.heap.size:=by obtain ⟨m,hm⟩ := k0; exact DataW.trod_lt m _ _ _ hm
 obtain ⟨c0,c1,c2,y0,y1,y2,m,rfl,-,-,g0,g1,g2⟩ := Go.Joins.open_agg3 Tryz.underlying24 (by kernel_rfl) Tryz.cells24 (hval 0 24 v0 rfl rfl) h0
 obtain ⟨l,e0,-⟩ := DataW.trod_bool Tryz.underlying4 g0
 obtain ⟨r,e1,-⟩ := DataW.trod_bool Tryz.underlying4 g1
 simp only [List.cons.injEq,and_true] at e0 e1
 subst e0 e1
 obtain ⟨xs,hxs⟩ := els_of g2
 clear hA0 hval0
 refine (lawComp_any l r c2 xs W hxs (tz_of (table hL)).1 (tz_of (table hL)).2).mono fun e W' ⟨he,bel⟩ => ?_
 subst he
 exact ⟨_,rfl,_,_,_,[],_,[],hW',trodAll_mk1 (shut_bool Tryz.underlying4 _),(trodAll_cons_mk (Below.trod Tryz.laidOut (by kernel_rfl) (of_decide_eq_true (by kernel_rfl)) k0 bel lt0) trodAll_mk0),rfl,bel.frame _,fun h => by cases h⟩
theorem comp_said:Rows.FnExactCompileSaid :=
 OpenClaim.holds_of_cond 3 Tryz.f3 rfl rfl rfl rfl rfl rfl rfl ⟨rfl,rfl,rfl,rfl,rfl⟩ rfl rfl rfl rfl rfl (by kernel_rfl) Tryz.func3 (by kernel_rfl)
  (of_decide_eq_true (by kernel_rfl)) (by unfold Func.isWrapper; first | (rw [if_pos (by decide +kernel)]; kernel_rfl) | (rw [if_neg (by decide +kernel)]; exact ⟨rfl,rfl⟩))
  (fun os started H enc _ F => by rw [OpenClaim.pre_eq_preRow]; exact comp_lifted os started H enc F)
theorem comp_plain (f:FuncId) (fn:Func) (hf:Tryz.pinned.checked.prog.funcNamed "loop.example/s0027/laws.FnExactCompile" = some f) (hfn:Tryz.pinned.checked.prog.funcs[f]? = some fn) :
  true=Tryz.pinned.checked.prog.looks []∧∀ (j:Nat) t,fn.params[j]? = some t→Tryz.pinned.checked.prog.wantsStandIn t=false:=by
 obtain rfl:f=3:=Option.some.inj ((show Tryz.prog.funcNamed "loop.example/s0027/laws.FnExactCompile" = some 3 by kernel_rfl).symm.trans hf) |>.symm
 obtain rfl:fn=Tryz.f3:=(Option.some.inj (Tryz.func3.symm.trans hfn)).symm
 refine ⟨by kernel_rfl,fun j t ht => ?_⟩
 rw [Tryz.params3] at ht
 obtain rfl:t=24:=by simpa using Array.mem_of_getElem? ht
 exact (show Tryz.prog.wantsStandIn 24=false by kernel_rfl)
theorem compile_holds:Rows.FnExactCompileCardSaid :=
 Claim7.holds_tied_plain_at .later [] _ _ _ _ comp_said (fun _ h => by cases h) (by kernel_rfl) (fun _ h => by cases h) fnExactCompile_row_tie rfl ⟨rfl,rfl⟩ (by kernel_rfl) rfl comp_plain (by kernel_rfl)
#print axioms compile_holds
end Go.Proofs.YtlidckepahpaeaaGreatDoor
