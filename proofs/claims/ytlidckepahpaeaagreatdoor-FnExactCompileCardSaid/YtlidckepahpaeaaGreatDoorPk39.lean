import Derived.Test.YtlidckepahpaeaaGreatDoorPk35
import Derived.Test.YtlidckepahpaeaaGreatDoorPk38
import Derived.Test.YtlidckepahpaeaaGreatDoorPk24
import Derived.Test.YtlidckepahpaeaaGreatDoorMw6
import Derived.Test.YtlidckepahpaeaaGreatDoorPk22
import Derived.Test.YtlidckepahpaeaaGreatDoorPk26
namespace Go.Proofs.YtlidckepahpaeaaGreatDoor
open Go.RowKit
def hldA (S : List (List Int)) (i b : Nat) : Bool := decide (i < S.length) && (List.range (S[i]?.getD []).length).any fun k => decide (2 * k + 1 < (S[i]?.getD []).length) && (decide ((S[i]?.getD [])[2 * k]?.getD 0 ≤ (b : Int)) && decide ((b : Int) ≤ (S[i]?.getD [])[2 * k + 1]?.getD 0))
theorem hldA_iff (S : List (List Int)) (i b : Nat) : hldA S i b = true ↔ (i < S.length ∧ inPs (S[i]?.getD []) (b : Int)) := by
  unfold hldA inPs
  rw [Bool.and_eq_true, decide_eq_true_eq, List.any_eq_true]
  simp only [Bool.and_eq_true, decide_eq_true_eq, List.mem_range]
  exact and_congr_right fun _ => ⟨fun ⟨k, _, h⟩ => ⟨k, h⟩, fun ⟨k, h⟩ => ⟨k, by omega, h⟩⟩
theorem hldA_in {S:List (List Int)} {i b:Nat} (hi:i<S.length):hldA S i b=true↔inPs (S[i]?.getD []) (b:Int):=by
 rw [hldA_iff]
 exact ⟨fun h => h.2,fun h => ⟨hi,h⟩⟩
theorem hldA_out {S:List (List Int)} {i b:Nat} (hi:S.length≤i):hldA S i b=false:=by
 cases h:hldA S i b with
 | false => rfl
 | true => rw [hldA_iff] at h; omega
def folA (W:List (List Int)) (i j:Nat):Bool:=(W[i]?.getD []).contains (j:Int)
def lstA (L:List Int) (i:Nat):Bool:=L.contains (i:Int)
def pstA (S:List (List Int)) (L:List Int) (W:List (List Int)):List Nat × Bool→Nat→List Nat × Bool:=pstep S.length (hldA S) (folA W) (lstA L)
def fstA (F:List Int) (nl:Bool):List Nat × Bool:=(F.map Int.toNat,nl)
theorem folA_is {ln:List Lk} {n:Nat} (h:LkB ln n) (i j:Nat):folA (folL ln n) i j=mkd ln i j:=by
 have key:mkd ln i j=true→i<n∧j<n:=fun hm => by
  unfold mkd at hm
  rw [List.any_eq_true] at hm
  obtain ⟨p,hp,hm⟩ := hm
  rw [Bool.and_eq_true,List.contains_iff_mem,List.contains_iff_mem] at hm
  exact ⟨(h p hp).1 i hm.1,(h p hp).2 j hm.2⟩
 unfold folA folL
 by_cases hi:i<n
 ·rw [List.getElem?_map,List.getElem?_range hi]
  show (folR ln n i).contains (j:Int)=_
  rw [Bool.eq_iff_iff,List.contains_iff_mem]
  unfold folR
  rw [List.mem_map]
  constructor
  ·rintro ⟨j',hj',e⟩
   have:j'=j:=by omega
   subst this
   exact (List.mem_filter.1 hj').2
  ·intro hm
   exact ⟨j,List.mem_filter.2 ⟨List.mem_range.2 (key hm).2,hm⟩,rfl⟩
 ·rw [List.getElem?_eq_none (by simp; omega)]
  cases hm:mkd ln i j with
  | false => rfl
  | true => exact absurd (key hm).1 hi
theorem folA_row {ln:List Lk} {n i:Nat} (h:LkB ln n) (hi:i<n):(folL ln n)[i]?.getD []=((List.range n).filter (folA (folL ln n) i)).map fun (j:Nat) => (j:Int):=by
 have e:folA (folL ln n) i=mkd ln i:=by funext j; exact folA_is h i j
 rw [e]
 unfold folL
 rw [List.getElem?_map,List.getElem?_range hi]
 rfl
theorem lstA_is (a:It) (i:Nat):lstA (edg a true 0) i=a.la.contains i:=by
 unfold lstA edg
 rw [Bool.eq_iff_iff,List.contains_iff_mem,List.contains_iff_mem]
 simp only [if_true,List.mem_map]
 constructor
 ·rintro ⟨j,hj,e⟩
  have:j=i:=by omega
  subst this
  exact hj
 ·intro h
  exact ⟨i,h,by omega⟩
theorem fstA_is (a:It):(edg a false 0).map Int.toNat=a.fi:=by
 unfold edg
 simp [Function.comp_def]
theorem filt_low {p:Nat→Bool} {N M:Nat} (h:N≤M) (hp:∀ i,p i=true→i<N):(List.range M).filter p=(List.range N).filter p:=by
 obtain ⟨d,rfl⟩ : ∃ d,M=N+d:=⟨M - N,by omega⟩
 rw [List.range_add,List.filter_append]
 have:(List.map (fun x => N+x) (List.range d)).filter p = []:=by
  rw [List.filter_eq_nil_iff]
  intro a ha hpa
  obtain ⟨x,-,rfl⟩ := List.mem_map.1 ha
  have:=hp _ hpa
  omega
 rw [this,List.append_nil]
def CmS (l r:Bool) (xs:List El) (code K:Int) (X Y:List Int) (Z:List Bool):Prop :=
 (¬ ValidT xs∧code=4∧K=0∧X = []∧Y = []∧Z = []) ∨
 (ValidT xs∧∃ S nl F L W,AnsA l r xs S nl F L W ∧
  ((∃ (k:Nat) (cls rep:Nat→Nat) (o:List (List Nat × Bool)) (ys:List Nat),PTab (pstA S L W) (fstA F nl) k cls rep o ys∧1024<o.length∧code=3∧K=0∧X = []∧Y = []∧Z = []) ∨
   (∃ (k:Nat) (cls rep:Nat→Nat) (o:List (List Nat × Bool)) (ys:List Nat),PTab (pstA S L W) (fstA F nl) k cls rep o ys∧ys.length=o.length * k∧o.length≤1024∧code=0 ∧
    ∃ (kk:Nat) (P c2 r2:Nat→Nat) (o2 ys2:List Nat),SpecT (bfsT k cls Prod.snd o ys) P kk c2 r2 o2 ys2∧K=(kk:Nat)∧X=clL (bfsT kk c2 (bfsT k cls Prod.snd o ys).ac o2 ys2)∧Y=nxL (bfsT kk c2 (bfsT k cls Prod.snd o ys).ac o2 ys2)∧Z=acL (bfsT kk c2 (bfsT k cls Prod.snd o ys).ac o2 ys2))))
def CmI (l r:Bool) (xs:List El) (code K:Int) (X Y:List Int) (Z:List Bool):Prop :=
 (¬ ValidT xs∧code=4∧K=0∧X = []∧Y = []∧Z = []) ∨
 (ValidT xs∧∃ S nl F L W,AnsA l r xs S nl F L W ∧
  ((∃ (k:Nat) (cls rep:Nat→Nat) (o:List (List Nat × Bool)) (ys:List Nat),PTab (pstA S L W) (fstA F nl) k cls rep o ys∧1024<o.length∧code=3∧K=0∧X = []∧Y = []∧Z = []) ∨
   (∃ (k:Nat) (cls rep:Nat→Nat) (o:List (List Nat × Bool)) (ys:List Nat),PTab (pstA S L W) (fstA F nl) k cls rep o ys∧ys.length=o.length * k∧o.length≤1024∧code=0 ∧
    ∃ (kk:Nat) (o2 ys2:List Nat) (m:Nat) (num Fn mg G:Nat→Nat),ProgT (bfsT k cls Prod.snd o ys) o2 ys2 m num Fn kk mg G∧K=(kk:Nat)∧X=clL (ProgT.out (bfsT k cls Prod.snd o ys) o2 ys2 m num Fn kk mg G)∧Y=nxL (ProgT.out (bfsT k cls Prod.snd o ys) o2 ys2 m num Fn kk mg G)∧Z=acL (ProgT.out (bfsT k cls Prod.snd o ys) o2 ys2 m num Fn kk mg G))))
theorem CmS.one {l r:Bool} {xs:List El} {code code' K K':Int} {X Y X' Y':List Int} {Z Z':List Bool} (h:CmS l r xs code K X Y Z) (g:CmI l r xs code' K' X' Y' Z'):code=code'∧K=K'∧X=X'∧Y=Y'∧Z=Z':=by
 rcases h with ⟨h0,rfl,rfl,rfl,rfl,rfl⟩ | ⟨h0,S,nl,F,L,W,hA,h⟩ <;> rcases g with ⟨g0,rfl,rfl,rfl,rfl,rfl⟩ | ⟨g0,S',nl',F',L',W',gA,g⟩
 ·exact ⟨rfl,rfl,rfl,rfl,rfl⟩
 ·exact absurd g0 h0
 ·exact absurd h0 g0
 ·obtain ⟨rfl,rfl,rfl,rfl,rfl⟩ := hA.one gA
  rcases h with ⟨k,cls,rep,o,ys,hp,hbig,rfl,rfl,rfl,rfl,rfl⟩ | ⟨k,cls,rep,o,ys,hp,hl,hle,rfl,kk,P,c2,r2,o2,ys2,hs,rfl,rfl,rfl,rfl⟩ <;> rcases g with ⟨k',cls',rep',o',ys',gp,gbig,rfl,rfl,rfl,rfl,rfl⟩ | ⟨k',cls',rep',o',ys',gp,gl,gle,rfl,kk',o2',ys2',m,num,Fn,mg,G,gs,rfl,rfl,rfl,rfl⟩
  ·exact ⟨rfl,rfl,rfl,rfl,rfl⟩
  ·have:=gp.few gl hp; omega
  ·have:=hp.few hl gp; omega
  ·obtain ⟨e1,e2,e3,e4⟩ := same_lists2 gs hs (gp.tel gl hp hl Prod.snd)
   exact ⟨rfl,by rw [e2],e1.symm,e3.symm,e4.symm⟩
theorem setsOf_mem {s:List Int}:∀ {M:List El},s ∈ setsOf M→∃ x ∈ M,x.kind=1∧x.set=s
 | [],h => by simp [setsOf] at h
 | x :: r,h => by
  simp only [setsOf] at h
  rcases List.mem_append.1 h with h | h
  ·by_cases hk:x.kind=1
   ·rw [if_pos hk,List.mem_singleton] at h
    exact ⟨x,List.mem_cons_self ..,hk,h.symm⟩
   ·rw [if_neg hk] at h; simp at h
  ·obtain ⟨y,hy,h1,h2⟩ := setsOf_mem h
   exact ⟨y,List.mem_cons_of_mem _ hy,h1,h2⟩
theorem AllOk.sets {M:List El} (h:AllOk M) (i:Nat):((setsOf M)[i]?.getD []).length≤1048576:=by
 cases e:(setsOf M)[i]? with
 | none => simp
 | some s =>
  show s.length≤1048576
  obtain ⟨x,hx,hk,hs⟩ := setsOf_mem (List.mem_of_getElem? e)
  obtain ⟨j,hj⟩ := List.getElem?_of_mem hx
  have:=h j (List.getElem?_eq_some_iff.1 hj).1
  rw [hj] at this
  rcases this with ⟨-,hc,-⟩ | ⟨hc,-⟩ | ⟨hc,-⟩
  ·have:=canon_len hc
   rw [← hs]
   show x.set.length≤_
   exact Nat.le_trans this (by decide)
  ·have hc':x.kind=0∨x.kind=2∨x.kind=3:=hc
   omega
  ·have hc':x.kind=4:=hc
   omega
theorem pos_ex (l r:Bool) {xs:List El} (hok:ValidT xs):∃ (S:List (List Int)) (nl:Bool) (X0:List Nat) (L:List Int) (W:List (List Int)),AnsA l r xs S nl (iL X0) L W∧W.length=S.length∧S.length≤512∧(∀ x ∈ X0,x<S.length)∧(∀ i:Nat,i<S.length→(S[i]?.getD []).length≤1048576)∧∀ i,i<S.length→W[i]?.getD []=((List.range S.length).filter (folA W i)).map fun (j:Nat) => (j:Int):=by
 obtain ⟨L0,hx,hn,hl,hsx,⟨U,hpos⟩,-⟩ := valid_q closPos hok
 have hwh:∃ U',PosS U' (whL l r L0):=by
  obtain ⟨g,hg⟩ := words_ex canon_all
  unfold whL
  cases l <;> cases r
  ·exact ⟨_,closPos.cat (closPos.cat (closPos.all hg) hpos) (closPos.all hg)⟩
  ·exact ⟨_,closPos.cat (closPos.all hg) hpos⟩
  ·exact ⟨_,closPos.cat hpos (closPos.all hg)⟩
  ·exact ⟨_,hpos⟩
 have hMl:=whL_len l r L0
 obtain ⟨M,hM⟩ : ∃ M,M=whL l r L0:=⟨_,rfl⟩
 rw [← hM] at hwh hMl
 obtain ⟨U',A,ln,ss,c,-,hnu,hed,hso,hbd,hasc,hsm,hall⟩ := hwh
 have hfew:=lvs_half M
 rw [hsm.ws] at hfew
 have hF:edg A false 0=iL A.fi:=by unfold edg iL; simp
 have hlen:(setsOf M).length=lvs M:=setsOf_len M
 refine ⟨setsOf M,A.nl,A.fi,edg A true 0,folL ln (lvs M),Or.inl ⟨hok,L0,A,ln,ss,hsx,hl,by rw [← hM]; exact hso,by rw [← hM],rfl,hF.symm,rfl,by rw [← hM]⟩,?_,?_,?_,fun i _ => hall.sets i,?_⟩
 ·rw [hlen]; simp [folL]
 ·rw [hlen]; omega
 ·rw [hlen]; exact hbd.1
 ·rw [hlen]
  exact fun i hi => folA_row hso.lkb hi
theorem fstA_iL (X0:List Nat) (nl:Bool):fstA (iL X0) nl=(X0,nl):=by
 unfold fstA iL
 simp [Function.comp_def]
theorem l2smallest_pt {pst:List Nat × Bool→Nat→List Nat × Bool} {s0:List Nat × Bool} {k:Nat} {cls rep:Nat→Nat} {o:List (List Nat × Bool)} {ys:List Nat} (h:PTab pst s0 k cls rep o ys) (hl:ys.length=o.length * k) (ho:o.length≤1024) (hk:k≤256) (gc base:Nat) (nv av:Value) (w:World) (hrow:w.rowIs gc 3 256 (fun x => .int .i64 (cls x:Nat))) (hn:w.ownsRow base 3 1 nv ys.length (ys.map mN)) (ha:w.ownsRow base 4 1 av o.length ((o.map Prod.snd).map mT)) :
  Calls Tryz.prog 16 #[.agg #[.slice (some ⟨gc,0,none⟩) 256 256,.int .i64 (k:Nat),nv,av]] w fun e w' => ∃ (cv nv av:Value) (K:Int) (X Y:List Int) (Z:List Bool),e = .returned (.agg #[cv,.int .i64 K,nv,av])∧SlAt mI 0 0 w'.heap.size w' cv X∧SlAt mI 0 0 w'.heap.size w' nv Y∧SlAt mT false 0 w'.heap.size w' av Z∧(∀ j,OwB cv j∨OwB nv j∨OwB av j→w.heap.size≤j) ∧
   (∃ (kk:Nat) (P c2 r2:Nat→Nat) (o2 ys2:List Nat),SpecT (bfsT k cls Prod.snd o ys) P kk c2 r2 o2 ys2∧K=(kk:Nat)∧X=clL (bfsT kk c2 (bfsT k cls Prod.snd o ys).ac o2 ys2)∧Y=nxL (bfsT kk c2 (bfsT k cls Prod.snd o ys).ac o2 ys2)∧Z=acL (bfsT kk c2 (bfsT k cls Prod.snd o ys).ac o2 ys2))∧Below w.heap.size w w':=by
 have hp:=h.pre hl Prod.snd
 have hop:=h.bfs.pos
 have hkp:=h.kpos
 obtain ⟨nb,ncap,rfl,-,hnb,hnc,hncell⟩ := own_cells hn (by rw [hl]; exact Nat.mul_pos hop hkp)
 obtain ⟨ab,acap,rfl,-,hab,-,hacell⟩ := own_cells ha hop
 have hgc:=hrow.lt
 rw [hl]
 refine (l2smallest_any (bfsT k cls Prod.snd o ys) o.length k gc 0 256 nb 0 ncap ab 0 acap w rfl rfl hp.wf hp.clAll ho ⟨hkp,hk⟩ hnb (fun q c hq hc => ⟨hp.wf.nxt q c hq hc,?_⟩) hgc (fun q hq => ?_) hab (fun q hq => ?_)).mono ?_
 ·rw [Nat.zero_add]
  have e1:w.cell? ⟨nb,q * k+c,none⟩ = (ys.map mN)[q * k+c]? := hncell _ (by rw [hl]; exact row_in hq hc)
  have e2:ys[q * k+c]? = some (ys[q * k+c]?.getD 0):=by rw [List.getElem?_eq_getElem (by rw [hl]; exact row_in hq hc)]; rfl
  show w.cell? ⟨nb,q * k+c,none⟩ = some (mN (ys[q * k+c]?.getD 0))
  rw [e1,List.getElem?_map,e2]
  rfl
 ·rw [Nat.zero_add,hrow.cell hq]; rfl
 ·have e2:(o.map Prod.snd)[q]? = some ((o[q]?.map Prod.snd).getD false):=by rw [List.getElem?_map,List.getElem?_eq_getElem hq]; rfl
  rw [Nat.zero_add,hacell q hq,List.getElem?_map,e2]
  rfl
 rintro e w' ⟨xv,nv,av,kk,rfl,hB,P,c2,r2,o2,ys2,hs,ho2,hkk,o1,o2',o3⟩
 have hl2:o2.length * kk≤1024 * 256:=Nat.mul_le_mul ho2 hkk
 refine ⟨xv,nv,av,(kk:Nat),_,_,_,rfl,(own_slf o1 (by unfold maxLen; omega)).at (fun q hq => (o1.lt q hq).2),(own_slf o2' (by unfold maxLen; omega)).at (fun q hq => (o2'.lt q hq).2),(own_slft o3 (by unfold maxLen; omega)).at (fun q hq => (o3.lt q hq).2),?_,⟨kk,P,c2,r2,o2,ys2,hs,rfl,rfl,rfl,rfl⟩,hB⟩
 intro j hj
 rcases hj with h | h | h
 ·exact (o1.lt j h).1
 ·exact (o2'.lt j h).1
 ·exact (o3.lt j h).1
def CmsRet (l r:Bool) (xs:List El) (w:World) (e:Ending) (w':World):Prop :=
 ∃ (cv nv av:Value) (K code:Int) (X Y:List Int) (Z:List Bool),e = .returned (.tuple #[.agg #[cv,.int .i64 K,nv,av],.int .i64 code])∧SlAt mI 0 0 w'.heap.size w' cv X∧SlAt mI 0 0 w'.heap.size w' nv Y∧SlAt mT false 0 w'.heap.size w' av Z∧CmS l r xs code K X Y Z∧Below w.heap.size w w'
theorem cmsRet_none {l r:Bool} {xs:List El} {w w':World} {code:Int} (h:CmS l r xs code 0 [] [] []) (hb:Below w.heap.size w w'):CmsRet l r xs w (.returned (.tuple #[.agg #[.slice none 0 0,.int .i64 0,.slice none 0 0,.slice none 0 0],.int .i64 code])) w' :=
 ⟨_,_,_,0,code,[],[],[],rfl,⟨none,0,rfl,by simp,by simp⟩,⟨none,0,rfl,by simp,by simp⟩,⟨none,0,rfl,by simp,by simp⟩,h,hb⟩
theorem slAt_ob {α:Type} {mk:α→Value} {d:α} {b:Nat} {w w':World} {v:Value} {X:List α} (h:SlAt mk d 0 w.heap.size w v X) (ho:Obk b w w') (hb:∀ j,OwB v j→j ≠ b) (hv:∀ a n c,v = .slice a n c→∀ g off,a=some ⟨g,off,none⟩→OwB v g):SlAt mk d 0 w'.heap.size w' v X:=by
 obtain ⟨a,c,rfl,hl,hc⟩ := h
 refine ⟨a,c,rfl,hl,fun hp => ?_⟩
 obtain ⟨g,off,rfl,h1,h2,h3⟩ := hc hp
 refine ⟨g,off,rfl,h1,by rw [ho.size]; exact h2,fun i hi => ?_⟩
 rw [World.cell?_of_block (a:=⟨g,off+i,none⟩) (ho.block g (hb g (hv _ _ _ rfl g off rfl)))]
 exact h3 i hi
set_option maxHeartbeats 8000000 in
set_option maxRecDepth 100000 in
theorem specComp_any (l r:Bool) (v:Value) (xs:List El) (w:World) (hv:ElsAt 0 w.heap.size w v xs) :
  Calls Tryz.prog 5 #[.agg #[.bool l,.bool r,v]] w fun e w' => CmsRet l r xs w e w':=by
 obtain ⟨a,cp,rfl,-,-⟩ := id hv
 have Hv:=hide hv
 obtain ⟨W0,hW0⟩ : ∃ W0,W0=(w.alloc (.cells #[.bool l,.bool r,.slice a xs.length cp] 34)).alloc (.cells #[.slice none 0 0,.int .i64 0,.slice none 0 0,.slice none 0 0] 29):=⟨_,rfl⟩
 have hz0:W0.heap.size=w.heap.size+2:=by rw [hW0,sz_alloc,sz_alloc]
 have hb0:Below w.heap.size w W0:=by rw [hW0]; exact below2 w _ _
 have hX0:Bx3 W0 w.heap.size 34 (.bool l) (.bool r) (.slice a xs.length cp):=by
  rw [hW0]
  exact (Bx3.new w 34 (.bool l) (.bool r) (.slice a xs.length cp)).below (below1 _ _) (by rw [sz_alloc]; omega)
 have hE0:Row4 W0 (w.heap.size+1) 29 (.slice none 0 0) (.int .i64 0) (.slice none 0 0) (.slice none 0 0):=by
  have:=Row4.new (w.alloc (.cells #[.bool l,.bool r,.slice a xs.length cp] 34)) 29 (.slice none 0 0) (.int .i64 0) (.slice none 0 0) (.slice none 0 0)
  rw [sz_alloc] at this
  rw [hW0]
  exact this
 have HE0:=hide hE0
 have HX0:=hide hX0
 have HW0:=hide hW0
 clear hv hW0 hE0 hX0
 go_enter Tryz.func5,Tryz.ntmps5
 go_wp2_with fail
 rw [← unhide HW0]
 clear HW0
 refine (specValid_any l r _ xs _ ((unhide Hv).below hb0 (Nat.le_refl _))).mono ?_
 rintro e w1 ⟨hret,hb1⟩
 have hz1:=hb1.size
 have HB1:Hid (Below w.heap.size w w1):=hb0.trans (hb1.mono (by omega))
 have hE1:=(unhide HE0).below hb1 (by omega)
 obtain ⟨k0,k1,k2⟩ := ((unhide HX0).below hb1 (by omega)).facts
 have HE1:=hide hE1
 clear hb1 hb0 HE0 HX0
 rcases hret.cases with ⟨rfl,hok⟩ | ⟨rfl,hbad⟩
 ·clear hE1
  obtain ⟨S,nl,X0,L,W,hans,hWS,hS5,hXS,hSl,hWr⟩ := pos_ex l r hok
  have HSU:=hide (l2subsets_any l r _ xs w1 ((unhide Hv).below (unhide HB1) (Nat.le_refl _)) S W nl X0 L S.length (hldA S) (folA W) (lstA L) (fun S' b' F' L' W' h => by
   obtain ⟨rfl,rfl,rfl,rfl,rfl⟩ := hans.one h
   exact ⟨rfl,rfl,rfl,rfl,rfl⟩) rfl hWS hS5 hXS hSl (fun b _ i hi => hldA_in hi) hWr (fun i _ => by unfold lstA; rw [List.contains_iff_mem]) (fun i b hi => hldA_out hi))
  have HANS:=hide hans
  have HOK:=hide hok
  clear hans hok hWS hS5 hXS hSl hWr
  go_wp2_with fail
  refine (unhide HSU).mono ?_
  rintro e w2 ⟨hb2,hret⟩
  have hz2:=hb2.size
  have hBw2:Below w.heap.size w w2:=(unhide HB1).trans (hb2.mono (unhide HB1).size)
  have hE2:=(unhide HE1).below hb2 (by omega)
  have hw1:=(unhide HB1).size
  rcases hret with ⟨cb,k,nv,av,cls,rep,o,ys,rfl,hpt,hyl,hol,hk,hrow,hon,hoa⟩ | ⟨k,cls,rep,o,ys,rfl,hpt,hbig⟩
  ·obtain ⟨na,nc,rfl⟩ := own_is hon
   obtain ⟨aa,ac,rfl⟩ := own_is hoa
   obtain ⟨w5,hw5⟩ : ∃ w5,w5=w2.alloc (.cells #[.slice (some ⟨cb,0,none⟩) 256 256,.int .i64 (k:Nat),.slice na ys.length nc,.slice aa o.length ac] 29):=⟨_,rfl⟩
   have hV5:Below w2.heap.size w2 w5:=by rw [hw5]; exact below1 w2 _
   have hR5:Row4 w5 w2.heap.size 29 (.slice (some ⟨cb,0,none⟩) 256 256) (.int .i64 (k:Nat)) (.slice na ys.length nc) (.slice aa o.length ac):=by rw [hw5]; exact Row4.new w2 _ _ _ _ _
   have hE5:=hE2.below hV5 (by omega)
   have hB5:Below w.heap.size w w5:=hBw2.trans (hV5.mono (by have:=hBw2.size; omega))
   have hz5:=hV5.size
   have HSM:=hide (l2smallest_pt hpt hyl hol hk cb w1.heap.size _ _ w5 (hrow.of_block (hV5.block _ hrow.lt)) (own_keep hon hV5 (Nat.le_refl _)) (own_keep hoa hV5 (Nat.le_refl _)))
   have HPTX:Hid (PTab (pstA S L W) (fstA (iL X0) nl) k cls rep o ys):=by rw [fstA_iL]; exact hpt
   have HYL:=hide hyl
   obtain ⟨g0,g1,g2,g3,-⟩ := hR5.facts
   have HW5:=hide hw5
   have HB5:=hide hB5
   have HE5:=hide hE5
   rw [hw5] at g0 g1 g2 g3
   clear hV5 hR5 hE5 hB5 hw5 hpt hyl hon hoa hE2 hBw2 hb2 hrow HSU k0 k1 k2
   go_wp2_with fail
   rw [← unhide HW5]
   clear HW5 g0 g1 g2 g3
   refine (unhide HSM).mono ?_
   rintro e w6 ⟨cv,nv6,av6,KK,X,Y,Z,rfl,s1,s2,s3,hlo,hsp,hb6⟩
   obtain ⟨u1,v1,rfl,-,-⟩ := id s1
   obtain ⟨u2,v2,rfl,-,-⟩ := id s2
   obtain ⟨u3,v3,rfl,-,-⟩ := id s3
   have hE6:=(unhide HE5).below hb6 (by omega)
   obtain ⟨x0,x1,x2,x3,z0,z1,z2,z3⟩ := hE6.facts
   have HCI:Hid (CmS l r xs 0 KK X Y Z):=Or.inr ⟨unhide HOK,_,_,_,_,_,unhide HANS,Or.inr ⟨_,_,_,_,_,unhide HPTX,unhide HYL,hol,rfl,hsp⟩⟩
   have HE6:=hide hE6
   have HS1:=hide s1
   have HS2:=hide s2
   have HS3:=hide s3
   have HLO:=hide hlo
   have HB6:=hide hb6
   clear hE6 s1 s2 s3 hlo hb6 hsp HSM
   go_wp2
   refine bodyPost_ret (dfab_ret (row4_all (unhide HE6) _ _ _ _) rfl _ rfl rfl) rfl ?_
   have hob:=row4_ob w6 (w.heap.size+1) (.slice u1 X.length v1) (.int .i64 KK) (.slice u2 Y.length v2) (.slice u3 Z.length v3)
   have hne:∀ j,OwB (.slice u1 X.length v1) j∨OwB (.slice u2 Y.length v2) j∨OwB (.slice u3 Z.length v3) j→j ≠ w.heap.size+1:=fun j hj => by have:=unhide HLO j hj; omega
   refine ⟨_,_,_,KK,0,X,Y,Z,rfl,slAt_ob (unhide HS1) hob (fun j hj => hne j (.inl hj)) ?_,slAt_ob (unhide HS2) hob (fun j hj => hne j (.inr (.inl hj))) ?_,slAt_ob (unhide HS3) hob (fun j hj => hne j (.inr (.inr hj))) ?_,unhide HCI,((unhide HB5).trans ((unhide HB6).mono (by omega))).trans (hob.bel (by omega))⟩
   all_goals
    intro a n c e g off e2
    cases e
    subst e2
    rfl
  ·obtain ⟨w5,hw5⟩ : ∃ w5,w5=w2.alloc (.cells #[.slice none 0 0,.int .i64 0,.slice none 0 0,.slice none 0 0] 29):=⟨_,rfl⟩
   have hV5:Below w2.heap.size w2 w5:=by rw [hw5]; exact below1 w2 _
   have hE5:=hE2.below hV5 (by omega)
   have hB5:Below w.heap.size w w5:=hBw2.trans (hV5.mono (by have:=hBw2.size; omega))
   have HCI:Hid (CmS l r xs 3 0 [] [] []):=Or.inr ⟨unhide HOK,_,_,_,_,_,unhide HANS,Or.inl ⟨_,_,_,_,_,by rw [fstA_iL]; exact hpt,hbig,rfl,rfl,rfl,rfl,rfl⟩⟩
   obtain ⟨x0,x1,x2,x3,z0,z1,z2,z3⟩ := hE5.facts
   have HW5:=hide hw5
   have HB5:=hide hB5
   have HE5:=hide hE5
   rw [hw5] at x0 x1 x2 x3 z0 z1 z2 z3
   clear hV5 hE5 hB5 hw5 hpt hbig hE2 hBw2 hb2 HSU k0 k1 k2
   go_wp2
   rw [← unhide HW5]
   refine bodyPost_ret (dfab_ret (row4_all (unhide HE5) _ _ _ _) rfl _ rfl rfl) rfl ?_
   exact cmsRet_none (unhide HCI) ((unhide HB5).trans ((row4_ob w5 (w.heap.size+1) (.slice none 0 0) (.int .i64 0) (.slice none 0 0) (.slice none 0 0)).bel (by omega)))
 ·obtain ⟨x0,x1,x2,x3,z0,z1,z2,z3⟩ := hE1.facts
  have HCI:Hid (CmS l r xs 4 0 [] [] []):=Or.inl ⟨hbad,rfl,rfl,rfl,rfl,rfl⟩
  clear hE1 hbad
  go_wp2
  refine bodyPost_ret (dfab_ret (row4_all (unhide HE1) _ _ _ _) rfl _ rfl rfl) rfl ?_
  exact cmsRet_none (unhide HCI) ((unhide HB1).trans ((row4_ob w1 (w.heap.size+1) (.slice none 0 0) (.int .i64 0) (.slice none 0 0) (.slice none 0 0)).bel (by omega)))
end Go.Proofs.YtlidckepahpaeaaGreatDoor
