import Derived.Test.YtidfkbghlkcbeaaGreatDoorPk7
import Derived.Test.YtidfkbghlkcbeaaGreatDoorW2
import Derived.Laws.Rows
namespace Go.Proofs.YtidfkbghlkcbeaaGreatDoor
open Go.RowKit Go.Proofs.Tryz
set_option maxHeartbeats 16000000
set_option maxRecDepth 100000
def bm(sz n:Nat)(f:Nat->Nat->Nat):List Value:=(List.range (n*sz)).map (fun k=>wd (f (k / sz)) (k%sz))
theorem lj(sz n:Nat)(f:Nat->Nat->Nat):(bm sz n f).length=n*sz:=by simp[bm]
theorem gL(sz n:Nat)(hs:0<sz)(f:Nat->Nat->Nat):bm sz (n+1) f=bm sz n f++(List.range sz).map (wd (f n)):=by
 unfold bm;rw[Nat.succ_mul,List.range_add,List.map_append,List.map_map]
 congr 1
 refine List.map_congr_left (fun j hj=>?_)
 have:=List.mem_range.1 hj;simp only[Function.comp];rw[Nat.add_comm,Nat.add_mul_div_right _ _ hs,Nat.add_mul_mod_self_right,Nat.div_eq_of_lt this,Nat.mod_eq_of_lt this,Nat.zero_add]
theorem iD{sz n:Nat}{f h:Nat->Nat->Nat}(hs:0<sz)(e:∀ i,i<n->f i=h i):bm sz n f=bm sz n h:=by
 unfold bm;refine List.map_congr_left (fun k hk=>?_)
 have:=List.mem_range.1 hk;rw[e _ ((Nat.div_lt_iff_lt_mul hs).2 this)]
theorem du(sz n:Nat)(f:Nat->Nat->Nat){k:Nat}(hk:k<n*sz):(bm sz n f)[k]?=some (wd (f (k / sz)) (k%sz)):=by simp[bm,hk]
structure kM (O:Nat->Prop) (A:Nat) (w:World) (sv fv:Value) (n m:Nat) (gs hs:Nat->Nat->Nat):Prop where
 box:∃ F,w.rowIs A 106 19 F/\F 0=sv/\F 1=fv
 oA:O A
 so:w.ownsRow 0 88 4 sv n (bm 4 n gs)
 fo:w.ownsRow 0 102 8 fv m (bm 8 m hs)
 sb:∀ q,sv.ownBlock=some q->O q/\q≠A
 fb:∀ q,fv.ownBlock=some q->O q/\q≠A
 sf:∀ q,sv.ownBlock=some q->fv.ownBlock≠some q
section
variable {O:Nat->Prop} {A:Nat} {w w':World} {sv fv:Value} {n m:Nat} {gs hs:Nat->Nat->Nat}
theorem kM.lt(h:kM O A w sv fv n m gs hs):A<w.heap.size:=by obtain⟨F,hF,-⟩:=h.box;exact hF.lt
theorem kM.keep(h:kM O A w sv fv n m gs hs)(e:∀ k,O k->k<w.heap.size->w'.heap[k]?=w.heap[k]?):kM O A w' sv fv n m gs hs:=by
 have hA:=h.lt;obtain⟨F,hF,h0,h1⟩:=h.box;exact⟨⟨F,hF.of_block (e A h.oA hA),h0,h1⟩,h.oA,ak h.so (fun q hq=>e q (h.sb q hq).1 (aB h.so q hq)),ak h.fo (fun q hq=>e q (h.fb q hq).1 (aB h.fo q hq)),h.sb,h.fb,h.sf⟩
theorem kM.mono(h:kM O A w sv fv n m gs hs){O':Nat->Prop}(e:∀ k,O k->O' k):kM O' A w sv fv n m gs hs:=
 ⟨h.box,e _ h.oA,h.so,h.fo,fun q hq=>⟨e _ (h.sb q hq).1,(h.sb q hq).2⟩,fun q hq=>⟨e _ (h.fb q hq).1,(h.fb q hq).2⟩,h.sf⟩
theorem kM.skip(h:kM O A w sv fv n m gs hs)(hb:Below w.heap.size w w'):kM (Sk O w.heap.size w'.heap.size) A w' sv fv n m gs hs:=by
 have h2:=h.keep (fun k _ hk=>hb.block k hk);exact⟨h2.box,⟨h.oA,Or.inl h.lt⟩,h2.so,h2.fo,fun q hq=>⟨⟨(h.sb q hq).1,Or.inl (aB h.so q hq)⟩,(h.sb q hq).2⟩,fun q hq=>⟨⟨(h.fb q hq).1,Or.inl (aB h.fo q hq)⟩,(h.fb q hq).2⟩,h.sf⟩
theorem kM.facts(h:kM O A w sv fv n m gs hs):w.cell? ⟨A,0,none⟩=some sv/\w.cell? ⟨A,1,none⟩=some fv/\w.frozen? ⟨A,0,none⟩=false/\w.frozen? ⟨A,1,none⟩=false:=by
 obtain⟨F,hF,h0,h1⟩:=h.box;exact⟨by rw[hF.cell (by omega),h0],by rw[hF.cell (by omega),h1],hF.frozen 0,hF.frozen 1⟩
theorem kM.pushS{W w7:World}{g cap H:Nat}{x:Nat->Nat}(h:kM O A w sv fv n m gs hs)(hW:Below w.heap.size w W)(hH:W.heap.size=H)(hO:∀ k,w.heap.size<=k->O k)
  (r1:w7.ownsRow 0 88 4 (.slice (some ⟨g,0,none⟩) (n+1) cap) (n+1) (bm 4 n gs++[wd x 0,wd x 1,wd x 2,wd x 3]))(r2:W.grownBy w7 sv.ownBlock)(r3:sv.ownBlock=some g∨g=H) :
  kM O A (w7.setCell ⟨A,0,none⟩ (.slice (some ⟨g,0,none⟩) (n+1) cap)) (.slice (some ⟨g,0,none⟩) (n+1) cap) fv (n+1) m (fun i=>if i=n then x else gs i) hs/\aT O w (w7.setCell ⟨A,0,none⟩ (.slice (some ⟨g,0,none⟩) (n+1) cap))/\aT O w w7/\w7.frozen? ⟨A,0,none⟩=false/\w7.cell? ⟨A,0,none⟩=some sv:=by
 have hz:=hW.size;have b:g≠A:=by
  rcases r3 with r3|r3
  ·exact(h.sb g r3).2
  have:=h.lt;omega
 have c:O g:=by
  rcases r3 with r3|r3
  ·exact(h.sb g r3).1
  exact hO g (by omega)
 have k7:∀ k,k<w.heap.size->sv.ownBlock≠some k->w7.heap[k]?=w.heap[k]? :=fun k hk hne=>(r2.block k (by omega) (fun e=>hne e.symm)).trans (hW.block k hk)
 have kA:w7.heap[A]?=w.heap[A]? :=k7 A h.lt (fun e=>(h.sb A e).2 rfl);have f:=r2.size;obtain⟨F,hF,h0,h1⟩:=h.box;have a:=hF.of_block kA;have fr7:aT O w w7:=⟨r2.os.trans hW.os,r2.tape.trans hW.tape,r2.output.trans hW.output,by omega,fun k hk=>by
  have d:k<w.heap.size:=by apply Nat.lt_of_not_le;intro e;exact hk (hO k e)
  exact k7 k d (fun e=>hk (h.sb k e).1)⟩
 refine⟨⟨⟨_,a.set 0 _,by simp,by simp[h1]⟩,h.oA,?_,?_,fun q hq=>?_,h.fb,fun q hq hf=>?_⟩,?_,fr7,a.frozen 0,by rw[a.cell (by omega),h0]⟩
 ·have e:bm 4 (n+1) (fun i=>if i=n then x else gs i)=bm 4 n gs++[wd x 0,wd x 1,wd x 2,wd x 3]:=by
   rw[gL _ _ (by omega),iD (h:=gs) (by omega) (fun i hi=>by rw[if_neg (by omega)])];simp[List.range_succ]
  rw[e];exact ak r1 (fun q hq=>by cases hq;exact Below.heap_setCell _ _ _ _ (by show g≠A;exact b))
 ·exact ak h.fo (fun q hq=>(Below.heap_setCell _ _ _ _ (by show q≠A;exact(h.fb q hq).2)).trans (k7 q (aB h.fo q hq) (fun e=>h.sf q e hq)))
 ·cases hq;exact⟨c,b⟩
 ·cases hq;rcases r3 with r3|r3
  ·exact h.sf g r3 hf
  have:=aB h.fo g hf;omega
 exact⟨fr7.os,fr7.tape,fr7.output,by rw[aM];exact fr7.size,fun k hk=>(Below.heap_setCell _ _ _ _ (by show k≠A;exact fun e=>hk (e ▸ h.oA))).trans (fr7.block k hk)⟩
theorem kM.pushF{W w7:World}{g cap H:Nat}{x:Nat->Nat}(h:kM O A w sv fv n m gs hs)(hW:Below w.heap.size w W)(hH:W.heap.size=H)(hO:∀ k,w.heap.size<=k->O k)(hx:hs m=x)
  (r1:w7.ownsRow 0 102 8 (.slice (some ⟨g,0,none⟩) (m+1) cap) (m+1) (bm 8 m hs++[wd x 0,wd x 1,wd x 2,wd x 3,wd x 4,wd x 5,wd x 6,wd x 7]))(r2:W.grownBy w7 fv.ownBlock)(r3:fv.ownBlock=some g∨g=H) :
  kM O A (w7.setCell ⟨A,1,none⟩ (.slice (some ⟨g,0,none⟩) (m+1) cap)) sv (.slice (some ⟨g,0,none⟩) (m+1) cap) n (m+1) gs hs/\aT O w (w7.setCell ⟨A,1,none⟩ (.slice (some ⟨g,0,none⟩) (m+1) cap))/\aT O w w7/\w7.frozen? ⟨A,1,none⟩=false/\w7.cell? ⟨A,1,none⟩=some fv:=by
 have hz:=hW.size;have b:g≠A:=by
  rcases r3 with r3|r3
  ·exact(h.fb g r3).2
  have:=h.lt;omega
 have c:O g:=by
  rcases r3 with r3|r3
  ·exact(h.fb g r3).1
  exact hO g (by omega)
 have k7:∀ k,k<w.heap.size->fv.ownBlock≠some k->w7.heap[k]?=w.heap[k]? :=fun k hk hne=>(r2.block k (by omega) (fun e=>hne e.symm)).trans (hW.block k hk)
 have kA:w7.heap[A]?=w.heap[A]? :=k7 A h.lt (fun e=>(h.fb A e).2 rfl);have f:=r2.size;obtain⟨F,hF,h0,h1⟩:=h.box;have a:=hF.of_block kA;have fr7:aT O w w7:=⟨r2.os.trans hW.os,r2.tape.trans hW.tape,r2.output.trans hW.output,by omega,fun k hk=>by
  have d:k<w.heap.size:=by apply Nat.lt_of_not_le;intro e;exact hk (hO k e)
  exact k7 k d (fun e=>hk (h.fb k e).1)⟩
 refine⟨⟨⟨_,a.set 1 _,by simp[h0],by simp⟩,h.oA,?_,?_,h.sb,fun q hq=>?_,fun q hq hf=>?_⟩,?_,fr7,a.frozen 1,by rw[a.cell (by omega),h1]⟩
 ·exact ak h.so (fun q hq=>(Below.heap_setCell _ _ _ _ (by show q≠A;exact(h.sb q hq).2)).trans (k7 q (aB h.so q hq) (fun e=>h.sf q hq e)))
 ·have e:bm 8 (m+1) hs=bm 8 m hs++[wd x 0,wd x 1,wd x 2,wd x 3,wd x 4,wd x 5,wd x 6,wd x 7]:=by
   rw[gL _ _ (by omega),hx];simp[List.range_succ]
  rw[e];exact ak r1 (fun q hq=>by cases hq;exact Below.heap_setCell _ _ _ _ (by show g≠A;exact b))
 ·cases hq;exact⟨c,b⟩
 ·cases hf;rcases r3 with r3|r3
  ·exact h.sf g hq r3
  have:=aB h.so g hq;omega
 exact⟨fr7.os,fr7.tape,fr7.output,by rw[aM];exact fr7.size,fun k hk=>(Below.heap_setCell _ _ _ _ (by show k≠A;exact fun e=>hk (e ▸ h.oA))).trans (fr7.block k hk)⟩
theorem kM.folRow(h:kM O A w sv fv n m gs hs){i:Nat}(hi:i<m):∃ g cap M F,fv=.slice (some ⟨g,0,none⟩) m cap/\O g/\g<w.heap.size/\w.rowIs g 102 M F/\i*8+8<=M/\(∀ j,j<8->F (i*8+j)=wd (hs i) j)/\
  ∀ (w':World) (x:Nat->Nat),w'.rowIs g 102 M (fun k=>if i*8<=k/\k<i*8+8 then wd x (k-i*8) else F k)->ce g w w'->kM O A w' sv fv n m gs (fun j=>if j=i then x else hs j):=by
 obtain⟨g,cap,M,F,rfl,hlt,hr,hM,hF,a⟩:=fm h.fo (by omega);refine⟨g,cap,M,F,rfl,(h.fb g rfl).1,hlt,hr,by omega,fun j hj=>?_,fun w' x hr' hob=>?_⟩
 ·have h1:=hF (i*8+j) (by omega);rw[du _ _ _ (by omega),show(i*8+j) / 8=i by omega,show(i*8+j)%8=j by omega]at h1;exact(Option.some.inj h1).symm
 obtain⟨F0,b,h0,h1⟩:=h.box;refine⟨⟨F0,b.of_block (hob.block A (fun e=>(h.fb g rfl).2 e.symm)),h0,h1⟩,h.oA,ak h.so (fun q hq=>hob.block q (fun e=>h.sf q hq (by rw[e];rfl))),?_,h.sb,h.fb,h.sf⟩;refine a w' _ _ hr' (lj _ _ _) (fun k hk=>?_)
 rw[du _ _ _ hk]
 by_cases e:i*8<=k/\k<i*8+8
 ·rw[if_pos e,if_pos (by omega),show k%8=k-i*8 by omega]
 rw[if_neg e,if_neg (by omega)];have h2:=hF k hk;rw[du _ _ _ hk]at h2;exact h2
end
def bH(f:Nat->Nat)(xs:List Nat):Prop:=Fit f/\∀ b,Bt f b=xs.contains b
def cI(O:Nat->Prop)(A:Nat)(w:World)(N:Nat)(S:List (List Int))(K:List Lk):Prop:=
 ∃ sv fv gs hs,kM O A w sv fv N N gs hs/\S.length=N/\(∀ i,i<N->cZ (S[i]?.getD [])/\dx (S[i]?.getD []) (gs i))/\(∀ i,Fit (hs i))/\(∀ i j,Bt (hs i) j=cm K i j)/\∀ i,N<=i->hs i=fun _=>0
def ve(O:Nat->Prop)(w:World):Prop:=TZ w/\Tryz.laysTZ_ren.g 1<w.heap.size/\¬ O (Tryz.laysTZ_ren.g 1)
section
variable {O O':Nat->Prop} {A N:Nat} {w w':World} {S:List (List Int)} {K K':List Lk}
theorem cI.mono(h:cI O A w N S K)(e:∀ k,O k->O' k):cI O' A w N S K:=by
 obtain⟨sv,fv,gs,hs,h1,h2⟩:=h;exact⟨sv,fv,gs,hs,h1.mono e,h2⟩
theorem cI.keep(h:cI O A w N S K)(e:∀ k,O k->k<w.heap.size->w'.heap[k]?=w.heap[k]?):cI O A w' N S K:=by
 obtain⟨sv,fv,gs,hs,h1,h2⟩:=h;exact⟨sv,fv,gs,hs,h1.keep e,h2⟩
theorem cI.skip(h:cI O A w N S K)(hb:Below w.heap.size w w'):cI (Sk O w.heap.size w'.heap.size) A w' N S K:=by
 obtain⟨sv,fv,gs,hs,h1,h2⟩:=h;exact⟨sv,fv,gs,hs,h1.skip hb,h2⟩
theorem cI.same(h:cI O A w N S K)(e:∀ i j,cm K i j=cm K' i j):cI O A w N S K':=by
 obtain⟨sv,fv,gs,hs,h1,h2,h3,h4,h5,h6⟩:=h;exact⟨sv,fv,gs,hs,h1,h2,h3,h4,fun i j=>(h5 i j).trans (e i j),h6⟩
theorem ve.fr(h:ve O w)(hf:aT O w w'):ve O w':=⟨h.1.same (hf.block _ h.2.2),Nat.lt_of_lt_of_le h.2.1 hf.size,h.2.2⟩
theorem ve.less(h:ve O w)(e:∀ k,O' k->O k):ve O' w:=⟨h.1,h.2.1,fun q=>h.2.2 (e _ q)⟩
theorem ve.below(h:ve O w)(hb:Below w.heap.size w w'):ve O w':=⟨h.1.below hb h.2.1,Nat.lt_of_lt_of_le h.2.1 hb.size,h.2.2⟩
end
theorem AB{f:Nat->Nat}{xs:List Nat}(h:bH f xs)(hx:∀ x∈xs,x<512)(i:Nat):(ia f 512).contains i=xs.contains i:=by
 rw[Bool.eq_iff_iff,List.contains_iff_mem,List.contains_iff_mem];unfold ia;rw[List.mem_filter,List.mem_range,h.2 i,List.contains_iff_mem];exact⟨fun q=>q.2,fun q=>⟨hx i q,q⟩⟩
theorem kP(w:World)(t:TypeId)(g:Nat->Nat):(w.alloc (.cells #[.int .u64 (g 0:Nat),.int .u64 (g 1:Nat),.int .u64 (g 2:Nat),.int .u64 (g 3:Nat),.int .u64 (g 4:Nat),.int .u64 (g 5:Nat),.int .u64 (g 6:Nat),.int .u64 (g 7:Nat)] t)).rowIs w.heap.size t 8 (wd g):=by
 refine World.rowIs_alloc w #[.int .u64 (g 0:Nat),.int .u64 (g 1:Nat),.int .u64 (g 2:Nat),.int .u64 (g 3:Nat),.int .u64 (g 4:Nat),.int .u64 (g 5:Nat),.int .u64 (g 6:Nat),.int .u64 (g 7:Nat)] t (wd g) ?_;intro i hi
 match i,hi with
 | 0,_=>rfl
 | 1,_=>rfl
 | 2,_=>rfl
 | 3,_=>rfl
 | 4,_=>rfl
 | 5,_=>rfl
 | 6,_=>rfl
 | 7,_=>rfl
abbrev o8 (g:Nat->Nat):Obj:=.cells #[.int .u64 (g 0:Nat),.int .u64 (g 1:Nat),.int .u64 (g 2:Nat),.int .u64 (g 3:Nat),.int .u64 (g 4:Nat),.int .u64 (g 5:Nat),.int .u64 (g 6:Nat),.int .u64 (g 7:Nat)] 102
theorem qK(O:Nat->Prop)(A N:Nat)(S:List (List Int))(K:List Lk)(f g:Nat->Nat)(xs ys:List Nat)(w:World)(h:cI O A w N S K)(hO:∀ k,w.heap.size<=k->O k)(htz:ve O w)(hf:bH f xs)(hg:bH g ys)(hx:∀ x∈xs,x<N)(hN:N<=512) :
  Calls prog 86 #[.pointer (some ⟨A,0,none⟩),gG f,gG g] w fun e w'=>e=.returned (.tuple #[])/\cI O A w' N S (K++[(xs,ys)])/\aT O w w':=by
 have HC:=ae (AB hf (fun x h=>Nat.lt_of_lt_of_le (hx x h) hN));have Y:=uO f 512;have HF:=ae hf;have HG:=ae hg;have HX:=ae hx;have H:((w.alloc (o8 f)).alloc (o8 g)).rowIs (w.heap.size+1) 102 8 (wd g):=by
  have:=kP (w.alloc (o8 f)) 102 g
  rwa [ah]at this
 have r:Below w.heap.size w ((w.alloc (o8 f)).alloc (o8 g)):=aI w _ _;have hL:=yC f hf.1 ((w.alloc (o8 f)).alloc (o8 g)) (htz.below r).1 (htz.below r).2.1;have HL:=ae hL;have a6:((w.alloc (o8 f)).alloc (o8 g)).heap.size=w.heap.size+2:=by rw[ah,ah]
 have HH:=ae h;have HO:=ae hO;have HR:=ae H;unfold gG;clear hf hg hx h hO H hL htz
 go_enter func86,ntmps86
 go_wp2_with fail;refine HL.u.mono ?_;rintro e w2 ⟨lv,rfl,ho,s⟩;obtain⟨X,hX⟩ : ∃ X,X=ia f 512:=⟨_,rfl⟩;rw[<-hX]at ho HC Y;have I:Below w.heap.size w w2:=r.trans (s.mono (by omega));have Z:=ae (HR.u.of_block (s.block _ (by omega)));obtain⟨la,lc,rfl,J⟩:=jU ho rfl (by omega);have a0:=ae J;have L:=ae (HH.u.skip I);have a7:=s.size;clear ho J s HL HR hX HH r
 go_wp2_with fail
 go_loopw [11] (fun iv wr=>∃ x:Nat,x<=X.length/\iv=.int .i64 x/\cI (Sk O w.heap.size w2.heap.size) A wr N S (K++[(X.take x,ys)])/\aT (Sk O w.heap.size w2.heap.size) w2 wr) (fun iv _=>X.length-(intOf iv).toNat)
 case atStart=>exact⟨0,Nat.zero_le _,rfl,L.u.same (fun i j=>by rw[List.take_zero,mC]),aT.refl _ _⟩
 clear L;obtain⟨x,hx,rfl,hA,c⟩:=hrel
 by_cases hlt:x<X.length
 ·have a4:(x:Int)<(X.length:Int):=by omega
  obtain⟨q,o,rfl,a8,a1,d⟩:=a0.u (by omega);have z:∀ k,w.heap.size<=k->k<w2.heap.size->wr.heap[k]?=w2.heap[k]? :=fun k h1 h2=>c.block k (fun e=>by rcases e.2 with e|e<;>omega)
  have c0:=d wr (z q (by omega) a1) x hlt;have hi:X[x]<N:=HX.u _ (by
   have h1:X.contains X[x]=true:=List.contains_iff_mem.2 (List.getElem_mem hlt);rw[HC.u]at h1;exact List.contains_iff_mem.1 h1)
  obtain⟨i,B⟩ : ∃ i,i=X[x]:=⟨_,rfl⟩;rw[<-B]at c0 hi;have a2:=ae B;obtain⟨sv,fv,gs,hs,hM,hn,t,l,P,m⟩:=hA;obtain⟨g2,cap,M,F,rfl,Q,a5,v,a3,R,n⟩:=hM.folRow hi;obtain⟨-,c1,-,-⟩:=hM.facts;have a9:(i:Int)<(N:Int):=by omega
  have hne:g2≠w.heap.size+1:=fun e=>by rcases Q.2 with q|q<;>omega
  have hJ:=ie g2 (i*8) M (w.heap.size+1) 0 8 _ _ F (wd g) (hs i) g wr (l i) HG.u.1 hne v R a3 (Z.u.of_block (z _ (by omega) (by omega))) (fun j hj=>by rw[Nat.zero_add]) (by omega);have HJ:=ae hJ;have y:=ae t;have p:=ae l;have C:=ae P;have HZ:=ae m;have T:=ae n;have U:=ae c;clear hJ hM t l P m v R n c d B z
  go_wp2_with fail;refine HJ.u.mono ?_;rintro e w3 ⟨rfl,V,D⟩;have W:=T.u w3 _ V D;have E:Hi (cI (Sk O w.heap.size w2.heap.size) A w3 N S (K++[(X.take (x+1),ys)])):=by
   refine⟨_,_,gs,_,W,hn,y.u,fun a=>?_,fun a b=>?_,fun a ha=>?_⟩
   ·(try dsimp only)
    split
    ·exact qq (p.u i) HG.u.1
    exact p.u a
   ·have e1:cm (K++[(X.take (x+1),ys)]) a b=(cm (K++[(X.take x,ys)]) a b||(decide (a=i)&&ys.contains b)):=by
     rw[cH,cH,dn,dn,Bool.or_assoc]
     congr 1
     rw[List.take_add_one,List.getElem?_eq_getElem hlt,a2.u];simp only[Option.toList_some,List.contains_append];rw[Bool.and_or_distrib_right]
     congr 1
     simp
    rw[e1]
    (try dsimp only)
    by_cases ea:a=i
    ·subst ea;rw[if_pos rfl,vv,C.u,HG.u.2];simp
    rw[if_neg ea,C.u];simp[ea]
   (try dsimp only)
   rw[if_neg (by omega)];exact HZ.u a ha
  have G:=ae (U.u.trans (D.fro Q));clear V D W HJ T U C p y HZ;go_wp2
  go_roundw
  case rel=>exact⟨x+1,by omega,by go_num,E.u,G.u⟩
  simp[intOf];omega
 have ex:x=X.length:=by omega
 subst ex;rw[List.take_length]at hA;have E:Hi (cI O A wr N S (K++[(xs,ys)])):=(hA.mono Sk.sub).same (fun i j=>by rw[cH,cH,dn,dn,HC.u]);have G:Hi (aT O w wr):=(bC I HO.u).trans (c.mono Sk.sub);clear hA c;go_wp2
 first|(refine bodyPost_ret (results_none rfl _ _ _) rfl ?_)|(refine bodyPost_end (results_none rfl _ _ _) rfl ?_)
 exact⟨rfl,E.u,G.u⟩
theorem Tryz.zinBS:(prog.info? 88).map (fun i=>(i.zero,i.size,i.bytes))=some (some (.agg #[.int .u64 0,.int .u64 0,.int .u64 0,.int .u64 0]),4,32):=by kernel_rfl
theorem Tryz.zinPS:(prog.info? 102).map (fun i=>(i.zero,i.size,i.bytes))=some (some (.agg #[.int .u64 0,.int .u64 0,.int .u64 0,.int .u64 0,.int .u64 0,.int .u64 0,.int .u64 0,.int .u64 0]),8,64):=by kernel_rfl
def fq(b:Bool)(f l:Nat->Nat):Value:=.agg #[.bool b,.int .u64 (f 0:Nat),.int .u64 (f 1:Nat),.int .u64 (f 2:Nat),.int .u64 (f 3:Nat),.int .u64 (f 4:Nat),.int .u64 (f 5:Nat),.int .u64 (f 6:Nat),.int .u64 (f 7:Nat),.int .u64 (l 0:Nat),.int .u64 (l 1:Nat),.int .u64 (l 2:Nat),.int .u64 (l 3:Nat),.int .u64 (l 4:Nat),.int .u64 (l 5:Nat),.int .u64 (l 6:Nat),.int .u64 (l 7:Nat)]
abbrev oE (b:Bool) (f l:Nat->Nat):Obj:=.cells #[.bool b,.int .u64 (f 0:Nat),.int .u64 (f 1:Nat),.int .u64 (f 2:Nat),.int .u64 (f 3:Nat),.int .u64 (f 4:Nat),.int .u64 (f 5:Nat),.int .u64 (f 6:Nat),.int .u64 (f 7:Nat),.int .u64 (l 0:Nat),.int .u64 (l 1:Nat),.int .u64 (l 2:Nat),.int .u64 (l 3:Nat),.int .u64 (l 4:Nat),.int .u64 (l 5:Nat),.int .u64 (l 6:Nat),.int .u64 (l 7:Nat)] 104
abbrev xt:Obj:=.cells #[.bool false,.int .u64 0,.int .u64 0,.int .u64 0,.int .u64 0,.int .u64 0,.int .u64 0,.int .u64 0,.int .u64 0,.int .u64 0,.int .u64 0,.int .u64 0,.int .u64 0,.int .u64 0,.int .u64 0,.int .u64 0,.int .u64 0] 104
abbrev FH:Obj:=.cells #[.int .u64 0,.int .u64 0,.int .u64 0,.int .u64 0,.int .u64 0,.int .u64 0,.int .u64 0,.int .u64 0] 102
abbrev o4 (g:Nat->Nat):Obj:=.cells #[.int .u64 (g 0:Nat),.int .u64 (g 1:Nat),.int .u64 (g 2:Nat),.int .u64 (g 3:Nat)] 88
def bQ(b:Bool)(f l:Nat->Nat):Nat->Value:=fun k=>if k=0 then .bool b else if k<9 then wd f (k-1) else wd l (k-9)
def au(w:World)(B:Nat)(b:Bool)(f l:Nat->Nat):Prop:=w.rowIs B 104 17 (bQ b f l)
def z8:Nat->Nat:=fun _=>0
theorem qy:Fit z8:=fun _=>by show 0<18446744073709551616;omega
theorem dk(w:World)(b:Bool)(f l:Nat->Nat):au (w.alloc (oE b f l)) w.heap.size b f l:=by
 refine World.rowIs_alloc w #[.bool b,.int .u64 (f 0:Nat),.int .u64 (f 1:Nat),.int .u64 (f 2:Nat),.int .u64 (f 3:Nat),.int .u64 (f 4:Nat),.int .u64 (f 5:Nat),.int .u64 (f 6:Nat),.int .u64 (f 7:Nat),.int .u64 (l 0:Nat),.int .u64 (l 1:Nat),.int .u64 (l 2:Nat),.int .u64 (l 3:Nat),.int .u64 (l 4:Nat),.int .u64 (l 5:Nat),.int .u64 (l 6:Nat),.int .u64 (l 7:Nat)] 104 (bQ b f l) ?_;intro i hi
 match i,hi with
 | 0,_=>rfl
 | 1,_=>rfl
 | 2,_=>rfl
 | 3,_=>rfl
 | 4,_=>rfl
 | 5,_=>rfl
 | 6,_=>rfl
 | 7,_=>rfl
 | 8,_=>rfl
 | 9,_=>rfl
 | 10,_=>rfl
 | 11,_=>rfl
 | 12,_=>rfl
 | 13,_=>rfl
 | 14,_=>rfl
 | 15,_=>rfl
 | 16,_=>rfl
 | n+17,h=>exact absurd h (by show ¬ (n+17<17);omega)
theorem fD(w:World):au (w.alloc xt) w.heap.size false z8 z8:=dk w false z8 z8
theorem tP(w:World):(w.alloc FH).rowIs w.heap.size 102 8 (wd z8):=kP w 102 z8
theorem au.on{w w':World}{B:Nat}{b:Bool}{f l:Nat->Nat}(h:au w B b f l)(e:w'.heap[B]?=w.heap[B]?):au w' B b f l:=World.rowIs.of_block h e
theorem au.cell{w:World}{B:Nat}{b:Bool}{f l:Nat->Nat}(h:au w B b f l)(k:Nat)(hk:k<17):w.cell? ⟨B,k,none⟩=some (bQ b f l k):=World.rowIs.cell h hk
abbrev Gi (w:World) (B:Nat) (b:Bool) (f l:Nat->Nat):World:=(((((((((((((((((w).setCell ⟨B,0,none⟩ (.bool b)).setCell ⟨B,1,none⟩ (.int .u64 (f 0:Nat))).setCell ⟨B,2,none⟩ (.int .u64 (f 1:Nat))).setCell ⟨B,3,none⟩ (.int .u64 (f 2:Nat))).setCell ⟨B,4,none⟩ (.int .u64 (f 3:Nat))).setCell ⟨B,5,none⟩ (.int .u64 (f 4:Nat))).setCell ⟨B,6,none⟩ (.int .u64 (f 5:Nat))).setCell ⟨B,7,none⟩ (.int .u64 (f 6:Nat))).setCell ⟨B,8,none⟩ (.int .u64 (f 7:Nat))).setCell ⟨B,9,none⟩ (.int .u64 (l 0:Nat))).setCell ⟨B,10,none⟩ (.int .u64 (l 1:Nat))).setCell ⟨B,11,none⟩ (.int .u64 (l 2:Nat))).setCell ⟨B,12,none⟩ (.int .u64 (l 3:Nat))).setCell ⟨B,13,none⟩ (.int .u64 (l 4:Nat))).setCell ⟨B,14,none⟩ (.int .u64 (l 5:Nat))).setCell ⟨B,15,none⟩ (.int .u64 (l 6:Nat))).setCell ⟨B,16,none⟩ (.int .u64 (l 7:Nat))
theorem BT{w:World}{B:Nat}{F:Nat->Value}(h:w.rowIs B 104 17 F)(b:Bool)(f l:Nat->Nat):au (Gi w B b f l) B b f l:=by
 have h2:=(((((((((((((((((h).set 0 (.bool b)).set 1 (.int .u64 (f 0:Nat))).set 2 (.int .u64 (f 1:Nat))).set 3 (.int .u64 (f 2:Nat))).set 4 (.int .u64 (f 3:Nat))).set 5 (.int .u64 (f 4:Nat))).set 6 (.int .u64 (f 5:Nat))).set 7 (.int .u64 (f 6:Nat))).set 8 (.int .u64 (f 7:Nat))).set 9 (.int .u64 (l 0:Nat))).set 10 (.int .u64 (l 1:Nat))).set 11 (.int .u64 (l 2:Nat))).set 12 (.int .u64 (l 3:Nat))).set 13 (.int .u64 (l 4:Nat))).set 14 (.int .u64 (l 5:Nat))).set 15 (.int .u64 (l 6:Nat))).set 16 (.int .u64 (l 7:Nat));refine h2.congr (fun k hk=>?_)
 match k,hk with
 | 0,_=>simp[bQ]
 | 1,_=>simp[bQ,wd]
 | 2,_=>simp[bQ,wd]
 | 3,_=>simp[bQ,wd]
 | 4,_=>simp[bQ,wd]
 | 5,_=>simp[bQ,wd]
 | 6,_=>simp[bQ,wd]
 | 7,_=>simp[bQ,wd]
 | 8,_=>simp[bQ,wd]
 | 9,_=>simp[bQ,wd]
 | 10,_=>simp[bQ,wd]
 | 11,_=>simp[bQ,wd]
 | 12,_=>simp[bQ,wd]
 | 13,_=>simp[bQ,wd]
 | 14,_=>simp[bQ,wd]
 | 15,_=>simp[bQ,wd]
 | 16,_=>simp[bQ,wd]
 | n+17,h=>exact absurd h (by omega)
theorem CY(w:World)(B:Nat)(b:Bool)(f l:Nat->Nat):ce B w (Gi w B b f l):=(((((((((((((((((ce.refl _ _).trans (am _ _)).trans (am _ _)).trans (am _ _)).trans (am _ _)).trans (am _ _)).trans (am _ _)).trans (am _ _)).trans (am _ _)).trans (am _ _)).trans (am _ _)).trans (am _ _)).trans (am _ _)).trans (am _ _)).trans (am _ _)).trans (am _ _)).trans (am _ _)).trans (am _ _)
theorem au.blk{w:World}{B:Nat}{b:Bool}{f l:Nat->Nat}(h:au w B b f l):w.heap[B]?=some (.cells #[.bool b,.int .u64 (f 0:Nat),.int .u64 (f 1:Nat),.int .u64 (f 2:Nat),.int .u64 (f 3:Nat),.int .u64 (f 4:Nat),.int .u64 (f 5:Nat),.int .u64 (f 6:Nat),.int .u64 (f 7:Nat),.int .u64 (l 0:Nat),.int .u64 (l 1:Nat),.int .u64 (l 2:Nat),.int .u64 (l 3:Nat),.int .u64 (l 4:Nat),.int .u64 (l 5:Nat),.int .u64 (l 6:Nat),.int .u64 (l 7:Nat)] 104):=by
 obtain⟨cur,h1,h2,h3⟩:=h;rw[h1]
 congr 2
 refine Array.ext (by rw[h2];rfl) (fun i hi hj=>?_)
 have h4:=h3 i (by omega);rw[Array.getElem?_eq_getElem hi]at h4;rw[Option.some.inj h4];have a:i<17:=by omega
 match i,a with
 | 0,_=>rfl
 | 1,_=>rfl
 | 2,_=>rfl
 | 3,_=>rfl
 | 4,_=>rfl
 | 5,_=>rfl
 | 6,_=>rfl
 | 7,_=>rfl
 | 8,_=>rfl
 | 9,_=>rfl
 | 10,_=>rfl
 | 11,_=>rfl
 | 12,_=>rfl
 | 13,_=>rfl
 | 14,_=>rfl
 | 15,_=>rfl
 | 16,_=>rfl
 | n+17,h=>exact absurd h (by omega)
theorem cn{w:World}{B:Nat}{b:Bool}{f l:Nat->Nat}(h:au w B b f l){fn:Func}{p:Tmp}(hr:fn.results=#[.cell p 104])(tmps:Array Value)(hp:tmps.getD p undef=.pointer (some ⟨B,0,none⟩)):(results fn tmps).run prog w=.ok (fq b f l) w:=
 results_cell_row hr tmps w B _ _ _ _ hp h.blk underlying104 rfl (by kernel_rfl)
theorem vX(N:Nat):bH (io z8 N) [N]:=by
 refine⟨pD qy N,fun b=>?_⟩;have h:=pP z8 N b;unfold io;rw[h];simp[Bt,z8]
end Go.Proofs.YtidfkbghlkcbeaaGreatDoor
