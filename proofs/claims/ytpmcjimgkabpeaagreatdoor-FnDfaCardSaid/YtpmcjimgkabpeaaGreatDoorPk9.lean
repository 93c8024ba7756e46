import Derived.Test.YtpmcjimgkabpeaaGreatDoorPk7
import Derived.Test.YtpmcjimgkabpeaaGreatDoorPk8
import Derived.Laws.Rows
import Derived.Laws.Tables
namespace Go.Proofs.YtpmcjimgkabpeaaGreatDoor
open Go.RowKit Go.Proofs.Tryz
set_option maxHeartbeats 16000000
set_option maxRecDepth 100000
def nm(xs:List Int):Nat->Nat->Bool
 | 0,_=>false
 | m+1,b=>nm xs m b||decide (xs[2*m]?.getD 0<=(b:Int)/\(b:Int)<=xs[2*m+1]?.getD 0)
def du(xs:List Int)(g:Nat->Nat):Prop:=Fit g/\∀ b:Nat,Bt g b=nm xs (xs.length / 2) b
theorem vq{w1:World}{N:Nat}{t:TypeId}{g:Nat->Nat}(h:w1.rowIs N t 4 (fun j=>.int .u64 (g j:Nat)))(q:Nat->Nat) :
  ((((w1.setCell ⟨N,0,none⟩ (.int .u64 (q 0:Nat))).setCell ⟨N,1,none⟩ (.int .u64 (q 1:Nat))).setCell ⟨N,2,none⟩ (.int .u64 (q 2:Nat))).setCell ⟨N,3,none⟩ (.int .u64 (q 3:Nat))).rowIs N t 4 (fun j=>.int .u64 (q j:Nat)):=by
 refine((((h.set 0 _).set 1 _).set 2 _).set 3 _).congr ?_;intro j hj
 match j,hj with
 | 0,_=>rfl
 | 1,_=>rfl
 | 2,_=>rfl
 | 3,_=>rfl
theorem uo(v:Value)(xs:List Int)(w:World)(hv:aT 0 w.heap.size w v xs)(hcn:cU xs) :
  Calls prog 115 #[v] w fun e w'=>∃ g:Nat->Nat,e=.returned (fZ g)/\du xs g/\Below w.heap.size w w':=by
 obtain⟨a,cap,rfl,hl,hr,hc⟩:=hv;unfold maxLen at hl;have r:=ae hcn;clear hcn hr
 go_enter func115,ntmps115
 go_wp2
 go_loopw [4] (fun i wr=>∃ p:Nat,p<=xs.length/\p%2=0/\i=.int .i64 p/\(∃ g:Nat->Value,wr.rowIs w.heap.size 88 4 g)/\(∃ g:Nat->Nat,wr.rowIs (w.heap.size+1) 88 4 (fun j=>.int .u64 (g j:Nat))/\Fit g/\∀ b:Nat,Bt g b=nm xs (p / 2) b)/\Below w.heap.size w wr) (fun i _=>xs.length-(intOf i).toNat)
 case atStart =>
  refine⟨0,Nat.zero_le _,rfl,rfl,⟨_,(iB w 88).alloc _⟩,⟨fun _=>0,?_,fun j=>by show 0<18446744073709551616;omega,fun b=>?_⟩,aH w _ _⟩
  ·have h:=iB (w.alloc (.cells #[.int .u64 0,.int .u64 0,.int .u64 0,.int .u64 0] 88)) 88;rw[ah]at h;exact h
  simp[Bt,nm]
 obtain⟨p,hm,M,rfl,⟨g2,f⟩,⟨g,d,l,s⟩,hb⟩:=hrel;have N:=r.u.1
 by_cases hlt2:p<xs.length
 ·obtain⟨b,off,rfl,-,B,k⟩:=hc (by omega);have hx:wr.cell? ⟨b,off+p,none⟩=some (.int .i64 (xs[p]?.getD 0)):=by rw[hb.cell (p:=⟨b,off+p,none⟩) B];exact k _ hlt2
  have hy:wr.cell? ⟨b,off+(p+1),none⟩=some (.int .i64 (xs[p+1]?.getD 0)):=by rw[hb.cell (p:=⟨b,off+(p+1),none⟩) B];exact k _ (by omega)
  have E:(p:Int)<(xs.length:Int):=by omega
  have F:(p:Int)+1<(xs.length:Int):=by omega
  have bx:=(r.u.2.1 (p) hlt2).1;have byy:=(r.u.2.1 (p+1) (by omega)).2;have bxy:xs[p]?.getD 0<=xs[p+1]?.getD 0:=by
   have:=(r.u.2.2 (p / 2) (by omega)).1
   rwa [show 2*(p / 2)=p by omega]at this
  have t:Hi (∀ c:Nat,nm xs ((p+2) / 2) c=(nm xs (p / 2) c||decide (xs[p]?.getD 0<=(c:Int)/\(c:Int)<=xs[p+1]?.getD 0))):=fun c=>by
   rw[show(p+2) / 2=p / 2+1 by omega];simp only[nm];rw[show 2*(p / 2)=p by omega]
  have z:=ae s;have o:=ae l;generalize xs[p]?.getD 0=x at *;generalize xs[p+1]?.getD 0=y at *;have c0:=d.cell (i:=0) (by omega);have c1:=d.cell (i:=1) (by omega);have c2:=d.cell (i:=2) (by omega);have c3:=d.cell (i:=3) (by omega);have hN:=d.lt;have f0:=d.frozen 0;have f1:=d.frozen 1;have f2:=d.frozen 2;have f3:=d.frozen 3;have A:=ae d;have m:=ae f;clear d f k s l hc;go_wp2;have O:IntKind.i64.wrap ((p:Int)+1)=(p:Int)+1:=by rw[IntKind.wrap_i64];omega
  have P:wrap64 ((p:Int)+1)=(p:Int)+1:=by unfold wrap64;omega
  go_region_with (go_at_call 126;refine(CT g x y _ o.u bx byy bxy).mono ?_;rintro e w1 ⟨g',rfl,C,D,n⟩;unfold fZ;have q:Below wr.heap.size wr w1:=⟨n.os,n.tape,n.output,n.size,n.block⟩;have G:=ae C;have H:=ae D;clear n C D;have I:=(cq q).1;have J:=(cq q).2)
  all_goals
   clear I J c0 c1 c2 c3 f0 f1 f2 f3 hx hy;go_wp2;have K:=A.u.of_block (q.block _ hN);have L:=m.u.of_block (q.block _ m.u.lt);refine⟨⟨p+2,by omega,by omega,by go_num,⟨g2,?_⟩,⟨g',vq K g',G.u,fun c=>?_⟩,?_⟩,by simp[intOf];omega⟩
   ·exact(((L.setOther (by show w.heap.size≠w.heap.size+1;omega) _).setOther (by show w.heap.size≠w.heap.size+1;omega) _).setOther (by show w.heap.size≠w.heap.size+1;omega) _).setOther (by show w.heap.size≠w.heap.size+1;omega) _
   ·rw[H.u c,t.u c,z.u c]
   exact aI (aI (aI (aI (hb.trans (q.mono hb.size)) (by omega) _) (by omega) _) (by omega) _) (by omega) _
 have c0:=d.cell (i:=0) (by omega);have c1:=d.cell (i:=1) (by omega);have c2:=d.cell (i:=2) (by omega);have c3:=d.cell (i:=3) (by omega);have d0:=f.cell (i:=0) (by omega);have d1:=f.cell (i:=1) (by omega);have d2:=f.cell (i:=2) (by omega);have d3:=f.cell (i:=3) (by omega);have f0:=f.frozen 0;have f1:=f.frozen 1;have f2:=f.frozen 2;have f3:=f.frozen 3;obtain rfl:p=xs.length:=by omega
 have z:=ae s;have o:=ae l;clear d f s l hc;go_wp2;refine bodyPost_ret (v:=.agg #[.int .u64 (g 0:Nat),.int .u64 (g 1:Nat),.int .u64 (g 2:Nat),.int .u64 (g 3:Nat)]) (by simp[results,results115,go_sem,d0,d1,d2,d3]) rfl ⟨g,rfl,⟨o.u,z.u⟩,?_⟩;exact aI (aI (aI (aI hb (by omega) _) (by omega) _) (by omega) _) (by omega) _
def be(sz n:Nat)(f:Nat->Nat->Nat):List Value:=(List.range (n*sz)).map (fun k=>wd (f (k / sz)) (k%sz))
theorem kK(sz n:Nat)(f:Nat->Nat->Nat):(be sz n f).length=n*sz:=by simp[be]
theorem gK(sz n:Nat)(hs:0<sz)(f:Nat->Nat->Nat):be sz (n+1) f=be sz n f++(List.range sz).map (wd (f n)):=by
 unfold be;rw[Nat.succ_mul,List.range_add,List.map_append,List.map_map]
 congr 1
 refine List.map_congr_left (fun j hj=>?_)
 have:=List.mem_range.1 hj;simp only[Function.comp];rw[Nat.add_comm,Nat.add_mul_div_right _ _ hs,Nat.add_mul_mod_self_right,Nat.div_eq_of_lt this,Nat.mod_eq_of_lt this,Nat.zero_add]
theorem ix{sz n:Nat}{f h:Nat->Nat->Nat}(hs:0<sz)(e:∀ i,i<n->f i=h i):be sz n f=be sz n h:=by
 unfold be;refine List.map_congr_left (fun k hk=>?_)
 have:=List.mem_range.1 hk;rw[e _ ((Nat.div_lt_iff_lt_mul hs).2 this)]
theorem dr(sz n:Nat)(f:Nat->Nat->Nat){k:Nat}(hk:k<n*sz):(be sz n f)[k]?=some (wd (f (k / sz)) (k%sz)):=by simp[be,hk]
structure kq (O:Nat->Prop) (A:Nat) (w:World) (sv fv:Value) (n m:Nat) (gs hs:Nat->Nat->Nat):Prop where
 box:∃ F,w.rowIs A 106 19 F/\F 0=sv/\F 1=fv
 oA:O A
 so:w.ownsRow 0 88 4 sv n (be 4 n gs)
 fo:w.ownsRow 0 102 8 fv m (be 8 m hs)
 sb:∀ q,sv.ownBlock=some q->O q/\q≠A
 fb:∀ q,fv.ownBlock=some q->O q/\q≠A
 sf:∀ q,sv.ownBlock=some q->fv.ownBlock≠some q
section
variable {O:Nat->Prop} {A:Nat} {w w':World} {sv fv:Value} {n m:Nat} {gs hs:Nat->Nat->Nat}
theorem kq.lt(h:kq O A w sv fv n m gs hs):A<w.heap.size:=by obtain⟨F,hF,-⟩:=h.box;exact hF.lt
theorem kq.keep(h:kq O A w sv fv n m gs hs)(e:∀ k,O k->k<w.heap.size->w'.heap[k]?=w.heap[k]?):kq O A w' sv fv n m gs hs:=by
 have hA:=h.lt;obtain⟨F,hF,h0,h1⟩:=h.box;exact⟨⟨F,hF.of_block (e A h.oA hA),h0,h1⟩,h.oA,ak h.so (fun q hq=>e q (h.sb q hq).1 (aB h.so q hq)),ak h.fo (fun q hq=>e q (h.fb q hq).1 (aB h.fo q hq)),h.sb,h.fb,h.sf⟩
theorem kq.mono(h:kq O A w sv fv n m gs hs){O':Nat->Prop}(e:∀ k,O k->O' k):kq O' A w sv fv n m gs hs:=
 ⟨h.box,e _ h.oA,h.so,h.fo,fun q hq=>⟨e _ (h.sb q hq).1,(h.sb q hq).2⟩,fun q hq=>⟨e _ (h.fb q hq).1,(h.fb q hq).2⟩,h.sf⟩
theorem kq.skip(h:kq O A w sv fv n m gs hs)(hb:Below w.heap.size w w'):kq (Sk O w.heap.size w'.heap.size) A w' sv fv n m gs hs:=by
 have h2:=h.keep (fun k _ hk=>hb.block k hk);exact⟨h2.box,⟨h.oA,Or.inl h.lt⟩,h2.so,h2.fo,fun q hq=>⟨⟨(h.sb q hq).1,Or.inl (aB h.so q hq)⟩,(h.sb q hq).2⟩,fun q hq=>⟨⟨(h.fb q hq).1,Or.inl (aB h.fo q hq)⟩,(h.fb q hq).2⟩,h.sf⟩
theorem kq.facts(h:kq O A w sv fv n m gs hs):w.cell? ⟨A,0,none⟩=some sv/\w.cell? ⟨A,1,none⟩=some fv/\w.frozen? ⟨A,0,none⟩=false/\w.frozen? ⟨A,1,none⟩=false:=by
 obtain⟨F,hF,h0,h1⟩:=h.box;exact⟨by rw[hF.cell (by omega),h0],by rw[hF.cell (by omega),h1],hF.frozen 0,hF.frozen 1⟩
theorem kq.pushS{W w7:World}{g cap H:Nat}{x:Nat->Nat}(h:kq O A w sv fv n m gs hs)(hW:Below w.heap.size w W)(hH:W.heap.size=H)(hO:∀ k,w.heap.size<=k->O k)
  (r1:w7.ownsRow 0 88 4 (.slice (some ⟨g,0,none⟩) (n+1) cap) (n+1) (be 4 n gs++[wd x 0,wd x 1,wd x 2,wd x 3]))(r2:W.grownBy w7 sv.ownBlock)(r3:sv.ownBlock=some g∨g=H) :
  kq O A (w7.setCell ⟨A,0,none⟩ (.slice (some ⟨g,0,none⟩) (n+1) cap)) (.slice (some ⟨g,0,none⟩) (n+1) cap) fv (n+1) m (fun i=>if i=n then x else gs i) hs/\aR O w (w7.setCell ⟨A,0,none⟩ (.slice (some ⟨g,0,none⟩) (n+1) cap))/\aR O w w7/\w7.frozen? ⟨A,0,none⟩=false/\w7.cell? ⟨A,0,none⟩=some sv:=by
 have hz:=hW.size;have b:g≠A:=by
  rcases r3 with r3|r3
  ·exact(h.sb g r3).2
  have:=h.lt;omega
 have c:O g:=by
  rcases r3 with r3|r3
  ·exact(h.sb g r3).1
  exact hO g (by omega)
 have k7:∀ k,k<w.heap.size->sv.ownBlock≠some k->w7.heap[k]?=w.heap[k]? :=fun k hk hne=>(r2.block k (by omega) (fun e=>hne e.symm)).trans (hW.block k hk)
 have kA:w7.heap[A]?=w.heap[A]? :=k7 A h.lt (fun e=>(h.sb A e).2 rfl);have f:=r2.size;obtain⟨F,hF,h0,h1⟩:=h.box;have a:=hF.of_block kA;have fr7:aR O w w7:=⟨r2.os.trans hW.os,r2.tape.trans hW.tape,r2.output.trans hW.output,by omega,fun k hk=>by
  have d:k<w.heap.size:=by apply Nat.lt_of_not_le;intro e;exact hk (hO k e)
  exact k7 k d (fun e=>hk (h.sb k e).1)⟩
 refine⟨⟨⟨_,a.set 0 _,by simp,by simp[h1]⟩,h.oA,?_,?_,fun q hq=>?_,h.fb,fun q hq hf=>?_⟩,?_,fr7,a.frozen 0,by rw[a.cell (by omega),h0]⟩
 ·have e:be 4 (n+1) (fun i=>if i=n then x else gs i)=be 4 n gs++[wd x 0,wd x 1,wd x 2,wd x 3]:=by
   rw[gK _ _ (by omega),ix (h:=gs) (by omega) (fun i hi=>by rw[if_neg (by omega)])];simp[List.range_succ]
  rw[e];exact ak r1 (fun q hq=>by cases hq;exact Below.heap_setCell _ _ _ _ (by show g≠A;exact b))
 ·exact ak h.fo (fun q hq=>(Below.heap_setCell _ _ _ _ (by show q≠A;exact(h.fb q hq).2)).trans (k7 q (aB h.fo q hq) (fun e=>h.sf q e hq)))
 ·cases hq;exact⟨c,b⟩
 ·cases hq;rcases r3 with r3|r3
  ·exact h.sf g r3 hf
  have:=aB h.fo g hf;omega
 exact⟨fr7.os,fr7.tape,fr7.output,by rw[aJ];exact fr7.size,fun k hk=>(Below.heap_setCell _ _ _ _ (by show k≠A;exact fun e=>hk (e ▸ h.oA))).trans (fr7.block k hk)⟩
theorem kq.pushF{W w7:World}{g cap H:Nat}{x:Nat->Nat}(h:kq O A w sv fv n m gs hs)(hW:Below w.heap.size w W)(hH:W.heap.size=H)(hO:∀ k,w.heap.size<=k->O k)(hx:hs m=x)
  (r1:w7.ownsRow 0 102 8 (.slice (some ⟨g,0,none⟩) (m+1) cap) (m+1) (be 8 m hs++[wd x 0,wd x 1,wd x 2,wd x 3,wd x 4,wd x 5,wd x 6,wd x 7]))(r2:W.grownBy w7 fv.ownBlock)(r3:fv.ownBlock=some g∨g=H) :
  kq O A (w7.setCell ⟨A,1,none⟩ (.slice (some ⟨g,0,none⟩) (m+1) cap)) sv (.slice (some ⟨g,0,none⟩) (m+1) cap) n (m+1) gs hs/\aR O w (w7.setCell ⟨A,1,none⟩ (.slice (some ⟨g,0,none⟩) (m+1) cap))/\aR O w w7/\w7.frozen? ⟨A,1,none⟩=false/\w7.cell? ⟨A,1,none⟩=some fv:=by
 have hz:=hW.size;have b:g≠A:=by
  rcases r3 with r3|r3
  ·exact(h.fb g r3).2
  have:=h.lt;omega
 have c:O g:=by
  rcases r3 with r3|r3
  ·exact(h.fb g r3).1
  exact hO g (by omega)
 have k7:∀ k,k<w.heap.size->fv.ownBlock≠some k->w7.heap[k]?=w.heap[k]? :=fun k hk hne=>(r2.block k (by omega) (fun e=>hne e.symm)).trans (hW.block k hk)
 have kA:w7.heap[A]?=w.heap[A]? :=k7 A h.lt (fun e=>(h.fb A e).2 rfl);have f:=r2.size;obtain⟨F,hF,h0,h1⟩:=h.box;have a:=hF.of_block kA;have fr7:aR O w w7:=⟨r2.os.trans hW.os,r2.tape.trans hW.tape,r2.output.trans hW.output,by omega,fun k hk=>by
  have d:k<w.heap.size:=by apply Nat.lt_of_not_le;intro e;exact hk (hO k e)
  exact k7 k d (fun e=>hk (h.fb k e).1)⟩
 refine⟨⟨⟨_,a.set 1 _,by simp[h0],by simp⟩,h.oA,?_,?_,h.sb,fun q hq=>?_,fun q hq hf=>?_⟩,?_,fr7,a.frozen 1,by rw[a.cell (by omega),h1]⟩
 ·exact ak h.so (fun q hq=>(Below.heap_setCell _ _ _ _ (by show q≠A;exact(h.sb q hq).2)).trans (k7 q (aB h.so q hq) (fun e=>h.sf q hq e)))
 ·have e:be 8 (m+1) hs=be 8 m hs++[wd x 0,wd x 1,wd x 2,wd x 3,wd x 4,wd x 5,wd x 6,wd x 7]:=by
   rw[gK _ _ (by omega),hx];simp[List.range_succ]
  rw[e];exact ak r1 (fun q hq=>by cases hq;exact Below.heap_setCell _ _ _ _ (by show g≠A;exact b))
 ·cases hq;exact⟨c,b⟩
 ·cases hf;rcases r3 with r3|r3
  ·exact h.sf g hq r3
  have:=aB h.so g hq;omega
 exact⟨fr7.os,fr7.tape,fr7.output,by rw[aJ];exact fr7.size,fun k hk=>(Below.heap_setCell _ _ _ _ (by show k≠A;exact fun e=>hk (e ▸ h.oA))).trans (fr7.block k hk)⟩
theorem kq.folRow(h:kq O A w sv fv n m gs hs){i:Nat}(hi:i<m):∃ g cap M F,fv=.slice (some ⟨g,0,none⟩) m cap/\O g/\g<w.heap.size/\w.rowIs g 102 M F/\i*8+8<=M/\(∀ j,j<8->F (i*8+j)=wd (hs i) j)/\
  ∀ (w':World) (x:Nat->Nat),w'.rowIs g 102 M (fun k=>if i*8<=k/\k<i*8+8 then wd x (k-i*8) else F k)->cd g w w'->kq O A w' sv fv n m gs (fun j=>if j=i then x else hs j):=by
 obtain⟨g,cap,M,F,rfl,hlt,hr,hM,hF,a⟩:=fe h.fo (by omega);refine⟨g,cap,M,F,rfl,(h.fb g rfl).1,hlt,hr,by omega,fun j hj=>?_,fun w' x hr' hob=>?_⟩
 ·have h1:=hF (i*8+j) (by omega);rw[dr _ _ _ (by omega),show(i*8+j) / 8=i by omega,show(i*8+j)%8=j by omega]at h1;exact(Option.some.inj h1).symm
 obtain⟨F0,b,h0,h1⟩:=h.box;refine⟨⟨F0,b.of_block (hob.block A (fun e=>(h.fb g rfl).2 e.symm)),h0,h1⟩,h.oA,ak h.so (fun q hq=>hob.block q (fun e=>h.sf q hq (by rw[e];rfl))),?_,h.sb,h.fb,h.sf⟩;refine a w' _ _ hr' (kK _ _ _) (fun k hk=>?_)
 rw[dr _ _ _ hk]
 by_cases e:i*8<=k/\k<i*8+8
 ·rw[if_pos e,if_pos (by omega),show k%8=k-i*8 by omega]
 rw[if_neg e,if_neg (by omega)];have h2:=hF k hk;rw[dr _ _ _ hk]at h2;exact h2
end
def bD(f:Nat->Nat)(xs:List Nat):Prop:=Fit f/\∀ b,Bt f b=xs.contains b
def cO(O:Nat->Prop)(A:Nat)(w:World)(N:Nat)(S:List (List Int))(K:List Lk):Prop:=
 ∃ sv fv gs hs,kq O A w sv fv N N gs hs/\S.length=N/\(∀ i,i<N->cU (S[i]?.getD [])/\du (S[i]?.getD []) (gs i))/\(∀ i,Fit (hs i))/\(∀ i j,Bt (hs i) j=ce K i j)/\∀ i,N<=i->hs i=fun _=>0
def uj(O:Nat->Prop)(w:World):Prop:=TZ w/\Tryz.laysTZ_ren.g 1<w.heap.size/\¬ O (Tryz.laysTZ_ren.g 1)
section
variable {O O':Nat->Prop} {A N:Nat} {w w':World} {S:List (List Int)} {K K':List Lk}
theorem cO.mono(h:cO O A w N S K)(e:∀ k,O k->O' k):cO O' A w N S K:=by
 obtain⟨sv,fv,gs,hs,h1,h2⟩:=h;exact⟨sv,fv,gs,hs,h1.mono e,h2⟩
theorem cO.keep(h:cO O A w N S K)(e:∀ k,O k->k<w.heap.size->w'.heap[k]?=w.heap[k]?):cO O A w' N S K:=by
 obtain⟨sv,fv,gs,hs,h1,h2⟩:=h;exact⟨sv,fv,gs,hs,h1.keep e,h2⟩
theorem cO.skip(h:cO O A w N S K)(hb:Below w.heap.size w w'):cO (Sk O w.heap.size w'.heap.size) A w' N S K:=by
 obtain⟨sv,fv,gs,hs,h1,h2⟩:=h;exact⟨sv,fv,gs,hs,h1.skip hb,h2⟩
theorem cO.same(h:cO O A w N S K)(e:∀ i j,ce K i j=ce K' i j):cO O A w N S K':=by
 obtain⟨sv,fv,gs,hs,h1,h2,h3,h4,h5,h6⟩:=h;exact⟨sv,fv,gs,hs,h1,h2,h3,h4,fun i j=>(h5 i j).trans (e i j),h6⟩
theorem uj.fr(h:uj O w)(hf:aR O w w'):uj O w':=⟨h.1.same (hf.block _ h.2.2),Nat.lt_of_lt_of_le h.2.1 hf.size,h.2.2⟩
theorem uj.less(h:uj O w)(e:∀ k,O' k->O k):uj O' w:=⟨h.1,h.2.1,fun q=>h.2.2 (e _ q)⟩
theorem uj.below(h:uj O w)(hb:Below w.heap.size w w'):uj O w':=⟨h.1.below hb h.2.1,Nat.lt_of_lt_of_le h.2.1 hb.size,h.2.2⟩
end
theorem yY{f:Nat->Nat}{xs:List Nat}(h:bD f xs)(hx:∀ x∈xs,x<512)(i:Nat):(gj f 512).contains i=xs.contains i:=by
 rw[Bool.eq_iff_iff,List.contains_iff_mem,List.contains_iff_mem];unfold gj;rw[List.mem_filter,List.mem_range,h.2 i,List.contains_iff_mem];exact⟨fun q=>q.2,fun q=>⟨hx i q,q⟩⟩
theorem kC(w:World)(t:TypeId)(g:Nat->Nat):(w.alloc (.cells #[.int .u64 (g 0:Nat),.int .u64 (g 1:Nat),.int .u64 (g 2:Nat),.int .u64 (g 3:Nat),.int .u64 (g 4:Nat),.int .u64 (g 5:Nat),.int .u64 (g 6:Nat),.int .u64 (g 7:Nat)] t)).rowIs w.heap.size t 8 (wd g):=by
 refine World.rowIs_alloc w #[.int .u64 (g 0:Nat),.int .u64 (g 1:Nat),.int .u64 (g 2:Nat),.int .u64 (g 3:Nat),.int .u64 (g 4:Nat),.int .u64 (g 5:Nat),.int .u64 (g 6:Nat),.int .u64 (g 7:Nat)] t (wd g) ?_;intro i hi
 match i,hi with
 | 0,_=>rfl
 | 1,_=>rfl
 | 2,_=>rfl
 | 3,_=>rfl
 | 4,_=>rfl
 | 5,_=>rfl
 | 6,_=>rfl
 | 7,_=>rfl
abbrev o8 (g:Nat->Nat):Obj:=.cells #[.int .u64 (g 0:Nat),.int .u64 (g 1:Nat),.int .u64 (g 2:Nat),.int .u64 (g 3:Nat),.int .u64 (g 4:Nat),.int .u64 (g 5:Nat),.int .u64 (g 6:Nat),.int .u64 (g 7:Nat)] 102
theorem rR(O:Nat->Prop)(A N:Nat)(S:List (List Int))(K:List Lk)(f g:Nat->Nat)(xs ys:List Nat)(w:World)(h:cO O A w N S K)(hO:∀ k,w.heap.size<=k->O k)(htz:uj O w)(hf:bD f xs)(hg:bD g ys)(hx:∀ x∈xs,x<N)(hN:N<=512) :
  Calls prog 92 #[.pointer (some ⟨A,0,none⟩),gE f,gE g] w fun e w'=>e=.returned (.tuple #[])/\cO O A w' N S (K++[(xs,ys)])/\aR O w w':=by
 have HC:=ae (yY hf (fun x h=>Nat.lt_of_lt_of_le (hx x h) hN));have Y:=uu f 512;have HF:=ae hf;have HG:=ae hg;have HX:=ae hx;have H:((w.alloc (o8 f)).alloc (o8 g)).rowIs (w.heap.size+1) 102 8 (wd g):=by
  have:=kC (w.alloc (o8 f)) 102 g
  rwa [ah]at this
 have r:Below w.heap.size w ((w.alloc (o8 f)).alloc (o8 g)):=aH w _ _;have hL:=yz f hf.1 ((w.alloc (o8 f)).alloc (o8 g)) (htz.below r).1 (htz.below r).2.1;have HL:=ae hL;have a6:((w.alloc (o8 f)).alloc (o8 g)).heap.size=w.heap.size+2:=by rw[ah,ah]
 have HH:=ae h;have HO:=ae hO;have HR:=ae H;unfold gE;clear hf hg hx h hO H hL htz
 go_enter func92,ntmps92
 go_wp2_with fail;refine HL.u.mono ?_;rintro e w2 ⟨lv,rfl,ho,s⟩;obtain⟨X,hX⟩ : ∃ X,X=gj f 512:=⟨_,rfl⟩;rw[<-hX]at ho HC Y;have I:Below w.heap.size w w2:=r.trans (s.mono (by omega));have Z:=ae (HR.u.of_block (s.block _ (by omega)));obtain⟨la,lc,rfl,J⟩:=jm ho rfl (by omega);have a0:=ae J;have L:=ae (HH.u.skip I);have a7:=s.size;clear ho J s HL HR hX HH r
 go_wp2_with fail
 go_loopw [11] (fun iv wr=>∃ x:Nat,x<=X.length/\iv=.int .i64 x/\cO (Sk O w.heap.size w2.heap.size) A wr N S (K++[(X.take x,ys)])/\aR (Sk O w.heap.size w2.heap.size) w2 wr) (fun iv _=>X.length-(intOf iv).toNat)
 case atStart=>exact⟨0,Nat.zero_le _,rfl,L.u.same (fun i j=>by rw[List.take_zero,mu]),aR.refl _ _⟩
 clear L;obtain⟨x,hx,rfl,hA,c⟩:=hrel
 by_cases hlt:x<X.length
 ·have a4:(x:Int)<(X.length:Int):=by omega
  obtain⟨q,o,rfl,a8,a1,d⟩:=a0.u (by omega);have z:∀ k,w.heap.size<=k->k<w2.heap.size->wr.heap[k]?=w2.heap[k]? :=fun k h1 h2=>c.block k (fun e=>by rcases e.2 with e|e<;>omega)
  have c0:=d wr (z q (by omega) a1) x hlt;have hi:X[x]<N:=HX.u _ (by
   have h1:X.contains X[x]=true:=List.contains_iff_mem.2 (List.getElem_mem hlt);rw[HC.u]at h1;exact List.contains_iff_mem.1 h1)
  obtain⟨i,B⟩ : ∃ i,i=X[x]:=⟨_,rfl⟩;rw[<-B]at c0 hi;have a2:=ae B;obtain⟨sv,fv,gs,hs,hM,hn,t,l,P,m⟩:=hA;obtain⟨g2,cap,M,F,rfl,Q,a5,v,a3,R,n⟩:=hM.folRow hi;obtain⟨-,c1,-,-⟩:=hM.facts;have a9:(i:Int)<(N:Int):=by omega
  have hne:g2≠w.heap.size+1:=fun e=>by rcases Q.2 with q|q<;>omega
  have hJ:=il g2 (i*8) M (w.heap.size+1) 0 8 _ _ F (wd g) (hs i) g wr (l i) HG.u.1 hne v R a3 (Z.u.of_block (z _ (by omega) (by omega))) (fun j hj=>by rw[Nat.zero_add]) (by omega);have HJ:=ae hJ;have y:=ae t;have p:=ae l;have C:=ae P;have HZ:=ae m;have T:=ae n;have U:=ae c;clear hJ hM t l P m v R n c d B z
  go_wp2_with fail;refine HJ.u.mono ?_;rintro e w3 ⟨rfl,V,D⟩;have W:=T.u w3 _ V D;have E:Hi (cO (Sk O w.heap.size w2.heap.size) A w3 N S (K++[(X.take (x+1),ys)])):=by
   refine⟨_,_,gs,_,W,hn,y.u,fun a=>?_,fun a b=>?_,fun a ha=>?_⟩
   ·(try dsimp only)
    split
    ·exact qq (p.u i) HG.u.1
    exact p.u a
   ·have e1:ce (K++[(X.take (x+1),ys)]) a b=(ce (K++[(X.take x,ys)]) a b||(decide (a=i)&&ys.contains b)):=by
     rw[cI,cI,di,di,Bool.or_assoc]
     congr 1
     rw[List.take_add_one,List.getElem?_eq_getElem hlt,a2.u];simp only[Option.toList_some,List.contains_append];rw[Bool.and_or_distrib_right]
     congr 1
     simp
    rw[e1]
    (try dsimp only)
    by_cases ea:a=i
    ·subst ea;rw[if_pos rfl,uW,C.u,HG.u.2];simp
    rw[if_neg ea,C.u];simp[ea]
   (try dsimp only)
   rw[if_neg (by omega)];exact HZ.u a ha
  have G:=ae (U.u.trans (D.fro Q));clear V D W HJ T U C p y HZ;go_wp2
  go_roundw
  case rel=>exact⟨x+1,by omega,by go_num,E.u,G.u⟩
  simp[intOf];omega
 have ex:x=X.length:=by omega
 subst ex;rw[List.take_length]at hA;have E:Hi (cO O A wr N S (K++[(xs,ys)])):=(hA.mono Sk.sub).same (fun i j=>by rw[cI,cI,di,di,HC.u]);have G:Hi (aR O w wr):=(bh I HO.u).trans (c.mono Sk.sub);clear hA c;go_wp2
 first|(refine bodyPost_ret (results_none rfl _ _ _) rfl ?_)|(refine bodyPost_end (results_none rfl _ _ _) rfl ?_)
 exact⟨rfl,E.u,G.u⟩
theorem Tryz.zinBS:(prog.info? 88).map (fun i=>(i.zero,i.size,i.bytes))=some (some (.agg #[.int .u64 0,.int .u64 0,.int .u64 0,.int .u64 0]),4,32):=by kernel_rfl
theorem Tryz.zinPS:(prog.info? 102).map (fun i=>(i.zero,i.size,i.bytes))=some (some (.agg #[.int .u64 0,.int .u64 0,.int .u64 0,.int .u64 0,.int .u64 0,.int .u64 0,.int .u64 0,.int .u64 0]),8,64):=by kernel_rfl
def eZ(b:Bool)(f l:Nat->Nat):Value:=.agg #[.bool b,.int .u64 (f 0:Nat),.int .u64 (f 1:Nat),.int .u64 (f 2:Nat),.int .u64 (f 3:Nat),.int .u64 (f 4:Nat),.int .u64 (f 5:Nat),.int .u64 (f 6:Nat),.int .u64 (f 7:Nat),.int .u64 (l 0:Nat),.int .u64 (l 1:Nat),.int .u64 (l 2:Nat),.int .u64 (l 3:Nat),.int .u64 (l 4:Nat),.int .u64 (l 5:Nat),.int .u64 (l 6:Nat),.int .u64 (l 7:Nat)]
abbrev oE (b:Bool) (f l:Nat->Nat):Obj:=.cells #[.bool b,.int .u64 (f 0:Nat),.int .u64 (f 1:Nat),.int .u64 (f 2:Nat),.int .u64 (f 3:Nat),.int .u64 (f 4:Nat),.int .u64 (f 5:Nat),.int .u64 (f 6:Nat),.int .u64 (f 7:Nat),.int .u64 (l 0:Nat),.int .u64 (l 1:Nat),.int .u64 (l 2:Nat),.int .u64 (l 3:Nat),.int .u64 (l 4:Nat),.int .u64 (l 5:Nat),.int .u64 (l 6:Nat),.int .u64 (l 7:Nat)] 104
abbrev xl:Obj:=.cells #[.bool false,.int .u64 0,.int .u64 0,.int .u64 0,.int .u64 0,.int .u64 0,.int .u64 0,.int .u64 0,.int .u64 0,.int .u64 0,.int .u64 0,.int .u64 0,.int .u64 0,.int .u64 0,.int .u64 0,.int .u64 0,.int .u64 0] 104
abbrev FJ:Obj:=.cells #[.int .u64 0,.int .u64 0,.int .u64 0,.int .u64 0,.int .u64 0,.int .u64 0,.int .u64 0,.int .u64 0] 102
abbrev o4 (g:Nat->Nat):Obj:=.cells #[.int .u64 (g 0:Nat),.int .u64 (g 1:Nat),.int .u64 (g 2:Nat),.int .u64 (g 3:Nat)] 88
def bQ(b:Bool)(f l:Nat->Nat):Nat->Value:=fun k=>if k=0 then .bool b else if k<9 then wd f (k-1) else wd l (k-9)
def ay(w:World)(B:Nat)(b:Bool)(f l:Nat->Nat):Prop:=w.rowIs B 104 17 (bQ b f l)
def z8:Nat->Nat:=fun _=>0
theorem pf:Fit z8:=fun _=>by show 0<18446744073709551616;omega
theorem dg(w:World)(b:Bool)(f l:Nat->Nat):ay (w.alloc (oE b f l)) w.heap.size b f l:=by
 refine World.rowIs_alloc w #[.bool b,.int .u64 (f 0:Nat),.int .u64 (f 1:Nat),.int .u64 (f 2:Nat),.int .u64 (f 3:Nat),.int .u64 (f 4:Nat),.int .u64 (f 5:Nat),.int .u64 (f 6:Nat),.int .u64 (f 7:Nat),.int .u64 (l 0:Nat),.int .u64 (l 1:Nat),.int .u64 (l 2:Nat),.int .u64 (l 3:Nat),.int .u64 (l 4:Nat),.int .u64 (l 5:Nat),.int .u64 (l 6:Nat),.int .u64 (l 7:Nat)] 104 (bQ b f l) ?_;intro i hi
 match i,hi with
 | 0,_=>rfl
 | 1,_=>rfl
 | 2,_=>rfl
 | 3,_=>rfl
 | 4,_=>rfl
 | 5,_=>rfl
 | 6,_=>rfl
 | 7,_=>rfl
 | 8,_=>rfl
 | 9,_=>rfl
 | 10,_=>rfl
 | 11,_=>rfl
 | 12,_=>rfl
 | 13,_=>rfl
 | 14,_=>rfl
 | 15,_=>rfl
 | 16,_=>rfl
 | n+17,h=>exact absurd h (by show ¬ (n+17<17);omega)
theorem fy(w:World):ay (w.alloc xl) w.heap.size false z8 z8:=dg w false z8 z8
theorem tH(w:World):(w.alloc FJ).rowIs w.heap.size 102 8 (wd z8):=kC w 102 z8
theorem ay.on{w w':World}{B:Nat}{b:Bool}{f l:Nat->Nat}(h:ay w B b f l)(e:w'.heap[B]?=w.heap[B]?):ay w' B b f l:=World.rowIs.of_block h e
theorem ay.cell{w:World}{B:Nat}{b:Bool}{f l:Nat->Nat}(h:ay w B b f l)(k:Nat)(hk:k<17):w.cell? ⟨B,k,none⟩=some (bQ b f l k):=World.rowIs.cell h hk
abbrev Gs (w:World) (B:Nat) (b:Bool) (f l:Nat->Nat):World:=(((((((((((((((((w).setCell ⟨B,0,none⟩ (.bool b)).setCell ⟨B,1,none⟩ (.int .u64 (f 0:Nat))).setCell ⟨B,2,none⟩ (.int .u64 (f 1:Nat))).setCell ⟨B,3,none⟩ (.int .u64 (f 2:Nat))).setCell ⟨B,4,none⟩ (.int .u64 (f 3:Nat))).setCell ⟨B,5,none⟩ (.int .u64 (f 4:Nat))).setCell ⟨B,6,none⟩ (.int .u64 (f 5:Nat))).setCell ⟨B,7,none⟩ (.int .u64 (f 6:Nat))).setCell ⟨B,8,none⟩ (.int .u64 (f 7:Nat))).setCell ⟨B,9,none⟩ (.int .u64 (l 0:Nat))).setCell ⟨B,10,none⟩ (.int .u64 (l 1:Nat))).setCell ⟨B,11,none⟩ (.int .u64 (l 2:Nat))).setCell ⟨B,12,none⟩ (.int .u64 (l 3:Nat))).setCell ⟨B,13,none⟩ (.int .u64 (l 4:Nat))).setCell ⟨B,14,none⟩ (.int .u64 (l 5:Nat))).setCell ⟨B,15,none⟩ (.int .u64 (l 6:Nat))).setCell ⟨B,16,none⟩ (.int .u64 (l 7:Nat))
theorem Cc{w:World}{B:Nat}{F:Nat->Value}(h:w.rowIs B 104 17 F)(b:Bool)(f l:Nat->Nat):ay (Gs w B b f l) B b f l:=by
 have h2:=(((((((((((((((((h).set 0 (.bool b)).set 1 (.int .u64 (f 0:Nat))).set 2 (.int .u64 (f 1:Nat))).set 3 (.int .u64 (f 2:Nat))).set 4 (.int .u64 (f 3:Nat))).set 5 (.int .u64 (f 4:Nat))).set 6 (.int .u64 (f 5:Nat))).set 7 (.int .u64 (f 6:Nat))).set 8 (.int .u64 (f 7:Nat))).set 9 (.int .u64 (l 0:Nat))).set 10 (.int .u64 (l 1:Nat))).set 11 (.int .u64 (l 2:Nat))).set 12 (.int .u64 (l 3:Nat))).set 13 (.int .u64 (l 4:Nat))).set 14 (.int .u64 (l 5:Nat))).set 15 (.int .u64 (l 6:Nat))).set 16 (.int .u64 (l 7:Nat));refine h2.congr (fun k hk=>?_)
 match k,hk with
 | 0,_=>simp[bQ]
 | 1,_=>simp[bQ,wd]
 | 2,_=>simp[bQ,wd]
 | 3,_=>simp[bQ,wd]
 | 4,_=>simp[bQ,wd]
 | 5,_=>simp[bQ,wd]
 | 6,_=>simp[bQ,wd]
 | 7,_=>simp[bQ,wd]
 | 8,_=>simp[bQ,wd]
 | 9,_=>simp[bQ,wd]
 | 10,_=>simp[bQ,wd]
 | 11,_=>simp[bQ,wd]
 | 12,_=>simp[bQ,wd]
 | 13,_=>simp[bQ,wd]
 | 14,_=>simp[bQ,wd]
 | 15,_=>simp[bQ,wd]
 | 16,_=>simp[bQ,wd]
 | n+17,h=>exact absurd h (by omega)
theorem DA(w:World)(B:Nat)(b:Bool)(f l:Nat->Nat):cd B w (Gs w B b f l):=(((((((((((((((((cd.refl _ _).trans (am _ _)).trans (am _ _)).trans (am _ _)).trans (am _ _)).trans (am _ _)).trans (am _ _)).trans (am _ _)).trans (am _ _)).trans (am _ _)).trans (am _ _)).trans (am _ _)).trans (am _ _)).trans (am _ _)).trans (am _ _)).trans (am _ _)).trans (am _ _)).trans (am _ _)
theorem ay.blk{w:World}{B:Nat}{b:Bool}{f l:Nat->Nat}(h:ay w B b f l):w.heap[B]?=some (.cells #[.bool b,.int .u64 (f 0:Nat),.int .u64 (f 1:Nat),.int .u64 (f 2:Nat),.int .u64 (f 3:Nat),.int .u64 (f 4:Nat),.int .u64 (f 5:Nat),.int .u64 (f 6:Nat),.int .u64 (f 7:Nat),.int .u64 (l 0:Nat),.int .u64 (l 1:Nat),.int .u64 (l 2:Nat),.int .u64 (l 3:Nat),.int .u64 (l 4:Nat),.int .u64 (l 5:Nat),.int .u64 (l 6:Nat),.int .u64 (l 7:Nat)] 104):=by
 obtain⟨cur,h1,h2,h3⟩:=h;rw[h1]
 congr 2
 refine Array.ext (by rw[h2];rfl) (fun i hi hj=>?_)
 have h4:=h3 i (by omega);rw[Array.getElem?_eq_getElem hi]at h4;rw[Option.some.inj h4];have a:i<17:=by omega
 match i,a with
 | 0,_=>rfl
 | 1,_=>rfl
 | 2,_=>rfl
 | 3,_=>rfl
 | 4,_=>rfl
 | 5,_=>rfl
 | 6,_=>rfl
 | 7,_=>rfl
 | 8,_=>rfl
 | 9,_=>rfl
 | 10,_=>rfl
 | 11,_=>rfl
 | 12,_=>rfl
 | 13,_=>rfl
 | 14,_=>rfl
 | 15,_=>rfl
 | 16,_=>rfl
 | n+17,h=>exact absurd h (by omega)
theorem cn{w:World}{B:Nat}{b:Bool}{f l:Nat->Nat}(h:ay w B b f l){fn:Func}{p:Tmp}(hr:fn.results=#[.cell p 104])(tmps:Array Value)(hp:tmps.getD p undef=.pointer (some ⟨B,0,none⟩)):(results fn tmps).run prog w=.ok (eZ b f l) w:=
 results_cell_row hr tmps w B _ _ _ _ hp h.blk underlying104 rfl (by kernel_rfl)
theorem wk(N:Nat):bD (iA z8 N) [N]:=by
 refine⟨pU pf N,fun b=>?_⟩;have h:=pQ z8 N b;unfold iA;rw[h];simp[Bt,z8]
theorem tW{w:World}{B:Nat}{b:Bool}{f l:Nat->Nat}(h:w.heap[B]?=some (.cells #[.bool b,.int .u64 (f 0:Nat),.int .u64 (f 1:Nat),.int .u64 (f 2:Nat),.int .u64 (f 3:Nat),.int .u64 (f 4:Nat),.int .u64 (f 5:Nat),.int .u64 (f 6:Nat),.int .u64 (f 7:Nat),.int .u64 (l 0:Nat),.int .u64 (l 1:Nat),.int .u64 (l 2:Nat),.int .u64 (l 3:Nat),.int .u64 (l 4:Nat),.int .u64 (l 5:Nat),.int .u64 (l 6:Nat),.int .u64 (l 7:Nat)] 104)):ay w B b f l:=by
 refine⟨_,h,rfl,fun i hi=>?_⟩
 match i,hi with
 | 0,_=>rfl
 | 1,_=>rfl
 | 2,_=>rfl
 | 3,_=>rfl
 | 4,_=>rfl
 | 5,_=>rfl
 | 6,_=>rfl
 | 7,_=>rfl
 | 8,_=>rfl
 | 9,_=>rfl
 | 10,_=>rfl
 | 11,_=>rfl
 | 12,_=>rfl
 | 13,_=>rfl
 | 14,_=>rfl
 | 15,_=>rfl
 | 16,_=>rfl
 | n+17,h=>exact absurd h (by omega)
theorem dO(w:World)(g:Nat)(cs:Array Value):cd g w (w.setRow g cs):=⟨rfl,rfl,rfl,setRow_size w g cs,fun k hk=>setRow_other w g k cs hk⟩
theorem ay.row{w:World}{B:Nat}{b0:Bool}{f0 l0:Nat->Nat}(h:ay w B b0 f0 l0)(b:Bool)(f l:Nat->Nat):ay (w.setRow B #[.bool b,.int .u64 (f 0:Nat),.int .u64 (f 1:Nat),.int .u64 (f 2:Nat),.int .u64 (f 3:Nat),.int .u64 (f 4:Nat),.int .u64 (f 5:Nat),.int .u64 (f 6:Nat),.int .u64 (f 7:Nat),.int .u64 (l 0:Nat),.int .u64 (l 1:Nat),.int .u64 (l 2:Nat),.int .u64 (l 3:Nat),.int .u64 (l 4:Nat),.int .u64 (l 5:Nat),.int .u64 (l 6:Nat),.int .u64 (l 7:Nat)]) B b f l:=tW (setRow_heap w B _ _ _ _ h.blk)
theorem je(b:Bool)(f l:Nat->Nat):(#[.bool b,.int .u64 (f 0:Nat),.int .u64 (f 1:Nat),.int .u64 (f 2:Nat),.int .u64 (f 3:Nat),.int .u64 (f 4:Nat),.int .u64 (f 5:Nat),.int .u64 (f 6:Nat),.int .u64 (f 7:Nat),.int .u64 (l 0:Nat),.int .u64 (l 1:Nat),.int .u64 (l 2:Nat),.int .u64 (l 3:Nat),.int .u64 (l 4:Nat),.int .u64 (l 5:Nat),.int .u64 (l 6:Nat),.int .u64 (l 7:Nat)]:Array Value).all (·.oneCell')=true:=by kernel_rfl
theorem ay.joinF{w:World}{B:Nat}{b:Bool}{f l f2:Nat->Nat}(h:w.rowIs B 104 17 (fun k=>if 1<=k/\k<1+8 then wd (cD f f2) (k-1) else bQ b f l k)):ay w B b (cD f f2) l:=by
 refine World.rowIs.congr h (fun k hk=>?_)
 unfold bQ
 by_cases h0:k=0
 ·subst h0;simp
 by_cases h9:k<9
 ·rw[if_pos (by omega),if_neg h0,if_pos h9]
 rw[if_neg (by omega),if_neg h0,if_neg h9,if_neg h0,if_neg h9]
theorem ay.joinL{w:World}{B:Nat}{b:Bool}{f l l2:Nat->Nat}(h:w.rowIs B 104 17 (fun k=>if 9<=k/\k<9+8 then wd (cD l l2) (k-9) else bQ b f l k)):ay w B b f (cD l l2):=by
 refine World.rowIs.congr h (fun k hk=>?_)
 unfold bQ
 by_cases h0:k=0
 ·subst h0;simp
 by_cases h9:k<9
 ·rw[if_neg (by omega),if_neg h0,if_pos h9,if_neg h0,if_pos h9]
 rw[if_pos (by omega),if_neg h0,if_neg h9]
theorem ym(b:Bool)(f l:Nat->Nat):∀ j,j<8->bQ b f l (1+j)=wd f j:=fun j hj=>by
 unfold bQ;rw[if_neg (by omega),if_pos (by omega),show 1+j-1=j by omega]
theorem xy(b:Bool)(f l:Nat->Nat):∀ j,j<8->bQ b f l (9+j)=wd l j:=fun j hj=>by
 unfold bQ;rw[if_neg (by omega),if_neg (by omega),show 9+j-9=j by omega]
theorem ay.putB{w:World}{B:Nat}{b:Bool}{f l:Nat->Nat}(h:ay w B b f l)(b':Bool):ay (w.setCell ⟨B,0,none⟩ (.bool b')) B b' f l:=by
 refine World.rowIs.congr (World.rowIs.set h 0 _) (fun k hk=>?_)
 unfold bQ
 by_cases h0:k=0
 ·rw[if_pos h0,if_pos h0]
 rw[if_neg h0,if_neg h0,if_neg h0]
theorem jFx{w:World}{B C:Nat}{b b2:Bool}{f l f2 l2:Nat->Nat}(h:ay w B b f l)(k:ay w C b2 f2 l2)(hne:B≠C)(hf:Fit f)(hf2:Fit f2) :
  Calls prog 94 #[.pointer (some ⟨B,1,none⟩),.pointer (some ⟨C,1,none⟩)] w fun e w'=>e=.returned (.tuple #[])/\ay w' B b (cD f f2) l/\cd B w w':=by
 refine(il B 1 17 C 1 17 _ _ _ _ f f2 w hf hf2 hne h (ym _ _ _) (by omega) k (ym _ _ _) (by omega)).mono ?_;rintro e w' ⟨h1,h2,h3⟩;exact⟨h1,ay.joinF h2,h3⟩
theorem lE{w:World}{B C:Nat}{b b2:Bool}{f l f2 l2:Nat->Nat}(h:ay w B b f l)(k:ay w C b2 f2 l2)(hne:B≠C)(hf:Fit l)(hf2:Fit l2) :
  Calls prog 94 #[.pointer (some ⟨B,9,none⟩),.pointer (some ⟨C,9,none⟩)] w fun e w'=>e=.returned (.tuple #[])/\ay w' B b f (cD l l2)/\cd B w w':=by
 refine(il B 9 17 C 9 17 _ _ _ _ l l2 w hf hf2 hne h (xy _ _ _) (by omega) k (xy _ _ _) (by omega)).mono ?_;rintro e w' ⟨h1,h2,h3⟩;exact⟨h1,ay.joinL h2,h3⟩
theorem cd.below{g m:Nat}{a b:World}(h:cd g a b)(hm:m<=g):Below m a b:=⟨h.os,h.tape,h.output,by rw[h.size];exact Nat.le_refl _,fun k hk=>h.block k (by omega)⟩
theorem rO(b1 b2:Bool)(f1 l1 f2 l2:Nat->Nat)(w:World)(h1:Fit f1)(h2:Fit l1)(h3:Fit f2)(h4:Fit l2) :
  Calls prog 91 #[eZ b1 f1 l1,eZ b2 f2 l2] w fun e w'=>e=.returned (eZ (b1||b2) (cD f1 f2) (cD l1 l2))/\Below w.heap.size w w':=by
 obtain⟨W1,f⟩ : ∃ W1,W1=((w.alloc (oE (b1||b2) f1 l1)).alloc (oE b2 f2 l2)).alloc xl:=⟨_,rfl⟩;have hz:W1.heap.size=w.heap.size+3:=by rw[f,ah,ah,ah]
 have o:Below w.heap.size w W1:=by
  rw[f];exact(aH w _ _).trans ((ai _ _).mono (by rw[ah,ah];omega))
 have e1:ay W1 w.heap.size (b1||b2) f1 l1:=by
  rw[f];exact World.rowIs.alloc (World.rowIs.alloc (dg w (b1||b2) f1 l1) _) _
 have e2:ay W1 (w.heap.size+1) b2 f2 l2:=by
  have:=dg (w.alloc (oE (b1||b2) f1 l1)) b2 f2 l2;rw[ah]at this;rw[f];exact World.rowIs.alloc this _
 have e3:ay W1 (w.heap.size+2) false z8 z8:=by
  have:=fy ((w.alloc (oE (b1||b2) f1 l1)).alloc (oE b2 f2 l2));rw[ah,ah]at this;rw[f];exact this
 have g:=ae e1;have h:=ae e2;have m:=ae e3;have HB:=ae o;have H1:=ae h1;have H2:=ae h2;have H3:=ae h3;have H4:=ae h4;have i:=ae f;clear e1 e2 e3 hz o f h1 h2 h3 h4;unfold eZ;cases b1
 ·
  go_enter func91,ntmps91
  go_wp2_with fail;simp only[Bool.false_or]at g i ⊢;rw[<-i.u];clear i;refine(jFx g.u h.u (by omega) H1.u H3.u).mono ?_;rintro e w2 ⟨rfl,q1,q2⟩;have a:=ae q1;have b:=ae (ay.on h.u (q2.block _ (by omega)));have c:=ae (ay.on m.u (q2.block _ (by omega)));have j:=ae (HB.u.trans (q2.below lR));clear q1 q2 g h m HB
  go_wp2_with fail;refine(lE a.u b.u (by omega) H2.u H4.u).mono ?_;rintro e w3 ⟨rfl,q1,q2⟩;have k:=ae (ay.blk q1);have d:=ae (ay.on c.u (q2.block _ (by omega)));have l:=ae (ay.blk d.u);have n:=ae (j.u.trans (q2.below lR));clear q1 q2 a b c j
  go_wp2_with (first|(refine wpList_load_row rfl 104 (.tmp 2) rfl (w.heap.size) (by first|(simp[Act.eval];done)|(simp[Act.eval,Act.put];done)) 104 _ _ _ k.u underlying104 rfl (by kernel_rfl) ?_)|(refine wpList_store_row rfl 104 (.tmp 4) (.tmp 18) rfl (w.heap.size+1+1) #[.bool b2,.int .u64 ((cD f1 f2) 0:Nat),.int .u64 ((cD f1 f2) 1:Nat),.int .u64 ((cD f1 f2) 2:Nat),.int .u64 ((cD f1 f2) 3:Nat),.int .u64 ((cD f1 f2) 4:Nat),.int .u64 ((cD f1 f2) 5:Nat),.int .u64 ((cD f1 f2) 6:Nat),.int .u64 ((cD f1 f2) 7:Nat),.int .u64 ((cD l1 l2) 0:Nat),.int .u64 ((cD l1 l2) 1:Nat),.int .u64 ((cD l1 l2) 2:Nat),.int .u64 ((cD l1 l2) 3:Nat),.int .u64 ((cD l1 l2) 4:Nat),.int .u64 ((cD l1 l2) 5:Nat),.int .u64 ((cD l1 l2) 6:Nat),.int .u64 ((cD l1 l2) 7:Nat)] (by first|(simp[Act.eval];done)|(simp[Act.eval,Act.put];done)) (by first|(simp[Act.eval];done)|(simp[Act.eval,Act.put];done)) 104 _ l.u (by kernel_rfl) rfl (je _ _ _) ?_));refine bodyPost_ret (cn (ay.row d.u _ _ _) rfl _ rfl) rfl ?_;exact⟨rfl,n.u.trans ((dO _ _ _).below (by omega))⟩
 ·
  go_enter func91,ntmps91
  go_wp2_with fail;simp only[Bool.true_or]at g i ⊢;rw[<-i.u];clear i;refine(jFx g.u h.u (by omega) H1.u H3.u).mono ?_;rintro e w2 ⟨rfl,q1,q2⟩;have a:=ae q1;have b:=ae (ay.on h.u (q2.block _ (by omega)));have c:=ae (ay.on m.u (q2.block _ (by omega)));have j:=ae (HB.u.trans (q2.below lR));clear q1 q2 g h m HB
  go_wp2_with fail;refine(lE a.u b.u (by omega) H2.u H4.u).mono ?_;rintro e w3 ⟨rfl,q1,q2⟩;have k:=ae (ay.blk q1);have d:=ae (ay.on c.u (q2.block _ (by omega)));have l:=ae (ay.blk d.u);have n:=ae (j.u.trans (q2.below lR));clear q1 q2 a b c j
  go_wp2_with (first|(refine wpList_load_row rfl 104 (.tmp 2) rfl (w.heap.size) (by first|(simp[Act.eval];done)|(simp[Act.eval,Act.put];done)) 104 _ _ _ k.u underlying104 rfl (by kernel_rfl) ?_)|(refine wpList_store_row rfl 104 (.tmp 4) (.tmp 18) rfl (w.heap.size+1+1) #[.bool true,.int .u64 ((cD f1 f2) 0:Nat),.int .u64 ((cD f1 f2) 1:Nat),.int .u64 ((cD f1 f2) 2:Nat),.int .u64 ((cD f1 f2) 3:Nat),.int .u64 ((cD f1 f2) 4:Nat),.int .u64 ((cD f1 f2) 5:Nat),.int .u64 ((cD f1 f2) 6:Nat),.int .u64 ((cD f1 f2) 7:Nat),.int .u64 ((cD l1 l2) 0:Nat),.int .u64 ((cD l1 l2) 1:Nat),.int .u64 ((cD l1 l2) 2:Nat),.int .u64 ((cD l1 l2) 3:Nat),.int .u64 ((cD l1 l2) 4:Nat),.int .u64 ((cD l1 l2) 5:Nat),.int .u64 ((cD l1 l2) 6:Nat),.int .u64 ((cD l1 l2) 7:Nat)] (by first|(simp[Act.eval];done)|(simp[Act.eval,Act.put];done)) (by first|(simp[Act.eval];done)|(simp[Act.eval,Act.put];done)) 104 _ l.u (by kernel_rfl) rfl (je _ _ _) ?_));refine bodyPost_ret (cn (ay.row d.u _ _ _) rfl _ rfl) rfl ?_;exact⟨rfl,n.u.trans ((dO _ _ _).below (by omega))⟩
end Go.Proofs.YtpmcjimgkabpeaaGreatDoor
