import Derived.Test.YtidfkbghlkcbeaaGreatDoorPk6
namespace Go.Proofs.YtidfkbghlkcbeaaGreatDoor
open Go.RowKit Go.Proofs.Tryz
set_option maxHeartbeats 16000000
set_option maxRecDepth 100000
def dp(w:World)(b n:Nat)(f:Nat->Nat):Prop:=∃ m F,w.rowIs b 3 m F/\n<=m/\∀ j,j<n->F j=.int .i64 (f j:Nat)
theorem dp.cell{w:World}{b n:Nat}{f:Nat->Nat}(h:dp w b n f){j:Nat}(hj:j<n):w.cell? ⟨b,j,none⟩=some (.int .i64 (f j:Nat)):=by
 obtain⟨m,F,hF,hm,h1⟩:=h;rw[hF.cell (by omega),h1 j hj]
theorem dp.frozen{w:World}{b n:Nat}{f:Nat->Nat}(h:dp w b n f)(j:Nat):w.frozen? ⟨b,j,none⟩=false:=by
 obtain⟨m,F,hF,-⟩:=h;exact hF.frozen j
theorem dp.lt{w:World}{b n:Nat}{f:Nat->Nat}(h:dp w b n f):b<w.heap.size:=by
 obtain⟨m,F,hF,-⟩:=h;exact hF.lt
theorem dp.on{w w':World}{b n:Nat}{f:Nat->Nat}(h:dp w b n f)(e:w'.heap[b]?=w.heap[b]?):dp w' b n f:=by
 obtain⟨m,F,hF,h1⟩:=h;exact⟨m,F,hF.of_block e,h1⟩
theorem dp.put{w:World}{b n:Nat}{f:Nat->Nat}(h:dp w b n f)(i v:Nat):dp (w.setCell ⟨b,i,none⟩ (.int .i64 (v:Nat))) b n (bX f i v):=by
 obtain⟨m,F,hF,hm,h1⟩:=h;refine⟨m,_,hF.set i _,hm,fun j hj=>?_⟩
 by_cases e:j=i
 ·subst e;simp[bX]
 simp[bX,e,h1 j hj]
theorem dp.congr{w:World}{b n:Nat}{f f':Nat->Nat}(h:dp w b n f)(e:∀ j,j<n->f j=f' j):dp w b n f':=by
 obtain⟨m,F,hF,hm,h1⟩:=h;exact⟨m,F,hF,hm,fun j hj=>by rw[h1 j hj,e j hj]⟩
def bF(fr mk tt:Nat->Nat)(k:Nat):Value:=.int .i64 ((if k%3=0 then fr (k / 3) else if k%3=1 then mk (k / 3) else tt (k / 3):Nat):Int)
def bL(N:Nat)(fr mk tt:Nat->Nat):List Value:=(List.range (N*3)).map (bF fr mk tt)
theorem FP(fr mk tt:Nat->Nat)(k:Nat):bF fr mk tt (k*3)=.int .i64 (fr k:Nat):=by simp[bF]
theorem FJ(fr mk tt:Nat->Nat)(k:Nat):bF fr mk tt (k*3+1)=.int .i64 (mk k:Nat):=by
 have h1:(k*3+1)%3=1:=by omega
 have h2:(k*3+1) / 3=k:=by omega
 simp[bF,h1,h2]
theorem FW(fr mk tt:Nat->Nat)(k:Nat):bF fr mk tt (k*3+2)=.int .i64 (tt k:Nat):=by
 have h1:(k*3+2)%3=2:=by omega
 have h2:(k*3+2) / 3=k:=by omega
 simp[bF,h1,h2]
theorem nj(N:Nat)(fr mk tt:Nat->Nat):(bL N fr mk tt).length=N*3:=by simp[bL]
theorem ph{N:Nat}(fr mk tt:Nat->Nat){k:Nat}(h:k<N*3):(bL N fr mk tt)[k]?=some (bF fr mk tt k):=by simp[bL,h]
theorem BL(N:Nat)(fr mk tt:Nat->Nat)(a b c:Nat):bL (N+1) (bX fr N a) (bX mk N b) (bX tt N c)=bL N fr mk tt++[.int .i64 (a:Nat),.int .i64 (b:Nat),.int .i64 (c:Nat)]:=by
 refine List.ext_getElem? (fun k=>?_)
 by_cases h1:k<N*3
 ·rw[List.getElem?_append_left (by rw[nj];exact h1),ph _ _ _ h1,ph _ _ _ (by omega)];have:k / 3≠N:=by omega
  simp[bF,bX,this]
 rw[List.getElem?_append_right (by rw[nj];omega),nj]
 by_cases h2:k<N*3+3
 ·rw[ph _ _ _ (by omega)];obtain rfl|rfl|rfl:k=N*3∨k=N*3+1∨k=N*3+2:=by omega
  ·rw[FP];simp[bX]
  ·rw[FJ];simp[bX]
  rw[FW];simp[bX]
 rw[List.getElem?_eq_none (by rw[nj];omega),List.getElem?_eq_none (by simp;omega)]
structure aU (O:Nat->Prop) (g mb mc pb pc bb bc:Nat) (w:World) (n N:Nat) (ms ps bs fr mk tt:Nat->Nat) (kb kc:Nat) (qv:Value) (qs:List Int) (tk:Nat):Prop where
 box:∃ F,w.rowIs g 191 6 F/\F 0=.slice (some ⟨mb,0,none⟩) n mc/\F 1=.slice (some ⟨pb,0,none⟩) n pc/\F 2=.slice (some ⟨bb,0,none⟩) n bc/\F 3=.slice (some ⟨kb,0,none⟩) N kc/\F 4=qv/\F 5=.int .i64 (tk:Nat)
 cap:n<=mc
 rm:dp w mb n ms
 rp:dp w pb n ps
 rb:dp w bb n bs
 rk:w.ownsRow 0 197 3 (.slice (some ⟨kb,0,none⟩) N kc) N (bL N fr mk tt)
 rq:w.ownsRow 0 3 1 qv qs.length (qs.map mI)
 ng:g≠mb/\g≠pb/\g≠bb/\g≠kb
 ne:mb≠pb/\mb≠bb/\mb≠kb/\pb≠bb/\pb≠kb/\bb≠kb
 oo:O g/\O mb/\O pb/\O bb/\O kb
 oq:∀ q,qv.ownBlock=some q->O q/\q≠g/\q≠mb/\q≠pb/\q≠bb/\q≠kb
section
variable {O:Nat->Prop} {g mb mc pb pc bb bc:Nat} {w:World} {n N:Nat} {ms ps bs fr mk tt:Nat->Nat} {kb kc:Nat} {qv:Value} {qs:List Int} {tk:Nat}
theorem aU.lt(h:aU O g mb mc pb pc bb bc w n N ms ps bs fr mk tt kb kc qv qs tk):g<w.heap.size:=by obtain⟨F,hF,-⟩:=h.box;exact hF.lt
theorem aU.ltk(h:aU O g mb mc pb pc bb bc w n N ms ps bs fr mk tt kb kc qv qs tk):kb<w.heap.size:=aB h.rk kb rfl
theorem aU.keep(h:aU O g mb mc pb pc bb bc w n N ms ps bs fr mk tt kb kc qv qs tk){w':World}(e:∀ k,O k->k<w.heap.size->w'.heap[k]?=w.heap[k]?):aU O g mb mc pb pc bb bc w' n N ms ps bs fr mk tt kb kc qv qs tk:=by
 obtain⟨F,hF,h1⟩:=h.box;obtain⟨o1,o2,o3,o4,o5⟩:=h.oo;exact⟨⟨F,hF.of_block (e g o1 hF.lt),h1⟩,h.cap,h.rm.on (e _ o2 h.rm.lt),h.rp.on (e _ o3 h.rp.lt),h.rb.on (e _ o4 h.rb.lt),ak h.rk (fun q hq=>by cases hq;exact e _ o5 h.ltk),ak h.rq (fun q hq=>e q (h.oq q hq).1 (aB h.rq q hq)),h.ng,h.ne,h.oo,h.oq⟩
theorem aU.mono(h:aU O g mb mc pb pc bb bc w n N ms ps bs fr mk tt kb kc qv qs tk){O':Nat->Prop}(e:∀ k,O k->O' k):aU O' g mb mc pb pc bb bc w n N ms ps bs fr mk tt kb kc qv qs tk:=by
 obtain⟨o1,o2,o3,o4,o5⟩:=h.oo;exact⟨h.box,h.cap,h.rm,h.rp,h.rb,h.rk,h.rq,h.ng,h.ne,⟨e _ o1,e _ o2,e _ o3,e _ o4,e _ o5⟩,fun q hq=>⟨e q (h.oq q hq).1,(h.oq q hq).2⟩⟩
theorem aU.skip(h:aU O g mb mc pb pc bb bc w n N ms ps bs fr mk tt kb kc qv qs tk){w':World}(hb:Below w.heap.size w w'):aU (Sk O w.heap.size w'.heap.size) g mb mc pb pc bb bc w' n N ms ps bs fr mk tt kb kc qv qs tk:=by
 have h2:=h.keep (fun k _ hk=>hb.block k hk);obtain⟨o1,o2,o3,o4,o5⟩:=h.oo;exact⟨h2.box,h.cap,h2.rm,h2.rp,h2.rb,h2.rk,h2.rq,h.ng,h.ne,⟨⟨o1,Or.inl h.lt⟩,⟨o2,Or.inl h.rm.lt⟩,⟨o3,Or.inl h.rp.lt⟩,⟨o4,Or.inl h.rb.lt⟩,⟨o5,Or.inl h.ltk⟩⟩,fun q hq=>⟨⟨(h.oq q hq).1,Or.inl (aB h.rq q hq)⟩,(h.oq q hq).2⟩⟩
theorem aU.facts(h:aU O g mb mc pb pc bb bc w n N ms ps bs fr mk tt kb kc qv qs tk):w.cell? ⟨g,0,none⟩=some (.slice (some ⟨mb,0,none⟩) n mc)/\w.cell? ⟨g,1,none⟩=some (.slice (some ⟨pb,0,none⟩) n pc)/\w.cell? ⟨g,2,none⟩=some (.slice (some ⟨bb,0,none⟩) n bc)/\w.cell? ⟨g,3,none⟩=some (.slice (some ⟨kb,0,none⟩) N kc)/\w.cell? ⟨g,4,none⟩=some qv/\w.cell? ⟨g,5,none⟩=some (.int .i64 (tk:Nat))/\∀ j,w.frozen? ⟨g,j,none⟩=false:=by
 obtain⟨F,hF,h0,h1,h2,h3,h4,h5⟩:=h.box;exact⟨by rw[hF.cell (by omega),h0],by rw[hF.cell (by omega),h1],by rw[hF.cell (by omega),h2],by rw[hF.cell (by omega),h3],by rw[hF.cell (by omega),h4],by rw[hF.cell (by omega),h5],fun j=>hF.frozen j⟩
theorem aU.blk(h:aU O g mb mc pb pc bb bc w n N ms ps bs fr mk tt kb kc qv qs tk){k:Nat}(hk:k<N):w.cell? ⟨kb,k*3,none⟩=some (.int .i64 (fr k:Nat))/\w.cell? ⟨kb,k*3+1,none⟩=some (.int .i64 (mk k:Nat))/\w.cell? ⟨kb,k*3+2,none⟩=some (.int .i64 (tt k:Nat))/\∀ j,w.frozen? ⟨kb,j,none⟩=false:=by
 obtain⟨g',cap,m,F,e,-,hF,hm,hx,-⟩:=fm h.rk (by omega);cases e;have q:∀ j,j<N*3->w.cell? ⟨kb,j,none⟩=some (bF fr mk tt j):=fun j hj=>by
  have:=hx j hj;rw[ph _ _ _ hj]at this;rw[hF.cell (by omega),<-this]
 exact⟨by rw[q _ (by omega),FP],by rw[q _ (by omega),FJ],by rw[q _ (by omega),FW],fun j=>hF.frozen j⟩
theorem aU.setM(h:aU O g mb mc pb pc bb bc w n N ms ps bs fr mk tt kb kc qv qs tk)(i v:Nat):aU O g mb mc pb pc bb bc (w.setCell ⟨mb,i,none⟩ (.int .i64 (v:Nat))) n N (bX ms i v) ps bs fr mk tt kb kc qv qs tk:=by
 obtain⟨n1,n2,n3,n4⟩:=h.ng;obtain⟨e1,e2,e3,e4,e5,e6⟩:=h.ne;obtain⟨F,hF,h1⟩:=h.box;have e:∀ k,k≠mb->(w.setCell ⟨mb,i,none⟩ (.int .i64 (v:Nat))).heap[k]?=w.heap[k]? :=fun k hk=>Below.heap_setCell _ _ _ _ (by show k≠mb;exact hk)
 exact⟨⟨F,hF.of_block (e g n1),h1⟩,h.cap,h.rm.put i v,h.rp.on (e _ (Ne.symm e1)),h.rb.on (e _ (Ne.symm e2)),ak h.rk (fun q hq=>by cases hq;exact e _ (Ne.symm e3)),ak h.rq (fun q hq=>e q (h.oq q hq).2.2.1),h.ng,h.ne,h.oo,h.oq⟩
theorem aU.setP(h:aU O g mb mc pb pc bb bc w n N ms ps bs fr mk tt kb kc qv qs tk)(i v:Nat):aU O g mb mc pb pc bb bc (w.setCell ⟨pb,i,none⟩ (.int .i64 (v:Nat))) n N ms (bX ps i v) bs fr mk tt kb kc qv qs tk:=by
 obtain⟨n1,n2,n3,n4⟩:=h.ng;obtain⟨e1,e2,e3,e4,e5,e6⟩:=h.ne;obtain⟨F,hF,h1⟩:=h.box;have e:∀ k,k≠pb->(w.setCell ⟨pb,i,none⟩ (.int .i64 (v:Nat))).heap[k]?=w.heap[k]? :=fun k hk=>Below.heap_setCell _ _ _ _ (by show k≠pb;exact hk)
 exact⟨⟨F,hF.of_block (e g n2),h1⟩,h.cap,h.rm.on (e _ e1),h.rp.put i v,h.rb.on (e _ (Ne.symm e4)),ak h.rk (fun q hq=>by cases hq;exact e _ (Ne.symm e5)),ak h.rq (fun q hq=>e q (h.oq q hq).2.2.2.1),h.ng,h.ne,h.oo,h.oq⟩
theorem aU.setB(h:aU O g mb mc pb pc bb bc w n N ms ps bs fr mk tt kb kc qv qs tk)(i v:Nat):aU O g mb mc pb pc bb bc (w.setCell ⟨bb,i,none⟩ (.int .i64 (v:Nat))) n N ms ps (bX bs i v) fr mk tt kb kc qv qs tk:=by
 obtain⟨n1,n2,n3,n4⟩:=h.ng;obtain⟨e1,e2,e3,e4,e5,e6⟩:=h.ne;obtain⟨F,hF,h1⟩:=h.box;have e:∀ k,k≠bb->(w.setCell ⟨bb,i,none⟩ (.int .i64 (v:Nat))).heap[k]?=w.heap[k]? :=fun k hk=>Below.heap_setCell _ _ _ _ (by show k≠bb;exact hk)
 exact⟨⟨F,hF.of_block (e g n3),h1⟩,h.cap,h.rm.on (e _ e2),h.rp.on (e _ e4),h.rb.put i v,ak h.rk (fun q hq=>by cases hq;exact e _ (Ne.symm e6)),ak h.rq (fun q hq=>e q (h.oq q hq).2.2.2.2.1),h.ng,h.ne,h.oo,h.oq⟩
theorem aU.setK(h:aU O g mb mc pb pc bb bc w n N ms ps bs fr mk tt kb kc qv qs tk){i:Nat}(u:Value){fr' mk' tt':Nat->Nat}(hi:i<N*3)(hu:bF fr' mk' tt' i=u)(hk:∀ j,j<N*3->j≠i->bF fr' mk' tt' j=bF fr mk tt j):aU O g mb mc pb pc bb bc (w.setCell ⟨kb,i,none⟩ u) n N ms ps bs fr' mk' tt' kb kc qv qs tk:=by
 obtain⟨n1,n2,n3,n4⟩:=h.ng;obtain⟨e1,e2,e3,e4,e5,e6⟩:=h.ne;obtain⟨F,hF,h1⟩:=h.box;have e:∀ k,k≠kb->(w.setCell ⟨kb,i,none⟩ u).heap[k]?=w.heap[k]? :=fun k hk=>Below.heap_setCell _ _ _ _ (by show k≠kb;exact hk)
 refine⟨⟨F,hF.of_block (e g n4),h1⟩,h.cap,h.rm.on (e _ e3),h.rp.on (e _ e5),h.rb.on (e _ e6),?_,ak h.rq (fun q hq=>e q (h.oq q hq).2.2.2.2.2),h.ng,h.ne,h.oo,h.oq⟩;obtain⟨g',cap,m,F2,e',-,b,hm,hx,a⟩:=fm h.rk (by omega);cases e';refine a _ _ _ (b.set i u) (nj _ _ _ _) (fun j hj=>?_)
 rw[ph _ _ _ hj]
 by_cases q:j=i
 ·subst q;simp[hu]
 have:=hx j hj;rw[ph _ _ _ hj]at this;simp only[q,if_false];rw[hk j hj q,this]
theorem aU.setT(h:aU O g mb mc pb pc bb bc w n N ms ps bs fr mk tt kb kc qv qs tk)(t:Nat):aU O g mb mc pb pc bb bc (w.setCell ⟨g,5,none⟩ (.int .i64 (t:Nat))) n N ms ps bs fr mk tt kb kc qv qs t:=by
 obtain⟨n1,n2,n3,n4⟩:=h.ng;obtain⟨F,hF,h0,h1,h2,h3,h4,h5⟩:=h.box;have e:∀ k,k≠g->(w.setCell ⟨g,5,none⟩ (.int .i64 (t:Nat))).heap[k]?=w.heap[k]? :=fun k hk=>Below.heap_setCell _ _ _ _ (by show k≠g;exact hk)
 exact⟨⟨_,hF.set 5 _,by simp[h0],by simp[h1],by simp[h2],by simp[h3],by simp[h4],by simp⟩,h.cap,h.rm.on (e _ (Ne.symm n1)),h.rp.on (e _ (Ne.symm n2)),h.rb.on (e _ (Ne.symm n3)),ak h.rk (fun q hq=>by cases hq;exact e _ (Ne.symm n4)),ak h.rq (fun q hq=>e q (h.oq q hq).2.1),h.ng,h.ne,h.oo,h.oq⟩
theorem aU.pushQ(h:aU O g mb mc pb pc bb bc w n N ms ps bs fr mk tt kb kc qv qs tk)(hO:∀ k,w.heap.size<=k->O k){W w2:World}{v':Value}{xs:List Int}(hW:Below w.heap.size w W)(r1:w2.ownsRow 0 3 1 v' xs.length (xs.map mI))(r2:W.grownBy w2 qv.ownBlock)(r3:∀ q,v'.ownBlock=some q->qv.ownBlock=some q∨w.heap.size<=q) :
  aU O g mb mc pb pc bb bc (w2.setCell ⟨g,4,none⟩ v') n N ms ps bs fr mk tt kb kc v' xs tk/\aT O w (w2.setCell ⟨g,4,none⟩ v'):=by
 have hz:=hW.size;have b:=r2.size;obtain⟨n1,n2,n3,n4⟩:=h.ng;obtain⟨o1,o2,o3,o4,o5⟩:=h.oo;obtain⟨F,hF,h0,h1,h2,h3,h4,h5⟩:=h.box;have k2:∀ k,k<w.heap.size->qv.ownBlock≠some k->w2.heap[k]?=w.heap[k]? :=fun k hk hne=>(r2.block k (by omega) (fun e=>hne e.symm)).trans (hW.block k hk)
 have kf:∀ k,k<w.heap.size->k≠g->qv.ownBlock≠some k->(w2.setCell ⟨g,4,none⟩ v').heap[k]?=w.heap[k]? :=fun k hk hg hne=>(Below.heap_setCell _ _ _ _ (by show k≠g;exact hg)).trans (k2 k hk hne)
 have a:=hF.of_block (k2 g hF.lt (fun e=>(h.oq g e).2.1 rfl));have c:=h.lt;have lm:=h.rm.lt;have lp:=h.rp.lt;have lb:=h.rb.lt;have lk:=h.ltk;refine⟨⟨⟨_,a.set 4 _,by simp[h0],by simp[h1],by simp[h2],by simp[h3],by simp,by simp[h5]⟩,h.cap,h.rm.on (kf _ h.rm.lt (Ne.symm n1) (fun e=>(h.oq _ e).2.2.1 rfl)),h.rp.on (kf _ h.rp.lt (Ne.symm n2) (fun e=>(h.oq _ e).2.2.2.1 rfl)),h.rb.on (kf _ h.rb.lt (Ne.symm n3) (fun e=>(h.oq _ e).2.2.2.2.1 rfl)),ak h.rk (fun q hq=>by cases hq;exact kf _ h.ltk (Ne.symm n4) (fun e=>(h.oq _ e).2.2.2.2.2 rfl)),ak r1 (fun q hq=>?_),h.ng,h.ne,h.oo,fun q hq=>?_⟩,?_⟩
 ·refine Below.heap_setCell _ _ _ _ ?_;show q≠g;rcases r3 q hq with e|e
  ·exact(h.oq q e).2.1
  omega
 ·rcases r3 q hq with e|e
  ·exact h.oq q e
  exact⟨hO q e,by omega,by omega,by omega,by omega,by omega⟩
 refine⟨r2.os.trans hW.os,r2.tape.trans hW.tape,r2.output.trans hW.output,by rw[aM];omega,fun k hk=>?_⟩;have hlt:k<w.heap.size:=by apply Nat.lt_of_not_le;intro e;exact hk (hO k e)
 exact kf k hlt (fun e=>hk (e ▸ o1)) (fun e=>hk (h.oq k e).1)
theorem aU.pushK(h:aU O g mb mc pb pc bb bc w n N ms ps bs fr mk tt kb kc qv qs tk)(hO:∀ k,w.heap.size<=k->O k){W w2:World}{kb' kc' a b c:Nat}(hW:Below w.heap.size w W)(r1:w2.ownsRow 0 197 3 (.slice (some ⟨kb',0,none⟩) (N+1) kc') (N+1) (bL N fr mk tt++[.int .i64 (a:Nat),.int .i64 (b:Nat),.int .i64 (c:Nat)]))(r2:W.grownBy w2 (some kb))(r3:kb'=kb∨w.heap.size<=kb') :
  aU O g mb mc pb pc bb bc (w2.setCell ⟨g,3,none⟩ (.slice (some ⟨kb',0,none⟩) (N+1) kc')) n (N+1) ms ps bs (bX fr N a) (bX mk N b) (bX tt N c) kb' kc' qv qs tk/\aT O w (w2.setCell ⟨g,3,none⟩ (.slice (some ⟨kb',0,none⟩) (N+1) kc'))/\w2.cell? ⟨g,3,none⟩=some (.slice (some ⟨kb,0,none⟩) N kc)/\w2.frozen? ⟨g,3,none⟩=false:=by
 have hz:=hW.size;have f:=r2.size;obtain⟨n1,n2,n3,n4⟩:=h.ng;obtain⟨e1,e2,e3,e4,e5,e6⟩:=h.ne;obtain⟨o1,o2,o3,o4,o5⟩:=h.oo;obtain⟨F,hF,h0,h1,h2,h3,h4,h5⟩:=h.box;have k2:∀ k,k<w.heap.size->k≠kb->w2.heap[k]?=w.heap[k]? :=fun k hk hne=>(r2.block k (by omega) (fun e=>hne (Option.some.inj e))).trans (hW.block k hk)
 have kf:∀ k,k<w.heap.size->k≠g->k≠kb->(w2.setCell ⟨g,3,none⟩ (.slice (some ⟨kb',0,none⟩) (N+1) kc')).heap[k]?=w.heap[k]? :=fun k hk hg hne=>(Below.heap_setCell _ _ _ _ (by show k≠g;exact hg)).trans (k2 k hk hne)
 have d:=hF.of_block (k2 g hF.lt n4);have i:=h.lt;have lm:=h.rm.lt;have lp:=h.rp.lt;have lb:=h.rb.lt;have ng':kb'≠g:=by rcases r3 with e|e<;>omega
 refine⟨⟨⟨_,d.set 3 _,by simp[h0],by simp[h1],by simp[h2],by simp,by simp[h4],by simp[h5]⟩,h.cap,h.rm.on (kf _ h.rm.lt (Ne.symm n1) e3),h.rp.on (kf _ h.rp.lt (Ne.symm n2) e5),h.rb.on (kf _ h.rb.lt (Ne.symm n3) e6),?_,ak h.rq (fun q hq=>kf q (aB h.rq q hq) (h.oq q hq).2.1 (h.oq q hq).2.2.2.2.2),⟨n1,n2,n3,Ne.symm ng'⟩,⟨e1,e2,by rcases r3 with e|e<;>omega,e4,by rcases r3 with e|e<;>omega,by rcases r3 with e|e<;>omega⟩,⟨o1,o2,o3,o4,?_⟩,fun q hq=>?_⟩,?_,by rw[d.cell (by omega),h3],d.frozen 3⟩
 ·rw[BL];exact ak r1 (fun q hq=>by cases hq;exact Below.heap_setCell _ _ _ _ (by show kb'≠g;exact ng'))
 ·rcases r3 with e|e
  ·rw[e];exact o5
  exact hO _ e
 ·obtain⟨q1,q2,q3,q4,q5,q6⟩:=h.oq q hq;have:=aB h.rq q hq;exact⟨q1,q2,q3,q4,q5,by rcases r3 with e|e<;>omega⟩
 refine⟨r2.os.trans hW.os,r2.tape.trans hW.tape,r2.output.trans hW.output,by rw[aM];omega,fun k hk=>?_⟩;have hlt:k<w.heap.size:=by apply Nat.lt_of_not_le;intro e;exact hk (hO k e)
 exact kf k hlt (fun e=>hk (e ▸ o1)) (fun e=>hk (e ▸ o5))
end
theorem sA(g o:Nat)(v:Value)(xs:List Int)(x:Int)(w:World)(hg:g<w.heap.size)(hq:v.ownBlock≠some g)(hl:xs.length<=1000000)(h0:w.cell? ⟨g,o,none⟩=some v)(hz:w.frozen? ⟨g,o,none⟩=false)
  (hown:w.ownsRow 0 3 1 v xs.length (xs.map mI)) :
  Calls prog 97 #[.pointer (some ⟨g,o,none⟩),.int .i64 x] w fun e w'=>e=.returned (.tuple #[])/\
   ∃ v' w2,w'=w2.setCell ⟨g,o,none⟩ v'/\w2.ownsRow 0 3 1 v' (xs++[x]).length ((xs++[x]).map mI)/\(w.alloc (.cells #[.int .i64 x] 3)).grownBy w2 v.ownBlock/\∀ q,v'.ownBlock=some q->v.ownBlock=some q∨w.heap.size<=q:=by
 obtain⟨i0,hi,f,h,i⟩:=info_parts Tryz.zinInt;have d:=ae hown;obtain⟨oa,oc,rfl⟩:=aj hown;clear hown
 go_enter func97,ntmps97
 go_wp2_with (at_builtin;refine wpList_append_own_at _ rfl _ _ 27 rfl 0 3 i0 (.int .i64 0) 1 8 underlying27 hi f h i rfl (by decide) _ _ _ rfl (d.u.alloc _) ⟨w.heap.size,0,none⟩ 1 1 [.int .i64 x] rfl rfl ?_ ?_ ?_ ?_ ?_ ?_)
 ·exact ef (by simp)
 ·intro u hu;simp at hu;subst hu;rfl
 ·unfold maxLen;omega
 ·omega
 ·omega
 intro v' w2 h5 c _ r3;have H5:=ae h5;have HG:=ae c;have R3:=ae r3;have b:w2.heap[g]?=w.heap[g]? :=(c.block g (by rw[ah];omega) (fun e=>hq e.symm)).trans ((ai w _).block g hg);have c1:w2.cell? ⟨g,o,none⟩=some (.slice oa xs.length oc):=by rw[World.cell?_of_block (a:=⟨g,o,none⟩) b];exact h0
 have c2:w2.frozen? ⟨g,o,none⟩=false:=by rw[World.frozen?_of_block (a:=⟨g,o,none⟩) b];exact hz
 obtain⟨oa',oc',rfl⟩:=aj h5;clear h5 c b h0 hz r3;go_wp2
 first|(refine bodyPost_ret (results_none rfl _ _ _) rfl ?_)|(refine bodyPost_end (results_none rfl _ _ _) rfl ?_)
 refine⟨rfl,_,w2,rfl,?_,HG.u,fun q hq=>?_⟩
 ·rw[List.length_append,List.map_append];exact H5.u
 rcases R3.u with e|e
 ·rw[e]at hq;exact .inl hq
 rw[e]at hq;cases hq;exact .inr (by omega)
def vY(n:Nat):List Int:=(List.range n).map Int.ofNat
theorem rR(n:Nat):(vY (n+1)).map mI=(vY n).map mI++[.int .i64 (n:Nat)]:=by simp[vY,List.range_succ,mI]
theorem sJ{w:World}{v:Value}{n:Nat}(h:w.ownsRow 0 3 1 v n ((vY n).map mI))(hp:0<n):∃ b c,v=.slice (some ⟨b,0,none⟩) n c/\n<=c/\dp w b n (fun i=>i):=by
 obtain⟨g,cap,m,F,rfl,hlt,hr,hm,hx,-⟩:=fm h hp;have hc:=(qh h).le;refine⟨g,cap,rfl,hc.1,m,F,hr,by omega,fun j hj=>?_⟩;have h1:=hx j (by omega);rw[List.getElem?_map,vY,List.getElem?_map,List.getElem?_range hj]at h1;simp at h1;exact h1.symm
theorem dt(w:World)(v:Value)(t:TypeId):(w.alloc (.cells #[v] t)).cell? ⟨w.heap.size,0,none⟩=some v:=by simp
structure nn (w0 w:World) (n i:Nat) (mv pv:Value):Prop where
 bl:Below w0.heap.size w0 w
 sz:w0.heap.size+2<=w.heap.size
 blk:w.heap[w0.heap.size]?=some (.cells #[.int .i64 0,.int .i64 0,.int .i64 (n:Nat)] 197 (0,0))
 box:w.rowIs (w0.heap.size+1) 191 6 (fun j=>[mv,pv,.slice none 0 0,.slice (some ⟨w0.heap.size,0,none⟩) 1 1,.slice none 0 0,.int .i64 0].getD j undef)
 rm:w.ownsRow (w0.heap.size+2) 3 1 mv i ((vY i).map mI)
 rp:w.ownsRow (w0.heap.size+2) 3 1 pv i ((vY i).map mI)
 ne:∀ q,mv.ownBlock=some q->pv.ownBlock≠some q
theorem nn.pushM{w0 w w2:World}{n i:Nat}{mv pv v':Value}{o:Obj}(h:nn w0 w n i mv pv)(r1:w2.ownsRow (w0.heap.size+2) 3 1 v' (i+1) ((vY i).map mI++[.int .i64 (i:Nat)]))(r2:(w.alloc o).grownBy w2 mv.ownBlock)(r3:v'.ownBlock=mv.ownBlock∨v'.ownBlock=some (w.heap.size+1)) :
  w2.cell? ⟨w0.heap.size+1,0,none⟩=some mv/\w2.frozen? ⟨w0.heap.size+1,0,none⟩=false/\
  Below w0.heap.size w0 (w2.setCell ⟨w0.heap.size+1,0,none⟩ v')/\w0.heap.size+2<=(w2.setCell ⟨w0.heap.size+1,0,none⟩ v').heap.size/\(w2.setCell ⟨w0.heap.size+1,0,none⟩ v').heap[w0.heap.size]?=some (.cells #[.int .i64 0,.int .i64 0,.int .i64 (n:Nat)] 197 (0,0))/\
  (w2.setCell ⟨w0.heap.size+1,0,none⟩ v').rowIs (w0.heap.size+1) 191 6 (fun j=>[v',pv,.slice none 0 0,.slice (some ⟨w0.heap.size,0,none⟩) 1 1,.slice none 0 0,.int .i64 0].getD j undef)/\
  (w2.setCell ⟨w0.heap.size+1,0,none⟩ v').ownsRow (w0.heap.size+2) 3 1 v' (i+1) ((vY (i+1)).map mI)/\(w2.setCell ⟨w0.heap.size+1,0,none⟩ v').ownsRow (w0.heap.size+2) 3 1 pv i ((vY i).map mI)/\∀ q,v'.ownBlock=some q->pv.ownBlock≠some q:=by
 have hz:=h.sz;have a:=r2.size;rw[ah]at a;have k2:∀ k,k<w.heap.size->mv.ownBlock≠some k->w2.heap[k]?=w.heap[k]? :=fun k hk hne=>(r2.block k (by rw[ah];omega) (fun e=>hne e.symm)).trans ((ai w o).block k hk)
 have lo:∀ k,mv.ownBlock=some k->w0.heap.size+2<=k:=fun k hk=>(h.rm.lt k hk).1
 have b2:w2.heap[w0.heap.size+1]?=w.heap[w0.heap.size+1]? :=k2 _ (by omega) (fun e=>by have:=lo _ e;omega);have hF:=h.box.of_block b2;have ks:∀ k,k≠w0.heap.size+1->(w2.setCell ⟨w0.heap.size+1,0,none⟩ v').heap[k]?=w2.heap[k]? :=fun k hk=>Below.heap_setCell _ _ _ _ (by show k≠w0.heap.size+1;exact hk)
 have lv:∀ q,v'.ownBlock=some q->w0.heap.size+2<=q:=fun q hq=>(r1.lt q hq).1
 refine⟨by rw[hF.cell (by omega)];rfl,hF.frozen 0,⟨?_,?_,?_,?_,fun k hk=>?_⟩,by rw[aM];omega,?_,?_,?_,?_,fun q hq hp=>?_⟩
 ·exact r2.os.trans h.bl.os
 ·exact r2.tape.trans h.bl.tape
 ·exact r2.output.trans h.bl.output
 ·rw[aM];omega
 ·rw[ks k (by omega),k2 k (by omega) (fun e=>by have:=lo _ e;omega)];exact h.bl.block k hk
 ·rw[ks _ (by omega),k2 _ (by omega) (fun e=>by have:=lo _ e;omega)];exact h.blk
 ·refine(hF.set 0 v').congr (fun j hj=>?_)
  match j,hj with
  | 0,_=>rfl
  | 1,_=>rfl
  | 2,_=>rfl
  | 3,_=>rfl
  | 4,_=>rfl
  | 5,_=>rfl
 ·rw[rR];exact ak r1 (fun q hq=>ks q (by have:=lv q hq;omega))
 ·refine ak h.rp (fun q hq=>?_)
  have:=h.rp.lt q hq;rw[ks q (by omega)];exact k2 q (by omega) (fun e=>h.ne q e hq)
 have:=(h.rp.lt q hp).2;rcases r3 with e|e
 ·rw[e]at hq;exact h.ne q hq hp
 rw[e]at hq;cases hq;omega
theorem nn.pushP{w0 w w2:World}{n i:Nat}{mv pv v':Value}{o:Obj}(hbl:Below w0.heap.size w0 w)(hz:w0.heap.size+2<=w.heap.size)(hblk:w.heap[w0.heap.size]?=some (.cells #[.int .i64 0,.int .i64 0,.int .i64 (n:Nat)] 197 (0,0)))
  (hbox:w.rowIs (w0.heap.size+1) 191 6 (fun j=>[mv,pv,.slice none 0 0,.slice (some ⟨w0.heap.size,0,none⟩) 1 1,.slice none 0 0,.int .i64 0].getD j undef))
  (hrm:w.ownsRow (w0.heap.size+2) 3 1 mv (i+1) ((vY (i+1)).map mI))(hrp:w.ownsRow (w0.heap.size+2) 3 1 pv i ((vY i).map mI))(hne:∀ q,mv.ownBlock=some q->pv.ownBlock≠some q)
  (r1:w2.ownsRow (w0.heap.size+2) 3 1 v' (i+1) ((vY i).map mI++[.int .i64 (i:Nat)]))(r2:(w.alloc o).grownBy w2 pv.ownBlock)(r3:v'.ownBlock=pv.ownBlock∨v'.ownBlock=some (w.heap.size+1)) :
  w2.cell? ⟨w0.heap.size+1,1,none⟩=some pv/\w2.frozen? ⟨w0.heap.size+1,1,none⟩=false/\nn w0 (w2.setCell ⟨w0.heap.size+1,1,none⟩ v') n (i+1) mv v':=by
 have a:=r2.size;rw[ah]at a;have k2:∀ k,k<w.heap.size->pv.ownBlock≠some k->w2.heap[k]?=w.heap[k]? :=fun k hk hne=>(r2.block k (by rw[ah];omega) (fun e=>hne e.symm)).trans ((ai w o).block k hk)
 have lo:∀ k,pv.ownBlock=some k->w0.heap.size+2<=k:=fun k hk=>(hrp.lt k hk).1
 have b2:w2.heap[w0.heap.size+1]?=w.heap[w0.heap.size+1]? :=k2 _ (by omega) (fun e=>by have:=lo _ e;omega);have hF:=hbox.of_block b2;have ks:∀ k,k≠w0.heap.size+1->(w2.setCell ⟨w0.heap.size+1,1,none⟩ v').heap[k]?=w2.heap[k]? :=fun k hk=>Below.heap_setCell _ _ _ _ (by show k≠w0.heap.size+1;exact hk)
 have lv:∀ q,v'.ownBlock=some q->w0.heap.size+2<=q:=fun q hq=>(r1.lt q hq).1
 refine⟨by rw[hF.cell (by omega)];rfl,hF.frozen 1,⟨⟨?_,?_,?_,?_,fun k hk=>?_⟩,by rw[aM];omega,?_,?_,?_,?_,fun q hq hp=>?_⟩⟩
 ·exact r2.os.trans hbl.os
 ·exact r2.tape.trans hbl.tape
 ·exact r2.output.trans hbl.output
 ·rw[aM];omega
 ·rw[ks k (by omega),k2 k (by omega) (fun e=>by have:=lo _ e;omega)];exact hbl.block k hk
 ·rw[ks _ (by omega),k2 _ (by omega) (fun e=>by have:=lo _ e;omega)];exact hblk
 ·refine(hF.set 1 v').congr (fun j hj=>?_)
  match j,hj with
  | 0,_=>rfl
  | 1,_=>rfl
  | 2,_=>rfl
  | 3,_=>rfl
  | 4,_=>rfl
  | 5,_=>rfl
 ·refine ak hrm (fun q hq=>?_)
  have:=hrm.lt q hq;rw[ks q (by omega)];exact k2 q (by omega) (fun e=>hne q hq e)
 ·rw[rR];exact ak r1 (fun q hq=>ks q (by have:=lv q hq;omega))
 have:=(hrm.lt q hq).2;rcases r3 with e|e
 ·rw[e]at hp;exact hne q hq hp
 rw[e]at hp;cases hp;omega
theorem kI(n:Nat)(w:World)(h1:1<=n)(h2:n<=1024) :
  Calls prog 114 #[.int .i64 (n:Nat)] w fun e w'=>∃ g,e=.returned (.pointer (some ⟨g,0,none⟩))/\Below w.heap.size w w'/\
   ∃ mb mc pb pc bb bc kb kc,aU (fun k=>w.heap.size<=k) g mb mc pb pc bb bc w' n 1 (fun i=>i) (fun i=>i) (fun _=>0) (fun _=>0) (fun _=>0) (fun _=>n) kb kc (.slice none 0 0) [] 0:=by
 obtain⟨i0,hi,h,l,m⟩:=info_parts Tryz.zinInt;obtain⟨W,hW⟩ : ∃ W,W=(w.alloc (.cells #[.int .i64 0,.int .i64 0,.int .i64 (n:Nat)] 197)).alloc (.cells #[.slice none 0 0,.slice none 0 0,.slice none 0 0,.slice (some ⟨w.heap.size,0,none⟩) 1 1,.slice none 0 0,.int .i64 0] 191):=⟨_,rfl⟩;have hN:nn w W n 0 (.slice none 0 0) (.slice none 0 0):=by
  rw[hW];refine⟨aI w _ _,by rw[ah,ah];omega,?_,?_,World.ownsRow_nil _ _ _ _,World.ownsRow_nil _ _ _ _,fun q hq=>by cases hq⟩
  ·rw[(ai (w.alloc (.cells #[.int .i64 0,.int .i64 0,.int .i64 (n:Nat)] 197)) _).block _ (by rw[ah];omega)];simp only[World.alloc,Array.getElem?_push_size]
  have:=World.rowIs_alloc (w.alloc (.cells #[.int .i64 0,.int .i64 0,.int .i64 (n:Nat)] 197)) #[.slice none 0 0,.slice none 0 0,.slice none 0 0,.slice (some ⟨w.heap.size,0,none⟩) 1 1,.slice none 0 0,.int .i64 0] 191 (fun j=>[.slice none 0 0,.slice none 0 0,.slice none 0 0,.slice (some ⟨w.heap.size,0,none⟩) 1 1,.slice none 0 0,.int .i64 0].getD j undef) (fun j hj=>by
   match j,hj with
   | 0,_=>rfl
   | 1,_=>rfl
   | 2,_=>rfl
   | 3,_=>rfl
   | 4,_=>rfl
   | 5,_=>rfl)
  rw[ah]at this;exact this
 have HN:=ae hN;have HW:=ae hW;clear hN hW
 go_enter func114,ntmps114
 go_wp2_with fail;rw[<-HW.u];clear HW
 go_loopw [11] (fun iv wr=>∃ (i:Nat) (mv pv:Value),i<=n/\iv=.int .i64 i/\nn w wr n i mv pv) (fun iv _=>n-(intOf iv).toNat)
 case atStart=>exact⟨0,_,_,by omega,rfl,HN.u⟩
 clear HN;obtain⟨i,mv,pv,x,rfl,hP⟩:=hrel
 by_cases hlt:i<n
 ·have o:(i:Int)<(n:Int):=by omega
  have c0:wr.cell? ⟨w.heap.size+1,0,none⟩=some mv:=by rw[hP.box.cell (by omega)];rfl
  have HP:=ae hP;have b:=ae hP.rm;obtain⟨ma,mc,rfl⟩:=aj hP.rm;obtain⟨pa,pc,rfl⟩:=aj hP.rp;clear hP
  go_wp2_with (at_builtin;refine wpList_append_own_at _ rfl _ _ 27 rfl (w.heap.size+2) 3 i0 (.int .i64 0) 1 8 underlying27 hi h l m rfl (by decide) _ _ _ rfl (b.u.alloc _) ⟨wr.heap.size,0,none⟩ 1 1 [.int .i64 (i:Nat)] rfl rfl ?_ ?_ ?_ ?_ ?_ ?_)
  ·exact ef (by simp)
  ·intro u hu;simp at hu;subst hu;rfl
  ·unfold maxLen;omega
  ·omega
  ·have:=HP.u.sz;rw[ah];omega
  intro v' w2 r1 r2 _ r3;have h7:=HP.u.pushM r1 r2 r3;obtain⟨oa,oc,rfl⟩:=aj r1;have x1:=h7.1;have x2:=h7.2.1;have H7:=ae h7.2.2;have x3:=h7.2.2.2.2.2.1.cell (i:=1) (by omega);have c:=ae h7.2.2.2.2.2.2.2.1;have y:=h7.2.2.2.1;simp only[List.getD_cons_succ,List.getD_cons_zero]at x3;clear h7 r1 r2 r3 b HP c0
  go_wp2_with (at_builtin;refine wpList_append_own_at _ rfl _ _ 27 rfl (w.heap.size+2) 3 i0 (.int .i64 0) 1 8 underlying27 hi h l m rfl (by decide) _ _ _ rfl (c.u.alloc _) ⟨(w2.setCell ⟨w.heap.size+1,0,none⟩ (.slice oa (i+1) oc)).heap.size,0,none⟩ 1 1 [.int .i64 (i:Nat)] (by simp only[aM];rfl) rfl ?_ ?_ ?_ ?_ ?_ ?_)
  ·exact ef (dt _ _ _)
  ·intro u hu;simp at hu;subst hu;rfl
  ·unfold maxLen;omega
  ·omega
  ·rw[ah];omega
  intro v2 w3 r1 r2 _ r3;obtain⟨y1,y2,y3,y4,y5,y6,y7⟩:=H7.u;have h8:=nn.pushP y1 y2 y3 y4 y5 y6 y7 r1 r2 (by rw[aM];exact r3);obtain⟨ob,od,rfl⟩:=aj r1;have x4:=h8.1;have x5:=h8.2.1;have H8:=ae h8.2.2;clear h8 r1 r2 r3 c H7 y1 y2 y3 y4 y5 y6 y7 x1 x2 x3;go_wp2
  go_roundw
  case rel=>exact⟨i+1,_,_,by omega,rfl,H8.u⟩
  simp[intOf];omega
 have o:¬ (i:Int)<(n:Int):=by omega
 obtain rfl:i=n:=by omega
 obtain⟨mb,mc,rfl,t,p⟩:=sJ (aO hP.rm (Nat.zero_le _)) (by omega);obtain⟨pb,pc,rfl,z,r⟩:=sJ (aO hP.rp (Nat.zero_le _)) (by omega);have x1:=(hP.box.alloc (.cells (madeCells #[.int .i64 0] i) 3)).cell (i:=2) (by omega);have x2:=(hP.box.alloc (.cells (madeCells #[.int .i64 0] i) 3)).frozen 2;simp only[List.getD_cons_succ,List.getD_cons_zero]at x1;have HP:=ae hP;have b:=ae p;have c:=ae r;clear hP p r;have A:=run_make_row' (P:=prog) 27 3 (.int .i64 0) 8 underlying27 Tryz.zinInt rfl .i64 .i64 i (by omega) (by omega);go_wp2;go_ret;have hb:=HP.u.box.alloc (.cells (madeCells #[.int .i64 0] i) 3);have hz:=HP.u.sz;have hB:=HP.u.bl;have lm:=HP.u.rm.lt mb rfl;have lp:=HP.u.rp.lt pb rfl;have nmp:=HP.u.ne mb rfl;have s:=HP.u.blk;obtain⟨WA,a⟩ : ∃ WA,WA=wr.alloc (.cells (madeCells #[.int .i64 0] i) 3):=⟨_,rfl⟩;have v:dp WA wr.heap.size i (fun _=>0):=by
  rw[a];exact⟨_,_,World.rowIs_made wr _ i _,Nat.le_refl _,fun j hj=>rfl⟩
 have d:∀ k,k<wr.heap.size->WA.heap[k]?=wr.heap[k]? :=fun k hk=>by rw[a];exact(ai wr _).block k hk
 have B:WA.heap.size=wr.heap.size+1:=by rw[a,ah]
 have f:WA.os=wr.os/\WA.tape=wr.tape/\WA.output=wr.output:=by rw[a];exact⟨rfl,rfl,rfl⟩
 rw[<-a]at hb ⊢;have ks:∀ k,k≠w.heap.size+1->(WA.setCell ⟨w.heap.size+1,2,none⟩ (.slice (some ⟨wr.heap.size,0,none⟩) i i)).heap[k]?=WA.heap[k]? :=fun k hk=>Below.heap_setCell _ _ _ _ (by show k≠w.heap.size+1;exact hk)
 refine⟨w.heap.size+1,rfl,⟨f.1.trans hB.os,f.2.1.trans hB.tape,f.2.2.trans hB.output,by rw[aM];omega,fun k hk=>?_⟩,mb,mc,pb,pc,wr.heap.size,i,w.heap.size,1,⟨⟨_,hb.set 2 _,rfl,rfl,rfl,rfl,rfl,rfl⟩,t,b.u.on ?_,c.u.on ?_,v.on ?_,?_,World.ownsRow_nil _ _ _ _,⟨by omega,by omega,by omega,by omega⟩,⟨fun e=>nmp (by rw[e];rfl),by omega,by omega,by omega,by omega,by omega⟩,⟨by omega,by omega,by omega,by omega,by omega⟩,fun q hq=>by cases hq⟩⟩
 ·rw[ks k (by omega),d k (by omega)];exact hB.block k hk
 ·rw[ks _ (by omega),d _ (by omega)]
 ·rw[ks _ (by omega),d _ (by omega)]
 ·rw[ks _ (by omega)]
 refine⟨rfl,Or.inr ⟨_,_,#[.int .i64 0,.int .i64 0,.int .i64 (i:Nat)],rfl,Nat.zero_le _,?_,Nat.le_refl _,by unfold maxLen;omega,rfl,?_⟩⟩
 ·rw[ks _ (by omega),d _ (by omega)];exact s
 simp[bL,bF,List.range_succ]
theorem Tryz.zinBlk:(prog.info? 197).map (fun i=>(i.zero,i.size,i.bytes))=some (some (.agg #[.int .i64 0,.int .i64 0,.int .i64 0]),3,24):=by kernel_rfl
theorem ue{u1 u2 u3 u4 u6 u7 u8 u9 u10 u11 u12 u13 u14 u15 u16 u17 u18 u19 u20 u21 u22 u23 u24 u25 u26 u27 u28 u29 u30 u31 u32 u33 u34 u35 u36 u37 u38 u39 u40 u41 u42 u43 u44 u45 u46 u47 u48 u49 u50 u51 u52 u53 u54 u55 u56 u57 u58 u59 u60 u61 u62 u63 u64 u65 u66 u67 u68 u69 u70 u71 u72 u73 u74 u75 u76 u77 u78 u79 u80 u81 u82 u83 u84 u85 u86 u87 u88 u89 u90 u91 u92 u93 u94 u95 u96 u97 u98 u99 u100 u101 u102 u103 u104 u105:Value}{K:Act->World->Prop}{R:Ending->World->Prop}(w7:World)(g ob kb kc N q1 q2:Nat)(xs:List Value)(hg:g<w7.heap.size)(hN:N<=1024)
  (y3:w7.cell? ⟨g,3,none⟩=some (.slice (some ⟨kb,0,none⟩) N kc))(k0:w7.cell? ⟨ob,0,none⟩=some (.int .i64 (q1:Nat)))(k1:w7.cell? ⟨ob,1,none⟩=some (.int .i64 (q1:Nat)))(k2:w7.cell? ⟨ob,2,none⟩=some (.int .i64 (q2:Nat)))
  (hrk:w7.ownsRow 0 197 3 (.slice (some ⟨kb,0,none⟩) N kc) N xs)
  (hps:∀ (WA w8:World) (gg cap:Nat),w8.ownsRow 0 197 3 (.slice (some ⟨gg,0,none⟩) (N+1) cap) (N+1) (xs++[.int .i64 (q1:Nat),.int .i64 (q1:Nat),.int .i64 (q2:Nat)])->WA.grownBy w8 (some kb)->(some kb=some gg∨gg=w7.heap.size+1)->aH w7 WA (.cells #[.int .i64 (q1:Nat),.int .i64 (q1:Nat),.int .i64 (q2:Nat)] 197)->
   w8.cell? ⟨g,3,none⟩=some (.slice (some ⟨kb,0,none⟩) N kc)/\w8.frozen? ⟨g,3,none⟩=false/\K { tmps:=#[.pointer (some ⟨g,0,none⟩),u1,u2,u3,u4,.pointer (some ⟨ob,0,none⟩),u6,u7,u8,u9,u10,u11,u12,u13,u14,u15,u16,u17,u18,u19,u20,u21,u22,u23,u24,u25,u26,u27,u28,u29,u30,u31,u32,u33,u34,u35,u36,u37,u38,u39,u40,u41,u42,u43,u44,u45,u46,u47,u48,u49,u50,u51,u52,u53,u54,u55,u56,u57,u58,u59,u60,u61,u62,u63,u64,u65,u66,u67,u68,u69,u70,u71,u72,u73,u74,.pointer (some ⟨g,0,none⟩),.pointer (some ⟨g,0,none⟩),.pointer (some ⟨g,0,none⟩),.pointer (some ⟨g,3,none⟩),.slice (some ⟨kb,0,none⟩) N kc,.agg #[.int .i64 (q1:Nat),.int .i64 (q1:Nat),.int .i64 (q2:Nat)],.slice (some ⟨w7.heap.size,0,none⟩) 1 1,.slice (some ⟨gg,0,none⟩) (N+1) cap,.pointer (some ⟨g,0,none⟩),.pointer (some ⟨g,3,none⟩),u85,u86,u87,u88,u89,u90,u91,u92,u93,u94,u95,u96,u97,u98,u99,u100,u101,u102,u103,u104,u105],defers:=[] } (w8.setCell ⟨g,3,none⟩ (.slice (some ⟨gg,0,none⟩) (N+1) cap))) :
  Code.wp prog (Code.region 9 #[{ dst:=some 75,op:=Op.move (Operand.tmp 0),type:=185,pos:= "l2_dfa.go:609",after:=#[],guard:=none },{ dst:=some 76,op:=Op.move (Operand.tmp 0),type:=185,pos:= "l2_dfa.go:609",after:=#[],guard:=none },{ dst:=some 77,op:=Op.nilCheck (Operand.tmp 76),type:=0,pos:= "l2_dfa.go:609",after:=#[{ on:=1,ground:=Ground.data }],guard:=none },{ dst:=some 78,op:=Op.fieldAddr 191 (Operand.tmp 77) 3,type:=0,pos:= "l2_dfa.go:609",after:=#[{ on:=2,ground:=Ground.data }],guard:=none },{ dst:=some 79,op:=Op.load 189 (Operand.tmp 78),type:=189,pos:= "l2_dfa.go:609",after:=#[{ on:=3,ground:=Ground.data }],guard:=none },{ dst:=some 80,op:=Op.load 197 (Operand.tmp 5),type:=197,pos:= "l2_dfa.go:609",after:=#[],guard:=none },{ dst:=some 81,op:=Op.buildSlice 189 1 #[(0,Operand.tmp 80)],type:=189,pos:= "l2_dfa.go:609",after:=#[{ on:=5,ground:=Ground.data }],guard:=none },{ dst:=some 82,op:=Op.call { callee:=Callee.builtin Builtin.append,args:=#[Operand.tmp 79,Operand.tmp 81],argTypes:=#[189,189] },type:=189,pos:= "l2_dfa.go:609",after:=#[{ on:=4,ground:=Ground.data },{ on:=6,ground:=Ground.data }],guard:=none },{ dst:=some 83,op:=Op.nilCheck (Operand.tmp 75),type:=0,pos:= "l2_dfa.go:609",after:=#[{ on:=0,ground:=Ground.data },{ on:=0,ground:=Ground.phase },{ on:=1,ground:=Ground.phase },{ on:=2,ground:=Ground.phase },{ on:=3,ground:=Ground.phase },{ on:=4,ground:=Ground.phase },{ on:=5,ground:=Ground.phase },{ on:=6,ground:=Ground.phase },{ on:=7,ground:=Ground.phase }],guard:=none },{ dst:=some 84,op:=Op.fieldAddr 191 (Operand.tmp 83) 3,type:=0,pos:= "l2_dfa.go:609",after:=#[{ on:=8,ground:=Ground.data },{ on:=0,ground:=Ground.phase },{ on:=1,ground:=Ground.phase },{ on:=2,ground:=Ground.phase },{ on:=3,ground:=Ground.phase },{ on:=4,ground:=Ground.phase },{ on:=5,ground:=Ground.phase },{ on:=6,ground:=Ground.phase },{ on:=7,ground:=Ground.phase }],guard:=none },{ dst:=none,op:=Op.store 189 (Operand.tmp 84) (Operand.tmp 82),type:=0,pos:= "l2_dfa.go:609",after:=#[{ on:=9,ground:=Ground.data },{ on:=7,ground:=Ground.data },{ on:=7,ground:=Ground.chain },{ on:=0,ground:=Ground.phase },{ on:=1,ground:=Ground.phase },{ on:=2,ground:=Ground.phase },{ on:=3,ground:=Ground.phase },{ on:=4,ground:=Ground.phase },{ on:=5,ground:=Ground.phase },{ on:=6,ground:=Ground.phase },{ on:=7,ground:=Ground.phase }],guard:=none }] true) (Exit.then K (bodyPost prog Tryz.f123 R)) { tmps:=#[.pointer (some ⟨g,0,none⟩),u1,u2,u3,u4,.pointer (some ⟨ob,0,none⟩),u6,u7,u8,u9,u10,u11,u12,u13,u14,u15,u16,u17,u18,u19,u20,u21,u22,u23,u24,u25,u26,u27,u28,u29,u30,u31,u32,u33,u34,u35,u36,u37,u38,u39,u40,u41,u42,u43,u44,u45,u46,u47,u48,u49,u50,u51,u52,u53,u54,u55,u56,u57,u58,u59,u60,u61,u62,u63,u64,u65,u66,u67,u68,u69,u70,u71,u72,u73,u74,u75,u76,u77,u78,u79,u80,u81,u82,u83,u84,u85,u86,u87,u88,u89,u90,u91,u92,u93,u94,u95,u96,u97,u98,u99,u100,u101,u102,u103,u104,u105],defers:=[] } w7:=by
 obtain⟨j0,a,b,c,d⟩:=info_parts Tryz.zinBlk;have y3':=(ai w7 (.cells #[.int .i64 (q1:Nat),.int .i64 (q1:Nat),.int .i64 (q2:Nat)] 197)).cell (p:=⟨g,3,none⟩) hg;rw[y3]at y3';have e:=ae hps;have f:=ae hrk;clear hps hrk
 go_region_law (
  (refine step_append_lies _ rfl (.tmp 79) (.tmp 81) 189 rfl 0 197 j0 (.agg #[.int .i64 0,.int .i64 0,.int .i64 0]) 3 24 underlying189 a b c d rfl (by decide) (.slice (some ⟨kb,0,none⟩) N kc) N xs (by first|(simp[Act.eval];done)|(simp[Act.eval,Act.put];done)) (by refine aH.own (w:=w7) (o:=.cells #[.int .i64 (q1:Nat),.int .i64 (q1:Nat),.int .i64 (q2:Nat)] 197) ?_ f.u;exact⟨rfl,rfl,rfl,rfl⟩) ⟨w7.heap.size,0,none⟩ 1 1 [.int .i64 (q1:Nat),.int .i64 (q1:Nat),.int .i64 (q2:Nat)] (by first|(simp[Act.eval];done)|(simp[Act.eval,Act.put];done)) rfl (by refine aH.news (w:=w7) (cs:=#[.int .i64 (q1:Nat),.int .i64 (q1:Nat),.int .i64 (q2:Nat)]) (t:=197) ?_;exact⟨rfl,rfl,rfl,rfl⟩) (by intro u hu;simp only[List.mem_cons,List.not_mem_nil,or_false]at hu;rcases hu with rfl|rfl|rfl<;>rfl) (by decide) (by unfold maxLen;omega) (by omega) (Nat.zero_le _) (w7.heap.size+1) (ah w7 _) (fun gg cap w8 r1 r2 r3 r4=>?_);have h8:=ae (e.u _ w8 gg cap r1 r2 r3 (by exact⟨rfl,rfl,rfl,rfl⟩));obtain⟨c7,z7,-⟩:=h8.u;clear r1 r2 r3 r4))
 all_goals exact h8.u.2.2
theorem EP(fr mk tt:Nat->Nat){j k:Nat}(x:Nat)(h:j≠k*3):bF (bX fr k x) mk tt j=bF fr mk tt j:=by
 unfold bF
 by_cases h1:j%3=0
 ·simp only[h1,if_true];rw[aW _ (by omega)]
 simp only[h1,if_false]
theorem EO(fr mk tt:Nat->Nat){j k:Nat}(x:Nat)(h:j≠k*3+1):bF fr (bX mk k x) tt j=bF fr mk tt j:=by
 unfold bF
 by_cases h1:j%3=1
 ·simp only[h1,if_true];rw[aW _ (by omega)]
 simp only[h1,if_false]
theorem ET(fr mk tt:Nat->Nat){j k:Nat}(x:Nat)(h:j≠k*3+2):bF fr mk (bX tt k x) j=bF fr mk tt j:=by
 unfold bF
 by_cases h1:j%3=0
 ·simp only[h1,if_true]
 by_cases h2:j%3=1
 ·simp only[h2,if_true]
 simp only[h1,h2,if_false];rw[aW _ (by omega)]
theorem Bb(f:Nat->Nat)(k a b:Nat):bX (bX f k a) k b=bX f k b:=by
 funext x
 by_cases h:x=k
 ·subst h;simp[bX]
 simp[bX,h]
section
variable {O:Nat->Prop} {g mb mc pb pc bb bc:Nat} {w:World} {n N:Nat} {ms ps bs fr mk tt:Nat->Nat} {kb kc:Nat} {qv:Value} {qs:List Int} {tk:Nat}
theorem aU.setFr(h:aU O g mb mc pb pc bb bc w n N ms ps bs fr mk tt kb kc qv qs tk){k:Nat}(hk:k<N)(x:Nat):aU O g mb mc pb pc bb bc (w.setCell ⟨kb,k*3,none⟩ (.int .i64 (x:Nat))) n N ms ps bs (bX fr k x) mk tt kb kc qv qs tk:=
 h.setK _ (by omega) (by rw[FP,bI]) (fun j _ hj=>EP _ _ _ _ hj)
theorem aU.setMk(h:aU O g mb mc pb pc bb bc w n N ms ps bs fr mk tt kb kc qv qs tk){k:Nat}(hk:k<N)(x:Nat):aU O g mb mc pb pc bb bc (w.setCell ⟨kb,k*3+1,none⟩ (.int .i64 (x:Nat))) n N ms ps bs fr (bX mk k x) tt kb kc qv qs tk:=
 h.setK _ (by omega) (by rw[FJ,bI]) (fun j _ hj=>EO _ _ _ _ hj)
theorem aU.setTt(h:aU O g mb mc pb pc bb bc w n N ms ps bs fr mk tt kb kc qv qs tk){k:Nat}(hk:k<N)(x:Nat):aU O g mb mc pb pc bb bc (w.setCell ⟨kb,k*3+2,none⟩ (.int .i64 (x:Nat))) n N ms ps bs fr mk (bX tt k x) kb kc qv qs tk:=
 h.setK _ (by omega) (by rw[FW,bI]) (fun j _ hj=>ET _ _ _ _ hj)
theorem aU.fro(h:aU O g mb mc pb pc bb bc w n N ms ps bs fr mk tt kb kc qv qs tk)(j:Nat)(u:Value):aT O w (w.setCell ⟨kb,j,none⟩ u):=(am j u).fro h.oo.2.2.2.2
theorem aU.froB(h:aU O g mb mc pb pc bb bc w n N ms ps bs fr mk tt kb kc qv qs tk)(j:Nat)(u:Value):aT O w (w.setCell ⟨bb,j,none⟩ u):=(am j u).fro h.oo.2.2.2.1
end
def Eb(f m t o1 o2 r1 r2:Nat):Prop:=(o1=f/\o2=m/\r1=m/\r2=t/\m-f<=t-m)∨(o1=m/\o2=t/\r1=f/\r2=m/\t-m<m-f)
structure ri (w w':World) (o1 o2 r1 r2:Nat):Prop where
 off:w'.rowIs w.heap.size 197 3 (fun j=>[Value.int .i64 (o1:Nat),.int .i64 (o1:Nat),.int .i64 (o2:Nat)].getD j undef)
 rest:w'.rowIs (w.heap.size+1) 197 3 (fun j=>[Value.int .i64 (r1:Nat),.int .i64 (r1:Nat),.int .i64 (r2:Nat)].getD j undef)
 bl:Below w.heap.size w w'
 sz:w'.heap.size=w.heap.size+2
theorem ri.drew{w w':World}{o1 o2 r1 r2:Nat}(h:ri w w' o1 o2 r1 r2):ri w w'.drew o1 o2 r1 r2:=⟨h.off.drew,h.rest.drew,h.bl.drew,h.sz⟩
theorem sO(w:World)(a b c:Value)(t:TypeId):(w.alloc (.cells #[a,b,c] t)).rowIs w.heap.size t 3 (fun j=>[a,b,c].getD j undef):=
 World.rowIs_alloc w #[a,b,c] t _ (fun j hj=>by
  match j,hj with
  | 0,_=>rfl
  | 1,_=>rfl
  | 2,_=>rfl)
theorem sD{w:World}{b:Nat}{t:TypeId}{F:Nat->Value}(h:w.rowIs b t 3 F)(x y z:Value):(((w.setCell ⟨b,0,none⟩ x).setCell ⟨b,1,none⟩ y).setCell ⟨b,2,none⟩ z).rowIs b t 3 (fun j=>[x,y,z].getD j undef):=
 (((h.set 0 x).set 1 y).set 2 z).congr (fun j hj=>by
  match j,hj with
  | 0,_=>rfl
  | 1,_=>rfl
  | 2,_=>rfl)
theorem ri.swap{w w':World}{o1 o2 r1 r2:Nat}(h:ri w w' o1 o2 r1 r2):ri w ((((((w'.setCell ⟨w.heap.size,0,none⟩ (.int .i64 (r1:Nat))).setCell ⟨w.heap.size,1,none⟩ (.int .i64 (r1:Nat))).setCell ⟨w.heap.size,2,none⟩ (.int .i64 (r2:Nat))).setCell ⟨w.heap.size+1,0,none⟩ (.int .i64 (o1:Nat))).setCell ⟨w.heap.size+1,1,none⟩ (.int .i64 (o1:Nat))).setCell ⟨w.heap.size+1,2,none⟩ (.int .i64 (o2:Nat))) r1 r2 o1 o2:=by
 obtain⟨A,hA⟩ : ∃ A,A=((w'.setCell ⟨w.heap.size,0,none⟩ (.int .i64 (r1:Nat))).setCell ⟨w.heap.size,1,none⟩ (.int .i64 (r1:Nat))).setCell ⟨w.heap.size,2,none⟩ (.int .i64 (r2:Nat)):=⟨_,rfl⟩;have bA:ce w.heap.size w' A:=by rw[hA];exact((am _ _).trans (am _ _)).trans (am _ _)
 have rA:=sD h.off (.int .i64 (r1:Nat)) (.int .i64 (r1:Nat)) (.int .i64 (r2:Nat));rw[<-hA]at rA ⊢;obtain⟨B,hB⟩ : ∃ B,B=((A.setCell ⟨w.heap.size+1,0,none⟩ (.int .i64 (o1:Nat))).setCell ⟨w.heap.size+1,1,none⟩ (.int .i64 (o1:Nat))).setCell ⟨w.heap.size+1,2,none⟩ (.int .i64 (o2:Nat)):=⟨_,rfl⟩;have bB:ce (w.heap.size+1) A B:=by rw[hB];exact((am _ _).trans (am _ _)).trans (am _ _)
 have rB:=sD (h.rest.of_block (bA.block _ (by omega))) (.int .i64 (o1:Nat)) (.int .i64 (o1:Nat)) (.int .i64 (o2:Nat));rw[<-hB]at rB ⊢;exact⟨rA.of_block (bB.block _ (by omega)),rB,⟨bB.os.trans (bA.os.trans h.bl.os),bB.tape.trans (bA.tape.trans h.bl.tape),bB.output.trans (bA.output.trans h.bl.output),by rw[bB.size,bA.size];exact h.bl.size,fun k hk=>by rw[bB.block k (by omega),bA.block k (by omega)];exact h.bl.block k hk⟩,by rw[bB.size,bA.size];exact h.sz⟩
theorem aU.congrB{O:Nat->Prop}{g mb mc pb pc bb bc:Nat}{w:World}{n N:Nat}{ms ps bs bs' fr mk tt:Nat->Nat}{kb kc:Nat}{qv:Value}{qs:List Int}{tk:Nat}(h:aU O g mb mc pb pc bb bc w n N ms ps bs fr mk tt kb kc qv qs tk)(e:∀ t,t<n->bs t=bs' t):aU O g mb mc pb pc bb bc w n N ms ps bs' fr mk tt kb kc qv qs tk:=
 ⟨h.box,h.cap,h.rm,h.rp,h.rb.congr e,h.rk,h.rq,h.ng,h.ne,h.oo,h.oq⟩
def CL(O:Nat->Prop)(g mb mc pb pc bb bc:Nat)(w:World)(n N:Nat)(ms ps bs fr mk tt:Nat->Nat)(qs:List Int)(tk k:Nat):Prop:=
 (∃ kb kc qv,(mk k=fr k∨mk k=tt k)/\aU O g mb mc pb pc bb bc w n N ms ps bs fr (bX mk k (fr k)) tt kb kc qv qs tk) ∨
 (∃ kb kc qv o1 o2 r1 r2,fr k<mk k/\mk k<tt k/\Eb (fr k) (mk k) (tt k) o1 o2 r1 r2/\aU O g mb mc pb pc bb bc w n (N+1) ms ps (fun t=>if o1<=ps t/\ps t<o2 then N else bs t) (bX (bX fr k r1) N o1) (bX (bX mk k r1) N o1) (bX (bX tt k r2) N o2) kb kc qv (qs++[(N:Int)]) tk)
theorem jq(g mb mo bb bo n N c1 c2:Nat)(k fr mk tt:Nat)(w:World)(hk:k<N)(h1:fr<tt)(h2:tt<=n)(h3:n<=c1)(hg:g<w.heap.size)
  (f0:w.cell? ⟨g,0,none⟩=some (.slice (some ⟨mb,mo,none⟩) n c1))(f3:w.cell? ⟨g,3,none⟩=some (.slice (some ⟨bb,bo,none⟩) N c2))
  (b0:w.cell? ⟨bb,bo+k*3,none⟩=some (.int .i64 fr))(b1:w.cell? ⟨bb,bo+k*3+1,none⟩=some (.int .i64 mk))(b2:w.cell? ⟨bb,bo+k*3+2,none⟩=some (.int .i64 tt)) :
  Calls prog 117 #[.pointer (some ⟨g,0,none⟩),.int .i64 k] w fun e w'=>e=.returned (.slice (some ⟨mb,mo+fr,none⟩) (tt-fr) (c1-fr))/\Below w.heap.size w w':=by
 have a:(k:Int)<(N:Int):=by omega
 have q1:(fr:Int)<=(tt:Int):=by omega
 have q2:(tt:Int)<=(c1:Int):=by omega
 have q3:¬ c1=fr:=by omega
 go_enter func117,ntmps117
 go_wp2_with fail;have u0:(w.alloc (.cells #[.int .i64 fr,.int .i64 mk,.int .i64 tt] 197)).cell? ⟨g,0,none⟩=some (.slice (some ⟨mb,mo,none⟩) n c1):=by rw[(ai w _).cell (p:=⟨g,0,none⟩) hg];exact f0
 go_quiet (fail);go_wp2;go_ret;exact⟨rfl,below_drewN (ai w _) _⟩
end Go.Proofs.YtidfkbghlkcbeaaGreatDoor
