import Derived.Test.YtidfkbghlkcbeaaGreatDoorPk28
namespace Go.Proofs.YtidfkbghlkcbeaaGreatDoor
open Go.RowKit Go.Proofs.Tryz
set_option maxHeartbeats 16000000
set_option maxRecDepth 100000
theorem Dq{A:Tb}{pv:Nat->Int}{b b':Nat}(h:∀ q,q<A.n->pv q=(q:Int)->pv (A.nx q (A.cl b))=pv (A.nx q (A.cl b'))):my A pv b=my A pv b':=by
 funext q
 simp only[my]
 split
 ·rename_i hq;exact h q hq.1 hq.2
 rfl
theorem Af{A:Tb}{pv:Nat->Int}{b b' q:Nat}(hq:q<A.n)(h1:pv q=(q:Int))(h:pv (A.nx q (A.cl b))≠pv (A.nx q (A.cl b'))):my A pv b≠my A pv b':=fun e=>by
 have:=congrFun e q;simp only[my,hq,h1,and_self,if_true]at this;exact h this
theorem pZ{k n:Nat}{f:Nat->Nat->Nat}{s0:Nat}{o ys:List Nat}(h:eM k f s0 o ys)(ho:∀ x∈o,x<n):o.length<=n:=by
 refine bT n o ?_ ho;rw[List.nodup_iff_pairwise_ne,List.pairwise_iff_getElem];intro i j hi hj a e;have:=h.nd i j hi hj (by rw[List.getElem?_eq_getElem hi,List.getElem?_eq_getElem hj,e]);omega
theorem nH(A:Tb)(n k:Nat)(xb xo xc b off cN ab ao ca:Nat)(w:World)(hAn:A.n=n)(hAk:A.k=k)(hw:A.Wf)(hf:A.Full)(hn:n<=1024)(hk:1<=k/\k<=256)(hb:b<w.heap.size)(hx:kw w b off n k A.nx)
  (hxb:xb<w.heap.size)(hcl:∀ q,q<256->w.cell? ⟨xb,xo+q,none⟩=some (.int .i64 (A.cl q:Nat)))(hab:ab<w.heap.size)(hac:∀ q,q<n->w.cell? ⟨ab,ao+q,none⟩=some (.bool (A.ac q))) :
  Calls prog 21 #[.agg #[.slice (some ⟨xb,xo,none⟩) 256 xc,.int .i64 (k:Nat),.slice (some ⟨b,off,none⟩) (n*k) cN,.slice (some ⟨ab,ao,none⟩) n ca]] w fun e w'=>∃ (xv nv av:Value) (kk:Nat),e=.returned (.agg #[xv,.int .i64 (kk:Nat),nv,av])/\Below w.heap.size w w'/\
   ∃ (P cls rep:Nat->Nat) (o ys:List Nat),dD A P kk cls rep o ys/\o.length<=1024/\kk<=256/\w'.ownsRow w.heap.size 3 1 xv 256 ((gW (bg kk cls A.ac o ys)).map mI)/\w'.ownsRow w.heap.size 3 1 nv (o.length*kk) ((gT (bg kk cls A.ac o ys)).map mI)/\w'.ownsRow w.heap.size 4 1 av o.length ((iO (bg kk cls A.ac o ys)).map mT):=by
 have gh:1<=n:=by rw[<-hAn];exact hw.pos
 have la:n*k<=1024*256:=Nat.mul_le_mul hn hk.2;obtain⟨W2,c4⟩ : ∃ W2,W2=(w.alloc (.cells #[.slice (some ⟨xb,xo,none⟩) 256 xc,.int .i64 (k:Nat),.slice (some ⟨b,off,none⟩) (n*k) cN,.slice (some ⟨ab,ao,none⟩) n ca] 30)).alloc (.cells #[.slice none 0 0,.int .i64 0,.slice none 0 0,.slice none 0 0] 30):=⟨_,rfl⟩;have d1:Below w.heap.size w W2:=by rw[c4];exact aI w _ _
 have m7:W2.heap.size=w.heap.size+2:=by rw[c4,ah,ah]
 have eq:aC W2 w.heap.size 30 (.slice (some ⟨xb,xo,none⟩) 256 xc) (.int .i64 (k:Nat)) (.slice (some ⟨b,off,none⟩) (n*k) cN) (.slice (some ⟨ab,ao,none⟩) n ca):=by rw[c4];exact(aC.new w _ _ _ _ _).alloc _
 have i5:aC W2 (w.heap.size+1) 30 (.slice none 0 0) (.int .i64 0) (.slice none 0 0) (.slice none 0 0):=by
  have:=aC.new (w.alloc (.cells #[.slice (some ⟨xb,xo,none⟩) 256 xc,.int .i64 (k:Nat),.slice (some ⟨b,off,none⟩) (n*k) cN,.slice (some ⟨ab,ao,none⟩) n ca] 30)) 30 (.slice none 0 0) (.int .i64 0) (.slice none 0 0) (.slice none 0 0);rw[ah]at this;rw[c4];exact this
 have gl:kw W2 b off n k A.nx:=fun q c hq hc=>⟨(hx q c hq hc).1,by rw[d1.cell (p:=⟨b,off+(q*k+c),none⟩) hb];exact(hx q c hq hc).2⟩
 have d2:∀ q,q<n->W2.cell? ⟨ab,ao+q,none⟩=some (.bool (A.ac q)):=fun q hq=>by rw[d1.cell (p:=⟨ab,ao+q,none⟩) hab];exact hac q hq
 have fb:∀ q,q<256->W2.cell? ⟨xb,xo+q,none⟩=some (.int .i64 (A.cl q:Nat)):=fun q hq=>by rw[d1.cell (p:=⟨xb,xo+q,none⟩) hxb];exact hcl q hq
 have gm:=ae (qt A n k (.slice (some ⟨xb,xo,none⟩) 256 xc) b off cN ab ao ca W2 hAn hAk hw hf hn hk (by omega) gl (by omega) d2);obtain⟨L,hL⟩ : ∃ L,L=n*k:=⟨_,rfl⟩;rw[<-hL]at la c4 eq ⊢;rw[<-hL]at gm;obtain⟨f0,f1,f2,f3,-⟩:=eq.facts;have HL:=ae hL;have go:=ae gl;have i6:=ae d2;have i7:=ae fb;have b0:=ae hAn;have lb:=ae hAk;have HW:=ae hw;have HF:=ae hf;have i8:=ae c4;have i9:=ae d1;have ih:=ae eq;have ip:=ae i5;clear hL hx hAn hAk hw hf hac hcl gl d2 fb c4 d1 eq i5
 go_enter func21,ntmps21
 go_wp2_with fail;rw[<-i8.u];refine gm.u.mono ?_;rintro e w3 ⟨pb,rfl,b5,mk,pv,r,gp,hr,iq,it⟩;have mm:=b5.size;have m8:=gp.lt;have fc:FG A n k xb xo xc b off L cN ab ao ca w.heap.size pb pv w3:=⟨ih.u.below b5 (by omega),gp,fun q c hq hc=>⟨(go.u q c hq hc).1,by rw[b5.cell (p:=⟨b,off+(q*k+c),none⟩) (by show b<W2.heap.size;omega)];exact(go.u q c hq hc).2⟩,fun q hq=>by rw[b5.cell (p:=⟨xb,xo+q,none⟩) (by show xb<W2.heap.size;omega)];exact i7.u q hq,fun q hq=>by rw[b5.cell (p:=⟨ab,ao+q,none⟩) (by show ab<W2.heap.size;omega)];exact i6.u q hq⟩;have iu:=ip.u.below b5 (by omega);have fd:Below w.heap.size w w3:=i9.u.trans (b5.mono (by omega));have ff:∀ q,q<256->A.cl q<k:=fun q hq=>by rw[<-lb.u];exact HW.u.cls q hq
 have iw:=ae fc;have lc:=ae iu;have j0:=ae fd;have HR:=ae hr;have ct:=ae iq;have d3:=ae it;have d4:=ae ff;clear fc iu fd hr iq it b5 gp gm go i6 i7 i8 i9 ih ip f0 f1 f2 f3 ff
 go_wp2_with fail
 go_loopw [4,5,6] (fun cv rv bv wr=>∃ (i:Nat) (ns fs:List Nat),i<=256/\bv=.int .i64 (i:Nat)/\ns.length=i/\fs.length<=i/\wr.ownsRow w3.heap.size 3 1 cv ns.length (ns.map mN)/\wr.ownsRow w3.heap.size 3 1 rv fs.length (fs.map mN)/\Ap cv rv/\Below w3.heap.size w3 wr/\ft (my A pv) (fs.map (my A pv)) ns fs/\∀ x∈fs,x<256) (fun _ _ bv _=>256-(intOf bv).toNat)
 case atStart=>exact⟨0,[],[],by omega,rfl,rfl,by simp,World.ownsRow_nil _ _ _ _,World.ownsRow_nil _ _ _ _,(fun q hq=>by cases hq),Below.refl _ _,ft.nil _,fun x hx=>by cases hx⟩
 obtain⟨i,ns,fs,hi,rfl,j1,le,gs,h0,j2,hB,hN,fg⟩:=hrel;obtain⟨w4,rfl⟩ : ∃ w4,w4=wr:=⟨_,rfl⟩;have mn:=hB.size;have fh:=iw.u.keep hB (by omega) (by omega) (by omega) (by omega) (by omega);obtain⟨oa,oc,rfl⟩:=aj gs;obtain⟨ra,rc,rfl⟩:=aj h0;have cr:=ae fh;have cw:=ae gs;have b6:=ae h0;have cx:=ae j2;have er:=ae hB;have HN:=ae hN;have b7:=ae fg;have a0:=ae j1;have mo:ns.length<=256:=by omega
 clear fh gs h0 j2 hB hN fg j1
 by_cases hlt:i<256
 ·have j3:(i:Int)<256:=by omega
  go_wp2_with fail
  go_loopw [7,8] (fun fv kv wx=>∃ j:Nat,j<=fs.length/\kv=.int .i64 (j:Nat)/\ce w4.heap.size w4 wx/\((fv=.int .i64 (-1)/\∀ j' y,j'<j->fs[j']?=some y->my A pv y≠my A pv i)∨∃ m:Nat,fv=.int .i64 (m:Nat)/\(fs.map (my A pv))[m]?=some (my A pv i))) (fun _ kv _=>fs.length-(intOf kv).toNat)
  case atStart=>exact⟨0,by omega,rfl,ce.refl _ _,.inl ⟨rfl,fun j' y hj'=>by omega⟩⟩
  obtain⟨j,hj,rfl,hO,lg⟩:=hrel;obtain⟨w5,rfl⟩ : ∃ w5,w5=wr:=⟨_,rfl⟩;have j4:=Nat.le_of_eq hO.size.symm;rcases lg with ⟨rfl,K⟩|⟨m,rfl,hm⟩
  ·by_cases hjl:j<fs.length
   ·have b8:(j:Int)<(fs.length:Int):=by omega
    obtain⟨y,hy⟩ : ∃ y,fs[j]?=some y:=⟨_,List.getElem?_eq_getElem hjl⟩;have B:=b7.u y (List.mem_of_getElem? hy);obtain⟨cy,b9⟩ : ∃ cy,cy=A.cl y:=⟨_,rfl⟩;obtain⟨ci,h4⟩ : ∃ ci,ci=A.cl i:=⟨_,rfl⟩;have bb:cy<k:=by rw[b9];exact d4.u y B
    have fi:ci<k:=by rw[h4];exact d4.u i hlt
    have es:=ae K;have HO:=ae hO;have HY:=ae hy;have et:=ae b9;have ev:=ae h4;clear K hO hy b9 h4
    go_wp2_with fail
    go_loopw [9,10] (fun sv qv wx=>∃ (q:Nat) (sm:Bool),q<=n/\qv=.int .i64 (q:Nat)/\sv=.bool sm/\ce w4.heap.size w4 wx/\(sm=true->∀ q',q'<q->pv q'=(q':Int)->pv (A.nx q' ci)=pv (A.nx q' cy))/\(sm=false->∃ q',q'<n/\pv q'=(q':Int)/\pv (A.nx q' ci)≠pv (A.nx q' cy))) (fun _ qv _=>n-(intOf qv).toNat)
    case atStart=>exact⟨0,true,by omega,rfl,rfl,HO.u,fun _ q' hq'=>by omega,fun h=>by cases h⟩
    obtain⟨q,sm,hq,rfl,rfl,N,c5,d5⟩:=hrel;obtain⟨w6,rfl⟩ : ∃ w6,w6=wr:=⟨_,rfl⟩;clear HO;have j5:=Nat.le_of_eq N.size.symm;cases sm
    ·have HO:=ae N;have j6:=ae (d5 rfl);clear N c5 d5
     by_cases hql:q<n
     ·have d6:(q:Int)<(n:Int):=by omega
      go_wp2_with fail
      go_roundw
      case rel=>exact⟨j+1,by omega,by go_num,HO.u,.inl ⟨rfl,fun j' y' hj' hy'=>(by
       by_cases e:j'=j
       ·subst e;have h5:=HY.u.symm.trans hy';cases h5;obtain⟨q',h1,h2,h3⟩:=j6.u;exact fun hh=>Af (by rw[b0.u];exact h1) h2 (by rw[<-ev.u,<-et.u];exact h3) hh.symm
       exact es.u j' y' (by omega) hy')⟩⟩
      simp[intOf];omega
     have d6:¬ (q:Int)<(n:Int):=by omega
     go_wp2_with fail
     go_roundw
     case rel=>exact⟨j+1,by omega,by go_num,HO.u,.inl ⟨rfl,fun j' y' hj' hy'=>(by
      by_cases e:j'=j
      ·subst e;have h5:=HY.u.symm.trans hy';cases h5;obtain⟨q',h1,h2,h3⟩:=j6.u;exact fun hh=>Af (by rw[b0.u];exact h1) h2 (by rw[<-ev.u,<-et.u];exact h3) hh.symm
      exact es.u j' y' (by omega) hy')⟩⟩
     simp[intOf];omega
    by_cases hql:q<n
    ·have d6:(q:Int)<(n:Int):=by omega
     have C:=cr.u.keep N.blw (by omega) (by omega) (by omega) (by omega) (by omega);obtain⟨f0,f1,f2,f3,-⟩:=C.d.facts;have y0:=C.p.cell (i:=q) hql;obtain⟨xq,d7⟩ : ∃ xq,xq=pv q:=⟨_,rfl⟩;rw[<-d7]at y0
     by_cases hself:xq=(q:Int)
     ·have cs:=hself;rw[hself]at y0;have y1:=C.c i hlt;have y2:=C.c y B;rw[<-ev.u]at y1;rw[<-et.u]at y2;have f:=(eu (ak b6.u (fun g hg=>N.block g (by have:=(b6.u.lt g hg).2;omega))) (by omega));obtain⟨rg,rcap,e9,f⟩:=f;have y3:w6.cell? ⟨rg,j,none⟩=some (.int .i64 (y:Nat)):=by rw[f j hjl,List.getElem?_map,HY.u];rfl
      obtain⟨v1,v2⟩:=C.x q ci hql fi;obtain⟨u1,u2⟩:=C.x q cy hql bb;have bc:q*k+ci<L:=by rw[HL.u];exact cO hql fi
      have fj:q*k+cy<L:=by rw[HL.u];exact cO hql bb
      obtain⟨m,t,a1,ht,lk,a2,a3,a4⟩:=cP (by omega) bc;obtain⟨m',t',b1,j7,ma,b2,b3,b4⟩:=cP (by omega) fj;obtain⟨np,al⟩ : ∃ y,y=A.nx q ci:=⟨_,rfl⟩;obtain⟨nq',ex⟩ : ∃ y,y=A.nx q cy:=⟨_,rfl⟩;rw[<-ht,<-al]at v2;rw[<-j7,<-ex]at u2;rw[<-al]at v1;rw[<-ex]at u1;have y4:=C.p.cell (i:=np) v1;have y5:=C.p.cell (i:=nq') u1;obtain⟨xv,ey⟩ : ∃ xv,xv=pv np:=⟨_,rfl⟩;obtain⟨yv,f4⟩ : ∃ yv,yv=pv nq':=⟨_,rfl⟩;rw[<-ey]at y4;rw[<-f4]at y5;have v1':(np:Int)<(n:Int):=by omega
      have u1':(nq':Int)<(n:Int):=by omega
      rw[al]at ey;rw[ex]at f4;have em:m'=m:=Int.ofNat.inj (b1.symm.trans a1);subst em;have d8:ra=some ⟨rg,0,none⟩/\rc=rcap:=by simpa using e9
      obtain⟨rfl,rfl⟩:=d8;have j8:=ae ey;have j9:=ae f4;have HO:=ae N;have h6:=ae (c5 rfl);have h7:=ae d7;have h8:=ae cs;clear N c5 d5 C ey f4 al ex ht j7 bc fj f e9 d7 hself cs b1 b2
      by_cases he:xv=yv
      ·go_wp2_with fail
       go_quiet (fail)
       go_wp2_with fail
       go_quiet (fail)
       go_wp2_with fail
       go_roundw
       case rel=>exact⟨q+1,true,by omega,by go_num,rfl,HO.u.drewN _,fun _ q' hq' hp'=>(by
        by_cases e:q'=q
        ·subst e;rw[<-j8.u,<-j9.u];exact he
        exact h6.u q' (by omega) hp'),fun h=>by cases h⟩
       simp[intOf];omega
      go_wp2_with fail
      go_quiet (fail)
      go_wp2_with fail
      go_quiet (fail)
      go_wp2_with fail
      go_roundw
      case rel=>exact⟨q+1,false,by omega,by go_num,by rw[beq_eq_false_iff_ne.mpr he],HO.u.drewN _,(fun h=>by cases h),fun _=>⟨q,hql,h7.u.symm.trans h8.u,by rw[<-j8.u,<-j9.u];exact he⟩⟩
      simp[intOf];omega
     have HO:=ae N;have h6:=ae (c5 rfl);have h7:=ae d7;clear N c5 d5 C d7
     go_wp2_with fail
     go_roundw
     case rel=>exact⟨q+1,true,by omega,by go_num,rfl,HO.u,fun _ q' hq' hp'=>(by
      by_cases e:q'=q
      ·subst e;exact absurd (h7.u.trans hp') hself
      exact h6.u q' (by omega) hp'),fun h=>by cases h⟩
     simp[intOf];omega
    have d6:¬ (q:Int)<(n:Int):=by omega
    obtain rfl:q=n:=by omega
    have k0:my A pv i=my A pv y:=Dq (by rw[b0.u,<-ev.u,<-et.u];exact c5 rfl);have ll:=ae k0;have HO:=ae N;clear N c5 d5 k0
    go_wp2_with fail
    go_roundw
    case rel=>exact⟨j+1,by omega,by go_num,HO.u,.inr ⟨j,rfl,by rw[List.getElem?_map,HY.u,ll.u];rfl⟩⟩
    simp[intOf];omega
   have b8:¬ (j:Int)<(fs.length:Int):=by omega
   obtain rfl:j=fs.length:=by omega
   have bd:=ak b6.u (fun g hg=>hO.block g (by have:=(b6.u.lt g hg).2;omega));have be:=ak cw.u (fun g hg=>hO.block g (by have:=(cw.u.lt g hg).2;omega));have bf:Below w3.heap.size w3 w5:=er.u.trans (hO.blw.mono (by omega));have d9:ft (my A pv) ((fs++[i]).map (my A pv)) (ns++[fs.length]) (fs++[i]):=by
    have:=HN.u.new (fun j' hj' e=>by
     rw[List.getElem?_map]at e;obtain⟨y,hy,k4⟩:=Option.map_eq_some_iff.1 e;rw[a0.u]at k4;exact K j' y (by rw[List.length_map]at hj';exact hj') hy k4)
    rw[a0.u,List.length_map]at this;rw[List.map_append];exact this
   have E:=ae bd;have F:=ae be;have bl:=ae bf;have bn:=ae d9;clear bd be bf d9 K hO
   go_wp2_with (at_builtin;refine dz rfl _ _ rfl w3.heap.size (.slice ra fs.length rc) rfl i rfl fs E.u ?_ ?_ ?_)
   ·omega
   ·omega
   intro rv6 w6 r1 r2 r3;have bo:=r2.own F.u cx.u;have fk:=cx.u.grow F.u r3;have ha:Below w3.heap.size w3 w6:=bl.u.trans (r2.belowG E.u lR (by omega));have j5:=ha.size;obtain⟨fs2,bp⟩ : ∃ fs2,fs2=fs++[i]:=⟨_,rfl⟩;have k5:fs2.length<=i+1:=by rw[bp];simp;omega
   have r1:w6.ownsRow w3.heap.size 3 1 rv6 fs2.length (fs2.map mN):=by rw[bp,List.length_append,List.map_append];exact r1
   rw[<-bp]at bn;have db:∀ x∈fs2,x<256:=fun x hx=>by
    rw[bp,List.mem_append,List.mem_singleton]at hx;rcases hx with hx|hx
    ·exact b7.u x hx
    omega
   obtain⟨ra2,rc2,rfl⟩:=aj r1;have df:=ae r1;have af:=ae bo;have fl:=ae fk;have c6:=ae ha;have hd:=ae db;clear r1 r2 r3 bo fk ha bp db E F bl
   go_wp2_with (at_builtin;refine dz rfl _ _ rfl w3.heap.size (.slice oa ns.length oc) rfl fs.length rfl ns af.u ?_ ?_ ?_)
   ·omega
   ·omega
   intro cv7 w7 r1 r2 r3;have G:=r2.own df.u fl.u.symm;have H:=(fl.u.symm.grow df.u r3).symm;have O:Below w3.heap.size w3 w7:=c6.u.trans (r2.belowG af.u lR (by omega));obtain⟨ns2,l⟩ : ∃ ns2,ns2=ns++[fs.length]:=⟨_,rfl⟩;have I:ns2.length=i+1:=by rw[l,<-a0.u];simp
   have r1:w7.ownsRow w3.heap.size 3 1 cv7 ns2.length (ns2.map mN):=by rw[l,List.length_append,List.map_append];exact r1
   rw[<-l]at bn;have bq:=ae r1;have br:=ae G;have bs:=ae H;have bt:=ae O;have bx:=ae I;clear r1 r2 r3 G H O l I af df;go_wp2
   go_roundw
   case rel=>exact⟨i+1,ns2,fs2,by omega,by go_num,bx.u,k5,bq.u,br.u,bs.u,bt.u,bn.u,hd.u⟩
   simp[intOf];omega
  have bd:=ak b6.u (fun g hg=>hO.block g (by have:=(b6.u.lt g hg).2;omega));have be:=ak cw.u (fun g hg=>hO.block g (by have:=(cw.u.lt g hg).2;omega));have bf:Below w3.heap.size w3 w5:=er.u.trans (hO.blw.mono (by omega));have d9:ft (my A pv) (fs.map (my A pv)) (ns++[m]) fs:=HN.u.old (by rw[a0.u];exact hm);have E:=ae bd;have F:=ae be;have bl:=ae bf;have bn:=ae d9;have lm:¬ (m:Int)<0:=by omega
  clear bd be bf d9 hm hO
  by_cases hjl:j<fs.length
  ·have b8:(j:Int)<(fs.length:Int):=by omega
   go_wp2_with (at_builtin;refine dz rfl _ _ rfl w3.heap.size (.slice oa ns.length oc) rfl m rfl ns F.u ?_ ?_ ?_)
   ·omega
   ·omega
   intro cv7 w7 r1 r2 r3;have G:=r2.own E.u cx.u.symm;have H:=(cx.u.symm.grow E.u r3).symm;have O:Below w3.heap.size w3 w7:=bl.u.trans (r2.belowG F.u lR (by omega));obtain⟨ns2,l⟩ : ∃ ns2,ns2=ns++[m]:=⟨_,rfl⟩;have I:ns2.length=i+1:=by rw[l,<-a0.u];simp
   have r1:w7.ownsRow w3.heap.size 3 1 cv7 ns2.length (ns2.map mN):=by rw[l,List.length_append,List.map_append];exact r1
   rw[<-l]at bn;have bq:=ae r1;have br:=ae G;have bs:=ae H;have bt:=ae O;have bx:=ae I;clear r1 r2 r3 G H O l I;go_wp2
   go_roundw
   case rel=>exact⟨i+1,ns2,fs,by omega,by go_num,bx.u,by omega,bq.u,br.u,bs.u,bt.u,bn.u,b7.u⟩
   simp[intOf];omega
  have b8:¬ (j:Int)<(fs.length:Int):=by omega
  go_wp2_with (at_builtin;refine dz rfl _ _ rfl w3.heap.size (.slice oa ns.length oc) rfl m rfl ns F.u ?_ ?_ ?_)
  ·omega
  ·omega
  intro cv7 w7 r1 r2 r3;have G:=r2.own E.u cx.u.symm;have H:=(cx.u.symm.grow E.u r3).symm;have O:Below w3.heap.size w3 w7:=bl.u.trans (r2.belowG F.u lR (by omega));obtain⟨ns2,l⟩ : ∃ ns2,ns2=ns++[m]:=⟨_,rfl⟩;have I:ns2.length=i+1:=by rw[l,<-a0.u];simp
  have r1:w7.ownsRow w3.heap.size 3 1 cv7 ns2.length (ns2.map mN):=by rw[l,List.length_append,List.map_append];exact r1
  rw[<-l]at bn;have bq:=ae r1;have br:=ae G;have bs:=ae H;have bt:=ae O;have bx:=ae I;clear r1 r2 r3 G H O l I;go_wp2
  go_roundw
  case rel=>exact⟨i+1,ns2,fs,by omega,by go_num,bx.u,by omega,bq.u,br.u,bs.u,bt.u,bn.u,b7.u⟩
  simp[intOf];omega
 have j3:¬ (i:Int)<256:=by omega
 obtain rfl:i=256:=by omega
 have ln:=HN.u;have k6:r 0=true:=(HR.u 0 gh).2 (Tb.Rch.zero A);obtain⟨p0,f5⟩ : ∃ p0,p0=(pv 0).toNat:=⟨_,rfl⟩;have fo:pv 0=(p0:Int):=by rw[f5];exact ct.u.nat gh k6
 have C:=cr.u;have y0:=C.p.cell (i:=0) gh;rw[fo]at y0;have mp:(0:Int)<(n:Int):=by omega
 have k7:∀ x y:Nat,x<n->pv x=(x:Int)->y<256->∃ tg:Nat,pv (A.stp x y)=(tg:Int)/\(pv (A.stp x y)).toNat=tg/\tg<n/\pv tg=(tg:Int):=fun x y hx hs hy=>by
  have lo:A.Rch x:=(HR.u x hx).1 ((ct.u.self hx).1 hs).1;have f6:=lo.stp hy;have hl:A.stp x y<n:=by rw[<-b0.u];exact f6.lt HW.u
  have h1:=ct.u.nat hl ((HR.u _ hl).2 f6);have h2:=d3.u.rch _ f6;have h3:(pv (A.stp x y)).toNat<n:=by rw[<-b0.u];exact h2.lt HW.u
  exact⟨_,h1,rfl,h3,(ct.u.self h3).2 ⟨(HR.u _ h3).2 h2,d3.u.idem f6⟩⟩
 have fp:p0<n/\pv p0=(p0:Int):=by
  have h2:=d3.u.rch 0 (Tb.Rch.zero A);have h3:(pv 0).toNat<n:=by rw[<-b0.u];exact h2.lt HW.u
  rw[f5];exact⟨h3,(ct.u.self h3).2 ⟨(HR.u _ h3).2 h2,d3.u.idem (Tb.Rch.zero A)⟩⟩
 obtain⟨w5,ds⟩ : ∃ w5,w5=w4.alloc (.cells #[.int .i64 (p0:Nat)] 3):=⟨_,rfl⟩;have j4:w4.heap.size+1<=w5.heap.size:=by rw[ds,ah];omega
 have bf:Below w4.heap.size w4 w5:=by rw[ds];exact ai w4 _
 have k8:w5.ownsRow w4.heap.size 3 1 (.slice (some ⟨w4.heap.size,0,none⟩) 1 1) [p0].length ([p0].map mN):=by
  refine⟨rfl,.inr ⟨_,1,#[.int .i64 (p0:Nat)],rfl,Nat.le_refl _,?_,Nat.le_refl _,by unfold maxLen;omega,rfl,rfl⟩⟩;rw[ds];exact(MapKept.heap_alloc _ _).1
 obtain⟨fn,k9⟩ : ∃ fn:Nat->Nat->Nat,fn=fun q e=>(pv (A.stp q (fs[e]?.getD 0))).toNat:=⟨_,rfl⟩
 have kb:=ae k9;have lp:=ae k7;have lr:=ae f5;have kc:=ae fp;have kd:=ae ds;have bl:=ae bf;have kf:=ae k8;have f7:=le;clear k7 f5 fp ds bf k8 C ln fo k6 k9
 go_wp2_with fail;rw[<-kd.u];clear kd y0
 go_loopw [13,14,15,16] (fun ov nv av iv wr=>∃ (i:Nat) (o ys:List Nat) (zs:List Bool),i<=o.length/\iv=.int .i64 (i:Nat)/\wr.ownsRow w4.heap.size 3 1 ov o.length (o.map mN)/\wr.ownsRow w4.heap.size 3 1 nv ys.length (ys.map mN)/\wr.ownsRow w4.heap.size 4 1 av zs.length (zs.map mT)/\Ap ov nv/\Ap ov av/\Ap nv av/\Below w4.heap.size w4 wr/\eM fs.length fn p0 o ys/\ys.length=i*fs.length/\zs=(o.take i).map A.ac/\∀ x∈o,x<n/\pv x=(x:Int)) (fun _ _ _ iv _=>n-(intOf iv).toNat)
 case atStart=>exact⟨0,[p0],[],[],by simp,rfl,kf.u,World.ownsRow_nil _ _ _ _,World.ownsRow_nil _ _ _ _,(fun q _ h=>by cases h),(fun q _ h=>by cases h),(fun q h=>by cases h),bl.u,eM.start _ _ _,by simp,by simp,fun x hx=>by rw[List.mem_singleton]at hx;rw[hx];exact kc.u⟩
 clear kf bl j4;obtain⟨i,o,ys,zs,hi,rfl,s,M,Q,a5,D,a6,hB,an,a7,ho,ap⟩:=hrel;obtain⟨w6,rfl⟩ : ∃ w6,w6=wr:=⟨_,rfl⟩;have j5:=hB.size;have f8:=pZ an (fun x hx=>(ap x hx).1);have kl:ys.length<=1024*256:=by rw[a7];exact Nat.mul_le_mul (Nat.le_trans hi (Nat.le_trans f8 hn)) f7
 have ls:zs.length<=1024:=by rw[ho];simp;omega
 obtain⟨oa1,oc1,rfl⟩:=aj s;obtain⟨na1,nc1,rfl⟩:=aj M;obtain⟨aa1,ac1,rfl⟩:=aj Q;have fr:=cr.u.keep hB (by omega) (by omega) (by omega) (by omega) (by omega);have aq:=ae s;have a8:=ae M;have a9:=ae Q;have ar:=ae a5;have aw:=ae D;have aa:=ae a6;have c6:=ae hB;have bz:=ae an;have ad:=ae a7;have hp:=ae ho;have c0:=ae ap;have e0:=ae fr;clear s M Q a5 D a6 hB an a7 ho ap fr
 by_cases hlt2:i<o.length
 ·have e1:(i:Int)<(o.length:Int):=by omega
  obtain⟨x,hx⟩ : ∃ x,o[i]?=some x:=⟨_,List.getElem?_eq_getElem hlt2⟩;obtain⟨f9,kn⟩:=c0.u x (List.mem_of_getElem? hx);obtain⟨og,ocap,e9,f⟩:=eu aq.u (by omega);have e2:oa1=some ⟨og,0,none⟩/\oc1=ocap:=by simpa using e9
  obtain⟨rfl,rfl⟩:=e2;have y0:w6.cell? ⟨og,i,none⟩=some (.int .i64 (x:Nat)):=by rw[f i hlt2,List.getElem?_map,hx];rfl
  have y1:=e0.u.a x f9;obtain⟨ax,hu⟩ : ∃ ax,ax=A.ac x:=⟨_,rfl⟩;rw[<-hu]at y1;obtain⟨f0,f1,f2,f3,-⟩:=e0.u.d.facts;have mb:(x:Int)<(n:Int):=by omega
  have c1:=ae hx;have lv:=ae hu;have ly:=ae kn;clear hx hu kn f e9
  go_wp2_with (at_builtin;refine tX rfl _ _ rfl w4.heap.size (.slice aa1 zs.length ac1) rfl ax rfl zs a9.u ?_ ?_ ?_)
  ·omega
  ·omega
  intro av7 w7 r1 r2 r3;have fx:=r2.own aq.u aw.u;have fz:=r2.own a8.u aa.u;have D:=aw.u.grow aq.u r3;have a6:=aa.u.grow a8.u r3;have O:Below w4.heap.size w4 w7:=c6.u.trans (r2.belowG a9.u lR (by omega));obtain⟨zs2,e3⟩ : ∃ zs2,zs2=zs++[ax]:=⟨_,rfl⟩;have r1:w7.ownsRow w4.heap.size 4 1 av7 zs2.length (zs2.map mT):=by rw[e3,List.length_append,List.map_append];exact r1
  have c7:(o.take (i+1)).map A.ac=zs2:=by rw[e3,hp.u,lv.u,List.take_add_one,c1.u];simp
  obtain⟨aa7,ac7,rfl⟩:=aj r1;have g0:=ae fx;have g1:=ae fz;have g2:=ae r1;have g3:=ae D;have g4:=ae a6;have bt:=ae O;have cb:=ae c7;clear fx fz r1 r2 r3 D a6 O e3 c7 aq a8 a9 aw aa c6 hp y0 y1 f0 f1 f2 f3 e0 ls
  go_wp2_with fail
  go_loopw [13,14,18] (fun ov nv kv wx=>∃ (e:Nat) (o ys:List Nat),e<=fs.length/\kv=.int .i64 (e:Nat)/\o[i]?=some x/\wx.ownsRow w4.heap.size 3 1 ov o.length (o.map mN)/\wx.ownsRow w4.heap.size 3 1 nv ys.length (ys.map mN)/\wx.ownsRow w4.heap.size 4 1 (.slice aa7 zs2.length ac7) zs2.length (zs2.map mT)/\Ap ov nv/\Ap ov (.slice aa7 zs2.length ac7)/\Ap nv (.slice aa7 zs2.length ac7)/\Below w4.heap.size w4 wx/\eM fs.length fn p0 o ys/\ys.length=i*fs.length+e/\(o.take (i+1)).map A.ac=zs2/\∀ x∈o,x<n/\pv x=(x:Int)) (fun _ _ kv _=>fs.length-(intOf kv).toNat)
  case atStart=>exact⟨0,o,ys,by omega,rfl,c1.u,g0.u,g1.u,g2.u,ar.u,g3.u,g4.u,bt.u,bz.u,by rw[ad.u];rfl,cb.u,c0.u⟩
  clear c1 g0 g1 g2 ar g3 g4 bt bz ad cb c0 hlt2 e1 hi f8 kl;obtain⟨e,o,ys,he,rfl,fa,s,M,Q,a5,D,a6,hB,an,a7,c7,ap⟩:=hrel;obtain⟨w8,rfl⟩ : ∃ w8,w8=wr:=⟨_,rfl⟩;have mq:=hB.size;have f8:=pZ an (fun x hx=>(ap x hx).1);have g5:=cU fa;have kl:ys.length<=1024*256+256:=by
   rw[a7];exact Nat.add_le_add (Nat.mul_le_mul (Nat.le_trans (Nat.le_of_lt g5) (Nat.le_trans f8 hn)) f7) (Nat.le_trans he f7)
  obtain⟨oa1,oc1,rfl⟩:=aj s;obtain⟨na1,nc1,rfl⟩:=aj M;have R:=cr.u.keep hB (by omega) (by omega) (by omega) (by omega) (by omega)
  by_cases hel:e<fs.length
  ·have kr:(e:Int)<(fs.length:Int):=by omega
   obtain⟨y,hy⟩ : ∃ y,fs[e]?=some y:=⟨_,List.getElem?_eq_getElem hel⟩;have B:=b7.u y (List.mem_of_getElem? hy);obtain⟨cy,b9⟩ : ∃ cy,cy=A.cl y:=⟨_,rfl⟩;have bb:cy<k:=by rw[b9];exact d4.u y B
   obtain⟨tg,ks,g6,kt,g7⟩:=lp.u x y f9 ly.u B;have g8:fn x e=tg:=by rw[kb.u];simp only[hy,Option.getD_some];exact g6
   obtain⟨rg,rcap,e9,f⟩:=eu (ak b6.u (fun g hg=>hB.block g (b6.u.lt g hg).2)) (by omega);have d8:ra=some ⟨rg,0,none⟩/\rc=rcap:=by simpa using e9
   obtain⟨era,erc⟩:=d8;have y3:w8.cell? ⟨rg,e,none⟩=some (.int .i64 (y:Nat)):=by rw[f e hel,List.getElem?_map,hy];rfl
   obtain⟨f0,f1,f2,f3,-⟩:=R.d.facts;have y2:=R.c y B;rw[<-b9]at y2;obtain⟨v1,v2⟩:=R.x x cy f9 bb;have bc:x*k+cy<L:=by rw[HL.u];exact cO f9 bb
   obtain⟨m,t,a1,ht,lk,a2,a3,a4⟩:=cP (by omega) bc;obtain⟨np,al⟩ : ∃ y,y=A.nx x cy:=⟨_,rfl⟩;rw[<-ht,<-al]at v2;rw[<-al]at v1;have y4:=R.p.cell (i:=np) v1;have epn:pv np=(tg:Int):=by rw[al,b9];exact ks
   rw[epn]at y4;have v1':(np:Int)<(n:Int):=by omega
   have e4:=eh (q:=i) hel;rw[<-a7]at e4;have ms:=ae hy;have c1:=ae fa;have aq:=ae s;have a8:=ae M;have a9:=ae Q;have ar:=ae a5;have aw:=ae D;have aa:=ae a6;have hv:=ae hB;have bz:=ae an;have ad:=ae a7;have cb:=ae c7;have c0:=ae ap;have mc:=ae R;have g9:=ae g8;have ga:=ae e4;have ky:=ae (And.intro kt g7);subst era;subst erc;clear hy fa s M Q a5 D a6 hB an a7 c7 ap R g8 e4 ks g6 g7 b9 al ht bc epn f e9
   go_wp2_with fail
   go_quiet (fail)
   go_wp2_with fail;obtain⟨w9,i0⟩ : ∃ w9,w9=w8.drewN nq:=⟨_,rfl⟩;have i1:ce w8.heap.size w8 w9:=by rw[i0];exact(ce.refl _ _).drewN _
   rw[<-i0];have m0:=Nat.le_of_eq i1.size.symm;have l0:=ae i1;clear i1 i0 y2 y3 y4 f0 f1 f2 f3 v2
   go_loopw [20,21] (fun tv jv wy=>∃ j:Nat,j<=o.length/\jv=.int .i64 (j:Nat)/\ce w8.heap.size w8 wy/\((tv=.int .i64 (-1)/\∀ j':Nat,j'<j->o[j']?≠some tg)∨∃ m:Nat,tv=.int .i64 (m:Nat)/\o[m]?=some tg)) (fun _ jv _=>o.length-(intOf jv).toNat)
   case atStart=>exact⟨0,by omega,rfl,l0.u,.inl ⟨rfl,fun j' hj'=>by omega⟩⟩
   clear l0 m0;obtain⟨j,hj,rfl,hO,i2⟩:=hrel;obtain⟨w10,rfl⟩ : ∃ w10,w10=wr:=⟨_,rfl⟩;have mg:=Nat.le_of_eq hO.size.symm;have s:=ak aq.u (fun g hg=>hO.block g (by have:=(aq.u.lt g hg).2;omega))
   by_cases hjl:j<o.length
   ·have b8:(j:Int)<(o.length:Int):=by omega
    obtain⟨z,hz⟩ : ∃ z,o[j]?=some z:=⟨_,List.getElem?_eq_getElem hjl⟩;obtain⟨og,ocap,e9,f⟩:=eu s (by omega);have e2:oa1=some ⟨og,0,none⟩/\oc1=ocap:=by simpa using e9
    obtain⟨era,erc⟩:=e2;have y0:w10.cell? ⟨og,j,none⟩=some (.int .i64 (z:Nat)):=by rw[f j hjl,List.getElem?_map,hz];rfl
    have HZ:=ae hz;have HO:=ae hO;clear hz hO s f e9;subst era;subst erc
    by_cases c2:z=tg
    ·subst c2;rcases i2 with ⟨rfl,K⟩|⟨m9,rfl,hm⟩
     ·clear K
      go_wp2_with fail
      go_roundw
      case rel=>exact⟨j+1,by omega,by go_num,HO.u,.inr ⟨j,rfl,HZ.u⟩⟩
      simp[intOf];omega
     clear hm
     go_wp2_with fail
     go_roundw
     case rel=>exact⟨j+1,by omega,by go_num,HO.u,.inr ⟨j,rfl,HZ.u⟩⟩
     simp[intOf];omega
    have mt:¬ (z:Int)=(tg:Int):=by omega
    rcases i2 with ⟨rfl,K⟩|⟨m9,rfl,hm⟩
    ·have es:=ae K;clear K
     go_wp2_with fail
     go_roundw
     case rel=>exact⟨j+1,by omega,by go_num,HO.u,.inl ⟨rfl,fun j' hj' h9=>(by
      by_cases e9:j'=j
      ·subst e9;rw[HZ.u]at h9;exact c2 (Option.some.inj h9)
      exact es.u j' (by omega) h9)⟩⟩
     simp[intOf];omega
    have HM:=ae hm;clear hm
    go_wp2_with fail
    go_roundw
    case rel=>exact⟨j+1,by omega,by go_num,HO.u,.inr ⟨m9,rfl,HM.u⟩⟩
    simp[intOf];omega
   have b8:¬ (j:Int)<(o.length:Int):=by omega
   obtain rfl:j=o.length:=by omega
   have M:=ak a8.u (fun g hg=>hO.block g (by have:=(a8.u.lt g hg).2;omega));have Q:=ak a9.u (fun g hg=>hO.block g (by have:=(a9.u.lt g hg).2;omega));have gc:Below w4.heap.size w4 w10:=hv.u.trans (hO.blw.mono (by omega));have S:=ae s;have T:=ae M;have U:=ae Q;have e5:=ae gc;clear s M Q gc hO;rcases i2 with ⟨rfl,K⟩|⟨m9,rfl,hm⟩
   ·have e6:eM fs.length fn p0 (o++[tg]) (ys++[o.length]):=by
     have h1:=ga.u;have h2:=g9.u;have:=bz.u.new (x:=x) (by rw[h1.1];exact c1.u) (fun j' hj' h9=>K j' hj' (by rw[h1.2,h2]at h9;exact h9));rw[h1.2,h2]at this;exact this
    have ag:=ae e6;clear e6 K
    go_wp2_with (at_builtin;refine dz rfl _ _ rfl w4.heap.size (.slice oa1 o.length oc1) rfl tg rfl o S.u ?_ ?_ ?_)
    ·omega
    ·omega
    intro ov11 w11 r1 r2 r3;have e7:=r2.own T.u ar.u.symm;have e8:=r2.own U.u aw.u.symm;have a5:=(ar.u.symm.grow T.u r3).symm;have D:=(aw.u.symm.grow U.u r3).symm;have ea:Below w4.heap.size w4 w11:=e5.u.trans (r2.belowG S.u lR (by omega));have mi:=ea.size;obtain⟨o2,d0⟩ : ∃ o2,o2=o++[tg]:=⟨_,rfl⟩;have r1:w11.ownsRow w4.heap.size 3 1 ov11 o2.length (o2.map mN):=by rw[d0,List.length_append,List.map_append];exact r1
    rw[<-d0]at ag;have gf:o2[i]?=some x:=by rw[d0,List.getElem?_append_left g5];exact c1.u
    have c2:(o2.take (i+1)).map A.ac=zs2:=by rw[d0,List.take_append_of_le_length (by omega)];exact cb.u
    have gg:∀ x∈o2,x<n/\pv x=(x:Int):=fun x hx=>by
     rw[d0,List.mem_append,List.mem_singleton]at hx;rcases hx with hx|hx
     ·exact c0.u x hx
     rw[hx];exact ky.u
    obtain⟨oa11,oc11,rfl⟩:=aj r1;have eb:=ae r1;have ec:=ae e7;have ee:=ae e8;have ek:=ae a5;have i3:=ae D;have l1:=ae ea;have l2:=ae gf;have l3:=ae c2;have l4:=ae gg;clear r1 r2 r3 e7 e8 a5 D ea d0 gf c2 gg S T U e5
    go_wp2_with (at_builtin;refine dz rfl _ _ rfl w4.heap.size (.slice na1 ys.length nc1) rfl o.length rfl ys ec.u ?_ ?_ ?_)
    ·omega
    ·omega
    intro nv12 w12 r1 r2 r3;have V:=r2.own eb.u ek.u;have W:=r2.own ee.u aa.u.symm;have X:=ek.u.grow eb.u r3;have Y:=(aa.u.symm.grow ee.u r3).symm;have c3:Below w4.heap.size w4 w12:=l1.u.trans (r2.belowG ec.u lR (by omega));obtain⟨ys2,v⟩ : ∃ ys2,ys2=ys++[o.length]:=⟨_,rfl⟩;have r1:w12.ownsRow w4.heap.size 3 1 nv12 ys2.length (ys2.map mN):=by rw[v,List.length_append,List.map_append];exact r1
    have J:ys2.length=i*fs.length+(e+1):=by rw[v,List.length_append,ad.u];rfl
    rw[<-v]at ag;have cc:=ae V;have cf:=ae r1;have ch:=ae W;have ck:=ae X;have cp:=ae Y;have el:=ae c3;have en:=ae J;clear r1 r2 r3 V W X Y c3 v J;go_wp2
    go_roundw
    case rel=>exact⟨e+1,o2,ys2,by omega,by go_num,l2.u,cc.u,cf.u,ch.u,ck.u,i3.u,cp.u,el.u,ag.u,en.u,l3.u,l4.u⟩
    simp[intOf];omega
   have e6:eM fs.length fn p0 o (ys++[m9]):=by
    have h1:=ga.u;have h2:=g9.u;exact bz.u.old (x:=x) (by rw[h1.1];exact c1.u) (by rw[h1.2,h2];exact hm)
   have ag:=ae e6;have lm:¬ (m9:Int)<0:=by omega
   clear e6 hm
   go_wp2_with (at_builtin;refine dz rfl _ _ rfl w4.heap.size (.slice na1 ys.length nc1) rfl m9 rfl ys T.u ?_ ?_ ?_)
   ·omega
   ·omega
   intro nv12 w12 r1 r2 r3;have V:=r2.own S.u ar.u;have W:=r2.own U.u aa.u.symm;have X:=ar.u.grow S.u r3;have Y:=(aa.u.symm.grow U.u r3).symm;have c3:Below w4.heap.size w4 w12:=e5.u.trans (r2.belowG T.u lR (by omega));obtain⟨ys2,v⟩ : ∃ ys2,ys2=ys++[m9]:=⟨_,rfl⟩;have r1:w12.ownsRow w4.heap.size 3 1 nv12 ys2.length (ys2.map mN):=by rw[v,List.length_append,List.map_append];exact r1
   have J:ys2.length=i*fs.length+(e+1):=by rw[v,List.length_append,ad.u];rfl
   rw[<-v]at ag;have cc:=ae V;have cf:=ae r1;have ch:=ae W;have ck:=ae X;have cp:=ae Y;have el:=ae c3;have en:=ae J;clear r1 r2 r3 V W X Y c3 v J;go_wp2
   go_roundw
   case rel=>exact⟨e+1,o,ys2,by omega,by go_num,c1.u,cc.u,cf.u,ch.u,ck.u,aw.u,cp.u,el.u,ag.u,en.u,cb.u,c0.u⟩
   simp[intOf];omega
  have kr:¬ (e:Int)<(fs.length:Int):=by omega
  obtain rfl:e=fs.length:=by omega
  have J:ys.length=(i+1)*fs.length:=by rw[a7,Nat.add_mul,Nat.one_mul]
  have aq:=ae s;have a8:=ae M;have a9:=ae Q;have ar:=ae a5;have aw:=ae D;have aa:=ae a6;have hv:=ae hB;have bz:=ae an;have ad:=ae J;have cb:=ae c7;have c0:=ae ap;clear s M Q a5 D a6 hB an a7 J c7 ap fa R;go_wp2
  go_roundw
  case rel=>exact⟨i+1,o,ys,zs2,by omega,by go_num,aq.u,a8.u,a9.u,ar.u,aw.u,aa.u,hv.u,bz.u,ad.u,cb.u.symm,c0.u⟩
  simp[intOf];omega
 have e1:¬ (i:Int)<(o.length:Int):=by omega
 obtain rfl:i=o.length:=by omega
 have i4:=lc.u.below (er.u.trans (c6.u.mono (by omega))) (by omega);have bo:=ak cw.u (fun g hg=>c6.u.block g (cw.u.lt g hg).2);have l5:dD A (fun j=>(pv j).toNat) fs.length (fun b=>ns[b]?.getD 0) (fun e=>fs[e]?.getD 0) o ys:=xz HW.u (by rw[b0.u];exact HR.u) (by rw[b0.u];exact ct.u) d3.u HN.u a0.u (by have h:=bz.u;rw[kb.u,lr.u]at h;exact h) ad.u;have ezs:zs=o.map A.ac:=by rw[hp.u,List.take_length]
 have l6:zs.length=o.length:=by rw[ezs];simp
 have l7:Below w.heap.size w w6:=j0.u.trans ((er.u.mono (by omega)).trans (c6.u.mono (by omega)));obtain⟨x0,x1,x2,x3,z0,z1,z2,z3⟩:=i4.facts;have l8:=(((i4.put0 (u:=.slice oa ns.length oc)).put1 (u:=.int .i64 (fs.length:Nat))).put2 (u:=.slice na1 ys.length nc1)).put3' (u:=.slice aa1 zs.length ac1);have Z:ce (w.heap.size+1) w6 ((((w6.setCell ⟨w.heap.size+1,0,none⟩ (.slice oa ns.length oc)).setCell ⟨w.heap.size+1,1,none⟩ (.int .i64 (fs.length:Nat))).setCell ⟨w.heap.size+1,2,none⟩ (.slice na1 ys.length nc1)).setCell ⟨w.heap.size+1,3,none⟩ (.slice aa1 zs.length ac1)):=(((am _ _).trans (am _ _)).trans (am _ _)).trans (am _ _);have m1:=ae l8;have m2:=ae Z;have af:=ae bo;have m3:=ae l5;have m4:=ae ezs;have m5:=ae l6;have m6:=ae l7;clear l8 Z bo l5 ezs l6 i4 l7;go_wp2;refine bodyPost_ret (gJ m1.u rfl _ rfl) rfl ?_;have Z:=m2.u;have ep:=m6.u;have k1:=ak af.u (fun g hg=>Z.block g (by have:=(af.u.lt g hg).1;omega));have k2:=ak a8.u (fun g hg=>Z.block g (by have:=(a8.u.lt g hg).1;omega));have k3:=ak a9.u (fun g hg=>Z.block g (by have:=(a9.u.lt g hg).1;omega));refine⟨_,_,_,fs.length,rfl,⟨Z.os.trans ep.os,Z.tape.trans ep.tape,Z.output.trans ep.output,Nat.le_trans ep.size (Nat.le_of_eq Z.size.symm),fun k hk=>(Z.block k (by omega)).trans (ep.block k hk)⟩,_,_,_,o,ys,m3.u,by omega,f7,?_,?_,?_⟩
 ·rw[Dt a0.u,List.map_map];have k1:=aO k1 (show w.heap.size<=w3.heap.size by omega);rw[a0.u]at k1;rw[a0.u];exact k1
 ·rw[Ds ad.u,List.map_map,<-ad.u];exact aO k2 (by omega)
 rw[DA,<-m4.u,<-m5.u];exact aO k3 (by omega)
end Go.Proofs.YtidfkbghlkcbeaaGreatDoor
