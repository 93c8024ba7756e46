import Derived.Test.YtpmcjimgkabpeaaGreatDoorPk30
import Derived.Test.YtpmcjimgkabpeaaGreatDoorPk23
import Derived.Test.YtpmcjimgkabpeaaGreatDoorPk27
namespace Go.Proofs.YtpmcjimgkabpeaaGreatDoor
open Go.RowKit Go.Proofs.Tryz
set_option maxHeartbeats 16000000
set_option maxRecDepth 100000
theorem Dm{A:Tb}{pv:Nat->Int}{b b':Nat}(h:∀ q,q<A.n->pv q=(q:Int)->pv (A.nx q (A.cl b))=pv (A.nx q (A.cl b'))):lI A pv b=lI A pv b':=by
 funext q
 simp only[lI]
 split
 ·rename_i hq;exact h q hq.1 hq.2
 rfl
theorem zK{A:Tb}{pv:Nat->Int}{b b' q:Nat}(hq:q<A.n)(h1:pv q=(q:Int))(h:pv (A.nx q (A.cl b))≠pv (A.nx q (A.cl b'))):lI A pv b≠lI A pv b':=fun e=>by
 have:=congrFun e q;simp only[lI,hq,h1,and_self,if_true]at this;exact h this
theorem pR{k n:Nat}{f:Nat->Nat->Nat}{s0:Nat}{o ys:List Nat}(h:eK k f s0 o ys)(ho:∀ x∈o,x<n):o.length<=n:=by
 refine cm n o ?_ ho;rw[List.nodup_iff_pairwise_ne,List.pairwise_iff_getElem];intro i j hi hj a e;have:=h.nd i j hi hj (by rw[List.getElem?_eq_getElem hi,List.getElem?_eq_getElem hj,e]);omega
theorem mQ(A:Tb)(n k:Nat)(xb xo xc b off cN ab ao ca:Nat)(w:World)(hAn:A.n=n)(hAk:A.k=k)(hw:A.Wf)(hf:A.Full)(hn:n<=1024)(hk:1<=k/\k<=256)(hb:b<w.heap.size)(hx:jZ w b off n k A.nx)
  (hxb:xb<w.heap.size)(hcl:∀ q,q<256->w.cell? ⟨xb,xo+q,none⟩=some (.int .i64 (A.cl q:Nat)))(hab:ab<w.heap.size)(hac:∀ q,q<n->w.cell? ⟨ab,ao+q,none⟩=some (.bool (A.ac q))) :
  Calls prog 17 #[.agg #[.slice (some ⟨xb,xo,none⟩) 256 xc,.int .i64 (k:Nat),.slice (some ⟨b,off,none⟩) (n*k) cN,.slice (some ⟨ab,ao,none⟩) n ca]] w fun e w'=>∃ (xv nv av:Value) (kk:Nat),e=.returned (.agg #[xv,.int .i64 (kk:Nat),nv,av])/\Below w.heap.size w w'/\
   ∃ (P cls rep:Nat->Nat) (o ys:List Nat),rT A P kk cls rep o ys/\o.length<=1024/\kk<=256/\w'.ownsRow w.heap.size 3 1 xv 256 ((mP (bE kk cls A.ac o ys)).map mI)/\w'.ownsRow w.heap.size 3 1 nv (o.length*kk) ((py (bE kk cls A.ac o ys)).map mI)/\w'.ownsRow w.heap.size 4 1 av o.length ((uV (bE kk cls A.ac o ys)).map mT):=by
 have gh:1<=n:=by rw[<-hAn];exact hw.pos
 have lb:n*k<=1024*256:=Nat.mul_le_mul hn hk.2;obtain⟨W2,c4⟩ : ∃ W2,W2=(w.alloc (.cells #[.slice (some ⟨xb,xo,none⟩) 256 xc,.int .i64 (k:Nat),.slice (some ⟨b,off,none⟩) (n*k) cN,.slice (some ⟨ab,ao,none⟩) n ca] 33)).alloc (.cells #[.slice none 0 0,.int .i64 0,.slice none 0 0,.slice none 0 0] 33):=⟨_,rfl⟩;have d0:Below w.heap.size w W2:=by rw[c4];exact aH w _ _
 have m7:W2.heap.size=w.heap.size+2:=by rw[c4,ah,ah]
 have eq:aD W2 w.heap.size 33 (.slice (some ⟨xb,xo,none⟩) 256 xc) (.int .i64 (k:Nat)) (.slice (some ⟨b,off,none⟩) (n*k) cN) (.slice (some ⟨ab,ao,none⟩) n ca):=by rw[c4];exact(aD.new w _ _ _ _ _).alloc _
 have i6:aD W2 (w.heap.size+1) 33 (.slice none 0 0) (.int .i64 0) (.slice none 0 0) (.slice none 0 0):=by
  have:=aD.new (w.alloc (.cells #[.slice (some ⟨xb,xo,none⟩) 256 xc,.int .i64 (k:Nat),.slice (some ⟨b,off,none⟩) (n*k) cN,.slice (some ⟨ab,ao,none⟩) n ca] 33)) 33 (.slice none 0 0) (.int .i64 0) (.slice none 0 0) (.slice none 0 0);rw[ah]at this;rw[c4];exact this
 have gl:jZ W2 b off n k A.nx:=fun q c hq hc=>⟨(hx q c hq hc).1,by rw[d0.cell (p:=⟨b,off+(q*k+c),none⟩) hb];exact(hx q c hq hc).2⟩
 have d1:∀ q,q<n->W2.cell? ⟨ab,ao+q,none⟩=some (.bool (A.ac q)):=fun q hq=>by rw[d0.cell (p:=⟨ab,ao+q,none⟩) hab];exact hac q hq
 have fb:∀ q,q<256->W2.cell? ⟨xb,xo+q,none⟩=some (.int .i64 (A.cl q:Nat)):=fun q hq=>by rw[d0.cell (p:=⟨xb,xo+q,none⟩) hxb];exact hcl q hq
 have gm:=ae (qh A n k (.slice (some ⟨xb,xo,none⟩) 256 xc) b off cN ab ao ca W2 hAn hAk hw hf hn hk (by omega) gl (by omega) d1);obtain⟨L,hL⟩ : ∃ L,L=n*k:=⟨_,rfl⟩;rw[<-hL]at lb c4 eq ⊢;rw[<-hL]at gm;obtain⟨f0,f1,f2,f3,-⟩:=eq.facts;have HL:=ae hL;have gp:=ae gl;have i7:=ae d1;have i8:=ae fb;have b0:=ae hAn;have lc:=ae hAk;have HW:=ae hw;have HF:=ae hf;have i9:=ae c4;have ih:=ae d0;have ip:=ae eq;have iq:=ae i6;clear hL hx hAn hAk hw hf hac hcl gl d1 fb c4 d0 eq i6
 go_enter func17,ntmps17
 go_wp2_with fail;rw[<-i9.u];refine gm.u.mono ?_;rintro e w3 ⟨pb,rfl,b5,mk,pv,r,gs,hr,it,iu⟩;have mm:=b5.size;have m8:=gs.lt;have fc:FH A n k xb xo xc b off L cN ab ao ca w.heap.size pb pv w3:=⟨ip.u.below b5 (by omega),gs,fun q c hq hc=>⟨(gp.u q c hq hc).1,by rw[b5.cell (p:=⟨b,off+(q*k+c),none⟩) (by show b<W2.heap.size;omega)];exact(gp.u q c hq hc).2⟩,fun q hq=>by rw[b5.cell (p:=⟨xb,xo+q,none⟩) (by show xb<W2.heap.size;omega)];exact i8.u q hq,fun q hq=>by rw[b5.cell (p:=⟨ab,ao+q,none⟩) (by show ab<W2.heap.size;omega)];exact i7.u q hq⟩;have iw:=iq.u.below b5 (by omega);have fd:Below w.heap.size w w3:=ih.u.trans (b5.mono (by omega));have ff:∀ q,q<256->A.cl q<k:=fun q hq=>by rw[<-lc.u];exact HW.u.cls q hq
 have j0:=ae fc;have le:=ae iw;have j1:=ae fd;have HR:=ae hr;have cs:=ae it;have d2:=ae iu;have d3:=ae ff;clear fc iw fd hr it iu b5 gs gm gp i7 i8 i9 ih ip iq f0 f1 f2 f3 ff
 go_wp2_with fail
 go_loopw [4,5,6] (fun cv rv bv wr=>∃ (i:Nat) (ns fs:List Nat),i<=256/\bv=.int .i64 (i:Nat)/\ns.length=i/\fs.length<=i/\wr.ownsRow w3.heap.size 3 1 cv ns.length (ns.map mN)/\wr.ownsRow w3.heap.size 3 1 rv fs.length (fs.map mN)/\Ap cv rv/\Below w3.heap.size w3 wr/\eY (lI A pv) (fs.map (lI A pv)) ns fs/\∀ x∈fs,x<256) (fun _ _ bv _=>256-(intOf bv).toNat)
 case atStart=>exact⟨0,[],[],by omega,rfl,rfl,by simp,World.ownsRow_nil _ _ _ _,World.ownsRow_nil _ _ _ _,(fun q hq=>by cases hq),Below.refl _ _,eY.nil _,fun x hx=>by cases hx⟩
 obtain⟨i,ns,fs,hi,rfl,j2,lg,h0,h4,j3,hB,hN,fg⟩:=hrel;obtain⟨w4,rfl⟩ : ∃ w4,w4=wr:=⟨_,rfl⟩;have mn:=hB.size;have fh:=j0.u.keep hB (by omega) (by omega) (by omega) (by omega) (by omega);obtain⟨oa,oc,rfl⟩:=aj h0;obtain⟨ra,rc,rfl⟩:=aj h4;have cp:=ae fh;have ct:=ae h0;have b6:=ae h4;have cw:=ae j3;have er:=ae hB;have HN:=ae hN;have b7:=ae fg;have a0:=ae j2;have mo:ns.length<=256:=by omega
 clear fh h0 h4 j3 hB hN fg j2
 by_cases hlt:i<256
 ·have j4:(i:Int)<256:=by omega
  go_wp2_with fail
  go_loopw [7,8] (fun fv kv wx=>∃ j:Nat,j<=fs.length/\kv=.int .i64 (j:Nat)/\cd w4.heap.size w4 wx/\((fv=.int .i64 (-1)/\∀ j' y,j'<j->fs[j']?=some y->lI A pv y≠lI A pv i)∨∃ m:Nat,fv=.int .i64 (m:Nat)/\(fs.map (lI A pv))[m]?=some (lI A pv i))) (fun _ kv _=>fs.length-(intOf kv).toNat)
  case atStart=>exact⟨0,by omega,rfl,cd.refl _ _,.inl ⟨rfl,fun j' y hj'=>by omega⟩⟩
  obtain⟨j,hj,rfl,hO,lk⟩:=hrel;obtain⟨w5,rfl⟩ : ∃ w5,w5=wr:=⟨_,rfl⟩;have j5:=Nat.le_of_eq hO.size.symm;rcases lk with ⟨rfl,K⟩|⟨m,rfl,hm⟩
  ·by_cases hjl:j<fs.length
   ·have b8:(j:Int)<(fs.length:Int):=by omega
    obtain⟨y,hy⟩ : ∃ y,fs[j]?=some y:=⟨_,List.getElem?_eq_getElem hjl⟩;have B:=b7.u y (List.mem_of_getElem? hy);obtain⟨cy,b9⟩ : ∃ cy,cy=A.cl y:=⟨_,rfl⟩;obtain⟨ci,h5⟩ : ∃ ci,ci=A.cl i:=⟨_,rfl⟩;have bb:cy<k:=by rw[b9];exact d3.u y B
    have fi:ci<k:=by rw[h5];exact d3.u i hlt
    have es:=ae K;have HO:=ae hO;have HY:=ae hy;have et:=ae b9;have ev:=ae h5;clear K hO hy b9 h5
    go_wp2_with fail
    go_loopw [9,10] (fun sv qv wx=>∃ (q:Nat) (sm:Bool),q<=n/\qv=.int .i64 (q:Nat)/\sv=.bool sm/\cd w4.heap.size w4 wx/\(sm=true->∀ q',q'<q->pv q'=(q':Int)->pv (A.nx q' ci)=pv (A.nx q' cy))/\(sm=false->∃ q',q'<n/\pv q'=(q':Int)/\pv (A.nx q' ci)≠pv (A.nx q' cy))) (fun _ qv _=>n-(intOf qv).toNat)
    case atStart=>exact⟨0,true,by omega,rfl,rfl,HO.u,fun _ q' hq'=>by omega,fun h=>by cases h⟩
    obtain⟨q,sm,hq,rfl,rfl,N,c5,d4⟩:=hrel;obtain⟨w6,rfl⟩ : ∃ w6,w6=wr:=⟨_,rfl⟩;clear HO;have j6:=Nat.le_of_eq N.size.symm;cases sm
    ·have HO:=ae N;have j7:=ae (d4 rfl);clear N c5 d4
     by_cases hql:q<n
     ·have d5:(q:Int)<(n:Int):=by omega
      go_wp2_with fail
      go_roundw
      case rel=>exact⟨j+1,by omega,by go_num,HO.u,.inl ⟨rfl,fun j' y' hj' hy'=>(by
       by_cases e:j'=j
       ·subst e;have h6:=HY.u.symm.trans hy';cases h6;obtain⟨q',h1,h2,h3⟩:=j7.u;exact fun hh=>zK (by rw[b0.u];exact h1) h2 (by rw[<-ev.u,<-et.u];exact h3) hh.symm
       exact es.u j' y' (by omega) hy')⟩⟩
      simp[intOf];omega
     have d5:¬ (q:Int)<(n:Int):=by omega
     go_wp2_with fail
     go_roundw
     case rel=>exact⟨j+1,by omega,by go_num,HO.u,.inl ⟨rfl,fun j' y' hj' hy'=>(by
      by_cases e:j'=j
      ·subst e;have h6:=HY.u.symm.trans hy';cases h6;obtain⟨q',h1,h2,h3⟩:=j7.u;exact fun hh=>zK (by rw[b0.u];exact h1) h2 (by rw[<-ev.u,<-et.u];exact h3) hh.symm
      exact es.u j' y' (by omega) hy')⟩⟩
     simp[intOf];omega
    by_cases hql:q<n
    ·have d5:(q:Int)<(n:Int):=by omega
     have C:=cp.u.keep N.blw (by omega) (by omega) (by omega) (by omega) (by omega);obtain⟨f0,f1,f2,f3,-⟩:=C.d.facts;have y0:=C.p.cell (i:=q) hql;obtain⟨xq,d6⟩ : ∃ xq,xq=pv q:=⟨_,rfl⟩;rw[<-d6]at y0
     by_cases hself:xq=(q:Int)
     ·have cr:=hself;rw[hself]at y0;have y1:=C.c i hlt;have y2:=C.c y B;rw[<-ev.u]at y1;rw[<-et.u]at y2;have f:=(eP (ak b6.u (fun g hg=>N.block g (by have:=(b6.u.lt g hg).2;omega))) (by omega));obtain⟨rg,rcap,e9,f⟩:=f;have y3:w6.cell? ⟨rg,j,none⟩=some (.int .i64 (y:Nat)):=by rw[f j hjl,List.getElem?_map,HY.u];rfl
      obtain⟨v1,v2⟩:=C.x q ci hql fi;obtain⟨u1,u2⟩:=C.x q cy hql bb;have bc:q*k+ci<L:=by rw[HL.u];exact fB hql fi
      have fj:q*k+cy<L:=by rw[HL.u];exact fB hql bb
      obtain⟨m,t,a1,ht,ll,a2,a3,a4⟩:=eB (by omega) bc;obtain⟨m',t',b1,j8,ma,b2,b3,b4⟩:=eB (by omega) fj;obtain⟨np,al⟩ : ∃ y,y=A.nx q ci:=⟨_,rfl⟩;obtain⟨nq',ex⟩ : ∃ y,y=A.nx q cy:=⟨_,rfl⟩;rw[<-ht,<-al]at v2;rw[<-j8,<-ex]at u2;rw[<-al]at v1;rw[<-ex]at u1;have y4:=C.p.cell (i:=np) v1;have y5:=C.p.cell (i:=nq') u1;obtain⟨xv,ey⟩ : ∃ xv,xv=pv np:=⟨_,rfl⟩;obtain⟨yv,f4⟩ : ∃ yv,yv=pv nq':=⟨_,rfl⟩;rw[<-ey]at y4;rw[<-f4]at y5;have v1':(np:Int)<(n:Int):=by omega
      have u1':(nq':Int)<(n:Int):=by omega
      rw[al]at ey;rw[ex]at f4;have em:m'=m:=Int.ofNat.inj (b1.symm.trans a1);subst em;have d7:ra=some ⟨rg,0,none⟩/\rc=rcap:=by simpa using e9
      obtain⟨rfl,rfl⟩:=d7;have j9:=ae ey;have k0:=ae f4;have HO:=ae N;have h7:=ae (c5 rfl);have h8:=ae d6;have ha:=ae cr;clear N c5 d4 C ey f4 al ex ht j8 bc fj f e9 d6 hself cr b1 b2
      by_cases he:xv=yv
      ·go_wp2_with fail
       go_quiet (fail)
       go_wp2_with fail
       go_quiet (fail)
       go_wp2_with fail
       go_roundw
       case rel=>exact⟨q+1,true,by omega,by go_num,rfl,HO.u.drewN _,fun _ q' hq' hp'=>(by
        by_cases e:q'=q
        ·subst e;rw[<-j9.u,<-k0.u];exact he
        exact h7.u q' (by omega) hp'),fun h=>by cases h⟩
       simp[intOf];omega
      go_wp2_with fail
      go_quiet (fail)
      go_wp2_with fail
      go_quiet (fail)
      go_wp2_with fail
      go_roundw
      case rel=>exact⟨q+1,false,by omega,by go_num,by rw[beq_eq_false_iff_ne.mpr he],HO.u.drewN _,(fun h=>by cases h),fun _=>⟨q,hql,h8.u.symm.trans ha.u,by rw[<-j9.u,<-k0.u];exact he⟩⟩
      simp[intOf];omega
     have HO:=ae N;have h7:=ae (c5 rfl);have h8:=ae d6;clear N c5 d4 C d6
     go_wp2_with fail
     go_roundw
     case rel=>exact⟨q+1,true,by omega,by go_num,rfl,HO.u,fun _ q' hq' hp'=>(by
      by_cases e:q'=q
      ·subst e;exact absurd (h8.u.trans hp') hself
      exact h7.u q' (by omega) hp'),fun h=>by cases h⟩
     simp[intOf];omega
    have d5:¬ (q:Int)<(n:Int):=by omega
    obtain rfl:q=n:=by omega
    have k4:lI A pv i=lI A pv y:=Dm (by rw[b0.u,<-ev.u,<-et.u];exact c5 rfl);have lm:=ae k4;have HO:=ae N;clear N c5 d4 k4
    go_wp2_with fail
    go_roundw
    case rel=>exact⟨j+1,by omega,by go_num,HO.u,.inr ⟨j,rfl,by rw[List.getElem?_map,HY.u,lm.u];rfl⟩⟩
    simp[intOf];omega
   have b8:¬ (j:Int)<(fs.length:Int):=by omega
   obtain rfl:j=fs.length:=by omega
   have bd:=ak b6.u (fun g hg=>hO.block g (by have:=(b6.u.lt g hg).2;omega));have bf:=ak ct.u (fun g hg=>hO.block g (by have:=(ct.u.lt g hg).2;omega));have bi:Below w3.heap.size w3 w5:=er.u.trans (hO.blw.mono (by omega));have d8:eY (lI A pv) ((fs++[i]).map (lI A pv)) (ns++[fs.length]) (fs++[i]):=by
    have:=HN.u.new (fun j' hj' e=>by
     rw[List.getElem?_map]at e;obtain⟨y,hy,k5⟩:=Option.map_eq_some_iff.1 e;rw[a0.u]at k5;exact K j' y (by rw[List.length_map]at hj';exact hj') hy k5)
    rw[a0.u,List.length_map]at this;rw[List.map_append];exact this
   have E:=ae bd;have F:=ae bf;have bj:=ae bi;have bl:=ae d8;clear bd bf bi d8 K hO
   go_wp2_with (at_builtin;refine dw rfl _ _ rfl w3.heap.size (.slice ra fs.length rc) rfl i rfl fs E.u ?_ ?_ ?_)
   ·omega
   ·omega
   intro rv6 w6 r1 r2 r3;have bn:=r2.own F.u cw.u;have fk:=cw.u.grow F.u r3;have hd:Below w3.heap.size w3 w6:=bj.u.trans (r2.belowG E.u lR (by omega));have j6:=hd.size;obtain⟨fs2,bo⟩ : ∃ fs2,fs2=fs++[i]:=⟨_,rfl⟩;have k6:fs2.length<=i+1:=by rw[bo];simp;omega
   have r1:w6.ownsRow w3.heap.size 3 1 rv6 fs2.length (fs2.map mN):=by rw[bo,List.length_append,List.map_append];exact r1
   rw[<-bo]at bl;have d9:∀ x∈fs2,x<256:=fun x hx=>by
    rw[bo,List.mem_append,List.mem_singleton]at hx;rcases hx with hx|hx
    ·exact b7.u x hx
    omega
   obtain⟨ra2,rc2,rfl⟩:=aj r1;have db:=ae r1;have af:=ae bn;have fl:=ae fk;have c6:=ae hd;have ho:=ae d9;clear r1 r2 r3 bn fk hd bo d9 E F bj
   go_wp2_with (at_builtin;refine dw rfl _ _ rfl w3.heap.size (.slice oa ns.length oc) rfl fs.length rfl ns af.u ?_ ?_ ?_)
   ·omega
   ·omega
   intro cv7 w7 r1 r2 r3;have G:=r2.own db.u fl.u.symm;have H:=(fl.u.symm.grow db.u r3).symm;have O:Below w3.heap.size w3 w7:=c6.u.trans (r2.belowG af.u lR (by omega));obtain⟨ns2,l⟩ : ∃ ns2,ns2=ns++[fs.length]:=⟨_,rfl⟩;have I:ns2.length=i+1:=by rw[l,<-a0.u];simp
   have r1:w7.ownsRow w3.heap.size 3 1 cv7 ns2.length (ns2.map mN):=by rw[l,List.length_append,List.map_append];exact r1
   rw[<-l]at bl;have bq:=ae r1;have br:=ae G;have bs:=ae H;have bt:=ae O;have bx:=ae I;clear r1 r2 r3 G H O l I af db;go_wp2
   go_roundw
   case rel=>exact⟨i+1,ns2,fs2,by omega,by go_num,bx.u,k6,bq.u,br.u,bs.u,bt.u,bl.u,ho.u⟩
   simp[intOf];omega
  have bd:=ak b6.u (fun g hg=>hO.block g (by have:=(b6.u.lt g hg).2;omega));have bf:=ak ct.u (fun g hg=>hO.block g (by have:=(ct.u.lt g hg).2;omega));have bi:Below w3.heap.size w3 w5:=er.u.trans (hO.blw.mono (by omega));have d8:eY (lI A pv) (fs.map (lI A pv)) (ns++[m]) fs:=HN.u.old (by rw[a0.u];exact hm);have E:=ae bd;have F:=ae bf;have bj:=ae bi;have bl:=ae d8;have ln:¬ (m:Int)<0:=by omega
  clear bd bf bi d8 hm hO
  by_cases hjl:j<fs.length
  ·have b8:(j:Int)<(fs.length:Int):=by omega
   go_wp2_with (at_builtin;refine dw rfl _ _ rfl w3.heap.size (.slice oa ns.length oc) rfl m rfl ns F.u ?_ ?_ ?_)
   ·omega
   ·omega
   intro cv7 w7 r1 r2 r3;have G:=r2.own E.u cw.u.symm;have H:=(cw.u.symm.grow E.u r3).symm;have O:Below w3.heap.size w3 w7:=bj.u.trans (r2.belowG F.u lR (by omega));obtain⟨ns2,l⟩ : ∃ ns2,ns2=ns++[m]:=⟨_,rfl⟩;have I:ns2.length=i+1:=by rw[l,<-a0.u];simp
   have r1:w7.ownsRow w3.heap.size 3 1 cv7 ns2.length (ns2.map mN):=by rw[l,List.length_append,List.map_append];exact r1
   rw[<-l]at bl;have bq:=ae r1;have br:=ae G;have bs:=ae H;have bt:=ae O;have bx:=ae I;clear r1 r2 r3 G H O l I;go_wp2
   go_roundw
   case rel=>exact⟨i+1,ns2,fs,by omega,by go_num,bx.u,by omega,bq.u,br.u,bs.u,bt.u,bl.u,b7.u⟩
   simp[intOf];omega
  have b8:¬ (j:Int)<(fs.length:Int):=by omega
  go_wp2_with (at_builtin;refine dw rfl _ _ rfl w3.heap.size (.slice oa ns.length oc) rfl m rfl ns F.u ?_ ?_ ?_)
  ·omega
  ·omega
  intro cv7 w7 r1 r2 r3;have G:=r2.own E.u cw.u.symm;have H:=(cw.u.symm.grow E.u r3).symm;have O:Below w3.heap.size w3 w7:=bj.u.trans (r2.belowG F.u lR (by omega));obtain⟨ns2,l⟩ : ∃ ns2,ns2=ns++[m]:=⟨_,rfl⟩;have I:ns2.length=i+1:=by rw[l,<-a0.u];simp
  have r1:w7.ownsRow w3.heap.size 3 1 cv7 ns2.length (ns2.map mN):=by rw[l,List.length_append,List.map_append];exact r1
  rw[<-l]at bl;have bq:=ae r1;have br:=ae G;have bs:=ae H;have bt:=ae O;have bx:=ae I;clear r1 r2 r3 G H O l I;go_wp2
  go_roundw
  case rel=>exact⟨i+1,ns2,fs,by omega,by go_num,bx.u,by omega,bq.u,br.u,bs.u,bt.u,bl.u,b7.u⟩
  simp[intOf];omega
 have j4:¬ (i:Int)<256:=by omega
 obtain rfl:i=256:=by omega
 have lo:=HN.u;have k7:r 0=true:=(HR.u 0 gh).2 (Tb.Rch.zero A);obtain⟨p0,f5⟩ : ∃ p0,p0=(pv 0).toNat:=⟨_,rfl⟩;have fo:pv 0=(p0:Int):=by rw[f5];exact cs.u.nat gh k7
 have C:=cp.u;have y0:=C.p.cell (i:=0) gh;rw[fo]at y0;have mp:(0:Int)<(n:Int):=by omega
 have k8:∀ x y:Nat,x<n->pv x=(x:Int)->y<256->∃ tg:Nat,pv (A.stp x y)=(tg:Int)/\(pv (A.stp x y)).toNat=tg/\tg<n/\pv tg=(tg:Int):=fun x y hx hs hy=>by
  have lp:A.Rch x:=(HR.u x hx).1 ((cs.u.self hx).1 hs).1;have f6:=lp.stp hy;have hl:A.stp x y<n:=by rw[<-b0.u];exact f6.lt HW.u
  have h1:=cs.u.nat hl ((HR.u _ hl).2 f6);have h2:=d2.u.rch _ f6;have h3:(pv (A.stp x y)).toNat<n:=by rw[<-b0.u];exact h2.lt HW.u
  exact⟨_,h1,rfl,h3,(cs.u.self h3).2 ⟨(HR.u _ h3).2 h2,d2.u.idem f6⟩⟩
 have fp:p0<n/\pv p0=(p0:Int):=by
  have h2:=d2.u.rch 0 (Tb.Rch.zero A);have h3:(pv 0).toNat<n:=by rw[<-b0.u];exact h2.lt HW.u
  rw[f5];exact⟨h3,(cs.u.self h3).2 ⟨(HR.u _ h3).2 h2,d2.u.idem (Tb.Rch.zero A)⟩⟩
 obtain⟨w5,ds⟩ : ∃ w5,w5=w4.alloc (.cells #[.int .i64 (p0:Nat)] 3):=⟨_,rfl⟩;have j5:w4.heap.size+1<=w5.heap.size:=by rw[ds,ah];omega
 have bi:Below w4.heap.size w4 w5:=by rw[ds];exact ai w4 _
 have k9:w5.ownsRow w4.heap.size 3 1 (.slice (some ⟨w4.heap.size,0,none⟩) 1 1) [p0].length ([p0].map mN):=by
  refine⟨rfl,.inr ⟨_,1,#[.int .i64 (p0:Nat)],rfl,Nat.le_refl _,?_,Nat.le_refl _,by unfold maxLen;omega,rfl,rfl⟩⟩;rw[ds];exact(MapKept.heap_alloc _ _).1
 obtain⟨fn,kb⟩ : ∃ fn:Nat->Nat->Nat,fn=fun q e=>(pv (A.stp q (fs[e]?.getD 0))).toNat:=⟨_,rfl⟩
 have kc:=ae kb;have lr:=ae k8;have ls:=ae f5;have kd:=ae fp;have kf:=ae ds;have bj:=ae bi;have kl:=ae k9;have f7:=lg;clear k8 f5 fp ds bi k9 C lo fo k7 kb
 go_wp2_with fail;rw[<-kf.u];clear kf y0
 go_loopw [13,14,15,16] (fun ov nv av iv wr=>∃ (i:Nat) (o ys:List Nat) (zs:List Bool),i<=o.length/\iv=.int .i64 (i:Nat)/\wr.ownsRow w4.heap.size 3 1 ov o.length (o.map mN)/\wr.ownsRow w4.heap.size 3 1 nv ys.length (ys.map mN)/\wr.ownsRow w4.heap.size 4 1 av zs.length (zs.map mT)/\Ap ov nv/\Ap ov av/\Ap nv av/\Below w4.heap.size w4 wr/\eK fs.length fn p0 o ys/\ys.length=i*fs.length/\zs=(o.take i).map A.ac/\∀ x∈o,x<n/\pv x=(x:Int)) (fun _ _ _ iv _=>n-(intOf iv).toNat)
 case atStart=>exact⟨0,[p0],[],[],by simp,rfl,kl.u,World.ownsRow_nil _ _ _ _,World.ownsRow_nil _ _ _ _,(fun q _ h=>by cases h),(fun q _ h=>by cases h),(fun q h=>by cases h),bj.u,eK.start _ _ _,by simp,by simp,fun x hx=>by rw[List.mem_singleton]at hx;rw[hx];exact kd.u⟩
 clear kl bj j5;obtain⟨i,o,ys,zs,hi,rfl,s,M,Q,a5,D,a6,hB,an,a7,hp,ap⟩:=hrel;obtain⟨w6,rfl⟩ : ∃ w6,w6=wr:=⟨_,rfl⟩;have j6:=hB.size;have f8:=pR an (fun x hx=>(ap x hx).1);have kn:ys.length<=1024*256:=by rw[a7];exact Nat.mul_le_mul (Nat.le_trans hi (Nat.le_trans f8 hn)) f7
 have lv:zs.length<=1024:=by rw[hp];simp;omega
 obtain⟨oa1,oc1,rfl⟩:=aj s;obtain⟨na1,nc1,rfl⟩:=aj M;obtain⟨aa1,ac1,rfl⟩:=aj Q;have fr:=cp.u.keep hB (by omega) (by omega) (by omega) (by omega) (by omega);have aq:=ae s;have a8:=ae M;have a9:=ae Q;have ar:=ae a5;have aw:=ae D;have aa:=ae a6;have c6:=ae hB;have bz:=ae an;have ad:=ae a7;have hu:=ae hp;have c0:=ae ap;have e0:=ae fr;clear s M Q a5 D a6 hB an a7 hp ap fr
 by_cases hlt2:i<o.length
 ·have e1:(i:Int)<(o.length:Int):=by omega
  obtain⟨x,hx⟩ : ∃ x,o[i]?=some x:=⟨_,List.getElem?_eq_getElem hlt2⟩;obtain⟨f9,kr⟩:=c0.u x (List.mem_of_getElem? hx);obtain⟨og,ocap,e9,f⟩:=eP aq.u (by omega);have e2:oa1=some ⟨og,0,none⟩/\oc1=ocap:=by simpa using e9
  obtain⟨rfl,rfl⟩:=e2;have y0:w6.cell? ⟨og,i,none⟩=some (.int .i64 (x:Nat)):=by rw[f i hlt2,List.getElem?_map,hx];rfl
  have y1:=e0.u.a x f9;obtain⟨ax,hv⟩ : ∃ ax,ax=A.ac x:=⟨_,rfl⟩;rw[<-hv]at y1;obtain⟨f0,f1,f2,f3,-⟩:=e0.u.d.facts;have mb:(x:Int)<(n:Int):=by omega
  have c1:=ae hx;have lw:=ae hv;have ly:=ae kr;clear hx hv kr f e9
  go_wp2_with (at_builtin;refine tZ rfl _ _ rfl w4.heap.size (.slice aa1 zs.length ac1) rfl ax rfl zs a9.u ?_ ?_ ?_)
  ·omega
  ·omega
  intro av7 w7 r1 r2 r3;have fx:=r2.own aq.u aw.u;have fz:=r2.own a8.u aa.u;have D:=aw.u.grow aq.u r3;have a6:=aa.u.grow a8.u r3;have O:Below w4.heap.size w4 w7:=c6.u.trans (r2.belowG a9.u lR (by omega));obtain⟨zs2,e3⟩ : ∃ zs2,zs2=zs++[ax]:=⟨_,rfl⟩;have r1:w7.ownsRow w4.heap.size 4 1 av7 zs2.length (zs2.map mT):=by rw[e3,List.length_append,List.map_append];exact r1
  have c7:(o.take (i+1)).map A.ac=zs2:=by rw[e3,hu.u,lw.u,List.take_add_one,c1.u];simp
  obtain⟨aa7,ac7,rfl⟩:=aj r1;have g0:=ae fx;have g1:=ae fz;have g2:=ae r1;have g3:=ae D;have g4:=ae a6;have bt:=ae O;have cb:=ae c7;clear fx fz r1 r2 r3 D a6 O e3 c7 aq a8 a9 aw aa c6 hu y0 y1 f0 f1 f2 f3 e0 lv
  go_wp2_with fail
  go_loopw [13,14,18] (fun ov nv kv wx=>∃ (e:Nat) (o ys:List Nat),e<=fs.length/\kv=.int .i64 (e:Nat)/\o[i]?=some x/\wx.ownsRow w4.heap.size 3 1 ov o.length (o.map mN)/\wx.ownsRow w4.heap.size 3 1 nv ys.length (ys.map mN)/\wx.ownsRow w4.heap.size 4 1 (.slice aa7 zs2.length ac7) zs2.length (zs2.map mT)/\Ap ov nv/\Ap ov (.slice aa7 zs2.length ac7)/\Ap nv (.slice aa7 zs2.length ac7)/\Below w4.heap.size w4 wx/\eK fs.length fn p0 o ys/\ys.length=i*fs.length+e/\(o.take (i+1)).map A.ac=zs2/\∀ x∈o,x<n/\pv x=(x:Int)) (fun _ _ kv _=>fs.length-(intOf kv).toNat)
  case atStart=>exact⟨0,o,ys,by omega,rfl,c1.u,g0.u,g1.u,g2.u,ar.u,g3.u,g4.u,bt.u,bz.u,by rw[ad.u];rfl,cb.u,c0.u⟩
  clear c1 g0 g1 g2 ar g3 g4 bt bz ad cb c0 hlt2 e1 hi f8 kn;obtain⟨e,o,ys,he,rfl,fa,s,M,Q,a5,D,a6,hB,an,a7,c7,ap⟩:=hrel;obtain⟨w8,rfl⟩ : ∃ w8,w8=wr:=⟨_,rfl⟩;have mq:=hB.size;have f8:=pR an (fun x hx=>(ap x hx).1);have g5:=da fa;have kn:ys.length<=1024*256+256:=by
   rw[a7];exact Nat.add_le_add (Nat.mul_le_mul (Nat.le_trans (Nat.le_of_lt g5) (Nat.le_trans f8 hn)) f7) (Nat.le_trans he f7)
  obtain⟨oa1,oc1,rfl⟩:=aj s;obtain⟨na1,nc1,rfl⟩:=aj M;have R:=cp.u.keep hB (by omega) (by omega) (by omega) (by omega) (by omega)
  by_cases hel:e<fs.length
  ·have ks:(e:Int)<(fs.length:Int):=by omega
   obtain⟨y,hy⟩ : ∃ y,fs[e]?=some y:=⟨_,List.getElem?_eq_getElem hel⟩;have B:=b7.u y (List.mem_of_getElem? hy);obtain⟨cy,b9⟩ : ∃ cy,cy=A.cl y:=⟨_,rfl⟩;have bb:cy<k:=by rw[b9];exact d3.u y B
   obtain⟨tg,kt,g6,ky,g7⟩:=lr.u x y f9 ly.u B;have g8:fn x e=tg:=by rw[kc.u];simp only[hy,Option.getD_some];exact g6
   obtain⟨rg,rcap,e9,f⟩:=eP (ak b6.u (fun g hg=>hB.block g (b6.u.lt g hg).2)) (by omega);have d7:ra=some ⟨rg,0,none⟩/\rc=rcap:=by simpa using e9
   obtain⟨era,erc⟩:=d7;have y3:w8.cell? ⟨rg,e,none⟩=some (.int .i64 (y:Nat)):=by rw[f e hel,List.getElem?_map,hy];rfl
   obtain⟨f0,f1,f2,f3,-⟩:=R.d.facts;have y2:=R.c y B;rw[<-b9]at y2;obtain⟨v1,v2⟩:=R.x x cy f9 bb;have bc:x*k+cy<L:=by rw[HL.u];exact fB f9 bb
   obtain⟨m,t,a1,ht,ll,a2,a3,a4⟩:=eB (by omega) bc;obtain⟨np,al⟩ : ∃ y,y=A.nx x cy:=⟨_,rfl⟩;rw[<-ht,<-al]at v2;rw[<-al]at v1;have y4:=R.p.cell (i:=np) v1;have epn:pv np=(tg:Int):=by rw[al,b9];exact kt
   rw[epn]at y4;have v1':(np:Int)<(n:Int):=by omega
   have e4:=eg (q:=i) hel;rw[<-a7]at e4;have ms:=ae hy;have c1:=ae fa;have aq:=ae s;have a8:=ae M;have a9:=ae Q;have ar:=ae a5;have aw:=ae D;have aa:=ae a6;have i0:=ae hB;have bz:=ae an;have ad:=ae a7;have cb:=ae c7;have c0:=ae ap;have mc:=ae R;have g9:=ae g8;have ga:=ae e4;have l0:=ae (And.intro ky g7);subst era;subst erc;clear hy fa s M Q a5 D a6 hB an a7 c7 ap R g8 e4 kt g6 g7 b9 al ht bc epn f e9
   go_wp2_with fail
   go_quiet (fail)
   go_wp2_with fail;obtain⟨w9,i1⟩ : ∃ w9,w9=w8.drewN nq:=⟨_,rfl⟩;have i2:cd w8.heap.size w8 w9:=by rw[i1];exact(cd.refl _ _).drewN _
   rw[<-i1];have m0:=Nat.le_of_eq i2.size.symm;have l1:=ae i2;clear i2 i1 y2 y3 y4 f0 f1 f2 f3 v2
   go_loopw [20,21] (fun tv jv wy=>∃ j:Nat,j<=o.length/\jv=.int .i64 (j:Nat)/\cd w8.heap.size w8 wy/\((tv=.int .i64 (-1)/\∀ j':Nat,j'<j->o[j']?≠some tg)∨∃ m:Nat,tv=.int .i64 (m:Nat)/\o[m]?=some tg)) (fun _ jv _=>o.length-(intOf jv).toNat)
   case atStart=>exact⟨0,by omega,rfl,l1.u,.inl ⟨rfl,fun j' hj'=>by omega⟩⟩
   clear l1 m0;obtain⟨j,hj,rfl,hO,i3⟩:=hrel;obtain⟨w10,rfl⟩ : ∃ w10,w10=wr:=⟨_,rfl⟩;have mg:=Nat.le_of_eq hO.size.symm;have s:=ak aq.u (fun g hg=>hO.block g (by have:=(aq.u.lt g hg).2;omega))
   by_cases hjl:j<o.length
   ·have b8:(j:Int)<(o.length:Int):=by omega
    obtain⟨z,hz⟩ : ∃ z,o[j]?=some z:=⟨_,List.getElem?_eq_getElem hjl⟩;obtain⟨og,ocap,e9,f⟩:=eP s (by omega);have e2:oa1=some ⟨og,0,none⟩/\oc1=ocap:=by simpa using e9
    obtain⟨era,erc⟩:=e2;have y0:w10.cell? ⟨og,j,none⟩=some (.int .i64 (z:Nat)):=by rw[f j hjl,List.getElem?_map,hz];rfl
    have HZ:=ae hz;have HO:=ae hO;clear hz hO s f e9;subst era;subst erc
    by_cases c2:z=tg
    ·subst c2;rcases i3 with ⟨rfl,K⟩|⟨m9,rfl,hm⟩
     ·clear K
      go_wp2_with fail
      go_roundw
      case rel=>exact⟨j+1,by omega,by go_num,HO.u,.inr ⟨j,rfl,HZ.u⟩⟩
      simp[intOf];omega
     clear hm
     go_wp2_with fail
     go_roundw
     case rel=>exact⟨j+1,by omega,by go_num,HO.u,.inr ⟨j,rfl,HZ.u⟩⟩
     simp[intOf];omega
    have mt:¬ (z:Int)=(tg:Int):=by omega
    rcases i3 with ⟨rfl,K⟩|⟨m9,rfl,hm⟩
    ·have es:=ae K;clear K
     go_wp2_with fail
     go_roundw
     case rel=>exact⟨j+1,by omega,by go_num,HO.u,.inl ⟨rfl,fun j' hj' h9=>(by
      by_cases e9:j'=j
      ·subst e9;rw[HZ.u]at h9;exact c2 (Option.some.inj h9)
      exact es.u j' (by omega) h9)⟩⟩
     simp[intOf];omega
    have HM:=ae hm;clear hm
    go_wp2_with fail
    go_roundw
    case rel=>exact⟨j+1,by omega,by go_num,HO.u,.inr ⟨m9,rfl,HM.u⟩⟩
    simp[intOf];omega
   have b8:¬ (j:Int)<(o.length:Int):=by omega
   obtain rfl:j=o.length:=by omega
   have M:=ak a8.u (fun g hg=>hO.block g (by have:=(a8.u.lt g hg).2;omega));have Q:=ak a9.u (fun g hg=>hO.block g (by have:=(a9.u.lt g hg).2;omega));have gc:Below w4.heap.size w4 w10:=i0.u.trans (hO.blw.mono (by omega));have S:=ae s;have T:=ae M;have U:=ae Q;have e5:=ae gc;clear s M Q gc hO;rcases i3 with ⟨rfl,K⟩|⟨m9,rfl,hm⟩
   ·have e6:eK fs.length fn p0 (o++[tg]) (ys++[o.length]):=by
     have h1:=ga.u;have h2:=g9.u;have:=bz.u.new (x:=x) (by rw[h1.1];exact c1.u) (fun j' hj' h9=>K j' hj' (by rw[h1.2,h2]at h9;exact h9));rw[h1.2,h2]at this;exact this
    have ag:=ae e6;clear e6 K
    go_wp2_with (at_builtin;refine dw rfl _ _ rfl w4.heap.size (.slice oa1 o.length oc1) rfl tg rfl o S.u ?_ ?_ ?_)
    ·omega
    ·omega
    intro ov11 w11 r1 r2 r3;have e7:=r2.own T.u ar.u.symm;have e8:=r2.own U.u aw.u.symm;have a5:=(ar.u.symm.grow T.u r3).symm;have D:=(aw.u.symm.grow U.u r3).symm;have ea:Below w4.heap.size w4 w11:=e5.u.trans (r2.belowG S.u lR (by omega));have mi:=ea.size;obtain⟨o2,cx⟩ : ∃ o2,o2=o++[tg]:=⟨_,rfl⟩;have r1:w11.ownsRow w4.heap.size 3 1 ov11 o2.length (o2.map mN):=by rw[cx,List.length_append,List.map_append];exact r1
    rw[<-cx]at ag;have gf:o2[i]?=some x:=by rw[cx,List.getElem?_append_left g5];exact c1.u
    have c2:(o2.take (i+1)).map A.ac=zs2:=by rw[cx,List.take_append_of_le_length (by omega)];exact cb.u
    have gg:∀ x∈o2,x<n/\pv x=(x:Int):=fun x hx=>by
     rw[cx,List.mem_append,List.mem_singleton]at hx;rcases hx with hx|hx
     ·exact c0.u x hx
     rw[hx];exact l0.u
    obtain⟨oa11,oc11,rfl⟩:=aj r1;have eb:=ae r1;have ec:=ae e7;have ee:=ae e8;have ek:=ae a5;have i4:=ae D;have l2:=ae ea;have l3:=ae gf;have l4:=ae c2;have l5:=ae gg;clear r1 r2 r3 e7 e8 a5 D ea cx gf c2 gg S T U e5
    go_wp2_with (at_builtin;refine dw rfl _ _ rfl w4.heap.size (.slice na1 ys.length nc1) rfl o.length rfl ys ec.u ?_ ?_ ?_)
    ·omega
    ·omega
    intro nv12 w12 r1 r2 r3;have V:=r2.own eb.u ek.u;have W:=r2.own ee.u aa.u.symm;have X:=ek.u.grow eb.u r3;have Y:=(aa.u.symm.grow ee.u r3).symm;have c3:Below w4.heap.size w4 w12:=l2.u.trans (r2.belowG ec.u lR (by omega));obtain⟨ys2,v⟩ : ∃ ys2,ys2=ys++[o.length]:=⟨_,rfl⟩;have r1:w12.ownsRow w4.heap.size 3 1 nv12 ys2.length (ys2.map mN):=by rw[v,List.length_append,List.map_append];exact r1
    have J:ys2.length=i*fs.length+(e+1):=by rw[v,List.length_append,ad.u];rfl
    rw[<-v]at ag;have cc:=ae V;have cf:=ae r1;have ch:=ae W;have ck:=ae X;have co:=ae Y;have el:=ae c3;have en:=ae J;clear r1 r2 r3 V W X Y c3 v J;go_wp2
    go_roundw
    case rel=>exact⟨e+1,o2,ys2,by omega,by go_num,l3.u,cc.u,cf.u,ch.u,ck.u,i4.u,co.u,el.u,ag.u,en.u,l4.u,l5.u⟩
    simp[intOf];omega
   have e6:eK fs.length fn p0 o (ys++[m9]):=by
    have h1:=ga.u;have h2:=g9.u;exact bz.u.old (x:=x) (by rw[h1.1];exact c1.u) (by rw[h1.2,h2];exact hm)
   have ag:=ae e6;have ln:¬ (m9:Int)<0:=by omega
   clear e6 hm
   go_wp2_with (at_builtin;refine dw rfl _ _ rfl w4.heap.size (.slice na1 ys.length nc1) rfl m9 rfl ys T.u ?_ ?_ ?_)
   ·omega
   ·omega
   intro nv12 w12 r1 r2 r3;have V:=r2.own S.u ar.u;have W:=r2.own U.u aa.u.symm;have X:=ar.u.grow S.u r3;have Y:=(aa.u.symm.grow U.u r3).symm;have c3:Below w4.heap.size w4 w12:=e5.u.trans (r2.belowG T.u lR (by omega));obtain⟨ys2,v⟩ : ∃ ys2,ys2=ys++[m9]:=⟨_,rfl⟩;have r1:w12.ownsRow w4.heap.size 3 1 nv12 ys2.length (ys2.map mN):=by rw[v,List.length_append,List.map_append];exact r1
   have J:ys2.length=i*fs.length+(e+1):=by rw[v,List.length_append,ad.u];rfl
   rw[<-v]at ag;have cc:=ae V;have cf:=ae r1;have ch:=ae W;have ck:=ae X;have co:=ae Y;have el:=ae c3;have en:=ae J;clear r1 r2 r3 V W X Y c3 v J;go_wp2
   go_roundw
   case rel=>exact⟨e+1,o,ys2,by omega,by go_num,c1.u,cc.u,cf.u,ch.u,ck.u,aw.u,co.u,el.u,ag.u,en.u,cb.u,c0.u⟩
   simp[intOf];omega
  have ks:¬ (e:Int)<(fs.length:Int):=by omega
  obtain rfl:e=fs.length:=by omega
  have J:ys.length=(i+1)*fs.length:=by rw[a7,Nat.add_mul,Nat.one_mul]
  have aq:=ae s;have a8:=ae M;have a9:=ae Q;have ar:=ae a5;have aw:=ae D;have aa:=ae a6;have i0:=ae hB;have bz:=ae an;have ad:=ae J;have cb:=ae c7;have c0:=ae ap;clear s M Q a5 D a6 hB an a7 J c7 ap fa R;go_wp2
  go_roundw
  case rel=>exact⟨i+1,o,ys,zs2,by omega,by go_num,aq.u,a8.u,a9.u,ar.u,aw.u,aa.u,i0.u,bz.u,ad.u,cb.u.symm,c0.u⟩
  simp[intOf];omega
 have e1:¬ (i:Int)<(o.length:Int):=by omega
 obtain rfl:i=o.length:=by omega
 have i5:=le.u.below (er.u.trans (c6.u.mono (by omega))) (by omega);have bn:=ak ct.u (fun g hg=>c6.u.block g (ct.u.lt g hg).2);have l6:rT A (fun j=>(pv j).toNat) fs.length (fun b=>ns[b]?.getD 0) (fun e=>fs[e]?.getD 0) o ys:=yw HW.u (by rw[b0.u];exact HR.u) (by rw[b0.u];exact cs.u) d2.u HN.u a0.u (by have h:=bz.u;rw[kc.u,ls.u]at h;exact h) ad.u;have ezs:zs=o.map A.ac:=by rw[hu.u,List.take_length]
 have l7:zs.length=o.length:=by rw[ezs];simp
 have l8:Below w.heap.size w w6:=j1.u.trans ((er.u.mono (by omega)).trans (c6.u.mono (by omega)));obtain⟨x0,x1,x2,x3,z0,z1,z2,z3⟩:=i5.facts;have la:=(((i5.put0 (u:=.slice oa ns.length oc)).put1 (u:=.int .i64 (fs.length:Nat))).put2 (u:=.slice na1 ys.length nc1)).put3' (u:=.slice aa1 zs.length ac1);have Z:cd (w.heap.size+1) w6 ((((w6.setCell ⟨w.heap.size+1,0,none⟩ (.slice oa ns.length oc)).setCell ⟨w.heap.size+1,1,none⟩ (.int .i64 (fs.length:Nat))).setCell ⟨w.heap.size+1,2,none⟩ (.slice na1 ys.length nc1)).setCell ⟨w.heap.size+1,3,none⟩ (.slice aa1 zs.length ac1)):=(((am _ _).trans (am _ _)).trans (am _ _)).trans (am _ _);have m1:=ae la;have m2:=ae Z;have af:=ae bn;have m3:=ae l6;have m4:=ae ezs;have m5:=ae l7;have m6:=ae l8;clear la Z bn l6 ezs l7 i5 l8;go_wp2;refine bodyPost_ret (jQ m1.u rfl _ rfl) rfl ?_;have Z:=m2.u;have ep:=m6.u;have k1:=ak af.u (fun g hg=>Z.block g (by have:=(af.u.lt g hg).1;omega));have k2:=ak a8.u (fun g hg=>Z.block g (by have:=(a8.u.lt g hg).1;omega));have k3:=ak a9.u (fun g hg=>Z.block g (by have:=(a9.u.lt g hg).1;omega));refine⟨_,_,_,fs.length,rfl,⟨Z.os.trans ep.os,Z.tape.trans ep.tape,Z.output.trans ep.output,Nat.le_trans ep.size (Nat.le_of_eq Z.size.symm),fun k hk=>(Z.block k (by omega)).trans (ep.block k hk)⟩,_,_,_,o,ys,m3.u,by omega,f7,?_,?_,?_⟩
 ·rw[Dh a0.u,List.map_map];have k1:=aS k1 (show w.heap.size<=w3.heap.size by omega);rw[a0.u]at k1;rw[a0.u];exact k1
 ·rw[Du ad.u,List.map_map,<-ad.u];exact aS k2 (by omega)
 rw[Dy,<-m4.u,<-m5.u];exact aS k3 (by omega)
def Gx(u:Value)(t:List El×Int):Prop:=ft u t.2/\aM t.1 t.2/\∃ f,uw t.1 f
theorem CZ:iN Gx:=by
 refine⟨fun h=>h.1,?_,?_,?_,?_,?_⟩
 ·exact⟨ft.e,aM.leaf (Or.inl rfl),_,Gf⟩
 ·intro xs g hc hw;exact⟨ft.s _ _ _ _,aM.leaf (Or.inr rfl),_,FX xs hc (gq hc)⟩
 ·rintro u v l r ⟨hu,hs,f,a⟩ ⟨hv,c,g,b⟩;exact⟨ft.cat hu hv,aM.bin hs c (Or.inl rfl),_,De l.1 r.1 _ f g c a b⟩
 ·rintro u v l r ⟨hu,hs,f,a⟩ ⟨hv,c,g,b⟩;exact⟨ft.alt hu hv,aM.bin hs c (Or.inr rfl),_,CI l.1 r.1 _ f g c a b⟩
 rintro u o mn mx ⟨hu,hs,f,a⟩ o2 o3 o4;exact⟨ft.rep hu o2 o3 o4,aM.rep hs rfl o2 o4,_,CW o.1 mn mx f a (by have:=hs.ne;omega) o2 o3 o4⟩
theorem xR{xs:List El}(h:bw xs):∃ f,uw xs f:=by
 obtain⟨u,c,-,-,h⟩:=jJ CZ h;exact h
theorem bZ.setB{xs:List Int}{j:Nat}{y:Int}(h:bZ xs)(h0:0<=y)(h1:y<=255):bZ (xs.set j y):=fun x hx=>by
 rcases List.mem_or_eq_of_mem_set hx with q|q
 ·exact h x q
 omega
def ud(N D M:Nat)(W0:World)(S:List Int×List Int)(ov:Value)(wx:World):Prop:=∃ bs zs,wx.ownsRow W0.heap.size 5 1 ov bs.length (bs.map mB)/\bZ bs/\bs.length<=M/\bm N D wx zs/\bZ zs/\Mv W0.heap.size D W0 wx/\S=(bs,zs)
def stp(b:Bool)(g:List Int->List Int×List Int)(s:List Int×List Int):List Int×List Int:=if b then (s.1++(g s.2).1,(g s.2).2) else s
theorem uM{g:List Int->List Int×List Int}{bs zs b3 z3:List Int}(h:g zs=(b3,z3)):stp true g (bs,zs)=(bs++b3,z3):=by
 show(bs++(g zs).1,(g zs).2)=_;rw[h]
def DE(y:Int)(s:List Int×List Int):List Int×List Int:=
 if y%8=3/\0<s.1.length then (s.1.set (s.2.headD 0%(s.1.length:Int)).toNat (dB (s.2.tail.headD 0)),s.2.tail.tail) else if y%8=4/\0<s.1.length then (s.1.take (s.1.length-1),s.2) else s
def rf(l r bt:Bool)(g:List Int->List Int×List Int)(xs:List Int):List Int×List Int:=
 if xs.headD 0%8=0 then stp true eW (eW xs.tail)
 else DE (xs.headD 0) (stp (!r||decide (xs.headD 0%8=2)) eW (stp bt g (stp (!l||decide (xs.headD 0%8=1)) eW ([],xs.tail))))
theorem md(N D lo:Nat)(l r bt:Bool)(g9:List Int->List Int×List Int)(v:Value)(t:List El)(hg9:bw t->uw t g9)(hbt:bt=true↔(0<t.length/\bw t))(xs:List Int)(w:World)(h:bm N D w xs)(hx:bZ xs)(hD:D<lo)(hlo:lo<=w.heap.size)(hv:az lo w.heap.size w v t)(ht:t.length<=1048576) :
  Calls prog 13 #[.agg #[.bool l,.bool r,v],.pointer (some ⟨D,0,none⟩)] w (Cw N D 80 (rf l r bt g9 xs) w):=by
 obtain⟨a,cp,rfl,-,-⟩:=id hv;have H:=ae h;have HX:=ae hx;have hh:=hx.head;obtain⟨y,hy⟩ : ∃ y,xs.headD 0=y:=⟨_,rfl⟩;rw[hy]at hh;have HY:=ae hy;have c3:=ae hg9;have a1:=ae hbt;obtain⟨bl,U⟩ : ∃ b,(!l||decide (y%8=1))=b:=⟨_,rfl⟩;obtain⟨br,V⟩ : ∃ b,(!r||decide (y%8=2))=b:=⟨_,rfl⟩;obtain⟨S1,a9⟩ : ∃ S,stp bl eW ([],xs.tail)=S:=⟨_,rfl⟩;obtain⟨S2,aa⟩ : ∃ S,stp bt g9 S1=S:=⟨_,rfl⟩;obtain⟨S3,ab⟩ : ∃ S,stp br eW S2=S:=⟨_,rfl⟩;have HR:Hi (rf l r bt g9 xs=if y%8=0 then stp true eW (eW xs.tail) else DE y S3):=ae (by unfold rf;rw[hy,U,V,a9,aa,ab]);obtain⟨R,b1⟩ : ∃ R,rf l r bt g9 xs=R:=⟨_,rfl⟩;rw[b1]at HR ⊢;have ad:=ae a9;have af:=ae aa;have ag:=ae ab;have b5:=ae U;have b6:=ae V;clear b1 a9 aa ab U V hg9 hbt;have HP:=ae (lj.new w 25 (.bool l) (.bool r) (.slice a t.length cp));have al:=ae (ai w (.cells #[.bool l,.bool r,.slice a t.length cp] 25));have d4:(w.alloc (.cells #[.bool l,.bool r,.slice a t.length cp] 25)).heap.size=w.heap.size+1:=ah _ _;have c4:=ae (H.u.keep al.u (by omega));have T:=ae (Below.mv al.u D);have b7:=ae (hv.below al.u lR);clear h hx hy hv
 go_enter func13,ntmps13
 go_wp2_with fail;generalize w.alloc (.cells #[.bool l,.bool r,.slice a t.length cp] 25)=W0 at *;refine(aC N D xs W0 c4.u HX.u).mono ?_;rintro e w1 ⟨he,b8,an⟩;rw[HY.u]at he;subst he;have c5:w1.heap.size=W0.heap.size:=an.size;have W:=ae (an.mv W0.heap.size);have ao:=ae b8;clear b8 an
 by_cases hk0:y%8=0
 ·go_wp2_with fail;refine(gN N D xs.tail w1 ao.u HX.u.tail (by omega)).mono ?_;rintro e w2 ⟨v2,b2,z2,rfl,ap,a7,d2,a8,b9,aq,bb⟩;obtain⟨oa,oc,rfl⟩:=aj ap;have d5:=aq.size;have c6:=ae ap;have c7:=ae a7;have ca:=ae a8;have cb:=ae b9;have cc:=ae (W.u.trans (aq.mono (by omega)));have cf:=ae bb;clear ap a7 a8 b9 aq bb
  go_wp2_with fail;refine(gN N D z2 w2 ca.u cb.u (by omega)).mono ?_;rintro e w3 ⟨v3,b3,z3,rfl,p,i,X,k,A,d,B⟩;obtain⟨oa3,oc3,rfl⟩:=aj p;have ar:=d.size;have J:=ae p;have K:=ae (c7.u.app i);have L:=ae k;have M:=ae A;have O:=ae (cc.u.trans (d.mono (by omega)));have P:=ae (eQ c6.u d lR (by omega));have Q:Hi (R=(b2++b3,z3)):=ae (by rw[HR.u,if_pos hk0,cf.u];exact uM B);clear p i k A d B
  go_wp2_with (at_builtin;refine ed rfl _ _ rfl w.heap.size _ rfl b2 (by exact gd P.u (by omega)) (by omega) _ rfl b3 (by exact eu J.u (by unfold maxLen;omega)) (by omega) ?_;intro v5 w5 s x Y);have ch:(b2++b3).length<=80:=by rw[List.length_append];omega
  have HF:Hi (Cw N D 80 R w (.returned v5) w5):=⟨_,b2++b3,z3,rfl,x,K.u,ch,L.u.keep s (by omega),M.u,T.u.trans ((O.u.mono (by omega)).trans (Below.mv s D)),Q.u⟩;obtain⟨oa5,oc5,rfl⟩:=aj x;clear s x;go_wp2;go_ret;exact HF.u
 have BP1:=HP.u.blk (W.u.block w.heap.size (by omega) (by omega));obtain⟨p0,p1,p2⟩:=BP1.facts;clear BP1;clear p0 p1 p2;obtain⟨wA,ci⟩ : ∃ wA,w1=wA:=⟨_,rfl⟩;have bc:ud N D 0 W0 ([],xs.tail) (.slice none 0 0) w1:=⟨[],xs.tail,World.ownsRow_nil _ _ _ _,ju,Nat.le_refl _,ao.u,HX.u.tail,W.u,rfl⟩;clear ao ci;have BP:=HP.u.blk (W.u.block w.heap.size (by omega) (by omega));obtain⟨p0,p1,p2⟩:=BP.facts;clear BP
 go_upto_region 6 with fail
 go_cut [25] (fun bv wx=>bv=.bool bl/\w1=wx)
 case first =>
  cases l
  ·go_wp2_with fail;go_meet;exact⟨by rw[<-b5.u];rfl,rfl⟩
  go_wp2_with fail;go_meet;exact⟨by rw[<-b5.u];rfl,rfl⟩
 obtain⟨rfl,av⟩:=hcut;subst av
 go_upto_if 25 with fail
 go_cut [6] (fun ov wx=>ud N D 5 W0 S1 ov wx)
 case first =>
  obtain⟨bs,zs,c,C,Z,E,hz,f,hS⟩:=bc;rw[hS]at ad;clear hS;have F:=f.size;have HO:=ae c;have n:=ae C;have z:=ae E;have HZ:=ae hz;have o:=ae f;clear c C E hz f;cases bl
  ·go_wp2_with fail;go_meet;exact⟨bs,zs,HO.u,n.u,by omega,z.u,HZ.u,o.u,by rw[<-ad.u];rfl⟩
  go_wp2_with fail;refine(gN N D zs w1 z.u HZ.u (by omega)).mono ?_;rintro e w3 ⟨v3,b3,z3,rfl,p,i,X,k,A,d,B⟩;obtain⟨oa3,oc3,rfl⟩:=aj p;have ar:=d.size;have J:=ae p;have K:=ae (n.u.app i);have L:=ae k;have M:=ae A;have O:=ae (o.u.trans (d.mono (by omega)));have P:=ae (eQ HO.u d lR (by omega));have Q:=ae (uM (bs:=bs) B);clear p i k A d B
  go_wp2_with (at_builtin;refine ed rfl _ _ rfl W0.heap.size _ rfl bs (by exact P.u) (by omega) _ rfl b3 (by exact eu J.u (by unfold maxLen;omega)) (by omega) ?_;intro v5 w5 s x Y);have HF:Hi (ud N D 5 W0 S1 v5 w5):=⟨bs++b3,z3,x,K.u,by rw[List.length_append];omega,L.u.keep s (by omega),M.u,O.u.trans (Below.mv s D),by rw[<-ad.u];exact Q.u⟩;obtain⟨oa5,oc5,rfl⟩:=aj x;clear s x
  go_wp2_with fail;go_meet;exact HF.u
 clear bc p0 p1 p2 W c5;obtain⟨bs,zs,c,C,Z,E,hz,f,hS⟩:=hcut;rw[hS]at af;clear hS;have F:=f.size;have HO:=ae c;have n:=ae C;have z:=ae E;have HZ:=ae hz;have o:=ae f;obtain⟨oa,oc,rfl⟩:=aj c;have BP:=HP.u.blk (f.block w.heap.size (by omega) (by omega));obtain⟨p0,p1,p2⟩:=BP.facts;clear BP c C E hz f
 go_upto_region 8 with fail
 go_cut [38] (fun bv wx=>bv=.bool bt/\Below wc.heap.size wc wx)
 case first =>
  by_cases ht0:¬ 0<t.length
  ·have bd:¬ (0:Int)<(t.length:Int):=by omega
   go_wp2_with fail;go_meet;exact⟨by rw[Bool.eq_false_iff.2 (fun q=>ht0 (a1.u.1 q).1)],Below.refl _ _⟩
  have bd:(0:Int)<(t.length:Int):=by omega
  have ck:=ae (((b7.u.mv o.u lR hD)).mono (Nat.zero_le lo) lR)
  go_wp2_with fail;refine(js _ t _ ck.u).mono ?_;rintro e w4 ⟨⟨b4,rfl,G⟩,bf⟩
  go_wp2_with fail;go_meet;exact⟨by rw[show b4=bt from Bool.eq_iff_iff.2 ⟨fun q=>a1.u.2 ⟨by omega,G.1 q⟩,fun q=>G.2 (a1.u.1 q).2⟩],bf⟩
 obtain⟨rfl,G⟩:=hcut;clear p0 p1 p2;have cl:=G.size;have I:=ae (o.u.trans (Below.mv (G.mono F) D));have aw:=ae (eQ HO.u (Below.mv G D) lR (by omega));have a0:=ae (z.u.keep G (by omega));have BP:=HP.u.blk (I.u.block w.heap.size (by omega) (by omega));obtain⟨p0,p1,p2⟩:=BP.facts;have bi:=ae (b7.u.mv I.u lR hD);clear BP G HO z o
 go_upto_if 38 with fail
 go_cut [6] (fun ov wx=>ud N D 65 W0 S2 ov wx)
 case first =>
  cases bt
  ·go_wp2_with fail;go_meet;exact⟨bs,zs,aw.u,n.u,by omega,a0.u,HZ.u,I.u,by rw[<-af.u];rfl⟩
  have bj:=c3.u (a1.u.1 rfl).2;have HS:=ae bj;clear bj
  go_wp2_with fail;refine(HS.u N D lo _ zs _ a0.u HZ.u hD (by omega) bi.u ht).mono ?_;rintro e w3 ⟨v3,b3,z3,rfl,p,i,X,k,A,d,B⟩;obtain⟨oa3,oc3,rfl⟩:=aj p;have ar:=d.size;have J:=ae p;have K:=ae (n.u.app i);have L:=ae k;have M:=ae A;have O:=ae (I.u.trans (d.mono (by omega)));have P:=ae (eQ aw.u d lR (by omega));have Q:=ae (uM (bs:=bs) B);clear p i k A d B
  go_wp2_with (at_builtin;refine ed rfl _ _ rfl W0.heap.size _ rfl bs (by exact P.u) (by omega) _ rfl b3 (by exact eu J.u (by unfold maxLen;omega)) (by omega) ?_;intro v5 w5 s x Y);have HF:Hi (ud N D 65 W0 S2 v5 w5):=⟨bs++b3,z3,x,K.u,by rw[List.length_append];omega,L.u.keep s (by omega),M.u,O.u.trans (Below.mv s D),by rw[<-af.u];exact Q.u⟩;obtain⟨oa5,oc5,rfl⟩:=aj x;clear s x
  go_wp2_with fail;go_meet;exact HF.u
 clear aw n a0 HZ I bi p0 p1 p2 Z F cl;obtain⟨bs,zs,c,C,Z,E,hz,f,hS⟩:=hcut;rw[hS]at ag;clear hS;have F:=f.size;have HO:=ae c;have n:=ae C;have z:=ae E;have HZ:=ae hz;have o:=ae f;obtain⟨oa,oc,rfl⟩:=aj c;have BP:=HP.u.blk (f.block w.heap.size (by omega) (by omega));obtain⟨p0,p1,p2⟩:=BP.facts;clear BP c C E hz f
 go_upto_region 10 with fail
 go_cut [51] (fun bv wx=>bv=.bool br/\wc=wx)
 case first =>
  cases r
  ·go_wp2_with fail;go_meet;exact⟨by rw[<-b6.u];rfl,rfl⟩
  go_wp2_with fail;go_meet;exact⟨by rw[<-b6.u];rfl,rfl⟩
 obtain⟨rfl,av⟩:=hcut;subst av
 go_upto_if 51 with fail
 go_cut [6] (fun ov wx=>ud N D 70 W0 S3 ov wx)
 case first =>
  cases br
  ·go_wp2_with fail;go_meet;exact⟨bs,zs,HO.u,n.u,by omega,z.u,HZ.u,o.u,by rw[<-ag.u];rfl⟩
  go_wp2_with fail;refine(gN N D zs _ z.u HZ.u (by omega)).mono ?_;rintro e w3 ⟨v3,b3,z3,rfl,p,i,X,k,A,d,B⟩;obtain⟨oa3,oc3,rfl⟩:=aj p;have ar:=d.size;have J:=ae p;have K:=ae (n.u.app i);have L:=ae k;have M:=ae A;have O:=ae (o.u.trans (d.mono (by omega)));have P:=ae (eQ HO.u d lR (by omega));have Q:=ae (uM (bs:=bs) B);clear p i k A d B
  go_wp2_with (at_builtin;refine ed rfl _ _ rfl W0.heap.size _ rfl bs (by exact P.u) (by omega) _ rfl b3 (by exact eu J.u (by unfold maxLen;omega)) (by omega) ?_;intro v5 w5 s x Y);have HF:Hi (ud N D 70 W0 S3 v5 w5):=⟨bs++b3,z3,x,K.u,by rw[List.length_append];omega,L.u.keep s (by omega),M.u,O.u.trans (Below.mv s D),by rw[<-ag.u];exact Q.u⟩;obtain⟨oa5,oc5,rfl⟩:=aj x;clear s x
  go_wp2_with fail;go_meet;exact HF.u
 clear HO n z HZ o p0 p1 p2 Z F;obtain⟨bs,zs,c,C,Z,E,hz,f,hS⟩:=hcut;rw[hS,if_neg hk0]at HR;clear hS;have F:=f.size;have HO:=ae c;have n:=ae C;have z:=ae E;have HZ:=ae hz;have o:=ae f;obtain⟨oa,oc,rfl⟩:=aj c;have BP:=HP.u.blk (f.block w.heap.size (by omega) (by omega));obtain⟨p0,p1,p2⟩:=BP.facts;clear BP c C E hz f
 by_cases hk3:y%8=3
 ·by_cases hp:0<bs.length
  ·have a2:(0:Int)<(bs.length:Int):=by omega
   have a3:¬ (bs.length:Int)<=0:=by omega
   have a4:¬ y%8=4:=by omega
   have co:=HZ.u.head;obtain⟨y2,ax⟩ : ∃ y2,zs.headD 0=y2:=⟨_,rfl⟩;rw[ax]at co;have bn:=ae ax;clear ax;obtain⟨j,hj⟩ : ∃ j:Nat,y2%(bs.length:Int)=(j:Int):=⟨(y2%(bs.length:Int)).toNat,by have:=Int.emod_nonneg y2 (b:=(bs.length:Int)) (by omega);omega⟩;have bo:j<bs.length:=by have:=Int.emod_lt_of_pos y2 (b:=(bs.length:Int)) (by omega);omega
   have d3:(j:Int)<(bs.length:Int):=by omega
   obtain⟨g,cap,cr,cs⟩:=zk HO.u hp
   injection cr with e1 e2 e3
   subst e1;subst e3;clear e2
   go_wp2_with fail;refine(aC N D zs _ z.u HZ.u).mono ?_;rintro e w6 ⟨he,bq,a5⟩;rw[bn.u]at he;subst he;have d6:w6.heap.size=_:=a5.size;have ct:=ae (eQ HO.u (a5.mv _) lR (by omega));have cv:=ae bq;have cw:=ae (o.u.trans (a5.mv W0.heap.size));clear bq a5;have b0:=fm (y:=zs.tail.headD 0);obtain⟨b,hb⟩ : ∃ b,dB (zs.tail.headD 0)=b:=⟨_,rfl⟩;rw[hb]at b0;have bx:=ae hb;clear hb
   go_wp2_with fail;refine(cJ N D zs.tail w6 cv.u HZ.u.tail).mono ?_;rintro e w7 ⟨he,bz,a6⟩;rw[bx.u]at he;subst he;have d8:w7.heap.size=w6.heap.size:=a6.size;have c0:=ae (eQ ct.u (a6.mv _) lR (by omega));have cx:=ae bz;have cy:=ae (cw.u.trans (a6.mv W0.heap.size));obtain⟨d7,f7⟩:=xA c0.u bo;have c1:Hi (Below W0.heap.size w7 (w7.setCell ⟨g,j,none⟩ (.int .u8 b))):=aI (Below.refl W0.heap.size w7) cs _;have d0:=ae (zQ (y:=b) c0.u bo);clear bz a6;go_wp2;go_ret;exact⟨_,bs.set j b,zs.tail.tail,rfl,by rw[List.length_set];exact gd d0.u (by omega),n.u.setB b0.1 b0.2,by rw[List.length_set];omega,cx.u.keep c1.u (by omega),HZ.u.tail.tail,T.u.trans ((cy.u.trans (Below.mv c1.u D)).mono (by omega)),by rw[HR.u];unfold DE;rw[if_pos ⟨hk3,hp⟩];show(bs.set (zs.headD 0%(bs.length:Int)).toNat (dB (zs.tail.headD 0)),zs.tail.tail)=_;rw[bn.u,hj,Int.toNat_natCast,bx.u]⟩
  have a2:¬ (0:Int)<(bs.length:Int):=by omega
  have a3:(bs.length:Int)<=0:=by omega
  have a4:¬ y%8=4:=by omega
  go_wp2;go_ret;exact⟨_,bs,zs,rfl,gd HO.u (by omega),n.u,by omega,z.u,HZ.u,T.u.trans (o.u.mono (by omega)),by rw[HR.u];unfold DE;rw[if_neg (fun q=>hp q.2),if_neg (fun q=>hp q.2)]⟩
 by_cases a4:y%8=4
 ·by_cases hp:0<bs.length
  ·have a2:(0:Int)<(bs.length:Int):=by omega
   have a3:¬ (bs.length:Int)<=0:=by omega
   have c2:=mK HO.u (by omega);have d1:=c2.2;unfold maxLen at d1;obtain⟨q,hq⟩ : ∃ q,bs.length=q+1:=⟨bs.length-1,by omega⟩;have HT:=ae (mA HO.u (m:=q) (by omega) (by omega));rw[hq]at a2 a3 c2 ⊢;go_wp2;go_ret;exact⟨_,bs.take q,zs,rfl,by rw[List.length_take,Nat.min_eq_left (by omega),List.map_take];exact gd HT.u (by omega),n.u.take q,by rw[List.length_take];omega,z.u,HZ.u,T.u.trans (o.u.mono (by omega)),by rw[HR.u];unfold DE;rw[if_neg (fun q=>hk3 q.1),if_pos ⟨a4,hp⟩];show(bs.take (bs.length-1),zs)=_;rw[hq,Nat.add_sub_cancel]⟩
  have a2:¬ (0:Int)<(bs.length:Int):=by omega
  have a3:(bs.length:Int)<=0:=by omega
  go_wp2;go_ret;exact⟨_,bs,zs,rfl,gd HO.u (by omega),n.u,by omega,z.u,HZ.u,T.u.trans (o.u.mono (by omega)),by rw[HR.u];unfold DE;rw[if_neg (fun q=>hp q.2),if_neg (fun q=>hp q.2)]⟩
 go_wp2;go_ret;exact⟨_,bs,zs,rfl,gd HO.u (by omega),n.u,by omega,z.u,HZ.u,T.u.trans (o.u.mono (by omega)),by rw[HR.u];unfold DE;rw[if_neg (fun q=>hk3 q.1),if_neg (fun q=>a4 q.1)]⟩
theorem nS(l r:Bool)(t:List El):∃ F:List Int->List Int×List Int,∀ (N D lo:Nat) (v:Value) (xs:List Int) (w:World),bm N D w xs->bZ xs->D<lo->lo<=w.heap.size->az lo w.heap.size w v t->t.length<=1048576->
  Calls prog 13 #[.agg #[.bool l,.bool r,v],.pointer (some ⟨D,0,none⟩)] w (Cw N D 80 (F xs) w):=by
 obtain⟨g,hg⟩ : ∃ g,bw t->uw t g:=by
  by_cases h:bw t
  ·obtain⟨g,hg⟩:=xR h;exact⟨g,fun _=>hg⟩
  exact⟨eF,fun q=>absurd q h⟩
 obtain⟨bt,b⟩ : ∃ bt:Bool,bt=true↔(0<t.length/\bw t):=by
  by_cases h:0<t.length/\bw t
  ·exact⟨true,fun _=>h,fun _=>rfl⟩
  exact⟨false,fun q=>Bool.noConfusion q,fun q=>absurd q h⟩
 exact⟨rf l r bt g,fun N D lo v xs w h1 h2 h3 h4 h5 h6=>md N D lo l r bt g v t hg b xs w h1 h2 h3 h4 h5 h6⟩
/-! One element of a tree of one's own is written anew. -/
theorem Dd{w:World}{ops:Array Oper}{rest:List Oper}{o:Oper}{a:Act}{Q:Exit->Act->World->Prop}(hgd:o.guard=none)(s x:Operand)
  (ho:o.op=.call { callee:=.builtin .append,args:=#[s,x],argTypes:=#[30,30] })(base:Nat)(v:Value)(hs:a.eval s=v)(y:Int)(hx:a.eval x=.slice (some ⟨w.heap.size,0,none⟩) 1 1)(n:Nat)(xs:List Int)(hn:n=xs.length)
  (h1:w.ownsRow base 3 1 v n (xs.map mI))(hb:base<=w.heap.size)(hl:n<=2000000)
  (h:∀ v' w',w'.ownsRow base 3 1 v' (n+1) ((xs++[y]).map mI)->w.grownBy w' v.ownBlock->wpList prog ops Q rest (a.put o.dst v') w'):wpList prog ops Q (o::rest) a (w.alloc (.cells #[.int .i64 y] 3)):=by
 subst hn;obtain⟨i0,hi,b,c,d⟩:=info_parts Tryz.zinInt;refine wpList_append_own_at _ hgd s x 30 ho base 3 i0 (.int .i64 0) 1 8 underlying30 hi b c d rfl (by decide) v xs.length (xs.map mI) hs (h1.alloc _) ⟨w.heap.size,0,none⟩ 1 1 [.int .i64 y] hx rfl (fun j y hj=>by
  match j,hj with
  | 0,hj=>exact(au w _).news 0 _ hj) (fun u hu=>by rw[List.mem_singleton]at hu;subst hu;rfl) (by unfold maxLen;omega) (by omega) (by rw[ah];omega) ?_
 intro v' w' r1 r2 _ r3;refine h v' w' ?_ ?_
 ·rw[List.map_append];exact r1
 have hB:=ai w (.cells #[.int .i64 y] 3);have hz:=ah w (.cells #[.int .i64 y] 3);exact⟨r2.os.trans hB.os,r2.tape.trans hB.tape,r2.output.trans hB.output,Nat.le_trans hB.size r2.size,fun k hk hne=>(r2.block k (by omega) hne).trans (hB.block k hk)⟩
theorem gy.mv{base lo D:Nat}{w w':World}{v:Value}{xs:List El}(h:gy base w v xs)(hm:Mv lo D w w')(hl:w.heap.size<=lo)(hD:D<base):gy base w' v xs:=by
 obtain⟨ps,e,h1,h2⟩:=h;refine⟨ps,e,⟨eQ h1.own hm hl hD,fun p hp=>(h1.set p hp).same (fun k hk=>?_),fun p hp k hk=>?_,h1.dis⟩,fun p hp=>⟨eQ (h2 p hp).1 hm hl hD,(h2 p hp).2⟩⟩
 ·have:=h1.blk p hp k hk;exact hm.block k (by omega) (by omega)
 have:=h1.blk p hp k hk;have:=hm.size;exact⟨(h1.blk p hp k hk).1,by omega,(h1.blk p hp k hk).2.2⟩
theorem aY.at{xs:List El}(h:aY xs)(i:Nat):aA (xs[i]?.getD dE).kind/\aA (xs[i]?.getD dE).mn/\aA (xs[i]?.getD dE).mx/\∀ j:Nat,aA ((xs[i]?.getD dE).set[j]?.getD 0):=h.num i
theorem zC{base g cap i:Nat}{w':World}{v:Value}{t:List El}{x':El}{s':Value}{sv:Nat->Value}(hn:aY t)(hv:v=.slice (some ⟨g,0,none⟩) t.length cap)(hc:t.length<=cap/\cap<=maxLen)(hg:base<=g)(hg2:g<w'.heap.size)
  (hoth:∀ j:Nat,j<t.length->j≠i->kP w' g (j*4) (t[j]?.getD dE) (sv j)/\aT base w'.heap.size w' (sv j) (t[j]?.getD dE).set)(h4:kP w' g (i*4) x' s')(hx:aA x'.kind/\aA x'.mn/\aA x'.mx)(hs:aT base w'.heap.size w' s' x'.set):az base w'.heap.size w' v (iT t i x'):=by
 have hl:(iT t i x').length=t.length:=by simp[iT]
 refine⟨some ⟨g,0,none⟩,cap,by rw[hl];exact hv,by rw[hl];exact hc,fun _=>⟨g,0,rfl,hg,hg2,fun j hj=>?_⟩⟩;rw[hl]at hj;rw[Nat.zero_add]
 by_cases e:j=i
 ·subst e;have ee:(iT t j x')[j]?.getD dE=x':=by unfold iT;rw[List.getElem?_set_self hj];rfl
  rw[ee];obtain⟨q0,q1,q2,q3⟩:=h4;exact⟨hx.1,hx.2.1,hx.2.2,s',q0,q1,q2,q3,hs⟩
 have ee:(iT t i x')[j]?.getD dE=t[j]?.getD dE:=by unfold iT;rw[List.getElem?_set_ne (fun q=>e q.symm)]
 rw[ee];obtain⟨⟨q0,q1,q2,q3⟩,a⟩:=hoth j hj e;have:=hn.at j;exact⟨this.1,this.2.1,this.2.2.1,sv j,q0,q1,q2,q3,a⟩
structure vU (base i:Nat) (w:World) (v:Value) (t:List El) (g cap:Nat) (s:Value):Prop where
 val:v=.slice (some ⟨g,0,none⟩) t.length cap
 cap:t.length<=cap/\cap<=maxLen
 lo:base<=g
 hi:g<w.heap.size
 free:vT w g
 typ:∃ c t',w.heap[g]?=some (.cells c t' (0,0))/\t'≠3
 el:kP w g (i*4) (t[i]?.getD dE) s
 own:w.ownsRow base 3 1 s (t[i]?.getD dE).set.length ((t[i]?.getD dE).set.map mI)
 ne:s.ownBlock≠some g
 put:∀ (W:World) (x':El) (s' u:Value) (c:Nat),c<4->w.grownBy W s.ownBlock->kP (W.setCell ⟨g,i*4+c,none⟩ u) g (i*4) x' s'->aA x'.kind/\aA x'.mn/\aA x'.mx->aT base W.heap.size (W.setCell ⟨g,i*4+c,none⟩ u) s' x'.set->az base (W.setCell ⟨g,i*4+c,none⟩ u).heap.size (W.setCell ⟨g,i*4+c,none⟩ u) v (iT t i x')
theorem gy.at{base i:Nat}{w:World}{v:Value}{t:List El}(h:gy base w v t)(hn:aY t)(hi:i<t.length):∃ g cap s,vU base i w v t g cap s:=by
 obtain⟨ps,rfl,h1,h2⟩:=h;rw[List.length_map]at hi;have a:(ps.map Pc.x).length=ps.length:=List.length_map ..;rcases h1.own.2 with ⟨rfl,hz⟩|⟨g,cap,cur,rfl,d,f,l,m,B,o⟩
 ·omega
 have hlt:=(h1.own.lt g rfl).2;have n:∀ j (hj:j<ps.length),kP w g (j*4) ps[j].x ps[j].s:=fun j hj=>by
  have hp:ps[j]?=some ps[j]:=List.getElem?_eq_getElem hj;have hc:∀ c,c<4->w.cell? ⟨g,j*4+c,none⟩=(eH ps[j].x ps[j].s)[c]? :=fun c hc=>by
   rw[h1.own.cellAt (j*4+c) (by omega)];exact nf ps j _ hp c hc
  exact⟨hc 0 (by omega),hc 1 (by omega),hc 2 (by omega),hc 3 (by omega)⟩
 have hx:∀ j (hj:j<ps.length),(ps.map Pc.x)[j]?.getD dE=ps[j].x:=fun j hj=>by rw[List.getElem?_map,List.getElem?_eq_getElem hj];rfl
 have hm:∀ j (hj:j<ps.length),ps[j]∈ps:=fun j hj=>List.getElem_mem hj
 have b:∀ j (hj:j<ps.length),ps[j].s.ownBlock≠some g:=fun j hj e=>(h1.blk _ (hm j hj) g ((h2 _ (hm j hj)).2 g e)).2.2 rfl
 refine⟨g,cap,ps[i].s,by rw[a],by rw[a];exact⟨l,m⟩,d,hlt,⟨cur,_,f⟩,⟨cur,_,f,by decide⟩,by rw[hx i hi];exact n i hi,by rw[hx i hi];exact(h2 _ (hm i hi)).1,b i hi,?_⟩;intro W x' s' u c hc hg h4 p hs;have r:W.heap[g]?=w.heap[g]? :=hg.block g hlt (fun e=>b i hi e.symm);have hz:(W.setCell ⟨g,i*4+c,none⟩ u).heap.size=W.heap.size:=aJ _ _ _;have C:=hg.size;rw[hz];have key:=zC (base:=base) (g:=g) (cap:=cap) (i:=i) (w':=W.setCell ⟨g,i*4+c,none⟩ u) (v:=.slice (some ⟨g,0,none⟩) ps.length cap) (t:=ps.map Pc.x) (x':=x') (s':=s') (sv:=fun j=>(ps[j]?.map Pc.s).getD undef) hn (by rw[a]) (by rw[a];exact⟨l,m⟩) d (by rw[hz];omega) (fun j hj hne=>?_) h4 p (by rw[hz];exact hs)
 ·rw[hz]at key;exact key
 rw[a]at hj;have e1:(ps[j]?.map Pc.s).getD undef=ps[j].s:=by rw[List.getElem?_eq_getElem hj];rfl
 simp only[e1];rw[hx j hj,hz];refine⟨((n j hj).same r).put (by omega),?_⟩;have ho:w.ownsRow base 3 1 ps[j].s ps[j].x.set.length (ps[j].x.set.map mI):=(h2 _ (hm j hj)).1;have y:∀ k,ps[j].s.ownBlock=some k->ps[i].s.ownBlock≠some k:=fun k e1 e2=>by
  have q1:=(h2 _ (hm j hj)).2 k e1;have q2:=(h2 _ (hm i hi)).2 k e2;rcases Nat.lt_or_gt_of_ne hne with hl|hl
  ·exact List.pairwise_iff_getElem.1 h1.dis j i hj hi hl k q1 q2
  exact List.pairwise_iff_getElem.1 h1.dis i j hi hj hl k q2 q1
 have z:W.ownsRow base 3 1 ps[j].s ps[j].x.set.length (ps[j].x.set.map mI):=ho.kept hg (by
  cases hk:ps[j].s.ownBlock with
  | none=>exact .inl rfl
  | some k=>exact .inr (fun e=>y k hk e.symm))
 have A:(W.setCell ⟨g,i*4+c,none⟩ u).ownsRow base 3 1 ps[j].s ps[j].x.set.length (ps[j].x.set.map mI):=z.kept (row:=some g) ⟨rfl,rfl,rfl,Nat.le_of_eq (aJ _ _ _).symm,fun k _ hk=>Below.heap_setCell _ _ _ _ (by show k≠g;exact fun e=>hk (by rw[e]))⟩ (by
  cases hk:ps[j].s.ownBlock with
  | none=>exact .inl rfl
  | some k=>exact .inr (by rw[<-hk];exact b j hj))
 have D:ps[j].x.set.length<=1048576:=by have:=hn.len j;rw[hx j hj]at this;exact this
 have h5:=(bP A lR (by unfold maxLen;omega)).ints (fun q=>by have:=(hn.at j).2.2.2 q;rw[hx j hj]at this;exact this);rw[hz]at h5;exact h5
theorem oQ(w:World)(g o:Nat)(u:Value):w.grownBy (w.setCell ⟨g,o,none⟩ u) (some g):=⟨rfl,rfl,rfl,Nat.le_of_eq (aJ _ _ _).symm,fun k _ hk=>Below.heap_setCell _ _ _ _ (by show k≠g;exact fun e=>hk (by rw[e]))⟩
theorem kP.putS{w:World}{b o:Nat}{x:El}{sv:Value}(h:kP w b o x sv)(cs:List Int)(u:Value):kP (w.setCell ⟨b,o+1,none⟩ u) b o ⟨x.kind,cs,x.mn,x.mx⟩ u:=by
 obtain⟨h0,h1,h2,h3⟩:=h;exact⟨by rw[aE (Or.inr (by omega))];exact h0,dI h1,by rw[aE (Or.inr (by omega))];exact h2,by rw[aE (Or.inr (by omega))];exact h3⟩
theorem CQ(w:World){a b c d:Int}(ha:aA a)(hb:aA b)(hc:aA c)(hd:aA d):aT w.heap.size (w.alloc (.cells #[.int .i64 a,.int .i64 b,.int .i64 c,.int .i64 d] 3)).heap.size (w.alloc (.cells #[.int .i64 a,.int .i64 b,.int .i64 c,.int .i64 d] 3)) (.slice (some ⟨w.heap.size,0,none⟩) 4 4) [a,b,c,d]:=by
 refine⟨_,4,rfl,by unfold maxLen;simp,fun i=>?_,fun _=>⟨w.heap.size,0,rfl,Nat.le_refl _,by rw[ah];exact Nat.lt_succ_self _,fun i hi=>?_⟩⟩
 ·match i with
  | 0=>exact ha
  | 1=>exact hb
  | 2=>exact hc
  | 3=>exact hd
  | i+4=>simp[aA]
 have e:i<4:=hi
 match i,e with
 | 0,_=>exact(au w _).news 0 _ rfl
 | 1,_=>exact(au w _).news 1 _ rfl
 | 2,_=>exact(au w _).news 2 _ rfl
 | 3,_=>exact(au w _).news 3 _ rfl
theorem vU.keepS{base i g cap:Nat}{w:World}{v s:Value}{t:List El}(h:vU base i w v t g cap s)(hn:aY t)(o:Nat)(u:Value):aT base w.heap.size (w.setCell ⟨g,o,none⟩ u) s (t[i]?.getD dE).set:=by
 have a:(w.setCell ⟨g,o,none⟩ u).ownsRow base 3 1 s (t[i]?.getD dE).set.length ((t[i]?.getD dE).set.map mI):=h.own.kept (row:=some g) (oQ _ _ _ _) (.inr h.ne);have b:=hn.len i;have h5:=(bP a lR (by unfold maxLen;omega)).ints (hn.at i).2.2.2;rw[aJ]at h5;exact h5
theorem vU.nofz{base i g cap:Nat}{w:World}{v s:Value}{t:List El}(h:vU base i w v t g cap s)(o:Nat):w.frozen? ⟨g,o,none⟩=false:=by
 obtain⟨c,ty,hc⟩:=h.free;simp[World.frozen?,hc]
theorem fC(w:World)(r:Option Nat):w.grownBy w r:=⟨rfl,rfl,rfl,Nat.le_refl _,fun _ _ _=>rfl⟩
theorem gy.e{base:Nat}{w:World}{v:Value}{xs:List El}(h:gy base w v xs):aQ base w v xs:=by
 obtain⟨ps,e,h1,-⟩:=h;exact⟨ps,e,h1⟩
theorem ke{N D i g cp:Nat}{w w3:World}{t:List El}{s2 v0 v:Value}{zs cs:List Int}{O:Obj}(hsp:vU w.heap.size i w3 v0 t g cp s2)(hI:aA (t[i]?.getD dE).kind/\aA (t[i]?.getD dE).mn/\aA (t[i]?.getD dE).mx/\∀ j:Nat,aA ((t[i]?.getD dE).set[j]?.getD 0))(hc:bm N D w3 zs)(hm:Mv w.heap.size D w w3)(hD:D<w.heap.size)(hz:w.heap.size<=w3.heap.size)(hhi:g<w3.heap.size)(hlo:w.heap.size<=g)(hi:aT w3.heap.size (w3.alloc O).heap.size (w3.alloc O) v cs) :
  zd N D w.heap.size w (iT t i ⟨(t[i]?.getD dE).kind,cs,(t[i]?.getD dE).mn,(t[i]?.getD dE).mx⟩,zs) (.returned v0) ((w3.alloc O).setCell ⟨g,i*4+1,none⟩ v):=by
 have a:=ai w3 O;have b:kP (w3.alloc O) g (i*4) (t[i]?.getD dE) s2:=hsp.el.same (a.block g hhi);have c:w3.grownBy (w3.alloc O) s2.ownBlock:=⟨a.os,a.tape,a.output,a.size,fun k hk _=>a.block k hk⟩;refine⟨⟨_,rfl,?_⟩,(hc.keep a (by omega)).keep (aI (Below.refl w.heap.size _) (by omega) _) (by omega),(hm.trans (eD a D (by omega))).trans (Below.mv (aI (Below.refl w.heap.size _) (by omega) _) D)⟩;exact(hsp.put _ ⟨(t[i]?.getD dE).kind,cs,(t[i]?.getD dE).mn,(t[i]?.getD dE).mx⟩ v _ 1 (by omega) c (b.putS _ _) ⟨hI.1,hI.2.1,hI.2.2.1⟩ ((hi.same ((ew.refl _ _ _).setCell (Or.inl hhi) _)).mono (by omega) lR)).mono lR lR
theorem rZ(N D lo:Nat)(tv:Value)(t:List El)(xs:List Int)(w:World)(h:bm N D w xs)(hx:bZ xs)(hD:D<lo)(hlo:lo<=w.heap.size)(htv:az lo w.heap.size w tv t)(hn:NL 700 t)(ht:0<t.length) :
  Calls prog 29 #[tv,.pointer (some ⟨D,0,none⟩)] w (zd N D w.heap.size w (gH t xs)):=by
 have H:=ae h;have HX:=ae hx;have hh:=hx.head;have a8:=hx.tail.head;have a9:=hx.tail.tail.head;have hl:=hn.len;have HN:=ae hn.nice;have aa:=ae htv;obtain⟨ta,tc,rfl,-⟩:=htv;obtain⟨y,hy⟩ : ∃ y,xs.headD 0=y:=⟨_,rfl⟩;obtain⟨y2,C⟩ : ∃ y,xs.tail.headD 0=y:=⟨_,rfl⟩;obtain⟨y3,E⟩ : ∃ y,xs.tail.tail.headD 0=y:=⟨_,rfl⟩;rw[hy]at hh;rw[C]at a8;rw[E]at a9;obtain⟨i,hi⟩ : ∃ i:Nat,(y2%(t.length:Int)).toNat=i:=⟨_,rfl⟩;have ab:=Int.emod_nonneg y2 (show(t.length:Int)≠0 by omega);have ad:=Int.emod_lt_of_pos y2 (show(0:Int)<t.length by omega);have bb:y2%(t.length:Int)=(i:Int):=by omega
 have K:i<t.length:=by omega
 obtain⟨R,hR⟩ : ∃ R,R=gH t xs:=⟨_,rfl⟩;rw[<-hR];have d:Hi (R=(FN t (y%12) y3 i,if y%12=2 then xs.tail.tail.tail else xs.tail.tail)):=by
  show R=_;rw[hR];unfold gH;rw[hy,C,E,hi]
 have HY:=ae hy;have af:=ae C;have ag:=ae E;have bc:¬ (t.length:Int)=0:=by omega
 clear hy C E h hx hR hi hn ab ad
 go_enter func29,ntmps29
 go_wp2_with fail;refine(qN _ t w (aa.u.mono (Nat.zero_le _) lR) (by omega) HN.u.len).mono ?_;rintro e w1 ⟨v1,rfl,L,F⟩;obtain⟨g,cp,s1,I⟩:=L.at HN.u K;have e1:=I.val;subst e1;have Z:=ae L;have al:=F.size;have a0:=ae (H.u.keep F (by omega));have an:=ae (Below.mv F D);clear L F I
 go_wp2_with fail;refine(aC N D xs w1 a0.u HX.u).mono ?_;rintro e w2 ⟨he,a1,M⟩;rw[HY.u]at he;subst he
 go_wp2_with fail;refine(aC N D xs.tail w2 a1 HX.u.tail).mono ?_;rintro e w3 ⟨he,a2,O⟩;rw[af.u]at he;subst he;have ao:w2.heap.size=w1.heap.size:=M.size;have ap:w3.heap.size=w2.heap.size:=O.size;have f:=ae a2;have P:=(M.mv w1.heap.size).trans (O.mv w1.heap.size);have j:=ae (an.u.trans (P.mono (by omega)));have s:=ae (Z.u.mv P lR (by omega));have Q:w.heap.size<=w3.heap.size:=by omega
 clear a1 a2 M O P Z a0 al ao ap;obtain⟨g2,cp2,s2,c⟩:=s.u.at HN.u K;have e2:=c.val;simp only[Value.slice.injEq,Option.some.injEq,Addr.mk.injEq,and_true,true_and]at e2;obtain⟨rfl,rfl⟩:=e2;have b:=ae c;have v:=c.lo;have l:=c.hi;obtain⟨q0,q1,q2,q3⟩:=c.el;have a3:=c.cap;unfold maxLen at a3;have z0:=c.nofz (i*4);have z1:=c.nofz (i*4+1);have z2:=c.nofz (i*4+2);have z3:=c.nofz (i*4+3);have aq:=HN.u.at i;have HI:=ae (aY.at HN.u i);have hk:0<=y%12/\y%12<12:=by omega
 generalize y%12=k at *;clear c aq;have hc:(k=0∨k=1)∨k=2∨k=3∨k=4∨k=5∨k=6∨k=7∨k=8∨k=9∨k=10∨k=11:=by omega
 clear hk;rcases hc with hc|rfl|rfl|rfl|rfl|rfl|rfl|rfl|rfl|rfl|rfl
 ·rcases hc with rfl|rfl
  all_goals
   go_wp2;go_ret
   first|have e9:R=(iT t i ⟨5,(t[i]?.getD dE).set,(t[i]?.getD dE).mn,(t[i]?.getD dE).mx⟩,xs.tail.tail):=d.u|have e9:R=(iT t i ⟨-1,(t[i]?.getD dE).set,(t[i]?.getD dE).mn,(t[i]?.getD dE).mx⟩,xs.tail.tail):=d.u
   subst e9;refine⟨⟨_,rfl,?_⟩,f.u.keep (aI (Below.refl w.heap.size w3) (by omega) _) (by omega),j.u.trans (Below.mv (aI (Below.refl w.heap.size w3) (by omega) _) D)⟩
   first|exact(b.u.put w3 _ s2 _ 0 (by omega) (fC _ _) (b.u.el.putK 5) ⟨by simp[aA],HI.u.2.1,HI.u.2.2.1⟩ (b.u.keepS HN.u _ _)).mono lR lR|exact(b.u.put w3 _ s2 _ 0 (by omega) (fC _ _) (b.u.el.putK (-1)) ⟨by simp[aA],HI.u.2.1,HI.u.2.2.1⟩ (b.u.keepS HN.u _ _)).mono lR lR
 ·clear q0 q1 q2 q3 z0 z1 z2 z3
  go_wp2_with fail;refine(aC N D xs.tail.tail w3 f.u HX.u.tail.tail).mono ?_;rintro e w4 ⟨he,a4,n⟩;rw[ag.u]at he;subst he;have bd:w4.heap.size=w3.heap.size:=n.size;have ar:=ae a4;have av:=ae (j.u.trans (n.mv _));have aw:=ae (s.u.mv (n.mv w3.heap.size) lR (by omega));clear a4 n b;obtain⟨g3,cp3,s3,c⟩:=aw.u.at HN.u K;have e3:=c.val;simp only[Value.slice.injEq,Option.some.injEq,Addr.mk.injEq,and_true,true_and]at e3;obtain⟨rfl,rfl⟩:=e3;have b:=ae c;have b9:=c.lo;obtain⟨q0,q1,q2,q3⟩:=c.el;have z0:=c.nofz (i*4);have ax:aA (y3%5):=by unfold aA;omega
  clear c;go_wp2;go_ret;have e9:=d.u;subst e9;refine⟨⟨_,rfl,?_⟩,ar.u.keep (aI (Below.refl w.heap.size w4) (by omega) _) (by omega),av.u.trans (Below.mv (aI (Below.refl w.heap.size w4) (by omega) _) D)⟩;exact(b.u.put w4 _ s3 _ 0 (by omega) (fC _ _) (b.u.el.putK _) ⟨ax,HI.u.2.1,HI.u.2.2.1⟩ (b.u.keepS HN.u _ _)).mono lR lR
 ·obtain⟨mq,p⟩ : ∃ m,(t[i]?.getD dE).mn=m:=⟨_,rfl⟩;have S:=ae p;rw[p]at q2;clear p;go_wp2;go_ret;have e9:R=(iT t i ⟨(t[i]?.getD dE).kind,(t[i]?.getD dE).set,wrap64 ((t[i]?.getD dE).mn+1),(t[i]?.getD dE).mx⟩,xs.tail.tail):=d.u;rw[S.u]at e9;subst e9;refine⟨⟨_,rfl,?_⟩,f.u.keep (aI (Below.refl w.heap.size w3) (by omega) _) (by omega),j.u.trans (Below.mv (aI (Below.refl w.heap.size w3) (by omega) _) D)⟩;exact(b.u.put w3 ⟨(t[i]?.getD dE).kind,(t[i]?.getD dE).set,wrap64 (mq+1),(t[i]?.getD dE).mx⟩ s2 (.int .i64 (wrap64 (mq+1))) 2 (by omega) (fC _ _) (b.u.el.putM _) ⟨HI.u.1,uP _,HI.u.2.2.1⟩ (b.u.keepS HN.u _ _)).mono lR lR
 ·obtain⟨mq,p⟩ : ∃ m,(t[i]?.getD dE).mx=m:=⟨_,rfl⟩;have S:=ae p;rw[p]at q3;clear p;go_wp2;go_ret;have e9:R=(iT t i ⟨(t[i]?.getD dE).kind,(t[i]?.getD dE).set,(t[i]?.getD dE).mn,wrap64 ((t[i]?.getD dE).mx-1)⟩,xs.tail.tail):=d.u;rw[S.u]at e9;subst e9;refine⟨⟨_,rfl,?_⟩,f.u.keep (aI (Below.refl w.heap.size w3) (by omega) _) (by omega),j.u.trans (Below.mv (aI (Below.refl w.heap.size w3) (by omega) _) D)⟩;exact(b.u.put w3 ⟨(t[i]?.getD dE).kind,(t[i]?.getD dE).set,(t[i]?.getD dE).mn,wrap64 (mq-1)⟩ s2 (.int .i64 (wrap64 (mq-1))) 3 (by omega) (fC _ _) (b.u.el.putX _) ⟨HI.u.1,HI.u.2.1,uP _⟩ (b.u.keepS HN.u _ _)).mono lR lR
 ·have b0:=HN.u.len i;obtain⟨cs,T⟩ : ∃ cs,(t[i]?.getD dE).set=cs:=⟨_,rfl⟩;have a5:=ae T;have n:=b.u.own;rw[T]at n b0;have HO:=ae n;obtain⟨sa,sc,e6⟩:=aj n;subst e6;clear T n
  go_wp2_with (at_builtin;refine Dd rfl _ _ rfl w.heap.size (.slice sa cs.length sc) rfl 7 rfl cs.length cs rfl HO.u (by omega) (by omega) ?_)
  intro v5 w5 J o;have G:w5.ownsRow w.heap.size 3 1 v5 (cs.length+1) ((cs++[7]).map mI):=by rw[List.map_append];exact J
  clear J;have bf:=o.size;have U:w5.heap[g]?=w3.heap[g]? :=o.block g l (fun e=>b.u.ne e.symm);have a6:Hi (kP w5 g (i*4) (t[i]?.getD dE) (.slice sa cs.length sc)):=b.u.el.same U;obtain⟨r0,r1,r2,r3⟩:=a6.u;have y1:w5.frozen? ⟨g,i*4+1,none⟩=false:=(World.frozen?_of_block (a:=⟨g,i*4+1,none⟩) U).trans z1;have b1:=ae o;have V:Below w.heap.size w3 w5:=(Below.refl w.heap.size w3).grown o (by omega) (fun k hk=>(HO.u.lt k hk).1);have b2:=ae (f.u.keep V (by omega));have b3:=ae (j.u.trans (Below.mv V D));have bi:cs.length+1<=9000000000000000:=by omega
  have a7:v5.ownBlock=none∨v5.ownBlock≠some g:=by
   cases hk5:v5.ownBlock with
   | none=>exact .inl rfl
   | some k =>
    refine .inr (fun e=>?_)
    have e5:k=g:=Option.some.inj e;subst e5;obtain⟨c8,t8,h8,b4⟩:=b.u.typ;rcases G.2 with ⟨rfl,_⟩|⟨g9,cap9,cur9,rfl,bj,x,_⟩
    ·simp[Value.ownBlock]at hk5
    have e6:g9=k:=by simpa[Value.ownBlock]using hk5
    subst e6;rw[U,h8]at x;simp only[Option.some.injEq,Obj.cells.injEq]at x;exact b4 x.2.1
  have b5:Hi (∀ u,aT w.heap.size w5.heap.size (w5.setCell ⟨g,i*4+1,none⟩ u) v5 (cs++[7])):=fun u=>by
   have b6:(w5.setCell ⟨g,i*4+1,none⟩ u).ownsRow w.heap.size 3 1 v5 (cs.length+1) ((cs++[7]).map mI):=G.kept (w':=w5.setCell ⟨g,i*4+1,none⟩ u) (row:=some g) (oQ _ _ _ _) a7;have h6:=(bP b6 lR (by unfold maxLen;omega)).ints (fun q=>by
    by_cases hq:q<cs.length
    ·rw[List.getElem?_append_left hq,<-a5.u];exact HI.u.2.2.2 q
    rw[List.getElem?_append_right (by omega)];cases hq2:q-cs.length with
    | zero=>simp[aA]
    | succ m=>simp[aA])
   rw[aJ]at h6;exact h6
  obtain⟨va5,vc5,e7⟩:=aj G;subst e7;clear G o V;go_wp2;go_ret;have e9:R=(iT t i ⟨(t[i]?.getD dE).kind,(t[i]?.getD dE).set++[7],(t[i]?.getD dE).mn,(t[i]?.getD dE).mx⟩,xs.tail.tail):=d.u;rw[a5.u]at e9;subst e9;refine⟨⟨_,rfl,?_⟩,b2.u.keep (aI (Below.refl w.heap.size w5) (by omega) _) (by omega),b3.u.trans (Below.mv (aI (Below.refl w.heap.size w5) (by omega) _) D)⟩;exact(b.u.put w5 ⟨(t[i]?.getD dE).kind,cs++[7],(t[i]?.getD dE).mn,(t[i]?.getD dE).mx⟩ _ _ 1 (by omega) b1.u (a6.u.putS _ _) ⟨HI.u.1,HI.u.2.1,HI.u.2.2.1⟩ (b5.u _)).mono lR lR
 ·go_wp2;go_ret;rw[<-World.setCell_alloc_past _ _ _ _ l];have e9:=d.u;subst e9;exact ke b.u HI.u f.u j.u (by omega) Q l v (gW w3 (by simp[aA]) (by simp[aA]))
 ·go_wp2;go_ret;rw[<-World.setCell_alloc_past _ _ _ _ l];have e9:=d.u;subst e9;exact ke b.u HI.u f.u j.u (by omega) Q l v (CQ w3 (by simp[aA]) (by simp[aA]) (by simp[aA]) (by simp[aA]))
 ·go_wp2;go_ret;rw[<-World.setCell_alloc_past _ _ _ _ l];have e9:=d.u;subst e9;exact ke b.u HI.u f.u j.u (by omega) Q l v (gW w3 (by simp[aA]) (by simp[aA]))
 ·have b7:=ae (s.u.e.els2 HN.u);have W:(t.take (t.length-1)).length=t.length-1:=by rw[List.length_take];omega
  have HF:Hi (az w.heap.size w3.heap.size w3 (.slice (some ⟨g,0,none⟩) (t.length-1) cp) (t.take (t.length-1))):=by
   have h1:az w.heap.size w3.heap.size w3 (.slice (some ⟨g,0,none⟩) t.length cp) (t.take (t.length-1)++t.drop (t.length-1)):=by rw[List.take_append_drop];exact b7.u
   have h2:=h1.pre;rw[W]at h2;exact h2
  have bl:(0:Int)<=(t.length:Int)-1:=by omega
  have bn:(t.length:Int)-1<=(cp:Int):=by omega
  have bo:((t.length:Int)-1).toNat=t.length-1:=by omega
  go_wp2;go_ret;have e9:=d.u;subst e9;refine⟨⟨_,rfl,?_⟩,f.u,j.u⟩;exact HF.u.mono lR lR
 ·obtain⟨ps,r,z,-⟩:=s.u;have X:=ae z;have Y:=ae r;have b8:ps.length=t.length:=by rw[<-r,List.length_map]
  clear z r
  go_wp2_with (at_builtin;refine iZ ⟨2,[],0,0⟩ (.slice none 0 0) (fun _=>False) rfl _ _ rfl rfl rfl X.u (by omega) (Below.refl _ _) (ij.none _) (fun k hk=>hk.elim) rfl ⟨rfl,rfl,rfl,rfl⟩ (by omega) ?_)
  intro v4 w4 A B;have HF:Hi (aQ w.heap.size w4 v4 (t++[⟨2,[],0,0⟩])):=⟨_,by simp[Y.u],A⟩;have HE:Hi (az w.heap.size w4.heap.size w4 v4 (t++[⟨2,[],0,0⟩])):=HF.u.els2 (HN.u.app (aY.op _ _ _ (by simp[aA]) (by simp[aA]) (by simp[aA])));clear A;go_wp2;go_ret;have e9:=d.u;subst e9;refine⟨⟨_,rfl,?_⟩,f.u.keep B (by omega),j.u.trans (Below.mv B D)⟩;exact HE.u.mono lR lR
 obtain⟨ps,r,z,-⟩:=s.u;have X:=ae z;have Y:=ae r;have b8:ps.length=t.length:=by rw[<-r,List.length_map]
 clear z r
 go_wp2_with (at_builtin;refine iZ ⟨0,[],0,0⟩ (.slice none 0 0) (fun _=>False) rfl _ _ rfl rfl rfl X.u (by omega) (Below.refl _ _) (ij.none _) (fun k hk=>hk.elim) rfl ⟨rfl,rfl,rfl,rfl⟩ (by omega) ?_)
 intro v4 w4 A B;have HF:Hi (aQ w.heap.size w4 v4 (t++[⟨0,[],0,0⟩])):=⟨_,by simp[Y.u],A⟩;have HE:Hi (az w.heap.size w4.heap.size w4 v4 (t++[⟨0,[],0,0⟩])):=HF.u.els2 (HN.u.app (aY.op _ _ _ (by simp[aA]) (by simp[aA]) (by simp[aA])));clear A;go_wp2;go_ret;have e9:=d.u;subst e9;refine⟨⟨_,rfl,?_⟩,f.u.keep B (by omega),j.u.trans (Below.mv B D)⟩;exact HE.u.mono lR lR
def uz(xs:List Int):List Int:=if xs.headD 0%10=0 then (tL xs.tail.tail).2 else if xs.headD 0%10<3 then (gH (dk xs.tail).1 (dk xs.tail).2).2 else (dk xs.tail).2
theorem qJ(N D lo:Nat)(xs:List Int)(w:World)(h:bm N D w xs)(hx:bZ xs)(hD:D<lo)(hlo:lo<=w.heap.size)(hk:xs.headD 0%10=0) :
  Calls prog 12 #[.pointer (some ⟨D,0,none⟩)] w fun e w'=>(∃ v,e=.returned (.agg #[.bool (decide (xs.tail.headD 0%2=0)),.bool (decide (xs.tail.headD 0%3=0)),v])/\az lo w'.heap.size w' v ((tL xs.tail.tail).1))/\(∃ zs,zs=(tL xs.tail.tail).2/\bm N D w' zs/\bZ zs)/\Mv w.heap.size D w w':=by
 have H:=ae h;have HX:=ae hx;have hh:=hx.head;have m:=hx.tail.head;obtain⟨y,hy⟩ : ∃ y,xs.headD 0=y:=⟨_,rfl⟩;obtain⟨y2,a⟩ : ∃ y,xs.tail.headD 0=y:=⟨_,rfl⟩;rw[hy]at hh hk;rw[a]at m ⊢;obtain⟨A,hA⟩ : ∃ A,tL xs.tail.tail=A:=⟨_,rfl⟩;rw[hA];have HA:=ae hA;clear hA;have HY:=ae hy;have n:=ae a;clear hy a h hx;have HP:=ae (lj.new w 25 (.bool false) (.bool false) (.slice none 0 0));have f:=ae (ai w (.cells #[.bool false,.bool false,.slice none 0 0] 25));have C:(w.alloc (.cells #[.bool false,.bool false,.slice none 0 0] 25)).heap.size=w.heap.size+1:=ah _ _;have o:=ae (H.u.keep f.u (by omega));have p:=ae (Below.mv f.u D)
 go_enter func12,ntmps12
 go_wp2_with fail;generalize w.alloc (.cells #[.bool false,.bool false,.slice none 0 0] 25)=W0 at *;refine(aC N D xs W0 o.u HX.u).mono ?_;rintro e w1 ⟨he,g,b⟩;rw[HY.u]at he;subst he;have E:w1.heap.size=W0.heap.size:=b.size;have q:=ae g;have r:=ae (b.mv (w.heap.size+1));clear g b
 go_wp2_with fail;refine(aC N D xs.tail w1 q.u HX.u.tail).mono ?_;rintro e w2 ⟨he,i,c⟩;rw[n.u]at he;subst he;have F:w2.heap.size=w1.heap.size:=c.size;have s:=ae i;have t:=ae (r.u.trans (c.mv _));clear i c
 go_wp2_with fail;refine(lh N D (w.heap.size+1) xs.tail.tail w2 s.u HX.u.tail.tail (by omega) (by omega)).mono ?_;rw[HA.u];rintro e w3 ⟨⟨v3,rfl,j⟩,k,d⟩;have x:=ae j;obtain⟨a3,c3,rfl,-⟩:=j;have G:=d.size;have l:=ae (t.u.trans (d.mono (by omega)));have z:=ae k;have B:Hi (bZ A.2):=by rw[<-HA.u];exact HX.u.tail.tail.tail.tail
 clear k d;have BP:=HP.u.blk (l.u.block w.heap.size (by omega) (by omega));obtain⟨p0,p1,p2⟩:=BP.facts;have z0:=World.rowIs.frozen BP 0;have z1:=World.rowIs.frozen BP 1;have z2:=World.rowIs.frozen BP 2;clear BP;go_wp2;refine bodyPost_ret (v:=.agg #[.bool (decide (y2%2=0)),.bool (decide (y2%3=0)),.slice a3 A.1.length c3]) (by simp[results,results12,go_sem,p0,p1,p2];exact⟨rfl,rfl⟩) rfl ⟨⟨_,rfl,?_⟩,⟨_,rfl,?_,B.u⟩,?_⟩
 ·exact x.u.put3 (lo:=lo) (by omega)
 ·exact z.u.keep (aI (aI (aI (Below.refl w.heap.size w3) lR _) lR _) lR _) (by omega)
 exact p.u.trans ((l.u.mono (by omega)).trans (Below.mv (aI (aI (aI (Below.refl w.heap.size w3) lR _) lR _) lR _) D))
theorem sC(N D lo:Nat)(xs:List Int)(w:World)(h:bm N D w xs)(hx:bZ xs)(hD:D<lo)(hlo:lo<=w.heap.size)(hk:3<=xs.headD 0%10) :
  Calls prog 12 #[.pointer (some ⟨D,0,none⟩)] w fun e w'=>(∃ v,e=.returned (.agg #[.bool (decide (xs.tail.headD 0%4=1)),.bool (decide (5<xs.tail.headD 0%8)),v])/\az lo w'.heap.size w' v ((dk xs.tail).1))/\(∃ zs,zs=(dk xs.tail).2/\bm N D w' zs/\bZ zs)/\Mv w.heap.size D w w':=by
 have H:=ae h;have HX:=ae hx;have hh:=hx.head;have p:=hx.tail.head;obtain⟨y,hy⟩ : ∃ y,xs.headD 0=y:=⟨_,rfl⟩;obtain⟨y2,a⟩ : ∃ y,xs.tail.headD 0=y:=⟨_,rfl⟩;rw[hy]at hh hk;rw[a]at p ⊢;obtain⟨A,hA⟩ : ∃ A,dk xs.tail=A:=⟨_,rfl⟩;obtain⟨bl,c⟩ : ∃ b,decide (y2%4=1)=b:=⟨_,rfl⟩;obtain⟨br,d⟩ : ∃ b,decide (5<y2%8)=b:=⟨_,rfl⟩;have q:=ae (lS xs.tail);have i:=ae (oJ hx.tail);rw[hA]at q i;rw[hA,c,d];have HA:=ae hA;have r:=ae c;have s:=ae d;clear hA c d;have HY:=ae hy;have t:=ae a;clear hy a h hx;have HP:=ae (lj.new w 25 (.bool false) (.bool false) (.slice none 0 0));have j:=ae (ai w (.cells #[.bool false,.bool false,.slice none 0 0] 25));have I:(w.alloc (.cells #[.bool false,.bool false,.slice none 0 0] 25)).heap.size=w.heap.size+1:=ah _ _;have x:=ae (H.u.keep j.u (by omega));have z:=ae (Below.mv j.u D)
 go_enter func12,ntmps12
 go_wp2_with fail;generalize w.alloc (.cells #[.bool false,.bool false,.slice none 0 0] 25)=W0 at *;refine(aC N D xs W0 x.u HX.u).mono ?_;rintro e w1 ⟨he,k,f⟩;rw[HY.u]at he;subst he;have J:w1.heap.size=W0.heap.size:=f.size;have B:=ae k;have C:=ae (f.mv (w.heap.size+1));clear k f;have k0:¬ y%10=0:=by omega
 have k3:¬ y%10<3:=by omega
 go_wp2_with fail;refine(iz N D (w.heap.size+1) xs.tail w1 B.u HX.u.tail (by omega) (by omega)).mono ?_;rw[t.u,HA.u,r.u,s.u];rintro e w2 ⟨⟨v2,rfl,l⟩,m,g⟩;have E:=ae l;obtain⟨a2,c2,rfl,-⟩:=l;have K:=g.size;have F:=ae m;have n:=ae (C.u.trans (g.mono (by omega)));clear m g;have BP:=HP.u.blk (n.u.block w.heap.size (by omega) (by omega));obtain⟨p0,p1,p2⟩:=BP.facts;have z0:=World.rowIs.frozen BP 0;have z1:=World.rowIs.frozen BP 1;have z2:=World.rowIs.frozen BP 2;clear BP;have o:w.heap.size<w2.heap.size:=by omega
 have G:¬ w.heap.size=w2.heap.size:=by omega
 go_wp2;refine bodyPost_ret (v:=.agg #[.bool bl,.bool br,.slice a2 A.1.length c2]) (by simp[results,results12,go_sem,p0,p1,p2,o]) rfl ⟨⟨_,rfl,?_⟩,⟨_,rfl,?_,i.u⟩,?_⟩
 ·exact(E.u.put3 (lo:=lo) (by omega)).below (ai _ _) lR
 ·exact(F.u.keep (aI (aI (aI (Below.refl w.heap.size w2) lR _) lR _) lR _) (by omega)).keep (ai _ _) (by simp only[aJ];omega)
 exact z.u.trans ((n.u.mono (by omega)).trans ((Below.mv (aI (aI (aI (Below.refl w.heap.size w2) lR _) lR _) lR _) D).trans (eD (ai _ _) D (by simp only[aJ];omega))))
theorem qZ(N D lo:Nat)(xs:List Int)(w:World)(h:bm N D w xs)(hx:bZ xs)(hD:D<lo)(hlo:lo<=w.heap.size)(hk:0<xs.headD 0%10/\xs.headD 0%10<3) :
  Calls prog 12 #[.pointer (some ⟨D,0,none⟩)] w fun e w'=>(∃ v,e=.returned (.agg #[.bool (decide (xs.tail.headD 0%4=1)),.bool (decide (5<xs.tail.headD 0%8)),v])/\az lo w'.heap.size w' v ((gH (dk xs.tail).1 (dk xs.tail).2).1))/\(∃ zs,zs=(gH (dk xs.tail).1 (dk xs.tail).2).2/\bm N D w' zs/\bZ zs)/\Mv w.heap.size D w w':=by
 have H:=ae h;have HX:=ae hx;have hh:=hx.head;have t:=hx.tail.head;obtain⟨y,hy⟩ : ∃ y,xs.headD 0=y:=⟨_,rfl⟩;obtain⟨y2,d⟩ : ∃ y,xs.tail.headD 0=y:=⟨_,rfl⟩;rw[hy]at hh hk;rw[d]at t ⊢;obtain⟨A,hA⟩ : ∃ A,dk xs.tail=A:=⟨_,rfl⟩;obtain⟨bl,f⟩ : ∃ b,decide (y2%4=1)=b:=⟨_,rfl⟩;obtain⟨br,g⟩ : ∃ b,decide (5<y2%8)=b:=⟨_,rfl⟩;have i:=ae (lS xs.tail);have a:=ae (oJ hx.tail);rw[hA]at i a;rw[hA,f,g];obtain⟨B,hB⟩ : ∃ B,gH A.1 A.2=B:=⟨_,rfl⟩;rw[hB];have HB:=ae hB;clear hB;have HA:=ae hA;have x:=ae f;have z:=ae g;clear hA f g;have HY:=ae hy;have C:=ae d;clear hy d h hx;have HP:=ae (lj.new w 25 (.bool false) (.bool false) (.slice none 0 0));have m:=ae (ai w (.cells #[.bool false,.bool false,.slice none 0 0] 25));have W:(w.alloc (.cells #[.bool false,.bool false,.slice none 0 0] 25)).heap.size=w.heap.size+1:=ah _ _;have E:=ae (H.u.keep m.u (by omega));have F:=ae (Below.mv m.u D)
 go_enter func12,ntmps12
 go_wp2_with fail;generalize w.alloc (.cells #[.bool false,.bool false,.slice none 0 0] 25)=W0 at *;refine(aC N D xs W0 E.u HX.u).mono ?_;rintro e w1 ⟨he,n,j⟩;rw[HY.u]at he;subst he;have X:w1.heap.size=W0.heap.size:=j.size;have G:=ae n;have I:=ae (j.mv (w.heap.size+1));clear n j;have k0:¬ y%10=0:=by omega
 have k3:y%10<3:=by omega
 go_wp2_with fail;refine(iz N D (w.heap.size+1) xs.tail w1 G.u HX.u.tail (by omega) (by omega)).mono ?_;rw[C.u,HA.u,x.u,z.u];rintro e w2 ⟨⟨v2,rfl,o⟩,p,k⟩;have J:=ae o;obtain⟨a2,c2,rfl,-⟩:=o;have Y:=k.size;have K:=ae p;have L:=ae (I.u.trans (k.mono (by omega)));clear p k;have HQ:=ae (lj.new w2 25 (.bool bl) (.bool br) (.slice a2 A.1.length c2));have l:=ae (ai w2 (.cells #[.bool bl,.bool br,.slice a2 A.1.length c2] 25));have Z:(w2.alloc (.cells #[.bool bl,.bool br,.slice a2 A.1.length c2] 25)).heap.size=w2.heap.size+1:=ah _ _
 go_wp2_with fail;generalize w2.alloc (.cells #[.bool bl,.bool br,.slice a2 A.1.length c2] 25)=W3 at *;have M:=ae (K.u.keep l.u (by omega));have O:=ae (L.u.trans (eD l.u D (by omega)));have P:=ae (J.u.below l.u lR);have Q:0<A.1.length:=by obtain⟨c9,h9,-⟩:=i.u.seg;exact h9.ne
 refine(rZ N D (w.heap.size+1) _ A.1 A.2 W3 M.u a.u (by omega) (by omega) P.u i.u.nl Q).mono ?_;rw[HB.u];rintro e w4 ⟨⟨v4,rfl,q⟩,r,c⟩;have R:=ae q;obtain⟨a4,c4,rfl,-⟩:=q;have a0:=c.size;have s:=ae (O.u.trans (c.mono (by omega)));have BQ:=HQ.u.blk (c.block w2.heap.size (by omega) (by omega));obtain⟨r0,r1,r2⟩:=BQ.facts;have u0:=World.rowIs.frozen BQ 0;have u1:=World.rowIs.frozen BQ 1;have u2:=World.rowIs.frozen BQ 2;have S:=ae r;have T:Hi (bZ B.2):=by
  rw[<-HB.u];show bZ (if A.2.headD 0%12=2 then A.2.tail.tail.tail else A.2.tail.tail)
  split
  ·exact a.u.tail.tail.tail
  exact a.u.tail.tail
 clear r c BQ;have BP:=HP.u.blk (s.u.block w.heap.size (by omega) (by omega));obtain⟨p0,p1,p2⟩:=BP.facts;have z0:=World.rowIs.frozen BP 0;have z1:=World.rowIs.frozen BP 1;have z2:=World.rowIs.frozen BP 2;clear BP;have U:¬ w.heap.size=w2.heap.size:=by omega
 have V:¬ w2.heap.size=w.heap.size:=by omega
 go_wp2;refine bodyPost_ret (v:=.agg #[.bool bl,.bool br,.slice a4 B.1.length c4]) (by simp[results,results12,go_sem,p0,p1,p2]) rfl ⟨⟨_,rfl,?_⟩,⟨_,rfl,?_,T.u⟩,?_⟩
 ·have h5:az (w.heap.size+1) (w4.setCell ⟨w2.heap.size,2,none⟩ (.slice a4 B.1.length c4)).heap.size (w4.setCell ⟨w2.heap.size,2,none⟩ (.slice a4 B.1.length c4)) (.slice a4 B.1.length c4) B.1:=(R.u.same ((ew.refl _ _ _).setCell (Or.inl (by omega)) _)).mono (by omega) (by rw[aJ];exact Nat.le_refl _);exact h5.put3 (lo:=lo) (by omega)
 ·exact S.u.keep (aI (aI (aI (aI (Below.refl w.heap.size w4) (by omega) _) lR _) lR _) lR _) (by omega)
 exact F.u.trans ((s.u.mono (by omega)).trans (Below.mv (aI (aI (aI (aI (Below.refl w.heap.size w4) (by omega) _) lR _) lR _) lR _) D))
theorem nM(N D lo:Nat)(xs:List Int)(w:World)(h:bm N D w xs)(hx:bZ xs)(hD:D<lo)(hlo:lo<=w.heap.size) :
  Calls prog 12 #[.pointer (some ⟨D,0,none⟩)] w fun e w'=>(∃ v,e=.returned (.agg #[.bool (iy xs).1.1,.bool (iy xs).1.2,v])/\az lo w'.heap.size w' v (iy xs).2)/\(∃ zs,zs=uz xs/\bm N D w' zs/\bZ zs)/\Mv w.heap.size D w w':=by
 have hh:=hx.head;unfold iy uz
 by_cases h0:xs.headD 0%10=0
 ·rw[if_pos h0,if_pos h0];exact qJ N D lo xs w h hx hD hlo h0
 rw[if_neg h0,if_neg h0]
 by_cases h3:xs.headD 0%10<3
 ·rw[if_pos h3,if_pos h3];exact qZ N D lo xs w h hx hD hlo ⟨by omega,h3⟩
 rw[if_neg h3,if_neg h3];exact sC N D lo xs w h hx hD hlo (by omega)
theorem zU(xs:List Int):(iy xs).2.length<=701:=by
 have hg:(dk xs.tail).1.length<=700:=(lS xs.tail).nl.len;unfold iy
 split
 ·exact Nat.le_trans (Cg (by omega) (by omega)).len (by omega)
 show(if xs.headD 0%10<3 then (gH (dk xs.tail).1 (dk xs.tail).2).1 else (dk xs.tail).1).length<=701
 split
 ·show(FN _ _ _ _).length<=701;unfold FN
  split
  ·unfold iT;rw[List.length_set];omega
  split
  ·rw[List.length_take];omega
  split<;>(rw[List.length_append,List.length_singleton];omega)
 omega
theorem gB{base n e s B o:Nat}{w:World}{v u:Value}{xs:List Value}(h:w.ownsRow base e s v n xs)(hB:B<base):(w.setCell ⟨B,o,none⟩ u).ownsRow base e s v n xs:=by
 refine⟨h.1,?_⟩;rcases h.2 with q|⟨g,cap,cur,h1,h2,h3,h4⟩
 ·exact .inl q
 exact .inr ⟨g,cap,cur,h1,h2,(Below.heap_setCell _ _ _ _ (by show g≠B;omega)).trans h3,h4⟩
def CS(w:World)(R:(Bool×Bool)×List El)(bs:List Int)(e:Ending)(w':World):Prop:=∃ v lv,e=.returned (.tuple #[.agg #[.bool R.1.1,.bool R.1.2,v],lv])/\az w.heap.size w'.heap.size w' v R.2/\w'.ownsRow w.heap.size 5 1 lv bs.length (bs.map mB)/\bZ bs/\bs.length<=80/\Below w.heap.size w w'
theorem CS.of{w w':World}{R:(Bool×Bool)×List El}{P:List Int×List Int}{bs zs:List Int}{e:Ending}(h:P=(bs,zs))(k:CS w R bs e w'):CS w R P.1 e w':=by
 rw[h];exact k
theorem qk(F:List Int->List Int×List Int)(cv:Value)(cs:List Int)(HFX:∀ (N D lo:Nat) (v:Value) (xs:List Int) (w:World),bm N D w xs->bZ xs->D<lo->lo<=w.heap.size->az lo w.heap.size w v (iy (cs.take 600)).2->(iy (cs.take 600)).2.length<=1048576->
  Calls prog 13 #[.agg #[.bool (iy (cs.take 600)).1.1,.bool (iy (cs.take 600)).1.2,v],.pointer (some ⟨D,0,none⟩)] w (Cw N D 80 (F xs) w))(w:World)(hv:aP mB 0 0 w.heap.size w cv cs)(hcap:dj cv)(hx:bZ (cs.take 600)) :
  Calls prog 4 #[cv] w (CS w (iy (cs.take 600)) (F (uz (cs.take 600))).1):=by
 have HX:=ae hx;have d:=ae HFX;clear HFX;have HV:=ae hv;have t:=ae hcap;obtain⟨ca,cc,rfl,-⟩:=hv;obtain⟨xs,f⟩ : ∃ xs,cs.take 600=xs:=⟨_,rfl⟩;rw[f]at HX d ⊢;have x:=ae f;have y:=zU xs;obtain⟨R,hR⟩ : ∃ R,iy xs=R:=⟨_,rfl⟩;rw[hR]at y d ⊢;have HR:=ae hR;clear hR hx f hcap;have HP:=ae (lj.new w 25 (.bool false) (.bool false) (.slice none 0 0));have j:=ae (ai w (.cells #[.bool false,.bool false,.slice none 0 0] 25));have z:(w.alloc (.cells #[.bool false,.bool false,.slice none 0 0] 25)).heap.size=w.heap.size+1:=ah _ _;have A:=ae (HV.u.cut j.u lR)
 go_enter func4,ntmps4
 go_wp2_with fail;generalize w.alloc (.cells #[.bool false,.bool false,.slice none 0 0] 25)=W0 at *;refine(sY _ cs W0 A.u t.u).mono ?_;rw[x.u];obtain⟨D,k⟩ : ∃ D,W0.heap.size=D:=⟨_,rfl⟩;rw[k];rintro e w1 ⟨rfl,l,B,g⟩;have Q:w.heap.size<D:=by omega
 have S:D<w.heap.size+2:=by omega
 have T:w.heap.size+2<=w1.heap.size:=by omega
 have C:=ae (j.u.trans (g.mono (by omega)));have E:=ae (HP.u.below g (by omega));have G:=ae l;clear g k z B l
 go_wp2_with fail;refine(nM D D (w.heap.size+2) xs w1 G.u HX.u (by omega) (by omega)).mono ?_;rw[HR.u];rintro e w3 ⟨⟨v3,rfl,m⟩,⟨zs,rfl,n,o⟩,b⟩;have H:=ae m;obtain⟨a3,c3,rfl,-⟩:=m;have I:=b.size;have U:=ae b;have HQ:=ae (lj.new w3 25 (.bool R.1.1) (.bool R.1.2) (.slice a3 R.2.length c3));have h:=ae (ai w3 (.cells #[.bool R.1.1,.bool R.1.2,.slice a3 R.2.length c3] 25));have V:(w3.alloc (.cells #[.bool R.1.1,.bool R.1.2,.slice a3 R.2.length c3] 25)).heap.size=w3.heap.size+1:=ah _ _;have J:=ae (n.keep h.u (by omega));have HZ:=ae o;have p:=ae (H.u.below h.u lR);have K:=ae (b.trans (Below.mv (h.u.mono I) D));clear b n o
 go_wp2_with fail;generalize w3.alloc (.cells #[.bool R.1.1,.bool R.1.2,.slice a3 R.2.length c3] 25)=W4 at *;refine(d.u D D (w.heap.size+2) _ (uz xs) W4 J.u HZ.u (by omega) (by omega) p.u (by omega)).mono ?_;rintro e w5 ⟨v5,bs,z5,rfl,i,c,q,-,-,a,r⟩;have L:=ae r;clear r;have M:=ae i;obtain⟨oa,oc,rfl⟩:=aj i;have W:=a.size;have O:=ae (p.u.mv a lR (by omega));have BQ:=HQ.u.blk (a.block w3.heap.size (by omega) (by omega));obtain⟨r0,r1,r2⟩:=BQ.facts;have s:=ae (K.u.trans (a.mono (by omega)));have BP:=E.u.blk (s.u.block w.heap.size (by omega) (by omega));obtain⟨p0,p1,p2⟩:=BP.facts;have z0:=World.rowIs.frozen BP 0;have z1:=World.rowIs.frozen BP 1;have z2:=World.rowIs.frozen BP 2;have P:=ae c;clear BP BQ i a c;go_wp2;refine bodyPost_ret (v:=.tuple #[.agg #[.bool R.1.1,.bool R.1.2,.slice a3 (R.2).length c3],.slice oa bs.length oc]) (by simp[results,results4,go_sem,p0,p1,p2]) rfl (CS.of L.u ⟨_,_,rfl,?_,?_,P.u,q,?_⟩)
 ·exact(O.u.mono (lo':=w.heap.size+1) (by omega) lR).put3 (lo:=w.heap.size) (by omega)
 ·exact gd (gB (gB (gB M.u (by omega)) (by omega)) (by omega)) (by omega)
 exact C.u.trans ((s.u.below (by omega)).mono (by omega) |>.trans (aI (aI (aI (Below.refl w.heap.size _) lR _) lR _) lR _))
theorem pW(cs:List Int):∃ bs:List Int,∀ (cv:Value) (w:World),aP mB 0 0 w.heap.size w cv cs->dj cv->bZ (cs.take 600)->
  Calls prog 4 #[cv] w (CS w (iy (cs.take 600)) bs):=by
 obtain⟨F,hF⟩:=nS (iy (cs.take 600)).1.1 (iy (cs.take 600)).1.2 (iy (cs.take 600)).2;exact⟨_,fun cv w h1 h2 h3=>qk F cv cs hF w h1 h2 h3⟩
end Go.Proofs.YtpmcjimgkabpeaaGreatDoor
