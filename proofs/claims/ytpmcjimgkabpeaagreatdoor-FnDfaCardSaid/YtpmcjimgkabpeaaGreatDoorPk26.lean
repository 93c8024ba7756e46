import Derived.Test.YtpmcjimgkabpeaaGreatDoorMr3
import Derived.Test.YtpmcjimgkabpeaaGreatDoorPk24
import Derived.Test.YtpmcjimgkabpeaaGreatDoorPk18
namespace Go.Proofs.YtpmcjimgkabpeaaGreatDoor
open Go.RowKit Go.Proofs.Tryz
set_option maxHeartbeats 16000000
set_option maxRecDepth 100000
structure Cd (n N:Nat) (S:List Nat) (i:Nat) (bs fr tt ms ps mk:Nat->Nat) (T:List Nat):Prop where
 pi:eS n N ms ps bs fr mk tt
 mq:∀ t,t<n->(ps t<mk (bs t)↔t∈S.take i)
 nd:T.Nodup
 tm:∀ b,b∈T↔b<N/\mk b≠fr b
theorem Cd.start{n N:Nat}{S:List Nat}{bs fr tt ms ps mk:Nat->Nat}(h:eS n N ms ps bs fr mk tt)(hm:∀ b,b<N->mk b=fr b):Cd n N S 0 bs fr tt ms ps mk [] where
 pi:=h
 mq:=fun t ht=>by
  obtain⟨a1,a2,-⟩:=h.s1 t ht;rw[hm _ a1];simp;omega
 nd:=List.nodup_nil
 tm:=fun b=>by
  simp
  exact hm b
theorem Cd.un{n N:Nat}{S:List Nat}{i:Nat}{bs fr tt ms ps mk:Nat->Nat}{T:List Nat}(h:Cd n N S i bs fr tt ms ps mk T)(hS:S.Nodup){s:Nat}(hs:S[i]?=some s)(hn:s<n):mk (bs s)<=ps s:=by
 apply Nat.le_of_not_lt
 intro hlt;have:=(h.mq s hn).1 hlt;obtain⟨j,hj⟩:=List.getElem?_of_mem this;rw[List.getElem?_take]at hj
 split at hj
 ·have:=(List.getElem?_inj (by have:=(List.getElem?_eq_some_iff.1 hj).1;omega) hS).1 (hj.trans hs.symm);omega
 cases hj
theorem Cd.next{n N:Nat}{S:List Nat}{i:Nat}{bs fr tt ms ps mk:Nat->Nat}{T:List Nat}(h:Cd n N S i bs fr tt ms ps mk T)(hS:S.Nodup){s:Nat}(hs:S[i]?=some s)(hn:s<n) :
  Cd n N S (i+1) bs fr tt (bW (bW ms (ps s) (ms (mk (bs s)))) (mk (bs s)) s) (bW (bW ps (ms (mk (bs s))) (ps s)) s (mk (bs s))) (bW mk (bs s) (mk (bs s)+1)) (if mk (bs s)=fr (bs s) then T++[bs s] else T):=by
 obtain⟨k1,k2⟩:=h.pi.mark hn (h.un hS hs hn);have hb:=(h.pi.s1 s hn).1;have a:=h.pi.b1 _ hb;refine⟨k1,fun t ht=>?_,?_,fun b=>?_⟩
 ·rw[k2 t ht,h.mq t ht,List.take_add_one,hs];simp
 ·split
  ·rename_i e
   rw[List.nodup_append];refine⟨h.nd,by simp,fun x hx y hy=>?_⟩;rw[List.mem_singleton]at hy;subst hy;intro e2;subst e2;exact((h.tm _).1 hx).2 e
  exact h.nd
 by_cases e:b=bs s
 ·subst e;rw[bG]
  split
  ·simp[hb];omega
  rename_i e2
  have:=(h.tm (bs s)).2 ⟨hb,e2⟩;simp[this,hb];omega
 rw[aW _ e]
 split
 ·simp[e,h.tm b]
 exact h.tm b
def zq(O:Nat->Prop)(g mb mc pb pc bb bc:Nat)(w:World)(n N:Nat)(bs fr tt:Nat->Nat)(qs:List Int)(tk:Nat)(S:List Nat):Prop:=
 ∃ (N':Nat) (ms' ps' bs' fr' mk' tt':Nat->Nat) (kb kc:Nat) (qv:Value) (l:List Int),aU O g mb mc pb pc bb bc w n N' ms' ps' bs' fr' mk' tt' kb kc qv (qs++l) tk/\eS n N' ms' ps' bs' fr' mk' tt'/\(∀ b,b<N'->mk' b=fr' b)/\(qs++l).length+1=N'/\(∀ y∈l,∃ x:Nat,y=(x:Nat)/\x<N')/\
  zX n (fun t=>t∈S) bs bs' (fun x=>((x:Nat):Int)∈qs.drop tk) (fun x=>((x:Nat):Int)∈(qs++l).drop tk)/\(∀ t,t<n->fr (bs t)<=ps' t/\ps' t<tt (bs t))/\N<=N'
theorem oT(O:Nat->Prop)(g mb mc pb pc bb bc:Nat)(w:World)(n N:Nat)(ms ps bs fr mk tt:Nat->Nat)(kb kc:Nat)(qv:Value)(qs:List Int)(tk:Nat)(sv:Value)(S:List Nat)
  (h:aU O g mb mc pb pc bb bc w n N ms ps bs fr mk tt kb kc qv qs tk)(hI:eS n N ms ps bs fr mk tt)(hm:∀ b,b<N->mk b=fr b)(hO:∀ k,w.heap.size<=k->O k)(hn:n<=1024)(hq:qs.length+1=N)(htk:tk<=qs.length)
  (hs:∃ a c,sv=.slice a S.length c/\(0<S.length->∃ b o,a=some ⟨b,o,none⟩/\b<w.heap.size/\¬ O b/\∀ i s,S[i]?=some s->w.cell? ⟨b,o+i,none⟩=some (.int .i64 (s:Nat))))(hS:S.Nodup)(hl:∀ s∈S,s<n) :
  Calls prog 122 #[.pointer (some ⟨g,0,none⟩),sv] w fun e w'=>e=.returned (.tuple #[])/\aR O w w'/\zq O g mb mc pb pc bb bc w' n N bs fr tt qs tk S:=by
 obtain⟨i0,b9,bd,bf,bi⟩:=info_parts Tryz.zinInt;obtain⟨sa,sc,rfl,a6⟩:=hs;obtain⟨Ol,Z⟩ : ∃ Ol:Nat->Prop,Ol=fun k=>O k/\k<w.heap.size:=⟨_,rfl⟩
 have hL:aU Ol g mb mc pb pc bb bc w n N ms ps bs fr mk tt kb kc qv qs tk:=by
  rw[Z];obtain⟨o1,o2,o3,o4,o5⟩:=h.oo;exact⟨h.box,h.cap,h.rm,h.rp,h.rb,h.rk,h.rq,h.ng,h.ne,⟨⟨o1,h.lt⟩,⟨o2,h.rm.lt⟩,⟨o3,h.rp.lt⟩,⟨o4,h.rb.lt⟩,⟨o5,h.ltk⟩⟩,fun q hq=>⟨⟨(h.oq q hq).1,aB h.rq q hq⟩,(h.oq q hq).2⟩⟩
 have a7:∀ k,Ol k->O k/\k<w.heap.size:=by rw[Z];exact fun k hk=>hk
 have hM:=Cd.start (S:=S) hI hm;have cf:=hI.few;have ch:S.length<=n:=cm n S hS hl;have HL:=ae hL;have HM:=ae hM;have a8:=ae a6;have B:=ae a7;have HO:=ae hO;have HS:=ae hS;have ci:=ae hl;have ck:=ae hm;clear Z h hL hM a7 a6 hO hI hm
 go_enter func122,ntmps122
 go_wp2_with fail
 go_loopw [4,13] (fun tv iv wr=>∃ (i:Nat) (ms' ps' mk':Nat->Nat) (T:List Nat),i<=S.length/\iv=.int .i64 (i:Nat)/\Cd n N S i bs fr tt ms' ps' mk' T/\aU Ol g mb mc pb pc bb bc wr n N ms' ps' bs fr mk' tt kb kc qv qs tk/\wr.ownsRow w.heap.size 3 1 tv T.length ((T.map Int.ofNat).map mI)/\aR (fun k=>Ol k∨w.heap.size<=k) w wr) (fun _ iv _=>S.length-(intOf iv).toNat)
 case atStart=>exact⟨0,_,_,_,[],by omega,rfl,HM.u,HL.u,World.ownsRow_nil _ _ _ _,aR.refl _ _⟩
 obtain⟨i,ms',ps',mk',T,hi,rfl,d,hP,m,hF⟩:=hrel;clear HL HM
 by_cases hlt:i<S.length
 ·have L:(i:Int)<(S.length:Int):=by omega
  obtain⟨sb,so,rfl,cl,bj,a9⟩:=a8.u (by omega);obtain⟨s,hs⟩ : ∃ s,S[i]?=some s:=⟨_,List.getElem?_eq_getElem hlt⟩;have r:=hl s (List.mem_of_getElem? hs);have e0:wr.cell? ⟨sb,so+i,none⟩=some (.int .i64 (s:Nat)):=by
   rw[World.cell?_of_block (a:=⟨sb,so+i,none⟩) (hF.block sb (fun k=>by rcases k with k|k;exact bj (B.u _ k).1;omega))];exact a9 i s hs
  obtain⟨c0,c1,c2,c3,-⟩:=hP.facts;have c6:=hP.rb.cell r;have c7:=hP.rp.cell r;obtain⟨A,-,-⟩:=d.pi.s1 s r;have co:=d.pi.b1 _ A;obtain⟨b0,b1,b2,fk⟩:=hP.blk A;have ca:(s:Int)<(n:Int):=by omega
  have cb:((bs s:Nat):Int)<(N:Int):=by omega
  have aa:=d.un HS.u hs r;have H:=ae (d.next HS.u hs r);have ab:=ae d.pi;have HP:=ae hP;have C:=ae m;have HF:=ae hF;have bl:T.length<=N:=cm N T d.nd (fun b hb=>((d.tm b).1 hb).1);obtain⟨ta,tc,rfl⟩:=aj m;clear d hP m hF a9
  go_wp2_with fail
  go_quiet (fail)
  by_cases heq:mk' (bs s)=fr (bs s)
  ·have Y:((mk' (bs s):Nat):Int)=(fr (bs s):Nat):=by omega
   go_wp2_with (at_builtin;refine wpList_append_own_at _ rfl _ _ 30 rfl w.heap.size 3 i0 (.int .i64 0) 1 8 underlying30 b9 bd bf bi rfl (by decide) _ _ _ rfl (C.u.alloc _) ⟨wr.heap.size,0,none⟩ 1 1 [.int .i64 (bs s:Nat)] rfl rfl ?_ ?_ ?_ ?_ ?_ ?_)
   ·exact dJ (dG _ _ _)
   ·intro u hu;simp at hu;subst hu;rfl
   ·unfold maxLen;omega
   ·omega
   ·rw[ah];have:=HF.u.size;show _<=wr.heap.size+1;omega
   intro v' w2 r1 r2 _ r3;have bn:=ae heq;clear heq Y;have cp:=HF.u.size;have ad:=r2.size;rw[ah]at ad;have D:∀ k,k<w.heap.size->w2.heap[k]?=wr.heap[k]? :=fun k hk=>(r2.block k (by rw[ah];show k<wr.heap.size+1;omega) (fun e=>by have:=(C.u.lt k e.symm).1;omega)).trans ((ai (wr.drewN nq) _).block k (by show k<wr.heap.size;omega))
   have I:=HP.u.keep (w':=w2) (fun k hk _=>D k (B.u k hk).2);have af:aR (fun k=>Ol k∨w.heap.size<=k) wr w2:=⟨r2.os,r2.tape,r2.output,by show wr.heap.size<=_;have:(wr.drewN nq).heap.size=wr.heap.size:=rfl;omega,fun k hk=>D k (by apply Nat.lt_of_not_le;intro e;exact hk (.inr e))⟩;obtain⟨ua,uc,rfl⟩:=aj r1;have HV:=ae r1;have bo:=ae af;have a0:=ae (uh (I.keep (w':=w2.drew) (fun _ _ _=>rfl)) ab.u r aa);obtain⟨c0,c1,c2,c3,-⟩:=I.facts;have c6:=I.rb.cell r;have c7:=I.rp.cell r;obtain⟨b0,b1,b2,fk⟩:=I.blk A;clear r1 r2 r3 D I af
   go_wp2_with fail;refine aL 12 (by kernel_rfl) (by kernel_rfl) ?_;simp only[List.take_succ_cons,List.take_zero,List.drop_succ_cons,List.drop_zero]
   repeat (first|go_big_quiet_skip|(go_big_quiet_want;go_big_quiet_op;go_big_quiet_on))
   refine wpQuiet_nil ?_
   go_wp2_with fail;refine a0.u.mono ?_;rintro e w5 ⟨rfl,v,M,bq⟩;obtain⟨-,d1,-,fk5⟩:=v.blk A;have f5:=fk5 (bs s*3+1);have E:=v.setMk A (mk' (bs s)+1);have F:=v.fro (bs s*3+1) (.int .i64 ((mk' (bs s)+1:Nat):Int));have G:((mk' (bs s)+1:Nat):Int)=(mk' (bs s):Nat)+1:=by omega
   rw[G]at E F;have a1:=ae E;have P:=ae F;have Q:=ae M;clear v M E F fk5 c0 c1 c2 c3 c6 c7 b0 b1 b2 fk e0;have br:IntKind.i64.wrap (((mk' (bs s):Nat):Int)+1)=(mk' (bs s):Nat)+1:=lf (by omega) (by omega);go_wp2
   go_roundw
   case rel =>
    have hT:=H.u;rw[if_pos bn.u]at hT;refine⟨i+1,_,_,_,T++[bs s],by omega,by go_num,hT,a1.u,?_,HF.u.trans (bo.u.trans (aR.trans (b:=w2.drew) (aR.drew (aR.refl _ _)) (aR.mono (O:=Ol) (Q.u.trans P.u) (fun k hk=>Or.inl hk))))⟩;have e9:((T++[bs s]).map Int.ofNat).map mI=List.map (mI ∘ Int.ofNat) T++[Value.int .i64 (bs s:Nat)]:=by simp[mI]
    rw[e9,List.length_append];refine ak (w:=w2) HV.u (fun q hq=>?_)
    have bt:=(HV.u.lt q hq).1;have a2:¬ Ol q:=fun k=>by have:=(B.u q k).2;omega
    exact((Q.u.trans P.u).block q a2).trans rfl
   simp[intOf];omega
  have Y:¬ ((mk' (bs s):Nat):Int)=(fr (bs s):Nat):=by omega
  have a0:=ae (uh (HP.u.keep (w':=(wr.drewN nq).drew) (fun _ _ _=>rfl)) ab.u r aa)
  go_wp2_with fail;refine aL 12 (by kernel_rfl) (by kernel_rfl) ?_;simp only[List.take_succ_cons,List.take_zero,List.drop_succ_cons,List.drop_zero]
  repeat (first|go_big_quiet_skip|(go_big_quiet_want;go_big_quiet_op;go_big_quiet_on))
  refine wpQuiet_nil ?_
  go_wp2_with fail;refine a0.u.mono ?_;rintro e w5 ⟨rfl,v,M,bq⟩;obtain⟨-,d1,-,fk5⟩:=v.blk A;have f5:=fk5 (bs s*3+1);have E:=v.setMk A (mk' (bs s)+1);have F:=v.fro (bs s*3+1) (.int .i64 ((mk' (bs s)+1:Nat):Int));have G:((mk' (bs s)+1:Nat):Int)=(mk' (bs s):Nat)+1:=by omega
  rw[G]at E F;have a1:=ae E;have P:=ae F;have Q:=ae M;clear v M E F fk5 c0 c1 c2 c3 c6 c7 b0 b1 b2 fk e0;have br:IntKind.i64.wrap (((mk' (bs s):Nat):Int)+1)=(mk' (bs s):Nat)+1:=lf (by omega) (by omega);go_wp2
  go_roundw
  case rel =>
   have hT:=H.u;rw[if_neg heq]at hT;refine⟨i+1,_,_,_,T,by omega,by go_num,hT,a1.u,?_,HF.u.trans (((iI wr nq).trans (aR.drew (aR.refl _ _))).trans (aR.mono (O:=Ol) (Q.u.trans P.u) (fun k hk=>Or.inl hk)))⟩;refine ak (w:=wr) C.u (fun q hq=>?_)
   have bt:=(C.u.lt q hq).1;have a2:¬ Ol q:=fun k=>by have:=(B.u q k).2;omega
   exact((Q.u.trans P.u).block q a2).trans rfl
  simp[intOf];omega
 have L:¬ (i:Int)<(S.length:Int):=by omega
 obtain rfl:i=S.length:=by omega
 obtain⟨w1,rfl⟩ : ∃ w1,w1=wr:=⟨_,rfl⟩;have a3:∀ t,t<n->(ps' t<mk' (bs t)↔t∈S):=fun t ht=>by rw[d.mq t ht,List.take_length]
 have bl:T.length<=N:=cm N T d.nd (fun b hb=>((d.tm b).1 hb).1);obtain⟨O2,R⟩ : ∃ O2,O2=Sk O w.heap.size w1.heap.size:=⟨_,rfl⟩;have ag:aU O2 g mb mc pb pc bb bc w1 n N ms' ps' bs fr mk' tt kb kc qv qs tk:=hP.mono (fun k hk=>by rw[R];exact⟨(B.u k hk).1,.inl (B.u k hk).2⟩);have al:∀ k,w1.heap.size<=k->O2 k:=fun k hk=>by rw[R];exact⟨HO.u k (by have:=hF.size;omega),.inr hk⟩
 have an:∀ k,O2 k->O k:=by rw[R];exact Sk.sub
 have ao:∀ k,w.heap.size<=k->k<w1.heap.size->¬ O2 k:=fun k h1 h2=>by rw[R];rintro⟨-,h3⟩;omega
 have z:vu n N (fun t=>t∈S) bs fr mk' tt (fun b=>b∈T.drop 0) N bs fr mk' tt:=by
  have e:(fun b=>b<N/\mk' b≠fr b)=(fun b=>b∈T.drop 0):=funext fun b=>propext (by rw[List.drop_zero];exact(d.tm b).symm)
  rw[<-e];exact vu.start d.pi a3
 have ap:aR O w w1:=hF.mono (fun k hk=>by rcases hk with hk|hk;exact(B.u k hk).1;exact HO.u k hk);obtain⟨ta,tc,rfl⟩:=aj m;have H:=ae d;have aq:=ae a3;have ar:=ae ag;have T2:=ae al;have S2:=ae an;have N2:=ae ao;have av:=ae z;have C:=ae m;have bv:=ae ap;clear d a3 ag al an ao z m ap hP hF R a8
 go_wp2_with fail
 go_loopw [66] (fun iv wq=>∃ (j N':Nat) (bs' fr' mk2 tt':Nat->Nat) (kb' kc':Nat) (qv':Value) (l:List Int),j<=T.length/\iv=.int .i64 (j:Nat)/\aU O2 g mb mc pb pc bb bc wq n N' ms' ps' bs' fr' mk2 tt' kb' kc' qv' (qs++l) tk/\eS n N' ms' ps' bs' fr' mk2 tt'/\vu n N (fun t=>t∈S) bs fr mk' tt (fun b=>b∈T.drop j) N' bs' fr' mk2 tt'/\(qs++l).length+1=N'/\(∀ x,N<=x->x<N'->((x:Nat):Int)∈l)/\(∀ y∈l,∃ x:Nat,y=(x:Nat)/\x<N')/\aR O2 w1 wq) (fun iv _=>T.length-(intOf iv).toNat)
 case atStart=>exact⟨0,N,bs,fr,mk',tt,kb,kc,qv,[],by omega,rfl,by rw[List.append_nil];exact ar.u,H.u.pi,av.u,by rw[List.append_nil];exact hq,fun x h1 h2=>by omega,(fun y hy=>by cases hy),aR.refl _ _⟩
 clear av ar;obtain⟨j,N',bs',fr',mk2,tt',kb',kc',qv',l,hj,rfl,V,J,z,aw,W,X,K⟩:=hrel
 by_cases hlt:j<T.length
 ·have L:(j:Int)<(T.length:Int):=by omega
  obtain⟨b,hb⟩ : ∃ b,T[j]?=some b:=⟨_,List.getElem?_eq_getElem hlt⟩;have f:T.drop j=b::T.drop (j+1):=by
   rw[List.drop_eq_getElem_cons hlt];rw[List.getElem?_eq_getElem hlt]at hb;rw[Option.some.inj hb]
  have a4:b∈T.drop j:=by rw[f];exact .head _
  have bx:b ∉ T.drop (j+1):=by
   have:=(H.u.nd.sublist (List.drop_sublist j T));rw[f,List.nodup_cons]at this;exact this.1
  have ax:(fun x=>x∈T.drop j/\x≠b)=(fun x=>x∈T.drop (j+1)):=funext fun x=>propext ⟨fun ⟨k1,k2⟩=>by
   rw[f]at k1;rcases List.mem_cons.1 k1 with k|k
   ·exact absurd k k2
   exact k,fun k=>⟨by rw[f];exact .tail _ k,fun e=>bx (e ▸ k)⟩⟩
  have A:=(z.un b a4).1;have cr:=z.le;have cc:=J.few;obtain⟨tb,tcap,e9,U⟩:=eP C.u (by omega);cases e9;have b3:=C.u.lt tb rfl;have x0:wr.cell? ⟨tb,j,none⟩=some (.int .i64 (b:Nat)):=by
   rw[World.cell?_of_block (a:=⟨tb,j,none⟩) (K.block tb (N2.u tb b3.1 b3.2)),U j hlt,List.getElem?_map,List.getElem?_map,hb]
   rfl
  have cs:=K.size;have b4:=ae (AZ O2 g mb mc pb pc bb bc wr n N' ms' ps' bs' fr' mk2 tt' kb' kc' qv' (qs++l) tk b V J (fun k hk=>T2.u k (by omega)) (by omega) hn (by omega) (by omega));have HB:=ae J;have HC:=ae z;have HD:=ae W;have HE:=ae X;have HG:=ae K;have b5:=ae ax;clear V J z W X K U ax f
  go_wp2_with fail;refine b4.u.mono ?_;rintro e w3 ⟨rfl,b6,b7⟩;have b8:=ae b6;have bz:=ae b7;clear b6 b7 b4 x0;go_wp2
  go_roundw
  case rel =>
   rcases bz.u with ⟨kb2,kc2,qv2,c4,a5⟩|⟨kb2,kc2,qv2,o1,o2,r1,r2,g1,g2,c5,a5⟩
   ·refine⟨j+1,N',bs',fr',_,tt',kb2,kc2,qv2,l,by omega,by go_num,a5,HB.u.unmark (by omega),?_,aw,HD.u,HE.u,HG.u.trans b8.u⟩;rw[<-b5.u];exact HC.u.unmark HB.u aq.u a4 c4
   have ho:(o1=fr' b/\o2=mk2 b/\r1=mk2 b/\r2=tt' b)∨(o1=mk2 b/\o2=tt' b/\r1=fr' b/\r2=mk2 b):=by
    rcases c5 with ⟨k1,k2,k3,k4,-⟩|⟨k1,k2,k3,k4,-⟩
    ·exact .inl ⟨k1,k2,k3,k4⟩
    exact .inr ⟨k1,k2,k3,k4⟩
   obtain⟨z1,z2,z3,z4⟩:=HB.u.cut (b:=b) (by omega) g1 g2 ho (bs':=fun t=>if o1<=ps' t/\ps' t<o2 then N' else bs' t) (fun t _=>rfl);refine⟨j+1,N'+1,_,_,_,_,kb2,kc2,qv2,l++[(N':Int)],by omega,by go_num,by rw[<-List.append_assoc];exact a5,z1,?_,by rw[<-List.append_assoc,List.length_append];simp only[List.length_singleton];omega,fun x h1 h2=>?_,fun y hy=>?_,HG.u.trans b8.u⟩
   ·rw[<-b5.u];exact HC.u.cut HB.u aq.u a4 z2 z3 z4
   ·by_cases e:x=N'
    ·subst e;exact List.mem_append_right _ (.head _)
    exact List.mem_append_left _ (HD.u x h1 (by omega))
   rcases List.mem_append.1 hy with k|k
   ·obtain⟨x,k1,k2⟩:=HE.u y k;exact⟨x,k1,by omega⟩
   rw[List.mem_singleton]at k;exact⟨N',k,by omega⟩
  simp[intOf];omega
 have L:¬ (j:Int)<(T.length:Int):=by omega
 obtain rfl:j=T.length:=by omega
 have HA:=ae V;have HB:=ae J;have HC:=ae z;have HD:=ae W;have HE:=ae X;have HG:=ae K;clear V J z W X K
 go_wp2_with fail
 first|(refine bodyPost_ret (results_none rfl _ _ _) rfl ?_)|(refine bodyPost_end (results_none rfl _ _ _) rfl ?_)
 have hU:∀ b,¬ b∈T.drop T.length:=fun b hb=>by rw[List.drop_length]at hb;cases hb
 refine⟨rfl,bv.u.trans (HG.u.mono S2.u),N',ms',ps',bs',fr',mk2,tt',kb',kc',qv',l,HA.u.mono S2.u,HB.u,fun b hb=>HC.u.um b hb (hU b),aw,HE.u,HC.u.fin hU (fun x hx=>?_) (fun x h1 h2=>?_) (fun p hp=>(HB.u.s1 p hp).1),fun t ht=>?_,HC.u.le⟩
 ·rw[List.drop_append_of_le_length htk];exact List.mem_append_left _ hx
 ·rw[List.drop_append_of_le_length htk];exact List.mem_append_right _ (HD.u x h1 h2)
 exact(H.u.pi.s1 t ht).2
theorem yA{w:World}{ops:Array Oper}{rest:List Oper}{o:Oper}{a:Act}{Q:Exit->Act->World->Prop}(hgd:o.guard=none)(s x:Operand)
  (ho:o.op=.call { callee:=.builtin .append,args:=#[s,x],argTypes:=#[30,30] })(base lo:Nat)(v1 v2:Value)(hs:a.eval s=v1)(hx:a.eval x=v2)(xs ys:List Nat)
  (h1:w.ownsRow base 3 1 v1 xs.length (xs.map mN))(h2:w.ownsRow lo 3 1 v2 ys.length (ys.map mN))(hb:base<=w.heap.size)(hl:xs.length+ys.length<=1000000)
  (h:∀ v' w',w'.ownsRow base 3 1 v' (xs++ys).length ((xs++ys).map mN)->w.grownBy w' v1.ownBlock->(v'.ownBlock=v1.ownBlock∨v'.ownBlock=some w.heap.size)->wpList prog ops Q rest (a.put o.dst v') w'):wpList prog ops Q (o::rest) a w:=by
 obtain⟨i0,hi,b,c,d⟩:=info_parts Tryz.zinInt;rcases Nat.eq_zero_or_pos ys.length with h0|hp
 ·obtain⟨sa,sc,rfl⟩:=aj h2;have e:ys=[]:=List.eq_nil_of_length_eq_zero h0;subst e;rcases h2.2 with ⟨e2,-⟩|⟨g,cap,cur,e2,-⟩
  ·rw[e2]at hx;refine bk hgd s x 30 ho base 3 i0 1 underlying30 hi v1 xs.length (xs.map mN) hs h1 0 hx (h v1 w (by rw[List.append_nil];exact h1) ⟨rfl,rfl,rfl,Nat.le_refl _,fun _ _ _=>rfl⟩ (.inl rfl))
  rw[e2]at hx;refine wpList_append_own_at w hgd s x 30 ho base 3 i0 (.int .i64 0) 1 8 underlying30 hi b c d rfl (by decide) v1 xs.length (xs.map mN) hs h1 ⟨g,0,none⟩ 0 cap [] hx rfl (fun j u hu=>by simp at hu) (fun u hu=>by cases hu) (by unfold maxLen;omega) (by omega) hb ?_;intro v' w' r1 r2 _ r3;exact h v' w' (by rw[List.append_nil];simpa using r1) r2 r3
 obtain⟨g,cap,e2,hc⟩:=eP h2 hp;subst e2;refine wpList_append_own_at w hgd s x 30 ho base 3 i0 (.int .i64 0) 1 8 underlying30 hi b c d rfl (by decide) v1 xs.length (xs.map mN) hs h1 ⟨g,0,none⟩ ys.length cap (ys.map mN) hx (by simp) (fun j u hu=>?_) (fun u hu=>?_) (by unfold maxLen;omega) (by omega) hb ?_
 ·have hj:j<ys.length:=by
   have:=(List.getElem?_eq_some_iff.1 hu).1
   simpa using this
  have e3:(⟨g,0,none⟩ : Addr).add j=⟨g,0+j,none⟩:=by cases j<;>rfl
  rw[e3,Nat.zero_add,hc j hj];exact hu
 ·obtain⟨y,-,rfl⟩:=List.mem_map.1 hu
  rfl
 intro v' w' r1 r2 _ r3;refine h v' w' ?_ r2 r3;rw[List.length_append,List.map_append];exact r1
structure qu (O:Nat->Prop) (g mb mc pb pc bb bc:Nat) (A:Tb) (w:World) (N:Nat) (ms ps bs fr mk tt:Nat->Nat) (kb kc:Nat) (qv:Value) (qs:List Int) (tk:Nat) (T:Nat->Prop) (c:Nat):Prop where
 pt:aU O g mb mc pb pc bb bc w A.n N ms ps bs fr mk tt kb kc qv qs tk
 pi:eS A.n N ms ps bs fr mk tt
 um:∀ b,b<N->mk b=fr b
 ql:qs.length+1=N
 tl:tk<=qs.length
 qn:∀ y∈qs,∃ x:Nat,y=(x:Nat)/\x<N
 hop:xi A bs (fun x=>((x:Nat):Int)∈qs.drop tk) T c
structure FI (n:Nat) (ps bs:Nat->Nat) (T:Nat->Prop) (lo hi:Nat):Prop where
 le:lo<hi/\hi<=n
 mem:∀ t,t<n->(lo<=ps t/\ps t<hi↔T t)
 cl:∀ p q,p<n->q<n->bs p=bs q->(T p↔T q)
theorem yq{O:Nat->Prop}{g mb mc pb pc bb bc:Nat}{A:Tb}{w:World}{N:Nat}{ms ps bs fr mk tt:Nat->Nat}{kb kc:Nat}{qv:Value}{qs:List Int}{tk:Nat}{T:Nat->Prop}{c lo hi:Nat}(h:qu O g mb mc pb pc bb bc A w N ms ps bs fr mk tt kb kc qv qs tk T c)(hst:FI A.n ps bs T lo hi)
  (hw:A.Wf)(hf:A.Full)(hn:A.n<=1024)(hc:c<A.k)(hO:∀ k,w.heap.size<=k->O k)(sv:Value)(S:List Nat)(hS:S.Nodup)(hm:∀ p,p∈S↔p<A.n/\T (A.nx p c))
  (hs:∃ a c,sv=.slice a S.length c/\(0<S.length->∃ b o,a=some ⟨b,o,none⟩/\b<w.heap.size/\¬ O b/\∀ i s,S[i]?=some s->w.cell? ⟨b,o+i,none⟩=some (.int .i64 (s:Nat)))) :
  Calls prog 122 #[.pointer (some ⟨g,0,none⟩),sv] w fun e w'=>e=.returned (.tuple #[])/\aR O w w'/\∃ (N':Nat) (ms' ps' bs' fr' mk' tt':Nat->Nat) (kb' kc':Nat) (qv':Value) (qs':List Int),qu O g mb mc pb pc bb bc A w' N' ms' ps' bs' fr' mk' tt' kb' kc' qv' qs' tk T (c+1)/\FI A.n ps' bs' T lo hi:=by
 refine(oT O g mb mc pb pc bb bc w A.n N ms ps bs fr mk tt kb kc qv qs tk sv S h.pt h.pi h.um hO hn h.ql h.tl hs hS (fun s k=>((hm s).1 k).1)).mono ?_;rintro e w' ⟨rfl,hF,N',ms',ps',bs',fr',mk',tt',kb',kc',qv',l,p1,p2,p3,p4,p5,p6,p7,p8⟩;have p6':zX A.n (fun p=>T (A.nx p c)) bs bs' (fun x=>((x:Nat):Int)∈qs.drop tk) (fun x=>((x:Nat):Int)∈(qs++l).drop tk):=by
  refine⟨fun p q hp hq=>?_,p6.keep,p6.new⟩;rw[p6.same p q hp hq,hm p,hm q];simp[hp,hq]
 refine⟨rfl,hF,N',ms',ps',bs',fr',mk',tt',kb',kc',qv',qs++l,⟨p1,p2,p3,p4,?_,fun y hy=>?_,h.hop.cut hw hf hc p6'⟩,⟨hst.le,fun t ht=>?_,fun p q hp hq e=>hst.cl p q hp hq ((p6.same p q hp hq).1 e).1⟩⟩
 ·rw[List.length_append];have:=h.tl;omega
 ·rcases List.mem_append.1 hy with k|k
  ·obtain⟨x,e,hx⟩:=h.qn y k;exact⟨x,e,by omega⟩
  exact p5 y k
 -- the place now,within the block it had
 obtain⟨k1,k2⟩:=p7 t ht;have hb:=h.pi.s1 t ht;have d:=h.pi.b1 _ hb.1;obtain⟨m1,m2⟩:=h.pi.m1 (ps' t) (by omega);have e:=h.pi.s2 (ms (ps' t)) (bs t) m1 hb.1 (by omega) (by omega);rw[<-hst.cl _ _ m1 ht e,<-hst.mem _ m1,m2]
theorem xE{O:Nat->Prop}{g mb mc pb pc bb bc:Nat}{A:Tb}{w:World}{N:Nat}{ms ps bs fr mk tt:Nat->Nat}{kb kc:Nat}{qv:Value}{qs:List Int}{tk:Nat}{T:Nat->Prop}(h:qu O g mb mc pb pc bb bc A w N ms ps bs fr mk tt kb kc qv qs tk T A.k)(hn:A.n<=1024) :
  Calls prog 104 #[.pointer (some ⟨g,4,none⟩)] w fun e w'=>aR O w w'/\
   ((tk=qs.length/\e=.returned (.tuple #[.int .i64 0,.bool false])/\qu O g mb mc pb pc bb bc A w' N ms ps bs fr mk tt kb kc qv qs tk T A.k) ∨
    (tk<qs.length/\∃ b:Nat,b<N/\e=.returned (.tuple #[.int .i64 (b:Nat),.bool true])/\qu O g mb mc pb pc bb bc A w' N ms ps bs fr mk tt kb kc qv qs (tk+1) (fun q=>bs q=b) 0)):=by
 obtain⟨-,-,-,-,c4,c5,fz⟩:=h.pt.facts;obtain⟨oa,oc,rfl⟩:=aj h.pt.rq;have hq:=h.ql;have d:=h.pi.few
 by_cases e:tk=qs.length
 ·refine(rP g 4 oa qs.length oc w c4 (by rw[<-e];exact c5)).mono ?_;rintro x w' ⟨rfl,q,rfl⟩;exact⟨iI w q,.inl ⟨e,rfl,⟨h.pt.drewN q,h.pi,h.um,h.ql,h.tl,h.qn,h.hop⟩⟩⟩
 have hlt:tk<qs.length:=by have:=h.tl;omega
 obtain⟨qb,qc,e2,a⟩:=eP h.pt.rq (by omega);cases e2;obtain⟨y,hy⟩ : ∃ y,qs[tk]?=some y:=⟨_,List.getElem?_eq_getElem hlt⟩;obtain⟨b,rfl,hb⟩:=h.qn y (List.mem_of_getElem? hy);refine(sG g 4 qb 0 tk (b:Nat) qs.length oc w (by omega) hlt c4 c5 (by rw[Nat.zero_add,a tk hlt,List.getElem?_map,hy];rfl) (fz 5)).mono ?_;rintro x w' ⟨rfl,q,rfl⟩;have k1:=(h.pt.drewN q).setT (tk+1);have ec:(((tk+1:Nat)):Int)=(tk:Int)+1:=by omega
 rw[ec]at k1;have c:qs.drop tk=(b:Int)::qs.drop (tk+1):=by
  rw[List.drop_eq_getElem_cons hlt];rw[List.getElem?_eq_getElem hlt]at hy;rw[Option.some.inj hy]
 refine⟨(iI w q).trans ((am _ _).fro h.pt.oo.1),.inr ⟨hlt,b,hb,rfl,⟨k1,h.pi,h.um,h.ql,by omega,h.qn,h.hop.pop (fun x hx=>?_)⟩⟩⟩;rw[c]at hx;rcases List.mem_cons.1 hx with k|k
 ·exact .inl (by omega)
 exact .inr k
structure dK (w0 w:World) (b0:Nat) (cl nx ac:Value) (k:Nat) (ks o:List Nat) (tk:Nat) (ys:List Nat) (zs:List Bool) (qv nv av:Value):Prop where
 eb:b0=w0.heap.size
 d:aD w b0 33 cl (.int .i64 (k:Nat)) nx ac
 res:∃ F,w.rowIs (b0+1) 33 4 F
 out:aD w (b0+2) 33 cl (.int .i64 (k:Nat)) nv av
 num:ba 3 w (b0+4) (ks.map mN)
 kb:w.rowIs (b0+5) 173 1 (fun _=>.map (some (b0+4)))
 q:w.rowIs (b0+6) 177 2 (fun j=>[qv,.int .i64 (tk:Nat)].getD j undef)
 oq:w.ownsRow (b0+7) 3 1 qv o.length (o.map mN)
 on:w.ownsRow (b0+7) 3 1 nv ys.length (ys.map mN)
 oa:w.ownsRow (b0+7) 4 1 av zs.length (zs.map mT)
 qn:∀ r,qv.ownBlock=some r->nv.ownBlock≠some r/\av.ownBlock≠some r
 na:∀ r,nv.ownBlock=some r->av.ownBlock≠some r
 bl:Below b0 w0 w
 sz:b0+7<=w.heap.size
section
variable {w0 w w':World} {b0:Nat} {cl nx ac:Value} {k:Nat} {ks o:List Nat} {tk:Nat} {ys:List Nat} {zs:List Bool} {qv nv av:Value}
theorem aD.put3'{w:World}{b:Nat}{t:TypeId}{c0 c1 c2 c3 u:Value}(h:aD w b t c0 c1 c2 c3):aD (w.setCell ⟨b,3,none⟩ u) b t c0 c1 c2 u:=(World.rowIs.set h 3 u).congr (fun j hj=>by
 match j,hj with
 | 0,_=>rfl
 | 1,_=>rfl
 | 2,_=>rfl
 | 3,_=>rfl)
theorem vp{W:World}{b:Nat}{t:TypeId}{x y u:Value}(h:W.rowIs b t 2 (fun j=>[x,y].getD j undef)):(W.setCell ⟨b,1,none⟩ u).rowIs b t 2 (fun j=>[x,u].getD j undef):=(h.set 1 u).congr (fun j hj=>by
 match j,hj with
 | 0,_=>rfl
 | 1,_=>rfl)
theorem vA{W:World}{b:Nat}{t:TypeId}{x y u:Value}(h:W.rowIs b t 2 (fun j=>[x,y].getD j undef)):(W.setCell ⟨b,0,none⟩ u).rowIs b t 2 (fun j=>[u,y].getD j undef):=(h.set 0 u).congr (fun j hj=>by
 match j,hj with
 | 0,_=>rfl
 | 1,_=>rfl)
theorem dK.keep(h:dK w0 w b0 cl nx ac k ks o tk ys zs qv nv av)(hb:Below w.heap.size w w'):dK w0 w' b0 cl nx ac k ks o tk ys zs qv nv av:=by
 have hz:=h.sz;have e:∀ k,k<w.heap.size->w'.heap[k]?=w.heap[k]? :=fun k hk=>hb.block k hk
 obtain⟨F,hF⟩:=h.res;exact⟨h.eb,World.rowIs.of_block h.d (e _ (by omega)),⟨F,hF.of_block (e _ (by omega))⟩,World.rowIs.of_block h.out (e _ (by omega)),h.num.keep (e _ (by omega)),h.kb.of_block (e _ (by omega)),h.q.of_block (e _ (by omega)),ak h.oq (fun r hr=>e r (aB h.oq r hr)),ak h.on (fun r hr=>e r (aB h.on r hr)),ak h.oa (fun r hr=>e r (aB h.oa r hr)),h.qn,h.na,h.bl.trans (hb.mono (by omega)),by have:=hb.size;omega⟩
theorem dK.looked{ks':List Nat}(h:dK w0 w b0 cl nx ac k ks o tk ys zs qv nv av)(hf:aR (dD w (b0+4)) w w')(hn:ba 3 w' (b0+4) (ks'.map mN)):dK w0 w' b0 cl nx ac k ks' o tk ys zs qv nv av:=by
 have hz:=h.sz;have e:∀ k,k<w.heap.size->k≠b0+4->w'.heap[k]?=w.heap[k]? :=fun k hk hne=>hf.block k (by rintro(h1|h1)<;>omega)
 obtain⟨F,hF⟩:=h.res;exact⟨h.eb,World.rowIs.of_block h.d (e _ (by omega) (by omega)),⟨F,hF.of_block (e _ (by omega) (by omega))⟩,World.rowIs.of_block h.out (e _ (by omega) (by omega)),hn,h.kb.of_block (e _ (by omega) (by omega)),h.q.of_block (e _ (by omega) (by omega)),ak h.oq (fun r hr=>e r (aB h.oq r hr) (by have:=(h.oq.lt r hr).1;omega)),ak h.on (fun r hr=>e r (aB h.on r hr) (by have:=(h.on.lt r hr).1;omega)),ak h.oa (fun r hr=>e r (aB h.oa r hr) (by have:=(h.oa.lt r hr).1;omega)),h.qn,h.na,⟨hf.os.trans h.bl.os,hf.tape.trans h.bl.tape,hf.output.trans h.bl.output,Nat.le_trans h.bl.size hf.size,fun k hk=>(e k (by have:=h.bl.size;have:=h.eb;omega) (by omega)).trans (h.bl.block k hk)⟩,by have:=hf.size;omega⟩
theorem dK.popd(h:dK w0 w b0 cl nx ac k ks o tk ys zs qv nv av)(q:Nat):dK w0 ((w.drewN q).setCell ⟨b0+6,1,none⟩ (.int .i64 ((tk:Int)+1))) b0 cl nx ac k ks o (tk+1) ys zs qv nv av:=by
 have hz:=h.sz;have e:∀ k,k≠b0+6->((w.drewN q).setCell ⟨b0+6,1,none⟩ (.int .i64 ((tk:Int)+1))).heap[k]?=w.heap[k]? :=fun k hk=>Below.heap_setCell _ _ _ _ (by show k≠b0+6;exact hk)
 obtain⟨F,hF⟩:=h.res;refine⟨h.eb,World.rowIs.of_block h.d (e _ (by omega)),⟨F,hF.of_block (e _ (by omega))⟩,World.rowIs.of_block h.out (e _ (by omega)),h.num.keep (e _ (by omega)),h.kb.of_block (e _ (by omega)),?_,ak h.oq (fun r hr=>e r (by have:=(h.oq.lt r hr).1;omega)),ak h.on (fun r hr=>e r (by have:=(h.on.lt r hr).1;omega)),ak h.oa (fun r hr=>e r (by have:=(h.oa.lt r hr).1;omega)),h.qn,h.na,⟨h.bl.os,h.bl.tape,h.bl.output,by rw[aJ];exact h.bl.size,fun k hk=>(e k (by omega)).trans (h.bl.block k hk)⟩,by rw[aJ];exact hz⟩;exact vp (W:=w.drewN q) (h.q.of_block rfl)
theorem dy{W w2:World}{v:Value}(hW:Below w.heap.size w W)(r2:W.grownBy w2 v.ownBlock):∀ k,k<w.heap.size->v.ownBlock≠some k->w2.heap[k]?=w.heap[k]? :=fun k hk hne=>(r2.block k (by have:=hW.size;omega) (fun e=>hne e.symm)).trans (hW.block k hk)
theorem dK.pushQ{W w2:World}{v':Value}{x:Nat}(h:dK w0 w b0 cl nx ac k ks o tk ys zs qv nv av)(hW:Below w.heap.size w W)(r1:w2.ownsRow (b0+7) 3 1 v' (o++[x]).length ((o++[x]).map mN))(r2:W.grownBy w2 qv.ownBlock)(r3:∀ q,v'.ownBlock=some q->qv.ownBlock=some q∨w.heap.size<=q) :
  dK w0 (w2.setCell ⟨b0+6,0,none⟩ v') b0 cl nx ac k ks (o++[x]) tk ys zs v' nv av:=by
 have hz:=h.sz;have a:=r2.size;have b:=hW.size;have k2:=dy hW r2;have nq:∀ k,k<b0+7->qv.ownBlock≠some k:=fun k hk e=>by have:=(h.oq.lt k e).1;omega
 have e:∀ k,k<w.heap.size->k≠b0+6->qv.ownBlock≠some k->(w2.setCell ⟨b0+6,0,none⟩ v').heap[k]?=w.heap[k]? :=fun k hk hne hq=>(Below.heap_setCell _ _ _ _ (by show k≠b0+6;exact hne)).trans (k2 k hk hq)
 have lo:∀ k,k<b0+7->k≠b0+6->(w2.setCell ⟨b0+6,0,none⟩ v').heap[k]?=w.heap[k]? :=fun k hk hne=>e k (by omega) hne (nq k hk)
 obtain⟨F,hF⟩:=h.res;refine⟨h.eb,World.rowIs.of_block h.d (lo _ (by omega) (by omega)),⟨F,hF.of_block (lo _ (by omega) (by omega))⟩,World.rowIs.of_block h.out (lo _ (by omega) (by omega)),h.num.keep (lo _ (by omega) (by omega)),h.kb.of_block (lo _ (by omega) (by omega)),vA (h.q.of_block (k2 _ (by omega) (nq _ (by omega)))),ak r1 (fun r hr=>Below.heap_setCell _ _ _ _ (by show r≠b0+6;have:=(r1.lt r hr).1;omega)),ak h.on (fun r hr=>e r (aB h.on r hr) (by have:=(h.on.lt r hr).1;omega) (fun e2=>(h.qn r e2).1 hr)),ak h.oa (fun r hr=>e r (aB h.oa r hr) (by have:=(h.oa.lt r hr).1;omega) (fun e2=>(h.qn r e2).2 hr)),fun r hr=>?_,h.na,⟨r2.os.trans (hW.os.trans h.bl.os),r2.tape.trans (hW.tape.trans h.bl.tape),r2.output.trans (hW.output.trans h.bl.output),by rw[aJ];have:=h.bl.size;omega,fun k hk=>(lo k (by omega) (by omega)).trans (h.bl.block k hk)⟩,by rw[aJ];omega⟩;rcases r3 r hr with e2|e2
 ·exact h.qn r e2
 exact⟨fun e3=>by have:=aB h.on r e3;omega,fun e3=>by have:=aB h.oa r e3;omega⟩
theorem dK.pushN{W w2:World}{v':Value}{x:Nat}(h:dK w0 w b0 cl nx ac k ks o tk ys zs qv nv av)(hW:Below w.heap.size w W)(r1:w2.ownsRow (b0+7) 3 1 v' (ys++[x]).length ((ys++[x]).map mN))(r2:W.grownBy w2 nv.ownBlock)(r3:∀ q,v'.ownBlock=some q->nv.ownBlock=some q∨w.heap.size<=q) :
  w2.cell? ⟨b0+2,2,none⟩=some nv/\w2.frozen? ⟨b0+2,2,none⟩=false/\dK w0 (w2.setCell ⟨b0+2,2,none⟩ v') b0 cl nx ac k ks o tk (ys++[x]) zs qv v' av:=by
 have hz:=h.sz;have b:=r2.size;have c:=hW.size;have k2:=dy hW r2;have nq:∀ k,k<b0+7->nv.ownBlock≠some k:=fun k hk e=>by have:=(h.on.lt k e).1;omega
 have e:∀ k,k<w.heap.size->k≠b0+2->nv.ownBlock≠some k->(w2.setCell ⟨b0+2,2,none⟩ v').heap[k]?=w.heap[k]? :=fun k hk hne hq=>(Below.heap_setCell _ _ _ _ (by show k≠b0+2;exact hne)).trans (k2 k hk hq)
 have lo:∀ k,k<b0+7->k≠b0+2->(w2.setCell ⟨b0+2,2,none⟩ v').heap[k]?=w.heap[k]? :=fun k hk hne=>e k (by omega) hne (nq k hk)
 obtain⟨F,hF⟩:=h.res;have a:aD w2 (b0+2) 33 cl (.int .i64 (k:Nat)) nv av:=World.rowIs.of_block h.out (k2 _ (by omega) (nq _ (by omega)));refine⟨a.facts.2.2.1,World.rowIs.frozen a 2,h.eb,World.rowIs.of_block h.d (lo _ (by omega) (by omega)),⟨F,hF.of_block (lo _ (by omega) (by omega))⟩,a.put2,h.num.keep (lo _ (by omega) (by omega)),h.kb.of_block (lo _ (by omega) (by omega)),h.q.of_block (lo _ (by omega) (by omega)),ak h.oq (fun r hr=>e r (aB h.oq r hr) (by have:=(h.oq.lt r hr).1;omega) (fun e2=>(h.qn r hr).1 e2)),ak r1 (fun r hr=>Below.heap_setCell _ _ _ _ (by show r≠b0+2;have:=(r1.lt r hr).1;omega)),ak h.oa (fun r hr=>e r (aB h.oa r hr) (by have:=(h.oa.lt r hr).1;omega) (fun e2=>h.na r e2 hr)),fun r hr=>⟨fun e3=>?_,(h.qn r hr).2⟩,fun r hr=>?_,⟨r2.os.trans (hW.os.trans h.bl.os),r2.tape.trans (hW.tape.trans h.bl.tape),r2.output.trans (hW.output.trans h.bl.output),by rw[aJ];have:=h.bl.size;omega,fun k hk=>(lo k (by omega) (by omega)).trans (h.bl.block k hk)⟩,by rw[aJ];omega⟩
 ·rcases r3 r e3 with e2|e2
  ·exact(h.qn r hr).1 e2
  have:=aB h.oq r hr;omega
 rcases r3 r hr with e2|e2
 ·exact h.na r e2
 exact fun e3=>by have:=aB h.oa r e3;omega
theorem dK.pushA{W w2:World}{v':Value}{x:Bool}(h:dK w0 w b0 cl nx ac k ks o tk ys zs qv nv av)(hW:Below w.heap.size w W)(r1:w2.ownsRow (b0+7) 4 1 v' (zs++[x]).length ((zs++[x]).map mT))(r2:W.grownBy w2 av.ownBlock)(r3:∀ q,v'.ownBlock=some q->av.ownBlock=some q∨w.heap.size<=q) :
  w2.cell? ⟨b0+2,3,none⟩=some av/\w2.frozen? ⟨b0+2,3,none⟩=false/\dK w0 (w2.setCell ⟨b0+2,3,none⟩ v') b0 cl nx ac k ks o tk ys (zs++[x]) qv nv v':=by
 have hz:=h.sz;have b:=r2.size;have c:=hW.size;have k2:=dy hW r2;have nq:∀ k,k<b0+7->av.ownBlock≠some k:=fun k hk e=>by have:=(h.oa.lt k e).1;omega
 have e:∀ k,k<w.heap.size->k≠b0+2->av.ownBlock≠some k->(w2.setCell ⟨b0+2,3,none⟩ v').heap[k]?=w.heap[k]? :=fun k hk hne hq=>(Below.heap_setCell _ _ _ _ (by show k≠b0+2;exact hne)).trans (k2 k hk hq)
 have lo:∀ k,k<b0+7->k≠b0+2->(w2.setCell ⟨b0+2,3,none⟩ v').heap[k]?=w.heap[k]? :=fun k hk hne=>e k (by omega) hne (nq k hk)
 obtain⟨F,hF⟩:=h.res;have a:aD w2 (b0+2) 33 cl (.int .i64 (k:Nat)) nv av:=World.rowIs.of_block h.out (k2 _ (by omega) (nq _ (by omega)));refine⟨a.facts.2.2.2.1,World.rowIs.frozen a 3,h.eb,World.rowIs.of_block h.d (lo _ (by omega) (by omega)),⟨F,hF.of_block (lo _ (by omega) (by omega))⟩,a.put3',h.num.keep (lo _ (by omega) (by omega)),h.kb.of_block (lo _ (by omega) (by omega)),h.q.of_block (lo _ (by omega) (by omega)),ak h.oq (fun r hr=>e r (aB h.oq r hr) (by have:=(h.oq.lt r hr).1;omega) (fun e2=>(h.qn r hr).2 e2)),ak h.on (fun r hr=>e r (aB h.on r hr) (by have:=(h.on.lt r hr).1;omega) (fun e2=>h.na r hr e2)),ak r1 (fun r hr=>Below.heap_setCell _ _ _ _ (by show r≠b0+2;have:=(r1.lt r hr).1;omega)),fun r hr=>⟨(h.qn r hr).1,fun e3=>?_⟩,fun r hr e3=>?_,⟨r2.os.trans (hW.os.trans h.bl.os),r2.tape.trans (hW.tape.trans h.bl.tape),r2.output.trans (hW.output.trans h.bl.output),by rw[aJ];have:=h.bl.size;omega,fun k hk=>(lo k (by omega) (by omega)).trans (h.bl.block k hk)⟩,by rw[aJ];omega⟩
 ·rcases r3 r e3 with e2|e2
  ·exact(h.qn r hr).2 e2
  have:=aB h.oq r hr;omega
 rcases r3 r e3 with e2|e2
 ·exact h.na r hr e2
 have:=aB h.on r hr;omega
end
theorem wm{b0 base e sz n:Nat}{w:World}{v:Value}{xs:List Value}(h:w.ownsRow b0 e sz v n xs)(hb:∀ q,v.ownBlock=some q->base<=q):w.ownsRow base e sz v n xs:=by
 refine⟨h.1,?_⟩;rcases h.2 with hn|⟨g,cap,cur,rfl,-,rest⟩
 ·exact .inl hn
 exact .inr ⟨g,cap,cur,rfl,hb g rfl,rest⟩
theorem zy(o:List Nat):(o.map (fun x:Nat=>(x:Int))).map mI=o.map mN:=by simp[mN]
theorem tV{o:List Nat}{i x:Nat}(h:(o.map mN)[i]?=some (.int .i64 (x:Nat))):o[i]?=some x:=by
 rw[List.getElem?_map]at h;cases e:o[i]? with
 | none=>rw[e]at h;cases h
 | some y =>
  rw[e]at h;simp only[Option.map_some,mN,mI,Option.some.injEq,Value.int.injEq,true_and]at h;rw[show y=x by omega]
theorem xw{o:List Nat}{x:Nat}:(Value.int .i64 (x:Nat))∈o.map mN↔x∈o:=by
 constructor
 ·intro h;obtain⟨i,hi⟩:=List.getElem?_of_mem h;exact List.mem_of_getElem? (tV hi)
 intro h;exact List.mem_map.2 ⟨x,h,rfl⟩
section
variable {w0 w:World} {b0:Nat} {cl nx ac:Value} {k:Nat} {ks o:List Nat} {tk:Nat} {ys:List Nat} {zs:List Bool} {qv nv av:Value}
theorem uC(h:dK w0 w b0 cl nx ac k ks o tk ys zs qv nv av)(x:Nat)(hl:o.length<=1000000) :
  Calls prog 103 #[.pointer (some ⟨b0+6,0,none⟩),.int .i64 (x:Nat)] w fun e w'=>e=.returned (.tuple #[])/\∃ qv',dK w0 w' b0 cl nx ac k ks (o++[x]) tk ys zs qv' nv av:=by
 have hz:=h.sz;have nq:qv.ownBlock≠some (b0+6):=fun e=>by have:=(h.oq.lt _ e).1;omega
 refine(qy (b0+6) 0 qv (o.map (fun x:Nat=>(x:Int))) (x:Nat) w (by omega) nq (by simpa using hl) ?_ (h.q.frozen 0) ?_).mono ?_
 ·rw[h.q.cell (by omega)];rfl
 ·rw[List.length_map,zy];exact aS h.oq (Nat.zero_le _)
 rintro e w' ⟨rfl,v',w2,rfl,r1,r2,r3⟩;refine⟨rfl,v',h.pushQ (ai w _) (wm (b0:=0) ?_ (fun q hq=>?_)) r2 r3⟩
 ·have e:(o.map (fun x:Nat=>(x:Int))++[(x:Int)])=(o++[x]).map (fun x:Nat=>(x:Int)):=by simp
  rw[e,List.length_map,zy]at r1;exact r1
 rcases r3 q hq with e|e
 ·exact(h.oq.lt q e).1
 omega
theorem Cp(h:dK w0 w b0 cl nx ac k ks o tk ys zs qv nv av)(x:Nat)(hx:x<=1000000)(hl:ks.length<100000) :
  Calls prog 102 #[.agg #[.map (some (b0+4))],.int .i64 (x:Nat)] w fun e w'=>∃ (i:Nat) (f:Bool),e=.returned (.tuple #[.int .i64 (i:Nat),.bool f])/\
   ((f=false/\ks[i]?=some x/\dK w0 w' b0 cl nx ac k ks o tk ys zs qv nv av)∨(f=true/\x ∉ ks/\i=ks.length/\dK w0 w' b0 cl nx ac k (ks++[x]) o tk ys zs qv nv av)):=by
 refine(vj (b0+4) (x:Nat) (ks.map mN) w h.num (by omega) (by omega) (by simpa using hl)).mono ?_;rintro e w' ⟨i,ks',f,rfl,hR,hN,hF⟩;refine⟨i,f,rfl,?_⟩;rcases hR with ⟨h1,rfl,h2,rfl⟩|⟨h1,rfl,rfl,rfl⟩
 ·exact .inl ⟨rfl,tV h2,h.looked hF hN⟩
 refine .inr ⟨rfl,fun hm=>h1 (xw.2 hm),by simp,h.looked hF ?_⟩;rw[List.map_append];exact hN
theorem Aa(h:dK w0 w b0 cl nx ac k ks o tk ys zs qv nv av)(ht:tk<=o.length)(hl:o.length<=1000000) :
  Calls prog 104 #[.pointer (some ⟨b0+6,0,none⟩)] w fun e w'=>(tk=o.length/\e=.returned (.tuple #[.int .i64 0,.bool false])/\dK w0 w' b0 cl nx ac k ks o tk ys zs qv nv av) ∨
   (∃ s,o[tk]?=some s/\e=.returned (.tuple #[.int .i64 (s:Nat),.bool true])/\dK w0 w' b0 cl nx ac k ks o (tk+1) ys zs qv nv av):=by
 have c0:w.cell? ⟨b0+6,0,none⟩=some qv:=by rw[h.q.cell (by omega)];rfl
 have c1:w.cell? ⟨b0+6,0+1,none⟩=some (.int .i64 (tk:Nat)):=by rw[h.q.cell (by omega)];rfl
 obtain⟨oa,oc,rfl⟩:=aj h.oq
 by_cases e:tk=o.length
 ·refine(rP (b0+6) 0 oa o.length oc w c0 (by rw[<-e];exact c1)).mono ?_;rintro x w' ⟨rfl,q,rfl⟩;exact .inl ⟨e,rfl,h.keep ⟨rfl,rfl,rfl,Nat.le_refl _,fun _ _=>rfl⟩⟩
 have hlt:tk<o.length:=by omega
 obtain⟨qb,qc,e2,a⟩:=eP h.oq (by omega);cases e2;obtain⟨y,hy⟩ : ∃ y,o[tk]?=some y:=⟨_,List.getElem?_eq_getElem hlt⟩;refine(sG (b0+6) 0 qb 0 tk (y:Nat) o.length oc w hl hlt c0 c1 (by rw[Nat.zero_add,a tk hlt,List.getElem?_map,hy];rfl) (h.q.frozen 1)).mono ?_;rintro x w' ⟨rfl,q,rfl⟩;exact .inr ⟨y,hy,rfl,h.popd q⟩
end
theorem Tryz.zinBoo:(prog.info? 4).map (fun i=>(i.zero,i.size,i.bytes))=some (some (.bool false),1,1):=by kernel_rfl
theorem qM{u0 u2 u4 u5 u7 u8 u9 u10 u11 u12 u13 u14 u15 u16 u17 u18 u19 u20 u21 u22 u23 u24 u25 u26 u27 u28 u29 u30 u31 u32 u33 u34 u35 u36 u37 u38 u39 u40 u41 u42 u43 u44 u45 u46 u47 u48 u49 u50 u51 u52 u53 u54 u55 u56 u57 u58 u59 u60 u61 u62 u63 u64:Value}{K K1 K2 K3:Act->World->Prop}{n1 n2:Nat}{R:Ending->World->Prop}(w7:World)(db ob ab ao n ca s N oc lo:Nat)(oa:Option Addr)(x:Bool)(xs:List Value)(hs:s<n)(hob:ob<w7.heap.size)(hlo:lo<=w7.heap.size)(hN:N<=1000000)
  (y3:w7.cell? ⟨ob,3,none⟩=some (.slice oa N oc))(k3:w7.cell? ⟨db,3,none⟩=some (.slice (some ⟨ab,ao,none⟩) n ca))(k0:w7.cell? ⟨ab,ao+s,none⟩=some (.bool x))
  (hrk:w7.ownsRow lo 4 1 (.slice oa N oc) N xs)
  (hps:∀ (WA w8:World) (gg cap:Nat),w8.ownsRow lo 4 1 (.slice (some ⟨gg,0,none⟩) (N+1) cap) (N+1) (xs++[.bool x])->WA.grownBy w8 (Value.slice oa N oc).ownBlock->((Value.slice oa N oc).ownBlock=some gg∨gg=w7.heap.size+1)->aK w7 WA (.cells #[.bool x] 4)->
   w8.cell? ⟨ob,3,none⟩=some (.slice oa N oc)/\w8.frozen? ⟨ob,3,none⟩=false/\K { tmps:=#[u0,.pointer (some ⟨db,0,none⟩),u2,.pointer (some ⟨ob,0,none⟩),u4,u5,.int .i64 (s:Nat),u7,u8,u9,u10,u11,u12,u13,u14,u15,u16,u17,u18,u19,u20,u21,u22,u23,u24,u25,u26,u27,u28,u29,.pointer (some ⟨ob,3,none⟩),.slice oa N oc,.pointer (some ⟨db,3,none⟩),.slice (some ⟨ab,ao,none⟩) n ca,.int .i64 (s:Nat),.pointer (some ⟨ab,ao+s,none⟩),.bool x,.slice (some ⟨w7.heap.size,0,none⟩) 1 1,.slice (some ⟨gg,0,none⟩) (N+1) cap,.pointer (some ⟨ob,3,none⟩),u40,u41,u42,u43,u44,u45,u46,u47,u48,u49,u50,u51,u52,u53,u54,u55,u56,u57,u58,u59,u60,u61,u62,u63,u64],defers:=[] } (w8.setCell ⟨ob,3,none⟩ (.slice (some ⟨gg,0,none⟩) (N+1) cap))) :
  Code.wp prog (Code.region 9 #[{ dst:=some 30,op:=Op.fieldAddr 33 (Operand.tmp 3) 3,type:=0,pos:= "l2_dfa.go:433",after:=#[],guard:=none },{ dst:=some 31,op:=Op.load 31 (Operand.tmp 30),type:=31,pos:= "l2_dfa.go:433",after:=#[{ on:=0,ground:=Ground.data }],guard:=none },{ dst:=some 32,op:=Op.fieldAddr 33 (Operand.tmp 1) 3,type:=0,pos:= "l2_dfa.go:433",after:=#[],guard:=none },{ dst:=some 33,op:=Op.load 31 (Operand.tmp 32),type:=31,pos:= "l2_dfa.go:433",after:=#[{ on:=2,ground:=Ground.data }],guard:=none },{ dst:=some 34,op:=Op.move (Operand.tmp 6),type:=3,pos:= "l2_dfa.go:433",after:=#[],guard:=none },{ dst:=some 35,op:=Op.indexAddr 31 (Operand.tmp 33) (Operand.tmp 34),type:=0,pos:= "l2_dfa.go:433",after:=#[{ on:=3,ground:=Ground.data },{ on:=4,ground:=Ground.data }],guard:=none },{ dst:=some 36,op:=Op.load 4 (Operand.tmp 35),type:=4,pos:= "l2_dfa.go:433",after:=#[{ on:=5,ground:=Ground.data }],guard:=none },{ dst:=some 37,op:=Op.buildSlice 31 1 #[(0,Operand.tmp 36)],type:=31,pos:= "l2_dfa.go:433",after:=#[{ on:=6,ground:=Ground.data }],guard:=none },{ dst:=some 38,op:=Op.call { callee:=Callee.builtin Builtin.append,args:=#[Operand.tmp 31,Operand.tmp 37],argTypes:=#[31,31] },type:=31,pos:= "l2_dfa.go:433",after:=#[{ on:=1,ground:=Ground.data },{ on:=7,ground:=Ground.data }],guard:=none },{ dst:=some 39,op:=Op.fieldAddr 33 (Operand.tmp 3) 3,type:=0,pos:= "l2_dfa.go:433",after:=#[{ on:=0,ground:=Ground.phase },{ on:=1,ground:=Ground.phase },{ on:=2,ground:=Ground.phase },{ on:=3,ground:=Ground.phase },{ on:=4,ground:=Ground.phase },{ on:=5,ground:=Ground.phase },{ on:=6,ground:=Ground.phase },{ on:=7,ground:=Ground.phase },{ on:=8,ground:=Ground.phase }],guard:=none },{ dst:=none,op:=Op.store 31 (Operand.tmp 39) (Operand.tmp 38),type:=0,pos:= "l2_dfa.go:433",after:=#[{ on:=9,ground:=Ground.data },{ on:=8,ground:=Ground.data },{ on:=8,ground:=Ground.chain },{ on:=0,ground:=Ground.phase },{ on:=1,ground:=Ground.phase },{ on:=2,ground:=Ground.phase },{ on:=3,ground:=Ground.phase },{ on:=4,ground:=Ground.phase },{ on:=5,ground:=Ground.phase },{ on:=6,ground:=Ground.phase },{ on:=7,ground:=Ground.phase },{ on:=8,ground:=Ground.phase }],guard:=none }] true) (Exit.then K (Exit.inBlock n1 (Exit.then K1 (Exit.then K2 (Exit.inBlock n2 (Exit.then K3 (bodyPost prog Tryz.f59 R))))))) { tmps:=#[u0,.pointer (some ⟨db,0,none⟩),u2,.pointer (some ⟨ob,0,none⟩),u4,u5,.int .i64 (s:Nat),u7,u8,u9,u10,u11,u12,u13,u14,u15,u16,u17,u18,u19,u20,u21,u22,u23,u24,u25,u26,u27,u28,u29,u30,u31,u32,u33,u34,u35,u36,u37,u38,u39,u40,u41,u42,u43,u44,u45,u46,u47,u48,u49,u50,u51,u52,u53,u54,u55,u56,u57,u58,u59,u60,u61,u62,u63,u64],defers:=[] } w7:=by
 obtain⟨j0,a,b,c,d⟩:=info_parts Tryz.zinBoo;have y3':=(ai w7 (.cells #[.bool x] 4)).cell (p:=⟨ob,3,none⟩) hob;rw[y3]at y3';have g:(s:Int)<(n:Int):=by omega
 have e:=ae hps;have f:=ae hrk;clear hps hrk
 go_region_law (
  (refine step_append_lies _ rfl (.tmp 31) (.tmp 37) 31 rfl lo 4 j0 (.bool false) 1 1 underlying31 a b c d rfl (by decide) (.slice oa N oc) N xs (by first|(simp[Act.eval];done)|(simp[Act.eval,Act.put];done)) (by refine aK.own (w:=w7) (o:=.cells #[.bool x] 4) ?_ f.u;exact⟨rfl,rfl,rfl,rfl⟩) ⟨w7.heap.size,0,none⟩ 1 1 [.bool x] (by first|(simp[Act.eval];done)|(simp[Act.eval,Act.put];done)) rfl (by refine aK.news (w:=w7) (cs:=#[.bool x]) (t:=4) ?_;exact⟨rfl,rfl,rfl,rfl⟩) (by intro u hu;simp only[List.mem_cons,List.not_mem_nil,or_false]at hu;subst hu;rfl) (by decide) (by unfold maxLen;omega) (by omega) (by have hq:=ah w7 (.cells #[.bool x] 4);exact Nat.le_trans hlo (Nat.le_of_lt (Nat.lt_of_lt_of_eq (Nat.lt_succ_self _) hq.symm))) (w7.heap.size+1) (ah w7 _) (fun gg cap w8 r1 r2 r3 r4=>?_);have h8:=ae (e.u _ w8 gg cap r1 r2 r3 (by exact⟨rfl,rfl,rfl,rfl⟩));obtain⟨c7,z7,-⟩:=h8.u;clear r1 r2 r3 r4))
 all_goals exact h8.u.2.2
def xZ:Value->Nat
 | .bool true=>1
 | _=>0
def fw(g:Nat)(w:World):Nat:=(intOf ((w.cell? ⟨g,1,none⟩).getD undef)).toNat
def FO(A:Tb)(w0 w:World)(b0:Nat)(cl nx ac:Value)(sv ov:Value):Prop:=
 ∃ (o:List Nat) (tk:Nat) (ys:List Nat) (zs:List Bool) (qv nv av:Value),dK w0 w b0 cl nx ac A.k o o tk ys zs qv nv av/\eK A.k A.nx 0 o ys/\(∀ x∈o,x<A.n)/\
  ((ov=.bool false/\tk=o.length/\ys.length=tk*A.k/\zs=o.map A.ac) ∨
   (ov=.bool true/\∃ t s,tk=t+1/\o[t]?=some s/\sv=.int .i64 (s:Nat)/\ys.length=t*A.k/\zs=(o.take t).map A.ac))
theorem eK.few{A:Tb}{o ys:List Nat}(h:eK A.k A.nx 0 o ys)(ho:∀ x∈o,x<A.n):o.length<=A.n:=by
 refine cm A.n o ?_ ho;rw[List.nodup_iff_pairwise_ne,List.pairwise_iff_getElem];intro i j hi hj a e;have:=h.nd i j hi hj (by rw[List.getElem?_eq_getElem hi,List.getElem?_eq_getElem hj,e]);omega
theorem jQ{w:World}{B:Nat}{c0 c1 c2 c3:Value}(h:aD w B 33 c0 c1 c2 c3){fn:Func}{p:Tmp}(hr:fn.results=#[.cell p 33])(tmps:Array Value)(hp:tmps.getD p undef=.pointer (some ⟨B,0,none⟩)):(results fn tmps).run prog w=.ok (.agg #[c0,c1,c2,c3]) w:=by
 obtain⟨c,hb,hs,hc⟩:=h;have e:c=#[c0,c1,c2,c3]:=by
  apply Array.ext_getElem?
  intro i
  by_cases hi:i<4
  ·rw[hc i hi]
   match i,hi with
   | 0,_=>rfl
   | 1,_=>rfl
   | 2,_=>rfl
   | 3,_=>rfl
  rw[Array.getElem?_eq_none (by omega),Array.getElem?_eq_none (by simp;omega)]
 subst e;exact results_cell_row hr tmps w B _ _ _ _ hp hb underlying33 rfl (by kernel_rfl)
theorem qB(A:Tb)(cl:Value)(b off cN ab ao ca:Nat)(w:World)(hw:A.Wf)(hn:A.n<=1024)(hk:1<=A.k/\A.k<=256)(hcN:A.n*A.k<=cN)(hb:b<w.heap.size)(hx:jZ w b off A.n A.k A.nx)
  (hab:ab<w.heap.size)(hac:∀ q,q<A.n->w.cell? ⟨ab,ao+q,none⟩=some (.bool (A.ac q)))(hcl:∃ a n c,cl=.slice a n c) :
  Calls prog 59 #[.agg #[cl,.int .i64 (A.k:Nat),.slice (some ⟨b,off,none⟩) (A.n*A.k) cN,.slice (some ⟨ab,ao,none⟩) A.n ca]] w fun e w'=>∃ nv av,e=.returned (.agg #[cl,.int .i64 (A.k:Nat),nv,av])/\Below w.heap.size w w'/\
   ∃ o ys,eK A.k A.nx 0 o ys/\ys.length=o.length*A.k/\o.length<=A.n/\w'.ownsRow w.heap.size 3 1 nv ys.length (ys.map mN)/\w'.ownsRow w.heap.size 4 1 av o.length ((o.map A.ac).map mT)/\∀ r,nv.ownBlock=some r->av.ownBlock≠some r:=by
 obtain⟨i0,b0,b1,b2,b3⟩:=info_parts Tryz.zinInt;obtain⟨ca0,cl0,cc0,rfl⟩:=hcl;have cx:1<=A.n:=hw.pos;have c4:A.n*A.k<=1024*256:=Nat.mul_le_mul hn hk.2;obtain⟨L,hL⟩ : ∃ L,L=A.n*A.k:=⟨_,rfl⟩;rw[<-hL]at hcN c4 ⊢;obtain⟨W3,K⟩ : ∃ W3,W3=((w.alloc (.cells #[.slice ca0 cl0 cc0,.int .i64 (A.k:Nat),.slice (some ⟨b,off,none⟩) L cN,.slice (some ⟨ab,ao,none⟩) A.n ca] 33)).alloc (.cells #[.slice none 0 0,.int .i64 0,.slice none 0 0,.slice none 0 0] 33)).alloc (.cells #[.slice ca0 cl0 cc0,.int .i64 (A.k:Nat),.slice none 0 0,.slice none 0 0] 33):=⟨_,rfl⟩;have c5:W3.heap.size=w.heap.size+3:=by rw[K,ah,ah,ah]
 have b4:Below w.heap.size w W3:=by rw[K];exact(aH w _ _).trans ((ai _ _).mono (by rw[ah,ah];omega))
 have b5:aD W3 w.heap.size 33 (.slice ca0 cl0 cc0) (.int .i64 (A.k:Nat)) (.slice (some ⟨b,off,none⟩) L cN) (.slice (some ⟨ab,ao,none⟩) A.n ca):=by rw[K];exact((aD.new w _ _ _ _ _).alloc _).alloc _
 have b6:aD W3 (w.heap.size+1) 33 (.slice none 0 0) (.int .i64 0) (.slice none 0 0) (.slice none 0 0):=by
  have:=aD.new (w.alloc (.cells #[.slice ca0 cl0 cc0,.int .i64 (A.k:Nat),.slice (some ⟨b,off,none⟩) L cN,.slice (some ⟨ab,ao,none⟩) A.n ca] 33)) 33 (.slice none 0 0) (.int .i64 0) (.slice none 0 0) (.slice none 0 0);rw[ah]at this;rw[K];exact this.alloc _
 have b7:aD W3 (w.heap.size+2) 33 (.slice ca0 cl0 cc0) (.int .i64 (A.k:Nat)) (.slice none 0 0) (.slice none 0 0):=by
  have:=aD.new ((w.alloc (.cells #[.slice ca0 cl0 cc0,.int .i64 (A.k:Nat),.slice (some ⟨b,off,none⟩) L cN,.slice (some ⟨ab,ao,none⟩) A.n ca] 33)).alloc (.cells #[.slice none 0 0,.int .i64 0,.slice none 0 0,.slice none 0 0] 33)) 33 (.slice ca0 cl0 cc0) (.int .i64 (A.k:Nat)) (.slice none 0 0) (.slice none 0 0);rw[ah,ah]at this;rw[K];exact this
 have HN:=ae (qL W3);have HL:=ae hL;have HX:=ae hx;have c6:=ae hac;have b8:=ae K;have c7:=ae b4;have b9:=ae b5;have bb:=ae b6;have bc:=ae b7;clear hL hx hac K b4 b5 b6 b7
 go_enter func59,ntmps59
 go_wp2_with fail;rw[<-b8.u];refine HN.u.mono ?_;rintro e w4 ⟨rfl,aa,ad,bd⟩;rw[c5]at aa ad ⊢;obtain⟨W6,R⟩ : ∃ W6,W6=(w4.alloc (.cells #[.map (some (w.heap.size+3+1))] 173)).alloc (.cells #[.slice none 0 0,.int .i64 0] 177):=⟨_,rfl⟩;have af:dK w W6 w.heap.size (.slice ca0 cl0 cc0) (.slice (some ⟨b,off,none⟩) L cN) (.slice (some ⟨ab,ao,none⟩) A.n ca) A.k [] [] 0 [] [] (.slice none 0 0) (.slice none 0 0) (.slice none 0 0):=by
  have bf:Below w4.heap.size w4 W6:=by rw[R];exact aH w4 _ _
  have O:Below W3.heap.size W3 W6:=bd.trans (bf.mono (by omega));refine⟨rfl,b9.u.below O (by omega),⟨_,World.rowIs.of_block bb.u (O.block _ (by omega))⟩,bc.u.below O (by omega),aa.keep (bf.block _ (by omega)),?_,?_,World.ownsRow_nil _ _ _ _,World.ownsRow_nil _ _ _ _,World.ownsRow_nil _ _ _ _,(fun r hr=>by cases hr),(fun r hr=>by cases hr),c7.u.trans (O.mono (by omega)),by rw[R,ah,ah];omega⟩
  ·have:=World.rowIs_alloc w4 #[.map (some (w.heap.size+3+1))] 173 (fun _=>.map (some (w.heap.size+3+1))) (fun j hj=>by
    match j,hj with
    | 0,_=>rfl)
   rw[ad]at this;rw[R];exact this.alloc _
  have:=World.rowIs_alloc (w4.alloc (.cells #[.map (some (w.heap.size+3+1))] 173)) #[.slice none 0 0,.int .i64 0] 177 (fun j=>[Value.slice none 0 0,.int .i64 ((0:Nat):Int)].getD j undef) (fun j hj=>by
   match j,hj with
   | 0,_=>rfl
   | 1,_=>rfl)
  rw[ah,ad]at this;rw[R];exact this
 have u0:W6.cell? ⟨w.heap.size+5,0,none⟩=some (.map (some (w.heap.size+4))):=af.kb.cell (by omega);have S:=ae (Cp af 0 (by omega) (by decide));have bi:=ae R;clear af R HN b8 bd aa b9 bb bc
 go_wp2_with fail;rw[<-bi.u];clear bi;simp only[Nat.add_assoc,Nat.reduceAdd];refine S.u.mono ?_;rintro e w7 ⟨i7,f7,rfl,⟨-,h7,-⟩|⟨rfl,-,rfl,bj⟩⟩
 ·cases h7
 have T:=ae (uC bj 0 (by decide));clear bj S u0
 go_wp2_with fail;refine T.u.mono ?_;rintro e w8 ⟨rfl,qv8,ag⟩;rw[List.nil_append]at ag;have U:=ae (Aa ag (by decide) (by decide));clear ag T
 go_wp2_with fail;refine U.u.mono ?_;rintro e w9 V;have a2:∃ nv ov,e=.returned (.tuple #[nv,.bool ov])/\FO A w w9 w.heap.size (.slice ca0 cl0 cc0) (.slice (some ⟨b,off,none⟩) L cN) (.slice (some ⟨ab,ao,none⟩) A.n ca) nv (.bool ov):=by
  rcases V with ⟨h1,-⟩|⟨s,h1,rfl,h2⟩
  ·cases h1
  exact⟨_,_,rfl,[0],1,[],[],_,_,_,h2,eK.start _ _ _,(fun x hx=>by rw[List.mem_singleton]at hx;omega),.inr ⟨rfl,0,s,rfl,h1,rfl,by simp,by simp⟩⟩
 obtain⟨nv9,ov9,rfl,a2⟩:=a2;have bn:=ae a2;clear V a2 U
 go_wp2_with fail
 go_loopw [6,7] (fun sv ov wr=>FO A w wr w.heap.size (.slice ca0 cl0 cc0) (.slice (some ⟨b,off,none⟩) L cN) (.slice (some ⟨ab,ao,none⟩) A.n ca) sv ov) (fun _ ov wr=>2*(A.n-fw (w.heap.size+6) wr)+xZ ov)
 case atStart=>exact bn.u
 clear bn;obtain⟨o,tk,ys,zs,qv,nv,av,hR,v,B,⟨rfl,bo,z,rfl⟩|⟨rfl,t,s,rfl,hs,rfl,z,rfl⟩⟩:=hrel
 ·have I:=v.few B;obtain⟨g0,g1,g2,g3,-⟩:=hR.out.facts;obtain⟨F,hF⟩:=hR.res;have x0:=hF.cell (i:=0) (by omega);have x1:=hF.cell (i:=1) (by omega);have x2:=hF.cell (i:=2) (by omega);have x3:=hF.cell (i:=3) (by omega);have z0:=hF.frozen 0;have z1:=hF.frozen 1;have z2:=hF.frozen 2;have z3:=hF.frozen 3;obtain⟨na,nc,e1⟩:=aj hR.on;obtain⟨va,vc,e2⟩:=aj hR.oa;rw[List.length_map]at e2;have HR:=ae hR;have E:=ae v;have HF:=ae hF;rw[e1]at g2;rw[e2]at g3;have G:=ae e1;have bq:=ae e2;have H:=ae z;have cb:=ae bo;clear hR v hF e1 e2 z bo;go_wp2;have br:=(World.rowIs.congr (((HF.u.set 0 (.slice ca0 cl0 cc0)).set 1 (.int .i64 (A.k:Nat))).set 2 (.slice na ys.length nc)) (g:=fun j=>if j=2 then Value.slice na ys.length nc else if j=1 then .int .i64 (A.k:Nat) else if j=0 then .slice ca0 cl0 cc0 else F j) (fun j _=>rfl)).set 3 (.slice va o.length vc);have cc:=(World.rowIs.congr br (g:=fun j=>[Value.slice ca0 cl0 cc0,.int .i64 (A.k:Nat),.slice na ys.length nc,.slice va o.length vc].getD j undef) (fun j hj=>by
   match j,hj with
   | 0,_=>rfl
   | 1,_=>rfl
   | 2,_=>rfl
   | 3,_=>rfl))
  have M:cd (w.heap.size+1) wr ((((wr.setCell ⟨w.heap.size+1,0,none⟩ (.slice ca0 cl0 cc0)).setCell ⟨w.heap.size+1,1,none⟩ (.int .i64 (A.k:Nat))).setCell ⟨w.heap.size+1,2,none⟩ (.slice na ys.length nc)).setCell ⟨w.heap.size+1,3,none⟩ (.slice va o.length vc)):=(((am _ _).trans (am _ _)).trans (am _ _)).trans (am _ _);refine bodyPost_ret (jQ cc rfl _ rfl) rfl ?_;have hR:=HR.u;have N:=hR.oa;rw[G.u,bq.u]at hR;rw[bq.u,List.length_map]at N;refine⟨_,_,rfl,⟨M.os.trans hR.bl.os,M.tape.trans hR.bl.tape,M.output.trans hR.bl.output,by rw[M.size];exact hR.bl.size,fun k hk=>(M.block k (by omega)).trans (hR.bl.block k hk)⟩,o,ys,E.u,by rw[H.u,cb.u],I,aS (ak hR.on (fun r hr=>M.block r (by have:=(hR.on.lt r hr).1;omega))) (by omega),aS (ak N (fun r hr=>M.block r (by have:=(N.lt r hr).1;omega))) (by omega),hR.na⟩
 have hlt:t<o.length:=(List.getElem?_eq_some_iff.1 hs).1;have a3:=B s (List.mem_of_getElem? hs);have I:=v.few B;have cs:(s:Int)<(A.n:Int):=by omega
 obtain⟨g0,g1,g2,g3,-⟩:=hR.out.facts;obtain⟨d0,d1,d2,d3,-⟩:=hR.d.facts;have W:fw (w.heap.size+6) wr=t+1:=by
  rw[fw,hR.q.cell (by omega)];simp[intOf]
 have cf:=ae W;clear W;have y0:wr.cell? ⟨ab,ao+s,none⟩=some (.bool (A.ac s)):=by rw[hR.bl.cell (p:=⟨ab,ao+s,none⟩) hab];exact c6.u s a3
 have HR:=ae hR;have E:=ae v;have H:=ae z;clear hR v z
 go_wp2_with fail;obtain⟨va,vc,e2⟩:=aj HR.u.oa;have a4:(List.map A.ac (o.take t)).length=t:=by rw[List.length_map,List.length_take];omega
 rw[a4]at e2;have N:=HR.u.oa;rw[a4,e2]at N;rw[e2]at g3;have ch:=HR.u.sz;refine qM wr w.heap.size (w.heap.size+2) ab ao A.n ca s t vc (w.heap.size+7) va (A.ac s) _ a3 (by omega) ch (by omega) g3 d3 y0 N (fun WA w8 gg cap r1 r2 r3 hP=>?_)
 have hA:=HR.u.pushA (x:=A.ac s) (v':=.slice (some ⟨gg,0,none⟩) (t+1) cap) hP.below (by rw[List.length_append,a4,List.map_append];exact r1) (by rw[e2];exact r2) (fun q hq=>by
  rw[e2];have ci:gg=q:=Option.some.inj hq;subst ci;rcases r3 with e|e
  ·exact .inl e
  exact .inr (by omega))
 rw[e2]at hA;refine⟨hA.1,hA.2.1,?_⟩;have X:=hA.2.2;obtain⟨w9',a6⟩ : ∃ w9',w9'=w8.setCell ⟨w.heap.size+2,3,none⟩ (.slice (some ⟨gg,0,none⟩) (t+1) cap):=⟨_,rfl⟩;rw[<-a6]at X ⊢;have bs:List.map A.ac (o.take t)++[A.ac s]=(o.take (t+1)).map A.ac:=by rw[List.take_add_one,hs,List.map_append];rfl
 rw[bs]at X;clear hA a6 r1 r2 r3 hP g0 g1 g2 g3 d0 d1 d2 d3 y0 N e2 bs;obtain⟨d0,d1,d2,d3,-⟩:=X.d.facts;have mY:(s+1)*A.k<=L:=by rw[HL.u];exact Nat.mul_le_mul_right _ a3
 have al:=jS (.slice ca0 cl0 cc0) (.slice (some ⟨ab,ao,none⟩) A.n ca) b off L cN A.k s w9' mY (by omega) hcN (by omega) hk;obtain⟨rq,an⟩ : ∃ rq,rq=s*A.k:=⟨_,rfl⟩;rw[<-an]at al;have bt:=ae al;have ck:=ae an;have bv:=ae X;clear al an mY X
 go_wp2_with fail;refine bt.u.mono ?_;rintro e w10 ⟨rfl,a7⟩;have a8:=ae (bv.u.keep a7);have HO:=ae B;clear bv a7 d0 d1 d2 d3 HR bt B
 go_wp2_with fail
 go_loopw [44] (fun cv wx=>∃ (c:Nat) (o ys:List Nat) (zs:List Bool) (qv nv av:Value),c<=A.k/\cv=.int .i64 (c:Nat)/\dK w wx w.heap.size (.slice ca0 cl0 cc0) (.slice (some ⟨b,off,none⟩) L cN) (.slice (some ⟨ab,ao,none⟩) A.n ca) A.k o o (t+1) ys zs qv nv av/\eK A.k A.nx 0 o ys/\(∀ x∈o,x<A.n)/\o[t]?=some s/\ys.length=t*A.k+c/\zs=(o.take (t+1)).map A.ac) (fun cv _=>A.k-(intOf cv).toNat)
 case atStart=>exact⟨0,o,ys,_,_,_,_,by omega,rfl,a8.u,E.u,HO.u,hs,H.u,rfl⟩
 clear a8 E HO H hlt I hs a4;obtain⟨c,o,ys,zs,qv,nv,av,hc,rfl,hR,v,B,hs,z,a5⟩:=hrel;have I:=v.few B;have ap:t<o.length:=(List.getElem?_eq_some_iff.1 hs).1
 by_cases hcl:c<A.k
 ·have bx:(c:Int)<(A.k:Int):=by omega
  obtain⟨x1,x2⟩:=HX.u s c a3 hcl;have y0:wr.cell? ⟨b,off+rq+c,none⟩=some (.int .i64 (A.nx s c:Nat)):=by rw[ck.u,Nat.add_assoc,hR.bl.cell (p:=⟨b,off+(s*A.k+c),none⟩) hb];exact x2
  have u0:wr.cell? ⟨w.heap.size+5,0,none⟩=some (.map (some (w.heap.size+4))):=hR.kb.cell (by omega);have P:ys.length<=262144:=by
   rw[z];have:=gO (k:=A.k) (Nat.lt_of_lt_of_le ap I) hcl;rw[<-HL.u]at this;omega
  have bz:ys.length / A.k=t/\ys.length%A.k=c:=by rw[z];exact eg hcl
  obtain⟨nxt,Y⟩ : ∃ y,y=A.nx s c:=⟨_,rfl⟩;rw[<-Y]at y0 x1;have S:=ae (Cp hR nxt (by omega) (by omega));have aq:=ae Y;have E:=ae v;have HO:=ae B;have HS:=ae hs;have Z:=ae bz;have H:=ae z;have a0:=ae a5;clear hR v B hs bz z a5 x2 Y
  go_wp2_with fail;refine S.u.mono ?_;rintro e w11 ⟨num,f,rfl,⟨rfl,ar,l⟩|⟨rfl,c0,rfl,l⟩⟩
  ·have ct:num<o.length:=(List.getElem?_eq_some_iff.1 ar).1;obtain⟨-,-,g2,-⟩:=l.out.facts;obtain⟨na,nc,e1⟩:=aj l.on;have m:=l.on;obtain⟨yn,C⟩ : ∃ yn,yn=ys.length:=⟨_,rfl⟩;rw[<-C]at e1;rw[e1]at g2;rw[<-C,e1]at m;have co:yn<=262144:=by rw[C];exact P
   have a1:=ae m;have G:=ae e1;have aw:=ae C.symm;have J:=ae l;have cp:=ae ar;clear l ar m e1 C P S y0 u0
   go_wp2_with (at_builtin;refine wpList_append_own_at _ rfl _ _ 30 rfl (w.heap.size+7) 3 i0 (.int .i64 0) 1 8 underlying30 b0 b1 b2 b3 rfl (by decide) _ _ _ rfl (a1.u.alloc _) ⟨w11.heap.size,0,none⟩ 1 1 [.int .i64 (num:Nat)] rfl rfl ?_ ?_ ?_ ?_ ?_ ?_)
   ·exact dJ (dG _ _ _)
   ·intro u hu;simp at hu;subst hu;rfl
   ·unfold maxLen;omega
   ·omega
   ·rw[ah];have:=J.u.sz;omega
   intro v' w12 r1 r2 _ r3;have D:=J.u.pushN (x:=num) (ai w11 _) (by rw[List.length_append,List.map_append,aw.u];exact r1) (by rw[G.u];exact r2) (fun q hq=>by
    rw[G.u];rcases r3 with e|e
    ·rw[e]at hq;exact .inl hq
    rw[e]at hq;have:=Option.some.inj hq;exact .inr (by omega))
   rw[G.u]at D;obtain⟨pa,pc,e8⟩:=aj r1;subst e8;have z1:=D.1;have z2:=D.2.1;have ax:=ae D.2.2;clear D r1 r2 r3 a1 g2;go_wp2
   go_roundw
   case rel =>
    refine⟨c+1,o,ys++[num],zs,_,_,_,by omega,by go_num,ax.u,E.u.old (x:=s) (by rw[Z.u.1];exact HS.u) (by rw[Z.u.2,<-aq.u];exact cp.u),HO.u,HS.u,by rw[List.length_append,H.u];simp only[List.length_singleton];omega,a0.u⟩
   simp[intOf];omega
  have T:=ae (uC l nxt (by omega));have cr:=ae c0;clear l c0 S y0 u0
  go_wp2_with fail;refine T.u.mono ?_;rintro e w11' ⟨rfl,qv',l⟩;obtain⟨-,-,g2,-⟩:=l.out.facts;obtain⟨na,nc,e1⟩:=aj l.on;have m:=l.on;obtain⟨yn,C⟩ : ∃ yn,yn=ys.length:=⟨_,rfl⟩;rw[<-C]at e1;rw[e1]at g2;rw[<-C,e1]at m;have co:yn<=262144:=by rw[C];exact P
  have a1:=ae m;have G:=ae e1;have aw:=ae C.symm;have J:=ae l;clear l m e1 C P T
  go_wp2_with (at_builtin;refine wpList_append_own_at _ rfl _ _ 30 rfl (w.heap.size+7) 3 i0 (.int .i64 0) 1 8 underlying30 b0 b1 b2 b3 rfl (by decide) _ _ _ rfl (a1.u.alloc _) ⟨w11'.heap.size,0,none⟩ 1 1 [.int .i64 (o.length:Nat)] rfl rfl ?_ ?_ ?_ ?_ ?_ ?_)
  ·exact dJ (dG _ _ _)
  ·intro u hu;simp at hu;subst hu;rfl
  ·unfold maxLen;omega
  ·omega
  ·rw[ah];have:=J.u.sz;omega
  intro v' w12 r1 r2 _ r3;have D:=J.u.pushN (x:=o.length) (ai w11' _) (by rw[List.length_append,List.map_append,aw.u];exact r1) (by rw[G.u];exact r2) (fun q hq=>by
   rw[G.u];rcases r3 with e|e
   ·rw[e]at hq;exact .inl hq
   rw[e]at hq;have:=Option.some.inj hq;exact .inr (by omega))
  rw[G.u]at D;obtain⟨pa,pc,e8⟩:=aj r1;subst e8;have z1:=D.1;have z2:=D.2.1;have ax:=ae D.2.2;clear D r1 r2 r3 a1 g2;go_wp2
  go_roundw
  case rel =>
   refine⟨c+1,o++[nxt],ys++[o.length],zs,_,_,_,by omega,by go_num,ax.u,?_,fun x hx=>?_,?_,by rw[List.length_append,H.u];simp only[List.length_singleton];omega,?_⟩
   ·have:=E.u.new (x:=s) (by rw[Z.u.1];exact HS.u) (fun i hi e=>by
     rw[Z.u.2,<-aq.u]at e;exact cr.u (List.mem_of_getElem? e))
    rw[Z.u.2,<-aq.u]at this;exact this
   ·rcases List.mem_append.1 hx with h|h
    ·exact HO.u x h
    rw[List.mem_singleton]at h;rw[h];exact x1
   ·rw[List.getElem?_append_left ap];exact HS.u
   rw[a0.u,List.take_append_of_le_length ap]
  simp[intOf];omega
 have bx:¬ (c:Int)<(A.k:Int):=by omega
 obtain rfl:c=A.k:=by omega
 have cy:fw (w.heap.size+6) wr=t+1:=by
  rw[fw,hR.q.cell (by omega)];simp[intOf]
 have U:=ae (Aa hR (by omega) (by omega));have E:=ae v;have HO:=ae B;have HS:=ae hs;have H:=ae z;have a0:=ae a5;clear hR v B hs z a5
 go_wp2_with fail;refine U.u.mono ?_;rintro e w11 V;have Q:∃ nv ov,e=.returned (.tuple #[nv,.bool ov])/\FO A w w11 w.heap.size (.slice ca0 cl0 cc0) (.slice (some ⟨b,off,none⟩) L cN) (.slice (some ⟨ab,ao,none⟩) A.n ca) nv (.bool ov)/\2*(A.n-fw (w.heap.size+6) w11)+xZ (.bool ov)<2*(A.n-(t+1))+1:=by
  have c1:ys.length=(t+1)*A.k:=by rw[H.u,Nat.add_mul,Nat.one_mul]
  rcases V with ⟨h1,rfl,h2⟩|⟨s',h1,rfl,h2⟩
  ·refine⟨_,_,rfl,⟨o,_,ys,zs,_,_,_,h2,E.u,HO.u,.inl ⟨rfl,h1,c1,?_⟩⟩,?_⟩
   ·rw[a0.u,h1,List.take_length]
   rw[show fw (w.heap.size+6) w11=t+1 by rw[fw,h2.q.cell (by omega)];simp[intOf]];show 2*(A.n-(t+1))+0<_;omega
  have cw:t+1<o.length:=(List.getElem?_eq_some_iff.1 h1).1;refine⟨_,_,rfl,⟨o,_,ys,zs,_,_,_,h2,E.u,HO.u,.inr ⟨rfl,t+1,s',rfl,h1,rfl,c1,a0.u⟩⟩,?_⟩;rw[show fw (w.heap.size+6) w11=t+1+1 by rw[fw,h2.q.cell (by omega)];simp[intOf];omega];show 2*(A.n-(t+1+1))+1<_;omega
 obtain⟨nv11,ov11,rfl,Q,a9⟩:=Q;have c2:=ae Q;have c3:=ae a9;clear V Q a9 U;go_wp2
 go_roundw
 case rel=>exact c2.u
 have hm:=c3.u;rw[cf.u];exact hm
theorem wQ{u0 u2 u3 u5 u6 u7 u8 u9 u10 u11 u12 u14 u15 u16 u17 u18 u19 u20 u21 u22 u23 u24 u25 u26 u27 u28 u29 u30 u31 u32 u33 u34 u35 u36 u37 u38 u39 u40 u41 u42 u43 u44 u45 u46 u47 u48 u49 u50 u51 u52 u53 u54 u55 u56 u57 u58 u59 u60 u61 u62 u63 u64 u65 u66 u67 u68 u69 u70 u71 u72 u73 u74 u75 u76 u77 u78 u79 u80 u81 u82 u83 u84 u85:Value}{K K1 K2 K3:Act->World->Prop}{n1 n2:Nat}{R:Ending->World->Prop}(w7:World)(db ob ab ao n ca s N oc lo:Nat)(oa:Option Addr)(x:Bool)(xs:List Value)(hs:s<n)(hob:ob<w7.heap.size)(hlo:lo<=w7.heap.size)(hN:N<=1000000)
  (y3:w7.cell? ⟨ob,3,none⟩=some (.slice oa N oc))(k3:w7.cell? ⟨db,3,none⟩=some (.slice (some ⟨ab,ao,none⟩) n ca))(k0:w7.cell? ⟨ab,ao+s,none⟩=some (.bool x))
  (hrk:w7.ownsRow lo 4 1 (.slice oa N oc) N xs)
  (hps:∀ (WA w8:World) (gg cap:Nat),w8.ownsRow lo 4 1 (.slice (some ⟨gg,0,none⟩) (N+1) cap) (N+1) (xs++[.bool x])->WA.grownBy w8 (Value.slice oa N oc).ownBlock->((Value.slice oa N oc).ownBlock=some gg∨gg=w7.heap.size+1)->aK w7 WA (.cells #[.bool x] 4)->
   w8.cell? ⟨ob,3,none⟩=some (.slice oa N oc)/\w8.frozen? ⟨ob,3,none⟩=false/\K { tmps:=#[u0,.pointer (some ⟨db,0,none⟩),u2,u3,.pointer (some ⟨ob,0,none⟩),u5,u6,u7,u8,u9,u10,u11,u12,.int .i64 (s:Nat),u14,u15,u16,u17,u18,u19,u20,u21,u22,u23,u24,u25,u26,u27,u28,u29,u30,u31,u32,u33,u34,u35,u36,u37,u38,u39,u40,u41,u42,u43,u44,u45,u46,u47,u48,u49,u50,u51,u52,u53,u54,u55,.pointer (some ⟨ob,3,none⟩),.slice oa N oc,.pointer (some ⟨db,3,none⟩),.slice (some ⟨ab,ao,none⟩) n ca,.int .i64 (s:Nat),.pointer (some ⟨ab,ao+s,none⟩),.bool x,.slice (some ⟨w7.heap.size,0,none⟩) 1 1,.slice (some ⟨gg,0,none⟩) (N+1) cap,.pointer (some ⟨ob,3,none⟩),u66,u67,u68,u69,u70,u71,u72,u73,u74,u75,u76,u77,u78,u79,u80,u81,u82,u83,u84,u85],defers:=[] } (w8.setCell ⟨ob,3,none⟩ (.slice (some ⟨gg,0,none⟩) (N+1) cap))) :
  Code.wp prog (Code.region 17 #[{ dst:=some 56,op:=Op.fieldAddr 33 (Operand.tmp 4) 3,type:=0,pos:= "l2_dfa.go:464",after:=#[],guard:=none },{ dst:=some 57,op:=Op.load 31 (Operand.tmp 56),type:=31,pos:= "l2_dfa.go:464",after:=#[{ on:=0,ground:=Ground.data }],guard:=none },{ dst:=some 58,op:=Op.fieldAddr 33 (Operand.tmp 1) 3,type:=0,pos:= "l2_dfa.go:464",after:=#[],guard:=none },{ dst:=some 59,op:=Op.load 31 (Operand.tmp 58),type:=31,pos:= "l2_dfa.go:464",after:=#[{ on:=2,ground:=Ground.data }],guard:=none },{ dst:=some 60,op:=Op.move (Operand.tmp 13),type:=3,pos:= "l2_dfa.go:464",after:=#[],guard:=none },{ dst:=some 61,op:=Op.indexAddr 31 (Operand.tmp 59) (Operand.tmp 60),type:=0,pos:= "l2_dfa.go:464",after:=#[{ on:=3,ground:=Ground.data },{ on:=4,ground:=Ground.data }],guard:=none },{ dst:=some 62,op:=Op.load 4 (Operand.tmp 61),type:=4,pos:= "l2_dfa.go:464",after:=#[{ on:=5,ground:=Ground.data }],guard:=none },{ dst:=some 63,op:=Op.buildSlice 31 1 #[(0,Operand.tmp 62)],type:=31,pos:= "l2_dfa.go:464",after:=#[{ on:=6,ground:=Ground.data }],guard:=none },{ dst:=some 64,op:=Op.call { callee:=Callee.builtin Builtin.append,args:=#[Operand.tmp 57,Operand.tmp 63],argTypes:=#[31,31] },type:=31,pos:= "l2_dfa.go:464",after:=#[{ on:=1,ground:=Ground.data },{ on:=7,ground:=Ground.data }],guard:=none },{ dst:=some 65,op:=Op.fieldAddr 33 (Operand.tmp 4) 3,type:=0,pos:= "l2_dfa.go:464",after:=#[{ on:=0,ground:=Ground.phase },{ on:=1,ground:=Ground.phase },{ on:=2,ground:=Ground.phase },{ on:=3,ground:=Ground.phase },{ on:=4,ground:=Ground.phase },{ on:=5,ground:=Ground.phase },{ on:=6,ground:=Ground.phase },{ on:=7,ground:=Ground.phase },{ on:=8,ground:=Ground.phase }],guard:=none },{ dst:=none,op:=Op.store 31 (Operand.tmp 65) (Operand.tmp 64),type:=0,pos:= "l2_dfa.go:464",after:=#[{ on:=9,ground:=Ground.data },{ on:=8,ground:=Ground.data },{ on:=8,ground:=Ground.chain },{ on:=0,ground:=Ground.phase },{ on:=1,ground:=Ground.phase },{ on:=2,ground:=Ground.phase },{ on:=3,ground:=Ground.phase },{ on:=4,ground:=Ground.phase },{ on:=5,ground:=Ground.phase },{ on:=6,ground:=Ground.phase },{ on:=7,ground:=Ground.phase },{ on:=8,ground:=Ground.phase }],guard:=none }] true) (Exit.then K (Exit.inBlock n1 (Exit.then K1 (Exit.then K2 (Exit.inBlock n2 (Exit.then K3 (bodyPost prog Tryz.f58 R))))))) { tmps:=#[u0,.pointer (some ⟨db,0,none⟩),u2,u3,.pointer (some ⟨ob,0,none⟩),u5,u6,u7,u8,u9,u10,u11,u12,.int .i64 (s:Nat),u14,u15,u16,u17,u18,u19,u20,u21,u22,u23,u24,u25,u26,u27,u28,u29,u30,u31,u32,u33,u34,u35,u36,u37,u38,u39,u40,u41,u42,u43,u44,u45,u46,u47,u48,u49,u50,u51,u52,u53,u54,u55,u56,u57,u58,u59,u60,u61,u62,u63,u64,u65,u66,u67,u68,u69,u70,u71,u72,u73,u74,u75,u76,u77,u78,u79,u80,u81,u82,u83,u84,u85],defers:=[] } w7:=by
 obtain⟨j0,a,b,c,d⟩:=info_parts Tryz.zinBoo;have y3':=(ai w7 (.cells #[.bool x] 4)).cell (p:=⟨ob,3,none⟩) hob;rw[y3]at y3';have g:(s:Int)<(n:Int):=by omega
 have e:=ae hps;have f:=ae hrk;clear hps hrk
 go_region_law (
  (refine step_append_lies _ rfl (.tmp 57) (.tmp 63) 31 rfl lo 4 j0 (.bool false) 1 1 underlying31 a b c d rfl (by decide) (.slice oa N oc) N xs (by first|(simp[Act.eval];done)|(simp[Act.eval,Act.put];done)) (by refine aK.own (w:=w7) (o:=.cells #[.bool x] 4) ?_ f.u;exact⟨rfl,rfl,rfl,rfl⟩) ⟨w7.heap.size,0,none⟩ 1 1 [.bool x] (by first|(simp[Act.eval];done)|(simp[Act.eval,Act.put];done)) rfl (by refine aK.news (w:=w7) (cs:=#[.bool x]) (t:=4) ?_;exact⟨rfl,rfl,rfl,rfl⟩) (by intro u hu;simp only[List.mem_cons,List.not_mem_nil,or_false]at hu;subst hu;rfl) (by decide) (by unfold maxLen;omega) (by omega) (by have hq:=ah w7 (.cells #[.bool x] 4);exact Nat.le_trans hlo (Nat.le_of_lt (Nat.lt_of_lt_of_eq (Nat.lt_succ_self _) hq.symm))) (w7.heap.size+1) (ah w7 _) (fun gg cap w8 r1 r2 r3 r4=>?_);have h8:=ae (e.u _ w8 gg cap r1 r2 r3 (by exact⟨rfl,rfl,rfl,rfl⟩));obtain⟨c7,z7,-⟩:=h8.u;clear r1 r2 r3 r4))
 all_goals exact h8.u.2.2
end Go.Proofs.YtpmcjimgkabpeaaGreatDoor
