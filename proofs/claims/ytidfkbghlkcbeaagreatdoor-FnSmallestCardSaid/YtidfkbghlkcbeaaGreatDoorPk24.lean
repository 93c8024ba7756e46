import Derived.Test.YtidfkbghlkcbeaaGreatDoorPk22
import Derived.Test.YtidfkbghlkcbeaaGreatDoorMr3
import Derived.Test.YtidfkbghlkcbeaaGreatDoorPk12
namespace Go.Proofs.YtidfkbghlkcbeaaGreatDoor
open Go.RowKit Go.Proofs.Tryz
set_option maxHeartbeats 16000000
set_option maxRecDepth 100000
structure BN (n N:Nat) (S:List Nat) (i:Nat) (bs fr tt ms ps mk:Nat->Nat) (T:List Nat):Prop where
 pi:eW n N ms ps bs fr mk tt
 mq:∀ t,t<n->(ps t<mk (bs t)↔t∈S.take i)
 nd:T.Nodup
 tm:∀ b,b∈T↔b<N/\mk b≠fr b
theorem BN.start{n N:Nat}{S:List Nat}{bs fr tt ms ps mk:Nat->Nat}(h:eW n N ms ps bs fr mk tt)(hm:∀ b,b<N->mk b=fr b):BN n N S 0 bs fr tt ms ps mk [] where
 pi:=h
 mq:=fun t ht=>by
  obtain⟨a1,a2,-⟩:=h.s1 t ht;rw[hm _ a1];simp;omega
 nd:=List.nodup_nil
 tm:=fun b=>by
  simp
  exact hm b
theorem BN.un{n N:Nat}{S:List Nat}{i:Nat}{bs fr tt ms ps mk:Nat->Nat}{T:List Nat}(h:BN n N S i bs fr tt ms ps mk T)(hS:S.Nodup){s:Nat}(hs:S[i]?=some s)(hn:s<n):mk (bs s)<=ps s:=by
 apply Nat.le_of_not_lt
 intro hlt;have:=(h.mq s hn).1 hlt;obtain⟨j,hj⟩:=List.getElem?_of_mem this;rw[List.getElem?_take]at hj
 split at hj
 ·have:=(List.getElem?_inj (by have:=(List.getElem?_eq_some_iff.1 hj).1;omega) hS).1 (hj.trans hs.symm);omega
 cases hj
theorem BN.next{n N:Nat}{S:List Nat}{i:Nat}{bs fr tt ms ps mk:Nat->Nat}{T:List Nat}(h:BN n N S i bs fr tt ms ps mk T)(hS:S.Nodup){s:Nat}(hs:S[i]?=some s)(hn:s<n) :
  BN n N S (i+1) bs fr tt (bX (bX ms (ps s) (ms (mk (bs s)))) (mk (bs s)) s) (bX (bX ps (ms (mk (bs s))) (ps s)) s (mk (bs s))) (bX mk (bs s) (mk (bs s)+1)) (if mk (bs s)=fr (bs s) then T++[bs s] else T):=by
 obtain⟨k1,k2⟩:=h.pi.mark hn (h.un hS hs hn);have hb:=(h.pi.s1 s hn).1;have a:=h.pi.b1 _ hb;refine⟨k1,fun t ht=>?_,?_,fun b=>?_⟩
 ·rw[k2 t ht,h.mq t ht,List.take_add_one,hs];simp
 ·split
  ·rename_i e
   rw[List.nodup_append];refine⟨h.nd,by simp,fun x hx y hy=>?_⟩;rw[List.mem_singleton]at hy;subst hy;intro e2;subst e2;exact((h.tm _).1 hx).2 e
  exact h.nd
 by_cases e:b=bs s
 ·subst e;rw[bI]
  split
  ·simp[hb];omega
  rename_i e2
  have:=(h.tm (bs s)).2 ⟨hb,e2⟩;simp[this,hb];omega
 rw[aW _ e]
 split
 ·simp[e,h.tm b]
 exact h.tm b
def AK(O:Nat->Prop)(g mb mc pb pc bb bc:Nat)(w:World)(n N:Nat)(bs fr tt:Nat->Nat)(qs:List Int)(tk:Nat)(S:List Nat):Prop:=
 ∃ (N':Nat) (ms' ps' bs' fr' mk' tt':Nat->Nat) (kb kc:Nat) (qv:Value) (l:List Int),aU O g mb mc pb pc bb bc w n N' ms' ps' bs' fr' mk' tt' kb kc qv (qs++l) tk/\eW n N' ms' ps' bs' fr' mk' tt'/\(∀ b,b<N'->mk' b=fr' b)/\(qs++l).length+1=N'/\(∀ y∈l,∃ x:Nat,y=(x:Nat)/\x<N')/\
  zi n (fun t=>t∈S) bs bs' (fun x=>((x:Nat):Int)∈qs.drop tk) (fun x=>((x:Nat):Int)∈(qs++l).drop tk)/\(∀ t,t<n->fr (bs t)<=ps' t/\ps' t<tt (bs t))/\N<=N'
theorem oY(O:Nat->Prop)(g mb mc pb pc bb bc:Nat)(w:World)(n N:Nat)(ms ps bs fr mk tt:Nat->Nat)(kb kc:Nat)(qv:Value)(qs:List Int)(tk:Nat)(sv:Value)(S:List Nat)
  (h:aU O g mb mc pb pc bb bc w n N ms ps bs fr mk tt kb kc qv qs tk)(hI:eW n N ms ps bs fr mk tt)(hm:∀ b,b<N->mk b=fr b)(hO:∀ k,w.heap.size<=k->O k)(hn:n<=1024)(hq:qs.length+1=N)(htk:tk<=qs.length)
  (hs:∃ a c,sv=.slice a S.length c/\(0<S.length->∃ b o,a=some ⟨b,o,none⟩/\b<w.heap.size/\¬ O b/\∀ i s,S[i]?=some s->w.cell? ⟨b,o+i,none⟩=some (.int .i64 (s:Nat))))(hS:S.Nodup)(hl:∀ s∈S,s<n) :
  Calls prog 116 #[.pointer (some ⟨g,0,none⟩),sv] w fun e w'=>e=.returned (.tuple #[])/\aT O w w'/\AK O g mb mc pb pc bb bc w' n N bs fr tt qs tk S:=by
 obtain⟨i0,b9,bd,be,bf⟩:=info_parts Tryz.zinInt;obtain⟨sa,sc,rfl,a6⟩:=hs;obtain⟨Ol,Z⟩ : ∃ Ol:Nat->Prop,Ol=fun k=>O k/\k<w.heap.size:=⟨_,rfl⟩
 have hL:aU Ol g mb mc pb pc bb bc w n N ms ps bs fr mk tt kb kc qv qs tk:=by
  rw[Z];obtain⟨o1,o2,o3,o4,o5⟩:=h.oo;exact⟨h.box,h.cap,h.rm,h.rp,h.rb,h.rk,h.rq,h.ng,h.ne,⟨⟨o1,h.lt⟩,⟨o2,h.rm.lt⟩,⟨o3,h.rp.lt⟩,⟨o4,h.rb.lt⟩,⟨o5,h.ltk⟩⟩,fun q hq=>⟨⟨(h.oq q hq).1,aB h.rq q hq⟩,(h.oq q hq).2⟩⟩
 have a7:∀ k,Ol k->O k/\k<w.heap.size:=by rw[Z];exact fun k hk=>hk
 have hM:=BN.start (S:=S) hI hm;have cf:=hI.few;have ch:S.length<=n:=bT n S hS hl;have HL:=ae hL;have HM:=ae hM;have a8:=ae a6;have B:=ae a7;have HO:=ae hO;have HS:=ae hS;have ci:=ae hl;have ck:=ae hm;clear Z h hL hM a7 a6 hO hI hm
 go_enter func116,ntmps116
 go_wp2_with fail
 go_loopw [4,13] (fun tv iv wr=>∃ (i:Nat) (ms' ps' mk':Nat->Nat) (T:List Nat),i<=S.length/\iv=.int .i64 (i:Nat)/\BN n N S i bs fr tt ms' ps' mk' T/\aU Ol g mb mc pb pc bb bc wr n N ms' ps' bs fr mk' tt kb kc qv qs tk/\wr.ownsRow w.heap.size 3 1 tv T.length ((T.map Int.ofNat).map mI)/\aT (fun k=>Ol k∨w.heap.size<=k) w wr) (fun _ iv _=>S.length-(intOf iv).toNat)
 case atStart=>exact⟨0,_,_,_,[],by omega,rfl,HM.u,HL.u,World.ownsRow_nil _ _ _ _,aT.refl _ _⟩
 obtain⟨i,ms',ps',mk',T,hi,rfl,d,hP,m,hF⟩:=hrel;clear HL HM
 by_cases hlt:i<S.length
 ·have L:(i:Int)<(S.length:Int):=by omega
  obtain⟨sb,so,rfl,cl,bl,a9⟩:=a8.u (by omega);obtain⟨s,hs⟩ : ∃ s,S[i]?=some s:=⟨_,List.getElem?_eq_getElem hlt⟩;have r:=hl s (List.mem_of_getElem? hs);have e0:wr.cell? ⟨sb,so+i,none⟩=some (.int .i64 (s:Nat)):=by
   rw[World.cell?_of_block (a:=⟨sb,so+i,none⟩) (hF.block sb (fun k=>by rcases k with k|k;exact bl (B.u _ k).1;omega))];exact a9 i s hs
  obtain⟨c0,c1,c2,c3,-⟩:=hP.facts;have c6:=hP.rb.cell r;have c7:=hP.rp.cell r;obtain⟨A,-,-⟩:=d.pi.s1 s r;have cp:=d.pi.b1 _ A;obtain⟨b0,b1,b2,fk⟩:=hP.blk A;have ca:(s:Int)<(n:Int):=by omega
  have cb:((bs s:Nat):Int)<(N:Int):=by omega
  have aa:=d.un HS.u hs r;have H:=ae (d.next HS.u hs r);have ab:=ae d.pi;have HP:=ae hP;have C:=ae m;have HF:=ae hF;have bn:T.length<=N:=bT N T d.nd (fun b hb=>((d.tm b).1 hb).1);obtain⟨ta,tc,rfl⟩:=aj m;clear d hP m hF a9
  go_wp2_with fail
  go_quiet (fail)
  by_cases heq:mk' (bs s)=fr (bs s)
  ·have Y:((mk' (bs s):Nat):Int)=(fr (bs s):Nat):=by omega
   go_wp2_with (at_builtin;refine wpList_append_own_at _ rfl _ _ 27 rfl w.heap.size 3 i0 (.int .i64 0) 1 8 underlying27 b9 bd be bf rfl (by decide) _ _ _ rfl (C.u.alloc _) ⟨wr.heap.size,0,none⟩ 1 1 [.int .i64 (bs s:Nat)] rfl rfl ?_ ?_ ?_ ?_ ?_ ?_)
   ·exact ef (dt _ _ _)
   ·intro u hu;simp at hu;subst hu;rfl
   ·unfold maxLen;omega
   ·omega
   ·rw[ah];have:=HF.u.size;show _<=wr.heap.size+1;omega
   intro v' w2 r1 r2 _ r3;have bo:=ae heq;clear heq Y;have cr:=HF.u.size;have ad:=r2.size;rw[ah]at ad;have D:∀ k,k<w.heap.size->w2.heap[k]?=wr.heap[k]? :=fun k hk=>(r2.block k (by rw[ah];show k<wr.heap.size+1;omega) (fun e=>by have:=(C.u.lt k e.symm).1;omega)).trans ((ai (wr.drewN nq) _).block k (by show k<wr.heap.size;omega))
   have I:=HP.u.keep (w':=w2) (fun k hk _=>D k (B.u k hk).2);have af:aT (fun k=>Ol k∨w.heap.size<=k) wr w2:=⟨r2.os,r2.tape,r2.output,by show wr.heap.size<=_;have:(wr.drewN nq).heap.size=wr.heap.size:=rfl;omega,fun k hk=>D k (by apply Nat.lt_of_not_le;intro e;exact hk (.inr e))⟩;obtain⟨ua,uc,rfl⟩:=aj r1;have HV:=ae r1;have bp:=ae af;have a0:=ae (vi (I.keep (w':=w2.drew) (fun _ _ _=>rfl)) ab.u r aa);obtain⟨c0,c1,c2,c3,-⟩:=I.facts;have c6:=I.rb.cell r;have c7:=I.rp.cell r;obtain⟨b0,b1,b2,fk⟩:=I.blk A;clear r1 r2 r3 D I af
   go_wp2_with fail;refine aX 12 (by kernel_rfl) (by kernel_rfl) ?_;simp only[List.take_succ_cons,List.take_zero,List.drop_succ_cons,List.drop_zero]
   repeat (first|go_big_quiet_skip|(go_big_quiet_want;go_big_quiet_op;go_big_quiet_on))
   refine wpQuiet_nil ?_
   go_wp2_with fail;refine a0.u.mono ?_;rintro e w5 ⟨rfl,v,M,bq⟩;obtain⟨-,d1,-,fk5⟩:=v.blk A;have f5:=fk5 (bs s*3+1);have E:=v.setMk A (mk' (bs s)+1);have F:=v.fro (bs s*3+1) (.int .i64 ((mk' (bs s)+1:Nat):Int));have G:((mk' (bs s)+1:Nat):Int)=(mk' (bs s):Nat)+1:=by omega
   rw[G]at E F;have a1:=ae E;have P:=ae F;have Q:=ae M;clear v M E F fk5 c0 c1 c2 c3 c6 c7 b0 b1 b2 fk e0;have br:IntKind.i64.wrap (((mk' (bs s):Nat):Int)+1)=(mk' (bs s):Nat)+1:=jf (by omega) (by omega);go_wp2
   go_roundw
   case rel =>
    have hT:=H.u;rw[if_pos bo.u]at hT;refine⟨i+1,_,_,_,T++[bs s],by omega,by go_num,hT,a1.u,?_,HF.u.trans (bp.u.trans (aT.trans (b:=w2.drew) (aT.drew (aT.refl _ _)) (aT.mono (O:=Ol) (Q.u.trans P.u) (fun k hk=>Or.inl hk))))⟩;have e9:((T++[bs s]).map Int.ofNat).map mI=List.map (mI ∘ Int.ofNat) T++[Value.int .i64 (bs s:Nat)]:=by simp[mI]
    rw[e9,List.length_append];refine ak (w:=w2) HV.u (fun q hq=>?_)
    have bt:=(HV.u.lt q hq).1;have a2:¬ Ol q:=fun k=>by have:=(B.u q k).2;omega
    exact((Q.u.trans P.u).block q a2).trans rfl
   simp[intOf];omega
  have Y:¬ ((mk' (bs s):Nat):Int)=(fr (bs s):Nat):=by omega
  have a0:=ae (vi (HP.u.keep (w':=(wr.drewN nq).drew) (fun _ _ _=>rfl)) ab.u r aa)
  go_wp2_with fail;refine aX 12 (by kernel_rfl) (by kernel_rfl) ?_;simp only[List.take_succ_cons,List.take_zero,List.drop_succ_cons,List.drop_zero]
  repeat (first|go_big_quiet_skip|(go_big_quiet_want;go_big_quiet_op;go_big_quiet_on))
  refine wpQuiet_nil ?_
  go_wp2_with fail;refine a0.u.mono ?_;rintro e w5 ⟨rfl,v,M,bq⟩;obtain⟨-,d1,-,fk5⟩:=v.blk A;have f5:=fk5 (bs s*3+1);have E:=v.setMk A (mk' (bs s)+1);have F:=v.fro (bs s*3+1) (.int .i64 ((mk' (bs s)+1:Nat):Int));have G:((mk' (bs s)+1:Nat):Int)=(mk' (bs s):Nat)+1:=by omega
  rw[G]at E F;have a1:=ae E;have P:=ae F;have Q:=ae M;clear v M E F fk5 c0 c1 c2 c3 c6 c7 b0 b1 b2 fk e0;have br:IntKind.i64.wrap (((mk' (bs s):Nat):Int)+1)=(mk' (bs s):Nat)+1:=jf (by omega) (by omega);go_wp2
  go_roundw
  case rel =>
   have hT:=H.u;rw[if_neg heq]at hT;refine⟨i+1,_,_,_,T,by omega,by go_num,hT,a1.u,?_,HF.u.trans (((iS wr nq).trans (aT.drew (aT.refl _ _))).trans (aT.mono (O:=Ol) (Q.u.trans P.u) (fun k hk=>Or.inl hk)))⟩;refine ak (w:=wr) C.u (fun q hq=>?_)
   have bt:=(C.u.lt q hq).1;have a2:¬ Ol q:=fun k=>by have:=(B.u q k).2;omega
   exact((Q.u.trans P.u).block q a2).trans rfl
  simp[intOf];omega
 have L:¬ (i:Int)<(S.length:Int):=by omega
 obtain rfl:i=S.length:=by omega
 obtain⟨w1,rfl⟩ : ∃ w1,w1=wr:=⟨_,rfl⟩;have a3:∀ t,t<n->(ps' t<mk' (bs t)↔t∈S):=fun t ht=>by rw[d.mq t ht,List.take_length]
 have bn:T.length<=N:=bT N T d.nd (fun b hb=>((d.tm b).1 hb).1);obtain⟨O2,R⟩ : ∃ O2,O2=Sk O w.heap.size w1.heap.size:=⟨_,rfl⟩;have ag:aU O2 g mb mc pb pc bb bc w1 n N ms' ps' bs fr mk' tt kb kc qv qs tk:=hP.mono (fun k hk=>by rw[R];exact⟨(B.u k hk).1,.inl (B.u k hk).2⟩);have al:∀ k,w1.heap.size<=k->O2 k:=fun k hk=>by rw[R];exact⟨HO.u k (by have:=hF.size;omega),.inr hk⟩
 have an:∀ k,O2 k->O k:=by rw[R];exact Sk.sub
 have ao:∀ k,w.heap.size<=k->k<w1.heap.size->¬ O2 k:=fun k h1 h2=>by rw[R];rintro⟨-,h3⟩;omega
 have z:wi n N (fun t=>t∈S) bs fr mk' tt (fun b=>b∈T.drop 0) N bs fr mk' tt:=by
  have e:(fun b=>b<N/\mk' b≠fr b)=(fun b=>b∈T.drop 0):=funext fun b=>propext (by rw[List.drop_zero];exact(d.tm b).symm)
  rw[<-e];exact wi.start d.pi a3
 have ap:aT O w w1:=hF.mono (fun k hk=>by rcases hk with hk|hk;exact(B.u k hk).1;exact HO.u k hk);obtain⟨ta,tc,rfl⟩:=aj m;have H:=ae d;have aq:=ae a3;have ar:=ae ag;have T2:=ae al;have S2:=ae an;have N2:=ae ao;have av:=ae z;have C:=ae m;have bv:=ae ap;clear d a3 ag al an ao z m ap hP hF R a8
 go_wp2_with fail
 go_loopw [66] (fun iv wq=>∃ (j N':Nat) (bs' fr' mk2 tt':Nat->Nat) (kb' kc':Nat) (qv':Value) (l:List Int),j<=T.length/\iv=.int .i64 (j:Nat)/\aU O2 g mb mc pb pc bb bc wq n N' ms' ps' bs' fr' mk2 tt' kb' kc' qv' (qs++l) tk/\eW n N' ms' ps' bs' fr' mk2 tt'/\wi n N (fun t=>t∈S) bs fr mk' tt (fun b=>b∈T.drop j) N' bs' fr' mk2 tt'/\(qs++l).length+1=N'/\(∀ x,N<=x->x<N'->((x:Nat):Int)∈l)/\(∀ y∈l,∃ x:Nat,y=(x:Nat)/\x<N')/\aT O2 w1 wq) (fun iv _=>T.length-(intOf iv).toNat)
 case atStart=>exact⟨0,N,bs,fr,mk',tt,kb,kc,qv,[],by omega,rfl,by rw[List.append_nil];exact ar.u,H.u.pi,av.u,by rw[List.append_nil];exact hq,fun x h1 h2=>by omega,(fun y hy=>by cases hy),aT.refl _ _⟩
 clear av ar;obtain⟨j,N',bs',fr',mk2,tt',kb',kc',qv',l,hj,rfl,V,J,z,aw,W,X,K⟩:=hrel
 by_cases hlt:j<T.length
 ·have L:(j:Int)<(T.length:Int):=by omega
  obtain⟨b,hb⟩ : ∃ b,T[j]?=some b:=⟨_,List.getElem?_eq_getElem hlt⟩;have f:T.drop j=b::T.drop (j+1):=by
   rw[List.drop_eq_getElem_cons hlt];rw[List.getElem?_eq_getElem hlt]at hb;rw[Option.some.inj hb]
  have a4:b∈T.drop j:=by rw[f];exact .head _
  have bx:b ∉ T.drop (j+1):=by
   have:=(H.u.nd.sublist (List.drop_sublist j T));rw[f,List.nodup_cons]at this;exact this.1
  have ax:(fun x=>x∈T.drop j/\x≠b)=(fun x=>x∈T.drop (j+1)):=funext fun x=>propext ⟨fun ⟨k1,k2⟩=>by
   rw[f]at k1;rcases List.mem_cons.1 k1 with k|k
   ·exact absurd k k2
   exact k,fun k=>⟨by rw[f];exact .tail _ k,fun e=>bx (e ▸ k)⟩⟩
  have A:=(z.un b a4).1;have cs:=z.le;have cc:=J.few;obtain⟨tb,tcap,e9,U⟩:=eu C.u (by omega);cases e9;have b3:=C.u.lt tb rfl;have x0:wr.cell? ⟨tb,j,none⟩=some (.int .i64 (b:Nat)):=by
   rw[World.cell?_of_block (a:=⟨tb,j,none⟩) (K.block tb (N2.u tb b3.1 b3.2)),U j hlt,List.getElem?_map,List.getElem?_map,hb]
   rfl
  have ct:=K.size;have b4:=ae (Cc O2 g mb mc pb pc bb bc wr n N' ms' ps' bs' fr' mk2 tt' kb' kc' qv' (qs++l) tk b V J (fun k hk=>T2.u k (by omega)) (by omega) hn (by omega) (by omega));have HB:=ae J;have HC:=ae z;have HD:=ae W;have HE:=ae X;have HG:=ae K;have b5:=ae ax;clear V J z W X K U ax f
  go_wp2_with fail;refine b4.u.mono ?_;rintro e w3 ⟨rfl,b6,b7⟩;have b8:=ae b6;have bz:=ae b7;clear b6 b7 b4 x0;go_wp2
  go_roundw
  case rel =>
   rcases bz.u with ⟨kb2,kc2,qv2,c4,a5⟩|⟨kb2,kc2,qv2,o1,o2,r1,r2,g1,g2,c5,a5⟩
   ·refine⟨j+1,N',bs',fr',_,tt',kb2,kc2,qv2,l,by omega,by go_num,a5,HB.u.unmark (by omega),?_,aw,HD.u,HE.u,HG.u.trans b8.u⟩;rw[<-b5.u];exact HC.u.unmark HB.u aq.u a4 c4
   have ho:(o1=fr' b/\o2=mk2 b/\r1=mk2 b/\r2=tt' b)∨(o1=mk2 b/\o2=tt' b/\r1=fr' b/\r2=mk2 b):=by
    rcases c5 with ⟨k1,k2,k3,k4,-⟩|⟨k1,k2,k3,k4,-⟩
    ·exact .inl ⟨k1,k2,k3,k4⟩
    exact .inr ⟨k1,k2,k3,k4⟩
   obtain⟨z1,z2,z3,z4⟩:=HB.u.cut (b:=b) (by omega) g1 g2 ho (bs':=fun t=>if o1<=ps' t/\ps' t<o2 then N' else bs' t) (fun t _=>rfl);refine⟨j+1,N'+1,_,_,_,_,kb2,kc2,qv2,l++[(N':Int)],by omega,by go_num,by rw[<-List.append_assoc];exact a5,z1,?_,by rw[<-List.append_assoc,List.length_append];simp only[List.length_singleton];omega,fun x h1 h2=>?_,fun y hy=>?_,HG.u.trans b8.u⟩
   ·rw[<-b5.u];exact HC.u.cut HB.u aq.u a4 z2 z3 z4
   ·by_cases e:x=N'
    ·subst e;exact List.mem_append_right _ (.head _)
    exact List.mem_append_left _ (HD.u x h1 (by omega))
   rcases List.mem_append.1 hy with k|k
   ·obtain⟨x,k1,k2⟩:=HE.u y k;exact⟨x,k1,by omega⟩
   rw[List.mem_singleton]at k;exact⟨N',k,by omega⟩
  simp[intOf];omega
 have L:¬ (j:Int)<(T.length:Int):=by omega
 obtain rfl:j=T.length:=by omega
 have HA:=ae V;have HB:=ae J;have HC:=ae z;have HD:=ae W;have HE:=ae X;have HG:=ae K;clear V J z W X K
 go_wp2_with fail
 first|(refine bodyPost_ret (results_none rfl _ _ _) rfl ?_)|(refine bodyPost_end (results_none rfl _ _ _) rfl ?_)
 have hU:∀ b,¬ b∈T.drop T.length:=fun b hb=>by rw[List.drop_length]at hb;cases hb
 refine⟨rfl,bv.u.trans (HG.u.mono S2.u),N',ms',ps',bs',fr',mk2,tt',kb',kc',qv',l,HA.u.mono S2.u,HB.u,fun b hb=>HC.u.um b hb (hU b),aw,HE.u,HC.u.fin hU (fun x hx=>?_) (fun x h1 h2=>?_) (fun p hp=>(HB.u.s1 p hp).1),fun t ht=>?_,HC.u.le⟩
 ·rw[List.drop_append_of_le_length htk];exact List.mem_append_left _ hx
 ·rw[List.drop_append_of_le_length htk];exact List.mem_append_right _ (HD.u x h1 h2)
 exact(H.u.pi.s1 t ht).2
theorem ye{w:World}{ops:Array Oper}{rest:List Oper}{o:Oper}{a:Act}{Q:Exit->Act->World->Prop}(hgd:o.guard=none)(s x:Operand)
  (ho:o.op=.call { callee:=.builtin .append,args:=#[s,x],argTypes:=#[27,27] })(base lo:Nat)(v1 v2:Value)(hs:a.eval s=v1)(hx:a.eval x=v2)(xs ys:List Nat)
  (h1:w.ownsRow base 3 1 v1 xs.length (xs.map mN))(h2:w.ownsRow lo 3 1 v2 ys.length (ys.map mN))(hb:base<=w.heap.size)(hl:xs.length+ys.length<=1000000)
  (h:∀ v' w',w'.ownsRow base 3 1 v' (xs++ys).length ((xs++ys).map mN)->w.grownBy w' v1.ownBlock->(v'.ownBlock=v1.ownBlock∨v'.ownBlock=some w.heap.size)->wpList prog ops Q rest (a.put o.dst v') w'):wpList prog ops Q (o::rest) a w:=by
 obtain⟨i0,hi,b,c,d⟩:=info_parts Tryz.zinInt;rcases Nat.eq_zero_or_pos ys.length with h0|hp
 ·obtain⟨sa,sc,rfl⟩:=aj h2;have e:ys=[]:=List.eq_nil_of_length_eq_zero h0;subst e;rcases h2.2 with ⟨e2,-⟩|⟨g,cap,cur,e2,-⟩
  ·rw[e2]at hx;refine bw hgd s x 27 ho base 3 i0 1 underlying27 hi v1 xs.length (xs.map mN) hs h1 0 hx (h v1 w (by rw[List.append_nil];exact h1) ⟨rfl,rfl,rfl,Nat.le_refl _,fun _ _ _=>rfl⟩ (.inl rfl))
  rw[e2]at hx;refine wpList_append_own_at w hgd s x 27 ho base 3 i0 (.int .i64 0) 1 8 underlying27 hi b c d rfl (by decide) v1 xs.length (xs.map mN) hs h1 ⟨g,0,none⟩ 0 cap [] hx rfl (fun j u hu=>by simp at hu) (fun u hu=>by cases hu) (by unfold maxLen;omega) (by omega) hb ?_;intro v' w' r1 r2 _ r3;exact h v' w' (by rw[List.append_nil];simpa using r1) r2 r3
 obtain⟨g,cap,e2,hc⟩:=eu h2 hp;subst e2;refine wpList_append_own_at w hgd s x 27 ho base 3 i0 (.int .i64 0) 1 8 underlying27 hi b c d rfl (by decide) v1 xs.length (xs.map mN) hs h1 ⟨g,0,none⟩ ys.length cap (ys.map mN) hx (by simp) (fun j u hu=>?_) (fun u hu=>?_) (by unfold maxLen;omega) (by omega) hb ?_
 ·have hj:j<ys.length:=by
   have:=(List.getElem?_eq_some_iff.1 hu).1
   simpa using this
  have e3:(⟨g,0,none⟩ : Addr).add j=⟨g,0+j,none⟩:=by cases j<;>rfl
  rw[e3,Nat.zero_add,hc j hj];exact hu
 ·obtain⟨y,-,rfl⟩:=List.mem_map.1 hu
  rfl
 intro v' w' r1 r2 _ r3;refine h v' w' ?_ r2 r3;rw[List.length_append,List.map_append];exact r1
structure qG (O:Nat->Prop) (g mb mc pb pc bb bc:Nat) (A:Tb) (w:World) (N:Nat) (ms ps bs fr mk tt:Nat->Nat) (kb kc:Nat) (qv:Value) (qs:List Int) (tk:Nat) (T:Nat->Prop) (c:Nat):Prop where
 pt:aU O g mb mc pb pc bb bc w A.n N ms ps bs fr mk tt kb kc qv qs tk
 pi:eW A.n N ms ps bs fr mk tt
 um:∀ b,b<N->mk b=fr b
 ql:qs.length+1=N
 tl:tk<=qs.length
 qn:∀ y∈qs,∃ x:Nat,y=(x:Nat)/\x<N
 hop:xg A bs (fun x=>((x:Nat):Int)∈qs.drop tk) T c
structure FE (n:Nat) (ps bs:Nat->Nat) (T:Nat->Prop) (lo hi:Nat):Prop where
 le:lo<hi/\hi<=n
 mem:∀ t,t<n->(lo<=ps t/\ps t<hi↔T t)
 cl:∀ p q,p<n->q<n->bs p=bs q->(T p↔T q)
theorem xL{O:Nat->Prop}{g mb mc pb pc bb bc:Nat}{A:Tb}{w:World}{N:Nat}{ms ps bs fr mk tt:Nat->Nat}{kb kc:Nat}{qv:Value}{qs:List Int}{tk:Nat}{T:Nat->Prop}{c lo hi:Nat}(h:qG O g mb mc pb pc bb bc A w N ms ps bs fr mk tt kb kc qv qs tk T c)(hst:FE A.n ps bs T lo hi)
  (hw:A.Wf)(hf:A.Full)(hn:A.n<=1024)(hc:c<A.k)(hO:∀ k,w.heap.size<=k->O k)(sv:Value)(S:List Nat)(hS:S.Nodup)(hm:∀ p,p∈S↔p<A.n/\T (A.nx p c))
  (hs:∃ a c,sv=.slice a S.length c/\(0<S.length->∃ b o,a=some ⟨b,o,none⟩/\b<w.heap.size/\¬ O b/\∀ i s,S[i]?=some s->w.cell? ⟨b,o+i,none⟩=some (.int .i64 (s:Nat)))) :
  Calls prog 116 #[.pointer (some ⟨g,0,none⟩),sv] w fun e w'=>e=.returned (.tuple #[])/\aT O w w'/\∃ (N':Nat) (ms' ps' bs' fr' mk' tt':Nat->Nat) (kb' kc':Nat) (qv':Value) (qs':List Int),qG O g mb mc pb pc bb bc A w' N' ms' ps' bs' fr' mk' tt' kb' kc' qv' qs' tk T (c+1)/\FE A.n ps' bs' T lo hi:=by
 refine(oY O g mb mc pb pc bb bc w A.n N ms ps bs fr mk tt kb kc qv qs tk sv S h.pt h.pi h.um hO hn h.ql h.tl hs hS (fun s k=>((hm s).1 k).1)).mono ?_;rintro e w' ⟨rfl,hF,N',ms',ps',bs',fr',mk',tt',kb',kc',qv',l,p1,p2,p3,p4,p5,p6,p7,p8⟩;have p6':zi A.n (fun p=>T (A.nx p c)) bs bs' (fun x=>((x:Nat):Int)∈qs.drop tk) (fun x=>((x:Nat):Int)∈(qs++l).drop tk):=by
  refine⟨fun p q hp hq=>?_,p6.keep,p6.new⟩;rw[p6.same p q hp hq,hm p,hm q];simp[hp,hq]
 refine⟨rfl,hF,N',ms',ps',bs',fr',mk',tt',kb',kc',qv',qs++l,⟨p1,p2,p3,p4,?_,fun y hy=>?_,h.hop.cut hw hf hc p6'⟩,⟨hst.le,fun t ht=>?_,fun p q hp hq e=>hst.cl p q hp hq ((p6.same p q hp hq).1 e).1⟩⟩
 ·rw[List.length_append];have:=h.tl;omega
 ·rcases List.mem_append.1 hy with k|k
  ·obtain⟨x,e,hx⟩:=h.qn y k;exact⟨x,e,by omega⟩
  exact p5 y k
 -- the place now,within the block it had
 obtain⟨k1,k2⟩:=p7 t ht;have hb:=h.pi.s1 t ht;have d:=h.pi.b1 _ hb.1;obtain⟨m1,m2⟩:=h.pi.m1 (ps' t) (by omega);have e:=h.pi.s2 (ms (ps' t)) (bs t) m1 hb.1 (by omega) (by omega);rw[<-hst.cl _ _ m1 ht e,<-hst.mem _ m1,m2]
theorem xD{O:Nat->Prop}{g mb mc pb pc bb bc:Nat}{A:Tb}{w:World}{N:Nat}{ms ps bs fr mk tt:Nat->Nat}{kb kc:Nat}{qv:Value}{qs:List Int}{tk:Nat}{T:Nat->Prop}(h:qG O g mb mc pb pc bb bc A w N ms ps bs fr mk tt kb kc qv qs tk T A.k)(hn:A.n<=1024) :
  Calls prog 98 #[.pointer (some ⟨g,4,none⟩)] w fun e w'=>aT O w w'/\
   ((tk=qs.length/\e=.returned (.tuple #[.int .i64 0,.bool false])/\qG O g mb mc pb pc bb bc A w' N ms ps bs fr mk tt kb kc qv qs tk T A.k) ∨
    (tk<qs.length/\∃ b:Nat,b<N/\e=.returned (.tuple #[.int .i64 (b:Nat),.bool true])/\qG O g mb mc pb pc bb bc A w' N ms ps bs fr mk tt kb kc qv qs (tk+1) (fun q=>bs q=b) 0)):=by
 obtain⟨-,-,-,-,c4,c5,fz⟩:=h.pt.facts;obtain⟨oa,oc,rfl⟩:=aj h.pt.rq;have hq:=h.ql;have d:=h.pi.few
 by_cases e:tk=qs.length
 ·refine(qW g 4 oa qs.length oc w c4 (by rw[<-e];exact c5)).mono ?_;rintro x w' ⟨rfl,q,rfl⟩;exact⟨iS w q,.inl ⟨e,rfl,⟨h.pt.drewN q,h.pi,h.um,h.ql,h.tl,h.qn,h.hop⟩⟩⟩
 have hlt:tk<qs.length:=by have:=h.tl;omega
 obtain⟨qb,qc,e2,a⟩:=eu h.pt.rq (by omega);cases e2;obtain⟨y,hy⟩ : ∃ y,qs[tk]?=some y:=⟨_,List.getElem?_eq_getElem hlt⟩;obtain⟨b,rfl,hb⟩:=h.qn y (List.mem_of_getElem? hy);refine(rn g 4 qb 0 tk (b:Nat) qs.length oc w (by omega) hlt c4 c5 (by rw[Nat.zero_add,a tk hlt,List.getElem?_map,hy];rfl) (fz 5)).mono ?_;rintro x w' ⟨rfl,q,rfl⟩;have k1:=(h.pt.drewN q).setT (tk+1);have ec:(((tk+1:Nat)):Int)=(tk:Int)+1:=by omega
 rw[ec]at k1;have c:qs.drop tk=(b:Int)::qs.drop (tk+1):=by
  rw[List.drop_eq_getElem_cons hlt];rw[List.getElem?_eq_getElem hlt]at hy;rw[Option.some.inj hy]
 refine⟨(iS w q).trans ((am _ _).fro h.pt.oo.1),.inr ⟨hlt,b,hb,rfl,⟨k1,h.pi,h.um,h.ql,by omega,h.qn,h.hop.pop (fun x hx=>?_)⟩⟩⟩;rw[c]at hx;rcases List.mem_cons.1 hx with k|k
 ·exact .inl (by omega)
 exact .inr k
structure dT (w0 w:World) (b0:Nat) (cl nx ac:Value) (k:Nat) (ks o:List Nat) (tk:Nat) (ys:List Nat) (zs:List Bool) (qv nv av:Value):Prop where
 eb:b0=w0.heap.size
 d:aC w b0 30 cl (.int .i64 (k:Nat)) nx ac
 res:∃ F,w.rowIs (b0+1) 30 4 F
 out:aC w (b0+2) 30 cl (.int .i64 (k:Nat)) nv av
 num:bj 3 w (b0+4) (ks.map mN)
 kb:w.rowIs (b0+5) 166 1 (fun _=>.map (some (b0+4)))
 q:w.rowIs (b0+6) 170 2 (fun j=>[qv,.int .i64 (tk:Nat)].getD j undef)
 oq:w.ownsRow (b0+7) 3 1 qv o.length (o.map mN)
 on:w.ownsRow (b0+7) 3 1 nv ys.length (ys.map mN)
 oa:w.ownsRow (b0+7) 4 1 av zs.length (zs.map mT)
 qn:∀ r,qv.ownBlock=some r->nv.ownBlock≠some r/\av.ownBlock≠some r
 na:∀ r,nv.ownBlock=some r->av.ownBlock≠some r
 bl:Below b0 w0 w
 sz:b0+7<=w.heap.size
section
variable {w0 w w':World} {b0:Nat} {cl nx ac:Value} {k:Nat} {ks o:List Nat} {tk:Nat} {ys:List Nat} {zs:List Bool} {qv nv av:Value}
theorem aC.put3'{w:World}{b:Nat}{t:TypeId}{c0 c1 c2 c3 u:Value}(h:aC w b t c0 c1 c2 c3):aC (w.setCell ⟨b,3,none⟩ u) b t c0 c1 c2 u:=(World.rowIs.set h 3 u).congr (fun j hj=>by
 match j,hj with
 | 0,_=>rfl
 | 1,_=>rfl
 | 2,_=>rfl
 | 3,_=>rfl)
theorem wE{W:World}{b:Nat}{t:TypeId}{x y u:Value}(h:W.rowIs b t 2 (fun j=>[x,y].getD j undef)):(W.setCell ⟨b,1,none⟩ u).rowIs b t 2 (fun j=>[x,u].getD j undef):=(h.set 1 u).congr (fun j hj=>by
 match j,hj with
 | 0,_=>rfl
 | 1,_=>rfl)
theorem wU{W:World}{b:Nat}{t:TypeId}{x y u:Value}(h:W.rowIs b t 2 (fun j=>[x,y].getD j undef)):(W.setCell ⟨b,0,none⟩ u).rowIs b t 2 (fun j=>[u,y].getD j undef):=(h.set 0 u).congr (fun j hj=>by
 match j,hj with
 | 0,_=>rfl
 | 1,_=>rfl)
theorem dT.keep(h:dT w0 w b0 cl nx ac k ks o tk ys zs qv nv av)(hb:Below w.heap.size w w'):dT w0 w' b0 cl nx ac k ks o tk ys zs qv nv av:=by
 have hz:=h.sz;have e:∀ k,k<w.heap.size->w'.heap[k]?=w.heap[k]? :=fun k hk=>hb.block k hk
 obtain⟨F,hF⟩:=h.res;exact⟨h.eb,World.rowIs.of_block h.d (e _ (by omega)),⟨F,hF.of_block (e _ (by omega))⟩,World.rowIs.of_block h.out (e _ (by omega)),h.num.keep (e _ (by omega)),h.kb.of_block (e _ (by omega)),h.q.of_block (e _ (by omega)),ak h.oq (fun r hr=>e r (aB h.oq r hr)),ak h.on (fun r hr=>e r (aB h.on r hr)),ak h.oa (fun r hr=>e r (aB h.oa r hr)),h.qn,h.na,h.bl.trans (hb.mono (by omega)),by have:=hb.size;omega⟩
theorem dT.looked{ks':List Nat}(h:dT w0 w b0 cl nx ac k ks o tk ys zs qv nv av)(hf:aT (dM w (b0+4)) w w')(hn:bj 3 w' (b0+4) (ks'.map mN)):dT w0 w' b0 cl nx ac k ks' o tk ys zs qv nv av:=by
 have hz:=h.sz;have e:∀ k,k<w.heap.size->k≠b0+4->w'.heap[k]?=w.heap[k]? :=fun k hk hne=>hf.block k (by rintro(h1|h1)<;>omega)
 obtain⟨F,hF⟩:=h.res;exact⟨h.eb,World.rowIs.of_block h.d (e _ (by omega) (by omega)),⟨F,hF.of_block (e _ (by omega) (by omega))⟩,World.rowIs.of_block h.out (e _ (by omega) (by omega)),hn,h.kb.of_block (e _ (by omega) (by omega)),h.q.of_block (e _ (by omega) (by omega)),ak h.oq (fun r hr=>e r (aB h.oq r hr) (by have:=(h.oq.lt r hr).1;omega)),ak h.on (fun r hr=>e r (aB h.on r hr) (by have:=(h.on.lt r hr).1;omega)),ak h.oa (fun r hr=>e r (aB h.oa r hr) (by have:=(h.oa.lt r hr).1;omega)),h.qn,h.na,⟨hf.os.trans h.bl.os,hf.tape.trans h.bl.tape,hf.output.trans h.bl.output,Nat.le_trans h.bl.size hf.size,fun k hk=>(e k (by have:=h.bl.size;have:=h.eb;omega) (by omega)).trans (h.bl.block k hk)⟩,by have:=hf.size;omega⟩
theorem dT.popd(h:dT w0 w b0 cl nx ac k ks o tk ys zs qv nv av)(q:Nat):dT w0 ((w.drewN q).setCell ⟨b0+6,1,none⟩ (.int .i64 ((tk:Int)+1))) b0 cl nx ac k ks o (tk+1) ys zs qv nv av:=by
 have hz:=h.sz;have e:∀ k,k≠b0+6->((w.drewN q).setCell ⟨b0+6,1,none⟩ (.int .i64 ((tk:Int)+1))).heap[k]?=w.heap[k]? :=fun k hk=>Below.heap_setCell _ _ _ _ (by show k≠b0+6;exact hk)
 obtain⟨F,hF⟩:=h.res;refine⟨h.eb,World.rowIs.of_block h.d (e _ (by omega)),⟨F,hF.of_block (e _ (by omega))⟩,World.rowIs.of_block h.out (e _ (by omega)),h.num.keep (e _ (by omega)),h.kb.of_block (e _ (by omega)),?_,ak h.oq (fun r hr=>e r (by have:=(h.oq.lt r hr).1;omega)),ak h.on (fun r hr=>e r (by have:=(h.on.lt r hr).1;omega)),ak h.oa (fun r hr=>e r (by have:=(h.oa.lt r hr).1;omega)),h.qn,h.na,⟨h.bl.os,h.bl.tape,h.bl.output,by rw[aM];exact h.bl.size,fun k hk=>(e k (by omega)).trans (h.bl.block k hk)⟩,by rw[aM];exact hz⟩;exact wE (W:=w.drewN q) (h.q.of_block rfl)
theorem dK{W w2:World}{v:Value}(hW:Below w.heap.size w W)(r2:W.grownBy w2 v.ownBlock):∀ k,k<w.heap.size->v.ownBlock≠some k->w2.heap[k]?=w.heap[k]? :=fun k hk hne=>(r2.block k (by have:=hW.size;omega) (fun e=>hne e.symm)).trans (hW.block k hk)
theorem dT.pushQ{W w2:World}{v':Value}{x:Nat}(h:dT w0 w b0 cl nx ac k ks o tk ys zs qv nv av)(hW:Below w.heap.size w W)(r1:w2.ownsRow (b0+7) 3 1 v' (o++[x]).length ((o++[x]).map mN))(r2:W.grownBy w2 qv.ownBlock)(r3:∀ q,v'.ownBlock=some q->qv.ownBlock=some q∨w.heap.size<=q) :
  dT w0 (w2.setCell ⟨b0+6,0,none⟩ v') b0 cl nx ac k ks (o++[x]) tk ys zs v' nv av:=by
 have hz:=h.sz;have a:=r2.size;have b:=hW.size;have k2:=dK hW r2;have nq:∀ k,k<b0+7->qv.ownBlock≠some k:=fun k hk e=>by have:=(h.oq.lt k e).1;omega
 have e:∀ k,k<w.heap.size->k≠b0+6->qv.ownBlock≠some k->(w2.setCell ⟨b0+6,0,none⟩ v').heap[k]?=w.heap[k]? :=fun k hk hne hq=>(Below.heap_setCell _ _ _ _ (by show k≠b0+6;exact hne)).trans (k2 k hk hq)
 have lo:∀ k,k<b0+7->k≠b0+6->(w2.setCell ⟨b0+6,0,none⟩ v').heap[k]?=w.heap[k]? :=fun k hk hne=>e k (by omega) hne (nq k hk)
 obtain⟨F,hF⟩:=h.res;refine⟨h.eb,World.rowIs.of_block h.d (lo _ (by omega) (by omega)),⟨F,hF.of_block (lo _ (by omega) (by omega))⟩,World.rowIs.of_block h.out (lo _ (by omega) (by omega)),h.num.keep (lo _ (by omega) (by omega)),h.kb.of_block (lo _ (by omega) (by omega)),wU (h.q.of_block (k2 _ (by omega) (nq _ (by omega)))),ak r1 (fun r hr=>Below.heap_setCell _ _ _ _ (by show r≠b0+6;have:=(r1.lt r hr).1;omega)),ak h.on (fun r hr=>e r (aB h.on r hr) (by have:=(h.on.lt r hr).1;omega) (fun e2=>(h.qn r e2).1 hr)),ak h.oa (fun r hr=>e r (aB h.oa r hr) (by have:=(h.oa.lt r hr).1;omega) (fun e2=>(h.qn r e2).2 hr)),fun r hr=>?_,h.na,⟨r2.os.trans (hW.os.trans h.bl.os),r2.tape.trans (hW.tape.trans h.bl.tape),r2.output.trans (hW.output.trans h.bl.output),by rw[aM];have:=h.bl.size;omega,fun k hk=>(lo k (by omega) (by omega)).trans (h.bl.block k hk)⟩,by rw[aM];omega⟩;rcases r3 r hr with e2|e2
 ·exact h.qn r e2
 exact⟨fun e3=>by have:=aB h.on r e3;omega,fun e3=>by have:=aB h.oa r e3;omega⟩
theorem dT.pushN{W w2:World}{v':Value}{x:Nat}(h:dT w0 w b0 cl nx ac k ks o tk ys zs qv nv av)(hW:Below w.heap.size w W)(r1:w2.ownsRow (b0+7) 3 1 v' (ys++[x]).length ((ys++[x]).map mN))(r2:W.grownBy w2 nv.ownBlock)(r3:∀ q,v'.ownBlock=some q->nv.ownBlock=some q∨w.heap.size<=q) :
  w2.cell? ⟨b0+2,2,none⟩=some nv/\w2.frozen? ⟨b0+2,2,none⟩=false/\dT w0 (w2.setCell ⟨b0+2,2,none⟩ v') b0 cl nx ac k ks o tk (ys++[x]) zs qv v' av:=by
 have hz:=h.sz;have b:=r2.size;have c:=hW.size;have k2:=dK hW r2;have nq:∀ k,k<b0+7->nv.ownBlock≠some k:=fun k hk e=>by have:=(h.on.lt k e).1;omega
 have e:∀ k,k<w.heap.size->k≠b0+2->nv.ownBlock≠some k->(w2.setCell ⟨b0+2,2,none⟩ v').heap[k]?=w.heap[k]? :=fun k hk hne hq=>(Below.heap_setCell _ _ _ _ (by show k≠b0+2;exact hne)).trans (k2 k hk hq)
 have lo:∀ k,k<b0+7->k≠b0+2->(w2.setCell ⟨b0+2,2,none⟩ v').heap[k]?=w.heap[k]? :=fun k hk hne=>e k (by omega) hne (nq k hk)
 obtain⟨F,hF⟩:=h.res;have a:aC w2 (b0+2) 30 cl (.int .i64 (k:Nat)) nv av:=World.rowIs.of_block h.out (k2 _ (by omega) (nq _ (by omega)));refine⟨a.facts.2.2.1,World.rowIs.frozen a 2,h.eb,World.rowIs.of_block h.d (lo _ (by omega) (by omega)),⟨F,hF.of_block (lo _ (by omega) (by omega))⟩,a.put2,h.num.keep (lo _ (by omega) (by omega)),h.kb.of_block (lo _ (by omega) (by omega)),h.q.of_block (lo _ (by omega) (by omega)),ak h.oq (fun r hr=>e r (aB h.oq r hr) (by have:=(h.oq.lt r hr).1;omega) (fun e2=>(h.qn r hr).1 e2)),ak r1 (fun r hr=>Below.heap_setCell _ _ _ _ (by show r≠b0+2;have:=(r1.lt r hr).1;omega)),ak h.oa (fun r hr=>e r (aB h.oa r hr) (by have:=(h.oa.lt r hr).1;omega) (fun e2=>h.na r e2 hr)),fun r hr=>⟨fun e3=>?_,(h.qn r hr).2⟩,fun r hr=>?_,⟨r2.os.trans (hW.os.trans h.bl.os),r2.tape.trans (hW.tape.trans h.bl.tape),r2.output.trans (hW.output.trans h.bl.output),by rw[aM];have:=h.bl.size;omega,fun k hk=>(lo k (by omega) (by omega)).trans (h.bl.block k hk)⟩,by rw[aM];omega⟩
 ·rcases r3 r e3 with e2|e2
  ·exact(h.qn r hr).1 e2
  have:=aB h.oq r hr;omega
 rcases r3 r hr with e2|e2
 ·exact h.na r e2
 exact fun e3=>by have:=aB h.oa r e3;omega
theorem dT.pushA{W w2:World}{v':Value}{x:Bool}(h:dT w0 w b0 cl nx ac k ks o tk ys zs qv nv av)(hW:Below w.heap.size w W)(r1:w2.ownsRow (b0+7) 4 1 v' (zs++[x]).length ((zs++[x]).map mT))(r2:W.grownBy w2 av.ownBlock)(r3:∀ q,v'.ownBlock=some q->av.ownBlock=some q∨w.heap.size<=q) :
  w2.cell? ⟨b0+2,3,none⟩=some av/\w2.frozen? ⟨b0+2,3,none⟩=false/\dT w0 (w2.setCell ⟨b0+2,3,none⟩ v') b0 cl nx ac k ks o tk ys (zs++[x]) qv nv v':=by
 have hz:=h.sz;have b:=r2.size;have c:=hW.size;have k2:=dK hW r2;have nq:∀ k,k<b0+7->av.ownBlock≠some k:=fun k hk e=>by have:=(h.oa.lt k e).1;omega
 have e:∀ k,k<w.heap.size->k≠b0+2->av.ownBlock≠some k->(w2.setCell ⟨b0+2,3,none⟩ v').heap[k]?=w.heap[k]? :=fun k hk hne hq=>(Below.heap_setCell _ _ _ _ (by show k≠b0+2;exact hne)).trans (k2 k hk hq)
 have lo:∀ k,k<b0+7->k≠b0+2->(w2.setCell ⟨b0+2,3,none⟩ v').heap[k]?=w.heap[k]? :=fun k hk hne=>e k (by omega) hne (nq k hk)
 obtain⟨F,hF⟩:=h.res;have a:aC w2 (b0+2) 30 cl (.int .i64 (k:Nat)) nv av:=World.rowIs.of_block h.out (k2 _ (by omega) (nq _ (by omega)));refine⟨a.facts.2.2.2.1,World.rowIs.frozen a 3,h.eb,World.rowIs.of_block h.d (lo _ (by omega) (by omega)),⟨F,hF.of_block (lo _ (by omega) (by omega))⟩,a.put3',h.num.keep (lo _ (by omega) (by omega)),h.kb.of_block (lo _ (by omega) (by omega)),h.q.of_block (lo _ (by omega) (by omega)),ak h.oq (fun r hr=>e r (aB h.oq r hr) (by have:=(h.oq.lt r hr).1;omega) (fun e2=>(h.qn r hr).2 e2)),ak h.on (fun r hr=>e r (aB h.on r hr) (by have:=(h.on.lt r hr).1;omega) (fun e2=>h.na r hr e2)),ak r1 (fun r hr=>Below.heap_setCell _ _ _ _ (by show r≠b0+2;have:=(r1.lt r hr).1;omega)),fun r hr=>⟨(h.qn r hr).1,fun e3=>?_⟩,fun r hr e3=>?_,⟨r2.os.trans (hW.os.trans h.bl.os),r2.tape.trans (hW.tape.trans h.bl.tape),r2.output.trans (hW.output.trans h.bl.output),by rw[aM];have:=h.bl.size;omega,fun k hk=>(lo k (by omega) (by omega)).trans (h.bl.block k hk)⟩,by rw[aM];omega⟩
 ·rcases r3 r e3 with e2|e2
  ·exact(h.qn r hr).2 e2
  have:=aB h.oq r hr;omega
 rcases r3 r e3 with e2|e2
 ·exact h.na r hr e2
 have:=aB h.on r hr;omega
end
theorem vM{b0 base e sz n:Nat}{w:World}{v:Value}{xs:List Value}(h:w.ownsRow b0 e sz v n xs)(hb:∀ q,v.ownBlock=some q->base<=q):w.ownsRow base e sz v n xs:=by
 refine⟨h.1,?_⟩;rcases h.2 with hn|⟨g,cap,cur,rfl,-,rest⟩
 ·exact .inl hn
 exact .inr ⟨g,cap,cur,rfl,hb g rfl,rest⟩
theorem AD(o:List Nat):(o.map (fun x:Nat=>(x:Int))).map mI=o.map mN:=by simp[mN]
theorem tS{o:List Nat}{i x:Nat}(h:(o.map mN)[i]?=some (.int .i64 (x:Nat))):o[i]?=some x:=by
 rw[List.getElem?_map]at h;cases e:o[i]? with
 | none=>rw[e]at h;cases h
 | some y =>
  rw[e]at h;simp only[Option.map_some,mN,mI,Option.some.injEq,Value.int.injEq,true_and]at h;rw[show y=x by omega]
theorem AJ{o:List Nat}{x:Nat}:(Value.int .i64 (x:Nat))∈o.map mN↔x∈o:=by
 constructor
 ·intro h;obtain⟨i,hi⟩:=List.getElem?_of_mem h;exact List.mem_of_getElem? (tS hi)
 intro h;exact List.mem_map.2 ⟨x,h,rfl⟩
section
variable {w0 w:World} {b0:Nat} {cl nx ac:Value} {k:Nat} {ks o:List Nat} {tk:Nat} {ys:List Nat} {zs:List Bool} {qv nv av:Value}
theorem uY(h:dT w0 w b0 cl nx ac k ks o tk ys zs qv nv av)(x:Nat)(hl:o.length<=1000000) :
  Calls prog 97 #[.pointer (some ⟨b0+6,0,none⟩),.int .i64 (x:Nat)] w fun e w'=>e=.returned (.tuple #[])/\∃ qv',dT w0 w' b0 cl nx ac k ks (o++[x]) tk ys zs qv' nv av:=by
 have hz:=h.sz;have nq:qv.ownBlock≠some (b0+6):=fun e=>by have:=(h.oq.lt _ e).1;omega
 refine(sA (b0+6) 0 qv (o.map (fun x:Nat=>(x:Int))) (x:Nat) w (by omega) nq (by simpa using hl) ?_ (h.q.frozen 0) ?_).mono ?_
 ·rw[h.q.cell (by omega)];rfl
 ·rw[List.length_map,AD];exact aO h.oq (Nat.zero_le _)
 rintro e w' ⟨rfl,v',w2,rfl,r1,r2,r3⟩;refine⟨rfl,v',h.pushQ (ai w _) (vM (b0:=0) ?_ (fun q hq=>?_)) r2 r3⟩
 ·have e:(o.map (fun x:Nat=>(x:Int))++[(x:Int)])=(o++[x]).map (fun x:Nat=>(x:Int)):=by simp
  rw[e,List.length_map,AD]at r1;exact r1
 rcases r3 q hq with e|e
 ·exact(h.oq.lt q e).1
 omega
theorem Cp(h:dT w0 w b0 cl nx ac k ks o tk ys zs qv nv av)(x:Nat)(hx:x<=1000000)(hl:ks.length<100000) :
  Calls prog 96 #[.agg #[.map (some (b0+4))],.int .i64 (x:Nat)] w fun e w'=>∃ (i:Nat) (f:Bool),e=.returned (.tuple #[.int .i64 (i:Nat),.bool f])/\
   ((f=false/\ks[i]?=some x/\dT w0 w' b0 cl nx ac k ks o tk ys zs qv nv av)∨(f=true/\x ∉ ks/\i=ks.length/\dT w0 w' b0 cl nx ac k (ks++[x]) o tk ys zs qv nv av)):=by
 refine(uQ (b0+4) (x:Nat) (ks.map mN) w h.num (by omega) (by omega) (by simpa using hl)).mono ?_;rintro e w' ⟨i,ks',f,rfl,hR,hN,hF⟩;refine⟨i,f,rfl,?_⟩;rcases hR with ⟨h1,rfl,h2,rfl⟩|⟨h1,rfl,rfl,rfl⟩
 ·exact .inl ⟨rfl,tS h2,h.looked hF hN⟩
 refine .inr ⟨rfl,fun hm=>h1 (AJ.2 hm),by simp,h.looked hF ?_⟩;rw[List.map_append];exact hN
theorem yi(h:dT w0 w b0 cl nx ac k ks o tk ys zs qv nv av)(ht:tk<=o.length)(hl:o.length<=1000000) :
  Calls prog 98 #[.pointer (some ⟨b0+6,0,none⟩)] w fun e w'=>(tk=o.length/\e=.returned (.tuple #[.int .i64 0,.bool false])/\dT w0 w' b0 cl nx ac k ks o tk ys zs qv nv av) ∨
   (∃ s,o[tk]?=some s/\e=.returned (.tuple #[.int .i64 (s:Nat),.bool true])/\dT w0 w' b0 cl nx ac k ks o (tk+1) ys zs qv nv av):=by
 have c0:w.cell? ⟨b0+6,0,none⟩=some qv:=by rw[h.q.cell (by omega)];rfl
 have c1:w.cell? ⟨b0+6,0+1,none⟩=some (.int .i64 (tk:Nat)):=by rw[h.q.cell (by omega)];rfl
 obtain⟨oa,oc,rfl⟩:=aj h.oq
 by_cases e:tk=o.length
 ·refine(qW (b0+6) 0 oa o.length oc w c0 (by rw[<-e];exact c1)).mono ?_;rintro x w' ⟨rfl,q,rfl⟩;exact .inl ⟨e,rfl,h.keep ⟨rfl,rfl,rfl,Nat.le_refl _,fun _ _=>rfl⟩⟩
 have hlt:tk<o.length:=by omega
 obtain⟨qb,qc,e2,a⟩:=eu h.oq (by omega);cases e2;obtain⟨y,hy⟩ : ∃ y,o[tk]?=some y:=⟨_,List.getElem?_eq_getElem hlt⟩;refine(rn (b0+6) 0 qb 0 tk (y:Nat) o.length oc w hl hlt c0 c1 (by rw[Nat.zero_add,a tk hlt,List.getElem?_map,hy];rfl) (h.q.frozen 1)).mono ?_;rintro x w' ⟨rfl,q,rfl⟩;exact .inr ⟨y,hy,rfl,h.popd q⟩
end
theorem Tryz.zinBoo:(prog.info? 4).map (fun i=>(i.zero,i.size,i.bytes))=some (some (.bool false),1,1):=by kernel_rfl
theorem sK{u0 u2 u4 u5 u7 u8 u9 u10 u11 u12 u13 u14 u15 u16 u17 u18 u19 u20 u21 u22 u23 u24 u25 u26 u27 u28 u29 u30 u31 u32 u33 u34 u35 u36 u37 u38 u39 u40 u41 u42 u43 u44 u45 u46 u47 u48 u49 u50 u51 u52 u53 u54 u55 u56 u57 u58 u59 u60 u61 u62 u63 u64:Value}{K K1 K2 K3:Act->World->Prop}{n1 n2:Nat}{R:Ending->World->Prop}(w7:World)(db ob ab ao n ca s N oc lo:Nat)(oa:Option Addr)(x:Bool)(xs:List Value)(hs:s<n)(hob:ob<w7.heap.size)(hlo:lo<=w7.heap.size)(hN:N<=1000000)
  (y3:w7.cell? ⟨ob,3,none⟩=some (.slice oa N oc))(k3:w7.cell? ⟨db,3,none⟩=some (.slice (some ⟨ab,ao,none⟩) n ca))(k0:w7.cell? ⟨ab,ao+s,none⟩=some (.bool x))
  (hrk:w7.ownsRow lo 4 1 (.slice oa N oc) N xs)
  (hps:∀ (WA w8:World) (gg cap:Nat),w8.ownsRow lo 4 1 (.slice (some ⟨gg,0,none⟩) (N+1) cap) (N+1) (xs++[.bool x])->WA.grownBy w8 (Value.slice oa N oc).ownBlock->((Value.slice oa N oc).ownBlock=some gg∨gg=w7.heap.size+1)->aH w7 WA (.cells #[.bool x] 4)->
   w8.cell? ⟨ob,3,none⟩=some (.slice oa N oc)/\w8.frozen? ⟨ob,3,none⟩=false/\K { tmps:=#[u0,.pointer (some ⟨db,0,none⟩),u2,.pointer (some ⟨ob,0,none⟩),u4,u5,.int .i64 (s:Nat),u7,u8,u9,u10,u11,u12,u13,u14,u15,u16,u17,u18,u19,u20,u21,u22,u23,u24,u25,u26,u27,u28,u29,.pointer (some ⟨ob,3,none⟩),.slice oa N oc,.pointer (some ⟨db,3,none⟩),.slice (some ⟨ab,ao,none⟩) n ca,.int .i64 (s:Nat),.pointer (some ⟨ab,ao+s,none⟩),.bool x,.slice (some ⟨w7.heap.size,0,none⟩) 1 1,.slice (some ⟨gg,0,none⟩) (N+1) cap,.pointer (some ⟨ob,3,none⟩),u40,u41,u42,u43,u44,u45,u46,u47,u48,u49,u50,u51,u52,u53,u54,u55,u56,u57,u58,u59,u60,u61,u62,u63,u64],defers:=[] } (w8.setCell ⟨ob,3,none⟩ (.slice (some ⟨gg,0,none⟩) (N+1) cap))) :
  Code.wp prog (Code.region 9 #[{ dst:=some 30,op:=Op.fieldAddr 30 (Operand.tmp 3) 3,type:=0,pos:= "l2_dfa.go:433",after:=#[],guard:=none },{ dst:=some 31,op:=Op.load 28 (Operand.tmp 30),type:=28,pos:= "l2_dfa.go:433",after:=#[{ on:=0,ground:=Ground.data }],guard:=none },{ dst:=some 32,op:=Op.fieldAddr 30 (Operand.tmp 1) 3,type:=0,pos:= "l2_dfa.go:433",after:=#[],guard:=none },{ dst:=some 33,op:=Op.load 28 (Operand.tmp 32),type:=28,pos:= "l2_dfa.go:433",after:=#[{ on:=2,ground:=Ground.data }],guard:=none },{ dst:=some 34,op:=Op.move (Operand.tmp 6),type:=3,pos:= "l2_dfa.go:433",after:=#[],guard:=none },{ dst:=some 35,op:=Op.indexAddr 28 (Operand.tmp 33) (Operand.tmp 34),type:=0,pos:= "l2_dfa.go:433",after:=#[{ on:=3,ground:=Ground.data },{ on:=4,ground:=Ground.data }],guard:=none },{ dst:=some 36,op:=Op.load 4 (Operand.tmp 35),type:=4,pos:= "l2_dfa.go:433",after:=#[{ on:=5,ground:=Ground.data }],guard:=none },{ dst:=some 37,op:=Op.buildSlice 28 1 #[(0,Operand.tmp 36)],type:=28,pos:= "l2_dfa.go:433",after:=#[{ on:=6,ground:=Ground.data }],guard:=none },{ dst:=some 38,op:=Op.call { callee:=Callee.builtin Builtin.append,args:=#[Operand.tmp 31,Operand.tmp 37],argTypes:=#[28,28] },type:=28,pos:= "l2_dfa.go:433",after:=#[{ on:=1,ground:=Ground.data },{ on:=7,ground:=Ground.data }],guard:=none },{ dst:=some 39,op:=Op.fieldAddr 30 (Operand.tmp 3) 3,type:=0,pos:= "l2_dfa.go:433",after:=#[{ on:=0,ground:=Ground.phase },{ on:=1,ground:=Ground.phase },{ on:=2,ground:=Ground.phase },{ on:=3,ground:=Ground.phase },{ on:=4,ground:=Ground.phase },{ on:=5,ground:=Ground.phase },{ on:=6,ground:=Ground.phase },{ on:=7,ground:=Ground.phase },{ on:=8,ground:=Ground.phase }],guard:=none },{ dst:=none,op:=Op.store 28 (Operand.tmp 39) (Operand.tmp 38),type:=0,pos:= "l2_dfa.go:433",after:=#[{ on:=9,ground:=Ground.data },{ on:=8,ground:=Ground.data },{ on:=8,ground:=Ground.chain },{ on:=0,ground:=Ground.phase },{ on:=1,ground:=Ground.phase },{ on:=2,ground:=Ground.phase },{ on:=3,ground:=Ground.phase },{ on:=4,ground:=Ground.phase },{ on:=5,ground:=Ground.phase },{ on:=6,ground:=Ground.phase },{ on:=7,ground:=Ground.phase },{ on:=8,ground:=Ground.phase }],guard:=none }] true) (Exit.then K (Exit.inBlock n1 (Exit.then K1 (Exit.then K2 (Exit.inBlock n2 (Exit.then K3 (bodyPost prog Tryz.f59 R))))))) { tmps:=#[u0,.pointer (some ⟨db,0,none⟩),u2,.pointer (some ⟨ob,0,none⟩),u4,u5,.int .i64 (s:Nat),u7,u8,u9,u10,u11,u12,u13,u14,u15,u16,u17,u18,u19,u20,u21,u22,u23,u24,u25,u26,u27,u28,u29,u30,u31,u32,u33,u34,u35,u36,u37,u38,u39,u40,u41,u42,u43,u44,u45,u46,u47,u48,u49,u50,u51,u52,u53,u54,u55,u56,u57,u58,u59,u60,u61,u62,u63,u64],defers:=[] } w7:=by
 obtain⟨j0,a,b,c,d⟩:=info_parts Tryz.zinBoo;have y3':=(ai w7 (.cells #[.bool x] 4)).cell (p:=⟨ob,3,none⟩) hob;rw[y3]at y3';have g:(s:Int)<(n:Int):=by omega
 have e:=ae hps;have f:=ae hrk;clear hps hrk
 go_region_law (
  (refine step_append_lies _ rfl (.tmp 31) (.tmp 37) 28 rfl lo 4 j0 (.bool false) 1 1 underlying28 a b c d rfl (by decide) (.slice oa N oc) N xs (by first|(simp[Act.eval];done)|(simp[Act.eval,Act.put];done)) (by refine aH.own (w:=w7) (o:=.cells #[.bool x] 4) ?_ f.u;exact⟨rfl,rfl,rfl,rfl⟩) ⟨w7.heap.size,0,none⟩ 1 1 [.bool x] (by first|(simp[Act.eval];done)|(simp[Act.eval,Act.put];done)) rfl (by refine aH.news (w:=w7) (cs:=#[.bool x]) (t:=4) ?_;exact⟨rfl,rfl,rfl,rfl⟩) (by intro u hu;simp only[List.mem_cons,List.not_mem_nil,or_false]at hu;subst hu;rfl) (by decide) (by unfold maxLen;omega) (by omega) (by have hq:=ah w7 (.cells #[.bool x] 4);exact Nat.le_trans hlo (Nat.le_of_lt (Nat.lt_of_lt_of_eq (Nat.lt_succ_self _) hq.symm))) (w7.heap.size+1) (ah w7 _) (fun gg cap w8 r1 r2 r3 r4=>?_);have h8:=ae (e.u _ w8 gg cap r1 r2 r3 (by exact⟨rfl,rfl,rfl,rfl⟩));obtain⟨c7,z7,-⟩:=h8.u;clear r1 r2 r3 r4))
 all_goals exact h8.u.2.2
end Go.Proofs.YtidfkbghlkcbeaaGreatDoor
