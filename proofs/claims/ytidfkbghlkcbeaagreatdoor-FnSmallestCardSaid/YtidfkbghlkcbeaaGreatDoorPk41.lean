import Derived.Test.YtidfkbghlkcbeaaGreatDoorPk39
import Derived.Test.YtidfkbghlkcbeaaGreatDoorMw6
import Derived.Test.YtidfkbghlkcbeaaGreatDoorPk40
import Derived.Test.YtidfkbghlkcbeaaGreatDoorPk38
import Derived.Test.YtidfkbghlkcbeaaGreatDoorCards
import Derived.Test.YtidfkbghlkcbeaaGreatDoorTie
import Derived.Deep.DeepHandedRow
import Derived.Lib.LaidTab
import Derived.LaidSub
import Derived.SevenTiedAt
namespace Go.Proofs.YtidfkbghlkcbeaaGreatDoor
open Go.RowKit Go.Proofs.Tryz
set_option maxHeartbeats 16000000
set_option maxRecDepth 100000
def lF(S:List (List Int))(i b:Nat):Bool:=decide (i<S.length)&&(List.range (S[i]?.getD []).length).any fun k=>decide (2*k+1<(S[i]?.getD []).length)&&(decide ((S[i]?.getD [])[2*k]?.getD 0<=(b:Int))&&decide ((b:Int)<=(S[i]?.getD [])[2*k+1]?.getD 0))
theorem kg(S:List (List Int))(i b:Nat):lF S i b=true↔(i<S.length/\eF (S[i]?.getD []) (b:Int)):=by
 unfold lF eF;rw[Bool.and_eq_true,decide_eq_true_eq,List.any_eq_true];simp only[Bool.and_eq_true,decide_eq_true_eq,List.mem_range];exact and_congr_right fun _=>⟨fun ⟨k,_,h⟩=>⟨k,h⟩,fun ⟨k,h⟩=>⟨k,by omega,h⟩⟩
theorem BI{S:List (List Int)}{i b:Nat}(hi:i<S.length):lF S i b=true↔eF (S[i]?.getD []) (b:Int):=by
 rw[kg];exact⟨fun h=>h.2,fun h=>⟨hi,h⟩⟩
theorem zH{S:List (List Int)}{i b:Nat}(hi:S.length<=i):lF S i b=false:=by
 cases h:lF S i b with
 | false=>rfl
 | true=>rw[kg]at h;omega
def mD(W:List (List Int))(i j:Nat):Bool:=(W[i]?.getD []).contains (j:Int)
def nS(L:List Int)(i:Nat):Bool:=L.contains (i:Int)
def oe(S:List (List Int))(L:List Int)(W:List (List Int)):List Nat×Bool->Nat->List Nat×Bool:=bN S.length (lF S) (mD W) (nS L)
def nW(F:List Int)(nl:Bool):List Nat×Bool:=(F.map Int.toNat,nl)
theorem qE{ln:List Lk}{n:Nat}(h:uv ln n)(i j:Nat):mD (eU ln n) i j=cm ln i j:=by
 have key:cm ln i j=true->i<n/\j<n:=fun hm=>by
  unfold cm at hm;rw[List.any_eq_true]at hm;obtain⟨p,hp,hm⟩:=hm;rw[Bool.and_eq_true,List.contains_iff_mem,List.contains_iff_mem]at hm;exact⟨(h p hp).1 i hm.1,(h p hp).2 j hm.2⟩
 unfold mD eU
 by_cases hi:i<n
 ·rw[List.getElem?_map,List.getElem?_range hi];show(yI ln n i).contains (j:Int)=_;rw[Bool.eq_iff_iff,List.contains_iff_mem];unfold yI;rw[List.mem_map]
  constructor
  ·rintro⟨j',a,e⟩;have:j'=j:=by omega
   subst this;exact(List.mem_filter.1 a).2
  intro hm;exact⟨j,List.mem_filter.2 ⟨List.mem_range.2 (key hm).2,hm⟩,rfl⟩
 rw[List.getElem?_eq_none (by simp;omega)];cases hm:cm ln i j with
 | false=>rfl
 | true=>exact absurd (key hm).1 hi
theorem xy{ln:List Lk}{n i:Nat}(h:uv ln n)(hi:i<n):(eU ln n)[i]?.getD []=((List.range n).filter (mD (eU ln n) i)).map fun (j:Nat)=>(j:Int):=by
 have e:mD (eU ln n) i=cm ln i:=by funext j;exact qE h i j
 rw[e];unfold eU;rw[List.getElem?_map,List.getElem?_range hi]
 rfl
theorem Bw(a:It)(i:Nat):nS (de a true 0) i=a.la.contains i:=by
 unfold nS de;rw[Bool.eq_iff_iff,List.contains_iff_mem,List.contains_iff_mem];simp only[if_true,List.mem_map]
 constructor
 ·rintro⟨j,hj,e⟩;have:j=i:=by omega
  subst this;exact hj
 intro h;exact⟨i,h,by omega⟩
theorem Ci(a:It):(de a false 0).map Int.toNat=a.fi:=by
 unfold de;simp[Function.comp_def]
theorem yJ{p:Nat->Bool}{N M:Nat}(h:N<=M)(hp:∀ i,p i=true->i<N):(List.range M).filter p=(List.range N).filter p:=by
 obtain⟨d,rfl⟩ : ∃ d,M=N+d:=⟨M-N,by omega⟩;rw[List.range_add,List.filter_append];have:(List.map (fun x=>N+x) (List.range d)).filter p=[]:=by
  rw[List.filter_eq_nil_iff];intro a ha b;obtain⟨x,-,rfl⟩:=List.mem_map.1 ha;have:=hp _ b;omega
 rw[this,List.append_nil]
def De(l r:Bool)(xs:List El)(code K:Int)(X Y:List Int)(Z:List Bool):Prop:=
 (¬ bO xs/\code=4/\K=0/\X=[]/\Y=[]/\Z=[]) ∨
 (bO xs/\∃ S nl F L W,nI l r xs S nl F L W/\
  ((∃ (k:Nat) (cls rep:Nat->Nat) (o:List (List Nat×Bool)) (ys:List Nat),eP (oe S L W) (nW F nl) k cls rep o ys/\1024<o.length/\code=3/\K=0/\X=[]/\Y=[]/\Z=[]) ∨
   (∃ (k:Nat) (cls rep:Nat->Nat) (o:List (List Nat×Bool)) (ys:List Nat),eP (oe S L W) (nW F nl) k cls rep o ys/\ys.length=o.length*k/\o.length<=1024/\code=0/\
    ∃ (kk:Nat) (P c2 r2:Nat->Nat) (o2 ys2:List Nat),dD (bg k cls Prod.snd o ys) P kk c2 r2 o2 ys2/\K=(kk:Nat)/\X=gW (bg kk c2 (bg k cls Prod.snd o ys).ac o2 ys2)/\Y=gT (bg kk c2 (bg k cls Prod.snd o ys).ac o2 ys2)/\Z=iO (bg kk c2 (bg k cls Prod.snd o ys).ac o2 ys2))))
def xu(l r:Bool)(xs:List El)(code K:Int)(X Y:List Int)(Z:List Bool):Prop:=
 (¬ bO xs/\code=4/\K=0/\X=[]/\Y=[]/\Z=[]) ∨
 (bO xs/\∃ S nl F L W,nI l r xs S nl F L W/\
  ((∃ (k:Nat) (cls rep:Nat->Nat) (o:List (List Nat×Bool)) (ys:List Nat),eP (oe S L W) (nW F nl) k cls rep o ys/\1024<o.length/\code=3/\K=0/\X=[]/\Y=[]/\Z=[]) ∨
   (∃ (k:Nat) (cls rep:Nat->Nat) (o:List (List Nat×Bool)) (ys:List Nat),eP (oe S L W) (nW F nl) k cls rep o ys/\ys.length=o.length*k/\o.length<=1024/\code=0/\
    ∃ (kk:Nat) (o2 ys2:List Nat) (m:Nat) (num Fn mg G:Nat->Nat),bP (bg k cls Prod.snd o ys) o2 ys2 m num Fn kk mg G/\K=(kk:Nat)/\X=gW (bP.out (bg k cls Prod.snd o ys) o2 ys2 m num Fn kk mg G)/\Y=gT (bP.out (bg k cls Prod.snd o ys) o2 ys2 m num Fn kk mg G)/\Z=iO (bP.out (bg k cls Prod.snd o ys) o2 ys2 m num Fn kk mg G))))
theorem De.one{l r:Bool}{xs:List El}{code code' K K':Int}{X Y X' Y':List Int}{Z Z':List Bool}(h:De l r xs code K X Y Z)(g:xu l r xs code' K' X' Y' Z'):code=code'/\K=K'/\X=X'/\Y=Y'/\Z=Z':=by
 rcases h with ⟨h0,rfl,rfl,rfl,rfl,rfl⟩|⟨h0,S,nl,F,L,W,hA,h⟩<;>rcases g with ⟨g0,rfl,rfl,rfl,rfl,rfl⟩|⟨g0,S',nl',F',L',W',gA,g⟩
 ·exact⟨rfl,rfl,rfl,rfl,rfl⟩
 ·exact absurd g0 h0
 ·exact absurd h0 g0
 obtain⟨rfl,rfl,rfl,rfl,rfl⟩:=hA.one gA;rcases h with ⟨k,cls,rep,o,ys,hp,a,rfl,rfl,rfl,rfl,rfl⟩|⟨k,cls,rep,o,ys,hp,hl,b,rfl,kk,P,c2,r2,o2,ys2,hs,rfl,rfl,rfl,rfl⟩<;>rcases g with ⟨k',cls',rep',o',ys',gp,gbig,rfl,rfl,rfl,rfl,rfl⟩|⟨k',cls',rep',o',ys',gp,gl,gle,rfl,kk',o2',ys2',m,num,Fn,mg,G,gs,rfl,rfl,rfl,rfl⟩
 ·exact⟨rfl,rfl,rfl,rfl,rfl⟩
 ·have:=gp.few gl hp;omega
 ·have:=hp.few hl gp;omega
 obtain⟨e1,e2,e3,e4⟩:=rx gs hs (gp.tel gl hp hl Prod.snd);exact⟨rfl,by rw[e2],e1.symm,e3.symm,e4.symm⟩
theorem Dj{ln:List Lk}{n i j:Nat}(h:uv ln n)(hm:cm ln i j=true):j<n:=by
 unfold cm at hm;rw[List.any_eq_true]at hm;obtain⟨p,hp,hq⟩:=hm;rw[Bool.and_eq_true,List.contains_iff_mem,List.contains_iff_mem]at hq;exact(h p hp).2 j hq.2
theorem fZ.wh{Q:Value->List El->Prop}(hQ:fZ Q){U:Value}{L:List El}(h:Q U L)(l r:Bool):∃ U',Q U' (gD l r L):=by
 obtain⟨g,hg⟩:=jN dH;have ha:=hQ.all hg;unfold gD;cases l<;>cases r
 ·exact⟨_,hQ.cat (hQ.cat ha h) ha⟩
 ·exact⟨_,hQ.cat ha h⟩
 ·exact⟨_,hQ.cat h ha⟩
 exact⟨_,h⟩
theorem vb{S K:Nat->Nat->Prop}{a:It}{N:Nat}{hold fol:Nat->Nat->Bool}{last:Nat->Bool}{ws fs:List Nat}(hF:∀ j,j∈fs↔j∈a.fi)(hh:∀ i k,k<ws.length->(hold i (ws[k]?.getD 0)=true↔S i k))(hf:∀ i j,fol i j=true↔K i j)(hN:∀ i j,K i j->j<N)(hl:∀ i,last i=true↔i∈a.la) :
  ∀ k,k<=ws.length->(∀ j,j∈((ws.take k).foldl (bN N hold fol last) (fs,a.nl)).1↔DS S K a.fi k j)/\(((ws.take k).foldl (bN N hold fol last) (fs,a.nl)).2=true↔Dz S K a k)
 | 0,_=>⟨hF,Iff.rfl⟩
 | k+1,hk=>by
  obtain⟨h1,h2⟩:=vb hF hh hf hN hl k (by omega);have e:ws.take (k+1)=ws.take k++[ws[k]?.getD 0]:=by rw[List.take_add_one,List.getElem?_eq_getElem (by omega)];rfl
  rw[e,List.foldl_append];generalize (ws.take k).foldl (bN N hold fol last) (fs,a.nl)=P at *;simp only[List.foldl_cons,List.foldl_nil,bN,List.mem_filter,List.mem_range,List.any_eq_true,Bool.and_eq_true];refine⟨fun j=>⟨?_,?_⟩,?_,?_⟩
  ·rintro⟨-,i,q1,q2,q3⟩;exact⟨i,(h1 i).1 q1,(hh i k (by omega)).1 q2,(hf i j).1 q3⟩
  ·rintro⟨i,q1,q2,q3⟩;exact⟨hN i j q3,i,(h1 i).2 q1,(hh i k (by omega)).2 q2,(hf i j).2 q3⟩
  ·rintro⟨i,q1,q2,q3⟩;exact⟨i,(h1 i).1 q1,(hh i k (by omega)).1 q2,(hl i).1 q3⟩
  rintro⟨i,q1,q2,q3⟩;exact⟨i,(h1 i).2 q1,(hh i k (by omega)).2 q2,(hl i).2 q3⟩
theorem lX(A:Tb){b:Nat}(hb:b<256):(gW A)[b]?.getD 0=(A.cl b:Int):=by
 unfold gW;rw[List.getElem?_map,List.getElem?_range hb];rfl
theorem pW(A:Tb){q c:Nat}(hq:q<A.n)(hc:c<A.k):(gT A)[q*A.k+c]?.getD 0=(A.nx q c:Int):=by
 have h1:=eh (q:=q) hc;have h2:q*A.k+c<A.n*A.k:=by
  have:=Nat.mul_le_mul_right A.k (show q+1<=A.n from hq);rw[Nat.succ_mul]at this;omega
 unfold gT;rw[List.getElem?_map,List.getElem?_range h2];show((A.nx ((q*A.k+c) / A.k) ((q*A.k+c)%A.k):Nat):Int)=_;rw[h1.1,h1.2]
theorem uG(A:Tb){q:Nat}(hq:q<A.n):(iO A)[q]?.getD false=A.ac q:=by
 unfold iO;rw[List.getElem?_map,List.getElem?_range hq];rfl
theorem kQ{A:Tb}(h:bE A)(hn:A.n<=1024):fH (gW A) (gT A) (iO A) (A.k:Int):=by
 have hl:(iO A).length=A.n:=by unfold iO;simp
 have hx:(gW A).length=256:=by unfold gW;simp
 have hy:(gT A).length=A.n*A.k:=by unfold gT;simp
 have hp:=h.wf.pos;have f:1<=A.k:=by have:=h.wf.cls 0 (by decide);omega
 have g:A.k<=256:=by
  have h1:(List.range A.k).length<=((List.range 256).map A.cl).length:=List.nodup_range.length_le_of_subset (fun c hc=>by
   obtain⟨b,hb,e⟩:=h.clAll c (List.mem_range.1 hc);exact List.mem_map.2 ⟨b,List.mem_range.2 hb,e⟩)
  simpa using h1
 have a:∀ b b':Nat,b'<b->b<257->(A.cl b':Int)<=top (gW A) b:=fun b b' h1 h2=>by
  have:=ul (gW A) b';rw[lX A (by omega)]at this;exact Int.le_trans this (nu _ _ _ h1)
 have d:∀ b:Nat,b<=256->-1<=top (gW A) b/\top (gW A) b<=(A.k:Int)-1:=by
  intro b
  induction b with
  | zero=>intro _;simp only[top];omega
  | succ b ih =>
   intro hb;have h1:=ih (by omega);have h2:=h.wf.cls b (by omega);simp only[top];rw[lX A (by omega)]
   split<;>omega
 refine⟨by omega,by omega,hx,fun b hb=>?_,?_,?_,fun i hi=>?_⟩
 ·rw[lX A hb];refine⟨by omega,?_⟩
  by_cases h0:A.cl b=0
  ·have:=(d b (by omega)).1;omega
  obtain⟨b',h1,h2⟩:=h.clUp b hb (A.cl b-1) (by omega);have:=a b b' h1 (by omega);omega
 ·obtain⟨b,hb,e⟩:=h.clAll (A.k-1) (by omega);have h1:=a 256 b hb (by decide);have h2:=(d 256 (by decide)).2;omega
 ·rw[hy,hl];push_cast;rfl
 rw[hy]at hi;have hq:i / A.k<A.n:=Nat.div_lt_of_lt_mul (by rw[Nat.mul_comm];exact hi);have hc:i%A.k<A.k:=Nat.mod_lt _ (by omega);have e:i=i / A.k*A.k+i%A.k:=by rw[Nat.mul_comm];exact(Nat.div_add_mod i A.k).symm
 rw[e,pW A hq hc,hl];have:=h.wf.nxt _ _ hq hc;omega
theorem BA{n m:Nat}{num F:Nat->Nat}(h:fO n m num F):m<=n:=by
 have key:∀ j,j<m->j<=F j:=by
  intro j
  induction j with
  | zero=>intro _;exact Nat.zero_le _
  | succ j ih=>intro hj;have h1:=ih (by omega);have h2:=h.up j (j+1) (by omega) hj;omega
 cases m with
 | zero=>exact Nat.zero_le _
 | succ m=>have h1:=key m (by omega);have h2:=(h.fst m (by omega)).1;omega
theorem Dl{A:Tb}{o ys:List Nat}(hw:A.Wf)(h:eM A.k A.nx 0 o ys):o.length<=A.n:=by
 have hk:0<A.k:=by have:=hw.cls 0 (by decide);omega
 have a:∀ s,s<o.length->∃ x,o[s]?=some x/\x<A.n:=by
  intro s
  induction s using Nat.strongRecOn with
  | _ s ih =>
   intro hs;rcases h.all s hs with rfl|⟨t,h1,h2,h3⟩
   ·exact⟨0,h.z,hw.pos⟩
   obtain⟨x,q1,q2⟩:=h.nx t h1;obtain⟨x',e,hx⟩:=ih (t / A.k) h3 (by omega);rw[e]at q1;obtain rfl:=Option.some.inj q1;rw[h2]at q2;exact⟨_,q2,hw.nxt _ _ hx (Nat.mod_lt _ hk)⟩
 refine pZ h (fun x hx=>?_)
 obtain⟨i,hi,rfl⟩:=List.getElem_of_mem hx;obtain⟨y,e,hy⟩:=a i hi;rw[List.getElem?_eq_getElem hi]at e;rw[Option.some.inj e];exact hy
def AC(l r:Bool)(xs:List El)(bs:List Int):Prop:=∃ R,aZ bs.length (uu bs) xs R/\Do bs.length l r R
theorem BB{l r:Bool}{xs L:List El}{bs:List Int}{U:Value}{a:It}{ln:List Lk}{ss:List (List Int)}(hb:∀ x∈bs,0<=x/\x<=255)(hok:bO xs)(hx:cE xs L)(hg:Gh bs.length (uu bs) U (gD l r L))(ho:cK (gD l r L) (aS (gD l r L)) a ln ss) :
  AC l r xs bs↔Dz (cM (uu bs) ss) (fun x y=>cm ln x y=true) a bs.length:=by
 obtain⟨R,h1,h2,h3⟩:=wX (n:=bs.length) (hs:=uu bs) hok hx;obtain⟨W,h4,h5⟩:=wu h2 (fun i hi=>by
  have:=hb (bs[i]?.getD 0) (by rw[List.getElem?_eq_getElem hi];exact List.getElem_mem hi);exact⟨0,by simp,this.1,this.2⟩) l r
 obtain⟨R',a',ln',ss',h6,h7,h8,-⟩:=hg (h3.wh l r);obtain⟨-,e1,e2,e3⟩:=cK.one ho h7;rw[It.sh0,It.sh0]at e1;rw[Fr,Fr]at e2;subst e1 e2 e3;obtain rfl:=aZ.one h6 h4;rw[<-BV h8,h5];exact⟨fun ⟨R2,q1,q2⟩=>aZ.one q1 h1 ▸ q2,fun q=>⟨R,h1,q⟩⟩
theorem gC{l r:Bool}{xs:List El}{K:Int}{X Y:List Int}{Z:List Bool}(h:xu l r xs 0 K X Y Z):bO xs/\∃ T:Tb,bE T/\T.n<=1024/\K=(T.k:Int)/\X=gW T/\Y=gT T/\Z=iO T/\∀ bs:List Int,(∀ x∈bs,0<=x/\x<=255)->(T.ac (T.run 0 (bs.map Int.toNat))=true↔AC l r xs bs):=by
 rcases h with ⟨-,h,-⟩|⟨hok,S,nl,F,L,W,hA,⟨k,cls,rep,o,ys,-,-,h,-⟩|⟨k,cls,rep,o,ys,hP,g,ho,-,kk,o2,ys2,m,num,Fn,mg,G,hT,rfl,rfl,rfl,rfl⟩⟩
 ·omega
 ·omega
 refine⟨hok,_,hT.canon,Nat.le_trans (BA hT.num1) (Nat.le_trans (Dl hT.wf hT.bfs) ho),rfl,rfl,rfl,rfl,fun bs hb=>?_⟩;have hw:Wd (bs.map Int.toNat):=fun b hbm=>by
  obtain⟨x,hx,rfl⟩:=List.mem_map.1 hbm;have:=hb x hx;omega
 have e0:(bs.map Int.toNat).take bs.length=bs.map Int.toNat:=List.take_of_length_le (by simp);have e1:=hT.start (bs.map Int.toNat) hw;have e2:=hP.run g Prod.snd (bs.map Int.toNat) hw;rw[e1];show((o[_]?.map Prod.snd).getD false=true)↔_;rw[e2];rcases hA with ⟨-,L0,a,ln,ss,hx,-,c,rfl,rfl,rfl,rfl,rfl⟩|⟨p,-⟩
 ·obtain⟨L',-,s,⟨U,hU⟩,-⟩:=vg (yg (n:=bs.length) (hs:=uu bs)) hok;obtain rfl:=cE.one hx s;obtain⟨U',t⟩:=(yg (n:=bs.length) (hs:=uu bs)).wh hU l r;rw[BB hb hok hx t c];have d:=c.lkb;have u:=c.sets;have key:=vb (S:=cM (uu bs) ss) (K:=fun x y=>cm ln x y=true) (a:=a) (N:=(bG (gD l r L0)).length) (hold:=lF (bG (gD l r L0))) (fol:=mD (eU ln (aS (gD l r L0)))) (last:=nS (de a true 0)) (ws:=bs.map Int.toNat) (fs:=(de a false 0).map Int.toNat) (fun j=>?_) (fun i n hn=>?_) (fun i j=>?_) (fun i j hij=>?_) (fun i=>?_) bs.length (by simp)
  ·rw[e0]at key;exact key.2
  ·unfold de;simp
  ·have f:n<bs.length:=by simpa using hn
   have hx:=hb (bs[n]?.getD 0) (by rw[List.getElem?_eq_getElem f];exact List.getElem_mem _);have e:(bs.map Int.toNat)[n]?.getD 0=(bs[n]?.getD 0).toNat:=by rw[List.getElem?_map,List.getElem?_eq_getElem f];rfl
   rw[kg,e,<-u];show _↔eF (ss[i]?.getD []) (bs[n]?.getD 0);rw[show(((bs[n]?.getD 0).toNat:Nat):Int)=bs[n]?.getD 0 by omega];refine⟨fun q=>q.2,fun q=>⟨?_,q⟩⟩
   by_cases hi:i<ss.length
   ·exact hi
   rw[List.getElem?_eq_none (by omega)]at q;obtain⟨z,hz,-⟩:=q;simp at hz
  ·rw[qE d]
  ·rw[dy];exact Dj d hij
  unfold nS de;rw[List.contains_iff_mem,List.mem_map]
  constructor
  ·rintro⟨x,hx,e⟩;obtain rfl:x=i:=by omega
   exact hx
  intro hi;exact⟨i,hi,by simp⟩
 exact absurd hok p
theorem zR{l r:Bool}{xs ys:List El}{K K':Int}{X Y X' Y':List Int}{Z Z':List Bool}(hT:gX xs ys)(h:xu l r xs 0 K X Y Z)(g:xu l r ys 0 K' X' Y' Z'):K=K'/\X=X'/\Y=Y'/\Z=Z':=by
 obtain⟨hv,T,c1,-,rfl,rfl,rfl,rfl,l1⟩:=gC h;obtain⟨-,T',c2,-,rfl,rfl,rfl,rfl,l2⟩:=gC g;obtain⟨e1,e2,e3,e4⟩:=iy c1 c2 (fun w hw=>by
  have hb:∀ x∈w.map (fun b:Nat=>(b:Int)),0<=x/\x<=255:=fun x hx=>by
   obtain⟨b,hb,rfl⟩:=List.mem_map.1 hx;have:=hw b hb;omega
  have e:(w.map (fun b:Nat=>(b:Int))).map Int.toNat=w:=by rw[List.map_map];exact(List.map_congr_left (fun b _=>by simp)).trans (List.map_id w)
  have q1:=l1 _ hb;have q2:=l2 _ hb;rw[e]at q1 q2;rw[Bool.eq_iff_iff,q1,q2];obtain⟨R,T2,t1,t2,t3⟩:=pk (n:=(w.map (fun b:Nat=>(b:Int))).length) (hs:=uu (w.map (fun b:Nat=>(b:Int)))) hv;have e9:T2=ys:=by have:=(t2 []).symm.trans (hT []);simpa using this
  subst e9;exact⟨fun ⟨R2,a,b⟩=>⟨R,t3,aZ.one a t1 ▸ b⟩,fun ⟨R2,a,b⟩=>⟨R,t1,aZ.one a t3 ▸ b⟩⟩)
 exact⟨by rw[e2],e1,e3,e4⟩
def zt(l r:Bool)(xs:List El)(w:World)(e:Ending)(w':World):Prop:=
 ∃ (cv nv av:Value) (K code:Int) (X Y:List Int) (Z:List Bool),e=.returned (.tuple #[.agg #[cv,.int .i64 K,nv,av],.int .i64 code])/\Ab (iH cv) (iH nv) (iH av) w' cv nv av X Y Z/\(∀ j,iH cv j∨iH nv j∨iH av j->w.heap.size<=j/\j<w'.heap.size)/\
   (∀ j,iH cv j->¬ iH nv j/\¬ iH av j)/\(∀ j,iH nv j->¬ iH av j)/\xu l r xs code K X Y Z/\X.length<=1048576/\(Y.length<=1048576/\cB nv)/\Z.length<=1048576/\Below w.heap.size w w'
theorem lu{l r:Bool}{xs:List El}{w w':World}{code:Int}(h:xu l r xs code 0 [] [] [])(hb:Below w.heap.size w w'):zt l r xs w (.returned (.tuple #[.agg #[.slice none 0 0,.int .i64 0,.slice none 0 0,.slice none 0 0],.int .i64 code])) w':=by
 refine⟨_,_,_,0,code,[],[],[],rfl,⟨⟨0,0,⟨none,0,rfl,by simp,by simp⟩,fun k _ h=>by omega⟩,⟨0,0,⟨none,0,rfl,by simp,by simp⟩,fun k _ h=>by omega⟩,⟨0,0,⟨none,0,rfl,by simp,by simp⟩,fun k _ h=>by omega⟩⟩,?_,?_,?_,h,by simp,⟨by simp,cB.mk lR (Nat.zero_le _)⟩,by simp,hb⟩
 ·intro j hj;rcases hj with h|h|h<;>cases h
 ·intro j hj;cases hj
 intro j hj;cases hj
theorem EQ{k:Nat}{o:List (List Nat×Bool)}{ys:List Nat}(hl:ys.length=o.length*k){q c:Nat}(hq:q<o.length)(hc:c<k):ys[q*k+c]?=some (ys[q*k+c]?.getD 0):=by
 rw[List.getElem?_eq_getElem (by rw[hl];exact gk hq hc)];rfl
theorem Er{o:List (List Nat×Bool)}{q:Nat}(hq:q<o.length):(o.map Prod.snd)[q]?=some ((o[q]?.map Prod.snd).getD false):=by
 rw[List.getElem?_map,List.getElem?_eq_getElem hq];rfl
theorem qJ{pst:List Nat×Bool->Nat->List Nat×Bool}{s0:List Nat×Bool}{k:Nat}{cls rep:Nat->Nat}{o:List (List Nat×Bool)}{ys:List Nat}(h:eP pst s0 k cls rep o ys)(hl:ys.length=o.length*k)(ho:o.length<=1024)(hk:k<=256)(gc base:Nat)(nv av:Value)(w:World)(hrow:w.rowIs gc 3 256 (fun x=>.int .i64 (cls x:Nat)))(hn:w.ownsRow base 3 1 nv ys.length (ys.map mN))(ha:w.ownsRow base 4 1 av o.length ((o.map Prod.snd).map mT)) :
  Calls prog 26 #[.agg #[.slice (some ⟨gc,0,none⟩) 256 256,.int .i64 (k:Nat),nv,av]] w fun e w'=>∃ (cv nv av:Value) (K:Int) (X Y:List Int) (Z:List Bool),e=.returned (.agg #[cv,.int .i64 K,nv,av])/\Ab (iH cv) (iH nv) (iH av) w' cv nv av X Y Z/\(∀ j,iH cv j∨iH nv j∨iH av j->w.heap.size<=j/\j<w'.heap.size)/\
   (∀ j,iH cv j->¬ iH nv j/\¬ iH av j)/\(∀ j,iH nv j->¬ iH av j)/\(∃ (kk:Nat) (o2 ys2:List Nat) (m:Nat) (num Fn mg G:Nat->Nat),bP (bg k cls Prod.snd o ys) o2 ys2 m num Fn kk mg G/\K=(kk:Nat)/\X=gW (bP.out (bg k cls Prod.snd o ys) o2 ys2 m num Fn kk mg G)/\Y=gT (bP.out (bg k cls Prod.snd o ys) o2 ys2 m num Fn kk mg G)/\Z=iO (bP.out (bg k cls Prod.snd o ys) o2 ys2 m num Fn kk mg G))/\X.length<=1048576/\(Y.length<=1048576/\cB nv)/\Z.length<=1048576/\Below w.heap.size w w':=by
 have hp:=h.pre hl Prod.snd;have d:=h.bfs.pos;have f:=h.kpos;obtain⟨nb,ncap,rfl,-,n,g,a⟩:=dC hn (by rw[hl];exact Nat.mul_pos d f);obtain⟨ab,acap,rfl,-,p,-,b⟩:=dC ha d;have r:=hrow.lt;rw[hl]at g ⊢;refine(jM (bg k cls Prod.snd o ys) gc 0 256 nb 0 ncap ab 0 acap w hp.wf hp.clUp hp.clAll ho ⟨f,hk⟩ g n (fun q c hq hc=>⟨hp.wf.nxt q c hq hc,?_⟩) r (fun q hq=>?_) p (fun q hq=>?_)).mono ?_
 ·rw[Nat.zero_add];have i:q<o.length:=hq;have l:c<k:=hc;have e1:w.cell? ⟨nb,q*k+c,none⟩=(ys.map mN)[q*k+c]? :=a _ (by rw[hl];exact gk i l);have e2:=EQ hl i l;show w.cell? ⟨nb,q*k+c,none⟩=some (mN (ys[q*k+c]?.getD 0));rw[e1,List.getElem?_map,e2]
  rfl
 ·rw[Nat.zero_add,hrow.cell hq];rfl
 ·rw[Nat.zero_add,b q hq,List.getElem?_map,Er hq]
  rfl
 rintro e w' ⟨xv,nv,av,kk,rfl,hB,o2,ys2,m,num,F,mg,G,hs,hm,s,o1,o2',o3,d1,d2⟩;have t:m*kk<=1024*256:=Nat.mul_le_mul hm s;have e1:=o1.1;have e2:=o2'.1;have e3:=o3.1;rw[List.length_map,Nat.mul_one]at e1 e2 e3;refine⟨xv,nv,av,(kk:Nat),_,_,_,rfl,⟨iQ o1 (by unfold maxLen;omega),iQ o2' (by unfold maxLen;omega),mA o3 (by unfold maxLen;omega)⟩,?_,fun j hj=>d1 j hj,fun j hj=>d2 j hj,⟨kk,o2,ys2,m,num,F,mg,G,hs,rfl,rfl,rfl,rfl⟩,by omega,⟨by omega,qh o2'⟩,by omega,hB⟩;intro j hj;rcases hj with h|h|h
 ·exact o1.lt j h
 ·exact o2'.lt j h
 exact o3.lt j h
theorem ke(l r:Bool)(v:Value)(xs:List El)(w:World)(hv:aA 0 w.heap.size w v xs)(htz:TZ w)(htl:Tryz.laysTZ_ren.g 1<w.heap.size) :
  Calls prog 6 #[.agg #[.bool l,.bool r,v]] w fun e w'=>zt l r xs w e w':=by
 obtain⟨a,cp,rfl,-,-⟩:=id hv;have Hv:=ae hv;have c6:Hi (∀ W,Below w.heap.size w W->TZ W):=fun W hW=>htz.below hW htl
 obtain⟨W0,J⟩ : ∃ W0,W0=(w.alloc (.cells #[.bool l,.bool r,.slice a xs.length cp] 25)).alloc (.cells #[.slice none 0 0,.int .i64 0,.slice none 0 0,.slice none 0 0] 30):=⟨_,rfl⟩;have eq:W0.heap.size=w.heap.size+2:=by rw[J,ah,ah]
 have b9:Below w.heap.size w W0:=by rw[J];exact aI w _ _
 have c7:aC W0 (w.heap.size+1) 30 (.slice none 0 0) (.int .i64 0) (.slice none 0 0) (.slice none 0 0):=by
  have:=aC.new (w.alloc (.cells #[.bool l,.bool r,.slice a xs.length cp] 25)) 30 (.slice none 0 0) (.int .i64 0) (.slice none 0 0) (.slice none 0 0);rw[ah]at this;rw[J];exact this
 have ca:=ae c7;have cb:=ae J;clear hv htz J c7
 go_enter func6,ntmps6
 go_wp2_with fail;rw[<-cb.u];clear cb;refine(nT bV l r _ xs _ (Hv.u.below b9 lR)).mono ?_;rintro e w1 ⟨M,a7⟩;have er:=a7.size;have a8:Hi (Below w.heap.size w w1):=b9.trans (a7.mono (by omega));have a9:=ca.u.below a7 (by omega);have bb:=ae a9;clear a7 b9 ca;rcases M with ⟨U,L,rfl,⟨T,x,rfl⟩,hok,cc,hL,hQ⟩|⟨rfl,ap⟩
 ·clear a9;obtain⟨A,ln,ss,c,aq,e7,e8,ab,cf,ar,ch,ci⟩:=hQ;have ck:=pR l r L;have aw:=nk (gD l r L);rw[ch.ws]at aw;have s:aS (gD l r L)<=512:=by omega
  have e9:=a8.u.size;have bc:=ae (lO aq s w1 (c6.u _ a8.u) (by omega));have B:Hi (nI l r xs (bG (gD l r L)) A.nl (de A false 0) (de A true 0) (eU ln (aS (gD l r L)))):=Or.inl ⟨hok,L,A,ln,ss,cc,hL,ab,rfl,rfl,rfl,rfl,rfl⟩;have ad:Hi ((bG (gD l r L)).length=aS (gD l r L)):=dy _;have bd:=ae ab.sets;have be:=ae ab.lkb;have C:=ae cf;have cr:=ae ar;have cs:=ae hok;obtain⟨N,ct⟩ : ∃ N,N=aS (gD l r L):=⟨_,rfl⟩;obtain⟨S,cw⟩ : ∃ S,S=bG (gD l r L):=⟨_,rfl⟩;rw[<-ct]at bc be C s B ad;rw[<-cw]at B ad bd;clear aq ab cf ch e7 e8 ar ci hok cc hL ck aw ct cw
  go_wp2_with fail;refine bc.u.mono ?_;rintro e w2 ⟨f,l2,rfl,ax,hf,cx,af⟩;obtain⟨sv,gs,fv,fs,c0,cy,bf,bl,bn,b0,b1⟩:=ax.rd;have ea:w1.heap.size<w2.heap.size:=by obtain⟨⟨F,h1,-⟩,-⟩:=bn;exact h1.lt
  have d0:=ae (qu w1.heap.size N sv gs w2 c0 ea cy (fun i hi=>(bl i hi).1) s);have d3:Hi (Below w.heap.size w w2):=a8.u.trans (af.mono e9);have d4:=ae (bb.u.below af (by omega));have eb:=ae bn;have HF:=ae hf;have d5:=ae cx;have d6:=ae b0;have b2:=ae b1;have b3:=ae bl;have es:=af.size;clear ax hf cx af c0 cy bf bl bn b0 b1 bc bb
  go_wp2_with fail;refine d0.u.mono ?_;rintro e w3 ⟨⟨gc,mm,K,hs,hv,ks,H,rfl,t,O,E,hH⟩,P⟩;have et:=P.size;obtain⟨d7,d8,rfl⟩:=aj O;obtain⟨W,hW⟩ : ∃ W,W=w3.alloc (.cells #[.pointer (some ⟨w1.heap.size,0,none⟩),.slice (some ⟨gc,0,none⟩) 256 256,.slice d7 mm d8] 57):=⟨_,rfl⟩;have bo:=DL eb.u P hW t O E hH HF.u.1 d5.u.1 d6.u;have bp:Below w.heap.size w w3:=d3.u.trans (P.mono d3.u.size);have Q:Below w3.heap.size w3 W:=by rw[hW];exact ai w3 _
  have ag:Below w.heap.size w W:=by rw[hW];exact bp.alloc bp.size _
  have ev:w3.heap.size+1<=W.heap.size:=by rw[hW,ah];omega
  have bq:=ae ((d4.u.below P (by omega)).below Q (by omega));obtain⟨rep,n⟩:=E.num1;have d9:mm<=256:=E.le;have db:1<=mm:=(n.zero (by decide)).2.2;have R:∀ x,x<256->∀ i,Bt (H x) i=lF S i x:=fun x hx i=>by
   rw[Bool.eq_iff_iff,(hH x hx).2 i,kg,ad.u]
   constructor
   ·rintro⟨q1,q2⟩;rw[rU (b3.u i q1),bd.u]at q2;exact⟨q1,q2⟩
   rintro⟨q1,q2⟩;refine⟨q1,?_⟩;rw[rU (b3.u i q1),bd.u];exact q2
  have D:∀ x,x<256->∀ i,Bt (hs (K x)) i=lF S i x:=fun x hx i=>by
   rw[<-R x hx i]
   by_cases e:i<512
   ·exact(EY (E.cl x hx).2 i e).symm
   have h1:∀ b:Bool,(b=true->i<N)->b=false:=fun b hb=>by
    cases b
    ·rfl
    have:=hb rfl;omega
   rw[h1 _ (fun q=>bo.inn _ (E.cl x hx).1 i q),h1 _ (fun q=>((hH x hx).2 i).1 q |>.1)]
  have b4:∀ i j,Bt (fs i) j=mD (eU ln N) i j:=fun i j=>by rw[b2.u,qE be.u]
  have b5:∀ i,Bt l2 i=nS (de A true 0) i:=fun i=>by rw[d5.u.2,Bw]
  have b6:ia f N=(de A false 0).map Int.toNat:=by
   rw[Ci,<-Ey HF.u cr.u.1 (fun y hy=>by have:=C.u.1 y hy;omega)];unfold ia;have V:∀ i,Bt f i=true->i<N:=fun i hi=>by rw[HF.u.2,List.contains_iff_mem]at hi;exact C.u.1 i hi
   exact(yJ (by omega) V).symm
  have df:xx N f:=⟨HF.u.1,fun i hi=>by rw[HF.u.2,List.contains_iff_mem]at hi;exact C.u.1 i hi⟩;have br:=ae (wW w3.heap.size w1.heap.size N mm gc (.slice d7 mm d8) fv K hs fs A.nl f l2 W bo (lF S) (mD (eU ln N)) (nS (de A true 0)) rep s d9 db (fun c hc i=>by
   have:=n.fst c hc;rw[<-D (rep c) this.1 i,this.2]) b4 b5 (fun i j h=>by rw[b2.u]at h;exact(ix be.u h).2) df (c6.u _ ag) (by have:=ag.size;omega))
  have a0:∀ b,b<256->∀ x,oe S (de A true 0) (eU ln N) x (rep (K b))=oe S (de A true 0) (eU ln N) x b:=fun b hb x=>by
   unfold oe;refine mG x fun i _=>?_
   have hk:=n.fst (K b) (n.lt b hb);rw[<-D b hb i,<-D _ hk.1 i,hk.2]
  have al:Hi (∀ (o:List ((Nat->Nat)×Bool)) (ys:List Nat),eM mm (fun x e=>bN N (lF S) (mD (eU ln N)) (nS (de A true 0)) x (rep e)) (fK N (f,A.nl)) (o.map (fK N)) ys->eP (oe S (de A true 0) (eU ln N)) (nW (de A false 0) A.nl) mm K rep (o.map (fK N)) ys):=fun o ys hB=>by
   refine⟨n,a0,?_⟩;have e1:nW (de A false 0) A.nl=fK N (f,A.nl):=by unfold nW fK;rw[b6]
   rw[e1];unfold oe;rw[ad.u];exact hB
  have a1:=ae (t.of_block (Q.block _ t.lt));have ec:gc<W.heap.size:=by have:=t.lt;omega
  have bs:=ae ag;have HW:=ae hW;clear bo t O E hH P bp ag hW d0 Q n R D b4 b5 b6 df a0 d4
  go_wp2_with fail;rw[<-HW.u];clear HW;refine br.u.mono ?_;rintro e w4 ⟨G,M⟩;have ex:=G.size;have p:Below w.heap.size w w4:=bs.u.trans (G.mono bs.u.size);have an:=bq.u.below G (by omega);have ey:=bs.u.size;rcases M with ⟨nv,av,o,ys,rfl,a2,bt,ds,bv,bx,ee⟩|⟨o,ys,rfl,a2,b7⟩
  ·obtain⟨na,nc,rfl⟩:=aj bv;obtain⟨aa,ac,rfl⟩:=aj bx;obtain⟨w5,m⟩ : ∃ w5,w5=w4.alloc (.cells #[.slice (some ⟨gc,0,none⟩) 256 256,.int .i64 (mm:Nat),.slice na ys.length nc,.slice aa o.length ac] 30):=⟨_,rfl⟩;have d:Below w4.heap.size w4 w5:=by rw[m];exact ai w4 _
   have e0:aC w5 w4.heap.size 30 (.slice (some ⟨gc,0,none⟩) 256 256) (.int .i64 (mm:Nat)) (.slice na ys.length nc) (.slice aa o.length ac):=by rw[m];exact aC.new w4 _ _ _ _ _
   have I:=an.below d (by omega);have a3:Below w.heap.size w w5:=p.trans (d.mono (by have:=p.size;omega));have f0:=d.size;have bz:=al.u o ys a2;have a4:(o.map (fK N)).length=o.length:=by simp
   have b8:w5.ownsRow W.heap.size 4 1 (.slice aa o.length ac) (o.map (fK N)).length (((o.map (fK N)).map Prod.snd).map mT):=by
    rw[a4,show(o.map (fK N)).map Prod.snd=o.map Prod.snd by rw[List.map_map];rfl];exact aG bx d lR
   have e2:=ae (qJ bz (by rw[a4];exact bt) (by rw[a4];exact ds) d9 gc W.heap.size _ _ w5 (a1.u.of_block ((d.block _ (by omega)).trans (G.block _ ec))) (aG bv d lR) b8);have e3:=ae bz;have e4:=ae a4;have ek:=ae bt;obtain⟨g0,g1,g2,g3,-⟩:=e0.facts;have ao:=ae m;have c1:=ae a3;have c2:=ae I;rw[m]at g0 g1 g2 g3;clear d e0 I a3 m bz a4 b8 a2 bt bv bx ee an p G br al bq a1
   go_wp2_with fail;rw[<-ao.u];clear ao g0 g1 g2 g3;refine e2.u.mono ?_;rintro e w6 ⟨cv,nv6,av6,KK,X,Y,Z,rfl,a5,hT,d1,d2,e5,q1,q2,q3,c3⟩;obtain⟨u1,v1,rfl⟩:=a5.x.val;obtain⟨u2,v2,rfl⟩:=a5.y.val;obtain⟨u3,v3,rfl⟩:=a5.z.val;have c4:=c2.u.below c3 (by omega);obtain⟨x0,x1,x2,x3,z0,z1,z2,z3⟩:=c4.facts;have a6:Hi (xu l r xs 0 KK X Y Z):=Or.inr ⟨cs.u,_,_,_,_,_,B.u,Or.inr ⟨_,_,_,_,_,e3.u,by rw[e4.u];exact ek.u,by rw[e4.u];exact ds,rfl,e5⟩⟩;have el:=ae c4;have em:=ae a5;have HT:=ae hT;have en:=ae d1;have ep:=ae d2;have e6:=ae c3;clear c4 a5 hT d1 d2 c3 e5 e2;go_wp2;refine bodyPost_ret (dv (dr el.u _ _ _ _) rfl _ rfl rfl) rfl ?_;have c5:=eC w6 (w.heap.size+1) (.slice u1 X.length v1) (.int .i64 KK) (.slice u2 Y.length v2) (.slice u3 Z.length v3);have f1:=e6.u.size;have V:∀ j,iH (.slice u1 X.length v1) j∨iH (.slice u2 Y.length v2) j∨iH (.slice u3 Z.length v3) j->j≠w.heap.size+1:=fun j hj=>by have:=(HT.u j hj).1;omega
   refine⟨_,_,_,KK,0,X,Y,Z,rfl,em.u.same (fun k hk=>c5.block k (V k hk)),fun j hj=>⟨by have:=(HT.u j hj).1;omega,by rw[c5.size];exact(HT.u j hj).2⟩,en.u,ep.u,a6.u,q1,q2,q3,(c1.u.trans (e6.u.mono (by omega))).trans (c5.bel (by omega))⟩
  obtain⟨w5,m⟩ : ∃ w5,w5=w4.alloc (.cells #[.slice none 0 0,.int .i64 0,.slice none 0 0,.slice none 0 0] 30):=⟨_,rfl⟩;have d:Below w4.heap.size w4 w5:=by rw[m];exact ai w4 _
  have I:=an.below d (by omega);have a3:Below w.heap.size w w5:=p.trans (d.mono (by have:=p.size;omega));have a6:Hi (xu l r xs 3 0 [] [] []):=Or.inr ⟨cs.u,_,_,_,_,_,B.u,Or.inl ⟨_,_,_,_,_,al.u o ys a2,by rw[List.length_map];exact b7,rfl,rfl,rfl,rfl,rfl⟩⟩;obtain⟨x0,x1,x2,x3,z0,z1,z2,z3⟩:=I.facts;have ao:=ae m;have c1:=ae a3;have c2:=ae I;rw[m]at x0 x1 x2 x3 z0 z1 z2 z3;clear d I a3 m a2 b7 an p G br al bq a1;go_wp2;rw[<-ao.u];refine bodyPost_ret (dv (dr c2.u _ _ _ _) rfl _ rfl rfl) rfl ?_;exact lu a6.u (c1.u.trans ((eC w5 (w.heap.size+1) (.slice none 0 0) (.int .i64 0) (.slice none 0 0) (.slice none 0 0)).bel (by omega)))
 obtain⟨x0,x1,x2,x3,z0,z1,z2,z3⟩:=a9.facts;have a6:Hi (xu l r xs 4 0 [] [] []):=Or.inl ⟨ap,rfl,rfl,rfl,rfl,rfl⟩;clear a9 ap;go_wp2;refine bodyPost_ret (dv (dr bb.u _ _ _ _) rfl _ rfl rfl) rfl ?_;exact lu a6.u (a8.u.trans ((eC w1 (w.heap.size+1) (.slice none 0 0) (.int .i64 0) (.slice none 0 0) (.slice none 0 0)).bel (by omega)))
theorem lQ(cv:Value)(cs:List Int)(w:World)(hv:aK mB 0 0 w.heap.size w cv cs)(hcap:cB cv)(hx:dN (cs.take 600)) :
  Calls prog 4 #[cv] w (FB w (iF (cs.take 600))):=by
 by_cases h:(cs.take 600).headD 0%80=2
 ·exact ot cv cs w hv hcap hx h
 exact ou cv cs w hv hcap hx h
theorem zC{T:Tb}(h:T.Wf):∀ (w:List Nat) (p:Nat),p<T.n->Wd w->(tb (gW T) (gT T) (iO T) (T.k:Int)).run p w=T.run p w/\T.run p w<T.n
 | [],p,hp,_=>⟨rfl,hp⟩
 | b::w,p,hp,hw=>by
  have hb:=hw b (List.mem_cons_self ..);have hc:=h.cls b hb;have e1:(tb (gW T) (gT T) (iO T) (T.k:Int)).stp p b=T.stp p b:=by
   show((gT T)[p*((T.k:Int)).toNat+((gW T)[b]?.getD 0).toNat]?.getD 0).toNat=T.nx p (T.cl b);rw[lX T hb,Int.toNat_natCast,Int.toNat_natCast,pW T hp hc,Int.toNat_natCast]
  obtain⟨k1,k2⟩:=zC h w (T.stp p b) (h.nxt p _ hp hc) (fun x hx=>hw x (List.mem_cons_of_mem _ hx));refine⟨?_,k2⟩;show(tb (gW T) (gT T) (iO T) (T.k:Int)).run ((tb (gW T) (gT T) (iO T) (T.k:Int)).stp p b) w=T.run (T.stp p b) w;rw[e1];exact k1
theorem yj{T:Tb}(hT:bE T){o ys:List Nat}{m:Nat}{num F:Nat->Nat}{k:Nat}{mg G:Nat->Nat}(h:bP (tb (gW T) (gT T) (iO T) (T.k:Int)) o ys m num F k mg G) :
  gW (bP.out (tb (gW T) (gT T) (iO T) (T.k:Int)) o ys m num F k mg G)=gW T/\(k:Nat)=T.k/\gT (bP.out (tb (gW T) (gT T) (iO T) (T.k:Int)) o ys m num F k mg G)=gT T/\iO (bP.out (tb (gW T) (gT T) (iO T) (T.k:Int)) o ys m num F k mg G)=iO T:=
 iy h.canon hT (h.start.trans fun w hw=>by
  obtain⟨k1,k2⟩:=zC hT.wf w 0 hT.wf.pos hw;show(iO T)[(tb (gW T) (gT T) (iO T) (T.k:Int)).run 0 w]?.getD false=_;rw[k1,uG T k2])
section
variable {l r:Bool} {xs:List El} {K:Int} {X Y:List Int} {Z:List Bool}
theorem Bk(h:xu l r xs 0 K X Y Z):IntKind.i64.wrap ((Z.length:Int)*K)=(Y.length:Int)/\(∀ i,i<Y.length->0<=Y[i]?.getD 0/\Y[i]?.getD 0<Z.length)/\Y.length<=262144:=by
 obtain⟨-,T,hT,hn,rfl,rfl,rfl,rfl,-⟩:=gC h;have ht:=kQ hT hn;have h1:=ht.nx;have h2:=ht.st;have h3:=ht.hn;have h4:T.n*T.k<=1024*256:=Nat.mul_le_mul hn (by omega);have h5:(gT T).length=T.n*T.k:=by unfold gT;simp
 exact⟨by rw[<-h1];exact jf (by omega) (by omega),ht.to,by omega⟩
theorem yE(h:xu l r xs 0 K X Y Z)(hz:Z.length<=80)(cl nx ac:Value)(w:World)(h2:aK mI 0 0 w.heap.size w nx Y)(h3:aK mT false 0 w.heap.size w ac Z) :
  Calls prog 7 #[.agg #[cl,.int .i64 K,nx,ac],.int .i64 (Z.length:Nat),.int .i64 K] w fun e w'=>e=.returned (.bool true)/\Below w.heap.size w w':=by
 obtain⟨-,T,hT,hn,rfl,rfl,rfl,rfl,-⟩:=gC h;have ht:=kQ hT hn;have h4:=ht.hn;have h5:(gT T).length=T.n*T.k:=by unfold gT;simp
 have h6:(iO T).length=T.n:=by unfold iO;simp
 have hp:=hT.wf.pos;obtain⟨a2,c2,rfl,-,k2⟩:=h2;obtain⟨a3,c3,rfl,-,k3⟩:=h3;obtain⟨b,off,rfl,-,hb,d⟩:=k2 (by rw[h5];exact Nat.mul_pos hp (by omega));obtain⟨ab,ao,rfl,-,f,a⟩:=k3 (by omega);rw[h6]at hz a;rw[h5]at d;rw[h5,h6];refine wj T T.n T.k cl b off c2 ab ao c3 w rfl rfl hT hz ⟨by omega,by omega⟩ hb f (fun q c hq hc=>⟨hT.wf.nxt q c hq hc,?_⟩) (fun q hq=>?_)
 ·rw[d (q*T.k+c) (cO hq hc),pW T hq hc];rfl
 rw[a q hq,uG T hq];rfl
def Ev(K:Int)(X Y:List Int)(Z:List Bool)(w:World)(e:Ending)(w':World):Prop:=∃ xv nv av:Value,e=.returned (.agg #[xv,.int .i64 K,nv,av])/\aK mI 0 0 w'.heap.size w' xv X/\aK mI 0 0 w'.heap.size w' nv Y/\aK mT false 0 w'.heap.size w' av Z/\Below w.heap.size w w'
theorem DE(h:xu l r xs 0 K X Y Z)(cl nx ac:Value)(w:World)(h1:aK mI 0 0 w.heap.size w cl X)(h2:aK mI 0 0 w.heap.size w nx Y)(h3:aK mT false 0 w.heap.size w ac Z)(hcap:cB nx) :
  Calls prog 9 #[.agg #[cl,.int .i64 K,nx,ac]] w fun e w'=>Ev K X Y Z w e w':=by
 obtain⟨-,T,hT,hn,rfl,rfl,rfl,rfl,-⟩:=gC h;have ht:=kQ hT hn;refine(sQ cl nx ac _ _ _ _ w h1 h2 h3 hcap).mono ?_;rintro e w' ⟨⟨a,-⟩|⟨-,xv,nv,av,k,rfl,o,ys,m,num,F,mg,G,hP,hm,hk,o1,o2,o3,-,-⟩,hB⟩
 ·exact absurd ht a
 obtain⟨e1,e2,e3,e4⟩:=yj hT hP;rw[e1]at o1;rw[e3]at o2;rw[e4]at o3;subst e2;have b:m*T.k<=1024*256:=Nat.mul_le_mul hm hk;exact⟨xv,nv,av,rfl,(iQ o1 (by unfold maxLen;omega)).at (fun j hj=>(o1.lt j hj).2),(iQ o2 (by unfold maxLen;omega)).at (fun j hj=>(o2.lt j hj).2),(mA o3 (by unfold maxLen;omega)).at (fun j hj=>(o3.lt j hj).2),hB⟩
end
theorem nM{s:List Int}:∀ {M:List El},s∈bG M->∃ x∈M,x.kind=1/\x.set=s
 | [],h=>by simp[bG]at h
 | x::r,h=>by
  simp only[bG]at h;rcases List.mem_append.1 h with h|h
  ·by_cases hk:x.kind=1
   ·rw[if_pos hk,List.mem_singleton]at h;exact⟨x,List.mem_cons_self ..,hk,h.symm⟩
   rw[if_neg hk]at h;simp at h
  obtain⟨y,hy,h1,h2⟩:=nM h;exact⟨y,List.mem_cons_of_mem _ hy,h1,h2⟩
theorem fT.sets{M:List El}(h:fT M)(i:Nat):((bG M)[i]?.getD []).length<=1048576:=by
 cases e:(bG M)[i]? with
 | none=>simp
 | some s =>
  show s.length<=1048576;obtain⟨x,hx,hk,hs⟩:=nM (List.mem_of_getElem? e);obtain⟨j,hj⟩:=List.getElem?_of_mem hx;have:=h j (List.getElem?_eq_some_iff.1 hj).1;rw[hj]at this;rcases this with ⟨-,hc,-⟩|⟨hc,-⟩|⟨hc,-⟩
  ·have:=ld hc;rw[<-hs];show x.set.length<=_;exact Nat.le_trans this (by decide)
  ·have a:x.kind=0∨x.kind=2∨x.kind=3:=hc;omega
  have a:x.kind=4:=hc;omega
theorem DK(l r:Bool){xs:List El}(hok:bO xs):∃ (S:List (List Int)) (nl:Bool) (X0:List Nat) (L:List Int) (W:List (List Int)),nI l r xs S nl (iL X0) L W/\W.length=S.length/\S.length<=512/\(∀ x∈X0,x<S.length)/\(∀ i:Nat,i<S.length->(S[i]?.getD []).length<=1048576)/\∀ i,i<S.length->W[i]?.getD []=((List.range S.length).filter (mD W i)).map fun (j:Nat)=>(j:Int):=by
 obtain⟨L0,hx,hn,hl,k,⟨U,a⟩,-⟩:=uR bV hok;have d:∃ U',Dy U' (gD l r L0):=by
  obtain⟨g,hg⟩:=jN dH;unfold gD;cases l<;>cases r
  ·exact⟨_,bV.cat (bV.cat (bV.all hg) a) (bV.all hg)⟩
  ·exact⟨_,bV.cat (bV.all hg) a⟩
  ·exact⟨_,bV.cat a (bV.all hg)⟩
  exact⟨_,a⟩
 have m:=pR l r L0;obtain⟨M,hM⟩ : ∃ M,M=gD l r L0:=⟨_,rfl⟩;rw[<-hM]at d m;obtain⟨U',A,ln,ss,c,-,q,s,e,n,p,o,f⟩:=d;have h:=nk M;rw[o.ws]at h;have hF:de A false 0=iL A.fi:=by unfold de iL;simp
 have b:(bG M).length=aS M:=dy M;refine⟨bG M,A.nl,A.fi,de A true 0,eU ln (aS M),Or.inl ⟨hok,L0,A,ln,ss,k,hl,by rw[<-hM];exact e,by rw[<-hM],rfl,hF.symm,rfl,by rw[<-hM]⟩,?_,?_,?_,fun i _=>f.sets i,?_⟩
 ·rw[b];simp[eU]
 ·rw[b];omega
 ·rw[b];exact n.1
 rw[b];exact fun i hi=>xy e.lkb hi
theorem vB(X0:List Nat)(nl:Bool):nW (iL X0) nl=(X0,nl):=by
 unfold nW iL;simp[Function.comp_def]
theorem oF{pst:List Nat×Bool->Nat->List Nat×Bool}{s0:List Nat×Bool}{k:Nat}{cls rep:Nat->Nat}{o:List (List Nat×Bool)}{ys:List Nat}(h:eP pst s0 k cls rep o ys)(hl:ys.length=o.length*k)(ho:o.length<=1024)(hk:k<=256)(gc base:Nat)(nv av:Value)(w:World)(hrow:w.rowIs gc 3 256 (fun x=>.int .i64 (cls x:Nat)))(hn:w.ownsRow base 3 1 nv ys.length (ys.map mN))(ha:w.ownsRow base 4 1 av o.length ((o.map Prod.snd).map mT)) :
  Calls prog 21 #[.agg #[.slice (some ⟨gc,0,none⟩) 256 256,.int .i64 (k:Nat),nv,av]] w fun e w'=>∃ (cv nv av:Value) (K:Int) (X Y:List Int) (Z:List Bool),e=.returned (.agg #[cv,.int .i64 K,nv,av])/\aK mI 0 0 w'.heap.size w' cv X/\aK mI 0 0 w'.heap.size w' nv Y/\aK mT false 0 w'.heap.size w' av Z/\(∀ j,iH cv j∨iH nv j∨iH av j->w.heap.size<=j)/\
   (∃ (kk:Nat) (P c2 r2:Nat->Nat) (o2 ys2:List Nat),dD (bg k cls Prod.snd o ys) P kk c2 r2 o2 ys2/\K=(kk:Nat)/\X=gW (bg kk c2 (bg k cls Prod.snd o ys).ac o2 ys2)/\Y=gT (bg kk c2 (bg k cls Prod.snd o ys).ac o2 ys2)/\Z=iO (bg kk c2 (bg k cls Prod.snd o ys).ac o2 ys2))/\Below w.heap.size w w':=by
 have hp:=h.pre hl Prod.snd;have d:=h.bfs.pos;have f:=h.kpos;obtain⟨nb,ncap,rfl,-,g,p,a⟩:=dC hn (by rw[hl];exact Nat.mul_pos d f);obtain⟨ab,acap,rfl,-,i,-,b⟩:=dC ha d;have l:=hrow.lt;rw[hl];refine(nH (bg k cls Prod.snd o ys) o.length k gc 0 256 nb 0 ncap ab 0 acap w rfl rfl hp.wf hp.clAll ho ⟨f,hk⟩ g (fun q c hq hc=>⟨hp.wf.nxt q c hq hc,?_⟩) l (fun q hq=>?_) i (fun q hq=>?_)).mono ?_
 ·rw[Nat.zero_add];have e1:w.cell? ⟨nb,q*k+c,none⟩=(ys.map mN)[q*k+c]? :=a _ (by rw[hl];exact gk hq hc);have e2:ys[q*k+c]?=some (ys[q*k+c]?.getD 0):=by rw[List.getElem?_eq_getElem (by rw[hl];exact gk hq hc)];rfl
  show w.cell? ⟨nb,q*k+c,none⟩=some (mN (ys[q*k+c]?.getD 0));rw[e1,List.getElem?_map,e2]
  rfl
 ·rw[Nat.zero_add,hrow.cell hq];rfl
 ·have e2:(o.map Prod.snd)[q]?=some ((o[q]?.map Prod.snd).getD false):=by rw[List.getElem?_map,List.getElem?_eq_getElem hq];rfl
  rw[Nat.zero_add,b q hq,List.getElem?_map,e2]
  rfl
 rintro e w' ⟨xv,nv,av,kk,rfl,hB,P,c2,r2,o2,ys2,hs,m,n,o1,o2',o3⟩;have r:o2.length*kk<=1024*256:=Nat.mul_le_mul m n;refine⟨xv,nv,av,(kk:Nat),_,_,_,rfl,(iQ o1 (by unfold maxLen;omega)).at (fun q hq=>(o1.lt q hq).2),(iQ o2' (by unfold maxLen;omega)).at (fun q hq=>(o2'.lt q hq).2),(mA o3 (by unfold maxLen;omega)).at (fun q hq=>(o3.lt q hq).2),?_,⟨kk,P,c2,r2,o2,ys2,hs,rfl,rfl,rfl,rfl⟩,hB⟩;intro j hj;rcases hj with h|h|h
 ·exact(o1.lt j h).1
 ·exact(o2'.lt j h).1
 exact(o3.lt j h).1
def At(l r:Bool)(xs:List El)(w:World)(e:Ending)(w':World):Prop:=
 ∃ (cv nv av:Value) (K code:Int) (X Y:List Int) (Z:List Bool),e=.returned (.tuple #[.agg #[cv,.int .i64 K,nv,av],.int .i64 code])/\aK mI 0 0 w'.heap.size w' cv X/\aK mI 0 0 w'.heap.size w' nv Y/\aK mT false 0 w'.heap.size w' av Z/\De l r xs code K X Y Z/\Below w.heap.size w w'
theorem lB{l r:Bool}{xs:List El}{w w':World}{code:Int}(h:De l r xs code 0 [] [] [])(hb:Below w.heap.size w w'):At l r xs w (.returned (.tuple #[.agg #[.slice none 0 0,.int .i64 0,.slice none 0 0,.slice none 0 0],.int .i64 code])) w':=
 ⟨_,_,_,0,code,[],[],[],rfl,⟨none,0,rfl,by simp,by simp⟩,⟨none,0,rfl,by simp,by simp⟩,⟨none,0,rfl,by simp,by simp⟩,h,hb⟩
theorem qi{α:Type}{mk:α->Value}{d:α}{b:Nat}{w w':World}{v:Value}{X:List α}(h:aK mk d 0 w.heap.size w v X)(ho:ce b w w')(hb:∀ j,iH v j->j≠b)(hv:∀ a n c,v=.slice a n c->∀ g off,a=some ⟨g,off,none⟩->iH v g):aK mk d 0 w'.heap.size w' v X:=by
 obtain⟨a,c,rfl,hl,hc⟩:=h;refine⟨a,c,rfl,hl,fun hp=>?_⟩;obtain⟨g,off,rfl,h1,h2,h3⟩:=hc hp;refine⟨g,off,rfl,h1,by rw[ho.size];exact h2,fun i hi=>?_⟩;rw[World.cell?_of_block (a:=⟨g,off+i,none⟩) (ho.block g (hb g (hv _ _ _ rfl g off rfl)))];exact h3 i hi
theorem km(l r:Bool)(v:Value)(xs:List El)(w:World)(hv:aA 0 w.heap.size w v xs) :
  Calls prog 5 #[.agg #[.bool l,.bool r,v]] w fun e w'=>At l r xs w e w':=by
 obtain⟨a,cp,rfl,-,-⟩:=id hv;have Hv:=ae hv;obtain⟨W0,p⟩ : ∃ W0,W0=(w.alloc (.cells #[.bool l,.bool r,.slice a xs.length cp] 25)).alloc (.cells #[.slice none 0 0,.int .i64 0,.slice none 0 0,.slice none 0 0] 30):=⟨_,rfl⟩;have b3:W0.heap.size=w.heap.size+2:=by rw[p,ah,ah]
 have M:Below w.heap.size w W0:=by rw[p];exact aI w _ _
 have a0:jF W0 w.heap.size 25 (.bool l) (.bool r) (.slice a xs.length cp):=by
  rw[p];exact(jF.new w 25 (.bool l) (.bool r) (.slice a xs.length cp)).below (ai _ _) (by rw[ah];omega)
 have a1:aC W0 (w.heap.size+1) 30 (.slice none 0 0) (.int .i64 0) (.slice none 0 0) (.slice none 0 0):=by
  have:=aC.new (w.alloc (.cells #[.bool l,.bool r,.slice a xs.length cp] 25)) 30 (.slice none 0 0) (.int .i64 0) (.slice none 0 0) (.slice none 0 0);rw[ah]at this;rw[p];exact this
 have a2:=ae a1;have a3:=ae a0;have a4:=ae p;clear hv p a1 a0
 go_enter func5,ntmps5
 go_wp2_with fail;rw[<-a4.u];clear a4;refine(jo l r _ xs _ (Hv.u.below M lR)).mono ?_;rintro e w1 ⟨t,x⟩;have b4:=x.size;have y:Hi (Below w.heap.size w w1):=M.trans (x.mono (by omega));have E:=a2.u.below x (by omega);obtain⟨k0,k1,k2⟩:=(a3.u.below x (by omega)).facts;have a5:=ae E;clear x M a2 a3;rcases t.cases with ⟨rfl,hok⟩|⟨rfl,I⟩
 ·clear E;obtain⟨S,nl,X0,L,W,z,a6,a7,a8,a9,ab⟩:=DK l r hok;have N:=ae (nR l r _ xs w1 (Hv.u.below y.u lR) S W nl X0 L S.length (lF S) (mD W) (nS L) (fun S' b' F' L' W' h=>by
   obtain⟨rfl,rfl,rfl,rfl,rfl⟩:=z.one h;exact⟨rfl,rfl,rfl,rfl,rfl⟩) rfl a6 a7 a8 a9 (fun b _ i hi=>BI hi) ab (fun i _=>by unfold nS;rw[List.contains_iff_mem]) (fun i b hi=>zH hi))
  have J:=ae z;have ad:=ae hok;clear z hok a6 a7 a8 a9 ab
  go_wp2_with fail;refine N.u.mono ?_;rintro e w2 ⟨A,t⟩;have b5:=A.size;have m:Below w.heap.size w w2:=y.u.trans (A.mono y.u.size);have F:=a5.u.below A (by omega);have b6:=y.u.size;rcases t with ⟨cb,k,nv,av,cls,rep,o,ys,rfl,q,O,af,hk,B,P,Q⟩|⟨k,cls,rep,o,ys,rfl,q,K⟩
  ·obtain⟨na,nc,rfl⟩:=aj P;obtain⟨aa,ac,rfl⟩:=aj Q;obtain⟨w5,f⟩ : ∃ w5,w5=w2.alloc (.cells #[.slice (some ⟨cb,0,none⟩) 256 256,.int .i64 (k:Nat),.slice na ys.length nc,.slice aa o.length ac] 30):=⟨_,rfl⟩;have d:Below w2.heap.size w2 w5:=by rw[f];exact ai w2 _
   have ag:aC w5 w2.heap.size 30 (.slice (some ⟨cb,0,none⟩) 256 256) (.int .i64 (k:Nat)) (.slice na ys.length nc) (.slice aa o.length ac):=by rw[f];exact aC.new w2 _ _ _ _ _
   have s:=F.below d (by omega);have C:Below w.heap.size w w5:=m.trans (d.mono (by have:=m.size;omega));have b7:=d.size;have al:=ae (oF q O af hk cb w1.heap.size _ _ w5 (B.of_block (d.block _ B.lt)) (aG P d lR) (aG Q d lR));have an:Hi (eP (oe S L W) (nW (iL X0) nl) k cls rep o ys):=by rw[vB];exact q
   have aq:=ae O;obtain⟨g0,g1,g2,g3,-⟩:=ag.facts;have G:=ae f;have R:=ae C;have T:=ae s;rw[f]at g0 g1 g2 g3;clear d ag s C f q O P Q F m A B N k0 k1 k2
   go_wp2_with fail;rw[<-G.u];clear G g0 g1 g2 g3;refine al.u.mono ?_;rintro e w6 ⟨cv,nv6,av6,KK,X,Y,Z,rfl,s1,s2,s3,ao,ap,U⟩;obtain⟨u1,v1,rfl,-,-⟩:=id s1;obtain⟨u2,v2,rfl,-,-⟩:=id s2;obtain⟨u3,v3,rfl,-,-⟩:=id s3;have V:=T.u.below U (by omega);obtain⟨x0,x1,x2,x3,z0,z1,z2,z3⟩:=V.facts;have D:Hi (De l r xs 0 KK X Y Z):=Or.inr ⟨ad.u,_,_,_,_,_,J.u,Or.inr ⟨_,_,_,_,_,an.u,aq.u,af,rfl,ap⟩⟩;have ar:=ae V;have aw:=ae s1;have ax:=ae s2;have b0:=ae s3;have b1:=ae ao;have b2:=ae U;clear V s1 s2 s3 ao U ap al;go_wp2;refine bodyPost_ret (dv (dr ar.u _ _ _ _) rfl _ rfl rfl) rfl ?_;have H:=eC w6 (w.heap.size+1) (.slice u1 X.length v1) (.int .i64 KK) (.slice u2 Y.length v2) (.slice u3 Z.length v3);have hne:∀ j,iH (.slice u1 X.length v1) j∨iH (.slice u2 Y.length v2) j∨iH (.slice u3 Z.length v3) j->j≠w.heap.size+1:=fun j hj=>by have:=b1.u j hj;omega
   refine⟨_,_,_,KK,0,X,Y,Z,rfl,qi aw.u H (fun j hj=>hne j (.inl hj)) ?_,qi ax.u H (fun j hj=>hne j (.inr (.inl hj))) ?_,qi b0.u H (fun j hj=>hne j (.inr (.inr hj))) ?_,D.u,(R.u.trans (b2.u.mono (by omega))).trans (H.bel (by omega))⟩
   all_goals
    intro a n c e g off e2;cases e;subst e2
    rfl
  obtain⟨w5,f⟩ : ∃ w5,w5=w2.alloc (.cells #[.slice none 0 0,.int .i64 0,.slice none 0 0,.slice none 0 0] 30):=⟨_,rfl⟩;have d:Below w2.heap.size w2 w5:=by rw[f];exact ai w2 _
  have s:=F.below d (by omega);have C:Below w.heap.size w w5:=m.trans (d.mono (by have:=m.size;omega));have D:Hi (De l r xs 3 0 [] [] []):=Or.inr ⟨ad.u,_,_,_,_,_,J.u,Or.inl ⟨_,_,_,_,_,by rw[vB];exact q,K,rfl,rfl,rfl,rfl,rfl⟩⟩;obtain⟨x0,x1,x2,x3,z0,z1,z2,z3⟩:=s.facts;have G:=ae f;have R:=ae C;have T:=ae s;rw[f]at x0 x1 x2 x3 z0 z1 z2 z3;clear d s C f q K F m A N k0 k1 k2;go_wp2;rw[<-G.u];refine bodyPost_ret (dv (dr T.u _ _ _ _) rfl _ rfl rfl) rfl ?_;exact lB D.u (R.u.trans ((eC w5 (w.heap.size+1) (.slice none 0 0) (.int .i64 0) (.slice none 0 0) (.slice none 0 0)).bel (by omega)))
 obtain⟨x0,x1,x2,x3,z0,z1,z2,z3⟩:=E.facts;have D:Hi (De l r xs 4 0 [] [] []):=Or.inl ⟨I,rfl,rfl,rfl,rfl,rfl⟩;clear E I;go_wp2;refine bodyPost_ret (dv (dr a5.u _ _ _ _) rfl _ rfl rfl) rfl ?_;exact lB D.u (y.u.trans ((eC w1 (w.heap.size+1) (.slice none 0 0) (.int .i64 0) (.slice none 0 0) (.slice none 0 0)).bel (by omega)))
theorem aA.form{lo n:Nat}{w:World}{v:Value}{xs:List El}(h:aA lo n w v xs):∃ a c,v=.slice a xs.length c:=by
 obtain⟨a,c,e,-⟩:=h;exact⟨a,c,e⟩
theorem zj{cs:List Int}(h:sy cs):dN (cs.take 600):=fun x hx=>by
 have a:=List.mem_of_mem_take hx;obtain⟨i,hi,e⟩:=List.getElem_of_mem a;have:=h i;rw[List.getElem?_eq_getElem hi,Option.getD_some,e]at this;exact this
theorem lI(cv:Value)(cs:List Int)(w:World)(hv:aK mB 0 0 w.heap.size w cv cs)(hcap:cB cv)(hb:sy cs)(htz:TZ w)(hlt:Tryz.laysTZ_ren.g 1<w.heap.size) :
  Calls prog 3 #[cv] w fun e w'=>e=.returned (.bool true)/\Below w.heap.size w w':=by
 have HV:=ae hv;have ar:=ae hcap;have HX:=ae (zj hb);have K:Hi (∀ W,Below w.heap.size w W->TZ W/\Tryz.laysTZ_ren.g 1<W.heap.size):=fun W hW=>⟨htz.below hW hlt,by have:=hW.size;omega⟩
 obtain⟨ca,cc,rfl,-⟩:=hv;clear hcap hb htz hlt
 by_cases hlen:(1048576:Int)<(cs.length:Int)
 ·go_enter func3,ntmps3
  go_wp2;go_ret;exact⟨rfl,Below.refl _ _⟩
 have b0:=ae (AA (cs.take 600));obtain⟨l,r,X,hR⟩ : ∃ (l r:Bool) (X:List El),iF (cs.take 600)=((l,r),X):=⟨_,_,_,rfl⟩;rw[hR]at b0;have b1:Hi (∀ W,Below w.heap.size w W->Calls prog 4 #[.slice ca cs.length cc] W (FB W ((l,r),X))):=fun W hW=>by
  rw[<-hR];exact lQ _ cs W (HV.u.cut hW lR) ar.u HX.u
 clear hR HV ar HX
 go_enter func3,ntmps3
 go_wp2_with fail;refine(b1.u w (Below.refl _ _)).mono ?_;rintro e w1 ⟨⟨v1,rfl,U⟩,ab⟩;have ad:Hi (aA 0 w1.heap.size w1 v1 X):=U.mono (lo':=0) (Nat.zero_le _) lR;obtain⟨a1,c1,rfl⟩:=ad.u.form;have c4:=ab.size;have b2:=ae ab;have HP:=ae (jF.new w1 25 (.bool l) (.bool r) (.slice a1 X.length c1));have af:=ae (ai w1 (.cells #[.bool l,.bool r,.slice a1 X.length c1] 25));have c5:(w1.alloc (.cells #[.bool l,.bool r,.slice a1 X.length c1] 25)).heap.size=w1.heap.size+1:=ah _ _;clear U ab
 go_wp2_with fail;generalize w1.alloc (.cells #[.bool l,.bool r,.slice a1 X.length c1] 25)=W1 at *;have ag:=ae (ad.u.below af.u lR);have b3:w1.heap.size<W1.heap.size:=by omega
 clear c5;refine(km l r _ X W1 ag.u).mono ?_;rintro e w2 ⟨cw,nw,aw,K1,code,X1,Y1,Z1,rfl,s1,s2,s3,b4,z⟩;obtain⟨p1,d1,rfl,-,-⟩:=id s1;obtain⟨p2,d2,rfl,-,-⟩:=id s2;obtain⟨p3,d3,rfl,-,-⟩:=id s3;have df:=z.size;have A:=ae (b2.u.trans ((af.u.mono c4).trans (z.mono (by omega))));have b5:=ae (HP.u.below z b3);have b6:=ae (ag.u.below z lR);have b7:=ae b4;have b8:=ae (aC.new w2 30 (.slice p1 X1.length d1) (.int .i64 K1) (.slice p2 Y1.length d2) (.slice p3 Z1.length d3));have B:=ae (ai w2 (.cells #[.slice p1 X1.length d1,.int .i64 K1,.slice p2 Y1.length d2,.slice p3 Z1.length d3] 30));have c6:(w2.alloc (.cells #[.slice p1 X1.length d1,.int .i64 K1,.slice p2 Y1.length d2,.slice p3 Z1.length d3] 30)).heap.size=w2.heap.size+1:=ah _ _;clear z b4 s1 s2 s3
 by_cases h0:code=0
 ·subst h0
  go_wp2_with fail;generalize w2.alloc (.cells #[.slice p1 X1.length d1,.int .i64 K1,.slice p2 Y1.length d2,.slice p3 Z1.length d3] 30)=W2 at *;have d8:w2.heap.size<W2.heap.size:=by omega
  clear c6;have q:=ae (A.u.trans (B.u.mono A.u.size));have V:=ae (b5.u.below B.u (by omega));have Y:=ae (b6.u.below B.u lR);refine(b1.u W2 q.u).mono ?_;rintro e w3 ⟨⟨v3,rfl,Z⟩,s⟩;have al:Hi (aA 0 w3.heap.size w3 v3 X):=Z.mono (lo':=0) (Nat.zero_le _) lR;obtain⟨a3,c3,rfl⟩:=al.u.form;have ds:=s.size;have C:=ae (q.u.trans (s.mono q.u.size));have b9:=ae (V.u.below s (by omega));have a0:=ae (Y.u.below s lR);have a2:=ae (b8.u.below s (by omega));clear Z s
  go_wp2_with fail;refine(ke l r _ X w3 al.u (K.u w3 C.u).1 (K.u w3 C.u).2).mono ?_;rintro e w4 ⟨cx,nx,ax,K2,code2,X2,Y2,Z2,rfl,⟨t1,t2,t3⟩,j,-,-,D,-,⟨-,bb⟩,-,t⟩;obtain⟨e1,e2,e3,e4,e5⟩:=b7.u.one D;subst e1 e2 e3 e4 e5;have s1:=t1.at (N:=w4.heap.size) (fun k hk=>(j k (Or.inl hk)).2);have s2:=t2.at (N:=w4.heap.size) (fun k hk=>(j k (Or.inr (Or.inl hk))).2);have s3:=t3.at (N:=w4.heap.size) (fun k hk=>(j k (Or.inr (Or.inr hk))).2);have T1:=ae s1;have T2:=ae s2;have T3:=ae s3;have c7:=ae bb;obtain⟨q1,e1,rfl,-,-⟩:=id s1;obtain⟨q2,e2,rfl,-,-⟩:=id s2;obtain⟨q3,e3,rfl,-,-⟩:=id s3;have E:=ae D;have e0:=t.size;have bc:=ae (C.u.trans (t.mono C.u.size));have bd:=ae (b9.u.below t (by omega));have be:=ae (a0.u.below t lR);have a4:=ae (a2.u.below t (by omega));have an:=ae (aC.new w4 30 (.slice q1 X1.length e1) (.int .i64 K1) (.slice q2 Y1.length e2) (.slice q3 Z1.length e3));have ao:=ae (ai w4 (.cells #[.slice q1 X1.length e1,.int .i64 K1,.slice q2 Y1.length e2,.slice q3 Z1.length e3] 30));have cb:(w4.alloc (.cells #[.slice q1 X1.length e1,.int .i64 K1,.slice q2 Y1.length e2,.slice q3 Z1.length e3] 30)).heap.size=w4.heap.size+1:=ah _ _;clear t D t1 t2 t3 s1 s2 s3 j bb
  go_upto_region 10 with fail
  generalize w4.alloc (.cells #[.slice q1 X1.length e1,.int .i64 K1,.slice q2 Y1.length e2,.slice q3 Z1.length e3] 30)=W4 at *;have a5:w4.heap.size<W4.heap.size:=by omega
  clear cb;have cf:=bc.u.size;have d:Hi (∀ W,Below W4.heap.size W4 W->(jF W w1.heap.size 25 (.bool l) (.bool r) (.slice a1 X.length c1)/\aA 0 W.heap.size W (.slice a1 X.length c1) X)/\aC W w4.heap.size 30 (.slice q1 X1.length e1) (.int .i64 K1) (.slice q2 Y1.length e2) (.slice q3 Z1.length e3)/\(aK mI 0 0 W.heap.size W (.slice q1 X1.length e1) X1/\aK mI 0 0 W.heap.size W (.slice q2 Y1.length e2) Y1/\aK mT false 0 W.heap.size W (.slice q3 Z1.length e3) Z1)/\Below w.heap.size w W):=fun W hW=>by
   have hB:=ao.u.trans (hW.mono (by omega));exact⟨⟨bd.u.below hB (by omega),be.u.below hB lR⟩,an.u.below hW a5,⟨T1.u.below hB lR,T2.u.below hB lR,T3.u.below hB lR⟩,bc.u.trans (hB.mono cf)⟩
  obtain⟨g0,g1,g2,g3,-⟩:=(a4.u.below ao.u (by omega)).facts;obtain⟨f0,f1,f2,f3,-⟩:=an.u.facts;obtain⟨n1,n2,n3⟩:=Bk E.u;have bf:=ae n2;have HY:Hi (∀ i,i<Y1.length->∃ b off,q2=some ⟨b,off,none⟩/\W4.cell? ⟨b,off+i,none⟩=some (.int .i64 (Y1[i]?.getD 0))):=fun i hi=>by
   obtain⟨-,-,⟨-,k2,-⟩,-⟩:=d.u W4 (Below.refl _ _);obtain⟨a,c,e,-,k⟩:=k2;cases e;obtain⟨b,off,rfl,-,-,hc⟩:=k (by omega);exact⟨b,off,rfl,hc i hi⟩
  clear n2;clear HP b5 b9 V ad b6 al ag Y a0 b8 a2 a4 b2 A C af B q T1 T2 T3 bd be an b7
  go_wp2_with fail
  go_loopw [10] (fun iv wr=>(∃ i:Nat,i<=Y1.length/\iv=.int .i64 (i:Nat))/\wr=W4) (fun iv _=>Y1.length-(intOf iv).toNat)
  case atStart=>exact⟨⟨0,Nat.zero_le _,rfl⟩,rfl⟩
  obtain⟨⟨i,hi,rfl⟩,rfl⟩:=hrel
  by_cases hlt:i<Y1.length
  ·have bl:(i:Int)<(Y1.length:Int):=by omega
   obtain⟨b,off,rfl,y0⟩:=HY.u i hlt;obtain⟨y1,y2⟩:=bf.u i hlt;generalize Y1[i]?.getD 0=y at *;have y3:¬ y<0:=by omega
   have y4:¬ (Z1.length:Int)<=y:=by omega
   go_wp2
   go_roundw
   case rel=>exact⟨⟨i+1,by omega,by go_num⟩,by first|rfl|trivial⟩
   simp[intOf];omega
  obtain rfl:i=Y1.length:=by omega
  have bl:¬ (Y1.length:Int)<(Y1.length:Int):=by omega
  clear HY bf;obtain⟨W5,L⟩ : ∃ W5,W5=wr:=⟨_,rfl⟩;rw[<-L]at d ao a5 f0 f1 f2 f3 g0 g1 g2 g3;rw[<-L];have e6:=ae L;clear L
  go_upto_region 19 with fail
  go_cut [92] (fun v wx=>v=.bool false/\Below W5.heap.size W5 wx)
  case first =>
   by_cases hn:(Z1.length:Int)<=80
   ·obtain⟨-,-,⟨k1,k2,k3⟩,-⟩:=d.u W5 (Below.refl _ _);have HC:=ae (yE E.u (by omega) (.slice q1 X1.length e1) _ _ W5 k2 k3);clear k1 k2 k3
    go_wp2_with fail;refine HC.u.mono ?_;rintro e w6 ⟨rfl,m⟩
    go_wp2_with fail;go_meet;exact⟨rfl,m⟩
   go_wp2_with fail;go_meet;exact⟨rfl,Below.refl _ _⟩
  obtain⟨rfl,m⟩:=hcut;obtain⟨V6,M⟩ : ∃ V6,V6=wc:=⟨_,rfl⟩;rw[<-M]at m;rw[<-M];have e7:=ae M;clear M f0 f1 f2 f3 g0 g1 g2 g3;have e8:=m.size;have bn:Hi (∀ W,Below V6.heap.size V6 W->Below W5.heap.size W5 W):=fun W hW=>m.trans (hW.mono (by omega))
  obtain⟨-,a6,⟨k1,k2,k3⟩,-⟩:=d.u V6 m;obtain⟨f0,f1,f2,f3,-⟩:=a6.facts;have a7:=ae (DE E.u (.slice q1 X1.length e1) (.slice q2 Y1.length e2) (.slice q3 Z1.length e3) V6.drew k1 k2 k3 c7.u);have bo:Hi (∀ W,Below V6.drew.heap.size V6.drew W->Below V6.heap.size V6 W):=fun W h=>⟨h.os,h.tape,h.output,h.size,h.block⟩
  clear a6 k1 k2 k3 m
  go_upto_region 21 with fail
  go_cut [97] (fun v wx=>v=.bool false/\Below V6.heap.size V6 wx)
  case first =>
   go_region_with (first
    | ((with_reducible refine a7.u.mono ?_)
       rintro e w7 ⟨xv,nv,av,rfl,m1,m2,m3,o⟩;have ap:=ae (bo.u w7 o);have O:=ae (d.u w7 (bn.u w7 ap.u));obtain⟨x0,x1,x2,x3,-⟩:=O.u.2.1.facts;have ch:=ae (jX xv nv av (.slice q1 X1.length e1) (.slice q2 Y1.length e2) (.slice q3 Z1.length e3) X1 Y1 Z1 K1 w7 m1 m2 m3 O.u.2.2.1.1 O.u.2.2.1.2.1 O.u.2.2.1.2.2);clear m1 m2 m3 o)
    | ((with_reducible refine ch.u.mono ?_)
       rintro e w8 ⟨rfl,x⟩;have ci:=ae (ap.u.trans (x.mono ap.u.size));clear x))
   all_goals
    go_wp2_with fail;go_meet;exact⟨rfl,ci.u⟩
  obtain⟨rfl,o⟩:=hcut;obtain⟨V7,P⟩ : ∃ V7,V7=wc:=⟨_,rfl⟩;rw[<-P]at o;rw[<-P];have e9:=ae P;clear P f0 f1 f2 f3 a7 bo;have ea:=o.size;have bp:Hi (∀ W,Below V7.heap.size V7 W->Below W5.heap.size W5 W):=fun W hW=>bn.u W (o.trans (hW.mono (by omega)))
  obtain⟨⟨F,bq⟩,-,-,-⟩:=d.u V7 (bp.u V7 (Below.refl _ _));obtain⟨u0,u1,u2⟩:=F.facts;have Q:=(gC E.u).1;have br:=ae (tD _ X V7 bq Q (b0.u Q));obtain⟨R9,T9,-,bs,-⟩:=pk (n:=0) (hs:=fun _ _=>True) Q;have bt:=ae bs;clear o F bq Q bs
  go_wp2_with fail;refine br.u.mono ?_;rintro e w8 ⟨tv,T,rfl,a8,G,x⟩;obtain rfl:T=T9:=by
   have:=a8.symm.trans (bt.u [])
   simpa using this
  obtain⟨ta,tc,rfl⟩:=G.form;have eb:=x.size;have ck:=ae G;have bv:Hi (∀ W,Below w8.heap.size w8 W->Below W5.heap.size W5 W):=fun W hW=>bp.u W (x.trans (hW.mono (by omega)))
  obtain⟨⟨F,-⟩,-,-,-⟩:=d.u w8 (bv.u w8 (Below.refl _ _));obtain⟨u0,u1,u2⟩:=F.facts;have cl:=ae (jF.new w8 25 (.bool l) (.bool r) (.slice ta T.length tc));have bx:=ae (ai w8 (.cells #[.bool l,.bool r,.slice ta T.length tc] 25));have cp:(w8.alloc (.cells #[.bool l,.bool r,.slice ta T.length tc] 25)).heap.size=w8.heap.size+1:=ah _ _;clear a8 G x F br
  go_wp2_with fail;generalize w8.alloc (.cells #[.bool l,.bool r,.slice ta T.length tc] 25)=W8 at *;have bz:w8.heap.size<W8.heap.size:=by omega
  clear cp u0 u1 u2;have a9:=ae (ck.u.below bx.u lR);refine(km l r _ T W8 a9.u).mono ?_;rintro e w9 ⟨cw',nw',aw',K9,code9,X9,Y9,Z9,rfl,s1,s2,s3,aa,H⟩;obtain⟨o1,h1,rfl,-,-⟩:=id s1;obtain⟨o2,h2,rfl,-,-⟩:=id s2;obtain⟨o3,h3,rfl,-,-⟩:=id s3;have ec:=H.size;have cr:=ae (cl.u.below H bz);have ct:=ae (a9.u.below H lR);have aq:Hi (∀ W,Below w9.heap.size w9 W->Below W5.heap.size W5 W):=fun W hW=>bv.u W (bx.u.trans ((H.trans (hW.mono (by omega))).mono (by omega)))
  have c0:=ae aa;have I:=ae (ai w9 (.cells #[.slice o1 X9.length h1,.int .i64 K9,.slice o2 Y9.length h2,.slice o3 Z9.length h3] 30));have cy:(w9.alloc (.cells #[.slice o1 X9.length h1,.int .i64 K9,.slice o2 Y9.length h2,.slice o3 Z9.length h3] 30)).heap.size=w9.heap.size+1:=ah _ _;clear H aa s1 s2 s3
  by_cases h9:code9=0
  ·subst h9;have d0:=ae (cr.u.below I.u (by omega));obtain⟨u0,u1,u2⟩:=d0.u.facts
   go_wp2_with fail;generalize w9.alloc (.cells #[.slice o1 X9.length h1,.int .i64 K9,.slice o2 Y9.length h2,.slice o3 Z9.length h3] 30)=W9 at *;have d9:w9.heap.size<W9.heap.size:=by omega
   clear cy;have R:=ae (d.u W9 (aq.u W9 I.u)).2.2.2;have d4:=ae (ct.u.below I.u lR);refine(ke l r _ T W9 d4.u (K.u W9 R.u).1 (K.u W9 R.u).2).mono ?_;rintro e w10 ⟨cx',nx',ax',K10,code10,X10,Y10,Z10,rfl,⟨t1,t2,t3⟩,j,-,-,p,-,-,-,J⟩;obtain⟨e1',-,-,-,-⟩:=c0.u.one p;subst e1';obtain⟨rfl,rfl,rfl,rfl⟩:=zR bt.u E.u p;have s1:=t1.at (N:=w10.heap.size) (fun k hk=>(j k (Or.inl hk)).2);have s2:=t2.at (N:=w10.heap.size) (fun k hk=>(j k (Or.inr (Or.inl hk))).2);have s3:=t3.at (N:=w10.heap.size) (fun k hk=>(j k (Or.inr (Or.inr hk))).2);have T1:=ae s1;have T2:=ae s2;have T3:=ae s3;obtain⟨y1,z1,rfl,-,-⟩:=id s1;obtain⟨y2,z2,rfl,-,-⟩:=id s2;obtain⟨y3,z3,rfl,-,-⟩:=id s3;have db:=J.size;have S:=ae (ai w10 (.cells #[.slice y1 X1.length z1,.int .i64 K1,.slice y2 Y1.length z2,.slice y3 Z1.length z3] 30));have f:=ae (d.u (w10.alloc (.cells #[.slice y1 X1.length z1,.int .i64 K1,.slice y2 Y1.length z2,.slice y3 Z1.length z3] 30)) (aq.u _ (I.u.trans ((J.trans (S.u.mono (by omega))).mono (by omega)))));have d5:=ae (T1.u.below S.u lR);have d6:=ae (T2.u.below S.u lR);have d7:=ae (T3.u.below S.u lR);have HZ:=ae (aC.new w10 30 (.slice y1 X1.length z1) (.int .i64 K1) (.slice y2 Y1.length z2) (.slice y3 Z1.length z3));obtain⟨f0,f1,f2,f3,-⟩:=f.u.2.1.facts;obtain⟨g0,g1,g2,g3,-⟩:=HZ.u.facts;clear t1 t2 t3 s1 s2 s3 j p J u0 u1 u2
   go_wp2_with fail;refine(jX _ _ _ _ _ _ X1 Y1 Z1 K1 _ f.u.2.2.1.1 f.u.2.2.1.2.1 f.u.2.2.1.2.2 d5.u d6.u d7.u).mono ?_;rintro e w11 ⟨rfl,c2⟩;go_wp2;go_ret;exact⟨rfl,f.u.2.2.2.trans (c2.mono f.u.2.2.2.size)⟩
  have ee:(code9==0)=false:=beq_eq_false_iff_ne.2 h9;have R:=ae (d.u _ (aq.u _ I.u)).2.2.2;go_wp2;go_ret;exact⟨rfl,R.u⟩
 have ek:(code==0)=false:=beq_eq_false_iff_ne.2 h0;go_wp2;go_ret;exact⟨rfl,A.u.trans (B.u.mono A.u.size)⟩
open Go.ChangeShapes Go.WideShapes Go.ChangeAt Go.RowKit Go.Proofs.Tryz
theorem Fc:prog.globalNamed "math/bits.deBruijn64tab" = some 0:=by kernel_rfl
theorem yy:(prog.globals[0]?).map (·.type)=some 183:=by kernel_rfl
theorem xQ:prog.cellsOf 183=64:=by kernel_rfl
theorem Be:prog.cellsOf 5=1:=by kernel_rfl
theorem xA:prog.underlying 183=some (.array 64 5):=by kernel_rfl
theorem wJ:prog.underlying 5=some (.int .u8):=by kernel_rfl
theorem BO:Rows.fnSmallestRow.laid.filter (fun x=>x.1 == "math/bits.deBruijn64tab")=[("math/bits.deBruijn64tab",Lib.tabData .u8 (Lib.deBruijn64tab.map Int.ofNat))]:=by kernel_rfl
theorem CE{W:World}(h:laidMetH prog Rows.fnSmallestRow.laid W):Lib.TabIs prog W "math/bits.deBruijn64tab" .u8 (Lib.deBruijn64tab.map Int.ofNat):=by
 have h2:=laidMetH.filter (fun x=>x.1 == "math/bits.deBruijn64tab") h
 rw[BO]at h2;exact Lib.tabIs_of_head (rest:=[]) Fc yy xA wJ Be xQ h2
theorem CI:Tryz.laysTZ_ren.g 1=0:=by kernel_rfl
theorem Cx{W:World}(h:Lib.TabIs prog W "math/bits.deBruijn64tab" .u8 (Lib.deBruijn64tab.map Int.ofNat)):TZ W/\Tryz.laysTZ_ren.g 1<W.heap.size:=by
 unfold Lib.TabIs World.var? at h;rw[Fc]at h;simp only[Option.bind_some]at h;have hlt:0<W.heap.size:=by
  rcases Nat.lt_or_ge 0 W.heap.size with h' | h'
  ·exact h'
  rw[Array.getElem?_eq_none h']at h;simp at h
 refine⟨fun j hj=>?_,by rw[CI];exact hlt⟩;rw[CI];cases hg:W.heap[0]? with
 | none=>rw[hg]at h;cases h
 | some o =>
  rw[hg]at h;cases o with
  | cells cs t fr =>
   have e:cs=((Lib.deBruijn64tab.map Int.ofNat).map fun z=>Value.int .u8 z).toArray:=Option.some.inj h;rw[cell_of_row W 0 j cs t fr hg,e];simp[hj]
  | _=>cases h
def kO:DataW Unit->Array Value
 | .agg ps=>(ps.map fun | .lit (.int k z)=>Value.int k z|_=>undef).toArray
 | _=>#[]
def zf(cs:Array Value):Obj->Obj
 | .cells _ t frozen=>.cells cs t frozen
 | o=>o
theorem yb(os:Os):laidMet prog Rows.fnSmallestRow.laid (({ World.holding prog os ⟨#[],#[],[]⟩ with heap:=(World.holding prog os ⟨#[],#[],[]⟩).heap.modify 0 (zf (kO Rows.laid_math_bits_deBruijn64tab)) }:World).forCall (fun _ _=>0) ⟨#[],#[.slice none 0 0],[]⟩).memory:=
 laidMet_of_run' 8 (by kernel_rfl) (by kernel_rfl)
theorem reads(os:Os){H:Type}(enc:TypeId×Value->H):∃ places,DataW.whole enc prog (({ World.holding prog os ⟨#[],#[],[]⟩ with heap:=(World.holding prog os ⟨#[],#[],[]⟩).heap.modify 0 (zf (kO Rows.laid_math_bits_deBruijn64tab)) }:World).forCall (fun _ _=>0) ⟨#[],#[.slice none 0 0],[]⟩).memory Tryz.f3.params.toList Rows.fnSmallestSpec.vars false #[Value.slice none 0 0].toList 8=some ([.nil],[],places):=
 ⟨[],by kernel_rfl⟩
theorem lH(os:Os)(started:os.Started)(H:Type)(enc:TypeId×Value->H)(F:Stop.Interp) :
  ReturnsInHanded {} Tryz.checked os 3 .any ((OpenSpec.ofChange Rows.fnSmallestSpec).preRow enc prog Tryz.f3 Rows.fnSmallestRow.domain false Rows.fnSmallestRow.laid) (((OpenSpec.ofChange Rows.fnSmallestSpec).at F).post enc prog Tryz.f3 false true false false):=by
 obtain⟨places,hx⟩:=reads os enc;refine returnsInHanded_of_row (C:=Tryz.checked) (s:=OpenSpec.ofChange Rows.fnSmallestSpec) Tryz.own started (by kernel_rfl) func3
  (witness_row_at (enc:=enc) (C:=Tryz.checked) false ({ World.holding prog os ⟨#[],#[],[]⟩ with heap:=(World.holding prog os ⟨#[],#[],[]⟩).heap.modify 0 (zf (kO Rows.laid_math_bits_deBruijn64tab)) }:World) #[.slice none 0 0] rfl (by kernel_rfl) (by kernel_rfl) (by kernel_rfl)
   (OpenSpec.preRow_of_cond 8 hx (by kernel_rfl) (fun k hk=>by cases hk) (by kernel_rfl) (yb os))) ?_
 intro W base args ds gs before hval0 hW _ _ _ hL _ _;have hval:∀ (j:Nat) t v,Tryz.f3.params[j]?=some t->args[j]?=some v->Value.okWide prog W .any base t v:=hval0;have d:=hW;obtain⟨p,q,b,hV,rfl,n,o⟩:=hW;have hA:DataW.TrodAll enc prog W 0 (fun _=>true) true Tryz.f3.params.toList args.toList ds p:=b;rw[params3]at hA hval;obtain⟨v1,vs1,d1,ds1,p1,q1,hargs,rfl,rfl,h1,r1⟩:=trodAll_cons hA;obtain⟨rfl,rfl,rfl⟩:=trodAll_nil r1;obtain rfl:args=#[v1]:=by cases args;simp_all
 obtain⟨rfl,rfl⟩:=trodVars_none hV;have k1:=h1;have lt1:∀ x∈p1,x.block<W.heap.size:=by obtain⟨m,hm⟩:=k1;exact DataW.trod_lt m _ _ _ hm
 obtain⟨a,l,c,rfl⟩:=okWide_slice underlying22 (hval 0 22 v1 rfl rfl);obtain⟨bs,f,g,i⟩ : ∃ bs,aK mB 0 0 W.heap.size W (.slice a l c) bs/\cB (.slice a l c)/\sy bs:=by
  obtain⟨fuel,hf⟩:=h1;exact wH (by simpa[Value.cells]using hf)
 clear b hval0;refine(lI _ bs W f g i (Cx (CE hL)).1 (Cx (CE hL)).2).mono fun e W' ⟨he,bel⟩=>?_
 subst he;exact⟨_,rfl,_,_,_,[],_,[],d,trodAll_mk1 (shut_bool underlying4 _),(trodAll_cons_mk (Below.trod Tryz.laidOut (by kernel_rfl) (of_decide_eq_true (by kernel_rfl)) k1 bel lt1) trodAll_mk0),rfl,bel.frame _,fun h=>by cases h⟩
theorem lS:Rows.FnSmallestSaid:=
 OpenClaim.holds_of_cond 3 Tryz.f3 rfl rfl rfl rfl rfl rfl rfl ⟨rfl,rfl,rfl,rfl,rfl⟩ rfl rfl rfl rfl rfl (by kernel_rfl) func3 (by kernel_rfl)
  (of_decide_eq_true (by kernel_rfl)) (by unfold Func.isWrapper;first|(rw[if_pos (by decide +kernel)];kernel_rfl)|(rw[if_neg (by decide +kernel)];exact⟨rfl,rfl⟩))
  (fun os started H enc _ F=>by rw[OpenClaim.pre_eq_preRow];exact lH os started H enc F)
theorem nC(f:FuncId)(fn:Func)(hf:Tryz.pinned.checked.prog.funcNamed "loop.example/s0027/laws.FnSmallest" = some f)(hfn:Tryz.pinned.checked.prog.funcs[f]?=some fn) :
  true=Tryz.pinned.checked.prog.looks []/\∀ (j:Nat) t,fn.params[j]?=some t->Tryz.pinned.checked.prog.wantsStandIn t=false:=by
 obtain rfl:f=3:=Option.some.inj ((show prog.funcNamed "loop.example/s0027/laws.FnSmallest" = some 3 by kernel_rfl).symm.trans hf) |>.symm
 obtain rfl:fn=Tryz.f3:=(Option.some.inj (func3.symm.trans hfn)).symm;refine⟨by kernel_rfl,fun j t ht=>?_⟩;rw[params3]at ht;obtain rfl:t=22:=by simpa using Array.mem_of_getElem? ht
 exact(show prog.wantsStandIn 22=false by kernel_rfl)
theorem smallest_holds:Rows.FnSmallestCardSaid:=
 Claim7.holds_tied_plain_at .later [] _ _ _ _ lS (fun _ h=>by cases h) (by kernel_rfl) (fun _ h=>by cases h) fnSmallest_row_tie rfl ⟨rfl,rfl⟩ (by kernel_rfl) rfl nC (by kernel_rfl)
#print axioms smallest_holds
end Go.Proofs.YtidfkbghlkcbeaaGreatDoor
