import Derived.Test.YtpmcjimgkabpeaaGreatDoorPk36
import Derived.Test.YtpmcjimgkabpeaaGreatDoorPk34
import Derived.Test.YtpmcjimgkabpeaaGreatDoorPk35
namespace Go.Proofs.YtpmcjimgkabpeaaGreatDoor
open Go.RowKit Go.Proofs.Tryz
set_option maxHeartbeats 16000000
set_option maxRecDepth 100000
def li(S:List (List Int))(i b:Nat):Bool:=decide (i<S.length)&&(List.range (S[i]?.getD []).length).any fun k=>decide (2*k+1<(S[i]?.getD []).length)&&(decide ((S[i]?.getD [])[2*k]?.getD 0<=(b:Int))&&decide ((b:Int)<=(S[i]?.getD [])[2*k+1]?.getD 0))
theorem jF(S:List (List Int))(i b:Nat):li S i b=true↔(i<S.length/\dP (S[i]?.getD []) (b:Int)):=by
 unfold li dP;rw[Bool.and_eq_true,decide_eq_true_eq,List.any_eq_true];simp only[Bool.and_eq_true,decide_eq_true_eq,List.mem_range];exact and_congr_right fun _=>⟨fun ⟨k,_,h⟩=>⟨k,h⟩,fun ⟨k,h⟩=>⟨k,by omega,h⟩⟩
theorem BU{S:List (List Int)}{i b:Nat}(hi:i<S.length):li S i b=true↔dP (S[i]?.getD []) (b:Int):=by
 rw[jF];exact⟨fun h=>h.2,fun h=>⟨hi,h⟩⟩
theorem xF{S:List (List Int)}{i b:Nat}(hi:S.length<=i):li S i b=false:=by
 cases h:li S i b with
 | false=>rfl
 | true=>rw[jF]at h;omega
def mZ(W:List (List Int))(i j:Nat):Bool:=(W[i]?.getD []).contains (j:Int)
def nO(L:List Int)(i:Nat):Bool:=L.contains (i:Int)
def nY(S:List (List Int))(L:List Int)(W:List (List Int)):List Nat×Bool->Nat->List Nat×Bool:=bN S.length (li S) (mZ W) (nO L)
def nK(F:List Int)(nl:Bool):List Nat×Bool:=(F.map Int.toNat,nl)
theorem pw{ln:List Lk}{n:Nat}(h:uH ln n)(i j:Nat):mZ (eT ln n) i j=ce ln i j:=by
 have key:ce ln i j=true->i<n/\j<n:=fun hm=>by
  unfold ce at hm;rw[List.any_eq_true]at hm;obtain⟨p,hp,hm⟩:=hm;rw[Bool.and_eq_true,List.contains_iff_mem,List.contains_iff_mem]at hm;exact⟨(h p hp).1 i hm.1,(h p hp).2 j hm.2⟩
 unfold mZ eT
 by_cases hi:i<n
 ·rw[List.getElem?_map,List.getElem?_range hi];show(xC ln n i).contains (j:Int)=_;rw[Bool.eq_iff_iff,List.contains_iff_mem];unfold xC;rw[List.mem_map]
  constructor
  ·rintro⟨j',a,e⟩;have:j'=j:=by omega
   subst this;exact(List.mem_filter.1 a).2
  intro hm;exact⟨j,List.mem_filter.2 ⟨List.mem_range.2 (key hm).2,hm⟩,rfl⟩
 rw[List.getElem?_eq_none (by simp;omega)];cases hm:ce ln i j with
 | false=>rfl
 | true=>exact absurd (key hm).1 hi
theorem Ar{ln:List Lk}{n i:Nat}(h:uH ln n)(hi:i<n):(eT ln n)[i]?.getD []=((List.range n).filter (mZ (eT ln n) i)).map fun (j:Nat)=>(j:Int):=by
 have e:mZ (eT ln n) i=ce ln i:=by funext j;exact pw h i j
 rw[e];unfold eT;rw[List.getElem?_map,List.getElem?_range hi]
 rfl
theorem Bs(a:It)(i:Nat):nO (cZ a true 0) i=a.la.contains i:=by
 unfold nO cZ;rw[Bool.eq_iff_iff,List.contains_iff_mem,List.contains_iff_mem];simp only[if_true,List.mem_map]
 constructor
 ·rintro⟨j,hj,e⟩;have:j=i:=by omega
  subst this;exact hj
 intro h;exact⟨i,h,by omega⟩
theorem Ce(a:It):(cZ a false 0).map Int.toNat=a.fi:=by
 unfold cZ;simp[Function.comp_def]
theorem zw{p:Nat->Bool}{N M:Nat}(h:N<=M)(hp:∀ i,p i=true->i<N):(List.range M).filter p=(List.range N).filter p:=by
 obtain⟨d,rfl⟩ : ∃ d,M=N+d:=⟨M-N,by omega⟩;rw[List.range_add,List.filter_append];have:(List.map (fun x=>N+x) (List.range d)).filter p=[]:=by
  rw[List.filter_eq_nil_iff];intro a ha b;obtain⟨x,-,rfl⟩:=List.mem_map.1 ha;have:=hp _ b;omega
 rw[this,List.append_nil]
def Eg(l r:Bool)(xs:List El)(code K:Int)(X Y:List Int)(Z:List Bool):Prop:=
 (¬ bw xs/\code=4/\K=0/\X=[]/\Y=[]/\Z=[]) ∨
 (bw xs/\∃ S nl F L W,mz l r xs S nl F L W/\
  ((∃ (k:Nat) (cls rep:Nat->Nat) (o:List (List Nat×Bool)) (ys:List Nat),fL (nY S L W) (nK F nl) k cls rep o ys/\1024<o.length/\code=3/\K=0/\X=[]/\Y=[]/\Z=[]) ∨
   (∃ (k:Nat) (cls rep:Nat->Nat) (o:List (List Nat×Bool)) (ys:List Nat),fL (nY S L W) (nK F nl) k cls rep o ys/\ys.length=o.length*k/\o.length<=1024/\code=0/\
    ∃ (kk:Nat) (P c2 r2:Nat->Nat) (o2 ys2:List Nat),rT (bE k cls Prod.snd o ys) P kk c2 r2 o2 ys2/\K=(kk:Nat)/\X=mP (bE kk c2 (bE k cls Prod.snd o ys).ac o2 ys2)/\Y=py (bE kk c2 (bE k cls Prod.snd o ys).ac o2 ys2)/\Z=uV (bE kk c2 (bE k cls Prod.snd o ys).ac o2 ys2))))
def DS(l r:Bool)(xs:List El)(code K:Int)(X Y:List Int)(Z:List Bool):Prop:=
 (¬ bw xs/\code=4/\K=0/\X=[]/\Y=[]/\Z=[]) ∨
 (bw xs/\∃ S nl F L W,mz l r xs S nl F L W/\
  ((∃ (k:Nat) (cls rep:Nat->Nat) (o:List (List Nat×Bool)) (ys:List Nat),fL (nY S L W) (nK F nl) k cls rep o ys/\1024<o.length/\code=3/\K=0/\X=[]/\Y=[]/\Z=[]) ∨
   (∃ (k:Nat) (cls rep:Nat->Nat) (o:List (List Nat×Bool)) (ys:List Nat),fL (nY S L W) (nK F nl) k cls rep o ys/\ys.length=o.length*k/\o.length<=1024/\code=0/\
    ∃ (kk:Nat) (o2 ys2:List Nat) (m:Nat) (num Fn mg G:Nat->Nat),cQ (bE k cls Prod.snd o ys) o2 ys2 m num Fn kk mg G/\K=(kk:Nat)/\X=mP (cQ.out (bE k cls Prod.snd o ys) o2 ys2 m num Fn kk mg G)/\Y=py (cQ.out (bE k cls Prod.snd o ys) o2 ys2 m num Fn kk mg G)/\Z=uV (cQ.out (bE k cls Prod.snd o ys) o2 ys2 m num Fn kk mg G))))
theorem ow{l r:Bool}{xs L:List El}{bs:List Int}{U:Value}{a:It}{ln:List Lk}{ss:List (List Int)}(hb:∀ x∈bs,0<=x/\x<=255)(hle:bs.length<=20000)(hok:bw xs)(hx:cG xs L)(hg:Gt bs.length (mY bs) U (fS l r L))(ho:cu (fS l r L) (aO (fS l r L)) a ln ss) :
  eM l r xs bs↔AR (cL (mY bs) ss) (fun x y=>ce ln x y=true) a bs.length:=by
 obtain⟨R,h1,h2,h3⟩:=wF (n:=bs.length) (hs:=mY bs) hok hx;obtain⟨W,h4,h5⟩:=wi h2 (fun i hi=>by
  have:=hb (bs[i]?.getD 0) (by rw[List.getElem?_eq_getElem hi];exact List.getElem_mem hi);exact⟨0,by simp,this.1,this.2⟩) l r
 obtain⟨R',a',ln',ss',h6,h7,h8,-⟩:=hg (h3.wh l r);obtain⟨-,e1,e2,e3⟩:=cu.one ho h7;rw[It.sh0,It.sh0]at e1;rw[EY,EY]at e2;subst e1 e2 e3;obtain rfl:=bp.one h6 h4;rw[mO hok hle h1,<-Cf h8,h5]
 rfl
theorem Do{ln:List Lk}{n i j:Nat}(h:uH ln n)(hm:ce ln i j=true):j<n:=by
 unfold ce at hm;rw[List.any_eq_true]at hm;obtain⟨p,hp,hq⟩:=hm;rw[Bool.and_eq_true,List.contains_iff_mem,List.contains_iff_mem]at hq;exact(h p hp).2 j hq.2
theorem dN.wh{Q:Value->List El->Prop}(hQ:dN Q){U:Value}{L:List El}(h:Q U L)(l r:Bool):∃ U',Q U' (fS l r L):=by
 obtain⟨g,hg⟩:=jA ef;have ha:=hQ.all hg;unfold fS;cases l<;>cases r
 ·exact⟨_,hQ.cat (hQ.cat ha h) ha⟩
 ·exact⟨_,hQ.cat ha h⟩
 ·exact⟨_,hQ.cat h ha⟩
 exact⟨_,h⟩
theorem vd{S K:Nat->Nat->Prop}{a:It}{N:Nat}{hold fol:Nat->Nat->Bool}{last:Nat->Bool}{ws fs:List Nat}(hF:∀ j,j∈fs↔j∈a.fi)(hh:∀ i k,k<ws.length->(hold i (ws[k]?.getD 0)=true↔S i k))(hf:∀ i j,fol i j=true↔K i j)(hN:∀ i j,K i j->j<N)(hl:∀ i,last i=true↔i∈a.la) :
  ∀ k,k<=ws.length->(∀ j,j∈((ws.take k).foldl (bN N hold fol last) (fs,a.nl)).1↔Ae S K a.fi k j)/\(((ws.take k).foldl (bN N hold fol last) (fs,a.nl)).2=true↔AR S K a k)
 | 0,_=>⟨hF,Iff.rfl⟩
 | k+1,hk=>by
  obtain⟨h1,h2⟩:=vd hF hh hf hN hl k (by omega);have e:ws.take (k+1)=ws.take k++[ws[k]?.getD 0]:=by rw[List.take_add_one,List.getElem?_eq_getElem (by omega)];rfl
  rw[e,List.foldl_append];generalize (ws.take k).foldl (bN N hold fol last) (fs,a.nl)=P at *;simp only[List.foldl_cons,List.foldl_nil,bN,List.mem_filter,List.mem_range,List.any_eq_true,Bool.and_eq_true];refine⟨fun j=>⟨?_,?_⟩,?_,?_⟩
  ·rintro⟨-,i,q1,q2,q3⟩;exact⟨i,(h1 i).1 q1,(hh i k (by omega)).1 q2,(hf i j).1 q3⟩
  ·rintro⟨i,q1,q2,q3⟩;exact⟨hN i j q3,i,(h1 i).2 q1,(hh i k (by omega)).2 q2,(hf i j).2 q3⟩
  ·rintro⟨i,q1,q2,q3⟩;exact⟨i,(h1 i).1 q1,(hh i k (by omega)).1 q2,(hl i).1 q3⟩
  rintro⟨i,q1,q2,q3⟩;exact⟨i,(h1 i).2 q1,(hh i k (by omega)).2 q2,(hl i).2 q3⟩
theorem lN(A:Tb){b:Nat}(hb:b<256):(mP A)[b]?.getD 0=(A.cl b:Int):=by
 unfold mP;rw[List.getElem?_map,List.getElem?_range hb];rfl
theorem uy(A:Tb){q c:Nat}(hq:q<A.n)(hc:c<A.k):(py A)[q*A.k+c]?.getD 0=(A.nx q c:Int):=by
 have h1:=eg (q:=q) hc;have h2:q*A.k+c<A.n*A.k:=by
  have:=Nat.mul_le_mul_right A.k (show q+1<=A.n from hq);rw[Nat.succ_mul]at this;omega
 unfold py;rw[List.getElem?_map,List.getElem?_range h2];show((A.nx ((q*A.k+c) / A.k) ((q*A.k+c)%A.k):Nat):Int)=_;rw[h1.1,h1.2]
theorem BB(A:Tb){q:Nat}(hq:q<A.n):(uV A)[q]?.getD false=A.ac q:=by
 unfold uV;rw[List.getElem?_map,List.getElem?_range hq];rfl
theorem vG{A:Tb}(h:td A)(hn:A.n<=1024):jq (mP A) (py A) (uV A) (A.k:Int):=by
 have hl:(uV A).length=A.n:=by unfold uV;simp
 have hx:(mP A).length=256:=by unfold mP;simp
 have hy:(py A).length=A.n*A.k:=by unfold py;simp
 have hp:=h.wf.pos;have f:1<=A.k:=by have:=h.wf.cls 0 (by decide);omega
 have g:A.k<=256:=by
  have h1:(List.range A.k).length<=((List.range 256).map A.cl).length:=List.nodup_range.length_le_of_subset (fun c hc=>by
   obtain⟨b,hb,e⟩:=h.clAll c (List.mem_range.1 hc);exact List.mem_map.2 ⟨b,List.mem_range.2 hb,e⟩)
  simpa using h1
 have a:∀ b b':Nat,b'<b->b<257->(A.cl b':Int)<=top (mP A) b:=fun b b' h1 h2=>by
  have:=tA (mP A) b';rw[lN A (by omega)]at this;exact Int.le_trans this (mr _ _ _ h1)
 have d:∀ b:Nat,b<=256->-1<=top (mP A) b/\top (mP A) b<=(A.k:Int)-1:=by
  intro b
  induction b with
  | zero=>intro _;simp only[top];omega
  | succ b ih =>
   intro hb;have h1:=ih (by omega);have h2:=h.wf.cls b (by omega);simp only[top];rw[lN A (by omega)]
   split<;>omega
 refine⟨by omega,by omega,hx,fun b hb=>?_,?_,?_,fun i hi=>?_⟩
 ·rw[lN A hb];refine⟨by omega,?_⟩
  by_cases h0:A.cl b=0
  ·have:=(d b (by omega)).1;omega
  obtain⟨b',h1,h2⟩:=h.clUp b hb (A.cl b-1) (by omega);have:=a b b' h1 (by omega);omega
 ·obtain⟨b,hb,e⟩:=h.clAll (A.k-1) (by omega);have h1:=a 256 b hb (by decide);have h2:=(d 256 (by decide)).2;omega
 ·rw[hy,hl];push_cast;rfl
 rw[hy]at hi;have hq:i / A.k<A.n:=Nat.div_lt_of_lt_mul (by rw[Nat.mul_comm];exact hi);have hc:i%A.k<A.k:=Nat.mod_lt _ (by omega);have e:i=i / A.k*A.k+i%A.k:=by rw[Nat.mul_comm];exact(Nat.div_add_mod i A.k).symm
 rw[e,uy A hq hc,hl];have:=h.wf.nxt _ _ hq hc;omega
theorem uR{A:Tb}(h:A.Wf){bs:List Int}(hb:∀ x∈bs,0<=x/\x<=255):∀ i,i<=bs.length->kM (mP A) (py A) bs (A.k:Int) i=((A.run 0 ((bs.map Int.toNat).take i):Nat):Int)/\A.run 0 ((bs.map Int.toNat).take i)<A.n
 | 0,_=>⟨rfl,h.pos⟩
 | i+1,hi=>by
  obtain⟨h1,h2⟩:=uR h hb i (by omega);have e:(bs.map Int.toNat).take (i+1)=(bs.map Int.toNat).take i++[(bs[i]?.getD 0).toNat]:=by
   rw[List.take_add_one,List.getElem?_map,List.getElem?_eq_getElem (by omega)];rfl
  have hx:=hb (bs[i]?.getD 0) (by rw[List.getElem?_eq_getElem (by omega)];exact List.getElem_mem _);have hlt:(bs[i]?.getD 0).toNat<256:=by omega
  have hc:=h.cls _ hlt;have e2:A.run 0 ((bs.map Int.toNat).take (i+1))=A.nx (A.run 0 ((bs.map Int.toNat).take i)) (A.cl (bs[i]?.getD 0).toNat):=by
   rw[e];unfold Tb.run;rw[List.foldl_append];rfl
  rw[e2];refine⟨?_,h.nxt _ _ h2 hc⟩;show(py A)[(kM (mP A) (py A) bs (A.k:Int) i*(A.k:Int)+(mP A)[(bs[i]?.getD 0).toNat]?.getD 0).toNat]?.getD 0=_;rw[h1,lN A hlt,<-uy A h2 hc]
  congr 2
theorem AV{n m:Nat}{num F:Nat->Nat}(h:fM n m num F):m<=n:=by
 have key:∀ j,j<m->j<=F j:=by
  intro j
  induction j with
  | zero=>intro _;exact Nat.zero_le _
  | succ j ih=>intro hj;have h1:=ih (by omega);have h2:=h.up j (j+1) (by omega) hj;omega
 cases m with
 | zero=>exact Nat.zero_le _
 | succ m=>have h1:=key m (by omega);have h2:=(h.fst m (by omega)).1;omega
theorem Dc{A:Tb}{o ys:List Nat}(hw:A.Wf)(h:eK A.k A.nx 0 o ys):o.length<=A.n:=by
 have hk:0<A.k:=by have:=hw.cls 0 (by decide);omega
 have a:∀ s,s<o.length->∃ x,o[s]?=some x/\x<A.n:=by
  intro s
  induction s using Nat.strongRecOn with
  | _ s ih =>
   intro hs;rcases h.all s hs with rfl|⟨t,h1,h2,h3⟩
   ·exact⟨0,h.z,hw.pos⟩
   obtain⟨x,q1,q2⟩:=h.nx t h1;obtain⟨x',e,hx⟩:=ih (t / A.k) h3 (by omega);rw[e]at q1;obtain rfl:=Option.some.inj q1;rw[h2]at q2;exact⟨_,q2,hw.nxt _ _ hx (Nat.mod_lt _ hk)⟩
 refine pR h (fun x hx=>?_)
 obtain⟨i,hi,rfl⟩:=List.getElem_of_mem hx;obtain⟨y,e,hy⟩:=a i hi;rw[List.getElem?_eq_getElem hi]at e;rw[Option.some.inj e];exact hy
theorem yR{l r:Bool}{xs:List El}{code code' K K':Int}{X Y X' Y':List Int}{Z Z':List Bool}(h:Eg l r xs code K X Y Z)(g:DS l r xs code' K' X' Y' Z'):code=code':=by
 rcases h with ⟨h0,rfl,-⟩|⟨h0,S,nl,F,L,W,hA,h⟩<;>rcases g with ⟨g0,rfl,-⟩|⟨g0,S',nl',F',L',W',gA,g⟩
 ·rfl
 ·exact absurd g0 h0
 ·exact absurd h0 g0
 obtain⟨rfl,rfl,rfl,rfl,rfl⟩:=hA.one gA;rcases h with ⟨k,cls,rep,o,ys,hp,a,rfl,-⟩|⟨k,cls,rep,o,ys,hp,hl,b,rfl,-⟩<;>rcases g with ⟨k',cls',rep',o',ys',gp,gbig,rfl,-⟩|⟨k',cls',rep',o',ys',gp,gl,gle,rfl,-⟩
 ·rfl
 ·have:=gp.few gl hp;omega
 ·have:=hp.few hl gp;omega
 rfl
theorem Cb{l r:Bool}{xs:List El}{K:Int}{X Y:List Int}{Z:List Bool}{bs:List Int}(h:DS l r xs 0 K X Y Z)(hb:∀ x∈bs,0<=x/\x<=255)(hle:bs.length<=20000):jq X Y Z K/\(Z[(kM X Y bs K bs.length).toNat]?.getD false=true↔eM l r xs bs):=by
 rcases h with ⟨-,h,-⟩|⟨hok,S,nl,F,L,W,hA,⟨k,cls,rep,o,ys,-,-,h,-⟩|⟨k,cls,rep,o,ys,hP,g,ho,-,kk,o2,ys2,m,num,Fn,mg,G,hT,rfl,rfl,rfl,rfl⟩⟩
 ·omega
 ·omega
 have hc:=hT.canon;have hn:(cQ.out (bE k cls Prod.snd o ys) o2 ys2 m num Fn kk mg G).n<=1024:=by
  have h1:=AV hT.num1;have h2:=Dc hT.wf hT.bfs;exact Nat.le_trans h1 (Nat.le_trans h2 ho)
 refine⟨vG hc hn,?_⟩;obtain⟨r1,r2⟩:=uR hc.wf hb bs.length lR;have hw:Wd (bs.map Int.toNat):=fun b hbm=>by
  obtain⟨x,hx,rfl⟩:=List.mem_map.1 hbm;have:=hb x hx;omega
 have e0:(bs.map Int.toNat).take bs.length=bs.map Int.toNat:=List.take_of_length_le (by simp);have e1:=hT.start (bs.map Int.toNat) hw;have e2:=hP.run g Prod.snd (bs.map Int.toNat) hw;rw[e0]at r1 r2;have r1':kM (mP (cQ.out (bE k cls Prod.snd o ys) o2 ys2 m num Fn kk mg G)) (py (cQ.out (bE k cls Prod.snd o ys) o2 ys2 m num Fn kk mg G)) bs ((kk:Nat):Int) bs.length=_:=r1;rw[r1',Int.toNat_natCast,BB _ r2,e1];show((o[_]?.map Prod.snd).getD false=true)↔_;rw[e2];rcases hA with ⟨-,L0,a,ln,ss,hx,-,c,rfl,rfl,rfl,rfl,rfl⟩|⟨p,-⟩
 ·obtain⟨L',-,s,⟨U,hU⟩,-⟩:=vh (tC (n:=bs.length) (hs:=mY bs)) hok;obtain rfl:=cG.one hx s;obtain⟨U',t⟩:=(tC (n:=bs.length) (hs:=mY bs)).wh hU l r;rw[ow hb hle hok hx t c];have d:=c.lkb;have u:=c.sets;have key:=vd (S:=cL (mY bs) ss) (K:=fun x y=>ce ln x y=true) (a:=a) (N:=(bu (fS l r L0)).length) (hold:=li (bu (fS l r L0))) (fol:=mZ (eT ln (aO (fS l r L0)))) (last:=nO (cZ a true 0)) (ws:=bs.map Int.toNat) (fs:=(cZ a false 0).map Int.toNat) (fun j=>?_) (fun i n hn=>?_) (fun i j=>?_) (fun i j hij=>?_) (fun i=>?_) bs.length (by simp)
  ·rw[e0]at key;exact key.2
  ·unfold cZ;simp
  ·have f:n<bs.length:=by simpa using hn
   have hx:=hb (bs[n]?.getD 0) (by rw[List.getElem?_eq_getElem f];exact List.getElem_mem _);have e:(bs.map Int.toNat)[n]?.getD 0=(bs[n]?.getD 0).toNat:=by rw[List.getElem?_map,List.getElem?_eq_getElem f];rfl
   rw[jF,e,<-u];show _↔dP (ss[i]?.getD []) (bs[n]?.getD 0);rw[show(((bs[n]?.getD 0).toNat:Nat):Int)=bs[n]?.getD 0 by omega];refine⟨fun q=>q.2,fun q=>⟨?_,q⟩⟩
   by_cases hi:i<ss.length
   ·exact hi
   rw[List.getElem?_eq_none (by omega)]at q;obtain⟨z,hz,-⟩:=q;simp at hz
  ·rw[pw d]
  ·rw[dv];exact Do d hij
  unfold nO cZ;rw[List.contains_iff_mem,List.mem_map]
  constructor
  ·rintro⟨x,hx,e⟩;obtain rfl:x=i:=by omega
   exact hx
  intro hi;exact⟨i,hi,by simp⟩
 exact absurd hok p
theorem ni{s:List Int}:∀ {M:List El},s∈bu M->∃ x∈M,x.kind=1/\x.set=s
 | [],h=>by simp[bu]at h
 | x::r,h=>by
  simp only[bu]at h;rcases List.mem_append.1 h with h|h
  ·by_cases hk:x.kind=1
   ·rw[if_pos hk,List.mem_singleton]at h;exact⟨x,List.mem_cons_self ..,hk,h.symm⟩
   rw[if_neg hk]at h;simp at h
  obtain⟨y,hy,h1,h2⟩:=ni h;exact⟨y,List.mem_cons_of_mem _ hy,h1,h2⟩
theorem fU.sets{M:List El}(h:fU M)(i:Nat):((bu M)[i]?.getD []).length<=1048576:=by
 cases e:(bu M)[i]? with
 | none=>simp
 | some s =>
  show s.length<=1048576;obtain⟨x,hx,hk,hs⟩:=ni (List.mem_of_getElem? e);obtain⟨j,hj⟩:=List.getElem?_of_mem hx;have:=h j (List.getElem?_eq_some_iff.1 hj).1;rw[hj]at this;rcases this with ⟨-,hc,-⟩|⟨hc,-⟩|⟨hc,-⟩
  ·have:=gq hc;rw[<-hs];show x.set.length<=_;exact Nat.le_trans this (by decide)
  ·have a:x.kind=0∨x.kind=2∨x.kind=3:=hc;omega
  have a:x.kind=4:=hc;omega
theorem DD(l r:Bool){xs:List El}(hok:bw xs):∃ (S:List (List Int)) (nl:Bool) (X0:List Nat) (L:List Int) (W:List (List Int)),mz l r xs S nl (iL X0) L W/\W.length=S.length/\S.length<=512/\(∀ x∈X0,x<S.length)/\(∀ i:Nat,i<S.length->(S[i]?.getD []).length<=1048576)/\∀ i,i<S.length->W[i]?.getD []=((List.range S.length).filter (mZ W i)).map fun (j:Nat)=>(j:Int):=by
 obtain⟨L0,hx,hn,hl,k,⟨U,a⟩,-⟩:=uv bS hok;have d:∃ U',Eb U' (fS l r L0):=by
  obtain⟨g,hg⟩:=jA ef;unfold fS;cases l<;>cases r
  ·exact⟨_,bS.cat (bS.cat (bS.all hg) a) (bS.all hg)⟩
  ·exact⟨_,bS.cat (bS.all hg) a⟩
  ·exact⟨_,bS.cat a (bS.all hg)⟩
  exact⟨_,a⟩
 have m:=lG l r L0;obtain⟨M,hM⟩ : ∃ M,M=fS l r L0:=⟨_,rfl⟩;rw[<-hM]at d m;obtain⟨U',A,ln,ss,c,-,q,s,e,n,p,o,f⟩:=d;have h:=jr M;rw[o.ws]at h;have hF:cZ A false 0=iL A.fi:=by unfold cZ iL;simp
 have b:(bu M).length=aO M:=dv M;refine⟨bu M,A.nl,A.fi,cZ A true 0,eT ln (aO M),Or.inl ⟨hok,L0,A,ln,ss,k,hl,by rw[<-hM];exact e,by rw[<-hM],rfl,hF.symm,rfl,by rw[<-hM]⟩,?_,?_,?_,fun i _=>f.sets i,?_⟩
 ·rw[b];simp[eT]
 ·rw[b];omega
 ·rw[b];exact n.1
 rw[b];exact fun i hi=>Ar e.lkb hi
theorem uE(X0:List Nat)(nl:Bool):nK (iL X0) nl=(X0,nl):=by
 unfold nK iL;simp[Function.comp_def]
theorem oj{pst:List Nat×Bool->Nat->List Nat×Bool}{s0:List Nat×Bool}{k:Nat}{cls rep:Nat->Nat}{o:List (List Nat×Bool)}{ys:List Nat}(h:fL pst s0 k cls rep o ys)(hl:ys.length=o.length*k)(ho:o.length<=1024)(hk:k<=256)(gc base:Nat)(nv av:Value)(w:World)(hrow:w.rowIs gc 3 256 (fun x=>.int .i64 (cls x:Nat)))(hn:w.ownsRow base 3 1 nv ys.length (ys.map mN))(ha:w.ownsRow base 4 1 av o.length ((o.map Prod.snd).map mT)) :
  Calls prog 17 #[.agg #[.slice (some ⟨gc,0,none⟩) 256 256,.int .i64 (k:Nat),nv,av]] w fun e w'=>∃ (cv nv av:Value) (K:Int) (X Y:List Int) (Z:List Bool),e=.returned (.agg #[cv,.int .i64 K,nv,av])/\aP mI 0 0 w'.heap.size w' cv X/\aP mI 0 0 w'.heap.size w' nv Y/\aP mT false 0 w'.heap.size w' av Z/\(∀ j,io cv j∨io nv j∨io av j->w.heap.size<=j)/\
   (∃ (kk:Nat) (P c2 r2:Nat->Nat) (o2 ys2:List Nat),rT (bE k cls Prod.snd o ys) P kk c2 r2 o2 ys2/\K=(kk:Nat)/\X=mP (bE kk c2 (bE k cls Prod.snd o ys).ac o2 ys2)/\Y=py (bE kk c2 (bE k cls Prod.snd o ys).ac o2 ys2)/\Z=uV (bE kk c2 (bE k cls Prod.snd o ys).ac o2 ys2))/\Below w.heap.size w w':=by
 have hp:=h.pre hl Prod.snd;have d:=h.bfs.pos;have f:=h.kpos;obtain⟨nb,ncap,rfl,-,g,p,a⟩:=dA hn (by rw[hl];exact Nat.mul_pos d f);obtain⟨ab,acap,rfl,-,i,-,b⟩:=dA ha d;have l:=hrow.lt;rw[hl];refine(mQ (bE k cls Prod.snd o ys) o.length k gc 0 256 nb 0 ncap ab 0 acap w rfl rfl hp.wf hp.clAll ho ⟨f,hk⟩ g (fun q c hq hc=>⟨hp.wf.nxt q c hq hc,?_⟩) l (fun q hq=>?_) i (fun q hq=>?_)).mono ?_
 ·rw[Nat.zero_add];have e1:w.cell? ⟨nb,q*k+c,none⟩=(ys.map mN)[q*k+c]? :=a _ (by rw[hl];exact gO hq hc);have e2:ys[q*k+c]?=some (ys[q*k+c]?.getD 0):=by rw[List.getElem?_eq_getElem (by rw[hl];exact gO hq hc)];rfl
  show w.cell? ⟨nb,q*k+c,none⟩=some (mN (ys[q*k+c]?.getD 0));rw[e1,List.getElem?_map,e2]
  rfl
 ·rw[Nat.zero_add,hrow.cell hq];rfl
 ·have e2:(o.map Prod.snd)[q]?=some ((o[q]?.map Prod.snd).getD false):=by rw[List.getElem?_map,List.getElem?_eq_getElem hq];rfl
  rw[Nat.zero_add,b q hq,List.getElem?_map,e2]
  rfl
 rintro e w' ⟨xv,nv,av,kk,rfl,hB,P,c2,r2,o2,ys2,hs,m,n,o1,o2',o3⟩;have r:o2.length*kk<=1024*256:=Nat.mul_le_mul m n;refine⟨xv,nv,av,(kk:Nat),_,_,_,rfl,(lH o1 (by unfold maxLen;omega)).at (fun q hq=>(o1.lt q hq).2),(lH o2' (by unfold maxLen;omega)).at (fun q hq=>(o2'.lt q hq).2),(sI o3 (by unfold maxLen;omega)).at (fun q hq=>(o3.lt q hq).2),?_,⟨kk,P,c2,r2,o2,ys2,hs,rfl,rfl,rfl,rfl⟩,hB⟩;intro j hj;rcases hj with h|h|h
 ·exact(o1.lt j h).1
 ·exact(o2'.lt j h).1
 exact(o3.lt j h).1
def Af(l r:Bool)(xs:List El)(w:World)(e:Ending)(w':World):Prop:=
 ∃ (cv nv av:Value) (K code:Int) (X Y:List Int) (Z:List Bool),e=.returned (.tuple #[.agg #[cv,.int .i64 K,nv,av],.int .i64 code])/\aP mI 0 0 w'.heap.size w' cv X/\aP mI 0 0 w'.heap.size w' nv Y/\aP mT false 0 w'.heap.size w' av Z/\Eg l r xs code K X Y Z/\Below w.heap.size w w'
theorem kT{l r:Bool}{xs:List El}{w w':World}{code:Int}(h:Eg l r xs code 0 [] [] [])(hb:Below w.heap.size w w'):Af l r xs w (.returned (.tuple #[.agg #[.slice none 0 0,.int .i64 0,.slice none 0 0,.slice none 0 0],.int .i64 code])) w':=
 ⟨_,_,_,0,code,[],[],[],rfl,⟨none,0,rfl,by simp,by simp⟩,⟨none,0,rfl,by simp,by simp⟩,⟨none,0,rfl,by simp,by simp⟩,h,hb⟩
theorem pG{α:Type}{mk:α->Value}{d:α}{b:Nat}{w w':World}{v:Value}{X:List α}(h:aP mk d 0 w.heap.size w v X)(ho:cd b w w')(hb:∀ j,io v j->j≠b)(hv:∀ a n c,v=.slice a n c->∀ g off,a=some ⟨g,off,none⟩->io v g):aP mk d 0 w'.heap.size w' v X:=by
 obtain⟨a,c,rfl,hl,hc⟩:=h;refine⟨a,c,rfl,hl,fun hp=>?_⟩;obtain⟨g,off,rfl,h1,h2,h3⟩:=hc hp;refine⟨g,off,rfl,h1,by rw[ho.size];exact h2,fun i hi=>?_⟩;rw[World.cell?_of_block (a:=⟨g,off+i,none⟩) (ho.block g (hb g (hv _ _ _ rfl g off rfl)))];exact h3 i hi
theorem pK(l r:Bool)(v:Value)(xs:List El)(w:World)(hv:az 0 w.heap.size w v xs) :
  Calls prog 7 #[.agg #[.bool l,.bool r,v]] w fun e w'=>Af l r xs w e w':=by
 obtain⟨a,cp,rfl,-,-⟩:=id hv;have Hv:=ae hv;obtain⟨W0,p⟩ : ∃ W0,W0=(w.alloc (.cells #[.bool l,.bool r,.slice a xs.length cp] 25)).alloc (.cells #[.slice none 0 0,.int .i64 0,.slice none 0 0,.slice none 0 0] 33):=⟨_,rfl⟩;have b3:W0.heap.size=w.heap.size+2:=by rw[p,ah,ah]
 have M:Below w.heap.size w W0:=by rw[p];exact aH w _ _
 have a0:lj W0 w.heap.size 25 (.bool l) (.bool r) (.slice a xs.length cp):=by
  rw[p];exact(lj.new w 25 (.bool l) (.bool r) (.slice a xs.length cp)).below (ai _ _) (by rw[ah];omega)
 have a1:aD W0 (w.heap.size+1) 33 (.slice none 0 0) (.int .i64 0) (.slice none 0 0) (.slice none 0 0):=by
  have:=aD.new (w.alloc (.cells #[.bool l,.bool r,.slice a xs.length cp] 25)) 33 (.slice none 0 0) (.int .i64 0) (.slice none 0 0) (.slice none 0 0);rw[ah]at this;rw[p];exact this
 have a2:=ae a1;have a3:=ae a0;have a4:=ae p;clear hv p a1 a0
 go_enter func7,ntmps7
 go_wp2_with fail;rw[<-a4.u];clear a4;refine(eh l r _ xs _ (Hv.u.below M lR)).mono ?_;rintro e w1 ⟨t,x⟩;have b4:=x.size;have y:Hi (Below w.heap.size w w1):=M.trans (x.mono (by omega));have E:=a2.u.below x (by omega);obtain⟨k0,k1,k2⟩:=(a3.u.below x (by omega)).facts;have a5:=ae E;clear x M a2 a3;rcases t.cases with ⟨rfl,hok⟩|⟨rfl,I⟩
 ·clear E;obtain⟨S,nl,X0,L,W,z,a6,a7,a8,a9,ab⟩:=DD l r hok;have N:=ae (nC l r _ xs w1 (Hv.u.below y.u lR) S W nl X0 L S.length (li S) (mZ W) (nO L) (fun S' b' F' L' W' h=>by
   obtain⟨rfl,rfl,rfl,rfl,rfl⟩:=z.one h;exact⟨rfl,rfl,rfl,rfl,rfl⟩) rfl a6 a7 a8 a9 (fun b _ i hi=>BU hi) ab (fun i _=>by unfold nO;rw[List.contains_iff_mem]) (fun i b hi=>xF hi))
  have J:=ae z;have ad:=ae hok;clear z hok a6 a7 a8 a9 ab
  go_wp2_with fail;refine N.u.mono ?_;rintro e w2 ⟨A,t⟩;have b5:=A.size;have m:Below w.heap.size w w2:=y.u.trans (A.mono y.u.size);have F:=a5.u.below A (by omega);have b6:=y.u.size;rcases t with ⟨cb,k,nv,av,cls,rep,o,ys,rfl,q,O,af,hk,B,P,Q⟩|⟨k,cls,rep,o,ys,rfl,q,K⟩
  ·obtain⟨na,nc,rfl⟩:=aj P;obtain⟨aa,ac,rfl⟩:=aj Q;obtain⟨w5,f⟩ : ∃ w5,w5=w2.alloc (.cells #[.slice (some ⟨cb,0,none⟩) 256 256,.int .i64 (k:Nat),.slice na ys.length nc,.slice aa o.length ac] 33):=⟨_,rfl⟩;have d:Below w2.heap.size w2 w5:=by rw[f];exact ai w2 _
   have ag:aD w5 w2.heap.size 33 (.slice (some ⟨cb,0,none⟩) 256 256) (.int .i64 (k:Nat)) (.slice na ys.length nc) (.slice aa o.length ac):=by rw[f];exact aD.new w2 _ _ _ _ _
   have s:=F.below d (by omega);have C:Below w.heap.size w w5:=m.trans (d.mono (by have:=m.size;omega));have b7:=d.size;have al:=ae (oj q O af hk cb w1.heap.size _ _ w5 (B.of_block (d.block _ B.lt)) (aG P d lR) (aG Q d lR));have an:Hi (fL (nY S L W) (nK (iL X0) nl) k cls rep o ys):=by rw[uE];exact q
   have aq:=ae O;obtain⟨g0,g1,g2,g3,-⟩:=ag.facts;have G:=ae f;have R:=ae C;have T:=ae s;rw[f]at g0 g1 g2 g3;clear d ag s C f q O P Q F m A B N k0 k1 k2
   go_wp2_with fail;rw[<-G.u];clear G g0 g1 g2 g3;refine al.u.mono ?_;rintro e w6 ⟨cv,nv6,av6,KK,X,Y,Z,rfl,s1,s2,s3,ao,ap,U⟩;obtain⟨u1,v1,rfl,-,-⟩:=id s1;obtain⟨u2,v2,rfl,-,-⟩:=id s2;obtain⟨u3,v3,rfl,-,-⟩:=id s3;have V:=T.u.below U (by omega);obtain⟨x0,x1,x2,x3,z0,z1,z2,z3⟩:=V.facts;have D:Hi (Eg l r xs 0 KK X Y Z):=Or.inr ⟨ad.u,_,_,_,_,_,J.u,Or.inr ⟨_,_,_,_,_,an.u,aq.u,af,rfl,ap⟩⟩;have ar:=ae V;have aw:=ae s1;have ax:=ae s2;have b0:=ae s3;have b1:=ae ao;have b2:=ae U;clear V s1 s2 s3 ao U ap al;go_wp2;refine bodyPost_ret (dq (dp ar.u _ _ _ _) rfl _ rfl rfl) rfl ?_;have H:=ei w6 (w.heap.size+1) (.slice u1 X.length v1) (.int .i64 KK) (.slice u2 Y.length v2) (.slice u3 Z.length v3);have hne:∀ j,io (.slice u1 X.length v1) j∨io (.slice u2 Y.length v2) j∨io (.slice u3 Z.length v3) j->j≠w.heap.size+1:=fun j hj=>by have:=b1.u j hj;omega
   refine⟨_,_,_,KK,0,X,Y,Z,rfl,pG aw.u H (fun j hj=>hne j (.inl hj)) ?_,pG ax.u H (fun j hj=>hne j (.inr (.inl hj))) ?_,pG b0.u H (fun j hj=>hne j (.inr (.inr hj))) ?_,D.u,(R.u.trans (b2.u.mono (by omega))).trans (H.bel (by omega))⟩
   all_goals
    intro a n c e g off e2;cases e;subst e2
    rfl
  obtain⟨w5,f⟩ : ∃ w5,w5=w2.alloc (.cells #[.slice none 0 0,.int .i64 0,.slice none 0 0,.slice none 0 0] 33):=⟨_,rfl⟩;have d:Below w2.heap.size w2 w5:=by rw[f];exact ai w2 _
  have s:=F.below d (by omega);have C:Below w.heap.size w w5:=m.trans (d.mono (by have:=m.size;omega));have D:Hi (Eg l r xs 3 0 [] [] []):=Or.inr ⟨ad.u,_,_,_,_,_,J.u,Or.inl ⟨_,_,_,_,_,by rw[uE];exact q,K,rfl,rfl,rfl,rfl,rfl⟩⟩;obtain⟨x0,x1,x2,x3,z0,z1,z2,z3⟩:=s.facts;have G:=ae f;have R:=ae C;have T:=ae s;rw[f]at x0 x1 x2 x3 z0 z1 z2 z3;clear d s C f q K F m A N k0 k1 k2;go_wp2;rw[<-G.u];refine bodyPost_ret (dq (dp T.u _ _ _ _) rfl _ rfl rfl) rfl ?_;exact kT D.u (R.u.trans ((ei w5 (w.heap.size+1) (.slice none 0 0) (.int .i64 0) (.slice none 0 0) (.slice none 0 0)).bel (by omega)))
 obtain⟨x0,x1,x2,x3,z0,z1,z2,z3⟩:=E.facts;have D:Hi (Eg l r xs 4 0 [] [] []):=Or.inl ⟨I,rfl,rfl,rfl,rfl,rfl⟩;clear E I;go_wp2;refine bodyPost_ret (dq (dp a5.u _ _ _ _) rfl _ rfl rfl) rfl ?_;exact kT D.u (y.u.trans ((ei w1 (w.heap.size+1) (.slice none 0 0) (.int .i64 0) (.slice none 0 0) (.slice none 0 0)).bel (by omega)))
theorem nR(l r:Bool)(v lv:Value)(xs:List El)(bs:List Int)(w:World)(hv:az 0 w.heap.size w v xs)(hlv:aP mB 0 0 w.heap.size w lv bs)(hb:∀ x∈bs,0<=x/\x<=255)(hl:bs.length<=1048576)(htz:TZ w)(htl:Tryz.laysTZ_ren.g 1<w.heap.size) :
  Calls prog 8 #[.agg #[.bool l,.bool r,v],lv] w fun e w'=>aF e (eM l r xs bs)/\Below w.heap.size w w':=by
 obtain⟨a,cp,rfl,-,-⟩:=id hv;obtain⟨la,lc,rfl,-,-⟩:=id hlv;have Hv:=ae hv;have b2:=ae hlv;have Hb:=ae hb;have a6:Hi (∀ W,Below w.heap.size w W->TZ W):=fun W hW=>htz.below hW htl
 have V:=ai w (.cells #[.bool l,.bool r,.slice a xs.length cp] 25);have b3:(w.alloc (.cells #[.bool l,.bool r,.slice a xs.length cp] 25)).heap.size=w.heap.size+1:=ah _ _;clear hv hlv hb htz
 go_enter func8,ntmps8
 go_wp2_with fail;refine(iW (yt.and (tC (n:=bs.length) (hs:=mY bs))) l r _ xs _ (Hv.u.below V lR)).mono ?_;rintro e w1 ⟨a7,a8⟩;have d:Hi (Below w.heap.size w w1):=V.trans (a8.mono (by omega));clear a8 V b3;rcases a7 with ⟨U,L,rfl,⟨T,x,rfl⟩,hok,X,hL,hQ⟩|⟨rfl,t⟩
 ·by_cases hle:bs.length<=20000
  ·obtain⟨⟨A,ln,ss,c,z,p,B,a9⟩,aa⟩:=hQ;have ab:=lG l r L;have D:=jr (fS l r L);rw[a9.ws]at D;have b:aO (fS l r L)<=512:=by omega
   have b4:=d.u.size;have Y:=ae (gQ z b w1 (a6.u _ d.u) (by omega));have b5:=ae (ow Hb.u hle hok X aa p);have ad:=ae p.lkb;have E:=ae B;have b6:=ae p.len;have bb:(bs.length:Int)<=20000:=by omega
   have bc:¬ (20000:Int)<(bs.length:Int):=by omega
   obtain⟨N,af⟩ : ∃ N,N=aO (fS l r L):=⟨_,rfl⟩;rw[<-af]at Y ad E b b6;clear z p B a9 aa hok X hL ab D af
   go_wp2_with fail;refine Y.u.mono ?_;rintro e w2 ⟨f,l2,rfl,G,hf,ag,al⟩;obtain⟨sv,gs,fv,fs,c0,an,Z,a0,a1,I,J⟩:=G.rd;have b7:w1.heap.size<w2.heap.size:=by obtain⟨⟨F,h1,-⟩,-⟩:=a1;exact h1.lt
   have ao:=ae (jH w1.heap.size N sv gs w2 c0 b7 an (fun i hi=>(a0 i hi).1) b);have ap:Hi (Below w.heap.size w w2):=d.u.trans (al.mono b4);have b8:=ae a1;have HF:=ae hf;have aq:=ae ag;have O:=ae I;have ar:=ae J;have P:=ae a0;clear G hf ag al c0 an Z a0 a1 I J Y
   go_wp2_with fail;refine ao.u.mono ?_;rintro e w3 ⟨⟨gc,mm,K,hs,hv,ks,H,rfl,Q,m,a2,hH⟩,s⟩;have bd:=s.size;obtain⟨av,aw,rfl⟩:=aj m;obtain⟨W,hW⟩ : ∃ W,W=w3.alloc (.cells #[.pointer (some ⟨w1.heap.size,0,none⟩),.slice (some ⟨gc,0,none⟩) 256 256,.slice av mm aw] 54):=⟨_,rfl⟩;have a3:=xP b8.u s hW Q m a2 hH HF.u.1 aq.u.1 O.u;have a4:Below w.heap.size w w3:=ap.u.trans (s.mono ap.u.size);have o:Below w.heap.size w W:=by rw[hW];exact a4.alloc a4.size _
   have a5:=ae (qW w3.heap.size w1.heap.size N mm gc (.slice av mm aw) fv (.slice la bs.length lc) K hs fs A.nl f l2 bs W a3 (b2.u.below o lR) ⟨hle,Hb.u⟩ (a6.u _ o) (by have:=o.size;omega));have ax:=Dk (fs:=fs) (hs:=hs) (nl:=A.nl) (f:=f) (l:=l2) (C:=fun k=>K (bs[k]?.getD 0).toNat) (S:=cL (mY bs) ss) (M:=fun x y=>ce ln x y=true) (a:=A) (N:=N) b HF.u.1 O.u rfl (fun i=>by rw[HF.u.2,List.contains_iff_mem]) (fun i=>by rw[aq.u.2,List.contains_iff_mem]) (fun i j=>by rw[ar.u]) bs.length (fun k hk i=>by
    have bf:=Hb.u (bs[k]?.getD 0) (by rw[List.getElem?_eq_getElem hk];exact List.getElem_mem hk);have hx:(bs[k]?.getD 0).toNat<256:=by omega
    have hc:=a2.cl _ hx;have b9:=a3.inn _ hc.1 i
    by_cases e:i<512
    ·rw[<-Cy hc.2 i e,(hH _ hx).2 i]
     constructor
     ·rintro⟨q1,q2⟩;refine⟨q1,?_⟩;rw[jy (P.u i q1)]at q2;rw[show((bs[k]?.getD 0).toNat:Int)=bs[k]?.getD 0 by omega]at q2;exact q2
     rintro⟨q1,q2⟩;refine⟨q1,?_⟩;rw[jy (P.u i q1),show((bs[k]?.getD 0).toNat:Int)=bs[k]?.getD 0 by omega];exact q2
    constructor
    ·intro q;have:=b9 q;omega
    rintro⟨q,-⟩;omega) E.u.1 (fun i j h=>(gP ad.u h).2) bs.length lR
   have R:Hi ((nV fs hs A.nl f l2 (fun k=>K (bs[k]?.getD 0).toNat) bs.length).2=true↔eM l r xs bs):=ax.2.2.trans b5.u.symm;obtain⟨y,hy⟩ : ∃ y,y=(nV fs hs A.nl f l2 (fun k=>K (bs[k]?.getD 0).toNat) bs.length).2:=⟨_,rfl⟩;rw[<-hy]at R a5;have b0:=ae o;have HW:=ae hW;clear ax hy a3 Q m a2 hH s a4 o hW ao
   go_wp2_with fail;rw[<-HW.u];refine a5.u.mono ?_;rintro e w4 ⟨rfl,b1⟩;have HX:Hi (aF (.returned (.bool y)) (eM l r xs bs)/\Below w.heap.size w w4):=⟨⟨y,rfl,R.u⟩,b0.u.trans (b1.mono b0.u.size)⟩;clear b1 a5;go_wp2;go_ret;exact HX.u
  have bi:(20000:Int)<(bs.length:Int):=by omega
  have HX:Hi (aF (.returned (.bool false)) (eM l r xs bs)/\Below w.heap.size w w1):=⟨aF.no (fun h=>hle h.2.1),d.u⟩;clear hok X hL hQ;go_wp2;go_ret;exact HX.u
 have HX:Hi (aF (.returned (.bool false)) (eM l r xs bs)/\Below w.heap.size w w1):=⟨aF.no (fun h=>t h.1),d.u⟩;clear t;go_wp2;go_ret;exact HX.u
end Go.Proofs.YtpmcjimgkabpeaaGreatDoor
