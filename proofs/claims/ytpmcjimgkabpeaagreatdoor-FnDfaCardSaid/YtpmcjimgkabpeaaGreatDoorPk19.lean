import Derived.Test.YtpmcjimgkabpeaaGreatDoorPk18
import Derived.Test.YtpmcjimgkabpeaaGreatDoorPk14
import Derived.Lib.SmallJoins
import Derived.Deep.Slices
import Derived.OpenShut
import Derived.ShutString
import Derived.ChangeOld
namespace Go.Proofs.YtpmcjimgkabpeaaGreatDoor
open Go.RowKit Go.Proofs.Tryz
set_option maxHeartbeats 16000000
set_option maxRecDepth 100000
theorem ed{w:World}{ops:Array Oper}{rest:List Oper}{o:Oper}{a:Act}{Q:Exit->Act->World->Prop}(hgd:o.guard=none)(s x:Operand)
  (ho:o.op=.call { callee:=.builtin .append,args:=#[s,x],argTypes:=#[22,22] })(base:Nat)(ov:Value)(hs:a.eval s=ov)(os:List Int)(hown:w.ownsRow base 5 1 ov os.length (os.map mB))(hbase:base<=w.heap.size)
  (sv:Value)(hx:a.eval x=sv)(xs:List Int)(hv:aP mB 0 0 w.heap.size w sv xs)(hlen:os.length+xs.length<=1073741824)
  (h:∀ v' w',Below base w w'->w'.ownsRow base 5 1 v' (os++xs).length ((os++xs).map mB)->v'.oneCell'=true->wpList prog ops Q rest (a.put o.dst v') w'):wpList prog ops Q (o::rest) a w:=by
 obtain⟨i0,hi,d,f,g⟩:=info_parts Tryz.zinByte;obtain⟨sa,sc,rfl,hl,hc⟩:=hv;cases sa with
 | none =>
  have h0:xs.length=0:=by
   by_cases q:0<xs.length
   ·obtain⟨b,off,e,-⟩:=hc q;simp at e
   omega
  rw[h0]at hx;refine bk hgd s x 22 ho base 5 i0 1 underlying22 hi _ os.length (os.map mB) hs hown sc hx (h _ w (Below.refl _ _) (by rw[List.eq_nil_of_length_eq_zero h0,List.append_nil];exact hown) ?_)
  obtain⟨oa,oc,rfl⟩:=aj hown
  rfl
 | some ad =>
  refine wpList_append_own_at w hgd s x 22 ho base 5 i0 (.int .u8 0) 1 1 underlying22 hi d f g rfl (by decide) _ os.length (os.map mB) hs hown ad xs.length sc (xs.map mB) hx (by simp) ?_ ?_ (by unfold maxLen;omega) (by omega) hbase ?_
  ·intro j u hu;have hj:j<xs.length:=by
    have:=(List.getElem?_eq_some_iff.1 hu).1
    simpa using this
   obtain⟨b,off,e,-,-,c⟩:=hc (by omega);simp only[Option.some.injEq]at e;subst e;rw[List.getElem?_map,dU hj]at hu;simp only[Option.map_some,Option.some.injEq]at hu;subst hu;have e3:(⟨b,off,none⟩ : Addr).add j=⟨b,off+j,none⟩:=by cases j<;>rfl
   rw[e3];exact c j hj
  ·intro u hu;obtain⟨y,-,rfl⟩:=List.mem_map.1 hu
   rfl
  intro v' w' h1 hg _ _;have h2:w'.ownsRow base 5 1 v' (os++xs).length ((os++xs).map mB):=by rw[List.length_append,List.map_append];exact h1
  obtain⟨oa,oc,rfl⟩:=aj h2;exact h _ w' ((Below.refl _ _).grown hg hbase (fun k hk=>(hown.lt k hk).1)) h2 rfl
theorem eu{base n:Nat}{w:World}{v:Value}{xs:List Int}(h:w.ownsRow base 5 1 v n (xs.map mB))(hn:n<=maxLen):aP mB 0 0 w.heap.size w v xs:=by
 have a:=h.1;rw[List.length_map,Nat.mul_one]at a;rcases h.2 with ⟨rfl,hz⟩|⟨g,cap,cur,rfl,c,hg,d,e,f,b⟩
 ·exact⟨none,0,by rw[a,hz],by omega,fun hp=>by omega⟩
 refine⟨_,cap,by rw[a],by omega,fun hp=>⟨g,0,rfl,Nat.zero_le _,(h.lt g rfl).2,fun i hi=>?_⟩⟩;rw[Nat.zero_add,h.cellAt i (by omega),List.getElem?_map,dU hi]
 rfl
theorem Be{w:World}{x:Int}:aP mB 0 0 (w.alloc (.cells #[.int .u8 x] 5)).heap.size (w.alloc (.cells #[.int .u8 x] 5)) (.slice (some ⟨w.heap.size,0,none⟩) 1 1) [x]:=
 eu (base:=w.heap.size) (n:=1) (World.ownsRow_lit w #[.int .u8 x] 1 lR (by unfold maxLen;omega) rfl) (by unfold maxLen;omega)
theorem bZ.app{xs ys:List Int}(h:bZ xs)(k:bZ ys):bZ (xs++ys):=fun x hx=>by
 rcases List.mem_append.1 hx with q|q
 ·exact h x q
 exact k x q
theorem zk{base n e:Nat}{w:World}{v:Value}{xs:List Value}(h:w.ownsRow base e 1 v n xs)(hp:0<n):∃ g cap,v=.slice (some ⟨g,0,none⟩) n cap/\base<=g:=by
 rcases h.2 with ⟨rfl,hz⟩|⟨g,cap,cur,rfl,a,hg,c,d,f,b⟩
 ·omega
 exact⟨g,cap,rfl,a⟩
def FZ(N D:Nat)(R:List Int×List Int)(w:World)(e:Ending)(w':World):Prop:=∃ v,e=.returned v/\w'.ownsRow w.heap.size 5 1 v R.1.length (R.1.map mB)/\bm N D w' R.2/\Mv w.heap.size D w w'
theorem ju:bZ []:=fun _ hx=>absurd hx (List.not_mem_nil)
theorem Bv{b:Int}(h0:0<=b)(h1:b<=255):bZ [b]:=fun x hx=>by rw[List.mem_singleton.1 hx];exact⟨h0,h1⟩
def zI:Nat->List Int->List Int×List Int
 | 0,xs=>([],xs)
 | n+1,xs=>(dB (xs.headD 0)::(zI n xs.tail).1,(zI n xs.tail).2)
theorem yM:∀ (n:Nat) (xs:List Int),bZ xs->(zI n xs).1.length=n/\bZ (zI n xs).1/\bZ (zI n xs).2
 | 0,xs,h=>⟨rfl,ju,h⟩
 | n+1,xs,h=>by
  have k:=yM n xs.tail h.tail;refine⟨by show(_::_).length=_;rw[List.length_cons,k.1],fun x hx=>?_,k.2.2⟩;rcases List.mem_cons.1 (show x∈dB (xs.headD 0)::(zI n xs.tail).1 from hx) with rfl|hx
  ·exact fm
  exact k.2.1 x hx
def eW(xs:List Int):List Int×List Int:=zI (xs.headD 0%6).toNat xs.tail
theorem xL{xs:List Int}(h:bZ xs):(eW xs).1.length<=5/\bZ (eW xs).1/\bZ (eW xs).2:=by
 have:=yM (xs.headD 0%6).toNat xs.tail h.tail;exact⟨by unfold eW;omega,this.2⟩
theorem yj(N D:Nat)(xs:List Int)(w:World)(h:bm N D w xs)(hx:bZ xs)(hD:D<w.heap.size) :
  Calls prog 30 #[.pointer (some ⟨D,0,none⟩)] w (FZ N D (eW xs) w):=by
 have H:=ae h;have HX:=ae hx;have hh:=hx.head;obtain⟨R,hR⟩ : ∃ R,eW xs=R:=⟨_,rfl⟩;rw[hR];unfold eW at hR;obtain⟨y,hy⟩ : ∃ y,xs.headD 0=y:=⟨_,rfl⟩;rw[hy]at hh hR;have HY:=ae hy;clear hy hx h;obtain⟨n,hn⟩ : ∃ n:Nat,(y%6).toNat=n:=⟨_,rfl⟩;rw[hn]at hR;have s:y%6=(n:Int):=by omega
 have W:n<=5:=by omega
 have HN:=ae s;have HR:=ae hR;clear hn s hR
 go_enter func30,ntmps30
 go_wp2_with fail;refine(aC N D xs w H.u HX.u).mono ?_;rintro e w1 ⟨he,t,v⟩;rw[HY.u]at he;subst he;have I:=ae t;have J:=ae (v.mv w.heap.size);clear t v;go_wp2
 go_loopw [4,5] (fun ov i wr=>∃ (m:Nat) (zs os:List Int),m<=n/\i=.int .i64 (m:Nat)/\bZ zs/\os.length=m/\(os++(zI (n-m) zs).1=R.1/\(zI (n-m) zs).2=R.2)/\wr.ownsRow w.heap.size 5 1 ov m (os.map mB)/\bm N D wr zs/\Mv w.heap.size D w wr) (fun _ i _=>n-(intOf i).toNat)
 case atStart=>exact⟨0,xs.tail,[],Nat.zero_le _,rfl,HX.u.tail,rfl,⟨by rw[<-HR.u];rfl,by rw[<-HR.u];rfl⟩,World.ownsRow_nil _ _ _ _,I.u,J.u⟩
 obtain⟨m,zs,os,hm,rfl,k,l,c,a,o,f⟩:=hrel;have HO:=ae a;have x:=ae o;have z:=ae f;have HZ:=ae k;have g:=ae l;have U:=f.size;obtain⟨oa,oc,rfl⟩:=aj a
 by_cases hlt:m<n
 ·have A:(m:Int)<y%6:=by have:=HN.u;omega
  obtain⟨q,hq⟩ : ∃ q,n-m=q+1:=⟨n-m-1,by omega⟩;have B:n-(m+1)=q:=by omega
  rw[hq,zI]at c;have HQ:=ae B;have d:=ae c;have K:=fm (y:=zs.headD 0);obtain⟨b,hb⟩ : ∃ y,dB (zs.headD 0)=y:=⟨_,rfl⟩;rw[hb]at K d;have L:=ae hb;clear a o f k l hb c hq B
  go_wp2_with fail;refine(cJ N D zs wr x.u HZ.u).mono ?_;rintro e w4 ⟨he,C,j⟩;rw[L.u]at he;subst he;have X:wr.heap.size<=w4.heap.size:=Nat.le_of_eq j.size.symm;have M:=ae C;have O:=ae (z.u.trans (j.mv w.heap.size));have P:=ae (eQ HO.u (j.mv wr.heap.size) lR hD);clear C j
  go_wp2_with (at_builtin;refine ed rfl _ _ rfl w.heap.size _ rfl os (by rw[g.u];exact P.u.alloc _) (by rw[ah];omega) _ rfl [b] (by exact Be) (by rw[g.u];simp;omega) ?_;intro v5 w5 E F V);have p:Below w.heap.size w4 w5:=(ai w4 _).mono (by omega) |>.trans E;have Q:=ae (M.u.keep p hD);have S:=ae (O.u.trans (Below.mv p D));have G:=ae F;have r:(os++[b]).length=m+1:=by simp[g.u]
  rw[r]at G;have T:=ae r;clear F r E p;go_wp2;refine⟨⟨m+1,zs.tail,os++[b],by omega,by go_num,HZ.u.tail,T.u,?_,G.u,Q.u,S.u⟩,by simp[intOf];omega⟩;rw[HQ.u,List.append_assoc,List.singleton_append];exact d.u
 obtain rfl:m=n:=by omega
 have A:¬ (m:Int)<y%6:=by have:=HN.u;omega
 rw[Nat.sub_self,zI,List.append_nil]at c;have d:=ae c;clear a o f k l c;go_wp2;go_ret;refine⟨_,rfl,?_,?_,z.u⟩
 ·rw[<-d.u.1,g.u];exact HO.u
 rw[<-d.u.2];exact x.u
theorem wH{base e n:Nat}{w w':World}{v:Value}{xs:List Value}(h:w.ownsRow base e 1 v n xs)(hb:base<=w.heap.size)(hg:w.grownBy w' v.ownBlock):Below base w w':=(Below.refl base w).grown hg hb (fun k hk=>(h.lt k hk).1)
theorem ge{w:World}{ops:Array Oper}{rest:List Oper}{o:Oper}{a:Act}{Q:Exit->Act->World->Prop}(hgd:o.guard=none)(s x:Operand)
  (ho:o.op=.call { callee:=.builtin .append,args:=#[s,x],argTypes:=#[30,30] })(base:Nat)(v:Value)(hs:a.eval s=v)(y:Int)(hx:a.eval x=.slice (some ⟨w.heap.size,0,none⟩) 1 1)(n:Nat)(xs:List Int)(hn:n=xs.length)
  (h1:w.ownsRow base 3 1 v n (xs.map mI))(hb:base<=w.heap.size)(hl:n<=1000000)
  (h:∀ v' w',w'.ownsRow base 3 1 v' (n+1) ((xs++[y]).map mI)->Below base w w'->wpList prog ops Q rest (a.put o.dst v') w'):wpList prog ops Q (o::rest) a (w.alloc (.cells #[.int .i64 y] 3)):=by
 subst hn;obtain⟨i0,hi,b,c,d⟩:=info_parts Tryz.zinInt;refine wpList_append_own_at _ hgd s x 30 ho base 3 i0 (.int .i64 0) 1 8 underlying30 hi b c d rfl (by decide) v xs.length (xs.map mI) hs (h1.alloc _) ⟨w.heap.size,0,none⟩ 1 1 [.int .i64 y] hx rfl (fun j y hj=>by
  match j,hj with
  | 0,hj=>exact(au w _).news 0 _ hj) (fun u hu=>by rw[List.mem_singleton]at hu;subst hu;rfl) (by unfold maxLen;omega) (by omega) (by rw[ah];omega) ?_
 intro v' w' r1 r2 _ r3;refine h v' w' ?_ ((ai w _).mono hb |>.trans (wH (h1.alloc _) (by rw[ah];omega) r2));rw[List.map_append];exact r1
def gw(w:World)(mb:Nat)(p:Nat->Bool):Prop:=w.rowIs mb 4 256 (fun j=>.bool (p j))
def gG(p:Nat->Bool)(k:Nat):List Int:=(List.range k).flatMap (lq p)
theorem iX(p:Nat->Bool)(k:Nat):gG p (k+1)=gG p k++lq p k:=by unfold gG;rw[List.range_succ,List.flatMap_append];simp
theorem Ea{p:Nat->Bool}{k:Nat}(h:p k=false):lq p k=[]:=by simp[lq,h]
theorem fQ{p:Nat->Bool}{k:Nat}(h:p k=true)(s c:Bool)(hs:(k==0 || !p (k-1))=s)(hc:(k==255 || !p (k+1))=c):lq p k=(if s then [(k:Int)] else [])++(if c then [(k:Int)] else []):=by
 simp only[lq,h,hs,hc,Bool.true_and]
theorem Fl{p:Nat->Bool}{k:Nat}(h:k=0):(k==0 || !p (k-1))=true:=by rw[h];rfl
theorem CM{p:Nat->Bool}{k:Nat}(h:p (k-1)=false):(k==0 || !p (k-1))=true:=by rw[h];simp
theorem Ds{p:Nat->Bool}{k:Nat}(h0:¬ k=0)(h:p (k-1)=true):(k==0 || !p (k-1))=false:=by rw[h];simp[h0]
theorem EL{p:Nat->Bool}{k:Nat}(h:k=255):(k==255 || !p (k+1))=true:=by rw[h];rfl
theorem DX{p:Nat->Bool}{k:Nat}(h:p (k+1)=false):(k==255 || !p (k+1))=true:=by rw[h];simp
theorem Dt{p:Nat->Bool}{k:Nat}(h0:¬ k=255)(h:p (k+1)=true):(k==255 || !p (k+1))=false:=by rw[h];simp[h0]
theorem qG(A B C:List Int):(A++B++C).length=A.length+B.length+C.length:=by rw[List.length_append,List.length_append]
theorem Bf(p:Nat->Bool)(k:Nat):(lq p k).length<=2:=by
 unfold lq;rw[List.length_append]
 split<;>split<;>simp
theorem pC(p:Nat->Bool):∀ k,(gG p k).length<=2*k
 | 0=>by simp[gG]
 | k+1=>by
  rw[iX,List.length_append];have:=pC p k;have:=Bf p k;omega
theorem jw(mb:Nat)(p:Nat->Bool)(w:World)(hm:gw w mb p) :
  Calls prog 125 #[.slice (some ⟨mb,0,none⟩) 256 256] w fun e w'=>∃ v,e=.returned v/\w'.ownsRow w.heap.size 3 1 v (vn p).length ((vn p).map mI)/\Below w.heap.size w w':=by
 have q:=DL hm;have HM:=ae hm;clear hm
 go_enter func125,ntmps125
 go_wp2_with fail
 go_loopw [3,4] (fun ov bv wr=>∃ (k n:Nat),k<=256/\bv=.int .i64 (k:Nat)/\n=(gG p k).length/\wr.ownsRow w.heap.size 3 1 ov n ((gG p k).map mI)/\Below w.heap.size w wr) (fun _ bv _=>256-(intOf bv).toNat)
 case atStart=>exact⟨0,0,by omega,rfl,rfl,World.ownsRow_nil _ _ _ _,Below.refl _ _⟩
 obtain⟨k,n,hk,rfl,hn,s,hB⟩:=hrel;obtain⟨w3,rfl⟩ : ∃ w3,w3=wr:=⟨_,rfl⟩;obtain⟨oa,oc,rfl⟩:=aj s;have t:=hB.size;have A:n<=600:=by rw[hn];have:=pC p k;omega
 have HO:=ae s;have HB:=ae hB;have HN:=ae hn;have rM:=HM.u.of_block (hB.block mb q);clear s hB hn
 by_cases hlt:k<256
 ·have z:(k:Int)<256:=by omega
  have x0:=rM.cell (i:=k) hlt;have x:Hi (n+1=(gG p k++[(k:Int)]).length):=by show _=_;rw[List.length_append,List.length_singleton,<-HN.u]
  cases hp:p k with
  | false =>
   rw[hp]at x0;have HE:Hi (gG p (k+1)=gG p k):=by show _=_;rw[iX,Ea hp,List.append_nil]
   clear rM hp;go_wp2
   go_roundw
   case rel=>exact⟨k+1,n,by omega,by go_num,by rw[HE.u];exact HN.u,by rw[HE.u];exact HO.u,HB.u⟩
   simp[intOf];omega
  | true =>
   rw[hp]at x0
   by_cases k0:k=0
   ·by_cases k5:k=255
    ·omega
    cases p2:p (k+1) with
    | false =>
     have HE:Hi (gG p (k+1)=gG p k++[(k:Int)]++[(k:Int)]):=by
      show _=_;rw[iX,fQ hp true true (Fl k0) (DX p2),List.append_assoc]
      rfl
     have kk0:((k:Int)==0)=true:=by simp;omega
     have kk5:((k:Int)==255)=false:=by simp;omega
     have kk6:(k:Int)+1<256:=by omega
     have h:Hi (∀ W:World,Below w.heap.size w W->W.cell? ⟨mb,0+(k+1),none⟩=some (.bool false)):=fun W hW=>by
      have h9:=(HM.u.of_block (hW.block mb q)).cell (i:=k+1) (by omega);rw[p2]at h9;rw[Nat.zero_add];exact h9
     clear rM hp p2 k0 k5
     go_wp2_with (at_builtin;refine ge rfl _ _ rfl w.heap.size (.slice oa n oc) rfl (k:Int) rfl n (gG p k) HN.u HO.u t (by omega) ?_)
     intro v4 w4 a c;obtain⟨o4,d4,rfl⟩:=aj a;obtain⟨L4,b⟩ : ∃ L4,L4=gG p k++[(k:Int)]:=⟨_,rfl⟩
     replace a:w4.ownsRow w.heap.size 3 1 (.slice o4 (n+1) d4) (n+1) (L4.map mI):=by rw[b,List.map_append];exact a
     have j:=ae b;have r:Hi (n+1=L4.length):=by rw[b];exact x.u
     clear b;have l:=ae a;have g:=ae (HB.u.trans c);have y:=c.size;have x2:=h.u w4 g.u;rw[Nat.zero_add]at x2;clear a c
     go_wp2_with (at_builtin;refine ge rfl _ _ rfl w.heap.size (.slice o4 (n+1) d4) rfl (k:Int) rfl (n+1) L4 r.u l.u (by omega) (by omega) ?_)
     intro v5 w5 d f;obtain⟨o5,d5,rfl⟩:=aj d;have m:=ae d;have o:=ae (g.u.trans f);clear d f;go_wp2
     go_roundw
     case rel=>exact⟨k+1,n+1+1,by omega,by go_num,by rw[HE.u,qG,<-HN.u];rfl,by rw[HE.u,<-j.u];simpa using m.u,o.u⟩
     simp[intOf];omega
    | true =>
     have HE:Hi (gG p (k+1)=gG p k++[(k:Int)]++[]):=by
      show _=_;rw[iX,fQ hp true false (Fl k0) (Dt k5 p2),List.append_assoc]
      rfl
     have kk0:((k:Int)==0)=true:=by simp;omega
     have kk5:((k:Int)==255)=false:=by simp;omega
     have kk6:(k:Int)+1<256:=by omega
     have h:Hi (∀ W:World,Below w.heap.size w W->W.cell? ⟨mb,0+(k+1),none⟩=some (.bool true)):=fun W hW=>by
      have h9:=(HM.u.of_block (hW.block mb q)).cell (i:=k+1) (by omega);rw[p2]at h9;rw[Nat.zero_add];exact h9
     clear rM hp p2 k0 k5
     go_wp2_with (at_builtin;refine ge rfl _ _ rfl w.heap.size (.slice oa n oc) rfl (k:Int) rfl n (gG p k) HN.u HO.u t (by omega) ?_)
     intro v4 w4 a c;obtain⟨o4,d4,rfl⟩:=aj a;obtain⟨L4,b⟩ : ∃ L4,L4=gG p k++[(k:Int)]:=⟨_,rfl⟩
     replace a:w4.ownsRow w.heap.size 3 1 (.slice o4 (n+1) d4) (n+1) (L4.map mI):=by rw[b,List.map_append];exact a
     have j:=ae b;have r:Hi (n+1=L4.length):=by rw[b];exact x.u
     clear b;have l:=ae a;have g:=ae (HB.u.trans c);have y:=c.size;have x2:=h.u w4 g.u;rw[Nat.zero_add]at x2;clear a c;go_wp2
     go_roundw
     case rel=>exact⟨k+1,n+1,by omega,by go_num,by rw[HE.u,qG,<-HN.u];rfl,by rw[HE.u,<-j.u];simpa using l.u,g.u⟩
     simp[intOf];omega
   cases p1:p (k-1) with
   | false =>
    by_cases k5:k=255
    ·have HE:Hi (gG p (k+1)=gG p k++[(k:Int)]++[(k:Int)]):=by
      show _=_;rw[iX,fQ hp true true (CM p1) (EL k5),List.append_assoc]
      rfl
     have kk0:((k:Int)==0)=false:=by simp;omega
     have kk1:(0:Int)<=(k:Int)-1:=by omega
     have kk2:(k:Int)-1<256:=by omega
     have x1:=rM.cell (i:=k-1) (by omega);rw[p1]at x1;have kk3:((k:Int)-1).toNat=k-1:=by omega
     have kk5:((k:Int)==255)=true:=by simp;omega
     clear rM hp p1 k0 k5
     go_wp2_with (at_builtin;refine ge rfl _ _ rfl w.heap.size (.slice oa n oc) rfl (k:Int) rfl n (gG p k) HN.u HO.u t (by omega) ?_)
     intro v4 w4 a c;obtain⟨o4,d4,rfl⟩:=aj a;obtain⟨L4,b⟩ : ∃ L4,L4=gG p k++[(k:Int)]:=⟨_,rfl⟩
     replace a:w4.ownsRow w.heap.size 3 1 (.slice o4 (n+1) d4) (n+1) (L4.map mI):=by rw[b,List.map_append];exact a
     have j:=ae b;have r:Hi (n+1=L4.length):=by rw[b];exact x.u
     clear b;have l:=ae a;have g:=ae (HB.u.trans c);have y:=c.size;clear a c
     go_wp2_with (at_builtin;refine ge rfl _ _ rfl w.heap.size (.slice o4 (n+1) d4) rfl (k:Int) rfl (n+1) L4 r.u l.u (by omega) (by omega) ?_)
     intro v5 w5 d f;obtain⟨o5,d5,rfl⟩:=aj d;have m:=ae d;have o:=ae (g.u.trans f);clear d f;go_wp2
     go_roundw
     case rel=>exact⟨k+1,n+1+1,by omega,by go_num,by rw[HE.u,qG,<-HN.u];rfl,by rw[HE.u,<-j.u];simpa using m.u,o.u⟩
     simp[intOf];omega
    cases p2:p (k+1) with
    | false =>
     have HE:Hi (gG p (k+1)=gG p k++[(k:Int)]++[(k:Int)]):=by
      show _=_;rw[iX,fQ hp true true (CM p1) (DX p2),List.append_assoc]
      rfl
     have kk0:((k:Int)==0)=false:=by simp;omega
     have kk1:(0:Int)<=(k:Int)-1:=by omega
     have kk2:(k:Int)-1<256:=by omega
     have x1:=rM.cell (i:=k-1) (by omega);rw[p1]at x1;have kk3:((k:Int)-1).toNat=k-1:=by omega
     have kk5:((k:Int)==255)=false:=by simp;omega
     have kk6:(k:Int)+1<256:=by omega
     have h:Hi (∀ W:World,Below w.heap.size w W->W.cell? ⟨mb,0+(k+1),none⟩=some (.bool false)):=fun W hW=>by
      have h9:=(HM.u.of_block (hW.block mb q)).cell (i:=k+1) (by omega);rw[p2]at h9;rw[Nat.zero_add];exact h9
     clear rM hp p1 p2 k0 k5
     go_wp2_with (at_builtin;refine ge rfl _ _ rfl w.heap.size (.slice oa n oc) rfl (k:Int) rfl n (gG p k) HN.u HO.u t (by omega) ?_)
     intro v4 w4 a c;obtain⟨o4,d4,rfl⟩:=aj a;obtain⟨L4,b⟩ : ∃ L4,L4=gG p k++[(k:Int)]:=⟨_,rfl⟩
     replace a:w4.ownsRow w.heap.size 3 1 (.slice o4 (n+1) d4) (n+1) (L4.map mI):=by rw[b,List.map_append];exact a
     have j:=ae b;have r:Hi (n+1=L4.length):=by rw[b];exact x.u
     clear b;have l:=ae a;have g:=ae (HB.u.trans c);have y:=c.size;have x2:=h.u w4 g.u;rw[Nat.zero_add]at x2;clear a c
     go_wp2_with (at_builtin;refine ge rfl _ _ rfl w.heap.size (.slice o4 (n+1) d4) rfl (k:Int) rfl (n+1) L4 r.u l.u (by omega) (by omega) ?_)
     intro v5 w5 d f;obtain⟨o5,d5,rfl⟩:=aj d;have m:=ae d;have o:=ae (g.u.trans f);clear d f;go_wp2
     go_roundw
     case rel=>exact⟨k+1,n+1+1,by omega,by go_num,by rw[HE.u,qG,<-HN.u];rfl,by rw[HE.u,<-j.u];simpa using m.u,o.u⟩
     simp[intOf];omega
    | true =>
     have HE:Hi (gG p (k+1)=gG p k++[(k:Int)]++[]):=by
      show _=_;rw[iX,fQ hp true false (CM p1) (Dt k5 p2),List.append_assoc]
      rfl
     have kk0:((k:Int)==0)=false:=by simp;omega
     have kk1:(0:Int)<=(k:Int)-1:=by omega
     have kk2:(k:Int)-1<256:=by omega
     have x1:=rM.cell (i:=k-1) (by omega);rw[p1]at x1;have kk3:((k:Int)-1).toNat=k-1:=by omega
     have kk5:((k:Int)==255)=false:=by simp;omega
     have kk6:(k:Int)+1<256:=by omega
     have h:Hi (∀ W:World,Below w.heap.size w W->W.cell? ⟨mb,0+(k+1),none⟩=some (.bool true)):=fun W hW=>by
      have h9:=(HM.u.of_block (hW.block mb q)).cell (i:=k+1) (by omega);rw[p2]at h9;rw[Nat.zero_add];exact h9
     clear rM hp p1 p2 k0 k5
     go_wp2_with (at_builtin;refine ge rfl _ _ rfl w.heap.size (.slice oa n oc) rfl (k:Int) rfl n (gG p k) HN.u HO.u t (by omega) ?_)
     intro v4 w4 a c;obtain⟨o4,d4,rfl⟩:=aj a;obtain⟨L4,b⟩ : ∃ L4,L4=gG p k++[(k:Int)]:=⟨_,rfl⟩
     replace a:w4.ownsRow w.heap.size 3 1 (.slice o4 (n+1) d4) (n+1) (L4.map mI):=by rw[b,List.map_append];exact a
     have j:=ae b;have r:Hi (n+1=L4.length):=by rw[b];exact x.u
     clear b;have l:=ae a;have g:=ae (HB.u.trans c);have y:=c.size;have x2:=h.u w4 g.u;rw[Nat.zero_add]at x2;clear a c;go_wp2
     go_roundw
     case rel=>exact⟨k+1,n+1,by omega,by go_num,by rw[HE.u,qG,<-HN.u];rfl,by rw[HE.u,<-j.u];simpa using l.u,g.u⟩
     simp[intOf];omega
   | true =>
    by_cases k5:k=255
    ·have HE:Hi (gG p (k+1)=gG p k++[]++[(k:Int)]):=by
      show _=_;rw[iX,fQ hp false true (Ds k0 p1) (EL k5),List.append_assoc]
      rfl
     have kk0:((k:Int)==0)=false:=by simp;omega
     have kk1:(0:Int)<=(k:Int)-1:=by omega
     have kk2:(k:Int)-1<256:=by omega
     have x1:=rM.cell (i:=k-1) (by omega);rw[p1]at x1;have kk3:((k:Int)-1).toNat=k-1:=by omega
     have kk5:((k:Int)==255)=true:=by simp;omega
     clear rM hp p1 k0 k5
     go_wp2_with (at_builtin;refine ge rfl _ _ rfl w.heap.size (.slice oa n oc) rfl (k:Int) rfl (n) (gG p k) HN.u HO.u (by omega) (by omega) ?_)
     intro v5 w5 d f;obtain⟨o5,d5,rfl⟩:=aj d;have m:=ae d;have o:=ae (HB.u.trans f);clear d f;go_wp2
     go_roundw
     case rel=>exact⟨k+1,n+1,by omega,by go_num,by rw[HE.u,qG,<-HN.u];rfl,by rw[HE.u];simpa using m.u,o.u⟩
     simp[intOf];omega
    cases p2:p (k+1) with
    | false =>
     have HE:Hi (gG p (k+1)=gG p k++[]++[(k:Int)]):=by
      show _=_;rw[iX,fQ hp false true (Ds k0 p1) (DX p2),List.append_assoc]
      rfl
     have kk0:((k:Int)==0)=false:=by simp;omega
     have kk1:(0:Int)<=(k:Int)-1:=by omega
     have kk2:(k:Int)-1<256:=by omega
     have x1:=rM.cell (i:=k-1) (by omega);rw[p1]at x1;have kk3:((k:Int)-1).toNat=k-1:=by omega
     have kk5:((k:Int)==255)=false:=by simp;omega
     have kk6:(k:Int)+1<256:=by omega
     have h:Hi (∀ W:World,Below w.heap.size w W->W.cell? ⟨mb,0+(k+1),none⟩=some (.bool false)):=fun W hW=>by
      have h9:=(HM.u.of_block (hW.block mb q)).cell (i:=k+1) (by omega);rw[p2]at h9;rw[Nat.zero_add];exact h9
     have x2:=h.u w3 HB.u;rw[Nat.zero_add]at x2;clear rM hp p1 p2 k0 k5
     go_wp2_with (at_builtin;refine ge rfl _ _ rfl w.heap.size (.slice oa n oc) rfl (k:Int) rfl (n) (gG p k) HN.u HO.u (by omega) (by omega) ?_)
     intro v5 w5 d f;obtain⟨o5,d5,rfl⟩:=aj d;have m:=ae d;have o:=ae (HB.u.trans f);clear d f;go_wp2
     go_roundw
     case rel=>exact⟨k+1,n+1,by omega,by go_num,by rw[HE.u,qG,<-HN.u];rfl,by rw[HE.u];simpa using m.u,o.u⟩
     simp[intOf];omega
    | true =>
     have HE:Hi (gG p (k+1)=gG p k++[]++[]):=by
      show _=_;rw[iX,fQ hp false false (Ds k0 p1) (Dt k5 p2),List.append_assoc]
      rfl
     have kk0:((k:Int)==0)=false:=by simp;omega
     have kk1:(0:Int)<=(k:Int)-1:=by omega
     have kk2:(k:Int)-1<256:=by omega
     have x1:=rM.cell (i:=k-1) (by omega);rw[p1]at x1;have kk3:((k:Int)-1).toNat=k-1:=by omega
     have kk5:((k:Int)==255)=false:=by simp;omega
     have kk6:(k:Int)+1<256:=by omega
     have h:Hi (∀ W:World,Below w.heap.size w W->W.cell? ⟨mb,0+(k+1),none⟩=some (.bool true)):=fun W hW=>by
      have h9:=(HM.u.of_block (hW.block mb q)).cell (i:=k+1) (by omega);rw[p2]at h9;rw[Nat.zero_add];exact h9
     have x2:=h.u w3 HB.u;rw[Nat.zero_add]at x2;clear rM hp p1 p2 k0 k5;go_wp2
     go_roundw
     case rel=>exact⟨k+1,n,by omega,by go_num,by rw[HE.u,qG,<-HN.u];rfl,by rw[HE.u];simpa using HO.u,HB.u⟩
     simp[intOf];omega
 obtain rfl:k=256:=by omega
 go_wp2;go_ret;refine⟨_,rfl,?_,HB.u⟩;show w3.ownsRow _ _ _ (.slice oa n oc) (gG p 256).length _;rw[<-HN.u];exact HO.u
theorem gw.eq{w:World}{mb:Nat}{p p':Nat->Bool}(h:gw w mb p)(e:∀ j,j<256->p' j=p j):gw w mb p':=World.rowIs.congr h (fun j hj=>by rw[e j hj])
theorem gw.put{w:World}{mb:Nat}{p:Nat->Bool}(h:gw w mb p)(k:Nat)(v:Bool):gw (w.setCell ⟨mb,k,none⟩ (.bool v)) mb (fun j=>if j=k then v else p j):=(World.rowIs.set h k (.bool v)).congr (fun j hj=>by by_cases e:j=k<;>simp[e])
theorem vY(w:World):gw (w.alloc (.cells (madeCells #[.bool false] 256) 4)) w.heap.size (fun _=>false):=World.rowIs_made w (.bool false) 256 4
theorem xA{base n e g cap j:Nat}{w:World}{xs:List Int}(h:w.ownsRow base e 1 (.slice (some ⟨g,0,none⟩) n cap) n (xs.map mB))(hj:j<n):w.cell? ⟨g,j,none⟩=some (mB (xs[j]?.getD 0))/\w.frozen? ⟨g,j,none⟩=false:=by
 have hl:n=xs.length:=by have:=h.1;rw[List.length_map]at this;omega
 refine⟨?_,h.frozenAt j⟩;rw[h.cellAt j (by omega),List.getElem?_map,dU (by omega)]
 rfl
theorem zQ{base n e g cap j:Nat}{w:World}{xs:List Int}{y:Int}(h:w.ownsRow base e 1 (.slice (some ⟨g,0,none⟩) n cap) n (xs.map mB))(hj:j<n):(w.setCell ⟨g,j,none⟩ (.int .u8 y)).ownsRow base e 1 (.slice (some ⟨g,0,none⟩) n cap) n ((xs.set j y).map mB):=by
 have h1:=BC (u:=mB y) h hj;rw[<-List.map_set]at h1;exact h1
structure Ag (T1 T2 T3:Nat->Prop) (w:World) (cv nv av:Value) (xs ys:List Int) (zs:List Bool):Prop where
 x:ij mI 0 T1 w cv xs
 y:ij mI 0 T2 w nv ys
 z:ij mT false T3 w av zs
theorem Ag.same{T1 T2 T3:Nat->Prop}{w w':World}{cv nv av:Value}{xs ys:List Int}{zs:List Bool}(h:Ag T1 T2 T3 w cv nv av xs ys zs)(e:∀ k,T1 k∨T2 k∨T3 k->w'.heap[k]?=w.heap[k]?):Ag T1 T2 T3 w' cv nv av xs ys zs:=
 ⟨h.x.same (fun k hk=>e k (.inl hk)),h.y.same (fun k hk=>e k (.inr (.inl hk))),h.z.same (fun k hk=>e k (.inr (.inr hk)))⟩
def io(v:Value):Nat->Prop:=fun q=>v.ownBlock=some q
theorem lH{base n:Nat}{w:World}{v:Value}{xs:List Int}(h:w.ownsRow base 3 1 v n (xs.map mI))(hn:n<=maxLen):ij mI 0 (io v) w v xs:=by
 have a:=h.1;rw[List.length_map,Nat.mul_one]at a;rcases h.2 with ⟨rfl,hz⟩|⟨g,cap,cur,rfl,c,hg,d,e,f,b⟩
 ·exact⟨0,0,⟨none,0,by rw[a,hz],by omega,fun hp=>by omega⟩,fun k _ h=>by omega⟩
 refine⟨g,g+1,⟨_,cap,by rw[a],by omega,fun hp=>⟨g,0,rfl,by omega,by omega,⟨cur,_,hg⟩,fun i hi=>?_⟩⟩,fun k h1 h2=>by
  have:k=g:=by omega
  rw[this];rfl⟩
 rw[Nat.zero_add,h.cellAt i (by omega),List.getElem?_map,List.getElem?_eq_getElem hi]
 rfl
theorem sI{base n:Nat}{w:World}{v:Value}{xs:List Bool}(h:w.ownsRow base 4 1 v n (xs.map mT))(hn:n<=maxLen):ij mT false (io v) w v xs:=by
 have a:=h.1;rw[List.length_map,Nat.mul_one]at a;rcases h.2 with ⟨rfl,hz⟩|⟨g,cap,cur,rfl,c,hg,d,e,f,b⟩
 ·exact⟨0,0,⟨none,0,by rw[a,hz],by omega,fun hp=>by omega⟩,fun k _ h=>by omega⟩
 refine⟨g,g+1,⟨_,cap,by rw[a],by omega,fun hp=>⟨g,0,rfl,by omega,by omega,⟨cur,_,hg⟩,fun i hi=>?_⟩⟩,fun k h1 h2=>by
  have:k=g:=by omega
  rw[this];rfl⟩
 rw[Nat.zero_add,h.cellAt i (by omega),List.getElem?_map,List.getElem?_eq_getElem hi]
 rfl
open Go.ChangeShapes Go.WideShapes Go.ChangeAt Go.RowKit
section
variable {H:Type} {enc:TypeId×Value->H} {W:World}
end
theorem Tryz.own:ownKnob prog.godebug=none:=by kernel_rfl
theorem Tryz.laidOut:laidOutB prog=true:=by kernel_rfl
theorem Tryz.cells5:prog.cellsOf 5=1:=by kernel_rfl
section
variable {H:Type} {enc:TypeId×Value->H} {W:World}
theorem za{n:Nat}{v:Value}{y:DataW H×List MemPlace}(h:DataW.trod enc prog W 0 (fun _=>true) true n 22 [v]=some y):∃ bs,aP mB 0 0 W.heap.size W v bs/\oO bs:=by
 rcases open_ints underlying22 underlying5 Tryz.cells5 h with ⟨c,-⟩|⟨a,len,cap,zs,c,-,hl,hm,hz,-,e,f⟩
 ·simp only[List.cons.injEq,and_true]at c;subst c;exact⟨[],⟨none,0,rfl,by simp,by simp⟩,by intro i;simp⟩
 simp only[List.cons.injEq,and_true]at c;subst c;simp only[if_true]at hz;have d:(zs.take len).length=len:=by rw[List.length_take];omega
 refine⟨zs.take len,⟨some a,cap,by rw[d],by omega,fun hp=>?_⟩,fun i=>?_⟩
 ·obtain⟨b,off,rfl,hc⟩:=ints_at e (by omega);refine⟨b,off,rfl,Nat.zero_le _,World.block_lt_of_cell? _ _ (hc 0 (by omega)),fun i hi=>?_⟩;rw[d]at hi;rw[hc i (by omega),List.getElem?_take_of_lt hi]
  rfl
 by_cases hi:i<(zs.take len).length
 ·rw[List.getElem?_eq_getElem hi];have:=f _ (List.mem_of_mem_take (List.getElem_mem hi))
  simpa[Lit.wf,IntKind.min,IntKind.max,IntKind.signed,IntKind.bits]using this
 rw[List.getElem?_eq_none (by omega)];simp
end
section
variable {H:Type} {enc:TypeId×Value->H} {W:World}
end
section
variable {H:Type} {enc:TypeId×Value->H} {W:World}
theorem vF{n:Nat}{v:Value}{y:DataW H×List MemPlace}(h:DataW.trod enc prog W 0 (fun _=>true) true n 22 [v]=some y):∃ xs,aP mB 0 0 W.heap.size W v xs/\dj v/\oO xs:=by
 obtain⟨xs,h1,h2⟩:=za h;refine⟨xs,h1,?_,h2⟩;rcases open_ints underlying22 underlying5 Tryz.cells5 h with ⟨b,-⟩|⟨a,len,cap,zs,b,-,hl,hm,-⟩
 ·simp only[List.cons.injEq,and_true]at b;subst b;exact dj.mk lR (Nat.zero_le _)
 simp only[List.cons.injEq,and_true]at b;subst b;exact dj.mk hl hm
end
end Go.Proofs.YtpmcjimgkabpeaaGreatDoor
