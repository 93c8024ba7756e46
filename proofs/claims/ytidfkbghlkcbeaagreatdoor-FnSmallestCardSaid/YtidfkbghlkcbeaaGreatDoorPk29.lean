import Derived.Test.YtidfkbghlkcbeaaGreatDoorPk17
import Derived.Test.YtidfkbghlkcbeaaGreatDoorPk23
import Derived.ShutString
import Derived.ChangeOld
namespace Go.Proofs.YtidfkbghlkcbeaaGreatDoor
open Go.RowKit Go.Proofs.Tryz
set_option maxHeartbeats 16000000
set_option maxRecDepth 100000
def uv(ln:List Lk)(n:Nat):Prop:=∀ p∈ln,(∀ y∈p.1,y<n)/\∀ y∈p.2,y<n
theorem uv.mono{ln:List Lk}{n m:Nat}(h:uv ln n)(hm:n<=m):uv ln m:=fun p hp=>⟨fun y hy=>Nat.lt_of_lt_of_le ((h p hp).1 y hy) hm,fun y hy=>Nat.lt_of_lt_of_le ((h p hp).2 y hy) hm⟩
theorem uv.snoc{ln:List Lk}{n:Nat}{A B:List Nat}(h:uv ln n)(ha:∀ y∈A,y<n)(hb:∀ y∈B,y<n):uv (ln++[(A,B)]) n:=fun p hp=>by
 rcases List.mem_append.1 hp with hp|hp
 ·exact h p hp
 rw[List.mem_singleton]at hp;subst hp;exact⟨ha,hb⟩
def uq(s:Ms):Prop:=(∀ a∈s.st,jx a s.c)/\uv s.ln s.c
theorem uq.push{s:Ms}(h:uq s)(x:El):uq (eY s x):=by
 obtain⟨c,st,ln,ss⟩:=s;obtain⟨h1,h2⟩:=h;simp only at h1 h2;unfold eY;simp only
 repeat' split
 all_goals first
  | exact⟨h1,h2⟩
  | skip
 ·exact⟨fun a ha=>by rcases List.mem_cons.1 ha with rfl|ha;(constructor<;>simp);exact h1 a ha,h2⟩
 ·exact⟨fun a ha=>by rcases List.mem_cons.1 ha with rfl|ha;(constructor<;>simp);exact(h1 a ha).mono (Nat.le_succ _),h2.mono (Nat.le_succ _)⟩
 ·rename_i o _
  have ho:=h1 o (by simp);exact⟨fun a ha=>by rw[List.mem_singleton]at ha;subst ha;exact ho,h2.snoc ho.2 ho.1⟩
 ·rename_i r l b _
  have hr:=h1 r (by simp);exact⟨fun a ha=>by rcases List.mem_cons.1 ha with rfl|ha;exact hr;exact h1 a (List.mem_cons_of_mem _ ha),h2.snoc hr.2 hr.1⟩
 ·rename_i r l b _ _
  have hr:=h1 r (by simp);have hl:=h1 l (by simp);exact⟨fun a ha=>by rcases List.mem_cons.1 ha with rfl|ha;exact hl.cat hr;exact h1 a (by simp[ha]),h2.snoc hl.2 hr.1⟩
 rename_i r l b _ _
 have hr:=h1 r (by simp);have hl:=h1 l (by simp);exact⟨fun a ha=>by rcases List.mem_cons.1 ha with rfl|ha;exact hl.alt hr;exact h1 a (by simp[ha]),h2⟩
theorem uq.run(L:List El):∀ s:Ms,uq s->uq (bS s L):=by
 induction L with
 | nil=>intro s h;exact h
 | cons x r ih=>intro s h;exact ih _ (h.push x)
theorem cK.lkb{L:List El}{n:Nat}{a:It}{ln:List Lk}{ss:List (List Int)}(h:cK L n a ln ss):uv ln n:=by
 have h1:=(uq.run L gP ⟨by simp[gP],by intro p hp;simp[gP]at hp⟩).2;rw[h gP]at h1
 simpa[gP,cT]using h1
theorem tf{A:Tb}(h:bE A){U:Nat->Nat->Prop}(h1:∀ p q,p<A.n->q<A.n->U p q->A.ac p=A.ac q)(h2:∀ p q c,p<A.n->q<A.n->c<A.k->U p q->U (A.nx p c) (A.nx q c)){p q:Nat}(hp:p<A.n)(hq:q<A.n)(hU:U p q):p=q:=by
 refine h.stMin p q hp hq (fun w hw=>?_)
 have key:∀ (w:List Nat) (p q:Nat),p<A.n->q<A.n->U p q->Wd w->A.ac (A.run p w)=A.ac (A.run q w):=by
  intro w
  induction w with
  | nil=>intro p q hp hq hU _;exact h1 p q hp hq hU
  | cons b w ih =>
   intro p q hp hq hU hw;have hb:=hw b (List.mem_cons_self ..);have hc:=h.wf.cls b hb;exact ih (A.nx p (A.cl b)) (A.nx q (A.cl b)) (h.wf.nxt p _ hp hc) (h.wf.nxt q _ hq hc) (h2 p q _ hp hq hc hU) (fun x hx=>hw x (List.mem_cons_of_mem _ hx))
 exact key w p q hp hq hU hw
theorem tx{A:Tb}(h:bE A){L:List Nat}(h0:0∈L)(hc:∀ q c,q∈L->c<A.k->A.nx q c∈L):∀ q,q<A.n->q∈L:=by
 intro q hq;obtain⟨w,hw,rfl⟩:=h.stAll q hq;have key:∀ (w:List Nat) (p:Nat),p∈L->Wd w->A.run p w∈L:=by
  intro w
  induction w with
  | nil=>intro p hp _;exact hp
  | cons b w ih =>
   intro p hp hw;exact ih (A.nx p (A.cl b)) (hc p _ hp (h.wf.cls b (hw b (List.mem_cons_self ..)))) (fun x hx=>hw x (List.mem_cons_of_mem _ hx))
 exact key w 0 h0 hw
theorem uk{A:Tb}(h:bE A){L:List Nat}(hn:L.Nodup)(h0:0∈L)(hL:∀ q,q∈L->q<A.n)(hc:∀ q c,q∈L->c<A.k->A.nx q c∈L):L.length=A.n:=by
 have h1:(List.range A.n).length<=L.length:=List.nodup_range.length_le_of_subset (fun q hq=>tx h h0 hc q (List.mem_range.1 hq));have h2:L.length<=(List.range A.n).length:=hn.length_le_of_subset (fun q hq=>List.mem_range.2 (hL q hq));simp at h1 h2;omega
structure Ab (T1 T2 T3:Nat->Prop) (w:World) (cv nv av:Value) (xs ys:List Int) (zs:List Bool):Prop where
 x:ir mI 0 T1 w cv xs
 y:ir mI 0 T2 w nv ys
 z:ir mT false T3 w av zs
theorem Ab.same{T1 T2 T3:Nat->Prop}{w w':World}{cv nv av:Value}{xs ys:List Int}{zs:List Bool}(h:Ab T1 T2 T3 w cv nv av xs ys zs)(e:∀ k,T1 k∨T2 k∨T3 k->w'.heap[k]?=w.heap[k]?):Ab T1 T2 T3 w' cv nv av xs ys zs:=
 ⟨h.x.same (fun k hk=>e k (.inl hk)),h.y.same (fun k hk=>e k (.inr (.inl hk))),h.z.same (fun k hk=>e k (.inr (.inr hk)))⟩
def iH(v:Value):Nat->Prop:=fun q=>v.ownBlock=some q
theorem iQ{base n:Nat}{w:World}{v:Value}{xs:List Int}(h:w.ownsRow base 3 1 v n (xs.map mI))(hn:n<=maxLen):ir mI 0 (iH v) w v xs:=by
 have a:=h.1;rw[List.length_map,Nat.mul_one]at a;rcases h.2 with ⟨rfl,hz⟩|⟨g,cap,cur,rfl,c,hg,d,e,f,b⟩
 ·exact⟨0,0,⟨none,0,by rw[a,hz],by omega,fun hp=>by omega⟩,fun k _ h=>by omega⟩
 refine⟨g,g+1,⟨_,cap,by rw[a],by omega,fun hp=>⟨g,0,rfl,by omega,by omega,⟨cur,_,hg⟩,fun i hi=>?_⟩⟩,fun k h1 h2=>by
  have:k=g:=by omega
  rw[this];rfl⟩
 rw[Nat.zero_add,h.cellAt i (by omega),List.getElem?_map,List.getElem?_eq_getElem hi]
 rfl
theorem mA{base n:Nat}{w:World}{v:Value}{xs:List Bool}(h:w.ownsRow base 4 1 v n (xs.map mT))(hn:n<=maxLen):ir mT false (iH v) w v xs:=by
 have a:=h.1;rw[List.length_map,Nat.mul_one]at a;rcases h.2 with ⟨rfl,hz⟩|⟨g,cap,cur,rfl,c,hg,d,e,f,b⟩
 ·exact⟨0,0,⟨none,0,by rw[a,hz],by omega,fun hp=>by omega⟩,fun k _ h=>by omega⟩
 refine⟨g,g+1,⟨_,cap,by rw[a],by omega,fun hp=>⟨g,0,rfl,by omega,by omega,⟨cur,_,hg⟩,fun i hi=>?_⟩⟩,fun k h1 h2=>by
  have:k=g:=by omega
  rw[this];rfl⟩
 rw[Nat.zero_add,h.cellAt i (by omega),List.getElem?_map,List.getElem?_eq_getElem hi]
 rfl
structure pu (xs:List Int) (nc:Int):Prop where
 cl:xs.length=256
 up:∀ b:Nat,b<256->0<=xs[b]?.getD 0/\xs[b]?.getD 0<=top xs b+1
 tp:top xs 256=nc-1
theorem pu.hn{xs:List Int}{nc:Int}(h:pu xs nc):1<=nc/\nc<=256:=by
 have h1:=yf xs 256 h.up;have h2:=h.up 0 (by omega);have h3:=ul xs 0;have h4:=nu xs 1 256 (by omega);have h5:=h.tp;have e0:top xs 0 = -1:=rfl;have e1:top xs (0+1)=top xs 1:=rfl;omega
theorem yT{xs ys:List Int}{zs:List Bool}{nc:Int}:fH xs ys zs nc↔(1<=zs.length/\zs.length<=1024)/\pu xs nc/\(ys.length:Int)=zs.length*nc/\∀ i:Nat,i<ys.length->0<=ys[i]?.getD 0/\ys[i]?.getD 0<zs.length:=
 ⟨fun h=>⟨h.st,⟨h.cl,h.up,h.tp⟩,h.nx,h.to⟩,fun h=>⟨h.1,h.2.1.hn,h.2.1.cl,h.2.1.up,h.2.1.tp,h.2.2.1,h.2.2.2⟩⟩
theorem rQ(cl:Value)(xs:List Int)(nc:Int)(w:World)(h1:aK mI 0 0 w.heap.size w cl xs) :
  Calls prog 60 #[cl,.int .i64 nc] w fun e w'=>aJ e (pu xs nc)/\w'=w:=by
 obtain⟨a1,c1,rfl,l1,f⟩:=h1;unfold maxLen at l1
 by_cases m3:xs.length=256
 ·have m3':((xs.length:Int) != 256)=false:=by simp;omega
  have M3:=ae m3;have m3n:256<=xs.length:=by omega
  have m3m:xs.length<=256:=by omega
  clear m3
  go_enter func60,ntmps60
  go_wp2
  go_loop [5,13] (fun t i=>∃ b:Nat,b<=256/\i=.int .i64 b/\t=.int .i64 (top xs b+1)/\∀ j:Nat,j<b->0<=xs[j]?.getD 0/\xs[j]?.getD 0<=top xs j+1) (fun _ i=>256-(intOf i).toNat)
  case atStart=>exact⟨0,Nat.zero_le _,rfl,rfl,fun j hj=>absurd hj (Nat.not_lt_zero _)⟩
  obtain⟨b,hb,rfl,rfl,g⟩:=hrel;have n:=yf xs b g;have k:=ae g;clear g
  by_cases hlt:b<256
  ·obtain⟨q,off,rfl,-,o,a⟩:=f (by omega);have hx:w.cell? ⟨q,off+b,none⟩=some (.int .i64 (xs[b]?.getD 0)):=a b (by omega);have m:(b:Int)<(xs.length:Int):=by omega
   have l:Hi (top xs (b+1)=if top xs b<xs[b]?.getD 0 then xs[b]?.getD 0 else top xs b):=rfl;have hP:Hi (∀ h:pu xs nc,0<=xs[b]?.getD 0/\xs[b]?.getD 0<=top xs b+1):=fun h=>h.up b hlt
   have c:Hi (0<=xs[b]?.getD 0/\xs[b]?.getD 0<=top xs b+1->∀ j:Nat,j<b+1->0<=xs[j]?.getD 0/\xs[j]?.getD 0<=top xs j+1):=fun hq j hj=>by
    by_cases e:j=b
    ·subst e;exact hq
    exact k.u j (by omega)
   clear a k f;generalize xs[b]?.getD 0=x at *;generalize top xs b=t at *
   by_cases g1:x<0
   ·go_wp2;go_ret;exact⟨aJ.no (fun h=>by have:=hP.u h;omega),rfl⟩
   by_cases g2:t+1<x
   ·go_wp2;go_ret;exact⟨aJ.no (fun h=>by have:=hP.u h;omega),rfl⟩
   by_cases g3:t<x
   ·have g4:(x==t+1)=true:=by simp;omega
    have g4':x=t+1:=by omega
    subst g4';go_wp2
    go_round
    case rel=>exact⟨b+1,by omega,by go_num,by rw[l.u,if_pos g3],c.u ⟨by omega,by omega⟩⟩
    simp[intOf];omega
   have g4:(x==t+1)=false:=by simp;omega
   go_wp2
   go_round
   case rel=>exact⟨b+1,by omega,by go_num,by rw[l.u,if_neg (by omega)],c.u ⟨by omega,by omega⟩⟩
   simp[intOf];omega
  obtain rfl:b=256:=by omega
  have m:¬ (256:Int)<(xs.length:Int):=by omega
  have d:=ae (show pu xs nc↔top xs 256=nc-1 from⟨fun h=>h.tp,fun h=>⟨M3.u,k.u,h⟩⟩);clear f;generalize top xs 256=t at *
  by_cases g1:t+1=nc
  ·subst g1;go_wp2;go_ret;exact⟨aJ.yes (d.u.2 (by omega)),rfl⟩
  have g1':(t+1==nc)=false:=by simp;omega
  go_wp2;go_ret;exact⟨aJ.no (fun h=>by have:=d.u.1 h;omega),rfl⟩
 have m3':((xs.length:Int) != 256)=true:=by simp;omega
 go_enter func60,ntmps60
 go_wp2;go_ret;exact⟨aJ.no (fun h=>m3 h.cl),rfl⟩
theorem nE(cl nx ac:Value)(xs ys:List Int)(zs:List Bool)(nc:Int)(w:World)(h1:aK mI 0 0 w.heap.size w cl xs)(h2:aK mI 0 0 w.heap.size w nx ys)(h3:aK mT false 0 w.heap.size w ac zs) :
  Calls prog 28 #[.agg #[cl,.int .i64 nc,nx,ac]] w fun e w'=>aJ e (fH xs ys zs nc)/\Below w.heap.size w w':=by
 obtain⟨a1,c1,rfl,l1,m⟩:=id h1;obtain⟨a2,c2,rfl,l2,d⟩:=id h2;obtain⟨a3,c3,rfl,l3,-⟩:=h3;unfold maxLen at l1 l2 l3;have H1:=ae (h1.below (ai w (.cells #[.slice a1 xs.length c1,.int .i64 nc,.slice a2 ys.length c2,.slice a3 zs.length c3] 30)) lR);clear h1
 by_cases n1:zs.length<1
 ·have n1':(zs.length:Int)<1:=by omega
  go_enter func28,ntmps28
  go_wp2_with fail;go_ret;exact⟨aJ.no (fun h=>by have:=h.st;omega),ai w _⟩
 have n1':¬ (zs.length:Int)<1:=by omega
 by_cases n2:1024<zs.length
 ·have n2':1024<(zs.length:Int):=by omega
  go_enter func28,ntmps28
  go_wp2_with fail;go_ret;exact⟨aJ.no (fun h=>by have:=h.st;omega),ai w _⟩
 have n2':¬ 1024<(zs.length:Int):=by omega
 go_enter func28,ntmps28
 go_wp2_with fail;refine(rQ _ xs nc _ H1.u).mono ?_;rintro e w1 ⟨a,rfl⟩;rcases a.cases with ⟨rfl,hok⟩|⟨rfl,c⟩
 ·have hn:=hok.hn;have n:=ae hok;clear hok a;have p1:0<=(zs.length:Int)*nc:=Int.mul_nonneg (by omega) (by omega);have p2:(zs.length:Int)*nc<=1024*256:=Int.mul_le_mul (by omega) (by omega) (by omega) (by omega);have p3:wrap64 ((zs.length:Int)*nc)=(zs.length:Int)*nc:=CB p1 (by omega)
  by_cases g2:(ys.length:Int)=(zs.length:Int)*nc
  ·have g2':((ys.length:Int) != (zs.length:Int)*nc)=false:=by simp[g2]
   have G2:=ae g2;clear g2;go_wp2
   go_loop [34] (fun i=>∃ k:Nat,k<=ys.length/\i=.int .i64 k/\∀ j:Nat,j<k->0<=ys[j]?.getD 0/\ys[j]?.getD 0<zs.length) (fun i=>ys.length-(intOf i).toNat)
   case atStart=>exact⟨0,Nat.zero_le _,rfl,fun j hj=>absurd hj (Nat.not_lt_zero _)⟩
   obtain⟨k,hk,rfl,f⟩:=hrel;have g:=ae f;clear f
   by_cases hlt:k<ys.length
   ·obtain⟨q,off,rfl,-,p,b⟩:=d (by omega);have hx:w.cell? ⟨q,off+k,none⟩=some (.int .i64 (ys[k]?.getD 0)):=b k (by omega);have o:(k:Int)<(ys.length:Int):=by omega
    clear b d m;generalize hX:ys[k]?.getD 0=x at *;have HX:=ae hX;clear hX
    by_cases f1:x<0
    ·go_wp2;go_ret;exact⟨aJ.no (fun h=>by have:=h.to k hlt;rw[HX.u]at this;omega),ai w _⟩
    by_cases f2:(zs.length:Int)<=x
    ·go_wp2;go_ret;exact⟨aJ.no (fun h=>by have:=h.to k hlt;rw[HX.u]at this;omega),ai w _⟩
    go_wp2
    go_round
    case rel=>exact⟨k+1,by omega,by go_num,fun j hj=>by
     by_cases e:j=k
     ·subst e;rw[HX.u];omega
     exact g.u j (by omega)⟩
    simp[intOf];omega
   obtain rfl:k=ys.length:=by omega
   go_wp2;go_ret;exact⟨aJ.yes (yT.2 ⟨⟨by omega,by omega⟩,n.u,G2.u,g.u⟩),ai w _⟩
  have g2':((ys.length:Int) != (zs.length:Int)*nc)=true:=by simp[g2]
  go_wp2;go_ret;exact⟨aJ.no (fun h=>g2 h.nx),ai w _⟩
 have l:=ae c;clear c a;go_wp2;go_ret;exact⟨aJ.no (fun h=>l.u (yT.1 h).2.1),ai w _⟩
open Go.ChangeShapes Go.WideShapes Go.ChangeAt Go.RowKit Go.Proofs.Tryz
theorem Tryz.own:ownKnob prog.godebug=none:=by kernel_rfl
theorem Tryz.laidOut:laidOutB prog=true:=by kernel_rfl
theorem Tryz.cells5:prog.cellsOf 5=1:=by kernel_rfl
section
variable {H:Type} {enc:TypeId×Value->H} {W:World}
theorem Aw{n:Nat}{v:Value}{y:DataW H×List MemPlace}(h:DataW.trod enc prog W 0 (fun _=>true) true n 22 [v]=some y):∃ bs,aK mB 0 0 W.heap.size W v bs/\sy bs:=by
 rcases open_ints underlying22 underlying5 Tryz.cells5 h with ⟨c,-⟩|⟨a,len,cap,zs,c,-,hl,hm,hz,-,e,f⟩
 ·simp only[List.cons.injEq,and_true]at c;subst c;exact⟨[],⟨none,0,rfl,by simp,by simp⟩,by intro i;simp⟩
 simp only[List.cons.injEq,and_true]at c;subst c;simp only[if_true]at hz;have d:(zs.take len).length=len:=by rw[List.length_take];omega
 refine⟨zs.take len,⟨some a,cap,by rw[d],by omega,fun hp=>?_⟩,fun i=>?_⟩
 ·obtain⟨b,off,rfl,hc⟩:=ints_at e (by omega);refine⟨b,off,rfl,Nat.zero_le _,World.block_lt_of_cell? _ _ (hc 0 (by omega)),fun i hi=>?_⟩;rw[d]at hi;rw[hc i (by omega),List.getElem?_take_of_lt hi]
  rfl
 by_cases hi:i<(zs.take len).length
 ·rw[List.getElem?_eq_getElem hi];have:=f _ (List.mem_of_mem_take (List.getElem_mem hi))
  simpa[Lit.wf,IntKind.min,IntKind.max,IntKind.signed,IntKind.bits]using this
 rw[List.getElem?_eq_none (by omega)];simp
end
section
variable {H:Type} {enc:TypeId×Value->H} {W:World}
end
section
variable {H:Type} {enc:TypeId×Value->H} {W:World}
theorem wH{n:Nat}{v:Value}{y:DataW H×List MemPlace}(h:DataW.trod enc prog W 0 (fun _=>true) true n 22 [v]=some y):∃ xs,aK mB 0 0 W.heap.size W v xs/\cB v/\sy xs:=by
 obtain⟨xs,h1,h2⟩:=Aw h;refine⟨xs,h1,?_,h2⟩;rcases open_ints underlying22 underlying5 Tryz.cells5 h with ⟨b,-⟩|⟨a,len,cap,zs,b,-,hl,hm,-⟩
 ·simp only[List.cons.injEq,and_true]at b;subst b;exact cB.mk lR (Nat.zero_le _)
 simp only[List.cons.injEq,and_true]at b;subst b;exact cB.mk hl hm
end
end Go.Proofs.YtidfkbghlkcbeaaGreatDoor
