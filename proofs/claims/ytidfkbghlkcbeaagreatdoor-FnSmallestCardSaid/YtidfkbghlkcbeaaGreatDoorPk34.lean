import Derived.Test.YtidfkbghlkcbeaaGreatDoorPk15
import Derived.Deep.DeepCutAuto
namespace Go.Proofs.YtidfkbghlkcbeaaGreatDoor
open Go.RowKit Go.Proofs.Tryz
set_option maxHeartbeats 16000000
set_option maxRecDepth 100000
theorem Ej(x:Value)(w:World):Sem.run prog (Instr.typeAssert (.iface 95 x) 51 95 true) w=.ok (.tuple #[x,.bool true]) w:=by kernel_rfl
theorem Fb(x:Value)(w:World):Sem.run prog (Instr.typeAssert (.iface 142 x) 51 95 true) w=.ok (.tuple #[.agg #[.nilIface,.nilIface],.bool false]) w:=by kernel_rfl
theorem Fz(x:Value)(w:World):Sem.run prog (Instr.typeAssert (.iface 142 x) 51 142 true) w=.ok (.tuple #[x,.bool true]) w:=by kernel_rfl
theorem Ft(x:Value)(w:World):Sem.run prog (Instr.typeAssert (.iface 93 x) 51 95 true) w=.ok (.tuple #[.agg #[.nilIface,.nilIface],.bool false]) w:=by kernel_rfl
theorem ES(x:Value)(w:World):Sem.run prog (Instr.typeAssert (.iface 93 x) 51 142 true) w=.ok (.tuple #[.agg #[.nilIface,.nilIface],.bool false]) w:=by kernel_rfl
theorem Ei(x:Value)(w:World):Sem.run prog (Instr.typeAssert (.iface 93 x) 51 93 true) w=.ok (.tuple #[x,.bool true]) w:=by kernel_rfl
theorem EW(w:World):Sem.run prog (Instr.typeAssert (.iface 178 (.agg #[])) 51 95 true) w=.ok (.tuple #[.agg #[.nilIface,.nilIface],.bool false]) w:=by kernel_rfl
theorem Ez(w:World):Sem.run prog (Instr.typeAssert (.iface 178 (.agg #[])) 51 142 true) w=.ok (.tuple #[.agg #[.nilIface,.nilIface],.bool false]) w:=by kernel_rfl
theorem EZ(w:World):Sem.run prog (Instr.typeAssert (.iface 178 (.agg #[])) 51 93 true) w=.ok (.tuple #[.agg #[.nilIface,.int .i64 0,.int .i64 0],.bool false]) w:=by kernel_rfl
theorem EL(x:Value)(w:World):Sem.run prog (Instr.typeAssert (.iface 91 x) 51 95 true) w=.ok (.tuple #[.agg #[.nilIface,.nilIface],.bool false]) w:=by kernel_rfl
theorem Es(x:Value)(w:World):Sem.run prog (Instr.typeAssert (.iface 91 x) 51 142 true) w=.ok (.tuple #[.agg #[.nilIface,.nilIface],.bool false]) w:=by kernel_rfl
theorem EA(x:Value)(w:World):Sem.run prog (Instr.typeAssert (.iface 91 x) 51 93 true) w=.ok (.tuple #[.agg #[.nilIface,.int .i64 0,.int .i64 0],.bool false]) w:=by kernel_rfl
theorem dc.e:dc eV eV:=by
 refine⟨⟨_,_,rfl⟩,fun w=>?_⟩;unfold eV;have t1:=EW;have t2:=Ez;have t3:=EZ
 go_enter func43,ntmps43
 go_wp2;go_ret;exact⟨rfl,Below.refl _ _⟩
theorem dc.s(g:Nat->Nat):dc (sV g) (sV g):=by
 refine⟨⟨_,_,rfl⟩,fun w=>?_⟩;unfold sV gb;have t1:=EL;have t2:=Es;have t3:=EA
 go_enter func43,ntmps43
 go_wp2;go_ret;exact⟨rfl,Below.refl _ _⟩
theorem dc.cat{u v U V:Value}(iu:∃ T x,u=.iface T x)(iv:∃ T x,v=.iface T x)(hu:dc u U)(hv:dc v V):dc (cV u v) (cV U V):=by
 refine⟨⟨_,_,rfl⟩,fun w=>?_⟩;obtain⟨T,x,rfl⟩:=iu;obtain⟨T',x',rfl⟩:=iv;obtain⟨⟨T1,x1,rfl⟩,hu⟩:=hu;obtain⟨⟨T2,x2,rfl⟩,hv⟩:=hv;have HF:=ae hu;have HG:=ae hv;clear hu hv;unfold cV;have t1:=Ej
 go_enter func43,ntmps43
 go_wp2_with fail
 go_region_with ((first|((with_reducible refine(HF.u _).mono ?_);rintro e w1 ⟨rfl,a⟩;have b:Below (w.heap.size+1) (w.alloc (.cells #[.iface T x,.iface T' x'] 95)) w1:=⟨a.os,a.tape,a.output,a.size,fun k hk=>a.block k (by simpa using hk)⟩;have d:=(cu b).1;clear a)|((with_reducible refine(HG.u _).mono ?_);rintro e w2 ⟨rfl,hb2⟩)))
 all_goals
  have c:Below w.heap.size w w1:=(ai w _).trans (b.mono (by omega));have f:Below w.heap.size w w2:=c.trans ⟨hb2.os,hb2.tape,hb2.output,hb2.size,fun k hk=>hb2.block k (Nat.lt_of_lt_of_le hk c.size)⟩;clear d b hb2;go_wp2;go_ret;exact⟨rfl,f⟩
theorem dc.alt{u v U V:Value}(iu:∃ T x,u=.iface T x)(iv:∃ T x,v=.iface T x)(hu:dc u U)(hv:dc v V):dc (aV u v) (aV U V):=by
 refine⟨⟨_,_,rfl⟩,fun w=>?_⟩;obtain⟨T,x,rfl⟩:=iu;obtain⟨T',x',rfl⟩:=iv;obtain⟨⟨T1,x1,rfl⟩,hu⟩:=hu;obtain⟨⟨T2,x2,rfl⟩,hv⟩:=hv;have HF:=ae hu;have HG:=ae hv;clear hu hv;unfold aV;have t1:=Fb;have t2:=Fz
 go_enter func43,ntmps43
 go_wp2_with fail
 go_region_with ((first|((with_reducible refine(HF.u _).mono ?_);rintro e w1 ⟨rfl,a⟩;have b:Below (w.heap.size+1) (w.alloc (.cells #[.iface T x,.iface T' x'] 142)) w1:=⟨a.os,a.tape,a.output,a.size,fun k hk=>a.block k (by simpa using hk)⟩;have d:=(cu b).1;clear a)|((with_reducible refine(HG.u _).mono ?_);rintro e w2 ⟨rfl,hb2⟩)))
 all_goals
  have c:Below w.heap.size w w1:=(ai w _).trans (b.mono (by omega));have f:Below w.heap.size w w2:=c.trans ⟨hb2.os,hb2.tape,hb2.output,hb2.size,fun k hk=>hb2.block k (Nat.lt_of_lt_of_le hk c.size)⟩;clear d b hb2;go_wp2;go_ret;exact⟨rfl,f⟩
theorem dc.rep0{u W:Value}{mn mx:Int}(iu:∃ T x,u=.iface T x)(iw:∃ T x,W=.iface T x)(h:∀ w,Calls prog 78 #[.agg #[u,.int .i64 mn,.int .i64 mx]] w fun e w'=>e=.returned W/\Below w.heap.size w w'):dc (rV u mn mx) W:=by
 refine⟨iw,fun w=>?_⟩;obtain⟨T,x,rfl⟩:=iu;have HF:=ae h;clear h;unfold rV;have t1:=Ft;have t2:=ES;have t3:=Ei
 go_enter func43,ntmps43
 go_wp2_with fail;refine(HF.u _).mono ?_;rintro e w1 ⟨rfl,a⟩;have b:Below w.heap.size w w1:=(ai w _).trans (a.mono (by rw[ah];omega));clear a;go_wp2;go_ret;exact⟨rfl,b⟩
def de(a:It)(last:Bool)(n:Nat):List Int:=(if last then a.la else a.fi).map (fun i=>((n+i:Nat):Int))
def we(L:List El)(a:It):Prop:=a.fi.length<=L.length/\a.la.length<=L.length/\∀ (v:Value) (w:World) (n:Nat) (last:Bool),aA 0 w.heap.size w v L->L.length<=3000->n+L.length<=10000->
 Calls prog 69 #[v,.int .i64 n,.bool last] w fun e w'=>∃ v',e=.returned v'/\w'.ownsRow w.heap.size 3 1 v' (de a last n).length ((de a last n).map mI)/\Below w.heap.size w w'
theorem iV{L:List El}{a:It}(h:we L a)(last:Bool)(n:Nat):(de a last n).length<=L.length:=by
 unfold de;rw[List.length_map];cases last
 ·exact h.1
 exact h.2.1
theorem Ed:we [⟨0,[],0,0⟩] ⟨true,[],[]⟩:=by
 refine⟨by simp,by simp,?_⟩;intro v w n last hv f hn;obtain⟨a,cp,rfl,-,-⟩:=id hv;obtain⟨e,g,b,off,rfl,h,d⟩:=aA.last (p:=[]) hv;simp only[List.length_singleton,List.length_nil,Nat.zero_mul,Nat.add_zero]at d hv ⊢;obtain⟨i1,i2,i3,sv,c0,c1,c2,c3,c⟩:=d;obtain⟨sa,sc,rfl,-,-,-⟩:=id c;have HE:Hi (de ⟨true,[],[]⟩ last n=[]):=by show de _ _ _=_;cases last<;>rfl
 rw[HE.u];clear hv c i1 i2 i3 HE
 go_enter func69,ntmps69
 go_wp2;go_ret;exact⟨_,rfl,World.ownsRow_nil _ _ _ _,ai w _⟩
theorem Fl(xs:List Int):we [⟨1,xs,0,0⟩] ⟨false,[0],[0]⟩:=by
 refine⟨by simp,by simp,?_⟩;intro v w n last hv g hn;obtain⟨a,cp,rfl,-,-⟩:=id hv;obtain⟨f,h,b,off,rfl,i,d⟩:=aA.last (p:=[]) hv;simp only[List.length_singleton,List.length_nil,Nat.zero_mul,Nat.add_zero]at d hv ⊢;obtain⟨i1,i2,i3,sv,c0,c1,c2,c3,c⟩:=d;obtain⟨sa,sc,rfl,-,-,-⟩:=id c;have HE:Hi (de ⟨false,[0],[0]⟩ last n=[(n:Int)]):=by show de _ _ _=_;cases last<;>rfl
 rw[HE.u];clear hv c i1 i2 i3 HE
 go_enter func69,ntmps69
 go_wp2;go_ret;have ho:=World.ownsRow_lit (base:=w.heap.size) (size:=1) (e:=3) (w.alloc (.cells #[.int .i64 1,.slice sa xs.length sc,.int .i64 0,.int .i64 0] 65)) #[.int .i64 (n:Int)] 1 (by rw[ah];omega) (by unfold maxLen;omega) rfl;rw[ah]at ho;exact⟨_,rfl,ho,aI w _ _⟩
theorem zV(l:List El)(a0:It)(mn mx:Int)(hl:we l a0):we (l++[⟨4,[],mn,mx⟩]) (ed a0 mn):=by
 obtain⟨h1,h2,hl⟩:=hl;refine⟨by simp[ed];omega,by simp[ed];omega,?_⟩;intro v w n last hv i hn;have h:=hv;obtain⟨a,cp,rfl,-,-⟩:=id hv;obtain⟨c,g,b,off,rfl,s,o⟩:=hv.last;rw[c]at hv h g ⊢;simp only[List.length_append,List.length_singleton]at i c;unfold maxLen at g;obtain⟨i1,i2,i3,sv,c0,c1,c2,c3,d⟩:=o;obtain⟨sa,sc,rfl,-,-,-⟩:=id d;simp only at c0 c2 c3;clear c i1 i2 i3 d;have j:aA 0 w.heap.size w (.slice (some ⟨b,off,none⟩) l.length cp) l:=h.pre;have p:=ae j;have e1:(((l.length+1:Nat):Int)-1)=((l.length:Nat):Int):=by omega
 have k:=ai w (.cells #[.int .i64 4,.slice sa 0 sc,.int .i64 mn,.int .i64 mx] 65);have HH:=ae hl;have HE:Hi (de (ed a0 mn) last n=de a0 last n):=rfl;rw[HE.u];generalize hX:de a0 last n=X;have HX:=ae hX;clear j hv h hl HE hX
 go_enter func69,ntmps69
 go_wp2_with fail;refine(HH.u _ _ n last (p.u.below k lR) (by omega) (by simp only[List.length_append,List.length_singleton]at hn;omega)).mono ?_;rintro e w1 ⟨v1,rfl,f,m⟩;rw[HX.u,ah]at f;have q:=k.trans (m.mono (by rw[ah];omega));have r:=ae (aO f (show w.heap.size<=w.heap.size+1 by omega));obtain⟨a1,c9,rfl⟩:=aj f;clear m f;go_wp2;go_ret;exact⟨_,rfl,r.u,q⟩
theorem tN(xs:List Nat)(n m:Nat):(xs.map (m + ·)).map (fun i=>((n+i:Nat):Int))=xs.map (fun i=>((n+m+i:Nat):Int)):=by
 rw[List.map_map]
 congr 1
 funext i
 simp only[Function.comp];omega
theorem BE(a b:It)(last:Bool)(n m:Nat):de (cR a (b.sh m)) last n=de a last n++de b last (n+m):=by
 cases last<;>simp only[de,cR,It.sh,List.map_append,tN,if_true,if_false,Bool.false_eq_true]
theorem rT(a b:It)(m:Nat):(bY a (b.sh m)).fi.length<=a.fi.length+b.fi.length/\(bY a (b.sh m)).la.length<=a.la.length+b.la.length:=by
 obtain⟨an,af,al⟩:=a;obtain⟨bn,bf,bl⟩:=b;cases an<;>cases bn<;>simp[bY,It.sh]
theorem xC(a b:It)(n m:Nat):de (bY a (b.sh m)) false n=de a false n++(if a.nl then de b false (n+m) else []):=by
 simp only[de,bY,It.sh,Bool.false_eq_true,if_false,List.map_append]
 by_cases h:a.nl=true
 ·rw[if_pos h,if_pos h,tN]
 rw[if_neg h,if_neg h,List.map_nil]
theorem yx(a b:It)(n m:Nat):de (bY a (b.sh m)) true n=(if b.nl then de a true n else [])++de b true (n+m):=by
 obtain⟨bn,bf,bl⟩:=b;cases bn<;>simp only[de,bY,It.sh,if_true,List.map_append,tN,Bool.false_eq_true,if_false,List.map_nil]
theorem yL(l r:List El)(a1 a2:It)(cr:Int)(sr:ba r cr)(hl:we l a1)(hr:we r a2):we (l++r++[⟨3,[],0,0⟩]) (cR a1 (a2.sh (aS l))):=by
 have I:=ae (iV hl);have J:=ae (iV hr);obtain⟨p1,p2,hl⟩:=hl;obtain⟨q1,q2,hr⟩:=hr;refine⟨by simp[cR,It.sh];omega,by simp[cR,It.sh];omega,?_⟩;intro v w n last hv x hn;have c:=hv;obtain⟨a,cp,rfl,-,-⟩:=id hv;obtain⟨d,f,b,off,rfl,a8,y⟩:=hv.last;rw[d]at hv c f ⊢;simp only[List.length_append,List.length_singleton]at hv c x d y f hn ⊢;unfold maxLen at f;obtain⟨i1,i2,i3,sv,c0,c1,c2,c3,g⟩:=y;obtain⟨sa,sc,rfl,-,-,-⟩:=id g;simp only at c0 c2 c3;clear d i1 i2 i3 g;have e1:(((l.length+r.length+1:Nat):Int)-1)=((l.length+r.length:Nat):Int):=by omega
 have z:aA 0 w.heap.size w (.slice (some ⟨b,off,none⟩) l.length cp) (l):=by rw[List.append_assoc]at c;exact c.pre
 have A:=c.mid (cap':=cp-l.length) (by unfold maxLen;omega);have f5:l.length+r.length-l.length=r.length:=by omega
 have a9:=eT l;have f6:IntKind.i64.wrap ((n:Int)+(aS l:Int))=(n:Int)+(aS l:Int):=jf (by omega) (by omega);have B:=ae z;have K:=ae A;have L:=ae c;have M:=ae hl;have N:=ae hr;have s:=ai w (.cells #[.int .i64 3,.slice sa 0 sc,.int .i64 0,.int .i64 0] 65);have a4:Hi (∀ W,Below (w.heap.size+1) (w.alloc (.cells #[.int .i64 3,.slice sa 0 sc,.int .i64 0,.int .i64 0] 65)) W->W.cell? ⟨w.heap.size,0,none⟩=some (.int .i64 3)):=fun W hW=>(hW.cell (p:=⟨w.heap.size,0,none⟩) (Nat.lt_succ_self _)).trans ((ay w _).news 0 _ rfl)
 clear z A hv c hl hr;obtain⟨T,hT⟩ : ∃ T,T=de (cR a1 (a2.sh (aS l))) last n:=⟨_,rfl⟩;rw[<-hT];have HT:Hi (T=de a1 last n++de a2 last (n+aS l)):=by show T=_;rw[hT,BE]
 clear hT
 go_enter func69,ntmps69
 go_wp2_with fail;refine(di _ l r cr _ _ _ sr (by exact L.u.below (ai w _) lR) (by omega) rfl).mono ?_;rintro e w1 ⟨rfl,rfl⟩
 go_wp2_with fail;have O:(w.alloc (.cells #[.int .i64 3,.slice sa 0 sc,.int .i64 0,.int .i64 0] 65)).heap.size=w.heap.size+1:=ah _ _;generalize w.alloc (.cells #[.int .i64 3,.slice sa 0 sc,.int .i64 0,.int .i64 0] 65)=W0 at *;have a5:w.heap.size+1<=W0.heap.size:=by omega
 clear O c0 c1 c2 c3;refine(M.u _ _ n last (B.u.below s lR) (by omega) (by omega)).mono ?_;rintro e w2 ⟨v2,rfl,i,C⟩;have D:Below w.heap.size w w2:=s.trans (C.mono s.size);obtain⟨X1,j⟩ : ∃ X,X=de a1 last n:=⟨_,rfl⟩;rw[<-j]at i;have a6:X1.length<=3000:=by rw[j];have:=I.u last n;omega
 have P:=ae j;have S2:=ae (mj.at (bW (lo:=0) i (Nat.zero_le _) (by unfold maxLen;omega)));obtain⟨x2a,x2c,rfl⟩:=aj i;have Q:=D.size;clear i C j
 go_wp2_with (at_builtin;refine eK rfl _ _ rfl w.heap.size _ rfl ([]:List Int) (World.ownsRow_nil _ _ _ _) Q _ rfl X1 S2.u (by simp;omega) ?_;intro v3 w3 E F R;have h:w3.ownsRow w.heap.size 3 1 v3 X1.length (X1.map mI):=F;have S:=ae h;obtain⟨x3a,x3c,rfl⟩:=aj h;have k:Below w.heap.size w w3:=D.trans E;clear F h E R);refine(co _ l _ (B.u.below k lR) (by omega)).mono ?_;rintro e w4 ⟨rfl,rfl⟩
 go_wp2_with fail;refine(N.u _ _ (n+aS l) last (K.u.below k lR) (by omega) (by omega)).mono ?_;rintro e w5 ⟨v5,rfl,m,t⟩;have G:Below w.heap.size w w5:=k.trans (t.mono k.size);obtain⟨X2,o⟩ : ∃ X,X=de a2 last (n+aS l):=⟨_,rfl⟩;rw[<-o]at m;have a7:X2.length<=3000:=by rw[o];have:=J.u last (n+aS l);omega
 have U:=ae o;have S5:=ae (mj.at (bW (lo:=0) m (Nat.zero_le _) (by unfold maxLen;omega)));have OWNK:=ae (aG S.u t lR);obtain⟨x5a,x5c,rfl⟩:=aj m;have V:=G.size;clear m t o
 go_wp2_with (at_builtin;refine eK rfl _ _ rfl w.heap.size _ rfl X1 OWNK.u V _ rfl X2 S5.u (by (try simp only[List.length_nil]);omega) ?_;intro v6 w6 H q Y;obtain⟨Z,hZ⟩ : ∃ Z,Z=X1++X2:=⟨_,rfl⟩;rw[<-hZ]at q;have HZ:=ae hZ;have a0:=ae q;obtain⟨x6a,x6c,rfl⟩:=aj q;have a3:Below w.heap.size w w6:=G.trans H;clear q H Y hZ);go_ret;exact⟨_,rfl,by rw[HT.u,<-P.u,<-U.u,<-HZ.u];exact a0.u,a3⟩
theorem yr(l r:List El)(a1 a2:It)(cr:Int)(sr:ba r cr)(hl:we l a1)(hr:we r a2)(nl:vk l a1.nl)(nr:vk r a2.nl):we (l++r++[⟨2,[],0,0⟩]) (bY a1 (a2.sh (aS l))):=by
 have S:=ae (iV hl);have U:=ae (iV hr);obtain⟨p1,p2,hl⟩:=hl;obtain⟨q1,q2,hr⟩:=hr;refine⟨by have:=(rT a1 a2 (aS l)).1;simp only[List.length_append,List.length_singleton];omega,by have:=(rT a1 a2 (aS l)).2;simp only[List.length_append,List.length_singleton];omega,?_⟩;intro v w n last hv a3 hn;have z:=hv;obtain⟨a,cp,rfl,-,-⟩:=id hv;obtain⟨A,C,b,off,rfl,aa,a4⟩:=hv.last;rw[A]at hv z C ⊢;simp only[List.length_append,List.length_singleton]at hv z a3 A a4 C hn ⊢;unfold maxLen at C;obtain⟨i1,i2,i3,sv,c0,c1,c2,c3,D⟩:=a4;obtain⟨sa,sc,rfl,-,-,-⟩:=id D;simp only at c0 c2 c3;clear A i1 i2 i3 D;have e1:(((l.length+r.length+1:Nat):Int)-1)=((l.length+r.length:Nat):Int):=by omega
 have a5:aA 0 w.heap.size w (.slice (some ⟨b,off,none⟩) l.length cp) (l):=by rw[List.append_assoc]at z;exact z.pre
 have a6:=z.mid (cap':=cp-l.length) (by unfold maxLen;omega);have f5:l.length+r.length-l.length=r.length:=by omega
 have ab:=eT l;have f6:IntKind.i64.wrap ((n:Int)+(aS l:Int))=(n:Int)+(aS l:Int):=jf (by omega) (by omega);have B:=ae a5;have O:=ae a6;have a7:=ae z;have V:=ae hl;have Y:=ae hr;have P:=ai w (.cells #[.int .i64 2,.slice sa 0 sc,.int .i64 0,.int .i64 0] 65);have a9:Hi (∀ W,Below (w.heap.size+1) (w.alloc (.cells #[.int .i64 2,.slice sa 0 sc,.int .i64 0,.int .i64 0] 65)) W->W.cell? ⟨w.heap.size,0,none⟩=some (.int .i64 2)):=fun W hW=>(hW.cell (p:=⟨w.heap.size,0,none⟩) (Nat.lt_succ_self _)).trans ((ay w _).news 0 _ rfl)
 clear a5 a6 hv z hl hr;obtain⟨T,hT⟩ : ∃ T,T=de (bY a1 (a2.sh (aS l))) last n:=⟨_,rfl⟩;rw[<-hT];have NL:=ae nl;have NR:=ae nr;clear nl nr;cases last with
 | true =>
  have HT:Hi (T=(if a2.nl then de a1 true n else [])++de a2 true (n+aS l)):=by show T=_;rw[hT,yx]
  clear hT
  go_enter func69,ntmps69
  go_wp2_with fail;refine(di _ l r cr _ _ _ sr (by exact a7.u.below (ai w _) lR) (by omega) rfl).mono ?_;rintro e w1 ⟨rfl,rfl⟩
  go_wp2_with fail;have a0:(w.alloc (.cells #[.int .i64 2,.slice sa 0 sc,.int .i64 0,.int .i64 0] 65)).heap.size=w.heap.size+1:=ah _ _;generalize w.alloc (.cells #[.int .i64 2,.slice sa 0 sc,.int .i64 0,.int .i64 0] 65)=W0 at *;have a8:w.heap.size+1<=W0.heap.size:=by omega
  clear a0 c0 c1 c2 c3;refine(NR.u _ _ (O.u.below P lR) (by omega)).mono ?_;rintro e w1 ⟨rfl,E⟩;have d:Below w.heap.size w w1:=P.trans (E.mono (by omega));clear E;cases hq:a2.nl with
  | true =>
   rw[hq,if_pos rfl]at HT
   go_wp2_with fail;refine(V.u _ _ n true (B.u.below d lR) (by omega) (by omega)).mono ?_;rintro e w2 ⟨v2,rfl,f,o⟩;have q:Below w.heap.size w w2:=d.trans (o.mono d.size);obtain⟨X1,g⟩ : ∃ X,X=de a1 true n:=⟨_,rfl⟩;rw[<-g]at f;have Q:X1.length<=3000:=by rw[g];have:=S.u true n;omega
   have F:=ae g;have S2:=ae (mj.at (bW (lo:=0) f (Nat.zero_le _) (by unfold maxLen;omega)));obtain⟨x2a,x2c,rfl⟩:=aj f;have G:=q.size;clear f o g
   go_wp2_with (at_builtin;refine eK rfl _ _ rfl w.heap.size _ rfl ([]:List Int) (World.ownsRow_nil _ _ _ _) G _ rfl X1 S2.u (by simp;omega) ?_;intro v3 w3 s t H;have c:w3.ownsRow w.heap.size 3 1 v3 X1.length (X1.map mI):=t;have I:=ae c;obtain⟨x3a,x3c,rfl⟩:=aj c;have k:Below w.heap.size w w3:=q.trans s;clear t c s H);refine(co _ l _ (B.u.below k lR) (by omega)).mono ?_;rintro e w4 ⟨rfl,rfl⟩
   go_wp2_with fail;refine(Y.u _ _ (n+aS l) true (O.u.below k lR) (by omega) (by omega)).mono ?_;rintro e w5 ⟨v5,rfl,h,m⟩;have x:Below w.heap.size w w5:=k.trans (m.mono k.size);obtain⟨X2,i⟩ : ∃ X,X=de a2 true (n+aS l):=⟨_,rfl⟩;rw[<-i]at h;have R:X2.length<=3000:=by rw[i];have:=U.u true (n+aS l);omega
   have J:=ae i;have S5:=ae (mj.at (bW (lo:=0) h (Nat.zero_le _) (by unfold maxLen;omega)));have OWNK:=ae (aG I.u m lR);obtain⟨x5a,x5c,rfl⟩:=aj h;have K:=x.size;clear h m i
   go_wp2_with (at_builtin;refine eK rfl _ _ rfl w.heap.size _ rfl X1 OWNK.u K _ rfl X2 S5.u (by (try simp only[List.length_nil]);omega) ?_;intro v6 w6 y j L;obtain⟨Z,hZ⟩ : ∃ Z,Z=X1++X2:=⟨_,rfl⟩;rw[<-hZ]at j;have HZ:=ae hZ;have M:=ae j;obtain⟨x6a,x6c,rfl⟩:=aj j;have N:Below w.heap.size w w6:=x.trans y;clear j y L hZ);go_ret;exact⟨_,rfl,by rw[HT.u,<-F.u,<-J.u,<-HZ.u];exact M.u,N⟩
  | false =>
   rw[hq,if_neg (by simp)]at HT
   go_wp2_with fail;refine(co _ l _ (B.u.below d lR) (by omega)).mono ?_;rintro e w4 ⟨rfl,rfl⟩
   go_wp2_with fail;refine(Y.u _ _ (n+aS l) true (O.u.below d lR) (by omega) (by omega)).mono ?_;rintro e w5 ⟨v5,rfl,h,m⟩;have x:Below w.heap.size w w5:=d.trans (m.mono d.size);obtain⟨X2,i⟩ : ∃ X,X=de a2 true (n+aS l):=⟨_,rfl⟩;rw[<-i]at h;have R:X2.length<=3000:=by rw[i];have:=U.u true (n+aS l);omega
   have J:=ae i;have S5:=ae (mj.at (bW (lo:=0) h (Nat.zero_le _) (by unfold maxLen;omega)));have OWNK:=ae (World.ownsRow_nil w5 w.heap.size 3 1);obtain⟨x5a,x5c,rfl⟩:=aj h;have K:=x.size;clear h m i
   go_wp2_with (at_builtin;refine eK rfl _ _ rfl w.heap.size _ rfl ([]:List Int) OWNK.u K _ rfl X2 S5.u (by (try simp only[List.length_nil]);omega) ?_;intro v6 w6 y j L;obtain⟨Z,hZ⟩ : ∃ Z,Z=([]:List Int)++X2:=⟨_,rfl⟩;rw[<-hZ]at j;have HZ:=ae hZ;have M:=ae j;obtain⟨x6a,x6c,rfl⟩:=aj j;have N:Below w.heap.size w w6:=x.trans y;clear j y L hZ);go_ret;exact⟨_,rfl,by rw[HT.u,<-J.u,<-HZ.u];exact M.u,N⟩
 | false =>
  have HT:Hi (T=de a1 false n++(if a1.nl then de a2 false (n+aS l) else [])):=by show T=_;rw[hT,xC]
  clear hT
  go_enter func69,ntmps69
  go_wp2_with fail;refine(di _ l r cr _ _ _ sr (by exact a7.u.below (ai w _) lR) (by omega) rfl).mono ?_;rintro e w1 ⟨rfl,rfl⟩
  go_wp2_with fail;have a0:(w.alloc (.cells #[.int .i64 2,.slice sa 0 sc,.int .i64 0,.int .i64 0] 65)).heap.size=w.heap.size+1:=ah _ _;generalize w.alloc (.cells #[.int .i64 2,.slice sa 0 sc,.int .i64 0,.int .i64 0] 65)=W0 at *;have a8:w.heap.size+1<=W0.heap.size:=by omega
  clear a0 c0 c1 c2 c3;refine(NL.u _ _ (B.u.below P lR) (by omega)).mono ?_;rintro e w1 ⟨rfl,E⟩;have d:Below w.heap.size w w1:=P.trans (E.mono (by omega));clear E;cases hq:a1.nl with
  | true =>
   rw[hq,if_pos rfl]at HT
   go_wp2_with fail;refine(V.u _ _ n false (B.u.below d lR) (by omega) (by omega)).mono ?_;rintro e w2 ⟨v2,rfl,f,o⟩;have q:Below w.heap.size w w2:=d.trans (o.mono d.size);obtain⟨X1,g⟩ : ∃ X,X=de a1 false n:=⟨_,rfl⟩;rw[<-g]at f;have Q:X1.length<=3000:=by rw[g];have:=S.u false n;omega
   have F:=ae g;have S2:=ae (mj.at (bW (lo:=0) f (Nat.zero_le _) (by unfold maxLen;omega)));obtain⟨x2a,x2c,rfl⟩:=aj f;have G:=q.size;clear f o g
   go_wp2_with (at_builtin;refine eK rfl _ _ rfl w.heap.size _ rfl ([]:List Int) (World.ownsRow_nil _ _ _ _) G _ rfl X1 S2.u (by simp;omega) ?_;intro v3 w3 s t H;have c:w3.ownsRow w.heap.size 3 1 v3 X1.length (X1.map mI):=t;have I:=ae c;obtain⟨x3a,x3c,rfl⟩:=aj c;have k:Below w.heap.size w w3:=q.trans s;clear t c s H);refine(co _ l _ (B.u.below k lR) (by omega)).mono ?_;rintro e w4 ⟨rfl,rfl⟩
   go_wp2_with fail;refine(Y.u _ _ (n+aS l) false (O.u.below k lR) (by omega) (by omega)).mono ?_;rintro e w5 ⟨v5,rfl,h,m⟩;have x:Below w.heap.size w w5:=k.trans (m.mono k.size);obtain⟨X2,i⟩ : ∃ X,X=de a2 false (n+aS l):=⟨_,rfl⟩;rw[<-i]at h;have R:X2.length<=3000:=by rw[i];have:=U.u false (n+aS l);omega
   have J:=ae i;have S5:=ae (mj.at (bW (lo:=0) h (Nat.zero_le _) (by unfold maxLen;omega)));have OWNK:=ae (aG I.u m lR);obtain⟨x5a,x5c,rfl⟩:=aj h;have K:=x.size;clear h m i
   go_wp2_with (at_builtin;refine eK rfl _ _ rfl w.heap.size _ rfl X1 OWNK.u K _ rfl X2 S5.u (by (try simp only[List.length_nil]);omega) ?_;intro v6 w6 y j L;obtain⟨Z,hZ⟩ : ∃ Z,Z=X1++X2:=⟨_,rfl⟩;rw[<-hZ]at j;have HZ:=ae hZ;have M:=ae j;obtain⟨x6a,x6c,rfl⟩:=aj j;have N:Below w.heap.size w w6:=x.trans y;clear j y L hZ);go_ret;exact⟨_,rfl,by rw[HT.u,<-F.u,<-J.u,<-HZ.u];exact M.u,N⟩
  | false =>
   rw[hq,if_neg (by simp),List.append_nil]at HT
   go_wp2_with fail;refine(V.u _ _ n false (B.u.below d lR) (by omega) (by omega)).mono ?_;rintro e w2 ⟨v2,rfl,f,o⟩;have q:Below w.heap.size w w2:=d.trans (o.mono d.size);obtain⟨X1,g⟩ : ∃ X,X=de a1 false n:=⟨_,rfl⟩;rw[<-g]at f;have Q:X1.length<=3000:=by rw[g];have:=S.u false n;omega
   have F:=ae g;have S2:=ae (mj.at (bW (lo:=0) f (Nat.zero_le _) (by unfold maxLen;omega)));obtain⟨x2a,x2c,rfl⟩:=aj f;have G:=q.size;clear f o g
   go_wp2_with (at_builtin;refine eK rfl _ _ rfl w.heap.size _ rfl ([]:List Int) (World.ownsRow_nil _ _ _ _) G _ rfl X1 S2.u (by simp;omega) ?_;intro v3 w3 s t H;have c:w3.ownsRow w.heap.size 3 1 v3 X1.length (X1.map mI):=t;have I:=ae c;obtain⟨x3a,x3c,rfl⟩:=aj c;have k:Below w.heap.size w w3:=q.trans s;clear t c s H);go_ret;exact⟨_,rfl,by rw[HT.u,<-F.u];exact I.u,k⟩
structure Mx (w:World) (G n:Nat) (f:Nat->Nat->Bool):Prop where
 top:w.rowIs G 28 n (fun i=>.slice (some ⟨G+1+i,0,none⟩) n n)
 row:∀ i,i<n->w.rowIs (G+1+i) 4 n (fun j=>.bool (f i j))
theorem Mx.keep{w w':World}{G n m:Nat}{f:Nat->Nat->Bool}(h:Mx w G n f)(hb:Below m w w')(hm:G+1+n<=m):Mx w' G n f:=
 ⟨h.top.of_block (hb.block G (by omega)),fun i hi=>(h.row i hi).of_block (hb.block _ (by omega))⟩
theorem Mx.put{w:World}{G n i j:Nat}{f:Nat->Nat->Bool}(h:Mx w G n f)(hi:i<n):Mx (w.setCell ⟨G+1+i,j,none⟩ (.bool true)) G n (fun a b=>f a b||(decide (a=i)&&decide (b=j))):=by
 refine⟨h.top.setOther (by show G≠G+1+i;omega) _,fun a ha=>?_⟩
 by_cases e:a=i
 ·subst e;refine((h.row a ha).set j _).congr (fun b hb=>?_)
  by_cases e2:b=j
  ·simp[e2]
  simp[e2]
 exact((h.row a ha).setOther (by show G+1+a≠G+1+i;omega) _).congr (fun b hb=>by simp[e])
theorem Mx.same{w:World}{G n:Nat}{f g:Nat->Nat->Bool}(h:Mx w G n f)(e:∀ i j,i<n->j<n->f i j=g i j):Mx w G n g:=
 ⟨h.top,fun i hi=>(h.row i hi).congr (fun j hj=>by rw[e i j hi hj])⟩
theorem ik(v:Value)(P seg R:List El)(c z:Int)(w:World)(sm:ba seg c)(hv:aA 0 w.heap.size w v (P++seg++R))(hlen:(P++seg++R).length<=1048576)(hz:z=P.length+seg.length) :
  Calls prog 102 #[v,.int .i64 z] w fun e w'=>e=.returned (.int .i64 (P.length:Int))/\w'=w:=by
 subst hz;have pr:=sm.ne;have h:=lw v (P++seg++R) P.length (P.length+seg.length) w hv hlen (by omega) (by simp only[List.length_append];omega) ?_ ?_
 ·rwa [Int.natCast_add]at h
 ·rw[show P.length+seg.length=(P++seg).length by simp,List.take_left' rfl,List.drop_left' rfl];exact sm.ws
 intro k h1 h2;rw[show P.length+seg.length=(P++seg).length by simp,List.take_left' rfl,List.drop_append,List.drop_eq_nil_of_le (by omega),List.nil_append];exact sm.tl _ (by omega) (by omega)
def GM(t:List El×Int):Prop:=ba t.1 t.2/\∃ a ln ss,vk t.1 a.nl/\we t.1 a/\cK t.1 (aS t.1) a ln ss/\jx a (aS t.1)
theorem GM.bin{l r:List El×Int}{k:Int}(hk:k=2∨k=3)(hl:GM l)(hr:GM r):GM (l.1++r.1++[⟨k,[],0,0⟩],cap (l.2+r.2)):=by
 obtain⟨l1,a,la,sa,l2,l3,l4,l5⟩:=hl;obtain⟨r1,b,lb,sb,r2,r3,r4,r5⟩:=hr;have e:aS (l.1++r.1++[⟨k,[],0,0⟩])=aS l.1+aS r.1:=sH _ _ _ (by simp only;omega);rcases hk with rfl|rfl
 ·exact⟨ba.bin l1 r1 (Or.inl rfl),bY a (b.sh (aS l.1)),_,_,xZ _ _ _ _ _ r1 l2 r2,yr _ _ _ _ _ r1 l3 r3 l2 r2,e ▸ l4.cat r4,by rw[show aS (l.1++r.1++[⟨2,[],0,0⟩],cap (l.2+r.2)).1=aS l.1+aS r.1 from e];exact(l5.mono (by omega)).cat (r5.sh _)⟩
 exact⟨ba.bin l1 r1 (Or.inr rfl),cR a (b.sh (aS l.1)),_,_,Ar _ _ _ _ _ r1 l2 r2,yL _ _ _ _ _ r1 l3 r3,e ▸ l4.alt r4,by rw[show aS (l.1++r.1++[⟨3,[],0,0⟩],cap (l.2+r.2)).1=aS l.1+aS r.1 from e];exact(l5.mono (by omega)).alt (r5.sh _)⟩
theorem GM.rep{o:List El×Int}{mn mx:Int}(h:GM o)(o2:0<=mn)(o4:mx = -1∨(mn<=mx/\mx<=250)):GM (o.1++[⟨4,[],mn,mx⟩],cap (bK o.2 mn mx)):=by
 obtain⟨l1,a,la,sa,l2,l3,l4,l5⟩:=h;have hne:=l1.ne;have e:aS (o.1++[⟨4,[],mn,mx⟩])=aS o.1:=by rw[eZ];simp[aS]
 exact⟨ba.rep l1 rfl o2 (o4.imp id (fun q=>q)),ed a mn,_,_,zE _ _ mn mx l2 (by omega),zV _ _ mn mx l3,e ▸ l4.rep mn mx,by rw[show aS (o.1++[⟨4,[],mn,mx⟩],cap (bK o.2 mn mx)).1=aS o.1 from e];exact l5⟩
theorem GM.e:GM ([⟨0,[],0,0⟩],1):=⟨ba.leaf (Or.inl rfl),⟨true,[],[]⟩,_,_,Fu,Ed,cK.e,by constructor<;>simp⟩
theorem GM.s(xs:List Int):GM ([⟨1,xs,0,0⟩],1):=⟨ba.leaf (Or.inr rfl),⟨false,[0],[0]⟩,_,_,Fp xs,Fl xs,cK.s xs,by constructor<;>simp[aS]⟩
theorem dU.gm{st st':List (List El×Int)}{x:El}(h:dU st x st')(ok:gZ x)(hs:∀ s∈st,GM s):∀ s∈st',GM s:=by
 intro s hm;obtain⟨k,xs,mn,mx⟩:=x;rcases h with ⟨hk,rfl⟩|⟨hk,b,l,r,rfl,rfl⟩|⟨hk,b,o,rfl,rfl⟩
 ·simp only[List.mem_append,List.mem_singleton]at hm;rcases hm with hm|rfl
  ·exact hs s hm
  rcases ok with ⟨q1,q2,q3,q4⟩|⟨q1,q2,q3,q4⟩|⟨q1,q2,q3,q4,q5⟩<;>simp only at hk q1 q2 q3 q4
  ·subst q1 q3 q4;exact GM.s xs
  ·subst q3 q4;obtain rfl:=List.eq_nil_of_length_eq_zero q2;obtain rfl:k=0:=by omega
   exact GM.e
  omega
 ·simp only[List.mem_append,List.mem_singleton]at hm;rcases hm with hm|rfl
  ·exact hs s (by simp[hm])
  have hu:=hs l (by simp);have hv:=hs r (by simp);rcases ok with ⟨q1,q2,q3,q4⟩|⟨q1,q2,q3,q4⟩|⟨q1,q2,q3,q4,q5⟩<;>simp only at hk q1 q2 q3 q4
  ·omega
  ·subst q3 q4;obtain rfl:=List.eq_nil_of_length_eq_zero q2;exact GM.bin hk hu hv
  omega
 simp only[List.mem_append,List.mem_singleton]at hm;rcases hm with hm|rfl
 ·exact hs s (by simp[hm])
 have hu:=hs o (by simp);rcases ok with ⟨q1,q2,q3,q4⟩|⟨q1,q2,q3,q4⟩|⟨q1,q2,q3,q4,q5⟩<;>simp only at hk q1 q2 q3 q4
 ·omega
 ·omega
 subst hk;obtain rfl:=List.eq_nil_of_length_eq_zero q2;exact GM.rep hu q3 q5
theorem CU{xs:List El}(ok:∀ k:Nat,k<xs.length->gZ (xs[k]?.getD dE))(h1:aQ xs=1)(h2:∀ k:Nat,1<=k->k<=xs.length->aQ (xs.drop k)<=0) :
  ∀ k:Nat,k<=xs.length->∃ st,flats st=xs.take k/\(∀ s∈st,GM s)/\(k<xs.length->∃ st',dU st (xs[k]?.getD dE) st'):=by
 have step:∀ k:Nat,∀ st,k<xs.length->flats st=xs.take k->(∀ s∈st,GM s)->∃ st',dU st (xs[k]?.getD dE) st':=by
  intro k st hk b hg;have e1:aQ (xs.take (k+1))+aQ (xs.drop (k+1))=1:=by rw[<-aF,List.take_append_drop];exact h1
  have e2:=h2 (k+1) (by omega) (by omega);have e3:=dg (fun s hs=>(hg s hs).1.ws);rw[b]at e3;rw[cj hk,aF,e3]at e1;simp only[aQ]at e1;exact dU.ex (st:=st) (ok k hk) (by omega)
 intro k
 induction k with
 | zero=>intro _;exact⟨[],by simp[flats],by simp,fun h=>step 0 [] h (by simp[flats]) (by simp)⟩
 | succ k ih =>
  intro hk;obtain⟨st,b,hg,hp⟩:=ih (by omega);obtain⟨st',hp⟩:=hp (by omega);have a:flats st'=xs.take (k+1):=by rw[hp.flats,b,cj (by omega)]
  have c:=hp.gm (ok k (by omega)) hg;exact⟨st',a,c,fun h=>step (k+1) st' h a c⟩
theorem yZ{P l r:List El}{a b:It}{la lb:List Lk}{sa sb:List (List Int)}(ha:cK l (aS l) a la sa)(hb:cK r (aS r) b lb sb) :
  (bS gP (P++l++r++[⟨2,[],0,0⟩])).ln=(bS gP (P++l++r)).ln++[(a.la.map (aS P + ·),b.fi.map (aS P+aS l + ·))]:=by
 rw[bk,bk,bk,ha,hb];have hc:=CA P;generalize bS gP P=s at *;obtain⟨c,st,ln,ss⟩:=s;simp only at hc;subst hc;simp[bS,eY,It.sh]
theorem yD{P l r:List El}{a b:It}{la lb:List Lk}{sa sb:List (List Int)}(ha:cK l (aS l) a la sa)(hb:cK r (aS r) b lb sb) :
  (bS gP (P++l++r++[⟨3,[],0,0⟩])).ln=(bS gP (P++l++r)).ln:=by
 rw[bk,bk,bk,ha,hb];simp[bS,eY]
theorem yN{P o:List El}{a:It}{la:List Lk}{sa:List (List Int)}(ha:cK o (aS o) a la sa)(mn mx:Int) :
  (bS gP (P++o++[⟨4,[],mn,mx⟩])).ln=(bS gP (P++o)).ln++[(a.la.map (aS P + ·),a.fi.map (aS P + ·))]:=by
 rw[bk,bk,ha];have hc:=CA P;generalize bS gP P=s at *;obtain⟨c,st,ln,ss⟩:=s;simp only at hc;subst hc;cases st<;>simp[bS,eY,It.sh]
theorem wI{P:List El}{x:El}(hx:x.kind=0∨x.kind=1):(bS gP (P++[x])).ln=(bS gP P).ln:=by
 rw[bk];simp only[bS,eY];rcases hx with hx|hx<;>simp[hx]
theorem Tryz.zinBool1:(prog.info? 4).map (fun i=>(i.zero,i.size,i.bytes))=some (some (.bool false),1,1):=by kernel_rfl
theorem Tryz.zinBoolS1:(prog.info? 28).map (fun i=>(i.zero,i.size,i.bytes))=some (some (.slice none 0 0),1,24):=by kernel_rfl
theorem aA.eq{lo n:Nat}{w:World}{v:Value}{xs ys:List El}(h:aA lo n w v xs)(e:xs=ys):aA lo n w v ys:=e ▸ h
theorem DZ(a:It)(c:Nat):de a true c=(a.la.map (c + ·)).map Int.ofNat:=by simp[de]
theorem Ek(a:It)(c:Nat):de a false c=(a.fi.map (c + ·)).map Int.ofNat:=by simp[de]
theorem rN(v:Value)(xs:List El)(w:World)(hv:aA 0 w.heap.size w v xs)(hlen:xs.length<=3000)
  (ok:∀ k:Nat,k<xs.length->gZ (xs[k]?.getD dE))(h1:aQ xs=1)(h2:∀ k:Nat,1<=k->k<=xs.length->aQ (xs.drop k)<=0) :
  Calls prog 70 #[v] w fun e w'=>∃ G cp,e=.returned (.slice (some ⟨G,0,none⟩) (aS xs) cp)/\w.heap.size<=G/\Mx w' G (aS xs) (cm (bS gP xs).ln)/\G+1+aS xs<=w'.heap.size/\Below w.heap.size w w':=by
 have bn:=ae (CU ok h1 h2);have bc:=ae ok;have d2:=eT xs;have HL:=ae (co v xs w hv hlen);have Hv:=ae hv;obtain⟨a,cap,rfl,bf,-⟩:=id hv;obtain⟨N,hN⟩ : ∃ N,N=aS xs:=⟨_,rfl⟩;rw[<-hN]at HL d2 ⊢;have HN:=ae hN;have ch:=run_make_row' (P:=prog) 135 28 (.slice none 0 0) 24 underlying135 Tryz.zinBoolS1 rfl .i64 .i64 N (by omega) (by omega);have ci:=run_make_row' (P:=prog) 28 4 (.bool false) 1 underlying28 Tryz.zinBool1 rfl .i64 .i64 N (by omega) (by omega);clear hv ok h1 h2 hN
 go_enter func70,ntmps70
 go_wp2_with fail;refine HL.u.mono ?_;rintro e w1 ⟨rfl,rfl⟩
 go_wp2_with fail;have a6:=World.rowIs_made w1 (.slice none 0 0) N 28;have ck:=ai w1 (.cells (madeCells #[.slice none 0 0] N) 28);have a7:(w1.alloc (.cells (madeCells #[.slice none 0 0] N) 28)).heap.size=w1.heap.size+1:=ah _ _
 go_loopw [5] (fun iv wr=>∃ i:Nat,i<=N/\iv=.int .i64 i/\wr.rowIs w1.heap.size 28 N (fun b=>if b<i then .slice (some ⟨w1.heap.size+1+b,0,none⟩) N N else .slice none 0 0)/\(∀ b,b<i->wr.rowIs (w1.heap.size+1+b) 4 N (fun _=>.bool false))/\wr.heap.size=w1.heap.size+1+i/\Below w1.heap.size w1 wr) (fun iv _=>N-(intOf iv).toNat)
 case atStart=>exact⟨0,Nat.zero_le _,rfl,a6.congr (fun b hb=>by simp),fun b hb=>absurd hb (Nat.not_lt_zero _),by rw[a7],ck⟩
 obtain⟨i,hi,rfl,T,U,bo,hb⟩:=hrel
 by_cases hlt:i<N
 ·have cr:(i:Int)<(N:Int):=by omega
  have f0:∀ o:Obj,(wr.alloc o).frozen? ⟨w1.heap.size,i,none⟩=false:=fun o=>(T.alloc o).frozen i
  have c0:∀ o:Obj,(wr.alloc o).cell? ⟨w1.heap.size,i,none⟩=some (.slice none 0 0):=fun o=>by rw[(T.alloc o).cell hlt,if_neg (Nat.lt_irrefl _)]
  have bp:=ae bo;have cs:=ae T;have bq:=ae U;have O:w1.heap.size+1<=wr.heap.size:=by omega
  clear T U bo ch a6 a7;go_wp2;refine⟨⟨i+1,by omega,by go_num,?_,fun b hb2=>?_,?_,?_⟩,by simp[intOf];omega⟩
  ·refine((cs.u.alloc _).set i _).congr (fun b hb2=>?_)
   by_cases e:b=i
   ·subst e;simp[bp.u]
   have e2:b<i+1↔b<i:=by omega
   simp[e,e2]
  ·by_cases e:b=i
   ·subst e;have h:=World.rowIs_made wr (.bool false) N 4;rw[bp.u]at h;exact h.setOther (by show w1.heap.size+1+b≠w1.heap.size;omega) _
   exact((bq.u b (by omega)).alloc _).setOther (by show w1.heap.size+1+b≠w1.heap.size;omega) _
  ·rw[aM,ah,bp.u];omega
  exact aD (hb.alloc (by omega) _) lR _
 have eN:N=i:=by omega
 subst eN;have HM:Hi (Mx wr w1.heap.size N (fun _ _=>false)):=⟨T.congr (fun b hb2=>by rw[if_pos hb2]),U⟩;have O:w1.heap.size+1+N<=wr.heap.size:=by omega
 obtain⟨G,hG⟩ : ∃ G,G=w1.heap.size:=⟨_,rfl⟩;rw[<-hG]at HM O hb ⊢;have ad:w1.heap.size<=G:=by omega
 have d7:G<=w1.heap.size:=by omega
 clear T U bo ch ci a6 a7 ck hG
 go_wp2_with fail
 go_loopw [6] (fun ev wr=>∃ k:Nat,k<=xs.length/\ev=.int .i64 ((k+1:Nat):Int)/\Mx wr G N (cm (bS gP (xs.take k)).ln)/\Below G w1 wr/\G+1+N<=wr.heap.size) (fun ev _=>xs.length+1-(intOf ev).toNat)
 case atStart=>exact⟨0,Nat.zero_le _,rfl,HM.u.same (fun i j _ _=>rfl),hb,O⟩
 clear HM O hb;obtain⟨k,hk,rfl,hM,hb,O⟩:=hrel;have HM:=ae hM;clear hM
 by_cases hlt:k<xs.length
 ·have cr:((k+1:Nat):Int)<=(xs.length:Int):=by omega
  have e1:((k+1:Nat):Int)-1=(k:Int):=by omega
  have d8:(k:Int)<(xs.length:Int):=by omega
  obtain⟨_,_,e,-,hc⟩:=Hv.u.below (hb.mono ad) lR;cases e;obtain⟨b,off,rfl,-,d9,af⟩:=hc (by omega);obtain⟨-,-,-,sv,c0,c1,c2,c3,ag⟩:=af k hlt;obtain⟨sa,sc,rfl,-,-,-⟩:=id ag;obtain⟨st,bd,hg,hp⟩:=bn.u k hk;obtain⟨st',hp⟩:=hp hlt;have a3:Hi (xs.take (k+1)=xs.take k++[xs[k]?.getD dE]):=cj hlt;clear hc af ag;generalize hX:xs[k]?.getD dE=x at *;have HX:=ae hX;obtain⟨xk,xset,xmn,xmx⟩:=x;simp only at c0 c1 c2 c3;clear hX;have a4:=ai wr (.cells #[.int .i64 xk,.slice sa xset.length sc,.int .i64 xmn,.int .i64 xmx] 65);rcases hp with ⟨V,-⟩|⟨V,B,l,r,hB,-⟩|⟨V,B,o,hB,-⟩
  ·have HE:Hi ((bS gP (xs.take (k+1))).ln=(bS gP (xs.take k)).ln):=by
    show(bS gP (xs.take (k+1))).ln=_;rw[a3.u];exact wI V
   simp only at V;have g1:(xk != 2)=true:=by simp;omega
   have g2:(xk != 4)=true:=by simp;omega
   clear hg;go_wp2
   go_roundw
   case rel=>exact⟨k+1,by omega,by go_num,by rw[HE.u];exact HM.u.keep a4 O,hb.trans (a4.mono (by omega)),by rw[ah];omega⟩
   simp[intOf];omega
  ·have ok2:=bc.u k hlt;rw[HX.u]at ok2;simp only at V;have ex:(⟨xk,xset,xmn,xmx⟩ : El)=⟨xk,[],0,0⟩:=by
    rcases ok2 with ⟨q1,q2,q3,q4⟩|⟨q1,q2,q3,q4⟩|⟨q1,q2,q3,q4,q5⟩<;>simp only at q1 q2 q3 q4
    ·omega
    ·subst q3 q4;obtain rfl:=List.eq_nil_of_length_eq_zero q2
     rfl
    omega
   obtain⟨slM,al,la,sal,nl,el,ol,bl⟩:=hg l (by rw[hB];simp);obtain⟨srM,ar,lb,sbr,nr,er,orr,br⟩:=hg r (by rw[hB];simp);have C:xs.take k=flats B++l.1++r.1:=by rw[<-bd,hB];simp[flats]
   have g:xs=xs.take (k+1)++xs.drop (k+1):=(List.take_append_drop _ _).symm;rw[a3.u,C,ex]at g;have a5:(flats B++l.1++r.1).length=k:=by rw[<-C,List.length_take];omega
   obtain⟨P,hP⟩ : ∃ P,P=flats B:=⟨_,rfl⟩;obtain⟨L,hL⟩ : ∃ L,L=l.1:=⟨_,rfl⟩;obtain⟨R,hR⟩ : ∃ R,R=r.1:=⟨_,rfl⟩;obtain⟨S,hS⟩ : ∃ S,S=xs.drop (k+1):=⟨_,rfl⟩;rw[<-hL]at slM nl el ol bl;rw[<-hR]at srM nr er orr br;rw[<-hP,<-hL,<-hR]at C a5 g;rw[<-hS]at g;clear hP hL hR hS hg bd hB ok2 nl nr;simp only[List.length_append]at a5;rcases V with rfl|rfl
   ·obtain⟨K,hK⟩ : ∃ K,K=(bS gP (xs.take k)).ln:=⟨_,rfl⟩;have HK:=ae hK;obtain⟨A,hA⟩ : ∃ A,A=al.la.map (aS P + ·):=⟨_,rfl⟩;obtain⟨Bq,D⟩ : ∃ B,B=ar.fi.map (aS P+aS L + ·):=⟨_,rfl⟩;have HE:Hi ((bS gP (xs.take (k+1))).ln=K++[(A,Bq)]):=by
     show(bS gP (xs.take (k+1))).ln=_;rw[a3.u,C,ex,yZ ol orr,<-C,<-hK,<-hA,<-D]
    have an:N=aS P+aS L+aS R+aS S:=by rw[HN.u,g];simp only[eZ];simp[aS]
    have bs:Hi (∀ i∈A,i<N):=fun i hi=>by rw[hA]at hi;obtain⟨j,hj,rfl⟩:=List.mem_map.1 hi;have:=bl.2 j hj;omega
    have bt:Hi (∀ i∈Bq,i<N):=fun i hi=>by rw[D]at hi;obtain⟨j,hj,rfl⟩:=List.mem_map.1 hi;have:=br.1 j hj;omega
    have ao:xs.length=P.length+(L.length+R.length+1)+S.length:=by
     have:=congrArg List.length g;simp only[List.length_append,List.length_singleton]at this;omega
    have ap:A.length<=3000:=by rw[hA,List.length_map];have:=el.2.1;omega
    have aq:Bq.length<=3000:=by rw[D,List.length_map];have:=er.1;omega
    obtain⟨pl,X⟩ : ∃ n,n=P.length:=⟨_,rfl⟩;obtain⟨ql,be⟩ : ∃ n,n=P.length+L.length:=⟨_,rfl⟩;obtain⟨cl,bv⟩ : ∃ n,n=aS P+aS L:=⟨_,rfl⟩;unfold maxLen at bf;have HV:Hi (∀ W,Below G w1 W->aA 0 W.heap.size W (.slice (some ⟨b,off,none⟩) xs.length cap) xs):=fun W hW=>Hv.u.below (hW.mono ad) lR
    have av:Hi (∀ W,Below G w1 W->Calls prog 102 #[.slice (some ⟨b,off,none⟩) xs.length cap,.int .i64 ((k+1:Nat):Int)] W fun e w'=>e=.returned (.int .i64 (pl:Int))/\w'=W):=fun W hW=>by
     rw[X];exact ik _ P (L++R++[⟨2,[],0,0⟩]) S _ _ W (ba.bin slM srM (Or.inl rfl)) ((HV.u W hW).eq (by rw[g];simp)) (by simp only[List.length_append,List.length_singleton];omega) (by simp only[List.length_append,List.length_singleton];omega)
    have ct:Hi (∀ W,Below G w1 W->Calls prog 102 #[.slice (some ⟨b,off,none⟩) xs.length cap,.int .i64 (k:Int)] W fun e w'=>e=.returned (.int .i64 (ql:Int))/\w'=W):=fun W hW=>by
     rw[be,<-List.length_append];exact ik _ (P++L) R ([⟨2,[],0,0⟩]++S) _ _ W srM ((HV.u W hW).eq (by rw[g];simp)) (by simp only[List.length_append,List.length_singleton];omega) (by simp only[List.length_append];omega)
    have ab:Hi (∀ W,Below G w1 W->Calls prog 105 #[.slice (some ⟨b,off,none⟩) pl cap] W fun e w'=>e=.returned (.int .i64 ((aS P:Nat):Int))/\w'=W):=fun W hW=>by
     rw[X];exact co _ P W (aA.pre (len:=xs.length) ((HV.u W hW).eq (by rw[g,List.append_assoc,List.append_assoc,List.append_assoc]))) (by omega)
    have aw:Hi (∀ W,Below G w1 W->Calls prog 105 #[.slice (some ⟨b,off,none⟩) ql cap] W fun e w'=>e=.returned (.int .i64 (cl:Int))/\w'=W):=fun W hW=>by
     rw[bv,be,<-List.length_append,<-eZ];exact co _ (P++L) W (aA.pre (len:=xs.length) (q:=R++([⟨2,[],0,0⟩]++S)) ((HV.u W hW).eq (by rw[g];simp))) (by simp only[List.length_append];omega)
    have b0:Hi (∀ W,Below G w1 W->Calls prog 69 #[.slice (some ⟨b,off+pl*4,none⟩) (ql-pl) (cap-pl),.int .i64 ((aS P:Nat):Int),.bool true] W fun e w'=>∃ v',e=.returned v'/\w'.ownsRow W.heap.size 3 1 v' A.length ((A.map Int.ofNat).map mI)/\Below W.heap.size W w'):=fun W hW=>by
     have h:=el.2.2 (.slice (some ⟨b,off+pl*4,none⟩) (ql-pl) (cap-pl)) W (aS P) true (by rw[show ql-pl=L.length by omega,X];exact aA.mid (len:=xs.length) (r:=R++([⟨2,[],0,0⟩]++S)) ((HV.u W hW).eq (by rw[g];simp)) (by unfold maxLen;omega)) (by omega) (by have:=eT P;omega);rw[DZ,<-hA,List.length_map]at h;exact h
    have b1:Hi (∀ W,Below G w1 W->Calls prog 69 #[.slice (some ⟨b,off+ql*4,none⟩) (k-ql) (cap-ql),.int .i64 (cl:Int),.bool false] W fun e w'=>∃ v',e=.returned v'/\w'.ownsRow W.heap.size 3 1 v' Bq.length ((Bq.map Int.ofNat).map mI)/\Below W.heap.size W w'):=fun W hW=>by
     have h:=er.2.2 (.slice (some ⟨b,off+ql*4,none⟩) (k-ql) (cap-ql)) W (aS P+aS L) false (by rw[show k-ql=R.length by omega,be,<-List.length_append];exact aA.mid (len:=xs.length) (r:=[⟨2,[],0,0⟩]++S) ((HV.u W hW).eq (by rw[g];simp)) (by unfold maxLen;simp only[List.length_append];omega)) (by omega) (by have:=eT P;have:=eT L;omega);rw[Ek,<-D,List.length_map,<-bv]at h;exact h
    have f7:IntKind.i64.wrap (k:Int)=(k:Int):=jf (by omega) (by omega);have j1:(pl:Int)<=(ql:Int):=by omega
    have j2:(ql:Int)<=(k:Int):=by omega
    have j3:(k:Int)<=(cap:Int):=by omega
    have j4:(ql:Int)<=(cap:Int):=by omega
    have j5:(pl:Int)<=(cap:Int):=by omega
    have Q:Below G w1 (wr.alloc (.cells #[.int .i64 2,.slice sa xset.length sc,.int .i64 xmn,.int .i64 xmx] 65)):=hb.alloc (by omega) _;have a7:(wr.alloc (.cells #[.int .i64 2,.slice sa xset.length sc,.int .i64 xmn,.int .i64 xmx] 65)).heap.size=wr.heap.size+1:=ah _ _;clear X be bv hA D el er ol orr bl br slM srM g C a5 ao hK bn bc an HV a3
    go_wp2_with fail;refine(av.u _ Q).mono ?_;rintro e _ ⟨rfl,rfl⟩
    go_wp2_with fail;refine(ct.u _ Q).mono ?_;rintro e _ ⟨rfl,rfl⟩;have f0:(wr.alloc (.cells #[.int .i64 2,.slice sa xset.length sc,.int .i64 xmn,.int .i64 xmx] 65)).cell? ⟨wr.heap.size,0,none⟩=some (.int .i64 2):=(ay wr _).news 0 _ rfl;obtain⟨wa,b2⟩ : ∃ wa,wa=wr.alloc (.cells #[.int .i64 2,.slice sa xset.length sc,.int .i64 xmn,.int .i64 xmx] 65):=⟨_,rfl⟩;rw[<-b2]at Q a7 a4 f0 ⊢;have c:=Q;clear b2 Q av ct
    go_upto_region 17 with fail
    go_cut [9] (fun fv wx=>wx.ownsRow wa.heap.size 3 1 fv A.length ((A.map Int.ofNat).map mI)/\Below wa.heap.size wa wx)
    case first =>
     go_region_with (first
      | (go_at_call 105;(with_reducible refine(ab.u _ ?_).mono ?_);(first|exact c|exact c.drew|exact c.drew.drew);rintro e w7 ⟨rfl,rfl⟩)
      | (go_at_call 69;(with_reducible refine(b0.u _ ?_).mono ?_);(first|exact c|exact c.drew|exact c.drew.drew);rintro e w8 ⟨v8,rfl,a8,m⟩))
     all_goals go_wp2_with fail
     all_goals go_meet
     all_goals exact⟨a8,⟨m.os,m.tape,m.output,m.size,m.block⟩⟩
    case rest =>
    obtain⟨s,p⟩:=hcut;obtain⟨wb,E⟩ : ∃ wb,wb=wc:=⟨_,rfl⟩;rw[<-E]at s p ⊢;clear E;have d:Below G w1 wb:=c.trans (p.mono (by omega));have bx:=p.size;have F:=ae s;obtain⟨fa,fc,rfl⟩:=aj s;clear s
    go_upto_region 18 with fail
    go_cut [10] (fun fv wx=>wx.ownsRow wb.heap.size 3 1 fv Bq.length ((Bq.map Int.ofNat).map mI)/\Below wb.heap.size wb wx)
    case first =>
     go_region_with (first
      | (go_at_call 105;(with_reducible refine(aw.u _ ?_).mono ?_);(first|exact d|exact d.drew|exact d.drew.drew);rintro e w7 ⟨rfl,rfl⟩)
      | (go_at_call 69;(with_reducible refine(b1.u _ ?_).mono ?_);(first|exact d|exact d.drew|exact d.drew.drew);rintro e w8 ⟨v8,rfl,a8,m⟩))
     all_goals go_wp2_with fail
     all_goals go_meet
     all_goals exact⟨a8,⟨m.os,m.tape,m.output,m.size,m.block⟩⟩
    case rest =>
    obtain⟨t,f⟩:=hcut;obtain⟨wd,H⟩ : ∃ wd,wd=wc:=⟨_,rfl⟩;rw[<-H]at t f ⊢;clear H;have a9:Below G w1 wd:=d.trans (f.mono (by omega));have bz:=f.size;have I:=ae t;obtain⟨ta,tc,rfl⟩:=aj t;clear t;have b3:Mx wd G N (cm K):=by rw[HK.u];exact((HM.u.keep a4 O).keep (p.mono (by omega)) lR).keep (f.mono (by omega)) lR
    have c4:=ae b3;obtain⟨_,_,e8,b4⟩:=jU (aG F.u f lR) rfl (by have:=ap;omega);cases e8;obtain⟨_,_,e9,b5⟩:=jU I.u rfl (by have:=aq;omega);cases e9;have c5:=ae b4;have c6:=ae b5;have c7:=a9;clear b3 b4 b5 F I HM p f ab b0 aw b1;have d3:A.length<=3000:=ap;have d4:Bq.length<=3000:=aq
    go_wp2_with fail
    go_loopw [12] (fun iv wr=>∃ x:Nat,x<=A.length/\iv=.int .i64 x/\Mx wr G N (cm (K++[(A.take x,Bq)]))/\qF (G+1) (G+1+N) wd wr) (fun iv _=>A.length-(intOf iv).toNat)
    case atStart=>exact⟨0,Nat.zero_le _,rfl,c4.u.same (fun i j _ _=>by rw[List.take_zero,mC]),qF.refl _ _ _⟩
    obtain⟨x,hx,rfl,b6,Y⟩:=hrel;have Z:=ae b6;clear b6
    by_cases hxl:x<A.length
    ·have cv:(x:Int)<(A.length:Int):=by omega
     obtain⟨fg,fo,rfl,d5,cw,b7⟩:=c5.u (by omega);have ca:=ae b7;have J:A[x]<N:=bs.u _ (List.getElem_mem hxl);clear b7
     go_wp2_with fail
     go_loopw [13] (fun jv wr=>∃ y:Nat,y<=Bq.length/\jv=.int .i64 y/\Mx wr G N (cm (K++[(A.take x,Bq)]++[([A[x]],Bq.take y)]))/\qF (G+1) (G+1+N) wd wr) (fun jv _=>Bq.length-(intOf jv).toNat)
     case atStart=>exact⟨0,Nat.zero_le _,rfl,Z.u.same (fun i j _ _=>by rw[List.take_zero,pe]),Y⟩
     clear Z Y;obtain⟨y,hy,rfl,z,a0⟩:=hrel
     by_cases hyl:y<Bq.length
     ·have cx:(y:Int)<(Bq.length:Int):=by omega
      obtain⟨tg,tof,rfl,d6,cy,b8⟩:=c6.u (by omega);have b9:Bq[y]<N:=bt.u _ (List.getElem_mem hyl);obtain⟨ax,a1⟩ : ∃ ax,ax=A[x]:=⟨_,rfl⟩;obtain⟨ly,a2⟩ : ∃ ly,ly=Bq[y]:=⟨_,rfl⟩;have q1:=ca.u wr (a0.block _ (Or.inr (by omega))) x hxl;have q2:=b8 wr (a0.block _ (Or.inr (by omega))) y hyl;rw[<-a1]at q1 J;rw[<-a2]at q2 b9;have q3:=z.top.cell J;have q4:=(z.row ax J).cell b9;have q5:=(z.row ax J).frozen ly;have d0:(ax:Int)<(N:Int):=by omega
      have d1:(ly:Int)<(N:Int):=by omega
      have aa:=ae z;have cb:=ae a1;have cc:=ae a2;have bb:Hi (Mx (wr.setCell ⟨G+1+ax,ly,none⟩ (.bool true)) G N (cm (K++[(A.take x,Bq)]++[([A[x]],Bq.take (y+1))]))):=(z.put (j:=ly) J).same (fun i j _ _=>by rw[sY _ _ _ _ _ hxl hyl,a1,a2]);have M:Hi (qF (G+1) (G+1+N) wd (wr.setCell ⟨G+1+ax,ly,none⟩ (.bool true))):=a0.put (by omega) (by omega) _;clear b8 z a1 a2 aa cb cc
      go_wp2_with fail
      go_region
      all_goals
       go_wp2
       go_roundw
       case rel =>
        exact⟨y+1,by omega,by go_num,⟨bb.u.top,bb.u.row⟩,⟨M.u.os,M.u.tape,M.u.output,M.u.size,M.u.block⟩⟩
       simp[intOf];omega
     have ey:y=Bq.length:=by omega
     subst ey;rw[List.take_length]at z;have aa:=ae z;clear z
     go_wp2_with fail
     go_roundw
     case rel =>
      exact⟨x+1,by omega,by go_num,aa.u.same (fun i j _ _=>vd _ _ _ _ hxl i j),a0⟩
     simp[intOf];omega
    have ex:x=A.length:=by omega
    subst ex;rw[List.take_length]at Z
    go_wp2_with fail
    go_roundw
    case rel =>
     exact⟨k+1,by omega,by go_num,by rw[HE.u];exact Z.u,c7.trans (Y.below.mono (by omega)),by rw[Y.size];omega⟩
    simp[intOf];omega
   have HE:Hi ((bS gP (xs.take (k+1))).ln=(bS gP (xs.take k)).ln):=by
    show(bS gP (xs.take (k+1))).ln=_;rw[a3.u,C,ex,yD ol orr]
   clear el er ol orr bl br slM srM g C a5;go_wp2
   go_roundw
   case rel=>exact⟨k+1,by omega,by go_num,by rw[HE.u];exact HM.u.keep a4 O,hb.trans (a4.mono (by omega)),by rw[ah];omega⟩
   simp[intOf];omega
  have ok2:=bc.u k hlt;rw[HX.u]at ok2;simp only at V;have ex:(⟨xk,xset,xmn,xmx⟩ : El)=⟨4,[],xmn,xmx⟩:=by
   rcases ok2 with ⟨q1,q2,q3,q4⟩|⟨q1,q2,q3,q4⟩|⟨q1,q2,q3,q4,q5⟩<;>simp only at q1 q2 q3 q4
   ·omega
   ·omega
   obtain rfl:=List.eq_nil_of_length_eq_zero q2;rw[V]
  have okq:0<=xmn/\(xmx = -1∨(xmn<=xmx/\xmx<=250)):=by
   rcases ok2 with ⟨q1,q2,q3,q4⟩|⟨q1,q2,q3,q4⟩|⟨q1,q2,q3,q4,q5⟩<;>simp only at q1 q2 q3 q4
   ·omega
   ·omega
   exact⟨q3,q5⟩
  obtain⟨slM,al,la,sal,nl,el,ol,bl⟩:=hg o (by rw[hB];simp);have C:xs.take k=flats B++o.1:=by rw[<-bd,hB];simp[flats]
  have g:xs=xs.take (k+1)++xs.drop (k+1):=(List.take_append_drop _ _).symm;rw[a3.u,C,ex]at g;have a5:(flats B++o.1).length=k:=by rw[<-C,List.length_take];omega
  obtain⟨P,hP⟩ : ∃ P,P=flats B:=⟨_,rfl⟩;obtain⟨L,hL⟩ : ∃ L,L=o.1:=⟨_,rfl⟩;obtain⟨S,hS⟩ : ∃ S,S=xs.drop (k+1):=⟨_,rfl⟩;rw[<-hL]at slM nl el ol bl;rw[<-hP,<-hL]at C a5 g;rw[<-hS]at g;subst V;clear hP hL hS hg bd hB ok2 nl;simp only[List.length_append]at a5;obtain⟨K,hK⟩ : ∃ K,K=(bS gP (xs.take k)).ln:=⟨_,rfl⟩;have HK:=ae hK;obtain⟨A,hA⟩ : ∃ A,A=al.la.map (aS P + ·):=⟨_,rfl⟩;obtain⟨Bq,D⟩ : ∃ B,B=al.fi.map (aS P + ·):=⟨_,rfl⟩;have HE:Hi ((bS gP (xs.take (k+1))).ln=K++[(A,Bq)]):=by
   show(bS gP (xs.take (k+1))).ln=_;rw[a3.u,C,ex,yN ol xmn xmx,<-C,<-hK,<-hA,<-D]
  have an:N=aS P+aS L+aS S:=by rw[HN.u,g];simp only[eZ];simp[aS]
  have bs:Hi (∀ i∈A,i<N):=fun i hi=>by rw[hA]at hi;obtain⟨j,hj,rfl⟩:=List.mem_map.1 hi;have:=bl.2 j hj;omega
  have bt:Hi (∀ i∈Bq,i<N):=fun i hi=>by rw[D]at hi;obtain⟨j,hj,rfl⟩:=List.mem_map.1 hi;have:=bl.1 j hj;omega
  have ao:xs.length=P.length+(L.length+1)+S.length:=by
   have:=congrArg List.length g;simp only[List.length_append,List.length_singleton]at this;omega
  have ap:A.length<=3000:=by rw[hA,List.length_map];have:=el.2.1;omega
  have aq:Bq.length<=3000:=by rw[D,List.length_map];have:=el.1;omega
  obtain⟨pl,X⟩ : ∃ n,n=P.length:=⟨_,rfl⟩;unfold maxLen at bf;have HV:Hi (∀ W,Below G w1 W->aA 0 W.heap.size W (.slice (some ⟨b,off,none⟩) xs.length cap) xs):=fun W hW=>Hv.u.below (hW.mono ad) lR
  have av:Hi (∀ W,Below G w1 W->Calls prog 102 #[.slice (some ⟨b,off,none⟩) xs.length cap,.int .i64 ((k+1:Nat):Int)] W fun e w'=>e=.returned (.int .i64 (pl:Int))/\w'=W):=fun W hW=>by
   rw[X];exact ik _ P (L++[⟨4,[],xmn,xmx⟩]) S _ _ W (ba.rep slM rfl okq.1 okq.2) ((HV.u W hW).eq (by rw[g];simp)) (by simp only[List.length_append,List.length_singleton];omega) (by simp only[List.length_append,List.length_singleton];omega)
  have ab:Hi (∀ W,Below G w1 W->Calls prog 105 #[.slice (some ⟨b,off,none⟩) pl cap] W fun e w'=>e=.returned (.int .i64 ((aS P:Nat):Int))/\w'=W):=fun W hW=>by
   rw[X];exact co _ P W (aA.pre (len:=xs.length) (q:=L++([⟨4,[],xmn,xmx⟩]++S)) ((HV.u W hW).eq (by rw[g];simp))) (by omega)
  have cf:Hi (∀ W,Below G w1 W->aA 0 W.heap.size W (.slice (some ⟨b,off+pl*4,none⟩) (k-pl) (cap-pl)) L):=fun W hW=>by
   rw[show k-pl=L.length by omega,X];exact aA.mid (len:=xs.length) (r:=[⟨4,[],xmn,xmx⟩]++S) ((HV.u W hW).eq (by rw[g];simp)) (by unfold maxLen;omega)
  have b0:Hi (∀ W,Below G w1 W->Calls prog 69 #[.slice (some ⟨b,off+pl*4,none⟩) (k-pl) (cap-pl),.int .i64 ((aS P:Nat):Int),.bool true] W fun e w'=>∃ v',e=.returned v'/\w'.ownsRow W.heap.size 3 1 v' A.length ((A.map Int.ofNat).map mI)/\Below W.heap.size W w'):=fun W hW=>by
   have h:=el.2.2 (.slice (some ⟨b,off+pl*4,none⟩) (k-pl) (cap-pl)) W (aS P) true (cf.u W hW) (by omega) (by have:=eT P;omega);rw[DZ,<-hA,List.length_map]at h;exact h
  have b1:Hi (∀ W,Below G w1 W->Calls prog 69 #[.slice (some ⟨b,off+pl*4,none⟩) (k-pl) (cap-pl),.int .i64 ((aS P:Nat):Int),.bool false] W fun e w'=>∃ v',e=.returned v'/\w'.ownsRow W.heap.size 3 1 v' Bq.length ((Bq.map Int.ofNat).map mI)/\Below W.heap.size W w'):=fun W hW=>by
   have h:=el.2.2 (.slice (some ⟨b,off+pl*4,none⟩) (k-pl) (cap-pl)) W (aS P) false (cf.u W hW) (by omega) (by have:=eT P;omega);rw[Ek,<-D,List.length_map]at h;exact h
  have aw:=ab;have f7:IntKind.i64.wrap (k:Int)=(k:Int):=jf (by omega) (by omega);have j1:(pl:Int)<=(k:Int):=by omega
  have j3:(k:Int)<=(cap:Int):=by omega
  have j5:(pl:Int)<=(cap:Int):=by omega
  have Q:Below G w1 (wr.alloc (.cells #[.int .i64 4,.slice sa xset.length sc,.int .i64 xmn,.int .i64 xmx] 65)):=hb.alloc (by omega) _;have a7:(wr.alloc (.cells #[.int .i64 4,.slice sa xset.length sc,.int .i64 xmn,.int .i64 xmx] 65)).heap.size=wr.heap.size+1:=ah _ _;clear X hA D el ol bl slM g C a5 ao hK bn bc an HV a3 cf okq
  go_wp2_with fail;refine(av.u _ Q).mono ?_;rintro e _ ⟨rfl,rfl⟩;have f0:(wr.alloc (.cells #[.int .i64 4,.slice sa xset.length sc,.int .i64 xmn,.int .i64 xmx] 65)).cell? ⟨wr.heap.size,0,none⟩=some (.int .i64 4):=(ay wr _).news 0 _ rfl;obtain⟨wa,b2⟩ : ∃ wa,wa=wr.alloc (.cells #[.int .i64 4,.slice sa xset.length sc,.int .i64 xmn,.int .i64 xmx] 65):=⟨_,rfl⟩;rw[<-b2]at Q a7 a4 f0 ⊢;have c:=Q;clear b2 Q av
  go_upto_region 19 with fail
  go_cut [9] (fun fv wx=>wx.ownsRow wa.heap.size 3 1 fv A.length ((A.map Int.ofNat).map mI)/\Below wa.heap.size wa wx)
  case first =>
   go_region_with (first
    | (go_at_call 105;(with_reducible refine(ab.u _ ?_).mono ?_);(first|exact c|exact c.drew|exact c.drew.drew);rintro e w7 ⟨rfl,rfl⟩)
    | (go_at_call 69;(with_reducible refine(b0.u _ ?_).mono ?_);(first|exact c|exact c.drew|exact c.drew.drew);rintro e w8 ⟨v8,rfl,a8,m⟩))
   all_goals go_wp2_with fail
   all_goals go_meet
   all_goals exact⟨a8,⟨m.os,m.tape,m.output,m.size,m.block⟩⟩
  case rest =>
  obtain⟨s,p⟩:=hcut;obtain⟨wb,E⟩ : ∃ wb,wb=wc:=⟨_,rfl⟩;rw[<-E]at s p ⊢;clear E;have d:Below G w1 wb:=c.trans (p.mono (by omega));have bx:=p.size;have F:=ae s;obtain⟨fa,fc,rfl⟩:=aj s;clear s
  go_upto_region 20 with fail
  go_cut [10] (fun fv wx=>wx.ownsRow wb.heap.size 3 1 fv Bq.length ((Bq.map Int.ofNat).map mI)/\Below wb.heap.size wb wx)
  case first =>
   go_region_with (first
    | (go_at_call 105;(with_reducible refine(aw.u _ ?_).mono ?_);(first|exact d|exact d.drew|exact d.drew.drew);rintro e w7 ⟨rfl,rfl⟩)
    | (go_at_call 69;(with_reducible refine(b1.u _ ?_).mono ?_);(first|exact d|exact d.drew|exact d.drew.drew);rintro e w8 ⟨v8,rfl,a8,m⟩))
   all_goals go_wp2_with fail
   all_goals go_meet
   all_goals exact⟨a8,⟨m.os,m.tape,m.output,m.size,m.block⟩⟩
  case rest =>
  obtain⟨t,f⟩:=hcut;obtain⟨wd,H⟩ : ∃ wd,wd=wc:=⟨_,rfl⟩;rw[<-H]at t f ⊢;clear H;have a9:Below G w1 wd:=d.trans (f.mono (by omega));have bz:=f.size;have I:=ae t;obtain⟨ta,tc,rfl⟩:=aj t;clear t;have b3:Mx wd G N (cm K):=by rw[HK.u];exact((HM.u.keep a4 O).keep (p.mono (by omega)) lR).keep (f.mono (by omega)) lR
  have c4:=ae b3;obtain⟨_,_,e8,b4⟩:=jU (aG F.u f lR) rfl (by have:=ap;omega);cases e8;obtain⟨_,_,e9,b5⟩:=jU I.u rfl (by have:=aq;omega);cases e9;have c5:=ae b4;have c6:=ae b5;have c7:=a9;clear b3 b4 b5 F I HM p f ab b0 aw b1;have d3:A.length<=3000:=ap;have d4:Bq.length<=3000:=aq
  go_wp2_with fail
  go_loopw [12] (fun iv wr=>∃ x:Nat,x<=A.length/\iv=.int .i64 x/\Mx wr G N (cm (K++[(A.take x,Bq)]))/\qF (G+1) (G+1+N) wd wr) (fun iv _=>A.length-(intOf iv).toNat)
  case atStart=>exact⟨0,Nat.zero_le _,rfl,c4.u.same (fun i j _ _=>by rw[List.take_zero,mC]),qF.refl _ _ _⟩
  obtain⟨x,hx,rfl,b6,Y⟩:=hrel;have Z:=ae b6;clear b6
  by_cases hxl:x<A.length
  ·have cv:(x:Int)<(A.length:Int):=by omega
   obtain⟨fg,fo,rfl,d5,cw,b7⟩:=c5.u (by omega);have ca:=ae b7;have J:A[x]<N:=bs.u _ (List.getElem_mem hxl);clear b7
   go_wp2_with fail
   go_loopw [13] (fun jv wr=>∃ y:Nat,y<=Bq.length/\jv=.int .i64 y/\Mx wr G N (cm (K++[(A.take x,Bq)]++[([A[x]],Bq.take y)]))/\qF (G+1) (G+1+N) wd wr) (fun jv _=>Bq.length-(intOf jv).toNat)
   case atStart=>exact⟨0,Nat.zero_le _,rfl,Z.u.same (fun i j _ _=>by rw[List.take_zero,pe]),Y⟩
   clear Z Y;obtain⟨y,hy,rfl,z,a0⟩:=hrel
   by_cases hyl:y<Bq.length
   ·have cx:(y:Int)<(Bq.length:Int):=by omega
    obtain⟨tg,tof,rfl,d6,cy,b8⟩:=c6.u (by omega);have b9:Bq[y]<N:=bt.u _ (List.getElem_mem hyl);obtain⟨ax,a1⟩ : ∃ ax,ax=A[x]:=⟨_,rfl⟩;obtain⟨ly,a2⟩ : ∃ ly,ly=Bq[y]:=⟨_,rfl⟩;have q1:=ca.u wr (a0.block _ (Or.inr (by omega))) x hxl;have q2:=b8 wr (a0.block _ (Or.inr (by omega))) y hyl;rw[<-a1]at q1 J;rw[<-a2]at q2 b9;have q3:=z.top.cell J;have q4:=(z.row ax J).cell b9;have q5:=(z.row ax J).frozen ly;have d0:(ax:Int)<(N:Int):=by omega
    have d1:(ly:Int)<(N:Int):=by omega
    have aa:=ae z;have cb:=ae a1;have cc:=ae a2;have bb:Hi (Mx (wr.setCell ⟨G+1+ax,ly,none⟩ (.bool true)) G N (cm (K++[(A.take x,Bq)]++[([A[x]],Bq.take (y+1))]))):=(z.put (j:=ly) J).same (fun i j _ _=>by rw[sY _ _ _ _ _ hxl hyl,a1,a2]);have M:Hi (qF (G+1) (G+1+N) wd (wr.setCell ⟨G+1+ax,ly,none⟩ (.bool true))):=a0.put (by omega) (by omega) _;clear b8 z a1 a2 aa cb cc
    go_wp2_with fail
    go_region
    all_goals
     go_wp2
     go_roundw
     case rel =>
      exact⟨y+1,by omega,by go_num,⟨bb.u.top,bb.u.row⟩,⟨M.u.os,M.u.tape,M.u.output,M.u.size,M.u.block⟩⟩
     simp[intOf];omega
   have ey:y=Bq.length:=by omega
   subst ey;rw[List.take_length]at z;have aa:=ae z;clear z
   go_wp2_with fail
   go_roundw
   case rel =>
    exact⟨x+1,by omega,by go_num,aa.u.same (fun i j _ _=>vd _ _ _ _ hxl i j),a0⟩
   simp[intOf];omega
  have ex:x=A.length:=by omega
  subst ex;rw[List.take_length]at Z
  go_wp2_with fail
  go_roundw
  case rel =>
   exact⟨k+1,by omega,by go_num,by rw[HE.u];exact Z.u,c7.trans (Y.below.mono (by omega)),by rw[Y.size];omega⟩
  simp[intOf];omega
 have ek:k=xs.length:=by omega
 subst ek;rw[List.take_length]at HM;have HQ:Hi (∃ G' cp,Ending.returned (.slice (some ⟨G,0,none⟩) N N)=.returned (.slice (some ⟨G',0,none⟩) N cp)/\w1.heap.size<=G'/\Mx wr G' N (cm (bS gP xs).ln)/\G'+1+N<=wr.heap.size/\Below w1.heap.size w1 wr):=⟨G,N,rfl,ad,HM.u,O,hb.mono ad⟩;clear HM;go_wp2;go_ret;exact HQ.u
end Go.Proofs.YtidfkbghlkcbeaaGreatDoor
