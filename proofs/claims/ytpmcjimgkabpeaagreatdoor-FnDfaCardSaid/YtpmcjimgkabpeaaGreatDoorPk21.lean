import Derived.Test.YtpmcjimgkabpeaaGreatDoorPk20
import Derived.Deep.DeepCutAuto
import Derived.Test.YtpmcjimgkabpeaaGreatDoorPk15
namespace Go.Proofs.YtpmcjimgkabpeaaGreatDoor
open Go.RowKit Go.Proofs.Tryz
set_option maxHeartbeats 16000000
set_option maxRecDepth 100000
def uH(ln:List Lk)(n:Nat):Prop:=∀ p∈ln,(∀ y∈p.1,y<n)/\∀ y∈p.2,y<n
theorem uH.mono{ln:List Lk}{n m:Nat}(h:uH ln n)(hm:n<=m):uH ln m:=fun p hp=>⟨fun y hy=>Nat.lt_of_lt_of_le ((h p hp).1 y hy) hm,fun y hy=>Nat.lt_of_lt_of_le ((h p hp).2 y hy) hm⟩
theorem uH.snoc{ln:List Lk}{n:Nat}{A B:List Nat}(h:uH ln n)(ha:∀ y∈A,y<n)(hb:∀ y∈B,y<n):uH (ln++[(A,B)]) n:=fun p hp=>by
 rcases List.mem_append.1 hp with hp|hp
 ·exact h p hp
 rw[List.mem_singleton]at hp;subst hp;exact⟨ha,hb⟩
def tq(s:Ms):Prop:=(∀ a∈s.st,ig a s.c)/\uH s.ln s.c
theorem tq.push{s:Ms}(h:tq s)(x:El):tq (eU s x):=by
 obtain⟨c,st,ln,ss⟩:=s;obtain⟨h1,h2⟩:=h;simp only at h1 h2;unfold eU;simp only
 repeat' split
 all_goals first
  | exact⟨h1,h2⟩
  | skip
 ·exact⟨fun a ha=>by rcases List.mem_cons.1 ha with rfl|ha;(constructor<;>simp);exact h1 a ha,h2⟩
 ·exact⟨fun a ha=>by rcases List.mem_cons.1 ha with rfl|ha;(constructor<;>simp);exact(h1 a ha).mono (Nat.le_succ _),h2.mono (Nat.le_succ _)⟩
 ·rename_i o _
  have ho:=h1 o (by simp);exact⟨fun a ha=>by rw[List.mem_singleton]at ha;subst ha;exact ho,h2.snoc ho.2 ho.1⟩
 ·rename_i r l b _
  have hr:=h1 r (by simp);exact⟨fun a ha=>by rcases List.mem_cons.1 ha with rfl|ha;exact hr;exact h1 a (List.mem_cons_of_mem _ ha),h2.snoc hr.2 hr.1⟩
 ·rename_i r l b _ _
  have hr:=h1 r (by simp);have hl:=h1 l (by simp);exact⟨fun a ha=>by rcases List.mem_cons.1 ha with rfl|ha;exact hl.cat hr;exact h1 a (by simp[ha]),h2.snoc hl.2 hr.1⟩
 rename_i r l b _ _
 have hr:=h1 r (by simp);have hl:=h1 l (by simp);exact⟨fun a ha=>by rcases List.mem_cons.1 ha with rfl|ha;exact hl.alt hr;exact h1 a (by simp[ha]),h2⟩
theorem tq.run(L:List El):∀ s:Ms,tq s->tq (bR s L):=by
 induction L with
 | nil=>intro s h;exact h
 | cons x r ih=>intro s h;exact ih _ (h.push x)
theorem cu.lkb{L:List El}{n:Nat}{a:It}{ln:List Lk}{ss:List (List Int)}(h:cu L n a ln ss):uH ln n:=by
 have h1:=(tq.run L gL ⟨by simp[gL],by intro p hp;simp[gL]at hp⟩).2;rw[h gL]at h1
 simpa[gL,cT]using h1
def kF(g:Nat->Nat)(j:Nat):Nat:=if j<4 then 18446744073709551615-g j else 0
theorem zt(g:Nat->Nat):Fit (kF g):=fun j=>by unfold kF;split<;>omega
theorem Cj{g:Nat->Nat}(hg:Fit g)(b:Nat):Bt (kF g) b=(decide (b<256) && !Bt g b):=by
 unfold Bt kF
 by_cases hb:b<256
 ·rw[if_pos (by omega)];have:=Nat.testBit_two_pow_sub_succ (show g (b / 64)<2 ^ 64 from hg (b / 64)) (b%64);rw[show(2:Nat) ^ 64-(g (b / 64)+1)=18446744073709551615-g (b / 64) by omega]at this;rw[this];simp[hb,show b%64<64 by omega]
 rw[if_neg (by omega)];simp[hb]
theorem Bx{a:Nat}(h:a<18446744073709551616):18446744073709551615 ^^^ a=18446744073709551615-a:=by
 apply Nat.eq_of_testBit_eq
 intro i;have h1:=Nat.testBit_two_pow_sub_one 64 i;have h2:=Nat.testBit_two_pow_sub_succ (show a<2 ^ 64 from h) i;rw[show(2:Nat) ^ 64-1=18446744073709551615 by decide]at h1;rw[show(2:Nat) ^ 64-(a+1)=18446744073709551615-a by omega]at h2;rw[Nat.testBit_xor,h1,h2]
 by_cases hi:i<64
 ·simp[hi]
 have:a.testBit i=false:=Nat.testBit_lt_two_pow (Nat.lt_of_lt_of_le h (by
  have:(2:Nat) ^ 64<=2 ^ i:=Nat.pow_le_pow_right (by decide) (by omega);exact this))
 simp[hi,this]
theorem BL{a:Nat}(h:a<18446744073709551616):bits BinOp.xor IntKind.u64 (if IntKind.u64.signed=true then -1 else IntKind.u64.max) (a:Int)=((18446744073709551615-a:Nat):Int):=by
 rw[<-Bx h];exact bits_xor_u64_nat 18446744073709551615 a (by decide) h
theorem pg(g:Nat->Nat)(w:World)(hg:Fit g):Calls prog 85 #[fZ g] w fun e w'=>e=.returned (fZ (kF g))/\Below w.heap.size w w':=by
 unfold fZ;have Hg:=ae hg;clear hg
 go_enter func85,ntmps85
 go_wp2
 go_loopw [4] (fun iv wr=>∃ i:Nat,i<=4/\iv=.int .i64 i/\wr.rowIs w.heap.size 88 4 (fun j=>.int .u64 ((if j<i then kF g j else g j:Nat):Int))/\(∃ g:Nat->Value,wr.rowIs (w.heap.size+1) 88 4 g)/\Below w.heap.size w wr) (fun iv _=>4-(intOf iv).toNat)
 case atStart =>
  refine⟨0,by omega,rfl,((ir w _ g).alloc _).congr (fun j hj=>by simp),⟨fun j=>.int .u64 ((fun _=>0:Nat->Nat) j:Nat),?_⟩,aH w _ _⟩;have h:=iB (w.alloc (.cells #[.int .u64 (g 0:Nat),.int .u64 (g 1:Nat),.int .u64 (g 2:Nat),.int .u64 (g 3:Nat)] 88)) 88;rw[ah]at h;exact h
 obtain⟨i,hi,rfl,b,⟨g2,a⟩,hb⟩:=hrel
 by_cases hlt:i<4
 ·have k:(i:Int)<4:=by omega
  have c0:=b.cell hlt;rw[if_neg (Nat.lt_irrefl _)]at c0;have f0:=b.frozen i;have f:=Hg.u i;have d:=ae b;have c:=ae a;clear b a;have hx:=BL f;have HX:=ae hx;clear hx;go_wp2;rw[HX.u];refine⟨⟨i+1,by omega,by go_num,?_,⟨g2,?_⟩,?_⟩,by simp[intOf];omega⟩
  ·refine(d.u.set i _).congr (fun j hj=>?_)
   by_cases e:j=i
   ·subst e;simp[kF,hlt]
   have e2:(j<i+1)↔j<i:=by omega
   simp[e,e2]
  ·exact c.u.setOther (by show w.heap.size+1≠w.heap.size;omega) _
  exact aI hb lR _
 obtain rfl:i=4:=by omega
 have c0:=b.cell (i:=0) (by omega);have c1:=b.cell (i:=1) (by omega);have c2:=b.cell (i:=2) (by omega);have c3:=b.cell (i:=3) (by omega);rw[if_pos (by omega)]at c0 c1 c2 c3;have d0:=a.cell (i:=0) (by omega);have d1:=a.cell (i:=1) (by omega);have d2:=a.cell (i:=2) (by omega);have d3:=a.cell (i:=3) (by omega);have f0:=a.frozen 0;have f1:=a.frozen 1;have f2:=a.frozen 2;have f3:=a.frozen 3;clear b a;go_wp2;refine bodyPost_ret (v:=.agg #[.int .u64 (kF g 0:Nat),.int .u64 (kF g 1:Nat),.int .u64 (kF g 2:Nat),.int .u64 (kF g 3:Nat)]) (by simp[results,results85,go_sem,d0,d1,d2,d3]) rfl ⟨rfl,?_⟩;exact aI (aI (aI (aI hb (by omega) _) (by omega) _) (by omega) _) (by omega) _
theorem sK:Fit (fun _=>0):=fun _=>by show 0<18446744073709551616;omega
theorem Ch(b:Nat):Bt (fun _=>0) b=false:=by simp[Bt]
theorem ef:cU [0,255]:=⟨rfl,fun i hi=>by
  match i,hi with
  | 0,_=>simp
  | 1,_=>simp,fun m hm=>by
  obtain rfl:m=0:=by simp at hm;omega
  simp[my]⟩
theorem vo:du [0,255] (kF (fun _=>0)):=⟨zt _,fun b=>by
 rw[Cj sK,Ch];show(decide (b<256) && !false)=(false||decide ((0:Int)<=(b:Int)/\(b:Int)<=255));simp;omega⟩
theorem FY{w w1:World}{t:TypeId}(hb:Below (w.heap.size+1) (w.alloc (.cells #[.int .u64 0,.int .u64 0,.int .u64 0,.int .u64 0] t)) w1):w1.rowIs w.heap.size t 4 (fun j=>.int .u64 ((fun _=>0:Nat->Nat) j:Nat)):=
 World.rowIs.of_block (iB w t) (hb.block _ (Nat.lt_succ_self _))
theorem tQ(w:World):Calls prog 44 #[] w fun e w'=>(∃ g,e=.returned (fZ g)/\du [0,255] g)/\Below w.heap.size w w':=by
 have c:=ai w (.cells #[.int .u64 0,.int .u64 0,.int .u64 0,.int .u64 0] 88)
 go_enter func44,ntmps44
 go_wp2_with fail;refine(pg (fun _=>0) _ sK).mono ?_;rintro e w1 ⟨rfl,b⟩;have a:=FY (b.mono (by rw[ah];omega));have d:Below w.heap.size w w1:=c.trans (b.mono (by rw[ah];omega));have d0:=a.cell (i:=0) (by omega);have d1:=a.cell (i:=1) (by omega);have d2:=a.cell (i:=2) (by omega);have d3:=a.cell (i:=3) (by omega);have f0:=a.frozen 0;have f1:=a.frozen 1;have f2:=a.frozen 2;have f3:=a.frozen 3;have HW:=ae vo;clear a b;generalize kF (fun _=>0)=q at *;unfold fZ;go_wp2;refine bodyPost_ret (v:=.agg #[.int .u64 (q 0:Nat),.int .u64 (q 1:Nat),.int .u64 (q 2:Nat),.int .u64 (q 3:Nat)]) (by simp[results,results44,go_sem,d0,d1,d2,d3]) rfl ⟨⟨q,rfl,HW.u⟩,?_⟩;exact aI (aI (aI (aI d (by omega) _) (by omega) _) (by omega) _) (by omega) _
def cZ(a:It)(last:Bool)(n:Nat):List Int:=(if last then a.la else a.fi).map (fun i=>((n+i:Nat):Int))
def vH(L:List El)(a:It):Prop:=a.fi.length<=L.length/\a.la.length<=L.length/\∀ (v:Value) (w:World) (n:Nat) (last:Bool),az 0 w.heap.size w v L->L.length<=3000->n+L.length<=10000->
 Calls prog 76 #[v,.int .i64 n,.bool last] w fun e w'=>∃ v',e=.returned v'/\w'.ownsRow w.heap.size 3 1 v' (cZ a last n).length ((cZ a last n).map mI)/\Below w.heap.size w w'
theorem iH{L:List El}{a:It}(h:vH L a)(last:Bool)(n:Nat):(cZ a last n).length<=L.length:=by
 unfold cZ;rw[List.length_map];cases last
 ·exact h.1
 exact h.2.1
theorem ES:vH [⟨0,[],0,0⟩] ⟨true,[],[]⟩:=by
 refine⟨by simp,by simp,?_⟩;intro v w n last hv f hn;obtain⟨a,cp,rfl,-,-⟩:=id hv;obtain⟨e,g,b,off,rfl,h,d⟩:=az.last (p:=[]) hv;simp only[List.length_singleton,List.length_nil,Nat.zero_mul,Nat.add_zero]at d hv ⊢;obtain⟨i1,i2,i3,sv,c0,c1,c2,c3,c⟩:=d;obtain⟨sa,sc,rfl,-,-,-⟩:=id c;have HE:Hi (cZ ⟨true,[],[]⟩ last n=[]):=by show cZ _ _ _=_;cases last<;>rfl
 rw[HE.u];clear hv c i1 i2 i3 HE
 go_enter func76,ntmps76
 go_wp2;go_ret;exact⟨_,rfl,World.ownsRow_nil _ _ _ _,ai w _⟩
theorem EO(xs:List Int):vH [⟨1,xs,0,0⟩] ⟨false,[0],[0]⟩:=by
 refine⟨by simp,by simp,?_⟩;intro v w n last hv g hn;obtain⟨a,cp,rfl,-,-⟩:=id hv;obtain⟨f,h,b,off,rfl,i,d⟩:=az.last (p:=[]) hv;simp only[List.length_singleton,List.length_nil,Nat.zero_mul,Nat.add_zero]at d hv ⊢;obtain⟨i1,i2,i3,sv,c0,c1,c2,c3,c⟩:=d;obtain⟨sa,sc,rfl,-,-,-⟩:=id c;have HE:Hi (cZ ⟨false,[0],[0]⟩ last n=[(n:Int)]):=by show cZ _ _ _=_;cases last<;>rfl
 rw[HE.u];clear hv c i1 i2 i3 HE
 go_enter func76,ntmps76
 go_wp2;go_ret;have ho:=World.ownsRow_lit (base:=w.heap.size) (size:=1) (e:=3) (w.alloc (.cells #[.int .i64 1,.slice sa xs.length sc,.int .i64 0,.int .i64 0] 70)) #[.int .i64 (n:Int)] 1 (by rw[ah];omega) (by unfold maxLen;omega) rfl;rw[ah]at ho;exact⟨_,rfl,ho,aH w _ _⟩
theorem yo(l:List El)(a0:It)(mn mx:Int)(hl:vH l a0):vH (l++[⟨4,[],mn,mx⟩]) (dL a0 mn):=by
 obtain⟨h1,h2,hl⟩:=hl;refine⟨by simp[dL];omega,by simp[dL];omega,?_⟩;intro v w n last hv i hn;have h:=hv;obtain⟨a,cp,rfl,-,-⟩:=id hv;obtain⟨c,g,b,off,rfl,s,o⟩:=hv.last;rw[c]at hv h g ⊢;simp only[List.length_append,List.length_singleton]at i c;unfold maxLen at g;obtain⟨i1,i2,i3,sv,c0,c1,c2,c3,d⟩:=o;obtain⟨sa,sc,rfl,-,-,-⟩:=id d;simp only at c0 c2 c3;clear c i1 i2 i3 d;have j:az 0 w.heap.size w (.slice (some ⟨b,off,none⟩) l.length cp) l:=h.pre;have p:=ae j;have e1:(((l.length+1:Nat):Int)-1)=((l.length:Nat):Int):=by omega
 have k:=ai w (.cells #[.int .i64 4,.slice sa 0 sc,.int .i64 mn,.int .i64 mx] 70);have HH:=ae hl;have HE:Hi (cZ (dL a0 mn) last n=cZ a0 last n):=rfl;rw[HE.u];generalize hX:cZ a0 last n=X;have HX:=ae hX;clear j hv h hl HE hX
 go_enter func76,ntmps76
 go_wp2_with fail;refine(HH.u _ _ n last (p.u.below k lR) (by omega) (by simp only[List.length_append,List.length_singleton]at hn;omega)).mono ?_;rintro e w1 ⟨v1,rfl,f,m⟩;rw[HX.u,ah]at f;have q:=k.trans (m.mono (by rw[ah];omega));have r:=ae (aS f (show w.heap.size<=w.heap.size+1 by omega));obtain⟨a1,c9,rfl⟩:=aj f;clear m f;go_wp2;go_ret;exact⟨_,rfl,r.u,q⟩
theorem tw(xs:List Nat)(n m:Nat):(xs.map (m + ·)).map (fun i=>((n+i:Nat):Int))=xs.map (fun i=>((n+m+i:Nat):Int)):=by
 rw[List.map_map]
 congr 1
 funext i
 simp only[Function.comp];omega
theorem BA(a b:It)(last:Bool)(n m:Nat):cZ (cP a (b.sh m)) last n=cZ a last n++cZ b last (n+m):=by
 cases last<;>simp only[cZ,cP,It.sh,List.map_append,tw,if_true,if_false,Bool.false_eq_true]
theorem rz(a b:It)(m:Nat):(bV a (b.sh m)).fi.length<=a.fi.length+b.fi.length/\(bV a (b.sh m)).la.length<=a.la.length+b.la.length:=by
 obtain⟨an,af,al⟩:=a;obtain⟨bn,bf,bl⟩:=b;cases an<;>cases bn<;>simp[bV,It.sh]
theorem Ax(a b:It)(n m:Nat):cZ (bV a (b.sh m)) false n=cZ a false n++(if a.nl then cZ b false (n+m) else []):=by
 simp only[cZ,bV,It.sh,Bool.false_eq_true,if_false,List.map_append]
 by_cases h:a.nl=true
 ·rw[if_pos h,if_pos h,tw]
 rw[if_neg h,if_neg h,List.map_nil]
theorem zB(a b:It)(n m:Nat):cZ (bV a (b.sh m)) true n=(if b.nl then cZ a true n else [])++cZ b true (n+m):=by
 obtain⟨bn,bf,bl⟩:=b;cases bn<;>simp only[cZ,bV,It.sh,if_true,List.map_append,tw,Bool.false_eq_true,if_false,List.map_nil]
theorem zZ(l r:List El)(a1 a2:It)(cr:Int)(sr:aM r cr)(hl:vH l a1)(hr:vH r a2):vH (l++r++[⟨3,[],0,0⟩]) (cP a1 (a2.sh (aO l))):=by
 have I:=ae (iH hl);have J:=ae (iH hr);obtain⟨p1,p2,hl⟩:=hl;obtain⟨q1,q2,hr⟩:=hr;refine⟨by simp[cP,It.sh];omega,by simp[cP,It.sh];omega,?_⟩;intro v w n last hv x hn;have c:=hv;obtain⟨a,cp,rfl,-,-⟩:=id hv;obtain⟨d,f,b,off,rfl,a8,y⟩:=hv.last;rw[d]at hv c f ⊢;simp only[List.length_append,List.length_singleton]at hv c x d y f hn ⊢;unfold maxLen at f;obtain⟨i1,i2,i3,sv,c0,c1,c2,c3,g⟩:=y;obtain⟨sa,sc,rfl,-,-,-⟩:=id g;simp only at c0 c2 c3;clear d i1 i2 i3 g;have e1:(((l.length+r.length+1:Nat):Int)-1)=((l.length+r.length:Nat):Int):=by omega
 have z:az 0 w.heap.size w (.slice (some ⟨b,off,none⟩) l.length cp) (l):=by rw[List.append_assoc]at c;exact c.pre
 have A:=c.mid (cap':=cp-l.length) (by unfold maxLen;omega);have f5:l.length+r.length-l.length=r.length:=by omega
 have a9:=eO l;have f6:IntKind.i64.wrap ((n:Int)+(aO l:Int))=(n:Int)+(aO l:Int):=lf (by omega) (by omega);have B:=ae z;have K:=ae A;have L:=ae c;have M:=ae hl;have N:=ae hr;have s:=ai w (.cells #[.int .i64 3,.slice sa 0 sc,.int .i64 0,.int .i64 0] 70);have a4:Hi (∀ W,Below (w.heap.size+1) (w.alloc (.cells #[.int .i64 3,.slice sa 0 sc,.int .i64 0,.int .i64 0] 70)) W->W.cell? ⟨w.heap.size,0,none⟩=some (.int .i64 3)):=fun W hW=>(hW.cell (p:=⟨w.heap.size,0,none⟩) (Nat.lt_succ_self _)).trans ((au w _).news 0 _ rfl)
 clear z A hv c hl hr;obtain⟨T,hT⟩ : ∃ T,T=cZ (cP a1 (a2.sh (aO l))) last n:=⟨_,rfl⟩;rw[<-hT];have HT:Hi (T=cZ a1 last n++cZ a2 last (n+aO l)):=by show T=_;rw[hT,BA]
 clear hT
 go_enter func76,ntmps76
 go_wp2_with fail;refine(bO _ l r cr _ _ _ sr (by exact L.u.below (ai w _) lR) (by omega) rfl).mono ?_;rintro e w1 ⟨rfl,rfl⟩
 go_wp2_with fail;have O:(w.alloc (.cells #[.int .i64 3,.slice sa 0 sc,.int .i64 0,.int .i64 0] 70)).heap.size=w.heap.size+1:=ah _ _;generalize w.alloc (.cells #[.int .i64 3,.slice sa 0 sc,.int .i64 0,.int .i64 0] 70)=W0 at *;have a5:w.heap.size+1<=W0.heap.size:=by omega
 clear O c0 c1 c2 c3;refine(M.u _ _ n last (B.u.below s lR) (by omega) (by omega)).mono ?_;rintro e w2 ⟨v2,rfl,i,C⟩;have D:Below w.heap.size w w2:=s.trans (C.mono s.size);obtain⟨X1,j⟩ : ∃ X,X=cZ a1 last n:=⟨_,rfl⟩;rw[<-j]at i;have a6:X1.length<=3000:=by rw[j];have:=I.u last n;omega
 have P:=ae j;have S2:=ae (lz.at (bP (lo:=0) i (Nat.zero_le _) (by unfold maxLen;omega)));obtain⟨x2a,x2c,rfl⟩:=aj i;have Q:=D.size;clear i C j
 go_wp2_with (at_builtin;refine ez rfl _ _ rfl w.heap.size _ rfl ([]:List Int) (World.ownsRow_nil _ _ _ _) Q _ rfl X1 S2.u (by simp;omega) ?_;intro v3 w3 E F R;have h:w3.ownsRow w.heap.size 3 1 v3 X1.length (X1.map mI):=F;have S:=ae h;obtain⟨x3a,x3c,rfl⟩:=aj h;have k:Below w.heap.size w w3:=D.trans E;clear F h E R);refine(cj _ l _ (B.u.below k lR) (by omega)).mono ?_;rintro e w4 ⟨rfl,rfl⟩
 go_wp2_with fail;refine(N.u _ _ (n+aO l) last (K.u.below k lR) (by omega) (by omega)).mono ?_;rintro e w5 ⟨v5,rfl,m,t⟩;have G:Below w.heap.size w w5:=k.trans (t.mono k.size);obtain⟨X2,o⟩ : ∃ X,X=cZ a2 last (n+aO l):=⟨_,rfl⟩;rw[<-o]at m;have a7:X2.length<=3000:=by rw[o];have:=J.u last (n+aO l);omega
 have U:=ae o;have S5:=ae (lz.at (bP (lo:=0) m (Nat.zero_le _) (by unfold maxLen;omega)));have OWNK:=ae (aG S.u t lR);obtain⟨x5a,x5c,rfl⟩:=aj m;have V:=G.size;clear m t o
 go_wp2_with (at_builtin;refine ez rfl _ _ rfl w.heap.size _ rfl X1 OWNK.u V _ rfl X2 S5.u (by (try simp only[List.length_nil]);omega) ?_;intro v6 w6 H q Y;obtain⟨Z,hZ⟩ : ∃ Z,Z=X1++X2:=⟨_,rfl⟩;rw[<-hZ]at q;have HZ:=ae hZ;have a0:=ae q;obtain⟨x6a,x6c,rfl⟩:=aj q;have a3:Below w.heap.size w w6:=G.trans H;clear q H Y hZ);go_ret;exact⟨_,rfl,by rw[HT.u,<-P.u,<-U.u,<-HZ.u];exact a0.u,a3⟩
theorem An(l r:List El)(a1 a2:It)(cr:Int)(sr:aM r cr)(hl:vH l a1)(hr:vH r a2)(nl:vb l a1.nl)(nr:vb r a2.nl):vH (l++r++[⟨2,[],0,0⟩]) (bV a1 (a2.sh (aO l))):=by
 have S:=ae (iH hl);have U:=ae (iH hr);obtain⟨p1,p2,hl⟩:=hl;obtain⟨q1,q2,hr⟩:=hr;refine⟨by have:=(rz a1 a2 (aO l)).1;simp only[List.length_append,List.length_singleton];omega,by have:=(rz a1 a2 (aO l)).2;simp only[List.length_append,List.length_singleton];omega,?_⟩;intro v w n last hv a3 hn;have z:=hv;obtain⟨a,cp,rfl,-,-⟩:=id hv;obtain⟨A,C,b,off,rfl,aa,a4⟩:=hv.last;rw[A]at hv z C ⊢;simp only[List.length_append,List.length_singleton]at hv z a3 A a4 C hn ⊢;unfold maxLen at C;obtain⟨i1,i2,i3,sv,c0,c1,c2,c3,D⟩:=a4;obtain⟨sa,sc,rfl,-,-,-⟩:=id D;simp only at c0 c2 c3;clear A i1 i2 i3 D;have e1:(((l.length+r.length+1:Nat):Int)-1)=((l.length+r.length:Nat):Int):=by omega
 have a5:az 0 w.heap.size w (.slice (some ⟨b,off,none⟩) l.length cp) (l):=by rw[List.append_assoc]at z;exact z.pre
 have a6:=z.mid (cap':=cp-l.length) (by unfold maxLen;omega);have f5:l.length+r.length-l.length=r.length:=by omega
 have ab:=eO l;have f6:IntKind.i64.wrap ((n:Int)+(aO l:Int))=(n:Int)+(aO l:Int):=lf (by omega) (by omega);have B:=ae a5;have O:=ae a6;have a7:=ae z;have V:=ae hl;have Y:=ae hr;have P:=ai w (.cells #[.int .i64 2,.slice sa 0 sc,.int .i64 0,.int .i64 0] 70);have a9:Hi (∀ W,Below (w.heap.size+1) (w.alloc (.cells #[.int .i64 2,.slice sa 0 sc,.int .i64 0,.int .i64 0] 70)) W->W.cell? ⟨w.heap.size,0,none⟩=some (.int .i64 2)):=fun W hW=>(hW.cell (p:=⟨w.heap.size,0,none⟩) (Nat.lt_succ_self _)).trans ((au w _).news 0 _ rfl)
 clear a5 a6 hv z hl hr;obtain⟨T,hT⟩ : ∃ T,T=cZ (bV a1 (a2.sh (aO l))) last n:=⟨_,rfl⟩;rw[<-hT];have NL:=ae nl;have NR:=ae nr;clear nl nr;cases last with
 | true =>
  have HT:Hi (T=(if a2.nl then cZ a1 true n else [])++cZ a2 true (n+aO l)):=by show T=_;rw[hT,zB]
  clear hT
  go_enter func76,ntmps76
  go_wp2_with fail;refine(bO _ l r cr _ _ _ sr (by exact a7.u.below (ai w _) lR) (by omega) rfl).mono ?_;rintro e w1 ⟨rfl,rfl⟩
  go_wp2_with fail;have a0:(w.alloc (.cells #[.int .i64 2,.slice sa 0 sc,.int .i64 0,.int .i64 0] 70)).heap.size=w.heap.size+1:=ah _ _;generalize w.alloc (.cells #[.int .i64 2,.slice sa 0 sc,.int .i64 0,.int .i64 0] 70)=W0 at *;have a8:w.heap.size+1<=W0.heap.size:=by omega
  clear a0 c0 c1 c2 c3;refine(NR.u _ _ (O.u.below P lR) (by omega)).mono ?_;rintro e w1 ⟨rfl,E⟩;have d:Below w.heap.size w w1:=P.trans (E.mono (by omega));clear E;cases hq:a2.nl with
  | true =>
   rw[hq,if_pos rfl]at HT
   go_wp2_with fail;refine(V.u _ _ n true (B.u.below d lR) (by omega) (by omega)).mono ?_;rintro e w2 ⟨v2,rfl,f,o⟩;have q:Below w.heap.size w w2:=d.trans (o.mono d.size);obtain⟨X1,g⟩ : ∃ X,X=cZ a1 true n:=⟨_,rfl⟩;rw[<-g]at f;have Q:X1.length<=3000:=by rw[g];have:=S.u true n;omega
   have F:=ae g;have S2:=ae (lz.at (bP (lo:=0) f (Nat.zero_le _) (by unfold maxLen;omega)));obtain⟨x2a,x2c,rfl⟩:=aj f;have G:=q.size;clear f o g
   go_wp2_with (at_builtin;refine ez rfl _ _ rfl w.heap.size _ rfl ([]:List Int) (World.ownsRow_nil _ _ _ _) G _ rfl X1 S2.u (by simp;omega) ?_;intro v3 w3 s t H;have c:w3.ownsRow w.heap.size 3 1 v3 X1.length (X1.map mI):=t;have I:=ae c;obtain⟨x3a,x3c,rfl⟩:=aj c;have k:Below w.heap.size w w3:=q.trans s;clear t c s H);refine(cj _ l _ (B.u.below k lR) (by omega)).mono ?_;rintro e w4 ⟨rfl,rfl⟩
   go_wp2_with fail;refine(Y.u _ _ (n+aO l) true (O.u.below k lR) (by omega) (by omega)).mono ?_;rintro e w5 ⟨v5,rfl,h,m⟩;have x:Below w.heap.size w w5:=k.trans (m.mono k.size);obtain⟨X2,i⟩ : ∃ X,X=cZ a2 true (n+aO l):=⟨_,rfl⟩;rw[<-i]at h;have R:X2.length<=3000:=by rw[i];have:=U.u true (n+aO l);omega
   have J:=ae i;have S5:=ae (lz.at (bP (lo:=0) h (Nat.zero_le _) (by unfold maxLen;omega)));have OWNK:=ae (aG I.u m lR);obtain⟨x5a,x5c,rfl⟩:=aj h;have K:=x.size;clear h m i
   go_wp2_with (at_builtin;refine ez rfl _ _ rfl w.heap.size _ rfl X1 OWNK.u K _ rfl X2 S5.u (by (try simp only[List.length_nil]);omega) ?_;intro v6 w6 y j L;obtain⟨Z,hZ⟩ : ∃ Z,Z=X1++X2:=⟨_,rfl⟩;rw[<-hZ]at j;have HZ:=ae hZ;have M:=ae j;obtain⟨x6a,x6c,rfl⟩:=aj j;have N:Below w.heap.size w w6:=x.trans y;clear j y L hZ);go_ret;exact⟨_,rfl,by rw[HT.u,<-F.u,<-J.u,<-HZ.u];exact M.u,N⟩
  | false =>
   rw[hq,if_neg (by simp)]at HT
   go_wp2_with fail;refine(cj _ l _ (B.u.below d lR) (by omega)).mono ?_;rintro e w4 ⟨rfl,rfl⟩
   go_wp2_with fail;refine(Y.u _ _ (n+aO l) true (O.u.below d lR) (by omega) (by omega)).mono ?_;rintro e w5 ⟨v5,rfl,h,m⟩;have x:Below w.heap.size w w5:=d.trans (m.mono d.size);obtain⟨X2,i⟩ : ∃ X,X=cZ a2 true (n+aO l):=⟨_,rfl⟩;rw[<-i]at h;have R:X2.length<=3000:=by rw[i];have:=U.u true (n+aO l);omega
   have J:=ae i;have S5:=ae (lz.at (bP (lo:=0) h (Nat.zero_le _) (by unfold maxLen;omega)));have OWNK:=ae (World.ownsRow_nil w5 w.heap.size 3 1);obtain⟨x5a,x5c,rfl⟩:=aj h;have K:=x.size;clear h m i
   go_wp2_with (at_builtin;refine ez rfl _ _ rfl w.heap.size _ rfl ([]:List Int) OWNK.u K _ rfl X2 S5.u (by (try simp only[List.length_nil]);omega) ?_;intro v6 w6 y j L;obtain⟨Z,hZ⟩ : ∃ Z,Z=([]:List Int)++X2:=⟨_,rfl⟩;rw[<-hZ]at j;have HZ:=ae hZ;have M:=ae j;obtain⟨x6a,x6c,rfl⟩:=aj j;have N:Below w.heap.size w w6:=x.trans y;clear j y L hZ);go_ret;exact⟨_,rfl,by rw[HT.u,<-J.u,<-HZ.u];exact M.u,N⟩
 | false =>
  have HT:Hi (T=cZ a1 false n++(if a1.nl then cZ a2 false (n+aO l) else [])):=by show T=_;rw[hT,Ax]
  clear hT
  go_enter func76,ntmps76
  go_wp2_with fail;refine(bO _ l r cr _ _ _ sr (by exact a7.u.below (ai w _) lR) (by omega) rfl).mono ?_;rintro e w1 ⟨rfl,rfl⟩
  go_wp2_with fail;have a0:(w.alloc (.cells #[.int .i64 2,.slice sa 0 sc,.int .i64 0,.int .i64 0] 70)).heap.size=w.heap.size+1:=ah _ _;generalize w.alloc (.cells #[.int .i64 2,.slice sa 0 sc,.int .i64 0,.int .i64 0] 70)=W0 at *;have a8:w.heap.size+1<=W0.heap.size:=by omega
  clear a0 c0 c1 c2 c3;refine(NL.u _ _ (B.u.below P lR) (by omega)).mono ?_;rintro e w1 ⟨rfl,E⟩;have d:Below w.heap.size w w1:=P.trans (E.mono (by omega));clear E;cases hq:a1.nl with
  | true =>
   rw[hq,if_pos rfl]at HT
   go_wp2_with fail;refine(V.u _ _ n false (B.u.below d lR) (by omega) (by omega)).mono ?_;rintro e w2 ⟨v2,rfl,f,o⟩;have q:Below w.heap.size w w2:=d.trans (o.mono d.size);obtain⟨X1,g⟩ : ∃ X,X=cZ a1 false n:=⟨_,rfl⟩;rw[<-g]at f;have Q:X1.length<=3000:=by rw[g];have:=S.u false n;omega
   have F:=ae g;have S2:=ae (lz.at (bP (lo:=0) f (Nat.zero_le _) (by unfold maxLen;omega)));obtain⟨x2a,x2c,rfl⟩:=aj f;have G:=q.size;clear f o g
   go_wp2_with (at_builtin;refine ez rfl _ _ rfl w.heap.size _ rfl ([]:List Int) (World.ownsRow_nil _ _ _ _) G _ rfl X1 S2.u (by simp;omega) ?_;intro v3 w3 s t H;have c:w3.ownsRow w.heap.size 3 1 v3 X1.length (X1.map mI):=t;have I:=ae c;obtain⟨x3a,x3c,rfl⟩:=aj c;have k:Below w.heap.size w w3:=q.trans s;clear t c s H);refine(cj _ l _ (B.u.below k lR) (by omega)).mono ?_;rintro e w4 ⟨rfl,rfl⟩
   go_wp2_with fail;refine(Y.u _ _ (n+aO l) false (O.u.below k lR) (by omega) (by omega)).mono ?_;rintro e w5 ⟨v5,rfl,h,m⟩;have x:Below w.heap.size w w5:=k.trans (m.mono k.size);obtain⟨X2,i⟩ : ∃ X,X=cZ a2 false (n+aO l):=⟨_,rfl⟩;rw[<-i]at h;have R:X2.length<=3000:=by rw[i];have:=U.u false (n+aO l);omega
   have J:=ae i;have S5:=ae (lz.at (bP (lo:=0) h (Nat.zero_le _) (by unfold maxLen;omega)));have OWNK:=ae (aG I.u m lR);obtain⟨x5a,x5c,rfl⟩:=aj h;have K:=x.size;clear h m i
   go_wp2_with (at_builtin;refine ez rfl _ _ rfl w.heap.size _ rfl X1 OWNK.u K _ rfl X2 S5.u (by (try simp only[List.length_nil]);omega) ?_;intro v6 w6 y j L;obtain⟨Z,hZ⟩ : ∃ Z,Z=X1++X2:=⟨_,rfl⟩;rw[<-hZ]at j;have HZ:=ae hZ;have M:=ae j;obtain⟨x6a,x6c,rfl⟩:=aj j;have N:Below w.heap.size w w6:=x.trans y;clear j y L hZ);go_ret;exact⟨_,rfl,by rw[HT.u,<-F.u,<-J.u,<-HZ.u];exact M.u,N⟩
  | false =>
   rw[hq,if_neg (by simp),List.append_nil]at HT
   go_wp2_with fail;refine(V.u _ _ n false (B.u.below d lR) (by omega) (by omega)).mono ?_;rintro e w2 ⟨v2,rfl,f,o⟩;have q:Below w.heap.size w w2:=d.trans (o.mono d.size);obtain⟨X1,g⟩ : ∃ X,X=cZ a1 false n:=⟨_,rfl⟩;rw[<-g]at f;have Q:X1.length<=3000:=by rw[g];have:=S.u false n;omega
   have F:=ae g;have S2:=ae (lz.at (bP (lo:=0) f (Nat.zero_le _) (by unfold maxLen;omega)));obtain⟨x2a,x2c,rfl⟩:=aj f;have G:=q.size;clear f o g
   go_wp2_with (at_builtin;refine ez rfl _ _ rfl w.heap.size _ rfl ([]:List Int) (World.ownsRow_nil _ _ _ _) G _ rfl X1 S2.u (by simp;omega) ?_;intro v3 w3 s t H;have c:w3.ownsRow w.heap.size 3 1 v3 X1.length (X1.map mI):=t;have I:=ae c;obtain⟨x3a,x3c,rfl⟩:=aj c;have k:Below w.heap.size w w3:=q.trans s;clear t c s H);go_ret;exact⟨_,rfl,by rw[HT.u,<-F.u];exact I.u,k⟩
structure Mx (w:World) (G n:Nat) (f:Nat->Nat->Bool):Prop where
 top:w.rowIs G 31 n (fun i=>.slice (some ⟨G+1+i,0,none⟩) n n)
 row:∀ i,i<n->w.rowIs (G+1+i) 4 n (fun j=>.bool (f i j))
theorem Mx.keep{w w':World}{G n m:Nat}{f:Nat->Nat->Bool}(h:Mx w G n f)(hb:Below m w w')(hm:G+1+n<=m):Mx w' G n f:=
 ⟨h.top.of_block (hb.block G (by omega)),fun i hi=>(h.row i hi).of_block (hb.block _ (by omega))⟩
theorem Mx.put{w:World}{G n i j:Nat}{f:Nat->Nat->Bool}(h:Mx w G n f)(hi:i<n):Mx (w.setCell ⟨G+1+i,j,none⟩ (.bool true)) G n (fun a b=>f a b||(decide (a=i)&&decide (b=j))):=by
 refine⟨h.top.setOther (by show G≠G+1+i;omega) _,fun a ha=>?_⟩
 by_cases e:a=i
 ·subst e;refine((h.row a ha).set j _).congr (fun b hb=>?_)
  by_cases e2:b=j
  ·simp[e2]
  simp[e2]
 exact((h.row a ha).setOther (by show G+1+a≠G+1+i;omega) _).congr (fun b hb=>by simp[e])
theorem Mx.same{w:World}{G n:Nat}{f g:Nat->Nat->Bool}(h:Mx w G n f)(e:∀ i j,i<n->j<n->f i j=g i j):Mx w G n g:=
 ⟨h.top,fun i hi=>(h.row i hi).congr (fun j hj=>by rw[e i j hi hj])⟩
theorem ik(v:Value)(P seg R:List El)(c z:Int)(w:World)(sm:aM seg c)(hv:az 0 w.heap.size w v (P++seg++R))(hlen:(P++seg++R).length<=1048576)(hz:z=P.length+seg.length) :
  Calls prog 70 #[v,.int .i64 z] w fun e w'=>e=.returned (.int .i64 (P.length:Int))/\w'=w:=by
 subst hz;have pr:=sm.ne;have h:=kV v (P++seg++R) P.length (P.length+seg.length) w hv hlen (by omega) (by simp only[List.length_append];omega) ?_ ?_
 ·rwa [Int.natCast_add]at h
 ·rw[show P.length+seg.length=(P++seg).length by simp,List.take_left' rfl,List.drop_left' rfl];exact sm.ws
 intro k h1 h2;rw[show P.length+seg.length=(P++seg).length by simp,List.take_left' rfl,List.drop_append,List.drop_eq_nil_of_le (by omega),List.nil_append];exact sm.tl _ (by omega) (by omega)
def GM(t:List El×Int):Prop:=aM t.1 t.2/\∃ a ln ss,vb t.1 a.nl/\vH t.1 a/\cu t.1 (aO t.1) a ln ss/\ig a (aO t.1)
theorem GM.bin{l r:List El×Int}{k:Int}(hk:k=2∨k=3)(hl:GM l)(hr:GM r):GM (l.1++r.1++[⟨k,[],0,0⟩],cap (l.2+r.2)):=by
 obtain⟨l1,a,la,sa,l2,l3,l4,l5⟩:=hl;obtain⟨r1,b,lb,sb,r2,r3,r4,r5⟩:=hr;have e:aO (l.1++r.1++[⟨k,[],0,0⟩])=aO l.1+aO r.1:=sD _ _ _ (by simp only;omega);rcases hk with rfl|rfl
 ·exact⟨aM.bin l1 r1 (Or.inl rfl),bV a (b.sh (aO l.1)),_,_,xV _ _ _ _ _ r1 l2 r2,An _ _ _ _ _ r1 l3 r3 l2 r2,e ▸ l4.cat r4,by rw[show aO (l.1++r.1++[⟨2,[],0,0⟩],cap (l.2+r.2)).1=aO l.1+aO r.1 from e];exact(l5.mono (by omega)).cat (r5.sh _)⟩
 exact⟨aM.bin l1 r1 (Or.inr rfl),cP a (b.sh (aO l.1)),_,_,AA _ _ _ _ _ r1 l2 r2,zZ _ _ _ _ _ r1 l3 r3,e ▸ l4.alt r4,by rw[show aO (l.1++r.1++[⟨3,[],0,0⟩],cap (l.2+r.2)).1=aO l.1+aO r.1 from e];exact(l5.mono (by omega)).alt (r5.sh _)⟩
theorem GM.rep{o:List El×Int}{mn mx:Int}(h:GM o)(o2:0<=mn)(o4:mx = -1∨(mn<=mx/\mx<=250)):GM (o.1++[⟨4,[],mn,mx⟩],cap (bJ o.2 mn mx)):=by
 obtain⟨l1,a,la,sa,l2,l3,l4,l5⟩:=h;have hne:=l1.ne;have e:aO (o.1++[⟨4,[],mn,mx⟩])=aO o.1:=by rw[eo];simp[aO]
 exact⟨aM.rep l1 rfl o2 (o4.imp id (fun q=>q)),dL a mn,_,_,Ah _ _ mn mx l2 (by omega),yo _ _ mn mx l3,e ▸ l4.rep mn mx,by rw[show aO (o.1++[⟨4,[],mn,mx⟩],cap (bJ o.2 mn mx)).1=aO o.1 from e];exact l5⟩
theorem GM.e:GM ([⟨0,[],0,0⟩],1):=⟨aM.leaf (Or.inl rfl),⟨true,[],[]⟩,_,_,Fr,ES,cu.e,by constructor<;>simp⟩
theorem GM.s(xs:List Int):GM ([⟨1,xs,0,0⟩],1):=⟨aM.leaf (Or.inr rfl),⟨false,[0],[0]⟩,_,_,Fs xs,EO xs,cu.s xs,by constructor<;>simp[aO]⟩
theorem dM.gm{st st':List (List El×Int)}{x:El}(h:dM st x st')(ok:iD x)(hs:∀ s∈st,GM s):∀ s∈st',GM s:=by
 intro s hm;obtain⟨k,xs,mn,mx⟩:=x;rcases h with ⟨hk,rfl⟩|⟨hk,b,l,r,rfl,rfl⟩|⟨hk,b,o,rfl,rfl⟩
 ·simp only[List.mem_append,List.mem_singleton]at hm;rcases hm with hm|rfl
  ·exact hs s hm
  rcases ok with ⟨q1,q2,q3,q4⟩|⟨q1,q2,q3,q4⟩|⟨q1,q2,q3,q4,q5⟩<;>simp only at hk q1 q2 q3 q4
  ·subst q1 q3 q4;exact GM.s xs
  ·subst q3 q4;obtain rfl:=List.eq_nil_of_length_eq_zero q2;obtain rfl:k=0:=by omega
   exact GM.e
  omega
 ·simp only[List.mem_append,List.mem_singleton]at hm;rcases hm with hm|rfl
  ·exact hs s (by simp[hm])
  have hu:=hs l (by simp);have hv:=hs r (by simp);rcases ok with ⟨q1,q2,q3,q4⟩|⟨q1,q2,q3,q4⟩|⟨q1,q2,q3,q4,q5⟩<;>simp only at hk q1 q2 q3 q4
  ·omega
  ·subst q3 q4;obtain rfl:=List.eq_nil_of_length_eq_zero q2;exact GM.bin hk hu hv
  omega
 simp only[List.mem_append,List.mem_singleton]at hm;rcases hm with hm|rfl
 ·exact hs s (by simp[hm])
 have hu:=hs o (by simp);rcases ok with ⟨q1,q2,q3,q4⟩|⟨q1,q2,q3,q4⟩|⟨q1,q2,q3,q4,q5⟩<;>simp only at hk q1 q2 q3 q4
 ·omega
 ·omega
 subst hk;obtain rfl:=List.eq_nil_of_length_eq_zero q2;exact GM.rep hu q3 q5
theorem DN{xs:List El}(ok:∀ k:Nat,k<xs.length->iD (xs[k]?.getD dE))(h1:bI xs=1)(h2:∀ k:Nat,1<=k->k<=xs.length->bI (xs.drop k)<=0) :
  ∀ k:Nat,k<=xs.length->∃ st,flats st=xs.take k/\(∀ s∈st,GM s)/\(k<xs.length->∃ st',dM st (xs[k]?.getD dE) st'):=by
 have step:∀ k:Nat,∀ st,k<xs.length->flats st=xs.take k->(∀ s∈st,GM s)->∃ st',dM st (xs[k]?.getD dE) st':=by
  intro k st hk b hg;have e1:bI (xs.take (k+1))+bI (xs.drop (k+1))=1:=by rw[<-aX,List.take_append_drop];exact h1
  have e2:=h2 (k+1) (by omega) (by omega);have e3:=dc (fun s hs=>(hg s hs).1.ws);rw[b]at e3;rw[cK hk,aX,e3]at e1;simp only[bI]at e1;exact dM.ex (st:=st) (ok k hk) (by omega)
 intro k
 induction k with
 | zero=>intro _;exact⟨[],by simp[flats],by simp,fun h=>step 0 [] h (by simp[flats]) (by simp)⟩
 | succ k ih =>
  intro hk;obtain⟨st,b,hg,hp⟩:=ih (by omega);obtain⟨st',hp⟩:=hp (by omega);have a:flats st'=xs.take (k+1):=by rw[hp.flats,b,cK (by omega)]
  have c:=hp.gm (ok k (by omega)) hg;exact⟨st',a,c,fun h=>step (k+1) st' h a c⟩
theorem AC{P l r:List El}{a b:It}{la lb:List Lk}{sa sb:List (List Int)}(ha:cu l (aO l) a la sa)(hb:cu r (aO r) b lb sb) :
  (bR gL (P++l++r++[⟨2,[],0,0⟩])).ln=(bR gL (P++l++r)).ln++[(a.la.map (aO P + ·),b.fi.map (aO P+aO l + ·))]:=by
 rw[bg,bg,bg,ha,hb];have hc:=Co P;generalize bR gL P=s at *;obtain⟨c,st,ln,ss⟩:=s;simp only at hc;subst hc;simp[bR,eU,It.sh]
theorem xO{P l r:List El}{a b:It}{la lb:List Lk}{sa sb:List (List Int)}(ha:cu l (aO l) a la sa)(hb:cu r (aO r) b lb sb) :
  (bR gL (P++l++r++[⟨3,[],0,0⟩])).ln=(bR gL (P++l++r)).ln:=by
 rw[bg,bg,bg,ha,hb];simp[bR,eU]
theorem yk{P o:List El}{a:It}{la:List Lk}{sa:List (List Int)}(ha:cu o (aO o) a la sa)(mn mx:Int) :
  (bR gL (P++o++[⟨4,[],mn,mx⟩])).ln=(bR gL (P++o)).ln++[(a.la.map (aO P + ·),a.fi.map (aO P + ·))]:=by
 rw[bg,bg,ha];have hc:=Co P;generalize bR gL P=s at *;obtain⟨c,st,ln,ss⟩:=s;simp only at hc;subst hc;cases st<;>simp[bR,eU,It.sh]
theorem wJ{P:List El}{x:El}(hx:x.kind=0∨x.kind=1):(bR gL (P++[x])).ln=(bR gL P).ln:=by
 rw[bg];simp only[bR,eU];rcases hx with hx|hx<;>simp[hx]
theorem Tryz.zinBool1:(prog.info? 4).map (fun i=>(i.zero,i.size,i.bytes))=some (some (.bool false),1,1):=by kernel_rfl
theorem Tryz.zinBoolS1:(prog.info? 31).map (fun i=>(i.zero,i.size,i.bytes))=some (some (.slice none 0 0),1,24):=by kernel_rfl
theorem az.eq{lo n:Nat}{w:World}{v:Value}{xs ys:List El}(h:az lo n w v xs)(e:xs=ys):az lo n w v ys:=e ▸ h
theorem EN(a:It)(c:Nat):cZ a true c=(a.la.map (c + ·)).map Int.ofNat:=by simp[cZ]
theorem Fj(a:It)(c:Nat):cZ a false c=(a.fi.map (c + ·)).map Int.ofNat:=by simp[cZ]
theorem qD(v:Value)(xs:List El)(w:World)(hv:az 0 w.heap.size w v xs)(hlen:xs.length<=3000)
  (ok:∀ k:Nat,k<xs.length->iD (xs[k]?.getD dE))(h1:bI xs=1)(h2:∀ k:Nat,1<=k->k<=xs.length->bI (xs.drop k)<=0) :
  Calls prog 77 #[v] w fun e w'=>∃ G cp,e=.returned (.slice (some ⟨G,0,none⟩) (aO xs) cp)/\w.heap.size<=G/\Mx w' G (aO xs) (ce (bR gL xs).ln)/\G+1+aO xs<=w'.heap.size/\Below w.heap.size w w':=by
 have bj:=ae (DN ok h1 h2);have bc:=ae ok;have d1:=eO xs;have HL:=ae (cj v xs w hv hlen);have Hv:=ae hv;obtain⟨a,cap,rfl,bi,-⟩:=id hv;obtain⟨N,hN⟩ : ∃ N,N=aO xs:=⟨_,rfl⟩;rw[<-hN]at HL d1 ⊢;have HN:=ae hN;have ch:=run_make_row' (P:=prog) 142 31 (.slice none 0 0) 24 underlying142 Tryz.zinBoolS1 rfl .i64 .i64 N (by omega) (by omega);have ci:=run_make_row' (P:=prog) 31 4 (.bool false) 1 underlying31 Tryz.zinBool1 rfl .i64 .i64 N (by omega) (by omega);clear hv ok h1 h2 hN
 go_enter func77,ntmps77
 go_wp2_with fail;refine HL.u.mono ?_;rintro e w1 ⟨rfl,rfl⟩
 go_wp2_with fail;have a6:=World.rowIs_made w1 (.slice none 0 0) N 31;have ck:=ai w1 (.cells (madeCells #[.slice none 0 0] N) 31);have a7:(w1.alloc (.cells (madeCells #[.slice none 0 0] N) 31)).heap.size=w1.heap.size+1:=ah _ _
 go_loopw [5] (fun iv wr=>∃ i:Nat,i<=N/\iv=.int .i64 i/\wr.rowIs w1.heap.size 31 N (fun b=>if b<i then .slice (some ⟨w1.heap.size+1+b,0,none⟩) N N else .slice none 0 0)/\(∀ b,b<i->wr.rowIs (w1.heap.size+1+b) 4 N (fun _=>.bool false))/\wr.heap.size=w1.heap.size+1+i/\Below w1.heap.size w1 wr) (fun iv _=>N-(intOf iv).toNat)
 case atStart=>exact⟨0,Nat.zero_le _,rfl,a6.congr (fun b hb=>by simp),fun b hb=>absurd hb (Nat.not_lt_zero _),by rw[a7],ck⟩
 obtain⟨i,hi,rfl,T,U,bn,hb⟩:=hrel
 by_cases hlt:i<N
 ·have co:(i:Int)<(N:Int):=by omega
  have f0:∀ o:Obj,(wr.alloc o).frozen? ⟨w1.heap.size,i,none⟩=false:=fun o=>(T.alloc o).frozen i
  have c0:∀ o:Obj,(wr.alloc o).cell? ⟨w1.heap.size,i,none⟩=some (.slice none 0 0):=fun o=>by rw[(T.alloc o).cell hlt,if_neg (Nat.lt_irrefl _)]
  have bo:=ae bn;have cr:=ae T;have bq:=ae U;have O:w1.heap.size+1<=wr.heap.size:=by omega
  clear T U bn ch a6 a7;go_wp2;refine⟨⟨i+1,by omega,by go_num,?_,fun b hb2=>?_,?_,?_⟩,by simp[intOf];omega⟩
  ·refine((cr.u.alloc _).set i _).congr (fun b hb2=>?_)
   by_cases e:b=i
   ·subst e;simp[bo.u]
   have e2:b<i+1↔b<i:=by omega
   simp[e,e2]
  ·by_cases e:b=i
   ·subst e;have h:=World.rowIs_made wr (.bool false) N 4;rw[bo.u]at h;exact h.setOther (by show w1.heap.size+1+b≠w1.heap.size;omega) _
   exact((bq.u b (by omega)).alloc _).setOther (by show w1.heap.size+1+b≠w1.heap.size;omega) _
  ·rw[aJ,ah,bo.u];omega
  exact aI (hb.alloc (by omega) _) lR _
 have eN:N=i:=by omega
 subst eN;have HM:Hi (Mx wr w1.heap.size N (fun _ _=>false)):=⟨T.congr (fun b hb2=>by rw[if_pos hb2]),U⟩;have O:w1.heap.size+1+N<=wr.heap.size:=by omega
 obtain⟨G,hG⟩ : ∃ G,G=w1.heap.size:=⟨_,rfl⟩;rw[<-hG]at HM O hb ⊢;have ad:w1.heap.size<=G:=by omega
 have d6:G<=w1.heap.size:=by omega
 clear T U bn ch ci a6 a7 ck hG
 go_wp2_with fail
 go_loopw [6] (fun ev wr=>∃ k:Nat,k<=xs.length/\ev=.int .i64 ((k+1:Nat):Int)/\Mx wr G N (ce (bR gL (xs.take k)).ln)/\Below G w1 wr/\G+1+N<=wr.heap.size) (fun ev _=>xs.length+1-(intOf ev).toNat)
 case atStart=>exact⟨0,Nat.zero_le _,rfl,HM.u.same (fun i j _ _=>rfl),hb,O⟩
 clear HM O hb;obtain⟨k,hk,rfl,hM,hb,O⟩:=hrel;have HM:=ae hM;clear hM
 by_cases hlt:k<xs.length
 ·have co:((k+1:Nat):Int)<=(xs.length:Int):=by omega
  have e1:((k+1:Nat):Int)-1=(k:Int):=by omega
  have d7:(k:Int)<(xs.length:Int):=by omega
  obtain⟨_,_,e,-,hc⟩:=Hv.u.below (hb.mono ad) lR;cases e;obtain⟨b,off,rfl,-,d8,af⟩:=hc (by omega);obtain⟨-,-,-,sv,c0,c1,c2,c3,ag⟩:=af k hlt;obtain⟨sa,sc,rfl,-,-,-⟩:=id ag;obtain⟨st,bd,hg,hp⟩:=bj.u k hk;obtain⟨st',hp⟩:=hp hlt;have a3:Hi (xs.take (k+1)=xs.take k++[xs[k]?.getD dE]):=cK hlt;clear hc af ag;generalize hX:xs[k]?.getD dE=x at *;have HX:=ae hX;obtain⟨xk,xset,xmn,xmx⟩:=x;simp only at c0 c1 c2 c3;clear hX;have a4:=ai wr (.cells #[.int .i64 xk,.slice sa xset.length sc,.int .i64 xmn,.int .i64 xmx] 70);rcases hp with ⟨V,-⟩|⟨V,B,l,r,hB,-⟩|⟨V,B,o,hB,-⟩
  ·have HE:Hi ((bR gL (xs.take (k+1))).ln=(bR gL (xs.take k)).ln):=by
    show(bR gL (xs.take (k+1))).ln=_;rw[a3.u];exact wJ V
   simp only at V;have g1:(xk !=2)=true:=by simp;omega
   have g2:(xk !=4)=true:=by simp;omega
   clear hg;go_wp2
   go_roundw
   case rel=>exact⟨k+1,by omega,by go_num,by rw[HE.u];exact HM.u.keep a4 O,hb.trans (a4.mono (by omega)),by rw[ah];omega⟩
   simp[intOf];omega
  ·have ok2:=bc.u k hlt;rw[HX.u]at ok2;simp only at V;have ex:(⟨xk,xset,xmn,xmx⟩ : El)=⟨xk,[],0,0⟩:=by
    rcases ok2 with ⟨q1,q2,q3,q4⟩|⟨q1,q2,q3,q4⟩|⟨q1,q2,q3,q4,q5⟩<;>simp only at q1 q2 q3 q4
    ·omega
    ·subst q3 q4;obtain rfl:=List.eq_nil_of_length_eq_zero q2
     rfl
    omega
   obtain⟨slM,al,la,sal,nl,el,ol,bl⟩:=hg l (by rw[hB];simp);obtain⟨srM,ar,lb,sbr,nr,er,orr,br⟩:=hg r (by rw[hB];simp);have C:xs.take k=flats B++l.1++r.1:=by rw[<-bd,hB];simp[flats]
   have g:xs=xs.take (k+1)++xs.drop (k+1):=(List.take_append_drop _ _).symm;rw[a3.u,C,ex]at g;have a5:(flats B++l.1++r.1).length=k:=by rw[<-C,List.length_take];omega
   obtain⟨P,hP⟩ : ∃ P,P=flats B:=⟨_,rfl⟩;obtain⟨L,hL⟩ : ∃ L,L=l.1:=⟨_,rfl⟩;obtain⟨R,hR⟩ : ∃ R,R=r.1:=⟨_,rfl⟩;obtain⟨S,hS⟩ : ∃ S,S=xs.drop (k+1):=⟨_,rfl⟩;rw[<-hL]at slM nl el ol bl;rw[<-hR]at srM nr er orr br;rw[<-hP,<-hL,<-hR]at C a5 g;rw[<-hS]at g;clear hP hL hR hS hg bd hB ok2 nl nr;simp only[List.length_append]at a5;rcases V with rfl|rfl
   ·obtain⟨K,hK⟩ : ∃ K,K=(bR gL (xs.take k)).ln:=⟨_,rfl⟩;have HK:=ae hK;obtain⟨A,hA⟩ : ∃ A,A=al.la.map (aO P + ·):=⟨_,rfl⟩;obtain⟨Bq,D⟩ : ∃ B,B=ar.fi.map (aO P+aO L + ·):=⟨_,rfl⟩;have HE:Hi ((bR gL (xs.take (k+1))).ln=K++[(A,Bq)]):=by
     show(bR gL (xs.take (k+1))).ln=_;rw[a3.u,C,ex,AC ol orr,<-C,<-hK,<-hA,<-D]
    have an:N=aO P+aO L+aO R+aO S:=by rw[HN.u,g];simp only[eo];simp[aO]
    have bs:Hi (∀ i∈A,i<N):=fun i hi=>by rw[hA]at hi;obtain⟨j,hj,rfl⟩:=List.mem_map.1 hi;have:=bl.2 j hj;omega
    have bt:Hi (∀ i∈Bq,i<N):=fun i hi=>by rw[D]at hi;obtain⟨j,hj,rfl⟩:=List.mem_map.1 hi;have:=br.1 j hj;omega
    have ao:xs.length=P.length+(L.length+R.length+1)+S.length:=by
     have:=congrArg List.length g;simp only[List.length_append,List.length_singleton]at this;omega
    have ap:A.length<=3000:=by rw[hA,List.length_map];have:=el.2.1;omega
    have aq:Bq.length<=3000:=by rw[D,List.length_map];have:=er.1;omega
    obtain⟨pl,X⟩ : ∃ n,n=P.length:=⟨_,rfl⟩;obtain⟨ql,bf⟩ : ∃ n,n=P.length+L.length:=⟨_,rfl⟩;obtain⟨cl,bv⟩ : ∃ n,n=aO P+aO L:=⟨_,rfl⟩;unfold maxLen at bi;have HV:Hi (∀ W,Below G w1 W->az 0 W.heap.size W (.slice (some ⟨b,off,none⟩) xs.length cap) xs):=fun W hW=>Hv.u.below (hW.mono ad) lR
    have av:Hi (∀ W,Below G w1 W->Calls prog 70 #[.slice (some ⟨b,off,none⟩) xs.length cap,.int .i64 ((k+1:Nat):Int)] W fun e w'=>e=.returned (.int .i64 (pl:Int))/\w'=W):=fun W hW=>by
     rw[X];exact ik _ P (L++R++[⟨2,[],0,0⟩]) S _ _ W (aM.bin slM srM (Or.inl rfl)) ((HV.u W hW).eq (by rw[g];simp)) (by simp only[List.length_append,List.length_singleton];omega) (by simp only[List.length_append,List.length_singleton];omega)
    have cs:Hi (∀ W,Below G w1 W->Calls prog 70 #[.slice (some ⟨b,off,none⟩) xs.length cap,.int .i64 (k:Int)] W fun e w'=>e=.returned (.int .i64 (ql:Int))/\w'=W):=fun W hW=>by
     rw[bf,<-List.length_append];exact ik _ (P++L) R ([⟨2,[],0,0⟩]++S) _ _ W srM ((HV.u W hW).eq (by rw[g];simp)) (by simp only[List.length_append,List.length_singleton];omega) (by simp only[List.length_append];omega)
    have ab:Hi (∀ W,Below G w1 W->Calls prog 111 #[.slice (some ⟨b,off,none⟩) pl cap] W fun e w'=>e=.returned (.int .i64 ((aO P:Nat):Int))/\w'=W):=fun W hW=>by
     rw[X];exact cj _ P W (az.pre (len:=xs.length) ((HV.u W hW).eq (by rw[g,List.append_assoc,List.append_assoc,List.append_assoc]))) (by omega)
    have aw:Hi (∀ W,Below G w1 W->Calls prog 111 #[.slice (some ⟨b,off,none⟩) ql cap] W fun e w'=>e=.returned (.int .i64 (cl:Int))/\w'=W):=fun W hW=>by
     rw[bv,bf,<-List.length_append,<-eo];exact cj _ (P++L) W (az.pre (len:=xs.length) (q:=R++([⟨2,[],0,0⟩]++S)) ((HV.u W hW).eq (by rw[g];simp))) (by simp only[List.length_append];omega)
    have b0:Hi (∀ W,Below G w1 W->Calls prog 76 #[.slice (some ⟨b,off+pl*4,none⟩) (ql-pl) (cap-pl),.int .i64 ((aO P:Nat):Int),.bool true] W fun e w'=>∃ v',e=.returned v'/\w'.ownsRow W.heap.size 3 1 v' A.length ((A.map Int.ofNat).map mI)/\Below W.heap.size W w'):=fun W hW=>by
     have h:=el.2.2 (.slice (some ⟨b,off+pl*4,none⟩) (ql-pl) (cap-pl)) W (aO P) true (by rw[show ql-pl=L.length by omega,X];exact az.mid (len:=xs.length) (r:=R++([⟨2,[],0,0⟩]++S)) ((HV.u W hW).eq (by rw[g];simp)) (by unfold maxLen;omega)) (by omega) (by have:=eO P;omega);rw[EN,<-hA,List.length_map]at h;exact h
    have b1:Hi (∀ W,Below G w1 W->Calls prog 76 #[.slice (some ⟨b,off+ql*4,none⟩) (k-ql) (cap-ql),.int .i64 (cl:Int),.bool false] W fun e w'=>∃ v',e=.returned v'/\w'.ownsRow W.heap.size 3 1 v' Bq.length ((Bq.map Int.ofNat).map mI)/\Below W.heap.size W w'):=fun W hW=>by
     have h:=er.2.2 (.slice (some ⟨b,off+ql*4,none⟩) (k-ql) (cap-ql)) W (aO P+aO L) false (by rw[show k-ql=R.length by omega,bf,<-List.length_append];exact az.mid (len:=xs.length) (r:=[⟨2,[],0,0⟩]++S) ((HV.u W hW).eq (by rw[g];simp)) (by unfold maxLen;simp only[List.length_append];omega)) (by omega) (by have:=eO P;have:=eO L;omega);rw[Fj,<-D,List.length_map,<-bv]at h;exact h
    have f7:IntKind.i64.wrap (k:Int)=(k:Int):=lf (by omega) (by omega);have j1:(pl:Int)<=(ql:Int):=by omega
    have j2:(ql:Int)<=(k:Int):=by omega
    have j3:(k:Int)<=(cap:Int):=by omega
    have j4:(ql:Int)<=(cap:Int):=by omega
    have j5:(pl:Int)<=(cap:Int):=by omega
    have Q:Below G w1 (wr.alloc (.cells #[.int .i64 2,.slice sa xset.length sc,.int .i64 xmn,.int .i64 xmx] 70)):=hb.alloc (by omega) _;have a7:(wr.alloc (.cells #[.int .i64 2,.slice sa xset.length sc,.int .i64 xmn,.int .i64 xmx] 70)).heap.size=wr.heap.size+1:=ah _ _;clear X bf bv hA D el er ol orr bl br slM srM g C a5 ao hK bj bc an HV a3
    go_wp2_with fail;refine(av.u _ Q).mono ?_;rintro e _ ⟨rfl,rfl⟩
    go_wp2_with fail;refine(cs.u _ Q).mono ?_;rintro e _ ⟨rfl,rfl⟩;have f0:(wr.alloc (.cells #[.int .i64 2,.slice sa xset.length sc,.int .i64 xmn,.int .i64 xmx] 70)).cell? ⟨wr.heap.size,0,none⟩=some (.int .i64 2):=(au wr _).news 0 _ rfl;obtain⟨wa,b2⟩ : ∃ wa,wa=wr.alloc (.cells #[.int .i64 2,.slice sa xset.length sc,.int .i64 xmn,.int .i64 xmx] 70):=⟨_,rfl⟩;rw[<-b2]at Q a7 a4 f0 ⊢;have c:=Q;clear b2 Q av cs
    go_upto_region 17 with fail
    go_cut [9] (fun fv wx=>wx.ownsRow wa.heap.size 3 1 fv A.length ((A.map Int.ofNat).map mI)/\Below wa.heap.size wa wx)
    case first =>
     go_region_with (first
      | (go_at_call 111;(with_reducible refine(ab.u _ ?_).mono ?_);(first|exact c|exact c.drew|exact c.drew.drew);rintro e w7 ⟨rfl,rfl⟩)
      | (go_at_call 76;(with_reducible refine(b0.u _ ?_).mono ?_);(first|exact c|exact c.drew|exact c.drew.drew);rintro e w8 ⟨v8,rfl,a8,m⟩))
     all_goals go_wp2_with fail
     all_goals go_meet
     all_goals exact⟨a8,⟨m.os,m.tape,m.output,m.size,m.block⟩⟩
    case rest =>
    obtain⟨s,p⟩:=hcut;obtain⟨wb,E⟩ : ∃ wb,wb=wc:=⟨_,rfl⟩;rw[<-E]at s p ⊢;clear E;have d:Below G w1 wb:=c.trans (p.mono (by omega));have bx:=p.size;have F:=ae s;obtain⟨fa,fc,rfl⟩:=aj s;clear s
    go_upto_region 18 with fail
    go_cut [10] (fun fv wx=>wx.ownsRow wb.heap.size 3 1 fv Bq.length ((Bq.map Int.ofNat).map mI)/\Below wb.heap.size wb wx)
    case first =>
     go_region_with (first
      | (go_at_call 111;(with_reducible refine(aw.u _ ?_).mono ?_);(first|exact d|exact d.drew|exact d.drew.drew);rintro e w7 ⟨rfl,rfl⟩)
      | (go_at_call 76;(with_reducible refine(b1.u _ ?_).mono ?_);(first|exact d|exact d.drew|exact d.drew.drew);rintro e w8 ⟨v8,rfl,a8,m⟩))
     all_goals go_wp2_with fail
     all_goals go_meet
     all_goals exact⟨a8,⟨m.os,m.tape,m.output,m.size,m.block⟩⟩
    case rest =>
    obtain⟨t,f⟩:=hcut;obtain⟨wd,H⟩ : ∃ wd,wd=wc:=⟨_,rfl⟩;rw[<-H]at t f ⊢;clear H;have a9:Below G w1 wd:=d.trans (f.mono (by omega));have bz:=f.size;have I:=ae t;obtain⟨ta,tc,rfl⟩:=aj t;clear t;have b3:Mx wd G N (ce K):=by rw[HK.u];exact((HM.u.keep a4 O).keep (p.mono (by omega)) lR).keep (f.mono (by omega)) lR
    have c4:=ae b3;obtain⟨_,_,e8,b4⟩:=jm (aG F.u f lR) rfl (by have:=ap;omega);cases e8;obtain⟨_,_,e9,b5⟩:=jm I.u rfl (by have:=aq;omega);cases e9;have c5:=ae b4;have c6:=ae b5;have c7:=a9;clear b3 b4 b5 F I HM p f ab b0 aw b1;have d2:A.length<=3000:=ap;have d3:Bq.length<=3000:=aq
    go_wp2_with fail
    go_loopw [12] (fun iv wr=>∃ x:Nat,x<=A.length/\iv=.int .i64 x/\Mx wr G N (ce (K++[(A.take x,Bq)]))/\pF (G+1) (G+1+N) wd wr) (fun iv _=>A.length-(intOf iv).toNat)
    case atStart=>exact⟨0,Nat.zero_le _,rfl,c4.u.same (fun i j _ _=>by rw[List.take_zero,mu]),pF.refl _ _ _⟩
    obtain⟨x,hx,rfl,b6,Y⟩:=hrel;have Z:=ae b6;clear b6
    by_cases hxl:x<A.length
    ·have ct:(x:Int)<(A.length:Int):=by omega
     obtain⟨fg,fo,rfl,d4,cv,b7⟩:=c5.u (by omega);have ca:=ae b7;have J:A[x]<N:=bs.u _ (List.getElem_mem hxl);clear b7
     go_wp2_with fail
     go_loopw [13] (fun jv wr=>∃ y:Nat,y<=Bq.length/\jv=.int .i64 y/\Mx wr G N (ce (K++[(A.take x,Bq)]++[([A[x]],Bq.take y)]))/\pF (G+1) (G+1+N) wd wr) (fun jv _=>Bq.length-(intOf jv).toNat)
     case atStart=>exact⟨0,Nat.zero_le _,rfl,Z.u.same (fun i j _ _=>by rw[List.take_zero,oL]),Y⟩
     clear Z Y;obtain⟨y,hy,rfl,z,a0⟩:=hrel
     by_cases hyl:y<Bq.length
     ·have cw:(y:Int)<(Bq.length:Int):=by omega
      obtain⟨tg,tof,rfl,d5,cx,b8⟩:=c6.u (by omega);have b9:Bq[y]<N:=bt.u _ (List.getElem_mem hyl);obtain⟨ax,a1⟩ : ∃ ax,ax=A[x]:=⟨_,rfl⟩;obtain⟨ly,a2⟩ : ∃ ly,ly=Bq[y]:=⟨_,rfl⟩;have q1:=ca.u wr (a0.block _ (Or.inr (by omega))) x hxl;have q2:=b8 wr (a0.block _ (Or.inr (by omega))) y hyl;rw[<-a1]at q1 J;rw[<-a2]at q2 b9;have q3:=z.top.cell J;have q4:=(z.row ax J).cell b9;have q5:=(z.row ax J).frozen ly;have cy:(ax:Int)<(N:Int):=by omega
      have d0:(ly:Int)<(N:Int):=by omega
      have aa:=ae z;have cb:=ae a1;have cc:=ae a2;have bb:Hi (Mx (wr.setCell ⟨G+1+ax,ly,none⟩ (.bool true)) G N (ce (K++[(A.take x,Bq)]++[([A[x]],Bq.take (y+1))]))):=(z.put (j:=ly) J).same (fun i j _ _=>by rw[rD _ _ _ _ _ hxl hyl,a1,a2]);have M:Hi (pF (G+1) (G+1+N) wd (wr.setCell ⟨G+1+ax,ly,none⟩ (.bool true))):=a0.put (by omega) (by omega) _;clear b8 z a1 a2 aa cb cc
      go_wp2_with fail
      go_region
      all_goals
       go_wp2
       go_roundw
       case rel =>
        exact⟨y+1,by omega,by go_num,⟨bb.u.top,bb.u.row⟩,⟨M.u.os,M.u.tape,M.u.output,M.u.size,M.u.block⟩⟩
       simp[intOf];omega
     have ey:y=Bq.length:=by omega
     subst ey;rw[List.take_length]at z;have aa:=ae z;clear z
     go_wp2_with fail
     go_roundw
     case rel =>
      exact⟨x+1,by omega,by go_num,aa.u.same (fun i j _ _=>uY _ _ _ _ hxl i j),a0⟩
     simp[intOf];omega
    have ex:x=A.length:=by omega
    subst ex;rw[List.take_length]at Z
    go_wp2_with fail
    go_roundw
    case rel =>
     exact⟨k+1,by omega,by go_num,by rw[HE.u];exact Z.u,c7.trans (Y.below.mono (by omega)),by rw[Y.size];omega⟩
    simp[intOf];omega
   have HE:Hi ((bR gL (xs.take (k+1))).ln=(bR gL (xs.take k)).ln):=by
    show(bR gL (xs.take (k+1))).ln=_;rw[a3.u,C,ex,xO ol orr]
   clear el er ol orr bl br slM srM g C a5;go_wp2
   go_roundw
   case rel=>exact⟨k+1,by omega,by go_num,by rw[HE.u];exact HM.u.keep a4 O,hb.trans (a4.mono (by omega)),by rw[ah];omega⟩
   simp[intOf];omega
  have ok2:=bc.u k hlt;rw[HX.u]at ok2;simp only at V;have ex:(⟨xk,xset,xmn,xmx⟩ : El)=⟨4,[],xmn,xmx⟩:=by
   rcases ok2 with ⟨q1,q2,q3,q4⟩|⟨q1,q2,q3,q4⟩|⟨q1,q2,q3,q4,q5⟩<;>simp only at q1 q2 q3 q4
   ·omega
   ·omega
   obtain rfl:=List.eq_nil_of_length_eq_zero q2;rw[V]
  have okq:0<=xmn/\(xmx = -1∨(xmn<=xmx/\xmx<=250)):=by
   rcases ok2 with ⟨q1,q2,q3,q4⟩|⟨q1,q2,q3,q4⟩|⟨q1,q2,q3,q4,q5⟩<;>simp only at q1 q2 q3 q4
   ·omega
   ·omega
   exact⟨q3,q5⟩
  obtain⟨slM,al,la,sal,nl,el,ol,bl⟩:=hg o (by rw[hB];simp);have C:xs.take k=flats B++o.1:=by rw[<-bd,hB];simp[flats]
  have g:xs=xs.take (k+1)++xs.drop (k+1):=(List.take_append_drop _ _).symm;rw[a3.u,C,ex]at g;have a5:(flats B++o.1).length=k:=by rw[<-C,List.length_take];omega
  obtain⟨P,hP⟩ : ∃ P,P=flats B:=⟨_,rfl⟩;obtain⟨L,hL⟩ : ∃ L,L=o.1:=⟨_,rfl⟩;obtain⟨S,hS⟩ : ∃ S,S=xs.drop (k+1):=⟨_,rfl⟩;rw[<-hL]at slM nl el ol bl;rw[<-hP,<-hL]at C a5 g;rw[<-hS]at g;subst V;clear hP hL hS hg bd hB ok2 nl;simp only[List.length_append]at a5;obtain⟨K,hK⟩ : ∃ K,K=(bR gL (xs.take k)).ln:=⟨_,rfl⟩;have HK:=ae hK;obtain⟨A,hA⟩ : ∃ A,A=al.la.map (aO P + ·):=⟨_,rfl⟩;obtain⟨Bq,D⟩ : ∃ B,B=al.fi.map (aO P + ·):=⟨_,rfl⟩;have HE:Hi ((bR gL (xs.take (k+1))).ln=K++[(A,Bq)]):=by
   show(bR gL (xs.take (k+1))).ln=_;rw[a3.u,C,ex,yk ol xmn xmx,<-C,<-hK,<-hA,<-D]
  have an:N=aO P+aO L+aO S:=by rw[HN.u,g];simp only[eo];simp[aO]
  have bs:Hi (∀ i∈A,i<N):=fun i hi=>by rw[hA]at hi;obtain⟨j,hj,rfl⟩:=List.mem_map.1 hi;have:=bl.2 j hj;omega
  have bt:Hi (∀ i∈Bq,i<N):=fun i hi=>by rw[D]at hi;obtain⟨j,hj,rfl⟩:=List.mem_map.1 hi;have:=bl.1 j hj;omega
  have ao:xs.length=P.length+(L.length+1)+S.length:=by
   have:=congrArg List.length g;simp only[List.length_append,List.length_singleton]at this;omega
  have ap:A.length<=3000:=by rw[hA,List.length_map];have:=el.2.1;omega
  have aq:Bq.length<=3000:=by rw[D,List.length_map];have:=el.1;omega
  obtain⟨pl,X⟩ : ∃ n,n=P.length:=⟨_,rfl⟩;unfold maxLen at bi;have HV:Hi (∀ W,Below G w1 W->az 0 W.heap.size W (.slice (some ⟨b,off,none⟩) xs.length cap) xs):=fun W hW=>Hv.u.below (hW.mono ad) lR
  have av:Hi (∀ W,Below G w1 W->Calls prog 70 #[.slice (some ⟨b,off,none⟩) xs.length cap,.int .i64 ((k+1:Nat):Int)] W fun e w'=>e=.returned (.int .i64 (pl:Int))/\w'=W):=fun W hW=>by
   rw[X];exact ik _ P (L++[⟨4,[],xmn,xmx⟩]) S _ _ W (aM.rep slM rfl okq.1 okq.2) ((HV.u W hW).eq (by rw[g];simp)) (by simp only[List.length_append,List.length_singleton];omega) (by simp only[List.length_append,List.length_singleton];omega)
  have ab:Hi (∀ W,Below G w1 W->Calls prog 111 #[.slice (some ⟨b,off,none⟩) pl cap] W fun e w'=>e=.returned (.int .i64 ((aO P:Nat):Int))/\w'=W):=fun W hW=>by
   rw[X];exact cj _ P W (az.pre (len:=xs.length) (q:=L++([⟨4,[],xmn,xmx⟩]++S)) ((HV.u W hW).eq (by rw[g];simp))) (by omega)
  have cf:Hi (∀ W,Below G w1 W->az 0 W.heap.size W (.slice (some ⟨b,off+pl*4,none⟩) (k-pl) (cap-pl)) L):=fun W hW=>by
   rw[show k-pl=L.length by omega,X];exact az.mid (len:=xs.length) (r:=[⟨4,[],xmn,xmx⟩]++S) ((HV.u W hW).eq (by rw[g];simp)) (by unfold maxLen;omega)
  have b0:Hi (∀ W,Below G w1 W->Calls prog 76 #[.slice (some ⟨b,off+pl*4,none⟩) (k-pl) (cap-pl),.int .i64 ((aO P:Nat):Int),.bool true] W fun e w'=>∃ v',e=.returned v'/\w'.ownsRow W.heap.size 3 1 v' A.length ((A.map Int.ofNat).map mI)/\Below W.heap.size W w'):=fun W hW=>by
   have h:=el.2.2 (.slice (some ⟨b,off+pl*4,none⟩) (k-pl) (cap-pl)) W (aO P) true (cf.u W hW) (by omega) (by have:=eO P;omega);rw[EN,<-hA,List.length_map]at h;exact h
  have b1:Hi (∀ W,Below G w1 W->Calls prog 76 #[.slice (some ⟨b,off+pl*4,none⟩) (k-pl) (cap-pl),.int .i64 ((aO P:Nat):Int),.bool false] W fun e w'=>∃ v',e=.returned v'/\w'.ownsRow W.heap.size 3 1 v' Bq.length ((Bq.map Int.ofNat).map mI)/\Below W.heap.size W w'):=fun W hW=>by
   have h:=el.2.2 (.slice (some ⟨b,off+pl*4,none⟩) (k-pl) (cap-pl)) W (aO P) false (cf.u W hW) (by omega) (by have:=eO P;omega);rw[Fj,<-D,List.length_map]at h;exact h
  have aw:=ab;have f7:IntKind.i64.wrap (k:Int)=(k:Int):=lf (by omega) (by omega);have j1:(pl:Int)<=(k:Int):=by omega
  have j3:(k:Int)<=(cap:Int):=by omega
  have j5:(pl:Int)<=(cap:Int):=by omega
  have Q:Below G w1 (wr.alloc (.cells #[.int .i64 4,.slice sa xset.length sc,.int .i64 xmn,.int .i64 xmx] 70)):=hb.alloc (by omega) _;have a7:(wr.alloc (.cells #[.int .i64 4,.slice sa xset.length sc,.int .i64 xmn,.int .i64 xmx] 70)).heap.size=wr.heap.size+1:=ah _ _;clear X hA D el ol bl slM g C a5 ao hK bj bc an HV a3 cf okq
  go_wp2_with fail;refine(av.u _ Q).mono ?_;rintro e _ ⟨rfl,rfl⟩;have f0:(wr.alloc (.cells #[.int .i64 4,.slice sa xset.length sc,.int .i64 xmn,.int .i64 xmx] 70)).cell? ⟨wr.heap.size,0,none⟩=some (.int .i64 4):=(au wr _).news 0 _ rfl;obtain⟨wa,b2⟩ : ∃ wa,wa=wr.alloc (.cells #[.int .i64 4,.slice sa xset.length sc,.int .i64 xmn,.int .i64 xmx] 70):=⟨_,rfl⟩;rw[<-b2]at Q a7 a4 f0 ⊢;have c:=Q;clear b2 Q av
  go_upto_region 19 with fail
  go_cut [9] (fun fv wx=>wx.ownsRow wa.heap.size 3 1 fv A.length ((A.map Int.ofNat).map mI)/\Below wa.heap.size wa wx)
  case first =>
   go_region_with (first
    | (go_at_call 111;(with_reducible refine(ab.u _ ?_).mono ?_);(first|exact c|exact c.drew|exact c.drew.drew);rintro e w7 ⟨rfl,rfl⟩)
    | (go_at_call 76;(with_reducible refine(b0.u _ ?_).mono ?_);(first|exact c|exact c.drew|exact c.drew.drew);rintro e w8 ⟨v8,rfl,a8,m⟩))
   all_goals go_wp2_with fail
   all_goals go_meet
   all_goals exact⟨a8,⟨m.os,m.tape,m.output,m.size,m.block⟩⟩
  case rest =>
  obtain⟨s,p⟩:=hcut;obtain⟨wb,E⟩ : ∃ wb,wb=wc:=⟨_,rfl⟩;rw[<-E]at s p ⊢;clear E;have d:Below G w1 wb:=c.trans (p.mono (by omega));have bx:=p.size;have F:=ae s;obtain⟨fa,fc,rfl⟩:=aj s;clear s
  go_upto_region 20 with fail
  go_cut [10] (fun fv wx=>wx.ownsRow wb.heap.size 3 1 fv Bq.length ((Bq.map Int.ofNat).map mI)/\Below wb.heap.size wb wx)
  case first =>
   go_region_with (first
    | (go_at_call 111;(with_reducible refine(aw.u _ ?_).mono ?_);(first|exact d|exact d.drew|exact d.drew.drew);rintro e w7 ⟨rfl,rfl⟩)
    | (go_at_call 76;(with_reducible refine(b1.u _ ?_).mono ?_);(first|exact d|exact d.drew|exact d.drew.drew);rintro e w8 ⟨v8,rfl,a8,m⟩))
   all_goals go_wp2_with fail
   all_goals go_meet
   all_goals exact⟨a8,⟨m.os,m.tape,m.output,m.size,m.block⟩⟩
  case rest =>
  obtain⟨t,f⟩:=hcut;obtain⟨wd,H⟩ : ∃ wd,wd=wc:=⟨_,rfl⟩;rw[<-H]at t f ⊢;clear H;have a9:Below G w1 wd:=d.trans (f.mono (by omega));have bz:=f.size;have I:=ae t;obtain⟨ta,tc,rfl⟩:=aj t;clear t;have b3:Mx wd G N (ce K):=by rw[HK.u];exact((HM.u.keep a4 O).keep (p.mono (by omega)) lR).keep (f.mono (by omega)) lR
  have c4:=ae b3;obtain⟨_,_,e8,b4⟩:=jm (aG F.u f lR) rfl (by have:=ap;omega);cases e8;obtain⟨_,_,e9,b5⟩:=jm I.u rfl (by have:=aq;omega);cases e9;have c5:=ae b4;have c6:=ae b5;have c7:=a9;clear b3 b4 b5 F I HM p f ab b0 aw b1;have d2:A.length<=3000:=ap;have d3:Bq.length<=3000:=aq
  go_wp2_with fail
  go_loopw [12] (fun iv wr=>∃ x:Nat,x<=A.length/\iv=.int .i64 x/\Mx wr G N (ce (K++[(A.take x,Bq)]))/\pF (G+1) (G+1+N) wd wr) (fun iv _=>A.length-(intOf iv).toNat)
  case atStart=>exact⟨0,Nat.zero_le _,rfl,c4.u.same (fun i j _ _=>by rw[List.take_zero,mu]),pF.refl _ _ _⟩
  obtain⟨x,hx,rfl,b6,Y⟩:=hrel;have Z:=ae b6;clear b6
  by_cases hxl:x<A.length
  ·have ct:(x:Int)<(A.length:Int):=by omega
   obtain⟨fg,fo,rfl,d4,cv,b7⟩:=c5.u (by omega);have ca:=ae b7;have J:A[x]<N:=bs.u _ (List.getElem_mem hxl);clear b7
   go_wp2_with fail
   go_loopw [13] (fun jv wr=>∃ y:Nat,y<=Bq.length/\jv=.int .i64 y/\Mx wr G N (ce (K++[(A.take x,Bq)]++[([A[x]],Bq.take y)]))/\pF (G+1) (G+1+N) wd wr) (fun jv _=>Bq.length-(intOf jv).toNat)
   case atStart=>exact⟨0,Nat.zero_le _,rfl,Z.u.same (fun i j _ _=>by rw[List.take_zero,oL]),Y⟩
   clear Z Y;obtain⟨y,hy,rfl,z,a0⟩:=hrel
   by_cases hyl:y<Bq.length
   ·have cw:(y:Int)<(Bq.length:Int):=by omega
    obtain⟨tg,tof,rfl,d5,cx,b8⟩:=c6.u (by omega);have b9:Bq[y]<N:=bt.u _ (List.getElem_mem hyl);obtain⟨ax,a1⟩ : ∃ ax,ax=A[x]:=⟨_,rfl⟩;obtain⟨ly,a2⟩ : ∃ ly,ly=Bq[y]:=⟨_,rfl⟩;have q1:=ca.u wr (a0.block _ (Or.inr (by omega))) x hxl;have q2:=b8 wr (a0.block _ (Or.inr (by omega))) y hyl;rw[<-a1]at q1 J;rw[<-a2]at q2 b9;have q3:=z.top.cell J;have q4:=(z.row ax J).cell b9;have q5:=(z.row ax J).frozen ly;have cy:(ax:Int)<(N:Int):=by omega
    have d0:(ly:Int)<(N:Int):=by omega
    have aa:=ae z;have cb:=ae a1;have cc:=ae a2;have bb:Hi (Mx (wr.setCell ⟨G+1+ax,ly,none⟩ (.bool true)) G N (ce (K++[(A.take x,Bq)]++[([A[x]],Bq.take (y+1))]))):=(z.put (j:=ly) J).same (fun i j _ _=>by rw[rD _ _ _ _ _ hxl hyl,a1,a2]);have M:Hi (pF (G+1) (G+1+N) wd (wr.setCell ⟨G+1+ax,ly,none⟩ (.bool true))):=a0.put (by omega) (by omega) _;clear b8 z a1 a2 aa cb cc
    go_wp2_with fail
    go_region
    all_goals
     go_wp2
     go_roundw
     case rel =>
      exact⟨y+1,by omega,by go_num,⟨bb.u.top,bb.u.row⟩,⟨M.u.os,M.u.tape,M.u.output,M.u.size,M.u.block⟩⟩
     simp[intOf];omega
   have ey:y=Bq.length:=by omega
   subst ey;rw[List.take_length]at z;have aa:=ae z;clear z
   go_wp2_with fail
   go_roundw
   case rel =>
    exact⟨x+1,by omega,by go_num,aa.u.same (fun i j _ _=>uY _ _ _ _ hxl i j),a0⟩
   simp[intOf];omega
  have ex:x=A.length:=by omega
  subst ex;rw[List.take_length]at Z
  go_wp2_with fail
  go_roundw
  case rel =>
   exact⟨k+1,by omega,by go_num,by rw[HE.u];exact Z.u,c7.trans (Y.below.mono (by omega)),by rw[Y.size];omega⟩
  simp[intOf];omega
 have ek:k=xs.length:=by omega
 subst ek;rw[List.take_length]at HM;have HQ:Hi (∃ G' cp,Ending.returned (.slice (some ⟨G,0,none⟩) N N)=.returned (.slice (some ⟨G',0,none⟩) N cp)/\w1.heap.size<=G'/\Mx wr G' N (ce (bR gL xs).ln)/\G'+1+N<=wr.heap.size/\Below w1.heap.size w1 wr):=⟨G,N,rfl,ad,HM.u,O,hb.mono ad⟩;clear HM;go_wp2;go_ret;exact HQ.u
/-! The list that is made of marks is canonical. -/
def nX(C:List Int):Int:=C.getLastD (-2)
theorem ou(C:List Int)(s e:Int):nX (C++[s,e])=e:=by simp[nX]
theorem AU{C:List Int}(h:0<C.length):C[C.length-1]?.getD 0=nX C:=by
 unfold nX;rw[List.getLastD_eq_getLast?,List.getLast?_eq_getElem?];rw[List.getElem?_eq_getElem (by omega)]
 rfl
theorem fG{C D:List Int}{i:Nat}(h:i<C.length):(C++D)[i]?.getD 0=C[i]?.getD 0:=by rw[List.getElem?_append_left h]
theorem rY(C:List Int)(s e:Int):(C++[s,e])[C.length]?.getD 0=s/\(C++[s,e])[C.length+1]?.getD 0=e:=by
 constructor
 ·rw[List.getElem?_append_right lR];simp
 rw[List.getElem?_append_right (by omega),show C.length+1-C.length=1 by omega];rfl
theorem mF{C:List Int}(h:cU C){s e:Int}(h0:0<=s)(h1:s<=e)(h2:e<=255)(h3:nX C+2<=s):cU (C++[s,e]):=by
 obtain⟨a,b,c⟩:=h;obtain⟨n1,n2⟩:=rY C s e;refine⟨by simp;omega,fun i hi=>?_,fun m hm=>?_⟩
 ·simp at hi
  by_cases e1:i<C.length
  ·rw[fG e1];exact b i e1
  by_cases e2:i=C.length
  ·subst e2;rw[n1];omega
  obtain rfl:i=C.length+1:=by omega
  rw[n2];omega
 simp at hm
 by_cases e1:2*m<C.length
 ·have:=c m e1;unfold my at this ⊢;rw[fG e1,fG (show 2*m+1<C.length by omega)];refine⟨this.1,fun h=>?_⟩;rw[fG (show 2*m-1<C.length by omega)];exact this.2 h
 obtain e2:2*m=C.length:=by omega
 unfold my;rw[e2,n1,n2];refine⟨h1,fun h=>?_⟩;rw[fG (show C.length-1<C.length by omega),AU h];omega
theorem uS(C D:List Int):∀ (k b:Nat),2*k<=C.length->nm (C++D) k b=nm C k b
 | 0,_,_=>rfl
 | k+1,b,h=>by
  simp only[nm];rw[uS C D k b (by omega),fG (show 2*k<C.length by omega),fG (show 2*k+1<C.length by omega)]
theorem sw{C:List Int}(h:C.length%2=0)(s e:Int)(b:Nat):nm (C++[s,e]) ((C++[s,e]).length / 2) b=(nm C (C.length / 2) b||decide (s<=(b:Int)/\(b:Int)<=e)):=by
 have hl:(C++[s,e]).length / 2=C.length / 2+1:=by simp
 obtain⟨n1,n2⟩:=rY C s e;rw[hl];simp only[nm];rw[uS C _ _ _ (by omega),show 2*(C.length / 2)=C.length by omega,n1,n2]
structure Gr (p:Nat->Bool) (n:Nat) (C:List Int):Prop where
 can:cU C
 inp:∀ b:Nat,nm C (C.length / 2) b=(decide (b<n)&&p b)
 last:nX C<=(n:Int)-1
 next:n<256->p n=true->nX C+2<=(n:Int)/\(n=0∨p (n-1)=false)
structure Gw (p:Nat->Bool) (n:Nat) (C:List Int) (s:Nat):Prop where
 can:cU C
 inp:∀ b:Nat,nm C (C.length / 2) b=(decide (b<s)&&p b)
 lt:s<n
 last:nX C+2<=(s:Int)
 run:∀ i,s<=i->i<n->p i=true
 top:n<256
 now:p n=true
theorem ry(p:Nat->Bool):∀ n:Nat,n<=256->Gr p n ((List.range n).flatMap (lq p))∨∃ (C:List Int) (s:Nat),(List.range n).flatMap (lq p)=C++[(s:Int)]/\Gw p n C s
 | 0,_=>.inl ⟨⟨rfl,fun i hi=>by simp at hi,fun m hm=>by simp at hm⟩,fun b=>by simp[nm],by simp[nX],fun _ _=>by simp[nX]⟩
 | n+1,hn=>by
  have e0:(List.range (n+1)).flatMap (lq p)=(List.range n).flatMap (lq p)++lq p n:=by rw[List.range_succ,List.flatMap_append];simp
  rw[e0];rcases ry p n (by omega) with h|⟨C,s,e,h⟩
  ·generalize (List.range n).flatMap (lq p)=C at h ⊢;cases hp:p n with
   | false =>
    have em:lq p n=[]:=by simp[lq,hp]
    rw[em,List.append_nil];refine .inl ⟨h.can,fun b=>?_,by have:=h.last;omega,fun _ hq=>⟨by have:=h.last;omega,.inr hp⟩⟩;rw[h.inp b]
    by_cases e:b=n
    ·subst e;simp[hp]
    have:(b<n+1)↔b<n:=by omega
    simp[this]
   | true =>
    obtain⟨h1,h2⟩:=h.next (by omega) hp;have st:(p n&&(n==0 || !p (n-1)))=true:=by
     rcases h2 with rfl|h2
     ·simp[hp]
     simp[hp,h2]
    by_cases hc:n=255∨p (n+1)=false
    ·have cl:(p n&&(n==255 || !p (n+1)))=true:=by
      rcases hc with rfl|hc
      ·simp[hp]
      simp[hp,hc]
     have em:lq p n=[(n:Int),(n:Int)]:=by simp only[lq];rw[if_pos st,if_pos cl];rfl
     rw[em];refine .inl ⟨mF h.can (by omega) (by omega) (by omega) h1,fun b=>?_,by rw[ou];omega,fun hq hq2=>?_⟩
     ·rw[sw h.can.1,h.inp b]
      by_cases e:b=n
      ·subst e;simp[hp]
      have:(b<n+1)↔b<n:=by omega
      have e2:decide ((n:Int)<=(b:Int)/\(b:Int)<=(n:Int))=false:=decide_eq_false (by omega);rw[e2];simp[this]
     rcases hc with rfl|hc
     ·omega
     rw[hc]at hq2;cases hq2
    have c:n≠255:=fun e=>hc (.inl e)
    have a:p (n+1)=true:=by cases e:p (n+1) with
     | true=>rfl
     | false=>exact absurd (.inr e) hc
    have cl:¬ (p n&&(n==255 || !p (n+1)))=true:=by simp[c,a]
    have em:lq p n=[(n:Int)]:=by simp only[lq];rw[if_pos st,if_neg cl];rfl
    rw[em];exact .inr ⟨C,n,rfl,h.can,h.inp,by omega,h1,fun i i1 i2=>by rw[show i=n by omega];exact hp,by omega,a⟩
  have hp:=h.now;have hlt:=h.lt;have hq:p (n-1)=true:=h.run (n-1) (by omega) (by omega);have st:¬ (p n&&(n==0 || !p (n-1)))=true:=by simp[hq];omega
  rw[e]
  by_cases hc:n=255∨p (n+1)=false
  ·have cl:(p n&&(n==255 || !p (n+1)))=true:=by
    rcases hc with rfl|hc
    ·simp[hp]
    simp[hp,hc]
   have em:lq p n=[(n:Int)]:=by simp only[lq];rw[if_neg st,if_pos cl];rfl
   rw[em,List.append_assoc];show Gr p (n+1) (C++[(s:Int),(n:Int)])∨_;refine .inl ⟨mF h.can (by omega) (by omega) (by have:=h.top;omega) h.last,fun b=>?_,by rw[ou];omega,fun hq hq2=>?_⟩
   ·rw[sw h.can.1,h.inp b]
    by_cases e1:b<s
    ·have e2:b<n+1:=by omega
     have e3:decide ((s:Int)<=(b:Int)/\(b:Int)<=(n:Int))=false:=decide_eq_false (by omega);rw[e3];simp[e1,e2]
    by_cases e2:b<=n
    ·have e3:decide ((s:Int)<=(b:Int)/\(b:Int)<=(n:Int))=true:=decide_eq_true (by omega);have e4:b<n+1:=by omega
     have e5:p b=true:=by
      by_cases e6:b=n
      ·rw[e6];exact hp
      exact h.run b (by omega) (by omega)
     rw[e3];simp[e1,e4,e5]
    have e3:decide ((s:Int)<=(b:Int)/\(b:Int)<=(n:Int))=false:=decide_eq_false (by omega);have e4:¬ b<n+1:=by omega
    rw[e3];simp[e1,e4]
   rcases hc with rfl|hc
   ·omega
   rw[hc]at hq2;cases hq2
  have c:n≠255:=fun e=>hc (.inl e)
  have a:p (n+1)=true:=by cases e:p (n+1) with
   | true=>rfl
   | false=>exact absurd (.inr e) hc
  have cl:¬ (p n&&(n==255 || !p (n+1)))=true:=by simp[c,a]
  have em:lq p n=[]:=by simp only[lq];rw[if_neg st,if_neg cl];rfl
  rw[em,List.append_nil];refine .inr ⟨C,s,rfl,h.can,h.inp,by omega,h.last,fun i i1 i2=>?_,by have:=h.top;omega,a⟩
  by_cases e6:i=n
  ·rw[e6];exact hp
  exact h.run i i1 (by omega)
theorem CR(p:Nat->Bool):cU (vn p)/\∀ b:Nat,nm (vn p) ((vn p).length / 2) b=(decide (b<256)&&p b):=by
 rcases ry p 256 lR with h|⟨C,s,-,h⟩
 ·exact⟨h.can,h.inp⟩
 exact absurd h.top (by omega)
end Go.Proofs.YtpmcjimgkabpeaaGreatDoor
