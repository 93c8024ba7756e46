import Derived.Test.YtidfkbghlkcbeaaGreatDoorPk7
import Derived.Test.YtidfkbghlkcbeaaGreatDoorPk22
import Derived.Test.YtidfkbghlkcbeaaGreatDoorPk9
import Derived.Lib.SmallJoins
import Derived.Deep.Slices
import Derived.OpenShut
namespace Go.Proofs.YtidfkbghlkcbeaaGreatDoor
open Go.RowKit Go.Proofs.Tryz
set_option maxHeartbeats 16000000
set_option maxRecDepth 100000
theorem pS(v:Value)(xs:List El)(w:World)(hv:aA 0 w.heap.size w v xs) :
  Calls prog 36 #[v] w fun e w'=>aJ e (bO xs)/\Below w.heap.size w w':=by
 have t:=hv;obtain⟨a,cp,rfl,hl,hc⟩:=hv;unfold maxLen at hl
 by_cases n1:xs.length<1
 ·have n1':(xs.length:Int)<1:=by omega
  go_enter func36,ntmps36
  go_wp2;go_ret;exact⟨aJ.no (fun h=>by have:=h.1;omega),Below.refl _ _⟩
 have n1':¬ (xs.length:Int)<1:=by omega
 by_cases n2:3000<xs.length
 ·have n2':3000<(xs.length:Int):=by omega
  go_enter func36,ntmps36
  go_wp2;go_ret;exact⟨aJ.no (fun h=>by have:=h.1;omega),Below.refl _ _⟩
 have n2':¬ 3000<(xs.length:Int):=by omega
 have C:=ae t;clear t
 go_enter func36,ntmps36
 go_wp2
 go_loopw [3] (fun i wr=>∃ k:Nat,k<=xs.length/\i=.int .i64 k/\(∀ j:Nat,j<k->gZ (xs[j]?.getD dE))/\Below w.heap.size w wr) (fun i _=>xs.length-(intOf i).toNat)
 case atStart=>exact⟨0,Nat.zero_le _,rfl,fun j hj=>absurd hj (Nat.not_lt_zero _),Below.refl _ _⟩
 obtain⟨k,hk,rfl,hok,hb⟩:=hrel;have r:=ae hok;clear hok
 by_cases hlt:k<xs.length
 ·obtain⟨b,off,rfl,-,D,y⟩:=hc (by omega);obtain⟨i1,i2,i3,v,c0,c1,c2,c3,l⟩:=(y k hlt).same (dm.of_below hb lR) (Nat.zero_le _) D;have F:(k:Int)<(xs.length:Int):=by omega
  generalize hX:xs[k]?.getD dE=x at *;have HX:=ae hX;clear hX y;obtain⟨a',cap',rfl,-,-,-⟩:=id l
  go_wp2_with fail;refine(tB _ x _ (l.mono lR hb.size)).mono ?_;rintro e w1 ⟨m,s⟩;have z:=hb.trans (s.mono hb.size);rcases m.cases with ⟨rfl,d⟩|⟨rfl,f⟩
  ·have g:=ae d;clear d s;go_wp2
   go_roundw
   case rel=>exact⟨k+1,by omega,by go_num,fun j hj=>by
    by_cases e:j=k
    ·subst e;rw[HX.u];exact g.u
    exact r.u j (by omega),z⟩
   simp[intOf];omega
  have n:=ae f;clear f s;go_wp2;go_ret;exact⟨aJ.no (fun h=>by have:=h.2.1 k hlt;rw[HX.u]at this;exact n.u this),z⟩
 obtain rfl:k=xs.length:=by omega
 have p:=C.u.below hb lR
 go_wp2_with fail;refine(sG _ xs _ p (by omega)).mono ?_;rintro e w1 ⟨m,rfl⟩;rcases m.cases with ⟨rfl,d⟩|⟨rfl,f⟩
 ·obtain⟨c,o,A⟩:=tA r.u d;have g:=ae d;have q:=ae (o.run []);have G:=o.bd;clear d o
  go_wp2_with fail;refine(A _ _ p (by omega)).mono ?_;rintro e w2 ⟨rfl,B⟩;have E:=hb.trans (B.mono hb.size);clear B p A;go_wp2;go_ret;refine⟨aJ.of ?_,E⟩;rw[decide_eq_true_iff];exact⟨fun h=>⟨⟨by omega,by omega⟩,r.u,g.u,c,q.u,h⟩,fun ⟨_,_,_,u,hu,hus⟩=>by rw[q.u]at hu;simp only[List.cons.injEq,and_true]at hu;omega⟩
 have n:=ae f;clear f p;go_wp2;go_ret;exact⟨aJ.no (fun h=>n.u h.2.2.1),hb⟩
theorem jo(l r:Bool)(v:Value)(xs:List El)(w:World)(hv:aA 0 w.heap.size w v xs) :
  Calls prog 19 #[.agg #[.bool l,.bool r,v]] w fun e w'=>aJ e (bO xs)/\Below w.heap.size w w':=by
 obtain⟨a,cp,rfl,-,-⟩:=id hv;have Hv:=ae hv;clear hv
 go_enter func19,ntmps19
 go_wp2_with fail;refine(pS _ xs _ (by exact Hv.u.below (ai w _) lR)).mono ?_;rintro e w1 ⟨g,d⟩;have h:Below w.heap.size w w1:=(ai w _).trans (d.mono (by rw[ah];omega));rcases g.cases with ⟨rfl,b⟩|⟨rfl,c⟩
 ·have f:=ae b;clear b d;go_wp2;go_ret;exact⟨aJ.yes f.u,h⟩
 have i:=ae c;clear c d;go_wp2;go_ret;exact⟨aJ.no i.u,h⟩
structure eP {α:Type} (pst:α->Nat->α) (s0:α) (k:Nat) (cls rep:Nat->Nat) (o:List α) (ys:List Nat):Prop where
 num:fO 256 k cls rep
 same:∀ b,b<256->∀ x,pst x (rep (cls b))=pst x b
 bfs:eM k (fun x e=>pst x (rep e)) s0 o ys
section
variable {α:Type} {pst:α->Nat->α} {s0:α} {k k':Nat} {cls rep cls' rep':Nat->Nat} {o o':List α} {ys ys':List Nat}
theorem eP.kpos(h:eP pst s0 k cls rep o ys):0<k:=(h.num.zero (by decide)).2.2
theorem pf(h:eP pst s0 k cls rep o ys):∀ (w:List Nat) (x:α),Wd w->w.foldl (fun y b=>pst y (rep (cls b))) x=w.foldl pst x
 | [],_,_=>rfl
 | b::w,x,hw=>by
  rw[List.foldl_cons,List.foldl_cons,h.same b (hw b (.head _)) x];exact pf h w _ fun y hy=>hw y (.tail _ hy)
theorem eP.run(h:eP pst s0 k cls rep o ys)(hl:ys.length=o.length*k)(ac:α->Bool)(w:List Nat)(hw:Wd w):o[(bg k cls ac o ys).run 0 w]?=some (w.foldl pst s0):=by
 rw[<-pf h w s0 hw];exact qp h.bfs hl h.num.lt w 0 s0 h.bfs.z hw
theorem eP.tel(h:eP pst s0 k cls rep o ys)(hl:ys.length=o.length*k)(g:eP pst s0 k' cls' rep' o' ys')(gl:ys'.length=o'.length*k')(ac:α->Bool):cW (bg k cls ac o ys) (bg k' cls' ac o' ys') 0 0:=fun w hw=>by
 show(o[(bg k cls ac o ys).run 0 w]?.map ac).getD false=(o'[(bg k' cls' ac o' ys').run 0 w]?.map ac).getD false;rw[h.run hl ac w hw,g.run gl ac w hw]
theorem eP.met(h:eP pst s0 k cls rep o ys):∀ s,s<o.length->∃ w,Wd w/\o[s]?=some (w.foldl pst s0):=by
 intro s
 induction s using Nat.strongRecOn with
 | _ s ih =>
  intro hs;rcases h.bfs.all s hs with h0|⟨t,k1,k2,k3⟩
  ·subst h0;exact⟨[],Wd.nil,h.bfs.z⟩
  obtain⟨x,hx,hy⟩:=h.bfs.nx t k1;obtain⟨w,hw,a⟩:=ih (t / k) k3 (by omega);rw[hx]at a;rw[k2]at hy;have hr:=(h.num.fst (t%k) (Nat.mod_lt _ h.kpos)).1;refine⟨w++[rep (t%k)],hw.app (Wd.nil.cons hr),?_⟩;rw[hy,List.foldl_append,Option.some.inj a]
  rfl
theorem eP.few(h:eP pst s0 k cls rep o ys)(hl:ys.length=o.length*k)(g:eP pst s0 k' cls' rep' o' ys'):o'.length<=o.length:=by
 have key:∀ s,s<o'.length->∃ i,i<o.length/\o[i]?=o'[s]? :=fun s hs=>by
  obtain⟨w,hw,e⟩:=g.met s hs;have:=h.run hl (fun _=>true) w hw;exact⟨_,cU this,by rw[this,e]⟩
 obtain⟨f,hf⟩ : ∃ f:Nat->Nat,∀ s,s<o'.length->f s<o.length/\o[f s]?=o'[s]? :=by
  refine⟨fun s=>if hs:s<o'.length then Classical.choose (key s hs) else 0,fun s hs=>?_⟩;simp only[dif_pos hs];exact Classical.choose_spec (key s hs)
 have hn:=bT o.length ((List.range o'.length).map f) (by
  rw[List.nodup_iff_pairwise_ne,List.pairwise_iff_getElem];intro i j hi hj a e;simp only[List.length_map,List.length_range]at hi hj;simp only[List.getElem_map,List.getElem_range]at e;have h1:=hf i hi;have h2:=hf j hj;rw[e,h2.2]at h1;have:=g.bfs.nd i j hi hj h1.2.symm;omega) (fun x hx=>by
  obtain⟨s,hs,rfl⟩:=List.mem_map.1 hx;exact(hf s (List.mem_range.1 hs)).1)
 simpa using hn
theorem eP.pre(h:eP pst s0 k cls rep o ys)(hl:ys.length=o.length*k)(ac:α->Bool):xm (bg k cls ac o ys):=
 iX h.bfs hl h.num.lt (fun b hb c hc=>by
  have hlt:=h.num.lt b hb;have hf:=h.num.fst c (Nat.lt_trans hc hlt);exact⟨rep c,Nat.lt_of_lt_of_le (h.num.up c _ hc hlt) (h.num.le b hb),hf.2⟩) fun c hc=>⟨rep c,h.num.fst c hc⟩
end
theorem rx{A B:Tb}{o ys:List Nat}{m:Nat}{num F:Nat->Nat}{k:Nat}{mg G:Nat->Nat}{P:Nat->Nat}{k':Nat}{cls rep:Nat->Nat}{o' ys':List Nat}(h:bP A o ys m num F k mg G)(g:dD B P k' cls rep o' ys')(ht:cW A B 0 0) :
  gW (bP.out A o ys m num F k mg G)=gW (bg k' cls B.ac o' ys')/\k=k'/\gT (bP.out A o ys m num F k mg G)=gT (bg k' cls B.ac o' ys')/\iO (bP.out A o ys m num F k mg G)=iO (bg k' cls B.ac o' ys'):=
 iy h.canon g.canon (h.start.trans (ht.trans g.start.symm))
def bN(N:Nat)(hold fol:Nat->Nat->Bool)(last:Nat->Bool)(x:List Nat×Bool)(b:Nat):List Nat×Bool:=
 ((List.range N).filter fun j=>x.1.any fun i=>hold i b&&fol i j,x.1.any fun i=>hold i b&&last i)
theorem mG{N:Nat}{hold fol:Nat->Nat->Bool}{last:Nat->Bool}{b b':Nat}(x:List Nat×Bool)(h:∀ i,i∈x.1->hold i b=hold i b'):bN N hold fol last x b=bN N hold fol last x b':=by
 have h1:∀ f:Nat->Bool,x.1.any (fun i=>hold i b&&f i)=x.1.any (fun i=>hold i b'&&f i):=fun f=>by
  rw[Bool.eq_iff_iff,List.any_eq_true,List.any_eq_true]
  constructor
  ·rintro⟨i,hi,hh⟩;exact⟨i,hi,by rw[<-h i hi];exact hh⟩
  rintro⟨i,hi,hh⟩;exact⟨i,hi,by rw[h i hi];exact hh⟩
 simp only[bN,h1]
theorem wY(w:World):Calls prog 17 #[] w fun e w'=>∃ v,e=.returned v/\aK mI 0 0 w'.heap.size w' v [0,255]/\Below w.heap.size w w':=by
 go_enter func17,ntmps17
 go_wp2;go_ret;refine⟨_,rfl,⟨_,2,rfl,by unfold maxLen;simp,fun _=>⟨w.heap.size,0,rfl,Nat.zero_le _,by rw[ah];exact Nat.lt_succ_self _,fun i hi=>?_⟩⟩,ai w _⟩;have a:i<2:=hi
 match i,a with
 | 0,_=>exact(ay w _).news 0 _ rfl
 | 1,_=>exact(ay w _).news 1 _ rfl
def jF(w:World)(b:Nat)(t:TypeId)(c0 c1 c2:Value):Prop:=w.rowIs b t 3 (fun j=>[c0,c1,c2].getD j undef)
theorem jF.new(w:World)(t:TypeId)(c0 c1 c2:Value):jF (w.alloc (.cells #[c0,c1,c2] t)) w.heap.size t c0 c1 c2:=
 World.rowIs_alloc w #[c0,c1,c2] t _ (fun i hi=>by
  match i,hi with
  | 0,_=>rfl
  | 1,_=>rfl
  | 2,_=>rfl)
theorem jF.below{w w':World}{b m:Nat}{t:TypeId}{c0 c1 c2:Value}(h:jF w b t c0 c1 c2)(hb:Below m w w')(hm:b<m):jF w' b t c0 c1 c2:=World.rowIs.of_block h (hb.block b hm)
theorem jF.blk{w w':World}{b:Nat}{t:TypeId}{c0 c1 c2:Value}(h:jF w b t c0 c1 c2)(e:w'.heap[b]?=w.heap[b]?):jF w' b t c0 c1 c2:=World.rowIs.of_block h e
theorem jF.facts{w:World}{b:Nat}{t:TypeId}{c0 c1 c2:Value}(h:jF w b t c0 c1 c2):w.cell? ⟨b,0,none⟩=some c0/\w.cell? ⟨b,1,none⟩=some c1/\w.cell? ⟨b,2,none⟩=some c2:=
 ⟨World.rowIs.cell h (i:=0) (by omega),World.rowIs.cell h (i:=1) (by omega),World.rowIs.cell h (i:=2) (by omega)⟩
open Go.ChangeShapes Go.WideShapes Go.ChangeAt Go.RowKit Go.Proofs.Tryz
section
variable {H:Type} {enc:TypeId×Value->H} {W:World}
end
theorem tF(u v:Value)(xs ys:List Int)(w:World)(hu:aK mI 0 0 w.heap.size w u xs)(hv:aK mI 0 0 w.heap.size w v ys) :
  Calls prog 106 #[u,v] w fun e w'=>aJ e (xs=ys)/\∃ q,w'=w.drewN q:=by
 obtain⟨a,cap,rfl,hl,hc⟩:=hu;obtain⟨a2,cap2,rfl,m,f⟩:=hv;unfold maxLen at hl m
 by_cases hn:xs.length=ys.length
 ·have n:((xs.length:Int) != (ys.length:Int))=false:=by simp[hn]
  have HN:=ae hn;have o:xs.length<=ys.length:=by omega
  have p:ys.length<=xs.length:=by omega
  clear hn
  go_enter func106,ntmps106
  go_wp2_with fail
  go_loopw [5] (fun i wr=>(∃ k:Nat,k<=xs.length/\i=.int .i64 k/\∀ j:Nat,j<k->xs[j]?.getD 0=ys[j]?.getD 0)/\∃ q,wr=w.drewN q) (fun i _=>xs.length-(intOf i).toNat)
  case atStart=>exact⟨⟨0,Nat.zero_le _,rfl,fun j hj=>absurd hj (Nat.not_lt_zero _)⟩,0,rfl⟩
  obtain⟨⟨k,hk,rfl,he⟩,q,rfl⟩:=hrel;have He:=ae he;clear he
  by_cases h1:k<xs.length
  ·have r:(k:Int)<(xs.length:Int):=by omega
   have s:(k:Int)<(ys.length:Int):=by omega
   obtain⟨b,off,rfl,-,-,d⟩:=hc (by omega);obtain⟨b2,off2,rfl,-,-,c⟩:=f (by omega);have hx:w.cell? ⟨b,off+k,none⟩=some (.int .i64 (xs[k]?.getD 0)):=d k h1;have hy:w.cell? ⟨b2,off2+k,none⟩=some (.int .i64 (ys[k]?.getD 0)):=c k (by omega);have g:Hi (xs[k]?.getD 0=ys[k]?.getD 0->∀ j:Nat,j<k+1->xs[j]?.getD 0=ys[j]?.getD 0):=fun h j hj=>by
    by_cases e:j=k
    ·subst e;exact h
    exact He.u j (by omega)
   have l:Hi (xs[k]?.getD 0≠ys[k]?.getD 0->xs≠ys):=fun h e=>h (by rw[e])
   clear d c hc f He;generalize xs[k]?.getD 0=x at *;generalize ys[k]?.getD 0=y at *
   by_cases g0:x=y
   ·subst g0;have HQ:=ae (g.u rfl);clear g l
    go_wp2_with fail
    go_quiet (fail);go_wp2
    go_roundw
    case rel=>exact⟨⟨k+1,by omega,by go_num,HQ.u⟩,_,rfl⟩
    simp[intOf];omega
   have g0':(x != y)=true:=by simp[g0]
   have HQ:=ae (l.u g0);clear g l
   go_wp2_with fail
   go_quiet (fail);go_wp2;go_ret;exact⟨aJ.no HQ.u,_,Cm _ _ _⟩
  obtain rfl:k=xs.length:=by omega
  clear hc f;have HQ:Hi (xs=ys):=by
   apply List.ext_getElem HN.u
   intro i h1 h2;have:=He.u i h1
   simpa[h1,h2]using this
  go_wp2;go_ret;exact⟨aJ.yes HQ.u,_,rfl⟩
 have n:((xs.length:Int) != (ys.length:Int))=true:=by simp;omega
 clear hc f
 go_enter func106,ntmps106
 go_wp2;go_ret;exact⟨aJ.no (fun h=>hn (by rw[h])),0,rfl⟩
theorem qZ{xs:List Int}{z:Int}:z∈xs↔∃ k:Nat,k<xs.length/\xs[k]?.getD 0=z:=by
 rw[List.mem_iff_getElem]
 constructor
 ·rintro⟨k,hk,rfl⟩;exact⟨k,hk,by simp[hk]⟩
 rintro⟨k,hk,rfl⟩;exact⟨k,hk,by simp[hk]⟩
theorem py(v:Value)(xs:List Int)(k:Int)(w:World)(hv:aK mI 0 0 w.heap.size w v xs) :
  Calls prog 72 #[v,.int .i64 k] w fun e w'=>aJ e (k∈xs)/\∃ q,w'=w.drewN q:=by
 obtain⟨a,cap,rfl,hl,hc⟩:=hv;unfold maxLen at hl
 go_enter func72,ntmps72
 go_wp2
 go_loopw [5] (fun i wr=>(∃ m:Nat,m<=xs.length/\i=.int .i64 m/\∀ j:Nat,j<m->xs[j]?.getD 0≠k)/\∃ q,wr=w.drewN q) (fun i _=>xs.length-(intOf i).toNat)
 case atStart=>exact⟨⟨0,Nat.zero_le _,rfl,fun i hi=>absurd hi (Nat.not_lt_zero _)⟩,0,rfl⟩
 obtain⟨⟨m,hm,rfl,hp⟩,q,rfl⟩:=hrel;have Hp:=ae hp;clear hp
 by_cases hlt:m<xs.length
 ·have d:(m:Int)<(xs.length:Int):=by omega
  obtain⟨b,off,rfl,-,-,c⟩:=hc (by omega);have hx:=c m hlt;unfold mI at hx;clear c hc
  by_cases he:xs[m]?.getD 0=k
  ·have HN:Hi (k∈xs):=qZ.2 ⟨m,hlt,he⟩;rw[he]at hx;clear he;go_wp2;go_ret;exact⟨aJ.yes HN.u,_,rfl⟩
  have HN:Hi (∀ j:Nat,j<m+1->xs[j]?.getD 0≠k):=fun j hj=>by
   by_cases e:j=m
   ·subst e;exact he
   exact Hp.u j (by omega)
  generalize xs[m]?.getD 0=u at *;have f:(u==k)=false:=by simp[he]
  go_wp2
  go_roundw
  case rel=>exact⟨⟨m+1,by omega,by go_num,HN.u⟩,_,rfl⟩
  simp[intOf];omega
 obtain rfl:m=xs.length:=by omega
 have HN:Hi (k ∉ xs):=fun h=>by
  obtain⟨j,hj,e⟩:=qZ.1 h;exact Hp.u j hj e
 clear hc;go_wp2;go_ret;exact⟨aJ.no HN.u,_,rfl⟩
end Go.Proofs.YtidfkbghlkcbeaaGreatDoor
