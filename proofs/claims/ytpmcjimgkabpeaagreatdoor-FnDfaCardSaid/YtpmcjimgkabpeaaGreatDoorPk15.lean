import Derived.Test.YtpmcjimgkabpeaaGreatDoorPk13
import Derived.Test.YtpmcjimgkabpeaaGreatDoorPk12
import Derived.Test.YtpmcjimgkabpeaaGreatDoorPk14
namespace Go.Proofs.YtpmcjimgkabpeaaGreatDoor
structure fL {α:Type} (pst:α->Nat->α) (s0:α) (k:Nat) (cls rep:Nat->Nat) (o:List α) (ys:List Nat):Prop where
 num:fM 256 k cls rep
 same:∀ b,b<256->∀ x,pst x (rep (cls b))=pst x b
 bfs:eK k (fun x e=>pst x (rep e)) s0 o ys
section
variable {α:Type} {pst:α->Nat->α} {s0:α} {k k':Nat} {cls rep cls' rep':Nat->Nat} {o o':List α} {ys ys':List Nat}
theorem fL.kpos(h:fL pst s0 k cls rep o ys):0<k:=(h.num.zero (by decide)).2.2
theorem oP(h:fL pst s0 k cls rep o ys):∀ (w:List Nat) (x:α),Wd w->w.foldl (fun y b=>pst y (rep (cls b))) x=w.foldl pst x
 | [],_,_=>rfl
 | b::w,x,hw=>by
  rw[List.foldl_cons,List.foldl_cons,h.same b (hw b (.head _)) x];exact oP h w _ fun y hy=>hw y (.tail _ hy)
theorem fL.run(h:fL pst s0 k cls rep o ys)(hl:ys.length=o.length*k)(ac:α->Bool)(w:List Nat)(hw:Wd w):o[(bE k cls ac o ys).run 0 w]?=some (w.foldl pst s0):=by
 rw[<-oP h w s0 hw];exact pH h.bfs hl h.num.lt w 0 s0 h.bfs.z hw
theorem fL.met(h:fL pst s0 k cls rep o ys):∀ s,s<o.length->∃ w,Wd w/\o[s]?=some (w.foldl pst s0):=by
 intro s
 induction s using Nat.strongRecOn with
 | _ s ih =>
  intro hs;rcases h.bfs.all s hs with h0|⟨t,k1,k2,k3⟩
  ·subst h0;exact⟨[],Wd.nil,h.bfs.z⟩
  obtain⟨x,hx,hy⟩:=h.bfs.nx t k1;obtain⟨w,hw,a⟩:=ih (t / k) k3 (by omega);rw[hx]at a;rw[k2]at hy;have hr:=(h.num.fst (t%k) (Nat.mod_lt _ h.kpos)).1;refine⟨w++[rep (t%k)],hw.app (Wd.nil.cons hr),?_⟩;rw[hy,List.foldl_append,Option.some.inj a]
  rfl
theorem fL.few(h:fL pst s0 k cls rep o ys)(hl:ys.length=o.length*k)(g:fL pst s0 k' cls' rep' o' ys'):o'.length<=o.length:=by
 have key:∀ s,s<o'.length->∃ i,i<o.length/\o[i]?=o'[s]? :=fun s hs=>by
  obtain⟨w,hw,e⟩:=g.met s hs;have:=h.run hl (fun _=>true) w hw;exact⟨_,da this,by rw[this,e]⟩
 obtain⟨f,hf⟩ : ∃ f:Nat->Nat,∀ s,s<o'.length->f s<o.length/\o[f s]?=o'[s]? :=by
  refine⟨fun s=>if hs:s<o'.length then Classical.choose (key s hs) else 0,fun s hs=>?_⟩;simp only[dif_pos hs];exact Classical.choose_spec (key s hs)
 have hn:=cm o.length ((List.range o'.length).map f) (by
  rw[List.nodup_iff_pairwise_ne,List.pairwise_iff_getElem];intro i j hi hj a e;simp only[List.length_map,List.length_range]at hi hj;simp only[List.getElem_map,List.getElem_range]at e;have h1:=hf i hi;have h2:=hf j hj;rw[e,h2.2]at h1;have:=g.bfs.nd i j hi hj h1.2.symm;omega) (fun x hx=>by
  obtain⟨s,hs,rfl⟩:=List.mem_map.1 hx;exact(hf s (List.mem_range.1 hs)).1)
 simpa using hn
theorem fL.pre(h:fL pst s0 k cls rep o ys)(hl:ys.length=o.length*k)(ac:α->Bool):Ao (bE k cls ac o ys):=
 jU h.bfs hl h.num.lt (fun b hb c hc=>by
  have hlt:=h.num.lt b hb;have hf:=h.num.fst c (Nat.lt_trans hc hlt);exact⟨rep c,Nat.lt_of_lt_of_le (h.num.up c _ hc hlt) (h.num.le b hb),hf.2⟩) fun c hc=>⟨rep c,h.num.fst c hc⟩
end
def bN(N:Nat)(hold fol:Nat->Nat->Bool)(last:Nat->Bool)(x:List Nat×Bool)(b:Nat):List Nat×Bool:=
 ((List.range N).filter fun j=>x.1.any fun i=>hold i b&&fol i j,x.1.any fun i=>hold i b&&last i)
theorem mD{N:Nat}{hold fol:Nat->Nat->Bool}{last:Nat->Bool}{b b':Nat}(x:List Nat×Bool)(h:∀ i,i∈x.1->hold i b=hold i b'):bN N hold fol last x b=bN N hold fol last x b':=by
 have h1:∀ f:Nat->Bool,x.1.any (fun i=>hold i b&&f i)=x.1.any (fun i=>hold i b'&&f i):=fun f=>by
  rw[Bool.eq_iff_iff,List.any_eq_true,List.any_eq_true]
  constructor
  ·rintro⟨i,hi,hh⟩;exact⟨i,hi,by rw[<-h i hi];exact hh⟩
  rintro⟨i,hi,hh⟩;exact⟨i,hi,by rw[h i hi];exact hh⟩
 simp only[bN,h1]
open Go.RowKit Go.Proofs.Tryz
set_option maxHeartbeats 16000000
set_option maxRecDepth 100000
theorem vK{xs:List El}{st:List (List El×Int)}{k:Nat}(hk:k<xs.length)(hst:flats st=xs.take k)(hw:∀ s∈st,aM s.1 s.2)(ok:iD (xs[k]?.getD dE))(hlt:(st.length:Int)<Cu (xs[k]?.getD dE).kind):¬ bw xs:=by
 intro hv;have sh:=hv.2.2.1;have a:=cK hk;have h1:bI (xs.take (k+1))+bI (xs.drop (k+1))=1:=by rw[<-aX,List.take_append_drop];exact sh.1
 have h2:=sh.2 (k+1) (by omega) (by omega);have h3:=dc (fun s hs=>(hw s hs).ws);rw[hst]at h3;rw[a,aX,h3]at h1;simp only[bI]at h1;generalize xs[k]?.getD dE=x at *;rcases ok with ⟨q1,-⟩|⟨q1|q1|q1,-⟩|⟨q1,-⟩<;>simp[Cu,wt,q1]at hlt h1<;>omega
theorem ww{base n:Nat}{w:World}{v:Value}{vals:List Value}(a:w.ownsRow base 48 1 v n vals):∃ ao c,v=.slice ao n c:=by
 rcases a.2 with ⟨rfl,hn⟩|⟨g,cap,cur,rfl,d,hg,e,f,h,b⟩
 ·exact⟨none,0,by rw[hn]⟩
 exact⟨_,_,rfl⟩
theorem js(v:Value)(xs:List El)(w:World)(hv:az 0 w.heap.size w v xs) :
  Calls prog 14 #[v] w fun e w'=>aF e (bw xs)/\Below w.heap.size w w':=by
 have t:=hv;obtain⟨a,cp,rfl,hl,hc⟩:=hv;unfold maxLen at hl
 by_cases n1:xs.length<1
 ·have n1':(xs.length:Int)<1:=by omega
  go_enter func14,ntmps14
  go_wp2;go_ret;exact⟨aF.no (fun h=>by have:=h.1;omega),Below.refl _ _⟩
 have n1':¬ (xs.length:Int)<1:=by omega
 by_cases n2:3000<xs.length
 ·have n2':3000<(xs.length:Int):=by omega
  go_enter func14,ntmps14
  go_wp2;go_ret;exact⟨aF.no (fun h=>by have:=h.1;omega),Below.refl _ _⟩
 have n2':¬ 3000<(xs.length:Int):=by omega
 have C:=ae t;clear t
 go_enter func14,ntmps14
 go_wp2
 go_loopw [3] (fun i wr=>∃ k:Nat,k<=xs.length/\i=.int .i64 k/\(∀ j:Nat,j<k->iD (xs[j]?.getD dE))/\Below w.heap.size w wr) (fun i _=>xs.length-(intOf i).toNat)
 case atStart=>exact⟨0,Nat.zero_le _,rfl,fun j hj=>absurd hj (Nat.not_lt_zero _),Below.refl _ _⟩
 obtain⟨k,hk,rfl,hok,hb⟩:=hrel;have r:=ae hok;clear hok
 by_cases hlt:k<xs.length
 ·obtain⟨b,off,rfl,-,D,y⟩:=hc (by omega);obtain⟨i1,i2,i3,v,c0,c1,c2,c3,l⟩:=(y k hlt).same (ew.of_below hb lR) (Nat.zero_le _) D;have F:(k:Int)<(xs.length:Int):=by omega
  generalize hX:xs[k]?.getD dE=x at *;have HX:=ae hX;clear hX y;obtain⟨a',cap',rfl,-,-,-⟩:=id l
  go_wp2_with fail;refine(tx _ x _ (l.mono lR hb.size)).mono ?_;rintro e w1 ⟨m,s⟩;have z:=hb.trans (s.mono hb.size);rcases m.cases with ⟨rfl,d⟩|⟨rfl,f⟩
  ·have g:=ae d;clear d s;go_wp2
   go_roundw
   case rel=>exact⟨k+1,by omega,by go_num,fun j hj=>by
    by_cases e:j=k
    ·subst e;rw[HX.u];exact g.u
    exact r.u j (by omega),z⟩
   simp[intOf];omega
  have n:=ae f;clear f s;go_wp2;go_ret;exact⟨aF.no (fun h=>by have:=h.2.1 k hlt;rw[HX.u]at this;exact n.u this),z⟩
 obtain rfl:k=xs.length:=by omega
 have p:=C.u.below hb lR
 go_wp2_with fail;refine(sd _ xs _ p (by omega)).mono ?_;rintro e w1 ⟨m,rfl⟩;rcases m.cases with ⟨rfl,d⟩|⟨rfl,f⟩
 ·obtain⟨c,o,A⟩:=sS r.u d;have g:=ae d;have q:=ae (o.run []);have G:=o.bd;clear d o
  go_wp2_with fail;refine(A _ _ p (by omega)).mono ?_;rintro e w2 ⟨rfl,B⟩;have E:=hb.trans (B.mono hb.size);clear B p A;go_wp2;go_ret;refine⟨aF.of ?_,E⟩;rw[decide_eq_true_iff];exact⟨fun h=>⟨⟨by omega,by omega⟩,r.u,g.u,c,q.u,h⟩,fun ⟨_,_,_,u,hu,hus⟩=>by rw[q.u]at hu;simp only[List.cons.injEq,and_true]at hu;omega⟩
 have n:=ae f;clear f p;go_wp2;go_ret;exact⟨aF.no (fun h=>n.u h.2.2.1),hb⟩
theorem eh(l r:Bool)(v:Value)(xs:List El)(w:World)(hv:az 0 w.heap.size w v xs) :
  Calls prog 5 #[.agg #[.bool l,.bool r,v]] w fun e w'=>aF e (bw xs)/\Below w.heap.size w w':=by
 obtain⟨a,cp,rfl,-,-⟩:=id hv;have Hv:=ae hv;clear hv
 go_enter func5,ntmps5
 go_wp2_with fail;refine(js _ xs _ (by exact Hv.u.below (ai w _) lR)).mono ?_;rintro e w1 ⟨g,d⟩;have h:Below w.heap.size w w1:=(ai w _).trans (d.mono (by rw[ah];omega));rcases g.cases with ⟨rfl,b⟩|⟨rfl,c⟩
 ·have f:=ae b;clear b d;go_wp2;go_ret;exact⟨aF.yes f.u,h⟩
 have i:=ae c;clear c d;go_wp2;go_ret;exact⟨aF.no i.u,h⟩
end Go.Proofs.YtpmcjimgkabpeaaGreatDoor
namespace Go.Proofs.YtpmcjimgkabpeaaGreatDoor
/-! Reading a text from left to right. -/
end Go.Proofs.YtpmcjimgkabpeaaGreatDoor
namespace Go.Proofs.YtpmcjimgkabpeaaGreatDoor
/-! The limits of a text,by its tokens;what both readers answer. -/
end Go.Proofs.YtpmcjimgkabpeaaGreatDoor
