import Derived.Test.YtidfkbghlkcbeaaGreatDoorPk3
import Derived.OwnWalk
import Derived.Maps.AppendAt
import Derived.Laws.AppendOwnNone
import Derived.Deep.AppendLies
import Derived.Deep.RegionLaw
import Derived.BigRegion
import Derived.RangeFuncBox
import Derived.Shelf.Spec.TrailingZeros
import Derived.Laws.OwnMore
namespace Go.Proofs.YtidfkbghlkcbeaaGreatDoor
open Go.RowKit Go.Proofs.Tryz
set_option maxHeartbeats 16000000
set_option maxRecDepth 100000
def vT(w:World)(b:Nat):Prop:=∃ c t,w.heap[b]?=some (.cells c t (0,0))
theorem vT.same{w w':World}{b:Nat}(h:vT w b)(e:w'.heap[b]?=w.heap[b]?):vT w' b:=by
 obtain⟨c,t,hb⟩:=h;exact⟨c,t,e.trans hb⟩
def li(lo n:Nat)(k:Nat):Prop:=lo<=k/\k<n
structure jd (S:Nat->Prop) (w w':World):Prop where
 os:w'.os=w.os
 tape:w'.tape=w.tape
 output:w'.output=w.output
 size:w'.heap.size=w.heap.size
 block:∀ k,¬ S k->w'.heap[k]?=w.heap[k]?
theorem jd.refl(S:Nat->Prop)(w:World):jd S w w:=⟨rfl,rfl,rfl,rfl,fun _ _=>rfl⟩
theorem jd.trans{S:Nat->Prop}{a b c:World}(h:jd S a b)(k:jd S b c):jd S a c:=
 ⟨k.os.trans h.os,k.tape.trans h.tape,k.output.trans h.output,k.size.trans h.size,fun i hi=>(k.block i hi).trans (h.block i hi)⟩
theorem jd.below{S:Nat->Prop}{lo:Nat}{w w':World}(h:jd S w w')(hs:∀ k,S k->lo<=k):Below lo w w':=⟨h.os,h.tape,h.output,by rw[h.size];exact Nat.le_refl _,fun k hk=>h.block k (fun q=>by have:=hs k q;omega)⟩
theorem jd.put{S:Nat->Prop}{a w:World}(h:jd S a w){b o:Nat}(h1:S b)(u:Value):jd S a (w.setCell ⟨b,o,none⟩ u):=
 h.trans ⟨rfl,rfl,rfl,by simp[World.setCell],fun k hk=>Below.heap_setCell _ _ _ _ (by show k≠b;intro e;subst e;exact hk h1)⟩
def ir{α:Type}(mk:α->Value)(d:α)(S:Nat->Prop)(w:World)(v:Value)(xs:List α):Prop:=
 ∃ lo n,mj mk d lo n w v xs/\∀ k,lo<=k->k<n->S k
theorem mj.foot{α:Type}{mk:α->Value}{d:α}{lo n:Nat}{w:World}{v:Value}{xs:List α}(h:mj mk d lo n w v xs):ir mk d (li lo n) w v xs:=⟨lo,n,h,fun _ h1 h2=>⟨h1,h2⟩⟩
theorem ir.same{α:Type}{mk:α->Value}{d:α}{S:Nat->Prop}{w w':World}{v:Value}{xs:List α}(h:ir mk d S w v xs)(hs:∀ k,S k->w'.heap[k]?=w.heap[k]?):ir mk d S w' v xs:=by
 obtain⟨lo,n,h1,h2⟩:=h;exact⟨lo,n,h1.same (fun k k1 k2=>hs k (h2 k k1 k2)),h2⟩
theorem ir.mono{α:Type}{mk:α->Value}{d:α}{S T:Nat->Prop}{w:World}{v:Value}{xs:List α}(h:ir mk d S w v xs)(hs:∀ k,S k->T k):ir mk d T w v xs:=by
 obtain⟨lo,n,h1,h2⟩:=h;exact⟨lo,n,h1,fun k k1 k2=>hs k (h2 k k1 k2)⟩
theorem ir.at{α:Type}{mk:α->Value}{d:α}{S:Nat->Prop}{N:Nat}{w:World}{v:Value}{xs:List α}(h:ir mk d S w v xs)(hs:∀ k,S k->k<N):aK mk d 0 N w v xs:=by
 obtain⟨lo,n,⟨a,cap,rfl,hl,hc⟩,h2⟩:=h;refine⟨a,cap,rfl,hl,fun hp=>?_⟩;obtain⟨b,off,rfl,h3,h4,h5,c⟩:=hc hp;exact⟨b,off,rfl,Nat.zero_le _,hs b (h2 b h3 h4),c⟩
theorem ir.val{α:Type}{mk:α->Value}{d:α}{S:Nat->Prop}{w:World}{v:Value}{xs:List α}(h:ir mk d S w v xs):∃ a cap,v=.slice a xs.length cap:=by
 obtain⟨lo,n,⟨a,cap,e,-⟩,-⟩:=h;exact⟨a,cap,e⟩
def lM{α:Type}(mk:α->Value)(d:α)(N:Nat)(w:World)(v:Value)(xss:List (List α)):Prop:=
 ∃ a cap,v=.slice a xss.length cap/\(xss.length<=cap/\cap<=maxLen)/\
  (0<xss.length->∃ b off,a=some ⟨b,off,none⟩/\b<N/\∀ i:Nat,i<xss.length->∃ s,w.cell? ⟨b,off+i,none⟩=some s/\aK mk d 0 N w s (xss[i]?.getD [])/\cB s)
theorem lM.below{α:Type}{mk:α->Value}{d:α}{m:Nat}{w w':World}{v:Value}{xss:List (List α)}(h:lM mk d w.heap.size w v xss)(hb:Below m w w')(hm:w.heap.size<=m):lM mk d w'.heap.size w' v xss:=by
 obtain⟨a,cap,rfl,hl,hc⟩:=h;refine⟨a,cap,rfl,hl,fun hp=>?_⟩;obtain⟨b,off,rfl,h1,h2⟩:=hc hp;refine⟨b,off,rfl,by have:=hb.size;omega,fun i hi=>?_⟩;obtain⟨s,h3,h4,h5⟩:=h2 i hi;exact⟨s,by rw[hb.cell (p:=⟨b,off+i,none⟩) (by show b<m;omega)];exact h3,h4.below hb hm,h5⟩
def CV{α:Type}(mk:α->Value)(d:α)(S:Nat->Prop)(w:World)(v:Value)(xss:List (List α)):Prop:=
 ∃ a cap,v=.slice a xss.length cap/\(xss.length<=cap/\cap<=maxLen)/\(0<xss.length->∃ (b off:Nat) (sv:Nat->Value) (T:Nat->Nat->Prop),a=some ⟨b,off,none⟩/\S b/\vT w b/\
  (∀ i:Nat,i<xss.length->w.cell? ⟨b,off+i,none⟩=some (sv i))/\(∀ i:Nat,i<xss.length->ir mk d (T i) w (sv i) (xss[i]?.getD [])/\cB (sv i))/\
  (∀ i:Nat,i<xss.length->∀ k,T i k->S k/\k≠b)/\∀ i j:Nat,i<xss.length->j<xss.length->i≠j->∀ k,T i k->¬ T j k)
theorem CV.at{α:Type}{mk:α->Value}{d:α}{S:Nat->Prop}{N:Nat}{w:World}{v:Value}{xss:List (List α)}(h:CV mk d S w v xss)(hs:∀ k,S k->k<N):lM mk d N w v xss:=by
 obtain⟨a,cap,rfl,hl,hc⟩:=h;refine⟨a,cap,rfl,hl,fun hp=>?_⟩;obtain⟨b,off,sv,T,e,h1,h2,h3,h4,h5,h6⟩:=hc hp;exact⟨b,off,e,hs b h1,fun i hi=>⟨sv i,h3 i hi,(h4 i hi).1.at (fun k hk=>hs k (h5 i hi k hk).1),(h4 i hi).2⟩⟩
theorem CV.nil{α:Type}(mk:α->Value)(d:α)(S:Nat->Prop)(w:World)(a:Option Addr)(cap:Nat)(hc:cap<=maxLen):CV mk d S w (.slice a 0 cap) ([]:List (List α)):=⟨a,cap,rfl,⟨Nat.zero_le _,hc⟩,fun h=>absurd h (by simp)⟩
theorem bW{base lo n:Nat}{w:World}{v:Value}{xs:List Int}(h:w.ownsRow base 3 1 v n (xs.map mI))(hlo:lo<=base)(hn:n<=maxLen):mj mI 0 lo w.heap.size w v xs:=by
 have a:=h.1;rw[List.length_map,Nat.mul_one]at a;rcases h.2 with ⟨rfl,hz⟩|⟨g,cap,cur,rfl,c,hg,d,e,f,b⟩
 ·exact⟨none,0,by rw[a,hz],by omega,fun hp=>by omega⟩
 refine⟨_,cap,by rw[a],by omega,fun hp=>⟨g,0,rfl,by omega,(h.lt g rfl).2,⟨cur,_,hg⟩,fun i hi=>?_⟩⟩;rw[Nat.zero_add,h.cellAt i (by omega),List.getElem?_map,List.getElem?_eq_getElem hi]
 rfl
theorem ef{W:World}{N:Nat}{u:Value}(h:W.cell? ⟨N,0,none⟩=some u):∀ (j:Nat) (y:Value),[u][j]?=some y->W.cell? ((⟨N,0,none⟩ : Addr).add j)=some y:=by
 intro j y hj
 match j,hj with
 | 0,hj=>simp at hj;subst hj;exact h
theorem eu{base n:Nat}{w:World}{v:Value}{xs:List Value}(h:w.ownsRow base 3 1 v n xs)(hp:0<n):∃ g cap,v=.slice (some ⟨g,0,none⟩) n cap/\∀ j:Nat,j<n->w.cell? ⟨g,j,none⟩=xs[j]? :=by
 rcases h.2 with ⟨rfl,hz⟩|⟨g,cap,cur,rfl,b,hg,c,d,e,a⟩
 ·omega
 exact⟨g,cap,rfl,fun j hj=>h.cellAt j (by omega)⟩
theorem jB{xs:List Int}{i:Nat}(h:i<xs.length):xs[i]?=some (xs[i]?.getD 0):=by rw[List.getElem?_eq_getElem h];rfl
theorem aG{base n m e size:Nat}{w w':World}{v:Value}{xs:List Value}(h:w.ownsRow base e size v n xs)(hb:Below m w w')(hm:w.heap.size<=m):w'.ownsRow base e size v n xs:=
 h.kept (show w.grownBy w' none from⟨hb.os,hb.tape,hb.output,hb.size,fun k hk _=>hb.block k (by omega)⟩) (by cases v.ownBlock<;>simp)
theorem aj{base n e size:Nat}{w:World}{v:Value}{xs:List Value}(h:w.ownsRow base e size v n xs):∃ oa oc,v=.slice oa n oc:=by
 rcases h.2 with ⟨rfl,hz⟩|⟨q,cap,cur,rfl,-⟩
 ·exact⟨none,0,by rw[hz]⟩
 exact⟨_,_,rfl⟩
theorem fU{P:Program}{w:World}(base:Nat)(t ty e:TypeId)(i:TypeInfo)(size:Nat)(ht:P.underlying t=some (.slice e))(hi:P.info? e=some i)
  (v:Value)(n:Nat)(xs:List Value)(a:w.ownsRow base e size v n xs)(c:Nat):(Builtin.append_ #[t,t] ty #[v,.slice none 0 c]).run P w=.ok v w:=by
 rcases a.2 with ⟨rfl,rfl⟩|⟨g,cap,cur,rfl,_,_,b,_⟩
 ·simp[Builtin.append_,run_underlying ht,sizeOf,typeInfo,hi,Builtin.lenOf,Builtin.firstCells]
 simp[Builtin.append_,run_underlying ht,sizeOf,typeInfo,hi,Builtin.lenOf,Builtin.firstCells,b,storeCells]
theorem bw{P:Program}{w:World}{ops:Array Oper}{rest:List Oper}{o:Oper}{a:Act}{Q:Exit->Act->World->Prop}(hgd:o.guard=none)(s x:Operand)(t:TypeId)
  (ho:o.op=.call { callee:=.builtin .append,args:=#[s,x],argTypes:=#[t,t] })
  (base:Nat)(e:TypeId)(i:TypeInfo)(size:Nat)(ht:P.underlying t=some (.slice e))(hi:P.info? e=some i)
  (v:Value)(n:Nat)(xs:List Value)(hs:a.eval s=v)(hown:w.ownsRow base e size v n xs)(c:Nat)(hx:a.eval x=.slice none 0 c)
  (h:wpList P ops Q rest (a.put o.dst v) w):wpList P ops Q (o::rest) a w:=by
 refine wpList_plain hgd fun K hK=>?_
 have b:=fU (P:=P) (w:=w) base t o.type e i size ht hi v n xs hown c;unfold Oper.wp;simp[execOp,ho,resolve,invoke,builtin,hs,hx,b,Result.andThen];exact hK _ _ h
theorem sW{w:World}{ops:Array Oper}{rest:List Oper}{o:Oper}{a:Act}{Q:Exit->Act->World->Prop}(hgd:o.guard=none)(s x:Operand)
  (ho:o.op=.call { callee:=.builtin .append,args:=#[s,x],argTypes:=#[27,27] })(hs:a.eval s=.slice none 0 0)(sv:Value)(hx:a.eval x=sv)(xs:List Int)(hv:aK mI 0 0 w.heap.size w sv xs)(hlen:xs.length<=1048576)
  (h:∀ v' w',Below w.heap.size w w'->mj mI 0 w.heap.size w'.heap.size w' v' xs->v'.oneCell'=true->wpList prog ops Q rest (a.put o.dst v') w'):wpList prog ops Q (o::rest) a w:=by
 obtain⟨i0,hi,d,f,g⟩:=info_parts Tryz.zinInt;obtain⟨sa,sc,rfl,hl,hc⟩:=hv;cases sa with
 | none =>
  have h0:xs.length=0:=by
   by_cases q:0<xs.length
   ·obtain⟨b,off,e,-⟩:=hc q;simp at e
   omega
  rw[h0]at hx;exact bw hgd s x 27 ho w.heap.size 3 i0 1 underlying27 hi _ 0 [] hs (World.ownsRow_nil _ _ _ _) sc hx (h _ w (Below.refl _ _) ⟨none,0,by rw[h0],hl,fun q=>absurd q (by omega)⟩ rfl)
 | some ad =>
  refine wpList_append_own_at w hgd s x 27 ho w.heap.size 3 i0 (.int .i64 0) 1 8 underlying27 hi d f g rfl (by decide) _ 0 [] hs (World.ownsRow_nil _ _ _ _) ad xs.length sc (xs.map mI) hx (by simp) ?_ ?_ (by rw[Nat.zero_add];exact hl) (by omega) lR ?_
  ·intro j u hu;have hj:j<xs.length:=by
    have:=(List.getElem?_eq_some_iff.1 hu).1
    simpa using this
   obtain⟨b,off,e,-,-,c⟩:=hc (by omega);simp only[Option.some.injEq]at e;subst e;rw[List.getElem?_map,jB hj]at hu;simp only[Option.map_some,Option.some.injEq]at hu;subst hu;have e3:(⟨b,off,none⟩ : Addr).add j=⟨b,off+j,none⟩:=by cases j<;>rfl
   rw[e3];exact c j hj
  ·intro u hu;obtain⟨y,-,rfl⟩:=List.mem_map.1 hu
   rfl
  intro v' w' h1 hg _ _;rw[Nat.zero_add,List.nil_append]at h1;obtain⟨oa,oc,rfl⟩:=aj h1;exact h _ w' ((Below.refl _ _).grown hg lR (fun k hk=>by cases hk)) (bW h1 lR hl) rfl
theorem kj{w:World}{ops:Array Oper}{rest:List Oper}{o:Oper}{a:Act}{Q:Exit->Act->World->Prop}(hgd:o.guard=none)(s x:Operand)
  (ho:o.op=.call { callee:=.builtin .append,args:=#[s,x],argTypes:=#[27,27] })(hs:a.eval s=.slice none 0 0)(sv:Value)(hx:a.eval x=sv)(xs:List Int)(hv:aK mI 0 0 w.heap.size w sv xs)(hlen:xs.length<=1048576)
  (h:∀ v' w',Below w.heap.size w w'->w'.ownsRow w.heap.size 3 1 v' xs.length (xs.map mI)->v'.oneCell'=true->wpList prog ops Q rest (a.put o.dst v') w'):wpList prog ops Q (o::rest) a w:=by
 obtain⟨i0,hi,d,f,g⟩:=info_parts Tryz.zinInt;obtain⟨sa,sc,rfl,hl,hc⟩:=hv;cases sa with
 | none =>
  have h0:xs.length=0:=by
   by_cases q:0<xs.length
   ·obtain⟨b,off,e,-⟩:=hc q;simp at e
   omega
  rw[h0]at hx;exact bw hgd s x 27 ho w.heap.size 3 i0 1 underlying27 hi _ 0 [] hs (World.ownsRow_nil _ _ _ _) sc hx (h _ w (Below.refl _ _) (by rw[List.eq_nil_of_length_eq_zero h0];exact World.ownsRow_nil _ _ _ _) rfl)
 | some ad =>
  refine wpList_append_own_at w hgd s x 27 ho w.heap.size 3 i0 (.int .i64 0) 1 8 underlying27 hi d f g rfl (by decide) _ 0 [] hs (World.ownsRow_nil _ _ _ _) ad xs.length sc (xs.map mI) hx (by simp) ?_ ?_ (by rw[Nat.zero_add];exact hl) (by omega) lR ?_
  ·intro j u hu;have hj:j<xs.length:=by
    have:=(List.getElem?_eq_some_iff.1 hu).1
    simpa using this
   obtain⟨b,off,e,-,-,c⟩:=hc (by omega);simp only[Option.some.injEq]at e;subst e;rw[List.getElem?_map,jB hj]at hu;simp only[Option.map_some,Option.some.injEq]at hu;subst hu;have e3:(⟨b,off,none⟩ : Addr).add j=⟨b,off+j,none⟩:=by cases j<;>rfl
   rw[e3];exact c j hj
  ·intro u hu;obtain⟨y,-,rfl⟩:=List.mem_map.1 hu
   rfl
  intro v' w' h1 hg _ _;rw[Nat.zero_add,List.nil_append]at h1;obtain⟨oa,oc,rfl⟩:=aj h1;exact h _ w' ((Below.refl _ _).grown hg lR (fun k hk=>by cases hk)) h1 rfl
structure aH (w W:World) (o:Obj):Prop where
 os:W.os=w.os
 tape:W.tape=w.tape
 output:W.output=w.output
 heap:W.heap=w.heap.push o
theorem aH.size{w W:World}{o:Obj}(h:aH w W o):W.heap.size=w.heap.size+1:=by rw[h.heap,Array.size_push]
theorem aH.old{w W:World}{o:Obj}(h:aH w W o){k:Nat}(hk:k<w.heap.size):W.heap[k]?=w.heap[k]? :=by rw[h.heap,Array.getElem?_push_lt hk,Array.getElem?_eq_getElem hk]
theorem aH.new{w W:World}{o:Obj}(h:aH w W o):W.heap[w.heap.size]?=some o:=by rw[h.heap];simp
theorem aH.below{w W:World}{o:Obj}(h:aH w W o):Below w.heap.size w W:=⟨h.os,h.tape,h.output,by rw[h.size];omega,fun k hk=>h.old hk⟩
theorem aH.own{w W:World}{o:Obj}(h:aH w W o){base n e size:Nat}{v:Value}{xs:List Value}(k:w.ownsRow base e size v n xs):W.ownsRow base e size v n xs:=aG k h.below lR
theorem aH.news{w W:World}{cs:Array Value}{t:TypeId}(h:aH w W (.cells cs t)):∀ (j:Nat) (u:Value),cs.toList[j]?=some u->W.cell? ((⟨w.heap.size,0,none⟩ : Addr).add j)=some u:=World.news_of_block h.new
theorem ei{w:World}{ops:Array Oper}{o:Oper}{a:Act}{K:Act->World->Prop}{Q:Exit->Act->World->Prop}{E:Prop}(F:FuncId)(vals:Array Value)(hgd:o.guard=none)(hex:(execOp a.eval o).run prog w=.ok (.enter F vals) w)
  {Post:Ending->World->Prop}(h:Calls prog F vals w Post)(hK:∀ e w',Post e w'->∃ v,e=.returned v/\K (a.put o.dst v) w'):if Region.wanted o (yielded ops a.tmps)=true then Oper.wp prog o a w K Q else E:=by
 have hw:Region.wanted o (yielded ops a.tmps)=true:=by simp[Region.wanted,hgd]
 rw[if_pos hw];unfold Oper.wp;rw[hex,Oper.upon_enter];refine h.mono ?_;intro e w' hP;obtain⟨v,rfl,hk⟩:=hK e w' hP;exact hk
theorem dJ{w:World}{ops:Array Oper}{o:Oper}{a:Act}{K:Act->World->Prop}{Q:Exit->Act->World->Prop}{E:Prop}(F:FuncId)(cargs:Array Operand)(ts:Array TypeId)(ho:o.op=.call { callee:=.value (.func F),args:=cargs,argTypes:=ts })(vals:Array Value)(hgd:o.guard=none)(hev:cargs.map a.eval=vals)
  (hf:∀ w,Sem.run prog (callFunc F vals) w=.ok (.enter F vals) w)
  {Post:Ending->World->Prop}(h:Calls prog F vals w Post)(hK:∀ e w',Post e w'->∃ v,e=.returned v/\K (a.put o.dst v) w'):if Region.wanted o (yielded ops a.tmps)=true then Oper.wp prog o a w K Q else E:=by
 refine ei F vals hgd ?_ h hK;have e1:a.eval (.func F)=.func (.func F) #[] #[]:=rfl;simp[execOp,ho,resolve,hev,e1,Deferred.ofValue,invoke,hf]
theorem qh{base n e size:Nat}{w:World}{v:Value}{xs:List Value}(h:w.ownsRow base e size v n xs):cB v:=by
 rcases h.2 with ⟨rfl,_⟩|⟨g,cap,cur,rfl,_,_,a,b,_⟩
 ·exact cB.mk lR (Nat.zero_le _)
 exact cB.mk a b
theorem jf{n:Int}(h0 : -9223372036854775808<=n)(h1:n<=9223372036854775807):IntKind.i64.wrap n=n:=by rw[IntKind.wrap_i64];omega
theorem Cm(w:World)(a b:Nat):(w.drewN a).drewN b=w.drewN (a+b):=by simp
theorem aO{b b' e size n:Nat}{w:World}{v:Value}{xs:List Value}(h:w.ownsRow b e size v n xs)(hb:b'<=b):w.ownsRow b' e size v n xs:=⟨h.1,h.2.imp id (fun ⟨g,cap,cur,q1,q2,q3⟩=>⟨g,cap,cur,q1,Nat.le_trans hb q2,q3⟩)⟩
theorem rf{base:Nat}{wr W w':World}{v v':Value}{os:List Int}{u:Int}{o:Obj}(hown:wr.ownsRow base 3 1 v os.length (os.map mI))(hbase:base<=wr.heap.size)(hP:aH wr W o)
  (h1:w'.ownsRow base 3 1 v' (os.length+1) (os.map mI++[.int .i64 u]))(hg:W.grownBy w' v.ownBlock) :
  w'.ownsRow base 3 1 v' (os++[u]).length ((os++[u]).map mI)/\Below base wr w':=by
 refine⟨by rw[List.length_append,List.map_append];exact h1,(hP.below.mono hbase).grown hg (by rw[hP.size];omega) (fun k hk=>(hown.lt k hk).1)⟩
def wt(x:El):Int:=if x.kind=0∨x.kind=1 then 1 else if x.kind=2∨x.kind=3 then -1 else 0
def aQ:List El->Int
 | []=>0
 | x::r=>wt x+aQ r
theorem aF(a b:List El):aQ (a++b)=aQ a+aQ b:=by
 induction a with
 | nil=>simp[aQ]
 | cons x r ih=>simp[aQ,ih];omega
theorem EI(x:El):wt x<=1:=by unfold wt;split<;>(try split)<;>omega
theorem Fd(x:El) : -1<=wt x:=by unfold wt;split<;>(try split)<;>omega
theorem pJ(l:List El) : -(l.length:Int)<=aQ l/\aQ l<=l.length:=by
 induction l with
 | nil=>simp[aQ]
 | cons x r ih=>have:=EI x;have:=Fd x;simp[aQ];omega
theorem wP{xs:List El}{k:Nat}(h:k<xs.length):xs.drop k=xs[k]?.getD dE::xs.drop (k+1):=by
 rw[List.drop_eq_getElem_cons h];simp[h]
theorem oX{xs:List El}{k:Nat}(h:k<xs.length):aQ (xs.drop k)=wt (xs[k]?.getD dE)+aQ (xs.drop (k+1)):=by
 rw[wP h];rfl
def vh(xs:List El):Prop:=aQ xs=1/\∀ k:Nat,0<k->k<=xs.length->aQ (xs.drop k)<=0
theorem sG(v:Value)(xs:List El)(w:World)(hv:aA 0 w.heap.size w v xs)(hlen:xs.length<=1048576) :
  Calls prog 66 #[v] w fun e w'=>aJ e (vh xs)/\w'=w:=by
 obtain⟨a,cap,rfl,hl,hc⟩:=hv
 go_enter func66,ntmps66
 go_wp2
 go_loop [3,4] (fun n i=>∃ k:Nat,k<=xs.length/\i=.int .i64 ((k:Int)-1)/\n=.int .i64 (1-aQ (xs.drop k))/\aQ (xs.drop k)<=1/\∀ j:Nat,k<j->j<=xs.length->aQ (xs.drop j)<=0) (fun _ i=>(intOf i+1).toNat)
 case atStart=>exact⟨xs.length,Nat.le_refl _,rfl,by simp[aQ],by simp[aQ],fun j h1 h2=>absurd h2 (by omega)⟩
 obtain⟨k,hk,rfl,rfl,A,l⟩:=hrel;have m:=ae l;clear l;cases k with
 | zero =>
  go_wp2;go_ret;refine⟨aJ.of ⟨fun h=>⟨?_,fun j h1 h2=>m.u j h1 h2⟩,fun h=>?_⟩,rfl⟩
  ·have:=beq_iff_eq.1 h;omega
  have:=h.1;exact beq_iff_eq.2 (by omega)
 | succ k =>
  obtain⟨b,off,rfl,-,B,r⟩:=hc (by omega);obtain⟨i1,i2,i3,v,c0,c1,c2,c3,g⟩:=r k (by omega);have o:=oX (xs:=xs) (k:=k) (by omega);have y:=pJ (xs.drop (k+1));rw[List.length_drop]at y;have C:(k:Int)<(xs.length:Int):=by omega
  generalize hS:aQ (xs.drop (k+1))=s at *;generalize xs[k]?.getD dE=x at *;have d:=ae o;have HS:=ae hS;clear o hS g i2 i3 c1 c2 c3
  by_cases hs:1-s=0
  ·go_wp2;go_ret;exact⟨aJ.no (fun hsh=>by have:=hsh.2 (k+1) (by omega) hk;rw[HS.u]at this;omega),rfl⟩
  have z:s<=0:=by omega
  have c:Hi (∀ j:Nat,k<j->j<=xs.length->aQ (xs.drop j)<=0):=by
   intro j h1 h2
   by_cases e:j=k+1
   ·subst e;rw[HS.u];exact z
   exact m.u j (by omega) h2
  have p:wt x=if x.kind=0∨x.kind=1 then 1 else if x.kind=2∨x.kind=3 then -1 else 0:=rfl;generalize wt x=t at *;generalize x.kind=q at *;have f:=ae p;clear p;have D:(1-s==0)=false:=by simp;omega
  by_cases q0:q=0
  ·subst q0;have ht:t=1:=f.u;go_wp2
   go_round
   case rel=>exact⟨k,by omega,by congr 1,by have:=d.u;congr 1;omega,by have:=d.u;omega,c.u⟩
   simp[intOf]
  by_cases q1:q=1
  ·subst q1;have ht:t=1:=f.u;go_wp2
   go_round
   case rel=>exact⟨k,by omega,by congr 1,by have:=d.u;congr 1;omega,by have:=d.u;omega,c.u⟩
   simp[intOf]
  by_cases q2:q=2
  ·subst q2;have ht:t = -1:=f.u;go_wp2
   go_round
   case rel=>exact⟨k,by omega,by congr 1,by have:=d.u;congr 1;omega,by have:=d.u;omega,c.u⟩
   simp[intOf]
  by_cases q3:q=3
  ·subst q3;have ht:t = -1:=f.u;go_wp2
   go_round
   case rel=>exact⟨k,by omega,by congr 1,by have:=d.u;congr 1;omega,by have:=d.u;omega,c.u⟩
   simp[intOf]
  have ht:t=0:=by rw[f.u,if_neg (by omega),if_neg (by omega)]
  have b0:(q==0)=false:=by simp[q0]
  have b1:(q==1)=false:=by simp[q1]
  have b2:(q==2)=false:=by simp[q2]
  have b3:(q==3)=false:=by simp[q3]
  go_wp2
  go_round
  case rel=>exact⟨k,by omega,by congr 1,by have:=d.u;congr 1;omega,by have:=d.u;omega,c.u⟩
  simp[intOf]
theorem lw(v:Value)(xs:List El)(lo en:Nat)(w:World)(hv:aA 0 w.heap.size w v xs)(hlen:xs.length<=1048576)(hle:lo<en)(hen:en<=xs.length)
  (h1:aQ ((xs.take en).drop lo)=1)(h2:∀ k:Nat,lo<k->k<=en->aQ ((xs.take en).drop k)<=0) :
  Calls prog 102 #[v,.int .i64 (en:Int)] w fun e w'=>e=.returned (.int .i64 (lo:Int))/\w'=w:=by
 obtain⟨a,cap,rfl,hl,hc⟩:=hv;have H2:=ae h2;have H1:=ae h1;clear h1 h2;have hE:(xs.take en).length=en:=by rw[List.length_take];omega
 go_enter func102,ntmps102
 go_wp2
 go_loop [5,6] (fun n i=>∃ k:Nat,lo<=k/\k<=en/\i=.int .i64 (k:Int)/\n=.int .i64 (1-aQ ((xs.take en).drop k))) (fun _ i=>(intOf i).toNat)
 case atStart=>exact⟨en,by omega,Nat.le_refl _,rfl,by rw[List.drop_eq_nil_of_le (by omega)];rfl⟩
 obtain⟨k,hk,l,rfl,rfl⟩:=hrel
 by_cases hgt:lo<k
 ·cases k with
  | zero=>omega
  | succ k =>
   obtain⟨b,off,rfl,-,p,m⟩:=hc (by omega);obtain⟨i1,i2,i3,v,c0,c1,c2,c3,f⟩:=m k (by omega);have g:=oX (xs:=xs.take en) (k:=k) (by omega);have o:=pJ ((xs.take en).drop (k+1));rw[List.length_drop,hE]at o;rw[List.getElem?_take_of_lt (by omega)]at g;have r:=H2.u (k+1) hgt l;have y:(k:Int)<(xs.length:Int):=by omega
   clear hE;generalize hS:aQ ((xs.take en).drop (k+1))=s at *;generalize xs[k]?.getD dE=x at *;have c:=ae g;have HS:=ae hS;clear g hS f i2 i3 c1 c2 c3;have h:wt x=if x.kind=0∨x.kind=1 then 1 else if x.kind=2∨x.kind=3 then -1 else 0:=rfl;generalize wt x=t at *;generalize x.kind=q at *;have d:=ae h;clear h
   by_cases q0:q=0
   ·subst q0;have ht:t=1:=d.u;go_wp2
    go_round
    case rel=>exact⟨k,by omega,by omega,by congr 1,by have:=c.u;congr 1;omega⟩
    simp[intOf]
   by_cases q1:q=1
   ·subst q1;have ht:t=1:=d.u;go_wp2
    go_round
    case rel=>exact⟨k,by omega,by omega,by congr 1,by have:=c.u;congr 1;omega⟩
    simp[intOf]
   by_cases q2:q=2
   ·subst q2;have ht:t = -1:=d.u;go_wp2
    go_round
    case rel=>exact⟨k,by omega,by omega,by congr 1,by have:=c.u;congr 1;omega⟩
    simp[intOf]
   by_cases q3:q=3
   ·subst q3;have ht:t = -1:=d.u;go_wp2
    go_round
    case rel=>exact⟨k,by omega,by omega,by congr 1,by have:=c.u;congr 1;omega⟩
    simp[intOf]
   have ht:t=0:=by rw[d.u,if_neg (by omega),if_neg (by omega)]
   have b0:(q==0)=false:=by simp[q0]
   have b1:(q==1)=false:=by simp[q1]
   have b2:(q==2)=false:=by simp[q2]
   have b3:(q==3)=false:=by simp[q3]
   go_wp2
   go_round
   case rel=>exact⟨k,by omega,by omega,by congr 1,by have:=c.u;congr 1;omega⟩
   simp[intOf]
 obtain rfl:k=lo:=by omega
 rw[H1.u]
 by_cases hk0:0<k
 ·have j:0<(k:Int):=by omega
  go_wp2;go_ret;exact⟨rfl,rfl⟩
 have j:¬ 0<(k:Int):=by omega
 go_wp2;go_ret;exact⟨rfl,rfl⟩
structure It where
 nl:Bool
 fi:List Nat
 la:List Nat
def It.sh(a:It)(c:Nat):It:=⟨a.nl,a.fi.map (c + ·),a.la.map (c + ·)⟩
abbrev Lk:=List Nat×List Nat
def cT(c:Nat)(ln:List Lk):List Lk:=ln.map (fun p=>(p.1.map (c + ·),p.2.map (c + ·)))
def bY(l r:It):It:=⟨l.nl&&r.nl,l.fi++(if l.nl then r.fi else []),(if r.nl then l.la else [])++r.la⟩
def cR(l r:It):It:=⟨l.nl||r.nl,l.fi++r.fi,l.la++r.la⟩
def ed(o:It)(mn:Int):It:=⟨o.nl||decide (mn=0),o.fi,o.la⟩
structure Ms where
 c:Nat
 st:List It
 ln:List Lk
 ss:List (List Int)
def eY(s:Ms)(x:El):Ms:=
 if x.kind=0 then ⟨s.c,⟨true,[],[]⟩::s.st,s.ln,s.ss⟩
 else if x.kind=1 then ⟨s.c+1,⟨false,[s.c],[s.c]⟩::s.st,s.ln,s.ss++[x.set]⟩ else
 match s.st with
 | []=>s
 | [o]=>if x.kind=4 then ⟨s.c,[ed o x.mn],s.ln++[(o.la,o.fi)],s.ss⟩ else s
 | r::l::b=>if x.kind=4 then ⟨s.c,ed r x.mn::l::b,s.ln++[(r.la,r.fi)],s.ss⟩
  else if x.kind=2 then ⟨s.c,bY l r::b,s.ln++[(l.la,r.fi)],s.ss⟩ else ⟨s.c,cR l r::b,s.ln,s.ss⟩
def bS(s:Ms):List El->Ms
 | []=>s
 | x::r=>bS (eY s x) r
theorem bk(s:Ms)(a b:List El):bS s (a++b)=bS (bS s a) b:=by
 induction a generalizing s with
 | nil=>rfl
 | cons x r ih=>simp[bS,ih]
def cK(L:List El)(n:Nat)(a:It)(ln:List Lk)(ss:List (List Int)):Prop:=∀ s:Ms,bS s L=⟨s.c+n,a.sh s.c::s.st,s.ln++cT s.c ln,s.ss++ss⟩
theorem cK.one{L:List El}{n n':Nat}{a a':It}{ln ln':List Lk}{ss ss':List (List Int)}(h:cK L n a ln ss)(k:cK L n' a' ln' ss'):n=n'/\a.sh 0=a'.sh 0/\cT 0 ln=cT 0 ln'/\ss=ss':=by
 have:=(h ⟨0,[],[],[]⟩).symm.trans (k ⟨0,[],[],[]⟩)
 simpa using this
theorem za(xs:List Nat):xs.map (0 + ·)=xs:=by simp
theorem yS(c d:Nat)(xs:List Nat):(xs.map (d + ·)).map (c + ·)=xs.map (c+d + ·):=by rw[List.map_map];congr 1;funext x;simp;omega
theorem It.sh_sh(a:It)(c d:Nat):(a.sh d).sh c=a.sh (c+d):=by unfold It.sh;simp only[yS]
theorem jT(c:Nat)(a b:List Lk):cT c (a++b)=cT c a++cT c b:=by simp[cT]
theorem pL(c d:Nat)(a:List Lk):cT c (cT d a)=cT (c+d) a:=by
 unfold cT;rw[List.map_map]
 congr 1
 funext p
 simp only[Function.comp,yS]
theorem tz(l r:It)(c:Nat):(bY l r).sh c=bY (l.sh c) (r.sh c):=by
 unfold bY It.sh;simp only[List.map_append];cases l.nl<;>cases r.nl<;>simp
theorem tW(l r:It)(c:Nat):(cR l r).sh c=cR (l.sh c) (r.sh c):=by
 unfold cR It.sh;simp only[List.map_append]
theorem cK.e:cK [⟨0,[],0,0⟩] 0 ⟨true,[],[]⟩ [] []:=fun s=>by simp[bS,eY,It.sh,cT]
theorem cK.s(xs:List Int):cK [⟨1,xs,0,0⟩] 1 ⟨false,[0],[0]⟩ [] [xs]:=fun s=>by simp[bS,eY,It.sh,cT]
theorem cK.cat{A B:List El}{n m:Nat}{a b:It}{la lb:List Lk}{sa sb:List (List Int)}(ha:cK A n a la sa)(hb:cK B m b lb sb) :
  cK (A++B++[⟨2,[],0,0⟩]) (n+m) (bY a (b.sh n)) (la++cT n lb++[(a.la,(b.sh n).fi)]) (sa++sb):=fun s=>by
 rw[bk,bk,ha,hb];simp only[bS,eY];simp only[jT,pL,tz,It.sh_sh,List.append_assoc];simp[cT,It.sh,Nat.add_assoc]
theorem cK.alt{A B:List El}{n m:Nat}{a b:It}{la lb:List Lk}{sa sb:List (List Int)}(ha:cK A n a la sa)(hb:cK B m b lb sb) :
  cK (A++B++[⟨3,[],0,0⟩]) (n+m) (cR a (b.sh n)) (la++cT n lb) (sa++sb):=fun s=>by
 rw[bk,bk,ha,hb];simp only[bS,eY];simp only[jT,pL,tW,It.sh_sh,List.append_assoc];simp[Nat.add_assoc]
theorem cK.rep{A:List El}{n:Nat}{a:It}{la:List Lk}{sa:List (List Int)}(ha:cK A n a la sa)(mn mx:Int) :
  cK (A++[⟨4,[],mn,mx⟩]) n (ed a mn) (la++[(a.la,a.fi)]) sa:=fun s=>by
 rw[bk,ha];simp only[bS,eY];obtain⟨c,st,ln,ss⟩:=s;cases st with
 | nil=>simp[cT,ed,It.sh]
 | cons q st=>simp[cT,ed,It.sh]
structure Cl (α:Type) where
 v:Value
 xs:List α
 b:Nat
def Cl.ok{α:Type}(mk:α->Value)(d:α)(e:TypeId)(w:World)(p:Cl α):Prop:=
 ∃ a cap,p.v=.slice a p.xs.length cap/\(p.xs.length<=cap/\cap<=maxLen)/\(0<p.xs.length->∃ off,a=some ⟨p.b,off,none⟩/\(∃ c,w.heap[p.b]?=some (.cells c e (0,0)))/\∀ i:Nat,i<p.xs.length->w.cell? ⟨p.b,off+i,none⟩=some (mk (p.xs[i]?.getD d)))
theorem Cl.ok.same{α:Type}{mk:α->Value}{d:α}{e:TypeId}{w w':World}{p:Cl α}(h:p.ok mk d e w)(hs:0<p.xs.length->w'.heap[p.b]?=w.heap[p.b]?):p.ok mk d e w':=by
 obtain⟨a,cap,e1,hl,hc⟩:=h;refine⟨a,cap,e1,hl,fun hp=>?_⟩;obtain⟨off,e2,⟨c,h1⟩,h2⟩:=hc hp;exact⟨off,e2,⟨c,(hs hp).trans h1⟩,fun i hi=>by rw[World.cell?_of_block (w:=w) (a:=⟨p.b,off+i,none⟩) (hs hp)];exact h2 i hi⟩
theorem Cl.ok.lt{α:Type}{mk:α->Value}{d:α}{e:TypeId}{w:World}{p:Cl α}(h:p.ok mk d e w)(hp:0<p.xs.length):p.b<w.heap.size:=by
 obtain⟨a,cap,e1,hl,hc⟩:=h;obtain⟨off,e2,⟨c,h1⟩,h2⟩:=hc hp;exact(Array.getElem?_eq_some_iff.1 h1).1
theorem Cl.ok.below{α:Type}{mk:α->Value}{d:α}{e:TypeId}{m:Nat}{w w':World}{p:Cl α}(h:p.ok mk d e w)(hb:Below m w w')(hm:w.heap.size<=m):p.ok mk d e w':=h.same (fun hp=>hb.block _ (by have:=h.lt hp;omega))
theorem Cl.ok.at{α:Type}{mk:α->Value}{d:α}{e:TypeId}{w:World}{p:Cl α}(h:p.ok mk d e w):aK mk d 0 w.heap.size w p.v p.xs:=by
 obtain⟨a,cap,e1,hl,hc⟩:=id h;refine⟨a,cap,e1,by omega,fun hp=>?_⟩;obtain⟨off,e2,-,h2⟩:=hc hp;exact⟨p.b,off,e2,Nat.zero_le _,h.lt hp,h2⟩
theorem Cl.ok.cap{α:Type}{mk:α->Value}{d:α}{e:TypeId}{w:World}{p:Cl α}(h:p.ok mk d e w):cB p.v:=by
 obtain⟨a,cap,e1,hl,hc⟩:=h;rw[e1];exact cB.mk hl.1 hl.2
theorem Cl.ok.foot{α:Type}{mk:α->Value}{d:α}{e:TypeId}{w:World}{p:Cl α}(h:p.ok mk d e w):ir mk d (fun k=>0<p.xs.length/\k=p.b) w p.v p.xs:=by
 obtain⟨a,cap,e1,hl,hc⟩:=h
 by_cases hp:0<p.xs.length
 ·refine⟨p.b,p.b+1,⟨a,cap,e1,by omega,fun _=>?_⟩,fun k h1 h2=>⟨hp,by omega⟩⟩;obtain⟨off,e2,⟨c,h1⟩,h2⟩:=hc hp;exact⟨p.b,off,e2,Nat.le_refl _,Nat.lt_succ_self _,⟨c,e,h1⟩,h2⟩
 exact⟨0,0,⟨a,cap,e1,by omega,fun h=>absurd h hp⟩,fun k h1 h2=>by omega⟩
theorem Cl.ok.one{α:Type}{mk:α->Value}{d:α}{e:TypeId}{w:World}{p:Cl α}(h:p.ok mk d e w):p.v.oneCell'=true:=by
 obtain⟨a,cap,e1,-⟩:=h;rw[e1]
 rfl
theorem yo{mk:Int->Value}{base e n:Nat}{w:World}{v:Value}{xs:List Int}(h:w.ownsRow base e 1 v n (xs.map mk)):∃ b,Cl.ok mk 0 e w ⟨v,xs,b⟩/\(0<xs.length->base<=b):=by
 have a:=h.1;rw[List.length_map,Nat.mul_one]at a;rcases h.2 with ⟨rfl,hz⟩|⟨g,cap,cur,rfl,c,hg,k,d,l,f⟩
 ·exact⟨0,⟨none,0,by show Value.slice none 0 0=_;rw[a,hz],by show xs.length<=0/\_;exact⟨by omega,Nat.zero_le _⟩,fun hp=>by have:0<xs.length:=hp;omega⟩,fun hp=>by omega⟩
 refine⟨g,⟨some ⟨g,0,none⟩,cap,by rw[a],⟨by show xs.length<=cap;omega,d⟩,fun hp=>⟨0,rfl,⟨cur,hg⟩,fun i hi=>?_⟩⟩,fun _=>c⟩;have j:i<xs.length:=hi;show w.cell? ⟨g,0+i,none⟩=some (mk (xs[i]?.getD 0));rw[Nat.zero_add,h.cellAt i (by omega),List.getElem?_map,List.getElem?_eq_getElem j]
 rfl
def DO{α:Type}(ps:List (Cl α)):Prop:=ps.Pairwise (fun p q=>0<p.xs.length->0<q.xs.length->p.b≠q.b)
structure LL {α:Type} (mk:α->Value) (d:α) (e te:TypeId) (base:Nat) (w:World) (v:Value) (ps:List (Cl α)):Prop where
 own:w.ownsRow base te 1 v ps.length (ps.map Cl.v)
 ok:∀ p∈ps,p.ok mk d e w
 lo:∀ p∈ps,0<p.xs.length->base<=p.b
 apart:DO ps
theorem LL.nil{α:Type}{mk:α->Value}{d:α}{e te:TypeId}{base:Nat}{w:World}:LL mk d e te base w (.slice none 0 0) []:=⟨World.ownsRow_nil _ _ _ _,by simp,by simp,List.Pairwise.nil⟩
theorem LL.keep{α:Type}{mk:α->Value}{d:α}{e te:TypeId}{base m:Nat}{w w':World}{v:Value}{ps:List (Cl α)}(h:LL mk d e te base w v ps)(hb:Below m w w')(hm:w.heap.size<=m):LL mk d e te base w' v ps:=
 ⟨aG h.own hb hm,fun p hp=>(h.ok p hp).below hb hm,h.lo,h.apart⟩
theorem LL.not_row{α:Type}{mk:α->Value}{d:α}{e te:TypeId}{base:Nat}{w:World}{v:Value}{ps:List (Cl α)}(hte:te≠e)(h:LL mk d e te base w v ps){p:Cl α}{q:Cl α}(hq:q.ok mk d e w)(_:p=q)(hp:0<q.xs.length):some q.b≠v.ownBlock:=by
 intro e1;obtain⟨a,cap,-,-,hc⟩:=hq;obtain⟨off,-,⟨c,h1⟩,-⟩:=hc hp;rcases h.own.2 with ⟨rfl,_⟩|⟨g,cap',cur,rfl,_,f,_⟩
 ·simp[Value.ownBlock]at e1
 obtain rfl:q.b=g:=by simpa[Value.ownBlock]using e1
 rw[h1]at f;simp at f;exact hte f.2.symm
theorem ay(w:World)(o:Obj):aH w (w.alloc o) o:=⟨rfl,rfl,rfl,rfl⟩
theorem LL.app{α:Type}{mk:α->Value}{d:α}{e te:TypeId}{base:Nat}{w W w':World}{v v':Value}{ps:List (Cl α)}{p:Cl α}{o:Obj}(hte:te≠e)(h:LL mk d e te base w v ps)(hbase:base<=w.heap.size)(hp:p.ok mk d e w)(hplo:0<p.xs.length->base<=p.b)
  (hnew:∀ q∈ps,0<q.xs.length->0<p.xs.length->q.b≠p.b)(hP:aH w W o)(h1:w'.ownsRow base te 1 v' (ps.length+1) (ps.map Cl.v++[p.v]))(hg:W.grownBy w' v.ownBlock):LL mk d e te base w' v' (ps++[p])/\Below base w w':=by
 have hk:∀ q:Cl α,q.ok mk d e w->q.ok mk d e w':=fun q hq=>by
  refine hq.same (fun hq0=>?_)
  have hlt:=hq.lt hq0;rw[hg.block q.b (by rw[hP.size];omega) (h.not_row hte hq rfl hq0),hP.old hlt]
 refine⟨⟨by rw[List.length_append,List.map_append];exact h1,fun q hq=>?_,fun q hq hq0=>?_,?_⟩,(hP.below.mono hbase).grown hg (by rw[hP.size];omega) (fun k hk=>(h.own.lt k hk).1)⟩
 ·rcases List.mem_append.1 hq with hq|hq
  ·exact hk q (h.ok q hq)
  rw[List.mem_singleton]at hq;subst hq;exact hk q hp
 ·rcases List.mem_append.1 hq with hq|hq
  ·exact h.lo q hq hq0
  rw[List.mem_singleton]at hq;subst hq;exact hplo hq0
 refine List.pairwise_append.2 ⟨h.apart,List.pairwise_singleton _ _,fun q hq r hr=>?_⟩;rw[List.mem_singleton]at hr;subst hr;exact hnew q hq
theorem Dg{w:World}{B m:Nat}{t:TypeId}{F:Nat->Value}(hr:w.rowIs B t m F):B<w.heap.size:=by
 obtain⟨c,hc,-⟩:=hr;rcases Nat.lt_or_ge B w.heap.size with h|h
 ·exact h
 rw[Array.getElem?_eq_none h]at hc;cases hc
open Go.Shelf Go.Proofs.Tryz
def Tryz.laysTZ_ren:Go.Shelf.Ren:=⟨fun|29=>89|n=>n,fun|22=>86|3=>3|4=>4|25=>184|54=>183|0=>0|5=>5|n=>n,fun|1=>0|n=>n⟩
theorem Tryz.laysTZ:Go.Proofs.Lays7.n29 prog Tryz.laysTZ_ren:={
 mixed:=by kernel_rfl
 f29:=func89.trans (congrArg some (by kernel_rfl))
 t0:=underlying0
 a0:=Tryz.isAgg0
 z0:=Tryz.sizeOf0
 v0:=Tryz.zeroValue0
 i0:=by kernel_rfl
 t3:=underlying3
 a3:=Tryz.isAgg3
 z3:=Tryz.sizeOf3
 v3:=Tryz.zeroValue3
 i3:=by kernel_rfl
 t4:=underlying4
 a4:=Tryz.isAgg4
 z4:=Tryz.sizeOf4
 v4:=Tryz.zeroValue4
 i4:=by kernel_rfl
 t5:=underlying5
 a5:=Tryz.isAgg5
 z5:=Tryz.sizeOf5
 v5:=Tryz.zeroValue5
 i5:=by kernel_rfl
 t22:=underlying86
 a22:=Tryz.isAgg86
 z22:=Tryz.sizeOf86
 v22:=Tryz.zeroValue86
 i22:=by kernel_rfl
 t25:=underlying184
 a25:=Tryz.isAgg184
 z25:=Tryz.sizeOf184
 v25:=Tryz.zeroValue184
 i25:=by kernel_rfl
 t54:=underlying183
 a54:=Tryz.isAgg183
 z54:=Tryz.sizeOf183
 g1:=by kernel_rfl }
structure ce (g:Nat) (w w':World):Prop where
 os:w'.os=w.os
 tape:w'.tape=w.tape
 output:w'.output=w.output
 size:w'.heap.size=w.heap.size
 block:∀ k,k≠g->w'.heap[k]?=w.heap[k]?
theorem ce.trans{g:Nat}{a b c:World}(h:ce g a b)(k:ce g b c):ce g a c:=⟨k.os.trans h.os,k.tape.trans h.tape,k.output.trans h.output,k.size.trans h.size,fun i hi=>(k.block i hi).trans (h.block i hi)⟩
theorem ce.refl(g:Nat)(w:World):ce g w w:=⟨rfl,rfl,rfl,rfl,fun _ _=>rfl⟩
theorem am{w:World}{b:Nat}(o:Nat)(u:Value):ce b w (w.setCell ⟨b,o,none⟩ u):=⟨rfl,rfl,rfl,by simp[World.setCell],fun k hk=>Below.heap_setCell _ _ _ _ (by show k≠b;exact hk)⟩
theorem ce.drew{g:Nat}{a b:World}(h:ce g a b):ce g a b.drew:=⟨h.os,h.tape,h.output,h.size,h.block⟩
structure aT (O:Nat->Prop) (w w':World):Prop where
 os:w'.os=w.os
 tape:w'.tape=w.tape
 output:w'.output=w.output
 size:w.heap.size<=w'.heap.size
 block:∀ k,¬ O k->w'.heap[k]?=w.heap[k]?
theorem aT.refl(O:Nat->Prop)(w:World):aT O w w:=⟨rfl,rfl,rfl,Nat.le_refl _,fun _ _=>rfl⟩
theorem aT.trans{O:Nat->Prop}{a b c:World}(h:aT O a b)(k:aT O b c):aT O a c:=⟨k.os.trans h.os,k.tape.trans h.tape,k.output.trans h.output,Nat.le_trans h.size k.size,fun i hi=>(k.block i hi).trans (h.block i hi)⟩
theorem aT.mono{O O':Nat->Prop}{a b:World}(h:aT O a b)(hO:∀ k,O k->O' k):aT O' a b:=⟨h.os,h.tape,h.output,h.size,fun k hk=>h.block k (fun e=>hk (hO k e))⟩
theorem aT.drew{O:Nat->Prop}{a b:World}(h:aT O a b):aT O a b.drew:=⟨h.os,h.tape,h.output,h.size,h.block⟩
theorem bC{O:Nat->Prop}{a b:World}(h:Below a.heap.size a b)(hO:∀ k,a.heap.size<=k->O k):aT O a b:=⟨h.os,h.tape,h.output,h.size,fun k hk=>h.block k (by apply Nat.lt_of_not_le;intro e;exact hk (hO k e))⟩
theorem ce.fro{O:Nat->Prop}{g:Nat}{a b:World}(h:ce g a b)(hO:O g):aT O a b:=⟨h.os,h.tape,h.output,by rw[h.size];exact Nat.le_refl _,fun k hk=>h.block k (fun e=>hk (e ▸ hO))⟩
theorem aT.below{O:Nat->Prop}{a b:World}{m:Nat}(h:aT O a b)(hO:∀ k,k<m->¬ O k):Below m a b:=⟨h.os,h.tape,h.output,h.size,fun k hk=>h.block k (hO k hk)⟩
theorem fm{base e sz n:Nat}{w:World}{v:Value}{xs:List Value}(h:w.ownsRow base e sz v n xs)(hp:0<n):∃ g cap m F,v=.slice (some ⟨g,0,none⟩) n cap/\g<w.heap.size/\w.rowIs g e m F/\n*sz<=m/\(∀ k,k<n*sz->xs[k]?=some (F k))/\
  ∀ (w':World) (F':Nat->Value) (ys:List Value),w'.rowIs g e m F'->ys.length=n*sz->(∀ k,k<n*sz->ys[k]?=some (F' k))->w'.ownsRow base e sz v n ys:=by
 obtain⟨hl,h⟩:=h;rcases h with ⟨-,h⟩|⟨g,cap,cur,rfl,hb,hg,a,b,d,ht⟩
 ·omega
 have hm:n*sz<=cap*sz:=Nat.mul_le_mul_right _ a;refine⟨g,cap,cur.size,fun k=>cur[k]?.getD undef,rfl,?_,⟨cur,hg,rfl,fun i hi=>by simp[Array.getElem?_eq_getElem hi]⟩,by omega,fun k hk=>?_,fun w' F' ys hr hy hF=>?_⟩
 ·rcases Nat.lt_or_ge g w.heap.size with h|h
  ·exact h
  rw[Array.getElem?_eq_none h]at hg;cases hg
 ·rw[<-ht,List.getElem?_take_of_lt hk,Array.getElem?_toList,Array.getElem?_eq_getElem (show k<cur.size by omega)];simp[Array.getElem?_eq_getElem (show k<cur.size by omega)]
 obtain⟨c,h1,h2,h3⟩:=hr;refine⟨hy,Or.inr ⟨g,cap,c,rfl,hb,h1,a,b,by omega,?_⟩⟩;refine List.ext_getElem? (fun k=>?_)
 by_cases hk:k<n*sz
 ·rw[List.getElem?_take_of_lt hk,Array.getElem?_toList,h3 k (by omega),hF k hk]
 rw[List.getElem?_eq_none (by rw[List.length_take];omega),List.getElem?_eq_none (by omega)]
theorem ak{base e sz n:Nat}{w w':World}{v:Value}{xs:List Value}(h:w.ownsRow base e sz v n xs)(hs:∀ q,v.ownBlock=some q->w'.heap[q]?=w.heap[q]?):w'.ownsRow base e sz v n xs:=by
 refine⟨h.1,?_⟩;rcases h.2 with hn|⟨g,cap,cur,rfl,hb,hg,rest⟩
 ·exact .inl hn
 exact .inr ⟨g,cap,cur,rfl,hb,(hs g rfl).trans hg,rest⟩
theorem aB{base e sz n:Nat}{w:World}{v:Value}{xs:List Value}(h:w.ownsRow base e sz v n xs):∀ q,v.ownBlock=some q->q<w.heap.size:=fun q hq=>(h.lt q hq).2
def Sk(O:Nat->Prop)(a b:Nat):Nat->Prop:=fun k=>O k/\(k<a∨b<=k)
theorem Sk.sub{O:Nat->Prop}{a b:Nat}:∀ k,Sk O a b k->O k:=fun _ h=>h.1
theorem eK{w:World}{ops:Array Oper}{rest:List Oper}{o:Oper}{a:Act}{Q:Exit->Act->World->Prop}(hgd:o.guard=none)(s x:Operand)
  (ho:o.op=.call { callee:=.builtin .append,args:=#[s,x],argTypes:=#[27,27] })(base:Nat)(ov:Value)(hs:a.eval s=ov)(os:List Int)(hown:w.ownsRow base 3 1 ov os.length (os.map mI))(hbase:base<=w.heap.size)
  (sv:Value)(hx:a.eval x=sv)(xs:List Int)(hv:aK mI 0 0 w.heap.size w sv xs)(hlen:os.length+xs.length<=1048576)
  (h:∀ v' w',Below base w w'->w'.ownsRow base 3 1 v' (os++xs).length ((os++xs).map mI)->v'.oneCell'=true->wpList prog ops Q rest (a.put o.dst v') w'):wpList prog ops Q (o::rest) a w:=by
 obtain⟨i0,hi,d,f,g⟩:=info_parts Tryz.zinInt;obtain⟨sa,sc,rfl,hl,hc⟩:=hv;cases sa with
 | none =>
  have h0:xs.length=0:=by
   by_cases q:0<xs.length
   ·obtain⟨b,off,e,-⟩:=hc q;simp at e
   omega
  rw[h0]at hx;refine bw hgd s x 27 ho base 3 i0 1 underlying27 hi _ os.length (os.map mI) hs hown sc hx (h _ w (Below.refl _ _) (by rw[List.eq_nil_of_length_eq_zero h0,List.append_nil];exact hown) ?_)
  obtain⟨oa,oc,rfl⟩:=aj hown
  rfl
 | some ad =>
  refine wpList_append_own_at w hgd s x 27 ho base 3 i0 (.int .i64 0) 1 8 underlying27 hi d f g rfl (by decide) _ os.length (os.map mI) hs hown ad xs.length sc (xs.map mI) hx (by simp) ?_ ?_ (by unfold maxLen;omega) (by omega) hbase ?_
  ·intro j u hu;have hj:j<xs.length:=by
    have:=(List.getElem?_eq_some_iff.1 hu).1
    simpa using this
   obtain⟨b,off,e,-,-,c⟩:=hc (by omega);simp only[Option.some.injEq]at e;subst e;rw[List.getElem?_map,jB hj]at hu;simp only[Option.map_some,Option.some.injEq]at hu;subst hu;have e3:(⟨b,off,none⟩ : Addr).add j=⟨b,off+j,none⟩:=by cases j<;>rfl
   rw[e3];exact c j hj
  ·intro u hu;obtain⟨y,-,rfl⟩:=List.mem_map.1 hu
   rfl
  intro v' w' h1 hg _ _;have h2:w'.ownsRow base 3 1 v' (os++xs).length ((os++xs).map mI):=by rw[List.length_append,List.map_append];exact h1
  obtain⟨oa,oc,rfl⟩:=aj h2;exact h _ w' ((Below.refl _ _).grown hg hbase (fun k hk=>(hown.lt k hk).1)) h2 rfl
end Go.Proofs.YtidfkbghlkcbeaaGreatDoor
