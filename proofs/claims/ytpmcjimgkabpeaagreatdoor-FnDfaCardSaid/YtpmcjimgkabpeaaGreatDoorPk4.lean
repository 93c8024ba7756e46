import Derived.Test.YtpmcjimgkabpeaaGreatDoorPk1
import Derived.OwnWalk
import Derived.Maps.AppendAt
import Derived.Laws.AppendOwnNone
import Derived.Deep.AppendLies
import Derived.Deep.RegionLaw
import Derived.BigRegion
import Derived.RangeFuncBox
import Derived.Laws.OwnMore
namespace Go.Proofs.YtpmcjimgkabpeaaGreatDoor
open Go.RowKit Go.Proofs.Tryz
theorem bP{base lo n:Nat}{w:World}{v:Value}{xs:List Int}(h:w.ownsRow base 3 1 v n (xs.map mI))(hlo:lo<=base)(hn:n<=maxLen):lz mI 0 lo w.heap.size w v xs:=by
 have a:=h.1;rw[List.length_map,Nat.mul_one]at a;rcases h.2 with ⟨rfl,hz⟩|⟨g,cap,cur,rfl,c,hg,d,e,f,b⟩
 ·exact⟨none,0,by rw[a,hz],by omega,fun hp=>by omega⟩
 refine⟨_,cap,by rw[a],by omega,fun hp=>⟨g,0,rfl,by omega,(h.lt g rfl).2,⟨cur,_,hg⟩,fun i hi=>?_⟩⟩;rw[Nat.zero_add,h.cellAt i (by omega),List.getElem?_map,List.getElem?_eq_getElem hi]
 rfl
theorem dJ{W:World}{N:Nat}{u:Value}(h:W.cell? ⟨N,0,none⟩=some u):∀ (j:Nat) (y:Value),[u][j]?=some y->W.cell? ((⟨N,0,none⟩ : Addr).add j)=some y:=by
 intro j y hj
 match j,hj with
 | 0,hj=>simp at hj;subst hj;exact h
theorem eP{base n:Nat}{w:World}{v:Value}{xs:List Value}(h:w.ownsRow base 3 1 v n xs)(hp:0<n):∃ g cap,v=.slice (some ⟨g,0,none⟩) n cap/\∀ j:Nat,j<n->w.cell? ⟨g,j,none⟩=xs[j]? :=by
 rcases h.2 with ⟨rfl,hz⟩|⟨g,cap,cur,rfl,b,hg,c,d,e,a⟩
 ·omega
 exact⟨g,cap,rfl,fun j hj=>h.cellAt j (by omega)⟩
theorem dU{xs:List Int}{i:Nat}(h:i<xs.length):xs[i]?=some (xs[i]?.getD 0):=by rw[List.getElem?_eq_getElem h];rfl
theorem aG{base n m e size:Nat}{w w':World}{v:Value}{xs:List Value}(h:w.ownsRow base e size v n xs)(hb:Below m w w')(hm:w.heap.size<=m):w'.ownsRow base e size v n xs:=
 h.kept (show w.grownBy w' none from⟨hb.os,hb.tape,hb.output,hb.size,fun k hk _=>hb.block k (by omega)⟩) (by cases v.ownBlock<;>simp)
theorem aj{base n e size:Nat}{w:World}{v:Value}{xs:List Value}(h:w.ownsRow base e size v n xs):∃ oa oc,v=.slice oa n oc:=by
 rcases h.2 with ⟨rfl,hz⟩|⟨q,cap,cur,rfl,-⟩
 ·exact⟨none,0,by rw[hz]⟩
 exact⟨_,_,rfl⟩
theorem fO{P:Program}{w:World}(base:Nat)(t ty e:TypeId)(i:TypeInfo)(size:Nat)(ht:P.underlying t=some (.slice e))(hi:P.info? e=some i)
  (v:Value)(n:Nat)(xs:List Value)(a:w.ownsRow base e size v n xs)(c:Nat):(Builtin.append_ #[t,t] ty #[v,.slice none 0 c]).run P w=.ok v w:=by
 rcases a.2 with ⟨rfl,rfl⟩|⟨g,cap,cur,rfl,_,_,b,_⟩
 ·simp[Builtin.append_,run_underlying ht,sizeOf,typeInfo,hi,Builtin.lenOf,Builtin.firstCells]
 simp[Builtin.append_,run_underlying ht,sizeOf,typeInfo,hi,Builtin.lenOf,Builtin.firstCells,b,storeCells]
theorem bk{P:Program}{w:World}{ops:Array Oper}{rest:List Oper}{o:Oper}{a:Act}{Q:Exit->Act->World->Prop}(hgd:o.guard=none)(s x:Operand)(t:TypeId)
  (ho:o.op=.call { callee:=.builtin .append,args:=#[s,x],argTypes:=#[t,t] })
  (base:Nat)(e:TypeId)(i:TypeInfo)(size:Nat)(ht:P.underlying t=some (.slice e))(hi:P.info? e=some i)
  (v:Value)(n:Nat)(xs:List Value)(hs:a.eval s=v)(hown:w.ownsRow base e size v n xs)(c:Nat)(hx:a.eval x=.slice none 0 c)
  (h:wpList P ops Q rest (a.put o.dst v) w):wpList P ops Q (o::rest) a w:=by
 refine wpList_plain hgd fun K hK=>?_
 have b:=fO (P:=P) (w:=w) base t o.type e i size ht hi v n xs hown c;unfold Oper.wp;simp[execOp,ho,resolve,invoke,builtin,hs,hx,b,Result.andThen];exact hK _ _ h
theorem su{w:World}{ops:Array Oper}{rest:List Oper}{o:Oper}{a:Act}{Q:Exit->Act->World->Prop}(hgd:o.guard=none)(s x:Operand)
  (ho:o.op=.call { callee:=.builtin .append,args:=#[s,x],argTypes:=#[30,30] })(hs:a.eval s=.slice none 0 0)(sv:Value)(hx:a.eval x=sv)(xs:List Int)(hv:aP mI 0 0 w.heap.size w sv xs)(hlen:xs.length<=1048576)
  (h:∀ v' w',Below w.heap.size w w'->lz mI 0 w.heap.size w'.heap.size w' v' xs->v'.oneCell'=true->wpList prog ops Q rest (a.put o.dst v') w'):wpList prog ops Q (o::rest) a w:=by
 obtain⟨i0,hi,d,f,g⟩:=info_parts Tryz.zinInt;obtain⟨sa,sc,rfl,hl,hc⟩:=hv;cases sa with
 | none =>
  have h0:xs.length=0:=by
   by_cases q:0<xs.length
   ·obtain⟨b,off,e,-⟩:=hc q;simp at e
   omega
  rw[h0]at hx;exact bk hgd s x 30 ho w.heap.size 3 i0 1 underlying30 hi _ 0 [] hs (World.ownsRow_nil _ _ _ _) sc hx (h _ w (Below.refl _ _) ⟨none,0,by rw[h0],hl,fun q=>absurd q (by omega)⟩ rfl)
 | some ad =>
  refine wpList_append_own_at w hgd s x 30 ho w.heap.size 3 i0 (.int .i64 0) 1 8 underlying30 hi d f g rfl (by decide) _ 0 [] hs (World.ownsRow_nil _ _ _ _) ad xs.length sc (xs.map mI) hx (by simp) ?_ ?_ (by rw[Nat.zero_add];exact hl) (by omega) lR ?_
  ·intro j u hu;have hj:j<xs.length:=by
    have:=(List.getElem?_eq_some_iff.1 hu).1
    simpa using this
   obtain⟨b,off,e,-,-,c⟩:=hc (by omega);simp only[Option.some.injEq]at e;subst e;rw[List.getElem?_map,dU hj]at hu;simp only[Option.map_some,Option.some.injEq]at hu;subst hu;have e3:(⟨b,off,none⟩ : Addr).add j=⟨b,off+j,none⟩:=by cases j<;>rfl
   rw[e3];exact c j hj
  ·intro u hu;obtain⟨y,-,rfl⟩:=List.mem_map.1 hu
   rfl
  intro v' w' h1 hg _ _;rw[Nat.zero_add,List.nil_append]at h1;obtain⟨oa,oc,rfl⟩:=aj h1;exact h _ w' ((Below.refl _ _).grown hg lR (fun k hk=>by cases hk)) (bP h1 lR hl) rfl
theorem jL{w:World}{ops:Array Oper}{rest:List Oper}{o:Oper}{a:Act}{Q:Exit->Act->World->Prop}(hgd:o.guard=none)(s x:Operand)
  (ho:o.op=.call { callee:=.builtin .append,args:=#[s,x],argTypes:=#[30,30] })(hs:a.eval s=.slice none 0 0)(sv:Value)(hx:a.eval x=sv)(xs:List Int)(hv:aP mI 0 0 w.heap.size w sv xs)(hlen:xs.length<=1048576)
  (h:∀ v' w',Below w.heap.size w w'->w'.ownsRow w.heap.size 3 1 v' xs.length (xs.map mI)->v'.oneCell'=true->wpList prog ops Q rest (a.put o.dst v') w'):wpList prog ops Q (o::rest) a w:=by
 obtain⟨i0,hi,d,f,g⟩:=info_parts Tryz.zinInt;obtain⟨sa,sc,rfl,hl,hc⟩:=hv;cases sa with
 | none =>
  have h0:xs.length=0:=by
   by_cases q:0<xs.length
   ·obtain⟨b,off,e,-⟩:=hc q;simp at e
   omega
  rw[h0]at hx;exact bk hgd s x 30 ho w.heap.size 3 i0 1 underlying30 hi _ 0 [] hs (World.ownsRow_nil _ _ _ _) sc hx (h _ w (Below.refl _ _) (by rw[List.eq_nil_of_length_eq_zero h0];exact World.ownsRow_nil _ _ _ _) rfl)
 | some ad =>
  refine wpList_append_own_at w hgd s x 30 ho w.heap.size 3 i0 (.int .i64 0) 1 8 underlying30 hi d f g rfl (by decide) _ 0 [] hs (World.ownsRow_nil _ _ _ _) ad xs.length sc (xs.map mI) hx (by simp) ?_ ?_ (by rw[Nat.zero_add];exact hl) (by omega) lR ?_
  ·intro j u hu;have hj:j<xs.length:=by
    have:=(List.getElem?_eq_some_iff.1 hu).1
    simpa using this
   obtain⟨b,off,e,-,-,c⟩:=hc (by omega);simp only[Option.some.injEq]at e;subst e;rw[List.getElem?_map,dU hj]at hu;simp only[Option.map_some,Option.some.injEq]at hu;subst hu;have e3:(⟨b,off,none⟩ : Addr).add j=⟨b,off+j,none⟩:=by cases j<;>rfl
   rw[e3];exact c j hj
  ·intro u hu;obtain⟨y,-,rfl⟩:=List.mem_map.1 hu
   rfl
  intro v' w' h1 hg _ _;rw[Nat.zero_add,List.nil_append]at h1;obtain⟨oa,oc,rfl⟩:=aj h1;exact h _ w' ((Below.refl _ _).grown hg lR (fun k hk=>by cases hk)) h1 rfl
structure aK (w W:World) (o:Obj):Prop where
 os:W.os=w.os
 tape:W.tape=w.tape
 output:W.output=w.output
 heap:W.heap=w.heap.push o
theorem aK.size{w W:World}{o:Obj}(h:aK w W o):W.heap.size=w.heap.size+1:=by rw[h.heap,Array.size_push]
theorem aK.old{w W:World}{o:Obj}(h:aK w W o){k:Nat}(hk:k<w.heap.size):W.heap[k]?=w.heap[k]? :=by rw[h.heap,Array.getElem?_push_lt hk,Array.getElem?_eq_getElem hk]
theorem aK.new{w W:World}{o:Obj}(h:aK w W o):W.heap[w.heap.size]?=some o:=by rw[h.heap];simp
theorem aK.below{w W:World}{o:Obj}(h:aK w W o):Below w.heap.size w W:=⟨h.os,h.tape,h.output,by rw[h.size];omega,fun k hk=>h.old hk⟩
theorem aK.own{w W:World}{o:Obj}(h:aK w W o){base n e size:Nat}{v:Value}{xs:List Value}(k:w.ownsRow base e size v n xs):W.ownsRow base e size v n xs:=aG k h.below lR
theorem aK.news{w W:World}{cs:Array Value}{t:TypeId}(h:aK w W (.cells cs t)):∀ (j:Nat) (u:Value),cs.toList[j]?=some u->W.cell? ((⟨w.heap.size,0,none⟩ : Addr).add j)=some u:=World.news_of_block h.new
theorem dS{w:World}{ops:Array Oper}{o:Oper}{a:Act}{K:Act->World->Prop}{Q:Exit->Act->World->Prop}{E:Prop}(F:FuncId)(vals:Array Value)(hgd:o.guard=none)(hex:(execOp a.eval o).run prog w=.ok (.enter F vals) w)
  {Post:Ending->World->Prop}(h:Calls prog F vals w Post)(hK:∀ e w',Post e w'->∃ v,e=.returned v/\K (a.put o.dst v) w'):if Region.wanted o (yielded ops a.tmps)=true then Oper.wp prog o a w K Q else E:=by
 have hw:Region.wanted o (yielded ops a.tmps)=true:=by simp[Region.wanted,hgd]
 rw[if_pos hw];unfold Oper.wp;rw[hex,Oper.upon_enter];refine h.mono ?_;intro e w' hP;obtain⟨v,rfl,hk⟩:=hK e w' hP;exact hk
theorem dC{w:World}{ops:Array Oper}{o:Oper}{a:Act}{K:Act->World->Prop}{Q:Exit->Act->World->Prop}{E:Prop}(F:FuncId)(cargs:Array Operand)(ts:Array TypeId)(ho:o.op=.call { callee:=.value (.func F),args:=cargs,argTypes:=ts })(vals:Array Value)(hgd:o.guard=none)(hev:cargs.map a.eval=vals)
  (hf:∀ w,Sem.run prog (callFunc F vals) w=.ok (.enter F vals) w)
  {Post:Ending->World->Prop}(h:Calls prog F vals w Post)(hK:∀ e w',Post e w'->∃ v,e=.returned v/\K (a.put o.dst v) w'):if Region.wanted o (yielded ops a.tmps)=true then Oper.wp prog o a w K Q else E:=by
 refine dS F vals hgd ?_ h hK;have e1:a.eval (.func F)=.func (.func F) #[] #[]:=rfl;simp[execOp,ho,resolve,hev,e1,Deferred.ofValue,invoke,hf]
theorem uU{base n e size:Nat}{w:World}{v:Value}{xs:List Value}(h:w.ownsRow base e size v n xs):dj v:=by
 rcases h.2 with ⟨rfl,_⟩|⟨g,cap,cur,rfl,_,_,a,b,_⟩
 ·exact dj.mk lR (Nat.zero_le _)
 exact dj.mk a b
theorem lf{n:Int}(h0 : -9223372036854775808<=n)(h1:n<=9223372036854775807):IntKind.i64.wrap n=n:=by rw[IntKind.wrap_i64];omega
theorem Fd(w:World)(a b:Nat):(w.drewN a).drewN b=w.drewN (a+b):=by simp
theorem aS{b b' e size n:Nat}{w:World}{v:Value}{xs:List Value}(h:w.ownsRow b e size v n xs)(hb:b'<=b):w.ownsRow b' e size v n xs:=⟨h.1,h.2.imp id (fun ⟨g,cap,cur,q1,q2,q3⟩=>⟨g,cap,cur,q1,Nat.le_trans hb q2,q3⟩)⟩
theorem qF{base:Nat}{wr W w':World}{v v':Value}{os:List Int}{u:Int}{o:Obj}(hown:wr.ownsRow base 3 1 v os.length (os.map mI))(hbase:base<=wr.heap.size)(hP:aK wr W o)
  (h1:w'.ownsRow base 3 1 v' (os.length+1) (os.map mI++[.int .i64 u]))(hg:W.grownBy w' v.ownBlock) :
  w'.ownsRow base 3 1 v' (os++[u]).length ((os++[u]).map mI)/\Below base wr w':=by
 refine⟨by rw[List.length_append,List.map_append];exact h1,(hP.below.mono hbase).grown hg (by rw[hP.size];omega) (fun k hk=>(hown.lt k hk).1)⟩
def oO(bs:List Int):Prop:=∀ i:Nat,0<=bs[i]?.getD 0/\bs[i]?.getD 0<=255
theorem aP.cut{α:Type}{mk:α->Value}{d:α}{m:Nat}{w w':World}{v:Value}{xs:List α}(h:aP mk d 0 w.heap.size w v xs)(hb:Below m w w')(hm:w.heap.size<=m):aP mk d 0 w'.heap.size w' v xs:=h.below hb hm
def vT(w:World)(b:Nat):Prop:=∃ c t,w.heap[b]?=some (.cells c t (0,0))
theorem vT.same{w w':World}{b:Nat}(h:vT w b)(e:w'.heap[b]?=w.heap[b]?):vT w' b:=by
 obtain⟨c,t,hb⟩:=h;exact⟨c,t,e.trans hb⟩
def kJ(lo n:Nat)(k:Nat):Prop:=lo<=k/\k<n
structure iQ (S:Nat->Prop) (w w':World):Prop where
 os:w'.os=w.os
 tape:w'.tape=w.tape
 output:w'.output=w.output
 size:w'.heap.size=w.heap.size
 block:∀ k,¬ S k->w'.heap[k]?=w.heap[k]?
theorem iQ.refl(S:Nat->Prop)(w:World):iQ S w w:=⟨rfl,rfl,rfl,rfl,fun _ _=>rfl⟩
theorem iQ.trans{S:Nat->Prop}{a b c:World}(h:iQ S a b)(k:iQ S b c):iQ S a c:=
 ⟨k.os.trans h.os,k.tape.trans h.tape,k.output.trans h.output,k.size.trans h.size,fun i hi=>(k.block i hi).trans (h.block i hi)⟩
theorem iQ.below{S:Nat->Prop}{lo:Nat}{w w':World}(h:iQ S w w')(hs:∀ k,S k->lo<=k):Below lo w w':=⟨h.os,h.tape,h.output,by rw[h.size];exact Nat.le_refl _,fun k hk=>h.block k (fun q=>by have:=hs k q;omega)⟩
theorem iQ.put{S:Nat->Prop}{a w:World}(h:iQ S a w){b o:Nat}(h1:S b)(u:Value):iQ S a (w.setCell ⟨b,o,none⟩ u):=
 h.trans ⟨rfl,rfl,rfl,by simp[World.setCell],fun k hk=>Below.heap_setCell _ _ _ _ (by show k≠b;intro e;subst e;exact hk h1)⟩
def ij{α:Type}(mk:α->Value)(d:α)(S:Nat->Prop)(w:World)(v:Value)(xs:List α):Prop:=
 ∃ lo n,lz mk d lo n w v xs/\∀ k,lo<=k->k<n->S k
theorem lz.foot{α:Type}{mk:α->Value}{d:α}{lo n:Nat}{w:World}{v:Value}{xs:List α}(h:lz mk d lo n w v xs):ij mk d (kJ lo n) w v xs:=⟨lo,n,h,fun _ h1 h2=>⟨h1,h2⟩⟩
theorem ij.same{α:Type}{mk:α->Value}{d:α}{S:Nat->Prop}{w w':World}{v:Value}{xs:List α}(h:ij mk d S w v xs)(hs:∀ k,S k->w'.heap[k]?=w.heap[k]?):ij mk d S w' v xs:=by
 obtain⟨lo,n,h1,h2⟩:=h;exact⟨lo,n,h1.same (fun k k1 k2=>hs k (h2 k k1 k2)),h2⟩
theorem ij.mono{α:Type}{mk:α->Value}{d:α}{S T:Nat->Prop}{w:World}{v:Value}{xs:List α}(h:ij mk d S w v xs)(hs:∀ k,S k->T k):ij mk d T w v xs:=by
 obtain⟨lo,n,h1,h2⟩:=h;exact⟨lo,n,h1,fun k k1 k2=>hs k (h2 k k1 k2)⟩
theorem ij.at{α:Type}{mk:α->Value}{d:α}{S:Nat->Prop}{N:Nat}{w:World}{v:Value}{xs:List α}(h:ij mk d S w v xs)(hs:∀ k,S k->k<N):aP mk d 0 N w v xs:=by
 obtain⟨lo,n,⟨a,cap,rfl,hl,hc⟩,h2⟩:=h;refine⟨a,cap,rfl,hl,fun hp=>?_⟩;obtain⟨b,off,rfl,h3,h4,h5,c⟩:=hc hp;exact⟨b,off,rfl,Nat.zero_le _,hs b (h2 b h3 h4),c⟩
theorem ij.val{α:Type}{mk:α->Value}{d:α}{S:Nat->Prop}{w:World}{v:Value}{xs:List α}(h:ij mk d S w v xs):∃ a cap,v=.slice a xs.length cap:=by
 obtain⟨lo,n,⟨a,cap,e,-⟩,-⟩:=h;exact⟨a,cap,e⟩
def kY{α:Type}(mk:α->Value)(d:α)(N:Nat)(w:World)(v:Value)(xss:List (List α)):Prop:=
 ∃ a cap,v=.slice a xss.length cap/\(xss.length<=cap/\cap<=maxLen)/\
  (0<xss.length->∃ b off,a=some ⟨b,off,none⟩/\b<N/\∀ i:Nat,i<xss.length->∃ s,w.cell? ⟨b,off+i,none⟩=some s/\aP mk d 0 N w s (xss[i]?.getD [])/\dj s)
theorem kY.below{α:Type}{mk:α->Value}{d:α}{m:Nat}{w w':World}{v:Value}{xss:List (List α)}(h:kY mk d w.heap.size w v xss)(hb:Below m w w')(hm:w.heap.size<=m):kY mk d w'.heap.size w' v xss:=by
 obtain⟨a,cap,rfl,hl,hc⟩:=h;refine⟨a,cap,rfl,hl,fun hp=>?_⟩;obtain⟨b,off,rfl,h1,h2⟩:=hc hp;refine⟨b,off,rfl,by have:=hb.size;omega,fun i hi=>?_⟩;obtain⟨s,h3,h4,h5⟩:=h2 i hi;exact⟨s,by rw[hb.cell (p:=⟨b,off+i,none⟩) (by show b<m;omega)];exact h3,h4.below hb hm,h5⟩
def Df{α:Type}(mk:α->Value)(d:α)(S:Nat->Prop)(w:World)(v:Value)(xss:List (List α)):Prop:=
 ∃ a cap,v=.slice a xss.length cap/\(xss.length<=cap/\cap<=maxLen)/\(0<xss.length->∃ (b off:Nat) (sv:Nat->Value) (T:Nat->Nat->Prop),a=some ⟨b,off,none⟩/\S b/\vT w b/\
  (∀ i:Nat,i<xss.length->w.cell? ⟨b,off+i,none⟩=some (sv i))/\(∀ i:Nat,i<xss.length->ij mk d (T i) w (sv i) (xss[i]?.getD [])/\dj (sv i))/\
  (∀ i:Nat,i<xss.length->∀ k,T i k->S k/\k≠b)/\∀ i j:Nat,i<xss.length->j<xss.length->i≠j->∀ k,T i k->¬ T j k)
theorem Df.at{α:Type}{mk:α->Value}{d:α}{S:Nat->Prop}{N:Nat}{w:World}{v:Value}{xss:List (List α)}(h:Df mk d S w v xss)(hs:∀ k,S k->k<N):kY mk d N w v xss:=by
 obtain⟨a,cap,rfl,hl,hc⟩:=h;refine⟨a,cap,rfl,hl,fun hp=>?_⟩;obtain⟨b,off,sv,T,e,h1,h2,h3,h4,h5,h6⟩:=hc hp;exact⟨b,off,e,hs b h1,fun i hi=>⟨sv i,h3 i hi,(h4 i hi).1.at (fun k hk=>hs k (h5 i hi k hk).1),(h4 i hi).2⟩⟩
theorem Df.nil{α:Type}(mk:α->Value)(d:α)(S:Nat->Prop)(w:World)(a:Option Addr)(cap:Nat)(hc:cap<=maxLen):Df mk d S w (.slice a 0 cap) ([]:List (List α)):=⟨a,cap,rfl,⟨Nat.zero_le _,hc⟩,fun h=>absurd h (by simp)⟩
structure Cl (α:Type) where
 v:Value
 xs:List α
 b:Nat
def Cl.ok{α:Type}(mk:α->Value)(d:α)(e:TypeId)(w:World)(p:Cl α):Prop:=
 ∃ a cap,p.v=.slice a p.xs.length cap/\(p.xs.length<=cap/\cap<=maxLen)/\(0<p.xs.length->∃ off,a=some ⟨p.b,off,none⟩/\(∃ c,w.heap[p.b]?=some (.cells c e (0,0)))/\∀ i:Nat,i<p.xs.length->w.cell? ⟨p.b,off+i,none⟩=some (mk (p.xs[i]?.getD d)))
theorem Cl.ok.same{α:Type}{mk:α->Value}{d:α}{e:TypeId}{w w':World}{p:Cl α}(h:p.ok mk d e w)(hs:0<p.xs.length->w'.heap[p.b]?=w.heap[p.b]?):p.ok mk d e w':=by
 obtain⟨a,cap,e1,hl,hc⟩:=h;refine⟨a,cap,e1,hl,fun hp=>?_⟩;obtain⟨off,e2,⟨c,h1⟩,h2⟩:=hc hp;exact⟨off,e2,⟨c,(hs hp).trans h1⟩,fun i hi=>by rw[World.cell?_of_block (w:=w) (a:=⟨p.b,off+i,none⟩) (hs hp)];exact h2 i hi⟩
theorem Cl.ok.lt{α:Type}{mk:α->Value}{d:α}{e:TypeId}{w:World}{p:Cl α}(h:p.ok mk d e w)(hp:0<p.xs.length):p.b<w.heap.size:=by
 obtain⟨a,cap,e1,hl,hc⟩:=h;obtain⟨off,e2,⟨c,h1⟩,h2⟩:=hc hp;exact(Array.getElem?_eq_some_iff.1 h1).1
theorem Cl.ok.below{α:Type}{mk:α->Value}{d:α}{e:TypeId}{m:Nat}{w w':World}{p:Cl α}(h:p.ok mk d e w)(hb:Below m w w')(hm:w.heap.size<=m):p.ok mk d e w':=h.same (fun hp=>hb.block _ (by have:=h.lt hp;omega))
theorem Cl.ok.at{α:Type}{mk:α->Value}{d:α}{e:TypeId}{w:World}{p:Cl α}(h:p.ok mk d e w):aP mk d 0 w.heap.size w p.v p.xs:=by
 obtain⟨a,cap,e1,hl,hc⟩:=id h;refine⟨a,cap,e1,by omega,fun hp=>?_⟩;obtain⟨off,e2,-,h2⟩:=hc hp;exact⟨p.b,off,e2,Nat.zero_le _,h.lt hp,h2⟩
theorem Cl.ok.cap{α:Type}{mk:α->Value}{d:α}{e:TypeId}{w:World}{p:Cl α}(h:p.ok mk d e w):dj p.v:=by
 obtain⟨a,cap,e1,hl,hc⟩:=h;rw[e1];exact dj.mk hl.1 hl.2
theorem Cl.ok.foot{α:Type}{mk:α->Value}{d:α}{e:TypeId}{w:World}{p:Cl α}(h:p.ok mk d e w):ij mk d (fun k=>0<p.xs.length/\k=p.b) w p.v p.xs:=by
 obtain⟨a,cap,e1,hl,hc⟩:=h
 by_cases hp:0<p.xs.length
 ·refine⟨p.b,p.b+1,⟨a,cap,e1,by omega,fun _=>?_⟩,fun k h1 h2=>⟨hp,by omega⟩⟩;obtain⟨off,e2,⟨c,h1⟩,h2⟩:=hc hp;exact⟨p.b,off,e2,Nat.le_refl _,Nat.lt_succ_self _,⟨c,e,h1⟩,h2⟩
 exact⟨0,0,⟨a,cap,e1,by omega,fun h=>absurd h hp⟩,fun k h1 h2=>by omega⟩
theorem Cl.ok.one{α:Type}{mk:α->Value}{d:α}{e:TypeId}{w:World}{p:Cl α}(h:p.ok mk d e w):p.v.oneCell'=true:=by
 obtain⟨a,cap,e1,-⟩:=h;rw[e1]
 rfl
theorem xT{mk:Int->Value}{base e n:Nat}{w:World}{v:Value}{xs:List Int}(h:w.ownsRow base e 1 v n (xs.map mk)):∃ b,Cl.ok mk 0 e w ⟨v,xs,b⟩/\(0<xs.length->base<=b):=by
 have a:=h.1;rw[List.length_map,Nat.mul_one]at a;rcases h.2 with ⟨rfl,hz⟩|⟨g,cap,cur,rfl,c,hg,k,d,l,f⟩
 ·exact⟨0,⟨none,0,by show Value.slice none 0 0=_;rw[a,hz],by show xs.length<=0/\_;exact⟨by omega,Nat.zero_le _⟩,fun hp=>by have:0<xs.length:=hp;omega⟩,fun hp=>by omega⟩
 refine⟨g,⟨some ⟨g,0,none⟩,cap,by rw[a],⟨by show xs.length<=cap;omega,d⟩,fun hp=>⟨0,rfl,⟨cur,hg⟩,fun i hi=>?_⟩⟩,fun _=>c⟩;have j:i<xs.length:=hi;show w.cell? ⟨g,0+i,none⟩=some (mk (xs[i]?.getD 0));rw[Nat.zero_add,h.cellAt i (by omega),List.getElem?_map,List.getElem?_eq_getElem j]
 rfl
def DG{α:Type}(ps:List (Cl α)):Prop:=ps.Pairwise (fun p q=>0<p.xs.length->0<q.xs.length->p.b≠q.b)
structure LL {α:Type} (mk:α->Value) (d:α) (e te:TypeId) (base:Nat) (w:World) (v:Value) (ps:List (Cl α)):Prop where
 own:w.ownsRow base te 1 v ps.length (ps.map Cl.v)
 ok:∀ p∈ps,p.ok mk d e w
 lo:∀ p∈ps,0<p.xs.length->base<=p.b
 apart:DG ps
theorem LL.nil{α:Type}{mk:α->Value}{d:α}{e te:TypeId}{base:Nat}{w:World}:LL mk d e te base w (.slice none 0 0) []:=⟨World.ownsRow_nil _ _ _ _,by simp,by simp,List.Pairwise.nil⟩
theorem LL.keep{α:Type}{mk:α->Value}{d:α}{e te:TypeId}{base m:Nat}{w w':World}{v:Value}{ps:List (Cl α)}(h:LL mk d e te base w v ps)(hb:Below m w w')(hm:w.heap.size<=m):LL mk d e te base w' v ps:=
 ⟨aG h.own hb hm,fun p hp=>(h.ok p hp).below hb hm,h.lo,h.apart⟩
theorem LL.not_row{α:Type}{mk:α->Value}{d:α}{e te:TypeId}{base:Nat}{w:World}{v:Value}{ps:List (Cl α)}(hte:te≠e)(h:LL mk d e te base w v ps){p:Cl α}{q:Cl α}(hq:q.ok mk d e w)(_:p=q)(hp:0<q.xs.length):some q.b≠v.ownBlock:=by
 intro e1;obtain⟨a,cap,-,-,hc⟩:=hq;obtain⟨off,-,⟨c,h1⟩,-⟩:=hc hp;rcases h.own.2 with ⟨rfl,_⟩|⟨g,cap',cur,rfl,_,f,_⟩
 ·simp[Value.ownBlock]at e1
 obtain rfl:q.b=g:=by simpa[Value.ownBlock]using e1
 rw[h1]at f;simp at f;exact hte f.2.symm
theorem au(w:World)(o:Obj):aK w (w.alloc o) o:=⟨rfl,rfl,rfl,rfl⟩
theorem LL.app{α:Type}{mk:α->Value}{d:α}{e te:TypeId}{base:Nat}{w W w':World}{v v':Value}{ps:List (Cl α)}{p:Cl α}{o:Obj}(hte:te≠e)(h:LL mk d e te base w v ps)(hbase:base<=w.heap.size)(hp:p.ok mk d e w)(hplo:0<p.xs.length->base<=p.b)
  (hnew:∀ q∈ps,0<q.xs.length->0<p.xs.length->q.b≠p.b)(hP:aK w W o)(h1:w'.ownsRow base te 1 v' (ps.length+1) (ps.map Cl.v++[p.v]))(hg:W.grownBy w' v.ownBlock):LL mk d e te base w' v' (ps++[p])/\Below base w w':=by
 have hk:∀ q:Cl α,q.ok mk d e w->q.ok mk d e w':=fun q hq=>by
  refine hq.same (fun hq0=>?_)
  have hlt:=hq.lt hq0;rw[hg.block q.b (by rw[hP.size];omega) (h.not_row hte hq rfl hq0),hP.old hlt]
 refine⟨⟨by rw[List.length_append,List.map_append];exact h1,fun q hq=>?_,fun q hq hq0=>?_,?_⟩,(hP.below.mono hbase).grown hg (by rw[hP.size];omega) (fun k hk=>(h.own.lt k hk).1)⟩
 ·rcases List.mem_append.1 hq with hq|hq
  ·exact hk q (h.ok q hq)
  rw[List.mem_singleton]at hq;subst hq;exact hk q hp
 ·rcases List.mem_append.1 hq with hq|hq
  ·exact h.lo q hq hq0
  rw[List.mem_singleton]at hq;subst hq;exact hplo hq0
 refine List.pairwise_append.2 ⟨h.apart,List.pairwise_singleton _ _,fun q hq r hr=>?_⟩;rw[List.mem_singleton]at hr;subst hr;exact hnew q hq
theorem BC{base e g n cap k:Nat}{w:World}{xs:List Value}{u:Value}(h:w.ownsRow base e 1 (.slice (some ⟨g,0,none⟩) n cap) n xs)(_:k<n):(w.setCell ⟨g,k,none⟩ u).ownsRow base e 1 (.slice (some ⟨g,0,none⟩) n cap) n (xs.set k u):=by
 have a:=h.1;rcases h.2 with ⟨e0,_⟩|⟨g',cap',cur,e0,hb,hg,hn,hm,hs,ht⟩
 ·cases e0
 cases e0;refine⟨by rw[List.length_set];exact a,.inr ⟨g,cap,cur.setIfInBounds k u,rfl,hb,?_,hn,hm,by rw[Array.size_setIfInBounds];exact hs,?_⟩⟩
 ·simp[World.setCell,Array.getElem?_modify,hg]
 rw[Array.toList_setIfInBounds,<-ht];rw[List.take_set]
theorem DL{w:World}{B m:Nat}{t:TypeId}{F:Nat->Value}(hr:w.rowIs B t m F):B<w.heap.size:=by
 obtain⟨c,hc,-⟩:=hr;rcases Nat.lt_or_ge B w.heap.size with h|h
 ·exact h
 rw[Array.getElem?_eq_none h]at hc;cases hc
structure cd (g:Nat) (w w':World):Prop where
 os:w'.os=w.os
 tape:w'.tape=w.tape
 output:w'.output=w.output
 size:w'.heap.size=w.heap.size
 block:∀ k,k≠g->w'.heap[k]?=w.heap[k]?
theorem cd.trans{g:Nat}{a b c:World}(h:cd g a b)(k:cd g b c):cd g a c:=⟨k.os.trans h.os,k.tape.trans h.tape,k.output.trans h.output,k.size.trans h.size,fun i hi=>(k.block i hi).trans (h.block i hi)⟩
theorem cd.refl(g:Nat)(w:World):cd g w w:=⟨rfl,rfl,rfl,rfl,fun _ _=>rfl⟩
theorem am{w:World}{b:Nat}(o:Nat)(u:Value):cd b w (w.setCell ⟨b,o,none⟩ u):=⟨rfl,rfl,rfl,by simp[World.setCell],fun k hk=>Below.heap_setCell _ _ _ _ (by show k≠b;exact hk)⟩
theorem cd.drew{g:Nat}{a b:World}(h:cd g a b):cd g a b.drew:=⟨h.os,h.tape,h.output,h.size,h.block⟩
structure aR (O:Nat->Prop) (w w':World):Prop where
 os:w'.os=w.os
 tape:w'.tape=w.tape
 output:w'.output=w.output
 size:w.heap.size<=w'.heap.size
 block:∀ k,¬ O k->w'.heap[k]?=w.heap[k]?
theorem aR.refl(O:Nat->Prop)(w:World):aR O w w:=⟨rfl,rfl,rfl,Nat.le_refl _,fun _ _=>rfl⟩
theorem aR.trans{O:Nat->Prop}{a b c:World}(h:aR O a b)(k:aR O b c):aR O a c:=⟨k.os.trans h.os,k.tape.trans h.tape,k.output.trans h.output,Nat.le_trans h.size k.size,fun i hi=>(k.block i hi).trans (h.block i hi)⟩
theorem aR.mono{O O':Nat->Prop}{a b:World}(h:aR O a b)(hO:∀ k,O k->O' k):aR O' a b:=⟨h.os,h.tape,h.output,h.size,fun k hk=>h.block k (fun e=>hk (hO k e))⟩
theorem aR.drew{O:Nat->Prop}{a b:World}(h:aR O a b):aR O a b.drew:=⟨h.os,h.tape,h.output,h.size,h.block⟩
theorem bh{O:Nat->Prop}{a b:World}(h:Below a.heap.size a b)(hO:∀ k,a.heap.size<=k->O k):aR O a b:=⟨h.os,h.tape,h.output,h.size,fun k hk=>h.block k (by apply Nat.lt_of_not_le;intro e;exact hk (hO k e))⟩
theorem cd.fro{O:Nat->Prop}{g:Nat}{a b:World}(h:cd g a b)(hO:O g):aR O a b:=⟨h.os,h.tape,h.output,by rw[h.size];exact Nat.le_refl _,fun k hk=>h.block k (fun e=>hk (e ▸ hO))⟩
theorem aR.below{O:Nat->Prop}{a b:World}{m:Nat}(h:aR O a b)(hO:∀ k,k<m->¬ O k):Below m a b:=⟨h.os,h.tape,h.output,h.size,fun k hk=>h.block k (hO k hk)⟩
theorem fe{base e sz n:Nat}{w:World}{v:Value}{xs:List Value}(h:w.ownsRow base e sz v n xs)(hp:0<n):∃ g cap m F,v=.slice (some ⟨g,0,none⟩) n cap/\g<w.heap.size/\w.rowIs g e m F/\n*sz<=m/\(∀ k,k<n*sz->xs[k]?=some (F k))/\
  ∀ (w':World) (F':Nat->Value) (ys:List Value),w'.rowIs g e m F'->ys.length=n*sz->(∀ k,k<n*sz->ys[k]?=some (F' k))->w'.ownsRow base e sz v n ys:=by
 obtain⟨hl,h⟩:=h;rcases h with ⟨-,h⟩|⟨g,cap,cur,rfl,hb,hg,a,b,d,ht⟩
 ·omega
 have hm:n*sz<=cap*sz:=Nat.mul_le_mul_right _ a;refine⟨g,cap,cur.size,fun k=>cur[k]?.getD undef,rfl,?_,⟨cur,hg,rfl,fun i hi=>by simp[Array.getElem?_eq_getElem hi]⟩,by omega,fun k hk=>?_,fun w' F' ys hr hy hF=>?_⟩
 ·rcases Nat.lt_or_ge g w.heap.size with h|h
  ·exact h
  rw[Array.getElem?_eq_none h]at hg;cases hg
 ·rw[<-ht,List.getElem?_take_of_lt hk,Array.getElem?_toList,Array.getElem?_eq_getElem (show k<cur.size by omega)];simp[Array.getElem?_eq_getElem (show k<cur.size by omega)]
 obtain⟨c,h1,h2,h3⟩:=hr;refine⟨hy,Or.inr ⟨g,cap,c,rfl,hb,h1,a,b,by omega,?_⟩⟩;refine List.ext_getElem? (fun k=>?_)
 by_cases hk:k<n*sz
 ·rw[List.getElem?_take_of_lt hk,Array.getElem?_toList,h3 k (by omega),hF k hk]
 rw[List.getElem?_eq_none (by rw[List.length_take];omega),List.getElem?_eq_none (by omega)]
theorem ak{base e sz n:Nat}{w w':World}{v:Value}{xs:List Value}(h:w.ownsRow base e sz v n xs)(hs:∀ q,v.ownBlock=some q->w'.heap[q]?=w.heap[q]?):w'.ownsRow base e sz v n xs:=by
 refine⟨h.1,?_⟩;rcases h.2 with hn|⟨g,cap,cur,rfl,hb,hg,rest⟩
 ·exact .inl hn
 exact .inr ⟨g,cap,cur,rfl,hb,(hs g rfl).trans hg,rest⟩
theorem aB{base e sz n:Nat}{w:World}{v:Value}{xs:List Value}(h:w.ownsRow base e sz v n xs):∀ q,v.ownBlock=some q->q<w.heap.size:=fun q hq=>(h.lt q hq).2
def Sk(O:Nat->Prop)(a b:Nat):Nat->Prop:=fun k=>O k/\(k<a∨b<=k)
theorem Sk.sub{O:Nat->Prop}{a b:Nat}:∀ k,Sk O a b k->O k:=fun _ h=>h.1
theorem ez{w:World}{ops:Array Oper}{rest:List Oper}{o:Oper}{a:Act}{Q:Exit->Act->World->Prop}(hgd:o.guard=none)(s x:Operand)
  (ho:o.op=.call { callee:=.builtin .append,args:=#[s,x],argTypes:=#[30,30] })(base:Nat)(ov:Value)(hs:a.eval s=ov)(os:List Int)(hown:w.ownsRow base 3 1 ov os.length (os.map mI))(hbase:base<=w.heap.size)
  (sv:Value)(hx:a.eval x=sv)(xs:List Int)(hv:aP mI 0 0 w.heap.size w sv xs)(hlen:os.length+xs.length<=1048576)
  (h:∀ v' w',Below base w w'->w'.ownsRow base 3 1 v' (os++xs).length ((os++xs).map mI)->v'.oneCell'=true->wpList prog ops Q rest (a.put o.dst v') w'):wpList prog ops Q (o::rest) a w:=by
 obtain⟨i0,hi,d,f,g⟩:=info_parts Tryz.zinInt;obtain⟨sa,sc,rfl,hl,hc⟩:=hv;cases sa with
 | none =>
  have h0:xs.length=0:=by
   by_cases q:0<xs.length
   ·obtain⟨b,off,e,-⟩:=hc q;simp at e
   omega
  rw[h0]at hx;refine bk hgd s x 30 ho base 3 i0 1 underlying30 hi _ os.length (os.map mI) hs hown sc hx (h _ w (Below.refl _ _) (by rw[List.eq_nil_of_length_eq_zero h0,List.append_nil];exact hown) ?_)
  obtain⟨oa,oc,rfl⟩:=aj hown
  rfl
 | some ad =>
  refine wpList_append_own_at w hgd s x 30 ho base 3 i0 (.int .i64 0) 1 8 underlying30 hi d f g rfl (by decide) _ os.length (os.map mI) hs hown ad xs.length sc (xs.map mI) hx (by simp) ?_ ?_ (by unfold maxLen;omega) (by omega) hbase ?_
  ·intro j u hu;have hj:j<xs.length:=by
    have:=(List.getElem?_eq_some_iff.1 hu).1
    simpa using this
   obtain⟨b,off,e,-,-,c⟩:=hc (by omega);simp only[Option.some.injEq]at e;subst e;rw[List.getElem?_map,dU hj]at hu;simp only[Option.map_some,Option.some.injEq]at hu;subst hu;have e3:(⟨b,off,none⟩ : Addr).add j=⟨b,off+j,none⟩:=by cases j<;>rfl
   rw[e3];exact c j hj
  ·intro u hu;obtain⟨y,-,rfl⟩:=List.mem_map.1 hu
   rfl
  intro v' w' h1 hg _ _;have h2:w'.ownsRow base 3 1 v' (os++xs).length ((os++xs).map mI):=by rw[List.length_append,List.map_append];exact h1
  obtain⟨oa,oc,rfl⟩:=aj h2;exact h _ w' ((Below.refl _ _).grown hg hbase (fun k hk=>(hown.lt k hk).1)) h2 rfl
end Go.Proofs.YtpmcjimgkabpeaaGreatDoor
