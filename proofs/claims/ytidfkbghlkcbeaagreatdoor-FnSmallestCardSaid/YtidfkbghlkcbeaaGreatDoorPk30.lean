import Derived.Test.YtidfkbghlkcbeaaGreatDoorPk15
import Derived.Test.YtidfkbghlkcbeaaGreatDoorPk19
import Derived.Deep.CutBlock
import Derived.Deep.DeepCutAuto
namespace Go.Proofs.YtidfkbghlkcbeaaGreatDoor
open Go.RowKit Go.Proofs.Tryz
set_option maxHeartbeats 16000000
set_option maxRecDepth 100000
structure jI (G:Value->List El×Int->Prop):Prop where
 sz:∀ {u:Value} {t:List El×Int},G u t->gn u t.2
 e:G eV ([⟨0,[],0,0⟩],1)
 s:∀ {xs:List Int} {g:Nat->Nat},cZ xs->dx xs g->G (sV g) ([⟨1,xs,0,0⟩],1)
 cat:∀ {u v:Value} {l r:List El×Int},G u l->G v r->G (cV u v) (l.1++r.1++[⟨2,[],0,0⟩],cap (l.2+r.2))
 alt:∀ {u v:Value} {l r:List El×Int},G u l->G v r->G (aV u v) (l.1++r.1++[⟨3,[],0,0⟩],cap (l.2+r.2))
 rep:∀ {u:Value} {o:List El×Int} {mn mx:Int},G u o->0<=mn->mn<=250->(mx = -1∨(mn<=mx/\mx<=250))->G (rV u mn mx) (o.1++[⟨4,[],mn,mx⟩],cap (bK o.2 mn mx))
def cC(G:Value->List El×Int->Prop):List (List El×Int)->List Value->Prop
 | [],[]=>True
 | t::ts,u::us=>G u t/\cC G ts us
 | _,_=>False
theorem cC.len{G:Value->List El×Int->Prop}:∀ {ts:List (List El×Int)} {us:List Value},cC G ts us->ts.length=us.length
 | [],[],_=>rfl
 | _::_,_::_,h=>by simp[cC.len h.2]
 | [],_::_,h=>h.elim
 | _::_,[],h=>h.elim
theorem cC.append{G:Value->List El×Int->Prop}:∀ {a b:List (List El×Int)} {us vs:List Value},cC G a us->cC G b vs->cC G (a++b) (us++vs)
 | [],_,[],_,_,k=>k
 | _::_,_,_::_,_,h,k=>⟨h.1,cC.append h.2 k⟩
 | [],_,_::_,_,h,_=>h.elim
 | _::_,_,[],_,h,_=>h.elim
theorem cC.split{G:Value->List El×Int->Prop}:∀ {a b:List (List El×Int)} {us:List Value},cC G (a++b) us->∃ u v,us=u++v/\cC G a u/\cC G b v
 | [],_,us,h=>⟨[],us,rfl,trivial,h⟩
 | _::_,_,y::_,h=>by
  obtain⟨u,v,rfl,hu,hv⟩:=cC.split h.2;exact⟨y::u,v,rfl,⟨h.1,hu⟩,hv⟩
 | _::_,_,[],h=>h.elim
theorem cC.one{G:Value->List El×Int->Prop}{t:List El×Int}{us:List Value}(h:cC G [t] us):∃ u,us=[u]/\G u t:=by
 match us,h with
 | [u],h=>exact⟨u,rfl,h.1⟩
theorem cC.two{G:Value->List El×Int->Prop}{s t:List El×Int}{us:List Value}(h:cC G [s,t] us):∃ u v,us=[u,v]/\G u s/\G v t:=by
 match us,h with
 | [u,v],h=>exact⟨u,v,rfl,h.1,h.2.1⟩
def fe(G:Value->List El×Int->Prop)(base:Nat)(w w':World)(e:Ending)(st:List (List El×Int))(x:El):Prop:=
 ∃ v' vals' st',e=.returned v'/\w'.ownsRow base 51 1 v' vals'.length vals'/\dU st x st'/\cC G st' vals'/\Below base w w'
theorem dA{G:Value->List El×Int->Prop}{base:Nat}{w W w':World}{v' v0:Value}{n:Nat}{xs:List Value}{u:Value}{st st':List (List El×Int)}{x:El}(hW:Below base w W)(hB:base<=W.heap.size)(h0:W.ownsRow base 51 1 v0 n xs)
  (hg:W.grownBy w' v0.ownBlock)(h1:w'.ownsRow base 51 1 v' (n+1) (xs++[u]))(hp:dU st x st')(hn:cC G st' (xs++[u])):fe G base w w' (.returned v') st x:=by
 have hl:=h1.1;rw[Nat.mul_one]at hl;refine⟨v',xs++[u],st',rfl,by rw[hl];exact h1,hp,hn,hW.grown hg hB (fun k hk=>?_)⟩;exact(h0.lt k hk).1
theorem qV{G:Value->List El×Int->Prop}(hG:jI G)(base:Nat)(w:World)(hown:w.ownsRow base 51 1 (.slice none 0 0) 0 [])(hbase:base<=w.heap.size)(a:Option Addr)(cp:Nat) :
  Calls prog 77 #[.slice none 0 0,.agg #[.int .i64 0,.slice a 0 cp,.int .i64 0,.int .i64 0]] w fun e w'=>fe G base w w' e [] ⟨0,[],0,0⟩:=by
 obtain⟨i0,hi,d,f,g⟩:=info_parts Tryz.info51;have b:=ae hown;clear hown
 go_enter func77,ntmps77
 go_wp2_with (first|(go_at_call 76;refine(oc _ 0 rfl _).mono ?_;rintro e w1 ⟨rfl,h⟩;subst h)|(at_builtin;refine wpList_append_own _ rfl _ _ 139 rfl base 51 i0 .nilIface 1 16 underlying139 hi d f g rfl (by decide) _ _ _ rfl ((b.u.alloc _).alloc _) ⟨w.heap.size+1,0,none⟩ 1 1 [.iface 178 (.agg #[])] rfl rfl ?c1 ?c2 ?c3 ?c4 ?c5 ?_))
 case c1=>exact dq (by simp)
 case c2=>intro u hu;simp at hu;subst hu;rfl
 case c3=>unfold maxLen;simp
 case c4=>simp
 case c5=>simp only[ah];omega
 intro v' w' h1 hg _;have c:=ae (dA ((aI w _ _).mono hbase) (by simp only[ah];omega) ((b.u.alloc _).alloc _) hg h1 (st:=[]) (x:=⟨0,[],0,0⟩) (Or.inl ⟨Or.inl rfl,rfl⟩) ⟨hG.e,trivial⟩);clear hg h1;go_wp2;go_ret;exact c.u
theorem Bp{G:Value->List El×Int->Prop}(hG:jI G)(base:Nat)(g cap:Nat)(vals:List Value)(st:List (List El×Int))(w:World)(hown:w.ownsRow base 51 1 (.slice (some ⟨g,0,none⟩) vals.length cap) vals.length vals)(hst:cC G st vals)(hbase:base<=w.heap.size)(hlen:vals.length<=3000)(hnc:vals.length<=cap)(a:Option Addr)(cp:Nat) :
  Calls prog 77 #[.slice (some ⟨g,0,none⟩) vals.length cap,.agg #[.int .i64 0,.slice a 0 cp,.int .i64 0,.int .i64 0]] w fun e w'=>fe G base w w' e st ⟨0,[],0,0⟩:=by
 obtain⟨i0,hi,d,f,h⟩:=info_parts Tryz.info51;have b:=ae hown;clear hown;have j:(vals.length:Int)<=(cap:Int):=by omega
 go_enter func77,ntmps77
 go_wp2_with (first|(go_at_call 76;refine(oc _ 0 rfl _).mono ?_;rintro e w1 ⟨rfl,i⟩;subst i)|(at_builtin;refine wpList_append_own _ rfl _ _ 139 rfl base 51 i0 .nilIface 1 16 underlying139 hi d f h rfl (by decide) _ _ _ rfl ((b.u.alloc _).alloc _) ⟨w.heap.size+1,0,none⟩ 1 1 [.iface 178 (.agg #[])] rfl rfl ?_ ?_ ?_ ?_ ?_ ?_))
 ·exact dq (by simp)
 ·intro u hu;simp at hu;subst hu;rfl
 ·unfold maxLen;omega
 ·omega
 ·simp only[ah];omega
 all_goals
  intro v' w' h1 hg _;have c:=ae (dA (v0:=.slice (some ⟨g,0,none⟩) vals.length cap) (x:=⟨0,[],0,0⟩) ((aI w _ _).mono hbase) (by simp only[ah];omega) ((b.u.alloc _).alloc _) hg h1 (Or.inl ⟨Or.inl rfl,rfl⟩) (hst.append ⟨hG.e,trivial⟩));clear hg h1;go_wp2;go_ret;exact c.u
theorem rG{G:Value->List El×Int->Prop}(hG:jI G)(base:Nat)(sv:Value)(xs:List Int)(w:World)(hown:w.ownsRow base 51 1 (.slice none 0 0) 0 [])(hbase:base<=w.heap.size)(hv:aR 0 w.heap.size w sv xs)(hcn:cZ xs) :
  Calls prog 77 #[.slice none 0 0,.agg #[.int .i64 1,sv,.int .i64 0,.int .i64 0]] w fun e w'=>fe G base w w' e [] ⟨1,xs,0,0⟩:=by
 obtain⟨i0,hi,h,i,j⟩:=info_parts Tryz.info51;obtain⟨a,cp,rfl,-,-,-⟩:=id hv;have c:=ae hown;have Hv:=ae hv;clear hown hv
 go_enter func77,ntmps77
 go_wp2_with (first|(go_at_call 76;refine(oc _ 0 rfl _).mono ?_;rintro e w1 ⟨rfl,k⟩;subst k));refine(uZ _ xs _ (by exact Hv.u.below (ai w _) lR) hcn).mono ?_;rintro e w1 ⟨q,rfl,d,f⟩;unfold gb;have l:=ae d;clear d;have hB:Below w.heap.size w w1:=(ai w _).trans (f.mono (by rw[ah];omega));have b:=ae (kS c.u hB lR);have m:=hB.size;clear f
 go_wp2_with (at_builtin;refine wpList_append_own _ rfl _ _ 139 rfl base 51 i0 .nilIface 1 16 underlying139 hi h i j rfl (by decide) _ _ _ rfl (b.u.alloc _) ⟨w1.heap.size,0,none⟩ 1 1 [.iface 91 (.agg #[.int .u64 (q 0:Nat),.int .u64 (q 1:Nat),.int .u64 (q 2:Nat),.int .u64 (q 3:Nat)])] rfl rfl ?_ ?_ ?_ ?_ ?_ ?_)
 ·exact dq (by simp)
 ·intro u hu;simp at hu;subst hu;rfl
 ·unfold maxLen;simp
 ·simp
 ·simp only[ah];omega
 all_goals
  intro v' w' h1 hg _;have g:=ae (dA (v0:=.slice none 0 0) (st:=[]) (x:=⟨1,xs,0,0⟩) (((hB.mono hbase)).alloc (by omega) _) (by simp only[ah];omega) (b.u.alloc _) hg h1 (Or.inl ⟨Or.inr rfl,rfl⟩) ⟨hG.s hcn l.u,trivial⟩);clear hg h1;go_wp2;go_ret;exact g.u
theorem Cd{G:Value->List El×Int->Prop}(hG:jI G)(base:Nat)(g cap:Nat)(vals:List Value)(st:List (List El×Int))(sv:Value)(xs:List Int)(w:World)(hown:w.ownsRow base 51 1 (.slice (some ⟨g,0,none⟩) vals.length cap) vals.length vals)(hst:cC G st vals)(hbase:base<=w.heap.size)(hlen:vals.length<=3000)(i:vals.length<=cap)(hcm:cap<=maxLen)(hv:aR 0 w.heap.size w sv xs)(hcn:cZ xs) :
  Calls prog 77 #[.slice (some ⟨g,0,none⟩) vals.length cap,.agg #[.int .i64 1,sv,.int .i64 0,.int .i64 0]] w fun e w'=>fe G base w w' e st ⟨1,xs,0,0⟩:=by
 obtain⟨i0,hi,j,k,l⟩:=info_parts Tryz.info51;obtain⟨a,cp,rfl,-,-,-⟩:=id hv;have c:=ae hown;have Hv:=ae hv;clear hown hv;unfold maxLen at hcm;rcases Nat.lt_or_eq_of_le i with hlt|rfl
 all_goals
  go_enter func77,ntmps77
  go_wp2_with (first|(go_at_call 76;refine(oc _ 0 rfl _).mono ?_;rintro e w1 ⟨rfl,m⟩;subst m));refine(uZ _ xs _ (by exact Hv.u.below (ai w _) lR) hcn).mono ?_;rintro e w1 ⟨q,rfl,d,f⟩;unfold gb;have n:=ae d;clear d;have hB:Below w.heap.size w w1:=(ai w _).trans (f.mono (by rw[ah];omega));have b:=ae (kS c.u hB lR);have o:=hB.size;clear f
  go_wp2_with (at_builtin;refine wpList_append_own _ rfl _ _ 139 rfl base 51 i0 .nilIface 1 16 underlying139 hi j k l rfl (by decide) _ _ _ rfl (b.u.alloc _) ⟨w1.heap.size,0,none⟩ 1 1 [.iface 91 (.agg #[.int .u64 (q 0:Nat),.int .u64 (q 1:Nat),.int .u64 (q 2:Nat),.int .u64 (q 3:Nat)])] rfl rfl ?_ ?_ ?_ ?_ ?_ ?_)
  ·exact dq (by simp)
  ·intro u hu;simp at hu;subst hu;rfl
  ·unfold maxLen;omega
  ·omega
  ·simp only[ah];omega
  intro v' w' h1 hg _;have h:=ae (dA (v0:=_) (x:=⟨1,xs,0,0⟩) (((hB.mono hbase)).alloc (by omega) _) (by simp only[ah];omega) (b.u.alloc _) hg h1 (Or.inl ⟨Or.inr rfl,rfl⟩) (hst.append ⟨hG.s hcn n.u,trivial⟩));clear hg h1;go_wp2;go_ret;exact h.u
theorem wS{G:Value->List El×Int->Prop}(hG:jI G)(base:Nat)(g cap:Nat)(vals:List Value)(T:TypeId)(y:Value)(st:List (List El×Int))(o:List El×Int)(mn mx:Int)(w:World)
  (hown:w.ownsRow base 51 1 (.slice (some ⟨g,0,none⟩) (vals.length+1) cap) (vals.length+1) (vals++[.iface T y]))(hst:cC G st vals)(ho:G (.iface T y) o)(o2:0<=mn)(o3:mn<=250)(o4:mx = -1∨(mn<=mx/\mx<=250))(hbase:base<=w.heap.size)(hlen:vals.length+1<=3000)(hnc:vals.length+1<=cap)(a:Option Addr)(cp:Nat) :
  Calls prog 77 #[.slice (some ⟨g,0,none⟩) (vals.length+1) cap,.agg #[.int .i64 4,.slice a 0 cp,.int .i64 mn,.int .i64 mx]] w fun e w'=>fe G base w w' e (st++[o]) ⟨4,[],mn,mx⟩:=by
 obtain⟨i0,hi,d,f,h⟩:=info_parts Tryz.info51;have l:g<w.heap.size:=(hown.lt g rfl).2;have i:w.cell? ⟨g,vals.length,none⟩=some (.iface T y):=by rw[hown.cellAt vals.length (by omega)];simp
 have b:=ae (ownsRow_pop (by omega) hown);clear hown;have k:(vals.length:Int)+1<=(cap:Int):=by omega
 go_enter func77,ntmps77
 go_wp2_with (first|(go_at_call 76;refine(oc _ 1 rfl _).mono ?_;rintro e w1 ⟨rfl,j⟩;subst j))
 go_quiet (fail)
 go_wp2_with (at_builtin;refine wpList_append_own _ rfl _ _ 139 rfl base 51 i0 .nilIface 1 16 underlying139 hi d f h rfl (by decide) _ _ _ rfl ((gt (b.u.alloc _)).alloc _) ⟨w.heap.size+1,0,none⟩ 1 1 [.iface 93 (.agg #[.iface T y,.int .i64 mn,.int .i64 mx])] rfl rfl ?_ ?_ ?_ ?_ ?_ ?_)
 ·refine dq ?_;rw[World.cell?_alloc_at _ _ _ _ (by rw[cQ,ah])]
  rfl
 ·intro u hu;simp at hu;subst hu;rfl
 ·unfold maxLen;omega
 ·omega
 ·simp only[ah,cQ];omega
 intro v' w' h1 hg _;have c:=ae (dA (st:=st++[o]) (x:=⟨4,[],mn,mx⟩) ((below_drewN ((ai w _).mono hbase) nq).alloc (by simp only[ah,cQ];omega) _) (by simp only[ah,cQ];omega) ((gt (b.u.alloc _)).alloc _) hg h1 (Or.inr (Or.inr ⟨rfl,st,o,rfl,rfl⟩)) (hst.append ⟨hG.rep ho o2 o3 o4,trivial⟩));clear hg h1;go_wp2;go_ret;exact c.u
theorem vW{G:Value->List El×Int->Prop}(hG:jI G)(base:Nat)(g cap:Nat)(vals:List Value)(T T':TypeId)(y y':Value)(st:List (List El×Int))(l r:List El×Int)(w:World)
  (hown:w.ownsRow base 51 1 (.slice (some ⟨g,0,none⟩) (vals.length+2) cap) (vals.length+2) (vals++[.iface T y,.iface T' y']))(hst:cC G st vals)(hl:G (.iface T y) l)(hr:G (.iface T' y') r)(hbase:base<=w.heap.size)(hlen:vals.length+2<=3000)(hnc:vals.length+2<=cap)(a:Option Addr)(cp:Nat) :
  Calls prog 77 #[.slice (some ⟨g,0,none⟩) (vals.length+2) cap,.agg #[.int .i64 2,.slice a 0 cp,.int .i64 0,.int .i64 0]] w fun e w'=>fe G base w w' e (st++[l,r]) ⟨2,[],0,0⟩:=by
 obtain⟨i0,hi,h,i,j⟩:=info_parts Tryz.info51;have p:g<w.heap.size:=(hown.lt g rfl).2;have k:w.cell? ⟨g,vals.length,none⟩=some (.iface T y):=by rw[hown.cellAt vals.length (by omega)];simp
 have f:w.cell? ⟨g,vals.length+1,none⟩=some (.iface T' y'):=by rw[hown.cellAt (vals.length+1) (by omega)];simp
 have b:w.ownsRow base 51 1 (.slice (some ⟨g,0,none⟩) (vals.length+1) cap) (vals.length+1) (vals++[.iface T y]):=ownsRow_pop (n:=vals.length+1) (last:=[.iface T' y']) (by simp) (by rw[List.append_assoc];exact hown);have c:=ae (ownsRow_pop (by omega) b);clear hown b;have o:(vals.length:Int)+2<=(cap:Int):=by omega
 go_enter func77,ntmps77
 go_wp2_with (first|(go_at_call 76;refine(oc _ 2 rfl _).mono ?_;rintro e w1 ⟨rfl,m⟩;subst m))
 go_quiet (fail)
 go_wp2_with (at_builtin;refine wpList_append_own _ rfl _ _ 139 rfl base 51 i0 .nilIface 1 16 underlying139 hi h i j rfl (by decide) _ _ _ rfl ((gt (c.u.alloc _)).alloc _) ⟨w.heap.size+1,0,none⟩ 1 1 [.iface 95 (.agg #[.iface T y,.iface T' y'])] rfl rfl ?_ ?_ ?_ ?_ ?_ ?_)
 ·refine dq ?_;rw[World.cell?_alloc_at _ _ _ _ (by rw[cQ,ah])]
  rfl
 ·intro u hu;simp at hu;subst hu;rfl
 ·unfold maxLen;omega
 ·omega
 ·simp only[ah,cQ];omega
 intro v' w' h1 hg _;have d:=ae (dA (st:=st++[l,r]) (x:=⟨2,[],0,0⟩) ((below_drewN ((ai w _).mono hbase) nq).alloc (by simp only[ah,cQ];omega) _) (by simp only[ah,cQ];omega) ((gt (c.u.alloc _)).alloc _) hg h1 (Or.inr (Or.inl ⟨Or.inl rfl,st,l,r,rfl,rfl⟩)) (hst.append ⟨hG.cat hl hr,trivial⟩));clear hg h1;go_wp2;go_ret;exact d.u
theorem wn{G:Value->List El×Int->Prop}(hG:jI G)(base:Nat)(g cap:Nat)(vals:List Value)(T T':TypeId)(y y':Value)(st:List (List El×Int))(l r:List El×Int)(w:World)
  (hown:w.ownsRow base 51 1 (.slice (some ⟨g,0,none⟩) (vals.length+2) cap) (vals.length+2) (vals++[.iface T y,.iface T' y']))(hst:cC G st vals)(hl:G (.iface T y) l)(hr:G (.iface T' y') r)(hbase:base<=w.heap.size)(hlen:vals.length+2<=3000)(hnc:vals.length+2<=cap)(a:Option Addr)(cp:Nat) :
  Calls prog 77 #[.slice (some ⟨g,0,none⟩) (vals.length+2) cap,.agg #[.int .i64 3,.slice a 0 cp,.int .i64 0,.int .i64 0]] w fun e w'=>fe G base w w' e (st++[l,r]) ⟨3,[],0,0⟩:=by
 obtain⟨i0,hi,h,i,j⟩:=info_parts Tryz.info51;have p:g<w.heap.size:=(hown.lt g rfl).2;have k:w.cell? ⟨g,vals.length,none⟩=some (.iface T y):=by rw[hown.cellAt vals.length (by omega)];simp
 have f:w.cell? ⟨g,vals.length+1,none⟩=some (.iface T' y'):=by rw[hown.cellAt (vals.length+1) (by omega)];simp
 have b:w.ownsRow base 51 1 (.slice (some ⟨g,0,none⟩) (vals.length+1) cap) (vals.length+1) (vals++[.iface T y]):=ownsRow_pop (n:=vals.length+1) (last:=[.iface T' y']) (by simp) (by rw[List.append_assoc];exact hown);have c:=ae (ownsRow_pop (by omega) b);clear hown b;have o:(vals.length:Int)+2<=(cap:Int):=by omega
 go_enter func77,ntmps77
 go_wp2_with (first|(go_at_call 76;refine(oc _ 2 rfl _).mono ?_;rintro e w1 ⟨rfl,m⟩;subst m))
 go_quiet (fail)
 go_wp2_with (at_builtin;refine wpList_append_own _ rfl _ _ 139 rfl base 51 i0 .nilIface 1 16 underlying139 hi h i j rfl (by decide) _ _ _ rfl ((gt (c.u.alloc _)).alloc _) ⟨w.heap.size+1,0,none⟩ 1 1 [.iface 142 (.agg #[.iface T y,.iface T' y'])] rfl rfl ?_ ?_ ?_ ?_ ?_ ?_)
 ·refine dq ?_;rw[World.cell?_alloc_at _ _ _ _ (by rw[cQ,ah])]
  rfl
 ·intro u hu;simp at hu;subst hu;rfl
 ·unfold maxLen;omega
 ·omega
 ·simp only[ah,cQ];omega
 intro v' w' h1 hg _;have d:=ae (dA (st:=st++[l,r]) (x:=⟨3,[],0,0⟩) ((below_drewN ((ai w _).mono hbase) nq).alloc (by simp only[ah,cQ];omega) _) (by simp only[ah,cQ];omega) ((gt (c.u.alloc _)).alloc _) hg h1 (Or.inr (Or.inl ⟨Or.inr rfl,st,l,r,rfl,rfl⟩)) (hst.append ⟨hG.alt hl hr,trivial⟩));clear hg h1;go_wp2;go_ret;exact d.u
def tk(X:List El)(m j:Nat):List (List El):=List.replicate (min j m) X++List.replicate (j-m) (qx X)
theorem Et{X:List El}{m j:Nat}(h:j<m):tk X m (j+1)=tk X m j++[X]:=by
 unfold tk;rw[show min (j+1) m=j+1 by omega,show j+1-m=0 by omega,show min j m=j by omega,show j-m=0 by omega,List.replicate_succ'];simp
theorem EN{X:List El}{m j:Nat}(h:m<=j):tk X m (j+1)=tk X m j++[qx X]:=by
 unfold tk;rw[show min (j+1) m=m by omega,show j+1-m=(j-m)+1 by omega,show min j m=m by omega,List.replicate_succ',List.append_assoc]
theorem Db{X:List El}{m M:Nat}(h:m<=M):tk X m M=bJ X m M:=by
 unfold tk bJ;rw[if_neg (by omega),show min M m=m by omega,show((m:Int)).toNat=m by omega,show((M:Int)-(m:Int)).toNat=M-m by omega]
theorem CQ{X:List El}{m j:Nat}{p:List El}(h:p∈tk X m j):p=X∨p=qx X:=by
 unfold tk at h;rcases List.mem_append.1 h with h|h
 ·exact Or.inl (List.mem_replicate.1 h).2
 exact Or.inr (List.mem_replicate.1 h).2
theorem DG(X:List El)(m j:Nat):(tk X m j).length=j:=by unfold tk;simp;omega
theorem oR{X:List El}(h:aY X):aY (qx X):=(h.app (aY.op 0 0 0 (by simp[az]) (by simp[az]) (by simp[az]))).app (aY.op 3 0 0 (by simp[az]) (by simp[az]) (by simp[az]))
theorem wZ(m M:Nat)(x X:List El)(cx:Int)(sx:ba x cx)(Hx:vV x X)(o2:m<=M)(o3:M<=250)(o4:0<M)(nx:aY X)(lx:X.length<=3000):vV (x++[⟨4,[],m,M⟩]) (jn (bJ X m M)):=by
 intro v w hv a8;obtain⟨a,cp,rfl,-,-⟩:=id hv;obtain⟨f,z,b,off,rfl,bo,a9⟩:=hv.last;rw[f]at hv z ⊢;simp only[List.length_append,List.length_singleton]at hv a8 f a9 z ⊢;unfold maxLen at z;obtain⟨i1,i2,i3,sv,c0,c1,c2,c3,A⟩:=a9;obtain⟨sa,sc,rfl,-,-,-⟩:=id A;simp only at c0 c2 c3;clear f i1 i2 i3 A;have pl:=sx.ne;have aa:aA 0 w.heap.size w (.slice (some ⟨b,off,none⟩) x.length cp) x:=hv.pre;have b1:=ae aa;have NX:=ae nx;have bp:((M:Int)==0)=false:=by simp;omega
 have bq:((M:Int) == -1)=false:=by rw[beq_eq_false_iff_ne];omega
 clear aa hv nx
 go_enter func104,ntmps104
 go_wp2_with fail;refine(Hx _ _ (by exact b1.u.below (ai w _) lR) (by omega)).mono ?_;rintro e w1 ⟨v1,rfl,S,H⟩;obtain⟨o1,d1,rfl⟩:=S.form;have b2:Below w.heap.size w w1:=(ai w _).trans (H.mono (by rw[ah];omega));have b3:=H.size;rw[ah]at b3;have RA:=ae ((aC.new w 65 (.int .i64 4) (.slice sa 0 sc) (.int .i64 (m:Int)) (.int .i64 (M:Int))).below H (by rw[ah];omega));have T:=S.foot;rw[ah]at T;have HX:=ae T;obtain⟨q0,q1,q2,q3,-⟩:=aC.facts RA.u;clear H S T;go_wp2
 go_loopw [9,12] (fun pv i wr=>∃ (j:Nat) (ps:List Pt),i=.int .i64 (j:Int)/\j<=M/\ps.map Pt.P=tk X m j/\jp w1.heap.size wr pv ps/\Below w1.heap.size w1 wr) (fun _ i _=>M-(intOf i).toNat)
 case atStart=>exact⟨0,[],rfl,Nat.zero_le _,by simp[tk],jp.nil _ _,Below.refl _ _⟩
 obtain⟨j,ps,rfl,hj,U,V,l⟩:=hrel;clear q0 q1 q2 q3;obtain⟨q0,q1,q2,q3,-⟩:=aC.facts (RA.u.below l (by omega));have W:=l.size;have s:=ae V;have I:=ae U;have b4:ps.length=j:=by rw[<-DG X m j,<-U,List.length_map]
 have Y:=ae (HX.u.same (w':=wr) (fun k hk=>l.block k hk.2));have Z:Hi (∀ k,li (w.heap.size+1) w1.heap.size k->k<wr.heap.size):=fun k hk=>Nat.lt_of_lt_of_le hk.2 W
 have Q:Hi (∀ k,li (w.heap.size+1) w1.heap.size k->∀ (u:Value) (n:Nat) (vs:List Value),wr.ownsRow w1.heap.size 23 1 u n vs->u.ownBlock≠some k):=fun k hk u n vs h e=>by
  have:=(h.lt k e).1;unfold li at hk;omega
 have ab:=ae (Y.u.at (fun k hk=>Z.u k hk) NX.u.num);obtain⟨pa,pc,rfl⟩:=aj V.own;clear V U;subst b4
 by_cases hlt:ps.length<M
 ·have ad:(ps.length:Int)<(M:Int):=by omega
  by_cases hm:ps.length<m
  ·have b5:(ps.length:Int)<(m:Int):=by omega
   go_wp2_with (at_builtin;refine ig ⟨X,.slice o1 X.length d1,li (w.heap.size+1) w1.heap.size⟩ rfl _ _ rfl rfl rfl s.u W (Below.refl _ _) Y.u (fun k hk=>⟨Z.u k hk,Q.u k hk _ _ _ s.u.own⟩) ⟨rfl,rfl,rfl,rfl⟩ (by omega) ?_)
   intro v2 w2 t o;have b6:=ae t;clear t;go_wp2
   go_roundw
   case rel=>exact⟨ps.length+1,_,by go_num,by omega,by rw[List.map_append,I.u,Et hm];rfl,b6.u,l.trans o⟩
   simp[intOf];omega
  have b5:¬ (ps.length:Int)<(m:Int):=by omega
  go_wp2_with fail;refine(kW _).mono ?_;rintro e w2 ⟨v2,rfl,t,o⟩;obtain⟨p2,d2,rfl⟩:=t.form;have af:=ae (t.els (aY.op 0 0 0 (by simp[az]) (by simp[az]) (by simp[az])));have R:=ae (ab.u.below o lR);clear t
  go_wp2_with fail;refine(uw _ _ X [⟨0,[],0,0⟩] _ R.u af.u (by omega) (by simp) NX.u.len (aY.op 0 0 0 (by simp[az]) (by simp[az]) (by simp[az])).len).mono ?_;rintro e w4 ⟨v4,rfl,d,K⟩;obtain⟨p4,d4,rfl⟩ : ∃ a c,v4=.slice a (X.length+1+1) c:=by have:=d.form;rwa [List.length_append,List.length_append]at this
  have b7:=ae (d.base o.size).foot;have ag:Below wr.heap.size wr w4:=o.trans (K.mono o.size);clear d K o R af
  go_wp2_with (at_builtin;refine ig ⟨qx X,.slice p4 (X.length+1+1) d4,li wr.heap.size w4.heap.size⟩ rfl _ _ rfl rfl rfl s.u W ag b7.u (fun k hk=>⟨hk.2,fun e=>by have:=(s.u.own.lt k e).2;unfold li at hk;omega⟩) ⟨rfl,rfl,rfl,rfl⟩ (by omega) ?_)
  intro v5 w5 y a0;have L:=ae y;clear y;go_wp2
  go_roundw
  case rel=>exact⟨ps.length+1,_,by go_num,by omega,by rw[List.map_append,I.u,EN (by omega)];rfl,L.u,l.trans a0⟩
  simp[intOf];omega
 have ad:¬ (ps.length:Int)<(M:Int):=by omega
 have b8:Hi (jn (ps.map Pt.P)=jn (bJ X m M)):=by
  show jn (ps.map Pt.P)=jn (bJ X m M);rw[I.u,show ps.length=M by omega,Db o2]
 have br:ps.length<=251:=by omega
 have al:Hi (∀ p∈ps,aY p.P/\p.P.length<=3002):=fun p hp=>by
  have h1:p.P∈tk X m ps.length:=by rw[<-I.u];exact List.mem_map_of_mem hp
  rcases CQ h1 with e|e
  ·rw[e];exact⟨NX.u,by omega⟩
  rw[e];exact⟨oR NX.u,by unfold qx;rw[List.length_append,List.length_append];simp;omega⟩
 obtain⟨w3,B⟩ : ∃ w3,w3=wr:=⟨_,rfl⟩;have a1:Hi (jp w1.heap.size w3 (.slice pa ps.length pc) ps):=by rw[B];exact s.u
 have an:Below w1.heap.size w1 w3:=by rw[B];exact l
 have hB:Below w.heap.size w w3:=b2.trans (an.mono (by omega));have bs:=an.size;rw[<-B];rw[<-B]at q0 q1 q2 q3;clear B l s Y Z Q ab;go_wp2
 go_loopw [13,14] (fun ov i wl=>∃ k:Nat,k<=ps.length/\i=.int .i64 k/\aP w3.heap.size wl ov (jn ((ps.take k).map Pt.P))/\Below w3.heap.size w3 wl) (fun _ i _=>ps.length-(intOf i).toNat)
 case atStart=>exact⟨0,Nat.zero_le _,rfl,aP.nil _ _,Below.refl _ _⟩
 obtain⟨k,hk,rfl,C,D⟩:=hrel;have ao:=D.size
 by_cases hlt2:k<ps.length
 ·have r:=List.getElem_mem hlt2;have hE:=a1.u.els _ r;have a2:=a1.u.blk _ r;have O:=al.u _ r;have a3:=ae ((hE.same (w':=wr) (fun k hk=>D.block k (a2 k hk).1)).at (N:=wr.heap.size) (fun k hk=>Nat.lt_of_lt_of_le (a2 k hk).1 ao) O.1.num);obtain⟨g,cap,ev,E⟩:=iM (aG a1.u.own D lR) (by omega);simp only[Value.slice.injEq,true_and]at ev;obtain⟨rfl,rfl⟩:=ev;have hx:=E k hlt2;rw[List.getElem?_map,List.getElem?_eq_getElem hlt2,Option.map_some]at hx;have F:=ae (qg hlt2);obtain⟨sa2,sc2,a4,-⟩:=hE;have bt:=ae a4;rw[a4]at hx a3;have ap:=ae O.1;have bf:=O.2;clear E a2 r O a4;generalize (ps[k]).P=P at *;have bl:(k:Int)<(ps.length:Int):=by omega
  obtain⟨qa,qc,rfl⟩:=C.form;obtain⟨os,a5,aq⟩:=C;have bv:os.length=(jn ((ps.take k).map Pt.P)).length:=by rw[<-a5,List.length_map]
  have ar:=tO ((ps.take k).map Pt.P) (fun p hp=>by obtain⟨q,hq,rfl⟩:=List.mem_map.1 hp;exact(al.u q (List.mem_of_mem_take hq)).2);rw[List.length_map,List.length_take]at ar;have bn:os.length<=800000:=by omega
  have av:=ae a5;have b9:=ae aq;clear a5 aq ar;have bb:Hi (k=0->jn ((ps.take k).map Pt.P)=[]):=fun e=>by subst e;rfl
  generalize jn ((ps.take k).map Pt.P)=J at *
  go_wp2_with fail;refine(eH _ P _ a3.u (by omega) ap.u.len).mono ?_;rintro e w4 ⟨v4,rfl,d,K⟩;obtain⟨qb,qd,rfl⟩:=d.form;obtain⟨us,a6,d⟩:=d;have bx:us.length=P.length:=by rw[<-a6,List.length_map]
  have aw:=ae a6;have ax:=ae d;clear a6 d hx a3
  go_wp2_with (at_builtin;refine mw rfl _ _ rfl rfl rfl b9.u ao K ax.u (fun p hp=>Pc.one (ax.u.set p hp)) (by omega) (by omega) ?_)
  intro v5 w5 y a0;obtain⟨qe,qf,rfl⟩:=aj y.own;have a7:Below w3.heap.size w3 w5:=D.trans a0;have bc:=a7.size;have L:=ae y;clear y
  by_cases hk0:k=0
  ·subst hk0;have G:Hi (aP w3.heap.size w5 (.slice qe (os++us).length qf) (jn ((ps.take (0+1)).map Pt.P))):=⟨_,by rw[F.u,if_pos rfl,List.map_append,av.u,aw.u,bb.u rfl];rfl,L.u⟩;go_wp2;exact⟨⟨1,by omega,rfl,G.u,a7⟩,by simp[intOf];omega⟩
  have bz:(0:Int)<(k:Int):=by omega
  go_wp2_with (at_builtin;refine js ⟨2,[],0,0⟩ (.slice none 0 0) (fun _=>False) rfl _ _ rfl rfl rfl L.u bc (Below.refl _ _) (ir.none _) (fun k hk=>hk.elim) rfl ⟨rfl,rfl,rfl,rfl⟩ (by rw[List.length_append];omega) ?_)
  intro v6 w6 b0 bd;have G:Hi (aP w3.heap.size w6 v6 (jn ((ps.take (k+1)).map Pt.P))):=⟨_,by rw[F.u,if_neg hk0];simp[av.u,aw.u,lJ],b0⟩;clear b0;go_wp2;exact⟨⟨k+1,by omega,by go_num,G.u,a7.trans bd⟩,by simp[intOf];omega⟩
 obtain rfl:k=ps.length:=by omega
 rw[List.take_length,b8.u]at C;have be:=ae (C.base hB.size);clear C;go_wp2;go_ret;exact⟨_,rfl,be.u,hB.trans (D.mono hB.size)⟩
theorem qO(N D lo:Nat)(xs:List Int)(w:World)(h:bR N D w xs)(hx:dN xs)(hD:D<lo)(hlo:lo<=w.heap.size)(hk:xs.headD 0%24<16) :
  Calls prog 99 #[.pointer (some ⟨D,0,none⟩)] w (AM N D lo w (bU xs)):=by
 have H:=ae h;have HX:=ae hx;have hh:=hx.head;obtain⟨y2,b⟩ : ∃ y,xs.tail.headD 0=y:=⟨_,rfl⟩;have HR:Hi (bU xs=([dB y2,dB y2],xs.tail.tail)):=by rw[<-b];exact if_pos hk
 rw[HR.u];obtain⟨y,hy⟩ : ∃ y,xs.headD 0=y:=⟨_,rfl⟩;rw[hy]at hh hk;have HY:=ae hy;have i:=ae b;have hb:=iU (y:=y2);clear hy hx h b HR
 go_enter func99,ntmps99
 go_wp2_with fail;refine(aE N D xs w H.u HX.u).mono ?_;rintro e w1 ⟨he,j,f⟩;rw[HY.u]at he;subst he
 go_wp2_with fail;refine(dP N D xs.tail w1 j HX.u.tail).mono ?_;rintro e w2 ⟨he,k,g⟩;rw[i.u]at he;subst he
 go_wp2_with fail;refine(eo (dB y2) w2 (eB hb.1 hb.2)).mono ?_;rintro e w3 ⟨v,rfl,hv,d⟩;have HV:=ae hv;obtain⟨a,c,rfl,-⟩:=hv;have l:=d.size;go_wp2;go_ret;have m:w1.heap.size=w.heap.size:=f.size;have n:w2.heap.size=w1.heap.size:=g.size;exact⟨⟨_,rfl,HV.u.mono (by omega) lR⟩,k.keep d (by omega),(f.mv _).trans ((g.mv _).trans (eJ d D (by omega)))⟩
theorem oy(N D lo:Nat)(xs:List Int)(w:World)(h:bR N D w xs)(hx:dN xs)(hD:D<lo)(hlo:lo<=w.heap.size)(hk:xs.headD 0%24=16) :
  Calls prog 99 #[.pointer (some ⟨D,0,none⟩)] w (AM N D lo w (bU xs)):=by
 have H:=ae h;have HX:=ae hx;have hh:=hx.head;have HR:Hi (bU xs=([97,98],xs.tail)):=by
  show bU xs=_;unfold bU;rw[if_neg (by omega),if_pos hk]
 rw[HR.u];obtain⟨y,hy⟩ : ∃ y,xs.headD 0=y:=⟨_,rfl⟩;rw[hy]at hh hk;have HY:=ae hy;have n0:¬ y%24<16:=by omega
 clear hy hx h HR
 go_enter func99,ntmps99
 go_wp2_with fail;refine(aE N D xs w H.u HX.u).mono ?_;rintro e w1 ⟨he,d,c⟩;rw[HY.u]at he;subst he;go_wp2;go_ret;have f:w1.heap.size=w.heap.size:=c.size;exact⟨⟨_,rfl,(iC w1 (a:=97) (b:=98) (eB (by omega) (by omega)) (eB (by omega) (by omega))).mono (lo':=lo) (by omega) lR⟩,d.keep (ai w1 _) (by omega),(c.mv _).trans (eJ (ai w1 _) D (by omega))⟩
theorem oh(N D lo:Nat)(xs:List Int)(w:World)(h:bR N D w xs)(hx:dN xs)(hD:D<lo)(hlo:lo<=w.heap.size)(hk:xs.headD 0%24=17) :
  Calls prog 99 #[.pointer (some ⟨D,0,none⟩)] w (AM N D lo w (bU xs)):=by
 have H:=ae h;have HX:=ae hx;have hh:=hx.head;have HR:Hi (bU xs=([97,99],xs.tail)):=by
  show bU xs=_;unfold bU;rw[if_neg (by omega),if_neg (by omega),if_pos hk]
 rw[HR.u];obtain⟨y,hy⟩ : ∃ y,xs.headD 0=y:=⟨_,rfl⟩;rw[hy]at hh hk;have HY:=ae hy;have n0:¬ y%24<16:=by omega
 have n16:¬ y%24=16:=by omega
 clear hy hx h HR
 go_enter func99,ntmps99
 go_wp2_with fail;refine(aE N D xs w H.u HX.u).mono ?_;rintro e w1 ⟨he,d,c⟩;rw[HY.u]at he;subst he;go_wp2;go_ret;have f:w1.heap.size=w.heap.size:=c.size;exact⟨⟨_,rfl,(iC w1 (a:=97) (b:=99) (eB (by omega) (by omega)) (eB (by omega) (by omega))).mono (lo':=lo) (by omega) lR⟩,d.keep (ai w1 _) (by omega),(c.mv _).trans (eJ (ai w1 _) D (by omega))⟩
theorem nX(N D lo:Nat)(xs:List Int)(w:World)(h:bR N D w xs)(hx:dN xs)(hD:D<lo)(hlo:lo<=w.heap.size)(hk:xs.headD 0%24=18) :
  Calls prog 99 #[.pointer (some ⟨D,0,none⟩)] w (AM N D lo w (bU xs)):=by
 have H:=ae h;have HX:=ae hx;have hh:=hx.head;have HR:Hi (bU xs=([48,57],xs.tail)):=by
  show bU xs=_;unfold bU;rw[if_neg (by omega),if_neg (by omega),if_neg (by omega),if_pos hk]
 rw[HR.u];obtain⟨y,hy⟩ : ∃ y,xs.headD 0=y:=⟨_,rfl⟩;rw[hy]at hh hk;have HY:=ae hy;have n0:¬ y%24<16:=by omega
 have n16:¬ y%24=16:=by omega
 have n17:¬ y%24=17:=by omega
 clear hy hx h HR
 go_enter func99,ntmps99
 go_wp2_with fail;refine(aE N D xs w H.u HX.u).mono ?_;rintro e w1 ⟨he,d,c⟩;rw[HY.u]at he;subst he;go_wp2;go_ret;have f:w1.heap.size=w.heap.size:=c.size;exact⟨⟨_,rfl,(iC w1 (a:=48) (b:=57) (eB (by omega) (by omega)) (eB (by omega) (by omega))).mono (lo':=lo) (by omega) lR⟩,d.keep (ai w1 _) (by omega),(c.mv _).trans (eJ (ai w1 _) D (by omega))⟩
theorem oD(N D lo:Nat)(xs:List Int)(w:World)(h:bR N D w xs)(hx:dN xs)(hD:D<lo)(hlo:lo<=w.heap.size)(hk:xs.headD 0%24=19) :
  Calls prog 99 #[.pointer (some ⟨D,0,none⟩)] w (AM N D lo w (bU xs)):=by
 have H:=ae h;have HX:=ae hx;have hh:=hx.head;have HR:Hi (bU xs=([0,9,11,255],xs.tail)):=by
  show bU xs=_;unfold bU;rw[if_neg (by omega),if_neg (by omega),if_neg (by omega),if_neg (by omega),if_pos hk]
 rw[HR.u];obtain⟨y,hy⟩ : ∃ y,xs.headD 0=y:=⟨_,rfl⟩;rw[hy]at hh hk;have HY:=ae hy;have n0:¬ y%24<16:=by omega
 have n16:¬ y%24=16:=by omega
 have n17:¬ y%24=17:=by omega
 have n18:¬ y%24=18:=by omega
 clear hy hx h HR
 go_enter func99,ntmps99
 go_wp2_with fail;refine(aE N D xs w H.u HX.u).mono ?_;rintro e w1 ⟨he,f,b⟩;rw[HY.u]at he;subst he
 go_wp2_with fail;refine(Bn w1).mono ?_;rintro e w3 ⟨v,rfl,hv,d⟩;have HV:=ae hv;obtain⟨a,c,rfl,-⟩:=hv;go_wp2;go_ret;have g:w1.heap.size=w.heap.size:=b.size;exact⟨⟨_,rfl,HV.u.mono (by omega) lR⟩,f.keep d (by omega),(b.mv _).trans (eJ d D (by omega))⟩
theorem qm(N D lo:Nat)(xs:List Int)(w:World)(h:bR N D w xs)(hx:dN xs)(_hD:D<lo)(_hlo:lo<=w.heap.size)(hk:xs.headD 0%24=20)(hk2:xs.tail.headD 0%3=0) :
  Calls prog 99 #[.pointer (some ⟨D,0,none⟩)] w (AM N D lo w (bU xs)):=by
 have H:=ae h;have HX:=ae hx;have hh:=hx.head;have d:=hx.tail.head;have HR:Hi (bU xs=([],xs.tail.tail)):=by
  show bU xs=_;unfold bU;rw[if_neg (by omega),if_neg (by omega),if_neg (by omega),if_neg (by omega),if_neg (by omega),if_pos hk,if_pos hk2]
 rw[HR.u];obtain⟨y,hy⟩ : ∃ y,xs.headD 0=y:=⟨_,rfl⟩;obtain⟨y2,a⟩ : ∃ y,xs.tail.headD 0=y:=⟨_,rfl⟩;rw[hy]at hh hk;rw[a]at d hk2;have HY:=ae hy;have f:=ae a;have n0:¬ y%24<16:=by omega
 have n16:¬ y%24=16:=by omega
 have n17:¬ y%24=17:=by omega
 have n18:¬ y%24=18:=by omega
 have n19:¬ y%24=19:=by omega
 clear hy hx h HR a
 go_enter func99,ntmps99
 go_wp2_with fail;refine(aE N D xs w H.u HX.u).mono ?_;rintro e w1 ⟨he,g,b⟩;rw[HY.u]at he;subst he
 go_wp2_with fail;refine(aE N D xs.tail w1 g HX.u.tail).mono ?_;rintro e w2 ⟨he,j,c⟩;rw[f.u]at he;subst he;go_wp2;go_ret;have k:w1.heap.size=w.heap.size:=b.size;have l:w2.heap.size=w1.heap.size:=c.size;exact⟨⟨_,rfl,none,0,rfl,Nat.zero_le _,fun i=>by simp[az],fun h0=>absurd h0 (by simp)⟩,j,(b.mv _).trans (c.mv _)⟩
theorem qw(N D lo:Nat)(xs:List Int)(w:World)(h:bR N D w xs)(hx:dN xs)(hD:D<lo)(hlo:lo<=w.heap.size)(hk:xs.headD 0%24=20)(hk2:xs.tail.headD 0%3=1) :
  Calls prog 99 #[.pointer (some ⟨D,0,none⟩)] w (AM N D lo w (bU xs)):=by
 have H:=ae h;have HX:=ae hx;have hh:=hx.head;have i:=hx.tail.head;have HR:Hi (bU xs=([0,255],xs.tail.tail)):=by
  show bU xs=_;unfold bU;rw[if_neg (by omega),if_neg (by omega),if_neg (by omega),if_neg (by omega),if_neg (by omega),if_pos hk,if_neg (by omega),if_pos hk2]
 rw[HR.u];obtain⟨y,hy⟩ : ∃ y,xs.headD 0=y:=⟨_,rfl⟩;obtain⟨y2,b⟩ : ∃ y,xs.tail.headD 0=y:=⟨_,rfl⟩;rw[hy]at hh hk;rw[b]at i hk2;have HY:=ae hy;have j:=ae b;have n0:¬ y%24<16:=by omega
 have n16:¬ y%24=16:=by omega
 have n17:¬ y%24=17:=by omega
 have n18:¬ y%24=18:=by omega
 have n19:¬ y%24=19:=by omega
 clear hy hx h HR b
 go_enter func99,ntmps99
 go_wp2_with fail;refine(aE N D xs w H.u HX.u).mono ?_;rintro e w1 ⟨he,k,d⟩;rw[HY.u]at he;subst he
 go_wp2_with fail;refine(aE N D xs.tail w1 k HX.u.tail).mono ?_;rintro e w2 ⟨he,l,f⟩;rw[j.u]at he;subst he
 go_wp2_with fail;refine(pG w2).mono ?_;rintro e w3 ⟨v,rfl,hv,g⟩;have HV:=ae hv;obtain⟨a,c,rfl,-⟩:=hv;go_wp2;go_ret;have m:w1.heap.size=w.heap.size:=d.size;have n:w2.heap.size=w1.heap.size:=f.size;exact⟨⟨_,rfl,HV.u.mono (by omega) lR⟩,l.keep g (by omega),(d.mv _).trans ((f.mv _).trans (eJ g D (by omega)))⟩
theorem pO(N D lo:Nat)(xs:List Int)(w:World)(h:bR N D w xs)(hx:dN xs)(hD:D<lo)(hlo:lo<=w.heap.size)(hk:xs.headD 0%24=20)(hk2:xs.tail.headD 0%3=2) :
  Calls prog 99 #[.pointer (some ⟨D,0,none⟩)] w (AM N D lo w (bU xs)):=by
 have H:=ae h;have HX:=ae hx;have hh:=hx.head;have g:=hx.tail.head;have HR:Hi (bU xs=([97,104],xs.tail.tail)):=by
  show bU xs=_;unfold bU;rw[if_neg (by omega),if_neg (by omega),if_neg (by omega),if_neg (by omega),if_neg (by omega),if_pos hk,if_neg (by omega),if_neg (by omega)]
 rw[HR.u];obtain⟨y,hy⟩ : ∃ y,xs.headD 0=y:=⟨_,rfl⟩;obtain⟨y2,c⟩ : ∃ y,xs.tail.headD 0=y:=⟨_,rfl⟩;rw[hy]at hh hk;rw[c]at g hk2;have HY:=ae hy;have i:=ae c;have n0:¬ y%24<16:=by omega
 have n16:¬ y%24=16:=by omega
 have n17:¬ y%24=17:=by omega
 have n18:¬ y%24=18:=by omega
 have n19:¬ y%24=19:=by omega
 clear hy hx h HR c
 go_enter func99,ntmps99
 go_wp2_with fail;refine(aE N D xs w H.u HX.u).mono ?_;rintro e w1 ⟨he,j,d⟩;rw[HY.u]at he;subst he
 go_wp2_with fail;refine(aE N D xs.tail w1 j HX.u.tail).mono ?_;rintro e w2 ⟨he,k,f⟩;rw[i.u]at he;subst he;go_wp2;go_ret;have l:w1.heap.size=w.heap.size:=d.size;have m:w2.heap.size=w1.heap.size:=f.size;exact⟨⟨_,rfl,(iC w2 (a:=97) (b:=104) (eB (by omega) (by omega)) (eB (by omega) (by omega))).mono (lo':=lo) (by omega) lR⟩,k.keep (ai w2 _) (by omega),(d.mv _).trans ((f.mv _).trans (eJ (ai w2 _) D (by omega)))⟩
theorem rJ(N D lo:Nat)(xs:List Int)(w:World)(h:bR N D w xs)(hx:dN xs)(hD:D<lo)(hlo:lo<=w.heap.size)(hk:21<=xs.headD 0%24) :
  Calls prog 99 #[.pointer (some ⟨D,0,none⟩)] w (AM N D lo w (bU xs)):=by
 have a3:=run_make_row' (P:=prog) 28 4 (.bool false) 1 underlying28 Tryz.zinBool rfl .i64 .i64 256 (by omega) (by omega);rw[show((256:Nat):Int)=256 from rfl]at a3;have H:=ae h;have HX:=ae hx;have hh:=hx.head;have al:=hx.tail.head;obtain⟨y,hy⟩ : ∃ y,xs.headD 0=y:=⟨_,rfl⟩;obtain⟨y2,B⟩ : ∃ y,xs.tail.headD 0=y:=⟨_,rfl⟩;obtain⟨n,hn⟩ : ∃ n:Nat,(1+y2%4).toNat=n:=⟨_,rfl⟩;obtain⟨R,hR⟩ : ∃ R,AU n (fun _=>false) xs.tail.tail=R:=⟨_,rfl⟩;rw[hy]at hh hk;rw[B]at al;have HR:Hi (bU xs=(wT (if y%24=23 then fun b=>!R.1 b else R.1),R.2)):=by
  show bU xs=_;unfold bU;rw[hy,B,if_neg (by omega),if_neg (by omega),if_neg (by omega),if_neg (by omega),if_neg (by omega),if_neg (by omega),hn,hR]
 rw[HR.u];obtain⟨Q,hQ⟩ : ∃ Q,Q=wT (if y%24=23 then fun b=>!R.1 b else R.1):=⟨_,rfl⟩;rw[<-hQ];have HQ:=ae hQ;have HY:=ae hy;have an:=ae B;have ao:=ae hR;have b4:1+y2%4=(n:Int):=by omega
 have n0:¬ y%24<16:=by omega
 have n16:¬ y%24=16:=by omega
 have n17:¬ y%24=17:=by omega
 have n18:¬ y%24=18:=by omega
 have n19:¬ y%24=19:=by omega
 have n20:¬ y%24=20:=by omega
 clear hy hx h HR B hR hn hQ
 go_enter func99,ntmps99
 go_wp2_with fail;refine(aE N D xs w H.u HX.u).mono ?_;rintro e w1 ⟨he,a4,S⟩;rw[HY.u]at he;subst he;have ap:w1.heap.size=w.heap.size:=S.size;have C:=ae (vP w1);have T:=ae (ai w1 (.cells (madeCells #[.bool false] 256) 4));have a5:=ae (a4.keep T.u (by omega));have a6:=ae ((S.mv w.heap.size).trans (eJ T.u D (by omega)));have b5:w1.heap.size<(w1.alloc (.cells (madeCells #[.bool false] 256) 4)).heap.size:=by rw[ah];omega
 clear a4 S
 go_wp2_with fail;rw[ap]at *;generalize w1.alloc (.cells (madeCells #[.bool false] 256) 4)=W1 at *;refine(aE N D xs.tail W1 a5.u HX.u.tail).mono ?_;rintro e w2 ⟨he,a7,E⟩;rw[an.u]at he;subst he;have b6:w2.heap.size=W1.heap.size:=E.size;have aq:Hi (gz w2 w.heap.size (fun _=>false)):=World.rowIs.of_block C.u (E.block _ (by omega));have ar:=ae a7;have av:=ae (a6.u.trans (E.mv w.heap.size));clear a7 E C T a5 a6 a3
 go_wp2_with fail
 go_loopw [8] (fun iv wr=>∃ (m:Nat) (p:Nat->Bool) (zs:List Int),m<=n/\iv=.int .i64 (m:Nat)/\dN zs/\AU (n-m) p zs=R/\gz wr w.heap.size p/\bR N D wr zs/\Mv w.heap.size D w wr/\w.heap.size<wr.heap.size) (fun iv _=>n-(intOf iv).toNat)
 case atStart=>exact⟨0,fun _=>false,xs.tail.tail,Nat.zero_le _,rfl,HX.u.tail.tail,ao.u,aq.u,ar.u,av.u,by omega⟩
 obtain⟨m,p,zs,hm,rfl,F,q,U,V,G,b7⟩:=hrel;obtain⟨w3,rfl⟩ : ∃ w3,w3=wr:=⟨_,rfl⟩;have I:=ae U;have J:=ae V;have K:=ae G;have HZ:=ae F
 by_cases hlt:m<n
 ·have a8:(m:Int)<1+y2%4:=by omega
  obtain⟨z1,r⟩ : ∃ z,zs.headD 0=z:=⟨_,rfl⟩;obtain⟨z2,j⟩ : ∃ z,zs.tail.headD 0=z:=⟨_,rfl⟩;have aw:=ae r;have ax:=ae j;have a9:=F.tail.head;rw[j]at a9;have aa:=iU (y:=z1);obtain⟨l,hl⟩ : ∃ l:Nat,dB z1=(l:Int):=⟨(dB z1).toNat,by omega⟩;have W:Hi (AU (n-(m+1)) (Cs p (dB z1) (dB z1+dW z2) 256) zs.tail.tail=R):=by
   show AU _ _ _=_;rw[show n-m=n-(m+1)+1 by omega,AU,r,j]at q;exact q
  have HL:=ae hl;rw[hl]at aa;clear U V G q r j F
  go_wp2_with fail;refine(dP N D zs w3 J.u HZ.u).mono ?_;rintro e w5 ⟨he,ab,L⟩;rw[aw.u,HL.u]at he;subst he
  go_wp2_with fail;refine(aE N D zs.tail w5 ab HZ.u.tail).mono ?_;rintro e w4 ⟨he,ad,M⟩;rw[ax.u]at he;subst he;have b8:w5.heap.size=w3.heap.size:=L.size;have b9:w4.heap.size=w5.heap.size:=M.size;have af:Hi (gz w4 w.heap.size p):=World.rowIs.of_block I.u ((M.block _ (by omega)).trans (L.block _ (by omega)));have X:=ae ad;have s:=ae (K.u.trans ((L.mv _).trans (M.mv _)));clear ab L ad M I J K
  by_cases hw3:0<z2%3
  ·have O:Hi (dW z2=0):=if_pos hw3;have Y:Hi (gz w4 w.heap.size (fun b=>p b||decide ((l:Int)<=(b:Int)/\b<l))):=af.u.eq (fun b _=>by simp;omega)
   go_wp2_with fail
   go_loopw [11] (fun bv wq=>∃ k:Nat,bv=.int .i64 (k:Nat)/\l<=k/\(k:Int)<=(l:Int)+0+1/\k<=256/\gz wq w.heap.size (fun b=>p b||decide ((l:Int)<=(b:Int)/\b<k))/\Below w.heap.size w4 wq) (fun bv _=>256-(intOf bv).toNat)
   case atStart=>exact⟨l,by go_num,Nat.le_refl _,by omega,by omega,Y.u,Below.refl _ _⟩
   obtain⟨k,rfl,b0,ag,b1,a,g⟩:=hrel;obtain⟨w6,rfl⟩ : ∃ w6,w6=wr:=⟨_,rfl⟩;have f:=ae a;have c:=ae g;have y1:=World.rowIs.frozen a k
   by_cases c1:(k:Int)<=(l:Int)+0
   ·by_cases c2:(k:Int)<256
    ·have y0:w6.cell? ⟨w.heap.size,k,none⟩=some (.bool (p k||decide ((l:Int)<=(k:Int)/\k<k))):=World.rowIs.cell a (i:=k) (by omega);have t:=ae (f.u.put k true);have v:=ae (aD c.u lR (o:=k) (.bool true));clear a g;go_wp2
     go_roundw
     case rel=>exact⟨k+1,by go_num,by omega,by omega,by omega,t.u.eq (fun b _=>by
      by_cases e:b=k
      ·subst e;rw[if_pos rfl];simp<;>omega
      have e2:(b<k+1)↔b<k:=by omega
      rw[if_neg e];simp only[e2]),v.u⟩
     simp[intOf];omega
    omega
   have HN:Hi (gz w6 w.heap.size (Cs p (dB z1) (dB z1+dW z2) 256)):=f.u.eq (fun b hb=>by
    unfold Cs;rw[O.u,HL.u]
    congr 1
    rw[Bool.eq_iff_iff];simp;omega)
   clear a f y1;go_wp2
   go_roundw
   case rel=>exact⟨m+1,_,zs.tail.tail,by omega,by go_num,HZ.u.tail.tail,W.u,HN.u,X.u.keep c.u (by omega),s.u.trans (eJ c.u D (by omega)),by have:=c.u.size;omega⟩
   simp[intOf];omega
  have O:Hi (dW z2=z2%12):=if_neg hw3;have bb:0<=z2%12/\z2%12<=11:=by omega
  have Y:Hi (gz w4 w.heap.size (fun b=>p b||decide ((l:Int)<=(b:Int)/\b<l))):=af.u.eq (fun b _=>by simp;omega)
  go_wp2_with fail
  go_loopw [11] (fun bv wq=>∃ k:Nat,bv=.int .i64 (k:Nat)/\l<=k/\(k:Int)<=(l:Int)+z2%12+1/\k<=256/\gz wq w.heap.size (fun b=>p b||decide ((l:Int)<=(b:Int)/\b<k))/\Below w.heap.size w4 wq) (fun bv _=>256-(intOf bv).toNat)
  case atStart=>exact⟨l,by go_num,Nat.le_refl _,by omega,by omega,Y.u,Below.refl _ _⟩
  obtain⟨k,rfl,b0,ag,b1,a,g⟩:=hrel;obtain⟨w6,rfl⟩ : ∃ w6,w6=wr:=⟨_,rfl⟩;have f:=ae a;have c:=ae g;have y1:=World.rowIs.frozen a k
  by_cases c1:(k:Int)<=(l:Int)+z2%12
  ·by_cases c2:(k:Int)<256
   ·have y0:w6.cell? ⟨w.heap.size,k,none⟩=some (.bool (p k||decide ((l:Int)<=(k:Int)/\k<k))):=World.rowIs.cell a (i:=k) (by omega);have t:=ae (f.u.put k true);have v:=ae (aD c.u lR (o:=k) (.bool true));clear a g;go_wp2
    go_roundw
    case rel=>exact⟨k+1,by go_num,by omega,by omega,by omega,t.u.eq (fun b _=>by
     by_cases e:b=k
     ·subst e;rw[if_pos rfl];simp<;>omega
     have e2:(b<k+1)↔b<k:=by omega
     rw[if_neg e];simp only[e2]),v.u⟩
    simp[intOf];omega
   have HN:Hi (gz w6 w.heap.size (Cs p (dB z1) (dB z1+dW z2) 256)):=f.u.eq (fun b hb=>by
    unfold Cs;rw[O.u,HL.u]
    congr 1
    rw[Bool.eq_iff_iff];simp;omega)
   clear a f y1;go_wp2
   go_roundw
   case rel=>exact⟨m+1,_,zs.tail.tail,by omega,by go_num,HZ.u.tail.tail,W.u,HN.u,X.u.keep c.u (by omega),s.u.trans (eJ c.u D (by omega)),by have:=c.u.size;omega⟩
   simp[intOf];omega
  have HN:Hi (gz w6 w.heap.size (Cs p (dB z1) (dB z1+dW z2) 256)):=f.u.eq (fun b hb=>by
   unfold Cs;rw[O.u,HL.u]
   congr 1
   rw[Bool.eq_iff_iff];simp;omega)
  clear a f y1;go_wp2
  go_roundw
  case rel=>exact⟨m+1,_,zs.tail.tail,by omega,by go_num,HZ.u.tail.tail,W.u,HN.u,X.u.keep c.u (by omega),s.u.trans (eJ c.u D (by omega)),by have:=c.u.size;omega⟩
  simp[intOf];omega
 have a8:¬ (m:Int)<1+y2%4:=by omega
 rw[show n-m=0 by omega]at q;have e1:R=(p,zs):=q.symm;subst e1;have bc:=G.size;clear U V G q F
 by_cases h23:y%24=23
 ·have Z:Hi (Q=wT (fun b=>!p b)):=by show Q=_;rw[HQ.u,if_pos h23]
  have C:=ae (I.u.eq (p':=fun b=>if b<0 then !p b else p b) (fun b _=>by rw[if_neg (by omega)]))
  go_wp2_with fail
  go_loopw [12] (fun bv wq=>∃ k:Nat,bv=.int .i64 (k:Nat)/\k<=256/\gz wq w.heap.size (fun b=>if b<k then !p b else p b)/\Below w.heap.size w3 wq) (fun bv _=>256-(intOf bv).toNat)
  case atStart=>exact⟨0,rfl,by omega,C.u,Below.refl _ _⟩
  obtain⟨k,rfl,ag,a,g⟩:=hrel;obtain⟨w7,rfl⟩ : ∃ w7,w7=wr:=⟨_,rfl⟩;have f:=ae a;have c:=ae g
  by_cases hkl:k<256
  ·have b3:(k:Int)<256:=by omega
   have y0:w7.cell? ⟨w.heap.size,k,none⟩=some (.bool (p k)):=by rw[World.rowIs.cell a (i:=k) hkl];simp
   have y1:=World.rowIs.frozen a k;have t:=ae (f.u.put k (!p k));have v:=ae (aD c.u lR (o:=k) (.bool (!p k)));clear a g;go_wp2
   go_roundw
   case rel=>exact⟨k+1,by go_num,by omega,t.u.eq (fun b _=>by
    by_cases e:b=k
    ·subst e;rw[if_pos rfl,if_pos (by omega)]
    have e2:(b<k+1)↔b<k:=by omega
    rw[if_neg e];simp only[e2]),v.u⟩
   simp[intOf];omega
  obtain rfl:k=256:=by omega
  have a0:Hi (gz w7 w.heap.size (fun b=>!p b)):=f.u.eq (fun b hb=>by rw[if_pos hb]);have a1:=ae (J.u.keep c.u (by omega));have a2:=ae (K.u.trans (eJ c.u D (by omega)));have bd:=c.u.size;clear a g f;have x:=ae (kh w.heap.size (fun b=>!p b) w7 a0.u)
  go_wp2_with fail;refine x.u.mono ?_;rintro e w8 ⟨v8,rfl,d,A⟩;obtain⟨o8,d8,rfl⟩:=aj d;have b2:=(il (fun b=>!p b)).1;have HF:=ae ((bW d (lo:=lo) (by omega) (by unfold maxLen;omega)).ints (il _).in64);clear d x;go_wp2;go_ret;refine⟨⟨_,rfl,?_⟩,a1.u.keep A (by omega),a2.u.trans (eJ A D (by omega))⟩;show aR lo _ _ _ Q;rw[Z.u];exact HF.u
 have Z:Hi (Q=wT p):=by show Q=_;rw[HQ.u,if_neg h23]
 have a0:=ae I.u;have a1:=ae J.u;have a2:=ae K.u;have x:=ae (kh w.heap.size p w3 a0.u)
 go_wp2_with fail;refine x.u.mono ?_;rintro e w8 ⟨v8,rfl,d,A⟩;obtain⟨o8,d8,rfl⟩:=aj d;have b2:=(il p).1;have HF:=ae ((bW d (lo:=lo) (by omega) (by unfold maxLen;omega)).ints (il _).in64);clear d x;go_wp2;go_ret;refine⟨⟨_,rfl,?_⟩,a1.u.keep A (by omega),a2.u.trans (eJ A D (by omega))⟩;show aR lo _ _ _ Q;rw[Z.u];exact HF.u
theorem gj(N D lo:Nat)(xs:List Int)(w:World)(h:bR N D w xs)(hx:dN xs)(hD:D<lo)(hlo:lo<=w.heap.size):Calls prog 99 #[.pointer (some ⟨D,0,none⟩)] w (AM N D lo w (bU xs)):=by
 have hh:=hx.head
 by_cases h1:xs.headD 0%24<16
 ·exact qO N D lo xs w h hx hD hlo h1
 by_cases h2:xs.headD 0%24=16
 ·exact oy N D lo xs w h hx hD hlo h2
 by_cases h3:xs.headD 0%24=17
 ·exact oh N D lo xs w h hx hD hlo h3
 by_cases h4:xs.headD 0%24=18
 ·exact nX N D lo xs w h hx hD hlo h4
 by_cases h5:xs.headD 0%24=19
 ·exact oD N D lo xs w h hx hD hlo h5
 by_cases h6:xs.headD 0%24=20
 ·by_cases g0:xs.tail.headD 0%3=0
  ·exact qm N D lo xs w h hx hD hlo h6 g0
  by_cases g1:xs.tail.headD 0%3=1
  ·exact qw N D lo xs w h hx hD hlo h6 g1
  exact pO N D lo xs w h hx hD hlo h6 (by omega)
 exact rJ N D lo xs w h hx hD hlo (by omega)
theorem jY(N D:Nat)(xs:List Int)(w:World)(h:bR N D w xs) :
  Calls prog 63 #[.pointer (some ⟨D,0,none⟩)] w fun e w'=>e=.returned (.int .i64 (xs.length:Nat))/\bR N D w' xs/\gV D w w':=by
 obtain⟨hN,v,cs,i,hr,hs,hi,hl,rfl⟩:=h;have HR:=ae hr;have HS:=ae hs;obtain⟨f0,f1,z1⟩:=hr.facts;obtain⟨a,c,rfl,-,-⟩:=hs;have e1:((cs.drop i).length:Int)=(cs.length:Int)-(i:Int):=by rw[List.length_drop];omega
 rw[e1];have H2:Hi (∀ q,bR N D (w.drewN q) (cs.drop i)):=fun q=>⟨hN,.slice a cs.length c,cs,i,HR.u,HS.u,hi,hl,rfl⟩
 clear hr
 go_enter func63,ntmps63
 go_wp2_with fail
 go_quiet (fail);go_wp2;go_ret;exact⟨rfl,H2.u _,nD (gV.refl _ _) _⟩
theorem mS(N D lo:Nat)(xs:List Int)(w:World)(h:bR N D w xs)(hx:dN xs)(hD:D<lo)(hlo:lo<=w.heap.size) :
  Calls prog 100 #[.pointer (some ⟨D,0,none⟩)] w (zT N D lo w (lz xs)):=by
 have H:=ae h;have HX:=ae hx;have hh:=hx.head;obtain⟨y,hy⟩ : ∃ y,xs.headD 0=y:=⟨_,rfl⟩;obtain⟨y2,f⟩ : ∃ y,xs.tail.headD 0=y:=⟨_,rfl⟩;obtain⟨n,hn⟩ : ∃ n:Nat,(1+y%4).toNat=n:=⟨_,rfl⟩;obtain⟨R,hR⟩ : ∃ R,AQ n (sE [dB y2,dB y2]) xs.tail.tail=R:=⟨_,rfl⟩;rw[hy]at hh;have HR:Hi (lz xs=R):=by
  show lz xs=_;unfold lz;rw[hy,f,hn,hR]
 rw[HR.u];have HY:=ae hy;have X:=ae f;have Y:=ae hR;have af:2+y%4=(n:Int)+1:=by omega
 have ag:n<=4:=by omega
 have hb:=iU (y:=y2);clear hy hx h HR f hR hn
 go_enter func100,ntmps100
 go_wp2_with fail;refine(aE N D xs w H.u HX.u).mono ?_;rintro e w1 ⟨he,x,g⟩;rw[HY.u]at he;subst he
 go_wp2_with fail;refine(dP N D xs.tail w1 x HX.u.tail).mono ?_;rintro e w2 ⟨he,A,i⟩;rw[X.u]at he;subst he;have al:w1.heap.size=w.heap.size:=g.size;have an:w2.heap.size=w1.heap.size:=i.size;have Z:=ae A;have a0:=ae ((g.mv w.heap.size).trans (i.mv w.heap.size));clear x g A i
 go_wp2_with fail;refine(eo (dB y2) w2 (eB hb.1 hb.2)).mono ?_;rintro e w3 ⟨v3,rfl,B,j⟩;have H3:=ae (B.mono (lo':=lo) (by omega) lR);obtain⟨a3,c3,rfl,-⟩:=B;have a1:=j.size
 go_wp2_with fail;refine(cJ lo _ _ w3 H3.u (by omega) (by simp)).mono ?_;rintro e w4 ⟨v4,rfl,C,k⟩;have H4:=ae C;obtain⟨a4,c4,rfl,-⟩:=C;have ao:=k.size;have E:=ae (j.trans (k.mono a1));clear j k
 go_wp2_with fail
 go_loopw [5,6] (fun tv iv wr=>∃ (m:Nat) (t:List El) (zs:List Int),m<=n/\iv=.int .i64 ((m:Int)+1)/\dN zs/\AQ (n-m) t zs=R/\NL (2*m+1) t/\aA lo wr.heap.size wr tv t/\bR N D wr zs/\Mv w.heap.size D w wr) (fun _ iv _=>n+1-(intOf iv).toNat)
 case atStart=>exact⟨0,_,xs.tail.tail,Nat.zero_le _,by go_num,HX.u.tail.tail,Y.u,(DT.s (iK y2)).nl,H4.u,Z.u.keep E.u (by omega),a0.u.trans (eJ E.u D (by omega))⟩
 obtain⟨m,t,zs,hm,rfl,l,a,o,F,p,c⟩:=hrel;obtain⟨w5,rfl⟩ : ∃ w5,w5=wr:=⟨_,rfl⟩;have G:=ae F;obtain⟨at',ct,rfl,-⟩:=F;have I:=ae p;have J:=ae c;have HZ:=ae l;have K:=ae o;have ap:=c.size
 by_cases hlt:m<n
 ·have L:(m:Int)+1<2+y%4:=by omega
  obtain⟨z1,b⟩ : ∃ z,zs.headD 0=z:=⟨_,rfl⟩;have a2:=ae b;have M:=iU (y:=z1);have a5:Hi (AQ (n-(m+1)) (eg t (sE [dB z1,dB z1])) zs.tail=R):=by
   show AQ _ _ _=_;rw[show n-m=n-(m+1)+1 by omega,AQ,b]at a;exact a
  clear p c a b l o
  go_wp2_with fail;refine(dP N D zs w5 I.u HZ.u).mono ?_;rintro e w6 ⟨he,O,d⟩;rw[a2.u]at he;subst he;have aq:w6.heap.size=w5.heap.size:=d.size;have a6:=ae O;have aa:=ae (J.u.trans (d.mv _));have P:=ae (G.u.mv (d.mv w5.heap.size) lR hD);clear O d
  go_wp2_with fail;refine(eo (dB z1) w6 (eB M.1 M.2)).mono ?_;rintro e w7 ⟨v7,rfl,Q,q⟩;have H7:=ae (Q.mono (lo':=lo) (by omega) lR);obtain⟨a7,c7,rfl,-⟩:=Q;have ab:=q.size
  go_wp2_with fail;refine(cJ lo _ _ w7 H7.u (by omega) (by simp)).mono ?_;rintro e w8 ⟨v8,rfl,S,r⟩;have H8:=ae S;obtain⟨a8,c8,rfl,-⟩:=S;have ar:=r.size;have v:=q.trans (r.mono ab);have T:=ae (P.u.below v lR);have ad:=ae v;clear q r v
  go_wp2_with fail;refine(iA T.u H8.u K.u (DT.s (iK z1)).nl (by omega) (by omega) (by omega)).mono ?_;rintro e w9 ⟨v9,rfl,U,V⟩;have H9:=ae U;obtain⟨a9,c9,rfl,-⟩:=U;have W:=ae (ad.u.trans (V.mono (by omega)));clear V;go_wp2
  go_roundw
  case rel=>exact⟨m+1,_,zs.tail,by omega,by go_num,HZ.u.tail,a5.u,(K.u.cat (DT.s (iK z1)).nl).mono (by omega),H9.u,a6.u.keep W.u (by omega),aa.u.trans (eJ W.u D (by omega))⟩
  simp[intOf];omega
 have L:¬ (m:Int)+1<2+y%4:=by omega
 rw[show n-m=0 by omega]at a;have e1:R=(t,zs):=a.symm;subst e1;clear p c a l o;go_wp2;go_ret;exact⟨⟨_,rfl,G.u⟩,I.u,J.u⟩
theorem nV(N D lo m:Nat)(xv:Value)(x:List El)(xs:List Int)(w:World)(h:bR N D w xs)(hx:dN xs)(hD:D<lo)(hlo:lo<=w.heap.size)(hxv:aA lo w.heap.size w xv x)(hnl:DT m x)(hm:m<=500) :
  Calls prog 101 #[.pointer (some ⟨D,0,none⟩),xv] w (zT N D lo w (tn x xs)):=by
 have H:=ae h;have HX:=ae hx;have hh:=hx.head;have P:=hx.tail.head;have Q:=hx.tail.tail.head;have S:=ae hxv;obtain⟨xa,xc,rfl,-⟩:=hxv;have hok:=zQ xs;have c:=ae (yX hnl xs);obtain⟨R,hR⟩ : ∃ R,R=tn x xs:=⟨_,rfl⟩;rw[<-hR];unfold tn at hR;obtain⟨p,q,zs,a⟩ : ∃ p q zs,qI xs=((p,q),zs):=⟨_,_,_,rfl⟩;rw[a]at c hR hok;simp only at c hR hok;obtain⟨y,hy⟩ : ∃ y,xs.headD 0=y:=⟨_,rfl⟩;obtain⟨y2,d⟩ : ∃ y,xs.tail.headD 0=y:=⟨_,rfl⟩;obtain⟨y3,f⟩ : ∃ y,xs.tail.tail.headD 0=y:=⟨_,rfl⟩;rw[hy]at hh;rw[d]at P;rw[f]at Q;unfold qI at a;rw[hy,d,f]at a;have g:=ae a;have z:=ae hR;have HY:=ae hy;have T:=ae d;have U:=ae f;clear hy d f h hx hR a
 go_enter func101,ntmps101
 go_wp2_with fail;refine(aE N D xs w H.u HX.u).mono ?_;rintro e w1 ⟨he,A,n⟩;rw[HY.u]at he;subst he;have i:=ae A;have j:=ae (n.mv w.heap.size);have o:w1.heap.size=w.heap.size:=n.size;clear A n
 go_upto_if 14 with fail
 go_cut [6,7] (fun lv hv wx=>lv=.int .i64 p/\hv=.int .i64 q/\bR N D wx zs/\Mv w.heap.size D w wx/\wx.heap.size=w.heap.size)
 case first =>
  by_cases c3:y%12<3
  ·have e:=g.u;rw[if_pos c3]at e;cases e
   go_wp2_with fail;go_meet;exact⟨rfl,rfl,i.u,j.u,o⟩
  by_cases c5:y%12<5
  ·have e:=g.u;rw[if_neg c3,if_pos c5]at e;cases e
   go_wp2_with fail;go_meet;exact⟨rfl,rfl,i.u,j.u,o⟩
  by_cases c7:y%12<7
  ·have e:=g.u;rw[if_neg c3,if_neg c5,if_pos c7]at e;cases e
   go_wp2_with fail;go_meet;exact⟨rfl,rfl,i.u,j.u,o⟩
  have e:=g.u;rw[if_neg c3,if_neg c5,if_neg c7]at e;have HE:=ae e;clear e
  go_wp2_with fail;refine(aE N D xs.tail w1 i.u HX.u.tail).mono ?_;rintro e w2 ⟨he,B,r⟩;rw[T.u]at he;subst he;have Y:w2.heap.size=w1.heap.size:=r.size
  go_wp2_with fail;refine(aE N D xs.tail.tail w2 B HX.u.tail.tail).mono ?_;rintro e w3 ⟨he,C,s⟩;rw[U.u]at he;subst he;have Z:w3.heap.size=w2.heap.size:=s.size;have E:=ae C;have F:=ae (j.u.trans ((r.mv w.heap.size).trans (s.mv w.heap.size)));have G:w3.heap.size=w.heap.size:=by omega
  clear B r C s
  by_cases c11:y%12=11
  ·have e:=HE.u;rw[if_pos c11]at e;cases e;have c12:(y%12==11)=true:=beq_iff_eq.2 c11;clear c11
   go_wp2_with fail;go_meet;exact⟨rfl,rfl,E.u,F.u,G⟩
  have e:=HE.u;rw[if_neg c11]at e;cases e
  go_wp2_with fail;go_meet;exact⟨rfl,rfl,E.u,F.u,G⟩
 obtain⟨rfl,rfl,I,t,a0⟩:=hcut;have J:=ae I;have K:=ae t;have l:=ae (S.u.mv t lR hD);clear I t;have HT:=ae (ez l.u hnl.nl (by omega) (by omega) (p:=p) (q:=q) (by unfold az;omega) (by unfold az;omega))
 go_wp2_with fail;refine HT.u.mono ?_;rintro e wa ⟨va,rfl,L,v⟩;have M:=ae L;obtain⟨aa,ca,rfl,-⟩:=L;have V:=v.size;have O:=ae (c.u.size _ wa (M.u.mono (Nat.zero_le _) lR) (by have:=c.u.len;omega));clear HT
 go_wp2_with fail;refine O.u.mono ?_;rintro e wb ⟨rfl,k⟩;have a1:=k.size;have b:=ae (v.trans (k.mono V));have W:=ae (M.u.below k lR);have X:=ae (l.u.below b.u lR);clear v k O
 by_cases h60:60<vF (bi x p q)
 ·have e1:=z.u;rw[if_pos h60]at e1;subst e1;go_wp2;go_ret;exact⟨⟨_,rfl,X.u⟩,J.u.keep b.u (by omega),K.u.trans (eJ b.u D (by omega))⟩
 have e1:=z.u;rw[if_neg h60]at e1;subst e1;go_wp2;go_ret;exact⟨⟨_,rfl,W.u⟩,J.u.keep b.u (by omega),K.u.trans (eJ b.u D (by omega))⟩
end Go.Proofs.YtidfkbghlkcbeaaGreatDoor
