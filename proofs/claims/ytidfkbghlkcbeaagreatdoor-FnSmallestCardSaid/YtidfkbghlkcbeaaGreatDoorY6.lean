import Derived.Test.YtidfkbghlkcbeaaGreatDoorPk15
namespace Go.Proofs.YtidfkbghlkcbeaaGreatDoor
open Go.RowKit Go.Proofs.Tryz
set_option maxHeartbeats 16000000
set_option maxRecDepth 100000
theorem rC(T:TypeId)(y:Value)(w:World) :
  Calls prog 111 #[.iface T y,.int .i64 0] w fun e w'=>e=.returned (.slice none 0 0)/\w'=w:=by
 go_enter func111,ntmps111
 go_wp2
 go_loop [5,7] (fun ov i=>ov=.slice none 0 0/\i=.int .i64 0) (fun _ _=>0)
 case atStart=>exact⟨rfl,rfl⟩
 obtain⟨rfl,rfl⟩:=hrel;go_wp2;go_ret;exact⟨rfl,rfl⟩
theorem jC{w:World}{ops:Array Oper}{o:Oper}{a:Act}{K:Act->World->Prop}{Q:Exit->Act->World->Prop}{E:Prop}(hgd:o.guard=none)(s x:Operand)(t:TypeId)
  (ho:o.op=.call { callee:=.builtin .append,args:=#[s,x],argTypes:=#[t,t] })
  (base:Nat)(e:TypeId)(i:TypeInfo)(size:Nat)(ht:prog.underlying t=some (.slice e))(hi:prog.info? e=some i)
  (v:Value)(n:Nat)(xs:List Value)(hs:a.eval s=v)(hown:w.ownsRow base e size v n xs)(c:Nat)(hx:a.eval x=.slice none 0 c)
  (h:K (a.put o.dst v) w):if Region.wanted o (yielded ops a.tmps)=true then Oper.wp prog o a w K Q else E:=by
 have hw:Region.wanted o (yielded ops a.tmps)=true:=by simp[Region.wanted,hgd]
 rw[if_pos hw];have b:=fU (P:=prog) (w:=w) base t o.type e i size ht hi v n xs hown c;unfold Oper.wp;simp[execOp,ho,resolve,invoke,builtin,hs,hx,b,Result.andThen];exact h
theorem gB(T:TypeId)(y:Value)(T':TypeId)(y':Value)(m M:Nat)(w:World)(h:dc (.iface T y) (.iface T' y'))(o2:m=M)(o3:M<=250)(o4:0<M) :
  Calls prog 78 #[.agg #[.iface T y,.int .i64 m,.int .i64 M]] w fun e w'=>e=.returned (jV (cz (.iface T' y') m M))/\Below w.heap.size w w':=by
 subst o2;obtain⟨i0,hi,r,s,t⟩:=info_parts Tryz.info51;have HE:=ae h.2;clear h;have v:((m:Int)==0)=false:=by rw[beq_eq_false_iff_ne];omega
 have x:((m:Int) == -1)=false:=by rw[beq_eq_false_iff_ne];omega
 obtain⟨D,hD⟩ : ∃ D:Nat,(m:Int)-(m:Int)=(D:Int):=⟨m-m,by omega⟩;have z:IntKind.i64.wrap ((m:Int)-(m:Int))=(D:Int):=by rw[IntKind.wrap_i64];omega
 have A:wrap64 ((m:Int)-(m:Int))=(D:Int):=by unfold wrap64;omega
 have j:Hi (m-m=D):=by show m-m=D;omega
 have B:D<=250:=by omega
 clear hD
 go_enter func78,ntmps78
 go_wp2_with fail;refine(HE.u _).mono ?_;rintro e w1 ⟨rfl,f⟩;have o:Below w.heap.size w w1:=(ai w _).trans (f.mono (by rw[ah];omega));obtain⟨g,-⟩:=cu f;have n:=f.size;rw[ah]at n;have q0:w1.cell? ⟨w.heap.size,0,none⟩=some (.iface T y):=by rw[g _ _ (by rw[ah];omega)];simp
 have q1:w1.cell? ⟨w.heap.size,1,none⟩=some (.int .i64 (m:Int)):=by rw[g _ _ (by rw[ah];omega)];simp
 have q2:w1.cell? ⟨w.heap.size,2,none⟩=some (.int .i64 (m:Int)):=by rw[g _ _ (by rw[ah];omega)];simp
 have i:w.heap.size<w1.heap.size:=by omega
 clear f g;have hJ:Hi (List.replicate m (.iface T' y')++List.replicate D (.iface 142 (.agg #[.iface T' y',.iface 178 (.agg #[])]))=cz (.iface T' y') m m):=by
  unfold cz;rw[if_neg (by omega),show((m:Int)).toNat=m by omega,show((m:Int)-(m:Int)).toNat=D by have:=j.u;omega]
  rfl
 obtain rfl:D=0:=by have:=j.u;omega
 have C:0<m:=by omega
 have E:IntKind.i64.wrap 0=0:=by rw[IntKind.wrap_i64];omega
 go_wp2_with fail
 go_region_law (((first|(refine dJ 111 #[.tmp 36,.tmp 38] _ rfl #[.iface T' y',.int .i64 (m:Int)] rfl (by first|(simp[Act.eval];done)|simp[Act.eval,Act.put]) (gH _ _) (fI T' y' (m:Int) m (by omega) _ (by omega)) ?_;rintro e w2 ⟨v2,rfl,c,b⟩;refine⟨_,rfl,?_⟩;have a:Below (w1.heap.size+1) (w1.alloc (.cells #[.iface T' y',.iface 178 (.agg #[])] 142)) w2:=⟨b.os,b.tape,b.output,b.size,fun k hk=>b.block k (by simpa using hk)⟩;have q:w1.heap.size+1<=w2.heap.size:=(by have:=a.size;rwa [ah]at this);have c0:w2.cell? ⟨w1.heap.size,0,none⟩=some (.iface T' y'):=(by rw[a.cell (p:=⟨w1.heap.size,0,none⟩) (by show w1.heap.size<w1.heap.size+1;omega)];simp);have c1:w2.cell? ⟨w1.heap.size,1,none⟩=some (.iface 178 (.agg #[])):=(by rw[a.cell (p:=⟨w1.heap.size,1,none⟩) (by show w1.heap.size<w1.heap.size+1;omega)];simp);have p1:w2.cell? ⟨w.heap.size,1,none⟩=some (.int .i64 (m:Int)):=(by rw[a.cell (p:=⟨w.heap.size,1,none⟩) (by show w.heap.size<w1.heap.size+1;omega),(ai w1 (.cells #[.iface T' y',.iface 178 (.agg #[])] 142)).cell (p:=⟨w.heap.size,1,none⟩) i];exact q1);have p2:w2.cell? ⟨w.heap.size,2,none⟩=some (.int .i64 (m:Int)):=(by rw[a.cell (p:=⟨w.heap.size,2,none⟩) (by show w.heap.size<w1.heap.size+1;omega),(ai w1 (.cells #[.iface T' y',.iface 178 (.agg #[])] 142)).cell (p:=⟨w.heap.size,2,none⟩) i];exact q2);have d:Hi (w2.ownsRow (w1.heap.size+1) 51 1 v2 m (List.replicate m (.iface T' y'))):=jZ c (ah w1 (.cells #[.iface T' y',.iface 178 (.agg #[])] 142));clear c b)|(refine dJ 111 #[.tmp 41,.tmp 46] _ rfl #[.iface 142 (.agg #[.iface T' y',.iface 178 (.agg #[])]),.int .i64 0] rfl (by first|(simp[Act.eval];done)|simp[Act.eval,Act.put]) (gH _ _) (rC _ _ _) ?_;rintro e w3 ⟨rfl,rfl⟩;refine⟨_,rfl,?_⟩)|(refine jC rfl (.tmp 39) (.tmp 47) 139 rfl (w1.heap.size+1) 51 i0 1 underlying139 hi v2 m (List.replicate m (.iface T' y')) (by first|(simp[Act.eval];done)|simp[Act.eval,Act.put]) (by exact d.u) 0 (by first|(simp[Act.eval];done)|simp[Act.eval,Act.put]) ?_)|(refine dJ 110 #[.tmp 48] _ rfl #[v2] rfl (by first|(simp[Act.eval];done)|simp[Act.eval,Act.put]) (sg _) (fV _ m _ _ _ d.u (by omega) (fun u hu=>⟨_,_,(List.mem_replicate.1 hu).2⟩) (by omega)) ?_;rintro e w4 ⟨rfl,rfl⟩;refine⟨_,rfl,?_⟩))))
 all_goals
  go_wp2;go_ret;exact⟨congrArg (fun l=>Ending.returned (jV l)) (by rw[<-hJ.u];simp),o.trans (((ai w1 _).mono (by omega)).trans (a.mono (by omega)))⟩
end Go.Proofs.YtidfkbghlkcbeaaGreatDoor
