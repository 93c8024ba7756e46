import Derived.Test.YtidfkbghlkcbeaaGreatDoorPk15
namespace Go.Proofs.YtidfkbghlkcbeaaGreatDoor
open Go.RowKit Go.Proofs.Tryz
set_option maxHeartbeats 16000000
set_option maxRecDepth 100000
theorem gr(T:TypeId)(y:Value)(T':TypeId)(y':Value)(m M:Nat)(w:World)(h:dc (.iface T y) (.iface T' y'))(o2:m<M)(o3:M<=250)(o4:0<M) :
  Calls prog 78 #[.agg #[.iface T y,.int .i64 m,.int .i64 M]] w fun e w'=>e=.returned (jV (cz (.iface T' y') m M))/\Below w.heap.size w w':=by
 obtain⟨i0,hi,s,t,v⟩:=info_parts Tryz.info51;have HE:=ae h.2;clear h;have F:((M:Int)==0)=false:=by rw[beq_eq_false_iff_ne];omega
 have G:((M:Int) == -1)=false:=by rw[beq_eq_false_iff_ne];omega
 obtain⟨D,hD⟩ : ∃ D:Nat,(M:Int)-(m:Int)=(D:Int):=⟨M-m,by omega⟩;have H:IntKind.i64.wrap ((M:Int)-(m:Int))=(D:Int):=by rw[IntKind.wrap_i64];omega
 have I:wrap64 ((M:Int)-(m:Int))=(D:Int):=by unfold wrap64;omega
 have q:Hi (M-m=D):=by show M-m=D;omega
 have J:D<=250:=by omega
 clear hD
 go_enter func78,ntmps78
 go_wp2_with fail;refine(HE.u _).mono ?_;rintro e w1 ⟨rfl,f⟩;have x:Below w.heap.size w w1:=(ai w _).trans (f.mono (by rw[ah];omega));obtain⟨i,-⟩:=cu f;have r:=f.size;rw[ah]at r;have q0:w1.cell? ⟨w.heap.size,0,none⟩=some (.iface T y):=by rw[i _ _ (by rw[ah];omega)];simp
 have q1:w1.cell? ⟨w.heap.size,1,none⟩=some (.int .i64 (m:Int)):=by rw[i _ _ (by rw[ah];omega)];simp
 have q2:w1.cell? ⟨w.heap.size,2,none⟩=some (.int .i64 (M:Int)):=by rw[i _ _ (by rw[ah];omega)];simp
 have n:w.heap.size<w1.heap.size:=by omega
 clear f i;have hJ:Hi (List.replicate m (.iface T' y')++List.replicate D (.iface 142 (.agg #[.iface T' y',.iface 178 (.agg #[])]))=cz (.iface T' y') m M):=by
  unfold cz;rw[if_neg (by omega),show((m:Int)).toNat=m by omega,show((M:Int)-(m:Int)).toNat=D by have:=q.u;omega]
  rfl
 have K:0<D:=by have:=q.u;omega
 go_wp2_with fail
 go_region_law (((first|(refine dJ 111 #[.tmp 36,.tmp 38] _ rfl #[.iface T' y',.int .i64 (m:Int)] rfl (by first|(simp[Act.eval];done)|simp[Act.eval,Act.put]) (gH _ _) (fI T' y' (m:Int) m (by omega) _ (by omega)) ?_;rintro e w2 ⟨v2,rfl,d,c⟩;refine⟨_,rfl,?_⟩;have a:Below (w1.heap.size+1) (w1.alloc (.cells #[.iface T' y',.iface 178 (.agg #[])] 142)) w2:=⟨c.os,c.tape,c.output,c.size,fun k hk=>c.block k (by simpa using hk)⟩;have C:w1.heap.size+1<=w2.heap.size:=(by have:=a.size;rwa [ah]at this);have c0:w2.cell? ⟨w1.heap.size,0,none⟩=some (.iface T' y'):=(by rw[a.cell (p:=⟨w1.heap.size,0,none⟩) (by show w1.heap.size<w1.heap.size+1;omega)];simp);have c1:w2.cell? ⟨w1.heap.size,1,none⟩=some (.iface 178 (.agg #[])):=(by rw[a.cell (p:=⟨w1.heap.size,1,none⟩) (by show w1.heap.size<w1.heap.size+1;omega)];simp);have p1:w2.cell? ⟨w.heap.size,1,none⟩=some (.int .i64 (m:Int)):=(by rw[a.cell (p:=⟨w.heap.size,1,none⟩) (by show w.heap.size<w1.heap.size+1;omega),(ai w1 (.cells #[.iface T' y',.iface 178 (.agg #[])] 142)).cell (p:=⟨w.heap.size,1,none⟩) n];exact q1);have p2:w2.cell? ⟨w.heap.size,2,none⟩=some (.int .i64 (M:Int)):=(by rw[a.cell (p:=⟨w.heap.size,2,none⟩) (by show w.heap.size<w1.heap.size+1;omega),(ai w1 (.cells #[.iface T' y',.iface 178 (.agg #[])] 142)).cell (p:=⟨w.heap.size,2,none⟩) n];exact q2);have o:Hi (w2.ownsRow (w1.heap.size+1) 51 1 v2 m (List.replicate m (.iface T' y'))):=jZ d (ah w1 (.cells #[.iface T' y',.iface 178 (.agg #[])] 142));clear d c)|(refine dJ 111 #[.tmp 41,.tmp 46] _ rfl #[.iface 142 (.agg #[.iface T' y',.iface 178 (.agg #[])]),.int .i64 (D:Int)] rfl (by first|(simp[Act.eval];done)|simp[Act.eval,Act.put]) (gH _ _) (fI _ _ (D:Int) D (by omega) w2 (by omega)) ?_;rintro e w3 ⟨v3,rfl,hown3,hb3⟩;refine⟨_,rfl,?_⟩;obtain⟨g3,d3,rfl,hc3⟩:=iM hown3 (by omega);have z:=ae hown3;have A:=ae hc3;have b:=ae (aG o.u hb3 lR);have E:=hb3.size;clear hown3 hc3)|(refine step_append_lies _ rfl (.tmp 39) (.tmp 47) 139 rfl (w1.heap.size+1) 51 i0 .nilIface 1 16 underlying139 hi s t v rfl (by decide) v2 m (List.replicate m (.iface T' y')) (by first|(simp[Act.eval];done)|simp[Act.eval,Act.put]) b.u ⟨g3,0,none⟩ D d3 (List.replicate D (.iface 142 (.agg #[.iface T' y',.iface 178 (.agg #[])]))) (by first|(simp[Act.eval];done)|simp[Act.eval,Act.put]) (by simp) (fun j u hu=>by have e3:(⟨g3,0,none⟩ : Addr).add j=⟨g3,j,none⟩:=(by cases j<;>simp[Addr.add]);rw[e3,A.u j (by have:=(List.getElem?_eq_some_iff.1 hu).1;simpa using this)];exact hu) (fun u hu=>by rw[(List.mem_replicate.1 hu).2];rfl) (by omega) (by unfold maxLen;omega) (by omega) (by omega) w3.heap.size rfl (fun g cap' w4 r1 r2 r3 r4=>?_);have B:Below (w1.heap.size+1) w3 w4:=((Below.refl (w1.heap.size+1) w3).grown r2 (by omega) (fun k hk=>(b.u.lt k hk).1));have R1:=ae r1;clear r1 r2 r3 r4)|(refine dJ 110 #[.tmp 48] _ rfl #[.slice (some ⟨g,0,none⟩) (m+D) cap'] rfl (by first|(simp[Act.eval];done)|simp[Act.eval,Act.put]) (sg _) (fV _ _ _ _ w4 R1.u (by omega) (fun u hu=>by rcases List.mem_append.1 hu with hu|hu;exact⟨_,_,(List.mem_replicate.1 hu).2⟩;exact⟨_,_,(List.mem_replicate.1 hu).2⟩) (by omega)) ?_;rintro e w5 ⟨rfl,rfl⟩;refine⟨_,rfl,?_⟩))))
 all_goals
  go_wp2;go_ret;exact⟨congrArg (fun l=>Ending.returned (jV l)) hJ.u,x.trans (((ai w1 _).mono (by omega)).trans ((a.mono (by omega)).trans ((hb3.mono (by omega)).trans (B.mono (by omega)))))⟩
end Go.Proofs.YtidfkbghlkcbeaaGreatDoor
