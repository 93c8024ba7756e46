import Derived.Test.YtidfkbghlkcbeaaGreatDoorPk2
namespace Go.Proofs.YtidfkbghlkcbeaaGreatDoor
open Go.RowKit Go.Proofs.Tryz
set_option maxHeartbeats 16000000
set_option maxRecDepth 100000
def nO(xs:List Int):Nat->Nat->Bool
 | 0,_=>false
 | m+1,b=>nO xs m b||decide (xs[2*m]?.getD 0<=(b:Int)/\(b:Int)<=xs[2*m+1]?.getD 0)
def dx(xs:List Int)(g:Nat->Nat):Prop:=Fit g/\∀ b:Nat,Bt g b=nO xs (xs.length / 2) b
theorem wK{w1:World}{N:Nat}{t:TypeId}{g:Nat->Nat}(h:w1.rowIs N t 4 (fun j=>.int .u64 (g j:Nat)))(q:Nat->Nat) :
  ((((w1.setCell ⟨N,0,none⟩ (.int .u64 (q 0:Nat))).setCell ⟨N,1,none⟩ (.int .u64 (q 1:Nat))).setCell ⟨N,2,none⟩ (.int .u64 (q 2:Nat))).setCell ⟨N,3,none⟩ (.int .u64 (q 3:Nat))).rowIs N t 4 (fun j=>.int .u64 (q j:Nat)):=by
 refine((((h.set 0 _).set 1 _).set 2 _).set 3 _).congr ?_;intro j hj
 match j,hj with
 | 0,_=>rfl
 | 1,_=>rfl
 | 2,_=>rfl
 | 3,_=>rfl
theorem uZ(v:Value)(xs:List Int)(w:World)(hv:aR 0 w.heap.size w v xs)(hcn:cZ xs) :
  Calls prog 109 #[v] w fun e w'=>∃ g:Nat->Nat,e=.returned (gb g)/\dx xs g/\Below w.heap.size w w':=by
 obtain⟨a,cap,rfl,hl,hr,hc⟩:=hv;unfold maxLen at hl;have r:=ae hcn;clear hcn hr
 go_enter func109,ntmps109
 go_wp2
 go_loopw [4] (fun i wr=>∃ p:Nat,p<=xs.length/\p%2=0/\i=.int .i64 p/\(∃ g:Nat->Value,wr.rowIs w.heap.size 88 4 g)/\(∃ g:Nat->Nat,wr.rowIs (w.heap.size+1) 88 4 (fun j=>.int .u64 (g j:Nat))/\Fit g/\∀ b:Nat,Bt g b=nO xs (p / 2) b)/\Below w.heap.size w wr) (fun i _=>xs.length-(intOf i).toNat)
 case atStart =>
  refine⟨0,Nat.zero_le _,rfl,rfl,⟨_,(iG w 88).alloc _⟩,⟨fun _=>0,?_,fun j=>by show 0<18446744073709551616;omega,fun b=>?_⟩,aI w _ _⟩
  ·have h:=iG (w.alloc (.cells #[.int .u64 0,.int .u64 0,.int .u64 0,.int .u64 0] 88)) 88;rw[ah]at h;exact h
  simp[Bt,nO]
 obtain⟨p,hm,M,rfl,⟨g2,f⟩,⟨g,d,l,s⟩,hb⟩:=hrel;have N:=r.u.1
 by_cases hlt2:p<xs.length
 ·obtain⟨b,off,rfl,-,B,k⟩:=hc (by omega);have hx:wr.cell? ⟨b,off+p,none⟩=some (.int .i64 (xs[p]?.getD 0)):=by rw[hb.cell (p:=⟨b,off+p,none⟩) B];exact k _ hlt2
  have hy:wr.cell? ⟨b,off+(p+1),none⟩=some (.int .i64 (xs[p+1]?.getD 0)):=by rw[hb.cell (p:=⟨b,off+(p+1),none⟩) B];exact k _ (by omega)
  have E:(p:Int)<(xs.length:Int):=by omega
  have F:(p:Int)+1<(xs.length:Int):=by omega
  have bx:=(r.u.2.1 (p) hlt2).1;have byy:=(r.u.2.1 (p+1) (by omega)).2;have bxy:xs[p]?.getD 0<=xs[p+1]?.getD 0:=by
   have:=(r.u.2.2 (p / 2) (by omega)).1
   rwa [show 2*(p / 2)=p by omega]at this
  have t:Hi (∀ c:Nat,nO xs ((p+2) / 2) c=(nO xs (p / 2) c||decide (xs[p]?.getD 0<=(c:Int)/\(c:Int)<=xs[p+1]?.getD 0))):=fun c=>by
   rw[show(p+2) / 2=p / 2+1 by omega];simp only[nO];rw[show 2*(p / 2)=p by omega]
  have z:=ae s;have o:=ae l;generalize xs[p]?.getD 0=x at *;generalize xs[p+1]?.getD 0=y at *;have c0:=d.cell (i:=0) (by omega);have c1:=d.cell (i:=1) (by omega);have c2:=d.cell (i:=2) (by omega);have c3:=d.cell (i:=3) (by omega);have hN:=d.lt;have f0:=d.frozen 0;have f1:=d.frozen 1;have f2:=d.frozen 2;have f3:=d.frozen 3;have A:=ae d;have m:=ae f;clear d f k s l hc;go_wp2;have O:IntKind.i64.wrap ((p:Int)+1)=(p:Int)+1:=by rw[IntKind.wrap_i64];omega
  have P:wrap64 ((p:Int)+1)=(p:Int)+1:=by unfold wrap64;omega
  go_region_with (go_at_call 121;refine(Dp g x y _ o.u bx byy bxy).mono ?_;rintro e w1 ⟨g',rfl,C,D,n⟩;unfold gb;have q:Below wr.heap.size wr w1:=⟨n.os,n.tape,n.output,n.size,n.block⟩;have G:=ae C;have H:=ae D;clear n C D;have I:=(cu q).1;have J:=(cu q).2)
  all_goals
   clear I J c0 c1 c2 c3 f0 f1 f2 f3 hx hy;go_wp2;have K:=A.u.of_block (q.block _ hN);have L:=m.u.of_block (q.block _ m.u.lt);refine⟨⟨p+2,by omega,by omega,by go_num,⟨g2,?_⟩,⟨g',wK K g',G.u,fun c=>?_⟩,?_⟩,by simp[intOf];omega⟩
   ·exact(((L.setOther (by show w.heap.size≠w.heap.size+1;omega) _).setOther (by show w.heap.size≠w.heap.size+1;omega) _).setOther (by show w.heap.size≠w.heap.size+1;omega) _).setOther (by show w.heap.size≠w.heap.size+1;omega) _
   ·rw[H.u c,t.u c,z.u c]
   exact aD (aD (aD (aD (hb.trans (q.mono hb.size)) (by omega) _) (by omega) _) (by omega) _) (by omega) _
 have c0:=d.cell (i:=0) (by omega);have c1:=d.cell (i:=1) (by omega);have c2:=d.cell (i:=2) (by omega);have c3:=d.cell (i:=3) (by omega);have d0:=f.cell (i:=0) (by omega);have d1:=f.cell (i:=1) (by omega);have d2:=f.cell (i:=2) (by omega);have d3:=f.cell (i:=3) (by omega);have f0:=f.frozen 0;have f1:=f.frozen 1;have f2:=f.frozen 2;have f3:=f.frozen 3;obtain rfl:p=xs.length:=by omega
 have z:=ae s;have o:=ae l;clear d f s l hc;go_wp2;refine bodyPost_ret (v:=.agg #[.int .u64 (g 0:Nat),.int .u64 (g 1:Nat),.int .u64 (g 2:Nat),.int .u64 (g 3:Nat)]) (by simp[results,results109,go_sem,d0,d1,d2,d3]) rfl ⟨g,rfl,⟨o.u,z.u⟩,?_⟩;exact aD (aD (aD (aD hb (by omega) _) (by omega) _) (by omega) _) (by omega) _
end Go.Proofs.YtidfkbghlkcbeaaGreatDoor
