import Derived.Test.YtpmcjimgkabpeaaGreatDoorPk11
import Derived.Test.YtpmcjimgkabpeaaGreatDoorPk6
namespace Go.Proofs.YtpmcjimgkabpeaaGreatDoor
open Go.RowKit Go.Proofs.Tryz
set_option maxHeartbeats 16000000
set_option maxRecDepth 100000
theorem Bo{n:Int}(h0:0<=n)(h1:n<=1000000):wrap64 n=n:=by unfold wrap64;omega
theorem zu{c:Int}(h:c<=501):cap c=c:=by unfold cap;split<;>omega
theorem rK(c mn mx:Int)(u:Value)(w:World)(hu:kx u c)(a0:0<=c)(a1:c<=501)(o2:0<=mn)(o3:mn<=250)(o4:mx = -1∨(mn<=mx/\mx<=250)) :
  Calls prog 147 #[.agg #[u,.int .i64 mn,.int .i64 mx]] w fun e w'=>e=.returned (.int .i64 (cap (bJ c mn mx)))/\Below w.heap.size w w':=by
 obtain⟨T,x,F,rfl,hm,f,hF⟩:=hu;have HF:=ae hF;clear hF;have m1:mn*c<=250*501:=Int.mul_le_mul o3 a1 a0 (by omega);have m0:0<=mn*c:=Int.mul_nonneg o2 a0;have x1:wrap64 (mn*c)=mn*c:=Bo (by omega) (by omega);have x2:wrap64 (mn*c+1)=mn*c+1:=Bo (by omega) (by omega);rcases o4 with rfl|⟨o4,o5⟩
 ·by_cases hm1:mn<1
  ·rw[iJ hm1];have d:max (1:Int) mn=1:=by omega
   go_enter func147,ntmps147
   go_wp2_with ((first|((with_reducible refine(HF.u _).mono ?_);rintro e w1 ⟨rfl,a⟩;have b:=(cq a).1;simp only[ah]at b)|(go_at_call 148;refine(bX _ _).mono ?_;rintro e w3 ⟨rfl,hw3⟩;subst hw3)));go_ret;exact⟨rfl,(ai w _).trans (a.mono (by rw[ah];omega))⟩
  rw[iE hm1]
  by_cases hm2:1<mn
  ·have g:¬ mn<=1:=by omega
   have d:max (1:Int) mn=mn:=by omega
   go_enter func147,ntmps147
   go_wp2_with ((first|((with_reducible refine(HF.u _).mono ?_);rintro e w1 ⟨rfl,a⟩;have b:=(cq a).1;simp only[ah]at b)|(go_at_call 148;refine(bX _ _).mono ?_;rintro e w3 ⟨rfl,hw3⟩;subst hw3)));go_ret;exact⟨rfl,(ai w _).trans (a.mono (by rw[ah];omega))⟩
  obtain rfl:mn=1:=by omega
  rw[Int.one_mul];clear m1 m0 x1 x2
  go_enter func147,ntmps147
  go_wp2_with ((first|((with_reducible refine(HF.u _).mono ?_);rintro e w1 ⟨rfl,a⟩;have b:=(cq a).1;simp only[ah]at b)|(go_at_call 148;refine(bX _ _).mono ?_;rintro e w3 ⟨rfl,hw3⟩;subst hw3)));go_ret;exact⟨rfl,(ai w _).trans (a.mono (by rw[ah];omega))⟩
 by_cases hx0:mx=0
 ·subst hx0;rw[kj,zu a1]
  go_enter func147,ntmps147
  go_wp2_with ((first|((with_reducible refine(HF.u _).mono ?_);rintro e w1 ⟨rfl,a⟩;have b:=(cq a).1;simp only[ah]at b)|(go_at_call 148;refine(bX _ _).mono ?_;rintro e w3 ⟨rfl,hw3⟩;subst hw3)));go_ret;exact⟨rfl,(ai w _).trans (a.mono (by rw[ah];omega))⟩
 rw[iK (by omega) hx0];have h:(mx == -1)=false:=by simp;omega
 have i:(mx==0)=false:=by simp[hx0]
 have m2:(mx-mn)*(c+1)<=250*502:=Int.mul_le_mul (by omega) (by omega) (by omega) (by omega);have m3:0<=(mx-mn)*(c+1):=Int.mul_nonneg (by omega) (by omega);have x3:wrap64 ((mx-mn)*(c+1))=(mx-mn)*(c+1):=Bo (by omega) (by omega);have x4:wrap64 (mn*c+(mx-mn)*(c+1))=mn*c+(mx-mn)*(c+1):=Bo (by omega) (by omega)
 go_enter func147,ntmps147
 go_wp2_with ((first|((with_reducible refine(HF.u _).mono ?_);rintro e w1 ⟨rfl,a⟩;have b:=(cq a).1;simp only[ah]at b)|(go_at_call 148;refine(bX _ _).mono ?_;rintro e w3 ⟨rfl,hw3⟩;subst hw3)));go_ret;exact⟨rfl,(ai w _).trans (a.mono (by rw[ah];omega))⟩
theorem vM(w:World):Calls prog 157 #[.agg #[]] w fun e w'=>e=.returned (.int .i64 1)/\Below w.heap.size w w':=by
 go_enter func157,ntmps157
 go_wp2;go_ret;exact⟨rfl,ai w _⟩
theorem wz(a b c d:Int)(w:World):Calls prog 145 #[.agg #[.int .u64 a,.int .u64 b,.int .u64 c,.int .u64 d]] w fun e w'=>e=.returned (.int .i64 1)/\Below w.heap.size w w':=by
 go_enter func145,ntmps145
 go_wp2;go_ret;exact⟨rfl,ai w _⟩
theorem Db(w:World):Sem.run prog (method 324 186 (.agg #[]) "loop.example/s0027/impl.size") w=.ok (157,.agg #[]) w:=by kernel_rfl
theorem DB(w:World):Sem.run prog (callFunc 157 #[.agg #[]]) w=.ok (.enter 157 #[.agg #[]]) w:=by kernel_rfl
theorem CU(x:Value)(w:World):Sem.run prog (method 324 91 x "loop.example/s0027/impl.size") w=.ok (145,x) w:=by kernel_rfl
theorem Dl(x:Value)(w:World):Sem.run prog (callFunc 145 #[x]) w=.ok (.enter 145 #[x]) w:=by kernel_rfl
theorem yr(x:Value)(w:World):Sem.run prog (method 324 95 x "loop.example/s0027/impl.size") w=.ok (150,x) w:=by kernel_rfl
theorem At(x:Value)(w:World):Sem.run prog (callFunc 150 #[x]) w=.ok (.enter 150 #[x]) w:=by kernel_rfl
theorem yL(x:Value)(w:World):Sem.run prog (method 324 149 x "loop.example/s0027/impl.size") w=.ok (153,x) w:=by kernel_rfl
theorem zD(x:Value)(w:World):Sem.run prog (callFunc 153 #[x]) w=.ok (.enter 153 #[x]) w:=by kernel_rfl
theorem yG(x:Value)(w:World):Sem.run prog (method 324 93 x "loop.example/s0027/impl.size") w=.ok (147,x) w:=by kernel_rfl
theorem Ai(x:Value)(w:World):Sem.run prog (callFunc 147 #[x]) w=.ok (.enter 147 #[x]) w:=by kernel_rfl
def ft(u:Value)(c:Int):Prop:=kx u c/\0<=c/\c<=501
theorem ft.iface{u:Value}{c:Int}(h:ft u c):∃ T x,u=.iface T x:=by
 obtain⟨⟨T,x,F,rfl,-⟩,-⟩:=h;exact⟨T,x,rfl⟩
theorem ft.e:ft (.iface 186 (.agg #[])) 1:=⟨⟨186,_,157,rfl,Db,DB,vM⟩,by omega⟩
theorem ft.s(a b c d:Int):ft (.iface 91 (.agg #[.int .u64 a,.int .u64 b,.int .u64 c,.int .u64 d])) 1:=⟨⟨91,_,145,rfl,CU _,Dl _,wz a b c d⟩,by omega⟩
theorem ft.cat{u v:Value}{a b:Int}(hu:ft u a)(hv:ft v b):ft (.iface 95 (.agg #[u,v])) (cap (a+b)):=
 ⟨⟨95,_,150,rfl,yr _,At _,fun w=>qH _ _ u v w hu.1 hv.1 hu.2.1 hu.2.2 hv.2.1 hv.2.2⟩,ml (by have:=hu.2;have:=hv.2;omega)⟩
theorem ft.alt{u v:Value}{a b:Int}(hu:ft u a)(hv:ft v b):ft (.iface 149 (.agg #[u,v])) (cap (a+b)):=
 ⟨⟨149,_,153,rfl,yL _,zD _,fun w=>qC _ _ u v w hu.1 hv.1 hu.2.1 hu.2.2 hv.2.1 hv.2.2⟩,ml (by have:=hu.2;have:=hv.2;omega)⟩
theorem ft.rep{u:Value}{c mn mx:Int}(hu:ft u c)(o2:0<=mn)(o3:mn<=250)(o4:mx = -1∨(mn<=mx/\mx<=250)):ft (.iface 93 (.agg #[u,.int .i64 mn,.int .i64 mx])) (cap (bJ c mn mx)):=by
 refine⟨⟨93,_,147,rfl,yG _,Ai _,fun w=>rK _ mn mx u w hu.1 hu.2.1 hu.2.2 o2 o3 o4⟩,ml ?_⟩;have hc:=hu.2;unfold bJ
 split
 ·have:0<=(if mn<1 then 1 else mn)*c:=Int.mul_nonneg (by split<;>omega) hc.1;omega
 split
 ·exact hc.1
 have h1:0<=mn*c:=Int.mul_nonneg o2 hc.1;have h2:0<=(mx-mn)*(c+1):=Int.mul_nonneg (by omega) (by omega);omega
theorem Tryz.info48:(prog.info? 48).map (fun i=>(i.zero,i.size,i.bytes))=some (some .nilIface,1,16):=by kernel_rfl
theorem oc(k c:Int)(h:Cu k=c)(w:World):Calls prog 82 #[.int .i64 k] w fun e w'=>e=.returned (.int .i64 c)/\w'=w:=h ▸ dY k w
theorem dm{W:World}{N:Nat}{u:Value}(h:W.cell? ⟨N,0,none⟩=some u):∀ (j:Nat) (y:Value),[u][j]?=some y->W.cell? ((⟨N,0,none⟩ : Addr).add j)=some y:=by
 intro j y hj
 match j,hj with
 | 0,hj=>simp at hj;subst hj;exact h
theorem nh{m:Nat}{w w':World}(h:Below m w w')(hm:w.heap.size<=m):w.grownBy w' none:=⟨h.os,h.tape,h.output,h.size,fun k hk _=>h.block k (by omega)⟩
theorem kw{base n m:Nat}{w w':World}{v:Value}{xs:List Value}(h:w.ownsRow base 48 1 v n xs)(hb:Below m w w')(hm:w.heap.size<=m):w'.ownsRow base 48 1 v n xs:=
 h.kept (nh hb hm) (by cases v.ownBlock<;>simp)
theorem gx{base n:Nat}{w:World}{v:Value}{xs:List Value}{q:Nat}(h:w.ownsRow base 48 1 v n xs):(w.drewN q).ownsRow base 48 1 v n xs:=h
theorem cR(w:World)(q:Nat):(w.drewN q).heap.size=w.heap.size:=rfl
theorem lP{base n:Nat}{w:World}{v:Value}{vals:List Value}(a:w.ownsRow base 48 1 v n vals)(h:0<n):∃ g cap,v=.slice (some ⟨g,0,none⟩) n cap/\n<=cap/\cap<=maxLen:=by
 rcases a.2 with ⟨rfl,hn⟩|⟨g,cap,cur,rfl,e,hg,b,c,f,d⟩
 ·omega
 exact⟨g,cap,rfl,b,c⟩
end Go.Proofs.YtpmcjimgkabpeaaGreatDoor
