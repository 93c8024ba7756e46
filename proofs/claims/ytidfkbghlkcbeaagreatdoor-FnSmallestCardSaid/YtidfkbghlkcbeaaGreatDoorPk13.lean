import Derived.Test.YtidfkbghlkcbeaaGreatDoorPk9
import Derived.Test.YtidfkbghlkcbeaaGreatDoorPk7
import Derived.Test.YtidfkbghlkcbeaaGreatDoorPk12
namespace Go.Proofs.YtidfkbghlkcbeaaGreatDoor
open Go.RowKit Go.Proofs.Tryz
set_option maxHeartbeats 16000000
set_option maxRecDepth 100000
theorem Bj{n:Int}(h0:0<=n)(h1:n<=1000000):wrap64 n=n:=by unfold wrap64;omega
theorem yB{c:Int}(h:c<=501):cap c=c:=by unfold cap;split<;>omega
theorem rP(c mn mx:Int)(u:Value)(w:World)(hu:kV u c)(a0:0<=c)(a1:c<=501)(o2:0<=mn)(o3:mn<=250)(o4:mx = -1∨(mn<=mx/\mx<=250)) :
  Calls prog 143 #[.agg #[u,.int .i64 mn,.int .i64 mx]] w fun e w'=>e=.returned (.int .i64 (cap (bK c mn mx)))/\Below w.heap.size w w':=by
 obtain⟨T,x,F,rfl,hm,f,hF⟩:=hu;have HF:=ae hF;clear hF;have m1:mn*c<=250*501:=Int.mul_le_mul o3 a1 a0 (by omega);have m0:0<=mn*c:=Int.mul_nonneg o2 a0;have x1:wrap64 (mn*c)=mn*c:=Bj (by omega) (by omega);have x2:wrap64 (mn*c+1)=mn*c+1:=Bj (by omega) (by omega);rcases o4 with rfl|⟨o4,o5⟩
 ·by_cases hm1:mn<1
  ·rw[iT hm1];have d:max (1:Int) mn=1:=by omega
   go_enter func143,ntmps143
   go_wp2_with ((first|((with_reducible refine(HF.u _).mono ?_);rintro e w1 ⟨rfl,a⟩;have b:=(cu a).1;simp only[ah]at b)|(go_at_call 144;refine(cd _ _).mono ?_;rintro e w3 ⟨rfl,hw3⟩;subst hw3)));go_ret;exact⟨rfl,(ai w _).trans (a.mono (by rw[ah];omega))⟩
  rw[iZ hm1]
  by_cases hm2:1<mn
  ·have g:¬ mn<=1:=by omega
   have d:max (1:Int) mn=mn:=by omega
   go_enter func143,ntmps143
   go_wp2_with ((first|((with_reducible refine(HF.u _).mono ?_);rintro e w1 ⟨rfl,a⟩;have b:=(cu a).1;simp only[ah]at b)|(go_at_call 144;refine(cd _ _).mono ?_;rintro e w3 ⟨rfl,hw3⟩;subst hw3)));go_ret;exact⟨rfl,(ai w _).trans (a.mono (by rw[ah];omega))⟩
  obtain rfl:mn=1:=by omega
  rw[Int.one_mul];clear m1 m0 x1 x2
  go_enter func143,ntmps143
  go_wp2_with ((first|((with_reducible refine(HF.u _).mono ?_);rintro e w1 ⟨rfl,a⟩;have b:=(cu a).1;simp only[ah]at b)|(go_at_call 144;refine(cd _ _).mono ?_;rintro e w3 ⟨rfl,hw3⟩;subst hw3)));go_ret;exact⟨rfl,(ai w _).trans (a.mono (by rw[ah];omega))⟩
 by_cases hx0:mx=0
 ·subst hx0;rw[kJ,yB a1]
  go_enter func143,ntmps143
  go_wp2_with ((first|((with_reducible refine(HF.u _).mono ?_);rintro e w1 ⟨rfl,a⟩;have b:=(cu a).1;simp only[ah]at b)|(go_at_call 144;refine(cd _ _).mono ?_;rintro e w3 ⟨rfl,hw3⟩;subst hw3)));go_ret;exact⟨rfl,(ai w _).trans (a.mono (by rw[ah];omega))⟩
 rw[jb (by omega) hx0];have h:(mx == -1)=false:=by simp;omega
 have i:(mx==0)=false:=by simp[hx0]
 have m2:(mx-mn)*(c+1)<=250*502:=Int.mul_le_mul (by omega) (by omega) (by omega) (by omega);have m3:0<=(mx-mn)*(c+1):=Int.mul_nonneg (by omega) (by omega);have x3:wrap64 ((mx-mn)*(c+1))=(mx-mn)*(c+1):=Bj (by omega) (by omega);have x4:wrap64 (mn*c+(mx-mn)*(c+1))=mn*c+(mx-mn)*(c+1):=Bj (by omega) (by omega)
 go_enter func143,ntmps143
 go_wp2_with ((first|((with_reducible refine(HF.u _).mono ?_);rintro e w1 ⟨rfl,a⟩;have b:=(cu a).1;simp only[ah]at b)|(go_at_call 144;refine(cd _ _).mono ?_;rintro e w3 ⟨rfl,hw3⟩;subst hw3)));go_ret;exact⟨rfl,(ai w _).trans (a.mono (by rw[ah];omega))⟩
theorem vL(w:World):Calls prog 153 #[.agg #[]] w fun e w'=>e=.returned (.int .i64 1)/\Below w.heap.size w w':=by
 go_enter func153,ntmps153
 go_wp2;go_ret;exact⟨rfl,ai w _⟩
theorem wN(a b c d:Int)(w:World):Calls prog 141 #[.agg #[.int .u64 a,.int .u64 b,.int .u64 c,.int .u64 d]] w fun e w'=>e=.returned (.int .i64 1)/\Below w.heap.size w w':=by
 go_enter func141,ntmps141
 go_wp2;go_ret;exact⟨rfl,ai w _⟩
theorem CJ(w:World):Sem.run prog (method 317 178 (.agg #[]) "loop.example/s0027/impl.size") w=.ok (153,.agg #[]) w:=by kernel_rfl
theorem Di(w:World):Sem.run prog (callFunc 153 #[.agg #[]]) w=.ok (.enter 153 #[.agg #[]]) w:=by kernel_rfl
theorem DC(x:Value)(w:World):Sem.run prog (method 317 91 x "loop.example/s0027/impl.size") w=.ok (141,x) w:=by kernel_rfl
theorem CR(x:Value)(w:World):Sem.run prog (callFunc 141 #[x]) w=.ok (.enter 141 #[x]) w:=by kernel_rfl
theorem zl(x:Value)(w:World):Sem.run prog (method 317 95 x "loop.example/s0027/impl.size") w=.ok (146,x) w:=by kernel_rfl
theorem yp(x:Value)(w:World):Sem.run prog (callFunc 146 #[x]) w=.ok (.enter 146 #[x]) w:=by kernel_rfl
theorem AF(x:Value)(w:World):Sem.run prog (method 317 142 x "loop.example/s0027/impl.size") w=.ok (149,x) w:=by kernel_rfl
theorem xX(x:Value)(w:World):Sem.run prog (callFunc 149 #[x]) w=.ok (.enter 149 #[x]) w:=by kernel_rfl
theorem AG(x:Value)(w:World):Sem.run prog (method 317 93 x "loop.example/s0027/impl.size") w=.ok (143,x) w:=by kernel_rfl
theorem zL(x:Value)(w:World):Sem.run prog (callFunc 143 #[x]) w=.ok (.enter 143 #[x]) w:=by kernel_rfl
def gn(u:Value)(c:Int):Prop:=kV u c/\0<=c/\c<=501
theorem gn.iface{u:Value}{c:Int}(h:gn u c):∃ T x,u=.iface T x:=by
 obtain⟨⟨T,x,F,rfl,-⟩,-⟩:=h;exact⟨T,x,rfl⟩
theorem gn.e:gn (.iface 178 (.agg #[])) 1:=⟨⟨178,_,153,rfl,CJ,Di,vL⟩,by omega⟩
theorem gn.s(a b c d:Int):gn (.iface 91 (.agg #[.int .u64 a,.int .u64 b,.int .u64 c,.int .u64 d])) 1:=⟨⟨91,_,141,rfl,DC _,CR _,wN a b c d⟩,by omega⟩
theorem gn.cat{u v:Value}{a b:Int}(hu:gn u a)(hv:gn v b):gn (.iface 95 (.agg #[u,v])) (cap (a+b)):=
 ⟨⟨95,_,146,rfl,zl _,yp _,fun w=>rX _ _ u v w hu.1 hv.1 hu.2.1 hu.2.2 hv.2.1 hv.2.2⟩,mU (by have:=hu.2;have:=hv.2;omega)⟩
theorem gn.alt{u v:Value}{a b:Int}(hu:gn u a)(hv:gn v b):gn (.iface 142 (.agg #[u,v])) (cap (a+b)):=
 ⟨⟨142,_,149,rfl,AF _,xX _,fun w=>th _ _ u v w hu.1 hv.1 hu.2.1 hu.2.2 hv.2.1 hv.2.2⟩,mU (by have:=hu.2;have:=hv.2;omega)⟩
theorem gn.rep{u:Value}{c mn mx:Int}(hu:gn u c)(o2:0<=mn)(o3:mn<=250)(o4:mx = -1∨(mn<=mx/\mx<=250)):gn (.iface 93 (.agg #[u,.int .i64 mn,.int .i64 mx])) (cap (bK c mn mx)):=by
 refine⟨⟨93,_,143,rfl,AG _,zL _,fun w=>rP _ mn mx u w hu.1 hu.2.1 hu.2.2 o2 o3 o4⟩,mU ?_⟩;have hc:=hu.2;unfold bK
 split
 ·have:0<=(if mn<1 then 1 else mn)*c:=Int.mul_nonneg (by split<;>omega) hc.1;omega
 split
 ·exact hc.1
 have h1:0<=mn*c:=Int.mul_nonneg o2 hc.1;have h2:0<=(mx-mn)*(c+1):=Int.mul_nonneg (by omega) (by omega);omega
theorem Tryz.info51:(prog.info? 51).map (fun i=>(i.zero,i.size,i.bytes))=some (some .nilIface,1,16):=by kernel_rfl
theorem oc(k c:Int)(h:CD k=c)(w:World):Calls prog 76 #[.int .i64 k] w fun e w'=>e=.returned (.int .i64 c)/\w'=w:=h ▸ ew k w
theorem dq{W:World}{N:Nat}{u:Value}(h:W.cell? ⟨N,0,none⟩=some u):∀ (j:Nat) (y:Value),[u][j]?=some y->W.cell? ((⟨N,0,none⟩ : Addr).add j)=some y:=by
 intro j y hj
 match j,hj with
 | 0,hj=>simp at hj;subst hj;exact h
theorem nF{m:Nat}{w w':World}(h:Below m w w')(hm:w.heap.size<=m):w.grownBy w' none:=⟨h.os,h.tape,h.output,h.size,fun k hk _=>h.block k (by omega)⟩
theorem kS{base n m:Nat}{w w':World}{v:Value}{xs:List Value}(h:w.ownsRow base 51 1 v n xs)(hb:Below m w w')(hm:w.heap.size<=m):w'.ownsRow base 51 1 v n xs:=
 h.kept (nF hb hm) (by cases v.ownBlock<;>simp)
theorem gt{base n:Nat}{w:World}{v:Value}{xs:List Value}{q:Nat}(h:w.ownsRow base 51 1 v n xs):(w.drewN q).ownsRow base 51 1 v n xs:=h
theorem cQ(w:World)(q:Nat):(w.drewN q).heap.size=w.heap.size:=rfl
theorem mu{base n:Nat}{w:World}{v:Value}{vals:List Value}(a:w.ownsRow base 51 1 v n vals)(h:0<n):∃ g cap,v=.slice (some ⟨g,0,none⟩) n cap/\n<=cap/\cap<=maxLen:=by
 rcases a.2 with ⟨rfl,hn⟩|⟨g,cap,cur,rfl,e,hg,b,c,f,d⟩
 ·omega
 exact⟨g,cap,rfl,b,c⟩
end Go.Proofs.YtidfkbghlkcbeaaGreatDoor
