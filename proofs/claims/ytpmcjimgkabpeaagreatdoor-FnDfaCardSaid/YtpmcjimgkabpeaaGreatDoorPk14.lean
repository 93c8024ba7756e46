import Derived.Test.YtpmcjimgkabpeaaGreatDoorPk11
namespace Go.Proofs.YtpmcjimgkabpeaaGreatDoor
/-! A pattern's text as tokens,its grammar,and how a list of tokens is split at its last place. -/
abbrev Tk:=List Int ⊕ (Int×Int) ⊕ Bool ⊕ Unit
def wl:Nat->List Tk->Option Nat
 | d,[]=>some d
 | d,.inr (.inr (.inl true))::ts=>wl (d+1) ts
 | 0,.inr (.inr (.inl false))::_=>none
 | d+1,.inr (.inr (.inl false))::ts=>wl d ts
 | d,.inl _::ts=>wl d ts
 | d,.inr (.inr (.inr ()))::ts=>wl d ts
 | d,.inr (.inl _)::ts=>wl d ts
end Go.Proofs.YtpmcjimgkabpeaaGreatDoor
namespace Go.Proofs.YtpmcjimgkabpeaaGreatDoor
/-! The tokens of a pattern's text. -/
def Gu:List Int->Nat->Bool
 | lo::hi::xs,b=>decide (lo<=(b:Int)/\(b:Int)<=hi)||Gu xs b
 | _,_=>false
def lq(p:Nat->Bool)(b:Nat):List Int:=(if p b&&(b==0 || !p (b-1)) then [(b:Int)] else [])++(if p b&&(b==255 || !p (b+1)) then [(b:Int)] else [])
def vn(p:Nat->Bool):List Int:=(List.range 256).flatMap (lq p)
def FE:List Int:=[92,46,91,93,40,41,124,42,43,63,123,125,94,36]
def FM(c:Int):Bool:=decide (48<=c/\c<=57)
def EM(c:Int):Option Int:=if 48<=c/\c<=57 then some (c-48) else if 97<=c/\c<=102 then some (c-97+10) else if 65<=c/\c<=70 then some (c-65+10) else none
def FQ:List Int->Option (Int×List Int)
 | h::l::r=>(EM h).bind fun a=>(EM l).map fun b=>(a*16+b,r)
 | _=>none
def Fz:List Int->Option (Int×List Int)
 | []=>none
 | c::r=>if c∈FE∨c=45 then some (c,r) else if c=110 then some (10,r) else if c=116 then some (9,r) else if c=114 then some (13,r) else if c=120 then FQ r else none
def Fv:List Int->Option (List Int×List Int)
 | []=>none
 | c::r=>if c=100 then some ([48,57],r) else if c=119 then some ([48,57,65,90,95,95,97,122],r) else if c=115 then some ([9,10,13,13,32,32],r) else none
def EE:List Int->Option (Int×List Int)
 | []=>none
 | c::r=>if c=92 then Fz r else if c=93∨c=91∨c=94∨c=45 then none else some (c,r)
def FT:List Int->Option (List Int×List Int)
 | []=>none
 | c::r=>if c=92 then Fv r else none
def CY(p:Nat->Bool)(lo hi:Int):Nat->Bool:=fun b=>p b||decide (lo<=(b:Int)/\(b:Int)<=hi)
def FW(p:Nat->Bool)(lo:Int):List Int->Option ((Nat->Bool)×List Int)
 | []=>some (CY p lo lo,[])
 | c::r=>if c=45 then (EE r).bind fun x=>if x.1<lo then none else some (CY p lo x.1,x.2) else some (CY p lo lo,c::r)
def FP(p:Nat->Bool)(s:List Int):Option ((Nat->Bool)×List Int):=
 match FT s with
 | some (cs,r)=>some (fun b=>p b||Gu cs b,r)
 | none=>(EE s).bind fun x=>FW p x.1 x.2
def DO:Nat->(Nat->Bool)->List Int->Option ((Nat->Bool)×List Int)
 | 0,_,_=>none
 | _+1,_,[]=>none
 | n+1,p,c::r=>if c=93 then some (p,r) else (FP p (c::r)).bind fun x=>DO n x.1 x.2
def cls:List Int->Option (List Int×List Int)
 | []=>none
 | c::r=>if c=94 then (DO (r.length+1) (fun _=>false) r).map fun x=>(vn (fun b=>!x.1 b),x.2) else (DO (r.length+2) (fun _=>false) (c::r)).map fun x=>(vn x.1,x.2)
def Gh(ds:List Int):Int:=ds.foldl (fun v c=>v*10+(c-48)) 0
def num1(s:List Int):Option (Int×List Int):=if (s.takeWhile FM).length=0∨4<(s.takeWhile FM).length then none else some (Gh (s.takeWhile FM),s.dropWhile FM)
def Gi(lo:Int):List Int->Option ((Int×Int)×List Int)
 | []=>none
 | c::r=>if c=125 then some ((lo,-1),r) else (num1 (c::r)).bind fun x=>if x.1<lo then none else match x.2 with
  | d::r2=>if d=125 then some ((lo,x.1),r2) else none
  | []=>none
def FV(lo:Int):List Int->Option ((Int×Int)×List Int)
 | []=>none
 | c::r=>if c=125 then some ((lo,lo),r) else if c=44 then Gi lo r else none
def GD(s:List Int):Option ((Int×Int)×List Int):=(num1 s).bind fun x=>FV x.1 x.2
def lx:List Int->Option (Tk×List Int)
 | []=>none
 | c::r =>
  if c=40 then some (.inr (.inr (.inl true)),r) else if c=41 then some (.inr (.inr (.inl false)),r) else if c=124 then some (.inr (.inr (.inr ())),r)
  else if c=42 then some (.inr (.inl (0,-1)),r) else if c=43 then some (.inr (.inl (1,-1)),r) else if c=63 then some (.inr (.inl (0,1)),r)
  else if c=123 then (GD r).map fun x=>(.inr (.inl (x.1.1,x.1.2)),x.2)
  else if c=46 then some (.inl [0,9,11,255],r)
  else if c=91 then (cls r).map fun x=>(.inl x.1,x.2)
  else if c=92 then (match Fv r with
   | some x=>some (.inl x.1,x.2)
   | none=>(Fz r).map fun x=>(.inl [x.1,x.1],x.2))
  else if c∈FE then none else some (.inl [c,c],r)
open Go.RowKit Go.Proofs.Tryz
set_option maxHeartbeats 16000000
set_option maxRecDepth 100000
def lj(w:World)(b:Nat)(t:TypeId)(c0 c1 c2:Value):Prop:=w.rowIs b t 3 (fun j=>[c0,c1,c2].getD j undef)
theorem lj.new(w:World)(t:TypeId)(c0 c1 c2:Value):lj (w.alloc (.cells #[c0,c1,c2] t)) w.heap.size t c0 c1 c2:=
 World.rowIs_alloc w #[c0,c1,c2] t _ (fun i hi=>by
  match i,hi with
  | 0,_=>rfl
  | 1,_=>rfl
  | 2,_=>rfl)
theorem lj.below{w w':World}{b m:Nat}{t:TypeId}{c0 c1 c2:Value}(h:lj w b t c0 c1 c2)(hb:Below m w w')(hm:b<m):lj w' b t c0 c1 c2:=World.rowIs.of_block h (hb.block b hm)
theorem lj.blk{w w':World}{b:Nat}{t:TypeId}{c0 c1 c2:Value}(h:lj w b t c0 c1 c2)(e:w'.heap[b]?=w.heap[b]?):lj w' b t c0 c1 c2:=World.rowIs.of_block h e
theorem lj.facts{w:World}{b:Nat}{t:TypeId}{c0 c1 c2:Value}(h:lj w b t c0 c1 c2):w.cell? ⟨b,0,none⟩=some c0/\w.cell? ⟨b,1,none⟩=some c1/\w.cell? ⟨b,2,none⟩=some c2:=
 ⟨World.rowIs.cell h (i:=0) (by omega),World.rowIs.cell h (i:=1) (by omega),World.rowIs.cell h (i:=2) (by omega)⟩
structure oH (xs:List Int) (nc:Int):Prop where
 cl:xs.length=256
 up:∀ b:Nat,b<256->0<=xs[b]?.getD 0/\xs[b]?.getD 0<=top xs b+1
 tp:top xs 256=nc-1
theorem oH.hn{xs:List Int}{nc:Int}(h:oH xs nc):1<=nc/\nc<=256:=by
 have h1:=zW xs 256 h.up;have h2:=h.up 0 (by omega);have h3:=tA xs 0;have h4:=mr xs 1 256 (by omega);have h5:=h.tp;have e0:top xs 0 = -1:=rfl;have e1:top xs (0+1)=top xs 1:=rfl;omega
theorem yW{xs ys:List Int}{zs:List Bool}{nc:Int}:jq xs ys zs nc↔(1<=zs.length/\zs.length<=1024)/\oH xs nc/\(ys.length:Int)=zs.length*nc/\∀ i:Nat,i<ys.length->0<=ys[i]?.getD 0/\ys[i]?.getD 0<zs.length:=
 ⟨fun h=>⟨h.st,⟨h.cl,h.up,h.tp⟩,h.nx,h.to⟩,fun h=>⟨h.1,h.2.1.hn,h.2.1.cl,h.2.1.up,h.2.1.tp,h.2.2.1,h.2.2.2⟩⟩
theorem qz(cl:Value)(xs:List Int)(nc:Int)(w:World)(h1:aP mI 0 0 w.heap.size w cl xs) :
  Calls prog 60 #[cl,.int .i64 nc] w fun e w'=>aF e (oH xs nc)/\w'=w:=by
 obtain⟨a1,c1,rfl,l1,f⟩:=h1;unfold maxLen at l1
 by_cases m3:xs.length=256
 ·have m3':((xs.length:Int)!=256)=false:=by simp;omega
  have M3:=ae m3;have m3n:256<=xs.length:=by omega
  have m3m:xs.length<=256:=by omega
  clear m3
  go_enter func60,ntmps60
  go_wp2
  go_loop [5,13] (fun t i=>∃ b:Nat,b<=256/\i=.int .i64 b/\t=.int .i64 (top xs b+1)/\∀ j:Nat,j<b->0<=xs[j]?.getD 0/\xs[j]?.getD 0<=top xs j+1) (fun _ i=>256-(intOf i).toNat)
  case atStart=>exact⟨0,Nat.zero_le _,rfl,rfl,fun j hj=>absurd hj (Nat.not_lt_zero _)⟩
  obtain⟨b,hb,rfl,rfl,g⟩:=hrel;have n:=zW xs b g;have k:=ae g;clear g
  by_cases hlt:b<256
  ·obtain⟨q,off,rfl,-,o,a⟩:=f (by omega);have hx:w.cell? ⟨q,off+b,none⟩=some (.int .i64 (xs[b]?.getD 0)):=a b (by omega);have m:(b:Int)<(xs.length:Int):=by omega
   have l:Hi (top xs (b+1)=if top xs b<xs[b]?.getD 0 then xs[b]?.getD 0 else top xs b):=rfl;have hP:Hi (∀ h:oH xs nc,0<=xs[b]?.getD 0/\xs[b]?.getD 0<=top xs b+1):=fun h=>h.up b hlt
   have c:Hi (0<=xs[b]?.getD 0/\xs[b]?.getD 0<=top xs b+1->∀ j:Nat,j<b+1->0<=xs[j]?.getD 0/\xs[j]?.getD 0<=top xs j+1):=fun hq j hj=>by
    by_cases e:j=b
    ·subst e;exact hq
    exact k.u j (by omega)
   clear a k f;generalize xs[b]?.getD 0=x at *;generalize top xs b=t at *
   by_cases g1:x<0
   ·go_wp2;go_ret;exact⟨aF.no (fun h=>by have:=hP.u h;omega),rfl⟩
   by_cases g2:t+1<x
   ·go_wp2;go_ret;exact⟨aF.no (fun h=>by have:=hP.u h;omega),rfl⟩
   by_cases g3:t<x
   ·have g4:(x==t+1)=true:=by simp;omega
    have g4':x=t+1:=by omega
    subst g4';go_wp2
    go_round
    case rel=>exact⟨b+1,by omega,by go_num,by rw[l.u,if_pos g3],c.u ⟨by omega,by omega⟩⟩
    simp[intOf];omega
   have g4:(x==t+1)=false:=by simp;omega
   go_wp2
   go_round
   case rel=>exact⟨b+1,by omega,by go_num,by rw[l.u,if_neg (by omega)],c.u ⟨by omega,by omega⟩⟩
   simp[intOf];omega
  obtain rfl:b=256:=by omega
  have m:¬ (256:Int)<(xs.length:Int):=by omega
  have d:=ae (show oH xs nc↔top xs 256=nc-1 from⟨fun h=>h.tp,fun h=>⟨M3.u,k.u,h⟩⟩);clear f;generalize top xs 256=t at *
  by_cases g1:t+1=nc
  ·subst g1;go_wp2;go_ret;exact⟨aF.yes (d.u.2 (by omega)),rfl⟩
  have g1':(t+1==nc)=false:=by simp;omega
  go_wp2;go_ret;exact⟨aF.no (fun h=>by have:=d.u.1 h;omega),rfl⟩
 have m3':((xs.length:Int)!=256)=true:=by simp;omega
 go_enter func60,ntmps60
 go_wp2;go_ret;exact⟨aF.no (fun h=>m3 h.cl),rfl⟩
theorem mL(cl nx ac:Value)(xs ys:List Int)(zs:List Bool)(nc:Int)(w:World)(h1:aP mI 0 0 w.heap.size w cl xs)(h2:aP mI 0 0 w.heap.size w nx ys)(h3:aP mT false 0 w.heap.size w ac zs) :
  Calls prog 24 #[.agg #[cl,.int .i64 nc,nx,ac]] w fun e w'=>aF e (jq xs ys zs nc)/\Below w.heap.size w w':=by
 obtain⟨a1,c1,rfl,l1,m⟩:=id h1;obtain⟨a2,c2,rfl,l2,d⟩:=id h2;obtain⟨a3,c3,rfl,l3,-⟩:=h3;unfold maxLen at l1 l2 l3;have H1:=ae (h1.below (ai w (.cells #[.slice a1 xs.length c1,.int .i64 nc,.slice a2 ys.length c2,.slice a3 zs.length c3] 33)) lR);clear h1
 by_cases n1:zs.length<1
 ·have n1':(zs.length:Int)<1:=by omega
  go_enter func24,ntmps24
  go_wp2_with fail;go_ret;exact⟨aF.no (fun h=>by have:=h.st;omega),ai w _⟩
 have n1':¬ (zs.length:Int)<1:=by omega
 by_cases n2:1024<zs.length
 ·have n2':1024<(zs.length:Int):=by omega
  go_enter func24,ntmps24
  go_wp2_with fail;go_ret;exact⟨aF.no (fun h=>by have:=h.st;omega),ai w _⟩
 have n2':¬ 1024<(zs.length:Int):=by omega
 go_enter func24,ntmps24
 go_wp2_with fail;refine(qz _ xs nc _ H1.u).mono ?_;rintro e w1 ⟨a,rfl⟩;rcases a.cases with ⟨rfl,hok⟩|⟨rfl,c⟩
 ·have hn:=hok.hn;have n:=ae hok;clear hok a;have p1:0<=(zs.length:Int)*nc:=Int.mul_nonneg (by omega) (by omega);have p2:(zs.length:Int)*nc<=1024*256:=Int.mul_le_mul (by omega) (by omega) (by omega) (by omega);have p3:wrap64 ((zs.length:Int)*nc)=(zs.length:Int)*nc:=xx p1 (by omega)
  by_cases g2:(ys.length:Int)=(zs.length:Int)*nc
  ·have g2':((ys.length:Int)!=(zs.length:Int)*nc)=false:=by simp[g2]
   have G2:=ae g2;clear g2;go_wp2
   go_loop [34] (fun i=>∃ k:Nat,k<=ys.length/\i=.int .i64 k/\∀ j:Nat,j<k->0<=ys[j]?.getD 0/\ys[j]?.getD 0<zs.length) (fun i=>ys.length-(intOf i).toNat)
   case atStart=>exact⟨0,Nat.zero_le _,rfl,fun j hj=>absurd hj (Nat.not_lt_zero _)⟩
   obtain⟨k,hk,rfl,f⟩:=hrel;have g:=ae f;clear f
   by_cases hlt:k<ys.length
   ·obtain⟨q,off,rfl,-,p,b⟩:=d (by omega);have hx:w.cell? ⟨q,off+k,none⟩=some (.int .i64 (ys[k]?.getD 0)):=b k (by omega);have o:(k:Int)<(ys.length:Int):=by omega
    clear b d m;generalize hX:ys[k]?.getD 0=x at *;have HX:=ae hX;clear hX
    by_cases f1:x<0
    ·go_wp2;go_ret;exact⟨aF.no (fun h=>by have:=h.to k hlt;rw[HX.u]at this;omega),ai w _⟩
    by_cases f2:(zs.length:Int)<=x
    ·go_wp2;go_ret;exact⟨aF.no (fun h=>by have:=h.to k hlt;rw[HX.u]at this;omega),ai w _⟩
    go_wp2
    go_round
    case rel=>exact⟨k+1,by omega,by go_num,fun j hj=>by
     by_cases e:j=k
     ·subst e;rw[HX.u];omega
     exact g.u j (by omega)⟩
    simp[intOf];omega
   obtain rfl:k=ys.length:=by omega
   go_wp2;go_ret;exact⟨aF.yes (yW.2 ⟨⟨by omega,by omega⟩,n.u,G2.u,g.u⟩),ai w _⟩
  have g2':((ys.length:Int)!=(zs.length:Int)*nc)=true:=by simp[g2]
  go_wp2;go_ret;exact⟨aF.no (fun h=>g2 h.nx),ai w _⟩
 have l:=ae c;clear c a;go_wp2;go_ret;exact⟨aF.no (fun h=>l.u (yW.1 h).2.1),ai w _⟩
theorem vm(cb co nb no n1 c1 n2 c2 n3 c3:Nat)(a3:Option Addr)(nc s bb c s':Int)(w:World)(hcb:cb<w.heap.size)(hnb:nb<w.heap.size)(hx3:w.cell? ⟨cb,co+bb.toNat,none⟩=some (.int .i64 c))(hx4:w.cell? ⟨nb,no+(s*nc+c).toNat,none⟩=some (.int .i64 s'))
  (hb0:0<=bb)(hb1:bb<(n1:Int))(hi0:0<=s*nc+c)(hi1:s*nc+c<(n2:Int))(y1:wrap64 (s*nc)=s*nc)(y2:wrap64 (s*nc+c)=s*nc+c) :
  Calls prog 25 #[.agg #[.slice (some ⟨cb,co,none⟩) n1 c1,.int .i64 nc,.slice (some ⟨nb,no,none⟩) n2 c2,.slice a3 n3 c3],.int .i64 s,.int .u8 bb] w fun e w'=>e=.returned (.int .i64 s')/\Below w.heap.size w w':=by
 have hA:=ai w (.cells #[.slice (some ⟨cb,co,none⟩) n1 c1,.int .i64 nc,.slice (some ⟨nb,no,none⟩) n2 c2,.slice a3 n3 c3] 33);have X3:=(hA.cell (p:=⟨cb,co+bb.toNat,none⟩) hcb).trans hx3;have X4:=(hA.cell (p:=⟨nb,no+(s*nc+c).toNat,none⟩) hnb).trans hx4;obtain⟨q0,q1,q2,q3,-⟩:=(aD.new w 33 (.slice (some ⟨cb,co,none⟩) n1 c1) (.int .i64 nc) (.slice (some ⟨nb,no,none⟩) n2 c2) (.slice a3 n3 c3)).facts;clear hx3 hx4
 go_enter func25,ntmps25
 go_wp2_with fail;generalize w.alloc (.cells #[.slice (some ⟨cb,co,none⟩) n1 c1,.int .i64 nc,.slice (some ⟨nb,no,none⟩) n2 c2,.slice a3 n3 c3] 33)=V at *
 go_quiet (fail);go_wp2;go_ret;exact⟨rfl,below_drewN hA _⟩
theorem qx(cl nx ac ln:Value)(xs ys bs:List Int)(zs:List Bool)(nc:Int)(w:World)(h1:aP mI 0 0 w.heap.size w cl xs)(h2:aP mI 0 0 w.heap.size w nx ys)(h3:aP mT false 0 w.heap.size w ac zs)(h4:aP mB 0 0 w.heap.size w ln bs)
  (hbb:∀ i:Nat,0<=bs[i]?.getD 0/\bs[i]?.getD 0<=255)(hl4:bs.length<=1048576) :
  Calls prog 10 #[.agg #[cl,.int .i64 nc,nx,ac],ln] w fun e w'=>Dq e w w' xs ys bs zs nc/\Below w.heap.size w w':=by
 obtain⟨a1,c1,rfl,l1,C⟩:=id h1;obtain⟨a2,c2,rfl,l2,D⟩:=id h2;obtain⟨a3,c3,rfl,l3,E⟩:=id h3;obtain⟨a4,c4,rfl,l4,F⟩:=h4;obtain⟨i0,hi,G,H,I⟩:=info_parts Tryz.zinInt;have H1:=ae (h1.below (ai w (.cells #[.slice a1 xs.length c1,.int .i64 nc,.slice a2 ys.length c2,.slice a3 zs.length c3] 33)) lR);have H2:=ae (h2.below (ai w (.cells #[.slice a1 xs.length c1,.int .i64 nc,.slice a2 ys.length c2,.slice a3 zs.length c3] 33)) lR);have H3:=ae (h3.below (ai w (.cells #[.slice a1 xs.length c1,.int .i64 nc,.slice a2 ys.length c2,.slice a3 zs.length c3] 33)) lR);have K:=ae hbb;clear h1 h2 h3 hbb
 go_enter func10,ntmps10
 go_wp2_with fail;refine(mL _ _ _ xs ys zs nc _ H1.u H2.u H3.u).mono ?_;rintro e w1 ⟨L,v⟩;have a7:=v.size;rw[ah]at a7;have J:Below w.heap.size w w1:=(ai w _).trans (v.mono (by rw[ah];omega));have RA:=ae ((aD.new w 33 (.slice a1 xs.length c1) (.int .i64 nc) (.slice a2 ys.length c2) (.slice a3 zs.length c3)).below v (by rw[ah];omega));clear v;rcases L.cases with ⟨rfl,hok⟩|⟨rfl,y⟩
 ·have a:=ae hok;clear hok;have y1:wrap64 ((bs.length:Int)+1)=(bs.length:Int)+1:=by unfold wrap64;omega
  go_wp2_with (refine wpList_make_own _ rfl _ _ 30 rfl w1.heap.size 3 i0 (.int .i64 0) 1 underlying30 hi G H .i64 .i64 ((bs.length:Int)+1) (bs.length+1) rfl rfl (by omega) ?_ ?_ ?_ ?_)
  ·rw[I];omega
  ·unfold maxLen;omega
  ·omega
  intro w2 l M;have N:Below w1.heap.size w1 w2:=(Below.refl _ _).grown M lR (fun k hk=>by cases hk);have an:=N.size;have d:=ae l;clear l M
  go_wp2_with (at_builtin;refine wpList_append_own _ rfl _ _ 30 rfl w1.heap.size 3 i0 (.int .i64 0) 1 8 underlying30 hi G H I rfl (by decide) _ _ _ rfl (d.u.alloc _) ⟨w2.heap.size,0,none⟩ 1 1 [.int .i64 0] rfl rfl ?_ ?_ ?_ ?_ ?_ ?_)
  ·exact dJ (by simp)
  ·intro u hu;simp at hu;subst hu;rfl
  ·unfold maxLen;omega
  ·omega
  ·rw[ah];omega
  intro v' w3 h5 o _;have f:=ae (ri (xs:=xs) (ys:=ys) (bs:=bs) (nc:=nc) (n:=0) (q:=0) d.u N (by simpa[gz,kM]using h5) o);have a8:=f.u.2.size;clear h5 o y1;go_wp2
  go_loopw [6,7,23] (fun st tv i wr=>∃ n:Nat,n<=bs.length/\i=.int .i64 n/\st=.int .i64 (kM xs ys bs nc n)/\wr.ownsRow w1.heap.size 3 1 tv (n+1) ((gz xs ys bs nc (n+1)).map mI)/\Below w1.heap.size w1 wr) (fun _ _ i _=>bs.length-(intOf i).toNat)
  case atStart=>exact⟨0,Nat.zero_le _,rfl,rfl,f.u.1,f.u.2⟩
  clear f a8 d;obtain⟨m,hn,rfl,rfl,A,hb⟩:=hrel;have O:=hb.size;have B:=ae A;have r:Below w.heap.size w wr:=J.trans (hb.mono J.size);have P:=Dp a.u K.u m;have ao:=a.u.st;obtain⟨q0,q1,q2,q3,-⟩:=aD.facts (RA.u.below hb (by omega));clear A
  by_cases hlt:m<bs.length
  ·have ap:(m:Int)<(bs.length:Int):=by omega
   obtain⟨lb,lo,rfl,-,a9,Q⟩:=F (by omega);have R:wr.cell? ⟨lb,lo+m,none⟩=some (.int .u8 (bs[m]?.getD 0)):=by rw[r.cell (p:=⟨lb,lo+m,none⟩) a9];exact Q m (by omega)
   have aa:=K.u m;have S:=a.u.cls (b:=(bs[m]?.getD 0).toNat) (by omega);have ab:=a.u.hn;have aq:=xU P.1 P.2 S.1 S.2 ab.2 (by omega);have T:=a.u.nx;have ad:=a.u.cl;obtain⟨cb,co,rfl,-,af,g⟩:=C (by omega);have U:wr.cell? ⟨cb,co+(bs[m]?.getD 0).toNat,none⟩=some (.int .i64 (xs[(bs[m]?.getD 0).toNat]?.getD 0)):=by rw[r.cell (p:=⟨cb,co+(bs[m]?.getD 0).toNat,none⟩) af];exact g _ (by omega)
   obtain⟨nb,no,rfl,-,ag,h⟩:=D (by omega);have V:wr.cell? ⟨nb,no+(kM xs ys bs nc m*nc+xs[(bs[m]?.getD 0).toNat]?.getD 0).toNat,none⟩=some (.int .i64 (kM xs ys bs nc (m+1))):=by rw[r.cell (p:=⟨nb,no+(kM xs ys bs nc m*nc+xs[(bs[m]?.getD 0).toNat]?.getD 0).toNat,none⟩) ag];exact h _ (by omega)
   have W:kM xs ys bs nc m*nc+xs[(bs[m]?.getD 0).toNat]?.getD 0<(ys.length:Int):=by omega
   have X:bs[m]?.getD 0<(xs.length:Int):=by omega
   clear Q g h T ad C D E F;generalize hS':kM xs ys bs nc (m+1)=s' at *;have Z:=ae hS';clear hS';generalize xs[(bs[m]?.getD 0).toNat]?.getD 0=c at *;generalize bs[m]?.getD 0=bb at *;generalize kM xs ys bs nc m=s at *;have y1:wrap64 (s*nc)=s*nc:=xx (by omega) (by omega);have y2:wrap64 (s*nc+c)=s*nc+c:=xx (by omega) (by omega);have y3:wrap64 bb=bb:=xx (by omega) (by omega);have y4:0<=s*nc+c:=by omega
   have Y:=ae (And.intro y1 (And.intro y2 (And.intro y3 y4)));have X3:=ae U;have X4:=ae V;clear y1 y2 y3 U V
   go_wp2_with fail;refine(vm cb co nb no _ _ _ _ _ _ _ nc s bb c s' wr (by omega) (by omega) X3.u X4.u aa.1 X Y.u.2.2.2 W Y.u.1 Y.u.2.1).mono ?_;rintro e w5 ⟨rfl,x⟩;have t:=ae (aG B.u x lR);have a0:Below w1.heap.size w1 w5:=hb.trans (x.mono O);have ar:=x.size;clear q0 q1 q2 q3 R x
   go_wp2_with (at_builtin;refine wpList_append_own _ rfl _ _ 30 rfl w1.heap.size 3 i0 (.int .i64 0) 1 8 underlying30 hi G H I rfl (by decide) _ _ _ rfl (World.ownsRow.alloc (w:=w5) t.u _) ⟨w5.heap.size,0,none⟩ 1 1 [.int .i64 s'] rfl rfl ?_ ?_ ?_ ?_ ?_ ?_)
   ·exact dJ (by simp)
   ·intro u hu;simp at hu;subst hu;rfl
   ·unfold maxLen;omega
   ·omega
   ·rw[ah];omega
   intro v' w2 h5 o _;have f:=ae (ri (n:=m+1) (q:=0) t.u a0 (by rw[Z.u];exact h5) o);clear h5 o;go_wp2
   go_roundw
   case rel=>exact⟨m+1,by omega,by go_num,by rw[Z.u],f.u.1,f.u.2⟩
   simp[intOf];omega
  obtain rfl:m=bs.length:=by omega
  obtain⟨zb,zo,rfl,-,al,j⟩:=E (by omega);have R:wr.cell? ⟨zb,zo+(kM xs ys bs nc bs.length).toNat,none⟩=some (.bool (zs[(kM xs ys bs nc bs.length).toNat]?.getD false)):=by rw[r.cell (p:=⟨zb,zo+(kM xs ys bs nc bs.length).toNat,none⟩) al];exact j _ (by omega)
  have a5:=ae (bP (lo:=w.heap.size) B.u (by omega) (by unfold maxLen;omega));clear j C D E F;generalize hS:kM xs ys bs nc bs.length=s at *;have HS:=ae hS;clear hS;generalize hZ:zs[s.toNat]?.getD false=z at *;have HZ:=ae hZ;clear hZ;go_wp2
  go_ret2;exact⟨Or.inr ⟨a.u,_,by rw[HS.u,HZ.u];rfl,a5.u⟩,r⟩
 have a6:=ae y;clear y;go_wp2
 go_ret2;exact⟨Or.inl ⟨a6.u,rfl⟩,J⟩
end Go.Proofs.YtpmcjimgkabpeaaGreatDoor
