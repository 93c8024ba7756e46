import Derived.Test.YtidfkbghlkcbeaaGreatDoorPk6
namespace Go.Proofs.YtidfkbghlkcbeaaGreatDoor
/-! A pattern's text as tokens,its grammar,and how a list of tokens is split at its last place. -/
abbrev Tk:=List Int ⊕ (Int×Int) ⊕ Bool ⊕ Unit
def wl:Nat->List Tk->Option Nat
 | d,[]=>some d
 | d,.inr (.inr (.inl true))::ts=>wl (d+1) ts
 | 0,.inr (.inr (.inl false))::_=>none
 | d+1,.inr (.inr (.inl false))::ts=>wl d ts
 | d,.inl _::ts=>wl d ts
 | d,.inr (.inr (.inr ()))::ts=>wl d ts
 | d,.inr (.inl _)::ts=>wl d ts
end Go.Proofs.YtidfkbghlkcbeaaGreatDoor
namespace Go.Proofs.YtidfkbghlkcbeaaGreatDoor
/-! The tokens of a pattern's text. -/
def Gg:List Int->Nat->Bool
 | lo::hi::xs,b=>decide (lo<=(b:Int)/\(b:Int)<=hi)||Gg xs b
 | _,_=>false
def lE(p:Nat->Bool)(b:Nat):List Int:=(if p b&&(b==0 || !p (b-1)) then [(b:Int)] else [])++(if p b&&(b==255 || !p (b+1)) then [(b:Int)] else [])
def wT(p:Nat->Bool):List Int:=(List.range 256).flatMap (lE p)
def EF:List Int:=[92,46,91,93,40,41,124,42,43,63,123,125,94,36]
def FD(c:Int):Bool:=decide (48<=c/\c<=57)
def Ep(c:Int):Option Int:=if 48<=c/\c<=57 then some (c-48) else if 97<=c/\c<=102 then some (c-97+10) else if 65<=c/\c<=70 then some (c-65+10) else none
def FT:List Int->Option (Int×List Int)
 | h::l::r=>(Ep h).bind fun a=>(Ep l).map fun b=>(a*16+b,r)
 | _=>none
def Ea:List Int->Option (Int×List Int)
 | []=>none
 | c::r=>if c∈EF∨c=45 then some (c,r) else if c=110 then some (10,r) else if c=116 then some (9,r) else if c=114 then some (13,r) else if c=120 then FT r else none
def ER:List Int->Option (List Int×List Int)
 | []=>none
 | c::r=>if c=100 then some ([48,57],r) else if c=119 then some ([48,57,65,90,95,95,97,122],r) else if c=115 then some ([9,10,13,13,32,32],r) else none
def Ew:List Int->Option (Int×List Int)
 | []=>none
 | c::r=>if c=92 then Ea r else if c=93∨c=91∨c=94∨c=45 then none else some (c,r)
def Gb:List Int->Option (List Int×List Int)
 | []=>none
 | c::r=>if c=92 then ER r else none
def Dd(p:Nat->Bool)(lo hi:Int):Nat->Bool:=fun b=>p b||decide (lo<=(b:Int)/\(b:Int)<=hi)
def FM(p:Nat->Bool)(lo:Int):List Int->Option ((Nat->Bool)×List Int)
 | []=>some (Dd p lo lo,[])
 | c::r=>if c=45 then (Ew r).bind fun x=>if x.1<lo then none else some (Dd p lo x.1,x.2) else some (Dd p lo lo,c::r)
def FQ(p:Nat->Bool)(s:List Int):Option ((Nat->Bool)×List Int):=
 match Gb s with
 | some (cs,r)=>some (fun b=>p b||Gg cs b,r)
 | none=>(Ew s).bind fun x=>FM p x.1 x.2
def Dr:Nat->(Nat->Bool)->List Int->Option ((Nat->Bool)×List Int)
 | 0,_,_=>none
 | _+1,_,[]=>none
 | n+1,p,c::r=>if c=93 then some (p,r) else (FQ p (c::r)).bind fun x=>Dr n x.1 x.2
def cls:List Int->Option (List Int×List Int)
 | []=>none
 | c::r=>if c=94 then (Dr (r.length+1) (fun _=>false) r).map fun x=>(wT (fun b=>!x.1 b),x.2) else (Dr (r.length+2) (fun _=>false) (c::r)).map fun x=>(wT x.1,x.2)
def FK(ds:List Int):Int:=ds.foldl (fun v c=>v*10+(c-48)) 0
def num1(s:List Int):Option (Int×List Int):=if (s.takeWhile FD).length=0∨4<(s.takeWhile FD).length then none else some (FK (s.takeWhile FD),s.dropWhile FD)
def FY(lo:Int):List Int->Option ((Int×Int)×List Int)
 | []=>none
 | c::r=>if c=125 then some ((lo,-1),r) else (num1 (c::r)).bind fun x=>if x.1<lo then none else match x.2 with
  | d::r2=>if d=125 then some ((lo,x.1),r2) else none
  | []=>none
def FV(lo:Int):List Int->Option ((Int×Int)×List Int)
 | []=>none
 | c::r=>if c=125 then some ((lo,lo),r) else if c=44 then FY lo r else none
def Gp(s:List Int):Option ((Int×Int)×List Int):=(num1 s).bind fun x=>FV x.1 x.2
def lx:List Int->Option (Tk×List Int)
 | []=>none
 | c::r =>
  if c=40 then some (.inr (.inr (.inl true)),r) else if c=41 then some (.inr (.inr (.inl false)),r) else if c=124 then some (.inr (.inr (.inr ())),r)
  else if c=42 then some (.inr (.inl (0,-1)),r) else if c=43 then some (.inr (.inl (1,-1)),r) else if c=63 then some (.inr (.inl (0,1)),r)
  else if c=123 then (Gp r).map fun x=>(.inr (.inl (x.1.1,x.1.2)),x.2)
  else if c=46 then some (.inl [0,9,11,255],r)
  else if c=91 then (cls r).map fun x=>(.inl x.1,x.2)
  else if c=92 then (match ER r with
   | some x=>some (.inl x.1,x.2)
   | none=>(Ea r).map fun x=>(.inl [x.1,x.1],x.2))
  else if c∈EF then none else some (.inl [c,c],r)
open Go.RowKit Go.Proofs.Tryz
set_option maxHeartbeats 16000000
set_option maxRecDepth 100000
theorem vC{base e n:Nat}{w w':World}{v:Value}{xs:List Value}(h:w.ownsRow base e 1 v n xs)(hb:base<=w.heap.size)(hg:w.grownBy w' v.ownBlock):Below base w w':=(Below.refl base w).grown hg hb (fun k hk=>(h.lt k hk).1)
theorem ge{w:World}{ops:Array Oper}{rest:List Oper}{o:Oper}{a:Act}{Q:Exit->Act->World->Prop}(hgd:o.guard=none)(s x:Operand)
  (ho:o.op=.call { callee:=.builtin .append,args:=#[s,x],argTypes:=#[27,27] })(base:Nat)(v:Value)(hs:a.eval s=v)(y:Int)(hx:a.eval x=.slice (some ⟨w.heap.size,0,none⟩) 1 1)(n:Nat)(xs:List Int)(hn:n=xs.length)
  (h1:w.ownsRow base 3 1 v n (xs.map mI))(hb:base<=w.heap.size)(hl:n<=1000000)
  (h:∀ v' w',w'.ownsRow base 3 1 v' (n+1) ((xs++[y]).map mI)->Below base w w'->wpList prog ops Q rest (a.put o.dst v') w'):wpList prog ops Q (o::rest) a (w.alloc (.cells #[.int .i64 y] 3)):=by
 subst hn;obtain⟨i0,hi,b,c,d⟩:=info_parts Tryz.zinInt;refine wpList_append_own_at _ hgd s x 27 ho base 3 i0 (.int .i64 0) 1 8 underlying27 hi b c d rfl (by decide) v xs.length (xs.map mI) hs (h1.alloc _) ⟨w.heap.size,0,none⟩ 1 1 [.int .i64 y] hx rfl (fun j y hj=>by
  match j,hj with
  | 0,hj=>exact(ay w _).news 0 _ hj) (fun u hu=>by rw[List.mem_singleton]at hu;subst hu;rfl) (by unfold maxLen;omega) (by omega) (by rw[ah];omega) ?_
 intro v' w' r1 r2 _ r3;refine h v' w' ?_ ((ai w _).mono hb |>.trans (vC (h1.alloc _) (by rw[ah];omega) r2));rw[List.map_append];exact r1
def gz(w:World)(mb:Nat)(p:Nat->Bool):Prop:=w.rowIs mb 4 256 (fun j=>.bool (p j))
def gQ(p:Nat->Bool)(k:Nat):List Int:=(List.range k).flatMap (lE p)
theorem jm(p:Nat->Bool)(k:Nat):gQ p (k+1)=gQ p k++lE p k:=by unfold gQ;rw[List.range_succ,List.flatMap_append];simp
theorem Dn{p:Nat->Bool}{k:Nat}(h:p k=false):lE p k=[]:=by simp[lE,h]
theorem fX{p:Nat->Bool}{k:Nat}(h:p k=true)(s c:Bool)(hs:(k==0 || !p (k-1))=s)(hc:(k==255 || !p (k+1))=c):lE p k=(if s then [(k:Int)] else [])++(if c then [(k:Int)] else []):=by
 simp only[lE,h,hs,hc,Bool.true_and]
theorem Fg{p:Nat->Bool}{k:Nat}(h:k=0):(k==0 || !p (k-1))=true:=by rw[h];rfl
theorem DB{p:Nat->Bool}{k:Nat}(h:p (k-1)=false):(k==0 || !p (k-1))=true:=by rw[h];simp
theorem Da{p:Nat->Bool}{k:Nat}(h0:¬ k=0)(h:p (k-1)=true):(k==0 || !p (k-1))=false:=by rw[h];simp[h0]
theorem Fy{p:Nat->Bool}{k:Nat}(h:k=255):(k==255 || !p (k+1))=true:=by rw[h];rfl
theorem CK{p:Nat->Bool}{k:Nat}(h:p (k+1)=false):(k==255 || !p (k+1))=true:=by rw[h];simp
theorem DR{p:Nat->Bool}{k:Nat}(h0:¬ k=255)(h:p (k+1)=true):(k==255 || !p (k+1))=false:=by rw[h];simp[h0]
theorem qM(A B C:List Int):(A++B++C).length=A.length+B.length+C.length:=by rw[List.length_append,List.length_append]
theorem Cg(p:Nat->Bool)(k:Nat):(lE p k).length<=2:=by
 unfold lE;rw[List.length_append]
 split<;>split<;>simp
theorem qD(p:Nat->Bool):∀ k,(gQ p k).length<=2*k
 | 0=>by simp[gQ]
 | k+1=>by
  rw[jm,List.length_append];have:=qD p k;have:=Cg p k;omega
theorem kh(mb:Nat)(p:Nat->Bool)(w:World)(hm:gz w mb p) :
  Calls prog 120 #[.slice (some ⟨mb,0,none⟩) 256 256] w fun e w'=>∃ v,e=.returned v/\w'.ownsRow w.heap.size 3 1 v (wT p).length ((wT p).map mI)/\Below w.heap.size w w':=by
 have q:=Dg hm;have HM:=ae hm;clear hm
 go_enter func120,ntmps120
 go_wp2_with fail
 go_loopw [3,4] (fun ov bv wr=>∃ (k n:Nat),k<=256/\bv=.int .i64 (k:Nat)/\n=(gQ p k).length/\wr.ownsRow w.heap.size 3 1 ov n ((gQ p k).map mI)/\Below w.heap.size w wr) (fun _ bv _=>256-(intOf bv).toNat)
 case atStart=>exact⟨0,0,by omega,rfl,rfl,World.ownsRow_nil _ _ _ _,Below.refl _ _⟩
 obtain⟨k,n,hk,rfl,hn,s,hB⟩:=hrel;obtain⟨w3,rfl⟩ : ∃ w3,w3=wr:=⟨_,rfl⟩;obtain⟨oa,oc,rfl⟩:=aj s;have t:=hB.size;have A:n<=600:=by rw[hn];have:=qD p k;omega
 have HO:=ae s;have HB:=ae hB;have HN:=ae hn;have rM:=HM.u.of_block (hB.block mb q);clear s hB hn
 by_cases hlt:k<256
 ·have z:(k:Int)<256:=by omega
  have x0:=rM.cell (i:=k) hlt;have x:Hi (n+1=(gQ p k++[(k:Int)]).length):=by show _=_;rw[List.length_append,List.length_singleton,<-HN.u]
  cases hp:p k with
  | false =>
   rw[hp]at x0;have HE:Hi (gQ p (k+1)=gQ p k):=by show _=_;rw[jm,Dn hp,List.append_nil]
   clear rM hp;go_wp2
   go_roundw
   case rel=>exact⟨k+1,n,by omega,by go_num,by rw[HE.u];exact HN.u,by rw[HE.u];exact HO.u,HB.u⟩
   simp[intOf];omega
  | true =>
   rw[hp]at x0
   by_cases k0:k=0
   ·by_cases k5:k=255
    ·omega
    cases p2:p (k+1) with
    | false =>
     have HE:Hi (gQ p (k+1)=gQ p k++[(k:Int)]++[(k:Int)]):=by
      show _=_;rw[jm,fX hp true true (Fg k0) (CK p2),List.append_assoc]
      rfl
     have kk0:((k:Int)==0)=true:=by simp;omega
     have kk5:((k:Int)==255)=false:=by simp;omega
     have kk6:(k:Int)+1<256:=by omega
     have h:Hi (∀ W:World,Below w.heap.size w W->W.cell? ⟨mb,0+(k+1),none⟩=some (.bool false)):=fun W hW=>by
      have h9:=(HM.u.of_block (hW.block mb q)).cell (i:=k+1) (by omega);rw[p2]at h9;rw[Nat.zero_add];exact h9
     clear rM hp p2 k0 k5
     go_wp2_with (at_builtin;refine ge rfl _ _ rfl w.heap.size (.slice oa n oc) rfl (k:Int) rfl n (gQ p k) HN.u HO.u t (by omega) ?_)
     intro v4 w4 a c;obtain⟨o4,d4,rfl⟩:=aj a;obtain⟨L4,b⟩ : ∃ L4,L4=gQ p k++[(k:Int)]:=⟨_,rfl⟩
     replace a:w4.ownsRow w.heap.size 3 1 (.slice o4 (n+1) d4) (n+1) (L4.map mI):=by rw[b,List.map_append];exact a
     have j:=ae b;have r:Hi (n+1=L4.length):=by rw[b];exact x.u
     clear b;have l:=ae a;have g:=ae (HB.u.trans c);have y:=c.size;have x2:=h.u w4 g.u;rw[Nat.zero_add]at x2;clear a c
     go_wp2_with (at_builtin;refine ge rfl _ _ rfl w.heap.size (.slice o4 (n+1) d4) rfl (k:Int) rfl (n+1) L4 r.u l.u (by omega) (by omega) ?_)
     intro v5 w5 d f;obtain⟨o5,d5,rfl⟩:=aj d;have m:=ae d;have o:=ae (g.u.trans f);clear d f;go_wp2
     go_roundw
     case rel=>exact⟨k+1,n+1+1,by omega,by go_num,by rw[HE.u,qM,<-HN.u];rfl,by rw[HE.u,<-j.u];simpa using m.u,o.u⟩
     simp[intOf];omega
    | true =>
     have HE:Hi (gQ p (k+1)=gQ p k++[(k:Int)]++[]):=by
      show _=_;rw[jm,fX hp true false (Fg k0) (DR k5 p2),List.append_assoc]
      rfl
     have kk0:((k:Int)==0)=true:=by simp;omega
     have kk5:((k:Int)==255)=false:=by simp;omega
     have kk6:(k:Int)+1<256:=by omega
     have h:Hi (∀ W:World,Below w.heap.size w W->W.cell? ⟨mb,0+(k+1),none⟩=some (.bool true)):=fun W hW=>by
      have h9:=(HM.u.of_block (hW.block mb q)).cell (i:=k+1) (by omega);rw[p2]at h9;rw[Nat.zero_add];exact h9
     clear rM hp p2 k0 k5
     go_wp2_with (at_builtin;refine ge rfl _ _ rfl w.heap.size (.slice oa n oc) rfl (k:Int) rfl n (gQ p k) HN.u HO.u t (by omega) ?_)
     intro v4 w4 a c;obtain⟨o4,d4,rfl⟩:=aj a;obtain⟨L4,b⟩ : ∃ L4,L4=gQ p k++[(k:Int)]:=⟨_,rfl⟩
     replace a:w4.ownsRow w.heap.size 3 1 (.slice o4 (n+1) d4) (n+1) (L4.map mI):=by rw[b,List.map_append];exact a
     have j:=ae b;have r:Hi (n+1=L4.length):=by rw[b];exact x.u
     clear b;have l:=ae a;have g:=ae (HB.u.trans c);have y:=c.size;have x2:=h.u w4 g.u;rw[Nat.zero_add]at x2;clear a c;go_wp2
     go_roundw
     case rel=>exact⟨k+1,n+1,by omega,by go_num,by rw[HE.u,qM,<-HN.u];rfl,by rw[HE.u,<-j.u];simpa using l.u,g.u⟩
     simp[intOf];omega
   cases p1:p (k-1) with
   | false =>
    by_cases k5:k=255
    ·have HE:Hi (gQ p (k+1)=gQ p k++[(k:Int)]++[(k:Int)]):=by
      show _=_;rw[jm,fX hp true true (DB p1) (Fy k5),List.append_assoc]
      rfl
     have kk0:((k:Int)==0)=false:=by simp;omega
     have kk1:(0:Int)<=(k:Int)-1:=by omega
     have kk2:(k:Int)-1<256:=by omega
     have x1:=rM.cell (i:=k-1) (by omega);rw[p1]at x1;have kk3:((k:Int)-1).toNat=k-1:=by omega
     have kk5:((k:Int)==255)=true:=by simp;omega
     clear rM hp p1 k0 k5
     go_wp2_with (at_builtin;refine ge rfl _ _ rfl w.heap.size (.slice oa n oc) rfl (k:Int) rfl n (gQ p k) HN.u HO.u t (by omega) ?_)
     intro v4 w4 a c;obtain⟨o4,d4,rfl⟩:=aj a;obtain⟨L4,b⟩ : ∃ L4,L4=gQ p k++[(k:Int)]:=⟨_,rfl⟩
     replace a:w4.ownsRow w.heap.size 3 1 (.slice o4 (n+1) d4) (n+1) (L4.map mI):=by rw[b,List.map_append];exact a
     have j:=ae b;have r:Hi (n+1=L4.length):=by rw[b];exact x.u
     clear b;have l:=ae a;have g:=ae (HB.u.trans c);have y:=c.size;clear a c
     go_wp2_with (at_builtin;refine ge rfl _ _ rfl w.heap.size (.slice o4 (n+1) d4) rfl (k:Int) rfl (n+1) L4 r.u l.u (by omega) (by omega) ?_)
     intro v5 w5 d f;obtain⟨o5,d5,rfl⟩:=aj d;have m:=ae d;have o:=ae (g.u.trans f);clear d f;go_wp2
     go_roundw
     case rel=>exact⟨k+1,n+1+1,by omega,by go_num,by rw[HE.u,qM,<-HN.u];rfl,by rw[HE.u,<-j.u];simpa using m.u,o.u⟩
     simp[intOf];omega
    cases p2:p (k+1) with
    | false =>
     have HE:Hi (gQ p (k+1)=gQ p k++[(k:Int)]++[(k:Int)]):=by
      show _=_;rw[jm,fX hp true true (DB p1) (CK p2),List.append_assoc]
      rfl
     have kk0:((k:Int)==0)=false:=by simp;omega
     have kk1:(0:Int)<=(k:Int)-1:=by omega
     have kk2:(k:Int)-1<256:=by omega
     have x1:=rM.cell (i:=k-1) (by omega);rw[p1]at x1;have kk3:((k:Int)-1).toNat=k-1:=by omega
     have kk5:((k:Int)==255)=false:=by simp;omega
     have kk6:(k:Int)+1<256:=by omega
     have h:Hi (∀ W:World,Below w.heap.size w W->W.cell? ⟨mb,0+(k+1),none⟩=some (.bool false)):=fun W hW=>by
      have h9:=(HM.u.of_block (hW.block mb q)).cell (i:=k+1) (by omega);rw[p2]at h9;rw[Nat.zero_add];exact h9
     clear rM hp p1 p2 k0 k5
     go_wp2_with (at_builtin;refine ge rfl _ _ rfl w.heap.size (.slice oa n oc) rfl (k:Int) rfl n (gQ p k) HN.u HO.u t (by omega) ?_)
     intro v4 w4 a c;obtain⟨o4,d4,rfl⟩:=aj a;obtain⟨L4,b⟩ : ∃ L4,L4=gQ p k++[(k:Int)]:=⟨_,rfl⟩
     replace a:w4.ownsRow w.heap.size 3 1 (.slice o4 (n+1) d4) (n+1) (L4.map mI):=by rw[b,List.map_append];exact a
     have j:=ae b;have r:Hi (n+1=L4.length):=by rw[b];exact x.u
     clear b;have l:=ae a;have g:=ae (HB.u.trans c);have y:=c.size;have x2:=h.u w4 g.u;rw[Nat.zero_add]at x2;clear a c
     go_wp2_with (at_builtin;refine ge rfl _ _ rfl w.heap.size (.slice o4 (n+1) d4) rfl (k:Int) rfl (n+1) L4 r.u l.u (by omega) (by omega) ?_)
     intro v5 w5 d f;obtain⟨o5,d5,rfl⟩:=aj d;have m:=ae d;have o:=ae (g.u.trans f);clear d f;go_wp2
     go_roundw
     case rel=>exact⟨k+1,n+1+1,by omega,by go_num,by rw[HE.u,qM,<-HN.u];rfl,by rw[HE.u,<-j.u];simpa using m.u,o.u⟩
     simp[intOf];omega
    | true =>
     have HE:Hi (gQ p (k+1)=gQ p k++[(k:Int)]++[]):=by
      show _=_;rw[jm,fX hp true false (DB p1) (DR k5 p2),List.append_assoc]
      rfl
     have kk0:((k:Int)==0)=false:=by simp;omega
     have kk1:(0:Int)<=(k:Int)-1:=by omega
     have kk2:(k:Int)-1<256:=by omega
     have x1:=rM.cell (i:=k-1) (by omega);rw[p1]at x1;have kk3:((k:Int)-1).toNat=k-1:=by omega
     have kk5:((k:Int)==255)=false:=by simp;omega
     have kk6:(k:Int)+1<256:=by omega
     have h:Hi (∀ W:World,Below w.heap.size w W->W.cell? ⟨mb,0+(k+1),none⟩=some (.bool true)):=fun W hW=>by
      have h9:=(HM.u.of_block (hW.block mb q)).cell (i:=k+1) (by omega);rw[p2]at h9;rw[Nat.zero_add];exact h9
     clear rM hp p1 p2 k0 k5
     go_wp2_with (at_builtin;refine ge rfl _ _ rfl w.heap.size (.slice oa n oc) rfl (k:Int) rfl n (gQ p k) HN.u HO.u t (by omega) ?_)
     intro v4 w4 a c;obtain⟨o4,d4,rfl⟩:=aj a;obtain⟨L4,b⟩ : ∃ L4,L4=gQ p k++[(k:Int)]:=⟨_,rfl⟩
     replace a:w4.ownsRow w.heap.size 3 1 (.slice o4 (n+1) d4) (n+1) (L4.map mI):=by rw[b,List.map_append];exact a
     have j:=ae b;have r:Hi (n+1=L4.length):=by rw[b];exact x.u
     clear b;have l:=ae a;have g:=ae (HB.u.trans c);have y:=c.size;have x2:=h.u w4 g.u;rw[Nat.zero_add]at x2;clear a c;go_wp2
     go_roundw
     case rel=>exact⟨k+1,n+1,by omega,by go_num,by rw[HE.u,qM,<-HN.u];rfl,by rw[HE.u,<-j.u];simpa using l.u,g.u⟩
     simp[intOf];omega
   | true =>
    by_cases k5:k=255
    ·have HE:Hi (gQ p (k+1)=gQ p k++[]++[(k:Int)]):=by
      show _=_;rw[jm,fX hp false true (Da k0 p1) (Fy k5),List.append_assoc]
      rfl
     have kk0:((k:Int)==0)=false:=by simp;omega
     have kk1:(0:Int)<=(k:Int)-1:=by omega
     have kk2:(k:Int)-1<256:=by omega
     have x1:=rM.cell (i:=k-1) (by omega);rw[p1]at x1;have kk3:((k:Int)-1).toNat=k-1:=by omega
     have kk5:((k:Int)==255)=true:=by simp;omega
     clear rM hp p1 k0 k5
     go_wp2_with (at_builtin;refine ge rfl _ _ rfl w.heap.size (.slice oa n oc) rfl (k:Int) rfl (n) (gQ p k) HN.u HO.u (by omega) (by omega) ?_)
     intro v5 w5 d f;obtain⟨o5,d5,rfl⟩:=aj d;have m:=ae d;have o:=ae (HB.u.trans f);clear d f;go_wp2
     go_roundw
     case rel=>exact⟨k+1,n+1,by omega,by go_num,by rw[HE.u,qM,<-HN.u];rfl,by rw[HE.u];simpa using m.u,o.u⟩
     simp[intOf];omega
    cases p2:p (k+1) with
    | false =>
     have HE:Hi (gQ p (k+1)=gQ p k++[]++[(k:Int)]):=by
      show _=_;rw[jm,fX hp false true (Da k0 p1) (CK p2),List.append_assoc]
      rfl
     have kk0:((k:Int)==0)=false:=by simp;omega
     have kk1:(0:Int)<=(k:Int)-1:=by omega
     have kk2:(k:Int)-1<256:=by omega
     have x1:=rM.cell (i:=k-1) (by omega);rw[p1]at x1;have kk3:((k:Int)-1).toNat=k-1:=by omega
     have kk5:((k:Int)==255)=false:=by simp;omega
     have kk6:(k:Int)+1<256:=by omega
     have h:Hi (∀ W:World,Below w.heap.size w W->W.cell? ⟨mb,0+(k+1),none⟩=some (.bool false)):=fun W hW=>by
      have h9:=(HM.u.of_block (hW.block mb q)).cell (i:=k+1) (by omega);rw[p2]at h9;rw[Nat.zero_add];exact h9
     have x2:=h.u w3 HB.u;rw[Nat.zero_add]at x2;clear rM hp p1 p2 k0 k5
     go_wp2_with (at_builtin;refine ge rfl _ _ rfl w.heap.size (.slice oa n oc) rfl (k:Int) rfl (n) (gQ p k) HN.u HO.u (by omega) (by omega) ?_)
     intro v5 w5 d f;obtain⟨o5,d5,rfl⟩:=aj d;have m:=ae d;have o:=ae (HB.u.trans f);clear d f;go_wp2
     go_roundw
     case rel=>exact⟨k+1,n+1,by omega,by go_num,by rw[HE.u,qM,<-HN.u];rfl,by rw[HE.u];simpa using m.u,o.u⟩
     simp[intOf];omega
    | true =>
     have HE:Hi (gQ p (k+1)=gQ p k++[]++[]):=by
      show _=_;rw[jm,fX hp false false (Da k0 p1) (DR k5 p2),List.append_assoc]
      rfl
     have kk0:((k:Int)==0)=false:=by simp;omega
     have kk1:(0:Int)<=(k:Int)-1:=by omega
     have kk2:(k:Int)-1<256:=by omega
     have x1:=rM.cell (i:=k-1) (by omega);rw[p1]at x1;have kk3:((k:Int)-1).toNat=k-1:=by omega
     have kk5:((k:Int)==255)=false:=by simp;omega
     have kk6:(k:Int)+1<256:=by omega
     have h:Hi (∀ W:World,Below w.heap.size w W->W.cell? ⟨mb,0+(k+1),none⟩=some (.bool true)):=fun W hW=>by
      have h9:=(HM.u.of_block (hW.block mb q)).cell (i:=k+1) (by omega);rw[p2]at h9;rw[Nat.zero_add];exact h9
     have x2:=h.u w3 HB.u;rw[Nat.zero_add]at x2;clear rM hp p1 p2 k0 k5;go_wp2
     go_roundw
     case rel=>exact⟨k+1,n,by omega,by go_num,by rw[HE.u,qM,<-HN.u];rfl,by rw[HE.u];simpa using HO.u,HB.u⟩
     simp[intOf];omega
 obtain rfl:k=256:=by omega
 go_wp2;go_ret;refine⟨_,rfl,?_,HB.u⟩;show w3.ownsRow _ _ _ (.slice oa n oc) (gQ p 256).length _;rw[<-HN.u];exact HO.u
theorem gz.eq{w:World}{mb:Nat}{p p':Nat->Bool}(h:gz w mb p)(e:∀ j,j<256->p' j=p j):gz w mb p':=World.rowIs.congr h (fun j hj=>by rw[e j hj])
theorem gz.put{w:World}{mb:Nat}{p:Nat->Bool}(h:gz w mb p)(k:Nat)(v:Bool):gz (w.setCell ⟨mb,k,none⟩ (.bool v)) mb (fun j=>if j=k then v else p j):=(World.rowIs.set h k (.bool v)).congr (fun j hj=>by by_cases e:j=k<;>simp[e])
theorem vP(w:World):gz (w.alloc (.cells (madeCells #[.bool false] 256) 4)) w.heap.size (fun _=>false):=World.rowIs_made w (.bool false) 256 4
end Go.Proofs.YtidfkbghlkcbeaaGreatDoor
namespace Go.Proofs.YtidfkbghlkcbeaaGreatDoor
/-! Reading a text from left to right. -/
end Go.Proofs.YtidfkbghlkcbeaaGreatDoor
namespace Go.Proofs.YtidfkbghlkcbeaaGreatDoor
/-! The limits of a text,by its tokens;what both readers answer. -/
end Go.Proofs.YtidfkbghlkcbeaaGreatDoor
