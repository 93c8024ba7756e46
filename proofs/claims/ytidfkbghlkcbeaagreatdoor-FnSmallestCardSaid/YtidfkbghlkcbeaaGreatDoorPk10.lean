import Derived.Test.YtidfkbghlkcbeaaGreatDoorPk9
import Derived.Test.YtidfkbghlkcbeaaGreatDoorPk8
import Derived.Laws.Tables
namespace Go.Proofs.YtidfkbghlkcbeaaGreatDoor
open Go.RowKit Go.Proofs.Tryz
set_option maxHeartbeats 16000000
set_option maxRecDepth 100000
theorem uF(xs:List Int)(k b:Nat):nO xs k b=true↔∃ j:Nat,j<k/\xs[2*j]?.getD 0<=(b:Int)/\(b:Int)<=xs[2*j+1]?.getD 0:=by
 induction k with
 | zero=>simp[nO]
 | succ k ih =>
  simp only[nO,Bool.or_eq_true,decide_eq_true_eq,ih]
  constructor
  ·rintro(⟨j,h1,h2⟩|h)
   ·exact⟨j,by omega,h2⟩
   exact⟨k,by omega,h⟩
  rintro⟨j,h1,h2⟩
  by_cases e:j=k
  ·subst e;exact Or.inr h2
  exact Or.inl ⟨j,by omega,h2⟩
theorem tR{xs:List Int}(h:cZ xs)(j:Nat):∀ d:Nat,2*(j+d+1)<xs.length->xs[2*j+1]?.getD 0+2<=xs[2*(j+d+1)]?.getD 0:=by
 intro d
 induction d with
 | zero =>
  intro hlt;have h1:=(h.2.2 (j+1) (by omega)).2 (by omega);rw[show 2*(j+1)-1=2*j+1 by omega]at h1;rw[show j+0+1=j+1 by omega];omega
 | succ d ih =>
  intro hlt;have h0:=ih (by omega);have h1:=(h.2.2 (j+d+1+1) (by omega)).2 (by omega);have h2:=(h.2.2 (j+d+1) (by omega)).1;rw[show 2*(j+d+1+1)-1=2*(j+d+1)+1 by omega]at h1;rw[show j+(d+1)+1=j+d+1+1 by omega];omega
def cut(xs:List Int)(m b:Nat):List Int:=(xs.take (2*m)).set (2*m-1) (min (xs[2*m-1]?.getD 0) ((b:Int)-1))
theorem BD(a i:Nat)(ha:a<18446744073709551616):(bits .and .u64 ((a:Int) / 2 ^ i) 1==1)=a.testBit i:=by
 have h1:(a:Int) / 2 ^ i=((a / 2 ^ i:Nat):Int):=by rw[Int.natCast_ediv,Int.natCast_pow];rfl
 have h2:a / 2 ^ i<18446744073709551616:=Nat.lt_of_le_of_lt (Nat.div_le_self _ _) ha;rw[h1,show(1:Int)=((1:Nat):Int) from rfl,bits_and_u64_nat _ _ h2 (by omega),Nat.and_one_is_mod,Nat.testBit_eq_decide_div_mod_eq]
 by_cases e:a / 2 ^ i%2=1
 ·simp[e]
 have e0:a / 2 ^ i%2=0:=by omega
 simp[e0]
theorem Ex(g:Nat->Nat)(b:Nat)(w:World)(hg:Fit g)(hb:b<256) :
  Calls prog 112 #[gb g,.int .i64 b] w fun e w'=>e=.returned (.bool (Bt g b))/\Below w.heap.size w w':=by
 unfold gb;have c:Hi ((bits .and .u64 ((g (b / 64):Int) / 2 ^ (b%64)) 1==1)=Bt g b):=BD _ _ (hg _);have a:=ib w 88 g;have hq:b / 64<4:=by omega
 have c0:=a.cell hq;have d:(b:Int) / 64<4:=by omega
 have f:0<=(b:Int) / 64:=by omega
 clear a hg
 go_enter func112,ntmps112
 go_wp2;go_ret;exact⟨zJ c.u,ai w _⟩
theorem zY{xs:List Int}(h:cZ xs):∀ j:Nat,2*j<xs.length->2*(j:Int)<=xs[2*j]?.getD 0:=by
 intro j
 induction j with
 | zero=>intro hlt;have:=(h.2.1 0 hlt).1;simpa using this
 | succ j ih =>
  intro hlt;have h1:=ih (by omega);have h2:=(h.2.2 j (by omega)).1;have h3:=tR h j 0 (by omega);rw[show j+0+1=j+1 by omega]at h3;omega
/-! The values of the nodes. -/
def eV:Value:=.iface 178 (.agg #[])
def sV(g:Nat->Nat):Value:=.iface 91 (gb g)
def cV(u v:Value):Value:=.iface 95 (.agg #[u,v])
def aV(u v:Value):Value:=.iface 142 (.agg #[u,v])
def rV(u:Value)(mn mx:Int):Value:=.iface 93 (.agg #[u,.int .i64 mn,.int .i64 mx])
theorem tV{w:World}{B:Nat}{b:Bool}{f l:Nat->Nat}(h:w.heap[B]?=some (.cells #[.bool b,.int .u64 (f 0:Nat),.int .u64 (f 1:Nat),.int .u64 (f 2:Nat),.int .u64 (f 3:Nat),.int .u64 (f 4:Nat),.int .u64 (f 5:Nat),.int .u64 (f 6:Nat),.int .u64 (f 7:Nat),.int .u64 (l 0:Nat),.int .u64 (l 1:Nat),.int .u64 (l 2:Nat),.int .u64 (l 3:Nat),.int .u64 (l 4:Nat),.int .u64 (l 5:Nat),.int .u64 (l 6:Nat),.int .u64 (l 7:Nat)] 104)):au w B b f l:=by
 refine⟨_,h,rfl,fun i hi=>?_⟩
 match i,hi with
 | 0,_=>rfl
 | 1,_=>rfl
 | 2,_=>rfl
 | 3,_=>rfl
 | 4,_=>rfl
 | 5,_=>rfl
 | 6,_=>rfl
 | 7,_=>rfl
 | 8,_=>rfl
 | 9,_=>rfl
 | 10,_=>rfl
 | 11,_=>rfl
 | 12,_=>rfl
 | 13,_=>rfl
 | 14,_=>rfl
 | 15,_=>rfl
 | 16,_=>rfl
 | n+17,h=>exact absurd h (by omega)
theorem dY(w:World)(g:Nat)(cs:Array Value):ce g w (w.setRow g cs):=⟨rfl,rfl,rfl,setRow_size w g cs,fun k hk=>setRow_other w g k cs hk⟩
theorem au.row{w:World}{B:Nat}{b0:Bool}{f0 l0:Nat->Nat}(h:au w B b0 f0 l0)(b:Bool)(f l:Nat->Nat):au (w.setRow B #[.bool b,.int .u64 (f 0:Nat),.int .u64 (f 1:Nat),.int .u64 (f 2:Nat),.int .u64 (f 3:Nat),.int .u64 (f 4:Nat),.int .u64 (f 5:Nat),.int .u64 (f 6:Nat),.int .u64 (f 7:Nat),.int .u64 (l 0:Nat),.int .u64 (l 1:Nat),.int .u64 (l 2:Nat),.int .u64 (l 3:Nat),.int .u64 (l 4:Nat),.int .u64 (l 5:Nat),.int .u64 (l 6:Nat),.int .u64 (l 7:Nat)]) B b f l:=tV (setRow_heap w B _ _ _ _ h.blk)
theorem jz(b:Bool)(f l:Nat->Nat):(#[.bool b,.int .u64 (f 0:Nat),.int .u64 (f 1:Nat),.int .u64 (f 2:Nat),.int .u64 (f 3:Nat),.int .u64 (f 4:Nat),.int .u64 (f 5:Nat),.int .u64 (f 6:Nat),.int .u64 (f 7:Nat),.int .u64 (l 0:Nat),.int .u64 (l 1:Nat),.int .u64 (l 2:Nat),.int .u64 (l 3:Nat),.int .u64 (l 4:Nat),.int .u64 (l 5:Nat),.int .u64 (l 6:Nat),.int .u64 (l 7:Nat)]:Array Value).all (·.oneCell')=true:=by kernel_rfl
theorem au.joinF{w:World}{B:Nat}{b:Bool}{f l f2:Nat->Nat}(h:w.rowIs B 104 17 (fun k=>if 1<=k/\k<1+8 then wd (cD f f2) (k-1) else bQ b f l k)):au w B b (cD f f2) l:=by
 refine World.rowIs.congr h (fun k hk=>?_)
 unfold bQ
 by_cases h0:k=0
 ·subst h0;simp
 by_cases h9:k<9
 ·rw[if_pos (by omega),if_neg h0,if_pos h9]
 rw[if_neg (by omega),if_neg h0,if_neg h9,if_neg h0,if_neg h9]
theorem au.joinL{w:World}{B:Nat}{b:Bool}{f l l2:Nat->Nat}(h:w.rowIs B 104 17 (fun k=>if 9<=k/\k<9+8 then wd (cD l l2) (k-9) else bQ b f l k)):au w B b f (cD l l2):=by
 refine World.rowIs.congr h (fun k hk=>?_)
 unfold bQ
 by_cases h0:k=0
 ·subst h0;simp
 by_cases h9:k<9
 ·rw[if_neg (by omega),if_neg h0,if_pos h9,if_neg h0,if_pos h9]
 rw[if_pos (by omega),if_neg h0,if_neg h9]
theorem zM(b:Bool)(f l:Nat->Nat):∀ j,j<8->bQ b f l (1+j)=wd f j:=fun j hj=>by
 unfold bQ;rw[if_neg (by omega),if_pos (by omega),show 1+j-1=j by omega]
theorem xH(b:Bool)(f l:Nat->Nat):∀ j,j<8->bQ b f l (9+j)=wd l j:=fun j hj=>by
 unfold bQ;rw[if_neg (by omega),if_neg (by omega),show 9+j-9=j by omega]
theorem au.putB{w:World}{B:Nat}{b:Bool}{f l:Nat->Nat}(h:au w B b f l)(b':Bool):au (w.setCell ⟨B,0,none⟩ (.bool b')) B b' f l:=by
 refine World.rowIs.congr (World.rowIs.set h 0 _) (fun k hk=>?_)
 unfold bQ
 by_cases h0:k=0
 ·rw[if_pos h0,if_pos h0]
 rw[if_neg h0,if_neg h0,if_neg h0]
theorem lW{w:World}{B C:Nat}{b b2:Bool}{f l f2 l2:Nat->Nat}(h:au w B b f l)(k:au w C b2 f2 l2)(hne:B≠C)(hf:Fit f)(hf2:Fit f2) :
  Calls prog 88 #[.pointer (some ⟨B,1,none⟩),.pointer (some ⟨C,1,none⟩)] w fun e w'=>e=.returned (.tuple #[])/\au w' B b (cD f f2) l/\ce B w w':=by
 refine(ie B 1 17 C 1 17 _ _ _ _ f f2 w hf hf2 hne h (zM _ _ _) (by omega) k (zM _ _ _) (by omega)).mono ?_;rintro e w' ⟨h1,h2,h3⟩;exact⟨h1,au.joinF h2,h3⟩
theorem mz{w:World}{B C:Nat}{b b2:Bool}{f l f2 l2:Nat->Nat}(h:au w B b f l)(k:au w C b2 f2 l2)(hne:B≠C)(hf:Fit l)(hf2:Fit l2) :
  Calls prog 88 #[.pointer (some ⟨B,9,none⟩),.pointer (some ⟨C,9,none⟩)] w fun e w'=>e=.returned (.tuple #[])/\au w' B b f (cD l l2)/\ce B w w':=by
 refine(ie B 9 17 C 9 17 _ _ _ _ l l2 w hf hf2 hne h (xH _ _ _) (by omega) k (xH _ _ _) (by omega)).mono ?_;rintro e w' ⟨h1,h2,h3⟩;exact⟨h1,au.joinL h2,h3⟩
theorem ce.below{g m:Nat}{a b:World}(h:ce g a b)(hm:m<=g):Below m a b:=⟨h.os,h.tape,h.output,by rw[h.size];exact Nat.le_refl _,fun k hk=>h.block k (by omega)⟩
theorem rl(b1 b2:Bool)(f1 l1 f2 l2:Nat->Nat)(w:World)(h1:Fit f1)(h2:Fit l1)(h3:Fit f2)(h4:Fit l2) :
  Calls prog 85 #[fq b1 f1 l1,fq b2 f2 l2] w fun e w'=>e=.returned (fq (b1||b2) (cD f1 f2) (cD l1 l2))/\Below w.heap.size w w':=by
 obtain⟨W1,f⟩ : ∃ W1,W1=((w.alloc (oE (b1||b2) f1 l1)).alloc (oE b2 f2 l2)).alloc xt:=⟨_,rfl⟩;have hz:W1.heap.size=w.heap.size+3:=by rw[f,ah,ah,ah]
 have o:Below w.heap.size w W1:=by
  rw[f];exact(aI w _ _).trans ((ai _ _).mono (by rw[ah,ah];omega))
 have e1:au W1 w.heap.size (b1||b2) f1 l1:=by
  rw[f];exact World.rowIs.alloc (World.rowIs.alloc (dk w (b1||b2) f1 l1) _) _
 have e2:au W1 (w.heap.size+1) b2 f2 l2:=by
  have:=dk (w.alloc (oE (b1||b2) f1 l1)) b2 f2 l2;rw[ah]at this;rw[f];exact World.rowIs.alloc this _
 have e3:au W1 (w.heap.size+2) false z8 z8:=by
  have:=fD ((w.alloc (oE (b1||b2) f1 l1)).alloc (oE b2 f2 l2));rw[ah,ah]at this;rw[f];exact this
 have g:=ae e1;have h:=ae e2;have m:=ae e3;have HB:=ae o;have H1:=ae h1;have H2:=ae h2;have H3:=ae h3;have H4:=ae h4;have i:=ae f;clear e1 e2 e3 hz o f h1 h2 h3 h4;unfold fq;cases b1
 ·
  go_enter func85,ntmps85
  go_wp2_with fail;simp only[Bool.false_or]at g i ⊢;rw[<-i.u];clear i;refine(lW g.u h.u (by omega) H1.u H3.u).mono ?_;rintro e w2 ⟨rfl,q1,q2⟩;have a:=ae q1;have b:=ae (au.on h.u (q2.block _ (by omega)));have c:=ae (au.on m.u (q2.block _ (by omega)));have j:=ae (HB.u.trans (q2.below lR));clear q1 q2 g h m HB
  go_wp2_with fail;refine(mz a.u b.u (by omega) H2.u H4.u).mono ?_;rintro e w3 ⟨rfl,q1,q2⟩;have k:=ae (au.blk q1);have d:=ae (au.on c.u (q2.block _ (by omega)));have l:=ae (au.blk d.u);have n:=ae (j.u.trans (q2.below lR));clear q1 q2 a b c j
  go_wp2_with (first|(refine wpList_load_row rfl 104 (.tmp 2) rfl (w.heap.size) (by first|(simp[Act.eval];done)|(simp[Act.eval,Act.put];done)) 104 _ _ _ k.u underlying104 rfl (by kernel_rfl) ?_)|(refine wpList_store_row rfl 104 (.tmp 4) (.tmp 18) rfl (w.heap.size+1+1) #[.bool b2,.int .u64 ((cD f1 f2) 0:Nat),.int .u64 ((cD f1 f2) 1:Nat),.int .u64 ((cD f1 f2) 2:Nat),.int .u64 ((cD f1 f2) 3:Nat),.int .u64 ((cD f1 f2) 4:Nat),.int .u64 ((cD f1 f2) 5:Nat),.int .u64 ((cD f1 f2) 6:Nat),.int .u64 ((cD f1 f2) 7:Nat),.int .u64 ((cD l1 l2) 0:Nat),.int .u64 ((cD l1 l2) 1:Nat),.int .u64 ((cD l1 l2) 2:Nat),.int .u64 ((cD l1 l2) 3:Nat),.int .u64 ((cD l1 l2) 4:Nat),.int .u64 ((cD l1 l2) 5:Nat),.int .u64 ((cD l1 l2) 6:Nat),.int .u64 ((cD l1 l2) 7:Nat)] (by first|(simp[Act.eval];done)|(simp[Act.eval,Act.put];done)) (by first|(simp[Act.eval];done)|(simp[Act.eval,Act.put];done)) 104 _ l.u (by kernel_rfl) rfl (jz _ _ _) ?_));refine bodyPost_ret (cn (au.row d.u _ _ _) rfl _ rfl) rfl ?_;exact⟨rfl,n.u.trans ((dY _ _ _).below (by omega))⟩
 ·
  go_enter func85,ntmps85
  go_wp2_with fail;simp only[Bool.true_or]at g i ⊢;rw[<-i.u];clear i;refine(lW g.u h.u (by omega) H1.u H3.u).mono ?_;rintro e w2 ⟨rfl,q1,q2⟩;have a:=ae q1;have b:=ae (au.on h.u (q2.block _ (by omega)));have c:=ae (au.on m.u (q2.block _ (by omega)));have j:=ae (HB.u.trans (q2.below lR));clear q1 q2 g h m HB
  go_wp2_with fail;refine(mz a.u b.u (by omega) H2.u H4.u).mono ?_;rintro e w3 ⟨rfl,q1,q2⟩;have k:=ae (au.blk q1);have d:=ae (au.on c.u (q2.block _ (by omega)));have l:=ae (au.blk d.u);have n:=ae (j.u.trans (q2.below lR));clear q1 q2 a b c j
  go_wp2_with (first|(refine wpList_load_row rfl 104 (.tmp 2) rfl (w.heap.size) (by first|(simp[Act.eval];done)|(simp[Act.eval,Act.put];done)) 104 _ _ _ k.u underlying104 rfl (by kernel_rfl) ?_)|(refine wpList_store_row rfl 104 (.tmp 4) (.tmp 18) rfl (w.heap.size+1+1) #[.bool true,.int .u64 ((cD f1 f2) 0:Nat),.int .u64 ((cD f1 f2) 1:Nat),.int .u64 ((cD f1 f2) 2:Nat),.int .u64 ((cD f1 f2) 3:Nat),.int .u64 ((cD f1 f2) 4:Nat),.int .u64 ((cD f1 f2) 5:Nat),.int .u64 ((cD f1 f2) 6:Nat),.int .u64 ((cD f1 f2) 7:Nat),.int .u64 ((cD l1 l2) 0:Nat),.int .u64 ((cD l1 l2) 1:Nat),.int .u64 ((cD l1 l2) 2:Nat),.int .u64 ((cD l1 l2) 3:Nat),.int .u64 ((cD l1 l2) 4:Nat),.int .u64 ((cD l1 l2) 5:Nat),.int .u64 ((cD l1 l2) 6:Nat),.int .u64 ((cD l1 l2) 7:Nat)] (by first|(simp[Act.eval];done)|(simp[Act.eval,Act.put];done)) (by first|(simp[Act.eval];done)|(simp[Act.eval,Act.put];done)) 104 _ l.u (by kernel_rfl) rfl (jz _ _ _) ?_));refine bodyPost_ret (cn (au.row d.u _ _ _) rfl _ rfl) rfl ?_;exact⟨rfl,n.u.trans ((dY _ _ _).below (by omega))⟩
theorem Ec(x:Value)(w:World):Sem.run prog (Instr.typeAssert (.iface 178 x) 51 91 true) w=.ok (.tuple #[.agg #[.int .u64 0,.int .u64 0,.int .u64 0,.int .u64 0],.bool false]) w:=by kernel_rfl
theorem Fi(x:Value)(w:World):Sem.run prog (Instr.typeAssert (.iface 178 x) 51 95 true) w=.ok (.tuple #[.agg #[.nilIface,.nilIface],.bool false]) w:=by kernel_rfl
theorem EC(x:Value)(w:World):Sem.run prog (Instr.typeAssert (.iface 178 x) 51 142 true) w=.ok (.tuple #[.agg #[.nilIface,.nilIface],.bool false]) w:=by kernel_rfl
theorem EG(x:Value)(w:World):Sem.run prog (Instr.typeAssert (.iface 178 x) 51 93 true) w=.ok (.tuple #[.agg #[.nilIface,.int .i64 0,.int .i64 0],.bool false]) w:=by kernel_rfl
theorem Ee(x:Value)(w:World):Sem.run prog (Instr.typeAssert (.iface 91 x) 51 91 true) w=.ok (.tuple #[x,.bool true]) w:=by kernel_rfl
theorem Fh(x:Value)(w:World):Sem.run prog (Instr.typeAssert (.iface 95 x) 51 91 true) w=.ok (.tuple #[.agg #[.int .u64 0,.int .u64 0,.int .u64 0,.int .u64 0],.bool false]) w:=by kernel_rfl
theorem Eu(x:Value)(w:World):Sem.run prog (Instr.typeAssert (.iface 95 x) 51 95 true) w=.ok (.tuple #[x,.bool true]) w:=by kernel_rfl
theorem FA(x:Value)(w:World):Sem.run prog (Instr.typeAssert (.iface 142 x) 51 91 true) w=.ok (.tuple #[.agg #[.int .u64 0,.int .u64 0,.int .u64 0,.int .u64 0],.bool false]) w:=by kernel_rfl
theorem Ff(x:Value)(w:World):Sem.run prog (Instr.typeAssert (.iface 142 x) 51 95 true) w=.ok (.tuple #[.agg #[.nilIface,.nilIface],.bool false]) w:=by kernel_rfl
theorem Fq(x:Value)(w:World):Sem.run prog (Instr.typeAssert (.iface 142 x) 51 142 true) w=.ok (.tuple #[x,.bool true]) w:=by kernel_rfl
theorem Fs(x:Value)(w:World):Sem.run prog (Instr.typeAssert (.iface 93 x) 51 91 true) w=.ok (.tuple #[.agg #[.int .u64 0,.int .u64 0,.int .u64 0,.int .u64 0],.bool false]) w:=by kernel_rfl
theorem Fv(x:Value)(w:World):Sem.run prog (Instr.typeAssert (.iface 93 x) 51 95 true) w=.ok (.tuple #[.agg #[.nilIface,.nilIface],.bool false]) w:=by kernel_rfl
theorem Fj(x:Value)(w:World):Sem.run prog (Instr.typeAssert (.iface 93 x) 51 142 true) w=.ok (.tuple #[.agg #[.nilIface,.nilIface],.bool false]) w:=by kernel_rfl
theorem EX(x:Value)(w:World):Sem.run prog (Instr.typeAssert (.iface 93 x) 51 93 true) w=.ok (.tuple #[x,.bool true]) w:=by kernel_rfl
end Go.Proofs.YtidfkbghlkcbeaaGreatDoor
