import Derived.Test.YtlidckepahpaeaaGreatDoorPk1
import Derived.Test.YtlidckepahpaeaaGreatDoorPk6
import Derived.Test.YtlidckepahpaeaaGreatDoorPk4
namespace Go.Proofs.YtlidckepahpaeaaGreatDoor
open Go.RowKit
def szR (left n:Int):Int:=if left<n then -1 else left - n
theorem szR_neg {left n:Int} (h:left<n):szR left n = -1:=by unfold szR; rw [if_pos h]
theorem szR_pos {left n:Int} (h:n≤left):szR left n=left - n:=by unfold szR; rw [if_neg (by omega)]
def bulk:List El→Nat
 | [] => 0
 | x :: r => x.set.length+bulk r
set_option maxHeartbeats 400000 in
theorem szIntS_any (a:Option Addr) (len cap:Nat) (left:Int) (w:World) (hlen:len≤maxLen) (h0:0≤left) (h1:left≤1048576) :
  Calls Tryz.prog 58 #[.slice a len cap,.int .i64 left] w fun e w' => e = .returned (.int .i64 (szR left len))∧w'=w:=by
 unfold maxLen at hlen
 by_cases hlt:left<(len:Int)
 ·go_enter Tryz.func58,Tryz.ntmps58
  go_wp2
  go_ret
  exact ⟨ret_int (szR_neg hlt).symm,rfl⟩
 ·have hlt':(len:Int)≤left:=by omega
  go_enter Tryz.func58,Tryz.ntmps58
  go_wp2
  go_ret
  exact ⟨ret_int (szR_pos hlt').symm,rfl⟩
set_option maxHeartbeats 400000 in
theorem szOp_any (a:Option Addr) (len cap:Nat) (k mn mx left:Int) (w:World) (hlen:len≤maxLen) (h0:0≤left) (h1:left≤1048576) :
  Calls Tryz.prog 31 #[.agg #[.int .i64 k,.slice a len cap,.int .i64 mn,.int .i64 mx],.int .i64 left] w fun e w' => e = .returned (.int .i64 (szR left len))∧Below w.heap.size w w':=by
 by_cases hlt:left<(len:Int)
 ·have e:=szR_neg hlt
  go_enter Tryz.func31,Tryz.ntmps31
  go_wp2_with (go_at_call 58; refine (szIntS_any _ _ _ _ _ hlen h0 h1).mono ?_; rintro e w' ⟨rfl,rfl⟩)
  go_ret
  exact ⟨ret_int e.symm,(Below.refl _ _).alloc (Nat.le_refl _) _⟩
 ·have hlt':(len:Int)≤left:=by omega
  have e:=szR_pos hlt'
  go_enter Tryz.func31,Tryz.ntmps31
  go_wp2_with (go_at_call 58; refine (szIntS_any _ _ _ _ _ hlen h0 h1).mono ?_; rintro e w' ⟨rfl,rfl⟩)
  go_ret
  exact ⟨ret_int e.symm,(Below.refl _ _).alloc (Nat.le_refl _) _⟩
theorem bulk_take_succ (xs:List El) (k:Nat) (h:k<xs.length):bulk (xs.take (k+1))=bulk (xs.take k)+(xs[k]?.getD dE).set.length:=by
 induction xs generalizing k with
 | nil => simp at h
 | cons x r ih =>
  cases k with
  | zero => simp [bulk]
  | succ k => simp only [List.take_succ_cons,bulk,List.getElem?_cons_succ]; rw [ih k (by simpa using h)]; omega
set_option maxHeartbeats 1000000 in
theorem szOpS_any (v:Value) (xs:List El) (left:Int) (w:World) (hv:ElsAt 0 w.heap.size w v xs) (h0:0≤left) (h1:left≤1048576) :
  Calls Tryz.prog 13 #[v,.int .i64 left] w fun e w' => (∃ r:Int,e = .returned (.int .i64 r)∧(r = -1∨(0≤r∧r=left - xs.length - bulk xs)))∧Below w.heap.size w w':=by
 obtain ⟨a,cap,rfl,hlen,hc⟩ := hv
 unfold maxLen at hlen
 by_cases hlt:left<(xs.length:Int)
 ·go_enter Tryz.func13,Tryz.ntmps13
  go_wp2
  go_ret
  exact ⟨⟨-1,rfl,Or.inl rfl⟩,Below.refl _ _⟩
 ·have hlt':(xs.length:Int)≤left:=by omega
  go_enter Tryz.func13,Tryz.ntmps13
  go_wp2
  go_loopw [1,5] (fun l i w' => ∃ k:Nat,k≤xs.length∧i = .int .i64 k∧l = .int .i64 (left - xs.length - bulk (xs.take k))∧0≤left - xs.length - bulk (xs.take k)∧Below w.heap.size w w') (fun _ i _ => xs.length - (intOf i).toNat)
  case atStart => exact ⟨0,Nat.zero_le _,rfl,by simp [bulk],by simp [bulk]; omega,Below.refl _ _⟩
  case round =>
   obtain ⟨k,hk,rfl,rfl,hge,hb⟩ := hrel
   by_cases hlt2:k<xs.length
   ·obtain ⟨b,off,rfl,-,hbn,hel⟩ := hc (by omega)
    obtain ⟨i1,i2,i3,v,c0,c1,c2,c3,a',cap',rfl,hl',hr',hc'⟩ := (hel k hlt2).same (Same.of_below hb (Nat.le_refl _)) (Nat.zero_le _) hbn
    have hlt3:(k:Int)<(xs.length:Int):=by omega
    have hsz:=hb.size
    have HB:=bulk_take_succ xs k hlt2
    generalize xs[k]?.getD dE=x at *
    generalize hL:left - (xs.length:Int) - (bulk (List.take k xs):Int)=L at *
    have HL:=hide hL
    have HB':=hide HB
    clear HB hL
    have hL1:L≤1048576:=by have:=unhide HL; omega
    by_cases hx:L<(x.set.length:Int)
    ·have hz:=szR_neg hx
     go_wp2_with (go_at_call 31; refine (szOp_any _ _ _ _ _ _ _ _ hl' hge hL1).mono ?_; rintro e w1 ⟨rfl,hb1⟩)
     go_ret
     exact ⟨⟨-1,rfl,Or.inl rfl⟩,hb.trans (hb1.mono hsz)⟩
    ·have hx':(x.set.length:Int)≤L:=by omega
     have hz:=szR_pos hx'
     go_wp2_with (go_at_call 31; refine (szOp_any _ _ _ _ _ _ _ _ hl' hge hL1).mono ?_; rintro e w1 ⟨rfl,hb1⟩)
     go_roundw
     case rel => exact ⟨k+1,by omega,by go_num,by have h1:=unhide HL; have h2:=unhide HB'; rw [h2]; congr 1; omega,by have h1:=unhide HL; have h2:=unhide HB'; rw [h2]; omega,hb.trans (hb1.mono hsz)⟩
     case measure => simp [intOf]; omega
   ·have hlt3:¬ (k:Int)<(xs.length:Int):=by omega
    have hkk:k=xs.length:=by omega
    subst hkk
    go_wp2
    go_ret
    exact ⟨⟨_,rfl,Or.inr ⟨by simpa using hge,by simp⟩⟩,hb⟩
theorem SameB.put {lo n:Nat} {a w:World} (h:SameB lo n a w) {b o:Nat} (hb:b<lo∨n≤b) (u:Value):SameB lo n a (w.setCell ⟨b,o,none⟩ u) :=
 fun k h1 h2 => (Below.heap_setCell _ _ _ _ (by show k ≠ b; omega)).trans (h k h1 h2)
def Row4 (w:World) (b:Nat) (t:TypeId) (c0 c1 c2 c3:Value):Prop:=w.rowIs b t 4 (fun j => [c0,c1,c2,c3].getD j undef)
theorem Row4.new (w:World) (t:TypeId) (c0 c1 c2 c3:Value):Row4 (w.alloc (.cells #[c0,c1,c2,c3] t)) w.heap.size t c0 c1 c2 c3 :=
 World.rowIs_alloc w #[c0,c1,c2,c3] t _ (fun i hi => by
  match i,hi with
  | 0,_ => rfl
  | 1,_ => rfl
  | 2,_ => rfl
  | 3,_ => rfl)
theorem Row4.alloc {w:World} {b:Nat} {t:TypeId} {c0 c1 c2 c3:Value} (h:Row4 w b t c0 c1 c2 c3) (o:Obj):Row4 (w.alloc o) b t c0 c1 c2 c3:=World.rowIs.alloc h o
theorem Row4.below {w w':World} {b m:Nat} {t:TypeId} {c0 c1 c2 c3:Value} (h:Row4 w b t c0 c1 c2 c3) (hb:Below m w w') (hm:b<m):Row4 w' b t c0 c1 c2 c3:=World.rowIs.of_block h (hb.block b hm)
theorem Row4.put0 {w:World} {b:Nat} {t:TypeId} {c0 c1 c2 c3 u:Value} (h:Row4 w b t c0 c1 c2 c3):Row4 (w.setCell ⟨b,0,none⟩ u) b t u c1 c2 c3:=(World.rowIs.set h 0 u).congr (fun i hi => by
  match i,hi with
  | 0,_ => rfl
  | 1,_ => rfl
  | 2,_ => rfl
  | 3,_ => rfl)
theorem Row4.put1 {w:World} {b:Nat} {t:TypeId} {c0 c1 c2 c3 u:Value} (h:Row4 w b t c0 c1 c2 c3):Row4 (w.setCell ⟨b,1,none⟩ u) b t c0 u c2 c3:=(World.rowIs.set h 1 u).congr (fun i hi => by
  match i,hi with
  | 0,_ => rfl
  | 1,_ => rfl
  | 2,_ => rfl
  | 3,_ => rfl)
theorem Row4.put2 {w:World} {b:Nat} {t:TypeId} {c0 c1 c2 c3 u:Value} (h:Row4 w b t c0 c1 c2 c3):Row4 (w.setCell ⟨b,2,none⟩ u) b t c0 c1 u c3:=(World.rowIs.set h 2 u).congr (fun i hi => by
  match i,hi with
  | 0,_ => rfl
  | 1,_ => rfl
  | 2,_ => rfl
  | 3,_ => rfl)
theorem Row4.facts {w:World} {b:Nat} {t:TypeId} {c0 c1 c2 c3:Value} (h:Row4 w b t c0 c1 c2 c3) :
  w.cell? ⟨b,0,none⟩ = some c0∧w.cell? ⟨b,1,none⟩ = some c1∧w.cell? ⟨b,2,none⟩ = some c2∧w.cell? ⟨b,3,none⟩ = some c3∧w.frozen? ⟨b,0,none⟩ = false∧w.frozen? ⟨b,1,none⟩ = false∧w.frozen? ⟨b,2,none⟩ = false∧w.frozen? ⟨b,3,none⟩ = false :=
 ⟨World.rowIs.cell h (i:=0) (by omega),World.rowIs.cell h (i:=1) (by omega),World.rowIs.cell h (i:=2) (by omega),World.rowIs.cell h (i:=3) (by omega),World.rowIs.frozen h 0,World.rowIs.frozen h 1,World.rowIs.frozen h 2,World.rowIs.frozen h 3⟩
set_option maxHeartbeats 1000000 in
theorem eqDFA_same (cl nx ac cl' nx' ac':Value) (xs ys:List Int) (zs:List Bool) (nc:Int) (w:World) (h1:SlAt mI 0 0 w.heap.size w cl xs) (h2:SlAt mI 0 0 w.heap.size w nx ys) (h3:SlAt mT false 0 w.heap.size w ac zs)
  (g1:SlAt mI 0 0 w.heap.size w cl' xs) (g2:SlAt mI 0 0 w.heap.size w nx' ys) (g3:SlAt mT false 0 w.heap.size w ac' zs) :
  Calls Tryz.prog 8 #[.agg #[cl,.int .i64 nc,nx,ac],.agg #[cl',.int .i64 nc,nx',ac']] w fun e w' => e = .returned (.bool true)∧Below w.heap.size w w':=by
 obtain ⟨a1,c1,rfl,-,-⟩ := id h1
 obtain ⟨a2,c2,rfl,-,-⟩ := id h2
 obtain ⟨a3,c3,rfl,-,-⟩ := id h3
 obtain ⟨b1,d1,rfl,-,-⟩ := id g1
 obtain ⟨b2,d2,rfl,-,-⟩ := id g2
 obtain ⟨b3,d3,rfl,-,-⟩ := id g3
 have H1:=hide (h1.below (below2 w (.cells #[.slice a1 xs.length c1,.int .i64 nc,.slice a2 ys.length c2,.slice a3 zs.length c3] 29) (.cells #[.slice b1 xs.length d1,.int .i64 nc,.slice b2 ys.length d2,.slice b3 zs.length d3] 29)) (Nat.le_refl _))
 have H2:=hide (h2.below (below2 w (.cells #[.slice a1 xs.length c1,.int .i64 nc,.slice a2 ys.length c2,.slice a3 zs.length c3] 29) (.cells #[.slice b1 xs.length d1,.int .i64 nc,.slice b2 ys.length d2,.slice b3 zs.length d3] 29)) (Nat.le_refl _))
 have H3:=hide (h3.below (below2 w (.cells #[.slice a1 xs.length c1,.int .i64 nc,.slice a2 ys.length c2,.slice a3 zs.length c3] 29) (.cells #[.slice b1 xs.length d1,.int .i64 nc,.slice b2 ys.length d2,.slice b3 zs.length d3] 29)) (Nat.le_refl _))
 have G1:=hide (g1.below (below2 w (.cells #[.slice a1 xs.length c1,.int .i64 nc,.slice a2 ys.length c2,.slice a3 zs.length c3] 29) (.cells #[.slice b1 xs.length d1,.int .i64 nc,.slice b2 ys.length d2,.slice b3 zs.length d3] 29)) (Nat.le_refl _))
 have G2:=hide (g2.below (below2 w (.cells #[.slice a1 xs.length c1,.int .i64 nc,.slice a2 ys.length c2,.slice a3 zs.length c3] 29) (.cells #[.slice b1 xs.length d1,.int .i64 nc,.slice b2 ys.length d2,.slice b3 zs.length d3] 29)) (Nat.le_refl _))
 have G3:=hide (g3.below (below2 w (.cells #[.slice a1 xs.length c1,.int .i64 nc,.slice a2 ys.length c2,.slice a3 zs.length c3] 29) (.cells #[.slice b1 xs.length d1,.int .i64 nc,.slice b2 ys.length d2,.slice b3 zs.length d3] 29)) (Nat.le_refl _))
 clear h1 h2 h3 g1 g2 g3
 go_enter Tryz.func8,Tryz.ntmps8
 go_wp2_with fail
 refine (eqIntS_w _ _ xs _ (unhide H1) (unhide G1)).mono ?_
 rintro e w1 ⟨rfl,n1,hw1⟩
 subst hw1
 go_wp2_with fail
 refine (eqIntS_w _ _ ys _ (by exact (unhide H2).drewN _) (by exact (unhide G2).drewN _)).mono ?_
 rintro e w2 ⟨rfl,n2,hw2⟩
 subst hw2
 go_wp2_with fail
 refine (eqBoolS_w _ _ zs _ (by exact (unhide H3).drewN _) (by exact (unhide G3).drewN _)).mono ?_
 rintro e w3 ⟨rfl,n3,hw3⟩
 subst hw3
 go_wp2
 go_ret
 exact ⟨rfl,below_drewN (below2 w _ _) _⟩
def top (xs:List Int):Nat→Int
 | 0 => -1
 | b+1 => if top xs b<xs[b]?.getD 0 then xs[b]?.getD 0 else top xs b
theorem w64 {n:Int} (h0:0≤n) (h1:n≤1000000):wrap64 n=n:=by unfold wrap64; omega
/-! The values of the nodes. -/
def eV:Value:=.iface 179 (.agg #[])
def sV (g:Nat→Nat):Value:=.iface 88 (ws4 g)
def cV (u v:Value):Value:=.iface 92 (.agg #[u,v])
def aV (u v:Value):Value:=.iface 140 (.agg #[u,v])
def rV (u:Value) (mn mx:Int):Value:=.iface 90 (.agg #[u,.int .i64 mn,.int .i64 mx])
theorem tp_es (x:Value) (w:World):Sem.run Tryz.prog (Instr.typeAssert (.iface 179 x) 48 88 true) w = .ok (.tuple #[.agg #[.int .u64 0,.int .u64 0,.int .u64 0,.int .u64 0],.bool false]) w:=by kernel_rfl
theorem tp_ec (x:Value) (w:World):Sem.run Tryz.prog (Instr.typeAssert (.iface 179 x) 48 92 true) w = .ok (.tuple #[.agg #[.nilIface,.nilIface],.bool false]) w:=by kernel_rfl
theorem tp_ea (x:Value) (w:World):Sem.run Tryz.prog (Instr.typeAssert (.iface 179 x) 48 140 true) w = .ok (.tuple #[.agg #[.nilIface,.nilIface],.bool false]) w:=by kernel_rfl
theorem tp_er (x:Value) (w:World):Sem.run Tryz.prog (Instr.typeAssert (.iface 179 x) 48 90 true) w = .ok (.tuple #[.agg #[.nilIface,.int .i64 0,.int .i64 0],.bool false]) w:=by kernel_rfl
theorem tp_ss (x:Value) (w:World):Sem.run Tryz.prog (Instr.typeAssert (.iface 88 x) 48 88 true) w = .ok (.tuple #[x,.bool true]) w:=by kernel_rfl
theorem tp_cs (x:Value) (w:World):Sem.run Tryz.prog (Instr.typeAssert (.iface 92 x) 48 88 true) w = .ok (.tuple #[.agg #[.int .u64 0,.int .u64 0,.int .u64 0,.int .u64 0],.bool false]) w:=by kernel_rfl
theorem tp_cc (x:Value) (w:World):Sem.run Tryz.prog (Instr.typeAssert (.iface 92 x) 48 92 true) w = .ok (.tuple #[x,.bool true]) w:=by kernel_rfl
theorem tp_as (x:Value) (w:World):Sem.run Tryz.prog (Instr.typeAssert (.iface 140 x) 48 88 true) w = .ok (.tuple #[.agg #[.int .u64 0,.int .u64 0,.int .u64 0,.int .u64 0],.bool false]) w:=by kernel_rfl
theorem tp_ac (x:Value) (w:World):Sem.run Tryz.prog (Instr.typeAssert (.iface 140 x) 48 92 true) w = .ok (.tuple #[.agg #[.nilIface,.nilIface],.bool false]) w:=by kernel_rfl
theorem tp_aa (x:Value) (w:World):Sem.run Tryz.prog (Instr.typeAssert (.iface 140 x) 48 140 true) w = .ok (.tuple #[x,.bool true]) w:=by kernel_rfl
theorem tp_rs (x:Value) (w:World):Sem.run Tryz.prog (Instr.typeAssert (.iface 90 x) 48 88 true) w = .ok (.tuple #[.agg #[.int .u64 0,.int .u64 0,.int .u64 0,.int .u64 0],.bool false]) w:=by kernel_rfl
theorem tp_rc (x:Value) (w:World):Sem.run Tryz.prog (Instr.typeAssert (.iface 90 x) 48 92 true) w = .ok (.tuple #[.agg #[.nilIface,.nilIface],.bool false]) w:=by kernel_rfl
theorem tp_ra (x:Value) (w:World):Sem.run Tryz.prog (Instr.typeAssert (.iface 90 x) 48 140 true) w = .ok (.tuple #[.agg #[.nilIface,.nilIface],.bool false]) w:=by kernel_rfl
theorem tp_rr (x:Value) (w:World):Sem.run Tryz.prog (Instr.typeAssert (.iface 90 x) 48 90 true) w = .ok (.tuple #[x,.bool true]) w:=by kernel_rfl
structure Tb where
 n:Nat
 k:Nat
 cl:Nat→Nat
 nx:Nat→Nat→Nat
 ac:Nat→Bool
structure Tb.Wf (A:Tb):Prop where
 pos:0<A.n
 cls:∀ b,b<256→A.cl b<A.k
 nxt:∀ q c,q<A.n→c<A.k→A.nx q c<A.n
def Tb.stp (A:Tb) (q b:Nat):Nat:=A.nx q (A.cl b)
def Tb.run (A:Tb) (q:Nat) (w:List Nat):Nat:=w.foldl A.stp q
def Wd (w:List Nat):Prop:=∀ b ∈ w,b<256
theorem Wd.nil:Wd []:=fun _ h => by cases h
theorem Wd.cons {b:Nat} {w:List Nat} (hb:b<256) (h:Wd w):Wd (b :: w):=fun x hx => by
 cases hx with
 | head => exact hb
 | tail _ hx => exact h x hx
theorem Wd.app {v w:List Nat} (hv:Wd v) (hw:Wd w):Wd (v ++ w):=fun x hx => (List.mem_append.mp hx).elim (hv x) (hw x)
theorem Tb.run_cons (A:Tb) (q b:Nat) (w:List Nat):A.run q (b :: w)=A.run (A.stp q b) w:=rfl
theorem Tb.run_app (A:Tb) (q:Nat) (v w:List Nat):A.run q (v ++ w)=A.run (A.run q v) w:=List.foldl_append ..
theorem Tb.run_snoc (A:Tb) (q b:Nat) (v:List Nat):A.run q (v ++ [b])=A.stp (A.run q v) b:=by rw [A.run_app]; rfl
theorem Tb.Wf.stp {A:Tb} (h:A.Wf) {q b:Nat} (hq:q<A.n) (hb:b<256):A.stp q b<A.n:=h.nxt _ _ hq (h.cls b hb)
theorem Tb.Wf.run {A:Tb} (h:A.Wf):∀ (w:List Nat) (q:Nat),q<A.n→Wd w→A.run q w<A.n
 | [],_,hq,_ => hq
 | b :: w,_,hq,hw => h.run w _ (h.stp hq (hw b (.head _))) fun x hx => hw x (.tail _ hx)
def Tel (A B:Tb) (p q:Nat):Prop:=∀ w,Wd w→A.ac (A.run p w)=B.ac (B.run q w)
theorem Tel.symm {A B:Tb} {p q:Nat} (h:Tel A B p q):Tel B A q p:=fun w hw => (h w hw).symm
theorem Tel.trans {A B C:Tb} {p q r:Nat} (h:Tel A B p q) (g:Tel B C q r):Tel A C p r:=fun w hw => (h w hw).trans (g w hw)
theorem Tel.stp {A B:Tb} {p q b:Nat} (h:Tel A B p q) (hb:b<256):Tel A B (A.stp p b) (B.stp q b):=fun w hw => h (b :: w) (hw.cons hb)
theorem Tel.run {A B:Tb}:∀ (w:List Nat) {p q:Nat},Tel A B p q→Wd w→Tel A B (A.run p w) (B.run q w)
 | [],_,_,h,_ => h
 | b :: w,_,_,h,hw => Tel.run w (h.stp (hw b (.head _))) fun x hx => hw x (.tail _ hx)
theorem Tel.ac {A B:Tb} {p q:Nat} (h:Tel A B p q):A.ac p=B.ac q:=h [] Wd.nil
structure Canon2 (A:Tb):Prop where
 wf:A.Wf
 clUp:∀ b,b<256→∀ c,c<A.cl b→∃ b',b'<b∧A.cl b'=c
 clAll:∀ c,c<A.k→∃ b,b<256∧A.cl b=c
 stUp:∀ q c,q<A.n→c<A.k→∀ s,s<A.nx q c→s=0∨∃ q' c',c'<A.k∧(q'<q∨(q'=q∧c'<c))∧A.nx q' c'=s
 stAll:∀ q,q<A.n→∃ w,Wd w∧A.run 0 w=q
 stMin:∀ p q,p<A.n→q<A.n→Tel A A p q→p=q
 clMin:∀ c c',c<A.k→c'<A.k→(∀ q,q<A.n→A.nx q c=A.nx q c')→c=c'
theorem Canon2.met {A:Tb} (h:Canon2 A) {q:Nat} (hq:q<A.n) (h0:0<q):∃ q' c',q'<q∧c'<A.k∧A.nx q' c'=q:=by
 apply Classical.byContradiction
 intro hno
 obtain ⟨w,hw,hr⟩ := h.stAll q hq
 have key:∀ (w:List Nat) (s:Nat),s<q→Wd w→A.run s w<q:=by
  intro w
  induction w with
  | nil => intro s hs _; exact hs
  | cons b w ih =>
   intro s hs hw
   have hb:=hw b (.head _)
   refine ih _ ?_ fun x hx => hw x (.tail _ hx)
   have hc:=h.wf.cls b hb
   apply Classical.byContradiction
   intro hge
   have hne:A.nx s (A.cl b) ≠ q:=fun he => hno ⟨s,A.cl b,hs,hc,he⟩
   have hlt:q<A.nx s (A.cl b):=by
    have:¬ A.nx s (A.cl b)<q:=hge
    omega
   rcases h.stUp s _ (Nat.lt_trans hs hq) hc q hlt with h1 | ⟨q',c',k1,k2,k3⟩
   ·omega
   ·exact hno ⟨q',c',by omega,k1,k3⟩
 have:=key w 0 h0 hw
 omega
theorem Canon2.fn {A B:Tb} (hB:Canon2 B) {p q q':Nat} (hq:q<B.n) (hq':q'<B.n) (h:Tel A B p q) (g:Tel A B p q'):q=q':=hB.stMin q q' hq hq' (h.symm.trans g)
theorem Canon2.cls {A B:Tb} (_hA:Canon2 A) (hB:Canon2 B) (h0:Tel A B 0 0) {b b':Nat} (hb:b<256) (hb':b'<256) (he:A.cl b=A.cl b'):B.cl b=B.cl b':=by
 refine hB.clMin _ _ (hB.wf.cls b hb) (hB.wf.cls b' hb') fun q hq => ?_
 obtain ⟨w,hw,rfl⟩ := hB.stAll q hq
 have hr:=Tel.run w h0 hw
 have h1:=hr.stp hb
 have h2:=hr.stp hb'
 have he':A.stp (A.run 0 w) b=A.stp (A.run 0 w) b':=by simp only [Tb.stp,he]
 rw [he'] at h1
 exact hB.fn (hB.wf.stp hq hb) (hB.wf.stp hq hb') h1 h2
theorem canon_cl {A B:Tb} (hA:Canon2 A) (hB:Canon2 B) (h0:Tel A B 0 0):∀ b,b<256→A.cl b=B.cl b:=by
 intro b
 induction b using Nat.strongRecOn with
 | _ b ih =>
  intro hb
  rcases Nat.lt_trichotomy (A.cl b) (B.cl b) with h | h | h
  ·obtain ⟨b',k1,k2⟩ := hB.clUp b hb _ h
   have k3:=ih b' k1 (by omega)
   have:=hA.cls hB h0 (b:=b') (b':=b) (by omega) hb (by omega)
   omega
  ·exact h
  ·obtain ⟨b',k1,k2⟩ := hA.clUp b hb _ h
   have k3:=ih b' k1 (by omega)
   have:=hB.cls hA h0.symm (b:=b') (b':=b) (by omega) hb (by omega)
   omega
theorem canon_k {A B:Tb} (hA:Canon2 A) (hB:Canon2 B) (h0:Tel A B 0 0):A.k=B.k:=by
 have hc:=canon_cl hA hB h0
 rcases Nat.lt_trichotomy A.k B.k with h | h | h
 ·obtain ⟨b,hb,he⟩ := hB.clAll _ h
  have:=hA.wf.cls b hb
  have:=hc b hb
  omega
 ·exact h
 ·obtain ⟨b,hb,he⟩ := hA.clAll _ h
  have:=hB.wf.cls b hb
  have:=hc b hb
  omega
theorem canon_row {A B:Tb} (hA:Canon2 A) (hB:Canon2 B) (h0:Tel A B 0 0):∀ q,q<A.n→q<B.n→Tel A B q q∧∀ c,c<A.k→A.nx q c=B.nx q c:=by
 have hcl:=canon_cl hA hB h0
 have hk:=canon_k hA hB h0
 have step:∀ {q c:Nat},Tel A B q q→c<A.k→Tel A B (A.nx q c) (B.nx q c):=by
  intro q c h hc
  obtain ⟨b,hb,he⟩ := hA.clAll c hc
  have:=h.stp hb
  simp only [Tb.stp] at this
  rw [← hcl b hb,he] at this
  exact this
 intro q
 induction q using Nat.strongRecOn with
 | _ q ih =>
  intro qA qB
  have hT:Tel A B q q:=by
   by_cases hz:q=0
   ·subst hz; exact h0
   ·obtain ⟨q',c',k1,k2,k3⟩ := hA.met qA (by omega)
    obtain ⟨t,e⟩ := ih q' k1 (by omega) (by omega)
    have:=step t k2
    rw [← e c' k2,k3] at this
    exact this
  refine ⟨hT,fun c => ?_⟩
  induction c using Nat.strongRecOn with
  | _ c ihc =>
   intro hc
   have hst:=step hT hc
   have nA:=hA.wf.nxt q c qA hc
   have nB:=hB.wf.nxt q c qB (by omega)
   rcases Nat.lt_trichotomy (A.nx q c) (B.nx q c) with h | h | h
   ·have hss:Tel A B (A.nx q c) (A.nx q c):=by
     rcases hB.stUp q c qB (by omega) _ h with hz | ⟨q',c',k1,k2,k3⟩
     ·rw [hz]; exact h0
     ·rcases k2 with k2 | ⟨rfl,k2⟩
      ·obtain ⟨t,e⟩ := ih q' k2 (by omega) (by omega)
       have:=step t (c:=c') (by omega)
       rw [e c' (by omega),k3] at this
       exact this
      ·have:=step hT (c:=c') (by omega)
       rw [ihc c' k2 (by omega),k3] at this
       exact this
    exact hB.fn (by omega) nB hss hst
   ·exact h
   ·have hss:Tel A B (B.nx q c) (B.nx q c):=by
     rcases hA.stUp q c qA hc _ h with hz | ⟨q',c',k1,k2,k3⟩
     ·rw [hz]; exact h0
     ·rcases k2 with k2 | ⟨rfl,k2⟩
      ·obtain ⟨t,e⟩ := ih q' k2 (by omega) (by omega)
       have:=step t (c:=c') k1
       rw [← e c' k1,k3] at this
       exact this
      ·have:=step hT (c:=c') k1
       rw [← ihc c' k2 k1,k3] at this
       exact this
    exact hA.fn nA (by omega) hst.symm hss.symm
theorem canon_n {A B:Tb} (hA:Canon2 A) (hB:Canon2 B) (h0:Tel A B 0 0):A.n=B.n:=by
 have hk:=canon_k hA hB h0
 have a0:=hA.wf.pos
 have b0:=hB.wf.pos
 rcases Nat.lt_trichotomy A.n B.n with h | h | h
 ·obtain ⟨q',c',k1,k2,k3⟩ := hB.met h a0
  have:=(canon_row hA hB h0 q' k1 (by omega)).2 c' (by omega)
  have:=hA.wf.nxt q' c' k1 (by omega)
  omega
 ·exact h
 ·obtain ⟨q',c',k1,k2,k3⟩ := hA.met h b0
  have:=(canon_row hA hB h0 q' (by omega) k1).2 c' k2
  have:=hB.wf.nxt q' c' k1 (by omega)
  omega
theorem canon_one {A B:Tb} (hA:Canon2 A) (hB:Canon2 B) (h0:Tel A B 0 0):A.n=B.n∧A.k=B.k∧(∀ b,b<256→A.cl b=B.cl b)∧(∀ q c,q<A.n→c<A.k→A.nx q c=B.nx q c)∧∀ q,q<A.n→A.ac q=B.ac q:=by
 have hn:=canon_n hA hB h0
 exact ⟨hn,canon_k hA hB h0,canon_cl hA hB h0,fun q c hq hc => (canon_row hA hB h0 q hq (by omega)).2 c hc,fun q hq => (canon_row hA hB h0 q hq (by omega)).1.ac⟩
end Go.Proofs.YtlidckepahpaeaaGreatDoor
