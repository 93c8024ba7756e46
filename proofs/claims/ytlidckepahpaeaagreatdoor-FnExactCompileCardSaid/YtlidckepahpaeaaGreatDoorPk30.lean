import Derived.Test.YtlidckepahpaeaaGreatDoorPk27
import Derived.BigRegion
import Derived.Test.YtlidckepahpaeaaGreatDoorPk19
namespace Go.Proofs.YtlidckepahpaeaaGreatDoor
open Go.RowKit
set_option maxHeartbeats 4000000 in
set_option maxRecDepth 100000 in
theorem class_app {u0 u1 u2 u4 u5 u6 u7 u8 u10 u12 u13 u14 u15 u16 u17 u18 u19 u20 u21 u22 u23 u24 u25 u26 u27 u28 u29 u30 u31 u32 u33 u34 u35 u36 u37 u38 u39 u40 u41 u42 u43 u44 u45 u46 u47 u48 u49 u50 u51 u52 u53 u54 u55 u56 u57 u58 u59 u60 u61 u62 u63 u64 u65 u66 u67 u68 u69 u70 u71 u72 u73 u74 u75 u76 u77 u78 u79 u80 u81 u82 u83 u84 u85 u86 u87 u88 u89 u90 u91 u92 u93 u94 u95 u96 u97 u98 u99 u100 u101 u102 u103 u104 u105:Value} {K K2 L1:Act→World→Prop} {n1 n2:Nat} {R:Ending→World→Prop} (w7:World) (ob rb n ca s x N oc lo:Nat) (oa:Option Addr) (xs:List Value) (hs:s<n) (hob:ob<w7.heap.size) (hlo:lo≤w7.heap.size) (hN:N≤1000000)
  (y3:w7.cell? ⟨ob,0,none⟩ = some (.slice oa N oc)) (k0:w7.cell? ⟨rb,s,none⟩ = some (.int .i64 (x:Nat)))
  (hrk:w7.ownsRow lo 3 1 (.slice oa N oc) N xs)
  (hps:∀ (WA w8:World) (gg cap:Nat),w8.ownsRow lo 3 1 (.slice (some ⟨gg,0,none⟩) (N+1) cap) (N+1) (xs ++ [.int .i64 (x:Nat)])→WA.grownBy w8 (Value.slice oa N oc).ownBlock→((Value.slice oa N oc).ownBlock=some gg∨gg=w7.heap.size+1)→Pushd w7 WA (.cells #[.int .i64 (x:Nat)] 3) →
   w8.cell? ⟨ob,0,none⟩ = some (.slice oa N oc)∧w8.frozen? ⟨ob,0,none⟩ = false∧K { tmps:=#[u0,u1,u2,.slice (some ⟨rb,0,none⟩) n ca,u4,u5,u6,u7,u8,.pointer (some ⟨ob,0,none⟩),u10,.int .i64 (s:Nat),u12,u13,u14,u15,u16,u17,u18,u19,u20,u21,u22,u23,u24,u25,u26,u27,u28,u29,u30,u31,u32,u33,u34,u35,u36,u37,u38,u39,u40,u41,u42,u43,u44,u45,u46,u47,u48,u49,u50,u51,u52,u53,u54,u55,u56,u57,u58,u59,u60,u61,u62,u63,.pointer (some ⟨ob,0,none⟩),.slice oa N oc,.slice (some ⟨rb,0,none⟩) n ca,.int .i64 (s:Nat),.pointer (some ⟨rb,s,none⟩),.int .i64 (x:Nat),.slice (some ⟨w7.heap.size,0,none⟩) 1 1,.slice (some ⟨gg,0,none⟩) (N+1) cap,.pointer (some ⟨ob,0,none⟩),u73,u74,u75,u76,u77,u78,u79,u80,u81,u82,u83,u84,u85,u86,u87,u88,u89,u90,u91,u92,u93,u94,u95,u96,u97,u98,u99,u100,u101,u102,u103,u104,u105],defers := [] } (w8.setCell ⟨ob,0,none⟩ (.slice (some ⟨gg,0,none⟩) (N+1) cap))) :
  Code.wp Tryz.prog (Code.region 18 #[{ dst:=some 64,op:=Op.fieldAddr 29 (Operand.tmp 9) 0,type:=0,pos := "l2_dfa.go:485",after:=#[],guard:=none },{ dst:=some 65,op:=Op.load 26 (Operand.tmp 64),type:=26,pos := "l2_dfa.go:485",after:=#[{ on:=0,ground:=Ground.data }],guard:=none },{ dst:=some 66,op:=Op.move (Operand.tmp 3),type:=26,pos := "l2_dfa.go:485",after:=#[],guard:=none },{ dst:=some 67,op:=Op.move (Operand.tmp 11),type:=3,pos := "l2_dfa.go:485",after:=#[],guard:=none },{ dst:=some 68,op:=Op.indexAddr 26 (Operand.tmp 66) (Operand.tmp 67),type:=0,pos := "l2_dfa.go:485",after:=#[{ on:=2,ground:=Ground.data },{ on:=3,ground:=Ground.data }],guard:=none },{ dst:=some 69,op:=Op.load 3 (Operand.tmp 68),type:=3,pos := "l2_dfa.go:485",after:=#[{ on:=4,ground:=Ground.data }],guard:=none },{ dst:=some 70,op:=Op.buildSlice 26 1 #[(0,Operand.tmp 69)],type:=26,pos := "l2_dfa.go:485",after:=#[{ on:=5,ground:=Ground.data }],guard:=none },{ dst:=some 71,op:=Op.call { callee:=Callee.builtin Builtin.append,args:=#[Operand.tmp 65,Operand.tmp 70],argTypes:=#[26,26] },type:=26,pos := "l2_dfa.go:485",after:=#[{ on:=1,ground:=Ground.data },{ on:=6,ground:=Ground.data }],guard:=none },{ dst:=some 72,op:=Op.fieldAddr 29 (Operand.tmp 9) 0,type:=0,pos := "l2_dfa.go:485",after:=#[{ on:=0,ground:=Ground.phase },{ on:=1,ground:=Ground.phase },{ on:=2,ground:=Ground.phase },{ on:=3,ground:=Ground.phase },{ on:=4,ground:=Ground.phase },{ on:=5,ground:=Ground.phase },{ on:=6,ground:=Ground.phase },{ on:=7,ground:=Ground.phase }],guard:=none },{ dst:=none,op:=Op.store 26 (Operand.tmp 72) (Operand.tmp 71),type:=0,pos := "l2_dfa.go:485",after:=#[{ on:=8,ground:=Ground.data },{ on:=7,ground:=Ground.data },{ on:=7,ground:=Ground.chain },{ on:=0,ground:=Ground.phase },{ on:=1,ground:=Ground.phase },{ on:=2,ground:=Ground.phase },{ on:=3,ground:=Ground.phase },{ on:=4,ground:=Ground.phase },{ on:=5,ground:=Ground.phase },{ on:=6,ground:=Ground.phase },{ on:=7,ground:=Ground.phase }],guard:=none }] true) (Exit.inBlock n1 (Exit.then K (Exit.then L1 (Exit.inBlock n2 (Exit.then K2 (bodyPost Tryz.prog Tryz.f54 R)))))) { tmps:=#[u0,u1,u2,.slice (some ⟨rb,0,none⟩) n ca,u4,u5,u6,u7,u8,.pointer (some ⟨ob,0,none⟩),u10,.int .i64 (s:Nat),u12,u13,u14,u15,u16,u17,u18,u19,u20,u21,u22,u23,u24,u25,u26,u27,u28,u29,u30,u31,u32,u33,u34,u35,u36,u37,u38,u39,u40,u41,u42,u43,u44,u45,u46,u47,u48,u49,u50,u51,u52,u53,u54,u55,u56,u57,u58,u59,u60,u61,u62,u63,u64,u65,u66,u67,u68,u69,u70,u71,u72,u73,u74,u75,u76,u77,u78,u79,u80,u81,u82,u83,u84,u85,u86,u87,u88,u89,u90,u91,u92,u93,u94,u95,u96,u97,u98,u99,u100,u101,u102,u103,u104,u105],defers := [] } w7:=by
 obtain ⟨j0,hj0,hy0,hy1,hy2⟩ := info_parts Tryz.zinInt
 have y3':=(below1 w7 (.cells #[.int .i64 (x:Nat)] 3)).cell (p:=⟨ob,0,none⟩) hob
 rw [y3] at y3'
 have hs':(s:Int)<(n:Int):=by omega
 have HPS:=hide hps
 have HRK:=hide hrk
 clear hps hrk
 go_region_law (
  (refine step_append_lies _ rfl (.tmp 65) (.tmp 70) 26 rfl lo 3 j0 (.int .i64 0) 1 8 Tryz.underlying26 hj0 hy0 hy1 hy2 rfl (by decide) (.slice oa N oc) N xs (by first | (simp [Act.eval]; done) | (simp [Act.eval,Act.put]; done)) (by refine Pushd.own (w:=w7) (o:=.cells #[.int .i64 (x:Nat)] 3) ?_ (unhide HRK); exact ⟨rfl,rfl,rfl,rfl⟩) ⟨w7.heap.size,0,none⟩ 1 1 [.int .i64 (x:Nat)] (by first | (simp [Act.eval]; done) | (simp [Act.eval,Act.put]; done)) rfl (by refine Pushd.news (w:=w7) (cs:=#[.int .i64 (x:Nat)]) (t:=3) ?_; exact ⟨rfl,rfl,rfl,rfl⟩) (by intro u hu; simp only [List.mem_cons,List.not_mem_nil,or_false] at hu; subst hu; rfl) (by decide) (by unfold maxLen; omega) (by omega) (by have hq:=sz_alloc w7 (.cells #[.int .i64 (x:Nat)] 3); exact Nat.le_trans hlo (Nat.le_of_lt (Nat.lt_of_lt_of_eq (Nat.lt_succ_self _) hq.symm))) (w7.heap.size+1) (sz_alloc w7 _) (fun gg cap w8 r1 r2 r3 r4 => ?_); have h8:=hide (unhide HPS _ w8 gg cap r1 r2 r3 (by exact ⟨rfl,rfl,rfl,rfl⟩)); obtain ⟨c7,z7,-⟩ := unhide h8; clear r1 r2 r3 r4))
 all_goals exact (unhide h8).2.2
def accL (ac:Nat→Bool) (m:Nat):List Nat:=(List.range m).filter ac
theorem accL_next (ac:Nat→Bool) (m:Nat):accL ac (m+1)=if ac m=true then accL ac m ++ [m] else accL ac m:=by
 unfold accL
 rw [List.range_succ,List.filter_append]
 cases h:ac m <;> simp [h]
theorem accL_mem {ac:Nat→Bool} {m p:Nat}:p ∈ accL ac m↔p<m∧ac p=true:=by simp [accL]
theorem accL_nodup (ac:Nat→Bool) (m:Nat):(accL ac m).Nodup:=List.nodup_range.filter _
theorem accL_len (ac:Nat→Bool) (m:Nat):(accL ac m).length≤m:=by
 have:=List.length_filter_le ac (List.range m)
 rw [List.length_range] at this
 exact this
def stcL (nx:Nat→Nat→Nat) (n c lo:Nat) (ms:Nat→Nat):Nat→List Nat
 | 0 => []
 | i+1 => stcL nx n c lo ms i ++ srcL nx n (ms (lo+i)) c
theorem stcL_mem {nx:Nat→Nat→Nat} {n c lo:Nat} {ms:Nat→Nat} {p:Nat}:∀ i,p ∈ stcL nx n c lo ms i↔p<n∧∃ j,j<i∧nx p c=ms (lo+j)
 | 0 => by simp [stcL]
 | i+1 => by
  rw [stcL,List.mem_append,stcL_mem i,srcL_mem]
  constructor
  ·rintro (⟨h,j,hj,e⟩ | ⟨h,e⟩)
   ·exact ⟨h,j,by omega,e⟩
   ·exact ⟨h,i,by omega,e⟩
  ·rintro ⟨h,j,hj,e⟩
   by_cases q:j=i
   ·subst q; exact .inr ⟨h,e⟩
   ·exact .inl ⟨h,j,by omega,e⟩
theorem stcL_nodup {nx:Nat→Nat→Nat} {n c lo m:Nat} {ms:Nat→Nat} (hi:∀ a b,a<m→b<m→ms (lo+a)=ms (lo+b)→a=b):∀ i,i≤m→(stcL nx n c lo ms i).Nodup
 | 0,_ => List.nodup_nil
 | i+1,h => by
  rw [stcL,List.nodup_append]
  refine ⟨stcL_nodup hi i (by omega),srcL_nodup _ _ _ _,fun x hx y hy e => ?_⟩
  subst e
  obtain ⟨-,j,hj,e1⟩ := (stcL_mem i).1 hx
  have e2:=(srcL_mem.1 hy).2
  have:=hi j i (by omega) (by omega) (e1.symm.trans e2)
  omega
theorem own_split {base:Nat} {w:World} {v:Value} {S:List Nat} {O:Nat→Prop} (h:w.ownsRow base 3 1 v S.length (S.map mN)) (hO:∀ k,base≤k→k<w.heap.size→¬ O k) :
  ∃ a c,v = .slice a S.length c∧(0<S.length→∃ b o,a=some ⟨b,o,none⟩∧b<w.heap.size∧¬ O b∧∀ i s,S[i]? = some s→w.cell? ⟨b,o+i,none⟩ = some (.int .i64 (s:Nat))):=by
 obtain ⟨oa,oc,rfl⟩ := own_is h
 refine ⟨oa,oc,rfl,fun hp => ?_⟩
 obtain ⟨g,cap,e,hc⟩ := own_at h hp
 cases e
 have hl:=h.lt g rfl
 refine ⟨g,0,rfl,hl.2,hO g hl.1 hl.2,fun i s hs => ?_⟩
 rw [Nat.zero_add,hc i (List.getElem?_eq_some_iff.1 hs).1,List.getElem?_map,hs]
 rfl
theorem TaS.mono {O O':Nat→Prop} {g mb mc pb pc bb bc:Nat} {A:Tb} {w:World} {N:Nat} {ms ps bs fr mk tt:Nat→Nat} {kb kc:Nat} {qv:Value} {qs:List Int} {tk:Nat} {T:Nat→Prop} {c:Nat} (h:TaS O g mb mc pb pc bb bc A w N ms ps bs fr mk tt kb kc qv qs tk T c) (e:∀ k,O k→O' k):TaS O' g mb mc pb pc bb bc A w N ms ps bs fr mk tt kb kc qv qs tk T c :=
 ⟨h.pt.mono e,h.pi,h.um,h.ql,h.tl,h.qn,h.hop⟩
theorem TaS.keep {O:Nat→Prop} {g mb mc pb pc bb bc:Nat} {A:Tb} {w w':World} {N:Nat} {ms ps bs fr mk tt:Nat→Nat} {kb kc:Nat} {qv:Value} {qs:List Int} {tk:Nat} {T:Nat→Prop} {c:Nat} (h:TaS O g mb mc pb pc bb bc A w N ms ps bs fr mk tt kb kc qv qs tk T c) (e:∀ k,O k→k<w.heap.size→w'.heap[k]? = w.heap[k]?):TaS O g mb mc pb pc bb bc A w' N ms ps bs fr mk tt kb kc qv qs tk T c :=
 ⟨h.pt.keep e,h.pi,h.um,h.ql,h.tl,h.qn,h.hop⟩
theorem TaS.skip {O:Nat→Prop} {g mb mc pb pc bb bc:Nat} {A:Tb} {w w':World} {N:Nat} {ms ps bs fr mk tt:Nat→Nat} {kb kc:Nat} {qv:Value} {qs:List Int} {tk:Nat} {T:Nat→Prop} {c:Nat} (h:TaS O g mb mc pb pc bb bc A w N ms ps bs fr mk tt kb kc qv qs tk T c) (hb:Below w.heap.size w w'):TaS (Sk O w.heap.size w'.heap.size) g mb mc pb pc bb bc A w' N ms ps bs fr mk tt kb kc qv qs tk T c :=
 ⟨h.pt.skip hb,h.pi,h.um,h.ql,h.tl,h.qn,h.hop⟩
def tkOf (g:Nat) (w:World):Nat:=(intOf ((w.cell? ⟨g,5,none⟩).getD undef)).toNat
theorem PtAt.tk {O:Nat→Prop} {g mb mc pb pc bb bc:Nat} {w:World} {n N:Nat} {ms ps bs fr mk tt:Nat→Nat} {kb kc:Nat} {qv:Value} {qs:List Int} {tk:Nat} (h:PtAt O g mb mc pb pc bb bc w n N ms ps bs fr mk tt kb kc qv qs tk):tkOf g w=tk:=by
 obtain ⟨-,-,-,-,-,c5,-⟩ := h.facts
 rw [tkOf,c5]
 simp [intOf]
def TaH (O:Nat→Prop) (g mb mc pb pc bb bc:Nat) (A:Tb) (w:World) (nv ov:Value):Prop :=
 ∃ (N:Nat) (ms ps bs fr mk tt:Nat→Nat) (kb kc:Nat) (qv:Value) (qs:List Int) (tk:Nat),
  (ov = .bool false∧tk=qs.length∧∃ T,TaS O g mb mc pb pc bb bc A w N ms ps bs fr mk tt kb kc qv qs tk T A.k) ∨
  (ov = .bool true∧∃ b:Nat,b<N∧nv = .int .i64 (b:Nat)∧TaS O g mb mc pb pc bb bc A w N ms ps bs fr mk tt kb kc qv qs tk (fun q => bs q=b) 0)
def okOf:Value→Nat
 | .bool true => 1
 | _ => 0
set_option maxHeartbeats 4000000 in
set_option maxRecDepth 100000 in
theorem tellApart_any (A:Tb) (cl:Value) (b off cN ab ao ca:Nat) (w:World) (hw:A.Wf) (hf:A.Full) (hn:A.n≤1024) (hk:1≤A.k∧A.k≤256) (hcN:A.n * A.k≤cN) (hb:b<w.heap.size) (hx:NxAt w b off A.n A.k A.nx)
  (hab:ab<w.heap.size) (hac:∀ q,q<A.n→w.cell? ⟨ab,ao+q,none⟩ = some (.bool (A.ac q))) :
  Calls Tryz.prog 90 #[.agg #[cl,.int .i64 (A.k:Nat),.slice (some ⟨b,off,none⟩) (A.n * A.k) cN,.slice (some ⟨ab,ao,none⟩) A.n ca]] w fun e w' => ∃ bb bc,e = .returned (.slice (some ⟨bb,0,none⟩) A.n bc)∧Below w.heap.size w w'∧w.heap.size≤bb ∧
   ∃ bs,RowN w' bb A.n bs∧(∀ p q,p<A.n→q<A.n→(bs p=bs q↔Tel A A p q))∧∀ p,p<A.n→bs p<A.n:=by
 obtain ⟨i0,hi0,hz0,hz1,hz2⟩ := info_parts Tryz.zinInt
 have hn1:1≤A.n:=hw.pos
 have hLn:A.n * A.k≤1024 * 256:=Nat.mul_le_mul hn hk.2
 obtain ⟨W1,hW1⟩ : ∃ W1,W1=w.alloc (.cells #[cl,.int .i64 (A.k:Nat),.slice (some ⟨b,off,none⟩) (A.n * A.k) cN,.slice (some ⟨ab,ao,none⟩) A.n ca] 29):=⟨_,rfl⟩
 have hR1:Row4 W1 w.heap.size 29 cl (.int .i64 (A.k:Nat)) (.slice (some ⟨b,off,none⟩) (A.n * A.k) cN) (.slice (some ⟨ab,ao,none⟩) A.n ca):=by rw [hW1]; exact Row4.new w _ _ _ _ _
 have hz1':W1.heap.size=w.heap.size+1:=by rw [hW1,sz_alloc]
 have hB1:Below w.heap.size w W1:=by rw [hW1]; exact below1 w _
 obtain ⟨L,hL⟩ : ∃ L,L=A.n * A.k:=⟨_,rfl⟩
 rw [← hL] at hcN hLn hR1 hW1 ⊢
 obtain ⟨e0,e1,e2,e3,-⟩ := hR1.facts
 have HNP:=hide (newPartition_any A.n W1 hn1 hn)
 have HSO:=fun (w2:World) (h2:Below W1.heap.size W1 w2) => sourcesOf_any cl (some ⟨ab,ao,none⟩) b off cN ca A.n A.k A.nx w2 ⟨hn1,hn⟩ hk (by rw [← hL]; exact hcN) (by have:=h2.size; omega) (fun q c hq hc => ⟨(hx q c hq hc).1,by rw [(hB1.trans (h2.mono (by omega))).cell (p:=⟨b,off+(q * A.k+c),none⟩) hb]; exact (hx q c hq hc).2⟩)
 rw [← hL] at HSO
 have HS:=hide HSO
 have HW1:=hide hW1
 have HR1:=hide hR1
 have HB1:=hide hB1
 have HL:=hide hL
 have HX:=hide hx
 have HAC:=hide hac
 clear hL hx hac hW1 hR1 hB1 HSO
 go_enter Tryz.func90,Tryz.ntmps90
 go_wp2_with fail
 rw [← unhide HW1]
 refine (unhide HNP).mono ?_
 rintro e w2 ⟨g,rfl,hB2,mb,mc,pb,pc,bb,bc,kb,kc,hP2⟩
 obtain ⟨f0,f1,f2,f3,-⟩ := ((unhide HR1).below hB2 (by omega)).facts
 have HC:=hide (unhide HS w2 hB2)
 have HB2:=hide hB2
 have HP2:=hide hP2
 clear HNP HW1 hB2 hP2 e0 e1 e2 e3 HS
 go_wp2_with fail
 refine (unhide HC).mono ?_
 rintro e w3 ⟨B,rfl,hB3,hB0,lo,vs,hS3⟩
 have hR3:=((unhide HR1).below (unhide HB2) (by omega)).below hB3 (by have:=(unhide HB2).size; omega)
 obtain ⟨x0,x1,x2,x3,-⟩ := hR3.facts
 have HB3:=hide hB3
 have HS3:=hide hS3
 have HR3:=hide hR3
 have hlt3:=hS3.row.lt
 have hloB:=hS3.lt
 have hz2':=(unhide HB2).size
 have hz3':=hB3.size
 clear HC hB3 hS3 hR3 f0 f1 f2 f3
 go_wp2_with fail
 go_loopw [5,24] (fun tv iv wr => ∃ i:Nat,i≤A.n∧iv = .int .i64 (i:Nat)∧wr.ownsRow w3.heap.size 3 1 tv (accL A.ac i).length ((accL A.ac i).map mN)∧Below w3.heap.size w3 wr) (fun _ iv _ => A.n - (intOf iv).toNat)
 case atStart => exact ⟨0,by omega,rfl,World.ownsRow_nil _ _ _ _,Below.refl _ _⟩
 case round =>
  obtain ⟨i,hi,rfl,hown,hbr⟩ := hrel
  by_cases hlt:i<A.n
  ·have hlt':(i:Int)<(A.n:Int):=by omega
   have hbw:Below w.heap.size w wr:=(unhide HB1).trans (((unhide HB2).mono (by omega)).trans (((unhide HB3).mono (by omega)).trans (hbr.mono (by omega))))
   have y0:wr.cell? ⟨ab,ao+i,none⟩ = some (.bool (A.ac i)):=by rw [hbw.cell (p:=⟨ab,ao+i,none⟩) hab]; exact unhide HAC i hlt
   have hlen:=accL_len A.ac i
   have hn5:=accL_next A.ac i
   obtain ⟨oa,oc,rfl⟩ := own_is hown
   have HOW:=hide hown
   have HBR:=hide hbr
   have HN5:=hide hn5
   have hzr:=hbr.size
   clear hown hbr hbw hn5
   cases hacc:A.ac i with
   | true =>
    rw [hacc] at y0
    have HACC:=hide hacc
    clear hacc
    go_wp2_with (at_builtin; refine wpList_append_own_at _ rfl _ _ 26 rfl w3.heap.size 3 i0 (.int .i64 0) 1 8 Tryz.underlying26 hi0 hz0 hz1 hz2 rfl (by decide) _ _ _ rfl ((unhide HOW).alloc _) ⟨wr.heap.size,0,none⟩ 1 1 [.int .i64 (i:Nat)] rfl rfl ?_ ?_ ?_ ?_ ?_ ?_)
    ·exact cell_1 (cell_new _ _ _)
    ·intro u hu; simp at hu; subst hu; rfl
    ·unfold maxLen; omega
    ·omega
    ·rw [sz_alloc]; omega
    intro v' w5 r1 r2 _ r3
    have hb5:Below w3.heap.size w3 w5:=(unhide HBR).trans (((below1 wr _).mono (by omega)).grown r2 (by rw [sz_alloc]; omega) (fun k hk => ((unhide HOW).lt k hk).1))
    obtain ⟨va,vc,rfl⟩ := own_is r1
    have HV:=hide r1
    have HB5:=hide hb5
    clear r1 r2 r3 hb5
    go_wp2
    go_roundw
    case rel =>
     have e:=unhide HN5
     rw [if_pos (unhide HACC)] at e
     refine ⟨i+1,by omega,by go_num,?_,unhide HB5⟩
     rw [e,List.length_append,List.map_append]
     exact unhide HV
    case measure => simp [intOf]; omega
   | false =>
    rw [hacc] at y0
    have HACC:=hide hacc
    clear hacc
    go_wp2
    go_roundw
    case rel =>
     have e:=unhide HN5
     rw [if_neg (by rw [unhide HACC]; decide)] at e
     refine ⟨i+1,by omega,by go_num,?_,unhide HBR⟩
     rw [e]
     exact unhide HOW
    case measure => simp [intOf]; omega
  ·have hlt':¬ (i:Int)<(A.n:Int):=by omega
   obtain rfl:i=A.n:=by omega
   obtain ⟨w4,rfl⟩ : ∃ w4,w4=wr:=⟨_,rfl⟩
   have hz4:=hbr.size
   obtain ⟨oa,oc,rfl⟩ := own_is hown
   have hb24:Below w2.heap.size w2 w4:=(unhide HB3).trans (hbr.mono (by omega))
   obtain ⟨O,hO⟩ : ∃ O,O=Sk (fun k => W1.heap.size≤k) w2.heap.size w4.heap.size:=⟨_,rfl⟩
   have hP4:=(unhide HP2).skip hb24
   rw [← hO] at hP4
   have hT:∀ k,w4.heap.size≤k→O k:=fun k hk => by rw [hO]; exact ⟨by omega,.inr hk⟩
   have hNO:∀ k,w2.heap.size≤k→k<w4.heap.size→¬ O k:=fun k h1 h2 => by rw [hO]; rintro ⟨-,h3⟩; omega
   have hNL:∀ k,k<W1.heap.size→¬ O k:=fun k h1 => by rw [hO]; rintro ⟨h3,-⟩; omega
   have hPI:=PInv.start (n:=A.n) (fr:=fun _ => 0) (mk:=fun _ => 0) (tt:=fun _ => A.n) hn1 rfl rfl rfl
   have HSPL:=hide (split_any O g mb mc pb pc bb bc w4 A.n 1 (fun i => i) (fun i => i) (fun _ => 0) (fun _ => 0) (fun _ => 0) (fun _ => A.n) kb kc (.slice none 0 0) [] 0 (.slice oa (accL A.ac A.n).length oc) (accL A.ac A.n) hP4 hPI (fun _ _ => rfl) hT hn rfl (Nat.le_refl _) (own_split hown (fun k h1 h2 => hNO k (by omega) h2)) (accL_nodup _ _) (fun s hs => (accL_mem.1 hs).1))
   have HTA:Hid (∀ W,FrO O w4 W→Row4 W w.heap.size 29 cl (.int .i64 (A.k:Nat)) (.slice (some ⟨b,off,none⟩) L cN) (.slice (some ⟨ab,ao,none⟩) A.n ca)∧SrcAt lo B L W vs (fun i => srcL A.nx A.n (i / A.k) (i % A.k))∧Below w.heap.size w W):=fun W hW => by
    have h1:Below W1.heap.size W1 W:=(unhide HB2).trans (((hb24.mono (by omega)).trans (hW.below hNL)))
    have h3:∀ k,w2.heap.size≤k→k<w3.heap.size→W.heap[k]? = w3.heap[k]? := fun k k1 k2 => (hW.block k (hNO k k1 (by omega))).trans (hbr.block k k2)
    exact ⟨(unhide HR1).below h1 (by omega),(unhide HS3).keep (fun k hk => h3 k (by rcases hk with hk | hk <;> omega) (by rcases hk with hk | hk <;> omega)),(unhide HB1).trans (h1.mono (by omega))⟩
   have hOW:∀ k,O k→W1.heap.size≤k:=fun k hk => by rw [hO] at hk; exact hk.1
   have OW:=hide hOW
   have T4:=hide hT
   have NO4:=hide hNO
   have HBR:=hide hbr
   clear hP4 hT hNO hNL hPI hOW hO hbr hown hb24 x0 x1 x2 x3 HAC HX HR3 HP2 HS3
   go_wp2_with fail
   refine (unhide HSPL).mono ?_
   rintro e w5 ⟨rfl,hF5,N5,ms5,ps5,bs5,fr5,mk5,tt5,kb5,kc5,qv5,l5,p1,p2,p3,p4,p5,p6,p7,p8⟩
   rw [List.nil_append] at p1 p4 p6
   have hTa:TaS O g mb mc pb pc bb bc A w5 N5 ms5 ps5 bs5 fr5 mk5 tt5 kb5 kc5 qv5 l5 0 (fun _ => False) A.k :=
    ⟨p1,p2,p3,p4,Nat.zero_le _,p5,Hop.start ⟨fun p q hp hq => by rw [p6.same p q hp hq,accL_mem,accL_mem]; simp [hp,hq],fun p hp k => k.elim,p6.new⟩ hw⟩
   have HF5:=hide hF5
   have HPOP:=hide (pop_ta hTa hn)
   clear HSPL hF5 p1 p2 p3 p4 p5 p6 p7 p8 hTa
   go_wp2_with fail
   refine (unhide HPOP).mono ?_
   rintro e w6 ⟨hF6,hcs⟩
   have hH6:∃ nv ov,e = .returned (.tuple #[nv,.bool ov])∧TaH O g mb mc pb pc bb bc A w6 nv (.bool ov):=by
    rcases hcs with ⟨h1,rfl,h2⟩ | ⟨h1,b',h2,rfl,h3⟩
    ·exact ⟨_,_,rfl,_,_,_,_,_,_,_,_,_,_,_,_,.inl ⟨rfl,h1,_,h2⟩⟩
    ·exact ⟨_,_,rfl,_,_,_,_,_,_,_,_,_,_,_,_,.inr ⟨rfl,b',h2,rfl,h3⟩⟩
   obtain ⟨nv6,ov6,rfl,hH6⟩ := hH6
   have HF6:=hide ((unhide HF5).trans hF6)
   have HH6:=hide hH6
   clear hF6 hcs hH6 HPOP
   go_wp2_with fail
   go_loopw [8,9] (fun nv ov wr => TaH O g mb mc pb pc bb bc A wr nv ov∧FrO O w4 wr) (fun _ ov wr => 2 * (A.n - tkOf g wr)+okOf ov)
   case atStart => exact ⟨unhide HH6,unhide HF6⟩
   case round =>
    clear HH6 HF6
    obtain ⟨hH,hF⟩ := hrel
    obtain ⟨w7,rfl⟩ : ∃ w7,w7=wr:=⟨_,rfl⟩
    obtain ⟨N,ms,ps,bs,fr,mk,tt,kb7,kc7,qv,qs,tk,⟨rfl,htk,T,hTa⟩ | ⟨rfl,num,hnum,rfl,hTa⟩⟩ := hH
    ·obtain ⟨-,-,d2,-⟩ := hTa.pt.facts
     have HTa:=hide hTa
     have HF:=hide hF
     clear hTa hF
     go_wp2
     go_ret
     obtain ⟨-,-,hBw⟩ := unhide HTA w7 (unhide HF)
     have hfew:=(unhide HTa).pi.few
     refine ⟨bb,_,rfl,hBw,?_,bs,(unhide HTa).pt.rb,?_,fun p hp => ?_⟩
     ·have:=unhide OW bb (unhide HTa).pt.oo.2.2.2.1
      omega
     ·exact (unhide HTa).hop.fin hw (fun x hx => by rw [htk,List.drop_length] at hx; cases hx)
     ·have:=((unhide HTa).pi.s1 p hp).1
      omega
    ·have hb1:=hTa.pi.b1 num hnum
     obtain ⟨d0,-,-,d3,-⟩ := hTa.pt.facts
     obtain ⟨k0,k1,k2,-⟩ := hTa.pt.blk hnum
     have hst:Stc A.n ps bs (fun q => bs q=num) (fr num) (tt num):=⟨⟨hb1.2.2.1,hb1.2.2.2⟩,fun t ht => ⟨fun h => hTa.pi.s2 t num ht hnum h.1 h.2,fun h => by have:=hTa.pi.s1 t ht; rw [h] at this; exact this.2⟩,fun p q _ _ e => by rw [e]⟩
     have HMO:=hide (membersOf_any g mb 0 kb7 0 A.n N mc kc7 num (fr num) (mk num) (tt num) w7 hnum hb1.2.2.1 hb1.2.2.2 hTa.pt.cap hTa.pt.lt d0 d3 (by rw [Nat.zero_add]; exact k0) (by rw [Nat.zero_add]; exact k1) (by rw [Nat.zero_add]; exact k2))
     have hmeas:tkOf g w7=tk:=hTa.pt.tk
     have htl:=hTa.tl
     have hql:=hTa.ql
     have hfew:=hTa.pi.few
     have HTa:=hide hTa
     have HF:=hide hF
     have HST:=hide hst
     clear hTa hF hst d0 d3 k0 k1 k2
     go_wp2_with fail
     refine (unhide HMO).mono ?_
     rintro e w8 ⟨rfl,hB8⟩
     rw [Nat.zero_add]
     have hTa8:=(unhide HTa).keep (w':=w8) (fun k _ hk => hB8.block k hk)
     have hF8:FrO O w4 w8:=(unhide HF).trans (fro_of hB8 (fun k hk => unhide T4 k (by have:=(unhide HF).size; omega)))
     obtain ⟨f0,f1,f2,f3,-⟩ := (unhide HTA w8 hF8).1.facts
     obtain ⟨lo8,hlo8⟩ : ∃ x,x=fr num:=⟨_,rfl⟩
     obtain ⟨hi8,hhi8⟩ : ∃ x,x=tt num:=⟨_,rfl⟩
     obtain ⟨T8,hT8⟩ : ∃ T:Nat→Prop,T=fun q => bs q=num:=⟨_,rfl⟩
     rw [← hlo8,← hhi8] at hb1 ⊢
     have hst8:=unhide HST
     rw [← hlo8,← hhi8,← hT8] at hst8
     rw [← hT8] at hTa8
     have HTa8:=hide hTa8
     have HF8:=hide hF8
     have HST8:=hide hst8
     clear HMO HTa HF HST hB8 hTa8 hF8 hst8 hlo8 hhi8 hT8
     go_wp2_with fail
     go_loopw [58] (fun cv wx => ∃ (c N:Nat) (ms ps bs fr mk tt:Nat→Nat) (kb kc:Nat) (qv:Value) (qs:List Int),c≤A.k∧cv = .int .i64 (c:Nat)∧TaS O g mb mc pb pc bb bc A wx N ms ps bs fr mk tt kb kc qv qs tk T8 c∧Stc A.n ps bs T8 lo8 hi8∧FrO O w4 wx) (fun cv _ => A.k - (intOf cv).toNat)
     case atStart => exact ⟨0,_,_,_,_,_,_,_,_,_,_,_,by omega,rfl,unhide HTa8,unhide HST8,unhide HF8⟩
     case round =>
      clear HTa8 HF8 HST8
      obtain ⟨c,N9,ms9,ps9,bs9,fr9,mk9,tt9,kb9,kc9,qv9,qs9,hc,rfl,hTa,hst,hF⟩ := hrel
      obtain ⟨w9,rfl⟩ : ∃ w9,w9=wr:=⟨_,rfl⟩
      by_cases hcl:c<A.k
      ·have hcl':(c:Int)<(A.k:Int):=by omega
       have hlen:=hst.le
       have HTa:=hide hTa
       have HST:=hide hst
       have HF:=hide hF
       have hz9:=hF.size
       clear hTa hst hF f0 f1 f2 f3
       go_wp2_with fail
       go_loopw [12,63] (fun sv iv wx => ∃ i:Nat,i≤hi8 - lo8∧iv = .int .i64 (i:Nat)∧wx.ownsRow w9.heap.size 3 1 sv (stcL A.nx A.n c lo8 ms9 i).length ((stcL A.nx A.n c lo8 ms9 i).map mN)∧Below w9.heap.size w9 wx) (fun _ iv _ => hi8 - lo8 - (intOf iv).toNat)
       case atStart => exact ⟨0,by omega,rfl,World.ownsRow_nil _ _ _ _,Below.refl _ _⟩
       case round =>
        obtain ⟨i,hi,rfl,hown,hbx⟩ := hrel
        have hinj:∀ a b,a<hi8 - lo8→b<hi8 - lo8→ms9 (lo8+a)=ms9 (lo8+b)→a=b:=fun a b ha hb' e => by
         have e1:=((unhide HTa).pi.m1 (lo8+a) (by omega)).2
         have e2:=((unhide HTa).pi.m1 (lo8+b) (by omega)).2
         rw [e,e2] at e1
         omega
        have hsl:∀ j,j≤hi8 - lo8→(stcL A.nx A.n c lo8 ms9 j).length≤A.n:=fun j hj => nodup_le A.n _ (stcL_nodup hinj j hj) (fun x hx => ((stcL_mem j).1 hx).1)
        by_cases hli:i<hi8 - lo8
        ·have hli':(i:Int)<((hi8 - lo8:Nat):Int):=by omega
         obtain ⟨m1,m2⟩ := (unhide HTa).pi.m1 (lo8+i) (by omega)
         have y0:wr.cell? ⟨mb,lo8+i,none⟩ = some (.int .i64 (ms9 (lo8+i):Nat)):=by
          rw [hbx.cell (p:=⟨mb,lo8+i,none⟩) (unhide HTa).pt.rm.lt]
          exact (unhide HTa).pt.rm.cell (by omega)
         obtain ⟨hR,hSr,-⟩ := unhide HTA w9 (unhide HF)
         have hRx:=hR.below hbx (by have:=hR.lt; exact this)
         have hSx:=hSr.keep (w':=wr) (fun k hk => hbx.block k (by have:=hSr.row.lt; rcases hk with hk | hk <;> omega))
         obtain ⟨f0,f1,f2,f3,-⟩ := hRx.facts
         have hat:ms9 (lo8+i) * A.k+c<L:=by rw [unhide HL]; exact idx_lt m1 hcl
         have hdv:(ms9 (lo8+i) * A.k+c) / A.k=ms9 (lo8+i):=by rw [Nat.add_comm,Nat.add_mul_div_right _ _ (by omega),Nat.div_eq_of_lt hcl,Nat.zero_add]
         have hmd:(ms9 (lo8+i) * A.k+c) % A.k=c:=by rw [Nat.add_comm,Nat.add_mul_mod_self_right,Nat.mod_eq_of_lt hcl]
         obtain ⟨m,t,a1,ht,hat,a2,a3,a4⟩ := at_facts (by omega) hat
         rw [← ht] at hdv hmd
         have hso:=hSx.own t hat
         have z0:=hSx.row.cell (i:=t) hat
         rw [hdv,hmd] at hso
         obtain ⟨sa,sc,e9⟩ := own_is hso
         rw [e9] at z0 hso
         have hl1:=hsl i hi
         have hl2:=srcL_len A.nx A.n (ms9 (lo8+i)) c
         have HEX:Hid (stcL A.nx A.n c lo8 ms9 (i+1)=stcL A.nx A.n c lo8 ms9 i ++ srcL A.nx A.n (ms9 (lo8+i)) c):=rfl
         obtain ⟨X,hX⟩ : ∃ X,X=stcL A.nx A.n c lo8 ms9 i:=⟨_,rfl⟩
         obtain ⟨Y,hY⟩ : ∃ Y,Y=srcL A.nx A.n (ms9 (lo8+i)) c:=⟨_,rfl⟩
         obtain ⟨y,hy⟩ : ∃ y,y=ms9 (lo8+i):=⟨_,rfl⟩
         rw [← hX,← hY] at HEX
         rw [← hX] at hown hl1
         rw [← hY] at hso z0 hl2
         rw [← hy] at y0 a1 m1
         obtain ⟨oa,oc,rfl⟩ := own_is hown
         have HOW:=hide hown
         have HSO:=hide hso
         have HBX:=hide hbx
         have hzx:=hbx.size
         clear hown hso hbx hR hSr hRx hSx hdv hmd ht hX hY hy e9 m2 f0 f2 f3 hsl hinj
         go_wp2_with (at_builtin; refine app_rows rfl _ _ rfl w9.heap.size lo _ _ rfl rfl X Y (unhide HOW) (unhide HSO) (by omega) (by omega) ?_)
         intro v' w11 r1 r2 r3
         obtain ⟨va,vc,rfl⟩ := own_is r1
         have hb11:Below w9.heap.size w9 w11:=(unhide HBX).trans ((Below.refl w9.heap.size wr).grown r2 (by omega) (fun k hk => ((unhide HOW).lt k hk).1))
         have HV:=hide r1
         have HB11:=hide hb11
         clear r1 r2 r3 hb11
         go_wp2
         go_roundw
         case rel =>
          refine ⟨i+1,by omega,by go_num,?_,unhide HB11⟩
          rw [unhide HEX,List.length_append,List.map_append]
          exact unhide HV
         case measure => simp [intOf]; omega
        ·have hli':¬ (i:Int)<((hi8 - lo8:Nat):Int):=by omega
         obtain rfl:i=hi8 - lo8:=by omega
         obtain ⟨w11,rfl⟩ : ∃ w11,w11=wr:=⟨_,rfl⟩
         have hzx:=hbx.size
         obtain ⟨oa,oc,rfl⟩ := own_is hown
         have hmem:∀ p,p ∈ stcL A.nx A.n c lo8 ms9 (hi8 - lo8)↔p<A.n∧T8 (A.nx p c):=fun p => by
          rw [stcL_mem]
          refine and_congr_right fun hp => ?_
          have hx:=hw.nxt p c hp hcl
          rw [← (unhide HST).mem _ hx]
          constructor
          ·rintro ⟨j,hj,e⟩
           rw [e,((unhide HTa).pi.m1 (lo8+j) (by omega)).2]
           omega
          ·rintro ⟨k1,k2⟩
           exact ⟨ps9 (A.nx p c) - lo8,by omega,by rw [show lo8+(ps9 (A.nx p c) - lo8)=ps9 (A.nx p c) by omega]; exact ((unhide HTa).pi.p1 _ hx).2.symm⟩
         have HSP:=hide (split_ta ((unhide HTa).skip hbx) (unhide HST) hw hf hn hcl (fun k hk => ⟨unhide T4 k (by omega),.inr hk⟩) (.slice oa (stcL A.nx A.n c lo8 ms9 (hi8 - lo8)).length oc) _ (stcL_nodup hinj _ (Nat.le_refl _)) hmem (own_split hown (fun k k1 k2 => fun h => by rcases h.2 with h | h <;> omega)))
         have HBX:=hide hbx
         clear hown hbx hmem hsl hinj
         go_wp2_with fail
         refine (unhide HSP).mono ?_
         rintro e w12 ⟨rfl,hF12,N',ms',ps',bs',fr',mk',tt',kb',kc',qv',qs',hTa',hst'⟩
         have HTa':=hide (hTa'.mono Sk.sub)
         have HST':=hide hst'
         have HF12:=hide ((unhide HF).trans ((fro_of (unhide HBX) (fun k hk => unhide T4 k (by omega))).trans (hF12.mono Sk.sub)))
         clear hTa' hst' hF12 HSP
         go_wp2
         go_roundw
         case rel => exact ⟨c+1,_,_,_,_,_,_,_,_,_,_,_,by omega,by go_num,unhide HTa',unhide HST',unhide HF12⟩
         case measure => simp [intOf]; omega
      ·have hcl':¬ (c:Int)<(A.k:Int):=by omega
       obtain rfl:c=A.k:=by omega
       have HPOP:=hide (pop_ta hTa hn)
       have hq9:=hTa.ql
       have hf9:=hTa.pi.few
       have hl9:=hTa.tl
       have HF:=hide hF
       clear hTa hst hF
       go_wp2_with fail
       refine (unhide HPOP).mono ?_
       rintro e w10 ⟨hF10,hcs⟩
       have hH10:∃ nv ov,e = .returned (.tuple #[nv,.bool ov])∧TaH O g mb mc pb pc bb bc A w10 nv (.bool ov)∧2 * (A.n - tkOf g w10)+okOf (.bool ov)<2 * (A.n - tkOf g w7)+1:=by
        rcases hcs with ⟨h1,rfl,h2⟩ | ⟨h1,b',h2,rfl,h3⟩
        ·refine ⟨_,_,rfl,⟨_,_,_,_,_,_,_,_,_,_,_,_,.inl ⟨rfl,h1,_,h2⟩⟩,?_⟩
         rw [h2.pt.tk,hmeas]
         show 2 * (A.n - tk)+0<_
         omega
        ·refine ⟨_,_,rfl,⟨_,_,_,_,_,_,_,_,_,_,_,_,.inr ⟨rfl,b',h2,rfl,h3⟩⟩,?_⟩
         rw [h3.pt.tk,hmeas]
         show 2 * (A.n - (tk+1))+1<_
         omega
       obtain ⟨nv10,ov10,rfl,hH10,hm10⟩ := hH10
       have HF10:=hide ((unhide HF).trans hF10)
       have HH10:=hide hH10
       have HM10:=hide hm10
       clear hF10 hcs hH10 hm10 HPOP HF
       go_wp2
       go_roundw
       case rel => exact ⟨unhide HH10,unhide HF10⟩
       case measure => exact unhide HM10
set_option maxHeartbeats 4000000 in
set_option maxRecDepth 100000 in
theorem merge_num {u0 u1 u2 u3 u5 u7 u8 u9 u10 u11 u12 u13 u14 u16 u17 u18 u19 u20 u21 u22 u23 u24 u25 u26 u27 u28 u29 u30 u31 u32 u33 u34 u35 u36 u37 u38 u39 u40 u41 u42 u43 u44 u45 u46 u47 u48 u49 u50 u51 u52 u53 u54 u55 u56 u57 u58 u59 u60 u61 u62 u63 u64 u65 u66 u67 u68 u69 u70 u71 u72 u73 u74 u75 u76 u77 u78 u79 u80 u81 u82 u83 u84 u85:Value} {K K2 K3 L1 L2:Act→World→Prop} {n1 n2 n3 n4:Nat} {R:Ending→World→Prop} (w7:World) (ob rb n ca s x N oc lo:Nat) (oa:Option Addr) (xs:List Value) (hs:s<n) (hob:ob<w7.heap.size) (hlo:lo≤w7.heap.size) (hN:N≤1000000)
  (y3:w7.cell? ⟨ob,2,none⟩ = some (.slice oa N oc)) (k0:w7.cell? ⟨rb,s,none⟩ = some (.int .i64 (x:Nat)))
  (hrk:w7.ownsRow lo 3 1 (.slice oa N oc) N xs)
  (hps:∀ (WA w8:World) (gg cap:Nat),w8.ownsRow lo 3 1 (.slice (some ⟨gg,0,none⟩) (N+1) cap) (N+1) (xs ++ [.int .i64 (x:Nat)])→WA.grownBy w8 (Value.slice oa N oc).ownBlock→((Value.slice oa N oc).ownBlock=some gg∨gg=w7.heap.size+1)→Pushd w7 WA (.cells #[.int .i64 (x:Nat)] 3) →
   w8.cell? ⟨ob,2,none⟩ = some (.slice oa N oc)∧w8.frozen? ⟨ob,2,none⟩ = false∧K { tmps:=#[u0,u1,u2,u3,.pointer (some ⟨ob,0,none⟩),u5,.slice (some ⟨rb,0,none⟩) n ca,u7,u8,u9,u10,u11,u12,u13,u14,.int .i64 (s:Nat),u16,u17,u18,u19,u20,u21,u22,u23,u24,u25,u26,u27,u28,u29,u30,u31,u32,u33,u34,u35,u36,u37,u38,u39,u40,u41,u42,u43,u44,u45,u46,u47,u48,u49,u50,u51,u52,u53,u54,u55,u56,u57,u58,u59,u60,u61,u62,u63,u64,u65,u66,u67,u68,u69,u70,u71,u72,u73,.pointer (some ⟨ob,2,none⟩),.slice oa N oc,.slice (some ⟨rb,0,none⟩) n ca,.int .i64 (s:Nat),.pointer (some ⟨rb,s,none⟩),.int .i64 (x:Nat),.slice (some ⟨w7.heap.size,0,none⟩) 1 1,.slice (some ⟨gg,0,none⟩) (N+1) cap,.pointer (some ⟨ob,2,none⟩),u83,u84,u85],defers := [] } (w8.setCell ⟨ob,2,none⟩ (.slice (some ⟨gg,0,none⟩) (N+1) cap))) :
  Code.wp Tryz.prog (Code.region 21 #[{ dst:=some 74,op:=Op.fieldAddr 29 (Operand.tmp 4) 2,type:=0,pos := "l2_dfa.go:466",after:=#[],guard:=none },{ dst:=some 75,op:=Op.load 26 (Operand.tmp 74),type:=26,pos := "l2_dfa.go:466",after:=#[{ on:=0,ground:=Ground.data }],guard:=none },{ dst:=some 76,op:=Op.move (Operand.tmp 6),type:=26,pos := "l2_dfa.go:466",after:=#[],guard:=none },{ dst:=some 77,op:=Op.move (Operand.tmp 15),type:=3,pos := "l2_dfa.go:466",after:=#[],guard:=none },{ dst:=some 78,op:=Op.indexAddr 26 (Operand.tmp 76) (Operand.tmp 77),type:=0,pos := "l2_dfa.go:466",after:=#[{ on:=2,ground:=Ground.data },{ on:=3,ground:=Ground.data }],guard:=none },{ dst:=some 79,op:=Op.load 3 (Operand.tmp 78),type:=3,pos := "l2_dfa.go:466",after:=#[{ on:=4,ground:=Ground.data }],guard:=none },{ dst:=some 80,op:=Op.buildSlice 26 1 #[(0,Operand.tmp 79)],type:=26,pos := "l2_dfa.go:466",after:=#[{ on:=5,ground:=Ground.data }],guard:=none },{ dst:=some 81,op:=Op.call { callee:=Callee.builtin Builtin.append,args:=#[Operand.tmp 75,Operand.tmp 80],argTypes:=#[26,26] },type:=26,pos := "l2_dfa.go:466",after:=#[{ on:=1,ground:=Ground.data },{ on:=6,ground:=Ground.data }],guard:=none },{ dst:=some 82,op:=Op.fieldAddr 29 (Operand.tmp 4) 2,type:=0,pos := "l2_dfa.go:466",after:=#[{ on:=0,ground:=Ground.phase },{ on:=1,ground:=Ground.phase },{ on:=2,ground:=Ground.phase },{ on:=3,ground:=Ground.phase },{ on:=4,ground:=Ground.phase },{ on:=5,ground:=Ground.phase },{ on:=6,ground:=Ground.phase },{ on:=7,ground:=Ground.phase }],guard:=none },{ dst:=none,op:=Op.store 26 (Operand.tmp 82) (Operand.tmp 81),type:=0,pos := "l2_dfa.go:466",after:=#[{ on:=8,ground:=Ground.data },{ on:=7,ground:=Ground.data },{ on:=7,ground:=Ground.chain },{ on:=0,ground:=Ground.phase },{ on:=1,ground:=Ground.phase },{ on:=2,ground:=Ground.phase },{ on:=3,ground:=Ground.phase },{ on:=4,ground:=Ground.phase },{ on:=5,ground:=Ground.phase },{ on:=6,ground:=Ground.phase },{ on:=7,ground:=Ground.phase }],guard:=none }] true) (Exit.inBlock n1 (Exit.then K (Exit.then L1 (Exit.inBlock n2 (Exit.inBlock n3 (Exit.then K2 (Exit.then L2 (Exit.inBlock n4 (Exit.then K3 (bodyPost Tryz.prog Tryz.f55 R)))))))))) { tmps:=#[u0,u1,u2,u3,.pointer (some ⟨ob,0,none⟩),u5,.slice (some ⟨rb,0,none⟩) n ca,u7,u8,u9,u10,u11,u12,u13,u14,.int .i64 (s:Nat),u16,u17,u18,u19,u20,u21,u22,u23,u24,u25,u26,u27,u28,u29,u30,u31,u32,u33,u34,u35,u36,u37,u38,u39,u40,u41,u42,u43,u44,u45,u46,u47,u48,u49,u50,u51,u52,u53,u54,u55,u56,u57,u58,u59,u60,u61,u62,u63,u64,u65,u66,u67,u68,u69,u70,u71,u72,u73,u74,u75,u76,u77,u78,u79,u80,u81,u82,u83,u84,u85],defers := [] } w7:=by
 obtain ⟨j0,hj0,hy0,hy1,hy2⟩ := info_parts Tryz.zinInt
 have y3':=(below1 w7 (.cells #[.int .i64 (x:Nat)] 3)).cell (p:=⟨ob,2,none⟩) hob
 rw [y3] at y3'
 have hs':(s:Int)<(n:Int):=by omega
 have HPS:=hide hps
 have HRK:=hide hrk
 clear hps hrk
 go_region_law (
  (refine step_append_lies _ rfl (.tmp 75) (.tmp 80) 26 rfl lo 3 j0 (.int .i64 0) 1 8 Tryz.underlying26 hj0 hy0 hy1 hy2 rfl (by decide) (.slice oa N oc) N xs (by first | (simp [Act.eval]; done) | (simp [Act.eval,Act.put]; done)) (by refine Pushd.own (w:=w7) (o:=.cells #[.int .i64 (x:Nat)] 3) ?_ (unhide HRK); exact ⟨rfl,rfl,rfl,rfl⟩) ⟨w7.heap.size,0,none⟩ 1 1 [.int .i64 (x:Nat)] (by first | (simp [Act.eval]; done) | (simp [Act.eval,Act.put]; done)) rfl (by refine Pushd.news (w:=w7) (cs:=#[.int .i64 (x:Nat)]) (t:=3) ?_; exact ⟨rfl,rfl,rfl,rfl⟩) (by intro u hu; simp only [List.mem_cons,List.not_mem_nil,or_false] at hu; subst hu; rfl) (by decide) (by unfold maxLen; omega) (by omega) (by have hq:=sz_alloc w7 (.cells #[.int .i64 (x:Nat)] 3); exact Nat.le_trans hlo (Nat.le_of_lt (Nat.lt_of_lt_of_eq (Nat.lt_succ_self _) hq.symm))) (w7.heap.size+1) (sz_alloc w7 _) (fun gg cap w8 r1 r2 r3 r4 => ?_); have h8:=hide (unhide HPS _ w8 gg cap r1 r2 r3 (by exact ⟨rfl,rfl,rfl,rfl⟩)); obtain ⟨c7,z7,-⟩ := unhide h8; clear r1 r2 r3 r4))
 all_goals exact (unhide h8).2.2
end Go.Proofs.YtlidckepahpaeaaGreatDoor
