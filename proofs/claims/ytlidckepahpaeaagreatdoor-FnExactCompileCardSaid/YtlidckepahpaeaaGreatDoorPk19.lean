import Derived.Test.YtlidckepahpaeaaGreatDoorPk18
import Derived.Test.YtlidckepahpaeaaGreatDoorPk8
import Derived.Test.YtlidckepahpaeaaGreatDoorX0
import Derived.BigRegion
import Derived.BigQuiet
namespace Go.Proofs.YtlidckepahpaeaaGreatDoor
open Go.RowKit
def RowN (w:World) (b n:Nat) (f:Nat→Nat):Prop:=∃ m F,w.rowIs b 3 m F∧n≤m∧∀ j,j<n→F j = .int .i64 (f j:Nat)
theorem RowN.cell {w:World} {b n:Nat} {f:Nat→Nat} (h:RowN w b n f) {j:Nat} (hj:j<n):w.cell? ⟨b,j,none⟩ = some (.int .i64 (f j:Nat)):=by
 obtain ⟨m,F,hF,hm,h1⟩ := h
 rw [hF.cell (by omega),h1 j hj]
theorem RowN.frozen {w:World} {b n:Nat} {f:Nat→Nat} (h:RowN w b n f) (j:Nat):w.frozen? ⟨b,j,none⟩ = false:=by
 obtain ⟨m,F,hF,-⟩ := h
 exact hF.frozen j
theorem RowN.lt {w:World} {b n:Nat} {f:Nat→Nat} (h:RowN w b n f):b<w.heap.size:=by
 obtain ⟨m,F,hF,-⟩ := h
 exact hF.lt
theorem RowN.on {w w':World} {b n:Nat} {f:Nat→Nat} (h:RowN w b n f) (e:w'.heap[b]? = w.heap[b]?):RowN w' b n f:=by
 obtain ⟨m,F,hF,h1⟩ := h
 exact ⟨m,F,hF.of_block e,h1⟩
theorem RowN.put {w:World} {b n:Nat} {f:Nat→Nat} (h:RowN w b n f) (i v:Nat):RowN (w.setCell ⟨b,i,none⟩ (.int .i64 (v:Nat))) b n (upd f i v):=by
 obtain ⟨m,F,hF,hm,h1⟩ := h
 refine ⟨m,_,hF.set i _,hm,fun j hj => ?_⟩
 by_cases e:j=i
 ·subst e; simp [upd]
 ·simp [upd,e,h1 j hj]
theorem RowN.congr {w:World} {b n:Nat} {f f':Nat→Nat} (h:RowN w b n f) (e:∀ j,j<n→f j=f' j):RowN w b n f':=by
 obtain ⟨m,F,hF,hm,h1⟩ := h
 exact ⟨m,F,hF,hm,fun j hj => by rw [h1 j hj,e j hj]⟩
def bF (fr mk tt:Nat→Nat) (k:Nat):Value:=.int .i64 ((if k % 3=0 then fr (k / 3) else if k % 3=1 then mk (k / 3) else tt (k / 3):Nat):Int)
def bL (N:Nat) (fr mk tt:Nat→Nat):List Value:=(List.range (N * 3)).map (bF fr mk tt)
theorem bF0 (fr mk tt:Nat→Nat) (k:Nat):bF fr mk tt (k * 3) = .int .i64 (fr k:Nat):=by simp [bF]
theorem bF1 (fr mk tt:Nat→Nat) (k:Nat):bF fr mk tt (k * 3+1) = .int .i64 (mk k:Nat):=by
 have h1:(k * 3+1) % 3=1:=by omega
 have h2:(k * 3+1) / 3=k:=by omega
 simp [bF,h1,h2]
theorem bF2 (fr mk tt:Nat→Nat) (k:Nat):bF fr mk tt (k * 3+2) = .int .i64 (tt k:Nat):=by
 have h1:(k * 3+2) % 3=2:=by omega
 have h2:(k * 3+2) / 3=k:=by omega
 simp [bF,h1,h2]
theorem bL_len (N:Nat) (fr mk tt:Nat→Nat):(bL N fr mk tt).length=N * 3:=by simp [bL]
theorem bL_at {N:Nat} (fr mk tt:Nat→Nat) {k:Nat} (h:k<N * 3):(bL N fr mk tt)[k]? = some (bF fr mk tt k):=by simp [bL,h]
theorem bL_next (N:Nat) (fr mk tt:Nat→Nat) (a b c:Nat):bL (N+1) (upd fr N a) (upd mk N b) (upd tt N c)=bL N fr mk tt ++ [.int .i64 (a:Nat),.int .i64 (b:Nat),.int .i64 (c:Nat)]:=by
 refine List.ext_getElem? (fun k => ?_)
 by_cases h1:k<N * 3
 ·rw [List.getElem?_append_left (by rw [bL_len]; exact h1),bL_at _ _ _ h1,bL_at _ _ _ (by omega)]
  have:k / 3 ≠ N:=by omega
  simp [bF,upd,this]
 ·rw [List.getElem?_append_right (by rw [bL_len]; omega),bL_len]
  by_cases h2:k<N * 3+3
  ·rw [bL_at _ _ _ (by omega)]
   obtain rfl | rfl | rfl:k=N * 3∨k=N * 3+1∨k=N * 3+2:=by omega
   ·rw [bF0]; simp [upd]
   ·rw [bF1]; simp [upd]
   ·rw [bF2]; simp [upd]
  ·rw [List.getElem?_eq_none (by rw [bL_len]; omega),List.getElem?_eq_none (by simp; omega)]
structure PtAt (O:Nat→Prop) (g mb mc pb pc bb bc:Nat) (w:World) (n N:Nat) (ms ps bs fr mk tt:Nat→Nat) (kb kc:Nat) (qv:Value) (qs:List Int) (tk:Nat):Prop where
 box:∃ F,w.rowIs g 192 6 F∧F 0 = .slice (some ⟨mb,0,none⟩) n mc∧F 1 = .slice (some ⟨pb,0,none⟩) n pc∧F 2 = .slice (some ⟨bb,0,none⟩) n bc∧F 3 = .slice (some ⟨kb,0,none⟩) N kc∧F 4=qv∧F 5 = .int .i64 (tk:Nat)
 cap:n≤mc
 rm:RowN w mb n ms
 rp:RowN w pb n ps
 rb:RowN w bb n bs
 rk:w.ownsRow 0 199 3 (.slice (some ⟨kb,0,none⟩) N kc) N (bL N fr mk tt)
 rq:w.ownsRow 0 3 1 qv qs.length (qs.map mI)
 ng:g ≠ mb∧g ≠ pb∧g ≠ bb∧g ≠ kb
 ne:mb ≠ pb∧mb ≠ bb∧mb ≠ kb∧pb ≠ bb∧pb ≠ kb∧bb ≠ kb
 oo:O g∧O mb∧O pb∧O bb∧O kb
 oq:∀ q,qv.ownBlock=some q→O q∧q ≠ g∧q ≠ mb∧q ≠ pb∧q ≠ bb∧q ≠ kb
section
variable {O:Nat→Prop} {g mb mc pb pc bb bc:Nat} {w:World} {n N:Nat} {ms ps bs fr mk tt:Nat→Nat} {kb kc:Nat} {qv:Value} {qs:List Int} {tk:Nat}
theorem PtAt.lt (h:PtAt O g mb mc pb pc bb bc w n N ms ps bs fr mk tt kb kc qv qs tk):g<w.heap.size:=by obtain ⟨F,hF,-⟩ := h.box; exact hF.lt
theorem PtAt.ltk (h:PtAt O g mb mc pb pc bb bc w n N ms ps bs fr mk tt kb kc qv qs tk):kb<w.heap.size:=own_lt h.rk kb rfl
theorem PtAt.keep (h:PtAt O g mb mc pb pc bb bc w n N ms ps bs fr mk tt kb kc qv qs tk) {w':World} (e:∀ k,O k→k<w.heap.size→w'.heap[k]? = w.heap[k]?):PtAt O g mb mc pb pc bb bc w' n N ms ps bs fr mk tt kb kc qv qs tk:=by
 obtain ⟨F,hF,h1⟩ := h.box
 obtain ⟨o1,o2,o3,o4,o5⟩ := h.oo
 exact ⟨⟨F,hF.of_block (e g o1 hF.lt),h1⟩,h.cap,h.rm.on (e _ o2 h.rm.lt),h.rp.on (e _ o3 h.rp.lt),h.rb.on (e _ o4 h.rb.lt),own_blk h.rk (fun q hq => by cases hq; exact e _ o5 h.ltk),own_blk h.rq (fun q hq => e q (h.oq q hq).1 (own_lt h.rq q hq)),h.ng,h.ne,h.oo,h.oq⟩
theorem PtAt.mono (h:PtAt O g mb mc pb pc bb bc w n N ms ps bs fr mk tt kb kc qv qs tk) {O':Nat→Prop} (e:∀ k,O k→O' k):PtAt O' g mb mc pb pc bb bc w n N ms ps bs fr mk tt kb kc qv qs tk:=by
 obtain ⟨o1,o2,o3,o4,o5⟩ := h.oo
 exact ⟨h.box,h.cap,h.rm,h.rp,h.rb,h.rk,h.rq,h.ng,h.ne,⟨e _ o1,e _ o2,e _ o3,e _ o4,e _ o5⟩,fun q hq => ⟨e q (h.oq q hq).1,(h.oq q hq).2⟩⟩
theorem PtAt.skip (h:PtAt O g mb mc pb pc bb bc w n N ms ps bs fr mk tt kb kc qv qs tk) {w':World} (hb:Below w.heap.size w w'):PtAt (Sk O w.heap.size w'.heap.size) g mb mc pb pc bb bc w' n N ms ps bs fr mk tt kb kc qv qs tk:=by
 have h2:=h.keep (fun k _ hk => hb.block k hk)
 obtain ⟨o1,o2,o3,o4,o5⟩ := h.oo
 exact ⟨h2.box,h.cap,h2.rm,h2.rp,h2.rb,h2.rk,h2.rq,h.ng,h.ne,⟨⟨o1,Or.inl h.lt⟩,⟨o2,Or.inl h.rm.lt⟩,⟨o3,Or.inl h.rp.lt⟩,⟨o4,Or.inl h.rb.lt⟩,⟨o5,Or.inl h.ltk⟩⟩,fun q hq => ⟨⟨(h.oq q hq).1,Or.inl (own_lt h.rq q hq)⟩,(h.oq q hq).2⟩⟩
theorem PtAt.facts (h:PtAt O g mb mc pb pc bb bc w n N ms ps bs fr mk tt kb kc qv qs tk):w.cell? ⟨g,0,none⟩ = some (.slice (some ⟨mb,0,none⟩) n mc)∧w.cell? ⟨g,1,none⟩ = some (.slice (some ⟨pb,0,none⟩) n pc)∧w.cell? ⟨g,2,none⟩ = some (.slice (some ⟨bb,0,none⟩) n bc)∧w.cell? ⟨g,3,none⟩ = some (.slice (some ⟨kb,0,none⟩) N kc)∧w.cell? ⟨g,4,none⟩ = some qv∧w.cell? ⟨g,5,none⟩ = some (.int .i64 (tk:Nat))∧∀ j,w.frozen? ⟨g,j,none⟩ = false:=by
 obtain ⟨F,hF,h0,h1,h2,h3,h4,h5⟩ := h.box
 exact ⟨by rw [hF.cell (by omega),h0],by rw [hF.cell (by omega),h1],by rw [hF.cell (by omega),h2],by rw [hF.cell (by omega),h3],by rw [hF.cell (by omega),h4],by rw [hF.cell (by omega),h5],fun j => hF.frozen j⟩
theorem PtAt.blk (h:PtAt O g mb mc pb pc bb bc w n N ms ps bs fr mk tt kb kc qv qs tk) {k:Nat} (hk:k<N):w.cell? ⟨kb,k * 3,none⟩ = some (.int .i64 (fr k:Nat))∧w.cell? ⟨kb,k * 3+1,none⟩ = some (.int .i64 (mk k:Nat))∧w.cell? ⟨kb,k * 3+2,none⟩ = some (.int .i64 (tt k:Nat))∧∀ j,w.frozen? ⟨kb,j,none⟩ = false:=by
 obtain ⟨g',cap,m,F,e,-,hF,hm,hx,-⟩ := own_row h.rk (by omega)
 cases e
 have q:∀ j,j<N * 3→w.cell? ⟨kb,j,none⟩ = some (bF fr mk tt j):=fun j hj => by
  have:=hx j hj
  rw [bL_at _ _ _ hj] at this
  rw [hF.cell (by omega),← this]
 exact ⟨by rw [q _ (by omega),bF0],by rw [q _ (by omega),bF1],by rw [q _ (by omega),bF2],fun j => hF.frozen j⟩
theorem PtAt.setM (h:PtAt O g mb mc pb pc bb bc w n N ms ps bs fr mk tt kb kc qv qs tk) (i v:Nat):PtAt O g mb mc pb pc bb bc (w.setCell ⟨mb,i,none⟩ (.int .i64 (v:Nat))) n N (upd ms i v) ps bs fr mk tt kb kc qv qs tk:=by
 obtain ⟨n1,n2,n3,n4⟩ := h.ng
 obtain ⟨e1,e2,e3,e4,e5,e6⟩ := h.ne
 obtain ⟨F,hF,h1⟩ := h.box
 have e:∀ k,k ≠ mb→(w.setCell ⟨mb,i,none⟩ (.int .i64 (v:Nat))).heap[k]? = w.heap[k]? := fun k hk => Below.heap_setCell _ _ _ _ (by show k ≠ mb; exact hk)
 exact ⟨⟨F,hF.of_block (e g n1),h1⟩,h.cap,h.rm.put i v,h.rp.on (e _ (Ne.symm e1)),h.rb.on (e _ (Ne.symm e2)),own_blk h.rk (fun q hq => by cases hq; exact e _ (Ne.symm e3)),own_blk h.rq (fun q hq => e q (h.oq q hq).2.2.1),h.ng,h.ne,h.oo,h.oq⟩
theorem PtAt.setP (h:PtAt O g mb mc pb pc bb bc w n N ms ps bs fr mk tt kb kc qv qs tk) (i v:Nat):PtAt O g mb mc pb pc bb bc (w.setCell ⟨pb,i,none⟩ (.int .i64 (v:Nat))) n N ms (upd ps i v) bs fr mk tt kb kc qv qs tk:=by
 obtain ⟨n1,n2,n3,n4⟩ := h.ng
 obtain ⟨e1,e2,e3,e4,e5,e6⟩ := h.ne
 obtain ⟨F,hF,h1⟩ := h.box
 have e:∀ k,k ≠ pb→(w.setCell ⟨pb,i,none⟩ (.int .i64 (v:Nat))).heap[k]? = w.heap[k]? := fun k hk => Below.heap_setCell _ _ _ _ (by show k ≠ pb; exact hk)
 exact ⟨⟨F,hF.of_block (e g n2),h1⟩,h.cap,h.rm.on (e _ e1),h.rp.put i v,h.rb.on (e _ (Ne.symm e4)),own_blk h.rk (fun q hq => by cases hq; exact e _ (Ne.symm e5)),own_blk h.rq (fun q hq => e q (h.oq q hq).2.2.2.1),h.ng,h.ne,h.oo,h.oq⟩
theorem PtAt.setB (h:PtAt O g mb mc pb pc bb bc w n N ms ps bs fr mk tt kb kc qv qs tk) (i v:Nat):PtAt O g mb mc pb pc bb bc (w.setCell ⟨bb,i,none⟩ (.int .i64 (v:Nat))) n N ms ps (upd bs i v) fr mk tt kb kc qv qs tk:=by
 obtain ⟨n1,n2,n3,n4⟩ := h.ng
 obtain ⟨e1,e2,e3,e4,e5,e6⟩ := h.ne
 obtain ⟨F,hF,h1⟩ := h.box
 have e:∀ k,k ≠ bb→(w.setCell ⟨bb,i,none⟩ (.int .i64 (v:Nat))).heap[k]? = w.heap[k]? := fun k hk => Below.heap_setCell _ _ _ _ (by show k ≠ bb; exact hk)
 exact ⟨⟨F,hF.of_block (e g n3),h1⟩,h.cap,h.rm.on (e _ e2),h.rp.on (e _ e4),h.rb.put i v,own_blk h.rk (fun q hq => by cases hq; exact e _ (Ne.symm e6)),own_blk h.rq (fun q hq => e q (h.oq q hq).2.2.2.2.1),h.ng,h.ne,h.oo,h.oq⟩
theorem PtAt.setK (h:PtAt O g mb mc pb pc bb bc w n N ms ps bs fr mk tt kb kc qv qs tk) {i:Nat} (u:Value) {fr' mk' tt':Nat→Nat} (hi:i<N * 3) (hu:bF fr' mk' tt' i=u) (hk:∀ j,j<N * 3→j ≠ i→bF fr' mk' tt' j=bF fr mk tt j):PtAt O g mb mc pb pc bb bc (w.setCell ⟨kb,i,none⟩ u) n N ms ps bs fr' mk' tt' kb kc qv qs tk:=by
 obtain ⟨n1,n2,n3,n4⟩ := h.ng
 obtain ⟨e1,e2,e3,e4,e5,e6⟩ := h.ne
 obtain ⟨F,hF,h1⟩ := h.box
 have e:∀ k,k ≠ kb→(w.setCell ⟨kb,i,none⟩ u).heap[k]? = w.heap[k]? := fun k hk => Below.heap_setCell _ _ _ _ (by show k ≠ kb; exact hk)
 refine ⟨⟨F,hF.of_block (e g n4),h1⟩,h.cap,h.rm.on (e _ e3),h.rp.on (e _ e5),h.rb.on (e _ e6),?_,own_blk h.rq (fun q hq => e q (h.oq q hq).2.2.2.2.2),h.ng,h.ne,h.oo,h.oq⟩
 obtain ⟨g',cap,m,F2,e',-,hF2,hm,hx,hback⟩ := own_row h.rk (by omega)
 cases e'
 refine hback _ _ _ (hF2.set i u) (bL_len _ _ _ _) (fun j hj => ?_)
 rw [bL_at _ _ _ hj]
 by_cases q:j=i
 ·subst q; simp [hu]
 ·have:=hx j hj
  rw [bL_at _ _ _ hj] at this
  simp only [q,if_false]
  rw [hk j hj q,this]
theorem PtAt.setT (h:PtAt O g mb mc pb pc bb bc w n N ms ps bs fr mk tt kb kc qv qs tk) (t:Nat):PtAt O g mb mc pb pc bb bc (w.setCell ⟨g,5,none⟩ (.int .i64 (t:Nat))) n N ms ps bs fr mk tt kb kc qv qs t:=by
 obtain ⟨n1,n2,n3,n4⟩ := h.ng
 obtain ⟨F,hF,h0,h1,h2,h3,h4,h5⟩ := h.box
 have e:∀ k,k ≠ g→(w.setCell ⟨g,5,none⟩ (.int .i64 (t:Nat))).heap[k]? = w.heap[k]? := fun k hk => Below.heap_setCell _ _ _ _ (by show k ≠ g; exact hk)
 exact ⟨⟨_,hF.set 5 _,by simp [h0],by simp [h1],by simp [h2],by simp [h3],by simp [h4],by simp⟩,h.cap,h.rm.on (e _ (Ne.symm n1)),h.rp.on (e _ (Ne.symm n2)),h.rb.on (e _ (Ne.symm n3)),own_blk h.rk (fun q hq => by cases hq; exact e _ (Ne.symm n4)),own_blk h.rq (fun q hq => e q (h.oq q hq).2.1),h.ng,h.ne,h.oo,h.oq⟩
theorem PtAt.pushQ (h:PtAt O g mb mc pb pc bb bc w n N ms ps bs fr mk tt kb kc qv qs tk) (hO:∀ k,w.heap.size≤k→O k) {W w2:World} {v':Value} {xs:List Int} (hW:Below w.heap.size w W) (r1:w2.ownsRow 0 3 1 v' xs.length (xs.map mI)) (r2:W.grownBy w2 qv.ownBlock) (r3:∀ q,v'.ownBlock=some q→qv.ownBlock=some q∨w.heap.size≤q) :
  PtAt O g mb mc pb pc bb bc (w2.setCell ⟨g,4,none⟩ v') n N ms ps bs fr mk tt kb kc v' xs tk∧FrO O w (w2.setCell ⟨g,4,none⟩ v'):=by
 have hz:=hW.size
 have hz2:=r2.size
 obtain ⟨n1,n2,n3,n4⟩ := h.ng
 obtain ⟨o1,o2,o3,o4,o5⟩ := h.oo
 obtain ⟨F,hF,h0,h1,h2,h3,h4,h5⟩ := h.box
 have k2:∀ k,k<w.heap.size→qv.ownBlock ≠ some k→w2.heap[k]? = w.heap[k]? := fun k hk hne => (r2.block k (by omega) (fun e => hne e.symm)).trans (hW.block k hk)
 have kf:∀ k,k<w.heap.size→k ≠ g→qv.ownBlock ≠ some k→(w2.setCell ⟨g,4,none⟩ v').heap[k]? = w.heap[k]? := fun k hk hg hne => (Below.heap_setCell _ _ _ _ (by show k ≠ g; exact hg)).trans (k2 k hk hne)
 have hF2:=hF.of_block (k2 g hF.lt (fun e => (h.oq g e).2.1 rfl))
 have hgt:=h.lt
 have lm:=h.rm.lt
 have lp:=h.rp.lt
 have lb:=h.rb.lt
 have lk:=h.ltk
 refine ⟨⟨⟨_,hF2.set 4 _,by simp [h0],by simp [h1],by simp [h2],by simp [h3],by simp,by simp [h5]⟩,h.cap,h.rm.on (kf _ h.rm.lt (Ne.symm n1) (fun e => (h.oq _ e).2.2.1 rfl)),h.rp.on (kf _ h.rp.lt (Ne.symm n2) (fun e => (h.oq _ e).2.2.2.1 rfl)),h.rb.on (kf _ h.rb.lt (Ne.symm n3) (fun e => (h.oq _ e).2.2.2.2.1 rfl)),own_blk h.rk (fun q hq => by cases hq; exact kf _ h.ltk (Ne.symm n4) (fun e => (h.oq _ e).2.2.2.2.2 rfl)),own_blk r1 (fun q hq => ?_),h.ng,h.ne,h.oo,fun q hq => ?_⟩,?_⟩
 ·refine Below.heap_setCell _ _ _ _ ?_
  show q ≠ g
  rcases r3 q hq with e | e
  ·exact (h.oq q e).2.1
  ·omega
 ·rcases r3 q hq with e | e
  ·exact h.oq q e
  ·exact ⟨hO q e,by omega,by omega,by omega,by omega,by omega⟩
 ·refine ⟨r2.os.trans hW.os,r2.tape.trans hW.tape,r2.output.trans hW.output,by rw [sz_put]; omega,fun k hk => ?_⟩
  have hlt:k<w.heap.size:=by apply Nat.lt_of_not_le; intro e; exact hk (hO k e)
  exact kf k hlt (fun e => hk (e ▸ o1)) (fun e => hk (h.oq k e).1)
theorem PtAt.pushK (h:PtAt O g mb mc pb pc bb bc w n N ms ps bs fr mk tt kb kc qv qs tk) (hO:∀ k,w.heap.size≤k→O k) {W w2:World} {kb' kc' a b c:Nat} (hW:Below w.heap.size w W) (r1:w2.ownsRow 0 199 3 (.slice (some ⟨kb',0,none⟩) (N+1) kc') (N+1) (bL N fr mk tt ++ [.int .i64 (a:Nat),.int .i64 (b:Nat),.int .i64 (c:Nat)])) (r2:W.grownBy w2 (some kb)) (r3:kb'=kb∨w.heap.size≤kb') :
  PtAt O g mb mc pb pc bb bc (w2.setCell ⟨g,3,none⟩ (.slice (some ⟨kb',0,none⟩) (N+1) kc')) n (N+1) ms ps bs (upd fr N a) (upd mk N b) (upd tt N c) kb' kc' qv qs tk∧FrO O w (w2.setCell ⟨g,3,none⟩ (.slice (some ⟨kb',0,none⟩) (N+1) kc'))∧w2.cell? ⟨g,3,none⟩ = some (.slice (some ⟨kb,0,none⟩) N kc)∧w2.frozen? ⟨g,3,none⟩ = false:=by
 have hz:=hW.size
 have hz2:=r2.size
 obtain ⟨n1,n2,n3,n4⟩ := h.ng
 obtain ⟨e1,e2,e3,e4,e5,e6⟩ := h.ne
 obtain ⟨o1,o2,o3,o4,o5⟩ := h.oo
 obtain ⟨F,hF,h0,h1,h2,h3,h4,h5⟩ := h.box
 have k2:∀ k,k<w.heap.size→k ≠ kb→w2.heap[k]? = w.heap[k]? := fun k hk hne => (r2.block k (by omega) (fun e => hne (Option.some.inj e))).trans (hW.block k hk)
 have kf:∀ k,k<w.heap.size→k ≠ g→k ≠ kb→(w2.setCell ⟨g,3,none⟩ (.slice (some ⟨kb',0,none⟩) (N+1) kc')).heap[k]? = w.heap[k]? := fun k hk hg hne => (Below.heap_setCell _ _ _ _ (by show k ≠ g; exact hg)).trans (k2 k hk hne)
 have hF2:=hF.of_block (k2 g hF.lt n4)
 have hgt:=h.lt
 have lm:=h.rm.lt
 have lp:=h.rp.lt
 have lb:=h.rb.lt
 have ng':kb' ≠ g:=by rcases r3 with e | e <;> omega
 refine ⟨⟨⟨_,hF2.set 3 _,by simp [h0],by simp [h1],by simp [h2],by simp,by simp [h4],by simp [h5]⟩,h.cap,h.rm.on (kf _ h.rm.lt (Ne.symm n1) e3),h.rp.on (kf _ h.rp.lt (Ne.symm n2) e5),h.rb.on (kf _ h.rb.lt (Ne.symm n3) e6),?_,own_blk h.rq (fun q hq => kf q (own_lt h.rq q hq) (h.oq q hq).2.1 (h.oq q hq).2.2.2.2.2),⟨n1,n2,n3,Ne.symm ng'⟩,⟨e1,e2,by rcases r3 with e | e <;> omega,e4,by rcases r3 with e | e <;> omega,by rcases r3 with e | e <;> omega⟩,⟨o1,o2,o3,o4,?_⟩,fun q hq => ?_⟩,?_,by rw [hF2.cell (by omega),h3],hF2.frozen 3⟩
 ·rw [bL_next]
  exact own_blk r1 (fun q hq => by cases hq; exact Below.heap_setCell _ _ _ _ (by show kb' ≠ g; exact ng'))
 ·rcases r3 with e | e
  ·rw [e]; exact o5
  ·exact hO _ e
 ·obtain ⟨q1,q2,q3,q4,q5,q6⟩ := h.oq q hq
  have:=own_lt h.rq q hq
  exact ⟨q1,q2,q3,q4,q5,by rcases r3 with e | e <;> omega⟩
 ·refine ⟨r2.os.trans hW.os,r2.tape.trans hW.tape,r2.output.trans hW.output,by rw [sz_put]; omega,fun k hk => ?_⟩
  have hlt:k<w.heap.size:=by apply Nat.lt_of_not_le; intro e; exact hk (hO k e)
  exact kf k hlt (fun e => hk (e ▸ o1)) (fun e => hk (e ▸ o5))
end
set_option maxHeartbeats 2000000 in
set_option maxRecDepth 100000 in
theorem push_any (g o:Nat) (v:Value) (xs:List Int) (x:Int) (w:World) (hg:g<w.heap.size) (hq:v.ownBlock ≠ some g) (hl:xs.length≤1000000) (h0:w.cell? ⟨g,o,none⟩ = some v) (hz:w.frozen? ⟨g,o,none⟩ = false)
  (hown:w.ownsRow 0 3 1 v xs.length (xs.map mI)) :
  Calls Tryz.prog 93 #[.pointer (some ⟨g,o,none⟩),.int .i64 x] w fun e w' => e = .returned (.tuple #[]) ∧
   ∃ v' w2,w'=w2.setCell ⟨g,o,none⟩ v'∧w2.ownsRow 0 3 1 v' (xs ++ [x]).length ((xs ++ [x]).map mI)∧(w.alloc (.cells #[.int .i64 x] 3)).grownBy w2 v.ownBlock∧∀ q,v'.ownBlock=some q→v.ownBlock=some q∨w.heap.size≤q:=by
 obtain ⟨i0,hi,hz0,hz1,hz2⟩ := info_parts Tryz.zinInt
 have Hown:=hide hown
 obtain ⟨oa,oc,rfl⟩ := own_is hown
 clear hown
 go_enter Tryz.func93,Tryz.ntmps93
 go_wp2_with (at_builtin; refine wpList_append_own_at _ rfl _ _ 26 rfl 0 3 i0 (.int .i64 0) 1 8 Tryz.underlying26 hi hz0 hz1 hz2 rfl (by decide) _ _ _ rfl ((unhide Hown).alloc _) ⟨w.heap.size,0,none⟩ 1 1 [.int .i64 x] rfl rfl ?_ ?_ ?_ ?_ ?_ ?_)
 ·exact cell_1 (by simp)
 ·intro u hu; simp at hu; subst hu; rfl
 ·unfold maxLen; omega
 ·omega
 ·omega
 intro v' w2 h5 hg5 _ r3
 have H5:=hide h5
 have HG:=hide hg5
 have R3:=hide r3
 have hblk:w2.heap[g]? = w.heap[g]? := (hg5.block g (by rw [sz_alloc]; omega) (fun e => hq e.symm)).trans ((below1 w _).block g hg)
 have c1:w2.cell? ⟨g,o,none⟩ = some (.slice oa xs.length oc):=by rw [World.cell?_of_block (a:=⟨g,o,none⟩) hblk]; exact h0
 have c2:w2.frozen? ⟨g,o,none⟩ = false:=by rw [World.frozen?_of_block (a:=⟨g,o,none⟩) hblk]; exact hz
 obtain ⟨oa',oc',rfl⟩ := own_is h5
 clear h5 hg5 hblk h0 hz r3
 go_wp2
 first | (refine bodyPost_ret (results_none rfl _ _ _) rfl ?_) | (refine bodyPost_end (results_none rfl _ _ _) rfl ?_)
 refine ⟨rfl,_,w2,rfl,?_,unhide HG,fun q hq => ?_⟩
 ·rw [List.length_append,List.map_append]
  exact unhide H5
 ·rcases unhide R3 with e | e
  ·rw [e] at hq; exact .inl hq
  ·rw [e] at hq; cases hq; exact .inr (by omega)
def idL (n:Nat):List Int:=(List.range n).map Int.ofNat
theorem idL_next (n:Nat):(idL (n+1)).map mI=(idL n).map mI ++ [.int .i64 (n:Nat)]:=by simp [idL,List.range_succ,mI]
theorem own_rowN {w:World} {v:Value} {n:Nat} (h:w.ownsRow 0 3 1 v n ((idL n).map mI)) (hp:0<n):∃ b c,v = .slice (some ⟨b,0,none⟩) n c∧n≤c∧RowN w b n (fun i => i):=by
 obtain ⟨g,cap,m,F,rfl,hlt,hr,hm,hx,-⟩ := own_row h hp
 have hc:=(own_cap h).le
 refine ⟨g,cap,rfl,hc.1,m,F,hr,by omega,fun j hj => ?_⟩
 have h1:=hx j (by omega)
 rw [List.getElem?_map,idL,List.getElem?_map,List.getElem?_range hj] at h1
 simp at h1
 exact h1.symm
theorem cell_new (w:World) (v:Value) (t:TypeId):(w.alloc (.cells #[v] t)).cell? ⟨w.heap.size,0,none⟩ = some v:=by simp
structure PtNew (w0 w:World) (n i:Nat) (mv pv:Value):Prop where
 bl:Below w0.heap.size w0 w
 sz:w0.heap.size+2≤w.heap.size
 blk:w.heap[w0.heap.size]? = some (.cells #[.int .i64 0,.int .i64 0,.int .i64 (n:Nat)] 199 (0,0))
 box:w.rowIs (w0.heap.size+1) 192 6 (fun j => [mv,pv,.slice none 0 0,.slice (some ⟨w0.heap.size,0,none⟩) 1 1,.slice none 0 0,.int .i64 0].getD j undef)
 rm:w.ownsRow (w0.heap.size+2) 3 1 mv i ((idL i).map mI)
 rp:w.ownsRow (w0.heap.size+2) 3 1 pv i ((idL i).map mI)
 ne:∀ q,mv.ownBlock=some q→pv.ownBlock ≠ some q
theorem PtNew.pushM {w0 w w2:World} {n i:Nat} {mv pv v':Value} {o:Obj} (h:PtNew w0 w n i mv pv) (r1:w2.ownsRow (w0.heap.size+2) 3 1 v' (i+1) ((idL i).map mI ++ [.int .i64 (i:Nat)])) (r2:(w.alloc o).grownBy w2 mv.ownBlock) (r3:v'.ownBlock=mv.ownBlock∨v'.ownBlock=some (w.heap.size+1)) :
  w2.cell? ⟨w0.heap.size+1,0,none⟩ = some mv∧w2.frozen? ⟨w0.heap.size+1,0,none⟩ = false ∧
  Below w0.heap.size w0 (w2.setCell ⟨w0.heap.size+1,0,none⟩ v')∧w0.heap.size+2≤(w2.setCell ⟨w0.heap.size+1,0,none⟩ v').heap.size∧(w2.setCell ⟨w0.heap.size+1,0,none⟩ v').heap[w0.heap.size]? = some (.cells #[.int .i64 0,.int .i64 0,.int .i64 (n:Nat)] 199 (0,0)) ∧
  (w2.setCell ⟨w0.heap.size+1,0,none⟩ v').rowIs (w0.heap.size+1) 192 6 (fun j => [v',pv,.slice none 0 0,.slice (some ⟨w0.heap.size,0,none⟩) 1 1,.slice none 0 0,.int .i64 0].getD j undef) ∧
  (w2.setCell ⟨w0.heap.size+1,0,none⟩ v').ownsRow (w0.heap.size+2) 3 1 v' (i+1) ((idL (i+1)).map mI)∧(w2.setCell ⟨w0.heap.size+1,0,none⟩ v').ownsRow (w0.heap.size+2) 3 1 pv i ((idL i).map mI)∧∀ q,v'.ownBlock=some q→pv.ownBlock ≠ some q:=by
 have hz:=h.sz
 have hz2:=r2.size
 rw [sz_alloc] at hz2
 have k2:∀ k,k<w.heap.size→mv.ownBlock ≠ some k→w2.heap[k]? = w.heap[k]? := fun k hk hne => (r2.block k (by rw [sz_alloc]; omega) (fun e => hne e.symm)).trans ((below1 w o).block k hk)
 have lo:∀ k,mv.ownBlock=some k→w0.heap.size+2≤k:=fun k hk => (h.rm.lt k hk).1
 have b2:w2.heap[w0.heap.size+1]? = w.heap[w0.heap.size+1]? := k2 _ (by omega) (fun e => by have:=lo _ e; omega)
 have hF:=h.box.of_block b2
 have ks:∀ k,k ≠ w0.heap.size+1→(w2.setCell ⟨w0.heap.size+1,0,none⟩ v').heap[k]? = w2.heap[k]? := fun k hk => Below.heap_setCell _ _ _ _ (by show k ≠ w0.heap.size+1; exact hk)
 have lv:∀ q,v'.ownBlock=some q→w0.heap.size+2≤q:=fun q hq => (r1.lt q hq).1
 refine ⟨by rw [hF.cell (by omega)]; rfl,hF.frozen 0,⟨?_,?_,?_,?_,fun k hk => ?_⟩,by rw [sz_put]; omega,?_,?_,?_,?_,fun q hq hp => ?_⟩
 ·exact r2.os.trans h.bl.os
 ·exact r2.tape.trans h.bl.tape
 ·exact r2.output.trans h.bl.output
 ·rw [sz_put]; omega
 ·rw [ks k (by omega),k2 k (by omega) (fun e => by have:=lo _ e; omega)]; exact h.bl.block k hk
 ·rw [ks _ (by omega),k2 _ (by omega) (fun e => by have:=lo _ e; omega)]; exact h.blk
 ·refine (hF.set 0 v').congr (fun j hj => ?_)
  match j,hj with
  | 0,_ => rfl
  | 1,_ => rfl
  | 2,_ => rfl
  | 3,_ => rfl
  | 4,_ => rfl
  | 5,_ => rfl
 ·rw [idL_next]; exact own_blk r1 (fun q hq => ks q (by have:=lv q hq; omega))
 ·refine own_blk h.rp (fun q hq => ?_)
  have:=h.rp.lt q hq
  rw [ks q (by omega)]
  exact k2 q (by omega) (fun e => h.ne q e hq)
 ·have:=(h.rp.lt q hp).2
  rcases r3 with e | e
  ·rw [e] at hq; exact h.ne q hq hp
  ·rw [e] at hq; cases hq; omega
theorem PtNew.pushP {w0 w w2:World} {n i:Nat} {mv pv v':Value} {o:Obj} (hbl:Below w0.heap.size w0 w) (hz:w0.heap.size+2≤w.heap.size) (hblk:w.heap[w0.heap.size]? = some (.cells #[.int .i64 0,.int .i64 0,.int .i64 (n:Nat)] 199 (0,0)))
  (hbox:w.rowIs (w0.heap.size+1) 192 6 (fun j => [mv,pv,.slice none 0 0,.slice (some ⟨w0.heap.size,0,none⟩) 1 1,.slice none 0 0,.int .i64 0].getD j undef))
  (hrm:w.ownsRow (w0.heap.size+2) 3 1 mv (i+1) ((idL (i+1)).map mI)) (hrp:w.ownsRow (w0.heap.size+2) 3 1 pv i ((idL i).map mI)) (hne:∀ q,mv.ownBlock=some q→pv.ownBlock ≠ some q)
  (r1:w2.ownsRow (w0.heap.size+2) 3 1 v' (i+1) ((idL i).map mI ++ [.int .i64 (i:Nat)])) (r2:(w.alloc o).grownBy w2 pv.ownBlock) (r3:v'.ownBlock=pv.ownBlock∨v'.ownBlock=some (w.heap.size+1)) :
  w2.cell? ⟨w0.heap.size+1,1,none⟩ = some pv∧w2.frozen? ⟨w0.heap.size+1,1,none⟩ = false∧PtNew w0 (w2.setCell ⟨w0.heap.size+1,1,none⟩ v') n (i+1) mv v':=by
 have hz2:=r2.size
 rw [sz_alloc] at hz2
 have k2:∀ k,k<w.heap.size→pv.ownBlock ≠ some k→w2.heap[k]? = w.heap[k]? := fun k hk hne => (r2.block k (by rw [sz_alloc]; omega) (fun e => hne e.symm)).trans ((below1 w o).block k hk)
 have lo:∀ k,pv.ownBlock=some k→w0.heap.size+2≤k:=fun k hk => (hrp.lt k hk).1
 have b2:w2.heap[w0.heap.size+1]? = w.heap[w0.heap.size+1]? := k2 _ (by omega) (fun e => by have:=lo _ e; omega)
 have hF:=hbox.of_block b2
 have ks:∀ k,k ≠ w0.heap.size+1→(w2.setCell ⟨w0.heap.size+1,1,none⟩ v').heap[k]? = w2.heap[k]? := fun k hk => Below.heap_setCell _ _ _ _ (by show k ≠ w0.heap.size+1; exact hk)
 have lv:∀ q,v'.ownBlock=some q→w0.heap.size+2≤q:=fun q hq => (r1.lt q hq).1
 refine ⟨by rw [hF.cell (by omega)]; rfl,hF.frozen 1,⟨⟨?_,?_,?_,?_,fun k hk => ?_⟩,by rw [sz_put]; omega,?_,?_,?_,?_,fun q hq hp => ?_⟩⟩
 ·exact r2.os.trans hbl.os
 ·exact r2.tape.trans hbl.tape
 ·exact r2.output.trans hbl.output
 ·rw [sz_put]; omega
 ·rw [ks k (by omega),k2 k (by omega) (fun e => by have:=lo _ e; omega)]; exact hbl.block k hk
 ·rw [ks _ (by omega),k2 _ (by omega) (fun e => by have:=lo _ e; omega)]; exact hblk
 ·refine (hF.set 1 v').congr (fun j hj => ?_)
  match j,hj with
  | 0,_ => rfl
  | 1,_ => rfl
  | 2,_ => rfl
  | 3,_ => rfl
  | 4,_ => rfl
  | 5,_ => rfl
 ·refine own_blk hrm (fun q hq => ?_)
  have:=hrm.lt q hq
  rw [ks q (by omega)]
  exact k2 q (by omega) (fun e => hne q hq e)
 ·rw [idL_next]; exact own_blk r1 (fun q hq => ks q (by have:=lv q hq; omega))
 ·have:=(hrm.lt q hq).2
  rcases r3 with e | e
  ·rw [e] at hp; exact hne q hq hp
  ·rw [e] at hp; cases hp; omega
set_option maxHeartbeats 4000000 in
set_option maxRecDepth 100000 in
theorem newPartition_any (n:Nat) (w:World) (h1:1≤n) (h2:n≤1024) :
  Calls Tryz.prog 111 #[.int .i64 (n:Nat)] w fun e w' => ∃ g,e = .returned (.pointer (some ⟨g,0,none⟩))∧Below w.heap.size w w' ∧
   ∃ mb mc pb pc bb bc kb kc,PtAt (fun k => w.heap.size≤k) g mb mc pb pc bb bc w' n 1 (fun i => i) (fun i => i) (fun _ => 0) (fun _ => 0) (fun _ => 0) (fun _ => n) kb kc (.slice none 0 0) [] 0:=by
 obtain ⟨i0,hi,hz0,hz1,hz2⟩ := info_parts Tryz.zinInt
 obtain ⟨W,hW⟩ : ∃ W,W=(w.alloc (.cells #[.int .i64 0,.int .i64 0,.int .i64 (n:Nat)] 199)).alloc (.cells #[.slice none 0 0,.slice none 0 0,.slice none 0 0,.slice (some ⟨w.heap.size,0,none⟩) 1 1,.slice none 0 0,.int .i64 0] 192):=⟨_,rfl⟩
 have hN:PtNew w W n 0 (.slice none 0 0) (.slice none 0 0):=by
  rw [hW]
  refine ⟨below2 w _ _,by rw [sz_alloc,sz_alloc]; omega,?_,?_,World.ownsRow_nil _ _ _ _,World.ownsRow_nil _ _ _ _,fun q hq => by cases hq⟩
  ·rw [(below1 (w.alloc (.cells #[.int .i64 0,.int .i64 0,.int .i64 (n:Nat)] 199)) _).block _ (by rw [sz_alloc]; omega)]; simp only [World.alloc,Array.getElem?_push_size]
  ·have:=World.rowIs_alloc (w.alloc (.cells #[.int .i64 0,.int .i64 0,.int .i64 (n:Nat)] 199)) #[.slice none 0 0,.slice none 0 0,.slice none 0 0,.slice (some ⟨w.heap.size,0,none⟩) 1 1,.slice none 0 0,.int .i64 0] 192 (fun j => [.slice none 0 0,.slice none 0 0,.slice none 0 0,.slice (some ⟨w.heap.size,0,none⟩) 1 1,.slice none 0 0,.int .i64 0].getD j undef) (fun j hj => by
    match j,hj with
    | 0,_ => rfl
    | 1,_ => rfl
    | 2,_ => rfl
    | 3,_ => rfl
    | 4,_ => rfl
    | 5,_ => rfl)
   rw [sz_alloc] at this
   exact this
 have HN:=hide hN
 have HW:=hide hW
 clear hN hW
 go_enter Tryz.func111,Tryz.ntmps111
 go_wp2_with fail
 rw [← unhide HW]
 clear HW
 go_loopw [11] (fun iv wr => ∃ (i:Nat) (mv pv:Value),i≤n∧iv = .int .i64 i∧PtNew w wr n i mv pv) (fun iv _ => n - (intOf iv).toNat)
 case atStart => exact ⟨0,_,_,by omega,rfl,unhide HN⟩
 case round =>
  clear HN
  obtain ⟨i,mv,pv,hin,rfl,hP⟩ := hrel
  by_cases hlt:i<n
  ·have hlt':(i:Int)<(n:Int):=by omega
   have c0:wr.cell? ⟨w.heap.size+1,0,none⟩ = some mv:=by rw [hP.box.cell (by omega)]; rfl
   have HP:=hide hP
   have HRM:=hide hP.rm
   obtain ⟨ma,mc,rfl⟩ := own_is hP.rm
   obtain ⟨pa,pc,rfl⟩ := own_is hP.rp
   clear hP
   go_wp2_with (at_builtin; refine wpList_append_own_at _ rfl _ _ 26 rfl (w.heap.size+2) 3 i0 (.int .i64 0) 1 8 Tryz.underlying26 hi hz0 hz1 hz2 rfl (by decide) _ _ _ rfl ((unhide HRM).alloc _) ⟨wr.heap.size,0,none⟩ 1 1 [.int .i64 (i:Nat)] rfl rfl ?_ ?_ ?_ ?_ ?_ ?_)
   ·exact cell_1 (by simp)
   ·intro u hu; simp at hu; subst hu; rfl
   ·unfold maxLen; omega
   ·omega
   ·have:=(unhide HP).sz; rw [sz_alloc]; omega
   intro v' w2 r1 r2 _ r3
   have h7:=(unhide HP).pushM r1 r2 r3
   obtain ⟨oa,oc,rfl⟩ := own_is r1
   have x1:=h7.1
   have x2:=h7.2.1
   have H7:=hide h7.2.2
   have x3:=h7.2.2.2.2.2.1.cell (i:=1) (by omega)
   have HRP:=hide h7.2.2.2.2.2.2.2.1
   have hz7:=h7.2.2.2.1
   simp only [List.getD_cons_succ,List.getD_cons_zero] at x3
   clear h7 r1 r2 r3 HRM HP c0
   go_wp2_with (at_builtin; refine wpList_append_own_at _ rfl _ _ 26 rfl (w.heap.size+2) 3 i0 (.int .i64 0) 1 8 Tryz.underlying26 hi hz0 hz1 hz2 rfl (by decide) _ _ _ rfl ((unhide HRP).alloc _) ⟨(w2.setCell ⟨w.heap.size+1,0,none⟩ (.slice oa (i+1) oc)).heap.size,0,none⟩ 1 1 [.int .i64 (i:Nat)] (by simp only [sz_put]; rfl) rfl ?_ ?_ ?_ ?_ ?_ ?_)
   ·exact cell_1 (cell_new _ _ _)
   ·intro u hu; simp at hu; subst hu; rfl
   ·unfold maxLen; omega
   ·omega
   ·rw [sz_alloc]; omega
   intro v2 w3 r1 r2 _ r3
   obtain ⟨y1,y2,y3,y4,y5,y6,y7⟩ := unhide H7
   have h8:=PtNew.pushP y1 y2 y3 y4 y5 y6 y7 r1 r2 (by rw [sz_put]; exact r3)
   obtain ⟨ob,od,rfl⟩ := own_is r1
   have x4:=h8.1
   have x5:=h8.2.1
   have H8:=hide h8.2.2
   clear h8 r1 r2 r3 HRP H7 y1 y2 y3 y4 y5 y6 y7 x1 x2 x3
   go_wp2
   go_roundw
   case rel => exact ⟨i+1,_,_,by omega,rfl,unhide H8⟩
   case measure => simp [intOf]; omega
  ·have hlt':¬ (i:Int)<(n:Int):=by omega
   obtain rfl:i=n:=by omega
   obtain ⟨mb,mc,rfl,hmc,hrm⟩ := own_rowN (own_low hP.rm (Nat.zero_le _)) (by omega)
   obtain ⟨pb,pc,rfl,hpc,hrp⟩ := own_rowN (own_low hP.rp (Nat.zero_le _)) (by omega)
   have x1:=(hP.box.alloc (.cells (madeCells #[.int .i64 0] i) 3)).cell (i:=2) (by omega)
   have x2:=(hP.box.alloc (.cells (madeCells #[.int .i64 0] i) 3)).frozen 2
   simp only [List.getD_cons_succ,List.getD_cons_zero] at x1
   have HP:=hide hP
   have HRM:=hide hrm
   have HRP:=hide hrp
   clear hP hrm hrp
   have hmk:=run_make_row' (P:=Tryz.prog) 26 3 (.int .i64 0) 8 Tryz.underlying26 Tryz.zinInt rfl .i64 .i64 i (by omega) (by omega)
   go_wp2
   go_ret
   have hb:=(unhide HP).box.alloc (.cells (madeCells #[.int .i64 0] i) 3)
   have hz:=(unhide HP).sz
   have hB:=(unhide HP).bl
   have lm:=(unhide HP).rm.lt mb rfl
   have lp:=(unhide HP).rp.lt pb rfl
   have nmp:=(unhide HP).ne mb rfl
   have hblk:=(unhide HP).blk
   obtain ⟨WA,hWA⟩ : ∃ WA,WA=wr.alloc (.cells (madeCells #[.int .i64 0] i) 3):=⟨_,rfl⟩
   have hrb:RowN WA wr.heap.size i (fun _ => 0):=by
    rw [hWA]
    exact ⟨_,_,World.rowIs_made wr _ i _,Nat.le_refl _,fun j hj => rfl⟩
   have hal:∀ k,k<wr.heap.size→WA.heap[k]? = wr.heap[k]? := fun k hk => by rw [hWA]; exact (below1 wr _).block k hk
   have hzA:WA.heap.size=wr.heap.size+1:=by rw [hWA,sz_alloc]
   have hos:WA.os=wr.os∧WA.tape=wr.tape∧WA.output=wr.output:=by rw [hWA]; exact ⟨rfl,rfl,rfl⟩
   rw [← hWA] at hb ⊢
   have ks:∀ k,k ≠ w.heap.size+1→(WA.setCell ⟨w.heap.size+1,2,none⟩ (.slice (some ⟨wr.heap.size,0,none⟩) i i)).heap[k]? = WA.heap[k]? := fun k hk => Below.heap_setCell _ _ _ _ (by show k ≠ w.heap.size+1; exact hk)
   refine ⟨w.heap.size+1,rfl,⟨hos.1.trans hB.os,hos.2.1.trans hB.tape,hos.2.2.trans hB.output,by rw [sz_put]; omega,fun k hk => ?_⟩,mb,mc,pb,pc,wr.heap.size,i,w.heap.size,1,⟨⟨_,hb.set 2 _,rfl,rfl,rfl,rfl,rfl,rfl⟩,hmc,(unhide HRM).on ?_,(unhide HRP).on ?_,hrb.on ?_,?_,World.ownsRow_nil _ _ _ _,⟨by omega,by omega,by omega,by omega⟩,⟨fun e => nmp (by rw [e]; rfl),by omega,by omega,by omega,by omega,by omega⟩,⟨by omega,by omega,by omega,by omega,by omega⟩,fun q hq => by cases hq⟩⟩
   ·rw [ks k (by omega),hal k (by omega)]; exact hB.block k hk
   ·rw [ks _ (by omega),hal _ (by omega)]
   ·rw [ks _ (by omega),hal _ (by omega)]
   ·rw [ks _ (by omega)]
   ·refine ⟨rfl,Or.inr ⟨_,_,#[.int .i64 0,.int .i64 0,.int .i64 (i:Nat)],rfl,Nat.zero_le _,?_,Nat.le_refl _,by unfold maxLen; omega,rfl,?_⟩⟩
    ·rw [ks _ (by omega),hal _ (by omega)]; exact hblk
    ·simp [bL,bF,List.range_succ]
theorem Tryz.zinBlk:(Tryz.prog.info? 199).map (fun i => (i.zero,i.size,i.bytes))=some (some (.agg #[.int .i64 0,.int .i64 0,.int .i64 0]),3,24):=by kernel_rfl
set_option maxHeartbeats 4000000 in
set_option maxRecDepth 100000 in
theorem cut_append {u1 u2 u3 u4 u6 u7 u8 u9 u10 u11 u12 u13 u14 u15 u16 u17 u18 u19 u20 u21 u22 u23 u24 u25 u26 u27 u28 u29 u30 u31 u32 u33 u34 u35 u36 u37 u38 u39 u40 u41 u42 u43 u44 u45 u46 u47 u48 u49 u50 u51 u52 u53 u54 u55 u56 u57 u58 u59 u60 u61 u62 u63 u64 u65 u66 u67 u68 u69 u70 u71 u72 u73 u74 u75 u76 u77 u78 u79 u80 u81 u82 u83 u84 u85 u86 u87 u88 u89 u90 u91 u92 u93 u94 u95 u96 u97 u98 u99 u100 u101 u102 u103 u104 u105:Value} {K:Act→World→Prop} {R:Ending→World→Prop} (w7:World) (g ob kb kc N q1 q2:Nat) (xs:List Value) (hg:g<w7.heap.size) (hN:N≤1024)
  (y3:w7.cell? ⟨g,3,none⟩ = some (.slice (some ⟨kb,0,none⟩) N kc)) (k0:w7.cell? ⟨ob,0,none⟩ = some (.int .i64 (q1:Nat))) (k1:w7.cell? ⟨ob,1,none⟩ = some (.int .i64 (q1:Nat))) (k2:w7.cell? ⟨ob,2,none⟩ = some (.int .i64 (q2:Nat)))
  (hrk:w7.ownsRow 0 199 3 (.slice (some ⟨kb,0,none⟩) N kc) N xs)
  (hps:∀ (WA w8:World) (gg cap:Nat),w8.ownsRow 0 199 3 (.slice (some ⟨gg,0,none⟩) (N+1) cap) (N+1) (xs ++ [.int .i64 (q1:Nat),.int .i64 (q1:Nat),.int .i64 (q2:Nat)])→WA.grownBy w8 (some kb)→(some kb=some gg∨gg=w7.heap.size+1)→Pushd w7 WA (.cells #[.int .i64 (q1:Nat),.int .i64 (q1:Nat),.int .i64 (q2:Nat)] 199) →
   w8.cell? ⟨g,3,none⟩ = some (.slice (some ⟨kb,0,none⟩) N kc)∧w8.frozen? ⟨g,3,none⟩ = false∧K { tmps:=#[.pointer (some ⟨g,0,none⟩),u1,u2,u3,u4,.pointer (some ⟨ob,0,none⟩),u6,u7,u8,u9,u10,u11,u12,u13,u14,u15,u16,u17,u18,u19,u20,u21,u22,u23,u24,u25,u26,u27,u28,u29,u30,u31,u32,u33,u34,u35,u36,u37,u38,u39,u40,u41,u42,u43,u44,u45,u46,u47,u48,u49,u50,u51,u52,u53,u54,u55,u56,u57,u58,u59,u60,u61,u62,u63,u64,u65,u66,u67,u68,u69,u70,u71,u72,u73,u74,.pointer (some ⟨g,0,none⟩),.pointer (some ⟨g,0,none⟩),.pointer (some ⟨g,0,none⟩),.pointer (some ⟨g,3,none⟩),.slice (some ⟨kb,0,none⟩) N kc,.agg #[.int .i64 (q1:Nat),.int .i64 (q1:Nat),.int .i64 (q2:Nat)],.slice (some ⟨w7.heap.size,0,none⟩) 1 1,.slice (some ⟨gg,0,none⟩) (N+1) cap,.pointer (some ⟨g,0,none⟩),.pointer (some ⟨g,3,none⟩),u85,u86,u87,u88,u89,u90,u91,u92,u93,u94,u95,u96,u97,u98,u99,u100,u101,u102,u103,u104,u105],defers := [] } (w8.setCell ⟨g,3,none⟩ (.slice (some ⟨gg,0,none⟩) (N+1) cap))) :
  Code.wp Tryz.prog (Code.region 9 #[{ dst:=some 75,op:=Op.move (Operand.tmp 0),type:=186,pos := "l2_dfa.go:609",after:=#[],guard:=none },{ dst:=some 76,op:=Op.move (Operand.tmp 0),type:=186,pos := "l2_dfa.go:609",after:=#[],guard:=none },{ dst:=some 77,op:=Op.nilCheck (Operand.tmp 76),type:=0,pos := "l2_dfa.go:609",after:=#[{ on:=1,ground:=Ground.data }],guard:=none },{ dst:=some 78,op:=Op.fieldAddr 192 (Operand.tmp 77) 3,type:=0,pos := "l2_dfa.go:609",after:=#[{ on:=2,ground:=Ground.data }],guard:=none },{ dst:=some 79,op:=Op.load 190 (Operand.tmp 78),type:=190,pos := "l2_dfa.go:609",after:=#[{ on:=3,ground:=Ground.data }],guard:=none },{ dst:=some 80,op:=Op.load 199 (Operand.tmp 5),type:=199,pos := "l2_dfa.go:609",after:=#[],guard:=none },{ dst:=some 81,op:=Op.buildSlice 190 1 #[(0,Operand.tmp 80)],type:=190,pos := "l2_dfa.go:609",after:=#[{ on:=5,ground:=Ground.data }],guard:=none },{ dst:=some 82,op:=Op.call { callee:=Callee.builtin Builtin.append,args:=#[Operand.tmp 79,Operand.tmp 81],argTypes:=#[190,190] },type:=190,pos := "l2_dfa.go:609",after:=#[{ on:=4,ground:=Ground.data },{ on:=6,ground:=Ground.data }],guard:=none },{ dst:=some 83,op:=Op.nilCheck (Operand.tmp 75),type:=0,pos := "l2_dfa.go:609",after:=#[{ on:=0,ground:=Ground.data },{ on:=0,ground:=Ground.phase },{ on:=1,ground:=Ground.phase },{ on:=2,ground:=Ground.phase },{ on:=3,ground:=Ground.phase },{ on:=4,ground:=Ground.phase },{ on:=5,ground:=Ground.phase },{ on:=6,ground:=Ground.phase },{ on:=7,ground:=Ground.phase }],guard:=none },{ dst:=some 84,op:=Op.fieldAddr 192 (Operand.tmp 83) 3,type:=0,pos := "l2_dfa.go:609",after:=#[{ on:=8,ground:=Ground.data },{ on:=0,ground:=Ground.phase },{ on:=1,ground:=Ground.phase },{ on:=2,ground:=Ground.phase },{ on:=3,ground:=Ground.phase },{ on:=4,ground:=Ground.phase },{ on:=5,ground:=Ground.phase },{ on:=6,ground:=Ground.phase },{ on:=7,ground:=Ground.phase }],guard:=none },{ dst:=none,op:=Op.store 190 (Operand.tmp 84) (Operand.tmp 82),type:=0,pos := "l2_dfa.go:609",after:=#[{ on:=9,ground:=Ground.data },{ on:=7,ground:=Ground.data },{ on:=7,ground:=Ground.chain },{ on:=0,ground:=Ground.phase },{ on:=1,ground:=Ground.phase },{ on:=2,ground:=Ground.phase },{ on:=3,ground:=Ground.phase },{ on:=4,ground:=Ground.phase },{ on:=5,ground:=Ground.phase },{ on:=6,ground:=Ground.phase },{ on:=7,ground:=Ground.phase }],guard:=none }] true) (Exit.then K (bodyPost Tryz.prog Tryz.f121 R)) { tmps:=#[.pointer (some ⟨g,0,none⟩),u1,u2,u3,u4,.pointer (some ⟨ob,0,none⟩),u6,u7,u8,u9,u10,u11,u12,u13,u14,u15,u16,u17,u18,u19,u20,u21,u22,u23,u24,u25,u26,u27,u28,u29,u30,u31,u32,u33,u34,u35,u36,u37,u38,u39,u40,u41,u42,u43,u44,u45,u46,u47,u48,u49,u50,u51,u52,u53,u54,u55,u56,u57,u58,u59,u60,u61,u62,u63,u64,u65,u66,u67,u68,u69,u70,u71,u72,u73,u74,u75,u76,u77,u78,u79,u80,u81,u82,u83,u84,u85,u86,u87,u88,u89,u90,u91,u92,u93,u94,u95,u96,u97,u98,u99,u100,u101,u102,u103,u104,u105],defers := [] } w7:=by
 obtain ⟨j0,hj0,hy0,hy1,hy2⟩ := info_parts Tryz.zinBlk
 have y3':=(below1 w7 (.cells #[.int .i64 (q1:Nat),.int .i64 (q1:Nat),.int .i64 (q2:Nat)] 199)).cell (p:=⟨g,3,none⟩) hg
 rw [y3] at y3'
 have HPS:=hide hps
 have HRK:=hide hrk
 clear hps hrk
 go_region_law (
  (refine step_append_lies _ rfl (.tmp 79) (.tmp 81) 190 rfl 0 199 j0 (.agg #[.int .i64 0,.int .i64 0,.int .i64 0]) 3 24 Tryz.underlying190 hj0 hy0 hy1 hy2 rfl (by decide) (.slice (some ⟨kb,0,none⟩) N kc) N xs (by first | (simp [Act.eval]; done) | (simp [Act.eval,Act.put]; done)) (by refine Pushd.own (w:=w7) (o:=.cells #[.int .i64 (q1:Nat),.int .i64 (q1:Nat),.int .i64 (q2:Nat)] 199) ?_ (unhide HRK); exact ⟨rfl,rfl,rfl,rfl⟩) ⟨w7.heap.size,0,none⟩ 1 1 [.int .i64 (q1:Nat),.int .i64 (q1:Nat),.int .i64 (q2:Nat)] (by first | (simp [Act.eval]; done) | (simp [Act.eval,Act.put]; done)) rfl (by refine Pushd.news (w:=w7) (cs:=#[.int .i64 (q1:Nat),.int .i64 (q1:Nat),.int .i64 (q2:Nat)]) (t:=199) ?_; exact ⟨rfl,rfl,rfl,rfl⟩) (by intro u hu; simp only [List.mem_cons,List.not_mem_nil,or_false] at hu; rcases hu with rfl | rfl | rfl <;> rfl) (by decide) (by unfold maxLen; omega) (by omega) (Nat.zero_le _) (w7.heap.size+1) (sz_alloc w7 _) (fun gg cap w8 r1 r2 r3 r4 => ?_); have h8:=hide (unhide HPS _ w8 gg cap r1 r2 r3 (by exact ⟨rfl,rfl,rfl,rfl⟩)); obtain ⟨c7,z7,-⟩ := unhide h8; clear r1 r2 r3 r4))
 all_goals exact (unhide h8).2.2
theorem bF_fr (fr mk tt:Nat→Nat) {j k:Nat} (x:Nat) (h:j ≠ k * 3):bF (upd fr k x) mk tt j=bF fr mk tt j:=by
 unfold bF
 by_cases h1:j % 3=0
 ·simp only [h1,if_true]; rw [upd_ne _ (by omega)]
 ·simp only [h1,if_false]
theorem bF_mk (fr mk tt:Nat→Nat) {j k:Nat} (x:Nat) (h:j ≠ k * 3+1):bF fr (upd mk k x) tt j=bF fr mk tt j:=by
 unfold bF
 by_cases h1:j % 3=1
 ·simp only [h1,if_true]; rw [upd_ne _ (by omega)]
 ·simp only [h1,if_false]
theorem bF_tt (fr mk tt:Nat→Nat) {j k:Nat} (x:Nat) (h:j ≠ k * 3+2):bF fr mk (upd tt k x) j=bF fr mk tt j:=by
 unfold bF
 by_cases h1:j % 3=0
 ·simp only [h1,if_true]
 ·by_cases h2:j % 3=1
  ·simp only [h2,if_true]
  ·simp only [h1,h2,if_false]; rw [upd_ne _ (by omega)]
theorem upd_upd (f:Nat→Nat) (k a b:Nat):upd (upd f k a) k b=upd f k b:=by
 funext x
 by_cases h:x=k
 ·subst h; simp [upd]
 ·simp [upd,h]
section
variable {O:Nat→Prop} {g mb mc pb pc bb bc:Nat} {w:World} {n N:Nat} {ms ps bs fr mk tt:Nat→Nat} {kb kc:Nat} {qv:Value} {qs:List Int} {tk:Nat}
theorem PtAt.setFr (h:PtAt O g mb mc pb pc bb bc w n N ms ps bs fr mk tt kb kc qv qs tk) {k:Nat} (hk:k<N) (x:Nat):PtAt O g mb mc pb pc bb bc (w.setCell ⟨kb,k * 3,none⟩ (.int .i64 (x:Nat))) n N ms ps bs (upd fr k x) mk tt kb kc qv qs tk :=
 h.setK _ (by omega) (by rw [bF0,upd_at]) (fun j _ hj => bF_fr _ _ _ _ hj)
theorem PtAt.setMk (h:PtAt O g mb mc pb pc bb bc w n N ms ps bs fr mk tt kb kc qv qs tk) {k:Nat} (hk:k<N) (x:Nat):PtAt O g mb mc pb pc bb bc (w.setCell ⟨kb,k * 3+1,none⟩ (.int .i64 (x:Nat))) n N ms ps bs fr (upd mk k x) tt kb kc qv qs tk :=
 h.setK _ (by omega) (by rw [bF1,upd_at]) (fun j _ hj => bF_mk _ _ _ _ hj)
theorem PtAt.setTt (h:PtAt O g mb mc pb pc bb bc w n N ms ps bs fr mk tt kb kc qv qs tk) {k:Nat} (hk:k<N) (x:Nat):PtAt O g mb mc pb pc bb bc (w.setCell ⟨kb,k * 3+2,none⟩ (.int .i64 (x:Nat))) n N ms ps bs fr mk (upd tt k x) kb kc qv qs tk :=
 h.setK _ (by omega) (by rw [bF2,upd_at]) (fun j _ hj => bF_tt _ _ _ _ hj)
theorem PtAt.fro (h:PtAt O g mb mc pb pc bb bc w n N ms ps bs fr mk tt kb kc qv qs tk) (j:Nat) (u:Value):FrO O w (w.setCell ⟨kb,j,none⟩ u):=(obk_put j u).fro h.oo.2.2.2.2
theorem PtAt.froB (h:PtAt O g mb mc pb pc bb bc w n N ms ps bs fr mk tt kb kc qv qs tk) (j:Nat) (u:Value):FrO O w (w.setCell ⟨bb,j,none⟩ u):=(obk_put j u).fro h.oo.2.2.2.1
end
def CutS (f m t o1 o2 r1 r2:Nat):Prop:=(o1=f∧o2=m∧r1=m∧r2=t∧m - f≤t - m)∨(o1=m∧o2=t∧r1=f∧r2=m∧t - m<m - f)
structure CutM (w w':World) (o1 o2 r1 r2:Nat):Prop where
 off:w'.rowIs w.heap.size 199 3 (fun j => [Value.int .i64 (o1:Nat),.int .i64 (o1:Nat),.int .i64 (o2:Nat)].getD j undef)
 rest:w'.rowIs (w.heap.size+1) 199 3 (fun j => [Value.int .i64 (r1:Nat),.int .i64 (r1:Nat),.int .i64 (r2:Nat)].getD j undef)
 bl:Below w.heap.size w w'
 sz:w'.heap.size=w.heap.size+2
theorem CutM.drew {w w':World} {o1 o2 r1 r2:Nat} (h:CutM w w' o1 o2 r1 r2):CutM w w'.drew o1 o2 r1 r2:=⟨h.off.drew,h.rest.drew,h.bl.drew,h.sz⟩
theorem row3_new (w:World) (a b c:Value) (t:TypeId):(w.alloc (.cells #[a,b,c] t)).rowIs w.heap.size t 3 (fun j => [a,b,c].getD j undef) :=
 World.rowIs_alloc w #[a,b,c] t _ (fun j hj => by
  match j,hj with
  | 0,_ => rfl
  | 1,_ => rfl
  | 2,_ => rfl)
theorem row3_set {w:World} {b:Nat} {t:TypeId} {F:Nat→Value} (h:w.rowIs b t 3 F) (x y z:Value):(((w.setCell ⟨b,0,none⟩ x).setCell ⟨b,1,none⟩ y).setCell ⟨b,2,none⟩ z).rowIs b t 3 (fun j => [x,y,z].getD j undef) :=
 (((h.set 0 x).set 1 y).set 2 z).congr (fun j hj => by
  match j,hj with
  | 0,_ => rfl
  | 1,_ => rfl
  | 2,_ => rfl)
theorem CutM.swap {w w':World} {o1 o2 r1 r2:Nat} (h:CutM w w' o1 o2 r1 r2):CutM w ((((((w'.setCell ⟨w.heap.size,0,none⟩ (.int .i64 (r1:Nat))).setCell ⟨w.heap.size,1,none⟩ (.int .i64 (r1:Nat))).setCell ⟨w.heap.size,2,none⟩ (.int .i64 (r2:Nat))).setCell ⟨w.heap.size+1,0,none⟩ (.int .i64 (o1:Nat))).setCell ⟨w.heap.size+1,1,none⟩ (.int .i64 (o1:Nat))).setCell ⟨w.heap.size+1,2,none⟩ (.int .i64 (o2:Nat))) r1 r2 o1 o2:=by
 obtain ⟨A,hA⟩ : ∃ A,A=((w'.setCell ⟨w.heap.size,0,none⟩ (.int .i64 (r1:Nat))).setCell ⟨w.heap.size,1,none⟩ (.int .i64 (r1:Nat))).setCell ⟨w.heap.size,2,none⟩ (.int .i64 (r2:Nat)):=⟨_,rfl⟩
 have bA:Obk w.heap.size w' A:=by rw [hA]; exact ((obk_put _ _).trans (obk_put _ _)).trans (obk_put _ _)
 have rA:=row3_set h.off (.int .i64 (r1:Nat)) (.int .i64 (r1:Nat)) (.int .i64 (r2:Nat))
 rw [← hA] at rA ⊢
 obtain ⟨B,hB⟩ : ∃ B,B=((A.setCell ⟨w.heap.size+1,0,none⟩ (.int .i64 (o1:Nat))).setCell ⟨w.heap.size+1,1,none⟩ (.int .i64 (o1:Nat))).setCell ⟨w.heap.size+1,2,none⟩ (.int .i64 (o2:Nat)):=⟨_,rfl⟩
 have bB:Obk (w.heap.size+1) A B:=by rw [hB]; exact ((obk_put _ _).trans (obk_put _ _)).trans (obk_put _ _)
 have rB:=row3_set (h.rest.of_block (bA.block _ (by omega))) (.int .i64 (o1:Nat)) (.int .i64 (o1:Nat)) (.int .i64 (o2:Nat))
 rw [← hB] at rB ⊢
 exact ⟨rA.of_block (bB.block _ (by omega)),rB,⟨bB.os.trans (bA.os.trans h.bl.os),bB.tape.trans (bA.tape.trans h.bl.tape),bB.output.trans (bA.output.trans h.bl.output),by rw [bB.size,bA.size]; exact h.bl.size,fun k hk => by rw [bB.block k (by omega),bA.block k (by omega)]; exact h.bl.block k hk⟩,by rw [bB.size,bA.size]; exact h.sz⟩
theorem PtAt.congrB {O:Nat→Prop} {g mb mc pb pc bb bc:Nat} {w:World} {n N:Nat} {ms ps bs bs' fr mk tt:Nat→Nat} {kb kc:Nat} {qv:Value} {qs:List Int} {tk:Nat} (h:PtAt O g mb mc pb pc bb bc w n N ms ps bs fr mk tt kb kc qv qs tk) (e:∀ t,t<n→bs t=bs' t):PtAt O g mb mc pb pc bb bc w n N ms ps bs' fr mk tt kb kc qv qs tk :=
 ⟨h.box,h.cap,h.rm,h.rp,h.rb.congr e,h.rk,h.rq,h.ng,h.ne,h.oo,h.oq⟩
def CutRet (O:Nat→Prop) (g mb mc pb pc bb bc:Nat) (w:World) (n N:Nat) (ms ps bs fr mk tt:Nat→Nat) (qs:List Int) (tk k:Nat):Prop :=
 (∃ kb kc qv,(mk k=fr k∨mk k=tt k)∧PtAt O g mb mc pb pc bb bc w n N ms ps bs fr (upd mk k (fr k)) tt kb kc qv qs tk) ∨
 (∃ kb kc qv o1 o2 r1 r2,fr k<mk k∧mk k<tt k∧CutS (fr k) (mk k) (tt k) o1 o2 r1 r2∧PtAt O g mb mc pb pc bb bc w n (N+1) ms ps (fun t => if o1≤ps t∧ps t<o2 then N else bs t) (upd (upd fr k r1) N o1) (upd (upd mk k r1) N o1) (upd (upd tt k r2) N o2) kb kc qv (qs ++ [(N:Int)]) tk)
set_option maxHeartbeats 2000000 in
set_option maxRecDepth 100000 in
theorem membersOf_any (g mb mo bb bo n N c1 c2:Nat) (k fr mk tt:Nat) (w:World) (hk:k<N) (h1:fr<tt) (h2:tt≤n) (h3:n≤c1) (hg:g<w.heap.size)
  (f0:w.cell? ⟨g,0,none⟩ = some (.slice (some ⟨mb,mo,none⟩) n c1)) (f3:w.cell? ⟨g,3,none⟩ = some (.slice (some ⟨bb,bo,none⟩) N c2))
  (b0:w.cell? ⟨bb,bo+k * 3,none⟩ = some (.int .i64 fr)) (b1:w.cell? ⟨bb,bo+k * 3+1,none⟩ = some (.int .i64 mk)) (b2:w.cell? ⟨bb,bo+k * 3+2,none⟩ = some (.int .i64 tt)) :
  Calls Tryz.prog 114 #[.pointer (some ⟨g,0,none⟩),.int .i64 k] w fun e w' => e = .returned (.slice (some ⟨mb,mo+fr,none⟩) (tt - fr) (c1 - fr))∧Below w.heap.size w w':=by
 have hk':(k:Int)<(N:Int):=by omega
 have q1:(fr:Int)≤(tt:Int):=by omega
 have q2:(tt:Int)≤(c1:Int):=by omega
 have q3:¬ c1=fr:=by omega
 go_enter Tryz.func114,Tryz.ntmps114
 go_wp2_with fail
 have u0:(w.alloc (.cells #[.int .i64 fr,.int .i64 mk,.int .i64 tt] 199)).cell? ⟨g,0,none⟩ = some (.slice (some ⟨mb,mo,none⟩) n c1):=by rw [(below1 w _).cell (p:=⟨g,0,none⟩) hg]; exact f0
 go_quiet (fail)
 go_wp2
 go_ret
 exact ⟨rfl,below_drewN (below1 w _) _⟩
end Go.Proofs.YtlidckepahpaeaaGreatDoor
