import Derived.Test.YtlidckepahpaeaaGreatDoorPk6
import Derived.Test.YtlidckepahpaeaaGreatDoorX0
import Derived.RangeFuncBox
namespace Go.Proofs.YtlidckepahpaeaaGreatDoor
open Go.RowKit
def Free (w:World) (b:Nat):Prop:=∃ c t,w.heap[b]? = some (.cells c t (0,0))
theorem Free.same {w w':World} {b:Nat} (h:Free w b) (e:w'.heap[b]? = w.heap[b]?):Free w' b:=by
 obtain ⟨c,t,hb⟩ := h
 exact ⟨c,t,e.trans hb⟩
theorem Free.put {w:World} {b b' o:Nat} {u:Value} (h:Free w b):Free (w.setCell ⟨b',o,none⟩ u) b:=by
 by_cases e:b=b'
 ·subst e; exact own_put h
 ·exact h.same (Below.heap_setCell _ _ _ _ (by exact e))
def Rng (lo n:Nat) (k:Nat):Prop:=lo≤k∧k<n
structure ChgF (S:Nat→Prop) (w w':World):Prop where
 os:w'.os=w.os
 tape:w'.tape=w.tape
 output:w'.output=w.output
 size:w'.heap.size=w.heap.size
 block:∀ k,¬ S k→w'.heap[k]? = w.heap[k]?
theorem ChgF.refl (S:Nat→Prop) (w:World):ChgF S w w:=⟨rfl,rfl,rfl,rfl,fun _ _ => rfl⟩
theorem ChgF.trans {S:Nat→Prop} {a b c:World} (h:ChgF S a b) (k:ChgF S b c):ChgF S a c :=
 ⟨k.os.trans h.os,k.tape.trans h.tape,k.output.trans h.output,k.size.trans h.size,fun i hi => (k.block i hi).trans (h.block i hi)⟩
theorem ChgF.mono {S T:Nat→Prop} {a b:World} (h:ChgF S a b) (hs:∀ k,S k→T k):ChgF T a b:=⟨h.os,h.tape,h.output,h.size,fun k hk => h.block k (fun q => hk (hs k q))⟩
theorem Chg.foot {lo n:Nat} {S:Nat→Prop} {a b:World} (h:Chg lo n a b) (hs:∀ k,lo≤k→k<n→S k):ChgF S a b:=⟨h.os,h.tape,h.output,h.size,fun k hk => h.block k (by
 by_cases e:lo≤k∧k<n
 ·exact absurd (hs k e.1 e.2) hk
 ·omega)⟩
theorem ChgF.below {S:Nat→Prop} {lo:Nat} {w w':World} (h:ChgF S w w') (hs:∀ k,S k→lo≤k):Below lo w w':=⟨h.os,h.tape,h.output,by rw [h.size]; exact Nat.le_refl _,fun k hk => h.block k (fun q => by have:=hs k q; omega)⟩
theorem ChgF.put {S:Nat→Prop} {a w:World} (h:ChgF S a w) {b o:Nat} (h1:S b) (u:Value):ChgF S a (w.setCell ⟨b,o,none⟩ u) :=
 h.trans ⟨rfl,rfl,rfl,by simp [World.setCell],fun k hk => Below.heap_setCell _ _ _ _ (by show k ≠ b; intro e; subst e; exact hk h1)⟩
def SlF {α:Type} (mk:α→Value) (d:α) (S:Nat→Prop) (w:World) (v:Value) (xs:List α):Prop :=
 ∃ lo n,SlW mk d lo n w v xs∧∀ k,lo≤k→k<n→S k
theorem SlW.foot {α:Type} {mk:α→Value} {d:α} {lo n:Nat} {w:World} {v:Value} {xs:List α} (h:SlW mk d lo n w v xs):SlF mk d (Rng lo n) w v xs:=⟨lo,n,h,fun _ h1 h2 => ⟨h1,h2⟩⟩
theorem SlF.same {α:Type} {mk:α→Value} {d:α} {S:Nat→Prop} {w w':World} {v:Value} {xs:List α} (h:SlF mk d S w v xs) (hs:∀ k,S k→w'.heap[k]? = w.heap[k]?):SlF mk d S w' v xs:=by
 obtain ⟨lo,n,h1,h2⟩ := h
 exact ⟨lo,n,h1.same (fun k k1 k2 => hs k (h2 k k1 k2)),h2⟩
theorem SlF.mono {α:Type} {mk:α→Value} {d:α} {S T:Nat→Prop} {w:World} {v:Value} {xs:List α} (h:SlF mk d S w v xs) (hs:∀ k,S k→T k):SlF mk d T w v xs:=by
 obtain ⟨lo,n,h1,h2⟩ := h
 exact ⟨lo,n,h1,fun k k1 k2 => hs k (h2 k k1 k2)⟩
theorem SlF.at {α:Type} {mk:α→Value} {d:α} {S:Nat→Prop} {N:Nat} {w:World} {v:Value} {xs:List α} (h:SlF mk d S w v xs) (hs:∀ k,S k→k<N):SlAt mk d 0 N w v xs:=by
 obtain ⟨lo,n,⟨a,cap,rfl,hl,hc⟩,h2⟩ := h
 refine ⟨a,cap,rfl,hl,fun hp => ?_⟩
 obtain ⟨b,off,rfl,h3,h4,h5,hcell⟩ := hc hp
 exact ⟨b,off,rfl,Nat.zero_le _,hs b (h2 b h3 h4),hcell⟩
theorem SlF.val {α:Type} {mk:α→Value} {d:α} {S:Nat→Prop} {w:World} {v:Value} {xs:List α} (h:SlF mk d S w v xs):∃ a cap,v = .slice a xs.length cap:=by
 obtain ⟨lo,n,⟨a,cap,e,-⟩,-⟩ := h
 exact ⟨a,cap,e⟩
def SsAt {α:Type} (mk:α→Value) (d:α) (N:Nat) (w:World) (v:Value) (xss:List (List α)):Prop :=
 ∃ a cap,v = .slice a xss.length cap∧(xss.length≤cap∧cap≤maxLen) ∧
  (0<xss.length→∃ b off,a=some ⟨b,off,none⟩∧b<N∧∀ i:Nat,i<xss.length→∃ s,w.cell? ⟨b,off+i,none⟩ = some s∧SlAt mk d 0 N w s (xss[i]?.getD [])∧CapOk s)
theorem SsAt.below {α:Type} {mk:α→Value} {d:α} {m:Nat} {w w':World} {v:Value} {xss:List (List α)} (h:SsAt mk d w.heap.size w v xss) (hb:Below m w w') (hm:w.heap.size≤m):SsAt mk d w'.heap.size w' v xss:=by
 obtain ⟨a,cap,rfl,hl,hc⟩ := h
 refine ⟨a,cap,rfl,hl,fun hp => ?_⟩
 obtain ⟨b,off,rfl,h1,h2⟩ := hc hp
 refine ⟨b,off,rfl,by have:=hb.size; omega,fun i hi => ?_⟩
 obtain ⟨s,h3,h4,h5⟩ := h2 i hi
 exact ⟨s,by rw [hb.cell (p:=⟨b,off+i,none⟩) (by show b<m; omega)]; exact h3,h4.below hb hm,h5⟩
def SsF {α:Type} (mk:α→Value) (d:α) (S:Nat→Prop) (w:World) (v:Value) (xss:List (List α)):Prop :=
 ∃ a cap,v = .slice a xss.length cap∧(xss.length≤cap∧cap≤maxLen)∧(0<xss.length→∃ (b off:Nat) (sv:Nat→Value) (T:Nat→Nat→Prop),a=some ⟨b,off,none⟩∧S b∧Free w b ∧
  (∀ i:Nat,i<xss.length→w.cell? ⟨b,off+i,none⟩ = some (sv i))∧(∀ i:Nat,i<xss.length→SlF mk d (T i) w (sv i) (xss[i]?.getD [])∧CapOk (sv i)) ∧
  (∀ i:Nat,i<xss.length→∀ k,T i k→S k∧k ≠ b)∧∀ i j:Nat,i<xss.length→j<xss.length→i ≠ j→∀ k,T i k→¬ T j k)
theorem SsF.at {α:Type} {mk:α→Value} {d:α} {S:Nat→Prop} {N:Nat} {w:World} {v:Value} {xss:List (List α)} (h:SsF mk d S w v xss) (hs:∀ k,S k→k<N):SsAt mk d N w v xss:=by
 obtain ⟨a,cap,rfl,hl,hc⟩ := h
 refine ⟨a,cap,rfl,hl,fun hp => ?_⟩
 obtain ⟨b,off,sv,T,e,h1,h2,h3,h4,h5,h6⟩ := hc hp
 exact ⟨b,off,e,hs b h1,fun i hi => ⟨sv i,h3 i hi,(h4 i hi).1.at (fun k hk => hs k (h5 i hi k hk).1),(h4 i hi).2⟩⟩
theorem SsF.nil {α:Type} (mk:α→Value) (d:α) (S:Nat→Prop) (w:World) (a:Option Addr) (cap:Nat) (hc:cap≤maxLen):SsF mk d S w (.slice a 0 cap) ([]:List (List α)):=⟨a,cap,rfl,⟨Nat.zero_le _,hc⟩,fun h => absurd h (by simp)⟩
structure Cl (α:Type) where
 v:Value
 xs:List α
 b:Nat
def Cl.ok {α:Type} (mk:α→Value) (d:α) (e:TypeId) (w:World) (p:Cl α):Prop :=
 ∃ a cap,p.v = .slice a p.xs.length cap∧(p.xs.length≤cap∧cap≤maxLen)∧(0<p.xs.length→∃ off,a=some ⟨p.b,off,none⟩∧(∃ c,w.heap[p.b]? = some (.cells c e (0,0)))∧∀ i:Nat,i<p.xs.length→w.cell? ⟨p.b,off+i,none⟩ = some (mk (p.xs[i]?.getD d)))
theorem Cl.ok.same {α:Type} {mk:α→Value} {d:α} {e:TypeId} {w w':World} {p:Cl α} (h:p.ok mk d e w) (hs:0<p.xs.length→w'.heap[p.b]? = w.heap[p.b]?):p.ok mk d e w':=by
 obtain ⟨a,cap,e1,hl,hc⟩ := h
 refine ⟨a,cap,e1,hl,fun hp => ?_⟩
 obtain ⟨off,e2,⟨c,h1⟩,h2⟩ := hc hp
 exact ⟨off,e2,⟨c,(hs hp).trans h1⟩,fun i hi => by rw [World.cell?_of_block (w:=w) (a:=⟨p.b,off+i,none⟩) (hs hp)]; exact h2 i hi⟩
theorem Cl.ok.lt {α:Type} {mk:α→Value} {d:α} {e:TypeId} {w:World} {p:Cl α} (h:p.ok mk d e w) (hp:0<p.xs.length):p.b<w.heap.size:=by
 obtain ⟨a,cap,e1,hl,hc⟩ := h
 obtain ⟨off,e2,⟨c,h1⟩,h2⟩ := hc hp
 exact (Array.getElem?_eq_some_iff.1 h1).1
theorem Cl.ok.below {α:Type} {mk:α→Value} {d:α} {e:TypeId} {m:Nat} {w w':World} {p:Cl α} (h:p.ok mk d e w) (hb:Below m w w') (hm:w.heap.size≤m):p.ok mk d e w':=h.same (fun hp => hb.block _ (by have:=h.lt hp; omega))
theorem Cl.ok.at {α:Type} {mk:α→Value} {d:α} {e:TypeId} {w:World} {p:Cl α} (h:p.ok mk d e w):SlAt mk d 0 w.heap.size w p.v p.xs:=by
 obtain ⟨a,cap,e1,hl,hc⟩ := id h
 refine ⟨a,cap,e1,by omega,fun hp => ?_⟩
 obtain ⟨off,e2,-,h2⟩ := hc hp
 exact ⟨p.b,off,e2,Nat.zero_le _,h.lt hp,h2⟩
theorem Cl.ok.cap {α:Type} {mk:α→Value} {d:α} {e:TypeId} {w:World} {p:Cl α} (h:p.ok mk d e w):CapOk p.v:=by
 obtain ⟨a,cap,e1,hl,hc⟩ := h
 rw [e1]
 exact CapOk.mk hl.1 hl.2
theorem Cl.ok.foot {α:Type} {mk:α→Value} {d:α} {e:TypeId} {w:World} {p:Cl α} (h:p.ok mk d e w):SlF mk d (fun k => 0<p.xs.length∧k=p.b) w p.v p.xs:=by
 obtain ⟨a,cap,e1,hl,hc⟩ := h
 by_cases hp:0<p.xs.length
 ·refine ⟨p.b,p.b+1,⟨a,cap,e1,by omega,fun _ => ?_⟩,fun k h1 h2 => ⟨hp,by omega⟩⟩
  obtain ⟨off,e2,⟨c,h1⟩,h2⟩ := hc hp
  exact ⟨p.b,off,e2,Nat.le_refl _,Nat.lt_succ_self _,⟨c,e,h1⟩,h2⟩
 ·exact ⟨0,0,⟨a,cap,e1,by omega,fun h => absurd h hp⟩,fun k h1 h2 => by omega⟩
theorem Cl.ok.one {α:Type} {mk:α→Value} {d:α} {e:TypeId} {w:World} {p:Cl α} (h:p.ok mk d e w):p.v.oneCell'=true:=by
 obtain ⟨a,cap,e1,-⟩ := h
 rw [e1]
 rfl
theorem own_cl {mk:Int→Value} {base e n:Nat} {w:World} {v:Value} {xs:List Int} (h:w.ownsRow base e 1 v n (xs.map mk)):∃ b,Cl.ok mk 0 e w ⟨v,xs,b⟩∧(0<xs.length→base≤b):=by
 have hlen:=h.1
 rw [List.length_map,Nat.mul_one] at hlen
 rcases h.2 with ⟨rfl,hz⟩ | ⟨g,cap,cur,rfl,hbg,hg,hnc,hcm,hcs,htake⟩
 ·exact ⟨0,⟨none,0,by show Value.slice none 0 0=_; rw [hlen,hz],by show xs.length≤0∧_; exact ⟨by omega,Nat.zero_le _⟩,fun hp => by have:0<xs.length:=hp; omega⟩,fun hp => by omega⟩
 ·refine ⟨g,⟨some ⟨g,0,none⟩,cap,by rw [hlen],⟨by show xs.length≤cap; omega,hcm⟩,fun hp => ⟨0,rfl,⟨cur,hg⟩,fun i hi => ?_⟩⟩,fun _ => hbg⟩
  have hi':i<xs.length:=hi
  show w.cell? ⟨g,0+i,none⟩ = some (mk (xs[i]?.getD 0))
  rw [Nat.zero_add,h.cellAt i (by omega),List.getElem?_map,List.getElem?_eq_getElem hi']
  rfl
def ApartC {α:Type} (ps:List (Cl α)):Prop:=ps.Pairwise (fun p q => 0<p.xs.length→0<q.xs.length→p.b ≠ q.b)
structure LL {α:Type} (mk:α→Value) (d:α) (e te:TypeId) (base:Nat) (w:World) (v:Value) (ps:List (Cl α)):Prop where
 own:w.ownsRow base te 1 v ps.length (ps.map Cl.v)
 ok:∀ p ∈ ps,p.ok mk d e w
 lo:∀ p ∈ ps,0<p.xs.length→base≤p.b
 apart:ApartC ps
theorem LL.nil {α:Type} {mk:α→Value} {d:α} {e te:TypeId} {base:Nat} {w:World}:LL mk d e te base w (.slice none 0 0) []:=⟨World.ownsRow_nil _ _ _ _,by simp,by simp,List.Pairwise.nil⟩
theorem LL.keep {α:Type} {mk:α→Value} {d:α} {e te:TypeId} {base m:Nat} {w w':World} {v:Value} {ps:List (Cl α)} (h:LL mk d e te base w v ps) (hb:Below m w w') (hm:w.heap.size≤m):LL mk d e te base w' v ps :=
 ⟨own_keep h.own hb hm,fun p hp => (h.ok p hp).below hb hm,h.lo,h.apart⟩
theorem LL.not_row {α:Type} {mk:α→Value} {d:α} {e te:TypeId} {base:Nat} {w:World} {v:Value} {ps:List (Cl α)} (hte:te ≠ e) (h:LL mk d e te base w v ps) {p:Cl α} {q:Cl α} (hq:q.ok mk d e w) (_:p=q) (hp:0<q.xs.length):some q.b ≠ v.ownBlock:=by
 intro e1
 obtain ⟨a,cap,-,-,hc⟩ := hq
 obtain ⟨off,-,⟨c,h1⟩,-⟩ := hc hp
 rcases h.own.2 with ⟨rfl,_⟩ | ⟨g,cap',cur,rfl,_,hgb,_⟩
 ·simp [Value.ownBlock] at e1
 ·obtain rfl:q.b=g:=by simpa [Value.ownBlock] using e1
  rw [h1] at hgb
  simp at hgb
  exact hte hgb.2.symm
theorem pushd_alloc (w:World) (o:Obj):Pushd w (w.alloc o) o:=⟨rfl,rfl,rfl,rfl⟩
theorem LL.app {α:Type} {mk:α→Value} {d:α} {e te:TypeId} {base:Nat} {w W w':World} {v v':Value} {ps:List (Cl α)} {p:Cl α} {o:Obj} (hte:te ≠ e) (h:LL mk d e te base w v ps) (hbase:base≤w.heap.size) (hp:p.ok mk d e w) (hplo:0<p.xs.length→base≤p.b)
  (hnew:∀ q ∈ ps,0<q.xs.length→0<p.xs.length→q.b ≠ p.b) (hP:Pushd w W o) (h1:w'.ownsRow base te 1 v' (ps.length+1) (ps.map Cl.v ++ [p.v])) (hg:W.grownBy w' v.ownBlock):LL mk d e te base w' v' (ps ++ [p])∧Below base w w':=by
 have hk:∀ q:Cl α,q.ok mk d e w→q.ok mk d e w':=fun q hq => by
  refine hq.same (fun hq0 => ?_)
  have hlt:=hq.lt hq0
  rw [hg.block q.b (by rw [hP.size]; omega) (h.not_row hte hq rfl hq0),hP.old hlt]
 refine ⟨⟨by rw [List.length_append,List.map_append]; exact h1,fun q hq => ?_,fun q hq hq0 => ?_,?_⟩,(hP.below.mono hbase).grown hg (by rw [hP.size]; omega) (fun k hk => (h.own.lt k hk).1)⟩
 ·rcases List.mem_append.1 hq with hq | hq
  ·exact hk q (h.ok q hq)
  ·rw [List.mem_singleton] at hq
   subst hq
   exact hk q hp
 ·rcases List.mem_append.1 hq with hq | hq
  ·exact h.lo q hq hq0
  ·rw [List.mem_singleton] at hq
   subst hq
   exact hplo hq0
 ·refine List.pairwise_append.2 ⟨h.apart,List.pairwise_singleton _ _,fun q hq r hr => ?_⟩
  rw [List.mem_singleton] at hr
  subst hr
  exact hnew q hq
end Go.Proofs.YtlidckepahpaeaaGreatDoor
