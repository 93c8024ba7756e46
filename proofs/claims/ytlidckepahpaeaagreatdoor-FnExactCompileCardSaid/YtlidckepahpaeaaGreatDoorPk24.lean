import Derived.Test.YtlidckepahpaeaaGreatDoorPk20
import Derived.Test.YtlidckepahpaeaaGreatDoorPk21
import Derived.Test.YtlidckepahpaeaaGreatDoorPk23
import Derived.Test.YtlidckepahpaeaaGreatDoorPk12
import Derived.Test.YtlidckepahpaeaaGreatDoorPk7
import Derived.Test.YtlidckepahpaeaaGreatDoorPk2
import Derived.Test.YtlidckepahpaeaaGreatDoorX0
import Derived.Test.YtlidckepahpaeaaGreatDoorPk14
import Derived.Test.YtlidckepahpaeaaGreatDoorPk1
import Derived.Deep.QuietTactic
import Derived.BigQuiet
import Derived.WalkSmall
import Derived.Deep.RegionWith
import Derived.Lib.SmallJoins
import Derived.Deep.Slices
import Derived.OpenShut
namespace Go.Proofs.YtlidckepahpaeaaGreatDoor
structure PTab {α:Type} (pst:α→Nat→α) (s0:α) (k:Nat) (cls rep:Nat→Nat) (o:List α) (ys:List Nat):Prop where
 num:Num1 256 k cls rep
 same:∀ b,b<256→∀ x,pst x (rep (cls b))=pst x b
 bfs:Bfs k (fun x e => pst x (rep e)) s0 o ys
section
variable {α:Type} {pst:α→Nat→α} {s0:α} {k k':Nat} {cls rep cls' rep':Nat→Nat} {o o':List α} {ys ys':List Nat}
theorem PTab.kpos (h:PTab pst s0 k cls rep o ys):0<k:=(h.num.zero (by decide)).2.2
theorem fold_same (h:PTab pst s0 k cls rep o ys):∀ (w:List Nat) (x:α),Wd w→w.foldl (fun y b => pst y (rep (cls b))) x=w.foldl pst x
 | [],_,_ => rfl
 | b :: w,x,hw => by
  rw [List.foldl_cons,List.foldl_cons,h.same b (hw b (.head _)) x]
  exact fold_same h w _ fun y hy => hw y (.tail _ hy)
theorem PTab.run (h:PTab pst s0 k cls rep o ys) (hl:ys.length=o.length * k) (ac:α→Bool) (w:List Nat) (hw:Wd w):o[(bfsT k cls ac o ys).run 0 w]? = some (w.foldl pst s0):=by
 rw [← fold_same h w s0 hw]
 exact bfs_run h.bfs hl h.num.lt w 0 s0 h.bfs.z hw
theorem PTab.tel (h:PTab pst s0 k cls rep o ys) (hl:ys.length=o.length * k) (g:PTab pst s0 k' cls' rep' o' ys') (gl:ys'.length=o'.length * k') (ac:α→Bool):Tel (bfsT k cls ac o ys) (bfsT k' cls' ac o' ys') 0 0:=fun w hw => by
 show (o[(bfsT k cls ac o ys).run 0 w]?.map ac).getD false=(o'[(bfsT k' cls' ac o' ys').run 0 w]?.map ac).getD false
 rw [h.run hl ac w hw,g.run gl ac w hw]
theorem PTab.met (h:PTab pst s0 k cls rep o ys):∀ s,s<o.length→∃ w,Wd w∧o[s]? = some (w.foldl pst s0):=by
 intro s
 induction s using Nat.strongRecOn with
 | _ s ih =>
  intro hs
  rcases h.bfs.all s hs with h0 | ⟨t,k1,k2,k3⟩
  ·subst h0; exact ⟨[],Wd.nil,h.bfs.z⟩
  ·obtain ⟨x,hx,hy⟩ := h.bfs.nx t k1
   obtain ⟨w,hw,hw2⟩ := ih (t / k) k3 (by omega)
   rw [hx] at hw2
   rw [k2] at hy
   have hr:=(h.num.fst (t % k) (Nat.mod_lt _ h.kpos)).1
   refine ⟨w ++ [rep (t % k)],hw.app (Wd.nil.cons hr),?_⟩
   rw [hy,List.foldl_append,Option.some.inj hw2]
   rfl
theorem PTab.few (h:PTab pst s0 k cls rep o ys) (hl:ys.length=o.length * k) (g:PTab pst s0 k' cls' rep' o' ys'):o'.length≤o.length:=by
 have key:∀ s,s<o'.length→∃ i,i<o.length∧o[i]? = o'[s]? := fun s hs => by
  obtain ⟨w,hw,e⟩ := g.met s hs
  have:=h.run hl (fun _ => true) w hw
  exact ⟨_,get_lt this,by rw [this,e]⟩
 obtain ⟨f,hf⟩ : ∃ f:Nat→Nat,∀ s,s<o'.length→f s<o.length∧o[f s]? = o'[s]? := by
  refine ⟨fun s => if hs:s<o'.length then Classical.choose (key s hs) else 0,fun s hs => ?_⟩
  simp only [dif_pos hs]
  exact Classical.choose_spec (key s hs)
 have hn:=nodup_le o.length ((List.range o'.length).map f) (by
  rw [List.nodup_iff_pairwise_ne,List.pairwise_iff_getElem]
  intro i j hi hj hij e
  simp only [List.length_map,List.length_range] at hi hj
  simp only [List.getElem_map,List.getElem_range] at e
  have h1:=hf i hi
  have h2:=hf j hj
  rw [e,h2.2] at h1
  have:=g.bfs.nd i j hi hj h1.2.symm
  omega) (fun x hx => by
  obtain ⟨s,hs,rfl⟩ := List.mem_map.1 hx
  exact (hf s (List.mem_range.1 hs)).1)
 simpa using hn
theorem PTab.pre (h:PTab pst s0 k cls rep o ys) (hl:ys.length=o.length * k) (ac:α→Bool):Pre (bfsT k cls ac o ys) :=
 bfs_pre h.bfs hl h.num.lt (fun b hb c hc => by
  have hlt:=h.num.lt b hb
  have hf:=h.num.fst c (Nat.lt_trans hc hlt)
  exact ⟨rep c,Nat.lt_of_lt_of_le (h.num.up c _ hc hlt) (h.num.le b hb),hf.2⟩) fun c hc => ⟨rep c,h.num.fst c hc⟩
end
theorem same_lists2 {A B:Tb} {o ys:List Nat} {m:Nat} {num F:Nat→Nat} {k:Nat} {mg G:Nat→Nat} {P:Nat→Nat} {k':Nat} {cls rep:Nat→Nat} {o' ys':List Nat} (h:ProgT A o ys m num F k mg G) (g:SpecT B P k' cls rep o' ys') (ht:Tel A B 0 0) :
  clL (ProgT.out A o ys m num F k mg G)=clL (bfsT k' cls B.ac o' ys')∧k=k'∧nxL (ProgT.out A o ys m num F k mg G)=nxL (bfsT k' cls B.ac o' ys')∧acL (ProgT.out A o ys m num F k mg G)=acL (bfsT k' cls B.ac o' ys') :=
 canon_lists h.canon g.canon (h.start.trans (ht.trans g.start.symm))
def pstep (N:Nat) (hold fol:Nat→Nat→Bool) (last:Nat→Bool) (x:List Nat × Bool) (b:Nat):List Nat × Bool :=
 ((List.range N).filter fun j => x.1.any fun i => hold i b && fol i j,x.1.any fun i => hold i b && last i)
theorem pstep_same {N:Nat} {hold fol:Nat→Nat→Bool} {last:Nat→Bool} {b b':Nat} (x:List Nat × Bool) (h:∀ i,i ∈ x.1→hold i b=hold i b'):pstep N hold fol last x b=pstep N hold fol last x b':=by
 have h1:∀ f:Nat→Bool,x.1.any (fun i => hold i b && f i)=x.1.any (fun i => hold i b' && f i):=fun f => by
  rw [Bool.eq_iff_iff,List.any_eq_true,List.any_eq_true]
  constructor
  ·rintro ⟨i,hi,hh⟩; exact ⟨i,hi,by rw [← h i hi]; exact hh⟩
  ·rintro ⟨i,hi,hh⟩; exact ⟨i,hi,by rw [h i hi]; exact hh⟩
 simp only [pstep,h1]
open Go.RowKit
def LkB (ln:List Lk) (n:Nat):Prop:=∀ p ∈ ln,(∀ y ∈ p.1,y<n)∧∀ y ∈ p.2,y<n
theorem LkB.mono {ln:List Lk} {n m:Nat} (h:LkB ln n) (hm:n≤m):LkB ln m:=fun p hp => ⟨fun y hy => Nat.lt_of_lt_of_le ((h p hp).1 y hy) hm,fun y hy => Nat.lt_of_lt_of_le ((h p hp).2 y hy) hm⟩
theorem LkB.snoc {ln:List Lk} {n:Nat} {A B:List Nat} (h:LkB ln n) (ha:∀ y ∈ A,y<n) (hb:∀ y ∈ B,y<n):LkB (ln ++ [(A,B)]) n:=fun p hp => by
 rcases List.mem_append.1 hp with hp | hp
 ·exact h p hp
 ·rw [List.mem_singleton] at hp
  subst hp
  exact ⟨ha,hb⟩
def OkMs (s:Ms):Prop:=(∀ a ∈ s.st,Bdd a s.c)∧LkB s.ln s.c
theorem OkMs.push {s:Ms} (h:OkMs s) (x:El):OkMs (oPush s x):=by
 obtain ⟨c,st,ln,ss⟩ := s
 obtain ⟨h1,h2⟩ := h
 simp only at h1 h2
 unfold oPush
 simp only
 repeat' split
 all_goals first
  | exact ⟨h1,h2⟩
  | skip
 ·exact ⟨fun a ha => by rcases List.mem_cons.1 ha with rfl | ha; (constructor <;> simp); exact h1 a ha,h2⟩
 ·exact ⟨fun a ha => by rcases List.mem_cons.1 ha with rfl | ha; (constructor <;> simp); exact (h1 a ha).mono (Nat.le_succ _),h2.mono (Nat.le_succ _)⟩
 ·rename_i o _
  have ho:=h1 o (by simp)
  exact ⟨fun a ha => by rw [List.mem_singleton] at ha; subst ha; exact ho,h2.snoc ho.2 ho.1⟩
 ·rename_i r l b _
  have hr:=h1 r (by simp)
  exact ⟨fun a ha => by rcases List.mem_cons.1 ha with rfl | ha; exact hr; exact h1 a (List.mem_cons_of_mem _ ha),h2.snoc hr.2 hr.1⟩
 ·rename_i r l b _ _
  have hr:=h1 r (by simp)
  have hl:=h1 l (by simp)
  exact ⟨fun a ha => by rcases List.mem_cons.1 ha with rfl | ha; exact hl.cat hr; exact h1 a (by simp [ha]),h2.snoc hl.2 hr.1⟩
 ·rename_i r l b _ _
  have hr:=h1 r (by simp)
  have hl:=h1 l (by simp)
  exact ⟨fun a ha => by rcases List.mem_cons.1 ha with rfl | ha; exact hl.alt hr; exact h1 a (by simp [ha]),h2⟩
theorem OkMs.run (L:List El):∀ s:Ms,OkMs s→OkMs (oRun s L):=by
 induction L with
 | nil => intro s h; exact h
 | cons x r ih => intro s h; exact ih _ (h.push x)
theorem SegO.lkb {L:List El} {n:Nat} {a:It} {ln:List Lk} {ss:List (List Int)} (h:SegO L n a ln ss):LkB ln n:=by
 have h1:=(OkMs.run L ini ⟨by simp [ini],by intro p hp; simp [ini] at hp⟩).2
 rw [h ini] at h1
 simpa [ini,shL] using h1
section
variable {n:Nat}
theorem mkd_lt {ln:List Lk} {N:Nat} (h:LkB ln N) {i j:Nat} (hm:mkd ln i j=true):i<N∧j<N:=by
 unfold mkd at hm
 simp only [List.any_eq_true,Bool.and_eq_true,List.contains_iff_mem] at hm
 obtain ⟨p,hp,h1,h2⟩ := hm
 exact ⟨(h p hp).1 _ h1,(h p hp).2 _ h2⟩
variable {hs:List Int→Nat→Prop}
section
variable {A B:Rl} {a b:It} {la lb:List Lk} {sa sb:List (List Int)} {N M:Nat}
end
end
structure DfaF (T1 T2 T3:Nat→Prop) (w:World) (cv nv av:Value) (xs ys:List Int) (zs:List Bool):Prop where
 x:SlF mI 0 T1 w cv xs
 y:SlF mI 0 T2 w nv ys
 z:SlF mT false T3 w av zs
theorem DfaF.same {T1 T2 T3:Nat→Prop} {w w':World} {cv nv av:Value} {xs ys:List Int} {zs:List Bool} (h:DfaF T1 T2 T3 w cv nv av xs ys zs) (e:∀ k,T1 k∨T2 k∨T3 k→w'.heap[k]? = w.heap[k]?):DfaF T1 T2 T3 w' cv nv av xs ys zs :=
 ⟨h.x.same (fun k hk => e k (.inl hk)),h.y.same (fun k hk => e k (.inr (.inl hk))),h.z.same (fun k hk => e k (.inr (.inr hk)))⟩
theorem markInt_f (v:Value) (xs:List Int) (k:Int) (S:Nat→Prop) (w:World) (hv:SlF mI 0 S w v xs) (k0:0≤k) (k1:k≤4611686018427387904) (hlen:xs.length≤4194304) :
  Calls Tryz.prog 27 #[v,.int .i64 k] w fun e w' => e = .returned (.int .i64 (k+xs.length))∧SlF mI 0 S w' v (cnts k xs.length)∧ChgF S w w':=by
 obtain ⟨lo,n,h1,h2⟩ := hv
 refine (markIntS_any v xs k lo n w h1 k0 k1 hlen).mono ?_
 rintro e w' ⟨q1,q2,q3⟩
 exact ⟨q1,⟨lo,n,q2,h2⟩,q3.foot h2⟩
theorem markBool_f (v:Value) (xs:List Bool) (k:Int) (S:Nat→Prop) (w:World) (hv:SlF mT false S w v xs) (k0:0≤k) (k1:k≤4611686018427387904) (hlen:xs.length≤4194304) :
  Calls Tryz.prog 28 #[v,.int .i64 k] w fun e w' => e = .returned (.int .i64 (k+xs.length))∧SlF mT false S w' v (cntT k xs.length)∧ChgF S w w':=by
 obtain ⟨lo,n,h1,h2⟩ := hv
 refine (markBoolS_any v xs k lo n w h1 k0 k1 hlen).mono ?_
 rintro e w' ⟨q1,q2,q3⟩
 exact ⟨q1,⟨lo,n,q2,h2⟩,q3.foot h2⟩
set_option maxHeartbeats 2000000 in
theorem markDFA_w (T1 T2 T3:Nat→Prop) (cv nv av:Value) (xs ys:List Int) (zs:List Bool) (nc k:Int) (w:World) (h:DfaF T1 T2 T3 w cv nv av xs ys zs) (hT:∀ j,T1 j∨T2 j∨T3 j→j<w.heap.size)
  (d1:∀ j,T1 j→¬ T2 j∧¬ T3 j) (d2:∀ j,T2 j→¬ T3 j) (k0:0≤k) (k1:k≤100) (b1:xs.length≤1048576) (b2:ys.length≤1048576) (b3:zs.length≤1048576) :
  Calls Tryz.prog 11 #[.agg #[cv,.int .i64 nc,nv,av],.int .i64 k] w fun e w' => e = .returned (.int .i64 (k+xs.length+ys.length+zs.length))∧DfaF T1 T2 T3 w' cv nv av (cnts k xs.length) (cnts (k+xs.length) ys.length) (cntT (k+xs.length+ys.length) zs.length) ∧
   w.heap.size≤w'.heap.size∧(∀ j,j<w.heap.size→¬ T1 j→¬ T2 j→¬ T3 j→w'.heap[j]? = w.heap[j]?)∧w'.os=w.os∧w'.tape=w.tape∧w'.output=w.output:=by
 obtain ⟨a1,c1,rfl⟩ := h.x.val
 obtain ⟨a2,c2,rfl⟩ := h.y.val
 obtain ⟨a3,c3,rfl⟩ := h.z.val
 obtain ⟨W0,hW0⟩ : ∃ W0,W0=w.alloc (.cells #[.slice a1 xs.length c1,.int .i64 nc,.slice a2 ys.length c2,.slice a3 zs.length c3] 29):=⟨_,rfl⟩
 have hb0:Below w.heap.size w W0:=by rw [hW0]; exact below1 w _
 have h0:=h.same (w':=W0) (fun j hj => hb0.block j (hT j hj))
 have hr:Row4 W0 w.heap.size 29 (.slice a1 xs.length c1) (.int .i64 nc) (.slice a2 ys.length c2) (.slice a3 zs.length c3):=by rw [hW0]; exact Row4.new w _ _ _ _ _
 have hz0:=hb0.size
 have HN:Hid (¬ T1 w.heap.size∧¬ T2 w.heap.size∧¬ T3 w.heap.size):=⟨fun q => by have:=hT _ (.inl q); omega,fun q => by have:=hT _ (.inr (.inl q)); omega,fun q => by have:=hT _ (.inr (.inr q)); omega⟩
 obtain ⟨f0,f1,f2,f3,-⟩ := hr.facts
 obtain ⟨K1,hK1⟩ : ∃ K1:Int,K1=k+xs.length:=⟨_,rfl⟩
 obtain ⟨K2,hK2⟩ : ∃ K2:Int,K2=K1+ys.length:=⟨_,rfl⟩
 obtain ⟨K3,hK3⟩ : ∃ K3:Int,K3=K2+zs.length:=⟨_,rfl⟩
 rw [← hK1,← hK2,← hK3]
 have m1:0≤K1∧K1≤1048676:=by omega
 have m2:0≤K2∧K2≤2097252:=by omega
 have HK1:=hide hK1
 have HK2:=hide hK2
 have HK3:=hide hK3
 have HD1:=hide d1
 have HD2:=hide d2
 have HH:=hide h0
 have HR:=hide hr
 have HB0:=hide hb0
 have HW0:=hide hW0
 clear h h0 hr d1 d2 hT hK1 hK2 hK3 hb0 hW0
 go_enter Tryz.func11,Tryz.ntmps11
 go_wp2_with fail
 rw [← unhide HW0]
 refine (markInt_f _ xs k T1 _ (unhide HH).x k0 (by omega) (by omega)).mono ?_
 rintro e w1 ⟨rfl,s1,g1⟩
 rw [← unhide HK1]
 have y1:=(unhide HH).y.same (fun j hj => g1.block j (fun q => ((unhide HD1) j q).1 hj))
 have t1:=(unhide HH).z.same (fun j hj => g1.block j (fun q => ((unhide HD1) j q).2 hj))
 have r1:Row4 w1 w.heap.size 29 (.slice a1 xs.length c1) (.int .i64 nc) (.slice a2 ys.length c2) (.slice a3 zs.length c3):=World.rowIs.of_block (unhide HR) (g1.block _ (unhide HN).1)
 clear f0 f1 f2 f3
 obtain ⟨f0,f1,f2,f3,-⟩ := r1.facts
 have HS1:=hide s1
 have HY1:=hide y1
 have HT1:=hide t1
 have HR1:=hide r1
 have HG1:=hide g1
 clear s1 y1 t1 r1 g1
 go_wp2_with fail
 refine (markInt_f _ ys K1 T2 _ (unhide HY1) m1.1 (by omega) (by omega)).mono ?_
 rintro e w2 ⟨rfl,s2,g2⟩
 rw [← unhide HK2]
 have x2:=(unhide HS1).same (fun j hj => g2.block j (fun q => ((unhide HD1) j hj).1 q))
 have t2:=(unhide HT1).same (fun j hj => g2.block j (fun q => (unhide HD2) j q hj))
 have r2:Row4 w2 w.heap.size 29 (.slice a1 xs.length c1) (.int .i64 nc) (.slice a2 ys.length c2) (.slice a3 zs.length c3):=World.rowIs.of_block (unhide HR1) (g2.block _ (unhide HN).2.1)
 clear f0 f1 f2 f3
 obtain ⟨f0,f1,f2,f3,-⟩ := r2.facts
 have HX2:=hide x2
 have HS2:=hide s2
 have HT2:=hide t2
 have HG2:=hide g2
 clear s2 x2 t2 r2 g2
 go_wp2_with fail
 refine (markBool_f _ zs K2 T3 _ (unhide HT2) m2.1 (by omega) (by omega)).mono ?_
 rintro e w3 ⟨rfl,s3,g3⟩
 rw [← unhide HK3]
 have HS3:=hide s3
 have HG3:=hide g3
 clear s3 g3 f0 f1 f2 f3
 go_wp2
 go_ret
 have g1:=unhide HG1
 have g2:=unhide HG2
 have g3:=unhide HG3
 have b0:=unhide HB0
 refine ⟨rfl,⟨(unhide HX2).same (fun j hj => g3.block j (fun q => ((unhide HD1) j hj).2 q)),(unhide HS2).same (fun j hj => g3.block j (fun q => (unhide HD2) j hj q)),unhide HS3⟩,by rw [g3.size,g2.size,g1.size]; exact hz0,fun j hj n1 n2 n3 => ?_,?_,?_,?_⟩
 ·rw [g3.block j n3,g2.block j n2,g1.block j n1,b0.block j hj]
 ·rw [g3.os,g2.os,g1.os,b0.os]
 ·rw [g3.tape,g2.tape,g1.tape,b0.tape]
 ·rw [g3.output,g2.output,g1.output,b0.output]
set_option maxHeartbeats 2000000 in
theorem heldDFA_w (cv nv av:Value) (n1 n2 n3:Nat) (nc k:Int) (w:World) (h1:SlAt mI 0 0 w.heap.size w cv (cnts k n1)) (h2:SlAt mI 0 0 w.heap.size w nv (cnts (k+n1) n2)) (h3:SlAt mT false 0 w.heap.size w av (cntT (k+n1+n2) n3))
  (k0:0≤k) (k1:k≤100) (b1:n1≤1048576) (b2:n2≤1048576) (b3:n3≤1048576) :
  Calls Tryz.prog 12 #[.agg #[cv,.int .i64 nc,nv,av],.int .i64 k] w fun e w' => e = .returned (.int .i64 (k+n1+n2+n3))∧Below w.heap.size w w':=by
 obtain ⟨K1,hK1⟩ : ∃ K1:Int,K1=k+n1:=⟨_,rfl⟩
 obtain ⟨K2,hK2⟩ : ∃ K2:Int,K2=K1+n2:=⟨_,rfl⟩
 obtain ⟨K3,hK3⟩ : ∃ K3:Int,K3=K2+n3:=⟨_,rfl⟩
 rw [← hK1] at h2 h3 ⊢
 rw [← hK2] at h3 ⊢
 rw [← hK3]
 have m1:0≤K1∧K1≤1048676:=by omega
 have m2:0≤K2∧K2≤2097252:=by omega
 have q1:¬ K1<0:=by omega
 have q2:¬ K2<0:=by omega
 have q3:¬ K3<0:=by omega
 obtain ⟨W0,hW0⟩ : ∃ W0,W0=w.alloc (.cells #[cv,.int .i64 nc,nv,av] 29):=⟨_,rfl⟩
 have hb0:Below w.heap.size w W0:=by rw [hW0]; exact below1 w _
 have hr:Row4 W0 w.heap.size 29 cv (.int .i64 nc) nv av:=by rw [hW0]; exact Row4.new w _ _ _ _ _
 obtain ⟨f0,f1,f2,f3,-⟩ := hr.facts
 have c1:=heldIntS_any cv n1 k _ _ W0 (h1.below hb0 (Nat.le_refl _)) k0 (by omega) (by omega)
 have c2:=heldIntS_any nv n2 K1 _ _ W0 (h2.below hb0 (Nat.le_refl _)) m1.1 (by omega) (by omega)
 have c3:=heldBoolS_any av n3 K2 _ _ W0 (h3.below hb0 (Nat.le_refl _)) m2.1 (by omega) (by omega)
 rw [← hK1] at c1
 rw [← hK2] at c2
 rw [← hK3] at c3
 obtain ⟨a1,e1,rfl,-,-⟩ := h1
 obtain ⟨a2,e2,rfl,-,-⟩ := h2
 obtain ⟨a3,e3,rfl,-,-⟩ := h3
 have C1:=hide c1
 have C2:=hide c2
 have C3:=hide c3
 have HB0:=hide hb0
 have HW0:=hide hW0
 clear c1 c2 c3 hK1 hK2 hK3 hb0 hW0 hr
 go_enter Tryz.func12,Tryz.ntmps12
 go_wp2_with fail
 rw [← unhide HW0]
 refine (unhide C1).mono ?_
 rintro e w1 ⟨rfl,rfl⟩
 go_wp2_with fail
 refine (unhide C2).mono ?_
 rintro e w2 ⟨rfl,rfl⟩
 go_wp2_with fail
 refine (unhide C3).mono ?_
 rintro e w3 ⟨rfl,rfl⟩
 go_wp2
 go_ret
 exact ⟨rfl,unhide HB0⟩
def OwB (v:Value):Nat→Prop:=fun q => v.ownBlock=some q
theorem own_slf {base n:Nat} {w:World} {v:Value} {xs:List Int} (h:w.ownsRow base 3 1 v n (xs.map mI)) (hn:n≤maxLen):SlF mI 0 (OwB v) w v xs:=by
 have hlen:=h.1
 rw [List.length_map,Nat.mul_one] at hlen
 rcases h.2 with ⟨rfl,hz⟩ | ⟨g,cap,cur,rfl,hbg,hg,hnc,hcm,hcs,htake⟩
 ·exact ⟨0,0,⟨none,0,by rw [hlen,hz],by omega,fun hp => by omega⟩,fun k _ h => by omega⟩
 ·refine ⟨g,g+1,⟨_,cap,by rw [hlen],by omega,fun hp => ⟨g,0,rfl,by omega,by omega,⟨cur,_,hg⟩,fun i hi => ?_⟩⟩,fun k h1 h2 => by
   have:k=g:=by omega
   rw [this]; rfl⟩
  rw [Nat.zero_add,h.cellAt i (by omega),List.getElem?_map,List.getElem?_eq_getElem hi]
  rfl
theorem own_slft {base n:Nat} {w:World} {v:Value} {xs:List Bool} (h:w.ownsRow base 4 1 v n (xs.map mT)) (hn:n≤maxLen):SlF mT false (OwB v) w v xs:=by
 have hlen:=h.1
 rw [List.length_map,Nat.mul_one] at hlen
 rcases h.2 with ⟨rfl,hz⟩ | ⟨g,cap,cur,rfl,hbg,hg,hnc,hcm,hcs,htake⟩
 ·exact ⟨0,0,⟨none,0,by rw [hlen,hz],by omega,fun hp => by omega⟩,fun k _ h => by omega⟩
 ·refine ⟨g,g+1,⟨_,cap,by rw [hlen],by omega,fun hp => ⟨g,0,rfl,by omega,by omega,⟨cur,_,hg⟩,fun i hi => ?_⟩⟩,fun k h1 h2 => by
   have:k=g:=by omega
   rw [this]; rfl⟩
  rw [Nat.zero_add,h.cellAt i (by omega),List.getElem?_map,List.getElem?_eq_getElem hi]
  rfl
def MkF (S:Nat→Prop) (w0 w:World) (k:Int) (xs:List El) (b off:Nat) (sv:Nat→Value) (T:Nat→Nat→Prop) (m:Nat):Prop :=
 Free w b∧(∀ i:Nat,i<xs.length→El4 w b (off+i * 4) (mixE k xs m i) (sv i))∧(∀ i:Nat,i<xs.length→SlF mI 0 (T i) w (sv i) (mixE k xs m i).set)∧ChgF S w0 w
theorem mkF_step {S:Nat→Prop} {w0 wr w1:World} {k:Int} {xs:List El} {b off:Nat} {sv:Nat→Value} {T:Nat→Nat→Prop} {m:Nat} (h:MkF S w0 wr k xs b off sv T m) (hm:m<xs.length) (hS:S b)
  (h5:∀ i:Nat,i<xs.length→∀ k,T i k→S k∧k ≠ b) (h6:∀ i j:Nat,i<xs.length→j<xs.length→i ≠ j→∀ k,T i k→¬ T j k) (K:Int) (hK:K=endE k (xs.take m)) (L:Int) (hL:L=(xs[m]?.getD dE).set.length)
  (hc:ChgF (T m) (wr.setCell ⟨b,off+m * 4,none⟩ (.int .i64 K)) w1) (hs:SlF mI 0 (T m) w1 (sv m) (cnts (K+1) (xs[m]?.getD dE).set.length)) (w2:World)
  (hw:w2=(w1.setCell ⟨b,off+m * 4+2,none⟩ (.int .i64 (K+1+L))).setCell ⟨b,off+m * 4+3,none⟩ (.int .i64 (K+2+L))):MkF S w0 w2 k xs b off sv T (m+1):=by
 subst hw
 obtain ⟨hu,h4,h7,hch⟩ := h
 have eb:w1.heap[b]? = (wr.setCell ⟨b,off+m * 4,none⟩ (.int .i64 K)).heap[b]? := hc.block b (fun q => (h5 m hm b q).2 rfl)
 have hput:∀ (w:World) (o:Nat) (u:Value) (j:Nat),j ≠ b→(w.setCell ⟨b,o,none⟩ u).heap[j]? = w.heap[j]? := fun w o u j hne => Below.heap_setCell _ _ _ _ (by exact hne)
 have hmark:=marksE_get k xs m hm
 rw [← hK,← hL] at hmark
 refine ⟨((hu.put.same eb).put).put,fun i hi => ?_,fun i hi => ?_,?_⟩
 ·by_cases e:i=m
  ·subst e
   have q:=h4 i hi
   unfold mixE at q ⊢
   rw [if_neg (by omega)] at q
   rw [if_pos (by omega),hmark]
   exact (((q.putK K).same eb).putM (K+1+L)).putX (K+2+L)
  ·have q:=h4 i hi
   have e2:mixE k xs (m+1) i=mixE k xs m i:=by
    unfold mixE
    by_cases e3:i<m
    ·rw [if_pos e3,if_pos (by omega)]
    ·rw [if_neg e3,if_neg (by omega)]
   rw [e2]
   exact (((q.put (by omega)).same eb).put (by omega)).put (by omega)
 ·by_cases e:i=m
  ·subst e
   unfold mixE
   rw [if_pos (by omega),hmark]
   exact hs.same (fun j hj => (hput _ _ _ j (h5 i hi j hj).2).trans (hput _ _ _ j (h5 i hi j hj).2))
  ·have q:=h7 i hi
   have e2:mixE k xs (m+1) i=mixE k xs m i:=by
    unfold mixE
    by_cases e3:i<m
    ·rw [if_pos e3,if_pos (by omega)]
    ·rw [if_neg e3,if_neg (by omega)]
   rw [e2]
   exact q.same (fun j hj => (hput _ _ _ j (h5 i hi j hj).2).trans ((hput _ _ _ j (h5 i hi j hj).2).trans ((hc.block j (h6 i m hi hm e j hj)).trans (hput _ _ _ j (h5 i hi j hj).2))))
 ·exact (((hch.put hS _).trans (hc.mono (fun j hj => (h5 m hm j hj).1))).put hS _).put hS _
set_option maxHeartbeats 1000000 in
set_option maxRecDepth 100000 in
theorem markOpS_f (v:Value) (xs:List El) (k:Int) (S:Nat→Prop) (w:World) (hv:ElsF S w v xs) (k0:0≤k) (k1:k≤1048576) (hlen:xs.length+bulk xs≤1048576) (hset:∀ i:Nat,(xs[i]?.getD dE).set.length≤1048576) :
  Calls Tryz.prog 26 #[v,.int .i64 k] w fun e w' => e = .returned (.int .i64 (endE k xs))∧ElsF S w' v (marksE k xs)∧ChgF S w w':=by
 obtain ⟨a,cap,rfl,hl,hc⟩ := hv
 by_cases hp:0<xs.length
 ·obtain ⟨b,off,sv,T,rfl,h1,h3,h4,h7,h5,h6⟩ := hc hp
  have hst0:MkF S w w k xs b off sv T 0:=⟨h3,fun i hi => by unfold mixE; rw [if_neg (by omega)]; exact h4 i hi,fun i hi => by unfold mixE; rw [if_neg (by omega)]; exact h7 i hi,ChgF.refl _ _⟩
  have Hst0:=hide hst0
  have H5:=hide h5
  have H6:=hide h6
  have Hset:=hide hset
  clear hc h3 h4 h5 h6 h7 hst0 hset
  go_enter Tryz.func26,Tryz.ntmps26
  go_wp2
  go_loopw [1,5] (fun q i wr => ∃ m:Nat,m≤xs.length∧i = .int .i64 m∧q = .int .i64 (endE k (xs.take m))∧MkF S w wr k xs b off sv T m) (fun _ i _ => xs.length - (intOf i).toNat)
  case atStart => exact ⟨0,Nat.zero_le _,rfl,by simp [endE],unhide Hst0⟩
  case round =>
   obtain ⟨m,hm,rfl,rfl,hmk⟩ := hrel
   have Hmk:=hide hmk
   have hbd:=endE_bd k (xs.take m)
   have hbk:bulk (xs.take m)≤bulk xs:=by
    have hb:∀ (l:List El) (j:Nat),bulk (l.take j)≤bulk l:=by
     intro l
     induction l with
     | nil => intro j; simp [bulk]
     | cons x r ih => intro j; cases j with
      | zero => simp [bulk]
      | succ j => have:=ih j; simp only [List.take_succ_cons,bulk]; omega
    exact hb xs m
   have hbl:(xs.take m).length≤m:=List.length_take_le _ _
   have hK1:0≤endE k (xs.take m):=by omega
   have hK2:endE k (xs.take m)≤4194304:=by omega
   clear hbd hbk hbl
   by_cases hlt:m<xs.length
   ·obtain ⟨hu,hq4,hq7,-⟩ := hmk
    have hc4:=hq4 m hlt
    have hc7:=hq7 m hlt
    unfold mixE at hc4 hc7
    rw [if_neg (by omega)] at hc4 hc7
    obtain ⟨g0,g1,g2,g3⟩ := hc4
    have f0:=frz (j:=off+m * 4) hu
    have f2:=frz (j:=off+m * 4+2) hu
    have f3:=frz (j:=off+m * 4+3) hu
    have hlt':(m:Int)<(xs.length:Int):=by omega
    have hse:=unhide Hset m
    have hstep:=endE_step k xs m hlt
    have hxl:Hid ((xs[m]?.getD dE).set.length=(xs[m]?.getD dE).set.length):=rfl
    generalize hK:endE k (xs.take m)=K at *
    have HK:=hide hK
    have Hstep:=hide hstep
    have Hc7:=hide hc7
    obtain ⟨sa,sc,hsv⟩ : ∃ sa sc,sv m = .slice sa (xs[m]?.getD dE).set.length sc:=by
     exact hc7.val
    rw [hsv] at g1
    have Hu:=hide hu
    have Hsv:=hide hsv
    clear hq4 hq7 hK hstep hc7 hsv hxl hu
    generalize hX:xs[m]?.getD dE=x at *
    have HX:=hide hX
    clear hX
    go_wp2_with fail
    obtain ⟨lo,n,hw7,hT7⟩ := (unhide Hc7).same (w':=wr.setCell ⟨b,off+m * 4,none⟩ (.int .i64 K)) (fun j hj => Below.heap_setCell _ _ _ _ (by exact (unhide H5 m hlt j hj).2))
    rw [unhide Hsv] at hw7
    refine (markIntS_any _ x.set (K+1) lo n _ hw7 (by omega) (by omega) (by omega)).mono ?_
    rintro e w1 ⟨rfl,hs0,hc0⟩
    have hc1:=hc0.foot hT7
    have hs1:SlF mI 0 (T m) w1 _ _:=⟨lo,n,hs0,hT7⟩
    clear hs0 hc0 hw7
    have eb:w1.heap[b]? = (wr.setCell ⟨b,off+m * 4,none⟩ (.int .i64 K)).heap[b]? := hc1.block b (fun q => (unhide H5 m hlt b q).2 rfl)
    have r2:w1.cell? ⟨b,off+m * 4+2,none⟩ = some (.int .i64 x.mn):=by rw [World.cell?_of_block (a:=⟨b,off+m * 4+2,none⟩) eb,put_other (Or.inr (by omega))]; exact g2
    have r3:w1.cell? ⟨b,off+m * 4+3,none⟩ = some (.int .i64 x.mx):=by rw [World.cell?_of_block (a:=⟨b,off+m * 4+3,none⟩) eb,put_other (Or.inr (by omega))]; exact g3
    have hu1:Free w1 b:=(unhide Hu).put.same eb
    have t2:=frz (j:=off+m * 4+2) hu1
    have t3:=frz (j:=off+m * 4+3) hu1
    have Hs1:=hide hs1
    have Hc1:=hide hc1
    clear hs1 hc1 eb hu1 g0 g1 g2 g3 f0 f2 f3
    go_wp2
    have hst:=mkF_step (unhide Hmk) hlt h1 (unhide H5) (unhide H6) K (unhide HK).symm (x.set.length:Int) (by rw [unhide HX]) (unhide Hc1) (by rw [unhide HX,unhide Hsv]; exact unhide Hs1) _ rfl
    have e3:K+1+(x.set.length:Int)+1=K+2+(x.set.length:Int):=by omega
    rw [e3]
    exact ⟨⟨m+1,by omega,by go_num,by rw [unhide Hstep]; congr 1; omega,hst⟩,by simp [intOf]; omega⟩
   ·obtain rfl:m=xs.length:=by omega
    clear hK1 hK2
    go_wp2
    go_ret
    obtain ⟨q3,q4,q7,q8⟩ := unhide Hmk
    refine ⟨ret_int (by rw [List.take_length]),⟨_,cap,by rw [marksE_len],by rw [marksE_len]; exact hl,fun _ => ⟨b,off,sv,T,rfl,h1,q3,fun i hi => ?_,fun i hi => ?_,fun i hi => unhide H5 i (by rwa [marksE_len] at hi),fun i j hi hj hne => unhide H6 i j (by rwa [marksE_len] at hi) (by rwa [marksE_len] at hj) hne⟩⟩,q8⟩
    ·rw [marksE_len] at hi
     have:=q4 i hi
     unfold mixE at this
     rwa [if_pos hi] at this
    ·rw [marksE_len] at hi
     have:=q7 i hi
     unfold mixE at this
     rwa [if_pos hi] at this
 ·obtain rfl:xs = []:=List.eq_nil_of_length_eq_zero (by omega)
  clear hc
  go_enter Tryz.func26,Tryz.ntmps26
  go_wp2
  go_loop [1,5] (fun q i => q = .int .i64 k∧i = .int .i64 0) (fun _ _ => 0)
  case atStart => exact ⟨rfl,rfl⟩
  case round =>
   obtain ⟨rfl,rfl⟩ := hrel
   go_wp2
   go_ret
   exact ⟨rfl,⟨a,cap,rfl,hl,fun h => absurd h (by simp [marksE])⟩,ChgF.refl _ _⟩
set_option maxHeartbeats 1000000 in
theorem markPattern_f (l r:Bool) (v:Value) (xs:List El) (k:Int) (S:Nat→Prop) (w:World) (hv:ElsF S w v xs) (k0:0≤k) (k1:k≤1048576) (hlen:xs.length+bulk xs≤1048576) (hset:∀ i:Nat,(xs[i]?.getD dE).set.length≤1048576) (hS:∀ j,S j→j<w.heap.size) :
  Calls Tryz.prog 10 #[.agg #[.bool l,.bool r,v],.int .i64 k] w fun e w' => e = .returned (.int .i64 (endE k xs))∧∃ W:World,Below w.heap.size w W∧ChgF S W w':=by
 obtain ⟨a,cp,rfl⟩ : ∃ a c,v = .slice a xs.length c:=by obtain ⟨a,c,e,-⟩ := hv; exact ⟨a,c,e⟩
 have hb0:=below1 w (.cells #[.bool l,.bool r,.slice a xs.length cp] 34)
 have HA:=hide (markOpS_f _ xs k S _ (hv.same (fun j hj => hb0.block j (hS j hj))) k0 k1 hlen hset)
 clear hv hset
 go_enter Tryz.func10,Tryz.ntmps10
 go_wp2_with fail
 refine (unhide HA).mono ?_
 rintro e w1 ⟨rfl,-,hc⟩
 have HC:=hide hc
 obtain ⟨K,hK⟩ : ∃ K,K=endE k xs:=⟨_,rfl⟩
 rw [← hK]
 have HK:=hide hK
 clear hc HA hK
 go_wp2
 go_ret
 exact ⟨by rw [← unhide HK]; rfl,_,hb0,unhide HC⟩
set_option maxHeartbeats 1000000 in
theorem toPattern_w (l r:Bool) (v:Value) (xs:List El) (w:World) (hv:ElsAt 0 w.heap.size w v xs) (hlen:xs.length≤1048576) (hset:∀ i:Nat,(xs[i]?.getD dE).set.length≤1048576) :
  Calls Tryz.prog 6 #[.agg #[.bool l,.bool r,v]] w fun e w' => ∃ v',e = .returned (.agg #[.bool l,.bool r,v'])∧ElsF (Rng w.heap.size w'.heap.size) w' v' xs∧Below w.heap.size w w':=by
 obtain ⟨a,cap,rfl,-,-⟩ := id hv
 go_enter Tryz.func6,Tryz.ntmps6
 go_wp2_with fail
 refine (toOpS_w _ xs _ (by exact hv.below (below3 w _ _ _) (Nat.le_refl _)) hlen hset).mono ?_
 rintro e w1 ⟨v',rfl,hv',hb1⟩
 obtain ⟨hc1,hf1⟩ := bcell hb1
 simp only [sz_alloc] at hc1 hf1
 have hz:=hb1.size
 simp only [sz_alloc] at hz
 have hf:=hv'.foot
 rw [sz_alloc,sz_alloc,sz_alloc] at hf
 obtain ⟨a',cap',rfl⟩ : ∃ a c,v' = .slice a xs.length c:=by obtain ⟨a,c,e,-⟩ := hv'; exact ⟨a,c,e⟩
 have HF:=hide hf
 clear hf hv'
 go_wp2
 refine bodyPost_ret (v:=.agg #[.bool l,.bool r,.slice a' xs.length cap']) (by simp [results,Tryz.results6,go_sem,hc1]) rfl ⟨_,rfl,?_,?_⟩
 ·refine ((unhide HF).same (fun k hk => ?_)).mono (fun k hk => ⟨by have:=hk.1; omega,by simp only [sz_put]; exact hk.2⟩)
  have:=hk.1
  rw [Below.heap_setCell _ _ _ _ (by intro e; simp only at e; omega),Below.heap_setCell _ _ _ _ (by intro e; simp only at e; omega),Below.heap_setCell _ _ _ _ (by intro e; simp only at e; omega),Below.heap_setCell _ _ _ _ (by intro e; simp only at e; omega)]
 ·have hb0:Below w.heap.size w w1:=(below3 w _ _ _).trans (hb1.mono (by rw [sz_alloc,sz_alloc,sz_alloc]; omega))
  exact bput (bput (bput (bput hb0 (by omega) _) (by omega) _) (by omega) _) (by omega) _
def Bx3 (w:World) (b:Nat) (t:TypeId) (c0 c1 c2:Value):Prop:=w.rowIs b t 3 (fun j => [c0,c1,c2].getD j undef)
theorem Bx3.new (w:World) (t:TypeId) (c0 c1 c2:Value):Bx3 (w.alloc (.cells #[c0,c1,c2] t)) w.heap.size t c0 c1 c2 :=
 World.rowIs_alloc w #[c0,c1,c2] t _ (fun i hi => by
  match i,hi with
  | 0,_ => rfl
  | 1,_ => rfl
  | 2,_ => rfl)
theorem Bx3.below {w w':World} {b m:Nat} {t:TypeId} {c0 c1 c2:Value} (h:Bx3 w b t c0 c1 c2) (hb:Below m w w') (hm:b<m):Bx3 w' b t c0 c1 c2:=World.rowIs.of_block h (hb.block b hm)
theorem Bx3.blk {w w':World} {b:Nat} {t:TypeId} {c0 c1 c2:Value} (h:Bx3 w b t c0 c1 c2) (e:w'.heap[b]? = w.heap[b]?):Bx3 w' b t c0 c1 c2:=World.rowIs.of_block h e
theorem Bx3.facts {w:World} {b:Nat} {t:TypeId} {c0 c1 c2:Value} (h:Bx3 w b t c0 c1 c2):w.cell? ⟨b,0,none⟩ = some c0∧w.cell? ⟨b,1,none⟩ = some c1∧w.cell? ⟨b,2,none⟩ = some c2 :=
 ⟨World.rowIs.cell h (i:=0) (by omega),World.rowIs.cell h (i:=1) (by omega),World.rowIs.cell h (i:=2) (by omega)⟩
theorem el_is {S:Nat→Prop} {w:World} {v:Value} {xs:List El} (h:ElsF S w v xs):∃ a c,v = .slice a xs.length c:=by obtain ⟨a,c,e,-⟩ := h; exact ⟨a,c,e⟩
set_option maxHeartbeats 400000 in
theorem eqIntS_same (u v:Value) (xs:List Int) (w:World) (hu:IntsAt 0 w.heap.size w u xs) (hv:IntsAt 0 w.heap.size w v xs) :
  Calls Tryz.prog 23 #[u,v] w fun e w' => e = .returned (.bool true)∧Below w.heap.size w w':=by
 obtain ⟨a,cap,rfl,hl,hr,hc⟩ := hu
 obtain ⟨a2,cap2,rfl,-,-,hc2⟩ := hv
 unfold maxLen at hl
 go_enter Tryz.func23,Tryz.ntmps23
 go_wp2
 go_loopw [5] (fun i wr => ∃ k:Nat,k≤xs.length∧i = .int .i64 k∧Below w.heap.size w wr) (fun i _ => xs.length - (intOf i).toNat)
 case atStart => exact ⟨0,Nat.zero_le _,rfl,Below.refl _ _⟩
 case round =>
  obtain ⟨k,hk,rfl,hb⟩ := hrel
  by_cases hlt:k<xs.length
  ·obtain ⟨b,off,rfl,-,hbn,hcell⟩ := hc (by omega)
   obtain ⟨b2,off2,rfl,-,hbn2,hcell2⟩ := hc2 (by omega)
   have hx:wr.cell? ⟨b,off+k,none⟩ = some (.int .i64 (xs[k]?.getD 0)):=by rw [hb.cell (p:=⟨b,off+k,none⟩) hbn]; exact hcell k hlt
   have hx2:wr.cell? ⟨b2,off2+k,none⟩ = some (.int .i64 (xs[k]?.getD 0)):=by rw [hb.cell (p:=⟨b2,off2+k,none⟩) hbn2]; exact hcell2 k hlt
   have hlt':(k:Int)<(xs.length:Int):=by omega
   generalize xs[k]?.getD 0=x at *
   go_wp2
   go_quiet (fail)
   go_wp2
   go_roundw
   case rel => exact ⟨k+1,by omega,by go_num,below_drewN hb nq⟩
   case measure => simp [intOf]; omega
  ·obtain rfl:k=xs.length:=by omega
   go_wp2
   go_ret
   exact ⟨rfl,hb⟩
set_option maxHeartbeats 400000 in
theorem eqOp_same (u v:Value) (x:El) (w:World) (hu:IntsAt 0 w.heap.size w u x.set) (hv:IntsAt 0 w.heap.size w v x.set) :
  Calls Tryz.prog 57 #[.agg #[.int .i64 x.kind,u,.int .i64 x.mn,.int .i64 x.mx],.agg #[.int .i64 x.kind,v,.int .i64 x.mn,.int .i64 x.mx]] w fun e w' => e = .returned (.bool true)∧Below w.heap.size w w':=by
 obtain ⟨a,cap,rfl,-,-,-⟩ := id hu
 obtain ⟨a2,cap2,rfl,-,-,-⟩ := id hv
 go_enter Tryz.func57,Tryz.ntmps57
 go_wp2_with fail
 refine (eqIntS_same _ _ x.set _ (by exact hu.below (below2 w _ _) (Nat.le_refl _)) (by exact hv.below (below2 w _ _) (Nat.le_refl _))).mono ?_
 rintro e w1 ⟨rfl,hb1⟩
 obtain ⟨hc1,hf1⟩ := bcell hb1
 simp only [sz_alloc] at hc1 hf1
 go_wp2
 go_ret
 exact ⟨rfl,(below2 w _ _).trans (hb1.mono (by rw [sz_alloc,sz_alloc]; omega))⟩
set_option maxHeartbeats 1000000 in
theorem eqOpS_same (u v:Value) (xs:List El) (w:World) (hu:ElsAt 0 w.heap.size w u xs) (hv:ElsAt 0 w.heap.size w v xs) :
  Calls Tryz.prog 25 #[u,v] w fun e w' => e = .returned (.bool true)∧Below w.heap.size w w':=by
 obtain ⟨a,cap,rfl,hl,hc⟩ := hu
 obtain ⟨a2,cap2,rfl,-,hc2⟩ := hv
 unfold maxLen at hl
 go_enter Tryz.func25,Tryz.ntmps25
 go_wp2
 go_loopw [5] (fun i wr => ∃ k:Nat,k≤xs.length∧i = .int .i64 k∧Below w.heap.size w wr) (fun i _ => xs.length - (intOf i).toNat)
 case atStart => exact ⟨0,Nat.zero_le _,rfl,Below.refl _ _⟩
 case round =>
  obtain ⟨k,hk,rfl,hb⟩ := hrel
  by_cases hlt:k<xs.length
  ·obtain ⟨b,off,rfl,-,hbn,hel⟩ := hc (by omega)
   obtain ⟨b2,off2,rfl,-,hbn2,hel2⟩ := hc2 (by omega)
   obtain ⟨i1,i2,i3,v,c0,c1,c2,c3,hints⟩ := (hel k hlt).same (Same.of_below hb (Nat.le_refl _)) (Nat.zero_le _) hbn
   obtain ⟨-,-,-,v2,d0,d1,d2,d3,hints2⟩ := (hel2 k hlt).same (Same.of_below hb (Nat.le_refl _)) (Nat.zero_le _) hbn2
   have hlt':(k:Int)<(xs.length:Int):=by omega
   generalize xs[k]?.getD dE=x at *
   obtain ⟨a',cap',rfl,-,-,-⟩ := id hints
   obtain ⟨a2',cap2',rfl,-,-,-⟩ := id hints2
   have hi1:=hints.mono (Nat.le_refl _) hb.size
   have hi2:=hints2.mono (Nat.le_refl _) hb.size
   go_wp2
   go_region_with (go_at_call 57; refine (eqOp_same _ _ x _ (by exact hi1) (by exact hi2)).mono ?_; rintro e w1 ⟨rfl,hb1⟩)
   all_goals
    have hb2:Below wr.heap.size wr w1:=⟨hb1.os,hb1.tape,hb1.output,hb1.size,hb1.block⟩
    clear hb1
    go_wp2
    go_roundw
    case rel => exact ⟨k+1,by omega,by go_num,hb.trans (hb2.mono hb.size)⟩
    case measure => simp [intOf]; omega
  ·obtain rfl:k=xs.length:=by omega
   go_wp2
   go_ret
   exact ⟨rfl,hb⟩
set_option maxHeartbeats 400000 in
theorem eqPattern_same (l r:Bool) (u v:Value) (xs:List El) (w:World) (hu:ElsAt 0 w.heap.size w u xs) (hv:ElsAt 0 w.heap.size w v xs) :
  Calls Tryz.prog 9 #[.agg #[.bool l,.bool r,u],.agg #[.bool l,.bool r,v]] w fun e w' => e = .returned (.bool true)∧Below w.heap.size w w':=by
 obtain ⟨a,cap,rfl,-,-⟩ := id hu
 obtain ⟨a2,cap2,rfl,-,-⟩ := id hv
 go_enter Tryz.func9,Tryz.ntmps9
 go_wp2_with fail
 refine (eqOpS_same _ _ xs _ (by exact hu.below (below2 w _ _) (Nat.le_refl _)) (by exact hv.below (below2 w _ _) (Nat.le_refl _))).mono ?_
 rintro e w1 ⟨rfl,hb1⟩
 go_wp2
 go_ret
 exact ⟨rfl,(below2 w _ _).trans (hb1.mono (by rw [sz_alloc,sz_alloc]; omega))⟩
set_option maxHeartbeats 400000 in
theorem szPattern_any (l r:Bool) (v:Value) (xs:List El) (w:World) (hv:ElsAt 0 w.heap.size w v xs) :
  Calls Tryz.prog 4 #[.agg #[.bool l,.bool r,v],.int .i64 1048576] w fun e w' => (∃ r:Int,e = .returned (.int .i64 r)∧(r = -1∨(0≤r∧r=1048576 - xs.length - bulk xs)))∧Below w.heap.size w w':=by
 have hv2:=hv
 obtain ⟨a,cap,rfl,hlen,hc⟩ := hv
 go_enter Tryz.func4,Tryz.ntmps4
 go_wp2_with (go_at_call 13; refine (szOpS_any _ xs _ _ (hv2.below (below1 w _) (Nat.le_refl _)) (by omega) (by omega)).mono ?_; rintro e w1 ⟨⟨q,rfl,hq⟩,hb1⟩; rcases hq with rfl | ⟨hq0,hq1⟩)
 all_goals go_ret
 ·exact ⟨⟨-1,rfl,Or.inl rfl⟩,((Below.refl _ _).alloc (Nat.le_refl _) _).trans (hb1.mono (by simp))⟩
 ·exact ⟨⟨_,rfl,Or.inr ⟨by omega,rfl⟩⟩,((Below.refl _ _).alloc (Nat.le_refl _) _).trans (hb1.mono (by simp))⟩
open Go.ChangeShapes Go.WideShapes Go.ChangeAt Go.RowKit
theorem Tryz.cells24:Tryz.prog.cellsOf 24=3:=by kernel_rfl
theorem Tryz.cells66:Tryz.prog.cellsOf 66=4:=by kernel_rfl
theorem Tryz.cells3:Tryz.prog.cellsOf 3=1:=by kernel_rfl
theorem Tryz.cells26:Tryz.prog.cellsOf 26=1:=by kernel_rfl
theorem in64_of_wf {n:Int} (h:(Lit.int .i64 n).wf=true):In64 n:=by
 simpa [Lit.wf,IntKind.min,IntKind.max,IntKind.signed,IntKind.bits,In64] using h
section
variable {H:Type} {enc:TypeId × Value→H} {W:World}
theorem ints_of {n:Nat} {v:Value} {y:DataW H × List MemPlace} (h:DataW.trod enc Tryz.prog W 0 (fun _ => true) true n 26 [v]=some y):∃ xs,IntsAt 0 W.heap.size W v xs:=by
 rcases open_ints Tryz.underlying26 Tryz.underlying3 Tryz.cells3 h with ⟨hcs,-⟩ | ⟨a,len,cap,zs,hcs,-,hl,hm,hz,-,hcell,hwz⟩
 ·simp only [List.cons.injEq,and_true] at hcs
  subst hcs
  exact ⟨[],none,0,rfl,by simp,by intro i; simp [In64],by simp⟩
 ·simp only [List.cons.injEq,and_true] at hcs
  subst hcs
  simp only [if_true] at hz
  have hlen:(zs.take len).length=len:=by rw [List.length_take]; omega
  refine ⟨zs.take len,some a,cap,by rw [hlen],by omega,fun i => ?_,fun hp => ?_⟩
  ·by_cases hi:i<(zs.take len).length
   ·rw [List.getElem?_eq_getElem hi]
    exact in64_of_wf (hwz _ (List.mem_of_mem_take (List.getElem_mem hi)))
   ·rw [List.getElem?_eq_none (by omega)]
    simp [In64]
  ·obtain ⟨b,off,rfl,hc⟩ := ints_at hcell (by omega)
   refine ⟨b,off,rfl,Nat.zero_le _,World.block_lt_of_cell? _ _ (hc 0 (by omega)),fun i hi => ?_⟩
   rw [hlen] at hi
   rw [hc i (by omega),List.getElem?_take_of_lt hi]
   rfl
theorem el_of {n b o:Nat} {cs:List Value} {y:DataW H × List MemPlace} (hc:W.cells? 0 ⟨b,o,none⟩ 4=some cs) (h:DataW.trod enc Tryz.prog W 0 (fun _ => true) true n 66 cs=some y):∃ x,ElAt 0 W.heap.size W b o x:=by
 obtain ⟨-,hlen,hcell⟩ := World.cells?_some hc
 match cs,hlen with
 | [c0,c1,c2,c3],_ =>
  obtain ⟨y0,y1,y2,y3,m,-,-,h0,h1,h2,h3⟩ := Go.Joins.trod_struct4 Tryz.underlying66 h
  simp only [Tryz.cells3,Tryz.cells26,List.drop_zero,List.take_succ_cons,List.take_zero,List.drop_succ_cons] at h0 h1 h2 h3
  obtain ⟨k,e0,-,wk⟩ := DataW.trod_int Tryz.underlying3 h0
  obtain ⟨mn,e2,-,wmn⟩ := DataW.trod_int Tryz.underlying3 h2
  obtain ⟨mx,e3,-,wmx⟩ := DataW.trod_int Tryz.underlying3 h3
  simp only [List.cons.injEq,and_true] at e0 e2 e3
  subst e0 e2 e3
  obtain ⟨xs,hxs⟩ := ints_of h1
  have k0:=hcell 0 (by omega)
  have k1:=hcell 1 (by omega)
  have k2:=hcell 2 (by omega)
  have k3:=hcell 3 (by omega)
  rw [add_plain] at k0 k1 k2 k3
  exact ⟨⟨k,xs,mn,mx⟩,in64_of_wf wk,in64_of_wf wmn,in64_of_wf wmx,c1,k0,k1,k2,k3,hxs⟩
theorem els_of {n:Nat} {v:Value} {y:DataW H × List MemPlace} (h:DataW.trod enc Tryz.prog W 0 (fun _ => true) true n 22 [v]=some y):∃ xs,ElsAt 0 W.heap.size W v xs:=by
 rcases Go.Deep.open_slice Tryz.underlying22 h with ⟨hcs,-⟩ | ⟨a,len,cap,m,fu,D,Pl,hcs,-,hl,hm,hmm,-,hx⟩
 ·simp only [List.cons.injEq,and_true] at hcs
  subst hcs
  exact ⟨[],none,0,rfl,by simp,by simp⟩
 ·simp only [List.cons.injEq,and_true] at hcs
  subst hcs
  simp only [if_true] at hmm
  subst hmm
  rw [Tryz.cells66] at hx
  by_cases h0:len=0
  ·subst h0
   exact ⟨[],some a,m,rfl,⟨by simp,hm⟩,by simp⟩
  ·obtain ⟨cs0,hc0,-⟩ := hx 0 (by omega)
   obtain ⟨-,-,hcell0⟩ := World.cells?_some hc0
   obtain ⟨cs00,hh,hsome⟩ : ∃ q w',cs0=q∧W.cell? a=some w':=by
    obtain ⟨-,hlen0,-⟩ := World.cells?_some hc0
    match cs0,hlen0 with
    | [c0,c1,c2,c3],_ => exact ⟨_,c0,rfl,by simpa [Addr.add] using hcell0 0 (by omega)⟩
   obtain ⟨b,off,spot⟩ := a
   have hspot:spot=none:=World.cell?_spot hsome.2
   subst hspot
   have inh:Inhabited El:=⟨dE⟩
   obtain ⟨f,hf⟩ := Go.Deep.choose_lt (α:=El) (p:=fun i x => ElAt 0 W.heap.size W b (off+i * 4) x) (n:=len) (fun i hi => by
    obtain ⟨cs',h1,h2⟩ := hx i (by omega)
    rw [add_plain] at h1
    exact el_of h1 h2)
   have hb:b<W.heap.size:=World.block_lt_of_cell? _ _ hsome.2
   refine ⟨(List.range len).map f,_,m,by simp,⟨by simpa using hl,hm⟩,fun _ => ⟨b,off,rfl,Nat.zero_le _,hb,fun i hi => ?_⟩⟩
   have hi':i<len:=by simpa using hi
   have:=hf i hi'
   simpa [hi'] using this
end
end Go.Proofs.YtlidckepahpaeaaGreatDoor
