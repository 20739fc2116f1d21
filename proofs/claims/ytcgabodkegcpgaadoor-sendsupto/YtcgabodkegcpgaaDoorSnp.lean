/- Sends, purely: the kernel behind Grow, MakePipe and Fork, and what Put and Take do to it. -/
import Derived.Test.YtcgabodkegcpgaaDoorCia
import Derived.Test.YtcgabodkegcpgaaDoorCall
set_option linter.unusedVariables false
set_option linter.unusedSimpArgs false
set_option maxHeartbeats 20000000
set_option maxRecDepth 100000
namespace Go.Proofs.YtcgabodkegcpgaaDoor
def sn0:Ker:=kNew 16 3 1
def sn1:Ker:=(kCall sn0 0 2 0 1 0).K
def sn2:Ker:=(kCall sn1 0 13 0 2 0).K
def sn3:Ker:=(kCall sn2 0 5 1 3 0).K
def sn4:Ker:=(kCall sn3 0 6 1 0 4).K
def sn5:Ker:=(kCall sn4 0 7 1 0 0).K
def sn6:Ker:=(kCall sn5 0 7 1 1 1).K
def sn7:Ker:=(kCall sn6 0 8 1 0 0).K
theorem sn_grow:Comes 0 7 0 0 sn0 1 0 0 sn1:=by
 unfold Comes performM
 rw [if_neg (by decide),if_neg (by decide),if_neg (by decide),if_neg (by decide),if_neg (by decide),if_neg (by decide),if_pos rfl,M.bind_then]
 have hf:freeL sn0 sn0.nF=[1,2,3,4,5,6,7,8,9,10,11,12,13,14,15]:=by rfl
 rw [hf]
 refine alone_with1 (K1:=sn1) (v:=0) (by rfl) ?_
 exact .nil _ _
theorem sn_pipe:Comes 0 3 0 0 sn1 1 0 0 sn2:=by
 unfold Comes performM
 rw [if_neg (by decide),if_neg (by decide),if_pos rfl,M.bind_then]
 have hf:freeL sn1 sn1.nF=[2,3,4,5,6,7,8,9,10,11,12,13,14,15]:=by rfl
 rw [hf]
 refine alone_with1 (K1:=sn2) (v:=0) (by rfl) ?_
 exact .nil _ _
theorem sn_fork:Comes 0 1 0 0 sn2 5 1 0 sn7:=by
 unfold Comes performM
 rw [if_pos rfl]
 have hf:freeL sn2 sn2.nF=[3,4,5,6,7,8,9,10,11,12,13,14,15]:=by rfl
 have hp:∃ r,popL [3,4,5,6,7,8,9,10,11,12,13,14,15]=4::r:=⟨_,rfl⟩
 obtain ⟨pr,hp⟩:=hp
 rw [hf]
 unfold forkM
 rw [M.bind_then,show sn2.nS=3 from rfl]
 unfold spawnM
 rw [if_neg (by decide)]
 unfold spawnM
 rw [if_pos (by rfl),M.bind_then]
 refine alone_with1 (K1:=sn3) (v:=0) (by rfl) ?_
 rw [hp]
 rw [if_neg (show ¬ (0:Int)=7 by decide),M.pure_then,if_pos rfl,M.bind_then]
 rw [show pagesL sn2 0=[0] from rfl]
 unfold copyM
 rw [M.bind_then]
 refine alone_with2 (K1:=sn4) (v:=0) (by rfl) ?_
 rw [if_pos rfl]
 unfold copyM
 rw [M.pure_then]
 unfold forkC
 rw [if_pos rfl,M.bind_then,show filesL sn2 0=[0,1] from rfl]
 unfold giveM
 rw [M.bind_then]
 refine alone_call (o:=⟨sn5,0,0⟩) (by rfl) ?_
 rw [if_pos rfl]
 unfold giveM
 rw [M.bind_then]
 refine alone_call (o:=⟨sn6,0,0⟩) (by rfl) ?_
 rw [if_pos rfl]
 unfold giveM
 rw [M.pure_then]
 unfold forkD
 rw [if_pos rfl,M.bind_then]
 refine alone_call (o:=⟨sn7,0,0⟩) (by rfl) ?_
 unfold forkE
 rw [if_pos rfl,M.pure_then]
 exact .nil _ _
structure Snd (K:Ker) (q:List Int) (x y:Int):Prop where
 nS:K.nS=3
 r0:K.S 0 0=2
 r1:K.S 1 0=2
 p0:K.page 0 0=1
 w0:K.wr 0 0=true
 p1:K.page 1 0=4
 w1:K.wr 1 0=true
 f0:K.file 0 1=0
 e0:K.end 0 1=true
 f1:K.file 1 0=0
 e1:K.end 1 0=false
 d0:K.D 0 0=2
 hd:0≤K.D 0 1∧K.D 0 1<4
 cnt:K.D 0 2=q.length
 le:q.length≤4
 rd:K.D 0 3≠0
 wt:K.D 0 4≠0
 ring:∀ i (h:i<q.length),K.F 2 (2+((K.D 0 1+i) % 4).toNat)=q[i]
 x:K.F 1 3=x
 y:K.F 4 4=y
theorem snd_start:Snd sn7 [] 0 0 :=
 ⟨rfl,rfl,rfl,rfl,rfl,rfl,rfl,rfl,rfl,rfl,rfl,rfl,by decide,rfl,by decide,by decide,by decide,fun i h=>absurd h (by simp),rfl,rfl⟩
section
variable {K:Ker} {q:List Int} {x y:Int}
theorem kCall_at {K:Ker}{slot call:Nat}{a b c:Int}(h1:0<call)(h2:call<20)(h3:slot<K.nS)(h4:K.S slot 0=2)(h5:fits K ((argKinds call).getD 0 0) a=true)(h6:fits K ((argKinds call).getD 1 0) b=true)(h7:fits K ((argKinds call).getD 2 0) c=true):kCall K slot call a b c=kDo K slot call a b c:=by
 unfold kCall
 rw [if_neg (by omega),if_neg (by simp only [Int.toNat_natCast];omega),if_neg (by simp only [Int.toNat_natCast,h5,h6,h7];simp)]
 simp only [Int.toNat_natCast]
theorem snd_store (h:Snd K q x y)(v:Int):Snd (kCall K 0 19 0 1 v).K q v y:=by
 rw [show kCall K 0 19 0 1 v=kDo K 0 19 0 1 v from kCall_at (slot:=0) (call:=19) (by decide) (by decide) (by rw [h.nS];decide) h.r0 rfl rfl rfl]
 show Snd (kStore K 0 0 1 v).K q v y
 unfold kStore
 rw [if_neg (by rw [h.w0];decide),h.p0]
 show Snd (K.setF 1 3 v) q v y
 refine ⟨h.nS,h.r0,h.r1,h.p0,h.w0,h.p1,h.w1,h.f0,h.e0,h.f1,h.e1,h.d0,h.hd,h.cnt,h.le,h.rd,h.wt,fun i hi=>?_,?_,?_⟩
 ·show upd K.F 1 3 v 2 (2+((K.D 0 1+i) % 4).toNat)=_
  rw [upd_other _ _ _ _ _ _ (by omega)];exact h.ring i hi
 ·show upd K.F 1 3 v 1 3=v
  rw [upd_same]
 ·show upd K.F 1 3 v 4 4=y
  rw [upd_other _ _ _ _ _ _ (by omega)];exact h.y
theorem snd_write (h:Snd K q x y):(q.length=4→kCall K 0 16 1 0 1=⟨K,0,11⟩)∧(q.length<4→∃ K',kCall K 0 16 1 0 1=⟨K',0,0⟩∧Snd K' (q ++ [x]) x y):=by
 have e:kCall K 0 16 1 0 1=kWrite K 0 1 0 1:=kCall_at (slot:=0) (call:=16) (by decide) (by decide) (by rw [h.nS];decide) h.r0 rfl rfl rfl
 have hd:=h.hd
 rw [e]
 unfold kWrite
 rw [h.f0,h.e0,if_neg (by decide),h.p0,if_neg (by decide),show ((0:Int)).toNat=0 from rfl,if_neg h.rd,h.cnt]
 refine ⟨fun hq=>by rw [if_pos (by omega)],fun hq=>?_⟩
 rw [if_neg (by omega),h.d0]
 refine ⟨_,rfl,?_⟩
 show Snd ((K.setF 2 (2+((K.D 0 1+q.length) % 4).toNat) (K.F 1 3)).setD 0 2 (q.length+1)) (q ++ [x]) x y
 generalize hr:(2+((K.D 0 1+(q.length:Int)) % 4).toNat)=rr
 have eD:∀ c,c≠2→((K.setF 2 rr (K.F 1 3)).setD 0 2 (q.length+1)).D 0 c=K.D 0 c:=fun c hc=>upd_other K.D 0 2 _ 0 c (by omega)
 have eF:∀ f c,((K.setF 2 rr (K.F 1 3)).setD 0 2 (q.length+1)).F f c=upd K.F 2 rr (K.F 1 3) f c:=fun f c=>rfl
 refine ⟨h.nS,h.r0,h.r1,h.p0,h.w0,h.p1,h.w1,h.f0,h.e0,h.f1,h.e1,(eD 0 (by omega)).trans h.d0,?_,?_,by simp;omega,?_,?_,fun i hi=>?_,?_,?_⟩
 ·rw [eD 1 (by omega)];exact hd
 ·exact (upd_same K.D 0 2 ((q.length:Int)+1)).trans (by simp)
 ·rw [eD 3 (by omega)];exact h.rd
 ·rw [eD 4 (by omega)];exact h.wt
 ·rw [eD 1 (by omega),eF]
  simp only [List.length_append,List.length_cons,List.length_nil] at hi
  by_cases e:i=q.length
  ·subst e
   rw [hr,upd_same]
   simp [h.x]
  ·rw [upd_other _ _ _ _ _ _ (by omega),h.ring i (by omega),List.getElem_append_left]
 ·rw [eF,upd_other _ _ _ _ _ _ (by omega)];exact h.x
 ·rw [eF,upd_other _ _ _ _ _ _ (by omega)];exact h.y
theorem snd_read (h:Snd K q x y):(q=[]→kCall K 1 17 0 0 2=⟨K,0,11⟩)∧(∀ z r,q=z::r→∃ K',kCall K 1 17 0 0 2=⟨K',0,0⟩∧Snd K' r x z):=by
 have e:kCall K 1 17 0 0 2=kRead K 1 0 0 2:=kCall_at (slot:=1) (call:=17) (by decide) (by decide) (by rw [h.nS];decide) h.r1 rfl rfl rfl
 have hd:=h.hd
 have hle:=h.le
 rw [e]
 unfold kRead
 rw [h.f1,h.e1,if_neg (by decide),h.w1,if_neg (by decide),show ((0:Int)).toNat=0 from rfl,if_neg (fun e=>h.wt e.2),h.cnt]
 refine ⟨fun hq=>by subst hq;rfl,fun z r hq=>?_⟩
 subst hq
 simp only [List.length_cons] at hle
 rw [if_neg (by simp;omega),h.d0,h.p1]
 refine ⟨_,rfl,?_⟩
 have hz:=h.ring 0 (by simp)
 simp only [List.getElem_cons_zero] at hz
 show Snd (((K.setF 4 4 (K.F 2 (2+(K.D 0 1).toNat))).setD 0 1 ((K.D 0 1+1) % 4)).setD 0 2 (((z::r).length:Int) - 1)) r x z
 rw [show K.F 2 (2+(K.D 0 1).toNat)=z by rw [← hz];congr 2;simp;omega]
 have eD:∀ c,c≠2→c≠1→(((K.setF 4 4 z).setD 0 1 ((K.D 0 1+1) % 4)).setD 0 2 (((z::r).length:Int) - 1)).D 0 c=K.D 0 c:=fun c h1 h2=>(upd_other (upd K.D 0 1 _) 0 2 _ 0 c (by omega)).trans (upd_other K.D 0 1 _ 0 c (by omega))
 have eD1:(((K.setF 4 4 z).setD 0 1 ((K.D 0 1+1) % 4)).setD 0 2 (((z::r).length:Int) - 1)).D 0 1=(K.D 0 1+1) % 4:=by
  show upd (upd K.D 0 1 ((K.D 0 1+1) % 4)) 0 2 (((z::r).length:Int) - 1) 0 1=_
  rw [upd_other _ _ _ _ _ _ (by omega),upd_same]
 have eF:∀ f c,(((K.setF 4 4 z).setD 0 1 ((K.D 0 1+1) % 4)).setD 0 2 (((z::r).length:Int) - 1)).F f c=upd K.F 4 4 z f c:=fun f c=>rfl
 refine ⟨h.nS,h.r0,h.r1,h.p0,h.w0,h.p1,h.w1,h.f0,h.e0,h.f1,h.e1,(eD 0 (by omega) (by omega)).trans h.d0,?_,?_,by omega,?_,?_,fun i hi=>?_,?_,?_⟩
 ·rw [eD1];omega
 ·exact (upd_same (upd K.D 0 1 ((K.D 0 1+1) % 4)) 0 2 (((z::r).length:Int) - 1)).trans (by simp)
 ·rw [eD 3 (by omega) (by omega)];exact h.rd
 ·rw [eD 4 (by omega) (by omega)];exact h.wt
 ·rw [eD1,eF,upd_other _ _ _ _ _ _ (by omega)]
  have:=h.ring (i+1) (by simp;omega)
  simp only [List.getElem_cons_succ] at this
  rw [← this]
  congr 2
  omega
 ·rw [eF,upd_other _ _ _ _ _ _ (by omega)];exact h.x
 ·rw [eF,upd_same]
theorem snd_load (h:Snd K q x y):kCall K 1 18 0 2 0=⟨K,y,0⟩:=by
 rw [show kCall K 1 18 0 2 0=kLoad K 1 0 2 from kCall_at (slot:=1) (call:=18) (by decide) (by decide) (by rw [h.nS];decide) h.r1 rfl rfl rfl]
 unfold kLoad
 rw [h.p1,if_neg (by decide)]
 show (⟨K,K.F 4 4,0⟩:Out)=_
 rw [h.y]
end
end Go.Proofs.YtcgabodkegcpgaaDoor
