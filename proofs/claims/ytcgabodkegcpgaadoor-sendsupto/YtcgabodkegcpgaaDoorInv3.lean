/- Plain facts on the kernel's numbers: every call keeps the books good and the files counted right. -/
import Derived.Test.YtcgabodkegcpgaaDoorCall
set_option linter.unusedVariables false
set_option linter.unusedSimpArgs false
set_option maxHeartbeats 20000000
set_option maxRecDepth 100000
namespace Go.Proofs.YtcgabodkegcpgaaDoor
theorem inv_setF {K:Ker}(I:Inv K)(i c:Nat)(v:Int):Inv (K.setF i c v):=I.of (good_setF I.good i c v) rfl rfl (fun _ _ _ _=>⟨rfl,rfl⟩) (fun _ _=>⟨rfl,rfl⟩)
theorem inv_become {K:Ker}(I:Inv K)(i:Nat)(a b:Int):Inv (K.become i a b) :=
 inv_setF (inv_setF (inv_setF (inv_setF (inv_setF (inv_setF I _ _ _) _ _ _) _ _ _) _ _ _) _ _ _) _ _ _
theorem inv_copyWords {K:Ker}(I:Inv K)(g h:Nat):Inv (K.copyWords g h):=inv_setF (inv_setF (inv_setF (inv_setF I _ _ _) _ _ _) _ _ _) _ _ _
theorem inv_setPage {K:Ker}(I:Inv K)(s p:Nat)(f:Int)(b:Bool)(hp:p<4)(hf:f=-1∨(0≤f∧f<K.nF))(hb:b=true→f≠-1):Inv (K.setPage s p f b) :=
 I.of (good_setPage I.good s p f b hp hf hb) rfl rfl (fun i x _ hx=>⟨upd_other K.S s (3+p*2) f i (11+x*2) (by omega),upd_other K.B s (4+p*2) b i (12+x*2) (by omega)⟩) (fun _ _=>⟨rfl,rfl⟩)
theorem inv_setD {K:Ker}(I:Inv K)(d c:Nat)(v:Int)(h:(c=1∧0≤v∧v<4)∨(c=2∧0≤v∧v≤4)):Inv (K.setD d c v) :=
 I.of (good_setD I.good d c v (by omega)) rfl rfl (fun _ _ _ _=>⟨rfl,rfl⟩) (fun i _=>⟨upd_other K.D d c v i 3 (by omega),upd_other K.D d c v i 4 (by omega)⟩)
theorem good_setS {K:Ker}(G:Good K)(i c:Nat)(v:Int)(hc:c=0∨c=1∨c=2∨c=19)(ht:∀ j,j<K.nS→(K.setS i c v).S j 0≠0→0≤(K.setS i c v).S j 2∧(K.setS i c v).S j 2<K.nF):Good (K.setS i c v):=by
 have hp:∀ j p,p<4→(K.setS i c v).page j p=K.page j p:=fun j p hp=>upd_other K.S i c v j (3+p*2) (by omega)
 have hf:∀ j x,x<4→(K.setS i c v).file j x=K.file j x:=fun j x hx=>upd_other K.S i c v j (11+x*2) (by omega)
 exact ⟨fun j p hj hq=>by rw [hp j p hq];exact G.page j p hj hq,fun j p hj hq h=>by rw [hp j p hq];exact G.wr j p hj hq h,fun j x hj hx=>by rw [hf j x hx];exact G.file j x hj hx,G.duct,G.head,G.cnt,G.rd,G.wt,ht⟩
theorem inv_setS {K:Ker}(I:Inv K)(i c:Nat)(v:Int)(hc:c=0∨c=1∨c=2∨c=19)(ht:∀ j,j<K.nS→(K.setS i c v).S j 0≠0→0≤(K.setS i c v).S j 2∧(K.setS i c v).S j 2<K.nF):Inv (K.setS i c v) :=
 I.of (good_setS I.good i c v hc ht) rfl rfl (fun j x _ hx=>⟨upd_other K.S i c v j (11+x*2) (by omega),rfl⟩) (fun _ _=>⟨rfl,rfl⟩)
theorem inv_setS_aside {K:Ker}(I:Inv K)(i c:Nat)(v:Int)(hc:c=1∨c=19):Inv (K.setS i c v) :=
 inv_setS I i c v (by omega) (fun j hj h=>by
  have e0:(K.setS i c v).S j 0=K.S j 0:=upd_other K.S i c v j 0 (by omega)
  have e2:(K.setS i c v).S j 2=K.S j 2:=upd_other K.S i c v j 2 (by omega)
  rw [e0] at h;rw [e2];exact I.good.tab j hj h)
theorem inv_setS_kind {K:Ker}(I:Inv K)(i:Nat)(v:Int)(h0:K.S i 0≠0):Inv (K.setS i 0 v) :=
 inv_setS I i 0 v (by omega) (fun j hj h=>by
  have e2:(K.setS i 0 v).S j 2=K.S j 2:=upd_other K.S i 0 v j 2 (by omega)
  rw [e2]
  by_cases e:j=i
  ·subst e;exact I.good.tab j hj h0
  ·have e0:(K.setS i 0 v).S j 0=K.S j 0:=upd_other K.S i 0 v j 0 (by omega)
   rw [e0] at h;exact I.good.tab j hj h)
theorem inv_map {K:Ker}(I:Inv K){s p f:Nat}(hp:p<4)(hf:f<K.nF):Inv (kMap K s p f).K:=by
 unfold kMap
 split
 ·exact I
 split
 ·exact I
 exact inv_setPage (inv_become I f 2 s) s p f true hp (Or.inr ⟨by omega,by show (f:Int)<K.nF;omega⟩) (by omega)
theorem inv_freePage {K:Ker}(I:Inv K){s p:Nat}(hp:p<4):Inv (K.freePage s p):=by
 unfold Ker.freePage
 exact inv_setPage (inv_become I _ 0 (-1)) s p (-1) false hp (Or.inl rfl) (by intro h;cases h)
theorem inv_unmap {K:Ker}(I:Inv K){s p:Nat}(hp:p<4):Inv (kUnmap K s p).K:=by
 unfold kUnmap
 split
 ·exact I
 exact inv_freePage I hp
theorem inv_protect {K:Ker}(I:Inv K){s p:Nat}(v:Int)(hp:p<4):Inv (kProtect K s p v).K:=by
 unfold kProtect
 split
 ·exact I
 rename_i h
 have e:∀ i q,q<4→¬ (i=s∧q=p)→(K.setB s (4+p*2) (v != 0)).wr i q=K.wr i q:=fun i q hq e=>upd_other K.B s (4+p*2) _ i (4+q*2) (by omega)
 refine I.of ⟨I.good.page,fun i q hi hq hw=>?_,I.good.file,I.good.duct,I.good.head,I.good.cnt,I.good.rd,I.good.wt,I.good.tab⟩ rfl rfl (fun i x _ hx=>⟨rfl,upd_other K.B s (4+p*2) _ i (12+x*2) (by omega)⟩) (fun _ _=>⟨rfl,rfl⟩)
 by_cases e':i=s∧q=p
 ·obtain ⟨rfl,rfl⟩:=e';exact h
 ·rw [e i q hq e'] at hw;exact I.good.wr i q hi hq hw
theorem inv_store {K:Ker}(I:Inv K)(s p x:Nat)(v:Int):Inv (kStore K s p x v).K:=by
 unfold kStore;split
 ·exact I
 ·exact inv_setF I _ _ _
theorem inv_load {K:Ker}(I:Inv K)(s p x:Nat):Inv (kLoad K s p x).K:=by
 unfold kLoad;split<;>exact I
theorem inv_write {K:Ker}(I:Inv K){s x p j:Nat}(hs:s<K.nS)(hx:x<4):Inv (kWrite K s x p j).K:=by
 unfold kWrite
 split
 ·exact I
 rename_i h1
 split
 ·exact I
 split
 ·exact I
 split
 ·exact I
 rename_i h2 h3 h4
 have hd:(K.file s x).toNat<K.nD:=by rcases I.good.file s x hs hx with k|k<;>omega
 have:=I.good.cnt _ hd
 exact inv_setD (inv_setF I _ _ _) _ 2 _ (by omega)
theorem inv_read {K:Ker}(I:Inv K){s x p j:Nat}(hs:s<K.nS)(hx:x<4):Inv (kRead K s x p j).K:=by
 unfold kRead
 split
 ·exact I
 rename_i h1
 split
 ·exact I
 split
 ·exact I
 split
 ·exact I
 rename_i h2 h3 h4
 have hd:(K.file s x).toNat<K.nD:=by rcases I.good.file s x hs hx with k|k<;>omega
 have:=I.good.cnt _ hd
 have:=I.good.head _ hd
 exact inv_setD (inv_setD (inv_setF I _ _ _) _ 1 _ (by omega)) _ 2 _ (by omega)
theorem inv_dup {K:Ker}(I:Inv K){s x t:Nat}(hs:s<K.nS)(hx:x<4)(ht:t<4):Inv (kDup K s x t).K:=by
 unfold kDup
 split
 ·exact I
 rename_i h
 have hd:=I.good.file s x hs hx
 exact inv_openFile I _ hs ht (by omega) (by omega) (by omega)
theorem inv_give {K:Ker}(I:Inv K){s c x t:Nat}(hs:s<K.nS)(hc:c<K.nS)(hx:x<4)(ht:t<4):Inv (kGive K s c x t).K:=by
 unfold kGive
 split
 ·exact I
 split
 ·exact I
 rename_i h
 have hd:=I.good.file s x hs hx
 exact inv_openFile I _ hc ht (by omega) (by omega) (by omega)
theorem inv_start {K:Ker}(I:Inv K){s c:Nat}:Inv (kStart K s c).K:=by
 unfold kStart
 split
 ·exact I
 rename_i h
 refine inv_setS_kind I c 2 ?_
 intro h0
 apply h
 unfold Ker.embryo
 rw [h0];simp
theorem inv_spawn {K:Ker}(I:Inv K){s c f:Nat}(hf:f<K.nF):Inv (kSpawn K s c f).K:=by
 unfold kSpawn
 split
 ·exact I
 split
 ·exact I
 rename_i h0 h1
 have I0:Inv (K.become f 1 c):=inv_become I f 1 c
 have hF:f<(K.become f 1 c).nF:=hf
 have hk0:K.S c 0=0:=by simpa using h0
 have hk:(K.become f 1 c).S c 0=0:=hk0
 clear hk0
 show Inv ((((K.become f 1 c).setS c 0 1).setS c 1 s).setS c 2 f)
 generalize K.become f 1 c=K0 at *
 have sw:((K0.setS c 0 1).setS c 1 s).setS c 2 f=((K0.setS c 2 f).setS c 0 1).setS c 1 s:=by
  unfold Ker.setS
  congr 1
  funext i j
  unfold upd
  by_cases e0:i=c∧j=0
  ·simp [e0]
  ·by_cases e1:i=c∧j=1
   ·simp [e1]
   ·by_cases e2:i=c∧j=2
    ·simp [e2]
    ·simp [e0,e1,e2]
 rw [sw]
 have I1:Inv (K0.setS c 2 f):=inv_setS I0 c 2 f (by omega) (fun j hj h=>by
  have e0:(K0.setS c 2 f).S j 0=K0.S j 0:=upd_other K0.S c 2 f j 0 (by omega)
  by_cases e:j=c
  ·subst e;rw [e0,hk] at h;exact absurd rfl h
  ·rw [e0] at h
   rw [show (K0.setS c 2 f).S j 2=K0.S j 2 from upd_other K0.S c 2 f j 2 (by omega)];exact I0.good.tab j hj h)
 have I2:Inv ((K0.setS c 2 f).setS c 0 1):=inv_setS I1 c 0 1 (by omega) (fun j hj h=>by
  have e2:((K0.setS c 2 f).setS c 0 1).S j 2=(K0.setS c 2 f).S j 2:=upd_other (K0.setS c 2 f).S c 0 1 j 2 (by omega)
  rw [e2]
  by_cases e:j=c
  ·subst e
   rw [show (K0.setS j 2 f).S j 2=f from upd_same K0.S j 2 f]
   show 0≤(f:Int)∧(f:Int)<K0.nF
   omega
  ·have e0:((K0.setS c 2 f).setS c 0 1).S j 0=(K0.setS c 2 f).S j 0:=upd_other (K0.setS c 2 f).S c 0 1 j 0 (by omega)
   rw [e0] at h
   exact I1.good.tab j hj h)
 exact inv_setS_aside I2 c 1 s (by omega)
theorem inv_copy {K:Ker}(I:Inv K){s c p f:Nat}(hp:p<4)(hf:f<K.nF):Inv (kCopy K s c p f).K:=by
 unfold kCopy
 split
 ·exact I
 split
 ·exact I
 split
 ·exact I
 exact inv_copyWords (inv_setPage (inv_become I f 2 c) c p f _ hp (Or.inr ⟨by omega,by show (f:Int)<K.nF;omega⟩) (by omega)) f _
theorem inv_orphans {K:Ker}(I:Inv K)(s:Nat):∀ n,Inv (K.orphans s n)
 | 0=>I
 | n+1=>by
  unfold Ker.orphans
  split
  ·exact inv_setS_aside (inv_orphans I s n) n 1 0 (by omega)
  ·exact inv_orphans I s n
theorem inv_exit {K:Ker}(I:Inv K){s:Nat}(a:Int)(h:K.S s 0≠0):Inv (kExit K s a).K:=by
 unfold kExit
 split
 ·exact I
 exact inv_orphans (inv_setS_aside (inv_setS_kind I s 3 h) s 19 a (by omega)) s K.nS
theorem inv_drop {K:Ker}(I:Inv K){s c p:Nat}(hp:p<4):Inv (kDrop K s c p).K:=by
 unfold kDrop
 split
 ·exact I
 split
 ·exact I
 exact inv_freePage I hp
theorem ends_none {K:Ker}(d:Nat)(b:Bool)(h:∀ i x,i<K.nS→x<4→K.file i x≠d):K.ends d b=0:=by
 unfold Ker.ends
 have:∀ n,n≤K.nS*4→countTo (K.isEnd d b) n=0:=fun n=>by
  induction n with
  | zero=>intro _;rfl
  | succ n ih =>
   intro hn
   unfold countTo
   rw [ih (by omega)]
   have:K.isEnd d b n=false:=by
    unfold Ker.isEnd
    have:=h (n / 4) (n % 4) (by omega) (by omega)
    simp [this]
   rw [this];simp
 exact this _ (Nat.le_refl _)
theorem ends_zero {K:Ker}{d:Nat}(h3:K.ends d false=0)(h4:K.ends d true=0){i x:Nat}(hi:i<K.nS)(hx:x<4):K.file i x≠d:=by
 intro hf
 have q1:(i*4+x) / 4=i:=by omega
 have q2:(i*4+x) % 4=x:=by omega
 cases hb:K.end i x
 ·have:=countTo_zero (p:=K.isEnd d false) (K.nS*4) h3 (i*4+x) (by omega)
  unfold Ker.isEnd at this
  rw [q1,q2,hf,hb] at this
  simp at this
 ·have:=countTo_zero (p:=K.isEnd d true) (K.nS*4) h4 (i*4+x) (by omega)
  unfold Ker.isEnd at this
  rw [q1,q2,hf,hb] at this
  simp at this
theorem noDuct_D (K:Ker)(d:Nat)(f:Int)(i c:Nat):(K.noDuct d f).D i c=if i=d∧c<5 then (if c=0 then f else 0) else K.D i c:=by
 unfold Ker.noDuct Ker.setD upd
 by_cases e:i=d
 ·subst e
  by_cases h:c<5
  ·obtain rfl|rfl|rfl|rfl|rfl:c=0∨c=1∨c=2∨c=3∨c=4:=by omega
   all_goals simp
  ·rw [if_neg (by omega)]
   have:c≠0∧c≠1∧c≠2∧c≠3∧c≠4:=by omega
   simp [this]
 ·simp [e]
theorem inv_noDuct_key {K:Ker}(I:Inv K){d:Nat}(f:Int)(hd:d<K.nD)(hf:f=-1∨(0≤f∧f<K.nF))(hn:∀ i x,i<K.nS→x<4→K.file i x≠d)(F':Nat→Nat→Int)(D':Nat→Nat→Int)
  (hD:∀ i c,D' i c=if i=d∧c<5 then (if c=0 then f else 0) else K.D i c):Inv { K with F:=F',D:=D' }:=by
 have e3:=ends_none d false hn
 have e4:=ends_none d true hn
 have ends':∀ d' b,Ker.ends { K with F:=F',D:=D' } d' b=K.ends d' b:=fun _ _=>rfl
 refine ⟨⟨I.good.page,I.good.wr,?_,?_,?_,?_,?_,?_,I.good.tab⟩,I.hS,?_,?_⟩
 ·intro i x hi hx
  have hne:=hn i x hi hx
  rcases I.good.file i x hi hx with k|⟨k1,k2,k3⟩
  ·exact Or.inl k
  ·refine Or.inr ⟨k1,k2,?_⟩
   show 0≤D' (K.file i x).toNat 0
   rw [hD,if_neg (by omega)]
   exact k3
 ·intro i hi
  show D' i 0=-1∨(0≤D' i 0∧D' i 0<K.nF)
  rw [hD];have:=I.good.duct i hi;split
  ·exact hf
  ·exact this
 ·intro i hi;show 0≤D' i 1∧D' i 1<4;rw [hD];have:=I.good.head i hi
  split
  ·simp
  ·exact this
 ·intro i hi;show 0≤D' i 2∧D' i 2≤4;rw [hD];have:=I.good.cnt i hi
  split
  ·simp
  ·exact this
 ·intro i hi;show 0≤D' i 3∧D' i 3≤24;rw [hD];have:=I.good.rd i hi
  split
  ·simp
  ·exact this
 ·intro i hi;show 0≤D' i 4∧D' i 4≤24;rw [hD];have:=I.good.wt i hi
  split
  ·simp
  ·exact this
 ·intro i hi
  show D' i 3=_
  rw [hD,ends']
  have:=I.rds i hi
  split
  ·rename_i e;rw [e.1,e3];rfl
  ·exact this
 ·intro i hi
  show D' i 4=_
  rw [hD,ends']
  have:=I.wts i hi
  split
  ·rename_i e;rw [e.1,e4];rfl
  ·exact this
theorem inv_noDuct {K:Ker}(I:Inv K){d:Nat}(f:Int)(hd:d<K.nD)(hf:f=-1∨(0≤f∧f<K.nF))(hn:∀ i x,i<K.nS→x<4→K.file i x≠d):Inv (K.noDuct d f) :=
 inv_noDuct_key I f hd hf hn K.F (K.noDuct d f).D (noDuct_D K d f)
theorem inv_pipe {K:Ker}(I:Inv K){s n f x:Nat}(hs:s<K.nS)(hn:n<K.nD)(hf:f<K.nF)(hx:x<4):Inv (kPipe K s n f x).K:=by
 unfold kPipe
 split
 ·exact I
 rename_i h0
 split
 ·exact I
 split
 ·exact I
 rename_i h1 h
 have I0:Inv (K.become f 3 (-1)):=inv_become I f 3 (-1)
 have n0:n<(K.become f 3 (-1)).nD:=hn
 have f0:f<(K.become f 3 (-1)).nF:=hf
 have s0:s<(K.become f 3 (-1)).nS:=hs
 have x3:x<3:=by omega
 have g1:(K.become f 3 (-1)).file s x=-1:=by show K.file s x=-1;omega
 have g2:(K.become f 3 (-1)).file s (x+1)=-1:=by show K.file s (x+1)=-1;omega
 have d0:(K.become f 3 (-1)).D n 0=-1:=by show K.D n 0=-1;omega
 show Inv ((((K.become f 3 (-1)).noDuct n f).openFile s x n false).openFile s (x+1) n true)
 clear h0 h1 h
 generalize K.become f 3 (-1)=K0 at *
 have I1:Inv (K0.noDuct n f):=inv_noDuct I0 f n0 (Or.inr ⟨by omega,by omega⟩) (fun i y hi hy=>by
  rcases I0.good.file i y hi hy with k|⟨k1,k2,k3⟩
  ·omega
  ·intro e;rw [e,Int.toNat_natCast,d0] at k3;omega)
 have m0:n<(K0.noDuct n f).nD:=n0
 have m1:s<(K0.noDuct n f).nS:=s0
 have m2:(K0.noDuct n f).file s x=-1:=g1
 have m3:(K0.noDuct n f).file s (x+1)=-1:=g2
 have m4:0≤(K0.noDuct n f).D n 0:=by rw [noDuct_D];simp
 generalize K0.noDuct n f=K1 at *
 have I2:Inv (K1.openFile s x n false):=inv_openFile I1 false m1 (by omega) m0 m4 m2
 refine inv_openFile I2 true m1 (by omega) m0 ?_ ?_
 ·show 0≤upd K1.D n 3 _ n 0
  rw [upd_other _ _ _ _ _ _ (by omega)];exact m4
 ·show (K1.setFile s x n false).file s (x+1)=-1
  rw [setFile_file K1 s x n false s (x+1) (by omega) (by omega),if_neg (by omega)];exact m3
theorem inv_closeFile {K:Ker}(I:Inv K){s x:Nat}(hs:s<K.nS)(hx:x<4)(hf:K.file s x≠-1):Inv (K.closeFile s x):=by
 have hF:=I.good.file s x hs hx
 obtain ⟨d,hd⟩:∃ d:Nat,K.file s x=d:=⟨(K.file s x).toNat,by omega⟩
 have hdn:d<K.nD:=by omega
 rw [hd,Int.toNat_natCast] at hF
 unfold Ker.closeFile
 rw [hd,Int.toNat_natCast]
 generalize hb:K.end s x=b
 show Inv (if ((K.setFile s x (-1) false).count d b (-1)).D d 3=0∧((K.setFile s x (-1) false).count d b (-1)).D d 4=0 then (((K.setFile s x (-1) false).count d b (-1)).become (((K.setFile s x (-1) false).count d b (-1)).D d 0).toNat 0 (-1)).noDuct d (-1) else (K.setFile s x (-1) false).count d b (-1))
 have sz:=count_sizes (K.setFile s x (-1) false) d b (-1)
 have E:∀ d' b',((K.setFile s x (-1) false).count d b (-1)).ends d' b'+(if d=d'∧b=b' then 1 else 0)=K.ends d' b':=fun d' b'=>by
  rw [ends_count]
  have h:=ends_setFile K s x (-1) false hs hx d' b'
  rw [hd,hb,if_neg (show ¬ ((-1:Int)=(d':Int)∧false=b') by omega)] at h
  have e:((d:Int)=(d':Int)∧b=b')↔(d=d'∧b=b'):=⟨fun k=>⟨by omega,k.2⟩,fun k=>⟨by omega,k.2⟩⟩
  simp only [e] at h
  omega
 have D3:∀ i,((K.setFile s x (-1) false).count d b (-1)).D i 3=if i=d∧b=false then K.D d 3 + -1 else K.D i 3:=fun i=>(count_D (K.setFile s x (-1) false) d b (-1) i).1
 have D4:∀ i,((K.setFile s x (-1) false).count d b (-1)).D i 4=if i=d∧b=true then K.D d 4 + -1 else K.D i 4:=fun i=>(count_D (K.setFile s x (-1) false) d b (-1) i).2
 have r3:=I.rds d hdn
 have r4:=I.wts d hdn
 have b3:=I.bounds (d:=d) false
 have b4:=I.bounds (d:=d) true
 have Ed:=E d b
 rw [if_pos ⟨rfl,rfl⟩] at Ed
 have G:Good ((K.setFile s x (-1) false).count d b (-1)):=by
  have G1:Good (K.setFile s x (-1) false):=good_setFile I.good s x (-1) false hx (Or.inl rfl)
  cases b
  ·exact good_setD G1 d 3 (K.D d 3 + -1) (by omega)
  ·exact good_setD G1 d 4 (K.D d 4 + -1) (by omega)
 have I1:Inv ((K.setFile s x (-1) false).count d b (-1)):=by
  refine ⟨G,by rw [sz.2.1];exact I.hS,fun d' hd'=>?_,fun d' hd'=>?_⟩
  ·rw [sz.2.2.1] at hd'
   have:=E d' false
   have h':=I.rds d' hd'
   rw [D3 d']
   by_cases e:d'=d∧b=false
   ·obtain ⟨rfl,rfl⟩:=e
    rw [if_pos ⟨rfl,rfl⟩];rw [if_pos ⟨rfl,rfl⟩] at this;omega
   ·rw [if_neg e];rw [if_neg (by intro h;exact e ⟨h.1.symm,h.2⟩)] at this;omega
  ·rw [sz.2.2.1] at hd'
   have:=E d' true
   have h':=I.wts d' hd'
   rw [D4 d']
   by_cases e:d'=d∧b=true
   ·obtain ⟨rfl,rfl⟩:=e
    rw [if_pos ⟨rfl,rfl⟩];rw [if_pos ⟨rfl,rfl⟩] at this;omega
   ·rw [if_neg e];rw [if_neg (by intro h;exact e ⟨h.1.symm,h.2⟩)] at this;omega
 have hd1:d<((K.setFile s x (-1) false).count d b (-1)).nD:=by rw [sz.2.2.1];exact hdn
 clear E D3 D4 Ed G sz
 generalize (K.setFile s x (-1) false).count d b (-1)=K1 at *
 split
 ·rename_i hz
  have q3:=I1.rds d hd1
  have q4:=I1.wts d hd1
  have hnone:∀ i y,i<K1.nS→y<4→K1.file i y≠d:=fun i y hi hy=>ends_zero (by omega) (by omega) hi hy
  have I2:Inv (K1.become (K1.D d 0).toNat 0 (-1)):=inv_become I1 _ 0 (-1)
  have hd2:d<(K1.become (K1.D d 0).toNat 0 (-1)).nD:=hd1
  have hn2:∀ i y,i<(K1.become (K1.D d 0).toNat 0 (-1)).nS→y<4→(K1.become (K1.D d 0).toNat 0 (-1)).file i y≠d:=hnone
  generalize K1.become (K1.D d 0).toNat 0 (-1)=K2 at *
  exact inv_noDuct I2 (-1) hd2 (Or.inl rfl) hn2
 ·exact I1
theorem inv_close {K:Ker}(I:Inv K){s x:Nat}(hs:s<K.nS)(hx:x<4):Inv (kClose K s x).K:=by
 unfold kClose
 split
 ·exact I
 exact inv_closeFile I hs hx (by assumption)
theorem inv_shut {K:Ker}(I:Inv K){s c x:Nat}(hc:c<K.nS)(hx:x<4):Inv (kShut K s c x).K:=by
 unfold kShut
 split
 ·exact I
 split
 ·exact I
 exact inv_closeFile I hc hx (by assumption)
theorem inv_reap {K:Ker}(I:Inv K){s c:Nat}(hc:c<K.nS):Inv (kReap K s c).K:=by
 unfold kReap
 split
 ·exact I
 split
 ·exact I
 split
 ·exact I
 rename_i h0 h1 h2
 have I1:Inv (K.become (K.S c 2).toNat 0 (-1)):=inv_become I _ 0 (-1)
 have hc1:c<(K.become (K.S c 2).toNat 0 (-1)).nS:=hc
 have hf:∀ x,x<4→(K.become (K.S c 2).toNat 0 (-1)).file c x=-1:=fun x hx=>by
  show K.file c x=-1
  obtain rfl|rfl|rfl|rfl:x=0∨x=1∨x=2∨x=3:=by omega
  all_goals omega
 show Inv ((K.become (K.S c 2).toNat 0 (-1)).noSlot c)
 generalize K.become (K.S c 2).toNat 0 (-1)=K1 at *
 have S':∀ i j,(K1.noSlot c).S i j=if i=c then (if j=0∨j=19 then 0 else -1) else K1.S i j:=fun _ _=>rfl
 have B':∀ i j,(K1.noSlot c).B i j=if i=c then false else K1.B i j:=fun _ _=>rfl
 have pg:∀ i p,p<4→(K1.noSlot c).page i p=if i=c then -1 else K1.page i p:=fun i p hp=>by
  show (K1.noSlot c).S i (3+p*2)=_
  rw [S',if_neg (show ¬ (3+p*2=0∨3+p*2=19) by omega)];rfl
 have fl:∀ i x,x<4→(K1.noSlot c).file i x=if i=c then -1 else K1.file i x:=fun i x hx=>by
  show (K1.noSlot c).S i (11+x*2)=_
  rw [S',if_neg (show ¬ (11+x*2=0∨11+x*2=19) by omega)];rfl
 have fl':∀ i x,i<K1.nS→x<4→(K1.noSlot c).file i x=K1.file i x:=fun i x _ hx=>by
  rw [fl i x hx];split
  ·rename_i e;rw [e,hf x hx]
  ·rfl
 have G:Good (K1.noSlot c):=by
  refine ⟨fun i p hi hp=>?_,fun i p hi hp hw=>?_,fun i x hi hx=>?_,I1.good.duct,I1.good.head,I1.good.cnt,I1.good.rd,I1.good.wt,fun i hi h=>?_⟩
  ·rw [pg i p hp];split
   ·exact Or.inl rfl
   ·exact I1.good.page i p hi hp
  ·have hw':(if i=c then false else K1.B i (4+p*2))=true:=hw
   rw [pg i p hp]
   by_cases e:i=c
   ·rw [if_pos e] at hw';cases hw'
   ·rw [if_neg e] at hw';rw [if_neg e];exact I1.good.wr i p hi hp hw'
  ·rw [fl' i x hi hx];exact I1.good.file i x hi hx
  ·rw [S'] at h
   by_cases e:i=c
   ·rw [if_pos e] at h;simp at h
   ·rw [if_neg e] at h;rw [S',if_neg e];exact I1.good.tab i hi h
 have E:∀ d b,(K1.noSlot c).ends d b=K1.ends d b:=fun d b=>by
  unfold Ker.ends
  show countTo ((K1.noSlot c).isEnd d b) (K1.nS*4)=_
  refine countTo_congr _ fun j hj=>?_
  unfold Ker.isEnd
  have hi:j / 4<K1.nS:=by omega
  have hx:j % 4<4:=by omega
  by_cases e:j / 4=c
  ·rw [fl' _ _ hi hx,e,hf _ hx]
   have:((-1:Int) == (d:Int))=false:=by rw [beq_eq_false_iff_ne];omega
   rw [this];rfl
  ·rw [fl' _ _ hi hx,show (K1.noSlot c).end (j / 4) (j % 4)=K1.end (j / 4) (j % 4) from by show (if j / 4=c then false else K1.B (j / 4) _)=_;rw [if_neg e];rfl]
 exact ⟨G,I1.hS,fun d hd=>by rw [E];exact I1.rds d hd,fun d hd=>by rw [E];exact I1.wts d hd⟩
theorem inv_new (nF nS nD:Nat)(hF:2≤nF)(hS:nS≤6):Inv (kNew nF nS nD):=by
 have G:=good_new nF nS nD hF
 have nf:∀ d:Nat,∀ i x,i<(kNew nF nS nD).nS→x<4→(kNew nF nS nD).file i x≠d:=fun d i x hi hx=>by
  have e':¬ (i=0∧11+x*2=0):=by omega
  have e'':¬ (i=0∧11+x*2=2):=by omega
  have e3:¬ (11+x*2=0∨11+x*2=19):=by omega
  simp only [Ker.file,kNew,kBase,Ker.become,Ker.setS,Ker.setF,upd_other _ _ _ _ _ _ e',upd_other _ _ _ _ _ _ e'',if_neg e3]
  omega
 exact ⟨G,hS,fun d hd=>by rw [ends_none d false (nf d)];rfl,fun d hd=>by rw [ends_none d true (nf d)];rfl⟩
theorem fits_num {K:Ker}{t a:Int}(h:fits K t a=true)(ht:t≠0):∃ n:Nat,a=n∧(n:Int)<howMany K t:=by
 unfold fits at h
 simp [ht] at h
 exact ⟨a.toNat,by omega,by omega⟩
theorem many1 (K:Ker):howMany K 1=K.nF:=rfl
theorem many2 (K:Ker):howMany K 2=K.nS:=rfl
theorem many3 (K:Ker):howMany K 3=K.nD:=rfl
theorem many4 (K:Ker):howMany K 4=4:=rfl
theorem many5 (K:Ker):howMany K 5=4:=rfl
theorem many6 (K:Ker):howMany K 6=4:=rfl
theorem inv_do {K:Ker}(I:Inv K)(s n:Nat)(a b c:Int)(hs:s<K.nS)(hr:K.S s 0≠0)(hn:n<20)
  (hf:fits K ((argKinds n).getD 0 0) a=true∧fits K ((argKinds n).getD 1 0) b=true∧fits K ((argKinds n).getD 2 0) c=true):Inv (kDo K s n a b c).K:=by
 obtain ⟨f0,f1,f2⟩:=hf
 have m1:=many1 K;have m2:=many2 K;have m3:=many3 K;have m4:=many4 K;have m5:=many5 K;have m6:=many6 K
 obtain rfl|rfl|rfl|rfl|rfl|rfl|rfl|rfl|rfl|rfl|rfl|rfl|rfl|rfl|rfl|rfl|rfl|rfl|rfl|rfl:n=0∨n=1∨n=2∨n=3∨n=4∨n=5∨n=6∨n=7∨n=8∨n=9∨n=10∨n=11∨n=12∨n=13∨n=14∨n=15∨n=16∨n=17∨n=18∨n=19:=by omega
 ·exact I
 ·exact I
 ·obtain ⟨a',rfl,ha⟩:=fits_num (t:=4) f0 (by decide)
  obtain ⟨b',rfl,hb⟩:=fits_num (t:=1) f1 (by decide)
  exact inv_map I (by omega) (by omega)
 ·obtain ⟨a',rfl,ha⟩:=fits_num (t:=4) f0 (by decide)
  exact inv_unmap I (by omega)
 ·obtain ⟨a',rfl,ha⟩:=fits_num (t:=4) f0 (by decide)
  exact inv_protect I b (by omega)
 ·obtain ⟨a',rfl,ha⟩:=fits_num (t:=2) f0 (by decide)
  obtain ⟨b',rfl,hb⟩:=fits_num (t:=1) f1 (by decide)
  exact inv_spawn I (by omega)
 ·obtain ⟨a',rfl,ha⟩:=fits_num (t:=2) f0 (by decide)
  obtain ⟨b',rfl,hb⟩:=fits_num (t:=4) f1 (by decide)
  obtain ⟨c',rfl,hc⟩:=fits_num (t:=1) f2 (by decide)
  exact inv_copy I (by omega) (by omega)
 ·obtain ⟨a',rfl,ha⟩:=fits_num (t:=2) f0 (by decide)
  obtain ⟨b',rfl,hb⟩:=fits_num (t:=5) f1 (by decide)
  obtain ⟨c',rfl,hc⟩:=fits_num (t:=5) f2 (by decide)
  exact inv_give I hs (by omega) (by omega) (by omega)
 ·exact inv_start I
 ·exact inv_exit I a hr
 ·obtain ⟨a',rfl,ha⟩:=fits_num (t:=2) f0 (by decide)
  obtain ⟨b',rfl,hb⟩:=fits_num (t:=4) f1 (by decide)
  exact inv_drop I (by omega)
 ·obtain ⟨a',rfl,ha⟩:=fits_num (t:=2) f0 (by decide)
  obtain ⟨b',rfl,hb⟩:=fits_num (t:=5) f1 (by decide)
  exact inv_shut I (by omega) (by omega)
 ·obtain ⟨a',rfl,ha⟩:=fits_num (t:=2) f0 (by decide)
  exact inv_reap I (by omega)
 ·obtain ⟨a',rfl,ha⟩:=fits_num (t:=3) f0 (by decide)
  obtain ⟨b',rfl,hb⟩:=fits_num (t:=1) f1 (by decide)
  obtain ⟨c',rfl,hc⟩:=fits_num (t:=5) f2 (by decide)
  exact inv_pipe I hs (by omega) (by omega) (by omega)
 ·obtain ⟨a',rfl,ha⟩:=fits_num (t:=5) f0 (by decide)
  obtain ⟨b',rfl,hb⟩:=fits_num (t:=5) f1 (by decide)
  exact inv_dup I hs (by omega) (by omega)
 ·obtain ⟨a',rfl,ha⟩:=fits_num (t:=5) f0 (by decide)
  exact inv_close I hs (by omega)
 ·obtain ⟨a',rfl,ha⟩:=fits_num (t:=5) f0 (by decide)
  exact inv_write I hs (by omega)
 ·obtain ⟨a',rfl,ha⟩:=fits_num (t:=5) f0 (by decide)
  exact inv_read I hs (by omega)
 ·exact inv_load I s _ _
 ·exact inv_store I s _ _ _
theorem inv_call {K:Ker}(I:Inv K)(slot call a b c:Int):Inv (kCall K slot call a b c).K:=by
 unfold kCall
 by_cases h1:¬ (0≤call∧call<20)∨call=0
 ·rw [if_pos h1];exact I
 rw [if_neg h1]
 by_cases h2:¬ (0≤slot∧slot<K.nS)∨K.S slot.toNat 0≠2
 ·rw [if_pos h2];exact I
 rw [if_neg h2]
 by_cases h3:fits K ((argKinds call.toNat).getD 0 0) a=false∨fits K ((argKinds call.toNat).getD 1 0) b=false∨fits K ((argKinds call.toNat).getD 2 0) c=false
 ·rw [if_pos h3];exact I
 rw [if_neg h3]
 have g0:fits K ((argKinds call.toNat).getD 0 0) a=true:=by cases h:fits K ((argKinds call.toNat).getD 0 0) a;exact absurd (Or.inl h) h3;rfl
 have g1:fits K ((argKinds call.toNat).getD 1 0) b=true:=by cases h:fits K ((argKinds call.toNat).getD 1 0) b;exact absurd (Or.inr (Or.inl h)) h3;rfl
 have g2:fits K ((argKinds call.toNat).getD 2 0) c=true:=by cases h:fits K ((argKinds call.toNat).getD 2 0) c;exact absurd (Or.inr (Or.inr h)) h3;rfl
 exact inv_do I slot.toNat call.toNat a b c (by omega) (by omega) (by omega) ⟨g0,g1,g2⟩
end Go.Proofs.YtcgabodkegcpgaaDoor
