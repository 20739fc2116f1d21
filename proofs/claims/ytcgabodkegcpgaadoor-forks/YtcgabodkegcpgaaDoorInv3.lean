/- Plain facts on the kernel's numbers: every call keeps the books good and the files counted right. -/
import Derived.Test.YtcgabodkegcpgaaDoorCall
set_option linter.unusedVariables false
set_option linter.unusedSimpArgs false
set_option maxHeartbeats 20000000
set_option maxRecDepth 100000
namespace Go.Proofs.YtcgabodkegcpgaaDoor
theorem L1 {K:Ker}(I:Inv K)(i c:Nat)(v:Int):Inv (K.setF i c v):=I.of (T7 I.good i c v) rfl rfl (λ_ _ _ _=>⟨rfl,rfl⟩) (λ_ _=>⟨rfl,rfl⟩)
theorem R9 {K:Ker}(I:Inv K)(i:Nat)(a b:Int):Inv (K.become i a b) :=
 L1 (L1 (L1 (L1 (L1 (L1 I _ _ _) _ _ _) _ _ _) _ _ _) _ _ _) _ _ _
theorem a7s {K:Ker}(I:Inv K)(g h:Nat):Inv (K.copyWords g h):=L1 (L1 (L1 (L1 I _ _ _) _ _ _) _ _ _) _ _ _
theorem a2d {K:Ker}(I:Inv K)(s p:Nat)(f:Int)(b:Bool)(hp:p<4)(hf:f=-1\/(0<=f/\f<K.nF))(hb:b=true->f≠-1):Inv (K.setPage s p f b) :=
 I.of (a3F I.good s p f b hp hf hb) rfl rfl (λi x _ hx=>⟨f8 K.S s (3+p*2) f i (11+x*2) (by omega),f8 K.B s (4+p*2) b i (12+x*2) (by omega)⟩) (λ_ _=>⟨rfl,rfl⟩)
theorem a6a {K:Ker}(I:Inv K)(d c:Nat)(v:Int)(h:(c=1/\0<=v/\v<4)\/(c=2/\0<=v/\v<=4)):Inv (K.setD d c v) :=
 I.of (a1p I.good d c v (by omega)) rfl rfl (λ_ _ _ _=>⟨rfl,rfl⟩) (λi _=>⟨f8 K.D d c v i 3 (by omega),f8 K.D d c v i 4 (by omega)⟩)
theorem b3q {K:Ker}(G:Good K)(i c:Nat)(v:Int)(hc:c=0\/c=1\/c=2\/c=19)(ht:∀ j,j<K.nS->(K.setS i c v).S j 0≠0->0<=(K.setS i c v).S j 2/\(K.setS i c v).S j 2<K.nF):Good (K.setS i c v):=by
 have hp:∀ j p,p<4->(K.setS i c v).page j p=K.page j p:=λj p hp=>f8 K.S i c v j (3+p*2) (by omega);have hf:∀ j x,x<4->(K.setS i c v).file j x=K.file j x:=λj x hx=>f8 K.S i c v j (11+x*2) (by omega);exact ⟨λj p hj hq=>by rw [hp j p hq];exact G.page j p hj hq,λj p hj hq h=>by rw [hp j p hq];exact G.wr j p hj hq h,λj x hj hx=>by rw [hf j x hx];exact G.file j x hj hx,G.duct,G.head,G.cnt,G.rd,G.wt,ht⟩
theorem a3S {K:Ker}(I:Inv K)(i c:Nat)(v:Int)(hc:c=0\/c=1\/c=2\/c=19)(ht:∀ j,j<K.nS->(K.setS i c v).S j 0≠0->0<=(K.setS i c v).S j 2/\(K.setS i c v).S j 2<K.nF):Inv (K.setS i c v) :=
 I.of (b3q I.good i c v hc ht) rfl rfl (λj x _ hx=>⟨f8 K.S i c v j (11+x*2) (by omega),rfl⟩) (λ_ _=>⟨rfl,rfl⟩)
theorem a0I {K:Ker}(I:Inv K)(i c:Nat)(v:Int)(hc:c=1\/c=19):Inv (K.setS i c v) :=
 a3S I i c v (by omega) (λj hj h=>by
  have e0:(K.setS i c v).S j 0=K.S j 0:=f8 K.S i c v j 0 (by omega);have e2:(K.setS i c v).S j 2=K.S j 2:=f8 K.S i c v j 2 (by omega)
  rw [e0] at h;rw [e2];exact I.good.tab j hj h)
theorem a2Y {K:Ker}(I:Inv K)(i:Nat)(v:Int)(h0:K.S i 0≠0):Inv (K.setS i 0 v) :=
 a3S I i 0 v (by omega) (λj hj h=>by
  have e2:(K.setS i 0 v).S j 2=K.S j 2:=f8 K.S i 0 v j 2 (by omega);rw [e2]
  by_cases e:j=i
  ·subst e;exact I.good.tab j hj h0
  ·have e0:(K.setS i 0 v).S j 0=K.S j 0:=f8 K.S i 0 v j 0 (by omega)
   rw [e0] at h;exact I.good.tab j hj h)
theorem b8O {K:Ker}(I:Inv K){s p f:Nat}(hp:p<4)(hf:f<K.nF):Inv (a0s K s p f).K:=by
 unfold a0s;split
 ·exact I
 split
 ·exact I
 exact a2d (R9 I f 2 s) s p f true hp (Or.inr ⟨by omega,by show (f:Int)<K.nF;omega⟩) (by omega)
theorem a3T {K:Ker}(I:Inv K){s p:Nat}(hp:p<4):Inv (K.freePage s p):=by
 unfold Ker.freePage;exact a2d (R9 I _ 0 (-1)) s p (-1) false hp (Or.inl rfl) (by intro h;cases h)
theorem b3r {K:Ker}(I:Inv K){s p:Nat}(hp:p<4):Inv (S6 K s p).K:=by
 unfold S6;split
 ·exact I
 exact a3T I hp
theorem a9P {K:Ker}(I:Inv K){s p:Nat}(v:Int)(hp:p<4):Inv (D8 K s p v).K:=by
 unfold D8;split
 ·exact I
 rename_i h;have e:∀ i q,q<4->¬ (i=s/\q=p)->(K.setB s (4+p*2) (v != 0)).wr i q=K.wr i q:=λi q hq e=>f8 K.B s (4+p*2) _ i (4+q*2) (by omega);refine I.of ⟨I.good.page,λi q hi hq hw=>?_,I.good.file,I.good.duct,I.good.head,I.good.cnt,I.good.rd,I.good.wt,I.good.tab⟩ rfl rfl (λi x _ hx=>⟨rfl,f8 K.B s (4+p*2) _ i (12+x*2) (by omega)⟩) (λ_ _=>⟨rfl,rfl⟩)
 by_cases e':i=s/\q=p
 ·obtain ⟨rfl,rfl⟩:=e';exact h
 ·rw [e i q hq e'] at hw;exact I.good.wr i q hi hq hw
theorem b3s {K:Ker}(I:Inv K)(s p x:Nat)(v:Int):Inv (J4 K s p x v).K:=by
 unfold J4;split
 ·exact I
 ·exact L1 I _ _ _
theorem b5Z {K:Ker}(I:Inv K)(s p x:Nat):Inv (a0J K s p x).K:=by
 unfold a0J;split<;>exact I
theorem b3t {K:Ker}(I:Inv K){s x p j:Nat}(hs:s<K.nS)(hx:x<4):Inv (a0l K s x p j).K:=by
 unfold a0l;split
 ·exact I
 rename_i h1;split
 ·exact I
 split
 ·exact I
 split
 ·exact I
 rename_i h2 h3 h4;have hd:(K.file s x).toNat<K.nD:=by rcases I.good.file s x hs hx with k|k<;>omega
 have:=I.good.cnt _ hd;exact a6a (L1 I _ _ _) _ 2 _ (by omega)
theorem b6a {K:Ker}(I:Inv K){s x p j:Nat}(hs:s<K.nS)(hx:x<4):Inv (a1S K s x p j).K:=by
 unfold a1S;split
 ·exact I
 rename_i h1;split
 ·exact I
 split
 ·exact I
 split
 ·exact I
 rename_i h2 h3 h4;have hd:(K.file s x).toNat<K.nD:=by rcases I.good.file s x hs hx with k|k<;>omega
 have:=I.good.cnt _ hd;have:=I.good.head _ hd;exact a6a (a6a (L1 I _ _ _) _ 1 _ (by omega)) _ 2 _ (by omega)
theorem b8P {K:Ker}(I:Inv K){s x t:Nat}(hs:s<K.nS)(hx:x<4)(ht:t<4):Inv (a2f K s x t).K:=by
 unfold a2f;split
 ·exact I
 rename_i h;have hd:=I.good.file s x hs hx;exact a0r I _ hs ht (by omega) (by omega) (by omega)
theorem b6b {K:Ker}(I:Inv K){s c x t:Nat}(hs:s<K.nS)(hc:c<K.nS)(hx:x<4)(ht:t<4):Inv (Q6 K s c x t).K:=by
 unfold Q6;split
 ·exact I
 split
 ·exact I
 rename_i h;have hd:=I.good.file s x hs hx;exact a0r I _ hc ht (by omega) (by omega) (by omega)
theorem b3u {K:Ker}(I:Inv K){s c:Nat}:Inv (O9 K s c).K:=by
 unfold O9;split
 ·exact I
 rename_i h;refine a2Y I c 2 ?_;intro h0;apply h;unfold Ker.embryo;rw [h0];simp
theorem b3v {K:Ker}(I:Inv K){s c f:Nat}(hf:f<K.nF):Inv (J5 K s c f).K:=by
 unfold J5;split
 ·exact I
 split
 ·exact I
 rename_i h0 h1;have I0:Inv (K.become f 1 c):=R9 I f 1 c;have hF:f<(K.become f 1 c).nF:=hf;have hk0:K.S c 0=0:=by simpa using h0
 have hk:(K.become f 1 c).S c 0=0:=hk0;clear hk0;show Inv ((((K.become f 1 c).setS c 0 1).setS c 1 s).setS c 2 f);generalize K.become f 1 c=K0 at *;have sw:((K0.setS c 0 1).setS c 1 s).setS c 2 f=((K0.setS c 2 f).setS c 0 1).setS c 1 s:=by
  unfold Ker.setS
  congr 1
  funext i j;unfold upd
  by_cases e0:i=c/\j=0
  ·simp [e0]
  ·by_cases e1:i=c/\j=1
   ·simp [e1]
   ·by_cases e2:i=c/\j=2
    ·simp [e2]
    ·simp [e0,e1,e2]
 rw [sw]
 have I1:Inv (K0.setS c 2 f):=a3S I0 c 2 f (by omega) (λj hj h=>by
  have e0:(K0.setS c 2 f).S j 0=K0.S j 0:=f8 K0.S c 2 f j 0 (by omega)
  by_cases e:j=c
  ·subst e;rw [e0,hk] at h;exact absurd rfl h
  ·rw [e0] at h
   rw [show (K0.setS c 2 f).S j 2=K0.S j 2 from f8 K0.S c 2 f j 2 (by omega)];exact I0.good.tab j hj h)
 have I2:Inv ((K0.setS c 2 f).setS c 0 1):=a3S I1 c 0 1 (by omega) (λj hj h=>by
  have e2:((K0.setS c 2 f).setS c 0 1).S j 2=(K0.setS c 2 f).S j 2:=f8 (K0.setS c 2 f).S c 0 1 j 2 (by omega);rw [e2]
  by_cases e:j=c
  ·subst e;rw [show (K0.setS j 2 f).S j 2=f from upd_same K0.S j 2 f];show 0<=(f:Int)/\(f:Int)<K0.nF;omega
  ·have e0:((K0.setS c 2 f).setS c 0 1).S j 0=(K0.setS c 2 f).S j 0:=f8 (K0.setS c 2 f).S c 0 1 j 0 (by omega);rw [e0] at h
   exact I1.good.tab j hj h)
 exact a0I I2 c 1 s (by omega)
theorem b6c {K:Ker}(I:Inv K){s c p f:Nat}(hp:p<4)(hf:f<K.nF):Inv (M9 K s c p f).K:=by
 unfold M9;split
 ·exact I
 split
 ·exact I
 split
 ·exact I
 exact a7s (a2d (R9 I f 2 c) c p f _ hp (Or.inr ⟨by omega,by show (f:Int)<K.nF;omega⟩) (by omega)) f _
theorem a2e {K:Ker}(I:Inv K)(s:Nat):∀ n,Inv (K.orphans s n)
 | 0=>I
 | n+1=>by
  unfold Ker.orphans;split
  ·exact a0I (a2e I s n) n 1 0 (by omega)
  ·exact a2e I s n
theorem b6d {K:Ker}(I:Inv K){s:Nat}(a:Int)(h:K.S s 0≠0):Inv (a0b K s a).K:=by
 unfold a0b;split
 ·exact I
 exact a2e (a0I (a2Y I s 3 h) s 19 a (by omega)) s K.nS
theorem b6e {K:Ker}(I:Inv K){s c p:Nat}(hp:p<4):Inv (U8 K s c p).K:=by
 unfold U8;split
 ·exact I
 split
 ·exact I
 exact a3T I hp
theorem a2K {K:Ker}(d:Nat)(b:Bool)(h:∀ i x,i<K.nS->x<4->K.file i x≠d):K.ends d b=0:=by
 unfold Ker.ends;have:∀ n,n<=K.nS*4->K9 (K.isEnd d b) n=0:=λn=>by
  induction n with
  | zero=>intro _;rfl
  | succ n ih =>
   intro hn;unfold K9;rw [ih (by omega)];have:K.isEnd d b n=false:=by
    unfold Ker.isEnd;have:=h (n / 4) (n % 4) (by omega) (by omega);simp [this]
   rw [this];simp
 exact this _ (Nat.le_refl _)
theorem b3w {K:Ker}{d:Nat}(h3:K.ends d false=0)(h4:K.ends d true=0){i x:Nat}(hi:i<K.nS)(hx:x<4):K.file i x≠d:=by
 intro hf;have q1:(i*4+x) / 4=i:=by omega
 have q2:(i*4+x) % 4=x:=by omega
 cases hb:K.end i x
 ·have:=a1A (p:=K.isEnd d false) (K.nS*4) h3 (i*4+x) (by omega);unfold Ker.isEnd at this;rw [q1,q2,hf,hb] at this;simp at this
 ·have:=a1A (p:=K.isEnd d true) (K.nS*4) h4 (i*4+x) (by omega);unfold Ker.isEnd at this;rw [q1,q2,hf,hb] at this;simp at this
theorem U7 (K:Ker)(d:Nat)(f:Int)(i c:Nat):(K.noDuct d f).D i c=if i=d/\c<5 then (if c=0 then f else 0) else K.D i c:=by
 unfold Ker.noDuct Ker.setD upd
 by_cases e:i=d
 ·subst e
  by_cases h:c<5
  ·obtain rfl|rfl|rfl|rfl|rfl:c=0\/c=1\/c=2\/c=3\/c=4:=by omega
   all_goals simp
  ·rw [if_neg (by omega)];have:c≠0/\c≠1/\c≠2/\c≠3/\c≠4:=by omega
   simp [this]
 ·simp [e]
theorem a6b {K:Ker}(I:Inv K){d:Nat}(f:Int)(hd:d<K.nD)(hf:f=-1\/(0<=f/\f<K.nF))(hn:∀ i x,i<K.nS->x<4->K.file i x≠d)(F':Nat->Nat->Int)(D':Nat->Nat->Int)
  (hD:∀ i c,D' i c=if i=d/\c<5 then (if c=0 then f else 0) else K.D i c):Inv { K with F:=F',D:=D' }:=by
 have e3:=a2K d false hn;have e4:=a2K d true hn;have ends':∀ d' b,Ker.ends { K with F:=F',D:=D' } d' b=K.ends d' b:=λ_ _=>rfl;refine ⟨⟨I.good.page,I.good.wr,?_,?_,?_,?_,?_,?_,I.good.tab⟩,I.hS,?_,?_⟩
 ·intro i x hi hx;have hne:=hn i x hi hx;rcases I.good.file i x hi hx with k|⟨k1,k2,k3⟩
  ·exact Or.inl k
  ·refine Or.inr ⟨k1,k2,?_⟩;show 0<=D' (K.file i x).toNat 0;rw [hD,if_neg (by omega)];exact k3
 ·intro i hi;show D' i 0=-1\/(0<=D' i 0/\D' i 0<K.nF);rw [hD];have:=I.good.duct i hi;split
  ·exact hf
  ·exact this
 ·intro i hi;show 0<=D' i 1/\D' i 1<4;rw [hD];have:=I.good.head i hi;split
  ·simp
  ·exact this
 ·intro i hi;show 0<=D' i 2/\D' i 2<=4;rw [hD];have:=I.good.cnt i hi;split
  ·simp
  ·exact this
 ·intro i hi;show 0<=D' i 3/\D' i 3<=24;rw [hD];have:=I.good.rd i hi;split
  ·simp
  ·exact this
 ·intro i hi;show 0<=D' i 4/\D' i 4<=24;rw [hD];have:=I.good.wt i hi;split
  ·simp
  ·exact this
 ·intro i hi;show D' i 3=_;rw [hD,ends'];have:=I.rds i hi;split
  ·rename_i e;rw [e.1,e3];rfl
  ·exact this
 ·intro i hi;show D' i 4=_;rw [hD,ends'];have:=I.wts i hi;split
  ·rename_i e;rw [e.1,e4];rfl
  ·exact this
theorem a6c {K:Ker}(I:Inv K){d:Nat}(f:Int)(hd:d<K.nD)(hf:f=-1\/(0<=f/\f<K.nF))(hn:∀ i x,i<K.nS->x<4->K.file i x≠d):Inv (K.noDuct d f) :=
 a6b I f hd hf hn K.F (K.noDuct d f).D (U7 K d f)
theorem b6f {K:Ker}(I:Inv K){s n f x:Nat}(hs:s<K.nS)(hn:n<K.nD)(hf:f<K.nF)(hx:x<4):Inv (G3 K s n f x).K:=by
 unfold G3;split
 ·exact I
 rename_i h0;split
 ·exact I
 split
 ·exact I
 rename_i h1 h;have I0:Inv (K.become f 3 (-1)):=R9 I f 3 (-1);have n0:n<(K.become f 3 (-1)).nD:=hn;have f0:f<(K.become f 3 (-1)).nF:=hf;have s0:s<(K.become f 3 (-1)).nS:=hs;have x3:x<3:=by omega
 have g1:(K.become f 3 (-1)).file s x=-1:=by show K.file s x=-1;omega
 have g2:(K.become f 3 (-1)).file s (x+1)=-1:=by show K.file s (x+1)=-1;omega
 have d0:(K.become f 3 (-1)).D n 0=-1:=by show K.D n 0=-1;omega
 show Inv ((((K.become f 3 (-1)).noDuct n f).openFile s x n false).openFile s (x+1) n true);clear h0 h1 h;generalize K.become f 3 (-1)=K0 at *
 have I1:Inv (K0.noDuct n f):=a6c I0 f n0 (Or.inr ⟨by omega,by omega⟩) (λi y hi hy=>by
  rcases I0.good.file i y hi hy with k|⟨k1,k2,k3⟩
  ·omega
  ·intro e;rw [e,Int.toNat_natCast,d0] at k3;omega)
 have m0:n<(K0.noDuct n f).nD:=n0;have m1:s<(K0.noDuct n f).nS:=s0;have m2:(K0.noDuct n f).file s x=-1:=g1;have m3:(K0.noDuct n f).file s (x+1)=-1:=g2;have m4:0<=(K0.noDuct n f).D n 0:=by rw [U7];simp
 generalize K0.noDuct n f=K1 at *;have I2:Inv (K1.openFile s x n false):=a0r I1 false m1 (by omega) m0 m4 m2;refine a0r I2 true m1 (by omega) m0 ?_ ?_
 ·show 0<=upd K1.D n 3 _ n 0;rw [f8 _ _ _ _ _ _ (by omega)];exact m4
 ·show (K1.setFile s x n false).file s (x+1)=-1;rw [a0q K1 s x n false s (x+1) (by omega) (by omega),if_neg (by omega)];exact m3
theorem a2Z {K:Ker}(I:Inv K){s x:Nat}(hs:s<K.nS)(hx:x<4)(hf:K.file s x≠-1):Inv (K.closeFile s x):=by
 have hF:=I.good.file s x hs hx;obtain ⟨d,hd⟩:∃ d:Nat,K.file s x=d:=⟨(K.file s x).toNat,by omega⟩;have hdn:d<K.nD:=by omega
 rw [hd,Int.toNat_natCast] at hF;unfold Ker.closeFile;rw [hd,Int.toNat_natCast];generalize hb:K.end s x=b;show Inv (if ((K.setFile s x (-1) false).count d b (-1)).D d 3=0/\((K.setFile s x (-1) false).count d b (-1)).D d 4=0 then (((K.setFile s x (-1) false).count d b (-1)).become (((K.setFile s x (-1) false).count d b (-1)).D d 0).toNat 0 (-1)).noDuct d (-1) else (K.setFile s x (-1) false).count d b (-1));have sz:=O7 (K.setFile s x (-1) false) d b (-1);have E:∀ d' b',((K.setFile s x (-1) false).count d b (-1)).ends d' b'+(if d=d'/\b=b' then 1 else 0)=K.ends d' b':=λd' b'=>by
  rw [a5M];have h:=a1B K s x (-1) false hs hx d' b';rw [hd,hb,if_neg (show ¬ ((-1:Int)=(d':Int)/\false=b') by omega)] at h;have e:((d:Int)=(d':Int)/\b=b')↔(d=d'/\b=b'):=⟨λk=>⟨by omega,k.2⟩,λk=>⟨by omega,k.2⟩⟩;simp only [e] at h;omega
 have D3:∀ i,((K.setFile s x (-1) false).count d b (-1)).D i 3=if i=d/\b=false then K.D d 3 + -1 else K.D i 3:=λi=>(a0X (K.setFile s x (-1) false) d b (-1) i).1
 have D4:∀ i,((K.setFile s x (-1) false).count d b (-1)).D i 4=if i=d/\b=true then K.D d 4 + -1 else K.D i 4:=λi=>(a0X (K.setFile s x (-1) false) d b (-1) i).2
 have r3:=I.rds d hdn;have r4:=I.wts d hdn;have b3:=I.bounds (d:=d) false;have b4:=I.bounds (d:=d) true;have Ed:=E d b;rw [if_pos ⟨rfl,rfl⟩] at Ed;have G:Good ((K.setFile s x (-1) false).count d b (-1)):=by
  have G1:Good (K.setFile s x (-1) false):=a3G I.good s x (-1) false hx (Or.inl rfl);cases b
  ·exact a1p G1 d 3 (K.D d 3 + -1) (by omega)
  ·exact a1p G1 d 4 (K.D d 4 + -1) (by omega)
 have I1:Inv ((K.setFile s x (-1) false).count d b (-1)):=by
  refine ⟨G,by rw [sz.2.1];exact I.hS,λd' hd'=>?_,λd' hd'=>?_⟩
  ·rw [sz.2.2.1] at hd';have:=E d' false;have h':=I.rds d' hd';rw [D3 d']
   by_cases e:d'=d/\b=false
   ·obtain ⟨rfl,rfl⟩:=e;rw [if_pos ⟨rfl,rfl⟩];rw [if_pos ⟨rfl,rfl⟩] at this;omega
   ·rw [if_neg e];rw [if_neg (by intro h;exact e ⟨h.1.symm,h.2⟩)] at this;omega
  ·rw [sz.2.2.1] at hd';have:=E d' true;have h':=I.wts d' hd';rw [D4 d']
   by_cases e:d'=d/\b=true
   ·obtain ⟨rfl,rfl⟩:=e;rw [if_pos ⟨rfl,rfl⟩];rw [if_pos ⟨rfl,rfl⟩] at this;omega
   ·rw [if_neg e];rw [if_neg (by intro h;exact e ⟨h.1.symm,h.2⟩)] at this;omega
 have hd1:d<((K.setFile s x (-1) false).count d b (-1)).nD:=by rw [sz.2.2.1];exact hdn
 clear E D3 D4 Ed G sz;generalize (K.setFile s x (-1) false).count d b (-1)=K1 at *;split
 ·rename_i hz;have q3:=I1.rds d hd1;have q4:=I1.wts d hd1;have hnone:∀ i y,i<K1.nS->y<4->K1.file i y≠d:=λi y hi hy=>b3w (by omega) (by omega) hi hy;have I2:Inv (K1.become (K1.D d 0).toNat 0 (-1)):=R9 I1 _ 0 (-1);have hd2:d<(K1.become (K1.D d 0).toNat 0 (-1)).nD:=hd1;have hn2:∀ i y,i<(K1.become (K1.D d 0).toNat 0 (-1)).nS->y<4->(K1.become (K1.D d 0).toNat 0 (-1)).file i y≠d:=hnone;generalize K1.become (K1.D d 0).toNat 0 (-1)=K2 at *;exact a6c I2 (-1) hd2 (Or.inl rfl) hn2
 ·exact I1
theorem b3x {K:Ker}(I:Inv K){s x:Nat}(hs:s<K.nS)(hx:x<4):Inv (S7 K s x).K:=by
 unfold S7;split
 ·exact I
 exact a2Z I hs hx (by assumption)
theorem b6g {K:Ker}(I:Inv K){s c x:Nat}(hc:c<K.nS)(hx:x<4):Inv (U9 K s c x).K:=by
 unfold U9;split
 ·exact I
 split
 ·exact I
 exact a2Z I hc hx (by assumption)
theorem b6h {K:Ker}(I:Inv K){s c:Nat}(hc:c<K.nS):Inv (O5 K s c).K:=by
 unfold O5;split
 ·exact I
 split
 ·exact I
 split
 ·exact I
 rename_i h0 h1 h2;have I1:Inv (K.become (K.S c 2).toNat 0 (-1)):=R9 I _ 0 (-1);have hc1:c<(K.become (K.S c 2).toNat 0 (-1)).nS:=hc;have hf:∀ x,x<4->(K.become (K.S c 2).toNat 0 (-1)).file c x=-1:=λx hx=>by
  show K.file c x=-1;obtain rfl|rfl|rfl|rfl:x=0\/x=1\/x=2\/x=3:=by omega
  all_goals omega
 show Inv ((K.become (K.S c 2).toNat 0 (-1)).noSlot c);generalize K.become (K.S c 2).toNat 0 (-1)=K1 at *;have S':∀ i j,(K1.noSlot c).S i j=if i=c then (if j=0\/j=19 then 0 else -1) else K1.S i j:=λ_ _=>rfl
 have B':∀ i j,(K1.noSlot c).B i j=if i=c then false else K1.B i j:=λ_ _=>rfl
 have pg:∀ i p,p<4->(K1.noSlot c).page i p=if i=c then -1 else K1.page i p:=λi p hp=>by
  show (K1.noSlot c).S i (3+p*2)=_;rw [S',if_neg (show ¬ (3+p*2=0\/3+p*2=19) by omega)];rfl
 have fl:∀ i x,x<4->(K1.noSlot c).file i x=if i=c then -1 else K1.file i x:=λi x hx=>by
  show (K1.noSlot c).S i (11+x*2)=_;rw [S',if_neg (show ¬ (11+x*2=0\/11+x*2=19) by omega)];rfl
 have fl':∀ i x,i<K1.nS->x<4->(K1.noSlot c).file i x=K1.file i x:=λi x _ hx=>by
  rw [fl i x hx];split
  ·rename_i e;rw [e,hf x hx]
  ·rfl
 have G:Good (K1.noSlot c):=by
  refine ⟨λi p hi hp=>?_,λi p hi hp hw=>?_,λi x hi hx=>?_,I1.good.duct,I1.good.head,I1.good.cnt,I1.good.rd,I1.good.wt,λi hi h=>?_⟩
  ·rw [pg i p hp];split
   ·exact Or.inl rfl
   ·exact I1.good.page i p hi hp
  ·have hw':(if i=c then false else K1.B i (4+p*2))=true:=hw;rw [pg i p hp]
   by_cases e:i=c
   ·rw [if_pos e] at hw';cases hw'
   ·rw [if_neg e] at hw';rw [if_neg e];exact I1.good.wr i p hi hp hw'
  ·rw [fl' i x hi hx];exact I1.good.file i x hi hx
  ·rw [S'] at h
   by_cases e:i=c
   ·rw [if_pos e] at h;simp at h
   ·rw [if_neg e] at h;rw [S',if_neg e];exact I1.good.tab i hi h
 have E:∀ d b,(K1.noSlot c).ends d b=K1.ends d b:=λd b=>by
  unfold Ker.ends;show K9 ((K1.noSlot c).isEnd d b) (K1.nS*4)=_;refine Y7 _ λj hj=>?_;unfold Ker.isEnd;have hi:j / 4<K1.nS:=by omega
  have hx:j % 4<4:=by omega
  by_cases e:j / 4=c
  ·rw [fl' _ _ hi hx,e,hf _ hx];have:((-1:Int) == (d:Int))=false:=by rw [beq_eq_false_iff_ne];omega
   rw [this];rfl
  ·rw [fl' _ _ hi hx,show (K1.noSlot c).end (j / 4) (j % 4)=K1.end (j / 4) (j % 4) from by show (if j / 4=c then false else K1.B (j / 4) _)=_;rw [if_neg e];rfl]
 exact ⟨G,I1.hS,λd hd=>by rw [E];exact I1.rds d hd,λd hd=>by rw [E];exact I1.wts d hd⟩
theorem b8Q (nF nS nD:Nat)(hF:2<=nF)(hS:nS<=6):Inv (D7 nF nS nD):=by
 have G:=a9u nF nS nD hF;have nf:∀ d:Nat,∀ i x,i<(D7 nF nS nD).nS->x<4->(D7 nF nS nD).file i x≠d:=λd i x hi hx=>by
  have e':¬ (i=0/\11+x*2=0):=by omega
  have e'':¬ (i=0/\11+x*2=2):=by omega
  have e3:¬ (11+x*2=0\/11+x*2=19):=by omega
  simp only [Ker.file,D7,W5,Ker.become,Ker.setS,Ker.setF,f8 _ _ _ _ _ _ e',f8 _ _ _ _ _ _ e'',if_neg e3];omega
 exact ⟨G,hS,λd hd=>by rw [a2K d false (nf d)];rfl,λd hd=>by rw [a2K d true (nf d)];rfl⟩
theorem n8 {K:Ker}{t a:Int}(h:y9 K t a=true)(ht:t≠0):∃ n:Nat,a=n/\(n:Int)<q9 K t:=by
 unfold y9 at h;simp [ht] at h;exact ⟨a.toNat,by omega,by omega⟩
theorem b2F (K:Ker):q9 K 1=K.nF:=rfl
theorem b2G (K:Ker):q9 K 2=K.nS:=rfl
theorem b2H (K:Ker):q9 K 3=K.nD:=rfl
theorem b2I (K:Ker):q9 K 4=4:=rfl
theorem b2J (K:Ker):q9 K 5=4:=rfl
theorem b2K (K:Ker):q9 K 6=4:=rfl
theorem c0x {K:Ker}(I:Inv K)(s n:Nat)(a b c:Int)(hs:s<K.nS)(hr:K.S s 0≠0)(hn:n<20)
  (hf:y9 K ((i9 n).getD 0 0) a=true/\y9 K ((i9 n).getD 1 0) b=true/\y9 K ((i9 n).getD 2 0) c=true):Inv (kDo K s n a b c).K:=by
 obtain ⟨f0,f1,f2⟩:=hf;have m1:=b2F K;have m2:=b2G K;have m3:=b2H K;have m4:=b2I K;have m5:=b2J K;have m6:=b2K K;obtain rfl|rfl|rfl|rfl|rfl|rfl|rfl|rfl|rfl|rfl|rfl|rfl|rfl|rfl|rfl|rfl|rfl|rfl|rfl|rfl:n=0\/n=1\/n=2\/n=3\/n=4\/n=5\/n=6\/n=7\/n=8\/n=9\/n=10\/n=11\/n=12\/n=13\/n=14\/n=15\/n=16\/n=17\/n=18\/n=19:=by omega
 ·exact I
 ·exact I
 ·obtain ⟨a',rfl,ha⟩:=n8 (t:=4) f0 (by decide);obtain ⟨b',rfl,hb⟩:=n8 (t:=1) f1 (by decide);exact b8O I (by omega) (by omega)
 ·obtain ⟨a',rfl,ha⟩:=n8 (t:=4) f0 (by decide);exact b3r I (by omega)
 ·obtain ⟨a',rfl,ha⟩:=n8 (t:=4) f0 (by decide);exact a9P I b (by omega)
 ·obtain ⟨a',rfl,ha⟩:=n8 (t:=2) f0 (by decide);obtain ⟨b',rfl,hb⟩:=n8 (t:=1) f1 (by decide);exact b3v I (by omega)
 ·obtain ⟨a',rfl,ha⟩:=n8 (t:=2) f0 (by decide);obtain ⟨b',rfl,hb⟩:=n8 (t:=4) f1 (by decide);obtain ⟨c',rfl,hc⟩:=n8 (t:=1) f2 (by decide);exact b6c I (by omega) (by omega)
 ·obtain ⟨a',rfl,ha⟩:=n8 (t:=2) f0 (by decide);obtain ⟨b',rfl,hb⟩:=n8 (t:=5) f1 (by decide);obtain ⟨c',rfl,hc⟩:=n8 (t:=5) f2 (by decide);exact b6b I hs (by omega) (by omega) (by omega)
 ·exact b3u I
 ·exact b6d I a hr
 ·obtain ⟨a',rfl,ha⟩:=n8 (t:=2) f0 (by decide);obtain ⟨b',rfl,hb⟩:=n8 (t:=4) f1 (by decide);exact b6e I (by omega)
 ·obtain ⟨a',rfl,ha⟩:=n8 (t:=2) f0 (by decide);obtain ⟨b',rfl,hb⟩:=n8 (t:=5) f1 (by decide);exact b6g I (by omega) (by omega)
 ·obtain ⟨a',rfl,ha⟩:=n8 (t:=2) f0 (by decide);exact b6h I (by omega)
 ·obtain ⟨a',rfl,ha⟩:=n8 (t:=3) f0 (by decide);obtain ⟨b',rfl,hb⟩:=n8 (t:=1) f1 (by decide);obtain ⟨c',rfl,hc⟩:=n8 (t:=5) f2 (by decide);exact b6f I hs (by omega) (by omega) (by omega)
 ·obtain ⟨a',rfl,ha⟩:=n8 (t:=5) f0 (by decide);obtain ⟨b',rfl,hb⟩:=n8 (t:=5) f1 (by decide);exact b8P I hs (by omega) (by omega)
 ·obtain ⟨a',rfl,ha⟩:=n8 (t:=5) f0 (by decide);exact b3x I hs (by omega)
 ·obtain ⟨a',rfl,ha⟩:=n8 (t:=5) f0 (by decide);exact b3t I hs (by omega)
 ·obtain ⟨a',rfl,ha⟩:=n8 (t:=5) f0 (by decide);exact b6a I hs (by omega)
 ·exact b5Z I s _ _
 ·exact b3s I s _ _ _
theorem b6i {K:Ker}(I:Inv K)(slot call a b c:Int):Inv (o8 K slot call a b c).K:=by
 unfold o8
 by_cases h1:¬ (0<=call/\call<20)\/call=0
 ·rw [if_pos h1];exact I
 rw [if_neg h1]
 by_cases h2:¬ (0<=slot/\slot<K.nS)\/K.S slot.toNat 0≠2
 ·rw [if_pos h2];exact I
 rw [if_neg h2]
 by_cases h3:y9 K ((i9 call.toNat).getD 0 0) a=false\/y9 K ((i9 call.toNat).getD 1 0) b=false\/y9 K ((i9 call.toNat).getD 2 0) c=false
 ·rw [if_pos h3];exact I
 rw [if_neg h3];have g0:y9 K ((i9 call.toNat).getD 0 0) a=true:=by cases h:y9 K ((i9 call.toNat).getD 0 0) a;exact absurd (Or.inl h) h3;rfl
 have g1:y9 K ((i9 call.toNat).getD 1 0) b=true:=by cases h:y9 K ((i9 call.toNat).getD 1 0) b;exact absurd (Or.inr (Or.inl h)) h3;rfl
 have g2:y9 K ((i9 call.toNat).getD 2 0) c=true:=by cases h:y9 K ((i9 call.toNat).getD 2 0) c;exact absurd (Or.inr (Or.inr h)) h3;rfl
 exact c0x I slot.toNat call.toNat a b c (by omega) (by omega) (by omega) ⟨g0,g1,g2⟩
end Go.Proofs.YtcgabodkegcpgaaDoor
