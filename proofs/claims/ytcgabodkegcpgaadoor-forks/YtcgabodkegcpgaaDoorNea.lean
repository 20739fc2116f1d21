/- Plain facts on the kernel's numbers: what is not there reads as nothing (Neat), and a pipe that is there has an end (Ended); every call keeps both. -/
import Derived.Test.YtcgabodkegcpgaaDoorOwn
set_option linter.unusedVariables false
set_option linter.unusedSimpArgs false
set_option maxHeartbeats 20000000
set_option maxRecDepth 100000
namespace Go.Proofs.YtcgabodkegcpgaaDoor
structure Neat (K:Ker):Prop where
 fil:∀ i x,x<4->K.file i x=-1->K.end i x=false
 non:∀ i j,i<K.nS->K.S i 0=0->0<j->j<20->¬ isB j->K.S i j=if j=19 then 0 else -1
 fre:∀ f,K.F f 0=0->K.F f 1=-1
 zer:∀ f,K.F f 0=0\/K.F f 0=1->∀ j,j<4->K.F f (2+j)=0
 duc:∀ d,d<K.nD->K.D d 0=-1->K.D d 1=0/\K.D d 2=0
section
variable {K:Ker}
theorem b3P (p:Nat):¬ isB (3+p*2):=by unfold isB;omega
theorem b3Q (x:Nat):¬ isB (11+x*2):=by unfold isB;omega
theorem Neat.page (N:Neat K){i p:Nat}(hi:i<K.nS)(h0:K.S i 0=0)(hp:p<4):K.page i p=-1:=by
 have:=N.non i (3+p*2) hi h0 (by omega) (by omega) (b3P p);rw [if_neg (by omega)] at this;exact this
theorem Neat.file (N:Neat K){i x:Nat}(hi:i<K.nS)(h0:K.S i 0=0)(hx:x<4):K.file i x=-1:=by
 have:=N.non i (11+x*2) hi h0 (by omega) (by omega) (b3Q x);rw [if_neg (by omega)] at this;exact this
theorem Neat.parent (N:Neat K){i:Nat}(hi:i<K.nS)(h0:K.S i 0=0):K.S i 1=-1:=by
 have:=N.non i 1 hi h0 (by omega) (by omega) (by unfold isB;omega);rw [if_neg (by omega)] at this;exact this
theorem Neat.table (N:Neat K){i:Nat}(hi:i<K.nS)(h0:K.S i 0=0):K.S i 2=-1:=by
 have:=N.non i 2 hi h0 (by omega) (by omega) (by unfold isB;omega);rw [if_neg (by omega)] at this;exact this
theorem Neat.code (N:Neat K){i:Nat}(hi:i<K.nS)(h0:K.S i 0=0):K.S i 19=0:=by
 have:=N.non i 19 hi h0 (by omega) (by omega) (by unfold isB;omega);rw [if_pos rfl] at this;exact this
theorem X4 (N:Neat K)(f c:Nat)(v:Int)(hc:2<=c)(h:K.F f 0≠0/\K.F f 0≠1):Neat (K.setF f c v):=by
 have e0:∀ g,(K.setF f c v).F g 0=K.F g 0:=λg=>f8 _ _ _ _ _ _ (by omega);have e1:∀ g,(K.setF f c v).F g 1=K.F g 1:=λg=>f8 _ _ _ _ _ _ (by omega);refine ⟨N.fil,N.non,λg hg=>?_,λg hg j hj=>?_,N.duc⟩
 ·rw [e0] at hg;rw [e1];exact N.fre g hg
 ·rw [e0] at hg;have:(K.setF f c v).F g (2+j)=K.F g (2+j):=f8 _ _ _ _ _ _ (by rintro ⟨rfl,_⟩;omega);rw [this];exact N.zer g hg j hj
theorem a3r (K:Ker)(i:Nat)(a b:Int)(c:Nat):(K.become i a b).F i c=if c=0 then a else if c=1 then b else if c<6 then 0 else K.F i c:=by
 unfold Ker.become Ker.setF upd
 by_cases h0:c=0
 ·subst h0;simp
 by_cases h1:c=1
 ·subst h1;simp
 by_cases h2:c<6
 ·obtain rfl|rfl|rfl|rfl:c=2\/c=3\/c=4\/c=5:=by omega
  all_goals simp
 ·have:c≠2/\c≠3/\c≠4/\c≠5:=by omega
  simp [h0,h1,h2,this]
theorem P3 (N:Neat K)(f:Nat)(a b:Int)(h:a=0->b=-1):Neat (K.become f a b):=by
 have c0:=a3r K f a b;have c1:∀ g c,g≠f->(K.become f a b).F g c=K.F g c:=λg c hg=>Ker.become_F K f a b g c hg;have e1:(K.become f a b).S=K.S:=rfl;have e2:(K.become f a b).B=K.B:=rfl;have e3:(K.become f a b).D=K.D:=rfl;have e4:(K.become f a b).nS=K.nS:=rfl;have e5:(K.become f a b).nD=K.nD:=rfl;generalize K.become f a b=K1 at *;refine ⟨λi x hx hf=>?_,λi j hi h0 hj hj' hb=>?_,λg hg=>?_,λg hg j hj=>?_,λd hd h0=>?_⟩
 ·unfold Ker.file at hf;unfold Ker.end;rw [e1] at hf;rw [e2];exact N.fil i x hx hf
 ·rw [e1] at h0 ⊢;rw [e4] at hi;exact N.non i j hi h0 hj hj' hb
 ·by_cases e:g=f
  ·subst e;rw [c0] at hg ⊢;simp at hg ⊢;exact h hg
  ·rw [c1 g _ e] at hg ⊢;exact N.fre g hg
 ·by_cases e:g=f
  ·subst e;rw [c0 (2+j)];rw [if_neg (by omega),if_neg (by omega),if_pos (by omega)]
  ·rw [c1 g _ e] at hg ⊢;exact N.zer g hg j hj
 ·rw [e3] at h0 ⊢;rw [e5] at hd;exact N.duc d hd h0
theorem a1H (N:Neat K)(s p:Nat)(f:Int)(b:Bool)(hp:p<4)(h:K.S s 0≠0\/f=-1):Neat (K.setPage s p f b):=by
 have S0:∀ i,(K.setPage s p f b).S i 0=K.S i 0:=λi=>f8 K.S s (3+p*2) f i 0 (by omega);refine ⟨λi x hx hf=>?_,λi j hi h0 hj hj' hb=>?_,N.fre,N.zer,N.duc⟩
 ·have e1:(K.setPage s p f b).file i x=K.file i x:=f8 K.S s (3+p*2) f i (11+x*2) (by omega);have e2:(K.setPage s p f b).end i x=K.end i x:=f8 K.B s (4+p*2) b i (12+x*2) (by omega);rw [e1] at hf;rw [e2];exact N.fil i x hx hf
 ·rw [S0] at h0;show upd K.S s (3+p*2) f i j=_
  by_cases e:i=s/\j=3+p*2
  ·obtain ⟨rfl,rfl⟩:=e;rw [upd_same,if_neg (by omega)];rcases h with h|h
   ·exact absurd h0 h
   ·exact h
  ·rw [f8 _ _ _ _ _ _ e];exact N.non i j hi h0 hj hj' hb
theorem a4c (N:Neat K)(s x:Nat)(d:Int)(b:Bool)(hx:x<4)(h:K.S s 0≠0\/d=-1)(hb:d=-1->b=false):Neat (K.setFile s x d b):=by
 have S0:∀ i,(K.setFile s x d b).S i 0=K.S i 0:=λi=>f8 K.S s (11+x*2) d i 0 (by omega);refine ⟨λi y hy hf=>?_,λi j hi h0 hj hj' hb=>?_,N.fre,N.zer,N.duc⟩
 ·rw [a0q K s x d b i y hy hx] at hf;rw [a1X K s x d b i y hy hx]
  by_cases e:i=s/\y=x
  ·rw [if_pos e] at hf ⊢;exact hb hf
  ·rw [if_neg e] at hf ⊢;exact N.fil i y hy hf
 ·rw [S0] at h0;show upd K.S s (11+x*2) d i j=_
  by_cases e:i=s/\j=11+x*2
  ·obtain ⟨rfl,rfl⟩:=e;rw [upd_same,if_neg (by omega)];rcases h with h|h
   ·exact absurd h0 h
   ·exact h
  ·rw [f8 _ _ _ _ _ _ e];exact N.non i j hi h0 hj hj' hb
theorem a1v (N:Neat K)(d c:Nat)(v:Int)(h:3<=c\/(c≠0/\K.D d 0≠-1)):Neat (K.setD d c v):=by
 refine ⟨N.fil,N.non,N.fre,N.zer,λe he h0=>?_⟩;have e0:(K.setD d c v).D e 0=K.D e 0:=f8 _ _ _ _ _ _ (by omega);rw [e0] at h0
 by_cases k:e=d
 ·subst k;have hc:3<=c:=by rcases h with h|⟨_,h⟩;exact h;exact absurd h0 h
  have e1:(K.setD e c v).D e 1=K.D e 1:=f8 _ _ _ _ _ _ (by omega);have e2:(K.setD e c v).D e 2=K.D e 2:=f8 _ _ _ _ _ _ (by omega);rw [e1,e2];exact N.duc e he h0
 ·have e1:(K.setD d c v).D e 1=K.D e 1:=f8 _ _ _ _ _ _ (by omega);have e2:(K.setD d c v).D e 2=K.D e 2:=f8 _ _ _ _ _ _ (by omega);rw [e1,e2];exact N.duc e he h0
theorem a6t (N:Neat K)(d:Nat)(b:Bool)(m:Int):Neat (K.count d b m):=by
 cases b
 ·exact a1v N d 3 _ (by omega)
 ·exact a1v N d 4 _ (by omega)
theorem Z7 (N:Neat K)(s x d:Nat)(b:Bool)(hx:x<4)(h:K.S s 0≠0):Neat (K.openFile s x d b) :=
 a6t (a4c N s x d b hx (Or.inl h) (by omega)) d b 1
theorem a5m (N:Neat K)(d:Nat)(f:Int):Neat (K.noDuct d f):=by
 refine ⟨N.fil,N.non,N.fre,N.zer,λe he h0=>?_⟩;rw [U7,U7];rw [U7] at h0
 by_cases k:e=d
 ·subst k;simp
 ·rw [if_neg (by omega)] at h0;rw [if_neg (by omega),if_neg (by omega)];exact N.duc e he h0
theorem b3R (N:Neat K)(s p:Nat)(b:Bool)(hp:p<4):Neat (K.setB s (4+p*2) b) :=
 ⟨λi x hx hf=>by rw [show (K.setB s (4+p*2) b).end i x=K.end i x from f8 K.B s (4+p*2) b i (12+x*2) (by omega)];exact N.fil i x hx hf,N.non,N.fre,N.zer,N.duc⟩
theorem X5 (N:Neat K)(s c:Nat)(v:Int)(hc:c=0\/c=1\/c=2\/c=19)(h:(K.setS s c v).S s 0≠0):Neat (K.setS s c v):=by
 refine ⟨λi x hx hf=>?_,λi j hi h0 hj hj' hb=>?_,N.fre,N.zer,N.duc⟩
 ·have:(K.setS s c v).file i x=K.file i x:=f8 K.S s c v i (11+x*2) (by omega);rw [this] at hf;exact N.fil i x hx hf
 ·by_cases e:i=s
  ·subst e;exact absurd h0 h
  ·have e0:(K.setS s c v).S i 0=K.S i 0:=f8 _ _ _ _ _ _ (by omega);have e1:(K.setS s c v).S i j=K.S i j:=f8 _ _ _ _ _ _ (by omega);rw [e0] at h0;rw [e1];exact N.non i j hi h0 hj hj' hb
theorem a6u (N:Neat K)(g h:Nat)(hk:K.F g 0=2):Neat (K.copyWords g h):=by
 have k:∀ (K':Ker) c v,2<=c->K'.F g 0=2->(K'.setF g c v).F g 0=2:=λK' c v hc hk'=>(f8 K'.F g c v g 0 (by omega)).trans hk';unfold Ker.copyWords;have h1:=k K 2 (K.F h 2) (by omega) hk;have n1:=X4 N g 2 (K.F h 2) (by omega) (by omega);generalize K.setF g 2 (K.F h 2)=K1 at *;have h2:=k K1 3 (K.F h 3) (by omega) h1;have n2:=X4 n1 g 3 (K.F h 3) (by omega) (by omega);generalize K1.setF g 3 (K.F h 3)=K2 at *;have h3:=k K2 4 (K.F h 4) (by omega) h2;have n3:=X4 n2 g 4 (K.F h 4) (by omega) (by omega);generalize K2.setF g 4 (K.F h 4)=K3 at *;exact X4 n3 g 5 (K.F h 5) (by omega) (by omega)
theorem b0e (N:Neat K)(c:Nat):Neat (K.noSlot c):=by
 have S':∀ i j,(K.noSlot c).S i j=if i=c then (if j=0\/j=19 then 0 else -1) else K.S i j:=λ_ _=>rfl
 have B':∀ i j,(K.noSlot c).B i j=if i=c then false else K.B i j:=λ_ _=>rfl
 refine ⟨λi x hx hf=>?_,λi j hi h0 hj hj' hb=>?_,N.fre,N.zer,N.duc⟩
 ·unfold Ker.end Ker.file at *;rw [B'];rw [S'] at hf
  by_cases e:i=c
  ·rw [if_pos e]
  ·rw [if_neg e] at hf ⊢;exact N.fil i x hx hf
 ·rw [S'] at h0 ⊢
  by_cases e:i=c
  ·rw [if_pos e]
   by_cases k:j=19
   ·rw [if_pos (by omega),if_pos k]
   ·rw [if_neg (by omega),if_neg k]
  ·rw [if_neg e] at h0 ⊢;exact N.non i j hi h0 hj hj' hb
theorem a3b (N:Neat K){s p:Nat}(hp:p<4):Neat (K.freePage s p):=by
 unfold Ker.freePage;have n1:Neat (K.become (K.page s p).toNat 0 (-1)):=P3 N _ 0 (-1) (λ_=>rfl);generalize K.become (K.page s p).toNat 0 (-1)=K1 at *;exact a1H n1 s p (-1) false hp (Or.inr rfl)
theorem b6G (N:Neat K){s p f:Nat}(hp:p<4)(hs:K.S s 0≠0):Neat (a0s K s p f).K:=by
 by_cases h0:K.page s p≠-1
 ·unfold a0s;rw [if_pos h0];exact N
 by_cases h1:K.F f 0≠0
 ·unfold a0s;rw [if_neg h0,if_pos h1];exact N
 unfold a0s;rw [if_neg h0,if_neg h1];have n1:Neat (K.become f 2 s):=P3 N f 2 s (by omega);have s1:(K.become f 2 s).S s 0≠0:=hs;show Neat ((K.become f 2 s).setPage s p f true);generalize K.become f 2 s=K1 at *;exact a1H n1 s p f true hp (Or.inl s1)
theorem b1t (N:Neat K){s p:Nat}(hp:p<4):Neat (S6 K s p).K:=by
 unfold S6;split
 ·exact N
 ·exact a3b N hp
theorem a8P (N:Neat K){s p:Nat}(v:Int)(hp:p<4):Neat (D8 K s p v).K:=by
 unfold D8;split
 ·exact N
 ·exact b3R N s p _ hp
theorem b3S (N:Neat K)(s p x:Nat):Neat (a0J K s p x).K:=by
 unfold a0J;split<;>exact N
theorem b1u (N:Neat K)(O:Own K)(G:Good K){s p x:Nat}(v:Int)(hs:s<K.nS)(hp:p<4):Neat (J4 K s p x v).K:=by
 unfold J4;split
 ·exact N
 rename_i h;have hw:=G.wr s p hs hp (by simpa using h);have hr:=G.page s p hs hp;obtain ⟨f,hf⟩:∃ f:Nat,K.page s p=f:=⟨(K.page s p).toNat,by omega⟩;have ow:K.F f 0=2:=(O.what (.page s p) ⟨hs,hp⟩ f hf).1;rw [hf,Int.toNat_natCast];exact X4 N f _ v (by omega) (by omega)
theorem b1v (N:Neat K)(O:Own K)(G:Good K){s x p j:Nat}(hs:s<K.nS)(hx:x<4):Neat (a0l K s x p j).K:=by
 unfold a0l;split
 ·exact N
 rename_i h;split
 ·exact N
 split
 ·exact N
 split
 ·exact N
 have hF:=G.file s x hs hx;obtain ⟨d,hd⟩:∃ d:Nat,K.file s x=d:=⟨(K.file s x).toNat,by omega⟩;rw [hd,Int.toNat_natCast] at hF;obtain ⟨f,hf⟩:∃ f:Nat,K.D d 0=f:=⟨(K.D d 0).toNat,by omega⟩;have ow:K.F f 0=3:=(O.what (.ring d) (show d<K.nD by omega) f hf).1;rw [hd,Int.toNat_natCast,hf,Int.toNat_natCast];exact a1v (X4 N f _ _ (by omega) (by omega)) d 2 _ (Or.inr ⟨by omega,by show K.D d 0≠-1;omega⟩)
theorem b3T (N:Neat K)(O:Own K)(G:Good K){s x p j:Nat}(hs:s<K.nS)(hx:x<4)(hp:p<4):Neat (a1S K s x p j).K:=by
 unfold a1S;split
 ·exact N
 rename_i h;split
 ·exact N
 rename_i h2;split
 ·exact N
 split
 ·exact N
 have hF:=G.file s x hs hx;obtain ⟨d,hd⟩:∃ d:Nat,K.file s x=d:=⟨(K.file s x).toNat,by omega⟩;rw [hd,Int.toNat_natCast] at hF;have hw:=G.wr s p hs hp (by simpa using h2);have hr:=G.page s p hs hp;obtain ⟨f,hf⟩:∃ f:Nat,K.page s p=f:=⟨(K.page s p).toNat,by omega⟩;have ow:K.F f 0=2:=(O.what (.page s p) ⟨hs,hp⟩ f hf).1;rw [hd,Int.toNat_natCast,hf,Int.toNat_natCast];generalize K.F (K.D d 0).toNat (2+(K.D d 1).toNat)=v;have n1:Neat (K.setF f (2+j) v):=X4 N f _ v (by omega) (by omega);have d1:(K.setF f (2+j) v).D d 0≠-1:=by show K.D d 0≠-1;omega
 have e1:(K.setF f (2+j) v).D=K.D:=rfl;rw [← e1];generalize K.setF f (2+j) v=K1 at *;have n2:Neat (K1.setD d 1 ((K1.D d 1+1) % 4)):=a1v n1 d 1 _ (Or.inr ⟨by omega,d1⟩);refine a1v n2 d 2 _ (Or.inr ⟨by omega,?_⟩);show upd K1.D d 1 _ d 0≠-1;rw [f8 _ _ _ _ _ _ (by omega)];exact d1
theorem b6H (N:Neat K){s x t:Nat}(ht:t<4)(hs:K.S s 0≠0):Neat (a2f K s x t).K:=by
 unfold a2f;split
 ·exact N
 ·exact Z7 N _ _ _ _ ht hs
theorem b3U (N:Neat K){s c x t:Nat}(ht:t<4):Neat (Q6 K s c x t).K:=by
 unfold Q6;split
 ·exact N
 rename_i h;split
 ·exact N
 have:=a2z h;exact Z7 N _ _ _ _ ht (by omega)
theorem b1w (N:Neat K){s c:Nat}:Neat (O9 K s c).K:=by
 unfold O9;split
 ·exact N
 exact X5 N c 0 2 (by omega) (by rw [show (K.setS c 0 2).S c 0=2 from upd_same _ _ _ _];omega)
theorem a3s (K:Ker)(s:Nat):∀ n,(K.orphans s n).nS=K.nS
 | 0=>rfl
 | n+1=>by
  unfold Ker.orphans;split
  ·exact a3s K s n
  ·exact a3s K s n
theorem a4d (N:Neat K)(s:Nat):∀ n,n<=K.nS->Neat (K.orphans s n)
 | 0,_=>N
 | n+1,hn=>by
  have ih:=a4d N s n (by omega);unfold Ker.orphans;split
  ·rename_i h;refine X5 ih n 1 0 (by omega) ?_;rw [show ((K.orphans s n).setS n 1 0).S n 0=(K.orphans s n).S n 0 from f8 _ _ _ _ _ _ (by omega)];intro h0;have:=ih.parent (i:=n) (by rw [a3s];omega) h0;omega
  ·exact ih
theorem b3V (N:Neat K){s:Nat}(a:Int):Neat (a0b K s a).K:=by
 unfold a0b;split
 ·exact N
 have n1:Neat (K.setS s 0 3):=X5 N s 0 3 (by omega) (by rw [show (K.setS s 0 3).S s 0=3 from upd_same _ _ _ _];omega);have k1:(K.setS s 0 3).S s 0≠0:=by rw [show (K.setS s 0 3).S s 0=3 from upd_same _ _ _ _];omega
 have z1:(K.setS s 0 3).nS=K.nS:=rfl;show Neat (((K.setS s 0 3).setS s 19 a).orphans s K.nS);generalize K.setS s 0 3=K1 at *;have n2:Neat (K1.setS s 19 a):=X5 n1 s 19 a (by omega) (by rw [show (K1.setS s 19 a).S s 0=K1.S s 0 from f8 _ _ _ _ _ _ (by omega)];exact k1);have z2:(K1.setS s 19 a).nS=K.nS:=z1;generalize K1.setS s 19 a=K2 at *;exact a4d n2 s K.nS (by omega)
theorem b3W (N:Neat K){s c p:Nat}(hp:p<4):Neat (U8 K s c p).K:=by
 unfold U8;split
 ·exact N
 split
 ·exact N
 exact a3b N hp
theorem b3X (N:Neat K){s c p f:Nat}(hp:p<4):Neat (M9 K s c p f).K:=by
 by_cases h0:K.embryo s c=false
 ·unfold M9;rw [if_pos h0];exact N
 unfold M9;rw [if_neg h0];split
 ·exact N
 split
 ·exact N
 have:=a2z h0;have n1:Neat (K.become f 2 c):=P3 N f 2 c (by omega);have k1:(K.become f 2 c).S c 0≠0:=by show K.S c 0≠0;omega
 have f1:(K.become f 2 c).F f 0=2:=(J9 K f 2 c).1;show Neat (((K.become f 2 c).setPage c p f (K.wr s p)).copyWords f (K.page s p).toNat);generalize K.become f 2 c=K1 at *;have n2:Neat (K1.setPage c p f (K.wr s p)):=a1H n1 c p f _ hp (Or.inl k1);have f2:(K1.setPage c p f (K.wr s p)).F f 0=2:=f1;generalize K1.setPage c p f (K.wr s p)=K2 at *;exact a6u n2 f _ f2
theorem b1x (N:Neat K){s c f:Nat}:Neat (J5 K s c f).K:=by
 by_cases h0:K.S c 0≠0
 ·unfold J5;rw [if_pos h0];exact N
 by_cases h1:K.F f 0≠0
 ·unfold J5;rw [if_neg h0,if_pos h1];exact N
 unfold J5;rw [if_neg h0,if_neg h1];have n1:Neat (K.become f 1 c):=P3 N f 1 c (by omega);show Neat ((((K.become f 1 c).setS c 0 1).setS c 1 s).setS c 2 f);generalize K.become f 1 c=K1 at *;have n2:Neat (K1.setS c 0 1):=X5 n1 c 0 1 (by omega) (by rw [show (K1.setS c 0 1).S c 0=1 from upd_same _ _ _ _];omega);have k2:(K1.setS c 0 1).S c 0≠0:=by rw [show (K1.setS c 0 1).S c 0=1 from upd_same _ _ _ _];omega
 generalize K1.setS c 0 1=K2 at *;have n3:Neat (K2.setS c 1 s):=X5 n2 c 1 s (by omega) (by rw [show (K2.setS c 1 s).S c 0=K2.S c 0 from f8 _ _ _ _ _ _ (by omega)];exact k2);have k3:(K2.setS c 1 s).S c 0≠0:=by rw [show (K2.setS c 1 s).S c 0=K2.S c 0 from f8 _ _ _ _ _ _ (by omega)];exact k2
 generalize K2.setS c 1 (s:Int)=K3 at *;exact X5 n3 c 2 f (by omega) (by rw [show (K3.setS c 2 f).S c 0=K3.S c 0 from f8 _ _ _ _ _ _ (by omega)];exact k3)
theorem b3Y (N:Neat K){s c:Nat}:Neat (O5 K s c).K:=by
 unfold O5;split
 ·exact N
 split
 ·exact N
 split
 ·exact N
 have n1:Neat (K.become (K.S c 2).toNat 0 (-1)):=P3 N _ 0 (-1) (λ_=>rfl);show Neat ((K.become (K.S c 2).toNat 0 (-1)).noSlot c);generalize K.become (K.S c 2).toNat 0 (-1)=K1 at *;exact b0e n1 c
theorem b3Z (N:Neat K){s n f x:Nat}(hx:x<4)(hs:K.S s 0≠0):Neat (G3 K s n f x).K:=by
 by_cases h0:K.D n 0≠-1
 ·unfold G3;rw [if_pos h0];exact N
 by_cases h1:K.F f 0≠0
 ·unfold G3;rw [if_neg h0,if_pos h1];exact N
 have n1:Neat ((K.become f 3 (-1)).noDuct n f):=a5m (P3 N f 3 (-1) (by omega)) n f;have k1:((K.become f 3 (-1)).noDuct n f).S s 0≠0:=hs;unfold G3;rw [if_neg h0,if_neg h1];generalize (K.become f 3 (-1)).noDuct n f=K1 at *;split
 ·exact N
 rename_i h;have n2:Neat (K1.openFile s x n false):=Z7 n1 s x n false hx k1;have k2:(K1.openFile s x n false).S s 0≠0:=by
  have e:(K1.openFile s x n false).S s 0=K1.S s 0:=by
   show upd K1.S s (11+x*2) n s 0=_;exact f8 _ _ _ _ _ _ (by omega)
  rw [e];exact k1
 show Neat ((K1.openFile s x n false).openFile s (x+1) n true);generalize K1.openFile s x n false=K2 at *;exact Z7 n2 s (x+1) n true (by omega) k2
theorem a2n (N:Neat K){s x:Nat}(hx:x<4):Neat (K.closeFile s x):=by
 unfold Ker.closeFile;generalize (K.file s x).toNat=d;generalize K.end s x=b;show Neat (if ((K.setFile s x (-1) false).count d b (-1)).D d 3=0/\((K.setFile s x (-1) false).count d b (-1)).D d 4=0 then (((K.setFile s x (-1) false).count d b (-1)).become (((K.setFile s x (-1) false).count d b (-1)).D d 0).toNat 0 (-1)).noDuct d (-1) else (K.setFile s x (-1) false).count d b (-1));have n1:Neat ((K.setFile s x (-1) false).count d b (-1)):=a6t (a4c N s x (-1) false hx (Or.inr rfl) (λ_=>rfl)) d b (-1);generalize (K.setFile s x (-1) false).count d b (-1)=K1 at *;split
 ·have n2:Neat (K1.become (K1.D d 0).toNat 0 (-1)):=P3 n1 _ 0 (-1) (λ_=>rfl);generalize K1.become (K1.D d 0).toNat 0 (-1)=K2 at *;exact a5m n2 d (-1)
 ·exact n1
theorem b1y (N:Neat K){s x:Nat}(hx:x<4):Neat (S7 K s x).K:=by
 unfold S7;split
 ·exact N
 ·exact a2n N hx
theorem b4a (N:Neat K){s c x:Nat}(hx:x<4):Neat (U9 K s c x).K:=by
 unfold U9;split
 ·exact N
 split
 ·exact N
 ·exact a2n N hx
end
theorem b9k {K:Ker}(N:Neat K)(O:Own K)(G:Good K)(s n:Nat)(a b c:Int)(hs:s<K.nS)(hr:K.S s 0≠0)(hn:n<20)
  (hf:y9 K ((i9 n).getD 0 0) a=true/\y9 K ((i9 n).getD 1 0) b=true/\y9 K ((i9 n).getD 2 0) c=true):Neat (kDo K s n a b c).K:=by
 obtain ⟨f0,f1,f2⟩:=hf;have m1:=b2F K;have m2:=b2G K;have m3:=b2H K;have m4:=b2I K;have m5:=b2J K;have m6:=b2K K;obtain rfl|rfl|rfl|rfl|rfl|rfl|rfl|rfl|rfl|rfl|rfl|rfl|rfl|rfl|rfl|rfl|rfl|rfl|rfl|rfl:n=0\/n=1\/n=2\/n=3\/n=4\/n=5\/n=6\/n=7\/n=8\/n=9\/n=10\/n=11\/n=12\/n=13\/n=14\/n=15\/n=16\/n=17\/n=18\/n=19:=by omega
 ·exact N
 ·exact N
 ·obtain ⟨a',rfl,ha⟩:=n8 (t:=4) f0 (by decide);exact b6G N (by omega) hr
 ·obtain ⟨a',rfl,ha⟩:=n8 (t:=4) f0 (by decide);exact b1t N (by omega)
 ·obtain ⟨a',rfl,ha⟩:=n8 (t:=4) f0 (by decide);exact a8P N b (by omega)
 ·exact b1x N
 ·obtain ⟨b',rfl,hb⟩:=n8 (t:=4) f1 (by decide);exact b3X N (by omega)
 ·obtain ⟨c',rfl,hc⟩:=n8 (t:=5) f2 (by decide);exact b3U N (by omega)
 ·exact b1w N
 ·exact b3V N a
 ·obtain ⟨b',rfl,hb⟩:=n8 (t:=4) f1 (by decide);exact b3W N (by omega)
 ·obtain ⟨b',rfl,hb⟩:=n8 (t:=5) f1 (by decide);exact b4a N (by omega)
 ·exact b3Y N
 ·obtain ⟨c',rfl,hc⟩:=n8 (t:=5) f2 (by decide);exact b3Z N (by omega) hr
 ·obtain ⟨b',rfl,hb⟩:=n8 (t:=5) f1 (by decide);exact b6H N (by omega) hr
 ·obtain ⟨a',rfl,ha⟩:=n8 (t:=5) f0 (by decide);exact b1y N (by omega)
 ·obtain ⟨a',rfl,ha⟩:=n8 (t:=5) f0 (by decide);exact b1v N O G hs (by omega)
 ·obtain ⟨a',rfl,ha⟩:=n8 (t:=5) f0 (by decide);obtain ⟨b',rfl,hb⟩:=n8 (t:=4) f1 (by decide);exact b3T N O G hs (by omega) (by omega)
 ·exact b3S N s _ _
 ·obtain ⟨a',rfl,ha⟩:=n8 (t:=4) f0 (by decide);exact b1u N O G c hs (by omega)
theorem b4b {K:Ker}(N:Neat K)(O:Own K)(G:Good K)(slot call a b c:Int):Neat (o8 K slot call a b c).K :=
 a3D K slot call a b c (λo=>Neat o.K) (λ_=>N) (λs n _ hs hk hn hf=>b9k N O G s n a b c hs (by omega) hn hf)
structure Ended (K:Ker):Prop where
 h:∀ d,d<K.nD->0<=K.D d 0->¬ (K.D d 3=0/\K.D d 4=0)
theorem Ended.same {K K':Ker}(E:Ended K)(z:K'.nD=K.nD)(h:∀ d,K'.D d 0=K.D d 0/\K'.D d 3=K.D d 3/\K'.D d 4=K.D d 4):Ended K':=⟨λd hd h0=>by
 rw [z] at hd;rw [(h d).1] at h0;rw [(h d).2.1,(h d).2.2];exact E.h d hd h0⟩
theorem Ended.D {K K':Ker}(E:Ended K)(hD:K'.D=K.D)(hn:K'.nD=K.nD):Ended K':=⟨λd hd h0=>by rw [hD] at h0 ⊢;rw [hn] at hd;exact E.h d hd h0⟩
theorem b0f {K:Ker}(n:Nat)(E:∀ d,d<K.nD->d≠n->0<=K.D d 0->¬ (K.D d 3=0/\K.D d 4=0))(b:Bool)(h3:0<=K.D n 3)(h4:0<=K.D n 4):Ended (K.count n b 1):=by
 refine ⟨λd hd h0=>?_⟩;have c:=a0X K n b 1 d;have z:=a3C K n b 1 d;have sz:=O7 K n b 1;rw [sz.2.2.1] at hd;rw [z] at h0;rw [c.1,c.2]
 by_cases e:d=n
 ·subst e;cases b
  ·rw [if_pos ⟨rfl,rfl⟩];omega
  ·rw [if_pos (show d=d/\true=true from ⟨rfl,rfl⟩)];omega
 ·rw [if_neg (by omega),if_neg (by omega)];exact E d hd e h0
theorem a0N {K:Ker}(n:Nat)(E:∀ d,d<K.nD->d≠n->0<=K.D d 0->¬ (K.D d 3=0/\K.D d 4=0))(s x:Nat)(b:Bool)(h3:0<=K.D n 3)(h4:0<=K.D n 4):Ended (K.openFile s x n b) :=
 b0f (K:=K.setFile s x n b) n E b h3 h4
theorem b1z {K:Ker}(E:Ended K){s n f x:Nat}:Ended (G3 K s n f x).K:=by
 by_cases h0:K.D n 0≠-1
 ·unfold G3;rw [if_pos h0];exact E
 by_cases h1:K.F f 0≠0
 ·unfold G3;rw [if_neg h0,if_pos h1];exact E
 have e0:(K.become f 3 (-1)).D=K.D:=rfl;have z0:(K.become f 3 (-1)).nD=K.nD:=rfl;unfold G3;rw [if_neg h0,if_neg h1];generalize K.become f 3 (-1)=K0 at *;have D1:∀ i c,(K0.noDuct n f).D i c=if i=n/\c<5 then (if c=0 then (f:Int) else 0) else K.D i c:=λi c=>by rw [U7,e0]
 have z1:(K0.noDuct n f).nD=K.nD:=z0;generalize K0.noDuct n f=K1 at *;split
 ·exact E
 have E1:∀ d,d<K1.nD->d≠n->0<=K1.D d 0->¬ (K1.D d 3=0/\K1.D d 4=0):=λd hd hne hp=>by
  rw [D1,if_neg (by omega)] at hp;rw [D1,D1,if_neg (by omega),if_neg (by omega)];exact E.h d (by omega) hp
 have q3:0<=K1.D n 3:=by rw [D1];simp
 have q4:0<=K1.D n 4:=by rw [D1];simp
 have E2:Ended (K1.openFile s x n false):=a0N n E1 s x false q3 q4;have p3:0<=(K1.openFile s x n false).D n 3:=by
  show 0<=((K1.setFile s x n false).count n false 1).D n 3;rw [(a0X _ n false 1 n).1,if_pos ⟨rfl,rfl⟩];show 0<=K1.D n 3+1;omega
 have p4:0<=(K1.openFile s x n false).D n 4:=by
  show 0<=((K1.setFile s x n false).count n false 1).D n 4;rw [(a0X _ n false 1 n).2,if_neg (by simp)];exact q4
 show Ended ((K1.openFile s x n false).openFile s (x+1) n true);generalize K1.openFile s x n false=K2 at *;exact a0N n (λd hd _ hp=>E2.h d hd hp) s (x+1) true p3 p4
theorem a1T {K:Ker}(E:Ended K){s x:Nat}:Ended (K.closeFile s x):=by
 unfold Ker.closeFile;generalize (K.file s x).toNat=d;generalize K.end s x=b;show Ended (if ((K.setFile s x (-1) false).count d b (-1)).D d 3=0/\((K.setFile s x (-1) false).count d b (-1)).D d 4=0 then (((K.setFile s x (-1) false).count d b (-1)).become (((K.setFile s x (-1) false).count d b (-1)).D d 0).toNat 0 (-1)).noDuct d (-1) else (K.setFile s x (-1) false).count d b (-1));have E1:∀ e,e<((K.setFile s x (-1) false).count d b (-1)).nD->e≠d->0<=((K.setFile s x (-1) false).count d b (-1)).D e 0->¬ (((K.setFile s x (-1) false).count d b (-1)).D e 3=0/\((K.setFile s x (-1) false).count d b (-1)).D e 4=0):=λe he hne hp=>by
  have c:=a0X (K.setFile s x (-1) false) d b (-1) e;have z:=a3C (K.setFile s x (-1) false) d b (-1) e;have sz:=O7 (K.setFile s x (-1) false) d b (-1);rw [sz.2.2.1] at he;rw [z] at hp;rw [c.1,c.2,if_neg (by omega),if_neg (by omega)];exact E.h e he hp
 generalize (K.setFile s x (-1) false).count d b (-1)=K1 at *;split
 ·have e0:(K1.become (K1.D d 0).toNat 0 (-1)).D=K1.D:=rfl;have z0:(K1.become (K1.D d 0).toNat 0 (-1)).nD=K1.nD:=rfl;generalize K1.become (K1.D d 0).toNat 0 (-1)=K0 at *;have D2:∀ i c,(K0.noDuct d (-1)).D i c=if i=d/\c<5 then (if c=0 then (-1:Int) else 0) else K1.D i c:=λi c=>by rw [U7,e0]
  have z2:(K0.noDuct d (-1)).nD=K1.nD:=z0;generalize K0.noDuct d (-1)=K2 at *;refine ⟨λe he hp=>?_⟩;rw [D2] at hp
  by_cases k:e=d
  ·subst k;simp at hp
  ·rw [if_neg (by omega)] at hp;rw [D2,D2,if_neg (by omega),if_neg (by omega)];exact E1 e (by omega) k hp
 ·rename_i hz;refine ⟨λe he hp=>?_⟩
  by_cases k:e=d
  ·subst k;exact hz
  ·exact E1 e he k hp
theorem a1g (K:Ker)(i c:Nat)(v:Int):(K.setF i c v).D=K.D/\(K.setF i c v).nD=K.nD:=⟨rfl,rfl⟩
theorem a1h (K:Ker)(i c:Nat)(v:Int):(K.setS i c v).D=K.D/\(K.setS i c v).nD=K.nD:=⟨rfl,rfl⟩
theorem a1i (K:Ker)(i c:Nat)(v:Bool):(K.setB i c v).D=K.D/\(K.setB i c v).nD=K.nD:=⟨rfl,rfl⟩
theorem I7 (K:Ker)(s p:Nat)(f:Int)(b:Bool):(K.setPage s p f b).D=K.D/\(K.setPage s p f b).nD=K.nD:=⟨rfl,rfl⟩
theorem N0 (K:Ker)(f:Nat)(a b:Int):(K.become f a b).D=K.D/\(K.become f a b).nD=K.nD:=⟨rfl,rfl⟩
theorem F9 (K:Ker)(g h:Nat):(K.copyWords g h).D=K.D/\(K.copyWords g h).nD=K.nD:=⟨rfl,rfl⟩
theorem Q8 (K:Ker)(c:Nat):(K.noSlot c).D=K.D/\(K.noSlot c).nD=K.nD:=⟨rfl,rfl⟩
theorem J6 (K:Ker)(s p:Nat):(K.freePage s p).D=K.D/\(K.freePage s p).nD=K.nD:=by
 unfold Ker.freePage;exact ⟨(I7 _ _ _ _ _).1.trans (N0 _ _ _ _).1,(I7 _ _ _ _ _).2.trans (N0 _ _ _ _).2⟩
theorem b6I {K:Ker}(E:Ended K)(G:Good K)(s n:Nat)(a b c:Int)(hs:s<K.nS)(hn:n<20)
  (hf:y9 K ((i9 n).getD 0 0) a=true/\y9 K ((i9 n).getD 1 0) b=true/\y9 K ((i9 n).getD 2 0) c=true):Ended (kDo K s n a b c).K:=by
 obtain ⟨f0,f1,f2⟩:=hf;have m1:=b2F K;have m2:=b2G K;have m3:=b2H K;have m4:=b2I K;have m5:=b2J K;have m6:=b2K K;have op:∀ (c' x' y' t':Nat),c'<K.nS->x'<4->K.file c' x'≠-1->Ended (K.openFile y' t' (K.file c' x').toNat (K.end c' x')):=λc' x' y' t' hc' hx' hne=>by
  have hg:=G.file c' x' hc' hx';exact a0N _ (λd hd _ hp=>E.h d hd hp) _ _ _ (G.rd _ (by omega)).1 (G.wt _ (by omega)).1
 obtain rfl|rfl|rfl|rfl|rfl|rfl|rfl|rfl|rfl|rfl|rfl|rfl|rfl|rfl|rfl|rfl|rfl|rfl|rfl|rfl:n=0\/n=1\/n=2\/n=3\/n=4\/n=5\/n=6\/n=7\/n=8\/n=9\/n=10\/n=11\/n=12\/n=13\/n=14\/n=15\/n=16\/n=17\/n=18\/n=19:=by omega
 ·exact E
 ·exact E
 ·show Ended (a0s K s a.toNat b.toNat).K;unfold a0s;split
  ·exact E
  split
  ·exact E
  ·refine E.D ?_ ?_<;>simp only [a1g,a1h,a1i,I7,N0,F9,Q8,J6]
 ·show Ended (S6 K s a.toNat).K;unfold S6;split
  ·exact E
  ·refine E.D ?_ ?_<;>simp only [a1g,a1h,a1i,I7,N0,F9,Q8,J6]
 ·show Ended (D8 K s a.toNat b).K;unfold D8;split
  ·exact E
  ·refine E.D ?_ ?_<;>simp only [a1g,a1h,a1i,I7,N0,F9,Q8,J6]
 ·show Ended (J5 K s a.toNat b.toNat).K;unfold J5;split
  ·exact E
  split
  ·exact E
  ·refine E.D ?_ ?_<;>simp only [a1g,a1h,a1i,I7,N0,F9,Q8,J6]
 ·show Ended (M9 K s a.toNat b.toNat c.toNat).K;unfold M9;split
  ·exact E
  split
  ·exact E
  split
  ·exact E
  ·refine E.D ?_ ?_<;>simp only [a1g,a1h,a1i,I7,N0,F9,Q8,J6]
 ·obtain ⟨b',rfl,hb⟩:=n8 (t:=5) f1 (by decide);show Ended (Q6 K s a.toNat (b':Int).toNat c.toNat).K;rw [Int.toNat_natCast];unfold Q6;split
  ·exact E
  split
  ·exact E
  ·exact op s b' _ _ hs (by omega) (by omega)
 ·show Ended (O9 K s a.toNat).K;unfold O9;split
  ·exact E
  ·refine E.D ?_ ?_<;>simp only [a1g,a1h,a1i,I7,N0,F9,Q8,J6]
 ·show Ended (a0b K s a).K;unfold a0b;split
  ·exact E
  ·have D':∀ (K':Ker) n,(K'.orphans s n).D=K'.D/\(K'.orphans s n).nD=K'.nD:=λK' n=>by
    induction n with
    | zero=>exact ⟨rfl,rfl⟩
    | succ n ih=>unfold Ker.orphans;split<;>exact ih
   refine E.same ?_ (λd=>?_)
   ·exact (D' _ _).2
   ·show (((K.setS s 0 3).setS s 19 a).orphans s K.nS).D d 0=_/\(((K.setS s 0 3).setS s 19 a).orphans s K.nS).D d 3=_/\(((K.setS s 0 3).setS s 19 a).orphans s K.nS).D d 4=_;rw [(D' _ _).1];exact ⟨rfl,rfl,rfl⟩
 ·show Ended (U8 K s a.toNat b.toNat).K;unfold U8;split
  ·exact E
  split
  ·exact E
  ·refine E.D ?_ ?_<;>simp only [a1g,a1h,a1i,I7,N0,F9,Q8,J6]
 ·show Ended (U9 K s a.toNat b.toNat).K;unfold U9;split
  ·exact E
  split
  ·exact E
  ·exact a1T E
 ·show Ended (O5 K s a.toNat).K;unfold O5;split
  ·exact E
  split
  ·exact E
  split
  ·exact E
  ·refine E.D ?_ ?_<;>simp only [a1g,a1h,a1i,I7,N0,F9,Q8,J6]
 ·exact b1z E
 ·obtain ⟨a',rfl,ha⟩:=n8 (t:=5) f0 (by decide);show Ended (a2f K s (a':Int).toNat b.toNat).K;rw [Int.toNat_natCast];unfold a2f;split
  ·exact E
  ·exact op s a' _ _ hs (by omega) (by omega)
 ·show Ended (S7 K s a.toNat).K;unfold S7;split
  ·exact E
  ·exact a1T E
 ·show Ended (a0l K s a.toNat b.toNat c.toNat).K;unfold a0l;split
  ·exact E
  split
  ·exact E
  split
  ·exact E
  split
  ·exact E
  ·exact E.same rfl (λd=>⟨f8 _ _ _ _ _ _ (by omega),f8 _ _ _ _ _ _ (by omega),f8 _ _ _ _ _ _ (by omega)⟩)
 ·show Ended (a1S K s a.toNat b.toNat c.toNat).K;unfold a1S;split
  ·exact E
  split
  ·exact E
  split
  ·exact E
  split
  ·exact E
  ·refine Ended.same (K:=K) E rfl (λd=>⟨?_,?_,?_⟩)
   all_goals exact (f8 _ _ _ _ _ _ (by omega)).trans (f8 _ _ _ _ _ _ (by omega))
 ·show Ended (a0J K s a.toNat b.toNat).K;unfold a0J;split
  ·exact E
  ·refine E.D ?_ ?_<;>simp only [a1g,a1h,a1i,I7,N0,F9,Q8,J6]
 ·show Ended (J4 K s a.toNat b.toNat c).K;unfold J4;split
  ·exact E
  ·refine E.D ?_ ?_<;>simp only [a1g,a1h,a1i,I7,N0,F9,Q8,J6]
theorem b1A {K:Ker}(E:Ended K)(G:Good K)(slot call a b c:Int):Ended (o8 K slot call a b c).K :=
 a3D K slot call a b c (λo=>Ended o.K) (λ_=>E) (λs n _ hs _ hn hf=>b6I E G s n a b c hs hn hf)
theorem c1P (nF nS nD i j:Nat):(D7 nF nS nD).S i j=if i=0/\j=2 then 0 else if i=0/\j=0 then 2 else if j=0\/j=19 then 0 else -1:=by
 show upd (upd (λ_ c=>if c=0\/c=19 then (0:Int) else -1) 0 0 2) 0 2 0 i j=_;unfold upd;rfl
theorem c1Q (nF nS nD i j:Nat):(D7 nF nS nD).B i j=false:=rfl
theorem b6J (nF nS nD i j:Nat):(D7 nF nS nD).D i j=if j=0 then -1 else 0:=rfl
theorem c0e (nF nS nD i j:Nat):(D7 nF nS nD).F i j=if i=0 then (if j=0 then 1 else 0) else if j=1 then -1 else 0:=by
 show ((W5 nF nS nD).become 0 1 0).F i j=_
 by_cases h:i=0
 ·subst h;rw [a3r,if_pos rfl]
  by_cases h0:j=0
  ·rw [if_pos h0,if_pos h0]
  ·rw [if_neg h0,if_neg h0]
   by_cases h1:j=1
   ·rw [if_pos h1]
   ·rw [if_neg h1];split
    ·rfl
    ·show (if j=1 then (-1:Int) else 0)=0;rw [if_neg h1]
 ·rw [Ker.become_F _ _ _ _ _ _ h,if_neg h];rfl
theorem b6K (nF nS nD:Nat):Neat (D7 nF nS nD):=by
 refine ⟨λi x hx hf=>c1Q _ _ _ _ _,λi j hi h0 hj hj' hb=>?_,λf hf=>?_,λf hf j hj=>?_,λd hd h0=>⟨b6J _ _ _ _ _,b6J _ _ _ _ _⟩⟩
 ·rw [c1P] at h0 ⊢;have hi0:i≠0:=by
   intro e;rw [if_neg (by omega),if_pos ⟨e,rfl⟩] at h0;omega
  rw [if_neg (by omega),if_neg (by omega)]
  by_cases h:j=19
  ·rw [if_pos (Or.inr h),if_pos h]
  ·rw [if_neg (by omega),if_neg h]
 ·rw [c0e] at hf ⊢
  by_cases h:f=0
  ·rw [if_pos h,if_pos rfl] at hf;omega
  ·rw [if_neg h,if_pos rfl]
 ·rw [c0e]
  by_cases h:f=0
  ·rw [if_pos h,if_neg (by omega)]
  ·rw [if_neg h,if_neg (by omega)]
theorem b4c (nF nS nD:Nat):Ended (D7 nF nS nD):=⟨λd hd h0=>by rw [b6J] at h0;simp at h0⟩
structure Invb (K:Ker):Prop extends Inv K where
 own:Own K
 neat:Neat K
 ended:Ended K
theorem a0A {K:Ker}(I:Invb K)(slot call a b c:Int):Invb (o8 K slot call a b c).K :=
 ⟨b6i I.toInv slot call a b c,b7C I.own I.good slot call a b c,b4b I.neat I.own I.good slot call a b c,b1A I.ended I.good slot call a b c⟩
theorem b0g (nF nS nD:Nat)(hF:2<=nF)(h1:1<=nS)(hS:nS<=6):Invb (D7 nF nS nD):=⟨b8Q nF nS nD hF hS,b9w nF nS nD hF h1,b6K nF nS nD,b4c nF nS nD⟩
end Go.Proofs.YtcgabodkegcpgaaDoor
