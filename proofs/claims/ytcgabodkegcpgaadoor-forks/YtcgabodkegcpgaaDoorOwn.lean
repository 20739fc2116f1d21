/- Plain facts on the kernel's numbers: each frame is used in one place at most, as what it is, by its owner; every call keeps that, and leaves the other processes that are ready as they were. -/
import Derived.Test.YtcgabodkegcpgaaDoorInv3
set_option linter.unusedVariables false
set_option linter.unusedSimpArgs false
set_option maxHeartbeats 20000000
set_option maxRecDepth 100000
namespace Go.Proofs.YtcgabodkegcpgaaDoor
inductive Place where
 | tab (i:Nat)
 | page (i p:Nat)
 | ring (d:Nat)
def Place.kind:Place->Int
 | .tab _=>1
 | .page _ _=>2
 | .ring _=>3
def Place.owner:Place->Int
 | .tab i=>i
 | .page i _=>i
 | .ring _=>-1
def Ker.has (K:Ker):Place->Prop
 | .tab i=>i<K.nS
 | .page i p=>i<K.nS/\p<4
 | .ring d=>d<K.nD
def Ker.loc (K:Ker):Place->Int
 | .tab i=>if K.S i 0=0 then -1 else K.S i 2
 | .page i p=>K.page i p
 | .ring d=>K.D d 0
structure Own (K:Ker):Prop where
 rng:∀ x,K.has x->K.loc x=-1\/(0<=K.loc x/\K.loc x<K.nF)
 what:∀ x,K.has x->∀ n:Nat,K.loc x=n->K.F n 0=x.kind/\K.F n 1=x.owner
 one:∀ x y,K.has x->K.has y->∀ n:Nat,K.loc x=n->K.loc y=n->x=y
 all:∀ n,n<K.nF->K.F n 0≠0->∃ x,K.has x/\K.loc x=n
theorem Place.kind_ne (x:Place):x.kind≠0:=by cases x<;>simp [Place.kind]
structure SameSize (K K':Ker):Prop where
 f:K'.nF=K.nF
 s:K'.nS=K.nS
 d:K'.nD=K.nD
theorem SameSize.has {K K':Ker}(h:SameSize K K')(x:Place):K'.has x↔K.has x:=by
 cases x<;>simp only [Ker.has,h.s,h.d]
theorem SameSize.refl (K:Ker):SameSize K K:=⟨rfl,rfl,rfl⟩
theorem SameSize.trans {K K' K'':Ker}(h:SameSize K K')(k:SameSize K' K''):SameSize K K'':=⟨k.f.trans h.f,k.s.trans h.s,k.d.trans h.d⟩
theorem Own.same {K K':Ker}(O:Own K)(z:SameSize K K')(hl:∀ y,K.has y->K'.loc y=K.loc y)(hF:∀ n,K'.F n 0=K.F n 0/\K'.F n 1=K.F n 1):Own K':=by
 refine ⟨λx hx=>?_,λx hx n hn=>?_,λx y hx hy n hn hm=>?_,λn hn h0=>?_⟩
 ·have hx:=(z.has x).1 hx;rw [hl x hx,z.f];exact O.rng x hx
 ·have hx:=(z.has x).1 hx;rw [hl x hx] at hn;rw [(hF n).1,(hF n).2];exact O.what x hx n hn
 ·have hx:=(z.has x).1 hx;have hy:=(z.has y).1 hy;rw [hl x hx] at hn;rw [hl y hy] at hm;exact O.one x y hx hy n hn hm
 ·rw [z.f] at hn;rw [(hF n).1] at h0;obtain ⟨x,hx,e⟩:=O.all n hn h0;exact ⟨x,(z.has x).2 hx,by rw [hl x hx];exact e⟩
theorem Own.take {K K':Ker}(O:Own K)(z:SameSize K K')(x:Place)(hx:K.has x)(f:Nat)(hf:f<K.nF)(h0:K.F f 0=0)(hn1:K.loc x=-1)
  (hlx:K'.loc x=f)(hl:∀ y,K.has y->y≠x->K'.loc y=K.loc y)(hf0:K'.F f 0=x.kind/\K'.F f 1=x.owner)(hF:∀ n,n≠f->K'.F n 0=K.F n 0/\K'.F n 1=K.F n 1):Own K':=by
 have nf:∀ y,K.has y->K.loc y≠f:=λy hy e=>Place.kind_ne y ((O.what y hy f e).1.symm.trans h0);refine ⟨λy hy=>?_,λy hy n hn=>?_,λy y' hy hy' n hn hm=>?_,λn hn h0'=>?_⟩
 ·have hy:=(z.has y).1 hy
  by_cases e:y=x
  ·subst e;rw [hlx,z.f];omega
  ·rw [hl y hy e,z.f];exact O.rng y hy
 ·have hy:=(z.has y).1 hy
  by_cases e:y=x
  ·subst e;rw [hlx] at hn;have:n=f:=by omega
   subst this;exact hf0
  ·rw [hl y hy e] at hn;have:n≠f:=by rintro rfl;exact nf y hy hn
   rw [(hF n this).1,(hF n this).2];exact O.what y hy n hn
 ·have hy:=(z.has y).1 hy;have hy':=(z.has y').1 hy'
  by_cases e:y=x
  ·by_cases e':y'=x
   ·rw [e,e']
   ·exfalso;subst e;rw [hlx] at hn;rw [hl y' hy' e'] at hm;exact nf y' hy' (by omega)
  ·by_cases e':y'=x
   ·exfalso;subst e';rw [hlx] at hm;rw [hl y hy e] at hn;exact nf y hy (by omega)
   ·rw [hl y hy e] at hn;rw [hl y' hy' e'] at hm;exact O.one y y' hy hy' n hn hm
 ·rw [z.f] at hn
  by_cases e:n=f
  ·subst e;exact ⟨x,(z.has x).2 hx,hlx⟩
  ·rw [(hF n e).1] at h0';obtain ⟨y,hy,ey⟩:=O.all n hn h0';refine ⟨y,(z.has y).2 hy,?_⟩;rw [hl y hy];exact ey;rintro rfl;omega
theorem Own.free {K K':Ker}(O:Own K)(z:SameSize K K')(x:Place)(hx:K.has x)(f:Nat)(hxf:K.loc x=f)
  (hlx:K'.loc x=-1)(hl:∀ y,K.has y->y≠x->K'.loc y=K.loc y)(hf0:K'.F f 0=0)(hF:∀ n,n≠f->K'.F n 0=K.F n 0/\K'.F n 1=K.F n 1):Own K':=by
 have nf:∀ y,K.has y->y≠x->K.loc y≠f:=λy hy hne e=>hne (O.one y x hy hx f e hxf);refine ⟨λy hy=>?_,λy hy n hn=>?_,λy y' hy hy' n hn hm=>?_,λn hn h0'=>?_⟩
 ·have hy:=(z.has y).1 hy
  by_cases e:y=x
  ·subst e;rw [hlx];exact Or.inl rfl
  ·rw [hl y hy e,z.f];exact O.rng y hy
 ·have hy:=(z.has y).1 hy
  by_cases e:y=x
  ·subst e;rw [hlx] at hn;omega
  ·rw [hl y hy e] at hn;have:n≠f:=by rintro rfl;exact nf y hy e hn
   rw [(hF n this).1,(hF n this).2];exact O.what y hy n hn
 ·have hy:=(z.has y).1 hy;have hy':=(z.has y').1 hy'
  by_cases e:y=x
  ·subst e;rw [hlx] at hn;omega
  ·by_cases e':y'=x
   ·subst e';rw [hlx] at hm;omega
   ·rw [hl y hy e] at hn;rw [hl y' hy' e'] at hm;exact O.one y y' hy hy' n hn hm
 ·rw [z.f] at hn
  by_cases e:n=f
  ·subst e;exact absurd hf0 h0'
  ·rw [(hF n e).1] at h0';obtain ⟨y,hy,ey⟩:=O.all n hn h0';refine ⟨y,(z.has y).2 hy,?_⟩;rw [hl y hy];exact ey;rintro rfl;omega
theorem a5o (K:Ker)(s p:Nat)(f:Int)(b:Bool):(K.setPage s p f b).loc (.page s p)=f:=upd_same K.S s (3+p*2) f
theorem a2y (K:Ker)(s p:Nat)(f:Int)(b:Bool)(y:Place)(h:y≠.page s p):(K.setPage s p f b).loc y=K.loc y:=by
 cases y with
 | tab i =>
  show (if upd K.S s (3+p*2) f i 0=0 then -1 else upd K.S s (3+p*2) f i 2)=if K.S i 0=0 then -1 else K.S i 2
  rw [f8 _ _ _ _ _ _ (by omega),f8 _ _ _ _ _ _ (by omega)]
 | page i q =>
  show upd K.S s (3+p*2) f i (3+q*2)=K.S i (3+q*2);refine f8 _ _ _ _ _ _ ?_;rintro ⟨rfl,e⟩;exact h (by rw [show q=p by omega])
 | ring d=>rfl
theorem a5p (K:Ker)(s x:Nat)(d:Int)(b:Bool)(y:Place)(hy:K.has y):(K.setFile s x d b).loc y=K.loc y:=by
 cases y with
 | tab i =>
  show (if upd K.S s (11+x*2) d i 0=0 then -1 else upd K.S s (11+x*2) d i 2)=if K.S i 0=0 then -1 else K.S i 2
  rw [f8 _ _ _ _ _ _ (by omega),f8 _ _ _ _ _ _ (by omega)]
 | page i q =>
  show upd K.S s (11+x*2) d i (3+q*2)=K.S i (3+q*2);have:q<4:=hy.2;exact f8 _ _ _ _ _ _ (by omega)
 | ring d=>rfl
theorem a6Q (K:Ker)(d c:Nat)(v:Int)(hc:c≠0)(y:Place):(K.setD d c v).loc y=K.loc y:=by
 cases y with
 | tab i=>rfl
 | page i q=>rfl
 | ring e=>exact f8 _ _ _ _ _ _ (by omega)
theorem a8n (K:Ker)(d:Nat)(b:Bool)(m:Int)(y:Place):(K.count d b m).loc y=K.loc y:=by
 cases b
 ·exact a6Q K d 3 _ (by omega) y
 ·exact a6Q K d 4 _ (by omega) y
theorem a8Y (K:Ker)(s x d:Nat)(b:Bool)(y:Place)(hy:K.has y):(K.openFile s x d b).loc y=K.loc y:=by
 unfold Ker.openFile;rw [a8n,a5p K s x d b y hy]
theorem b2e (K:Ker)(s x d:Nat)(b:Bool):(K.openFile s x d b).F=K.F:=by
 unfold Ker.openFile;rw [(O7 _ d b 1).2.2.2.2.2];rfl
theorem a7x (K:Ker)(s x d:Nat)(b:Bool):SameSize K (K.openFile s x d b):=by
 have h:=O7 (K.setFile s x d b) d b 1;exact ⟨h.1,h.2.1,h.2.2.1⟩
theorem a6R (K:Ker)(d:Nat)(f:Int):(K.noDuct d f).loc (.ring d)=f:=by
 show (K.noDuct d f).D d 0=f;rw [U7];simp
theorem a3g (K:Ker)(d:Nat)(f:Int)(y:Place)(h:y≠.ring d):(K.noDuct d f).loc y=K.loc y:=by
 cases y with
 | tab i=>rfl
 | page i q=>rfl
 | ring e =>
  show (K.noDuct d f).D e 0=K.D e 0;rw [U7,if_neg];rintro ⟨rfl,_⟩;exact h rfl
theorem J9 (K:Ker)(i:Nat)(a b:Int):(K.become i a b).F i 0=a/\(K.become i a b).F i 1=b:=by
 simp [Ker.become,Ker.setF,upd]
theorem X9 (K:Ker)(i:Nat)(a b:Int)(y:Place):(K.become i a b).loc y=K.loc y:=by cases y<;>rfl
theorem b4L (K:Ker)(i c:Nat)(v:Int)(hc:2<=c)(n:Nat):(K.setF i c v).F n 0=K.F n 0/\(K.setF i c v).F n 1=K.F n 1 :=
 ⟨f8 _ _ _ _ _ _ (by omega),f8 _ _ _ _ _ _ (by omega)⟩
theorem b7p (K:Ker)(i c:Nat)(v:Int)(y:Place):(K.setF i c v).loc y=K.loc y:=by cases y<;>rfl
theorem a0S {K:Ker}(O:Own K)(i c:Nat)(v:Int)(hc:2<=c):Own (K.setF i c v):=O.same ⟨rfl,rfl,rfl⟩ (λy _=>b7p K i c v y) (b4L K i c v hc)
theorem a6S {K:Ker}(O:Own K)(d c:Nat)(v:Int)(hc:c≠0):Own (K.setD d c v):=O.same ⟨rfl,rfl,rfl⟩ (λy _=>a6Q K d c v hc y) (λ_=>⟨rfl,rfl⟩)
theorem b7q (K:Ker)(i c:Nat)(v:Int)(hc:c=1\/c=19)(y:Place)(hy:K.has y):(K.setS i c v).loc y=K.loc y:=by
 cases y with
 | tab j =>
  show (if upd K.S i c v j 0=0 then -1 else upd K.S i c v j 2)=if K.S j 0=0 then -1 else K.S j 2
  rw [f8 _ _ _ _ _ _ (by omega),f8 _ _ _ _ _ _ (by omega)]
 | page j q =>
  have:q<4:=hy.2;exact f8 _ _ _ _ _ _ (by omega)
 | ring e=>rfl
theorem b0y {K:Ker}(O:Own K)(i c:Nat)(v:Int)(hc:c=1\/c=19):Own (K.setS i c v):=O.same ⟨rfl,rfl,rfl⟩ (λy hy=>b7q K i c v hc y hy) (λ_=>⟨rfl,rfl⟩)
theorem b7r (K:Ker)(i:Nat)(v:Int)(h0:K.S i 0≠0)(hv:v≠0)(y:Place)(hy:K.has y):(K.setS i 0 v).loc y=K.loc y:=by
 cases y with
 | tab j =>
  show (if upd K.S i 0 v j 0=0 then -1 else upd K.S i 0 v j 2)=if K.S j 0=0 then -1 else K.S j 2
  rw [f8 _ _ _ _ j 2 (by omega)]
  by_cases e:j=i
  ·subst e;rw [upd_same,if_neg hv,if_neg h0]
  ·rw [f8 _ _ _ _ _ _ (by omega)]
 | page j q =>
  exact f8 _ _ _ _ _ _ (by omega)
 | ring e=>rfl
theorem b0z {K:Ker}(O:Own K)(i:Nat)(v:Int)(h0:K.S i 0≠0)(hv:v≠0):Own (K.setS i 0 v):=O.same ⟨rfl,rfl,rfl⟩ (λy hy=>b7r K i v h0 hv y hy) (λ_=>⟨rfl,rfl⟩)
theorem b4M {K K1:Ker}(O:Own K){s p f:Nat}(b:Bool)(hs:s<K.nS)(hp:p<4)(hf:f<K.nF)(h0:K.F f 0=0)(h1:K.page s p=-1)(z:SameSize K K1)(hl:∀ y,K1.loc y=K.loc y)
  (hf0:K1.F f 0=2/\K1.F f 1=s)(hF:∀ n,n≠f->K1.F n 0=K.F n 0/\K1.F n 1=K.F n 1):Own (K1.setPage s p f b) :=
 O.take ⟨z.f,z.s,z.d⟩ (.page s p) ⟨hs,hp⟩ f hf h0 h1 (a5o _ s p f b) (λy _ hy=>(a2y _ s p f b y hy).trans (hl y)) hf0 hF
theorem b0A {K:Ker}(O:Own K){s p f:Nat}(b:Bool)(hs:s<K.nS)(hp:p<4)(hf:f<K.nF)(h0:K.F f 0=0)(h1:K.page s p=-1):Own ((K.become f 2 s).setPage s p f b) :=
 b4M O b hs hp hf h0 h1 ⟨rfl,rfl,rfl⟩ (X9 K f 2 s) (J9 K f 2 s) (λn hn=>⟨Ker.become_F K f 2 s n 0 hn,Ker.become_F K f 2 s n 1 hn⟩)
theorem a7y {K K1:Ker}(O:Own K){s p f:Nat}(hs:s<K.nS)(hp:p<4)(h1:K.page s p=f)(z:SameSize K K1)(hl:∀ y,K1.loc y=K.loc y)
  (hf0:K1.F f 0=0)(hF:∀ n,n≠f->K1.F n 0=K.F n 0/\K1.F n 1=K.F n 1):Own (K1.setPage s p (-1) false) :=
 O.free ⟨z.f,z.s,z.d⟩ (.page s p) ⟨hs,hp⟩ f h1 (a5o _ s p (-1) false) (λy _ hy=>(a2y _ s p (-1) false y hy).trans (hl y)) hf0 hF
theorem a4w {K:Ker}(O:Own K){s p:Nat}(hs:s<K.nS)(hp:p<4)(h1:K.page s p≠-1):Own (K.freePage s p):=by
 have hx:K.has (.page s p):=⟨hs,hp⟩;have hr:=O.rng _ hx;have hl:K.loc (.page s p)=K.page s p:=rfl;rw [hl] at hr;obtain ⟨f,hf⟩:∃ f:Nat,K.page s p=f:=⟨(K.page s p).toNat,by omega⟩;unfold Ker.freePage;rw [hf,Int.toNat_natCast];exact a7y O hs hp hf ⟨rfl,rfl,rfl⟩ (X9 K f 0 (-1)) (J9 K f 0 (-1)).1 (λn hn=>⟨Ker.become_F K f 0 (-1) n 0 hn,Ker.become_F K f 0 (-1) n 1 hn⟩)
theorem a0u {K:Ker}(O:Own K)(s x d:Nat)(b:Bool):Own (K.openFile s x d b) :=
 O.same (a7x K s x d b) (λy hy=>a8Y K s x d b y hy) (λn=>by rw [b2e];exact ⟨rfl,rfl⟩)
theorem b9u {K:Ker}(O:Own K){s p f:Nat}(hs:s<K.nS)(hp:p<4)(hf:f<K.nF):Own (a0s K s p f).K:=by
 unfold a0s;split
 ·exact O
 split
 ·exact O
 exact b0A O true hs hp hf (by omega) (by omega)
theorem b4N {K:Ker}(O:Own K){s p:Nat}(hs:s<K.nS)(hp:p<4):Own (S6 K s p).K:=by
 unfold S6;split
 ·exact O
 exact a4w O hs hp (by assumption)
theorem b0B {K:Ker}(O:Own K){s p:Nat}(v:Int):Own (D8 K s p v).K:=by
 unfold D8;split
 ·exact O
 exact O.same ⟨rfl,rfl,rfl⟩ (λy _=>by cases y<;>rfl) (λ_=>⟨rfl,rfl⟩)
theorem b4O {K:Ker}(O:Own K)(s p x:Nat)(v:Int):Own (J4 K s p x v).K:=by
 unfold J4;split
 ·exact O
 ·exact a0S O _ _ _ (by omega)
theorem b7s {K:Ker}(O:Own K)(s p x:Nat):Own (a0J K s p x).K:=by
 unfold a0J;split<;>exact O
theorem b4P {K:Ker}(O:Own K)(s x p j:Nat):Own (a0l K s x p j).K:=by
 unfold a0l;split
 ·exact O
 split
 ·exact O
 split
 ·exact O
 split
 ·exact O
 exact a6S (a0S O _ _ _ (by omega)) _ 2 _ (by omega)
theorem b7t {K:Ker}(O:Own K)(s x p j:Nat):Own (a1S K s x p j).K:=by
 unfold a1S;split
 ·exact O
 split
 ·exact O
 split
 ·exact O
 split
 ·exact O
 exact a6S (a6S (a0S O _ _ _ (by omega)) _ 1 _ (by omega)) _ 2 _ (by omega)
theorem b9v {K:Ker}(O:Own K)(s x t:Nat):Own (a2f K s x t).K:=by
 unfold a2f;split
 ·exact O
 exact a0u O _ _ _ _
theorem b7u {K:Ker}(O:Own K)(s c x t:Nat):Own (Q6 K s c x t).K:=by
 unfold Q6;split
 ·exact O
 split
 ·exact O
 exact a0u O _ _ _ _
theorem a2z {K:Ker}{s c:Nat}(h:¬ K.embryo s c=false):K.S c 1=s/\K.S c 0=1:=by
 unfold Ker.embryo at h;simpa using h
theorem b2f {K:Ker}{s c:Nat}(h:¬ K.still s c=false):K.S c 1=s/\(K.S c 0=1\/K.S c 0=3):=by
 unfold Ker.still at h;have h2:K.S c 1=s/\(¬ K.S c 0=1->K.S c 0=3):=by simpa using h
 exact ⟨h2.1,by by_cases e:K.S c 0=1;exact Or.inl e;exact Or.inr (h2.2 e)⟩
theorem b4Q {K:Ker}(O:Own K)(s c:Nat):Own (O9 K s c).K:=by
 unfold O9;split
 ·exact O
 rename_i h;have:=a2z h;exact b0z O c 2 (by omega) (by omega)
theorem a2A {K:Ker}(O:Own K)(s:Nat):∀ n,Own (K.orphans s n)
 | 0=>O
 | n+1=>by
  unfold Ker.orphans;split
  ·exact b0y (a2A O s n) n 1 0 (by omega)
  ·exact a2A O s n
theorem b7v {K:Ker}(O:Own K){s:Nat}(a:Int)(h:K.S s 0≠0):Own (a0b K s a).K:=by
 unfold a0b;split
 ·exact O
 exact a2A (b0y (b0z O s 3 h (by omega)) s 19 a (by omega)) s K.nS
theorem b7w {K:Ker}(O:Own K){s c p:Nat}(hc:c<K.nS)(hp:p<4):Own (U8 K s c p).K:=by
 unfold U8;split
 ·exact O
 split
 ·exact O
 exact a4w O hc hp (by assumption)
theorem a7z {K:Ker}(O:Own K)(g h:Nat):Own (K.copyWords g h):=a0S (a0S (a0S (a0S O _ _ _ (by omega)) _ _ _ (by omega)) _ _ _ (by omega)) _ _ _ (by omega)
theorem b7x {K:Ker}(O:Own K){s c p f:Nat}(hc:c<K.nS)(hp:p<4)(hf:f<K.nF):Own (M9 K s c p f).K:=by
 unfold M9;split
 ·exact O
 split
 ·exact O
 split
 ·exact O
 exact a7z (b0A O _ hc hp hf (by omega) (by omega)) f _
theorem b2g {K K1:Ker}(O:Own K){s c f:Nat}(hc:c<K.nS)(hf:f<K.nF)(hk:K.S c 0=0)(h0:K.F f 0=0)(z:SameSize K K1)(hl:∀ y,K1.loc y=K.loc y)
  (hf0:K1.F f 0=1/\K1.F f 1=c)(hF:∀ n,n≠f->K1.F n 0=K.F n 0/\K1.F n 1=K.F n 1):Own (((K1.setS c 0 1).setS c 1 s).setS c 2 f):=by
 have S':∀ i j,(((K1.setS c 0 1).setS c 1 s).setS c 2 f).S i j=if i=c/\j=2 then (f:Int) else if i=c/\j=1 then (s:Int) else if i=c/\j=0 then 1 else K1.S i j:=λ_ _=>rfl
 have F':(((K1.setS c 0 1).setS c 1 s).setS c 2 f).F=K1.F:=rfl;have D':(((K1.setS c 0 1).setS c 1 s).setS c 2 f).D=K1.D:=rfl;have z':SameSize K (((K1.setS c 0 1).setS c 1 s).setS c 2 f):=⟨z.f,z.s,z.d⟩;generalize ((K1.setS c 0 1).setS c 1 s).setS c 2 f=K2 at *;refine O.take z' (.tab c) hc f hf h0 (by show (if K.S c 0=0 then (-1:Int) else _)=-1;rw [if_pos hk]) ?_ ?_ (by rw [F'];exact hf0) (by rw [F'];exact hF)
 ·show (if K2.S c 0=0 then (-1:Int) else K2.S c 2)=f;rw [S',S'];simp
 ·intro y hy hne;rw [← hl y]
  cases y with
  | tab i =>
   have hi:i≠c:=by rintro rfl;exact hne rfl
   show (if K2.S i 0=0 then (-1:Int) else K2.S i 2)=if K1.S i 0=0 then -1 else K1.S i 2
   rw [S',S'];simp [hi]
  | page i q =>
   show K2.S i (3+q*2)=K1.S i (3+q*2);rw [S',if_neg (by omega),if_neg (by omega),if_neg (by omega)]
  | ring d =>
   show K2.D d 0=K1.D d 0;rw [D']
theorem b4R {K:Ker}(O:Own K){s c f:Nat}(hc:c<K.nS)(hf:f<K.nF):Own (J5 K s c f).K:=by
 unfold J5;split
 ·exact O
 split
 ·exact O
 exact b2g O hc hf (by omega) (by omega) ⟨rfl,rfl,rfl⟩ (X9 K f 1 c) (J9 K f 1 c) (λn hn=>⟨Ker.become_F K f 1 c n 0 hn,Ker.become_F K f 1 c n 1 hn⟩)
theorem b4S {K K1:Ker}(O:Own K){c f:Nat}(hc:c<K.nS)(hk:K.S c 0≠0)(ht:K.S c 2=f)(hp:∀ p,p<4->K.page c p=-1)(z:SameSize K K1)(hl:∀ y,K1.loc y=K.loc y)
  (hf0:K1.F f 0=0)(hF:∀ n,n≠f->K1.F n 0=K.F n 0/\K1.F n 1=K.F n 1):Own (K1.noSlot c):=by
 refine O.free ⟨z.f,z.s,z.d⟩ (.tab c) hc f (by show (if K.S c 0=0 then (-1:Int) else K.S c 2)=f;rw [if_neg hk,ht]) ?_ ?_ hf0 hF
 ·show (if (if c=c then (if 0=0\/0=19 then (0:Int) else -1) else K1.S c 0)=0 then (-1:Int) else _)=-1;simp
 ·intro y hy hne;rw [← hl y]
  cases y with
  | tab i =>
   have hi:i≠c:=by rintro rfl;exact hne rfl
   show (if (if i=c then (if 0=0\/0=19 then (0:Int) else -1) else K1.S i 0)=0 then (-1:Int) else (if i=c then (if 2=0\/2=19 then (0:Int) else -1) else K1.S i 2))=if K1.S i 0=0 then -1 else K1.S i 2
   rw [if_neg hi,if_neg hi]
  | page i q =>
   have hq:q<4:=hy.2;show (if i=c then (if 3+q*2=0\/3+q*2=19 then (0:Int) else -1) else K1.S i (3+q*2))=K1.loc (.page i q)
   by_cases e:i=c
   ·subst e;rw [if_pos rfl,if_neg (by omega),hl];exact (hp q hq).symm
   ·rw [if_neg e];rfl
  | ring d=>rfl
theorem b7y {K:Ker}(O:Own K)(G:Good K){s c:Nat}(hc:c<K.nS):Own (O5 K s c).K:=by
 unfold O5;split
 ·exact O
 split
 ·exact O
 split
 ·exact O
 rename_i h0 h1 h2;have hk:=b2f h0;have hr:=O.rng (.tab c) hc;have e:K.loc (.tab c)=K.S c 2:=by show (if K.S c 0=0 then (-1:Int) else K.S c 2)=_;rw [if_neg (by omega)]
 rw [e] at hr;have hp:∀ p,p<4->K.page c p=-1:=λp hp=>by
  obtain rfl|rfl|rfl|rfl:p=0\/p=1\/p=2\/p=3:=by omega
  all_goals omega
 have key:∀ f:Nat,K.S c 2=f->Own ((K.become f 0 (-1)).noSlot c):=λf hf =>
  b4S O hc (by omega) hf hp ⟨rfl,rfl,rfl⟩ (X9 K f 0 (-1)) (J9 K f 0 (-1)).1 (λn hn=>⟨Ker.become_F K f 0 (-1) n 0 hn,Ker.become_F K f 0 (-1) n 1 hn⟩)
 have:=G.tab c hc (by omega);exact key (K.S c 2).toNat (by omega)
theorem b4T {K K1:Ker}(O:Own K){n f:Nat}(hn:n<K.nD)(hf:f<K.nF)(h0:K.F f 0=0)(h1:K.D n 0=-1)(z:SameSize K K1)(hl:∀ y,K1.loc y=K.loc y)
  (hf0:K1.F f 0=3/\K1.F f 1=-1)(hF:∀ n,n≠f->K1.F n 0=K.F n 0/\K1.F n 1=K.F n 1):Own (K1.noDuct n f) :=
 O.take ⟨z.f,z.s,z.d⟩ (.ring n) hn f hf h0 h1 (a6R _ n f) (λy _ hy=>(a3g _ n f y hy).trans (hl y)) hf0 hF
theorem b7z {K:Ker}(O:Own K){n f:Nat}(hn:n<K.nD)(hf:f<K.nF)(h0:K.F f 0=0)(h1:K.D n 0=-1):Own ((K.become f 3 (-1)).noDuct n f) :=
 b4T O hn hf h0 h1 ⟨rfl,rfl,rfl⟩ (X9 K f 3 (-1)) (J9 K f 3 (-1)) (λn hn=>⟨Ker.become_F K f 3 (-1) n 0 hn,Ker.become_F K f 3 (-1) n 1 hn⟩)
theorem b7A {K:Ker}(O:Own K){s n f x:Nat}(hn:n<K.nD)(hf:f<K.nF):Own (G3 K s n f x).K:=by
 by_cases h0:K.D n 0≠-1
 ·unfold G3;rw [if_pos h0];exact O
 by_cases h1:K.F f 0≠0
 ·unfold G3;rw [if_neg h0,if_pos h1];exact O
 have O1:Own ((K.become f 3 (-1)).noDuct n f):=b7z O hn hf (by omega) (by omega);unfold G3;rw [if_neg h0,if_neg h1];generalize (K.become f 3 (-1)).noDuct n f=K1 at *;split
 ·exact O
 have O2:Own (K1.openFile s x n false):=a0u O1 s x n false;show Own ((K1.openFile s x n false).openFile s (x+1) n true);generalize K1.openFile s x n false=K2 at *;exact a0u O2 s (x+1) n true
theorem b0C {K K1:Ker}(O:Own K){d f:Nat}(hd:d<K.nD)(h1:K.D d 0=f)(z:SameSize K K1)(hl:∀ y,K1.loc y=K.loc y)
  (hf0:K1.F f 0=0)(hF:∀ n,n≠f->K1.F n 0=K.F n 0/\K1.F n 1=K.F n 1):Own (K1.noDuct d (-1)) :=
 O.free ⟨z.f,z.s,z.d⟩ (.ring d) hd f h1 (a6R _ d (-1)) (λy _ hy=>(a3g _ d (-1) y hy).trans (hl y)) hf0 hF
theorem b2h {K:Ker}(O:Own K){d f:Nat}(hd:d<K.nD)(h1:K.D d 0=f):Own ((K.become f 0 (-1)).noDuct d (-1)) :=
 b0C O hd h1 ⟨rfl,rfl,rfl⟩ (X9 K f 0 (-1)) (J9 K f 0 (-1)).1 (λn hn=>⟨Ker.become_F K f 0 (-1) n 0 hn,Ker.become_F K f 0 (-1) n 1 hn⟩)
theorem a3C (K:Ker)(d:Nat)(b:Bool)(m:Int)(i:Nat):(K.count d b m).D i 0=K.D i 0:=by
 cases b<;>exact f8 _ _ _ _ _ _ (by omega)
theorem a3h {K:Ker}(O:Own K)(G:Good K){s x:Nat}(hs:s<K.nS)(hx:x<4)(hf:K.file s x≠-1):Own (K.closeFile s x):=by
 have hF:=G.file s x hs hx;obtain ⟨d,hd⟩:∃ d:Nat,K.file s x=d:=⟨(K.file s x).toNat,by omega⟩;have hdn:d<K.nD:=by omega
 rw [hd,Int.toNat_natCast] at hF;unfold Ker.closeFile;rw [hd,Int.toNat_natCast];generalize hb:K.end s x=b;show Own (if ((K.setFile s x (-1) false).count d b (-1)).D d 3=0/\((K.setFile s x (-1) false).count d b (-1)).D d 4=0 then (((K.setFile s x (-1) false).count d b (-1)).become (((K.setFile s x (-1) false).count d b (-1)).D d 0).toNat 0 (-1)).noDuct d (-1) else (K.setFile s x (-1) false).count d b (-1));have sz:=O7 (K.setFile s x (-1) false) d b (-1);have O1:Own ((K.setFile s x (-1) false).count d b (-1)):=O.same ⟨sz.1,sz.2.1,sz.2.2.1⟩ (λy hy=>(a8n _ d b (-1) y).trans (a5p K s x (-1) false y hy)) (λn=>by rw [sz.2.2.2.2.2];exact ⟨rfl,rfl⟩);have d0:((K.setFile s x (-1) false).count d b (-1)).D d 0=K.D d 0:=a3C _ d b (-1) d;have hd1:d<((K.setFile s x (-1) false).count d b (-1)).nD:=by rw [sz.2.2.1];exact hdn
 generalize (K.setFile s x (-1) false).count d b (-1)=K1 at *;split
 ·obtain ⟨f,hf'⟩:∃ f:Nat,K1.D d 0=f:=⟨(K1.D d 0).toNat,by omega⟩;rw [hf',Int.toNat_natCast];exact b2h O1 hd1 hf'
 ·exact O1
theorem b4U {K:Ker}(O:Own K)(G:Good K){s x:Nat}(hs:s<K.nS)(hx:x<4):Own (S7 K s x).K:=by
 unfold S7;split
 ·exact O
 exact a3h O G hs hx (by assumption)
theorem b7B {K:Ker}(O:Own K)(G:Good K){s c x:Nat}(hc:c<K.nS)(hx:x<4):Own (U9 K s c x).K:=by
 unfold U9;split
 ·exact O
 split
 ·exact O
 exact a3h O G hc hx (by assumption)
theorem c0P {K:Ker}(O:Own K)(G:Good K)(s n:Nat)(a b c:Int)(hs:s<K.nS)(hr:K.S s 0≠0)(hn:n<20)
  (hf:y9 K ((i9 n).getD 0 0) a=true/\y9 K ((i9 n).getD 1 0) b=true/\y9 K ((i9 n).getD 2 0) c=true):Own (kDo K s n a b c).K:=by
 obtain ⟨f0,f1,f2⟩:=hf;have m1:=b2F K;have m2:=b2G K;have m3:=b2H K;have m4:=b2I K;have m5:=b2J K;have m6:=b2K K;obtain rfl|rfl|rfl|rfl|rfl|rfl|rfl|rfl|rfl|rfl|rfl|rfl|rfl|rfl|rfl|rfl|rfl|rfl|rfl|rfl:n=0\/n=1\/n=2\/n=3\/n=4\/n=5\/n=6\/n=7\/n=8\/n=9\/n=10\/n=11\/n=12\/n=13\/n=14\/n=15\/n=16\/n=17\/n=18\/n=19:=by omega
 ·exact O
 ·exact O
 ·obtain ⟨a',rfl,ha⟩:=n8 (t:=4) f0 (by decide);obtain ⟨b',rfl,hb⟩:=n8 (t:=1) f1 (by decide);exact b9u O hs (by omega) (by omega)
 ·obtain ⟨a',rfl,ha⟩:=n8 (t:=4) f0 (by decide);exact b4N O hs (by omega)
 ·exact b0B O b
 ·obtain ⟨a',rfl,ha⟩:=n8 (t:=2) f0 (by decide);obtain ⟨b',rfl,hb⟩:=n8 (t:=1) f1 (by decide);exact b4R O (by omega) (by omega)
 ·obtain ⟨a',rfl,ha⟩:=n8 (t:=2) f0 (by decide);obtain ⟨b',rfl,hb⟩:=n8 (t:=4) f1 (by decide);obtain ⟨c',rfl,hc⟩:=n8 (t:=1) f2 (by decide);exact b7x O (by omega) (by omega) (by omega)
 ·exact b7u O _ _ _ _
 ·exact b4Q O _ _
 ·exact b7v O a hr
 ·obtain ⟨a',rfl,ha⟩:=n8 (t:=2) f0 (by decide);obtain ⟨b',rfl,hb⟩:=n8 (t:=4) f1 (by decide);exact b7w O (by omega) (by omega)
 ·obtain ⟨a',rfl,ha⟩:=n8 (t:=2) f0 (by decide);obtain ⟨b',rfl,hb⟩:=n8 (t:=5) f1 (by decide);exact b7B O G (by omega) (by omega)
 ·obtain ⟨a',rfl,ha⟩:=n8 (t:=2) f0 (by decide);exact b7y O G (by omega)
 ·obtain ⟨a',rfl,ha⟩:=n8 (t:=3) f0 (by decide);obtain ⟨b',rfl,hb⟩:=n8 (t:=1) f1 (by decide);exact b7A O (by omega) (by omega)
 ·exact b9v O _ _ _
 ·obtain ⟨a',rfl,ha⟩:=n8 (t:=5) f0 (by decide);exact b4U O G hs (by omega)
 ·exact b4P O _ _ _ _
 ·exact b7t O _ _ _ _
 ·exact b7s O s _ _
 ·exact b4O O s _ _ _
theorem a3D (K:Ker)(slot call a b c:Int)(P:Out->Prop)(hno:∀ e,P ⟨K,0,e⟩)
  (hdo:∀ s n:Nat,slot=s->s<K.nS->K.S s 0=2->n<20->y9 K ((i9 n).getD 0 0) a=true/\y9 K ((i9 n).getD 1 0) b=true/\y9 K ((i9 n).getD 2 0) c=true->P (kDo K s n a b c)):P (o8 K slot call a b c):=by
 unfold o8
 by_cases h1:¬ (0<=call/\call<20)\/call=0
 ·rw [if_pos h1];exact hno _
 rw [if_neg h1]
 by_cases h2:¬ (0<=slot/\slot<K.nS)\/K.S slot.toNat 0≠2
 ·rw [if_pos h2];exact hno _
 rw [if_neg h2]
 by_cases h3:y9 K ((i9 call.toNat).getD 0 0) a=false\/y9 K ((i9 call.toNat).getD 1 0) b=false\/y9 K ((i9 call.toNat).getD 2 0) c=false
 ·rw [if_pos h3];exact hno _
 rw [if_neg h3];have g0:y9 K ((i9 call.toNat).getD 0 0) a=true:=by cases h:y9 K ((i9 call.toNat).getD 0 0) a;exact absurd (Or.inl h) h3;rfl
 have g1:y9 K ((i9 call.toNat).getD 1 0) b=true:=by cases h:y9 K ((i9 call.toNat).getD 1 0) b;exact absurd (Or.inr (Or.inl h)) h3;rfl
 have g2:y9 K ((i9 call.toNat).getD 2 0) c=true:=by cases h:y9 K ((i9 call.toNat).getD 2 0) c;exact absurd (Or.inr (Or.inr h)) h3;rfl
 exact hdo slot.toNat call.toNat (by omega) (by omega) (by omega) (by omega) ⟨g0,g1,g2⟩
theorem b7C {K:Ker}(O:Own K)(G:Good K)(slot call a b c:Int):Own (o8 K slot call a b c).K :=
 a3D K slot call a b c (λo=>Own o.K) (λ_=>O) (λs n _ hs hk hn hf=>c0P O G s n a b c hs (by omega) hn hf)
theorem b9w (nF nS nD:Nat)(hF:2<=nF)(hS:1<=nS):Own (D7 nF nS nD):=by
 have L:∀ x,(D7 nF nS nD).has x->(D7 nF nS nD).loc x=-1\/(x=.tab 0/\(D7 nF nS nD).loc x=0):=λx hx=>by
  cases x with
  | tab i =>
   by_cases e:i=0
   ·subst e;right;refine ⟨rfl,?_⟩;simp [Ker.loc,D7,W5,Ker.become,Ker.setS,Ker.setF,upd]
   ·left;simp [Ker.loc,D7,W5,Ker.become,Ker.setS,Ker.setF,upd,e]
  | page i p =>
   left;have e':¬ (i=0/\3+p*2=0):=by omega
   have e'':¬ (i=0/\3+p*2=2):=by omega
   have hp:p<4:=hx.2;have e3:¬ (3+p*2=0\/3+p*2=19):=by omega
   simp only [Ker.loc,Ker.page,D7,W5,Ker.become,Ker.setS,Ker.setF,f8 _ _ _ _ _ _ e',f8 _ _ _ _ _ _ e'',if_neg e3]
  | ring d =>
   left;simp [Ker.loc,D7,W5,Ker.become,Ker.setS,Ker.setF]
 have F0:(D7 nF nS nD).F 0 0=1/\(D7 nF nS nD).F 0 1=0:=by simp [D7,W5,Ker.become,Ker.setS,Ker.setF,upd]
 have Fn:∀ n,n≠0->(D7 nF nS nD).F n 0=0:=λn hn=>by simp [D7,W5,Ker.become,Ker.setS,Ker.setF,upd,hn]
 refine ⟨λx hx=>?_,λx hx n hn=>?_,λx y hx hy n hn hm=>?_,λn hn h0=>?_⟩
 ·rcases L x hx with h|⟨_,h⟩
  ·exact Or.inl h
  ·right;rw [h];exact ⟨by omega,by show (0:Int)<(nF:Int);omega⟩
 ·rcases L x hx with h|⟨e,h⟩
  ·omega
  ·have:n=0:=by omega
   subst this;subst e;exact F0
 ·rcases L x hx with h|⟨e,h⟩
  ·omega
  rcases L y hy with h'|⟨e',h'⟩
  ·omega
  rw [e,e']
 ·by_cases e:n=0
  ·subst e;refine ⟨.tab 0,hS,?_⟩;rcases L (.tab 0) hS with h|⟨_,h⟩
   ·have:(D7 nF nS nD).loc (.tab 0)=0:=by simp [Ker.loc,D7,W5,Ker.become,Ker.setS,Ker.setF,upd]
    omega
   ·exact h
  ·exact absurd (Fn n e) h0
end Go.Proofs.YtcgabodkegcpgaaDoor
