/- Plain facts on the kernel's numbers: each frame is used in one place at most, as what it is, by its owner; every call keeps that, and leaves the other processes that are ready as they were. -/
import Derived.Test.YtcgabodkegcpgaaDoorInv3
set_option linter.unusedVariables false
set_option linter.unusedSimpArgs false
set_option maxHeartbeats 20000000
set_option maxRecDepth 100000
namespace Go.Proofs.YtcgabodkegcpgaaDoor
inductive Place where
 | tab (i:Nat)
 | page (i p:Nat)
 | ring (d:Nat)
def Place.kind:Place→Int
 | .tab _=>1
 | .page _ _=>2
 | .ring _=>3
def Place.owner:Place→Int
 | .tab i=>i
 | .page i _=>i
 | .ring _=>-1
def Ker.has (K:Ker):Place→Prop
 | .tab i=>i<K.nS
 | .page i p=>i<K.nS∧p<4
 | .ring d=>d<K.nD
def Ker.loc (K:Ker):Place→Int
 | .tab i=>if K.S i 0=0 then -1 else K.S i 2
 | .page i p=>K.page i p
 | .ring d=>K.D d 0
structure Own (K:Ker):Prop where
 rng:∀ x,K.has x→K.loc x=-1∨(0≤K.loc x∧K.loc x<K.nF)
 what:∀ x,K.has x→∀ n:Nat,K.loc x=n→K.F n 0=x.kind∧K.F n 1=x.owner
 one:∀ x y,K.has x→K.has y→∀ n:Nat,K.loc x=n→K.loc y=n→x=y
 all:∀ n,n<K.nF→K.F n 0≠0→∃ x,K.has x∧K.loc x=n
theorem Place.kind_ne (x:Place):x.kind≠0:=by cases x<;>simp [Place.kind]
structure SameSize (K K':Ker):Prop where
 f:K'.nF=K.nF
 s:K'.nS=K.nS
 d:K'.nD=K.nD
theorem SameSize.has {K K':Ker}(h:SameSize K K')(x:Place):K'.has x↔K.has x:=by
 cases x<;>simp only [Ker.has,h.s,h.d]
theorem SameSize.refl (K:Ker):SameSize K K:=⟨rfl,rfl,rfl⟩
theorem SameSize.trans {K K' K'':Ker}(h:SameSize K K')(k:SameSize K' K''):SameSize K K'':=⟨k.f.trans h.f,k.s.trans h.s,k.d.trans h.d⟩
theorem Own.same {K K':Ker}(O:Own K)(z:SameSize K K')(hl:∀ y,K.has y→K'.loc y=K.loc y)(hF:∀ n,K'.F n 0=K.F n 0∧K'.F n 1=K.F n 1):Own K':=by
 refine ⟨fun x hx=>?_,fun x hx n hn=>?_,fun x y hx hy n hn hm=>?_,fun n hn h0=>?_⟩
 ·have hx:=(z.has x).1 hx
  rw [hl x hx,z.f];exact O.rng x hx
 ·have hx:=(z.has x).1 hx
  rw [hl x hx] at hn
  rw [(hF n).1,(hF n).2];exact O.what x hx n hn
 ·have hx:=(z.has x).1 hx
  have hy:=(z.has y).1 hy
  rw [hl x hx] at hn;rw [hl y hy] at hm
  exact O.one x y hx hy n hn hm
 ·rw [z.f] at hn;rw [(hF n).1] at h0
  obtain ⟨x,hx,e⟩:=O.all n hn h0
  exact ⟨x,(z.has x).2 hx,by rw [hl x hx];exact e⟩
theorem Own.take {K K':Ker}(O:Own K)(z:SameSize K K')(x:Place)(hx:K.has x)(f:Nat)(hf:f<K.nF)(h0:K.F f 0=0)(hn1:K.loc x=-1)
  (hlx:K'.loc x=f)(hl:∀ y,K.has y→y≠x→K'.loc y=K.loc y)(hf0:K'.F f 0=x.kind∧K'.F f 1=x.owner)(hF:∀ n,n≠f→K'.F n 0=K.F n 0∧K'.F n 1=K.F n 1):Own K':=by
 have nf:∀ y,K.has y→K.loc y≠f:=fun y hy e=>Place.kind_ne y ((O.what y hy f e).1.symm.trans h0)
 refine ⟨fun y hy=>?_,fun y hy n hn=>?_,fun y y' hy hy' n hn hm=>?_,fun n hn h0'=>?_⟩
 ·have hy:=(z.has y).1 hy
  by_cases e:y=x
  ·subst e;rw [hlx,z.f];omega
  ·rw [hl y hy e,z.f];exact O.rng y hy
 ·have hy:=(z.has y).1 hy
  by_cases e:y=x
  ·subst e;rw [hlx] at hn
   have:n=f:=by omega
   subst this;exact hf0
  ·rw [hl y hy e] at hn
   have:n≠f:=by rintro rfl;exact nf y hy hn
   rw [(hF n this).1,(hF n this).2];exact O.what y hy n hn
 ·have hy:=(z.has y).1 hy
  have hy':=(z.has y').1 hy'
  by_cases e:y=x
  ·by_cases e':y'=x
   ·rw [e,e']
   ·exfalso
    subst e;rw [hlx] at hn;rw [hl y' hy' e'] at hm
    exact nf y' hy' (by omega)
  ·by_cases e':y'=x
   ·exfalso
    subst e';rw [hlx] at hm;rw [hl y hy e] at hn
    exact nf y hy (by omega)
   ·rw [hl y hy e] at hn;rw [hl y' hy' e'] at hm
    exact O.one y y' hy hy' n hn hm
 ·rw [z.f] at hn
  by_cases e:n=f
  ·subst e;exact ⟨x,(z.has x).2 hx,hlx⟩
  ·rw [(hF n e).1] at h0'
   obtain ⟨y,hy,ey⟩:=O.all n hn h0'
   refine ⟨y,(z.has y).2 hy,?_⟩
   rw [hl y hy];exact ey
   rintro rfl
   omega
theorem Own.free {K K':Ker}(O:Own K)(z:SameSize K K')(x:Place)(hx:K.has x)(f:Nat)(hxf:K.loc x=f)
  (hlx:K'.loc x=-1)(hl:∀ y,K.has y→y≠x→K'.loc y=K.loc y)(hf0:K'.F f 0=0)(hF:∀ n,n≠f→K'.F n 0=K.F n 0∧K'.F n 1=K.F n 1):Own K':=by
 have nf:∀ y,K.has y→y≠x→K.loc y≠f:=fun y hy hne e=>hne (O.one y x hy hx f e hxf)
 refine ⟨fun y hy=>?_,fun y hy n hn=>?_,fun y y' hy hy' n hn hm=>?_,fun n hn h0'=>?_⟩
 ·have hy:=(z.has y).1 hy
  by_cases e:y=x
  ·subst e;rw [hlx];exact Or.inl rfl
  ·rw [hl y hy e,z.f];exact O.rng y hy
 ·have hy:=(z.has y).1 hy
  by_cases e:y=x
  ·subst e;rw [hlx] at hn;omega
  ·rw [hl y hy e] at hn
   have:n≠f:=by rintro rfl;exact nf y hy e hn
   rw [(hF n this).1,(hF n this).2];exact O.what y hy n hn
 ·have hy:=(z.has y).1 hy
  have hy':=(z.has y').1 hy'
  by_cases e:y=x
  ·subst e;rw [hlx] at hn;omega
  ·by_cases e':y'=x
   ·subst e';rw [hlx] at hm;omega
   ·rw [hl y hy e] at hn;rw [hl y' hy' e'] at hm
    exact O.one y y' hy hy' n hn hm
 ·rw [z.f] at hn
  by_cases e:n=f
  ·subst e;exact absurd hf0 h0'
  ·rw [(hF n e).1] at h0'
   obtain ⟨y,hy,ey⟩:=O.all n hn h0'
   refine ⟨y,(z.has y).2 hy,?_⟩
   rw [hl y hy];exact ey
   rintro rfl
   omega
theorem loc_setPage (K:Ker)(s p:Nat)(f:Int)(b:Bool):(K.setPage s p f b).loc (.page s p)=f:=upd_same K.S s (3+p*2) f
theorem loc_setPage_ne (K:Ker)(s p:Nat)(f:Int)(b:Bool)(y:Place)(h:y≠.page s p):(K.setPage s p f b).loc y=K.loc y:=by
 cases y with
 | tab i =>
  show (if upd K.S s (3+p*2) f i 0=0 then -1 else upd K.S s (3+p*2) f i 2)=if K.S i 0=0 then -1 else K.S i 2
  rw [upd_other _ _ _ _ _ _ (by omega),upd_other _ _ _ _ _ _ (by omega)]
 | page i q =>
  show upd K.S s (3+p*2) f i (3+q*2)=K.S i (3+q*2)
  refine upd_other _ _ _ _ _ _ ?_
  rintro ⟨rfl,e⟩
  exact h (by rw [show q=p by omega])
 | ring d=>rfl
theorem loc_setFile (K:Ker)(s x:Nat)(d:Int)(b:Bool)(y:Place)(hy:K.has y):(K.setFile s x d b).loc y=K.loc y:=by
 cases y with
 | tab i =>
  show (if upd K.S s (11+x*2) d i 0=0 then -1 else upd K.S s (11+x*2) d i 2)=if K.S i 0=0 then -1 else K.S i 2
  rw [upd_other _ _ _ _ _ _ (by omega),upd_other _ _ _ _ _ _ (by omega)]
 | page i q =>
  show upd K.S s (11+x*2) d i (3+q*2)=K.S i (3+q*2)
  have:q<4:=hy.2
  exact upd_other _ _ _ _ _ _ (by omega)
 | ring d=>rfl
theorem loc_setD (K:Ker)(d c:Nat)(v:Int)(hc:c≠0)(y:Place):(K.setD d c v).loc y=K.loc y:=by
 cases y with
 | tab i=>rfl
 | page i q=>rfl
 | ring e=>exact upd_other _ _ _ _ _ _ (by omega)
theorem loc_count (K:Ker)(d:Nat)(b:Bool)(m:Int)(y:Place):(K.count d b m).loc y=K.loc y:=by
 cases b
 ·exact loc_setD K d 3 _ (by omega) y
 ·exact loc_setD K d 4 _ (by omega) y
theorem loc_openFile (K:Ker)(s x d:Nat)(b:Bool)(y:Place)(hy:K.has y):(K.openFile s x d b).loc y=K.loc y:=by
 unfold Ker.openFile
 rw [loc_count,loc_setFile K s x d b y hy]
theorem openFile_F (K:Ker)(s x d:Nat)(b:Bool):(K.openFile s x d b).F=K.F:=by
 unfold Ker.openFile;rw [(count_sizes _ d b 1).2.2.2.2.2];rfl
theorem openFile_size (K:Ker)(s x d:Nat)(b:Bool):SameSize K (K.openFile s x d b):=by
 have h:=count_sizes (K.setFile s x d b) d b 1
 exact ⟨h.1,h.2.1,h.2.2.1⟩
theorem loc_noDuct (K:Ker)(d:Nat)(f:Int):(K.noDuct d f).loc (.ring d)=f:=by
 show (K.noDuct d f).D d 0=f
 rw [noDuct_D];simp
theorem loc_noDuct_ne (K:Ker)(d:Nat)(f:Int)(y:Place)(h:y≠.ring d):(K.noDuct d f).loc y=K.loc y:=by
 cases y with
 | tab i=>rfl
 | page i q=>rfl
 | ring e =>
  show (K.noDuct d f).D e 0=K.D e 0
  rw [noDuct_D,if_neg]
  rintro ⟨rfl,_⟩;exact h rfl
theorem own_become_at (K:Ker)(i:Nat)(a b:Int):(K.become i a b).F i 0=a∧(K.become i a b).F i 1=b:=by
 simp [Ker.become,Ker.setF,upd]
theorem loc_become (K:Ker)(i:Nat)(a b:Int)(y:Place):(K.become i a b).loc y=K.loc y:=by cases y<;>rfl
theorem setF_word (K:Ker)(i c:Nat)(v:Int)(hc:2≤c)(n:Nat):(K.setF i c v).F n 0=K.F n 0∧(K.setF i c v).F n 1=K.F n 1 :=
 ⟨upd_other _ _ _ _ _ _ (by omega),upd_other _ _ _ _ _ _ (by omega)⟩
theorem loc_setF (K:Ker)(i c:Nat)(v:Int)(y:Place):(K.setF i c v).loc y=K.loc y:=by cases y<;>rfl
theorem own_setF {K:Ker}(O:Own K)(i c:Nat)(v:Int)(hc:2≤c):Own (K.setF i c v):=O.same ⟨rfl,rfl,rfl⟩ (fun y _=>loc_setF K i c v y) (setF_word K i c v hc)
theorem own_setD {K:Ker}(O:Own K)(d c:Nat)(v:Int)(hc:c≠0):Own (K.setD d c v):=O.same ⟨rfl,rfl,rfl⟩ (fun y _=>loc_setD K d c v hc y) (fun _=>⟨rfl,rfl⟩)
theorem loc_setS (K:Ker)(i c:Nat)(v:Int)(hc:c=1∨c=19)(y:Place)(hy:K.has y):(K.setS i c v).loc y=K.loc y:=by
 cases y with
 | tab j =>
  show (if upd K.S i c v j 0=0 then -1 else upd K.S i c v j 2)=if K.S j 0=0 then -1 else K.S j 2
  rw [upd_other _ _ _ _ _ _ (by omega),upd_other _ _ _ _ _ _ (by omega)]
 | page j q =>
  have:q<4:=hy.2
  exact upd_other _ _ _ _ _ _ (by omega)
 | ring e=>rfl
theorem own_setS {K:Ker}(O:Own K)(i c:Nat)(v:Int)(hc:c=1∨c=19):Own (K.setS i c v):=O.same ⟨rfl,rfl,rfl⟩ (fun y hy=>loc_setS K i c v hc y hy) (fun _=>⟨rfl,rfl⟩)
theorem loc_kind (K:Ker)(i:Nat)(v:Int)(h0:K.S i 0≠0)(hv:v≠0)(y:Place)(hy:K.has y):(K.setS i 0 v).loc y=K.loc y:=by
 cases y with
 | tab j =>
  show (if upd K.S i 0 v j 0=0 then -1 else upd K.S i 0 v j 2)=if K.S j 0=0 then -1 else K.S j 2
  rw [upd_other _ _ _ _ j 2 (by omega)]
  by_cases e:j=i
  ·subst e;rw [upd_same,if_neg hv,if_neg h0]
  ·rw [upd_other _ _ _ _ _ _ (by omega)]
 | page j q =>
  exact upd_other _ _ _ _ _ _ (by omega)
 | ring e=>rfl
theorem own_kind {K:Ker}(O:Own K)(i:Nat)(v:Int)(h0:K.S i 0≠0)(hv:v≠0):Own (K.setS i 0 v):=O.same ⟨rfl,rfl,rfl⟩ (fun y hy=>loc_kind K i v h0 hv y hy) (fun _=>⟨rfl,rfl⟩)
theorem own_page' {K K1:Ker}(O:Own K){s p f:Nat}(b:Bool)(hs:s<K.nS)(hp:p<4)(hf:f<K.nF)(h0:K.F f 0=0)(h1:K.page s p=-1)(z:SameSize K K1)(hl:∀ y,K1.loc y=K.loc y)
  (hf0:K1.F f 0=2∧K1.F f 1=s)(hF:∀ n,n≠f→K1.F n 0=K.F n 0∧K1.F n 1=K.F n 1):Own (K1.setPage s p f b) :=
 O.take ⟨z.f,z.s,z.d⟩ (.page s p) ⟨hs,hp⟩ f hf h0 h1 (loc_setPage _ s p f b) (fun y _ hy=>(loc_setPage_ne _ s p f b y hy).trans (hl y)) hf0 hF
theorem own_page {K:Ker}(O:Own K){s p f:Nat}(b:Bool)(hs:s<K.nS)(hp:p<4)(hf:f<K.nF)(h0:K.F f 0=0)(h1:K.page s p=-1):Own ((K.become f 2 s).setPage s p f b) :=
 own_page' O b hs hp hf h0 h1 ⟨rfl,rfl,rfl⟩ (loc_become K f 2 s) (own_become_at K f 2 s) (fun n hn=>⟨Ker.become_F K f 2 s n 0 hn,Ker.become_F K f 2 s n 1 hn⟩)
theorem own_freePage' {K K1:Ker}(O:Own K){s p f:Nat}(hs:s<K.nS)(hp:p<4)(h1:K.page s p=f)(z:SameSize K K1)(hl:∀ y,K1.loc y=K.loc y)
  (hf0:K1.F f 0=0)(hF:∀ n,n≠f→K1.F n 0=K.F n 0∧K1.F n 1=K.F n 1):Own (K1.setPage s p (-1) false) :=
 O.free ⟨z.f,z.s,z.d⟩ (.page s p) ⟨hs,hp⟩ f h1 (loc_setPage _ s p (-1) false) (fun y _ hy=>(loc_setPage_ne _ s p (-1) false y hy).trans (hl y)) hf0 hF
theorem own_freePage {K:Ker}(O:Own K){s p:Nat}(hs:s<K.nS)(hp:p<4)(h1:K.page s p≠-1):Own (K.freePage s p):=by
 have hx:K.has (.page s p):=⟨hs,hp⟩
 have hr:=O.rng _ hx
 have hl:K.loc (.page s p)=K.page s p:=rfl
 rw [hl] at hr
 obtain ⟨f,hf⟩:∃ f:Nat,K.page s p=f:=⟨(K.page s p).toNat,by omega⟩
 unfold Ker.freePage
 rw [hf,Int.toNat_natCast]
 exact own_freePage' O hs hp hf ⟨rfl,rfl,rfl⟩ (loc_become K f 0 (-1)) (own_become_at K f 0 (-1)).1 (fun n hn=>⟨Ker.become_F K f 0 (-1) n 0 hn,Ker.become_F K f 0 (-1) n 1 hn⟩)
theorem own_openFile {K:Ker}(O:Own K)(s x d:Nat)(b:Bool):Own (K.openFile s x d b) :=
 O.same (openFile_size K s x d b) (fun y hy=>loc_openFile K s x d b y hy) (fun n=>by rw [openFile_F];exact ⟨rfl,rfl⟩)
theorem own_map {K:Ker}(O:Own K){s p f:Nat}(hs:s<K.nS)(hp:p<4)(hf:f<K.nF):Own (kMap K s p f).K:=by
 unfold kMap
 split
 ·exact O
 split
 ·exact O
 exact own_page O true hs hp hf (by omega) (by omega)
theorem own_unmap {K:Ker}(O:Own K){s p:Nat}(hs:s<K.nS)(hp:p<4):Own (kUnmap K s p).K:=by
 unfold kUnmap
 split
 ·exact O
 exact own_freePage O hs hp (by assumption)
theorem own_protect {K:Ker}(O:Own K){s p:Nat}(v:Int):Own (kProtect K s p v).K:=by
 unfold kProtect
 split
 ·exact O
 exact O.same ⟨rfl,rfl,rfl⟩ (fun y _=>by cases y<;>rfl) (fun _=>⟨rfl,rfl⟩)
theorem own_store {K:Ker}(O:Own K)(s p x:Nat)(v:Int):Own (kStore K s p x v).K:=by
 unfold kStore;split
 ·exact O
 ·exact own_setF O _ _ _ (by omega)
theorem own_load {K:Ker}(O:Own K)(s p x:Nat):Own (kLoad K s p x).K:=by
 unfold kLoad;split<;>exact O
theorem own_write {K:Ker}(O:Own K)(s x p j:Nat):Own (kWrite K s x p j).K:=by
 unfold kWrite
 split
 ·exact O
 split
 ·exact O
 split
 ·exact O
 split
 ·exact O
 exact own_setD (own_setF O _ _ _ (by omega)) _ 2 _ (by omega)
theorem own_read {K:Ker}(O:Own K)(s x p j:Nat):Own (kRead K s x p j).K:=by
 unfold kRead
 split
 ·exact O
 split
 ·exact O
 split
 ·exact O
 split
 ·exact O
 exact own_setD (own_setD (own_setF O _ _ _ (by omega)) _ 1 _ (by omega)) _ 2 _ (by omega)
theorem own_dup {K:Ker}(O:Own K)(s x t:Nat):Own (kDup K s x t).K:=by
 unfold kDup
 split
 ·exact O
 exact own_openFile O _ _ _ _
theorem own_give {K:Ker}(O:Own K)(s c x t:Nat):Own (kGive K s c x t).K:=by
 unfold kGive
 split
 ·exact O
 split
 ·exact O
 exact own_openFile O _ _ _ _
theorem embryo_kind {K:Ker}{s c:Nat}(h:¬ K.embryo s c=false):K.S c 1=s∧K.S c 0=1:=by
 unfold Ker.embryo at h
 simpa using h
theorem still_kind {K:Ker}{s c:Nat}(h:¬ K.still s c=false):K.S c 1=s∧(K.S c 0=1∨K.S c 0=3):=by
 unfold Ker.still at h
 have h2:K.S c 1=s∧(¬ K.S c 0=1→K.S c 0=3):=by simpa using h
 exact ⟨h2.1,by by_cases e:K.S c 0=1;exact Or.inl e;exact Or.inr (h2.2 e)⟩
theorem own_start {K:Ker}(O:Own K)(s c:Nat):Own (kStart K s c).K:=by
 unfold kStart
 split
 ·exact O
 rename_i h
 have:=embryo_kind h
 exact own_kind O c 2 (by omega) (by omega)
theorem own_orphans {K:Ker}(O:Own K)(s:Nat):∀ n,Own (K.orphans s n)
 | 0=>O
 | n+1=>by
  unfold Ker.orphans
  split
  ·exact own_setS (own_orphans O s n) n 1 0 (by omega)
  ·exact own_orphans O s n
theorem own_exit {K:Ker}(O:Own K){s:Nat}(a:Int)(h:K.S s 0≠0):Own (kExit K s a).K:=by
 unfold kExit
 split
 ·exact O
 exact own_orphans (own_setS (own_kind O s 3 h (by omega)) s 19 a (by omega)) s K.nS
theorem own_drop {K:Ker}(O:Own K){s c p:Nat}(hc:c<K.nS)(hp:p<4):Own (kDrop K s c p).K:=by
 unfold kDrop
 split
 ·exact O
 split
 ·exact O
 exact own_freePage O hc hp (by assumption)
theorem own_copyWords {K:Ker}(O:Own K)(g h:Nat):Own (K.copyWords g h):=own_setF (own_setF (own_setF (own_setF O _ _ _ (by omega)) _ _ _ (by omega)) _ _ _ (by omega)) _ _ _ (by omega)
theorem own_copy {K:Ker}(O:Own K){s c p f:Nat}(hc:c<K.nS)(hp:p<4)(hf:f<K.nF):Own (kCopy K s c p f).K:=by
 unfold kCopy
 split
 ·exact O
 split
 ·exact O
 split
 ·exact O
 exact own_copyWords (own_page O _ hc hp hf (by omega) (by omega)) f _
theorem own_spawn' {K K1:Ker}(O:Own K){s c f:Nat}(hc:c<K.nS)(hf:f<K.nF)(hk:K.S c 0=0)(h0:K.F f 0=0)(z:SameSize K K1)(hl:∀ y,K1.loc y=K.loc y)
  (hf0:K1.F f 0=1∧K1.F f 1=c)(hF:∀ n,n≠f→K1.F n 0=K.F n 0∧K1.F n 1=K.F n 1):Own (((K1.setS c 0 1).setS c 1 s).setS c 2 f):=by
 have S':∀ i j,(((K1.setS c 0 1).setS c 1 s).setS c 2 f).S i j=if i=c∧j=2 then (f:Int) else if i=c∧j=1 then (s:Int) else if i=c∧j=0 then 1 else K1.S i j:=fun _ _=>rfl
 have F':(((K1.setS c 0 1).setS c 1 s).setS c 2 f).F=K1.F:=rfl
 have D':(((K1.setS c 0 1).setS c 1 s).setS c 2 f).D=K1.D:=rfl
 have z':SameSize K (((K1.setS c 0 1).setS c 1 s).setS c 2 f):=⟨z.f,z.s,z.d⟩
 generalize ((K1.setS c 0 1).setS c 1 s).setS c 2 f=K2 at *
 refine O.take z' (.tab c) hc f hf h0 (by show (if K.S c 0=0 then (-1:Int) else _)=-1;rw [if_pos hk]) ?_ ?_ (by rw [F'];exact hf0) (by rw [F'];exact hF)
 ·show (if K2.S c 0=0 then (-1:Int) else K2.S c 2)=f
  rw [S',S'];simp
 ·intro y hy hne
  rw [← hl y]
  cases y with
  | tab i =>
   have hi:i≠c:=by rintro rfl;exact hne rfl
   show (if K2.S i 0=0 then (-1:Int) else K2.S i 2)=if K1.S i 0=0 then -1 else K1.S i 2
   rw [S',S'];simp [hi]
  | page i q =>
   show K2.S i (3+q*2)=K1.S i (3+q*2)
   rw [S',if_neg (by omega),if_neg (by omega),if_neg (by omega)]
  | ring d =>
   show K2.D d 0=K1.D d 0
   rw [D']
theorem own_spawn {K:Ker}(O:Own K){s c f:Nat}(hc:c<K.nS)(hf:f<K.nF):Own (kSpawn K s c f).K:=by
 unfold kSpawn
 split
 ·exact O
 split
 ·exact O
 exact own_spawn' O hc hf (by omega) (by omega) ⟨rfl,rfl,rfl⟩ (loc_become K f 1 c) (own_become_at K f 1 c) (fun n hn=>⟨Ker.become_F K f 1 c n 0 hn,Ker.become_F K f 1 c n 1 hn⟩)
theorem own_reap' {K K1:Ker}(O:Own K){c f:Nat}(hc:c<K.nS)(hk:K.S c 0≠0)(ht:K.S c 2=f)(hp:∀ p,p<4→K.page c p=-1)(z:SameSize K K1)(hl:∀ y,K1.loc y=K.loc y)
  (hf0:K1.F f 0=0)(hF:∀ n,n≠f→K1.F n 0=K.F n 0∧K1.F n 1=K.F n 1):Own (K1.noSlot c):=by
 refine O.free ⟨z.f,z.s,z.d⟩ (.tab c) hc f (by show (if K.S c 0=0 then (-1:Int) else K.S c 2)=f;rw [if_neg hk,ht]) ?_ ?_ hf0 hF
 ·show (if (if c=c then (if 0=0∨0=19 then (0:Int) else -1) else K1.S c 0)=0 then (-1:Int) else _)=-1
  simp
 ·intro y hy hne
  rw [← hl y]
  cases y with
  | tab i =>
   have hi:i≠c:=by rintro rfl;exact hne rfl
   show (if (if i=c then (if 0=0∨0=19 then (0:Int) else -1) else K1.S i 0)=0 then (-1:Int) else (if i=c then (if 2=0∨2=19 then (0:Int) else -1) else K1.S i 2))=if K1.S i 0=0 then -1 else K1.S i 2
   rw [if_neg hi,if_neg hi]
  | page i q =>
   have hq:q<4:=hy.2
   show (if i=c then (if 3+q*2=0∨3+q*2=19 then (0:Int) else -1) else K1.S i (3+q*2))=K1.loc (.page i q)
   by_cases e:i=c
   ·subst e
    rw [if_pos rfl,if_neg (by omega),hl]
    exact (hp q hq).symm
   ·rw [if_neg e];rfl
  | ring d=>rfl
theorem own_reap {K:Ker}(O:Own K)(G:Good K){s c:Nat}(hc:c<K.nS):Own (kReap K s c).K:=by
 unfold kReap
 split
 ·exact O
 split
 ·exact O
 split
 ·exact O
 rename_i h0 h1 h2
 have hk:=still_kind h0
 have hr:=O.rng (.tab c) hc
 have e:K.loc (.tab c)=K.S c 2:=by show (if K.S c 0=0 then (-1:Int) else K.S c 2)=_;rw [if_neg (by omega)]
 rw [e] at hr
 have hp:∀ p,p<4→K.page c p=-1:=fun p hp=>by
  obtain rfl|rfl|rfl|rfl:p=0∨p=1∨p=2∨p=3:=by omega
  all_goals omega
 have key:∀ f:Nat,K.S c 2=f→Own ((K.become f 0 (-1)).noSlot c):=fun f hf =>
  own_reap' O hc (by omega) hf hp ⟨rfl,rfl,rfl⟩ (loc_become K f 0 (-1)) (own_become_at K f 0 (-1)).1 (fun n hn=>⟨Ker.become_F K f 0 (-1) n 0 hn,Ker.become_F K f 0 (-1) n 1 hn⟩)
 have:=G.tab c hc (by omega)
 exact key (K.S c 2).toNat (by omega)
theorem own_ring' {K K1:Ker}(O:Own K){n f:Nat}(hn:n<K.nD)(hf:f<K.nF)(h0:K.F f 0=0)(h1:K.D n 0=-1)(z:SameSize K K1)(hl:∀ y,K1.loc y=K.loc y)
  (hf0:K1.F f 0=3∧K1.F f 1=-1)(hF:∀ n,n≠f→K1.F n 0=K.F n 0∧K1.F n 1=K.F n 1):Own (K1.noDuct n f) :=
 O.take ⟨z.f,z.s,z.d⟩ (.ring n) hn f hf h0 h1 (loc_noDuct _ n f) (fun y _ hy=>(loc_noDuct_ne _ n f y hy).trans (hl y)) hf0 hF
theorem own_ring {K:Ker}(O:Own K){n f:Nat}(hn:n<K.nD)(hf:f<K.nF)(h0:K.F f 0=0)(h1:K.D n 0=-1):Own ((K.become f 3 (-1)).noDuct n f) :=
 own_ring' O hn hf h0 h1 ⟨rfl,rfl,rfl⟩ (loc_become K f 3 (-1)) (own_become_at K f 3 (-1)) (fun n hn=>⟨Ker.become_F K f 3 (-1) n 0 hn,Ker.become_F K f 3 (-1) n 1 hn⟩)
theorem own_pipe {K:Ker}(O:Own K){s n f x:Nat}(hn:n<K.nD)(hf:f<K.nF):Own (kPipe K s n f x).K:=by
 by_cases h0:K.D n 0≠-1
 ·unfold kPipe;rw [if_pos h0];exact O
 by_cases h1:K.F f 0≠0
 ·unfold kPipe;rw [if_neg h0,if_pos h1];exact O
 have O1:Own ((K.become f 3 (-1)).noDuct n f):=own_ring O hn hf (by omega) (by omega)
 unfold kPipe
 rw [if_neg h0,if_neg h1]
 generalize (K.become f 3 (-1)).noDuct n f=K1 at *
 split
 ·exact O
 have O2:Own (K1.openFile s x n false):=own_openFile O1 s x n false
 show Own ((K1.openFile s x n false).openFile s (x+1) n true)
 generalize K1.openFile s x n false=K2 at *
 exact own_openFile O2 s (x+1) n true
theorem own_noRing' {K K1:Ker}(O:Own K){d f:Nat}(hd:d<K.nD)(h1:K.D d 0=f)(z:SameSize K K1)(hl:∀ y,K1.loc y=K.loc y)
  (hf0:K1.F f 0=0)(hF:∀ n,n≠f→K1.F n 0=K.F n 0∧K1.F n 1=K.F n 1):Own (K1.noDuct d (-1)) :=
 O.free ⟨z.f,z.s,z.d⟩ (.ring d) hd f h1 (loc_noDuct _ d (-1)) (fun y _ hy=>(loc_noDuct_ne _ d (-1) y hy).trans (hl y)) hf0 hF
theorem own_noRing {K:Ker}(O:Own K){d f:Nat}(hd:d<K.nD)(h1:K.D d 0=f):Own ((K.become f 0 (-1)).noDuct d (-1)) :=
 own_noRing' O hd h1 ⟨rfl,rfl,rfl⟩ (loc_become K f 0 (-1)) (own_become_at K f 0 (-1)).1 (fun n hn=>⟨Ker.become_F K f 0 (-1) n 0 hn,Ker.become_F K f 0 (-1) n 1 hn⟩)
theorem count_zero (K:Ker)(d:Nat)(b:Bool)(m:Int)(i:Nat):(K.count d b m).D i 0=K.D i 0:=by
 cases b<;>exact upd_other _ _ _ _ _ _ (by omega)
theorem own_closeFile {K:Ker}(O:Own K)(G:Good K){s x:Nat}(hs:s<K.nS)(hx:x<4)(hf:K.file s x≠-1):Own (K.closeFile s x):=by
 have hF:=G.file s x hs hx
 obtain ⟨d,hd⟩:∃ d:Nat,K.file s x=d:=⟨(K.file s x).toNat,by omega⟩
 have hdn:d<K.nD:=by omega
 rw [hd,Int.toNat_natCast] at hF
 unfold Ker.closeFile
 rw [hd,Int.toNat_natCast]
 generalize hb:K.end s x=b
 show Own (if ((K.setFile s x (-1) false).count d b (-1)).D d 3=0∧((K.setFile s x (-1) false).count d b (-1)).D d 4=0 then (((K.setFile s x (-1) false).count d b (-1)).become (((K.setFile s x (-1) false).count d b (-1)).D d 0).toNat 0 (-1)).noDuct d (-1) else (K.setFile s x (-1) false).count d b (-1))
 have sz:=count_sizes (K.setFile s x (-1) false) d b (-1)
 have O1:Own ((K.setFile s x (-1) false).count d b (-1)):=O.same ⟨sz.1,sz.2.1,sz.2.2.1⟩ (fun y hy=>(loc_count _ d b (-1) y).trans (loc_setFile K s x (-1) false y hy)) (fun n=>by rw [sz.2.2.2.2.2];exact ⟨rfl,rfl⟩)
 have d0:((K.setFile s x (-1) false).count d b (-1)).D d 0=K.D d 0:=count_zero _ d b (-1) d
 have hd1:d<((K.setFile s x (-1) false).count d b (-1)).nD:=by rw [sz.2.2.1];exact hdn
 generalize (K.setFile s x (-1) false).count d b (-1)=K1 at *
 split
 ·obtain ⟨f,hf'⟩:∃ f:Nat,K1.D d 0=f:=⟨(K1.D d 0).toNat,by omega⟩
  rw [hf',Int.toNat_natCast]
  exact own_noRing O1 hd1 hf'
 ·exact O1
theorem own_close {K:Ker}(O:Own K)(G:Good K){s x:Nat}(hs:s<K.nS)(hx:x<4):Own (kClose K s x).K:=by
 unfold kClose
 split
 ·exact O
 exact own_closeFile O G hs hx (by assumption)
theorem own_shut {K:Ker}(O:Own K)(G:Good K){s c x:Nat}(hc:c<K.nS)(hx:x<4):Own (kShut K s c x).K:=by
 unfold kShut
 split
 ·exact O
 split
 ·exact O
 exact own_closeFile O G hc hx (by assumption)
theorem own_do {K:Ker}(O:Own K)(G:Good K)(s n:Nat)(a b c:Int)(hs:s<K.nS)(hr:K.S s 0≠0)(hn:n<20)
  (hf:fits K ((argKinds n).getD 0 0) a=true∧fits K ((argKinds n).getD 1 0) b=true∧fits K ((argKinds n).getD 2 0) c=true):Own (kDo K s n a b c).K:=by
 obtain ⟨f0,f1,f2⟩:=hf
 have m1:=many1 K;have m2:=many2 K;have m3:=many3 K;have m4:=many4 K;have m5:=many5 K;have m6:=many6 K
 obtain rfl|rfl|rfl|rfl|rfl|rfl|rfl|rfl|rfl|rfl|rfl|rfl|rfl|rfl|rfl|rfl|rfl|rfl|rfl|rfl:n=0∨n=1∨n=2∨n=3∨n=4∨n=5∨n=6∨n=7∨n=8∨n=9∨n=10∨n=11∨n=12∨n=13∨n=14∨n=15∨n=16∨n=17∨n=18∨n=19:=by omega
 ·exact O
 ·exact O
 ·obtain ⟨a',rfl,ha⟩:=fits_num (t:=4) f0 (by decide)
  obtain ⟨b',rfl,hb⟩:=fits_num (t:=1) f1 (by decide)
  exact own_map O hs (by omega) (by omega)
 ·obtain ⟨a',rfl,ha⟩:=fits_num (t:=4) f0 (by decide)
  exact own_unmap O hs (by omega)
 ·exact own_protect O b
 ·obtain ⟨a',rfl,ha⟩:=fits_num (t:=2) f0 (by decide)
  obtain ⟨b',rfl,hb⟩:=fits_num (t:=1) f1 (by decide)
  exact own_spawn O (by omega) (by omega)
 ·obtain ⟨a',rfl,ha⟩:=fits_num (t:=2) f0 (by decide)
  obtain ⟨b',rfl,hb⟩:=fits_num (t:=4) f1 (by decide)
  obtain ⟨c',rfl,hc⟩:=fits_num (t:=1) f2 (by decide)
  exact own_copy O (by omega) (by omega) (by omega)
 ·exact own_give O _ _ _ _
 ·exact own_start O _ _
 ·exact own_exit O a hr
 ·obtain ⟨a',rfl,ha⟩:=fits_num (t:=2) f0 (by decide)
  obtain ⟨b',rfl,hb⟩:=fits_num (t:=4) f1 (by decide)
  exact own_drop O (by omega) (by omega)
 ·obtain ⟨a',rfl,ha⟩:=fits_num (t:=2) f0 (by decide)
  obtain ⟨b',rfl,hb⟩:=fits_num (t:=5) f1 (by decide)
  exact own_shut O G (by omega) (by omega)
 ·obtain ⟨a',rfl,ha⟩:=fits_num (t:=2) f0 (by decide)
  exact own_reap O G (by omega)
 ·obtain ⟨a',rfl,ha⟩:=fits_num (t:=3) f0 (by decide)
  obtain ⟨b',rfl,hb⟩:=fits_num (t:=1) f1 (by decide)
  exact own_pipe O (by omega) (by omega)
 ·exact own_dup O _ _ _
 ·obtain ⟨a',rfl,ha⟩:=fits_num (t:=5) f0 (by decide)
  exact own_close O G hs (by omega)
 ·exact own_write O _ _ _ _
 ·exact own_read O _ _ _ _
 ·exact own_load O s _ _
 ·exact own_store O s _ _ _
theorem call_cases (K:Ker)(slot call a b c:Int)(P:Out→Prop)(hno:∀ e,P ⟨K,0,e⟩)
  (hdo:∀ s n:Nat,slot=s→s<K.nS→K.S s 0=2→n<20→fits K ((argKinds n).getD 0 0) a=true∧fits K ((argKinds n).getD 1 0) b=true∧fits K ((argKinds n).getD 2 0) c=true→P (kDo K s n a b c)):P (kCall K slot call a b c):=by
 unfold kCall
 by_cases h1:¬ (0≤call∧call<20)∨call=0
 ·rw [if_pos h1];exact hno _
 rw [if_neg h1]
 by_cases h2:¬ (0≤slot∧slot<K.nS)∨K.S slot.toNat 0≠2
 ·rw [if_pos h2];exact hno _
 rw [if_neg h2]
 by_cases h3:fits K ((argKinds call.toNat).getD 0 0) a=false∨fits K ((argKinds call.toNat).getD 1 0) b=false∨fits K ((argKinds call.toNat).getD 2 0) c=false
 ·rw [if_pos h3];exact hno _
 rw [if_neg h3]
 have g0:fits K ((argKinds call.toNat).getD 0 0) a=true:=by cases h:fits K ((argKinds call.toNat).getD 0 0) a;exact absurd (Or.inl h) h3;rfl
 have g1:fits K ((argKinds call.toNat).getD 1 0) b=true:=by cases h:fits K ((argKinds call.toNat).getD 1 0) b;exact absurd (Or.inr (Or.inl h)) h3;rfl
 have g2:fits K ((argKinds call.toNat).getD 2 0) c=true:=by cases h:fits K ((argKinds call.toNat).getD 2 0) c;exact absurd (Or.inr (Or.inr h)) h3;rfl
 exact hdo slot.toNat call.toNat (by omega) (by omega) (by omega) (by omega) ⟨g0,g1,g2⟩
theorem own_call {K:Ker}(O:Own K)(G:Good K)(slot call a b c:Int):Own (kCall K slot call a b c).K :=
 call_cases K slot call a b c (fun o=>Own o.K) (fun _=>O) (fun s n _ hs hk hn hf=>own_do O G s n a b c hs (by omega) hn hf)
theorem own_new (nF nS nD:Nat)(hF:2≤nF)(hS:1≤nS):Own (kNew nF nS nD):=by
 have L:∀ x,(kNew nF nS nD).has x→(kNew nF nS nD).loc x=-1∨(x=.tab 0∧(kNew nF nS nD).loc x=0):=fun x hx=>by
  cases x with
  | tab i =>
   by_cases e:i=0
   ·subst e;right;refine ⟨rfl,?_⟩
    simp [Ker.loc,kNew,kBase,Ker.become,Ker.setS,Ker.setF,upd]
   ·left
    simp [Ker.loc,kNew,kBase,Ker.become,Ker.setS,Ker.setF,upd,e]
  | page i p =>
   left
   have e':¬ (i=0∧3+p*2=0):=by omega
   have e'':¬ (i=0∧3+p*2=2):=by omega
   have hp:p<4:=hx.2
   have e3:¬ (3+p*2=0∨3+p*2=19):=by omega
   simp only [Ker.loc,Ker.page,kNew,kBase,Ker.become,Ker.setS,Ker.setF,upd_other _ _ _ _ _ _ e',upd_other _ _ _ _ _ _ e'',if_neg e3]
  | ring d =>
   left
   simp [Ker.loc,kNew,kBase,Ker.become,Ker.setS,Ker.setF]
 have F0:(kNew nF nS nD).F 0 0=1∧(kNew nF nS nD).F 0 1=0:=by simp [kNew,kBase,Ker.become,Ker.setS,Ker.setF,upd]
 have Fn:∀ n,n≠0→(kNew nF nS nD).F n 0=0:=fun n hn=>by simp [kNew,kBase,Ker.become,Ker.setS,Ker.setF,upd,hn]
 refine ⟨fun x hx=>?_,fun x hx n hn=>?_,fun x y hx hy n hn hm=>?_,fun n hn h0=>?_⟩
 ·rcases L x hx with h|⟨_,h⟩
  ·exact Or.inl h
  ·right;rw [h];exact ⟨by omega,by show (0:Int)<(nF:Int);omega⟩
 ·rcases L x hx with h|⟨e,h⟩
  ·omega
  ·have:n=0:=by omega
   subst this;subst e;exact F0
 ·rcases L x hx with h|⟨e,h⟩
  ·omega
  rcases L y hy with h'|⟨e',h'⟩
  ·omega
  rw [e,e']
 ·by_cases e:n=0
  ·subst e
   refine ⟨.tab 0,hS,?_⟩
   rcases L (.tab 0) hS with h|⟨_,h⟩
   ·have:(kNew nF nS nD).loc (.tab 0)=0:=by simp [Ker.loc,kNew,kBase,Ker.become,Ker.setS,Ker.setF,upd]
    omega
   ·exact h
  ·exact absurd (Fn n e) h0
end Go.Proofs.YtcgabodkegcpgaaDoor
