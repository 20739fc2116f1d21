/- Forks, purely: a child and what it holds, beside the kernel that it was made of (Kid); each call of Fork, Quit and Wait turns the one into the other. -/
import Derived.Test.YtcgabodkegcpgaaDoorFfh
import Derived.Test.YtcgabodkegcpgaaDoorMda
import Derived.Test.YtcgabodkegcpgaaDoorFfg
import Derived.Test.YtcgabodkegcpgaaDoorSao
set_option linter.unusedVariables false
set_option linter.unusedSimpArgs false
set_option maxHeartbeats 20000000
set_option maxRecDepth 100000
namespace Go.Proofs.YtcgabodkegcpgaaDoor
structure Sole (K:Ker):Prop where
 inv:Invb K
 pos:1<=K.nS
 rdy:K.S 0 0=2
 par:K.S 0 1=-1
 non:∀ i,1<=i->i<K.nS->K.S i 0=0
def a3M (K:Ker)(gv:Nat->Bool)(d:Nat)(b:Bool)(x:Nat):Int:=if gv x=true/\K.file 0 x=d/\K.end 0 x=b then 1 else 0
def a2W (K:Ker)(gv:Nat->Bool)(d:Nat)(b:Bool):Int:=a3M K gv d b 0+a3M K gv d b 1+a3M K gv d b 2+a3M K gv d b 3
theorem b2B (K:Ker){gv:Nat->Bool}(d:Nat)(b:Bool){x:Nat}(hx:x<4)(hg:gv x=false):a2W K (λy=>if y=x then true else gv y) d b=a2W K gv d b+(if K.file 0 x=d/\K.end 0 x=b then 1 else 0):=by
 rcases (by omega:x=0\/x=1\/x=2\/x=3) with rfl|rfl|rfl|rfl<;>simp [a2W,a3M,hg]<;>omega
theorem a9D (K:Ker){gv:Nat->Bool}(d:Nat)(b:Bool){x:Nat}(hx:x<4)(hg:gv x=true):a2W K (λy=>if y=x then false else gv y) d b=a2W K gv d b - (if K.file 0 x=d/\K.end 0 x=b then 1 else 0):=by
 rcases (by omega:x=0\/x=1\/x=2\/x=3) with rfl|rfl|rfl|rfl<;>simp [a2W,a3M,hg]<;>omega
theorem a3N (K:Ker)(d:Nat)(b:Bool){gv:Nat->Bool}(h:∀ x,x<4->gv x=false):a2W K gv d b=0:=by
 simp [a2W,a3M,h 0 (by omega),h 1 (by omega),h 2 (by omega),h 3 (by omega)]
theorem a9E (K:Ker)(gv:Nat->Bool)(d:Nat)(b:Bool):0<=a2W K gv d b:=by
 have:∀ x,0<=a3M K gv d b x:=λx=>by unfold a3M;split<;>omega
 have h0:=this 0;have h1:=this 1;have h2:=this 2;have h3:=this 3;unfold a2W;omega
structure Fra (K:Ker) (t:Nat) (fr:Nat->Int):Prop where
 lt:t<K.nF
 free:K.F t 0=0
 pg:∀ p,p<4->fr p=-1\/∃ f:Nat,fr p=f/\f<K.nF/\K.F f 0=0/\f≠t
 inj:∀ p q,p<4->q<4->p≠q->fr p≠-1->fr p≠fr q
 has:∀ p,p<4->fr p≠-1->K.page 0 p≠-1
structure Kid (K:Ker) (t:Nat) (fr:Nat->Int) (gv:Nat->Bool) (kd cd:Int) (K':Ker):Prop where
 fra:Fra K t fr
 gvf:∀ x,x<4->gv x=true->K.file 0 x≠-1
 nF:K'.nF=K.nF
 nS:K'.nS=K.nS
 nD:K'.nD=K.nD
 ft:∀ c,c<6->K'.F t c=if c=0 then 1 else if c=1 then 1 else 0
 fp:∀ p,p<4->∀ f:Nat,fr p=f->K'.F f 0=2/\K'.F f 1=1/\∀ j,j<4->K'.F f (2+j)=K.F (K.page 0 p).toNat (2+j)
 fo:∀ f,f≠t->(∀ p,p<4->fr p≠(f:Int))->∀ c,c<6->K'.F f c=K.F f c
 s0:K'.S 1 0=kd
 s1:K'.S 1 1=0
 s2:K'.S 1 2=t
 cd:K'.S 1 19=cd
 pg:∀ p,p<4->K'.page 1 p=fr p
 wr:∀ p,p<4->K'.wr 1 p=(fr p != -1 && K.wr 0 p)
 fl:∀ x,x<4->K'.file 1 x=if gv x=true then K.file 0 x else -1
 en:∀ x,x<4->K'.end 1 x=(gv x && K.end 0 x)
 so:∀ i,i≠1->∀ c,K'.S i c=K.S i c
 bo:∀ i,i≠1->∀ c,K'.B i c=K.B i c
 dd:∀ d c,c<3->K'.D d c=K.D d c
 d3:∀ d,K'.D d 3=K.D d 3+a2W K gv d false
 d4:∀ d,K'.D d 4=K.D d 4+a2W K gv d true
theorem M0 (K:Ker)(i:Nat)(a b:Int){c:Nat}(hc:c<6):(K.become i a b).F i c=if c=0 then a else if c=1 then b else 0:=by
 rw [a3r,if_pos hc]
theorem c1A {c:Nat}(h:c<6):c=0\/c=1\/∃ j,j<4/\c=2+j:=by
 rcases (by omega:c=0\/c=1\/2<=c) with h0|h0|h0
 ·exact .inl h0
 ·exact .inr (.inl h0)
 ·exact .inr (.inr ⟨c - 2,by omega,by omega⟩)
theorem c2b {c:Nat}(h:isB c):(∃ p,p<4/\c=4+p*2)\/∃ x,x<4/\c=12+x*2:=by
 unfold isB at h;rcases (by omega:c<12\/12<=c) with h0|h0
 ·exact .inl ⟨(c - 4) / 2,by omega,by omega⟩
 ·exact .inr ⟨(c - 12) / 2,by omega,by omega⟩
theorem a0G (K:Ker)(i:Nat)(a b:Int):(K.become i a b).S=K.S:=rfl
theorem a3O (K:Ker)(i:Nat)(a b:Int):(K.become i a b).B=K.B:=rfl
theorem a0H (K:Ker)(i:Nat)(a b:Int):(K.become i a b).D=K.D:=rfl
theorem C5 (K:Ker)(i:Nat)(a b:Int):(K.become i a b).nF=K.nF/\(K.become i a b).nS=K.nS/\(K.become i a b).nD=K.nD:=⟨rfl,rfl,rfl⟩
theorem T9 (K:Ker)(g h:Nat):(K.copyWords g h).S=K.S/\(K.copyWords g h).B=K.B/\(K.copyWords g h).D=K.D/\(K.copyWords g h).nF=K.nF/\(K.copyWords g h).nS=K.nS/\(K.copyWords g h).nD=K.nD:=⟨rfl,rfl,rfl,rfl,rfl,rfl⟩
theorem D9 (K:Ker)(s p:Nat)(f:Int)(b:Bool):(K.setPage s p f b).F=K.F/\(K.setPage s p f b).D=K.D/\(K.setPage s p f b).nF=K.nF/\(K.setPage s p f b).nS=K.nS/\(K.setPage s p f b).nD=K.nD:=⟨rfl,rfl,rfl,rfl,rfl⟩
theorem a4P (K:Ker)(s p:Nat)(f:Int)(b:Bool)(i c:Nat):(K.setPage s p f b).S i c=if i=s/\c=3+p*2 then f else K.S i c:=rfl
theorem a7Q (K:Ker)(s p:Nat)(f:Int)(b:Bool)(i c:Nat):(K.setPage s p f b).B i c=if i=s/\c=4+p*2 then b else K.B i c:=rfl
theorem a2b (K:Ker)(c:Nat):(K.noSlot c).F=K.F/\(K.noSlot c).D=K.D/\(K.noSlot c).nF=K.nF/\(K.noSlot c).nS=K.nS/\(K.noSlot c).nD=K.nD:=⟨rfl,rfl,rfl,rfl,rfl⟩
theorem b5G (K:Ker)(c i j:Nat):(K.noSlot c).S i j=if i=c then (if j=0\/j=19 then 0 else -1) else K.S i j:=rfl
theorem b5H (K:Ker)(c i j:Nat):(K.noSlot c).B i j=if i=c then false else K.B i j:=rfl
section
variable {K K':Ker} {t:Nat} {fr:Nat->Int} {gv:Nat->Bool} {kd cd:Int}
theorem Sole.frame (S:Sole K){p:Nat}(hp:p<4)(h:K.page 0 p≠-1):∃ f:Nat,K.page 0 p=f/\f<K.nF/\K.F f 0=2:=by
 have hx:K.has (.page 0 p):=⟨S.pos,hp⟩;have hr:=(S.inv.own.rng _ hx).resolve_left h;obtain ⟨f,hf⟩:=Int.eq_ofNat_of_zero_le hr.1;refine ⟨f,hf,?_,?_⟩
 ·have:=hr.2;rw [hf] at this;omega
 ·exact (S.inv.own.what _ hx f hf).1
theorem b3j (S:Sole K)(h2:2<=K.nS){f:Nat}(hf:f<K.nF)(h0:K.F f 0=0):∃ K',J5 K 0 1 f=⟨K',0,0⟩/\Kid K f (λ_=>-1) (λ_=>false) 1 0 K':=by
 have n1:=S.non 1 (Nat.le_refl _) (by omega);have N:=S.inv.neat;unfold J5;rw [if_neg (by simp [n1]),if_neg (by simp [h0])];refine ⟨_,rfl,?_⟩;have eF:∀ a c,((((K.become f 1 (1:Nat)).setS 1 0 1).setS 1 1 (0:Nat)).setS 1 2 f).F a c=(K.become f 1 1).F a c:=λa c=>by simp only [b2y];rfl
 have eS:∀ a c,((((K.become f 1 (1:Nat)).setS 1 0 1).setS 1 1 (0:Nat)).setS 1 2 f).S a c=if a=1/\c=2 then (f:Int) else if a=1/\c=1 then 0 else if a=1/\c=0 then 1 else K.S a c:=λa c=>by simp only [b2z,a0G,upd];rfl
 have eB:∀ a c,((((K.become f 1 (1:Nat)).setS 1 0 1).setS 1 1 (0:Nat)).setS 1 2 f).B a c=K.B a c:=λa c=>by simp only [b8A,a3O]
 have eD:∀ a c,((((K.become f 1 (1:Nat)).setS 1 0 1).setS 1 1 (0:Nat)).setS 1 2 f).D a c=K.D a c:=λa c=>by simp only [b2A,a0H]
 have e1:((((K.become f 1 (1:Nat)).setS 1 0 1).setS 1 1 (0:Nat)).setS 1 2 f).nF=K.nF:=by simp only [Ker.setS_nF,(C5 K f 1 _).1]
 have e2:((((K.become f 1 (1:Nat)).setS 1 0 1).setS 1 1 (0:Nat)).setS 1 2 f).nS=K.nS:=by simp only [Ker.setS_nS,(C5 K f 1 _).2.1]
 have e3:((((K.become f 1 (1:Nat)).setS 1 0 1).setS 1 1 (0:Nat)).setS 1 2 f).nD=K.nD:=by simp only [Ker.setS_nD,(C5 K f 1 _).2.2]
 generalize ((((K.become f 1 (1:Nat)).setS 1 0 1).setS 1 1 (0:Nat)).setS 1 2 f)=K' at *;refine ⟨⟨hf,h0,λp hp=>.inl rfl,λp q _ _ _ h=>absurd rfl h,λp hp h=>absurd rfl h⟩,λx _ h=>(by cases h),e1,e2,e3,λc hc=>?_,λp hp f' h=>?_,λg hg _ c hc=>?_,?_,?_,?_,?_,λp hp=>?_,λp hp=>?_,λx hx=>?_,λx hx=>?_,λi hi c=>?_,λi hi c=>eB i c,λd c hc=>eD d c,λd=>?_,λd=>?_⟩
 ·rw [eF];exact M0 K f 1 1 hc
 ·exact absurd h (by omega)
 ·rw [eF];exact Ker.become_F K f 1 1 g c hg
 ·rw [eS,if_neg (by omega),if_neg (by omega),if_pos (by omega)]
 ·rw [eS,if_neg (by omega),if_pos (by omega)]
 ·rw [eS,if_pos (by omega)]
 ·rw [eS,if_neg (by omega),if_neg (by omega),if_neg (by omega)];exact N.code (by omega) n1
 ·unfold Ker.page;rw [eS,if_neg (by omega),if_neg (by omega),if_neg (by omega)];exact N.page (by omega) n1 hp
 ·have h1:=N.page (by omega) n1 hp;unfold Ker.wr;rw [eB];show K.wr 1 p=_
  cases hw:K.wr 1 p with
  | false=>simp
  | true=>exact absurd h1 (S.inv.good.wr 1 p (by omega) hp hw)
 ·unfold Ker.file;rw [eS,if_neg (by omega),if_neg (by omega),if_neg (by omega)];exact N.file (by omega) n1 hx
 ·unfold Ker.end;rw [eB];show K.end 1 x=_;rw [N.fil 1 x hx (N.file (by omega) n1 hx)];rfl
 ·rw [eS,if_neg (by omega),if_neg (by omega),if_neg (by omega)]
 ·rw [a3N K d _ (λ_ _=>rfl),eD,Int.add_zero]
 ·rw [a3N K d _ (λ_ _=>rfl),eD,Int.add_zero]
theorem Kid.embryo (C:Kid K t fr gv 1 cd K'):K'.embryo 0 1=true:=by simp [Ker.embryo,C.s0,C.s1]
theorem Kid.still (C:Kid K t fr gv kd cd K')(h:kd=1\/kd=3):K'.still 0 1=true:=by
 unfold Ker.still;rw [C.s0,C.s1];rcases h with rfl|rfl<;>rfl
theorem Kid.page0 (C:Kid K t fr gv kd cd K')(p:Nat):K'.page 0 p=K.page 0 p:=C.so 0 (by omega) _
theorem Kid.file0 (C:Kid K t fr gv kd cd K')(x:Nat):K'.file 0 x=K.file 0 x:=C.so 0 (by omega) _
theorem Kid.wr0 (C:Kid K t fr gv kd cd K')(p:Nat):K'.wr 0 p=K.wr 0 p:=C.bo 0 (by omega) _
theorem Kid.end0 (C:Kid K t fr gv kd cd K')(x:Nat):K'.end 0 x=K.end 0 x:=C.bo 0 (by omega) _
theorem Kid.freeF (C:Kid K t fr gv kd cd K'){f:Nat}(h:f≠t)(h':∀ p,p<4->fr p≠(f:Int)):K'.F f 0=K.F f 0:=C.fo f h h' 0 (by omega)
theorem a9F (K:Ker)(g h a c:Nat)(hgh:g≠h):(K.copyWords g h).F a c=if a=g/\2<=c/\c<6 then K.F h c else K.F a c:=by
 have e:∀ (L:Ker) c v c',(L.setF g c v).F h c'=L.F h c':=λL c v c'=>f8 _ _ _ _ _ _ (λe=>hgh e.1.symm);unfold Ker.copyWords
 by_cases ha:a=g
 ·subst ha
  by_cases h5:c=5
  ·subst h5;rw [if_pos (by omega)];exact upd_same _ _ _ _
  ·refine (f8 _ _ _ _ _ _ (by omega)).trans ?_
   by_cases h4:c=4
   ·subst h4;rw [if_pos (by omega)];exact upd_same _ _ _ _
   ·refine (f8 _ _ _ _ _ _ (by omega)).trans ?_
    by_cases h3:c=3
    ·subst h3;rw [if_pos (by omega)];exact upd_same _ _ _ _
    ·refine (f8 _ _ _ _ _ _ (by omega)).trans ?_
     by_cases h2:c=2
     ·subst h2;rw [if_pos (by omega)];exact upd_same _ _ _ _
     ·rw [if_neg (by omega)];exact f8 _ _ _ _ _ _ (by omega)
 ·rw [if_neg (by omega)];exact (f8 _ _ _ _ _ _ (by omega)).trans ((f8 _ _ _ _ _ _ (by omega)).trans ((f8 _ _ _ _ _ _ (by omega)).trans (f8 _ _ _ _ _ _ (by omega))))
theorem a9G (S:Sole K)(C:Kid K t fr gv 1 cd K'){p f:Nat}(hp:p<4)(h0:fr p=-1)(hk:K.page 0 p≠-1)(hf:f<K.nF)(hfr:K.F f 0=0)(hft:f≠t)(hfn:∀ q,q<4->fr q≠(f:Int)) :
  ∃ K'',M9 K' 0 1 p f=⟨K'',0,0⟩/\Kid K t (λq=>if q=p then (f:Int) else fr q) gv 1 cd K'':=by
 obtain ⟨h,hh,hhl,hh2⟩:=S.frame hp hk;have hne:f≠h:=λe=>by subst e;rw [hfr] at hh2;cases hh2
 have htne:t≠h:=λe=>by subst e;rw [C.fra.free] at hh2;cases hh2
 have hpn:∀ q,q<4->fr q≠(h:Int):=λq hq e=>by
  rcases C.fra.pg q hq with e'|⟨g,e',_,e2,_⟩
  ·rw [e'] at e;omega
  ·have:g=h:=by rw [e'] at e;omega
   subst this;rw [hh2] at e2;cases e2
 unfold M9;rw [if_neg (by rw [C.embryo];decide),if_neg (by rw [C.page0,C.pg p hp,h0];simp [hk]),if_neg (by rw [C.freeF hft hfn,hfr];simp),C.page0,C.wr0,hh];simp only [Int.toNat_natCast];refine ⟨_,rfl,?_⟩;have eF:∀ a c,(((K'.become f 2 (1:Nat)).setPage 1 p f (K.wr 0 p)).copyWords f h).F a c=(if a=f/\2<=c/\c<6 then (K'.become f 2 1).F h c else (K'.become f 2 1).F a c):=λa c=>by rw [a9F _ _ _ _ _ hne,(D9 _ _ _ _ _).1];rfl
 have eS:∀ a c,(((K'.become f 2 (1:Nat)).setPage 1 p f (K.wr 0 p)).copyWords f h).S a c=if a=1/\c=3+p*2 then (f:Int) else K'.S a c:=λa c=>by rw [(T9 _ _ _).1,a4P,a0G]
 have eB:∀ a c,(((K'.become f 2 (1:Nat)).setPage 1 p f (K.wr 0 p)).copyWords f h).B a c=if a=1/\c=4+p*2 then K.wr 0 p else K'.B a c:=λa c=>by rw [(T9 _ _ _).2.1,a7Q,a3O]
 have eD:∀ a c,(((K'.become f 2 (1:Nat)).setPage 1 p f (K.wr 0 p)).copyWords f h).D a c=K'.D a c:=λa c=>by rw [(T9 _ _ _).2.2.1,(D9 _ _ _ _ _).2.1,a0H]
 have e1:(((K'.become f 2 (1:Nat)).setPage 1 p f (K.wr 0 p)).copyWords f h).nF=K'.nF:=by rw [(T9 _ _ _).2.2.2.1,(D9 _ _ _ _ _).2.2.1,(C5 _ _ _ _).1]
 have e2:(((K'.become f 2 (1:Nat)).setPage 1 p f (K.wr 0 p)).copyWords f h).nS=K'.nS:=by rw [(T9 _ _ _).2.2.2.2.1,(D9 _ _ _ _ _).2.2.2.1,(C5 _ _ _ _).2.1]
 have e3:(((K'.become f 2 (1:Nat)).setPage 1 p f (K.wr 0 p)).copyWords f h).nD=K'.nD:=by rw [(T9 _ _ _).2.2.2.2.2,(D9 _ _ _ _ _).2.2.2.2,(C5 _ _ _ _).2.2]
 generalize (((K'.become f 2 (1:Nat)).setPage 1 p f (K.wr 0 p)).copyWords f h)=K'' at *;refine ⟨⟨C.fra.lt,C.fra.free,λq hq=>?_,λq r hq hr hqr hn=>?_,λq hq hn=>?_⟩,C.gvf,e1.trans C.nF,e2.trans C.nS,e3.trans C.nD,λc hc=>?_,λq hq g hg=>?_,λg hg hgn c hc=>?_,?_,?_,?_,?_,λq hq=>?_,λq hq=>?_,λx hx=>?_,λx hx=>?_,λi hi c=>?_,λi hi c=>?_,λd c hc=>(eD d c).trans (C.dd d c hc),λd=>(eD d 3).trans (C.d3 d),λd=>(eD d 4).trans (C.d4 d)⟩
 ·show (if q=p then (f:Int) else fr q)=-1\/_
  by_cases e:q=p
  ·rw [if_pos e];exact .inr ⟨f,rfl,hf,hfr,hft⟩
  ·rw [if_neg e];exact C.fra.pg q hq
 ·show (if q=p then (f:Int) else fr q)≠(if r=p then (f:Int) else fr r);replace hn:(if q=p then (f:Int) else fr q)≠-1:=hn
  by_cases e:q=p
  ·rw [if_pos e,if_neg (by omega)];exact Ne.symm (hfn r hr)
  ·rw [if_neg e] at hn ⊢
   by_cases e':r=p
   ·rw [if_pos e'];exact hfn q hq
   ·rw [if_neg e'];exact C.fra.inj q r hq hr hqr hn
 ·by_cases e:q=p
  ·subst e;exact hk
  ·replace hn:(if q=p then (f:Int) else fr q)≠-1:=hn;rw [if_neg e] at hn;exact C.fra.has q hq hn
 ·rw [eF,if_neg (λe=>hft e.1.symm)];exact (Ker.become_F K' f 2 1 t c (Ne.symm hft)).trans (C.ft c hc)
 ·replace hg:(if q=p then (f:Int) else fr q)=(g:Int):=hg
  by_cases e:q=p
  ·rw [if_pos e] at hg;obtain rfl:f=g:=by omega
   subst e;refine ⟨?_,?_,λj hj=>?_⟩
   ·rw [eF,if_neg (by omega)];exact M0 K' f 2 1 (by omega)
   ·rw [eF,if_neg (by omega)];exact M0 K' f 2 1 (by omega)
   ·rw [eF,if_pos (by omega)];refine (Ker.become_F K' f 2 1 h (2+j) (Ne.symm hne)).trans ?_;rw [C.fo h (Ne.symm htne) hpn (2+j) (by omega),hh];rfl
  ·rw [if_neg e] at hg;have hgf:g≠f:=λe'=>hfn q hq (by rw [hg,e']);obtain ⟨a1,a2,a3⟩:=C.fp q hq g hg;have key:∀ c,K''.F g c=K'.F g c:=λc=>by
    rw [eF,if_neg (λe=>hgf e.1)];exact Ker.become_F K' f 2 1 g c hgf
   exact ⟨(key 0).trans a1,(key 1).trans a2,λj hj=>(key _).trans (a3 j hj)⟩
 ·have hgf:g≠f:=λe=>hgn p hp (by rw [if_pos rfl,e]);rw [eF,if_neg (λe=>hgf e.1)];refine (Ker.become_F K' f 2 1 g c hgf).trans (C.fo g hg (λq hq e=>?_) c hc)
  by_cases e':q=p
  ·subst e';rw [h0] at e;omega
  ·exact hgn q hq (by rw [if_neg e'];exact e)
 ·rw [eS,if_neg (by omega)];exact C.s0
 ·rw [eS,if_neg (by omega)];exact C.s1
 ·rw [eS,if_neg (by omega)];exact C.s2
 ·rw [eS,if_neg (by omega)];exact C.cd
 ·show K''.S 1 (3+q*2)=if q=p then (f:Int) else fr q
  rw [eS]
  by_cases e:q=p
  ·subst e;rw [if_pos (by omega),if_pos rfl]
  ·rw [if_neg (by omega),if_neg e];exact C.pg q hq
 ·show K''.B 1 (4+q*2)=((if q=p then (f:Int) else fr q) != -1 && K.wr 0 q);rw [eB]
  by_cases e:q=p
  ·subst e;rw [if_pos (by omega),if_pos rfl];have:((f:Int) != -1)=true:=by simp
   rw [this];rfl
  ·rw [if_neg (by omega),if_neg e];exact C.wr q hq
 ·unfold Ker.file;rw [eS,if_neg (by omega)];exact C.fl x hx
 ·unfold Ker.end;rw [eB,if_neg (by omega)];exact C.en x hx
 ·rw [eS,if_neg (by omega)];exact C.so i hi c
 ·rw [eB,if_neg (by omega)];exact C.bo i hi c
theorem a3P (K:Ker)(d:Nat)(b:Bool)(m:Int)(e c:Nat):(K.count d b m).D e c=K.D e c+(if e=d/\((b=true/\c=4)\/(b=false/\c=3)) then m else 0):=by
 unfold Ker.count;cases b
 ·show upd K.D d 3 _ e c=_
  by_cases h:e=d/\c=3
  ·obtain ⟨rfl,rfl⟩:=h;rw [upd_same];simp
  ·rw [f8 _ _ _ _ _ _ h,if_neg (by simp;omega)];omega
 ·show upd K.D d 4 _ e c=_
  by_cases h:e=d/\c=4
  ·obtain ⟨rfl,rfl⟩:=h;rw [upd_same];simp
  ·rw [f8 _ _ _ _ _ _ h,if_neg (by simp;omega)];omega
theorem a5X (K:Ker)(d:Nat)(b:Bool)(m:Int):(K.count d b m).F=K.F/\(K.count d b m).S=K.S/\(K.count d b m).B=K.B/\(K.count d b m).nF=K.nF/\(K.count d b m).nS=K.nS/\(K.count d b m).nD=K.nD:=by
 unfold Ker.count;cases b<;>exact ⟨rfl,rfl,rfl,rfl,rfl,rfl⟩
theorem a9H {gv':Nat->Bool}{d:Int}{b:Bool}{m:Int}{dn x:Nat}(C:Kid K t fr gv kd cd K')(hx:x<4)(hgf:∀ y,y<4->gv' y=true->K.file 0 y≠-1)(hg:∀ y,y≠x->gv' y=gv y)(hd:d=if gv' x=true then K.file 0 x else -1)(hb:b=(gv' x && K.end 0 x))
  (h3:∀ e,a2W K gv' e false=a2W K gv e false+(if e=dn/\K.end 0 x=false then m else 0))(h4:∀ e,a2W K gv' e true=a2W K gv e true+(if e=dn/\K.end 0 x=true then m else 0)):Kid K t fr gv' kd cd ((K'.setFile 1 x d b).count dn (K.end 0 x) m):=by
 obtain ⟨e1,e2,e3,e4,e5,e6⟩:=a5X (K'.setFile 1 x d b) dn (K.end 0 x) m;have eS:∀ i c,((K'.setFile 1 x d b).count dn (K.end 0 x) m).S i c=upd K'.S 1 (11+x*2) d i c:=λi c=>by rw [e2];rfl
 have eB:∀ i c,((K'.setFile 1 x d b).count dn (K.end 0 x) m).B i c=upd K'.B 1 (12+x*2) b i c:=λi c=>by rw [e3];rfl
 have eD:∀ e c,(K'.setFile 1 x d b).D e c=K'.D e c:=λ_ _=>rfl;refine ⟨C.fra,hgf,e4.trans C.nF,e5.trans C.nS,e6.trans C.nD,λc hc=>by rw [e1];exact C.ft c hc,λp hp f h=>by rw [e1];exact C.fp p hp f h,λf h h' c hc=>by rw [e1];exact C.fo f h h' c hc,?_,?_,?_,?_,λp hp=>?_,λp hp=>?_,λy hy=>?_,λy hy=>?_,λi hi c=>?_,λi hi c=>?_,λe c hc=>?_,λe=>?_,λe=>?_⟩
 ·exact (eS _ _).trans ((f8 _ _ _ _ _ _ (by omega)).trans C.s0)
 ·exact (eS _ _).trans ((f8 _ _ _ _ _ _ (by omega)).trans C.s1)
 ·exact (eS _ _).trans ((f8 _ _ _ _ _ _ (by omega)).trans C.s2)
 ·exact (eS _ _).trans ((f8 _ _ _ _ _ _ (by omega)).trans C.cd)
 ·exact (eS _ _).trans ((f8 _ _ _ _ _ _ (by omega)).trans (C.pg p hp))
 ·exact (eB _ _).trans ((f8 _ _ _ _ _ _ (by omega)).trans (C.wr p hp))
 ·refine (eS _ _).trans ?_
  by_cases e:y=x
  ·subst e;rw [upd_same];exact hd
  ·rw [f8 _ _ _ _ _ _ (by omega),hg y e];exact C.fl y hy
 ·refine (eB _ _).trans ?_
  by_cases e:y=x
  ·subst e;rw [upd_same];exact hb
  ·rw [f8 _ _ _ _ _ _ (by omega),hg y e];exact C.en y hy
 ·exact (eS _ _).trans ((f8 _ _ _ _ _ _ (by omega)).trans (C.so i hi c))
 ·exact (eB _ _).trans ((f8 _ _ _ _ _ _ (by omega)).trans (C.bo i hi c))
 ·rw [a3P,eD,C.dd e c hc,if_neg (by omega)];omega
 ·rw [a3P,eD,C.d3,h3 e]
  by_cases h:e=dn/\K.end 0 x=false
  ·rw [if_pos h,if_pos ⟨h.1,.inr ⟨h.2,rfl⟩⟩];omega
  ·rw [if_neg h,if_neg (λq=>by
   rcases q.2 with ⟨_,h9⟩|⟨h9,_⟩
   ·exact absurd h9 (by decide)
   ·exact h ⟨q.1,h9⟩)];omega
 ·rw [a3P,eD,C.d4,h4 e]
  by_cases h:e=dn/\K.end 0 x=true
  ·rw [if_pos h,if_pos ⟨h.1,.inl ⟨h.2,rfl⟩⟩];omega
  ·rw [if_neg h,if_neg (λq=>by
   rcases q.2 with ⟨h9,_⟩|⟨_,h9⟩
   ·exact h ⟨q.1,h9⟩
   ·exact absurd h9 (by decide))];omega
theorem a9I (S:Sole K){x:Nat}(hx:x<4)(h:K.file 0 x≠-1):∃ d:Nat,K.file 0 x=d/\d<K.nD/\0<=K.D d 0:=by
 have h2:=(S.inv.good.file 0 x S.pos hx).resolve_left h;obtain ⟨d,hd⟩:=Int.eq_ofNat_of_zero_le h2.1;have h3:=h2.2;rw [hd] at h3;exact ⟨d,hd,by omega,by simpa using h3.2⟩
theorem b5I (S:Sole K)(C:Kid K t fr gv 1 cd K'){x:Nat}(hx:x<4)(hg:gv x=false)(hf:K.file 0 x≠-1):∃ K'',Q6 K' 0 1 x x=⟨K'',0,0⟩/\Kid K t fr (λy=>if y=x then true else gv y) 1 cd K'':=by
 obtain ⟨d,hd,_,_⟩:=a9I S hx hf;unfold Q6;rw [if_neg (by rw [C.embryo];decide),if_neg (by rw [C.file0,C.fl x hx,hg];simp [hf]),C.file0,C.end0,hd];refine ⟨_,rfl,?_⟩;show Kid K t fr _ 1 cd ((K'.setFile 1 x ((d:Int).toNat:Int) (K.end 0 x)).count (d:Int).toNat (K.end 0 x) 1);refine a9H C hx (λy hy h=>?_) (λy hy=>if_neg hy) (by simp [hd]) (by simp) (λe=>?_) (λe=>?_)
 ·by_cases e:y=x
  ·subst e;exact hf
  ·exact C.gvf y hy (by simpa [e] using h)
 ·rw [b2B K e false hx hg,hd];have:((d:Int)=(e:Int)/\K.end 0 x=false)↔(e=(d:Int).toNat/\K.end 0 x=false):=⟨λq=>⟨by omega,q.2⟩,λq=>⟨by omega,q.2⟩⟩;simp only [this]
 ·rw [b2B K e true hx hg,hd];have:((d:Int)=(e:Int)/\K.end 0 x=true)↔(e=(d:Int).toNat/\K.end 0 x=true):=⟨λq=>⟨by omega,q.2⟩,λq=>⟨by omega,q.2⟩⟩;simp only [this]
theorem b2C (C:Kid K t fr gv kd cd K'){kd' cd':Int}{L:Ker}(eF:L.F=K'.F)(eB:L.B=K'.B)(eD:L.D=K'.D)(e1:L.nF=K'.nF)(e2:L.nS=K'.nS)(e3:L.nD=K'.nD)(h0:L.S 1 0=kd')(h19:L.S 1 19=cd')(eS:∀ i c,¬ (i=1/\(c=0\/c=19))->L.S i c=K'.S i c):Kid K t fr gv kd' cd' L:=by
 have eB':∀ i c,L.B i c=K'.B i c:=λi c=>by rw [eB]
 have eD':∀ i c,L.D i c=K'.D i c:=λi c=>by rw [eD]
 have eF':∀ i c,L.F i c=K'.F i c:=λi c=>by rw [eF]
 exact ⟨C.fra,C.gvf,e1.trans C.nF,e2.trans C.nS,e3.trans C.nD,λc hc=>(eF' _ _).trans (C.ft c hc),λp hp f h=>⟨(eF' _ _).trans (C.fp p hp f h).1,(eF' _ _).trans (C.fp p hp f h).2.1,λj hj=>(eF' _ _).trans ((C.fp p hp f h).2.2 j hj)⟩,λf h h' c hc=>(eF' _ _).trans (C.fo f h h' c hc),h0,(eS _ _ (by omega)).trans C.s1,(eS _ _ (by omega)).trans C.s2,h19,λp hp=>(eS 1 (3+p*2) (by omega)).trans (C.pg p hp),λp hp=>(eB' _ _).trans (C.wr p hp),λx hx=>(eS 1 (11+x*2) (by omega)).trans (C.fl x hx),λx hx=>(eB' _ _).trans (C.en x hx),λi hi c=>(eS i c (by omega)).trans (C.so i hi c),λi hi c=>(eB' i c).trans (C.bo i hi c),λd c hc=>(eD' d c).trans (C.dd d c hc),λd=>(eD' d 3).trans (C.d3 d),λd=>(eD' d 4).trans (C.d4 d)⟩
theorem a9J (C:Kid K t fr gv kd cd K')(kd':Int):Kid K t fr gv kd' cd (K'.setS 1 0 kd'):=by
 have e:∀ i c,(K'.setS 1 0 kd').S i c=if i=1/\c=0 then kd' else K'.S i c:=λi c=>rfl
 exact b2C C rfl rfl rfl rfl rfl rfl (by rw [e,if_pos (by omega)]) (by rw [e,if_neg (by omega)];exact C.cd) (λi c h=>by rw [e,if_neg (by omega)])
theorem b5J (C:Kid K t fr gv kd cd K')(cd':Int):Kid K t fr gv kd cd' (K'.setS 1 19 cd'):=by
 have e:∀ i c,(K'.setS 1 19 cd').S i c=if i=1/\c=19 then cd' else K'.S i c:=λi c=>rfl
 exact b2C C rfl rfl rfl rfl rfl rfl (by rw [e,if_neg (by omega)];exact C.s0) (by rw [e,if_pos (by omega)]) (λi c h=>by rw [e,if_neg (by omega)])
theorem b3k (C:Kid K t fr gv 1 cd K'):∃ K'',O9 K' 0 1=⟨K'',0,0⟩/\Kid K t fr gv 2 cd K'':=by
 unfold O9;rw [if_neg (by rw [C.embryo];decide)];exact ⟨_,rfl,a9J C 2⟩
theorem a3Q (K:Ker)(s:Nat):∀ n,(∀ i,i<n->K.S i 1≠(s:Int))->K.orphans s n=K
 | 0,_=>rfl
 | n+1,h=>by
  have ih:=a3Q K s n (λi hi=>h i (by omega));unfold Ker.orphans;rw [ih,if_neg (h n (by omega))]
theorem b5K (S:Sole K)(C:Kid K t fr gv 2 cd K')(a:Int):∃ K'',a0b K' 1 a=⟨K'',0,0⟩/\Kid K t fr gv 3 a K'':=by
 have C2:=b5J (a9J C 3) a;unfold a0b;rw [if_neg (by decide),a3Q]
 ·exact ⟨_,rfl,C2⟩
 ·intro i hi
  by_cases e:i=1
  ·subst e;rw [C2.s1];decide
  ·rw [C2.so i e];rw [C.nS] at hi
   by_cases e0:i=0
   ·subst e0;rw [S.par];decide
   ·rw [S.inv.neat.parent hi (S.non i (by omega) hi)];decide
theorem b5L (S:Sole K)(C:Kid K t fr gv kd cd K')(hkd:kd=1\/kd=3){p:Nat}(hp:p<4)(h0:fr p≠-1):∃ K'',U8 K' 0 1 p=⟨K'',0,0⟩/\Kid K t (λq=>if q=p then -1 else fr q) gv kd cd K'':=by
 obtain ⟨f,hf,hfl,hf0,hft⟩:=(C.fra.pg p hp).resolve_left h0;have hfn:∀ q,q<4->q≠p->fr q≠(f:Int):=λq hq hqp e=>C.fra.inj p q hp hq (Ne.symm hqp) h0 (by rw [hf,e]);unfold U8;rw [if_neg (by rw [C.still hkd];decide),if_neg (by rw [C.pg p hp];exact h0)];unfold Ker.freePage;rw [C.pg p hp,hf];simp only [Int.toNat_natCast];refine ⟨_,rfl,?_⟩;have eF:∀ a c,((K'.become f 0 (-1)).setPage 1 p (-1) false).F a c=(K'.become f 0 (-1)).F a c:=λa c=>by rw [(D9 _ _ _ _ _).1]
 have eS:∀ a c,((K'.become f 0 (-1)).setPage 1 p (-1) false).S a c=if a=1/\c=3+p*2 then (-1:Int) else K'.S a c:=λa c=>by rw [a4P,a0G]
 have eB:∀ a c,((K'.become f 0 (-1)).setPage 1 p (-1) false).B a c=if a=1/\c=4+p*2 then false else K'.B a c:=λa c=>by rw [a7Q,a3O]
 have eD:∀ a c,((K'.become f 0 (-1)).setPage 1 p (-1) false).D a c=K'.D a c:=λa c=>by rw [(D9 _ _ _ _ _).2.1,a0H]
 have e1:((K'.become f 0 (-1)).setPage 1 p (-1) false).nF=K'.nF:=by rw [(D9 _ _ _ _ _).2.2.1,(C5 _ _ _ _).1]
 have e2:((K'.become f 0 (-1)).setPage 1 p (-1) false).nS=K'.nS:=by rw [(D9 _ _ _ _ _).2.2.2.1,(C5 _ _ _ _).2.1]
 have e3:((K'.become f 0 (-1)).setPage 1 p (-1) false).nD=K'.nD:=by rw [(D9 _ _ _ _ _).2.2.2.2,(C5 _ _ _ _).2.2]
 generalize ((K'.become f 0 (-1)).setPage 1 p (-1) false)=K'' at *;refine ⟨⟨C.fra.lt,C.fra.free,λq hq=>?_,λq r hq hr hqr hn=>?_,λq hq hn=>?_⟩,C.gvf,e1.trans C.nF,e2.trans C.nS,e3.trans C.nD,λc hc=>?_,λq hq g hg=>?_,λg hg hgn c hc=>?_,?_,?_,?_,?_,λq hq=>?_,λq hq=>?_,λx hx=>?_,λx hx=>?_,λi hi c=>?_,λi hi c=>?_,λd c hc=>(eD d c).trans (C.dd d c hc),λd=>(eD d 3).trans (C.d3 d),λd=>(eD d 4).trans (C.d4 d)⟩
 ·show (if q=p then (-1:Int) else fr q)=-1\/_
  by_cases e:q=p
  ·rw [if_pos e];exact .inl rfl
  ·rw [if_neg e];exact C.fra.pg q hq
 ·replace hn:(if q=p then (-1:Int) else fr q)≠-1:=hn;show (if q=p then (-1:Int) else fr q)≠(if r=p then (-1:Int) else fr r)
  by_cases e:q=p
  ·rw [if_pos e] at hn;exact absurd rfl hn
  ·rw [if_neg e] at hn ⊢
   by_cases e':r=p
   ·rw [if_pos e'];exact hn
   ·rw [if_neg e'];exact C.fra.inj q r hq hr hqr hn
 ·replace hn:(if q=p then (-1:Int) else fr q)≠-1:=hn
  by_cases e:q=p
  ·rw [if_pos e] at hn;exact absurd rfl hn
  ·rw [if_neg e] at hn;exact C.fra.has q hq hn
 ·rw [eF];exact (Ker.become_F K' f 0 (-1) t c (Ne.symm hft)).trans (C.ft c hc)
 ·replace hg:(if q=p then (-1:Int) else fr q)=(g:Int):=hg
  by_cases e:q=p
  ·rw [if_pos e] at hg;omega
  ·rw [if_neg e] at hg;have hgf:g≠f:=λe'=>hfn q hq e (by rw [hg,e']);obtain ⟨a1,a2,a3⟩:=C.fp q hq g hg;exact ⟨(eF g 0).trans ((Ker.become_F K' f 0 (-1) g 0 hgf).trans a1),(eF g 1).trans ((Ker.become_F K' f 0 (-1) g 1 hgf).trans a2),λj hj=>(eF g _).trans ((Ker.become_F K' f 0 (-1) g _ hgf).trans (a3 j hj))⟩
 ·by_cases e:g=f
  ·subst e;refine (eF g c).trans ((M0 K' g 0 (-1) hc).trans ?_);rcases (c1A hc) with rfl|rfl|⟨j,hj,rfl⟩
   ·exact hf0.symm
   ·exact (S.inv.neat.fre g hf0).symm
   ·rw [if_neg (by omega),if_neg (by omega)];exact (S.inv.neat.zer g (.inl hf0) j hj).symm
  ·refine (eF g c).trans ((Ker.become_F K' f 0 (-1) g c e).trans (C.fo g hg (λq hq e'=>?_) c hc))
   by_cases e2:q=p
   ·subst e2;rw [hf] at e';omega
   ·exact hgn q hq (by rw [if_neg e2];exact e')
 ·rw [eS,if_neg (by omega)];exact C.s0
 ·rw [eS,if_neg (by omega)];exact C.s1
 ·rw [eS,if_neg (by omega)];exact C.s2
 ·rw [eS,if_neg (by omega)];exact C.cd
 ·show K''.S 1 (3+q*2)=if q=p then (-1:Int) else fr q
  rw [eS]
  by_cases e:q=p
  ·subst e;rw [if_pos (by omega),if_pos rfl]
  ·rw [if_neg (by omega),if_neg e];exact C.pg q hq
 ·show K''.B 1 (4+q*2)=((if q=p then (-1:Int) else fr q) != -1 && K.wr 0 q);rw [eB]
  by_cases e:q=p
  ·subst e;rw [if_pos (by omega),if_pos rfl];rfl
  ·rw [if_neg (by omega),if_neg e];exact C.wr q hq
 ·unfold Ker.file;rw [eS,if_neg (by omega)];exact C.fl x hx
 ·unfold Ker.end;rw [eB,if_neg (by omega)];exact C.en x hx
 ·rw [eS,if_neg (by omega)];exact C.so i hi c
 ·rw [eB,if_neg (by omega)];exact C.bo i hi c
theorem b5M (S:Sole K)(C:Kid K t fr gv kd cd K')(hkd:kd=1\/kd=3){x:Nat}(hx:x<4)(hg:gv x=true)(hpos:∀ d,d<K.nD->0<=K.D d 0->0<K.D d 3+K.D d 4):∃ K'',U9 K' 0 1 x=⟨K'',0,0⟩/\Kid K t fr (λy=>if y=x then false else gv y) kd cd K'':=by
 have hf:=C.gvf x hx hg;obtain ⟨d,hd,hdl,hd0⟩:=a9I S hx hf;have e1:K'.file 1 x=d:=by rw [C.fl x hx,if_pos hg,hd]
 have e2:K'.end 1 x=K.end 0 x:=by rw [C.en x hx,hg];rfl
 unfold U9;rw [if_neg (by rw [C.still hkd];decide),if_neg (by rw [e1];omega)];have C2:Kid K t fr (λy=>if y=x then false else gv y) kd cd ((K'.setFile 1 x (-1) false).count d (K.end 0 x) (-1)):=by
  refine a9H C hx (λy hy h=>?_) (λy hy=>if_neg hy) (by simp) (by simp) (λe=>?_) (λe=>?_)
  ·by_cases e:y=x
   ·subst e;exact hf
   ·exact C.gvf y hy (by simpa [e] using h)
  ·rw [a9D K e false hx hg,hd];have:((d:Int)=(e:Int)/\K.end 0 x=false)↔(e=d/\K.end 0 x=false):=⟨λq=>⟨by omega,q.2⟩,λq=>⟨by omega,q.2⟩⟩;simp only [this];split<;>omega
  ·rw [a9D K e true hx hg,hd];have:((d:Int)=(e:Int)/\K.end 0 x=true)↔(e=d/\K.end 0 x=true):=⟨λq=>⟨by omega,q.2⟩,λq=>⟨by omega,q.2⟩⟩;simp only [this];split<;>omega
 unfold Ker.closeFile;rw [e1,e2];simp only [Int.toNat_natCast];rw [if_neg]
 ·exact ⟨_,rfl,C2⟩
 ·rw [C2.d3,C2.d4];have:=a9E K (λy=>if y=x then false else gv y) d false;have:=a9E K (λy=>if y=x then false else gv y) d true;have:=hpos d hdl hd0;omega
structure Eqv (K K':Ker):Prop where
 nF:K'.nF=K.nF
 nS:K'.nS=K.nS
 nD:K'.nD=K.nD
 F:∀ i c,i<K.nF->c<6->K'.F i c=K.F i c
 S:∀ i c,i<K.nS->c<20->¬ isB c->K'.S i c=K.S i c
 B:∀ i c,i<K.nS->isB c->K'.B i c=K.B i c
 D:∀ i c,i<K.nD->c<5->K'.D i c=K.D i c
theorem a9K (S:Sole K)(C:Kid K t fr gv kd cd K')(hkd:kd=1\/kd=3)(h2:2<=K.nS)(hp:∀ p,p<4->fr p=-1)(hx:∀ x,x<4->gv x=false):∃ K'',O5 K' 0 1=⟨K'',cd,0⟩/\Eqv K K'':=by
 have hp':∀ p,p<4->K'.page 1 p=-1:=λp h=>(C.pg p h).trans (hp p h);have hx':∀ x,x<4->K'.file 1 x=-1:=λx h=>by rw [C.fl x h,hx x h];rfl
 have n1:=S.non 1 (Nat.le_refl _) (by omega);have N:=S.inv.neat;unfold O5;rw [if_neg (by rw [C.still hkd];decide),if_neg (by simp [hp']),if_neg (by simp [hx']),C.s2,C.cd];simp only [Int.toNat_natCast];refine ⟨_,rfl,?_⟩;have eF:∀ a c,((K'.become t 0 (-1)).noSlot 1).F a c=(K'.become t 0 (-1)).F a c:=λa c=>by rw [(a2b _ _).1]
 have eS:∀ a c,((K'.become t 0 (-1)).noSlot 1).S a c=if a=1 then (if c=0\/c=19 then 0 else -1) else K'.S a c:=λa c=>by rw [b5G,a0G]
 have eB:∀ a c,((K'.become t 0 (-1)).noSlot 1).B a c=if a=1 then false else K'.B a c:=λa c=>by rw [b5H,a3O]
 have eD:∀ a c,((K'.become t 0 (-1)).noSlot 1).D a c=K'.D a c:=λa c=>by rw [(a2b _ _).2.1,a0H]
 have e1:((K'.become t 0 (-1)).noSlot 1).nF=K'.nF:=by rw [(a2b _ _).2.2.1,(C5 _ _ _ _).1]
 have e2:((K'.become t 0 (-1)).noSlot 1).nS=K'.nS:=by rw [(a2b _ _).2.2.2.1,(C5 _ _ _ _).2.1]
 have e3:((K'.become t 0 (-1)).noSlot 1).nD=K'.nD:=by rw [(a2b _ _).2.2.2.2,(C5 _ _ _ _).2.2]
 generalize (K'.become t 0 (-1)).noSlot 1=K'' at *;refine ⟨e1.trans C.nF,e2.trans C.nS,e3.trans C.nD,λi c hi hc=>?_,λi c hi hc hb=>?_,λi c hi hb=>?_,λi c hi hc=>?_⟩
 ·rw [eF]
  by_cases e:i=t
  ·subst e;rw [M0 _ _ _ _ hc];have hf0:=C.fra.free;rcases (c1A hc) with rfl|rfl|⟨j,hj,rfl⟩
   ·exact hf0.symm
   ·exact (N.fre i hf0).symm
   ·rw [if_neg (by omega),if_neg (by omega)];exact (N.zer i (.inl hf0) j hj).symm
  ·rw [Ker.become_F _ _ _ _ _ _ e];exact C.fo i e (λp hp0=>by rw [hp p hp0];omega) c hc
 ·rw [eS]
  by_cases e:i=1
  ·subst e;rw [if_pos rfl]
   by_cases e0:c=0
   ·subst e0;simp [n1]
   ·have:=N.non 1 c hi n1 (by omega) hc hb;rw [this]
    by_cases e1:c=19
    ·simp [e1]
    ·rw [if_neg (by omega),if_neg e1]
  ·rw [if_neg e];exact C.so i e c
 ·rw [eB]
  by_cases e:i=1
  ·subst e;rw [if_pos rfl];rcases c2b hb with ⟨p,hp0,rfl⟩|⟨x,hx0,rfl⟩
   ·have h1:=N.page (by omega) n1 hp0;show _=K.wr 1 p
    cases hw:K.wr 1 p with
    | false=>rfl
    | true=>exact absurd h1 (S.inv.good.wr 1 p (by omega) hp0 hw)
   ·exact (N.fil 1 x hx0 (N.file (by omega) n1 hx0)).symm
  ·rw [if_neg e];exact C.bo i e c
 ·rw [eD];rcases (by omega:c<3\/c=3\/c=4) with h|rfl|rfl
  ·exact C.dd i c h
  ·rw [C.d3,a3N K i _ hx];omega
  ·rw [C.d4,a3N K i _ hx];omega
end
end Go.Proofs.YtcgabodkegcpgaaDoor
namespace Go.Proofs.YtcgabodkegcpgaaDoor
open Go.Conc Go.RowKit
open Br (X OpD KO SO SP sfO Lk Fit Must DL Liv Clear)
theorem a4Q {w:World}{b t n m:Nat}{f g:Nat->Value}(h:w.rowIs b t n f)(hn:n=m)(he:∀ i,i<n->g i=f i):w.rowIs b t m g:=by
 subst hn;obtain ⟨c,h1,h2,h3⟩:=h;exact ⟨c,h1,h2,λi hi=>by rw [he i hi];exact h3 i hi⟩
theorem b5N {w:World}{gF gS gD:Nat}{K K':Ker}(S:Snap w gF gS gD K')(E:Eqv K K'):Snap w gF gS gD K:=by
 refine ⟨a4Q S.f (by rw [E.nF]) λi hi=>?_,a4Q S.s (by rw [E.nS]) λi hi=>?_,a4Q S.d (by rw [E.nD]) λi hi=>?_⟩
 ·rw [E.nF] at hi;unfold C8;rw [E.F (i / 6) (i % 6) (by omega) (by omega)]
 ·rw [E.nS] at hi;unfold o0
  by_cases h:4<=i % 20/\i % 20<=18/\(i % 20) % 2=0
  ·rw [if_pos h,if_pos h,E.B (i / 20) (i % 20) (by omega) h]
  ·rw [if_neg h,if_neg h,E.S (i / 20) (i % 20) (by omega) (by omega) h]
 ·rw [E.nD] at hi;unfold a1z;rw [E.D (i / 5) (i % 5) (by omega) (by omega)]
theorem b3l {K K':Ker}(E:Eqv K K')(gF gS gD:Nat):A4 K' gF gS gD=A4 K gF gS gD:=by
 unfold A4;rw [E.nF,E.nS,E.nD]
theorem a9L (K:Ker):Eqv K K:=⟨rfl,rfl,rfl,λ_ _ _ _=>rfl,λ_ _ _ _ _=>rfl,λ_ _ _ _=>rfl,λ_ _ _ _=>rfl⟩
section
variable {kb:Kb} {l:List OpD} {K:Ker} {L:Nat->Option Lv} {r:Nat} {Inb:Nat->Option Seat} {nG:Nat} {w:World}
theorem a8D (co:Co kb l K L r Inb nG w){K1 K2:Ker}(hb:K1.nF<=32/\K1.nS<=32/\K1.nD<=32)(E:Eqv K1 K2){gF gS gD kF kS kD:Nat}(S1:Snap w gF gS gD K1)(S2:Snap w kF kS kD K2)
  (z1:sfO l gF=0/\sfO l gS=0/\sfO l gD=0)(z2:sfO l kF=0/\sfO l kS=0/\sfO l kD=0)(fr:Frame)(cs:List Frame)(d:Nat) :
  Must Tryd.prog true (DL true (sfO l)) (λg w'=>∃ x,g=G (fr.finish x) cs/\Grown w w'/\x=.bool true)
   (G (Frame.enter Tryd.prog 14 #[A4 K1 gF gS gD,A4 K2 kF kS kD] .normal) (fr::cs)) (w.at d):=by
 rw [b3l E];refine (a6o co hb rfl rfl rfl S1 (b5N S2 E) z1 z2 fr cs d).mono (λ_ _ _ h=>h) ?_;rintro g w' ⟨x,h1,h2,t,rfl,h3⟩;exact ⟨_,h1,h2,by rw [h3 rfl]⟩
end
theorem F8 {o:Oper}{a:Act}{ty:TypeId}{x:Operand}{b j:Nat}{cs:List Value}{d0:TypeDesc}{w:World}(hop:o.op=.load ty x)(hx:a.eval x=.pointer (some ⟨b,j,none⟩))(hr:w.rangeAt b j cs)(hu:Tryd.prog.underlying ty=some d0)(hd:d0.isRow=true)(hi:(Tryd.prog.info? ty).map (·.size)=some cs.length):(execOp a.eval o).run Tryd.prog w=.ok (.value (.agg cs.toArray)) w:=by
 have hl:=run_loadAt_mid (P:=Tryd.prog) w b j ty cs d0 hr hu hd hi;unfold execOp;simp only [hop,hx];simp only [Sem.run_bind,hl,Result.andThen_ok];rfl
theorem a9M {w:World}{b t:Nat}{c:Array Value}(h:w.heap[b]?=some (.cells c t (0,0))):w.rangeAt b 0 c.toList:=λj v hv=>by
 simp only [World.cell?,h,Nat.zero_add];simpa using hv
structure SnapL (kb:Kb) (b:Lb) (n:Nat) (l:List OpD) (w:World) (V:Nat->Value) (gF gS gD bx:Nat) (K:Ker):Prop where
 snap:Snap w gF gS gD K
 lf:∃ x,Loc kb b n l (λ_=>none) w V gF x
 ls:∃ x,Loc kb b n l (λ_=>none) w V gS x
 ld:∃ x,Loc kb b n l (λ_=>none) w V gD x
 lb:Loc kb b n l (λ_=>none) w V bx (.cells (a1q K gF gS gD) 45 (0,0))
section
variable {kb:Kb} {b:Lb} {n:Nat} {l l':List OpD} {w w':World} {V V':Nat->Value} {gF gS gD bx:Nat} {K:Ker}
theorem SnapL.move (h:SnapL kb b n l w V gF gS gD bx K)(hk:∀ k x,Loc kb b n l (λ_=>none) w V k x->Loc kb b n l' (λ_=>none) w' V' k x):SnapL kb b n l' w' V' gF gS gD bx K:=by
 obtain ⟨x1,h1⟩:=h.lf;obtain ⟨x2,h2⟩:=h.ls;obtain ⟨x3,h3⟩:=h.ld;refine ⟨h.snap.same λk hk'=>?_,⟨x1,hk _ _ h1⟩,⟨x2,hk _ _ h2⟩,⟨x3,hk _ _ h3⟩,hk _ _ h.lb⟩;rcases hk' with rfl|rfl|rfl
 ·rw [(hk _ _ h1).is,h1.is]
 ·rw [(hk _ _ h2).is,h2.is]
 ·rw [(hk _ _ h3).is,h3.is]
theorem SnapL.grown (h:SnapL kb b n l w V gF gS gD bx K)(g:Grown w w'):SnapL kb b n l w' V gF gS gD bx K:=h.move λ_ _ h=>h.grown g
theorem SnapL.sf (h:SnapL kb b n l w V gF gS gD bx K):sfO l gF=0/\sfO l gS=0/\sfO l gD=0:=by
 obtain ⟨x1,h1⟩:=h.lf;obtain ⟨x2,h2⟩:=h.ls;obtain ⟨x3,h3⟩:=h.ld;exact ⟨h1.mw.sf,h2.mw.sf,h3.mw.sf⟩
theorem a4R {r B0 nG:Nat}{K0:Ker}{Inb:Nat->Option Seat}{U:Nat->Option OpD}{N:Nat->Nat}{Xs:Nat->List Value}(co:Co kb l K0 (λ_=>none) r Inb nG w)(lm:LibM kb l (λ_=>none) w b n B0 U V N Xs)(hs:Snap w' gF gS gD K)(h1:w.heap.size<=gF)(h2:w.heap.size<=gS)(h3:w.heap.size<=gD)(h4:w.heap.size<=bx)(hb:w'.heap[bx]?=some (.cells (a1q K gF gS gD) 45 (0,0))):SnapL kb b n l w' V gF gS gD bx K:=by
 obtain ⟨c1,e1,_⟩:=hs.f;obtain ⟨c2,e2,_⟩:=hs.s;obtain ⟨c3,e3,_⟩:=hs.d;exact ⟨hs,⟨_,a0Z co lm h1 e1⟩,⟨_,a0Z co lm h2 e2⟩,⟨_,a0Z co lm h3 e3⟩,a0Z co lm h4 hb⟩
end
section
variable {sz:Nat} {env:List (Nat × Value)} {l:List OpD} {Stop:Goroutine->World->Prop} {f:FuncId} {a:Act} {ops:Array Oper} {A B t1 t2 t3 t4:Nat} {k:List Item} {cs:List Frame} {w:World}
theorem b2D {kb:Kb}{b:Lb}{m:Nat}{V:Nat->Value}{K:Ker}{L:Nat->Option Lv}{r:Nat}{Inb:Nat->Option Seat}{nG n ta tb:Nat}(co:Co kb l K L r Inb nG w){K1 K2:Ker}(hb:K1.nF<=32/\K1.nS<=32/\K1.nD<=32)(E:Eqv K1 K2){gF gS gD b1 kF kS kD b2:Nat}(S1:SnapL kb b m l w V gF gS gD b1 K1)(S2:SnapL kb b m l w V kF kS kD b2 K2)
  (hr:List.range ops.size=[0,1,2,3])(o1:Is ops 0 (.load 45 (.tmp A)) (some t1))(o2:Is ops 1 (.load 45 (.tmp B)) (some t2))(o3:Is ops 2 (.call { callee:=.value (.func 14),args:=#[.tmp t1,.tmp t2],argTypes:=#[ta,tb] }) (some t3))(o4:Is ops 3 (.assign (.tmp t3)) (some t4))
  (hd:[t1,t2,t3,t4].Nodup)(hz:t1<sz/\t2<sz/\t3<sz/\t4<sz/\B≠t1)(hA:Lvs sz env a)(h1:(A,.pointer (some ⟨b1,0,none⟩))∈env)(h2:(B,.pointer (some ⟨b2,0,none⟩))∈env)
  (hn:∀ a' w',Grown w w'->Lvs sz ((t4,.bool true)::a1V [t1,t2,t3,t4] env) a'->Liv Tryd.prog true true (sfO l) Stop (G ((base f).at a' k) cs) w') :
  Liv Tryd.prog true true (sfO l) Stop (G ((base f).at a (.code (.region n ops false)::k)) cs) w:=by
 simp only [List.nodup_cons,List.mem_cons,List.not_mem_nil,or_false,not_or,not_false_eq_true,List.nodup_nil,and_true] at hd;obtain ⟨⟨d12,d13,d14⟩,⟨d23,d24⟩,d34⟩:=hd;obtain ⟨z1,z2,z3,z4,zB⟩:=hz;have hE:∀ p∈a1V [t1,t2,t3,t4] env,p∈env/\p.1≠t1/\p.1≠t2/\p.1≠t3/\p.1≠t4:=λp hp=>by
  obtain ⟨h1,h2⟩:=a5S.1 hp;simp only [List.mem_cons,List.not_mem_nil,or_false,not_or] at h2;exact ⟨h1,h2⟩
 have ld:∀ (K:Ker) (gF gS gD bx:Nat),w.heap[bx]?=some (.cells (a1q K gF gS gD) 45 (0,0))->∀ (a:Act) (o:Oper) (x:Operand) d,o.op=.load 45 x->a.eval x=.pointer (some ⟨bx,0,none⟩)->(execOp a.eval o).run Tryd.prog (w.at d)=.ok (.value (A4 K gF gS gD)) (w.at d):=λK gF gS gD bx hX a o x d ho hx =>
  F8 (cs:=(a1q K gF gS gD).toList) ho hx (a9M (w:=w.at d) hX) Tryd.underlying45 rfl (by kernel_rfl)
 refine g9 hr ?_;refine a1C (v:=A4 K1 gF gS gD) (env':=(t1,A4 K1 gF gS gD)::(B,.pointer (some ⟨b2,0,none⟩))::a1V [t1,t2,t3,t4] env) o1 rfl hA z1 (λo ho d=>ld K1 gF gS gD b1 S1.lb.is a o _ d ho (O4 hA h1)) (λp hp=>?_) (λa hA=>?_)
 ·rcases List.mem_cons.1 hp with rfl|hp
  ·exact .inl rfl
  ·rcases List.mem_cons.1 hp with rfl|hp
   ·exact .inr ⟨h2,zB⟩
   ·exact .inr ⟨(hE p hp).1,(hE p hp).2.1⟩
 refine a1C (v:=A4 K2 kF kS kD) (env':=(t2,A4 K2 kF kS kD)::(t1,A4 K1 gF gS gD)::a1V [t1,t2,t3,t4] env) o2 rfl hA z2 (λo ho d=>ld K2 kF kS kD b2 S2.lb.is a o _ d ho (O4 hA (List.mem_cons_of_mem _ (List.mem_cons_self ..)))) (λp hp=>?_) (λa hA=>?_)
 ·rcases List.mem_cons.1 hp with rfl|hp
  ·exact .inl rfl
  ·rcases List.mem_cons.1 hp with rfl|hp
   ·exact .inr ⟨List.mem_cons_self ..,d12⟩
   ·exact .inr ⟨List.mem_cons_of_mem _ (List.mem_cons_of_mem _ hp),(hE p hp).2.2.1⟩
 obtain ⟨o,ho,hop,hdd,hg⟩:=o3;have e1:=O4 hA (List.mem_cons_of_mem _ (List.mem_cons_self ..));have e2:=O4 hA (List.mem_cons_self ..);refine a0t (vs:=#[A4 K1 gF gS gD,A4 K2 kF kS kD]) hA ho hg (by show CallKind.normal≠.early;decide) hop hdd z3 Tryd.func14 rfl rfl (by simp only [List.map_toArray,List.map_cons,List.map_nil,e1,e2]) (λfr cs d=>a8D co hb E S1.snap S2.snap S1.sf S2.sf fr cs d) (λu w1 hR a hA=>?_);obtain ⟨hG,rfl⟩:=hR;refine a1C (v:=.bool true) (env':=(t4,.bool true)::a1V [t1,t2,t3,t4] env) o4 rfl hA z4 (λo ho d=>P6 ho (O4 hA (List.mem_cons_self ..))) (λp hp=>?_) (λa hA=>?_)
 ·rcases List.mem_cons.1 hp with rfl|hp
  ·exact .inl rfl
  ·exact .inr ⟨List.mem_cons_of_mem _ (List.mem_filter.2 ⟨List.mem_cons_of_mem _ (List.mem_cons_of_mem _ hp),by simpa using (hE p hp).2.2.2.1⟩),(hE p hp).2.2.2.2⟩
 exact Br.a9 (hn a w1 hG hA)
end
def a9N:Array Value:=#[.int .i64 0,.int .i64 0,.int .i64 0,.int .i64 0,.bool false,.int .i64 0,.bool false,.int .i64 0,.bool false,.int .i64 0,.bool false,.int .i64 0,.bool false,.int .i64 0,.bool false,.int .i64 0,.bool false,.int .i64 0,.bool false,.int .i64 0]
theorem b2E {sz:Nat}{env env':List (Nat × Value)}{main:Bool}{l:List OpD}{Stop:Goroutine->World->Prop}{f:FuncId}{a:Act}{ops:Array Oper}{i p y D q g:Nat}{K:Ker}{k:List Item}{cs:List Frame}{w:World}(hft:Fit (sfO l) w)(hko:KO l w)(o1:Is ops i (.load 55 (.tmp p)) (some y))(o2:Is ops (i+1) (.alloc 55) (some D))(o3:Is ops (i+2) (.store 55 (.tmp D) (.tmp y)) none)
  (hr:w.rangeAt g q (cut (o0 K) q 20))(hA:Lvs sz env a)(hp:(p,.pointer (some ⟨g,q,none⟩))∈env)(hb:y<sz/\D<sz/\y≠D)(he:∀ x∈env',x=(D,.pointer (some ⟨w.heap.size,0,none⟩))\/(x∈env/\x.1≠y/\x.1≠D))
  (h:∀ a' w',Grown w w'->w'.heap[w.heap.size]?=some (.cells (cut (o0 K) q 20).toArray 55 (0,0))->w'.heap.size=w.heap.size+1->Lvs sz env' a'->Liv Tryd.prog main true (sfO l) Stop (G ((base f).at a' k) cs) w') :
  Liv Tryd.prog main true (sfO l) Stop (G ((base f).at a (.inRegion ops [i,i+1,i+2] :: k)) cs) w:=by
 obtain ⟨b1,b2,b3⟩:=hb;have len:(cut (o0 K) q 20).length=20:=A5 _ _ _;refine a1C (v:=.agg (cut (o0 K) q 20).toArray) (env':=(y,.agg (cut (o0 K) q 20).toArray)::env.filter (λx=>x.1 != y)) o1 rfl hA b1 (λo ho d=>F8 ho (O4 hA hp) (show w.rangeAt g q _ from hr) Tryd.underlying55 rfl (by rw [len];kernel_rfl)) (λx hx=>?_) (λa hA=>?_)
 ·rcases List.mem_cons.1 hx with rfl|hx
  ·exact .inl rfl
  ·obtain ⟨h1,h2⟩:=List.mem_filter.1 hx;exact .inr ⟨h1,by simpa using h2⟩
 refine a5T (c:=(cut (o0 K) q 20).toArray) (c0:=a9N) (env':=env') hft hko o2 o3 (λo' ho' v=>?_) (by simp [A5];rfl) (by simp only [List.size_toArray,len];kernel_rfl) (a5I K q 20) hA (List.mem_cons_self ..) b2 b3 (λx hx=>?_) (λa w' hG hX hz hA=>Br.a9 (h a w' hG hX hz hA))
 ·constructor
  ·unfold execOp a9N;simp only [ho'];go_simp;try rfl
  ·unfold execOp;simp only [ho'];simp [go_sem]
 ·rcases he x hx with h|⟨h1,h2,h3⟩
  ·exact .inl h
  ·exact .inr ⟨List.mem_cons_of_mem _ (List.mem_filter.2 ⟨h1,by simpa using h2⟩),h3⟩
theorem a5D {o:Oper}{a:Act}{t:TypeId}{x y:Operand}{A B:List Value}{w:World}(hop:o.op=.binOp .neq t x y t)(hx:a.eval x=.agg A.toArray)(hy:a.eval y=.agg B.toArray)(hm:(Tryd.prog).eqGuardType (Tryd.prog).depth t=false)(hc:Cmp t A B true):(execOp a.eval o).run Tryd.prog w=.ok (.value (.bool false)) w:=by
 have h1:=hc w;have h2:=run_eqGuard_agg (P:=Tryd.prog) (w:=w) .neq t x y A.toArray B.toArray hm;unfold execOp;simp only [hop,hx,hy,Sem.run_bind,h2,h1,Result.andThen_ok];rfl
end Go.Proofs.YtcgabodkegcpgaaDoor
