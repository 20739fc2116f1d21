/- Forks, purely: what is made ahead of the Fork: pages, words, pipes. -/
import Derived.Test.YtcgabodkegcpgaaDoorEnz
import Derived.Test.YtcgabodkegcpgaaDoorFfg
import Derived.Test.YtcgabodkegcpgaaDoorFfh
import Derived.Test.YtcgabodkegcpgaaDoorFfl
import Derived.Test.YtcgabodkegcpgaaDoorFfm
set_option linter.unusedVariables false
set_option linter.unusedSimpArgs false
set_option maxHeartbeats 20000000
set_option maxRecDepth 100000
namespace Go.Proofs.YtcgabodkegcpgaaDoor
theorem a7R {K K':Ker}{f:Nat}(hf:f<K.nF)(h0:K.F f 0=0)(h1:K'.F f 0≠0)(hn:K'.nF=K.nF)(hs:∀ g,g≠f->K'.F g 0=K.F g 0):(D5 K' K'.nF).length+1=(D5 K K.nF).length:=by
 unfold D5;rw [List.length_map,List.length_map,hn];have e:((List.range K.nF).filter λj=>K'.F j 0 == 0)=((List.range K.nF).filter λj=>K.F j 0 == 0).erase f:=by
  rw [List.Nodup.erase_eq_filter (List.Pairwise.filter _ List.nodup_range),List.filter_filter];refine List.filter_congr λj _=>?_
  by_cases e:j=f
  ·subst e;simp [h1]
  ·rw [hs j e];have:(j != f)=true:=by simpa using e
   simp [this]
 have hm:f∈(List.range K.nF).filter λj=>K.F j 0 == 0:=List.mem_filter.2 ⟨List.mem_range.2 hf,by simpa using h0⟩;have hp:=List.length_pos_of_mem hm;rw [e,List.length_erase_of_mem hm];omega
theorem b3m {K K':Ker}(hn:K'.nF=K.nF)(hs:∀ g,K'.F g 0=K.F g 0):D5 K' K'.nF=D5 K K.nF:=by
 unfold D5;rw [hn];simp only [hs]
structure Fk (K:Ker) (had rings pi ri:Nat):Prop where
 sole:Sole K
 free:(D5 K K.nF).length+1+had+rings=K.nF
 pg:(pgs K 0).length=had
 pn:∀ p,pi<=p->p<4->K.page 0 p=-1
 dn:∀ d,ri<=d->d<K.nD->K.D d 0=-1
 fn:∀ x,2*ri<=x->x<4->K.file 0 x=-1
section
variable {K:Ker} {had rings pi ri:Nat}
theorem Fk.skip (h:Fk K had rings pi ri):Fk K had rings (pi+1) ri:=⟨h.sole,h.free,h.pg,λp hp=>h.pn p (by omega),h.dn,h.fn⟩
theorem Fk.skip2 (h:Fk K had rings pi ri):Fk K had rings pi (ri+1):=⟨h.sole,h.free,h.pg,h.pn,λd hd=>h.dn d (by omega),λx hx=>h.fn x (by omega)⟩
theorem Fk.same {K':Ker}(h:Fk K had rings pi ri)(I:Invb K')(e1:K'.nF=K.nF)(e2:K'.nS=K.nS)(e3:K'.nD=K.nD)(eF:∀ g,K'.F g 0=K.F g 0)(eS:∀ i c,K'.S i c=K.S i c)(eD:∀ d,K'.D d 0=K.D d 0):Fk K' had rings pi ri:=by
 refine ⟨⟨I,by rw [e2];exact h.sole.pos,(eS _ _).trans h.sole.rdy,(eS _ _).trans h.sole.par,λi h1 h2=>(eS _ _).trans (h.sole.non i h1 (by rw [← e2];exact h2))⟩,by rw [b3m e1 eF,e1];exact h.free,?_,λp h1 h2=>(eS _ _).trans (h.pn p h1 h2),λd h1 h2=>(eD d).trans (h.dn d h1 (by rw [← e3];exact h2)),λx h1 h2=>(eS _ _).trans (h.fn x h1 h2)⟩;rw [← h.pg];unfold pgs;simp only [eS]
theorem b5O (h:Fk K had rings pi ri)(p j v:Int):Fk (o8 K 0 19 p j v).K had rings pi ri:=by
 have I:=a0A h.sole.inv 0 19 p j v;revert I;unfold o8;split
 ·exact λ_=>h
 split
 ·exact λ_=>h
 split
 ·exact λ_=>h
 show Invb (J4 K 0 p.toNat j.toNat v).K->_;show _->Fk (J4 K 0 p.toNat j.toNat v).K had rings pi ri;unfold J4;split
 ·exact λ_=>h
 ·intro I;exact h.same I rfl rfl rfl (λg=>f8 K.F _ _ _ g 0 (by omega)) (λ_ _=>rfl) (λ_=>rfl)
theorem b1b (h:Fk K had rings pi ri)(p v:Int):Fk (o8 K 0 4 p v 0).K had rings pi ri:=by
 have I:=a0A h.sole.inv 0 4 p v 0;revert I;unfold o8;split
 ·exact λ_=>h
 split
 ·exact λ_=>h
 split
 ·exact λ_=>h
 show Invb (D8 K 0 p.toNat v).K->_;show _->Fk (D8 K 0 p.toNat v).K had rings pi ri;unfold D8;split
 ·exact λ_=>h
 ·intro I;exact h.same I rfl rfl rfl (λ_=>rfl) (λ_ _=>rfl) (λ_=>rfl)
theorem b8J (h:Fk K had rings pi ri)(hp:pi<4)(hf:had+rings+1<K.nF):∃ K',T8 0 7 pi 0 K 1 0 0 K'/\Fk K' (had+1) rings (pi+1) ri/\K'.nF=K.nF/\K'.nS=K.nS/\K'.nD=K.nD:=by
 have hl:=h.free
 cases hx:D5 K K.nF with
 | nil=>rw [hx] at hl;simp at hl;omega
 | cons x r =>
  obtain ⟨f,e1,e2,e3⟩:=a3K K x (by rw [hx];exact List.mem_cons_self ..);have hpn:=h.pn pi (Nat.le_refl _) hp;have hc:o8 K 0 2 pi x 0=⟨(K.become f 2 (0:Nat)).setPage 0 pi f true,0,0⟩:=by
   have hk:a0s K 0 pi f=⟨(K.become f 2 (0:Nat)).setPage 0 pi f true,0,0⟩:=by
    unfold a0s;rw [if_neg (by simp [hpn]),if_neg (by simp [e3])]
   rw [← hk,e1];exact M6 (slot:=0) (call:=2) (a:=(pi:Int)) (b:=(f:Int)) (c:=0) (by decide) (by decide) h.sole.pos h.sole.rdy (C9 (by show (pi:Int)<4;omega)) (C9 (by show (f:Int)<K.nF;omega)) rfl
  have I:=a0A h.sole.inv 0 2 pi x 0;rw [hc] at I;have eF:∀ g,((K.become f 2 (0:Nat)).setPage 0 pi f true).F g 0=if g=f then 2 else K.F g 0:=λg=>by
   rw [(D9 _ _ _ _ _).1]
   by_cases e:g=f
   ·rw [if_pos e,e,M0 _ _ _ _ (by omega)];rfl
   ·rw [if_neg e,Ker.become_F _ _ _ _ _ _ e]
  have eS:∀ a c,((K.become f 2 (0:Nat)).setPage 0 pi f true).S a c=if a=0/\c=3+pi*2 then (f:Int) else K.S a c:=λa c=>by rw [a4P,a0G]
  have eD:∀ d,((K.become f 2 (0:Nat)).setPage 0 pi f true).D d 0=K.D d 0:=λd=>by rw [(D9 _ _ _ _ _).2.1,a0H]
  have n1:((K.become f 2 (0:Nat)).setPage 0 pi f true).nF=K.nF:=by rw [(D9 _ _ _ _ _).2.2.1,(C5 _ _ _ _).1]
  have n2:((K.become f 2 (0:Nat)).setPage 0 pi f true).nS=K.nS:=by rw [(D9 _ _ _ _ _).2.2.2.1,(C5 _ _ _ _).2.1]
  have n3:((K.become f 2 (0:Nat)).setPage 0 pi f true).nD=K.nD:=by rw [(D9 _ _ _ _ _).2.2.2.2,(C5 _ _ _ _).2.2]
  refine ⟨_,?_,?_,n1,n2,n3⟩
  ·unfold T8 N3;rw [if_neg (by decide),if_neg (by decide),if_neg (by decide),if_neg (by decide),if_neg (by decide),if_neg (by decide),if_pos rfl,M.bind_then,hx];refine a1Z (f:=r.length) (v:=0) hc ?_;exact .nil _ _
  ·dsimp only at I;generalize (K.become f 2 (0:Nat)).setPage 0 pi f true=K' at *;have hfl:=a7R (K:=K) (K':=K') e2 e3 (by rw [eF,if_pos rfl];decide) n1 (λg hg=>by rw [eF,if_neg hg]);refine ⟨⟨I,by rw [n2];exact h.sole.pos,by rw [eS,if_neg (by omega)];exact h.sole.rdy,by rw [eS,if_neg (by omega)];exact h.sole.par,λi h1 h2=>by rw [eS,if_neg (by omega)];exact h.sole.non i h1 (by rw [← n2];exact h2)⟩,(by have:=h.free;rw [n1] at hfl ⊢;omega),?_,λp h1 h2=>?_,λd h1 h2=>(eD d).trans (h.dn d h1 (by rw [← n3];exact h2)),λy h1 h2=>?_⟩
   ·have hpg:=h.pg;have hm:pi ∉ pgs K 0:=λhm=>((Y8 K 0 pi).1 hm).2 hpn;have e:pgs K 0=(pgs K' 0).erase pi:=by
     unfold pgs a2a;rw [List.Nodup.erase_eq_filter (List.Pairwise.filter _ List.nodup_range),List.filter_filter];refine List.filter_congr λj hj=>?_;show (K.S 0 (3+j*2) != -1)=((j != pi) && (K'.S 0 (3+j*2) != -1));rw [eS]
     by_cases e:j=pi
     ·subst e;have:K.S 0 (3+j*2)=-1:=hpn;simp [this]
     ·rw [if_neg (by omega)];have:(j != pi)=true:=by simpa using e
      simp [this]
    have hm':pi∈pgs K' 0:=by
     rw [Y8];refine ⟨hp,?_⟩;unfold Ker.page;rw [eS,if_pos (by omega)];omega
    have:=List.length_erase_of_mem hm';have hp:=List.length_pos_of_mem hm';rw [← e] at this;omega
   ·unfold Ker.page;rw [eS,if_neg (by omega)];exact h.pn p (by omega) h2
   ·unfold Ker.file;rw [eS,if_neg (by omega)];exact h.fn y h1 h2
end
theorem O8 (K:Ker)(s x d:Nat)(b:Bool):(K.openFile s x d b).F=K.F/\(K.openFile s x d b).nF=K.nF/\(K.openFile s x d b).nS=K.nS/\(K.openFile s x d b).nD=K.nD:=by
 unfold Ker.openFile;obtain ⟨e1,e2,e3,e4,e5,e6⟩:=a5X (K.setFile s x d b) d b 1;rw [e1,e4,e5,e6];exact ⟨rfl,rfl,rfl,rfl⟩
theorem a5Y (K:Ker)(s x d:Nat)(b:Bool)(i c:Nat):(K.openFile s x d b).S i c=if i=s/\c=11+x*2 then (d:Int) else K.S i c:=by
 unfold Ker.openFile;rw [(a5X (K.setFile s x d b) d b 1).2.1];rfl
theorem a5Z (K:Ker)(s x d:Nat)(b:Bool)(e:Nat):(K.openFile s x d b).D e 0=K.D e 0:=by
 unfold Ker.openFile;rw [a3P,if_neg (by omega),Int.add_zero];rfl
theorem a2c (K:Ker)(d:Nat)(f:Int):(K.noDuct d f).F=K.F/\(K.noDuct d f).S=K.S/\(K.noDuct d f).nF=K.nF/\(K.noDuct d f).nS=K.nS/\(K.noDuct d f).nD=K.nD:=⟨rfl,rfl,rfl,rfl,rfl⟩
theorem b3n (K:Ker)(d:Nat)(f:Int)(e:Nat):(K.noDuct d f).D e 0=if e=d then f else K.D e 0:=by
 unfold Ker.noDuct;simp only [b8B,upd]
 by_cases h:e=d
 ·simp [h]
 ·simp [h]
theorem c0u (nF nS nD:Nat)(h1:2<=nF)(h2:1<=nS)(h3:nS<=6):Fk (D7 nF nS nD) 0 0 0 0:=by
 have eS:∀ a c,(D7 nF nS nD).S a c=if a=0/\c=2 then 0 else if a=0/\c=0 then 2 else if c=0\/c=19 then 0 else -1:=λa c=>by
  unfold D7;simp only [b2z,a0G,upd];rfl
 have eF:∀ g,(D7 nF nS nD).F g 0=if g=0 then 1 else 0:=λg=>by
  unfold D7;simp only [b2y]
  by_cases e:g=0
  ·subst e;rw [M0 _ _ _ _ (by omega)];rfl
  ·rw [Ker.become_F _ _ _ _ _ _ e,if_neg e];rfl
 have eD:∀ d,(D7 nF nS nD).D d 0=-1:=λd=>by
  unfold D7;simp only [b2A,a0H];rfl
 have n1:(D7 nF nS nD).nF=nF:=by unfold D7;simp only [Ker.setS_nF,(C5 _ _ _ _).1];rfl
 have n2:(D7 nF nS nD).nS=nS:=by unfold D7;simp only [Ker.setS_nS,(C5 _ _ _ _).2.1];rfl
 have I:=b0g nF nS nD h1 h2 h3;have pn:∀ p,p<4->(D7 nF nS nD).page 0 p=-1:=λp hp=>by
  unfold Ker.page;rw [eS,if_neg (by omega),if_neg (by omega),if_neg (by omega)]
 refine ⟨⟨I,by rw [n2];exact h2,by rw [eS,if_neg (by omega),if_pos (by omega)],by rw [eS,if_neg (by omega),if_neg (by omega),if_neg (by omega)],λi hi _=>by rw [eS,if_neg (by omega),if_neg (by omega),if_pos (by omega)]⟩,?_,?_,λp _ hp=>pn p hp,λd _ _=>eD d,λx _ hx=>?_⟩
 ·rw [n1];unfold D5;rw [List.length_map];have e:((List.range nF).filter λj=>(D7 nF nS nD).F j 0 == 0)=(List.range nF).erase 0:=by
   rw [List.Nodup.erase_eq_filter List.nodup_range];refine List.filter_congr λj _=>?_;rw [eF]
   by_cases e:j=0
   ·subst e;rfl
   ·rw [if_neg e];have:(j != 0)=true:=by simpa using e
    rw [this];rfl
  have hm:0∈List.range nF:=List.mem_range.2 (by omega);rw [e,List.length_erase_of_mem hm,List.length_range];omega
 ·have:pgs (D7 nF nS nD) 0=[]:=by
   rw [List.eq_nil_iff_forall_not_mem];intro q hq;obtain ⟨h4,h5⟩:=(Y8 _ _ _).1 hq;exact h5 (pn q h4)
  rw [this];rfl
 ·unfold Ker.file;rw [eS,if_neg (by omega),if_neg (by omega),if_neg (by omega)]
section
variable {K:Ker} {had rings pi ri:Nat}
theorem b8K (h:Fk K had rings pi ri)(hr:ri<2)(hd:ri<K.nD)(hf:had+rings+1<K.nF):∃ K',T8 0 3 ri ((2*ri:Nat):Int) K 1 0 0 K'/\Fk K' had (rings+1) pi (ri+1)/\K'.nF=K.nF/\K'.nS=K.nS/\K'.nD=K.nD:=by
 have hl:=h.free
 cases hx:D5 K K.nF with
 | nil=>rw [hx] at hl;simp at hl;omega
 | cons x r =>
  obtain ⟨f,e1,e2,e3⟩:=a3K K x (by rw [hx];exact List.mem_cons_self ..);have hdn:=h.dn ri (Nat.le_refl _) hd;have hc:o8 K 0 13 ri x ((2*ri:Nat):Int)=⟨((((K.become f 3 (-1)).noDuct ri f).openFile 0 (2*ri) ri false).openFile 0 (2*ri+1) ri true),0,0⟩:=by
   have hk:G3 K 0 ri f (2*ri)=⟨((((K.become f 3 (-1)).noDuct ri f).openFile 0 (2*ri) ri false).openFile 0 (2*ri+1) ri true),0,0⟩:=by
    unfold G3;rw [if_neg (by simp [hdn]),if_neg (by simp [e3]),if_neg (by rw [h.fn (2*ri) (by omega) (by omega),h.fn (2*ri+1) (by omega) (by omega)];omega)]
   rw [← hk,e1];exact M6 (slot:=0) (call:=13) (a:=(ri:Int)) (b:=(f:Int)) (c:=((2*ri:Nat):Int)) (by decide) (by decide) h.sole.pos h.sole.rdy (C9 (by show (ri:Int)<K.nD;omega)) (C9 (by show (f:Int)<K.nF;omega)) (C9 (by show ((2*ri:Nat):Int)<4;omega))
  have I:=a0A h.sole.inv 0 13 ri x ((2*ri:Nat):Int);rw [hc] at I;have eF:∀ g,((((K.become f 3 (-1)).noDuct ri f).openFile 0 (2*ri) ri false).openFile 0 (2*ri+1) ri true).F g 0=if g=f then 3 else K.F g 0:=λg=>by
   rw [(O8 _ _ _ _ _).1,(O8 _ _ _ _ _).1,(a2c _ _ _).1]
   by_cases e:g=f
   ·rw [if_pos e,e,M0 _ _ _ _ (by omega)];rfl
   ·rw [if_neg e,Ker.become_F _ _ _ _ _ _ e]
  have eS:∀ a c,((((K.become f 3 (-1)).noDuct ri f).openFile 0 (2*ri) ri false).openFile 0 (2*ri+1) ri true).S a c=if a=0/\c=11+(2*ri+1)*2 then (ri:Int) else if a=0/\c=11+(2*ri)*2 then (ri:Int) else K.S a c:=λa c=>by rw [a5Y,a5Y,(a2c _ _ _).2.1,a0G]
  have eD:∀ d,((((K.become f 3 (-1)).noDuct ri f).openFile 0 (2*ri) ri false).openFile 0 (2*ri+1) ri true).D d 0=if d=ri then (f:Int) else K.D d 0:=λd=>by rw [a5Z,a5Z,b3n,a0H]
  have n1:((((K.become f 3 (-1)).noDuct ri f).openFile 0 (2*ri) ri false).openFile 0 (2*ri+1) ri true).nF=K.nF:=by rw [(O8 _ _ _ _ _).2.1,(O8 _ _ _ _ _).2.1,(a2c _ _ _).2.2.1,(C5 _ _ _ _).1]
  have n2:((((K.become f 3 (-1)).noDuct ri f).openFile 0 (2*ri) ri false).openFile 0 (2*ri+1) ri true).nS=K.nS:=by rw [(O8 _ _ _ _ _).2.2.1,(O8 _ _ _ _ _).2.2.1,(a2c _ _ _).2.2.2.1,(C5 _ _ _ _).2.1]
  have n3:((((K.become f 3 (-1)).noDuct ri f).openFile 0 (2*ri) ri false).openFile 0 (2*ri+1) ri true).nD=K.nD:=by rw [(O8 _ _ _ _ _).2.2.2,(O8 _ _ _ _ _).2.2.2,(a2c _ _ _).2.2.2.2,(C5 _ _ _ _).2.2]
  refine ⟨_,?_,?_,n1,n2,n3⟩
  ·unfold T8 N3;rw [if_neg (by decide),if_neg (by decide),if_pos rfl,M.bind_then,hx];refine a1Z (f:=r.length) (v:=0) hc ?_;exact .nil _ _
  ·dsimp only at I;generalize (((K.become f 3 (-1)).noDuct ri f).openFile 0 (2*ri) ri false).openFile 0 (2*ri+1) ri true=K' at *;have hfl:=a7R (K:=K) (K':=K') e2 e3 (by rw [eF,if_pos rfl];decide) n1 (λg hg=>by rw [eF,if_neg hg]);refine ⟨⟨I,by rw [n2];exact h.sole.pos,by rw [eS,if_neg (by omega),if_neg (by omega)];exact h.sole.rdy,by rw [eS,if_neg (by omega),if_neg (by omega)];exact h.sole.par,λi h1 h2=>by rw [eS,if_neg (by omega),if_neg (by omega)];exact h.sole.non i h1 (by rw [← n2];exact h2)⟩,(by have:=h.free;rw [n1] at hfl ⊢;omega),?_,λp h1 h2=>?_,λd h1 h2=>?_,λy h1 h2=>?_⟩
   ·rw [← h.pg];refine congrArg List.length (a9A λq hq=>?_);rw [eS,if_neg (by omega),if_neg (by omega)]
   ·unfold Ker.page;rw [eS,if_neg (by omega),if_neg (by omega)];exact h.pn p h1 h2
   ·rw [eD,if_neg (by omega)];exact h.dn d (by omega) (by rw [← n3];exact h2)
   ·unfold Ker.file;rw [eS,if_neg (by omega),if_neg (by omega)];exact h.fn y (by omega) h2
end
end Go.Proofs.YtcgabodkegcpgaaDoor
namespace Go.Proofs.YtcgabodkegcpgaaDoor
open Go.Conc Go.RowKit
open Br (X OpD KO SO SP sfO Lk Fit Must DL Liv Clear)
theorem Lvs.putNe {sz:Nat}{env:List (Nat × Value)}{a:Act}(h:Lvs sz env a){d:Nat}(hd:d<sz)(v:Value){env':List (Nat × Value)}(he:((d,v)::env.filter (λp=>p.1 != d))=env'):Lvs sz env' (a.put (some d) v):=by
 subst he;exact h.put hd v
def a8E (W:World)(wa:Option Addr)(ws:List Int):Prop:=∀ i x,ws[i]?=some x->∃ g o,wa=some ⟨g,o,none⟩/\g<W.heap.size/\W.cell? ⟨g,o+i,none⟩=some (.int .i64 x)
theorem CI.lo {w0:World}{kb:Kb}{b:Lb}{n i:Nat}{l:List OpD}{K:Ker}{L:Nat->Option Lv}{r:Nat}{Inb:Nat->Option Seat}{nG:Nat}{w:World}{U:Nat->Option OpD}{V:Nat->Value}{N:Nat->Nat}{Xs:Nat->List Value}(h:CI w0 kb b n i l K L r Inb nG w U V N Xs):w0.heap.size<=w.heap.size:=by
 rcases Nat.lt_or_ge w0.heap.size 1 with h1|h1
 ·omega
 ·have:=(h.old (w0.heap.size - 1) (by omega)).1.lt;omega
structure FI (W:World) (kb:Kb) (b:Lb) (n:Nat) (l:List OpD) (K:Ker) (Inb:Nat->Option Seat) (nG:Nat) (w:World) (V:Nat->Value) (N:Nat->Nat) (Xs:Nat->List Value) (cB nF nD had rings pi ri:Nat):Prop where
 ci:∀ r,CI W kb b n (had+rings) l K (λ_=>none) r Inb nG w (λ_=>none) V N Xs
 fk:Fk K had rings pi ri
 loc:Loc kb b n l (λ_=>none) w V cB (.cells #[.int .i64 nF,.int .i64 n,.int .i64 nD] 30 (0,0))
 hF:K.nF=nF
 hD:K.nD=nD
section
variable {W:World} {kb:Kb} {b:Lb} {n:Nat} {l:List OpD} {K:Ker} {Inb:Nat->Option Seat} {nG:Nat} {w:World} {V:Nat->Value} {N:Nat->Nat} {Xs:Nat->List Value} {cB nF nD had rings pi ri:Nat}
theorem FI.grown (h:FI W kb b n l K Inb nG w V N Xs cB nF nD had rings pi ri){w':World}(g:Grown w w'):FI W kb b n l K Inb nG w' V N Xs cB nF nD had rings pi ri:=⟨λr=>(h.ci r).grown g,h.fk,h.loc.grown g,h.hF,h.hD⟩
theorem FI.call (h:FI W kb b n l K Inb nG w V N Xs cB nF nD had rings pi ri){K':Ker}{w':World}{r:Nat}(fk:Fk K' had rings pi ri)(co:Co kb l K' (λ_=>none) r Inb nG w')(hk:Kp kb (λ_=>none) w (λ_=>none) w'):FI W kb b n l K' Inb nG w' V N Xs cB nF nD had rings pi ri:=by
 have sz:=a4u (h.ci r).co.env.rep co.env.rep (hk _ (h.ci r).co.bkMn).2;exact ⟨λr'=>((h.ci r).call co sz.2.1 hk).any r',fk,h.loc.goes hk,sz.1.trans h.hF,sz.2.2.trans h.hD⟩
theorem FI.cell (h:FI W kb b n l K Inb nG w V N Xs cB nF nD had rings pi ri){g:Nat}(hg:g<W.heap.size)(o:Nat):w.cell? ⟨g,o,none⟩=W.cell? ⟨g,o,none⟩:=by
 simp only [World.cell?,((h.ci 0).old g hg).2]
theorem FI.skip (h:FI W kb b n l K Inb nG w V N Xs cB nF nD had rings pi ri):FI W kb b n l K Inb nG w V N Xs cB nF nD had rings (pi+1) ri:=⟨h.ci,h.fk.skip,h.loc,h.hF,h.hD⟩
theorem FI.skip2 (h:FI W kb b n l K Inb nG w V N Xs cB nF nD had rings pi ri):FI W kb b n l K Inb nG w V N Xs cB nF nD had rings pi (ri+1):=⟨h.ci,h.fk.skip2,h.loc,h.hF,h.hD⟩
end
def a5E (W:World)(ya:Option Addr)(ys:List Bool):Prop:=∀ i y,ys[i]?=some y->∃ g o,ya=some ⟨g,o,none⟩/\g<W.heap.size/\W.cell? ⟨g,o+i,none⟩=some (.bool y)
section
variable {W:World} {kb:Kb} {b:Lb} {n:Nat} {cB nF nD:Nat} {vp vf vc:Value} {wa:Option Addr} {ws:List Int} {wc:Nat}
theorem b5P (hW:a8E W wa ws){l:List OpD}{Inb:Nat->Option Seat}{nG:Nat}{V:Nat->Value}{N:Nat->Nat}{Xs:Nat->List Value}{Stop:Goroutine->World->Prop}{had pi ri i h':Nat}(hi:i<4)(k:List Item)(cs:List Frame)
  (hn:∀ K' w' a',FI W kb b n l K' Inb nG w' V N Xs cB nF nD had 0 pi ri->Lvs 418 [(1,vp),(2,.slice wa ws.length wc),(3,vf),(4,vc),(5,.pointer (some ⟨cB,0,none⟩)),(12,.pointer (some ⟨kb.bk,0,none⟩)),(14,.pointer (some ⟨b.bl,0,none⟩)),(15,.int .i64 h'),(16,.int .i64 i)] a'->FL l Stop a' (.code (rf 22)::k) cs w') :
  ∀ (m j:Nat),j+m=4->∀ K w a,FI W kb b n l K Inb nG w V N Xs cB nF nD had 0 pi ri->Lvs 418 [(1,vp),(2,.slice wa ws.length wc),(3,vf),(4,vc),(5,.pointer (some ⟨cB,0,none⟩)),(12,.pointer (some ⟨kb.bk,0,none⟩)),(14,.pointer (some ⟨b.bl,0,none⟩)),(15,.int .i64 h'),(16,.int .i64 i),(19,.int .i64 j)] a ->
   FL l Stop a (.code H9::.inLoop H9::.inBlock 2::.code (rf 22)::k) cs w:=by
 intro m
 induction m with
 | zero =>
  intro j hj K w a fi hA;exact c1c (by omega) hA k cs (λa' hA'=>hn K w a' fi hA')
 | succ m ih =>
  intro j hj K w a fi hA;rcases Nat.lt_or_ge (i*4+j) ws.length with hl|hl
  ·obtain ⟨g,o,rfl,hg,hc⟩:=hW (i*4+j) ws[i*4+j] (List.getElem?_eq_getElem hl);exact c1e (fi.ci 0).co rfl rfl hi (by omega) hl ((fi.cell hg _).trans hc) hA k cs (λa' w' co hk hA'=>ih (j+1) (by omega) _ w' a' (fi.call (b5O fi.fk _ _ _) co hk) hA')
  ·exact c1d rfl rfl hi (by omega) hl hA k cs (λa' hA'=>hn K w a' fi hA')
theorem b8L {Final:Machine->Trace->Prop}(hW:a8E W wa ws){l:List OpD}{K:Ker}{Inb:Nat->Option Seat}{nG:Nat}{w:World}{V:Nat->Value}{N:Nat->Nat}{Xs:Nat->List Value}{had ri i:Nat}(fi:FI W kb b n l K Inb nG w V N Xs cB nF nD had 0 i ri)(hi:i<4)(hh:had<=i)(hf:had+2<nF)(hn1:1<=n){a:Act}
  (hA:Lvs 418 [(1,vp),(2,.slice wa ws.length wc),(3,vf),(4,vc),(5,.pointer (some ⟨cB,0,none⟩)),(12,.pointer (some ⟨kb.bk,0,none⟩)),(14,.pointer (some ⟨b.bl,0,none⟩)),(15,.int .i64 had),(16,.int .i64 i)] a)(k:List Item)(cs:List Frame)
  (hx:∀ l' K' Inb' nG' w' V' N' Xs' a',FI W kb b n l' K' Inb' nG' w' V' N' Xs' cB nF nD (had+1) 0 (i+1) ri->Lvs 418 [(1,vp),(2,.slice wa ws.length wc),(3,vf),(4,vc),(5,.pointer (some ⟨cB,0,none⟩)),(12,.pointer (some ⟨kb.bk,0,none⟩)),(14,.pointer (some ⟨b.bl,0,none⟩)),(15,.int .i64 ((had+1:Nat):Int)),(16,.int .i64 i)] a'->FL l' (X Tryd.prog Final l' Inb' nG' 0) a' k cs w') :
  X Tryd.prog Final l Inb nG 0 (G ((base 7).at a (.code a1D::k)) cs) w:=by
 refine K6 (c1a hA k cs λa1 hA1 d=>?_);obtain ⟨K1,hC,hfk,e1,e2,e3⟩:=b8J fi.fk hi (by rw [fi.hF];omega);have fi1:=fi.grown (s9 w d);obtain ⟨o,ho,hd⟩:∃ o,(n6 14)[3]?=some o/\o.dst=some 89:=⟨_,rfl,rfl⟩;refine W8 (p:=0) (m:=0) (v:=0) (e:=0) (K':=K1) (fi1.ci 0) (by omega) (fi1.ci 0).lo (by omega) (by omega) (by omega) (by omega) hC _ _ (λl2 Inb2 nG2 w2 V2 N2 Xs2 ci2 lk2=>?_);rw [a0M ho,hd];have fi2:FI W kb b n l2 K1 Inb2 nG2 w2 V2 N2 Xs2 cB nF nD (had+1) 0 (i+1) ri:=⟨ci2,hfk,lk2 _ _ fi1.loc,e1.trans fi.hF,e3.trans fi.hD⟩;refine K6 (c1b (ci2 0).co.env.fit (ci2 0).co.env.ko (by omega) (hA1.putNe (d:=89) (by decide) _ rfl) k cs λa3 w3 hG3 hA3=>?_);refine b5P hW hi k cs (λK4 w4 a4 fi4 hA4=>?_) 4 0 (by omega) K1 w3 a3 (fi2.grown hG3) hA3;exact c1f (fi4.ci 0).co hi hA4 k cs (λa5 w5 co5 hk5 hA5=>hx _ _ _ _ _ _ _ _ a5 (fi4.call (b1b fi4.fk _ _) co5 hk5) hA5)
theorem b5Q {Final:Machine->Trace->Prop}(hW:a8E W wa ws){pa:Option Addr}{ps:List Bool}{pc:Nat}(hP:a5E W pa ps)(hn1:1<=n)(k:List Item)(cs:List Frame)
  (hx:∀ l' K' Inb' nG' w' V' N' Xs' a' had' i',FI W kb b n l' K' Inb' nG' w' V' N' Xs' cB nF nD had' 0 i' 0->had'<=4->Lvs 418 [(1,.slice pa ps.length pc),(2,.slice wa ws.length wc),(3,vf),(4,vc),(5,.pointer (some ⟨cB,0,none⟩)),(12,.pointer (some ⟨kb.bk,0,none⟩)),(14,.pointer (some ⟨b.bl,0,none⟩)),(15,.int .i64 ((had':Nat):Int)),(16,.int .i64 ((i':Nat):Int))] a'->FL l' (X Tryd.prog Final l' Inb' nG' 0) a' (.code G5::k) cs w') :
  ∀ (m i:Nat),i+m=4->∀ had,had<=i->∀ l K Inb nG w V N Xs a,FI W kb b n l K Inb nG w V N Xs cB nF nD had 0 i 0->Lvs 418 [(1,.slice pa ps.length pc),(2,.slice wa ws.length wc),(3,vf),(4,vc),(5,.pointer (some ⟨cB,0,none⟩)),(12,.pointer (some ⟨kb.bk,0,none⟩)),(14,.pointer (some ⟨b.bl,0,none⟩)),(15,.int .i64 had),(16,.int .i64 i)] a ->
   X Tryd.prog Final l Inb nG 0 (G ((base 7).at a (.code B9::.inLoop B9::.inBlock 0::.code G5::k)) cs) w:=by
 intro m
 induction m with
 | zero =>
  intro i hi had hh l K Inb nG w V N Xs a fi hA;exact K6 (c1C (by omega) hA k cs λa' hA'=>hx _ _ _ _ _ _ _ _ a' had i fi (by omega) hA')
 | succ m ih =>
  intro i hi had hh l K Inb nG w V N Xs a fi hA;rcases Nat.lt_or_ge i ps.length with hl|hl
  ·obtain ⟨g,o,rfl,hg,hc⟩:=hP i ps[i] (List.getElem?_eq_getElem hl);have hc':=(fi.cell hg (o+i)).trans hc;have go:∀ l K Inb nG w V N Xs a had',had'<=i+1->FI W kb b n l K Inb nG w V N Xs cB nF nD had' 0 (i+1) 0->Lvs 418 [(1,.slice (some ⟨g,o,none⟩) ps.length pc),(2,.slice wa ws.length wc),(3,vf),(4,vc),(5,.pointer (some ⟨cB,0,none⟩)),(12,.pointer (some ⟨kb.bk,0,none⟩)),(14,.pointer (some ⟨b.bl,0,none⟩)),(15,.int .i64 ((had':Nat):Int)),(16,.int .i64 i)] a ->
     FL l (X Tryd.prog Final l Inb nG 0) a (.inBlock 1::.code (rf 12)::.inLoop B9::.inBlock 0::.code G5::k) cs w:=λl K Inb nG w V N Xs a had' hh' fi' hA' =>
    c1H (by omega) hA' k cs λa2 hA2 d=>.stop (ih (i+1) (by omega) had' hh' _ _ _ _ _ _ _ _ a2 (fi'.grown (s9 w d)) hA2)
   cases hy:ps[i] with
   | false =>
    rw [hy] at hc';exact K6 (b6r (by omega) hl hA k cs λa hA=>c1E hl (by omega) fi.loc.is hc' hA k cs λa' hA'=>go _ _ _ _ _ _ _ _ a' had (by omega) fi.skip hA')
   | true =>
    rw [hy] at hc';rcases Nat.lt_or_ge (had+2) nF with hf|hf
    ·exact K6 (b6r (by omega) hl hA k cs λa hA=>c1G hl (by omega) hf fi.loc.is hc' hA k cs λa' hA' d=>.stop (b8L hW (fi.grown (s9 w d)) (by omega) hh hf hn1 hA' _ cs λl2 K2 Inb2 nG2 w2 V2 N2 Xs2 a2 fi2 hA2=>go _ _ _ _ _ _ _ _ a2 (had+1) (by omega) fi2 hA2))
    ·exact K6 (b6r (by omega) hl hA k cs λa hA=>c1F hl (by omega) hf fi.loc.is hc' hA k cs λa' hA'=>go _ _ _ _ _ _ _ _ a' had (by omega) fi.skip hA')
  ·exact K6 (c1D (by omega) hl hA k cs λa' hA'=>hx _ _ _ _ _ _ _ _ a' had i fi (by omega) hA')
end
section
variable {W:World} {kb:Kb} {b:Lb} {n:Nat} {cB nF nD:Nat} {vf vc:Value}
theorem b5R {Final:Machine->Trace->Prop}{l:List OpD}{K:Ker}{Inb:Nat->Option Seat}{nG:Nat}{w:World}{V:Nat->Value}{N:Nat->Nat}{Xs:Nat->List Value}{had rings pi i:Nat}(fi:FI W kb b n l K Inb nG w V N Xs cB nF nD had rings pi i)(hi:i<2)(hh:had<=4)(hr:rings<=i)(hd:i<nD)(hf:had+rings+2<nF)(hn1:1<=n){a:Act}
  (hA:Lvs 418 [(3,vf),(4,vc),(5,.pointer (some ⟨cB,0,none⟩)),(12,.pointer (some ⟨kb.bk,0,none⟩)),(14,.pointer (some ⟨b.bl,0,none⟩)),(15,.int .i64 had),(20,.int .i64 rings),(21,.int .i64 i)] a)(k:List Item)(cs:List Frame)
  (hx:∀ l' K' Inb' nG' w' V' N' Xs' a',FI W kb b n l' K' Inb' nG' w' V' N' Xs' cB nF nD had (rings+1) pi (i+1)->Lvs 418 [(3,vf),(4,vc),(5,.pointer (some ⟨cB,0,none⟩)),(12,.pointer (some ⟨kb.bk,0,none⟩)),(14,.pointer (some ⟨b.bl,0,none⟩)),(15,.int .i64 had),(20,.int .i64 ((rings+1:Nat):Int)),(21,.int .i64 i)] a'->FL l' (X Tryd.prog Final l' Inb' nG' 0) a' k cs w') :
  X Tryd.prog Final l Inb nG 0 (G ((base 7).at a (.code a1E::k)) cs) w:=by
 refine K6 (c1n rfl hi hA k cs λa1 hA1 d=>?_);obtain ⟨K1,hC,hfk,e1,e2,e3⟩:=b8K fi.fk hi (by rw [fi.hD];exact hd) (by rw [fi.hF];omega);have fi1:=fi.grown (s9 w d);obtain ⟨o,ho,hd⟩:∃ o,(n6 28)[5]?=some o/\o.dst=some 167:=⟨_,rfl,rfl⟩;refine W8 (p:=0) (m:=0) (v:=0) (e:=0) (K':=K1) (fi1.ci 0) (by omega) (fi1.ci 0).lo (by omega) (by omega) (by omega) (by omega) hC _ _ (λl2 Inb2 nG2 w2 V2 N2 Xs2 ci2 lk2=>?_);rw [a0M ho,hd];have fi2:FI W kb b n l2 K1 Inb2 nG2 w2 V2 N2 Xs2 cB nF nD had (rings+1) pi (i+1):=⟨ci2,hfk,lk2 _ _ fi1.loc,e1.trans fi.hF,e3.trans fi.hD⟩;exact K6 (c1o (ci2 0).co.env.fit (ci2 0).co.env.ko (by omega) (hA1.putNe (d:=167) (by decide) _ rfl) k cs λa3 w3 hG3 hA3=>hx _ _ _ _ _ _ _ _ a3 (fi2.grown hG3) hA3)
theorem b5S {Final:Machine->Trace->Prop}{fa:Option Addr}{fs:List Bool}{fc:Nat}(hP:a5E W fa fs)(hn1:1<=n){had pi:Nat}(hh:had<=4)(k:List Item)(cs:List Frame)
  (hx:∀ l' K' Inb' nG' w' V' N' Xs' a' rings' i',FI W kb b n l' K' Inb' nG' w' V' N' Xs' cB nF nD had rings' pi i'->rings'<=2->Lvs 418 [(4,vc),(5,.pointer (some ⟨cB,0,none⟩)),(12,.pointer (some ⟨kb.bk,0,none⟩)),(14,.pointer (some ⟨b.bl,0,none⟩)),(15,.int .i64 had),(20,.int .i64 ((rings':Nat):Int))] a'->FL l' (X Tryd.prog Final l' Inb' nG' 0) a' (.code L4::k) cs w') :
  ∀ (m i:Nat),i+m=2->∀ rings,rings<=i->∀ l K Inb nG w V N Xs a,FI W kb b n l K Inb nG w V N Xs cB nF nD had rings pi i->Lvs 418 [(3,.slice fa fs.length fc),(4,vc),(5,.pointer (some ⟨cB,0,none⟩)),(12,.pointer (some ⟨kb.bk,0,none⟩)),(14,.pointer (some ⟨b.bl,0,none⟩)),(15,.int .i64 had),(20,.int .i64 rings),(21,.int .i64 i)] a ->
   X Tryd.prog Final l Inb nG 0 (G ((base 7).at a (.code B1::.inLoop B1::.inBlock 4::.code L4::k)) cs) w:=by
 intro m
 induction m with
 | zero =>
  intro i hi rings hr l K Inb nG w V N Xs a fi hA;exact K6 (c1h (by omega) hA k cs λa' hA'=>hx _ _ _ _ _ _ _ _ a' rings i fi (by omega) hA')
 | succ m ih =>
  intro i hi rings hr l K Inb nG w V N Xs a fi hA;rcases Nat.lt_or_ge i fs.length with hl|hl
  ·rcases Nat.lt_or_ge i nD with hd|hd
   ·obtain ⟨g,o,rfl,hg,hc⟩:=hP i fs[i] (List.getElem?_eq_getElem hl);have hc':=(fi.cell hg (o+i)).trans hc;have go:∀ l K Inb nG w V N Xs a rings',rings'<=i+1->FI W kb b n l K Inb nG w V N Xs cB nF nD had rings' pi (i+1)->Lvs 418 [(3,.slice (some ⟨g,o,none⟩) fs.length fc),(4,vc),(5,.pointer (some ⟨cB,0,none⟩)),(12,.pointer (some ⟨kb.bk,0,none⟩)),(14,.pointer (some ⟨b.bl,0,none⟩)),(15,.int .i64 had),(20,.int .i64 ((rings':Nat):Int)),(21,.int .i64 i)] a ->
      FL l (X Tryd.prog Final l Inb nG 0) a (.inBlock 5::.code (rf 26)::.inLoop B1::.inBlock 4::.code L4::k) cs w:=λl K Inb nG w V N Xs a rings' hr' fi' hA' =>
     c1p (by omega) hA' k cs λa2 hA2 d=>.stop (ih (i+1) (by omega) rings' hr' _ _ _ _ _ _ _ _ a2 (fi'.grown (s9 w d)) hA2)
    cases hy:fs[i] with
    | false =>
     rw [hy] at hc';exact K6 (b5D (by omega) hl hd fi.loc.is hA k cs λa hA=>c1k rfl (by omega) hl fi.loc.is hc' hA k cs λa' hA'=>go _ _ _ _ _ _ _ _ a' rings (by omega) fi.skip2 hA')
    | true =>
     rw [hy] at hc';rcases Nat.lt_or_ge (had+rings+2) nF with hf|hf
     ·exact K6 (b5D (by omega) hl hd fi.loc.is hA k cs λa hA=>c1m rfl (by omega) hl hf fi.loc.is hc' hA k cs λa' hA' d=>.stop (b5R (fi.grown (s9 w d)) (by omega) hh hr hd hf hn1 hA' _ cs λl2 K2 Inb2 nG2 w2 V2 N2 Xs2 a2 fi2 hA2=>go _ _ _ _ _ _ _ _ a2 (rings+1) (by omega) fi2 hA2))
     ·exact K6 (b5D (by omega) hl hd fi.loc.is hA k cs λa hA=>c1l rfl (by omega) hl hf fi.loc.is hc' hA k cs λa' hA'=>go _ _ _ _ _ _ _ _ a' rings (by omega) fi.skip2 hA')
   ·exact K6 (c1j (by omega) hl hd fi.loc.is hA k cs λa' hA'=>hx _ _ _ _ _ _ _ _ a' rings i fi (by omega) hA')
  ·exact K6 (c1i (by omega) hl hA k cs λa' hA'=>hx _ _ _ _ _ _ _ _ a' rings i fi (by omega) hA')
end
theorem b8M {K:Ker}{had rings pi ri:Nat}(h:Fk K had rings pi ri)(hh:had<=4) :
  ((K.nS<2\/K.nF<2*(1+had)+rings)/\∃ m K',m<100/\T8 0 1 0 0 K (m+1) 0 10 K'/\Eqv K K') \/
  (2<=K.nS/\2*(1+had)+rings<=K.nF/\∃ m f fr gv K',m<100/\Kid K f fr gv 2 0 K'/\(∀ q,q<4->(fr q≠-1↔K.page 0 q≠-1))/\(∀ q,q<4->(gv q=true↔K.file 0 q≠-1))/\T8 0 1 0 0 K (m+1) 1 0 K'):=by
 have hf:=h.free;rcases Nat.lt_or_ge K.nS 2 with h2|h2
 ·exact .inl ⟨.inl h2,0,K,by omega,a7O h.sole (.inl h2),a9L K⟩
 cases hx:D5 K K.nF with
 | nil =>
  rw [hx] at hf;simp only [List.length_nil] at hf;exact .inl ⟨.inr (by omega),0,K,by omega,a7O h.sole (.inr hx),a9L K⟩
 | cons x r =>
  rw [hx] at hf;simp only [List.length_cons] at hf;have hp:=h.pg;rcases Nat.lt_or_ge r.length (pgs K 0).length with hl|hl
  ·obtain ⟨K',E,C⟩:=b5C h.sole h2 hx hl;exact .inl ⟨.inr (by omega),r.length+1+r.length+1,K',by omega,C,E⟩
  ·obtain ⟨f,fr,gv,K',C,h3,h4,hC⟩:=b8x h.sole h2 hx hl;have:=a5R λj=>K.S 0 (11+j*2);have h9:(fls K 0).length<=4:=this;exact .inr ⟨h2,by omega,(pgs K 0).length+(fls K 0).length+1,f,fr,gv,K',by omega,C,h3,h4,hC⟩
theorem b5T (K:Ker)(p:Nat):Cmp 55 (cut (o0 K) (p*20) 20) (cut (o0 K) (p*20) 20) true:=by
 obtain ⟨r,hr,e⟩:=a5c (t:=55) (a8l (d:=9996) (a9f K p) (a9f K p));obtain rfl:=e rfl;exact hr
theorem b3o (K:Ker)(o:Nat):Cmp 73 (cut (C8 K) o 4) (cut (C8 K) o 4) true:=by
 have hx:∀ j,j<4->W7 (cut (C8 K) o 4).toArray j:=λj hj=>⟨_,a0x _ _ _ j hj⟩
 obtain ⟨r,hr,e⟩:=a5c (t:=73) (a6K (d:=9998) hx hx);obtain rfl:=e rfl;exact hr
theorem a8F {f g:Nat->Value}{o o' m:Nat}(h:∀ j,j<m->f (o+j)=g (o'+j)):cut f o m=cut g o' m:=List.map_congr_left λj hj=>h j (by simpa using hj)
section
variable {K K':Ker} {t:Nat} {fr:Nat->Int} {gv:Nat->Bool} {kd cd:Int}
theorem b3p (S:Sole K)(C:Kid K t fr gv kd cd K')(hg:∀ q,q<4->(gv q=true↔K.file 0 q≠-1)):cut (o0 K') 31 8=cut (o0 K') 11 8:=by
 refine a8F λj hj=>?_;have key:∀ x,x<4->K'.file 1 x=K'.file 0 x/\K'.end 1 x=K'.end 0 x:=λx hx=>by
  rw [C.file0,C.end0,C.fl x hx,C.en x hx]
  by_cases e:K.file 0 x=-1
  ·have h1:gv x=false:=by
    cases h:gv x with
    | false=>rfl
    | true=>exact absurd e ((hg x hx).1 h)
   rw [h1,S.inv.neat.fil 0 x hx e,e];exact ⟨by simp,rfl⟩
  ·rw [(hg x hx).2 e];exact ⟨by simp,by simp⟩
 unfold o0;rw [show (31+j) % 20=11+j by omega,show (31+j) / 20=1 by omega,show (11+j) % 20=11+j by omega,show (11+j) / 20=0 by omega];obtain ⟨x,hx,rfl|rfl⟩:∃ x,x<4/\(j=x*2\/j=x*2+1):=⟨j / 2,by omega,by omega⟩
 ·rw [if_neg (by omega),if_neg (by omega)];exact congrArg _ (key x hx).1
 ·rw [if_pos (by omega),if_pos (by omega),show 11+(x*2+1)=12+x*2 by omega];exact congrArg _ (key x hx).2
theorem c0v (C:Kid K t fr gv kd cd K'):cut (o0 K') 0 20=cut (o0 K) 0 20:=by
 refine a8F λj hj=>?_;unfold o0;rw [show (0+j) / 20=0 by omega,C.so 0 (by omega),C.bo 0 (by omega)]
theorem b5U (S:Sole K)(C:Kid K t fr gv kd cd K')(hp:∀ q,q<4->(fr q≠-1↔K.page 0 q≠-1)){j:Nat}(hj:j<4) :
  (K'.page 0 j=-1/\K'.page 1 j=-1/\K'.wr 0 j=false/\K'.wr 1 j=false) \/
  (∃ f g:Nat,K'.page 0 j=f/\K'.page 1 j=g/\f<K'.nF/\g<K'.nF/\f≠g/\K'.wr 1 j=K'.wr 0 j/\cut (C8 K') (f*6+2) 4=cut (C8 K') (g*6+2) 4/\cut (C8 K') (f*6) 6=cut (C8 K) (f*6) 6):=by
 rw [C.page0,C.wr0,C.pg j hj,C.wr j hj,C.nF]
 by_cases e:K.page 0 j=-1
 ·have e2:fr j=-1:=Classical.byContradiction λn=>(hp j hj).1 n e;refine .inl ⟨e,e2,?_,by rw [e2];rfl⟩
  cases h:K.wr 0 j with
  | false=>rfl
  | true=>exact absurd e (S.inv.good.wr 0 j S.pos hj h)
 ·have e2:=(hp j hj).2 e;obtain ⟨f,hf,hfn,hf2⟩:=S.frame hj e;obtain ⟨g,hg,hgn,hg0,hgt⟩:=(C.fra.pg j hj).resolve_left e2;have ft:f≠t:=λh=>by rw [h,C.fra.free] at hf2;cases hf2
  have fq:∀ p,p<4->fr p≠(f:Int):=λp hp' h=>by
   rcases C.fra.pg p hp' with h1|⟨g',h1,_,h3,_⟩
   ·omega
   ·obtain rfl:g'=f:=by omega
    rw [h3] at hf2;cases hf2
  refine .inr ⟨f,g,hf,hg,hfn,hgn,λh=>(by rw [h,hg0] at hf2;cases hf2),by rw [show (fr j != -1)=true by simpa using e2];rfl,a8F λi hi=>?_,a8F λi hi=>?_⟩
  ·unfold C8;rw [show (f*6+2+i) / 6=f by omega,show (f*6+2+i) % 6=2+i by omega,show (g*6+2+i) / 6=g by omega,show (g*6+2+i) % 6=2+i by omega,(C.fp j hj g hg).2.2 i hi,C.fo f ft fq (2+i) (by omega),hf];rfl
  ·unfold C8;rw [show (f*6+i) / 6=f by omega,show (f*6+i) % 6=i by omega,C.fo f ft fq i (by omega)]
end
theorem b5V {K K':Ker}{t:Nat}{fr:Nat->Int}{gv:Nat->Bool}{kd cd:Int}(S:Sole K)(C:Kid K t fr gv kd cd K')(hp:∀ q,q<4->(fr q≠-1↔K.page 0 q≠-1)){l:List OpD}{Stop:Goroutine->World->Prop}{w:World}{vc vk vl:Value}{b1 b2 bd bm bi cB nF n gF gS gD kF kS kD nD' nD'':Nat}{nD:Int}(eF:K'.nF=nF)
  (hC:w.heap[cB]?=some (.cells #[.int .i64 nF,.int .i64 n,.int .i64 nD] 30 (0,0)))(rm:w.rangeAt bm 0 (cut (o0 K') 0 20))(ri:w.rangeAt bi 0 (cut (o0 K') 20 20))(f2:w.rowIs gF 75 (K'.nF*6) (C8 K'))(f1:w.rowIs kF 75 (K'.nF*6) (C8 K))
  (hS:w.heap[b2]?=some (.cells #[.slice (some ⟨gF,0,none⟩) nF nF,.slice (some ⟨gS,0,none⟩) n n,.slice (some ⟨gD,0,none⟩) nD' nD'] 45 (0,0)))(hS1:w.heap[b1]?=some (.cells #[.slice (some ⟨kF,0,none⟩) nF nF,.slice (some ⟨kS,0,none⟩) n n,.slice (some ⟨kD,0,none⟩) nD'' nD''] 45 (0,0)))(k:List Item)(cs:List Frame)
  (hn:∀ a',Lvs 418 [(4,vc),(5,.pointer (some ⟨cB,0,none⟩)),(12,vk),(14,vl),(24,.pointer (some ⟨b1,0,none⟩)),(25,.pointer (some ⟨bd,0,none⟩)),(26,.bool true),(27,.pointer (some ⟨b2,0,none⟩))] a'->FL l Stop a' (.code W6::k) cs w) :
  ∀ (m j:Nat),j+m=4->∀ a,Lvs 418 [(4,vc),(5,.pointer (some ⟨cB,0,none⟩)),(12,vk),(14,vl),(24,.pointer (some ⟨b1,0,none⟩)),(25,.pointer (some ⟨bd,0,none⟩)),(26,.bool true),(27,.pointer (some ⟨b2,0,none⟩)),(29,.pointer (some ⟨bm,0,none⟩)),(30,.pointer (some ⟨bi,0,none⟩)),(31,.int .i64 j)] a ->
   FL l Stop a (.code L3::.inLoop L3::.inBlock 6::.code W6::k) cs w:=by
 intro m
 induction m with
 | zero =>
  intro j hj a hA;exact c1u (by omega) hA k cs hn
 | succ m ih =>
  intro j hj a hA;have q1:w.cell? ⟨bm,3+j*2,none⟩=some (.int .i64 (K'.page 0 j)):=by
   rw [W3 rm (by omega),show 0+(3+j*2)=0*20+(3+j*2) by omega,B3 _ _ _ (by omega) (by omega)];rfl
  have q2:w.cell? ⟨bi,3+j*2,none⟩=some (.int .i64 (K'.page 1 j)):=by
   rw [W3 ri (by omega),show 20+(3+j*2)=1*20+(3+j*2) by omega,B3 _ _ _ (by omega) (by omega)];rfl
  have q3:w.cell? ⟨bm,3+j*2+1,none⟩=some (.bool (K'.wr 0 j)):=by
   rw [W3 rm (by omega)];unfold o0 Ker.wr;rw [if_pos (by omega),show (0+(3+j*2+1)) / 20=0 by omega,show (0+(3+j*2+1)) % 20=4+j*2 by omega]
  have q4:w.cell? ⟨bi,3+j*2+1,none⟩=some (.bool (K'.wr 1 j)):=by
   rw [W3 ri (by omega)];unfold o0 Ker.wr;rw [if_pos (by omega),show (20+(3+j*2+1)) / 20=1 by omega,show (20+(3+j*2+1)) % 20=4+j*2 by omega]
  rcases b5U S C hp (j:=j) (by omega) with ⟨h1,h2,h3,h4⟩|⟨f,g,h1,h2,h3,h4,h5,h6,h7,h8⟩
  ·rw [h1] at q1;rw [h2] at q2;rw [h3] at q3;rw [h4] at q4;exact c0b (b:=false) (by omega) hC (by decide) (by decide) (by omega) (by omega) q1 q2 q3 q4 hA k cs (λa' hA'=>c0r (nF:=0) (n:=0) (gF:=0) (gS:=0) (gD:=0) (kF:=0) (kS:=0) (kD:=0) (nD':=0) (nD'':=0) (f:=0) (g:=0) (by omega) hA' k cs (λa' hA'=>ih (j+1) (by omega) a' hA'))
  ·rw [h1] at q1;rw [h2] at q2;rw [h6] at q4;have z1:=y7 f2 (o:=f*6+2) (m:=4) (by omega);have z2:=y7 f2 (o:=g*6+2) (m:=4) (by omega);have z3:=y7 f2 (o:=f*6) (m:=6) (by omega);have z4:=y7 f1 (o:=f*6) (m:=6) (by omega);exact c0b (b:=true) (by omega) hC (by simp) (by simp) (by omega) (by omega) q1 q2 q3 q4 hA k cs (λa' hA'=>c0s (W1:=cut (C8 K') (f*6+2) 4) (W2:=cut (C8 K') (g*6+2) 4) (F1:=cut (C8 K') (f*6) 6) (F2:=cut (C8 K) (f*6) 6) (by omega) (by omega) (by omega) h5 z1 z2 (A5 _ _ _) (A5 _ _ _) (by rw [h7];exact b3o _ _) z3 z4 (A5 _ _ _) (A5 _ _ _) (by rw [h8];exact b5k _ _) hS hS1 hA' k cs (λa' hA'=>ih (j+1) (by omega) a' hA'))
end Go.Proofs.YtcgabodkegcpgaaDoor
