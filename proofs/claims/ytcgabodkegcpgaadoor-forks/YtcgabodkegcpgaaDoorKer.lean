/- The kernel's memory as plain numbers: what its cells hold (Ker), that a world holds it (Rep), and that a step leaves all other memory as it was (Keeps). -/
import Derived.WalkKit
import Derived.Below
import Derived.Deep.QuietTactic
import Derived.Test.YtcgabodkegcpgaaDoorProg
import Derived.WalkSpells
import Derived.WalkLawsBesides
import Derived.BigQuiet
import Derived.BigRegion
import Derived.Deep.RegionWith
set_option linter.unusedVariables false
set_option linter.unusedSimpArgs false
set_option maxHeartbeats 20000000
set_option maxRecDepth 100000
namespace Go.Proofs.YtcgabodkegcpgaaDoor
open Go.RowKit
structure Ker where
 nF:Nat
 nS:Nat
 nD:Nat
 F:Nat->Nat->Int
 S:Nat->Nat->Int
 B:Nat->Nat->Bool
 D:Nat->Nat->Int
def upd {α:Type}(f:Nat->Nat->α)(i c:Nat)(v:α):Nat->Nat->α:=λa b=>if a=i/\b=c then v else f a b
theorem upd_same {α:Type}(f:Nat->Nat->α)(i c:Nat)(v:α):upd f i c v i c=v:=by simp [upd]
theorem f8 {α:Type}(f:Nat->Nat->α)(i c:Nat)(v:α)(a b:Nat)(h:¬ (a=i/\b=c)):upd f i c v a b=f a b:=by simp [upd,h]
def isB (c:Nat):Prop:=4<=c/\c<=18/\c % 2=0
def Ker.setF (K:Ker)(i c:Nat)(v:Int):Ker:={ K with F:=upd K.F i c v }
def Ker.setS (K:Ker)(i c:Nat)(v:Int):Ker:={ K with S:=upd K.S i c v }
def Ker.setB (K:Ker)(i c:Nat)(v:Bool):Ker:={ K with B:=upd K.B i c v }
def Ker.setD (K:Ker)(i c:Nat)(v:Int):Ker:={ K with D:=upd K.D i c v }
theorem Ker.setS_nF (K:Ker)(i c:Nat)(v:Int):(K.setS i c v).nF=K.nF:=rfl
theorem Ker.setS_nS (K:Ker)(i c:Nat)(v:Int):(K.setS i c v).nS=K.nS:=rfl
theorem Ker.setS_nD (K:Ker)(i c:Nat)(v:Int):(K.setS i c v).nD=K.nD:=rfl
structure Rep (w:World) (bk bf bs bd:Nat) (K:Ker):Prop where
 k0:w.cell? ⟨bk,0,none⟩=some (.slice (some ⟨bf,0,none⟩) K.nF K.nF)
 k1:w.cell? ⟨bk,1,none⟩=some (.slice (some ⟨bs,0,none⟩) K.nS K.nS)
 k2:w.cell? ⟨bk,2,none⟩=some (.slice (some ⟨bd,0,none⟩) K.nD K.nD)
 f:∀ i c,i<K.nF->c<6->w.cell? ⟨bf,i*6+c,none⟩=some (.int .i64 (K.F i c))
 s:∀ i c,i<K.nS->c<20->¬ isB c->w.cell? ⟨bs,i*20+c,none⟩=some (.int .i64 (K.S i c))
 b:∀ i c,i<K.nS->isB c->w.cell? ⟨bs,i*20+c,none⟩=some (.bool (K.B i c))
 d:∀ i c,i<K.nD->c<5->w.cell? ⟨bd,i*5+c,none⟩=some (.int .i64 (K.D i c))
 zf:∀ o,w.frozen? ⟨bf,o,none⟩=false
 zs:∀ o,w.frozen? ⟨bs,o,none⟩=false
 zd:∀ o,w.frozen? ⟨bd,o,none⟩=false
 lk:bk<w.heap.size
 lf:bf<w.heap.size
 ls:bs<w.heap.size
 ld:bd<w.heap.size
 kf:bk≠bf
 ks:bk≠bs
 kd:bk≠bd
 fs:bf≠bs
 fd:bf≠bd
 sd:bs≠bd
 hF:K.nF<=32
 hS:K.nS<=6
 hD:K.nD<=4
section
variable {w:World} {bk bf bs bd:Nat} {K:Ker}
theorem t9 (w:World)(a:Addr)(v:Value):(w.setCell a v).heap.size=w.heap.size:=by simp [World.setCell]
theorem z6 (w:World)(a p:Addr)(v:Value):(w.setCell a v).frozen? p=w.frozen? p:=by
 unfold World.frozen? World.setCell;simp only [Array.getElem?_modify]
 by_cases h:a.block=p.block
 ·rw [if_pos h]
  cases hq:w.heap[p.block]? with
  | none=>simp
  | some o=>cases o<;>simp
 ·rw [if_neg h]
theorem l8 (w:World){b o b' o':Nat}(v:Value)(h:b'≠b\/o'≠o):(w.setCell ⟨b,o,none⟩ v).cell? ⟨b',o',none⟩=w.cell? ⟨b',o',none⟩:=by
 refine World.cell?_setCell_other w ⟨b,o,none⟩ ⟨b',o',none⟩ v ?_;intro e;cases e
 omega
theorem Y9 (w:World){b o:Nat}{u:Value}(v:Value)(h:w.cell? ⟨b,o,none⟩=some u):(w.setCell ⟨b,o,none⟩ v).cell? ⟨b,o,none⟩=some v:=World.cell?_setCell_same w _ v h
theorem Rep.setF (R:Rep w bk bf bs bd K){i c o:Nat}(hi:i<K.nF)(hc:c<6)(ho:o=i*6+c)(v:Int):Rep (w.setCell ⟨bf,o,none⟩ (.int .i64 v)) bk bf bs bd (K.setF i c v):=by
 subst ho;have:=R.kf;have:=R.ks;have:=R.kd;have:=R.fs;have:=R.fd;have:=R.sd;refine ⟨?_,?_,?_,?_,?_,?_,?_,?_,?_,?_,?_,?_,?_,?_,R.kf,R.ks,R.kd,R.fs,R.fd,R.sd,R.hF,R.hS,R.hD⟩
 ·rw [l8 w _ (by omega)];exact R.k0
 ·rw [l8 w _ (by omega)];exact R.k1
 ·rw [l8 w _ (by omega)];exact R.k2
 ·intro a b ha hb
  by_cases e:a=i/\b=c
  ·obtain ⟨rfl,rfl⟩:=e;rw [Y9 w _ (R.f a b hi hc)];simp [Ker.setF,upd]
  ·rw [l8 w _ (by omega),R.f a b ha hb];simp [Ker.setF,upd,e]
 ·intro a b ha hb hb';rw [l8 w _ (by omega)];exact R.s a b ha hb hb'
 ·intro a b ha hb;rw [l8 w _ (by omega)];exact R.b a b ha hb
 ·intro a b ha hb;rw [l8 w _ (by omega)];exact R.d a b ha hb
 ·intro o;rw [z6];exact R.zf o
 ·intro o;rw [z6];exact R.zs o
 ·intro o;rw [z6];exact R.zd o
 ·rw [t9];exact R.lk
 ·rw [t9];exact R.lf
 ·rw [t9];exact R.ls
 ·rw [t9];exact R.ld
theorem Rep.setS (R:Rep w bk bf bs bd K){i c o:Nat}(hi:i<K.nS)(hc:c<20)(hb:¬ isB c)(ho:o=i*20+c)(v:Int):Rep (w.setCell ⟨bs,o,none⟩ (.int .i64 v)) bk bf bs bd (K.setS i c v):=by
 subst ho;have:=R.kf;have:=R.ks;have:=R.kd;have:=R.fs;have:=R.fd;have:=R.sd;refine ⟨?_,?_,?_,?_,?_,?_,?_,?_,?_,?_,?_,?_,?_,?_,R.kf,R.ks,R.kd,R.fs,R.fd,R.sd,R.hF,R.hS,R.hD⟩
 ·rw [l8 w _ (by omega)];exact R.k0
 ·rw [l8 w _ (by omega)];exact R.k1
 ·rw [l8 w _ (by omega)];exact R.k2
 ·intro a b ha hb;rw [l8 w _ (by omega)];exact R.f a b ha hb
 ·intro a b ha hb' hb''
  by_cases e:a=i/\b=c
  ·obtain ⟨rfl,rfl⟩:=e;rw [Y9 w _ (R.s a b hi hc hb)];simp [Ker.setS,upd]
  ·rw [l8 w _ (by omega),R.s a b ha hb' hb''];simp [Ker.setS,upd,e]
 ·intro a b ha hb';have:b<20:=by unfold isB at hb';omega
  have:b≠c:=by rintro rfl;exact hb hb'
  rw [l8 w _ (by omega)];exact R.b a b ha hb'
 ·intro a b ha hb;rw [l8 w _ (by omega)];exact R.d a b ha hb
 ·intro o;rw [z6];exact R.zf o
 ·intro o;rw [z6];exact R.zs o
 ·intro o;rw [z6];exact R.zd o
 ·rw [t9];exact R.lk
 ·rw [t9];exact R.lf
 ·rw [t9];exact R.ls
 ·rw [t9];exact R.ld
theorem Rep.setB (R:Rep w bk bf bs bd K){i c o:Nat}(hi:i<K.nS)(hb:isB c)(ho:o=i*20+c)(v:Bool):Rep (w.setCell ⟨bs,o,none⟩ (.bool v)) bk bf bs bd (K.setB i c v):=by
 subst ho;have:=R.kf;have:=R.ks;have:=R.kd;have:=R.fs;have:=R.fd;have:=R.sd;have hc:c<20:=by unfold isB at hb;omega
 refine ⟨?_,?_,?_,?_,?_,?_,?_,?_,?_,?_,?_,?_,?_,?_,R.kf,R.ks,R.kd,R.fs,R.fd,R.sd,R.hF,R.hS,R.hD⟩
 ·rw [l8 w _ (by omega)];exact R.k0
 ·rw [l8 w _ (by omega)];exact R.k1
 ·rw [l8 w _ (by omega)];exact R.k2
 ·intro a b ha hb;rw [l8 w _ (by omega)];exact R.f a b ha hb
 ·intro a b ha hb' hb'';have:b≠c:=by rintro rfl;exact hb'' hb
  rw [l8 w _ (by omega)];exact R.s a b ha hb' hb''
 ·intro a b ha hb';have:b<20:=by unfold isB at hb';omega
  by_cases e:a=i/\b=c
  ·obtain ⟨rfl,rfl⟩:=e;rw [Y9 w _ (R.b a b hi hb)];simp [Ker.setB,upd]
  ·rw [l8 w _ (by omega),R.b a b ha hb'];simp [Ker.setB,upd,e]
 ·intro a b ha hb;rw [l8 w _ (by omega)];exact R.d a b ha hb
 ·intro o;rw [z6];exact R.zf o
 ·intro o;rw [z6];exact R.zs o
 ·intro o;rw [z6];exact R.zd o
 ·rw [t9];exact R.lk
 ·rw [t9];exact R.lf
 ·rw [t9];exact R.ls
 ·rw [t9];exact R.ld
theorem Rep.setD (R:Rep w bk bf bs bd K){i c o:Nat}(hi:i<K.nD)(hc:c<5)(ho:o=i*5+c)(v:Int):Rep (w.setCell ⟨bd,o,none⟩ (.int .i64 v)) bk bf bs bd (K.setD i c v):=by
 subst ho;have:=R.kf;have:=R.ks;have:=R.kd;have:=R.fs;have:=R.fd;have:=R.sd;refine ⟨?_,?_,?_,?_,?_,?_,?_,?_,?_,?_,?_,?_,?_,?_,R.kf,R.ks,R.kd,R.fs,R.fd,R.sd,R.hF,R.hS,R.hD⟩
 ·rw [l8 w _ (by omega)];exact R.k0
 ·rw [l8 w _ (by omega)];exact R.k1
 ·rw [l8 w _ (by omega)];exact R.k2
 ·intro a b ha hb;rw [l8 w _ (by omega)];exact R.f a b ha hb
 ·intro a b ha hb hb';rw [l8 w _ (by omega)];exact R.s a b ha hb hb'
 ·intro a b ha hb;rw [l8 w _ (by omega)];exact R.b a b ha hb
 ·intro a b ha hb
  by_cases e:a=i/\b=c
  ·obtain ⟨rfl,rfl⟩:=e;rw [Y9 w _ (R.d a b hi hc)];simp [Ker.setD,upd]
  ·rw [l8 w _ (by omega),R.d a b ha hb];simp [Ker.setD,upd,e]
 ·intro o;rw [z6];exact R.zf o
 ·intro o;rw [z6];exact R.zs o
 ·intro o;rw [z6];exact R.zd o
 ·rw [t9];exact R.lk
 ·rw [t9];exact R.lf
 ·rw [t9];exact R.ls
 ·rw [t9];exact R.ld
theorem Rep.same {w':World}(R:Rep w bk bf bs bd K)(hz:w.heap.size<=w'.heap.size)(h:∀ k,k<w.heap.size->(k=bk\/k=bf\/k=bs\/k=bd)->w'.heap[k]?=w.heap[k]?):Rep w' bk bf bs bd K:=by
 have ck:∀ o,w'.cell? ⟨bk,o,none⟩=w.cell? ⟨bk,o,none⟩:=λo=>World.cell?_of_block (w:=w) (a:=⟨bk,o,none⟩) (h bk R.lk (by simp));have cf:∀ o,w'.cell? ⟨bf,o,none⟩=w.cell? ⟨bf,o,none⟩:=λo=>World.cell?_of_block (w:=w) (a:=⟨bf,o,none⟩) (h bf R.lf (by simp));have cs:∀ o,w'.cell? ⟨bs,o,none⟩=w.cell? ⟨bs,o,none⟩:=λo=>World.cell?_of_block (w:=w) (a:=⟨bs,o,none⟩) (h bs R.ls (by simp));have cd:∀ o,w'.cell? ⟨bd,o,none⟩=w.cell? ⟨bd,o,none⟩:=λo=>World.cell?_of_block (w:=w) (a:=⟨bd,o,none⟩) (h bd R.ld (by simp));have ff:∀ o,w'.frozen? ⟨bf,o,none⟩=w.frozen? ⟨bf,o,none⟩:=λo=>World.frozen?_of_block (w:=w) (a:=⟨bf,o,none⟩) (h bf R.lf (by simp));have fs:∀ o,w'.frozen? ⟨bs,o,none⟩=w.frozen? ⟨bs,o,none⟩:=λo=>World.frozen?_of_block (w:=w) (a:=⟨bs,o,none⟩) (h bs R.ls (by simp));have fd:∀ o,w'.frozen? ⟨bd,o,none⟩=w.frozen? ⟨bd,o,none⟩:=λo=>World.frozen?_of_block (w:=w) (a:=⟨bd,o,none⟩) (h bd R.ld (by simp))
 exact ⟨(ck _).trans R.k0,(ck _).trans R.k1,(ck _).trans R.k2,λi c a b=>(cf _).trans (R.f i c a b),λi c a b e=>(cs _).trans (R.s i c a b e),λi c a b=>(cs _).trans (R.b i c a b),λi c a b=>(cd _).trans (R.d i c a b),
  λo=>(ff o).trans (R.zf o),λo=>(fs o).trans (R.zs o),λo=>(fd o).trans (R.zd o),Nat.lt_of_lt_of_le R.lk hz,Nat.lt_of_lt_of_le R.lf hz,Nat.lt_of_lt_of_le R.ls hz,Nat.lt_of_lt_of_le R.ld hz,R.kf,R.ks,R.kd,R.fs,R.fd,R.sd,R.hF,R.hS,R.hD⟩
theorem Rep.alloc (R:Rep w bk bf bs bd K)(o:Obj):Rep (w.alloc o) bk bf bs bd K:=R.same (by simp) (λk hk _=>Below.heap_alloc w o k hk)
theorem Rep.drew (R:Rep w bk bf bs bd K):Rep w.drew bk bf bs bd K:=R.same (Nat.le_refl _) (λ_ _ _=>rfl)
theorem Rep.drewN (R:Rep w bk bf bs bd K)(n:Nat):Rep (w.drewN n) bk bf bs bd K:=R.same (by simp) (λk _ _=>by simp)
theorem Rep.setOther (R:Rep w bk bf bs bd K)(a:Addr)(v:Value)(h:a.block≠bk/\a.block≠bf/\a.block≠bs/\a.block≠bd):Rep (w.setCell a v) bk bf bs bd K :=
 R.same (by simp [World.setCell]) (λk _ e=>Below.heap_setCell w a v k (by omega))
end
structure Keeps (bf bs bd:Nat) (w w':World):Prop where
 os:w'.os=w.os
 tape:w'.tape=w.tape
 output:w'.output=w.output
 size:w.heap.size<=w'.heap.size
 block:∀ k,k<w.heap.size->k≠bf->k≠bs->k≠bd->w'.heap[k]?=w.heap[k]?
section
variable {bf bs bd:Nat} {a w w':World}
theorem Keeps.refl (w:World):Keeps bf bs bd w w:=⟨rfl,rfl,rfl,Nat.le_refl _,λ_ _ _ _ _=>rfl⟩
theorem Keeps.trans (h:Keeps bf bs bd a w)(k:Keeps bf bs bd w w'):Keeps bf bs bd a w' :=
 ⟨k.os.trans h.os,k.tape.trans h.tape,k.output.trans h.output,Nat.le_trans h.size k.size,λi hi h1 h2 h3=>(k.block i (Nat.lt_of_lt_of_le hi h.size) h1 h2 h3).trans (h.block i hi h1 h2 h3)⟩
theorem Keeps.drew (h:Keeps bf bs bd a w):Keeps bf bs bd a w.drew:=⟨h.os,h.tape,h.output,h.size,h.block⟩
theorem Keeps.drewN (h:Keeps bf bs bd a w)(n:Nat):Keeps bf bs bd a (w.drewN n):=⟨h.os,h.tape,h.output,h.size,h.block⟩
theorem Keeps.alloc (h:Keeps bf bs bd a w)(o:Obj):Keeps bf bs bd a (w.alloc o) :=
 h.trans ⟨rfl,rfl,rfl,by simp,λk hk _ _ _=>Below.heap_alloc w o k hk⟩
theorem Keeps.setCell (h:Keeps bf bs bd a w){p:Addr}(hp:p.block=bf\/p.block=bs\/p.block=bd\/a.heap.size<=p.block)(u:Value):Keeps bf bs bd a (w.setCell p u) :=
 ⟨h.os,h.tape,h.output,by rw [t9];exact h.size,λk hk h1 h2 h3=>by rw [Below.heap_setCell w p u k (by omega)];exact h.block k hk h1 h2 h3⟩
theorem Keeps.setF (h:Keeps bf bs bd a w)(o:Nat)(u:Value):Keeps bf bs bd a (w.setCell ⟨bf,o,none⟩ u):=h.setCell (p:=⟨bf,o,none⟩) (Or.inl rfl) u
theorem Keeps.setS (h:Keeps bf bs bd a w)(o:Nat)(u:Value):Keeps bf bs bd a (w.setCell ⟨bs,o,none⟩ u):=h.setCell (p:=⟨bs,o,none⟩) (Or.inr (Or.inl rfl)) u
theorem Keeps.setD (h:Keeps bf bs bd a w)(o:Nat)(u:Value):Keeps bf bs bd a (w.setCell ⟨bd,o,none⟩ u):=h.setCell (p:=⟨bd,o,none⟩) (Or.inr (Or.inr (Or.inl rfl))) u
theorem Keeps.cell (h:Keeps bf bs bd w w'){b o:Nat}(hk:b<w.heap.size)(h1:b≠bf)(h2:b≠bs)(h3:b≠bd):w'.cell? ⟨b,o,none⟩=w.cell? ⟨b,o,none⟩:=World.cell?_of_block (w:=w) (a:=⟨b,o,none⟩) (h.block b hk h1 h2 h3)
theorem Keeps.frozen (h:Keeps bf bs bd w w'){b o:Nat}(hk:b<w.heap.size)(h1:b≠bf)(h2:b≠bs)(h3:b≠bd):w'.frozen? ⟨b,o,none⟩=w.frozen? ⟨b,o,none⟩:=World.frozen?_of_block (w:=w) (a:=⟨b,o,none⟩) (h.block b hk h1 h2 h3)
theorem Keeps.below (h:Keeps bf bs bd w w'){B:Nat}(hB:B<=w.heap.size)(h1:B<=bf)(h2:B<=bs)(h3:B<=bd):Below B w w' :=
 ⟨h.os,h.tape,h.output,h.size,λk hk=>h.block k (by omega) (by omega) (by omega) (by omega)⟩
end
end Go.Proofs.YtcgabodkegcpgaaDoor
namespace Go.Proofs.YtcgabodkegcpgaaDoor
def Ker.become (K:Ker)(i:Nat)(kd ow:Int):Ker:=(((((K.setF i 0 kd).setF i 1 ow).setF i 2 0).setF i 3 0).setF i 4 0).setF i 5 0
structure Out where
 K:Ker
 n:Int
 e:Int
def Ker.page (K:Ker)(s p:Nat):Int:=K.S s (3+p*2)
def Ker.wr (K:Ker)(s p:Nat):Bool:=K.B s (4+p*2)
def Ker.file (K:Ker)(s x:Nat):Int:=K.S s (11+x*2)
def Ker.end (K:Ker)(s x:Nat):Bool:=K.B s (12+x*2)
def Ker.setPage (K:Ker)(s p:Nat)(f:Int)(b:Bool):Ker:=(K.setS s (3+p*2) f).setB s (4+p*2) b
def Ker.setFile (K:Ker)(s x:Nat)(d:Int)(b:Bool):Ker:=(K.setS s (11+x*2) d).setB s (12+x*2) b
def Ker.count (K:Ker)(d:Nat)(b:Bool)(more:Int):Ker:=if b then K.setD d 4 (K.D d 4+more) else K.setD d 3 (K.D d 3+more)
def Ker.openFile (K:Ker)(s x:Nat)(d:Nat)(b:Bool):Ker:=(K.setFile s x d b).count d b 1
def Ker.freePage (K:Ker)(s p:Nat):Ker:=(K.become (K.page s p).toNat 0 (-1)).setPage s p (-1) false
def Ker.noDuct (K:Ker)(d:Nat)(f:Int):Ker:=((((K.setD d 0 f).setD d 1 0).setD d 2 0).setD d 3 0).setD d 4 0
def Ker.closeFile (K:Ker)(s x:Nat):Ker :=
 let d:=(K.file s x).toNat
 let K1:=(K.setFile s x (-1) false).count d (K.end s x) (-1)
 if K1.D d 3=0/\K1.D d 4=0 then (K1.become (K1.D d 0).toNat 0 (-1)).noDuct d (-1) else K1
def a0s (K:Ker)(s p f:Nat):Out :=
 if K.page s p≠-1 then ⟨K,0,6⟩ else if K.F f 0≠0 then ⟨K,0,5⟩ else ⟨(K.become f 2 s).setPage s p f true,0,0⟩
def S6 (K:Ker)(s p:Nat):Out :=
 if K.page s p=-1 then ⟨K,0,6⟩ else ⟨K.freePage s p,0,0⟩
def D8 (K:Ker)(s p:Nat)(v:Int):Out :=
 if K.page s p=-1 then ⟨K,0,6⟩ else ⟨K.setB s (4+p*2) (v != 0),0,0⟩
def a0J (K:Ker)(s p x:Nat):Out :=
 if K.page s p=-1 then ⟨K,0,6⟩ else ⟨K,K.F (K.page s p).toNat (2+x),0⟩
def J4 (K:Ker)(s p x:Nat)(v:Int):Out :=
 if K.wr s p=false then ⟨K,0,6⟩ else ⟨K.setF (K.page s p).toNat (2+x) v,0,0⟩
def G3 (K:Ker)(s n f x:Nat):Out :=
 if K.D n 0≠-1 then ⟨K,0,9⟩ else if K.F f 0≠0 then ⟨K,0,5⟩
 else if x=3\/K.file s x≠-1\/K.file s (x+1)≠-1 then ⟨K,0,8⟩
 else ⟨(((K.become f 3 (-1)).noDuct n f).openFile s x n false).openFile s (x+1) n true,0,0⟩
def a2f (K:Ker)(s x t:Nat):Out :=
 if K.file s x=-1\/K.file s t≠-1 then ⟨K,0,8⟩ else ⟨K.openFile s t (K.file s x).toNat (K.end s x),0,0⟩
def S7 (K:Ker)(s x:Nat):Out :=
 if K.file s x=-1 then ⟨K,0,8⟩ else ⟨K.closeFile s x,0,0⟩
def a0l (K:Ker)(s x p j:Nat):Out :=
 if K.file s x=-1\/K.end s x=false then ⟨K,0,8⟩ else if K.page s p=-1 then ⟨K,0,6⟩
 else if K.D (K.file s x).toNat 3=0 then ⟨K,0,13⟩ else if K.D (K.file s x).toNat 2=4 then ⟨K,0,11⟩
 else ⟨(K.setF (K.D (K.file s x).toNat 0).toNat (2+((K.D (K.file s x).toNat 1+K.D (K.file s x).toNat 2) % 4).toNat) (K.F (K.page s p).toNat (2+j))).setD (K.file s x).toNat 2 (K.D (K.file s x).toNat 2+1),0,0⟩
def a1S (K:Ker)(s x p j:Nat):Out :=
 if K.file s x=-1\/K.end s x=true then ⟨K,0,8⟩ else if K.wr s p=false then ⟨K,0,6⟩
 else if K.D (K.file s x).toNat 2=0/\K.D (K.file s x).toNat 4=0 then ⟨K,0,12⟩ else if K.D (K.file s x).toNat 2=0 then ⟨K,0,11⟩
 else ⟨((K.setF (K.page s p).toNat (2+j) (K.F (K.D (K.file s x).toNat 0).toNat (2+(K.D (K.file s x).toNat 1).toNat))).setD (K.file s x).toNat 1 ((K.D (K.file s x).toNat 1+1) % 4)).setD (K.file s x).toNat 2 (K.D (K.file s x).toNat 2 - 1),0,0⟩
def J5 (K:Ker)(s c f:Nat):Out :=
 if K.S c 0≠0 then ⟨K,0,7⟩ else if K.F f 0≠0 then ⟨K,0,5⟩
 else ⟨(((K.become f 1 c).setS c 0 1).setS c 1 s).setS c 2 f,0,0⟩
def Ker.embryo (K:Ker)(s c:Nat):Bool:=K.S c 1 == (s:Int) && K.S c 0 == 1
def Ker.still (K:Ker)(s c:Nat):Bool:=K.S c 1 == (s:Int) && (K.S c 0 == 1 || K.S c 0 == 3)
def Ker.copyWords (K:Ker)(g h:Nat):Ker:=(((K.setF g 2 (K.F h 2)).setF g 3 (K.F h 3)).setF g 4 (K.F h 4)).setF g 5 (K.F h 5)
def M9 (K:Ker)(s c p f:Nat):Out :=
 if K.embryo s c=false then ⟨K,0,7⟩ else if K.page s p=-1\/K.page c p≠-1 then ⟨K,0,6⟩ else if K.F f 0≠0 then ⟨K,0,5⟩
 else ⟨((K.become f 2 c).setPage c p f (K.wr s p)).copyWords f (K.page s p).toNat,0,0⟩
def Q6 (K:Ker)(s c x t:Nat):Out :=
 if K.embryo s c=false then ⟨K,0,7⟩ else if K.file s x=-1\/K.file c t≠-1 then ⟨K,0,8⟩
 else ⟨K.openFile c t (K.file s x).toNat (K.end s x),0,0⟩
def O9 (K:Ker)(s c:Nat):Out :=
 if K.embryo s c=false then ⟨K,0,7⟩ else ⟨K.setS c 0 2,0,0⟩
def Ker.orphans (K:Ker)(s:Nat):Nat->Ker
 | 0=>K
 | n+1=>if (K.orphans s n).S n 1=s then (K.orphans s n).setS n 1 0 else K.orphans s n
def a0b (K:Ker)(s:Nat)(a:Int):Out :=
 if s=0 then ⟨K,0,7⟩ else ⟨((K.setS s 0 3).setS s 19 a).orphans s K.nS,0,0⟩
def U8 (K:Ker)(s c p:Nat):Out :=
 if K.still s c=false then ⟨K,0,7⟩ else if K.page c p=-1 then ⟨K,0,6⟩ else ⟨K.freePage c p,0,0⟩
def U9 (K:Ker)(s c x:Nat):Out :=
 if K.still s c=false then ⟨K,0,7⟩ else if K.file c x=-1 then ⟨K,0,8⟩ else ⟨K.closeFile c x,0,0⟩
def Ker.noSlot (K:Ker)(c:Nat):Ker :=
 { K with S:=λi j=>if i=c then (if j=0\/j=19 then 0 else -1) else K.S i j,B:=λi j=>if i=c then false else K.B i j }
def O5 (K:Ker)(s c:Nat):Out :=
 if K.still s c=false then ⟨K,0,7⟩
 else if K.page c 0≠-1\/K.page c 1≠-1\/K.page c 2≠-1\/K.page c 3≠-1 then ⟨K,0,6⟩
 else if K.file c 0≠-1\/K.file c 1≠-1\/K.file c 2≠-1\/K.file c 3≠-1 then ⟨K,0,8⟩
 else ⟨(K.become (K.S c 2).toNat 0 (-1)).noSlot c,K.S c 19,0⟩
def there (call:Nat):Bool:=call != 0
def i9:Nat->List Int
 | 2=>[4,1,0]|3=>[4,0,0]|4=>[4,0,0]|5=>[2,1,0]|6=>[2,4,1]|7=>[2,5,5]|8=>[2,0,0]|10=>[2,4,0]|11=>[2,5,0]|12=>[2,0,0]|13=>[3,1,5]
 | 14=>[5,5,0]|15=>[5,0,0]|16=>[5,4,6]|17=>[5,4,6]|18=>[4,6,0]|19=>[4,6,0]|_=>[0,0,0]
def q9 (K:Ker)(t:Int):Int:=if t=1 then K.nF else if t=2 then K.nS else if t=3 then K.nD else if t=4 then 4 else if t=5 then 4 else if t=6 then 4 else 0
def y9 (K:Ker)(t a:Int):Bool:=t == 0 || (decide (0<=a) && decide (a<q9 K t))
def kDo (K:Ker)(s call:Nat)(a b c:Int):Out :=
 match call with
 | 1=>⟨K,0,0⟩
 | 2=>a0s K s a.toNat b.toNat
 | 3=>S6 K s a.toNat
 | 4=>D8 K s a.toNat b
 | 5=>J5 K s a.toNat b.toNat
 | 6=>M9 K s a.toNat b.toNat c.toNat
 | 7=>Q6 K s a.toNat b.toNat c.toNat
 | 8=>O9 K s a.toNat
 | 9=>a0b K s a
 | 10=>U8 K s a.toNat b.toNat
 | 11=>U9 K s a.toNat b.toNat
 | 12=>O5 K s a.toNat
 | 13=>G3 K s a.toNat b.toNat c.toNat
 | 14=>a2f K s a.toNat b.toNat
 | 15=>S7 K s a.toNat
 | 16=>a0l K s a.toNat b.toNat c.toNat
 | 17=>a1S K s a.toNat b.toNat c.toNat
 | 18=>a0J K s a.toNat b.toNat
 | 19=>J4 K s a.toNat b.toNat c
 | _=>⟨K,0,2⟩
def o8 (K:Ker)(slot call a b c:Int):Out :=
 if ¬ (0<=call/\call<20)\/call=0 then ⟨K,0,2⟩
 else if ¬ (0<=slot/\slot<K.nS)\/K.S slot.toNat 0≠2 then ⟨K,0,3⟩
 else if y9 K ((i9 call.toNat).getD 0 0) a=false\/y9 K ((i9 call.toNat).getD 1 0) b=false\/y9 K ((i9 call.toNat).getD 2 0) c=false then ⟨K,0,4⟩
 else kDo K slot.toNat call.toNat a b c
structure Good (K:Ker):Prop where
 page:∀ i p,i<K.nS->p<4->K.page i p=-1\/(0<=K.page i p/\K.page i p<K.nF)
 wr:∀ i p,i<K.nS->p<4->K.wr i p=true->K.page i p≠-1
 file:∀ i x,i<K.nS->x<4->K.file i x=-1\/(0<=K.file i x/\K.file i x<K.nD/\0<=K.D (K.file i x).toNat 0)
 duct:∀ d,d<K.nD->K.D d 0=-1\/(0<=K.D d 0/\K.D d 0<K.nF)
 head:∀ d,d<K.nD->0<=K.D d 1/\K.D d 1<4
 cnt:∀ d,d<K.nD->0<=K.D d 2/\K.D d 2<=4
 rd:∀ d,d<K.nD->0<=K.D d 3/\K.D d 3<=24
 wt:∀ d,d<K.nD->0<=K.D d 4/\K.D d 4<=24
 tab:∀ i,i<K.nS->K.S i 0≠0->0<=K.S i 2/\K.S i 2<K.nF
end Go.Proofs.YtcgabodkegcpgaaDoor
namespace Go.Proofs.YtcgabodkegcpgaaDoor
open Go.RowKit
section
variable {bk bf bs bd:Nat} {K:Ker} {w:World}
theorem a2g:¬ isB 0:=by unfold isB;omega
theorem a6d:¬ isB 1:=by unfold isB;omega
theorem a6e:¬ isB 2:=by unfold isB;omega
theorem a7T:¬ isB 19:=by unfold isB;omega
theorem a3U (p:Nat):¬ isB (3+p*2):=by unfold isB;omega
theorem a6f (p:Nat):¬ isB (11+p*2):=by unfold isB;omega
theorem b6j (p:Nat)(h:p<4):isB (4+p*2):=by unfold isB;omega
theorem c0y (p:Nat)(h:p<4):isB (12+p*2):=by unfold isB;omega
theorem Rep.fk (R:Rep w bk bf bs bd K){i:Nat}(hi:i<K.nF):w.cell? ⟨bf,i*6,none⟩=some (.int .i64 (K.F i 0)):=R.f i 0 hi (by omega)
theorem Rep.fo (R:Rep w bk bf bs bd K){i:Nat}(hi:i<K.nF):w.cell? ⟨bf,i*6+1,none⟩=some (.int .i64 (K.F i 1)):=R.f i 1 hi (by omega)
theorem Rep.fw (R:Rep w bk bf bs bd K){i j:Nat}(hi:i<K.nF)(hj:j<4):w.cell? ⟨bf,i*6+2+j,none⟩=some (.int .i64 (K.F i (2+j))):=by
 rw [Nat.add_assoc];exact R.f i (2+j) hi (by omega)
theorem Rep.sk (R:Rep w bk bf bs bd K){i:Nat}(hi:i<K.nS):w.cell? ⟨bs,i*20,none⟩=some (.int .i64 (K.S i 0)):=R.s i 0 hi (by omega) a2g
theorem Rep.sp (R:Rep w bk bf bs bd K){i:Nat}(hi:i<K.nS):w.cell? ⟨bs,i*20+1,none⟩=some (.int .i64 (K.S i 1)):=R.s i 1 hi (by omega) a6d
theorem Rep.st (R:Rep w bk bf bs bd K){i:Nat}(hi:i<K.nS):w.cell? ⟨bs,i*20+2,none⟩=some (.int .i64 (K.S i 2)):=R.s i 2 hi (by omega) a6e
theorem Rep.sc (R:Rep w bk bf bs bd K){i:Nat}(hi:i<K.nS):w.cell? ⟨bs,i*20+19,none⟩=some (.int .i64 (K.S i 19)):=R.s i 19 hi (by omega) a7T
theorem Rep.pf (R:Rep w bk bf bs bd K){i p:Nat}(hi:i<K.nS)(hp:p<4):w.cell? ⟨bs,i*20+3+p*2,none⟩=some (.int .i64 (K.S i (3+p*2))):=by
 rw [Nat.add_assoc];exact R.s i _ hi (by omega) (a3U p)
theorem Rep.pw (R:Rep w bk bf bs bd K){i p:Nat}(hi:i<K.nS)(hp:p<4):w.cell? ⟨bs,i*20+3+p*2+1,none⟩=some (.bool (K.B i (4+p*2))):=by
 rw [show i*20+3+p*2+1=i*20+(4+p*2) by omega];exact R.b i _ hi (b6j p hp)
theorem Rep.ff (R:Rep w bk bf bs bd K){i p:Nat}(hi:i<K.nS)(hp:p<4):w.cell? ⟨bs,i*20+11+p*2,none⟩=some (.int .i64 (K.S i (11+p*2))):=by
 rw [Nat.add_assoc];exact R.s i _ hi (by omega) (a6f p)
theorem Rep.fe (R:Rep w bk bf bs bd K){i p:Nat}(hi:i<K.nS)(hp:p<4):w.cell? ⟨bs,i*20+11+p*2+1,none⟩=some (.bool (K.B i (12+p*2))):=by
 rw [show i*20+11+p*2+1=i*20+(12+p*2) by omega];exact R.b i _ hi (c0y p hp)
theorem G4 (R:Rep w bk bf bs bd K){i:Nat}(hi:i<K.nF) :
  Calls Tryd.prog 65 #[.pointer (some ⟨bk,0,none⟩),.int .i64 i] w λe w'=>e=.returned (.bool (K.F i 0 == 0))/\w'=w:=by
 have k0:=R.k0;have hc:=R.fk hi;have hn:=R.hF;clear R
 go_enter Tryd.func65,Tryd.ntmps65
 go_wp2
 go_ret
 exact ⟨rfl,rfl⟩
theorem s8 (R:Rep w bk bf bs bd K){i p:Nat}(hi:i<K.nS)(hp:p<4) :
  Calls Tryd.prog 64 #[.pointer (some ⟨bk,0,none⟩),.int .i64 i,.int .i64 p] w λe w'=>e=.returned (.bool (K.S i (3+p*2) != -1))/\w'=w:=by
 have k0:=R.k1;have hc:=R.pf hi hp;have hn:=R.hS;clear R
 go_enter Tryd.func64,Tryd.ntmps64
 go_wp2
 go_ret
 exact ⟨rfl,rfl⟩
theorem M7 (R:Rep w bk bf bs bd K){i p:Nat}(hi:i<K.nS)(hp:p<4) :
  Calls Tryd.prog 68 #[.pointer (some ⟨bk,0,none⟩),.int .i64 i,.int .i64 p] w λe w'=>e=.returned (.bool (K.B i (4+p*2)))/\w'=w:=by
 have k0:=R.k1;have hc:=R.pw hi hp;have hn:=R.hS;clear R
 go_enter Tryd.func68,Tryd.ntmps68
 go_wp2
 go_ret
 exact ⟨rfl,rfl⟩
theorem z7 (R:Rep w bk bf bs bd K){i p:Nat}(hi:i<K.nS)(hp:p<4) :
  Calls Tryd.prog 70 #[.pointer (some ⟨bk,0,none⟩),.int .i64 i,.int .i64 p] w λe w'=>e=.returned (.bool (K.S i (11+p*2) != -1))/\w'=w:=by
 have k0:=R.k1;have hc:=R.ff hi hp;have hn:=R.hS;clear R
 go_enter Tryd.func70,Tryd.ntmps70
 go_wp2
 go_ret
 exact ⟨rfl,rfl⟩
theorem P0 (R:Rep w bk bf bs bd K){i:Nat}(q:Int)(hi:i<K.nS) :
  Calls Tryd.prog 72 #[.pointer (some ⟨bk,0,none⟩),.int .i64 q,.int .i64 i] w λe w'=>e=.returned (.bool (K.S i 1 == q))/\w'=w:=by
 have k0:=R.k1;have hc:=R.sp hi;have hn:=R.hS;clear R
 go_enter Tryd.func72,Tryd.ntmps72
 go_wp2
 go_ret
 exact ⟨rfl,rfl⟩
theorem a0z (R:Rep w bk bf bs bd K){i p g:Nat}(hi:i<K.nS)(hp:p<4)(hg:K.S i (3+p*2)=g)(hl:g<K.nF) :
  Calls Tryd.prog 69 #[.pointer (some ⟨bk,0,none⟩),.int .i64 i,.int .i64 p] w λe w'=>e=.returned (.pointer (some ⟨bf,g*6+2,none⟩))/\∃ n,w'=w.drewN n:=by
 have k0:=R.k0;have k1:=R.k1;have hc:=R.pf hi hp;have hn:=R.hS;have hm:=R.hF;rw [hg] at hc;clear R hg
 go_enter Tryd.func69,Tryd.ntmps69
 go_wp2
 go_quiet (fail)
 go_wp2
 go_ret
 exact ⟨rfl,_,rfl⟩
theorem P1 (R:Rep w bk bf bs bd K){i:Nat}(kd ow:Int)(hi:i<K.nF) :
  Calls Tryd.prog 29 #[.pointer (some ⟨bk,0,none⟩),.int .i64 i,.int .i64 kd,.int .i64 ow] w λe w'=>e=.returned (.tuple #[])/\Rep w' bk bf bs bd (K.become i kd ow)/\Keeps bf bs bd w w':=by
 have k0:=R.k0;have hn:=R.hF;have z:=R.zf;have h0:=R.fk hi;have h1:=R.fo hi;have h2:=R.f i 2 hi (by omega);have h3:=R.f i 3 hi (by omega);have h4:=R.f i 4 hi (by omega);have h5:=R.f i 5 hi (by omega);have HR:Hid (Rep w bk bf bs bd K):=R;clear R
 go_enter Tryd.func29,Tryd.ntmps29
 go_wp2
 go_end0
 have R1:=HR.out.setF (c:=0) (o:=i*6) hi (by omega) rfl kd;have R2:=R1.setF (c:=1) (o:=i*6+1) hi (by omega) rfl ow;have R3:=R2.setF (c:=2) (o:=i*6+2) hi (by omega) rfl 0;have R4:=R3.setF (c:=3) (o:=i*6+3) hi (by omega) rfl 0;have R5:=R4.setF (c:=4) (o:=i*6+4) hi (by omega) rfl 0;have R6:=R5.setF (c:=5) (o:=i*6+5) hi (by omega) rfl 0;exact ⟨rfl,R6,((((((Keeps.refl w).setF _ _).setF _ _).setF _ _).setF _ _).setF _ _).setF _ _⟩
end
section
variable {bk bf bs bd:Nat} {K:Ker} {w:World}
def X0 (n m:Int):Bool:=decide (0<=n) && decide (n<m)
theorem F3 (n m:Int)(w:World) :
  Calls Tryd.prog 30 #[.int .i64 n,.int .i64 m] w λe w'=>e=.returned (.bool (X0 n m))/\w'=w:=by
 by_cases h1:0<=n
 ·by_cases h2:n<m
  ·have E:Hid (X0 n m=true):=by unfold X0 Hid;simp [h1,h2]
   go_enter Tryd.func30,Tryd.ntmps30
   go_wp2
   go_ret
   rw [E.out];exact ⟨rfl,rfl⟩
  ·have E:Hid (X0 n m=false):=by unfold X0 Hid;simp;omega
   go_enter Tryd.func30,Tryd.ntmps30
   go_wp2
   go_ret
   rw [E.out];exact ⟨rfl,rfl⟩
 ·have E:Hid (X0 n m=false):=by unfold X0 Hid;simp;omega
  go_enter Tryd.func30,Tryd.ntmps30
  go_wp2
  go_ret
  rw [E.out];exact ⟨rfl,rfl⟩
theorem U0 (R:Rep w bk bf bs bd K)(t:Int)(h0:0<=t)(h6:t<=6) :
  Calls Tryd.prog 31 #[.pointer (some ⟨bk,0,none⟩),.int .i64 t] w λe w'=>e=.returned (.int .i64 (q9 K t))/\w'=w:=by
 have k0:=R.k0;have k1:=R.k1;have k2:=R.k2;clear R;obtain rfl|rfl|rfl|rfl|rfl|rfl|rfl:t=0\/t=1\/t=2\/t=3\/t=4\/t=5\/t=6:=by omega
 all_goals
  go_enter Tryd.func31,Tryd.ntmps31
  go_wp2
  go_ret
  exact ⟨rfl,rfl⟩
end
section
variable {bk bf bs bd:Nat} {K:Ker} {w:World}
def Ends (bk bf bs bd:Nat)(w:World)(r:Out)(e:Ending)(w':World):Prop :=
 e=.returned (.tuple #[.int .i64 r.n,.int .i64 r.e])/\Rep w' bk bf bs bd r.K/\Keeps bf bs bd w w'
theorem Ends.mk {r:Out}{K':Ker}{n e:Int}{w':World}(E:Hid (r=⟨K',n,e⟩))(R:Rep w' bk bf bs bd K')(k:Keeps bf bs bd w w') :
  Ends bk bf bs bd w r (.returned (.tuple #[.int .i64 n,.int .i64 e])) w':=by
 unfold Ends;rw [E.out];exact ⟨rfl,R,k⟩
theorem b8R (R:Rep w bk bf bs bd K){s p f:Nat}(z:Int)(hs:s<K.nS)(hp:p<4)(hf:f<K.nF) :
  Calls Tryd.prog 45 #[.pointer (some ⟨bk,0,none⟩),.int .i64 s,.agg #[.int .i64 p,.int .i64 f,.int .i64 z]] w (Ends bk bf bs bd w (a0s K s p f)):=by
 have HR:Hid (Rep w bk bf bs bd K):=R;have hn:=R.hF;have hm:=R.hS;clear R
 by_cases h1:K.page s p=-1
 ·have e1:(K.S s (3+p*2) != -1)=false:=by simpa [Ker.page] using h1
  by_cases h2:K.F f 0=0
  ·have e2:(K.F f 0 == 0)=true:=by simpa using h2
   have E:Hid (a0s K s p f=⟨(K.become f 2 s).setPage s p f true,0,0⟩):=by unfold a0s;simp [h1,h2,Hid]
   clear h1 h2
   go_enter Tryd.func45,Tryd.ntmps45
   go_wp2
   go_quiet (fail)
   go_wp2_with fail
   refine (s8 ((HR.out.alloc _).drewN _) hs hp).mono ?_;rintro e w1 ⟨rfl,rfl⟩
   go_wp2_with fail
   refine (G4 ((HR.out.alloc _).drewN _) hf).mono ?_;rintro e w1 ⟨rfl,rfl⟩
   go_wp2_with fail
   refine (P1 ((HR.out.alloc _).drewN _) _ _ hf).mono ?_;rintro e w1 ⟨rfl,R1,k1⟩;have q0:=R1.k1;have q1:=R1.pf hs hp;have q2:=R1.pw hs hp;have q3:=R1.zs;have q4:s<(K.become f 2 ↑s).nS:=hs;have q5:=R1.hS
   go_wp2
   go_ret2
   exact Ends.mk E ((R1.setS hs (by omega) (a3U p) (by omega) _).setB hs (b6j p hp) (by omega) _) ((((((Keeps.refl w).alloc _).drewN _).trans k1).setS _ _).setS _ _)
  ·have e2:(K.F f 0 == 0)=false:=by simpa using h2
   have E:Hid (a0s K s p f=⟨K,0,5⟩):=by unfold a0s;simp [h1,h2,Hid]
   clear h1 h2
   go_enter Tryd.func45,Tryd.ntmps45
   go_wp2
   go_quiet (fail)
   go_wp2_with fail
   refine (s8 ((HR.out.alloc _).drewN _) hs hp).mono ?_;rintro e w1 ⟨rfl,rfl⟩
   go_wp2_with fail
   refine (G4 ((HR.out.alloc _).drewN _) hf).mono ?_;rintro e w1 ⟨rfl,rfl⟩
   go_wp2
   go_ret2
   exact Ends.mk E ((HR.out.alloc _).drewN _) (((Keeps.refl w).alloc _).drewN _)
 ·have e1:(K.S s (3+p*2) != -1)=true:=by simpa [Ker.page] using h1
  have E:Hid (a0s K s p f=⟨K,0,6⟩):=by unfold a0s;simp [h1,Hid]
  clear h1
  go_enter Tryd.func45,Tryd.ntmps45
  go_wp2
  go_quiet (fail)
  go_wp2_with fail
  refine (s8 ((HR.out.alloc _).drewN _) hs hp).mono ?_;rintro e w1 ⟨rfl,rfl⟩
  go_wp2
  go_ret2
  exact Ends.mk E ((HR.out.alloc _).drewN _) (((Keeps.refl w).alloc _).drewN _)
theorem b6k (R:Rep w bk bf bs bd K)(G:Good K){s p j:Nat}(z:Int)(hs:s<K.nS)(hp:p<4)(hj:j<4) :
  Calls Tryd.prog 61 #[.pointer (some ⟨bk,0,none⟩),.int .i64 s,.agg #[.int .i64 p,.int .i64 j,.int .i64 z]] w (Ends bk bf bs bd w (a0J K s p j)):=by
 have HR:Hid (Rep w bk bf bs bd K):=R;have hn:=R.hF;have hm:=R.hS;clear R
 by_cases h1:K.page s p=-1
 ·have e1:(K.S s (3+p*2) != -1)=false:=by simpa [Ker.page] using h1
  have E:Hid (a0J K s p j=⟨K,0,6⟩):=by unfold a0J;simp [h1,Hid]
  clear h1
  go_enter Tryd.func61,Tryd.ntmps61
  go_wp2
  go_quiet (fail)
  go_wp2_with fail
  refine (s8 ((HR.out.alloc _).drewN _) hs hp).mono ?_;rintro e w1 ⟨rfl,rfl⟩
  go_wp2
  go_ret2
  exact Ends.mk E ((HR.out.alloc _).drewN _) (((Keeps.refl w).alloc _).drewN _)
 ·have e1:(K.S s (3+p*2) != -1)=true:=by simpa [Ker.page] using h1
  obtain ⟨g,hg⟩:∃ g:Nat,K.page s p=g:=by rcases G.page s p hs hp with h|h;exact absurd h h1;exact ⟨(K.page s p).toNat,by omega⟩
  have hl:g<K.nF:=by rcases G.page s p hs hp with h|h;exact absurd h h1;omega
  have E:Hid (a0J K s p j=⟨K,K.F g (2+j),0⟩):=by unfold a0J;rw [if_neg h1,hg];simp [Hid]
  have Hg:Hid (K.S s (3+p*2)=g):=hg;clear h1 hg;have c1:=λo=>(HR.out.alloc o).fw hl hj
  go_enter Tryd.func61,Tryd.ntmps61
  go_wp2
  go_quiet (fail)
  go_wp2_with fail
  refine (s8 ((HR.out.alloc _).drewN _) hs hp).mono ?_;rintro e w1 ⟨rfl,rfl⟩
  go_wp2_with fail
  refine (a0z ((HR.out.alloc _).drewN _) hs hp Hg.out hl).mono ?_;rintro e w1 ⟨rfl,nq',rfl⟩
  go_wp2
  go_ret2
  exact Ends.mk E ((HR.out.alloc _).drewN _) (((Keeps.refl w).alloc _).drewN _)
theorem b3y (R:Rep w bk bf bs bd K)(G:Good K){s p j:Nat}(z:Int)(hs:s<K.nS)(hp:p<4)(hj:j<4) :
  Calls Tryd.prog 62 #[.pointer (some ⟨bk,0,none⟩),.int .i64 s,.agg #[.int .i64 p,.int .i64 j,.int .i64 z]] w (Ends bk bf bs bd w (J4 K s p j z)):=by
 have HR:Hid (Rep w bk bf bs bd K):=R;have hn:=R.hF;have hm:=R.hS;clear R
 by_cases h1:K.wr s p=true
 ·have e1:K.B s (4+p*2)=true:=h1;have h2:=G.wr s p hs hp h1;obtain ⟨g,hg⟩:∃ g:Nat,K.page s p=g:=by rcases G.page s p hs hp with h|h;exact absurd h h2;exact ⟨(K.page s p).toNat,by omega⟩
  have hl:g<K.nF:=by rcases G.page s p hs hp with h|h;exact absurd h h2;omega
  have E:Hid (J4 K s p j z=⟨K.setF g (2+j) z,0,0⟩):=by unfold J4;rw [if_neg (by simp [h1]),hg];simp [Hid]
  have Hg:Hid (K.S s (3+p*2)=g):=hg;clear h1 hg h2;have c1:=λo=>(HR.out.alloc o).fw hl hj;have c2:=λo=>(HR.out.alloc o).zf
  go_enter Tryd.func62,Tryd.ntmps62
  go_wp2
  go_quiet (fail)
  go_wp2_with fail
  refine (M7 ((HR.out.alloc _).drewN _) hs hp).mono ?_;rintro e w1 ⟨rfl,rfl⟩
  go_wp2_with fail
  go_region_with (go_at_call 69;refine (a0z ((HR.out.alloc _).drewN _) hs hp Hg.out hl).mono ?_;rintro e w1 ⟨rfl,nq',rfl⟩)
  all_goals
   go_wp2
   go_ret2
   exact Ends.mk E (((HR.out.alloc _).drewN _).setF hl (by omega) (by omega) _) ((((Keeps.refl w).alloc _).drewN _).setF _ _)
 ·have e1:K.B s (4+p*2)=false:=by simpa [Ker.wr] using h1
  have E:Hid (J4 K s p j z=⟨K,0,6⟩):=by unfold J4;simp [h1,Hid]
  clear h1
  go_enter Tryd.func62,Tryd.ntmps62
  go_wp2
  go_quiet (fail)
  go_wp2_with fail
  refine (M7 ((HR.out.alloc _).drewN _) hs hp).mono ?_;rintro e w1 ⟨rfl,rfl⟩
  go_wp2
  go_ret2
  exact Ends.mk E ((HR.out.alloc _).drewN _) (((Keeps.refl w).alloc _).drewN _)
end
end Go.Proofs.YtcgabodkegcpgaaDoor
