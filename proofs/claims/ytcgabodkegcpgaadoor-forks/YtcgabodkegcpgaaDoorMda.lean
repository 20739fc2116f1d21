/- Functions that leave only new blocks, in company: New, Done, State, sameState, sameDones. -/
import Derived.Test.YtcgabodkegcpgaaDoorMcp
import Derived.Test.YtcgabodkegcpgaaDoorSao
import Derived.Test.YtcgabodkegcpgaaDoorRpp
import Derived.Test.YtcgabodkegcpgaaDoorNew1
import Derived.Test.YtcgabodkegcpgaaDoorInv3
set_option linter.unusedVariables false
set_option linter.unusedSimpArgs false
set_option maxHeartbeats 20000000
set_option maxRecDepth 100000
namespace Go.Proofs.YtcgabodkegcpgaaDoor
open Go.Conc Go.RowKit
open Br (X OpD KO SO SP sfO Lk Fit Must DL Liv Clear)
section
variable {kb:Kb} {l:List OpD} {K:Ker} {L:Nat->Option Lv} {r:Nat} {Inb:Nat->Option Seat} {nG:Nat} {w w':World} {b:Lb} {n B0:Nat} {U:Nat->Option OpD} {V:Nat->Value} {N:Nat->Nat} {Xs:Nat->List Value}
theorem a0L (hft:Fit (sfO l) w)(hko:KO l w)(main:Bool){f:FuncId}(hf:Br.Sg f=true){args:Array Value}{R R':Value->World->Prop}{d:Nat}
  (hspec:∀ v,Lk (sfO l) v (w.at d)->Calls Tryd.prog f args v (λe v'=>∃ x,e=.returned x/\Below v.heap.size v v'/\R x v'))
  (hR:∀ x v' w',v'.heap.size=w'.heap.size->(∀ k,w.heap.size<=k->w'.heap[k]?=v'.heap[k]?)->R x v'->R' x w')(fr:Frame)(cs:List Frame) :
  Must Tryd.prog main (DL true (sfO l)) (λg w'=>∃ x,g=G (fr.finish x) cs/\Grown w w'/\R' x w') (G (Frame.enter Tryd.prog f args .normal) (fr::cs)) (w.at d):=by
 refine (Br.S8 Br.a3j (sft:=sfO l) (w0:=w.at d) hf ⟨hft.soft,hft.clear⟩ main (Q:=λx v'=>∃ v,Lk (sfO l) v (w.at d)/\Below v.heap.size v v'/\R x v') (λv hv=>(hspec v hv).mono λe v' he=>by
   obtain ⟨x,rfl,h1,h2⟩:=he
   exact ⟨v,hv,h1,h2⟩) fr cs).keep.mono (λ_ _ _ h=>h) ?_
 rintro g w' ⟨⟨x,v',rfl,hl',v,hv,hb,hr⟩,hkp⟩;have e1:v.heap.size=w.heap.size:=hv.size;have e2:v'.heap.size=w'.heap.size:=hl'.size;refine ⟨x,rfl,⟨by have:=hb.size;omega,λk hk=>H7 (w:=w.at d) hkp hv hl' (hb.block k (by omega)),hl'.fit.clear⟩,hR x v' w' e2 (λk hk=>?_) hr⟩;have hz:sfO l k=0:=Br.G6 λo ho=>by have:=Br.KO.lt hko ho;omega
 rw [hl'.heap,hz]
 cases e:w'.heap[k]? with
 | none=>rfl
 | some o=>rw [Option.map_some,Br.a1s (hkp.new k o hk e)]
theorem b6z {w w':World}{b t n:Nat}{f:Nat->Value}(h:w.rowIs b t n f)(e:w'.heap[b]?=w.heap[b]?):w'.rowIs b t n f:=h.of_block e
theorem b3I (co:Co kb l K L r Inb nG w)(lm:LibM0 kb l L w b n B0 U V N Xs){p:Nat}(hp:p<n)(hN:N p<=4398046511104)(hx:∀ x∈Xs p,x.oneCell'=true)(fr:Frame)(cs:List Frame)(d:Nat) :
  Must Tryd.prog true (DL true (sfO l)) (λg w'=>∃ x,g=G (fr.finish x) cs/\Grown w w'/\x=.tuple #[.slice (some ⟨w.heap.size,0,none⟩) (N p) (N p),.int .i64 0]/\w'.rowIs w.heap.size 70 (N p*5) (λj=>(Xs p).getD j (.bool false)))
   (G (Frame.enter Tryd.prog 21 #[.pointer (some ⟨b.bl,0,none⟩),.int .i64 p] .normal) (fr::cs)) (w.at d):=by
 refine a0L co.env.fit co.env.ko true (by kernel_rfl) (R:=λx v'=>x=.tuple #[.slice (some ⟨w.heap.size,0,none⟩) (N p) (N p),.int .i64 0]/\v'.rowIs w.heap.size 70 (N p*5) (λj=>(Xs p).getD j (.bool false))) (λv hv=>?_) (λx v' w' hs hk h=>⟨h.1,b6z h.2 (hk _ (Nat.le_refl _))⟩) fr cs;have sv:v.heap.size=w.heap.size:=hv.size;refine (b6y v b.bl b.bu b.bn n B0 p (N p) (V p) (Xs p) (by rw [hv.cell];exact lm.is.k1) (by rw [hv.cell];exact lm.is.k2) hp (by rw [hv.cell];exact lm.is.d.cell hp) (N5 (lm.is.own p hp) (λx hx=>Z4 hv (lm.mls p hp x hx).sf (.inl (a3p (lm.is.own p hp) hx)))) hN hx).mono ?_;rintro e v' ⟨rfl,h⟩;have hrow:=h.row;rw [sv] at hrow;exact ⟨_,rfl,h.bel,by rw [sv],hrow⟩
theorem b3J (co:Co kb l K L r Inb nG w)(fr:Frame)(cs:List Frame)(d:Nat) :
  Must Tryd.prog true (DL true (sfO l)) (λg w'=>∃ x,g=G (fr.finish x) cs/\Grown w w'/\∃ b:Lb,x=.pointer (some ⟨b.bl,0,none⟩)/\(w.heap.size<=b.bu/\w.heap.size<=b.bn)/\LibM kb l L w' b K.nS (b.bl+1) (λ_=>none) (λ_=>.slice none 0 0) (λ_=>0) (λ_=>[]))
   (G (Frame.enter Tryd.prog 16 #[.pointer (some ⟨kb.bk,0,none⟩)] .normal) (fr::cs)) (w.at d):=by
 obtain ⟨z1,z2,z3⟩:=co.env.zero;have h6:K.nS<=6:=co.env.rep.hS
 refine (a0L co.env.fit co.env.ko true (by kernel_rfl) (R:=λx v'=>∃ bl bu bn,x=.pointer (some ⟨bl,0,none⟩)/\w.heap.size<=bu/\w.heap.size<=bn/\bu<bl/\bn<bl/\bu≠bn/\v'.heap[bl]?=some (.cells (nlA kb.bk K.nS bu bn) 104 (0,0))/\X2 v' bu K.nS (λ_=>.pointer none)/\X2 v' bn K.nS (λ_=>.slice none 0 0))
  (R':=λx v'=>∃ bl bu bn,x=.pointer (some ⟨bl,0,none⟩)/\w.heap.size<=bu/\w.heap.size<=bn/\bu<bl/\bn<bl/\bu≠bn/\v'.heap[bl]?=some (.cells (nlA kb.bk K.nS bu bn) 104 (0,0))/\X2 v' bu K.nS (λ_=>.pointer none)/\X2 v' bn K.nS (λ_=>.slice none 0 0)) (λv hv=>?_) (λx v' w' hs hk h=>?_) fr cs).mono (λ_ _ _ h=>h) ?_
 ·have sv:v.heap.size=w.heap.size:=hv.size;refine (b6x (a9b (w:=w.at d) hv z1 z2 z3 (co.env.rep.same (Nat.le_refl _) (λ_ _ _=>rfl)))).mono ?_;rintro e v' ⟨bl,rfl,bu,bn,h⟩;exact ⟨_,rfl,h.bel,bl,bu,bn,rfl,by rw [← sv];exact h.gu,by rw [← sv];exact h.gn,h.lu,h.ln,h.un,h.l,h.u,h.d⟩
 ·obtain ⟨bl,bu,bn,e,gu,gn,lu,ln,un,h1,h2,h3⟩:=h;exact ⟨bl,bu,bn,e,gu,gn,lu,ln,un,by rw [hk _ (by omega)];exact h1,h2.of (hk _ gu),h3.of (hk _ gn)⟩
 ·rintro g w' ⟨x,rfl,hG,bl,bu,bn,rfl,gu,gn,lu,ln,un,h1,h2,h3⟩;have llt:bl<w'.heap.size:=(Array.getElem?_eq_some_iff.1 h1).1;have m1:=co.new (w':=w') (k:=bl) (by omega) llt;have m2:=co.new (w':=w') (k:=bu) gu h2.lt;have m3:=co.new (w':=w') (k:=bn) gn h3.lt;refine ⟨_,rfl,hG,⟨bl,bu,bn⟩,rfl,⟨gu,gn⟩,⟨⟨by simp [World.cell?,h1,nlA],by simp [World.cell?,h1,nlA],by simp [World.cell?,h1,nlA],h2,h3,λp hp=>⟨rfl,.inl ⟨rfl,rfl⟩⟩,λp q _ _ _=>.inl rfl,⟨?_,?_,un,?_,?_,?_⟩,h6⟩,m1,m2,m3,λp hp g hg=>(by cases hg),Nat.le_refl _⟩,λp hp o ho=>(by cases ho)⟩<;>simp only<;>omega
end
section
variable {kb:Kb} {l:List OpD} {K:Ker} {L:Nat->Option Lv} {r:Nat} {Inb:Nat->Option Seat} {nG:Nat} {w w':World} {b:Lb} {n B0:Nat} {U:Nat->Option OpD} {V:Nat->Value} {N:Nat->Nat} {Xs:Nat->List Value}
theorem b6A (co:Co kb l K L r Inb nG w){K':Ker}(hE:b2c kb l K' w')(hS:K'.nS=K.nS)(hA:Alike (kc kb) w w'):Co kb l K' L r Inb nG w'/\Kp kb L w L w':=by
 have blk:∀ k,k<w.heap.size->k≠kb.bf->k≠kb.bs->k≠kb.bd->w'.heap[k]?=w.heap[k]?:=hA.block;refine ⟨⟨hE,co.top,co.gid,co.onk,λg v hv=>?_,λg v hv=>by rw [hS];exact co.wait g v hv,co.seat,co.none,λs c h1 h2=>Nat.lt_of_lt_of_le (co.main0 s c h1 h2) hA.size,λg v hv c hc=>?_,co.chne,co.pvch,co.apart⟩,λk hk=>⟨⟨Nat.lt_of_lt_of_le hk.lt hA.size,hk.nf,hk.ns,hk.nd,hk.own⟩,blk k hk.lt hk.nf hk.ns hk.nd⟩⟩
 ·obtain ⟨free,un,A⟩:=co.at_ g v hv;have hO:=co.onk g v hv;refine ⟨free,un,A.other (hO.env hE) (λi hi=>?_)⟩;obtain ⟨_,a1,a2,a3,_⟩:=A.own.ap i hi;obtain ⟨k1,k2,k3,k4⟩:=hO;exact blk i (A.lt hi) (by rw [← k2];exact a1) (by rw [← k3];exact a2) (by rw [← k4];exact a3)
 ·obtain ⟨⟨cap,k,h⟩,a0,a1,a2,a3,a4,a5⟩:=co.chan g v hv c hc;exact ⟨⟨cap,k,by rw [blk c (Array.getElem?_eq_some_iff.1 h).1 a1 a2 a3];exact h⟩,a0,a1,a2,a3,a4,a5⟩
theorem LibM.same (h:LibM kb l L w b n B0 U V N Xs)(hk:Kp kb L w L w'):LibM kb l L w' b n B0 U V N Xs:=⟨h.m.turn hk,h.live⟩
theorem b1l (co:Co kb l K L r Inb nG w)(slot num a c e:Int)(fr:Frame)(cs:List Frame)(d:Nat) :
  Must Tryd.prog true (DL true (sfO l)) (λg w'=>g=G (fr.finish (.tuple #[.int .i64 (o8 K slot num a c e).n,.int .i64 (o8 K slot num a c e).e])) cs/\Co kb l (o8 K slot num a c e).K L r Inb nG w'/\Kp kb L w L w')
   (G (Frame.enter Tryd.prog 11 #[.pointer (some ⟨kb.bk,0,none⟩),.int .i64 slot,.int .i64 num,.agg #[.int .i64 a,.int .i64 c,.int .i64 e]] .normal) (fr::cs)) (w.at d):=by
 have co':=co.at d;refine (b2k (C:=kc kb) co'.env co.top true slot num a c e fr cs).mono (λ_ _ _ h=>h) ?_;rintro g w' ⟨rfl,hE,hA⟩;have R:=co'.env.rep;have hS:=(a4u R hE.rep (hA.block _ R.lk R.kf R.ks R.kd)).2.1;obtain ⟨h1,h2⟩:=b6A co' hE hS hA;exact ⟨rfl,h1,λk hk=>h2 k ⟨hk.lt,hk.nf,hk.ns,hk.nd,hk.own⟩⟩
theorem a9X (co:Co kb l K L r Inb nG w)(fr:Frame)(cs:List Frame)(d:Nat) :
  Must Tryd.prog true (DL true (sfO l)) (λg w'=>∃ gF gS gD,g=G (fr.finish (A4 K gF gS gD)) cs/\Grown w w'/\Snap w' gF gS gD K/\w.heap.size<=gF/\w.heap.size<=gS/\w.heap.size<=gD)
   (G (Frame.enter Tryd.prog 13 #[.pointer (some ⟨kb.bk,0,none⟩)] .normal) (fr::cs)) (w.at d):=by
 refine (a6P (C:=kc kb) (co.at d).env true fr cs).mono (λ_ _ _ h=>h) ?_;rintro g w' ⟨gF,gS,gD,rfl,h1,h2,h3,h4,h5,h6,h7⟩;exact ⟨gF,gS,gD,rfl,⟨h1,h2,h3.clear⟩,h4,h5,h6,h7⟩
theorem a2k {w:World}{g t n:Nat}{f:Nat->Value}(h:w.rowIs g t n f):∃ c t f,w.heap[g]?=some (.cells c t f):=by
 obtain ⟨c,e,_⟩:=h;exact ⟨c,_,_,e⟩
theorem b2Q {sft:Nat->Nat}{v w:World}(h:Lk sft v w){gF gS gD:Nat}{K:Ker}(S:Snap w gF gS gD K)(hz:sft gF=0/\sft gS=0/\sft gD=0):Snap v gF gS gD K:=S.same λk hk=>by
 rcases hk with rfl|rfl|rfl
 ·exact Z4 h hz.1 (.inl (a2k S.f))
 ·exact Z4 h hz.2.1 (.inl (a2k S.s))
 ·exact Z4 h hz.2.2 (.inl (a2k S.d))
theorem a6o (co:Co kb l K L r Inb nG w){K1 K2:Ker}(hb:K1.nF<=32/\K1.nS<=32/\K1.nD<=32)(eF:K2.nF=K1.nF)(eS:K2.nS=K1.nS)(eD:K2.nD=K1.nD){gF gS gD kF kS kD:Nat}(S1:Snap w gF gS gD K1)(S2:Snap w kF kS kD K2)
  (z1:sfO l gF=0/\sfO l gS=0/\sfO l gD=0)(z2:sfO l kF=0/\sfO l kS=0/\sfO l kD=0)(fr:Frame)(cs:List Frame)(d:Nat) :
  Must Tryd.prog true (DL true (sfO l)) (λg w'=>∃ x,g=G (fr.finish x) cs/\Grown w w'/\∃ t,x=.bool t/\(K2=K1->t=true))
   (G (Frame.enter Tryd.prog 14 #[A4 K1 gF gS gD,A4 K2 kF kS kD] .normal) (fr::cs)) (w.at d):=by
 refine a0L co.env.fit co.env.ko true (by kernel_rfl) (R:=λx _=>∃ t,x=.bool t/\(K2=K1->t=true)) (λv hv=>?_) (λx v' w' _ _ h=>h) fr cs;have s1:Snap (w.at d) gF gS gD K1:=S1.same λ_ _=>rfl;have s2:Snap (w.at d) kF kS kD K2:=S2.same λ_ _=>rfl;refine (a7H v K1 K2 hb.1 hb.2.1 hb.2.2 eF eS eD gF gS gD kF kS kD (b2Q hv s1 z1) (b2Q hv s2 z2)).mono ?_;rintro e v' ⟨t,rfl,h1,h2⟩;exact ⟨_,rfl,h2,t,rfl,h1⟩
end
structure Lvs (sz:Nat) (env:List (Nat × Value)) (a:Act):Prop where
 size:a.tmps.size=sz
 defers:a.defers=[]
 has:∀ p∈env,a.tmps[p.1]?=some p.2
theorem a6p {t:Nat}{v:Value}:∀ {env:List (Nat × Value)},env.lookup t=some v->(t,v)∈env
 | [],h=>by cases h
 | (s,x)::env,h=>by
  by_cases e:t=s
  ·subst e;simp only [List.lookup,beq_self_eq_true,Option.some.injEq] at h;subst h;exact List.mem_cons_self ..
  ·have:(t == s)=false:=by simpa using e
   simp only [List.lookup,this] at h;exact List.mem_cons_of_mem _ (a6p h)
section
variable {sz:Nat} {env:List (Nat × Value)} {a:Act}
theorem Lvs.at (h:Lvs sz env a){t:Nat}{v:Value}(ht:env.lookup t=some v):a.tmps[t]?=some v:=h.has _ (a6p ht)
theorem Lvs.get (h:Lvs sz env a){t:Nat}{v:Value}(ht:env.lookup t=some v):a.eval (.tmp t)=v:=by
 show a.tmps.getD t undef=v;rw [Array.getD_eq_getD_getElem?,h.at ht];rfl
theorem Lvs.g (h:Lvs sz env a)(t:Nat){v:Value}(ht:env.lookup t=some v):a.eval (.tmp t)=v:=h.get ht
theorem Lvs.put (h:Lvs sz env a){d:Nat}(hd:d<sz)(v:Value):Lvs sz ((d,v)::env.filter (λp=>p.1 != d)) (a.put (some d) v):=by
 refine ⟨by simp [Act.put,h.size],h.defers,λp hp=>?_⟩;rcases List.mem_cons.1 hp with rfl|hp
 ·simp [Act.put,h.size,hd]
 ·obtain ⟨h1,h2⟩:=List.mem_filter.1 hp;have h2:p.1≠d:=by simpa using h2
  simp only [Act.put];rw [Array.getElem?_setIfInBounds_ne (Ne.symm h2)];exact h.has p h1
theorem Lvs.sub (h:Lvs sz env a){env':List (Nat × Value)}(hs:∀ p∈env',env.lookup p.1=some p.2):Lvs sz env' a:=⟨h.size,h.defers,λp hp=>h.at (hs p hp)⟩
theorem Lvs.wanted (h:Lvs sz env a){ops:Array Oper}{o oj:Oper}{j t:Nat}{x y:Bool}(hg:o.guard=some (j,y))(hj:ops[j]?=some oj)(hd:oj.dst=some t)(ht:env.lookup t=some (.bool x)):Region.wanted o (yielded ops a.tmps)=(x == y):=by
 unfold Region.wanted;rw [hg];simp only [yielded,hj,Option.bind_some,hd,h.at ht];cases x<;>cases y<;>rfl
end
section
variable {l:List OpD} {main:Bool} {sft:Nat->Nat} {Stop:Goroutine->World->Prop} {b:Frame} {a:Act} {ops:Array Oper} {i:Nat} {o:Oper} {rest:List Nat} {k:List Item} {cs:List Frame} {w:World} {v:Value}
theorem b6B (ho:ops[i]?=some o)(hw:Region.wanted o (yielded ops a.tmps)=true)(hk:b.kind≠.early)(hop:Br.Y6 Tryd.prog (λ_=>false) [] false o.op=true)(hv:∀ d,(execOp a.eval o).run Tryd.prog (w.at d)=.ok (.value v) (w.at d))
  (h:Liv Tryd.prog main true sft Stop (G (b.at (a.put o.dst v) (.inRegion ops rest::k)) cs) w):Liv Tryd.prog main true sft Stop (G (b.at a (.inRegion ops (i::rest)::k)) cs) w:=Br.c0K ho hw hk hop trivial hv h
theorem C6 {ops:Array Oper}{o:Oper}{a:Act}(hg:o.guard=none):Region.wanted o (yielded ops a.tmps)=true:=by unfold Region.wanted;rw [hg]
theorem b9e {ob:Obj}(ho:ops[i]?=some o)(hg:o.guard=none)(hk:b.kind≠.early)(hv:∀ d,(execOp a.eval o).run Tryd.prog (w.at d)=.ok (.value v) ((w.at d).alloc ob))(he:∀ d,(execOp a.eval o).events Tryd.prog (w.at d) #[]=#[])(hs:Br.Obj.sight ob)
  (h:Liv Tryd.prog main true sft Stop (G (b.at (a.put o.dst v) (.inRegion ops rest::k)) cs) (w.alloc ob)):Liv Tryd.prog main true sft Stop (G (b.at a (.inRegion ops (i::rest)::k)) cs) w:=λd=>a1t ho hg hk hv he (λd=>h d) d hs
theorem b9f {x:Next}{R:World->World->Prop}(ho:ops[i]?=some o)(hg:o.guard=none)(hk:b.kind≠.early)(hop:Br.Y6 Tryd.prog (λ_=>false) [] true o.op=true)(hx:x=.skip\/∃ v,x=.value v)(hft:Fit sft w)
  (hv:∀ d v,Lk sft v (w.at d)->∃ v',(execOp a.eval o).run Tryd.prog v=.ok x v'/\R v v')
  (h:∀ d w' v v',Lk sft v (w.at d)->Lk sft v' w'->Br.Kept sft (w.at d) w'->R v v'->Liv Tryd.prog main true sft Stop (G (b.at (a.put o.dst (match x with|.value v=>v|_=>undef)) (.inRegion ops rest::k)) cs) w') :
  Liv Tryd.prog main true sft Stop (G (b.at a (.inRegion ops (i::rest)::k)) cs) w:=λd0=>by
 refine Br.t8 ho (C6 hg) hk (λd K' hK=>?_) d0;have ht:Br.E6 Tryd.prog (true=true) (Br.a0y (λf=>(λ_=>false:FuncId->Bool) f=true)) (execOp a.eval o):=Br.a7k (P:=Tryd.prog) (S:=λ_=>false) (meths:=[]) (st:=true) id (λf hf=>by cases hf) (λm hm=>by cases hm) (λv=>rfl) (λf=>rfl) o hop;have hl:Lk sft (Br.frz sft (w.at d) (w.at d).tape) (w.at d):=Br.b2n (w:=w.at d) hft.soft trivial _;obtain ⟨v',hr,hR⟩:=hv d { Br.frz sft (w.at d) (w.at d).tape with drawn:=(w.at d).drawn } ⟨hl.heap,hl.soft,hl.sight,hl.os,hl.output⟩;have hl':Lk sft { Br.frz sft (w.at d) (w.at d).tape with drawn:=(w.at d).drawn } (w.at d):=⟨hl.heap,hl.soft,hl.sight,hl.os,hl.output⟩;have key:=Br.b1f (sft:=sft) Tryd.prog (execOp a.eval o) (true=true) _ (v:={ Br.frz sft (w.at d) (w.at d).tape with drawn:=(w.at d).drawn }) (w:=w.at d) #[] ((execOp a.eval o).runT Tryd.prog (w.at d) #[]).1.world.drawn ht hl' (λ_ _ _=>rfl) (by omega);have e1:((execOp a.eval o).runT Tryd.prog { Br.frz sft (w.at d) (w.at d).tape with drawn:=(w.at d).drawn } #[]).1=.ok x v':=by rw [Sem.runT_fst];exact hr
 have e2:((execOp a.eval o).runT Tryd.prog (w.at d) #[]).1=(execOp a.eval o).run Tryd.prog (w.at d):=Sem.runT_fst ..;have e3:∀ e∈listed Tryd.prog b.fn a o (w.at d),e∈((execOp a.eval o).runT Tryd.prog (w.at d) #[]).2:=λe he=>Br.a2G he;revert key e1 e2 e3;generalize (execOp a.eval o).runT Tryd.prog { Br.frz sft (w.at d) (w.at d).tape with drawn:=(w.at d).drawn } #[]=rv;generalize (execOp a.eval o).runT Tryd.prog (w.at d) #[]=rw';intro key e1 e2 e3
 cases key with
 | @ok y v2 w2 es' c hp h1 h2 h3 h4 =>
  obtain ⟨rfl,rfl⟩:=Result.ok.inj e1
  have hD:DL true sft (w.at d) w2 (listed Tryd.prog b.fn a o (w.at d)):=⟨h2,λe he=>(by
   rcases h3 e (e3 e he) with h|h
   ·simp at h
   ·exact h),h4.all⟩
  rw [← e2];have hM:=(h d w2 _ _ hl' h1 h2 hR) w2.drawn;rcases hx with rfl|⟨z,rfl⟩
  ·exact hK _ _ ⟨hD,hM⟩
  ·exact hK _ _ ⟨hD,hM⟩
 | panic _ _ _ _=>cases e1
 | lost _=>cases e1
end
end Go.Proofs.YtcgabodkegcpgaaDoor
namespace Go.Proofs.YtcgabodkegcpgaaDoor
open Go.RowKit
def a5l (c:Int):Int:=if c<0 then -(c+1) else c
def v8 (c:Int)(n:Nat):Nat:=(a5l c % n).toNat
theorem V1 (c:Int){n:Nat}(h:0<n):v8 c n<n:=by
 have h0:0<=a5l c % (n:Int):=Int.emod_nonneg _ (by omega);have h1:a5l c % (n:Int)<n:=Int.emod_lt_of_pos _ (by omega);unfold v8;omega
theorem b1m (c:Int){n:Nat}(h:0<n):((v8 c n:Nat):Int)=a5l c % n:=by
 have h0:0<=a5l c % (n:Int):=Int.emod_nonneg _ (by omega);unfold v8;omega
theorem a6q (c:Int)(hl:-9223372036854775808<=c)(hh:c<9223372036854775808)(n:Nat)(h1:0<n)(h2:n<=31)(w:World) :
  Calls Tryd.prog 33 #[.int .i64 c,.int .i64 n] w λe w'=>e=.returned (.int .i64 (v8 c n:Nat))/\w'=w:=by
 have E:=b1m c h1;have L:=V1 c h1;generalize v8 c n=m at *;have HE:Hid ((m:Int)=a5l c % n):=E;have HL:Hid (m<n):=L
 by_cases h:c<0
 ·have e1:IntKind.i64.wrap (c+1)=c+1:=IntWalk.i64_in _ (by omega);have e2:IntKind.i64.wrap (-(c+1))=-(c+1):=IntWalk.i64_in _ (by omega);have e3:(-(c+1)) % (n:Int)=m:=by rw [E,a5l,if_pos h]
  have e4:IntKind.i64.wrap (m:Int)=m:=IntWalk.i64_in _ (by omega);have e5:Int.tmod (-(c+1)) (n:Int)=m:=by rw [Int.tmod_eq_emod_of_nonneg (by omega)];exact e3
  clear E L
  go_enter Tryd.func33,Tryd.ntmps33
  go_wp2
  go_ret
  exact ⟨rfl,rfl⟩
 ·have e3:c % (n:Int)=m:=by rw [E,a5l,if_neg h]
  have e4:IntKind.i64.wrap (m:Int)=m:=IntWalk.i64_in _ (by omega);have e5:Int.tmod c (n:Int)=m:=by rw [Int.tmod_eq_emod_of_nonneg (by omega)];exact e3
  clear E L
  go_enter Tryd.func33,Tryd.ntmps33
  go_wp2
  go_ret
  exact ⟨rfl,rfl⟩
theorem a8L (a b c:Int)(ha:-9223372036854775808<=a/\a<9223372036854775808)(hb:-9223372036854775808<=b/\b<9223372036854775808)(hc:-9223372036854775808<=c/\c<9223372036854775808)(w:World) :
  Calls Tryd.prog 12 #[.agg #[.int .i64 a,.int .i64 b,.int .i64 c]] w λe w'=>e=.returned (.agg #[.int .i64 ((2+v8 a 31:Nat):Int),.int .i64 ((1+v8 b 6:Nat):Int),.int .i64 (v8 c 5:Nat)])/\Below w.heap.size w w':=by
 have l1:=V1 a (n:=31) (by omega);have l2:=V1 b (n:=6) (by omega);obtain ⟨OKP,hOK⟩:∃ OKP:Int->Int->Prop,OKP=λx n=>(x=a/\n=31)\/(x=b/\n=6)\/(x=c/\n=5):=⟨_,rfl⟩;obtain ⟨pk,hpk⟩:∃ pk:Int->Int->Int,pk=λx n=>((v8 x n.toNat:Nat):Int):=⟨_,rfl⟩;have P:∀ x n w,OKP x n->Calls Tryd.prog 33 #[.int .i64 x,.int .i64 n] w λe w'=>e=.returned (.int .i64 (pk x n))/\w'=w:=by
  subst hOK hpk;rintro x n w (⟨rfl,rfl⟩|⟨rfl,rfl⟩|⟨rfl,rfl⟩)
  ·exact a6q x ha.1 ha.2 31 (by omega) (by omega) w
  ·exact a6q x hb.1 hb.2 6 (by omega) (by omega) w
  ·exact a6q x hc.1 hc.2 5 (by omega) (by omega) w
 have o1:OKP a 31:=by rw [hOK];simp
 have o2:OKP b 6:=by rw [hOK];simp
 have o3:OKP c 5:=by rw [hOK];simp
 have q1:pk a 31=(v8 a 31:Nat):=by rw [hpk];rfl
 have q2:pk b 6=(v8 b 6:Nat):=by rw [hpk];rfl
 have q3:pk c 5=(v8 c 5:Nat):=by rw [hpk];rfl
 clear ha hb hc hOK hpk;have e1:IntKind.i64.wrap (2+pk a 31)=((2+v8 a 31:Nat):Int):=by rw [q1,IntWalk.i64_in _ (by omega)];omega
 have e2:IntKind.i64.wrap (1+pk b 6)=((1+v8 b 6:Nat):Int):=by rw [q2,IntWalk.i64_in _ (by omega)];omega
 rw [← q3];clear l1 l2 q1 q2 q3;generalize ((2+v8 a 31:Nat):Int)=p2 at *;generalize ((1+v8 b 6:Nat):Int)=q2 at *
 go_enter Tryd.func12,Tryd.ntmps12
 go_wp2_with fail
 obtain ⟨W,eW⟩:∃ W,W=(w.alloc (.cells #[.int .i64 a,.int .i64 b,.int .i64 c] 30)).alloc (.cells #[.int .i64 0,.int .i64 0,.int .i64 0] 30):=⟨_,rfl⟩;have y0:W.cell? ⟨w.heap.size,0,none⟩=some (.int .i64 a):=by rw [eW,World.cell?_alloc2_first];rfl
 have y1:W.cell? ⟨w.heap.size,1,none⟩=some (.int .i64 b):=by rw [eW,World.cell?_alloc2_first];rfl
 have y2:W.cell? ⟨w.heap.size,2,none⟩=some (.int .i64 c):=by rw [eW,World.cell?_alloc2_first];rfl
 have HW:Hid (Below w.heap.size w W/\W.rowIs (w.heap.size+1) 30 3 (λj=>(#[.int .i64 0,.int .i64 0,.int .i64 0]:Array Value).getD j (.bool false))):=by
  refine ⟨?_,?_⟩
  ·rw [eW];exact ((Below.refl _ _).alloc (Nat.le_refl _) _).alloc (by simp) _
  ·rw [eW];exact Y0 _ _ _ _
 have z0:W.cell? ⟨w.heap.size+1,0,none⟩=some (.int .i64 0):=HW.out.2.cell (by omega);have z1:W.cell? ⟨w.heap.size+1,1,none⟩=some (.int .i64 0):=HW.out.2.cell (by omega);have z2:W.cell? ⟨w.heap.size+1,2,none⟩=some (.int .i64 0):=HW.out.2.cell (by omega);have f0:W.frozen? ⟨w.heap.size+1,0,none⟩=false:=HW.out.2.frozen _;have f1:W.frozen? ⟨w.heap.size+1,1,none⟩=false:=HW.out.2.frozen _;have f2:W.frozen? ⟨w.heap.size+1,2,none⟩=false:=HW.out.2.frozen _;rw [← eW];clear eW;have n1:w.heap.size+1≠w.heap.size:=by omega
 have n2:w.heap.size≠w.heap.size+1:=by omega
 generalize e:w.heap.size+1=g1 at *;generalize e0:w.heap.size=g0 at *
 go_region_held3 (λw'=>w'.cell? ⟨g0,0,none⟩=some (.int .i64 a)/\w'.cell? ⟨g0,1,none⟩=some (.int .i64 b)/\w'.cell? ⟨g0,2,none⟩=some (.int .i64 c)) ((repeat' apply And.intro)<;>(first|(go_keep;done)|(refine a5e ?_;go_keep)))
  (first|(go_at_call 33;refine (P _ _ _ (by first|exact o1|exact o2|exact o3)).mono ?_;rintro e w1 ⟨rfl,rfl⟩))
 rename_i Q1 K1 hK hH;refine hK _ _ ?_;subst Q1;refine wp_ret ?_;obtain ⟨cs,hcs⟩:∃ cs:List Value,cs=[.int .i64 p2,.int .i64 q2,.int .i64 (pk c 5)]:=⟨_,rfl⟩;have hr:(W.setCells g1 0 cs).drew.rangeAt g1 0 cs:=World.rangeAt_setCells_same W g1 0 cs (by rw [hcs];exact B5 HW.out.2 (by simp));have hb:Below g0 w (W.setCells g1 0 cs):=A0 (by omega) _ _ HW.out.1;refine bodyPost_ret (v:=.agg cs.toArray) (T5 Tryd.results12 _ _ g1 cs _ rfl ?_ Tryd.underlying30 rfl (by rw [hcs];kernel_rfl)) rfl ?_
 ·rw [hcs] at hr ⊢;exact hr
 ·rw [hcs] at hb ⊢;exact ⟨rfl,by rw [e0];exact ⟨hb.os,hb.tape,hb.output,hb.size,hb.block⟩⟩
def wK1:Ker:=(a0s (D7 4 2 1) 0 1 2).K
def wK2:Ker:=(J4 wK1 0 1 3 9).K
theorem wE1:o8 (D7 4 2 1) 0 2 1 2 0=⟨wK1,0,0⟩:=rfl
theorem wE2:o8 wK1 0 19 1 3 9=⟨wK2,0,0⟩:=rfl
theorem wE3:o8 wK2 0 18 1 3 0=⟨wK2,9,0⟩:=rfl
theorem wE4:o8 wK2 0 2 0 2 0=⟨wK2,0,5⟩:=rfl
theorem wG0:Good (D7 4 2 1):=a9u 4 2 1 (by omega)
theorem wG1:Good wK1:=b5z wG0 (by omega) (by show 2<4;omega)
theorem wG2:Good wK2:=b0X wG1 0 1 3 9
theorem b3K (w:World)(T:Tab w):Calls Tryd.prog 9 #[] w λe w'=>e=.returned (.bool true)/\Below w.heap.size w w':=by
 have HT:Hid (Tab w):=T;clear T
 go_enter Tryd.func9,Tryd.ntmps9
 go_wp2_with fail
 refine (b2V 4 2 1 (by omega) (by omega) (by omega) (by omega) (by omega) _).mono ?_;rintro e w1 ⟨bk,bf,bs,bd,rfl,R1,b1,g1,g2,g3,g4⟩;have p0:=HT.out.lt;have HT1:Hid (Tab w1):=HT.out.same (b1.block 0 p0);have HR1:Hid _:=R1;have Hb1:Hid _:=b1;have Hg:Hid (w.heap.size<=bf/\w.heap.size<=bs/\w.heap.size<=bd/\0<w.heap.size):=⟨g2,g3,g4,p0⟩;clear R1 b1 g1 g2 g3 g4 p0
 go_wp2_with fail
 refine (a4e HR1.out HT1.out wG0 0 2 1 2 0 (by unfold Six;omega) wE1).mono ?_;rintro e w2 ⟨rfl,R2,k2⟩;have HT2:Hid (Tab w2):=HT1.out.keeps k2 (by have:=Hg.out;omega) (by have:=Hg.out;omega) (by have:=Hg.out;omega);have HR2:Hid _:=R2;have Hk2:Hid _:=k2;clear R2 k2
 go_wp2_with fail
 refine (a4e HR2.out HT2.out wG1 0 19 1 3 9 (by unfold Six;omega) wE2).mono ?_;rintro e w3 ⟨rfl,R3,k3⟩;have HT3:Hid (Tab w3):=HT2.out.keeps k3 (by have:=Hg.out;omega) (by have:=Hg.out;omega) (by have:=Hg.out;omega);have HR3:Hid _:=R3;have Hk3:Hid _:=k3;clear R3 k3
 go_wp2_with fail
 refine (a4e HR3.out HT3.out wG2 0 18 1 3 0 (by unfold Six;omega) wE3).mono ?_;rintro e w4 ⟨rfl,R4,k4⟩;have HT4:Hid (Tab w4):=HT3.out.keeps k4 (by have:=Hg.out;omega) (by have:=Hg.out;omega) (by have:=Hg.out;omega);have HR4:Hid _:=R4;have Hk4:Hid _:=k4;clear R4 k4
 go_wp2_with fail
 refine (a4e HR4.out HT4.out wG2 0 2 0 2 0 (by unfold Six;omega) wE4).mono ?_;rintro e w5 ⟨rfl,R5,k5⟩;have HT5:Hid (Tab w5):=HT4.out.keeps k5 (by have:=Hg.out;omega) (by have:=Hg.out;omega) (by have:=Hg.out;omega);have HR5:Hid _:=R5;have Hk5:Hid _:=k5;clear R5 k5
 go_wp2
 go_ret
 have g:=Hg.out;have z1:=Hb1.out.size;exact ⟨rfl,Hb1.out.trans ((((Hk2.out.trans Hk3.out).trans Hk4.out).trans Hk5.out).below z1 g.1 g.2.1 g.2.2.1)⟩
end Go.Proofs.YtcgabodkegcpgaaDoor
namespace Go.Proofs.YtcgabodkegcpgaaDoor
open Go.Conc Go.RowKit
open Br (X OpD KO SO SP sfO Lk Fit Must DL Liv Clear)
theorem a6r (i:Nat):sfO [] i=0:=Br.G6 λo ho=>by cases ho
theorem a3Y (w:World):Fit (sfO []) w:=⟨λi hi=>absurd (a6r i) hi,trivial⟩
theorem b1n (w:World):KO [] w:=λo ho=>by cases ho
theorem b1o {w:World}(T:Tab w)(fr:Frame)(cs:List Frame)(d:Nat) :
  Must Tryd.prog true (DL true (sfO [])) (λg w'=>∃ x,g=G (fr.finish x) cs/\Grown w w'/\x=.bool true) (G (Frame.enter Tryd.prog 9 #[] .normal) (fr::cs)) (w.at d) :=
 a0L (a3Y w) (b1n w) true (by kernel_rfl) (R:=λx _=>x=.bool true) (λv hv=>(b3K v (b2j hv (T.same (w':=w.at d) rfl))).mono λe v' he=>by
  obtain ⟨rfl,h⟩:=he
  exact ⟨_,rfl,h,rfl⟩) (λx v' w' _ _ h=>h) fr cs
theorem a7t {w:World}{x y z:Int}(hx:-9223372036854775808<=x/\x<9223372036854775808)(hy:-9223372036854775808<=y/\y<9223372036854775808)(hz:-9223372036854775808<=z/\z<9223372036854775808)(fr:Frame)(cs:List Frame)(d:Nat) :
  Must Tryd.prog true (DL true (sfO [])) (λg w'=>∃ u,g=G (fr.finish u) cs/\Grown w w'/\u=.agg #[.int .i64 ((2+v8 x 31:Nat):Int),.int .i64 ((1+v8 y 6:Nat):Int),.int .i64 (v8 z 5:Nat)]) (G (Frame.enter Tryd.prog 12 #[.agg #[.int .i64 x,.int .i64 y,.int .i64 z]] .normal) (fr::cs)) (w.at d) :=
 a0L (a3Y w) (b1n w) true (by kernel_rfl) (R:=λu _=>u=.agg #[.int .i64 ((2+v8 x 31:Nat):Int),.int .i64 ((1+v8 y 6:Nat):Int),.int .i64 (v8 z 5:Nat)]) (λv hv=>(a8L x y z hx hy hz v).mono λe v' he=>by
  obtain ⟨rfl,h⟩:=he
  exact ⟨_,rfl,h,rfl⟩) (λx v' w' _ _ h=>h) fr cs
theorem b6C {kb:Kb}{K:Ker}{w:World}(hR:Rep w kb.bk kb.bf kb.bs kb.bd K)(hT:Tab w)(hI:Invb K)(h0:0≠kb.bf/\0≠kb.bs/\0≠kb.bd)(r:Nat):Co kb [] K (λ_=>none) r (λ_=>none) 1 w :=
 ⟨⟨hR,hT,hI,a3Y w,b1n w,λo ho=>by cases ho⟩,h0,λg v h=>(by cases h),λg v h=>(by cases h),λg v h=>(by cases h),λg v h=>(by cases h),λg v h=>(by cases h),λg _ _=>rfl,λs c h=>(by cases h),λg v h=>(by cases h),λg v h=>(by cases h),λg v g' v' h=>(by cases h),λg v g' v' h=>(by cases h)⟩
theorem b3L {w:World}(T:Tab w)(nF nS nD:Nat)(h1:2<=nF)(h2:nF<=32)(h3:1<=nS)(h4:nS<=6)(h5:nD<=4)(fr:Frame)(cs:List Frame)(d:Nat) :
  Must Tryd.prog true (DL true (sfO [])) (λg w'=>∃ kb:Kb,g=G (fr.finish (.tuple #[.pointer (some ⟨kb.bk,0,none⟩),.int .i64 0])) cs/\Grown w w'/\w.heap.size<=kb.bk/\w.heap.size<=kb.bf/\w.heap.size<=kb.bs/\w.heap.size<=kb.bd/\∀ r,Co kb [] (D7 nF nS nD) (λ_=>none) r (λ_=>none) 1 w')
   (G (Frame.enter Tryd.prog 10 #[.agg #[.int .i64 nF,.int .i64 nS,.int .i64 nD]] .normal) (fr::cs)) (w.at d):=by
 refine (Br.S8 Br.a3j (sft:=sfO []) (w0:=w.at d) (by kernel_rfl) (a3Y _) true (Q:=λx v'=>∃ v bk bf bs bd,Lk (sfO []) v (w.at d)/\x=.tuple #[.pointer (some ⟨bk,0,none⟩),.int .i64 0]/\Rep v' bk bf bs bd (D7 nF nS nD)/\Below v.heap.size v v'/\w.heap.size<=bk/\w.heap.size<=bf/\w.heap.size<=bs/\w.heap.size<=bd) (λv hv=>(b2V nF nS nD h1 h2 h3 h4 h5 v).mono λe v' he=>by
   obtain ⟨bk,bf,bs,bd,rfl,a1,a2,a3,a4,a5,a6⟩:=he;have sv:v.heap.size=w.heap.size:=hv.size;rw [sv] at a3 a4 a5 a6
   exact ⟨v,bk,bf,bs,bd,hv,rfl,a1,a2,a3,a4,a5,a6⟩) fr cs).keep.mono (λ_ _ _ h=>h) ?_
 rintro g w' ⟨⟨x,v',rfl,hl',v,bk,bf,bs,bd,hv,rfl,a1,a2,a3,a4,a5,a6⟩,hkp⟩;have e1:v.heap.size=w.heap.size:=hv.size;have e2:v'.heap.size=w'.heap.size:=hl'.size;have hG:Grown w w':=⟨by have:=a2.size;omega,λk hk=>H7 (w:=w.at d) hkp hv hl' (a2.block k (by omega)),trivial⟩;have l0:0<w.heap.size:=T.lt;exact ⟨⟨bk,bf,bs,bd⟩,rfl,hG,a3,a4,a5,a6,λr=>b6C (kb:=⟨bk,bf,bs,bd⟩) (a6Z hl' (a6r _) (a6r _) (a6r _) a1) (T.same (hG.old 0 l0)) (b0g nF nS nD h1 h3 h4) ⟨by simp only;omega,by simp only;omega,by simp only;omega⟩ r⟩
section
variable {l:List OpD} {main:Bool} {sft:Nat->Nat} {Stop:Goroutine->World->Prop} {b:Frame} {a:Act} {ops:Array Oper} {i:Nat} {o:Oper} {rest:List Nat} {k:List Item} {cs:List Frame} {w:World} {v:Value}
theorem a0M (ho:ops[i]?=some o)(x:Value):(b.at a (.inRegion ops (i::rest)::k)).finish x=b.at (a.put o.dst x) (.inRegion ops rest::k):=by rw [Frame.finish_at,ho];rfl
theorem b9g {f:FuncId}{fn:Func}{c:Code}{args:Array Operand}{ats:Array TypeId}{vs:Array Value}{R:Value->World->Prop}(ho:ops[i]?=some o)(hg:o.guard=none)(hk:b.kind≠.early)(hop:o.op=.call { callee:=.value (.func f),args,argTypes:=ats })
  (hf:Tryd.prog.funcs[f]?=some fn)(hname:(fn.name == "runtime.NumGoroutine")=false)(hb:fn.body=some c)(hargs:args.map a.eval=vs)
  (hm:∀ fr cs d,Must Tryd.prog main (DL true sft) (λg w'=>∃ x,g=G (fr.finish x) cs/\R x w') (G (Frame.enter Tryd.prog f vs .normal) (fr::cs)) (w.at d))
  (hn:∀ x w',R x w'->Liv Tryd.prog main true sft Stop (G (b.at (a.put o.dst x) (.inRegion ops rest::k)) cs) w'):Liv Tryd.prog main true sft Stop (G (b.at a (.inRegion ops (i::rest)::k)) cs) w:=by
 refine Br.b0d ho (C6 hg) hk hop hf hname hb ?_;rw [hargs];refine Br.c0J (λd=>hm _ _ d) ?_;rintro g' w' ⟨x,rfl,hR⟩;rw [a0M ho];exact hn x w' hR
theorem a0c {f:FuncId}{fn:Func}{c:Code}{args:Array Operand}{ats:Array TypeId}{vs:Array Value}(ho:ops[i]?=some o)(hg:o.guard=none)(hk:b.kind≠.early)(hop:o.op=.call { callee:=.value (.func f),args,argTypes:=ats })
  (hf:Tryd.prog.funcs[f]?=some fn)(hname:(fn.name == "runtime.NumGoroutine")=false)(hb:fn.body=some c)(hargs:args.map a.eval=vs)
  (hn:∀ d,Stop (G (Frame.enter Tryd.prog f vs .normal) (b.at a (.inRegion ops (i::rest)::k)::cs)) (w.at d)):Liv Tryd.prog main true sft Stop (G (b.at a (.inRegion ops (i::rest)::k)) cs) w:=by
 refine Br.b0d ho (C6 hg) hk hop hf hname hb ?_;rw [hargs];exact λd=>.stop (hn d)
theorem K6 {Final:Machine->Trace->Prop}{Inb:Nat->Option Seat}{nG:Nat}{g:Goroutine}(h:Liv Tryd.prog true true (sfO l) (X Tryd.prog Final l Inb nG 0) g w):X Tryd.prog Final l Inb nG 0 g w:=Br.a0m (st:=true) (h w.drawn)
end
def a0d (n:Nat):Code->Option (Array Oper)
 | .region m ops _=>if m=n then some ops else none
 | .seq x y=>(a0d n x).or (a0d n y)
 | .cond _ x y=>(a0d n x).or (a0d n y)
 | .block _ x=>a0d n x
 | .loop x=>a0d n x
 | _=>none
section
variable {sz:Nat} {env:List (Nat × Value)} {l:List OpD} {main:Bool} {sft:Nat->Nat} {Stop:Goroutine->World->Prop} {b:Frame} {a:Act} {ops:Array Oper} {i D:Nat} {o:Oper} {rest:List Nat} {k:List Item} {cs:List Frame} {w:World} {v:Value}
theorem b1p (hA:Lvs sz env a)(ho:ops[i]?=some o)(hw:Region.wanted o (yielded ops a.tmps)=true)(hk:b.kind≠.early)(hop:Br.Y6 Tryd.prog (λ_=>false) [] false o.op=true)(hd:o.dst=some D)(hD:D<sz)(hv:∀ d,(execOp a.eval o).run Tryd.prog (w.at d)=.ok (.value v) (w.at d))
  (h:∀ a',Lvs sz ((D,v)::env.filter (λp=>p.1 != D)) a'->Liv Tryd.prog main true sft Stop (G (b.at a' (.inRegion ops rest::k)) cs) w):Liv Tryd.prog main true sft Stop (G (b.at a (.inRegion ops (i::rest)::k)) cs) w :=
 b6B ho hw hk hop hv (h _ (by rw [hd];exact hA.put hD v))
theorem b2R (hA:Lvs sz env a)(ho:ops[i]?=some o)(hw:Region.wanted o (yielded ops a.tmps)=false)(hd:o.dst=some D)(hD:D<sz)
  (h:∀ a',Lvs sz ((D,undef)::env.filter (λp=>p.1 != D)) a'->Liv Tryd.prog main true sft Stop (G (b.at a' (.inRegion ops rest::k)) cs) w):Liv Tryd.prog main true sft Stop (G (b.at a (.inRegion ops (i::rest)::k)) cs) w :=
 Br.a4b ho hw (h _ (by rw [hd];exact hA.put hD undef))
theorem a5G {ob:Obj}(hA:Lvs sz env a)(ho:ops[i]?=some o)(hg:o.guard=none)(hk:b.kind≠.early)(hd:o.dst=some D)(hD:D<sz)(hv:∀ d,(execOp a.eval o).run Tryd.prog (w.at d)=.ok (.value v) ((w.at d).alloc ob))(he:∀ d,(execOp a.eval o).events Tryd.prog (w.at d) #[]=#[])(hs:Br.Obj.sight ob)
  (h:∀ a',Lvs sz ((D,v)::env.filter (λp=>p.1 != D)) a'->Liv Tryd.prog main true sft Stop (G (b.at a' (.inRegion ops rest::k)) cs) (w.alloc ob)):Liv Tryd.prog main true sft Stop (G (b.at a (.inRegion ops (i::rest)::k)) cs) w :=
 b9e ho hg hk hv he hs (h _ (by rw [hd];exact hA.put hD v))
theorem a0t {f:FuncId}{fn:Func}{c:Code}{args:Array Operand}{ats:Array TypeId}{vs:Array Value}{R:Value->World->Prop}(hA:Lvs sz env a)(ho:ops[i]?=some o)(hg:o.guard=none)(hk:b.kind≠.early)(hop:o.op=.call { callee:=.value (.func f),args,argTypes:=ats })(hd:o.dst=some D)(hD:D<sz)
  (hf:Tryd.prog.funcs[f]?=some fn)(hname:(fn.name == "runtime.NumGoroutine")=false)(hb:fn.body=some c)(hargs:args.map a.eval=vs)
  (hm:∀ fr cs d,Must Tryd.prog main (DL true sft) (λg w'=>∃ x,g=G (fr.finish x) cs/\R x w') (G (Frame.enter Tryd.prog f vs .normal) (fr::cs)) (w.at d))
  (hn:∀ x w',R x w'->∀ a',Lvs sz ((D,x)::env.filter (λp=>p.1 != D)) a'->Liv Tryd.prog main true sft Stop (G (b.at a' (.inRegion ops rest::k)) cs) w'):Liv Tryd.prog main true sft Stop (G (b.at a (.inRegion ops (i::rest)::k)) cs) w :=
 b9g ho hg hk hop hf hname hb hargs hm λx w' hR=>hn x w' hR _ (by rw [hd];exact hA.put hD x)
end
theorem b1q {sz:Nat}{env:List (Nat × Value)}{main:Bool}{sft:Nat->Nat}{Stop:Goroutine->World->Prop}{b:Frame}{a:Act}{ops:Array Oper}{i:Nat}{o:Oper}{rest:List Nat}{k:List Item}{cs:List Frame}{w:World}{R:World->World->Prop}(hA:Lvs sz env a)(ho:ops[i]?=some o)(hg:o.guard=none)(hk:b.kind≠.early)(hop:Br.Y6 Tryd.prog (λ_=>false) [] true o.op=true)(hd:o.dst=none)(hft:Fit sft w)
  (hv:∀ d v,Lk sft v (w.at d)->∃ v',(execOp a.eval o).run Tryd.prog v=.ok .skip v'/\R v v')
  (h:∀ d w' v v',Lk sft v (w.at d)->Lk sft v' w'->Br.Kept sft (w.at d) w'->R v v'->Liv Tryd.prog main true sft Stop (G (b.at a (.inRegion ops rest::k)) cs) w') :
  Liv Tryd.prog main true sft Stop (G (b.at a (.inRegion ops (i::rest)::k)) cs) w :=
 b9f ho hg hk hop (.inl rfl) hft hv λd w' v v' h1 h2 h3 h4=>by rw [hd];exact h d w' v v' h1 h2 h3 h4
theorem b1r {w:World}(T:Tab w)(nF nS nD:Nat)(h1:2<=nF)(h2:nF<=32)(h3:1<=nS)(h4:nS<=6)(h5:nD<=4)(fr:Frame)(cs:List Frame)(d:Nat) :
  Must Tryd.prog true (DL true (sfO [])) (λg w'=>∃ x,g=G (fr.finish x) cs/\∃ kb:Kb,x=.tuple #[.pointer (some ⟨kb.bk,0,none⟩),.int .i64 0]/\Grown w w'/\w.heap.size<=kb.bk/\w.heap.size<=kb.bf/\w.heap.size<=kb.bs/\w.heap.size<=kb.bd/\∀ r,Co kb [] (D7 nF nS nD) (λ_=>none) r (λ_=>none) 1 w')
   (G (Frame.enter Tryd.prog 10 #[.agg #[.int .i64 nF,.int .i64 nS,.int .i64 nD]] .normal) (fr::cs)) (w.at d) :=
 (b3L T nF nS nD h1 h2 h3 h4 h5 fr cs d).mono (λ_ _ _ h=>h) λg w' ⟨kb,h,h'⟩=>⟨_,h,kb,rfl,h'⟩
end Go.Proofs.YtcgabodkegcpgaaDoor
