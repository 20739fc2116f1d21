/- What holds at the head of a checker's loop of acts, and how each act keeps it. -/
import Derived.Test.YtcgabodkegcpgaaDoorMda
import Derived.Test.YtcgabodkegcpgaaDoorCall
import Derived.Test.YtcgabodkegcpgaaDoorOqo
set_option linter.unusedVariables false
set_option linter.unusedSimpArgs false
set_option maxHeartbeats 20000000
set_option maxRecDepth 100000
namespace Go.Proofs.YtcgabodkegcpgaaDoor
open Go.Conc Go.RowKit
open Br (X OpD KO SO SP sfO Lk Fit Must DL Liv Clear)
structure CI (w0:World) (kb:Kb) (b:Lb) (n i:Nat) (l:List OpD) (K:Ker) (L:Nat->Option Lv) (r:Nat) (Inb:Nat->Option Seat) (nG:Nat) (w:World) (U:Nat->Option OpD) (V:Nat->Value) (N:Nat->Nat) (Xs:Nat->List Value):Prop where
 co:Co kb l K L r Inb nG w
 hn:K.nS=n
 lm:LibM kb l L w b n (b.bl+1) U V N Xs
 g0:0<nG
 u1:∀ p q o,p<n->q<n->U p=some o->U q=some o->p=q
 all:∀ g v,L g=some v->∃ p,p<n/\U p=some v.C.o
 nb:∀ p,p<n->N p<=i
 ints:∀ p,p<n->∀ x∈Xs p,∃ z,x=.int .i64 z
 old:∀ k,k<w0.heap.size->Mn kb L w k/\w.heap[k]?=w0.heap[k]?
 far:w0.heap.size<=b.bl/\w0.heap.size<=b.bu/\w0.heap.size<=b.bn
section
variable {w0:World} {kb:Kb} {b:Lb} {n i:Nat} {l:List OpD} {K:Ker} {L:Nat->Option Lv} {r:Nat} {Inb:Nat->Option Seat} {nG:Nat} {w w':World} {U:Nat->Option OpD} {V:Nat->Value} {N:Nat->Nat} {Xs:Nat->List Value}
theorem CI.grown (h:CI w0 kb b n i l K L r Inb nG w U V N Xs)(g:Grown w w'):CI w0 kb b n i l K L r Inb nG w' U V N Xs :=
 ⟨h.co.grown g,h.hn,h.lm.grown g,h.g0,h.u1,h.all,h.nb,h.ints,λk hk=>⟨(h.old k hk).1.grow g.size,(g.old k (h.old k hk).1.lt).trans (h.old k hk).2⟩,h.far⟩
theorem CI.more (h:CI w0 kb b n i l K L r Inb nG w U V N Xs){j:Nat}(hj:i<=j):CI w0 kb b n j l K L r Inb nG w U V N Xs :=
 ⟨h.co,h.hn,h.lm,h.g0,h.u1,h.all,λp hp=>Nat.le_trans (h.nb p hp) hj,h.ints,h.old,h.far⟩
theorem CI.less (h:CI w0 kb b n i l K L r Inb nG w U V N Xs){r':Nat}(hr:r'<=r):CI w0 kb b n i l K L r' Inb nG w U V N Xs :=
 ⟨⟨h.co.env,h.co.top,h.co.gid,h.co.onk,h.co.at_,λg v hv=>(h.co.wait g v hv).imp λm hm=>⟨Nat.le_trans hr hm.1,hm.2⟩,h.co.seat,h.co.none,h.co.main0,h.co.chan,h.co.chne,h.co.pvch,h.co.apart⟩,h.hn,h.lm,h.g0,h.u1,h.all,h.nb,h.ints,h.old,h.far⟩
theorem CI.call (h:CI w0 kb b n i l K L r Inb nG w U V N Xs){K':Ker}(co:Co kb l K' L r Inb nG w')(hS:K'.nS=K.nS)(hk:Kp kb L w L w'):CI w0 kb b n i l K' L r Inb nG w' U V N Xs :=
 ⟨co,hS.trans h.hn,h.lm.same hk,h.g0,h.u1,h.all,h.nb,h.ints,λk hlt=>⟨(hk k (h.old k hlt).1).1,(hk k (h.old k hlt).1).2.trans (h.old k hlt).2⟩,h.far⟩
theorem CI.begun (h:CI w0 kb b n i l K L r Inb nG w U V N Xs){p:Nat}(hp:p<n)(hU:U p=none){C:Ctx}{S:Ker->q7}{pv:List Nat}{H:w9}{cs:List Frame}{Inb':Nat->Option Seat}(hg:C.o.gid=nG)
  (co:Co kb (C.o::l) K (ConcN.upd L nG (some ⟨C,S,pv,H,cs⟩)) r Inb' (nG+1) w')(hk:∀ k,Mn kb L w k->k≠b.bu->Mn kb (ConcN.upd L nG (some ⟨C,S,pv,H,cs⟩)) w' k/\w'.heap[k]?=w.heap[k]?)
  (lm:LibM kb (C.o::l) (ConcN.upd L nG (some ⟨C,S,pv,H,cs⟩)) w' b n (b.bl+1) (a0W U p C.o) V N Xs):CI w0 kb b n i (C.o::l) K (ConcN.upd L nG (some ⟨C,S,pv,H,cs⟩)) r Inb' (nG+1) w' (a0W U p C.o) V N Xs:=by
 have lt:∀ q o,q<n->U q=some o->o.gid<nG:=λq o hq ho=>by
  obtain ⟨v,h1,h2,_⟩:=h.lm.live q hq o ho;exact (h.co.gid _ v h1).2.2
 refine ⟨co,h.hn,lm,by omega,λq q' o hq hq' e e'=>?_,λg v hv=>?_,h.nb,h.ints,λk hlt=>?_,h.far⟩
 ·unfold a0W at e e';split at e<;>split at e'
  ·omega
  ·obtain rfl:=Option.some.inj e;have:=lt q' _ hq' e';omega
  ·obtain rfl:=Option.some.inj e';have:=lt q _ hq e;omega
  ·exact h.u1 q q' o hq hq' e e'
 ·by_cases eg:g=nG
  ·subst eg;rw [ConcN.upd_same] at hv;obtain rfl:=Option.some.inj hv;exact ⟨p,hp,by simp [a0W]⟩
  ·rw [ConcN.upd_ne _ _ eg] at hv;obtain ⟨q,hq,e⟩:=h.all g v hv;exact ⟨q,hq,by unfold a0W;rw [if_neg (λx=>by subst x;rw [hU] at e;cases e)];exact e⟩
 ·obtain ⟨m1,m2⟩:=hk k (h.old k hlt).1 (by have:=h.far.2.1;omega);exact ⟨m1,m2.trans (h.old k hlt).2⟩
theorem CI.goes (h:CI w0 kb b n i l K L (r+1) Inb nG w U V N Xs){v v':Lv}(hv:L v.C.o.gid=some v)(hC:v'.C=v.C){K':Ker}{Inb':Nat->Option Seat}
  (co:Co kb l K' (ConcN.upd L v.C.o.gid (some v')) r Inb' nG w')(hS:K'.nS=K.nS)(hk:Kp kb L w (ConcN.upd L v.C.o.gid (some v')) w')(lm:LibM kb l (ConcN.upd L v.C.o.gid (some v')) w' b n (b.bl+1) U V N Xs) :
  CI w0 kb b n i l K' (ConcN.upd L v.C.o.gid (some v')) r Inb' nG w' U V N Xs:=by
 refine ⟨co,hS.trans h.hn,lm,h.g0,h.u1,λg u hu=>?_,h.nb,h.ints,λk hlt=>?_,h.far⟩
 ·by_cases eg:g=v.C.o.gid
  ·subst eg;rw [ConcN.upd_same] at hu;obtain rfl:=Option.some.inj hu;rw [hC];exact h.all _ v hv
  ·rw [ConcN.upd_ne _ _ eg] at hu;exact h.all g u hu
 ·obtain ⟨m1,m2⟩:=hk k (h.old k hlt).1;exact ⟨m1,m2.trans (h.old k hlt).2⟩
theorem CI.over (h:CI w0 kb b n i l K L (r+1) Inb nG w U V N Xs){p:Nat}(hp:p<n){v:Lv}(hU:U p=some v.C.o)(hv:L v.C.o.gid=some v){K':Ker}{Inb':Nat->Option Seat}{g cap:Nat}{err val:Int}
  (co:Co kb l K' (ConcN.upd L v.C.o.gid none) r Inb' nG w')(hS:K'.nS=K.nS)(hk:∀ k,Mn kb L w k->¬ a6m b V p k->Mn kb (ConcN.upd L v.C.o.gid none) w' k/\w'.heap[k]?=w.heap[k]?)
  (lm:LibM kb l (ConcN.upd L v.C.o.gid none) w' b n (b.bl+1) (a4W U p) (V0 V p (.slice (some ⟨g,0,none⟩) (N p+1) cap)) (V0 N p (N p+1)) (V0 Xs p (Xs p ++ ent v.C.kd v.C.A v.C.B err val))) :
  CI w0 kb b n (i+1) l K' (ConcN.upd L v.C.o.gid none) r Inb' nG w' (a4W U p) (V0 V p (.slice (some ⟨g,0,none⟩) (N p+1) cap)) (V0 N p (N p+1)) (V0 Xs p (Xs p ++ ent v.C.kd v.C.A v.C.B err val)):=by
 refine ⟨co,hS.trans h.hn,lm,h.g0,λq q' o hq hq' e e'=>?_,λg' u hu=>?_,λq hq=>?_,λq hq x hx=>?_,λk hlt=>?_,h.far⟩
 ·unfold a4W at e e';split at e
  ·cases e
  ·split at e'
   ·cases e'
   ·exact h.u1 q q' o hq hq' e e'
 ·by_cases eg:g'=v.C.o.gid
  ·subst eg;rw [ConcN.upd_same] at hu;cases hu
  ·rw [ConcN.upd_ne _ _ eg] at hu;obtain ⟨q,hq,e⟩:=h.all g' u hu;refine ⟨q,hq,?_⟩;unfold a4W;rw [if_neg (λx=>?_)]
   ·exact e
   ·subst x;rw [hU] at e;have e2:=Option.some.inj e;have:=(h.co.gid g' u hu).1;rw [← this,e2] at eg;exact eg rfl
 ·unfold V0;split
  ·have:=h.nb p hp;omega
  ·have:=h.nb q hq;omega
 ·unfold V0 at hx;split at hx
  ·rcases List.mem_append.1 hx with hx|hx
   ·exact h.ints p hp x hx
   ·simp only [ent,List.mem_cons,List.not_mem_nil,or_false] at hx;rcases hx with rfl|rfl|rfl|rfl|rfl<;>exact ⟨_,rfl⟩
  ·exact h.ints q hq x hx
 ·obtain ⟨m1,m2⟩:=hk k (h.old k hlt).1 (λe=>by
   obtain ⟨f1,f2,f3⟩:=h.far;rcases e with e|e|e
   ·omega
   ·omega
   ·have:=(Z5 (h.lm.m.is.own p hp) e).1
    omega)
  exact ⟨m1,m2.trans (h.old k hlt).2⟩
end
theorem c0n {w:World}{b t:Nat}{cs:Array Value}{f:Nat->Value}(h:w.rowIs b t cs.size f)(hf:∀ j,j<cs.size->cs[j]?=some (f j)):w.heap[b]?=some (.cells cs t (0,0)):=by
 obtain ⟨c,h1,h2,h3⟩:=h;have e:c=cs:=Array.ext_getElem? λi=>by
  rcases Nat.lt_or_ge i cs.size with g|g
  ·rw [h3 i g,hf i g]
  ·rw [Array.getElem?_eq_none (by omega),Array.getElem?_eq_none g]
 rw [h1,e]
theorem a8z {w:World}{b t:Nat}{c cs:Array Value}(h:w.heap[b]?=some (.cells c t (0,0)))(hs:c.size=cs.size):(w.setCells b 0 cs.toList).heap[b]?=some (.cells cs t (0,0)):=by
 have hr:w.rowIs b t cs.size (λj=>c.getD j (.bool false)):=⟨c,h,hs,λj hj=>by simp [Array.getD_eq_getD_getElem?,hs▸hj]⟩;refine c0n (B8 cs.toList 0 hr) λj hj=>?_;rw [if_pos (by simp;omega),Nat.sub_zero,List.getD_eq_getElem?_getD];simp [hj]
theorem a1Y {sz:Nat}{env:List (Nat × Value)}{main:Bool}{sft:Nat->Nat}{Stop:Goroutine->World->Prop}{b:Frame}{a:Act}{ops:Array Oper}{i x y bx t ty:Nat}{o:Oper}{rest:List Nat}{k:List Item}{cs:List Frame}{w:World}{c0 cells:Array Value}(hA:Lvs sz env a)(ho:ops[i]?=some o)(hg:o.guard=none)(hk:b.kind≠.early)(hop:o.op=.store ty (.tmp x) (.tmp y))(hd:o.dst=none)(hft:Fit sft w)
  (ex:a.eval (.tmp x)=.pointer (some ⟨bx,0,none⟩))(ey:a.eval (.tmp y)=.agg cells)(hb:w.heap[bx]?=some (.cells c0 t (0,0)))(hc:c0.size=cells.size)(hi:(Tryd.prog.info? ty).map (·.size)=some cells.size)(h1:cells.all (·.oneCell')=true)(hz:sft bx=0)
  (h:∀ w',w'.heap.size=w.heap.size->(∀ k,k≠bx->w'.heap[k]?=w.heap[k]?)->w'.heap[bx]?=some (.cells cells t (0,0))->Liv Tryd.prog main true sft Stop (G (b.at a (.inRegion ops rest::k)) cs) w') :
  Liv Tryd.prog main true sft Stop (G (b.at a (.inRegion ops (i::rest)::k)) cs) w:=by
 have row:∀ d v,Lk sft v (w.at d)->v.heap[bx]?=some (.cells c0 t (0,0)):=λd v hv=>by
  rw [Z4 (w:=w.at d) hv hz (.inl ⟨_,_,_,hb⟩)];exact hb
 refine b1q (R:=λv v'=>v'=v.setCells bx 0 cells.toList) hA ho hg hk (by rw [hop];rfl) hd hft (λd v hv=>⟨_,?_,rfl⟩) (λd w2 v v' hv hl' hkp hR=>?_)
 ·have hr:=row d v hv;have ht:v.there bx 0 cells.size:=B5 (t:=t) (n:=cells.size) (f:=λj=>c0.getD j (.bool false)) ⟨c0,hr,hc,λj hj=>by simp [Array.getD_eq_getD_getElem?,hc▸hj]⟩ (by omega);unfold execOp;simp only [hop,ex,ey];have:=run_storeAt_mid (P:=Tryd.prog) v bx 0 ty cells ht hi h1;simp only [Sem.run_bind,this,Result.andThen_ok];rfl
 ·subst hR;have sv:v.heap.size=w.heap.size:=hv.size;have sv':=hl'.size;rw [u9] at sv';have hv3:=a8z (row d v hv) hc;refine h w2 (by omega) (λk hne=>?_) ?_
  ·exact H7 (w:=w.at d) hkp hv hl' (E7 hne _ _ _)
  ·rw [← Z4 hl' hz (.inr ⟨_,_,_,hv3⟩)];exact hv3
theorem a5B {P:Program}{o:Oper}{a:Act}{x:Operand}{t e:TypeId}{ad:Option Addr}{n c:Nat}{w:World}(hop:o.op=.call { callee:=.builtin .len,args:=#[x],argTypes:=#[t] })(hu:P.underlying t=some (.slice e))(hx:a.eval x=.slice ad n c):(execOp a.eval o).run P w=.ok (.value (.int .i64 n)) w:=by
 simp [execOp,hop,resolve,invoke,builtin,hx,Builtin.len_,goInt,Result.andThen,run_underlying hu]
theorem s9 (w:World)(d:Nat):Grown w (w.at d):=⟨Nat.le_refl _,λ_ _=>rfl,trivial⟩
section
variable {kb:Kb} {l:List OpD} {K:Ker} {L:Nat->Option Lv} {r:Nat} {Inb:Nat->Option Seat} {nG:Nat} {w w':World}
theorem Co.bkMn (co:Co kb l K L r Inb nG w):Mn kb L w kb.bk:=by
 have R:=co.env.rep;refine ⟨R.lk,R.kf,R.ks,R.kd,λg v hv=>⟨λhi=>?_,λhc=>?_⟩⟩
 ·obtain ⟨f,u,A⟩:=co.at_ g v hv;have:=(A.own.ap _ hi).1;rw [(co.onk g v hv).k] at this;exact this rfl
 ·exact (co.chan g v hv _ hc).2.1 rfl
theorem Co.nS (co:Co kb l K L r Inb nG w){l':List OpD}{K':Ker}{L':Nat->Option Lv}{r':Nat}{Inb':Nat->Option Seat}{nG':Nat}(co':Co kb l' K' L' r' Inb' nG' w')(hk:w'.heap[kb.bk]?=w.heap[kb.bk]?):K'.nS=K.nS:=(a4u co.env.rep co'.env.rep hk).2.1
end
structure EX (ks:List (Nat × Obj)) (kb:Kb) (b:Lb) (l:List OpD) (L:Nat->Option Lv) (w:World):Prop where
 mn:∀ p∈ks,Mn kb L w p.1
 rc:∀ p∈ks,∀ o∈l,o.bo≠p.1
 nu:∀ p∈ks,p.1≠b.bu
 has:∀ p∈ks,w.heap[p.1]?=some p.2
section
variable {ks:List (Nat × Obj)} {kb:Kb} {b:Lb} {l:List OpD} {K:Ker} {L L':Nat->Option Lv} {r:Nat} {Inb:Nat->Option Seat} {nG:Nat} {w w':World}
theorem EX.nil:EX [] kb b l L w:=⟨λp h=>(by cases h),λp h=>(by cases h),λp h=>(by cases h),λp h=>(by cases h)⟩
theorem EX.grown (h:EX ks kb b l L w)(g:Grown w w'):EX ks kb b l L w' :=
 ⟨λp hp=>(h.mn p hp).grow g.size,h.rc,h.nu,λp hp=>(g.old _ (h.mn p hp).lt).trans (h.has p hp)⟩
theorem EX.sf (h:EX ks kb b l L w){p:Nat × Obj}(hp:p∈ks):sfO l p.1=0:=Br.G6 (h.rc p hp)
theorem EX.add (h:EX ks kb b l L w')(co:Co kb l K L r Inb nG w){k:Nat}{o:Obj}(h1:w.heap.size<=k)(h2:w'.heap[k]?=some o)(hu:b.bu<w.heap.size):EX ((k,o)::ks) kb b l L w':=by
 have m:=co.new (w':=w') h1 (Array.getElem?_eq_some_iff.1 h2).1;refine ⟨λp hp=>?_,λp hp=>?_,λp hp=>?_,λp hp=>?_⟩<;>rcases List.mem_cons.1 hp with rfl|hp
 ·exact m.mn
 ·exact h.mn p hp
 ·exact m.rc
 ·exact h.rc p hp
 ·show k≠b.bu;omega
 ·exact h.nu p hp
 ·exact h2
 ·exact h.has p hp
theorem EX.sub {ks':List (Nat × Obj)}(h:EX ks kb b l L w)(hs:∀ p∈ks',p∈ks):EX ks' kb b l L w:=⟨λp hp=>h.mn p (hs p hp),λp hp=>h.rc p (hs p hp),λp hp=>h.nu p (hs p hp),λp hp=>h.has p (hs p hp)⟩
theorem EX.keep (h:EX ks kb b l L w){l':List OpD}(hl:∀ p∈ks,∀ o∈l',o∈l\/o.bo≠p.1)(hk:∀ k,Mn kb L w k->k≠b.bu->Mn kb L' w' k/\w'.heap[k]?=w.heap[k]?):EX ks kb b l' L' w' :=
 ⟨λp hp=>(hk _ (h.mn p hp) (h.nu p hp)).1,λp hp o ho=>(hl p hp o ho).elim (h.rc p hp o) id,h.nu,λp hp=>(hk _ (h.mn p hp) (h.nu p hp)).2.trans (h.has p hp)⟩
theorem EX.begun (h:EX ks kb b l L w){C:Ctx}{S:Ker->q7}{H:w9}{cs:List Frame}(hk:∀ k,Mn kb L w k->k≠b.bu->Mn kb (ConcN.upd L nG (some ⟨C,S,[C.o.bo],H,cs⟩)) w' k/\w'.heap[k]?=w.heap[k]?):EX ks kb b (C.o::l) (ConcN.upd L nG (some ⟨C,S,[C.o.bo],H,cs⟩)) w':=by
 refine h.keep (λp hp o ho=>?_) hk;rcases List.mem_cons.1 ho with rfl|ho
 ·right;intro e;have:=((hk _ (h.mn p hp) (h.nu p hp)).1.own nG _ (ConcN.upd_same ..)).1;exact this (by rw [e];exact List.mem_singleton.2 rfl)
 ·exact .inl ho
end
def a1q (K:Ker)(gF gS gD:Nat):Array Value:=#[.slice (some ⟨gF,0,none⟩) K.nF K.nF,.slice (some ⟨gS,0,none⟩) K.nS K.nS,.slice (some ⟨gD,0,none⟩) K.nD K.nD]
theorem a8A {kb:Kb}{l:List OpD}{K:Ker}{L:Nat->Option Lv}{r:Nat}{Inb:Nat->Option Seat}{nG:Nat}{w:World}(co:Co kb l K L r Inb nG w)(fr:Frame)(cs:List Frame)(d:Nat) :
  Must Tryd.prog true (DL true (sfO l)) (λg w'=>∃ x,g=G (fr.finish x) cs/\∃ gF gS gD,x=.agg (a1q K gF gS gD)/\Grown w w'/\Snap w' gF gS gD K/\w.heap.size<=gF/\w.heap.size<=gS/\w.heap.size<=gD)
   (G (Frame.enter Tryd.prog 13 #[.pointer (some ⟨kb.bk,0,none⟩)] .normal) (fr::cs)) (w.at d) :=
 (a9X co fr cs d).mono (λ_ _ _ h=>h) λg w' ⟨gF,gS,gD,h,h'⟩=>⟨_,h,gF,gS,gD,rfl,h'⟩
section
variable {l:List OpD} {main:Bool} {sft:Nat->Nat} {Stop:Goroutine->World->Prop} {b:Frame} {a:Act} {ops:Array Oper} {i:Nat} {o:Oper} {rest:List Nat} {k:List Item} {cs:List Frame} {w:World} {v:Value}
end
structure DN (ws w:World) (N:Nat->Nat) (Xs:Nat->List Value) (p:Nat) (V:Value) (dn:List Value):Prop where
 own:w.ownsRow ws.heap.size 65 1 V p dn
 row:∀ q,q<p->∃ d,dn[q]?=some (.slice (some ⟨d,0,none⟩) (N q) (N q))/\ws.heap.size<=d/\V.ownBlock≠some d/\w.rowIs d 70 (N q*5) (λj=>(Xs q).getD j (.bool false))
structure ES (S:Nat->Prop) (wr:World) (kb:Kb) (b:Lb) (l:List OpD) (L:Nat->Option Lv) (w:World):Prop where
 mn:∀ k,S k->Mn kb L w k
 rc:∀ k,S k->∀ o∈l,o.bo≠k
 nu:∀ k,S k->k≠b.bu
 has:∀ k,S k->w.heap[k]?=wr.heap[k]?
section
variable {S:Nat->Prop} {wr:World} {kb:Kb} {b:Lb} {l:List OpD} {L L':Nat->Option Lv} {nG:Nat} {w w':World}
theorem ES.grown (h:ES S wr kb b l L w)(g:Grown w w'):ES S wr kb b l L w' :=
 ⟨λk hk=>(h.mn k hk).grow g.size,h.rc,h.nu,λk hk=>(g.old _ (h.mn k hk).lt).trans (h.has k hk)⟩
theorem ES.sf (h:ES S wr kb b l L w){k:Nat}(hk:S k):sfO l k=0:=Br.G6 (h.rc k hk)
theorem ES.keep (h:ES S wr kb b l L w){l':List OpD}(hl:∀ k,S k->∀ o∈l',o∈l\/o.bo≠k)(hk:∀ k,Mn kb L w k->k≠b.bu->Mn kb L' w' k/\w'.heap[k]?=w.heap[k]?):ES S wr kb b l' L' w' :=
 ⟨λk hs=>(hk _ (h.mn k hs) (h.nu k hs)).1,λk hs o ho=>(hl k hs o ho).elim (h.rc k hs o) id,h.nu,λk hs=>(hk _ (h.mn k hs) (h.nu k hs)).2.trans (h.has k hs)⟩
theorem ES.begun (h:ES S wr kb b l L w){C:Ctx}{St:Ker->q7}{H:w9}{cs:List Frame}(hk:∀ k,Mn kb L w k->k≠b.bu->Mn kb (ConcN.upd L nG (some ⟨C,St,[C.o.bo],H,cs⟩)) w' k/\w'.heap[k]?=w.heap[k]?):ES S wr kb b (C.o::l) (ConcN.upd L nG (some ⟨C,St,[C.o.bo],H,cs⟩)) w':=by
 refine h.keep (λk hs o ho=>?_) hk;rcases List.mem_cons.1 ho with rfl|ho
 ·right;intro e;have:=((hk _ (h.mn k hs) (h.nu k hs)).1.own nG _ (ConcN.upd_same ..)).1;exact this (by rw [e];exact List.mem_singleton.2 rfl)
 ·exact .inl ho
end
theorem DN.of {ws w w':World}{N:Nat->Nat}{Xs:Nat->List Value}{p:Nat}{V:Value}{dn:List Value}(h:DN ws w N Xs p V dn)(hk:∀ k,ws.heap.size<=k->k<w.heap.size->w'.heap[k]?=w.heap[k]?):DN ws w' N Xs p V dn :=
 ⟨N5 h.own (λg hg=>hk g (Z5 h.own hg).1 (Z5 h.own hg).2),λq hq=>by
  obtain ⟨d,d1,d2,d3,d4⟩:=h.row q hq
  exact ⟨d,d1,d2,d3,d4.of_block (hk d d2 (W0 d4))⟩⟩
theorem b0Y {P:Program}{fn:Func}{b:Frame}{a:Act}{todo:List Item}{v:Value}{w:World}(hn:b.kind=.normal)(hd:a.defers=[])(hf:P.funcs[b.fn]?=some fn)(hi:P.inits.idxOf? b.fn=none)(hr:ResultsC P fn a.tmps v) :
  stepG P true (G { b.at a todo with mode:=.returning } []) w=.ended (.done v) w #[]:=by
 simp [G,stepG,unwind,doReturn,Frame.at,hn,hd,hf,hi,(hr w).1,(hr w).2,seen,GStep.after]
end Go.Proofs.YtcgabodkegcpgaaDoor
namespace Go.Proofs.YtcgabodkegcpgaaDoor
inductive Alone (slot:Int):q7->Ker->Nat->q7->Ker->Prop
 | nil (s:q7) (K:Ker):Alone slot s K 0 s K
 | call {s s':q7} {K K':Ker} {n:Nat} (num a b c:Int) (h:s []=.call num a b c) (hn:Alone slot (s.after (o8 K slot num a b c).n (o8 K slot num a b c).e) (o8 K slot num a b c).K n s' K'):Alone slot s K (n+1) s' K'
section
variable {slot:Int} {K K':Ker} {n:Nat} {s':q7}
theorem J3 {num a b c:Int}{k:Int × Int->Bool->q7}{o:Out}(ho:o8 K slot num a b c=o)(h:Alone slot (k (o.n,o.e) (o.e == 3)) o.K n s' K'):Alone slot ((V3 num a b c).then false k) K (n+1) s' K':=by
 subst ho;exact .call num a b c rfl h
theorem a0Y {x:Int}{k:Int->Bool->q7}(h0:o8 K slot 1 0 0 0=⟨K,0,0⟩)(h:Alone slot (k x false) K n s' K'):Alone slot ((T0 x).then false k) K (n+1) s' K':=by
 unfold T0;rw [M.bind_then];refine J3 h0 ?_;exact h
theorem a1Z {num a b c:Int}{f:Nat}{x:Int}{r:List Int}{k:Int × List Int->Bool->q7}{K1:Ker}{v:Int}(ho:o8 K slot num a x c=⟨K1,v,0⟩)(h:Alone slot (k (0,K8 (x::r)) false) K1 n s' K'):Alone slot ((a1L num (f+1) a b c (x::r)).then false k) K (n+1) s' K':=by
 unfold a1L;rw [M.bind_then];refine J3 ho ?_;exact h
theorem a5h {num a b c:Int}{f:Nat}{x:Int}{r:List Int}{k:Int × List Int->Bool->q7}{K1:Ker}{v:Int}(ho:o8 K slot num a b x=⟨K1,v,0⟩)(h:Alone slot (k (0,K8 (x::r)) false) K1 n s' K'):Alone slot ((a3x num (f+1) a b c (x::r)).then false k) K (n+1) s' K':=by
 unfold a3x;rw [M.bind_then];refine J3 ho ?_;exact h
theorem Alone.trans {s s1 s2:q7}{K K1 K2:Ker}{m:Nat}(h:Alone slot s K n s1 K1)(h':Alone slot s1 K1 m s2 K2):Alone slot s K (n+m) s2 K2:=by
 induction h with
 | nil s K=>simpa using h'
 | call num a b c hc hn ih =>
  rw [Nat.add_right_comm];exact .call num a b c hc (ih h')
end
def T8 (p:Nat)(kd A B:Int)(K:Ker)(n:Nat)(v e:Int)(K':Ker):Prop :=
 Alone p ((N3 K p kd A B).then false (λz _=>λ_=>.done z.1 z.2)) K n (λ_=>.done v e) K'
end Go.Proofs.YtcgabodkegcpgaaDoor
namespace Go.Proofs.YtcgabodkegcpgaaDoor
open Go.Conc Go.RowKit
open Br (X OpD KO SO SP sfO Lk Fit Must DL Liv Clear)
section
variable {P:Program} {main st:Bool} {sft:Nat->Nat} {Stop:Goroutine->World->Prop} {b:Frame} {a:Act} {k:List Item} {cs:List Frame} {w:World} {ops:Array Oper}
theorem b0Z {fn:Func}{todo:List Item}{c:Frame}{v:Value}(hn:b.kind=.normal)(hd:a.defers=[])(hf:P.funcs[b.fn]?=some fn)(hr:∀ d,(results fn a.tmps).run P (w.at d)=.ok v (w.at d))
  (h:Liv P main st sft Stop (G (c.finish v) cs) w):Liv P main st sft Stop (G { b.at a todo with mode:=.returning } (c::cs)) w:=λd=>by
 refine .step (λ_=>G (c.finish v) cs) (λd'=>w.at d') (λd'=>seen P b.fn ((results fn a.tmps).events P (w.at d') #[])) rfl (λd'=>?_) (λd'=>⟨.refl _ _,λe he=>?_,rfl⟩) (λd'=>h d')
 ·have h1:=hr d';show stepG P main (G { b.at a todo with mode:=.returning } (c::cs)) (w.at d')=_;simp [G,stepG,unwind,doReturn,Frame.at,hn,hd,hf,h1,GStep.after]
 ·have ht:=Br.a5f (P:=P) (st:=false) fn a.tmps;unfold Br.TT at ht;rw [show (false=true)=False by simp] at ht;have key:=(Br.b2T (sft:=sft) P (results fn a.tmps) (st=true) _ (w.at d') #[] ht).2;have he':e∈((results fn a.tmps).runT P (w.at d') #[]).2:=Br.a2G he;have hr':((results fn a.tmps).runT P (w.at d') #[]).1=.ok v (w.at d'):=by rw [Sem.runT_fst];exact hr d'
  rw [hr'] at key;rcases key e he' with h|h
  ·simp at h
  ·exact h
theorem g9 {n:Nat}{il:List Nat}(hr:List.range ops.size=il)(h:Liv P main st sft Stop (G (b.at a (.inRegion ops il::k)) cs) w):Liv P main st sft Stop (G (b.at a (.code (.region n ops false)::k)) cs) w:=Br.b9 (by rw [hr];exact h)
end
def Clo (ops:Array Oper)(listed:Array Bool):Prop:=∀ i o,listed.getD i false=true->ops[i]?=some o->∀ j,(o.after.any λe=>Region.binds .any e && e.on == j)=true->listed.getD j false=true
theorem Clo.put {ops:Array Oper}{listed:Array Bool}(h:Clo ops listed){i:Nat}(hi:i∈Region.ready .any ops listed):Clo ops (listed.setIfInBounds i true):=λk o hk ho j hj=>by
 refine Br.C0 ?_
 by_cases e:i=k
 ·subst e;exact Br.f9 hi ho hj
 ·refine h k o ?_ ho j hj
  cases hq:listed.getD k false with
  | true=>rfl
  | false=>rw [Br.a1N hq e] at hk;cases hk
theorem a3I {main:Bool}{sft:Nat->Nat}{Stop:Goroutine->World->Prop}{b:Frame}{a:Act}{k:List Item}{cs:List Frame}{w:World}{ops:Array Oper}{V:Nat->Value}{id:Nat}(hbk:b.kind≠.early)(hdf:a.defers=[])(h1:Br.a0R ops=true)
  (hs:(List.range ops.size).all (λi=>((ops[i]?).map (·.after.all λe=>!Region.binds .any e || decide (e.on<i))).getD true)=true)
  (hstep:∀ i a' listed,Br.Agr ops V a.tmps listed a'->Clo ops listed->i∈Region.ready .any ops listed->∃ o,ops[i]?=some o /\
   ((Region.wanted o (yielded ops a'.tmps)=false/\V i=undef)\/(Region.wanted o (yielded ops a'.tmps)=true/\Br.Y6 Tryd.prog (λ_=>false) [] false o.op=true/\∀ d,(execOp a'.eval o).run Tryd.prog (w.at d)=.ok (.value (V i)) (w.at d))))
  (hn:∀ a' listed,Br.Agr ops V a.tmps listed a'->(∀ i,i<ops.size->listed.getD i false=true)->Liv Tryd.prog main true sft Stop (G (b.at a' k) cs) w) :
  Liv Tryd.prog main true sft Stop (G (b.at a (.code (.region id ops true)::k)) cs) w:=by
 have key:∀ fuel listed a' rest,Br.Ord ops fuel listed rest->(Br.Agr ops V a.tmps listed a'/\Clo ops listed)->Liv Tryd.prog main true sft Stop (G (b.at a' (.inRegion ops rest::k)) cs) w:=by
  refine Br.a1M (Ag:=λlisted a'=>Br.Agr ops V a.tmps listed a'/\Clo ops listed) (J:=λa' rest=>Liv Tryd.prog main true sft Stop (G (b.at a' (.inRegion ops rest::k)) cs) w) (λf listed a' i rest hi hA hO hgo=>?_) (λlisted a' hno hA=>?_)
  ·obtain ⟨o,ho,⟨hw,hv⟩|⟨hw,hop,hr⟩⟩:=hstep i a' listed hA.1 hA.2 hi
   ·exact Br.a4b ho hw (hgo _ ⟨hA.1.put h1 ho hv,hA.2.put hi⟩)
   ·exact b6B ho hw hbk hop hr (hgo _ ⟨hA.1.put h1 ho rfl,hA.2.put hi⟩)
  ·exact Br.a9 (hn a' listed hA.1 (Br.G9 hs hA.1.len hno))
 refine λd0=>a1y (λt d=>?_) d0;obtain ⟨tm,df⟩:=a;obtain rfl:df=[]:=hdf;exact key _ _ ⟨tm,[]⟩ _ (Br.X8 (by kernel_rfl) ops t) ⟨Br.Agr.start ops V tm,λi o hi=>by rw [I3] at hi;cases hi⟩ d
theorem a3J {sz:Nat}{env env':List (Nat × Value)}{a a':Act}{ops:Array Oper}{V:Nat->Value}{listed:Array Bool}(hA:Lvs sz env a)(hG:Br.Agr ops V a.tmps listed a')(hall:∀ i,i<ops.size->listed.getD i false=true)
  (h:∀ p∈env',(∃ i o,ops[i]?=some o/\o.dst=some p.1/\V i=p.2/\p.1<sz)\/(((List.range ops.size).all λi=>((ops[i]?).map (λo=>o.dst != some p.1)).getD true)=true/\env.lookup p.1=some p.2)):Lvs sz env' a':=by
 refine ⟨hG.size.trans hA.size,hG.defs,λp hp=>?_⟩;rcases h p hp with ⟨i,o,ho,hd,hv,hl⟩|⟨hn,hl⟩
 ·rw [← hv];exact hG.done i o p.1 ho hd (hall i (Array.getElem?_eq_some_iff.1 ho).1) (by rw [hA.size];exact hl)
 ·rw [hG.still p.1 (λi o ho hd=>?_)]
  ·exact hA.at hl
  ·rw [List.all_eq_true] at hn;have:=hn i (List.mem_range.2 (Array.getElem?_eq_some_iff.1 ho).1);rw [ho] at this;simp [hd] at this
section
variable {sz:Nat} {env:List (Nat × Value)} {a a':Act} {ops:Array Oper} {V:Nat->Value} {listed:Array Bool}
theorem b8u (hA:Lvs sz env a)(hG:Br.Agr ops V a.tmps listed a'){i j t:Nat}{o oj:Oper}{v:Value}(hr:i∈Region.ready .any ops listed)(ho:ops[i]?=some o)(hj:(o.after.any λe=>Region.binds .any e && e.on == j)=true)(hoj:ops[j]?=some oj)(ht:oj.dst=some t)(hb:t<sz)(hv:V j=v):a'.eval (.tmp t)=v :=
 hG.tmp hoj ht (Br.f9 hr ho hj) (by rw [hA.size];exact hb) hv
theorem b5A (hA:Lvs sz env a)(hG:Br.Agr ops V a.tmps listed a'){t:Nat}{v:Value}(hn:((List.range ops.size).all λi=>((ops[i]?).map (λo=>o.dst != some t)).getD true)=true)(hv:env.lookup t=some v):a'.eval (.tmp t)=v :=
 hG.base hn (hA.at hv)
theorem b1a (hA:Lvs sz env a)(hG:Br.Agr ops V a.tmps listed a'){i j t:Nat}{o oj:Oper}{x y:Bool}(hr:i∈Region.ready .any ops listed)(ho:ops[i]?=some o)(hg:o.guard=some (j,y))(hj:(o.after.any λe=>Region.binds .any e && e.on == j)=true)(hoj:ops[j]?=some oj)(ht:oj.dst=some t)(hb:t<sz)(hv:V j=.bool x):Region.wanted o (yielded ops a'.tmps)=(x == y):=by
 have e:=hG.done j oj t hoj ht (Br.f9 hr ho hj) (by rw [hA.size];exact hb);unfold Region.wanted;rw [hg];simp only [yielded,hoj,Option.bind_some,ht,e,hv];cases x<;>cases y<;>rfl
end
section
variable {sz:Nat} {env:List (Nat × Value)} {main:Bool} {sft:Nat->Nat} {Stop:Goroutine->World->Prop} {f:FuncId} {a:Act} {ops:Array Oper} {i D j T:Nat} {o oj:Oper} {op:Op} {x y:Bool} {rest:List Nat} {k:List Item} {cs:List Frame} {w:World} {v:Value} {X:Operand}
theorem wt (hA:Lvs sz env a)(ho:ops[i]?=some o)(hg:o.guard=none)(hop:o.op=.assign X)(hx:a.eval X=v)(hd:o.dst=some D)(hD:Nat.blt D sz=true)(h:∀ a',Lvs sz ((D,v)::env.filter (λp=>p.1 != D)) a'->Liv Tryd.prog main true sft Stop (G ((base f).at a' (.inRegion ops rest::k)) cs) w):Liv Tryd.prog main true sft Stop (G ((base f).at a (.inRegion ops (i::rest)::k)) cs) w :=
 b1p hA ho (C6 hg) (by show CallKind.normal≠.early;decide) (by rw [hop];rfl) hd (by simpa using hD) (λd=>P6 hop hx) h
end
def Ins (env:List (Nat × Value)):List (Nat × Value)->Prop
 | []=>True
 | p::r=>env.lookup p.1=some p.2/\Ins env r
theorem Ins.mem {env:List (Nat × Value)}:∀ {r:List (Nat × Value)},Ins env r->∀ p∈r,env.lookup p.1=some p.2
 | _::_,h,p,hp=>by
  rcases List.mem_cons.1 hp with rfl|hp
  ·exact h.1
  ·exact Ins.mem h.2 p hp
theorem Lvs.cut {sz:Nat}{env env':List (Nat × Value)}{a:Act}(h:Lvs sz env a)(hs:Ins env env'):Lvs sz env' a:=h.sub hs.mem
structure Loc (kb:Kb) (b:Lb) (n:Nat) (l:List OpD) (L:Nat->Option Lv) (w:World) (V:Nat->Value) (k:Nat) (x:Obj):Prop where
 mw:Mw kb l L w k
 is:w.heap[k]?=some x
 nl:k≠b.bl
 nu:k≠b.bu
 nn:k≠b.bn
 nv:∀ p,p<n->(V p).ownBlock≠some k
section
variable {kb:Kb} {b:Lb} {n:Nat} {l:List OpD} {L:Nat->Option Lv} {w w':World} {V:Nat->Value} {k:Nat} {x:Obj} {nG:Nat}
theorem Loc.grown (h:Loc kb b n l L w V k x)(g:Grown w w'):Loc kb b n l L w' V k x:=⟨h.mw.grow g.size,(g.old k h.mw.mn.lt).trans h.is,h.nl,h.nu,h.nn,h.nv⟩
theorem Loc.begun (h:Loc kb b n l L w V k x){C:Ctx}{S:Ker->q7}{H:w9}{cs:List Frame}(hk:∀ k,Mn kb L w k->k≠b.bu->Mn kb (ConcN.upd L nG (some ⟨C,S,[C.o.bo],H,cs⟩)) w' k/\w'.heap[k]?=w.heap[k]?):Loc kb b n (C.o::l) (ConcN.upd L nG (some ⟨C,S,[C.o.bo],H,cs⟩)) w' V k x:=by
 obtain ⟨m1,m2⟩:=hk k h.mw.mn h.nu;refine ⟨⟨m1,h.mw.bk,h.mw.tab,λo ho=>?_⟩,m2.trans h.is,h.nl,h.nu,h.nn,h.nv⟩;rcases List.mem_cons.1 ho with rfl|ho
 ·intro e;exact (m1.own nG _ (ConcN.upd_same _ _ _)).1 (by rw [← e];exact List.mem_cons_self ..)
 ·exact h.mw.rc o ho
theorem Loc.goes {L':Nat->Option Lv}(h:Loc kb b n l L w V k x)(hk:Kp kb L w L' w'):Loc kb b n l L' w' V k x:=⟨h.mw.kp hk,(hk k h.mw.mn).2.trans h.is,h.nl,h.nu,h.nn,h.nv⟩
theorem Loc.ex (h:Loc kb b n l L w V k x){p:Nat}(hp:p<n):¬ a6m b V p k:=λe=>by
 rcases e with e|e|e
 ·exact h.nu e
 ·exact h.nn e
 ·exact h.nv p hp e
theorem Loc.over {L':Nat->Option Lv}(h:Loc kb b n l L w V k x){p g m cap:Nat}(hp:p<n)(hg:∀ k,Mn kb L w k->¬ a6m b V p k->k≠g)(hk:∀ k,Mn kb L w k->¬ a6m b V p k->Mn kb L' w' k/\w'.heap[k]?=w.heap[k]?):Loc kb b n l L' w' (V0 V p (.slice (some ⟨g,0,none⟩) m cap)) k x:=by
 obtain ⟨m1,m2⟩:=hk k h.mw.mn (h.ex hp);refine ⟨⟨m1,h.mw.bk,h.mw.tab,h.mw.rc⟩,m2.trans h.is,h.nl,h.nu,h.nn,λq hq=>?_⟩
 by_cases e:q=p
 ·subst e;simp only [V0,if_true];exact λe=>hg k h.mw.mn (h.ex hq) (Option.some.inj e).symm
 ·simp only [V0,e,if_false];exact h.nv q hq
theorem Loc.lt (h:Loc kb b n l L w V k x):k<w.heap.size:=h.mw.mn.lt
theorem Loc.wrote (hz:w.heap.size<=w'.heap.size)(hs:∀ i,i<w.heap.size->i≠k->w'.heap[i]?=w.heap[i]?){j:Nat}{y:Obj}(hj:Loc kb b n l L w V j y)(hne:j≠k):Loc kb b n l L w' V j y:=⟨hj.mw.grow hz,(hs j hj.lt hne).trans hj.is,hj.nl,hj.nu,hj.nn,hj.nv⟩
theorem Loc.self (h:Loc kb b n l L w V k x){y:Obj}(hz:w'.heap.size=w.heap.size)(hy:w'.heap[k]?=some y):Loc kb b n l L w' V k y:=⟨h.mw.grow (by omega),hy,h.nl,h.nu,h.nn,h.nv⟩
theorem a0Z {K:Ker}{r B0:Nat}{Inb:Nat->Option Seat}{U:Nat->Option OpD}{N:Nat->Nat}{Xs:Nat->List Value}(co:Co kb l K L r Inb nG w)(lm:LibM kb l L w b n B0 U V N Xs)(h1:w.heap.size<=k)(h2:w'.heap[k]?=some x):Loc kb b n l L w' V k x:=by
 have hlt:=(Array.getElem?_eq_some_iff.1 h2).1;refine ⟨co.new h1 hlt,h2,?_,?_,?_,λp hp e=>?_⟩
 ·have:=lm.m.mbl.mn.lt;omega
 ·have:=lm.m.mbu.mn.lt;omega
 ·have:=lm.m.mbn.mn.lt;omega
 ·have:=(lm.m.mls p hp k e).mn.lt;omega
variable {w0:World} {i:Nat} {K:Ker} {r:Nat} {Inb:Nat->Option Seat} {U:Nat->Option OpD} {N:Nat->Nat} {Xs:Nat->List Value}
theorem CI.any (h:CI w0 kb b n i l K (λ_=>none) r Inb nG w U V N Xs)(r':Nat):CI w0 kb b n i l K (λ_=>none) r' Inb nG w U V N Xs :=
 ⟨⟨h.co.env,h.co.top,h.co.gid,h.co.onk,h.co.at_,λg v hv=>(by cases hv),h.co.seat,h.co.none,h.co.main0,h.co.chan,h.co.chne,h.co.pvch,h.co.apart⟩,h.hn,h.lm,h.g0,h.u1,h.all,h.nb,h.ints,h.old,h.far⟩
theorem CI.wrote (h:CI w0 kb b n i l K L r Inb nG w U V N Xs)(hk:Loc kb b n l L w V k x)(hz:w.heap.size<=w'.heap.size)(hs:∀ j,j<w.heap.size->j≠k->w'.heap[j]?=w.heap[j]?)(h0:w0.heap.size<=k):CI w0 kb b n i l K L r Inb nG w' U V N Xs:=by
 have hcl:Clear w':=trivial;refine ⟨h.co.wrote hz hcl (λj hj hn=>hs j hj (λe=>hn (e▸hk.mw))),h.hn,⟨⟨h.lm.m.is.same (hs _ h.lm.m.mbl.mn.lt (Ne.symm hk.nl)) (hs _ h.lm.m.mbu.mn.lt (Ne.symm hk.nu)) (hs _ h.lm.m.mbn.mn.lt (Ne.symm hk.nn)) (λp hp g hg=>hs g (h.lm.m.mls p hp g hg).mn.lt (λe=>hk.nv p hp (e▸hg))),h.lm.m.mbl.grow hz,h.lm.m.mbu.grow hz,h.lm.m.mbn.grow hz,λp hp g hg=>(h.lm.m.mls p hp g hg).grow hz,h.lm.m.b0⟩,h.lm.live⟩,h.g0,h.u1,h.all,h.nb,h.ints,λj hj=>⟨(h.old j hj).1.grow hz,(hs j (h.old j hj).1.lt (by omega)).trans (h.old j hj).2⟩,h.far⟩
end
def a4L (D:Nat):List (Nat × Value)->Bool
 | []=>true
 | p::r=>!(Nat.beq p.1 D) && a4L D r
theorem a1a {D:Nat}:∀ {env:List (Nat × Value)},a4L D env=true->env.filter (λp=>p.1 != D)=env
 | [],_=>rfl
 | p::r,h=>by
  simp only [a4L,Bool.and_eq_true,Bool.not_eq_true'] at h;have h1:(p.1 != D)=true:=by
   simp only [bne_iff_ne,ne_eq];exact λe=>by rw [e,Nat.beq_refl] at h;cases h.1
  have h2:=a1a h.2;simp only [List.filter,h1,h2]
section
variable {sz:Nat} {env:List (Nat × Value)} {main:Bool} {sft:Nat->Nat} {Stop:Goroutine->World->Prop} {f:FuncId} {a:Act} {ops:Array Oper} {i D j T n c x t e:Nat} {ad:Option Addr} {o oj:Oper} {op:Op} {y z:Bool} {rest:List Nat} {k:List Item} {cs:List Frame} {w:World} {v:Value} {X:Operand} {vs:Array Value}
abbrev Nx (sz:Nat)(D:Nat)(v:Value)(env:List (Nat × Value))(main:Bool)(sft:Nat->Nat)(Stop:Goroutine->World->Prop)(f:FuncId)(ops:Array Oper)(rest:List Nat)(k:List Item)(cs:List Frame)(w:World):Prop:=∀ a',Lvs sz ((D,v)::env) a'->Liv Tryd.prog main true sft Stop (G ((base f).at a' (.inRegion ops rest::k)) cs) w
theorem a9v (hA:Lvs sz env a)(ho:ops[i]?=some o)(hw:Region.wanted o (yielded ops a.tmps)=true)(hok:Br.Y6 Tryd.prog (λ_=>false) [] false o.op=true)(hd:o.dst=some D)(hD:Nat.blt D sz=true)(hN:a4L D env=true)(hv:∀ d,(execOp a.eval o).run Tryd.prog (w.at d)=.ok (.value v) (w.at d))(h:Nx sz D v env main sft Stop f ops rest k cs w):Liv Tryd.prog main true sft Stop (G ((base f).at a (.inRegion ops (i::rest)::k)) cs) w :=
 b1p hA ho hw (by show CallKind.normal≠.early;decide) hok hd (by simpa using hD) hv (λa' hA'=>h a' (by rw [a1a hN] at hA';exact hA'))
theorem nm (hA:Lvs sz env a)(ho:ops[i]?=some o)(hg:o.guard=none)(hop:o.op=.move X)(hx:a.eval X=v)(hd:o.dst=some D)(hD:Nat.blt D sz=true)(hN:a4L D env=true)(h:Nx sz D v env main sft Stop f ops rest k cs w):Liv Tryd.prog main true sft Stop (G ((base f).at a (.inRegion ops (i::rest)::k)) cs) w :=
 a9v hA ho (C6 hg) (by rw [hop];rfl) hd hD hN (λd=>w8 hop hx) h
theorem nt (hA:Lvs sz env a)(ho:ops[i]?=some o)(hg:o.guard=none)(hop:o.op=.assign X)(hx:a.eval X=v)(hd:o.dst=some D)(hD:Nat.blt D sz=true)(hN:a4L D env=true)(h:Nx sz D v env main sft Stop f ops rest k cs w):Liv Tryd.prog main true sft Stop (G ((base f).at a (.inRegion ops (i::rest)::k)) cs) w :=
 a9v hA ho (C6 hg) (by rw [hop];rfl) hd hD hN (λd=>P6 hop hx) h
theorem nu (hA:Lvs sz env a)(ho:ops[i]?=some o)(hg:o.guard=some (j,y))(hj:ops[j]?=some oj)(ht:oj.dst=some T)(hx0:env.lookup T=some (.bool z))(hxy:(z == y)=false)(hd:o.dst=some D)(hD:Nat.blt D sz=true)(hN:a4L D env=true)(h:Nx sz D undef env main sft Stop f ops rest k cs w):Liv Tryd.prog main true sft Stop (G ((base f).at a (.inRegion ops (i::rest)::k)) cs) w :=
 b2R hA ho ((hA.wanted hg hj ht hx0).trans hxy) hd (by simpa using hD) (λa' hA'=>h a' (by rw [a1a hN] at hA';exact hA'))
theorem nop (hA:Lvs sz env a)(ho:ops[i]?=some o)(hg:o.guard=none)(hop:o.op=op)(hok:Br.Y6 Tryd.prog (λ_=>false) [] false op=true)(hd:o.dst=some D)(hD:Nat.blt D sz=true)(hN:a4L D env=true)(hv:∀ o':Oper,o'.op=op->∀ d,(execOp a.eval o').run Tryd.prog (w.at d)=.ok (.value v) (w.at d))(h:Nx sz D v env main sft Stop f ops rest k cs w):Liv Tryd.prog main true sft Stop (G ((base f).at a (.inRegion ops (i::rest)::k)) cs) w :=
 a9v hA ho (C6 hg) (by rw [hop];exact hok) hd hD hN (hv o hop) h
theorem v6 (hA:Lvs sz env a)(ho:ops[i]?=some o)(hg:o.guard=some (j,y))(hj:ops[j]?=some oj)(ht:oj.dst=some T)(hx0:env.lookup T=some (.bool z))(hxy:(z == y)=true)(hop:o.op=op)(hok:Br.Y6 Tryd.prog (λ_=>false) [] false op=true)(hd:o.dst=some D)(hD:Nat.blt D sz=true)(hN:a4L D env=true)(hv:∀ o':Oper,o'.op=op->∀ d,(execOp a.eval o').run Tryd.prog (w.at d)=.ok (.value v) (w.at d))(h:Nx sz D v env main sft Stop f ops rest k cs w):Liv Tryd.prog main true sft Stop (G ((base f).at a (.inRegion ops (i::rest)::k)) cs) w :=
 a9v hA ho ((hA.wanted hg hj ht hx0).trans hxy) (by rw [hop];exact hok) hd hD hN (hv o hop) h
theorem nx (hA:Lvs sz env a)(ho:ops[i]?=some o)(hg:o.guard=none)(hop:o.op=.extract (.tmp x) n)(hx:env.lookup x=some (.tuple vs))(hv:vs[n]?=some v)(hd:o.dst=some D)(hD:Nat.blt D sz=true)(hN:a4L D env=true)(h:Nx sz D v env main sft Stop f ops rest k cs w):Liv Tryd.prog main true sft Stop (G ((base f).at a (.inRegion ops (i::rest)::k)) cs) w :=
 a9v hA ho (C6 hg) (by rw [hop];rfl) hd hD hN (λd=>U4 hop (hA.get hx) hv) h
theorem nl (hA:Lvs sz env a)(ho:ops[i]?=some o)(hg:o.guard=none)(hop:o.op=.call { callee:=.builtin .len,args:=#[.tmp x],argTypes:=#[t] })(hu:Tryd.prog.underlying t=some (.slice e))(hx:env.lookup x=some (.slice ad n c))(hd:o.dst=some D)(hD:Nat.blt D sz=true)(hN:a4L D env=true)(h:Nx sz D (.int .i64 n) env main sft Stop f ops rest k cs w):Liv Tryd.prog main true sft Stop (G ((base f).at a (.inRegion ops (i::rest)::k)) cs) w :=
 a9v hA ho (C6 hg) (by rw [hop];rfl) hd hD hN (λd=>a5B hop hu (hA.get hx)) h
theorem nlg (hA:Lvs sz env a)(ho:ops[i]?=some o)(hg:o.guard=some (j,y))(hj:ops[j]?=some oj)(ht:oj.dst=some T)(hx0:env.lookup T=some (.bool z))(hxy:(z == y)=true)(hop:o.op=.call { callee:=.builtin .len,args:=#[.tmp x],argTypes:=#[t] })(hu:Tryd.prog.underlying t=some (.slice e))(hx:env.lookup x=some (.slice ad n c))(hd:o.dst=some D)(hD:Nat.blt D sz=true)(hN:a4L D env=true)(h:Nx sz D (.int .i64 n) env main sft Stop f ops rest k cs w):Liv Tryd.prog main true sft Stop (G ((base f).at a (.inRegion ops (i::rest)::k)) cs) w :=
 a9v hA ho ((hA.wanted hg hj ht hx0).trans hxy) (by rw [hop];rfl) hd hD hN (λd=>a5B hop hu (hA.get hx)) h
end
end Go.Proofs.YtcgabodkegcpgaaDoor
