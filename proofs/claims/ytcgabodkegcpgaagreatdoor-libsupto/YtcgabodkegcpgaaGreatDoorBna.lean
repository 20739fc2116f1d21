/- The book of lists that came out, in company: what it is in memory. -/
import Derived.Test.YtcgabodkegcpgaaGreatDoorAaa
import Derived.Test.YtcgabodkegcpgaaGreatDoorLst
import Derived.Test.YtcgabodkegcpgaaGreatDoorEnp
import Derived.Conc.Beside
import Derived.Conc.LeavingOf
import Derived.Laws.CopyRow
import Derived.Test.YtcgabodkegcpgaaGreatDoorProg
import Derived.WalkKit
import Derived.Deep.MidRow
import Derived.Test.YtcgabodkegcpgaaGreatDoorKer
import Derived.Test.YtcgabodkegcpgaaGreatDoorMca
import Derived.ProofKit
import Derived.OpenShut
import Derived.Deep.Grids
import Derived.Deep.DeepHandedRow
import Derived.Deep.Strs
import Derived.Laws.IdiomArrays
set_option linter.unusedVariables false
set_option linter.unusedSimpArgs false
set_option maxHeartbeats 20000000
set_option maxRecDepth 100000
open Option renaming some->J,none->Q,none->G',map_some->aF,isSome_iff_exists->cL
open Go.Proofs.Tryz renaming prog->V,prog->J',func9->eE,func19->gC,func17->gE,underlying3->gR,func8->gX,func52->iw,func22->iJ,func21->iK,func20->iL,func16->iM,func48->iW,underlying88->je,func23->jM,func18->jN,func10->jO,func53->jY,func7->kh,func12->kF,func47->mj,func46->mm,func11->mA,f5->mC,func24->ni
open Go renaming World->Wd,Value->Vu,undef->Ud,Frame->Fm',Goroutine->Gr,TypeId->Ti,execOp->Ex,Program->Pg,Calls->aG,Oper->aN,Operand->aU,Item->bm,FuncId->bF,stepG->bH,Addr->cC,heap_alloc_new->cE,Act->db,Value->dQ,run_underlying->eT,Machine->fM,maxLen->gO,Code->jx,Trace->jD,run_storeCells_cells->jZ,Func->mR
open Go.Value renaming int->Y,pointer->Po,slice->Sc,bool->Bo,slice->dm
open Go.IntKind renaming i64->U
open Go.Addr renaming mk->O,add_mid->eO,add->kS
open List renaming mem_cons->ae,not_mem_nil->ai,range->aM,getElem?_eq_some_iff->bj,getElem?_eq_getElem->br,getElem?_map->bZ,cons_append->cy,mem_append->cz,mem_singleton->cD,getD_eq_getElem?_getD->cK,mem_append_right->cN,map_cons->cZ,map_toArray->du,mem_filter->dD,mem_map_of_mem->dE,nil_append->dS,map_nil->eK,getElem?_take->eV,getElem?_eq_none->fh,mem_append_left->fP,map_congr_left->iY,length_append->jG,append_assoc->jH,ext_getElem?->jV,getElem?_take_of_lt->kR,getElem?_append_right->lN,getElem?_append_left->mQ
open Nat renaming le_refl->af,zero_add->aE,beq->aI,add_assoc->aS,zero_le->bh,lt_or_ge->bU,one_pos->cG,le_of_eq->fJ,mul_le_mul_right->fQ,not_lt_zero->iE,lt_irrefl->iO,sub_zero->iQ,succ_mul->jv,add_zero->kH
open Go.ConcN renaming upd->aj,upd_ne->az,upd_same->aH
open Go.RowKit renaming Hid->ar,Below->bG
open Prod.mk renaming inj->ax,injEq->cU
open Go.Frame renaming enter->ay
open Ne renaming symm->aA
open Bool renaming and_eq_true->aC
open Go.World renaming cell?->aD,block_lt_of_cell?->aL,ownsRow_nil->dh
open Go.RowKit.Below renaming heap_alloc->aK,refl->bD
open Go.Builtin renaming nextslicecap->aT,copy_->dt,firstCells->kV,lenOf->nH
open Go.CallKind renaming normal->aX
open Or renaming inr->ba,inl->bT
open Option.some renaming injEq->bz
open Array renaming getElem?_eq_getElem->bE
open Int renaming eq_ofNat_of_zero_le->cV
open And renaming intro->dg
open Go.GStep renaming after->fj
open List.cons renaming injEq->fK
open Go.Value.slice renaming inj->fS
open Go.Conc renaming Seat->ic,Good->kx,resultsC_tmp->kT
open Go.Instr renaming makeSlice->iB
open Go.DataW renaming trod->iZ,trod_int->ky
namespace Go.Proofs.YtcgabodkegcpgaaGreatDoor
noncomputable section
open Go.RowKit
variable{a b c d e:Nat}{f g h i j:Int}{k l m:Wd}{n o:Vu}{p:db}{q r s:Nat->Vu}{t u:Nat->Nat}{v w:Array Vu}{x:List Vu}{y z A:Nat->Option Lv}{B:aa}{C D:m7}{E F:Lv}
section
open Go.Conc
def yF:Nat->Nat
 | 0=>85|1=>86|2=>87|_=>55
def yE:Nat->Nat
 | 0=>71|1=>82|2=>87|_=>92
def yS:Nat->Nat
 | 0=>66|1=>72|2=>83|_=>88
def yO:Nat->Nat
 | 0=>68|1=>74|2=>85|_=>90
def yL:Nat->Nat
 | 0=>50|1=>51|2=>52|_=>53
def yZ:Nat->Nat
 | 0=>6|1=>20|2=>5|_=>5
def yB:Nat->Nat
 | 0=>48|1=>160|2=>40|_=>40
def yM(k:Nat):Int:=IntKind.i64.wrap (-9 - (k:Int))
def yV(c:Nat)(x:Int):List dQ:=match c with
 | 0=>[i0,vi x,i0,i0,i0,i0]
 | 1=>[i0,vi x,i0,i0,b0,i0,b0,i0,b0,i0,b0,i0,b0,i0,b0,i0,b0,i0,b0,i0]
 | 2=>[vi x,i0,i0,i0,i0]
 | _=>[i0,i0,i0,i0,vi x]
theorem CY(c:Nat)(x:Int):(yV c x).length=yZ c:=by
 match c with
 | 0|1|2|(_+3)=>rfl
theorem d0m(c:Nat):0<yZ c:=by
 match c with
 | 0|1|2|(_+3)=>simp[yZ]
def yR(c:Nat)(x:Int)(m:Nat):List dQ:=(List.replicate m (yV c x)).flatten
theorem Iw(c:Nat)(x:Int)(m:Nat):yR c x (m+1)=yR c x m++yV c x:=by
 unfold yR;rw[List.replicate_succ',List.flatten_append];simp
theorem yr(c:Nat)(x:Int):∀m,(yR c x m).length=m*yZ c
 | 0=>by simp[yR]
 | m+1=>by rw[Iw,jG,yr c x m,CY,jv]
theorem Fu(c:Nat)(x:Int):∀ {m j i:Nat},j<m->(yV c x)[i]?=J n->(yR c x m)[j*yZ c+i]?=J n
 | m+1,j,i,hj,hv=>by
  have a:i<yZ c:=by rw[←CY c x];grind
  rw[Iw]
  by_cases e:j=m
  .subst e;rw[lN (by rw[yr];omega),yr]
   grind
  .have:(j+1)*yZ c<=m*yZ c:=fQ _ Za;rw[jv]at this;rw[mQ (by rw[yr];omega)];exact Fu c x Za hv
theorem Dj{base:Nat}(h:k.ownsRow base a b n c x)(e:n.ownBlock=J d):∃f t,k.heap[d]?=J (.cells f t (0,0)):=by
 obtain⟨i,⟨rfl,_⟩|⟨g,j,l,rfl,m,o,p⟩⟩:=h
 .cases e
 .obtain rfl:g=d:=Ze e
  grind
inductive BkB where
 | hd
 | ls (c:Nat)
 | mk (c k L:Nat)
def rm(a:Nat->Nat)(A:Nat->Option BkB)(k:Nat):Nat:=if (A k).isSome then 6 else a k
structure qa (sft κ:Nat->Nat) (w:Wd) (bb:Nat) (V:Nat->Vu) (N:Nat->Nat) (X:Nat->List Vu) (A:Nat->Option BkB):Prop where
 x7:∀c,c<4->w.cell? (O bb c Q)=J (V c)
 own:∀c,c<4->w.ownsRow 0 (yO c) 2 (V c) (N c) (X c)
 hd:A bb=J .hd
 ls:∀c g,c<4->(V c).ownBlock=J g->A g=J (.ls c)
 blk:∀g x,A g=J x->κ g=6/\F3 sft w g
 AW:∀g c k L,A g=J (.mk c k L)->∀j,j<L->w.rangeAt g (j*yZ c) (yV c (yM k))
 pc:∀c i,c<4->i<N c->∃a n cap k,(X c)[i*2]?=J (.slice a n cap)/\(X c)[i*2+1]?=J (vi (k:Nat))/\n<=8000000000000/\k<=8000000000000/\(0<n->∃g L,a=J (O g 0 Q)/\A g=J (.mk c k L)/\n<=L)
variable{sft κ:Nat->Nat}{w w':Wd}{bb:Nat}{V:Nat->Vu}{N:Nat->Nat}{A:Nat->Option BkB}{c k n m g cap:Nat}
section
variable{X:Nat->List Vu}
theorem qa.bl(B:qa sft κ w bb V N X A):F3 sft w bb/\κ bb=6:=⟨(B.blk _ _ B.hd).2,(B.blk _ _ B.hd).1⟩
theorem qa.form(B:qa sft κ w bb V N X A)(b:c<4):∃a p,V c=.slice a (N c) p:=by
 rcases(B.own c b).2 with⟨h,e⟩|⟨g,cap,d,h,_⟩
 all_goals grind
theorem qa.to{κ':Nat->Nat}(B:qa sft κ w bb V N X A)(l:F3 sft w' bb)(o:∀c,c<4->w'.cell? (O bb c Q)=J (V c))(p:∀g x,A g=J x->κ' g=κ g)(h:∀g x,A g=J x->g≠bb->w'.heap[g]?=w.heap[g]?):qa sft κ' w' bb V N X A:=by
 have d:∀ {g x},A g=J x->x≠.hd->g≠bb:=λ{g x} f q e=>q (by rw[e,B.hd]at f;exact(Ze f).symm);refine⟨o,λc b=>j5 (B.own c b) λg a=>h g _ (B.ls c g b a) (d (B.ls c g b a) Zc),B.hd,B.ls,λg x a=>⟨(p g x a).trans (B.blk g x a).1,?_⟩,λg c k L a j r i v s=>?_,B.pc⟩
 .by_cases e:g=bb
  .subst e;exact l
  .exact(B.blk g x a).2.of (h g x a e)
 .rw[Zf (w:=w) (h g _ a (d a Zc))];exact B.AW g c k L a j r i v s
theorem qa.same{κ':Nat->Nat}(B:qa sft κ w bb V N X A)(a:∀g x,A g=J x->κ' g=κ g)(h:∀g x,A g=J x->w'.heap[g]?=w.heap[g]?):qa sft κ' w' bb V N X A :=
 B.to (B.bl.1.of (h _ _ B.hd)) (λc b=>(Zf (w:=w) (a:=(O bb c Q)) (h _ _ B.hd)).trans (B.x7 c b)) a λg x d _=>h g x d
theorem qa.mark(B:qa sft κ w bb V N X A)(F:A g=Q\/∃L,A g=J (.mk c k L)/\L<=m)(z:F3 sft w' bb)(C:∀c,c<4->w'.cell? (O bb c Q)=J (V c))(D:F3 sft w' g)(h:∀q x,A q=J x->q≠bb->q≠g->w'.heap[q]?=w.heap[q]?)(H:∀j,j<m->w'.rangeAt g (j*yZ c) (yV c (yM k))):qa sft (rm κ (aj A g (J (.mk c k m)))) w' bb V N X (aj A g (J (.mk c k m))):=by
 have gx:∀ {q x},A q=J x->q=g->∃L,x=.mk c k L/\L<=m:=λ{q x} l e=>by
  grind
 have I:aj A g (J (BkB.mk c k m)) g=J (.mk c k m):=by simp[aj]
 have o:∀ {q},q≠g->aj A g (J (BkB.mk c k m)) q=A q:=λh=>az _ _ h;have s:∀ {q x},A q=J x->x≠.hd->q≠bb:=λ{q x} l t e=>t (by rw[e,B.hd]at l;exact(Ze l).symm);have u:∀ {q d},A q=J (.ls d)->q≠g:=λl e=>by grind
 refine⟨C,λd f=>j5 (B.own d f) λq b=>h q _ (B.ls d q f b) (s (B.ls d q f b) Zc) (u (B.ls d q f b)),?_,λd q f b=>by rw[o (u (B.ls d q f b))];exact B.ls d q f b,λq x b=>⟨by unfold rm;rw[b];rfl,?_⟩,λq d j L b i r=>?_,λd i f r=>?_⟩
 .rw[o λe=>by let⟨L,e,_⟩:=gx B.hd e;cases e];exact B.hd
 .by_cases e:q=g
  .subst e;exact D
  .rw[o e]at b
   by_cases y:q=bb
   .subst y;exact z
   .exact(B.blk q x b).2.of (h q x b y e)
 .by_cases e:q=g
  .grind
  .rw[o e]at b;intro p v E;rw[Zf (w:=w) (h q _ b (s b Zc) e)];exact B.AW q d j L b i r p v E
 .let⟨a,K,P,R,l,t,S,T,W⟩:=B.pc d i f r
  grind
theorem qa.push{a:Option cC}{cp:Nat}(B:qa sft κ w bb V N X A)(t:c<4)(b:w'.ownsRow 0 (yO c) 2 (Sc (J (O g 0 Q)) (N c+1) cap) (N c+1) (X c++[.slice a n cp,vi k]))(F:(V c).ownBlock=J g\/w.heap.size<=g)(H:sft g=0)(I:F3 sft w' bb)(K:∀d,d<4->w'.cell? (O bb d Q)=J (oy V c (Sc (J (O g 0 Q)) (N c+1) cap) d))(h:∀q x,A q=J x->q≠bb->q≠g->w'.heap[q]?=w.heap[q]?)(l:n<=8000000000000/\k<=8000000000000)(W:0<n->∃g L,a=J (O g 0 Q)/\A g=J (.mk c k L)/\n<=L):qa sft (rm κ (aj A g (J (.ls c)))) w' bb (oy V c (Sc (J (O g 0 Q)) (N c+1) cap)) (oy N c (N c+1)) (oy X c (X c++[.slice a n cp,vi k])) (aj A g (J (.ls c))):=by
 have gx:∀ {q x},A q=J x->q=g->x=.ls c:=λ{q x} l e=>by
  subst e;rcases F with e|e
  .rw[B.ls c q t e]at l;exact(Ze l).symm
  .have:=(B.blk _ _ l).2.lt;omega
 have P:aj A g (J (BkB.ls c)) g=J (.ls c):=by simp[aj]
 have s:∀ {q},q≠g->aj A g (J (BkB.ls c)) q=A q:=λh=>az _ _ h;have u:∀ {q x},A q=J x->x≠.hd->q≠bb:=λ{q x} l y e=>y (by rw[e,B.hd]at l;exact(Ze l).symm);have G:∀ {q d k L},A q=J (.mk d k L)->q≠g:=λl e=>by cases gx l e
 have z:∀ {q d},A q=J (.ls d)->d≠c->q≠g:=λl o e=>o (BkB.ls.inj (gx l e));have M:(X c).length=N c*2:=(B.own c t).1;refine⟨K,λd o=>?_,?_,λd q o f=>?_,λq x f=>⟨by unfold rm;rw[f];rfl,?_⟩,λq d j L f i r p v R=>?_,λd i o r=>?_⟩
 .unfold oy;split
  .grind
  .next e=>exact j5 (B.own d o) λq f=>h q _ (B.ls d q o f) (u (B.ls d q o f) Zc) (z (B.ls d q o f) e)
 .rw[s λe=>by cases gx B.hd e];exact B.hd
 .unfold oy at f;split at f
  .next e=>subst e;obtain rfl:g=q:=Ze f;exact P
  .next e=>rw[s (z (B.ls d q o f) e)];exact B.ls d q o f
 .by_cases e:q=g
  .subst e;exact⟨Dj b Z,H⟩
  .rw[s e]at f
   by_cases C:q=bb
   .subst C;exact I
   .exact(B.blk q x f).2.of (h q x f C e)
 .by_cases e:q=g
  .grind
  .rw[s e]at f;rw[Zf (w:=w) (h q _ f (u f Zc) e)];exact B.AW q d j L f i r p v R
 .have D:∀d i,d<4->i<N d->∃a n cap k,(X d)[i*2]?=J (.slice a n cap)/\(X d)[i*2+1]?=J (vi (k:Nat))/\n<=8000000000000/\k<=8000000000000/\(0<n->∃E L,a=J (O E 0 Q)/\aj A g (J (BkB.ls c)) E=J (.mk d k L)/\n<=L):=λd i o r=>by
   let⟨a,S,cp,T,l,y,h3,b',h4⟩:=B.pc d i o r
   grind
  unfold oy at r ⊢;split
  .next e =>
   subst e;rw[nT Z]at r
   by_cases e:i=N d
   .subst e;refine⟨a,n,cp,k,?_,?_,l.1,l.2,λh0=>?_⟩
    .grind
    all_goals grind
   .let⟨a',S,c',T,q1,q2,q3⟩:=D d i o Za
    grind
  .next e=>rw[nR e]at r;exact D d i o r
end
theorem RM{c:Nat}(a:c<4):pH (yS c) (yE c) (yZ c) (yB c):=by
 cases c,(Za:c<4) using ep
 all_goals exact⟨by kernel_rfl,by kernel_rfl⟩
theorem PH{c:Nat}(a:c<4):pH (yL c) (yO c) 2 32:=by
 cases c,(Za:c<4) using ep
 all_goals exact⟨by kernel_rfl,by kernel_rfl⟩
def BD:Nat->mR
 | 0=>Tryz.f85|1=>Tryz.f86|2=>Tryz.f87|_=>Tryz.f55
theorem zL{c:Nat}(a:c<4):J'.funcs[yF c]?=J (BD c):=by
 cases c,(Za:c<4) using ep
 .exact Tryz.func85
 .exact Tryz.func86
 .exact Tryz.func87
 .exact Tryz.func55
def yK1(c:Nat):List bm:=match (BD c).body with
 | some (.seq _ (.seq _ (.seq (.seq _ (.block i (.loop (.seq (.seq x y) z)))) r)))=>[.code y,.code z,.inLoop (.seq (.seq x y) z),.inBlock i,.code r]
 | _=>[]
def OX(c:Nat):List bm:=match (BD c).body with
 | some (.seq _ (.seq _ (.seq _ r)))=>[.code r]
 | _=>[]
def Th(c:Nat):List bm:=match (BD c).body with
 | some (.seq _ (.seq _ (.seq _ (.seq _ (.seq _ (.block i (.loop (.seq (.seq x y) z))))))))=>[.code y,.code z,.inLoop (.seq (.seq x y) z),.inBlock i]
 | _=>[]
def Ga:List Vu->Nat->Mem
 | [],_=>[]
 | v::r,i=>(1,i,.v v)::Ga r (i+1)
abbrev Ek(c:Nat)(V:Nat->Vu)(x:Int):Mem:=[(0,0,.v (V 0)),(0,1,.v (V 1)),(0,2,.v (V 2)),(0,3,.v (V 3))]++Ga (yV c x) 0
abbrev Dv(l:Vu)(k:Nat):m7:=[(0,.c (.p 0 0)),(1,.c (.v l)),(4,.c (ci k)),(5,.c (.p 1 0))]
variable{y:Bool}{b5:Nat}{W:List Nat}{Stop:Gr->Wd->Prop}{C:Fm'}{z:List Fm'}{w1 r u:Wd}{N0:Nat->Nat}{l0:Vu}{j:Nat}{t:Option cC}
section
variable{X:Nat->List Vu}
theorem c5e(hc:c<4)(e':g∈W)(H:g≠bb)(gw:g<w.heap.size)(f':sft g=0)(hn:n<=8000000000000)(h5:w.heap.size<=b5):∀(f i:Nat) (s:db) (w':Wd) (B:Array Vu),i+f=n->w'.heap[g]?=J (.cells B (yE c) (0,0))->n*yZ c<=B.size->(∀j,j<i->w'.rangeAt g (j*yZ c) (yV c (yM k))) ->
  fx sft W 0 w [(bb,0),(b5,0)] (Ek c V (yM k)) 58 (Dv (Sc (J (O g 0 Q)) n cap) k++[(6,.c (ci i)),(19,.c (.v (Bo (decide ((i:Int)<n)))))]) s w' ->
  (∀(s:db) (r:Wd) (I:Array Vu),w'.heap.size<=r.heap.size->(∀q,q<w'.heap.size->q≠g->q≠bb->q≠b5->r.heap[q]?=w'.heap[q]?)->r.heap[g]?=J (.cells I (yE c) (0,0))->I.size=B.size->(∀j,j<n->r.rangeAt g (j*yZ c) (yV c (yM k)))->fx sft W 0 w [(bb,0),(b5,0)] (Ek c V (yM k)) 58 (Dv (Sc (J (O g 0 Q)) n cap) k) s r->iv J' y true sft Stop (G ((base (yF c)).at s (OX c)) (C::z)) r)->iv J' y true sft Stop (G ((base (yF c)).at s (yK1 c)) (C::z)) w':=by
 intro f
 induction f with
 | zero =>
  intro i s w' B hi D hz S M T;obtain rfl:i=n:=by omega
  cases c,(Za:c<4) using ep
  all_goals
   refine oC M Z Zc<|p8 1 2 [] M Z Z nQ λa2 r M2 l=>?_;have x:∀q,q<w'.heap.size->q≠bb->q≠b5->r.heap[q]?=w'.heap[q]?:=λq a b d=>l.old q a λj h=>by
    have h:j<2:=h;obtain rfl|rfl:j=0\/j=1:=by omega
    .exact aA b
    .exact aA d
   have lg:=(Zj D).1;have E:=x g lg H Za;exact T a2 r B l.size (λq a _ b d=>x q a b d) (E.trans D) Z (λj h p v F=>(Zf (w:=w') (a:=(O g _ Q)) E).trans (S j h p v F)) (M2.oV 2 [0,1,4,5] Z Z)
 | succ f ih =>
  intro i s w' B hi D hz S M T;have e1:=C9 (n:=i) Za;have c':(i+1)*yZ c<=n*yZ c:=fQ _ Za;rw[jv]at c';cases c,(Za:c<4) using ep
  all_goals
   refine oF M Z (decide_eq_true Za)<|p8 200 2 [] M Z Z ⟨nQ,by omega⟩ λa2 r M2 l=>?_;have x:∀ {wi wj:Wd},Kq [(bb,0),(b5,0)] wi wj->∀q,q<wi.heap.size->q≠bb->q≠b5->wj.heap[q]?=wi.heap[q]?:=λl q a b d=>l.old q a λj h=>by
    have h:j<2:=h;obtain rfl|rfl:j=0\/j=1:=by omega
    .exact aA b
    .exact aA d
   have lg:=(Zj D).1;have E:=x l g lg H Za;refine TO M2 Z Z Z Z Z Z Z Z Z (E.trans D) f' (.inl e') (λj h=>?_) (λq a=>?_) λu c3 K h3 z3 g' o3 M3=>?_
   .have h:j<2:=h;obtain rfl|rfl:j=0\/j=1:=by omega
    .exact aA H
    .show b5≠g;omega
   .rw[Zf (w:=w') (a:=(O g _ Q)) E];simp only[aD,D];rw[bE (by simp[yZ]at a c' hz ⊢;omega)];rfl
   .refine p8 200 2 [] M3 Z Z nQ λa4 w4 M4 L=>?_;have l3:=(Zj h3).1;have e4:=x L g l3 H Za;have ce:=λo=>Zf (w:=u) (w':=w4) (a:=(O g o Q)) e4;have P:=M4.oV 2 [0,1,4,5,6,19] Z Z;rw[e1]at P;have h':∀q,q<w'.heap.size->q≠g->q≠bb->q≠b5->w4.heap[q]?=w'.heap[q]?:=λq a R b d=>by
     have:=l.size;have:=K.size;rw[x L q Za b d,K.old q Za (by simpa using R),x l q a b d]
    refine ih (i+1) a4 w4 c3 Za (e4.trans h3) Za (λj h p v F=>?_) P λs w5 I l' h5 i' j' k' P=>T s w5 I (by have:=l.size;have:=K.size;have:=L.size;omega) (λq a R b d=>(h5 q (by have:=l.size;have:=K.size;have:=L.size;omega) R b d).trans (h' q a R b d)) i' (j'.trans z3) k' P;rw[ce];have hp:=(bj.1 F).1;rw[CY]at hp
    by_cases e:j=i
    .subst e;have d':=congrArg (Option.map ou.v) F;rw[←bZ]at d';have:=g' p (.v v) d';simpa[yZ,ou.den] using this
    .rw[o3 _ (.inl (by simp only[yZ]at hp ⊢;omega)),Zf (w:=w') (a:=(O g _ Q)) E];exact S j Za p v F
structure Yo (sft κ:Nat->Nat) (w:Wd) (bb b5 c k:Nat) (N0:Nat->Nat) (l0:Vu) (V:Nat->Vu) (N:Nat->Nat) (X:Nat->List Vu) (A:Nat->Option BkB) (l:Vu) (n j:Nat) (w':Wd):Prop where
 b:qa sft (rm κ A) w' bb V N X A
 row:w'.ownsRow 0 (yE c) (yZ c) l n (yR c (yM k) n)
 lb:∀g,l.ownBlock=J g->A g=J (.mk c k n)
 nc:N c=k+j
 nd:∀d,d≠c->N d=N0 d
 old:∀q,q<w.heap.size->(A q).isSome=true->κ q=6\/l0.ownBlock=J q
 xb:A b5=Q/\w.heap.size<=b5
abbrev yW(κ:Nat->Nat)(w:Wd)(l0:Vu):List Nat:=pt κ w.heap.size (λx=>aI x 6)++l0.ownBlock.toList
theorem HR{A a:Nat->Option BkB}(h:∀q,(A q).isSome=true->(a q).isSome=true):rm (rm κ A) a=rm κ a:=by
 funext q;unfold rm
 grind
theorem Yo.wr(b:Yo sft κ w bb b5 c k N0 l0 V N X A (.slice t n cap) n j w1){x:BkB}(h:A a=J x):a∈yW κ w l0\/w.heap.size<=a:=by
 rcases bU a w.heap.size with d|d
 .refine .inl ?_;rcases b.old a d (by rw[h];rfl) with e|e
  .exact fP _ (A9.2 ⟨d,by rw[e];rfl⟩)
  grind
 .exact .inr d
theorem Yo.ne(b:Yo sft κ w bb b5 c k N0 l0 V N X A (.slice t n cap) n j w1){x:BkB}(h:A a=J x)(d:x≠.hd):a≠bb/\a≠b5:=⟨λe=>d (by rw[e,b.b.hd]at h;grind),λe=>by rw[e,b.xb.1]at h;cases h⟩
theorem IB{P:Nat->Prop}(b:P bb)(d:P b5):∀i,i < [(bb,0),(b5,0)].length->P (ox [(bb,0),(b5,0)] i).1:=λi a=>by
 have a:i<2:=a;obtain rfl|rfl:i=0\/i=1:=by omega
 .exact b
 .exact d
theorem Eu(q:Kq [(bb,0),(b5,0)] w1 r){k:Nat}(h:k<w1.heap.size)(a:k≠bb)(b:k≠b5):r.heap[k]?=w1.heap[k]?:=q.old k h (IB (P:=λx=>x≠k) (aA a) (aA b))
theorem Yo.kq(a:Yo sft κ w bb b5 c k N0 l0 V N X A (.slice t n cap) n j w1)(q:Kq [(bb,0),(b5,0)] w1 r)(d:F3 sft r bb)(f:∀c,c<4->r.cell? (O bb c Q)=J (V c)):Yo sft κ w bb b5 c k N0 l0 V N X A (.slice t n cap) n j r :=
 ⟨a.b.to d f (λ_ _ _=>rfl) λg x b h=>Eu q (a.b.blk g x b).2.lt h (λe=>by rw[e,a.xb.1]at b;cases b),j5 a.row λg b=>Eu q (j8 a.row b).2 (a.ne (a.lb g b) Zc).1 (a.ne (a.lb g b) Zc).2,a.lb,a.nc,a.nd,a.old,a.xb⟩
theorem Yo.BB(a:Yo sft κ w bb b5 c k N0 l0 V N X A (.slice t n cap) n j w1)(d:c<4):pn sft (yW κ w l0) w [(bb,0),(b5,0)] 0 (yO c) 2 (V c) (N c) (X c) w1 :=
 ⟨a.b.own c d,λg b=>(a.b.blk g _ (a.b.ls c g d b)).2.2,λg b=>a.wr (a.b.ls c g d b),λg b=>IB (P:=λx=>x≠g) (aA (a.ne (a.b.ls c g d b) Zc).1) (aA (a.ne (a.b.ls c g d b) Zc).2)⟩
theorem Yo.FK(a:Yo sft κ w bb b5 c k N0 l0 V N X A (.slice t n cap) n j w1):pn sft (yW κ w l0) w [(bb,0),(b5,0)] 0 (yE c) (yZ c) (.slice t n cap) n (yR c (yM k) n) w1 :=
 ⟨a.row,λg b=>(a.b.blk g _ (a.lb g b)).2.2,λg b=>a.wr (a.lb g b),λg b=>IB (P:=λx=>x≠g) (aA (a.ne (a.lb g b) Zc).1) (aA (a.ne (a.lb g b) Zc).2)⟩
theorem Yo.push{g cp:Nat}(a:Yo sft κ w bb b5 c k N0 l0 V N X A (.slice t n cap) n j w1)(p:c<4)(K:n<=8000000000000)(L:k<=8000000000000)(v:oh sft (V c).ownBlock.toList w1 r)(f:pn sft (yW κ w l0) w [(bb,0),(b5,0)] 0 (yO c) 2 (Sc (J (O g 0 Q)) (N c+1) cp) (N c+1) (X c++[.slice t n cap,vi k]) r)(l:(V c).ownBlock=J g\/w1.heap.size<=g/\oh sft [] w1 r)(B:Kq [(bb,0),(b5,0)] r u)(R:F3 sft u bb)(S:∀d,d<4->u.cell? (O bb d Q)=J (oy V c (Sc (J (O g 0 Q)) (N c+1) cp) d)) :
  Yo sft κ w bb b5 c k N0 l0 (oy V c (Sc (J (O g 0 Q)) (N c+1) cp)) (oy N c (N c+1)) (oy X c (X c++[.slice t n cap,vi k])) (aj A g (J (.ls c))) (.slice t n cap) n (j+1) u:=by
 have gn:g≠bb/\g≠b5:=⟨aA (f.ne g Z 0 Zc),aA (f.ne g Z 1 Zc)⟩;have T:=(j8 f.row (g:=g) Z).2;have D:∀q,q<w1.heap.size->q≠bb->q≠b5->q≠g->u.heap[q]?=w1.heap[q]?:=λq b i s G=>by
  rw[Eu B (Zg b v.size) i s];rcases l with e|⟨_,e⟩
  .exact v.old q b (by rw[e];simpa using G)
  .exact e.old q b Zc
 have up:∀q,(A q).isSome=true->(aj A g (J (BkB.ls c)) q).isSome=true:=λq b=>by
  by_cases e:q=g
  .subst e;simp[aj]
  .rw[az _ _ e];exact b
 have E:∀ {q x},A q=J x->q=g->x=.ls c:=λ{q x} i e=>by
  subst e;rcases l with e|⟨e,_⟩
  .rw[a.b.ls c q p e]at i;grind
  .have:=(a.b.blk _ _ i).2.lt;omega
 have P:=a.b.push (w':=u) (g:=g) (cap:=cp) (a:=t) (n:=n) (cp:=cap) (k:=k) p (j5 f.row λo M=>by obtain rfl:g=o:=Ze M;exact Eu B T gn.1 gn.2) (l.imp_right (·.1)) (f.sf g Z) R S (λq x b i s=>D q (a.b.blk q x b).2.lt i (λe=>by rw[e,a.xb.1]at b;cases b) s) ⟨K,L⟩ (λh0=>by
  rcases a.row.2 with⟨_,e⟩|⟨o,_,_,e,_⟩
  .omega
  .let⟨e,_,_⟩:=fS e;subst e
   exact⟨o,n,Z,a.lb o Z,af _⟩)
 rw[HR up]at P;refine⟨P,j5 a.row λq b=>?_,λq b=>?_,by simp only[oy,if_true];rw[a.nc];omega,λd F=>by unfold oy;rw[nR F];exact a.nd d F,λq b H=>?_,?_,a.xb.2⟩
 .have I:=a.ne (a.lb q b) Zc;exact D q (j8 a.row b).2 I.1 I.2 λe=>by cases E (a.lb q b) e
 .rw[az _ _ λe=>by cases E (a.lb q b) e];exact a.lb q b
 .by_cases e:q=g
  .subst e;rcases l with e|⟨e,_⟩
   .exact a.old q b (by rw[a.b.ls c q p e];rfl)
   .have:=f.wr q Z;rcases this with h|h
    .rcases cz.1 h with h|h
     .exact .inl (Zl (A9.1 h).2)
     grind
    .omega
  .rw[az _ _ e]at H;exact a.old q b H
 .rw[az _ _ (aA gn.2)];exact a.xb.1
theorem Yo.more{g:Nat}(b:Yo sft κ w bb b5 c k N0 l0 V N X A (.slice t n cap) n j w1)(B:oh sft (dm t n cap).ownBlock.toList w1 r)(l:pn sft (yW κ w l0) w [(bb,0),(b5,0)] 0 (yE c) (yZ c) (Sc (J (O g 0 Q)) (n+1) a) (n+1) (yR c (yM k) (n+1)) r)(o:(dm t n cap).ownBlock=J g\/w1.heap.size<=g/\oh sft [] w1 r)(D:F3 sft r bb)(E:∀d,d<4->r.cell? (O bb d Q)=J (V d)) :
  Yo sft κ w bb b5 c k N0 l0 V N X (aj A g (J (.mk c k (n+1)))) (Sc (J (O g 0 Q)) (n+1) a) (n+1) j r:=by
 have gn:g≠bb/\g≠b5:=⟨aA (l.ne g Z 0 Zc),aA (l.ne g Z 1 Zc)⟩;have F:∀q,q<w1.heap.size->q≠g->r.heap[q]?=w1.heap[q]?:=λq f H=>by
  rcases o with e|⟨_,e⟩
  .exact B.old q f (by rw[e];simpa using H)
  .exact e.old q f Zc
 have up:∀q,(A q).isSome=true->(aj A g (J (BkB.mk c k (n+1))) q).isSome=true:=λq f=>by
  by_cases e:q=g
  .subst e;simp[aj]
  .rw[az _ _ e];exact f
 have P:=b.b.mark (w':=r) (g:=g) (c:=c) (k:=k) (m:=n+1) (by
  rcases o with e|⟨e,_⟩
  .exact .inr ⟨n,b.lb g e,by omega⟩
  .cases h:A g with
   | none=>exact .inl Z
   | some x=>have:=(b.b.blk g x h).2.lt;omega) D E ⟨Dj l.row Z,l.sf g Z⟩ (λq x f _ I=>F q (b.b.blk q x f).2.lt I) (λi K p v L=>by
  have:=l.row.cells (g:=g) Z _ _ (Fu c (yM k) K L);rw[eO,aE]at this
  exact this)
 rw[HR up]at P;refine⟨P,l.row,λq f=>by obtain rfl:g=q:=Ze f;simp[aj],b.nc,b.nd,λq f s=>?_,?_,b.xb.2⟩
 .by_cases e:q=g
  .subst e;rcases l.wr q rfl with h|h
   .rcases cz.1 h with h|h
    .exact .inl (Zl (A9.1 h).2)
    grind
   .omega
  .rw[az _ _ e]at s;exact b.old q f s
 .rw[az _ _ (aA gn.2)];exact b.xb.1
end
section
variable{X:Nat->List Vu}
theorem fx.vQ{d:oN}{m f:Mem}(M:fx sft W a w d m b D p w')(n:Nat)(o:n=d.length)(i:so n m (f.map λe=>(e.1,e.2.1))=J f):fx sft W a w d f b D p w':=M.fewer (λ_ h=>h) λe l=>(AE i e l).1
theorem fx.alike{ρ:oN}(h:oN){m d:Mem}{f:m7}(M:fx sft W a w (ρ++h) m b D p w')(n:Nat)(i:n=ρ.length)(l:vx n D (f.map (·.1))=J f)(o:so n m (d.map λe=>(e.1,e.2.1))=J d):fx sft W a w ρ d b f p w':=M.pC n _ _ i l o
theorem uI{m:Mem}(M:fx sft W 0 w [(bb,0),(b5,0)] m 58 D p w'):F3 sft w' bb:=M.bl 0 Zc
theorem vw{m:Mem}(M:fx sft W 0 w [(bb,0),(b5,0)] m 58 D p w')(a:rf m 0 0=J (.v (V 0)))(b:rf m 0 1=J (.v (V 1)))(e:rf m 0 2=J (.v (V 2)))(f:rf m 0 3=J (.v (V 3))):∀d,d<4->w'.cell? (O bb d Q)=J (V d):=λd i=>by
 have h:∀d,rf m 0 d=J (.v (V d))->w'.cell? (O bb d Q)=J (V d):=λd h=>by have:=M.ld 0 d h;simpa[ox,ou.den] using this
 grind
theorem Tb(d:c<4)(hk:k<=7036874417564):∀(f i:Nat) (n cap:Nat) (t:Option cC) (V:Nat->Vu) (N:Nat->Nat) (X:Nat->List Vu) (A:Nat->Option BkB) (e:db) (w':Wd),i+f=3->n+f<=7036874417568->(∀j,j<f->aT (n+j+1) (n+j)*yB c<=281474976710656)->Yo sft κ w bb b5 c k N0 l0 V N X A (.slice t n cap) n (i+1) w' ->
  fx sft (yW κ w l0) 0 w [(bb,0),(b5,0)] (Ek c V (yM k)) 58 (Dv (.slice t n cap) k++[(7,.c (ci i)),(39,.c (.v (Bo (decide ((i:Int)<3)))))]) e w' ->
  (∀V N X A l n w',Yo sft κ w bb b5 c k N0 l0 V N X A l n 4 w'->oh sft (yW κ w l0) w w'->iv J' y true sft Stop (G (C.finish (.tuple #[])) z) w')->iv J' y true sft Stop (G ((base (yF c)).at e (Th c)) (C::z)) w':=by
 intro f
 induction f with
 | zero =>
  intro i n cap t V N X A e w' D E s a M h;obtain rfl:i=3:=by omega
  cases c,(Za:c<4) using ep
  all_goals
   refine oC M Z Zc<|p8 200 2 [] M Z Z nQ λF r b H=>Cr b (zL d) Z Z Z<|h _ _ _ _ _ _ r (a.kq H (uI b) (vw b Z Z Z Z)) b.hJ
 | succ f I =>
  intro i n cap t V N X A e w' D E s a M h;have K:=C9 (n:=i) Za;have L:=s 0 Za;have P:aT (N c+1) (N c)*32<=281474976710656:=DG (by rw[a.nc];omega) Za;have hN:=a.nc;cases c,(Za:c<4) using ep
  all_goals
   refine oF M Z (decide_eq_true Za)<|p8 200 2 [] M Z Z nQ λa1 w1 o R=>?_;have v:=a.kq R (uI o) (vw o Z Z Z Z);refine AP (RM d) o v.FK (bh _) Za L Z Z Z Z Z Z Z Z Z Z Z Z Z λF r g S c' T b hp O2 og=>?_;cases Ze hp;have Y2:=v.more T (by rw[Iw];exact O2) og (uI b) (vw b Z Z Z Z);refine p8 200 2 [] b Z Z nQ λa3 u p q3=>?_;have x:=Y2.kq q3 (uI p) (vw p Z Z Z Z);refine AP (PH d) p (x.BB d) (bh _) Za P Z Z Z Z Z Z Z Z Z Z Z Z Z λa4 w4 g4 d' e' L4 M4 a' O4 b'=>?_;cases Ze a';refine p8 200 2 [] M4 Z Z nQ λa5 w5 q q5=>?_;have B:=q.oV 2 [0,1,4,5,7,39] Z Z;rw[K]at B;have Y5:=x.push d Za Za L4 O4 b' q5 (uI q) (vw q Z Z Z Z);refine I (i+1) (n+1) S _ _ _ _ _ a5 w5 Za Za (λj hj=>?_) Y5 (B.vQ 2 Z Z) h
   grind
theorem Nh(b:c<4)(h:k<=7036874417564)(K:n+3<=7036874417568)(i:∀j,j<3->aT (n+j+1) (n+j)*yB c<=281474976710656)(a:Yo sft κ w bb b5 c k N0 l0 V N X A (.slice t n cap) n 0 w')(M:fx sft (yW κ w l0) 0 w [(bb,0),(b5,0)] (Ek c V (yM k)) 58 (Dv (.slice t n cap) k) p w')(o:∀V N X A l n w',Yo sft κ w bb b5 c k N0 l0 V N X A l n 4 w'->oh sft (yW κ w l0) w w'->iv J' y true sft Stop (G (C.finish (.tuple #[])) z) w'):iv J' y true sft Stop (G ((base (yF c)).at p (OX c)) (C::z)) w':=by
 have L:=a.nc;have q:aT (N c+1) (N c)*32<=281474976710656:=DG Za Za;cases c,(Za:c<4) using ep
 all_goals
  refine p8 200 2 [] M Z Z nQ λP u d s=>?_;have f:=a.kq s (uI d) (vw d Z Z Z Z);refine AP (PH b) d (f.BB b) (bh _) Za q Z Z Z Z Z Z Z Z Z Z Z Z Z λR S T a' b' v x B D E=>?_;cases Ze B;refine p8 200 2 [] x Z Z nQ λF H e I=>Tb b h 3 0 n cap t _ _ _ _ F H Z Za i (f.push b Za Za v D E I (uI e) (vw e Z Z Z Z)) ((e.oV 2 [0,1,4,5,7,39] Z Z).vQ 2 Z Z) o
theorem TZ(i:w.heap[g]?=J (.cells v (yE c) (0,0)))(x:n*yZ c<=v.size)(l:∀j,j<n->w.rangeAt g (j*yZ c) (yV c f)):v.toList.take (n*yZ c)=yR c f n:=by
 apply jV;intro q;have o:=d0m c;rcases bU q (n*yZ c) with h|h
 .have a:q / yZ c<n:=Nat.div_lt_of_lt_mul (by grind);have p:q%yZ c<yZ c:=Nat.mod_lt _ o;have b:(yV c f)[q%yZ c]?=J ((yV c f)[q%yZ c]'(by rw[CY];exact p)):=br _;have d:=l _ a _ _ b;have s:=Fu c f a b;have e:q / yZ c*yZ c+q%yZ c=q:=by rw[Nat.mul_comm];exact Nat.div_add_mod q _
  rw[e]at d s;simp only[aD,i]at d
  grind
 .rw[fh (by simp;omega),fh (by rw[yr];exact h)]
theorem Pb(I:c<4)(B:qa sft κ w bb V N X A)(j':Fit sft w)(k':∀k,w.heap.size<=k->sft k=0)(hl:w.ownsRow 0 (yE c) (yZ c) (.slice t n cap) n x)(l':∀g,(dm t n cap).ownBlock=J g->sft g=0/\A g=Q)(hN:N c<=7036874417564)(hn:n+3<=7036874417568)(g':∀j,j<3->aT (n+j+1) (n+j)*yB c<=281474976710656) :
  py y sft (yF c) #[Po (J (O bb 0 Q)),.slice t n cap] w λf w'=>f=.tuple #[]/\oh sft (yW κ w (.slice t n cap)) w w'/\∃G D X' E,qa sft (rm κ E) w' bb G D X' E/\D c=N c+4/\(∀d,d≠c->D d=N d)/\∀q,q<w.heap.size->(E q).isSome=true->κ q=6\/(dm t n cap).ownBlock=J q:=by
 obtain⟨K,R,o⟩:∃(K:Nat->Option cC) (R:Nat->Nat),∀c,c<4->V c=.slice (K c) (N c) (R c):=⟨λc=>match V c with|.slice a _ _=>a|_=>Q,λc=>match V c with|.slice _ _ p=>p|_=>0,λc I=>by
  let⟨a,p,e⟩:=B.form I
  simp only[e]⟩
 have kA:rm κ A=κ:=by
  funext q;unfold rm;split
  .next h=>let⟨f,S⟩:=cL.1 h;exact(B.blk q f S).1.symm
  .rfl
 have m':∀q,(A q).isSome=true->κ q=6:=λq h=>by let⟨f,S⟩:=cL.1 h;exact(B.blk q f S).1
 have n':=B.bl.1.lt;refine y7 (f:=yF c) (sz:=58) (ρ:=[(bb,0)]) (ro:=0) (W:=yW κ w (.slice t n cap)) (m:=[(0,0,.v (.slice (K 0) (N 0) (R 0))),(0,1,.v (.slice (K 1) (N 1) (R 1))),(0,2,.v (.slice (K 2) (N 2) (R 2))),(0,3,.v (.slice (K 3) (N 3) (R 3)))]) [.c (.p 0 0),.c (.v (.slice t n cap))] ⟨λe he=>?_,λi hi=>?_,λi j hi hj h'=>?_,λi _ hi=>?_,j',k'⟩ (λs hs=>?_) (zL I) (c:=((BD c).body).getD .skip) ?_ ?_ Z λStop C z o' M S=>?_
 .simp only[ae,ai,or_false]at he;rcases he with rfl|rfl|rfl|rfl<;>refine⟨cG,nQ,?_⟩
  .exact(B.x7 0 Za).trans (by rw[o 0 Za];rfl)
  .exact(B.x7 1 Za).trans (by rw[o 1 Za];rfl)
  .exact(B.x7 2 Za).trans (by rw[o 2 Za];rfl)
  .exact(B.x7 3 Za).trans (by rw[o 3 Za];rfl)
 .obtain rfl:i=0:=Zm hi;exact B.bl.1
 .grind
 .obtain rfl:i=0:=Zm hi;exact fP _ (A9.2 ⟨n',by show aI (κ bb) 6=true;rw[B.bl.2];rfl⟩)
 .simp only[ae,ai,or_false]at hs;rcases hs with rfl|rfl<;>first|trivial|exact cG
 .cases c,(Za:c<4) using ep
  all_goals rfl
 .cases c,(Za:c<4) using ep
  all_goals rfl
 have q':aT (N c+1) (N c)*32<=281474976710656:=DG Za Za;have e0:=o 0 Za;have e1:=o 1 Za;have e2:=o 2 Za;have e3:=o 3 Za;cases c,(Za:c<4) using ep
 all_goals
  refine Bg 200 1 [] M Z Z Z nQ λa1 w1 b5 v q1 f1=>?_;have v:=v.oV 2 [0,1,4,5,6,19] Z Z;simp only[←e0,←e1,←e2,←e3]at v;have o1:∀q,q<w.heap.size->q≠bb->w1.heap[q]?=w.heap[q]?:=λq F h=>q1.old q F λj hj=>by obtain rfl:j=0:=Zm hj;exact aA h
  have n5:A b5=none:=by
   cases h:A b5 with
   | none=>rfl
   | some f=>have:=(B.blk _ _ h).2.lt;omega
  have B1:=B.to (κ':=rm κ A) (uI v) (vw v Z Z Z Z) (λg f _=>by rw[kA]) λg f T h'=>o1 g (B.blk g f T).2.lt h';rcases hl.2 with⟨e,rfl⟩|⟨g,cp,cur,e,_,T,hnc,hcm,hcs,_⟩
  .obtain⟨rfl,_,rfl⟩:=fS e;refine oC v Z Zc<|p8 1 2 [] v Z Z nQ λa2 r H q2=>Nh I hN hn g' (Yo.kq (w1:=w1) ⟨B1,dh _ _ _ _,λg T=>(by cases T),Z,λ_ _=>rfl,λq _ h=>.inl (m' q h),n5,f1⟩ q2 (uI H) (vw H Z Z Z Z)) ((H.oV 2 [0,1,4,5] Z Z).vQ 2 Z Z) λG D X' E l n w' b L=>S _ _ ⟨Z,L,G,D,X',E,b.b,b.nc,b.nd,b.old⟩
  .obtain⟨rfl,_,rfl⟩:=fS e;let⟨sg,gA⟩:=l' g Z;have gb:g≠bb:=λe=>by rw[e,B.hd]at gA;cases gA
   have i':=(Zj T).1;have hz:=Zh (fQ _ hnc) (fJ hcs.symm);refine c5e I (cN _ (cD.2 Z)) gb i' sg Za f1 n 0 a1 w1 cur Za ((o1 g i' gb).trans T) hz (λj hj=>absurd hj (iE j)) (v.vQ 2 Z Z) λo' r p' z2 o2 f' s2 m2 H=>?_;have P:=B1.mark (w':=r) (g:=g) (m:=n) (.inl gA) (uI H) (vw H Z Z Z Z) ⟨⟨_,_,f'⟩,sg⟩ (λq f F h1 h2=>o2 q (B1.blk q f F).2.lt h2 h1 λe=>by grind) m2
   rw[HR λq F=>by
    by_cases e:q=g
    .grind
    .rw[az _ _ e];exact F]at P
   refine Nh (l0:=Sc (J (O g 0 Q)) n cap) I hN hn g' ⟨P,⟨yr _ _ _,.inr ⟨g,cap,p',Z,bh _,f',hnc,hcm,by rw[s2,hcs],TZ f' (by rw[s2];exact hz) m2⟩⟩,λq F=>?_,Z,λ_ _=>rfl,λq _ h=>?_,?_,f1⟩ H λG D X' E l n w' b L=>S _ _ ⟨Z,L,G,D,X',E,b.b,b.nc,b.nd,b.old⟩
   .obtain rfl:g=q:=Ze F;simp[aj]
   .by_cases e:q=g
    .subst e;exact .inr Z
    .rw[az _ _ e]at h;grind
   .rw[az _ _ Za];exact n5
end
end
section
attribute [local go_sem ↓] Go.wp_at_zero Go.wp_at_succ
theorem c8s(c:∀j,j<3->W6 v j)(d:∀j,j<3->W6 w j):qY V (a+2) 27 (.agg v) (.agg w):=by
 refine Z5 Zd Zd ?_;have e:(V.fieldsOf 27).toList.map (λf=>(f.name != "_",f.type,f.offset))=[(true,3,0),(true,3,1),(true,3,2)]:=by kernel_rfl
 intro f g;have b:=dE (f:=λf:Field=>(f.name != "_",f.type,f.offset)) g;rw[e]at b;generalize h:(f.name != "_")=n at b;generalize f.type=i at *;generalize f.offset=k at *;simp at b;rcases b with⟨rfl,rfl,rfl⟩|⟨rfl,rfl,rfl⟩|⟨rfl,rfl,rfl⟩
 all_goals exact⟨by simpa using h,X0 (c _ Za) (d _ Za)⟩
theorem b7W(e:W6 v b)(f:W6 w b):∃c d,Pt V 45 v b c/\Pt V 45 w b d/\qY V (a+1) 45 c d:=by
 let⟨g,h⟩:=e;let⟨u,i⟩:=f;exact⟨_,_,sQ Tryz.isAgg45 h,sQ Tryz.isAgg45 i,LR (k:=.i64) Tryz.underlying45 g u⟩
theorem Vf{d:Nat}(b:∀j,j<5->W6 v j)(c:∀j,j<5->W6 w j):qY V (d+3) 92 (.agg v) (.agg w):=by
 refine Z5 Zd Zd ?_;have e:(V.fieldsOf 92).toList.map (λf=>(f.name != "_",f.type,f.offset))=[(true,27,0),(true,45,3),(true,3,4)]:=by kernel_rfl
 intro f h;have a:=dE (f:=λf:Field=>(f.name != "_",f.type,f.offset)) h;rw[e]at a;generalize g:(f.name != "_")=n at a;generalize f.type=k at *;generalize f.offset=l at *;simp at a;rcases a with⟨rfl,rfl,rfl⟩|⟨rfl,rfl,rfl⟩|⟨rfl,rfl,rfl⟩
 .exact⟨by simpa using g,_,_,tS Tryz.isAgg27 Tryz.sizeOf27,tS Tryz.isAgg27 Tryz.sizeOf27,c8s (λj i=>W6.cut (a:=0) (by rw[aE];exact b j Za) Za) λj i=>W6.cut (a:=0) (by rw[aE];exact c j Za) Za⟩
 .exact⟨by simpa using g,b7W (b _ Za) (c _ Za)⟩
 .exact⟨by simpa using g,X0 (b _ Za) (c _ Za)⟩
end
section
open Go.Conc
def BR(c:Nat)(a:List Vu):Prop:=match c with
 | 0=>∀j,j<6->W6 a.toArray j
 | 1=>sC a.toArray
 | _=>∀j,j<5->W6 a.toArray j
theorem WO(a:c<4)(h:BR c x):KE (yE c) x x true:=by
 let⟨r,b,e⟩:=c9A (t:=yE c) (a:=x) (b:=x) (by
  cases c,(Za:c<4) using ep
  .exact WN (d:=9997) h h
  .exact Zp (d:=9996) h h
  .exact Xd (d:=9998) h h
  .exact Vf (d:=9997) h h)
 grind
theorem UM(d:a<4)(x:Int):BR a (yV a x):=by
 cases a,(Za:a<4) using ep
 .exact λj b=>by match j,b with|0,_|1,_|2,_|3,_|4,_|5,_=>exact⟨_,Z⟩
 .refine⟨⟨_,Z⟩,⟨_,Z⟩,⟨_,Z⟩,λi c=>?_,λi c=>?_,⟨_,Z⟩⟩<;>match i,c with|0,_|1,_|2,_|3,_=>exact⟨⟨_,Z⟩,⟨_,Z⟩⟩
 .exact λj b=>by match j,b with|0,_|1,_|2,_|3,_|4,_=>exact⟨_,Z⟩
 .exact λj b=>by match j,b with|0,_|1,_|2,_|3,_|4,_=>exact⟨_,Z⟩
theorem Oh{o:aN}(c:a<4){b y:aU}(d:o.op=.binOp .neq (yE a) b y (yE a))(e:p.eval b=.agg x.toArray)(f:p.eval y=.agg x.toArray)(h:BR a x):(Ex p.eval o).run V k=.ok (.value (Bo false)) k:=by
 have g:=WO c h k
 have i:=run_eqGuard_agg (P:=V) (w:=k) .neq (yE a) b y x.toArray x.toArray (by
  cases a,(Za:a<4) using ep
  all_goals kernel_rfl)
 unfold Ex
 simp_all
def FE(c:Nat):jx:=match Tryz.f10.body with
 | some (.seq _ (.seq l0 (.seq l1 (.seq l2 (.seq l3 r)))))=>match c with|0=>l0|1=>l1|2=>l2|_=>l3
 | _=>.skip
def Aj(c:Nat):jx:=match Tryz.f10.body with
 | some (.seq _ (.seq l0 (.seq l1 (.seq l2 (.seq l3 r)))))=>match c with|0=>.seq l1 (.seq l2 (.seq l3 r))|1=>.seq l2 (.seq l3 r)|2=>.seq l3 r|_=>r
 | _=>.skip
def Pj(c:Nat):List bm:=match FE c with
 | .seq _ (.block b (.loop (.seq (.seq x y) z)))=>[.code y,.code z,.inLoop (.seq (.seq x y) z),.inBlock b,.code (Aj c)]
 | _=>[]
def YC(c:Nat):List bm:=match FE c with
 | .seq _ (.block b (.loop (.seq xy (.seq (.block b1 (.seq r4 (.seq r5 (.block b2 (.loop (.seq (.seq x2 y2) z2)))))) r3))))=>[.code y2,.code z2,.inLoop (.seq (.seq x2 y2) z2),.inBlock b2,.inBlock b1,.code r3,.inLoop (.seq xy (.seq (.block b1 (.seq r4 (.seq r5 (.block b2 (.loop (.seq (.seq x2 y2) z2)))))) r3)),.inBlock b,.code (Aj c)]
 | _=>[]
abbrev Gm(h:∀j,j<b->k.rangeAt a (j*c) x):List dQ:=x
abbrev Ey(c a m b:Nat):Mem:=[(0,c,.v (Sc (J (O a 0 Q)) m b))]
abbrev NB(c i m:Nat):m7:=[(0,.c (.p 0 0)),(3+3*c,.c (ci i)),(21+45*c,.c (.v (Bo (decide ((i:Int)<m)))))]
variable{sft u:Nat->Nat}{w p:Wd}{main:Bool}{bb b4:Nat}{t:Nat->Vu}{N:Nat->Nat}{A:Nat->Option BkB}{c k n m g gl cp q i:Nat}{a:Option cC}{Stop:Gr->Wd->Prop}{fr:Fm'}{cs:List Fm'}
section
variable{X:Nat->List Vu}
theorem UB(C:c<4)(hm:m<=8000000000000)(hi:i<m)(D:n<=8000000000000)(E:gl<w.heap.size)(F:w.cell? (O gl (i*2) Q)=J (.slice a n q))(T:0<n->∃g,a=J (O g 0 Q)/\g<w.heap.size/\∀j,j<n->w.rangeAt g (j*yZ c) (yV c (yM k))):∀(f j:Nat) (b:db) (p:Wd),j+f=n ->
  fx sft [] 1 w [(bb,0),(b4,0)] (Ey c gl m cp++Ga (yV c (yM k)) 0) 195 [(0,.c (.p 0 0)),(3+3*c,.c (ci i)),(4+3*c,.c (.p 1 0)),(5+3*c,.c (ci j)),(44+45*c,.c (.v (Bo (decide ((j:Int)<n)))))] b p ->
  (∀b p,fx sft [] 1 w [(bb,0)] (Ey c gl m cp) 195 (NB c (i+1) m) b p->iv V main true sft Stop (G ((base 10).at b (Pj c)) (fr::cs)) p)->iv V main true sft Stop (G ((base 10).at b (YC c)) (fr::cs)) p:=by
 intro f
 induction f with
 | zero =>
  intro j b p W M x;obtain rfl:j=n:=by omega
  have y:=C9 (n:=i) Za;cases c,(Za:c<4) using ep
  all_goals
   refine oC M Z Zc<|iN 200 2 [] M Z Z nQ λH z l=>?_;rw[y]at l;exact x H z (fx.alike (ρ:=[(bb,0)]) [(b4,0)] l 1 Z Z Z)
 | succ f ih =>
  intro j b p W M x;have y:=C9 (n:=j) Za;obtain⟨g,rfl,hg,v⟩:=T Za;cases c,(Za:c<4) using ep
  all_goals
   refine oF M Z (decide_eq_true Za)<|iN 200 2 [] M Z Z nQ λH z l=>vz [(12,J (.c (.v (Bo false))))] [[Sc (J (O g 0 Q)) n q],Gm v] false (λs B d' p=>d'=[(bb,0),(b4,0)]/\p=z) l Z (λ_=>rfl) (λ_=>rfl) Z Zd ?_ (λs B I p a' _ r h1 h2=>?_) ⟨Z,Z⟩ (λs j' g' K B o a' p I h' L r Ma P D=>?_) λB I a3 w3 r e' f'=>?_
   .exact⟨⟨⟨⟨nQ,by omega⟩,⟨E,by simp,by simpa using F⟩⟩,by omega⟩,⟨hg,by simp,by simpa[yZ] using v j Za⟩⟩
   .obtain⟨e,rfl⟩:=r;cases Zk e;exact l.bare h1 h2
   .obtain⟨e,rfl⟩:=r;cases Zk e
    cases s with
    | succ s=>simp at K
    | zero =>
     obtain⟨rfl,rfl⟩:=ax (Ze K);cases Ze L;refine xm L Z (by show aX≠.early;decide) Zd (λd=>Oh C Z (P _ (.g ((Gm v).map .v)) Z) (P _ (.g ((Gm v).map .v)) Z) (UM C (yM k)))<|D [] p (J (.c (.v (Bo false)))) ⟨by simp,Z⟩ (.inr Z) λsv h=>by cases Ze h;trivial
   .obtain⟨e,rfl⟩:=r;cases Zk e;have M3:=l.re e' f';refine iN 1 2 [] M3 Z Z nQ λa4 w4 R=>oC R Z Z<|iN 200 2 [[Sc (J (O g 0 Q)) n q]] R Z Z ⟨⟨nQ,by omega⟩,⟨E,by simp,by simpa using F⟩⟩ λa5 w5 S=>?_;rw[y]at S;exact ih (j+1) a5 w5 Za (fx.alike (ρ:=[(bb,0),(b4,0)]) [] S 2 Z Z Z) x
theorem c4M(s:c<4)(v:m<=8000000000000)(h:gl<w.heap.size)(x:∀i,i<m->∃a n q k,w.cell? (O gl (i*2) Q)=J (.slice a n q)/\w.cell? (O gl (i*2+1) Q)=J (vi (k:Nat))/\n<=8000000000000/\(0<n->∃g,a=J (O g 0 Q)/\g<w.heap.size/\∀j,j<n->w.rangeAt g (j*yZ c) (yV c (yM k)))):∀(f i:Nat) (b:db) (p:Wd),i+f=m->fx sft [] 1 w [(bb,0)] (Ey c gl m cp) 195 (NB c i m) b p ->
  (∀b p,fx sft [] 1 w [(bb,0)] [] 195 [(0,.c (.p 0 0))] b p->iv V main true sft Stop (G ((base 10).at b [.code (Aj c)]) (fr::cs)) p)->iv V main true sft Stop (G ((base 10).at b (Pj c)) (fr::cs)) p:=by
 intro f
 induction f with
 | zero =>
  intro i b p y M l;obtain rfl:i=m:=by omega
  cases c,(Za:c<4) using ep
  all_goals
   refine oC M Z Zc<|iN 1 1 [] M Z Z nQ λd e o=>l d e (fx.alike (ρ:=[(bb,0)]) [] o 1 Z Z Z)
 | succ f z =>
  intro i b p y M l;let⟨a,n,q,k,r,B,C,D⟩:=x i Za;have E:=λb4 d e=>UB (main:=main) (Stop:=Stop) (fr:=fr) (cs:=cs) (sft:=sft) (bb:=bb) (b4:=b4) (cp:=cp) s v (show i<m by omega) C h r D n 0 d e Za;cases c,(Za:c<4) using ep
  all_goals
   refine oF M Z (decide_eq_true Za)<|sq 200 1 [[vi k],[.slice a n q]] M Z Z ⟨⟨⟨⟨nQ,by omega⟩,⟨h,by simp,by simpa using B⟩⟩,by omega⟩,⟨h,by simp,by simpa using r⟩⟩ λd e b4 o=>E b4 d e (fx.alike (ρ:=[(bb,0),(b4,0)]) [] o 2 Z Z Z) λF H I=>z (i+1) F H Za I l
theorem DT(b:c<4)(B:qa sft u w bb t N X A)(z:N c<=8000000000000){d:db}(M:fx sft [] 1 w [(bb,0)] [] 195 [(0,.c (.p 0 0))] d p)(x:∀d p,fx sft [] 1 w [(bb,0)] [] 195 [(0,.c (.p 0 0))] d p->iv V main true sft Stop (G ((base 10).at d [.code (Aj c)]) (fr::cs)) p):iv V main true sft Stop (G ((base 10).at d [.code (FE c),.code (Aj c)]) (fr::cs)) p:=by
 have f:p.cell? (O bb c Q)=J (t c):=(Zf (w:=w) (a:=(O bb c Q)) (M.old _ B.bl.1.lt Zc)).trans (B.x7 c b);rcases(B.own c b).2 with⟨e,e0⟩|⟨gl,cp,b',e,_,C,c',d',e',ht⟩
 .rw[e]at f;have r:=M.xH (m':=[(0,c,.v (Sc Q 0 0))]) λe s=>.inr (by cases Zi s;exact⟨cG,nQ,by simpa[ox,ou.den] using f⟩);cases c,(Za:c<4) using ep
  all_goals
   refine iN 200 1 [] r Z Z nQ λh l o=>oC o Z Zc<|iN 1 1 [] o Z Z nQ λD E F=>x D E (fx.alike (ρ:=[(bb,0)]) [] F 1 Z Z Z)
 .rw[e]at f;have H:=(Zj C).1;have r:=M.xH (m':=Ey c gl (N c) cp) λe s=>.inr (by cases Zi s;exact⟨cG,nQ,by simpa[ox,ou.den] using f⟩);have v:=B.own c b;rw[e]at v
  have I:=λh l=>c4M (main:=main) (Stop:=Stop) (fr:=fr) (cs:=cs) (sft:=sft) (w:=w) (bb:=bb) (cp:=cp) (gl:=gl) b z H (λi K=>by
   let⟨a,n,q,k,P,R,S,_,T⟩:=B.pc c i b K;refine⟨a,n,q,k,by rw[v.cellAt (i*2) Za];exact P,by rw[v.cellAt (i*2+1) Za];exact R,S,λW=>?_⟩;let⟨g,L,x1,y,x3⟩:=T W
   exact⟨g,x1,(B.blk g _ y).2.lt,λj hj=>B.AW g c k L y j Za⟩) (N c) 0 h l Za
  cases c,(Za:c<4) using ep
  all_goals
   refine iN 200 1 [] r Z Z nQ λh l o=>I h l (fx.alike (ρ:=[(bb,0)]) [] o 1 Z Z Z) x
theorem KG(B:qa sft u w bb t N X A)(z:Fit sft w)(C:∀k,w.heap.size<=k->sft k=0)(f:∀c,c<4->N c<=8000000000000):py main sft 10 #[Po (J (O bb 0 Q))] w λx p=>x=Bo true/\oh sft [] w p:=by
 refine y7 (sz:=195) (ρ:=[(bb,0)]) (ro:=1) (W:=[]) (m:=[]) [.c (.p 0 0)] ⟨λe D=>(by cases D),λi v=>?_,λi j v H I=>?_,λi K L=>?_,z,C⟩ (λs E=>?_) jO Z Z Z λStop fr cs P M F=>?_
 .obtain rfl:i=0:=Zm v;exact B.bl.1
 .grind
 .grind
 .cases Zi E;exact cG
 refine iN 5 1 [] M Z Z nQ λh l b=>DT (c:=0) Za B (f 0 Za) (fx.alike (ρ:=[(bb,0)]) [] b 1 Z Z Z) λo r d=>iN 1 1 [] d Z Z nQ λh l b=>DT (c:=1) Za B (f 1 Za) b λo r d=>iN 1 1 [] d Z Z nQ λh l b=>DT (c:=2) Za B (f 2 Za) b λo r d=>iN 1 1 [] d Z Z nQ λh l b=>DT (c:=3) Za B (f 3 Za) b λo r d=>iN 200 1 [] d Z Z nQ λR S y=>B3 y jO Z Z Z<|F _ _ ⟨Z,y.hJ⟩
end
def Bj:Nat->Nat
 | 0=>82|1=>83|2=>84|_=>54
def Cu:Nat->mR
 | 0=>Tryz.f82|1=>Tryz.f83|2=>Tryz.f84|_=>Tryz.f54
theorem xR{c:Nat}(b:c<4):V.funcs[Bj c]?=J (Cu c):=by
 cases c,(Za:c<4) using ep
 .exact Tryz.func82
 .exact Tryz.func83
 .exact Tryz.func84
 .exact Tryz.func54
def smK(c:Nat):List bm:=match (Cu c).body with
 | some (.seq _ (.seq _ (.seq (.seq _ (.block b (.loop (.seq (.seq x y) z)))) r)))=>[.code y,.code z,.inLoop (.seq (.seq x y) z),.inBlock b,.code r]
 | _=>[]
def Re(c:Nat):List bm:=match (Cu c).body with
 | some (.seq _ (.seq _ (.seq _ r)))=>[.code r]
 | _=>[]
variable{ca cb:Nat}{b a:Option cC}{F:Nat->Vu}
def wo(w:Wd)(c n:Nat)(b a:Option cC)(F:Nat->Vu):Prop:=0<n->∃g h,b=J (O g 0 Q)/\a=J (O h 0 Q)/\g<w.heap.size/\h<w.heap.size/\∀j,j<n->BR c (cut F (j*yZ c) (yZ c))/\w.rangeAt g (j*yZ c) (cut F (j*yZ c) (yZ c))/\w.rangeAt h (j*yZ c) (cut F (j*yZ c) (yZ c))
abbrev CU{w:Wd}{g:Nat}(h:w.rangeAt g d x):List dQ:=x
theorem QU(P:c<4)(B:n<=8000000000000)(R:wo w c n b a F):∀(f i:Nat) (j:db) (p:Wd),i+f=n->fx sft [] 0 w [] [] 26 [(0,.c (.v (.slice b n ca))),(1,.c (.v (.slice a n cb))),(5,.c (ci i)),(14,.c (.v (Bo (decide ((i:Int)<n)))))] j p ->
  (∀j p,fx sft [] 0 w [] [] 26 [] j p->iv V main true sft Stop (G ((base (Bj c)).at j (Re c)) (fr::cs)) p)->iv V main true sft Stop (G ((base (Bj c)).at j (smK c)) (fr::cs)) p:=by
 intro f
 induction f with
 | zero =>
  intro i j p S M x;obtain rfl:i=n:=by omega
  cases c,(Za:c<4) using ep
  all_goals
   refine oC M Z Zc<|iN 1 0 [] M Z Z nQ λC y l=>x C y (fx.alike (ρ:=[]) [] l 0 Z Z Z)
 | succ f T =>
  intro i j p S M x;have W:=C9 (n:=i) Za;obtain⟨g,h,rfl,rfl,X,hh,c'⟩:=R Za;let⟨r0,r,r2⟩:=c' i Za;cases c,(Za:c<4) using ep
  all_goals
   refine oF M Z (decide_eq_true Za)<|iN 200 0 [] M Z Z nQ λC y l=>vz [(8,J (.c (.v (Bo false))))] [CU r,CU r] false (λs z d' p=>d'=[]/\p=y) l Z (λ_=>rfl) (λ_=>rfl) Z Zd ⟨⟨⟨⟨nQ,by omega⟩,⟨X,by simp,by simpa[yZ] using r⟩⟩,by omega⟩,⟨hh,by simp,by simpa[yZ] using r2⟩⟩ (λs z D p a' _ v h1 h2=>?_) ⟨Z,Z⟩ (λs j' g' E z o a' p D h' H v Ma I B=>?_) λz D a3 w3 v e' f'=>?_
   .obtain⟨e,rfl⟩:=v;cases Zk e;exact l.bare h1 h2
   .obtain⟨e,rfl⟩:=v;cases Zk e
    cases s with
    | succ s=>simp at E
    | zero =>
     obtain⟨rfl,rfl⟩:=ax (Ze E);cases Ze H;refine xm H Z (by show aX≠.early;decide) Zd (λd=>Oh P Z (I _ (.g ((CU r).map .v)) Z) (I _ (.g ((CU r).map .v)) Z) r0)<|B [] p (J (.c (.v (Bo false)))) ⟨by simp,Z⟩ (.inr Z) λsv h=>by cases Ze h;trivial
   .obtain⟨e,rfl⟩:=v;cases Zk e;refine iN 1 0 [] (l.re e' f') Z Z nQ λa4 w4 K=>oC K Z Z<|iN 200 0 [] K Z Z nQ λa5 w5 L=>?_;rw[W]at L;exact T (i+1) a5 w5 Za (fx.alike (ρ:=[]) [] L 0 Z Z Z) x
theorem AZ(d:c<4)(y:n<=8000000000000)(z:wo w c n b a F)(B:Fit sft w)(C:∀k,w.heap.size<=k->sft k=0):py main sft (Bj c) #[.slice b n ca,.slice a n cb] w λx p=>x=Bo true/\oh sft [] w p:=by
 refine y7 (f:=Bj c) (sz:=26) (ρ:=[]) (ro:=0) (W:=[]) (m:=[]) [.c (.v (.slice b n ca)),.c (.v (.slice a n cb))] ⟨λe D=>(by cases D),λi f=>(by cases f),λi j f=>(by cases f),λi _ E=>(by cases E),B,C⟩ (λs o=>?_) (xR d) (c:=((Cu c).body).getD .skip) ?_ ?_ Z λStop fr cs P M H=>?_
 .simp only[ae,ai,or_false]at o;rcases o with rfl|rfl<;>trivial
 .cases c,(Za:c<4) using ep
  all_goals rfl
 .cases c,(Za:c<4) using ep
  all_goals rfl
 have I:=λh l=>QU (sft:=sft) (main:=main) (Stop:=Stop) (fr:=fr) (cs:=cs) (ca:=ca) (cb:=cb) d y z n 0 h l Za;cases c,(Za:c<4) using ep
 all_goals
  refine iN 200 0 [] M Z Z nQ λR S r=>oC r Z Zc<|iN 200 0 [] r Z Z nQ λh l K=>I h l (fx.alike (ρ:=[]) [] K 0 Z Z Z) λT W L=>iN 200 0 [] L Z Z nQ λG X v=>B3 v (xR d) Z Z Z<|H _ _ ⟨Z,v.hJ⟩
end
section
open Go.Conc
def rQ{e:Type}(m:M e):Prop:=∀f h d a b c,m f h=.inl (.call d a b c)->0<=d/\d<100
variable{d j:Type}
theorem H7{x:d}:rQ (M.pure x):=λf h g a b c e=>by cases e
theorem E5{m:M d}{f:d->M j}(k:rQ m)(l:∀x,rQ (f x)):rQ (m.bind f):=λn h g a b c e=>by
 unfold M.bind at e;split at e
 .next x i=>exact k n h g a b c (i.trans (congrArg _ (Sum.inl.inj e)))
 .next x i=>exact l _ _ _ g a b c e
theorem uU(a:0<=f/\f<100):rQ (E3 f g h i):=λb c k l m n e=>by
 unfold E3 at e
 grind
theorem J9{c:Prop}[Decidable c]{m n:M d}(a:rQ m)(b:rQ n):rQ (if c then m else n):=by split<;>assumption
theorem AL(h:0<=g/\g<100)(e:Bool)(a b c:Int):∀l,rQ (H6 g e a b c l)
 | []=>E5 (uU Zb) λ_=>H7
 | f::r=>E5 (uU h) λ_=>J9 (AL h e a b c r) (H7)
theorem Fz(a:aa):∀f i b,rQ (tO a f i b)
 | 0,_,_=>E5 (uU Zb) λ_=>H7
 | f+1,i,b=>J9 (E5 (AL Zb _ _ _ _ _) λ_=>J9 (Fz a f _ _) (H7)) (Fz a f _ _)
theorem GO(a:Int)(g:Nat->Int):∀f i b c,rQ (vd a g f i b c)
 | 0,_,_,_=>H7
 | f+1,i,b,c=>J9 (GO a g f _ _ _) (E5 (AL Zb _ _ _ _ _) λ_=>J9 (GO a g f _ _ _) (H7))
theorem Ib(a:Int)(g:Nat->Int):∀f i b,rQ (uO a g f i b)
 | 0,_,_=>H7
 | f+1,i,b=>J9 (Ib a g f _ _) (E5 (uU Zb) λ_=>J9 (Ib a g f _ _) (H7))
theorem ID(h:0<=f/\f<100)(a:Int):∀l,rQ (rM f a l)
 | []=>H7
 | p::ps=>E5 (uU h) λ_=>ID h a ps
theorem GK(a b:List Int):rQ (J7 f a b):=E5 (ID Zb _ _) λ_=>E5 (ID Zb _ _) λ_=>uU Zb
theorem Ks(a b:List Int):rQ (tT f a b g):=J9 (E5 (uU Zb) λ_=>J9 (H7) (E5 (GK _ _) λ_=>H7)) (E5 (GK _ _) λ_=>H7)
theorem La(a:aa)(p:Int):∀f i,rQ (vg a p f i)
 | 0,_=>E5 (uU Zb) λ_=>H7
 | f+1,i=>J9 (GK _ _) (La a p f _)
theorem Ko(h:0<=f/\f<100)(a b c:Int):rQ (J6 f a b c):=λi g k l m n e=>by
 unfold J6 at e;split at e
 .cases e
 .induction g with
  | nil=>obtain⟨rfl,_⟩:=Node.call.inj (Sum.inl.inj e);exact h
  | cons x r o =>
   unfold yD at e
   grind
theorem Xv(b A c:Int):rQ (rE B a b A c):=by
 unfold rE;refine J9 ?_ (J9 (La _ _ _ _) (J9 (E5 (AL Zb _ _ _ _ _) λ_=>H7) (J9 (E5 (Ko Zb _ _ _) λ_=>H7) (J9 (E5 (Ko Zb _ _ _) λ_=>J9 (H7) (uU Zb)) (J9 (uU Zb) (E5 (AL Zb _ _ _ _ _) λ_=>H7))))));exact E5 (Fz _ _ _ _) λ_=>J9 (E5 (GO _ _ _ _ _ _) λ_=>J9 (E5 (Ib _ _ _ _ _) λ_=>Ks _ _) (Ks _ _)) (H7)
def uh{d:Type}(m:M d):Prop:=∃e a b c,m false []=.inl (.call e a b c)
theorem xp{d j:Type}{m:M d}{f:d->M j}(h:uh m):uh (m.bind f):=by
 let⟨n,a,b,c,h⟩:=h;exact⟨n,a,b,c,by unfold M.bind;rw[h]⟩
theorem Bc:uh (E3 f g h i):=⟨_,_,_,_,Z⟩
theorem wP{d:Type}{c:Prop}[Decidable c]{m n:M d}(a:uh m)(b:uh n):uh (if c then m else n):=by split<;>assumption
theorem Hl{e:Bool}(a b c:Int):∀l,uh (H6 g e a b c l)
 | []=>xp (Bc)
 | f::r=>xp (Bc)
theorem KF(a:aa):∀f i b,uh (tO a f i b)
 | 0,_,_=>xp (Bc)
 | f+1,i,b=>wP (xp (Hl _ _ _ _)) (KF a f _ _)
theorem Qv:∀a b,uh (J7 f a b)
 | [],[]=>⟨_,_,_,_,Z⟩
 | [],y::_=>⟨_,_,_,_,Z⟩
 | x::_,_=>⟨_,_,_,_,Z⟩
theorem Mj(a:aa)(p:Int):∀f i,uh (vg a p f i)
 | 0,_=>xp (Bc)
 | f+1,i=>wP (Qv _ _) (Mj a p f _)
theorem Ta(a:aa)(p:Nat)(b A B:Int):uh (rE a p b A B):=by
 unfold rE;refine wP (xp (KF _ _ _ _)) (wP (Mj _ _ _ _) (wP (xp (Hl _ _ _ _)) (wP ⟨_,_,_,_,Z⟩ (wP ⟨_,_,_,_,Z⟩ (wP (Bc) (xp (Hl _ _ _ _)))))))
variable{g K:aa}{p:Nat}{i A B:Int}{f:List (Int×Int)}{d a b c:Int}{C:Ctx}
theorem c1m(h:Ad g p i A B f=.call d a b c):rE g p i A B false f=.inl (.call d a b c):=by
 unfold Ad M.then at h
 grind
theorem Wz{s:j6}(h:yb s f){x e:Int}(t:∀d a b c,s f=.call d a b c->wC d x e):yb s (f++[(x,e)]):=λl m n o k d a b c q=>by
 rcases List.eq_nil_or_concat o with rfl|⟨h2',y,rfl⟩
 .simp_all
 .rw[List.concat_eq_append,←cy,←jH]at k;let⟨r,_⟩:=List.append_inj' k Z;exact h l m n h2' r d a b c q
theorem VO(E:1<=C.kd/\C.kd<=7)(s:yb (m8 C p g) f)(t:pV f)(F:m8 C p g f=.call d a b c):rE g p C.kd C.A C.B false f=.inl (.call d a b c)/\(0<=d/\d<100)/\yb (m8 C p g) (f++[((d8 K p d a b c).n,(d8 K p d a b c).e)]) /\
  ((∃l m n o,m8 C p g (f++[((d8 K p d a b c).n,(d8 K p d a b c).e)])=.call l m n o/\pV (f++[((d8 K p d a b c).n,(d8 K p d a b c).e)])/\sj g p C.kd C.A C.B (f++[((d8 K p d a b c).n,(d8 K p d a b c).e)]) (d8 K p d a b c).e=Q) \/
   ∃v e,m8 C p g (f++[((d8 K p d a b c).n,(d8 K p d a b c).e)])=.done v e/\sj g p C.kd C.A C.B (f++[((d8 K p d a b c).n,(d8 K p d a b c).e)]) (d8 K p d a b c).e=J (v,e)):=by
 have S:pY (m8 C p g) (Ad g p C.kd C.A C.B):=MY g p C.kd C.A C.B E;have I:=c2W K p d a b c;have H:=S f s t;have u:=c1m (H.1.symm.trans F);have w:=Wz s (x:=(d8 K p d a b c).n) (e:=(d8 K p d a b c).e) λl m n o h=>by
  grind
 refine⟨u,Xv _ _ _ _ _ _ _ _ _ u,w,?_⟩;generalize d8 K p d a b c=k at *
 by_cases r:k.e=3
 .refine .inr ⟨0,3,?_,by unfold sj;rw[nT r]⟩
  grind
 .have y:pV (f++[(k.n,k.e)]):=λx q=>by
   rcases cz.1 q with q|q
   .exact t x q
   grind
  have z:=(S _ w y).1
  cases D:m8 C p g (f++[(k.n,k.e)]) with
  | call l m n o=>exact .inl ⟨l,m,n,o,Z,y,by unfold sj;rw[nR r,←z,D]⟩
  | done v e=>exact .inr ⟨v,e,Z,by unfold sj;rw[nR r,←z,D]⟩
theorem c2C(k:1<=C.kd/\C.kd<=7):∃d a b c,m8 C p g []=.call d a b c:=by
 let⟨n,a,b,c,h⟩:=Ta g p C.kd C.A C.B;refine⟨n,a,b,c,((MY g p C.kd C.A C.B k) [] (λm x e o h=>by simp at h) λx l=>by cases l).1.trans ?_⟩;unfold M.then;rw[h]
end
section
open Go.Conc
def Im(P:Pg)(d:Vu->Wd->Prop)(m:fM)(T:jD):Prop :=
 ∃N b o a c,runNT P (N+1) m T=(.ended o a,c)/\runN P N m=.next b/\step P b=.ended o a/\kx P (λv a=>d v a/\tn m.world a) b o a c
variable{P:Pg}{Post:Vu->Wd->Prop}{l:List nY}{b:Nat->Option ic}{n:Nat}{w:Wd}
theorem Sk{a:Gr}{v:Vu}(e:a.status=.running)(f:∀d,bH P true a (w.at d)=.ended (.done v) (w.at d) #[])(g:∀d,Post v (w.at d))(j:∀i,i≠0->b i=Q):X P (Im P Post) l b n 0 a w:=by
 rintro m T ⟨gs,k,q,Mem,rfl,hn,hg,hM,hdis,C⟩;obtain⟨L,p⟩:=ring_end C hM j
 obtain⟨N,r,o,c,s,t,u,x,y⟩:=beside_ends (P:=P) (Post:=λv c=>Post v c/\tn w c) (D:=λ_ _ _=>False) (sl:=k) (n:=0) (λ_ _ _ h=>h.elim) hg L p (λA z=>by
  obtain⟨d,rfl⟩:=z
  exact⟨e,v,#[],f d,by simp,g d,Z,Z,Z⟩)
 exact⟨0,_,_,Z,⟨N,r,o,c,s,t,u,x,y⟩,Z,Z,Z⟩
theorem c5R{g:Gr}(h:X P (Im P Post) [] (λ_=>Q) 1 0 g k) :
  ∃N d o a e,runNT P (N+1) (solo g k) #[]=(.ended o a,e)/\runN P N (solo g k)=.next d/\step P d=.ended o a/\kx P (λv a=>Post v a/\tn k a) d o a e:=by
 let⟨N,A,B,j,⟨M,d,o,a,e,p,q,r,t⟩,u⟩:=h (solo g k) #[] ⟨#[g],Q,λ_=>0,λi=>i=0,solo_eq_crowd _ _,Z,Z,Z,λi s c y=>(by cases y),
  ring_begin (λx z=>by
   rcases z with⟨o,f,_⟩|⟨_,_,h,_⟩
   .cases f
   .exact h.elim) (leavers_one _ _) (past_nil.mono (bh _)) λo f=>by cases f⟩
 refine⟨N+M,d,o,a,e,?_,?_,r,t.mono λv m=>⟨m.1,tn.trans u m.2⟩⟩
 .rw[aS,runNT_add,j];exact p
 .rw[runN_add,←runNT_fst P _ _ #[],j];exact q
end
section
open Go.Conc
attribute [local go_sem ↓] Go.wp_at_zero Go.wp_at_succ
theorem c9I:(V.info? 92).map (λi=>(i.zero.isSome,i.size,i.bytes))=J (true,5,40):=by kernel_rfl
theorem c9R(n:Nat)(f:n<=4398046511104)(w:Wd):∃C:Array Vu,C.size=n*5/\(iB 88 (Y U n) (Y U n)).run V w=.ok (Sc (J (O w.heap.size 0 Q)) n n) (w.alloc (.cells C 92)):=by
 have a:=c9I
 cases b:V.info? 92 with
 | none=>rw[b]at a;cases a
 | some i =>
  rw[b]at a;simp only[aF,bz,cU]at a;let⟨c,d,e⟩:=a;let⟨z,c⟩:=cL.1 c;have:=run_make (P:=V) w 88 92 i z je b c .i64 .i64 n n Za Za (by rw[e];omega) Za;rw[d]at this;exact⟨_,size_madeCells _ _,this⟩
theorem VB{P:Pg}(c q d:Ti)(b g n m r:Nat)(a:List Vu)(s:P.underlying c=J (.slice d))(h:(P.info? d).map (·.size)=J m)(t:a.length=n*m)(u:∀j v,a[j]?=J v->k.cell? (((O g 0 Q):cC).add j)=J v)(l:k.there b 0 a.length)(w:∀v∈a,v.oneCell'=true) :
  (dt #[c,c] q #[Sc (J (O b 0 Q)) n n,Sc (J (O g 0 Q)) n r]).run P k=.ok (goInt n) (k.setCells b 0 a):=by
 have o:=run_loadCells_list (P:=P) k (O g 0 Q) a u;have p:=jZ (P:=P) b 0 a 0 k (λj e=>by simpa using(l j e).1) (λj e=>by simpa using(l j e).2) w
 cases f:P.info? d with
 | none=>simp[f]at h
 | some i =>
  have x:i.size=m:=by simpa[f] using h
  rw[t]at o;simp only[kH]at p;simp[dt,eT s,nH,kV,sizeOf,typeInfo,f,x,o,p]
structure uc (v v':Wd) (N:Nat) (Xs:List Vu):Prop where
 oX:bG v.heap.size v v'
 size:v'.heap.size=v.heap.size+1
 row:v'.rowIs v.heap.size 92 (N*5) (λj=>Xs.getD j (Bo false))
theorem Tt(v:Wd)(b q d n A p N:Nat)(h:Vu)(f:List Vu)(B:v.cell? (O b 1 Q)=J (Sc (J (O q 0 Q)) n n))(r:v.cell? (O b 2 Q)=J (Sc (J (O d 0 Q)) n n))(D:p<n)(s:v.cell? (O d p Q)=J h)(own:v.ownsRow A 92 5 h N f)(E:N<=4398046511104)(t:∀x∈f,x.oneCell'=true) :
  aG V 52 #[Po (J (O b 0 Q)),Y U p] v λe F=>e=.returned (.tuple #[Sc (J (O v.heap.size 0 Q)) N N,Y U 0])/\uc v F N f:=by
 have i0:(0:Int)<=(p:Int):=by omega
 have i1:(p:Int)<(n:Int):=by omega
 have H:(decide (0<=(p:Int))&&decide ((p:Int)<n))=true:=by simp[D]
 let⟨C,u,a'⟩:=c9R N E v;have i:=K9 v C 92;rw[u]at i;have I:b<v.heap.size:=B2 r;have K:d<v.heap.size:=B2 s;have a2:(v.alloc (.cells C 92)).cell? (O b 2 Q)=J (Sc (J (O d 0 Q)) n n):=by rw[Zf (w:=v) (a:=(O b 2 Q)) (aK _ _ _ I)];exact r
 have a3:(v.alloc (.cells C 92)).cell? (O d p Q)=J h:=by rw[Zf (w:=v) (a:=(O d p Q)) (aK _ _ _ K)];exact s
 have L:∃W,(∀k,(dt #[88,88] k #[Sc (J (O v.heap.size 0 Q)) N N,h]).run V (v.alloc (.cells C 92))=.ok (goInt N) W)/\uc v W N f:=by
  obtain⟨l,⟨rfl,rfl⟩|⟨g,c,P,rfl,a1,w,a5,a6,a7,R⟩⟩:=own
  .refine⟨_,λk=>run_copy_nil _ _ _ _ _ _ _ _ _ je Zd,(bD _ _).alloc (af _) _,by simp,i.congr λj m=>by omega⟩
  .have S:g<v.heap.size:=(Zj w).1;refine⟨_,λk=>VB _ _ 92 _ _ N 5 c f je Zd l (λj x o=>?_) (by rw[l];exact D6 i Za) t,p9 (af _) _ _ ((bD _ _).alloc (af _) _),by rw[l9];simp,(C6 _ 0 i).congr λj m=>?_⟩
   .rw[eO,aE,Zf (w:=v) (a:=(O g j Q)) (aK _ _ _ S)];simp only[aD,w];have m:j<N*5:=by have:=(bj.1 o).1;omega
    rw[←R,kR m]at o;simpa using o
   .rw[nT Za,iQ]
 let⟨W,y,z⟩:=L;have T:ar (∀k,_):=y;have G:ar (uc v W N f):=z;have M:∃c a,h=.slice a N c:=by
  obtain⟨l,⟨rfl,rfl⟩|⟨g,c,P,rfl,_⟩⟩:=own
  .exact⟨0,Q,Z⟩
  .exact⟨c,J (O g 0 Q),Z⟩
 obtain⟨c,a,rfl⟩:=M;clear own i u t z y
 go_enter iw,Tryz.ntmps52
 go_wp2_with fail
 refine(KW v b q n p B).mono ?_;rintro e X ⟨rfl,rfl⟩;rw[H]
 go_wp2_with (refine CX Z _ _ 88 Z (Sc (J (O X.heap.size 0 Q)) N N) (.slice a N c) (goInt N) Z Z (T.out _) ?_)
 go_ret2
 exact⟨Z,G.out⟩
end
section
open Go.Conc
variable{m:Kb}{l:List nY}{K:aa}{L:Nat->Option Lv}{r:Nat}{z:Nat->Option ic}{u:Nat}{w w':Wd}{b:Lb}{n B:Nat}{E:Nat->Option nY}{D:Nat->Vu}{N:Nat->Nat}{y:Nat->List Vu}
theorem NH(q:Fit (fb l) w)(A:KO l w)(s:Bool){f:bF}(C:Sg f=true){R R':Vu->Wd->Prop}(F:∀d,Lk (fb l) d (w.at a)->aG V f v d λe c=>∃x,e=.returned x/\bG d.heap.size d c/\R x c)(H:∀x c w',c.heap.size=w'.heap.size->(∀k,w.heap.size<=k->w'.heap[k]?=c.heap[k]?)->R x c->R' x w')(j:Fm')(p:List Fm') :
  l6 V s (DL true (fb l)) (λg w'=>∃x,g=G (j.finish x) p/\Grown w w'/\R' x w') (G (ay V f v .normal) (j::p)) (w.at a):=by
 refine(xC xa (sft:=fb l) (w0:=w.at a) C ⟨q.soft,q.clear⟩ s (Q:=λx c=>∃d,Lk (fb l) d (w.at a)/\bG d.heap.size d c/\R x c) (λd i=>(F d i).mono λe c T=>by
   grind) j p).keep.mono (λ_ _ _ h=>h) ?_
 rintro g w' ⟨⟨x,c,rfl,hl',d,i,hb,hr⟩,hkp⟩;have W:d.heap.size=w.heap.size:=i.size;have I:c.heap.size=w'.heap.size:=hl'.size;refine⟨x,Z,⟨by have:=hb.size;omega,λk t=>C7 (w:=w.at a) hkp i hl' (hb.block k Za),hl'.fit.clear⟩,H x c w' I (λk t=>?_) hr⟩;have P:fb l k=0:=U7 λo S=>by have:=KO.lt A S;omega
 rw[hl'.heap,P]
 cases e:w'.heap[k]? with
 | none=>rfl
 | some o=>rw[aF,yl (hkp.new k o t e)]
theorem Xz{w w':Wd}{b n:Nat}(h:w.rowIs b a n q)(e:w'.heap[b]?=w.heap[b]?):w'.rowIs b a n q:=h.of_block e
theorem Vb(s:Co m l K L r z u w)(c:pA m l L w b n B E D N y)(f:a<n)(A:N a<=4398046511104)(k:∀x∈y a,x.oneCell'=true)(o:Fm')(p:List Fm')(d:Nat) :
  l6 V true (DL true (fb l)) (λg w'=>∃x,g=G (o.finish x) p/\Grown w w'/\x=.tuple #[Sc (J (O w.heap.size 0 Q)) (N a) (N a),Y U 0]/\w'.rowIs w.heap.size 92 (N a*5) λj=>(y a).getD j (Bo false))
   (G (ay V 52 #[Po (J (O b.bl 0 Q)),Y U a] .normal) (o::p)) (w.at d):=by
 refine NH s.env.fit s.env.ko true Zd (R:=λx q=>x=.tuple #[Sc (J (O w.heap.size 0 Q)) (N a) (N a),Y U 0]/\q.rowIs w.heap.size 92 (N a*5) λj=>(y a).getD j (Bo false)) (λv i=>?_) (λx q w' F C h=>⟨h.1,Xz h.2 (C _ (af _))⟩) o p;have sv:v.heap.size=w.heap.size:=i.size;refine(Tt v b.bl b.bu b.bn n B a (N a) (D a) (y a) (by rw[i.cell];exact c.is.k1) (by rw[i.cell];exact c.is.k2) f (by rw[i.cell];exact c.is.d.cell f) (j5 (c.is.own a f) λx k=>vV (w:=w.at d) i (c.ry a f x k).sf (.inl (GR (c.is.own a f) k))) A k).mono ?_;rintro e q ⟨rfl,h⟩;have t:=h.row;rw[sv]at t;exact⟨_,Z,h.oX,by rw[sv],t⟩
theorem Uv(j:Co m l K L r z u w)(A:Fm')(C:List Fm')(d:Nat) :
  l6 V true (DL true (fb l)) (λg w'=>∃x,g=G (A.finish x) C/\Grown w w'/\∃b:Lb,x=Po (J (O b.bl 0 Q))/\(w.heap.size<=b.bu/\w.heap.size<=b.bn)/\oY m l L w' b K.nS (b.bl+1) (λ_=>Q) (λ_=>Sc Q 0 0) (λ_=>0) λ_=>[])
   (G (ay V 14 #[Po (J (O m.bk 0 Q))] .normal) (A::C)) (w.at d):=by
 let⟨T,W,M⟩:=j.env.zero;have X:K.nS<=6:=j.env.rep.hS
 refine(NH (R':=λx i=>∃f a c,x=Po (J (O f 0 Q))/\w.heap.size<=a/\w.heap.size<=c/\a<f/\c<f/\a≠c/\i.heap[f]?=J (.cells (vD m.bk K.nS a c) 114 (0,0))/\pR i a K.nS (λ_=>Po Q)/\pR i c K.nS λ_=>Sc Q 0 0) j.env.fit j.env.ko true Zd (R:=λx i=>∃f a c,x=Po (J (O f 0 Q))/\w.heap.size<=a/\w.heap.size<=c/\a<f/\c<f/\a≠c/\i.heap[f]?=J (.cells (vD m.bk K.nS a c) 114 (0,0))/\pR i a K.nS (λ_=>Po Q)/\pR i c K.nS λ_=>Sc Q 0 0) (λv H=>?_) (λx i w' hs I h=>?_) A C).mono (λ_ _ _ h=>h) ?_
 .have sv:v.heap.size=w.heap.size:=H.size;refine(c4H (EC (w:=w.at d) H T W M (j.env.rep.same (af _) λ_ _ _=>rfl))).mono ?_;rintro e i ⟨f,rfl,a,c,h⟩;exact⟨_,Z,h.oX,f,a,c,Z,by rw[←sv];exact h.gu,by rw[←sv];exact h.gn,h.lu,h.ln,h.un,h.l,h.u,h.d⟩
 .let⟨f,a,c,e,gu,gn,P,R,F,k,s,t⟩:=h;exact⟨f,a,c,e,gu,gn,P,R,F,by grind,s.of (I _ gu),t.of (I _ gn)⟩
 .rintro g w' ⟨x,rfl,hG,f,a,c,rfl,gu,gn,P,R,F,k,s,t⟩;have a':f<w'.heap.size:=(Zj k).1;have m1:=j.new (w':=w') (k:=f) Za a';have m2:=j.new (w':=w') (k:=a) gu s.lt;have m3:=j.new (w':=w') (k:=c) gn t.lt;refine⟨_,Z,hG,⟨f,a,c⟩,Z,⟨gu,gn⟩,⟨⟨by simp[aD,k,vD],by simp[aD,k,vD],by simp[aD,k,vD],s,t,λp S=>⟨Z,.inl ⟨Z,Z⟩⟩,λp q _ _ _=>.inl Z,⟨?_,?_,F,?_,?_,?_⟩,X⟩,m1,m2,m3,λp S g hg=>(by cases hg),af _⟩,λp S o ho=>(by cases ho)⟩<;>simp only<;>omega
theorem XE(a:Co m l K L r z u w){o:aa}(p:wV m l o w')(F:o.nS=K.nS)(f:Alike (kc m) w w'):Co m l o L r z u w'/\Kp m L w L w':=by
 have q:∀k,k<w.heap.size->k≠m.bf->k≠m.bs->k≠m.bd->w'.heap[k]?=w.heap[k]?:=f.block
 refine⟨⟨p,a.top,a.gid,a.rZ,λg v e=>?_,λg v e=>by rw[F];exact a.wait g v e,a.qV,a.none,λs c H I=>Zg (a.qE s c H I) f.size,λg v e c j=>?_,a.qM,a.pZ,a.apart,λg s P=>by
  let⟨R,S,T,t⟩:=a.sY g s P
  exact⟨R,S,T,λc j=>⟨Zg (t c j).1 f.size,(t c j).2⟩⟩⟩,λk d=>⟨⟨Zg d.lt f.size,d.nf,d.ns,d.nd,d.own⟩,q k d.lt d.nf d.ns d.nd⟩⟩
 .let⟨W,G,A⟩:=a.at_ g v e;have x:=a.rZ g v e;refine⟨W,G,A.other (x.env p) λi C=>?_⟩;let⟨_,M,X,a3,_⟩:=A.own.ap i C;let⟨k1,k2,k3,k4⟩:=x;exact q i (A.lt C) (by grind) (by grind) (by grind)
 .let⟨⟨b',k,h⟩,a0,M,X,a3,a4,a5⟩:=a.chan g v e c j
  grind
theorem oY.same(h:oY m l L w b n B E D N y)(a:Kp m L w L w'):oY m l L w' b n B E D N y:=⟨h.m.turn a,h.live⟩
theorem QN(s:Co m l K L r z u w)(f i a c e:Int)(o:Fm')(p:List Fm')(d:Nat) :
  l6 V true (DL true (fb l)) (λg w'=>g=G (o.finish (.tuple #[Y U (d8 K f i a c e).n,Y U (d8 K f i a c e).e])) p/\Co m l (d8 K f i a c e).K L r z u w'/\Kp m L w L w')
   (G (ay V 16 #[Po (J (O m.bk 0 Q)),Y U f,Y U i,.agg #[Y U a,Y U c,Y U e]] .normal) (o::p)) (w.at d):=by
 have q:=s.at d;refine(Yr (C:=kc m) q.env s.top true f i a c e o p).mono (λ_ _ _ h=>h) ?_;rintro g w' ⟨rfl,hE,hA⟩;have R:=q.env.rep;have t:=(IJ R hE.rep (hA.block _ R.lk R.kf R.ks R.kd)).2.1;let⟨v,x⟩:=XE q hE t hA;exact⟨Z,v,λk j=>x k ⟨j.lt,j.nf,j.ns,j.nd,j.own⟩⟩
theorem YQ(j:Co m l K L r z u w)(f:Fm')(i:List Fm')(d:Nat) :
  l6 V true (DL true (fb l)) (λg w'=>∃a c e,g=G (f.finish (rW K a c e)) i/\Grown w w'/\qu w' a c e K/\w.heap.size<=a/\w.heap.size<=c/\w.heap.size<=e)
   (G (ay V 33 #[Po (J (O m.bk 0 Q))] .normal) (f::i)) (w.at d):=by
 refine(PL (C:=kc m) (j.at d).env true f i).mono (λ_ _ _ h=>h) ?_;rintro g w' ⟨a,c,e,rfl,h1,h2,h3,h4,h5,h6,h7⟩;exact⟨a,c,e,Z,⟨h1,h2,h3.clear⟩,h4,h5,h6,h7⟩
end
section
open Go.Conc
variable{sft sft' κ:Nat->Nat}{w:Wd}{i:Nat}{b:Rl}{bk n:Nat}{ts:Nat->Option pU}{D:Nat->Vu}{N:Nat->Nat}{Xs:Nat->List Vu}
theorem Kx(h:pG i a):a≠0:=by unfold pG at h;omega
theorem oM.soft(h:oM sft κ i w b bk n ts D N Xs)(o:∀k,k<w.heap.size->pG i (κ k)->sft' k=0):oM sft' κ i w b bk n ts D N Xs:=by
 have I:=h.n6;have c:∀ {k j},k<w.heap.size->κ k=cB i j->j<100->sft' k=0:=λ{k j} q e r=>o k q (by rw[e];exact rT r);refine⟨h.k0,h.k1,h.k2,h.k3,h.u,h.d,h.t,λp s d e=>?_,h.own,λp g d a=>⟨(h.od p g d a).1,c (j8 (h.own p d) a).2 (h.od p g d a).1 Za⟩,⟨h.rl.1.soft (c h.rl.1.lt h.rl.2 Za),h.rl.2⟩,⟨h.rt.1.soft (c h.rt.1.lt h.rt.2 Za),h.rt.2⟩,⟨h.ru.1.soft (c h.ru.1.lt h.ru.2 Za),h.ru.2⟩,⟨h.rd.1.soft (c h.rd.1.lt h.rd.2 Za),h.rd.2⟩,h.n6⟩;have:=h.tk p s d e
 cases s with
 | fresh K A B=>exact this
 | begun T =>
  let⟨u,f,v,x,y,z,l,C,E,m⟩:=this;refine⟨u,f,v,x,y,λF H=>?_,l,C,E,λg a=>⟨(m g a).1,c (j8 l a).2 (m g a).1 Za⟩⟩;have t:=z F H;exact { t with sf:=by rw[f];exact c h.rt.1.lt h.rt.2 Za }
theorem pT.soft{B:RB}{r:Rk}(R:pT sft w B r)(c:∀k,B.is r k->sft' k=0):pT sft' w B r:=⟨R.mem,λk a=>⟨(R.row k a).1,c k a⟩⟩
theorem qa.soft{X:Nat->List Vu}{A:Nat->Option BkB}(B:qa sft κ w a q N X A)(d:∀g x,A g=J x->sft' g=0):qa sft' κ w a q N X A :=
 ⟨B.x7,B.own,B.hd,B.ls,λg x c=>⟨(B.blk g x c).1,(B.blk g x c).2.soft (d g x c)⟩,B.AW,B.pc⟩
structure Wp where
 kb:Kb
 B:RB
 bw:Nat
 wl:Nat
 cl:Nat
 wm:Nat
 cm:Nat
 bb:Nat
 lb:Nat->Lb
 B0:Nat->Nat
 rb:Nat->Rl
 n:Nat
structure Ws where
 U:Nat->Nat->Option nY
 V:Nat->Nat->Vu
 N:Nat->Nat->Nat
 Xs:Nat->Nat->List Vu
 ts:Nat->Nat->Option pU
 D:Nat->Nat->Vu
 bV:Nat->Vu
 bN:Nat->Nat
 bX:Nat->List Vu
 bA:Nat->Option BkB
 rr:Rk
def Tie(v:Lv)(p:Nat):pU->Prop
 | .fresh d A B=>v.C.kd=d/\v.C.A=A/\v.C.B=B/\v.S=m8 v.C p/\1<=d/\d<=7
 | .begun T=>v.C.kd=T.kd/\v.C.A=T.A/\v.C.B=T.B/\(v.S=λ_ e=>m8 v.C p T.K (T.Ls++e))/\(1<=T.kd/\T.kd<=7)/\yb (m8 v.C p T.K) T.Ls/\pV T.Ls/\(∃f a b c,m8 v.C p T.K T.Ls=.call f a b c)/\p<T.K.nS
def wa(c:Nat):Prop:=c≠0/\c<300
structure Pm (sft κ:Nat->Nat) (w:Wd) (P:Wp) (S:Ws) (K:aa):Prop where
 R:pT sft w P.B S.rr
 Rc:∀j,P.B.is S.rr j->κ j=1
 sJ:wH K S.rr
 rl:∀i,i<2->oM sft κ i w (P.rb i) P.B.b P.n (S.ts i) (S.D i) (S.N i) (S.Xs i)
 bk:qa sft κ w P.bb S.bV S.bN S.bX S.bA
 w0:w.cell? (O P.bw 0 Q)=J (Po (J (O P.kb.bk 0 Q)))
 w1:w.cell? (O P.bw 1 Q)=J (Po (J (O P.B.b 0 Q)))
 w2:w.cell? (O P.bw 2 Q)=J (Sc (J (O P.wl 0 Q)) 2 P.cl)
 w3:w.cell? (O P.bw 3 Q)=J (Sc (J (O P.wm 0 Q)) 2 P.cm)
 w4:w.cell? (O P.bw 4 Q)=J (Po (J (O P.bb 0 Q)))
 l:∀i,i<2->w.cell? (O P.wl i Q)=J (Po (J (O ((P.lb i).bl) 0 Q)))/\w.cell? (O P.wm i Q)=J (Po (J (O ((P.rb i).bl) 0 Q)))
 rw:F3 sft w P.bw/\κ P.bw=3
 r4:F3 sft w P.wl/\κ P.wl=4
 r5:F3 sft w P.wm/\κ P.wm=5
variable{κ':Nat->Nat}{w':Wd}{P:Wp}{S:Ws}{K:aa}
theorem Pm.book{x:Nat->List Vu}{y:Nat->Option BkB}(h:Pm sft κ w P S K)(f:∀k,k<w.heap.size->wa (κ k)->κ k≠6->κ' k=κ k/\w'.heap[k]?=w.heap[k]?/\sft' k=0)(B:qa sft' κ' w' P.bb q t x y):Pm sft' κ' w' P { S with bV:=q,bN:=t,bX:=x,bA:=y } K:=by
 have up:∀ {k c},F3 sft w k/\κ k=c->wa c->c≠6->F3 sft' w' k/\κ' k=c:=λ{k c} e s u=>by
  let⟨C,E,F⟩:=f k e.1.lt (by rw[e.2];exact s) (by rw[e.2];exact u);exact⟨(e.1.soft F).of E,C.trans e.2⟩
 have g:∀ {k c o},F3 sft w k/\κ k=c->wa c->c≠6->w'.cell? (O k o Q)=w.cell? (O k o Q):=λ{k c o} e s u=>Zf (w:=w) (f k e.1.lt (by rw[e.2];exact s) (by rw[e.2];exact u)).2.1;have m:wa 3:=⟨by decide,by decide⟩;have z:wa 4:=⟨by decide,by decide⟩;have A:wa 5:=⟨by decide,by decide⟩;have H:wa 1:=⟨by decide,by decide⟩;have p:∀ {i k},i<2->pG i (κ k)->wa (κ k)/\κ k≠6:=λ{i k} a f=>by unfold pG at f;exact⟨⟨by omega,by omega⟩,by omega⟩
 have v:∀j,P.B.is S.rr j->κ' j=κ j/\w'.heap[j]?=w.heap[j]?/\sft' j=0:=λj d=>f j (h.R.lt d) (by rw[h.Rc j d];exact H) (by rw[h.Rc j d];decide);refine⟨((h.R.soft (sft':=sft') λj d=>(v j d).2.2).keep λj d=>(v j d).2.1),λj d=>(v j d).1.trans (h.Rc j d),h.sJ,λi a=>?_,B,(g h.rw m Zb).trans h.w0,(g h.rw m Zb).trans h.w1,(g h.rw m Zb).trans h.w2,(g h.rw m Zb).trans h.w3,(g h.rw m Zb).trans h.w4,λi a=>⟨(g h.r4 z Zb).trans (h.l i a).1,(g h.r5 A Zb).trans (h.l i a).2⟩,up h.rw m Zb,up h.r4 z Zb,up h.r5 A Zb⟩;exact((h.rl i a).soft λk r l=>(f k r (p a l).1 (p a l).2).2.2).same λk r l=>⟨(f k r (p a l).1 (p a l).2).1,(f k r (p a l).1 (p a l).2).2.1⟩
theorem Pm.move(h:Pm sft κ w P S K)(d:∀k,k<w.heap.size->wa (κ k)->κ' k=κ k/\w'.heap[k]?=w.heap[k]?/\sft' k=0):Pm sft' κ' w' P S K:=by
 have c:∀g x,S.bA g=J x->κ' g=κ g/\w'.heap[g]?=w.heap[g]?/\sft' g=0:=λg x a=>d g (h.bk.blk g x a).2.lt (by rw[(h.bk.blk g x a).1];exact⟨by decide,by decide⟩);exact h.book (λk e f _=>d k e f) ((h.bk.soft λg x a=>(c g x a).2.2).same (λg x a=>(c g x a).1) λg x a=>(c g x a).2.1)
structure Pw (l:List nY) (L:Nat->Option Lv) (r:Nat) (Inb:Nat->Option ic) (nG:Nat) (w:Wd) (κ:Nat->Nat) (P:Wp) (S:Ws) (K:aa) (t:Nat):Prop where
 co:Co P.kb l K L r Inb nG w
 nS:K.nS=P.n
 lm:∀i,i<2->oY P.kb l L w (P.lb i) P.n (P.B0 i) (S.U i) (S.V i) (S.N i) (S.Xs i)
 lc:∀i,i<2->κ (P.lb i).bl=300+100*i/\κ (P.lb i).bu=301+100*i/\κ (P.lb i).bn=302+100*i/\∀p g,p<P.n->(S.V i p).ownBlock=J g->κ g=310+100*i+p
 mw:∀k,κ k≠0->Mw P.kb l L w k
 pm:Pm (fb l) κ w P S K
 tie:∀i p,i<2->p<P.n->(S.U i p=Q/\S.ts i p=Q)\/∃v t,S.U i p=J v.C.o/\L v.C.o.gid=J v/\v.C.slot=p/\S.ts i p=J t/\Tie v p t
 one:∀i p j q o o',i<2->j<2->p<P.n->q<P.n->S.U i p=J o->S.U j q=J o'->o.gid=o'.gid->i=j/\p=q
 all:∀g v,L g=J v->∃i p,i<2/\p<P.n/\S.U i p=J v.C.o
 sz:2<=K.nF/\K.nF<=32/\K.nD<=4
 pos:0<nG
 tN:∀i p,i<2->p<P.n->S.N i p<=t
 tL:∀i p T,i<2->p<P.n->S.ts i p=J (.begun T)->T.Ls.length<=t
 tB:∀c,c<4->S.bN c<=4*t
 xi:∀i p x,i<2->p<P.n->x∈S.Xs i p->∃v,x=vi v
section
variable{l:List nY}{L:Nat->Option Lv}{r:Nat}{d:Nat->Option ic}{b t t':Nat}{a:Ws}
theorem Pw.fit(h:Pw l L r d b w κ P S K t):Fit (fb l) w:=h.co.env.fit
theorem Pw.hJ{W:List Nat}(h:Pw l L r d b w κ P S K t)(F:oh (fb l) W w w')(z:∀k,k∈W->k<w.heap.size->Mw P.kb l L w k/\κ k<300)(X:∀k,300<=κ k->κ' k=κ k)(I:∀k,κ' k≠0->Mw P.kb l L w' k)(R:Pm (fb l) κ' w' P a K)(s:a.U=S.U)(A:a.V=S.V)(B:a.N=S.N)(C:a.Xs=S.Xs)(E:a.ts=S.ts)(H:t<=t')(G:∀c,c<4->a.bN c<=4*t'):Pw l L r d b w' κ' P a K t':=by
 have u:∀k,300<=κ k->w'.heap[k]?=w.heap[k]?:=λk v=>by
  have m:=h.mw k Za;exact F.old k m.mn.lt λx=>by have:=(z k x m.mn.lt).2;omega
 refine⟨h.co.wrote F.size nQ λk v M=>F.old k v λx=>M (z k x v).1,h.nS,λi f=>?_,λi f=>?_,I,R,by rw[s,E];exact h.tie,by rw[s];exact h.one,by rw[s];exact h.all,h.sz,h.pos,λi p f j=>by rw[B];exact Zh (h.tN i p f j) H,λi p T f j e=>by rw[E]at e;exact Zh (h.tL i p T f j e) H,G,by rw[C];exact h.xi⟩
 .rw[s,A,B,C];have o:=h.lm i f;have q:=h.lc i f;exact⟨⟨o.m.is.same (u _ (by rw[q.1];omega)) (u _ (by rw[q.2.1];omega)) (u _ (by rw[q.2.2.1];omega)) λp j g y=>u g (by rw[q.2.2.2 p g j y];omega),o.m.qS.grow F.size,o.m.qK.grow F.size,o.m.rO.grow F.size,λp j g y=>(o.m.ry p j g y).grow F.size,o.m.b0⟩,o.live⟩
 .rw[A];have q:=h.lc i f
  grind
end
variable{main:Bool}{bb:Nat}{V:Nat->Vu}{A:Nat->Option BkB}
section
variable{X:Nat->List Vu}
theorem Vp{a0 a1 a2 b0' b1 b2:Option cC}{n0 n1 n2 c0 c1 c2 d0 d1 d2:Nat}(y:n0<=8000000000000)(h1:n1<=8000000000000)(z:n2<=8000000000000)(T0:wo w 0 n0 a0 b0' q)(T1:wo w 1 n1 a1 b1 r)(T2:wo w 2 n2 a2 b2 s)(d':Fit sft w)(e':∀k,w.heap.size<=k->sft k=0) :
  py main sft 46 #[.agg #[.slice a0 n0 c0,.slice a1 n1 c1,.slice a2 n2 c2],.agg #[.slice b0' n0 d0,.slice b1 n1 d1,.slice b2 n2 d2]] w λx w'=>x=Bo true/\oh sft [] w w':=by
 refine y7 (sz:=30) (ρ:=[]) (ro:=0) (W:=[]) (m:=[]) [.g [.v (.slice a0 n0 c0),.v (.slice a1 n1 c1),.v (.slice a2 n2 c2)],.g [.v (.slice b0' n0 d0),.v (.slice b1 n1 d1),.v (.slice b2 n2 d2)]] ⟨λe he=>(by cases he),λi B=>(by cases B),λi j B=>(by cases B),λi _ z=>(by cases z),d',e'⟩ (λa' G=>?_) mm Z Z Z λStop fr cs h' M u=>?_
 .simp only[ae,ai,or_false]at G;rcases G with rfl|rfl<;>(intro x u;simp only[ae,ai,or_false]at u;rcases u with rfl|rfl|rfl<;>trivial)
 have C:∀ {c n:Nat} {a b:Option cC} {F:Nat->Vu} {d:Wd},wo w c n a b F->oh sft [] w d->wo d c n a b F:=λ{c n a b F d} T L y=>by
  let⟨g,h,e1,e2,l1,l2,E⟩:=T y;have o1:=λo=>Zf (w:=w) (w':=d) (a:=(O g o Q)) (L.old g l1 Zc);have o2:=λo=>Zf (w:=w) (w':=d) (a:=(O h o Q)) (L.old h l2 Zc);exact⟨g,h,e1,e2,Zg l1 L.size,Zg l2 L.size,λj H=>⟨(E j H).1,λI v R=>(o1 _).trans ((E j H).2.1 I v R),λI v R=>(o2 _).trans ((E j H).2.2 I v R)⟩⟩
 have W:∀ {ρ:oN} {m:Mem} {f':m7} {a:db} {d:Wd},fx sft [] 0 w ρ m 30 f' a d->∀k,d.heap.size<=k->sft k=0:=λM k hk=>M.new k (Zh M.size hk);refine qp 200 0 [] M Z Z nQ λi' w1 j' b3 f=>A4 f (AZ (c:=0) Za y (C T0 f.hJ) f.fit (W f)) Z Z Z (xR (c:=0) Za) Z Z Z Z Z λx w2 l=>?_;obtain⟨rfl,L2⟩:=l;refine E7 (f.still L2) 2 (.c (.v (Bo true))) Z Z Z Z Z λa3 M3=>iN 200 2 [] M3 Z Z nQ λa4 w4 p=>A4 p (AZ (c:=1) Za h1 (C T1 p.hJ) p.fit (W p)) Z Z Z (xR (c:=1) Za) Z Z Z Z Z λx w5 l=>?_;obtain⟨rfl,L5⟩:=l;refine E7 (p.still L5) 2 (.c (.v (Bo true))) Z Z Z Z Z λa6 M6=>iN 200 2 [] M6 Z Z nQ λa7 w7 t=>A4 t (AZ (c:=2) Za z (C T2 t.hJ) t.fit (W t)) Z Z Z (xR (c:=2) Za) Z Z Z Z Z λx w8 l=>?_;obtain⟨rfl,L8⟩:=l;refine E7 (t.still L8) 2 (.c (.v (Bo true))) Z Z Z Z Z λa9 M9=>iN 200 2 [] M9 Z Z nQ λk' l' c'=>B3 c' mm Z Z Z<|u _ _ ⟨Z,c'.hJ⟩
structure Os (sft κ:Nat->Nat) (w:Wd) (s0 bb:Nat) (N:Nat->Nat) (g n:Nat->Nat) (xs:Nat->List Vu) (c:Nat) (κ':Nat->Nat) (V':Nat->Vu) (N':Nat->Nat) (X':Nat->List Vu) (A':Nat->Option BkB) (w':Wd):Prop where
 b:qa sft κ' w' bb V' N' X' A'
 kp:∀q,κ' q=κ q\/κ' q=6/\q<w'.heap.size/\(q<s0->∃d,d<c/\q=g d)
 Hc:w.heap.size<=s0/\s0<=w'.heap.size
 n1:∀d,d<c->N' d=N d+4
 n2:∀d,c<=d->N' d=N d
 row:∀d,c<=d->d<3->w'.ownsRow 0 (yE d) (yZ d) (Sc (J (O (g d) 0 Q)) (n d) (n d)) (n d) (xs d)
 hJ:oh sft (pt κ w.heap.size (λx=>aI x 6)++[g 0,g 1,g 2]) w w'
section
variable{s0:Nat}{g n:Nat->Nat}{xs:Nat->List Vu}{c:Nat}{l:Nat->Vu}{o:Nat->Nat}{p:Nat->List Vu}{f:Nat->Option BkB}{b r:Wd}
theorem Os.no(j:Os sft κ w s0 bb N g n xs c κ' l o p f w')(k:κ a≠6)(m:∀d,d<c->a≠g d)(q:a<s0):f a=Q/\κ' a=κ a:=by
 have e:κ' a=κ a:=by
  rcases j.kp a with e|⟨_,_,e⟩
  all_goals grind
 refine⟨?_,e⟩
 cases h:f a with
 | none=>rfl
 | some x=>exact absurd (e.symm.trans (j.b.blk a x h).1) k
theorem Os.still(j:Os sft κ w s0 bb N g n xs c κ' l o p f b)(F:c<=3)(H:∀d,d<3->g d<w.heap.size)(I:w.heap.size<=a)(u:a<s0)(v:κ a≠6)(q:Kq [(a,0)] b r)(z:Fit sft r):Os sft κ w s0 bb N g n xs c κ' l o p f r:=by
 have h:∀k,k<b.heap.size->k≠a->r.heap[k]?=b.heap[k]?:=λk B C=>q.old k B λi E=>by obtain rfl:i=0:=Zm E;exact aA C
 have L:=(j.no v (λd R=>by grind) u).1;exact⟨j.b.same (λ_ _ _=>rfl) λq x s=>h q (j.b.blk q x s).2.lt (λe=>by grind),λy=>(j.kp y).imp_right λh=>⟨h.1,Zg h.2.1 q.size,h.2.2⟩,⟨j.Hc.1,Zh j.Hc.2 q.size⟩,j.n1,j.n2,λd m t=>j5 (j.row d m t) λq s=>h q (j8 (j.row d m t) s).2 (by obtain rfl:g d=q:=Ze s;grind),⟨Zh j.hJ.size q.size,λk m t=>(h k (Zg m j.hJ.size) Za).trans (j.hJ.old k m t),z⟩⟩
theorem Os.call(a:Os sft κ w s0 bb N g n xs c κ' l o p f b)(E:c<3)(F:∀d,d<3->g d<w.heap.size/\sft (g d)=0/\κ (g d)≠6)(z:∀d e,d<3->e<3->d≠e->g d≠g e)(hN:N c<=7036874417564)(hn:n c<=32)(a':Fit sft b)(b':∀k,b.heap.size<=k->sft k=0) :
  py main sft (yF c) #[Po (J (O bb 0 Q)),Sc (J (O (g c) 0 Q)) (n c) (n c)] b λx w'=>x=.tuple #[]/\oh sft (yW κ' b (Sc (J (O (g c) 0 Q)) (n c) (n c))) b w'/\∃c' H I R u,Os sft κ w s0 bb N g n xs (c+1) c' H I R u w':=by
 let⟨g1,g2,g3⟩:=F c E;have T:=a.Hc;have gn:=a.no g3 (λd v=>z c d E Za Za) Za;intro Stop fr cs hx;refine Pb Za a.b a' b' (a.row c (af _) E) (λq t=>?_) (by rw[a.n2 c (af _)];exact hN) Za (λj hj=>?_) Stop fr cs λx w' W=>hx x w' ⟨W.1,W.2.1,?_⟩
 .obtain rfl:g c=q:=Ze t
  grind
 .have:n c+j<=34:=by omega
  have s:aT (n c+j+1) (n c+j)<=8796093022152:=App.pj Za;have m:aT (n c+j+1) (n c+j)<=1000:=by
   unfold aT
   grind
  have B:yB c<=160:=by
   cases c,(Za:c<3) using ia
   all_goals decide
  calc _<=1000*160:=Nat.mul_le_mul m B
   _<=_:=by decide
 .let⟨_,L,H,I,R,u,G,m1,M,m3⟩:=W;have gm:∀d,d<3->g d∈[g 0,g 1,g 2]:=λd z=>by
   grind
  have ny:∀q,q<w.heap.size->κ q≠6->(∀d,d<c+1->q≠g d)->q∉yW κ' b (Sc (J (O (g c) 0 Q)) (n c) (n c)):=λq s m B y=>by
   rcases cz.1 y with y|y
   .have:=Zl (A9.1 y).2;rw[(a.no m (λd z=>B d Za) Za).2]at this;exact m this
   .exact B c Za (Zi y)
  refine⟨rm κ' u,H,I,R,u,G,λq=>?_,⟨T.1,Zh T.2 L.size⟩,λd v=>?_,λd v=>?_,λd s m=>j5 (a.row d Za m) λq t=>?_,⟨Zh a.hJ.size L.size,λq s m=>?_,L.fit⟩⟩
  .unfold rm
   by_cases h:(u q).isSome=true
   .rw[nT h]
    by_cases h6:κ q=6
    .grind
    .let⟨x,d'⟩:=cL.1 h;refine .inr ⟨Z,(G.blk q x d').2.lt,λt=>?_⟩;rcases m3 q (Zg t T.2) h with e|e
     .rcases a.kp q with C|⟨_,_,C⟩
      all_goals grind
     .exact⟨c,by omega,(Ze e).symm⟩
   .rw[nR h];rcases a.kp q with C|⟨e0,ez,C⟩
    .exact .inl C
    .exact .inr ⟨e0,Zg ez L.size,λt=>by grind⟩
  .by_cases e:d=c
   .subst e;rw[m1,a.n2 d (af _)]
   .rw[M d e,a.n1 d Za]
  .rw[M d Za,a.n2 d Za]
  .obtain rfl:g d=q:=Ze t;exact L.old _ (j8 (a.row d Za m) Z).2 (ny _ (F d m).1 (F d m).2.2 λe he=>z d e m Za Za)
  .have h6:κ q≠6:=λe=>m (fP _ (A9.2 ⟨s,by rw[e];rfl⟩));have h7:∀d,d<3->q≠g d:=λd v e=>m (cN _ (e▸gm d v));rw[L.old q (Zg s a.hJ.size) (ny q s h6 λd v=>h7 d Za),a.hJ.old q s m]
theorem Zy(B:qa sft κ w bb V N X A)(f':∀k,w.heap.size<=k->κ k≠6)(k':Fit sft w)(l':∀k,w.heap.size<=k->sft k=0)(hl:∀d,d<3->w.ownsRow 0 (yE d) (yZ d) (Sc (J (O (g d) 0 Q)) (n d) (n d)) (n d) (xs d))(hg:∀d,d<3->g d<w.heap.size/\sft (g d)=0/\κ (g d)≠6)(F:∀d e,d<3->e<3->d≠e->g d≠g e)(hN:∀c,c<3->N c<=7036874417564)(hn:∀c,c<3->n c<=32) :
  py main sft 47 #[Po (J (O bb 0 Q)),.agg #[Sc (J (O (g 0) 0 Q)) (n 0) (n 0),Sc (J (O (g 1) 0 Q)) (n 1) (n 1),Sc (J (O (g 2) 0 Q)) (n 2) (n 2)]] w λx w'=>x=.tuple #[]/\∃s0 H I R T W,Os sft κ w s0 bb N g n xs 3 H I R T W w':=by
 refine y7 (sz:=16) (ρ:=[]) (ro:=0) (W:=pt κ w.heap.size (λx=>aI x 6)++[g 0,g 1,g 2]) (m:=[]) [.c (.v (Po (J (O bb 0 Q)))),.g [.v (Sc (J (O (g 0) 0 Q)) (n 0) (n 0)),.v (Sc (J (O (g 1) 0 Q)) (n 1) (n 1)),.v (Sc (J (O (g 2) 0 Q)) (n 2) (n 2))]] ⟨λe he=>(by cases he),λi v=>(by cases v),λi j v=>(by cases v),λi _ h2=>(by cases h2),k',l'⟩ (λs hs=>?_) mj Z Z Z λStop fr cs n' M hx=>?_
 .simp only[ae,ai,or_false]at hs;rcases hs with rfl|rfl<;>first|trivial|(intro x hx;simp only[ae,ai,or_false]at hx;rcases hx with rfl|rfl|rfl<;>trivial)
 have nw:∀ {ρ:oN} {m:Mem} {G:m7} {a:db} {y:Wd},fx sft (pt κ w.heap.size (λx=>aI x 6)++[g 0,g 1,g 2]) 0 w ρ m 16 G a y->∀k,y.heap.size<=k->sft k=0:=λM k hk=>M.new k (Zh M.size hk);refine Bg 200 0 [] M Z Z Z nQ λa1 b C E q1 z=>?_;have e1:∀k,k<w.heap.size->b.heap[k]?=w.heap[k]?:=λk hk=>q1.old k hk λi v=>(by cases v)
 have O1:Os sft κ w b.heap.size bb N g n xs 0 κ V N X A b:=⟨B.same (λ_ _ _=>rfl) λq x u=>e1 q (B.blk q x u).2.lt,λq=>.inl Z,⟨q1.size,af _⟩,λd h=>absurd h (iE d),λ_ _=>rfl,λd _ h=>j5 (hl d h) λq u=>e1 q (j8 (hl d h) u).2,⟨q1.size,λk hk _=>e1 k hk,E.fit⟩⟩;have h':C<b.heap.size:=R7 E (i:=0) Zc
 have to:∀ {c:Nat} {κ':Nat->Nat} {l:Nat->Vu} {o:Nat->Nat} {p:Nat->List Vu} {f:Nat->Option BkB} {y wj:Wd} {m:Mem} {G:m7} {a:db} {H:Nat->Nat} {I:Nat->Vu} {R:Nat->Nat} {T:Nat->List Vu} {W:Nat->Option BkB},Os sft κ w b.heap.size bb N g n xs c κ' l o p f y->c<3->fx sft (pt κ w.heap.size (λx=>aI x 6)++[g 0,g 1,g 2]) 0 w [(C,0)] m 16 G a y->oh sft (yW κ' y (Sc (J (O (g c) 0 Q)) (n c) (n c))) y wj->Os sft κ w b.heap.size bb N g n xs (c+1) H I R T W wj->fx sft (pt κ w.heap.size (λx=>aI x 6)++[g 0,g 1,g 2]) 0 w [(C,0)] m 16 G a wj:=λ{c κ' l o p f y wj m G a H I R T W} t hc M L O2=>M.to L.size (λi v=>by
   obtain rfl:i=0:=Zm v;refine L.old _ (R7 M v) λhm=>?_;show False;rcases cz.1 hm with hm|hm
   .have e:=Zl (A9.1 hm).2;rcases t.kp C with e'|⟨_,_,e'⟩
    .exact f' C z (e'.symm.trans e)
    grind
   .have e:C=g c:=Zi hm
    grind) (λk h1 h2=>(O2.hJ.old k h1 h2).trans (t.hJ.old k h1 h2).symm) L.fit
 refine A4 E (O1.call (main:=main) Za hg F (hN 0 Za) (hn 0 Za) E.fit (nw E)) Z Z Z (zL (c:=0) Za) Z Z Z Z Z λx r u=>?_;obtain⟨rfl,L2,H,I,R,T,W,O2⟩:=u;refine E7 (to O1 Za E L2 O2) 1 (.t []) Z Z Z Z Z λa3 M3=>p8 200 1 [] M3 Z Z nQ λa4 w4 M4 q4=>?_;have i':∀d,d<3->g d<w.heap.size:=λd F=>(hg d F).1;have O4:=O2.still Za i' z h' (f' _ z) q4 M4.fit;refine A4 M4 (O4.call (main:=main) Za hg F (hN 1 Za) (hn 1 Za) M4.fit (nw M4)) Z Z Z (zL (c:=1) Za) Z Z Z Z Z λx w5 u=>?_;obtain⟨rfl,L5,o',V5,N5,X5,A5,O5⟩:=u;refine E7 (to O4 Za M4 L5 O5) 1 (.t []) Z Z Z Z Z λa6 M6=>p8 200 1 [] M6 Z Z nQ λa7 w7 M7 q7=>?_;have O7:=O5.still Za i' z h' (f' _ z) q7 M7.fit;refine A4 M7 (O7.call (main:=main) Za hg F (hN 2 Za) (hn 2 Za) M7.fit (nw M7)) Z Z Z (zL (c:=2) Za) Z Z Z Z Z λx w8 u=>?_;obtain⟨rfl,L8,y',V8,N8,X8,A8,O8⟩:=u;refine E7 (to O7 Za M7 L8 O8) 1 (.t []) Z Z Z Z Z λa9 M9=>p8 200 1 [] M9 Z Z nQ λE' F' j' m'=>Cr j' mj Z Z Z<|hx _ _ ⟨Z,_,_,_,_,_,_,O8.still Za i' z h' (f' _ z) m' j'.fit⟩
end
end
theorem c6X(K:aa)(e:a<3)(j:Nat):BR a (cut (qF K a) (j*yZ a) (yZ a)):=by
 cases a,(Za:a<3) using ia
 .exact λq c=>⟨_,wW _ _ _ _ c⟩
 .have n:∀q,q<20->¬(4<=q/\q<=18/\q%2=0)->W6 (cut (qF K 1) (j*yZ 1) (yZ 1)).toArray q:=λq c h=>⟨K.S j q,(wW _ _ _ _ c).trans (congrArg J (L9 K j q c h))⟩
  have b:∀q,q<20->4<=q/\q<=18/\q%2=0->xx (cut (qF K 1) (j*yZ 1) (yZ 1)).toArray q:=λq c h=>⟨K.B j q,(wW _ _ _ _ c).trans (congrArg J (W3 K j q c h))⟩
  exact⟨n 0 Za Za,n 1 Za Za,n 2 Za Za,λi d=>⟨n _ Za Za,b _ Za Za⟩,λi d=>⟨n _ Za Za,b _ Za Za⟩,n 19 Za Za⟩
 .exact λq c=>⟨_,wW _ _ _ _ c⟩
theorem DU{w:Wd}{n:Nat}(h:w.rowIs a c (n*d) q)(f:n<=gO):w.ownsRow 0 c d (Sc (J (O a 0 Q)) n n) n (cut q 0 (n*d)):=by
 let⟨g,j,k,l⟩:=h;refine⟨by simp[cut],.inr ⟨a,n,g,Z,bh _,j,af _,f,k,?_⟩⟩;apply jV;intro e;rcases bU e (n*d) with h|h
 .rw[kR h,Array.getElem?_toList,l e h];have:=wW q 0 (n*d) e h
  grind
 .rw[fh (by simp;omega),fh (by simp[cut];omega)]
theorem Nz{w:Wd}{n:Nat}(h:w.rowIs a c (n*d) q)(g:e<n):w.rangeAt a (e*d) (cut q (e*d) d):=λf v j=>by
 let⟨m,k,o,p⟩:=h;have l:f<d:=by have:=(bj.1 j).1;simpa[cut] using this
 have:(e+1)*d<=n*d:=fQ _ g;rw[jv]at this;have r:=wW q (e*d) d f l;simp only[aD,k]
 grind
def G7(a:Kb)(L:Nat->Option Lv)(κ:Nat->Nat)(w:Wd)(c:Nat->Option Lv)(κ':Nat->Nat)(w':Wd):Prop:=∀k,Mn a L w k->κ k=0\/κ k=8->κ' k=κ k/\Mn a c w' k/\w'.heap[k]?=w.heap[k]?
variable{l:List nY}{L:Nat->Option Lv}{r:Nat}{Inb:Nat->Option ic}{nG t:Nat}
theorem Grown.hJ{a:Kb}(g:Grown w w')(c:Co a l K L r Inb nG w):oh (fb l) [] w w':=⟨g.size,λk d _=>g.old k d,(c.grown g).env.fit⟩
theorem Pw.DJ(h:Pw l L r Inb nG w κ P S K t){k:Nat}(a:κ k≠0):k<w.heap.size:=(h.mw k a).mn.lt
theorem b7c{f:Kb}(j:Co f l K L r Inb nG w):py true (fb l) 33 #[Po (J (O f.bk 0 Q))] w λx w'=>∃a c e,x=rW K a c e/\Grown w w'/\qu w' a c e K/\w.heap.size<=a/\w.heap.size<=c/\w.heap.size<=e :=
 Bh λk m d=>(YQ j k m d).mono (λ_ _ _ h=>h) λg w' o=>by
  grind
def rN(a b c:Nat):Nat->Nat
 | 0=>a
 | 1=>b
 | _=>c
theorem FZ{w:Wd}{b t n:Nat}(h:w.rowIs a t n q)(k:w.rowIs b c d s)(f:t≠c):a≠b:=λe=>by
 subst e;let⟨_,g,_⟩:=h;let⟨_,j,_⟩:=k
 grind
theorem Vs(S:qu w a c d K)(f e:Nat)(k:f<3)(m:e<3)(j:f≠e):rN a c d f≠rN a c d e:=by
 have g:=FZ S.f S.s Zb;have b:=FZ S.f S.d Zb;have h:=FZ S.s S.d Zb;cases f,(Za:f<3) using ia
 all_goals
  cases e,(Za:e<3) using ia
  all_goals first|exact absurd Z j|exact g|exact b|exact h|exact aA g|exact aA b|exact aA h
theorem LO(h:Pw l L r Inb nG w κ P S K t)(ht:t<=1000000000000):py true (fb l) 18 #[Po (J (O P.bw 0 Q))] w λx w'=>x=Bo true/\∃κ' S',Pw l L r Inb nG w' κ' P S' K (t+1)/\G7 P.kb L κ w L κ' w':=by
 have C:=h.pm;refine y7 (sz:=26) (ρ:=[(P.bw,0)]) (ro:=1) (W:=pt κ w.heap.size λx=>aI x 6) (m:=[(0,0,.v (Po (J (O P.kb.bk 0 Q)))),(0,1,.v (Po (J (O P.B.b 0 Q)))),(0,4,.v (Po (J (O P.bb 0 Q))))]) [.c (.p 0 0)] ⟨λe he=>?_,λi v=>?_,λi j v hj hne=>?_,λi E F=>?_,h.fit,h.co.soft⟩ (λs hs=>?_) jN Z Z Z λStop fr cs act M hx=>?_
 .simp only[ae,ai,or_false]at he;rcases he with rfl|rfl|rfl<;>refine⟨cG,nQ,?_⟩
  .exact C.w0
  .exact C.w1
  .exact C.w4
 .obtain rfl:i=0:=Zm v;exact C.rw.1
 .grind
 .grind
 .obtain rfl:=Zi hs;exact cG
 refine p8 200 1 [] M Z Z nQ λa1 w1 M1 q1=>?_;have G':P.bw∉pt κ w.heap.size (λx=>aI x 6):=λH=>by
  have:=Zl (A9.1 H).2;rw[C.rw.2]at this;cases this
 have m':∀ {ρ:oN} {m:Mem} {p':m7} {a:db} {u:Wd},fx (fb l) (pt κ w.heap.size λx=>aI x 6) 1 w ρ m 26 p' a u->(∀k,k<w.heap.size->k≠P.bw->u.heap[k]?=w.heap[k]?)->∀k,k<w.heap.size->u.heap[k]?=w.heap[k]?:=λM h k p=>by
  by_cases e:k=P.bw
  .subst e;exact M.old _ p G'
  .exact h k p e
 have nw:∀ {ρ:oN} {m:Mem} {p':m7} {a:db} {u:Wd},fx (fb l) (pt κ w.heap.size λx=>aI x 6) 1 w ρ m 26 p' a u->∀k,u.heap.size<=k->fb l k=0:=λM k p=>M.new k (Zh M.size p);have one:∀ {u wj:Wd},Kq [(P.bw,0)] u wj->∀k,k<u.heap.size->k≠P.bw->wj.heap[k]?=u.heap[k]?:=λq k p hn=>q.old k p λi v=>by obtain rfl:i=0:=Zm v;exact aA hn
 have e1:=m' M1 (one q1);have u':=h.co.grown ⟨q1.size,e1,nQ⟩;refine A4 M1 (b7c u') Z Z Z Tryz.func33 Z Z Z Z Z λx w2 hq=>?_;obtain⟨y,z,B,rfl,G2,S2,g1,g2,g3⟩:=hq;refine E7 (M1.still (G2.hJ u')) 1 (.g [.v (Sc (J (O y 0 Q)) K.nF K.nF),.v (Sc (J (O z 0 Q)) K.nS K.nS),.v (Sc (J (O B 0 Q)) K.nD K.nD)]) Z Z Z Z Z λa3 M3=>Bg 200 1 [] M3 Z Z Z nQ λa4 w4 I M4 q4 f4=>?_;have wz1:=M1.size;have wz2:=G2.size;have e4:=m' M4 λk p hn=>by rw[one q4 k Za hn,G2.old k Za,e1 k p]
 refine A4 M4 (Py M4.fit (nw M4) (C.R.keep λk p=>e4 k (C.R.lt p)) C.sJ) Z Z Z Tryz.func45 Z Z Z Z Z λx w5 hq=>?_;obtain⟨L5,bo,gt,cb,rfl,T5,J'⟩:=hq;refine E7 (M4.still L5) 2 (.g [.v (.slice (bo 0) K.nF (cb 0)),.v (.slice (bo 1) K.nS (cb 1)),.v (.slice (bo 2) K.nD (cb 2))]) Z Z Z Z Z λa6 M6=>Bg 200 2 [] M6 Z Z Z nQ λa7 w7 R M7 q7 f7=>?_;have wz4:=q4.size;have wz5:=L5.size;have L':=q7.size;have b3l:I<w4.heap.size:=R7 M4 (i:=1) Zc;have b4l:R<w7.heap.size:=R7 M7 (i:=2) Zc;have bwl:=C.rw.1.lt;have q':∀k,k<w5.heap.size->k≠P.bw->k≠I->w7.heap[k]?=w5.heap[k]?:=λk p E F=>q7.old k p λi v=>by
  have v:i<2:=v;obtain rfl|rfl:i=0\/i=1:=by omega
  .exact aA E
  .exact aA F
 have e7:=m' M7 λk p hn=>by rw[q' k Za hn Za,L5.old k Za Zc,e4 k p]
 have n7:∀k,w.heap.size<=k->k<w2.heap.size->w7.heap[k]?=w2.heap[k]?:=λk E F=>by rw[q' k Za Za Za,L5.old k Za Zc,one q4 k F Za]
 have lF:=S2.f.lt;have lS:=S2.s.lt;have lD:=S2.d.lt;have S7:qu w7 y z B K:=S2.same λk p=>by rcases p with rfl|rfl|rfl<;>exact n7 _ Za Za
 have T7:vJ w7 K bo gt:=T5.same L' λc hc h0=>by
  have:=J' c hc h0;have:=(T5 c hc h0).2.1;exact q' _ this Za Za
 obtain⟨z1,z2,z3⟩:=h.sz;have tw:∀c gc,c<3->w7.rowIs gc (yE c) (qO K c*yZ c) (qF K c)->wo w7 c (qO K c) (J (O gc 0 Q)) (bo c) (qF K c):=λc gc hc hr h0=>by
  obtain⟨t1,t2,t3⟩:=T7 c hc h0;refine⟨gc,gt c,Z,t1,hr.lt,t2,λj hj=>⟨c6X K hc j,Nz hr hj,?_⟩⟩;have:=t3 j hj;cases c,(Za:c<3) using ia
  all_goals exact this
 have nS6:K.nS<=6:=C.sJ.i.hS;refine A4 M7 (Vp (a0:=J (O y 0 Q)) (a1:=J (O z 0 Q)) (a2:=J (O B 0 Q)) (b0':=bo 0) (b1:=bo 1) (b2:=bo 2) (n0:=K.nF) (n1:=K.nS) (n2:=K.nD) (c0:=K.nF) (c1:=K.nS) (c2:=K.nD) (d0:=cb 0) (d1:=cb 1) (d2:=cb 2) Za Za Za (tw 0 y Za S7.f) (tw 1 z Za S7.s) (tw 2 B Za S7.d) M7.fit (nw M7)) Z Z Z mm Z Z Z Z Z λx w8 hq=>?_;obtain⟨rfl,L8⟩:=hq;refine E7 (M7.still L8) 3 (.c (.v (Bo true))) Z Z Z Z Z λa9 M9=>p8 200 3 [] M9 Z Z nQ λX' X k' r'=>?_;have wz8:=L8.size;have wz10:=r'.size;have s':∀ {u wj:Wd},Kq [(P.bw,0),(I,0),(R,0)] u wj->∀k,k<u.heap.size->k≠P.bw->k≠I->k≠R->wj.heap[k]?=u.heap[k]?:=λq k p E F h3=>q.old k p λi v=>by
  have v:i<3:=v;cases i,(Za:i<3) using ia
  .exact aA E
  .exact aA F
  .exact aA h3
 have y':=m' k' λk p hn=>by rw[s' r' k Za hn Za Za,L8.old k Za Zc,e7 k p]
 have n':qu X y z B K:=S7.same λk p=>by rcases p with rfl|rfl|rfl<;>rw[s' r' _ Za Za Za Za,L8.old _ Za Zc]
 have κ0:∀k,w.heap.size<=k->κ k=0:=λk p=>by
  cases e:κ k with
  | zero=>rfl
  | succ x=>have:=h.DJ (k:=k) (by grind);omega
 have Z':qa (fb l) κ X P.bb S.bV S.bN S.bX S.bA:=C.bk.same (λ_ _ _=>rfl) λg x hg=>y' g (C.bk.blk g x hg).2.lt;have o':∀d,d<3->w.heap.size<=rN y z B d/\rN y z B d<w2.heap.size:=λd T=>by
  cases d,(Za:d<3) using ia
  .exact⟨by show w.heap.size<=y;omega,lF⟩
  .exact⟨by show w.heap.size<=z;omega,lS⟩
  .exact⟨by show w.heap.size<=B;omega,lD⟩
 have nF32:K.nF<=gO:=by simp only[gO];omega
 have nS32:K.nS<=gO:=by simp only[gO];omega
 have nD32:K.nD<=gO:=by simp only[gO];omega
 have co10:=h.co.grown (w2:=X) ⟨k'.size,y',nQ⟩
 have own:=Zy (main:=true) (g:=rN y z B) (n:=rN K.nF K.nS K.nD) (xs:=λd=>cut (qF K d) 0 (rN K.nF K.nS K.nD d*yZ d)) Z' (λk p=>by grind) k'.fit (nw k') (λd T=>by
  cases d,(Za:d<3) using ia
  .exact DU n'.f nF32
  .exact DU n'.s nS32
  .exact DU n'.d nD32) (λd T=>by
  grind) (Vs n') (λc hc=>by have:=h.tB c Za;omega) (λc hc=>by
  cases c,(Za:c<3) using ia
  .exact z2
  .show K.nS<=32;omega
  .show K.nD<=32;omega)
 have t':∀ {s0:Nat} {W:Nat->Nat} {V2:Nat->Vu} {N2:Nat->Nat} {X2:Nat->List Vu} {A2:Nat->Option BkB} {u:Wd},Os (fb l) κ X s0 P.bb S.bN (rN y z B) (rN K.nF K.nS K.nD) (λd=>cut (qF K d) 0 (rN K.nF K.nS K.nD d*yZ d)) 3 W V2 N2 X2 A2 u->(∀k,k<X.heap.size->κ k≠6->(∀d,d<3->k≠rN y z B d)->A2 k=Q/\W k=κ k/\u.heap[k]?=X.heap[k]?):=λf k p h6 hg=>by
  have:=f.no h6 hg (Zg p f.Hc.1);refine⟨this.1,this.2,f.hJ.old k p λH=>?_⟩;rcases cz.1 H with H|H
  .exact h6 (Zl (A9.1 H).2)
  .simp only[ae,ai,or_false]at H
   grind
 have pb:∀i,i<3->(ox [(P.bw,0),(I,0),(R,0)] i).1<X.heap.size/\κ (ox [(P.bw,0),(I,0),(R,0)] i).1≠6/\∀d,d<3->(ox [(P.bw,0),(I,0),(R,0)] i).1≠rN y z B d:=λi v=>by
  cases i,(Za:i<3) using ia
  .exact⟨by show P.bw<_;omega,by show κ P.bw≠6;rw[C.rw.2];decide,λd T=>by show P.bw≠_;have:=o' d T;omega⟩
  .exact⟨by show I<_;omega,by show κ I≠6;grind,λd T=>by show I≠_;have:=o' d T;omega⟩
  .exact⟨by show R<_;omega,by show κ R≠6;grind,λd T=>by show R≠_;have:=o' d T;omega⟩
 have z':∀ {s0:Nat} {W:Nat->Nat} {V2:Nat->Vu} {N2:Nat->Nat} {X2:Nat->List Vu} {A2:Nat->Option BkB} {u:Wd},Os (fb l) κ X s0 P.bb S.bN (rN y z B) (rN K.nF K.nS K.nD) (λd=>cut (qF K d) 0 (rN K.nF K.nS K.nD d*yZ d)) 3 W V2 N2 X2 A2 u->fx (fb l) (pt κ w.heap.size λx=>aI x 6) 1 w [(P.bw,0),(I,0),(R,0)] _ 26 _ X' u:=λf=>k'.to f.hJ.size (λi v=>(t' f _ (pb i v).1 (pb i v).2.1 (pb i v).2.2).2.2) (λk E F=>(t' f k Za (λe=>F (A9.2 ⟨E,by rw[e];rfl⟩)) λd T=>by have:=o' d T;omega).2.2) f.hJ.fit;refine vz [(5,J (.t []))] [] false (λs xs ρ' w'=>ρ'=[(P.bw,0),(I,0),(R,0)]/\((s=0/\w'=X)\/(s=1/\∃s0 W V2 N2 X2 A2,Os (fb l) κ X s0 P.bb S.bN (rN y z B) (rN K.nF K.nS K.nD) (λd=>cut (qF K d) 0 (rN K.nF K.nS K.nD d*yZ d)) 3 W V2 N2 X2 A2 w'))) k' Z (λ_=>rfl) (λ_=>rfl) Z Zd nQ (λs xs A' w' a' _ G E F=>?_) ⟨Z,.inl ⟨Z,Z⟩⟩ (λs j' g' hs xs o a' w' A' rest ho G Ma rd hn=>?_) λxs A' a11 w11 G lv11 wf11=>?_
 .obtain⟨e,G⟩:=G;obtain rfl:=Zk e;rcases G with⟨_,rfl⟩|⟨_,s0,W,V2,N2,X2,A2,f⟩
  .exact k'.bare E F
  .exact(z' f).bare E F
 .obtain⟨e,G⟩:=G;obtain rfl:=Zk e
  cases s with
  | succ s=>simp at hs
  | zero =>
   obtain⟨rfl,rfl⟩:=ax (Ze hs);rcases G with⟨_,rfl⟩|⟨h0,_⟩
   case inr=>cases h0
   obtain rfl:=Ze ho;refine CF own ho Z Z mj Z Z ?_ λx w' hq=>?_
   .simp only[du,cZ,eK,rd (.tmp 22) (.c (.v (Po (J (O P.bb 0 Q))))) Z,rd (.tmp 23) (.g [.v (Sc (J (O y 0 Q)) K.nF K.nF),.v (Sc (J (O z 0 Q)) K.nS K.nS),.v (Sc (J (O B 0 Q)) K.nD K.nD)]) Z];rfl
   .obtain⟨rfl,f⟩:=hq;exact hn [] w' (J (.t [])) ⟨by simp,.inr ⟨Z,f⟩⟩ (.inr Z) λsv h=>by obtain rfl:=Ze h;intro x hx;cases hx
 .obtain⟨e,G⟩:=G;obtain rfl:=Zk e;rcases G with⟨h0,_⟩|⟨_,s0,W,V2,N2,X2,A2,f⟩
  .cases h0
  refine p8 200 3 [] ((z' f).re lv11 wf11) Z Z nQ λa12 w12 l' D'=>B3 l' jN Z Z Z ?_;have kk:∀k,k<w.heap.size->W k=κ k:=λk p=>by
   rcases f.kp k with e|⟨_,_,e⟩
   .exact e
   .obtain⟨d,T,e⟩:=e (by have:=f.Hc.1;omega)
    grind
  have B12:=f.b.same (κ':=W) (w':=w12) (λ_ _ _=>rfl) λg x hg=>by
   have no:∀i,i<3->g≠(ox [(P.bw,0),(I,0),(R,0)] i).1:=λi v e=>by
    rw[e,(t' f _ (pb i v).1 (pb i v).2.1 (pb i v).2.2).1]at hg;cases hg
   exact s' D' g (f.b.blk g x hg).2.lt (no 0 Za) (no 1 Za) (no 2 Za)
  have nc:∀k,κ k≠6->k∉pt κ w.heap.size (λx=>aI x 6):=λk h6 H=>h6 (Zl (A9.1 H).2);refine hx _ _ ⟨Z,W,{ S with bV:=V2,bN:=N2,bX:=X2,bA:=A2 },h.hJ (t':=t+1) l'.hJ (λk p hl=>?_) (λk p=>kk k (h.DJ Za)) (λk p=>?_) (C.book (λk E F h6=>⟨kk k E,l'.old k E (nc k h6),(h.mw k F.1).sf⟩) B12) Z Z Z Z Z Za λc hc=>?_,λk H p=>?_⟩
  .have e:=Zl (A9.1 p).2;exact⟨h.mw k (by rw[e];decide),by rw[e];decide⟩
  .rcases f.kp k with e|⟨_,ez,e⟩
   .exact(h.mw k (by grind)).grow l'.size
   .rcases bU k w.heap.size with hl|hl
    .exact(h.mw k (by grind)).grow l'.size
    .exact h.co.new hl (by have:=D'.size;omega)
  .have:=h.tB c hc
   by_cases hc3:c<3
   .have:=f.n1 c hc3;show N2 c<=_;omega
   .have:=f.n2 c Za;show N2 c<=_;omega
  .exact⟨kk k H.lt,H.grow l'.size,l'.old k H.lt (nc k Za)⟩
variable{I:Kb}{B0:Nat}{U:Nat->Option nY}
section
variable{b:Lb}
theorem Us{sft:Nat->Nat}{main:Bool}(o:Fit sft w)(p:w.cell? (O a 1 Q)=J (Sc (J (O c 0 Q)) n n))(s:Int):py main sft 48 #[Po (J (O a 0 Q)),vi s] w λx w'=>x=Bo (oZ s n)/\oh sft [] w w':=by
 refine xQ o Zd (R:=λx v f=>x=Bo (oZ s n)/\f=v) (λd v g=>(KW v a c n s (by rw[g.cell];exact p)).mono λe f h=>⟨_,h.1,Z,h.2⟩) ?_;rintro d x v f w' g j m ⟨rfl,rfl⟩;exact⟨Z,m.size,λk _ _=>C7 (w:=w.at d) m g j Z,j.fit⟩
theorem b4A{sft:Nat->Nat}{main:Bool}(p:Fit sft w)(q:∀k,w.heap.size<=k->sft k=0)(s:w.cell? (O a 1 Q)=J (Sc (J (O d 0 Q)) n n))(u:a<w.heap.size)(c:oZ f n=false):py main sft 52 #[Po (J (O a 0 Q)),vi f] w λx w'=>x=.tuple #[Sc Q 0 0,vi 3]/\oh sft [] w w':=by
 refine y7 (sz:=30) (ρ:=[]) (ro:=0) (W:=[]) (m:=[]) [.c (.v (Po (J (O a 0 Q)))),.c (ci f)] ⟨λe v=>(by cases v),λi h=>(by cases h),λi j h=>(by cases h),λi _ y=>(by cases y),p,q⟩ (λf c=>?_) iw Z Z Z λStop F H R M z=>?_
 .simp only[ae,ai,or_false]at c;rcases c with rfl|rfl<;>trivial
 refine iN 200 0 [] M Z Z nQ λT W g=>A4 g (Us g.fit ((Zf (w:=w) (g.old a u Zc)).trans s) f) Z Z Z iW Z Z Z Z Z λx G B=>?_;obtain⟨rfl,C⟩:=B;refine E7 (g.still C) 0 (.c (.v (Bo (oZ f n)))) Z Z Z Z Z λX E=>iN 200 0 [] E Z Z nQ λa4 w4 m=>oF m Z (by rw[c];rfl)<|iN 200 0 [] m Z Z nQ λa5 w5 o=>B3 o iw Z Z Z<|z _ _ ⟨Z,o.hJ⟩
theorem YD(c:Co I l K L r Inb nG w)(e:pA I l L w b n B0 U V N Xs)(f:a<n)(k:N a<=4398046511104)(m:∀x∈Xs a,x.oneCell'=true):py true (fb l) 52 #[Po (J (O b.bl 0 Q)),vi a] w λx w'=>x=.tuple #[Sc (J (O w.heap.size 0 Q)) (N a) (N a),vi 0]/\oh (fb l) [] w w'/\w'.rowIs w.heap.size 92 (N a*5) (λj=>(Xs a).getD j (Bo false)) :=
 Bh λo p d=>(Vb c e f k m o p d).mono (λ_ _ _ h=>h) λg w' q=>by
  obtain⟨x,rfl,s,u,v⟩:=q;exact⟨_,Z,u,s.hJ c,v⟩
def VE:List bm:=match Tryz.f23.body with
 | some (.seq _ (.seq _ (.seq _ (.seq _ (.seq _ c)))))=>[.code c]
 | _=>[]
theorem Pw.off(h:Pw l L r Inb nG w κ P S K t)(c:w.heap.size<=a):κ a=0:=by
 cases e:κ a with
 | zero=>rfl
 | succ x=>have:=(h.mw a (by grind)).mn.lt;omega
theorem PX(h:Pw l L r Inb nG w κ P S K t)(ht:t<=1000000000000){C:Option cC}{a':db}(m:a<=1000000000000)(p:w'.ownsRow 0 92 5 (.slice C a a) a x)(v:∀g,(dm C a a).ownBlock=J g->w.heap.size<=g)(M:fx (fb l) [] 1 w [(P.bw,0)] [(0,4,.v (Po (J (O P.bb 0 Q))))] 60 [(0,.c (.p 0 0)),(7,.c (.v (.slice C a a)))] a' w'){Stop:Gr->Wd->Prop}{fr:Fm'}{cs:List Fm'}(hx:∀w',(∃κ' S',Pw l L r Inb nG w' κ' P S' K (t+1)/\G7 P.kb L κ w L κ' w')->iv J' true true (fb l) Stop (G (fr.finish (Bo true)) cs) w'):iv J' true true (fb l) Stop (G ((base 23).at a' VE) (fr::cs)) w':=by
 have o:=h.pm;refine p8 200 1 [] M Z Z nQ λa1 y q q1=>?_;have d':y.ownsRow 0 (yE 3) (yZ 3) (.slice C a a) a x:=j5 p λg s=>q1.old g (j8 p s).2 λi E=>by
  obtain rfl:i=0:=Zm E;have:=o.rw.1.lt;have:=v g s;show P.bw≠g;omega
 have e1:∀k,k<w.heap.size->y.heap[k]?=w.heap[k]?:=λk d=>q.old k d Zc;have B1:qa (fb l) κ y P.bb S.bV S.bN S.bX S.bA:=o.bk.same (λ_ _ _=>rfl) λg f v=>e1 g (o.bk.blk g f v).2.lt;have nA:∀k,w.heap.size<=k->S.bA k=none:=λk d=>by
  cases e:S.bA k with
  | none=>rfl
  | some f=>have:=(o.bk.blk k f e).2.lt;omega
 have tB:=h.tB 3 Za;refine A4 q (Pb (c:=3) Za B1 q.fit (λk d=>q.new k (Zh q.size d)) d' (λg s=>⟨h.co.soft g (v g s),nA g (v g s)⟩) Za Za λj hj=>Hj Za) Z Z Z (zL (c:=3) Za) Z Z Z Z Z λf R hq=>?_;obtain⟨rfl,T,V2,N2,X2,z,W,n1,n2,o2⟩:=hq;have z1:=q.size;have z2:=T.size;have ny:∀k,k<y.heap.size->κ k≠6->(dm C a a).ownBlock≠J k->R.heap[k]?=y.heap[k]?:=λk d u hn=>T.old k d λm=>by
  rcases cz.1 m with m|m
  .exact u (Zl (A9.1 m).2)
  grind
 have c':∀k,k<w.heap.size->κ k≠6->R.heap[k]?=y.heap[k]?:=λk d u=>ny k Za u λe=>by have:=v k e;omega
 have M2:=(q.pI (W':=pt κ w.heap.size λf=>aI f 6) Zc).to (w':=R) z2 (λi E=>by
  obtain rfl:i=0:=Zm E
  exact c' P.bw o.rw.1.lt (by rw[o.rw.2];decide)) (λk F X=>c' k F λe=>X (A9.2 ⟨F,by rw[e];rfl⟩)) T.fit
 refine E7 M2 1 (.t []) Z Z Z Z Z λa3 M3=>p8 200 1 [] M3 Z Z nQ λa4 w4 B q4=>B3 B jM Z Z Z ?_;have H:∀k,k<w.heap.size->rm κ z k=κ k:=λk d=>by
  unfold rm
  grind
 have f':z P.bw=none:=by
  cases e:z P.bw with
  | none=>rfl
  | some f =>
   have:=H P.bw o.rw.1.lt;rw[(W.blk _ _ e).1,o.rw.2]at this;cases this
 have B4:=W.same (κ':=rm κ z) (w':=w4) (λ_ _ _=>rfl) λg f s=>q4.old g (W.blk g f s).2.lt λi E=>by
  obtain rfl:i=0:=Zm E;intro e;have e:P.bw=g:=e
  grind
 have nc:∀k,κ k≠6->k∉pt κ w.heap.size (λf=>aI f 6):=λk u m=>u (Zl (A9.1 m).2);refine hx _ ⟨rm κ z,{ S with bV:=V2,bN:=N2,bX:=X2,bA:=z },h.hJ (t':=t+1) B.hJ (λk d p=>?_) (λk d=>H k (h.DJ Za)) (λk d=>?_) (o.book (λk F X u=>⟨H k F,B.old k F (nc k u),(h.mw k X.1).sf⟩) B4) Z Z Z Z Z Za λc hc=>?_,λk m d=>?_⟩
 .have e:=Zl (A9.1 d).2;exact⟨h.mw k (by rw[e];decide),by rw[e];decide⟩
 .rcases bU k w.heap.size with p|p
  .exact(h.mw k (by grind)).grow B.size
  .refine h.co.new p ?_;unfold rm at d;split at d
   .next e=>let⟨f,e'⟩:=cL.1 e;have:=(B4.blk k f e').2.lt;exact this
   .exact absurd (h.off p) d
 .have:=h.tB c hc
  grind
 .exact⟨H k m.lt,m.grow B.size,B.old k m.lt (nc k Za)⟩
theorem PT(h:Pw l L r Inb nG w κ P S K t)(ht:t<=1000000000000){i:Nat}(d:i<2)(s:Int):py true (fb l) 23 #[Po (J (O P.bw 0 Q)),vi i,vi s] w λx w'=>x=Bo true/\∃κ' S',Pw l L r Inb nG w' κ' P S' K (t+1)/\G7 P.kb L κ w L κ' w':=by
 have f:=h.pm;refine y7 (sz:=60) (ρ:=[(P.bw,0)]) (ro:=1) (W:=[]) (m:=[(0,2,.v (Sc (J (O P.wl 0 Q)) 2 P.cl)),(0,3,.v (Sc (J (O P.wm 0 Q)) 2 P.cm)),(0,4,.v (Po (J (O P.bb 0 Q))))]) [.c (.p 0 0),.c (ci i),.c (ci s)] ⟨λe he=>?_,λi d=>?_,λi j d F J'=>?_,λi h1 h2=>?_,h.fit,h.co.soft⟩ (λs hs=>?_) jM Z Z Z λStop fr cs O' M hx=>?_
 .simp only[ae,ai,or_false]at he;rcases he with rfl|rfl|rfl<;>refine⟨cG,nQ,?_⟩
  .exact f.w2
  .exact f.w3
  .exact f.w4
 .obtain rfl:i=0:=Zm d;exact f.rw.1
 .grind
 .grind
 .simp only[ae,ai,or_false]at hs;rcases hs with rfl|rfl|rfl<;>first|trivial|exact cG
 have lm:=h.lm i d;have H:∀ {R:oN} {m:Mem} {T:m7} {a:db} {y:Wd},fx (fb l) [] 1 w R m 60 T a y->∀k,y.heap.size<=k->fb l k=0:=λM k W=>M.new k (Zh M.size W);have gr:∀ {R:oN} {m:Mem} {T:m7} {a:db} {y:Wd},fx (fb l) [] 1 w R m 60 T a y->Grown w y:=λM=>⟨M.size,λk W=>M.old k W Zc,nQ⟩
 refine iN 200 1 [[Po (J (O ((P.lb i).bl) 0 Q))]] M Z Z ⟨⟨nQ,by omega⟩,⟨f.r4.1.lt,by simp,by simpa using(f.l i d).1⟩⟩ λa1 w1 C=>?_;have rl:∀ {R:oN} {m:Mem} {T:m7} {a:db} {y:Wd},fx (fb l) [] 1 w R m 60 T a y->oM (fb l) κ i y (P.rb i) P.B.b P.n (S.ts i) (S.D i) (S.N i) (S.Xs i):=λM=>(f.rl i d).same λk W _=>⟨Z,M.old k W Zc⟩
 cases hb:oZ s P.n with
 | false =>
  have c':=lm.grown (gr C);refine A4 C (b4A C.fit (H C) c'.m.is.k1 c'.m.qS.mn.lt hb) Z Z Z iw Z Z Z Z Z λx w2 c=>?_;obtain⟨rfl,L2⟩:=c;refine E7 (C.still L2) 1 (.t [.c (.v (Sc Q 0 0)),.c (ci 3)]) Z Z Z Z Z λa3 G=>iN 200 1 [[Po (J (O ((P.rb i).bl) 0 Q))]] G Z Z ⟨⟨nQ,by omega⟩,⟨f.r5.1.lt,by simp,by simpa using(f.l i d).2⟩⟩ λa4 w4 z=>A4 z (JQ (rl z) z.fit (H z) s) Z Z Z jY Z Z Z Z Z λx w5 c=>?_;let⟨L5,c⟩:=c;rcases c with⟨_,rfl⟩|⟨p,rfl,E,_⟩
  rotate_left
  .simp[oZ]at hb;omega
  refine E7 (z.still L5) 1 (.t [.c (.v (Sc Q 0 0)),.c (ci 3)]) Z Z Z Z Z λa6 M6=>iN 200 1 [] M6 Z Z nQ λa7 w7 B=>A4 B (AZ (c:=3) (n:=0) (F:=λ_=>Bo false) Za Za (λh=>absurd h (iO 0)) B.fit (H B)) Z Z Z (xR (c:=3) Za) Z Z Z Z Z λx w8 c=>?_;obtain⟨rfl,L8⟩:=c;refine E7 (B.still L8) 1 (.c (.v (Bo true))) Z Z Z Z Z λa9 M9=>iN 200 1 [] M9 Z Z nQ λi' j' X=>An (op:=.binOp .neq 88 (.tmp 50) (.const (Sc Q 0 0)) 88) (.c (.v (Bo false))) X Z Z Z Zd Z Z Z nQ (λo u ho hu=>?_) λT' k'=>?_
  .have l':=(X.rd (x:=.tmp 50) (s:=.c (.v (Sc Q 0 0))) Z).1;unfold Ex;simp only[ho,l'];rfl
  refine iN 200 1 [] k' Z Z nQ λU' V' f'=>oC f' Z Z<|iN 1 1 [] f' Z Z nQ λm' n' e'=>PX h ht Za (dh _ _ _ _) (λg hg=>(by cases hg)) (fx.alike (ρ:=[(P.bw,0)]) [] e' 1 Z Z Z) λw' hP=>hx _ _ ⟨Z,hP⟩
 | true =>
  simp only[oZ,aC,decide_eq_true_eq]at hb;obtain⟨p,rfl⟩:=cV hb.1;have E:p<P.n:=by omega
  have tN:=h.tN i p d E;have o':=h.co.grown (gr C);have c':=lm.grown (gr C);refine A4 C (YD o' c'.m E Za λx hx=>by obtain⟨v,rfl⟩:=h.xi i p x d E hx;rfl) Z Z Z iw Z Z Z Z Z λx w2 c=>?_;obtain⟨rfl,L2,q'⟩:=c;have z1:=C.size;generalize Y':w1.heap.size=g at *;refine E7 (C.still L2) 1 (.t [.c (.v (Sc (J (O g 0 Q)) (S.N i p) (S.N i p))),.c (ci 0)]) Z Z Z Z Z λa3 G=>?_;have Z':=f.rw.1.lt
  have kr:∀ {y wj:Wd},Kq [(P.bw,0)] y wj->y.rowIs g 92 (S.N i p*5) (λj=>(S.Xs i p).getD j (Bo false))->wj.rowIs g 92 (S.N i p*5) (λj=>(S.Xs i p).getD j (Bo false)):=λq hr=>hr.of_block (q.old g hr.lt λi d=>by
   obtain rfl:i=0:=Zm d
   show P.bw≠g;omega)
  refine p8 200 1 [[Po (J (O ((P.rb i).bl) 0 Q))]] G Z Z ⟨⟨nQ,by omega⟩,⟨by have:=f.r5.1.lt;have:=G.size;grind,by simp,by simpa using(Zf (w:=w) (a:=(O P.wm i Q)) (G.old P.wm f.r5.1.lt Zc)).trans (f.l i d).2⟩⟩ λa4 w4 z q4=>?_;have h':=kr q4 q';refine A4 z (JQ (rl z) z.fit (H z) p) Z Z Z jY Z Z Z Z Z λx w5 c=>?_;let⟨L5,c⟩:=c;rcases c with⟨r',_⟩|⟨p',e,_,rfl⟩
  .simp[oZ]at r';omega
  obtain rfl:p=p':=by omega
  have t':=h'.of_block (w':=w5) (L5.old g h'.lt Zc);obtain⟨ab,cb,eD⟩:∃ab cb,S.D i p=.slice ab (S.N i p) cb:=by
   rcases((f.rl i d).own p E).2 with⟨e,e0⟩|⟨gd,cp,v',e,_⟩
   all_goals grind
  rw[eD];refine E7 (z.still L5) 1 (.t [.c (.v (.slice ab (S.N i p) cb)),.c (ci 0)]) Z Z Z Z Z λa6 M6=>p8 200 1 [] M6 Z Z nQ λa7 w7 B q7=>?_;have d':=kr q7 t';have a':=(rl B).own p E;have tw:wo w7 3 (S.N i p) (J (O g 0 Q)) ab (λj=>(S.Xs i p).getD j (Bo false)):=λh0=>by
   rw[eD]at a';obtain⟨xl,⟨_,e⟩|⟨gd,cp,v',e,_,z',_⟩⟩:=a'
   .omega
   obtain⟨rfl,_,rfl⟩:=fS e;have a':=(rl B).own p E;rw[eD]at a';have rj:∀j q,j<S.N i p->q<5->∃v,(S.Xs i p)[j*5+q]?=J (vi v):=λj q F c=>by
    have A':j*5+q<(S.Xs i p).length:=by grind
    let⟨v,e⟩:=h.xi i p _ d E (List.getElem_mem A')
    grind
   refine⟨g,gd,Z,Z,d'.lt,(Zj z').1,λj F=>⟨λq c=>?_,Nz d' F,λq v hv=>?_⟩⟩
   .let⟨v,e⟩:=rj j q F c;refine⟨v,(wW _ _ _ _ c).trans ?_⟩;show J ((S.Xs i p).getD (j*5+q) (Bo false))=_
    grind
   .have c:q<5:=by have:=(bj.1 hv).1;simpa[cut,yZ] using this
    let⟨u,e⟩:=rj j q F c;have B':v=(S.Xs i p).getD (j*5+q) (Bo false):=by
     have:=wW (λj=>(S.Xs i p).getD j (Bo false)) (j*yZ 3) (yZ 3) q c;simp only[List.getElem?_toArray]at this;rw[this]at hv;exact(Ze hv).symm
    have:=a'.cells (g:=gd) Z _ _ e;rw[eO,aE]at this;rw[B',cK,e];exact this
  refine A4 B (AZ (c:=3) Za Za tw B.fit (H B)) Z Z Z (xR (c:=3) Za) Z Z Z Z Z λx w8 c=>?_;obtain⟨rfl,L8⟩:=c;have C':=d'.of_block (w':=w8) (L8.old g d'.lt Zc);refine E7 (B.still L8) 1 (.c (.v (Bo true))) Z Z Z Z Z λa9 M9=>p8 200 1 [] M9 Z Z nQ λi' j' X D'=>?_;have E':=kr D' C';refine oC X Z Z<|p8 1 1 [] X Z Z nQ λm' n' e' F'=>?_;have G':=kr F' E';exact PX h ht Za (DU G' (by simp only[gO];omega)) (λg' I'=>by obtain rfl:g=g':=Ze I';omega) (fx.alike (ρ:=[(P.bw,0)]) [] e' 1 Z Z Z) λw' hP=>hx _ _ ⟨Z,hP⟩
end
theorem Pw.less(h:Pw l L (r+1) Inb nG w κ P S K t):Pw l L r Inb nG w κ P S K t:={ h with co:=h.co.less Za }
theorem Pw.later(h:Pw l L r Inb nG w κ P S K t)(g:t<=a):Pw l L r Inb nG w κ P S K a:={ h with tN:=λi p d f=>Zh (h.tN i p d f) g,tL:=λi p T d f e=>Zh (h.tL i p T d f e) g,tB:=λc j=>Zh (h.tB c j) Za }
theorem Pw.grown(h:Pw l L r Inb nG w κ P S K t)(F:oh (fb l) [] w w'):Pw l L r Inb nG w' κ P S K t :=
 h.hJ F (λk a=>(by cases a)) (λ_ _=>rfl) (λk a=>(h.mw k a).grow F.size) (h.pm.move λk a c=>⟨Z,F.old k a Zc,(h.mw k c.1).sf⟩) Z Z Z Z Z (af _) h.tB
theorem Pw.Aw(h:Pw l L r Inb nG w κ P S K t){k:Nat}(f:κ k=0)(c:Mw P.kb l L w k):Pw l L r Inb nG w (aj κ k 8) P S K t:=by
 have d:∀q,κ q≠0->aj κ k 8 q=κ q:=λq a=>az _ _ λe=>a (by rw[e];exact f);refine h.hJ (W:=[]) ⟨af _,λ_ _ _=>rfl,h.fit⟩ (λk g=>(by cases g)) (λq a=>d q Za) (λq a=>?_) (h.pm.move λq _ c=>⟨d q c.1,Z,(h.mw q c.1).sf⟩) Z Z Z Z Z (af _) h.tB
 by_cases e:q=k
 .subst e;exact c
 .rw[az _ _ e]at a;exact h.mw q a
abbrev Pq(a s c d e f g h j:Int)(k:Bool):List ou:=[ci a,ci s,ci c,ci d,ci e,ci f,ci g,ci h,ci j,.v (Bo k)]
abbrev wJ(P:Wp)(a s c d e f g h j:Int)(k:Bool):Mem:=[(0,0,.v (Po (J (O P.kb.bk 0 Q)))),(0,1,.v (Po (J (O P.B.b 0 Q)))),(0,2,.v (Sc (J (O P.wl 0 Q)) 2 P.cl)),(0,3,.v (Sc (J (O P.wm 0 Q)) 2 P.cm)),(0,4,.v (Po (J (O P.bb 0 Q)))),(1,0,ci a),(1,1,ci s),(1,2,ci c),(1,3,ci d),(1,4,ci e),(1,5,ci f),(1,6,ci g),(1,7,ci h),(1,8,ci j),(1,9,.v (Bo k))]
structure Pg (l:List nY) (L:Nat->Option Lv) (r:Nat) (Inb:Nat->Option ic) (nG:Nat) (w:Wd) (κ:Nat->Nat) (P:Wp) (U:Nat->Nat->Option nY) (V:Nat->Nat->Vu) (N:Nat->Nat->Nat) (Xs:Nat->Nat->List Vu) (K:aa):Prop where
 co:Co P.kb l K L r Inb nG w
 nS:K.nS=P.n
 lm:∀i,i<2->oY P.kb l L w (P.lb i) P.n (P.B0 i) (U i) (V i) (N i) (Xs i)
 lc:∀i,i<2->κ (P.lb i).bl=300+100*i/\κ (P.lb i).bu=301+100*i/\κ (P.lb i).bn=302+100*i/\∀p g,p<P.n->(V i p).ownBlock=J g->κ g=310+100*i+p
 mw:∀k,κ k≠0->Mw P.kb l L w k
 one:∀i p j q o o',i<2->j<2->p<P.n->q<P.n->U i p=J o->U j q=J o'->o.gid=o'.gid->i=j/\p=q
 all:∀g v,L g=J v->∃i p,i<2/\p<P.n/\U i p=J v.C.o
 sz:2<=K.nF/\K.nF<=32/\K.nD<=4
 pos:0<nG
section
variable{n:Nat->Nat->Option nY}{f:Nat->Nat->Vu}{N:Nat->Nat->Nat}{s:Nat->Nat->List Vu}
theorem Pw.pg(h:Pw l L r Inb nG w κ P S K t):Pg l L r Inb nG w κ P S.U S.V S.N S.Xs K:=⟨h.co,h.nS,h.lm,h.lc,h.mw,h.one,h.all,h.sz,h.pos⟩
theorem Pg.hJ{W:List Nat}(h:Pg l L r Inb nG w κ P n f N s K)(F:oh (fb l) W w w')(v:∀k,k∈W->k<w.heap.size->Mw P.kb l L w k/\κ k<300)(z:∀k,300<=κ k->κ' k=κ k)(x:∀k,κ' k≠0->Mw P.kb l L w' k):Pg l L r Inb nG w' κ' P n f N s K:=by
 have d:∀k,300<=κ k->w'.heap[k]?=w.heap[k]?:=λk j=>by
  have m:=h.mw k Za;exact F.old k m.mn.lt λo=>by have:=(v k o m.mn.lt).2;omega
 refine⟨h.co.wrote F.size nQ λk j y=>F.old k j λo=>y (v k o j).1,h.nS,λi e=>?_,λi e=>?_,x,h.one,h.all,h.sz,h.pos⟩
 .have a:=h.lm i e;have c:=h.lc i e;exact⟨⟨a.m.is.same (d _ (by rw[c.1];omega)) (d _ (by rw[c.2.1];omega)) (d _ (by rw[c.2.2.1];omega)) λp q g u=>d g (by rw[c.2.2.2 p g q u];omega),a.m.qS.grow F.size,a.m.qK.grow F.size,a.m.rO.grow F.size,λp q g u=>(a.m.ry p q g u).grow F.size,a.m.b0⟩,a.live⟩
 .have c:=h.lc i e
  grind
theorem Pg.more{i:Nat}{v:Nat->Option ic}(h:Pg l L (r+1) Inb nG w κ P n f N s K)(T:i<2)(W:a<P.n)(G:n i a=J E.C.o)(M:L E.C.o.gid=J E)(x:F.C=E.C)(X:Co P.kb l B (aj L E.C.o.gid (J F)) r v nG w')(y:Kp P.kb L w (aj L E.C.o.gid (J F)) w')(d:B.nF=K.nF/\B.nS=K.nS/\B.nD=K.nD):Pg l (aj L E.C.o.gid (J F)) r v nG w' κ P n f N s B:=by
 refine⟨X,d.2.1.trans h.nS,λj m=>⟨(h.lm j m).m.turn y,λq z o C=>?_⟩,h.lc,λk hk=>(h.mw k hk).kp y,h.one,λg u p=>?_,by rw[d.1,d.2.2];exact h.sz,h.pos⟩
 .let⟨u,c,H,R⟩:=(h.lm j m).live q z o C
  by_cases e:o.gid=E.C.o.gid
  .obtain⟨rfl,rfl⟩:=h.one j q i a o E.C.o m T z W C G e;rw[e]at c ⊢;rw[M]at c;cases Ze c;exact⟨F,by rw[aH],by rw[x];exact H,by rw[x];exact R⟩
  .exact⟨u,by rw[az _ _ e];exact c,H,R⟩
 .by_cases e:g=E.C.o.gid
  .rw[e,aH]at p
   grind
  .rw[az _ _ e]at p;exact h.all g u p
theorem Pg.over{i:Nat}{d':Nat->Option ic}(h:Pg l L (r+1) Inb nG w κ P n f N s K)(hi:i<2)(hp:a<P.n)(hU:n i a=J E.C.o)(hL:L E.C.o.gid=J E)(hg:∀k,Mn P.kb L w k->¬rY (P.lb i) (f i) a k->k≠d)(co:Co P.kb l B (aj L E.C.o.gid Q) r d' nG w')(kp:∀k,Mn P.kb L w k->¬rY (P.lb i) (f i) a k->Mn P.kb (aj L E.C.o.gid Q) w' k/\w'.heap[k]?=w.heap[k]?)(R:oY P.kb l (aj L E.C.o.gid Q) w' (P.lb i) P.n (P.B0 i) (qt (n i) a) (qg (f i) a (Sc (J (O d 0 Q)) (N i a+1) e)) (qg (N i) a (N i a+1)) (qg (s i) a x))(hs:B.nF=K.nF/\B.nS=K.nS/\B.nD=K.nD) :
  ∃κ',Pg l (aj L E.C.o.gid Q) r d' nG w' κ' P (oy n i (qt (n i) a)) (oy f i (qg (f i) a (Sc (J (O d 0 Q)) (N i a+1) e))) (oy N i (qg (N i) a (N i a+1))) (oy s i (qg (s i) a x)) B/\∀k,Mn P.kb L w k->κ k<300->κ' k=κ k/\Mn P.kb (aj L E.C.o.gid Q) w' k/\w'.heap[k]?=w.heap[k]?:=by
 have X:=h.lc i hi;have ex:∀k,rY (P.lb i) (f i) a k->κ k=301+100*i\/κ k=302+100*i\/κ k=310+100*i+a:=λk hk=>by
  rcases hk with rfl|rfl|hk
  all_goals grind
 have T:∀k,κ k≠0->¬rY (P.lb i) (f i) a k->Mw P.kb l (aj L E.C.o.gid Q) w' k/\w'.heap[k]?=w.heap[k]?/\k≠d:=λk h0 F=>by
  have m:=h.mw k h0;exact⟨⟨(kp k m.mn F).1,m.bk,m.oT,m.rc⟩,(kp k m.mn F).2,hg k m.mn F⟩
 generalize g':(λk=>if k=d then 310+100*i+a else if (f i a).ownBlock=J k then 0 else κ k)=κ';have e':κ' d=310+100*i+a:=by grind
 have b':∀k,k≠d->(f i a).ownBlock≠J k->κ' k=κ k:=λk h1 h2=>by
  grind
 have W:∀k,κ k≠0->¬rY (P.lb i) (f i) a k->κ' k=κ k:=λk h0 F=>b' k (T k h0 F).2.2 λp=>F (.inr (.inr p));have h':=(h.lm i hi).m.is.small;have gB:=(j8 (R.m.is.own a hp) (g:=d) (by simp[qg,Value.ownBlock])).1;have ne:=R.m.is.ne;refine⟨κ',⟨co,hs.2.1.trans h.nS,λj G=>?_,λj G=>?_,λk hk=>?_,λH b c a' o o' ha hc hb hd h1 h2 he=>?_,λy u M=>?_,by rw[hs.1,hs.2.2];exact h.sz,h.pos⟩,λk hm h3=>?_⟩
 .by_cases p:j=i
  .subst p;simp only[oy,if_true];exact R
  .simp only[oy,nR p];have g:=h.lc j G;have lm:=h.lm j G;have no:∀ {k c},κ k=300+100*j+c->c<100->¬rY (P.lb i) (f i) a k:=λ{k c} hc hl C=>by have:=ex k C;omega
   have I:=T _ (by rw[g.1];omega) (no (c:=0) g.1 Za);have ku:=T _ (by rw[g.2.1];omega) (no (c:=1) (by rw[g.2.1];omega) Za);have kn:=T _ (by rw[g.2.2.1];omega) (no (c:=2) (by rw[g.2.2.1];omega) Za);have kl:∀q,q<P.n->∀y,(f j q).ownBlock=J y->_:=λq v y z=>T y (by rw[g.2.2.2 q y v z];omega) (no (c:=10+q) (by rw[g.2.2.2 q y v z];omega) Za);refine⟨⟨lm.m.is.same I.2.1 ku.2.1 kn.2.1 λq v y z=>(kl q v y z).2.1,I.1,ku.1,kn.1,λq v y z=>(kl q v y z).1,lm.m.b0⟩,λq v o ho=>?_⟩;let⟨u,h1,h2,h3⟩:=lm.live q v o ho;exact⟨u,by rw[az _ _ λeg=>p (h.one j q i a o E.C.o G hi v hp ho hU eg).1];exact h1,h2,h3⟩
 .by_cases p:j=i
  .subst p;have nb:¬rY (P.lb j) (f j) a (P.lb j).bl:=λC=>by grind
   refine⟨(W _ (by rw[X.1];omega) nb).trans X.1,(b' _ Za λp=>by grind).trans X.2.1,(b' _ Za λp=>by grind).trans X.2.2.1,λq y v z=>?_⟩;simp only[oy,if_true,qg]at z
   by_cases eq:q=a
   .subst eq;rw[nT Z]at z;obtain rfl:d=y:=Ze z;exact e'
   grind
  .have g:=h.lc j G;have no:∀ {k c},κ k=300+100*j+c->c<100->¬rY (P.lb i) (f i) a k:=λ{k c} hc hl C=>by have:=ex k C;omega
   simp only[oy,nR p];exact⟨(W _ (by rw[g.1];omega) (no (c:=0) g.1 Za)).trans g.1,(W _ (by rw[g.2.1];omega) (no (c:=1) (by rw[g.2.1];omega) Za)).trans g.2.1,(W _ (by rw[g.2.2.1];omega) (no (c:=2) (by rw[g.2.2.1];omega) Za)).trans g.2.2.1,λq y v z=>(W y (by rw[g.2.2.2 q y v z];omega) (no (c:=10+q) (by rw[g.2.2.2 q y v z];omega) Za)).trans (g.2.2.2 q y v z)⟩
 .by_cases p:k=d
  .subst p;exact R.m.ry a hp k (by simp[qg,Value.ownBlock])
  .by_cases e2:(f i a).ownBlock=J k
   .grind
   .rw[b' k p e2]at hk
    by_cases C:rY (P.lb i) (f i) a k
    .rcases C with rfl|rfl|C
     .exact R.m.qK
     .exact R.m.rO
     grind
    grind
 .have un:∀ {H b:Nat} {o:nY},oy n i (qt (n i) a) H b=J o->n H b=J o:=λ{H b o} hh=>by
   unfold oy qt at hh;split at hh
   all_goals grind
  exact h.one H b c a' o o' ha hc hb hd (un h1) (un h2) he
 .by_cases p:y=E.C.o.gid
  .rw[p,aH]at M;cases M
  .rw[az _ _ p]at M;let⟨H,b,ha,hb,c'⟩:=h.all y u M;refine⟨H,b,ha,hb,?_⟩;unfold oy qt;split
   .next e1 =>
    subst e1;dsimp only;split
    .next e2 =>
     subst e2;rw[hU]at c';exact absurd ((h.co.gid y u M).1.symm.trans (congrArg nY.gid (Ze c')).symm) p
    .exact c'
   .exact c'
 .have F:¬rY (P.lb i) (f i) a k:=λC=>by have:=ex k C;omega
  grind
end
variable{v:Lv}{p:Nat}
section
variable{t:pU}
theorem Tie.next(h:Tie v p t)(K:aa):v.C.kd=t.kd/\v.C.A=t.A/\v.C.B=t.Bb/\(1<=t.kd/\t.kd<=7)/\(v.S K=λm=>m8 v.C p (t.K0 K) (t.Ls++m))/\yb (m8 v.C p (t.K0 K)) t.Ls/\pV t.Ls/\∃o a b c,m8 v.C p (t.K0 K) t.Ls=.call o a b c:=by
 cases t with
 | fresh z A B =>
  let⟨d,f,j,k,g⟩:=h;exact⟨d,f,j,g,by rw[k];rfl,λd x e f h=>(by simp[pU.Ls]at h),λx q=>(by cases q),c2C (by rw[d];exact g)⟩
 | begun T =>
  let⟨d,f,j,k,g,s,u,y,_⟩:=h;exact⟨d,f,j,g,by rw[k];rfl,s,u,y⟩
theorem c8O(h:Tie v p t)(G:v.C.slot=p)(K:aa):∃d a b c,rE (t.K0 K) p t.kd t.A t.Bb false t.Ls=.inl (.call d a b c)/\(0<=d/\d<100)/\pV t.Ls/\(v.turn K).1=(d8 K p d a b c).K /\
  (((∃e f g j,(v.turn K).2 []=.call e f g j)/\sj (t.K0 K) p t.kd t.A t.Bb (t.Ls++[((d8 K p d a b c).n,(d8 K p d a b c).e)]) (d8 K p d a b c).e=Q/\∀(k:Lv) (T:Tk),k.C=v.C->(k.S=λ_=>(v.turn K).2)->T.K=t.K0 K->T.kd=t.kd->T.A=t.A->T.B=t.Bb->T.Ls=t.Ls++[((d8 K p d a b c).n,(d8 K p d a b c).e)]->p<T.K.nS->Tie k p (.begun T)) \/
   ∃m o,(v.turn K).2 []=.done m o/\sj (t.K0 K) p t.kd t.A t.Bb (t.Ls++[((d8 K p d a b c).n,(d8 K p d a b c).e)]) (d8 K p d a b c).e=J (m,o)):=by
 let⟨q,x,y,z,M,X,B,d,a,b,c,hc⟩:=h.next K;let⟨C,s2,s3,E⟩:=VO (K:=K) (by rw[q];exact z) X B hc;rw[q,x,y]at C E;have h0:v.S K []=.call d a b c:=by grind
 have F:v.turn K=((d8 K p d a b c).K,(v.S K).after (d8 K p d a b c).n (d8 K p d a b c).e):=by
  show tf v.C.slot (v.S K) K=_;rw[GY h0,G]
 have h2:(v.turn K).2=λs=>m8 v.C p (t.K0 K) ((t.Ls++[((d8 K p d a b c).n,(d8 K p d a b c).e)])++s):=by
  rw[F,M];funext s;show m8 v.C p (t.K0 K) (t.Ls++(_::s))=_
  grind
 have d':(v.turn K).2 []=m8 v.C p (t.K0 K) (t.Ls++[((d8 K p d a b c).n,(d8 K p d a b c).e)]):=by grind
 refine⟨d,a,b,c,C,s2,B,by rw[F],?_⟩;rcases E with⟨e,f,g,j,H,R,q3⟩|⟨m,o,H,R⟩
 .refine .inl ⟨⟨e,f,g,j,d'.trans H⟩,q3,λk T u e' k1 W k3 k4 k5 k6=>?_⟩;refine⟨by rw[u,q,W],by rw[u,x,k3],by rw[u,y,k4],?_,by rw[W];exact z,by grind,by rw[k5];exact R,⟨e,f,g,j,by grind⟩,k6⟩
  grind
 grind
end
variable{κ1:Nat->Nat}{w1 w2:Wd}{K':aa}{d':Nat->Option ic}
section
variable{d:pU}
theorem Pw.AB(h:Pw l L (r+1) Inb nG w κ P S K t)(c:∀k,κ k≠0->κ k<300->κ1 k=κ k/\w1.heap[k]?=w.heap[k]?):Pm (fb l) κ1 w1 P S K:=h.pm.move λk e a=>⟨(c k a.1 a.2).1,(c k a.1 a.2).2,(h.mw k a.1).sf⟩
theorem wx{a:Type}(f:Nat->a)(p:Nat)(x:a):oy f p x p=x:=nT Z
theorem wY{c:Type}{f:Nat->c}{p:Nat}{x:c}(h:a≠p):oy f p x a=f a:=nR h
theorem NK{a:Type}(f:Nat->a)(p:Nat):oy f p (f p)=f:=by
 funext q;unfold oy
 grind
theorem Pg.turn{κ':Nat->Nat}{U:Nat->Nat->Option nY}{V:Nat->Nat->Vu}{N:Nat->Nat->Nat}{Xs:Nat->Nat->List Vu}(g:Pg l L r Inb nG w1 κ P U V N Xs K)(j:i<2)(m:p<6)(F:oh (fb l) (pt κ w1.heap.size (pN i p)) w1 w2)(f:∀k,k<w1.heap.size->κ' k=κ k)(h:∀k,w1.heap.size<=k->κ' k=0\/k<w2.heap.size/\pG i (κ' k)):Pg l L r Inb nG w2 κ' P U V N Xs K:=by
 refine g.hJ F (λk a c=>?_) (λk a=>f k (g.mw k Za).mn.lt) λk a=>?_
 .have:=sx.1 (A9.1 a).2;unfold cB at this;exact⟨g.mw k Za,by omega⟩
 .rcases bU k w1.heap.size with c|c
  .exact(g.mw k (by grind)).grow F.size
  .rcases h k c with e|e
   .exact absurd e a
   .exact g.co.new c e.1
theorem Pm.turn{κ':Nat->Nat}{s:Rk}{E:Nat->Option pU}{H:Nat->List Vu}{U':Nat->Nat->Option nY}{V':Nat->Nat->Vu}(h:Pm (fb l) κ w1 P S K)(hi:i<2)(a':p<6)(F:oh (fb l) (pt κ w1.heap.size (pN i p)) w1 w2)(y:∀k,k<w1.heap.size->κ' k=κ k)(T:pT (fb l) w2 P.B s)(W:Rel K' s)(G:rS K')(nD:s.nD=S.rr.nD)(M:oM (fb l) κ' i w2 (P.rb i) P.B.b P.n E q u H):Pm (fb l) κ' w2 P { S with ts:=oy S.ts i E,D:=oy S.D i q,N:=oy S.N i u,Xs:=oy S.Xs i H,rr:=s,U:=U',V:=V' } K':=by
 have B:∀k,k<w1.heap.size->¬(κ k=1\/pG i (κ k))->w2.heap[k]?=w1.heap[k]?:=λk X hn=>F.old k X λhm=>hn (by
  have:=sx.1 (A9.1 hm).2;rcases this with e|e|e|e|e|e
  .exact .inl e
  all_goals exact .inr (by rw[e];exact rT Za))
 have a:∀ {k c o},F3 (fb l) w1 k/\κ k=c->c≠1->c<100->w2.cell? (O k o Q)=w1.cell? (O k o Q)/\F3 (fb l) w2 k/\κ' k=c:=λ{k c o} m C R=>by
  have e:=B k m.1.lt (by rw[m.2];unfold pG;omega);exact⟨Zf (w:=w1) e,m.1.of e,(y k m.1.lt).trans m.2⟩
 refine⟨T,λj f=>?_,⟨W,G⟩,λj f=>?_,h.bk.same (λg x z=>y g (h.bk.blk g x z).2.lt) λg x z=>B g (h.bk.blk g x z).2.lt (by rw[(h.bk.blk g x z).1];unfold pG;omega),(a h.rw Zb Zb).1.trans h.w0,(a h.rw Zb Zb).1.trans h.w1,(a h.rw Zb Zb).1.trans h.w2,(a h.rw Zb Zb).1.trans h.w3,(a h.rw Zb Zb).1.trans h.w4,λj f=>⟨(a h.r4 Zb Zb).1.trans (h.l j f).1,(a h.r5 Zb Zb).1.trans (h.l j f).2⟩,(a (o:=0) h.rw Zb Zb).2,(a (o:=0) h.r4 Zb Zb).2,(a (o:=0) h.r5 Zb Zb).2⟩
 .have f:P.B.is S.rr j:=by unfold RB.is at f ⊢;grind
  exact(y j (h.R.lt f)).trans (h.Rc j f)
 .by_cases e:j=i
  .subst e;simp only[wx];exact M
  .simp only[wY e];exact(h.rl j f).same λk C R=>⟨y k C,B k C (by unfold pG at R ⊢;omega)⟩
theorem Pw.more{b:Int}(a:Pw l L (r+1) Inb nG w κ P S K t)(y:i<2)(hp:p<P.n)(G:S.U i p=J v.C.o)(hL:L v.C.o.gid=J v)(j':v.C.slot=p)(b':S.ts i p=J d)(M:E.C=v.C)(tie:∀T:Tk,T.K=d.K0 K->T.kd=d.kd->T.A=d.A->T.B=d.Bb->T.Ls=d.Ls++[((d8 K p f g b h).n,(d8 K p f g b h).e)]->p<T.K.nS->Tie E p (.begun T))(k':p<(d.K0 K).nS)(a':Pg l (aj L v.C.o.gid (J E)) r d' nG w1 κ P S.U S.V S.N S.Xs (d8 K p f g b h).K)(X:Kp P.kb L w (aj L v.C.o.gid (J E)) w1)(ho:sj (d.K0 K) p d.kd d.A d.Bb (d.Ls++[((d8 K p f g b h).n,(d8 K p f g b h).e)]) (d8 K p f g b h).e=Q)(hP:zB (fb l) κ i w1 (P.rb i) P.B S.rr P.n (S.ts i) (S.D i) (S.N i) (S.Xs i) p d.kd d.A d.Bb (d.K0 K) d.Ls (d8 K p f g b h) o w2):o=.tuple #[Bo false,vi 0]/\∃κ' S',Pw l (aj L v.C.o.gid (J E)) r d' nG w2 κ' P S' (d8 K p f g b h).K (t+1)/\G7 P.kb L κ w (aj L v.C.o.gid (J E)) κ' w2:=by
 let⟨F,κ',r',B,nk,R',e',f',x⟩:=hP;rw[ho]at x;let⟨hx,T,g',k1,k2,k3,k4,k5⟩:=x;have n6:=(a.pm.rl i y).n6;have h':=a.AB (κ1:=κ) λk h0 _=>⟨Z,(X k (a.mw k h0).mn).2⟩
 have i':=h'.turn (U':=S.U) (V':=S.V) y Za F B R' e' (Ac a.pm.sJ.i p f g b h) f' g';have c:=a'.turn y Za F B nk;refine⟨hx,κ',_,⟨?_,?_,?_,?_,?_,i',?_,?_,?_,?_,?_,?_,?_,?_,?_⟩,?_⟩
 all_goals try simp only[NK]
 .exact c.co
 .exact c.nS
 .exact c.lm
 .exact c.lc
 .exact c.mw
 .intro j q m s
  by_cases e:j=i/\q=p
  .obtain⟨rfl,rfl⟩:=e;refine .inr ⟨E,.begun T,by rw[M];exact G,by rw[M,aH],by grind,by simp[oy,pM],tie T k1 k2 k3 k4 k5 (by grind)⟩
  .have C:oy S.ts i (pM (S.ts i) p (J (.begun T))) j q=S.ts j q:=by
    unfold oy pM;split
    all_goals grind
   rw[C];rcases a.tie j q m s with⟨z,H⟩|⟨u,t',z,H,a3,a4,a5⟩
   .exact .inl ⟨z,H⟩
   .exact .inr ⟨u,t',z,by rw[az _ _ λeg=>e (a.one j q i p _ _ m y s hp z G eg)];exact H,a3,a4,a5⟩
 .exact c.one
 .exact c.all
 .exact c.sz
 .exact c.pos
 .exact λj q m s=>Zh (a.tN j q m s) Za
 .intro j q T' m s e
  by_cases R:j=i/\q=p
  .obtain⟨rfl,rfl⟩:=R;simp only[oy,pM,if_true]at e;cases pU.begun.inj (Ze e);rw[k5,jG];have:d.Ls.length<=t:=by
    cases d with
    | fresh _ _ _=>exact bh _
    | begun T0=>exact a.tL j q T0 m s b'
   grind
  .have C:oy S.ts i (pM (S.ts i) p (J (.begun T))) j q=S.ts j q:=by
    unfold oy pM;split
    all_goals grind
   rw[C]at e;exact Zh (a.tL j q T' m s e) Za
 .exact λh hc=>Zh (a.tB h hc) Za
 .exact a.xi
 .intro k x l';let⟨W,R⟩:=X k x;refine⟨B k W.lt,W.grow F.size,(F.old k W.lt λx=>?_).trans R⟩;have:=sx.1 (A9.1 x).2;unfold cB at this;omega
theorem Pw.ends{b W:Int}(s:Pw l L (r+1) Inb nG w κ P S K t)(H:i<2)(G:p<P.n)(hU:S.U i p=J v.C.o)(h':S.ts i p=J d)(M:v.C.kd=d.kd/\v.C.A=d.A/\v.C.B=d.Bb)(pg:Pg l (aj L v.C.o.gid Q) r d' nG w1 κ1 P (oy S.U i (qt (S.U i) p)) (oy S.V i (qg (S.V i) p (Sc (J (O a 0 Q)) (S.N i p+1) c))) (oy S.N i (qg (S.N i) p (S.N i p+1))) (oy S.Xs i (qg (S.Xs i) p (S.Xs i p++pc v.C.kd v.C.A v.C.B W j))) (d8 K p f g b h).K)(X:∀k,Mn P.kb L w k->κ k<300->κ1 k=κ k/\Mn P.kb (aj L v.C.o.gid Q) w1 k/\w1.heap[k]?=w.heap[k]?)(ho:sj (d.K0 K) p d.kd d.A d.Bb (d.Ls++[((d8 K p f g b h).n,(d8 K p f g b h).e)]) (d8 K p f g b h).e=J (j,W))(hP:zB (fb l) κ1 i w1 (P.rb i) P.B S.rr P.n (S.ts i) (S.D i) (S.N i) (S.Xs i) p d.kd d.A d.Bb (d.K0 K) d.Ls (d8 K p f g b h) o w2):o=.tuple #[Bo true,vi 0]/\∃κ' S',Pw l (aj L v.C.o.gid Q) r d' nG w2 κ' P S' (d8 K p f g b h).K (t+1)/\G7 P.kb L κ w (aj L v.C.o.gid Q) κ' w2:=by
 let⟨F,κ',r',kk,nk,R',b',c',E⟩:=hP;rw[ho]at E;let⟨hx,V2,e'⟩:=E;have n6:=(s.pm.rl i H).n6;have f':=s.AB λk h0 h3=>⟨(X k (s.mw k h0).mn h3).1,(X k (s.mw k h0).mn h3).2.2⟩
 have g':=f'.turn (U':=oy S.U i (qt (S.U i) p)) (V':=oy S.V i (qg (S.V i) p (Sc (J (O a 0 Q)) (S.N i p+1) c))) H Za F kk R' b' (Ac s.pm.sJ.i p f g b h) c' e';have z:=pg.turn H Za F kk nk;rw[M.1,M.2.1,M.2.2]at z;have et:∀m q,¬(m=i/\q=p)->oy S.ts i (pM (S.ts i) p Q) m q=S.ts m q/\oy S.U i (qt (S.U i) p) m q=S.U m q:=λm q e=>by
  unfold oy pM qt
  by_cases R:m=i
  all_goals simp_all
 refine⟨hx,κ',_,⟨z.co,z.nS,z.lm,z.lc,z.mw,g',?_,z.one,z.all,z.sz,z.pos,?_,?_,λh hc=>Zh (s.tB h hc) Za,?_⟩,?_⟩
 .intro m q B C;show(oy S.U i (qt (S.U i) p) m q=Q/\oy S.ts i (pM (S.ts i) p Q) m q=Q)\/∃(u:Lv) (t':pU),oy S.U i (qt (S.U i) p) m q=J u.C.o/\_/\_/\oy S.ts i (pM (S.ts i) p Q) m q=J t'/\_
  by_cases e:m=i/\q=p
  .obtain⟨rfl,rfl⟩:=e;exact .inl ⟨by simp[oy,qt],by simp[oy,pM]⟩
  .rw[(et m q e).1,(et m q e).2];rcases s.tie m q B C with⟨T,a2⟩|⟨u,t',T,a2,a3,a4,a5⟩
   .exact .inl ⟨T,a2⟩
   .exact .inr ⟨u,t',T,by rw[az _ _ λeg=>e (s.one m q i p _ _ B H C G T hU eg)];exact a2,a3,a4,a5⟩
 .intro m q B C;show oy S.N i (oy (S.N i) p (S.N i p+1)) m q<=t+1;have:=s.tN m q B C;have:=s.tN i p H G;unfold oy;split
  all_goals grind
 .intro m q T' B C e;have e:oy S.ts i (pM (S.ts i) p Q) m q=J (.begun T'):=e
  by_cases R:m=i/\q=p
  .obtain⟨rfl,rfl⟩:=R;simp[oy,pM]at e
  .rw[(et m q R).1]at e;exact Zh (s.tL m q T' B C e) Za
 .intro m q y B C x;have x:y∈oy S.Xs i (oy (S.Xs i) p (S.Xs i p++pc d.kd d.A d.Bb W j)) m q:=x;unfold oy at x;split at x
  .next e =>
   subst e;dsimp only at x;split at x
   .rcases cz.1 x with x|x
    .exact s.xi m p y B G x
    .simp only[pc,ae,ai,or_false]at x
     grind
   .exact s.xi m q y B C x
  .exact s.xi m q y B C x
 .intro k E i';let⟨R,m1,e2⟩:=X k E Za;refine⟨(kk k m1.lt).trans R,m1.grow F.size,(F.old k m1.lt λE=>?_).trans e2⟩;have:=sx.1 (A9.1 E).2
  grind
end
def aK3:List bm:=match Tryz.f9.body with
 | some (.seq _ (.seq _ (.seq _ (.seq _ (.seq _ (.seq (.seq _ (.block b (.seq _ (.cond _ _ (.seq _ (.cond _ x _)))))) e))))))=>[.code x,.inBlock b,.code e]
 | _=>[]
def Zx:List bm:=match Tryz.f9.body with
 | some (.seq _ (.seq _ (.seq _ (.seq _ (.seq _ (.seq (.seq _ (.block b (.seq _ (.cond _ _ (.seq _ (.cond _ (.seq _ (.seq r x)) _)))))) e))))))=>[.code r,.code x,.inBlock b,.code e]
 | _=>[]
variable{b3:Nat}{s:Int}{bo:Bool}{e0:Int}{Stop:Gr->Wd->Prop}{fr:Fm'}{cs:List Fm'}{a:db}{Q:Wd->Prop}{f':fM->jD->Prop}
section
theorem Sy(hi:i<2)(X:P.wm<w.heap.size)(hl:w.cell? (O P.wm i G')=J (Po (J (O ((P.rb i).bl) 0 G'))))(ne:P.bw≠P.wm/\b3≠P.wm)(M:fx sft [] 2 w [(P.bw,0),(b3,0)] [(0,3,.v (Sc (J (O P.wm 0 G')) 2 P.cm)),(1,1,ci s)] 160 [(0,.c (.p 0 0)),(3,.c (.p 1 0)),(9,.c (ci i)),(12,.c (.v (Bo bo))),(13,.c (ci e0))] a w)(c':py true sft 22 #[Po (J (O ((P.rb i).bl) 0 G')),vi s] w λx w2=>x=.tuple #[Bo bo,vi e0]/\Fit sft w2/\(∀k,w2.heap.size<=k->sft k=0)/\w2.heap[P.bw]?=w.heap[P.bw]?/\w2.heap[b3]?=w.heap[b3]?/\w2.heap[P.wm]?=w.heap[P.wm]?/\Q w2)(e':∀w2 w',Q w2->oh sft [] w2 w'->iv J' true true sft Stop (G (fr.finish (Bo true)) cs) w'):iv J' true true sft Stop (G ((base 9).at a Zx) (fr::cs)) w:=by
 have z:=M.pI (W':=(aM w.heap.size).filter λk=>!aI k P.wm) Zc;have nW:P.wm∉(aM w.heap.size).filter λk=>!aI k P.wm:=λhm=>by
  have:=(dD.1 hm).2;simp at this
 refine BZ [(9,J (.t [.c (.v (Bo bo)),.c (ci e0)]))] [[Po (J (O ((P.rb i).bl) 0 G'))]] false (λd g h' w' f=>h'=[(P.bw,0),(b3,0)]/\f=(sft,Stop)/\((d=0/\w'=w)\/(d=1/\Fit sft w'/\(∀k,w'.heap.size<=k->sft k=0)/\w'.heap[P.bw]?=w.heap[P.bw]?/\w'.heap[b3]?=w.heap[b3]?/\w'.heap[P.wm]?=w.heap[P.wm]?/\Q w'))) z Z (λ_=>rfl) (λ_=>rfl) Z Zd ⟨⟨nQ,by omega⟩,⟨X,nW,by simpa using hl⟩⟩ (λd g B w' f _ c=>?_) ⟨Z,Z,.inl ⟨Z,Z⟩⟩ (λd j' g' C g o a' w' B l' f E c h1 h2 F H=>?_) λg B a3 w3 f c i' k'=>?_
 .obtain⟨e,rfl,c⟩:=c;cases Zk e;rcases c with⟨_,rfl⟩|⟨_,_,_,j,m,u3,_⟩
  .exact⟨z.ce,λ_ _ _=>rfl⟩
  .refine⟨λe u=>?_,λk hk H=>?_⟩
   .let⟨c1,c2,c3⟩:=M.ce e u;refine⟨c1,c2,(Zf (w:=w) ?_).trans c3⟩;simp only[ae,ai,or_false]at u;rcases u with rfl|rfl
    .exact j
    .exact m
   simp_all
 .obtain⟨e,rfl,c⟩:=c;cases Zk e
  cases d with
  | succ d=>simp at C
  | zero =>
   obtain⟨rfl,rfl⟩:=ax (Ze C);rcases c with⟨_,rfl⟩|⟨y,_⟩
   case inr=>cases y
   cases Ze E;refine CF c' E Z Z iJ Z Z ?_ λx w' hq=>?_
   .simp only[du,cZ,eK,F (.tmp 121) (.c (.v (Po (J (O ((P.rb i).bl) 0 G'))))) Z,F (.tmp 123) (.c (ci s)) Z];rfl
   .obtain⟨rfl,q⟩:=hq;exact H (sft,Stop) [] w' (J (.t [.c (.v (Bo bo)),.c (ci e0)])) ⟨by simp,Z,.inr ⟨Z,q⟩⟩ (.inr Z) (λsv h=>by cases Ze h;intro x R;simp only[ae,ai,or_false]at R;rcases R with rfl|rfl<;>trivial)
 .obtain⟨e,rfl,c⟩:=c;cases Zk e;rcases c with⟨y,_⟩|⟨_,j,m,_,_,_,hQ⟩
  .cases y
  have M3:=(M.re i' k').oO [12,13,14,15] Z j m;have ee:(e0==e0)=true:=by simp
  cases bo
  all_goals
   refine iN 200 0 [] M3 Z Z nQ λa4 T W=>B3 W eE Z Z Z ?_;show iv J' true true sft Stop (G (fr.finish (Bo (e0==e0))) cs) T;rw[ee];exact e' w3 T hQ W.hJ
def Ay:List bm:=match Tryz.f9.body with
 | some (.seq _ (.seq _ (.seq _ (.seq _ (.seq _ (.seq (.seq _ (.block b (.seq _ (.cond _ _ (.seq _ (.cond _ (.seq r x) _)))))) e))))))=>[.code r,.code x,.inBlock b,.code e]
 | _=>[]
def MO:List bm:=match Tryz.f9.body with
 | some (.seq _ (.seq _ (.seq _ (.seq _ (.seq _ (.seq (.seq _ (.block b (.seq _ (.cond _ _ (.seq _ (.cond _ (.seq r x) _)))))) e))))))=>[.code x,.inBlock b,.code e]
 | _=>[]
variable{sE:List nY->(Nat->Option ic)->Nat->Wd->Prop}
theorem Fe(hi:i<2)(e':P.wl<w.heap.size)(hl:w.cell? (O P.wl i G')=J (Po (J (O ((P.lb i).bl) 0 G'))))(M:fx (fb l) [] 2 w [(P.bw,0),(b3,0)] [(0,2,.v (Sc (J (O P.wl 0 G')) 2 P.cl)),(1,1,ci s)] 160 [(0,.c (.p 0 0)),(3,.c (.p 1 0)),(9,.c (ci i))] a w)(h':∀F H,(∀c d' f w',sE c d' f w'->X J' f' c d' f 0 (G (F.finish (.tuple #[Bo bo,vi e0])) H) w')->∀d,X J' f' l Inb nG 0 (G (ay J' 21 #[Po (J (O ((P.lb i).bl) 0 G')),vi s] .normal) (F::H)) (w.at d))(hM:∀c d' f w',sE c d' f w'->w'.heap[P.bw]?=w.heap[P.bw]?/\w'.heap[b3]?=w.heap[b3]?/\w'.heap[P.wl]?=w.heap[P.wl]?)(u:∀c d' f w' y,sE c d' f w'->qe 160 (qC [(P.bw,0),(b3,0)] [(0,.c (.p 0 0)),(3,.c (.p 1 0)),(9,.c (ci i)),(12,.c (.v (Bo bo))),(13,.c (ci e0))]) y->iv J' true true (fb c) (X J' f' c d' f 0) (G ((base 9).at y MO) (fr::cs)) w'):iv J' true true (fb l) (X J' f' l Inb nG 0) (G ((base 9).at a Ay) (fr::cs)) w:=by
 have R:=M.pI (W':=(aM w.heap.size).filter λk=>!aI k P.wl) Zc;have nW:P.wl∉(aM w.heap.size).filter λk=>!aI k P.wl:=λj=>by
  have:=(dD.1 j).2;simp at this
 refine BZ [(9,J (.t [.c (.v (Bo bo)),.c (ci e0)]))] [[Po (J (O ((P.lb i).bl) 0 G'))]] false (λm z i' w' q=>i'=[(P.bw,0),(b3,0)]/\((m=0/\w'=w/\q=(fb l,X J' f' l Inb nG 0))\/(m=1/\∃c d' f,q=(fb c,X J' f' c d' f 0)/\sE c d' f w'))) R Z (λ_=>rfl) (λ_=>rfl) Z Zd ⟨⟨nQ,by omega⟩,⟨e',nW,by simpa using hl⟩⟩ (λm z T w' q _ g=>?_) ⟨Z,.inl ⟨Z,Z,Z⟩⟩ (λm j' g' W z o y w' T n' q B g h1 h2 rd hn=>?_) λz T a3 w3 q g k' m'=>?_
 .obtain⟨e,g⟩:=g;obtain rfl:=Zk e;rcases g with⟨_,rfl,_⟩|⟨_,c,d',f,_,j⟩
  .exact⟨R.ce,λ_ _ _=>rfl⟩
  .obtain⟨u1,u2,u3⟩:=hM _ _ _ _ j;refine⟨λe C=>?_,λk hk hn=>?_⟩
   .obtain⟨c1,c2,c3⟩:=M.ce e C;refine⟨c1,c2,(Zf (w:=w) ?_).trans c3⟩;simp only[ae,ai,or_false]at C;rcases C with rfl|rfl
    .exact u1
    .exact u2
   simp_all
 .obtain⟨e,g⟩:=g;obtain rfl:=Zk e
  cases m with
  | succ m=>simp at W
  | zero =>
   obtain⟨rfl,rfl⟩:=ax (Ze W);rcases g with⟨_,rfl,rfl⟩|⟨E,_⟩
   case inr=>cases E
   obtain rfl:=Ze B;refine NM B Z (by show aX≠.early;decide) Z iK Z Z (vs:=#[Po (J (O ((P.lb i).bl) 0 G')),vi s]) ?_ λd=>h' _ _ (λc d' f w2 j=>?_) d
   .simp only[du,cZ,eK,rd (.tmp 108) (.c (.v (Po (J (O ((P.lb i).bl) 0 G'))))) Z,rd (.tmp 110) (.c (ci s)) Z];rfl
   .rw[zC B];exact tH (hn (fb c,X J' f' c d' f 0) [] w2 (J (.t [.c (.v (Bo bo)),.c (ci e0)])) ⟨by simp,.inr ⟨Z,c,d',f,Z,j⟩⟩ (.inr Z) (λsv h=>by obtain rfl:=Ze h;intro x u;simp only[ae,ai,or_false]at u;rcases u with rfl|rfl<;>trivial))
 .obtain⟨e,g⟩:=g;obtain rfl:=Zk e;rcases g with⟨E,_⟩|⟨_,c,d',f,rfl,j⟩
  .cases E
  refine u c d' f w3 a3 j ?_;have:=((M.re k' m').oV 2 [0,3,9,12,13] Z Z).lv;exact this
theorem GV{κ1:Nat->Nat}{S:Ws}{K:aa}(c:Pm sft κ1 w P S K)(y:Fit sft w)(B:∀k,w.heap.size<=k->sft k=0)(h:κ1 b3=8)(C:F3 sft w b3)(E:w.cell? (O b3 1 G')=J (vi s))(m:i<2)(F:qe 160 (qC [(P.bw,0),(b3,0)] [(0,.c (.p 0 0)),(3,.c (.p 1 0)),(9,.c (ci i)),(12,.c (.v (Bo bo))),(13,.c (ci e0))]) a)(H:∀w',oh sft [] w w'->py true sft 22 #[Po (J (O ((P.rb i).bl) 0 G')),vi s] w' λx w2=>x=.tuple #[Bo bo,vi e0]/\Fit sft w2/\(∀k,w2.heap.size<=k->sft k=0)/\w2.heap[P.bw]?=w'.heap[P.bw]?/\w2.heap[b3]?=w'.heap[b3]?/\w2.heap[P.wm]?=w'.heap[P.wm]?/\Q w2)(R:∀w2 w',Q w2->oh sft [] w2 w'->iv J' true true sft Stop (G (fr.finish (Bo true)) cs) w'):iv J' true true sft Stop (G ((base 9).at a MO) (fr::cs)) w:=by
 have o:P.bw≠b3:=λe=>by have:=c.rw.2;grind
 have M:fx sft [] 2 w [(P.bw,0),(b3,0)] [(0,3,.v (Sc (J (O P.wm 0 G')) 2 P.cm)),(1,1,ci s)] 160 [(0,.c (.p 0 0)),(3,.c (.p 1 0)),(9,.c (ci i)),(12,.c (.v (Bo bo))),(13,.c (ci e0))] a w:=by
  refine⟨F,λe u=>?_,λq d=>?_,λj f=>?_,λj q f d X=>?_,λj h1 h2=>?_,af _,λ_ _ _=>rfl,y,B⟩
  .simp only[ae,ai,or_false]at u;rcases u with rfl|rfl
   .exact⟨by simp,nQ,c.w3⟩
   .exact⟨by simp,nQ,E⟩
  .simp only[ae,ai,or_false]at d;rcases d with rfl|rfl|rfl|rfl|rfl
   .show 0<2;decide
   .show 1<2;decide
   .trivial
   .trivial
   .trivial
  .have f:j<2:=f;obtain rfl|rfl:j=0\/j=1:=by omega
   .exact c.rw.1
   .exact C
  .have f:j<2:=f;have d:q<2:=d;obtain rfl|rfl:j=0\/j=1:=by omega
   .obtain rfl:q=1:=by omega
    exact o
   .obtain rfl:q=0:=by omega
    exact aA o
  grind
 refine iN 1 2 [] M Z Z nQ λa1 w1 g=>?_;have T:∀k,k<w.heap.size->w1.heap[k]?=w.heap[k]?:=λk W=>g.old k W Zc;have z:=g.size;refine Sy m (by have:=c.r5.1.lt;omega) ((Zf (w:=w) (a:=(O P.wm i G')) (T _ c.r5.1.lt)).trans (c.l i m).2) ⟨λe=>(by have:=c.rw.2;rw[e,c.r5.2]at this;cases this),λe=>(by rw[e,c.r5.2]at h;cases h)⟩ g.oo (H w1 g.hJ) R
end
theorem G7.refl(I:Kb)(L:Nat->Option Lv)(κ:Nat->Nat)(w:Wd):G7 I L κ w L κ w:=λk h _=>⟨Z,h,Z⟩
theorem G7.hJ{I:Kb}{L:Nat->Option Lv}{κ':Nat->Nat}{w2:Wd}{sft:Nat->Nat}(k:G7 I L κ w y κ' w')(F:oh sft [] w' w2):G7 I L κ w y κ' w2:=λq d e=>by
 let⟨a,b,c⟩:=k q d e;exact⟨a,b.grow F.size,(F.old q b.lt Zc).trans c⟩
theorem Je{e0:Int}(h:Pw l L (r+1) Inb nG w κ P S K t)(T:κ b3=8)(o:F3 (fb l) w b3)(W:w.cell? (O b3 1 G')=J (vi s))(B:i<2)(M:fx (fb l) [] 2 w [(P.bw,0),(b3,0)] [(0,2,.v (Sc (J (O P.wl 0 G')) 2 P.cl)),(1,1,ci s)] 160 [(0,.c (.p 0 0)),(3,.c (.p 1 0)),(9,.c (ci i))] a w)(b':∀u y,(∀w',Grown w w'->X J' f' l Inb nG 0 (G (u.finish (.tuple #[Bo false,vi e0])) y) w')->∀d,X J' f' l Inb nG 0 (G (ay J' 21 #[Po (J (O ((P.lb i).bl) 0 G')),vi s] .normal) (u::y)) (w.at d))(c':∀w',Pw l L r Inb nG w' κ P S K t->py true (fb l) 22 #[Po (J (O ((P.rb i).bl) 0 G')),vi s] w' λx w2=>x=.tuple #[Bo false,vi e0]/\oh (fb l) [] w' w2)(e':∀w2,Pw l L r Inb nG w2 κ P S K (t+1)->G7 P.kb L κ w L κ w2->iv J' true true (fb l) (X J' f' l Inb nG 0) (G (fr.finish (Bo true)) cs) w2):iv J' true true (fb l) (X J' f' l Inb nG 0) (G ((base 9).at a Ay) (fr::cs)) w:=by
 have f:=h.pm;refine Fe (sE:=λq d' C w'=>q=l/\d'=Inb/\C=nG/\Grown w w') B f.r4.1.lt (f.l i B).1 M (λu y e d=>b' u y (λw' g=>e l Inb nG w' ⟨Z,Z,Z,g⟩) d) (λq d' C w' j=>?_) λq d' C w' a' j lv=>?_
 .let⟨_,_,_,g⟩:=j;exact⟨g.old _ f.rw.1.lt,g.old _ o.lt,g.old _ f.r4.1.lt⟩
 .obtain⟨rfl,rfl,rfl,g⟩:=j;have m:=(h.grown (g.hJ h.co)).less;have z:=g.size;refine GV (κ1:=κ) (Q:=λw2=>oh (fb q) [] w' w2) m.pm m.fit m.co.soft T (o.of (g.old _ o.lt)) ((Zf (w:=w) (a:=(O b3 1 G')) (g.old _ o.lt)).trans W) B lv (λw1 F=>?_) λw2 H E F=>?_
  .intro Stop fr cs hx;refine c' w1 (m.grown F) Stop fr cs λx w2 c=>hx x w2 ⟨c.1,c.2.fit,((m.grown F).grown c.2).co.soft,?_,?_,?_,?_⟩
   .exact c.2.old _ (by have:=f.rw.1.lt;have:=F.size;omega) Zc
   .exact c.2.old _ (by have:=o.lt;have:=F.size;omega) Zc
   .exact c.2.old _ (by have:=f.r5.1.lt;have:=F.size;omega) Zc
   .exact⟨Zh F.size c.2.size,λk e _=>(c.2.old k (Zg e F.size) Zc).trans (F.old k e Zc),c.2.fit⟩
  .have R:oh (fb q) [] w' H:=⟨Zh E.size F.size,λk e _=>(F.old k (Zg e E.size) Zc).trans (E.old k e Zc),F.fit⟩;exact e' H ((m.grown R).later Za) (G7.hJ (w':=w') (λk j _=>⟨Z,j.grow z,g.old k j.lt⟩) R)
variable{L':Nat->Option Lv}{r':Nat}
section
variable{j:pU}
theorem Co.Ft(c:Co I l K L r Inb nG w):Mn I L w I.bk:=by
 have R:=c.env.rep;refine⟨R.lk,R.kf,R.ks,R.kd,λg v d=>⟨λe=>?_,λh=>(c.chan g v d _ h).2.1 Z⟩⟩;let⟨f,n,A⟩:=c.at_ g v d;exact(A.own.ap _ e).1 (c.rZ g v d).k.symm
theorem Co.ue(c:Co I l K L r Inb nG w)(d:Co I l K' L' r' d' nG w')(h:w'.heap[I.bk]?=w.heap[I.bk]?):K'.nF=K.nF/\K'.nS=K.nS/\K'.nD=K.nD:=IJ c.env.rep d.env.rep h
theorem MD{a b:Int}(c:Pm (fb l) κ1 w1 P S K)(h:Fit (fb l) w1)(m:∀k,w1.heap.size<=k->fb l k=0)(o:i<2)(B:p<P.n)(C:S.ts i p=J j)(hF:1<=K.nF/\K.nF<=32)(E:p<(j.K0 K).nS)(F:S.N i p<=4398046511104)(H:pV j.Ls)(R:j.Ls.length<7036874417568)(T:rE (j.K0 K) p j.kd j.A j.Bb false j.Ls=.inl (.call f a b g))(W:0<=f/\f<100) :
  py true (fb l) 22 #[Po (J (O ((P.rb i).bl) 0 G')),vi (p:Int)] w1 λx w2=>zB (fb l) κ1 i w1 (P.rb i) P.B S.rr P.n (S.ts i) (S.D i) (S.N i) (S.Xs i) p j.kd j.A j.Bb (j.K0 K) j.Ls (d8 K p f a b g) x w2:=by
 intro Stop fr cs u;refine FH (c.rl i o) h m c.R c.Rc c.sJ hF p (λq G e y M=>?_) Stop fr cs λx w2 d=>u x w2 ?_
 .grind
 .rcases d with⟨z,_⟩|⟨q,e,y,d⟩
  .simp[oZ]at z;omega
  grind
theorem Jt{d:Out}{A:Int}{q:List (Int×Int)}{w2:Wd}(h:Pm (fb l) κ1 w1 P S K)(u:κ1 b3=8)(x:b3<w1.heap.size)(E:i<2)(H:p<6)(y:zB (fb l) κ1 i w1 (P.rb i) P.B S.rr P.n (S.ts i) (S.D i) (S.N i) (S.Xs i) p f A g B q d o w2):Fit (fb l) w2/\w2.heap[P.bw]?=w1.heap[P.bw]?/\w2.heap[b3]?=w1.heap[b3]?/\w2.heap[P.wm]?=w1.heap[P.wm]?:=by
 have F:=y.1;have m:∀ {k c},k<w1.heap.size->κ1 k=c->c≠1->c<100->w2.heap[k]?=w1.heap[k]?:=λ{k c} z e R T=>F.old k z λC=>by
  have:=sx.1 (A9.1 C).2
  grind
 exact⟨F.fit,m h.rw.1.lt h.rw.2 Zb Zb,m x u Zb Zb,m h.r5.1.lt h.r5.2 Zb Zb⟩
theorem WM{b:Int}(c:Pw l L (r+1) Inb nG w κ P S K t)(ht:t<=1000000000000)(h8:κ b3=8)(s':F3 (fb l) w b3)(hc:w.cell? (O b3 1 G')=J (vi (p:Int)))(y:i<2)(W:p<P.n)(hU:S.U i p=J v.C.o)(hL:L v.C.o.gid=J v)(y':v.C.slot=p)(p':S.ts i p=J j)(t':p<(j.K0 K).nS)(hn:rE (j.K0 K) p j.kd j.A j.Bb false j.Ls=.inl (.call f g b h))(hr:0<=f/\f<100)(E:pV j.Ls)(hT:(v.turn K).1=(d8 K p f g b h).K)(ho:sj (j.K0 K) p j.kd j.A j.Bb (j.Ls++[((d8 K p f g b h).n,(d8 K p f g b h).e)]) (d8 K p f g b h).e=G')(tie:∀(m:Lv) (T:Tk),m.C=v.C->(m.S=λ_=>(v.turn K).2)->T.K=j.K0 K->T.kd=j.kd->T.A=j.A->T.B=j.Bb->T.Ls=j.Ls++[((d8 K p f g b h).n,(d8 K p f g b h).e)]->p<T.K.nS->Tie m p (.begun T))(X':∃n' a' b' c',(v.turn K).2 []=.call n' a' b' c')(M:fx (fb l) [] 2 w [(P.bw,0),(b3,0)] [(0,2,.v (Sc (J (O P.wl 0 G')) 2 P.cl)),(1,1,ci (p:Int))] 160 [(0,.c (.p 0 0)),(3,.c (.p 1 0)),(9,.c (ci i))] a w)(z':∀L' d' w2 κ' B K',Pw l L' r d' nG w2 κ' P B K' (t+1)->G7 P.kb L κ w L' κ' w2->iv J' true true (fb l) (X J' f' l d' nG 0) (G (fr.finish (Bo true)) cs) w2):iv J' true true (fb l) (X J' f' l Inb nG 0) (G ((base 9).at a Ay) (fr::cs)) w:=by
 have pm:=c.pm;have n6:=(pm.rl i y).n6;refine Fe (bo:=false) (e0:=0) (sE:=λl' d' j' w'=>l'=l/\j'=nG/\∃m:Lv,m.C=v.C/\(m.S=λ_=>(v.turn K).2)/\Co P.kb l (v.turn K).1 (aj L v.C.o.gid (J m)) r d' nG w'/\Kp P.kb L w (aj L v.C.o.gid (J m)) w') y pm.r4.1.lt (pm.l i y).1 M (λA' B' z d=>?_) (λl' d' j' w' C=>?_) λl' d' j' w1 a' C lv=>?_
 .have gd:Grown w (w.at d):=⟨af _,λ_ _=>rfl,nQ⟩;have C':∀(q:Nat) (u:Lv),(p:Int)=q->S.U i q=J u.C.o->L u.C.o.gid=J u->q=p/\u=v:=λq u e h1 h2=>by
   grind
  refine Ed (c.co.at d) c.nS ((c.lm i y).grown gd) (λq hq=>by have:=c.tN i q y hq;omega) (λq q' o h1 h2 E h4=>(c.one i q i q' o o y y h1 h2 E h4 Z).2) p A' B' (λhb=>?_) (λq e hq hn=>?_) (λq u e hq h1 h2 E w' m d' c1 c2 c3 c4 c5 c6=>?_) λq u e hq h1 h2 E w' d' va er e' cap hd=>?_
  .simp at hb;omega
  .obtain rfl:p=q:=by omega
   grind
  .obtain⟨rfl,rfl⟩:=C' q u e h1 E;exact z l d' nG w' ⟨Z,Z,m,c1,c2,c4,λk z=>c5 k ⟨z.lt,z.nf,z.ns,z.nd,z.own⟩⟩
  grind
 .let⟨_,_,m,_,_,_,H⟩:=C;have R:∀k,κ k≠0->w'.heap[k]?=w.heap[k]?:=λk h0=>(H k (c.mw k h0).mn).2;exact⟨R _ (by rw[pm.rw.2];decide),R _ (by rw[h8];decide),R _ (by rw[pm.r4.2];decide)⟩
 .obtain⟨rfl,rfl,m,c1,c2,m',H⟩:=C;have R:∀k,κ k≠0->w1.heap[k]?=w.heap[k]?:=λk h0=>(H k (c.mw k h0).mn).2;have e':=c.pg.more y W hU hL c1 m' H (c.co.ue m' (H _ c.co.Ft).2);rw[hT]at e';have u':=c.AB (κ1:=κ) λk h0 _=>⟨Z,R k h0⟩
  have ub:=R b3 (by rw[h8];decide);refine GV (κ1:=κ) (Q:=λw2=>∃κ' B,Pw l' (aj L v.C.o.gid (J m)) r d' j' w2 κ' P B (d8 K p f g b h).K (t+1)/\G7 P.kb L κ w (aj L v.C.o.gid (J m)) κ' w2) u' m'.env.fit m'.soft h8 (s'.of ub) ((Zf (w:=w) (a:=(O b3 1 G')) ub).trans hc) y lv (λw2 F=>?_) λw2 w3 hQ F=>?_
  .have x':Pm (fb l') κ w2 P S K:=u'.move λk z C=>⟨Z,F.old k z Zc,(c.mw k C.1).sf⟩
   have g2:=e'.hJ F (λk z=>(by cases z)) (λ_ _=>rfl) λk z=>(e'.mw k z).grow F.size;have lb:b3<w2.heap.size:=Zg (G0 s'.lt ub) F.size;intro Stop fr cs hx;refine MD x' F.fit g2.co.soft y W p' ⟨by have:=c.sz;omega,c.sz.2.1⟩ t' (by have:=c.tN i p y W;omega) E ?_ hn hr Stop fr cs λx w3 hP=>?_
   .cases j with
    | fresh _ _ _=>show 0<_;decide
    | begun T0=>have:=c.tL i p T0 y W p';show T0.Ls.length<_;omega
   .let⟨f1,u1,u2,u3⟩:=Jt x' h8 lb y Za hP
    let⟨R',κ',B,o',T'⟩:=c.more (w1:=w2) y W hU hL y' p' c1 (λT=>tie m T c1 c2) t' g2 (λk C=>by
     let⟨m1,e1⟩:=H k C
     exact⟨m1.grow F.size,(F.old k m1.lt Zc).trans e1⟩) ho hP
    exact hx x w3 ⟨R',f1,o'.co.soft,u1,u2,u3,κ',B,o',T'⟩
  .let⟨κ',B,o',k8⟩:=hQ;exact z' _ _ w3 κ' B _ (o'.grown F) (k8.hJ F)
end
section
variable{f:pU}
theorem WR{b va er:Int}(c:Pw l L (r+1) Inb nG w κ P S K t)(ht:t<=1000000000000)(h8:κ b3=8)(m':F3 (fb l) w b3)(hc:w.cell? (O b3 1 G')=J (vi (p:Int)))(m:i<2)(E:p<P.n)(hU:S.U i p=J v.C.o)(hL:L v.C.o.gid=J v)(hsl:v.C.slot=p)(k':S.ts i p=J f)(t':p<(f.K0 K).nS)(hn:rE (f.K0 K) p f.kd f.A f.Bb false f.Ls=.inl (.call g h b j))(hr:0<=g/\g<100)(z:pV f.Ls)(hT:(v.turn K).1=(d8 K p g h b j).K)(ho:sj (f.K0 K) p f.kd f.A f.Bb (f.Ls++[((d8 K p g h b j).n,(d8 K p g h b j).e)]) (d8 K p g h b j).e=J (va,er))(hd:v.C.kd=f.kd/\v.C.A=f.A/\v.C.B=f.Bb)(u':(v.turn K).2 []=.done va er)(M:fx (fb l) [] 2 w [(P.bw,0),(b3,0)] [(0,2,.v (Sc (J (O P.wl 0 G')) 2 P.cl)),(1,1,ci (p:Int))] 160 [(0,.c (.p 0 0)),(3,.c (.p 1 0)),(9,.c (ci i))] a w)(x':∀L' d' w2 κ' R K',Pw l L' r d' nG w2 κ' P R K' (t+1)->G7 P.kb L κ w L' κ' w2->iv J' true true (fb l) (X J' f' l d' nG 0) (G (fr.finish (Bo true)) cs) w2):iv J' true true (fb l) (X J' f' l Inb nG 0) (G ((base 9).at a Ay) (fr::cs)) w:=by
 have T:=c.pm;have n6:=(T.rl i m).n6;refine Fe (bo:=true) (e0:=0) (sE:=λl' d' h' w'=>l'=l/\h'=nG/\∃C g':Nat,(∀k,Mn P.kb L w k->¬rY (P.lb i) (S.V i) p k->k≠C)/\Co P.kb l (v.turn K).1 (aj L v.C.o.gid G') r d' nG w'/\(∀k,Mn P.kb L w k->¬rY (P.lb i) (S.V i) p k->Mn P.kb (aj L v.C.o.gid G') w' k/\w'.heap[k]?=w.heap[k]?)/\oY P.kb l (aj L v.C.o.gid G') w' (P.lb i) P.n (P.B0 i) (qt (S.U i) p) (qg (S.V i) p (Sc (J (O C 0 G')) (S.N i p+1) g')) (qg (S.N i) p (S.N i p+1)) (qg (S.Xs i) p (S.Xs i p++pc v.C.kd v.C.A v.C.B er va))) m T.r4.1.lt (T.l i m).1 M (λy' z' y d=>?_) (λl' d' h' w' W=>?_) λl' d' h' w1 a' W lv=>?_
 .have gd:Grown w (w.at d):=⟨af _,λ_ _=>rfl,nQ⟩;have A':∀(q:Nat) (u:Lv),(p:Int)=q->S.U i q=J u.C.o->L u.C.o.gid=J u->q=p/\u=v:=λq u e h1 h2=>by
   grind
  refine Ed (c.co.at d) c.nS ((c.lm i m).grown gd) (λq hq=>by have:=c.tN i q m hq;omega) (λq q' o h1 h2 z h4=>(c.one i q i q' o o m m h1 h2 z h4 Z).2) p y' z' (λhb=>?_) (λq e hq hn=>?_) (λq u e hq h1 h2 z w' v' d' c1 c2 c3 c4 c5 c6=>?_) λq u e hq h1 h2 z w' d' va' er' C g' n' d1 d2 d3 d4=>?_
  .simp at hb;omega
  .obtain rfl:p=q:=by omega
   grind
  .grind
  .obtain⟨rfl,rfl⟩:=A' q u e h1 z;rw[u']at n';obtain⟨rfl,rfl⟩:=Node.done.inj n';exact y l d' nG w' ⟨Z,Z,C,g',λk y B=>d1 k ⟨y.lt,y.nf,y.ns,y.nd,y.own⟩ B,d2,λk y B=>d3 k ⟨y.lt,y.nf,y.ns,y.nd,y.own⟩ B,d4⟩
 .let⟨_,_,C,g',_,_,kp,_⟩:=W;have lc:=c.lc i m;have no:∀k,κ k≠0->κ k<300->¬rY (P.lb i) (S.V i) p k:=λk h0 z B=>by
   rcases B with rfl|rfl|B
   .have:=lc.2.1;omega
   .have:=lc.2.2.1;omega
   .have:=lc.2.2.2 p k E B;omega
  have H:∀k,κ k≠0->κ k<300->w'.heap[k]?=w.heap[k]?:=λk h0 z=>(kp k (c.mw k h0).mn (no k h0 z)).2;exact⟨H _ (by rw[T.rw.2];decide) (by rw[T.rw.2];decide),H _ (by rw[h8];decide) (by rw[h8];decide),H _ (by rw[T.r4.2];decide) (by rw[T.r4.2];decide)⟩
 .obtain⟨rfl,rfl,gg,g',hg,i',kp,I'⟩:=W;have lc:=c.lc i m;have no:∀k,κ k≠0->κ k<300->¬rY (P.lb i) (S.V i) p k:=λk h0 z B=>by
   rcases B with rfl|rfl|B
   .have:=lc.2.1;omega
   .have:=lc.2.2.1;omega
   .have:=lc.2.2.2 p k E B;omega
  have nk:¬rY (P.lb i) (S.V i) p P.kb.bk:=λB=>by
   rcases B with e|e|e
   .exact(c.lm i m).m.qK.bk e.symm
   .exact(c.lm i m).m.rO.bk e.symm
   .exact((c.lm i m).m.ry p E _ e).bk Z
  let⟨κ1,C,H⟩:=c.pg.over m E hU hL hg i' kp I' (c.co.ue i' (kp _ c.co.Ft nk).2);rw[hT]at C;have o':=c.AB λk h0 z=>⟨(H k (c.mw k h0).mn z).1,(H k (c.mw k h0).mn z).2.2⟩
  have u8:=H b3 (c.mw b3 (by rw[h8];decide)).mn (by rw[h8];decide);have ub:=u8.2.2;have p':κ1 b3=8:=u8.1.trans h8;refine GV (κ1:=κ1) (Q:=λw2=>∃κ' R,Pw l' (aj L v.C.o.gid G') r d' h' w2 κ' P R (d8 K p g h b j).K (t+1)/\G7 P.kb L κ w (aj L v.C.o.gid G') κ' w2) o' i'.env.fit i'.soft p' (m'.of ub) ((Zf (w:=w) (a:=(O b3 1 G')) ub).trans hc) m lv (λw2 F=>?_) λw2 w3 hQ F=>?_
  .have s':Pm (fb l') κ1 w2 P S K:=o'.move λk y W=>⟨Z,F.old k y Zc,(C.mw k W.1).sf⟩
   have g2:=C.hJ F (λk y=>(by cases y)) (λ_ _=>rfl) λk y=>(C.mw k y).grow F.size;have lb:b3<w2.heap.size:=Zg (G0 m'.lt ub) F.size;intro Stop fr cs B;refine MD s' F.fit g2.co.soft m E k' ⟨by have:=c.sz;omega,c.sz.2.1⟩ t' (by have:=c.tN i p m E;omega) z ?_ hn hr Stop fr cs λx w3 hP=>?_
   .cases f with
    | fresh _ _ _=>show 0<_;decide
    | begun T0=>have:=c.tL i p T0 m E k';show T0.Ls.length<_;omega
   .let⟨f1,u1,u2,u3⟩:=Jt s' p' lb m Za hP
    let⟨V',κ',R,j',W'⟩:=c.ends (w1:=w2) m E hU k' hd g2 (λk W z=>by
     let⟨a1,m1,e1⟩:=H k W z
     exact⟨a1,m1.grow F.size,(F.old k m1.lt Zc).trans e1⟩) ho hP
    exact B x w3 ⟨V',f1,j'.co.soft,u1,u2,u3,κ',R,j',W'⟩
  .let⟨κ',R,j',k8⟩:=hQ;exact x' _ _ w3 κ' R _ (j'.grown F) (k8.hJ F)
end
theorem Vc(h:Pw l L (r+1) Inb nG w κ P S K t)(ht:t<=1000000000000)(B:κ b3=8)(C:F3 (fb l) w b3)(E:w.cell? (O b3 1 G')=J (vi s))(k:i<2)(M:fx (fb l) [] 2 w [(P.bw,0),(b3,0)] [(0,2,.v (Sc (J (O P.wl 0 G')) 2 P.cl)),(1,1,ci s)] 160 [(0,.c (.p 0 0)),(3,.c (.p 1 0)),(9,.c (ci i))] a w)(F:∀L' d' w2 κ' S' K',Pw l L' r d' nG w2 κ' P S' K' (t+1)->G7 P.kb L κ w L' κ' w2->iv J' true true (fb l) (X J' f' l d' nG 0) (G (fr.finish (Bo true)) cs) w2):iv J' true true (fb l) (X J' f' l Inb nG 0) (G ((base 9).at a Ay) (fr::cs)) w:=by
 have hN:∀q,q<P.n->S.N i q<=4398046511104:=λq f=>by have:=h.tN i q k f;omega
 have g':∀q z o,q<P.n->z<P.n->S.U i q=J o->S.U i z=J o->q=z:=λq z o m h2 H h4=>(h.one i q i z o o k k m h2 H h4 Z).2;have hF:1<=K.nF/\K.nF<=32:=⟨by have:=h.sz;omega,h.sz.2.1⟩;have gd:∀d,Grown w (w.at d):=λd=>⟨af _,λ_ _=>rfl,nQ⟩
 cases T:oZ s P.n with
 | false =>
  have no:∀q:Nat,s=q->q<P.n->False:=λq e f=>by simp[oZ]at T;omega
  refine Je (e0:=3) h B C E k M (λW a' hk d=>Ed (h.co.at d) h.nS ((h.lm i k).grown (gd d)) hN g' s W a' (λ_ w' g=>hk w' ⟨g.size,g.old,nQ⟩) (λq e f=>(no q e f).elim) (λq u e f=>(no q e f).elim) λq u e f=>(no q e f).elim) (λw' j=>?_) λw2 y k8=>F _ _ w2 κ S K y k8;intro Stop fr cs hx;refine FH (j.pm.rl i k) j.fit j.co.soft j.pm.R j.pm.Rc j.pm.sJ hF s (λq t' e f=>(no q e f).elim) Stop fr cs λx w2 y=>hx x w2 ?_
  grind
 | true =>
  simp only[oZ,aC,decide_eq_true_eq]at T;obtain⟨p,rfl⟩:=cV T.1;have R:p<P.n:=by omega
  rcases h.tie i p k R with⟨i',n'⟩|⟨v,ts,hU,hL,c',j',tie⟩
  .refine Je (e0:=11) h B C E k M (λW a' hk d=>Ed (h.co.at d) h.nS ((h.lm i k).grown (gd d)) hN g' p W a' (λo'=>?_) (λq e f _ w' g=>hk w' ⟨g.size,g.old,nQ⟩) (λq u e f m=>?_) λq u e f m=>?_) (λw' j=>?_) λw2 y k8=>F _ _ w2 κ S K y k8
   .grind
   .obtain rfl:p=q:=by omega
    rw[i']at m;cases m
   .obtain rfl:p=q:=by omega
    rw[i']at m;cases m
   .intro Stop fr cs hx;refine FH (j.pm.rl i k) j.fit j.co.soft j.pm.R j.pm.Rc j.pm.sJ hF p (λq t' e f e2=>?_) Stop fr cs λx w2 y=>hx x w2 ?_
    .grind
    .rcases y with⟨e,_⟩|⟨q,e,f,y⟩
     .simp[oZ]at e;omega
     grind
  .let⟨p',a0,b,c,hn,hr,H,hT,l'⟩:=c8O tie c' K;have nx:=tie.next K;have k':p<(ts.K0 K).nS:=by
    cases ts with
    | fresh _ _ _=>show p<K.nS;rw[h.nS];exact R
    | begun T0=>exact tie.2.2.2.2.2.2.2.2
   rcases l' with⟨e',ho,m'⟩|⟨va,er,e',ho⟩
   .exact WM h ht B C E k R hU hL c' j' k' hn hr H hT ho m' e' M F
   .exact WR h ht B C E k R hU hL c' j' k' hn hr H hT ho ⟨nx.1,nx.2.1,nx.2.2.1⟩ e' M F
section
variable{f:Nat->Nat->Option nY}{n:Nat->Nat->Vu}{N:Nat->Nat->Nat}{s:Nat->Nat->List Vu}
theorem Pg.cancel(h:Pg l L r Inb nG w κ P f n N s K)(M:i<2)(co:Co P.kb l K L' r d' nG w')(X:oY P.kb l L' w' (P.lb i) P.n (P.B0 i) (λ_=>G') (n i) (N i) (s i))(F:∀k,Mn P.kb L w k->k≠(P.lb i).bu->Mn P.kb L' w' k/\w'.heap[k]?=w.heap[k]?)(h1:∀g v,L' g=J v->L g=J v/\∀p,p<P.n->f i p≠J v.C.o)(h2:∀g v,L g=J v->(∀p,p<P.n->f i p≠J v.C.o)->L' g=J v) :
  Pg l L' r d' nG w' κ P (oy f i λ_=>G') n N s K/\∀k,Mn P.kb L w k->κ k<300->Mn P.kb L' w' k/\w'.heap[k]?=w.heap[k]?:=by
 have lc:=h.lc i M;have C:∀k,κ k≠0->k≠(P.lb i).bu->Mw P.kb l L' w' k/\w'.heap[k]?=w.heap[k]?:=λk h0 H=>by
  have m:=h.mw k h0;exact⟨⟨(F k m.mn H).1,m.bk,m.oT,m.rc⟩,(F k m.mn H).2⟩
 refine⟨⟨co,h.nS,λj R=>?_,h.lc,λk hk=>?_,λa b c d o o' T W G hd e1 e2 he=>?_,λg v hv=>?_,h.sz,h.pos⟩,λk hm h3=>F k hm λe=>by rw[e,lc.2.1]at h3;omega⟩
 .by_cases e:j=i
  .subst e;simp only[oy,if_true];exact X
  .simp only[oy,nR e];have z:=h.lc j R;have E:=h.lm j R;have c':=E.m.is.small;have no:∀ {k c},κ k=300+100*j+c->c<100->k≠(P.lb i).bu:=λ{k c} W hl hx=>by rw[hx,lc.2.1]at W;omega
   have I:=C _ (by rw[z.1];omega) (no (c:=0) z.1 Za);have ku:=C _ (by rw[z.2.1];omega) (no (c:=1) (by rw[z.2.1];omega) Za);have kn:=C _ (by rw[z.2.2.1];omega) (no (c:=2) (by rw[z.2.2.1];omega) Za);have kl:∀q,q<P.n->∀y,(n j q).ownBlock=J y->_:=λq x y B=>C y (by rw[z.2.2.2 q y x B];omega) (no (c:=10+q) (by rw[z.2.2.2 q y x B];omega) Za);refine⟨⟨E.m.is.same I.2 ku.2 kn.2 λq x y B=>(kl q x y B).2,I.1,ku.1,kn.1,λq x y B=>(kl q x y B).1,E.m.b0⟩,λq x o ho=>?_⟩;let⟨u,a1,a2,a3⟩:=E.live q x o ho;exact⟨u,h2 _ u a1 λp hp hU=>e (h.one j q i p o u.C.o R M x hp ho hU (by rw[a2])).1,a2,a3⟩
 .by_cases e:k=(P.lb i).bu
  .rw[e];exact X.m.qK
  .exact(C k hk e).1
 .have un:∀ {a b:Nat} {o:nY},oy f i (λ_=>G') a b=J o->f a b=J o:=λ{a b o} hh=>by
   unfold oy at hh;split at hh
   all_goals grind
  exact h.one a b c d o o' T W G hd (un e1) (un e2) he
 .let⟨b',H⟩:=h1 g v hv;let⟨a,b,T,G,e'⟩:=h.all g v b';refine⟨a,b,T,G,?_⟩;unfold oy
  grind
theorem Pg.begun{p:Nat}{C:Ctx}(h:Pg l L r Inb nG w κ P f n N s K)(hi:i<2)(hp:p<P.n)(hU:f i p=G')(hv:E.C=C)(e':C.o.bo∈E.pv)(hg:C.o.gid=nG)(co:Co P.kb (C.o::l) K (aj L nG (J E)) r d' (nG+1) w')(kp:∀k,Mn P.kb L w k->k≠(P.lb i).bu->Mn P.kb (aj L nG (J E)) w' k/\w'.heap[k]?=w.heap[k]?)(c':oY P.kb (C.o::l) (aj L nG (J E)) w' (P.lb i) P.n (P.B0 i) (rR (f i) p C.o) (n i) (N i) (s i)) :
  Pg (C.o::l) (aj L nG (J E)) r d' (nG+1) w' κ P (oy f i (rR (f i) p C.o)) n N s K/\∀k,Mn P.kb L w k->κ k<300->Mn P.kb (aj L nG (J E)) w' k/\w'.heap[k]?=w.heap[k]?:=by
 have lc:=h.lc i hi;have H:∀k,κ k≠0->k≠(P.lb i).bu->Mw P.kb (C.o::l) (aj L nG (J E)) w' k/\w'.heap[k]?=w.heap[k]?:=λk h0 hn=>by
  have m:=h.mw k h0;let⟨m1,m2⟩:=kp k m.mn hn;refine⟨⟨m1,m.bk,m.oT,λo B=>?_⟩,m2⟩;rcases ae.1 B with rfl|B
  .intro e;exact(m1.own nG E (by rw[aH])).1 (e▸e')
  .exact m.rc o B
 have g':∀ {j q o},j<2->q<P.n->f j q=J o->o.gid<nG/\∃u,L o.gid=J u/\u.C.o=o/\u.C.slot=q:=λ{j q o} R x B=>by
  let⟨u,T,G,M⟩:=(h.lm j R).live q x o B;exact⟨(h.co.gid _ u T).2.2,u,T,G,M⟩
 have un:∀ {a b:Nat} {o:nY},oy f i (rR (f i) p C.o) a b=J o->(a=i/\b=p/\o=C.o)\/f a b=J o:=λ{a b o} hh=>by
  unfold oy rR at hh;split at hh
  all_goals grind
 refine⟨⟨co,h.nS,λj R=>?_,h.lc,λk hk=>?_,λa b c d o o' X hc hb hd e1 e2 he=>?_,λg v W=>?_,h.sz,by omega⟩,λk hm h3=>kp k hm λe=>by rw[e,lc.2.1]at h3;omega⟩
 .by_cases e:j=i
  .subst e;simp only[oy,if_true];exact c'
  .simp only[oy,nR e];have z:=h.lc j R;have lm:=h.lm j R;have h':=lm.m.is.small;have no:∀ {k c},κ k=300+100*j+c->c<100->k≠(P.lb i).bu:=λ{k c} hc hl hx=>by rw[hx,lc.2.1]at hc;omega
   have I:=H _ (by rw[z.1];omega) (no (c:=0) z.1 Za);have ku:=H _ (by rw[z.2.1];omega) (no (c:=1) (by rw[z.2.1];omega) Za);have kn:=H _ (by rw[z.2.2.1];omega) (no (c:=2) (by rw[z.2.2.1];omega) Za);have kl:∀q,q<P.n->∀y,(n j q).ownBlock=J y->_:=λq x y F=>H y (by rw[z.2.2.2 q y x F];omega) (no (c:=10+q) (by rw[z.2.2.2 q y x F];omega) Za);refine⟨⟨lm.m.is.same I.2 ku.2 kn.2 λq x y F=>(kl q x y F).2,I.1,ku.1,kn.1,λq x y F=>(kl q x y F).1,lm.m.b0⟩,λq x o B=>?_⟩;let⟨gl,u,T,G,M⟩:=g' R x B;exact⟨u,by rw[az _ _ Za];exact T,G,M⟩
 .by_cases e:k=(P.lb i).bu
  .rw[e];exact c'.m.qK
  .exact(H k hk e).1
 .rcases un e1 with⟨i1,i2,i3⟩|f1
  .grind
  .rcases un e2 with⟨j1,j2,j3⟩|f2
   .grind
   .exact h.one a b c d o o' X hc hb hd f1 f2 he
 .by_cases e:g=nG
  .rw[e,aH]at W;cases Ze W;exact⟨i,p,hi,hp,by rw[hv];simp[oy,rR]⟩
  .rw[az _ _ e]at W;let⟨a,b,X,hb,i'⟩:=h.all g v W;refine⟨a,b,X,hb,?_⟩;unfold oy rR;split
   all_goals grind
end
theorem NS{Q:Nat->Prop}(f:Q c)(g:Q d):∀i,i < [(c,0),(d,0)].length->Q (ox [(c,0),(d,0)] i).1:=λi e=>by
 have e:i<2:=e;obtain rfl|rfl:i=0\/i=1:=by omega
 .exact f
 .exact g
theorem Ei{w w':Wd}(e:w'.heap[c]?=w.heap[c]?)(f:w'.heap[d]?=w.heap[d]?):∀i,i < [(c,0),(d,0)].length->w'.heap[(ox [(c,0),(d,0)] i).1]?=w.heap[(ox [(c,0),(d,0)] i).1]?:=NS (Q:=λk=>w'.heap[k]?=w.heap[k]?) e f
theorem D4{w w':Wd}{sft:Nat->Nat}(e:sft c=0/\w'.heap[c]?=w.heap[c]?)(f:sft d=0/\w'.heap[d]?=w.heap[d]?):∀i,i < [(c,0),(d,0)].length->sft (ox [(c,0),(d,0)] i).1=0/\w'.heap[(ox [(c,0),(d,0)] i).1]?=w.heap[(ox [(c,0),(d,0)] i).1]?:=NS (Q:=λk=>sft k=0/\w'.heap[k]?=w.heap[k]?) e f
def FT:List bm:=match Tryz.f9.body with
 | some (.seq _ (.seq _ (.seq _ (.seq _ (.seq _ (.seq (.seq _ (.block b (.seq _ (.cond _ (.seq r x) _)))) e))))))=>[.code r,.code x,.inBlock b,.code e]
 | _=>[]
variable{ka cl a0 a1 a2 R B:Int}{ot:Bool}
section
variable{A:Int}
structure qn (P:Wp) (b3:Nat) (w:Wd) (l':List nY) (w':Wd):Prop where
 fit:Fit (fb l') w'
 new:∀k,w'.heap.size<=k->fb l' k=0
 bw:fb l' P.bw=0/\w'.heap[P.bw]?=w.heap[P.bw]?
 b3:fb l' b3=0/\w'.heap[b3]?=w.heap[b3]?
 wl:fb l' P.wl=0/\w'.heap[P.wl]?=w.heap[P.wl]?
 wm:fb l' P.wm=0/\w'.heap[P.wm]?=w.heap[P.wm]?
theorem qn.hJ{f:List nY}{w1 w2:Wd}(h:qn P b3 w f w1)(F:oh (fb f) [] w1 w2)(c:P.bw<w.heap.size/\b3<w.heap.size/\P.wl<w.heap.size/\P.wm<w.heap.size):qn P b3 w f w2:=by
 have d:∀k,k<w.heap.size->w1.heap[k]?=w.heap[k]?->w2.heap[k]?=w.heap[k]?:=λk g e=>(F.old k (G0 g e) Zc).trans e;exact⟨F.fit,λk g=>h.new k (Zh F.size g),⟨h.bw.1,d _ c.1 h.bw.2⟩,⟨h.b3.1,d _ c.2.1 h.b3.2⟩,⟨h.wl.1,d _ c.2.2.1 h.wl.2⟩,⟨h.wm.1,d _ c.2.2.2 h.wm.2⟩⟩
theorem Kd{sE Q:List nY->(Nat->Option ic)->Nat->Wd->Prop}(j:Pm (fb l) κ w P S K)(h8:κ b3=8)(W:i<2)(M:fx (fb l) [] 2 w [(P.bw,0),(b3,0)] (wJ P ka s cl a0 a1 a2 R A B ot) 160 [(0,.c (.p 0 0)),(3,.c (.p 1 0)),(9,.c (ci i))] a w)(c':∀o u,(∀c d' e w',sE c d' e w'->X J' f' c d' e 0 (G (o.finish (vi e0)) u) w')->∀d,X J' f' l Inb nG 0 (G (ay J' 19 #[Po (J (O ((P.lb i).bl) 0 G')),vi s,.agg #[vi R,vi A,vi B]] .normal) (o::u)) (w.at d))(hM:∀c d' e w',sE c d' e w'->qn P b3 w c w')(g':∀c d' e w' w1,sE c d' e w'->oh (fb c) [] w' w1->py true (fb c) 20 #[Po (J (O ((P.rb i).bl) 0 G')),vi s,.agg #[vi R,vi A,vi B]] w1 λx w2=>x=vi e0/\qn P b3 w c w2/\Q c d' e w2)(h':∀c d' e w2 g,Q c d' e w2->oh (fb c) [] w2 g->iv J' true true (fb c) (X J' f' c d' e 0) (G (fr.finish (Bo true)) cs) g):iv J' true true (fb l) (X J' f' l Inb nG 0) (G ((base 9).at a FT) (fr::cs)) w:=by
 have i':b3<w.heap.size:=F3.lt (M.bl 1 Zc);have j':=dg j.rw.1.lt (dg i' (dg j.r4.1.lt j.r5.1.lt));refine Dl (r:=.c (ci e0)) (svs:=[.c (.v (Po (J (O ((P.lb i).bl) 0 G')))),.c (ci s),.g [ci R,ci A,ci B]]) (j:=11) [P.wl] [[Po (J (O ((P.lb i).bl) 0 G'))]] (λw' E=>∃c d' e,E=(fb c,X J' f' c d' e 0)/\sE c d' e w') M Z (λ_=>rfl) (λ_=>rfl) Z Zd ⟨⟨nQ,by omega⟩,⟨j.r4.1.lt,Df Zc,by simpa using(j.l i W).1⟩⟩ Z Z Z gC Z Z (λ_=>rfl) nQ (λo u m=>λd=>.stop (c' o u (λc d' e w' f=>tH (m w' (fb c,X J' f' c d' e 0) ⟨c,d',e,Z,f⟩)) d)) (λw' E f=>?_) λw' E a' f F H=>?_
 .obtain⟨c,d',e,rfl,f⟩:=f;have q:=hM _ _ _ _ f;exact⟨Ei q.bw.2 q.b3.2,λk m=>by cases Zi m;exact q.wl.2⟩
 .obtain⟨c,d',e,rfl,f⟩:=f;have q:=hM _ _ _ _ f;have M1:=(M.next q.fit q.new (D4 q.bw q.b3) F H).oV 2 [0,3,9,10] Z Z;refine iN 1 2 [] M1 Z Z nQ λa2 w2 z=>?_;have y:=q.hJ z.hJ j'
  refine Dl (r:=.c (ci e0)) (svs:=[.c (.v (Po (J (O ((P.rb i).bl) 0 G')))),.c (ci s),.g [ci R,ci A,ci B]]) (j:=11) [P.wm] [[Po (J (O ((P.rb i).bl) 0 G'))]] (λg T=>T=(fb c,X J' f' c d' e 0)/\qn P b3 w c g/\Q c d' e g) z.oo Z (λ_=>rfl) (λ_=>rfl) Z Zd ⟨⟨nQ,by omega⟩,⟨G0 j.r5.1.lt y.wm.2,Df Zc,by simpa using(Zf (w:=w) (a:=(O P.wm i G')) y.wm.2).trans (j.l i W).2⟩⟩ Z Z Z iL Z Z (λ_=>rfl) nQ (λo u m=>g' c d' e w' w2 f z.hJ _ o u λx g hq=>by
   obtain⟨rfl,h,C⟩:=hq
   exact m g _ ⟨Z,h,C⟩) (λg T f=>?_) λg T a3 f F H=>?_
  .obtain⟨rfl,h,C⟩:=f;exact⟨Ei (h.bw.2.trans y.bw.2.symm) (h.b3.2.trans y.b3.2.symm),λk m=>by cases Zi m;exact h.wm.2.trans y.wm.2.symm⟩
  .obtain⟨rfl,h,C⟩:=f;have M3:=(z.re F H).oO [10,11] Z h.fit h.new;refine iN 200 0 [] M3 Z Z nQ λa4 w4 M4=>B3 M4 eE Z Z Z ?_;show iv J' true true (fb c) _ (G (fr.finish (Bo (e0==e0))) cs) w4;rw[show(e0==e0)=true by simp];exact h' c d' e g w4 C M4.hJ
end
variable{l':List nY}{b':Nat}
section
variable{A:Int}{b:Nat->Nat->Option nY}{m:Nat->Nat->Vu}{N:Nat->Nat->Nat}{f:Nat->Nat->List Vu}
theorem Pg.pw(g:Pg l L r Inb nG w κ P S.U S.V S.N S.Xs K)(d:Pm (fb l) κ w P S K)(tie:∀i p,i<2->p<P.n->(S.U i p=G'/\S.ts i p=G')\/∃v t,S.U i p=J v.C.o/\L v.C.o.gid=J v/\v.C.slot=p/\S.ts i p=J t/\Tie v p t)(e:∀i p,i<2->p<P.n->S.N i p<=t)(h:∀i p T,i<2->p<P.n->S.ts i p=J (.begun T)->T.Ls.length<=t)(j:∀c,c<4->S.bN c<=4*t)(k:∀i p x,i<2->p<P.n->x∈S.Xs i p->∃v,x=vi v):Pw l L r Inb nG w κ P S K t :=
 ⟨g.co,g.nS,g.lm,g.lc,g.mw,d,tie,g.one,g.all,g.sz,g.pos,e,h,j,k⟩
theorem Pg.left(g:Pg l' L' r' d' b' w' κ' P b m N f K')(h:Pm sft κ w P S K)(j:κ b3=8)(o:∀k,κ k≠0->κ k<300->κ' k=κ k/\w'.heap[k]?=w.heap[k]?):qn P b3 w l' w':=by
 have d:∀ {k c},κ k=c->c≠0->c<300->fb l' k=0/\w'.heap[k]?=w.heap[k]?:=λ{k c} e q u=>by
  let⟨y,x⟩:=o k (by rw[e];exact q) (by rw[e];exact u);exact⟨(g.mw k (by grind)).sf,x⟩
 exact⟨g.co.env.fit,g.co.soft,d h.rw.2 Zb Zb,d j Zb Zb,d h.r4.2 Zb Zb,d h.r5.2 Zb Zb⟩
theorem Pm.Nu{W:List Nat}{y:Nat->Option pU}{U':Nat->Nat->Option nY}(h:Pm sft κ w1 P S K)(hi:i<2)(F:oh sft W w1 w2)(E:∀k∈W,pG i (κ k))(H:oM sft κ i w2 (P.rb i) P.B.b P.n y (S.D i) (S.N i) (S.Xs i)):Pm sft κ w2 P { S with ts:=oy S.ts i y,U:=U' } K:=by
 have u:∀k,k<w1.heap.size->¬pG i (κ k)->w2.heap[k]?=w1.heap[k]?:=λk T G=>F.old k T λM=>G (E k M);have cl:∀ {k c o},F3 sft w1 k/\κ k=c->c<100->w2.cell? (O k o G')=w1.cell? (O k o G')/\F3 sft w2 k/\κ k=c:=λ{k c o} q z=>by
  have e:=u k q.1.lt (by rw[q.2];unfold pG;omega);exact⟨Zf (w:=w1) e,q.1.of e,q.2⟩
 have X:∀j,P.B.is S.rr j->w2.heap[j]?=w1.heap[j]?:=λj d=>u j (h.R.lt d) (by rw[h.Rc j d];unfold pG;omega);refine⟨h.R.keep X,h.Rc,h.sJ,λj d=>?_,h.bk.same (λ_ _ _=>rfl) λg x C=>u g (h.bk.blk g x C).2.lt (by rw[(h.bk.blk g x C).1];unfold pG;omega),(cl h.rw Zb).1.trans h.w0,(cl h.rw Zb).1.trans h.w1,(cl h.rw Zb).1.trans h.w2,(cl h.rw Zb).1.trans h.w3,(cl h.rw Zb).1.trans h.w4,λj d=>⟨(cl h.r4 Zb).1.trans (h.l j d).1,(cl h.r5 Zb).1.trans (h.l j d).2⟩,(cl (o:=0) h.rw Zb).2,(cl (o:=0) h.r4 Zb).2,(cl (o:=0) h.r5 Zb).2⟩
 by_cases e:j=i
 .subst e;simp only[wx];exact H
 .simp only[wY e];exact(h.rl j d).same λk h1 z=>⟨Z,u k h1 (by unfold pG at z ⊢;omega)⟩
theorem HG(h:Pw l L r Inb nG w κ P S K t)(C:κ b3=8)(T:i<2)(M:fx (fb l) [] 2 w [(P.bw,0),(b3,0)] (wJ P ka s cl a0 a1 a2 R A B ot) 160 [(0,.c (.p 0 0)),(3,.c (.p 1 0)),(9,.c (ci i))] a w)(W:∀e j,(∀w',Grown w w'->X J' f' l Inb nG 0 (G (e.finish (vi e0)) j) w')->∀d,X J' f' l Inb nG 0 (G (ay J' 19 #[Po (J (O ((P.lb i).bl) 0 G')),vi s,.agg #[vi R,vi A,vi B]] .normal) (e::j)) (w.at d))(a':∀w',Pw l L r Inb nG w' κ P S K t->py true (fb l) 20 #[Po (J (O ((P.rb i).bl) 0 G')),vi s,.agg #[vi R,vi A,vi B]] w' λx w2=>x=vi e0/\oh (fb l) [] w' w2)(c':∀w2,Pw l L r Inb nG w2 κ P S K (t+1)->G7 P.kb L κ w L κ w2->iv J' true true (fb l) (X J' f' l Inb nG 0) (G (fr.finish (Bo true)) cs) w2):iv J' true true (fb l) (X J' f' l Inb nG 0) (G ((base 9).at a FT) (fr::cs)) w:=by
 have lf:∀ {w'},oh (fb l) [] w w'->qn P b3 w l w':=λ{w'} F=>(h.grown F).pg.left h.pm C λk h0 _=>⟨Z,F.old k (h.DJ h0) Zc⟩
 have c:∀ {u v:Wd},oh (fb l) [] w u->oh (fb l) [] u v->oh (fb l) [] w v:=λq y=>⟨Zh q.size y.size,λk o _=>(y.old k (Zg o q.size) Zc).trans (q.old k o Zc),y.fit⟩
 refine Kd (sE:=λl' d' b' w'=>l'=l/\d'=Inb/\b'=nG/\oh (fb l) [] w w') (Q:=λl' d' b' w'=>l'=l/\d'=Inb/\b'=nG/\oh (fb l) [] w w') h.pm C T M (λe j o d=>W e j (λw' g=>o l Inb nG w' ⟨Z,Z,Z,g.hJ h.co⟩) d) (λl' d' b' w' E=>?_) (λl' d' b' w' w1 E F=>?_) λl' d' b' w2 w3 hQ F=>?_
 .grind
 .obtain⟨rfl,rfl,rfl,g⟩:=E;intro Stop fr cs hx;exact a' w1 (h.grown (c g F)) Stop fr cs λx w2 z=>hx x w2 ⟨z.1,lf (c (c g F) z.2),Z,Z,Z,c (c g F) z.2⟩
 .obtain⟨rfl,rfl,rfl,g⟩:=hQ;have H:=c g F;exact c' w3 ((h.grown H).later Za) (G7.hJ (G7.refl _ _ _ _) H)
theorem Wy(h:Pw l L r Inb nG w κ P S K t)(h8:κ b3=8)(E:i<2)(n':-9223372036854775808<=R/\R<9223372036854775808)(M:fx (fb l) [] 2 w [(P.bw,0),(b3,0)] (wJ P ka s cl a0 a1 a2 R A B ot) 160 [(0,.c (.p 0 0)),(3,.c (.p 1 0)),(9,.c (ci i))] a w)(k':∀l' L' d' b' w2 κ' S',Pw l' L' r d' b' w2 κ' P S' K (t+1)->G7 P.kb L κ w L' κ' w2->iv J' true true (fb l') (X J' f' l' d' b' 0) (G (fr.finish (Bo true)) cs) w2):iv J' true true (fb l) (X J' f' l Inb nG 0) (G ((base 9).at a FT) (fr::cs)) w:=by
 have gd:∀d,Grown w (w.at d):=λd=>⟨af _,λ_ _=>rfl,nQ⟩
 have gn:∀ {d w'},Grown (w.at d) w'->Grown w w':=λg=>⟨g.size,g.old,nQ⟩
 have mB:=λd=>Sr (Final:=f') (h.co.at d) h.nS ((h.lm i E).grown (gd d)) h.pos s R A B;have rB:=λw' (h':Pw l L r Inb nG w' κ P S K t)=>Lt (main:=true) (h'.pm.rl i E) h'.fit h'.co.soft s R A B n'
 by_cases o':1<=R/\R<=7
 case neg =>
  have R':R<1\/7<R:=by omega
  refine HG (e0:=2) h h8 E M (λi' j' y d=>mB d i' j' (λ_ w' g=>y w' (gn g)) (λh1 h2=>Za) (λh1 h2=>Za) λh1 h2=>Za) (λw' h'=>λStop fr cs hx=>rB w' h' Stop fr cs λx w2 hP=>hx x w2 ?_) λw2 hP k8=>k' _ _ _ _ w2 κ S hP k8
  grind
 cases hb:oZ s P.n with
 | false =>
  have no:∀q:Nat,s=q->q<P.n->False:=λq e hq=>by simp[oZ]at hb;omega
  refine HG (e0:=3) h h8 E M (λi' j' y d=>mB d i' j' (λh1=>Za) (λ_ _ _ w' g=>y w' (gn g)) (λ_ _ p o e hp=>(no p e hp).elim) λ_ _ p e hp=>(no p e hp).elim) (λw' h'=>λStop fr cs hx=>rB w' h' Stop fr cs λx w2 hP=>hx x w2 ?_) λw2 hP k8=>k' _ _ _ _ w2 κ S hP k8
  grind
 | true =>
  simp only[oZ,aC,decide_eq_true_eq]at hb;obtain⟨p,rfl⟩:=cV hb.1;have hp:p<P.n:=by omega
  have p':¬(decide (0<=(p:Int))&&decide ((p:Int)<P.n))=false:=by simp;omega
  have D':¬oZ (p:Int) P.n=false:=by simp[oZ];omega
  rcases h.tie i p E hp with⟨q',T'⟩|⟨v,ts,hU,hL,V',W',tie⟩
  .refine Kd (e0:=0) (sE:=λl' d' b' w'=>∃(C:Ctx) (H:y6),l'=C.o::l/\b'=nG+1/\C.slot=(p:Int)/\C.kd=R/\C.A=A/\C.B=B/\C.o.gid=nG/\Co P.kb (C.o::l) K (aj L nG (J ⟨C,m8 C p,[C.o.bo],H,[T4 C.o,bot]⟩)) r d' (nG+1) w'/\(∀k,Mn P.kb L w k->k≠(P.lb i).bu->Mn P.kb (aj L nG (J ⟨C,m8 C p,[C.o.bo],H,[T4 C.o,bot]⟩)) w' k/\w'.heap[k]?=w.heap[k]?)/\oY P.kb (C.o::l) (aj L nG (J ⟨C,m8 C p,[C.o.bo],H,[T4 C.o,bot]⟩)) w' (P.lb i) P.n (P.B0 i) (rR (S.U i) p C.o) (S.V i) (S.N i) (S.Xs i))
    (Q:=λl' d' b' w2=>∃L' S',Pw l' L' r d' b' w2 κ P S' K (t+1)/\G7 P.kb L κ w L' κ w2) h.pm h8 E M (λi' j' y d=>mB d i' j' (λh1=>Za) (λ_ _ e=>absurd e p') (λ_ _ q o e hq hU=>?_) λ_ _ q e hq _ w' C H d' c1 c2 c3 c4 c5 c6 c7 c8 c9=>?_) (λl' d' b' w' z=>?_) (λl' d' b' w' w1 z F=>?_) λl' d' b' w2 w3 hQ F=>?_
   .grind
   .obtain rfl:p=q:=by omega
    exact y _ d' _ w' ⟨C,H,Z,Z,c1,c2,c3,c4,c6,c7,λk y=>c8 k ⟨y.lt,y.nf,y.ns,y.nd,y.own⟩,c9⟩
   .obtain⟨C,H,rfl,rfl,c1,c2,c3,c4,c6,c7,c8,c9⟩:=z;let⟨g,un⟩:=h.pg.begun (C:=C) E hp q' Z (cD.2 Z) c6 c7 c8 c9;exact g.left h.pm h8 λk h0 W=>⟨Z,(un k (h.mw k h0).mn W).2⟩
   .obtain⟨C,H,rfl,rfl,c1,c2,c3,c4,c6,c7,c8,c9⟩:=z;let⟨g,un⟩:=h.pg.begun (C:=C) E hp q' Z (cD.2 Z) c6 c7 c8 c9;generalize s':(⟨C,m8 C p,[C.o.bo],H,[T4 C.o,bot]⟩:Lv)=v0 at *;have hC:v0.C=C:=by rw[←s']
    have hS:v0.S=m8 C p:=by rw[←s']
    have g1:=g.hJ (κ':=κ) F (λk y=>(by cases y)) (λ_ _=>rfl) λk y=>(g.mw k y).grow F.size;have e1:∀k,Mn P.kb L w k->κ k<300->w1.heap[k]?=w.heap[k]?:=λk z W=>(F.old k (un k z W).1.lt Zc).trans (un k z W).2;have m':Pm (fb (C.o::l)) κ w1 P S K:=h.pm.move λk y z=>⟨Z,e1 k (h.mw k z.1).mn z.2,(g.mw k z.1).sf⟩
    intro Stop fr cs hx;refine Lt (m'.rl i E) F.fit g1.co.soft p R A B n' Stop fr cs λx w2 hP=>hx x w2 ?_;rcases hP with⟨h1,_⟩|⟨_,_,⟨e,_⟩|⟨q,e,hq,⟨e2,_⟩|⟨_,e2,F2,M'⟩⟩⟩
    .omega
    .exact absurd e D'
    .grind
    obtain rfl:p=q:=by omega
    have ku:∀k,k∈[(P.rb i).bu,(P.rb i).bt]->pG i (κ k):=λk y=>by
     simp only[ae,ai,or_false]at y;rcases y with rfl|rfl
     .rw[(m'.rl i E).ru.2];exact rT Za
     .rw[(m'.rl i E).rt.2];exact rT Za
    have kw:∀k,k∈[(P.rb i).bu,(P.rb i).bt]->κ k≠0/\κ k<300/\κ k≠8/\κ k≠3/\κ k≠4/\κ k≠5:=λk y=>by have:=ku k y;unfold pG at this;omega
    have g2:=g1.hJ (κ':=κ) F2 (λk y _=>⟨g1.mw k (kw k y).1,(kw k y).2.1⟩) (λ_ _=>rfl) λk y=>(g1.mw k y).grow F2.size;have N':=m'.Nu (U':=oy S.U i (rR (S.U i) p C.o)) E F2 ku M';have x':∀k,Mn P.kb L w k->κ k<300->k∉[(P.rb i).bu,(P.rb i).bt]->w2.heap[k]?=w.heap[k]?:=λk z W hn=>(F2.old k (G0 z.lt (e1 k z W)) hn).trans (e1 k z W);have et:∀j q,¬(j=i/\q=p)->oy S.ts i (pM (S.ts i) p (J (.fresh R A B))) j q=S.ts j q/\oy S.U i (rR (S.U i) p C.o) j q=S.U j q:=λj q e=>by
     unfold oy pM rR
     by_cases e1:j=i
     .subst e1
      grind
     .simp[e1]
    refine⟨e2,?_,_,_,g2.pw (t:=t+1) N' (λj q hj hq=>?_) (λj q hj hq=>Zh (h.tN j q hj hq) Za) (λj q T hj hq e=>?_) (λc hc=>Zh (h.tB c hc) Za) h.xi,λk z y=>?_⟩
    .have u:∀ {k c},κ k=c->c≠0->c<300->(c=3\/c=4\/c=5\/c=8)->fb (C.o::l) k=0/\w2.heap[k]?=w.heap[k]?:=λ{k c} e h0 W hc=>⟨(g.mw k (by rw[e];exact h0)).sf,x' k (h.mw k (by rw[e];exact h0)).mn (by rw[e];exact W) λy=>by grind⟩
     exact⟨F2.fit,g2.co.soft,u h.pm.rw.2 Zb Zb Zb,u h8 Zb Zb Zb,u h.pm.r4.2 Zb Zb Zb,u h.pm.r5.2 Zb Zb Zb⟩
    .show(oy S.U i (rR (S.U i) p C.o) j q=G'/\oy S.ts i (pM (S.ts i) p (J (.fresh R A B))) j q=G')\/∃(u:Lv) (t':pU),oy S.U i (rR (S.U i) p C.o) j q=J u.C.o/\_/\_/\oy S.ts i (pM (S.ts i) p (J (.fresh R A B))) j q=J t'/\_
     by_cases e:j=i/\q=p
     .obtain⟨rfl,rfl⟩:=e;exact .inr ⟨v0,.fresh R A B,by rw[hC];simp[oy,rR],by rw[hC,c6,aH],by rw[hC];exact c1,by simp[oy,pM],by rw[hC];exact c2,by rw[hC];exact c3,by rw[hC];exact c4,by rw[hS,hC],o'.1,o'.2⟩
     .rw[(et j q e).1,(et j q e).2];rcases h.tie j q hj hq with⟨b1,b2⟩|⟨u,t',b1,b2,b3,b4,b5⟩
      .grind
      .exact .inr ⟨u,t',b1,by rw[az _ _ λeg=>by have:=(h.co.gid _ u b2).2.2;omega];exact b2,b3,b4,b5⟩
    .have e:oy S.ts i (pM (S.ts i) p (J (.fresh R A B))) j q=J (.begun T):=e
     by_cases e1:j=i/\q=p
     .obtain⟨rfl,rfl⟩:=e1;simp[oy,pM]at e
     .rw[(et j q e1).1]at e;exact Zh (h.tL j q T hj hq e) Za
    .have W:κ k<300:=by omega
     exact⟨Z,((un k z W).1.grow F.size).grow F2.size,x' k z W λZ'=>by grind⟩
   .let⟨L',S',Q',k8⟩:=hQ;exact k' _ L' _ _ w3 κ S' (Q'.grown F) (k8.hJ F)
  .refine HG (e0:=14) h h8 E M (λi' j' y d=>mB d i' j' (λh1=>Za) (λ_ _ e=>absurd e p') (λ_ _ q o e hq _ w' g=>y w' (gn g)) λ_ _ q e hq hn=>?_) (λw' h'=>λStop fr cs hx=>rB w' h' Stop fr cs λx w2 hP=>hx x w2 ?_) λw2 hP k8=>k' _ _ _ _ w2 κ S hP k8
   all_goals grind
end
def aCp:List bm:=match Tryz.f9.body with
 | some (.seq _ (.seq _ (.seq _ (.seq _ (.seq _ (.seq (.seq _ (.block b (.seq _ (.cond _ _ (.seq _ (.cond _ _ (.seq _ (.cond _ _ (.seq _ (.cond _ x _)))))))))) e))))))=>[.code x,.inBlock b,.code e]
 | _=>[]
section
variable{A:Int}
theorem Pw.ended(h:Pw l L r Inb nG w κ P S K t)(o:i<2)(g:Pg l L' r d' nG w1 κ P (oy S.U i λ_=>G') S.V S.N S.Xs K)(E:∀g v,L g=J v->(∀p,p<P.n->S.U i p≠J v.C.o)->L' g=J v)(y:Pm (fb l) κ w1 P S K)(F:oh (fb l) [(P.rb i).bu] w1 w2)(H:oM (fb l) κ i w2 (P.rb i) P.B.b P.n (λ_=>G') (S.D i) (S.N i) (S.Xs i)):∃W,Pw l L' r d' nG w2 κ P W K (t+1):=by
 have z:∀k,k∈[(P.rb i).bu]->pG i (κ k):=λk m=>by
  cases Zi m;rw[(y.rl i o).ru.2];exact rT Za
 have G:=g.hJ (κ':=κ) F (λk m _=>by have:=z k m;unfold pG at this;exact⟨g.mw k Za,by omega⟩) (λ_ _=>rfl) λk m=>(g.mw k m).grow F.size;refine⟨_,G.pw (S:={ S with ts:=oy S.ts i λ_=>G',U:=oy S.U i λ_=>G' }) (t:=t+1) (y.Nu o F z H) (λj q d f=>?_) (λj q d f=>Zh (h.tN j q d f) Za) (λj q T d f e=>?_) (λc M=>Zh (h.tB c M) Za) h.xi⟩
 .show(oy S.U i (λ_=>G') j q=G'/\oy S.ts i (λ_=>G') j q=G')\/∃(u:Lv) (x:pU),oy S.U i (λ_=>G') j q=J u.C.o/\_/\_/\oy S.ts i (λ_=>G') j q=J x/\_
  by_cases e:j=i
  .subst e;exact .inl ⟨by rw[wx],by rw[wx]⟩
  .rw[wY e,wY e];rcases h.tie j q d f with X|⟨u,x,C,b2,b3,b4,b5⟩
   .exact .inl X
   .exact .inr ⟨u,x,C,E _ u b2 λp hp hU=>e (h.one j q i p _ _ d o f hp C hU Z).1,b3,b4,b5⟩
 .have e:oy S.ts i (λ_=>G') j q=J (.begun T):=e;unfold oy at e;split at e
  .cases e
  .exact Zh (h.tL j q T d f e) Za
theorem Y1(h:Pw l L r Inb nG w κ P S K t)(h8:κ b3=8)(o:i<2)(M:fx (fb l) [] 2 w [(P.bw,0),(b3,0)] (wJ P ka s cl a0 a1 a2 R A B ot) 160 [(0,.c (.p 0 0)),(3,.c (.p 1 0)),(9,.c (ci i))] a w)(h':∀L' d' w2 F,Pw l L' r d' nG w2 κ P F K (t+1)->G7 P.kb L κ w L' κ w2->iv J' true true (fb l) (X J' f' l d' nG 0) (G (fr.finish (Bo true)) cs) w2):iv J' true true (fb l) (X J' f' l Inb nG 0) (G ((base 9).at a aCp) (fr::cs)) w:=by
 have pm:=h.pm;refine iN 200 2 [[Po (J (O ((P.lb i).bl) 0 G'))]] M Z Z ⟨⟨nQ,by omega⟩,⟨pm.r4.1.lt,by simp,by simpa using(pm.l i o).1⟩⟩ λa1 w1 y=>?_;have f:=h.grown y.hJ;refine xW (vs:=[Po (J (O ((P.lb i).bl) 0 G'))]) (Post:=λx w' e=>x=.tuple #[]/\∃L' d',e=(fb l,X J' f' l d' nG 0)/\Pg l L' r d' nG w' κ P (oy S.U i λ_=>G') S.V S.N S.Xs K/\(∀k,Mn P.kb L w1 k->κ k<300->Mn P.kb L' w' k/\w'.heap[k]?=w1.heap[k]?)/\∀g v,L g=J v->(∀p,p<P.n->S.U i p≠J v.C.o)->L' g=J v) y (λi' j' c=>λd=>.stop (Ow (f.co.at d) ((f.lm i o).grown ⟨af _,λ_ _=>rfl,nQ⟩) i' j' λL' d' w' c1 c2 c3 H=>?_)) Z Z Z ni Z Z Z Z λx w2 e T=>?_
 .let⟨g,z⟩:=f.pg.cancel o c1 c2 (λk c=>c3 k ⟨c.lt,c.nf,c.ns,c.nd,c.own⟩) H.1 H.2;exact tH (c _ w' (fb l,X J' f' l d' nG 0) ⟨Z,L',d',Z,g,z,H.2⟩)
 .obtain⟨rfl,L',d',rfl,g,z,hL⟩:=T;have q:=g.left f.pm h8 λk h0 m=>⟨Z,(z k (f.mw k h0).mn m).2⟩
  have n':=dg f.pm.rw.1.lt (dg (F3.lt (y.bl 1 Zc)) (dg f.pm.r4.1.lt f.pm.r5.1.lt));have W:=y.got (D:=151) Z (.t []) (λx hx=>(by cases hx)) (x:=.tuple #[]) Z Z;have M2:=W.next q.fit q.new (D4 q.bw q.b3) W.lv W.wf;refine iN 200 2 [[Po (J (O ((P.rb i).bl) 0 G'))]] M2 Z Z ⟨⟨nQ,by omega⟩,⟨G0 f.pm.r5.1.lt q.wm.2,by simp,by simpa using(Zf (w:=w1) (a:=(O P.wm i G')) q.wm.2).trans (f.pm.l i o).2⟩⟩ λa3 w3 u=>?_;have g3:=g.hJ (κ':=κ) u.hJ (λk c=>(by cases c)) (λ_ _=>rfl) λk c=>(g.mw k c).grow u.hJ.size;have e3:∀k,Mn P.kb L w1 k->κ k<300->w3.heap[k]?=w1.heap[k]?:=λk j m=>(u.old k (z k j m).1.lt Zc).trans (z k j m).2;have e':Pm (fb l) κ w3 P S K:=f.pm.move λk c j=>⟨Z,e3 k (f.mw k j.1).mn j.2,(g.mw k j.1).sf⟩
  refine A4 u (XF (e'.rl i o) u.fit g3.co.soft) Z Z Z Tryz.func25 Z Z Z Z Z λx w4 T=>?_;obtain⟨rfl,C,k'⟩:=T;let⟨F,g'⟩:=h.ended o g3 hL e' C k';have M4:=(u.got (D:=159) Z (.t []) (λx hx=>(by cases hx)) (x:=.tuple #[]) Z Z).oO [] Z C.fit g'.co.soft;refine iN 200 0 [] M4 Z Z nQ λa5 w5 M5=>B3 M5 eE Z Z Z<|h' L' d' w5 F (g'.grown M5.hJ) (G7.hJ (λk j c=>?_) M5.hJ);have E:=j.grow y.hJ.size;have m:κ k<300:=by omega
  refine⟨Z,((z k E m).1.grow u.hJ.size).grow C.size,(C.old k (G0 E.lt (e3 k E m)) λm'=>?_).trans ((e3 k E m).trans (y.old k j.lt Zc))⟩;cases Zi m';have:=(e'.rl i o).ru.2
  grind
end
def Qx:List bm:=match Tryz.f9.body with
 | some (.seq _ (.seq (.seq _ (.block b (.seq _ (.cond _ (.seq r x) _)))) e))=>[.code r,.code x,.inBlock b,.code e]
 | _=>[]
section
variable{A:Int}{f:Nat->Nat->Option nY}{o:Nat->Nat->Vu}{N:Nat->Nat->Nat}{m:Nat->Nat->List Vu}
theorem XY{I:Kb}(j:Co I l K L r Inb nG w)(s n a b c:Int):py true (fb l) 16 #[Po (J (O I.bk 0 G')),vi s,vi n,.agg #[vi a,vi b,vi c]] w λx w'=>x=.tuple #[vi (d8 K s n a b c).n,vi (d8 K s n a b c).e]/\Co I l (d8 K s n a b c).K L r Inb nG w'/\Kp I L w L w' :=
 Bh λfr cs d=>(QN j s n a b c fr cs d).mono (λ_ _ _ h=>h) λg w' e=>⟨_,e.1,Z,e.2⟩
theorem Pg.call(h:Pg l L r Inb nG w κ P f o N m K)(e:Co P.kb l K' L r Inb nG w')(c:Kp P.kb L w L w'):Pg l L r Inb nG w' κ P f o N m K':=by
 have d:=h.co.ue e (c _ h.co.Ft).2;exact⟨e,d.2.1.trans h.nS,λj g=>(h.lm j g).same c,h.lc,λk q=>(h.mw k q).kp c,h.one,h.all,by rw[d.1,d.2.2];exact h.sz,h.pos⟩
theorem Pw.called{c:Int}{r':Rk}(h:Pw l L r Inb nG w κ P S K t)(g:Pg l L r Inb nG w1 κ P S.U S.V S.N S.Xs (d8 K s cl a0 a1 a2).K)(u:Pm (fb l) κ w1 P S K)(G:pT (fb l) w2 P.B r')(M:Rel (d8 K s cl a0 a1 a2).K r')(X:r'.nD=S.rr.nD)(a':Fit (fb l) w2)(hz:w1.heap.size<=w2.heap.size)(H:∀j,j<w1.heap.size->¬P.B.is S.rr j->w2.heap[j]?=w1.heap[j]?):∃S',Pw l L r Inb nG w2 κ P S' (d8 K s cl a0 a1 a2).K (t+1):=by
 have F:oh (fb l) (pt κ w1.heap.size (pN 0 0)) w1 w2:=⟨hz,λk d hn=>H k d λy=>hn (A9.2 ⟨d,sx.2 (.inl (u.Rc k y))⟩),a'⟩;have e':oM (fb l) κ 0 w2 (P.rb 0) P.B.b P.n (S.ts 0) (S.D 0) (S.N 0) (S.Xs 0):=(u.rl 0 Zb).same λk d z=>⟨Z,H k d λy=>by have:=u.Rc k y;unfold pG at z;omega⟩
 have W:=u.turn (U':=S.U) (V':=S.V) (i:=0) (p:=0) (κ':=κ) Zb Zb F (λ_ _=>rfl) G M (Ac h.pm.sJ.i s cl a0 a1 a2) X e';simp only[NK]at W
 have g2:=g.turn (κ':=κ) (i:=0) (p:=0) Zb Zb F (λ_ _=>rfl) λk d=>.inl (by
  cases e:κ k with
  | zero=>rfl
  | succ x=>have:=(g.mw k (by grind)).mn.lt;omega)
 exact⟨_,Pg.pw (S:={ S with rr:=r' }) g2 W h.tie (λj q C E=>Zh (h.tN j q C E) Za) (λj q T C E e=>Zh (h.tL j q T C E e) Za) (λc z=>Zh (h.tB c z) Za) h.xi⟩
theorem Qr(h:Pw l L r Inb nG w κ P S K t)(h8:κ b3=8)(n':-9223372036854775808<=cl/\cl<9223372036854775808)(M:fx (fb l) [] 2 w [(P.bw,0),(b3,0)] (wJ P ka s cl a0 a1 a2 R A B ot) 160 [(0,.c (.p 0 0)),(3,.c (.p 1 0))] a w)(o':∀w2 F K',Pw l L r Inb nG w2 κ P F K' (t+1)->G7 P.kb L κ w L κ w2->iv J' true true (fb l) (X J' f' l Inb nG 0) (G (fr.finish (Bo true)) cs) w2):iv J' true true (fb l) (X J' f' l Inb nG 0) (G ((base 9).at a Qx) (fr::cs)) w:=by
 have z:=h.pm;have p':b3<w.heap.size:=F3.lt (M.bl 1 Zc);have q':=dg z.rw.1.lt (dg p' (dg z.r4.1.lt z.r5.1.lt));generalize hO:d8 K s cl a0 a1 a2=d;have cm:=XY h.co s cl a0 a1 a2;rw[hO]at cm;refine Dl (r:=.t [.c (ci d.n),.c (ci d.e)]) (svs:=[.c (.v (Po (J (O P.kb.bk 0 G')))),.c (ci s),.c (ci cl),.g [ci a0,ci a1,ci a2]]) (j:=10) [] [] (λw' e'=>e'=(fb l,X J' f' l Inb nG 0)/\Co P.kb l d.K L r Inb nG w'/\Kp P.kb L w L w') M Z (λ_=>rfl) (λ_=>rfl) Z Zd nQ Z Z Z iM Z Z (λ_=>rfl) (λx T=>?_) (λh' i' y=>cm _ h' i' λx w' hq=>?_) (λw' e' g=>?_) λw' e' a' g lv wf=>?_
 .simp only[ae,ai,or_false]at T;rcases T with rfl|rfl<;>trivial
 .obtain⟨rfl,j,h2⟩:=hq;exact y w' _ ⟨Z,j,h2⟩
 .obtain⟨rfl,j,h2⟩:=g;exact⟨Ei (h2 _ (h.mw P.bw (by rw[z.rw.2];decide)).mn).2 (h2 _ (h.mw b3 (by rw[h8];decide)).mn).2,λk y=>(by cases y)⟩
 .obtain⟨rfl,j,W⟩:=g;have g1:=h.pg.call j W;have un:∀k,κ k≠0->w'.heap[k]?=w.heap[k]?:=λk H=>(W k (h.mw k H).mn).2;have q:=g1.left z h8 λk H _=>⟨Z,un k H⟩
  have M1:=(M.next q.fit q.new (D4 q.bw q.b3) lv wf).oV 2 [0,3,5,6] Z Z;refine iN 1 2 [] M1 Z Z nQ λy2 w2 C=>?_;have q2:=q.hJ C.hJ q';have g2:=g1.hJ (κ':=κ) C.hJ (λk y=>(by cases y)) (λ_ _=>rfl) λk y=>(g1.mw k y).grow C.hJ.size;have j':Pm (fb l) κ w2 P S K:=z.move λk y g=>⟨Z,(C.old k (G0 y (un k g.1)) Zc).trans (un k g.1),(h.mw k g.1).sf⟩
  have cr:=Kv (main:=true) C.fit j'.R j'.sJ s cl a0 a1 a2 n';rw[hO]at cr;refine Dl (r:=.t [.c (ci d.n),.c (ci d.e)]) (svs:=[.c (.v (Po (J (O P.B.b 0 G')))),.c (ci s),.c (ci cl),.g [ci a0,ci a1,ci a2]]) (j:=10) [] [] (λE e3=>e3=(fb l,X J' f' l Inb nG 0)/\(∃F,Pw l L r Inb nG E κ P F d.K (t+1))/\qn P b3 w l E/\G7 P.kb L κ w L κ E) C.oo Z (λ_=>rfl) (λ_=>rfl) Z Zd nQ Z Z Z gE Z Z (λ_=>rfl) (λx T=>?_) (λh' i' y=>cr _ h' i' λx E hq=>?_) (λE e3 g=>?_) λE e3 a3 g lv wf=>?_
  .simp only[ae,ai,or_false]at T;rcases T with rfl|rfl<;>trivial
  .obtain⟨rfl,⟨r',R',s',t'⟩,k',hz,m'⟩:=hq;subst hO;let⟨F,g'⟩:=h.called (c:=0) g2 j' R' s' t' k' hz m';have ub:∀k,Mn P.kb L w k->κ k≠1->E.heap[k]?=w.heap[k]?:=λk g j=>by
    have m1:=(W k g).1;rw[m' k (Zg m1.lt C.hJ.size) λhB=>j (z.Rc k hB),C.old k m1.lt Zc,(W k g).2]
   have u:∀ {k c},κ k=c->c≠0->c≠1->fb l k=0/\E.heap[k]?=w.heap[k]?:=λ{k c} e H j=>⟨(h.mw k (by rw[e];exact H)).sf,ub k (h.mw k (by rw[e];exact H)).mn (by rw[e];exact j)⟩
   exact y E _ ⟨Z,⟨F,g'⟩,⟨k',g'.co.soft,u z.rw.2 Zb Zb,u h8 Zb Zb,u z.r4.2 Zb Zb,u z.r5.2 Zb Zb⟩,λk g u'=>⟨Z,(((W k g).1.grow C.hJ.size).grow hz),ub k g Za⟩⟩
  .obtain⟨rfl,_,j,_⟩:=g;exact⟨Ei (j.bw.2.trans q2.bw.2.symm) (j.b3.2.trans q2.b3.2.symm),λk y=>(by cases y)⟩
  .obtain⟨rfl,⟨F,g'⟩,j,k8⟩:=g;have M3:=(C.re lv wf).oO [5,6,7,8] Z j.fit j.new;refine iN 6 0 [] M3 Z Z nQ λa4 w4 M4=>?_;have M5:=M4.oV 0 [51,6,8] Z Z;rw[show(d.n==d.n)=true by simp]at M5;refine iN 200 0 [] M5 Z Z nQ λa6 w6 M6=>B3 M6 eE Z Z Z ?_;show iv J' true true (fb l) _ (G (fr.finish (Bo (d.e==d.e))) cs) w6;rw[show(d.e==d.e)=true by simp];exact o' w6 F d.K (g'.grown M6.hJ) (k8.hJ M6.hJ)
def aSp:List bm:=match Tryz.f9.body with
 | some (.seq _ (.seq (.seq _ (.block b (.seq _ (.cond _ _ (.seq _ (.cond _ x _)))))) e))=>[.code x,.inBlock b,.code e]
 | _=>[]
theorem Vw(h:Pw l L r Inb nG w κ P S K t)(q:t<=1000000000000)(M:fx (fb l) [] 2 w [(P.bw,0),(b3,0)] (wJ P ka s cl a0 a1 a2 R A B ot) 160 [(0,.c (.p 0 0)),(3,.c (.p 1 0))] a w)(u:∀w2 κ' d,Pw l L r Inb nG w2 κ' P d K (t+1)->G7 P.kb L κ w L κ' w2->iv J' true true (fb l) (X J' f' l Inb nG 0) (G (fr.finish (Bo true)) cs) w2):iv J' true true (fb l) (X J' f' l Inb nG 0) (G ((base 9).at a aSp) (fr::cs)) w:=by
 refine iN 200 2 [] M Z Z nQ λa1 w1 c=>A4 c (LO (h.grown c.hJ) q) Z Z Z jN Z Z Z Z Z λx w2 y=>?_;obtain⟨rfl,κ',d,e,z⟩:=y;have C:=(c.got (D:=59) Z (.c (.v (Bo true))) nQ (x:=Bo true) Z Z).oO [59] Z e.fit e.co.soft;refine iN 200 0 [] C Z Z nQ λa3 E g=>B3 g eE Z Z Z<|u E κ' d (e.grown g.hJ) (G7.hJ (λk j F=>?_) g.hJ);let⟨H,T,W⟩:=z k (j.grow c.hJ.size) F;exact⟨H,T,W.trans (c.old k j.lt Zc)⟩
def Tr:List bm:=match Tryz.f9.body with
 | some (.seq _ (.seq _ (.seq _ (.seq _ (.seq _ (.seq (.seq _ (.block b (.seq _ (.cond _ _ (.seq _ (.cond _ _ (.seq _ (.cond _ x _)))))))) e))))))=>[.code x,.inBlock b,.code e]
 | _=>[]
theorem c2T(h:Pw l L r Inb nG w κ P S K t)(q:t<=1000000000000)(u:i<2)(M:fx (fb l) [] 2 w [(P.bw,0),(b3,0)] (wJ P ka s cl a0 a1 a2 R A B ot) 160 [(0,.c (.p 0 0)),(3,.c (.p 1 0)),(9,.c (ci i))] a w)(y:∀w2 κ' d,Pw l L r Inb nG w2 κ' P d K (t+1)->G7 P.kb L κ w L κ' w2->iv J' true true (fb l) (X J' f' l Inb nG 0) (G (fr.finish (Bo true)) cs) w2):iv J' true true (fb l) (X J' f' l Inb nG 0) (G ((base 9).at a Tr) (fr::cs)) w:=by
 refine iN 200 2 [] M Z Z nQ λa1 w1 c=>A4 c (PT (h.grown c.hJ) q u s) Z Z Z jM Z Z Z Z Z λx w2 z=>?_;obtain⟨rfl,κ',d,e,C⟩:=z;have E:=(c.got (D:=141) Z (.c (.v (Bo true))) nQ (x:=Bo true) Z Z).oO [141] Z e.fit e.co.soft;refine iN 200 0 [] E Z Z nQ λa3 F g=>B3 g eE Z Z Z<|y F κ' d (e.grown g.hJ) (G7.hJ (λk j H=>?_) g.hJ);let⟨T,W,e3⟩:=C k (j.grow c.hJ.size) H;exact⟨T,W,e3.trans (c.old k j.lt Zc)⟩
end
def aLp:List bm:=match Tryz.f9.body with
 | some (.seq _ (.seq _ (.seq _ (.seq _ (.seq _ (.seq (.seq _ (.block b (.seq _ x))) e))))))=>[.code x,.inBlock b,.code e]
 | _=>[]
section
variable{A:Int}
theorem za(h:f=g):(f==g)=true:=by simp[h]
theorem yt(h:f≠g):(f==g)=false:=by simp[h]
theorem G7.grow{I:Kb}{L L':Nat->Option Lv}{κ κ':Nat->Nat}{w w1 w2:Wd}{sft:Nat->Nat}(F:oh sft [] w w1)(k:G7 I L κ w1 L' κ' w2):G7 I L κ w L' κ' w2:=λq c d=>by
 let⟨e,f,g⟩:=k q (c.grow F.size) d;exact⟨e,f,g.trans (F.old q c.lt Zc)⟩
theorem Jr(h:Pw l L (r+1) Inb nG w κ P S K t)(u:t<=1000000000000)(o:κ b3=8)(m:i<2)(F:-9223372036854775808<=R/\R<9223372036854775808)(M:fx (fb l) [] 2 w [(P.bw,0),(b3,0)] (wJ P ka s cl a0 a1 a2 R A B ot) 160 [(0,.c (.p 0 0)),(3,.c (.p 1 0)),(9,.c (ci i)),(69,.c (ci ka)),(70,.c (.v (Bo (ka==2))))] a w)(j:∀l' L' d' b' w2 κ' k K',Pw l' L' r d' b' w2 κ' P k K' (t+1)->G7 P.kb L κ w L' κ' w2->iv J' true true (fb l') (X J' f' l' d' b' 0) (G (fr.finish (Bo true)) cs) w2):iv J' true true (fb l) (X J' f' l Inb nG 0) (G ((base 9).at a aLp) (fr::cs)) w:=by
 by_cases x:ka=2
 .refine oF M Z (za x)<|iN 1 2 [] M Z Z nQ λa1 w1 e=>Wy ((h.grown e.hJ).less) o m F (e.oo.oV 2 [0,3,9] Z Z) λl' L' d' b' w2 κ' k f g=>j _ _ _ _ _ _ _ _ f (g.grow e.hJ)
 refine oC M Z (yt x)<|iN 200 2 [] M Z Z nQ λa1 w1 e=>?_
 by_cases y:ka=3
 .refine oF e Z (za y)<|iN 1 2 [] e Z Z nQ λa2 w2 c=>?_;have d:=c.oo.oH 2 [0,3,9] [(0,2),(1,1)] Z Z Z;refine Vc (h.grown c.hJ) u o (d.bl 1 Zc) ?_ m d λL' d' z κ' k K' f g=>j _ _ _ _ _ _ _ _ f (g.grow c.hJ);have:=d.ld 1 1 Z;exact this
 refine oC e Z (yt y)<|iN 200 2 [] e Z Z nQ λa2 w2 c=>?_
 by_cases C:ka=4
 .refine oF c Z (za C)<|c2T ((h.grown c.hJ).less) u m (c.oo.oV 2 [0,3,9] Z Z) λz κ' k f g=>j _ _ _ _ _ _ _ _ f (g.grow c.hJ)
 refine oC c Z (yt C)<|iN 200 2 [] c Z Z nQ λT z d=>?_
 by_cases E:ka=5
 .refine oF d Z (za E)<|Y1 ((h.grown d.hJ).less) o m (d.oo.oV 2 [0,3,9] Z Z) λL' d' H k f g=>j _ _ _ _ _ _ _ _ f (g.grow d.hJ)
 refine oC d Z (yt E)<|iN 200 2 [] d Z Z nQ λW H q=>B3 q eE Z Z Z<|j _ _ _ _ _ κ S K (((h.grown q.hJ).less).later Za) ((G7.refl _ _ _ _).grow q.hJ)
theorem WU(h:Pw l L (r+1) Inb nG w κ P S K t)(E:t<=1000000000000)(h':-9223372036854775808<=cl/\cl<9223372036854775808)(T:-9223372036854775808<=R/\R<9223372036854775808)(q:∀l' L' d' b' w2 κ' f K',Pw l' L' r d' b' w2 κ' P f K' (t+1)->G7 P.kb L κ w L' κ' w2->iv J' true true (fb l') (X J' f' l' d' b' 0) (G (fr.finish (Bo true)) cs) w2):iv J' true true (fb l) (X J' f' l Inb nG 0) (G (ay J' 9 #[Po (J (O P.bw 0 G')),.agg #[vi ka,vi s,vi cl,vi a0,vi a1,vi a2,vi R,vi A,vi B,Bo ot]] .normal) (fr::cs)) w:=by
 have u:=h.pm;refine zV (ρ:=[(P.bw,0)]) (W:=[]) (ro:=1) (m:=[(0,0,.v (Po (J (O P.kb.bk 0 G')))),(0,1,.v (Po (J (O P.B.b 0 G')))),(0,2,.v (Sc (J (O P.wl 0 G')) 2 P.cl)),(0,3,.v (Sc (J (O P.wm 0 G')) 2 P.cm)),(0,4,.v (Po (J (O P.bb 0 G'))))]) (sz:=160) [.c (.p 0 0),.g (Pq ka s cl a0 a1 a2 R A B ot)] ⟨λe W=>?_,λi hi=>?_,λi j hi hj j'=>?_,λi y h2=>?_,h.fit,h.co.soft⟩ (λs hs=>?_) eE Z Z Z λa M=>?_
 .simp only[ae,ai,or_false]at W;rcases W with rfl|rfl|rfl|rfl|rfl<;>refine⟨cG,nQ,?_⟩
  .exact u.w0
  .exact u.w1
  .exact u.w2
  .exact u.w3
  .exact u.w4
 .obtain rfl:i=0:=Zm hi;exact u.rw.1
 .grind
 .grind
 .simp only[ae,ai,or_false]at hs;rcases hs with rfl|rfl
  .exact cG
  .intro x hx;simp only[Pq,ae,ai,or_false]at hx;rcases hx with rfl|rfl|rfl|rfl|rfl|rfl|rfl|rfl|rfl|rfl<;>trivial
 refine sq 200 1 [] M Z Z nQ λa1 w1 b3 z=>?_;have g':w.heap.size<=b3:=(z.own 1 (af _) Zc).resolve_left Zc;have i':b3<w1.heap.size:=F3.lt (z.bl 1 Zc);have y:=(h.grown z.hJ).Aw (k:=b3) (h.off g') (h.co.new g' i');have F:aj κ b3 8 b3=8:=aH _ _ _;have c:=z.oH 2 [0,3,17,18] [(0,0),(0,1),(0,2),(0,3),(0,4),(1,0),(1,1),(1,2),(1,3),(1,4),(1,5),(1,6),(1,7),(1,8),(1,9)] Z Z Z;replace c:=c.next c.fit y.co.soft (D4 ⟨(c.bl 0 Zc).2,Z⟩ ⟨(c.bl 1 Zc).2,Z⟩) c.lv c.wf;replace q:∀l' L' d' b' w2 κ' f K',Pw l' L' r d' b' w2 κ' P f K' (t+1)->G7 P.kb L (aj κ b3 8) w1 L' κ' w2->iv J' true true (fb l') (X J' f' l' d' b' 0) (G (fr.finish (Bo true)) cs) w2:=λl' L' d' b' w2 κ' f K' g m=>q l' L' d' b' w2 κ' f K' g λk H hk=>by
  have ne:k≠b3:=λe=>by have:=H.lt;omega
  let⟨e1,e2,e3⟩:=m k (H.grow z.hJ.size) (by rw[az _ _ ne];exact hk);rw[az _ _ ne]at e1;exact⟨e1,e2,e3.trans (z.old k H.lt Zc)⟩
 generalize aj κ b3 8=κ1 at *
 by_cases k1:ka=1
 .refine oF c Z (za k1)<|iN 1 2 [] c Z Z nQ λa3 w3 d=>Qr ((y.grown d.hJ).less) F h' (d.oo.oV 2 [0,3] Z Z) λw4 f K' g m=>q _ _ _ _ _ _ _ _ g (m.grow d.hJ)
 refine oC c Z (yt k1)<|iN 200 2 [] c Z Z nQ λa3 w3 d=>?_
 by_cases k6:ka=6
 .refine oF d Z (za k6)<|Vw ((y.grown d.hJ).less) E (d.oo.oV 2 [0,3] Z Z) λw4 κ' f g m=>q _ _ _ _ _ _ _ _ g (m.grow d.hJ)
 refine oC d Z (yt k6)<|iN 200 2 [] d Z Z nQ λa4 w4 M4=>oC M4 Z Z<|iN 200 2 [] M4 Z Z nQ λa5 w5 C=>?_
 cases ot with
 | true =>
  refine oF C Z Z<|iN 200 2 [] C Z Z nQ λa6 w6 o=>Jr (i:=1) (y.grown o.hJ) E F Zb T (o.oo.oV 2 [0,3,9,69,70] Z Z) λl' L' d' b' w7 κ' f K' g m=>q _ _ _ _ _ _ _ _ g (m.grow o.hJ)
 | false =>
  refine oC C Z Z<|iN 200 2 [] C Z Z nQ λa6 w6 o=>Jr (i:=0) (y.grown o.hJ) E F Zb T (o.oo.oV 2 [0,3,9,69,70] Z Z) λl' L' d' b' w7 κ' f K' g m=>q _ _ _ _ _ _ _ _ g (m.grow o.hJ)
end
def PI:List bm:=match Tryz.f11.body with
 | some (.seq _ (.seq _ (.seq (.seq _ (.block b (.loop (.seq (.seq x y) z)))) e)))=>[.code y,.code z,.inLoop (.seq (.seq x y) z),.inBlock b,.code e]
 | _=>[]
def d1f:List bm:=match Tryz.f11.body with
 | some (.seq _ (.seq _ (.seq (.seq _ (.block b (.loop (.seq x0 (.seq (.block b1 (.seq r5 (.seq r6 (.seq r7 (.block b2 (.loop (.seq (.seq x y) z))))))) r4))))) e)))=>[.code y,.code z,.inLoop (.seq (.seq x y) z),.inBlock b2,.inBlock b1,.code r4,.inLoop (.seq x0 (.seq (.block b1 (.seq r5 (.seq r6 (.seq r7 (.block b2 (.loop (.seq (.seq x y) z))))))) r4)),.inBlock b,.code e]
 | _=>[]
def d1g:List bm:=match Tryz.f11.body with
 | some (.seq _ (.seq _ (.seq (.seq _ (.block b (.loop (.seq x0 (.seq (.block b1 (.seq r5 (.seq r6 (.seq r7 (.block b2 (.loop (.seq x2 (.seq (.block b3 (.seq r10 (.block b4 (.loop (.seq (.seq x y) z))))) r9)))))))) r4))))) e)))=>[.code y,.code z,.inLoop (.seq (.seq x y) z),.inBlock b4,.inBlock b3,.code r9,.inLoop (.seq x2 (.seq (.block b3 (.seq r10 (.block b4 (.loop (.seq (.seq x y) z))))) r9)),.inBlock b2,.inBlock b1,.code r4,.inLoop (.seq x0 (.seq (.block b1 (.seq r5 (.seq r6 (.seq r7 (.block b2 (.loop (.seq x2 (.seq (.block b3 (.seq r10 (.block b4 (.loop (.seq (.seq x y) z))))) r9)))))))) r4)),.inBlock b,.code e]
 | _=>[]
abbrev uE(P:Wp):Mem:=[(0,0,.v (Po (J (O P.kb.bk 0 G')))),(0,1,.v (Po (J (O P.B.b 0 G')))),(0,2,.v (Sc (J (O P.wl 0 G')) 2 P.cl)),(0,3,.v (Sc (J (O P.wm 0 G')) 2 P.cm)),(0,4,.v (Po (J (O P.bb 0 G'))))]
theorem Pm.pc(c:Pm sft κ w P S K)(g:Fit sft w)(h:∀k,w.heap.size<=k->sft k=0):zt sft [] 1 [(P.bw,0)] (uE P) w:=by
 refine⟨λe d=>?_,λi f=>?_,λi j f m o=>?_,λi q u=>?_,g,h⟩
 .simp only[uE,ae,ai,or_false]at d;rcases d with rfl|rfl|rfl|rfl|rfl<;>refine⟨cG,nQ,?_⟩
  .exact c.w0
  .exact c.w1
  .exact c.w2
  .exact c.w3
  .exact c.w4
 .obtain rfl:i=0:=Zm f;exact c.rw.1
 all_goals grind
theorem Pm.px{env:m7}{a:db}(d:Pm sft κ w P S K)(e:Fit sft w)(f:∀k,w.heap.size<=k->sft k=0)(g:qe c (qC [(P.bw,0)] env) a)(h:∀p∈env,p.2.ok 1):fx sft [] 1 w [(P.bw,0)] (uE P) c env a w:=by
 have E:=d.pc e f;exact⟨g,E.ce,h,E.bl,E.ij,λi j m=>.inl (E.own i j m),af _,λ_ _ _=>rfl,E.fit,E.new⟩
theorem G7.trans{I:Kb}{c:Nat->Option Lv}{κ1 d:Nat->Nat}{w1 w2:Wd}(g:G7 I y u k z κ1 w1)(h:G7 I z κ1 w1 c d w2):G7 I y u k c d w2:=λe j f=>by
 let⟨a1,a2,m⟩:=g e j f;let⟨o,q,b3⟩:=h e a2 (by rw[a1];exact f)
 grind
theorem Nm{κ0:Nat->Nat}{w0:Wd}{i:Nat}{q:Int}{t1:Nat}(u:i<2)(ht:t1<=1000000000000)(y:∀κ S a w,Pw l L r Inb nG w κ P S K t1->G7 P.kb L κ0 w0 L κ w->fx (fb l) [] 1 w [(P.bw,0)] (uE P) 68 [(0,.c (.p 0 0)),(3,.c (.v (Bo true))),(4,.c (ci q)),(6,.c (ci (i+1:Nat))),(27,.c (.v (Bo (decide (((i+1:Nat):Int)<2)))))] a w->iv J' true true (fb l) Stop (G ((base 11).at a d1f) (fr::cs)) w) :
  ∀(f:Nat) (j:Int) t κ S a w,-1<=j->j+f=7->t+f=t1->Pw l L r Inb nG w κ P S K t->G7 P.kb L κ0 w0 L κ w->fx (fb l) [] 1 w [(P.bw,0)] (uE P) 68 [(0,.c (.p 0 0)),(3,.c (.v (Bo true))),(4,.c (ci q)),(6,.c (ci i)),(7,.c (ci j)),(31,.c (.v (Bo (decide (j<=6)))))] a w->iv J' true true (fb l) Stop (G ((base 11).at a d1g) (fr::cs)) w:=by
 intro f
 induction f with
 | zero =>
  intro j t κ S a w z C E h g M;refine oC M Z (decide_eq_false Za)<|iN 200 1 [] M Z Z nQ λa1 w1 c=>?_;have d:=c.oo.oV 1 [0,3,4,6,27] Z Z;rw[C9 (n:=i) Za]at d;obtain rfl:t=t1:=by omega
  exact y κ S a1 w1 (h.grown c.hJ) (g.hJ c.hJ) d
 | succ f F =>
  intro j t κ S a w z C E h g M;refine oF M Z (decide_eq_true Za)<|iN 200 1 [] M Z Z nQ λa1 w1 c=>A4 c (PT (h.grown c.hJ) Za u j) Z Z Z jM Z Z Z Z Z λx w2 H=>?_;obtain⟨rfl,T,W,e,X⟩:=H;have m:=c.got (D:=37) Z (.c (.v (Bo true))) nQ (x:=Bo true) Z Z;have d:=e.pm.px e.fit e.co.soft m.lv m.wf;refine iN 200 1 [] d Z Z nQ λa3 w3 k=>?_;have o:=k.oo.oV 1 [0,3,4,6,7,31] Z Z;rw[W5 (x:=j+1) Za Za]at o;exact F (j+1) (t+1) T W a3 w3 Za Za Za (e.grown k.hJ) ((g.hJ c.hJ |>.trans X).hJ k.hJ) o
theorem Ov{κ0:Nat->Nat}{w0:Wd}{q:Nat}{a:db}(j:q<2)(ht:t+17<=1000000000000)(h:Pw l L r Inb nG w κ P S K t)(z:G7 P.kb L κ0 w0 L κ w)(M:fx (fb l) [] 1 w [(P.bw,0)] (uE P) 68 [(0,.c (.p 0 0)),(3,.c (.v (Bo true))),(4,.c (ci q)),(12,.c (.v (Bo (decide ((q:Int)<2)))))] a w)(C:∀κ S a w,Pw l L r Inb nG w κ P S K (t+17)->G7 P.kb L κ0 w0 L κ w->fx (fb l) [] 1 w [(P.bw,0)] (uE P) 68 [(0,.c (.p 0 0)),(3,.c (.v (Bo true))),(4,.c (ci (q+1:Nat))),(12,.c (.v (Bo (decide (((q+1:Nat):Int)<2)))))] a w->iv J' true true (fb l) Stop (G ((base 11).at a PI) (fr::cs)) w):iv J' true true (fb l) Stop (G ((base 11).at a PI) (fr::cs)) w:=by
 refine oF M Z (decide_eq_true Za)<|iN 200 1 [] M Z Z nQ λa1 w1 c=>A4 c (LO (h.grown c.hJ) Za) Z Z Z jN Z Z Z Z Z λx w2 j=>?_;obtain⟨rfl,E,F,d,H⟩:=j;have k:=c.got (D:=16) Z (.c (.v (Bo true))) nQ (x:=Bo true) Z Z;have T:=d.pm.px d.fit d.co.soft k.lv k.wf;refine iN 200 1 [] T Z Z nQ λa3 w3 m=>oF m Z Z<|iN 200 1 [] m Z Z nQ λW X e=>Nm (κ0:=κ0) (w0:=w0) (i:=0) (q:=q) (t1:=t+9) Zb Za (λa' S5 a5 w5 h5 k5 o=>?_) 8 (-1) (t+1) E F W X Za Za Za (d.grown e.hJ) ((z.hJ c.hJ |>.trans H).hJ e.hJ) (e.oo.oV 1 [0,3,4,6,7,31] Z Z);refine oF o Z Z<|iN 200 1 [] o Z Z nQ λa6 w6 f=>Nm (κ0:=κ0) (w0:=w0) (i:=1) (q:=q) (t1:=t+17) Zb Za (λc' S7 a7 w7 h7 k7 u=>?_) 8 (-1) (t+9) a' S5 a6 w6 Za Za Za (h5.grown f.hJ) (k5.hJ f.hJ) (f.oo.oV 1 [0,3,4,6,7,31] Z Z);refine oC u Z Z<|iN 200 1 [] u Z Z nQ λa8 w8 g=>?_;have y:=g.oo.oV 1 [0,3,4,12] Z Z;rw[C9 (n:=q) Za]at y;exact C c' S7 a8 w8 (h7.grown g.hJ) (k7.hJ g.hJ) y
def PK:List bm:=match Tryz.f11.body with
 | some (.seq _ (.seq _ (.seq _ (.seq (.seq _ (.block b (.loop (.seq (.seq x y) z)))) e))))=>[.code y,.code z,.inLoop (.seq (.seq x y) z),.inBlock b,.code e]
 | _=>[]
section
variable{b:Nat->Nat->Option nY}
theorem KV{i:Nat}{a:db}(u:i<2)(g:Pg l L r Inb nG w κ P b S.V S.N S.Xs K)(y:Pm (fb l) κ w P S K)(M:fx (fb l) [] 1 w [(P.bw,0)] (uE P) 68 [(0,.c (.p 0 0)),(3,.c (.v (Bo true))),(9,.c (ci i)),(48,.c (.v (Bo (decide ((i:Int)<2)))))] a w)(z:∀L' d' C w',Pg l L' r d' nG w' κ P (oy b i λ_=>G') S.V S.N S.Xs K->Pm (fb l) κ w' P S K->(∀k,Mn P.kb L w k->κ k<300->Mn P.kb L' w' k/\w'.heap[k]?=w.heap[k]?)->fx (fb l) [] 1 w' [(P.bw,0)] (uE P) 68 [(0,.c (.p 0 0)),(3,.c (.v (Bo true))),(9,.c (ci (i+1:Nat))),(48,.c (.v (Bo (decide (((i+1:Nat):Int)<2)))))] C w'->iv J' true true (fb l) (X J' f' l d' nG 0) (G ((base 11).at C PK) (fr::cs)) w'):iv J' true true (fb l) (X J' f' l Inb nG 0) (G ((base 11).at a PK) (fr::cs)) w:=by
 refine oF M Z (decide_eq_true Za)<|iN 200 1 [[Po (J (O ((P.lb i).bl) 0 G'))]] M Z Z ⟨⟨nQ,by omega⟩,⟨y.r4.1.lt,by simp,by simpa using(y.l i u).1⟩⟩ λa1 w1 h=>?_;have o:=g.hJ (κ':=κ) h.hJ (λk c=>(by cases c)) (λ_ _=>rfl) λk c=>(g.mw k c).grow h.hJ.size;have c':Pm (fb l) κ w1 P S K:=y.move λk c f=>⟨Z,h.old k c Zc,(g.mw k f.1).sf⟩
 refine xW (vs:=[Po (J (O ((P.lb i).bl) 0 G'))]) (Post:=λx w' e=>x=.tuple #[]/\∃L' d',e=(fb l,X J' f' l d' nG 0)/\Pg l L' r d' nG w' κ P (oy b i λ_=>G') S.V S.N S.Xs K/\∀k,Mn P.kb L w1 k->κ k<300->Mn P.kb L' w' k/\w'.heap[k]?=w1.heap[k]?) h (λe' g' c=>λd=>.stop (Ow (o.co.at d) ((o.lm i u).grown ⟨af _,λ_ _=>rfl,nQ⟩) e' g' λL' d' w' c1 c2 c3 E=>?_)) Z Z Z ni Z Z Z Z λx w2 e hq=>?_
 .let⟨g,q⟩:=o.cancel u c1 c2 (λk c=>c3 k ⟨c.lt,c.nf,c.ns,c.nd,c.own⟩) E.1 E.2;exact tH (c _ w' (fb l,X J' f' l d' nG 0) ⟨Z,L',d',Z,g,q⟩)
 .obtain⟨rfl,L',d',rfl,j,q⟩:=hq;have F:Pm (fb l) κ w2 P S K:=c'.move λk c f=>⟨Z,(q k (o.mw k f.1).mn f.2).2,(j.mw k f.1).sf⟩
  have H:=h.got (D:=58) Z (.t []) (λx z=>(by cases z)) (x:=.tuple #[]) Z Z;have M2:=F.px j.co.env.fit j.co.soft H.lv H.wf;refine iN 200 1 [] M2 Z Z nQ λa3 w3 m=>?_;have T:=m.oo.oV 1 [0,3,9,48] Z Z;rw[C9 (n:=i) Za]at T;refine z L' d' a3 w3 (j.hJ (κ':=κ) m.hJ (λk c=>(by cases c)) (λ_ _=>rfl) λk c=>(j.mw k c).grow m.hJ.size) (F.move λk c f=>⟨Z,m.old k c Zc,(j.mw k f.1).sf⟩) (λk f h3=>?_) T;let⟨W,e2⟩:=q k (f.grow h.hJ.size) h3;exact⟨W.grow m.hJ.size,(m.old k W.lt Zc).trans (e2.trans (h.old k f.lt Zc))⟩
theorem xJ(h:Pw l L r Inb nG w κ P S K t)(ht:t+34<=1000000000000)(g':∀L' d' w' κ',Co P.kb l K L' r d' nG w'->(∀g,L' g=G')->G7 P.kb L κ w L' κ' w'->iv J' true true (fb l) (X J' f' l d' nG 0) (G (fr.finish (Bo true)) cs) w'):iv J' true true (fb l) (X J' f' l Inb nG 0) (G (ay J' 11 #[Po (J (O P.bw 0 G'))] .normal) (fr::cs)) w:=by
 refine zV (ρ:=[(P.bw,0)]) (W:=[]) (ro:=1) (m:=uE P) (sz:=68) [.c (.p 0 0)] (h.pm.pc h.fit h.co.soft) (λs hs=>?_) mA Z Z Z λa M=>?_
 .cases Zi hs;exact cG
 refine iN 200 1 [] M Z Z nQ λa1 w1 q=>Ov (κ0:=κ) (w0:=w) (q:=0) Zb Za (h.grown q.hJ) ((G7.refl _ _ _ _).hJ q.hJ) (q.oo.oV 1 [0,3,4,12] Z Z) λp' S2 a2 w2 h2 k2 M2=>Ov (κ0:=κ) (w0:=w) (q:=1) Zb Za h2 k2 M2 λm u a3 w3 C k3 E=>oC E Z Z<|iN 200 1 [] E Z Z nQ λa4 w4 y=>?_;have F:=C.grown y.hJ;refine KV (i:=0) (S:=u) Zb F.pg F.pm (y.oo.oV 1 [0,3,9,48] Z Z) λL5 q' a5 w5 g5 h' i' M5=>KV (i:=1) (S:=u) Zb g5 h' M5 λH j' a6 w6 f k' m' T=>oC T Z Z<|iN 200 1 [] T Z Z nQ λa7 w7 j=>?_;have g7:=f.hJ (κ':=m) j.hJ (λk d=>(by cases d)) (λ_ _=>rfl) λk d=>(f.mw k d).grow j.hJ.size;have n':Pm (fb l) m w7 P u K:=k'.move λk d z=>⟨Z,j.old k d Zc,(f.mw k z.1).sf⟩
 refine A4 j (KG n'.bk j.fit g7.co.soft λc hc=>by have:=C.tB c hc;omega) Z Z Z jO Z Z Z Z Z λx w8 hq=>?_;obtain⟨rfl,F8⟩:=hq;refine E7 (j.still F8) 1 (.c (.v (Bo true))) Z Z Z Z Z λa9 M9=>iN 200 1 [] M9 Z Z nQ λy' W a'=>B3 a' mA Z Z Z ?_;have o:oh (fb l) [] w6 W:=a'.hJ;have o':=f.hJ (κ':=m) o (λk d=>(by cases d)) (λ_ _=>rfl) λk d=>(f.mw k d).grow o.size;refine g' H j' W m o'.co (λg=>?_) λk z d=>?_
 .cases e:H g with
  | none=>rfl
  | some v =>
   let⟨i,p,hi,hp,hU⟩:=f.all g v e;obtain rfl|rfl:i=0\/i=1:=by omega
   .simp[oy]at hU
   .simp[oy]at hU
 .let⟨e1,m1,u1⟩:=(k3.hJ y.hJ) k z d;have lt:m k<300:=by rw[e1];omega
  let⟨m2,u2⟩:=i' k m1 lt;let⟨m3,u3⟩:=m' k m2 lt;exact⟨e1,m3.grow o.size,(o.old k m3.lt Zc).trans (u3.trans (u2.trans u1))⟩
end
end
def Ci(k s c a d e f g h:Int)(b:Bool):List dQ:=[Y U k,Y U s,Y U c,Y U a,Y U d,Y U e,Y U f,Y U g,Y U h,Bo b]
section
open Go.Conc
def yn(w:Wd)(a:Option cC)(n:Nat):Prop:=∀i,i<n->∃g o k s c e f h d j l b,a=J (O g o Q)/\g<w.heap.size/\w.rangeAt g (o+i*10) (Ci k s c e f h d j l b)/\(-9223372036854775808<=c/\c<9223372036854775808)/\-9223372036854775808<=d/\d<9223372036854775808
def ya(b:Kb)(L:Nat->Option Lv)(c:Nat->Nat)(a w:Wd):Prop:=∀k,k<a.heap.size->Mn b L w k/\c k=0/\w.heap[k]?=a.heap[k]?
theorem ya.kept{a:Kb}(h:ya a y t k l)(b:G7 a y t l z u m):ya a z u k m:=λq c=>by
 let⟨d,e,f⟩:=h q c;let⟨g,i,j⟩:=b q d (.inl e)
 grind
theorem ya.size{a:Kb}(h:ya a y t k l):k.heap.size<=l.heap.size:=by
 rcases Nat.eq_zero_or_pos k.heap.size with e|e
 .omega
 .have:=(h (k.heap.size - 1) Za).1.lt;omega
def plK:List bm:=match Tryz.f7.body with
 | some (.seq _ (.seq _ (.seq _ (.seq (.seq _ (.block b (.loop (.seq (.seq (.region n ops d) y) z)))) e))))=>[.inRegion ops [5,6],.code y,.code z,.inLoop (.seq (.seq (.region n ops d) y) z),.inBlock b,.code e]
 | _=>[]
variable{P:Wp}{p:fM->jD->Prop}{r:Fm'}{q:List Fm'}{d:Wd}{n b:Nat}{m:Option cC}
abbrev zF(m:Option cC)(n b i:Nat):m7:=[(1,.c (.v (.slice m n b))),(7,.c (.p 0 0)),(8,.c (.v (Bo true))),(9,.c (ci i)),(29,.c (.v (Bo (decide ((i:Int)<n)))))]
theorem Qt(hS:yn d m n)(hn:n<=1048576)(j':∀l K t u D z,Co P.kb l K t 0 u D z->(∀g,t g=Q)->(∀k,k<d.heap.size->z.heap[k]?=d.heap[k]?)->d.heap.size<=z.heap.size->iv V true true (fb l) (X V p l u D 0) (G (r.finish (Bo true)) q) z) :
  ∀f i l L a' D H S K a w,i+f=n->Pw l L f a' D w H P S K i->ya P.kb L H d w->fx (fb l) [] 1 w [(P.bw,0)] (uE P) 55 (zF m n b i) a w->iv V true true (fb l) (X V p l a' D 0) (G ((base 7).at a plK) (r::q)) w:=by
 intro f
 induction f with
 | zero =>
  intro i l L a' D H S K a w hi h h8 M;rw[show zF m n b i=[(1,.c (.v (.slice m n b))),(7,.c (.p 0 0)),(8,.c (.v (Bo true))),(9,.c (ci i)),(29,.c (.v (Bo false)))] by grind]at M;refine iN 200 1 [] M Z Z nQ λa0 d M0=>oC M0 Z Z<|iN 200 1 [] M0 Z Z nQ λa1 w1 M1=>xW (vs:=[Po (J (O P.bw 0 Q))]) (Post:=λx z e=>x=Bo true/\∃t u,e=(fb l,X V p l u D 0)/\Co P.kb l K t 0 u D z/\(∀g,t g=Q)/\∃C,G7 P.kb L H w1 t C z) M1 (λk' m' E=>xJ (h.grown M1.hJ) Za λt u z C c1 c2 c3=>E _ z _ ⟨Z,t,u,Z,c1,c2,C,c3⟩) Z Z Z mA Z Z Z Z λx w2 e R=>?_
  .obtain⟨rfl,t,u,rfl,co,hL,C,k8⟩:=R;have M2:=(M1.got (D:=50) Z (.c (.v (Bo true))) nQ (x:=Bo true) Z Z).oV 1 [8,50] Z Z;replace M2:=M2.oO [8,50] Z co.env.fit co.soft;refine iN 200 0 [] M2 Z Z nQ λa3 w3 y=>B3 y kh Z Z Z ?_;have o3:=(h8.kept (G7.hJ (G7.refl _ _ _ _) M1.hJ)).kept (k8.hJ y.hJ);exact j' l K t u D w3 (co.grown ⟨y.hJ.size,λk E=>y.old k E Zc,nQ⟩) hL (λk E=>(o3 k E).2.2) o3.size
 | succ f ih =>
  intro i l L a' D H S K a w hi h h8 M;obtain⟨g,o,ka,s,cl,a0,a1,a2,kd,A,B,ot,rfl,hg,hr,n',o'⟩:=hS i Za;rw[show zF (J (O g o Q)) n b i=[(1,.c (.v (Sc (J (O g o Q)) n b))),(7,.c (.p 0 0)),(8,.c (.v (Bo true))),(9,.c (ci i)),(29,.c (.v (Bo true)))] by rw[zF,decide_eq_true Za]]at M;refine iN 200 1 [] M Z Z nQ λa3 w3 y=>oF y Z Z ?_;have h':=h8.kept (G7.hJ (G7.refl _ _ _ _) y.hJ);replace h:=h.grown y.hJ;replace M:=y.oo;clear h8 y;refine iN 200 1 [Ci ka s cl a0 a1 a2 kd A B ot] M Z Z ⟨⟨nQ,by omega⟩,⟨(h' g hg).1.lt,by simp,?_⟩⟩ λa3 w3 y=>?_
  .intro j v hv;rw[Zf (w:=d) (h' g hg).2.2];simpa using hr j v hv
  refine xW (vs:=[Po (J (O P.bw 0 Q)),.agg #[vi ka,vi s,vi cl,vi a0,vi a1,vi a2,vi kd,vi A,vi B,Bo ot]]) (Post:=λx z e=>x=Bo true/\∃F t u I C T W,e=(fb F,X V p F u I 0)/\Pw F t f u I z C P T W (i+1)/\G7 P.kb L H w3 t C z) y (λk' m' E=>WU (h.grown y.hJ) Za n' o' λF t u I z C T W hP k8=>E _ z _ ⟨Z,F,t,u,I,C,T,W,Z,hP,k8⟩) Z Z Z eE Z Z Z Z λx w4 e R=>?_;obtain⟨rfl,F,t,u,I,C,T,W,rfl,N,k4⟩:=R;have i':=(y.got (D:=39) Z (.c (.v (Bo true))) nQ (x:=Bo true) Z Z);have M4:=N.pm.px N.fit N.co.soft i'.lv i'.wf;refine iN 200 1 [] M4 Z Z nQ λa5 w5 M5=>?_;have h5:=N.grown M5.hJ;refine A4 M5 (KG h5.pm.bk h5.fit h5.co.soft λc hc=>by have:=N.tB c hc;omega) Z Z Z jO Z Z Z Z Z λx w6 R=>?_;obtain⟨rfl,F6⟩:=R;refine E7 (M5.still F6) 1 (.c (.v (Bo true))) Z Z Z Z Z λa7 M7=>iN 24 1 [] M7 Z Z nQ λa8 w8 M8=>?_;have M9:=M8.oo.oV 1 [1,7,8,9,29] Z Z;rw[C9 (n:=i) Za]at M9;refine ih (i+1) F t u I C T W a8 w8 Za (N.grown M8.hJ) ((h'.kept (G7.hJ (G7.refl _ _ _ _) y.hJ)).kept (k4.hJ M8.hJ)) M9
end
section
open Go.Conc
theorem AX(i:Nat):fb [] i=0:=U7 λo a=>by cases a
theorem tU(w:Wd):Fit (fb []) w:=⟨λi a=>absurd (AX i) a,nQ⟩
theorem XL(w:Wd):KO [] w:=λo a=>by cases a
theorem SB{kb:Kb}(a:js k kb.bk kb.bf kb.bs kb.bd B)(b:qJ k)(d:rS B)(e:0≠kb.bf/\0≠kb.bs/\0≠kb.bd)(f:kb.fo=λ_=>Q)(r:Nat):Co kb [] B (λ_=>Q) r (λ_=>Q) 1 k :=
 ⟨⟨a,b,d,tU k,XL k,λo i=>by cases i⟩,e,λg v h=>(by cases h),λg v h=>(by cases h),λg v h=>(by cases h),λg v h=>(by cases h),λg v h=>(by cases h),λg _ _=>(by rw[f]),λs c h=>(by cases h),λg v h=>(by cases h),λg v h=>(by cases h),λg v j l h=>(by cases h),λg v j l h=>(by cases h),λg s h=>(by grind)⟩
theorem XK(T:qJ k)(a b i:Nat)(u:2<=a)(F:a<=32)(w:1<=b)(y:b<=6)(H:i<=4)(q:Fm')(s:List Fm')(d:Nat) :
  l6 V true (DL true (fb [])) (λg n=>∃c:Kb,g=G (q.finish (.tuple #[Po (J (O c.bk 0 Q)),Y U 0])) s/\(c.fo=λ_=>Q)/\Grown k n/\k.heap.size<=c.bk/\k.heap.size<=c.bf/\k.heap.size<=c.bs/\k.heap.size<=c.bd/\∀r,Co c [] (K8 a b i) (λ_=>Q) r (λ_=>Q) 1 n)
   (G (ay V 12 #[.agg #[Y U a,Y U b,Y U i]] .normal) (q::s)) (k.at d):=by
 refine(xC xa (sft:=fb []) (w0:=k.at d) Zd (tU _) true (Q:=λx o=>∃v f j l m,Lk (fb []) v (k.at d)/\x=.tuple #[Po (J (O f 0 Q)),Y U 0]/\js o f j l m (K8 a b i)/\bG v.heap.size v o/\k.heap.size<=f/\k.heap.size<=j/\k.heap.size<=l/\k.heap.size<=m) (λv p=>(Uz a b i u F w y H v).mono λe o I=>by
   obtain⟨f,j,l,m,rfl,z,t,A,B,C,D⟩:=I;have sv:v.heap.size=k.heap.size:=p.size
   grind) q s).keep.mono (λ_ _ _ h=>h) ?_
 rintro g n ⟨⟨x,o,rfl,hl',v,f,j,l,m,p,rfl,z,t,A,B,C,D⟩,hkp⟩;have N:v.heap.size=k.heap.size:=p.size;have P:o.heap.size=n.heap.size:=hl'.size;have E:Grown k n:=⟨by have:=t.size;omega,λK R=>C7 (w:=k.at d) hkp p hl' (t.block K Za),nQ⟩;have L:0<k.heap.size:=T.lt;exact⟨⟨f,j,l,m,λ_=>Q⟩,Z,Z,E,A,B,C,D,λr=>SB (kb:=⟨f,j,l,m,λ_=>Q⟩) (IE hl' (AX _) (AX _) (AX _) z) (T.same (E.old 0 L)) (Kt a b i u w y) ⟨by simp only;omega,by simp only;omega,by simp only;omega⟩ Z r⟩
end
section
open Go.Conc
abbrev tY:Nat->Option Lv:=λ_=>Q
abbrev wy:Nat->Option ic:=λ_=>Q
variable{w w':Wd}{kb:Kb}{K:aa}{sft:Nat->Nat}{B:RB}{r:Rk}
theorem D8(k:Nat):fb [] k=0:=AX k
theorem SU(T:qJ w)(a b c:Nat)(e:2<=a)(f:a<=32)(i:1<=b)(j:b<=6)(k:c<=4):py true (fb []) 12 #[.agg #[vi a,vi b,vi c]] w λx w'=>∃kb:Kb,x=.tuple #[Po (J (O kb.bk 0 Q)),vi 0]/\(kb.fo=wy)/\Grown w w'/\w.heap.size<=kb.bk/\w.heap.size<=kb.bf/\w.heap.size<=kb.bs/\w.heap.size<=kb.bd/\∀r,Co kb [] (K8 a b c) tY r wy 1 w' :=
 Bh λl m d=>(XK T a b c e f i j k l m d).mono (λ_ _ _ h=>h) λg w' n=>by
  grind
theorem KI(m:Fit sft w){f:bF}(o:Sg f=true)(h:∀a,aG V f v a λe b=>e=.returned n/\bG a.heap.size a b):py true sft f v w λy w'=>y=n/\oh sft [] w w' :=
 xQ m o (R:=λy a b=>y=n/\bG a.heap.size a b) (λd a c=>(h a).mono λe b g=>⟨n,g.1,Z,g.2⟩) λd y a b w' c i j l=>by
  have p:a.heap.size=w.heap.size:=c.size;exact⟨l.1,j.size,λk h _=>C7 (w:=w.at d) j c i (l.2.block k Za),i.fit⟩
theorem UO(b:∀k,sft k=0)(M:ml w B r)(hF:0<r.nF)(d:0<r.nS):pT sft w B r:=by
 have a:∀ {k o:Nat} {v:Vu},w.cell? (O k o Q)=J v->∃c t f,w.heap[k]?=J (.cells c t f):=λ{k o v} h=>by
  unfold aD at h
  grind
 refine⟨M,λk e=>⟨?_,b k⟩⟩;rcases e with rfl|rfl|rfl|⟨h0,q,hq,rfl⟩
 .exact a M.k0
 .exact a (M.wd 0 0 hF Zb)
 .exact a (M.pr 0 0 d Zb)
 .exact a (M.rg 0 q h0 hq)
theorem Vz(z:Fit (fb []) w)(g i j:Nat)(n:2<=g)(A:g<=32)(C:1<=i)(D:i<=6)(E:j<=4):py true (fb []) 13 #[.agg #[vi g,vi i,vi j]] w λx w'=>∃B r,x=.tuple #[Po (J (O B.b 0 Q)),vi 0]/\pT (fb []) w' B r/\Rel (K8 g i j) r/\oh (fb []) [] w w'/\∀k,B.is r k->w.heap.size<=k:=by
 refine xQ z Zd (R:=λy v l=>∃B r,y=.tuple #[Po (J (O B.b 0 Q)),vi 0]/\ml l B r/\Rel (K8 g i j) r/\bG v.heap.size v l/\v.heap.size<=B.b/\v.heap.size<=B.bw/\v.heap.size<=B.bp/\∀q,v.heap.size<=B.bq q) (λd v o=>(c5F g i j n A C D E v).mono λe l N=>?_) λd y v l w' o m s F=>?_
 .grind
 .obtain⟨B,r,rfl,M,a,b,P,R,S,T⟩:=F;have W:v.heap.size=w.heap.size:=o.size;have G:l.heap.size=w'.heap.size:=m.size;have H:0<r.nF:=by have:=a.f;have e:(K8 g i j).nF=g:=Z;omega
  have I:0<r.nS:=by have:=a.s;have e:(K8 g i j).nS=i:=Z;omega
  have u:=UO (sft:=fb []) D8 M H I;have L:∀k,B.is r k->w'.heap[k]?=l.heap[k]?:=λk p=>by
   let⟨⟨c,t,f,n⟩,_⟩:=u.row k p;exact(vV m (D8 k) (.inr ⟨c,t,f,n⟩)).symm
  refine⟨B,r,Z,u.keep L,a,⟨s.size,λk h _=>C7 (w:=w.at d) s o m (b.block k Za),m.fit⟩,λk p=>?_⟩;rcases p with rfl|rfl|rfl|⟨_,q,_,rfl⟩
  all_goals grind
theorem VF{l:List nY}{e:Nat->Option ic}(f:Co kb l K y a e b w):py true (fb l) 14 #[Po (J (O kb.bk 0 Q))] w λx w'=>Grown w w'/\∃c:Lb,x=Po (J (O c.bl 0 Q))/\(w.heap.size<=c.bu/\w.heap.size<=c.bn)/\oY kb l y w' c K.nS (c.bl+1) (λ_=>Q) (λ_=>Sc Q 0 0) (λ_=>0) (λ_=>[]) :=
 Bh λi j d=>(Uv f i j d).mono (λ_ _ _ h=>h) λg w' k=>by
  grind
def tr(f:Nat->Nat)(i:Nat):List dQ:=(aM i).map λj=>Po (J (O (f j) 0 Q))
theorem PN(f:Nat->Nat)(i:Nat):tr f (i+1)=tr f i++[Po (J (O (f i) 0 Q))]:=by simp[tr,List.range_succ]
theorem KZ{g:Nat->Nat}(h:∀j,j<a->t j=g j):tr t a=tr g a:=iY λj b=>by grind
structure qo (wz:Wd) (kb:Kb) (B:RB) (rr:Rk) (K:aa) (bw bb:Nat) (lb:Nat->Lb) (rb:Nat->Rl) (i j:Nat) (V2 V3:Vu) (κ:Nat->Nat) (w:Wd):Prop where
 co:∀r,Co kb [] K tY r wy 1 w
 kz:kb.bk<wz.heap.size/\kb.bf<wz.heap.size/\kb.bs<wz.heap.size/\kb.bd<wz.heap.size/\0<wz.heap.size
 size:wz.heap.size<=w.heap.size
 old:∀k,k<wz.heap.size->w.heap[k]?=wz.heap[k]?
 off:∀k,w.heap.size<=k->κ k=0
 low:∀k,κ k≠0->wz.heap.size<=k
 R:pT (fb []) w B rr
 Rc:∀j,B.is rr j->κ j=1
 sJ:wH K rr
 c0:w.cell? (O bw 0 Q)=J (Po (J (O kb.bk 0 Q)))
 c1:w.cell? (O bw 1 Q)=J (Po (J (O B.b 0 Q)))
 c2:w.cell? (O bw 2 Q)=J V2
 c3:w.cell? (O bw 3 Q)=J V3
 c4:w.cell? (O bw 4 Q)=J (Po (J (O bb 0 Q)))
 rw:F3 (fb []) w bw/\κ bw=3
 vt:(F3 (fb []) w bb/\κ bb=6)/\∀c,c<4->w.cell? (O bb c Q)=J (Sc Q 0 0)
 o2:w.ownsRow 0 56 1 V2 i (tr (λq=>(lb q).bl) i)
 g2:∀g,V2.ownBlock=J g->κ g=4
 o3:w.ownsRow 0 58 1 V3 j (tr (λq=>(rb q).bl) j)
 g3:∀g,V3.ownBlock=J g->κ g=5
 lm:∀q,q<i->oY kb [] tY w (lb q) K.nS ((lb q).bl+1) (λ_=>Q) (λ_=>Sc Q 0 0) (λ_=>0) (λ_=>[])
 lc:∀q,q<i->κ (lb q).bl=300+100*q/\κ (lb q).bu=301+100*q/\κ (lb q).bn=302+100*q
 rl:∀q,q<j->oM (fb []) κ q w (rb q) B.b K.nS (λ_=>Q) (λ_=>s0) (λ_=>0) (λ_=>[])
variable{I:Wd}{H:Rk}{A C:Nat}{lb c':Nat->Lb}{rb e':Nat->Rl}{i j i' j':Nat}{E V3:Vu}{κ κ':Nat->Nat}
theorem qo.lt(h:qo I kb B H K A C lb rb i j E V3 κ w)(b:κ a≠0):a<w.heap.size:=Nat.lt_of_not_le λc=>b (h.off a c)
theorem qo.mw(h:qo I kb B H K A C lb rb i j E V3 κ w)(e:I.heap.size<=a)(b:a<w.heap.size):Mw kb [] tY w a:=by
 let⟨f,k,l,m,n⟩:=h.kz;exact⟨⟨b,by omega,by omega,by omega,λg v c=>(by cases c)⟩,by omega,by omega,λo d=>(by cases d)⟩
theorem qo.to(h:qo I kb B H K A C lb rb i j E V3 κ w)(z:∀k,k<I.heap.size->w'.heap[k]?=w.heap[k]?)(L:∀k,w'.heap.size<=k->κ' k=0)(N:∀k,κ' k≠0->I.heap.size<=k)(d:w.heap.size<=w'.heap.size)(b:∀k,κ k≠0->κ' k=κ k)(v:∀k,κ k≠0->κ k≠3->κ k≠4->κ k≠5->w'.heap[k]?=w.heap[k]?)(P:F3 (fb []) w' A)(x:∀c,c=0\/c=1\/c=4->w'.cell? (O A c Q)=w.cell? (O A c Q))(R:w'.cell? (O A 2 Q)=J n)(S:w'.cell? (O A 3 Q)=J o)(T:w'.ownsRow 0 56 1 n i' (tr (λq=>(c' q).bl) i'))(W:∀g,n.ownBlock=J g->κ' g=4)(G:w'.ownsRow 0 58 1 o j' (tr (λq=>(e' q).bl) j'))(M:∀g,o.ownBlock=J g->κ' g=5)(l:∀q,q<i->c' q=lb q)(a':∀q,q<i'->i<=q->oY kb [] tY w' (c' q) K.nS ((c' q).bl+1) (λ_=>Q) (λ_=>Sc Q 0 0) (λ_=>0) λ_=>[])(b':∀q,q<i'->i<=q->κ' (c' q).bl=300+100*q/\κ' (c' q).bu=301+100*q/\κ' (c' q).bn=302+100*q)(X:∀q,q<j->e' q=rb q)(d':∀q,q<j'->j<=q->oM (fb []) κ' q w' (e' q) B.b K.nS (λ_=>Q) (λ_=>s0) (λ_=>0) λ_=>[]):qo I kb B H K A C c' e' i' j' n o κ' w':=by
 have D:=v C (by rw[h.vt.1.2];decide) (by rw[h.vt.1.2];decide) (by rw[h.vt.1.2];decide) (by rw[h.vt.1.2];decide);have q:∀ {k c:Nat},κ k=c->c≠0->κ' k=c:=λ{k c} e F=>(b k (by rw[e];exact F)).trans e;have m:∀ {k c:Nat},κ k=c->100<=c->w'.heap[k]?=w.heap[k]?:=λ{k c} e F=>v k Za Za Za Za;refine⟨λr=>(h.co r).wrote d nQ λk b hn=>z k (Nat.lt_of_not_le λl=>hn (h.mw l b)),h.kz,Zh h.size d,λk b=>(z k b).trans (h.old k b),L,N,h.R.keep λk s=>v k (by rw[h.Rc k s];decide) (by rw[h.Rc k s];decide) (by rw[h.Rc k s];decide) (by rw[h.Rc k s];decide),λj hj=>q (h.Rc j hj) Zb,h.sJ,(x 0 Zc).trans h.c0,(x 1 Zc).trans h.c1,R,S,(x 4 Zc).trans h.c4,⟨P,q h.rw.2 Zb⟩,⟨⟨h.vt.1.1.of D,q h.vt.1.2 Zb⟩,λc t=>(Zf (w:=w) D).trans (h.vt.2 c t)⟩,T,W,G,M,λp u=>?_,λp u=>?_,λp u=>?_⟩
 .rcases bU p i with a|a
  .rw[l p a];let⟨l1,l2,l3⟩:=h.lc p a;have f:=h.lm p a;exact⟨⟨f.m.is.same (m l1 Za) (m l2 Za) (m l3 Za) λp u g y=>(by cases y),f.m.qS.grow d,f.m.qK.grow d,f.m.rO.grow d,λp u g y=>(by cases y),f.m.b0⟩,λq hq f' ho=>(by cases ho)⟩
  grind
 .rcases bU p i with a|a
  .rw[l p a];exact⟨q (h.lc p a).1 Za,q (h.lc p a).2.1 Za,q (h.lc p a).2.2 Za⟩
  grind
 .rcases bU p j with a|a
  .rw[X p a];exact(h.rl p a).same λk _ t=>⟨q Z (Kx t),m (c:=κ k) Z (by unfold pG at t;omega)⟩
  grind
theorem qo.grown(h:qo I kb B H K A C lb rb i j E V3 κ w)(l:w.heap.size<=w'.heap.size)(g:∀k,k<w.heap.size->w'.heap[k]?=w.heap[k]?)(m:∀k,w'.heap.size<=k->κ' k=0)(n:∀k,κ' k≠0->I.heap.size<=k)(b:∀k,κ k≠0->κ' k=κ k):qo I kb B H K A C lb rb i j E V3 κ' w':=by
 have e:=λc=>Zf (w:=w) (w':=w') (a:=(O A c Q)) (g _ h.rw.1.lt);exact h.to (λk b=>g k (Zg b h.size)) m n l b (λk b _ _ _=>g k (h.lt b)) (h.rw.1.of (g _ h.rw.1.lt)) (λc _=>e c) ((e 2).trans h.c2) ((e 3).trans h.c3) (j5 h.o2 λx a=>g x (j8 h.o2 a).2) (λx a=>(b x (by rw[h.g2 x a];decide)).trans (h.g2 x a)) (j5 h.o3 λx a=>g x (j8 h.o3 a).2) (λx a=>(b x (by rw[h.g3 x a];decide)).trans (h.g3 x a)) (λ_ _=>rfl) (λq d f=>absurd d Za) (λq d f=>absurd d Za) (λ_ _=>rfl) λq d f=>absurd d Za
theorem qo.still(h:qo I kb B H K A C lb rb i j E V3 κ w){sft:Nat->Nat}(F:oh sft [] w w'):qo I kb B H K A C lb rb i j E V3 κ w' :=
 h.grown F.size (λk a=>F.old k a Zc) (λk a=>h.off k (Zh F.size a)) h.low λ_ _=>rfl
def Oz:List bm:=match Tryz.f8.body with
 | some (.seq _ (.seq _ (.seq _ (.seq _ (.seq _ (.seq _ (.seq (.seq _ (.block b (.loop (.seq (.seq x y) z)))) e)))))))=>[.code y,.code z,.inLoop (.seq (.seq x y) z),.inBlock b,.code e]
 | _=>[]
def Ki:List bm:=match Tryz.f8.body with
 | some (.seq _ (.seq _ (.seq _ (.seq _ (.seq _ (.seq _ (.seq (.seq _ (.block b (.loop (.seq xy (.seq (.block b1 (.seq r1 (.seq r2 (.seq r3 r4)))) r5))))) e)))))))=>[.code r4,.inBlock b1,.code r5,.inLoop (.seq xy (.seq (.block b1 (.seq r1 (.seq r2 (.seq r3 r4)))) r5)),.inBlock b,.code e]
 | _=>[]
theorem c9t:pH 38 56 1 8:=⟨by kernel_rfl,by kernel_rfl⟩
theorem Nv:pH 39 58 1 8:=⟨by kernel_rfl,by kernel_rfl⟩
abbrev xz(kb:Kb)(B:RB)(E V3:Vu)(C:Nat):Mem:=[(0,0,.v (Po (J (O kb.bk 0 Q)))),(0,1,.v (Po (J (O B.b 0 Q)))),(0,2,.v E),(0,3,.v V3),(0,4,.v (Po (J (O C 0 Q))))]
abbrev zX(kb:Kb)(B:RB)(i:Int):m7:=[(1,.c (.v (Bo true))),(6,.c (.v (Po (J (O kb.bk 0 Q))))),(8,.c (.v (Po (J (O B.b 0 Q))))),(10,.c (.p 0 0)),(11,.c (ci i))]
theorem oY.uo{kb:Kb}{w w':Wd}{c:Lb}(d:oY kb [] tY w c a b (λ_=>Q) (λ_=>Sc Q 0 0) (λ_=>0) λ_=>[])(e:w.heap.size<=w'.heap.size)(h:w'.heap[c.bl]?=w.heap[c.bl]?)(k:w'.heap[c.bu]?=w.heap[c.bu]?)(l:w'.heap[c.bn]?=w.heap[c.bn]?):oY kb [] tY w' c a b (λ_=>Q) (λ_=>Sc Q 0 0) (λ_=>0) (λ_=>[]) :=
 ⟨⟨d.m.is.same h k l λp m g f=>(by cases f),d.m.qS.grow e,d.m.qK.grow e,d.m.rO.grow e,λp m g f=>(by cases f),d.m.b0⟩,λq s o n=>(by cases n)⟩
variable{Stop:Gr->Wd->Prop}{fr:Fm'}{cs:List Fm'}
theorem qo.prog{f:Lb}(h:qo I kb B H K A C lb rb i j E V3 κ w)(N:oh (fb []) [] w k)(s:oY kb [] tY k f K.nS (f.bl+1) (λ_=>Q) (λ_=>Sc Q 0 0) (λ_=>0) λ_=>[])(z1:w.heap.size<=f.bu)(z2:w.heap.size<=f.bn)(P:oh (fb []) E.ownBlock.toList k l)(R:l.ownsRow 0 56 1 (Sc (J (O a 0 Q)) (i+1) b) (i+1) (tr (λq=>(lb q).bl) i++[Po (J (O f.bl 0 Q))]))(W:E.ownBlock=J a\/k.heap.size<=a)(S:oh (fb []) [A] l m)(G:F3 (fb []) m A)(M:m.cell? (O A 0 Q)=J (Po (J (O kb.bk 0 Q))))(X:m.cell? (O A 1 Q)=J (Po (J (O B.b 0 Q))))(c2:m.cell? (O A 2 Q)=J (Sc (J (O a 0 Q)) (i+1) b))(c3:m.cell? (O A 3 Q)=J V3)(c4:m.cell? (O A 4 Q)=J (Po (J (O C 0 Q)))):∃κ',qo I kb B H K A C (oy lb i f) rb (i+1) j (Sc (J (O a 0 Q)) (i+1) b) V3 κ' m:=by
 let⟨n1,n2,n3,l1,l2,l3⟩:=s.m.is.ne;have s5:=N.size;have s6:=P.size;have s8:=S.size;have y:∀d,w.heap.size<=d->κ d=0:=h.off;have d':=h.size;have gl:a<l.heap.size:=(j8 R (g:=a) Z).2;have g4:E.ownBlock=J a->κ a=4:=h.g2 a;have z:f.bl<k.heap.size/\f.bu<k.heap.size/\f.bn<k.heap.size:=⟨s.m.qS.mn.lt,s.m.qK.mn.lt,s.m.rO.mn.lt⟩;have gw:κ a=4\/k.heap.size<=a:=W.imp_left g4;have f':κ f.bl=0:=y _ Za;have g':κ f.bu=0:=y _ Za;have h':κ f.bn=0:=y _ Za;have k':a≠f.bl/\a≠f.bu/\a≠f.bn/\κ a≠3:=by
  grind
 have e5:∀d,d<w.heap.size->k.heap[d]?=w.heap[d]?:=λd g=>N.old d g Zc;have e6:∀d,d<k.heap.size->κ d≠4->l.heap[d]?=k.heap[d]?:=λd g o=>P.old d g λt=>by
  cases e:E.ownBlock with
  | none=>grind
  | some x=>rw[e]at t;cases Zi t;exact o (h.g2 _ e)
 have e8:∀d,d<l.heap.size->κ d≠3->m.heap[d]?=l.heap[d]?:=λd g p=>S.old d g λt=>by
  cases Zi t;exact p h.rw.2
 have u:∀d,d<k.heap.size->κ d≠3->κ d≠4->m.heap[d]?=k.heap[d]?:=λd g p o=>(e8 d Za p).trans (e6 d g o);have D:∀d,d<w.heap.size->κ d≠3->κ d≠4->m.heap[d]?=w.heap[d]?:=λd g p o=>(u d Za p o).trans (e5 d g);generalize l':(λd=>if d=a then 4 else if d=f.bl then 300+100*i else if d=f.bu then 301+100*i else if d=f.bn then 302+100*i else κ d)=κ';have b':κ' a=4:=by grind
 have m':κ' f.bl=300+100*i:=by grind
 have n':κ' f.bu=301+100*i:=by grind
 have o':κ' f.bn=302+100*i:=by grind
 have p':∀d,d≠a->d≠f.bl->d≠f.bu->d≠f.bn->κ' d=κ d:=λd v F p o=>by grind
 have g:∀d,κ d≠0->κ' d=κ d:=λd L=>by
  grind
 have T:∀d,d<I.heap.size->κ d=0:=λd g=>by
  cases e:κ d with
  | zero=>rfl
  | succ x=>have:=h.low d (by grind);omega
 refine⟨κ',h.to (λd g=>D d Za (by rw[T d g];decide) (by rw[T d g];decide)) (λd q'=>?_) (λd L=>?_) Za g (λd L p o h5=>D d (h.lt L) p o) G (λc hc=>?_) c2 c3 ?_ (λx n=>?_) (j5 h.o3 λx n=>D x (j8 h.o3 n).2 (by rw[h.g3 x n];decide) (by rw[h.g3 x n];decide)) (λx n=>(g x (by rw[h.g3 x n];decide)).trans (h.g3 x n)) (λq hq=>wY Za) (λq v F=>?_) (λq v F=>?_) (λ_ _=>rfl) λq v F=>absurd v Za⟩
 .grind
 .grind
 .rcases hc with rfl|rfl|rfl
  .exact M.trans h.c0.symm
  .exact X.trans h.c1.symm
  .exact c4.trans h.c4.symm
 .rw[PN,KZ (g:=λq=>(lb q).bl) (λq hq=>by show((oy lb i f) q).bl=_;rw[wY Za]),wx];exact j5 R λx n=>by
   obtain rfl:a=x:=Ze n
   grind
 .obtain rfl:a=x:=Ze n;exact b'
 .obtain rfl:q=i:=by omega
  rw[wx];exact s.uo Za (u _ z.1 Za Za) (u _ z.2.1 Za Za) (u _ z.2.2 Za Za)
 .obtain rfl:q=i:=by omega
  rw[wx]
  grind
theorem OO(hi:i<2)(h:qo I kb B H K A C lb rb i i E V3 κ w)(M:fx (fb []) [] 1 w [(A,0)] (xz kb B E V3 C) 75 (zX kb B i++[(45,.c (.v (Bo true)))]) p w)(P:∀b κ' z D w',qo I kb B H K A C (oy lb i b) rb (i+1) i z V3 κ' w'->fx (fb []) [] 1 w' [(A,0)] (xz kb B z V3 C) 75 (zX kb B i) D w'->iv V true true (fb []) Stop (G ((base 8).at D Ki) (fr::cs)) w'):iv V true true (fb []) Stop (G ((base 8).at p Oz) (fr::cs)) w:=by
 obtain rfl|rfl:i=0\/i=1:=by omega
 all_goals
  refine oF M Z Z<|iN 200 1 [] M Z Z nQ λa1 R t=>?_;have m:=h.still t.hJ;refine A4 t (VF (m.co 0)) Z Z Z Tryz.func14 Z Z Z Z Z λx w2 d=>?_;obtain⟨n,b,rfl,⟨S,T⟩,W⟩:=d;refine E7 (t.still (n.hJ (m.co 0))) 1 (.c (.v (Po (J (O b.bl 0 Q))))) Z Z Z Z Z λa3 X=>iN 200 1 [] X.oo Z Z nQ λF w4 c=>uk (op:=.binOp .eql 56 (.tmp 50) (.const (Po Q)) 56) (.c (.v (Bo false))) c Z Z Z Zd Z Z Z nQ (λo u ho hu=>?_) λF c=>?_
  .have f':=(c.rd (x:=.tmp 50) (s:=.c (.v (Po (J (O b.bl 0 Q))))) Z).1;unfold Ex;simp only[ho,f'];rfl
  refine iN 200 1 [] c Z Z nQ λF w4 c=>oC c Z Z<|iN 200 1 [] c Z Z nQ λa5 w5 f=>?_;have L:oh (fb []) [] R w5:=⟨Zh n.size f.hJ.size,λk s _=>(f.old k (Zg s n.size) Zc).trans (n.old k s),f.fit⟩;have v:=m.still L;have g':=W.grown ⟨f.hJ.size,λk s=>f.old k s Zc,nQ⟩;refine AP c9t (f.oo.pI (W':=E.ownBlock.toList) Zc) ⟨v.o2,λ_ _=>D8 _,λg y=>.inl (by rw[y];simp),λg y q d=>?_⟩ (bh _) Za Zb Z Z Z Z Z Z Z Z Z Z Z Z Z λa6 N g h' k' L6 l hp O6 og=>?_
  .obtain rfl:q=0:=Zm d;intro e;have e:A=g:=e;have:=v.g2 g y;rw[←e,v.rw.2]at this;cases this
  cases Ze hp;have M7:fx (fb []) [A] 0 N [(A,0)] (xz kb B E V3 C) 75 _ a6 N:=⟨l.lv,l.ce,l.wf,l.bl,l.ij,λq _ d=>.inl (by obtain rfl:q=0:=Zm d;exact cD.2 Z),af _,λ_ _ _=>rfl,l.fit,λk _=>D8 k⟩;refine iN 200 1 [] M7 Z Z nQ λa8 w8 a=>?_;let⟨κ',h8⟩:=m.prog L g' S T L6 O6.row (og.imp_right (·.1)) a.hJ (a.bl 0 Zc) (a.ld 0 0 Z) (a.ld 0 1 Z) (a.ld 0 2 Z) (a.ld 0 3 Z) (a.ld 0 4 Z);have M9:=(a.next a.fit (λk _=>D8 k) (λq d=>⟨D8 _,Z⟩) a.lv a.wf).oH 1 [1,6,8,10,11] [(0,0),(0,1),(0,2),(0,3),(0,4)] Z Z Z;exact P b κ' _ a8 w8 h8 M9
structure AJ (κ:Nat->Nat) (w:Wd) (j:Nat) (B:RB) (n:Nat) (b:Rl) (κ1:Nat->Nat) (u:Wd):Prop where
 F:oh (fb []) [] w u
 kk:∀k,k<w.heap.size->κ1 k=κ k
 nk:∀k,w.heap.size<=k->κ1 k=0\/k<u.heap.size/\pG j (κ1 k)
 rl:oM (fb []) κ1 j u b B.b n (λ_=>Q) (λ_=>s0) (λ_=>0) (λ_=>[])
structure Hq (V3:Vu) (rb:Nat->Rl) (j:Nat) (b:Rl) (u w8:Wd) (g cap:Nat):Prop where
 row:w8.ownsRow 0 58 1 (Sc (J (O g 0 Q)) (j+1) cap) (j+1) (tr (λq=>(rb q).bl) j++[Po (J (O b.bl 0 Q))])
 size:u.heap.size<=w8.heap.size
 old:∀k,k<u.heap.size->V3.ownBlock≠J k->w8.heap[k]?=u.heap[k]?
 og:V3.ownBlock=J g\/u.heap.size<=g
 fit:Fit (fb []) w8
theorem qo.doc{y:Rl}(hj:j<2)(h:qo I kb B H K A C lb rb i j E V3 κ w)(n1:AJ κ w j B K.nS y t k)(n2:Hq V3 rb j y k l b c)(F:oh (fb []) [A] l m)(M:F3 (fb []) m A)(X:m.cell? (O A 3 Q)=J (Sc (J (O b 0 Q)) (j+1) c))(co:∀g,g≠3->m.cell? (O A g Q)=l.cell? (O A g Q)):∃κ',qo I kb B H K A C lb (oy rb j y) i (j+1) E (Sc (J (O b 0 Q)) (j+1) c) κ' m:=by
 have s6:=n1.F.size;have s8:=n2.size;have s9:=F.size;have f':=h.size;have gl:b<l.heap.size:=(j8 n2.row (g:=b) Z).2;have L:∀a,a<w.heap.size->k.heap[a]?=w.heap[a]?:=λa d=>n1.F.old a d Zc;have p:∀x,V3.ownBlock=J x->κ x=5/\x<w.heap.size:=λx f=>⟨h.g3 x f,(j8 h.o3 f).2⟩
 have N:∀a,a<l.heap.size->a≠A->m.heap[a]?=l.heap[a]?:=λa d s=>F.old a d (by simpa using s);have P:=h.rw.1.lt;have R:∀a,a<k.heap.size->a≠A->V3.ownBlock≠J a->m.heap[a]?=k.heap[a]?:=λa d s u=>(N a Za s).trans (n2.old a d u);have D:∀a,a<w.heap.size->κ a≠3->κ a≠5->m.heap[a]?=w.heap[a]?:=λa d s u=>(R a Za (λe=>s (by rw[e];exact h.rw.2)) λe=>u (p a e).1).trans (L a d);have gw:t b=5\/k.heap.size<=b:=n2.og.imp_left λe=>(n1.kk b (p b e).2).trans (p b e).1;have k0:∀a,k.heap.size<=a->t a=0:=λa d=>by
  rcases n1.nk a Za with e|⟨e,_⟩
  all_goals grind
 have gb:b≠A:=λe=>by
  rcases n2.og with q|q
  .have:=(p b q).1;rw[e,h.rw.2]at this;cases this
  .omega
 generalize g':(λa=>if a=b then 5 else t a)=κ';have a':κ' b=5:=by grind
 have b':∀a,a≠b->κ' a=t a:=λa v=>by grind
 have d':∀a,t a≠0->κ' a=t a:=λa n=>by
  grind
 have d:∀a,κ a≠0->κ' a=κ a:=λa n=>by
  have e:=n1.kk a (h.lt n)
  grind
 have S:∀a,a<I.heap.size->κ a=0:=λa d=>by
  cases e:κ a with
  | zero=>rfl
  | succ x=>have:=h.low a (by grind);omega
 have T:∀g,g≠3->m.cell? (O A g Q)=w.cell? (O A g Q):=λg o=>by
  rw[co g o];exact Zf (w:=w) (a:=(O A g Q)) ((n2.old A Za λe=>by have:=(p A e).1;rw[h.rw.2]at this;cases this).trans (L A P))
 refine⟨κ',h.to (λa d=>D a Za (by rw[S a d];decide) (by rw[S a d];decide)) (λa h'=>?_) (λa n=>?_) Za d (λa n s h4 u=>D a (h.lt n) s u) M (λg o=>T g Za) ((T 2 Zb).trans h.c2) X (j5 h.o2 λx f=>D x (j8 h.o2 f).2 (by rw[h.g2 x f];decide) (by rw[h.g2 x f];decide)) (λx f=>(d x (by rw[h.g2 x f];decide)).trans (h.g2 x f)) ?_ (λx f=>?_) (λ_ _=>rfl) (λq v W=>absurd v Za) (λq v W=>absurd v Za) (λq hq=>wY Za) λq v W=>?_⟩
 .grind
 .by_cases G:a=b
  .subst G;rcases n2.og with q|q
   all_goals grind
  .rw[b' a G]at n;rcases bU a w.heap.size with z|z
   .rw[n1.kk a z]at n;exact h.low a n
   .omega
 .rw[PN,KZ (g:=λq=>(rb q).bl) (λq hq=>by show((oy rb j y) q).bl=_;rw[wY Za]),wx];exact j5 n2.row λx f=>by
   obtain rfl:b=x:=Ze f;exact N b gl gb
 .obtain rfl:b=x:=Ze f;exact a'
 .obtain rfl:q=j:=by omega
  rw[wx];refine n1.rl.same λa z o=>⟨d' a (Kx o),R a z (λe=>?_) λe=>?_⟩
  .rw[e,n1.kk A P,h.rw.2]at o;unfold pG at o;omega
  .rw[n1.kk a (p a e).2,(p a e).1]at o;unfold pG at o;omega
theorem qo.px{env:m7}(h:qo I kb B H K A C lb rb i j E V3 κ w)(d:qe 75 (qC [(A,0)] env) p)(f:∀a∈env,a.2.ok 1):fx (fb []) [] 1 w [(A,0)] (xz kb B E V3 C) 75 env p w:=by
 refine⟨d,λe b=>?_,f,λq c=>?_,λq a c g l=>?_,λq m n=>?_,af _,λ_ _ _=>rfl,(h.co 0).env.fit,λk _=>D8 k⟩
 .simp only[xz,ae,ai,or_false]at b;rcases b with rfl|rfl|rfl|rfl|rfl<;>refine⟨cG,nQ,?_⟩
  .exact h.c0
  .exact h.c1
  .exact h.c2
  .exact h.c3
  .exact h.c4
 .obtain rfl:q=0:=Zm c;exact h.rw.1
 all_goals grind
theorem Kz{a:db}(hi:i<2)(h:qo I kb B H K A C lb rb (i+1) i E V3 κ w)(M:fx (fb []) [] 1 w [(A,0)] (xz kb B E V3 C) 75 (zX kb B i) a w)(R:∀b κ' f' S w',qo I kb B H K A C lb (oy rb i b) (i+1) (i+1) E f' κ' w'->fx (fb []) [] 1 w' [(A,0)] (xz kb B E f' C) 75 (zX kb B (i+1:Nat)++[(45,.c (.v (Bo (decide (((i+1:Nat):Int)<2)))))]) S w'->iv V true true (fb []) Stop (G ((base 8).at S Oz) (fr::cs)) w'):iv V true true (fb []) Stop (G ((base 8).at a Ki) (fr::cs)) w:=by
 have vb:∀x,V3.ownBlock=J x->κ x=5/\x<w.heap.size:=λx R=>⟨h.g3 x R,(j8 h.o3 R).2⟩
 have bv:V3.ownBlock≠J A:=λe=>by have:=(vb A e).1;rw[h.rw.2]at this;cases this
 have cn:=d0b (main:=true) (κ:=κ) i M.fit (λk _=>D8 k) h.R h.R.mem.hS;rw[h.sJ.u.s]at cn;have Mr:=M.pI (W':=V3.ownBlock.toList) Zc;have M1:∀ {u:Wd},oh (fb []) [] w u->fx (fb []) V3.ownBlock.toList 1 w [(A,0)] (xz kb B E V3 C) 75 (zX kb B i) a u:=λ{u} F=>Mr.still F;have al:∀ {u:Wd} (o:Obj),oh (fb []) [] w u->oh (fb []) [] w (u.alloc o):=λ{u} o F=>⟨by have:=F.size;simp;omega,λk n _=>(aK u o k (Zg n F.size)).trans (F.old k n Zc),(oh.alloc F.fit o).fit⟩
 refine vz [(6,Q),(7,Q),(8,Q),(11,Q)] [] true (λs p k' w'=>k'=[(A,0)]/\((s=0/\w'=w)\/(s=1/\∃b d,AJ κ w i B K.nS b d w'/\p 0=J (.c (.v (Po (J (O b.bl 0 Q))))))\/(s=2/\∃b d u,AJ κ w i B K.nS b d u/\w'=u.alloc (.cells #[Po (J (O b.bl 0 Q))] 58 (0,0))/\p 1=J (.c (.v (Sc (J (O u.heap.size 0 Q)) 1 1))))\/(s=3/\∃b d u g l,AJ κ w i B K.nS b d u/\Hq V3 rb i b u w' g l/\p 2=J (.c (.v (Sc (J (O g 0 Q)) (i+1) l))))\/(s=4/\∃b d u T g l,AJ κ w i B K.nS b d u/\Hq V3 rb i b u T g l/\oh (fb []) [A] T w'/\F3 (fb []) w' A/\w'.cell? (O A 3 Q)=J (Sc (J (O g 0 Q)) (i+1) l)/\∀c,c≠3->w'.cell? (O A c Q)=T.cell? (O A c Q)))) Mr Z (λ_=>rfl) (λ_=>by kernel_rfl) Z Zd nQ (λs p g' w' S s' f W X=>?_) ⟨Z,.inl ⟨Z,Z⟩⟩ (λs j g m p o S w' g' t' z f Ma t y=>?_) λp g' u' v' f l' m'=>?_
 .obtain⟨D,f⟩:=f;obtain rfl:=Zk D;rcases f with⟨_,rfl⟩|⟨_,b,d,n1,_⟩|⟨_,b,d,u,n1,rfl,_⟩|⟨_,b,d,u,g,l,n1,n2,_⟩|⟨rfl,_⟩
  .exact Mr.bare W X
  .exact(M1 n1.F).bare W X
  .exact(M1 (al _ n1.F)).bare W X
  .have s1:=n1.F.size;refine((M1 n1.F).to n2.size (λq L=>?_) (λk n y=>n2.old k Za λe=>y (by rw[e];simp)) n2.fit).bare W X;obtain rfl:q=0:=Zm L;exact n2.old A (by have:=h.rw.1.lt;omega) bv
  grind
 .obtain⟨D,f⟩:=f;obtain rfl:=Zk D
  match s,m with
  | 0,m =>
   obtain⟨rfl,rfl⟩:=ax (Ze m);rcases f with⟨_,rfl⟩|⟨h,_⟩|⟨h,_⟩|⟨h,_⟩|⟨h,_⟩
   case inr.inl=>cases h
   case inr.inr.inl=>cases h
   case inr.inr.inr.inl=>cases h
   case inr.inr.inr.inr=>cases h
   obtain rfl:=Ze z;refine CF cn z Z Z Tryz.func15 Z Z ?_ λx N L=>?_
   .simp only[du,cZ,eK,t (.tmp 68) (.c (.v (Po (J (O B.b 0 Q))))) Z];rfl
   .obtain⟨F,b,d,rfl,kk,nk,rl⟩:=L;exact y [] N (J (.c (.v (Po (J (O b.bl 0 Q)))))) ⟨by simp,.inr (.inl ⟨Z,b,d,⟨F,kk,nk,rl⟩,Z⟩)⟩ (.inl Z) (λsv h=>by obtain rfl:=Ze h;trivial)
  | 1,m =>
   obtain⟨rfl,rfl⟩:=ax (Ze m);rcases f with⟨h,_⟩|⟨_,b,d,n1,n'⟩|⟨h,_⟩|⟨h,_⟩|⟨h,_⟩
   case inl=>cases h
   case inr.inr.inl=>cases h
   case inr.inr.inr.inl=>cases h
   case inr.inr.inr.inr=>cases h
   obtain rfl:=Ze z;refine Ep (cells:=[Po (J (O b.bl 0 Q))]) Nv ⟨by simp,by simp⟩ Z Z Z (t (.tmp 69) _ n') Z<|y [] _ (J (.c (.v (Sc (J (O w'.heap.size 0 Q)) 1 1)))) ⟨by simp,.inr (.inr (.inl ⟨Z,b,d,w',n1,Z,Z⟩))⟩ (.inl Z) (λsv h=>by obtain rfl:=Ze h;trivial)
  | 2,m =>
   obtain⟨rfl,rfl⟩:=ax (Ze m);rcases f with⟨h,_⟩|⟨h,_⟩|⟨_,b,d,u,n1,rfl,hx1⟩|⟨h,_⟩|⟨h,_⟩
   case inl=>cases h
   case inr.inl=>cases h
   case inr.inr.inr.inl=>cases h
   case inr.inr.inr.inr=>cases h
   obtain rfl:=Ze z;have s1:=n1.F.size;refine Cs (V:=V3) (n:=i) (cells:=[Po (J (O b.bl 0 Q))]) Nv Z (λv P=>?_) Za ?_ Z Z Z (t (.tmp 67) (.c (.v V3)) Z) (t (.tmp 70) _ hx1) (cE _ _) (D8 _) (j5 h.o3 λg hg=>?_) (λg hg=>D8 _) (bh _) (al _ n1.F).fit (λk _=>D8 k) λg l N q1 q2 q3 q4 q5 q6=>?_
   .obtain rfl:=Zi P;rfl
   .obtain rfl|rfl:i=0\/i=1:=by omega
    all_goals decide
   .exact(al (.cells #[Po (J (O b.bl 0 Q))] 58 (0,0)) n1.F).old g (vb g hg).2 Zc
   .refine y [] N (J (.c (.v (Sc (J (O g 0 Q)) (i+1) l)))) ⟨by simp,.inr (.inr (.inr (.inl ⟨Z,b,d,u,g,l,n1,⟨q1,by simp at q2;omega,λk n P=>?_,q5.imp_right λe=>by rw[e.1];simp,q4⟩,Z⟩)))⟩ (.inl Z) (λsv h=>by obtain rfl:=Ze h;trivial);rw[q3 k (by simp;omega) P,aK u _ k n]
  | 3,m =>
   obtain⟨rfl,rfl⟩:=ax (Ze m);rcases f with⟨h,_⟩|⟨h,_⟩|⟨h,_⟩|⟨_,b,d,u,g,l,n1,n2,o'⟩|⟨h,_⟩
   case inl=>cases h
   case inr.inl=>cases h
   case inr.inr.inl=>cases h
   case inr.inr.inr.inr=>cases h
   obtain rfl:=Ze z;have s1:=n1.F.size;have e8:w'.heap[A]?=w.heap[A]?:=(n2.old A (by have:=h.rw.1.lt;omega) bv).trans (n1.F.old A h.rw.1.lt Zc);obtain⟨c0,t0,p'⟩:=(h.rw.1.of e8).1;refine wN (b:=A) (p:=3) (cells:=[Sc (J (O g 0 Q)) (i+1) l]) Ma.lv Z Z Z Z p' (D8 _) Ma.fit (t (.tmp 73) _ Z) (t (.tmp 71) _ o') Z Z (λv P=>?_) (λq L=>?_) λN s1 s2 s3 s4 s5 s6=>?_
   .obtain rfl:=Zi P;rfl
   .obtain rfl:q=0:=Zm L;rw[Zf (w:=w) e8,h.c3];rfl
   .exact y [] N Q ⟨by simp,.inr (.inr (.inr (.inr ⟨Z,b,d,u,w',g,l,n1,n2,⟨by omega,λk _ n=>s2 k (by simpa using n),s6⟩,⟨s3,D8 _⟩,s4 0 _ Z,λc hc=>s5 c (by simp;omega)⟩)))⟩ (.inl Z) (λsv h=>by cases h)
  | s+4,m=>simp at m
 .obtain⟨D,f⟩:=f;obtain rfl:=Zk D;rcases f with⟨h,_⟩|⟨h,_⟩|⟨h,_⟩|⟨h,_⟩|⟨_,b,d,u,T,g,l,n1,n2,F9,r9,c3,co⟩
  .cases h
  .cases h
  .cases h
  .cases h
  obtain⟨κ',h9⟩:=h.doc hi n1 n2 F9 r9 c3 co;have M9:=h9.px l' m';obtain rfl|rfl:i=0\/i=1:=by omega
  all_goals
   refine iN 200 1 [] M9 Z Z nQ λq' r' h'=>R b κ' _ q' r' (h9.still h'.hJ) (h'.oo.oV 1 [1,6,8,10,11,45] Z Z)
theorem JB(h:w.ownsRow 0 a 1 n 2 (tr t 2)):∃g b,n=Sc (J (O g 0 Q)) 2 b/\∀i,i<2->w.cell? (O g i Q)=J (Po (J (O (t i) 0 Q))):=by
 rcases h.2 with⟨_,e⟩|⟨g,b,d,rfl,_,hh,_,_,_,c⟩
 .cases e
 refine⟨g,b,Z,λi k=>?_⟩;have f:(d.toList.take 2)[i]?=J (Po (J (O (t i) 0 Q))):=by
  have c:d.toList.take 2=tr t 2:=c;rw[c];obtain rfl|rfl:i=0\/i=1:=by omega
  .rfl
  .rfl
 rw[eV,nT k]at f;simp only[aD,hh];simpa using f
theorem qo.pw(h:qo I kb B H K A C lb rb 2 2 E V3 κ w)(f:2<=K.nF/\K.nF<=32/\K.nD<=4):∃P S,P.bw=A/\P.kb=kb/\∀r,Pw [] tY r wy 1 w κ P S K 0:=by
 obtain⟨l,m,rfl,n⟩:=JB h.o2;obtain⟨s,t,rfl,u⟩:=JB h.o3;refine⟨⟨kb,B,A,l,m,s,t,C,lb,λi=>(lb i).bl+1,rb,K.nS⟩,⟨λ_ _=>Q,λ_ _=>Sc Q 0 0,λ_ _=>0,λ_ _=>[],λ_ _=>Q,λ_ _=>s0,λ_=>Sc Q 0 0,λ_=>0,λ_=>[],λk=>if k=C then J .hd else Q,H⟩,Z,Z,λr=>?_⟩;have y:qa (fb []) κ w C (λ_=>Sc Q 0 0) (λ_=>0) (λ_=>[]) (λk=>if k=C then J .hd else Q):=by
  refine⟨h.vt.2,λc _=>dh _ _ _ _,nT Z,λc g _ b=>(by cases b),λg x b=>?_,λg c k L b=>?_,λc i _ a=>absurd a Za⟩
  .split at b
   .next e=>subst e;exact⟨h.vt.1.2,h.vt.1.1⟩
   .cases b
  grind
 exact⟨h.co r,Z,λi a=>h.lm i a,λi a=>⟨(h.lc i a).1,(h.lc i a).2.1,(h.lc i a).2.2,λp g _ b=>(by cases b)⟩,λk d=>h.mw (h.low k d) (h.lt d),⟨h.R,h.Rc,h.sJ,λi a=>h.rl i a,y,h.c0,h.c1,h.c2,h.c3,h.c4,λi a=>⟨n i a,u i a⟩,h.rw,⟨⟨Dj h.o2 Z,D8 _⟩,h.g2 _ Z⟩,⟨⟨Dj h.o3 Z,D8 _⟩,h.g3 _ Z⟩⟩,λi p _ _=>.inl ⟨Z,Z⟩,λi p j q o N _ _ _ _ z=>(by cases z),λg v D=>(by cases D),f,by decide,λi p _ _=>af _,λi p T _ _ e=>(by cases e),λc _=>af _,λi p x _ _ F=>(by cases F)⟩
theorem Tg(T:qJ w)(h l m:Nat)(D:2<=h)(h2:h<=32)(h3:1<=l)(h4:l<=6)(h5:m<=4):py true (fb []) 8 #[.agg #[vi h,vi l,vi m],Bo true] w λx w'=>∃P S κ,x=.tuple #[Po (J (O P.bw 0 Q)),Bo true]/\(∀r,Pw [] tY r wy 1 w' κ P S (K8 h l m) 0)/\P.kb.fo=wy/\ya P.kb tY κ w w':=by
 refine y7 (sz:=75) (ρ:=[]) (m:=[]) (W:=[]) (ro:=0) [.g [ci h,ci l,ci m],.c (.v (Bo true))] ⟨λe he=>(by cases he),λi n=>(by cases n),λi j n=>(by cases n),λi _ n=>(by cases n),tU w,λk _=>D8 k⟩ (λs hs=>?_) gX Z Z Z λStop fr cs L' M F=>?_
 .simp only[ae,ai,or_false]at hs;rcases hs with rfl|rfl
  .intro x F;simp only[ae,ai,or_false]at F;rcases F with rfl|rfl|rfl<;>trivial
  .trivial
 refine sq 200 0 [] M Z Z nQ λa1 w1 bc t=>?_;have T1:qJ w1:=T.same (t.old 0 T.lt Zc);refine A4 t (SU T1 h l m D h2 h3 h4 h5) Z Z Z kF Z Z Z Z Z λx L d=>?_;obtain⟨kb,rfl,v',N,y1,y2,y3,y4,co⟩:=d;have z1:=t.size;have z2:=N.size;have F2:oh (fb []) [] w1 L:=⟨N.size,λk f _=>N.old k f,tU _⟩;have W:=(co 0).env.rep;have T2:=(co 0).env.oT.lt;refine E7 (t.still F2) 1 (.t [.c (.v (Po (J (O kb.bk 0 Q)))),.c (ci 0)]) Z Z Z Z Z λa3 M3=>iN 200 1 [] (M3.next (tU _) (λk _=>D8 k) (λq d=>⟨D8 _,Z⟩) M3.lv M3.wf) Z Z nQ λa4 w4 y=>A4 y (Vz y.fit h l m D h2 h3 h4 h5) Z Z Z Tryz.func13 Z Z Z Z Z λx w5 d=>?_;obtain⟨B,H,rfl,R,x',F5,bB⟩:=d;refine E7 (y.still F5) 1 (.t [.c (.v (Po (J (O B.b 0 Q)))),.c (ci 0)]) Z Z Z Z Z λa6 M6=>iN 200 1 [] (M6.next (tU _) (λk _=>D8 k) (λq d=>⟨D8 _,Z⟩) M6.lv M6.wf) Z Z nQ λa7 w7 M7=>An (op:=.binOp .eql 36 (.tmp 27) (.const (Po Q)) 36) (.c (.v (Bo false))) M7 Z Z Z Zd Z Z Z nQ (λo u z hu=>?_) λa8 M8=>?_
 .have e:=(M7.rd (x:=.tmp 27) (s:=.c (.v (Po (J (O kb.bk 0 Q))))) Z).1;unfold Ex;simp only[z,e];rfl
 refine iN 200 1 [] M8 Z Z nQ λa9 w9 M9=>An (op:=.binOp .eql 37 (.tmp 29) (.const (Po Q)) 37) (.c (.v (Bo false))) M9 Z Z Z Zd Z Z Z nQ (λo u z hu=>?_) λa10 y'=>?_
 .have e:=(M9.rd (x:=.tmp 29) (s:=.c (.v (Po (J (O B.b 0 Q))))) Z).1;unfold Ex;simp only[z,e];rfl
 refine iN 200 1 [] y' Z Z nQ λa11 w11 o'=>oC o' Z Z<|iN 200 1 [] o' Z Z nQ λa12 w12 p'=>uk (op:=.binOp .eql 36 (.tmp 33) (.const (Po Q)) 36) (.c (.v (Bo false))) p' Z Z Z Zd Z Z Z nQ (λo u z hu=>?_) λa13 z'=>?_
 .have e:=(p'.rd (x:=.tmp 33) (s:=.c (.v (Po (J (O kb.bk 0 Q))))) Z).1;unfold Ex;simp only[z,e];rfl
 refine iN 200 1 [] z' Z Z nQ λa14 w14 q'=>oC q' Z Z<|qp 200 1 [] q' Z Z nQ λa15 G C A a=>?_;have lw:G.heap.size > A:=F3.lt (a.bl 2 Zc);have c':G.heap.size > C:=F3.lt (a.bl 1 Zc);have nw:w5.heap.size<=A:=(a.own 2 Zc Zc).resolve_left Zc;have nb:w5.heap.size<=C:=(a.own 1 Zc Zc).resolve_left Zc;have ne:C≠A:=a.ij 1 2 Zc Zc Zb;have z4:=y.size;have z5:=F5.size;have z15:=a.size;have r':∀k,k<L.heap.size->G.heap[k]?=L.heap[k]?:=λk f=>(a.old k Za Zc).trans ((F5.old k Za Zc).trans (y.old k f Zc));obtain⟨κ,A',B',C',D'⟩:∃κ:Nat->Nat,(∀k,B.is H k->κ k=1)/\κ A=3/\κ C=6/\∀k,κ k≠0->B.is H k\/k=A\/k=C:=by
  classical
  have nB:∀k,w5.heap.size<=k->¬B.is H k:=λk f hB=>by have:=R.lt hB;omega
  refine⟨λk=>if B.is H k then 1 else if k=A then 3 else if k=C then 6 else 0,λk f=>nT f,?_,?_,λk f=>?_⟩
  all_goals grind
 have hm:qo L kb B H (K8 h l m) A C (λ_=>⟨0,0,0⟩) (λ_=>⟨0,0,0,0⟩) 0 0 s0 s0 κ G:=by
  refine⟨λr=>(co r).grown ⟨by omega,r',nQ⟩,⟨W.lk,W.lf,W.ls,W.ld,T2⟩,by omega,r',λk f=>?_,λk f=>?_,R.keep λk hB=>a.old k (R.lt hB) Zc,A',⟨x',Kt h l m D h3 h4⟩,a.ld 2 0 Z,a.ld 2 1 Z,a.ld 2 2 Z,a.ld 2 3 Z,a.ld 2 4 Z,⟨a.bl 2 Zc,B'⟩,⟨⟨a.bl 1 Zc,C'⟩,λc hc=>?_⟩,dh _ _ _ _,λg hg=>(by cases hg),dh _ _ _ _,λg hg=>(by cases hg),λq d=>absurd d Za,λq d=>absurd d Za,λq d=>absurd d Za⟩
  .cases e:κ k with
   | zero=>rfl
   | succ x =>
    rcases D' k (by rw[e];exact Nat.succ_ne_zero x) with q|q|q
    .have:=R.lt q;omega
    all_goals grind
  .grind
  .cases c,(Za:c<4) using ep
   .exact a.ld 1 0 Z
   .exact a.ld 1 1 Z
   .exact a.ld 1 2 Z
   .exact a.ld 1 3 Z
 have MA:=a.oV 3 [1,6,8,10,11,45] Z Z;refine OO (i:=0) Zb hm (hm.px MA.lv ?_) λb κ1 V1 a16 w16 E' F'=>?_
 .intro p hp;simp only[zX,cy,dS,ae,ai,or_false]at hp;rcases hp with rfl|rfl|rfl|rfl|rfl|rfl<;>first|trivial|exact cG
 refine Kz (i:=0) Zb E' F' λb' κ2 E a17 w17 G' H'=>OO (i:=1) Zb G' H' λb3 κ3 V3 a18 w18 I' J'=>Kz (i:=1) Zb I' J' λb4 s' V4 a19 w19 K' t'=>oC t' Z Z<|iN 200 1 [] t' Z Z nQ λa20 w20 u'=>B3 u' gX Z Z Z ?_;have X:=K'.still u'.hJ;obtain⟨P,S,rfl,rfl,hP⟩:=X.pw ⟨D,h2,h5⟩;refine F _ _ ⟨P,S,s',Z,hP,v',λk f=>?_⟩;have kz:=X.kz;have e:=X.old k Za;refine⟨⟨G0 Za e,by omega,by omega,by omega,λg v hv=>(by cases hv)⟩,?_,e.trans ((N.old k Za).trans (t.old k f Zc))⟩
 cases e:s' k with
 | zero=>rfl
 | succ x=>have:=X.low k (by rw[e];exact Nat.succ_ne_zero x);omega
variable{B:fM->jD->Prop}{n A:Nat}{f:Option cC}{x y z:Int}
theorem b4B{x y z:Int}(a:-9223372036854775808<=x/\x<9223372036854775808)(P:-9223372036854775808<=y/\y<9223372036854775808)(h:¬BW x y z):py true (fb []) 8 #[.agg #[vi x,vi y,vi z],Bo true] w λv w'=>v=.tuple #[Po Q,Bo true]/\oh (fb []) [] w w':=by
 refine y7 (sz:=75) (ρ:=[]) (m:=[]) (W:=[]) (ro:=0) [.g [ci x,ci y,ci z],.c (.v (Bo true))] ⟨λe R=>(by cases R),λi b=>(by cases b),λi j b=>(by cases b),λi _ b=>(by cases b),tU w,λk _=>D8 k⟩ (λs g=>?_) gX Z Z Z λStop fr cs d' M a=>?_
 .simp only[ae,ai,or_false]at g;rcases g with rfl|rfl
  .intro x a;simp only[ae,ai,or_false]at a;rcases a with rfl|rfl|rfl<;>trivial
  .trivial
 refine sq 200 0 [] M Z Z nQ λa1 w1 bc l=>A4 l (KI (tU _) Zd (Tn x y z h)) Z Z Z kF Z Z Z Z Z λv w2 d=>?_;obtain⟨rfl,S⟩:=d;refine E7 (l.still S) 1 (.t [.c (.v (Po Q)),.c (ci 1)]) Z Z Z Z Z λa3 T=>iN 200 1 [] T Z Z nQ λa4 w4 m=>A4 m (KI (tU _) Zd (c5G x y z ‹_› P h)) Z Z Z Tryz.func13 Z Z Z Z Z λv w5 d=>?_;obtain⟨rfl,W⟩:=d;refine E7 (m.still W) 1 (.t [.c (.v (Po Q)),.c (ci 1)]) Z Z Z Z Z λa6 G=>iN 200 1 [] G Z Z nQ λa7 w7 p=>An (op:=.binOp .eql 36 (.tmp 27) (.const (Po Q)) 36) (.c (.v (Bo true))) p Z Z Z Zd Z Z Z nQ (λo u c q=>?_) λa8 X=>?_
 .have e:=(p.rd (x:=.tmp 27) (s:=.c (.v (Po Q))) Z).1;unfold Ex;simp only[c,e];rfl
 refine iN 200 1 [] X Z Z nQ λa9 w9 t=>An (op:=.binOp .eql 37 (.tmp 29) (.const (Po Q)) 37) (.c (.v (Bo true))) t Z Z Z Zd Z Z Z nQ (λo u c q=>?_) λf' a'=>?_
 .have e:=(t.rd (x:=.tmp 29) (s:=.c (.v (Po Q))) Z).1;unfold Ex;simp only[c,e];rfl
 refine iN 200 1 [] a' Z Z nQ λg' h' D=>oC D Z Z<|iN 200 1 [] D Z Z nQ λk' l' F=>uk (op:=.binOp .eql 36 (.tmp 33) (.const (Po Q)) 36) (.c (.v (Bo true))) F Z Z Z Zd Z Z Z nQ (λo u c q=>?_) λm' b'=>?_
 .have e:=(F.rd (x:=.tmp 33) (s:=.c (.v (Po Q))) Z).1;unfold Ex;simp only[c,e];rfl
 refine iN 200 1 [] b' Z Z nQ λn' o' L=>oF L Z Z<|iN 200 1 [] L Z Z nQ λp' q' N=>B3 N gX Z Z Z<|a _ _ ⟨Z,N.hJ⟩
theorem Rr(T:qJ w)(d:-9223372036854775808<=x/\x<9223372036854775808)(hy:-9223372036854775808<=y/\y<9223372036854775808)(hS:yn w f n)(hn:n<=1048576)(m':∀l n' nG w',Fit (fb l) w'->(∀g,g≠0->n' g=Q)->w.heap.size<=w'.heap.size->(∀k,k<w.heap.size->w'.heap[k]?=w.heap[k]?)->(∀k,w'.heap.size<=k->fb l k=0)->iv V true true (fb l) (X V B l n' nG 0) (G (fr.finish (Bo true)) cs) w') :
  iv V true true (fb []) (X V B [] wy 1 0) (G (ay V 7 #[.agg #[vi x,vi y,vi z],.slice f n A,Bo true] .normal) (fr::cs)) w:=by
 refine zV (ρ:=[]) (W:=[]) (ro:=0) (m:=[]) (sz:=55) [.g [ci x,ci y,ci z],.c (.v (.slice f n A)),.c (.v (Bo true))] ⟨λe he=>(by cases he),λi h=>(by cases h),λi j h=>(by cases h),λi _ h=>(by cases h),tU w,λk _=>D8 k⟩ (λs hs=>?_) kh Z Z Z λa M=>?_
 .simp only[ae,ai,or_false]at hs;rcases hs with rfl|rfl|rfl
  .intro x d;simp only[ae,ai,or_false]at d;rcases d with rfl|rfl|rfl<;>trivial
  .trivial
  .trivial
 refine sq 200 0 [] M Z Z nQ λa1 w1 bc m=>?_;have F:=m.hJ
 by_cases hm:BW x y z
 case neg =>
  refine A4 m (b4B d hy hm) Z Z Z gX Z Z Z Z Z λv w2 hq=>?_;obtain⟨rfl,F2⟩:=hq;refine E7 (m.still F2) 1 (.t [.c (.v (Po Q)),.c (.v (Bo true))]) Z Z Z Z Z λa3 R=>iN 200 1 [] R Z Z nQ λa4 w4 W=>uk (op:=.binOp .eql 32 (.tmp 18) (.const (Po Q)) 32) (.c (.v (Bo true))) W Z Z Z Zd Z Z Z nQ (λo u ho hu=>?_) λa5 M5=>?_
  .have e:=(W.rd (x:=.tmp 18) (s:=.c (.v (Po Q))) Z).1;unfold Ex;simp only[ho,e];rfl
  refine iN 200 1 [] M5 Z Z nQ λa6 w6 t=>oF t Z Z<|iN 200 1 [] t Z Z nQ λa7 w7 D=>B3 D kh Z Z Z<|m' [] wy 1 w7 D.fit (λ_ _=>rfl) D.hJ.size (λk hk=>D.old k hk Zc) λk _=>D8 k
 obtain⟨L,N,nD,rfl,rfl,rfl,h1,h2,h3,h4,h5⟩:∃L N nD:Nat,x=L/\y=N/\z=nD/\2<=L/\L<=32/\1<=N/\N<=6/\nD<=4:=by
  unfold BW at hm;exact⟨x.toNat,y.toNat,z.toNat,by omega,by omega,by omega,by omega,by omega,by omega,by omega,by omega⟩
 refine A4 m (Tg (T.same (m.old 0 T.lt Zc)) L N nD h1 h2 h3 h4 h5) Z Z Z gX Z Z Z Z Z λv w2 hq=>?_;obtain⟨P,S,κ,rfl,hP,o',h8⟩:=hq;have M2:=(m.got (D:=15) Z (.t [.c (.v (Po (J (O P.bw 0 Q)))),.c (.v (Bo true))]) (λx d=>by simp only[ae,ai,or_false]at d;rcases d with rfl|rfl<;>trivial) (x:=.tuple #[Po (J (O P.bw 0 Q)),Bo true]) Z Z).oO [1,15] Z (tU w2) λk _=>D8 k;refine iN 200 0 [] M2 Z Z nQ λa3 w3 R=>uk (op:=.binOp .eql 32 (.tmp 18) (.const (Po Q)) 32) (.c (.v (Bo false))) R Z Z Z Zd Z Z Z nQ (λo u ho hu=>?_) λa4 W=>?_
 .have e:=(R.rd (x:=.tmp 18) (s:=.c (.v (Po (J (O P.bw 0 Q))))) Z).1;unfold Ex;simp only[ho,e];rfl
 refine iN 200 0 [] W Z Z nQ λa5 w5 M5=>oC M5 Z Z<|iN 16 0 [] M5 Z Z nQ λa6 w6 t=>?_;have h6:=λr=>(hP r).grown t.hJ;have D:=t.oV 0 [1,7,8,9,29] Z Z
 have M8:=(h6 0).pm.px (env:=zF f n A 0) (h6 0).fit (h6 0).co.soft D.lv (λp hp=>by
  simp only[zF,ae,ai,or_false]at hp
  rcases hp with rfl|rfl|rfl|rfl|rfl<;>first|trivial|exact cG)
 have p':yn w1 f n:=λi h=>by
  let⟨g,o,k,s,c,b0,b1,b2,o0,o1,o2,b,e,lg,hr,q⟩:=hS i h;exact⟨g,o,k,s,c,b0,b1,b2,o0,o1,o2,b,e,Zg lg F.size,λj v hv=>(Zf (w:=w) (F.old g lg Zc)).trans (hr j v hv),q⟩
 refine Qt p' hn (λl K L' q' nG w' co hL o8 z8=>?_) n 0 [] tY wy 1 κ S _ a6 w6 Za (h6 n) (h8.kept (G7.hJ (G7.refl _ _ _ _) t.hJ)) M8;refine m' l q' nG w' co.env.fit (λg hg=>?_) (Zh F.size z8) (λk hk=>(o8 k (Zg hk F.size)).trans (F.old k hk Zc)) co.soft;rw[co.none g hg (hL g),o']
theorem VK{P:Go.Program}{a:mR}{b:Fm'}{d:List bm}{w:Wd}(e:b.kind=.normal)(g:p.defers=[])(h:P.funcs[b.fn]?=J a)(k:P.inits.idxOf? b.fn=Q)(c:ResultsC P a p.tmps o) :
  bH P true (G { b.at p d with mode:=.returning } []) w=.ended (.done o) w #[]:=by
 simp[G,bH,unwind,doReturn,Frame.at,e,g,h,k,(c w).1,(c w).2,seen,fj]
theorem b7B(b d:Vu):∃a c,ay V 5 #[b,d] .normal=(base 5).at a [.code c]/\Tryz.f5.body=J c/\qe 8 [(0,b),(1,d)] a:=by
 obtain⟨c,g⟩:∃c,Tryz.f5.body=J c:=⟨_,Z⟩;refine⟨_,c,enter_at (c:=c) _ Tryz.func5 g,g,?_⟩;have e:Tryz.f5.ntmps=8:=by kernel_rfl
 refine⟨by simp[e],Z,λp h=>?_⟩
 grind
theorem Qk(W:Wd)(T:qJ W)(x y z:Int)(u:-9223372036854775808<=x/\x<9223372036854775808)(hy:-9223372036854775808<=y/\y<9223372036854775808)(f:Option cC)(n A:Nat)(hn:n<=1048576)(hS:yn W f n) :
  ∃N P o w' t',runNT V (N+1) (solo (G (ay V 5 #[.agg #[vi x,vi y,vi z],.slice f n A] .normal) []) W) #[]=(.ended o w',t')/\runN V N (solo (G (ay V 5 #[.agg #[vi x,vi y,vi z],.slice f n A] .normal) []) W)=.next P/\step V P=.ended o w' /\
   kx V (λv w'=>(v=Bo true/\W.heap.size<=w'.heap.size/\∀k,k<W.heap.size->w'.heap[k]?=W.heap[k]?)/\tn W w') P o w' t':=by
 let⟨a,c,e,hc,hA⟩:=b7B (.agg #[vi x,vi y,vi z]) (.slice f n A);rw[e];refine c5R (Post:=λv w'=>v=Bo true/\W.heap.size<=w'.heap.size/\∀k,k<W.heap.size->w'.heap[k]?=W.heap[k]?) (tH ?_);have M:fx (fb []) [] 0 W [] [] 8 [(0,.g [ci x,ci y,ci z]),(1,.c (.v (.slice f n A)))] a W:=by
  refine⟨hA,λe he=>(by cases he),λp hp=>?_,λi h=>(by cases h),λi j h=>(by cases h),λi _ h=>(by cases h),af _,λ_ _ _=>rfl,tU W,λk _=>D8 k⟩;simp only[ae,ai,or_false]at hp;rcases hp with rfl|rfl
  .intro x u;simp only[ae,ai,or_false]at u;rcases u with rfl|rfl|rfl<;>trivial
  .trivial
 obtain rfl:_=c:=Ze ((show Tryz.f5.body=J _ from Z).symm.trans hc);refine sq 200 0 [] M Z Z nQ λa1 D bc R=>?_;have m:=R.hJ;have l':yn D f n:=λi h=>by
  let⟨g,o,k,s,c,b0,b1,b2,o0,o1,o2,b,e,lg,hr,q⟩:=hS i h;exact⟨g,o,k,s,c,b0,b1,b2,o0,o1,o2,b,e,Zg lg m.size,λj v hv=>(Zf (w:=W) (m.old g lg Zc)).trans (hr j v hv),q⟩
 refine xW (vs:=[.agg #[vi x,vi y,vi z],.slice f n A,Bo true]) (Post:=λv w' e=>v=Bo true/\∃l t F,e=(fb l,X V (Im V λv w'=>v=Bo true/\W.heap.size<=w'.heap.size/\∀k,k<W.heap.size->w'.heap[k]?=W.heap[k]?) l t F 0)/\Fit (fb l) w'/\(∀g,g≠0->t g=Q)/\D.heap.size<=w'.heap.size/\(∀k,k<D.heap.size->w'.heap[k]?=D.heap[k]?)/\∀k,w'.heap.size<=k->fb l k=0) R (λn' o' S=>Rr (T.same (m.old 0 T.lt Zc)) u hy l' hn λl t F w' q1 q2 q3 q4 q5=>S _ w' _ ⟨Z,l,t,F,Z,q1,q2,q3,q4,q5⟩) Z Z Z kh Z Z Z Z λv w2 e hq=>?_;obtain⟨rfl,l,t,F,rfl,q1,q2,q3,q4,q5⟩:=hq;have M2:=(R.got (D:=7) Z (.c (.v (Bo true))) nQ (x:=Bo true) Z Z).oO [7] Z q1 q5;refine iN 200 0 [] M2 Z Z nQ λa3 w3 L=>uL<|λd=>.stop ?_;have h4:a3.tmps.getD 4 Ud=Bo true:=by
  have:=L.lv.at (t:=4) Z;simp only[Sv.den,ou.den]at this;simp[this]
 have m':ResultsC V mC a3.tmps (Bo true):=by
  rw[←h4];exact kT Zd _
 refine Sk (v:=Bo true) Z (λd'=>VK Z L.lv.defers Tryz.func5 Zd m') (λd'=>⟨Z,?_,λk S=>?_⟩) q2
 .show W.heap.size<=w3.heap.size;have:=m.size;have:=L.hJ.size;omega
 .have z:=m.size;show w3.heap[k]?=W.heap[k]?;rw[L.old k Za Zc,q4 k Za,m.old k S Zc]
end
section
open Go.ChangeShapes Go.WideShapes Go.ChangeAt Go.Deep
theorem Ea:V.cellsOf 3=1:=by kernel_rfl
theorem VI:V.cellsOf 27=3:=by kernel_rfl
theorem Ok:V.cellsOf 29=10:=by kernel_rfl
theorem XQ:V.cellsOf 23=3:=by kernel_rfl
variable{H:Type}{u:Ti×Vu->H}{w:Wd}{base:Nat}{y:Nat->Bool}{l:Bool}{f:Nat}{d:List Vu}{x:DataW H×List MemPlace}
theorem Z9(h:iZ u V w base y l f 3 [n]=J x):∃a,n=Y U a/\-9223372036854775808<=a/\a<9223372036854775808:=by
 let⟨a,b,_,c⟩:=ky gR h;simp only[fK,and_true]at b;refine⟨a,b,?_⟩;simp only[Lit.wf,aC,decide_eq_true_eq]at c;have e:IntKind.i64.min=-9223372036854775808:=by decide
 have g:IntKind.i64.max=9223372036854775807:=by decide
 rw[e,g]at c;omega
theorem LH{e g i:Field}{t:Ti}(s:V.underlying t=J (.struct #[e,g,i]))(j:V.cellsOf t=3)(o:e.type=3/\e.offset=0)(p:g.type=3/\g.offset=1)(q:i.type=3/\i.offset=2)(h:iZ u V w base y l f t d=J x):∃a b c,d=[Y U a,Y U b,Y U c]/\(-9223372036854775808<=a/\a<9223372036854775808)/\(-9223372036854775808<=b/\b<9223372036854775808)/\(-9223372036854775808<=c/\c<9223372036854775808):=by
 let⟨A,B,C,n,_,r,k,m,t2⟩:=trod_struct3 s h;rw[j]at r
 match d,r with
 | [c0,c1,c2],_ =>
  rw[o.1,o.2,Ea]at k;rw[p.1,p.2,Ea]at m;rw[q.1,q.2,Ea]at t2;simp only[List.drop,List.take]at k m t2;obtain⟨a,rfl,v⟩:=Z9 k;obtain⟨b,rfl,z⟩:=Z9 m;obtain⟨c,rfl,j⟩:=Z9 t2;exact⟨a,b,c,Z,v,z,j⟩
theorem b5K(h:iZ u V w base y l f 23 d=J x):∃a b c,d=[Y U a,Y U b,Y U c]/\(-9223372036854775808<=a/\a<9223372036854775808)/\(-9223372036854775808<=b/\b<9223372036854775808)/\(-9223372036854775808<=c/\c<9223372036854775808) :=
 LH Tryz.underlying23 XQ ⟨Z,Z⟩ ⟨Z,Z⟩ ⟨Z,Z⟩ h
theorem Jj{x:cC}{v:Vu}(h:k.cell? (x.add a)=J v):k.cell? (O x.block (x.off+a) Q)=J v/\(x.add a).spot=none:=by
 have c:=World.cell?_spot h;refine⟨?_,c⟩;let⟨b,o,s⟩:=x;unfold kS at h c;split at h
 .rename_i e;subst e;simp at c;subst c;simpa using h
 .simpa using h
theorem TI(h:iZ u V w base y l f 29 d=J x):∃k s c j o p a g i b,d=Ci k s c j o p a g i b/\(-9223372036854775808<=c/\c<9223372036854775808)/\-9223372036854775808<=a/\a<9223372036854775808:=by
 let⟨D,n,_,_,q,E,e⟩:=DataW.trod_struct Tryz.underlying29 h;rw[Ok]at q
 match D,E,d,q with
 | [y0,y1,y2,y3,y4,y5],_,[c0,c1,c2,c3,c4,c5,c6,c7,c8,c9],_ =>
  have r:=e 0 _ Z;have t:=e 1 _ Z;have t2:=e 2 _ Z;have v:=e 3 _ Z;have z:=e 4 _ Z;have A:=e 5 _ Z;simp only[List.getElem?_cons_zero,List.getElem?_cons_succ]at r t t2 v z A;obtain⟨k,rfl,_⟩:=Z9 r;obtain⟨s,rfl,_⟩:=Z9 t;obtain⟨c,rfl,F⟩:=Z9 t2;let⟨S,T,W,m,_,I,K,L⟩:=trod_array3 Tryz.underlying25 Ea v;obtain⟨j,rfl,_⟩:=Z9 I;obtain⟨o,rfl,_⟩:=Z9 K;obtain⟨p,rfl,_⟩:=Z9 L;let⟨a,g,i,N,P,_⟩:=LH Tryz.underlying27 VI ⟨Z,Z⟩ ⟨Z,Z⟩ ⟨Z,Z⟩ z;let⟨b,R,_⟩:=DataW.trod_bool Tryz.underlying4 A;have B:[c6,c7,c8]=[Y U a,Y U g,Y U i]:=N;have C:[c9]=[Bo b]:=R;simp only[fK,and_true]at B C;obtain⟨rfl,rfl,rfl⟩:=B;subst C;exact⟨k,s,c,j,o,p,a,g,i,b,Z,F,P⟩
theorem b7T(h:iZ u V w base (λ_=>true) l f 24 [n]=J x):∃a z c,n=.slice a z c/\yn w a z/\((x.1=.nil/\z=0)\/∃R L,x.1=.slice R L/\z<=R.length):=by
 rcases open_slice Tryz.underlying24 h with⟨A,a'⟩|⟨a,b',e',m,z,D,Pl,A,_,hl,hm,S,c',T⟩
 .simp only[fK,and_true]at A;exact⟨Q,0,0,A,λi N=>by omega,bT ⟨by rw[a'],Z⟩⟩
 .simp only[fK,and_true]at A;simp only[if_true]at S;subst S;refine⟨J a,b',m,A,λi N=>?_,ba ⟨_,_,by rw[c'],by simp⟩⟩;rw[Ok]at T;have W:∀i,i<m->∃v,(∀j,j<10->w.cell? ((a.add (i*10)).add j)=v[j]?)/\∃k s c B C E t F I b,v=Ci k s c B C E t F I b/\(-9223372036854775808<=c/\c<9223372036854775808)/\-9223372036854775808<=t/\t<9223372036854775808:=λi N=>by
   let⟨v,h1,h2⟩:=T i N;let⟨_,_,K⟩:=World.cells?_some h1;exact⟨v,K,TI h2⟩
  have L:a.spot=none:=by
   obtain⟨v,K,k,s,c,B,C,E,t,F,I,b,rfl,_⟩:=W 0 Za;have:=K 0 Za;have P:=(Jj (v:=Y U k) this).2;let⟨p,q,r⟩:=a;simpa[kS] using P
  let⟨g,o,r⟩:=a;obtain rfl:r=none:=L;obtain⟨v,K,k,s,c,B,C,E,t,F,I,b,rfl,d'⟩:=W i Za;have G:w.rangeAt g (o+i*10) (Ci k s c B C E t F I b):=λj n M=>by
   have hj:j<10:=by
    have:=(bj.1 M).1;exact this
   have e:=K j hj;rw[M]at e;have:=(Jj e).1;have X:(((O g o Q):cC).add (i*10)).block=g/\(((O g o Q):cC).add (i*10)).off=o+i*10:=by
    unfold kS;split
    .rename_i P;simp at P ⊢;omega
    .simp
   rw[X.1,X.2]at this;exact this
  refine⟨g,o,k,s,c,B,C,E,t,F,I,b,Z,aL w (O g (o+i*10+0) Q) (G 0 _ Z),G,d'⟩
end
end
end Go.Proofs.YtcgabodkegcpgaaGreatDoor