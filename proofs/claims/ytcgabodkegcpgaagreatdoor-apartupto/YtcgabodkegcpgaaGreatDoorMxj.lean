/- Walking code by a function that knows memory: regions in whatever order, the law. -/
import Derived.Test.YtcgabodkegcpgaaGreatDoorAaa
import Derived.Test.YtcgabodkegcpgaaGreatDoorIvb
import Derived.Deep.QuietTactic
import Derived.BigQuiet
import Derived.Deep.AppendLies
import Derived.Deep.RegionLaw
import Derived.Test.YtcgabodkegcpgaaGreatDoorKer
import Derived.Deep.MidRow
import Derived.Conc.QuitsD
import Derived.Conc.Own2
set_option linter.unusedVariables false
set_option linter.unusedSimpArgs false
set_option maxHeartbeats 20000000
set_option maxRecDepth 100000
open Option renaming some->J,none->Q,none->G',map_some->aD,getD_some->cU,map_eq_some_iff->dC
open Go.Proofs.Tryz renaming prog->V,prog->J',func117->cQ,func107->dr,func114->eI,func126->fD,f88->fJ,func112->gM,func125->iW,func124->iX,func122->iY,func120->iZ,func119->ja,func116->jb,func115->jc,func113->jd,func106->jm,underlying82->jD,func123->kT,func121->kU
open Go renaming World->Wd,Value->Vu,undef->Ud,Frame->Fm',Goroutine->Gr,TypeId->Ti,execOp->Ex,Program->Pg,Calls->aF,Oper->aL,Operand->aS,Item->bh,FuncId->bC,stepG->bF,Addr->cx,heap_alloc_new->cC,Act->cZ,results->de,Event->dn,Value->dM,yielded->fh,ResultVar->fj,exitTo->fI,wpList_load_mid->fL,Machine->gW,TypeInfo->ig,wpList->iR,maxLen->iT,Act->jh,Code->jj,events_store->jl,commResult->km,method->kJ,Trace->lT
open Go.Value renaming int->Y,pointer->Po,slice->Sc,bool->Bo,slice->di,int->dL,cells->fY,oneCell'->jV
open Go.IntKind renaming i64->U
open Go.Addr renaming mk->O,add_mid->eG
open List renaming mem_cons->ae,mem_cons_of_mem->ah,not_mem_nil->aj,mem_cons_self->ao,range->aO,all_eq_true->aT,size_toArray->aY,getElem?_eq_getElem->bj,length_map->br,getElem?_eq_some_iff->bD,getElem?_map->bO,append_nil->cy,mem_singleton->cz,getD_eq_getElem?_getD->cG,length_cons->cI,mem_of_getElem?->cN,getElem?_range->cW,map_cons->cX,mem_append_right->da,map_toArray->dq,mem_filter->dx,mem_map->dA,eq_nil_of_length_eq_zero->dI,mem_toArray->dU,length_eq_zero_iff->eA,map_nil->eE,getElem?_take->eO,nil_append->eP,mem_range->eQ,getElem?_eq_none->eX,mem_append_left->fK,push_toArray->gp,getElem?_append_left->gC,length_drop->gO,getElem?_of_mem->hY,length_take->jq,append_assoc->jr,any_eq_true->ju,length_nil->kC,getElem?_append_right->la,length_filter_le->lz,filter_append->mJ,getElem?_set->mT
open Nat renaming le_refl->af,zero_add->aE,beq->aG,add_assoc->aP,zero_le->aW,lt_or_ge->bQ,blt->cE,zero_lt_one->eH,le_of_eq->fF,ble->fS,not_lt_zero->ik,lt_irrefl->iA,add_mul->iH,mul_le_mul_right->jF,zero_mul->jY,lt_of_succ_lt_succ->mI,le_of_ble_eq_true->mQ
open Go.ConcN renaming upd->ai,upd_ne->az,upd_same->aH
open Go.RowKit renaming Hid->ar,Below->bE,intOf->bT
open Prod.mk renaming inj->ax,injEq->cR
open Go.Frame renaming enter->ay,finish_at->bI
open Ne renaming symm->aA
open Bool renaming and_eq_true->aB,false_eq_true->aI,or_eq_true->cY
open Go.World renaming cell?->aC,block_lt_of_cell?->aK,frozen?->bR,setCell->cO,ownsRow_nil->dc,setChan->dh
open Go.RowKit.Below renaming heap_alloc->aJ,refl->bz
open Go.Sem renaming runT->aM,run_bind->bH,run_pure->eh,runT_fst->jf
open Go.Result renaming andThen_ok->aN
open Go.Conc renaming base->aQ,served->bG,mem_listed->cA,goes_oper_k->eV,Seat->eZ,stepG_cond->fN,closeEvents->gU,goes_go->iK,ds_none->iL,baseD->iM,listed->me
open Go.Builtin renaming nextslicecap->aR,zeroCells->lZ,append_->mm
open Go.Region renaming ready->aU,wanted->bM,binds->cM
open Go.CallKind renaming normal->aV
open Array renaming getD_eq_getD_getElem?->aX,getElem?_eq_getElem->bg,replicate->bY,getElem?_setIfInBounds_ne->cV,getElem?_setIfInBounds->fg,toList_map->gE,toArray_toList->ma
open Or renaming inr->ba,inl->bP
open Option.some renaming injEq->bm
open Go.Conc.Goes renaming step->cK
open Go.stepG renaming apply->dg
open Go.Act renaming eval->dj,put->dG
open Go.Instr renaming fill->dJ,index->fW,sureAddr->il,buildSlice->jB
open Inhabited renaming default->dR
open Go.GStep renaming after->eY
open Go.Conc.Seat renaming one_has->gN,one->mE
namespace Go.Proofs.YtcgabodkegcpgaaGreatDoor
open Go.Conc Go.RowKit
variable{a b c d e:Nat}{f h i:Wd}{j k l m n:Vu}{o p:Array Vu}{q:List Nat}{r s:Bool}{t:Fm'}{u:List Int}{v w:aL}{x y:aa}{z A:aS}{B C:Ti}{D E:jj}{F:Option Nat}{H:List ng}{I K:Mem}{L N:Int}{P:Func}{R:Array Bool}{S T:l9}{W:cZ}
def qO(b:ou)(a:List (Option Sv))(i:Nat):dM:=match pM a i with
 | some s=>s.den b
 | none=>Ud
variable{sft:Nat->Nat}{W:List Nat}{ro:Nat}{w0 w:Wd}{ρ:ou}{sz:Nat}{s:Sm}{a:cZ}{ops:Array aL}{B:Bool}{Stop:Gr->Wd->Prop}{f:bC}{k:List bh}{u:List Fm'}
structure ZU (sft:Nat->Nat) (W:List Nat) (ro:Nat) (w0:Wd) (ρ:ou) (m0:Mem) (sz:Nat) (ops:Array aL) (V:List (Option Sv)) (S:qX) (base:Array Vu) (listed:Array Bool) (x:cZ×Wd):Prop where
 qB:oU ops (qO ρ V) base listed x.1
 oO:fx sft W ro w0 ρ m0 sz [] x.1 x.2
 ok:∀j,listed.getD j false=true->∀s,pM V j=J s->s.ok ρ.length
 kn:∀e∈S,(x.2.cell? (O ((nJ ρ e.2.1).1) ((nJ ρ e.2.1).2+e.2.2.1) Q)).isSome=true
 st:∀e∈S,listed.getD e.1 false=true->e.2.1<ρ.length/\e.2.2.2.ok ρ.length/\x.2.cell? (O ((nJ ρ e.2.1).1) ((nJ ρ e.2.1).2+e.2.2.1) Q)=J (e.2.2.2.den ρ)
theorem vK{listed:Array Bool}(h:(listed.setIfInBounds b true).getD c false=true):c=b\/listed.getD c false=true:=by
 by_cases e:b=c
 all_goals simp_all
theorem DX{d:List (Option Sv)}{s:Sv}(h:pM (d.take b) c=J s):pM d c=J s:=by
 rw[wM]at h ⊢
 grind
theorem fx.fewer{m':Mem}{env':l9}(M:fx sft W ro w0 ρ I sz S a w)(c:∀p∈env',p∈S)(d:∀e∈m',e∈I):fx sft W ro w0 ρ m' sz env' a w :=
 ⟨⟨M.lv.size,M.lv.defers,λp b=>by
  let⟨t,v⟩:=p;obtain⟨s,g,rfl⟩:=s7.1 b
  exact M.lv.has _ (s7.2 ⟨s,c _ g,Z⟩)⟩,λe h=>M.ce e (d e h),λp b=>M.wf p (c p b),M.bl,M.ij,M.own,M.size,M.old,M.fit,M.new⟩
theorem fx.act(M:fx sft W ro w0 ρ I sz [] a w){b:cZ}(c:b.tmps.size=a.tmps.size)(d:b.defers=[]):fx sft W ro w0 ρ I sz [] b w :=
 ⟨⟨c.trans M.lv.size,d,λp e=>(by cases e)⟩,M.ce,M.wf,M.bl,M.ij,M.own,M.size,M.old,M.fit,M.new⟩
theorem FC{d:List (Option Sv)}{l:pB}{v:Option Sv}{i:qX}{r:pB×Option Prop}(h:vg w0 W ro b ops I S sz c d l=J (v,i,r)){e:Nat×Nat×Nat×nI}(g:e∈i):e.1=c:=by
 unfold vg at h
 repeat' split at h
 all_goals first
  | (cases h;done)
  | (let⟨_,p⟩:=ax (Ze h);obtain⟨rfl,_⟩:=ax p;cases g;done)
  | (let⟨_,p⟩:=ax (Ze h);obtain⟨rfl,_⟩:=ax p;rcases EB.1 g with⟨j,m,_,rfl⟩|g<;>first|rfl|cases g)
theorem SK{id:Nat}{y' O':pB}{C C':Prop}(M:fx sft W ro w0 ρ I sz S a w)(hn:b=ρ.length)(h:Bn w0 W ro sz ops ⟨I,S,b,y',C⟩=J ⟨K,T,c,O',C'⟩)(hC:C')(hx:c=ρ.length->C->∀R X,fx sft W ro w0 ρ K sz T R X->iv J' B true sft Stop (G ((aQ f).at R k) u) X):iv J' B true sft Stop (G ((aQ f).at a (.code (.region id ops true)::k)) u) w:=by
 unfold Bn at h;simp only at h;split at h
 case h_2=>cases h
 case h_1 V S' orc1 C1 hV0 =>
 split at h
 case h_2=>cases h
 case h_1 m0 hm0 =>
 split at h
 case h_2=>cases h
 case h_1 env1 m1 hE hS1 =>
 injection h with h
 injection h with n h2 h3 h4 h5
 subst n h2 h5;have hx:=hx (by grind);clear h3 h4 hV0;let⟨⟨hC,hV⟩,z'⟩:=hC;simp only[Mq,aB]at z';let⟨⟨⟨⟨c1,c2⟩,c3⟩,c4⟩,c5⟩:=z';have X':∀e∈m0,e∈I:=λe m=>(Gu hm0 e m).resolve_right Zc;have hV:zt w0 W ro b ops m0 S sz ops.size 0 [] [] y' C=J (V,S',orc1,C1):=by rw[←CW ops];exact hV
 let⟨v1,_,_,vc,oj,v4,v5⟩:=Gz (i:=0) Z hV;have hx:=hx (vc hC);simp only[aE]at v1 v4 v5;have M0:fx sft W ro w0 ρ m0 sz S a w:=M.fewer (λ_ h=>h) X';let⟨tm,df⟩:=a;obtain rfl:df=[]:=M.lv.defers;have hone:∀i,i<ops.size->∃v s q L,vg w0 W ro b ops m0 S sz i (V.take i) (oj i)=J (v,s,q,L)/\V[i]?=J v/\An L/\∀e∈s,e∈S':=λi hi=>by
  grind
 have n':∀fuel listed (x:cZ×Wd) m',Ord ops fuel listed m'->ZU sft W ro w0 ρ m0 sz ops V S' tm listed x->iv J' B true sft Stop (G ((aQ f).at x.1 (.inRegion ops m'::k)) u) x.2:=by
  refine Cp (λfu listed x i m' hi g hO A'=>?_) λlisted x hno g=>?_
  .let⟨R,X⟩:=x;have hil:=x9 hi;let⟨v,sl,orq,cq,n,h2,hcq,h3⟩:=hone i hil;have vi:pM V i=v:=by rw[wM,h2];rfl
   have h1o:=n;unfold vg at n;rw[xz]at n;split at n
   case h_2=>cases n
   case h_1 o ho =>
   have p':∀x s,uM ops.toList (V.take i) S sz o x=J s->R.eval x=s.den ρ/\s.ok ρ.length:=λx s P=>by
    unfold uM at P;split at P
    .next t =>
     split at P
     .next E =>
      have B':=wH P;exact⟨g.qB.base (Nd E) (M.lv.has _ (s7.2 ⟨s,B',Z⟩)),M.wf _ B'⟩
     .have n':∀ {l:List Edge},yY ops.toList (V.take i) sz t o l=J s->R.eval (.tmp t)=s.den ρ/\s.ok ρ.length:=by
       intro l
       induction l with
       | nil=>intro h;cases h
       | cons e r ih =>
        intro h;unfold yY at h;split at h
        .next hw =>
         have N:=DX h;let⟨oj,g2,g3,g4,g5⟩:=Dy hw;have F:=k9 hi ho g3;exact⟨g.qB.tmp g2 g4 F (by have:=M.lv.size;simp at this;omega) (by unfold qO;rw[N]),g.ok _ F s N⟩
        .exact ih h
      exact n' P
    .cases Ze P;exact⟨Z,mX⟩
    .cases P
   have D':∀b',A3 ops.toList (V.take i) sz o=J b'->bM o (fh ops R.tmps)=b':=λb' E=>by
    unfold A3 at E;split at E
    .next hg=>rw[B6 hg];exact Ze E
    .next j y hg =>
     rw[xz]at E;split at E
     .next oj N =>
      split at E
      .next t ht =>
       split at E
       .next hw =>
        split at E
        .next x r' =>
         let⟨oj',g2,g3,g4,g5⟩:=Dy hw;have F:=k9 hi ho g3;have H:=g.qB.done j oj t N ht F (by have:=M.lv.size;simp at this;omega);unfold qO at H;rw[DX r']at H;rw[ER hg N ht H];exact Ze E
        .cases E
       .cases E
      .cases E
     .cases E
   have E':∀sv:Sv,v=J sv->sl=[]->sv.ok ρ.length->iv J' B true sft Stop (G ((aQ f).at (R.put o.dst (sv.den ρ)) (.inRegion ops m'::k)) u) X:=λsv H P hok=>by
    have vv:qO ρ V i=sv.den ρ:=by unfold qO;rw[vi,H]
    have ag:=g.qB.put c4 ho vv;refine A' (R.put o.dst (sv.den ρ),X) ⟨ag,g.oO.act (by rw[ag.size,←g.qB.size]) ag.defs,λj N s P=>?_,g.kn,λe m F=>?_⟩
    .rcases vK N with rfl|N
     .grind
     .exact g.ok j N s P
    .rcases vK F with A|F
     .rcases v5 e m with h|⟨j,v',s',_,_,q1,q2,q3,q4⟩
      .cases h
      .have e1:e.1=j:=FC q3 q4
       grind
     .exact g.st e m F
   split at n
   case h_3=>cases n
   case h_1 hw =>
    split at n
    case h_2=>cases n
    case h_1 D hd =>
    obtain⟨rfl,p1⟩:=ax (Ze n);obtain⟨rfl,_⟩:=ax p1;exact G1 ho (D' _ hw) (E' (.c (.v Ud)) Z Z mX)
   case h_2 hw =>
   split at n
   case h_3=>cases n
   case h_1 sv _ cv H =>
    split at n
    case h_2=>cases n
    case h_1 D hd =>
    obtain⟨rfl,p1⟩:=ax (Ze n);obtain⟨rfl,p2⟩:=ax p1;obtain⟨_,rfl⟩:=ax p2;have ov:=λd=>FT (w:=X.at d) p' g.oO.ce g.oO.old H hcq;exact wQ ho (D' _ hw) (by show aV≠.early;decide) (ov 0).1.2 (λd=>(ov d).1.1) (E' sv Z Z (ov 0).2)
   case h_2 j off l _ _ H =>
   have H:=(EM H).resolve_right (λ⟨s,e⟩=>by cases e);split at n
   case h_2=>cases n
   case h_1 hd hg N =>
   obtain⟨rfl,p1⟩:=ax (Ze n);obtain⟨rfl,_⟩:=ax p1;let⟨t,x,y,row,z,sv,hop,r',ht,hy,F,hln,hon⟩:=Jo H;simp only[aB,Nat.ble_eq,Nat.blt_eq]at N;let⟨hj1,k'⟩:=N;rw[hn]at k';let⟨ex,_⟩:=p' _ _ r';let⟨ey,oky⟩:=p' _ _ hy;let⟨ec,okc⟩:=xo (ρ:=ρ) F;let⟨⟨c0,t0,E⟩,hsf⟩:=g.oO.bl j k';have t':∀q L,l[q]?=J L->(i,j,off+q,L)∈S':=λq L hc=>h3 _ (EB.2 (.inl ⟨q,L,hc,Z⟩));refine wS g.oO.lv ho hg hop hd E hsf g.oO.fit ex ey ec (by rw[br,hln];exact(X3 ht).1) (λv H=>?_) (λq A=>?_) λw2 s1 s2 s3 s4 s5 s6=>?_
   .obtain⟨x,hx,rfl⟩:=dA.1 H;exact y8 (aT.1 hon x hx)
   .rw[br]at A;have:=g.kn _ (t' q _ (bj A))
    grind
   .have cin:∀q L,l[q]?=J L->w2.cell? (O ((nJ ρ j).1) ((nJ ρ j).2+(off+q)) Q)=J (L.den ρ):=λq L hc=>by
     grind
    have u':∀i' o',i'<ρ.length->(∀q,q<l.length->¬(i'=j/\o'=off+q))->w2.cell? (O ((nJ ρ i').1) ((nJ ρ i').2+o') Q)=X.cell? (O ((nJ ρ i').1) ((nJ ρ i').2+o') Q):=λi' o' l' A=>by
     by_cases e:i'=j
     .subst e;refine s5 _ ?_;rw[br];rcases bQ o' off with q|q
      .grind
      .rcases bQ o' (off+l.length) with q2|q2
       .exact absurd ⟨Z,by omega⟩ (A (o' - off) Za)
       grind
     .exact Zf (w:=X) (s2 _ (g.oO.ij _ _ l' k' e))
    have ag:=g.qB.put c4 ho (v:=Ud) (by unfold qO;rw[vi]);rw[hd]at ag;refine A' (R,w2) ⟨ag,⟨g.oO.lv,λe m=>?_,g.oO.wf,λq A=>⟨?_,(g.oO.bl q A).2⟩,g.oO.ij,g.oO.own,by rw[s1];exact g.oO.size,λk hk1 hk2=>?_,s6,g.oO.new⟩,λq A s P=>?_,λe m=>?_,λe m F=>?_⟩
    .let⟨g1,g2,g3⟩:=g.oO.ce e m;refine⟨g1,g2,(u' _ _ g1 λq A hc=>?_).trans g3⟩;have:=aT.1 c3 _ (t' q _ (bj A));simp only[Option.isNone_iff_eq_none]at this;refine My (c:=e.2.2) ?_ this
     grind
    .by_cases e:q=j
     .subst e;exact s3
     .rw[s2 _ (g.oO.ij _ _ A k' e)];exact(g.oO.bl q A).1
    .rw[s2 k λe=>?_]
     .exact g.oO.old k hk1 hk2
     .rcases g.oO.own j hj1 k' with q|q
      all_goals grind
    .rcases vK A with rfl|A
     .grind
     .exact g.ok q A s P
    .let⟨L,hc⟩:=Ei c2 e m;have l':=(M.ce _ hc).1
     by_cases A:∃q,q<l.length/\e.2.1=j/\e.2.2.1=off+q
     .grind
     .rw[u' _ _ l' λq q1 q2=>A ⟨q,q1,q2⟩];exact g.kn e m
    .let⟨L,hc⟩:=Ei c2 e m;have l':=(M.ce _ hc).1
     by_cases A:∃q,q<l.length/\e.2.1=j/\e.2.2.1=off+q
     .let⟨q,q1,q2,q3⟩:=A;have ee:=Xf c1 m (t' q _ (bj q1)) q2 q3
      grind
     .rw[u' _ _ l' λq q1 q2=>A ⟨q,q1,q2⟩];rcases vK F with he1|F
      .rcases v5 e m with h|⟨j',v',s',_,_,q1,q2,q3,q4⟩
       .cases h
       .have e1:e.1=j':=FC q3 q4;obtain rfl:j'=i:=by omega
        rw[h1o]at q3;let⟨_,p3⟩:=ax (Ze q3);obtain⟨rfl,_⟩:=ax p3;rcases EB.1 q4 with⟨q,L,p1,p2⟩|h
        all_goals grind
      .exact g.st e m F
  .let⟨R,X⟩:=x;have x':=V6 c5 g.qB.len hno;have L':∀j s,V[j]?=J (J s)->j<ops.size:=λj s h=>by
    grind
   have ev:=Ax hE;refine i8 (hx R X ⟨⟨g.oO.lv.size,g.oO.lv.defers,λp hp=>?_⟩,λe m=>?_,λp hp=>?_,g.oO.bl,g.oO.ij,g.oO.own,g.oO.size,g.oO.old,g.oO.fit,g.oO.new⟩)
   .let⟨t,v⟩:=p;obtain⟨s,n,rfl⟩:=s7.1 hp;rcases ev _ n with⟨j,o,_,g1,g2,g3,g4⟩|⟨g1,g2⟩
    .have H:=g.qB.done j o t g1 g2 (x' j (L' _ _ g4)) (by have:=M.lv.size;simp at this;omega);unfold qO at H;rw[wM,show V[j]?=_ from g4]at H;exact H
    .rw[g.qB.still t λj o ho hd=>?_]
     .exact M.lv.has _ (s7.2 ⟨s,g1,Z⟩)
     grind
   .rcases NB hS1 e m with m|⟨q,m⟩
    .exact g.oO.ce e m
    .have e1:q<ops.size:=by
      rcases v5 _ m with h|⟨j',v',s',_,_,q1,q2,q3,q4⟩
      .cases h
      .have e1:q=j':=FC q3 q4;omega
     exact g.st _ m (x' q e1)
   .rcases ev _ hp with⟨j,o,_,g1,g2,g3,g4⟩|⟨g1,g2⟩
    .exact g.ok j (x' j (L' _ _ g4)) _ (by rw[wM,show V[j]?=_ from g4];rfl)
    .exact M.wf _ g1
 refine λd0=>BO (λt d=>?_) d0
 exact n' _ _ (⟨tm,[]⟩,w) _ (xZ Zd ops t) ⟨oU.start ops _ tm,M0.fewer (λ_ h=>(by cases h)) λ_ h=>h,λj N=>(by rw[W4]at N;cases N),λe m=>(by
  let⟨L,hc⟩:=Ei c2 e m
  rw[(M.ce _ hc).2.2];rfl),λe m F=>(by rw[W4]at F;cases F)⟩ d
def Ah(w0:Wd)(W:List Nat)(ro sz:Nat)(s:Sm):List bh->Option (List bh×Sm)
 | .code (.seq x y)::k=>J (.code x::.code y::k,s)
 | .code .skip::k=>J (k,s)
 | .code (.block id c)::k=>J (.code c::.inBlock id::k,s)
 | .code (.loop c)::k=>J (.code c::.inLoop c::k,s)
 | .code (.exit id)::k=>match fI id k with
  | some d=>J (d,s)
  | none=>Q
 | .code (.region _ ops false)::k=>J (.inRegion ops (aO ops.size)::k,s)
 | .code (.region _ ops true)::k=>match Bn w0 W ro sz ops s with
  | some b=>J (k,b)
  | none=>Q
 | .inBlock _::k=>J (k,s)
 | .inLoop c::k=>J (.code c::.inLoop c::k,s)
 | .inRegion _ []::k=>J (k,s)
 | .inRegion ops (i::L)::k=>match BB w0 W ro ops sz i s with
  | some b=>J (.inRegion ops L::k,b)
  | none=>Q
 | _=>Q
def sr(w0:Wd)(W:List Nat)(ro sz:Nat):Nat->List bh->Sm->List bh×Sm
 | 0,k,s=>(k,s)
 | n+1,k,s=>match Ah w0 W ro sz s k with
  | some (k',s')=>sr w0 W ro sz n k' s'
  | none=>(k,s)
theorem Zp(M:fx sft W ro w0 ρ s.m sz s.env a w)(n:s.n=ρ.length){k j:List bh}{c:Sm}(h:Ah w0 W ro sz s k=J (j,c))(o:c.cond)(l:s.cond->∀e g (p:List Nat),c.n=(ρ++p.map λb=>(b,0)).length->fx sft W ro w0 (ρ++p.map λb=>(b,0)) c.m sz c.env e g->iv V B true sft Stop (G ((aQ f).at e j) u) g) :
  iv V B true sft Stop (G ((aQ f).at a k) u) w:=by
 have d:c.n=s.n->c.m=s.m->c.env=s.env->c.cond=s.cond->iv V B true sft Stop (G ((aQ f).at a j) u) w:=λq r y z=>l (by grind) a w [] (by grind) (by grind);unfold Ah at h;split at h
 .obtain⟨rfl,rfl⟩:=ax (Ze h);exact B5 (d Z Z Z Z)
 .obtain⟨rfl,rfl⟩:=ax (Ze h);exact Cz (d Z Z Z Z)
 .obtain⟨rfl,rfl⟩:=ax (Ze h);exact Ub (d Z Z Z Z)
 .obtain⟨rfl,rfl⟩:=ax (Ze h);exact Qi (d Z Z Z Z)
 .split at h
  .next v =>
   obtain⟨rfl,rfl⟩:=ax (Ze h);exact WD v (d Z Z Z Z)
  .cases h
 .obtain⟨rfl,rfl⟩:=ax (Ze h);exact m8 (d Z Z Z Z)
 .split at h
  .next t m =>
   obtain⟨rfl,rfl⟩:=ax (Ze h);let⟨A,C,D,E,F⟩:=s;let⟨H,I,n1,K,N⟩:=t;exact SK M n m o λq r e g x=>l r e g [] (by simpa using q) (by simpa using x)
  .cases h
 .obtain⟨rfl,rfl⟩:=ax (Ze h);exact Ux (d Z Z Z Z)
 .obtain⟨rfl,rfl⟩:=ax (Ze h);exact b7M (d Z Z Z Z)
 .obtain⟨rfl,rfl⟩:=ax (Ze h);exact i8 (d Z Z Z Z)
 .next ops i L P =>
  split at h
  .next t m =>
   obtain⟨rfl,rfl⟩:=ax (Ze h);exact c6m M n m o l
  .cases h
 .cases h
theorem b8A{w0:Wd}{W:List Nat}{ro sz:Nat}{ops:Array aL}{s d:Sm}(h:BB w0 W ro ops sz b s=J d)(c:d.cond):s.cond:=by
 let⟨m,g,n,i,cond⟩:=s;unfold BB at h;simp only at h
 repeat' split at h
 all_goals first
  | (cases h;done)
  | (have e:=Fg h;rw[e]at c;first|exact(zA c).1|exact c)
  | grind
theorem Uj{w0:Wd}{W:List Nat}{ro sz:Nat}{ops:Array aL}{s b:Sm}(h:Bn w0 W ro sz ops s=J b)(c:b.cond):s.cond:=by
 let⟨m,d,n,e,cond⟩:=s;unfold Bn at h;simp only at h
 repeat' split at h
 all_goals first
  | (cases h;done)
  | (cases Ze h;exact(Gz (i:=0) Z c.1.2).2.2.2.1 c.1.1)
theorem c0u{w0:Wd}{W:List Nat}{ro sz:Nat}{s c:Sm}{k e:List bh}(h:Ah w0 W ro sz s k=J (e,c))(b:c.cond):s.cond:=by
 unfold Ah at h
 repeat' split at h
 all_goals first
  | (cases h;done)
  | (rename_i d;obtain⟨_,rfl⟩:=ax (Ze h);first|exact b8A d b|exact Uj d b|exact b)
  | (obtain⟨_,rfl⟩:=ax (Ze h);exact b)
theorem Lh{w0:Wd}{W:List Nat}{ro sz:Nat}:∀ {n:Nat} {s b:Sm} {k c:List bh},sr w0 W ro sz n k s=(c,b)->b.cond->s.cond
 | 0,s,b,k,c,h,hC=>by obtain⟨_,rfl⟩:=ax h;exact hC
 | n+1,s,b,k,c,h,hC=>by
  unfold sr at h;split at h
  .next d=>exact c0u d (Lh h hC)
  grind
variable{m F:Mem}{env z:l9}{I:List bh}{P:Nat}{C:Prop}
theorem Mg:∀(n:Nat) {s c:Sm} {ρ:ou} {a:cZ} {w:Wd} {k I:List bh},fx sft W ro w0 ρ s.m sz s.env a w->s.n=ρ.length->sr w0 W ro sz n k s=(I,c)->c.cond ->
  (s.cond->∀g i (d:List Nat),c.n=(ρ++d.map λb=>(b,0)).length->fx sft W ro w0 (ρ++d.map λb=>(b,0)) c.m sz c.env g i->iv V B true sft Stop (G ((aQ f).at g I) u) i)->iv V B true sft Stop (G ((aQ f).at a k) u) w
 | 0,s,c,ρ,a,w,k,I,M,hn,h,hC,hx=>by
  obtain⟨rfl,rfl⟩:=ax h;exact hx hC a w [] (by simpa using hn) (by simpa using M)
 | n+1,s,c,ρ,a,w,k,I,M,hn,h,hC,hx=>by
  unfold sr at h;split at h
  .next t o p =>
   by_cases j:o.cond
   .refine Zp M hn p j λv x y d q r=>Mg n r q h hC λ_ A D l E H=>?_;have e:(ρ++d.map λb=>(b,0))++l.map (λb=>(b,0))=ρ++(d++l).map λb=>(b,0):=by simp
    grind
   .exact absurd (Lh h hC) j
  simp_all
theorem mw(n N:Nat)(c:pB)(M:fx sft W ro w0 ρ m sz env a w)(i:N=ρ.length)(h:sr w0 W ro sz n k ⟨m,env,N,c,True⟩=(I,⟨F,z,P,[],C⟩))(j:C)(l:∀d e (g:List Nat),P=(ρ++g.map λb=>(b,0)).length->fx sft W ro w0 (ρ++g.map λb=>(b,0)) F sz z d e->iv V B true sft Stop (G ((aQ f).at d I) u) e):iv V B true sft Stop (G ((aQ f).at a k) u) w :=
 Mg n (s:=⟨m,env,N,c,True⟩) M i h j λ_=>l
theorem ia(n N:Nat)(d:pB)(M:fx sft W ro w0 ρ m sz env a w)(e:N=ρ.length)(h:sr w0 W ro sz n k ⟨m,env,N,d,True⟩=(I,⟨F,z,N,[],C⟩))(g:C)(i:∀b c,fx sft W ro w0 ρ F sz z b c->iv V B true sft Stop (G ((aQ f).at b I) u) c):iv V B true sft Stop (G ((aQ f).at a k) u) w :=
 mw n N d M e h g λb c j l o=>by
  simp_all
theorem sw(n N:Nat)(e:pB)(M:fx sft W ro w0 ρ m sz env a w)(g:N=ρ.length)(h:sr w0 W ro sz n k ⟨m,env,N,e,True⟩=(I,⟨F,z,N+1,[],C⟩))(i:C)(o:∀c d b,fx sft W ro w0 (ρ++[(b,0)]) F sz z c d->iv V B true sft Stop (G ((aQ f).at c I) u) d):iv V B true sft Stop (G ((aQ f).at a k) u) w :=
 mw n N e M g h i λc d j l p=>by
  obtain⟨b,rfl⟩:=List.length_eq_one_iff.1 (show j.length=1 by simp at l;omega)
  grind
theorem pQ(n N:Nat)(g:pB)(M:fx sft W ro w0 ρ m sz env a w)(j:N=ρ.length)(h:sr w0 W ro sz n k ⟨m,env,N,g,True⟩=(I,⟨F,z,N+2,[],C⟩))(l:C)(q:∀d e b c,fx sft W ro w0 (ρ++[(b,0),(c,0)]) F sz z d e->iv V B true sft Stop (G ((aQ f).at d I) u) e):iv V B true sft Stop (G ((aQ f).at a k) u) w :=
 mw n N g M j h l λd e i o r=>by
  have p:i.length=2:=by simp at o;omega
  match i,p with
  | [b,c],_=>grind
theorem nV(M:fx sft W ro w0 ρ m sz env a w)(h:pJ env A=J (.c (.v (Bo r))))(b:r=true)(c:iv V B true sft Stop (G ((aQ f).at a (.code D::k)) u) w):iv V B true sft Stop (G ((aQ f).at a (.code (.cond A D E)::k)) u) w:=by
 subst b;exact KV (t:=true) (M.rd h).1 c
theorem nR(M:fx sft W ro w0 ρ m sz env a w)(h:pJ env A=J (.c (.v (Bo r))))(b:r=false)(c:iv V B true sft Stop (G ((aQ f).at a (.code E::k)) u) w):iv V B true sft Stop (G ((aQ f).at a (.code (.cond A D E)::k)) u) w:=by
 subst b;exact KV (t:=false) (M.rd h).1 c
def wu:Nat->List Sv->l9
 | _,[]=>[]
 | i,s::r=>(i,s)::wu (i+1) r
theorem x5{s:Sv}:∀ {l:List Sv} {i:Nat},(b,s)∈wu i l->i<=b/\l[b - i]?=J s
 | x::r,i,h=>by
  rcases ae.1 h with h|h
  .grind
  .let⟨c,d⟩:=x5 h
   grind
structure yX (sft:Nat->Nat) (W:List Nat) (ro:Nat) (ρ:ou) (m:Mem) (w:Wd):Prop where
 ce:yJ ρ m w
 bl:∀i,i<ρ.length->(∃c t,w.heap[(nJ ρ i).1]?=J (.cells c t (0,0)))/\sft (nJ ρ i).1=0
 ij:∀i j,i<ρ.length->j<ρ.length->i≠j->(nJ ρ i).1≠(nJ ρ j).1
 own:∀i,ro<=i->i<ρ.length->(nJ ρ i).1∈W
 fit:Fit sft w
 new:∀k,w.heap.size<=k->sft k=0
structure nC (sft:Nat->Nat) (W:List Nat) (w w':Wd):Prop where
 size:w.heap.size<=w'.heap.size
 old:∀k,k<w.heap.size->k∉W->w'.heap[k]?=w.heap[k]?
 fit:Fit sft w'
theorem fx.hJ(M:fx sft W ro w0 ρ m sz env a w):nC sft W w0 w:=⟨M.size,M.old,M.fit⟩
theorem fx.ld(M:fx sft W ro w0 ρ m sz env a w)(i o:Nat){c:nI}(h:qG m i o=J c):w.cell? (O ((nJ ρ i).1) ((nJ ρ i).2+o) Q)=J (c.den ρ):=(M.ce _ (xV h)).2.2
theorem fx.blk(M:fx sft W ro w0 ρ m sz env a w)(i:Nat)(h:cE i ρ.length=true):∃c t,w.heap[(nJ ρ i).1]?=J (.cells c t (0,0)):=(M.bl i (by simpa using h)).1
theorem y7{f:bC}{g:Func}{c:jj}{n:Vu->Wd->Prop}(b:List Sv)(E:yX sft W ro ρ m w)(r:∀s∈b,s.ok ρ.length)(y:V.funcs[f]?=J g)(A:g.body=J c)(D:g.ntmps=sz)(H:fS b.length sz=true)(h:∀Stop d u a,fx sft W ro w ρ m sz (wu 0 b) a w->(∀x o,n x o->iv V B true sft Stop (G (d.finish x) u) o)->iv V B true sft Stop (G ((aQ f).at a [.code c]) (d::u)) w):oL B sft f (b.map (·.den ρ)).toArray w n:=λStop d u K=>by
 let⟨a,e,L⟩:=Hh (env:=qh ρ (wu 0 b)) (args:=(b.map (·.den ρ)).toArray) y A D (by simpa using H) (λp j=>by
  let⟨t,v⟩:=p;obtain⟨s,l,rfl⟩:=s7.1 j;let⟨_,q⟩:=x5 l
  grind)
 rw[e];refine h Stop d u a ⟨L,E.ce,λp j=>?_,E.bl,E.ij,λi l q=>.inl (E.own i l q),af _,λ_ _ _=>rfl,E.fit,E.new⟩ K;let⟨t,s⟩:=p;exact r s (cN (x5 j).2)
theorem fx.upd(M:fx sft W ro w0 ρ m sz env a w)(L:nC sft q w h)(b:Nat)(D:ro<=b)(E:b<ρ.length)(o:∀i,i<ρ.length->i≠b->(nJ ρ i).1∉q)(H:∀k,k∈q->k∈W\/w0.heap.size<=k)(p:∃c t,h.heap[(nJ ρ b).1]?=J (.cells c t (0,0)))(r:∀e∈F,(e∈m/\e.1≠b)\/(e.1=b/\e.2.2.ok ρ.length/\h.cell? (O ((nJ ρ b).1) ((nJ ρ b).2+e.2.1) Q)=J (e.2.2.den ρ))):fx sft W ro w0 ρ F sz env a h:=by
 have l:∀i,i<ρ.length->i≠b->h.heap[(nJ ρ i).1]?=w.heap[(nJ ρ i).1]?:=λi d v=>L.old _ (Q6 M d) (o i d v);refine⟨M.lv,λe x=>?_,M.wf,λi d=>⟨?_,(M.bl i d).2⟩,M.ij,M.own,Zh M.size L.size,λk g j=>?_,L.fit,M.new⟩
 .rcases r e x with⟨g,j⟩|⟨g,j,K⟩
  .let⟨n,y,A⟩:=M.ce e g;exact⟨n,y,(Zf (w:=w) (l _ n j)).trans A⟩
  grind
 .by_cases e:i=b
  .subst e;exact p
  .rw[l i d e];exact(M.bl i d).1
 .rw[L.old k (Zg g M.size) λN=>by grind];exact M.old k g j
theorem fx.still(M:fx sft W ro w0 ρ m sz env a w)(L:nC sft [] w h):fx sft W ro w0 ρ m sz env a h :=
 M.to L.size (λi b=>L.old _ (Q6 M b) Zc) (λk c _=>L.old k (Zg c M.size) Zc) L.fit
def ye(n:Nat):nI->Bool
 | .v _=>true
 | .p i _=>cE i n
def Pd(n:Nat):pY->Bool
 | .c x=>ye n x
 | .g l=>l.all (ye n)
def tt(n:Nat):Sv->Bool
 | .c x=>ye n x
 | .g l=>l.all (ye n)
 | .t l=>l.all (Pd n)
theorem BP{x:nI}(h:ye b x=true):x.ok b:=by
 cases x with
 | v x=>trivial
 | p i o=>exact mQ h
theorem c7s{x:pY}(h:Pd b x=true):x.ok b:=by
 cases x with
 | c x=>exact BP h
 | g l=>exact λy d=>BP (aT.1 h y d)
theorem uO{n:Nat}{x:Sv}(h:tt n x=true):x.ok n:=by
 cases x with
 | c x=>exact BP h
 | g l=>exact λy b=>BP (aT.1 h y b)
 | t l=>exact λy b=>c7s (aT.1 h y b)
def uV(n:Nat)(env:l9):List Nat->Option l9
 | []=>J []
 | t::r=>match tC env t with
  | some s=>match tt n s with
   | true=>match uV n env r with
    | some e=>J ((t,s)::e)
    | none=>Q
   | false=>Q
  | none=>Q
def rP(n:Nat)(m:Mem):List (Nat×Nat)->Option Mem
 | []=>J []
 | (i,o)::r=>match qG m i o with
  | some c=>match cE i n&&ye n c with
   | true=>match rP n m r with
    | some e=>J ((i,o,c)::e)
    | none=>Q
   | false=>Q
  | none=>Q
theorem zJ{env:l9}:∀ {c:List Nat} {z:l9},uV b env c=J z->∀p∈z,p∈env/\p.2.ok b
 | [],z,h,p,hp=>by cases Ze h;cases hp
 | t::r,z,h,p,hp=>by
  unfold uV at h;split at h
  .next s d =>
   split at h
   .next g =>
    split at h
    .next e i =>
     cases Ze h;rcases ae.1 hp with rfl|hp
     .exact⟨wH d,uO g⟩
     .exact zJ i p hp
    .cases h
   .cases h
  .cases h
theorem AW{m:Mem}:∀ {d:List (Nat×Nat)} {F:Mem},rP b m d=J F->∀e∈F,e∈m/\e.1<b/\e.2.2.ok b
 | [],F,h,p,hp=>by cases Ze h;cases hp
 | (i,o)::r,F,h,p,hp=>by
  unfold rP at h;split at h
  .next s g =>
   split at h
   .next c =>
    split at h
    .next e j =>
     cases Ze h;simp only[aB]at c;rcases ae.1 hp with rfl|hp
     .exact⟨xV g,mQ c.1,BP c.2⟩
     .exact AW j p hp
    .cases h
   .cases h
  .cases h
variable{ρ2:ou}
theorem fx.oS(M:fx sft W ro w0 (ρ++ρ2) m sz env a w)(n:Nat)(b:List Nat)(c:List (Nat×Nat))(d:n=ρ.length)(e:uV n env b=J z)(g:rP n m c=J F):fx sft W ro w0 ρ F sz z a w:=by
 subst d;exact M.cut (zJ e) (AW g)
theorem fx.nY(M:fx sft W ro w0 ρ m sz env a w)(n:Nat)(b:List Nat)(c:List (Nat×Nat))(d:n=ρ.length)(e:uV n env b=J z)(g:rP n m c=J F):fx sft W ro w0 ρ F sz z a w :=
 fx.oS (ρ2:=[]) (by grind) n b c d e g
theorem fx.EU(M:fx sft W ro w0 ρ m sz env a w)(v:Sv)(d:c=ρ.length)(e:tt c v=true)(g:cE b sz=true)(h:j=v.den ρ)(i:qA b v env=J z):fx sft W ro w0 ρ m sz z (a.put (J b) j) w:=M.got g v (by rw[←d];exact uO e) h i
theorem E3{B:Bool}{Stop:Gr->Wd->Prop}{f:bC}{k:List bh}{u:List Fm'}(M:fx sft W ro w0 ρ m sz env a w)(n:Nat)(v:Sv)(d:n=ρ.length)(e:tt n v=true)(g:cE b sz=true)(i:j=v.den ρ)(l:qA b v env=J z)(h:∀c,fx sft W ro w0 ρ m sz z c w->iv V B true sft Stop (G ((aQ f).at c k) u) w):iv V B true sft Stop (G ((aQ f).at (a.put (J b) j) k) u) w:=h _ (M.EU v d e g i l)
theorem fx.nm(M:fx sft W ro w0 ρ m sz env a w):fx sft ((ρ.drop ro).map (·.1)) ro w ρ m sz env a w:=by
 refine⟨M.lv,M.ce,M.wf,M.bl,M.ij,λi b c=>.inl ?_,af _,λ_ _ _=>rfl,M.fit,λk e=>M.new k (Zh M.size e)⟩;have g:∀(ρ:ou) (ro i:Nat),ro<=i->i<ρ.length->(nJ ρ i).1∈(ρ.drop ro).map (·.1):=by
  intro ρ
  induction ρ with
  | nil=>grind
  | cons x r d =>
   intro ro i b c
   cases ro with
   | zero=>cases i with
    | zero=>exact ao ..
    | succ i=>exact ah _ (d 0 i (aW _) (mI c))
   | succ ro=>cases i with
    | zero=>cases b
    | succ i=>exact d ro i (Nat.le_of_succ_le_succ b) (mI c)
 grind
theorem vT:∀ {ρ:ou} {ro:Nat},b∈(ρ.drop ro).map (·.1)->∃i,ro<=i/\i<ρ.length/\(nJ ρ i).1=b
 | [],ro,h=>by simp at h
 | y::r,0,h=>by
  rcases ae.1 h with rfl|h
  .exact⟨0,af _,Nat.succ_pos _,Z⟩
  .let⟨i,_,c,d⟩:=vT (ρ:=r) (ro:=0) h;exact⟨i+1,aW _,Nat.succ_lt_succ c,d⟩
 | y::r,ro+1,h=>by
  let⟨i,e,c,d⟩:=vT (ρ:=r) (ro:=ro) h;exact⟨i+1,Nat.succ_le_succ e,Nat.succ_lt_succ c,d⟩
theorem fx.rh{o:cZ}(M:fx sft W ro w0 ρ K sz S o w)(N:fx sft ((ρ.drop ro).map (·.1)) ro w (ρ++ρ2) m sz env a h):fx sft W ro w0 (ρ++ρ2) m sz env a h:=by
 have p:∀i,i<ρ.length->i<(ρ++ρ2).length:=λi b=>by simp;omega
 refine⟨N.lv,N.ce,N.wf,N.bl,N.ij,λi c d=>?_,Zh M.size N.size,λk c d=>?_,N.fit,M.new⟩
 .by_cases l:i<ρ.length
  .rw[R9 ρ ρ2 i l];exact M.own i c l
  .rcases N.own i c d with b|b
   .let⟨j,n,e,g⟩:=vT b;rw[←R9 ρ ρ2 j e]at g;exact absurd g.symm (N.ij i j d (p j e) Za)
   .exact .inr (Zh M.size b)
 .rw[N.old k (Zg c M.size) λb=>?_]
  .exact M.old k c d
  .let⟨j,n,e,g⟩:=vT b;rcases M.own j n e with q|q
   all_goals grind
theorem fx.vB{b:cZ}(M:fx sft W ro w0 ρ K sz S b w)(N:fx sft ((ρ.drop ro).map (·.1)) ro w ρ m sz env a h):fx sft W ro w0 ρ m sz env a h:=by
 have:=M.rh (ρ2:=[]) (by rw[cy];exact N)
 grind
abbrev sv(x:Vu):Sv:=.c (.v x)
abbrev si(x:Int):Sv:=.c (.v (Y U x))
abbrev t2(x y:Int):Sv:=.t [.c (.v (Y U x)),.c (.v (Y U y))]
structure oP (sz:Nat) (env:l9) (a:cZ):Prop where
 lv:pK sz (qh [] env) a
 wf:∀p∈env,p.2.ok 0
def CC(env:l9):List aS->Option (List Sv)
 | []=>J []
 | x::r=>match pJ env x,CC env r with
  | some s,some t=>J (s::t)
  | _,_=>Q
theorem Kv{env:l9}:∀ {l:List aS} {b:List Sv},CC env l=J b->(l.map λx=>(pJ env x).map (·.den []))=(b.map (·.den [])).map J
 | [],_,h=>by cases Ze h;rfl
 | x::r,b,h=>by
  unfold CC at h;split at h
  .next s t c d=>cases Ze h;simp[c,Kv d]
  .cases h
variable{n:Nat}{B:List Nat}{H:y6}{L:Vu}{E:Bool}{i D:Nat}{o:aL}{P:List Nat}{l:List ng}{K:aa}{N:Bool}
section
variable{C:Ctx}{s:j6}
theorem oK.oO(b:oK C l K B H L N E w)(S:oP sz env a):fx (ep l) [] 0 w [] [] sz env a w:=by
 let⟨d,A,g⟩:=b;exact⟨S.lv,λe h=>(by cases h),S.wf,λi h=>absurd h (ik _),λi j h=>absurd h (ik _),λi _ h=>absurd h (ik _),af _,λ_ _ _=>rfl,A.env.fit,λk p=>U7 λo c e=>by have:=KO.lt A.env.ko c;omega⟩
theorem gm(m:Nat)(e:pB){Q:Wd->Prop}(S:oP sz env a)(h:∀w,sr w [] 0 sz m k ⟨[],env,0,e,True⟩=(I,⟨[],z,0,[],Q w⟩))(r:∀l K N w,oK C l K B H L N E w->Q w)(t:∀c,oP sz z c->i9 C n s B H L E (G ((aQ f).at c I) u)):i9 C n s B H L E (G ((aQ f).at a k) u) :=
 X7 (R:=λg j p q=>g=B/\j=H/\p=L/\∃c,oP sz z c/\q=G ((aQ f).at c I) u)
  (λl K N w Stop d v=>ia m 0 e (d.oO S) Z (h w) (r l K N w d) λc x M=>by
   let⟨y,A,R,_⟩:=d.more M.fit M.size (λk h=>M.old k h Zc) (bs:=[]) (λb T=>by cases T) λ_ _=>rfl
   exact v B H L _ x ⟨Z,Z,Z,c,⟨M.lv,M.wf⟩,Z⟩ y A R)
  λg j p q ⟨X,h2,h3,c,c',h4⟩=>by subst X h2 h3 h4;exact t c c'
def PG(b:Nat):nI->nI
 | .v x=>.v x
 | .p _ o=>.v (Po (J (O b o Q)))
def CR(b:Nat):Sv->Sv
 | .c x=>.c (PG b x)
 | s=>s
def wU(b:Nat):l9->l9
 | []=>[]
 | p::r=>(p.1,CR b p.2)::wU b r
def plain:Sv->Bool
 | .c _=>true
 | s=>tt 0 s
theorem Gt{b:Nat}:∀ {env:l9},(env.all λp=>plain p.2&&tt 1 p.2)=true->qh [] (wU b env)=qh [(b,0)] env/\∀p∈wU b env,p.2.ok 0
 | [],_=>⟨Z,λp h=>by cases h⟩
 | (t,x)::r,h=>by
  simp only[List.all_cons,aB]at h;let⟨d,e⟩:=Gt (b:=b) h.2;have:(CR b x).den []=x.den [(b,0)]/\(CR b x).ok 0:=by
   match x,h.1 with
   | .c (.v y),_=>exact⟨Z,mX⟩
   | .c (.p 0 o),_=>exact⟨by simp[CR,PG,Sv.den,nI.den,nJ],mX⟩
   | .c (.p (i+1) o),h=>exact absurd (uO h.2) (by simp[Sv.ok,nI.ok])
   | .g l,h=>exact⟨(Sv.oc (ρ:=[]) (x:=.g l) [(b,0)] (uO (n:=0) h.1)).symm,uO (n:=0) (x:=.g l) h.1⟩
   | .t l,h=>exact⟨(Sv.oc (ρ:=[]) (x:=.t l) [(b,0)] (uO (n:=0) h.1)).symm,uO (n:=0) (x:=.t l) h.1⟩
  exact⟨by simp only[wU,qh,this.1,d],λp c=>by
   rcases ae.1 c with rfl|c
   .exact this.2
   .exact e p c⟩
theorem we(m:Nat)(r:pB){Q:Wd->Prop}{F:Mem}(S:oP sz env a)(h:∀w,sr w [] 0 sz m k ⟨[],env,0,r,True⟩=(I,⟨F,z,1,[],Q w⟩))(X:∀l K N w,oK C l K B H L N E w->Q w)(hn:∀b c t d,b∉B->b≠C.o.bo->(∀o x,qG F 0 o=J x->c[o]?=J (x.den [(b,0)]))->oP sz (wU b z) d->i9 C n s (b::B) (H.set b (.cells c t (0,0))) L E (G ((aQ f).at d I) u))(hp:(z.all λp=>plain p.2&&tt 1 p.2)=true:=by rfl):i9 C n s B H L E (G ((aQ f).at a k) u) :=
 X7 (R:=λv y A R=>∃b c t d,b∉B/\b≠C.o.bo/\(∀o x,qG F 0 o=J x->c[o]?=J (x.den [(b,0)]))/\oP sz (wU b z) d/\v=b::B/\y=H.set b (.cells c t (0,0))/\A=L/\R=G ((aQ f).at d I) u)
  (λl K N w Stop g h'=>sw m 0 r (g.oO S) Z (h w) (X l K N w g) λd T b M=>by
   let⟨c,t,j⟩:=(M.bl 0 (eH)).1;have j:T.heap[b]?=J (.cells c t (0,0)):=j;have d':w.heap.size<=b:=(M.own 0 (af _) (eH)).resolve_left Zc;have e':∀i∈B,i≠b:=λi q e=>by have:=(Zj (g.blk q)).1;omega
   let⟨S1,M1,s1,n1⟩:=g.more M.fit M.size (λk h=>M.old k h Zc) (bs:=[b]) (Hn:=H.set b (.cells c t (0,0))) (λb' f'=>by cases Zi f';exact⟨d',by rw[j,y6.na]⟩) λi q=>y6.lj (e' i q);refine h' _ _ L _ T ⟨b,c,t,d,(n1 b Zc).1,(n1 b Zc).2,λo x hx=>?_,?_,Z,Z,Z,Z⟩ S1 M1 s1
   .simpa[aC,nJ,j] using M.ld 0 o hx
   .let⟨q1,q2⟩:=Gt (b:=b) hp
    exact⟨by rw[q1];exact M.lv,q2⟩)
  λv y A R ⟨b,c,t,d,h1,h2,h3,h4,h5,h6,h7,h8⟩=>by subst h5 h6 h7 h8;exact hn b c t d h1 h2 h3 h4
def Fp(m:Mem):Nat->Nat->Option (List Vu)
 | _,0=>J []
 | o,n+1=>match qG m 0 o,Fp m (o+1) n with
  | some (.v x),some r=>J (x::r)
  | _,_=>Q
theorem CI{m:Mem}{ρ:ou}(b:∀o x,qG m 0 o=J x->p[o]?=J (x.den ρ)):∀ {n o:Nat} {l:List Vu},Fp m o n=J l->∀j v,l[j]?=J v->p[o+j]?=J v
 | 0,o,l,h,j,v,hj=>by cases Ze h;simp at hj
 | n+1,o,l,h,j,v,hj=>by
  unfold Fp at h;split at h
  .next x r c d =>
   cases Ze h
   cases j with
   | zero=>cases Ze hj;exact b o _ c
   | succ j=>have:=CI b d j v hj;rwa [aP,Nat.add_comm 1]at this
  .cases h
theorem nU(m:Nat)(S:oP sz env a)(h:∀w,sr w [] 0 sz m k ⟨[],env,0,[],True⟩=(I,⟨[],z,0,[],True⟩))(c:∀b,oP sz z b->i9 C n s B H L E (G ((aQ f).at b I) u)):i9 C n s B H L E (G ((aQ f).at a k) u) :=
 gm m [] S h (λ_ _ _ _ _=>trivial) c
theorem gt{x y:jj}(S:oP sz env a)(h:pJ env A=J (.c (.v (Bo r))))(b:r=true)(c:i9 C n s B H L E (G ((aQ f).at a (.code x::k)) u)):i9 C n s B H L E (G ((aQ f).at a (.code (.cond A x y)::k)) u) :=
 zC (λl K N w Stop d e=>nV (d.oO S) h b e) c
theorem gu{x y:jj}(S:oP sz env a)(h:pJ env A=J (.c (.v (Bo r))))(b:r=false)(c:i9 C n s B H L E (G ((aQ f).at a (.code y::k)) u)):i9 C n s B H L E (G ((aQ f).at a (.code (.cond A x y)::k)) u) :=
 zC (λl K N w Stop d e=>nR (d.oO S) h b e) c
theorem gf{g:bC}{b:Func}{c:jj}{d:Array aS}{h:Array Ti}{e:List Sv}(S:oP sz env a)(j:ops[i]?=J o)(p:o.guard=Q)(q:o.op=.call { callee:=.value (.func g),args:=d,argTypes:=h })(r:V.funcs[g]?=J b)(t:(b.name== "runtime.NumGoroutine")=false)(v:b.body=J c)(x:CC env d.toList=J e)(y:i9 C n s B H L E (G (ay V g (e.map (·.den [])).toArray .normal) ((aQ f).at a (.inRegion ops (i::P)::k)::u))):i9 C n s B H L E (G ((aQ f).at a (.inRegion ops (i::P)::k)) u) :=
 zC (λl K N w Stop A R=>by
  refine yg j (B6 p) (by show aV≠.early;decide) q r t v ?_
  rw[←ma (xs:=d.map a.eval),gE,Cw (A.oO S) (Kv x)];exact R) y
theorem oP.put(S:oP sz env a)(v:Sv)(q:j=v.den [])(r:tt 0 v=true)(b:cE D sz=true)(h:qA D v env=J z):oP sz z (a.put (J D) j):=by
 have g:=BQ h;subst q;refine⟨⟨by simp[dG,S.lv.size],S.lv.defers,λp c=>?_⟩,λp c=>?_⟩
 .let⟨t,v⟩:=p;obtain⟨x,y,rfl⟩:=s7.1 c;have b:D<sz:=by simpa using b
  rcases g _ y with e|⟨d,A⟩
  .injection e with R T
   subst R T;simp[dG,S.lv.size,b]
  .simp only[dG];rw[cV (aA A)];exact S.lv.has _ (s7.2 ⟨x,d,Z⟩)
 .rcases g _ c with rfl|⟨d,_⟩
  .exact uO r
  .exact S.wf _ d
theorem oP.oS(S:oP sz env a)(d:List Nat)(c:uV 0 env d=J z):oP sz z a :=
 ⟨⟨S.lv.size,S.lv.defers,λp b=>by
  let⟨t,v⟩:=p;obtain⟨s,e,rfl⟩:=s7.1 b
  exact S.lv.has _ (s7.2 ⟨s,(zJ c _ e).1,Z⟩)⟩,λp b=>S.wf p (zJ c p b).1⟩
theorem gk(S:oP sz env a)(c:ops[i]?=J o)(d:o.dst=J D)(v:Sv)(e:j=v.den [])(g:tt 0 v=true)(h:cE D sz=true)(p:qA D v env=J z)(q:∀b,oP sz z b->i9 C n s B H L E (G ((aQ f).at b (.inRegion ops P::k)) u)) :
  i9 C n s B H L E (G (((aQ f).at a (.inRegion ops (i::P)::k)).finish j) u):=by
 rw[bI,c];refine q _ ?_;show oP sz z (a.put o.dst j);rw[d];exact S.put v e g h p
theorem Dc{op:Op}{v:Vu}(S:oP sz env a)(t:ops[i]?=J o)(x:o.guard=Q)(b:o.op=op)(y:qm V (λ_=>false) [] false op=true)(A:o.dst=J D)(R:cE D sz=true)(T:qA D (.c (.v v)) env=J z)(M:∀l K N w d,oK C l K B H L N E w->∀c:aL,c.op=op->(Ex a.eval c).run V (w.at d)=.ok (.value v) (w.at d))(X:∀e,oP sz z e->i9 C n s B H L E (G ((aQ f).at e (.inRegion ops P::k)) u)) :
  i9 C n s B H L E (G ((aQ f).at a (.inRegion ops (i::P)::k)) u) :=
 X7 (R:=λg j p q=>g=B/\j=H/\p=L/\q=G ((aQ f).at (a.put o.dst v) (.inRegion ops P::k)) u)
  (λl K N w Stop r h d=>wQ t (B6 x) (by show aV≠.early;decide) (by rw[b];exact y) (λd=>M l K N w d r o b) (h B H L _ w ⟨Z,Z,Z,Z⟩ r (.refl _ _ _) λi hi=>.inl hi) d)
  λg j p q ⟨h1,h2,h3,h4⟩=>by
   subst h1 h2 h3 h4;rw[A];exact X _ (S.put (.c (.v v)) Z Z R T)
theorem gz{c:Func}{b:List fj}{d:List pY}(S:oP sz env a)(e:V.funcs[f]?=J c)(g:c.results=b.toArray)(j:fS b.length 4=true)(h:uH ⟨[],env,0,[],True⟩ b=J d)(p:i9 C n s B H L E (G (t.finish ((uD d).den [])) u)):i9 C n s B H L E (G ((aQ f).at a (.code .ret::k)) (t::u)) :=
 zC (λl K N w Stop q r=>A9 (q.oO S) e g j h r) p
theorem gn{d:Func}{c:jj}(b:List Sv)(h:V.funcs[f]?=J d)(j:d.body=J c)(q:d.ntmps=sz)(r:fS b.length sz=true)(x:b.all (tt 0)=true)(y:∀a,oP sz (wu 0 b) a->i9 C n s B H L E (G ((aQ f).at a [.code c]) (t::u))):i9 C n s B H L E (G (ay V f (b.map (·.den [])).toArray .normal) (t::u)):=by
 let⟨a,e,A⟩:=Hh (env:=qh [] (wu 0 b)) (args:=(b.map (·.den [])).toArray) h j q (by simpa using r) (λp g=>by
  let⟨S,v⟩:=p;obtain⟨s,R,rfl⟩:=s7.1 g;let⟨_,T⟩:=x5 R
  grind)
 rw[e];exact y a ⟨A,λp g=>uO (aT.1 x _ (cN (x5 g).2))⟩
theorem oK.ck(b:oK C l K B H L N E w){j:Nat}{x:Vu}(h:(R0 C 0 0 L N E)[j]?=J x):so w [] (O C.o.bo j Q) x:=by
 have:=b.wV (d:=w.drawn) h;exact⟨aK _ _ this,by simp,this⟩
theorem oK.rk(c:oK C l K B H L N E w){o:Nat}{t:Ti}{x:List Vu}(d:b∈B)(g:H b=.cells p t (0,0))(h:∀j v,x[j]?=J v->p[o+j]?=J v):vA w [] b o x:=by
 have e:=c.blk d;rw[g]at e;exact⟨(Zj e).1,by simp,λj v q=>by simp[aC,e,h j v q]⟩
theorem oK.bk(c:oK C l K B H L N E w){o:Nat}{t:Ti}(d:b∈B)(g:H b=.cells p t (0,0))(h:p[o]?=J j):so w [] (O b o Q) j:=by
 have e:=c.blk d;rw[g]at e;exact⟨(Zj e).1,by simp,by simp[aC,e,h]⟩
end
section
variable{C:Ctx}
def sx(x:Int):M Int:=(E5 1 0 0 0).bind λr=>M.pure (if r.2≠0 then r.2 else x)
theorem Hu(x:Int){u:List Fm'}{k:Int->Bool->j6}(d:∀e b,i9 C n (k e b) B H L b (G (t.finish (Y U e)) u)) :
  i9 C n ((sx x).then E k) B H L E (G (ay V 126 #[pO C.o,Y U x] .normal) (t::u)):=by
 unfold sx;rw[M.fi];refine gn [sv (pO C.o),si x] fD Z Z Z Z λy S=>nU 20 S (λ_=>rfl) λy S=>gf S Z Z Z cQ Z Z Z<|wB 1 0 0 0 λg e b h=>?_;rw[M.nO];refine gk S Z Z (t2 g e) Z Z Z Z λy S=>nU 20 S (λ_=>rfl) λy S=>?_
 by_cases c:e=0
 .rw[mY (by simpa using c)];refine gu S Z (by simp[c])<|nU 20 S (λ_=>rfl) λy S=>gz S fD Z Z Z ?_;exact d x b
 .rw[mZ c];refine gt S Z (by simp[c])<|nU 20 S (λ_=>rfl) λy S=>gz S fD Z Z Z ?_;exact d e b
end
section
variable{C:Ctx}
def zi(d a b c:Int):List (Int×Int)->Node⊕(Int×Bool×List (Int×Int))
 | []=>.inl (.call d a b c)
 | (x,e)::h=>if e=11 then zi d a b c h else .inr (e,e==3,h)
def J4(d a b c:Int):M Int:=λE h=>if E then .inr (3,true,h) else zi d a b c h
theorem b7a(d a b c:Int)(k:Int->Bool->j6):(J4 d a b c).then E k=(E5 d a b c).then E (λr g=>if r.2=11 then(J4 d a b c).then g k else k r.2 g):=by
 funext h
 cases E with
 | true=>rfl
 | false =>
  cases h with
  | nil=>rfl
  | cons r h =>
   let⟨x,e⟩:=r;unfold M.then J4 E5;simp only[aI,if_false,zi]
   by_cases j:e=11
   .subst j;simp
   .simp[j]
noncomputable def Ue:List bh :=
 match Tryz.f115.body with
 | some (.seq _ (.block i (.loop c)))=>[.code c,.inLoop c,.inBlock i]
 | _=>[]
theorem PZ(r a b c:Int)(A:Fm')(u:List Fm')(k:Int->Bool->j6)(R:Nat)(hb:R∈B){t:Ti}(hH:H R=.cells p t (0,0))(hq:∀j v,[dL .i64 a,Y U b,Y U c][j]?=J v->p[0+j]?=J v):∀n,(∀e d,i9 C n (k e d) B H L d (G (A.finish (Y U e)) u))->∀(E:Bool) x,oP 19 [(0,sv (pO C.o)),(1,si r),(5,sv (Po (J (O R 0 Q))))] x ->
  i9 C n ((J4 r a b c).then E k) B H L E (G ((base 115).at x Ue) (A::u)):=by
 intro n
 induction n using Nat.strongRecOn with
 | _ n ih =>
 intro M E x S;rw[b7a];refine gm 6 [[Y U a,Y U b,Y U c]] S (λ_=>rfl) (λl K N w St=>⟨mX,St.rk hb hH hq⟩) λy S=>gf S Z Z Z cQ Z Z Z<|(λ(T:∀g,g<=n->∀x e d,(e=11->g<n)->i9 C g (if e=11 then(J4 r a b c).then d k else k e d) B H L d (G (Frame.finish ((base 115).at y _) (.tuple #[Y U x,Y U e])) (A::u)))=>JQ r a b c _ _ _ (λX=>T n (af _) 0 3 true (λh=>by omega)) (λX g a' x e d d'=>T g (Nat.le_of_lt a') x e d λ_=>a') λX=>(T n (af _) 0 3 true (λh=>by omega)).2 Z) λg b' x e d c'=>gk S Z Z (t2 x e) Z Z Z Z λy S=>nU 12 S (λ_=>rfl) λy S=>?_
 by_cases q:e=11
 .rw[mZ q];refine gu S Z (by simp[q])<|nU 3 S (λ_=>rfl) λy S=>ih g (c' q) (λe d=>(M e d).less b') d y (S.oS [0,1,5] Z)
 .rw[mY q];refine gt S Z (by simp[q])<|nU 9 S (λ_=>rfl) λy S=>gz S jc Z Z Z ?_;exact(M e d).less b'
theorem PM(d a b c:Int){u:List Fm'}{k:Int->Bool->j6}(h:∀e g,i9 C n (k e g) B H L g (G (t.finish (Y U e)) u)) :
  i9 C n ((J4 d a b c).then E k) B H L E (G (ay V 115 (wZ C.o d a b c) .normal) (t::u)):=by
 refine gn [sv (pO C.o),si d,.g [.v (Y U a),.v (Y U b),.v (Y U c)]] jc Z Z Z Z λx S=>we 7 [] S (λ_=>rfl) (λ_ _ _ _ _=>trivial) λj q v x p y r S=>PZ d a b c t u k j (ao ..) (y6.na) (CI (n:=3) (o:=0) r Z) n (λe g=>ya p (h e g)) E x (S.oS [0,1,5] Z)
end
section
variable{C:Ctx}
def xv(b c:Int):M (Int×Int):=(J4 17 c 0 b).bind λe=>if e≠0 then M.pure (0,e) else E5 18 0 b 0
theorem c0P(c d:Int){u:List Fm'}{k:Int×Int->Bool->j6}(h:∀x e b,i9 C n (k (x,e) b) B H L b (G (t.finish (.tuple #[Y U x,Y U e])) u)) :
  i9 C n ((xv c d).then E k) B H L E (G (ay V 116 #[pO C.o,Y U c,Y U d] .normal) (t::u)):=by
 unfold xv;rw[M.fi];refine gn [sv (pO C.o),si c,si d] jb Z Z Z Z λx S=>nU 20 S (λ_=>rfl) λx S=>gf S Z Z Z jc Z Z Z<|PM 17 d 0 c λe b=>gk S Z Z (si e) Z Z Z Z λx S=>nU 20 S (λ_=>rfl) λx S=>?_
 by_cases g:e=0
 .rw[mY (by simpa using g)];refine gu S Z (by simp[g])<|nU 20 S (λ_=>rfl) λx S=>gf S Z Z Z cQ Z Z Z<|wB 18 0 c 0 λv e b j=>gk S Z Z (t2 v e) Z Z Z Z λx S=>nU 20 S (λ_=>rfl) λx S=>gz S jb Z Z Z ?_;exact h v e b
 .rw[mZ g,M.nO];refine gt S Z (by simp[g])<|nU 20 S (λ_=>rfl) λx S=>gz S jb Z Z Z ?_;exact h 0 e b
end
structure Sl where
 blk:Option Nat
 cap:Nat
 xs:List Int
def Sl.val(s:Sl):dM:=.slice (s.blk.map (O · 0 Q)) s.xs.length s.cap
def Sl.ok(s:Sl)(B:List Nat)(H:y6):Prop:=s.xs.length<=min 40 s.cap/\(s.xs=[]\/∃(b:Nat) (c:Array Vu) (t:Ti),s.blk=J b/\b∈B/\H b=.cells c t (0,0)/\∀(i:Nat) (x:Int),s.xs[i]?=J x->c[i]?=J (Y U x))
theorem W7{x:Int}(b:0<=x)(c:x<1000):IntKind.i64.wrap x=x:=by
 simp[IntKind.wrap,IntKind.bits,IntKind.signed];omega
section
variable{C:Ctx}
def rm(b c:Int):List Int->M Unit
 | []=>M.pure ()
 | p::ps=>(E5 b c p 0).bind λ_=>rm b c ps
def J5(b:Int)(c d:List Int):M (Int×Int):=(rm 10 b c).bind λ_=>(rm 11 b d).bind λ_=>E5 12 b 0 0
noncomputable def Mj(b:Bool):List bh :=
 match b,Tryz.f125.body with
 | false,some (.seq _ (.seq (.seq _ (.block i (.loop c))) r))=>[.code c,.inLoop c,.inBlock i,.code r]
 | true,J (.seq _ (.seq _ (.seq (.seq _ (.block i (.loop c))) r)))=>[.code c,.inLoop c,.inBlock i,.code r]
 | _,_=>[]
theorem Sl.ck{s:Sl}{i:Nat}{x:Int}(h:s.ok B H)(d:s.xs[i]?=J x):∃b,s.val=Sc (J (O b 0 Q)) s.xs.length s.cap/\∀ {l K N w} {L:Vu} {E:Bool},oK C l K B H L N E w->((True/\(0:Int)<=(i:Int)/\(i:Int)<(s.xs.length:Nat))/\so w [] (O b (0+i*1) Q) (Y U x)):=by
 have e:=(bD.1 d).1;let⟨b,c,t,g,j,p,q⟩:=h.2.resolve_left (λh=>by rw[h]at e;simp at e);exact⟨b,by rw[Sl.val,g];rfl,λr=>⟨⟨mX,by omega⟩,by simpa using r.bk j p (q i x d)⟩⟩
theorem Ns(b:Bool)(g:Int)(c v:Sl)(x:c.ok B H)(A:Fm')(u:List Fm'){k:Bool->j6}(T:∀(h:Bool) a,oP 44 [(0,sv (pO C.o)),(1,si g),(3,sv v.val)] a->i9 C n (k h) B H L h (G ((aQ 125).at a (Mj b).tail.tail.tail) (A::u))) :
  ∀(d:List Int) (i:Nat),(∀j,d[j]?=c.xs[i+j]?)->i+d.length=c.xs.length->∀(E:Bool) a,oP 44 [(0,sv (pO C.o)),(1,si g),(3,sv v.val),(14+12*b.toNat,sv c.val),(15+12*b.toNat,si c.xs.length),(16+12*b.toNat,si i)] a ->
  i9 C n ((rm (10+b.toNat) g d).then E λ_=>k) B H L E (G ((aQ 125).at a (Mj b)) (A::u)):=by
 intro d;have c':c.xs.length<=40:=by have:=x.1;omega
 induction d with
 | nil =>
  intro i t r E a S;have r:i=c.xs.length:=by simpa using r
  cases b
  all_goals
   refine nU 5 S (λ_=>rfl) λa S=>gu S Z (by simp;omega)<|nU 1 S (λ_=>rfl) λa S=>T E a (S.oS [0,1,3] Z)
 | cons p d X =>
  intro i t r E a S;simp only[cI]at r;let⟨q,R,ck⟩:=Sl.ck (C:=C) x (i:=i) (x:=p) (by have:=t 0;simpa using this.symm);unfold rm;rw[M.fi];cases b
  all_goals
   refine nU 5 S (λ_=>rfl) λa S=>gt S Z (by simp;omega) ?_;have S':=S;rw[R]at S;refine gm 20 [[Y U p]] S (λ_=>rfl) (λl K N w St=>ck St) λa S=>gf S Z Z Z cQ Z Z Z<|wB _ g p 0 λy e h hg=>gk S Z Z (t2 y e) Z Z Z Z λa S=>nU 7 S (λ_=>rfl) λa S=>?_;rw[←R,W7 Za Za,show((i:Int)+1)=((i+1:Nat):Int) from by simp]at S;refine X (i+1) (λj=>by have:=t (j+1);simp at this;rw[this];congr 1;omega) Za h a ?_
   first|exact S.oS [0,1,3,14,15,16] Z|exact S.oS [0,1,3,26,27,28] Z
theorem IQ(d:Int)(g b:Sl)(h:g.ok B H)(j:b.ok B H){u:List Fm'}{k:Int×Int->Bool->j6}(p:∀x e c,i9 C n (k (x,e) c) B H L c (G (t.finish (.tuple #[Y U x,Y U e])) u)) :
  i9 C n ((J5 d g.xs b.xs).then E k) B H L E (G (ay V 125 #[pO C.o,Y U d,g.val,b.val] .normal) (t::u)):=by
 unfold J5;rw[M.fi];refine gn [sv (pO C.o),si d,sv g.val,sv b.val] iW Z Z Z Z λa S=>nU 14 S (λ_=>rfl) λa S=>Ns false d g b h t u (λc a S=>?_) g.xs 0 Zc Zc E a (S.oS [0,1,3,14,15,16] Z);rw[M.fi];refine nU 9 S (λ_=>rfl) λa S=>Ns true d b b j t u (λc a S=>?_) b.xs 0 Zc Zc c a (S.oS [0,1,3,26,27,28] Z);refine nU 20 S (λ_=>rfl) λa S=>gf S Z Z Z cQ Z Z Z<|wB 12 d 0 0 λy e c q=>gk S Z Z (t2 y e) Z Z Z Z λa S=>nU 20 S (λ_=>rfl) λa S=>gz S iW Z Z Z ?_;exact p y e c
end
def U8(b:List Int)(i j:Nat):List Int:=(b.set i (b.getD j 0)).set j (b.getD i 0)
def W9:Nat->List Int->Nat->Nat->List Int
 | 0,xs,_,_=>xs
 | f+1,xs,i,n =>
  if n<=2*i+1 then xs else
  let j:=if 2*i+2<n/\xs.getD (2*i+2) 0<xs.getD (2*i+1) 0 then 2*i+2 else 2*i+1
  if xs.getD j 0<xs.getD i 0 then W9 f (U8 xs i j) j n else xs
def pD(b:List Int):List Int:=(W9 b.length (U8 b 0 (b.length - 1)) 0 (b.length - 1)).take (b.length - 1)
def BL(c:Array Vu)(b:List Int):Prop:=∀(i:Nat) (x:Int),b[i]?=J x->c[i]?=J (Y U x)
def Ou:Prop:=∀(v:Wd) (p:cx) (b h:Nat) (c:Array Vu) (t:Ti) (d:List Int),p.spot=Q->p.block≠b->d≠[]->d.length<=40->d.length<=h->v.cell? p=J (Sc (J (O b 0 Q)) d.length h)->v.frozen? p=false->v.heap[b]?=J (.cells c t (0,0))->BL c d ->
 aF V 127 #[.iface 190 (Po (J p))] v λe g=>(∃x,e=.returned x)/\∃j,BL j (pD d)/\(pD d).length=d.length - 1/\v.heap.size<=g.heap.size/\g.heap[b]?=J (.cells j t (0,0))/\g.heap[p.block]?=(v.setCell p (Sc (J (O b 0 Q)) (d.length - 1:Nat) h)).heap[p.block]? /\
  ∀k,k<v.heap.size->k≠b->k≠p.block->g.heap[k]?=v.heap[k]?
section
variable{C:Ctx}{s:j6}
theorem At.Oa{l:List ng}{K:aa}{N:Bool}{w:Wd}(A:At C l K B H L N E w){w':Wd}(S:b≠C.o.bo)(v:b∈B)(T:js w' C.bk C.bf C.bs C.bd K)(hF:Fit (ep l) w')(b':w.heap.size<=w'.heap.size)(p:∀k,k<w.heap.size->k≠b->k≠C.o.bo->w'.heap[k]?=w.heap[k]?){x:Obj}(G:w'.heap[b]?=J x){t:Ti}(y:w'.heap[C.o.bo]?=J (.cells (R0 C 0 0 j N E) t (0,0))):At C l K B ((H.set b x).set C.o.bo (.cells (R0 C 0 0 j N E) t (0,0))) j N E w':=by
 have M:∀i∈B,i<w.heap.size:=λi d=>(Zj (A.has i d)).1;let⟨b0,b1,b2,b3,X⟩:=A.own.ap b v;refine⟨⟨T,A.env.oq.same (p 0 A.env.oq.lt (aA X) (aA (A.env.ap _ A.mem).2.2.2.2)),A.env.inv,hF,λo g=>?_,A.env.ap⟩,A.mem,A.own,λi d=>?_,⟨t,y6.na⟩,A.top,A.pC⟩
 .by_cases e:o.bo=C.o.bo
  .let⟨c,R,h,q,h2,h3⟩:=A.env.ko o g;let⟨t2,a'⟩:=A.blk;rw[e,a']at h;obtain⟨rfl,rfl,_⟩:=Obj.cells.inj (Ze h);exact⟨R0 C 0 0 j N E,t,by rw[e];exact y,q,h2,h3⟩
  .let⟨c,R,h,q⟩:=A.env.ko o g;exact⟨c,R,by rw[p _ (KO.lt A.env.ko g) (A.pC b v S o g) e];exact h,q⟩
 .by_cases e:i=C.o.bo
  .subst e;rw[y6.na];exact y
  .rw[y6.lj e]
   by_cases r:i=b
   .subst r;rw[y6.na];exact G
   .rw[y6.lj r,p i (M i d) r e];exact A.has i d
def Fr(c:Option Nat)(B:List Nat)(H:y6)(L:Vu)(d:List Int):Prop:=∃b:Sl,b.blk=c/\L=b.val/\b.xs=d/\b.ok B H
theorem c4r(m':Ou){fb:Option Nat}{xs:List Int}(hF:Fr fb B H L xs)(hx:xs≠[]){u:List Fm'}(hn:∀q X x,Fr fb B q X (pD xs)->(∀i∈B,J i≠fb->q i=H i)->i9 C n s B q X E (G (t.finish x) u)) :
  i9 C n s B H L E (G (ay V 127 #[.iface 190 (Po (J (O C.o.bo 10 Q)))] .normal) (t::u)):=by
 obtain⟨j,rfl,rfl,rfl,i'⟩:=hF;let⟨b,c,S,h1,r,h3,h4⟩:=i'.2.resolve_left hx;have q':=i'.1;have hv:j.val=Sc (J (O b 0 Q)) j.xs.length j.cap:=by simp[Sl.val,h1]
 refine X7 (R:=λj' q X g'=>∃x p,j'=B/\q=H.set b (.cells p S (0,0))/\BL p (pD j.xs)/\(pD j.xs).length=j.xs.length - 1/\X=Sc (J (O b 0 Q)) (j.xs.length - 1:Nat) j.cap/\g'=G (t.finish x) u) (λl K N w Stop St h d=>?_) ?_
 .let⟨q,A,hH⟩:=St;let⟨z1,z2,z3⟩:=A.env.zero;have e':b≠C.o.bo:=(hH b r).1;have n':w.heap[b]?=J (.cells c S (0,0)):=by rw[A.has b (ah _ r),(hH b r).2,h3]
  have k':ep l b=0:=U7 λo ho=>A.pC b (ah _ r) e' o ho;let⟨t2,l'⟩:=A.blk
  refine(xU xn (sft:=ep l) (w0:=w.at d) Zd ⟨A.env.fit.soft,A.env.fit.clear⟩ false (Q:=λx T=>∃v p,Lk (ep l) v (w.at d)/\BL p (pD j.xs)/\(pD j.xs).length=j.xs.length - 1/\v.heap.size<=T.heap.size/\T.heap[b]?=J (.cells p S (0,0)) /\
    T.heap[C.o.bo]?=(v.setCell (O C.o.bo 10 Q) (Sc (J (O b 0 Q)) (j.xs.length - 1:Nat) j.cap)).heap[C.o.bo]?/\∀k,k<v.heap.size->k≠b->k≠C.o.bo->T.heap[k]?=v.heap[k]?)
   (λv y=>(m' v (O C.o.bo 10 Q) b j.cap c S j.xs Z (aA e') hx Za Za ?_ ?_ ?_ h4).mono λe T he=>?_) t u).keep.then ?_
  .rw[y.cell,←hv];exact A.cell Z
  .have:=y.heap C.o.bo;rw[show(w.at d).heap=w.heap from Z,l',Q2 A.mem]at this;simp[bR,this,fz]
  .rw[y.heap,show(w.at d).heap=w.heap from Z,n',k'];rfl
  .grind
  .rintro g R ⟨⟨x,T,rfl,hl',v,p,y,q1,q2,q3,q4,q5,q6⟩,hkp⟩;have r':v.heap.size=w.heap.size:=y.size;have hk:∀k,k<w.heap.size->k≠b->k≠C.o.bo->R.heap[k]?=w.heap[k]?:=λk hk e1 e2=>C5 (w:=w.at d) hkp y hl' (q6 k Za e1 e2);have o':R.heap[b]?=J (.cells p S (0,0)):=by
    have:=hl'.heap b;rw[q4,k']at this
    cases e:R.heap[b]? with
    | none=>grind
    | some o =>
     rw[e,aD]at this;have hs:Obj.nz o:=JE (Ze this).symm mX;rw[xC hs]at this;exact this.symm
   have p':R.heap[C.o.bo]?=J (.cells (R0 C 0 0 (Sc (J (O b 0 Q)) (j.xs.length - 1:Nat) j.cap) N E) t2 (0,0)):=by
    have e2:v.heap[C.o.bo]?=J (.cells (R0 C 0 0 j.val N E) t2 (0,3)):=by
     rw[y.heap,show(w.at d).heap=w.heap from Z,l',Q2 A.mem];rfl
    rw[heap_setCell,mZ Z,e2]at q5;have e3:=hl'.heap C.o.bo;rw[q5,Q2 A.mem]at e3;let⟨c2,t',h'⟩:=hl'.soft C.o.bo (by rw[Q2 A.mem];omega);rw[h']at e3 ⊢;simp only[aD,fz,bm,Obj.cells.injEq]at e3;let⟨e4,e5,_⟩:=e3;rw[←e4,←e5];rfl
   let⟨a0,a1,a2,a3,a4⟩:=A.env.ap _ A.mem;let⟨b0,b1,b2,b3,b4⟩:=A.own.ap b (ah _ r);have hs:w.heap.size<=R.heap.size:=by grind
   have A':=A.Oa e' (ah _ r) (A.env.rep.same hs λk f' h=>hk k f' (by grind) (by grind)) hl'.fit hs hk o' p';refine h B _ _ _ R ⟨x,p,Z,Z,q1,q2,Z,Z⟩ ⟨_,A',λi M=>⟨(hH i M).1,?_⟩⟩ ⟨hs,λk f' h0 _ _ _=>hk k f' (λe=>h0 (by grind)) λe=>h0 (by grind)⟩ (λi M=>.inl M) R.drawn;rw[y6.lj (hH i M).1]
   by_cases e:i=b
   .subst e;rw[y6.na,y6.na]
   .rw[y6.lj e,y6.lj e];exact(hH i M).2
 .rintro j' q X g' ⟨x,p,rfl,rfl,q1,q2,rfl,rfl⟩;refine hn _ _ x ⟨⟨J b,j.cap,pD j.xs⟩,h1.symm,by simp[Sl.val,q2],Z,by grind,.inr ⟨b,p,S,Z,r,y6.na,q1⟩⟩ λi M he=>?_;rw[y6.lj λe=>he (by rw[e,h1])]
end
end Go.Proofs.YtcgabodkegcpgaaGreatDoor
namespace Go.Proofs.YtcgabodkegcpgaaGreatDoor
variable{a b c d e:Nat}{f h i:Wd}{j k l m n:Vu}{o p:Array Vu}{q:List Nat}{r s:Bool}{t:Fm'}{u:List Int}{v w:aL}{x y:aa}{z A:aS}{B C:Ti}{D E:jj}{F:Option Nat}{H:List ng}{I K:Mem}{L N:Int}{P:Func}{R:Array Bool}{S T:l9}{W:cZ}
theorem xF(a:List Int)(i j:Nat):(U8 a i j).length=a.length:=by simp[U8]
theorem NR:∀(f:Nat) (a:List Int) (i n:Nat),(W9 f a i n).length=a.length:=by
 intro f
 induction f with
 | zero=>intro a i n;rfl
 | succ f b =>
  intro a i n;unfold W9;dsimp only;split
  .rfl
  .split<;>split<;>first|rfl|rw[b,xF]
theorem Ag(a:List Int):(pD a).length=a.length - 1:=by
 unfold pD;rw[jq,NR,xF];omega
end Go.Proofs.YtcgabodkegcpgaaGreatDoor
namespace Go.Proofs.YtcgabodkegcpgaaGreatDoor
open Go.RowKit
variable{a b c d e:Nat}{f h i:Wd}{j k l m n:Vu}{o p:Array Vu}{q:List Nat}{r s:Bool}{t:Fm'}{u:List Int}{v w:aL}{x y:aa}{z A:aS}{B C:Ti}{D E:jj}{F:Option Nat}{H:List ng}{I K:Mem}{L N:Int}{P:Func}{R:Array Bool}{S T:l9}{W:cZ}
attribute [local go_sem ↓] Go.wp_at_zero Go.wp_at_succ
theorem Ge{a:Option cx}(n b:Nat):aF V 147 #[.slice a n b] f λe c=>e=.returned (Y U n)/\c=f:=by
 go_enter Tryz.func147,Tryz.ntmps147
 go_wp2_with fail
 go_ret
 exact⟨Z,Z⟩
theorem KL(w:Wd)(b n a i j:Nat)(x y:Int)(d:i<n)(f:j<n)(g:w.cell? (O b i Q)=J (Y U x))(h:w.cell? (O b j Q)=J (Y U y)):aF V 148 #[Sc (J (O b 0 Q)) n a,Y U i,Y U j] w λe c=>e=.returned (Bo (decide (x<y)))/\∃q,c=w.drewN q:=by
 have k:(0:Int)<=(i:Int):=by omega
 have l:(i:Int)<(n:Int):=by omega
 have m:(0:Int)<=(j:Int):=by omega
 have o:(j:Int)<(n:Int):=by omega
 go_enter Tryz.func148,Tryz.ntmps148
 go_wp2_with fail
 go_quiet (fail)
 go_wp2_with fail
 go_ret
 exact⟨Z,_,Z⟩
theorem WO(w:Wd)(b n f i j:Nat)(x y:Int)(l:i<n)(m:j<n)(g:w.cell? (O b i Q)=J (Y U x))(a:w.cell? (O b j Q)=J (Y U y))(c:∀k,w.frozen? (O b k Q)=false):aF V 149 #[Sc (J (O b 0 Q)) n f,Y U i,Y U j] w λe h=>(∃v,e=.returned v)/\∃q,h=((w.setCell (O b i Q) (Y U y)).setCell (O b j Q) (Y U x)).drewN q:=by
 have o:(0:Int)<=(i:Int):=by omega
 have p:(i:Int)<(n:Int):=by omega
 have r:(0:Int)<=(j:Int):=by omega
 have s:(j:Int)<(n:Int):=by omega
 have t:=c i;have u:=c j
 go_enter Tryz.func149,Tryz.ntmps149
 by_cases d:i=j
 .subst d;obtain rfl:x=y:=by rw[g]at a;cases a;rfl
  go_region_with (fail)
  all_goals(go_end0;exact⟨⟨_,Z⟩,1,Z⟩)
 .have z:¬j=i:=λe=>d e.symm
  go_region_with (fail)
  all_goals(go_end0;exact⟨⟨_,Z⟩,1,Z⟩)
theorem UA(p:cx)(c:p.spot=Q)(b n a:Nat)(h:n+1<=a)(i:p.block≠b)(j:f.cell? p=J (Sc (J (O b 0 Q)) (n+1) a))(k:f.frozen? p=false)(l:f.cell? (O b n Q)=J (Y U L))(m:n<1000):aF V 150 #[Po (J p)] f λe d=>(∃v,e=.returned v)/\d=f.setCell p (Sc (J (O b 0 Q)) n a):=by
 let⟨o,q,g⟩:=p;obtain rfl:g=none:=c;have r:(0:Int)<=(n:Int):=by omega
 have s:(n:Int)<((n+1:Nat):Int):=by omega
 have t:(n:Int)<=(a:Int):=by omega
 have u:n<=a:=by omega
 go_enter Tryz.func150,Tryz.ntmps150
 go_wp2_with fail
 go_ret
 exact⟨⟨_,Z⟩,Z⟩
theorem Si(w:Wd)(a:cx):(kJ 324 190 (Po (J a)) "Pop").run V w=.ok (150,Po (J a)) w:=by kernel_rfl
theorem d0e(w:Wd)(a:cx):(kJ 324 190 (Po (J a)) "Push").run V w=.ok (151,Po (J a)) w:=by kernel_rfl
theorem d0d(w:Wd)(a:cx):(kJ 324 190 (Po (J a)) "Len").run V w=(loadVar 139 a >>= λv=>pure (147,v)).run V w:=by kernel_rfl
theorem Hr(w:Wd)(p b:Nat){a:Option cx}(n c:Nat)(d:w.cell? (O p b Q)=J (.slice a n c)):(kJ 324 190 (Po (J (O p b Q))) "Len").run V w=.ok (147,.slice a n c) w:=by
 rw[d0d];have e:V.underlying 139=J (.slice 3):=by kernel_rfl
 simp[go_sem,d,e]
theorem c7V(w:Wd)(a:cx):(kJ 324 190 (Po (J a)) "Less").run V w=(loadVar 139 a >>= λv=>pure (148,v)).run V w:=by kernel_rfl
theorem BZ(w:Wd)(p c:Nat){d:Option cx}(e:w.cell? (O p c Q)=J (.slice d a b)):(kJ 324 190 (Po (J (O p c Q))) "Less").run V w=.ok (148,.slice d a b) w:=by
 rw[c7V];have f:V.underlying 139=J (.slice 3):=by kernel_rfl
 simp[go_sem,e,f]
theorem R6(w:Wd)(a:cx):(kJ 324 190 (Po (J a)) "Swap").run V w=(loadVar 139 a >>= λv=>pure (149,v)).run V w:=by kernel_rfl
theorem HT(w:Wd)(p b:Nat){a:Option cx}(n c:Nat)(d:w.cell? (O p b Q)=J (.slice a n c)):(kJ 324 190 (Po (J (O p b Q))) "Swap").run V w=.ok (149,.slice a n c) w:=by
 rw[R6];have e:V.underlying 139=J (.slice 3):=by kernel_rfl
 simp[go_sem,d,e]
structure Sh (w w':Wd) (b:Nat) (t:Ti) (xs:List Int):Prop where
 size:w'.heap.size=w.heap.size
 xj:∀k,k≠b->w'.heap[k]?=w.heap[k]?
 row:∃c,w'.heap[b]?=J (.cells c t (0,0))/\BL c xs
variable{w w':Wd}{b:Nat}{t:Ti}{xs:List Int}
theorem Sh.cell(h:Sh w w' b t xs){i:Nat}(a:i<xs.length):w'.cell? (O b i Q)=J (Y U (xs.getD i 0)):=by
 let⟨c,d,e⟩:=h.row;have:=e i (xs.getD i 0) (by rw[cG,bj a];rfl);simp only[aC,d];simpa using this
theorem Sh.frozen(h:Sh w w' b t xs)(i:Nat):w'.frozen? (O b i Q)=false:=by
 let⟨c,a,d⟩:=h.row;simp[bR,a]
theorem Sh.qE(h:Sh w w' b t xs)(d:a≠b):w'.cell? (O a c Q)=w.cell? (O a c Q):=by
 simp only[aC,h.xj a d]
theorem Sh.drewN(h:Sh w w' b t xs)(q:Nat):Sh w (w'.drewN q) b t xs:=⟨h.size,h.xj,h.row⟩
theorem Sh.swap(h:Sh w w' b t xs){i j:Nat}(m:i<xs.length)(l:j<xs.length):Sh w ((w'.setCell (O b i Q) (Y U (xs.getD j 0))).setCell (O b j Q) (Y U (xs.getD i 0))) b t (U8 xs i j):=by
 let⟨c,n,d⟩:=h.row;refine⟨by simp[cO];exact h.size,λk f=>?_,(c.setIfInBounds i (Y U (xs.getD j 0))).setIfInBounds j (Y U (xs.getD i 0)),?_,λk x a=>?_⟩
 .rw[heap_setCell,mY λe=>f e.symm,heap_setCell,mY λe=>f e.symm];exact h.xj k f
 .rw[heap_setCell,mZ Z,heap_setCell,mZ Z,n];rfl
 .have o:i<c.size:=(Zj (d i (xs.getD i 0) (by rw[cG,bj m];rfl))).1;have p:j<c.size:=(Zj (d j (xs.getD j 0) (by rw[cG,bj l];rfl))).1;unfold U8 at a;rw[mT]at a;rw[fg];split at a
  .rename_i e;subst e;rw[mZ Z,mZ (by simpa using p)];simp only[List.length_set]at a;rw[mZ l]at a;rw[Ze a]
  .rename_i e;rw[mY e,fg];rw[mT]at a;split at a
   .rename_i g;subst g;rw[mZ Z,mZ o];rw[Ze a]
   .rename_i g;rw[mY g];exact d k x a
structure Dn (w w':Wd) (p po b cap:Nat) (t:Ti) (ys:List Int) (m:Nat):Prop where
 sh:Sh w w' b t ys
 len:ys.length=m
 qE:w'.cell? (O p po Q)=J (Sc (J (O b 0 Q)) m cap)
theorem Ev{w w':Wd}{b:Nat}{t:Ti}(D:Dn w w' a c b d t u e)(i j:Nat)(h:L=i)(k:N=j)(l:i<e)(m:j<e)(n:decide (u.getD i 0<u.getD j 0)=r):aF V 148 #[Sc (J (O b 0 Q)) e d,Y U L,Y U N] w' λf g=>f=.returned (Bo r)/\Dn w g a c b d t u e:=by
 subst h k n;have o:=D.len;refine(KL w' b e d i j _ _ l m (D.sh.cell Za) (D.sh.cell Za)).mono ?_;rintro f g ⟨rfl,q,rfl⟩;exact⟨Z,D.sh.drewN q,D.len,D.qE⟩
theorem JZ{w w':Wd}{b:Nat}{t:Ti}(f:a≠b)(D:Dn w w' a c b d t u e)(i j:Nat)(l:L=i)(m:N=j)(n:i<e)(o:j<e):aF V 149 #[Sc (J (O b 0 Q)) e d,Y U L,Y U N] w' λg h=>(∃v,g=.returned v)/\Dn w h a c b d t (U8 u i j) e:=by
 subst l m;have r:=D.len;refine(WO w' b e d i j _ _ n o (D.sh.cell Za) (D.sh.cell Za) D.sh.frozen).mono ?_;rintro g h ⟨p,q,rfl⟩;have k:=(D.sh.swap (i:=i) (j:=j) Za Za).drewN q;refine⟨p,k,by rw[xF];exact D.len,?_⟩;rw[k.qE f,←D.sh.qE f];exact D.qE
theorem XO(w:Wd)(p k b m n:Nat)(t:Ti)(xs:List Int)(M:p≠b)(P:xs.length<=40)(B:w.cell? (O p k Q)=J (Sc (J (O b 0 Q)) xs.length m))(C:n<=xs.length)(D:Sh w w b t xs) :
  aF V 130 #[.iface 190 (Po (J (O p k Q))),Y U 0,Y U n] w λe w'=>(∃v,e=.returned v)/\Sh w w' b t (W9 xs.length xs 0 n):=by
 go_enter Tryz.func130,Tryz.ntmps130
 go_wp2_with fail
 go_loopw [7] (λs w'=>∃(i f:Nat) (d:List Int),s=Y U i/\i<=40/\Sh w w' b t d/\d.length=xs.length/\W9 f d i n=W9 xs.length xs 0 n/\xs.length<=i+f) λs _=>41 - (bT s).toNat
 case atStart=>exact⟨0,xs.length,xs,Z,by omega,D,Z,Z,by omega⟩
 case round =>
  obtain⟨i,f,d,rfl,R,o,E,j,F⟩:=hrel;have q:IntKind.i64.wrap (2*(i:Int))=2*(i:Int):=W7 Za Za;have r:IntKind.i64.wrap (2*(i:Int)+1)=2*(i:Int)+1:=W7 Za Za;have X:IntKind.i64.wrap (2*(i:Int)+1+1)=2*(i:Int)+2:=W7 Za Za
  by_cases x:n<=2*i+1
  .have g1:(n:Int)<=2*(i:Int)+1:=by omega
   have y:ar (Sh w wr b t (W9 xs.length xs 0 n)):=by
    rw[←j]
    cases f with
    | zero=>exact o
    | succ f=>unfold W9;rw[mZ x];exact o
   clear j F E o C D B
   go_wp2_with fail
   go_ret
   exact⟨⟨_,Z⟩,y.out⟩
  .obtain⟨f,rfl⟩:∃g,f=g+1:=⟨f - 1,by omega⟩;have H:ar (Dn w wr p k b m t d xs.length):=⟨o,E,by rw[o.qE M];exact B⟩;obtain⟨c,z⟩:∃c,c=W9 xs.length xs 0 n:=⟨_,Z⟩;rw[←z]at j;unfold W9 at j;rw[mY x]at j;dsimp only at j;have g1:¬((n:Int)<=2*(i:Int)+1):=by omega
   have g0:¬(2*(i:Int)+1<0):=by omega
   have S:=BZ wr p k H.out.qE;have l:ar (n<=xs.length/\xs.length<=40/\i<=40/\¬n<=2*i+1/\xs.length<=i+(f+1)):=⟨C,P,R,x,F⟩
   by_cases I:2*i+2<n
   focus
    have g2:2*(i:Int)+2<(n:Int):=by omega
    have a':ar True:=trivial
    by_cases A:d.getD (2*i+2) 0<d.getD (2*i+1) 0
    focus
     have T:ar (decide (d.getD (2*i+2) 0<d.getD (2*i+1) 0)=true):=by unfold ar;simpa using A
     rw[mZ (⟨I,A⟩:2*i+2<n/\d.getD (2*i+2) 0<d.getD (2*i+1) 0)]at j;obtain⟨a,K⟩:∃a,a=2*i+2:=⟨_,Z⟩
    rotate_left
    have T:ar (decide (d.getD (2*i+2) 0<d.getD (2*i+1) 0)=false):=by unfold ar;simpa using A
    rw[mY (λh=>A h.2:¬(2*i+2<n/\d.getD (2*i+2) 0<d.getD (2*i+1) 0))]at j;obtain⟨a,K⟩:∃a,a=2*i+1:=⟨_,Z⟩
    all_goals clear A
   rotate_left 2
   focus
    have g2:¬(2*(i:Int)+2<(n:Int)):=by omega
    rw[mY (λh=>I h.1:¬(2*i+2<n/\d.getD (2*i+2) 0<d.getD (2*i+1) 0))]at j;obtain⟨a,K⟩:∃a,a=2*i+1:=⟨_,Z⟩;have L:=H;have l1:=S;have N:ar True:=trivial
   all_goals
    rw[←K]at j;have c':a<d.length:=by omega
    by_cases u:d.getD a 0<d.getD i 0
    .have W:ar (decide (d.getD a 0<d.getD i 0)=true):=by unfold ar;simpa using u
     rw[mZ u]at j;have y:ar (W9 f (U8 d i a) a n=W9 xs.length xs 0 n):=j.trans z;clear z j F E o C D B x I R P u c'
     go_wp2_with (first|(clear a';go_at_call 148;refine(Ev H.out (2*i+2) (2*i+1) Za Za (by have:=l.out;omega) (by have:=l.out;omega) T.out).mono ?_;rintro e q ⟨rfl,D1⟩;have l1:=BZ q p k D1.qE;have L:ar (Dn w q p k b m t d xs.length):=D1;clear D1 S;have N:ar True:=trivial)|(clear N;go_at_call 148;refine(Ev L.out a i Za Z (by have:=l.out;omega) (by have:=l.out;omega) W.out).mono ?_;rintro e r ⟨rfl,D2⟩;have s2:=HT r p k _ _ D2.qE;have G:ar (Dn w r p k b m t d xs.length):=D2;clear D2)|(go_at_call 149;refine(JZ M G.out i a Z Za (by have:=l.out;omega) (by have:=l.out;omega)).mono ?_;rintro e X ⟨⟨v3,rfl⟩,D3⟩;have d':ar (Dn w X p k b m t (U8 d i a) xs.length):=D3;clear D3))
     exact⟨⟨a,f,U8 d i a,by simp[K],by have:=l.out;omega,d'.out.sh,d'.out.len,y.out,by have:=l.out;omega⟩,by have:=l.out;simp[bT];omega⟩
    .have W:ar (decide (d.getD a 0<d.getD i 0)=false):=by unfold ar;simpa using u
     rw[mY u]at j;have y:ar (d=W9 xs.length xs 0 n):=j.trans z;clear z j F E o C D B x I R P u c'
     go_wp2_with (first|(clear a';go_at_call 148;refine(Ev H.out (2*i+2) (2*i+1) Za Za (by have:=l.out;omega) (by have:=l.out;omega) T.out).mono ?_;rintro e q ⟨rfl,D1⟩;have l1:=BZ q p k D1.qE;have L:ar (Dn w q p k b m t d xs.length):=D1;clear D1 S;have N:ar True:=trivial)|(clear N;go_at_call 148;refine(Ev L.out a i Za Z (by have:=l.out;omega) (by have:=l.out;omega) W.out).mono ?_;rintro e r ⟨rfl,D2⟩;have s2:=HT r p k _ _ D2.qE;have G:ar (Dn w r p k b m t d xs.length):=D2;clear D2))
     go_ret
     exact⟨⟨_,Z⟩,by rw[←y.out];exact G.out.sh⟩
theorem Sh.trans{w:Wd}{b:Nat}{t:Ti}{xs:List Int}(a:Sh w f b t xs)(k:Sh f h b t u):Sh w h b t u :=
 ⟨k.size.trans a.size,λi c=>(k.xj i c).trans (a.xj i c),k.row⟩
theorem Sh.FI{w w':Wd}{b:Nat}{t:Ti}{xs:List Int}(h:Sh w w' b t xs)(d:a≠b):w'.frozen? (O a c Q)=w.frozen? (O a c Q):=by
 simp only[bR,h.xj a d]
theorem Sh.base{w w':Wd}{b:Nat}{t:Ti}{xs:List Int}(h:Sh w w' b t xs):Sh w' w' b t xs:=⟨Z,λ_ _=>rfl,h.row⟩
theorem QF{w w':Wd}{b:Nat}{t:Ti}(f:a≠b)(D:Dn w w' a c b d t u e)(k:e<=40)(n:Nat)(l:L=n)(m:n<=e) :
  aF V 130 #[.iface 190 (Po (J (O a c Q))),Y U 0,Y U L] w' λg i=>(∃v,g=.returned v)/\Dn w i a c b d t (W9 e u 0 n) e:=by
 subst l;have o:=D.len;subst o;refine(XO w' a c b d n t u f k D.qE m D.sh.base).mono ?_;rintro g i ⟨p,h⟩;have j:=D.sh.trans h;exact⟨p,j,NR _ _ _ _,by rw[j.qE f,←D.sh.qE f];exact D.qE⟩
theorem c5G:Ou:=by
 intro v p b j c t xs C r s D E u y z A;let⟨a,d,F⟩:=p;obtain rfl:F=none:=C;have g:a≠b:=r;obtain⟨m,n⟩:∃m,xs.length=m+1:=⟨xs.length - 1,by have:xs.length≠0:=λh=>s (eA.1 h);omega⟩;have D0:ar (Dn v v a d b j t xs (m+1)):=⟨⟨Z,λ_ _=>rfl,c,z,A⟩,n,by rw[u,n]⟩;have o:ar (m+1<=40/\m+1<=j/\v.frozen? (O a d Q)=false):=⟨by omega,by omega,y⟩;have H:ar (xs.length=m+1):=n;have G:=Hr v a d _ _ D0.out.qE;have s0:=HT v a d _ _ D0.out.qE;have M:m<1000:=by omega
 have X:=Si;clear z A u y D E s r n
 go_enter Tryz.func127,Tryz.ntmps127
 go_wp2_with (first|(go_at_call 147;refine(Ge _ _).mono ?_;rintro e w0 ⟨rfl,rfl⟩)|(go_at_call 149;refine(JZ g D0.out 0 m Z Za Za Za).mono ?_;rintro e I ⟨⟨v1,rfl⟩,D1⟩;have K:ar (Dn _ I a d b j t (U8 xs 0 m) (m+1)):=D1;clear D1)|(go_at_call 130;refine(QF g K.out o.out.1 m Za Za).mono ?_;rintro e L ⟨⟨v2,rfl⟩,f⟩;have l:ar (Dn _ L a d b j t (W9 (m+1) (U8 xs 0 m) 0 m) (m+1)):=f;clear f)|(go_at_call 150;refine(UA (O a d Q) Z b m j o.out.2.1 g l.out.qE (by rw[l.out.sh.FI g];exact o.out.2.2) (l.out.sh.cell (by have:=l.out.len;omega)) (by have:=o.out.1;omega)).mono ?_;rintro e w3 ⟨⟨v3,rfl⟩,rfl⟩))
 go_ret
 have f:=l.out;have B:=H.out;let⟨N,P,R⟩:=f.sh.row;have S:pD xs=(W9 (m+1) (U8 xs 0 m) 0 m).take m:=by unfold pD;rw[B];rfl
 refine⟨⟨_,Z⟩,N,λi x q=>R i x ?_,Ag xs,?_,?_,?_,λk _ T W=>?_⟩
 .rw[S,eO]at q;split at q
  .exact q
  .cases q
 .simp[cO];exact fF f.sh.size.symm
 .rw[heap_setCell,mY g];exact P
 .rw[heap_setCell,mZ Z,heap_setCell,mZ Z,f.sh.xj a g,B];rfl
 .rw[heap_setCell,mY λe=>W e.symm];exact f.sh.xj k T
theorem UG{w w':Wd}{b:Nat}{t:Ti}(D:Dn w w' a c b d t u e)(i j:Nat)(f:L=i)(g:N=j)(h:i<e)(k:j<e){B:Bool}(l:decide (u.getD i 0<u.getD j 0)=B):aF V 148 #[Sc (J (O b 0 Q)) e d,Y U L,Y U N] w' λm n=>m=.returned (Bo B)/\∃q,n=w'.drewN q:=by
 subst f g l;have o:=D.len;exact KL w' b e d i j _ _ h k (D.sh.cell Za) (D.sh.cell Za)
theorem PX{w w':Wd}{b:Nat}{t:Ti}(D:Dn w w' a c b d t u e) :
  aF V 129 #[.iface 190 (Po (J (O a c Q))),Y U 0] w' λg f=>(∃v,g=.returned v)/\∃q,f=w'.drewN q:=by
 have h:ar (Dn w w' a c b d t u e):=D;clear D
 go_enter Tryz.func129,Tryz.ntmps129
 go_wp2_with fail
 go_loopw [1] (λs f=>s=Y U 0/\f=w') λs _=>0
 case atStart=>exact⟨Z,Z⟩
 case round =>
  obtain⟨rfl,rfl⟩:=hrel
  go_wp2_with fail
  go_end0
  exact⟨⟨_,Z⟩,0,Z⟩
theorem c6M{w w':Wd}{b:Nat}{t:Ti}(D:Dn w w' a c b d t u e)(j:Nat)(g:j+1<e)(h:e<=40)(i:u.getD (j / 2) 0<=u.getD (j+1) 0) :
  aF V 129 #[.iface 190 (Po (J (O a c Q))),Y U ((j:Int)+1)] w' λk f=>(∃v,k=.returned v)/\∃q,f=w'.drewN q:=by
 have m:ar (Dn w w' a c b d t u e):=D;have o:=BZ w' a c D.qE;have n:ar (decide (u.getD (j+1) 0<u.getD (j / 2) 0)=false):=by unfold ar;simpa using i
 have p:j<1000:=by omega
 have r:Int.tdiv (j:Int) 2=((j / 2:Nat):Int):=by simp[Int.tdiv]
 have x:¬((j:Int) / 2=(j:Int)+1):=by omega
 have l:ar (j+1<e/\e<=40):=⟨g,h⟩;clear D i g h
 go_enter Tryz.func129,Tryz.ntmps129
 go_wp2_with fail
 go_loopw [1] (λs f=>s=Y U ((j:Int)+1)/\f=w') λs _=>0
 case atStart=>exact⟨Z,Z⟩
 case round =>
  obtain⟨rfl,rfl⟩:=hrel
  go_wp2_with (go_at_call 148;refine(UG m.out (j+1) (j / 2) Za Za (by have:=l.out;omega) (by have:=l.out;omega) (B:=false) n.out).mono ?_;rintro k y ⟨rfl,q,rfl⟩)
  go_end0
  exact⟨⟨_,Z⟩,q,Z⟩
theorem Hy:(V.info? 3).map (λi=>(i.zero,i.size,i.bytes))=J (J (Y U 0),1,8):=by kernel_rfl
theorem ZA(a:Nat)(u:Vu)(c:[j][a]?=J u):(f.alloc (.cells #[j] 3)).cell? (((O f.heap.size 0 Q):cx).add a)=J u:=by
 have d:(f.alloc (.cells #[j] 3)).heap[f.heap.size]?=J (.cells #[j] 3):=by show(f.heap.push _)[f.heap.size]?=_;simp
 rw[eG,aE];simp only[aC,d];simpa using c
theorem Jw:∀u∈[dL .i64 L],u.oneCell'=true:=by simp[jV]
def I7(f:Nat->Int)(k:Nat):List Int:=((aO k).filter λj=>f j != -1).map Int.ofNat
theorem DR(f:Nat->Int)(k:Nat):I7 f (k+1)=I7 f k++(if f k != -1 then [(k:Int)] else []):=by
 unfold I7;rw[List.range_succ,mJ,List.map_append]
 congr 1
 by_cases h:f k=-1<;>simp[h]
theorem X9(f:Nat->Int)(k:Nat):(I7 f k).length<=k:=by
 unfold I7;rw[br];exact Zh (lz _ _) Zc
def vN(xs:List Int):List dM:=xs.map λx=>Y U x
structure pa (w w':Wd) (V:Vu) (xs:List Int):Prop where
 oC:bE w.heap.size w w'
 own:w'.ownsRow w.heap.size 3 1 V xs.length (vN xs)
theorem pa.later{w:Wd}{xs:List Int}(a:pa w f j xs)(b:bE f.heap.size f h):pa w h j xs:=by
 refine⟨⟨b.os.trans a.oC.os,b.tape.trans a.oC.tape,b.output.trans a.oC.output,Zh a.oC.size b.size,λk c=>(b.block k (Zg c a.oC.size)).trans (a.oC.block k c)⟩,a.own.1,?_⟩;rcases a.own.2 with a|⟨g,i,l,e,m,d,n⟩
 .exact .inl a
 .exact .inr ⟨g,i,l,e,m,by rw[b.block g (Zj d).1];exact d,n⟩
theorem Mo{w W:Wd}{xs:List Int}(L:pa w W j xs)(C:xs.length<=40)(k:Int){l:Array aL}{m:List aL}{a:jh}{Q:Exit->jh->Wd->Prop}(p:v.guard=G')(s x:aS)(r:v.op=.call { callee:=.builtin .append,args:=#[s,x],argTypes:=#[103,103] })(u:a.eval s=j)(H:Nat)(y:W.heap.size=H)(z:a.eval x=Sc (J (O H 0 G')) 1 1)(h:∀n o,pa w o n (xs++[k])->iR V l Q m (a.put v.dst n) o) :
  iR V l Q (v::m) a (W.alloc (.cells #[Y U k] 3)):=by
 subst y;have d:=Hy
 cases e:V.info? 3 with
 | none=>rw[e]at d;cases d
 | some i =>
  rw[e]at d;simp only[aD,bm,cR]at d;have b0:bE W.heap.size W (W.alloc (.cells #[Y U k] 3)):=(bz _ _).alloc (af _) _;have c:=L.later b0;refine wpList_append_lies _ p s x 103 r w.heap.size 3 i _ 1 8 Tryz.underlying103 e d.1 d.2.1 d.2.2 (by rfl) Za j xs.length (vN xs) u c.own (O W.heap.size 0 G') 1 1 [Y U k] z Z (ZA) (Jw) Za (by simp[iT];omega) Za (by have:=L.oC.size;simp;omega) (W.heap.size+1) Zc ?_;intro g D A B f nJ E;refine h _ A ⟨⟨f.os.trans c.oC.os,f.tape.trans c.oC.tape,f.output.trans c.oC.output,Zh c.oC.size f.size,λq e=>?_⟩,by simpa[vN] using B⟩;rw[f.block q (by have:=c.oC.size;omega) λh=>by have:=(c.own.lt q h.symm).1;omega];exact c.oC.block q e
theorem Gs(w w':Wd)(h:bE w.heap.size w w'):pa w w' (Sc Q 0 0) []:=⟨h,dc _ _ _ _⟩
theorem Yi(w:Wd)(u v x y z A B C D E F H:Vu)(f:Nat->Int)(b0 d g h:Bool) :
  aF V 121 #[.agg #[u,v,x,Y U (f 0),Bo b0,Y U (f 1),Bo d,Y U (f 2),Bo g,Y U (f 3),Bo h,y,z,A,B,C,D,E,F,H]] w λe w'=>∃a,e=.returned a/\pa w w' a (I7 f 4):=by
 go_enter kU,Tryz.ntmps121
 go_wp2_with fail
 go_loopw [3,8] (λs i w'=>∃k:Nat,k<=4/\i=Y U k/\pa w w' s (I7 f k)) λ_ i _=>4 - (bT i).toNat
 case atStart=>exact⟨0,by omega,Z,Gs _ _ ((bz _ _).alloc (af _) _)⟩
 case round =>
  obtain⟨k,o,rfl,p⟩:=hrel;have j:ar (pa w wr u3 (I7 f k)):=p;clear p
  by_cases l:k=4
  .subst l
   go_wp2
   go_ret
   exact⟨_,Z,j.out⟩
  obtain⟨m,ix⟩:∃m,∀w,(fW 77 (.agg #[Y U (f 0),Bo b0,Y U (f 1),Bo d,Y U (f 2),Bo g,Y U (f 3),Bo h]) (Y U k)).run V w=.ok (.agg #[Y U (f k),Bo m]) w:=by
   cases k,(Za:k<4) using eL
   .exact⟨b0,λ_=>by kernel_rfl⟩
   .exact⟨d,λ_=>by kernel_rfl⟩
   .exact⟨g,λ_=>by kernel_rfl⟩
   .exact⟨h,λ_=>by kernel_rfl⟩
  have N:(k:Int)<4:=by omega
  have c:=DR f k;cases q:(f k != -1)
  .rw[q,mY Zb,cy]at c;have n:ar (I7 f (k+1)=I7 f k):=c;clear c l o
   go_wp2
   exact⟨⟨k+1,by omega,by go_num,by rw[n.out];exact j.out.later ((bz _ _).alloc (af _) _)⟩,by simp[bT];omega⟩
  .rw[q,mZ Z]at c;have n:ar (I7 f (k+1)=I7 f k++[(k:Int)]):=c;clear c l o
   go_wp2_with (refine Mo (w:=w) (W:=wr.alloc (.cells #[Y U (f k),Bo m] 76)) (xs:=I7 f k) (j.out.later ((bz _ _).alloc (af _) _)) (by have:=X9 f k;omega) k Z _ _ Z Z (wr.heap.size+1) Zc Z ?_;intro I K r;have L:ar (pa w K I (I7 f k++[(k:Int)])):=r;clear r)
   exact⟨⟨k+1,by omega,by go_num,by rw[n.out];exact L.out⟩,by simp[bT];omega⟩
theorem Vo(w:Wd)(u v x y z A B C D E F H:Vu)(f:Nat->Int)(b0 d g h:Bool) :
  aF V 123 #[.agg #[u,v,x,y,z,A,B,C,D,E,F,Y U (f 0),Bo b0,Y U (f 1),Bo d,Y U (f 2),Bo g,Y U (f 3),Bo h,H]] w λe w'=>∃a,e=.returned a/\pa w w' a (I7 f 4):=by
 go_enter kT,Tryz.ntmps123
 go_wp2_with fail
 go_loopw [3,8] (λs i w'=>∃k:Nat,k<=4/\i=Y U k/\pa w w' s (I7 f k)) λ_ i _=>4 - (bT i).toNat
 case atStart=>exact⟨0,by omega,Z,Gs _ _ ((bz _ _).alloc (af _) _)⟩
 case round =>
  obtain⟨k,o,rfl,p⟩:=hrel;have j:ar (pa w wr u3 (I7 f k)):=p;clear p
  by_cases l:k=4
  .subst l
   go_wp2
   go_ret
   exact⟨_,Z,j.out⟩
  obtain⟨m,ix⟩:∃m,∀w,(fW 80 (.agg #[Y U (f 0),Bo b0,Y U (f 1),Bo d,Y U (f 2),Bo g,Y U (f 3),Bo h]) (Y U k)).run V w=.ok (.agg #[Y U (f k),Bo m]) w:=by
   cases k,(Za:k<4) using eL
   .exact⟨b0,λ_=>by kernel_rfl⟩
   .exact⟨d,λ_=>by kernel_rfl⟩
   .exact⟨g,λ_=>by kernel_rfl⟩
   .exact⟨h,λ_=>by kernel_rfl⟩
  have N:(k:Int)<4:=by omega
  have c:=DR f k;cases q:(f k != -1)
  .rw[q,mY Zb,cy]at c;have n:ar (I7 f (k+1)=I7 f k):=c;clear c l o
   go_wp2
   exact⟨⟨k+1,by omega,by go_num,by rw[n.out];exact j.out.later ((bz _ _).alloc (af _) _)⟩,by simp[bT];omega⟩
  .rw[q,mZ Z]at c;have n:ar (I7 f (k+1)=I7 f k++[(k:Int)]):=c;clear c l o
   go_wp2_with (refine Mo (w:=w) (W:=wr.alloc (.cells #[Y U (f k),Bo m] 79)) (xs:=I7 f k) (j.out.later ((bz _ _).alloc (af _) _)) (by have:=X9 f k;omega) k Z _ _ Z Z (wr.heap.size+1) Zc Z ?_;intro I K r;have L:ar (pa w K I (I7 f k++[(k:Int)])):=r;clear r)
   exact⟨⟨k+1,by omega,by go_num,by rw[n.out];exact L.out⟩,by simp[bT];omega⟩
theorem Xx{w:Wd}{V:Vu}{xs:List Int}(L:pa w f V xs)(A:xs.length<=40)(k:Int){m:Array aL}{a:jh}{K:jh->Wd->Prop}{Q:Exit->jh->Wd->Prop}{E:Prop}(n:v.guard=G')(s x:aS)(o:v.op=.call { callee:=.builtin .append,args:=#[s,x],argTypes:=#[139,139] })(p:a.eval s=V)(H:Nat)(r:f.heap[H]?=J (.cells #[Y U k] 3))(u:a.eval x=Sc (J (O H 0 G')) 1 1)(h:∀g j l,pa w l (Sc (J (O g 0 G')) (xs.length+1) j) (xs++[k])->f.grownBy l V.ownBlock->(V.ownBlock=J g\/g=f.heap.size)->K (a.put v.dst (Sc (J (O g 0 G')) (xs.length+1) j)) l) :
  if bM v (fh m a.tmps)=true then Oper.wp J' v a f K Q else E:=by
 have c:=Hy
 cases e:J'.info? 3 with
 | none=>rw[e]at c;cases c
 | some i =>
  rw[e]at c;simp only[aD,bm,cR]at c;refine step_append_lies _ n s x 139 o w.heap.size 3 i _ 1 8 Zd e c.1 c.2.1 c.2.2 (by rfl) Za V xs.length (vN xs) p L.own (O H 0 G') 1 1 [Y U k] u Z (World.news_of_block r) (Jw) Za (by simp[iT];omega) Za L.oC.size f.heap.size Z ?_;intro g j y z d nJ B;refine h g j y ⟨⟨d.os.trans L.oC.os,d.tape.trans L.oC.tape,d.output.trans L.oC.output,Zh L.oC.size d.size,λq e=>?_⟩,by simpa[vN] using z⟩ d nJ;rw[d.block q (by have:=L.oC.size;omega) λh=>by have:=(L.own.lt q h.symm).1;omega];exact L.oC.block q e
theorem Oo(u:Wd)(o:Obj):(u.alloc o).heap[u.heap.size]?=J o:=by show(u.heap.push _)[u.heap.size]?=_;simp
theorem Bp(u:Wd)(o:Obj):bE u.heap.size u (u.alloc o):=(bz u.heap.size u).alloc (af _) o
theorem Fv(u:Wd){o:Obj}:bE u.heap.size u (u.drew.alloc o):=⟨Z,Z,Z,(Bp u o).size,(Bp u o).block⟩
theorem MU{w':Wd}(c:w'.cell? (O a 0 Q)=J j)(g:w'.frozen? (O a 0 Q)=false)(i:j.ownBlock≠J a)(b:bE w'.heap.size w' f)(k:f.grownBy h j.ownBlock):h.cell? (O a 0 Q)=J j/\h.frozen? (O a 0 Q)=false:=by
 have d:a<w'.heap.size:=aK _ _ c;have e:h.heap[a]?=w'.heap[a]?:=(k.block a (Zg d b.size) λe=>i e.symm).trans (b.block a d);simp only[aC,bR,e]at *;exact⟨c,g⟩
theorem c5H{w:Wd}(L:pa w f (Sc (J (O c 0 Q)) d e) u)(l:w.heap.size<=a)(m:f.cell? (O a 0 Q)=J j)(n:f.frozen? (O a 0 Q)=false)(k:c≠a) :
  ∃i,pa w (f.setCell (O a 0 Q) (Sc (J (O c 0 Q)) d e)) i u/\(f.setCell (O a 0 Q) (Sc (J (O c 0 Q)) d e)).cell? (O a 0 Q)=J i/\(f.setCell (O a 0 Q) (Sc (J (O c 0 Q)) d e)).frozen? (O a 0 Q)=false/\i.ownBlock≠J a:=by
 refine⟨_,⟨L.oC.setCell l _,L.own.1,?_⟩,World.cell?_setCell_same _ _ _ m,?_,λg=>k (Ze g)⟩
 .rcases L.own.2 with h|⟨o,p,q,g,r,s,v⟩
  .exact .inl h
  .obtain⟨rfl⟩:c=o:=by injection g with x;injection x with y;injection y
   exact .inr ⟨c,p,q,g,r,by rw[heap_setCell,mY (aA k)];exact s,v⟩
 .rw[World.frozen?_setCell];exact n
theorem Xe{w w':Wd}{xs:List Int}(x:Int)(L:pa w w' j xs)(n:xs.length<=40)(z:w.heap.size<=a)(d:w'.cell? (O a 0 Q)=J j)(p:w'.frozen? (O a 0 Q)=false)(f:j.ownBlock≠J a) :
  aF V 151 #[Po (J (O a 0 Q)),.iface 3 (Y U x)] w' λe k=>(∃v,e=.returned v)/\∃l,pa w k l (xs++[x])/\k.cell? (O a 0 Q)=J l/\k.frozen? (O a 0 Q)=false/\l.ownBlock≠J a:=by
 obtain⟨H,q⟩:∃i,V.info? 3=J i/\i.zero=J (Y U 0)/\i.size=1/\i.bytes=8:=by
  have c:=Hy
  cases r:V.info? 3 with
  | none=>rw[r]at c;cases c
  | some i =>
   rw[r]at c;simp only[aD,bm,cR]at c;exact⟨i,Z,c.1,c.2.1,c.2.2⟩
 have I:ar _:=q;have s:ar (pa w w' j xs/\xs.length<=40):=⟨L,n⟩;have K:∀u,(Instr.typeAssert (.iface 3 (Y U x)) 20 3 false).run V u=.ok (Y U x) u:=λ_=>by kernel_rfl
 have N:∀o,(w'.alloc o).cell? (O a 0 Q)=J j:=λo=>b7e (Bp w' o) (aK _ _ d) d;have P:w'.heap.size≠a:=World.new_ne w' (O a 0 Q) d;clear L n q
 go_enter Tryz.func151,Tryz.ntmps151
 go_region_law (refine Xx (w:=w) (V:=j) (xs:=xs) (by exact s.out.1.later (by first|exact Fv w'|exact below_ad w' _)) s.out.2 x Z (.tmp 7) (.tmp 10) Z (by rfl) w'.heap.size (by exact Oo w' _) (by rfl) ?_;intro g A B y m nJ;have C:ar (pa w B (Sc (J (O g 0 Q)) (xs.length+1) A) (xs++[x])):=y;have D:ar (j.ownBlock=J g\/w'.heap.size<=g):=nJ.imp id (λh=>by rw[h];simp);have E:=(MU d p f (by first|exact Fv w'|exact below_ad w' _|exact Bp w' _) m).1;have F:=(MU d p f (by first|exact Fv w'|exact below_ad w' _|exact Bp w' _) m).2;clear nJ m;clear y)
 all_goals(go_end0;exact⟨⟨_,Z⟩,c5H C.out z E F (λe=>by subst e;rcases D.out with h|h;exact f h;have:=aK _ _ d;exact absurd this (Nat.not_lt.2 h))⟩)
theorem IZ{w:Wd}(L:pa w f j u)(h:f.cell? (O a 0 Q)=J j)(k:u≠[]):∃g c,j=Sc (J (O g 0 Q)) u.length c/\Dn f f a 0 g c 3 u u.length:=by
 obtain⟨p,⟨_,l⟩|⟨g,c,m,rfl,q,n,r,s,v,o⟩⟩:=L.own
 .exact absurd (eA.1 l) k
 .refine⟨g,c,Z,⟨Z,λ_ _=>rfl,m,n,λi x d=>?_⟩,Z,h⟩;have y:i<u.length:=(bD.1 d).1;have e:(vN u)[i]?=J (Y U x):=by simp[vN,d]
  rw[←o,eO,mZ Za]at e;simpa using e
theorem OT{w:Wd}(L:pa w f j u)(q:Nat):pa w (f.drewN q) j u:=⟨⟨L.oC.os,L.oC.tape,L.oC.output,L.oC.size,L.oC.block⟩,L.own⟩
theorem T6{xs:List Int}(c:xs.length=a+1)(d:∀y∈xs,y<=L):(xs++[L]).getD (a / 2) 0<=(xs++[L]).getD (a+1) 0:=by
 rw[cG,cG,gC Za,la Za,c,Nat.sub_self,bj (show a / 2<xs.length by omega)];exact d _ (List.getElem_mem _)
theorem c0T{w w':Wd}{xs:List Int}(x:Int)(L:pa w w' j xs)(m:xs.length<40)(C:w.heap.size<=a)(p:w'.cell? (O a 0 Q)=J j)(r:w'.frozen? (O a 0 Q)=false)(s:j.ownBlock≠J a)(u:∀y∈xs,y<=x) :
  aF V 118 #[.iface 190 (Po (J (O a 0 Q))),.iface 3 (Y U x)] w' λe c=>(∃v,e=.returned v)/\∃h,pa w c h (xs++[x])/\c.cell? (O a 0 Q)=J h/\c.frozen? (O a 0 Q)=false/\h.ownBlock≠J a:=by
 have z:=Xe x L (Nat.le_of_lt m) C p r s;have K:=d0e;have N:xs.length<1000:=by omega
 have A:ar (xs.length<40/\∀y∈xs,y<=x):=⟨m,u⟩;clear L m p r s u;have l:(xs++[x]).length=xs.length+1:=by simp
 cases n:xs.length with
 | zero =>
  rw[n]at l
  go_enter Tryz.func118,Tryz.ntmps118
  go_wp2_with (first|(go_at_call 151;refine z.mono ?_;rintro e c ⟨⟨D,rfl⟩,h,L2,c2,f2,o2⟩;obtain⟨g,d,rfl,f⟩:=IZ L2 c2 Zc;rw[l]at f;have E:=Hr c a 0 _ _ f.qE;have i:ar (pa w c (Sc (J (O g 0 Q)) (xs++[x]).length d) (xs++[x])/\c.cell? (O a 0 Q)=J (Sc (J (O g 0 Q)) (xs++[x]).length d)/\c.frozen? (O a 0 Q)=false/\(di (J (O g 0 Q)) (xs++[x]).length d).ownBlock≠J a):=⟨L2,c2,f2,o2⟩;have o:ar (Dn c c a 0 g d 3 (xs++[x]) (0+1)):=f;clear L2 c2 f2 o2 f)|(go_at_call 147;refine(Ge _ _).mono ?_;rintro e F ⟨rfl,rfl⟩)|(go_at_call 129;refine(PX o.out).mono ?_;rintro e H ⟨⟨I,rfl⟩,q,rfl⟩))
  go_end0
  exact⟨⟨_,Z⟩,_,OT i.out.1 q,i.out.2⟩
 | succ k =>
  rw[n]at l;have B:ar (xs.length=k+1/\k+1<40):=⟨n,by have:=A.out.1;omega⟩;have P:k<1000:=by omega
  go_enter Tryz.func118,Tryz.ntmps118
  go_wp2_with (first|(go_at_call 151;refine z.mono ?_;rintro e c ⟨⟨D,rfl⟩,h,L2,c2,f2,o2⟩;obtain⟨g,d,rfl,f⟩:=IZ L2 c2 Zc;rw[l]at f;have E:=Hr c a 0 _ _ f.qE;have i:ar (pa w c (Sc (J (O g 0 Q)) (xs++[x]).length d) (xs++[x])/\c.cell? (O a 0 Q)=J (Sc (J (O g 0 Q)) (xs++[x]).length d)/\c.frozen? (O a 0 Q)=false/\(di (J (O g 0 Q)) (xs++[x]).length d).ownBlock≠J a):=⟨L2,c2,f2,o2⟩;have o:ar (Dn c c a 0 g d 3 (xs++[x]) (k+1+1)):=f;clear L2 c2 f2 o2 f)|(go_at_call 147;refine(Ge _ _).mono ?_;rintro e F ⟨rfl,rfl⟩)|(go_at_call 129;refine(c6M o.out k Za (by have:=B.out;omega) (T6 B.out.1 A.out.2)).mono ?_;rintro e H ⟨⟨I,rfl⟩,q,rfl⟩))
  go_end0
  exact⟨⟨_,Z⟩,_,OT i.out.1 q,i.out.2⟩
def E9(K:aa)(k:Nat):List Int:=((aO k).filter λj=>K.F j 0==0).map Int.ofNat
theorem IF(K:aa)(k:Nat):E9 K (k+1)=E9 K k++(if K.F k 0==0 then [(k:Int)] else []):=by
 unfold E9;rw[List.range_succ,mJ,List.map_append]
 congr 1
 by_cases h:K.F k 0=0<;>simp[h]
theorem Dj(K:aa)(k:Nat):(E9 K k).length<=k:=by
 unfold E9;rw[br];exact Zh (lz _ _) Zc
theorem Yb(K:aa)(k:Nat):∀y∈E9 K k,y<=(k:Int):=by
 intro y a;unfold E9 at a;obtain⟨j,c,rfl⟩:=dA.1 a;have:=eQ.1 (dx.1 c).1;show(j:Int)<=k;omega
theorem c3X(K:aa)(o m:Nat):(cut (U9 K) o m).toArray.all (·.oneCell')=true :=
 all_oneCell_toArray λv a=>by unfold cut at a;obtain⟨j,_,rfl⟩:=dA.1 a;rfl
structure xP (w':Wd) (fp:Nat) (V:Vu):Prop where
 c:w'.cell? (O fp 0 Q)=J V
 z:w'.frozen? (O fp 0 Q)=false
 o:V.ownBlock≠J fp
theorem xP.later{w':Wd}(h:xP w' a j)(b:bE w'.heap.size w' f):xP f a j:=by
 have d:a<w'.heap.size:=aK _ _ h.c;have e:=b.block a d;have c:=h.c;have z:=h.z;refine⟨?_,?_,h.o⟩
 .simp only[aC,e]at *;exact c
 .simp only[bR,e]at *;exact z
theorem c7N{w:Wd}{A:Obj}{t:Ti}:xP ((w.alloc A).alloc (.cells #[Sc Q 0 0] t)) (w.heap.size+1) (Sc Q 0 0):=by
 have e:((w.alloc A).alloc (.cells #[Sc Q 0 0] t)).heap[w.heap.size+1]?=J (.cells #[Sc Q 0 0] t):=by
  have h:=Oo (w.alloc A) (.cells #[Sc Q 0 0] t)
  rwa [show(w.alloc A).heap.size=w.heap.size+1 by simp]at h
 refine⟨?_,?_,λh=>by cases h⟩
 .simp only[aC,e];rfl
 .simp only[bR,e];rfl
theorem Qu{w:Wd}(A B:Obj):bE w.heap.size w ((w.alloc A).alloc B):=((bz _ _).alloc (af _) _).alloc Zc _
theorem c4e(w:Wd)(K:aa)(d E F:Nat)(hF:K.nF<=32)(s:w.rowIs d 71 (K.nF*6) (U9 K))(o:d<w.heap.size) :
  aF V 111 #[rN K d E F] w λe w'=>∃a,e=.returned a/\pa w w' a (E9 K K.nF):=by
 unfold rN;have n:ar (w.rowIs d 71 (K.nF*6) (U9 K)/\d<w.heap.size/\K.nF<=32):=⟨s,o,hF⟩;clear s o hF
 go_enter Tryz.func111,Tryz.ntmps111
 go_wp2_with fail
 go_loopw [9] (λi w'=>∃(k:Nat) (a:Vu),k<=K.nF/\i=Y U k/\pa w w' a (E9 K k)/\xP w' (w.heap.size+1) a) λi _=>K.nF - (bT i).toNat
 case atStart=>exact⟨0,Sc Q 0 0,by omega,Z,Gs _ _ (Qu _ _),c7N⟩
 case round =>
  obtain⟨k,a,I,rfl,L,p⟩:=hrel;have N:=p.c;have f:ar (pa w wr a (E9 K k)/\xP wr (w.heap.size+1) a):=⟨L,p⟩;clear L p
  by_cases o:k<K.nF
  .obtain⟨c,g⟩:∃c,c=cut (U9 K) (k*6) 6:=⟨_,Z⟩;have u:ar ((V.info? 71).map (·.size)=J c.length):=by unfold ar;rw[g,x7];kernel_rfl
   have v:ar ((V.info? 71).map (·.size)=J c.toArray.size):=by unfold ar;rw[aY,g,x7];kernel_rfl
   have x:ar (c.toArray.all (·.oneCell')=true):=by unfold ar;rw[g];exact c3X K _ _
   have y:ar (c.toArray.size=6):=by unfold ar;rw[aY,g,x7]
   have z:ar (wr.rangeAt d (k*6) c):=by unfold ar;rw[g];exact EP (n.out.1.of_block (f.out.1.oC.block _ n.out.2.1)) (o:=k*6) (m:=6) Za
   have A:ar (c=cut (U9 K) (k*6) 6):=g;clear g;have P:(0:Int)<=(k:Int):=by omega
   have R:k<1000:=by have:=n.out.2.2;omega
   have S:(k:Int)<(K.nF:Int):=by omega
   cases B:(K.F k 0==0)
   .go_wp2_with (first|(refine fL Z 71 _ Z d (k*6) Z c _ z.out Tryz.underlying71 Z u.out ?_)|(refine PB Z 71 _ _ Z _ 0 c.toArray Z Z (by rw[y.out];exact PQ (by rfl)) v.out x.out ?_;intro h l q r m;have H:h.cell? (O wr.heap.size 0 Q)=J (Y U (K.F k 0)):=by { have:=Fq (f:=U9 K) (o:=k*6) (m:=6) (w:=h) (b:=wr.heap.size) (by rw[←A.out];exact l) (j:=0) Za;rw[this];unfold U9;rw[show(k*6+0) / 6=k by omega,show(k*6+0)%6=0 by omega] };have j:ar (bE wr.heap.size wr h):=m _ _ ((bz _ _).alloc (af _) _) (af _);clear l q r m))
    exact⟨⟨k+1,a,by omega,by simp,by have:=IF K k;rw[B,mY Zb,cy]at this;rw[this];exact f.out.1.later j.out,f.out.2.later j.out⟩,by simp[bT];omega⟩
   .go_wp2_with (first|(refine fL Z 71 _ Z d (k*6) Z c _ z.out Tryz.underlying71 Z u.out ?_)|(refine PB Z 71 _ _ Z _ 0 c.toArray Z Z (by rw[y.out];exact PQ (by rfl)) v.out x.out ?_;intro h l q r m;have H:h.cell? (O wr.heap.size 0 Q)=J (Y U (K.F k 0)):=by { have:=Fq (f:=U9 K) (o:=k*6) (m:=6) (w:=h) (b:=wr.heap.size) (by rw[←A.out];exact l) (j:=0) Za;rw[this];unfold U9;rw[show(k*6+0) / 6=k by omega,show(k*6+0)%6=0 by omega] };have j:ar (bE wr.heap.size wr h):=m _ _ ((bz _ _).alloc (af _) _) (af _);clear l q r m)|(go_at_call 118;refine(c0T (w:=w) (k:Int) (f.out.1.later j.out) (by have:=Dj K k;have:=n.out.2.2;omega) (Nat.le_succ _) (f.out.2.later j.out).c (f.out.2.later j.out).z (f.out.2.later j.out).o (Yb K k)).mono ?_;rintro e C ⟨⟨T,rfl⟩,V5,L5,c5,z5,o5⟩;have D:ar (pa w C V5 (E9 K k++[(k:Int)])/\xP C (w.heap.size+1) V5):=⟨L5,c5,z5,o5⟩;clear L5 c5 z5 o5))
    exact⟨⟨k+1,V5,by omega,by simp,by have:=IF K k;rw[B,mZ Z]at this;rw[this];exact D.out.1,D.out.2⟩,by simp[bT];omega⟩
  .obtain rfl:k=K.nF:=by omega
   go_wp2
   go_ret
   exact⟨a,Z,f.out.1⟩
end Go.Proofs.YtcgabodkegcpgaaGreatDoor
namespace Go.Proofs.YtcgabodkegcpgaaGreatDoor
open Go.Conc Go.RowKit
variable{a b c d e:Nat}{f h i:Wd}{j k l m n:Vu}{o p:Array Vu}{q:List Nat}{r s:Bool}{t:Fm'}{u:List Int}{v w:aL}{x y:aa}{z A:aS}{B C:Ti}{D E:jj}{F:Option Nat}{H:List ng}{I K:Mem}{L N:Int}{P:Func}{R:Array Bool}{S T:l9}{W:cZ}
variable{C:Ctx}{n:Nat}{pv:List Nat}{H:y6}{B:Vu}{E:Bool}
theorem oK.store{l:List ng}(v:oK C l x pv H B r E f)(p:a∈pv){t:Ti}(w:H a=.cells o t (0,0))(j:Nat)(b:Vu) :
  oK C l x pv (H.set a (.cells (o.setIfInBounds j b) t (0,0))) B r E (f.setCell (O a j Q) b)/\oz C (C.o.bo::pv) f (f.setCell (O a j Q) b)/\ep l a=0:=by
 let⟨M,A,g⟩:=v;have q:=(g a p).1;have m:a∈C.o.bo::pv:=ah _ p;have y:f.heap[a]?=J (.cells o t (0,0)):=by rw[A.has a m,(g a p).2,w]
 have c:∀k,k≠a->(f.setCell (O a j Q) b).heap[k]?=f.heap[k]?:=λk c=>by rw[heap_setCell,mY λe=>c e.symm]
 have z:(f.setCell (O a j Q) b).heap[a]?=J (.cells (o.setIfInBounds j b) t (0,0)):=by rw[heap_setCell,mZ Z,y];rfl
 have s:(f.setCell (O a j Q) b).heap.size=f.heap.size:=by simp[cO]
 let⟨t2,D⟩:=A.blk;let⟨b0,F,I,K,X⟩:=A.own.ap a m;have u:ep l a=0:=U7 λL N=>A.pC a m q L N;have P:=A.Oa (w':=f.setCell (O a j Q) b) q m (A.env.rep.same (fF s.symm) λk _ h=>c k (by rcases h with rfl|rfl|rfl|rfl<;>first|exact aA b0|exact aA F|exact aA I|exact aA K)) ⟨λi d=>?_,(V7 A.clear.lk (aW _)).1.nz⟩ (fF s.symm) (λk _ R _=>c k R) z (by rw[c _ (aA q)];exact D)
 .refine⟨⟨_,P,λi d=>⟨(g i d).1,?_⟩⟩,⟨fF s.symm,λk _ S _ _ _=>c k λe=>S (e▸m)⟩,u⟩;rw[y6.lj (g i d).1]
  by_cases e:i=a
  .subst e;rw[y6.na,y6.na]
  .rw[y6.lj e,y6.lj e];exact(g i d).2
 .have T:i≠a:=λe=>d (e▸u);let⟨W,G,h⟩:=A.env.fit.soft i d;exact⟨W,G,by rw[c i T];exact h⟩
theorem Zs{s:j6}{g b:Gr}(q:a∈pv){t:Ti}(r:H a=.cells o t (0,0))(j:Nat)(x:Vu)(u:∀l K c w (Stop:Gr->Wd->Prop),oK C l K pv H B c E w->ep l a=0->(∀d,l6 V false (DL true (ep l)) Stop b ((w.setCell (O a j Q) x).at d))->∀d,l6 V false (DL true (ep l)) Stop g (w.at d))(v:i9 C n s pv (H.set a (.cells (o.setIfInBounds j x) t (0,0))) B E b):i9 C n s pv H B E g :=
 X7 (R:=λe f k m=>e=pv/\f=H.set a (.cells (o.setIfInBounds j x) t (0,0))/\k=B/\m=b) (λl K c w Stop p h d=>by
  let⟨y,A,z⟩:=p.store q r j x
  exact u l K c w Stop p z (h _ _ _ _ _ ⟨Z,Z,Z,Z⟩ y A λi D=>.inl D) d)
  (λe f k m ⟨F,I,L,N⟩=>by subst F I L N;exact v)
theorem y6.set_set(H:y6)(b:Nat)(x y:Obj):(H.set b x).set b y=H.set b y:=by funext i;by_cases e:i=b<;>simp[y6.set,e]
theorem y6.uj(H:y6){x:Obj}(h:H a=x):H.set a x=H:=by funext i;by_cases e:i=a<;>simp[y6.set,e,h]
theorem Fr.more{X:Obj}(d:a∉pv)(h:Fr F pv H B u):Fr F (a::pv) (H.set a X) B u:=by
 let⟨f,g,i,j,k,l⟩:=h;refine⟨f,g,i,j,k,l.imp id λ⟨m,c,t,o,b,p,q⟩=>⟨m,c,t,o,ah _ b,?_,q⟩⟩;rw[y6.lj λe=>d (by rw[←e];exact b)];exact p
theorem Fr.less(f:F≠J a)(h:Fr F (a::pv) H B u):Fr F pv H B u:=by
 let⟨g,d,i,j,k,l⟩:=h;refine⟨g,d,i,j,k,l.imp id λ⟨m,c,t,e,b,o,p⟩=>⟨m,c,t,e,?_,o,p⟩⟩;rcases ae.1 b with rfl|b
 .exact absurd (d.symm.trans e) f
 .exact b
variable{s:j6}{sz:Nat}{b':Nc}{a:cZ}{f:bC}{k:List bh}{F:List Fm'}{I:Array aL}{i D:Nat}{o:aL}{op:Op}{N:List Nat}{v:Vu}
theorem c8s(b:pK sz b' a)(c:o.dst=J D)(d:cE D sz=true)(e:Ak D b'=true):pK sz ((D,v)::b') (a.put o.dst v):=by
 rw[c];have:=b.put (by simpa using d:D<sz) v
 rwa [LY e]at this
theorem gx{X:Obj}(g:Obj.nz X)(q:pK sz b' a)(r:I[i]?=J o)(t:o.guard=Q)(h:o.op=op)(u:o.dst=J D)(x:cE D sz=true)(y:Ak D b'=true)(j:∀c:aL,c.op=op->∀w:Wd,(Ex a.eval c).run V w=.ok (.value (Po (J (O w.heap.size 0 Q)))) (w.alloc X)/\(Ex a.eval c).events V w #[]=#[])(z:∀b m,b∉pv->b≠C.o.bo->pK sz ((D,Po (J (O b 0 Q)))::b') m->i9 C n s (b::pv) (H.set b X) B E (G ((aQ f).at m (.inRegion I N::k)) F)) :
  i9 C n s pv H B E (G ((aQ f).at a (.inRegion I (i::N)::k)) F):=by
 refine VL (g':=λb=>G ((aQ f).at (a.put o.dst (Po (J (O b 0 Q)))) (.inRegion I N::k)) F) g (λl K W w b Stop A M L d=>?_) λb P R=>z b _ P R (c8s q u x y);refine B9 r (B6 t) (by show aV≠.early;decide) (λd K' S=>?_) d;rw[(j o h (w.at d)).1];refine S _ _ ⟨zh (λe T=>?_) g,?_⟩
 .have p:=cA T;rw[(j o h (w.at d)).2]at p;simp at p
 .subst A;exact L d
theorem gs{b j:Nat}{x:Vu}(g:b∈pv)(h:H b=.cells p c (0,0))(t:j<p.size)(u:I[i]?=J o)(y:o.guard=Q)(z:o.op=op)(A:o.dst=Q)(L:∀m:aL,m.op=op->∀w:Wd,w.cell? (O b j Q)=J p[j]->w.frozen? (O b j Q)=false->(Ex a.eval m).run V w=.ok .skip (w.setCell (O b j Q) x)/\∀e∈(Ex a.eval m).events V w #[],e=⟨.cell (O b j Q),true,false⟩)(P:i9 C n s pv (H.set b (.cells (p.setIfInBounds j x) c (0,0))) B E (G ((aQ f).at a (.inRegion I N::k)) F)) :
  i9 C n s pv H B E (G ((aQ f).at a (.inRegion I (i::N)::k)) F):=by
 refine Zs g h j x (λl K un w Stop q R S d=>?_) P;have r:w.cell? (O b j Q)=J p[j]:=by
  have:=q.blk g;rw[h]at this;simp[aC,this,t]
 have T:w.frozen? (O b j Q)=false:=by
  have:=q.blk g;rw[h]at this;simp[bR,this]
 refine B9 u (B6 y) (by show aV≠.early;decide) (λd K' W=>?_) d;let⟨M,X⟩:=L o z (w.at d) r T;rw[M,uponK_skip,A];exact W _ _ ⟨xx (by rw[R];exact aW _) (aK _ _ r) λe he=>X e (cA he),S d⟩
noncomputable def LV:List bh :=
 match Tryz.f114.body with
 | some (.seq _ (.seq (.block i (.loop c)) r))=>[.code c,.inLoop c,.inBlock i,.code r]
 | _=>[]
def wh(d:Int):Nat->(a b c:Int)->List Int->M (Int×List Int)
 | 0,_,_,_,xs=>(sx 10).bind λe=>M.pure (e,xs)
 | f+1,a,b,c,xs=>match xs with
  | []=>(sx 10).bind λe=>M.pure (e,[])
  | x::r=>(E5 d a x c).bind λz=>if z.2=5 then wh d f a x c (pD (x::r)) else M.pure (z.2,if z.2=0 then pD (x::r) else x::r)
def Au(d:Int):Nat->(a b c:Int)->List Int->M (Int×List Int)
 | 0,_,_,_,xs=>(sx 10).bind λe=>M.pure (e,xs)
 | f+1,a,b,c,xs=>match xs with
  | []=>(sx 10).bind λe=>M.pure (e,[])
  | x::r=>(E5 d a b x).bind λz=>if z.2=5 then Au d f a b x (pD (x::r)) else M.pure (z.2,if z.2=0 then pD (x::r) else x::r)
noncomputable def TD:List bh :=
 match Tryz.f114.body with
 | some (.seq _ (.seq (.block i (.loop (.seq x (.block j (.seq y (.seq z (.seq u v))))))) r))=>[.code v,.inBlock j,.inLoop (.seq x (.block j (.seq y (.seq z (.seq u v))))),.inBlock i,.code r]
 | _=>[]
noncomputable def Td:List bh :=
 match Tryz.f114.body with
 | some (.seq _ (.seq (.block i (.loop (.seq x (.block j (.seq y (.seq z (.seq (.seq u c) v))))))) r))=>[.code c,.code v,.inBlock j,.inLoop (.seq x (.block j (.seq y (.seq z (.seq (.seq u c) v))))),.inBlock i,.code r]
 | _=>[]
abbrev tg(t:Int×Int×Int):Array dM:=#[Y U t.1,Y U t.2.1,Y U t.2.2]
theorem Rs(c':Int)(u:Nat)(hp:u<3)(A:Option Nat)(fr:Fm')(F:List Fm')(k:Int×List Int->Bool->j6)(b:Nat)(hb:b∉pv)(h':A≠J b)(H0:y6)(W:Nat->Int×Int×Int->List Int->M (Int×List Int))(g:Int×Int×Int->Int->Int×Int×Int)(w0:∀f t,W f t []=(sx 10).bind λe=>M.pure (e,[]))(w1:∀f t x r,W (f+1) t (x::r)=(E5 c' (g t x).1 (g t x).2.1 (g t x).2.2).bind λz=>if z.2=5 then W f (g t x) (pD (x::r)) else M.pure (z.2,if z.2=0 then pD (x::r) else x::r))(p':∀t x,(tg t).setIfInBounds u (Y U x)=tg (g t x))(hn:∀e P c L p,Fr A pv c L P->(∀i∈pv,J i≠A->c i=H0 i)->i9 C n (k (e,P) p) pv c L p (G (fr.finish (Y U e)) F)) :
  ∀(f:Nat) (T:List Int) (H:y6) (B:Vu) (t:Int×Int×Int),T.length<=f->Fr A pv H B T->(∀i∈pv,J i≠A->H i=H0 i)->∀(E:Bool) (a:cZ),oP 48 [(0,sv (pO C.o)),(1,si c'),(3,si u),(6,sv (Po (J (O b 0 Q))))] a ->
  i9 C n ((W f t T).then E k) (b::pv) (H.set b (.cells (tg t) 25 (0,0))) B E (G ((aQ 114).at a LV) (fr::F)):=by
 have i':∀(H:y6) (B:Vu) (t:Int×Int×Int),Fr A pv H B []->(∀i∈pv,J i≠A->H i=H0 i)->∀(E:Bool) (a:cZ),oP 48 [(0,sv (pO C.o)),(1,si c'),(3,si u),(6,sv (Po (J (O b 0 Q))))] a ->
   i9 C n (((sx 10).bind λe=>M.pure (e,([]:List Int))).then E k) (b::pv) (H.set b (.cells (tg t) 25 (0,0))) B E (G ((aQ 114).at a LV) (fr::F)):=by
  intro H B t hF hH E a S;let⟨X,h1,hv,h3,h4⟩:=id hF;rw[Sl.val,h3]at hv;subst hv;rw[M.fi];refine gm 10 [[.slice (X.blk.map (O · 0 Q)) 0 X.cap]] S (λ_=>rfl) (λl K R w m=>⟨mX,m.ck (j:=10) Z⟩) λa S=>gu S Z Z<|nU 9 S (λ_=>rfl) λa S=>gf S Z Z Z fD Z Z Z<|Hu 10 λe p=>?_;rw[M.nO];refine gk S Z Z (si e) Z Z Z Z λa S=>nU 9 S (λ_=>rfl) λa S=>gz S eI Z Z Z ?_;exact ya hb (hn e [] H _ p hF hH)
 intro f
 induction f with
 | zero =>
  intro T H B t hl hF hH E a S;obtain rfl:T=[]:=eA.1 Za;rw[w0];exact i' H B t hF hH E a S
 | succ f ih =>
  intro T H B t hl hF hH E a S
  cases T with
  | nil=>rw[w0];exact i' H B t hF hH E a S
  | cons x r =>
  let⟨X,h1,hv,h3,h4⟩:=id hF;let⟨bq,cq,tq,g1,g2,g3,g4⟩:=h4.2.resolve_left (by rw[h3];simp);have hq:bq≠b:=λe=>hb (e▸g2);have q':=g4 0 x (by rw[h3];rfl);rw[Sl.val,h3,g1]at hv;have hv:B=Sc (J (O bq 0 Q)) (r.length+1) X.cap:=hv;subst hv;rw[w1,M.fi];refine gm 10 [[Sc (J (O bq 0 Q)) (r.length+1) X.cap]] S (λ_=>rfl) (λl K R w m=>⟨mX,m.ck (j:=10) Z⟩) λa S=>gt S Z Zc<|gm 11 [[Sc (J (O bq 0 Q)) (r.length+1) X.cap],[Y U x]] S (λ_=>rfl) (λl K R w m=>⟨⟨⟨mX,m.ck (j:=10) Z⟩,by constructor<;>omega⟩,m.bk (ah _ g2) ((y6.lj hq).trans g3) q'⟩) λa S=>?_;have p0:(0:Int)<=(u:Int):=by omega
  have p1:(u:Int)<3:=by omega
  refine Dc (v:=Po (J (O b u Q))) (op:=.indexAddr 25 (.tmp 6) (.tmp 17)) S Z Z Z Z Z Z Z (λl K R w d m o h=>by unfold Ex;simp only[h,S.lv.get (t:=6) Z,S.lv.get (t:=17) Z,Sv.den,nI.den];go_simp) λa S=>?_
  refine gs (b:=b) (j:=u) (x:=Y U x) (op:=.store 3 (.tmp 24) (.tmp 23)) (ao ..) (y6.na) (by simpa using hp) Z Z Z Z (λo h w e1 e2=>by
   constructor
   .unfold Ex;simp only[h,S.lv.get (t:=24) Z,S.lv.get (t:=23) Z,Sv.den,nI.den];go_simp
   .unfold Ex;simp only[h,S.lv.get (t:=24) Z,S.lv.get (t:=23) Z,Sv.den,nI.den];simp[go_sem,e1,e2]) ?_
  rw[y6.set_set,p'];refine gm 9 [(tg (g t x)).toList] S (λ_=>rfl) (λl K R w m=>⟨mX,m.rk (ao ..) (y6.na) λj v hj=>by simpa using hj⟩) λa S=>gf S Z Z Z cQ Z Z Z<|wB c' _ _ _ λy e p hg=>gk S Z Z (t2 y e) Z Z Z Z λa S=>?_;have j':=hF.more (X:=.cells (tg (g t x)) 25 (0,0)) hb;have k':∀(c:y6) (L:Vu) (P:List Int) (a:cZ),Fr A (b::pv) c L P->(∀i∈b::pv,J i≠A->c i=(H.set b (.cells (tg (g t x)) 25 (0,0))) i)->(e=5->P=pD (x::r))->(e≠5->P=if e=0 then pD (x::r) else x::r) ->
    oP 48 [(10,si e),(0,sv (pO C.o)),(1,si c'),(3,si u),(6,sv (Po (J (O b 0 Q))))] a->i9 C n ((if e=5 then W f (g t x) (pD (x::r)) else M.pure (e,if e=0 then pD (x::r) else x::r)).then p k) (b::pv) c L p (G ((aQ 114).at a TD) (fr::F)):=by
   intro c L P a f' g' h5 h6 S;have l':c=c.set b (.cells (tg (g t x)) 25 (0,0)):=(y6.uj c ((g' b (ao ..) λh=>h' h.symm).trans (y6.na))).symm;have m':∀i∈pv,J i≠A->c i=H0 i:=λi hi n'=>by
    rw[g' i (ah _ hi) n',y6.lj (show i≠b from λh=>hb (h▸hi))];exact hH i hi n'
   refine nU 5 S (λ_=>rfl) λa S=>?_
   by_cases q:e=5
   .refine gu S Z (by simp[q])<|nU 3 S (λ_=>rfl) λa S=>?_;rw[mZ q,l'];cases h5 q;exact ih _ c L (g t x) (by rw[Ag];simp at hl ⊢;omega) (f'.less h') m' p a (S.oS [0,1,3,6] Z)
   .refine gt S Z (by simp[q])<|nU 9 S (λ_=>rfl) λa S=>gz S eI Z Z Z ?_;rw[mY q,M.nO,←h6 q,l'];exact ya hb (hn e P c L p (f'.less h') m')
  have o':∀a,oP 48 [(37,sv (Bo true)),(10,si e),(0,sv (pO C.o)),(1,si c'),(3,si u),(6,sv (Po (J (O b 0 Q))))] a->(e≠5->e=0)->i9 C n ((if e=5 then W f (g t x) (pD (x::r)) else M.pure (e,if e=0 then pD (x::r) else x::r)).then p k) (b::pv) (H.set b (.cells (tg (g t x)) 25 (0,0))) (Sc (J (O bq 0 Q)) (r.length+1) X.cap) p (G ((aQ 114).at a Td) (fr::F)):=by
   intro a S h0;refine gt S Z Z<|nU 4 S (λ_=>rfl) λa S=>Dc (v:=.iface 190 (Po (J (O C.o.bo 10 Q)))) (op:=.makeInterface 190 (.tmp 40)) S Z Z Z Zd Z Z Z (λl K R w d m o h=>by unfold Ex;simp only[h,S.lv.get (t:=40) Z,Sv.den,nI.den];go_simp) λa S=>gf S Z Z Z Tryz.func127 Z Z Z<|c4r c5G j' Zc λc L y f' g'=>gk S Z Z (sv y) Z Z Z Z λa S=>nU 1 S (λ_=>rfl) λa S=>k' c L _ a f' g' (λ_=>rfl) (λh=>by rw[mZ (h0 h)]) (S.oS [10,0,1,3,6] Z)
  by_cases e0:e=0
  .refine gm 17 [[Bo true,Bo true]] S (λ_=>rfl) (λl K R w m=>⟨mX,by simp[e0]⟩) λa S=>o' a (S.oS [37,10,0,1,3,6] Z) λ_=>e0
  by_cases q:e=5
  .refine gm 17 [[Bo false,Bo false],[Bo true,Bo true]] S (λ_=>rfl) (λl K R w m=>⟨⟨mX,by simp[e0]⟩,by simp[q]⟩) λa S=>o' a (S.oS [37,10,0,1,3,6] Z) λh=>absurd q h
  .refine gm 17 [[Bo false,Bo false]] S (λ_=>rfl) (λl K R w m=>⟨mX,by simp[e0]⟩) λa S=>gu S Z (by simp[q])<|nU 1 S (λ_=>rfl) λa S=>k' _ _ _ a j' (λ_ _ _=>rfl) (λh=>absurd h q) (λ_=>by rw[mY e0]) (S.oS [10,0,1,3,6] Z)
theorem Ly{H:y6}{B:Vu}{E:Bool}(g:Nat)(j:g<3){l:Option Nat}(hF:Fr l pv H B u)(X:∀b,l=J b->b∈pv)(q a b c:Int)(y:Fm')(F:List Fm')(k:Int×List Int->Bool->j6)(W:Nat->Int×Int×Int->List Int->M (Int×List Int))(d:Int×Int×Int->Int->Int×Int×Int)(w0:∀f t,W f t []=(sx 10).bind λe=>M.pure (e,[]))(w1:∀f t x r,W (f+1) t (x::r)=(E5 q (d t x).1 (d t x).2.1 (d t x).2.2).bind λz=>if z.2=5 then W f (d t x) (pD (x::r)) else M.pure (z.2,if z.2=0 then pD (x::r) else x::r))(d':∀t x,(tg t).setIfInBounds g (Y U x)=tg (d t x))(hn:∀e L A P R,Fr l pv A P L->(∀i∈pv,J i≠l->A i=H i)->i9 C n (k (e,L) R) pv A P R (G (y.finish (Y U e)) F)) :
  i9 C n ((W u.length (a,b,c) u).then E k) pv H B E (G (ay V 114 #[pO C.o,Y U q,.agg #[Y U a,Y U b,Y U c],Y U g] .normal) (y::F)):=by
 refine gn [sv (pO C.o),si q,.g [.v (Y U a),.v (Y U b),.v (Y U c)],si g] eI Z Z Z Z λm S=>nU 2 S (λ_=>rfl) λm S=>?_
 refine gx (X:=.cells (tg (a,b,c)) 25 (0,0)) (op:=.box 25 (.tmp 2)) mX S.lv Z Z Z Z Z Z (λo h w=>by
  constructor
  .unfold Ex;simp only[h,S.lv.get (t:=2) Z,Sv.den,nI.den,List.map];go_simp;try rfl
  .unfold Ex;simp only[h,S.lv.get (t:=2) Z,Sv.den,nI.den,List.map];simp[go_sem]) λK m T h2 hA=>?_
 have S:oP 48 ((6,sv (Po (J (O K 0 Q))))::_) m:=⟨hA,λp j=>by
  rcases ae.1 j with rfl|j
  .trivial
  .exact S.wf p j⟩
 refine nU 5 S (λ_=>rfl) λm S=>Rs q g j l y F k K T (λe=>T (X K e)) H W d w0 w1 d' hn u.length u H B (a,b,c) (af _) hF (λ_ _ _=>rfl) E m (S.oS [0,1,3,6] Z)
theorem GC{H:y6}{B:Vu}{E:Bool}{g:Option Nat}(hF:Fr g pv H B u)(q:∀b,g=J b->b∈pv)(h a b c:Int){F:List Fm'}{k:Int×List Int->Bool->j6}(r:∀e l j m p,Fr g pv j m l->(∀i∈pv,J i≠g->j i=H i)->i9 C n (k (e,l) p) pv j m p (G (t.finish (Y U e)) F)) :
  i9 C n ((wh h u.length a b c u).then E k) pv H B E (G (ay V 114 #[pO C.o,Y U h,.agg #[Y U a,Y U b,Y U c],Y U 1] .normal) (t::F)) :=
 Ly 1 Zb hF q h a b c t F k (λf d u=>wh h f d.1 d.2.1 d.2.2 u) (λd x=>(d.1,x,d.2.2)) (λf d=>by cases f<;>rfl) (λ_ _ _ _=>rfl) (λ_ _=>rfl) r
theorem XU{H:y6}{B:Vu}{E:Bool}{g:Option Nat}(hF:Fr g pv H B u)(q:∀b,g=J b->b∈pv)(h a b c:Int){F:List Fm'}{k:Int×List Int->Bool->j6}(r:∀e l j m p,Fr g pv j m l->(∀i∈pv,J i≠g->j i=H i)->i9 C n (k (e,l) p) pv j m p (G (t.finish (Y U e)) F)) :
  i9 C n ((Au h u.length a b c u).then E k) pv H B E (G (ay V 114 #[pO C.o,Y U h,.agg #[Y U a,Y U b,Y U c],Y U 2] .normal) (t::F)) :=
 Ly 2 Zb hF q h a b c t F k (λf d u=>Au h f d.1 d.2.1 d.2.2 u) (λd x=>(d.1,d.2.1,x)) (λf d=>by cases f<;>rfl) (λ_ _ _ _=>rfl) (λ_ _=>rfl) r
def xQ(b:Int)(c d:List Int)(e:Int):M Int:=(J5 b c d).bind λz=>M.pure (if z.2=3 then 3 else e)
theorem WX(h j:Int)(b c:Sl)(m:b.ok pv H)(p:c.ok pv H){F:List Fm'}{k:Int->Bool->j6}(l:∀e d,i9 C n (k e d) pv H B d (G (t.finish (Y U e)) F)) :
  i9 C n ((xQ h b.xs c.xs j).then E k) pv H B E (G (ay V 124 #[pO C.o,Y U h,b.val,c.val,Y U j] .normal) (t::F)):=by
 unfold xQ;rw[M.fi];refine gn [sv (pO C.o),si h,sv b.val,sv c.val,si j] iX Z Z Z Z λa S=>nU 20 S (λ_=>rfl) λa S=>gf S Z Z Z iW Z Z Z<|IQ h b c m p λx e d=>?_;rw[M.nO];refine gk S Z Z (t2 x e) Z Z Z Z λa S=>nU 20 S (λ_=>rfl) λa S=>?_
 by_cases g:e=3
 .refine gt S Z (by simp[g])<|nU 20 S (λ_=>rfl) λa S=>gz S iX Z Z Z ?_;rw[mZ g,g];exact l 3 d
 .refine gu S Z (by simp[g])<|nU 20 S (λ_=>rfl) λa S=>gz S iX Z Z Z ?_;rw[mY g];exact l j d
def Sl.take(s:Sl)(i:Nat):Sl:=⟨s.blk,s.cap,s.xs.take i⟩
theorem Sl.qY{s:Sl}{pv:List Nat}{H:y6}(h:s.ok pv H)(i:Nat):(s.take i).ok pv H:=by
 refine⟨by simp only[Sl.take,jq];have:=h.1;omega,?_⟩;rcases h.2 with h|⟨b,c,t,e,g,l,m⟩
 .exact .inl (by simp[Sl.take,h])
 .refine .inr ⟨b,c,t,e,g,l,λj x d=>m j x ?_⟩;simp only[Sl.take,eO]at d;split at d
  .exact d
  .cases d
theorem Sl.rE(s:Sl):s.take s.xs.length=s:=by simp[Sl.take]
def xh(b:Int):List Int->Nat->M (Nat×Int)
 | [],i=>M.pure (i,0)
 | y::ys,i=>(E5 7 b y y).bind λz=>if z.2=0 then xh b ys (i+1) else M.pure (i,z.2)
noncomputable def c4i:List bh :=
 match Tryz.f122.body with
 | some (.seq _ (.seq (.seq _ (.block i (.loop c))) r))=>[.code c,.inLoop c,.inBlock i,.code r]
 | _=>[]
theorem JB{a:cZ}{o:aL}{i:Nat}{d:Sl}(l:o.op=.slice 103 (.tmp b) Q (J (.tmp c)) Q)(j:a.eval (.tmp b)=d.val)(m:a.eval (.tmp c)=Y U i)(r:i<=d.xs.length)(t:d.xs.length<=d.cap)(e:∃g,d.blk=J g):(Ex a.eval o).run V h=.ok (.value (d.take i).val) h:=by
 let⟨g,e⟩:=e;have p:d.val=Sc (J (O g 0 Q)) d.xs.length d.cap:=by rw[Sl.val,e];rfl
 have q:(d.take i).val=Sc (J (O g 0 Q)) i d.cap:=by simp[Sl.val,Sl.take,e];omega
 have u:(0:Int)<=(i:Int):=by omega
 have w:(i:Int)<=(d.cap:Int):=by omega
 rw[q];rw[p]at j;unfold Ex;simp only[l,j,m,Option.map];go_simp;try rfl
theorem Ot{d:Sl}(h:d.val=Sc (J (O b 0 Q)) d.xs.length d.cap):d.blk=J b:=by
 cases e:d.blk with
 | none=>simp[Sl.val,e]at h
 | some c=>simp[Sl.val,e]at h;rw[h]
theorem Tc(t:Int)(b:Sl)(z:b.ok pv H)(T:b.xs.length<=b.cap)(A:Fm')(F:List Fm')(k:Nat×Int->Bool->j6)(L:∀i e g,i9 C n (k (i,e) g) pv H B g (G (A.finish (.tuple #[(b.take i).val,Y U e])) F)) :
  ∀(c:List Int) (i:Nat),(∀j,c[j]?=b.xs[i+j]?)->i+c.length=b.xs.length->∀(E:Bool) a,oP 36 [(0,sv (pO C.o)),(1,si t),(2,sv b.val),(12,sv b.val),(13,si b.xs.length),(14,si i)] a ->
  i9 C n ((xh t c i).then E k) pv H B E (G ((aQ 122).at a c4i) (A::F)):=by
 intro c;have c':b.xs.length<=40:=by have:=z.1;omega
 induction c with
 | nil =>
  intro i u x E a S;have P:i=b.xs.length:=by simpa using x
  refine nU 5 S (λ_=>rfl) λa S=>gu S Z (by simp;omega)<|nU 9 S (λ_=>rfl) λa S=>gz S iY Z Z Z ?_;have:=L i 0 E;rw[P,Sl.rE]at this;unfold xh;rw[P];exact this
 | cons p c W =>
  intro i u x E a S;simp only[cI]at x;let⟨q,m,X⟩:=Sl.ck (C:=C) z (i:=i) (x:=p) (by have:=u 0;simpa using this.symm);unfold xh;rw[M.fi];refine nU 5 S (λ_=>rfl) λa S=>gt S Z (by simp;omega) ?_;rw[m]at S;refine gm 30 [[Y U p]] S (λ_=>rfl) (λl K un w R=>X R) λa S=>gf S Z Z Z cQ Z Z Z<|wB 7 t p p λy e g hg=>gk S Z Z (t2 y e) Z Z Z Z λa S=>nU 20 S (λ_=>rfl) λa S=>?_
  by_cases r:e=0
  .rw[mZ r];refine gu S Z (by simp[r])<|nU 7 S (λ_=>rfl) λa S=>?_;rw[←m,W7 Za Za,show((i:Int)+1)=((i+1:Nat):Int) from by simp]at S;exact W (i+1) (λj=>by have:=u (j+1);simp at this;rw[this];congr 1;omega) Za g a (S.oS [0,1,2,12,13,14] Z)
  .rw[mY r,M.nO];refine gt S Z (by simp[r])<|nU 4 S (λ_=>rfl) λa S=>Dc (v:=(b.take i).val) (op:=.slice 103 (.tmp 30) Q (J (.tmp 31)) Q) S Z Z Z Zd Z Z Z (λl K un w d R o h=>JB h ((S.lv.get Z).trans m.symm) (S.lv.get Z) Za T ⟨q,Ot m⟩) λa S=>nU 9 S (λ_=>rfl) λa S=>gz S iY Z Z Z ?_;exact L i e g
theorem PT(c:Int)(b:Sl)(g:b.ok pv H)(h:b.xs.length<=b.cap){F:List Fm'}{k:Nat×Int->Bool->j6}(l:∀i e d,i9 C n (k (i,e) d) pv H B d (G (t.finish (.tuple #[(b.take i).val,Y U e])) F)) :
  i9 C n ((xh c b.xs 0).then E k) pv H B E (G (ay V 122 #[pO C.o,Y U c,b.val] .normal) (t::F)):=by
 refine gn [sv (pO C.o),si c,sv b.val] iY Z Z Z Z λa S=>nU 14 S (λ_=>rfl) λa S=>Tc c b g h t F k l b.xs 0 (λj=>by simp) Zc E a (S.oS [0,1,2,12,13,14] Z)
theorem Sl.sQ{s:Sl}{pv:List Nat}{H e:y6}{g:Option Nat}(h:s.ok pv H)(l:s.blk≠g\/s.blk=Q)(m:∀i∈pv,J i≠g->e i=H i):s.ok pv e:=by
 refine⟨h.1,h.2.imp id λ⟨b,c,t,d,j,p,q⟩=>⟨b,c,t,d,j,?_,q⟩⟩;rw[m b j (by rw[←d];exact l.resolve_right (by simp[d]))];exact p
def wE(b:Int):List Int->Nat->List Int->M ((Nat×Int)×List Int)
 | [],i,xs=>M.pure ((i,0),xs)
 | y::ys,i,xs=>(Au 6 xs.length b y 0 xs).bind λz=>if z.1=0 then wE b ys (i+1) z.2 else M.pure ((i,z.1),z.2)
noncomputable def Wy:List bh :=
 match Tryz.f120.body with
 | some (.seq _ (.seq (.seq _ (.block i (.loop c))) r))=>[.code c,.inLoop c,.inBlock i,.code r]
 | _=>[]
theorem XX(g:Option Nat)(h':∀b,g=J b->b∈pv)(z:y6)(R:Int)(c:Sl)(X:c.ok pv z)(i':c.blk≠g\/c.blk=Q)(j':c.xs.length<=c.cap)(fr:Fm')(F:List Fm')(k:(Nat×Int)×List Int->Bool->j6)(hn:∀i e t m u x,Fr g pv m u t->(∀i∈pv,J i≠g->m i=z i)->i9 C n (k ((i,e),t) x) pv m u x (G (fr.finish (.tuple #[(c.take i).val,Y U e])) F)) :
  ∀(r:List Int) (i:Nat),(∀j,r[j]?=c.xs[i+j]?)->i+r.length=c.xs.length->∀(y:List Int) (H:y6) (B:Vu),Fr g pv H B y->(∀i∈pv,J i≠g->H i=z i)->∀(E:Bool) a,oP 31 [(0,sv (pO C.o)),(1,si R),(2,sv c.val),(11,sv c.val),(12,si c.xs.length),(13,si i)] a ->
  i9 C n ((wE R r i y).then E k) pv H B E (G ((aQ 120).at a Wy) (fr::F)):=by
 intro r;have l':c.xs.length<=40:=by have:=X.1;omega
 induction r with
 | nil =>
  intro i T W y H B hF A E a S;have hi:i=c.xs.length:=by simpa using W
  refine nU 5 S (λ_=>rfl) λa S=>gu S Z (by simp;omega)<|nU 9 S (λ_=>rfl) λa S=>gz S iZ Z Z Z ?_;have:=hn i 0 y H B E hF A;rw[hi,Sl.rE]at this;unfold wE;rw[hi];exact this
 | cons p r ih =>
  intro i T W y H B hF A E a S;simp only[cI]at W;let⟨q,L,ck⟩:=Sl.ck (C:=C) (Sl.sQ X i' A) (i:=i) (x:=p) (by have:=T 0;simpa using this.symm);unfold wE;rw[M.fi];refine nU 5 S (λ_=>rfl) λa S=>gt S Z (by simp;omega) ?_;rw[L]at S;refine gm 30 [[Y U p]] S (λ_=>rfl) (λl K un w St=>ck St) λa S=>gf S Z Z Z eI Z Z Z<|XU hF h' 6 R p 0 λe t m u x f' k'=>?_;have g':∀i∈pv,J i≠g->m i=z i:=λi h1 h2=>(k' i h1 h2).trans (A i h1 h2);refine gk S Z Z (si e) Z Z Z Z λa S=>nU 20 S (λ_=>rfl) λa S=>?_
  by_cases P:e=0
  .rw[mZ P];refine gu S Z (by simp[P])<|nU 7 S (λ_=>rfl) λa S=>?_;rw[←L,W7 Za Za,show((i:Int)+1)=((i+1:Nat):Int) from by simp]at S;exact ih (i+1) (λj=>by have:=T (j+1);simp at this;rw[this];congr 1;omega) Za t m u f' g' x a (S.oS [0,1,2,11,12,13] Z)
  .rw[mY P,M.nO];refine gt S Z (by simp[P])<|nU 4 S (λ_=>rfl) λa S=>Dc (v:=(c.take i).val) (op:=.slice 103 (.tmp 25) Q (J (.tmp 26)) Q) S Z Z Z Zd Z Z Z (λl K un w d St o h=>JB h ((S.lv.get Z).trans L.symm) (S.lv.get Z) Za j' ⟨q,Ot L⟩) λa S=>nU 9 S (λ_=>rfl) λa S=>gz S iZ Z Z Z ?_;exact hn i e t m u x f' g'
theorem ZI{d:Option Nat}(q:∀b,d=J b->b∈pv)(g:Int)(c:Sl)(r:c.ok pv H)(w:c.blk≠d\/c.blk=Q)(x:c.xs.length<=c.cap)(hF:Fr d pv H B u){F:List Fm'}{k:(Nat×Int)×List Int->Bool->j6}(y:∀i e l h m p,Fr d pv h m l->(∀i∈pv,J i≠d->h i=H i)->i9 C n (k ((i,e),l) p) pv h m p (G (t.finish (.tuple #[(c.take i).val,Y U e])) F)) :
  i9 C n ((wE g c.xs 0 u).then E k) pv H B E (G (ay V 120 #[pO C.o,Y U g,c.val] .normal) (t::F)):=by
 refine gn [sv (pO C.o),si g,sv c.val] iZ Z Z Z Z λa S=>nU 14 S (λ_=>rfl) λa S=>XX d q H g c r w x t F k y c.xs 0 (λj=>by simp) Zc u H B hF (λ_ _ _=>rfl) E a (S.oS [0,1,2,11,12,13] Z)
structure xJ (pv:List Nat) (H:y6) (v v':Wd) (bs:List Nat) (Hn:y6):Prop where
 size:v.heap.size<=v'.heap.size
 old:∀k,k<v.heap.size->v'.heap[k]?=v.heap[k]?
 new:∀b∈bs,v.heap.size<=b/\v'.heap[b]?=J (Hn b)
 keep:∀i∈pv,Hn i=H i
theorem oK.lone{l:List ng}{v:Wd}(j:oK C l x pv H B r E h)(d:Lk (ep l) v (h.at b)):∀i∈pv,i<v.heap.size/\(Obj.nz (H i)->v.heap[i]?=J (H i)):=λi c=>by
 let⟨t,A,e⟩:=j;have m:ep l i=0:=U7 λo p=>A.pC i (ah _ c) (e i c).1 o p;have g:=A.has i (ah _ c);refine⟨by rw[d.size];exact(Zj g).1,λq=>?_⟩;rw[d.heap,show(h.at b).heap=h.heap from Z,g,(e i c).2,m,aD,xC q]
theorem oK.qb{l:List ng}{d v m:Wd}(t:oK C l x pv H B r E h)(u:Lk (ep l) v (h.at b))(g:Lk (ep l) m d)(w:Kept (ep l) (h.at b) d){bs:List Nat}{Hn:y6}(j:xJ pv H v m bs Hn) :
  oK C l x (bs++pv) Hn B r E d/\oz C (C.o.bo::pv) h d/\Sub (C.o.bo::(bs++pv)) (C.o.bo::pv) h/\∀c∈bs,c∉pv/\c≠C.o.bo:=by
 have y:v.heap.size=h.heap.size:=u.size;have P:m.heap.size=d.heap.size:=g.size;refine t.more g.fit (by have:=j.size;omega) (λk R=>C5 (w:=h.at b) w u g (j.old k Za)) (λc z=>?_) j.keep;let⟨p,q⟩:=j.new c z;rw[y]at p;let⟨S,A,T⟩:=t;have K:ep l c=0:=U7 λo L=>by have:=KO.lt A.env.ko L;omega
 refine⟨p,?_⟩;rw[g.heap,K]at q
 cases e:d.heap[c]? with
 | none=>grind
 | some o=>rw[e,aD,xC (w.new c o p e)]at q;exact q
theorem Vg{f:bC}(W:Sg f=true){R:Vu->List Nat->y6->Prop}(M:∀v:Wd,(∀i∈pv,i<v.heap.size/\(Obj.nz (H i)->v.heap[i]?=J (H i)))->aF V f p v λe m=>∃x c j,e=.returned x/\xJ pv H v m c j/\R x c j)(r:Fm')(F:List Fm')(X:∀x c j,R x c j->(∀b∈c,b∉pv/\b≠C.o.bo)->(∀i∈pv,j i=H i)->i9 C n s (c++pv) j B E (G (r.finish x) F)) :
  i9 C n s pv H B E (G (ay V f p .normal) (r::F)):=by
 refine X7 (R:=λL q P S=>∃x c,R x c q/\(∀b∈c,b∉pv/\b≠C.o.bo)/\(∀i∈pv,q i=H i)/\L=c++pv/\P=B/\S=G (r.finish x) F) (λl K un w Stop t h d=>?_) ?_
 .have hc:=t.clear;have a':Fit (ep l) (w.at d):=by let⟨q,A,hH⟩:=t;exact⟨A.env.fit.soft,A.env.fit.clear⟩
  refine(xU xn (sft:=ep l) (w0:=w.at d) W a' false (Q:=λx m=>∃v c j,Lk (ep l) v (w.at d)/\xJ pv H v m c j/\R x c j) (λv y=>(M v (t.lone y)).mono λe m he=>?_) r F).keep.then ?_
  .grind
  .rintro g T ⟨⟨x,m,rfl,hl',v,c,j,y,u,z⟩,hkp⟩;let⟨g1,g2,g3,g4⟩:=t.qb y hl' hkp u;exact h _ j _ _ T ⟨x,c,z,g4,u.keep,Z,Z,Z⟩ g1 g2 g3 T.drawn
 .rintro L q P S ⟨x,c,u,z,h3,rfl,rfl,rfl⟩;exact X x c q u z h3
attribute [local go_sem ↓] Go.wp_at_zero Go.wp_at_succ
def Row(pv:List Nat)(H:y6)(g:Nat)(t:Ti)(n:Nat)(f:Nat->Vu):Prop:=g∈pv/\∃c,H g=.cells c t (0,0)/\c.size=n/\∀i,i<n->c[i]?=J (f i)
theorem Row.is{pv:List Nat}{H:y6}{n:Nat}{f:Nat->Vu}(h:Row pv H b c n f){v:Wd}(e:∀i∈pv,i<v.heap.size/\(Obj.nz (H i)->v.heap[i]?=J (H i))):v.rowIs b c n f:=by
 let⟨g,j,d,l,m⟩:=h;exact⟨j,by rw[(e b g).2 (by rw[d];trivial),d],l,m⟩
def N7(K:aa)(p:Nat):Array dM:=#[Y U (K.S p 0),Y U (K.S p 1),Y U (K.S p 2),Y U (K.S p 3),Bo (K.B p 4),Y U (K.S p 5),Bo (K.B p 6),Y U (K.S p 7),Bo (K.B p 8),Y U (K.S p 9),Bo (K.B p 10),Y U (K.S p 11),Bo (K.B p 12),Y U (K.S p 13),Bo (K.B p 14),Y U (K.S p 15),Bo (K.B p 16),Y U (K.S p 17),Bo (K.B p 18),Y U (K.S p 19)]
theorem W5(K:aa)(p j:Nat)(b:j<20)(h:4<=j/\j<=18/\j%2=0):A7 K (p*20+j)=Bo (K.B p j):=by
 unfold A7;rw[mZ Za,show(p*20+j) / 20=p by omega,show(p*20+j)%20=j by omega]
theorem EF(K:aa)(p:Nat):(cut (A7 K) (p*20) 20).toArray=N7 K p:=by
 unfold cut N7;simp only[aO,List.range.loop,List.map];rw[show A7 K (p*20+0)=_ from K8 K p 0 Za Za];rw[show A7 K (p*20+1)=_ from K8 K p 1 Za Za];rw[show A7 K (p*20+2)=_ from K8 K p 2 Za Za];rw[show A7 K (p*20+3)=_ from K8 K p 3 Za Za];rw[show A7 K (p*20+4)=_ from W5 K p 4 Za Za];rw[show A7 K (p*20+5)=_ from K8 K p 5 Za Za];rw[show A7 K (p*20+6)=_ from W5 K p 6 Za Za];rw[show A7 K (p*20+7)=_ from K8 K p 7 Za Za];rw[show A7 K (p*20+8)=_ from W5 K p 8 Za Za];rw[show A7 K (p*20+9)=_ from K8 K p 9 Za Za];rw[show A7 K (p*20+10)=_ from W5 K p 10 Za Za];rw[show A7 K (p*20+11)=_ from K8 K p 11 Za Za];rw[show A7 K (p*20+12)=_ from W5 K p 12 Za Za];rw[show A7 K (p*20+13)=_ from K8 K p 13 Za Za];rw[show A7 K (p*20+14)=_ from W5 K p 14 Za Za];rw[show A7 K (p*20+15)=_ from K8 K p 15 Za Za];rw[show A7 K (p*20+16)=_ from W5 K p 16 Za Za];rw[show A7 K (p*20+17)=_ from K8 K p 17 Za Za];rw[show A7 K (p*20+18)=_ from W5 K p 18 Za Za];rw[show A7 K (p*20+19)=_ from K8 K p 19 Za Za]
theorem c7u{f:Nat->Vu}{o:Nat}{v:Vu}(h:(cut f o b)[c]?=J v):c<b/\v=f (o+c):=by
 unfold cut at h;rw[bO]at h
 by_cases e:c<b
 .rw[cW e]at h;exact⟨e,(Ze h).symm⟩
 .rw[eX (by simpa using e)]at h;cases h
theorem Ff{l:List ng}(e:oK C l x pv H B r E h){i o:Nat}(g:Row pv H b 82 (y.nS*20) (A7 y))(u:i<y.nS)(m:o=i*20):vA h [] b o (N7 y i).toList:=by
 let⟨p,c,q,w,t⟩:=g;refine e.rk p q λj v d=>?_;rw[←EF]at d;obtain⟨z,rfl⟩:=c7u d;rw[m];exact t _ Za
theorem Row.same{f:Nat->Vu}{e:y6}(h:Row pv H b c d f)(g:e b=H b):Row pv e b c d f:=by
 let⟨j,l,m,p⟩:=h;exact⟨j,l,g.trans m,p⟩
def tX(b:aa):Nat->Nat->List Int->M ((Int×Int)×List Int)
 | 0,_,xs=>(sx 10).bind λe=>M.pure ((0,e),xs)
 | f+1,i,xs=>if b.S i 0=0 then(wh 5 xs.length i 0 0 xs).bind λz=>if z.1=7 then tX b f (i+1) z.2 else M.pure (((i:Int),z.1),z.2) else tX b f (i+1) xs
noncomputable def Mv:List bh :=
 match Tryz.f119.body with
 | some (.seq _ (.seq (.seq _ (.block i (.loop c))) r))=>[.code c,.inLoop c,.inBlock i,.code r]
 | _=>[]
theorem b8y(d:aa)(r:Nat)(hK:d.nS<=32)(h:Option Nat)(e':∀b,h=J b->b∈pv)(f':J r≠h)(u:y6)(W:Row pv u r 82 (d.nS*20) (A7 d))(R:Fm')(F:List Fm')(k:(Int×Int)×List Int->Bool->j6)(X:∀x e y p z q,Fr h pv p z y->(∀i∈pv,J i≠h->p i=u i)->i9 C n (k ((x,e),y) q) pv p z q (G (R.finish (.tuple #[Y U x,Y U e])) F)) :
  ∀(f i:Nat),i+f=d.nS->∀(g:List Int) (H:y6) (B:Vu),Fr h pv H B g->(∀i∈pv,J i≠h->H i=u i)->∀(E:Bool) a,oP 31 [(0,sv (pO C.o)),(10,sv (Sc (J (O r 0 Q)) d.nS d.nS)),(11,si d.nS),(12,si i)] a ->
  i9 C n ((tX d f i g).then E k) pv H B E (G ((aQ 119).at a Mv) (R::F)):=by
 intro f
 induction f with
 | zero =>
  intro i hi g H B hF m E a S;unfold tX;rw[M.fi];refine nU 5 S (λ_=>rfl) λa S=>gu S Z (by simp;omega)<|nU 9 S (λ_=>rfl) λa S=>gf S Z Z Z fD Z Z Z<|Hu 10 λe q=>?_;rw[M.nO];refine gk S Z Z (si e) Z Z Z Z λa S=>nU 9 S (λ_=>rfl) λa S=>gz S ja Z Z Z ?_;exact X 0 e g H B q hF m
 | succ f ih =>
  intro i hi g H B hF m E a S;have g':i<d.nS:=by omega
  have h0:(0:Int)<=(i:Int)/\(i:Int)<(d.nS:Nat):=by omega
  unfold tX;refine nU 5 S (λ_=>rfl) λa S=>gt S Z (by simp;omega)<|we 40 [(N7 d i).toList] S (λ_=>rfl) (λl K un w St=>⟨⟨mX,h0⟩,Ff St (W.same (m r W.1 f')) g' (aE _)⟩) λbx c t a A T hc S=>ya A ?_;have nx:∀g H B E a,Fr h pv H B g->(∀i∈pv,J i≠h->H i=u i)->oP 31 [(0,sv (pO C.o)),(10,sv (Sc (J (O r 0 Q)) d.nS d.nS)),(11,si d.nS),(12,si (IntKind.i64.wrap ((i:Int)+1)))] a->i9 C n ((tX d f (i+1) g).then E k) pv H B E (G ((aQ 119).at a Mv) (R::F)):=λg H B E a hF m S=>by
   rw[W7 Za Za,show((i:Int)+1)=((i+1:Nat):Int) from by simp]at S;exact ih (i+1) Za g H B hF m E a S
  by_cases L:d.S i 0=0
  .rw[mZ L,M.fi];refine gu S Z (by simp[L])<|nU 9 S (λ_=>rfl) λa S=>gf S Z Z Z eI Z Z Z<|GC hF e' 5 i 0 0 λe y p z q c' h'=>?_;have d':∀j∈pv,J j≠h->p j=u j:=λj A T=>(h' j A T).trans (m j A T);refine gk S Z Z (si e) Z Z Z Z λa S=>nU 9 S (λ_=>rfl) λa S=>?_
   by_cases P:e=7
   .rw[mZ P];refine gu S Z (by simp[P])<|nU 7 S (λ_=>rfl) λa S=>nx _ _ _ _ a c' d' (S.oS [0,10,11,12] Z)
   .rw[mY P,M.nO];refine gt S Z (by simp[P])<|nU 9 S (λ_=>rfl) λa S=>gz S ja Z Z Z ?_;exact X i e y p z q c' d'
  .rw[mY L];refine gt S Z (by simp[L])<|nU 6 S (λ_=>rfl) λa S=>nx _ _ _ _ a hF m (S.oS [0,10,11,12] Z)
abbrev Cr(K:aa)(b c d:Nat):Sv:=.g [.v (Sc (J (O b 0 Q)) K.nF K.nF),.v (Sc (J (O c 0 Q)) K.nS K.nS),.v (Sc (J (O d 0 Q)) K.nD K.nD)]
theorem Sp(d:aa)(l h m:Nat)(w:d.nS<=32){g:Option Nat}(y:∀b,g=J b->b∈pv)(z:J h≠g)(A:Row pv H h 82 (d.nS*20) (A7 d))(hF:Fr g pv H B u){F:List Fm'}{k:(Int×Int)×List Int->Bool->j6}(K:∀x e p j q r,Fr g pv j q p->(∀i∈pv,J i≠g->j i=H i)->i9 C n (k ((x,e),p) r) pv j q r (G (t.finish (.tuple #[Y U x,Y U e])) F)) :
  i9 C n ((tX d d.nS 0 u).then E k) pv H B E (G (ay V 119 #[pO C.o,rN d l h m] .normal) (t::F)):=by
 refine gn [sv (pO C.o),Cr d l h m] ja Z Z Z Z λa S=>we 16 [] S (λ_=>rfl) (λ_ _ _ _ _=>trivial) λP c R a L T W S=>ya L<|b8y d h w g y z H A t F k K d.nS 0 Za u H B hF (λ_ _ _=>rfl) E a (S.oS [0,10,11,12] Z)
def uN(K:aa)(p:Nat):List Int:=I7 (λj=>K.S p (3+j*2)) 4
def vj(K:aa)(p:Nat):List Int:=I7 (λj=>K.S p (11+j*2)) 4
theorem MN(K:aa)(p:Nat)(w:Wd):aF V 121 #[.agg (N7 K p)] w λe c=>∃b,e=.returned b/\pa w c b (uN K p) :=
 Yi w _ _ _ _ _ _ _ _ _ _ _ _ (λj=>K.S p (3+j*2)) (K.B p 4) (K.B p 6) (K.B p 8) (K.B p 10)
theorem OK(K:aa)(p:Nat)(w:Wd):aF V 123 #[.agg (N7 K p)] w λe c=>∃b,e=.returned b/\pa w c b (vj K p) :=
 Vo w _ _ _ _ _ _ _ _ _ _ _ _ (λj=>K.S p (11+j*2)) (K.B p 12) (K.B p 14) (K.B p 16) (K.B p 18)
theorem Bd{f:bC}(S:Sg f=true){xs:List Int}(hx:xs.length<=40)(T:∀v:Wd,(∀i∈pv,i<v.heap.size/\(Obj.nz (H i)->v.heap[i]?=J (H i)))->aF V f p v λe u=>∃c,e=.returned c/\pa v u c xs){F:List Fm'}(W:∀(d:Sl) h j,d.xs=xs->d.xs.length<=d.cap->(d.blk=Q\/∃b,d.blk=J b/\b∈h)->d.ok (h++pv) j->(∀b∈h,b∉pv/\b≠C.o.bo)->(∀i∈pv,j i=H i)->i9 C n s (h++pv) j B E (G (t.finish d.val) F)) :
  i9 C n s pv H B E (G (ay V f p .normal) (t::F)):=by
 refine Vg S (R:=λx h j=>∃d:Sl,x=d.val/\d.xs=xs/\d.xs.length<=d.cap/\(d.blk=Q\/∃b,d.blk=J b/\b∈h)/\d.ok (h++pv) j) (λv w=>(T v w).mono ?_) t F ?_
 .rintro e u ⟨c,rfl,L⟩;have M:∀i∈pv,i<v.heap.size:=λi l=>(w i l).1;obtain⟨o1,X|⟨g,y,z,rfl,hg,hc,q,A,K,r⟩⟩:=L.own
  .obtain⟨rfl,h0⟩:=X;obtain rfl:xs=[]:=eA.1 h0;exact⟨_,[],H,Z,⟨L.oC.size,L.oC.block,λb m=>(by cases m),λ_ _=>rfl⟩,⟨Q,0,[]⟩,Z,Z,af _,.inl Z,by simp,.inl Z⟩
  .refine⟨_,[g],λk=>if k=g then .cells z 3 (0,0) else H k,Z,⟨L.oC.size,L.oC.block,λb m=>?_,λi l=>?_⟩,⟨J g,y,xs⟩,by simp[Sl.val],Z,q,(.inr ⟨g,Z,cz.2 Z⟩),(by show xs.length<=min 40 y;omega),.inr ⟨g,z,3,Z,by simp,by simp,λi x l=>?_⟩⟩
   .cases Zi m;exact⟨hg,by simpa using hc⟩
   .have:=M i l;show(if i=g then _ else H i)=H i;rw[mY Za]
   .have P:xs[i]?=J x:=l;have hl:i<xs.length:=(bD.1 P).1;have R:(vN xs)[i]?=J (Y U x):=by simp[vN,P]
    rw[←r,eO,mZ Za]at R;simpa using R
 .rintro x h j ⟨d,rfl,q,A,K,r⟩ m hk;exact W d h j q A K r m hk
variable{g:Gr}
theorem Ys{p:y6}(r:∀i∈q,i∈pv)(y:∀i∈q,H i=p i)(h:i9 C n s q p B E g):i9 C n s pv H B E g:=by
 have u:∀ {l K c E w},oK C l K pv H B c E w->oK C l K q p B c E w:=by
  rintro l K c E w ⟨z,A,L⟩;refine⟨z,A.fewer (λi b=>?_) (ao ..) λ_ _=>rfl,λi b=>?_⟩
  .rcases ae.1 b with rfl|b
   .exact ao ..
   .exact ah _ (r i b)
  .let⟨R,W⟩:=L i (r i b);exact⟨R,by rw[W,y i b]⟩
 have x:∀ {e j},Sub (C.o.bo::pv) e j->Sub (C.o.bo::q) e j:=λh i b=>by
  rcases ae.1 b with rfl|b
  .exact h _ (ao ..)
  .exact h _ (ah _ (r i b))
 exact⟨λm l j e T K c w G t M S P d=>h.1 m l j e T K c w G (u t) M (x S) P d,λX l j e K c w t M S d=>h.2 X l j e K c w (u t) M (x S) d⟩
theorem T9{c:y6}(h:i9 C n s [] c B E g):i9 C n s pv H B E g:=Ys (λi b=>by cases b) (λi b=>by cases b) h
section
variable{b:Fm'}
theorem NK{v:Vu}(h:I[i]?=J o)(j:o.guard=Q)(m:b.kind≠.early)(p:qm V (λ_=>false) [] false o.op=true)(q:∀l K c w d,oK C l K pv H B c E w->(Ex a.eval o).run V (w.at d)=.ok (.value v) (w.at d))(r:i9 C n s pv H B E (G (b.at (a.put o.dst v) (.inRegion I N::k)) F)):i9 C n s pv H B E (G (b.at a (.inRegion I (i::N)::k)) F) :=
 zC (λl K c w Stop e t d=>Gn h (by unfold bM;rw[j]) m p e.clear (λd x u=>by rw[q l K c w d e];exact u _ _ ⟨Z,t d⟩) d) r
theorem b3k{c:Ti}{b0:Nat}{t:Ti}{f:Nat×Nat}{ms:List Vu}{e:TypeDesc}(m:I[i]?=J o)(q:o.guard=Q)(r:b.kind≠.early)(h:o.op=.load c z)(u:a.eval z=Po (J (O b0 0 Q)))(x:b0∈pv)(y:H b0=.cells p t f)(A:∀(j:Nat) (v:Vu),ms[j]?=J v->p[j]?=J v)(L:V.underlying c=J e)(P:e.isRow=true)(R:(V.info? c).map (·.size)=J ms.length)(S:i9 C n s pv H B E (G (b.at (a.put o.dst (.agg ms.toArray)) (.inRegion I N::k)) F)):i9 C n s pv H B E (G (b.at a (.inRegion I (i::N)::k)) F):=by
 refine NK m q r (by rw[h];rfl) (λl K X w d T=>?_) S;have W:(w.at d).rangeAt b0 0 ms:=λj v M=>by
  rw[aE];exact T.cell x y (A j v M)
 unfold Ex;simp only[h,u,Instr.loadAt,il,bH,eh,aN,run_loadVar_mid (w.at d) b0 0 c ms e W L P R]
theorem Qj{id:Nat}(q:V.follows .mixedOrders=true)(h:∀N,Ord I I.size (bY I.size false) N->i9 C n s pv H B E (G (b.at a (.inRegion I N::k)) F)) :
  i9 C n s pv H B E (G (b.at a (.code (.region id I true)::k)) F):=by
 refine⟨λm l c e T K j w r p M S P d=>?_,λu l c e K j w p M S d=>?_⟩
 .refine BO (λt d=>?_) d;exact(h _ (xZ q I t)).1 m l c e T K j w r p M S P d
 .refine BO (λt d=>?_) d;exact(h _ (xZ q I t)).2 u l c e K j w p M S d
end
end Go.Proofs.YtcgabodkegcpgaaGreatDoor
namespace Go.Proofs.YtcgabodkegcpgaaGreatDoor.App
open Go.RowKit
variable{a b c d e:Nat}{f h i:Wd}{j k l m n:Vu}{o p:Array Vu}{q:List Nat}{r s:Bool}{t:Fm'}{u:List Int}{v w:aL}{x y:aa}{z A:aS}{B C:Ti}{D E:jj}{F:Option Nat}{H:List ng}{I K:Mem}{L N:Int}{P:Func}{R:Array Bool}{S T:l9}{W:cZ}
theorem qT{P:Pg}(w:Wd)(base:Nat)(t s e:Ti)(i:ig)(z:Vu)(p bytes:Nat)(A:P.underlying t=J (.slice e))(B:P.info? e=J i)(I:i.zero=J z)(R:i.size=p)(S:i.bytes=bytes)(T:z.cells.size=p)(v:Vu)(n:Nat)(f:List Vu)(m:w.ownsRow base e p v n f)(a:cx)(c:Nat)(b:List Vu)(hl:b.length=p)(C:∀j u,b[j]?=J u->w.cell? (a.add j)=J u)(W:∀u∈b,u.oneCell'=true)(K:n+1<=iT)(D:aR (n+1) n*bytes<=281474976710656)(G:base<=w.heap.size) :
  ∃g d x,(mm #[t,t] s #[v,Sc (J a) 1 c]).run P w=.ok (Sc (J (O g 0 Q)) (n+1) d) x/\x.ownsRow base e p (Sc (J (O g 0 Q)) (n+1) d) (n+1) (f++b)/\w.grownBy x v.ownBlock/\(v.ownBlock=J g\/g=w.heap.size/\w.grownBy x Q):=by
 subst R;subst S;have o:b.length=1*i.size:=by omega
 have y:(f++b).length=(n+1)*i.size:=by rw[List.length_append,m.1,o,iH]
 have b':n+1<=9223372036854775807:=by simp only[iT]at K;omega
 have L:∀(l:Nat),∀(N:Option Nat),
   (w.drew.alloc (.cells (f.toArray++b.toArray++lZ z.cells (grownCap w (n+1) l e - (n+1))) e)).ownsRow base e i.size
    (Sc (J (O w.heap.size 0 Q)) (n+1) (grownCap w (n+1) l e)) (n+1) (f++b) /\
   w.grownBy (w.drew.alloc (.cells (f.toArray++b.toArray++lZ z.cells (grownCap w (n+1) l e - (n+1))) e)) N:=by
  intro l N;have M:=grownCap_ge w (n+1) l e;have E:grownCap w (n+1) l e<=iT:=grownCap_le_maxLen w (n+1) l e K;refine⟨⟨y,.inr ⟨w.heap.size,_,_,Z,G,cC w.drew _,M,E,?_,?_⟩⟩,⟨Z,Z,Z,by simp,λk F _=>aJ w.drew _ k F⟩⟩
  .simp only[Array.size_append,aY,size_zeroCells,T,m.1,o,←iH]
   congr 1
   omega
  .simp only[Array.toList_append,jr];rw[←jr,←y];exact List.take_left
 rcases m.2 with⟨rfl,rfl⟩|⟨g,d,cur,rfl,hbg,hg,hnc,E,hcs,htake⟩
 .have X:f=[]:=dI (by simpa using m.1);subst X;have r:=run_append_nil (P:=P) w t s e i z A B I a 1 c b o C Za Za (by rw[aE,nextslicecap_zero Za]at D;exact D);have h:=L 0 Q;simp only[aE,eP,Array.empty_append]at h ⊢;exact⟨_,_,_,r,h.1,h.2,ba ⟨Z,h.2⟩⟩
 .by_cases H:n+1<=d
  .have hf:n*i.size+b.length<=cur.size:=by rw[o,hcs,←iH];exact jF _ H
   have r:=run_append_room (P:=P) w t s e i A B g n d cur hg a 1 c b o C W H hf;refine⟨_,_,_,r,⟨y,.inr ⟨g,d,_,Z,hbg,setRow_heap w g cur _ e _ hg,H,E,?_,?_⟩⟩,⟨Z,Z,Z,by simp,λk _ F=>setRow_other w g k _ λe=>F (by simp[Value.ownBlock,e])⟩,bP Z⟩
   .simp only[aY,List.length_append,jq,gO,Array.length_toList];omega
   .rw[htake,←y];exact List.take_left
  .obtain rfl:d=n:=by omega
   have r:=run_append_grow (P:=P) w t s e i z A B I (O g 0 Q) d d f m.1 (m.cells (g:=g) Z) a 1 c b o C Za Za D;have h:=λq=>L d q;exact⟨_,_,_,r,(h Q).1,(h _).2,ba ⟨Z,(h Q).2⟩⟩
theorem oJ(h:a<=7036874417568):aR (a+1) a<=8796093022152:=by
 unfold aR;split
 .omega
 .split
  .omega
  .rw[growBy_four]
   repeat' split
   all_goals omega
end Go.Proofs.YtcgabodkegcpgaaGreatDoor.App
namespace Go.Proofs.YtcgabodkegcpgaaGreatDoor
open Go.Conc Go.RowKit
variable{a b c d e:Nat}{f h i:Wd}{j k l m n:Vu}{o p:Array Vu}{q:List Nat}{r s:Bool}{t:Fm'}{u:List Int}{v w:aL}{x y:aa}{z A:aS}{B C:Ti}{D E:jj}{F:Option Nat}{H:List ng}{I K:Mem}{L N:Int}{P:Func}{R:Array Bool}{S T:l9}{W:cZ}
structure oY (t e size bytes:Nat):Prop where
 u:V.underlying t=J (.slice e)
 i:(V.info? e).map (λi=>(i.size,i.bytes,i.zero.map (·.cells.size)))=J (size,bytes,J size)
theorem SY{a:List Vu}(b:j.cells=a.toArray)(c:o.size=a.length):dJ (λi=>J (i*a.length,a.length)) o [(0,j)]=J a.toArray:=by
 unfold dJ;simp only[jY,b,aY];rw[mY (by simp;omega)];unfold dJ
 congr 1
 rw[Array.zipIdx_toArray,List.foldl_toArray']
 .apply Array.ext_getElem?;intro d;let⟨e,f⟩:=GF 0 a 0 o
  grind
 .simp
theorem Wm{a:cZ}{bytes:Nat}{d:List Vu}(h:oY b c d.length bytes)(e:0<d.length/\d.length<=100)(n:v.op=.buildSlice b 1 #[(0,z)])(o:a.eval z=j)(p:j.cells=d.toArray)(w:Wd)(g:Array dn) :
  (Ex a.eval v).runT V w g=(.ok (.value (Sc (J (O w.heap.size 0 Q)) 1 1)) (w.alloc (.cells d.toArray c (0,0))),g):=by
 let⟨q,f⟩:=h
 cases k:V.info? c with
 | none=>grind
 | some i =>
  rw[k]at f;simp only[aD,bm,cR]at f;let⟨r,t,u⟩:=f
  cases s:i.zero with
  | none=>grind
  | some l =>
   unfold Ex;simp only[n,jB,underlying,sizeOf,zeroValue,typeInfo];have m:dJ (λi=>J (i*d.length,d.length)) ((Array.range (1*d.length)).map (l.cells[·%l.cells.size]!)) [(0,j)]=J d.toArray:=SY p Zc;simp[aM,q,k,s,r,o,newRow,newObj];rw[mY Za,mY (by intro c;rw[c]at e;simp at e)];rw[Nat.one_mul]at m;rw[m];refine⟨Z,λ_=>?_⟩;rw[mY (by intro c;rw[c]at e;simp at e)];rfl
variable{z:Bool}{sft:Nat->Nat}{Stop:Gr->Wd->Prop}{b:Fm'}{a:cZ}{ops:Array aL}{i:Nat}{o:aL}{F:List Nat}{k:List bh}{E:List Fm'}{w:Wd}
theorem c5a{R:Vu->Wd->Wd->Prop}(u:ops[i]?=J o)(A:o.guard=Q)(B:b.kind≠.early)(C:qm V (λ_=>false) [] true o.op=true)(D:Fit sft w)(H:∀d v,Lk sft v (w.at d)->∃x j,(Ex a.eval o).run V v=.ok (.value x) j/\R x v j)(h:∀d n v j x,Lk sft v (w.at d)->Lk sft j n->Kept sft (w.at d) n->R x v j->iv V z true sft Stop (G (b.at (a.put o.dst x) (.inRegion ops F::k)) E) n) :
  iv V z true sft Stop (G (b.at a (.inRegion ops (i::F)::k)) E) w:=λI=>by
 refine B9 u (B6 A) B (λd W K=>?_) I;have L:G7 V (true=true) (vk λf=>(λ_=>false:bC->Bool) f=true) (Ex a.eval o):=DN (P:=V) (S:=λ_=>false) (meths:=[]) (st:=true) id (λf N=>by cases N) (λm P=>by cases P) (λv=>rfl) (λf=>rfl) o C;have g:Lk sft (rU sft (w.at d) (w.at d).tape) (w.at d):=Dq (w:=w.at d) D.soft mX _;let⟨x,j,M,S⟩:=H d { rU sft (w.at d) (w.at d).tape with drawn:=(w.at d).drawn } ⟨g.heap,g.soft,g.nz,g.os,g.output⟩;have t:Lk sft { rU sft (w.at d) (w.at d).tape with drawn:=(w.at d).drawn } (w.at d):=⟨g.heap,g.soft,g.nz,g.os,g.output⟩;have p:=D4 (sft:=sft) V (Ex a.eval o) (true=true) (v:={ rU sft (w.at d) (w.at d).tape with drawn:=(w.at d).drawn }) (w:=w.at d) #[] ((Ex a.eval o).runT V (w.at d) #[]).1.world.drawn L t (λ_ _ _=>rfl) Za;have l:((Ex a.eval o).runT V { rU sft (w.at d) (w.at d).tape with drawn:=(w.at d).drawn } #[]).1=.ok (.value x) j:=by simp_all
 have q:((Ex a.eval o).runT V (w.at d) #[]).1=(Ex a.eval o).run V (w.at d):=jf ..;have r:∀e∈me V b.fn a o (w.at d),e∈((Ex a.eval o).runT V (w.at d) #[]).2:=λe s=>yo s;revert p l q r;generalize (Ex a.eval o).runT V { rU sft (w.at d) (w.at d).tape with drawn:=(w.at d).drawn } #[]=X;generalize (Ex a.eval o).runT V (w.at d) #[]=a';intro p l q r
 cases p with
 | @ok y v2 w2 es' c hp h1 h2 h3 h4 =>
  obtain⟨rfl,rfl⟩:=Result.ok.inj l
  have T:DL true sft (w.at d) w2 (me V b.fn a o (w.at d)):=⟨h2,λe s=>(by
   rcases h3 e (r e s) with h|h
   all_goals grind),h4.all⟩
  rw[←q];exact K _ _ ⟨T,(h d w2 _ _ x t h1 h2 S) w2.drawn⟩
 | panic _ _ _ _=>cases l
 | lost _=>cases l
theorem DD{bytes:Nat}(d:c<=7036874417568)(e:bytes<=32):aR (c+1) c*bytes<=281474976710656:=by
 have:=App.oJ d
 calc aR (c+1) c*bytes<=8796093022152*32:=Nat.mul_le_mul this e
  _<=_:=by decide
variable{f:bC}{t e bytes size B n:Nat}{x y:aS}{V:Vu}{xs cells:List Vu}
theorem Cx(h:oY t e cells.length bytes)(g:0<cells.length/\cells.length<=100)(j:ops[i]?=J o)(l:o.guard=Q)(m:o.op=.buildSlice t 1 #[(0,y)])(p:a.eval y=V)(q:V.cells=cells.toArray)(r:iv J' z true sft Stop (G ((aQ f).at (a.put o.dst (Sc (J (O w.heap.size 0 Q)) 1 1)) (.inRegion ops F::k)) E) (w.alloc (.cells cells.toArray e (0,0)))):iv J' z true sft Stop (G ((aQ f).at a (.inRegion ops (i::F)::k)) E) w:=by
 have c:=λd=>Wm (a:=a) h g m p q (w.at d) #[];refine CV (ob:=.cells cells.toArray e (0,0)) (v:=Sc (J (O w.heap.size 0 Q)) 1 1) j l (by show aV≠.early;decide) (λd=>?_) (λd=>congrArg Prod.snd (c d)) mX r;have:=congrArg Prod.fst (c d);rw[jf]at this;exact this
theorem Ek(T:oY t e size bytes)(W:cells.length=size)(M:∀v∈cells,v.oneCell'=true)(hn:n<=7036874417568)(X:aR (n+1) n*bytes<=281474976710656)(ho:ops[i]?=J o)(A:o.guard=Q)(L:o.op=.call { callee:=.builtin .append,args:=#[x,y],argTypes:=#[t,t] })(ex:a.eval x=V)(ey:a.eval y=Sc (J (O c 0 Q)) 1 d)(N:w.heap[c]?=J (.cells cells.toArray e (0,0)))(c':sft c=0)(P:w.ownsRow B e size V n xs)(sf:∀g,V.ownBlock=J g->sft g=0)(hB:B<=w.heap.size)(d':Fit sft w)(n':∀k,w.heap.size<=k->sft k=0)(hx:∀g l m,m.ownsRow B e size (Sc (J (O g 0 Q)) (n+1) l) (n+1) (xs++cells)->w.heap.size<=m.heap.size->(∀k,k<w.heap.size->V.ownBlock≠J k->m.heap[k]?=w.heap[k]?)->Fit sft m->(V.ownBlock=J g\/g=w.heap.size/\∀k,k<w.heap.size->m.heap[k]?=w.heap[k]?)->sft g=0 ->
   iv J' z true sft Stop (G ((aQ f).at (a.put o.dst (Sc (J (O g 0 Q)) (n+1) l)) (.inRegion ops F::k)) E) m):iv J' z true sft Stop (G ((aQ f).at a (.inRegion ops (i::F)::k)) E) w:=by
 let⟨I,C⟩:=T;let⟨e',f',C⟩:=dC.1 C;simp only[cR]at C;let⟨i1,i2,i3⟩:=C;let⟨zv,h',i'⟩:=dC.1 i3;refine c5a (R:=λx v q=>∃g l,x=Sc (J (O g 0 Q)) (n+1) l/\q.ownsRow B e size (Sc (J (O g 0 Q)) (n+1) l) (n+1) (xs++cells)/\v.grownBy q V.ownBlock/\(V.ownBlock=J g\/g=v.heap.size/\v.grownBy q Q)) ho A (by show aV≠.early;decide) (by rw[L];rfl) d' (λr v p=>?_) λr m v q x p s R hR=>?_
 .have sv:v.heap.size=w.heap.size:=p.size;have hb:v.heap[c]?=J (.cells cells.toArray e (0,0)):=by
   rw[vI (w:=w.at r) p c' (.inl ⟨_,_,_,N⟩)];exact N
  have j':v.ownsRow B e size V n xs:=j5 P λg A=>vI (w:=w.at r) p (sf g A) (.inl (FO P A))
  let⟨g,l,q,k',D,H,K⟩:=App.qT (P:=J') v B t o.type e e' zv size bytes I f' h' i1 i2 i' V n xs j' (O c 0 Q) d cells W (λj u I=>by
   rw[eG,aE];simp only[aC,hb]
   simpa using I) M (by simp only[iT];omega) X Za
  refine⟨_,q,?_,g,l,Z,D,H,K⟩;unfold Ex;simp only[L,resolve,invoke,builtin,bH,eh,aN,dq,cX,eE,ex,ey,k']
 .obtain⟨g,l,rfl,D,H,K⟩:=hR;have sv:v.heap.size=w.heap.size:=p.size;have o':=s.size;have S:sft g=0:=by
   grind
  exact hx g l m (j5 D (λg' l'=>by
   obtain rfl:g=g':=Ze l'
   exact(vI s S (.inr (FO D Z))).symm)) (by have:=H.size;omega) (λk hk m'=>C5 (w:=w.at r) R p s (H.block k Za λe=>m' e.symm)) s.fit (K.imp_right λh=>⟨h.1.trans sv,λk hk=>C5 (w:=w.at r) R p s (h.2.block k Za λe=>by cases e)⟩) S
theorem WU(D:Nat)(v:Sv)(c:l9):∃g,qA D v c=J g:=by
 unfold qA;split
 .exact⟨_,Z⟩
 .have:∀(c d:l9),∃e,tz D c d=J e:=by
   intro c
   induction c with
   | nil=>exact λd=>⟨_,Z⟩
   | cons p r h =>
    intro d;unfold tz;split
    all_goals simp_all
  let⟨e,j⟩:=this c []
  grind
structure oM (sft:Nat->Nat) (W:List Nat) (w0:Wd) (ρ:ou) (B e size:Nat) (V:Vu) (n:Nat) (xs:List Vu) (w:Wd):Prop where
 row:w.ownsRow B e size V n xs
 sf:∀g,V.ownBlock=J g->sft g=0
 wr:∀g,V.ownBlock=J g->g∈W\/w0.heap.size<=g
 ne:∀g,V.ownBlock=J g->∀i,i<ρ.length->(nJ ρ i).1≠g
variable{W:List Nat}{K:Nat}{I:Wd}{ρ:ou}{H:Nat}{m:Mem}{P R:l9}
theorem oM.to(c:oM sft W I ρ B e size V n xs w){w':Wd}(h:∀g,V.ownBlock=J g->w'.heap[g]?=w.heap[g]?):oM sft W I ρ B e size V n xs w':=⟨j5 c.row h,c.sf,c.wr,c.ne⟩
theorem fx.skip(M:fx sft W K I ρ m H P a w)(h:tz c P []=J R)(v:Vu):fx sft W K I ρ m H R (a.put (J c) v) w:=by
 have g:=λp d=>(BH h p d).resolve_right Zc;refine⟨⟨by simp[dG,M.lv.size],M.lv.defers,λp d=>?_⟩,M.ce,λp d=>M.wf p (g p d).1,M.bl,M.ij,M.own,M.size,M.old,M.fit,M.new⟩;let⟨t,v⟩:=p;obtain⟨s,j,rfl⟩:=s7.1 d;simp only[dG];rw[cV (aA (g _ j).2)];exact M.lv.has _ (s7.2 ⟨s,(g _ j).1,Z⟩)
theorem nC.alloc(g:Fit sft w)(h:Obj):nC sft [] w (w.alloc h) :=
 ⟨by simp,λk l _=>aJ w _ k l,⟨λj p=>by
  let⟨c,t,d⟩:=g.soft j p
  exact⟨c,t,by rw[aJ w _ j (Zj d).1];exact d⟩,mX⟩⟩
theorem Af{i D t:Nat}{o X:aL}{x y:aS}{sv:Sv}{l:List nI}(hK:oY t e size bytes)(M:fx sft W K I ρ m H P a w)(c:oM sft W I ρ B e size V n xs w)(hB:B<=I.heap.size)(hn:n<=7036874417568)(h':aR (n+1) n*bytes<=281474976710656)(ho:ops[i]?=J o)(hg:o.guard=Q)(i':o.op=.buildSlice t 1 #[(0,y)])(hd:o.dst=J d)(j':ops[i+1]?=J X)(k':X.guard=Q)(l':X.op=.call { callee:=.builtin .append,args:=#[x,.tmp d],argTypes:=#[t,t] })(m':X.dst=J D)(hy:pJ P y=J sv)(hl:ud sv=J l)(hz:(aG l.length size&&l.all uz&&cE 0 size&&fS size 100&&cE d H&&cE D H)=true)(r:tz d P []=J R)(hx:pJ R x=J (.c (.v V)))(n':∀a' L g s b',nC sft V.ownBlock.toList w L->fx sft W K I ρ m H b' a' L->qA D (.c (.v (Sc (J (O g 0 Q)) (n+1) s))) R=J b'->oM sft W I ρ B e size (Sc (J (O g 0 Q)) (n+1) s) (n+1) (xs++l.map (·.den ρ)) L->(V.ownBlock=J g\/w.heap.size<=g/\nC sft [] w L)->iv J' z true sft Stop (G ((aQ f).at a' (.inRegion ops q::k)) E) L) :
  iv J' z true sft Stop (G ((aQ f).at a (.inRegion ops (i::(i+1)::q)::k)) E) w:=by
 simp only[aB,Nat.blt_eq,Nat.ble_eq]at hz;let⟨⟨⟨⟨⟨z1,z2⟩,z3⟩,z4⟩,z5⟩,z6⟩:=hz;have z1:=Zl z1;let⟨ey,r'⟩:=M.rd hy;let⟨ec,s'⟩:=xo (ρ:=ρ) hl;refine Cx (cells:=l.map (·.den ρ)) (by rw[br,z1];exact hK) (by grind) ho hg i' ey ec ?_;have A:=nC.alloc M.fit (.cells (l.map (·.den ρ)).toArray e (0,0));have o':=cC w (.cells (l.map (·.den ρ)).toArray e (0,0));have t':(w.alloc (.cells (l.map (·.den ρ)).toArray e (0,0))).heap.size=w.heap.size+1:=by simp
 have v:=(M.still A).skip r (Sc (J (O w.heap.size 0 Q)) 1 1);rw[hd];have e1:(a.put (J d) (Sc (J (O w.heap.size 0 Q)) 1 1)).eval (.tmp d)=Sc (J (O w.heap.size 0 Q)) 1 1:=by
  show(a.put (J d) _).tmps.getD d Ud=_;rw[aX];simp[dG,M.lv.size,z5]
 have C:=c.to (w':=w.alloc (.cells (l.map (·.den ρ)).toArray e (0,0))) λg hg=>A.old g (j8 c.row hg).2 Zc;generalize w.alloc (.cells (l.map (·.den ρ)).toArray e (0,0))=w1 at *;generalize a.put (some d) (.slice (some ⟨w.heap.size,0,none⟩) 1 1)=a1 at *;have u':=M.size
 refine Ek (V:=V) hK (by rw[br,z1]) (λu hu=>by
   obtain⟨y,hy,rfl⟩:=dA.1 hu
   exact y8 (aT.1 z2 y hy)) hn h' j' k' l' (v.rd hx).1 e1 o' (M.new _ M.size) C.row C.sf Za v.fit (λk hk=>M.new k Za) λg s w2 O2 p' e' f' p q'=>?_
 have M2:fx sft W K I ρ m H R a1 w2:=v.to p' (λj N=>e' _ (Q6 v N) λe=>C.ne _ e j N Z) (λj r h2=>e' j (Zg r v.size) (λe=>by
  rcases C.wr j e with h|h
  all_goals grind)) f'
 let⟨b',hp⟩:=WU D (.c (.v (Sc (J (O g 0 Q)) (n+1) s))) R;rw[m'];refine n' _ w2 g s b' ⟨by omega,λj r h2=>?_,f'⟩ (M2.put (s:=.c (.v (Sc (J (O g 0 Q)) (n+1) s))) z6 mX hp) hp ⟨O2,λS T=>?_,λS T=>?_,λS T j N=>?_⟩ (p.imp id λe=>⟨by omega,by omega,λj r _=>(e.2 j Za).trans (A.old j r Zc),f'⟩)
 .rw[e' j Za λe=>h2 (by rw[e];simp),A.old j r Zc]
 .obtain rfl:g=S:=Ze T;exact q'
 .obtain rfl:g=S:=Ze T;rcases p with p|p
  .exact C.wr g p
  grind
 .obtain rfl:g=S:=Ze T;rcases p with p|p
  .exact C.ne g p j N
  .have:=Q6 v N;have:=p.1;omega
theorem Hv{i D t:Nat}{o j:aL}{x y:aS}{sv:Sv}{l:List nI}(v:oY t e size bytes)(M:fx sft W K I ρ m H P a w)(c:oM sft W I ρ B e size V n xs w)(A:B<=I.heap.size)(u:n<=7036874417568)(C:bytes<=32)(L:ops[i]?=J o)(N:o.guard=Q)(S:o.op=.buildSlice t 1 #[(0,y)])(T:o.dst=J d)(X:ops[i+1]?=J j)(b':j.guard=Q)(c':j.op=.call { callee:=.builtin .append,args:=#[x,.tmp d],argTypes:=#[t,t] })(d':j.dst=J D)(hy:pJ P y=J sv)(hl:ud sv=J l)(hz:(aG l.length size&&l.all uz&&cE 0 size&&fS size 100&&cE d H&&cE D H)=true)(h1:tz d P []=J R)(hx:pJ R x=J (.c (.v V)))(e':∀p h g r s,nC sft V.ownBlock.toList w h->fx sft W K I ρ m H s p h->qA D (.c (.v (Sc (J (O g 0 Q)) (n+1) r))) R=J s->oM sft W I ρ B e size (Sc (J (O g 0 Q)) (n+1) r) (n+1) (xs++l.map (·.den ρ)) h->(V.ownBlock=J g\/w.heap.size<=g)->iv J' z true sft Stop (G ((aQ f).at p (.inRegion ops q::k)) E) h) :
  iv J' z true sft Stop (G ((aQ f).at a (.inRegion ops (i::(i+1)::q)::k)) E) w :=
 Af v M c A u (DD u C) L N S T X b' c' d' hy hl hz h1 hx λp h g r s q M' hp O' og=>e' p h g r s q M' hp O' (og.imp_right (·.1))
structure Kq (ρ:ou) (w w':Wd):Prop where
 size:w.heap.size<=w'.heap.size
 old:∀k,k<w.heap.size->(∀i,i<ρ.length->(nJ ρ i).1≠k)->w'.heap[k]?=w.heap[k]?
variable{w':Wd}{R:List bh}{S:Mem}{A:l9}{C:Prop}
theorem fx.kq{ρ2:ou}(N:fx sft ((ρ.drop K).map (·.1)) K w (ρ++ρ2) m H P a w'):Kq ρ w w':=⟨N.size,λk c d=>N.old k c λh=>by
 let⟨i,_,g,j⟩:=vT h
 exact d i g j⟩
theorem oM.kq(c:oM sft W I ρ B e size V n xs w)(h:Kq ρ w w'):oM sft W I ρ B e size V n xs w':=c.to λg d=>h.old g (j8 c.row d).2 λi j=>c.ne g d i j
theorem oM.hJ(c:oM sft W I ρ B e size V n xs w)(L:nC sft q w w')(h:∀g,V.ownBlock=J g->g∉q):oM sft W I ρ B e size V n xs w':=c.to λg d=>L.old g (j8 c.row d).2 (h g d)
theorem p7(n N:Nat)(d:pB)(M:fx sft W K I ρ m H P a w)(j:N=ρ.length)(h:sr w ((ρ.drop K).map (·.1)) K H n k ⟨m,P,N,d,True⟩=(R,⟨S,A,N,[],C⟩))(l:C)(p:∀c w',fx sft W K I ρ S H A c w'->Kq ρ w w'->iv J' z true sft Stop (G ((aQ f).at c R) E) w'):iv J' z true sft Stop (G ((aQ f).at a k) E) w :=
 ia n N d M.nm j h l λc w' g=>p c w' (M.vB g) (fx.kq (ρ2:=[]) (by rw[cy];exact g))
theorem fx.fresh{c:ou}(N:fx sft ((ρ.drop K).map (·.1)) K w (ρ++c) m H P a w'){i:Nat}(p:K<=ρ.length)(q:ρ.length<=i)(d:i<(ρ++c).length):w.heap.size<=(nJ (ρ++c) i).1:=by
 rcases N.own i Za d with h|h
 .let⟨j,r,l,g⟩:=vT h;rw[←R9 ρ c j l]at g;exact absurd g.symm (N.ij i j d (by simp;omega) Za)
 .exact h
theorem d1x(n N:Nat)(j:pB)(M:fx sft W K I ρ m H P a w)(r:N=ρ.length)(L:fS K N=true)(h:sr w ((ρ.drop K).map (·.1)) K H n k ⟨m,P,N,j,True⟩=(R,⟨S,A,N+2,[],C⟩))(s:C)(u:∀d w' b c,fx sft W K I (ρ++[(b,0),(c,0)]) S H A d w'->Kq ρ w w'->w.heap.size<=b->w.heap.size<=c->iv J' z true sft Stop (G ((aQ f).at d R) E) w'):iv J' z true sft Stop (G ((aQ f).at a k) E) w :=
 pQ n N j M.nm r h s λd w' b c g=>by
  have l:K<=ρ.length:=by simp_all
  have p:=g.fresh (i:=ρ.length) l (af _) Zc;have q:=g.fresh (i:=ρ.length+1) l (Nat.le_succ _) Zc;have v:nJ (ρ++[(b,0),(c,0)]) ρ.length=(b,0):=by
   have:=ti ρ (b,0);rw[show ρ++[(b,0),(c,0)]=(ρ++[(b,0)])++[(c,0)] by simp,R9 _ _ _ Zc];exact this
  have D:nJ (ρ++[(b,0),(c,0)]) (ρ.length+1)=(c,0):=by
   have:=ti (ρ++[(b,0)]) (c,0)
   grind
  rw[v]at p;rw[D]at q;exact u d w' b c (M.rh g) g.kq p q
theorem oM.more(d:oM sft W I ρ B e size V n xs w){b:Nat}(p:w.heap.size<=b)(q:w.heap.size<=c):oM sft W I (ρ++[(b,0),(c,0)]) B e size V n xs w:=by
 refine⟨d.row,d.sf,d.wr,λg j i l=>?_⟩;have r:=(j8 d.row j).2
 by_cases h:i<ρ.length
 .rw[R9 _ _ _ h];exact d.ne g j i h
 .have:i<ρ.length+2:=by simpa using l
  obtain rfl|rfl:i=ρ.length\/i=ρ.length+1:=by omega
  .rw[show ρ++[(b,0),(c,0)]=(ρ++[(b,0)])++[(c,0)] by simp,R9 _ _ _ Zc,ti]
   grind
  .rw[show ρ++[(b,0),(c,0)]=(ρ++[(b,0)])++[(c,0)] by simp];have:=ti (ρ++[(b,0)]) (c,0)
   grind
theorem fx.BF(M:fx sft W K I ρ m H P a w){p:cx}(h:so I W p j):so w ((ρ.drop K).map (·.1)) p j :=
 ⟨Zg h.1 M.size,λc=>by
  let⟨i,d,l,q⟩:=vT c;rcases M.own i d l with g|g
  .exact h.2.1 (q▸g)
  .have:=h.1;omega,(Zf (w:=I) (M.old _ h.1 h.2.1)).trans h.2.2⟩
abbrev sM:=List (Nat×Option Sv)
def sy:sM->Nat->Option (Option Sv)
 | [],_=>Q
 | (i,v)::r,j=>match aG i j with
  | true=>J v
  | false=>sy r j
def DG(x:Nat×Option Sv)(y:Option Sv):Option Sv:=match x.2 with
 | some s=>J s
 | none=>y
def tR(xs:Nat->Option Sv):Nat->sM->sM
 | _,[]=>[]
 | q,x::r=>(x.1,DG x (xs q))::tR xs (q+1) r
def tQ(xs:Nat->Option Sv)(s:Nat)(u:Option Sv)(q:Nat):Option Sv:=match aG q s with
 | true=>u
 | false=>xs q
theorem VA{xs:Nat->Option Sv}{u:Option Sv}:tQ xs c u c=u:=by unfold tQ;rw[Nat.beq_refl]
theorem SJ{xs:Nat->Option Sv}{u:Option Sv}(h:d≠c):tQ xs c u d=xs d:=by
 unfold tQ;split
 all_goals simp_all
def ED(ρ:ou):Option Sv->Vu
 | some s=>s.den ρ
 | none=>Ud
theorem He{xs:Nat->Option Sv}:∀ {ch:sM} {b q:Nat},(tR xs b ch)[q]?=(ch[q]?).map λx=>(x.1,DG x (xs (b+q)))
 | [],b,q=>by simp[tR]
 | i::r,b,0=>by simp[tR]
 | i::r,b,q+1=>by
  simp only[tR,List.getElem?_cons_succ];rw[He (ch:=r),show b+1+q=b+(q+1) by omega]
theorem Gp{xs:Nat->Option Sv}:∀ {d:sM} {b:Nat},sy (tR xs b d) c=Q↔sy d c=Q
 | [],b=>Iff.rfl
 | i::r,b=>by
  let⟨i,v⟩:=i;simp only[tR,sy];split
  .simp
  .exact Gp
def qS(c:sM):Nat->List (Option Sv)->List (Option Sv)
 | _,[]=>[]
 | i,v::r=>(match sy c i with|some none=>Q|_=>v)::qS c (i+1) r
theorem Hx{ch:sM}{j:Nat}:∀ {V:List (Option Sv)} {i:Nat},pM (qS ch i V) j=match sy ch (i+j) with|some none=>none|_=>pM V j
 | [],i=>by simp only[qS,pM];split<;>rfl
 | v::r,i=>by
  cases j with
  | zero=>rfl
  | succ j =>
   simp only[qS,pM];rw[Hx (V:=r),show i+1+j=i+(j+1) by omega]
theorem JD{c:sM}:∀ {V:List (Option Sv)} {i:Nat},(qS c i V).length=V.length
 | [],_=>rfl
 | v::r,i=>by simp[qS,JD (V:=r)]
def wT(I:Wd)(W:List Nat)(K n:Nat)(ops:Array aL)(d:Mem)(P:l9)(H:Nat)(g:sM):Nat->Nat->List (Option Sv)->pB->Prop->Option (List (Option Sv)×pB×Prop)
 | 0,_,V,qu,C=>J (V,qu,C)
 | f+1,i,V,qu,C=>match sy g i with
  | some v=>wT I W K n ops d P H g f (i+1) (V++[v]) qu C
  | none=>match vg I W K n ops d P H i V qu with
   | some (some v,[],orc',c)=>wT I W K n ops d P H g f (i+1) (V++[J v]) orc' (Bv C c)
   | _=>Q
theorem FD{I:Wd}{W:List Nat}{K n:Nat}{ops:Array aL}{D:Mem}{P:l9}{H:Nat}{p:sM}:∀ {f i:Nat} {V d:List (Option Sv)} {l r:pB} {C g:Prop},V.length=i->wT I W K n ops D P H p f i V l C=J (d,r,g)->d.length=i+f/\(∀j,j<i->d[j]?=V[j]?)/\(g->C)/\∀j,i<=j->j<i+f->(∃v,sy p j=J v/\d[j]?=J v)\/(sy p j=Q/\∃X v q c,vg I W K n ops D P H j (d.take j) X=J (J v,[],q,c)/\d[j]?=J (J v)/\(g->An c))
 | 0,i,V,d,l,r,C,g,hl,h=>by
  obtain⟨rfl,h1⟩:=ax (Ze h)
  grind
 | f+1,i,V,d,l,r,C,g,hl,h=>by
  have a':(∀j,j<i->d[j]?=V[j]?)->d.length=i+1+f->d.take i=V:=λL N=>by
   apply List.ext_getElem?
   grind
  unfold wT at h;split at h
  .next v T =>
   let⟨N,s,u,G⟩:=FD (by simp[hl]) h
   grind
  .next T =>
   split at h
   .next v o1 c ho =>
    let⟨N,s,u,G⟩:=FD (by simp[hl]) h;have L:∀j,j<i->d[j]?=V[j]?:=λj M=>by rw[s j Za,gC Za]
    refine⟨by omega,L,λh=>(zA (u h)).1,λj h1 h2=>?_⟩
    by_cases M:j=i
    .subst M;refine .inr ⟨T,l,v,o1,c,by grind,by rw[s j Za,la Za,hl,Nat.sub_self];rfl,λh=>(zA (u h)).2⟩
    .exact G j Za Za
   .cases h
def Ay(ops:Array aL):List Nat->Bool
 | i::j::r=>(match uX ops.toList j with|some o=>vW i o.after.toList|none=>false)&&Ay ops (j::r)
 | _=>true
def Eg:List Nat->Bool
 | []=>true
 | i::r=>(r.all λp=>!aG i p)&&Eg r
theorem GO{i:Nat}:∀ {d:List Nat},Eg d=true->∀ {q c:Nat},d[q]?=J i->d[c]?=J i->q=c
 | [],_,q,c,h1,_=>by simp at h1
 | j::r,h,q,c,h1,h2=>by
  simp only[Eg,aB]at h;have no:∀ {p:Nat},j=i->r[p]?≠J i:=λ{p} e g=>by
   subst e;have:=aT.1 h.1 _ (cN g);simp at this
  match q,c,h1,h2 with
  | 0,0,_,_=>rfl
  | 0,c+1,h1,h2=>grind
  | q+1,0,h1,h2=>grind
  | q+1,c+1,h1,h2=>exact congrArg (· + 1) (GO h.2 h1 h2)
def AH(ops:Array aL)(c:List Nat):Bool:=tW ops&&(aO ops.size).all (λi=>((ops[i]?).map (·.after.all λe=>!cM .any e||decide (e.on<i))).getD true)&&Ay ops c&&Eg c&&c.all λp=>cE p (tM ops.toList)
theorem Eb{i:Nat}{v:Option Sv}:∀ {c:sM},sy c i=J v->(i,v)∈c
 | (j,u)::r,h=>by
  unfold sy at h;split at h
  .simp_all
  .exact ah _ (Eb h)
theorem GY{i:Nat}{u:Option Sv}:∀ {c:sM},sy c i=Q->(i,u)∉c
 | [],_,h=>by cases h
 | (j,y)::r,h,hm=>by
  unfold sy at h;split at h
  .cases h
  .next e =>
   rcases ae.1 hm with d|d
   .simp_all
   .exact GY h d
theorem JX{ops:Array aL}:∀ {c:List Nat},Ay ops c=true->∀q i j,c[q]?=J i->c[q+1]?=J j->∃o,ops[j]?=J o/\(o.after.any λe=>cM .any e&&e.on==i)=true
 | [],h,q,i,j,h1,h2=>by simp at h1
 | [x],h,q,i,j,h1,h2=>by simp at h2
 | i'::j'::r,h,0,i,j,h1,h2=>by
  cases Ze h1;cases Ze h2;simp only[Ay,aB,xz]at h;have h:=h.1;split at h
  .next o d=>exact⟨o,d,zW h⟩
  .cases h
 | i'::j'::r,h,q+1,i,j,h1,h2=>by
  simp only[Ay,aB]at h;exact JX h.2 q i j h1 h2
def Ic(ops:Array aL)(c:List Nat):Bool:=match c.getLast? with
 | some l=>match ops[l]? with
  | some o=>(aO ops.size).all λj=>aG j l||(vW j o.after.toList||(aO ops.size).any λm=>vW m o.after.toList&&(match ops[m]? with|some p=>vW j p.after.toList|none=>false))
  | none=>false
 | none=>false
structure ZC (Pre:ou->Wd->Prop) (ops:Array aL) (ch:List Nat) (V:List (Option Sv)) (base:Array Vu) (listed:Array Bool) (s:Nat) (ρ:ou) (x:cZ×Wd):Prop where
 qB:oU ops (qO ρ V) base listed x.1
 pre:Pre ρ x.2
 ok:∀j,listed.getD j false=true->∀s,pM V j=J s->s.ok ρ.length
 le:s<=ch.length
 cc:∀(q i:Nat),ch[q]?=J i->(listed.getD i false=true↔q<s)
 cl:∀(j e:Nat) o,listed.getD j false=true->ops[j]?=J o->(o.after.any λd=>cM .any d&&d.on==e)=true->listed.getD e false=true
theorem Ja{listed:Array Bool}{i:Nat}(l:i∈aU .any ops listed)(p:∀(j e:Nat) o,listed.getD j false=true->ops[j]?=J o->(o.after.any λd=>cM .any d&&d.on==e)=true->listed.getD e false=true)(j e:Nat)(o:aL)(c:(listed.setIfInBounds i true).getD j false=true)(g:ops[j]?=J o)(h:(o.after.any λd=>cM .any d&&d.on==e)=true):(listed.setIfInBounds i true).getD e false=true:=by
 rcases vK c with rfl|c
 .exact Z8 (k9 l g h)
 .exact Z8 (p j e o c g h)
theorem SM{ρ2:ou}{V:List (Option Sv)}(h:∀s,pM V c=J s->s.ok ρ.length):qO (ρ++ρ2) V c=qO ρ V c:=by
 unfold qO;split
 .next s d=>exact Sv.oc ρ2 (h s d)
 .rfl
theorem BV{id:Nat}{m0:Mem}{P A:l9}{N:Nat}(ch:sM)(qu:pB){V:(Nat->Option Sv)->List (Option Sv)}{C':Prop}(r':Bool)(n':Nat->(Nat->Option Sv)->ou->Wd->(Nat->Nat)×(Gr->Wd->Prop)->Prop)(M:fx sft W K I ρ m0 H P a w)(hN:N=ρ.length)(h:∀xs,wT I W K N ops m0 P H (tR xs 0 ch) (tM ops.toList) 0 [] qu True=J (V xs,[],C'))(hK:∀xs,qS ch 0 (V xs)=qS ch 0 (V λ_=>Q))(hE:uL ops H 0 (qS ch 0 (V λ_=>Q)) P=J A)(hB:(AH ops (ch.map (·.1))&&(!r'||Ic ops (ch.map (·.1))))=true)(hC:C')(hP:∀s xs X w' e,(r'=true->s<ch.length)->n' s xs (ρ++X) w' e->yJ (ρ++X) m0 w'/\∀k,k<I.heap.size->k∉W->w'.heap[k]?=I.heap[k]?)(h0:n' 0 (λ_=>Q) ρ w (sft,Stop))(hS:∀(s i:Nat) g,ch[s]?=J (i,g)->∀xs o a' w' X F e,ops[i]?=J o->n' s xs (ρ++X) w' e->a'.tmps.size=H->a'.defers=[]->(∀x sv,uM ops.toList (V xs) P H o x=J sv->a'.eval x=sv.den (ρ++X)) ->
   (∀e' m' w2 u,n' (s+1) (tQ xs s u) (ρ++X++m') w2 e'->(g=Q\/u=g)->(∀sv,u=J sv->sv.ok (ρ++X++m').length)->iv J' z true e'.1 e'.2 (G ((aQ f).at (a'.put o.dst (ED (ρ++X++m') u)) (.inRegion ops F::k)) E) w2) ->
   iv J' z true e.1 e.2 (G ((aQ f).at a' (.inRegion ops (i::F)::k)) E) w')(hx:∀xs X a' w' e,n' ch.length xs (ρ++X) w' e->pK H (qh (ρ++X) A) a'->(∀p∈A,p.2.ok (ρ++X).length)->iv J' z true e.1 e.2 (G ((aQ f).at a' k) E) w'):iv J' z true sft Stop (G ((aQ f).at a (.code (.region id ops true)::k)) E) w:=by
 generalize qS ch 0 (V λ_=>Q)=L at hK hE;simp only[AH,aB]at hB;let⟨⟨⟨⟨⟨c4,c5⟩,c6⟩,c7⟩,c8⟩,c9⟩:=hB;rw[CW ops]at h;have ve:=λxs=>FD (i:=0) Z (h xs);simp only[aE]at ve;have known:∀xs j,sy ch j≠J Q->pM (V xs) j=pM L j:=λxs j hj=>by
  have e:=congrArg (λl=>pM l j) (hK xs);simp only[Hx,aE]at e;exact e
 have cm:∀ {q i:Nat},(ch.map (·.1))[q]?=J i↔∃g,ch[q]?=J (i,g):=λ{q i}=>by
  grind
 let⟨tm,df⟩:=a;obtain rfl:df=[]:=M.lv.defers;have K':tm.size=H:=M.lv.size;have s':∀fuel listed (x:(cZ×Wd)×(Nat->Nat)×(Gr->Wd->Prop)) F,Ord ops fuel listed F->(∃s xs X,ZC (λρ w=>n' s xs ρ w x.2) ops (ch.map (·.1)) (V xs) tm listed s (ρ++X) x.1)->iv J' z true x.2.1 x.2.2 (G ((aQ f).at x.1.1 (.inRegion ops F::k)) E) x.1.2:=by
  refine Cp (λfu listed x i F hi T hO L'=>?_) λlisted x hno T=>?_
  .let⟨⟨a',w'⟩,e0⟩:=x;let⟨s,xs,X,T⟩:=T;let⟨v1,_,_,v4⟩:=ve xs;have t':=x9 hi;have O':∀(o:aL) (L:List (Option Sv)),ops[i]?=J o->(∀j s,pM L j=J s->pM (V xs) j=J s)->∀x s,uM ops.toList L P H o x=J s->a'.eval x=s.den (ρ++X)/\s.ok (ρ++X).length:=λo L ho hU x s hs=>by
    unfold uM at hs;split at hs
    .next t =>
     split at hs
     .next hb =>
      have R':=wH hs;have w1:=M.wf _ R';refine⟨?_,Sv.oR Zc w1⟩;rw[Sv.oc X w1];exact T.qB.base (Nd hb) (M.lv.has _ (s7.2 ⟨s,R',Z⟩))
     .have s':∀ {l:List Edge},yY ops.toList L H t o l=J s->a'.eval (.tmp t)=s.den (ρ++X)/\s.ok (ρ++X).length:=by
       intro l
       induction l with
       | nil=>intro h;cases h
       | cons e r ih =>
        intro h;unfold yY at h;split at h
        .next hw =>
         have hj:=hU _ _ h;let⟨oj,g2,g3,g4,g5⟩:=Dy hw;have hl:=k9 hi ho g3;exact⟨T.qB.tmp g2 g4 hl Za (by unfold qO;rw[hj]),T.ok _ hl s hj⟩
        .exact ih h
      exact s' hs
    .cases Ze hs;exact⟨Z,mX⟩
    .cases hs
   rcases v4 i (aW _) t' with⟨u,hu,T'⟩|⟨hu,oj,v,q,c,h1,T',hc⟩
   .
    let⟨q,u'⟩:=hY (Eb hu);rw[He,aE]at u';let⟨⟨i',g⟩,hq,he⟩:=dC.1 u';clear u';obtain⟨rfl,rfl⟩:=ax he;have v':=cm.2 ⟨g,hq⟩;have hs:q=s:=by
     have n1:¬q<s:=λhlt=>uR hi ((T.cc q _ v').2 hlt)
     cases q with
     | zero=>omega
     | succ q =>
      cases hp:ch[q]? with
      | none=>grind
      | some j =>
       have U':=cm.2 ⟨j.2,hp⟩;let⟨o,ho,hb⟩:=JX c6 q _ _ U' v';have:=(T.cc q _ U').1 (k9 hi ho hb);omega
    subst hs;have ho:=bg t';refine hS q i' g hq xs _ a' w' X F e0 ho T.pre (by rw[T.qB.size];exact K') T.qB.defs (λx sv hs=>(O' _ (V xs) ho (λ_ _ h=>h) x sv hs).1) λe1 m' w2 u hp hg hok=>?_;have vn:∀ys q' j g',ch[q']?=J (j,g')->pM (V ys) j=DG (j,g') (ys q'):=λys q' j g' hj=>by
     have V':=cm.2 ⟨g',hj⟩;have hjl:j<ops.size:=by
      have:=aT.1 c8 _ (cN V');rw[CW]at this;simpa using this
     rw[wM];rcases(ve ys).2.2.2 j (aW _) hjl with⟨v,h1,h2⟩|⟨h1,_⟩
     .rw[h2];let⟨q2,W'⟩:=hY (Eb h1);rw[He,aE]at W';let⟨⟨j',g2⟩,p',he⟩:=dC.1 W';obtain⟨rfl,rfl⟩:=ax he;have e:=GO c7 V' (cm.2 ⟨g2,p'⟩)
      grind
     .exfalso;rw[Gp]at h1;exact GY h1 (cN hj)
    have X':∀j,j≠i'->pM (V (tQ xs q u)) j=pM (V xs) j:=λj hj=>by
     cases hl:sy ch j with
     | none=>grind
     | some v =>
      let⟨q2,p'⟩:=hY (Eb hl);rw[vn _ q2 j v p',vn _ q2 j v p',SJ λe=>?_]
      grind
    have nl:∀j,listed.getD j false=true->j≠i':=λj hj e=>by rw[e]at hj;exact uR hi hj
    have hvi:pM (V (tQ xs q u)) i'=u:=by
     rw[vn _ q i' g hq,VA];unfold DG
     grind
    have hv:qO (ρ++X++m') (V (tQ xs q u)) i'=ED (ρ++X++m') u:=by
     unfold qO;rw[hvi];cases u<;>rfl
    have ag:=(T.qB.val (V':=qO (ρ++X++m') (V (tQ xs q u))) (λj hj=>by
     rw[←SM (ρ:=ρ++X) (ρ2:=m') (T.ok j hj)];unfold qO
     rw[X' j (nl j hj)])).put c4 ho hv
    refine L' ((a'.put ops[i'].dst _,w2),e1) ⟨q+1,tQ xs q u,X++m',?_⟩;rw[←jr];refine⟨ag,hp,λj hj s hs=>?_,by grind,λq' j o'=>?_,Ja hi T.cl⟩
    .rcases vK hj with rfl|hj
     .grind
     .rw[X' j (nl j hj)]at hs;exact Sv.oR Zc (T.ok j hj s hs)
    .by_cases e:i'=j
     .subst e;have:=GO c7 v' o';exact⟨λ_=>by omega,λ_=>zT hi⟩
     .have hne:q'≠q:=λh=>by grind
      have:=T.cc q' j o';refine⟨λh=>?_,λh=>Z8 (this.2 Za)⟩;have:=this.1 ((vK h).resolve_left (aA e));omega
   .
    have hc:=hc hC;have hls:r'=true->s<ch.length:=λhl=>by
     rw[hl]at c9;simp at c9;have hle:=T.le;rw[br]at hle;rcases bQ s ch.length with g|g
     .exact g
     .exfalso;unfold Ic at c9;split at c9
      case h_2=>cases c9
      case h_1 l hl' =>
      have o':(ch.map (·.1))[(ch.map (·.1)).length - 1]?=J l:=by grind
      have hpos:0<(ch.map (·.1)).length:=by
       grind
      have y':=(T.cc _ l o').2 (by grind);split at c9
      case h_2=>cases c9
      case h_1 o hol =>
      have:=aT.1 c9 i (eQ.2 t');rcases cY _ _▸this with h|h
      .rw[Zl h]at hi;exact uR hi y'
      rcases cY _ _▸h with h|h
      .exact uR hi (T.cl l i o y' hol (zW h))
      .let⟨m,_,h⟩:=ju.1 h;simp at h;have hm:=T.cl l m o y' hol (zW h.1);have h:=h.2;split at h
       .next p hp=>exact uR hi (T.cl m i p hm hp (zW h))
       .cases h
    have Ma:=hP s xs X w' e0 hls T.pre;have vi:pM (V xs) i=J v:=by rw[wM,T'];rfl
    unfold vg at h1;rw[xz]at h1;split at h1
    case h_2=>cases h1
    case h_1 o ho =>
    have rd2:=O' o ((V xs).take i) ho λj s h=>DX h;have hnc:∀q',(ch.map (·.1))[q']?≠J i:=λq' h=>by
     let⟨g,h⟩:=cm.1 h;rw[Gp]at hu;exact GY hu (cN h)
    have val:v.ok (ρ++X).length->iv J' z true e0.1 e0.2 (G ((aQ f).at (a'.put o.dst (v.den (ρ++X))) (.inRegion ops F::k)) E) w':=λhok=>by
     have vv:qO (ρ++X) (V xs) i=v.den (ρ++X):=by unfold qO;rw[vi]
     have ag:=T.qB.put c4 ho vv;refine L' ((a'.put o.dst (v.den (ρ++X)),w'),e0) ⟨s,xs,X,ag,T.pre,λj hj s hs=>?_,T.le,λq' j o'=>?_,Ja hi T.cl⟩
     .rcases vK hj with rfl|hj
      .grind
      .exact T.ok j hj s hs
     .have:=T.cc q' j o';refine⟨λh=>this.1 ((vK h).resolve_left λe=>?_),λh=>Z8 (this.2 h)⟩
      grind
    have wnt:∀b,A3 ops.toList ((V xs).take i) H o=J b->bM o (fh ops a'.tmps)=b:=λb hb=>by
     unfold A3 at hb;split at hb
     .next hg=>rw[B6 hg];exact Ze hb
     .next j y hg =>
      rw[xz]at hb;split at hb
      .next oj hj =>
       split at hb
       .next t ht =>
        split at hb
        .next hw =>
         split at hb
         .next x hxx =>
          let⟨oj',g2,g3,g4,g5⟩:=Dy hw;have hl:=k9 hi ho g3;have hv:=T.qB.done j oj t hj ht hl Za;unfold qO at hv;rw[DX hxx]at hv;rw[ER hg hj ht hv];exact Ze hb
         .cases hb
        .cases hb
       .cases hb
      .cases hb
    split at h1
    case h_3=>cases h1
    case h_1 hw =>
     split at h1
     case h_2=>cases h1
     case h_1 D hd =>
     let⟨p0,p1⟩:=ax (Ze h1);cases Ze p0;exact G1 ho (wnt _ hw) (val mX)
    case h_2 hw =>
    split at h1
    case h_3=>cases h1
    case h_1 sv _ cv hv =>
     split at h1
     case h_2=>cases h1
     case h_1 D hd =>
     let⟨p0,p1⟩:=ax (Ze h1);cases Ze p0;let⟨_,p2⟩:=ax p1;obtain⟨_,rfl⟩:=ax p2;have ov:=λd=>FT (w:=w'.at d) rd2 Ma.1 Ma.2 hv hc;exact wQ ho (wnt _ hw) (by show aV≠.early;decide) (ov 0).1.2 (λd=>(ov d).1.1) (val (ov 0).2)
    grind
  .let⟨⟨a',w'⟩,e0⟩:=x;let⟨s,xs,X,T⟩:=T;let⟨v1,_,_,v4⟩:=ve xs;have A':=V6 c5 T.qB.len hno;have toV:∀j s,L[j]?=J (J s)->pM (V xs) j=J s:=λj s h=>by
    have hu:pM L j=J s:=by rw[wM,h];rfl
    rw[←hK xs,Hx]at hu
    grind
   have hU:L.length=ops.size:=by rw[←hK xs,JD];exact v1
   have hs:s=ch.length:=by
    rcases bQ s (ch.map (·.1)).length with g|g
    .exfalso;have hq:=bj g;have hb:=aT.1 c8 _ (cN hq);rw[CW]at hb;exact absurd ((T.cc s _ hq).1 (A' _ (by simpa using hb))) (iA s)
    .have:=T.le;grind
   subst hs;have ev:=Ax hE;refine i8 (hx xs X a' w' e0 T.pre ⟨by rw[T.qB.size];exact K',T.qB.defs,λp hp=>?_⟩ λp hp=>?_)
   .let⟨t,v⟩:=p;obtain⟨s,h1,rfl⟩:=s7.1 hp;rcases ev _ h1 with⟨j,o,_,g1,g2,g3,g4⟩|⟨g1,g2⟩
    .have g4:=toV j s g4;have hv:=T.qB.done j o t g1 g2 (A' j (Zj g1).1) Za;unfold qO at hv
     grind
    .rw[T.qB.still t λj o ho hd=>?_]
     .show tm[t]?=J (s.den (ρ++X));rw[Sv.oc X (M.wf _ g1)];exact M.lv.has _ (s7.2 ⟨s,g1,Z⟩)
     grind
   .rcases ev _ hp with⟨j,o,_,g1,g2,g3,g4⟩|⟨g1,g2⟩
    .exact T.ok j (A' j (Zj g1).1) _ (toV j _ g4)
    .exact Sv.oR Zc (M.wf _ g1)
 refine λd0=>BO (λt d=>?_) d0;refine s' _ _ ((⟨tm,[]⟩,w),sft,Stop) _ (xZ Zd ops t) ⟨0,λ_=>Q,[],?_⟩ d;rw[cy];exact⟨oU.start ops _ tm,h0,λj hj=>(by rw[W4]at hj;cases hj),aW _,λq i hq=>⟨λhj=>(by rw[W4]at hj;cases hj),λh=>by omega⟩,λj e o hj=>(by rw[W4]at hj;cases hj)⟩
theorem uU{id:Nat}{r:Mem}{P A:l9}(l:sM)(N:pB){V:(Nat->Option Sv)->List (Option Sv)}{C':Prop}(v:Bool)(q:Nat->(Nat->Option Sv)->ou->Wd->Prop)(M:fx sft W K I ρ r H P a w)(X:c=ρ.length)(h:∀xs,wT I W K c ops r P H (tR xs 0 l) (tM ops.toList) 0 [] N True=J (V xs,[],C'))(hK:∀xs,qS l 0 (V xs)=qS l 0 (V λ_=>Q))(hE:uL ops H 0 (qS l 0 (V λ_=>Q)) P=J A)(hB:(AH ops (l.map (·.1))&&(!v||Ic ops (l.map (·.1))))=true)(hC:C')(hP:∀s xs d w' j,(v=true->s<l.length)->q s xs (ρ++d) w'->j.tmps.size=H->j.defers=[]->fx sft W K I (ρ++d) r H [] j w')(h0:q 0 (λ_=>Q) ρ w)(hS:∀(s i:Nat) g,l[s]?=J (i,g)->∀xs o j w' d F,ops[i]?=J o->q s xs (ρ++d) w'->fx sft W K I (ρ++d) r H [] j w'->(∀x sv,uM ops.toList (V xs) P H o x=J sv->j.eval x=sv.den (ρ++d)) ->
   (∀D T u,q (s+1) (tQ xs s u) (ρ++d++D) T->(g=Q\/u=g)->(∀sv,u=J sv->sv.ok (ρ++d++D).length)->iv J' z true sft Stop (G ((aQ f).at (j.put o.dst (ED (ρ++d++D) u)) (.inRegion ops F::k)) E) T) ->
   iv J' z true sft Stop (G ((aQ f).at j (.inRegion ops (i::F)::k)) E) w')(hx:∀xs d j w',q l.length xs (ρ++d) w'->pK H (qh (ρ++d) A) j->(∀p∈A,p.2.ok (ρ++d).length)->iv J' z true sft Stop (G ((aQ f).at j k) E) w'):iv J' z true sft Stop (G ((aQ f).at a (.code (.region id ops true)::k)) E) w:=by
 refine BV (N:=c) l N v (λs xs c' w' e=>q s xs c' w'/\e=(sft,Stop)) M X h hK hE hB hC (λs xs d w' e hl L=>?_) ⟨h0,Z⟩ (λs i g hs xs o j w' d F e ho L h1 h2 rd hn=>?_) λxs d j w' e L h1 h2=>?_
 .have:=hP s xs d w' ⟨bY H Ud,[]⟩ hl L.1 Zc Z;exact⟨this.ce,this.old⟩
 all_goals grind
theorem fx.re{m:Mem}{P A:l9}{c:cZ}(M:fx sft W K I ρ m H P a w)(h:pK H (qh ρ A) c)(d:∀p∈A,p.2.ok ρ.length):fx sft W K I ρ m H A c w:=⟨h,M.ce,d,M.bl,M.ij,M.own,M.size,M.old,M.fit,M.new⟩
end Go.Proofs.YtcgabodkegcpgaaGreatDoor
namespace Go.Proofs.YtcgabodkegcpgaaGreatDoor
open Go.Conc Go.RowKit
variable{a b c d e:Nat}{f h i:Wd}{j k l m n:Vu}{o p:Array Vu}{q:List Nat}{r s:Bool}{t:Fm'}{u:List Int}{v w:aL}{x y:aa}{z A:aS}{B C:Ti}{D E:jj}{F:Option Nat}{H:List ng}{I K:Mem}{L N:Int}{P:Func}{R:Array Bool}{S T:l9}{W:cZ}
structure Cn (B0:Nat) (sft:Nat->Nat) (w10 w':Wd) (Dp:Vu) (m:Nat) (xs:List Vu) (g cap:Nat):Prop where
 row:w'.ownsRow B0 92 5 (Sc (J (O g 0 Q)) m cap) m xs
 size:w10.heap.size<=w'.heap.size
 old:∀k,k<w10.heap.size->Dp.ownBlock≠J k->w'.heap[k]?=w10.heap[k]?
 fit:Fit sft w'
 og:Dp.ownBlock=J g\/g=w10.heap.size
 g0:sft g=0
abbrev Pu:=Cn 0
variable{A sft':Nat->Nat}{W:List Nat}{ro:Nat}{I w z:Wd}{ρ:ou}{sz:Nat}{a:cZ}{H:Array aL}{C:Bool}{Stop:Gr->Wd->Prop}{f:bC}{k:List bh}{F:List Fm'}{m P:Mem}{B K:l9}
def F7(A:Nat->Nat)(w:Wd)(k:Nat):Prop:=(∃c t,w.heap[k]?=J (.cells c t (0,0)))/\A k=0
theorem F7.lt{k:Nat}(h:F7 A w k):k<w.heap.size:=by
 let⟨⟨c,t,e⟩,_⟩:=h;exact(Zj e).1
theorem F7.of{k:Nat}(h:F7 A w k)(e:z.heap[k]?=w.heap[k]?):F7 A z k:=⟨by rw[e];exact h.1,h.2⟩
theorem F7.soft{k:Nat}(h:F7 A w k)(b:sft' k=0):F7 sft' w k:=⟨h.1,b⟩
theorem fx.oo{K:l9}(M:fx A W ro I ρ m sz B a w)(n:Nat)(b:List Nat)(e:n=ρ.length)(c:uV n B b=J K):fx A W ro I ρ m sz K a w:=M.fewer (λp d=>(zJ c p d).1) λ_ h=>h
theorem Bx{C:Bool}{f:bC}{R:Vu->Wd->Prop}(h:∀b F d,l6 V C (DL true A) (λg z=>∃x,g=G (b.finish x) F/\R x z) (G (ay V f o .normal) (b::F)) (w.at d)):oL C A f o w R:=λStop b F c=>Nh (λd=>h b F d) λg z e=>by
 obtain⟨x,rfl,i⟩:=e;exact c x z i
theorem xA(j:Fit A w){f:bC}(n:Sg f=true){R:Vu->Wd->Wd->Prop}{i:Vu->Wd->Prop}(p:∀d v,Lk A v (w.at d)->aF V f o v λe b=>∃x,e=.returned x/\R x v b)(q:∀d x v b z,Lk A v (w.at d)->Lk A b z->Kept A (w.at d) z->R x v b->i x z):oL C A f o w i:=λStop l F r =>
 Nh (Stop':=λg z=>∃x,g=G (l.finish x) F/\i x z) (λd=>by
  refine(xU xn (sft:=A) (w0:=w.at d) n ⟨j.soft,j.clear⟩ C (Q:=λx b=>∃v,Lk A v (w.at d)/\R x v b) (λv c=>(p d v c).mono λe b s=>by
   obtain⟨x,rfl,t⟩:=s
   exact⟨v,c,t⟩) l F).keep.mono (λ_ _ _ h=>h) ?_
  rintro g z ⟨⟨x,b,rfl,hl',v,c,hr⟩,hkp⟩
  exact⟨x,Z,q d x v b z c hl' hkp hr⟩) λg z h=>by
  obtain⟨x,rfl,u⟩:=h;exact r x z u
theorem Kept.cells(h:Kept A w z){k:Nat}{t:Ti}{f:Nat×Nat}(e:w.heap[k]?=J (.cells o t f)):∃b,z.heap[k]?=J (.cells b t f):=by
 let⟨g,c,d⟩:=h.same k _ e;obtain⟨b,rfl,_⟩:=d;exact⟨b,c⟩
theorem fx.wrote(M:fx A W ro I ρ m sz B a w)(L:nC A [b] w z)(d:b∈W\/I.heap.size<=b)(g:∀i,i<ρ.length->(nJ ρ i).1≠b):fx A W ro I ρ m sz B a z :=
 M.to L.size (λi c=>L.old _ (Q6 M c) (by simpa using g i c)) (λk j l=>L.old k (Zg j M.size) (by
  simp only[cz];intro e;subst e;rcases d with h|h
  .exact l h
  .omega)) L.fit
theorem fx.bare(M:fx A W ro I ρ m sz B a w){b:cZ}(c:b.tmps.size=sz)(d:b.defers=[]):fx A W ro I ρ m sz [] b w:=(M.fewer (λ_ h=>(by cases h)) λ_ h=>h).act (by rw[c,M.lv.size]) d
theorem fx.oZ(M:fx A W ro I ρ m sz B a w){W':List Nat}(h:∀k∈W,k∈W'):fx A W' ro I ρ m sz B a w:=⟨M.lv,M.ce,M.wf,M.bl,M.ij,λi b c=>(M.own i b c).imp_left (h _),M.size,λk b c=>M.old k b λd=>c (h k d),M.fit,M.new⟩
theorem zl{x y:aS}{sv:Sv}{l:List nI}(M:fx A W ro I ρ m sz B a w)(r:H[b]?=J v)(s:v.guard=Q)(t:v.op=.store c x y)(u:v.dst=Q)(D:pJ B x=J (.c (.v (Po (J (O d e Q))))))(E:pJ B y=J sv)(L:ud sv=J l)(N:(V.info? c).map (·.size)=J l.length)(R:l.all uz=true)(S:F7 A w d)(T:d∈W\/I.heap.size<=d)(X:∀b,b<ρ.length->(nJ ρ b).1≠d)(a':∀g,g<l.length->(w.cell? (O d (e+g) Q)).isSome=true)(i:∀z,nC A [d] w z->F7 A z d->(∀g j,l[g]?=J j->z.cell? (O d (e+g) Q)=J (j.den ρ))->(∀g,g<e\/e+l.length<=g->z.cell? (O d g Q)=w.cell? (O d g Q))->fx A W ro I ρ m sz B a z->iv V C true A Stop (G ((aQ f).at a (.inRegion H q::k)) F) z):iv V C true A Stop (G ((aQ f).at a (.inRegion H (b::q)::k)) F) w:=by
 let⟨ey,b'⟩:=M.rd E;let⟨ec,c'⟩:=xo (ρ:=ρ) L;let⟨⟨c0,t0,hb⟩,n⟩:=S;refine wS M.lv r s t u hb n M.fit (M.rd D).1 ey ec (by rw[br];exact N) (λd' hv=>?_) (λg h=>?_) λo s1 s2 s3 s4 s5 s6=>?_
 .obtain⟨x,i,rfl⟩:=dA.1 hv;exact y8 (aT.1 R x i)
 .rw[br]at h;exact a' g h
 .have p:nC A [d] w o:=⟨by omega,λk _ hk=>s2 k (by simpa using hk),s6⟩;exact i o p ⟨s3,n⟩ (λg j hc=>s4 g _ (by rw[bO,hc];rfl)) (λg h=>s5 g (by rw[br];exact h)) (M.wrote p T X)
theorem Qp{x y:aS}{sv:Sv}{l:List nI}{p:Ti}(M:fx A W ro I ρ m sz B a w)(t:H[b]?=J v)(u:v.guard=Q)(D:v.op=.store c x y)(E:v.dst=Q)(L:pJ B x=J (.c (.v (Po (J (O d e Q))))))(N:pJ B y=J sv)(R:ud sv=J l)(S:(V.info? c).map (·.size)=J l.length)(T:l.all uz=true)(X:w.heap[d]?=J (.cells o p (0,0)))(a':A d=0)(hW:d∈W\/I.heap.size<=d)(b':∀b,b<ρ.length->(nJ ρ b).1≠d)(c':∀g,g<l.length->(w.cell? (O d (e+g) Q)).isSome=true)(j:∀z h,nC A [d] w z->z.heap[d]?=J (.cells h p (0,0))->h.size=o.size->(∀g n,l[g]?=J n->z.cell? (O d (e+g) Q)=J (n.den ρ))->(∀g,g<e\/e+l.length<=g->z.cell? (O d g Q)=w.cell? (O d g Q))->fx A W ro I ρ m sz B a z->iv V C true A Stop (G ((aQ f).at a (.inRegion H q::k)) F) z):iv V C true A Stop (G ((aQ f).at a (.inRegion H (b::q)::k)) F) w:=by
 let⟨ey,d'⟩:=M.rd N;let⟨ec,e'⟩:=xo (ρ:=ρ) R;refine zu M.lv t u D E X a' M.fit (M.rd L).1 ey ec (by rw[br];exact S) (λf' hv=>?_) (λg i=>?_) λr s1 s2 s3 s4 s5 s6=>?_
 .obtain⟨x,j,rfl⟩:=dA.1 hv;exact y8 (aT.1 T x j)
 .rw[br]at i;exact c' g i
 .have s:nC A [d] w r:=⟨by omega,λk _ hk=>s2 k (by simpa using hk),s6⟩;let⟨h,e1,e2⟩:=s3;exact j r h s e1 e2 (λg n hc=>s4 g _ (by rw[bO,hc];rfl)) (λg i=>s5 g (by rw[br];exact i)) (M.wrote s hW b')
theorem Cd{d:Func}{e:Array aS}{i:Array Ti}{g:Vu->Wd->Prop}(j:oL C A c o w g)(h:H[b]?=J v)(l:v.guard=Q)(n:v.op=.call { callee:=.value (.func c),args:=e,argTypes:=i })(p:V.funcs[c]?=J d)(r:(d.name== "runtime.NumGoroutine")=false)(s:d.body=J D)(t:e.map a.eval=o)(u:∀x z,g x z->iv V C true A Stop (G ((aQ f).at (a.put v.dst x) (.inRegion H q::k)) F) z):iv V C true A Stop (G ((aQ f).at a (.inRegion H (b::q)::k)) F) w:=by
 refine yg h (B6 l) (by show aV≠.early;decide) n p r s ?_;rw[t];refine j Stop _ F λx z y=>?_;rw[yp h];exact u x z y
theorem vR{A:Nat->Nat}{W:List Nat}{ro:Nat}{I w:Wd}{ρ:ou}{sz:Nat}{a:cZ}{H:Array aL}{C:Bool}{Stop:Gr->Wd->Prop}{f:bC}{k:List bh}{F:List Fm'}{m:Mem}{B K:l9}{op:Op}(e:Sv)(M:fx A W ro I ρ m sz B a w)(j:H[b]?=J v)(l:Dg H B v=J true)(g:v.op=op)(n:qm V (λ_=>false) [] false op=true)(o:v.dst=J c)(p:cE c sz=true)(r:qA c e B=J K)(s:e.ok ρ.length)(t:∀(h:aL) (u:Wd),h.op=op->u.heap=w.heap->(Ex a.eval h).run V u=.ok (.value (e.den ρ)) u)(x:∀i,fx A W ro I ρ m sz K i w->iv V C true A Stop (G ((aQ f).at i (.inRegion H q::k)) F) w):iv V C true A Stop (G ((aQ f).at a (.inRegion H (b::q)::k)) F) w:=by
 refine wQ j (Gq (s:=⟨m,B,0,[],True⟩) M l) (by show aV≠.early;decide) (by rw[g];exact n) (λd=>t v _ g Z) ?_;rw[o];exact x _ (M.put (by simpa using p) s r)
theorem AX{A:Nat->Nat}{W:List Nat}{ro:Nat}{ρ:ou}{m:Mem}{w:Wd}{sz:Nat}{C:Bool}{Stop:Gr->Wd->Prop}{F:List Fm'}{f:bC}{c:Func}(b:List Sv)(E:yX A W ro ρ m w)(l:∀s∈b,s.ok ρ.length)(n:V.funcs[f]?=J c)(o:c.body=J D)(q:c.ntmps=sz)(r:fS b.length sz=true)(h:∀a,fx A W ro w ρ m sz (wu 0 b) a w->iv V C true A Stop (G ((aQ f).at a [.code D]) (t::F)) w):iv V C true A Stop (G (ay V f (b.map (·.den ρ)).toArray .normal) (t::F)) w:=by
 let⟨a,e,u⟩:=Hh (env:=qh ρ (wu 0 b)) (args:=(b.map (·.den ρ)).toArray) n o q (by simpa using r) (λp d=>by
  let⟨x,v⟩:=p;obtain⟨s,g,rfl⟩:=s7.1 d;let⟨_,j⟩:=x5 g;simp only[List.getElem?_toArray,bO];rw[show b[x]?=_ from j]
  rfl)
 rw[e];exact h a ⟨u,E.ce,λp d=>l _ (cN (x5 d).2),E.bl,E.ij,λi g j=>.inl (E.own i g j),af _,λ_ _ _=>rfl,E.fit,E.new⟩
theorem fx.nQ{A sft':Nat->Nat}{W:List Nat}{ro:Nat}{I w z:Wd}{ρ:ou}{sz:Nat}{a:cZ}{m:Mem}{B K:l9}(M:fx A W ro I ρ m sz B a w)(g:List Nat)(l:uV 0 B g=J K)(n:Fit sft' z)(o:∀k,z.heap.size<=k->sft' k=0):fx sft' [] 0 z [] [] sz K a z:=by
 have b:=zJ l;refine⟨⟨M.lv.size,M.lv.defers,λp c=>?_⟩,λe h=>(by cases h),λp c=>(b p c).2,λi h=>(by cases h),λi j h=>(by cases h),λi _ h=>(by cases h),af _,λ_ _ _=>rfl,n,o⟩;let⟨t,v⟩:=p;obtain⟨s,d,rfl⟩:=s7.1 c;have:=M.lv.has _ (s7.2 ⟨s,(b _ d).1,Z⟩);rw[show s.den ρ=s.den [] from by have:=Sv.oc (ρ:=[]) ρ (b _ d).2;rwa [eP]at this]at this;exact this
theorem wX{h:Func}{g:Array aS}{n:Array Ti}{vs:List Vu}{Post:Vu->Wd->(Nat->Nat)×(Gr->Wd->Prop)->Prop}(M:fx A W ro I ρ m sz B a w)(o:∀i j,(∀x z e,Post x z e->iv V C true e.1 e.2 (G (i.finish x) j) z)->iv V C true A Stop (G (ay V d vs.toArray .normal) (i::j)) w)(l:H[b]?=J v)(p:v.guard=Q)(r:v.op=.call { callee:=.value (.func d),args:=g,argTypes:=n })(s:V.funcs[d]?=J h)(t:(h.name== "runtime.NumGoroutine")=false)(u:h.body=J D)(y:(g.toList.map λx=>(pJ B x).map (·.den ρ))=vs.map J)(E:v.dst=J c)(L:∀x z e,Post x z e->iv V C true e.1 e.2 (G ((aQ f).at (a.put (J c) x) (.inRegion H q::k)) F) z):iv V C true A Stop (G ((aQ f).at a (.inRegion H (b::q)::k)) F) w:=by
 refine yg l (B6 p) (by show aV≠.early;decide) r s t u ?_;have e:g.map a.eval=vs.toArray:=by
  rw[←ma (xs:=g.map a.eval),gE,Cw M y]
 rw[e];refine o _ F λx z e N=>?_;rw[yp l,E];exact L x z e N
theorem fx.next{A sft':Nat->Nat}{W:List Nat}{ro sz:Nat}{I w z:Wd}{ρ:ou}{m:Mem}{B K:l9}{a d:cZ}(M:fx A W ro I ρ m sz B a w)(h:Fit sft' z)(j:∀k,z.heap.size<=k->sft' k=0)(b:∀i,i<ρ.length->sft' (nJ ρ i).1=0/\z.heap[(nJ ρ i).1]?=w.heap[(nJ ρ i).1]?)(l:pK sz (qh ρ K) d)(n:∀p∈K,p.2.ok ρ.length):fx sft' [] ρ.length z ρ m sz K d z :=
 ⟨l,λe o=>by
  let⟨g,q,r⟩:=M.ce e o
  exact⟨g,q,(Zf (w:=w) (b _ g).2).trans r⟩,n,λi c=>(F7.soft (M.bl i c) (b i c).1).of (b i c).2,M.ij,λi t s=>absurd s Za,af _,λ_ _ _=>rfl,h,j⟩
def xS(w:Wd)(b:List Nat):List Nat:=(aO w.heap.size).filter λk=>!b.any (aG k)
theorem Oe{w:Wd}{k:Nat}(b:k<w.heap.size)(h:k∉xS w q):k∈q:=by
 cases e:q.any (aG k) with
 | false=>exact absurd (dx.2 ⟨eQ.2 b,by rw[e];rfl⟩) h
 | true =>
  let⟨x,c,d⟩:=ju.1 e;rw[Zl d];exact c
theorem Eo{w:Wd}{k:Nat}(h:k∈q):k∉xS w q:=λb=>by
 have:=(dx.1 b).2;rw[ju.2 ⟨k,h,by simp⟩]at this;cases this
theorem LU{i j l:Type}{g:i->Option j}{n:i->l}{d:j->l}(h:∀x s,g x=J s->n x=d s):∀(b:List i) (c:List j),b.map g=c.map J->b.map n=c.map d
 | [],[],_=>rfl
 | [],_::_,e=>by cases e
 | _::_,[],e=>by cases e
 | a::b,s::c,e=>by
  let⟨o,p⟩:=List.cons.inj e;rw[cX,cX,h a s o,LU h b c p]
theorem Cv{id j:Nat}{N:Array aS}{n':Array Ti}{R:Func}{svs:List Sv}{r:Sv}(S:List Nat)(c':pB){d:(Nat->Option Sv)->List (Option Sv)}{C':Prop}(y:Wd->(Nat->Nat)×(Gr->Wd->Prop)->Prop)(M:fx A [] ro w ρ P sz B a w)(hN:b=ρ.length)(h:∀g,wT w (xS w S) ro b H P B sz (tR g 0 [(j,J r)]) (tM H.toList) 0 [] c' True=J (d g,[],C'))(hK:∀g,qS [(j,J r)] 0 (d g)=qS [(j,J r)] 0 (d λ_=>Q))(hE:uL H sz 0 (qS [(j,J r)] 0 (d λ_=>Q)) B=J K)(hB:AH H [j]=true)(hC:C')(T:H[j]?=J v)(hg:v.guard=Q)(p':v.op=.call { callee:=.value (.func c),args:=N,argTypes:=n' })(hf:V.funcs[c]?=J R)(q':(R.name== "runtime.NumGoroutine")=false)(hb:R.body=J D)(ha:∀g,N.toList.map (uM H.toList (d g) B sz v)=svs.map J)(hr:r.ok ρ.length)(r':∀f' h',(∀z n,y z n->iv V C true n.1 n.2 (G (f'.finish (r.den ρ)) h') z)->iv V C true A Stop (G (ay V c (svs.map (·.den ρ)).toArray .normal) (f'::h')) w)(hM:∀z n,y z n->(∀i,i<ρ.length->z.heap[(nJ ρ i).1]?=w.heap[(nJ ρ i).1]?)/\∀q∈S,z.heap[q]?=w.heap[q]?)(hx:∀z n E,y z n->pK sz (qh ρ K) E->(∀p∈K,p.2.ok ρ.length)->iv V C true n.1 n.2 (G ((aQ f).at E k) F) z):iv V C true A Stop (G ((aQ f).at a (.code (.region id H true)::k)) F) w:=by
 have MW:=M.oZ (W':=xS w S) Zc;refine BV [(j,J r)] c' false (λo g t' z t=>t'=ρ/\((o=0/\z=w/\t=(A,Stop))\/(o=1/\y z t))) MW hN h hK hE (by simpa using hB) hC (λo g i' z t _ l=>?_) ⟨Z,.inl ⟨Z,Z,Z⟩⟩ (λo j' g' L g o' E z i' u' t k' l h1 h2 rd X=>?_) λg i' a3 w3 t l l' m'=>?_
 .obtain⟨e,l⟩:=l;obtain rfl:=Zk e;rcases l with⟨_,rfl,_⟩|⟨_,u⟩
  .rw[cy];exact⟨MW.ce,λ_ _ _=>rfl⟩
  .obtain⟨u1,u2⟩:=hM _ _ u;refine⟨λe he=>?_,λk hk X=>u2 k (Oe hk X)⟩;obtain⟨c1,c2,c3⟩:=M.ce e he;rw[cy];exact⟨c1,c2,(Zf (w:=w) (u1 _ c1)).trans c3⟩
 .obtain⟨e,l⟩:=l;obtain rfl:=Zk e
  cases o with
  | succ o=>simp at L
  | zero =>
   obtain⟨rfl,rfl⟩:=ax (Ze L);rcases l with⟨_,rfl,rfl⟩|⟨h0,_⟩
   case inr=>cases h0
   rw[T]at k';obtain rfl:=Ze k';refine yg T (B6 hg) (by show aV≠.early;decide) p' hf q' hb ?_
   rw[show N.map E.eval=(svs.map (·.den ρ)).toArray from Array.ext' (by
    rw[gE]
    exact LU (λx s L=>by have:=rd x s L;rwa [cy]at this) _ _ (ha g))]
   refine r' _ _ λw2 e2 u=>?_;rw[yp T];have:=X e2 [] w2 (J r) ⟨by simp,.inr ⟨Z,u⟩⟩ (.inr Z) (λsv h=>by obtain rfl:=Ze h;simpa using hr);simpa[ED] using this
 .obtain⟨e,l⟩:=l;obtain rfl:=Zk e;rcases l with⟨h0,_⟩|⟨_,u⟩
  .cases h0
  rw[cy]at l' m';exact hx w3 t a3 u l' m'
end Go.Proofs.YtcgabodkegcpgaaGreatDoor
namespace Go.Proofs.YtcgabodkegcpgaaGreatDoor
open Go.Conc Go.RowKit
variable{a b c d e:Nat}{f h i:Wd}{j k l m n:Vu}{o p:Array Vu}{q:List Nat}{r s:Bool}{t:Fm'}{u:List Int}{v w:aL}{x y:aa}{z A:aS}{B C:Ti}{D E:jj}{F:Option Nat}{H:List ng}{I K:Mem}{L N:Int}{P:Func}{R:Array Bool}{S T:l9}{W:cZ}
variable{C:Ctx}{n:Nat}{s:j6}{pv:List Nat}{H:y6}{free:Vu}{go:Bool}{L:Nat}{N W:l9}{a:cZ}{f:bC}{k:List bh}{F:List Fm'}{I:Array aL}
theorem gd1{id:Nat}(R T:Nat)(n':pB){m:(Nat->Option Sv)->List (Option Sv)}{Q:Wd->Prop}{c' cells:List Vu}(S:oP L N a)(h:∀r y,wT r [] 0 0 I [] N L (tR y 0 [(R,J (.c (.p 0 0))),(T,G')]) (tM I.toList) 0 [] n' True=J (m y,[],Q r))(hK:∀y,qS [(R,J (.c (.p 0 0))),(T,G')] 0 (m y)=qS [(R,J (.c (.p 0 0))),(T,G')] 0 (m λ_=>G'))(hE:uL I L 0 (qS [(R,J (.c (.p 0 0))),(T,G')] 0 (m λ_=>G')) N=J W)(hB:AH I [R,T]=true)(u':I[R]?=J v)(v':v.guard=G')(x':v.op=.alloc b)(o':sL b sU=J (true,c'))(y':I[T]?=J w)(z':w.guard=G')(A':w.op=.store b z A)(p':w.dst=G')(B':∀y,uM I.toList (m y) N L w z=J (.c (.p 0 0)))(C':∀y,uM I.toList (m y) N L w A=J (.g (cells.map .v)))(D':cells.length=c'.length)(E:cells.all (·.oneCell')=true)(hC:∀l K un r,oK C l K pv H free un go r->Q r)(hn:∀B c t x,B∉pv->B≠C.o.bo->(∀j D,cells[j]?=J D->c[0+j]?=J D)->oP L (wU B W) x->i9 C n s (B::pv) (H.set B (.cells c t (0,0))) free go (G ((aQ f).at x k) F))(hp:(W.all λp=>plain p.2&&tt 1 p.2)=true:=by rfl) :
  i9 C n s pv H free go (G ((aQ f).at a (.code (.region id I true)::k)) F) :=
 X7 (R:=λq' H' r' g'=>∃B c t x,B∉pv/\B≠C.o.bo/\(∀j D,cells[j]?=J D->c[0+j]?=J D)/\oP L (wU B W) x/\q'=B::pv/\H'=H.set B (.cells c t (0,0))/\r'=free/\g'=G ((aQ f).at x k) F)
  (λl K un r Stop St h'=>by
   have M:=St.oO S;have n9:(r.alloc (.cells c'.toArray b (0,0))).heap[r.heap.size]?=J (.cells c'.toArray b (0,0)):=cC _ _;generalize l':r.alloc (.cells c'.toArray b (0,0))=X at n9;have o9:∀k,k<r.heap.size->X.heap[k]?=r.heap[k]?:=λk hk=>by rw[←l'];exact aJ _ _ k hk
   have z9:ep l r.heap.size=0:=M.new _ (af _);have s9:X.heap.size=r.heap.size+1:=by rw[←l'];simp
   have f9:Fit (ep l) X:=by rw[←l'];exact(nC.alloc M.fit _).fit
   have P1:∀ {u:Wd} {x:cZ},X.heap.size<=u.heap.size->(∀k,k<r.heap.size->u.heap[k]?=r.heap[k]?)->F7 (ep l) u r.heap.size->Fit (ep l) u->x.tmps.size=L->x.defers=[]->fx (ep l) [] 0 r ([]++[(r.heap.size,0)]) [] L [] x u:=λ{u x} e1 e2 e3 e4 E h2=>by
    refine⟨⟨E,h2,λp hp=>(by cases hp)⟩,λe he=>(by cases he),λp hp=>(by cases hp),λi P=>?_,λi j P hj L'=>?_,λi _ P=>.inr ?_,by omega,λk hk _=>e2 k hk,e4,M.new⟩
    .obtain rfl:i=0:=by simpa using P
     exact e3
    .exact absurd ((by simpa using P:i=0).trans (by simpa using hj:j=0).symm) L'
    .obtain rfl:i=0:=by simpa using P
     exact af _
   refine uU [(R,J (.c (.p 0 0))),(T,G')] n' false (λs y m' u=>(s=0/\m'=[]/\u=r)\/(s=1/\m'=[]++[(r.heap.size,0)]/\u=X)\/(s=2/\m'=[]++[(r.heap.size,0)]/\X.heap.size<=u.heap.size/\(∀k,k<r.heap.size->u.heap[k]?=r.heap[k]?)/\F7 (ep l) u r.heap.size/\Fit (ep l) u/\u.rangeAt r.heap.size 0 cells)) M Z (h r) hK hE (by simpa using hB) (hC l K un r St) (λs y s' u x _ hP E h2=>?_) (.inl ⟨Z,Z,Z⟩) (λs j g hs y o x u s' rest ho hP Ma rd hn=>?_) λy s' N' O' hP t' wf10=>?_
   .rcases hP with⟨_,e,rfl⟩|⟨_,e,rfl⟩|⟨_,e,e1,e2,e3,e4,_⟩
    .rw[e];exact M.bare E h2
    .rw[e];exact P1 (af _) o9 ⟨⟨_,_,n9⟩,z9⟩ f9 E h2
    .rw[e];exact P1 e1 e2 e3 e4 E h2
   .match s,hs with
    | 0,hs =>
     obtain⟨rfl,rfl⟩:=ax (Ze hs);obtain⟨_,e,rfl⟩:=hP.resolve_right Zc;cases Ze (u'.symm.trans ho);have ra:=λd=>Dz (a:=x) (o:=v) x' (X3 o') (λe=>by cases e) (u.at d) #[];refine CV (ob:=.cells c'.toArray b (0,0)) (v:=Po (J (O u.heap.size 0 G'))) ho v' (by show aV≠.early;decide) (λd=>?_) (λd=>congrArg Prod.snd (ra d)) mX ?_
     .have:=congrArg Prod.fst (ra d);rw[jf]at this;exact this
     .rw[l'];have:=hn [(u.heap.size,0)] X (J (.c (.p 0 0))) (.inr (.inl ⟨Z,by rw[e],Z⟩)) (.inr Z) (λsv h=>by cases Ze h;show 0<_;simp);rw[e]at this;exact this
    | 1,hs =>
     obtain⟨rfl,rfl⟩:=ax (Ze hs);obtain⟨_,e,rfl⟩:=(hP.resolve_left Zc).resolve_right Zc;cases Ze (y'.symm.trans ho);rw[e]at rd hn;refine wS (b:=r.heap.size) (p:=0) (cells:=cells) Ma.lv ho z' A' p' n9 z9 f9 ((rd z _ (B' y)).trans Z) (rd A _ (C' y)) (by simp[Sv.den,fY,nI.den,Function.comp_def]) (by rw[D'];exact(X3 o').1) (λD hv=>aT.1 E D hv) (λq hq=>?_) λw2 s1 s2 s3 s4 s5 s6=>?_
     .simp only[aC,n9];simp;omega
     .have:=hn [] w2 G' (.inr (.inr ⟨Z,by simp,by omega,λk hk=>(s2 k Za).trans (o9 k hk),⟨s3,z9⟩,s6,λq D hv=>s4 q D hv⟩)) (.inl Z) (λsv h=>by cases h);rw[p']at this;exact this
    | s+2,hs=>simp at hs
   .let⟨_,e,e1,e2,e3,e4,e5⟩:=(hP.resolve_left Zc).resolve_left Zc;let⟨⟨c,t,hb⟩,_⟩:=e3;have W':∀i∈pv,i≠r.heap.size:=λi P e=>by have:=(Zj (St.blk P)).1;omega
    let⟨S1,M1,s1,n1⟩:=St.more e4 Za e2 (bs:=[r.heap.size]) (Hn:=H.set r.heap.size (.cells c t (0,0))) (λb' hb'=>by cases Zi hb';exact⟨af _,by rw[hb,y6.na]⟩) λi P=>y6.lj (W' i P);refine h' _ _ free _ O' ⟨r.heap.size,c,t,N',(n1 _ Zc).1,(n1 _ Zc).2,λj D hj=>?_,?_,Z,Z,Z,Z⟩ S1 M1 s1
    .simpa[aC,hb] using e5 j D hj
    .let⟨q1,q2⟩:=Gt (b:=r.heap.size) hp;rw[e]at t'
     exact⟨by rw[q1];exact t',q2⟩)
  λq' H' r' g' ⟨B,c,t,x,E,h2,h3,h4,h5,h6,h7,h8⟩=>by subst h5 h6 h7 h8;exact hn B c t x E h2 h3 h4
attribute [local go_sem ↓] Go.wp_at_zero Go.wp_at_succ
def xk(b:Int)(c d:List Int)(e:Int):M (Int×Int):=if e=0 then M.pure (b,0) else(xQ b c d e).bind λg=>M.pure (0,g)
def xc(b:Int)(d g:List Int)(e:Int):M (Int×Int):=if e=0 then(E5 8 b 0 0).bind λc=>xk b d g c.2 else xk b d g e
def Bh(b:Int)(c d:List Int)(e:Int):M (Int×Int):=if e=0 then(xh b d 0).bind λq=>xc b c (d.take q.1) q.2 else xc b c [] e
def BI(b:aa)(p:Nat)(c:List Int):M (Int×Int):=(tX b b.nS 0 c).bind λz=>if z.1.2=0 then(wE z.1.1 (uN b p) 0 z.2).bind λy=>Bh z.1.1 ((uN b p).take y.1.1) (vj b p) y.1.2 else M.pure (0,z.1.2)
noncomputable def OD:Nat->List bh
 | 0=>match Tryz.f112.body with
  | some (.seq _ (.seq _ (.seq _ (.seq _ (.seq _ (.seq _ (.seq _ (.seq _ c))))))))=>[.code c]
  | _=>[]
 | _=>match Tryz.f112.body with
  | some (.seq _ (.seq _ (.seq _ (.seq _ (.seq _ (.seq _ (.seq _ c)))))))=>[.code c]
  | _=>[]
abbrev NN(C:Ctx)(b e:Int)(c d:Sl):l9:=[(0,sv (pO C.o)),(6,si b),(7,si e),(9,sv c.val),(10,sv d.val)]
theorem JA(b e:Int)(c d:Sl)(m:c.ok pv H)(o:d.ok pv H)(i:Fm')(F:List Fm')(k:Int×Int->Bool->j6)(j:∀x e p g,i9 C n (k (x,e) g) [] H p g (G (i.finish (.tuple #[Y U x,Y U e])) F)){a:cZ}(S:oP 64 (NN C b e c d) a) :
  i9 C n ((xk b c.xs d.xs e).then go k) pv H free go (G ((aQ 112).at a (OD 0)) (i::F)):=by
 unfold xk;refine nU 7 S (λ_=>rfl) λa S=>?_
 by_cases h:e=0
 .rw[mZ h,M.nO];refine gu S Z (by simp[h]) ?_;refine nU 20 S (λ_=>rfl) λa S=>?_;refine gz S gM Z Z Z ?_;exact T9 (j b 0 free go)
 .rw[mY h,M.fi];refine gt S Z (by simp[h]) ?_;refine nU 20 S (λ_=>rfl) λa S=>?_;refine gf S Z Z Z iX Z Z Z ?_;refine WX b e c d m o λl g=>?_;rw[M.nO];refine gk S Z Z (si l) Z Z Z Z λa S=>?_;refine nU 20 S (λ_=>rfl) λa S=>?_;refine gz S gM Z Z Z ?_;exact T9 (j 0 l free g)
theorem Kx(b e:Int)(c d:Sl)(j:c.ok pv H)(l:d.ok pv H)(g:Fm')(F:List Fm')(k:Int×Int->Bool->j6)(m:∀x e o i,i9 C n (k (x,e) i) [] H o i (G (g.finish (.tuple #[Y U x,Y U e])) F)){a:cZ}(S:oP 64 (NN C b e c d) a) :
  i9 C n ((xc b c.xs d.xs e).then go k) pv H free go (G ((aQ 112).at a (OD 1)) (g::F)):=by
 unfold xc;refine nU 7 S (λ_=>rfl) λa S=>?_
 by_cases h:e=0
 .rw[mZ h,M.fi];refine gt S Z (by simp[h]) ?_;refine nU 20 S (λ_=>rfl) λa S=>?_;refine gf S Z Z Z cQ Z Z Z ?_;refine wB 8 b 0 0 λx e i p=>?_;refine gk S Z Z (t2 x e) Z Z Z Z λa S=>?_;refine nU 5 S (λ_=>rfl) λa S=>?_;exact JA b e c d j l g F k m (S.oS [0,6,7,9,10] Z)
 .rw[mY h];refine gu S Z (by simp[h]) ?_;refine nU 1 S (λ_=>rfl) λa S=>?_;exact JA b e c d j l g F k m (S.oS [0,6,7,9,10] Z)
theorem Sl.qQ{s:Sl}{pv:List Nat}{H d:y6}(h:s.ok pv H)(g:∀i∈pv,i∈q)(j:∀i∈pv,d i=H i):s.ok q d :=
 ⟨h.1,h.2.imp id λ⟨b,c,t,l,e,m,o⟩=>⟨b,c,t,l,g b e,(j b e).trans m,o⟩⟩
theorem Fr.qb{b:Option Nat}{c:y6}(d:∀i∈pv,i∈q)(e:∀i∈pv,c i=H i)(h:Fr b pv H free u):Fr b q c free u:=by
 let⟨g,j,l,m,o⟩:=h;exact⟨g,j,l,m,Sl.qQ o d e⟩
theorem Row.qb{f:Nat->Vu}{e:y6}(h:Row pv H b c d f)(j:∀i∈pv,i∈q)(l:∀i∈pv,e i=H i):Row q e b c d f:=by
 let⟨g,m,o,p⟩:=h;exact⟨j b g,m,(l b g).trans o,p⟩
theorem zZ{X:Obj}(c:b∉pv):∀i∈pv,(H.set b X) i=H i:=λi d=>y6.lj λe=>c (e▸d)
theorem YE(d:aa)(gF r gD p:Nat)(hK:d.nS<=32)(hp:p<d.nS)(hC:C.slot=p){y:Option Nat}(j':∀b,y=J b->b∈pv)(k':J r≠y)(hR:Row pv H r 82 (d.nS*20) (A7 d))(hF:Fr y pv H free u){F:List Fm'}{k:Int×Int->Bool->j6}(hn:∀x e D d' R,i9 C n (k (x,e) R) [] D d' R (G (t.finish (.tuple #[Y U x,Y U e])) F)) :
  i9 C n ((BI d p u).then go k) pv H free go (G (ay V 112 #[pO C.o,rN d gF r gD] .normal) (t::F)):=by
 unfold BI;rw[M.fi];refine gn [sv (pO C.o),Cr d gF r gD] gM Z Z Z Z λa S=>?_;refine we 11 [] S (λ_=>rfl) (λ_ _ _ _ _=>trivial) λm c a' a hb R' hc S=>?_;refine gf S Z Z Z ja Z Z Z ?_;have f':∀i∈pv,i∈m::pv:=λi z=>ah _ z;have g':=hR.qb f' (zZ (X:=.cells c a' (0,0)) hb);have T:∀b,y=J b->b∈m::pv:=λb e=>f' b (j' b e);have v':J m≠y:=λe=>hb (j' m e.symm);refine Sp d gF r gD hK T k' g' (hF.qb f' (zZ hb)) λE e S' D d' R w' m'=>?_;refine gk S Z Z (t2 E e) Z Z Z Z λa S=>?_;refine nU 12 S (λ_=>rfl) λa S=>?_
 by_cases q:e=0
 case neg =>
  rw[mY q,M.nO];refine gt S Z (by simp[q]) ?_;refine nU 20 S (λ_=>rfl) λa S=>?_;refine gz S gM Z Z Z ?_;exact T9 (hn 0 e D d' R)
 rw[mZ q,M.fi];refine gu S Z (by simp[q]) ?_;refine nU 2 S (λ_=>rfl) λa S=>?_;have x':Row (m::pv) D r 82 (d.nS*20) (A7 d):=g'.same (m' r g'.1 k');have y':D m=.cells c a' (0,0):=(m' m (ao ..) v').trans (y6.na);refine gd1 8 9 [[Sc (J (O r 0 Q)) d.nS d.nS],[Y U p],(N7 d p).toList] (cells:=(N7 d p).toList) S (λ_ _=>rfl) (λ_=>rfl) Z Zd Z Z Z Z Z Z Z Z (λ_=>rfl) (λ_=>rfl) Z Z (λl K un w A=>?_) λo c2 t2 a n1 n2 n' S=>?_
 .have h0:(0:Int)<=(p:Int)/\(p:Int)<(d.nS:Nat):=by omega
  have c4:=A.ck (j:=4) (x:=Y U p) (by simp[R0,hC]);exact(⟨⟨⟨⟨mX,A.bk (ao ..) y' (hc 1 _ Z)⟩,c4⟩,h0⟩,Ff A x' hp (aE _)⟩:(((_/\_)/\_)/\_)/\_)
 have h':∀i∈m::pv,i∈o::m::pv:=λi z=>ah _ z;have z':J o≠y:=λe=>n1 (T o e.symm);have A':=Fr.qb h' (zZ (X:=.cells c2 t2 (0,0)) n1) w';refine gm 6 [(N7 d p).toList] S (λ_=>rfl) (λl K un w A=>⟨mX,A.rk (ao ..) (y6.na) n'⟩) λa S=>?_;refine gf S Z Z Z kU Z Z Z ?_;refine Bd Zd (by have:=X9 (λj=>d.S p (3+j*2)) 4;unfold uN;omega) (λv _=>MN d p v) λB o' H3 B' C' D' p' E' q'=>?_;rw[←B'];refine gk S Z Z (sv B.val) Z Z Z Z λa S=>?_;have i':∀i∈o::m::pv,i∈o'++(o::m::pv):=λi z=>da _ z;have F':=Fr.qb i' q' A';have r':B.blk≠y\/B.blk=none:=by
  rcases D' with h|⟨b,h,K'⟩
  .exact .inr h
  .exact .inl λe=>(E' b K').1 (h' b (T b (e.symm.trans h)))
 refine gf S Z Z Z iZ Z Z Z ?_;refine ZI (λb e=>i' b (h' b (T b e))) E B p' r' C' F' λP e U' H4 V' W' X' s'=>?_;refine gk S Z Z (.t [.c (.v (B.take P).val),.c (.v (Y U e))]) Z Z Z Z λa S=>?_;have t':=Sl.sQ p' r' s';have m2:o∈o'++(o::m::pv):=i' o (ao ..);have L':H4 o=.cells c2 t2 (0,0):=(s' o m2 z').trans ((q' o (ao ..)).trans (y6.na));refine nU 16 S (λ_=>rfl) λa S=>?_;unfold Bh
 by_cases q:e=0
 case neg =>
  rw[mY q];refine gu S Z (by simp[q]) ?_;refine nU 1 S (λ_=>rfl) λa S=>?_;exact Kx E e (B.take P) ⟨Q,0,[]⟩ (Sl.qY t' P) ⟨by simp,.inl Z⟩ t F k (λx e f g=>hn x e H4 f g) (S.oS [0,6,7,9,10] Z)
 rw[mZ q,M.fi];refine gt S Z (by simp[q]) ?_;refine gm 6 [(N7 d p).toList] S (λ_=>rfl) (λl K un w A=>⟨mX,A.rk m2 L' n'⟩) λa S=>?_;refine gf S Z Z Z kT Z Z Z ?_;refine Bd Zd (by have:=X9 (λj=>d.S p (11+j*2)) 4;unfold vj;omega) (λv _=>OK d p v) λX bs5 H5 N' O' hfb5 u' hnew5 Q'=>?_;rw[←N'];refine gk S Z Z (sv X.val) Z Z Z Z λa S=>?_;refine gf S Z Z Z iY Z Z Z ?_;refine PT E X u' O' λiq e go6=>?_;refine gk S Z Z (.t [.c (.v (X.take iq).val),.c (.v (Y U e))]) Z Z Z Z λa S=>?_;refine nU 6 S (λ_=>rfl) λa S=>?_;exact Kx E e (B.take P) (X.take iq) (Sl.qY (Sl.qQ t' (λi z=>da _ z) Q') P) (Sl.qY u' iq) t F k (λx e f g=>hn x e H5 f g) (S.oS [0,6,7,9,10] Z)
noncomputable def d1B:jj :=
 match Tryz.f113.body with
 | some (.seq _ (.seq (.seq _ (.block _ (.loop (.seq _ (.seq _ (.seq (.block _ (.seq r _)) _)))))) _))=>r
 | _=>.skip
noncomputable def C6:Array aL :=
 match Tryz.f113.body with
 | some (.seq _ (.seq (.seq _ (.block _ (.loop (.seq _ (.seq _ (.seq (.block _ (.seq _ (.seq _ (.cond _ (.seq (.region _ I _) _) _)))) _)))))) _))=>I
 | _=>#[]
def uK(o:ng)(i:Nat)(sv b c d x e:Vu):Nat->Vu
 | 0=>pO o|1=>Y U i|2=>sv|3=>b|4=>sv|5=>c|6=>d|7=>x|8=>e|9=>x|10=>e|_=>Ud
theorem yb{I:Array aL}{a:cZ}{k:List bh}{F:List Fm'}{c:Nat->Vu}{base:Array Vu}{listed:Array Bool}(h:oU I c base listed a)(i:tW I=true)(e:I[b]?=J v)(m:v.guard=Q)(o:t.kind≠.early)(p:qm V (λ_=>false) [] false v.op=true)(r:c b=j)(u:∀l K x w d,oK C l K pv H free x go w->(Ex a.eval v).run V (w.at d)=.ok (.value j) (w.at d))(y:∀g,oU I c base (listed.setIfInBounds b true) g->i9 C n s pv H free go (G (t.at g (.inRegion I q::k)) F)):i9 C n s pv H free go (G (t.at a (.inRegion I (b::q)::k)) F) :=
 NK e m o p u (y _ (h.put i e r))
theorem QC{I:Array aL}{a:cZ}{k:List bh}{F:List Fm'}{c:Nat->Vu}{base:Array Vu}{listed:Array Bool}{b0:Nat}{i:Ti}{f:Nat×Nat}{ms:List Vu}{d:TypeDesc}(l:oU I c base listed a)(m:tW I=true)(e:I[b]?=J v)(p:v.guard=Q)(r:t.kind≠.early)(u:v.op=.load B z)(w:a.eval z=Po (J (O b0 0 Q)))(x:b0∈pv)(y:H b0=.cells o i f)(A:∀(j:Nat) (g:Vu),ms[j]?=J g->o[j]?=J g)(D:V.underlying B=J d)(E:d.isRow=true)(K:(V.info? B).map (·.size)=J ms.length)(P:c b=.agg ms.toArray)(R:∀h,oU I c base (listed.setIfInBounds b true) h->i9 C n s pv H free go (G (t.at h (.inRegion I q::k)) F)):i9 C n s pv H free go (G (t.at a (.inRegion I (b::q)::k)) F) :=
 b3k e p r u w x y A D E K (R _ (l.put m e P))
theorem uC:tW C6=true:=by kernel_rfl
theorem EY{listed:Array Bool}(c:b∈aU .any C6 listed)(h:listed.getD 6 false=false):b<=6:=by
 have d:b<11:=x9 c;refine Nat.le_of_not_lt λe=>?_;obtain rfl|rfl|rfl|rfl:b=7\/b=8\/b=9\/b=10:=by omega
 all_goals exact BW c Z (j:=6) h Zd
theorem IE{listed:Array Bool}(e:∀c,b<=c->listed.getD c false=false)(d:listed.getD c false=true):c<b:=Nat.lt_of_not_le λh=>by rw[e c h]at d;cases d
theorem Dd{listed:Array Bool}{a:cZ}{E:List bh}{F:List Fm'}{sv x e:Vu}(p:d∈aU .any C6 listed)(g:oU C6 (uK C.o c sv j l m x e) o listed a)(d':o.size=40)(b0:o[0]?=J (pO C.o))(X:o[6]?=J (Y U c))(b7:o[7]?=J (Po (J (O b 0 Q))))(hb:d=2\/d=4->b∈pv/\∃(B:aa) (P:Array Vu) (t:Ti) (f:Nat×Nat),H b=.cells P t f/\(∀(R:Nat) (v:Vu),(cut (A7 B) (c*20) 20)[R]?=J v->P[R]?=J v)/\sv=.agg (N7 B c))(h3:d≠3)(h5:d≠5)(h6:d≠6)(S:listed.getD 6 false=true->m=.tuple #[x,e])(i:∀T,oU C6 (uK C.o c sv j l m x e) o (listed.setIfInBounds d true) T->i9 C n s pv H free go (G ((aQ 113).at T (.inRegion C6 q::E)) F)):i9 C n s pv H free go (G ((aQ 113).at a (.inRegion C6 (d::q)::E)) F):=by
 have e':d<11:=x9 p;have M:d=2\/d=4->∀D:aL,C6[d]?=J D->D.op=.load 82 (.tmp 7)->D.guard=Q->uK C.o c sv j l m x e d=sv->i9 C n s pv H free go (G ((aQ 113).at a (.inRegion C6 (d::q)::E)) F):=λh D ho c' hg hV=>by
  let⟨g1,B,P,t,f,g2,g3,g4⟩:=hb h;exact QC g uC ho hg Zb c' (g.base Zd b7) g1 g2 g3 jD Z (by rw[x7];kernel_rfl) ((hV.trans g4).trans (congrArg Value.agg (EF B c).symm)) i
 obtain rfl|rfl|rfl|rfl|rfl|rfl|rfl|rfl:d=0\/d=1\/d=2\/d=4\/d=7\/d=8\/d=9\/d=10:=by omega
 .exact yb g uC Z Z Zb Z Z (λr K u w y z=>X6 Z (g.base Zd b0)) i
 .exact yb g uC Z Z Zb Z Z (λr K u w y z=>X6 Z (g.base Zd X)) i
 .exact M Zc _ Z Z Z Z
 .exact M Zc _ Z Z Z Z
 .have A:listed.getD 6 false=true:=k9 p Z Zd;exact yb g uC Z Z Zb Z Z (λr K u w y z=>Iw Z ((g.tmp (j:=6) Z Z A Za Z).trans (S A)) Z) i
 .have A:listed.getD 6 false=true:=k9 p Z Zd;exact yb g uC Z Z Zb Z Z (λr K u w y z=>Iw Z ((g.tmp (j:=6) Z Z A Za Z).trans (S A)) Z) i
 .exact yb g uC Z Z Zb Z Z (λr K u w y z=>zN Z (g.tmp (j:=7) Z Z (k9 p Z Zd) Za Z)) i
 .exact yb g uC Z Z Zb Z Z (λr K u w y z=>zN Z (g.tmp (j:=8) Z Z (k9 p Z Zd) Za Z)) i
theorem XZ(t:o.size=40)(b0:o[0]?=J (pO C.o))(y:o[6]?=J (Y U c))(z:o[7]?=J (Po (J (O b 0 Q))))(sv A B:Vu)(x e:Int)(u:Fm')(F:List Fm')(D:List bh)(E:i9 C n s pv H free go (G (u.finish (.tuple #[Y U x,Y U e])) F)) :
  ∀K listed a i,Ord C6 K listed i->(oU C6 (uK C.o c sv A B (.tuple #[Y U x,Y U e]) (Y U x) (Y U e)) o listed a/\∀j,j<=6->listed.getD j false=true)->i9 C n s pv H free go (G ((aQ 113).at a (.inRegion C6 i::.code .ret::D)) (u::F)):=by
 refine As (λf listed a q i v l M P=>?_) λlisted a R l=>?_
 .let⟨d,m⟩:=l;have no:∀j,j<=6->q≠j:=λj r e=>uR v (e▸m j r);exact Dd v d t b0 y z (λh=>by have:=no 2;have:=no 4;omega) (no 3 Za) (no 5 Za) (no 6 Za) (λ_=>rfl) λT h=>P T ⟨h,λj r=>Z8 (m j r)⟩
 .let⟨d,m⟩:=l;have w:=V6 Zd d.len R;have S:oP 40 [(4,si x),(5,si e)] a:=⟨⟨d.size.trans t,d.defs,λp g=>?_⟩,λp g=>by simp at g;rcases g with rfl|rfl<;>trivial⟩
  .refine nU 1 S (λ_=>rfl) λa S=>?_;exact gz S jd Z Z Z E
  .simp only[qh,ae,aj,or_false]at g;rcases g with rfl|rfl
   .exact d.done 9 _ 4 Z Z (w 9 (by show 9<11;omega)) Za
   .exact d.done 10 _ 5 Z Z (w 10 (by show 10<11;omega)) Za
theorem c6S(E:o.size=40)(b0:o[0]?=J (pO C.o))(K:o[6]?=J (Y U c))(P:o[7]?=J (Po (J (O b 0 Q))))(i l:Sl)(M:i.ok pv H)(X:l.ok pv H)(y:Fm')(F:List Fm')(R:List bh)(k:Int×Int->Bool->j6)(hs:s=(J5 c i.xs l.xs).then go k)(hn:∀d e p H',i9 C n (k (d,e) p) [] H' free p (G (y.finish (.tuple #[Y U d,Y U e])) F)) :
  ∀c' listed a z,Ord C6 c' listed z->(oU C6 (uK C.o c (.agg (N7 x c)) i.val l.val Ud Ud Ud) o listed a/\(∀j,2<=j->j<=5->listed.getD j false=true)/\∀j,6<=j->listed.getD j false=false)->i9 C n s pv H free go (G ((aQ 113).at a (.inRegion C6 z::.code .ret::R)) (y::F)):=by
 refine As (λf0 listed a q z g r hO d'=>?_) λlisted a hr r=>?_
 .let⟨m,A,t⟩:=r;have no:∀j,2<=j->j<=5->q≠j:=λj B D e=>uR g (e▸A j B D)
  by_cases S:q=6
  case neg=>exact Dd g m E b0 K P (λh=>by have:=no 2;have:=no 4;omega) (no 3 Za Za) (no 5 Za Za) S (λh=>by rw[t 6 Za]at h;cases h) λa' h=>d' a' ⟨h,λj B D=>Z8 (A j B D),λj v=>za (t j v) (by have:=EY g (t 6 Za);omega)⟩
  subst S;have f':a.eval (.tmp 28)=pO C.o:=m.tmp (j:=0) Z Z (k9 g Z Zd) Za Z;have g':a.eval (.tmp 29)=Y U c:=m.tmp (j:=1) Z Z (k9 g Z Zd) Za Z;have h':a.eval (.tmp 31)=i.val:=m.tmp (j:=3) Z Z (k9 g Z Zd) Za Z;have i':a.eval (.tmp 33)=l.val:=m.tmp (j:=5) Z Z (k9 g Z Zd) Za Z;have l0:listed.getD 0 false=true:=k9 g Z Zd;have l1:listed.getD 1 false=true:=k9 g Z Zd;subst hs;refine Gk Z (λu=>Z9 Z Z Zb Z iW Z Z (vs:=#[pO C.o,Y U c,i.val,l.val]) (by grind) u)<|IQ c i l M X λd e p=>?_;obtain⟨w,T,j'⟩:∃w,C6[6]?=J w/\w.dst=J 34:=⟨_,Z,Z⟩;have e':=(m.val (V':=uK C.o c (.agg (N7 x c)) i.val l.val (.tuple #[Y U d,Y U e]) (Y U d) (Y U e)) (λj v=>by have:=IE t v;match j,this with|0,_|1,_|2,_|3,_|4,_|5,_=>rfl)).put uC T (v:=.tuple #[Y U d,Y U e]) Z;rw[bI,show(C6[6]?.bind λd=>d.dst)=w.dst from by rw[T];rfl];refine XZ E b0 K P _ _ _ d e y F R (T9 (hn d e p H)) _ _ _ _ hO ⟨e',λj v=>?_⟩;obtain rfl|rfl|h|rfl:j=0\/j=1\/(2<=j/\j<=5)\/j=6:=by omega
  .simp_all
  .simp_all
  .exact Z8 (A j h.1 h.2)
  .exact zT g
 .exact absurd (V6 Zd r.1.len hr 6 (by show 6<11;omega)) (by rw[r.2.2 6 Za];simp)
theorem c6R(E:o.size=40)(b0:o[0]?=J (pO C.o))(K:o[6]?=J (Y U c))(P:o[7]?=J (Po (J (O b 0 Q))))(c':b∈pv){f:Nat×Nat}(hX:H b=.cells p B f)(d':∀(j:Nat) (v:Vu),(cut (A7 x) (c*20) 20)[j]?=J v->p[j]?=J v)(i:Sl)(e':i.ok pv H)(w:Fm')(F:List Fm')(R:List bh)(k:Int×Int->Bool->j6)(hs:s=(J5 c i.xs (vj x c)).then go k)(hn:∀l e S H',i9 C n (k (l,e) S) [] H' free S (G (w.finish (.tuple #[Y U l,Y U e])) F)) :
  ∀f' listed a y,Ord C6 f' listed y->(oU C6 (uK C.o c (.agg (N7 x c)) i.val Ud Ud Ud Ud) o listed a/\(∀j,2<=j->j<=3->listed.getD j false=true)/\∀j,5<=j->listed.getD j false=false)->i9 C n s pv H free go (G ((aQ 113).at a (.inRegion C6 y::.code .ret::R)) (w::F)):=by
 refine As (λf0 listed a q y d m hO g'=>?_) λlisted a hr m=>?_
 .let⟨z,A,g⟩:=m;have h3:q≠3:=λe=>uR d (e▸A 3 Za Za);have h6:q≠6:=λe=>by subst e;exact BW d Z (j:=5) (g 5 Za) Zd
  have m':=EY d (g 6 Za)
  by_cases T:q=5
  case neg=>exact Dd d z E b0 K P (λ_=>⟨c',x,p,B,f,hX,d',Z⟩) h3 T h6 (λh=>by rw[g 6 Za]at h;cases h) λa' h=>g' a' ⟨h,λj M X=>Z8 (A j M X),λj r=>za (g j r) Za⟩
  subst T;have h':a.eval (.tmp 32)=.agg (N7 x c):=z.tmp (j:=4) Z Z (k9 d Z Zd) Za Z;have l4:listed.getD 4 false=true:=k9 d Z Zd;refine Gk Z (λu=>Z9 Z Z Zb Z kT Z Z (vs:=#[.agg (N7 x c)]) (by simp[h']) u)<|Bd Zd (by have:=X9 (λj=>x.S c (11+j*2)) 4;unfold vj;omega) (λv _=>OK x c v) λD n' H5 i' o' p' j' q' k'=>?_;obtain⟨t,ho,r'⟩:∃t,C6[5]?=J t/\t.dst=J 33:=⟨_,Z,Z⟩;have l':=(z.val (V':=uK C.o c (.agg (N7 x c)) i.val D.val Ud Ud Ud) (λj r=>by have:=IE g r;match j,this with|0,_|1,_|2,_|3,_|4,_=>rfl)).put uC ho (v:=D.val) Z;rw[bI,show(C6[5]?.bind λl=>l.dst)=t.dst from by rw[ho];rfl];refine c6S E b0 K P i D (Sl.qQ e' (λc d=>da _ d) k') j' w F R k (by rw[hs,i']) hn _ _ _ _ hO ⟨l',λj M X=>?_,λj r=>za (g j Za) Za⟩;obtain h|rfl|rfl:(2<=j/\j<=3)\/j=4\/j=5:=by omega
  .exact Z8 (A j h.1 h.2)
  .simp_all
  .exact zT d
 .exact absurd (V6 Zd m.1.len hr 6 (by show 6<11;omega)) (by rw[m.2.2 6 Za];simp)
theorem UB{i:Nat}{tb:Array Vu}(A:tb.size=40)(b0:tb[0]?=J (pO C.o))(D:tb[6]?=J (Y U i))(E:tb[7]?=J (Po (J (O b 0 Q)))){K0:aa}(r:b∈pv){f:Nat×Nat}(K:H b=.cells o B f)(P:∀(j:Nat) (v:Vu),(cut (A7 K0) (i*20) 20)[j]?=J v->o[j]?=J v)(t:Fm')(F:List Fm'){R:List bh}(k:Int×Int->Bool->j6)(M:s=(J5 i (uN K0 i) (vj K0 i)).then go k)(X:∀x e S H',i9 C n (k (x,e) S) [] H' free S (G (t.finish (.tuple #[Y U x,Y U e])) F)) :
  ∀c' listed a w,Ord C6 c' listed w->(oU C6 (uK C.o i (.agg (N7 K0 i)) Ud Ud Ud Ud Ud) tb listed a/\listed.getD 3 false=false/\∀j,5<=j->listed.getD j false=false)->i9 C n s pv H free go (G ((aQ 113).at a (.inRegion C6 w::.code .ret::R)) (t::F)):=by
 refine As (λf0 listed a q w c l hO d'=>?_) λlisted a hr l=>?_
 .let⟨y,m,g⟩:=l;have n5:q≠5:=λe=>by subst e;exact BW c Z (j:=3) m Zd
  have n6:q≠6:=λe=>by subst e;exact BW c Z (j:=3) m Zd
  have j':=EY c (g 6 Za)
  by_cases n3:q=3
  case neg=>exact Dd c y A b0 D E (λ_=>⟨r,K0,o,B,f,K,P,Z⟩) n3 n5 n6 (λh=>by rw[g 6 Za]at h;cases h) λa' h=>d' a' ⟨h,za m Za,λj d=>za (g j d) Za⟩
  subst n3;have e':a.eval (.tmp 30)=.agg (N7 K0 i):=y.tmp (j:=2) Z Z (k9 c Z Zd) Za Z;have l2:listed.getD 2 false=true:=k9 c Z Zd;refine Gk Z (λu=>Z9 Z Z Zb Z kU Z Z (vs:=#[.agg (N7 K0 i)]) (by simp[e']) u)<|Bd Zd (by have:=X9 (λj=>K0.S i (3+j*2)) 4;unfold uN;omega) (λv _=>MN K0 i v) λz k' H5 f' l' m' g' n' h'=>?_;obtain⟨p,T,o'⟩:∃p,C6[3]?=J p/\p.dst=J 31:=⟨_,Z,Z⟩
  have i':=(y.val (V':=uK C.o i (.agg (N7 K0 i)) z.val Ud Ud Ud Ud) (λj d=>by
   have:=IE g d
   match j,this with
   | 0,_|1,_|2,_|4,_=>rfl
   | 3,_=>rw[m]at d;cases d)).put uC T (v:=z.val) Z
  rw[bI,show(C6[3]?.bind λx=>x.dst)=p.dst from by rw[T];rfl];refine c6R A b0 D E (da _ r) ((h' b r).trans K) P z g' t F R k (by rw[M,f']) X _ _ _ _ hO ⟨i',λj h1 h2=>?_,λj d=>za (g j Za) Za⟩;obtain rfl|rfl:j=2\/j=3:=by omega
  .simp_all
  .exact zT c
 .exact absurd (V6 Zd l.1.len hr 6 (by show 6<11;omega)) (by rw[l.2.2 6 Za];simp)
def vh(b:aa)(p:Int):Nat->Nat->M (Int×Int)
 | 0,_=>(sx 11).bind λe=>M.pure (0,e)
 | f+1,i=>if (b.S i 1==p&&b.S i 0==3)=true then J5 i (uN b i) (vj b i) else vh b p f (i+1)
noncomputable def Ov:List bh :=
 match Tryz.f113.body with
 | some (.seq _ (.seq (.seq _ (.block i (.loop c))) r))=>[.code c,.inLoop c,.inBlock i,.code r]
 | _=>[]
theorem c2W(b:aa)(gF m gD sb:Nat)(hK:b.nS<=32)(y:y6)(z:Row pv y m 82 (b.nS*20) (A7 b))(q:Fm')(F:List Fm')(k:Int×Int->Bool->j6)(A:∀x e r H',i9 C n (k (x,e) r) [] H' free r (G (q.finish (.tuple #[Y U x,Y U e])) F)) :
  ∀(f i:Nat),i+f=b.nS->∀(H:y6),(∀i∈pv,H i=y i)->∀(go:Bool) a,oP 40 [(0,sv (pO C.o)),(9,sv (Sc (J (O m 0 Q)) b.nS b.nS)),(10,si b.nS),(11,si i)] a ->
  i9 C n ((vh b C.slot f i).then go k) pv H free go (G ((aQ 113).at a Ov) (q::F)):=by
 intro f
 induction f with
 | zero =>
  intro i hi H u go a S;unfold vh;rw[M.fi];refine nU 5 S (λ_=>rfl) λa S=>?_;refine gu S Z (by simp;omega) ?_;refine nU 9 S (λ_=>rfl) λa S=>?_;refine gf S Z Z Z fD Z Z Z ?_;refine Hu 11 λe r=>?_;rw[M.nO];refine gk S Z Z (si e) Z Z Z Z λa S=>?_;refine nU 9 S (λ_=>rfl) λa S=>?_;refine gz S jd Z Z Z ?_;exact T9 (A 0 e r H)
 | succ f ih =>
  intro i hi H u go a S;have d':i<b.nS:=by omega
  unfold vh;refine nU 5 S (λ_=>rfl) λa S=>?_;refine gt S Z (by simp;omega) ?_;have B:(0:Int)<=(i:Int)/\(i:Int)<(b.nS:Nat):=by omega
  have D:∀l K h w,oK C l K pv H free h go w->vA w [] m (0+i*20) (N7 b i).toList:=λl K h w g=>Ff g (z.same (u m z.1)) d' (aE _);have E:∀d X a,d∉pv->oP 40 [(0,sv (pO C.o)),(9,sv (Sc (J (O m 0 Q)) b.nS b.nS)),(10,si b.nS),(11,si (IntKind.i64.wrap ((i:Int)+1)))] a->i9 C n ((vh b C.slot f (i+1)).then go k) (d::pv) (H.set d X) free go (G ((aQ 113).at a Ov) (q::F)):=λd X a o S=>by
   rw[W7 Za Za,show((i:Int)+1)=((i+1:Nat):Int) from by simp]at S;refine ya o ?_;exact ih (i+1) Za H u go a S
  cases P:b.S i 1==C.slot
  .rw[mY Zc];refine we 40 [(N7 b i).toList,[Y U C.slot],[Bo false,Bo false]] S (λ_=>rfl) (λl K h w g=>?_) λd c t a o h2 R S=>?_
   .refine⟨⟨?_,by kernel_rfl⟩,by kernel_rfl⟩;exact(⟨⟨⟨⟨mX,B⟩,D l K h w g⟩,g.ck (j:=4) Z⟩,P⟩:(((_/\_)/\_)/\_)/\_)
   refine gu S Z Z ?_;refine nU 7 S (λ_=>rfl) λa S=>?_;exact E d _ a o (S.oS [0,9,10,11] Z)
  .refine we 40 [(N7 b i).toList,[Y U C.slot],[Bo true,Bo true]] S (λ_=>rfl) (λl K h w g=>?_) λd c t a o h2 R S=>?_
   .refine⟨⟨?_,by kernel_rfl⟩,by kernel_rfl⟩;exact(⟨⟨⟨⟨mX,B⟩,D l K h w g⟩,g.ck (j:=4) Z⟩,P⟩:(((_/\_)/\_)/\_)/\_)
   simp only[Bool.true_and];cases T:b.S i 0==3
   .rw[mY Zc];refine gu S Z T ?_;refine nU 7 S (λ_=>rfl) λa S=>?_;exact E d _ a o (S.oS [0,9,10,11] Z)
   rw[mZ Z];refine gt S Z T ?_;refine nU 1 S (λ_=>rfl) λa S=>?_;refine Qj Zd λe' hO=>?_;have p:=(S.oS [0,6,7] Z).lv;let⟨tb,ds⟩:=a;obtain rfl:ds=[]:=p.defers
   exact UB (C:=C) (K0:=b) (i:=i) (tb:=tb) p.size (p.has (0,_) (.head _)) (p.has (6,_) (.tail _ (.head _))) (p.has (7,_) (.tail _ (.tail _ (.head _)))) (ao ..) (y6.na) (λj v hj=>by
    have:=CI (n:=20) (o:=0) (l:=(N7 b i).toList) R Z j v (by rw[←EF];exact hj)
    rwa [aE]at this) q F k Z A C6.size (bY C6.size false) ⟨tb,[]⟩ e' hO ⟨oU.start _ _ _,W4 _ _,λj _=>W4 _ _⟩
theorem Ul(b:aa)(g d h:Nat)(j:b.nS<=32)(l:Row pv H d 82 (b.nS*20) (A7 b)){F:List Fm'}{k:Int×Int->Bool->j6}(m:∀x e i o,i9 C n (k (x,e) i) [] o free i (G (t.finish (.tuple #[Y U x,Y U e])) F)) :
  i9 C n ((vh b C.slot b.nS 0).then go k) pv H free go (G (ay V 113 #[pO C.o,rN b g d h] .normal) (t::F)):=by
 refine gn [sv (pO C.o),Cr b g d h] jd Z Z Z Z λa S=>we 16 [] S (λ_=>rfl) (λ_ _ _ _ _=>trivial) λp c r a q u v S=>ya q<|c2W (C:=C) (n:=n) (free:=free) b g d h p j H l t F k m b.nS 0 Za H (λ_ _=>rfl) go a (S.oS [0,9,10,11] Z)
theorem gfr{L:Nat}{N:l9}{a:cZ}{f:bC}{k:List bh}{F:List Fm'}{I:Array aL}{g:Option cx}(S:oP L N a)(ho:I[b]?=J v)(hg:v.guard=Q)(y:v.op=.store 139 z A)(hd:v.dst=Q)(hx:pJ N z=J (sv (Po (J (O C.o.bo 10 Q)))))(hy:pJ N A=J (sv (.slice g c d)))(hn:i9 C n s pv H (.slice g c d) go (G ((aQ f).at a (.inRegion I q::k)) F)):i9 C n s pv H free go (G ((aQ f).at a (.inRegion I (b::q)::k)) F):=by
 refine X7 (R:=λB o D E=>B=pv/\o=H/\D=.slice g c d/\E=G ((aQ f).at a (.inRegion I q::k)) F) (λl K un w Stop m h i=>?_) (λB o D E ⟨r,u,x,h4⟩=>by subst r u x h4;exact hn);have P:=((m.oO S).rd hx).1;have R:=((m.oO S).rd hy).1;have T:w.cell? (O C.o.bo 10 Q)=J free:=m.wV (d:=w.drawn) Z;have hm:C.o∈l:=by let⟨o,p,_⟩:=m;exact p.mem
 have ez:w.frozen? (O C.o.bo 10 Q)=false:=by
  let⟨o,p,M⟩:=m;let⟨t,hb⟩:=p.blk;simp[bR,hb]
 let⟨o,p,M⟩:=m;let⟨t,A2,X⟩:=p.set (j:=10) (x:=.slice g c d) (free':=.slice g c d) (un':=un) (go':=go) Za Z;refine B9 ho (B6 hg) (by show aV≠.early;decide) (λi K' hK=>?_) i;have ed:(w.at i).cell? (O C.o.bo 10 Q)=J free:=T;have e':(w.at i).frozen? (O C.o.bo 10 Q)=false:=ez;have r1:(Ex a.eval v).run V (w.at i)=.ok .skip ((w.at i).setCell (O C.o.bo 10 Q) (.slice g c d)):=by
  unfold Ex;simp only[y,P,R,Sv.den,nI.den];go_simp
 have r2:∀e∈(Ex a.eval v).events V (w.at i) #[],e=⟨.cell (O C.o.bo 10 Q),true,false⟩:=λe j=>by
  unfold Ex at j;simp only[y,P,R,Sv.den,nI.den]at j;simp only[go_sem]at j;simp[go_sem]at j;rw[jl _ _ _ _ _ _ Z,ed,e']at j;simpa[show(Mode.plain==Mode.atomic)=false from Z] using j
 rw[r1,uponK_skip,hd];exact hK _ _ ⟨xx (by rw[Q2 hm];show 3<=10;omega) (aK _ _ T) λe j=>r2 e (cA j),h pv H (.slice g c d) _ (w.setCell (O C.o.bo 10 Q) (.slice g c d)) ⟨Z,Z,Z,Z⟩ (.of A2 (AL M)) ⟨X.size,λk hk h0 r u x=>X.block k hk (λe=>h0 (by cases Zi e;exact ao ..)) r u x⟩ (λb hi=>.inl hi) i⟩
abbrev IK(K:aa)(b c d:Nat):List dM:=[Sc (J (O b 0 Q)) K.nF K.nF,Sc (J (O c 0 Q)) K.nS K.nS,Sc (J (O d 0 Q)) K.nD K.nD]
def zX(b:aa)(p:Nat)(c A B:Int):M (Int×Int) :=
 if c=1 then BI b p (E9 b b.nF) else if c=2 then vh b p b.nS 0
 else if c=3 then(wh 13 (E9 b b.nF).length A 0 B (E9 b b.nF)).bind λz=>M.pure (0,z.1)
 else if c=4 then(J4 16 B 0 A).bind λe=>M.pure (0,e)
 else if c=5 then xv A B else if c=6 then E5 9 A 0 0
 else if c=7 then(wh 2 (E9 b b.nF).length A 0 0 (E9 b b.nF)).bind λz=>M.pure (0,z.1)
 else M.pure (0,2)
theorem RP(g:aa)(m o r p:Nat)(i':g.nF<=32)(hK:g.nS<=32)(hp:p<g.nS)(hC:C.slot=p)(j':Row pv H m 71 (g.nF*6) (U9 g))(k':Row pv H o 82 (g.nS*20) (A7 g))(fr:Fm')(F:List Fm')(k:Int×Int->Bool->j6)(u:∀x e z D j,i9 C n (k (x,e) j) [] z D j (G (fr.finish (.tuple #[Y U x,Y U e])) F)) :
  i9 C n ((zX g p C.kd C.A C.B).then go k) pv H free go (G (ay V 107 #[pO C.o,rN g m o r] .normal) (fr::F)):=by
 refine gn [sv (pO C.o),Cr g m o r] dr Z Z Z Z λa S=>?_;refine we 11 [] S (λ_=>rfl) (λ_ _ _ _ _=>trivial) λq c t a hb E hc S=>?_;have c':∀i∈pv,i∈q::pv:=λi P=>ah _ P;have d':=j'.qb c' (zZ (X:=.cells c t (0,0)) hb);have e':=k'.qb c' (zZ (X:=.cells c t (0,0)) hb);refine gf S Z Z Z Tryz.func111 Z Z Z ?_;have u':=Dj g g.nF;refine Bd Zd (xs:=E9 g g.nF) Za (λv hv=>c4e v g m o r i' (d'.is hv) (hv m d'.1).1) λy A R l' v' f' m' n' g'=>?_;refine gk S Z Z (sv y.val) Z Z Z Z λa S=>?_;have h':=e'.qb (λi P=>da A P) g';have o':q∈A++(q::pv):=da _ (ao ..);have p':R q=.cells c t (0,0):=(g' q (ao ..)).trans (y6.na);have T:∀b,y.blk=J b->b∈A++(q::pv):=λb e=>by
  rcases f' with h|⟨b',h,E⟩
  .rw[h]at e;cases e
  .rw[h]at e;cases Ze e;exact fK _ E
 have q':J o≠y.blk:=λe=>by
  rcases f' with h|⟨b',h,E⟩
  .rw[h]at e;cases e
  .rw[h]at e;cases Ze e;exact(n' _ E).1 e'.1
 have hF:Fr y.blk (A++(q::pv)) R y.val (E9 g g.nF):=⟨y,Z,Z,l',m'⟩;refine nU 2 S (λ_=>rfl) λa S=>?_;refine gfr S Z Z Z Z Z Z ?_;refine gm 40 [[Y U C.A],[Y U C.B],[Y U C.kd]] S (λ_=>rfl) (λl K X w B=>(⟨⟨⟨(⟨⟨mX,B.ck (j:=6) Z⟩,B.ck (j:=7) Z⟩:(_/\_)/\_),by kernel_rfl⟩,by kernel_rfl⟩,B.ck (j:=5) Z⟩:((_/\_)/\_)/\_)) λa S=>?_;have rk:∀l K X w,oK C l K (A++q::pv) R y.val X go w->True/\vA w [] q 0 (IK g m o r):=λl K X w B=>⟨mX,B.rk o' p' (CI (n:=3) (o:=0) hc Z)⟩
 unfold zX
 by_cases d:C.kd=1
 .rw[mZ d];refine gt S Z (by simp[d]) ?_;refine gm 9 [IK g m o r] S (λ_=>rfl) rk λa S=>?_;refine gf S Z Z Z gM Z Z Z ?_;refine YE g m o r p hK hp hC T q' h' hF λx e z D j=>?_;refine gk S Z Z (t2 x e) Z Z Z Z λa S=>?_;refine nU 9 S (λ_=>rfl) λa S=>?_;refine gz S dr Z Z Z ?_;exact T9 (u x e H _ j)
 rw[mY d];refine gu S Z (by simp[d]) ?_;refine nU 9 S (λ_=>rfl) λa S=>?_
 by_cases d:C.kd=2
 .rw[mZ d];refine gt S Z (by simp[d]) ?_;refine gm 9 [IK g m o r] S (λ_=>rfl) rk λa S=>?_;refine gf S Z Z Z jd Z Z Z ?_;rw[←hC];refine Ul g m o r hK h' λx e j z=>?_;refine gk S Z Z (t2 x e) Z Z Z Z λa S=>?_;refine nU 9 S (λ_=>rfl) λa S=>?_;refine gz S dr Z Z Z ?_;exact T9 (u x e H _ j)
 rw[mY d];refine gu S Z (by simp[d]) ?_;refine nU 9 S (λ_=>rfl) λa S=>?_
 by_cases d:C.kd=3
 .rw[mZ d,M.fi];refine gt S Z (by simp[d]) ?_;refine nU 9 S (λ_=>rfl) λa S=>?_;refine gf S Z Z Z eI Z Z Z ?_;refine GC hF T 13 C.A 0 C.B λe r' z D j s' t'=>?_;refine gk S Z Z (si e) Z Z Z Z λa S=>?_;refine nU 9 S (λ_=>rfl) λa S=>?_;refine gz S dr Z Z Z ?_;exact T9 (u 0 e H _ j)
 rw[mY d];refine gu S Z (by simp[d]) ?_;refine nU 9 S (λ_=>rfl) λa S=>?_
 by_cases d:C.kd=4
 .rw[mZ d,M.fi];refine gt S Z (by simp[d]) ?_;refine nU 9 S (λ_=>rfl) λa S=>?_;refine gf S Z Z Z jc Z Z Z ?_;refine PM 16 C.B 0 C.A λe j=>?_;refine gk S Z Z (si e) Z Z Z Z λa S=>?_;refine nU 9 S (λ_=>rfl) λa S=>?_;refine gz S dr Z Z Z ?_;exact T9 (u 0 e H _ j)
 rw[mY d];refine gu S Z (by simp[d]) ?_;refine nU 9 S (λ_=>rfl) λa S=>?_
 by_cases d:C.kd=5
 .rw[mZ d];refine gt S Z (by simp[d]) ?_;refine nU 9 S (λ_=>rfl) λa S=>?_;refine gf S Z Z Z jb Z Z Z ?_;refine c0P C.A C.B λx e j=>?_;refine gk S Z Z (t2 x e) Z Z Z Z λa S=>?_;refine nU 9 S (λ_=>rfl) λa S=>?_;refine gz S dr Z Z Z ?_;exact T9 (u x e H _ j)
 rw[mY d];refine gu S Z (by simp[d]) ?_;refine nU 9 S (λ_=>rfl) λa S=>?_
 by_cases d:C.kd=6
 .rw[mZ d];refine gt S Z (by simp[d]) ?_;refine nU 9 S (λ_=>rfl) λa S=>?_;refine gf S Z Z Z cQ Z Z Z ?_;refine wB 9 C.A 0 0 λx e j hg=>?_;refine gk S Z Z (t2 x e) Z Z Z Z λa S=>?_;refine nU 9 S (λ_=>rfl) λa S=>?_;refine gz S dr Z Z Z ?_;exact T9 (u x e H _ j)
 rw[mY d];refine gu S Z (by simp[d]) ?_;refine nU 9 S (λ_=>rfl) λa S=>?_
 by_cases d:C.kd=7
 .rw[mZ d,M.fi];refine gt S Z (by simp[d]) ?_;refine nU 9 S (λ_=>rfl) λa S=>?_;refine gf S Z Z Z eI Z Z Z ?_;refine GC hF T 2 C.A 0 0 λe r' z D j s' t'=>?_;refine gk S Z Z (si e) Z Z Z Z λa S=>?_;refine nU 9 S (λ_=>rfl) λa S=>?_;refine gz S dr Z Z Z ?_;exact T9 (u 0 e H _ j)
 rw[mY d,M.nO];refine gu S Z (by simp[d]) ?_;refine nU 9 S (λ_=>rfl) λa S=>?_;refine gz S dr Z Z Z ?_;exact T9 (u 0 2 H _ go)
noncomputable def bot:Frame:={ (default:Fm') with fn:=V.funcs.size,defers:=[],mode:=.panicking [goexitEntry] }
noncomputable def Ht:jj:=(Tryz.f88.body).getD .skip
noncomputable def uQ(o:ng):Deferred :=
 match Tryz.f88.body with
 | some (.seq (.region _ I _) _)=>{ target:=.builtin .close (match I[4]? with|some x=>(match x.op with|.defer c=>c.argTypes|_=>#[])|none=>#[]) 0 #[false],args:=#[.chan (J o.to)] }
 | _=>dR
noncomputable def R8(o:ng):Fm' :=
 match Tryz.f88.body with
 | some (.seq _ (.seq (.region _ I _) c))=>(iM 88).at ⟨#[pO o,Ud,pO o,pO o,Po (J (O o.bo 1 Q)),.chan (J o.to),pO o,Ud,Ud,Ud,Ud,Ud,Ud,Ud,Ud,Ud,Ud,Ud,Ud,Ud,Ud,Ud,Ud,Ud,Ud,Ud],[uQ o]⟩ [.inRegion I [1],.code c]
 | _=>dR
noncomputable def DI(o:ng)(b:Nat):Fm' :=
 match Tryz.f88.body with
 | some (.seq _ (.seq _ (.cond _ (.region _ I _) _)))=>(iM 88).at ⟨#[pO o,Ud,pO o,pO o,Po (J (O o.bo 1 Q)),.chan (J o.to),pO o,Bo true,Ud,pO o,pO o,pO o,pO o,pO o,Po (J (O o.bo 3 Q)),Po (J (O b 0 Q)),Ud,Ud,Ud,Ud,Ud,Ud,Ud,Ud,Ud,Ud],[uQ o]⟩ [.inRegion I [7,8,9,10,11,12,13,14,15,16,17,18,19]]
 | _=>dR
noncomputable def zR(o:ng)(b:Nat)(c:Vu):Fm' :=
 match Tryz.f88.body with
 | some (.seq _ (.seq _ (.cond _ (.region _ I _) _)))=>(iM 88).at ⟨#[pO o,Ud,pO o,pO o,Po (J (O o.bo 1 Q)),.chan (J o.to),pO o,Bo true,Ud,pO o,pO o,pO o,pO o,pO o,Po (J (O o.bo 3 Q)),Po (J (O b 0 Q)),c,Ud,Ud,Ud,Ud,Ud,Ud,Ud,Ud,Ud],[uQ o]⟩ [.inRegion I [8,9,10,11,12,13,14,15,16,17,18,19]]
 | _=>dR
theorem Vc(o:ng)(w:Wd):bF V false (born V (dcall 88 #[pO o])) w=.go (G ((iM 88).at ⟨#[pO o,Ud,Ud,Ud,Ud,Ud,Ud,Ud,Ud,Ud,Ud,Ud,Ud,Ud,Ud,Ud,Ud,Ud,Ud,Ud,Ud,Ud,Ud,Ud,Ud,Ud],[]⟩ [.code Ht]) [bot]) w #[]:=by
 simp[born,dcall,bF,unwind,callDeferred,invoke,callFunc,Tryz.func88,fJ,seen,eY,G,ay,Frame.at,iM,bot,Ht]
theorem Vb(b:Array Vu):QuitsD V 2 0 (G { (iM 88).at ⟨b,[]⟩ [] with mode:=.returning } [bot]):=by
 refine QuitsD.ctl (g':=G bot []) Z (λw=>?_) ?_
 .simp[G,bF,unwind,doReturn,de,Frame.at,iM,bot,Tryz.func88,fJ,seen,eY,goexitEntry]
 refine QuitsD.ctl (g':={ G bot [] with status:=.finished }) Z (λw=>?_) ⟨Z,Z⟩;simp[G,bF,unwind,bot,goexitEntry,Frame.catches];rfl
theorem TE(o:ng)(g:Array Vu){k:Nat}(i:h.heap[o.to]?=J (.chan b #[] false k k false)) :
  bF V false (G { (iM 88).at ⟨g,[uQ o]⟩ [] with mode:=.returning } [bot]) h=.go (G { (iM 88).at ⟨g,[]⟩ [] with mode:=.returning } [bot]) (h.setChan o.to b #[] true k k false) (gU o.to):=by
 have j:∀(c:Array Ti) (F:Array Bool),(invoke (.builtin .close c 0 F) #[.chan (J o.to)]).run V h=.ok (.value (.tuple #[])) (h.setChan o.to b #[] true k k false):=λc F=>by
  simp[go_sem,invoke,run_close_open _ _ i,dh]
 have d:∀(c:Array Ti) (F:Array Bool),(invoke (.builtin .close c 0 F) #[.chan (J o.to)]).events V h #[]=gU o.to:=λc F=>by
  simp[go_sem,invoke,events_close_open _ _ i,gU]
 have l:seen V 88 (gU o.to)=gU o.to:=seen_eq Zd (by intro e d f;simp only[gU,dU,ae,aj,or_false]at d;rcases d with rfl|rfl<;>simp);unfold uQ;simp only[fJ];have m:=j;have p:=d;simp[G,bF,unwind,callDeferred,Frame.at,iM,j,d,eY,l]
theorem Gj(C:Ctx)(b:Array Vu):GR C (G { (iM 88).at ⟨b,[uQ C.o]⟩ [] with mode:=.returning } [bot]) :=
 ⟨Z,Z,_,Z,λd k u c=>TE C.o b c,2,Vb b⟩
theorem b4d{P:Pg}{a:cZ}{k:List bh}{F:List Fm'}{I:Array aL}{d:Builtin}{c:Array aS}{e:Array Ti}(g:I[b]?=J v)(j:bM v (fh I a.tmps)=true)(l:t.kind≠.early)(i:v.op=.defer { callee:=.builtin d,args:=c,argTypes:=e }){D:Deferred}(m:({ target:=.builtin d e v.type (c.map fun|.const _=>true|_=>false),args:=c.map a.eval }:Deferred)=D) :
  bF P r (G (t.at a (.inRegion I (b::q)::k)) F) h=.go (G (t.at (dG ⟨a.tmps,D::a.defers⟩ v.dst Ud) (.inRegion I q::k)) F) h #[]:=by
 have o:(Ex a.eval v).run P h=.ok (.defer D) h:=by
  unfold Ex;simp[i,resolve,←m];intro x y;cases x<;>rfl
 have p:(Ex a.eval v).events P h #[]=#[]:=by
  unfold Ex;simp[i,resolve]
 have u:(t.at ⟨a.tmps,D::a.defers⟩ (.inRegion I (b::q)::k)).finish Ud=t.at (dG ⟨a.tmps,D::a.defers⟩ v.dst Ud) (.inRegion I q::k):=by rw[bI,g];rfl
 have w:(t.kind==CallKind.early)=false:=by simpa using l
 rw[stepG_oper g j,←u];simp[dg,o,p,G,Frame.at,w,eY,seen_none]
theorem TK(o:ng){l:List ng}(c:o∈l)(B:Nat)(h:∀o∈l,o.bo<B):Sits V false (KO l) (SP l no) B (J0 o [R8 o,bot]) 34 (born V (dcall 88 #[pO o])):=by
 have j:=MM o l c B h [R8 o,bot];refine .inl ⟨33,dR,Z,?_⟩;refine cK Z λd b=>?_;rw[Vc];simp only[iK];refine⟨iL _,?_⟩;clear b;unfold R8 Ht at *;simp only[fJ,cU,pO]at *
 repeat
  refine cK Z λd b=>?_
  first
  | ((first|rw[stepG_seq]|rw[stepG_region_end]|rw[stepG_region]|rw[b4d Z Z Zb Z (D:=uQ o) (by unfold uQ;simp only[fJ];simp[dj])]);simp only[iK,aY,cI,kC,Nat.reduceAdd,aE,aO,List.range.loop,dG];refine⟨iL _,?_⟩;clear b)
  | (refine eV Z Z Zb λK i=>?_;let⟨m,p,q,r⟩:=uv b c;go_simp;refine i _ _ ⟨⟨Z,λe t=>by(have g:=cA t;first|(simp[go_sem]at g;done)|(simp[go_sem, *]at g;subst g;exact evC_read _ (.inl ⟨o,c,1,by omega,Z⟩) (h o c)))⟩,?_⟩;clear i K m p q r b)
 refine cK Z λd b=>?_;rw[Z9 Z Z Zb Z jm Z Z (vs:=#[pO o]) (by simp[dj])];simp only[iK];exact⟨iL _,j d⟩
theorem Na{C:Ctx}{l:List ng}(E:Env C l x h)(u:Bool)(r:Fm')(F:List Fm') :
  l6 V u (DL true (ep l)) (λg j=>∃c d i,g=G (r.finish (rN x c d i)) F/\h.heap.size<=j.heap.size/\(∀k,k<h.heap.size->j.heap[k]?=h.heap[k]?)/\Fit (ep l) j/\qa j c d i x/\h.heap.size<=c/\h.heap.size<=d/\h.heap.size<=i)
   (G (ay V 33 #[Po (J (O C.bk 0 Q))] .normal) (r::F)) h:=by
 let⟨y,z,A⟩:=E.zero
 refine(xU xn Zd E.fit u (Q:=λp m=>∃c d i v,p=rN x c d i/\Lk (ep l) v h/\bE v.heap.size v m/\qa m c d i x/\v.heap.size<=c/\v.heap.size<=d/\v.heap.size<=i)
  (λv w=>(Nf (Ca w y z A E.rep)).mono λe m B=>by
   obtain⟨c,d,i,rfl,D,K,P⟩:=B
   exact⟨c,d,i,v,Z,w,D,K,P⟩) r F).keep.mono (λ_ _ _ R=>R) ?_
 rintro g j ⟨⟨p,m,rfl,hl',c,d,i,v,rfl,hl,q,hS,hF,hs,hD⟩,hkp⟩;have S:∀b,h.heap.size<=b->j.heap[b]?=m.heap[b]?:=λb q=>by
  have:ep l b=0:=U7 λo T=>by have:=KO.lt E.ko T;omega
  rw[hl'.heap,this]
  cases e:j.heap[b]? with
  | none=>rfl
  | some p=>rw[aD,xC (hkp.new b p q e)]
 rw[hl.size]at hF hs hD;refine⟨c,d,i,Z,by rw[←hl.size,←hl'.size];exact q.size,λk t=>C5 hkp hl hl' (q.block k (by rw[hl.size];exact t)),hl'.fit,hS.same λk t=>S k ?_,hF,hs,hD⟩;rcases t with rfl|rfl|rfl<;>assumption
variable{l:List ng}{K:aa}{a:Bool}{w:Wd}
theorem Env.set(E:Env C l K w)(v:C.o∈l)(m:w.heap[C.o.bo]?=J (.cells o B (0,0))){j:Nat}(T:3<=j)(x:Vu):Env C l K (w.setCell (O C.o.bo j Q) x):=by
 have b:∀k,k≠C.o.bo->(w.setCell (O C.o.bo j Q) x).heap[k]?=w.heap[k]?:=λk b=>by rw[heap_setCell,mY λe=>b e.symm]
 have p:=CN o B j x w C.o.bo m;let⟨y,z,A,D,P⟩:=E.ap _ v;refine⟨E.rep.same (by simp[cO]) λk _ h=>b k (by rcases h with rfl|rfl|rfl|rfl<;>first|exact aA y|exact aA z|exact aA A|exact aA D),E.oq.same (b 0 (aA P)),E.inv,⟨λi R=>?_,(V7 E.fit.clear.lk (aW _)).1.nz⟩,λq S=>?_,E.ap⟩
 .by_cases e:i=C.o.bo
  .subst e;exact⟨_,_,p⟩
  .let⟨c,g,h⟩:=E.fit.soft i R;exact⟨c,g,by rw[b i e];exact h⟩
 .let⟨c,g,d,r,t,u⟩:=E.ko q S
  by_cases e:q.bo=C.o.bo
  .rw[e]at d ⊢;rw[m]at d;obtain⟨rfl,rfl,_⟩:=Obj.cells.inj (Ze d);refine⟨_,_,p,?_,?_,?_⟩
   .rw[cV Za];exact r
   .rw[cV Za];exact t
   .rw[cV Za];exact u
  .exact⟨c,g,by rw[b _ e];exact d,r,t,u⟩
theorem oz.set(w:Wd)(j:Nat)(x:Vu):oz C [C.o.bo] w (w.setCell (O C.o.bo j Q) x) :=
 ⟨by simp[cO],λk _ b _ _ _=>by rw[heap_setCell,mY λe=>b (cz.2 (Eq.symm e))]⟩
theorem ME(x e:Int)(X:Vu)(St:oK C l K pv H free a go w){Stop:Gr->Wd->Prop}(hS:∀v o,Env C l K o->oz C [C.o.bo] w o->(∃t,o.heap[C.o.bo]?=J (.cells (R0 C e x free a go) t (0,0)))->Stop (G { (iM 88).at ⟨v,[uQ C.o]⟩ [] with mode:=.returning } [bot]) o)(d0:Nat) :
  l6 V false (DL true (ep l)) Stop (G ((zR C.o C.bk X).finish (.tuple #[Y U x,Y U e])) [bot]) (w.at d0):=by
 let⟨H',A,hH⟩:=St;let⟨t,p⟩:=A.blk;have q:=A.mem;have z:=A.env.set q p (j:=9) Za (Y U x);have j:(w.setCell (O C.o.bo 9 Q) (Y U x)).heap[C.o.bo]?=J (.cells (R0 C 0 x free a go) t (0,0)):=CN _ t 9 _ w C.o.bo p;have B:=z.set q j (j:=8) Za (Y U e);have D:((w.setCell (O C.o.bo 9 Q) (Y U x)).setCell (O C.o.bo 8 Q) (Y U e)).heap[C.o.bo]?=J (.cells (R0 C e x free a go) t (0,0)):=CN _ t 8 _ _ C.o.bo j;have E:w.cell? (O C.o.bo 9 Q)=J (Y U 0):=A.cell Z;have P:w.frozen? (O C.o.bo 9 Q)=false:=by simp[bR,p]
 have R:(w.setCell (O C.o.bo 9 Q) (Y U x)).cell? (O C.o.bo 8 Q)=J (Y U 0):=by simp only[aC,j];rfl
 have S:(w.setCell (O C.o.bo 9 Q) (Y U x)).frozen? (O C.o.bo 8 Q)=false:=by simp[bR,j]
 have T:w.cell? (O C.o.bo 8 Q)=J (Y U 0):=A.cell Z;have M:w.frozen? (O C.o.bo 8 Q)=false:=by simp[bR,p]
 have r:=A.clear;have c':=λv d=>hS v _ (B.at d) (((oz.set w 9 _).trans (oz.set _ 8 _) λi hi=>.inl hi).at d) ⟨t,D⟩;clear z B j D;unfold zR at *;simp only[fJ,pO]at *;rw[bI];go_simp;(iterate 6(refine mo Z Z λd g c=>?_;go_simp;refine c _ _ ⟨Z,?_⟩;clear c g));refine B9 Z Z Zb (λd g c=>?_) _;have h:(w.at d).cell? (O C.o.bo 9 Q)=J (Y U 0):=E;have m:(w.at d).frozen? (O C.o.bo 9 Q)=false:=P;go_simp;refine c _ _ ⟨xx (by rw[Q2 q];show 3<=9;omega) (aK _ _ h) λe y=>?_,?_⟩
 .have b:=cA y;simp only[go_sem]at b;simp[go_sem]at b
  try rw[jl _ _ _ _ _ _ Z]at b
  first|rw[h]at b|rw[E]at b|rw[T]at b
  first|rw[m]at b|rw[P]at b|rw[M]at b
  simp only[aI,if_false,gp,eP,dU,ae,aj,or_false]at b;exact b
 clear c g h m;rw[show(w.at d).setCell (O C.o.bo 9 Q) (Y U x)=(w.setCell (O C.o.bo 9 Q) (Y U x)).at d from Z];have r:Clear (w.setCell (O C.o.bo 9 Q) (Y U x)):=(V7 r.lk (aW _)).1.nz;(iterate 3(refine mo Z Z λd g c=>?_;go_simp;refine c _ _ ⟨Z,?_⟩;clear c g));refine B9 Z Z Zb (λd g c=>?_) _;have h:((w.setCell (O C.o.bo 9 Q) (Y U x)).at d).cell? (O C.o.bo 8 Q)=J (Y U 0):=R;have m:((w.setCell (O C.o.bo 9 Q) (Y U x)).at d).frozen? (O C.o.bo 8 Q)=false:=S;go_simp;refine c _ _ ⟨xx (by rw[Q2 q];show 3<=8;omega) (aK _ _ h) λe y=>?_,?_⟩
 .have b:=cA y;simp only[go_sem]at b;simp[go_sem]at b
  try rw[jl _ _ _ _ _ _ Z]at b
  first|rw[h]at b|rw[R]at b|rw[T]at b
  first|rw[m]at b|rw[S]at b|rw[M]at b
  simp only[aI,if_false,gp,eP,dU,ae,aj,or_false]at b;exact b
 clear c g h m;rw[show((w.setCell (O C.o.bo 9 Q) (Y U x)).at d).setCell (O C.o.bo 8 Q) (Y U e)=((w.setCell (O C.o.bo 9 Q) (Y U x)).setCell (O C.o.bo 8 Q) (Y U e)).at d from Z];have r:Clear ((w.setCell (O C.o.bo 9 Q) (Y U x)).setCell (O C.o.bo 8 Q) (Y U e)):=(V7 r.lk (aW _)).1.nz;refine i8 (λd=>?_) _;refine mc Z (λu=>stepG_end) λd=>.stop (c' _ _)
theorem c4n(x e:Int):i9 C n (λ_=>.done x e) [] H free go (G ((zR C.o C.bk j).finish (.tuple #[Y U x,Y U e])) [bot]):=by
 refine⟨λm l q r T K a w y c M S P d=>?_,λu l q r K a w c M S d=>?_⟩
 .obtain rfl:T=(K,λ_=>.done x e):=by rcases P with⟨_,h⟩|⟨_,h⟩<;>rw[h]<;>rfl
  refine ME x e j c (λg v E o b=>?_) d;let⟨t,b⟩:=b;exact⟨E,M.trans o (λi p=>by cases Zi p;exact S _ (ao ..)),Gj C g,t,_,_,_,b⟩
 .subst u;refine ME x e j c (λg v E o b=>?_) d;exact⟨E,M.trans o (λi p=>by cases Zi p;exact S _ (ao ..)),Gj C g⟩
def m7(C:Ctx)(p:Nat)(K:aa):j6:=(zX K p C.kd C.A C.B).then false (λz _=>λ_=>.done z.1 z.2)
theorem Oc{pv:List Nat}{H:y6}{f:Nat->Vu}{w:Wd}(g:w.rowIs b c d f)(h:b∈pv)(i:w.heap[b]?=J (H b)):Row pv H b c d f:=by
 let⟨j,e,m,o⟩:=g;rw[i]at e;exact⟨h,j,Ze e,m,o⟩
theorem c2l(S:C.slot=b)(T:b<K.nS)(A:At C l K [C.o.bo] H free a false w)(X:Nat) :
  l6 V false (DL true (ep l)) (tj C (sV C n) l w [C.o.bo] (sD C.slot (m7 C b K) K)) (bG (N9 C.o [R8 C.o,bot]) AK) (w.at X):=by
 let⟨t,v,M2⟩:=A.set (j:=11) (x:=Bo true) (free':=free) (un':=true) (go':=false) Za Z;refine NM (o:=C.o) A.mem A.clear A.env.ko (A.cell (j:=11) Z) (λd=>?_) X;generalize w.setCell ⟨C.o.bo,11,none⟩ (.bool true)=y at *;have hc:=v.clear;have c3:y.cell? (O C.o.bo 3 Q)=J (Po (J (O C.bk 0 Q))):=v.cell Z;have b':∀d,l6 V false (DL true (ep l)) (tj C (sV C n) l w [C.o.bo] (sD C.slot (m7 C b K) K)) (G (ay V 33 #[Po (J (O C.bk 0 Q))] .normal) [DI C.o C.bk,bot]) (y.at d):=λd=>by
  refine(Na (v.env.at d) false (DI C.o C.bk) [bot]).then ?_;rintro g j ⟨q,r,D,rfl,hsz,hk,hfit,hS,hF,hs,hD⟩;have c':∀o,y.heap.size<=o->o<j.heap.size->j.heap[o]?=J ((j.heap[o]?).getD dR):=λo _ h=>by rw[bg h];rfl
  have lt:∀ {g t m f},j.rowIs g t m f->g<j.heap.size:=λh=>by let⟨c,h1,_⟩:=h;exact(Zj h1).1
  have B:=(v.at d).qb (bs:=[q,r]) (Hn:=λo=>(j.heap[o]?).getD dR) hfit hsz hk (λo R=>by
   rcases ae.1 R with rfl|R
   .exact⟨hF,c' _ hF (lt hS.f)⟩
   .cases Zi R
    exact⟨hs,c' _ hs (lt hS.s)⟩)
  have h':∀o,y.heap.size<=o->o≠C.o.bo:=λo R e=>by
   have:=(Zj (v.has _ v.own.rc)).1;omega
  obtain⟨E,B⟩:∃E,At C l K ([C.o.bo]++[q,r]) E free true false j:=⟨_,B⟩
  have St:oK C l K [q,r] E free true false j:=⟨E,B,λi p=>⟨h' i (by
   rcases ae.1 p with rfl|p
   .exact hF
   .cases Zi p;exact hs),Z⟩⟩
  have e':=RP (C:=C) (n:=BX n true) (go:=false) (free:=free) (pv:=[q,r]) (H:=E) K q r D b v.env.rep.hF (Zh v.env.rep.hS Za) T S (Oc hS.f Zc (B.has q Zc)) (Oc hS.s Zc (B.has r Zc)) (zR C.o C.bk (rN K q r D)) [bot] (λz _=>λ_=>.done z.1 z.2) λx e H' j' k'=>c4n x e;have M3:oz C [C.o.bo] w j:=M2.trans (⟨hsz,λk i' _ _ _ _=>hk k i'⟩:oz C [C.o.bo] y j) λi p=>.inl p
  have f':=e'.1 n l w [C.o.bo] (sD C.slot (m7 C b K) K) K true j (af _) St M3 (λi p=>by
   rcases ae.1 p with rfl|p
   .exact .inl Zc
   .refine .inr (Zh M2.size ?_);rcases ae.1 p with rfl|p
    .exact hF
    .cases Zi p;exact hs) (.inl ⟨Z,Z⟩)
  have l':Clear j:=hfit.clear;clear e' St B;have g':∀d,l6 V false (DL true (ep l)) (tj C (sV C n) l w [C.o.bo] (sD C.slot (m7 C b K) K)) (G (ay V 107 #[pO C.o,rN K q r D] .normal) [zR C.o C.bk (rN K q r D),bot]) (j.at d):=f';clear f';unfold DI;unfold zR at g';simp only[fJ,pO]at *;rw[bI];generalize tj C (sV C n) l w [C.o.bo] (sD C.slot (m7 C b K) K)=SS at *;clear S T;rw[show j=j.at j.drawn from Z];generalize j.drawn=dd;simp only[dG];go_simp;refine mc Z (λu=>Z9 Z Z Zb Z dr Z Z (vs:=#[pO C.o,rN K q r D]) (by simp[dj]) u) λd=>g' _
 generalize tj C (sV C n) l w [C.o.bo] (sD C.slot (m7 C b K) K)=SS at *;clear S T;unfold R8;unfold DI at b';simp only[fJ,pO]at *;rw[bI];go_simp;refine i8 (λd=>?_) _;refine mc Z (λu=>fN (t:=true) Z) λd=>?_;simp only[if_true,if_false,aI,↓reduceIte];refine m8 (λd=>?_) _;simp only[rz,ix,Nat.reduceAdd];(iterate 6(refine mo Z Z λd M P=>?_;go_simp;refine P _ _ ⟨Z,?_⟩;clear P M));refine mo Z Z λd M P=>?_;have e3:(y.at d).cell? (O C.o.bo 3 Q)=J (Po (J (O C.bk 0 Q))):=c3;go_simp;refine P _ _ ⟨Z,?_⟩;clear P M;refine mc Z (λu=>Z9 Z Z Zb Z Tryz.func33 Z Z (vs:=#[Po (J (O C.bk 0 Q))]) (by simp[dj]) u) λd=>b' _
theorem Sd(A:At C l K [C.o.bo] H free a false w)(b:Nat) :
  l6 V false (DL true (ep l)) (yr C l K w [C.o.bo]) (bG (N9 C.o [R8 C.o,bot]) Ai) (w.at b):=by
 refine MH (o:=C.o) A.mem A.clear (λd=>?_) b;have e:=λc d=>(⟨A.env.at d,(oz.refl C [C.o.bo] w).at d,Gj C c⟩:yr C l K w [C.o.bo] (G { (iM 88).at ⟨c,[uQ C.o]⟩ [] with mode:=.returning } [bot]) (w.at d))
 have g:=A.clear;unfold R8;simp only[fJ,pO]at *;rw[bI];go_simp;refine i8 (λd=>?_) _;refine mc Z (λu=>fN (t:=false) Z) λd=>?_;simp only[if_true,if_false,aI,↓reduceIte];refine Cz (λd=>?_) _;refine mc Z (λu=>stepG_end) λd=>.stop (e _ _)
end Go.Proofs.YtcgabodkegcpgaaGreatDoor
namespace Go.Proofs.YtcgabodkegcpgaaGreatDoor
open Go.Conc Go.RowKit
variable{a b c d e:Nat}{f h i:Wd}{j k l m n:Vu}{o p:Array Vu}{q:List Nat}{r s:Bool}{t:Fm'}{u:List Int}{v w:aL}{x y:aa}{z A:aS}{B C:Ti}{D E:jj}{F:Option Nat}{H:List ng}{I K:Mem}{L N:Int}{P:Func}{R:Array Bool}{S T:l9}{W:cZ}
structure Kb where
 bk:Nat
 bf:Nat
 bs:Nat
 bd:Nat
 fo:Nat->Option eZ
 fl:List ng
 fz:Nat
structure Lv where
 C:Ctx
 S:aa->j6
 pv:List Nat
 H:y6
 cs:List Fm'
abbrev Lv.g(v:Lv):Nat:=v.C.o.gid
def Lv.ch(v:Lv)(c:Nat):Prop:=c=v.C.o.tu\/c=v.C.o.to\/c=v.C.o.en
def AD(n c:Nat)(v:Lv):Prop :=
 (∀l K a b w d,K.nS=c->At v.C l K v.pv v.H a b false w->l6 V false (DL true (ep l)) (tj v.C (sV v.C n) l w v.pv (sD v.C.slot (v.S K) K)) (bG (N9 v.C.o v.cs) AK) (w.at d)) /\
 (∀l K a b w d,At v.C l K v.pv v.H a b false w->l6 V false (DL true (ep l)) (yr v.C l K w v.pv) (bG (N9 v.C.o v.cs) Ai) (w.at d))
theorem Ra(n:Nat)(C:Ctx)(c:C.slot=b)(e:b<a){H:y6}:AD n a ⟨C,m7 C b,[C.o.bo],H,[R8 C.o,bot]⟩ :=
 ⟨λl K f g w d h A=>c2l c (h▸e) A d,λl K f g w d A=>Sd A d⟩
theorem c2X{C:Ctx}{s:j6}{H:y6}{f:List Fm'}(h:sV C (a+1) s q H f):AD a b ⟨C,λ_=>s,q,H,f⟩ :=
 ⟨λl K c e w d _ A=>h.1 l K c e w d A,λl K c e w d A=>h.2 l K c e w d A⟩
def kc(a:Kb):Ctx:=⟨⟨0,0,0,0,0⟩,0,0,0,0,a.bk,a.bf,a.bs,a.bd⟩
abbrev vL(a:Kb)(l:List ng)(K:aa)(w:Wd):Prop:=Env (kc a) l K w
structure tI (kb:Kb) (C:Ctx):Prop where
 k:C.bk=kb.bk
 f:C.bf=kb.bf
 s:C.bs=kb.bs
 d:C.bd=kb.bd
theorem tI.env{a:Kb}{C:Ctx}(h:tI a C)(E:vL a H x f):Env C H x f:=by
 let⟨b,c,d,e⟩:=h;exact⟨by rw[b,c,d,e];exact E.rep,E.oq,E.inv,E.fit,E.ko,by rw[b,c,d,e];exact E.ap⟩
theorem tI.back{a:Kb}{C:Ctx}(h:tI a C)(E:Env C H x f):vL a H x f:=by
 let⟨b,c,d,e⟩:=h;exact⟨by show js f a.bk a.bf a.bs a.bd x;rw[←b,←c,←d,←e];exact E.rep,E.oq,E.inv,E.fit,E.ko,by show ∀o∈H,o.bo≠a.bk/\o.bo≠a.bf/\o.bo≠a.bs/\o.bo≠a.bd/\o.bo≠0;rw[←b,←c,←d,←e];exact E.ap⟩
structure Co (kb:Kb) (l:List ng) (K:aa) (L:Nat->Option Lv) (r:Nat) (Inb:Nat->Option eZ) (nG:Nat) (w:Wd):Prop where
 env:vL kb l K w
 top:0≠kb.bf/\0≠kb.bs/\0≠kb.bd
 gid:∀g v,L g=J v->v.g=g/\0<g/\g<nG
 rq:∀g v,L g=J v->tI kb v.C
 at_:∀g v,L g=J v->∃free un,At v.C l K v.pv v.H free un false w
 wait:∀g v,L g=J v->∃m,r<=m/\AD m K.nS v
 qj:∀g v,L g=J v->Inb g=J (J0 v.C.o v.cs)
 none:∀g,g≠0->L g=.none->Inb g=kb.fo g
 pE:∀s c,Inb 0=J s->s.has c->c<w.heap.size
 chan:∀g v,L g=J v->∀c,v.ch c->(∃cap k,w.heap[c]?=J (.chan cap #[] false k k false))/\c≠kb.bk/\c≠kb.bf/\c≠kb.bs/\c≠kb.bd/\c≠0/\∀o∈l,o.bo≠c
 ql:∀g v,L g=J v->v.C.o.tu≠v.C.o.to/\v.C.o.tu≠v.C.o.en/\v.C.o.to≠v.C.o.en
 pk:∀g v g' v',L g=J v->L g'=J v'->∀c,v'.ch c->c∉v.pv
 apart:∀g v g' v',L g=J v->L g'=J v'->g≠g'->(∀i∈v.pv,i∉v'.pv)/\∀c,v.ch c->¬v'.ch c
 rV:∀g s,kb.fo g=J s->L g=.none/\0<g/\g<nG/\∀c,s.has c->c<w.heap.size/\∀g' v,L g'=J v->¬v.ch c
 rK:kb.fz<=w.heap.size/\(∀o∈kb.fl,o∈l)/\∀o∈l,o∈kb.fl\/kb.fz<=o.bo
structure Mn (kb:Kb) (L:Nat->Option Lv) (w:Wd) (k:Nat):Prop where
 lt:k<w.heap.size
 nf:k≠kb.bf
 ns:k≠kb.bs
 nd:k≠kb.bd
 own:∀g v,L g=J v->k∉v.pv/\¬v.ch k
theorem JJ{w:Wd}(h:a<w.heap.size):(w.setChan a b o r c d s).heap[a]?=J (.chan b o r c d s):=by
 simp[dh,h]
theorem P8(h:b≠a):(f.setChan a c o r d e s).heap[b]?=f.heap[b]?:=heap_setChan_ne _ _ _ _ _ _ _ (aA h)
theorem Xl(h:Clear f)(c d:Nat)(a b:Nat):Clear (f.setChan c d o r a b s):=trivial
theorem Env.chan{C:Ctx}(E:Env C H x f)(h:a≠C.bk/\a≠C.bf/\a≠C.bs/\a≠C.bd/\a≠0/\∀o∈H,o.bo≠a)(e:Nat)(g:Array Vu)(j:Bool)(l b:Nat)(m:Bool):Env C H x (f.setChan a e g j l b m):=by
 let⟨s,u,v,w,n,c⟩:=h;refine⟨E.rep.same (by simp[dh]) λk _ y=>P8 (by grind),E.oq.same (P8 (aA n)),E.inv,⟨λi d=>?_,Xl E.fit.clear _ _ _ _⟩,KO.chan c _ _ _ _ _ _ E.ko,E.ap⟩;obtain⟨o,p,rfl⟩:=GJ d;let⟨q,t,r⟩:=E.fit.soft _ d;exact⟨q,t,by rw[P8 (c o p)];exact r⟩
theorem At.other{C:Ctx}{a:y6}(A:At C H x q a j r s f)(E:Env C H y h)(c:∀i∈q,h.heap[i]?=f.heap[i]?):At C H y q a j r s h :=
 ⟨E,A.mem,A.own,λi b=>by rw[c i b];exact A.has i b,A.row,A.top,A.pC⟩
theorem At.lt{C:Ctx}{b:y6}(A:At C H x q b j r s f)(c:a∈q):a<f.heap.size:=(Zj (A.has a c)).1
theorem F6(R:js f b c d e x)(a:js h b c d e y)(i:h.heap[b]?=f.heap[b]?):y.nF=x.nF/\y.nS=x.nS/\y.nD=x.nD:=by
 have g:=λj=>Zf (w:=f) (w':=h) (a:=(O b j Q)) i;have k:=(a.k0.symm.trans (g 0)).trans R.k0;have l:=(a.k1.symm.trans (g 1)).trans R.k1;have m:=(a.k2.symm.trans (g 2)).trans R.k2
 grind
def A0(c:Nat)(a:Bool)(b:Gr):eZ:=mE c (.agg #[]) a λg=>g=b
variable{p:Kb}{l:List ng}{K:aa}{L:Nat->Option Lv}{r:Nat}{q:Nat->Option eZ}{x:Nat}{w:Wd}{v:Lv}{y:gW->lT->Prop}
theorem Co.Cs(b:Co p l K L r q x w){s:eZ}(c:a≠0)(h:q a=J s):(∃u,L a=J u/\s=J0 u.C.o u.cs)\/p.fo a=J s:=by
 cases e:L a with
 | none=>rw[b.none a c e]at h;exact .inr h
 | some u=>rw[b.qj a u e]at h;grind
theorem Co.pj(c:Co p l K L r q x w)(d:L a=J v)(e:v.ch b):b≠v.C.bk/\b≠v.C.bf/\b≠v.C.bs/\b≠v.C.bd/\b≠0/\∀o∈l,o.bo≠b:=by
 let⟨_,f,g,h,i,j,k⟩:=c.chan a v d b e;let⟨m,n,s,t⟩:=c.rq a v d
 grind
theorem Jp(b:Co p l K L r q x w)(d:L a=J v)(j:Bool)(k m:Gr)(n:X V y l (ai q 0 (J (A0 v.C.o.to j k))) x 0 m w):X V y l q x 0 m w:=by
 refine NH (A0 v.C.o.to j k) (Seat.one_wf _ _ _ _) (λi o c s t f z=>?_) (λc f=>?_) (λc f=>?_) n
 .obtain rfl:c=v.C.o.to:=gN.1 z;rcases b.Cs s t with⟨u,g,rfl⟩|hf
  case inr=>exact((b.rV i o hf).2.2.2 _ f).2 a v d (.inr (.inl Z))
  have A:=U6 f
  by_cases e:i=a
  .subst e;rw[d]at g;cases Ze g;let⟨n1,n2,n3⟩:=b.ql _ _ d
   grind
  .exact(b.apart i u a v g d e).2 _ (by rcases A with h|h;exact .inl h;exact .inr (.inr h)) (.inr (.inl Z))
 .obtain rfl:c=v.C.o.to:=gN.1 f;exact(b.chan _ _ d _ (.inr (.inl Z))).1
 .obtain rfl:c=v.C.o.to:=gN.1 f;exact(b.pj d (.inr (.inl Z))).2.2.2.2.2
def Kp(p:Kb)(L:Nat->Option Lv)(w:Wd)(b:Nat->Option Lv)(a:Wd):Prop:=∀k,Mn p L w k->Mn p b a k/\a.heap[k]?=w.heap[k]?
theorem LA(hr:r<=a)(d:Co p l K L a q x w)(z:L b=J v){S:aa}{w2:Wd}{Inb':Nat->Option eZ}{o:Option Lv}(hE:vL p l S f)(hS:S.nS=K.nS)(b':w.heap.size<=f.heap.size)(hk:∀k,k<w.heap.size->k∉v.pv->k≠p.bf->k≠p.bs->k≠p.bd->¬v.ch k->f.heap[k]?=w.heap[k]?)(N:∀C,o=J C->C.C=v.C/\(∃f' un,At C.C l S C.pv C.H f' un false f)/\(∃m,r<=m/\AD m S.nS C)/\Inb' b=J (J0 C.C.o C.cs)/\(∀i∈C.pv,i∈v.pv\/w.heap.size<=i)/\∀c,v.ch c->∃X k,f.heap[c]?=J (.chan X #[] false k k false))(i':∀s c,Inb' 0=J s->s.has c->c<f.heap.size)(hn:o=Q->Inb' b=Q)(hI:∀i,i≠0->i≠b->Inb' i=q i):Co p l S (ai L b o) r Inb' x f/\Kp p L w (ai L b o) f:=by
 have l':∀g u,L g=J u->∀i∈u.pv,i<w.heap.size:=λg u P i B=>by let⟨a',n,A⟩:=d.at_ g u P;exact A.lt B
 have j':∀g u,L g=J u->∀c,u.ch c->c<w.heap.size:=λg u P c j=>by
  let⟨⟨X,k,h⟩,_⟩:=d.chan g u P c j
  grind
 have d':∀g u,L g=J u->∀i∈u.pv,i≠p.bk/\i≠p.bf/\i≠p.bs/\i≠p.bd/\i≠0:=λg u P i B=>by
  let⟨a',n,A⟩:=d.at_ g u P;let⟨k1,k2,k3,k4⟩:=d.rq g u P;have:=A.own.ap i B
  grind
 have cases:∀g u,ai L b o g=J u->(g=b/\o=J u)\/(g≠b/\L g=J u):=λg u h=>by
  by_cases e:g=b
  .subst e;rw[aH]at h;grind
  .rw[az _ _ e]at h;grind
 have T:∀C,o=J C->∀c,C.ch c↔v.ch c:=λC h c=>by unfold Lv.ch;rw[(N C h).1]
 refine⟨⟨hE,d.top,λg u h=>?_,λg u h=>?_,λg u h=>?_,λg u h=>?_,λg u h=>?_,λg W h=>?_,i',λg u h c j=>?_,λg u h=>?_,λg u I F h h' c j=>?_,λg u I F h h' k'=>?_,λg s hf=>?_,Zh d.rK.1 b',d.rK.2⟩,λk D=>⟨⟨Zg D.lt b',D.nf,D.ns,D.nd,λg u h=>?_⟩,hk k D.lt (D.own b v z).1 D.nf D.ns D.nd (D.own b v z).2⟩⟩
 .rcases cases g u h with⟨rfl,h5⟩|⟨_,h5⟩
  .have:=d.gid _ _ z
   grind
  .exact d.gid g u h5
 .rcases cases g u h with⟨rfl,h5⟩|⟨_,h5⟩
  .rw[(N u h5).1];exact d.rq _ _ z
  .exact d.rq g u h5
 .rcases cases g u h with⟨rfl,h5⟩|⟨e,h5⟩
  .grind
  .let⟨a',n,A⟩:=d.at_ g u h5;exact⟨a',n,A.other ((d.rq g u h5).env hE) λi B=>hk i (A.lt B) (λG=>(d.apart g u b v h5 z e).1 i B G) (d' g u h5 i B).2.1 (d' g u h5 i B).2.2.1 (d' g u h5 i B).2.2.2.1 λj=>d.pk g u b v h5 z i j B⟩
 .rcases cases g u h with⟨rfl,h5⟩|⟨_,h5⟩
  .grind
  .let⟨m,t,E⟩:=d.wait g u h5
   grind
 .rcases cases g u h with⟨rfl,h5⟩|⟨e,h5⟩
  .grind
  .have:=d.gid g u h5;rw[hI g Za e];exact d.qj g u h5
 .by_cases e:g=b
  .subst e;rw[aH]at h;rw[hn h]
   cases e:p.fo g with
   | none=>rfl
   | some s=>have:=(d.rV g s e).1;grind
  .rw[az _ _ e]at h;rw[hI g W e];exact d.none g W h
 .rcases cases g u h with⟨rfl,h5⟩|⟨e,h5⟩
  .have R:=(T u h5 c).1 j;exact⟨(N u h5).2.2.2.2.2 c R,(d.chan _ _ z c R).2⟩
  .let⟨⟨X,k,t⟩,E⟩:=d.chan g u h5 c j;exact⟨⟨X,k,by rw[hk c (j' g u h5 c j) (d.pk b v g u z h5 c j) E.2.1 E.2.2.1 E.2.2.2.1 λH=>(d.apart g u b v h5 z e).2 c j H];exact t⟩,E⟩
 .rcases cases g u h with⟨rfl,h5⟩|⟨_,h5⟩
  .rw[(N u h5).1];exact d.ql _ _ z
  .exact d.ql g u h5
 .have m':∀M,L g=J M->∀c,F.ch c->c∉M.pv:=λM W c j=>by
   rcases cases I F h' with⟨rfl,t⟩|⟨_,t⟩
   .exact d.pk g M _ v W z c ((T F t c).1 j)
   .exact d.pk g M I F W t c j
  grind
 .rcases cases g u h with⟨rfl,t⟩|⟨e,t⟩
  .rcases cases I F h' with⟨rfl,E⟩|⟨e',E⟩
   .grind
   .refine⟨λi B G=>?_,λc j R=>(d.apart _ v I F z E (aA e')).2 c ((T u t c).1 j) R⟩;rcases(N u t).2.2.2.2.1 i B with H|H
    .exact(d.apart _ v I F z E (aA e')).1 i H G
    grind
  .rcases cases I F h' with⟨rfl,E⟩|⟨e',E⟩
   .refine⟨λi B G=>?_,λc j R=>(d.apart g u _ v t z e).2 c j ((T F E c).1 R)⟩;rcases(N F E).2.2.2.2.1 i G with H|H
    .exact(d.apart g u _ v t z e).1 i B H
    grind
   .exact d.apart g u I F t E k'
 .let⟨f1,f2,f3,f4⟩:=d.rV g s hf;have ne:g≠b:=λe=>by grind
  refine⟨by rw[az _ _ ne];exact f1,f2,f3,λc j=>⟨Zg (f4 c j).1 b',λI u h=>?_⟩⟩
  grind
 .rcases cases g u h with⟨rfl,t⟩|⟨e,t⟩
  .refine⟨λB=>?_,λj=>(D.own _ v z).2 ((T u t k).1 j)⟩;rcases(N u t).2.2.2.2.1 k B with H|H
   .exact(D.own _ v z).1 H
   .have:=D.lt;omega
  .exact D.own g u t
def vJ(c:Nat)(a b:Bool):dM:=km #[rcase c (.agg #[])] (.recv a) ((0:Nat):Int) (.agg #[]) b
abbrev Lv.turn(v:Lv)(K:aa):aa×j6:=sD v.C.slot (v.S K) K
theorem Ro(f:Co p l K L (r+1) q x w)(z:L a=J v){b' B' rec:Gr}{nh:Nat}(S':b'.status=.running)(T':∀d,bF V true b' (w.at d)=.comm B' #[scase v.C.o.tu (.agg #[]) j] true .send (w.at d) #[])(U':∀B,(∀o∈l,o.bo<B)->Sits V true (KO l) (SP l no) B (A0 v.C.o.to true rec) nh (bG B' Ud))(V':∀S C N,C.C=v.C->C.S=(λ_=>(v.turn K).2)->(∃n b' b c,(v.turn K).2 []=.call n b' b c)->Co p l (v.turn K).1 (ai L a (J C)) r N x S->Kp p L w (ai L a (J C)) S->X V y l N x 0 (bG rec (vJ v.C.o.to true true)) S)(X':∀S N n' o',(v.turn K).2 []=.done n' o'->Co p l (v.turn K).1 (ai L a Q) r N x S->Kp p L w (ai L a Q) S->(∃t e' un go,S.heap[v.C.o.bo]?=J (.cells (R0 v.C o' n' e' un go) t (0,0)))->X V y l N x 0 (bG rec (vJ v.C.o.to true false)) S) :
  X V y l q x 0 b' w:=by
 let⟨hg,hj0,hjn⟩:=f.gid a v z;let⟨n1,n2,n3⟩:=f.ql a v z;have p':(a==0)=false:=by simp;omega
 have C':v.ch v.C.o.tu:=.inl Z;have t':v.ch v.C.o.to:=.inr (.inl Z);have u':v.ch v.C.o.en:=.inr (.inr Z);have k':=f.pj z C';have x':=f.pj z t';have enne:=f.pj z u';let⟨e',un,A⟩:=f.at_ a v z;let⟨m,hm,W⟩:=f.wait a v z;have hO:=f.rq a v z;have D':=f.pk a v a v z z _ C';have topv:=f.pk a v a v z z _ t';have enpv:=f.pk a v a v z z _ u';refine Jp f z true rec b' ?_;have q':ai q 0 (J (A0 v.C.o.to true rec)) 0=J (A0 v.C.o.to true rec):=aH _ _ _;have hIj:ai q 0 (J (A0 v.C.o.to true rec)) a=J (J0 v.C.o v.cs):=by rw[az _ _ Za];exact f.qj a v z
 have hIi:∀i,i≠0->ai q 0 (J (A0 v.C.o.to true rec)) i=q i:=λi H=>az _ _ H;refine LQ (h:=0) (j:=a) (kk:=0) (z:=.agg #[]) Za hjn hIj Z S' T' q' U' λc' d T k l' P=>?_;obtain rfl:c'=N9 v.C.o v.cs:=l';rw[c5Q];have ltu:v.C.o.tu<w.heap.size:=(Zj P).1;have E':∀i,i≠v.C.o.tu->((w.at d).setChan v.C.o.tu T #[] false (k+1) (k+1) false).heap[i]?=w.heap[i]?:=λi H=>P8 H;have hz1:((w.at d).setChan v.C.o.tu T #[] false (k+1) (k+1) false).heap.size=w.heap.size:=by simp[dh,World.at]
 have hc1:((w.at d).setChan v.C.o.tu T #[] false (k+1) (k+1) false).heap[v.C.o.tu]?=J (.chan T #[] false (k+1) (k+1) false):=JJ (w:=w.at d) ltu;have A1:At v.C l K v.pv v.H e' un false ((w.at d).setChan v.C.o.tu T #[] false (k+1) (k+1) false):=A.other ((A.env.at d).chan k' T #[] false (k+1) (k+1) false) λi H=>E' i λe=>D' (e▸H);generalize (w.at d).setChan v.C.o.tu T #[] false (k+1) (k+1) false=w1 at *;have hmust:=W.1 l K e' un w1 w1.drawn Z A1;refine u0 (st:=true) ?_;rw[p'];refine hmust.then ?_;rintro g E ⟨E2,M2,r'⟩;refine .stop ?_;have hk2:∀i,i<w.heap.size->i∉v.pv->i≠p.bf->i≠p.bs->i≠p.bd->i≠v.C.o.tu->E.heap[i]?=w.heap[i]?:=λi h0 F h2 h3 h4 h5=>by
  rw[M2.block i Za F (by rw[hO.f];exact h2) (by rw[hO.s];exact h3) (by rw[hO.d];exact h4)];exact E' i h5
 have y':w.heap.size<=E.heap.size:=by have:=M2.size;omega
 let⟨⟨cen,F',hen'⟩,_⟩:=f.chan a v z _ u';let⟨⟨K',z',hto'⟩,_⟩:=f.chan a v z _ t';have L':v.C.o.to<w.heap.size:=(Zj hto').1;have len:v.C.o.en<w.heap.size:=(Zj hen').1;have tu2:E.heap[v.C.o.tu]?=J (.chan T #[] false (k+1) (k+1) false):=by rw[M2.block _ Za D' k'.2.1 k'.2.2.1 k'.2.2.2.1];exact hc1
 have en2:E.heap[v.C.o.en]?=J (.chan cen #[] false F' F' false):=by grind
 have M':E.heap[v.C.o.to]?=J (.chan K' #[] false z' z' false):=by grind
 have bk0:E.heap[p.bk]?=w.heap[p.bk]?:=hk2 _ f.env.rep.lk (λh=>by have:=(A.own.ap _ h).1;rw[hO.k]at this;exact this Z) f.env.rep.kf f.env.rep.ks f.env.rep.kd (λe=>by have:=k'.1;rw[hO.k]at this;exact this e.symm);have bkto:p.bk≠v.C.o.to:=λe=>by grind
 have N':∀(G:Bool) (R D I:Nat) (o:Option Lv) (N:Nat->Option eZ),(∀i,i≠0->i≠a->N i=q i)->(o=Q->N a=Q)->(∀s c,N 0=J s->s.has c->c<w.heap.size) ->
   (∀C,o=J C->C.C=v.C/\(∃e' un,At C.C l (v.turn K).1 C.pv C.H e' un false E)/\(∃m,r<=m/\AD m K.nS C)/\N a=J (J0 C.C.o C.cs)/\(∀i∈C.pv,i∈v.pv\/w1.heap.size<=i)/\G=false) ->
   Co p l (v.turn K).1 (ai L a o) r N x ((E.at I).setChan v.C.o.to R #[] G D D false)/\Kp p L w (ai L a o) ((E.at I).setChan v.C.o.to R #[] G D D false):=by
  intro G R D I o N hI hn h00 hj;have hsz3:w.heap.size<=((E.at I).setChan v.C.o.to R #[] G D D false).heap.size:=by simp[dh,World.at];exact y'
  have O':∀i,i≠v.C.o.to->((E.at I).setChan v.C.o.to R #[] G D D false).heap[i]?=E.heap[i]?:=λi H=>P8 H;have Q':vL p l (v.turn K).1 ((E.at I).setChan v.C.o.to R #[] G D D false):=hO.back ((E2.at I).chan x' R #[] G D D false);have hnS:(v.turn K).1.nS=K.nS:=(F6 f.env.rep Q'.rep (by show _=w.heap[p.bk]?;rw[show(kc p).bk=p.bk from Z,O' _ bkto];exact bk0)).2.1;refine LA (Nat.le_succ r) f z (w2:=E) Q' hnS (by simp[dh,World.at];exact y') (λi h0 F h2 h3 h4 h5=>?_) (λC e=>?_) (λs c F h2=>Zg (h00 s c F h2) hsz3) hn hI
  .grind
  .obtain⟨e1,⟨f2,u2,A2⟩,hw,hs,hp,rfl⟩:=hj C e;have hto3:∀i∈C.pv,i≠v.C.o.to:=λi H e=>by
    grind
   refine⟨e1,⟨f2,u2,A2.other (by rw[e1];exact(E2.at I).chan x' R #[] false D D false) λi H=>O' i (hto3 i H)⟩,by grind,hs,λi H=>by grind,λc P=>?_⟩;rcases P with rfl|rfl|rfl
   .grind
   .exact⟨_,_,JJ (w:=E.at I) (Zg L' y')⟩
   grind
 cases hT:(v.turn K).2 [] with
 | call num b' b c =>
  simp only[Lv.turn]at hT;rw[hT]at r';obtain⟨M,R',H',free',rfl,A2,hsub,hpark⟩:=r';have hfr:∀i s' c,i≠a->ai q 0 (J (A0 v.C.o.to true rec)) i=J s'->s'.has c->¬(J0 v.C.o (td v.C.o::M)).has c:=λi s' c H hs P hc'=>by
   have A':=U6 hc'
   by_cases e:i=0
   .subst e;rw[q']at hs;cases Ze hs;obtain rfl:c=v.C.o.to:=gN.1 P
    grind
   .rw[hIi i e]at hs;rcases f.Cs e hs with⟨u,hu,rfl⟩|hf
    case inr=>exact((f.rV i s' hf).2.2.2 c P).2 a v z (by rcases A' with h|h;exact .inl h;exact .inr (.inr h))
    have hc3:=U6 P;exact(f.apart i u a v hu z H).2 c (by rcases hc3 with h|h;exact .inl h;exact .inr (.inr h)) (by rcases A' with h|h;exact .inl h;exact .inr (.inr h))
  refine NH (h:=a) (J0 v.C.o (td v.C.o::M)) (PD n2) hfr (λc P=>?_) (λc P=>?_) ?_
  .rcases U6 P with rfl|rfl
   all_goals grind
  .rcases U6 P with rfl|rfl
   all_goals grind
  refine LQ (h:=a) (j:=0) (kk:=0) (c:=v.C.o.to) (z:=.agg #[]) (s:=A0 v.C.o.to true rec) (sh:=J0 v.C.o (td v.C.o::M)) (v:=.agg #[]) (z':=.tuple #[]) (a₂:=vE v.C.o M) (nh:=26) Za Za (by rw[az _ _ Za];exact q') Z Z
   (λd=>by rw[p'];exact c2T) (aH _ _ _) (λB hB=>by rw[p'];exact UX v.C.o l A.mem B hB M) λc' I R D l' A'=>?_
  obtain rfl:c'=rec:=l';obtain⟨m',rfl⟩:∃m',m=m'+1:=⟨m - 1,by omega⟩;let⟨c3,k3⟩:=N' false R (D+1) I (J ⟨v.C,λ_=>(v.turn K).2,R',H',td v.C.o::M⟩) (ai (ai q 0 (J (A0 v.C.o.to true c'))) a (J (J0 v.C.o (td v.C.o::M))))
   (λi h0 F=>by rw[az _ _ F,az _ _ h0]) (λe=>by cases e) (λs c F h2=>by
    rw[az _ _ Za,aH]at F;cases Ze F;obtain rfl:c=v.C.o.to:=gN.1 h2
    exact L')
   (λC e=>by cases Ze e;exact⟨Z,⟨free',false,A2⟩,⟨m',by omega,c2X hpark⟩,aH _ _ _,hsub,Z⟩)
  exact V' _ ⟨v.C,λ_=>(v.turn K).2,R',H',td v.C.o::M⟩ _ Z Z ⟨_,_,_,_,hT⟩ c3 k3
 | done n' o' =>
  simp only[Lv.turn]at hT;rw[hT]at r';let⟨⟨hrun2,hwake,a',ha',hclose,nq,hq⟩,t,f2,u2,g2,hrow⟩:=r';refine sN (h:=a) (j:=0) (kk:=0) (c:=v.C.o.to) (z:=.agg #[]) (s:=A0 v.C.o.to true rec) (nh:=nq) Za Za Za q' Z hrun2 hwake ha' M' (λd=>by rw[p'];exact hclose _ _ _ M') hq λc' I l'=>?_;obtain rfl:c'=rec:=l';let⟨c3,k3⟩:=N' true K' z' I Q (ai (ai (ai q 0 (J (A0 v.C.o.to true c'))) 0 Q) a Q)
   (λi h0 F=>by rw[az _ _ F,az _ _ h0,az _ _ h0]) (λ_=>aH _ _ _) (λs c F h2=>by rw[az _ _ Za,aH]at F;cases F) λC e=>by cases e
  exact X' _ _ n' o' hT c3 k3 ⟨t,f2,u2,g2,by rw[P8 (x'.2.2.2.2.2 _ A.mem)];exact hrow⟩
theorem Xa(f:Co p l K L r q x w)(b:L a=J v){u a₂ rec:Gr}{nh:Nat}(i':u.status=.running)(j':mayWake V u=true)(k':a₂.status=.running)(l':∀h k,w.heap[v.C.o.en]?=J (.chan h #[] false k k false)->∀d,bF V true u (w.at d)=.go a₂ ((w.at d).setChan v.C.o.en h #[] true k k false) (gU v.C.o.en))(m':∀B,(∀o∈l,o.bo<B)->Sits V true (KO l) (SP l no) B (A0 v.C.o.to false rec) nh a₂)(n':∀H T,Co p l K (ai L a Q) r T x H->Kp p L w (ai L a Q) H->X V y l T x 0 (bG rec (vJ v.C.o.to false false)) H) :
  X V y l q x 0 u w:=by
 let⟨hg,D',o'⟩:=f.gid a v b;let⟨n1,n2,n3⟩:=f.ql a v b;have G:(a==0)=false:=by simp;omega
 have E':v.ch v.C.o.tu:=.inl Z;have I:v.ch v.C.o.to:=.inr (.inl Z);have N:v.ch v.C.o.en:=.inr (.inr Z);have p':=f.pj b I;have q':=f.pj b N;let⟨M,un,A⟩:=f.at_ a v b;let⟨m,hm,W⟩:=f.wait a v b;have C:=f.rq a v b;have F':=f.pk a v a v b b _ I;have r':=f.pk a v a v b b _ N;refine Jp f b false rec u ?_;have c':ai q 0 (J (A0 v.C.o.to false rec)) 0=J (A0 v.C.o.to false rec):=aH _ _ _;have s':ai q 0 (J (A0 v.C.o.to false rec)) a=J (J0 v.C.o v.cs):=by rw[az _ _ Za];exact f.qj a v b
 let⟨⟨h,k,hc⟩,_⟩:=f.chan a v b _ N;let⟨⟨D,j,t'⟩,_⟩:=f.chan a v b _ I;have H':v.C.o.to<w.heap.size:=(Zj t').1;refine Ui (h:=0) (j:=a) (kk:=1) (z:=.agg #[]) Za o' s' Z i' j' k' hc (l' _ _ hc) c' m' λE d P=>?_;obtain rfl:E=N9 v.C.o v.cs:=P;rw[c8A];have e':∀i,i≠v.C.o.en->((w.at d).setChan v.C.o.en h #[] true k k false).heap[i]?=w.heap[i]?:=λi z=>P8 z;have K':((w.at d).setChan v.C.o.en h #[] true k k false).heap.size=w.heap.size:=by simp[dh,World.at]
 have A1:At v.C l K v.pv v.H M un false ((w.at d).setChan v.C.o.en h #[] true k k false):=A.other ((A.env.at d).chan q' h #[] true k k false) λi z=>e' i λe=>r' (e▸z);generalize (w.at d).setChan v.C.o.en h #[] true k k false=w1 at *;have u':=W.2 l K M un w1 w1.drawn A1;refine u0 (st:=true) ?_;rw[G];refine u'.then ?_;rintro g t ⟨E2,M2,x',y',a',z',A',nq,hq⟩;refine .stop ?_;have L':∀i,i<w.heap.size->i∉v.pv->i≠p.bf->i≠p.bs->i≠p.bd->i≠v.C.o.en->t.heap[i]?=w.heap[i]?:=λi F n R h3 h4 h5=>by
  rw[M2.block i Za n (by rw[C.f];exact R) (by rw[C.s];exact h3) (by rw[C.d];exact h4)];exact e' i h5
 have B':w.heap.size<=t.heap.size:=by have:=M2.size;omega
 have h':t.heap[v.C.o.to]?=J (.chan D #[] false j j false):=by grind
 refine sN (h:=a) (j:=0) (kk:=0) (c:=v.C.o.to) (z:=.agg #[]) (s:=A0 v.C.o.to false rec) (nh:=nq) Za Za Za (by rw[az _ _ Za];exact c') Z x' y' z' h' (λd=>by rw[G];exact A' _ _ _ h') hq λE S P=>?_;obtain rfl:E=rec:=P;have M':∀i,i≠v.C.o.to->((t.at S).setChan v.C.o.to D #[] true j j false).heap[i]?=t.heap[i]?:=λi z=>P8 z;have C':vL p l K ((t.at S).setChan v.C.o.to D #[] true j j false):=C.back ((E2.at S).chan p' D #[] true j j false)
 let⟨c3,k3⟩:=LA (af r) f b (w2:=t) (o:=Q) (Inb':=ai (ai (ai (ai q 0 (J (A0 v.C.o.to false E))) a Q) 0 Q) a Q) C' Z (by simp[dh,World.at];exact B') (λi F n R h3 h4 h5=>by
   grind) (λv' e=>by cases e) (λs c n R=>by rw[az _ _ Za,aH]at n;cases n) (λ_=>aH _ _ _)
   (λi F n=>by rw[az _ _ n,az _ _ F,az _ _ n,az _ _ F])
 exact n' _ _ c3 k3
end Go.Proofs.YtcgabodkegcpgaaGreatDoor
