/- Main begins an operation: the company grows. -/
import Derived.Test.YtcgabodkegcpgaaGreatDoorAaa
import Derived.Test.YtcgabodkegcpgaaGreatDoorMxj
import Derived.Test.YtcgabodkegcpgaaGreatDoorKer
import Derived.Conc.SmallLaws
import Derived.Deep.AppendLies
import Derived.Test.YtcgabodkegcpgaaGreatDoorIvb
import Derived.Deep.DrawnRows
import Derived.Deep.RegionHeld3
import Derived.Laws.AppendOwn
import Derived.Laws.OwnMore
set_option linter.unusedVariables false
set_option linter.unusedSimpArgs false
set_option maxHeartbeats 20000000
set_option maxRecDepth 100000
open Option renaming some->J,none->Q,none->G',map_some->aD,getD_some->cU,map_eq_some_iff->dC
open Go.Proofs.Tryz renaming prog->V,prog->J',func51->du,func89->dD,func92->dN,func109->eJ,func93->eR,func91->eS,ntmps38->fC,func108->fE,func90->fO,func38->fR,func32->fZ,f56->gv,ntmps39->gJ,func39->gY,func21->iy,func48->iF,f50->je,func12->jW,ntmps32->kR,ntmps12->lE,func94->lG,func50->lK,underlying138->mA
open Go renaming World->Wd,Value->Vu,undef->Ud,Frame->Fm',Goroutine->Gr,TypeId->Ti,execOp->Ex,Program->Pg,Calls->aF,Oper->aL,Operand->aS,Item->bh,FuncId->bC,stepG->bF,Addr->cx,heap_alloc_new->cC,Act->cZ,Event->dn,Value->dM,wpList_store_mid->dV,madeCells->eN,run_underlying->gQ,Machine->gW,TypeInfo->ig,wpList->iR,maxLen->iT,Act->jh,Code->jj,cell_of_row->jC,commResult->km,Trace->lT
open Go.Value renaming int->Y,pointer->Po,slice->Sc,bool->Bo,slice->di,int->dL,cells->fY,oneCell'->jV
open Go.IntKind renaming i64->U
open Go.Addr renaming mk->O,add_mid->eG
open List renaming mem_cons->ae,mem_cons_of_mem->ah,not_mem_nil->aj,mem_cons_self->ao,range->aO,size_toArray->aY,getElem?_eq_getElem->bj,getElem?_eq_some_iff->bD,mem_append->bZ,append_nil->cy,mem_singleton->cz,getD_eq_getElem?_getD->cG,length_cons->cI,map_cons->cX,mem_append_right->da,map_toArray->dq,mem_map->dA,eq_nil_of_length_eq_zero->dI,drop_eq_getElem_cons->dQ,map_nil->eE,drop_of_length_le->eK,getElem?_take->eO,nil_append->eP,getElem?_eq_none->eX,getElem?_append_left->gC,length_drop->gO,range'->gR,zipIdx_cons->jG,length_nil->kC,getElem?_append_right->la,map_map->lW
open Nat renaming le_refl->af,zero_add->aE,beq->aG,add_assoc->aP,zero_le->aW,lt_or_ge->bQ,blt->cE,one_pos->cJ,one_lt_two->dP,ble->fS,lt_irrefl->iA,add_mul->iH,mul_le_mul_right->jF,zero_mul->jY,sub_zero->kY
open Go.ConcN renaming upd->ai,upd_ne->az,upd_same->aH
open Go.RowKit renaming Hid->ar,Below->bE,intOf->bT,wrap64->iD
open Int renaming toNat_natCast->au,eq_ofNat_of_zero_le->cT,ofNat_tmod->fU,toNat->jA
open Prod.mk renaming inj->ax,injEq->cR
open Go.Frame renaming enter->ay,finish_at->bI
open Ne renaming symm->aA
open Bool renaming and_eq_true->aB,false_eq_true->aI,eq_false_iff->gq
open Go.World renaming cell?->aC,block_lt_of_cell?->aK,ownsRow_nil->dc,frozen?_setCells->dE,frozen?_of_block->dH,cell?_setCells_out->dS,cell?_setCells_in->kG
open Go.RowKit.Below renaming heap_alloc->aJ,refl->bz,heap_setCell->dK
open Go.Builtin renaming nextslicecap->aR
open Go.Region renaming ready->aU,wanted->bM
open Array renaming getD_eq_getD_getElem?->aX,all_eq_true_iff_forall_mem->cP,getElem?_setIfInBounds_ne->cV,getElem?_eq_none->eM
open Or renaming inr->ba,inl->bP
open Option.some renaming injEq->bm
open Go.Conc renaming served->bG,mem_listed->cA,goes_oper_k->eV,Seat->eZ,closeEvents->gU,goes_go->iK,ds_none->iL,resultsC_tmp->kF,served_fr->my
open Go.Conc.Goes renaming step->cK
open Classical renaming byContradiction->cL,axiomOfChoice->jk
open Go.Act renaming eval->dj,put->dG
open Go.Instr renaming fill->dJ,makeSlice->ic,buildSlice->jB,makeChan->jP
open Inhabited renaming default->dR
open Go.Deferred renaming ofValue->lx
open Go.Conc.Seat renaming one->mE
open List.Pairwise renaming filter->mK
namespace Go.Proofs.YtcgabodkegcpgaaGreatDoor
noncomputable section
variable{a b c:Nat}{d e f g h:Int}{i j:List Int}{k l m:Wd}{n o:Vu}{p:aa}{q r:Type}{s:Nat->Nat}{t:aL}{u:List Nat}{v:ou}{w x:Bool}{y:List Fm'}{z:Array aL}{A:Nat->Vu}{B:cZ}{C:l9}{D E:List (Int×Int)}{H:Nat->Option Lv}{I:List Vu}{K:List aL}
section
open Go.Conc Go.RowKit
structure Grown (w w2:Wd):Prop where
 size:w.heap.size<=w2.heap.size
 old:∀k,k<w.heap.size->w2.heap[k]?=w.heap[k]?
 clear:Clear w2
theorem Grown.at(h:Grown k l)(d:Nat):Grown k (l.at d):=⟨h.size,h.old,h.clear⟩
theorem Grown.trans(h:Grown k l)(a:Grown l m):Grown k m:=⟨Zh h.size a.size,λi b=>(a.old i (Zg b h.size)).trans (h.old i b),a.clear⟩
theorem Grown.refl(h:Clear k):Grown k k:=⟨af _,λ_ _=>rfl,h⟩
variable{j:Kb}{l:List ng}{K:aa}{L:Nat->Option Lv}{r:Nat}{q:Nat->Option eZ}{b:Nat}{w w2:Wd}{v:Lv}{y:gW->lT->Prop}
theorem Env.grown{C:Ctx}(E:Env C l K w)(h:Grown w w2):Env C l K w2 :=
 ⟨E.rep.same h.size λk e _=>h.old k e,E.oq.same (h.old 0 E.oq.lt),E.inv,⟨λi f=>by
  let⟨c,t,a⟩:=E.fit.soft i f
  exact⟨c,t,by rw[h.old i (Zj a).1];exact a⟩,h.clear⟩,λo d=>by
  let⟨c,t,g,m⟩:=E.ko o d
  exact⟨c,t,by rw[h.old _ (KO.lt E.ko d)];exact g,m⟩,E.ap⟩
theorem Env.more{C:Ctx}(E:Env C l K w){o:ng}(e:KO [o] w)(g:∀k,(k=C.bk\/k=C.bf\/k=C.bs\/k=C.bd\/k=0)->o.bo≠k):Env C (o::l) K w :=
 ⟨E.rep,E.oq,E.inv,⟨λi f=>by
  obtain⟨d,a,rfl⟩:=GJ f;rcases ae.1 a with rfl|a
  .let⟨c,t,h,_⟩:=e _ (cz.2 Z)
   grind
  .exact E.fit.soft _ (by rw[Q2 a];omega),E.fit.clear⟩,λd a=>by
  rcases ae.1 a with rfl|a
  .exact e _ (cz.2 Z)
  .exact E.ko d a,λd a=>by
  rcases ae.1 a with rfl|a
  .grind
  .exact E.ap d a⟩
theorem Co.rA(d:Co j l K L r q b w)(h:L a=J v)(e:c∈v.pv):c<w.heap.size:=by let⟨f,n,A⟩:=d.at_ a v h;exact A.lt e
theorem Co.oX(d:Co j l K L r q b w)(h:L a=J v){c:Nat}(e:v.ch c):c<w.heap.size:=by
 let⟨⟨f,k,g⟩,_⟩:=d.chan a v h c e
 grind
theorem Co.grown(a:Co j l K L r q b w)(h:Grown w w2):Co j l K L r q b w2 :=
 ⟨a.env.grown h,a.top,a.gid,a.rq,λg v e=>by
  let⟨f,n,A⟩:=a.at_ g v e;exact⟨f,n,A.other (A.env.grown h) λi t=>h.old i (A.lt t)⟩,a.wait,a.qj,a.none,λs c m o=>Zg (a.pE s c m o) h.size,λg v e c d=>by
  let⟨⟨u,k,m⟩,o⟩:=a.chan g v e c d;exact⟨⟨u,k,by rw[h.old c (a.oX e d)];exact m⟩,o⟩,a.ql,a.pk,a.apart,λg s x=>by
  let⟨z,B,C,p⟩:=a.rV g s x
  exact⟨z,B,C,λc d=>⟨Zg (p c d).1 h.size,(p c d).2⟩⟩,Zh a.rK.1 h.size,a.rK.2⟩
theorem Co.at(a:Co j l K L r q b w)(d:Nat):Co j l K L r q b (w.at d):=a.grown ⟨af _,λ_ _=>rfl,a.env.fit.clear⟩
theorem Co.less(c:Co j l K L r q b w)(h:a<=r):Co j l K L a q b w :=
 ⟨c.env,c.top,c.gid,c.rq,c.at_,λg v d=>by
  let⟨m,e,f⟩:=c.wait g v d
  grind,c.qj,c.none,c.pE,c.chan,c.ql,c.pk,c.apart,c.rV,c.rK⟩
theorem Co.more(a:Co j l K L r q b w){o:ng}(m:KO [o] w)(p:∀k,(k=j.bk\/k=j.bf\/k=j.bs\/k=j.bd\/k=0)->o.bo≠k)(C:∀g v,L g=J v->(∀i∈v.pv,o.bo≠i)/\∀c,v.ch c->o.bo≠c)(s:j.fz<=o.bo):Co j (o::l) K L r q b w :=
 ⟨a.env.more m p,a.top,a.gid,a.rq,λg v e=>by
  let⟨f,n,A⟩:=a.at_ g v e;refine⟨f,n,(a.rq g v e).env (a.env.more m p),ah _ A.mem,A.own,A.has,A.row,A.top,λi t u z h=>?_⟩;rcases ae.1 h with rfl|h
  .grind
  .exact A.pC i t u z h,a.wait,a.qj,a.none,a.pE,λg v e c B=>by
  let⟨D,E,F,H,I,N,P⟩:=a.chan g v e c B
  grind,a.ql,a.pk,a.apart,a.rV,a.rK.1,λx d=>ah _ (a.rK.2.1 x d),λx d=>by
  rcases ae.1 d with rfl|d
  .exact .inr s
  .exact a.rK.2.2 x d⟩
structure xM (B:Nat) (C:Ctx) (w:Wd):Prop where
 bo:B<=C.o.bo
 ch:B<=C.o.tu/\B<=C.o.to/\B<=C.o.en
 row:∃t,w.heap[C.o.bo]?=J (.cells (R0 C 0 0 (Sc Q 0 0) false false) t (0,0))
 chan:∀c,c=C.o.tu\/c=C.o.to\/c=C.o.en->w.heap[c]?=J (.chan 0 #[] false 0 0 false)
 ne:C.o.tu≠C.o.to/\C.o.tu≠C.o.en/\C.o.to≠C.o.en
theorem xM.Hs{C:Ctx}(h:xM a C w):C.o.bo≠C.o.tu/\C.o.bo≠C.o.to/\C.o.bo≠C.o.en:=by
 let⟨t,c⟩:=h.row;refine⟨λe=>?_,λe=>?_,λe=>?_⟩<;>rw[e,h.chan _ Zc]at c<;>cases c
theorem xM.ko{C:Ctx}(h:xM a C w):KO [C.o] w:=by
 intro o c;cases Zi c;let⟨t,d⟩:=h.row;exact⟨_,t,d,Z,Z,Z⟩
theorem Wa(n:Co j l K L r q b w)(T:Grown w w2){C:Ctx}(x:xM w.heap.size C w2)(z:tI j C)(hg:C.o.gid=b)(h0:0<b)(hC:C.slot=a)(hp:a<K.nS){W a':Gr}(i':W.status=.running)(j':∀d,bF V true W (w2.at d)=.spawn a' (born V (dcall 88 #[pO C.o])) (w2.at d) #[])(hx:∀d H f',Co j (C.o::l) K (ai L b (J ⟨C,m7 C a,[C.o.bo],H,[R8 C.o,bot]⟩)) r f' (b+1) (w2.at d)->Kp j L w (ai L b (J ⟨C,m7 C a,[C.o.bo],H,[R8 C.o,bot]⟩)) (w2.at d)->X V y (C.o::l) f' (b+1) 0 a' (w2.at d)) :
  X V y (C.o::l) q b 0 W w2:=by
 have R:=n.env.rep;have lk:j.bk<w.heap.size:=R.lk;have lf:j.bf<w.heap.size:=R.lf;have ls:j.bs<w.heap.size:=R.ls;have ld:j.bd<w.heap.size:=R.ld;have l0:0<w.heap.size:=n.env.oq.lt;have k':=x.bo;let⟨c1,c2,c3⟩:=x.ch;let⟨b1,b2,b3⟩:=x.Hs;have E:∀c,c=C.o.tu\/c=C.o.to\/c=C.o.en->w.heap.size<=c:=λc f=>by grind
 have l':∀k,(k=j.bk\/k=j.bf\/k=j.bs\/k=j.bd\/k=0)->C.o.bo≠k:=λk hk e=>by grind
 have G:Co j (C.o::l) K L r q b w2:=(n.grown T).more x.ko l' (λg v hv=>⟨λi m e=>by have:=n.rA hv m;omega,λc f e=>by have:=n.oX hv f;omega⟩) (Zh n.rK.1 k');have m':L b=none:=by
  cases e:L b with
  | none=>rfl
  | some v=>have:=n.gid _ _ e;omega
 have q':q b=none:=by
  rw[G.none b Za m']
  cases e:j.fo b with
  | none=>rfl
  | some s=>have:=(G.rV b s e).2.2.1;omega
 have M:∀c,c=C.o.tu\/c=C.o.to\/c=C.o.en->∀o∈C.o::l,o.bo≠c:=λc f o ho e=>by
  rcases ae.1 ho with rfl|ho
  .grind
  .have:=KO.lt n.env.ko ho;have:=E c f;omega
 refine XS (nc:=34) i' j' (J0 C.o [R8 C.o,bot]) (PD x.ne.2.1) (λi s c m f N=>?_) (λc f=>⟨0,0,x.chan c (by rcases U6 f with h|h;exact .inl h;exact .inr (.inr h))⟩) (λc f=>M c (by rcases U6 f with h|h;exact .inl h;exact .inr (.inr h))) (λB hB=>TK C.o (ao ..) B hB) λd=>?_
 .have r':w.heap.size<=c:=E c (by rcases U6 N with h|h;exact .inl h;exact .inr (.inr h))
  by_cases e:i=0
  .subst e;have:=n.pE s c m f;omega
  .rcases n.Cs e m with⟨u,hu,rfl⟩|S
   case inr=>have:=((n.rV i s S).2.2.2 c f).1;omega
   have:=n.oX hu (c:=c) (by rcases U6 f with h|h;exact .inl h;exact .inr (.inr h));omega
 .have d':=x.row;let⟨t,d'⟩:=d';have cases:∀g u,ai L b (J (⟨C,m7 C a,[C.o.bo],λ_=>.cells (R0 C 0 0 (Sc Q 0 0) false false) t (0,0),[R8 C.o,bot]⟩:Lv)) g=J u->(g=b/\u=⟨C,m7 C a,[C.o.bo],λ_=>.cells (R0 C 0 0 (Sc Q 0 0) false false) t (0,0),[R8 C.o,bot]⟩)\/(g≠b/\L g=J u):=λg u h=>by
   by_cases e:g=b
   .subst e;rw[aH]at h;grind
   .rw[az _ _ e]at h;grind
  have s':∀g u,L g=J u->C.o.bo∉u.pv:=λg u hu m=>by have:=n.rA hu m;omega
  have p:=G.at d;refine hx d (λ_=>.cells (R0 C 0 0 (Sc Q 0 0) false false) t (0,0)) _ ⟨p.env,p.top,λg u h=>?_,λg u h=>?_,λg u h=>?_,λg u h=>?_,λg u h=>?_,λg n' h=>?_,λs c h1 h2=>?_,λg u h c f=>?_,λg u h=>?_,λg u A I h P c f=>?_,λg u A I h P o'=>?_,λg s S=>?_,p.rK⟩ λk F=>⟨⟨Zg F.lt T.size,F.nf,F.ns,F.nd,λg u h=>?_⟩,T.old k F.lt⟩
  .rcases cases g u h with⟨rfl,rfl⟩|⟨_,h5⟩
   .grind
   .have:=p.gid g u h5;grind
  .rcases cases g u h with⟨rfl,rfl⟩|⟨_,h5⟩
   .exact z
   .exact p.rq g u h5
  .rcases cases g u h with⟨rfl,rfl⟩|⟨_,h5⟩
   .refine⟨Sc Q 0 0,false,z.env p.env,ao ..,⟨ao ..,λi m=>?_⟩,λi m=>?_,⟨t,Z⟩,by show 0≠C.bf/\0≠C.bs/\0≠C.bd;rw[z.f,z.s,z.d];exact p.top,λi m h1=>?_⟩
    .cases Zi m;rw[z.k,z.f,z.s,z.d]
     grind
    .cases Zi m;exact d'
    grind
   .exact p.at_ g u h5
  .rcases cases g u h with⟨rfl,rfl⟩|⟨_,h5⟩
   .exact⟨r,af _,Ra r C hC hp⟩
   .exact p.wait g u h5
  .rcases cases g u h with⟨rfl,rfl⟩|⟨e,h5⟩
   .exact aH _ _ _
   .rw[az _ _ e];exact p.qj g u h5
  .by_cases e:g=b
   .subst e;rw[aH]at h;cases h
   .rw[az _ _ e]at h ⊢;exact p.none g n' h
  .rw[az _ _ Za]at h1;exact p.pE s c h1 h2
  .rcases cases g u h with⟨rfl,rfl⟩|⟨e,h5⟩
   .have:=E c f;exact⟨⟨0,0,x.chan c f⟩,by omega,by omega,by omega,by omega,by omega,M c f⟩
   .exact p.chan g u h5 c f
  .rcases cases g u h with⟨rfl,rfl⟩|⟨e,h5⟩
   .exact x.ne
   .exact p.ql g u h5
  .rcases cases g u h with⟨rfl,rfl⟩|⟨e,h5⟩
   .intro m;obtain rfl:c=C.o.bo:=Zi m;rcases cases A I P with⟨rfl,rfl⟩|⟨e',D⟩
    .exact M _ f C.o (ao ..) Z
    .have:=n.oX D f;omega
   .rcases cases A I P with⟨rfl,rfl⟩|⟨e',D⟩
    .intro m;have:=n.rA h5 m;have:=E c f;omega
    .exact p.pk g u A I h5 D c f
  .rcases cases g u h with⟨rfl,rfl⟩|⟨e,h5⟩
   .rcases cases A I P with⟨rfl,rfl⟩|⟨e',D⟩
    .grind
    .refine⟨λi m p'=>?_,λc f N=>?_⟩
     .grind
     .have:=n.oX D N;have:=E c f;omega
   .rcases cases A I P with⟨rfl,rfl⟩|⟨e',D⟩
    .refine⟨λi m p'=>?_,λc f N=>?_⟩
     .grind
     .have:=n.oX h5 f;have:=E c N;omega
    .exact p.apart g u A I h5 D o'
  .let⟨f1,f2,f3,f4⟩:=p.rV g s S;have ne:g≠b:=by omega
   refine⟨by rw[az _ _ ne];exact f1,f2,by omega,λc f=>⟨(f4 c f).1,λA u h=>?_⟩⟩;rcases cases A u h with⟨rfl,rfl⟩|⟨_,h5⟩
   .intro D;have:=E c D;have:=((n.rV g s S).2.2.2 c f).1;omega
   grind
  .rcases cases g u h with⟨rfl,rfl⟩|⟨e,h5⟩
   .refine⟨λm=>?_,λf=>?_⟩
    .cases Zi m;have:=F.lt;omega
    .have:=E k f;have:=F.lt;omega
   .exact F.own g u h5
end
section
open Go.Conc Go.RowKit
theorem Kc{Stop:Gr->Wd->Prop}{g:Gr}{b:Obj}(c:Obj.nz b)(d:Clear k)(h:∀W,Grown k W->W.heap[k.heap.size]?=J b->W.heap.size=k.heap.size+1->∀a,l6 V w (DL x s) Stop g (W.at a)):l6 V w (DL x s) Stop g ((k.at a).alloc b) :=
 h (k.alloc b) ⟨by simp,λe f=>aJ k b e f,(qp d.lk (o:=b) c).1.nz⟩ (cC k b) Zc a
def wG(o:ng)(a:List Fm'):Gr :=
 match Tryz.f50.body with
 | some (.seq _ (.seq (.region _ ops _) c))=>G ((base 50).at ⟨#[pO o,Ud,Bo false,Ud,Ud,pO o,pO o,pO o,.chan (J o.tu),.agg #[],Ud,Ud,Ud,Ud,Ud,Ud,Ud,Ud,Ud],[]⟩ [.inRegion ops [5],.code c]) a
 | _=>dR
def vw(o:ng)(a:List Fm'):Gr :=
 match Tryz.f50.body with
 | some (.seq _ (.seq _ (.seq (.region _ ops _) c)))=>G ((base 50).at ⟨#[pO o,Ud,Bo false,Ud,Ud,pO o,pO o,pO o,.chan (J o.tu),.agg #[],Ud,pO o,pO o,Po (J (O o.bo 1 Q)),.chan (J o.to),Ud,Ud,Ud,Ud],[]⟩ [.inRegion ops [4,5,6,7,8,9,10],.code c]) a
 | _=>dR
theorem c8h{o:ng}:bF V true (wG o y) k=.comm (wG o y) #[scase o.tu (.agg #[]) (.tuple #[])] true .send k #[]:=by
 unfold wG;simp only[je];rw[stepG_comm (cases:=#[scase o.tu (.agg #[]) (.tuple #[])]) (blocking:=true) (shape:=.send) (w':=k) Z Z Zb (by simp[go_sem,Ex,dj,scase]),listed_none (by simp[go_sem,Ex,dj])]
theorem YV(o:ng)(l:List ng)(B:Nat)(a:List Fm'):AtIn V true (KO l) (SP l no) B (A0 o.to true (vw o a)) (vw o a) (vw o a):=by
 unfold vw;simp only[je];exact atIn_of (s:=A0 o.to true _) Z Z Zb (λw=>by simp[go_sem,Ex,rcase,dj,A0,mE]) (λw=>by simp[go_sem,Ex,dj]) (by simp[A0,mE])
theorem c8i(o:ng)(l:List ng)(h:o∈l)(B:Nat)(j:∀o∈l,o.bo<B)(i:List Fm'):Sits V true (KO l) (SP l no) B (A0 o.to true (vw o i)) 9 (bG (wG o i) Ud):=by
 have k:=YV o l B i;refine .inl ⟨8,dR,Z,?_⟩;unfold wG;unfold vw at *;simp only[je,my]at *;rw[bI];refine cK Z λd a=>?_;rw[stepG_region_end];simp only[iK];refine⟨iL _,?_⟩;clear a;refine cK Z λd a=>?_;rw[stepG_seq];simp only[iK];refine⟨iL _,?_⟩;clear a;refine cK Z λd a=>?_;rw[stepG_region];simp only[iK,aY,cI,kC,Nat.reduceAdd,aE,aO,List.range.loop];refine⟨iL _,?_⟩;clear a;refine cK Z λd a=>eV Z Z Zb λK b=>?_;go_simp;refine b _ _ ⟨⟨Z,λe f=>by(have c:=cA f;simp[go_sem]at c)⟩,?_⟩;clear b K a;refine cK Z λd a=>eV Z Z Zb λK b=>?_;go_simp;refine b _ _ ⟨⟨Z,λe f=>by(have c:=cA f;simp[go_sem]at c)⟩,?_⟩;clear b K a;refine cK Z λd a=>eV Z Z Zb λK b=>?_;go_simp;refine b _ _ ⟨⟨Z,λe f=>by(have c:=cA f;simp[go_sem]at c)⟩,?_⟩;clear b K a;refine cK Z λd a=>eV Z Z Zb λK b=>?_;have g:=uv a h;have m:=g.1;have n:=g.2.1;have p:=g.2.2.1;have q:=g.2.2.2;go_simp;refine b _ _ ⟨⟨Z,λe f=>by(have c:=cA f;simp[go_sem, *]at c;subst c;exact evC_read _ (.inl ⟨o,h,1,by omega,Z⟩) (j o h))⟩,?_⟩;clear b K g m n p q a;exact Goes.stop λd a=>⟨_,k⟩
def DV:jj:=(Tryz.f50.body).getD .skip
theorem b3j(o:ng):ay V 50 #[pO o] .normal=(base 50).at ⟨#[pO o,Ud,Ud,Ud,Ud,Ud,Ud,Ud,Ud,Ud,Ud,Ud,Ud,Ud,Ud,Ud,Ud,Ud,Ud],[]⟩ [.code DV]:=by
 rw[enter_at (c:=DV) _ lK Z];refine congrArg (λt=>(base 50).at ⟨t,[]⟩ [.code DV]) ?_
 kernel_rfl
variable{m:Kb}{l:List ng}{K:aa}{L:Nat->Option Lv}{r:Nat}{y:Nat->Option eZ}{g:Nat}{w:Wd}{v:Lv}{x:gW->lT->Prop}
theorem Li(p:Co m l K L r y g w)(o:ng)(c:Bool)(i:Fm')(j:List Fm')(q:∀k,Grown w k->X V x l y g 0 (G (i.finish (Bo c)) j) k) :
  X V x l y g 0 (bG (vw o (i::j)) (vJ o.to true c)) w:=by
 have s:vJ o.to true c=.tuple #[.agg #[],Bo c]:=by simp[vJ,km,rcase]
 rw[s];unfold vw;simp only[je,my];rw[bI];refine u0 (st:=true) ?_;show l6 V true (DL true (ep l)) _ _ (w.at w.drawn);generalize w.drawn=u;have t:=p.env.fit.clear;go_simp;(iterate 3(refine mo Z Z λd b a=>?_;go_simp;refine a _ _ ⟨Z,?_⟩;clear a b));refine B9 Z Z Zb (λd b a=>?_) _;go_simp;refine a _ _ ⟨zh λe f=>?_,?_⟩
 .have h:=cA f;simp[go_sem]at h
 clear a b;refine Kc mX t λW n z A d=>?_;have B:=n.clear;refine B9 Z Z Zb (λd b a=>?_) _;go_simp;refine a _ _ ⟨⟨.of_heap _ Z,λe f=>?_,Z⟩,?_⟩
 .have h:=cA f;simp[go_sem]at h
 clear a b;refine mo Z Z λd b a=>?_;go_simp;refine a _ _ ⟨Z,?_⟩;clear a b;refine i8 (λd=>?_) _;refine B5 (λd=>?_) _;refine m8 (λd=>?_) _;simp only[rz,ix,Nat.reduceAdd];(iterate 2(refine mo Z Z λd b a=>?_;go_simp;refine a _ _ ⟨Z,?_⟩;clear a b));refine i8 (λd=>?_) _;refine ux (λd=>?_) _;exact Y4 (v:=Bo c) Z Z lK (kF (t:=2) Z _) (w:=W) (λd=>.stop (q _ (n.at d))) _
theorem Z2(C:Co m l K L (r+1) y g w)(S:L a=J v)(p:Fm')(q:List Fm')(a':∀j z o,z.C=v.C->z.S=(λ_=>(v.turn K).2)->(∃n b' b c,(v.turn K).2 []=.call n b' b c)->Co m l (v.turn K).1 (ai L a (J z)) r o g j->Kp m L w (ai L a (J z)) j->X V x l o g 0 (G (p.finish (Bo true)) q) j)(c':∀j o D E,(v.turn K).2 []=.done D E->Co m l (v.turn K).1 (ai L a Q) r o g j->Kp m L w (ai L a Q) j->(∃t e' un go,j.heap[v.C.o.bo]?=J (.cells (R0 v.C E D e' un go) t (0,0)))->X V x l o g 0 (G (p.finish (Bo false)) q) j) :
  X V x l y g 0 (G (ay V 50 #[pO v.C.o] .normal) (p::q)) w:=by
 have T:v.C.o∈l:=by let⟨f,n,A⟩:=C.at_ a v S;exact A.mem
 have h0:=(uv C.env.ko T).1;have W:∀d,X V x l y g 0 (wG v.C.o (p::q)) (w.at d):=λd=>by
  refine Ro (C.at d) S (rec:=vw v.C.o (p::q)) (nh:=9) (by unfold wG;simp only[je];rfl) (λd'=>c8h) (λB hB=>c8i v.C.o l T B hB (p::q)) (λj z o I F N H h5=>?_) λj o D E I F N H=>?_
  .exact Li H v.C.o true p q (λP s=>a' P z o I F N (H.grown s) (λk h=>by
    let⟨e,R⟩:=h5 k ⟨h.lt,h.nf,h.ns,h.nd,h.own⟩
    exact⟨⟨Zg e.lt s.size,e.nf,e.ns,e.nd,e.own⟩,(s.old k e.lt).trans R⟩))
  .let⟨t,f1,f2,f3,M⟩:=H
   exact Li F v.C.o false p q (λP s=>c' P o D E I (F.grown s) (λk h=>by
    let⟨e,R⟩:=N k ⟨h.lt,h.nf,h.ns,h.nd,h.own⟩
    exact⟨⟨Zg e.lt s.size,e.nf,e.ns,e.nd,e.own⟩,(s.old k e.lt).trans R⟩) ⟨t,f1,f2,f3,by rw[s.old _ (Zj M).1];exact M⟩)
 rw[b3j];unfold wG at W;simp only[DV,je,cU,pO]at *;refine u0 (st:=true) ?_;show l6 V true (DL true (ep l)) _ _ (w.at w.drawn);generalize w.drawn=dz;have hc:=C.env.fit.clear;refine B5 (λd=>?_) _;refine m8 (λd=>?_) _;simp only[rz,ix,Nat.reduceAdd];refine mo Z Z λd u i=>?_;go_simp;refine i _ _ ⟨Z,?_⟩;clear i u;refine i8 (λd=>?_) _;refine B5 (λd=>?_) _;refine m8 (λd=>?_) _;simp only[rz,ix,Nat.reduceAdd];(iterate 3(refine mo Z Z λd u i=>?_;go_simp;refine i _ _ ⟨Z,?_⟩;clear i u));refine mo Z Z λd u i=>?_;have e0:(w.at d).cell? (O v.C.o.bo 0 Q)=J (.chan (J v.C.o.tu)):=h0;go_simp;refine i _ _ ⟨Z,?_⟩;clear i u;refine mo Z Z λd u i=>?_;go_simp;refine i _ _ ⟨Z,?_⟩;clear i u;exact .stop (W _)
def yd(o:ng)(a:List Fm'):Gr :=
 match Tryz.f56.body with
 | some (.seq (.region _ ops _) c)=>G ((base 56).at ⟨#[pO o,Ud,pO o,pO o,Po (J (O o.bo 2 Q)),.chan (J o.en),Ud,Ud,Ud,Ud,Ud],[]⟩ [.inRegion ops [4],.code c]) a
 | _=>dR
def yj(o:ng)(a:List Fm'):Gr :=
 match Tryz.f56.body with
 | some (.seq (.region _ ops _) c)=>G ((base 56).at ⟨#[pO o,Ud,pO o,pO o,Po (J (O o.bo 2 Q)),.chan (J o.en),Ud,Ud,Ud,Ud,Ud],[]⟩ [.inRegion ops [],.code c]) a
 | _=>dR
def vG(o:ng)(a:List Fm'):Gr :=
 match Tryz.f56.body with
 | some (.seq _ (.region _ ops _))=>G ((base 56).at ⟨#[pO o,Ud,pO o,pO o,Po (J (O o.bo 2 Q)),.chan (J o.en),pO o,pO o,Po (J (O o.bo 1 Q)),.chan (J o.to),Ud],[]⟩ [.inRegion ops [4]]) a
 | _=>dR
theorem c7n{o:ng}{c:List Fm'}{w:Wd}(e:w.heap[o.en]?=J (.chan a #[] false b b false))(d:Nat):bF V true (yd o c) (w.at d)=.go (yj o c) ((w.at d).setChan o.en a #[] true b b false) (gU o.en):=by
 unfold yd yj;simp only[gv];rw[stepG_close (c:=o.en) Z Z Zb Z Z (w:=w.at d) e Zd];rfl
theorem d0F(o:ng)(l:List ng)(B:Nat)(a:List Fm'):AtIn V true (KO l) (SP l no) B (A0 o.to false (vG o a)) (vG o a) (vG o a):=by
 unfold vG;simp only[gv];exact atIn_of (s:=A0 o.to false _) Z Z Zb (λw=>by simp[go_sem,Ex,rcase,dj,A0,mE]) (λw=>by simp[go_sem,Ex,dj]) (by simp[A0,mE])
theorem WW(o:ng)(l:List ng)(i:o∈l)(B:Nat)(k:∀o∈l,o.bo<B)(j:List Fm'):Sits V true (KO l) (SP l no) B (A0 o.to false (vG o j)) 7 (yj o j):=by
 have n:=d0F o l B j;refine .inl ⟨6,dR,Z,?_⟩;unfold yj;unfold vG at *;simp only[gv]at *;refine cK Z λf a=>?_;rw[stepG_region_end];simp only[iK];refine⟨iL _,?_⟩;clear a;refine cK Z λf a=>?_;rw[stepG_region];simp only[iK,aY,cI,kC,Nat.reduceAdd,aE,aO,List.range.loop];refine⟨iL _,?_⟩;clear a;refine cK Z λf a=>eV Z Z Zb λK b=>?_;go_simp;refine b _ _ ⟨⟨Z,λe d=>by(have c:=cA d;simp[go_sem]at c)⟩,?_⟩;clear b K a;refine cK Z λf a=>eV Z Z Zb λK b=>?_;go_simp;refine b _ _ ⟨⟨Z,λe d=>by(have c:=cA d;simp[go_sem]at c)⟩,?_⟩;clear b K a;refine cK Z λf a=>eV Z Z Zb λK b=>?_;go_simp;refine b _ _ ⟨⟨Z,λe d=>by(have c:=cA d;simp[go_sem]at c)⟩,?_⟩;clear b K a;refine cK Z λf a=>eV Z Z Zb λK b=>?_;have h:=uv a i;have p:=h.1;have q:=h.2.1;have s:=h.2.2.1;have t:=h.2.2.2;go_simp;refine b _ _ ⟨⟨Z,λe d=>by(have c:=cA d;simp[go_sem, *]at c;subst c;exact evC_read _ (.inl ⟨o,i,1,by omega,Z⟩) (k o i))⟩,?_⟩;clear b K h p q s t a;exact Goes.stop λf a=>⟨_,n⟩
def Eu:jj:=(Tryz.f56.body).getD .skip
theorem b2R(o:ng):ay V 56 #[pO o] .normal=(base 56).at ⟨#[pO o,Ud,Ud,Ud,Ud,Ud,Ud,Ud,Ud,Ud,Ud],[]⟩ [.code Eu]:=by
 rw[enter_at (c:=Eu) _ Tryz.func56 Z];refine congrArg (λt=>(base 56).at ⟨t,[]⟩ [.code Eu]) ?_
 kernel_rfl
theorem b5x(p:Co m l K L r y g w)(t:L a=J v)(e:Fm')(h:List Fm')(F:∀b c,Co m l K (ai L a Q) r c g b->Kp m L w (ai L a Q) b->X V x l c g 0 (G (e.finish (.tuple #[])) h) b) :
  X V x l y g 0 (G (ay V 56 #[pO v.C.o] .normal) (e::h)) w:=by
 have z:v.C.o∈l:=by let⟨f,n,A⟩:=p.at_ a v t;exact A.mem
 have H:=(uv p.env.ko z).2.2.1;have C:∀b c,Co m l K (ai L a Q) r c g b->Kp m L w (ai L a Q) b->X V x l c g 0 (bG (vG v.C.o (e::h)) (vJ v.C.o.to false false)) b:=by
  intro w c D I;have N:=λd=>F (w.at d) c (D.at d) (λk i=>by let⟨j,P⟩:=I k i;exact⟨⟨j.lt,j.nf,j.ns,j.nd,j.own⟩,P⟩);rw[show vJ v.C.o.to false false=.agg #[] from by simp[vJ,km,rcase]];unfold vG;simp only[gv,my];rw[bI];refine u0 (st:=true) ?_;show l6 V true (DL true (ep l)) _ _ (w.at w.drawn);generalize w.drawn=R;have q:=D.env.fit.clear;go_simp;refine i8 (λd=>?_) _;refine mc Z (λu=>stepG_end) λd=>Y4 (v:=.tuple #[]) Z Z Tryz.func56 (resultsC_none Z _) (w:=w) (λd=>.stop (N d)) _
 have E:∀d,X V x l y g 0 (yd v.C.o (e::h)) (w.at d):=λd=>by
  refine Xa (p.at d) t (a₂:=yj v.C.o (e::h)) (rec:=vG v.C.o (e::h)) (nh:=7) (by unfold yd;simp only[gv];rfl) (by unfold yd;simp only[gv];rfl) (by unfold yj;simp only[gv];rfl) (λa' k q S=>c7n (w:=w.at d) q S) (λB T=>WW v.C.o l z B T (e::h)) λb c W M=>C b c W λk i=>M k ⟨i.lt,i.nf,i.ns,i.nd,i.own⟩
 clear C;rw[b2R];unfold yd at E;simp only[Eu,gv,cU,pO]at *;refine u0 (st:=true) ?_;show l6 V true (DL true (ep l)) _ _ (w.at w.drawn);generalize w.drawn=R;have q:=p.env.fit.clear;refine B5 (λd=>?_) _;refine m8 (λd=>?_) _;simp only[rz,ix,Nat.reduceAdd];(iterate 3(refine mo Z Z λd s o=>?_;go_simp;refine o _ _ ⟨Z,?_⟩;clear o s));refine mo Z Z λd s o=>?_;have e0:(w.at d).cell? (O v.C.o.bo 2 Q)=J (.chan (J v.C.o.en)):=H;go_simp;refine o _ _ ⟨Z,?_⟩;clear o s;exact .stop (E _)
theorem D6{listed:Array Bool}(e:a≠b):(listed.setIfInBounds a true).getD b false=listed.getD b false:=by
 simp_all
theorem IY{listed:Array Bool}(h:a∈aU .any z listed):listed.getD a false=false:=by
 cases e:listed.getD a false with
 | false=>rfl
 | true=>exact(uR h e).elim
def G8:Array aL :=
 match Tryz.f49.body with
 | some (.seq _ (.seq (.region _ ops _) _))=>ops
 | _=>#[]
theorem xb:tW G8=true:=by kernel_rfl
def vu(a:Nat)(p b A B:Int)(c:Nat->Nat):Array dM:=#[.chan (J (c 0)),.chan (J (c 1)),.chan (J (c 2)),Po (J (O a 0 Q)),Y U p,Y U b,Y U A,Y U B,Y U 0,Y U 0,Sc Q 0 0,Bo false,Bo false]
def wN(b:Nat)(p a A B:Int)(c:Nat->Nat)(d:Nat):Nat->Vu
 | 0=>.chan (J (c 0))|1=>.chan (J (c 1))|2=>.chan (J (c 2))|3=>Po (J (O b 0 Q))|4=>Y U p|5=>.agg #[Y U a,Y U A,Y U B]
 | 6=>.agg #[Y U a,Y U A,Y U B,Y U 0,Y U 0]|7=>.agg (vu b p a A B c)|8=>Po (J (O d 0 Q))|9=>Po (J (O d 0 Q))|_=>Ud
def cnt(listed:Array Bool):Nat:=(if listed.getD 0 false then 1 else 0)+(if listed.getD 1 false then 1 else 0)+(if listed.getD 2 false then 1 else 0)
theorem Jm(w:Wd):(jP 138 (Y U 0)).run V w=.ok (.chan (J w.heap.size)) (w.alloc (.chan 0 #[] false 0 0 false)):=by
 have h:(V.info? 165).map (·.bytes)=J 0:=by kernel_rfl
 let⟨i,a,b⟩:=dC.1 h;exact run_makeChan (P:=V) (w:=w) mA a .i64 0 Za Za
theorem SB(w:Wd)(a:Array dn):(jP 138 (Y U 0)).events V w a=a:=by
 have h:(V.info? 165).map (·.bytes)=J 0:=by kernel_rfl
 let⟨i,b,c⟩:=dC.1 h;exact events_makeChan (P:=V) (w:=w) mA b .i64 0 Za Za a
variable{g:Bool}{Stop:Gr->Wd->Prop}{W:Wd}{bk bx bo:Nat}{p kd A B:Int}{tb:Array Vu}
theorem ym{c:cZ}{b:Fm'}{k:List bh}{e:List Fm'}{f:Bool}{w:Wd}{v:Vu}(i:z[a]?=J t)(j:t.guard=Q)(n:b.kind≠.early)(o:qm V (λ_=>false) [] false t.op=true)(q:Clear w)(C:∀d,(Ex c.eval t).run V (w.at d)=.ok (.value v) (w.at d))(D:∀d,l6 V f (DL g s) Stop (G (b.at (c.put t.dst v) (.inRegion z u::k)) e) (w.at d))(h:Nat) :
  l6 V f (DL g s) Stop (G (b.at c (.inRegion z (a::u)::k)) e) (w.at h) :=
 Gn i (by unfold bM;rw[j]) n o q (λd E F=>by simp_all) h
theorem Ur(T:tb.size=19){w:Wd}(z:Clear w)(k:List bh)(h:List Fm')(C:∀d,l6 V true (DL g (ep l)) Stop (G ((base 49).at ⟨fill G8 (wN bk p kd A B s bo) tb,[]⟩ (.inRegion G8 []::k)) h) (w.at d)) :
  ∀D listed a b,Ord G8 D listed b->(oU G8 (wN bk p kd A B s bo) tb listed a/\∀j,j<=8->listed.getD j false=true)->∀d,l6 V true (DL g (ep l)) Stop (G ((base 49).at a (.inRegion G8 b::k)) h) (w.at d):=by
 refine As (J:=λa b=>∀d,l6 V true (DL g (ep l)) Stop (G ((base 49).at a (.inRegion G8 b::k)) h) (w.at d)) (λf listed a q b n i M E=>?_) λlisted a F i=>?_
 .let⟨c,e⟩:=i;have H:=x9 n;have I:G8.size=10:=by kernel_rfl
  rw[I]at H
  by_cases N:q=9
  .subst N;obtain⟨o,t,u,P⟩:∃o,G8[9]?=J o/\o.op=.assign (.tmp 16)/\o.guard=none:=⟨_,Z,Z,Z⟩;have R:a.eval (.tmp 16)=Po (J (O bo 0 Q)):=c.tmp (j:=8) Z Z (e 8 Za) Za Z;exact ym t P Zb (by rw[u];rfl) z (λd=>zN u R) (E _ ⟨c.put xb t Z,λj S=>Z8 (e j S)⟩)
  .exact(uR n (e q Za)).elim
 .let⟨c,e⟩:=i;cases c.full (V6 Zd c.len F);exact C
structure vq (W w:Wd) (c:Nat->Nat) (on:Nat->Prop):Prop where
 is:∀i,i<3->on i->W.heap.size<=c i/\c i<w.heap.size/\w.heap[c i]?=J (.chan 0 #[] false 0 0 false)
 ne:∀i j,i<3->j<3->i≠j->on i->on j->c i≠c j
theorem vq.add{W w:Wd}{j k:Nat->Prop}(h:vq W w s j)(t:W.heap.size<=w.heap.size)(d:∀q,k q->q=a\/j q):vq W (w.alloc (.chan 0 #[] false 0 0 false)) (λq=>if q=a then w.heap.size else s q) k:=by
 refine⟨λq f i=>?_,λq b f n u i o=>?_⟩
 .by_cases e:q=a
  .simp only[e,if_true];exact⟨t,by simp,cC w _⟩
  .simp only[e,if_false];let⟨z,C,D⟩:=h.is q f ((d q i).resolve_left e);exact⟨z,by simp;omega,by rw[aJ w _ _ C];exact D⟩
 .by_cases e:q=a
  .by_cases c:b=a
   .grind
   .simp only[e,c,if_true,if_false];have:=(h.is b n ((d b o).resolve_left c)).2.1;omega
  .by_cases c:b=a
   .simp only[e,c,if_true,if_false];have:=(h.is q f ((d q i).resolve_left e)).2.1;omega
   .simp only[e,c,if_false];exact h.ne q b f n u ((d q i).resolve_left e) ((d b o).resolve_left c)
theorem vq.grow{W w:Wd}{a:Nat->Prop}(h:vq W w s a)(b:Grown w k):vq W k s a :=
 ⟨λi d e=>by let⟨f,c,j⟩:=h.is i d e;exact⟨f,Zg c b.size,by rw[b.old _ c];exact j⟩,h.ne⟩
theorem Ji{a:cZ}{w:Wd}(b:t.op=.makeChan 138 (.const (Y U 0))):(Ex a.eval t).run V w=.ok (.value (.chan (J w.heap.size))) (w.alloc (.chan 0 #[] false 0 0 false))/\(Ex a.eval t).events V w #[]=#[]:=by
 unfold Ex;simp only[b];constructor
 .simp[dj,Jm]
 .simp[dj,Jm,SB]
theorem JM{w:Wd}(a:Clear w){ob:Obj}(b:Obj.nz ob):Grown w (w.alloc ob):=⟨by simp,λk c=>aJ w ob k c,(qp a.lk (o:=ob) b).1.nz⟩
theorem RN(j':tb.size=19)(k':bo=W.heap.size+3)(b0:tb[0]?=J (Po (J (O bk 0 Q))))(b1:tb[1]?=J (Y U p))(b5:tb[5]?=J (Po (J (O bx 0 Q))))(c':bx<W.heap.size)(x0:W.cell? (O bx 0 Q)=J (Y U kd))(x1:W.cell? (O bx 1 Q)=J (Y U A))(x2:W.cell? (O bx 2 Q)=J (Y U B)){k:List bh}{cs:List Fm'}(l':∀c w,Grown W w->w.heap.size=W.heap.size+4->vq W w c (λ_=>True)->w.heap[bo]?=J (.cells (vu bk p kd A B c) 141 (0,0))->∀d,l6 V true (DL g (ep l)) Stop (G ((base 49).at ⟨fill G8 (wN bk p kd A B c bo) tb,[]⟩ (.inRegion G8 []::k)) cs) (w.at d)) :
  ∀m' listed (u:cZ×Wd) P,Ord G8 m' listed P->(∃c,oU G8 (wN bk p kd A B c bo) tb listed u.1/\Grown W u.2/\u.2.heap.size=W.heap.size+cnt listed/\vq W u.2 c (λi=>listed.getD i false=true)/\(listed.getD 6 false=true->listed.getD 5 false=true)/\(listed.getD 7 false=true->∀j,j<=6->listed.getD j false=true)/\∀j,8<=j->listed.getD j false=false) ->
   ∀d,l6 V true (DL g (ep l)) Stop (G ((base 49).at u.1 (.inRegion G8 P::k)) cs) (u.2.at d):=by
 refine Cp (J:=λ(u:cZ×Wd) P=>∀d,l6 V true (DL g (ep l)) Stop (G ((base 49).at u.1 (.inRegion G8 P::k)) cs) (u.2.at d)) (λf0 listed u q P s F hO I=>?_) λlisted u z F=>?_
 .let⟨a,w⟩:=u;let⟨c,f,t,R,H,b',h7,S⟩:=F;simp only at f t R H;have y0:w.cell? (O bx 0 Q)=J (Y U kd):=(Zf (w:=W) (t.old bx c')).trans x0;have y1:w.cell? (O bx 1 Q)=J (Y U A):=(Zf (w:=W) (t.old bx c')).trans x1;have y2:w.cell? (O bx 2 Q)=J (Y U B):=(Zf (w:=W) (t.old bx c')).trans x2;have T:∀q,3<=q->q<=7->(q=6->listed.getD 5 false=true)->(q=7->∀j,j<=6->listed.getD j false=true)->∀N,oU G8 (wN bk p kd A B c bo) tb (listed.setIfInBounds q true) N->(∃c,oU G8 (wN bk p kd A B c bo) tb (listed.setIfInBounds q true) (N,w).1/\Grown W (N,w).2/\(N,w).2.heap.size=W.heap.size+cnt (listed.setIfInBounds q true)/\vq W (N,w).2 c (λi=>(listed.setIfInBounds q true).getD i false=true)/\((listed.setIfInBounds q true).getD 6 false=true->(listed.setIfInBounds q true).getD 5 false=true)/\((listed.setIfInBounds q true).getD 7 false=true->∀j,j<=6->(listed.setIfInBounds q true).getD j false=true)/\∀j,8<=j->(listed.setIfInBounds q true).getD j false=false):=λq M y' z' n' N h=>by
   refine⟨c,h,t,?_,⟨λi s b=>H.is i s (by rw[D6 Za]at b;exact b),λi j s E d' b e'=>H.ne i j s E d' (by rw[D6 Za]at b;exact b) (by rw[D6 Za]at e';exact e')⟩,λh6=>?_,λf' j E=>?_,λj E=>by rw[D6 Za];exact S j E⟩
   .unfold cnt at R ⊢;rw[D6 (show q≠0 by omega),D6 (show q≠1 by omega),D6 (show q≠2 by omega)];exact R
   .by_cases e:q=6
    .simp_all
    .rw[D6 e]at h6;exact Z8 (b' h6)
   .by_cases e:q=7
    .exact Z8 (n' e j E)
    .rw[D6 e]at f';exact Z8 (h7 f' j E)
  have o':=x9 s;have hz:G8.size=10:=by kernel_rfl
  rw[hz]at o';obtain M|rfl|rfl|rfl|rfl|rfl|rfl|rfl:(q=0\/q=1\/q=2)\/q=3\/q=4\/q=5\/q=6\/q=7\/q=8\/q=9:=by omega
  .have g':=IY s;have p':cnt (listed.setIfInBounds q true)=cnt listed+1:=by
    have hn:=zT s;unfold cnt;rcases M with rfl|rfl|rfl<;>simp only[hn,g',D6 (show 0≠1 by omega),D6 (show 0≠2 by omega),D6 (show 1≠0 by omega),D6 (show 1≠2 by omega),D6 (show 2≠0 by omega),D6 (show 2≠1 by omega),if_true,if_false,aI]<;>omega
   have h':listed.getD 7 false=false:=by
    grind
   obtain⟨o,b,n,C⟩:∃o,G8[q]?=J o/\o.op=.makeChan 138 (.const (Y U 0))/\o.guard=none:=by
    rcases M with rfl|rfl|rfl<;>exact⟨_,Z,Z,Z⟩
   have X:=JM t.clear (ob:=.chan 0 #[] false 0 0 false) mX
   have F:=(f.val (V':=wN bk p kd A B (λr=>if r=q then w.heap.size else c r) bo) (λr z=>by
    have r8:r<8:=by
     rcases bQ r 8 with h|h
     .exact h
     .rw[S r h]at z;cases z
    rcases(by omega:r=0\/r=1\/r=2\/r=3\/r=4\/r=5\/r=6\/r=7) with rfl|rfl|rfl|rfl|rfl|rfl|rfl|rfl<;>rcases M with rfl|rfl|rfl<;>first|rfl|(rw[g']at z;cases z)|(rw[h']at z;cases z))).put xb b (v:=.chan (J w.heap.size)) (by rcases M with rfl|rfl|rfl<;>rfl)
   exact λd=>GD b C Zb (λd=>(Ji n).1) (λd=>(Ji n).2) (λd=>I (_,w.alloc (.chan 0 #[] false 0 0 false)) ⟨_,F,t.trans X,by rw[p'];simp;omega,H.add t.size (λr z=>by
    by_cases e:r=q
    .exact .inl e
    .rw[D6 (aA e)]at z;exact .inr z),λh=>(by rw[D6 Za]at h ⊢;exact b' h),λh=>(by rw[D6 Za,h']at h;cases h),λr z=>by rw[D6 Za];exact S r z⟩ d) d
  .obtain⟨o,b,n,C⟩:∃o,G8[3]?=J o/\o.op=.move (.tmp 0)/\o.guard=none:=⟨_,Z,Z,Z⟩;have e0:a.eval (.tmp 0)=Po (J (O bk 0 Q)):=f.base Zd b0;exact λd=>ym b C Zb (by rw[n];rfl) t.clear (v:=Po (J (O bk 0 Q))) (λd=>X6 n e0) (λd=>I (_,w) (T 3 Za Za (λe=>by omega) (λe=>by omega) _ (f.put xb b Z)) d) d
  .obtain⟨o,b,n,C⟩:∃o,G8[4]?=J o/\o.op=.move (.tmp 1)/\o.guard=none:=⟨_,Z,Z,Z⟩;have e1:a.eval (.tmp 1)=Y U p:=f.base Zd b1;exact λd=>ym b C Zb (by rw[n];rfl) t.clear (v:=Y U p) (λd=>X6 n e1) (λd=>I (_,w) (T 4 Za Za (λe=>by omega) (λe=>by omega) _ (f.put xb b Z)) d) d
  .obtain⟨o,b,n,C⟩:∃o,G8[5]?=J o/\o.op=.load 27 (.tmp 5)/\o.guard=none:=⟨_,Z,Z,Z⟩;have e5:a.eval (.tmp 5)=Po (J (O bx 0 Q)):=f.base Zd b5;exact λd=>ym b C Zb (by rw[n];rfl) t.clear (v:=.agg #[Y U kd,Y U A,Y U B]) (λd=>by have z0:(w.at d).cell? (O bx 0 Q)=_:=y0;have z1:(w.at d).cell? (O bx 1 Q)=_:=y1;have z2:(w.at d).cell? (O bx 2 Q)=_:=y2;unfold Ex;simp only[n,e5];go_simp) (λd=>I (_,w) (T 5 Za Za (λe=>by omega) (λe=>by omega) _ (f.put xb b Z)) d) d
  .obtain⟨o,b,n,C⟩:∃o,G8[6]?=J o/\o.op=.build 92 #[(0,.tmp 13)]/\o.guard=none:=⟨_,Z,Z,Z⟩;have q':a.eval (.tmp 13)=.agg #[Y U kd,Y U A,Y U B]:=f.tmp (j:=5) Z Z (k9 s Z Zd) Za Z;exact λd=>ym b C Zb (by rw[n];rfl) t.clear (v:=.agg #[Y U kd,Y U A,Y U B,Y U 0,Y U 0]) (λd=>by unfold Ex;simp only[n,dq,cX,eE,q'];go_simp) (λd=>I (_,w) (T 6 Za Za (λ_=>k9 s Z Zd) (λe=>by omega) _ (f.put xb b Z)) d) d
  .obtain⟨o,b,n,C⟩:∃o,G8[7]?=J o/\o.op=.build 141 #[(0,.tmp 8),(1,.tmp 9),(2,.tmp 10),(3,.tmp 11),(4,.tmp 12),(5,.tmp 14)]/\o.guard=none:=⟨_,Z,Z,Z⟩;have D:∀j,j<=6->listed.getD j false=true:=λj E=>by
    obtain rfl|rfl|rfl|rfl|rfl|rfl|rfl:j=5\/j=0\/j=1\/j=2\/j=3\/j=4\/j=6:=by omega
    .exact b' (k9 s Z Zd)
    all_goals exact k9 s Z Zd
   have e8:a.eval (.tmp 8)=.chan (J (c 0)):=f.tmp (j:=0) Z Z (D 0 Za) Za Z;have e9:a.eval (.tmp 9)=.chan (J (c 1)):=f.tmp (j:=1) Z Z (D 1 Za) Za Z;have r':a.eval (.tmp 10)=.chan (J (c 2)):=f.tmp (j:=2) Z Z (D 2 Za) Za Z;have s':a.eval (.tmp 11)=Po (J (O bk 0 Q)):=f.tmp (j:=3) Z Z (D 3 Za) Za Z;have t':a.eval (.tmp 12)=Y U p:=f.tmp (j:=4) Z Z (D 4 Za) Za Z;have u':a.eval (.tmp 14)=.agg #[Y U kd,Y U A,Y U B,Y U 0,Y U 0]:=f.tmp (j:=6) Z Z (D 6 Za) Za Z;exact λd=>ym b C Zb (by rw[n];rfl) t.clear (v:=.agg (vu bk p kd A B c)) (λd=>by unfold Ex;simp only[n,dq,cX,eE,e8,e9,r',s',t',u'];go_simp;rfl) (λd=>I (_,w) (T 7 Za Za (λe=>by omega) (λ_=>D) _ (f.put xb b Z)) d) d
  .obtain⟨o,b,n,C⟩:∃o,G8[8]?=J o/\o.op=.box 141 (.tmp 15)/\o.guard=none:=⟨_,Z,Z,Z⟩;have l7:listed.getD 7 false=true:=k9 s Z Zd;have D:=h7 l7;have v':a.eval (.tmp 15)=.agg (vu bk p kd A B c):=f.tmp (j:=7) Z Z l7 Za Z;have w':w.heap.size=bo:=by
    rw[R,k'];unfold cnt
    grind
   have X:=JM t.clear (ob:=.cells (vu bk p kd A B c) 141 (0,0)) mX;have i':∀d,(Ex a.eval o).run V (w.at d)=.ok (.value (Po (J (O bo 0 Q)))) ((w.at d).alloc (.cells (vu bk p kd A B c) 141 (0,0)))/\(Ex a.eval o).events V (w.at d) #[]=#[]:=λd=>by
    unfold Ex vu at *;simp only[n,v'];constructor
    .go_simp
    .simp[go_sem]
   have F:=f.put xb b (v:=Po (J (O bo 0 Q))) Z;refine λd=>GD b C Zb (λd=>(i' d).1) (λd=>(i' d).2) (λd=>?_) d;refine Ur j' X.clear k cs (l' c _ (t.trans X) (by simp;omega) (⟨λi s _=>?_,λi j s E d' _ _=>H.ne i j s E d' (D i Za) (D j Za)⟩) ?_) _ _ _ _ hO ⟨F,λj E=>?_⟩ d
   .exact(H.grow X).is i s (D i Za)
   .rw[←w'];exact cC w _
   .have x':j<=6\/j=7\/j=8:=by omega
    rcases x' with h|rfl|rfl
    .exact Z8 (D j h)
    .exact Z8 l7
    .exact zT s
  .exact(BW s Z (j:=8) (S 8 Za) Zd).elim
 .let⟨a,w⟩:=u;let⟨c,f,t,R,H,b',h7,S⟩:=F;exact absurd (V6 Zd f.len z 8 (by show 8<10;omega)) (by grind)
end
section
open Go.Conc Go.RowKit
def Gd:jj :=
 match Tryz.f49.body with
 | some (.seq c _)=>c
 | _=>.skip
def BJ:jj :=
 match Tryz.f49.body with
 | some (.seq _ (.seq _ c))=>c
 | _=>.skip
def AZ:jj:=(Tryz.f49.body).getD .skip
theorem b4z(a x y:Vu):ay V 49 #[a,x,y] .normal=(base 49).at ⟨#[a,x,y,Ud,Ud,Ud,Ud,Ud,Ud,Ud,Ud,Ud,Ud,Ud,Ud,Ud,Ud,Ud,Ud],[]⟩ [.code AZ]:=by
 rw[enter_at (c:=AZ) _ Tryz.func49 Z];refine congrArg (λt=>(base 49).at ⟨t,[]⟩ [.code AZ]) ?_
 kernel_rfl
theorem RS:AZ=.seq Gd (.seq (.region 1 G8 true) BJ):=by
 unfold AZ Gd G8 BJ;simp only[Tryz.f49,cU]
variable{a:Kb}{l:List ng}{K:aa}{L:Nat->Option Lv}{r:Nat}{g:Nat->Option eZ}{b:Nat}{w:Wd}{f:gW->lT->Prop}
theorem c9J(E:Co a l K L r g b w)(F:0<b)(I:c<K.nS)(h A B:Int)(t:Fm')(u:List Fm')(N:∀x (C:Ctx) H i,C.slot=(c:Int)->C.kd=h->C.A=A->C.B=B->tI a C->C.o.gid=b->Co a (C.o::l) K (ai L b (J ⟨C,m7 C c,[C.o.bo],H,[R8 C.o,bot]⟩)) r i (b+1) x->Kp a L w (ai L b (J ⟨C,m7 C c,[C.o.bo],H,[R8 C.o,bot]⟩)) x->X V f (C.o::l) i (b+1) 0 (G (t.finish (pO C.o)) u) x){e:Nat}(D:Grown w k)(j:xM w.heap.size ⟨⟨b,e,s 0,s 1,s 2⟩,c,h,A,B,a.bk,a.bf,a.bs,a.bd⟩ k) :
  X V f (⟨b,e,s 0,s 1,s 2⟩::l) g b 0 (G ((base 49).at ⟨#[Po (J (O a.bk 0 Q)),Y U c,.agg #[Y U h,Y U A,Y U B],Ud,Ud,n,Po Q,Po (J (O e 0 Q)),.chan (J (s 0)),.chan (J (s 1)),.chan (J (s 2)),Po (J (O a.bk 0 Q)),Y U c,.agg #[Y U h,Y U A,Y U B],.agg #[Y U h,Y U A,Y U B,Y U 0,Y U 0],.agg (vu a.bk c h A B s),Po (J (O e 0 Q)),Ud,Ud],[]⟩ [.code BJ]) (t::u)) k:=by
 have y:∀d H i,Co a (⟨b,e,s 0,s 1,s 2⟩::l) K (ai L b (J ⟨⟨⟨b,e,s 0,s 1,s 2⟩,c,h,A,B,a.bk,a.bf,a.bs,a.bd⟩,m7 ⟨⟨b,e,s 0,s 1,s 2⟩,c,h,A,B,a.bk,a.bf,a.bs,a.bd⟩ c,[e],H,[R8 ⟨b,e,s 0,s 1,s 2⟩,bot]⟩)) r i (b+1) (k.at d)->Kp a L w (ai L b (J ⟨⟨⟨b,e,s 0,s 1,s 2⟩,c,h,A,B,a.bk,a.bf,a.bs,a.bd⟩,m7 ⟨⟨b,e,s 0,s 1,s 2⟩,c,h,A,B,a.bk,a.bf,a.bs,a.bd⟩ c,[e],H,[R8 ⟨b,e,s 0,s 1,s 2⟩,bot]⟩)) (k.at d)->X V f (⟨b,e,s 0,s 1,s 2⟩::l) i (b+1) 0 (G (t.finish (Po (J (O e 0 Q)))) u) (k.at d):=λd H i m o=>N (k.at d) ⟨⟨b,e,s 0,s 1,s 2⟩,c,h,A,B,a.bk,a.bf,a.bs,a.bd⟩ H i Z Z Z Z ⟨Z,Z,Z,Z⟩ Z m o;have hc:=D.clear;unfold BJ;simp only[Tryz.f49,pO]at *;refine u0 (st:=true) ?_;show l6 V true (DL true (ep (⟨b,e,s 0,s 1,s 2⟩::l))) _ _ (k.at k.drawn);generalize k.drawn=dz;refine B5 (λd=>?_) _;refine m8 (λd=>?_) _;simp only[rz,ix,Nat.reduceAdd];refine mo Z Z λd z p=>?_;go_simp;refine p _ _ ⟨Z,?_⟩;clear p z;refine .stop<|Wa (C:=⟨⟨b,e,s 0,s 1,s 2⟩,c,h,A,B,a.bk,a.bf,a.bs,a.bd⟩) E (D.at d) ⟨j.bo,j.ch,j.row,j.chan,j.ne⟩ ⟨Z,Z,Z,Z⟩ Z F Z I Z (λv=>(stepG_spawn (d:=dcall 88 #[pO ⟨b,e,s 0,s 1,s 2⟩]) (w':=(k.at d).at v) Z Z Zb (by simp[go_sem,Ex,resolve,lx,dcall,dj]) Z).trans (congrArg (λP=>GStep.spawn _ _ _ P) (listed_none (by simp[go_sem,Ex,resolve,lx,dj])))) λv H i m o=>?_;have R:=y v H i m o;have S:∀d,X V f (⟨b,e,s 0,s 1,s 2⟩::l) i (b+1) 0 (G (t.finish (Po (J (O e 0 Q)))) u) (k.at d):=λd=>y d H i (m.at d) (λT W=>by let⟨q,M⟩:=o T W;exact⟨⟨q.lt,q.nf,q.ns,q.nd,q.own⟩,M⟩);clear y R m o;refine u0 (st:=true) ?_;show l6 V true (DL true (ep (⟨b,e,s 0,s 1,s 2⟩::l))) _ _ (k.at v);simp only[dG];refine i8 (λd=>?_) _;refine B5 (λd=>?_) _;refine m8 (λd=>?_) _;simp only[rz,ix,Nat.reduceAdd];(iterate 2(refine mo Z Z λd z p=>?_;go_simp;refine p _ _ ⟨Z,?_⟩;clear p z));refine i8 (λd=>?_) _;refine ux (λd=>?_) _;exact Y4 (v:=Po (J (O e 0 Q))) Z Z Tryz.func49 (kF (t:=6) Z _) (w:=k) (λd=>.stop (S d)) _
theorem RA(o:Co a l K L r g b w)(h0:0<b)(hp:c<K.nS)(k A B:Int){z:Fm'}(E:∀F (C:Ctx) H T,C.slot=(c:Int)->C.kd=k->C.A=A->C.B=B->tI a C->C.o.gid=b->Co a (C.o::l) K (ai L b (J ⟨C,m7 C c,[C.o.bo],H,[R8 C.o,bot]⟩)) r T (b+1) F->Kp a L w (ai L b (J ⟨C,m7 C c,[C.o.bo],H,[R8 C.o,bot]⟩)) F->X V f (C.o::l) T (b+1) 0 (G (z.finish (pO C.o)) y) F) :
  X V f l g b 0 (G (ay V 49 #[Po (J (O a.bk 0 Q)),Y U c,.agg #[Y U k,Y U A,Y U B]] .normal) (z::y)) w:=by
 have c':∀W,Grown w W->W.heap[w.heap.size]?=J (.cells #[Y U k,Y U A,Y U B] 27 (0,0))->W.heap.size=w.heap.size+1->∀d,X V f l g b 0 (G ((base 49).at ⟨#[Po (J (O a.bk 0 Q)),Y U c,.agg #[Y U k,Y U A,Y U B],Ud,Ud,Po (J (O w.heap.size 0 Q)),Po Q,Ud,Ud,Ud,Ud,Ud,Ud,Ud,Ud,Ud,Ud,Ud,Ud],[]⟩ [.code (.region 1 G8 true),.code BJ]) (z::y)) (W.at d):=by
  intro W q I M d;have N:∀(j:Nat) (x:Vu),(#[dL .i64 k,Y U A,Y U B]:Array Vu)[j]?=J x->W.cell? (O w.heap.size j Q)=J x:=λj x h=>by simp only[aC,I];simpa using h
  refine d1n (W.heap.size+3) (by show W.heap.size<=_;omega)<|Mi (st:=false) (λe=>by cases e) ?_;show l6 V true (DL false (ep l)) _ _ (W.at d);refine BO (λt d=>?_) d;refine RN (bk:=a.bk) (bx:=w.heap.size) (bo:=W.heap.size+3) (p:=c) (kd:=k) (A:=A) (B:=B) (W:=W) (tb:=#[Po (J (O a.bk 0 Q)),Y U c,.agg #[Y U k,Y U A,Y U B],Ud,Ud,Po (J (O w.heap.size 0 Q)),Po Q,Ud,Ud,Ud,Ud,Ud,Ud,Ud,Ud,Ud,Ud,Ud,Ud]) Z Z Z Z Z Za (N 0 _ Z) (N 1 _ Z) (N 2 _ Z) (λm w2 d' h' D f' d=>?_) _ _ (⟨#[Po (J (O a.bk 0 Q)),Y U c,.agg #[Y U k,Y U A,Y U B],Ud,Ud,Po (J (O w.heap.size 0 Q)),Po Q,Ud,Ud,Ud,Ud,Ud,Ud,Ud,Ud,Ud,Ud,Ud,Ud],[]⟩,W) _ (xZ Zd G8 t) ⟨λ_=>0,oU.start _ _ _,Grown.refl q.clear,?_,⟨λi p h=>?_,λi j p hj i' h=>?_⟩,λh=>?_,λh=>?_,λj _=>W4 _ _⟩ d
  .generalize j':W.heap.size+3=n at *;rw[show fill G8 (wN a.bk c k A B m n) #[Po (J (O a.bk 0 Q)),Y U c,.agg #[Y U k,Y U A,Y U B],Ud,Ud,Po (J (O w.heap.size 0 Q)),Po Q,Ud,Ud,Ud,Ud,Ud,Ud,Ud,Ud,Ud,Ud,Ud,Ud]=#[Po (J (O a.bk 0 Q)),Y U c,.agg #[Y U k,Y U A,Y U B],Ud,Ud,Po (J (O w.heap.size 0 Q)),Po Q,Po (J (O n 0 Q)),.chan (J (m 0)),.chan (J (m 1)),.chan (J (m 2)),Po (J (O a.bk 0 Q)),Y U c,.agg #[Y U k,Y U A,Y U B],.agg #[Y U k,Y U A,Y U B,Y U 0,Y U 0],.agg (vu a.bk c k A B m),Po (J (O n 0 Q)),Ud,Ud] from by kernel_rfl];refine i8 (λd=>?_) _;refine .stop ?_;have g':w.heap.size<=n:=by omega
   have hN:xM w.heap.size ⟨⟨b,n,m 0,m 1,m 2⟩,c,k,A,B,a.bk,a.bf,a.bs,a.bd⟩ (w2.at d):=by
    have P:=λi p=>D.is i p mX;refine⟨g',⟨by grind,by grind,by grind⟩,⟨141,f'⟩,λx E=>?_,D.ne 0 1 Za Za Za mX mX,D.ne 0 2 Za Za Za mX mX,D.ne 1 2 Za Za Za mX mX⟩;rcases E with rfl|rfl|rfl
    .exact(P 0 Za).2.2
    .exact(P 1 Za).2.2
    .exact(P 2 Za).2.2
   refine d0y ⟨b,n,m 0,m 1,m 2⟩ hN.ko (λi s x p R e=>?_) (c9J o h0 hp k A B z y E ((q.trans d').at d) hN)
   by_cases ei:i=0
   .subst ei;have:=o.pE s x p R
    grind
   .have e':n=x:=e;rcases o.Cs ei p with⟨u,hu,rfl⟩|hf
    case inr=>have:=((o.rV i s hf).2.2.2 x R).1;omega
    have:=o.oX hu (c:=x) (by rcases U6 R with h|h;exact .inl h;exact .inr (.inr h));omega
  .show W.heap.size=W.heap.size+cnt _;unfold cnt;rw[W4,W4,W4];rfl
  .rw[W4]at h;cases h
  .rw[W4]at h;cases h
  .rw[W4]at h;cases h
  .rw[W4]at h;cases h
 rw[b4z,RS];unfold Gd;simp only[Tryz.f49];refine u0 (st:=true) ?_;show l6 V true (DL true (ep l)) _ _ (w.at w.drawn);generalize w.drawn=dz;have hc:=o.env.fit.clear;refine B5 (λd=>?_) _;refine m8 (λd=>?_) _;simp only[rz,ix,Nat.reduceAdd];refine B9 Z Z Zb (λd S v=>?_) _;go_simp;refine v _ _ ⟨zh λe he=>?_,?_⟩
 .have hm:=cA he;simp[go_sem]at hm
 clear v S;refine Kc mX hc λW q I M d=>?_;have k':=q.clear;refine mo Z Z λd S v=>?_;go_simp;refine v _ _ ⟨Z,?_⟩;clear v S;refine i8 (λd=>?_) _;refine B5 (λd=>?_) _;exact .stop (c' W q I M _)
end
section
open Go.Conc Go.RowKit
attribute [local go_sem ↓] Go.wp_at_zero Go.wp_at_succ
structure Lb where
 bl:Nat
 bu:Nat
 bn:Nat
def rQ:Option ng->Vu
 | none=>Po Q
 | some o=>pO o
def px(w:Wd)(b n:Nat)(f:Nat->Vu):Prop:=∃c t,w.heap[b]?=J (.cells c t (0,0))/\c.size=n/\∀p,p<n->c[p]?=J (f p)
theorem px.cell(h:px k a b A){p:Nat}(e:p<b):k.cell? (O a p Q)=J (A p):=by
 let⟨c,t,d,f,g⟩:=h;simp only[aC,d]
 grind
theorem px.of(h:px k a b A)(e:l.heap[a]?=k.heap[a]?):px l a b A:=by
 let⟨c,t,d,f,g⟩:=h;exact⟨c,t,by rw[e];exact d,f,g⟩
theorem px.lt(h:px k a b A):a<k.heap.size:=by
 let⟨c,t,d,e,f⟩:=h
 grind
structure qM (w:Wd) (b:Lb) (bk n B0:Nat) (U:Nat->Option ng) (V:Nat->Vu) (N:Nat->Nat) (Xs:Nat->List Vu):Prop where
 k0:w.cell? (O b.bl 0 Q)=J (Po (J (O bk 0 Q)))
 k1:w.cell? (O b.bl 1 Q)=J (Sc (J (O b.bu 0 Q)) n n)
 k2:w.cell? (O b.bl 2 Q)=J (Sc (J (O b.bn 0 Q)) n n)
 u:px w b.bu n (λp=>rQ (U p))
 d:px w b.bn n V
 own:∀p,p<n->w.ownsRow B0 92 5 (V p) (N p) (Xs p)
 pC:∀p q,p<n->q<n->p≠q->(V p).ownBlock=Q\/(V p).ownBlock≠(V q).ownBlock
 ne:b.bl≠b.bu/\b.bl≠b.bn/\b.bu≠b.bn/\b.bl<B0/\b.bu<B0/\b.bn<B0
 small:n<=6
theorem JN(v:Wd)(a c n:Nat)(s:Int)(f:v.cell? (O a 1 Q)=J (Sc (J (O c 0 Q)) n n)) :
  aF V 48 #[Po (J (O a 0 Q)),Y U s] v λe d=>e=.returned (Bo (decide (0<=s)&&decide (s<n)))/\d=v:=by
 go_enter iF,Tryz.ntmps48
 by_cases b:0<=s
 .have e:(decide (0<=s)&&decide (s<(n:Int)))=decide (s<(n:Int)):=by simp[b]
  rw[e]
  go_wp2_with fail
  go_ret
  exact⟨Z,Z⟩
 .have e:(decide (0<=s)&&decide (s<(n:Int)))=false:=by simp[b]
  rw[e]
  go_wp2_with fail
  go_ret
  exact⟨Z,Z⟩
end
section
open Go.Conc Go.RowKit
def oG(a A B e x:Int):List dM:=[Y U a,Y U A,Y U B,Y U e,Y U x]
structure Mw (kb:Kb) (l:List ng) (L:Nat->Option Lv) (w:Wd) (k:Nat):Prop where
 mn:Mn kb L w k
 bk:k≠kb.bk
 oq:k≠0
 rc:∀o∈l,o.bo≠k
variable{kb:Kb}{l:List ng}{K:aa}{L:Nat->Option Lv}{r:Nat}{z:Nat->Option eZ}{y:Nat}{w w':Wd}
theorem Co.soft(a:Co kb l K L r z y w):∀k,w.heap.size<=k->ep l k=0:=λk c=>U7 λo b e=>by have:=KO.lt a.env.ko b;omega
theorem Co.wrote(a:Co kb l K L r z y w)(u:w.heap.size<=w'.heap.size)(D:Clear w')(b:∀k,k<w.heap.size->¬Mw kb l L w k->w'.heap[k]?=w.heap[k]?):Co kb l K L r z y w':=by
 have R:=a.env.rep;have S:w'.heap[kb.bk]?=w.heap[kb.bk]?:=b _ R.lk λh=>h.bk Z;have B:w'.heap[kb.bf]?=w.heap[kb.bf]?:=b _ R.lf λh=>h.mn.nf Z;have T:w'.heap[kb.bs]?=w.heap[kb.bs]?:=b _ R.ls λh=>h.mn.ns Z;have W:w'.heap[kb.bd]?=w.heap[kb.bd]?:=b _ R.ld λh=>h.mn.nd Z;have F:w'.heap[0]?=w.heap[0]?:=b _ a.env.oq.lt λh=>h.oq Z;have j:∀o∈l,w'.heap[o.bo]?=w.heap[o.bo]?:=λo j=>b _ (KO.lt a.env.ko j) λh=>h.rc o j Z
 have E:vL kb l K w':=⟨R.same u (λk _ h=>by rcases h with rfl|rfl|rfl|rfl<;>assumption),a.env.oq.same F,a.env.inv,⟨λi m=>by
  obtain⟨o,x,rfl⟩:=GJ m;let⟨c,t,h⟩:=a.env.fit.soft _ m
  exact⟨c,t,by rw[j o x];exact h⟩,D⟩,λo x=>by
  let⟨c,t,p,q⟩:=a.env.ko o x
  exact⟨c,t,by rw[j o x];exact p,q⟩,a.env.ap⟩
 refine⟨E,a.top,a.gid,a.rq,λg v d=>?_,a.wait,a.qj,a.none,λs c p q=>Zg (a.pE s c p q) u,λg v d c e=>?_,a.ql,a.pk,a.apart,λg s B=>by
  let⟨H,I,N,C⟩:=a.rV g s B
  exact⟨H,I,N,λc e=>⟨Zg (C c e).1 u,(C c e).2⟩⟩,Zh a.rK.1 u,a.rK.2⟩
 .let⟨f,n,A⟩:=a.at_ g v d;exact⟨f,n,A.other ((a.rq g v d).env E) λi m=>b i (A.lt m) λh=>(h.mn.own g v d).1 m⟩
 .let⟨⟨P,k,p⟩,q⟩:=a.chan g v d c e;exact⟨⟨P,k,by rw[b c (a.oX d e) λh=>(h.mn.own g v d).2 e];exact p⟩,q⟩
theorem Mn.grow(h:Mn kb L w a)(b:w.heap.size<=w'.heap.size):Mn kb L w' a:=⟨Zg h.lt b,h.nf,h.ns,h.nd,h.own⟩
theorem Mw.grow(h:Mw kb l L w a)(b:w.heap.size<=w'.heap.size):Mw kb l L w' a:=⟨h.mn.grow b,h.bk,h.oq,h.rc⟩
theorem Co.new(a:Co kb l K L r z y w){k:Nat}(i:w.heap.size<=k)(c:k<w'.heap.size):Mw kb l L w' k:=by
 have R:=a.env.rep;have j:kb.bk<w.heap.size:=R.lk;have m:kb.bf<w.heap.size:=R.lf;have n:kb.bs<w.heap.size:=R.ls;have p:kb.bd<w.heap.size:=R.ld;have q:0<w.heap.size:=a.env.oq.lt;exact⟨⟨c,by omega,by omega,by omega,λg v b=>⟨λd=>by have:=a.rA b d;omega,λf=>by have:=a.oX b f;omega⟩⟩,by omega,by omega,λo h e=>by have:=KO.lt a.env.ko h;omega⟩
theorem Mw.sf(h:Mw kb l L w a):ep l a=0:=U7 h.rc
theorem Hi(h:a<=4398046511104):aR (a+1) a*40<=281474976710656:=by
 have:aR (a+1) a<=7036874417766:=by
  unfold aR;split
  .omega
  .split
   .omega
   .rw[growBy_four]
    repeat' split
    all_goals omega
 omega
structure oQ (kb:Kb) (l:List ng) (L:Nat->Option Lv) (w:Wd) (b:Lb) (n B0:Nat) (U:Nat->Option ng) (V:Nat->Vu) (N:Nat->Nat) (Xs:Nat->List Vu):Prop where
 is:qM w b kb.bk n B0 U V N Xs
 qt:Mw kb l L w b.bl
 qo:Mw kb l L w b.bu
 qU:Mw kb l L w b.bn
 qJ:∀p,p<n->∀g,(V p).ownBlock=J g->Mw kb l L w g
 b0:B0<=b.bl+1
structure oD (kb:Kb) (l:List ng) (L:Nat->Option Lv) (w:Wd) (b:Lb) (n B0:Nat) (U:Nat->Option ng) (V:Nat->Vu) (N:Nat->Nat) (Xs:Nat->List Vu):Prop where
 m:oQ kb l L w b n B0 U V N Xs
 live:∀p,p<n->∀o,U p=J o->∃v,L o.gid=J v/\v.C.o=o/\v.C.slot=p
theorem qM.same{w w':Wd}{e:Lb}{d:Nat->Option ng}{i:Nat->List Vu}(h:qM w e a b c d A s i)(f:w'.heap[e.bl]?=w.heap[e.bl]?)(k:w'.heap[e.bu]?=w.heap[e.bu]?)(m:w'.heap[e.bn]?=w.heap[e.bn]?)(n:∀p,p<b->∀g,(A p).ownBlock=J g->w'.heap[g]?=w.heap[g]?):qM w' e a b c d A s i :=
 ⟨(Zf (w:=w) f).trans h.k0,(Zf (w:=w) f).trans h.k1,(Zf (w:=w) f).trans h.k2,h.u.of k,h.d.of m,λp j=>j5 (h.own p j) (n p j),h.pC,h.ne,h.small⟩
variable{b:Lb}{n I:Nat}{H:Nat->Option ng}{E:Nat->Vu}{N:Nat->Nat}{P:Nat->List Vu}
theorem oQ.grown(h:oQ kb l L w b n I H E N P)(g:Grown w w'):oQ kb l L w' b n I H E N P :=
 ⟨h.is.same (g.old _ h.qt.mn.lt) (g.old _ h.qo.mn.lt) (g.old _ h.qU.mn.lt) λp a x c=>g.old _ (h.qJ p a x c).mn.lt,h.qt.grow g.size,h.qo.grow g.size,h.qU.grow g.size,λp a x c=>(h.qJ p a x c).grow g.size,h.b0⟩
theorem oD.grown(h:oD kb l L w b n I H E N P)(g:Grown w w'):oD kb l L w' b n I H E N P:=⟨h.m.grown g,h.live⟩
theorem Mw.kp{c:Nat->Option Lv}(h:Mw kb l L w a)(d:Kp kb L w c w'):Mw kb l c w' a:=⟨(d a h.mn).1,h.bk,h.oq,h.rc⟩
theorem oQ.turn{e:Nat->Option Lv}(h:oQ kb l L w b n I H E N P)(a:Kp kb L w e w'):oQ kb l e w' b n I H E N P :=
 ⟨h.is.same (a _ h.qt.mn).2 (a _ h.qo.mn).2 (a _ h.qU.mn).2 λp c x d=>(a _ (h.qJ p c x d).mn).2,h.qt.kp a,h.qo.kp a,h.qU.kp a,λp c x d=>(h.qJ p c x d).kp a,h.b0⟩
def pW(H:Nat->Option ng)(p:Nat):Nat->Option ng:=λq=>if q=p then Q else H q
def pN(E:Nat->q)(p:Nat)(x:q):Nat->q:=λa=>if a=p then x else E a
def rJ(b:Lb)(E:Nat->Vu)(p k:Nat):Prop:=k=b.bu\/k=b.bn\/(E p).ownBlock=J k
def rO(H:Nat->Option ng)(p:Nat)(o:ng):Nat->Option ng:=λq=>if q=p then J o else H q
theorem Mw.born{c:Nat->Option Lv}{C:Ctx}{d:Lv}(h:Mw kb l L w a)(g:Kp kb L w c w')(i:c y=J d)(j:C.o.bo∈d.pv):Mw kb (C.o::l) c w' a :=
 ⟨(g a h.mn).1,h.bk,h.oq,λo f e=>by
  rcases ae.1 f with rfl|f
  .exact((g a h.mn).1.own y d i).1 (e▸j)
  .exact h.rc o f e⟩
theorem oQ.born{n:Nat}{e:Nat->Option Lv}{C:Ctx}{g:Lv}(h:oQ kb l L w b n I H E N P)(a:Kp kb L w e w')(d:e y=J g)(c:C.o.bo∈g.pv):oQ kb (C.o::l) e w' b n I H E N P :=
 ⟨h.is.same (a _ h.qt.mn).2 (a _ h.qo.mn).2 (a _ h.qU.mn).2 λp c x f=>(a _ (h.qJ p c x f).mn).2,h.qt.born a d c,h.qo.born a d c,h.qU.born a d c,λp i x f=>(h.qJ p i x f).born a d c,h.b0⟩
theorem px.put{b n:Nat}{w w':Wd}(h:px w b n A)(g:∃c t,w'.heap[b]?=J (.cells c t (0,0))/\c.size=n)(i:w'.cell? (O b a Q)=J o)(j:∀q,q≠a->w'.cell? (O b q Q)=w.cell? (O b q Q)):px w' b n (λq=>if q=a then o else A q):=by
 let⟨c,t,f,k⟩:=g;have e:∀q,w'.cell? (O b q Q)=c[q]?:=λq=>by simp[aC,f]
 refine⟨c,t,f,k,λq m=>?_⟩;rw[←e]
 by_cases d:q=a
 .subst d;simpa using i
 .simp only[mY d];rw[j q d];exact h.cell m
variable{C:Nat->Nat}{R:Bool}
theorem Dr(c:Fit C w)(d:∀k,w.heap.size<=k->C k=0):yX C [] 0 [] [] w:=⟨λe f=>(by cases f),λi a=>(by cases a),λi j a=>(by cases a),λi _ a=>(by cases a),c,d⟩
theorem Ki{f n:Nat}(j:Fit C w)(m:∀k,w.heap.size<=k->C k=0)(g:w.cell? (O a 1 Q)=J (Sc (J (O f 0 Q)) n n))(s:Int):oL R C 48 #[Po (J (O a 0 Q)),Y U s] w λx w'=>x=Bo (decide (0<=s)&&decide (s<(n:Int)))/\nC C [] w w':=by
 have o:a<w.heap.size:=aK _ _ g;refine y7 (sz:=16) (ρ:=[]) (m:=[]) (W:=[]) (ro:=0) [.c (.v (Po (J (O a 0 Q)))),.c (.v (Y U s))] (Dr j m) (λs h=>?_) iF Z Z Z λStop u v A M i=>?_
 .simp only[ae,aj,or_false]at h;rcases h with rfl|rfl<;>trivial
 refine ia 9 0 [] M Z Z mX λB D p=>?_;have d:=p.oo 0 [0,1,7] Z Z
 cases e:decide (0<=s) with
 | false =>
  rw[e]at d;refine ia 200 0 [] d Z Z mX λq t c=>A9 c iF Z Z Z<|i _ _ ⟨by rw[e];rfl,c.hJ⟩
 | true =>
  rw[e]at d;refine ia 200 0 [[Sc (J (O f 0 Q)) n n]] d Z Z ⟨mX,⟨o,by simp,g⟩⟩ λq t c=>A9 c iF Z Z Z<|i _ _ ⟨by rw[e];rfl,c.hJ⟩
variable{v:Lv}
theorem TJ{T:List Vu}(W:Co kb l K L r z y w)(d:oQ kb l L w b n I H E N P){B:Nat}(p:a<n)(c':∀q,q<n->q≠a->∀o,H q=J o->∃v,L o.gid=J v/\v.C.o=o/\v.C.slot=q)(m:w.heap.size<=k.heap.size)(D:∀i,i<w.heap.size->i≠b.bu->i≠b.bn->(E a).ownBlock≠J i->k.heap[i]?=w.heap[i]?)(d':px k b.bu n (λq=>if q=a then Po Q else rQ (H q)))(f':px k b.bn n (λq=>if q=a then Sc (J (O c 0 Q)) (N a+1) B else E q))(G:k.ownsRow I 92 5 (Sc (J (O c 0 Q)) (N a+1) B) (N a+1) (P a++T))(M:(E a).ownBlock=J c\/w.heap.size<=c) :
  Co kb l K L r z y k/\oD kb l L k b n I (pW H a) (pN E a (Sc (J (O c 0 Q)) (N a+1) B)) (pN N a (N a+1)) (pN P a (P a++T)):=by
 let⟨g',h',l',m',n',p'⟩:=d.is.ne;have F:∀q,q<n->∀x,(E q).ownBlock=J x->x≠b.bu/\x≠b.bn/\x≠b.bl:=λq f x g=>by have:=(j8 (d.is.own q f) g).1;exact⟨by omega,by omega,by omega⟩
 have i':Co kb l K L r z y k:=W.wrote m mX λi h0 h=>D i h0 (λe=>h (e▸d.qo)) (λe=>h (e▸d.qU)) λe=>h (d.qJ a p i e);have S:k.heap[b.bl]?=w.heap[b.bl]?:=D _ d.qt.mn.lt g' h' λe=>(F a p _ e).2.2 Z;have j':c<k.heap.size:=(j8 G Z).2;refine⟨i',?_⟩;refine⟨⟨⟨(Zf (w:=w) S).trans d.is.k0,(Zf (w:=w) S).trans d.is.k1,(Zf (w:=w) S).trans d.is.k2,?_,f',λq f=>?_,λq t f X a'=>?_,d.is.ne,d.is.small⟩,d.qt.grow m,d.qo.grow m,d.qU.grow m,λq f x g=>?_,d.b0⟩,λq f o' u=>?_⟩
 .let⟨k',t',a1,a2,a3⟩:=d';refine⟨k',t',a1,a2,λq f=>?_⟩;rw[a3 q f]
  by_cases e:q=a
  .simp only[pW,e,if_true];rfl
  .simp only[pW,e,if_false]
 .by_cases e:q=a
  .subst e;simp only[pN,if_true];exact G
  .simp only[pN,e,if_false];refine j5 (d.is.own q f) λx g=>D x (d.qJ q f x g).mn.lt (F q f x g).1 (F q f x g).2.1 λh=>?_;rcases d.is.pC q a f p e with j|j
   .rw[g]at j;cases j
   .exact j (g.trans h.symm)
 .have b':∀q,q<n->q≠a->(E q).ownBlock≠J c:=λq f e h=>by
   rcases M with j|j
   .rcases d.is.pC q a f p e with A|A
    .rw[h]at A;cases A
    .exact A (h.trans j.symm)
   .have:=(d.qJ q f c h).mn.lt;omega
  by_cases e:q=a
  .have s:t≠a:=λh=>a' (e.trans h.symm);simp only[pN,e,s,if_true,if_false];exact .inr (λh=>b' t X s h.symm)
  .by_cases s:t=a
   .simp only[pN,e,s,if_true,if_false];exact .inr (b' q f e)
   .simp only[pN,e,s,if_false];exact d.is.pC q t f X a'
 .by_cases e:q=a
  .simp only[pN,e,if_true]at g;obtain rfl:c=x:=Ze g;rcases M with h|h
   .exact(d.qJ a p c h).grow m
   .exact W.new Za j'
  .simp only[pN,e,if_false]at g;exact(d.qJ q f x g).grow m
 .by_cases e:q=a
  .simp only[pW,e,if_true]at u;cases u
  .simp only[pW,e,if_false]at u;exact c' q f e o' u
theorem DJ:oY 88 92 5 40:=⟨by kernel_rfl,by kernel_rfl⟩
def ZR:List bh:=match Tryz.f21.body with
 | some (.seq _ (.seq _ (.seq _ (.seq _ (.seq _ (.seq _ (.seq r e)))))))=>[.code r,.code e]
 | _=>[]
variable{S:Nat}{i:Fm'}{R:List Fm'}{Stop:Gr->Wd->Prop}
theorem c5A{b':cZ}{T:Nat}{kd A B er va:Int}(X:a<n)(f:qM w b S n I H E N P)(hN:N a<=4398046511104)(sf:∀g,(g=b.bn\/(E a).ownBlock=J g)->C g=0)(hB:I<=w.heap.size)(l':w.rangeAt T 5 (oG kd A B er va))(u':(E a).ownBlock≠J T)(M:fx C [] 0 w [] [] 47 [(0,.c (.v (Po (J (O b.bl 0 Q))))),(1,.c (.v (Y U a))),(6,.c (.v (Po (J (O T 0 Q)))))] b' w)(hx:∀w' g c,w.heap.size<=w'.heap.size->Fit C w'->(∀k,k<w.heap.size->k≠b.bn->(E a).ownBlock≠J k->w'.heap[k]?=w.heap[k]?)->px w' b.bn n (λq=>if q=a then Sc (J (O g 0 Q)) (N a+1) c else E q)->w'.ownsRow I 92 5 (Sc (J (O g 0 Q)) (N a+1) c) (N a+1) (P a++oG kd A B er va)->((E a).ownBlock=J g\/w.heap.size<=g)->iv V true true C Stop (G (i.finish (.tuple #[Bo true,Y U 0])) R) w'):iv V true true C Stop (G ((base 21).at b' ZR) (i::R)) w:=by
 have n6:=f.small;obtain⟨ne1,ne2,ne3,m',lb2,v'⟩:=f.ne;have ol:∀g,(E a).ownBlock=J g->I<=g/\g<w.heap.size/\C g=0:=λg m=>⟨(j8 (f.own a X) m).1,(j8 (f.own a X) m).2,sf g (.inr m)⟩
 have x':T<w.heap.size:=aK _ _ (l' 0 _ Z);have n':b.bl<w.heap.size:=aK _ _ f.k2;have o':=f.d.lt;have j':∀k,k<I->k∉(E a).ownBlock.toList:=λk p t=>by
  cases e:(E a).ownBlock with
  | none=>rw[e]at t;cases t
  | some g=>rw[e]at t;obtain rfl:=Zi t;have:=(ol _ e).1;omega
 have Mr:=M.oZ (W':=(E a).ownBlock.toList) Zc;generalize g':w.alloc (.cells (oG kd A B er va).toArray 92 (0,0))=W;have A1:nC C [] w W:=by rw[←g'];exact nC.alloc M.fit _
 have n1:W.heap[w.heap.size]?=J (.cells (oG kd A B er va).toArray 92 (0,0)):=by rw[←g'];exact cC _ _
 have s1:W.heap.size=w.heap.size+1:=by rw[←g'];simp
 have M1:=Mr.still A1;have M2:∀ {w':Wd} {g c:Nat},Cn I C W w' (E a) (N a+1) (P a++oG kd A B er va) g c->fx C (E a).ownBlock.toList 0 w [] [] 47 _ b' w':=λ{w' g c} u=>M1.to u.size (λj hj=>(by cases hj)) (λk p hn=>u.old k Za λm=>hn (by rw[m];simp)) u.fit;refine uU (V:=(λD=>[J (.c (.v (Po (J (O b.bl 0 Q))))),J (.c (.v (Po (J (O b.bl 0 Q))))),J (.c (.v (Po (J (O b.bl 2 Q))))),J (.c (.v (Sc (J (O b.bn 0 Q)) n n))),J (.c (.v (Y U a))),J (.c (.v (Po (J (O b.bl 0 Q))))),J (.c (.v (Po (J (O b.bl 0 Q))))),J (.c (.v (Po (J (O b.bl 2 Q))))),J (.c (.v (Sc (J (O b.bn 0 Q)) n n))),J (.c (.v (Y U a))),J (.c (.v (Po (J (O b.bn (0+(a:Int).toNat*1) Q))))),J (.c (.v (E a))),J (.c (.v (Po (J (O T 0 Q))))),J (.c (.v (Po (J (O T 0 Q))))),J (.c (.v (Po (J (O T 5 Q))))),J (.g [.v (Y U kd),.v (Y U A),.v (Y U B),.v (Y U er),.v (Y U va)]),D 0,D 1,J (.c (.v (Po (J (O b.bn (0+(a:Int).toNat*1) Q))))),D 2])) (C':=(((((True/\so w (E a).ownBlock.toList (O b.bl 2 Q) (Sc (J (O b.bn 0 Q)) n n))/\so w (E a).ownBlock.toList (O b.bl 2 Q) (Sc (J (O b.bn 0 Q)) n n))/\(0<=(a:Int)/\(a:Int)<n))/\so w (E a).ownBlock.toList (O b.bn (0+(a:Int).toNat*1) Q) (E a))/\vA w (E a).ownBlock.toList T 5 [Y U kd,Y U A,Y U B,Y U er,Y U va])/\(0<=(a:Int)/\(a:Int)<n)) [(16,Q),(17,Q),(19,Q)] [[Sc (J (O b.bn 0 Q)) n n],[Sc (J (O b.bn 0 Q)) n n],[E a],[Y U kd,Y U A,Y U B,Y U er,Y U va]] true (λs D y' w'=>y'=[]/\((s=0/\w'=w)\/(s=1/\w'=W/\D 0=J (.c (.v (Sc (J (O w.heap.size 0 Q)) 1 1))))\/(s=2/\∃g c,Cn I C W w' (E a) (N a+1) (P a++oG kd A B er va) g c/\D 1=J (.c (.v (Sc (J (O g 0 Q)) (N a+1) c))))\/(s=3/\∃g c wm,Cn I C W wm (E a) (N a+1) (P a++oG kd A B er va) g c/\nC C [b.bn] wm w'/\px w' b.bn n (λq=>if q=a then Sc (J (O g 0 Q)) (N a+1) c else E q)))) Mr Z (λ_=>by kernel_rfl) (λ_=>by kernel_rfl) Z Zd ⟨⟨⟨⟨⟨⟨mX,⟨n',j' _ m',f.k2⟩⟩,⟨n',j' _ m',f.k2⟩⟩,by omega⟩,⟨o',j' _ v',by simpa using f.d.cell X⟩⟩,⟨x',λt=>u' (by cases e:(E a).ownBlock with|none=>rw[e]at t;cases t|some g=>rw[e]at t;rw[Zi t]),l'⟩⟩,by omega⟩ (λs D p' w' a' z' d h1 h2=>?_) ⟨Z,.inl ⟨Z,Z⟩⟩ (λs j g F D o a' w' p' rest ho d Ma rd hn=>?_) λD p' a10 q' d A' B'=>?_
 .obtain⟨he,d⟩:=d;obtain rfl:=Zk he;rcases d with⟨_,rfl⟩|⟨_,rfl,_⟩|⟨_,g,c,u,_⟩|⟨rfl,_⟩
  .exact Mr.bare h1 h2
  .exact M1.bare h1 h2
  .exact(M2 u).bare h1 h2
  .exact absurd (z' Z) (iA 3)
 .obtain⟨he,d⟩:=d;obtain rfl:=Zk he
  match s,F with
  | 0,F =>
   obtain⟨rfl,rfl⟩:=ax (Ze F);rcases d with⟨_,rfl⟩|⟨h,_⟩|⟨h,_⟩|⟨h,_⟩
   case inr.inl=>cases h
   case inr.inr.inl=>cases h
   case inr.inr.inr=>cases h
   obtain rfl:=Ze ho;refine Cx (cells:=oG kd A B er va) DJ ⟨by simp[oG],by simp[oG]⟩ Z Z Z (rd _ _ Z) Z ?_;rw[g'];exact hn [] W (J (.c (.v (Sc (J (O w'.heap.size 0 Q)) 1 1)))) ⟨by simp,.inr (.inl ⟨Z,Z,Z⟩)⟩ (.inl Z) (λsv h=>by obtain rfl:=Ze h;trivial)
  | 1,F =>
   obtain⟨rfl,rfl⟩:=ax (Ze F);rcases d with⟨h,_⟩|⟨_,rfl,hx0⟩|⟨h,_⟩|⟨h,_⟩
   case inl=>cases h
   case inr.inr.inl=>cases h
   case inr.inr.inr=>cases h
   obtain rfl:=Ze ho;refine Ek (V:=E a) (cells:=oG kd A B er va) DJ Z (λu hu=>?_) Za (Hi hN) Z Z Z (rd (.tmp 39) (.c (.v (E a))) Z) (rd (.tmp 44) _ hx0) n1 (M.new _ M.size) (j5 (f.own a X) λg m=>A1.old g (ol g m).2.1 Zc) (λg m=>(ol g m).2.2) Za A1.fit (λk p=>M.new k Za) λg c w2 q1 q2 q3 q4 q5 q6=>?_
   .simp only[oG,ae,aj,or_false]at hu;rcases hu with rfl|rfl|rfl|rfl|rfl<;>rfl
   .exact hn [] w2 (J (.c (.v (Sc (J (O g 0 Q)) (N a+1) c)))) ⟨by simp,.inr (.inr (.inl ⟨Z,g,c,⟨q1,q2,q3,q4,q5.imp_right (·.1),q6⟩,Z⟩))⟩ (.inl Z) (λsv h=>by obtain rfl:=Ze h;trivial)
  | 2,F =>
   obtain⟨rfl,rfl⟩:=ax (Ze F);rcases d with⟨h,_⟩|⟨h,_⟩|⟨_,g,c,u,H'⟩|⟨h,_⟩
   case inl=>cases h
   case inr.inl=>cases h
   case inr.inr.inr=>cases h
   obtain rfl:=Ze ho;have K':(E a).ownBlock≠J b.bn:=λm=>by have:=(ol _ m).1;omega
   have r2:px w' b.bn n E:=f.d.of ((u.old _ Za K').trans (A1.old _ o' Zc));obtain⟨c0,t0,r',M',N'⟩:=id r2;refine zu (b:=b.bn) (p:=a) (cells:=[Sc (J (O g 0 Q)) (N a+1) c]) Ma.lv Z Z Z Z r' (sf _ (.inl Z)) Ma.fit ((rd (.tmp 46) _ Z).trans (by simp[Sv.den,nI.den])) (rd (.tmp 45) _ H') Z Z (λv hv=>?_) (λq hq=>?_) λw2 s1 s2 s3 s4 s5 s6=>?_
   .obtain rfl:=Zi hv;rfl
   .obtain rfl:q=0:=Zm hq;simp[aC,r',N' a X]
   .obtain⟨c',W',X'⟩:=s3;exact hn [] w2 Q ⟨by simp,.inr (.inr (.inr ⟨Z,g,c,w',u,⟨by omega,λk _ p=>s2 k (by simpa using p),s6⟩,px.put r2 ⟨c',t0,W',X'.trans M'⟩ (s4 0 _ Z) λq hq=>s5 q (by simp;omega)⟩))⟩ (.inl Z) (λsv h=>by cases h)
  | s+3,F=>simp at F
 .obtain⟨he,d⟩:=d;obtain rfl:=Zk he;rcases d with⟨h,_⟩|⟨h,_⟩|⟨h,_⟩|⟨_,g,c,wm,u,f',s'⟩
  .cases h
  .cases h
  .cases h
  have M3:=((M.re A' B').oo 0 [] Z Z).nQ [] Z f'.fit λk p=>M.new k (by have:=u.size;have:=f'.size;omega);refine ia 200 0 [] M3 Z Z mX λa12 t' h'=>?_;refine A9 h' iy Z Z Z ?_;have k':∀k,k<q'.heap.size->t'.heap[k]?=q'.heap[k]?:=λk p=>h'.old k p Zc;have us:=u.size;have ls:=f'.size;have gl:=(j8 u.row (g:=g) Z).2;have gb:=(j8 u.row (g:=g) Z).1;have z12:=h'.size;refine hx t' g c Za h'.fit (λk p h1 h2=>?_) (s'.of (k' _ s'.lt)) (j5 u.row λx hx=>?_) (u.og.imp_right λh=>by omega)
  .rw[k' k Za,f'.old k Za (by simpa using h1),u.old k Za h2,A1.old k p Zc]
  .obtain rfl:g=x:=Ze hx;rw[k' g Za,f'.old g gl (by simp;omega)]
variable{S:gW->lT->Prop}
theorem nC.grown{C:Nat->Nat}{w w':Wd}(F:nC C [] w w'):Grown w w':=⟨F.size,λk a=>F.old k a Zc,mX⟩
theorem CH(co:Co kb l K L (r+1) z y w){n:Nat}(hn:K.nS=n)(lm:oD kb l L w b n I H E N P)(hN:∀p,p<n->N p<=4398046511104)(hu1:∀p q o,p<n->q<n->H p=J o->H q=J o->p=q)(s:Int)(i:Fm')(R:List Fm')(X':(decide (0<=s)&&decide (s<(n:Int)))=false->∀w',Grown w w'->X V S l z y 0 (G (i.finish (.tuple #[Bo false,Y U 3])) R) w')(hnil:∀p:Nat,s=p->p<n->H p=Q->∀w',Grown w w'->X V S l z y 0 (G (i.finish (.tuple #[Bo false,Y U 11])) R) w')(hmore:∀(p:Nat) (v:Lv),s=p->p<n->H p=J v.C.o->v.C.slot=p->L v.C.o.gid=J v->∀w' v' D,v'.C=v.C->v'.S=(λ_=>(v.turn K).2)->(∃n a b c,(v.turn K).2 []=.call n a b c)->Co kb l (v.turn K).1 (ai L v.C.o.gid (J v')) r D y w'->Kp kb L w (ai L v.C.o.gid (J v')) w'->oD kb l (ai L v.C.o.gid (J v')) w' b n I H E N P->X V S l D y 0 (G (i.finish (.tuple #[Bo false,Y U 0])) R) w')(hover:∀(p:Nat) (v:Lv),s=p->p<n->H p=J v.C.o->v.C.slot=p->L v.C.o.gid=J v->∀w' D h' i' g q',(v.turn K).2 []=.done h' i'->(∀k,Mn kb L w k->¬rJ b E p k->k≠g)->Co kb l (v.turn K).1 (ai L v.C.o.gid Q) r D y w'->(∀k,Mn kb L w k->¬rJ b E p k->Mn kb (ai L v.C.o.gid Q) w' k/\w'.heap[k]?=w.heap[k]?)->oD kb l (ai L v.C.o.gid Q) w' b n I (pW H p) (pN E p (Sc (J (O g 0 Q)) (N p+1) q')) (pN N p (N p+1)) (pN P p (P p++oG v.C.kd v.C.A v.C.B i' h'))->X V S l D y 0 (G (i.finish (.tuple #[Bo true,Y U 0])) R) w') :
  X V S l z y 0 (G (ay V 21 #[Po (J (O b.bl 0 Q)),Y U s] .normal) (i::R)) w:=by
 subst hn;have B':b.bl<w.heap.size:=aK _ _ lm.m.is.k1;refine tF (AX (ρ:=[]) (W:=[]) (ro:=0) (m:=[]) (sz:=47) [.c (.v (Po (J (O b.bl 0 Q)))),.c (.v (Y U s))] (Dr co.env.fit co.soft) (λs hs=>?_) iy Z Z Z λa M=>?_)
 .simp only[ae,aj,or_false]at hs;rcases hs with rfl|rfl<;>trivial
 refine ia 200 0 [] M Z Z mX λa1 w1 M1=>?_;have lm1:=lm.grown M1.hJ.grown;refine A4 M1 (Ki M1.fit (co.grown M1.hJ.grown).soft lm1.m.is.k1 s) Z Z Z iF Z Z Z Z Z λx w2 T=>?_;obtain⟨rfl,F2⟩:=T;refine E3 (M1.still F2) 0 (.c (.v (Bo (decide (0<=s)&&decide (s<(K.nS:Int)))))) Z Z Z Z Z λa3 M3=>ia 200 0 [] M3 Z Z mX λa4 w4 M4=>?_
 cases hb:(decide (0<=s)&&decide (s<(K.nS:Int))) with
 | false =>
  refine nV M4 Z (by rw[hb];rfl)<|ia 200 0 [] M4 Z Z mX λa5 w5 M5=>A9 M5 iy Z Z Z λd=>.stop (X' hb _ (M5.hJ.grown.at d))
 | true =>
  refine nR M4 Z (by rw[hb];rfl) ?_;simp only[aB,decide_eq_true_eq]at hb;obtain⟨p,rfl⟩:=cT hb.1;have hp:p<K.nS:=by omega
  have cu:=lm.m.is.u.cell hp
  cases hU:H p with
  | none =>
   rw[hU]at cu;refine ia 200 0 [[Sc (J (O b.bu 0 Q)) K.nS K.nS],[Po Q]] M4 Z Z ⟨⟨⟨mX,⟨B',by simp,lm.m.is.k1⟩⟩,by omega⟩,⟨lm.m.is.u.lt,by simp,by simpa[rQ] using cu⟩⟩ λa5 w5 M5=>vD (op:=.binOp .eql 133 (.tmp 18) (.const (Po Q)) 133) (.c (.v (Bo true))) M5 Z Z Z Zd Z Z Z mX (λo u ho hu=>?_) λa6 M6=>?_
   .have e:=(M5.rd (x:=.tmp 18) (s:=.c (.v (Po Q))) Z).1;unfold Ex;simp only[ho,e];rfl
   refine ia 200 0 [] M6 Z Z mX λa7 w7 M7=>nV M7 Z Z<|ia 200 0 [] M7 Z Z mX λa8 w8 M8=>A9 M8 iy Z Z Z λd=>.stop (hnil p Z hp hU _ (M8.hJ.grown.at d))
  | some o =>
   obtain⟨v,hv,rfl,r'⟩:=lm.live p hp o hU;rw[hU]at cu;refine ia 200 0 [[Sc (J (O b.bu 0 Q)) K.nS K.nS],[Po (J (O v.C.o.bo 0 Q))]] M4 Z Z ⟨⟨⟨mX,⟨B',by simp,lm.m.is.k1⟩⟩,by omega⟩,⟨lm.m.is.u.lt,by simp,by simpa[rQ] using cu⟩⟩ λa5 w5 M5=>vD (op:=.binOp .eql 133 (.tmp 18) (.const (Po Q)) 133) (.c (.v (Bo false))) M5 Z Z Z Zd Z Z Z mX (λo u ho hu=>?_) λa6 M6=>?_
   .have e:=(M5.rd (x:=.tmp 18) (s:=.c (.v (Po (J (O v.C.o.bo 0 Q))))) Z).1;unfold Ex;simp only[ho,e];rfl
   refine ia 200 0 [] M6 Z Z mX λa7 w7 M7=>nR M7 Z Z<|ia 200 0 [] M7 Z Z mX λa8 w8 M8=>?_;have g8:=M8.hJ.grown;have co8:=co.grown g8;have lm8:=lm.grown g8;have F':v.C.o∈l:=by let⟨f,m,A⟩:=co.at_ _ v hv;exact A.mem
   have kg:∀ {L' w'},Kp kb L w8 L' w'->Kp kb L w L' w':=λ{L' w'} kp k hm=>by
    let⟨m1,m2⟩:=kp k (hm.grow g8.size);exact⟨m1,m2.trans (g8.old k hm.lt)⟩
   refine wX (vs:=[Po (J (O v.C.o.bo 0 Q))]) (Post:=λx w' e=>(x=Bo true/\∃v' D,e=(ep l,X V S l D y 0)/\v'.C=v.C/\v'.S=(λ_=>(v.turn K).2)/\(∃n a b c,(v.turn K).2 []=.call n a b c)/\Co kb l (v.turn K).1 (ai L v.C.o.gid (J v')) r D y w'/\Kp kb L w8 (ai L v.C.o.gid (J v')) w')\/(x=Bo false/\∃D h' i',e=(ep l,X V S l D y 0)/\(v.turn K).2 []=.done h' i'/\Co kb l (v.turn K).1 (ai L v.C.o.gid Q) r D y w'/\Kp kb L w8 (ai L v.C.o.gid Q) w'/\∃t free un go,w'.heap[v.C.o.bo]?=J (.cells (R0 v.C i' h' free un go) t (0,0)))) M8 (λfr' cs' F=>λd=>.stop (Z2 (co8.at d) hv fr' cs' (λw' v' D h1 h2 h3 h4 h5=>tF (F _ w' (ep l,X V S l D y 0) (.inl ⟨Z,v',D,Z,h1,h2,h3,h4,λk F=>h5 k ⟨F.lt,F.nf,F.ns,F.nd,F.own⟩⟩))) λw' D h' i' h1 h2 h3 h4=>tF (F _ w' (ep l,X V S l D y 0) (.inr ⟨Z,D,h',i',Z,h1,h2,λk F=>h3 k ⟨F.lt,F.nf,F.ns,F.nd,F.own⟩,h4⟩)))) Z Z Z lK Z Z Z Z λx w9 e T=>?_;rcases T with⟨rfl,v',D,rfl,h1,h2,h3,h4,h5⟩|⟨rfl,D,h',i',rfl,h1,co9,h5,row⟩
   .have M9:=(M8.got (D:=21) Z (.c (.v (Bo true))) mX (x:=Bo true) Z Z).nQ [21] Z h4.env.fit h4.soft;refine ia 200 0 [] M9 Z Z mX λa10 w10 l'=>nV l' Z Z<|ia 200 0 [] l' Z Z mX λa11 s' g'=>A9 g' iy Z Z Z λd=>.stop ?_;have u':=g'.hJ.grown.at d;have kp:Kp kb L w (ai L v.C.o.gid (J v')) (s'.at d):=λk hm=>by
     let⟨m1,m2⟩:=kg h5 k hm;exact⟨m1.grow u'.size,(u'.old k m1.lt).trans m2⟩
    refine hmore p v Z hp hU r' hv _ v' D h1 h2 h3 (h4.grown u') kp ⟨lm.m.turn kp,λq T o' x'=>?_⟩;let⟨u,b1,b2,b3⟩:=lm.live q T o' x'
    by_cases eg:o'.gid=v.C.o.gid
    .rw[eg,hv]at b1;cases Ze b1;exact⟨v',by rw[eg,aH],by rw[h1];exact b2,by rw[h1];exact b3⟩
    .exact⟨u,by rw[az _ _ eg];exact b1,b2,b3⟩
   .have M9:=(M8.got (D:=21) Z (.c (.v (Bo false))) mX (x:=Bo false) Z Z).nQ [0,1,6,21] Z co9.env.fit co9.soft;have B:=lm8.m.turn h5;refine ia 200 0 [] M9 Z Z mX λa10 w10 l'=>nR l' Z Z ?_;have K':b.bl<w9.heap.size:=aK _ _ B.is.k1;refine ia 200 0 [[Sc (J (O b.bu 0 Q)) K.nS K.nS]] l' Z Z ⟨⟨mX,⟨K',by simp,B.is.k1⟩⟩,by omega⟩ λa11 s' g'=>?_;have n':=B.grown g'.hJ.grown;have e11:∀k,k<w9.heap.size->s'.heap[k]?=w9.heap[k]?:=λk F=>g'.old k F Zc;have z11:=g'.hJ.size;let⟨ne1,ne2,M',lb1,lb2,lb3⟩:=B.is.ne;have N':∀q,q<K.nS->∀x,(E q).ownBlock=J x->x≠b.bu/\x≠b.bn:=λq T x W=>by have:=(j8 (B.is.own q T) W).1;exact⟨by omega,by omega⟩
    let⟨c0,t0,O',hz0,hc0⟩:=id n'.is.u;refine zu (b:=b.bu) (p:=p) (cells:=[Po Q]) g'.lv Z Z Z Z O' n'.qo.sf g'.fit ((g'.rd (x:=.tmp 27) Z).1.trans (by simp[Sv.den,nI.den])) Z Z Z (λv hv=>?_) (λq T=>?_) λw12 s1 s2 s3 s4 s5 s6=>?_
    .cases Zi hv;rfl
    .obtain rfl:q=0:=Zm T;simp[aC,O',hc0 p hp]
    let⟨c',hb',hs'⟩:=s3;have u12:=px.put n'.is.u ⟨c',t0,hb',hs'.trans hz0⟩ (s4 0 _ Z) λq T=>s5 q (by simp;omega);have M12:=g'.nQ [0,1,6] Z s6 λk F=>g'.new k Za;refine ia 2 0 [] M12 Z Z mX λa13 y' p'=>?_;have z13:=p'.hJ.size;have m':∀k,k<w9.heap.size->k≠b.bu->y'.heap[k]?=w9.heap[k]?:=λk F hn=>by rw[p'.old k Za Zc,s2 k hn,e11 k F]
    have Q':=u12.of (p'.old _ (by have:=n'.is.u.lt;omega) Zc);have llu:=B.is.u.lt;have lln:=B.is.d.lt;have z':=λo=>Zf (w:=w9) (w':=y') (a:=(O b.bl o Q)) (m' _ K' ne1)
    have lis:qM y' b kb.bk K.nS I (pW H p) E N P:=⟨(z' 0).trans B.is.k0,(z' 1).trans B.is.k1,(z' 2).trans B.is.k2,by
     let⟨c,t',b1,b2,b3⟩:=Q';refine⟨c,t',b1,b2,λq T=>(b3 q T).trans ?_⟩;unfold pW
     by_cases e:q=p
     .simp[e,rQ]
     .simp[e],B.is.d.of (m' _ lln (aA M')),λq T=>j5 (B.is.own q T) λx W=>m' x (j8 (B.is.own q T) W).2 (N' q T x W).1,B.is.pC,B.is.ne,B.is.small⟩
    let⟨t,f1,f2,f3,R'⟩:=row;have lbo:v.C.o.bo<w9.heap.size:=(Zj R').1;refine c5A (B:=v.C.B) (er:=i') (va:=h') (A:=v.C.A) (kd:=v.C.kd) hp lis (hN p hp) (λg hg=>?_) (by have:=B.b0;omega) (λj x W=>?_) (λe=>(B.qJ p hp _ e).rc _ F' Z) p'.nm λw' g q' q1 q2 q3 q4 q5 q6=>λd=>.stop ?_
    .rcases hg with rfl|hg
     .exact B.qU.sf
     .exact(B.qJ p hp g hg).sf
    .rw[Zf (w:=w9) (m' _ lbo (B.qo.rc _ F'))];simp only[aC,R'];have hcs:j=0\/j=1\/j=2\/j=3\/j=4\/5<=j:=by omega
     rcases hcs with rfl|rfl|rfl|rfl|rfl|h
     .simpa[oG,R0] using W
     .simpa[oG,R0] using W
     .simpa[oG,R0] using W
     .simpa[oG,R0] using W
     .simpa[oG,R0] using W
     .rw[eX (by simp[oG];omega)]at W;cases W
    .have k2:∀k,k<w9.heap.size->k≠b.bu->k≠b.bn->(E p).ownBlock≠J k->w'.heap[k]?=w9.heap[k]?:=λk F h1 h2 h3=>(q3 k Za h2 h3).trans (m' k F h1);have hlv:∀q,q<K.nS->q≠p->∀o',H q=J o'->∃u,ai L v.C.o.gid Q o'.gid=J u/\u.C.o=o'/\u.C.slot=q:=λq T e o' x'=>by
      let⟨u,b1,b2,b3⟩:=lm.live q T o' x';have eg:o'.gid≠v.C.o.gid:=λeg=>by
       rw[eg,hv]at b1;cases Ze b1;rw[r']at b3;exact e (by exact_mod_cast b3.symm)
      exact⟨u,by rw[az _ _ eg];exact b1,b2,b3⟩
     let⟨coE,lmE⟩:=TJ co9 B hp hlv Za k2 (Q'.of (q3 _ Za M' λe=>(N' p hp _ e).1 Z)) q4 q5 (q6.imp_right λh=>by omega)
     .have gd:Grown w' (w'.at d):=⟨af _,λ_ _=>rfl,mX⟩;refine hover p v Z hp hU r' hv (w'.at d) D h' i' g q' h1 (λk hm W e=>?_) (coE.grown gd) (λk hm W=>?_) (lmE.grown gd)
      .subst e;rcases q6 with q|q
       .exact W (.inr (.inr q))
       .have:=(kg h5 k hm).1.lt;omega
      .let⟨m1,m2⟩:=kg h5 k hm;exact⟨m1.grow (by show w9.heap.size<=w'.heap.size;omega),(k2 k m1.lt (λe=>W (.inl e)) (λe=>W (.inr (.inl e))) λe=>W (.inr (.inr e))).trans m2⟩
end
section
theorem NT(a:List Int){i j:Nat}(b:i<a.length)(c:j<a.length)(k:Nat):(U8 a i j).getD k 0=if k=j then a.getD i 0 else if k=i then a.getD j 0 else a.getD k 0:=by
 unfold U8
 grind
theorem Me(a:List Int){i j:Nat}(b:i<a.length)(c:j<a.length):(U8 a i j).Perm a:=by
 unfold U8
 grind
theorem Yk(d:List Int)(e:c≠a)(f:c≠b):(U8 d a b)[c]?=d[c]?:=by
 unfold U8
 grind
theorem Ju:∀(f:Nat) (a:List Int) (i n:Nat),n<=a.length->i<n\/n=0->(W9 f a i n).Perm a/\∀k,n<=k->(W9 f a i n)[k]?=a[k]?
 | 0,a,i,n,_,_=>⟨.refl _,λ_ _=>rfl⟩
 | f+1,a,i,n,hn,hi=>by
  unfold W9
  by_cases b:n<=2*i+1
  .grind
  rw[mY b];generalize l:(if 2*i+2<n/\a.getD (2*i+2) 0<a.getD (2*i+1) 0 then 2*i+2 else 2*i+1)=j;have c:j<n/\j≠i:=by
   grind
  simp only
  by_cases d:a.getD j 0<a.getD i 0
  .rw[mZ d];let⟨e,g⟩:=Ju f (U8 a i j) j n (by rw[xF];exact hn) (.inl c.1);refine⟨e.trans (Me a Za Za),λk h=>?_⟩;rw[g k h];exact Yk a Za Za
  grind
theorem U1(x:Int)(r:List Int):(pD (x::r)).Perm r:=by
 have b:(x::r).length - 1=r.length:=by simp
 unfold pD;rw[b];have s0:(U8 (x::r) 0 r.length).length=r.length+1:=by rw[xF];rfl
 let⟨c,d⟩:=Ju (x::r).length (U8 (x::r) 0 r.length) 0 r.length Za Za;have f:=c.trans (Me (x::r) (i:=0) (j:=r.length) Zc Zc);have h:(W9 (x::r).length (U8 (x::r) 0 r.length) 0 r.length)[r.length]?=J x:=by
  rw[d _ (af _)];unfold U8
  grind
 generalize W9 (x::r).length (U8 (x::r) 0 r.length) 0 r.length=a at *;have i:a.length=r.length+1:=by have:=f.length_eq;simpa using this
 have e:a=a.take r.length++[x]:=by
  apply List.ext_getElem?
  grind
 have g:(x::a.take r.length).Perm (x::r):=by
  grind
 exact g.cons_inv
def yh(a:List Int)(n:Nat):Prop:=∀k,0<k->k<n->a.getD ((k - 1) / 2) 0<=a.getD k 0
theorem b7q:∀(f:Nat) (a:List Int) (i n:Nat),n<=a.length->n<=f+i->(∀k,0<k->k<n->(k - 1) / 2≠i->a.getD ((k - 1) / 2) 0<=a.getD k 0)->(∀k,0<i->0<k->k<n->(k - 1) / 2=i->a.getD ((i - 1) / 2) 0<=a.getD k 0)->yh (W9 f a i n) n:=by
 intro f
 induction f with
 | zero=>intro a i n l t e m k b c;exact e k b c Za
 | succ f u =>
  intro a i n l t e m;unfold W9
  by_cases o:n<=2*i+1
  .rw[mZ o];intro k b c;exact e k b c Za
  rw[mY o];generalize d:(if 2*i+2<n/\a.getD (2*i+2) 0<a.getD (2*i+1) 0 then 2*i+2 else 2*i+1)=j;have v:(j=2*i+1\/j=2*i+2)/\j<n/\∀k,0<k->k<n->(k - 1) / 2=i->a.getD j 0<=a.getD k 0:=by
   split at d
   .rename_i h;subst d;refine⟨.inr Z,h.1,λk b c p=>?_⟩;obtain rfl|rfl:k=2*i+1\/k=2*i+2:=by omega
    .omega
    .omega
   .rename_i h;subst d;refine⟨.inl Z,by omega,λk b c p=>?_⟩;obtain rfl|rfl:k=2*i+1\/k=2*i+2:=by omega
    .omega
    .omega
  let⟨z,w,A⟩:=v;show yh (if a.getD j 0<a.getD i 0 then W9 f (U8 a i j) j n else a) n
  by_cases q:a.getD j 0<a.getD i 0
  .rw[mZ q];have g:=NT a (i:=i) (j:=j) Za Za;refine u _ j n (by rw[xF];exact l) Za (λk b c x=>?_) λk d b c p=>?_
   .rw[g,g,mY x]
    by_cases r:k=j
    .subst r;rw[mZ Z,mZ Za];omega
    rw[mY r]
    by_cases s:(k - 1) / 2=i
    .rw[mZ s,mY Za];grind
    rw[mY s]
    by_cases y:k=i
    .subst y;rw[mZ Z];exact m j b Za w Za
    grind
   .rw[g,g,mY Za,mZ Za,mY Za,mY Za]
    grind
  .rw[mY q];intro k b c
   grind
theorem Tt{b:List Int}(h:yh b b.length):yh (pD b) (pD b).length:=by
 cases b with
 | nil=>intro k a c;simp[pD]at c
 | cons x r =>
  have d:(x::r).length - 1=r.length:=by simp
  rw[Ag,d];have e:=b7q (x::r).length (U8 (x::r) 0 r.length) 0 r.length (by rw[xF];simp) Zc (λk a c f=>?_) λk a=>absurd a Za
  .intro k a c;have:=e k a c;unfold pD
   grind
  .have g:=NT (x::r) (i:=0) (j:=r.length) Zc Zc;rw[g,g,mY Za,mY f,mY Za,mY Za];exact h k a (by simp;omega)
theorem XD(h:yh i i.length):∀(n k:Nat),k<=n->k<i.length->i.getD 0 0<=i.getD k 0:=by
 intro n
 induction n with
 | zero=>grind
 | succ n b =>
  intro k c a
  by_cases d:k=0
  .grind
  .have:=h k Za a
   grind
structure qZ (xs ys:List Int):Prop where
 heap:yh xs xs.length
 perm:xs.Perm ys
 up:ys.Pairwise (· < ·)
theorem qZ.head(h:qZ (d::i) (e::j)):d=e:=by
 have b:e∈d::i:=h.perm.mem_iff.2 (ao ..);have c:d∈e::j:=h.perm.mem_iff.1 (ao ..);let⟨k,f,a⟩:=List.mem_iff_getElem.1 b;have g:=XD h.heap k k (af _) f;have l:(d::i).getD 0 0=d:=Z;have m:(d::i).getD k 0=e:=by grind
 rw[l,m]at g;rcases ae.1 c with a|a
 .exact a
 .have:=List.rel_of_pairwise_cons h.up a;omega
theorem qZ.pop(h:qZ (d::i) (e::j)):qZ (pD (d::i)) j:=by
 have a:=h.head;subst a;exact⟨Tt h.heap,(U1 d i).trans h.perm.cons_inv,(List.pairwise_cons.1 h.up).2⟩
theorem qZ.nil(h:qZ [] (d::i)):False:=by have:=h.perm.length_eq;simp at this
theorem Nj(K:aa)(n:Nat):qZ (E9 K n) (E9 K n):=by
 have up:(E9 K n).Pairwise (· < ·):=by
  unfold E9;refine List.Pairwise.map _ (λa b h=>?_) (mK _ List.pairwise_lt_range)
  grind
 refine⟨λk d c=>?_,.refl _,up⟩;have:=List.pairwise_iff_getElem.1 up ((k - 1) / 2) k Za c Za
 grind
structure vZ (num x e:Int):Prop where
 zero:e≠0->x=0
 yield:num=1->e=0\/e=3
 no:num=2\/num=13->x=0
def xT(s:j6)(h:List (Int×Int)):Prop:=∀d x e g,h=d++(x,e)::g->∀f a b c,s d=.call f a b c->vZ f x e
def pz(h:List (Int×Int)):Prop:=∀x∈h,x.2≠3
def pF(s t:j6):Prop:=∀h,xT s h->pz h->s h=t h/\∀x d a b c,s h=.call d a b c->vZ d x 3->s (h++[(x,3)])=.done 0 3
theorem vH{b i:Int×Int->Bool->j6}(v:b (0,3) true []=.done 0 3)(h:∀x a,vZ d x a->a≠3->pF (b (x,a) false) (i (x,a) false)):pF ((E5 d e f g).then false b) ((E5 d e f g).then false i):=by
 intro w j l
 cases w with
 | nil =>
  refine⟨Z,λx m n o p q c=>?_⟩;cases c.zero Zb;exact v
 | cons z t =>
  let⟨x,a⟩:=z;have r:a≠3:=l _ (ao ..);have c:vZ d x a:=j [] x a t Z d e f g Z;have A:∀(k:Int×Int->Bool->j6) u,((E5 d e f g).then false k) ((x,a)::u)=k (x,a) false u:=λk u=>by
   show k (x,a) (a==3) u=_;rw[show(a==3)=false by simpa using r]
  let⟨H,I⟩:=h x a c r t (λs B C D E m n o p q=>j ((x,a)::s) B C D (by rw[E];rfl) m n o p ((A b s).trans q)) λy F=>l y (ah _ F)
  grind
theorem uJ(v e:Int)(g:e≠0->v=0)(h:e=0->v=d):pF (λ_=>.done v e) (λ_=>.done (if e=0 then d else 0) e):=λi _ _=>⟨by
 grind,λx j a b c f=>by cases f⟩
theorem CQ{a:Int->Bool->j6}{b:Int×Int->Bool->j6}(c:a 3 true []=.done 0 3)(h:∀r,pF (a d false) (b (r,0) false)):pF ((sx d).then false a) ((E5 1 0 0 0).then false b):=by
 unfold sx;rw[M.fi];refine vH c λr e f g=>?_;obtain rfl:e=0:=(f.yield Z).resolve_right g;exact h r
def G9(e:Int)(d:Bool)(a b c:Int):List Int->M ((Int×Int)×List Int×List Int)
 | []=>(E5 1 0 0 0).bind λr=>M.pure ((r.1,10),[],[])
 | f::r=>(E5 e a (if d then b else f) (if d then f else c)).bind λz=>if z.2=5 then G9 e d a b c r else M.pure (z,r,f::r)
theorem qZ.none(h:qZ i []):i=[]:=dI h.perm.length_eq
variable{l a c:Int}{d:Int×List Int->Bool->j6}{m:(Int×Int)×List Int×List Int->Bool->j6}
theorem FH(i:∀f,d (3,f) true []=.done 0 3)(h:∀x e f k n,e≠3->(e=10\/vZ l x e)->(e=0->qZ f k)->(e≠0->e≠10->qZ f n)->pF (d (e,f) false) (m ((x,e),k,n) false)) :
  ∀(o f:List Int),qZ f o->∀b g,pF ((wh l f.length a b c f).then false d) ((G9 l false a g c o).then false m)
 | [],f,hf,b,g=>by
  obtain rfl:=hf.none;unfold G9;show pF (((sx 10).bind _).then false d) _;rw[M.fi,M.fi];exact CQ (i _) λr=>h r 10 _ _ _ Zb (.inl Z) (λe=>absurd e Zb) (λ_ e=>absurd Z e)
 | y::t,f,hf,b,g=>by
  cases f with
  | nil=>exact hf.nil.elim
  | cons x r =>
   have p:=hf.pop;have s:=Ag (x::r);obtain rfl:=hf.head;unfold G9;show pF (((E5 l a x c).bind _).then false d) (((E5 l a x c).bind _).then false m);rw[M.fi,M.fi];refine vH (i _) λz e u v=>?_
   by_cases q:e=5
   .subst q;have:=FH i h t _ p x g;rw[s]at this;exact this
   .simp only[mY q];refine h z e _ t _ v (.inr u) (λj=>?_) λj _=>?_
    .rw[mZ j];exact p
    .rw[mY j];exact hf
theorem KG{b:Int}(i:∀f,d (3,f) true []=.done 0 3)(h:∀x e f k n,e≠3->(e=10\/vZ l x e)->(e=0->qZ f k)->(e≠0->e≠10->qZ f n)->pF (d (e,f) false) (m ((x,e),k,n) false)) :
  ∀(o f:List Int),qZ f o->∀c g,pF ((Au l f.length a b c f).then false d) ((G9 l true a b g o).then false m)
 | [],f,hf,c,g=>by
  obtain rfl:=hf.none;unfold G9;show pF (((sx 10).bind _).then false d) _;rw[M.fi,M.fi];exact CQ (i _) λr=>h r 10 _ _ _ Zb (.inl Z) (λe=>absurd e Zb) (λ_ e=>absurd Z e)
 | y::t,f,hf,c,g=>by
  cases f with
  | nil=>exact hf.nil.elim
  | cons x r =>
   have p:=hf.pop;have s:=Ag (x::r);obtain rfl:=hf.head;unfold G9;show pF (((E5 l a b x).bind _).then false d) (((E5 l a b x).bind _).then false m);rw[M.fi,M.fi];refine vH (i _) λz e u v=>?_
   by_cases q:e=5
   .subst q;have:=KG (b:=b) i h t _ p x g;rw[s]at this;exact this
   .simp only[mY q];refine h z e _ t _ v (.inr u) (λj=>?_) λj _=>?_
    .rw[mZ j];exact p
    .rw[mY j];exact hf
def tA(b:aa):Nat->Nat->List Int->M (Int×(Int×Int)×List Int)
 | 0,_,ys=>(E5 1 0 0 0).bind λr=>M.pure (0,(r.1,10),ys)
 | f+1,i,ys=>if b.S i 0=0 then(G9 5 false i 0 0 ys).bind λz=>if z.1.2=7 then tA b f (i+1) z.2.2 else M.pure ((i:Int),z.1,z.2.1) else tA b f (i+1) ys
theorem HU(j:aa){d:(Int×Int)×List Int->Bool->j6}{m:Int×(Int×Int)×List Int->Bool->j6}(k:∀x b,d ((x,3),b) true []=.done 0 3)(h:∀i x e b g,e≠3->(e=0->qZ b g)->pF (d ((i,e),b) false) (m (i,(x,e),g) false)) :
  ∀(f i:Nat) (b g:List Int),qZ b g->pF ((tX j f i b).then false d) ((tA j f i g).then false m)
 | 0,i,b,g,hf=>by
  unfold tX tA;rw[M.fi,M.fi];exact CQ (k _ _) λr=>h 0 r 10 _ _ Zb (λe=>absurd e Zb)
 | f+1,i,b,g,hf=>by
  unfold tX tA
  by_cases n:j.S i 0=0
  .rw[mZ n,mZ n,M.fi,M.fi];refine FH (λb=>k _ _) (λx e t u v p w q s=>?_) g b hf _ _
   by_cases o:e=7
   .subst o;exact HU j k h f (i+1) _ _ (s Zb Zb)
   .simp only[mY o];exact h _ x e _ _ p q
  .rw[mY n,mY n];exact HU j k h f (i+1) _ _ hf
variable{child:Int}
theorem AP:∀(b:List Int) (h:List (Int×Int)),rm l child b true h=.inr ((),true,h)
 | [],h=>rfl
 | p::b,h=>AP b h
theorem Vk(b e:List Int)(h:List (Int×Int)):J5 child b e true h=.inr ((0,3),true,h):=by
 unfold J5 M.bind;rw[AP];simp only[AP];rfl
theorem Hk{d m:Unit->Bool->j6}(f:d () true []=.done 0 3)(h:pF (d () false) (m () false)):∀b:List Int,pF ((rm l child b).then false d) ((rm l child b).then false m)
 | []=>h
 | p::b=>by
  unfold rm;rw[M.fi,M.fi];refine vH ?_ λx e _ _=>Hk f h b;show((rm l child b).then true d) []=_;unfold M.then;rw[AP];exact f
theorem Og{d m:Int×Int->Bool->j6}(f:d (0,3) true []=.done 0 3)(h:∀x e,vZ 12 x e->e≠3->pF (d (x,e) false) (m (x,e) false))(g b:List Int):pF ((J5 child g b).then false d) ((J5 child g b).then false m):=by
 unfold J5;simp only[M.fi];refine Hk ?_ (Hk f (vH f h) b) g;show((rm 11 child b).then true _) []=_;unfold M.then;rw[AP];exact f
def hF(f:Nat->Int):Nat->Nat->List Int
 | 0,_=>[]
 | n+1,j=>if f j=-1 then hF f n (j+1) else(j:Int)::hF f n (j+1)
theorem IX(f:Nat->Int):∀n j,hF f n j=((gR j n).filter λj=>f j != -1).map Int.ofNat
 | 0,j=>rfl
 | n+1,j=>by
  unfold hF;rw[IX f n (j+1),List.range'_succ]
  grind
theorem Nr(f:Nat->Int)(n:Nat):I7 f n=hF f n 0:=by rw[IX,I7,List.range_eq_range']
def uE(child:Int)(f:Nat->Int):Nat->Nat->List Int->List Int->M (Int×List Int)
 | 0,_,_,acc=>M.pure (0,acc)
 | n+1,j,ys,acc=>if f j=-1 then uE child f n (j+1) ys acc else(G9 6 true child j 0 ys).bind λz=>if z.1.2=0 then uE child f n (j+1) z.2.1 (acc++[(j:Int)]) else M.pure (z.1.2,acc)
def uP(child:Int)(f:Nat->Int):Nat->Nat->List Int->M (Int×List Int)
 | 0,_,acc=>M.pure (0,acc)
 | n+1,j,acc=>if f j=-1 then uP child f n (j+1) acc else(E5 7 child j j).bind λz=>if z.2=0 then uP child f n (j+1) (acc++[(j:Int)]) else M.pure (z.2,acc)
theorem NV(h:i.drop b=e::j):i.take b++[e]=i.take (b+1)/\i.drop (b+1)=j:=by
 have g:b<i.length:=by
  rcases bQ b i.length with f|f
  .exact f
  .rw[eK f]at h;cases h
 rw[dQ g]at h;injection h with k n
 rw[←k];exact⟨by rw[List.take_add_one,bj g];rfl,n⟩
theorem Ik{child:Int}{f:Nat->Int}{P:List Int}{d:(Nat×Int)×List Int->Bool->j6}{m:Int×List Int->Bool->j6}(o:∀i b,d ((i,3),b) true []=.done 0 3)(h:∀i e b,e≠3->pF (d ((i,e),b) false) (m (e,P.take i) false)) :
  ∀(n j i:Nat) (b g:List Int),qZ b g->P.drop i=hF f n j->pF ((wE child (hF f n j) i b).then false d) ((uE child f n j g (P.take i)).then false m)
 | 0,j,i,b,g,hf,hp=>h i 0 b Zb
 | n+1,j,i,b,g,hf,hp=>by
  unfold hF uE at *
  by_cases k:f j=-1
  .rw[mZ k]at hp ⊢;rw[mZ k];exact Ik o h n (j+1) i b g hf hp
  .rw[mY k]at hp ⊢;let⟨q,t2⟩:=NV hp;rw[mY k];unfold wE;rw[M.fi,M.fi];refine KG (λb=>o _ _) (λx e r s v t w u y=>?_) g b hf _ _
   by_cases p:e=0
   .subst p;have:=Ik (child:=child) o h n (j+1) (i+1) r s (u Z) t2;rw[←q]at this;exact this
   .simp only[mY p];exact h i e _ t
theorem Fj{child:Int}{f:Nat->Int}{P:List Int}{d:Nat×Int->Bool->j6}{m:Int×List Int->Bool->j6}(g:∀i,d (i,3) true []=.done 0 3)(h:∀i e,e≠3->pF (d (i,e) false) (m (e,P.take i) false)) :
  ∀(n j i:Nat),P.drop i=hF f n j->pF ((xh child (hF f n j) i).then false d) ((uP child f n j (P.take i)).then false m)
 | 0,j,i,hp=>h i 0 Zb
 | n+1,j,i,hp=>by
  unfold hF uP at *
  by_cases b:f j=-1
  .rw[mZ b]at hp ⊢;rw[mZ b];exact Fj g h n (j+1) i hp
  .rw[mY b]at hp ⊢;let⟨o,t2⟩:=NV hp;rw[mY b];unfold xh;rw[M.fi,M.fi];refine vH (g _) λx e q p=>?_
   by_cases k:e=0
   .subst k;have:=Fj (child:=child) g h n (j+1) (i+1) t2;rw[←o]at this;exact this
   .simp only[mY k];exact h i e p
def tH(child:Int)(b f:List Int)(e:Int):M (Int×Int) :=
 if e=0 then(E5 8 child 0 0).bind λz=>if z.2=0 then M.pure (child,0) else(J5 child b f).bind λ_=>M.pure (0,z.2) else(J5 child b f).bind λ_=>M.pure (0,e)
def Bc(b:aa)(p:Nat)(e:List Int):M (Int×Int):=(tA b b.nS 0 e).bind λq=>if q.2.1.2=0 then(uE q.1 (λj=>b.S p (3+j*2)) 4 0 q.2.2 []).bind λy=>if y.1=0 then(uP q.1 (λj=>b.S p (11+j*2)) 4 0 []).bind λg=>tH q.1 y.2 g.2 g.1 else tH q.1 y.2 [] y.1 else M.pure (0,q.2.1.2)
def uA(b:aa)(p:Int):Nat->Nat->M (Int×Int)
 | 0,_=>(E5 1 0 0 0).bind λ_=>M.pure (0,11)
 | f+1,i=>if (b.S i 1==p&&b.S i 0==3)=true then J5 i (uN b i) (vj b i) else uA b p f (i+1)
def qR(b:aa)(p:Nat)(f A B:Int):M (Int×Int) :=
 if f=1 then Bc b p (E9 b b.nF) else if f=2 then uA b p b.nS 0
 else if f=3 then(G9 13 false A 0 B (E9 b b.nF)).bind λz=>M.pure z.1
 else if f=4 then(J4 16 B 0 A).bind λe=>M.pure (0,e)
 else if f=5 then xv A B else if f=6 then E5 9 A 0 0
 else(G9 2 false A 0 0 (E9 b b.nF)).bind λz=>M.pure z.1
abbrev vF:Int×Int->Bool->j6:=λz _=>λ_=>.done z.1 z.2
abbrev xY:Int×Int->Bool->j6:=λz _=>λ_=>.done (if z.2=0 then z.1 else 0) z.2
theorem Lg{child:Int}(g:e≠0):pF (((xQ child i j e).bind λb=>M.pure (0,b)).then false vF) (((J5 child i j).bind λ_=>M.pure (0,e)).then false xY):=by
 unfold xQ;simp only[M.fi,M.nO];refine Og Z (λx b _ f=>?_) i j;simp only[mY f];exact uJ 0 e (λ_=>rfl) λ_=>rfl
theorem XM{child:Int}(e:Int)(h:List (Int×Int)):xQ child i j e true h=.inr (3,true,h):=by
 unfold xQ M.bind;rw[Vk];rfl
theorem Oj{child:Int}:(xk child i j 3).then true vF []=.done 0 3:=by
 unfold xk M.then M.bind;rw[mY Zb,XM];rfl
theorem OW{child:Int}(g i:List Int):pF ((xc child g i e).then false vF) ((tH child g i e).then false xY):=by
 unfold xc tH
 by_cases b:e=0
 .rw[mZ b,mZ b,M.fi,M.fi];refine vH Oj λx j _ k=>?_;unfold xk
  by_cases f:j=0
  .rw[mZ f,mZ f];exact uJ child 0 (λh=>absurd Z h) λ_=>rfl
  .rw[mY f,mY f];exact Lg f
 .rw[mY b,mY b];unfold xk;rw[mY b];exact Lg b
theorem Va(b:aa)(p:Nat):pF ((BI b p (E9 b b.nF)).then false vF) ((Bc b p (E9 b b.nF)).then false xY):=by
 unfold BI Bc;simp only[M.fi];have r:∀(child:Int) (f h:List Int),(xc child f h 3).then true vF []=.done 0 3:=λchild f h=>by
  unfold xc;rw[mY Zb];exact Oj
 have s:∀(child:Int) (f h:List Int),(Bh child f h 3).then true vF []=.done 0 3:=λchild f h=>by
  unfold Bh;grind
 refine HU b (λx k=>rfl) (λi x e k t n u=>?_) b.nS 0 _ _ (Nj b b.nF)
 by_cases o:e=0
 .subst o;simp only[mZ,M.fi];unfold uN vj;rw[Nr,Nr];refine Ik (P:=hF (λj=>b.S p (3+j*2)) 4 0) (λ_ _=>s _ _ _) (λc e k n=>?_) 4 0 0 k t (u Z) Z;unfold Bh
  by_cases q:e=0
  .subst q;simp only[mZ,M.fi];exact Fj (P:=hF (λj=>b.S p (11+j*2)) 4 0) (λ_=>r _ _ _) (λg e n=>OW _ _) 4 0 0 Z
  .simp only[mY q];exact OW _ _
 .simp only[mY o];exact uJ 0 e (λ_=>rfl) λ_=>rfl
theorem Ke(b:aa)(p:Int):∀f i,pF ((vh b p f i).then false vF) ((uA b p f i).then false xY)
 | 0,i=>by
  unfold vh uA;simp only[M.fi];exact CQ Z (λr=>uJ 0 11 (λ_=>rfl) λ_=>rfl)
 | f+1,i=>by
  unfold vh uA
  by_cases h:(b.S i 1==p&&b.S i 0==3)=true
  .rw[mZ h,mZ h];exact Og Z (λx e g _=>uJ x e g.zero λ_=>rfl) _ _
  .rw[mY h,mY h];exact Ke b p f (i+1)
theorem OS{l a c:Int}{d m:Int->Bool->j6}(E:d 3 true []=.done 0 3)(h:∀b,b≠3->pF (d b false) (m b false)):pF ((J4 l a e c).then false d) ((J4 l a e c).then false m):=by
 intro F
 induction F with
 | nil=>exact λ_ _=>⟨Z,λx g i j n o q=>E⟩
 | cons z t H =>
  let⟨x,b⟩:=z;intro D r;have I:b≠3:=r _ (ao ..)
  by_cases K:b=11
  .subst K;have f:∀(k:Int->Bool->j6) u,((J4 l a e c).then false k) ((x,11)::u)=((J4 l a e c).then false k) u:=λk u=>rfl;rw[f,f];refine(H (λp s v w A g i j n o=>D ((x,11)::p) s v w (by rw[A];rfl) g i j n ((f d p).trans o)) λy B=>r y (ah _ B)).imp_right λC y g i j n o q=>(f d _).trans (C y g i j n o q)
  .have f:∀(k:Int->Bool->j6) u,((J4 l a e c).then false k) ((x,b)::u)=k b false u:=λk u=>by
    unfold M.then J4 zi
    grind
   rw[f,f];exact(h b I t (λp s v w A g i j n o=>D ((x,b)::p) s v w (by rw[A];rfl) g i j n ((f d p).trans o)) λy B=>r y (ah _ B)).imp_right λC y g i j n o q=>(f d _).trans (C y g i j n o q)
theorem Ll(b:aa)(p:Nat)(f A B:Int)(s:1<=f/\f<=7):pF ((zX b p f A B).then false vF) ((qR b p f A B).then false xY):=by
 have t:∀l,l=2\/l=13->∀c,pF (((wh l (E9 b b.nF).length A 0 c (E9 b b.nF)).bind λz=>M.pure ((0:Int),z.1)).then false vF) (((G9 l false A 0 c (E9 b b.nF)).bind λz=>M.pure z.1).then false xY):=λl r c=>by
  simp only[M.fi];refine FH (λ_=>rfl) (λx e u v w n g _ _=>?_) _ _ (Nj b b.nF) _ _;exact uJ 0 e (λ_=>rfl) λy=>((g.resolve_left Za).no r).symm
 unfold zX qR
 by_cases h:f=1
 .rw[mZ h,mZ h];exact Va b p
 rw[mY h,mY h]
 by_cases i:f=2
 .rw[mZ i,mZ i];exact Ke b p _ _
 rw[mY i,mY i]
 by_cases n:f=3
 .grind
 rw[mY n,mY n]
 by_cases j:f=4
 .rw[mZ j,mZ j];simp only[M.fi];exact OS Z λe _=>uJ 0 e (λ_=>rfl) λ_=>rfl
 rw[mY j,mY j]
 by_cases k:f=5
 .rw[mZ k,mZ k];unfold xv;simp only[M.fi];refine OS Z λe _=>?_
  by_cases o:e=0
  .subst o;simp only[ne_eq,not_true_eq_false,if_false];exact vH Z λx e g _=>uJ x e g.zero λ_=>rfl
  .simp only[ne_eq,o,not_false_eq_true,if_true];exact uJ 0 e (λ_=>rfl) λ_=>rfl
 rw[mY k,mY k]
 by_cases q:f=6
 .rw[mZ q,mZ q];exact vH Z λx e g _=>uJ x e g.zero λ_=>rfl
 grind
theorem SQ(K:aa)(e l a b c:Int):vZ l (i5 K e l a b c).n (i5 K e l a b c).e:=by
 unfold i5;split
 .exact⟨λ_=>rfl,λh=>by grind,λ_=>rfl⟩
 split
 .exact⟨λ_=>rfl,λh=>.inr Z,λ_=>rfl⟩
 split
 .rename_i f;refine⟨λ_=>rfl,λh=>?_,λ_=>rfl⟩;subst h;simp[i7,C8]at f
 .rename_i h _ _;obtain⟨n,g⟩:∃n:Nat,l=n:=⟨l.toNat,by omega⟩;subst g;have i:n<20:=by omega
  rw[au];refine⟨?_,λh=>?_,λh=>?_⟩
  .unfold tr;split<;>simp only[pH,N4,B3,Z4,J2,B8,pZ,N3,H8,Q0,G0,I9,P9,Q8,Z3,X0,X1,J9]
   all_goals grind
  .obtain rfl:n=1:=by omega
   exact .inl Z
  .obtain rfl|rfl:n=2\/n=13:=by omega
   .show(pH _ _ _ _).n=0;unfold pH;repeat' split
    all_goals rfl
   .show(B8 _ _ _ _ _).n=0;unfold B8;repeat' split
    all_goals rfl
end
section
open Go.Conc Go.RowKit
structure Tk where
 bt:Nat
 o:Nat
 kd:Int
 A:Int
 B:Int
 K:aa
 gF:Nat
 cF:Nat
 gS:Nat
 cS:Nat
 bL:Nat
 ad:Option cx
 cap:Nat
 Ls:List (Int×Int)
abbrev Tk.F(T:Tk):dM:=Sc (J (O T.gF 0 Q)) T.K.nF T.cF
abbrev Tk.S(T:Tk):dM:=Sc (J (O T.gS 0 Q)) T.K.nS T.cS
abbrev Tk.L(T:Tk):dM:=.slice T.ad T.Ls.length T.cap
abbrev vi(x:Int):dM:=Y U x
abbrev ci(x:Int):nI:=.v (Y U x)
structure qd (sft:Nat->Nat) (bW:Nat) (T:Tk) (w:Wd):Prop where
 blk:∃c t,w.heap[T.bt]?=J (.cells c t (0,0))
 sf:sft T.bt=0
 ne:T.bt≠bW
 c0:w.cell? (O T.bt T.o Q)=J (vi T.kd)
 c1:w.cell? (O T.bt (T.o+1) Q)=J (vi T.A)
 c2:w.cell? (O T.bt (T.o+2) Q)=J (vi T.B)
 c4:w.cell? (O T.bt (T.o+4) Q)=J T.F
 c5:w.cell? (O T.bt (T.o+5) Q)=J T.S
 c7:w.cell? (O T.bt (T.o+7) Q)=J T.L
 lt:T.Ls≠[]->T.ad=J (O T.bL 0 Q)/\T.bL<w.heap.size/\T.bL≠bW
 ls:∀j n e,T.Ls[j]?=J (n,e)->w.cell? (O T.bL (j*2) Q)=J (vi n)/\w.cell? (O T.bL (j*2+1) Q)=J (vi e)
 max:T.Ls.length<=7036874417568
 fl:T.gF<w.heap.size/\T.gF≠bW
 fs:∀i,i<T.K.nF->w.cell? (O T.gF (i*6) Q)=J (vi (T.K.F i 0))
 sl:T.gS<w.heap.size/\T.gS≠bW
 ss:∀i,i<T.K.nS->w.rangeAt T.gS (i*20) (N7 T.K i).toList
 mL:Good T.K
 nF:T.K.nF<=32
 nS:T.K.nS<=6
structure qz (sft:Nat->Nat) (bW:Nat) (T:Tk) (u:Nat) (fv:Vu) (w:Wd):Prop where
 blk:∃c t,w.heap[bW]?=J (.cells c t (0,0))
 c0:w.cell? (O bW 0 Q)=J (Po (J (O T.bt T.o Q)))
 c1:w.cell? (O bW 1 Q)=J (vi u)
 c2:w.cell? (O bW 2 Q)=J fv
structure oA (sft:Nat->Nat) (bW:Nat) (T:Tk) (u:Nat) (fv:Vu) (w:Wd):Prop where
 tk:qd sft bW T w
 wk:qz sft bW T u fv w
 sf:sft bW=0
 fit:Fit sft w
 new:∀k,w.heap.size<=k->sft k=0
abbrev wρ(a:Nat)(T:Tk):ou:=[(T.bt,T.o),(a,0)]
abbrev tD(T:Tk)(u:Nat)(a:Vu):Mem:=[(0,0,ci T.kd),(0,1,ci T.A),(0,2,ci T.B),(0,4,.v T.F),(0,5,.v T.S),(0,7,.v T.L),(1,0,.p 0 0),(1,1,ci u),(1,2,.v a)]
variable{d:Nat->Nat}{bW:Nat}{T:Tk}{u:Nat}{C:Vu}{w w':Wd}{main:Bool}
theorem oA.oG(h:oA d bW T u C w):yX d [bW] 1 (wρ bW T) (tD T u C) w:=by
 let⟨t,k,g,l,m⟩:=h;refine⟨λe b=>?_,λi a=>?_,λi j a c n=>?_,λi o f=>?_,l,m⟩
 .simp only[tD,ae,aj,or_false]at b;rcases b with rfl|rfl|rfl|rfl|rfl|rfl|rfl|rfl|rfl<;>refine⟨by grind,by first|trivial|exact Nat.zero_lt_two,?_⟩
  .exact t.c0
  .exact t.c1
  .exact t.c2
  .exact t.c4
  .exact t.c5
  .exact t.c7
  .exact k.c0
  .exact k.c1
  .exact k.c2
 .have a:i<2:=a;obtain rfl|rfl:i=0\/i=1:=by omega
  .exact⟨t.blk,t.sf⟩
  .exact⟨k.blk,g⟩
 .have a:i<2:=a;have c:j<2:=c;obtain⟨rfl,rfl⟩|⟨rfl,rfl⟩:(i=0/\j=1)\/(i=1/\j=0):=by omega
  .exact t.ne
  .exact t.ne.symm
 .have f:i<2:=f;obtain rfl:i=1:=by omega
  exact cz.2 Z
def QV(x:Node⊕((Int×Int)×Bool×List (Int×Int))):dM:=match x with
 | .inr (r,_,_)=>.tuple #[.agg #[vi r.1,vi r.2],.agg #[i0,i0,i0,i0,b0,i0,i0],Bo true]
 | .inl (.call num a b c)=>.tuple #[.agg #[i0,i0],.agg #[vi num,vi a,vi b,vi c,b0,i0,i0],Bo false]
 | .inl (.done _ _)=>Bo false
theorem Cy(h:oA d bW T u C w)(E:u<=T.Ls.length)(k a b c:Int):oL main d 93 #[Po (J (O bW 0 Q)),vi k,vi a,vi b,vi c] w λx w'=>x=QV (E5 k a b c false (T.Ls.drop u))/\nC d [bW] w w'/\qz d bW T (if u<T.Ls.length then u+1 else u) C w':=by
 have F:=h.tk.max;refine y7 (sz:=55) (ρ:=wρ bW T) [.c (.p 1 0),.c (ci k),.c (ci a),.c (ci b),.c (ci c)] h.oG (λs l=>?_) eR Z Z Z λStop X cs b' M m=>?_
 .simp only[ae,aj,or_false]at l;rcases l with rfl|rfl|rfl|rfl|rfl<;>first|trivial|exact dP
 refine pQ 100 2 [] M Z Z ⟨⟨mX,by kernel_rfl⟩,by kernel_rfl⟩ λa1 w1 r1 r2 i=>?_
 by_cases g:u<T.Ls.length
 .refine nV i Z (decide_eq_true Za) ?_;obtain⟨n,e,p⟩:∃n e,T.Ls[u]?=J (n,e):=⟨_,_,bj g⟩;have q:T.Ls.drop u=(n,e)::T.Ls.drop (u+1):=by
   rw[dQ g]
   grind
  let⟨r,t,y⟩:=h.tk.lt (by grind);let⟨H,I⟩:=h.tk.ls u n e p;have z:IntKind.i64.wrap ((u:Int)+1)=((u+1:Nat):Int):=by rw[show(u:Int)+1=((u+1:Nat):Int) by omega];exact FK Za
  have L:IntKind.i64.wrap (((u+1:Nat):Int) - 1)=(u:Int):=by rw[show((u+1:Nat):Int) - 1=(u:Int) by omega];exact FK Za
  let⟨bt,o,kd,A,B,K,gF,cF,gS,cS,N,ad,g',P⟩:=T;simp only at r t y H I g q F E p;subst r;have D:IntKind.i64.wrap (IntKind.i64.wrap ((u:Int)+1) - 1)=(u:Int):=by rw[z];exact L
  have R:0<=IntKind.i64.wrap (IntKind.i64.wrap ((u:Int)+1) - 1)/\IntKind.i64.wrap (IntKind.i64.wrap ((u:Int)+1) - 1)<(P.length:Int):=by rw[D];omega
  have S:vA w [bW] N (0+(IntKind.i64.wrap (IntKind.i64.wrap ((u:Int)+1) - 1)).toNat*2) [vi n,vi e]:=by
   rw[D,au,aE];refine⟨t,by simpa using y,λj v hv=>?_⟩
   grind
  refine ia 100 4 [[vi n,vi e]] i Z Z ⟨⟨⟨⟨mX,R⟩,S⟩,by kernel_rfl⟩,by kernel_rfl⟩ λW G f=>A9 f eR Z Z Z<|m _ _ ⟨?_,f.hJ,?_⟩
  .rw[q];rfl
  .rw[mZ g];exact⟨f.blk 1 Z,f.ld 1 0 Z,(f.ld 1 1 Z).trans (congrArg (λx=>J (vi x)) z),f.ld 1 2 Z⟩
 .refine nR i Z (decide_eq_false Za)<|ia 100 4 [] i Z Z mX λW G f=>A9 f eR Z Z Z<|m _ _ ⟨?_,f.hJ,?_⟩
  .rw[eK Za];rfl
  .rw[mY g];exact⟨f.blk 1 Z,f.ld 1 0 Z,f.ld 1 1 Z,f.ld 1 2 Z⟩
def pL(bW:Nat)(C:Vu)(a:List Int)(w:Wd):Prop:=∃c e,C=.slice c a.length e/\a.length<=e/\(a≠[]->∃b o,c=J (O b o Q)/\b<w.heap.size/\b≠bW/\∀j x,a[j]?=J x->w.cell? (O b (o+j) Q)=J (vi x))
abbrev qK:List (Nat×Nat):=[(0,0),(0,1),(0,2),(0,4),(0,5),(0,7),(1,0),(1,1),(1,2)]
variable{ys:List Int}
theorem pL.hJ(h:pL bW C ys w)(L:nC d [bW] w w'):pL bW C ys w':=by
 let⟨e,f,g,i,k⟩:=h;refine⟨e,f,g,i,λl=>?_⟩;let⟨b,o,m,a,c,n⟩:=k l;exact⟨b,o,m,Zg a L.size,c,λj x p=>(Zf (w:=w) (L.old b a (by simpa using c))).trans (n j x p)⟩
theorem qd.hJ(h:qd d bW T w)(L:nC d [bW] w w'):qd d bW T w':=by
 let⟨c,t,g⟩:=h.blk;have e:=L.old T.bt (Zj g).1 (by simpa using h.ne);have k:=λo=>Zf (w:=w) (w':=w') (a:=(O T.bt o Q)) e;refine⟨⟨c,t,e.trans g⟩,h.sf,h.ne,(k _).trans h.c0,(k _).trans h.c1,(k _).trans h.c2,(k _).trans h.c4,(k _).trans h.c5,(k _).trans h.c7,λp=>?_,λj n x l=>?_,h.max,⟨Zg h.fl.1 L.size,h.fl.2⟩,λi a=>?_,⟨Zg h.sl.1 L.size,h.sl.2⟩,λi a j v q=>?_,h.mL,h.nF,h.nS⟩
 .let⟨m,b,f⟩:=h.lt p;exact⟨m,Zg b L.size,f⟩
 .let⟨m,b,f⟩:=h.lt (λe=>by grind);have e:=L.old T.bL b (by simpa using f);exact⟨(Zf (w:=w) e).trans (h.ls j n x l).1,(Zf (w:=w) e).trans (h.ls j n x l).2⟩
 .exact(Zf (w:=w) (L.old _ h.fl.1 (by simpa using h.fl.2))).trans (h.fs i a)
 .exact(Zf (w:=w) (L.old _ h.sl.1 (by simpa using h.sl.2))).trans (h.ss i a j v q)
theorem oA.hJ(h:oA d bW T u C w)(L:nC d [bW] w w')(b:qz d bW T a n w'):oA d bW T a n w':=⟨h.tk.hJ L,b,h.sf,L.fit,λk b=>h.new k (Zh L.size b)⟩
theorem Q4{W:List Nat}{m:Mem}{c:l9}{e:ou}(M:fx d W 1 k (wρ bW T++e) m a c B w)(f:rP 2 m [(1,0),(1,1),(1,2)]=J [(1,0,.p 0 0),(1,1,ci u),(1,2,.v C)]):qz d bW T u C w:=by
 have b:=M.oS 2 [] [(1,0),(1,1),(1,2)] Z Z f;exact⟨b.blk 1 Z,b.ld 1 0 Z,b.ld 1 1 Z,b.ld 1 2 Z⟩
abbrev Hz(u:Nat)(C:Vu):Mem:=[(1,0,.p 0 0),(1,1,ci u),(1,2,.v C)]
theorem fx.walked{W:List Nat}{m c:Mem}{j:l9}(M:fx d W 1 k (wρ bW T++v) m a j B w)(L:nC d [bW] w w')(g:qz d bW T u C w')(n:Nat)(f:List (Nat×Nat))(A:n=(wρ bW T++v).length)(l:rP n m f=J c)(o:(f.all λp=>!aG p.1 1)=true):fx d W 1 k (wρ bW T++v) (Hz u C++c) a j B w':=by
 have D:(wρ bW T++v).length=v.length+2:=by simp
 refine M.upd L 1 (af _) Za (λi s t=>?_) (λq x=>by cases Zi x;exact M.own 1 (af _) Za) g.blk λe b=>?_
 .exact λh=>M.ij i 1 s Za t (Zi h)
 .rcases bZ.1 b with b|b
  .simp only[ae,aj,or_false]at b;rcases b with rfl|rfl|rfl
   .exact .inr ⟨Z,(by show 0<_;omega),g.c0⟩
   .exact .inr ⟨Z,mX,g.c1⟩
   .exact .inr ⟨Z,mX,g.c2⟩
  .have y:∀(f:List (Nat×Nat)) (c:Mem),rP n m f=J c->(f.all λp=>!aG p.1 1)=true->∀e∈c,e.1≠1:=by
    intro f
    induction f with
    | nil=>intro c h _ e b;cases Ze h;cases b
    | cons p r E =>
     intro c h z e b;simp only[List.all_cons,aB]at z;unfold rP at h;split at h
     .split at h
      .split at h
       .next F H =>
        cases Ze h;rcases ae.1 b with rfl|b
        .intro I
         simp_all
        grind
       .cases h
      .cases h
     .cases h
   exact .inl ⟨(AW l e b).1,y f c l o e b⟩
theorem Fw{u:Nat}{z:Int×Int}(h:D.drop u=z::E):u<D.length/\z∈D/\D.drop (u+1)=E:=by
 have a:u<D.length:=by
  rcases bQ u D.length with g|g
  .exact g
  .rw[eK g]at h;cases h
 rw[dQ a]at h
 grind
def uw(d:Nat->Nat)(bW:Nat)(T:Tk)(u:Nat)(C:Vu)(ys:List Int)(w':Wd)(x:Vu):Node⊕(((Int×Int)×List Int×List Int)×Bool×List (Int×Int))->Prop
 | .inl (.call n a b c)=>(∃p q,x=.tuple #[.agg #[vi p,vi q],.agg #[vi n,vi a,vi b,vi c,b0,i0,i0],Bo false])/\∃e f,qz d bW T e f w'
 | .inl (.done _ _)=>False
 | .inr ((z,lf,bk),go,rest)=>go=false/\x=.tuple #[.agg #[vi z.1,vi z.2],.agg #[i0,i0,i0,i0,b0,i0,i0],Bo true]/\∃e f,qz d bW T e f w'/\rest=T.Ls.drop e/\u<e/\e<=T.Ls.length/\(∀v,pL bW C ys v->pL bW f lf v)/\bk=ys.drop (e - u - 1)
theorem uw.step{y:Int}{t:List Int}{x a:Vu}(b:∀v,pL bW C (y::t) v->pL bW a t v):∀ {r:Node⊕(((Int×Int)×List Int×List Int)×Bool×List (Int×Int))},uw d bW T (u+1) a t w' x r->uw d bW T u C (y::t) w' x r
 | .inl (.call _ _ _ _),h=>h
 | .inl (.done _ _),h=>h
 | .inr ((z,lf,bk),go,rest),⟨h1,h2,u',a,h3,h4,h5,h6,h7,h8⟩=>⟨h1,h2,u',a,h3,h4,by omega,h6,λv c=>h7 v (b v c),by rw[h8,show u' - u - 1=(u' - (u+1) - 1)+1 by omega];rfl⟩
theorem uw.here{b a:Int}{y:Int}(c:a≠5)(j:uw d bW T u C (y::i) w' n (.inr (((b,a),i,y::i),a==3,D))):uw d bW T u C (y::i) w' n (G9 e x f g h (y::i) false ((b,a)::D)):=by
 unfold G9 M.bind E5;simp only[aI,if_false,mY c];exact j
def Rn:List bh:=match Tryz.f92.body with
 | some (.seq _ (.seq (.block i (.loop (.seq (.seq x y) z))) r))=>[.code y,.code z,.inLoop (.seq (.seq x y) z),.inBlock i,.code r]
 | _=>[]
abbrev frE(e a b c:Int)(f n:Int):l9:=[(0,.c (.p 1 0)),(1,.c (ci e)),(2,.c (ci a)),(3,.c (ci b)),(4,.c (ci c)),(5,.c (ci f)),(12,.c (.p 2 0)),(13,.c (.p 3 0)),(14,.c (.v (Bo false))),(28,.c (.v (Bo (decide (0<n)))))]
abbrev CA:Mem:=[(2,0,.v i0),(2,1,.v i0),(3,0,.v i0),(3,1,.v i0),(3,2,.v i0),(3,3,.v i0),(3,4,.v b0),(3,5,.v i0),(3,6,.v i0)]
abbrev sj:List (Nat×Nat):=qK++[(2,0),(2,1),(3,0),(3,1),(3,2),(3,3),(3,4),(3,5),(3,6)]
theorem b7B{Stop:Gr->Wd->Prop}{fr:Fm'}(h:oA d bW T u C w)(h3:pz T.Ls)(E F a' c:Int)(R:Bool):∀(ys:List Int) (u:Nat) (C:Vu) (H:cZ) (w':Wd),u<=T.Ls.length->pL bW C ys w->ys.length<=32->fx d [bW] 1 w (wρ bW T++[(a,0),(b,0)]) (tD T u C++CA) 83 (frE E F a' c (if R then 2 else 1) ys.length) H w' ->
  (∀x B,nC d [bW] w B->uw d bW T u C ys B x (G9 E R F a' c ys false (T.Ls.drop u))->iv V main true d Stop (G (fr.finish x) y) B)->iv V main true d Stop (G ((base 92).at H Rn) (fr::y)) w':=by
 intro ys
 induction ys with
 | nil =>
  intro u C H w' S hF hy M g;refine nR M Z Zb<|ia 200 4 [] M Z Z mX λa1 w1 i=>A4 i (Cy (h.hJ i.hJ (Q4 i Z)) S 1 0 0 0) Z Z Z eR Z Z Z Z Z λx w2 W=>?_;obtain⟨rfl,L,k⟩:=W;have o:=i.walked L k 4 [(2,0),(2,1),(3,0),(3,1),(3,2),(3,3),(3,4),(3,5),(3,6)] Z Z Z
  cases p:T.Ls.drop u with
  | nil =>
   rw[p]at g;refine E3 o 4 (.t [.g [ci 0,ci 0],.g [ci 1,ci 0,ci 0,ci 0,.v b0,.v i0,.v i0],.c (.v (Bo false))]) Z Z Z Z Z λX q=>pQ 200 4 [] q Z Z ⟨⟨mX,by kernel_rfl⟩,by kernel_rfl⟩ λa4 w4 I K f=>A9 f dN Z Z Z<|g _ _ f.hJ ⟨⟨0,10,Z⟩,_,_,Q4 f Z⟩
  | cons z s =>
   let⟨n,e⟩:=z;let⟨N,hz,P⟩:=Fw p;rw[p]at g;rw[mZ N]at o;refine E3 o 4 (.t [.g [ci n,ci e],.g [.v i0,.v i0,.v i0,.v i0,.v b0,.v i0,.v i0],.c (.v (Bo true))]) Z Z Z Z Z λX q=>pQ 200 4 [] q Z Z ⟨⟨mX,by kernel_rfl⟩,by kernel_rfl⟩ λa4 w4 I K f=>A9 f dN Z Z Z<|g _ _ f.hJ ⟨?_,Z,u+1,C,Q4 f Z,P.symm,by omega,by omega,?_,?_⟩
   .simpa using h3 (n,e) hz
   all_goals grind
 | cons m t ih =>
  intro u C H w' S hF hy M g;refine nV M Z (decide_eq_true Zc) ?_;obtain⟨ad,D,rfl,d',h'⟩:=hF;obtain⟨r,A,rfl,g1,g2,g3⟩:=h' Zc;have hN:∀v,pL bW (Sc (J (O r A Q)) (m::t).length D) (m::t) v->pL bW (.slice (if D=jA 1 then J (O r A Q) else J (O r (A+jA 1*1) Q)) ((m::t).length - jA 1) (D - jA 1)) t v:=by
   rintro v ⟨ad,i',e,d',hq⟩;injection e with e _ e'
   subst e e';let⟨b2,o2,e,g1,g2,g3⟩:=hq Zc;injection e with e
   injection e with e e'
   subst e e';simp only[cI]at d';refine⟨_,D - 1,Z,by omega,λht=>?_⟩;have:t.length≠0:=λe=>ht (dI e);exact⟨r,A+1,mY (by grind),g1,g2,λj x hj=>by rw[show A+1+j=A+(j+1) by omega];simp_all⟩
  have hc:so w [bW] (O r (A+jA 0*1) Q) (vi m):=⟨g1,by simpa using g2,g3 0 m Z⟩;have q0:(0:Int)<=0/\(0:Int)<((m::t).length:Nat):=by rw[cI];omega
  have q1:(0:Int)<=1/\(1:Int)<=((m::t).length:Nat):=by rw[cI];omega
  have p0:(0:Int)<=0/\(0:Int)<(3:Nat):=by decide
  have p1:(0:Int)<=1/\(1:Int)<(3:Nat):=by decide
  have p2:(0:Int)<=2/\(2:Int)<(3:Nat):=by decide
  cases R
  all_goals
   refine sw 200 4 [[vi m]] M Z Z ⟨⟨⟨⟨⟨⟨⟨mX,q0⟩,hc⟩,q1⟩,by grind⟩,p0⟩,p1⟩,p2⟩ λa1 w1 r i=>A4 i (Cy (h.hJ i.hJ (Q4 i Z)) S E F _ _) Z Z Z eR Z Z Z Z Z λx w2 W=>?_;obtain⟨rfl,L,k⟩:=W;have o:=i.walked L k 5 [(0,0),(0,1),(0,2),(0,4),(0,5),(0,7),(2,0),(2,1),(3,0),(3,1),(3,2),(3,3),(3,4),(3,5),(3,6)] Z Z Z
   cases p:T.Ls.drop u with
   | nil =>
    rw[p]at g;refine E3 o 5 (.t [.g [ci 0,ci 0],.g [ci E,ci F,ci _,ci _,.v b0,.v i0,.v i0],.c (.v (Bo false))]) Z Z Z Z Z λX q=>pQ 200 5 [] q Z Z mX λa4 w4 I K f=>nV f Z Z<|ia 200 7 [] f Z Z ⟨⟨mX,by kernel_rfl⟩,by kernel_rfl⟩ λa5 w5 l=>A9 l dN Z Z Z<|g _ _ l.hJ ⟨⟨0,0,Z⟩,_,_,Q4 l Z⟩
   | cons z s =>
    let⟨n,e⟩:=z;let⟨N,hz,P⟩:=Fw p;rw[p]at g;rw[mZ N]at o;refine E3 o 5 (.t [.g [ci n,ci e],.g [.v i0,.v i0,.v i0,.v i0,.v b0,.v i0,.v i0],.c (.v (Bo true))]) Z Z Z Z Z λX q=>pQ 200 5 [] q Z Z mX λa4 w4 I K f=>?_
    by_cases he:e=5
    .subst he;refine nR f Z Z<|ia 200 7 [] f Z Z mX λa5 w5 l=>ih (u+1) _ a5 w5 N (hN w ⟨_,D,Z,d',h'⟩) (by simp at hy;omega) (fx.oS (ρ:=wρ bW T++[(a,0),(b,0)]) (ρ2:=[(r,0),(I,0),(K,0)]) l 4 [0,1,2,3,4,5,12,13,14,28] sj Z Z Z) λx B h1 h2=>g x B h1 ?_;rw[P]at h2;exact uw.step hN h2
    .refine nV f Z (by simpa using he)<|ia 200 7 [] f Z Z ⟨⟨mX,by kernel_rfl⟩,by kernel_rfl⟩ λa5 w5 l=>A9 l dN Z Z Z<|g _ _ l.hJ (uw.here he ⟨by simpa using h3 (n,e) hz,Z,u+1,_,Q4 l Z,P.symm,by omega,by omega,hN,by simp⟩)
theorem Lt:∀ {ys:List Int} {hs:List (Int×Int)} {z:Int×Int} {c b:List Int} {i:Bool} {j:List (Int×Int)},G9 e x f g h ys false hs=.inr ((z,c,b),i,j)->z.2≠10->b≠[]
 | [],hs,z,c,b,i,j,a,h0=>by
  cases hs with
  | nil=>cases a
  | cons l s =>
   injection a with a
   grind
 | y::t,hs,z,c,b,i,j,a,h0=>by
  cases hs with
  | nil=>cases a
  | cons l s =>
   let⟨n,k⟩:=l
   by_cases m:k=5
   .subst m;exact Lt (ys:=t) (hs:=s) a h0
   .have a:(if k=5 then G9 e x f g h t else M.pure ((n,k),t,y::t)) (k==3) s=.inr ((z,c,b),i,j):=a;rw[mY m]at a;injection a with a
    grind
theorem CD(h:oA d bW T u C w)(j:pz T.Ls)(k:u<=T.Ls.length)(hF:pL bW C ys w)(l:ys.length<=32)(e a b c:Int)(f:Bool):oL main d 92 #[Po (J (O bW 0 Q)),vi e,vi a,vi b,vi c,vi (if f then 2 else 1)] w λx w'=>nC d [bW] w w'/\uw d bW T u C ys w' x (G9 e f a b c ys false (T.Ls.drop u)):=by
 obtain⟨m,n,rfl,o,p⟩:=hF;refine y7 (sz:=83) (ρ:=wρ bW T) [.c (.p 1 0),.c (ci e),.c (ci a),.c (ci b),.c (ci c),.c (ci (if f then 2 else 1))] h.oG (λs i=>?_) dN Z Z Z λStop A B D M q=>?_
 .simp only[ae,aj,or_false]at i;rcases i with rfl|rfl|rfl|rfl|rfl|rfl<;>first|trivial|exact dP
 refine pQ 200 2 [] M Z Z mX λr t E F g=>?_;have g:=g.nY 4 [0,1,2,3,4,5,12,13,14,28] sj Z Z Z;exact b7B h j e a b c f ys u _ r t k ⟨m,n,Z,o,p⟩ l g λx v y z=>q x v ⟨y,z⟩
abbrev FY(e a b c:Int):Sv:=.t [.g [ci 0,ci 0],.g [ci e,ci a,ci b,ci c,.v b0,.v i0,.v i0],.c (.v (Bo false))]
abbrev vY(n e:Int):Sv:=.t [.g [ci n,ci e],.g [.v i0,.v i0,.v i0,.v i0,.v b0,.v i0,.v i0],.c (.v (Bo true))]
variable{H:Wd}{ρ2:ou}{m N:Mem}{F:Nat}{I b':l9}{A:cZ}{P:Array aL}{Stop:Gr->Wd->Prop}{f:bC}{k:List bh}{E:List Fm'}{i D:Nat}{L:List Nat}{o:aL}{S:Array aS}{X:Array Ti}
theorem uZ{W:List Nat}(h:oA d bW T u C w)(R:pz T.Ls)(M:fx d W 1 H (wρ bW T++ρ2) m F I A w)(hu:u<=T.Ls.length)(n:Nat)(q:List (Nat×Nat))(j a b c:Int){B:Int->Int->l9}(r:n=(wρ bW T++ρ2).length)(hm:rP n m q=J N)(h1:(q.all λp=>!aG p.1 1)=true)(ho:P[i]?=J o)(hg:o.guard=Q)(e':o.op=.call { callee:=.value (.func 93),args:=S,argTypes:=X })(ha:(S.toList.map λx=>(pJ I x).map (·.den (wρ bW T++ρ2)))=[J (Po (J (O bW 0 Q))),J (vi j),J (vi a),J (vi b),J (vi c)])(hd:o.dst=J D)(t:cE D F=true)(hW:qA D (FY j a b c) I=J b')(hA:∀n e,qA D (vY n e) I=J (B n e))(f':T.Ls.drop u=[]->∀g w',nC d [bW] w w'->fx d W 1 H (wρ bW T++ρ2) (Hz u C++N) F b' g w'->iv V main true d Stop (G ((base f).at g (.inRegion P L::k)) E) w')(g':∀n e s,T.Ls.drop u=(n,e)::s->u<T.Ls.length->e≠3->T.Ls.drop (u+1)=s->∀g w',nC d [bW] w w'->fx d W 1 H (wρ bW T++ρ2) (Hz (u+1) C++N) F (B n e) g w'->iv V main true d Stop (G ((base f).at g (.inRegion P L::k)) E) w') :
  iv V main true d Stop (G ((base f).at A (.inRegion P (i::L)::k)) E) w:=by
 refine A4 M (Cy h hu j a b c) ho hg e' eR Z Z ha hd t λx w2 hp=>?_;obtain⟨rfl,v,k⟩:=hp;have l:=M.walked v k n q r hm h1
 cases y:T.Ls.drop u with
 | nil =>
  rw[mY (by simp_all)]at l;exact E3 l n (FY j a b c) r Z t Z hW (λg=>f' y g _ v)
 | cons z s =>
  let⟨x,e⟩:=z;let⟨K,hz,hs⟩:=Fw y;rw[mZ K]at l;exact E3 l n (vY x e) r Z t Z (hA x e) λg=>g' x e s y K (R (x,e) hz) hs g _ v
def Iv(d:Nat->Nat)(bW:Nat)(T:Tk)(C:Vu)(w':Wd)(x:Vu):Node⊕((Int×Int)×Bool×List (Int×Int))->Prop
 | .inl (.call n a b c)=>(∃p q,x=.tuple #[.agg #[vi p,vi q],.agg #[vi n,vi a,vi b,vi c,b0,i0,i0],Bo false])/\∃e g,qz d bW T e g w'
 | .inl (.done _ _)=>False
 | .inr (z,go,rest)=>go=false/\x=.tuple #[.agg #[vi z.1,vi z.2],.agg #[i0,i0,i0,i0,b0,i0,i0],Bo true]/\∃e,qz d bW T e C w'/\rest=T.Ls.drop e/\e<=T.Ls.length
def ZX:List bh:=match Tryz.f109.body with
 | some (.seq _ (.seq (.seq _ (.block i (.loop (.seq (.seq x y) z)))) r))=>[.code y,.code z,.inLoop (.seq (.seq x y) z),.inBlock i,.code r]
 | _=>[]
def XR:List bh:=match Tryz.f109.body with
 | some (.seq _ (.seq _ (.seq (.seq _ (.block i (.loop (.seq (.seq x y) z)))) r)))=>[.code y,.code z,.inLoop (.seq (.seq x y) z),.inBlock i,.code r]
 | _=>[]
abbrev KB(a:Int)(c e:Vu)(t b:Nat)(j n:Nat):l9:=[(0,.c (.p 1 0)),(1,.c (ci a)),(2,.c (.v c)),(3,.c (.v e)),(8,.c (.p 2 0)),(9,.c (.p 3 0)),(10,.c (.v (Bo false))),(t,.c (ci j)),(b,.c (.v (Bo (decide ((j:Int)<(n:Int))))))]
variable{pv fl:Vu}{b' c':List Int}{slot:Int}{fr:Fm'}{r1 r2:Nat}
theorem Jf{slot a:Int}{s:List (Int×Int)}{f:Unit->M q}(b:a≠3):((rm e slot (g::j)).bind f) false ((h,a)::s)=((rm e slot j).bind f) false s:=by
 show((rm e slot j).bind f) (a==3) s=_
 grind
theorem Kw{t:List Int}(h:j.drop a=e::t):j[a]?=J e/\j.drop (a+1)=t:=by
 have b:a<j.length:=by
  rcases bQ a j.length with g|g
  .exact g
  .rw[eK g]at h;cases h
 rw[dQ b]at h
 grind
theorem pL.at(h:pL bW C b' w)(n:b'[a]?=J e):∃b o c,C=Sc (J (O b o Q)) b'.length c/\a<b'.length/\so w [bW] (O b (o+(a:Int).toNat*1) Q) (vi e):=by
 obtain⟨p,c,rfl,q,h⟩:=h;have g:a<b'.length:=by
  grind
 obtain⟨b,o,rfl,j,l,r⟩:=h (λs=>by grind);exact⟨b,o,c,Z,g,j,by simpa using l,by grind⟩
theorem VP(h:oA d bW T u C w)(h3:pz T.Ls)(hF:pL bW fl c' w)(h4:c'.length<=4):∀(z:List Int) (j u:Nat) (A:cZ) (w':Wd),c'.drop j=z->u<=T.Ls.length->fx d [bW] 1 w (wρ bW T++[(r1,0),(r2,0)]) (tD T u C++CA) 69 (KB slot pv fl 15 44 j c'.length) A w' ->
  (∀x r,nC d [bW] w r->Iv d bW T C r x (((rm 11 slot z).bind λ_=>E5 12 slot 0 0) false (T.Ls.drop u))->iv V main true d Stop (G (fr.finish x) E) r)->iv V main true d Stop (G ((base 109).at A XR) (fr::E)) w':=by
 intro z
 induction z with
 | nil =>
  intro j u A w' B K M c;have hl:c'.length<=j:=by simpa using B
  refine nR M Z (decide_eq_false Za)<|ia 200 4 [] M Z Z mX λa1 w1 g=>uZ (h.hJ g.hJ (Q4 g Z)) h3 g K 4 (sj.filter λp=>!aG p.1 1) 12 slot 0 0 Z Z Z Z Z Z Z Z Z Z (λ_ _=>rfl) (λl R W _ q=>?_) λn e s l a' he hs R W _ q=>?_
  .rw[l]at c;refine ia 200 4 [] q Z Z mX λa3 w3 a=>A9 a eJ Z Z Z<|c _ _ a.hJ ⟨⟨0,0,Z⟩,_,_,Q4 a Z⟩
  .rw[l]at c;refine ia 200 4 [] q Z Z mX λa3 w3 a=>A9 a eJ Z Z Z<|c _ _ a.hJ ⟨by simpa using he,Z,u+1,Q4 a Z,hs.symm,a'⟩
 | cons y t ih =>
  intro j u A w' B K M c;let⟨hy,ht⟩:=Kw B;obtain⟨b,o,i',rfl,hl,hc⟩:=hF.at hy;have e1:=C7 (n:=j) Za;refine nV M Z (decide_eq_true Za)<|ia 200 4 [[vi y]] M Z Z ⟨⟨mX,by omega⟩,hc⟩ λa1 w1 g=>uZ (h.hJ g.hJ (Q4 g Z)) h3 g K 4 (sj.filter λp=>!aG p.1 1) 11 slot y 0 Z Z Z Z Z Z Z Z Z Z (λ_ _=>rfl) (λl R W _ q=>?_) λn e s l a' he hs R W _ q=>?_
  .rw[l]at c;refine pQ 200 4 [] q Z Z mX λa3 w3 b3 b4 a=>nV a Z Z<|ia 200 6 [] a Z Z ⟨⟨mX,by kernel_rfl⟩,by kernel_rfl⟩ λa4 w4 v=>A9 v eJ Z Z Z<|c _ _ v.hJ ⟨⟨0,0,Z⟩,_,_,Q4 v Z⟩
  .refine pQ 200 4 [] q Z Z mX λa3 w3 b3 b4 a=>nR a Z Z<|ia 200 6 [] a Z Z mX λa4 w4 v=>?_;have M5:=fx.oS (ρ:=wρ bW T++[(r1,0),(r2,0)]) (ρ2:=[(b3,0),(b4,0)]) v 4 [0,1,2,3,8,9,10,15,44] sj Z Z Z;rw[e1]at M5;refine ih (j+1) (u+1) a4 w4 ht a' M5 λx r h1 h2=>c x r h1 ?_;rw[hs]at h2;rw[l,Jf he];exact h2
theorem PW(h:oA d bW T u C w)(W:pz T.Ls)(hF:pL bW pv b' w)(h4:b'.length<=4)(i':pL bW fl c' w)(j':c'.length<=4):∀(r:List Int) (j u:Nat) (A:cZ) (w':Wd),b'.drop j=r->u<=T.Ls.length->fx d [bW] 1 w (wρ bW T++[(r1,0),(r2,0)]) (tD T u C++CA) 69 (KB slot pv fl 11 22 j b'.length) A w' ->
  (∀x a,nC d [bW] w a->Iv d bW T C a x (((rm 10 slot r).bind λ_=>(rm 11 slot c').bind λ_=>E5 12 slot 0 0) false (T.Ls.drop u))->iv V main true d Stop (G (fr.finish x) E) a)->iv V main true d Stop (G ((base 109).at A ZX) (fr::E)) w':=by
 intro r
 induction r with
 | nil =>
  intro j u A w' v z M c;have hl:b'.length<=j:=by simpa using v
  obtain⟨ad,a',rfl,B,hq⟩:=i';refine nR M Z (decide_eq_false Za)<|ia 200 4 [] M Z Z mX λa1 w1 g=>VP h W ⟨ad,a',Z,B,hq⟩ j' c' 0 u a1 w1 Z z (g.nY 4 [0,1,2,3,8,9,10,15,44] sj Z Z Z) c
 | cons y t ih =>
  intro j u A w' v z M c;let⟨hy,ht⟩:=Kw v;obtain⟨b,o,a',rfl,hl,B⟩:=hF.at hy;have e1:=C7 (n:=j) Za;refine nV M Z (decide_eq_true Za)<|ia 200 4 [[vi y]] M Z Z ⟨⟨mX,by omega⟩,B⟩ λa1 w1 g=>uZ (h.hJ g.hJ (Q4 g Z)) W g z 4 (sj.filter λp=>!aG p.1 1) 10 slot y 0 Z Z Z Z Z Z Z Z Z Z (λ_ _=>rfl) (λK a2 w2 _ R=>?_) λn e s K k' he hs a2 w2 _ R=>?_
  .rw[K]at c;refine pQ 200 4 [] R Z Z mX λa3 w3 b3 b4 l=>nV l Z Z<|ia 200 6 [] l Z Z ⟨⟨mX,by kernel_rfl⟩,by kernel_rfl⟩ λa4 w4 q=>A9 q eJ Z Z Z<|c _ _ q.hJ ⟨⟨0,0,Z⟩,_,_,Q4 q Z⟩
  .refine pQ 200 4 [] R Z Z mX λa3 w3 b3 b4 l=>nR l Z Z<|ia 200 6 [] l Z Z mX λa4 w4 q=>?_;have M5:=fx.oS (ρ:=wρ bW T++[(r1,0),(r2,0)]) (ρ2:=[(b3,0),(b4,0)]) q 4 [0,1,2,3,8,9,10,11,22] sj Z Z Z;rw[e1]at M5;refine ih (j+1) (u+1) a4 w4 ht k' M5 λx a h1 h2=>c x a h1 ?_;rw[hs]at h2;rw[K,Jf he];exact h2
theorem Lw(h:oA d bW T u C w)(b:pz T.Ls)(c:u<=T.Ls.length)(hF:pL bW pv b' w)(e:b'.length<=4)(g:pL bW fl c' w)(j:c'.length<=4):oL main d 109 #[Po (J (O bW 0 Q)),vi slot,pv,fl] w λx w'=>nC d [bW] w w'/\Iv d bW T C w' x (J5 slot b' c' false (T.Ls.drop u)):=by
 have l:=hF;obtain⟨n,p,rfl,K,R⟩:=hF;refine y7 (sz:=69) (ρ:=wρ bW T) [.c (.p 1 0),.c (ci slot),.c (.v (.slice n b'.length p)),.c (.v fl)] h.oG (λs a=>?_) eJ Z Z Z λStop fr E A M q=>?_
 .simp only[ae,aj,or_false]at a;rcases a with rfl|rfl|rfl|rfl<;>first|trivial|exact dP
 refine pQ 200 2 [] M Z Z mX λr t r1 r2 v=>PW h b l e g j b' 0 u r t Z c (v.nY 4 [0,1,2,3,8,9,10,11,22] sj Z Z Z) λx y z B=>q x y ⟨z,B⟩
def AO(d:Nat->Nat)(bW:Nat)(T:Tk)(C:Vu)(ys:List Int)(w':Wd)(x:Vu):Node⊕((Int×(Int×Int)×List Int)×Bool×List (Int×Int))->Prop
 | .inl (.call n a b c)=>(∃r p q,x=.tuple #[vi r,.agg #[vi p,vi q],.agg #[vi n,vi a,vi b,vi c,b0,i0,i0],Bo false])/\∃e g,qz d bW T e g w'
 | .inl (.done _ _)=>False
 | .inr ((i,z,lf),go,rest)=>go=false/\x=.tuple #[vi i,.agg #[vi z.1,vi z.2],.agg #[i0,i0,i0,i0,b0,i0,i0],Bo true]/\∃e g,qz d bW T e g w'/\rest=T.Ls.drop e/\e<=T.Ls.length/\lf.length<=ys.length/\∀v,pL bW C ys v->pL bW g lf v
def Qx:List bh:=match Tryz.f108.body with
 | some (.seq _ (.seq (.seq _ (.block i (.loop (.seq (.seq x y) z)))) r))=>[.code y,.code z,.inLoop (.seq (.seq x y) z),.inBlock i,.code r]
 | _=>[]
abbrev QL(i n:Nat):l9:=[(0,.c (.p 1 0)),(2,.c (ci 0)),(3,.c (.p 2 0)),(4,.c (.p 3 0)),(5,.c (.v (Bo false))),(6,.c (ci i)),(25,.c (.v (Bo (decide ((i:Int)<(n:Int))))))]
theorem P0(m:M q)(f:q->M r)(b:Bool)(h:List (Int×Int)):(m.bind f) b h=match m b h with
 | .inl x=>.inl x
 | .inr (a,go',h')=>f a go' h':=Z
theorem MX{n:Int}(a:0<=n)(h:n<9223372036854775808):IntKind.i64.wrap n=n:=by
 simp[IntKind.wrap,IntKind.bits,IntKind.signed];omega
theorem QM{b o cap:Nat}(g:a<ys.length)(v:Wd)(h:pL bW (Sc (J (O b o Q)) ys.length cap) ys v):pL bW (.slice (if cap=a then J (O b o Q) else J (O b (o+a*1) Q)) (ys.length - a) (cap - a)) (ys.drop a) v:=by
 let⟨n,p,e,r,h⟩:=h;injection e with e _ c
 subst e c;let⟨s,t,e,j,l,y⟩:=h (λe=>by rw[e]at g;cases g);injection e with e
 injection e with e c
 subst e c;refine⟨_,_,by rw[gO],by rw[gO];omega,λ_=>⟨b,o+a,by grind,j,l,λq x z=>?_⟩⟩
 grind
theorem Iu{c:Int}:∀ {ys:List Int} {hs:List (Int×Int)} {z:Int×Int} {b j:List Int} {l:Bool} {p:List (Int×Int)},G9 e x g h c ys false hs=.inr ((z,b,j),l,p)->b.length<=ys.length
 | [],hs,z,b,j,l,p,a=>by
  cases hs with
  | nil=>cases a
  | cons r s =>
   injection a with a
   grind
 | y::t,hs,z,b,j,l,p,a=>by
  cases hs with
  | nil=>cases a
  | cons r s =>
   let⟨n,q⟩:=r
   by_cases v:q=5
   .subst v;exact Nat.le_succ_of_le (Iu (ys:=t) (hs:=s) a)
   .have a:(if q=5 then G9 e x g h c t else M.pure ((n,q),t,y::t)) (q==3) s=.inr ((z,b,j),l,p):=a;rw[mY v]at a;injection a with a
    grind
theorem AO.mono{x:Vu}(a:j.length<=ys.length)(b:∀v,pL bW C ys v->pL bW n j v):∀ {r:Node⊕((Int×(Int×Int)×List Int)×Bool×List (Int×Int))},AO d bW T n j w' x r->AO d bW T C ys w' x r
 | .inl (.call _ _ _ _),h=>h
 | .inl (.done _ _),h=>h
 | .inr ((i,z,lf),go,rest),⟨h1,h2,u',n,h3,h4,h5,h6,h7⟩=>⟨h1,h2,u',n,h3,h4,h5,Zh h6 a,λv c=>h7 v (b v c)⟩
theorem qd.slo(h:qd d bW T w){i:Nat}(a:i<T.K.nS)(j:Nat)(b:(N7 T.K i).toList[j]?=J n):so w [bW] (O T.gS (0+(i:Int).toNat*20+j) Q) n:=⟨h.sl.1,by simpa using h.sl.2,by rw[aE,au];exact h.ss i a j n b⟩
theorem b7j(h:oA d bW T u C w)(h3:pz T.Ls):∀(f i:Nat) (ys:List Int) (u:Nat) (C:Vu) (A:cZ) (w':Wd),i+f=T.K.nS->u<=T.Ls.length->pL bW C ys w->ys.length<=32->fx d [bW] 1 w (wρ bW T++[(r1,0),(r2,0)]) (tD T u C++CA) 89 (QL i T.K.nS) A w' ->
  (∀x K,nC d [bW] w K->AO d bW T C ys K x (tA T.K f i ys false (T.Ls.drop u))->iv V main true d Stop (G (fr.finish x) E) K)->iv V main true d Stop (G ((base 108).at A Qx) (fr::E)) w':=by
 have h6:=h.tk.nS;have t':=h.tk.max;intro f
 induction f with
 | zero =>
  intro i ys u C A w' hi R hF hy M g;refine nR M Z (decide_eq_false Za)<|ia 200 4 [] M Z Z mX λa1 w1 t=>uZ (h.hJ t.hJ (Q4 t Z)) h3 t R 4 (sj.filter λp=>!aG p.1 1) 1 0 0 0 Z Z Z Z Z Z Z Z Z Z (λ_ _=>rfl) (λhd W w2 _ l=>?_) λn e s hd j' he hs W w2 _ l=>?_
  .rw[hd]at g;refine pQ 200 4 [] l Z Z ⟨⟨mX,by kernel_rfl⟩,by kernel_rfl⟩ λa3 w3 b3 b4 j=>A9 j fE Z Z Z<|g _ _ j.hJ ⟨⟨0,0,10,Z⟩,_,_,Q4 j Z⟩
  .rw[hd]at g;refine pQ 200 4 [] l Z Z ⟨⟨mX,by kernel_rfl⟩,by kernel_rfl⟩ λa3 w3 b3 b4 j=>A9 j fE Z Z Z<|g _ _ j.hJ ⟨by simpa using he,Z,u+1,C,Q4 j Z,hs.symm,j',af _,λv hv=>hv⟩
 | succ f ih =>
  intro i ys u C A w' hi R hF hy M g;have hc:=h.tk.slo (i:=i) Za 0 Z;have e1:=C7 (n:=i) Za;refine nV M Z (decide_eq_true Za)<|ia 200 4 [[vi (T.K.S i 0)]] M Z Z ⟨⟨mX,by omega⟩,hc⟩ λa1 w1 t=>?_;unfold tA at g
  by_cases h0:T.K.S i 0=0
  .rw[mZ h0]at g;refine nV t Z (by simpa using h0) ?_;have k':=hF;obtain⟨ad,o',rfl,y',hq⟩:=hF;refine ia 200 4 [] t Z Z mX λW w2 l=>A4 l (CD (h.hJ l.hJ (Q4 l Z)) h3 R (k'.hJ l.hJ) hy 5 i 0 0 false) Z Z Z dN Z Z Z Z Z λx w3 z=>?_;let⟨L,z⟩:=z;rw[P0]at g;rcases hR:G9 5 false i 0 0 ys false (T.Ls.drop u) with nd|⟨⟨⟨zn,ze⟩,lf,bk⟩,go,C'⟩
   .rw[hR]at z g
    cases nd with
    | done _ _=>exact z.elim
    | call n a b c =>
     obtain⟨⟨p,q,rfl⟩,y,l',k⟩:=z;have j:=l.walked L k 4 (sj.filter λp=>!aG p.1 1) Z Z Z;refine E3 j 4 (.t [.g [ci p,ci q],.g [ci n,ci a,ci b,ci c,.v b0,.v i0,.v i0],.c (.v (Bo false))]) Z Z Z Z Z λa4 M4=>pQ 200 4 [] M4 Z Z mX λa5 w5 b5 b6 B=>nV B Z Z<|ia 200 6 [] B Z Z ⟨⟨mX,by kernel_rfl⟩,by kernel_rfl⟩ λa6 w6 r=>A9 r fE Z Z Z<|g _ _ r.hJ ⟨⟨i,p,q,Z⟩,_,_,Q4 r Z⟩
   .rw[hR]at z g;obtain⟨rfl,rfl,y,l',k,hr,j',m',p',q'⟩:=z;have j:=l.walked L k 4 (sj.filter λp=>!aG p.1 1) Z Z Z;refine E3 j 4 (vY zn ze) Z Z Z Z Z λa4 M4=>pQ 200 4 [] M4 Z Z mX λa5 w5 b5 b6 B=>?_
    by_cases h7:ze=7
    .subst h7;refine nR B Z Z ?_;have hj:y - u - 1<ys.length:=by
      have:=Lt hR (show(7:Int)≠10 by decide)
      simp_all
     obtain⟨b,o,rfl,_⟩:=hq (λe=>by rw[e]at hj;cases hj);have n':=λv=>QM (bW:=bW) (ys:=ys) (b:=b) (o:=o) (cap:=o') hj v;have e4:IntKind.i64.wrap (IntKind.i64.wrap ((y:Int) - (u:Int)) - 1)=((y - u - 1:Nat):Int):=by
      rw[MX (n:=(y:Int) - u) Za Za,MX Za Za];omega
     refine ia 200 6 [] B Z Z ⟨mX,by rw[e4];omega⟩ λa6 w6 r=>?_;have M7:=fx.oS (ρ:=wρ bW T++[(r1,0),(r2,0)]) (ρ2:=[(b5,0),(b6,0)]) r 4 [0,2,3,4,5,6,25] sj Z Z Z;rw[e1,e4,au]at M7;refine ih (i+1) (ys.drop (y - u - 1)) y _ a6 w6 Za m' (n' w k') (by rw[gO];omega) M7 λx K h1 h2=>g x K h1 ?_;rw[q',hr];exact h2.mono (by rw[gO];omega) n'
    .refine nV B Z (by simpa using h7)<|ia 200 6 [] B Z Z ⟨⟨mX,by kernel_rfl⟩,by kernel_rfl⟩ λa6 w6 r=>A9 r fE Z Z Z<|g _ _ r.hJ ?_;simp only[mY h7];exact⟨Z,Z,y,l',Q4 r Z,hr,m',Iu hR,p'⟩
  .rw[mY h0]at g;refine nR t Z (by simpa using h0)<|ia 200 4 [] t Z Z mX λW w2 l=>?_;have j:=l.nY 4 [0,2,3,4,5,6,25] sj Z Z Z;rw[e1]at j;exact ih (i+1) ys u C W w2 Za R hF hy j g
theorem Yr(h:oA d bW T u C w)(a:pz T.Ls)(b:u<=T.Ls.length)(hF:pL bW C ys w)(c:ys.length<=32):oL main d 108 #[Po (J (O bW 0 Q))] w λx w'=>nC d [bW] w w'/\AO d bW T C ys w' x (tA T.K T.K.nS 0 ys false (T.Ls.drop u)):=by
 refine y7 (sz:=89) (ρ:=wρ bW T) [.c (.p 1 0)] h.oG (λs e=>?_) fE Z Z Z λStop fr E A M g=>?_
 .cases Zi e;exact dP
 refine pQ 200 2 [] M Z Z mX λj l r1 r2 n=>b7j h a T.K.nS 0 ys u C j l Za b hF c (n.nY 4 [0,2,3,4,5,6,25] sj Z Z Z) λx p q r=>g x p ⟨q,r⟩
def se(x:Vu):Node⊕((Int×Int)×Bool×List (Int×Int))->Prop
 | .inl (.call n a b c)=>x=.agg #[vi n,vi a,vi b,vi c,b0,i0,i0]
 | .inl (.done _ _)=>False
 | .inr (z,go,rest)=>x=.agg #[i0,i0,i0,i0,Bo true,vi z.1,vi z.2]
abbrev KZ(v e:Int):List nI:=[.v i0,.v i0,.v i0,.v i0,.v (Bo true),ci v,ci e]
def wdK:List bh:=match Tryz.f91.body with
 | some (.seq _ (.seq _ (.seq _ (.block i (.loop c)))))=>[.code c,.inLoop c,.inBlock i]
 | _=>[]
theorem TA(g:Fit d w)(h:∀k,w.heap.size<=k->d k=0)(v e:Int):oL main d 94 #[vi v,vi e] w λx w'=>x=.agg #[i0,i0,i0,i0,Bo true,vi v,vi e]/\nC d [] w w':=by
 refine y7 (sz:=8) (ρ:=[]) (m:=[]) (W:=[]) (ro:=0) [.c (ci v),.c (ci e)] ⟨λe l=>(by cases l),λi a=>(by cases a),λi j a=>(by cases a),λi _ a=>(by cases a),g,h⟩ (λs b=>?_) lG Z Z Z λStop fr E A M n=>?_
 .simp only[ae,aj,or_false]at b;rcases b with rfl|rfl<;>trivial
 refine sw 100 0 [] M Z Z mX λp q r c=>A9 c lG Z Z Z<|n _ _ ⟨Z,c.hJ⟩
theorem uh{W:List Nat}{H:Wd}{m:Mem}{F:Nat}{I g:l9}{A:cZ}{P:Array aL}{f:bC}{k:List bh}{i D:Nat}{L:List Nat}{o:aL}{S:Array aS}{X:Array Ti}(b e:Int)(M:fx d W a H v m F I A w)(j:P[i]?=J o)(l:o.guard=Q)(n:o.op=.call { callee:=.value (.func 94),args:=S,argTypes:=X })(p:(S.toList.map λx=>(pJ I x).map (·.den v))=[J (vi b),J (vi e)])(q:o.dst=J D)(h:cE D F=true)(r:qA D (.g (KZ b e)) I=J g)(s:∀c w',fx d W a H v m F g c w'->iv V main true d Stop (G ((base f).at c (.inRegion P L::k)) E) w'):iv V main true d Stop (G ((base f).at A (.inRegion P (i::L)::k)) E) w:=by
 refine A4 M (TA M.fit (λk t=>M.new k (Zh M.size t)) b e) j l n lG Z Z p q h λx B y=>?_;obtain⟨rfl,z⟩:=y;exact E3 (M.still z) v.length (.g (KZ b e)) Z Z h Z r λc=>s c _
abbrev CO(b a:Int)(e:Int):M (Int×Int):=if e≠0\/b=16 then M.pure (0,e) else E5 18 0 a 0
theorem Qz{c n a:Int}{s:List (Int×Int)}{f:Int->M q}(l:a≠3):((J4 e g h c).bind f) false ((n,a)::s)=if a=11 then((J4 e g h c).bind f) false s else f a false s:=by
 by_cases b:a=11
 .subst b;rfl
 .have j:J4 e g h c false ((n,a)::s)=.inr (a,false,s):=by
   show(if a=11 then zi e g h c s else .inr (a,a==3,s))=_
   grind
  rw[P0,j,mY b]
theorem KS(h:oA d bW T a C w)(h3:pz T.Ls)(q B b:Int)(hn:q=16\/q=17):∀(n u:Nat) (A:cZ) (w':Wd),u+n=T.Ls.length->fx d [bW] 1 w (wρ bW T++[(r1,0)]) (tD T u C++[(2,0,.v i0),(2,1,.v i0),(2,2,.v i0),(2,3,.v i0),(2,4,.v b0),(2,5,.v i0),(2,6,.v i0)]) 60 [(0,.c (.p 1 0)),(1,.c (ci B)),(2,.c (ci b)),(6,.c (.p 2 0)),(7,.c (ci q))] A w' ->
  (∀x g',nC d [bW] w g'->se x (((J4 q b 0 B).bind (CO q B)) false (T.Ls.drop u))->iv V main true d Stop (G (fr.finish x) E) g')->iv V main true d Stop (G ((base 91).at A wdK) (fr::E)) w':=by
 intro n
 induction n with
 | zero =>
  intro u A w' hu M c;refine ia 200 3 [] M Z Z mX λa1 w1 r=>uZ (h.hJ r.hJ (Q4 r Z)) h3 r Za 3 ((qK++[(2,0),(2,1),(2,2),(2,3),(2,4),(2,5),(2,6)]).filter λp=>!aG p.1 1) q b 0 B Z Z Z Z Z Z Z Z Z Z (λ_ _=>rfl) (λj a2 w2 _ R=>?_) λn e s j e' he hs a2 w2 _ R=>?_
  .rw[j]at c;refine pQ 200 3 [] R Z Z mX λa3 w3 b3 b4 W=>nV W Z Z<|ia 200 5 [] W Z Z mX λa4 w4 t=>A9 t eS Z Z Z<|c _ _ t.hJ Z
  .omega
 | succ n ih =>
  intro u A w' hu M c;refine ia 200 3 [] M Z Z mX λa1 w1 r=>uZ (h.hJ r.hJ (Q4 r Z)) h3 r Za 3 ((qK++[(2,0),(2,1),(2,2),(2,3),(2,4),(2,5),(2,6)]).filter λp=>!aG p.1 1) q b 0 B Z Z Z Z Z Z Z Z Z Z (λ_ _=>rfl) (λj a2 w2 _ R=>?_) λx e s j e' he hs a2 w2 _ R=>?_
  .have:=congrArg List.length j;simp at this;omega
  .rw[j,Qz he]at c;refine pQ 200 3 [] R Z Z mX λa3 w3 b3 b4 W=>nR W Z Z<|ia 200 5 [] W Z Z mX λa4 w4 t=>?_
   by_cases f':e=11
   .subst f';refine nV t Z Z<|ia 2 5 [] t Z Z mX λa5 w5 K=>ih (u+1) a5 w5 Za (fx.oS (ρ:=wρ bW T++[(r1,0)]) (ρ2:=[(b3,0),(b4,0)]) K 3 [0,1,2,6,7] (qK++[(2,0),(2,1),(2,2),(2,3),(2,4),(2,5),(2,6)]) Z Z Z) ?_
    grind
   .rw[mY f']at c;refine nR t Z (by simpa using f')<|ia 8 5 [] t Z Z mX λa5 w5 K=>?_
    by_cases h0:e=0
    .subst h0;rcases hn with rfl|rfl
     .refine ia 200 5 [] K Z Z mX λa6 w6 l=>nV l Z Z<|ia 200 5 [] l Z Z mX λa7 w7 v=>uh 0 0 v Z Z Z Z Z Z Z λa8 w8 z=>ia 200 5 [] z Z Z mX λa9 w9 g=>A9 g eS Z Z Z<|c _ _ g.hJ Z
     .refine ia 200 5 [] K Z Z mX λa6 w6 l=>nR l Z Z<|ia 200 5 [] l Z Z mX λa7 w7 v=>uZ (h.hJ v.hJ (Q4 v Z)) h3 v e' 5 ((qK++[(2,0),(2,1),(2,2),(2,3),(2,4),(2,5),(2,6),(3,0),(3,1),(4,0),(4,1),(4,2),(4,3),(4,4),(4,5),(4,6)]).filter λp=>!aG p.1 1) 18 0 B 0 Z Z Z Z Z Z Z Z Z Z (λ_ _=>rfl) (λj a8 w8 _ z=>?_) λy e s' j e' he l' a8 w8 _ z=>?_
      .rw[←hs,j]at c;refine ia 200 5 [] z Z Z mX λa9 w9 g=>nV g Z Z<|ia 200 5 [] g Z Z mX λi' j' a'=>A9 a' eS Z Z Z<|c _ _ a'.hJ Z
      .rw[←hs,j]at c;refine ia 200 5 [] z Z Z mX λa9 w9 g=>nR g Z Z<|ia 200 5 [] g Z Z mX λi' j' a'=>uh y e a' Z Z Z Z Z Z Z λm' n' k'=>ia 200 5 [] k' Z Z mX λo' p' h'=>A9 h' eS Z Z Z<|c _ _ h'.hJ Z
    .rw[show(e != 0)=true by simpa using h0]at K;refine ia 200 5 [] K Z Z mX λa6 w6 l=>nV l Z Z<|ia 200 5 [] l Z Z mX λa7 w7 v=>uh 0 e v Z Z Z Z Z Z Z λa8 w8 z=>ia 200 5 [] z Z Z mX λa9 w9 g=>A9 g eS Z Z Z<|c _ _ g.hJ ?_;unfold CO;rw[mZ (.inl h0)];rfl
theorem Tw(h:oA d bW T u C w)(t:pz T.Ls)(y:u<=T.Ls.length)(a b:Int):oL main d 91 #[Po (J (O bW 0 Q)),vi a,vi b] w λx w'=>nC d [bW] w w'/\se x (((J4 (if T.kd=5 then 17 else 16) b 0 a).bind (CO (if T.kd=5 then 17 else 16) a)) false (T.Ls.drop u)):=by
 refine y7 (sz:=60) (ρ:=wρ bW T) [.c (.p 1 0),.c (ci a),.c (ci b)] h.oG (λs v=>?_) eS Z Z Z λStop fr E A M c=>?_
 .simp only[ae,aj,or_false]at v;rcases v with rfl|rfl|rfl<;>first|trivial|exact dP
 refine sw 200 2 [] M Z Z mX λz B r1 e=>?_
 by_cases g:T.kd=5
 .simp only[mZ g]at c;refine nV e Z (by simpa using g)<|ia 5 3 [] e Z Z mX λj l n=>KS h t 17 a b (.inr Z) (T.Ls.length - u) u j l Za (n.nY 3 [0,1,2,6,7] (qK++[(2,0),(2,1),(2,2),(2,3),(2,4),(2,5),(2,6)]) Z Z Z) λx p q r=>c x p ⟨q,r⟩
 .simp only[mY g]at c;refine nR e Z (by simpa using g)<|ia 3 3 [] e Z Z mX λj l n=>KS h t 16 a b (.inl Z) (T.Ls.length - u) u j l Za (n.nY 3 [0,1,2,6,7] (qK++[(2,0),(2,1),(2,2),(2,3),(2,4),(2,5),(2,6)]) Z Z Z) λx p q r=>c x p ⟨q,r⟩
theorem NA:oY 103 3 1 8:=⟨by kernel_rfl,by kernel_rfl⟩
abbrev rM(d:Nat->Nat)(bW:Nat)(H:Wd)(c:ou)(a:Vu)(b:List Int)(w:Wd):Prop:=oM d [bW] H c H.heap.size 3 1 a b.length (b.map vi) w
theorem yU(d:Nat->Nat)(bW:Nat)(H:Wd)(a:ou)(w:Wd):rM d bW H a (Sc Q 0 0) [] w:=⟨⟨Z,.inl ⟨Z,Z⟩⟩,λg h=>(by cases h),λg h=>(by cases h),λg h=>(by cases h)⟩
def NP:List bh:=match Tryz.f90.body with
 | some (.seq _ (.seq (.seq _ (.block i (.loop (.seq (.seq x y) z)))) r))=>[.code y,.code z,.inLoop (.seq (.seq x y) z),.inBlock i,.code r]
 | _=>[]
def Mh:List bh:=match Tryz.f90.body with
 | some (.seq _ (.seq (.seq _ (.block i (.loop (.seq xy (.seq (.block i1 (.seq r4 (.seq r5 (.cond c (.seq r6 (.seq r7 (.seq (.seq r8 (.block i2 (.loop (.seq (.seq r9 c50) z9)))) tl))) sk)))) r3))))) r))=>[.code c50,.code z9,.inLoop (.seq (.seq r9 c50) z9),.inBlock i2,.code tl,.inBlock i1,.code r3,.inLoop (.seq xy (.seq (.block i1 (.seq r4 (.seq r5 (.cond c (.seq r6 (.seq r7 (.seq (.seq r8 (.block i2 (.loop (.seq (.seq r9 c50) z9)))) tl))) sk)))) r3)),.inBlock i,.code r]
 | _=>[]
def TP:List bh:=match Mh with
 | .code _::.code (.seq (.block i3 (.seq p1 p2)) r10)::rest=>.code p2::.inBlock i3::.code r10::rest
 | _=>[]
abbrev GK(K:aa)(p q:Nat):Mem:=[(q,0,ci (K.S p 0)),(q,1,ci (K.S p 1)),(q,2,ci (K.S p 2)),(q,3,ci (K.S p 3)),(q,4,.v (Bo (K.B p 4))),(q,5,ci (K.S p 5)),(q,6,.v (Bo (K.B p 6))),(q,7,ci (K.S p 7)),(q,8,.v (Bo (K.B p 8))),(q,9,ci (K.S p 9)),(q,10,.v (Bo (K.B p 10))),(q,11,ci (K.S p 11)),(q,12,.v (Bo (K.B p 12))),(q,13,ci (K.S p 13)),(q,14,.v (Bo (K.B p 14))),(q,15,ci (K.S p 15)),(q,16,.v (Bo (K.B p 16))),(q,17,ci (K.S p 17)),(q,18,.v (Bo (K.B p 18))),(q,19,ci (K.S p 19))]
abbrev yv(q:Nat):List (Nat×Nat):=[(q,0),(q,1),(q,2),(q,3),(q,4),(q,5),(q,6),(q,7),(q,8),(q,9),(q,10),(q,11),(q,12),(q,13),(q,14),(q,15),(q,16),(q,17),(q,18),(q,19)]
abbrev AQ:Mem:=[(2,0,.v i0),(2,1,.v i0),(2,2,.v i0),(2,3,.v i0),(2,4,.v b0),(2,5,.v i0),(2,6,.v i0)]
abbrev sA:List (Nat×Nat):=[(2,0),(2,1),(2,2),(2,3),(2,4),(2,5),(2,6)]
theorem Ck{H:Wd}{ρ2:ou}(a:rM d bW H (wρ bW T++ρ2) n j w):pL bW n j w:=by
 let⟨⟨q,b⟩,_,_,l⟩:=a;rcases b with⟨rfl,b⟩|⟨g,cap,cur,rfl,g1,g2,g3,g4,g5,g6⟩
 .exact⟨Q,0,by rw[b],by omega,λh=>absurd (dI b) h⟩
 .refine⟨_,cap,Z,g3,λ_=>⟨g,0,Z,(Zj g2).1,λe=>l g Z 1 Zc e.symm,λp x r=>?_⟩⟩;have c:(j.map vi)[p]?=J (vi x):=by grind
  rw[←g6,eO]at c;split at c
  .simp only[aC,g2,aE];simpa using c
  .cases c
theorem CP{H:Wd}{c:ou}{m:Mem}{F:Nat}{I v:l9}{e':Vu->l9}{A:cZ}{P:Array aL}{f:bC}{k:List bh}{i D:Nat}{L:List Nat}{o:aL}{x y:aS}{l:Vu}{qs:List Int}(hW:bW∈c.map (·.1))(M:fx d [bW] 1 H c m F I A w)(b:rM d bW H c n j w)(z:rM d bW H c l qs w)(p':∀g,n.ownBlock=J g->l.ownBlock≠J g)(h4:j.length<=32)(ho:P[i]?=J o)(hg:o.guard=Q)(h':o.op=.buildSlice 103 1 #[(0,y)])(hd:o.dst=J a)(i':P[i+1]?=J t)(j':t.guard=Q)(k':t.op=.call { callee:=.builtin .append,args:=#[x,.tmp a],argTypes:=#[103,103] })(l':t.dst=J D)(hy:pJ I y=J (.c (ci e)))(B:(cE a F&&cE D F)=true)(K:tz a I []=J v)(hx:pJ v x=J (.c (.v n)))(hp:∀h,qA D (.c (.v h)) v=J (e' h))(m':∀r w' h,fx d [bW] 1 H c m F (e' h) r w'->rM d bW H c h (j++[e]) w'->rM d bW H c l qs w'->(∀g,h.ownBlock=J g->l.ownBlock≠J g)->iv V main true d Stop (G ((base f).at r (.inRegion P L::k)) E) w') :
  iv V main true d Stop (G ((base f).at A (.inRegion P (i::(i+1)::L)::k)) E) w:=by
 simp only[aB]at B;refine Hv NA M b (af _) Za Zb ho hg h' hd i' j' k' l' hy (l:=[ci e]) Z (by simp[uz,jV,B.1,B.2]) K hx λr w' g q' r' Lf M' f' O' R=>?_;rw[hp]at f';cases Ze f';have hb:∀p,l.ownBlock=J p->p∉[bW]++n.ownBlock.toList:=λp W s=>by
  rcases bZ.1 s with s|s
  .cases Zi s;let⟨q,_,n',o'⟩:=vT (ρ:=c) (ro:=0) hW;exact z.ne _ W q n' o'
  grind
 refine m' r w' _ M' ?_ (z.hJ Lf λg K h2=>hb g K (da _ h2)) λp W h2=>?_
 .have e1:(j++[e]).length=j.length+1:=by simp
  have e2:(j++[e]).map vi=j.map vi++[ci e].map (·.den c):=by simp[nI.den]
  grind
 .obtain rfl:g=p:=Ze W;rcases R with R|R
  .grind
  .have:=(j8 z.row h2).2;omega
theorem Sa(h:oA d bW T u C w)(h3:pz T.Ls)(hu:u<=T.Ls.length){i:Nat}(hi:i<T.K.nS):∀(n j:Nat) (pv fl:Vu) (A:cZ) (w':Wd),j+n=4->rM d bW w (wρ bW T++[(r1,0),(r2,0)]) pv (I7 (λq=>T.K.S i (3+q*2)) j) w'->rM d bW w (wρ bW T++[(r1,0),(r2,0)]) fl (I7 (λq=>T.K.S i (11+q*2)) j) w'->(∀g,pv.ownBlock=J g->fl.ownBlock≠J g)->fx d [bW] 1 w (wρ bW T++[(r1,0),(r2,0)]) (tD T u C++AQ++GK T.K i 3) 100 [(0,.c (.p 1 0)),(1,.c (ci slot)),(4,.c (.p 2 0)),(5,.c (ci i)),(6,.c (.p 3 0)),(7,.c (.v pv)),(8,.c (.v fl)),(9,.c (ci j)),(50,.c (.v (Bo (decide ((j:Int)<4)))))] A w' ->
  (∀x g',nC d [bW] w g'->se x (J5 i (uN T.K i) (vj T.K i) false (T.Ls.drop u))->iv V main true d Stop (G (fr.finish x) E) g')->iv V main true d Stop (G ((base 90).at A Mh) (fr::E)) w':=by
 intro n
 induction n with
 | zero =>
  intro j pv fl A w' hj Op Of e' M z;obtain rfl:j=4:=by omega
  refine nR M Z Zb<|p7 200 4 [] M Z Z mX λa1 w1 l s=>A4 l (Lw (h.hJ l.hJ (Q4 l Z)) h3 hu (Ck (Op.kq s)) (X9 _ _) (Ck (Of.kq s)) (X9 _ _)) Z Z Z eJ Z Z Z Z Z λx w2 K=>?_;let⟨L,K⟩:=K;have z:∀x g',nC d [bW] w g'->se x (J5 i (I7 (λq=>T.K.S i (3+q*2)) 4) (I7 (λq=>T.K.S i (11+q*2)) 4) false (T.Ls.drop u))->iv V main true d Stop (G (fr.finish x) E) g':=z;rcases hR:J5 i (I7 (λq=>T.K.S i (3+q*2)) 4) (I7 (λq=>T.K.S i (11+q*2)) 4) false (T.Ls.drop u) with nd|⟨⟨zn,ze⟩,go,k'⟩
  .rw[hR]at K z
   cases nd with
   | done _ _=>exact K.elim
   | call n a b c =>
    obtain⟨⟨p,q,rfl⟩,u',l',k⟩:=K;have y:=l.walked L k 4 ((qK++sA).filter λp=>!aG p.1 1) Z Z Z;refine E3 y 4 (.t [.g [ci p,ci q],.g [ci n,ci a,ci b,ci c,.v b0,.v i0,.v i0],.c (.v (Bo false))]) Z Z Z Z Z λa4 R=>pQ 200 4 [] R Z Z mX λa5 w5 b5 b6 B=>nV B Z Z<|ia 200 6 [] B Z Z mX λa6 w6 M6=>A9 M6 fO Z Z Z<|z _ _ M6.hJ Z
  .rw[hR]at K z;obtain⟨rfl,rfl,u',k,_⟩:=K;have y:=l.walked L k 4 ((qK++sA).filter λp=>!aG p.1 1) Z Z Z;refine E3 y 4 (vY zn ze) Z Z Z Z Z λa4 R=>pQ 200 4 [] R Z Z mX λa5 w5 b5 b6 B=>nR B Z Z<|ia 200 6 [] B Z Z mX λa6 w6 M6=>uh zn ze M6 Z Z Z Z Z Z Z λa7 w7 M7=>ia 200 6 [] M7 Z Z mX λa8 w8 M8=>A9 M8 fO Z Z Z<|z _ _ M8.hJ Z
 | succ n ih =>
  intro j pv fl A w' hj Op Of e' M z;have hG:T.K.S i (3+j*2)=-1\/_:=h.tk.mL.dy i j hi Za;have h':T.K.S i (11+j*2)=-1\/_:=h.tk.mL.file i j hi Za;have e1:=C7 (n:=j) Za;have j':∀(pv fl:Vu) (A:cZ) (w':Wd),rM d bW w (wρ bW T++[(r1,0),(r2,0)]) pv (I7 (λq=>T.K.S i (3+q*2)) (j+1)) w'->rM d bW w (wρ bW T++[(r1,0),(r2,0)]) fl (I7 (λq=>T.K.S i (11+q*2)) j) w'->(∀g,pv.ownBlock=J g->fl.ownBlock≠J g)->fx d [bW] 1 w (wρ bW T++[(r1,0),(r2,0)]) (tD T u C++AQ++GK T.K i 3) 100 [(0,.c (.p 1 0)),(1,.c (ci slot)),(4,.c (.p 2 0)),(5,.c (ci i)),(6,.c (.p 3 0)),(7,.c (.v pv)),(8,.c (.v fl)),(9,.c (ci j))] A w'->iv V main true d Stop (G ((base 90).at A TP) (fr::E)) w':=by
   intro pv fl A w' Op Of e' M;have t:=DR (λq=>T.K.S i (11+q*2)) j;have W:T.K.S i (11+j*2)=-1->¬0<=T.K.S i (11+j*2):=λe=>by omega
   have a':T.K.S i (11+j*2)≠-1->0<=T.K.S i (11+j*2):=λe=>(h'.resolve_left e).1;have hl:=X9 (λq=>T.K.S i (11+q*2)) j;clear hG h'
   by_cases r:T.K.S i (11+j*2)=-1
   .rw[mY (by simp[r]),cy]at t;rw[←t]at Of;replace r:=W r;clear W a' t;cases j,(Za:j<4) using eL
    all_goals
     refine p7 200 4 [] M Z Z ⟨mX,by decide⟩ λa1 w1 l s=>nR l Z (decide_eq_false r)<|p7 200 4 [] l Z Z mX λa2 w2 M2 v=>?_;have y:=M2.nY 4 [0,1,4,5,6,7,8,9,50] (qK++sA++yv 3) Z Z Z;rw[e1]at y;exact ih _ pv fl a2 w2 Za ((Op.kq s).kq v) ((Of.kq s).kq v) e' y z
   .rw[mZ (by simpa using r)]at t;replace r:=a' r;clear W a';cases j,(Za:j<4) using eL
    all_goals
     refine p7 200 4 [] M Z Z ⟨mX,by decide⟩ λa1 w1 l s=>nV l Z (decide_eq_true r)<|p7 200 4 [] l Z Z mX λa2 w2 M2 v=>CP (ah _ (ao ..)) M2 ((Of.kq s).kq v) ((Op.kq s).kq v) (λg h1 h2=>e' g h2 h1) Za Z Z Z Z Z Z Z Z Z Z Z Z (λ_=>rfl) λa3 w3 V' y O3 O4 i'=>p7 200 4 [] y Z Z mX λa4 w4 R q4=>?_;have B:=R.nY 4 [0,1,4,5,6,7,8,9,50] (qK++sA++yv 3) Z Z Z;rw[e1]at B;exact ih _ pv V' a4 w4 Za (O4.kq q4) (by rw[t];exact O3.kq q4) (λg h1 h2=>i' g h2 h1) B z
  have t:=DR (λq=>T.K.S i (3+q*2)) j;have W:T.K.S i (3+j*2)=-1->¬0<=T.K.S i (3+j*2):=λe=>by omega
  have a':T.K.S i (3+j*2)≠-1->0<=T.K.S i (3+j*2):=λe=>(hG.resolve_left e).1;have hl:=X9 (λq=>T.K.S i (3+q*2)) j;clear hG h' ih
  by_cases r:T.K.S i (3+j*2)=-1
  .rw[mY (by simp[r]),cy]at t;rw[←t]at Op;replace r:=W r;clear W a' t;cases j,(Za:j<4) using eL
   all_goals
    refine nV M Z Zb<|p7 200 4 [] M Z Z ⟨mX,by decide⟩ λa1 w1 l s=>nR l Z (decide_eq_false r)<|p7 1 4 [] l Z Z mX λa2 w2 M2 v=>j' pv fl a2 w2 ((Op.kq s).kq v) ((Of.kq s).kq v) e' (M2.nY 4 [0,1,4,5,6,7,8,9] (qK++sA++yv 3) Z Z Z)
  .rw[mZ (by simpa using r)]at t;replace r:=a' r;clear W a';cases j,(Za:j<4) using eL
   all_goals
    refine nV M Z Zb<|p7 200 4 [] M Z Z ⟨mX,by decide⟩ λa1 w1 l s=>nV l Z (decide_eq_true r)<|p7 200 4 [] l Z Z mX λa2 w2 M2 v=>CP (ah _ (ao ..)) M2 ((Op.kq s).kq v) ((Of.kq s).kq v) e' Za Z Z Z Z Z Z Z Z Z Z Z Z (λ_=>rfl) λa3 w3 V' y O3 O4 i'=>p7 2 4 [] y Z Z mX λa4 w4 R q4=>j' V' fl a4 w4 (by rw[t];exact O3.kq q4) (O4.kq q4) i' (R.nY 4 [0,1,4,5,6,7,8,9] (qK++sA++yv 3) Z Z Z)
abbrev LL(slot:Int)(i n:Nat):l9:=[(0,.c (.p 1 0)),(1,.c (ci slot)),(4,.c (.p 2 0)),(5,.c (ci i)),(26,.c (.v (Bo (decide ((i:Int)<(n:Int))))))]
theorem b8S(h:oA d bW T u C w)(K:pz T.Ls)(R:u<=T.Ls.length):∀(f i:Nat) (A:cZ) (w':Wd),i+f=T.K.nS->fx d [bW] 1 w (wρ bW T++[(r1,0)]) (tD T u C++AQ) 100 (LL slot i T.K.nS) A w' ->
  (∀x W,nC d [bW] w W->se x (uA T.K slot f i false (T.Ls.drop u))->iv V main true d Stop (G (fr.finish x) E) W)->iv V main true d Stop (G ((base 90).at A NP) (fr::E)) w':=by
 have h6:=h.tk.nS;intro f
 induction f with
 | zero =>
  intro i A w' hi M c;refine nR M Z (decide_eq_false Za)<|ia 200 3 [] M Z Z mX λa1 w1 l=>uZ (h.hJ l.hJ (Q4 l Z)) K l R 3 ((qK++sA).filter λp=>!aG p.1 1) 1 0 0 0 Z Z Z Z Z Z Z Z Z Z (λ_ _=>rfl) (λB q r _ a=>?_) λn e s B h' he hs q r _ a=>?_
  .rw[B]at c;refine pQ 200 3 [] a Z Z mX λt v b3 b4 b=>nV b Z Z<|ia 200 5 [] b Z Z mX λa4 w4 j=>A9 j fO Z Z Z<|c _ _ j.hJ Z
  .rw[B]at c;refine pQ 200 3 [] a Z Z mX λt v b3 b4 b=>nR b Z Z<|ia 200 5 [] b Z Z mX λa4 w4 j=>uh 0 11 j Z Z Z Z Z Z Z λa5 w5 M5=>ia 200 5 [] M5 Z Z mX λa6 w6 M6=>A9 M6 fO Z Z Z<|c _ _ M6.hJ Z
 | succ f ih =>
  intro i A w' hi M c;have e1:=C7 (n:=i) Za;have hr:vA w [bW] T.gS (0+(i:Int).toNat*20) (N7 T.K i).toList:=⟨h.tk.sl.1,by simpa using h.tk.sl.2,by rw[aE,au];exact h.tk.ss i Za⟩;unfold uA at c;refine nV M Z (decide_eq_true Za)<|sw 25 3 [(N7 T.K i).toList] M Z Z ⟨⟨mX,by omega⟩,hr⟩ λa1 w1 b1 l=>?_;have next:∀q r,fx d [bW] 1 w (wρ bW T++[(r1,0)]) (tD T u C++AQ) 100 (LL slot (i+1) T.K.nS) q r->¬(T.K.S i 1==slot&&T.K.S i 0==3)=true->iv V main true d Stop (G ((base 90).at q NP) (fr::E)) r:=λq r a hn=>by
   rw[mY hn]at c;exact ih (i+1) q r Za a c
  by_cases y:T.K.S i 0=3
  .rw[show(T.K.S i 0==3)=true by simpa using y]at l;refine ia 200 4 [] l Z Z mX λq r a=>?_
   by_cases z:T.K.S i 1=slot
   .rw[mZ (by simp[y,z])]at c;refine nV a Z (by simpa using z)<|ia 200 4 [] a Z Z mX λt v b=>Sa h K R Za 4 0 _ _ t v Z (yU ..) (yU ..) (λg hg=>(by cases hg)) (b.nY 4 [0,1,4,5,6,7,8,9,50] (qK++sA++yv 3) Z Z Z) c
   .refine nR a Z (by simpa using z)<|ia 200 4 [] a Z Z mX λt v b=>?_;have j:=fx.oS (ρ:=wρ bW T++[(r1,0)]) (ρ2:=[(b1,0)]) b 3 [0,1,4,5,26] (qK++sA) Z Z Z;rw[e1]at j;exact next t v j (by simp[z])
  .rw[show(T.K.S i 0==3)=false by simpa using y]at l;refine ia 200 4 [] l Z Z mX λq r a=>nR a Z Z<|ia 200 4 [] a Z Z mX λt v b=>?_;have j:=fx.oS (ρ:=wρ bW T++[(r1,0)]) (ρ2:=[(b1,0)]) b 3 [0,1,4,5,26] (qK++sA) Z Z Z;rw[e1]at j;exact next t v j (by simp[y])
theorem Un(h:oA d bW T u C w)(b:pz T.Ls)(c:u<=T.Ls.length):oL main d 90 #[Po (J (O bW 0 Q)),vi slot] w λx w'=>nC d [bW] w w'/\se x (uA T.K slot T.K.nS 0 false (T.Ls.drop u)):=by
 refine y7 (sz:=100) (ρ:=wρ bW T) [.c (.p 1 0),.c (ci slot)] h.oG (λs a=>?_) fO Z Z Z λStop fr E A M e=>?_
 .simp only[ae,aj,or_false]at a;rcases a with rfl|rfl<;>first|trivial|exact dP
 refine sw 200 2 [] M Z Z mX λg j r1 l=>b8S h b c T.K.nS 0 g j Za (l.nY 3 [0,1,4,5,26] (qK++sA) Z Z Z) λx n p q=>e x n ⟨p,q⟩
def Jx:List bh:=match Tryz.f89.body with
 | some (.seq _ (.seq _ (.seq _ (.seq _ (.seq _ (.seq _ (.seq _ (.seq _ (.seq (.seq _ (.block i (.loop (.seq (.seq x y) z)))) r)))))))))=>[.code y,.code z,.inLoop (.seq (.seq x y) z),.inBlock i,.code r]
 | _=>[]
def Yt:List bh:=match Tryz.f89.body with
 | some (.seq _ (.seq _ (.seq _ (.seq _ (.seq _ (.seq _ (.seq _ (.seq (.seq _ (.block i (.loop (.seq (.seq x y) z)))) r))))))))=>[.code y,.code z,.inLoop (.seq (.seq x y) z),.inBlock i,.code r]
 | _=>[]
def I2:List bh:=match Jx with
 | [_,_,_,_,.code (.seq (.seq _ c) r)]=>[.code c,.code r]
 | _=>[]
def US:List bh:=match I2 with
 | [_,r]=>[r]
 | _=>[]
abbrev DC(T:Tk)(u:Nat)(C:Vu)(p:Nat)(a e:Int):Mem:=tD T u C++AQ++[(3,0,ci a),(3,1,ci e),(4,0,.v i0),(4,1,.v i0),(4,2,.v i0),(4,3,.v i0),(4,4,.v b0),(4,5,.v i0),(4,6,.v i0)]++GK T.K p 5
abbrev rL:List (Nat×Nat):=qK++sA++[(3,0),(3,1),(4,0),(4,1),(4,2),(4,3),(4,4),(4,5),(4,6)]++yv 5
abbrev LN(e:Int):M (Int×Int):=M.pure (0,e)
abbrev CJ(a:Int)(pv fl:Vu):l9:=[(0,.c (.p 1 0)),(4,.c (.p 2 0)),(5,.c (ci a)),(6,.c (.p 3 0)),(7,.c (.p 4 0)),(9,.c (.p 5 0)),(10,.c (.v pv)),(11,.c (.v fl))]
variable{r3 r4 p:Nat}{child:Int}{ps fs:List Int}{l:Nat}{o:Vu}
abbrev fρ(bW:Nat)(T:Tk)(r1 r2 r3 r4:Nat):ou:=wρ bW T++[(r1,0),(r2,0),(r3,0),(r4,0)]
theorem I6(R:oA d bW T l o w)(W:pz T.Ls)(hu:u<=T.Ls.length)(Op:rM d bW w (fρ bW T r1 r2 r3 r4) pv ps w')(Of:rM d bW w (fρ bW T r1 r2 r3 r4) fl fs w')(h4:ps.length<=4)(e':fs.length<=4)(M:fx d [bW] 1 w (fρ bW T r1 r2 r3 r4) (DC T u C p e h) 141 (CJ child pv fl) A w')(j:∀x z,nC d [bW] w z->se x (((J5 child ps fs).bind λ_=>LN h) false (T.Ls.drop u))->iv V main true d Stop (G (fr.finish x) E) z):iv V main true d Stop (G ((base 89).at A US) (fr::E)) w':=by
 refine p7 200 6 [] M Z Z mX λa1 w1 r B=>A4 r (Lw (R.hJ r.hJ (Q4 r Z)) W hu (Ck (Op.kq B)) h4 (Ck (Of.kq B)) e') Z Z Z eJ Z Z Z Z Z λx w2 g=>?_;let⟨L,g⟩:=g;rw[P0]at j;rcases hR:J5 child ps fs false (T.Ls.drop u) with nd|⟨⟨zn,ze⟩,go,h'⟩
 .rw[hR]at g j
  cases nd with
  | done _ _=>exact g.elim
  | call n a b c =>
   obtain⟨⟨p,q,rfl⟩,u',i',k⟩:=g;have v:=r.walked L k 6 (rL.filter λp=>!aG p.1 1) Z Z Z;refine E3 v 6 (.t [.g [ci p,ci q],.g [ci n,ci a,ci b,ci c,.v b0,.v i0,.v i0],.c (.v (Bo false))]) Z Z Z Z Z λa4 y=>ia 200 6 [] y Z Z mX λa5 w5 s=>nV s Z Z<|ia 200 6 [] s Z Z mX λa6 w6 t=>A9 t dD Z Z Z<|j _ _ t.hJ Z
 .rw[hR]at g j;obtain⟨rfl,rfl,u',k,_⟩:=g;have v:=r.walked L k 6 (rL.filter λp=>!aG p.1 1) Z Z Z;refine E3 v 6 (vY zn ze) Z Z Z Z Z λa4 y=>ia 200 6 [] y Z Z mX λa5 w5 s=>nR s Z Z<|ia 200 6 [] s Z Z mX λa6 w6 t=>uh 0 h t Z Z Z Z Z Z Z λa7 w7 M7=>ia 200 6 [] M7 Z Z mX λa8 w8 K=>A9 K dD Z Z Z<|j _ _ K.hJ Z
theorem IB(h:oA d bW T l o w)(t:pz T.Ls)(hu:u<=T.Ls.length)(Op:rM d bW w (fρ bW T r1 r2 r3 r4) pv ps w')(Of:rM d bW w (fρ bW T r1 r2 r3 r4) fl fs w')(h4:ps.length<=4)(d':fs.length<=4)(M:fx d [bW] 1 w (fρ bW T r1 r2 r3 r4) (DC T u C p e g) 141 (CJ child pv fl++[(110,.c (.v (Bo (g==0))))]) A w')(a:∀x e',nC d [bW] w e'->se x (tH child ps fs g false (T.Ls.drop u))->iv V main true d Stop (G (fr.finish x) E) e'):iv V main true d Stop (G ((base 89).at A I2) (fr::E)) w':=by
 unfold tH at a
 by_cases b:g=0
 .rw[mZ b]at a;subst b;refine nV M Z Z<|p7 200 6 [] M Z Z mX λa1 w1 q c=>uZ (h.hJ q.hJ (Q4 q Z)) t q hu 6 (rL.filter λp=>!aG p.1 1) 8 child 0 0 Z Z Z Z Z Z Z Z Z Z (λ_ _=>rfl) (λv a2 w2 y z=>?_) λn g s v f' he hs a2 w2 y z=>?_
  .rw[v]at a;refine ia 200 6 [] z Z Z mX λa3 w3 r=>nV r Z Z<|ia 200 6 [] r Z Z mX λa4 w4 j=>A9 j dD Z Z Z<|a _ _ j.hJ Z
  .have g':=(Op.kq c).hJ y λB K R=>(Op.kq c).ne B K 1 (by show 1<6;decide) (Zi R).symm;have h':=(Of.kq c).hJ y λB K R=>(Of.kq c).ne B K 1 (by show 1<6;decide) (Zi R).symm;rw[v,P0]at a;have hc:E5 8 child 0 0 false ((n,g)::s)=.inr ((n,g),false,s):=by
    show Sum.inr ((n,g),g==3,s)=_
    grind
   rw[hc]at a;refine p7 200 6 [] z Z Z mX λa3 w3 r q3=>nR r Z Z<|p7 200 6 [] r Z Z mX λa4 w4 j q4=>?_
   by_cases b:g=0
   .subst b;refine nV j Z Z<|ia 200 6 [] j Z Z mX λa5 w5 W=>uh child 0 W Z Z Z Z Z Z Z λa7 w7 M7=>ia 200 6 [] M7 Z Z mX λa8 w8 M8=>A9 M8 dD Z Z Z<|a _ _ M8.hJ Z
   .refine nR j Z (by simpa using b) ?_;simp only[mY b]at a;refine p7 1 6 [] j Z Z mX λa5 w5 W q5=>I6 h t f' (((g'.kq q3).kq q4).kq q5) (((h'.kq q3).kq q4).kq q5) h4 d' (W.nY 6 [0,4,5,6,7,9,10,11] rL Z Z Z) (by rw[hs];exact a)
 .rw[mY b]at a;refine nR M Z (by simpa using b)<|p7 1 6 [] M Z Z mX λa1 w1 q c=>I6 h t hu (Op.kq c) (Of.kq c) h4 d' (q.nY 6 [0,4,5,6,7,9,10,11] rL Z Z Z) a
def ui(child:Int)(f:Nat->Int)(ps:List Int)(n j:Nat)(fs:List Int):M (Int×Int):=(uP child f n j fs).bind λg=>tH child ps g.2 g.1
variable{n j:Nat}{x e:Int}{s h:List (Int×Int)}
section
variable{f:Nat->Int}
theorem c4h(a:f j=-1):ui child f ps (n+1) j fs false h=ui child f ps n (j+1) fs false h:=by
 unfold ui;rw[uP,mZ a]
theorem b7C(a:f j≠-1):ui child f ps (n+1) j fs false []=.inl (.call 7 child j j):=by
 unfold ui;rw[uP,mY a];rfl
theorem ZS(b:f j≠-1)(g:e≠3):ui child f ps (n+1) j fs false ((x,e)::s)=if e=0 then ui child f ps n (j+1) (fs++[(j:Int)]) false s else tH child ps fs e false s:=by
 unfold ui;rw[uP,mY b];have c:E5 7 child j j false ((x,e)::s)=.inr ((x,e),false,s):=by
  show Sum.inr ((x,e),e==3,s)=_
  grind
 rw[P0,P0,c]
 by_cases a:e=0
 .simp only[mZ a];rfl
 .simp only[mY a];rfl
end
theorem Xr(h:oA d bW T l o w)(h3:pz T.Ls)(hp:p<T.K.nS)(h4:ps.length<=4):∀(n j:Nat) (fs:List Int) (u:Nat) (fl:Vu) (W:Int) (A:cZ) (w':Wd),j+n=4->fs.length<=j->u<=T.Ls.length->rM d bW w (fρ bW T r1 r2 r3 r4) pv ps w'->rM d bW w (fρ bW T r1 r2 r3 r4) fl fs w'->(∀g,fl.ownBlock=J g->pv.ownBlock≠J g)->fx d [bW] 1 w (fρ bW T r1 r2 r3 r4) (DC T u C p W 0) 141 (CJ child pv fl++[(13,.c (ci j)),(80,.c (.v (Bo (decide ((j:Int)<4)))))]) A w' ->
  (∀x v,nC d [bW] w v->se x (ui child (λq=>T.K.S p (11+q*2)) ps n j fs false (T.Ls.drop u))->iv V main true d Stop (G (fr.finish x) E) v)->iv V main true d Stop (G ((base 89).at A Jx) (fr::E)) w':=by
 intro n
 induction n with
 | zero =>
  intro j fs u fl W A w' hj f' hu Op Of a' M a;obtain rfl:j=4:=by omega
  refine nR M Z Zb<|p7 200 6 [] M Z Z mX λa1 w1 r c=>IB h h3 hu (Op.kq c) (Of.kq c) h4 f' (r.nY 6 [0,4,5,6,7,9,10,11,110] rL Z Z Z) a
 | succ n ih =>
  intro j fs u fl W A w' hj f' hu Op Of a' M a;have g':T.K.S p (11+j*2)=-1\/_:=h.tk.mL.file p j hp Za;have e1:=C7 (n:=j) Za;have d':T.K.S p (11+j*2)=-1->¬0<=T.K.S p (11+j*2):=λe=>by omega
  have e':T.K.S p (11+j*2)≠-1->0<=T.K.S p (11+j*2):=λe=>(g'.resolve_left e).1;clear g'
  by_cases b:T.K.S p (11+j*2)=-1
  .have a:∀x v,nC d [bW] w v->se x (ui child (λq=>T.K.S p (11+q*2)) ps n (j+1) fs false (T.Ls.drop u))->_:=λx v h1 h2=>a x v h1 (by rw[c4h (f:=λq=>T.K.S p (11+q*2)) b];exact h2);replace b:=d' b;clear d' e';cases j,(Za:j<4) using eL
   all_goals
    refine nV M Z Zb<|p7 200 6 [] M Z Z ⟨mX,by decide⟩ λa1 w1 r c=>nR r Z (decide_eq_false b)<|p7 200 6 [] r Z Z mX λa2 w2 z B=>?_;have y:=z.nY 6 [0,4,5,6,7,9,10,11,13,80] rL Z Z Z;rw[e1]at y;exact ih _ fs u fl W a2 w2 Za Za hu ((Op.kq c).kq B) ((Of.kq c).kq B) a' y a
  .have hW:=b7C (child:=child) (f:=λq=>T.K.S p (11+q*2)) (ps:=ps) (fs:=fs) (n:=n) b;have hA:=λx e s he=>ZS (child:=child) (f:=λq=>T.K.S p (11+q*2)) (ps:=ps) (fs:=fs) (n:=n) (x:=x) (e:=e) (s:=s) b he;replace b:=e' b;clear d' e';cases j,(Za:j<4) using eL
   all_goals
    refine nV M Z Zb<|p7 200 6 [] M Z Z ⟨mX,by decide⟩ λa1 w1 r c=>nV r Z (decide_eq_true b)<|p7 200 6 [] r Z Z mX λa2 w2 z B=>?_;have h':=(Op.kq c).kq B;have i':=(Of.kq c).kq B;refine uZ (h.hJ z.hJ (Q4 z Z)) h3 z hu 6 (rL.filter λp=>!aG p.1 1) 7 child _ _ Z Z Z Z Z Z Z Z Z Z (λ_ _=>rfl) (λhd a3 w3 L3 y=>?_) λnn e s hd j' he hs a3 w3 L3 y=>?_
    .rw[hd,hW]at a;refine ia 200 6 [] y Z Z mX λa4 w4 K=>nV K Z Z<|ia 200 6 [] K Z Z mX λa5 w5 t=>A9 t dD Z Z Z<|a _ _ t.hJ Z
    .rw[hd,hA nn e s he]at a;have k':=h'.hJ L3 λg hg hm=>h'.ne g hg 1 (by show 1<6;decide) (Zi hm).symm;have l':=i'.hJ L3 λg hg hm=>i'.ne g hg 1 (by show 1<6;decide) (Zi hm).symm;refine p7 200 6 [] y Z Z mX λa4 w4 K q4=>nR K Z Z<|p7 200 6 [] K Z Z mX λa5 w5 t q5=>?_
     by_cases h0:e=0
     .subst h0;rw[mZ Z,←hs]at a;refine nV t Z Z<|p7 200 6 [] t Z Z mX λa6 w6 M6 R=>CP (ah _ (ao ..)) M6 (((l'.kq q4).kq q5).kq R) (((k'.kq q4).kq q5).kq R) a' Za Z Z Z Z Z Z Z Z Z Z Z Z (λ_=>rfl) λa7 w7 V' M7 O7 O8 x'=>p7 200 6 [] M7 Z Z mX λa8 w8 M8 q8=>?_;have M9:=M8.nY 6 [0,4,5,6,7,9,10,11,13,80] rL Z Z Z;rw[e1]at M9;exact ih _ _ (u+1) V' nn a8 w8 Za (by grind) j' (O8.kq q8) (O7.kq q8) x' M9 a
     .rw[mY h0,←hs]at a;refine nR t Z (by simpa using h0)<|p7 200 6 [] t Z Z mX λa6 w6 M6 R=>nR M6 Z (by grind)<|p7 200 6 [] M6 Z Z mX λa7 w7 M7 q7=>IB h h3 j' ((((k'.kq q4).kq q5).kq R).kq q7) ((((l'.kq q4).kq q5).kq R).kq q7) h4 Za (M7.nY 6 [0,4,5,6,7,9,10,11,110] rL Z Z Z) a
def uY(child:Int)(f g:Nat->Int)(n j:Nat)(ys ps:List Int):M (Int×Int):=(uE child f n j ys ps).bind λy=>if y.1=0 then ui child g y.2 4 0 [] else tH child y.2 [] y.1
variable{g:Nat->Int}{lf bk:List Int}{zn ze:Int}{nd:Node}
section
variable{f:Nat->Int}
theorem QA(a:f j=-1):uY child f g (n+1) j ys ps false h=uY child f g n (j+1) ys ps false h:=by
 unfold uY;rw[uE,mZ a]
theorem Vv(a:f j≠-1)(b:G9 6 true child j 0 ys false h=.inl nd):uY child f g (n+1) j ys ps false h=.inl nd:=by
 unfold uY;rw[uE,mY a,P0,P0,b]
theorem Wq(b:f j≠-1)(c:G9 6 true child j 0 ys false h=.inr (((zn,ze),lf,bk),false,s)):uY child f g (n+1) j ys ps false h=if ze=0 then uY child f g n (j+1) lf (ps++[(j:Int)]) false s else tH child ps [] ze false s:=by
 unfold uY;rw[uE,mY b,P0,P0,c]
 by_cases a:ze=0
 .simp only[mZ a];rfl
 .simp only[mY a];show(if ze=0 then _ else tH child ps [] ze) false s=_;rw[mY a]
end
theorem Yn(h:oA d bW T l o w)(h3:pz T.Ls)(hp:p<T.K.nS):∀(n j:Nat) (ps ys:List Int) (u:Nat) (C pv:Vu) (rn:Int) (A:cZ) (w':Wd),j+n=4->ps.length<=j->u<=T.Ls.length->pL bW C ys w->ys.length<=32->rM d bW w (fρ bW T r1 r2 r3 r4) pv ps w'->fx d [bW] 1 w (fρ bW T r1 r2 r3 r4) (DC T u C p rn 0) 141 (CJ child pv (Sc Q 0 0)++[(12,.c (ci j)),(47,.c (.v (Bo (decide ((j:Int)<4)))))]) A w' ->
  (∀x a',nC d [bW] w a'->se x (uY child (λq=>T.K.S p (3+q*2)) (λq=>T.K.S p (11+q*2)) n j ys ps false (T.Ls.drop u))->iv V main true d Stop (G (fr.finish x) E) a')->iv V main true d Stop (G ((base 89).at A Yt) (fr::E)) w':=by
 intro n
 induction n with
 | zero =>
  intro j ps ys u C pv rn A w' hj h' hu hF hy Op M r;obtain rfl:j=4:=by omega
  refine nR M Z Zb<|p7 200 6 [] M Z Z mX λa1 w1 B q1=>Xr h h3 hp h' 4 0 [] u _ rn a1 w1 Z (af _) hu (Op.kq q1) (yU ..) (λg hg=>(by cases hg)) (B.nY 6 [0,4,5,6,7,9,10,11,13,80] rL Z Z Z) r
 | succ n ih =>
  intro j ps ys u C pv rn A w' hj h' hu hF hy Op M r;have hG:T.K.S p (3+j*2)=-1\/_:=h.tk.mL.dy p j hp Za;have e1:=C7 (n:=j) Za;have f':T.K.S p (3+j*2)=-1->¬0<=T.K.S p (3+j*2):=λe=>by omega
  have g':T.K.S p (3+j*2)≠-1->0<=T.K.S p (3+j*2):=λe=>(hG.resolve_left e).1;clear hG
  by_cases t:T.K.S p (3+j*2)=-1
  .have r:∀x a',nC d [bW] w a'->se x (uY child (λq=>T.K.S p (3+q*2)) (λq=>T.K.S p (11+q*2)) n (j+1) ys ps false (T.Ls.drop u))->_:=λx a' h1 h2=>r x a' h1 (by rw[QA (f:=λq=>T.K.S p (3+q*2)) t];exact h2);replace t:=f' t;clear f' g';cases j,(Za:j<4) using eL
   all_goals
    refine nV M Z Zb<|p7 200 6 [] M Z Z ⟨mX,by decide⟩ λa1 w1 B q1=>nR B Z (decide_eq_false t)<|p7 200 6 [] B Z Z mX λa2 w2 y q2=>?_;have z:=y.nY 6 [0,4,5,6,7,9,10,11,12,47] rL Z Z Z;rw[e1]at z;exact ih _ ps ys u C pv rn a2 w2 Za Za hu hF hy ((Op.kq q1).kq q2) z r
  .have hW:=λnd v=>Vv (child:=child) (f:=λq=>T.K.S p (3+q*2)) (g:=λq=>T.K.S p (11+q*2)) (ps:=ps) (ys:=ys) (n:=n) (h:=T.Ls.drop u) (nd:=nd) t v;have hA:=λzn ze lf bk s v=>Wq (child:=child) (f:=λq=>T.K.S p (3+q*2)) (g:=λq=>T.K.S p (11+q*2)) (ps:=ps) (ys:=ys) (n:=n) (h:=T.Ls.drop u) (zn:=zn) (ze:=ze) (lf:=lf) (bk:=bk) (s:=s) t v;replace t:=g' t;clear f' g';cases j,(Za:j<4) using eL
   all_goals
    refine nV M Z Zb<|p7 200 6 [] M Z Z ⟨mX,by decide⟩ λa1 w1 B q1=>nV B Z (decide_eq_true t)<|p7 200 6 [] B Z Z mX λa2 w2 y q2=>?_;have i':=(Op.kq q1).kq q2;refine A4 y (CD (h.hJ y.hJ (Q4 y Z)) h3 hu (hF.hJ y.hJ) hy 6 child _ 0 true) Z Z Z dN Z Z Z Z Z λx w3 K=>?_;let⟨L3,K⟩:=K;have j':=i'.hJ L3 λg hg hm=>i'.ne g hg 1 (by grind) (Zi hm).symm;rcases v:G9 6 true child _ 0 ys false (T.Ls.drop u) with nd|⟨⟨⟨zn,ze⟩,lf,bk⟩,go,m'⟩
    .rw[v]at K;rw[hW nd v]at r
     cases nd with
     | done _ _=>exact K.elim
     | call n a b c =>
      obtain⟨⟨p,q,rfl⟩,u',k',k⟩:=K;have z:=y.walked L3 k 6 (rL.filter λp=>!aG p.1 1) Z Z Z;refine E3 z 6 (.t [.g [ci p,ci q],.g [ci n,ci a,ci b,ci c,.v b0,.v i0,.v i0],.c (.v (Bo false))]) Z Z Z Z Z λa4 M4=>ia 200 6 [] M4 Z Z mX λa5 w5 R=>nV R Z Z<|ia 200 6 [] R Z Z mX λa6 w6 W=>A9 W dD Z Z Z<|r _ _ W.hJ Z
    .rw[v]at K;obtain⟨rfl,rfl,u',k',k,hr,D',l',t',E'⟩:=K;rw[hA zn ze lf bk m' v,hr]at r;have hl:=Iu v;have z:=y.walked L3 k 6 (rL.filter λp=>!aG p.1 1) Z Z Z;refine E3 z 6 (vY zn ze) Z Z Z Z Z λa3 z=>p7 200 6 [] z Z Z mX λa4 w4 M4 q4=>nR M4 Z Z<|p7 200 6 [] M4 Z Z mX λa5 w5 R q5=>?_
     by_cases h0:ze=0
     .subst h0;rw[mZ Z]at r;refine nV R Z Z<|p7 200 6 [] R Z Z mX λa6 w6 W q6=>CP (ah _ (ao ..)) W (((j'.kq q4).kq q5).kq q6) (yU ..) (λg _ h=>(by cases h)) Za Z Z Z Z Z Z Z Z Z Z Z Z (λ_=>rfl) λa7 w7 V' M7 O7 O8 M'=>p7 200 6 [] M7 Z Z mX λa8 w8 M8 q8=>?_;have M9:=M8.nY 6 [0,4,5,6,7,9,10,11,12,47] rL Z Z Z;rw[e1]at M9;exact ih _ _ lf u' k' V' zn a8 w8 Za (by grind) l' (t' w hF) Za (O7.kq q8) M9 r
     .rw[mY h0]at r;refine nR R Z (by simpa using h0)<|p7 200 6 [] R Z Z mX λa6 w6 W q6=>nR W Z (by grind)<|p7 200 6 [] W Z Z mX λa7 w7 M7 q7=>nR M7 Z (by simpa using h0)<|p7 200 6 [] M7 Z Z mX λa8 w8 M8 q8=>IB h h3 l' (((((j'.kq q4).kq q5).kq q6).kq q7).kq q8) (yU ..) Za Zb (M8.nY 6 [0,4,5,6,7,9,10,11,110] rL Z Z Z) r
theorem c2Y(h:oA d bW T u C w)(h3:pz T.Ls)(hu:u<=T.Ls.length){ys:List Int}(hF:pL bW C ys w)(hy:ys.length<=32)(hp:p<T.K.nS):oL main d 89 #[Po (J (O bW 0 Q)),vi p] w λx w'=>nC d [bW] w w'/\se x (Bc T.K p ys false (T.Ls.drop u)):=by
 refine y7 (sz:=141) (ρ:=wρ bW T) [.c (.p 1 0),.c (ci p)] h.oG (λs hs=>?_) dD Z Z Z λStop fr E A M B=>?_
 .simp only[ae,aj,or_false]at hs;rcases hs with rfl|rfl<;>first|trivial|exact dP
 refine sw 200 2 [] M Z Z mX λa1 w1 r1 y=>A4 y (Yr (h.hJ y.hJ (Q4 y Z)) h3 hu (hF.hJ y.hJ) hy) Z Z Z fE Z Z Z Z Z λx w2 t=>?_;let⟨L2,t⟩:=t;unfold Bc at B;rcases hR:tA T.K T.K.nS 0 ys false (T.Ls.drop u) with nd|⟨⟨i,⟨zn,ze⟩,lf⟩,go,m'⟩
 .rw[hR]at t
  cases nd with
  | done _ _=>exact t.elim
  | call n a b c =>
   obtain⟨⟨r,p,q,rfl⟩,u',h',k⟩:=t;have K:=y.walked L2 k 3 ((qK++sA).filter λp=>!aG p.1 1) Z Z Z;refine E3 K 3 (.t [.c (ci r),.g [ci p,ci q],.g [ci n,ci a,ci b,ci c,.v b0,.v i0,.v i0],.c (.v (Bo false))]) Z Z Z Z Z λa4 R=>pQ 200 3 [] R Z Z mX λa5 w5 b5 b6 z=>nV z Z Z<|ia 200 5 [] z Z Z mX λa6 w6 v=>A9 v dD Z Z Z<|B _ _ ⟨v.hJ,?_⟩;rw[P0,hR];rfl
 .rw[hR]at t;obtain⟨rfl,rfl,u',h',k,hr,i',n',j'⟩:=t;have K:=y.walked L2 k 3 ((qK++sA).filter λp=>!aG p.1 1) Z Z Z;refine E3 K 3 (.t [.c (ci i),.g [ci zn,ci ze],.g [.v i0,.v i0,.v i0,.v i0,.v b0,.v i0,.v i0],.c (.v (Bo true))]) Z Z Z Z Z λa4 R=>pQ 200 3 [] R Z Z mX λa5 w5 b5 b6 z=>nR z Z Z<|ia 200 5 [] z Z Z mX λa6 w6 v=>?_
  by_cases W:ze=0
  .subst W;refine nR v Z Z ?_;have k':vA w [bW] T.gS (0+(p:Int).toNat*20) (N7 T.K p).toList:=⟨h.tk.sl.1,by simpa using h.tk.sl.2,by rw[aE,au];exact h.tk.ss p hp⟩;refine sw 200 5 [(N7 T.K p).toList] v Z Z ⟨⟨mX,by omega⟩,k'⟩ λa7 w7 b7 G=>Yn (r1:=r1) (r2:=b5) (r3:=b6) (r4:=b7) h h3 hp 4 0 [] lf u' h' _ zn a7 w7 Z (af _) i' (j' w hF) Za (yU ..) (G.nY 6 [0,4,5,6,7,9,10,11,12,47] rL Z Z Z) λx l' h1 h2=>B x l' ⟨h1,?_⟩;rw[P0,hR,hr];exact h2
  .refine nV v Z (by simpa using W)<|ia 200 5 [] v Z Z mX λa7 w7 G=>uh 0 ze G Z Z Z Z Z Z Z λa8 w8 M8=>ia 200 5 [] M8 Z Z mX λa9 w9 M9=>A9 M9 dD Z Z Z<|B _ _ ⟨M9.hJ,?_⟩;rw[P0,hR];simp only[mY W];rfl
def LK:List bh:=match Tryz.f51.body with
 | some (.seq _ (.seq _ (.seq (.seq _ (.block i (.loop (.seq (.seq x y) z)))) r)))=>[.code y,.code z,.inLoop (.seq (.seq x y) z),.inBlock i,.code r]
 | _=>[]
def RH:List bh:=match Tryz.f51.body with
 | some (.seq _ (.seq _ (.seq _ (.seq _ (.seq _ (.seq (.seq _ (.block i (.seq _ (.cond _ _ (.seq _ (.cond _ _ (.seq _ c))))))) r))))))=>[.code c,.inBlock i,.code r]
 | _=>[]
abbrev Fs(T:Tk)(C:Vu):Mem:=[(0,0,ci T.kd),(0,1,ci T.A),(0,2,ci T.B),(0,4,.v T.F),(0,5,.v T.S),(0,7,.v T.L),(1,0,.v i0),(1,1,.v i0),(1,2,.v i0),(1,3,.v i0),(1,4,.v b0),(1,5,.v i0),(1,6,.v i0),(2,0,.p 0 0),(2,1,ci 0),(2,2,.v C)]
abbrev vV:List (Nat×Nat):=[(0,0),(0,1),(0,2),(0,4),(0,5),(0,7),(1,0),(1,1),(1,2),(1,3),(1,4),(1,5),(1,6)]
abbrev BE:List (Nat×Nat):=vV++[(2,0),(2,1),(2,2)]
abbrev Mm(p:Nat)(i n:Nat):l9:=[(0,.c (.p 0 0)),(1,.c (ci p)),(4,.c (.p 1 0)),(5,.c (.p 2 0)),(6,.c (ci i)),(22,.c (.v (Bo (decide ((i:Int)<(n:Int))))))]
theorem DK{d:Nat->Nat}{W:List Nat}{H w:Wd}{bW:Nat}{b:Vu}{ps:List Int}(c:oM d W H v a 3 1 b ps.length (ps.map vi) w)(y:bW∈v.map (·.1)):pL bW b ps w:=by
 let⟨⟨R,r⟩,_,_,z⟩:=c;let⟨q,_,B,K⟩:=vT (ρ:=v) (ro:=0) y;rcases r with⟨rfl,r⟩|⟨g,cap,cur,rfl,g1,g2,g3,g4,g5,g6⟩
 .exact⟨Q,0,by rw[r],by omega,λh=>absurd (dI r) h⟩
 .refine⟨_,cap,Z,g3,λ_=>⟨g,0,Z,(Zj g2).1,λe=>z g Z q B (K.trans e.symm),λj x G=>?_⟩⟩;have t:(ps.map vi)[j]?=J (vi x):=by grind
  rw[←g6,eO]at t;split at t
  .simp only[aC,g2,aE];simpa using t
  .cases t
abbrev nρ(T:Tk)(r1 bW:Nat):ou:=[(T.bt,T.o),(r1,0),(bW,0)]
theorem yG{ρ2:ou}{m:Mem}{F:Nat}{I:l9}(q:∀b,w.heap.size<=b->qd d b T w)(M:fx d [] 1 w (nρ T r1 bW++ρ2) m F I A w')(r:rP 3 m [(2,0),(2,1),(2,2)]=J [(2,0,.p 0 0),(2,1,ci 0),(2,2,.v C)]):oA d bW T 0 C w':=by
 have c:w.heap.size<=bW:=by
  rcases M.own 2 Zb Zc with h|h
  .cases h
  .exact h
 have a:=fx.oS (ρ:=nρ T r1 bW) (ρ2:=ρ2) M 3 [] [(2,0),(2,1),(2,2)] Z Z r;exact⟨(q bW c).hJ ⟨M.size,λk t _=>M.old k t Zc,M.fit⟩,⟨a.blk 2 Z,a.ld 2 0 Z,a.ld 2 1 Z,a.ld 2 2 Z⟩,M.new _ c,M.fit,λk v=>M.new k (Zh M.size v)⟩
theorem fx.left{m:Mem}{F:Nat}{I:l9}{a:Wd}(M:fx d [] 1 w v m F I A w')(L:nC d [bW] w' a)(q:w.heap.size<=bW)(r:∀i,i<v.length->(nJ v i).1≠bW):fx d [] 1 w v m F I A a :=
 M.to L.size (λi b=>L.old _ (Q6 M b) (by grind)) (λk c _=>L.old k (Zg c M.size) (by simp;omega)) L.fit
theorem b5M(hT:∀b,w.heap.size<=b->qd d b T w):∀(f i:Nat) (C:Vu) (A:cZ) (w':Wd),i+f=T.K.nF->oM d [] w (nρ T r1 bW) w.heap.size 3 1 C (E9 T.K i).length ((E9 T.K i).map vi) w'->fx d [] 1 w (nρ T r1 bW) (Fs T C) 116 (Mm p i T.K.nF) A w' ->
  (∀C A w',oM d [] w (nρ T r1 bW) w.heap.size 3 1 C (E9 T.K T.K.nF).length ((E9 T.K T.K.nF).map vi) w'->fx d [] 1 w (nρ T r1 bW) (Fs T C) 116 (Mm p T.K.nF T.K.nF) A w'->iv V main true d Stop (G ((base 51).at A LK) (fr::E)) w')->iv V main true d Stop (G ((base 51).at A LK) (fr::E)) w':=by
 have v:=hT _ (af _);have d':=v.nF;intro f
 induction f with
 | zero =>
  grind
 | succ f B =>
  intro i C A w' hi a M K;have R:=C7 (n:=i) Za;have c:=IF T.K i;have hl:=Dj T.K i;have hc:so w [] (O T.gF (0+(i:Int).toNat*6+0) Q) (vi (T.K.F i 0)):=⟨v.fl.1,by simp,by rw[aE,au];exact v.fs i Za⟩;refine nV M Z (decide_eq_true Za)<|p7 200 3 [[vi (T.K.F i 0)]] M Z Z ⟨⟨mX,by omega⟩,M.BF hc⟩ λa1 w1 r q1=>?_;have W:=a.kq q1
  by_cases t:T.K.F i 0=0
  .rw[mZ (by simpa using t)]at c;refine nV r Z (by simpa using t)<|p7 200 3 [] r Z Z mX λa2 w2 y z=>Hv NA y (W.kq z) (af _) Za Zb Z Z Z Z Z Z Z Z Z Z Z Z Z λa3 w3 g e' f' L3 M3 hp O3 hg=>?_;cases Ze hp;refine p7 200 3 [] M3 Z Z mX λa4 w4 M4 q4=>?_;have q:=M4.nY 3 [0,1,4,5,6,22] BE Z Z Z;rw[R]at q;refine B (i+1) _ a4 w4 Za ?_ q K;have e2:(E9 T.K (i+1)).length=(E9 T.K i).length+1:=by rw[c];simp
   have e3:(E9 T.K (i+1)).map vi=(E9 T.K i).map vi++[vi i]:=by rw[c];simp
   rw[e2,e3];exact O3.kq q4
  .rw[mY (by simpa using t),cy]at c;refine nR r Z (by simpa using t)<|p7 200 3 [] r Z Z mX λa2 w2 y z=>?_;have q:=y.nY 3 [0,1,4,5,6,22] BE Z Z Z;rw[R]at q;exact B (i+1) C a2 w2 Za (by rw[c];exact W.kq z) q K
theorem JI{n:Nat}{m:Mem}:∀ {b:List (Nat×Nat)} {N:Mem},rP n m b=J N->(b.all λp=>!aG p.1 a)=true->∀e∈N,e.1≠a
 | [],N,h,_,e,he=>by cases Ze h;cases he
 | p::r,N,h,ha,e,he=>by
  simp only[List.all_cons,aB]at ha;unfold rP at h;split at h
  .split at h
   .split at h
    .next q c =>
     cases Ze h;rcases ae.1 he with rfl|he
     .intro t
      simp_all
     .exact JI c ha.2 e he
    .cases h
   .cases h
  .cases h
theorem fx.forget{W:List Nat}{H:Wd}{m N:Mem}{F:Nat}{I:l9}{r:Wd}(M:fx d W a H v m F I A w')(L:nC d [bW] w' r)(q n:Nat)(y:List (Nat×Nat))(z:(nJ v q).1=bW)(R:∃c t,r.heap[bW]?=J (.cells c t (0,0)))(G:n=v.length)(b:(fS a q&&cE q n)=true)(B:rP n m y=J N)(h1:(y.all λp=>!aG p.1 q)=true):fx d W a H v N F I A r:=by
 simp only[aB,Nat.ble_eq,Nat.blt_eq]at b;subst G;refine M.upd L q b.1 b.2 (λi hi a' h=>M.ij i q hi b.2 a' (by grind)) (λx hx=>?_) (by rw[z];exact R) λe K=>.inl ⟨(AW B e K).1,JI B h1 e K⟩;cases Zi hx;rw[←z];exact M.own q b.1 b.2
theorem EL{x:Vu}:∀ {R:Node⊕((Int×Int)×Bool×List (Int×Int))},se x R->∃n a b c q v e,x=.agg #[vi n,vi a,vi b,vi c,Bo q,vi v,vi e]
 | .inl (.call n a b c),h=>⟨n,a,b,c,false,0,0,h⟩
 | .inl (.done _ _),h=>h.elim
 | .inr (z,_,_),h=>⟨0,0,0,0,true,z.1,z.2,h⟩
theorem fx.over{m N:Mem}{F:Nat}{I a:l9}{b:Wd}(M:fx d [] 1 w (nρ T r1 bW) m F I A w')(L:nC d [bW] w' b)(q:uV 2 I [4]=J a)(r:rP 2 m vV=J N):fx d [] 1 w [(T.bt,T.o),(r1,0)] N F a A b:=by
 have t:w.heap.size<=bW:=by
  rcases M.own 2 Zb Zc with h|h
  .cases h
  .exact h
 refine fx.left (fx.oS (ρ:=[(T.bt,T.o),(r1,0)]) (ρ2:=[(bW,0)]) M 2 [4] vV Z q r) L t λi c=>?_;have c:i<2:=c;have:=M.ij i 2 (show i<3 by omega) (show 2<3 by decide) Za;obtain rfl|rfl:i=0\/i=1:=by omega
 .exact this
 .exact this
theorem TY{c a b:Int}(h:c=4\/c=5):((J4 (if c=5 then 17 else 16) b 0 a).bind (CO (if c=5 then 17 else 16) a))=if c=4 then(J4 16 b 0 a).bind λe=>LN e else xv a b:=by
 rcases h with rfl|rfl
 .grind
 .rw[mZ Z,mY Zb];unfold xv
  grind
theorem N1(hT:∀b,w.heap.size<=b->qd d b T w)(h3:pz T.Ls)(v':Fit d w)(x':∀k,w.heap.size<=k->d k=0)(hp:p<T.K.nS)(hk:1<=T.kd/\T.kd<=7):oL main d 51 #[Po (J (O T.bt T.o Q)),vi p] w λx w'=>nC d [] w w'/\se x (qR T.K p T.kd T.A T.B false T.Ls):=by
 have t0:=hT _ (af _);have N':=Dj T.K T.K.nF;have O':=t0.nF;refine y7 (sz:=116) (ρ:=[(T.bt,T.o)]) (W:=[]) (ro:=1) (m:=[(0,0,ci T.kd),(0,1,ci T.A),(0,2,ci T.B),(0,4,.v T.F),(0,5,.v T.S),(0,7,.v T.L)]) [.c (.p 0 0),.c (ci p)] ⟨λe he=>?_,λi hi=>?_,λi j hi hj R'=>?_,λi h1 h2=>?_,v',x'⟩ (λs hs=>?_) du Z Z Z λStop fr E A M t=>?_
 .simp only[ae,aj,or_false]at he;rcases he with rfl|rfl|rfl|rfl|rfl|rfl<;>refine⟨cJ,mX,?_⟩
  .exact t0.c0
  .exact t0.c1
  .exact t0.c2
  .exact t0.c4
  .exact t0.c5
  .exact t0.c7
 .have hi:i<1:=hi;obtain rfl:i=0:=by omega
  exact⟨t0.blk,t0.sf⟩
 .grind
 .grind
 .simp only[ae,aj,or_false]at hs;rcases hs with rfl|rfl<;>first|trivial|exact cJ
 refine pQ 200 1 [] M Z Z mX λa1 w1 r1 bW M1=>?_;refine b5M (r1:=r1) (bW:=bW) hT T.K.nF 0 _ a1 w1 Za ⟨⟨Z,.inl ⟨Z,Z⟩⟩,λg h=>(by cases h),λg h=>(by cases h),λg h=>(by cases h)⟩ (M1.nY 3 [0,1,4,5,6,22] BE Z Z Z) λC a2 w2 O2 M2=>?_;clear M M1;refine nR M2 Z (decide_eq_false Za) ?_;refine p7 200 3 [] M2 Z Z mX λa3 w3 K q3=>?_;have hF:=DK (bW:=bW) (O2.kq q3) Zc;have hb:w.heap.size<=bW:=by
  rcases K.own 2 Zb Zc with h|h
  .cases h
  .exact h
 unfold qR at t
 by_cases k1:T.kd=1
 .rw[mZ k1]at t;refine nV K Z (by simpa using k1) ?_;refine p7 200 3 [] K Z Z mX λa4 w4 R q4=>?_;refine A4 R (c2Y (yG hT R Z) h3 (aW _) (DK (bW:=bW) ((O2.kq q3).kq q4) Zc) Za hp) Z Z Z dD Z Z Z Z Z λx w5 r=>?_;obtain⟨L,r⟩:=r;obtain⟨n,a,b,c,bo,v,e,rfl⟩:=EL r;refine E3 (R.over L Z Z) 2 (.g [ci n,ci a,ci b,ci c,.v (Bo bo),ci v,ci e]) Z Z Z Z Z λa6 y=>?_;refine ia 200 2 [] y Z Z mX λa7 w7 B=>?_;refine A9 B du Z Z Z ?_;exact t _ _ ⟨B.hJ,r⟩
 rw[mY k1]at t;refine nR K Z (by simpa using k1) ?_;refine p7 200 3 [] K Z Z mX λa3 w3 K l'=>?_;have O3:=(O2.kq q3).kq l';clear hF q3 l'
 by_cases k2:T.kd=2
 .rw[mZ k2]at t;refine nV K Z (by simpa using k2) ?_;refine ia 200 3 [] K Z Z mX λa4 w4 R=>?_;refine A4 R (Un (slot:=p) (yG hT R Z) h3 (aW _)) Z Z Z fO Z Z Z Z Z λx w5 r=>?_;obtain⟨L,r⟩:=r;obtain⟨n,a,b,c,bo,v,e,rfl⟩:=EL r;refine E3 (R.over L Z Z) 2 (.g [ci n,ci a,ci b,ci c,.v (Bo bo),ci v,ci e]) Z Z Z Z Z λa6 y=>?_;refine ia 200 2 [] y Z Z mX λa7 w7 B=>?_;refine A9 B du Z Z Z ?_;exact t _ _ ⟨B.hJ,r⟩
 rw[mY k2]at t;refine nR K Z (by simpa using k2) ?_;refine p7 200 3 [] K Z Z mX λa3 w3 K q3=>?_;replace O3:=O3.kq q3;have i':∀(A:cZ) (w':Wd) (K:fx d [] 1 w (nρ T r1 bW) (Fs T C) 116 [(0,.c (.p 0 0)),(1,.c (ci p)),(4,.c (.p 1 0)),(5,.c (.p 2 0)),(7,.c (ci T.A)),(8,.c (ci T.B)),(70,.c (.v (Bo true)))] A w'),T.kd=4\/T.kd=5->iv V main true d Stop (G ((base 51).at A RH) (fr::E)) w':=λA w' K m'=>by
  refine nV K Z Z ?_;refine ia 200 3 [] K Z Z mX λa4 w4 R=>?_;refine A4 R (Tw (yG hT R Z) h3 (aW _) T.A T.B) Z Z Z eS Z Z Z Z Z λx w5 r=>?_;rw[TY m']at r;obtain⟨L,r⟩:=r;obtain⟨n,a,b,c,bo,v,e,rfl⟩:=EL r;refine E3 (R.over L Z Z) 2 (.g [ci n,ci a,ci b,ci c,.v (Bo bo),ci v,ci e]) Z Z Z Z Z λa6 y=>?_;refine ia 200 2 [] y Z Z mX λa7 w7 B=>?_;refine A9 B du Z Z Z ?_;refine t _ _ ⟨B.hJ,?_⟩;rcases m' with k|k
  .rw[mY Za,mZ k];rw[mZ k]at r;exact r
  .rw[mY Za,mY Za,mZ k];rw[mY Za]at r;exact r
 by_cases k4:T.kd=4
 .refine nV K Z (by simpa using k4) ?_;refine ia 1 3 [] K Z Z mX λa4 w4 R=>?_;have M5:=R.nY 3 [0,1,4,5,7,8,70] BE Z Z Z;rw[show(T.kd==4)=true by simpa using k4]at M5;exact i' a4 w4 M5 (.inl k4)
 refine nR K Z (by simpa using k4) ?_;refine p7 200 3 [] K Z Z mX λa4 w4 R q4=>?_;replace O3:=O3.kq q4
 by_cases k5:T.kd=5
 .have M5:=R.nY 3 [0,1,4,5,7,8,70] BE Z Z Z;rw[show(T.kd==5)=true by simpa using k5]at M5;exact i' a4 w4 M5 (.inr k5)
 clear i';refine nR R Z (by simpa using k5) ?_;refine d1x 200 3 [] R Z Z Z mX λa5 w5 b9 j' M5 q5 f1 f2=>?_;have O5:=(O3.more f1 f2).to (w':=w5) λg hg=>q5.old g (j8 O3.row hg).2 λi hi=>O3.ne g hg i hi
 by_cases k7:T.kd=7
 .rw[mY Za,mY k4,mY k5,mY Za]at t;refine nV M5 Z (by simpa using k7) ?_;refine p7 200 5 [] M5 Z Z mX λa6 w6 y q6=>?_;have hF:=DK (bW:=bW) (O5.kq q6) Zc;refine A4 y (CD (yG (ρ2:=[(b9,0),(j',0)]) hT y Z) h3 (aW _) hF Za 2 T.A 0 0 false) Z Z Z dN Z Z Z Z Z λx w7 r=>?_;obtain⟨L,r⟩:=r;rcases hR:G9 2 false T.A 0 0 (E9 T.K T.K.nF) false T.Ls with nd|⟨⟨⟨zn,ze⟩,lf,bk⟩,go,H'⟩
  .rw[show T.Ls.drop 0=T.Ls from Z,hR]at r;rw[P0,hR]at t
   cases nd with
   | done _ _=>exact r.elim
   | call n a b c =>
    obtain⟨⟨p,q,rfl⟩,u',k',kk⟩:=r;refine E3 (y.forget L 2 5 (vV++[(3,0),(3,1),(4,0),(4,1),(4,2),(4,3),(4,4),(4,5),(4,6)]) Z kk.blk Z Z Z Z) 5 (.t [.g [ci p,ci q],.g [ci n,ci a,ci b,ci c,.v b0,.v i0,.v i0],.c (.v (Bo false))]) Z Z Z Z Z λa7 B=>?_;refine ia 200 5 [] B Z Z mX λa8 w8 W=>?_;refine nV W Z Z ?_;refine ia 200 5 [] W Z Z mX λa9 w9 M9=>?_;refine A9 M9 du Z Z Z ?_;exact t _ _ ⟨M9.hJ,Z⟩
  .rw[show T.Ls.drop 0=T.Ls from Z,hR]at r;rw[P0,hR]at t;obtain⟨rfl,rfl,u',k',kk,_⟩:=r;refine E3 (y.forget L 2 5 (vV++[(3,0),(3,1),(4,0),(4,1),(4,2),(4,3),(4,4),(4,5),(4,6)]) Z kk.blk Z Z Z Z) 5 (vY zn ze) Z Z Z Z Z λa7 B=>?_;refine ia 200 5 [] B Z Z mX λa8 w8 W=>?_;refine nR W Z Z ?_;refine ia 200 5 [] W Z Z mX λa9 w9 M9=>?_;refine uh zn ze M9 Z Z Z Z Z Z Z λp' q' h'=>?_;refine ia 200 5 [] h' Z Z mX λr' s' g'=>?_;refine A9 g' du Z Z Z ?_;exact t _ _ ⟨g'.hJ,Z⟩
 refine nR M5 Z (by simpa using k7) ?_;refine p7 200 5 [] M5 Z Z mX λa5 w5 M5 K'=>?_
 by_cases kc:T.kd=3
 .rw[mZ kc]at t;refine nV M5 Z (by simpa using kc) ?_;refine p7 200 5 [] M5 Z Z mX λa6 w6 y q6=>?_;have hF:=DK (bW:=bW) ((O5.kq K').kq q6) Zc;refine A4 y (CD (yG (ρ2:=[(b9,0),(j',0)]) hT y Z) h3 (aW _) hF Za 13 T.A 0 T.B false) Z Z Z dN Z Z Z Z Z λx w7 r=>?_;obtain⟨L,r⟩:=r;rcases hR:G9 13 false T.A 0 T.B (E9 T.K T.K.nF) false T.Ls with nd|⟨⟨⟨zn,ze⟩,lf,bk⟩,go,H'⟩
  .rw[show T.Ls.drop 0=T.Ls from Z,hR]at r;rw[P0,hR]at t
   cases nd with
   | done _ _=>exact r.elim
   | call n a b c =>
    obtain⟨⟨p,q,rfl⟩,u',k',kk⟩:=r;refine E3 (y.forget L 2 5 (vV++[(3,0),(3,1),(4,0),(4,1),(4,2),(4,3),(4,4),(4,5),(4,6)]) Z kk.blk Z Z Z Z) 5 (.t [.g [ci p,ci q],.g [ci n,ci a,ci b,ci c,.v b0,.v i0,.v i0],.c (.v (Bo false))]) Z Z Z Z Z λa7 B=>?_;refine ia 200 5 [] B Z Z mX λa8 w8 W=>?_;refine nV W Z Z ?_;refine ia 200 5 [] W Z Z mX λa9 w9 M9=>?_;refine A9 M9 du Z Z Z ?_;exact t _ _ ⟨M9.hJ,Z⟩
  .rw[show T.Ls.drop 0=T.Ls from Z,hR]at r;rw[P0,hR]at t;obtain⟨rfl,rfl,u',k',kk,_⟩:=r;refine E3 (y.forget L 2 5 (vV++[(3,0),(3,1),(4,0),(4,1),(4,2),(4,3),(4,4),(4,5),(4,6)]) Z kk.blk Z Z Z Z) 5 (vY zn ze) Z Z Z Z Z λa7 B=>?_;refine ia 200 5 [] B Z Z mX λa8 w8 W=>?_;refine nR W Z Z ?_;refine ia 200 5 [] W Z Z mX λa9 w9 M9=>?_;refine uh zn ze M9 Z Z Z Z Z Z Z λp' q' h'=>?_;refine ia 200 5 [] h' Z Z mX λr' s' g'=>?_;refine A9 g' du Z Z Z ?_;exact t _ _ ⟨g'.hJ,Z⟩
 rw[mY kc,mY k4,mY k5,mZ Za]at t;refine nR M5 Z (by simpa using kc) ?_;refine ia 200 5 [] M5 Z Z mX λa6 w6 y=>?_;refine A4 y (Cy (yG (ρ2:=[(b9,0),(j',0)]) hT y Z) (aW _) 9 T.A 0 0) Z Z Z eR Z Z Z Z Z λx w7 r=>?_;obtain⟨rfl,L,kk⟩:=r
 cases hd:T.Ls with
 | nil =>
  rw[hd]at t;refine E3 (y.forget L 2 5 (vV++[(3,0),(3,1),(4,0),(4,1),(4,2),(4,3),(4,4),(4,5),(4,6)]) Z kk.blk Z Z Z Z) 5 (FY 9 T.A 0 0) Z Z Z Z Z λa7 B=>?_;refine ia 200 5 [] B Z Z mX λa8 w8 W=>?_;refine nV W Z Z ?_;refine ia 200 5 [] W Z Z mX λa9 w9 M9=>?_;refine A9 M9 du Z Z Z ?_;exact t _ _ ⟨M9.hJ,Z⟩
 | cons z s =>
  obtain⟨zn,ze⟩:=z;rw[hd]at t;refine E3 (y.forget L 2 5 (vV++[(3,0),(3,1),(4,0),(4,1),(4,2),(4,3),(4,4),(4,5),(4,6)]) Z kk.blk Z Z Z Z) 5 (vY zn ze) Z Z Z Z Z λa7 B=>?_;refine ia 200 5 [] B Z Z mX λa8 w8 W=>?_;refine nR W Z Z ?_;refine ia 200 5 [] W Z Z mX λa9 w9 M9=>?_;refine uh zn ze M9 Z Z Z Z Z Z Z λp' q' h'=>?_;refine ia 200 5 [] h' Z Z mX λr' s' g'=>?_;refine A9 g' du Z Z Z ?_;exact t _ _ ⟨g'.hJ,Z⟩
end
section
open Go.RowKit
attribute [local go_sem ↓] Go.wp_at_zero Go.wp_at_succ
structure Rk where
 nF:Nat
 nS:Nat
 nD:Nat
 W:Nat->Nat->Int
 P:Nat->Nat->Int
 R:Nat->Nat->Int
def Rk.nX(r:Rk)(i c:Nat)(v:Int):Rk:={ r with W:=upd r.W i c v }
def Rk.nt(r:Rk)(i c:Nat)(v:Int):Rk:={ r with P:=upd r.P i c v }
def Rk.oF(r:Rk)(i c:Nat)(v:Int):Rk:={ r with R:=upd r.R i c v }
structure RB where
 b:Nat
 bw:Nat
 bp:Nat
 bq:Nat->Nat
 cw:Nat
 cp:Nat
 aq:Nat->Option cx
 cq:Nat->Nat
structure ml (w:Wd) (B:RB) (r:Rk):Prop where
 k0:w.cell? (O B.b 0 Q)=J (Sc (J (O B.bw 0 Q)) r.nF B.cw)
 k1:w.cell? (O B.b 1 Q)=J (Sc (J (O B.bp 0 Q)) r.nS B.cp)
 k2:∀q,q<3->w.cell? (O B.b (2+q) Q)=J (.slice (B.aq q) r.nD (B.cq q))
 aq:∀q,q<3->0<r.nD->B.aq q=J (O (B.bq q) 0 Q)
 wd:∀f j,f<r.nF->j<4->w.cell? (O B.bw (f*4+j) Q)=J (Y U (r.W f j))
 pr:∀i c,i<r.nS->c<12->w.cell? (O B.bp (i*12+c) Q)=J (Y U (r.P i c))
 rg:∀d q,d<r.nD->q<3->w.cell? (O (B.bq q) d Q)=J (Y U (r.R d q))
 zw:∀o,w.frozen? (O B.bw o Q)=false
 zp:∀o,w.frozen? (O B.bp o Q)=false
 zq:∀q o,q<3->0<r.nD->w.frozen? (O (B.bq q) o Q)=false
 lb:B.b<w.heap.size
 lw:B.bw<w.heap.size
 lp:B.bp<w.heap.size
 lq:∀q,q<3->0<r.nD->B.bq q<w.heap.size
 bw:B.b≠B.bw
 bp:B.b≠B.bp
 bq:∀q,q<3->B.b≠B.bq q
 wp:B.bw≠B.bp
 wq:∀q,q<3->B.bw≠B.bq q
 pq:∀q,q<3->B.bp≠B.bq q
 qq:∀q q',q<3->q'<3->q≠q'->B.bq q≠B.bq q'
 hF:r.nF<=32
 hS:r.nS<=6
 hD:r.nD<=4
variable{w w':Wd}{B:RB}{r:Rk}
theorem ml.nX(M:ml w B r){i c o:Nat}(k:i<r.nF)(l:c<4)(m:o=i*4+c)(v:Int):ml (w.setCell (O B.bw o Q) (Y U v)) B (r.nX i c v):=by
 subst m;have n:=M.bw;have p:=M.wp;refine⟨?_,?_,?_,M.aq,?_,?_,?_,?_,?_,?_,?_,?_,?_,?_,M.bw,M.bp,M.bq,M.wp,M.wq,M.pq,M.qq,M.hF,M.hS,M.hD⟩
 .rw[d7 w Za];exact M.k0
 .rw[d7 w Za];exact M.k1
 .intro q f;rw[d7 w Za];exact M.k2 q f
 .intro a b h j
  by_cases e:a=i/\b=c
  .obtain⟨rfl,rfl⟩:=e;rw[Q7 w (M.wd a b k l)];simp[Rk.nX,upd]
  .rw[d7 w Za,M.wd a b h j];simp[Rk.nX,upd,e]
 .intro a b h j;rw[d7 w Za];exact M.pr a b h j
 .intro d q g f;have:=M.wq q f;rw[d7 w Za];exact M.rg d q g f
 .intro o;rw[j7];exact M.zw o
 .intro o;rw[j7];exact M.zp o
 .intro q o f g;rw[j7];exact M.zq q o f g
 .rw[i6];exact M.lb
 .rw[i6];exact M.lw
 .rw[i6];exact M.lp
 .intro q f g;rw[i6];exact M.lq q f g
theorem ml.nt(M:ml w B r){i c o:Nat}(k:i<r.nS)(l:c<12)(m:o=i*12+c)(v:Int):ml (w.setCell (O B.bp o Q) (Y U v)) B (r.nt i c v):=by
 subst m;have n:=M.bp;have p:=M.wp;refine⟨?_,?_,?_,M.aq,?_,?_,?_,?_,?_,?_,?_,?_,?_,?_,M.bw,M.bp,M.bq,M.wp,M.wq,M.pq,M.qq,M.hF,M.hS,M.hD⟩
 .rw[d7 w Za];exact M.k0
 .rw[d7 w Za];exact M.k1
 .intro q f;rw[d7 w Za];exact M.k2 q f
 .intro a b h j;rw[d7 w Za];exact M.wd a b h j
 .intro a b h j
  by_cases e:a=i/\b=c
  .obtain⟨rfl,rfl⟩:=e;rw[Q7 w (M.pr a b k l)];simp[Rk.nt,upd]
  .rw[d7 w Za,M.pr a b h j];simp[Rk.nt,upd,e]
 .intro d q g f;have:=M.pq q f;rw[d7 w Za];exact M.rg d q g f
 .intro o;rw[j7];exact M.zw o
 .intro o;rw[j7];exact M.zp o
 .intro q o f g;rw[j7];exact M.zq q o f g
 .rw[i6];exact M.lb
 .rw[i6];exact M.lw
 .rw[i6];exact M.lp
 .intro q f g;rw[i6];exact M.lq q f g
theorem ml.oF(M:ml w B r){d q:Nat}(g:d<r.nD)(c:q<3)(v:Int):ml (w.setCell (O (B.bq q) d Q) (Y U v)) B (r.oF d q v):=by
 have n:=M.bq q c;have p:=M.wq q c;have s:=M.pq q c;refine⟨?_,?_,?_,M.aq,?_,?_,?_,?_,?_,?_,?_,?_,?_,?_,M.bw,M.bp,M.bq,M.wp,M.wq,M.pq,M.qq,M.hF,M.hS,M.hD⟩
 .rw[d7 w Za];exact M.k0
 .rw[d7 w Za];exact M.k1
 .intro q c;rw[d7 w Za];exact M.k2 q c
 .intro a b h i;rw[d7 w Za];exact M.wd a b h i
 .intro a b h i;rw[d7 w Za];exact M.pr a b h i
 .intro e f l j
  by_cases k:e=d/\f=q
  .obtain⟨rfl,rfl⟩:=k;rw[Q7 w (M.rg e f g c)];simp[Rk.oF,upd]
  .have:B.bq f≠B.bq q\/e≠d:=by
    by_cases m:f=q
    .grind
    .left;exact M.qq f q j c m
   rw[d7 w this,M.rg e f l j];simp[Rk.oF,upd,k]
 .intro o;rw[j7];exact M.zw o
 .intro o;rw[j7];exact M.zp o
 .intro q o c g;rw[j7];exact M.zq q o c g
 .rw[i6];exact M.lb
 .rw[i6];exact M.lw
 .rw[i6];exact M.lp
 .intro q c g;rw[i6];exact M.lq q c g
def RB.is(B:RB)(r:Rk)(k:Nat):Prop:=k=B.b\/k=B.bw\/k=B.bp\/(0<r.nD/\∃q,q<3/\k=B.bq q)
theorem D9{w w':Wd}(b:a<w.heap.size)(h:w'.heap[a]?=w.heap[a]?):a<w'.heap.size:=by
 grind
theorem ml.wy(M:ml w B r)(h:∀k,k<w.heap.size->B.is r k->w'.heap[k]?=w.heap[k]?):ml w' B r:=by
 have e:∀k,k<w.heap.size->B.is r k->k<w'.heap.size:=λk l m=>D9 l (h k l m);have g:∀o,w'.cell? (O B.b o Q)=w.cell? (O B.b o Q):=λo=>Zf (w:=w) (a:=(O B.b o Q)) (h _ M.lb (bP Z));have n:∀o,w'.cell? (O B.bw o Q)=w.cell? (O B.bw o Q):=λo=>Zf (w:=w) (a:=(O B.bw o Q)) (h _ M.lw (ba (bP Z)));have p:∀o,w'.cell? (O B.bp o Q)=w.cell? (O B.bp o Q):=λo=>Zf (w:=w) (a:=(O B.bp o Q)) (h _ M.lp (ba (ba (bP Z))));have s:∀q,q<3->0<r.nD->∀o,w'.cell? (O (B.bq q) o Q)=w.cell? (O (B.bq q) o Q):=λq a b o=>Zf (w:=w) (a:=(O (B.bq q) o Q)) (h _ (M.lq q a b) (ba (ba (ba ⟨b,q,a,Z⟩))))
 refine⟨(g _).trans M.k0,(g _).trans M.k1,λq a=>(g _).trans (M.k2 q a),M.aq,λf j t u=>(n _).trans (M.wd f j t u),λi c v x=>(p _).trans (M.pr i c v x),λd q b a=>(s q a Za _).trans (M.rg d q b a),
  λo=>(dH (w:=w) (a:=(O B.bw o Q)) (h _ M.lw (ba (bP Z)))).trans (M.zw o),λo=>(dH (w:=w) (a:=(O B.bp o Q)) (h _ M.lp (ba (ba (bP Z))))).trans (M.zp o),
  λq o a b=>(dH (w:=w) (a:=(O (B.bq q) o Q)) (h _ (M.lq q a b) (ba (ba (ba ⟨b,q,a,Z⟩))))).trans (M.zq q o a b),
  e _ M.lb (bP Z),e _ M.lw (ba (bP Z)),e _ M.lp (ba (ba (bP Z))),λq a b=>e _ (M.lq q a b) (ba (ba (ba ⟨b,q,a,Z⟩))),M.bw,M.bp,M.bq,M.wp,M.wq,M.pq,M.qq,M.hF,M.hS,M.hD⟩
theorem ml.same(M:ml w B r)(a:w.heap.size<=w'.heap.size)(h:∀k,k<w.heap.size->B.is r k->w'.heap[k]?=w.heap[k]?):ml w' B r:=M.wy h
theorem ml.alloc(M:ml w B r)(o:Obj):ml (w.alloc o) B r:=M.same Zc λk a _=>aJ w o k a
theorem ml.drew(M:ml w B r):ml w.drew B r:=M.same (af _) λ_ _ _=>rfl
def pT(f:Int)(b:Bool):Int:=if f=-1 then 0 else 2*f+(if b then 2 else 1)
def qF(K:aa)(i c:Nat):Int :=
 if c<3 then K.S i c else if c=3 then K.S i 19 else if c<8 then pT (K.dy i (c - 4)) (K.wr i (c - 4)) else pT (K.file i (c - 8)) (K.end i (c - 8))
structure Rel (K:aa) (r:Rk):Prop where
 f:r.nF=K.nF
 s:r.nS=K.nS
 d:r.nD=K.nD
 p:∀i c,i<K.nS->c<12->r.P i c=qF K i c
 w:∀g j,g<K.nF->j<4->(K.F g 0=2\/K.F g 0=3)->r.W g j=K.F g (2+j)
 q:∀e q,e<K.nD->q<3->r.R e q=K.D e q
theorem G6(b:Bool):pT (-1) b=0:=by simp[pT]
theorem H7(n:Nat)(b:Bool):pT n b=2*(n:Int)+(if b then 2 else 1):=by unfold pT;grind
theorem Rel.kind{r:Rk}(b:Rel p r)(c:a<p.nS):r.P a 0=p.S a 0:=b.p a 0 c Za
theorem Rel.parent{r:Rk}(a:Rel p r){i:Nat}(b:i<p.nS):r.P i 1=p.S i 1:=a.p i 1 b Za
theorem Rel.table{r:Rk}(b:Rel p r)(c:a<p.nS):r.P a 2=p.S a 2:=b.p a 2 c Za
theorem Rel.code{r:Rk}(b:Rel p r)(c:a<p.nS):r.P a 3=p.S a 19:=b.p a 3 c Za
theorem Rel.dy{r:Rk}(c:Rel p r)(d:a<p.nS)(e:b<4):r.P a (4+b)=pT (p.dy a b) (p.wr a b):=by
 rw[c.p a (4+b) d Za];unfold qF
 grind
theorem Rel.file{r:Rk}(c:Rel p r)(d:a<p.nS)(e:b<4):r.P a (8+b)=pT (p.file a b) (p.end a b):=by
 rw[c.p a (8+b) d Za];unfold qF
 grind
theorem I5(n:Nat)(b:Bool):(2*(n:Int)+(if b then 2 else 1) - 1).tdiv 2=n:=by
 grind
theorem I4{w:Wd}{B:RB}{r:Rk}(M:ml w B r)(b:Rel p r)(c:Own p)(N:iP p)(G:Good p)(hf:a<p.nF) :
  aF V 81 #[Po (J (O B.b 0 Q)),Y U a] w λe w'=>e=.returned (.tuple #[Y U (p.F a 0),Y U (p.F a 1)])/\w'=w:=by
 have y:ar (ml w B r):=M;have z:ar (Rel p r):=b;have k1:=M.k1;have k2:=M.k2 0 Za;have hS:r.nS<=6:=M.hS;have hD:r.nD<=4:=M.hD;have hF:a<32:=by have:=M.hF;have:=b.f;omega
 have D:ar (r.nS=p.nS/\r.nD=p.nD):=⟨b.s,b.d⟩;clear M b
 go_enter Tryz.func81,Tryz.ntmps81
 go_wp2
 go_loop [6] (λi=>∃k:Nat,k<=r.nS/\i=Y U k/\∀i,i<k->p.loc (.oq i)≠a/\∀f,f<4->p.dy i f≠a) λi=>r.nS - (bT i).toNat
 case atStart=>grind
 case round =>
  obtain⟨k,hk,rfl,T⟩:=hrel;have H:ar (∀i,i<k->p.loc (.oq i)≠a/\∀f,f<4->p.dy i f≠a):=T;clear T
  by_cases W:k<r.nS
  .have o:ar (k<p.nS):=by unfold ar;have:=D.out;omega
   have i1:(0:Int)<=(k:Int):=by omega
   have i2:(k:Int)<(r.nS:Int):=by omega
   have t1:w.cell? (O B.bp (k*12+2) Q)=J (Y U (r.P k 2)):=y.out.pr k 2 W Za
   by_cases s:r.P k 2=a
   .have g:ar (p.F a 0=1/\p.F a 1=k):=by
     rw[z.out.table o.out]at s;have I:p.S k 0≠0:=λh=>by have:=N.table o.out h;omega
     have:p.loc (.oq k)=a:=by show(if p.S k 0=0 then(-1:Int) else p.S k 2)=a;grind
     exact c.what (.oq k) o.out a this
    rw[s]at t1;clear s
    go_wp2
    go_ret2
    exact⟨by rw[g.out.1,g.out.2];rfl,Z⟩
   .have e1:(r.P k 2==(a:Int))=false:=by simpa using s
    have HL:ar (p.loc (.oq k)≠a):=by
     show(if p.S k 0=0 then(-1:Int) else p.S k 2)≠a;split
     .omega
     .rw[←z.out.table o.out];exact s
    clear s;generalize r.P k 2=v2 at *
    go_wp2
    go_loop [7] (λj=>∃m:Nat,m<=4/\j=Y U m/\∀f,f<m->p.dy k f≠a) λj=>4 - (bT j).toNat
    case atStart=>exact⟨0,by omega,Z,λf E=>by omega⟩
    case round =>
     obtain⟨m,hm,rfl,A⟩:=hrel;have t:ar (∀f,f<m->p.dy k f≠a):=A;clear A
     by_cases K:m<4
     .have j1:(0:Int)<=(m:Int):=by omega
      have j2:(m:Int)<4:=by omega
      have q:w.cell? (O B.bp (k*12+4+m) Q)=J (Y U (r.P k (4+m))):=by rw[aP];exact y.out.pr k (4+m) W Za
      have l:=z.out.dy o.out K;have X:=G.dy k m o.out K
      by_cases L:p.dy k m=-1
      .rw[l,L,G6]at q;have C:ar (p.dy k m≠a):=by unfold ar;omega
       clear l L X
       go_wp2
       exact⟨⟨m+1,by omega,by go_num,λf E=>by by_cases e:f=m;rw[e];exact C.out;exact t.out f Za⟩,by simp[bT];omega⟩
      .obtain⟨n,P⟩:∃n:Nat,p.dy k m=n:=⟨(p.dy k m).toNat,by omega⟩;have e':n<32:=by have:=y.out.hF;have:=z.out.f;omega
       rw[l,P,H7]at q;have hq:=I5 n (p.wr k m);obtain⟨v,a',f',g'⟩:∃v:Int,v=2*(n:Int)+(if p.wr k m then 2 else 1)/\0<v/\v<100:=⟨_,Z,by split<;>omega,by split<;>omega⟩;rw[←a']at q hq;have Hn:ar (p.dy k m=n):=P;clear l L X P a'
       by_cases c':n=a
       .subst c';have g:ar (p.F n 0=2/\p.F n 1=k):=c.what (.dy k m) ⟨o.out,K⟩ n Hn.out
        go_wp2
        go_ret2
        exact⟨by rw[g.out.1,g.out.2];rfl,Z⟩
       .have e2:((n:Int)==(a:Int))=false:=by simp;omega
        have C:ar (p.dy k m≠a):=by unfold ar;rw[Hn.out];omega
        go_wp2
        exact⟨⟨m+1,by omega,by go_num,λf E=>by by_cases e:f=m;rw[e];exact C.out;exact t.out f Za⟩,by simp[bT];omega⟩
     .obtain rfl:m=4:=by omega
      go_wp2
      exact⟨⟨k+1,by omega,by go_num,λi hi=>by by_cases e:i=k;rw[e];exact⟨HL.out,t.out⟩;exact H.out i Za⟩,by simp[bT];omega⟩
  .obtain rfl:k=r.nS:=by omega
   go_wp2
   go_loop [8] (λj=>∃m:Nat,m<=r.nD/\j=Y U m/\∀d,d<m->p.D d 0≠a) λj=>r.nD - (bT j).toNat
   case atStart=>exact⟨0,by omega,Z,λf E=>by omega⟩
   case round =>
    obtain⟨m,hm,rfl,A⟩:=hrel;have t:ar (∀d,d<m->p.D d 0≠a):=A;clear A
    by_cases d':m<r.nD
    .have j1:(0:Int)<=(m:Int):=by omega
     have j2:(m:Int)<(r.nD:Int):=by omega
     have R:=y.out.aq 0 Za Za;have q:w.cell? (O (B.bq 0) m Q)=J (Y U (r.R m 0)):=y.out.rg m 0 d' Za;have l:r.R m 0=p.D m 0:=z.out.q m 0 (by have:=D.out;omega) Za;rw[l]at q;rw[R]at k2
     by_cases u:p.D m 0=a
     .have g:ar (p.F a 0=3/\p.F a 1=-1):=c.what (.ring m) (show m<p.nD by have:=D.out;omega) a u;rw[u]at q;clear u l R
      go_wp2
      go_ret2
      exact⟨by rw[g.out.1,g.out.2];rfl,Z⟩
     .have e2:(p.D m 0==(a:Int))=false:=by simpa using u
      have C:ar (p.D m 0≠a):=u;clear u l R;obtain⟨vv,b'⟩:∃vv,p.D m 0=vv:=⟨_,Z⟩;rw[b']at q e2;clear b'
      go_wp2
      exact⟨⟨m+1,by omega,by go_num,λf E=>by by_cases e:f=m;rw[e];exact C.out;exact t.out f Za⟩,by simp[bT];omega⟩
    .obtain rfl:m=r.nD:=by omega
     have g:ar (p.F a 0=0/\p.F a 1=-1):=by
      have I:p.F a 0=0:=by
       apply cL;intro h;let⟨x,F,S⟩:=c.all a hf h;have es:=D.out
       cases x with
       | oq i=>exact(H.out i (by have:i<p.nS:=F;omega)).1 S
       | dy i f=>exact(H.out i (by have:i<p.nS:=F.1;omega)).2 f F.2 S
       | ring d=>exact t.out d (by have:d<p.nD:=F;omega) S
      exact⟨I,N.uG a I⟩
     go_wp2
     go_ret2
     exact⟨by rw[g.out.1,g.out.2];rfl,Z⟩
theorem Y9{w:Wd}{B:RB}{r:Rk}(M:ml w B r)(b:Rel p r)(c:Own p)(N:iP p)(G:Good p)(d:a<p.nF) :
  aF V 78 #[Po (J (O B.b 0 Q)),Y U a] w λe w'=>e=.returned (Bo (p.F a 0==0))/\w'=w:=by
 go_enter Tryz.func78,Tryz.ntmps78
 go_wp2_with fail
 refine(I4 M b c N G d).mono ?_;rintro e f ⟨rfl,rfl⟩
 go_wp2
 go_ret
 simp_all
theorem HR{w:Wd}{B:RB}{r:Rk}(M:ml w B r)(N:r.nS=p.nS)(P:∀i x,i<p.nS->x<4->r.P i (8+x)=pT (p.file i x) (p.end i x))(gf:∀i x,i<p.nS->x<4->p.file i x=-1\/0<=p.file i x){d:Nat}(hd:d<4)(b:Bool) :
  aF V 80 #[Po (J (O B.b 0 Q)),Y U d,Bo b] w λe w'=>e=.returned (Y U (p.ends d b))/\w'=w:=by
 have R:ar (ml w B r):=M;have S:ar (∀i x,i<p.nS->x<4->r.P i (8+x)=pT (p.file i x) (p.end i x)):=P;have k1:=M.k1;have hS:r.nS<=6:=M.hS;have s:ar (r.nS=p.nS):=N;have z:ar (p.ends d b=E7 (p.nZ d b) (p.nS*4)):=Z;have A:∀n,E7 (p.nZ d b) n<=n:=Bw _;have D:ar (∀k m,k<p.nS->m<4->E7 (p.nZ d b) (k*4+m+1)=E7 (p.nZ d b) (k*4+m)+(if p.file k m=d/\p.end k m=b then 1 else 0)):=λk m _ t=>by
  show E7 (p.nZ d b) (k*4+m)+(if p.nZ d b (k*4+m) then 1 else 0)=_
  congr 1
  unfold aa.nZ;rw[show(k*4+m) / 4=k by omega,show(k*4+m)%4=m by omega]
  grind
 obtain⟨C,E⟩:∃C,C=E7 (p.nZ d b):=⟨_,Z⟩;rw[←E]at z A D;have T:C 0=0:=by rw[E];rfl
 obtain⟨f,W⟩:∃f:Int,f=2*(d:Int)+(if b then 2 else 1):=⟨_,Z⟩;have u:ar (f=2*(d:Int)+(if b then 2 else 1)):=W;have X:ar (∀i x,i<p.nS->x<4->p.file i x=-1\/0<=p.file i x):=gf;clear M N P gf E W
 go_enter Tryz.func80,Tryz.ntmps80
 have G:∀k m:Nat,k<p.nS->m<4->(pT (p.file k m) (p.end k m)=f↔(p.file k m=d/\p.end k m=b)):=λk m F t=>by
  have hg:=X.out k m F t;rw[u.out]
  by_cases h:p.file k m=-1
  .rw[h,G6]
   grind
  .obtain⟨n,hn⟩:∃n:Nat,p.file k m=n:=⟨(p.file k m).toNat,by omega⟩;rw[hn,H7]
   grind
 have y:ar (∀k m:Nat,k<p.nS->m<4->(pT (p.file k m) (p.end k m)=f↔(p.file k m=d/\p.end k m=b))):=G;clear G;have W2:ar (f=2*(d:Int)+1\/f=2*(d:Int)+1+1):=by
  unfold ar;rw[u.out];grind
 cases b
 .have H:f=2*(d:Int)+1:=u.out;rw[H]at y
  go_wp2
  go_loop [8,9] (λa i=>∃k:Nat,k<=r.nS/\i=Y U k/\a=Y U (C (k*4))) λa i=>r.nS - (bT i).toNat
  case atStart=>exact⟨0,by omega,Z,by rw[jY,T];rfl⟩
  case round =>
   obtain⟨k,F,rfl,rfl⟩:=hrel
   by_cases I:k<r.nS
   .have l:ar (k<p.nS):=by unfold ar;have:=s.out;omega
    have i1:(0:Int)<=(k:Int):=by omega
    have i2:(k:Int)<(r.nS:Int):=by omega
    go_wp2
    go_loop [8,10] (λa j=>∃m:Nat,m<=4/\j=Y U m/\a=Y U (C (k*4+m))) λa j=>4 - (bT j).toNat
    case atStart=>exact⟨0,by omega,Z,Z⟩
    case round =>
     obtain⟨m,t,rfl,rfl⟩:=hrel
     by_cases o:m<4
     .have j1:(0:Int)<=(m:Int):=by omega
      have j2:(m:Int)<4:=by omega
      have K:w.cell? (O B.bp (k*12+8+m) Q)=J (Y U (r.P k (8+m))):=by rw[aP];exact R.out.pr k (8+m) I Za
      rw[S.out k m l.out o]at K;have c:=D.out k m l.out o;have hb:=A (k*4+m);have g:=y.out k m l.out o;generalize pT (p.file k m) (p.end k m)=v at *
      by_cases h:v=2*(d:Int)+1
      .rw[mZ (g.1 h)]at c;subst h;have q:ar (C (k*4+m+1)=C (k*4+m)+1):=c;clear c g;generalize C (k*4+m)=cc at *
       go_wp2
       exact⟨⟨m+1,by omega,by go_num,by rw[←aP,q.out];go_num⟩,by simp[bT];omega⟩
      .rw[mY λL=>h (g.2 L)]at c;have e1:(v==2*(d:Int)+1)=false:=by simpa using h
       have q:ar (C (k*4+m+1)=C (k*4+m)):=by unfold ar;omega
       clear c g h
       go_wp2
       exact⟨⟨m+1,by omega,by go_num,by rw[←aP,q.out]⟩,by simp[bT];omega⟩
     .obtain rfl:m=4:=by omega
      go_wp2
      exact⟨⟨k+1,by omega,by go_num,by rw[iH]⟩,by simp[bT];omega⟩
   .obtain rfl:k=r.nS:=by omega
    go_wp2
    go_ret
    exact⟨by rw[z.out,←s.out];rfl,Z⟩
 .have H:f=2*(d:Int)+1+1:=by have:=u.out;grind
  rw[H]at y
  go_wp2
  go_loop [8,9] (λa i=>∃k:Nat,k<=r.nS/\i=Y U k/\a=Y U (C (k*4))) λa i=>r.nS - (bT i).toNat
  case atStart=>exact⟨0,by omega,Z,by rw[jY,T];rfl⟩
  case round =>
   obtain⟨k,F,rfl,rfl⟩:=hrel
   by_cases I:k<r.nS
   .have l:ar (k<p.nS):=by unfold ar;have:=s.out;omega
    have i1:(0:Int)<=(k:Int):=by omega
    have i2:(k:Int)<(r.nS:Int):=by omega
    go_wp2
    go_loop [8,10] (λa j=>∃m:Nat,m<=4/\j=Y U m/\a=Y U (C (k*4+m))) λa j=>4 - (bT j).toNat
    case atStart=>exact⟨0,by omega,Z,Z⟩
    case round =>
     obtain⟨m,t,rfl,rfl⟩:=hrel
     by_cases o:m<4
     .have j1:(0:Int)<=(m:Int):=by omega
      have j2:(m:Int)<4:=by omega
      have K:w.cell? (O B.bp (k*12+8+m) Q)=J (Y U (r.P k (8+m))):=by rw[aP];exact R.out.pr k (8+m) I Za
      rw[S.out k m l.out o]at K;have c:=D.out k m l.out o;have hb:=A (k*4+m);have g:=y.out k m l.out o;generalize pT (p.file k m) (p.end k m)=v at *
      by_cases h:v=2*(d:Int)+1+1
      .rw[mZ (g.1 h)]at c;subst h;have q:ar (C (k*4+m+1)=C (k*4+m)+1):=c;clear c g;generalize C (k*4+m)=cc at *
       go_wp2
       exact⟨⟨m+1,by omega,by go_num,by rw[←aP,q.out];go_num⟩,by simp[bT];omega⟩
      .rw[mY λL=>h (g.2 L)]at c;have e1:(v==2*(d:Int)+1+1)=false:=by simpa using h
       have q:ar (C (k*4+m+1)=C (k*4+m)):=by unfold ar;omega
       clear c g h
       go_wp2
       exact⟨⟨m+1,by omega,by go_num,by rw[←aP,q.out]⟩,by simp[bT];omega⟩
     .obtain rfl:m=4:=by omega
      go_wp2
      exact⟨⟨k+1,by omega,by go_num,by rw[iH]⟩,by simp[bT];omega⟩
   .obtain rfl:k=r.nS:=by omega
    go_wp2
    go_ret
    exact⟨by rw[z.out,←s.out];rfl,Z⟩
theorem CK{w:Wd}{B:RB}{r:Rk}(M:ml w B r)(a:Rel p r)(G:Good p){d:Nat}(g:d<4)(b:Bool) :
  aF V 80 #[Po (J (O B.b 0 Q)),Y U d,Bo b] w λe w'=>e=.returned (Y U (p.ends d b))/\w'=w :=
 HR M a.s (λi x c f=>a.file c f) (λi x c f=>by rcases G.file i x c f with h|h;all_goals grind) g b
def oE(n m:Int):Bool:=decide (0<=n)&&decide (n<m)
theorem Z0{n m:Int}{w:Wd} :
  aF V 32 #[Y U n,Y U m] w λe w'=>e=.returned (Bo (oE n m))/\w'=w:=by
 by_cases a:0<=n
 .by_cases b:n<m
  .have E:ar (oE n m=true):=by unfold ar oE;simp[a,b]
   go_enter fZ,kR
   go_wp2
   go_ret
   exact⟨by rw[E.out];rfl,Z⟩
  .have E:ar (oE n m=false):=by unfold ar oE;simp[b]
   go_enter fZ,kR
   go_wp2
   go_ret
   exact⟨by rw[E.out];rfl,Z⟩
 .have E:ar (oE n m=false):=by unfold ar oE;simp[a]
  go_enter fZ,kR
  go_wp2
  go_ret
  exact⟨by rw[E.out];rfl,Z⟩
theorem EI:oE d e=true↔0<=d/\d<e:=by unfold oE;simp
def rW(t:Int):Int:=if t=1 then 102 else if t=2 then 115 else if t=3 then 99 else if t=4 then 112 else if t=5 then 100 else if t=6 then 119 else 45
variable{K:aa}
theorem NO(M:ml w B r)(a:Rel K r)(t:Int)(b:t=1\/t=2\/t=3\/t=4\/t=5\/t=6) :
  aF V 38 #[Po (J (O B.b 0 Q)),.int .u8 (rW t)] w λe w'=>e=.returned (Y U (j4 K t))/\w'=w:=by
 have c:=M.k0;have d:=M.k1;have f:w.cell? (O B.b 2 Q)=J (.slice (B.aq 0) r.nD (B.cq 0)):=M.k2 0 Za;have H:ar (r.nF=K.nF/\r.nS=K.nS/\r.nD=K.nD):=⟨a.f,a.s,a.d⟩;have hF:=M.hF;have g:=M.hS;have h:=M.hD;obtain rfl|rfl|rfl|rfl|rfl|rfl:=b
 .rw[show rW 1=102 from Z]
  go_enter fR,fC
  go_wp2
  go_ret
  exact⟨by rw[zG,←H.out.1];rfl,Z⟩
 .rw[show rW 2=115 from Z]
  go_enter fR,fC
  go_wp2
  go_ret
  exact⟨by rw[yi,←H.out.2.1];rfl,Z⟩
 .rw[show rW 3=99 from Z]
  go_enter fR,fC
  go_wp2
  go_ret
  exact⟨by rw[yN,←H.out.2.2];rfl,Z⟩
 .rw[show rW 4=112 from Z]
  go_enter fR,fC
  go_wp2
  go_ret
  exact⟨by rw[yz];rfl,Z⟩
 .rw[show rW 5=100 from Z]
  go_enter fR,fC
  go_wp2
  go_ret
  exact⟨by rw[yl];rfl,Z⟩
 .rw[show rW 6=119 from Z]
  go_enter fR,fC
  go_wp2
  go_ret
  exact⟨by rw[yH];rfl,Z⟩
def yq:Nat->ByteArray
 | 2=>⟨#[112,102,45]⟩|3=>⟨#[112,45,45]⟩|4=>⟨#[112,45,45]⟩|5=>⟨#[115,102,45]⟩|6=>⟨#[115,112,102]⟩|7=>⟨#[115,100,100]⟩|8=>⟨#[115,45,45]⟩|10=>⟨#[115,112,45]⟩|11=>⟨#[115,100,45]⟩|12=>⟨#[115,45,45]⟩|13=>⟨#[99,102,100]⟩
 | 14=>⟨#[100,100,45]⟩|15=>⟨#[100,45,45]⟩|16=>⟨#[100,112,119]⟩|17=>⟨#[100,112,119]⟩|18=>⟨#[112,119,45]⟩|19=>⟨#[112,119,45]⟩|_=>⟨#[45,45,45]⟩
theorem Xb(n:Nat)(a:n<20)(b:n≠0){w:Wd} :
  aF V 37 #[Y U n] w λe w'=>e=.returned (.string (yq n))/\w'=w:=by
 obtain rfl|rfl|rfl|rfl|rfl|rfl|rfl|rfl|rfl|rfl|rfl|rfl|rfl|rfl|rfl|rfl|rfl|rfl|rfl:n=1\/n=2\/n=3\/n=4\/n=5\/n=6\/n=7\/n=8\/n=9\/n=10\/n=11\/n=12\/n=13\/n=14\/n=15\/n=16\/n=17\/n=18\/n=19:=by omega
 all_goals
  go_enter Tryz.func37,Tryz.ntmps37
  go_wp2
  go_ret
  exact⟨Z,Z⟩
def Aq(x y z:Int):Prop:=(2<=x/\x<=32)/\(1<=y/\y<=6)/\(0<=z/\z<=4)
theorem TI(x y z:Int)(h:¬Aq x y z)(w:Wd) :
  aF V 12 #[.agg #[Y U x,Y U y,Y U z]] w λe w'=>e=.returned (.tuple #[Po Q,Y U 1])/\bE w.heap.size w w':=by
 have c:ar (∀o,bE w.heap.size w (w.alloc o)):=λo=>(bz _ _).alloc (af _) _
 by_cases g:2<=x/\x<=32
 .have b:G5 x 2 32=true:=by unfold G5;simp;omega
  by_cases i:1<=y/\y<=6
  .have d:G5 y 1 6=true:=by unfold G5;simp;omega
   have f:¬(0<=z/\z<=4):=λf=>h ⟨g,i,f⟩;have j:G5 z 0 4=false:=by unfold G5;simp;omega
   go_enter jW,lE
   go_wp2_with fail
   refine(W6).mono ?_;rintro e a ⟨rfl,rfl⟩;rw[b]
   go_wp2_with fail
   refine(W6).mono ?_;rintro e a ⟨rfl,rfl⟩;rw[d]
   go_wp2_with fail
   refine(W6).mono ?_;rintro e a ⟨rfl,rfl⟩;rw[j]
   go_wp2
   go_ret2
   exact⟨Z,c.out _⟩
  .have d:G5 y 1 6=false:=by unfold G5;simp;omega
   go_enter jW,lE
   go_wp2_with fail
   refine(W6).mono ?_;rintro e a ⟨rfl,rfl⟩;rw[b]
   go_wp2_with fail
   refine(W6).mono ?_;rintro e a ⟨rfl,rfl⟩;rw[d]
   go_wp2
   go_ret2
   exact⟨Z,c.out _⟩
 .have b:G5 x 2 32=false:=by unfold G5;simp;omega
  go_enter jW,lE
  go_wp2_with fail
  refine(W6).mono ?_;rintro e a ⟨rfl,rfl⟩;rw[b]
  go_wp2
  go_ret2
  exact⟨Z,c.out _⟩
theorem WG(x y z:Int)(j:-9223372036854775808<=x/\x<9223372036854775808)(k:-9223372036854775808<=y/\y<9223372036854775808)(h:¬Aq x y z)(w:Wd) :
  aF V 13 #[.agg #[Y U x,Y U y,Y U z]] w λe w'=>e=.returned (.tuple #[Po Q,Y U 1])/\bE w.heap.size w w':=by
 have l:ar (∀o,bE w.heap.size w (w.alloc o)):=λo=>(bz _ _).alloc (af _) _;have a:0<=iD (x - 2)/\iD (x - 2)<31->2<=x/\x<=32:=by unfold iD;omega
 have d:0<=iD (y - 1)/\iD (y - 1)<6->1<=y/\y<=6:=by unfold iD;omega
 have b:(oE (iD (x - 2)) 31&&(oE (iD (y - 1)) 6&&oE z 5))=false:=by
  rw[gq];intro c;simp only[aB,EI]at c;exact h ⟨a c.1,d c.2.1,by omega⟩
 clear a d j k h;generalize f:oE (iD (x - 2)) 31=m at b;generalize g:oE (iD (y - 1)) 6=n at b;generalize i:oE z 5=p at b
 go_enter Tryz.func13,Tryz.ntmps13
 go_wp2_with fail
 refine(Z0).mono ?_;rintro e a ⟨rfl,rfl⟩;rw[f]
 go_wp2_with fail
 refine(Z0).mono ?_;rintro e a ⟨rfl,rfl⟩;rw[g]
 go_wp2_with fail
 refine(Z0).mono ?_;rintro e a ⟨rfl,rfl⟩;rw[i];clear f g i;cases m<;>cases n<;>cases p
 all_goals first|(exfalso;exact absurd b Zb)|skip
 all_goals
  clear b
  go_wp2
  go_ret2
  exact⟨Z,l.out _⟩
structure ej (B:RB) (w w':Wd):Prop where
 os:w'.os=w.os
 tape:w'.tape=w.tape
 output:w'.output=w.output
 size:w.heap.size<=w'.heap.size
 block:∀k,k<w.heap.size->k≠B.bw->k≠B.bp->(∀q,q<3->k≠B.bq q)->w'.heap[k]?=w.heap[k]?
variable{a:Wd}
theorem ej.refl(w:Wd):ej B w w:=⟨Z,Z,Z,af _,λ_ _ _ _ _=>rfl⟩
theorem ej.trans(h:ej B a w)(k:ej B w w'):ej B a w' :=
 ⟨k.os.trans h.os,k.tape.trans h.tape,k.output.trans h.output,Zh h.size k.size,λi b c d e=>(k.block i (Zg b h.size) c d e).trans (h.block i b c d e)⟩
theorem ej.alloc(h:ej B a w)(o:Obj):ej B a (w.alloc o):=h.trans ⟨Z,Z,Z,by simp,λk b _ _ _=>aJ w o k b⟩
theorem ej.drew(h:ej B a w):ej B a w.drew:=⟨h.os,h.tape,h.output,h.size,h.block⟩
theorem ej.nX(h:ej B a w)(o:Nat)(u:Vu):ej B a (w.setCell (O B.bw o Q) u) :=
 ⟨h.os,h.tape,h.output,by rw[i6];exact h.size,λk c b d e=>by rw[dK w _ u k (by simpa using b)];exact h.block k c b d e⟩
theorem ej.nt(h:ej B a w)(o:Nat)(u:Vu):ej B a (w.setCell (O B.bp o Q) u) :=
 ⟨h.os,h.tape,h.output,by rw[i6];exact h.size,λk c d b e=>by rw[dK w _ u k (by simpa using b)];exact h.block k c d b e⟩
theorem ej.oF(h:ej B a w){q:Nat}(c:q<3)(o:Nat)(u:Vu):ej B a (w.setCell (O (B.bq q) o Q) u) :=
 ⟨h.os,h.tape,h.output,by rw[i6];exact h.size,λk d e f b=>by rw[dK w _ u k (by simpa using b q c)];exact h.block k d e f b⟩
def oe(B:RB)(w:Wd)(o:Out)(e:Ending)(w':Wd):Prop :=
 e=.returned (.tuple #[Y U o.n,Y U o.e])/\(∃b,ml w' B b/\Rel o.K b)/\ej B w w'
theorem oe.mk{B:RB}{w w':Wd}{o:Out}{c:Rk}(E:ar (o=⟨p,d,e⟩))(M:ml w' B c)(b:Rel p c)(k:ej B w w'):oe B w o (.returned (.tuple #[Y U d,Y U e])) w':=by
 unfold oe;rw[E.out];exact⟨Z,⟨c,M,b⟩,k⟩
def Rk.zero(r:Rk)(b:Nat):Rk:=(((r.nX b 0 0).nX b 1 0).nX b 2 0).nX b 3 0
theorem Nx(r:Rk)(b g j:Nat)(c:j<4):(r.zero b).W g j=if g=b then 0 else r.W g j:=by
 unfold Rk.zero Rk.nX upd
 by_cases h:g=b
 .subst h;cases j,(Za:j<4) using eL
  all_goals simp
 .simp[h]
theorem YX(K:aa)(s p:Nat)(f:Int)(b:Bool)(n:p<4)(i c:Nat)(o:c<12):qF (K.g9 s p f b) i c=if i=s/\c=4+p then pT f b else qF K i c:=by
 have k:∀j,j≠3+p*2->(K.g9 s p f b).S i j=K.S i j:=λj q=>d6 _ Za;unfold qF
 by_cases d:c<3
 .rw[mZ d,mZ d,k c Za,mY Za]
 rw[mY d,mY d]
 by_cases e:c=3
 .rw[mZ e,mZ e,k 19 Za,mY Za]
 rw[mY e,mY e]
 by_cases g:c<8
 .rw[mZ g,mZ g];have l:(K.g9 s p f b).dy i (c - 4)=if i=s/\c=4+p then f else K.dy i (c - 4):=by
   show upd K.S s (3+p*2) f i (3+(c - 4)*2)=_
   by_cases h:i=s/\c=4+p
   .rw[mZ h,h.1,show 3+(c - 4)*2=3+p*2 by omega,upd_same]
   .rw[mY h,d6 _ Za];rfl
  have m:(K.g9 s p f b).wr i (c - 4)=if i=s/\c=4+p then b else K.wr i (c - 4):=by
   show upd K.B s (4+p*2) b i (4+(c - 4)*2)=_
   by_cases h:i=s/\c=4+p
   .rw[mZ h,h.1,show 4+(c - 4)*2=4+p*2 by omega,upd_same]
   .rw[mY h,d6 _ Za];rfl
  rw[l,m];split<;>rfl
 .rw[mY g,mY g,mY Za];have l:(K.g9 s p f b).file i (c - 8)=K.file i (c - 8):=k _ Za;have m:(K.g9 s p f b).end i (c - 8)=K.end i (c - 8):=d6 _ Za;rw[l,m]
theorem NL{K:aa}(b:p.S=K.S)(d:p.B=K.B)(i c:Nat):qF p i c=qF K i c:=by
 unfold qF aa.dy aa.wr aa.file aa.end;rw[b,d]
theorem Rel.frame{K K1:aa}{r:Rk}(b:Rel K r)(z:nT K K1)(p:K1.S=K.S)(s:K1.B=K.B)(t:K1.D=K.D){g:Nat}(hF:∀n c,n≠g->K1.F n c=K.F n c)(d:Rk)(f:d.nF=r.nF/\d.nS=r.nS/\d.nD=r.nD/\d.P=r.P/\d.R=r.R)(u:∀n j,j<4->n≠g->d.W n j=r.W n j)(v:∀j,j<4->g<K.nF->(K1.F g 0=2\/K1.F g 0=3)->d.W g j=K1.F g (2+j)):Rel K1 d:=by
 refine⟨by rw[f.1,z.f];exact b.f,by rw[f.2.1,z.s];exact b.s,by rw[f.2.2.1,z.d];exact b.d,λi c m x=>?_,λn j h k l=>?_,λe q o y=>?_⟩
 .rw[f.2.2.2.1,NL p s];rw[z.s]at m;exact b.p i c m x
 .rw[z.f]at h
  by_cases e:n=g
  .subst e;exact v j k h l
  .rw[hF n 0 e]at l;rw[hF n _ e,u n j k e];exact b.w n j h k l
 .rw[f.2.2.2.2,t];rw[z.d]at o;exact b.q e q o y
theorem Rel.g9{K:aa}{r:Rk}(d:Rel K r)(s p:Nat)(f:Int)(b:Bool)(g:p<4):Rel (K.g9 s p f b) (r.nt s (4+p) (pT f b)):=by
 refine⟨d.f,d.s,d.d,λi c j e=>?_,d.w,d.q⟩;rw[YX K s p f b g i c e];show upd r.P s (4+p) (pT f b) i c=_
 by_cases h:i=s/\c=4+p
 .rw[mZ h,h.1,h.2,upd_same]
 .rw[mY h,d6 _ h];exact d.p i c j e
theorem Rel.an{K:aa}{r:Rk}(d:Rel K r)(f:Nat)(a b:Int):Rel (K.an f a b) (r.zero f) :=
 d.frame (K1:=K.an f a b) ⟨Z,Z,Z⟩ Z Z Z (g:=f) (λn c e=>aa.nP K f a b n c e) (r.zero f) ⟨Z,Z,Z,Z,Z⟩ (λn j g e=>by rw[Nx r f n j g,mY e])
  (λj g _ _=>by rw[Nx r f f j g,mZ Z,Hp,mY Za,mY Za,mZ Za])
theorem Rel.rI{K:aa}{r:Rk}(d:Rel K r)(f:Nat)(a b:Int)(i:a≠2/\a≠3):Rel (K.an f a b) r :=
 d.frame (K1:=K.an f a b) ⟨Z,Z,Z⟩ Z Z Z (g:=f) (λn c e=>aa.nP K f a b n c e) r ⟨Z,Z,Z,Z,Z⟩ (λn j g e=>rfl)
  (λj g _ h=>by rw[(K5 K f a b).1]at h;omega)
theorem Rel.rf{K:aa}{r:Rk}(b:Rel K r)(f j:Nat)(v:Int)(m:j<4):Rel (K.ni f (2+j) v) (r.nX f j v) :=
 b.frame (K1:=K.ni f (2+j) v) ⟨Z,Z,Z⟩ Z Z Z (g:=f) (λn c g=>d6 _ Za) (r.nX f j v) ⟨Z,Z,Z,Z,Z⟩ (λn i d g=>d6 _ Za)
  (λi d k h=>by
   have l:(K.ni f (2+j) v).F f 0=K.F f 0:=d6 _ Za;rw[l]at h;show upd r.W f j v f i=upd K.F f (2+j) v f (2+i)
   by_cases e:i=j
   .subst e;rw[upd_same,upd_same]
   .rw[d6 _ Za,d6 _ Za];exact b.w f i k d h)
theorem T8{K:aa}{r:Rk}(G:Good K)(d:Rel K r)(e:b<K.nS)(f:c<4)(hF:K.nF<=32) :
  (K.dy b c=-1/\K.wr b c=false/\r.P b (4+c)=0)\/∃n:Nat,K.dy b c=n/\n<K.nF/\((K.wr b c=false/\r.P b (4+c)=2*(n:Int)+1)\/(K.wr b c=true/\r.P b (4+c)=2*(n:Int)+2)):=by
 have k:=G.dy b c e f;have g:=d.dy e f
 by_cases h:K.dy b c=-1
 .left;refine⟨h,?_,by rw[g,h,G6]⟩;cases i:K.wr b c
  .rfl
  .exact absurd h (G.wr b c e f i)
 .right;obtain⟨n,j⟩:∃n:Nat,K.dy b c=n:=⟨(K.dy b c).toNat,by omega⟩;refine⟨n,j,by omega,?_⟩;rw[g,j,H7];cases i:K.wr b c
  .left;simp
  .right;simp
theorem Wx(M:ml w B r)(c:Rel K r)(d:Own K)(N:iP K)(G:Good K){p f:Nat}(z:Int)(A:b<K.nS)(l:p<4)(m:f<K.nF) :
  aF V 39 #[Po (J (O B.b 0 Q)),Y U b,Y U 2,Y U p,Y U f,Y U z] w (oe B w (pH K b p f)):=by
 have g:ar (ml w B r):=M;have i:ar (Rel K r):=c;have T:=M.k0;have W:=M.k1;have hF:r.nF<=32:=M.hF;have o:ar (r.nF=K.nF/\r.nS=K.nS):=⟨c.f,c.s⟩;have q:b<r.nS:=by have:=c.s;omega
 have h:f<r.nF:=by have:=c.f;omega
 have X:(0:Int)<=(b:Int):=by omega
 have i2:(b:Int)<(r.nS:Int):=by omega
 have j1:(0:Int)<=(p:Int):=by omega
 have j2:(p:Int)<4:=by omega
 have l1:(0:Int)<=(f:Int):=by omega
 have l2:(f:Int)<(r.nF:Int):=by omega
 have s:w.cell? (O B.bp (b*12+4+p) Q)=J (Y U (r.P b (4+p))):=by rw[aP];exact M.pr b (4+p) q Za
 clear M c
 go_enter gY,gJ
 rcases T8 G i.out A l (by have:=o.out;omega) with⟨C,D,j⟩|⟨n,C,D,j⟩
 .rw[j]at s
  by_cases t:K.F f 0=0
  .have E:ar (pH K b p f=⟨(K.an f 2 b).g9 b p f true,0,0⟩):=by unfold pH ar;rw[mY Za,mY Za]
   have k:(K.F f 0==0)=true:=by simpa using t
   go_wp2_with fail
   refine(Y9 g.out i.out d N G m).mono ?_;rintro e u ⟨rfl,rfl⟩;rw[k];have zp:=g.out.zp;have zw:=g.out.zw;have n1:=g.out.wp;have n2:B.bp≠B.bw:=λe=>n1 e.symm;have d0:u.cell? (O B.bw (f*4) Q)=J (Y U (r.W f 0)):=g.out.wd f 0 h Za;have d1:=g.out.wd f 1 h Za;have d2:=g.out.wd f 2 h Za;have d3:=g.out.wd f 3 h Za;have F:=g.out.bw;have H:=g.out.bp;have b3:B.bw≠B.b:=λe=>F e.symm;have b4:B.bp≠B.b:=λe=>H e.symm
   go_wp2
   go_ret2
   have I:=g.out.nt (i:=b) (c:=4+p) (o:=b*12+4+p) q Za Za (2*(f:Int)+2);have L:=I.nX (i:=f) (c:=0) (o:=f*4) h Za Za 0;have P:=L.nX (i:=f) (c:=1) (o:=f*4+1) h Za Za 0;have R:=P.nX (i:=f) (c:=2) (o:=f*4+2) h Za Za 0;have S:=R.nX (i:=f) (c:=3) (o:=f*4+3) h Za Za 0;refine oe.mk E S ?_ (((((ej.refl _).nt _ _).nX _ _).nX _ _).nX _ _ |>.nX _ _);have x:=(i.out.an f 2 b).g9 b p f true l;rw[H7]at x;exact x
  .have E:ar (pH K b p f=⟨K,0,5⟩):=by unfold pH ar;rw[mY Za,mZ Za]
   have k:(K.F f 0==0)=false:=by simpa using t
   go_wp2_with fail
   refine(Y9 g.out i.out d N G m).mono ?_;rintro e u ⟨rfl,rfl⟩;rw[k]
   go_wp2
   go_ret2
   exact oe.mk E g.out i.out (ej.refl _)
 .have E:ar (pH K b p f=⟨K,0,6⟩):=by unfold pH ar;rw[mZ Za]
  obtain⟨v,y,b',c'⟩:∃v,r.P b (4+p)=v/\0<v/\v<100:=⟨_,Z,by omega,by have:=o.out;omega⟩;rw[y]at s;clear j y
  go_wp2
  go_ret2
  exact oe.mk E g.out i.out (ej.refl _)
theorem c9g(f:Nat->Nat->q)(i c:Nat)(x y:q):upd (upd f i c x) i c y=upd f i c y:=by
 funext a b;unfold upd
 by_cases h:a=i/\b=c
 .rw[mZ h,mZ h]
 .rw[mY h,mY h,mY h]
theorem XN(f:Nat->Nat->q)(i c:Nat):upd f i c (f i c)=f:=by
 funext a b;unfold upd
 by_cases h:a=i/\b=c
 .rw[mZ h,h.1,h.2]
 .rw[mY h]
theorem Ua(r:Rk)(i c:Nat)(x y:Int):(r.nt i c x).nt i c y=r.nt i c y:=by
 show { r with P:=upd (upd r.P i c x) i c y }={ r with P:=upd r.P i c y };rw[c9g]
theorem Wh(K:aa)(s p:Nat)(b:Bool):K.g9 s p (K.dy s p) b=K.oB s (4+p*2) b:=by
 show { K with S:=upd K.S s (3+p*2) (K.S s (3+p*2)),B:=upd K.B s (4+p*2) b }={ K with B:=upd K.B s (4+p*2) b };rw[XN]
theorem Sf(M:ml w B r)(c:Rel K r)(d:Own K)(N:iP K)(G:Good K){p:Nat}(y z:Int)(q:b<K.nS)(h:p<4) :
  aF V 39 #[Po (J (O B.b 0 Q)),Y U b,Y U 3,Y U p,Y U y,Y U z] w (oe B w (N4 K b p)):=by
 have i:ar (ml w B r):=M;have e:ar (Rel K r):=c;have u:=M.k1;have hF:r.nF<=32:=M.hF;have j:ar (r.nF=K.nF/\r.nS=K.nS):=⟨c.f,c.s⟩;have k:b<r.nS:=by have:=c.s;omega
 have x:(0:Int)<=(b:Int):=by omega
 have A:(b:Int)<(r.nS:Int):=by omega
 have C:(0:Int)<=(p:Int):=by omega
 have D:(p:Int)<4:=by omega
 have l:w.cell? (O B.bp (b*12+4+p) Q)=J (Y U (r.P b (4+p))):=by rw[aP];exact M.pr b (4+p) k Za
 have F:=M.zp;clear M c
 go_enter gY,gJ
 rcases T8 G e.out q h (by have:=j.out;omega) with⟨f,s,g⟩|⟨n,f,s,g⟩
 .rw[g]at l;have E:ar (N4 K b p=⟨K,0,6⟩):=by unfold N4 ar;rw[mZ f]
  go_wp2
  go_ret2
  exact oe.mk E i.out e.out (ej.refl _)
 .have E:ar (N4 K b p=⟨(K.an n 0 (-1)).g9 b p (-1) false,0,0⟩):=by unfold N4 ar;rw[mY Za];unfold aa.nN;rw[f,au]
  obtain⟨v,m,H,I⟩:∃v,r.P b (4+p)=v/\0<v/\v<100:=⟨_,Z,by omega,by have:=j.out;omega⟩;have L:¬v=0:=by omega
  rw[m]at l;clear g m
  go_wp2
  go_ret2
  have t:=i.out.nt (i:=b) (c:=4+p) (o:=b*12+4+p) k Za Za 0;refine oe.mk E t ?_ ((ej.refl _).nt _ _);have o:=(e.out.rI n 0 (-1) Za).g9 b p (-1) false h;rw[G6]at o;exact o
theorem QI(M:ml w B r)(c:Rel K r)(d:Own K)(N:iP K)(G:Good K){p:Nat}(y z:Int)(A:b<K.nS)(s:p<4) :
  aF V 39 #[Po (J (O B.b 0 Q)),Y U b,Y U 4,Y U p,Y U y,Y U z] w (oe B w (B3 K b p y)):=by
 have j:ar (ml w B r):=M;have k:ar (Rel K r):=c;have I:=M.k1;have hF:r.nF<=32:=M.hF;have l:ar (r.nF=K.nF/\r.nS=K.nS):=⟨c.f,c.s⟩;have f:b<r.nS:=by have:=c.s;omega
 have L:(0:Int)<=(b:Int):=by omega
 have P:(b:Int)<(r.nS:Int):=by omega
 have R:(0:Int)<=(p:Int):=by omega
 have S:(p:Int)<4:=by omega
 have t:w.cell? (O B.bp (b*12+4+p) Q)=J (Y U (r.P b (4+p))):=by rw[aP];exact M.pr b (4+p) f Za
 have T:=M.zp;have C:=M.bp;have W:B.bp≠B.b:=λe=>C e.symm;clear M c
 go_enter gY,gJ
 rcases T8 G k.out A s (by have:=l.out;omega) with⟨m,D,g⟩|⟨n,m,D,g⟩
 .rw[g]at t;have E:ar (B3 K b p y=⟨K,0,6⟩):=by unfold B3 ar;rw[mZ m]
  go_wp2
  go_ret2
  exact oe.mk E j.out k.out (ej.refl _)
 .have X:n<32:=by have:=l.out;omega
  obtain⟨v,u,a',b',hq⟩:∃v,r.P b (4+p)=v/\0<v/\v<100/\(v - 1).tdiv 2=n:=⟨_,Z,by omega,by have:=l.out;omega,by
   rcases g with⟨_,h⟩|⟨_,h⟩
   .rw[h];exact I5 n false
   .rw[h];exact I5 n true⟩
  have ne:¬v=0:=by omega
  rw[u]at t;clear g u;have x:∀i,Rel (K.oB b (4+p*2) i) (r.nt b (4+p) (pT n i)):=λi=>by
   have F:=k.out.g9 b p n i s;rw[←Wh,m];exact F
  by_cases o:y=0
  .subst o;have E:ar (B3 K b p 0=⟨K.oB b (4+p*2) false,0,0⟩):=by unfold B3 ar;rw[mY Za];rfl
   go_wp2
   go_ret2
   have q:=j.out.nt (i:=b) (c:=4+p) (o:=b*12+4+p) f Za Za (2*(n:Int)+1);refine oe.mk E q ?_ ((ej.refl _).nt _ _);have:=x false;rw[H7]at this;exact this
  .have E:ar (B3 K b p y=⟨K.oB b (4+p*2) true,0,0⟩):=by unfold B3 ar;rw[mY Za,show(y != 0)=true from by simpa using o]
   have e0:(y != 0)=true:=by simpa using o
   go_wp2
   go_ret2
   have q:=j.out.nt (i:=b) (c:=4+p) (o:=b*12+4+p) f Za Za (2*(n:Int)+1);have H:=q.nt (i:=b) (c:=4+p) (o:=b*12+4+p) f Za Za (2*(n:Int)+2);refine oe.mk E H ?_ (((ej.refl _).nt _ _).nt _ _);rw[Ua];have:=x true;rw[H7]at this;exact this
theorem Wj(M:ml w B r)(d:Rel K r)(e:Own K)(N:iP K)(G:Good K){x:Nat}(z:Int)(l:b<K.nS)(m:c<4)(o:x<4) :
  aF V 39 #[Po (J (O B.b 0 Q)),Y U b,Y U 18,Y U c,Y U x,Y U z] w (oe B w (Z4 K b c x)):=by
 have k:ar (ml w B r):=M;have f:ar (Rel K r):=d;have y:=M.k0;have A:=M.k1;have hF:r.nF<=32:=M.hF;have g:ar (r.nF=K.nF/\r.nS=K.nS):=⟨d.f,d.s⟩;have t:b<r.nS:=by have:=d.s;omega
 have C:(0:Int)<=(b:Int):=by omega
 have D:(b:Int)<(r.nS:Int):=by omega
 have F:(0:Int)<=(c:Int):=by omega
 have H:(c:Int)<4:=by omega
 have I:(0:Int)<=(x:Int):=by omega
 have L:(x:Int)<4:=by omega
 have p:w.cell? (O B.bp (b*12+4+c) Q)=J (Y U (r.P b (4+c))):=by rw[aP];exact M.pr b (4+c) t Za
 clear M d
 go_enter gY,gJ
 rcases T8 G f.out l m (by have:=g.out;omega) with⟨i,q,j⟩|⟨n,i,q,j⟩
 .rw[j]at p;have E:ar (Z4 K b c x=⟨K,0,6⟩):=by unfold Z4 ar;rw[mZ i]
  go_wp2
  go_ret2
  exact oe.mk E k.out f.out (ej.refl _)
 .have P:n<32:=by have:=g.out;omega
  have u:n<r.nF:=by have:=g.out;omega
  have E:ar (Z4 K b c x=⟨K,r.W n x,0⟩):=by
   unfold Z4 ar;rw[mY Za,i,au,f.out.w n x q o (bP (e.what (.dy b c) ⟨l,m⟩ n i).1)]
  obtain⟨v,s,R,S,T⟩:∃v,r.P b (4+c)=v/\0<v/\v<100/\(v - 1).tdiv 2=n:=⟨_,Z,by omega,by have:=g.out;omega,by
   rcases j with⟨_,h⟩|⟨_,h⟩
   .rw[h];exact I5 n false
   .rw[h];exact I5 n true⟩
  have W:¬v=0:=by omega
  have X:(0:Int)<=(n:Int):=by omega
  have l2:(n:Int)<(r.nF:Int):=by omega
  have c2:=k.out.wd n x u o;rw[s]at p;clear j s
  go_wp2
  go_ret2
  exact oe.mk E k.out f.out (ej.refl _)
theorem Wz(M:ml w B r)(c:Rel K r)(d:Own K)(N:iP K)(G:Good K){p x:Nat}(z:Int)(y:b<K.nS)(A:p<4)(i:x<4) :
  aF V 39 #[Po (J (O B.b 0 Q)),Y U b,Y U 19,Y U p,Y U x,Y U z] w (oe B w (J2 K b p x z)):=by
 have f:ar (ml w B r):=M;have g:ar (Rel K r):=c;have L:=M.k0;have P:=M.k1;have hF:r.nF<=32:=M.hF;have j:ar (r.nF=K.nF/\r.nS=K.nS):=⟨c.f,c.s⟩;have C:b<r.nS:=by have:=c.s;omega
 have R:(0:Int)<=(b:Int):=by omega
 have S:(b:Int)<(r.nS:Int):=by omega
 have T:(0:Int)<=(p:Int):=by omega
 have W:(p:Int)<4:=by omega
 have X:(0:Int)<=(x:Int):=by omega
 have x2:(x:Int)<4:=by omega
 have k:w.cell? (O B.bp (b*12+4+p) Q)=J (Y U (r.P b (4+p))):=by rw[aP];exact M.pr b (4+p) C Za
 have zw:=M.zw;clear M c
 go_enter gY,gJ
 rcases T8 G g.out y A (by have:=j.out;omega) with⟨s,t,l⟩|⟨n,s,t,l⟩
 .rw[l]at k;have E:ar (J2 K b p x z=⟨K,0,6⟩):=by unfold J2 ar;rw[mZ t]
  go_wp2
  go_ret2
  exact oe.mk E f.out g.out (ej.refl _)
 .have hn:n<32:=by have:=j.out;omega
  have u:n<r.nF:=by have:=j.out;omega
  rcases l with⟨m,h⟩|⟨m,h⟩
  .have E:ar (J2 K b p x z=⟨K,0,6⟩):=by unfold J2 ar;rw[mZ m]
   have o:(2*(n:Int)+1).tmod 2=1:=by rw[show(2*(n:Int)+1)=((2*n+1:Nat):Int) by omega,show(2:Int)=((2:Nat):Int) by rfl,←fU];omega
   have q:(2*(n:Int)+1 - 1).tdiv 2=n:=I5 n false;obtain⟨v,e,D,F⟩:∃v,2*(n:Int)+1=v/\0<v/\v<100:=⟨_,Z,by omega,by omega⟩;have H:¬v=0:=by omega
   rw[h,e]at k;rw[e]at o q;clear h e
   go_wp2
   go_ret2
   exact oe.mk E f.out g.out (ej.refl _)
  .have E:ar (J2 K b p x z=⟨K.ni n (2+x) z,0,0⟩):=by unfold J2 ar;rw[mY (by simp[m]),s,au]
   have o:(2*(n:Int)+2).tmod 2=0:=by rw[show(2*(n:Int)+2)=((2*n+2:Nat):Int) by omega,show(2:Int)=((2:Nat):Int) by rfl,←fU];omega
   have q:(2*(n:Int)+2 - 1).tdiv 2=n:=I5 n true;obtain⟨v,e,D,F⟩:∃v,2*(n:Int)+2=v/\0<v/\v<100:=⟨_,Z,by omega,by omega⟩;have H:¬v=0:=by omega
   have l1:(0:Int)<=(n:Int):=by omega
   have l2:(n:Int)<(r.nF:Int):=by omega
   have c2:=f.out.wd n x u i;rw[h,e]at k;rw[e]at o q;clear h e
   go_wp2
   go_ret2
   have I:=f.out.nX (i:=n) (c:=x) (o:=n*4+x) u i Z z;exact oe.mk E I (g.out.rf n x z i) ((ej.refl _).nX _ _)
theorem TC(K:aa)(s c:Nat)(v:Int)(m:c<3)(i d:Nat)(n:d<12):qF (K.cf s c v) i d=if i=s/\d=c then v else qF K i d:=by
 have b:∀j,¬(i=s/\j=c)->(K.cf s c v).S i j=K.S i j:=λj f=>d6 _ f;unfold qF
 by_cases e:d<3
 .rw[mZ e,mZ e]
  by_cases h:i=s/\d=c
  .rw[mZ h,h.1,h.2];exact upd_same _ _
  .rw[mY h];exact b d h
 rw[mY e,mY e,mY (show ¬(i=s/\d=c) by omega)];have g:(K.cf s c v).S i 19=K.S i 19:=b 19 Za;have k:(K.cf s c v).dy i (d - 4)=K.dy i (d - 4):=b _ Za;have l:(K.cf s c v).file i (d - 8)=K.file i (d - 8):=b _ Za;rw[g,k,l];rfl
theorem b3N(K:aa)(s:Nat)(v:Int)(i d:Nat)(m:d<12):qF (K.cf s 19 v) i d=if i=s/\d=3 then v else qF K i d:=by
 have c:∀j,¬(i=s/\j=19)->(K.cf s 19 v).S i j=K.S i j:=λj g=>d6 _ g;unfold qF
 by_cases e:d<3
 .rw[mZ e,mZ e,c d Za,mY Za]
 rw[mY e,mY e]
 by_cases b:d=3
 .rw[mZ b,mZ b]
  by_cases h:i=s
  .rw[mZ ⟨h,b⟩,h];exact upd_same _ _
  .rw[mY Za];exact c 19 Za
 rw[mY b,mY b,mY (show ¬(i=s/\d=3) by omega)]
 by_cases f:d<8
 .have k:(K.cf s 19 v).dy i (d - 4)=K.dy i (d - 4):=c _ Za;rw[mZ f,mZ f,k];rfl
 .have l:(K.cf s 19 v).file i (d - 8)=K.file i (d - 8):=c _ Za;rw[mY f,mY f,l];rfl
theorem Rel.cf{K:aa}{r:Rk}(b:Rel K r)(s c:Nat)(v:Int)(f:c<3):Rel (K.cf s c v) (r.nt s c v):=by
 refine⟨b.f,b.s,b.d,λi d g e=>?_,b.w,b.q⟩;rw[TC K s c v f i d e];show upd r.P s c v i d=_
 by_cases h:i=s/\d=c
 .rw[mZ h,h.1,h.2,upd_same]
 .rw[mY h,d6 _ h];exact b.p i d g e
theorem Rel.vo{K:aa}{r:Rk}(b:Rel K r)(s:Nat)(v:Int):Rel (K.cf s 19 v) (r.nt s 3 v):=by
 refine⟨b.f,b.s,b.d,λi d e c=>?_,b.w,b.q⟩;rw[b3N K s v i d c];show upd r.P s 3 v i d=_
 by_cases h:i=s/\d=3
 .rw[mZ h,h.1,h.2,upd_same]
 .rw[mY h,d6 _ h];exact b.p i d e c
def Rk.row(r:Rk)(s:Nat)(g:Nat->Int):Rk:={ r with P:=λi c=>if i=s then g c else r.P i c }
theorem ml.row{w:Wd}{B:RB}{r:Rk}(M:ml w B r)(x:b<r.nS)(k:List Vu)(g:Nat->Int)(y:k.length=12)(z:∀c,c<12->k[c]?=J (Y U (g c))):ml (w.setCells B.bp (b*12) k) B (r.row b g):=by
 have A:∀j,j<k.length->(w.cell? (O B.bp (b*12+j) Q)).isSome=true:=λj m=>by rw[M.pr b j x Za];rfl
 have n:∀p o,p≠B.bp->(w.setCells B.bp (b*12) k).cell? (O p o Q)=w.cell? (O p o Q):=λp o C=>dS B.bp k (b*12) w (O p o Q) λh=>absurd h C;have D:∀i j,i≠b->j<12->(w.setCells B.bp (b*12) k).cell? (O B.bp (i*12+j) Q)=w.cell? (O B.bp (i*12+j) Q):=λi j v m=>dS B.bp k (b*12) w (O B.bp (i*12+j) Q) (λ_ _=>by rw[y];show i*12+j<b*12\/b*12+12<=i*12+j;omega);have E:∀j (m:j<12),(w.setCells B.bp (b*12) k).cell? (O B.bp (b*12+j) Q)=J (k[j]' Za):=λj m=>kG B.bp k (b*12) w A j Za;have u:=M.bp;have F:=M.wp
 refine⟨by rw[n _ _ u];exact M.k0,by rw[n _ _ u];exact M.k1,λq l=>by rw[n _ _ u];exact M.k2 q l,M.aq,λf j H m=>by rw[n _ _ F];exact M.wd f j H m,?_,λd q s l=>by rw[n _ _ λe=>M.pq q l e.symm];exact M.rg d q s l,
  λo=>by rw[dE];exact M.zw o,λo=>by rw[dE];exact M.zp o,λq o l s=>by rw[dE];exact M.zq q o l s,by rw[l8];exact M.lb,by rw[l8];exact M.lw,by rw[l8];exact M.lp,λq l s=>by rw[l8];exact M.lq q l s,
  M.bw,M.bp,M.bq,M.wp,M.wq,M.pq,M.qq,M.hF,M.hS,M.hD⟩
 intro i c v t;show _=J (dL .i64 (if i=b then g c else r.P i c))
 by_cases e:i=b
 .subst e;rw[E c t,mZ Z];have:=z c t;rw[bj Za]at this;exact this
 .rw[D i c e t,mY e];exact M.pr i c v t
theorem ml.tK{w:Wd}{B:RB}{r:Rk}(M:ml w B r)(c:b<r.nS):w.there B.bp (b*12) 12:=λj d=>⟨by rw[M.pr b j c d];rfl,M.zp _⟩
theorem ej.row{B:RB}{a w:Wd}(h:ej B a w):∀(b:List Vu) (o:Nat),ej B a (w.setCells B.bp o b):=λb=>by
 induction b generalizing w with
 | nil=>intro o;exact h
 | cons v r c=>intro o;exact c (h.nt o v) (o+1)
def H9(a b c d:Int):List dM:=[Y U a,Y U b,Y U c,Y U d,Y U 0,Y U 0,Y U 0,Y U 0,Y U 0,Y U 0,Y U 0,Y U 0]
def J6(a b c d:Int)(i:Nat):Int:=if i=0 then a else if i=1 then b else if i=2 then c else if i=3 then d else 0
theorem Lp(a b c d:Int)(i:Nat)(e:i<12):(H9 a b c d)[i]?=J (Y U (J6 a b c d i)):=by
 obtain rfl|rfl|rfl|rfl|rfl|rfl|rfl|rfl|rfl|rfl|rfl|rfl:i=0\/i=1\/i=2\/i=3\/i=4\/i=5\/i=6\/i=7\/i=8\/i=9\/i=10\/i=11:=by omega
 all_goals rfl
theorem c2e{K:aa}{r:Rk}(e:Rel K r)(N:iP K){f:Nat}(g:c<K.nS)(k:K.S c 0=0):Rel ((((K.an f 1 c).cf c 0 1).cf c 1 b).cf c 2 f) (r.row c (J6 1 b f 0)):=by
 have l:Rel (K.an f 1 c) r:=e.rI f 1 c Za;have q:(K.an f 1 c).S=K.S:=Z;have s:(K.an f 1 c).B=K.B:=Z;have t:(K.an f 1 c).nS=K.nS:=Z;generalize K.an f 1 c=u at *;have j:=((l.cf c 0 1 Za).cf c 1 b Za).cf c 2 f Za;refine⟨j.f,j.s,j.d,λi d m n=>?_,j.w,j.q⟩;rw[←j.p i d m n];show(if i=c then J6 1 b f 0 d else r.P i d)=upd (upd (upd r.P c 0 1) c 1 b) c 2 f i d;unfold upd
 by_cases h:i=c
 .subst h;rw[mZ Z];obtain rfl|rfl|rfl|rfl|⟨v,o⟩|o:d=0\/d=1\/d=2\/d=3\/(4<=d/\d<8)\/8<=d:=by omega
  .simp[J6]
  .simp[J6]
  .simp[J6]
  .simp[J6];rw[e.code g,N.code g k]
  .obtain⟨p,rfl⟩:∃p,d=4+p:=⟨d - 4,by omega⟩;rw[mY Za,mY Za,mY Za,e.dy g Za,N.dy g k Za,G6];unfold J6;rw[mY Za,mY Za,mY Za,mY Za]
  .obtain⟨p,rfl⟩:∃p,d=8+p:=⟨d - 8,by omega⟩;rw[mY Za,mY Za,mY Za,e.file g Za,N.file g k Za,G6];unfold J6;rw[mY Za,mY Za,mY Za,mY Za]
 .rw[mY h,mY Za,mY Za,mY Za]
theorem b7L(M:ml w B r)(d:Rel K r)(g:Own K)(N:iP K)(G:Good K){f:Nat}(u:b<K.nS)(n:c<K.nS)(o:f<K.nF) :
  aF V 40 #[Po (J (O B.b 0 Q)),Y U b,Y U 5,Y U c,Y U f] w (oe B w (G0 K b c f)):=by
 have h:ar (ml w B r):=M;have i:ar (Rel K r):=d;have x:=M.k1;have l:c<r.nS:=by have:=d.s;omega
 have y:(0:Int)<=(c:Int):=by omega
 have z:(c:Int)<(r.nS:Int):=by omega
 have A:r.nS<=6:=M.hS;have m:w.cell? (O B.bp (c*12) Q)=J (Y U (r.P c 0)):=M.pr c 0 l Za;rw[d.kind n]at m;clear M d
 go_enter Tryz.func40,Tryz.ntmps40
 by_cases k:K.S c 0=0
 .rw[k]at m
  by_cases p:K.F f 0=0
  .have E:ar (G0 K b c f=⟨(((K.an f 1 c).cf c 0 1).cf c 1 b).cf c 2 f,0,0⟩):=by unfold G0 ar;rw[mY Za,mY Za]
   have j:(K.F f 0==0)=true:=by simpa using p
   go_wp2_with fail
   refine(Y9 h.out i.out g N G o).mono ?_;rintro e q ⟨rfl,rfl⟩;rw[j];have t:ar (q.there B.bp (c*12) 12):=h.out.tK l
   go_wp2_with (refine dV Z 107 _ _ Z _ (c*12) (H9 1 b f 0).toArray Z Z t.out Zd Zd ?_)
   go_ret2
   exact oe.mk E (h.out.row l (H9 1 b f 0) (J6 1 b f 0) Z (Lp 1 b f 0)) (c2e i.out N n k) ((ej.refl _).row _ _)
  .have E:ar (G0 K b c f=⟨K,0,5⟩):=by unfold G0 ar;rw[mY Za,mZ Za]
   have j:(K.F f 0==0)=false:=by simpa using p
   go_wp2_with fail
   refine(Y9 h.out i.out g N G o).mono ?_;rintro e q ⟨rfl,rfl⟩;rw[j]
   go_wp2
   go_ret2
   exact oe.mk E h.out i.out (ej.refl _)
 .have E:ar (G0 K b c f=⟨K,0,7⟩):=by unfold G0 ar;rw[mZ Za]
  have j:(K.S c 0 != 0)=true:=by simpa using k
  obtain⟨v,s⟩:∃v,K.S c 0=v:=⟨_,Z⟩;rw[s]at m j;clear k s
  go_wp2
  go_ret2
  exact oe.mk E h.out i.out (ej.refl _)
theorem XW:(V.info? 69).map (λi=>(i.zero,i.size,i.bytes))=J (J (.agg #[Y U 0,Y U 0,Y U 0,Y U 0]),4,32):=by kernel_rfl
theorem c1j(n:Nat)(k:n<=32)(w:Wd):∃C:Array Vu,C.size=n*4/\(∀j,j<n*4->C[j]?=J (Y U 0))/\(ic 101 (Y U n) (Y U n)).run V w=.ok (Sc (J (O w.heap.size 0 Q)) n n) (w.alloc (.cells C 69)):=by
 have b:=XW
 cases c:V.info? 69 with
 | none=>rw[c]at b;cases b
 | some i =>
  rw[c]at b;simp only[aD,bm,cR]at b;let⟨d,f,g⟩:=b;have:=run_make (P:=V) w 101 69 i _ Tryz.underlying101 c d .i64 .i64 n n Za Za (by rw[g];omega) Za;rw[f]at this;refine⟨_,size_madeCells _ _,λj l=>?_,this⟩;have e:(eN (fY (.agg #[Y U 0,Y U 0,Y U 0,Y U 0])) (n*4))[j]?=J ((#[dL .i64 0,Y U 0,Y U 0,Y U 0]:Array Vu)[j%4]!):=by
   unfold eN;rw[Array.getElem?_map,Array.getElem?_range,mZ Za];rfl
  rw[e];have h:j%4<4:=Nat.mod_lt _ Za;generalize j%4=m at h;cases m,(Za:m<4) using eL
  all_goals rfl
def sC:Nat->List Vu
 | 0=>[]
 | k+1=>sC k++H9 0 (-1) (-1) 0
theorem Dl:∀k,(sC k).length=k*12
 | 0=>rfl
 | k+1=>by unfold sC;rw[List.length_append,Dl k];show k*12+12=_;omega
structure uk (w w':Wd) (nF nS nD k:Nat) (v p q s:Vu):Prop where
 oC:bE w.heap.size w w'
 size:w.heap.size+3<=w'.heap.size
 cfg:w'.heap[w.heap.size]?=J (.cells #[Y U nF,Y U nS,Y U nD] 23)
 BT:w'.rowIs (w.heap.size+1) 69 (nF*4) (λ_=>Y U 0)
 str:∃f,w'.rowIs (w.heap.size+1+1) 105 5 f/\f 0=Sc (J (O (w.heap.size+1) 0 Q)) nF nF/\f 1=v/\f 2=p/\f 3=q/\f 4=s
 own:w'.ownsRow (w.heap.size+3) 107 12 v k (sC k)
theorem c1F(b:Wd)(j:Nat)(u:Vu)(c:(H9 0 (-1) (-1) 0)[j]?=J u):(b.alloc (.cells (H9 0 (-1) (-1) 0).toArray 107)).cell? (((O b.heap.size 0 Q):cx).add j)=J u:=by
 have d:=cC b (.cells (H9 0 (-1) (-1) 0).toArray 107);rw[eG,aE,jC _ _ j _ _ _ d];simpa using c
theorem WQ:∀u∈H9 0 (-1) (-1) 0,u.oneCell'=true:=by
 have h:(H9 0 (-1) (-1) 0).toArray.all (·.oneCell')=true:=by kernel_rfl
 exact λu b=>cP.1 h u (by simpa using b)
theorem uk.start(w:Wd)(b c d:Nat)(C:Array Vu)(f:C.size=b*4)(g:∀j,j<b*4->C[j]?=J (Y U 0)) :
  uk w (((w.alloc (.cells #[Y U b,Y U c,Y U d] 23)).alloc (.cells C 69)).alloc (.cells #[Sc (J (O (w.heap.size+1) 0 Q)) b b,Sc Q 0 0,Sc Q 0 0,Sc Q 0 0,Sc Q 0 0] 105)) b c d 0 (Sc Q 0 0) (Sc Q 0 0) (Sc Q 0 0) (Sc Q 0 0):=by
 refine⟨(((bz _ _).alloc (af _) _).alloc Zc _).alloc (by simp;omega) _,by simp,?_,?_,?_,dc _ _ _ _⟩
 .rw[aJ _ _ _ (by simp;omega),aJ _ _ _ Zc];exact cC w _
 .have h:=(xI w (.cells #[Y U b,Y U c,Y U d] 23) C 69).alloc (.cells #[Sc (J (O (w.heap.size+1) 0 Q)) b b,Sc Q 0 0,Sc Q 0 0,Sc Q 0 0,Sc Q 0 0] 105);rw[f]at h;refine h.congr λj i=>?_;rw[aX,g j i];rfl
 .have h:=K7 ((w.alloc (.cells #[Y U b,Y U c,Y U d] 23)).alloc (.cells C 69)) #[Sc (J (O (w.heap.size+1) 0 Q)) b b,Sc Q 0 0,Sc Q 0 0,Sc Q 0 0,Sc Q 0 0] 105;have e:((w.alloc (.cells #[Y U b,Y U c,Y U d] 23)).alloc (.cells C 69)).heap.size=w.heap.size+1+1:=by simp
  rw[e]at h;exact⟨_,h,Z,Z,Z,Z,Z⟩
theorem c4w:(V.info? 107).map (λi=>(i.zero,i.size,i.bytes))=J (J (.agg (H9 0 0 0 0).toArray),12,96):=by kernel_rfl
def Gv(c:Nat):TypeId:=if c=1 then 107 else 3
def Cj(c:Nat):Nat:=if c=1 then 12 else 1
def up(f:Nat->q)(c:Nat)(v:q):Nat->q:=λi=>if i=c then v else f i
theorem Y7{f:Nat->q}{v:q}:up f b v b=v:=by simp[up]
theorem C9{f:Nat->q}{v:q}(h:c≠b):up f b v c=f c:=by simp[up,h]
structure qD (w w':Wd) (nF nS nD:Nat) (V:Nat->Vu) (N:Nat->Nat) (X:Nat->List Vu):Prop where
 oC:bE w.heap.size w w'
 size:w.heap.size+3<=w'.heap.size
 cfg:w'.heap[w.heap.size]?=J (.cells #[Y U nF,Y U nS,Y U nD] 23)
 BT:w'.rowIs (w.heap.size+1) 69 (nF*4) (λ_=>Y U 0)
 str:w'.rowIs (w.heap.size+1+1) 105 5 (λc=>if c=0 then Sc (J (O (w.heap.size+1) 0 Q)) nF nF else V c)
 own:∀c,1<=c->c<=4->w'.ownsRow (w.heap.size+3) (Gv c) (Cj c) (V c) (N c) (X c)
 apart:∀c c',1<=c->c<=4->1<=c'->c'<=4->c≠c'->(V c).ownBlock=Q\/(V c).ownBlock≠(V c').ownBlock
variable{w2:Wd}{A p l:Nat}{V:Nat->Vu}{N:Nat->Nat}
section
variable{X:Nat->List Vu}
theorem qD.pC(G:qD w w' A p l V N X)(c:1<=b)(d:b<=4){o:Obj}(f:(w'.alloc o).grownBy w2 (V b).ownBlock)(i:Nat)(g:i<w.heap.size+3):w2.heap[i]?=w'.heap[i]?:=by
 have h:=G.size;rw[f.block i (by simp;omega) λe=>by have:=(G.own b c d).lt i e.symm;omega];exact aJ w' o i Za
theorem qD.tZ(G:qD w w' A p l V N X){c:Nat}(b:1<=c)(d:c<=4){o:Obj}(e:(w'.alloc o).grownBy w2 (V c).ownBlock):w2.rowIs (w.heap.size+1+1) 105 5 (λc=>if c=0 then Sc (J (O (w.heap.size+1) 0 Q)) A A else V c) :=
 G.str.of_block (G.pC b d e _ Za)
theorem qD.grown(G:qD w w' A p l V N X){c:Nat}(E:1<=c)(F:c<=4){o:Obj}(q:(w'.alloc o).grownBy w2 (V c).ownBlock){n t:Nat}(H:w2.ownsRow (w.heap.size+3) (Gv c) (Cj c) (Sc (J (O b 0 Q)) n t) n I)(f:(V c).ownBlock=J b\/b=w'.heap.size+1) :
  qD w (w2.setCell (O (w.heap.size+1+1) c Q) (Sc (J (O b 0 Q)) n t)) A p l (up V c (Sc (J (O b 0 Q)) n t)) (up N c n) (up X c I):=by
 have sz:=G.size;generalize W:di (J (O b 0 Q)) n t=u at *;have L:u.ownBlock=J b:=by rw[←W];rfl
 have v:=G.pC E F q;have hz:w'.heap.size<=w2.heap.size:=by have:=q.size;simp at this;omega
 have x:∀i,i≠w.heap.size+1+1->(w2.setCell (O (w.heap.size+1+1) c Q) u).heap[i]?=w2.heap[i]?:=λi y=>dK w2 _ u i (by simpa using y);have gs:w2.grownBy (w2.setCell (O (w.heap.size+1+1) c Q) u) (J (w.heap.size+1+1)):=⟨Z,Z,Z,by rw[i6];exact af _,λi y M=>x i λe=>M (by rw[e])⟩;refine⟨⟨?_,?_,?_,?_,λi y=>?_⟩,?_,?_,?_,?_,?_,?_⟩
 .exact q.os.trans G.oC.os
 .exact q.tape.trans G.oC.tape
 .exact q.output.trans G.oC.output
 .rw[i6];have:=G.oC.size;omega
 .rw[x i Za,v i Za];exact G.oC.block i y
 .rw[i6];omega
 .rw[x _ Za,v _ Za];exact G.cfg
 .exact(G.BT.of_block (v _ Za)).of_block (x _ Za)
 .refine((G.str.of_block (v _ Za)).set c u).congr λj hj=>?_;unfold up
  by_cases e:j=c
  .subst e;simp;omega
  .simp[e]
 .intro a g m
  by_cases e:a=c
  .subst e;rw[Y7,Y7,Y7];exact H.kept gs (ba λe=>by have:=H.lt _ e;omega)
  .rw[C9 e,C9 e,C9 e];have P:=((G.own a g m).alloc o).kept q (G.apart a c g m E F e);exact P.kept gs (ba λe=>by have:=P.lt _ e;omega)
 .intro a s g m z C D;have R:∀d,1<=d->d<=4->∀k,(V d).ownBlock=J k->k<w'.heap.size:=λd h h' k hk=>((G.own d h h').lt k hk).2
  by_cases S:a=c
  .subst S;rw[Y7,C9 (aA D),L];right;intro e;rcases f with f|f
   .rcases G.apart a s g m z C D with h|h
    .rw[h]at f;cases f
    .exact h (f.trans e)
   .have:=R s z C b e.symm;omega
  .rw[C9 S]
   by_cases T:s=c
   .subst T;rw[Y7,L];rcases G.apart a s g m z C D with h|h
    .exact bP h
    .rcases f with f|f
     .right;rw[←f];exact h
     .right;intro e;have:=R a g m b e;omega
   .rw[C9 T];exact G.apart a s g m z C D
theorem qD.cell(G:qD w w' A p l V N X)(c:1<=b)(d:b<=4):w'.cell? (O (w.heap.size+1+1) b Q)=J (V b):=by
 have:=G.str.cell (show b<5 by omega)
 rwa [mY Za]at this
theorem qD.Bz(G:qD w w' A p l V N X):w'.cell? (O w.heap.size 1 Q)=J (Y U p)/\w'.cell? (O w.heap.size 2 Q)=J (Y U l):=by
 have h:=G.cfg;unfold aC;simp[h]
end
theorem uk.Xg{w w':Wd}{A p l:Nat}(G:uk w w' A p l 0 (Sc Q 0 0) (Sc Q 0 0) (Sc Q 0 0) (Sc Q 0 0)):qD w w' A p l (λ_=>Sc Q 0 0) (λ_=>0) (λ_=>[]):=by
 let⟨f,r,b,d,e,g,h⟩:=G.str;refine⟨G.oC,G.size,G.cfg,G.BT,r.congr λj i=>?_,λc _ _=>dc _ _ _ _,λ_ _ _ _ _ _ _=>bP Z⟩;obtain rfl|rfl|rfl|rfl|rfl:j=0\/j=1\/j=2\/j=3\/j=4:=by omega
 .exact b
 .exact d
 .exact e
 .exact g
 .exact h
theorem PJ:∀(k i c:Nat),i<k->c<12->(sC k)[i*12+c]?=J (Y U (if c=1\/c=2 then -1 else 0))
 | 0,i,c,h,_=>by omega
 | k+1,i,c,h,hc=>by
  unfold sC
  by_cases e:i<k
  .rw[gC (by rw[Dl];omega)];exact PJ k i c e hc
  .obtain rfl:i=k:=by omega
   rw[la (by rw[Dl];omega),Dl,show i*12+c - i*12=c by omega];obtain rfl|rfl|rfl|rfl|rfl|rfl|rfl|rfl|rfl|rfl|rfl|rfl:c=0\/c=1\/c=2\/c=3\/c=4\/c=5\/c=6\/c=7\/c=8\/c=9\/c=10\/c=11:=by omega
   all_goals rfl
def vM(k:Nat)(c:Nat):List dM:=List.replicate k (Y U (if c=2 then -1 else 0))
theorem QK(k c:Nat):vM (k+1) c=vM k c++[Y U (if c=2 then -1 else 0)]:=List.replicate_succ'
theorem c8z(A p l:Nat){r:Rk}(o:r.nF=A)(s:r.nS=p)(t:r.nD=l)(u:∀i c,i<p->c<12->r.P i c=if c=1\/c=2 then -1 else 0)(v:∀e q,e<l->q<3->r.R e q=if q=0 then -1 else 0):Rel (K6 A p l) ((r.nt 0 0 2).nt 0 2 0):=by
 refine⟨o,s,t,λi c x y=>?_,λg j E F f=>?_,λe q z C=>?_⟩
 .have D:((r.nt 0 0 2).nt 0 2 0).P i c=if i=0/\c=2 then 0 else if i=0/\c=0 then 2 else r.P i c:=by
   show upd (upd r.P 0 0 2) 0 2 0 i c=_;unfold upd;rfl
  rw[D,u i c x y];unfold qF
  by_cases k:c<3
  .rw[mZ k,Cu];cases c,(Za:c<3) using iN
   all_goals simp
  .rw[mY k,mY Za,mY Za,mY Za]
   by_cases h:c=3
   .rw[mZ h,Cu];simp
   .rw[mY h];have m:∀j,j≠0->j≠2->j≠19->(K6 A p l).S i j=-1:=λj a b d=>by rw[Cu,mY Za,mY Za,mY Za]
    by_cases n:c<8
    .rw[mZ n,show(K6 A p l).dy i (c - 4)=-1 from m _ Za Za Za,G6]
    .rw[mY n,show(K6 A p l).file i (c - 8)=-1 from m _ Za Za Za,G6]
 .exfalso;rw[HV]at f;split at f<;>simp at f
 .rw[show((r.nt 0 0 2).nt 0 2 0).R e q=r.R e q from Z,v e q z C,EC]
theorem Ru(k c j:Nat)(h:j<k):(vM k c)[j]?=J (Y U (if c=2 then -1 else 0)):=by unfold vM;rw[List.getElem?_replicate,mZ h]
theorem qD.done{w w':Wd}{A p l:Nat}{V:Nat->Vu}{N:Nat->Nat}{X:Nat->List Vu}(G:qD w w' A p l V N X)(h1:1<=p)(hF:A<=32)(R:p<=6)(S:l<=4)(n1:N 1=p)(W:X 1=sC p)(D:∀c,2<=c->c<=4->N c=l/\X c=vM l c) :
  ∃B r E,B.b=w.heap.size+1+1/\V 1=Sc (J (O B.bp 0 Q)) p E/\ml w' B r/\r.nS=p/\r.P 0 0=0/\r.P 0 2=-1/\Rel (K6 A p l) ((r.nt 0 0 2).nt 0 2 0)/\w.heap.size<=B.bw/\w.heap.size<=B.bp/\∀q,w.heap.size<=B.bq q:=by
 have sz:=G.size;have y:=G.own 1 Za Za;rw[n1,W]at y;let⟨g,E,F,hg,M⟩:=y.form Za;have H:∀q,∃t:Option cx×Nat×Nat,q<3->V (2+q)=.slice t.1 l t.2.2/\w.heap.size+3<=t.2.1/\(0<l->t.1=J (O t.2.1 0 Q)/\t.2.1<w'.heap.size)/\(l=0->t.2.1=w'.heap.size+q):=λq=>by
  by_cases k:q<3
  .have u:=G.own (2+q) Za Za;rw[(D (2+q) Za Za).1]at u
   by_cases m:0<l
   .let⟨b,c,e,hb,hl⟩:=u.form m;exact⟨(J (O b 0 Q),b,c),λ_=>⟨e,hb,λ_=>⟨Z,hl⟩,λh=>by omega⟩⟩
   .obtain rfl:l=0:=by omega
    rcases u.2 with⟨e,_⟩|⟨b,c,g',e,_⟩
    .exact⟨(Q,w'.heap.size+q,0),λ_=>⟨e,by show _<=w'.heap.size+q;omega,λh=>by omega,λ_=>rfl⟩⟩
    .exact⟨(J (O b 0 Q),w'.heap.size+q,c),λ_=>⟨e,by show _<=w'.heap.size+q;omega,λh=>by omega,λ_=>rfl⟩⟩
  .exact⟨(Q,0,0),λh=>absurd h k⟩
 let⟨T,n⟩:=jk H;have b':∀q s,q<3->s<3->q≠s->(T q).2.1≠(T s).2.1:=λq s k I P e=>by
  let⟨v,L,x,z⟩:=n q k;let⟨b1,b2,b3,b4⟩:=n s I
  by_cases m:0<l
  .have C:=G.apart (2+q) (2+s) Za Za Za Za Za;rw[v,b1,(x m).1,(b3 m).1]at C;rcases C with h|h
   .cases h
   .exact h (by show J (T q).2.1=J (T s).2.1;rw[e])
  .have:=z Za;have:=b4 Za;omega
 have c':∀q,q<3->g≠(T q).2.1:=λq k e=>by
  let⟨v,L,x,z⟩:=n q k
  by_cases m:0<l
  .have C:=G.apart 1 (2+q) Za Za Za Za Za;rw[F,v,(x m).1]at C;rcases C with h|h
   .cases h
   .exact h (by show J g=J (T q).2.1;rw[e])
  .have:=z Za;omega
 rw[F]at y;refine⟨⟨w.heap.size+1+1,w.heap.size+1,g,λq=>if q<3 then(T q).2.1 else w.heap.size,A,E,λq=>(T q).1,λq=>(T q).2.2⟩,⟨A,p,l,λ_ _=>0,λ_ c=>if c=1\/c=2 then -1 else 0,λ_ q=>if q=0 then -1 else 0⟩,E,Z,F,?_,Z,Z,Z,c8z A p l Z Z Z (λ_ _ _ _=>rfl) λ_ _ _ _=>rfl,by show _<=w.heap.size+1;omega,by show _<=g;omega,λq=>?_⟩
 .refine⟨G.str.cell (show 0<5 by omega),?_,λq k=>?_,λq k m=>?_,λf j hf hj=>?_,λi c hi d'=>?_,λd q m k=>?_,λo=>G.BT.frozen o,λo=>y.frozenAt o,λq o k m=>?_,by show w.heap.size+1+1<_;omega,by show w.heap.size+1<_;omega,M,λq k m=>?_,?_,?_,λq k=>?_,?_,λq k=>?_,λq k=>?_,λq s k I P=>?_,hF,R,S⟩
  .show w'.cell? (O (w.heap.size+1+1) 1 Q)=_;rw[G.cell Za Za,F]
  .show w'.cell? (O (w.heap.size+1+1) (2+q) Q)=_;rw[G.cell Za Za,(n q k).1]
  .show(T q).1=J (O (if q<3 then _ else _) 0 Q);rw[mZ k];exact((n q k).2.2.1 m).1
  .have h':f<A:=hf;exact G.BT.cell (show f*4+j<A*4 by omega)
  .have e':i<p:=hi;show w'.cell? (O g (i*12+c) Q)=_;rw[y.cellAt (i*12+c) (by show _<p*12;omega)];exact PJ p i c e' d'
  .have f':d<l:=m;let⟨v,L,x,z⟩:=n q k;have u:=G.own (2+q) Za Za;rw[(D (2+q) Za Za).1,(D (2+q) Za Za).2,v,(x Za).1]at u;show w'.cell? (O (if q<3 then _ else _) d Q)=_;rw[mZ k,u.cellAt d (by rw[show Cj (2+q)=1 from mY Za];omega),Ru _ _ _ f']
   by_cases e:q=0
   .subst e;rfl
   .rw[mY Za];show _=J (dL .i64 (if q=0 then -1 else 0));rw[mY e]
  .let⟨v,L,x,z⟩:=n q k;have u:=G.own (2+q) Za Za;rw[(D (2+q) Za Za).1,v,(x m).1]at u;show w'.frozen? (O (if q<3 then _ else _) o Q)=_;rw[mZ k];exact u.frozenAt o
  .show(if q<3 then _ else _)<_;rw[mZ k];exact((n q k).2.2.1 m).2
  .show w.heap.size+1+1≠w.heap.size+1;omega
  .show w.heap.size+1+1≠g;omega
  .show w.heap.size+1+1≠(if q<3 then _ else _);rw[mZ k];have:=(n q k).2.1;omega
  .show w.heap.size+1≠g;omega
  .show w.heap.size+1≠(if q<3 then _ else _);rw[mZ k];have:=(n q k).2.1;omega
  .show g≠(if q<3 then _ else _);rw[mZ k];exact c' q k
  .show(if q<3 then _ else _)≠(if s<3 then _ else _);rw[mZ k,mZ I];exact b' q s k I P
 .show _<=(if q<3 then _ else _);split
  .have:=(n q (by assumption)).2.1;omega
  .exact af _
structure yA where
 T:Ti
 m:Nat
 ty:Nat->Ti
 sz:Nat->Nat
structure S9 (L:yA) (w:Wd) (b base:Nat) (V:Nat->Vu) (N:Nat->Nat) (X:Nat->List Vu):Prop where
 str:w.rowIs b L.T L.m V
 own:∀c,c<L.m->w.ownsRow base (L.ty c) (L.sz c) (V c) (N c) (X c)
 apart:∀c c',c<L.m->c'<L.m->c≠c'->(V c).ownBlock=Q\/(V c).ownBlock≠(V c').ownBlock
 pC:∀c,c<L.m->(V c).ownBlock≠J b
variable{L:yA}{b base:Nat}
section
variable{X:Nat->List Vu}
def yA.is(L:yA)(b:Nat)(V:Nat->Vu)(k:Nat):Prop:=k=b\/∃c,c<L.m/\(V c).ownBlock=J k
theorem S9.same(h:S9 L w b base V N X)(f:∀k,k<w.heap.size->L.is b V k->w2.heap[k]?=w.heap[k]?):S9 L w2 b base V N X:=by
 refine⟨h.str.of_block (f _ h.str.lt (bP Z)),λc d=>⟨(h.own c d).1,?_⟩,h.apart,h.pC⟩;rcases(h.own c d).2 with j|⟨g,m,n,e,o,i,q⟩
 .exact bP j
 .exact ba ⟨g,m,n,e,o,by rw[f g (Zj i).1 (ba ⟨c,d,by rw[e];rfl⟩)];exact i,q⟩
theorem S9.alloc(h:S9 L w b base V N X)(o:Obj):S9 L (w.alloc o) b base V N X:=h.same λk c _=>aJ w o k c
theorem S9.cell(h:S9 L w b base V N X)(d:c<L.m):w.cell? (O b c Q)=J (V c):=h.str.cell d
theorem S9.grown(h:S9 L w b base V N X){c:Nat}(v:c<L.m)(z:w.grownBy w2 (V c).ownBlock){g n o:Nat}(F:w2.ownsRow base (L.ty c) (L.sz c) (Sc (J (O g 0 Q)) n o) n I)(m:(V c).ownBlock=J g\/g=w.heap.size) :
  S9 L (w2.setCell (O b c Q) (Sc (J (O g 0 Q)) n o)) b base (up V c (Sc (J (O g 0 Q)) n o)) (up N c n) (up X c I):=by
 generalize H:di (J (O g 0 Q)) n o=u at *;have x:u.ownBlock=J g:=by rw[←H];rfl
 have P:g≠b:=by
  rcases m with m|m
  .intro e;exact h.pC c v (by rw[m,e])
  .have:=h.str.lt;omega
 have R:w2.heap[b]?=w.heap[b]?:=z.block b h.str.lt λe=>h.pC c v e.symm;have S:∀i,i≠b->(w2.setCell (O b c Q) u).heap[i]?=w2.heap[i]?:=λi C=>dK w2 _ u i (by simpa using C);have gs:w2.grownBy (w2.setCell (O b c Q) u) (J b):=⟨Z,Z,Z,by simp_all,λi C T=>S i λe=>T (by rw[e])⟩;refine⟨?_,?_,?_,?_⟩
 .refine((h.str.of_block R).set c u).congr λj hj=>?_;unfold up
  grind
 .intro a f
  by_cases e:a=c
  .subst e;rw[Y7,Y7,Y7];exact F.kept gs (ba (by grind))
  .rw[C9 e,C9 e,C9 e];have W:=(h.own a f).kept z (h.apart a c f v e);exact W.kept gs (ba (h.pC a f))
 .intro a s f y t;have lt:∀d,d<L.m->∀k,(V d).ownBlock=J k->k<w.heap.size:=λd G k M=>((h.own d G).lt k M).2
  by_cases D:a=c
  .subst D;rw[Y7,C9 (aA t),x];right;intro e;rcases m with m|m
   .rcases h.apart a s f y t with q|q
    all_goals grind
   grind
  .rw[C9 D]
   by_cases E:s=c
   .subst E;rw[Y7,x];rcases h.apart a s f y t with q|q
    all_goals grind
   .rw[C9 E];exact h.apart a s f y t
 .intro a f
  by_cases e:a=c
  .subst e;rw[Y7,x];intro e;injection e with e;exact P e
  .rw[C9 e];exact h.pC a f
structure GU (L:yA) (w w2:Wd) (b base:Nat) (V:Nat->Vu) (N:Nat->Nat) (X:Nat->List Vu) (c g cap:Nat) (news:List Vu):Prop where
 lists:S9 L (w2.setCell (O b c Q) (Sc (J (O g 0 Q)) (N c+1) cap)) b base (up V c (Sc (J (O g 0 Q)) (N c+1) cap)) (up N c (N c+1)) (up X c (X c++news))
 row:w2.rowIs b L.T L.m V
 grown:w.grownBy w2 (V c).ownBlock
 YK:(V c).ownBlock=J g\/g=w.heap.size
theorem c1h{P:Pg}(h:S9 L w b base V N X){c:Nat}(m:c<L.m){i:ig}{o:Nat}(f:Ti)(D:P.underlying f=J (.slice (L.ty c)))(E:P.info? (L.ty c)=J i)(F:i.zero=J n)(H:i.size=L.sz c)(I:i.bytes=o)(R:n.cells.size=L.sz c)(S:0<L.sz c)(q:cx)(y:Nat)(d:List Vu)(hl:d.length=L.sz c)(T:∀j u,d[j]?=J u->w.cell? (q.add j)=J u)(W:∀u∈d,u.oneCell'=true)(G:N c+1<=iT)(M:(N c+1)*o<=140737488355328)(a':base<=w.heap.size){C:List aL}{a:jh}{Q:Exit->jh->Wd->Prop}(b':t.guard=G')(s x:aS)(ho:t.op=.call { callee:=.builtin .append,args:=#[s,x],argTypes:=#[f,f] })(hs:a.eval s=V c)(hx:a.eval x=Sc (J q) 1 y)(hk:∀g k w2,GU L w w2 b base V N X c g k d->iR P z Q C (a.put t.dst (Sc (J (O g 0 G')) (N c+1) k)) w2) :
  iR P z Q (t::C) a w:=by
 refine wpList_append_lies _ b' s x f ho base (L.ty c) i n (L.sz c) o D E F H I R S (V c) (N c) (X c) hs (h.own c m) q 1 y d hx (by grind) T W Za G M a' w.heap.size Z ?_;intro g k w2 o2 v nJ c';exact hk g k w2 ⟨h.grown m v o2 nJ,h.str.of_block (v.block b h.str.lt λe=>h.pC c m e.symm),v,nJ⟩
end
theorem Ec{w:Wd}{t:Ti}(j:Nat)(u:Vu)(c:I[j]?=J u):(w.alloc (.cells I.toArray t)).cell? (((O w.heap.size 0 Q):cx).add j)=J u:=by
 have d:=cC w (.cells I.toArray t);rw[eG,aE,jC _ _ j _ _ _ d];simpa using c
def tx(f:Nat->Vu)(n:Nat):List dM:=(aO n).map f
theorem Yv{f:Nat->Vu}(n j:Nat)(h:j<n):(tx f n)[j]?=J (f j):=by unfold tx;grind
theorem QN(f:Nat->Vu)(n m:Nat):tx f (n+m)=tx f n++(aO m).map (λj=>f (n+j)):=by
 unfold tx;rw[List.range_add,List.map_append,lW];rfl
theorem TV(f:List Vu):∀(k:Nat) (d:List Vu) (z:Array Vu),z.size=k+f.length->d.length=k->(∀j,j<k->z[j]?=d[j]?) ->
  (f.zipIdx k).foldl (λ(a:Array Vu) (x:Vu×Nat)=>a.setIfInBounds x.2 x.1) z=(d++f).toArray:=by
 induction f with
 | nil =>
  intro k d z g n m;simp only[List.zipIdx_nil,List.foldl_nil,cy];apply Array.ext_getElem?;intro i
  by_cases h:i<k
  .rw[m i h];simp
  .simp at g;rw[eM Za,eM (by simp;omega)]
 | cons c f o =>
  intro k d z g n m;simp only[jG,List.foldl_cons];rw[o (k+1) (d++[c]) _ (by simp at g ⊢;omega) (by simp;omega) ?_]
  .simp
  .intro j q
   by_cases e:j=k
   .subst e;rw[Array.getElem?_setIfInBounds_self,mZ (by simp at g;omega),←n];simp
   .rw[cV Za,m j Za,gC Za]
theorem Wl{P:Pg}(w:Wd)(t d:Ti)(i:ig)(z:Vu)(c:List Vu)(m:Nat)(f:P.underlying t=J (.slice d))(g:P.info? d=J i)(h:i.zero=J z)(k:i.size=m)(q:c.length=m)(s:z.cells.size=m)(u:0<m)(n:m<=16777216) :
  (jB t 1 #[(0,.agg c.toArray)]).run P w=.ok (Sc (J (O w.heap.size 0 Q)) 1 1) (w.alloc (.cells c.toArray d)):=by
 have e:dJ (λi=>J (i*m,m)) ((Array.range (1*m)).map (z.cells[·%z.cells.size]!)) [(0,.agg c.toArray)]=J c.toArray:=by
  unfold dJ;have o:(Value.agg c.toArray).cells=c.toArray:=Z;simp only[jY,aE,o];rw[mY (by simp;omega)];unfold dJ
  congr 1
  have:=TV c 0 [] ((Array.range (1*m)).map (z.cells[·%z.cells.size]!)) (by simp;omega) Z (λj v=>by omega);simp only[eP]at this;rw[←Array.foldl_toList];simpa using this
 simp only[Nat.one_mul]at e;simp[jB,gQ f,sizeOf,typeInfo,zeroValue,g,h,k,newRow,Nat.not_lt.2 n,show m≠0 by omega,e]
theorem Rb{P:Pg}{w:Wd}{g:List aL}{a:cZ}{Q:Exit->cZ->Wd->Prop}(j:t.guard=G'){x:aS}(e c:Ti)(k:t.op=.buildSlice e 1 #[(0,x)])(i:ig)(f:Vu)(d:List Vu)(m:Nat)(n:a.eval x=.agg d.toArray)(o:P.underlying e=J (.slice c))(q:P.info? c=J i)(s:i.zero=J f)(u:i.size=m)(v:d.length=m)(y:f.cells.size=m)(C:0<m)(D:m<=16777216)(h:iR P z Q g (a.put t.dst (Sc (J (O w.heap.size 0 G')) 1 1)) (w.alloc (.cells d.toArray c))):iR P z Q (t::g) a w:=by
 refine wpList_plain j λK E=>?_;unfold Oper.wp;simp[Ex,k,n,Wl w e c i f d m o q s u v y C D,Result.andThen];exact E _ _ h
theorem Ie{P:Pg}{e:List aL}{a:cZ}{w:Wd}{Q:Exit->cZ->Wd->Prop}(f:t.guard=G')(d:Ti)(x y:aS)(g:t.op=.store d x y)(b o:Nat)(c:Array Vu)(i:a.eval x=Po (J (O b o G')))(j:a.eval y=.agg c)(k:w.there b o c.size)(m:(P.info? d).map (·.size)=J c.size)(n:c.all (·.oneCell')=true)(h:∀W,W=w.setCells b o c.toList->iR P z Q e (a.put t.dst Ud) W):iR P z Q (t::e) a w :=
 dV f d x y g b o c i j k m n (h _ Z)
theorem Jr(w:Wd)(C:Array Vu)(t:Ti)(c:List Vu)(m:Nat)(d:C.size=m)(i:c.length=m)(f:Nat->Vu)(e:∀j,j<m->c[j]?=J (f j)) :
  ((w.alloc (.cells C t)).setCells w.heap.size 0 c.toArray.toList).rowIs w.heap.size t m f/\bE w.heap.size w ((w.alloc (.cells C t)).setCells w.heap.size 0 c.toArray.toList)/\((w.alloc (.cells C t)).setCells w.heap.size 0 c.toArray.toList).heap.size=w.heap.size+1:=by
 have h:=C4 c.toArray.toList 0 (K7 w C t);rw[d]at h;refine⟨h.congr λj g=>?_,p9 (af _) _ _ ((bz _ _).alloc (af _) _),by rw[l8];simp⟩;rw[mZ ⟨aW _,by simp;omega⟩,kY,cG];simp[e j g]
theorem Kl{w:Wd}{d:Array Vu}{t:Ti}(h:d.size=c):(w.alloc (.cells d t)).there w.heap.size 0 c :=
 D5 (K7 w d t) (o:=0) (m:=c) Za
def qx(K:aa)(c:Nat):Nat:=if c=0 then K.nF else if c=1 then K.nS else K.nD
def pn(c:Nat):Nat:=if c=0 then 6 else if c=1 then 20 else 5
def qi(K:aa)(c:Nat):Nat->dM:=if c=0 then U9 K else if c=1 then A7 K else sX K
def vx(w:Wd)(K:aa)(d:Nat->Option cx)(g:Nat->Nat):Prop :=
 ∀c,c<3->0<qx K c->d c=J (O (g c) 0 Q)/\g c<w.heap.size/\∀k,k<qx K c->w.rangeAt (g c) (k*pn c) (cut (qi K c) (k*pn c) (pn c))
def DE(K:aa)(c:Nat->Option cx)(d:Nat->Nat):dM:=.agg #[.slice (c 0) K.nF (d 0),.slice (c 1) K.nS (d 1),.slice (c 2) K.nD (d 2)]
theorem vx.same{w w':Wd}{K:aa}{e:Nat->Option cx}(T:vx w K e s)(n:w.heap.size<=w'.heap.size)(h:∀c,c<3->0<qx K c->w'.heap[s c]?=w.heap[s c]?):vx w' K e s:=λc f g=>by
 let⟨a,b,d⟩:=T c f g;exact⟨a,by omega,λk i j v m=>(Zf (w:=w) (a:=(O (s c) (k*pn c+j) Q)) (h c f g)).trans (d k i j v m)⟩
def ID(c:Nat):TypeId:=if c=0 then 71 else if c=1 then 82 else 87
def yw(c:Nat):TypeId:=if c=0 then 66 else if c=1 then 72 else 83
def VZ:yA:=⟨109,3,ID,pn⟩
theorem GI{P:Pg}{t:Ti}{n b:Nat}(h:(P.info? t).map (λi=>(i.zero.map (·.cells.size),i.size,i.bytes))=J (J n,n,b)):∃i z,P.info? t=J i/\i.zero=J z/\i.size=n/\i.bytes=b/\z.cells.size=n:=by
 cases c:P.info? t with
 | none=>grind
 | some i =>
  simp_all
theorem JS(c:Nat)(j:c<3):∃i z b,J'.underlying (yw c)=J (.slice (ID c))/\J'.info? (ID c)=J i/\i.zero=J z/\i.size=pn c/\i.bytes=b/\z.cells.size=pn c/\b<=1000:=by
 cases c,(Za:c<3) using iN
 .let⟨i,z,d,e,f,g,h⟩:=GI (P:=J') (t:=71) (n:=6) (b:=48) Zd;exact⟨i,z,48,Tryz.underlying66,d,e,f,g,h,by omega⟩
 .let⟨i,z,d,e,f,g,h⟩:=GI (P:=J') (t:=82) (n:=20) (b:=160) Zd;exact⟨i,z,160,Tryz.underlying72,d,e,f,g,h,by omega⟩
 .let⟨i,z,d,e,f,g,h⟩:=GI (P:=J') (t:=87) (n:=5) (b:=40) Zd;exact⟨i,z,40,Tryz.underlying83,d,e,f,g,h,by omega⟩
theorem c8O(c:Nat):0<pn c:=by unfold pn;grind
theorem c8N(K:aa)(c j:Nat):(qi K c j).oneCell'=true:=by
 unfold qi;split
 .exact Nt K j
 .split
  .exact ON K j
  .exact Nm K j
structure Told (K:aa) (w w':Wd) (V:Nat->Vu) (n:Nat->Nat):Prop where
 lists:S9 VZ w' (w.heap.size+1) (w.heap.size+2) V n (λc=>tx (qi K c) (n c*pn c))
 oC:bE w.heap.size w w'
 size:w.heap.size+2<=w'.heap.size
 res:w'.rowIs w.heap.size 109 3 (λ_=>Sc Q 0 0)
variable{l:Wd}{n:Nat->Nat}
theorem Told.step(T:Told K w w' V n)(b:bE w'.heap.size w' l):Told K w l V n :=
 ⟨T.lists.same λk c _=>b.block k c,Ha T.oC b T.oC.size,Zh T.size b.size,T.res.of_block (b.block _ (by have:=T.size;omega))⟩
theorem Told.start(K:aa)(w:Wd):Told K w ((w.alloc (.cells #[Sc Q 0 0,Sc Q 0 0,Sc Q 0 0] 109)).alloc (.cells #[Sc Q 0 0,Sc Q 0 0,Sc Q 0 0] 109)) (λ_=>Sc Q 0 0) (λ_=>0):=by
 refine⟨⟨?_,λc f=>?_,λ_ _ _ _ _=>bP Z,λ_ _=>by simp[Value.ownBlock]⟩,((bz _ _).alloc (af _) _).alloc Zc _,by simp,?_⟩
 .have h:=xI w (.cells #[Sc Q 0 0,Sc Q 0 0,Sc Q 0 0] 109) #[Sc Q 0 0,Sc Q 0 0,Sc Q 0 0] 109;refine h.congr λj d=>?_;have e:j<3:=d;cases j,(Za:j<3) using iN
  all_goals rfl
 .rw[jY];exact dc _ _ _ _
 .have h:=(K7 w #[Sc Q 0 0,Sc Q 0 0,Sc Q 0 0] 109).alloc (.cells #[Sc Q 0 0,Sc Q 0 0,Sc Q 0 0] 109);refine h.congr λj d=>?_;have e:j<3:=d;cases j,(Za:j<3) using iN
  all_goals rfl
theorem Told.cell(T:Told K w w' V n)(d:c<3):w'.cell? (O (w.heap.size+1) c Q)=J (V c):=T.lists.cell d
theorem Told.pP(T:Told K w w' V n)(h:∀c,c<3->s c=n c):Told K w w' V s:=by
 refine⟨⟨T.lists.str,λc d=>?_,T.lists.apart,T.lists.pC⟩,T.oC,T.size,T.res⟩;rw[h c d];exact T.lists.own c d
theorem Re(T:Told K w w' V n)(H:bE w'.heap.size w' l)(h:c<3)(hn:n c<=32)(y:cx)(E:Nat)(q:List Vu)(C:q=cut (qi K c) (n c*pn c) (pn c))(I:∀j u,q[j]?=J u->l.cell? (y.add j)=J u){F:List aL}{a:jh}{Q:Exit->jh->Wd->Prop}(P:t.guard=G')(s x:aS)(R:t.op=.call { callee:=.builtin .append,args:=#[s,x],argTypes:=#[yw c,yw c] })(S:a.eval s=V c)(W:a.eval x=Sc (J y) 1 E)(D:∀g m w2,Told K w (w2.setCell (O (w.heap.size+1) c G') (Sc (J (O g 0 G')) (n c+1) m)) (up V c (Sc (J (O g 0 G')) (n c+1) m)) (up n c (n c+1))->w2.cell? (O (w.heap.size+1) c G')=J (V c)->w2.frozen? (O (w.heap.size+1) c G')=false->iR J' z Q F (a.put t.dst (Sc (J (O g 0 G')) (n c+1) m)) w2) :
  iR J' z Q (t::F) a l:=by
 let⟨i,a',c',M,X,u3,u4,u5,u6,u7⟩:=JS c h;have f:=T.step H;have hl:q.length=pn c:=by rw[C,x7]
 refine c1h f.lists (c:=c) h (yw c) M X u3 u4 u5 u6 (c8O c) y E q hl I (λu v=>?_) (by simp[iT];omega) (Zh (Nat.mul_le_mul (show n c+1<=33 by omega) u7) Za) f.size P s x R S W ?_
 .rw[C]at v;unfold cut at v;rw[dA]at v;obtain⟨j,_,rfl⟩:=v;exact c8N K c _
 .intro g m w2 G;refine D g m w2 ⟨?_,?_,?_,?_⟩ (G.row.cell h) (G.row.frozen c)
  .refine⟨G.lists.str,λd hd=>?_,G.lists.apart,G.lists.pC⟩;have:=G.lists.own d hd
   by_cases e:d=c
   .subst e;simp only[Y7]at this ⊢;rw[show(n d+1)*pn d=n d*pn d+pn d by rw[iH,Nat.one_mul],QN];rw[C]at this;exact this
   .simp only[C9 e]at this ⊢;exact this
  .have o:=G.grown;refine⟨o.os.trans f.oC.os,o.tape.trans f.oC.tape,o.output.trans f.oC.output,?_,λk D=>?_⟩
   .rw[i6];have:=f.oC.size;have:=o.size;omega
   .rw[dK w2 _ _ k (by grind),o.block k (by have:=f.size;omega) λe=>by have:=((f.lists.own c h).lt k e.symm).1;omega];exact f.oC.block k D
  .rw[i6];have:=f.size;have:=G.grown.size;omega
  .refine(f.res.of_block (G.grown.block _ (by have:=f.size;omega) λe=>?_)).setOther (by grind) _;have:=((f.lists.own c h).lt _ e.symm).1;omega
theorem Told.tell(T:Told K w w' V (qx K)):∃(q:Nat->Option cx) (g x:Nat->Nat),(∀c,c<3->V c=.slice (q c) (qx K c) (x c))/\vx w' K q g/\∀c,c<3->0<qx K c->w.heap.size+2<=g c:=by
 have H:∀c,∃t:Option cx×Nat×Nat,c<3->V c=.slice t.1 (qx K c) t.2.2/\(0<qx K c->t.1=J (O t.2.1 0 Q)/\w.heap.size+2<=t.2.1):=λc=>by
  by_cases d:c<3
  .have i:=T.lists.own c d
   by_cases y:0<qx K c
   .let⟨b,z,e,C,D⟩:=i.form y
    simp_all
   .have E:qx K c=0:=by omega
    rcases i.2 with⟨e,F⟩|⟨b,z,I,e,_⟩
    all_goals simp_all
  .exact⟨(Q,0,0),λh=>absurd h d⟩
 let⟨t,o⟩:=jk H;refine⟨λc=>(t c).1,λc=>(t c).2.1,λc=>(t c).2.2,λc d=>(o c d).1,λc d m=>?_,λc d m=>((o c d).2 m).2⟩;let⟨e,f⟩:=o c d;have i:=T.lists.own c d;rw[e,(f m).1]at i;refine⟨(f m).1,(i.lt _ Z).2,λk P j v s=>?_⟩;have R:j<pn c:=by have:=(bD.1 s).1;rwa [x7]at this
 have u:k*pn c+j<qx K c*pn c:=by
  have:=jF (pn c) (show k+1<=qx K c by omega)
  grind
 rw[i.cellAt (k*pn c+j) (by exact u),Yv _ _ u];unfold cut at s
 grind
structure Qq (P:Nat->Prop) (w w':Wd):Prop where
 os:w'.os=w.os
 tape:w'.tape=w.tape
 output:w'.output=w.output
 size:w.heap.size<=w'.heap.size
 block:∀k,k<w.heap.size->¬P k->w'.heap[k]?=w.heap[k]?
end
end
end Go.Proofs.YtcgabodkegcpgaaGreatDoor