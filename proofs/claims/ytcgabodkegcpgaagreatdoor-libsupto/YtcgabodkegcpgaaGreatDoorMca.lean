/- Main and its operations: what main finds when it holds the token (Co); a turn that it hands out comes back (co_turn). -/
import Derived.Test.YtcgabodkegcpgaaGreatDoorAaa
import Derived.Test.YtcgabodkegcpgaaGreatDoorMxg
import Derived.Test.YtcgabodkegcpgaaGreatDoorKer
import Derived.Conc.SmallLaws
import Derived.Deep.AppendLies
import Derived.Test.YtcgabodkegcpgaaGreatDoorEnp
import Derived.Deep.DrawnRows
import Derived.Deep.RegionHeld3
import Derived.Laws.AppendOwn
set_option linter.unusedVariables false
set_option linter.unusedSimpArgs false
set_option maxHeartbeats 20000000
set_option maxRecDepth 100000
open Option renaming some->J,none->Q,map_some->aF,getD_some->cW,map_eq_some_iff->dF
open Go.Proofs.Tryz renaming prog->V,func51->dB,func89->dG,func92->dR,func109->eR,func93->eY,func91->eZ,ntmps38->fG,func108->fI,func90->fV,func38->fZ,func32->gy,f56->gK,ntmps39->gU,func39->iy,func21->iK,func48->iW,f50->jq,func12->kF,ntmps32->lC,ntmps12->lX,func94->lY,func50->mi,underlying138->na
open Go renaming World->Wd,Value->Vu,undef->Ud,Frame->Fm',Goroutine->Gr,TypeId->Ti,execOp->Ex,Calls->aG,Oper->aN,Operand->aU,Item->bm,FuncId->bF,stepG->bH,Addr->cC,heap_alloc_new->cE,Act->db,Event->dr,Value->dQ,wpList_store_mid->eh,madeCells->eU,Machine->fM,commResult->ik,Code->jx,Trace->jD,cell_of_row->jR
open Go.Value renaming int->Y,pointer->Po,slice->Sc,bool->Bo,slice->dm,int->dO,cells->gv,oneCell'->kE
open Go.IntKind renaming i64->U
open Go.Addr renaming mk->O,add_mid->eO
open List renaming mem_cons->ae,mem_cons_of_mem->ah,not_mem_nil->ai,mem_cons_self->ao,range->aM,size_toArray->aR,getElem?_eq_getElem->br,length_cons->bQ,mem_append->cz,mem_singleton->cD,append_nil->cH,mem_append_right->cN,map_cons->cZ,map_toArray->du,eq_nil_of_length_eq_zero->dM,length_nil->dP,drop_eq_getElem_cons->dV,map_nil->eK,drop_of_length_le->eS,getElem?_take->eV,getElem?_eq_none->fh,length_drop->hY,range'->ie,length_append->jG,ext_getElem?->jV,getElem?_append_right->lN,getElem?_append_left->mQ
open Nat renaming le_refl->af,zero_add->aE,beq->aI,add_assoc->aS,zero_le->bh,lt_or_ge->bU,one_pos->cG,blt->cJ,one_lt_two->dU,ble->ga,lt_irrefl->iO,add_mul->lL
open Go.ConcN renaming upd->aj,upd_ne->az,upd_same->aH
open Go.RowKit renaming Hid->ar,Below->bG,intOf->bM,wrap64->iU
open Int renaming toNat_natCast->au,eq_ofNat_of_zero_le->cV,ofNat_tmod->gi,toNat->jP
open Prod.mk renaming inj->ax,injEq->cU
open Go.Frame renaming enter->ay,finish_at->bK
open Ne renaming symm->aA
open Bool renaming and_eq_true->aC,false_eq_true->aJ,eq_false_iff->gJ
open Go.World renaming cell?->aD,block_lt_of_cell?->aL,ownsRow_nil->dh,setChan->dC,frozen?_setCells->dH,frozen?_of_block->dL,cell?_setCells_out->dX,cell?_setCells_in->kU
open Go.RowKit.Below renaming heap_alloc->aK,refl->bD,heap_setCell->eN
open Go.Conc renaming base->aB,mem_listed->aZ,served->bI,goes_oper_k->cA,goes_go->dc,ds_none->de,Seat->ic,closeEvents->il,stepG_region->iH,stepG_region_end->jd,resultsC_tmp->kT,rcase->mK,served_fr->mX
open Go.Conc.Goes renaming step->aO
open Go.Builtin renaming nextslicecap->aT
open Go.Region renaming ready->aW,wanted->bR
open Array renaming getD_eq_getD_getElem?->aY,all_eq_true_iff_forall_mem->cR
open Or renaming inr->ba,inl->bT
open Option.some renaming injEq->bz
open Classical renaming byContradiction->cO
open Go.Act renaming eval->dp,put->dK
open Inhabited renaming default->dW
open Go.Conc.Seat renaming one_has->gZ,one->ki
open Go.Instr renaming makeSlice->iB,makeChan->kv
open Go.Deferred renaming ofValue->lQ
open List.Pairwise renaming filter->nz
namespace Go.Proofs.YtcgabodkegcpgaaGreatDoor
noncomputable section
variable{a b c d e:Nat}{f h i j k:Int}{l m n:Wd}{o p:List Int}{q r:aa}{s t:Bool}{u v:Vu}{w:Ctx}{x:List Nat}{y z:Type}{A:List Fm'}{B:Nat->Nat}{C:oN}{D E:Gr}{H:List nY}{I:db}{K:Nat->Vu}{N:m7}{P R:List (Int×Int)}
section
open Go.Conc Go.RowKit
structure Kb where
 bk:Nat
 bf:Nat
 bs:Nat
 bd:Nat
 fo:Nat->Option ic
structure Lv where
 C:Ctx
 S:aa->j6
 pv:List Nat
 H:y6
 cs:List Fm'
abbrev Lv.g(v:Lv):Nat:=v.C.o.gid
def Lv.ch(v:Lv)(c:Nat):Prop:=c=v.C.o.tu\/c=v.C.o.to\/c=v.C.o.en
def Cd(n c:Nat)(v:Lv):Prop :=
 (∀l K a b w d,K.nS=c->At v.C l K v.pv v.H a b false w->l6 V false (DL true (fb l)) (tP v.C (tz v.C n) l w v.pv (tf v.C.slot (v.S K) K)) (bI (P8 v.C.o v.cs) BM) (w.at d)) /\
 (∀l K a b w d,At v.C l K v.pv v.H a b false w->l6 V false (DL true (fb l)) (zj v.C l K w v.pv) (bI (P8 v.C.o v.cs) BU) (w.at d))
theorem Xb(n:Nat)(C:Ctx)(c:C.slot=b)(e:b<a){H:y6}:Cd n a ⟨C,m8 C b,[C.o.bo],H,[T4 C.o,bot]⟩ :=
 ⟨λl K f g w d h A=>c1W c (h▸e) A d,λl K f g w d A=>WJ A d⟩
theorem Ve{s:j6}{H:y6}(h:tz w (a+1) s x H A):Cd a b ⟨w,λ_=>s,x,H,A⟩ :=
 ⟨λl K c e f d _ g=>h.1 l K c e f d g,λl K c e f d g=>h.2 l K c e f d g⟩
def kc(a:Kb):Ctx:=⟨⟨0,0,0,0,0⟩,0,0,0,0,a.bk,a.bf,a.bs,a.bd⟩
abbrev wV(a:Kb)(l:List nY)(K:aa)(w:Wd):Prop:=Env (kc a) l K w
structure uK (kb:Kb) (C:Ctx):Prop where
 k:C.bk=kb.bk
 f:C.bf=kb.bf
 s:C.bs=kb.bs
 d:C.bd=kb.bd
theorem uK.env{a:Kb}(h:uK a w)(E:wV a H q l):Env w H q l:=by
 let⟨b,c,d,e⟩:=h;exact⟨by rw[b,c,d,e];exact E.rep,E.oT,E.inv,E.fit,E.ko,by rw[b,c,d,e];exact E.ap⟩
theorem uK.back{a:Kb}(h:uK a w)(E:Env w H q l):wV a H q l:=by
 let⟨b,c,d,e⟩:=h;exact⟨by show js l a.bk a.bf a.bs a.bd q;rw[←b,←c,←d,←e];exact E.rep,E.oT,E.inv,E.fit,E.ko,by show ∀o∈H,o.bo≠a.bk/\o.bo≠a.bf/\o.bo≠a.bs/\o.bo≠a.bd/\o.bo≠0;rw[←b,←c,←d,←e];exact E.ap⟩
structure Co (kb:Kb) (l:List nY) (K:aa) (L:Nat->Option Lv) (r:Nat) (Inb:Nat->Option ic) (nG:Nat) (w:Wd):Prop where
 env:wV kb l K w
 top:0≠kb.bf/\0≠kb.bs/\0≠kb.bd
 gid:∀g v,L g=J v->v.g=g/\0<g/\g<nG
 rZ:∀g v,L g=J v->uK kb v.C
 at_:∀g v,L g=J v->∃free un,At v.C l K v.pv v.H free un false w
 wait:∀g v,L g=J v->∃m,r<=m/\Cd m K.nS v
 qV:∀g v,L g=J v->Inb g=J (Q6 v.C.o v.cs)
 none:∀g,g≠0->L g=.none->Inb g=kb.fo g
 qE:∀s c,Inb 0=J s->s.has c->c<w.heap.size
 chan:∀g v,L g=J v->∀c,v.ch c->(∃cap k,w.heap[c]?=J (.chan cap #[] false k k false))/\c≠kb.bk/\c≠kb.bf/\c≠kb.bs/\c≠kb.bd/\c≠0/\∀o∈l,o.bo≠c
 qM:∀g v,L g=J v->v.C.o.tu≠v.C.o.to/\v.C.o.tu≠v.C.o.en/\v.C.o.to≠v.C.o.en
 pZ:∀g v g' v',L g=J v->L g'=J v'->∀c,v'.ch c->c∉v.pv
 apart:∀g v g' v',L g=J v->L g'=J v'->g≠g'->(∀i∈v.pv,i∉v'.pv)/\∀c,v.ch c->¬v'.ch c
 sY:∀g s,kb.fo g=J s->L g=.none/\0<g/\g<nG/\∀c,s.has c->c<w.heap.size/\∀g' v,L g'=J v->¬v.ch c
structure Mn (kb:Kb) (L:Nat->Option Lv) (w:Wd) (k:Nat):Prop where
 lt:k<w.heap.size
 nf:k≠kb.bf
 ns:k≠kb.bs
 nd:k≠kb.bd
 own:∀g v,L g=J v->k∉v.pv/\¬v.ch k
theorem NT{w:Wd}{e:Array Vu}(h:a<w.heap.size):(w.setChan a b e s c d t).heap[a]?=J (.chan b e s c d t):=by
 simp[dC,h]
theorem Q3{f:Array Vu}(h:b≠a):(l.setChan a c f s d e t).heap[b]?=l.heap[b]?:=heap_setChan_ne _ _ _ _ _ _ _ (aA h)
theorem Vr(h:Clear l)(c d:Nat){e:Array Vu}(a b:Nat):Clear (l.setChan c d e s a b t):=trivial
theorem Env.chan(E:Env w H q l)(h:a≠w.bk/\a≠w.bf/\a≠w.bs/\a≠w.bd/\a≠0/\∀o∈H,o.bo≠a)(e:Nat)(f:Array Vu)(g:Bool)(j b:Nat)(m:Bool):Env w H q (l.setChan a e f g j b m):=by
 let⟨s,u,v,y,n,c⟩:=h;refine⟨E.rep.same (by simp[dC]) λk _ z=>Q3 (by grind),E.oT.same (Q3 (aA n)),E.inv,⟨λi d=>?_,Vr E.fit.clear _ _ _ _⟩,KO.chan c _ _ _ _ _ _ E.ko,E.ap⟩;obtain⟨o,p,rfl⟩:=II d;let⟨x,t,r⟩:=E.fit.soft _ d;exact⟨x,t,by rw[Q3 (c o p)];exact r⟩
theorem At.other{a:y6}(A:At w H q x a u s t l)(E:Env w H r m)(c:∀i∈x,m.heap[i]?=l.heap[i]?):At w H r x a u s t m :=
 ⟨E,A.mem,A.own,λi b=>by rw[c i b];exact A.has i b,A.row,A.top,A.pX⟩
theorem At.lt{b:y6}(A:At w H q x b u s t l)(c:a∈x):a<l.heap.size:=(Zj (A.has a c)).1
theorem IJ(R:js l b c d e q)(a:js m b c d e r)(g:m.heap[b]?=l.heap[b]?):r.nF=q.nF/\r.nS=q.nS/\r.nD=q.nD:=by
 have f:=λj=>Zf (w:=l) (w':=m) (a:=(O b j Q)) g;have h:=(a.k0.symm.trans (f 0)).trans R.k0;have i:=(a.k1.symm.trans (f 1)).trans R.k1;have k:=(a.k2.symm.trans (f 2)).trans R.k2
 grind
def z7(c:Nat)(a:Bool)(b:Gr):ic:=ki c (.agg #[]) a λg=>g=b
variable{q:Kb}{l:List nY}{K:aa}{L:Nat->Option Lv}{r:Nat}{y:Nat->Option ic}{x:Nat}{w:Wd}{v:Lv}{D:fM->jD->Prop}
theorem Co.CI(b:Co q l K L r y x w){s:ic}(c:a≠0)(h:y a=J s):(∃u,L a=J u/\s=Q6 u.C.o u.cs)\/q.fo a=J s:=by
 cases e:L a with
 | none=>rw[b.none a c e]at h;exact .inr h
 | some u=>rw[b.qV a u e]at h;grind
theorem Co.pP(c:Co q l K L r y x w)(d:L a=J v)(e:v.ch b):b≠v.C.bk/\b≠v.C.bf/\b≠v.C.bs/\b≠v.C.bd/\b≠0/\∀o∈l,o.bo≠b:=by
 let⟨_,f,g,h,i,j,k⟩:=c.chan a v d b e;let⟨m,n,p,s⟩:=c.rZ a v d
 grind
theorem NG(b:Co q l K L r y x w)(d:L a=J v)(j:Bool)(k m:Gr)(n:X V D l (aj y 0 (J (z7 v.C.o.to j k))) x 0 m w):X V D l y x 0 m w:=by
 refine Jl (z7 v.C.o.to j k) (Seat.one_wf _ _ _ _) (λi o c p s f t=>?_) (λc f=>?_) (λc f=>?_) n
 .obtain rfl:c=v.C.o.to:=gZ.1 t;rcases b.CI p s with⟨u,g,rfl⟩|hf
  case inr=>exact((b.sY i o hf).2.2.2 _ f).2 a v d (.inr (.inl Z))
  have z:=X7 f
  by_cases e:i=a
  .subst e;rw[d]at g;cases Ze g;let⟨n1,n2,n3⟩:=b.qM _ _ d
   grind
  .exact(b.apart i u a v g d e).2 _ (by rcases z with h|h;exact .inl h;exact .inr (.inr h)) (.inr (.inl Z))
 .obtain rfl:c=v.C.o.to:=gZ.1 f;exact(b.chan _ _ d _ (.inr (.inl Z))).1
 .obtain rfl:c=v.C.o.to:=gZ.1 f;exact(b.pP d (.inr (.inl Z))).2.2.2.2.2
def Kp(q:Kb)(L:Nat->Option Lv)(w:Wd)(b:Nat->Option Lv)(a:Wd):Prop:=∀k,Mn q L w k->Mn q b a k/\a.heap[k]?=w.heap[k]?
theorem Ky(hr:r<=a)(d:Co q l K L a y x w)(t:L b=J v){S:aa}{w2:Wd}{Inb':Nat->Option ic}{o:Option Lv}(hE:wV q l S m)(hS:S.nS=K.nS)(f':w.heap.size<=m.heap.size)(hk:∀k,k<w.heap.size->k∉v.pv->k≠q.bf->k≠q.bs->k≠q.bd->¬v.ch k->m.heap[k]?=w.heap[k]?)(N:∀B,o=J B->B.C=v.C/\(∃i' un,At B.C l S B.pv B.H i' un false m)/\(∃a',r<=a'/\Cd a' S.nS B)/\Inb' b=J (Q6 B.C.o B.cs)/\(∀i∈B.pv,i∈v.pv\/w.heap.size<=i)/\∀c,v.ch c->∃X k,m.heap[c]?=J (.chan X #[] false k k false))(j':∀s c,Inb' 0=J s->s.has c->c<m.heap.size)(hn:o=Q->Inb' b=Q)(hI:∀i,i≠0->i≠b->Inb' i=y i):Co q l S (aj L b o) r Inb' x m/\Kp q L w (aj L b o) m:=by
 have m':∀g u,L g=J u->∀i∈u.pv,i<w.heap.size:=λg u P i z=>by let⟨f,n,A⟩:=d.at_ g u P;exact A.lt z
 have k':∀g u,L g=J u->∀c,u.ch c->c<w.heap.size:=λg u P c j=>by
  let⟨⟨X,k,h⟩,_⟩:=d.chan g u P c j
  grind
 have d':∀g u,L g=J u->∀i∈u.pv,i≠q.bk/\i≠q.bf/\i≠q.bs/\i≠q.bd/\i≠0:=λg u P i z=>by
  let⟨f,n,A⟩:=d.at_ g u P;let⟨k1,k2,k3,k4⟩:=d.rZ g u P;have:=A.own.ap i z
  grind
 have cases:∀g u,aj L b o g=J u->(g=b/\o=J u)\/(g≠b/\L g=J u):=λg u h=>by
  by_cases e:g=b
  .subst e;rw[aH]at h;grind
  .rw[az _ _ e]at h;grind
 have T:∀B,o=J B->∀c,B.ch c↔v.ch c:=λB h c=>by unfold Lv.ch;rw[(N B h).1]
 refine⟨⟨hE,d.top,λg u h=>?_,λg u h=>?_,λg u h=>?_,λg u h=>?_,λg u h=>?_,λg W h=>?_,j',λg u h c j=>?_,λg u h=>?_,λg u I F h h' c j=>?_,λg u I F h h' l'=>?_,λg s hf=>?_⟩,λk C=>⟨⟨Zg C.lt f',C.nf,C.ns,C.nd,λg u h=>?_⟩,hk k C.lt (C.own b v t).1 C.nf C.ns C.nd (C.own b v t).2⟩⟩
 .rcases cases g u h with⟨rfl,h5⟩|⟨_,h5⟩
  .have:=d.gid _ _ t
   grind
  .exact d.gid g u h5
 .rcases cases g u h with⟨rfl,h5⟩|⟨_,h5⟩
  .rw[(N u h5).1];exact d.rZ _ _ t
  .exact d.rZ g u h5
 .rcases cases g u h with⟨rfl,h5⟩|⟨e,h5⟩
  .grind
  .let⟨f,n,A⟩:=d.at_ g u h5;exact⟨f,n,A.other ((d.rZ g u h5).env hE) λi z=>hk i (A.lt z) (λG=>(d.apart g u b v h5 t e).1 i z G) (d' g u h5 i z).2.1 (d' g u h5 i z).2.2.1 (d' g u h5 i z).2.2.2.1 λj=>d.pZ g u b v h5 t i j z⟩
 .rcases cases g u h with⟨rfl,h5⟩|⟨_,h5⟩
  .grind
  .let⟨a',p,E⟩:=d.wait g u h5
   grind
 .rcases cases g u h with⟨rfl,h5⟩|⟨e,h5⟩
  .grind
  .have:=d.gid g u h5;rw[hI g Za e];exact d.qV g u h5
 .by_cases e:g=b
  .subst e;rw[aH]at h;rw[hn h]
   cases e:q.fo g with
   | none=>rfl
   | some s=>have:=(d.sY g s e).1;grind
  .rw[az _ _ e]at h;rw[hI g W e];exact d.none g W h
 .rcases cases g u h with⟨rfl,h5⟩|⟨e,h5⟩
  .have R:=(T u h5 c).1 j;exact⟨(N u h5).2.2.2.2.2 c R,(d.chan _ _ t c R).2⟩
  .let⟨⟨X,k,p⟩,E⟩:=d.chan g u h5 c j;exact⟨⟨X,k,by rw[hk c (k' g u h5 c j) (d.pZ b v g u t h5 c j) E.2.1 E.2.2.1 E.2.2.2.1 λH=>(d.apart g u b v h5 t e).2 c j H];exact p⟩,E⟩
 .rcases cases g u h with⟨rfl,h5⟩|⟨_,h5⟩
  .rw[(N u h5).1];exact d.qM _ _ t
  .exact d.qM g u h5
 .have n':∀M,L g=J M->∀c,F.ch c->c∉M.pv:=λM W c j=>by
   rcases cases I F h' with⟨rfl,p⟩|⟨_,p⟩
   .exact d.pZ g M _ v W t c ((T F p c).1 j)
   .exact d.pZ g M I F W p c j
  grind
 .rcases cases g u h with⟨rfl,p⟩|⟨e,p⟩
  .rcases cases I F h' with⟨rfl,E⟩|⟨e',E⟩
   .grind
   .refine⟨λi z G=>?_,λc j R=>(d.apart _ v I F t E (aA e')).2 c ((T u p c).1 j) R⟩;rcases(N u p).2.2.2.2.1 i z with H|H
    .exact(d.apart _ v I F t E (aA e')).1 i H G
    grind
  .rcases cases I F h' with⟨rfl,E⟩|⟨e',E⟩
   .refine⟨λi z G=>?_,λc j R=>(d.apart g u _ v p t e).2 c j ((T F E c).1 R)⟩;rcases(N F E).2.2.2.2.1 i G with H|H
    .exact(d.apart g u _ v p t e).1 i z H
    grind
   .exact d.apart g u I F p E l'
 .let⟨f1,f2,f3,f4⟩:=d.sY g s hf;have ne:g≠b:=λe=>by grind
  refine⟨by rw[az _ _ ne];exact f1,f2,f3,λc j=>⟨Zg (f4 c j).1 f',λI u h=>?_⟩⟩
  grind
 .rcases cases g u h with⟨rfl,p⟩|⟨e,p⟩
  .refine⟨λz=>?_,λj=>(C.own _ v t).2 ((T u p k).1 j)⟩;rcases(N u p).2.2.2.2.1 k z with H|H
   .exact(C.own _ v t).1 H
   .have:=C.lt;omega
  .exact C.own g u p
def wv(c:Nat)(a b:Bool):dQ:=ik #[mK c (.agg #[])] (.recv a) ((0:Nat):Int) (.agg #[]) b
abbrev Lv.turn(v:Lv)(K:aa):aa×j6:=tf v.C.slot (v.S K) K
theorem c7b(f:Co q l K L (r+1) y x w)(j:L a=J v){A' rec:Gr}{nh:Nat}(N':E.status=.running)(O':∀d,bH V true E (w.at d)=.comm A' #[scase v.C.o.tu (.agg #[]) u] true .send (w.at d) #[])(P':∀B,(∀o∈l,o.bo<B)->Sits V true (KO l) (SP l no) B (z7 v.C.o.to true rec) nh (bI A' Ud))(Q':∀S p N,p.C=v.C->p.S=(λ_=>(v.turn K).2)->(∃n E b c,(v.turn K).2 []=.call n E b c)->Co q l (v.turn K).1 (aj L a (J p)) r N x S->Kp q L w (aj L a (J p)) S->X V D l N x 0 (bI rec (wv v.C.o.to true true)) S)(R':∀S N l' n',(v.turn K).2 []=.done l' n'->Co q l (v.turn K).1 (aj L a Q) r N x S->Kp q L w (aj L a Q) S->(∃t d' un go,S.heap[v.C.o.bo]?=J (.cells (S8 v.C n' l' d' un go) t (0,0)))->X V D l N x 0 (bI rec (wv v.C.o.to true false)) S) :
  X V D l y x 0 E w:=by
 let⟨hg,hj0,S'⟩:=f.gid a v j;let⟨n1,n2,n3⟩:=f.qM a v j;have o':(a==0)=false:=by simp;omega
 have B':v.ch v.C.o.tu:=.inl Z;have r':v.ch v.C.o.to:=.inr (.inl Z);have t':v.ch v.C.o.en:=.inr (.inr Z);have j':=f.pP j B';have u':=f.pP j r';have enne:=f.pP j t';let⟨d',un,A⟩:=f.at_ a v j;let⟨m,hm,W⟩:=f.wait a v j;have hO:=f.rZ a v j;have C':=f.pZ a v a v j j _ B';have topv:=f.pZ a v a v j j _ r';have enpv:=f.pZ a v a v j j _ t';refine NG f j true rec E ?_;have p':aj y 0 (J (z7 v.C.o.to true rec)) 0=J (z7 v.C.o.to true rec):=aH _ _ _;have U':aj y 0 (J (z7 v.C.o.to true rec)) a=J (Q6 v.C.o v.cs):=by rw[az _ _ Za];exact f.qV a v j
 have V':∀i,i≠0->aj y 0 (J (z7 v.C.o.to true rec)) i=y i:=λi H=>az _ _ H;refine JP (h:=0) (j:=a) (kk:=0) (z:=.agg #[]) Za S' U' Z N' O' p' P' λb' d T k k' P=>?_;obtain rfl:b'=P8 v.C.o v.cs:=k';rw[c5E];have W':v.C.o.tu<w.heap.size:=(Zj P).1;have D':∀i,i≠v.C.o.tu->((w.at d).setChan v.C.o.tu T #[] false (k+1) (k+1) false).heap[i]?=w.heap[i]?:=λi H=>Q3 H;have hz1:((w.at d).setChan v.C.o.tu T #[] false (k+1) (k+1) false).heap.size=w.heap.size:=by simp[dC,World.at]
 have X':((w.at d).setChan v.C.o.tu T #[] false (k+1) (k+1) false).heap[v.C.o.tu]?=J (.chan T #[] false (k+1) (k+1) false):=NT (w:=w.at d) W';have A1:At v.C l K v.pv v.H d' un false ((w.at d).setChan v.C.o.tu T #[] false (k+1) (k+1) false):=A.other ((A.env.at d).chan j' T #[] false (k+1) (k+1) false) λi H=>D' i λe=>C' (e▸H);generalize (w.at d).setChan v.C.o.tu T #[] false (k+1) (k+1) false=w1 at *;have Z':=W.1 l K d' un w1 w1.drawn Z A1;refine vp (st:=true) ?_;rw[o'];refine Z'.then ?_;rintro g C ⟨E2,M2,q'⟩;refine .stop ?_;have hk2:∀i,i<w.heap.size->i∉v.pv->i≠q.bf->i≠q.bs->i≠q.bd->i≠v.C.o.tu->C.heap[i]?=w.heap[i]?:=λi h0 F h2 h3 h4 h5=>by
  rw[M2.block i Za F (by rw[hO.f];exact h2) (by rw[hO.s];exact h3) (by rw[hO.d];exact h4)];exact D' i h5
 have x':w.heap.size<=C.heap.size:=by have:=M2.size;omega
 let⟨⟨cen,E',hen'⟩,_⟩:=f.chan a v j _ t';let⟨⟨F',y',hto'⟩,_⟩:=f.chan a v j _ r';have G':v.C.o.to<w.heap.size:=(Zj hto').1;have len:v.C.o.en<w.heap.size:=(Zj hen').1;have tu2:C.heap[v.C.o.tu]?=J (.chan T #[] false (k+1) (k+1) false):=by rw[M2.block _ Za C' j'.2.1 j'.2.2.1 j'.2.2.2.1];exact X'
 have en2:C.heap[v.C.o.en]?=J (.chan cen #[] false E' E' false):=by grind
 have I':C.heap[v.C.o.to]?=J (.chan F' #[] false y' y' false):=by grind
 have bk0:C.heap[q.bk]?=w.heap[q.bk]?:=hk2 _ f.env.rep.lk (λh=>by have:=(A.own.ap _ h).1;rw[hO.k]at this;exact this Z) f.env.rep.kf f.env.rep.ks f.env.rep.kd (λe=>by have:=j'.1;rw[hO.k]at this;exact this e.symm);have bkto:q.bk≠v.C.o.to:=λe=>by grind
 have J':∀(G:Bool) (R z I:Nat) (o:Option Lv) (N:Nat->Option ic),(∀i,i≠0->i≠a->N i=y i)->(o=Q->N a=Q)->(∀s c,N 0=J s->s.has c->c<w.heap.size) ->
   (∀p,o=J p->p.C=v.C/\(∃d' un,At p.C l (v.turn K).1 p.pv p.H d' un false C)/\(∃m,r<=m/\Cd m K.nS p)/\N a=J (Q6 p.C.o p.cs)/\(∀i∈p.pv,i∈v.pv\/w1.heap.size<=i)/\G=false) ->
   Co q l (v.turn K).1 (aj L a o) r N x ((C.at I).setChan v.C.o.to R #[] G z z false)/\Kp q L w (aj L a o) ((C.at I).setChan v.C.o.to R #[] G z z false):=by
  intro G R z I o N hI hn h00 hj;have hsz3:w.heap.size<=((C.at I).setChan v.C.o.to R #[] G z z false).heap.size:=by simp[dC,World.at];exact x'
  have K':∀i,i≠v.C.o.to->((C.at I).setChan v.C.o.to R #[] G z z false).heap[i]?=C.heap[i]?:=λi H=>Q3 H;have L':wV q l (v.turn K).1 ((C.at I).setChan v.C.o.to R #[] G z z false):=hO.back ((E2.at I).chan u' R #[] G z z false);have hnS:(v.turn K).1.nS=K.nS:=(IJ f.env.rep L'.rep (by show _=w.heap[q.bk]?;rw[show(kc q).bk=q.bk from Z,K' _ bkto];exact bk0)).2.1;refine Ky (Nat.le_succ r) f j (w2:=C) L' hnS (by simp[dC,World.at];exact x') (λi h0 F h2 h3 h4 h5=>?_) (λp e=>?_) (λs c F h2=>Zg (h00 s c F h2) hsz3) hn hI
  .grind
  .obtain⟨e1,⟨f2,u2,A2⟩,hw,hs,hp,rfl⟩:=hj p e;have hto3:∀i∈p.pv,i≠v.C.o.to:=λi H e=>by
    grind
   refine⟨e1,⟨f2,u2,A2.other (by rw[e1];exact(E2.at I).chan u' R #[] false z z false) λi H=>K' i (hto3 i H)⟩,by grind,hs,λi H=>by grind,λc P=>?_⟩;rcases P with rfl|rfl|rfl
   .grind
   .exact⟨_,_,NT (w:=C.at I) (Zg G' x')⟩
   grind
 cases hT:(v.turn K).2 [] with
 | call num E b c =>
  simp only[Lv.turn]at hT;rw[hT]at q';obtain⟨M,M',H',free',rfl,A2,hsub,hpark⟩:=q';have hfr:∀i s' c,i≠a->aj y 0 (J (z7 v.C.o.to true rec)) i=J s'->s'.has c->¬(Q6 v.C.o (ua v.C.o::M)).has c:=λi s' c H hs P hc'=>by
   have z':=X7 hc'
   by_cases e:i=0
   .subst e;rw[p']at hs;cases Ze hs;obtain rfl:c=v.C.o.to:=gZ.1 P
    grind
   .rw[V' i e]at hs;rcases f.CI e hs with⟨c',hu,rfl⟩|hf
    case inr=>exact((f.sY i s' hf).2.2.2 c P).2 a v j (by rcases z' with h|h;exact .inl h;exact .inr (.inr h))
    have hc3:=X7 P;exact(f.apart i c' a v hu j H).2 c (by rcases hc3 with h|h;exact .inl h;exact .inr (.inr h)) (by rcases z' with h|h;exact .inl h;exact .inr (.inr h))
  refine Jl (h:=a) (Q6 v.C.o (ua v.C.o::M)) (NJ n2) hfr (λc P=>?_) (λc P=>?_) ?_
  .rcases X7 P with rfl|rfl
   all_goals grind
  .rcases X7 P with rfl|rfl
   all_goals grind
  refine JP (h:=a) (j:=0) (kk:=0) (c:=v.C.o.to) (z:=.agg #[]) (s:=z7 v.C.o.to true rec) (sh:=Q6 v.C.o (ua v.C.o::M)) (v:=.agg #[]) (z':=.tuple #[]) (a₂:=vZ v.C.o M) (nh:=26) Za Za (by rw[az _ _ Za];exact p') Z Z
   (λd=>by rw[o'];exact Yc) (aH _ _ _) (λB hB=>by rw[o'];exact Sz v.C.o l A.mem B hB M) λb' I R z k' z'=>?_
  obtain rfl:b'=rec:=k';obtain⟨m',rfl⟩:∃m',m=m'+1:=⟨m - 1,by omega⟩;let⟨c3,k3⟩:=J' false R (z+1) I (J ⟨v.C,λ_=>(v.turn K).2,M',H',ua v.C.o::M⟩) (aj (aj y 0 (J (z7 v.C.o.to true b'))) a (J (Q6 v.C.o (ua v.C.o::M))))
   (λi h0 F=>by rw[az _ _ F,az _ _ h0]) (λe=>by cases e) (λs c F h2=>by
    rw[az _ _ Za,aH]at F;cases Ze F;obtain rfl:c=v.C.o.to:=gZ.1 h2
    exact G')
   (λp e=>by cases Ze e;exact⟨Z,⟨free',false,A2⟩,⟨m',by omega,Ve hpark⟩,aH _ _ _,hsub,Z⟩)
  exact Q' _ ⟨v.C,λ_=>(v.turn K).2,M',H',ua v.C.o::M⟩ _ Z Z ⟨_,_,_,_,hT⟩ c3 k3
 | done l' n' =>
  simp only[Lv.turn]at hT;rw[hT]at q';let⟨⟨hrun2,hwake,a',ha',hclose,nq,hq⟩,t,f2,u2,g2,hrow⟩:=q';refine td (h:=a) (j:=0) (kk:=0) (c:=v.C.o.to) (z:=.agg #[]) (s:=z7 v.C.o.to true rec) (nh:=nq) Za Za Za p' Z hrun2 hwake ha' I' (λd=>by rw[o'];exact hclose _ _ _ I') hq λb' I k'=>?_;obtain rfl:b'=rec:=k';let⟨c3,k3⟩:=J' true F' y' I Q (aj (aj (aj y 0 (J (z7 v.C.o.to true b'))) 0 Q) a Q)
   (λi h0 F=>by rw[az _ _ F,az _ _ h0,az _ _ h0]) (λ_=>aH _ _ _) (λs c F h2=>by rw[az _ _ Za,aH]at F;cases F) λp e=>by cases e
  exact R' _ _ l' n' hT c3 k3 ⟨t,f2,u2,g2,by rw[Q3 (u'.2.2.2.2.2 _ A.mem)];exact hrow⟩
theorem c0b(f:Co q l K L r y x w)(b:L a=J v){a₂ rec:Gr}{nh:Nat}(i':E.status=.running)(j':mayWake V E=true)(k':a₂.status=.running)(l':∀h k,w.heap[v.C.o.en]?=J (.chan h #[] false k k false)->∀d,bH V true E (w.at d)=.go a₂ ((w.at d).setChan v.C.o.en h #[] true k k false) (il v.C.o.en))(m':∀B,(∀o∈l,o.bo<B)->Sits V true (KO l) (SP l no) B (z7 v.C.o.to false rec) nh a₂)(n':∀H T,Co q l K (aj L a Q) r T x H->Kp q L w (aj L a Q) H->X V D l T x 0 (bI rec (wv v.C.o.to false false)) H) :
  X V D l y x 0 E w:=by
 let⟨hg,D',o'⟩:=f.gid a v b;let⟨n1,n2,n3⟩:=f.qM a v b;have G:(a==0)=false:=by simp;omega
 have E':v.ch v.C.o.tu:=.inl Z;have I:v.ch v.C.o.to:=.inr (.inl Z);have N:v.ch v.C.o.en:=.inr (.inr Z);have p':=f.pP b I;have q':=f.pP b N;let⟨M,un,A⟩:=f.at_ a v b;let⟨m,hm,W⟩:=f.wait a v b;have u:=f.rZ a v b;have F':=f.pZ a v a v b b _ I;have r':=f.pZ a v a v b b _ N;refine NG f b false rec E ?_;have c':aj y 0 (J (z7 v.C.o.to false rec)) 0=J (z7 v.C.o.to false rec):=aH _ _ _;have s':aj y 0 (J (z7 v.C.o.to false rec)) a=J (Q6 v.C.o v.cs):=by rw[az _ _ Za];exact f.qV a v b
 let⟨⟨h,k,hc⟩,_⟩:=f.chan a v b _ N;let⟨⟨z,j,t'⟩,_⟩:=f.chan a v b _ I;have G':v.C.o.to<w.heap.size:=(Zj t').1;refine Vl (h:=0) (j:=a) (kk:=1) (z:=.agg #[]) Za o' s' Z i' j' k' hc (l' _ _ hc) c' m' λC d P=>?_;obtain rfl:C=P8 v.C.o v.cs:=P;rw[c8l];have e':∀i,i≠v.C.o.en->((w.at d).setChan v.C.o.en h #[] true k k false).heap[i]?=w.heap[i]?:=λi t=>Q3 t;have H':((w.at d).setChan v.C.o.en h #[] true k k false).heap.size=w.heap.size:=by simp[dC,World.at]
 have A1:At v.C l K v.pv v.H M un false ((w.at d).setChan v.C.o.en h #[] true k k false):=A.other ((A.env.at d).chan q' h #[] true k k false) λi t=>e' i λe=>r' (e▸t);generalize (w.at d).setChan v.C.o.en h #[] true k k false=w1 at *;have u':=W.2 l K M un w1 w1.drawn A1;refine vp (st:=true) ?_;rw[G];refine u'.then ?_;rintro g p ⟨E2,M2,x',y',a',z',A',nq,hq⟩;refine .stop ?_;have I':∀i,i<w.heap.size->i∉v.pv->i≠q.bf->i≠q.bs->i≠q.bd->i≠v.C.o.en->p.heap[i]?=w.heap[i]?:=λi F n R h3 h4 h5=>by
  rw[M2.block i Za n (by rw[u.f];exact R) (by rw[u.s];exact h3) (by rw[u.d];exact h4)];exact e' i h5
 have B':w.heap.size<=p.heap.size:=by have:=M2.size;omega
 have h':p.heap[v.C.o.to]?=J (.chan z #[] false j j false):=by grind
 refine td (h:=a) (j:=0) (kk:=0) (c:=v.C.o.to) (z:=.agg #[]) (s:=z7 v.C.o.to false rec) (nh:=nq) Za Za Za (by rw[az _ _ Za];exact c') Z x' y' z' h' (λd=>by rw[G];exact A' _ _ _ h') hq λC S P=>?_;obtain rfl:C=rec:=P;have J':∀i,i≠v.C.o.to->((p.at S).setChan v.C.o.to z #[] true j j false).heap[i]?=p.heap[i]?:=λi t=>Q3 t;have C':wV q l K ((p.at S).setChan v.C.o.to z #[] true j j false):=u.back ((E2.at S).chan p' z #[] true j j false)
 let⟨c3,k3⟩:=Ky (af r) f b (w2:=p) (o:=Q) (Inb':=aj (aj (aj (aj y 0 (J (z7 v.C.o.to false C))) a Q) 0 Q) a Q) C' Z (by simp[dC,World.at];exact B') (λi F n R h3 h4 h5=>by
   grind) (λv' e=>by cases e) (λs c n R=>by rw[az _ _ Za,aH]at n;cases n) (λ_=>aH _ _ _)
   (λi F n=>by rw[az _ _ n,az _ _ F,az _ _ n,az _ _ F])
 exact n' _ _ c3 k3
structure Grown (w w2:Wd):Prop where
 size:w.heap.size<=w2.heap.size
 old:∀k,k<w.heap.size->w2.heap[k]?=w.heap[k]?
 clear:Clear w2
theorem Grown.at{w:Wd}(h:Grown w m)(d:Nat):Grown w (m.at d):=⟨h.size,h.old,h.clear⟩
theorem Grown.trans{c:Wd}(h:Grown m n)(k:Grown n c):Grown m c:=⟨Zh h.size k.size,λi a=>(k.old i (Zg a h.size)).trans (h.old i a),k.clear⟩
theorem Grown.refl{w:Wd}(h:Clear w):Grown w w:=⟨af _,λ_ _=>rfl,h⟩
variable{w2:Wd}
theorem Env.grown{C:Ctx}(E:Env C l K w)(h:Grown w w2):Env C l K w2 :=
 ⟨E.rep.same h.size λk d _=>h.old k d,E.oT.same (h.old 0 E.oT.lt),E.inv,⟨λi e=>by
  let⟨c,t,a⟩:=E.fit.soft i e
  exact⟨c,t,by rw[h.old i (Zj a).1];exact a⟩,h.clear⟩,λo b=>by
  let⟨c,t,f,g⟩:=E.ko o b
  exact⟨c,t,by rw[h.old _ (KO.lt E.ko b)];exact f,g⟩,E.ap⟩
theorem Env.more{C:Ctx}(E:Env C l K w){o:nY}(d:KO [o] w)(f:∀k,(k=C.bk\/k=C.bf\/k=C.bs\/k=C.bd\/k=0)->o.bo≠k):Env C (o::l) K w :=
 ⟨E.rep,E.oT,E.inv,⟨λi e=>by
  obtain⟨b,a,rfl⟩:=II e;rcases ae.1 a with rfl|a
  .let⟨c,t,h,_⟩:=d _ (cD.2 Z)
   grind
  .exact E.fit.soft _ (by rw[Q7 a];omega),E.fit.clear⟩,λb a=>by
  rcases ae.1 a with rfl|a
  .exact d _ (cD.2 Z)
  .exact E.ko b a,λb a=>by
  rcases ae.1 a with rfl|a
  .grind
  .exact E.ap b a⟩
theorem Co.sO(c:Co q l K L r y x w)(h:L a=J v)(d:b∈v.pv):b<w.heap.size:=by let⟨f,n,A⟩:=c.at_ a v h;exact A.lt d
theorem Co.qk(b:Co q l K L r y x w)(h:L a=J v){c:Nat}(d:v.ch c):c<w.heap.size:=by
 let⟨⟨e,k,f⟩,_⟩:=b.chan a v h c d
 grind
theorem Co.grown(a:Co q l K L r y x w)(h:Grown w w2):Co q l K L r y x w2 :=
 ⟨a.env.grown h,a.top,a.gid,a.rZ,λg v d=>by
  let⟨f,n,A⟩:=a.at_ g v d;exact⟨f,n,A.other (A.env.grown h) λi o=>h.old i (A.lt o)⟩,a.wait,a.qV,a.none,λs c e j=>Zg (a.qE s c e j) h.size,λg v d c b=>by
  let⟨⟨p,k,e⟩,j⟩:=a.chan g v d c b;exact⟨⟨p,k,by rw[h.old c (a.qk d b)];exact e⟩,j⟩,a.qM,a.pZ,a.apart,λg s t=>by
  let⟨u,z,B,m⟩:=a.sY g s t
  exact⟨u,z,B,λc b=>⟨Zg (m c b).1 h.size,(m c b).2⟩⟩⟩
theorem Co.at(a:Co q l K L r y x w)(d:Nat):Co q l K L r y x (w.at d):=a.grown ⟨af _,λ_ _=>rfl,a.env.fit.clear⟩
theorem Co.less(b:Co q l K L r y x w)(h:a<=r):Co q l K L a y x w :=
 ⟨b.env,b.top,b.gid,b.rZ,b.at_,λg v c=>by
  let⟨m,d,e⟩:=b.wait g v c
  grind,b.qV,b.none,b.qE,b.chan,b.qM,b.pZ,b.apart,b.sY⟩
theorem Co.more(a:Co q l K L r y x w){o:nY}(e:KO [o] w)(h:∀k,(k=q.bk\/k=q.bf\/k=q.bs\/k=q.bd\/k=0)->o.bo≠k)(t:∀g v,L g=J v->(∀i∈v.pv,o.bo≠i)/\∀c,v.ch c->o.bo≠c):Co q (o::l) K L r y x w :=
 ⟨a.env.more e h,a.top,a.gid,a.rZ,λg v b=>by
  let⟨f,n,A⟩:=a.at_ g v b;refine⟨f,n,(a.rZ g v b).env (a.env.more e h),ah _ A.mem,A.own,A.has,A.row,A.top,λi j m p d=>?_⟩;rcases ae.1 d with rfl|d
  .grind
  .exact A.pX i j m p d,a.wait,a.qV,a.none,a.qE,λg v b c s=>by
  let⟨u,z,B,C,E,F,H⟩:=a.chan g v b c s
  grind,a.qM,a.pZ,a.apart,a.sY⟩
structure x5 (B:Nat) (C:Ctx) (w:Wd):Prop where
 bo:B<=C.o.bo
 ch:B<=C.o.tu/\B<=C.o.to/\B<=C.o.en
 row:∃t,w.heap[C.o.bo]?=J (.cells (S8 C 0 0 (Sc Q 0 0) false false) t (0,0))
 chan:∀c,c=C.o.tu\/c=C.o.to\/c=C.o.en->w.heap[c]?=J (.chan 0 #[] false 0 0 false)
 ne:C.o.tu≠C.o.to/\C.o.tu≠C.o.en/\C.o.to≠C.o.en
theorem x5.Ht{C:Ctx}(h:x5 a C w):C.o.bo≠C.o.tu/\C.o.bo≠C.o.to/\C.o.bo≠C.o.en:=by
 let⟨t,b⟩:=h.row;refine⟨λe=>?_,λe=>?_,λe=>?_⟩<;>rw[e,h.chan _ Zc]at b<;>cases b
theorem x5.ko{C:Ctx}(h:x5 a C w):KO [C.o] w:=by
 intro o b;cases Zi b;let⟨t,c⟩:=h.row;exact⟨_,t,c,Z,Z,Z⟩
theorem XG(j:Co q l K L r y x w)(W:Grown w w2){C:Ctx}(n:x5 w.heap.size C w2)(p:uK q C)(hg:C.o.gid=x)(h0:0<x)(hC:C.slot=a)(hp:a<K.nS){a':Gr}(i':E.status=.running)(j':∀d,bH V true E (w2.at d)=.spawn a' (born V (dcall 88 #[pO C.o])) (w2.at d) #[])(hx:∀d H f',Co q (C.o::l) K (aj L x (J ⟨C,m8 C a,[C.o.bo],H,[T4 C.o,bot]⟩)) r f' (x+1) (w2.at d)->Kp q L w (aj L x (J ⟨C,m8 C a,[C.o.bo],H,[T4 C.o,bot]⟩)) (w2.at d)->X V D (C.o::l) f' (x+1) 0 a' (w2.at d)) :
  X V D (C.o::l) y x 0 E w2:=by
 have R:=j.env.rep;have lk:q.bk<w.heap.size:=R.lk;have lf:q.bf<w.heap.size:=R.lf;have ls:q.bs<w.heap.size:=R.ls;have ld:q.bd<w.heap.size:=R.ld;have l0:0<w.heap.size:=j.env.oT.lt;have p':=n.bo;let⟨c1,c2,c3⟩:=n.ch;let⟨b1,b2,b3⟩:=n.Ht;have F:∀c,c=C.o.tu\/c=C.o.to\/c=C.o.en->w.heap.size<=c:=λc b=>by grind
 have k':∀k,(k=q.bk\/k=q.bf\/k=q.bs\/k=q.bd\/k=0)->C.o.bo≠k:=λk hk e=>by grind
 have G:Co q (C.o::l) K L r y x w2:=(j.grown W).more n.ko k' λg v hv=>⟨λi f e=>by have:=j.sO hv f;omega,λc b e=>by have:=j.qk hv b;omega⟩;have l':L x=none:=by
  cases e:L x with
  | none=>rfl
  | some v=>have:=j.gid _ _ e;omega
 have q':y x=none:=by
  rw[G.none x Za l']
  cases e:q.fo x with
  | none=>rfl
  | some s=>have:=(G.sY x s e).2.2.1;omega
 have M:∀c,c=C.o.tu\/c=C.o.to\/c=C.o.en->∀o∈C.o::l,o.bo≠c:=λc b o ho e=>by
  rcases ae.1 ho with rfl|ho
  .grind
  .have:=KO.lt j.env.ko ho;have:=F c b;omega
 refine US (nc:=34) i' j' (Q6 C.o [T4 C.o,bot]) (NJ n.ne.2.1) (λi s c f b P=>?_) (λc b=>⟨0,0,n.chan c (by rcases X7 b with h|h;exact .inl h;exact .inr (.inr h))⟩) (λc b=>M c (by rcases X7 b with h|h;exact .inl h;exact .inr (.inr h))) (λB hB=>c5T C.o (ao ..) B hB) λd=>?_
 .have r':w.heap.size<=c:=F c (by rcases X7 P with h|h;exact .inl h;exact .inr (.inr h))
  by_cases e:i=0
  .subst e;have:=j.qE s c f b;omega
  .rcases j.CI e f with⟨u,hu,rfl⟩|T
   case inr=>have:=((j.sY i s T).2.2.2 c b).1;omega
   have:=j.qk hu (c:=c) (by rcases X7 b with h|h;exact .inl h;exact .inr (.inr h));omega
 .have d':=n.row;let⟨t,d'⟩:=d';have cases:∀g u,aj L x (J (⟨C,m8 C a,[C.o.bo],λ_=>.cells (S8 C 0 0 (Sc Q 0 0) false false) t (0,0),[T4 C.o,bot]⟩:Lv)) g=J u->(g=x/\u=⟨C,m8 C a,[C.o.bo],λ_=>.cells (S8 C 0 0 (Sc Q 0 0) false false) t (0,0),[T4 C.o,bot]⟩)\/(g≠x/\L g=J u):=λg u h=>by
   by_cases e:g=x
   .subst e;rw[aH]at h;grind
   .rw[az _ _ e]at h;grind
  have s':∀g u,L g=J u->C.o.bo∉u.pv:=λg u hu f=>by have:=j.sO hu f;omega
  have m:=G.at d;refine hx d (λ_=>.cells (S8 C 0 0 (Sc Q 0 0) false false) t (0,0)) _ ⟨m.env,m.top,λg u h=>?_,λg u h=>?_,λg u h=>?_,λg u h=>?_,λg u h=>?_,λg m' h=>?_,λs c h1 h2=>?_,λg u h c b=>?_,λg u h=>?_,λg u z N h S c b=>?_,λg u z N h S n'=>?_,λg s T=>?_⟩ λk I=>⟨⟨Zg I.lt W.size,I.nf,I.ns,I.nd,λg u h=>?_⟩,W.old k I.lt⟩
  .rcases cases g u h with⟨rfl,rfl⟩|⟨_,h5⟩
   .grind
   .have:=m.gid g u h5;grind
  .rcases cases g u h with⟨rfl,rfl⟩|⟨_,h5⟩
   .exact p
   .exact m.rZ g u h5
  .rcases cases g u h with⟨rfl,rfl⟩|⟨_,h5⟩
   .refine⟨Sc Q 0 0,false,p.env m.env,ao ..,⟨ao ..,λi f=>?_⟩,λi f=>?_,⟨t,Z⟩,by show 0≠C.bf/\0≠C.bs/\0≠C.bd;rw[p.f,p.s,p.d];exact m.top,λi f h1=>?_⟩
    .cases Zi f;rw[p.k,p.f,p.s,p.d]
     grind
    .cases Zi f;exact d'
    grind
   .exact m.at_ g u h5
  .rcases cases g u h with⟨rfl,rfl⟩|⟨_,h5⟩
   .exact⟨r,af _,Xb r C hC hp⟩
   .exact m.wait g u h5
  .rcases cases g u h with⟨rfl,rfl⟩|⟨e,h5⟩
   .exact aH _ _ _
   .rw[az _ _ e];exact m.qV g u h5
  .by_cases e:g=x
   .subst e;rw[aH]at h;cases h
   .rw[az _ _ e]at h ⊢;exact m.none g m' h
  .rw[az _ _ Za]at h1;exact m.qE s c h1 h2
  .rcases cases g u h with⟨rfl,rfl⟩|⟨e,h5⟩
   .have:=F c b;exact⟨⟨0,0,n.chan c b⟩,by omega,by omega,by omega,by omega,by omega,M c b⟩
   .exact m.chan g u h5 c b
  .rcases cases g u h with⟨rfl,rfl⟩|⟨e,h5⟩
   .exact n.ne
   .exact m.qM g u h5
  .rcases cases g u h with⟨rfl,rfl⟩|⟨e,h5⟩
   .intro f;obtain rfl:c=C.o.bo:=Zi f;rcases cases z N S with⟨rfl,rfl⟩|⟨e',A⟩
    .exact M _ b C.o (ao ..) Z
    .have:=j.qk A b;omega
   .rcases cases z N S with⟨rfl,rfl⟩|⟨e',A⟩
    .intro f;have:=j.sO h5 f;have:=F c b;omega
    .exact m.pZ g u z N h5 A c b
  .rcases cases g u h with⟨rfl,rfl⟩|⟨e,h5⟩
   .rcases cases z N S with⟨rfl,rfl⟩|⟨e',A⟩
    .grind
    .refine⟨λi f o'=>?_,λc b P=>?_⟩
     .grind
     .have:=j.qk A P;have:=F c b;omega
   .rcases cases z N S with⟨rfl,rfl⟩|⟨e',A⟩
    .refine⟨λi f o'=>?_,λc b P=>?_⟩
     .grind
     .have:=j.qk h5 b;have:=F c P;omega
    .exact m.apart g u z N h5 A n'
  .let⟨f1,f2,f3,f4⟩:=m.sY g s T;have ne:g≠x:=by omega
   refine⟨by rw[az _ _ ne];exact f1,f2,by omega,λc b=>⟨(f4 c b).1,λz u h=>?_⟩⟩;rcases cases z u h with⟨rfl,rfl⟩|⟨_,h5⟩
   .intro A;have:=F c A;have:=((j.sY g s T).2.2.2 c b).1;omega
   grind
  .rcases cases g u h with⟨rfl,rfl⟩|⟨e,h5⟩
   .refine⟨λf=>?_,λb=>?_⟩
    .cases Zi f;have:=I.lt;omega
    .have:=F k b;have:=I.lt;omega
   .exact I.own g u h5
end
section
open Go.Conc Go.RowKit
theorem Nt{Stop:Gr->Wd->Prop}{b:Obj}(c:Obj.oc b)(d:Clear l)(h:∀W,Grown l W->W.heap[l.heap.size]?=J b->W.heap.size=l.heap.size+1->∀a,l6 V s (DL t B) Stop D (W.at a)):l6 V s (DL t B) Stop D ((l.at a).alloc b) :=
 h (l.alloc b) ⟨by simp,λk e=>aK l b k e,(qI d.lk (o:=b) c).1.oc⟩ (cE l b) Zc a
def xc(o:nY)(a:List Fm'):Gr :=
 match Tryz.f50.body with
 | some (.seq _ (.seq (.region _ ops _) c))=>G ((aB 50).at ⟨#[pO o,Ud,Bo false,Ud,Ud,pO o,pO o,pO o,.chan (J o.tu),.agg #[],Ud,Ud,Ud,Ud,Ud,Ud,Ud,Ud,Ud],[]⟩ [.inRegion ops [5],.code c]) a
 | _=>dW
def vL(o:nY)(a:List Fm'):Gr :=
 match Tryz.f50.body with
 | some (.seq _ (.seq _ (.seq (.region _ ops _) c)))=>G ((aB 50).at ⟨#[pO o,Ud,Bo false,Ud,Ud,pO o,pO o,pO o,.chan (J o.tu),.agg #[],Ud,pO o,pO o,Po (J (O o.bo 1 Q)),.chan (J o.to),Ud,Ud,Ud,Ud],[]⟩ [.inRegion ops [4,5,6,7,8,9,10],.code c]) a
 | _=>dW
theorem Ut{o:nY}:bH V true (xc o A) l=.comm (xc o A) #[scase o.tu (.agg #[]) (.tuple #[])] true .send l #[]:=by
 unfold xc;simp only[jq];rw[stepG_comm (cases:=#[scase o.tu (.agg #[]) (.tuple #[])]) (blocking:=true) (shape:=.send) (w':=l) Z Z Zb (by simp[go_sem,Ex,dp,scase]),listed_none (by simp[go_sem,Ex,dp])]
theorem YH(o:nY)(l:List nY)(B:Nat)(a:List Fm'):AtIn V true (KO l) (SP l no) B (z7 o.to true (vL o a)) (vL o a) (vL o a):=by
 unfold vL;simp only[jq];exact atIn_of (s:=z7 o.to true _) Z Z Zb (λw=>by simp[go_sem,Ex,mK,dp,z7,ki]) (λw=>by simp[go_sem,Ex,dp]) (by simp[z7,ki])
theorem Zr(o:nY)(l:List nY)(h:o∈l)(B:Nat)(j:∀o∈l,o.bo<B)(i:List Fm'):Sits V true (KO l) (SP l no) B (z7 o.to true (vL o i)) 9 (bI (xc o i) Ud):=by
 have k:=YH o l B i;refine .inl ⟨8,dW,Z,?_⟩;unfold xc;unfold vL at *;simp only[jq,mX]at *;rw[bK];refine aO Z λd a=>?_;rw[jd];simp only[dc];refine⟨de _,?_⟩;clear a;refine aO Z λd a=>?_;rw[stepG_seq];simp only[dc];refine⟨de _,?_⟩;clear a;refine aO Z λd a=>?_;rw[iH];simp only[dc,aR,bQ,dP,Nat.reduceAdd,aE,aM,List.range.loop];refine⟨de _,?_⟩;clear a;refine aO Z λd a=>cA Z Z Zb λK b=>?_;go_simp;refine b _ _ ⟨⟨Z,λe f=>by(have c:=aZ f;simp[go_sem]at c)⟩,?_⟩;clear b K a;refine aO Z λd a=>cA Z Z Zb λK b=>?_;go_simp;refine b _ _ ⟨⟨Z,λe f=>by(have c:=aZ f;simp[go_sem]at c)⟩,?_⟩;clear b K a;refine aO Z λd a=>cA Z Z Zb λK b=>?_;go_simp;refine b _ _ ⟨⟨Z,λe f=>by(have c:=aZ f;simp[go_sem]at c)⟩,?_⟩;clear b K a;refine aO Z λd a=>cA Z Z Zb λK b=>?_;have g:=Z1 a h;have m:=g.1;have n:=g.2.1;have p:=g.2.2.1;have q:=g.2.2.2;go_simp;refine b _ _ ⟨⟨Z,λe f=>by(have c:=aZ f;simp[go_sem, *]at c;subst c;exact evC_read _ (.inl ⟨o,h,1,by omega,Z⟩) (j o h))⟩,?_⟩;clear b K g m n p q a;exact Goes.stop λd a=>⟨_,k⟩
def EJ:jx:=(Tryz.f50.body).getD .skip
theorem b3b(o:nY):ay V 50 #[pO o] .normal=(aB 50).at ⟨#[pO o,Ud,Ud,Ud,Ud,Ud,Ud,Ud,Ud,Ud,Ud,Ud,Ud,Ud,Ud,Ud,Ud,Ud,Ud],[]⟩ [.code EJ]:=by
 rw[enter_at (c:=EJ) _ mi Z];refine congrArg (λt=>(aB 50).at ⟨t,[]⟩ [.code EJ]) ?_
 kernel_rfl
variable{m:Kb}{l:List nY}{K:aa}{L:Nat->Option Lv}{r:Nat}{y:Nat->Option ic}{g:Nat}{w:Wd}{v:Lv}{x:fM->jD->Prop}
theorem Nr(p:Co m l K L r y g w)(o:nY)(c:Bool)(i:Fm')(j:List Fm')(q:∀k,Grown w k->X V x l y g 0 (G (i.finish (Bo c)) j) k) :
  X V x l y g 0 (bI (vL o (i::j)) (wv o.to true c)) w:=by
 have s:wv o.to true c=.tuple #[.agg #[],Bo c]:=by simp[wv,ik,mK]
 rw[s];unfold vL;simp only[jq,mX];rw[bK];refine vp (st:=true) ?_;show l6 V true (DL true (fb l)) _ _ (w.at w.drawn);generalize w.drawn=u;have t:=p.env.fit.clear;go_simp;(iterate 3(refine mo Z Z λd b a=>?_;go_simp;refine a _ _ ⟨Z,?_⟩;clear a b));refine C5 Z Z Zb (λd b a=>?_) _;go_simp;refine a _ _ ⟨y8 λe f=>?_,?_⟩
 .have h:=aZ f;simp[go_sem]at h
 clear a b;refine Nt nQ t λW n z A d=>?_;have B:=n.clear;refine C5 Z Z Zb (λd b a=>?_) _;go_simp;refine a _ _ ⟨⟨.of_heap _ Z,λe f=>?_,Z⟩,?_⟩
 .have h:=aZ f;simp[go_sem]at h
 clear a b;refine mo Z Z λd b a=>?_;go_simp;refine a _ _ ⟨Z,?_⟩;clear a b;refine i8 (λd=>?_) _;refine B6 (λd=>?_) _;refine m9 (λd=>?_) _;simp only[rz,ix,Nat.reduceAdd];(iterate 2(refine mo Z Z λd b a=>?_;go_simp;refine a _ _ ⟨Z,?_⟩;clear a b));refine i8 (λd=>?_) _;refine uL (λd=>?_) _;exact X6 (v:=Bo c) Z Z mi (kT (t:=2) Z _) (w:=W) (λd=>.stop (q _ (n.at d))) _
theorem Rg(C:Co m l K L (r+1) y g w)(S:L a=J v)(p:Fm')(q:List Fm')(a':∀j z o,z.C=v.C->z.S=(λ_=>(v.turn K).2)->(∃n b' b c,(v.turn K).2 []=.call n b' b c)->Co m l (v.turn K).1 (aj L a (J z)) r o g j->Kp m L w (aj L a (J z)) j->X V x l o g 0 (G (p.finish (Bo true)) q) j)(c':∀j o D E,(v.turn K).2 []=.done D E->Co m l (v.turn K).1 (aj L a Q) r o g j->Kp m L w (aj L a Q) j->(∃t e' un go,j.heap[v.C.o.bo]?=J (.cells (S8 v.C E D e' un go) t (0,0)))->X V x l o g 0 (G (p.finish (Bo false)) q) j) :
  X V x l y g 0 (G (ay V 50 #[pO v.C.o] .normal) (p::q)) w:=by
 have T:v.C.o∈l:=by let⟨f,n,A⟩:=C.at_ a v S;exact A.mem
 have h0:=(Z1 C.env.ko T).1;have W:∀d,X V x l y g 0 (xc v.C.o (p::q)) (w.at d):=λd=>by
  refine c7b (C.at d) S (rec:=vL v.C.o (p::q)) (nh:=9) (by unfold xc;simp only[jq];rfl) (λd'=>Ut) (λB hB=>Zr v.C.o l T B hB (p::q)) (λj z o I F N H h5=>?_) λj o D E I F N H=>?_
  .exact Nr H v.C.o true p q (λP s=>a' P z o I F N (H.grown s) (λk h=>by
    let⟨e,R⟩:=h5 k ⟨h.lt,h.nf,h.ns,h.nd,h.own⟩
    exact⟨⟨Zg e.lt s.size,e.nf,e.ns,e.nd,e.own⟩,(s.old k e.lt).trans R⟩))
  .let⟨t,f1,f2,f3,M⟩:=H
   exact Nr F v.C.o false p q (λP s=>c' P o D E I (F.grown s) (λk h=>by
    let⟨e,R⟩:=N k ⟨h.lt,h.nf,h.ns,h.nd,h.own⟩
    exact⟨⟨Zg e.lt s.size,e.nf,e.ns,e.nd,e.own⟩,(s.old k e.lt).trans R⟩) ⟨t,f1,f2,f3,by rw[s.old _ (Zj M).1];exact M⟩)
 rw[b3b];unfold xc at W;simp only[EJ,jq,cW,pO]at *;refine vp (st:=true) ?_;show l6 V true (DL true (fb l)) _ _ (w.at w.drawn);generalize w.drawn=dz;have hc:=C.env.fit.clear;refine B6 (λd=>?_) _;refine m9 (λd=>?_) _;simp only[rz,ix,Nat.reduceAdd];refine mo Z Z λd u i=>?_;go_simp;refine i _ _ ⟨Z,?_⟩;clear i u;refine i8 (λd=>?_) _;refine B6 (λd=>?_) _;refine m9 (λd=>?_) _;simp only[rz,ix,Nat.reduceAdd];(iterate 3(refine mo Z Z λd u i=>?_;go_simp;refine i _ _ ⟨Z,?_⟩;clear i u));refine mo Z Z λd u i=>?_;have e0:(w.at d).cell? (O v.C.o.bo 0 Q)=J (.chan (J v.C.o.tu)):=h0;go_simp;refine i _ _ ⟨Z,?_⟩;clear i u;refine mo Z Z λd u i=>?_;go_simp;refine i _ _ ⟨Z,?_⟩;clear i u;exact .stop (W _)
def zK(o:nY)(a:List Fm'):Gr :=
 match Tryz.f56.body with
 | some (.seq (.region _ ops _) c)=>G ((aB 56).at ⟨#[pO o,Ud,pO o,pO o,Po (J (O o.bo 2 Q)),.chan (J o.en),Ud,Ud,Ud,Ud,Ud],[]⟩ [.inRegion ops [4],.code c]) a
 | _=>dW
def zP(o:nY)(a:List Fm'):Gr :=
 match Tryz.f56.body with
 | some (.seq (.region _ ops _) c)=>G ((aB 56).at ⟨#[pO o,Ud,pO o,pO o,Po (J (O o.bo 2 Q)),.chan (J o.en),Ud,Ud,Ud,Ud,Ud],[]⟩ [.inRegion ops [],.code c]) a
 | _=>dW
def vM(o:nY)(a:List Fm'):Gr :=
 match Tryz.f56.body with
 | some (.seq _ (.region _ ops _))=>G ((aB 56).at ⟨#[pO o,Ud,pO o,pO o,Po (J (O o.bo 2 Q)),.chan (J o.en),pO o,pO o,Po (J (O o.bo 1 Q)),.chan (J o.to),Ud],[]⟩ [.inRegion ops [4]]) a
 | _=>dW
theorem c6Y{o:nY}{w:Wd}(c:w.heap[o.en]?=J (.chan a #[] false b b false))(d:Nat):bH V true (zK o A) (w.at d)=.go (zP o A) ((w.at d).setChan o.en a #[] true b b false) (il o.en):=by
 unfold zK zP;simp only[gK];rw[stepG_close (c:=o.en) Z Z Zb Z Z (w:=w.at d) c Zd];rfl
theorem Wt(o:nY)(l:List nY)(B:Nat)(a:List Fm'):AtIn V true (KO l) (SP l no) B (z7 o.to false (vM o a)) (vM o a) (vM o a):=by
 unfold vM;simp only[gK];exact atIn_of (s:=z7 o.to false _) Z Z Zb (λw=>by simp[go_sem,Ex,mK,dp,z7,ki]) (λw=>by simp[go_sem,Ex,dp]) (by simp[z7,ki])
theorem QI(o:nY)(l:List nY)(i:o∈l)(B:Nat)(k:∀o∈l,o.bo<B)(j:List Fm'):Sits V true (KO l) (SP l no) B (z7 o.to false (vM o j)) 7 (zP o j):=by
 have n:=Wt o l B j;refine .inl ⟨6,dW,Z,?_⟩;unfold zP;unfold vM at *;simp only[gK]at *;refine aO Z λf a=>?_;rw[jd];simp only[dc];refine⟨de _,?_⟩;clear a;refine aO Z λf a=>?_;rw[iH];simp only[dc,aR,bQ,dP,Nat.reduceAdd,aE,aM,List.range.loop];refine⟨de _,?_⟩;clear a;refine aO Z λf a=>cA Z Z Zb λK b=>?_;go_simp;refine b _ _ ⟨⟨Z,λe d=>by(have c:=aZ d;simp[go_sem]at c)⟩,?_⟩;clear b K a;refine aO Z λf a=>cA Z Z Zb λK b=>?_;go_simp;refine b _ _ ⟨⟨Z,λe d=>by(have c:=aZ d;simp[go_sem]at c)⟩,?_⟩;clear b K a;refine aO Z λf a=>cA Z Z Zb λK b=>?_;go_simp;refine b _ _ ⟨⟨Z,λe d=>by(have c:=aZ d;simp[go_sem]at c)⟩,?_⟩;clear b K a;refine aO Z λf a=>cA Z Z Zb λK b=>?_;have h:=Z1 a i;have p:=h.1;have q:=h.2.1;have s:=h.2.2.1;have t:=h.2.2.2;go_simp;refine b _ _ ⟨⟨Z,λe d=>by(have c:=aZ d;simp[go_sem, *]at c;subst c;exact evC_read _ (.inl ⟨o,i,1,by omega,Z⟩) (k o i))⟩,?_⟩;clear b K h p q s t a;exact Goes.stop λf a=>⟨_,n⟩
def EP:jx:=(Tryz.f56.body).getD .skip
theorem XU(o:nY):ay V 56 #[pO o] .normal=(aB 56).at ⟨#[pO o,Ud,Ud,Ud,Ud,Ud,Ud,Ud,Ud,Ud,Ud],[]⟩ [.code EP]:=by
 rw[enter_at (c:=EP) _ Tryz.func56 Z];refine congrArg (λt=>(aB 56).at ⟨t,[]⟩ [.code EP]) ?_
 kernel_rfl
theorem b5n(p:Co m l K L r y g w)(t:L a=J v)(e:Fm')(h:List Fm')(F:∀b c,Co m l K (aj L a Q) r c g b->Kp m L w (aj L a Q) b->X V x l c g 0 (G (e.finish (.tuple #[])) h) b) :
  X V x l y g 0 (G (ay V 56 #[pO v.C.o] .normal) (e::h)) w:=by
 have z:v.C.o∈l:=by let⟨f,n,A⟩:=p.at_ a v t;exact A.mem
 have H:=(Z1 p.env.ko z).2.2.1;have C:∀b c,Co m l K (aj L a Q) r c g b->Kp m L w (aj L a Q) b->X V x l c g 0 (bI (vM v.C.o (e::h)) (wv v.C.o.to false false)) b:=by
  intro w c D I;have N:=λd=>F (w.at d) c (D.at d) (λk i=>by let⟨j,P⟩:=I k i;exact⟨⟨j.lt,j.nf,j.ns,j.nd,j.own⟩,P⟩);rw[show wv v.C.o.to false false=.agg #[] from by simp[wv,ik,mK]];unfold vM;simp only[gK,mX];rw[bK];refine vp (st:=true) ?_;show l6 V true (DL true (fb l)) _ _ (w.at w.drawn);generalize w.drawn=R;have q:=D.env.fit.clear;go_simp;refine i8 (λd=>?_) _;refine mc Z (λu=>stepG_end) λd=>X6 (v:=.tuple #[]) Z Z Tryz.func56 (resultsC_none Z _) (w:=w) (λd=>.stop (N d)) _
 have E:∀d,X V x l y g 0 (zK v.C.o (e::h)) (w.at d):=λd=>by
  refine c0b (p.at d) t (a₂:=zP v.C.o (e::h)) (rec:=vM v.C.o (e::h)) (nh:=7) (by unfold zK;simp only[gK];rfl) (by unfold zK;simp only[gK];rfl) (by unfold zP;simp only[gK];rfl) (λa' k q S=>c6Y (w:=w.at d) q S) (λB T=>QI v.C.o l z B T (e::h)) λb c W M=>C b c W λk i=>M k ⟨i.lt,i.nf,i.ns,i.nd,i.own⟩
 clear C;rw[XU];unfold zK at E;simp only[EP,gK,cW,pO]at *;refine vp (st:=true) ?_;show l6 V true (DL true (fb l)) _ _ (w.at w.drawn);generalize w.drawn=R;have q:=p.env.fit.clear;refine B6 (λd=>?_) _;refine m9 (λd=>?_) _;simp only[rz,ix,Nat.reduceAdd];(iterate 3(refine mo Z Z λd s o=>?_;go_simp;refine o _ _ ⟨Z,?_⟩;clear o s));refine mo Z Z λd s o=>?_;have e0:(w.at d).cell? (O v.C.o.bo 2 Q)=J (.chan (J v.C.o.en)):=H;go_simp;refine o _ _ ⟨Z,?_⟩;clear o s;exact .stop (E _)
theorem D7{listed:Array Bool}(e:a≠b):(listed.setIfInBounds a true).getD b false=listed.getD b false:=by
 simp_all
theorem Lr{b:Array aN}{listed:Array Bool}(h:a∈aW .any b listed):listed.getD a false=false:=by
 cases e:listed.getD a false with
 | false=>rfl
 | true=>exact(vB h e).elim
def G9:Array aN :=
 match Tryz.f49.body with
 | some (.seq _ (.seq (.region _ ops _) _))=>ops
 | _=>#[]
theorem xt:ux G9=true:=by kernel_rfl
def wB(a:Nat)(p b A B:Int)(c:Nat->Nat):Array dQ:=#[.chan (J (c 0)),.chan (J (c 1)),.chan (J (c 2)),Po (J (O a 0 Q)),Y U p,Y U b,Y U A,Y U B,Y U 0,Y U 0,Sc Q 0 0,Bo false,Bo false]
def xr(b:Nat)(p a A B:Int)(c:Nat->Nat)(d:Nat):Nat->Vu
 | 0=>.chan (J (c 0))|1=>.chan (J (c 1))|2=>.chan (J (c 2))|3=>Po (J (O b 0 Q))|4=>Y U p|5=>.agg #[Y U a,Y U A,Y U B]
 | 6=>.agg #[Y U a,Y U A,Y U B,Y U 0,Y U 0]|7=>.agg (wB b p a A B c)|8=>Po (J (O d 0 Q))|9=>Po (J (O d 0 Q))|_=>Ud
def cnt(listed:Array Bool):Nat:=(if listed.getD 0 false then 1 else 0)+(if listed.getD 1 false then 1 else 0)+(if listed.getD 2 false then 1 else 0)
theorem Mo(w:Wd):(kv 138 (Y U 0)).run V w=.ok (.chan (J w.heap.size)) (w.alloc (.chan 0 #[] false 0 0 false)):=by
 have h:(V.info? 165).map (·.bytes)=J 0:=by kernel_rfl
 let⟨i,a,b⟩:=dF.1 h;exact run_makeChan (P:=V) (w:=w) na a .i64 0 Za Za
theorem Yk(w:Wd)(a:Array dr):(kv 138 (Y U 0)).events V w a=a:=by
 have h:(V.info? 165).map (·.bytes)=J 0:=by kernel_rfl
 let⟨i,b,c⟩:=dF.1 h;exact events_makeChan (P:=V) (w:=w) na b .i64 0 Za Za a
variable{g:Bool}{Stop:Gr->Wd->Prop}{W:Wd}{bk bx bo:Nat}{p kd A B:Int}{tb:Array Vu}
theorem zZ{c:Array aN}{o:aN}{b:Fm'}{e:List Nat}{k:List bm}{f:List Fm'}{h:Nat->Nat}{w:Wd}{v:Vu}(j:c[a]?=J o)(n:o.guard=Q)(q:b.kind≠.early)(t:qG V (λ_=>false) [] false o.op=true)(u:Clear w)(z:∀d,(Ex I.eval o).run V (w.at d)=.ok (.value v) (w.at d))(C:∀d,l6 V s (DL g h) Stop (G (b.at (I.put o.dst v) (.inRegion c e::k)) f) (w.at d))(i:Nat) :
  l6 V s (DL g h) Stop (G (b.at I (.inRegion c (a::e)::k)) f) (w.at i) :=
 Ic j (by unfold bR;rw[n]) q t u (λd D E=>by simp_all) i
theorem Ra(T:tb.size=19){c:Nat->Nat}{w:Wd}(z:Clear w)(k:List bm)(i:List Fm')(C:∀d,l6 V true (DL g (fb l)) Stop (G ((aB 49).at ⟨fill G9 (xr bk p kd A B c bo) tb,[]⟩ (.inRegion G9 []::k)) i) (w.at d)) :
  ∀D listed a b,Ord G9 D listed b->(pE G9 (xr bk p kd A B c bo) tb listed a/\∀j,j<=8->listed.getD j false=true)->∀d,l6 V true (DL g (fb l)) Stop (G ((aB 49).at a (.inRegion G9 b::k)) i) (w.at d):=by
 refine BV (J:=λa b=>∀d,l6 V true (DL g (fb l)) Stop (G ((aB 49).at a (.inRegion G9 b::k)) i) (w.at d)) (λf listed a q b s n M E=>?_) λlisted a F n=>?_
 .let⟨e,h⟩:=n;have H:=xE s;have I:G9.size=10:=by kernel_rfl
  rw[I]at H
  by_cases N:q=9
  .subst N;obtain⟨o,t,u,P⟩:∃o,G9[9]?=J o/\o.op=.assign (.tmp 16)/\o.guard=none:=⟨_,Z,Z,Z⟩;have R:a.eval (.tmp 16)=Po (J (O bo 0 Q)):=e.tmp (j:=8) Z Z (h 8 Za) Za Z;exact zZ t P Zb (by rw[u];rfl) z (λd=>zW u R) (E _ ⟨e.put xt t Z,λj S=>Z6 (h j S)⟩)
  .exact(vB s (h q Za)).elim
 .let⟨e,h⟩:=n;cases e.full (V0 Zd e.len F);exact C
structure vH (W w:Wd) (c:Nat->Nat) (on:Nat->Prop):Prop where
 is:∀i,i<3->on i->W.heap.size<=c i/\c i<w.heap.size/\w.heap[c i]?=J (.chan 0 #[] false 0 0 false)
 ne:∀i j,i<3->j<3->i≠j->on i->on j->c i≠c j
theorem vH.add{W w:Wd}{c:Nat->Nat}{k n:Nat->Prop}(h:vH W w c k)(t:W.heap.size<=w.heap.size)(f:∀q,n q->q=a\/k q):vH W (w.alloc (.chan 0 #[] false 0 0 false)) (λq=>if q=a then w.heap.size else c q) n:=by
 refine⟨λq i j=>?_,λq b i o u j s=>?_⟩
 .by_cases e:q=a
  .simp only[e,if_true];exact⟨t,by simp,cE w _⟩
  .simp only[e,if_false];let⟨z,C,D⟩:=h.is q i ((f q j).resolve_left e);exact⟨z,by simp;omega,by rw[aK w _ _ C];exact D⟩
 .by_cases e:q=a
  .by_cases d:b=a
   .grind
   .simp only[e,d,if_true,if_false];have:=(h.is b o ((f b s).resolve_left d)).2.1;omega
  .by_cases d:b=a
   .simp only[e,d,if_true,if_false];have:=(h.is q i ((f q j).resolve_left e)).2.1;omega
   .simp only[e,d,if_false];exact h.ne q b i o u ((f q j).resolve_left e) ((f b s).resolve_left d)
theorem vH.grow{W w:Wd}{c:Nat->Nat}{a:Nat->Prop}(h:vH W w c a)(b:Grown w n):vH W n c a :=
 ⟨λi e f=>by let⟨j,d,k⟩:=h.is i e f;exact⟨j,Zg d b.size,by rw[b.old _ d];exact k⟩,h.ne⟩
theorem JY{o:aN}{w:Wd}(a:o.op=.makeChan 138 (.const (Y U 0))):(Ex I.eval o).run V w=.ok (.value (.chan (J w.heap.size))) (w.alloc (.chan 0 #[] false 0 0 false))/\(Ex I.eval o).events V w #[]=#[]:=by
 unfold Ex;simp only[a];constructor
 .simp[dp,Mo]
 .simp[dp,Mo,Yk]
theorem OM{w:Wd}(a:Clear w){ob:Obj}(b:Obj.oc ob):Grown w (w.alloc ob):=⟨by simp,λk c=>aK w ob k c,(qI a.lk (o:=ob) b).1.oc⟩
theorem Ub(j':tb.size=19)(k':bo=W.heap.size+3)(b0:tb[0]?=J (Po (J (O bk 0 Q))))(b1:tb[1]?=J (Y U p))(b5:tb[5]?=J (Po (J (O bx 0 Q))))(c':bx<W.heap.size)(x0:W.cell? (O bx 0 Q)=J (Y U kd))(x1:W.cell? (O bx 1 Q)=J (Y U A))(x2:W.cell? (O bx 2 Q)=J (Y U B)){k:List bm}{cs:List Fm'}(l':∀c w,Grown W w->w.heap.size=W.heap.size+4->vH W w c (λ_=>True)->w.heap[bo]?=J (.cells (wB bk p kd A B c) 141 (0,0))->∀d,l6 V true (DL g (fb l)) Stop (G ((aB 49).at ⟨fill G9 (xr bk p kd A B c bo) tb,[]⟩ (.inRegion G9 []::k)) cs) (w.at d)) :
  ∀m' listed (u:db×Wd) P,Ord G9 m' listed P->(∃c,pE G9 (xr bk p kd A B c bo) tb listed u.1/\Grown W u.2/\u.2.heap.size=W.heap.size+cnt listed/\vH W u.2 c (λi=>listed.getD i false=true)/\(listed.getD 6 false=true->listed.getD 5 false=true)/\(listed.getD 7 false=true->∀j,j<=6->listed.getD j false=true)/\∀j,8<=j->listed.getD j false=false) ->
   ∀d,l6 V true (DL g (fb l)) Stop (G ((aB 49).at u.1 (.inRegion G9 P::k)) cs) (u.2.at d):=by
 refine Ee (J:=λ(u:db×Wd) P=>∀d,l6 V true (DL g (fb l)) Stop (G ((aB 49).at u.1 (.inRegion G9 P::k)) cs) (u.2.at d)) (λf0 listed u q P s F hO I=>?_) λlisted u z F=>?_
 .let⟨a,w⟩:=u;let⟨c,f,t,R,H,b',h7,S⟩:=F;simp only at f t R H;have y0:w.cell? (O bx 0 Q)=J (Y U kd):=(Zf (w:=W) (t.old bx c')).trans x0;have y1:w.cell? (O bx 1 Q)=J (Y U A):=(Zf (w:=W) (t.old bx c')).trans x1;have y2:w.cell? (O bx 2 Q)=J (Y U B):=(Zf (w:=W) (t.old bx c')).trans x2;have T:∀q,3<=q->q<=7->(q=6->listed.getD 5 false=true)->(q=7->∀j,j<=6->listed.getD j false=true)->∀N,pE G9 (xr bk p kd A B c bo) tb (listed.setIfInBounds q true) N->(∃c,pE G9 (xr bk p kd A B c bo) tb (listed.setIfInBounds q true) (N,w).1/\Grown W (N,w).2/\(N,w).2.heap.size=W.heap.size+cnt (listed.setIfInBounds q true)/\vH W (N,w).2 c (λi=>(listed.setIfInBounds q true).getD i false=true)/\((listed.setIfInBounds q true).getD 6 false=true->(listed.setIfInBounds q true).getD 5 false=true)/\((listed.setIfInBounds q true).getD 7 false=true->∀j,j<=6->(listed.setIfInBounds q true).getD j false=true)/\∀j,8<=j->(listed.setIfInBounds q true).getD j false=false):=λq M y' z' n' N h=>by
   refine⟨c,h,t,?_,⟨λi s b=>H.is i s (by rw[D7 Za]at b;exact b),λi j s E d' b e'=>H.ne i j s E d' (by rw[D7 Za]at b;exact b) (by rw[D7 Za]at e';exact e')⟩,λh6=>?_,λf' j E=>?_,λj E=>by rw[D7 Za];exact S j E⟩
   .unfold cnt at R ⊢;rw[D7 (show q≠0 by omega),D7 (show q≠1 by omega),D7 (show q≠2 by omega)];exact R
   .by_cases e:q=6
    .simp_all
    .rw[D7 e]at h6;exact Z6 (b' h6)
   .by_cases e:q=7
    .exact Z6 (n' e j E)
    .rw[D7 e]at f';exact Z6 (h7 f' j E)
  have o':=xE s;have hz:G9.size=10:=by kernel_rfl
  rw[hz]at o';obtain M|rfl|rfl|rfl|rfl|rfl|rfl|rfl:(q=0\/q=1\/q=2)\/q=3\/q=4\/q=5\/q=6\/q=7\/q=8\/q=9:=by omega
  .have g':=Lr s;have p':cnt (listed.setIfInBounds q true)=cnt listed+1:=by
    have hn:=zk s;unfold cnt;rcases M with rfl|rfl|rfl<;>simp only[hn,g',D7 (show 0≠1 by omega),D7 (show 0≠2 by omega),D7 (show 1≠0 by omega),D7 (show 1≠2 by omega),D7 (show 2≠0 by omega),D7 (show 2≠1 by omega),if_true,if_false,aJ]<;>omega
   have h':listed.getD 7 false=false:=by
    grind
   obtain⟨o,b,n,C⟩:∃o,G9[q]?=J o/\o.op=.makeChan 138 (.const (Y U 0))/\o.guard=none:=by
    rcases M with rfl|rfl|rfl<;>exact⟨_,Z,Z,Z⟩
   have X:=OM t.clear (ob:=.chan 0 #[] false 0 0 false) nQ
   have F:=(f.val (V':=xr bk p kd A B (λr=>if r=q then w.heap.size else c r) bo) (λr z=>by
    have r8:r<8:=by
     rcases bU r 8 with h|h
     .exact h
     .rw[S r h]at z;cases z
    rcases(by omega:r=0\/r=1\/r=2\/r=3\/r=4\/r=5\/r=6\/r=7) with rfl|rfl|rfl|rfl|rfl|rfl|rfl|rfl<;>rcases M with rfl|rfl|rfl<;>first|rfl|(rw[g']at z;cases z)|(rw[h']at z;cases z))).put xt b (v:=.chan (J w.heap.size)) (by rcases M with rfl|rfl|rfl<;>rfl)
   exact λd=>IY b C Zb (λd=>(JY n).1) (λd=>(JY n).2) (λd=>I (_,w.alloc (.chan 0 #[] false 0 0 false)) ⟨_,F,t.trans X,by rw[p'];simp;omega,H.add t.size (λr z=>by
    by_cases e:r=q
    .exact .inl e
    .rw[D7 (aA e)]at z;exact .inr z),λh=>(by rw[D7 Za]at h ⊢;exact b' h),λh=>(by rw[D7 Za,h']at h;cases h),λr z=>by rw[D7 Za];exact S r z⟩ d) d
  .obtain⟨o,b,n,C⟩:∃o,G9[3]?=J o/\o.op=.move (.tmp 0)/\o.guard=none:=⟨_,Z,Z,Z⟩;have e0:a.eval (.tmp 0)=Po (J (O bk 0 Q)):=f.base Zd b0;exact λd=>zZ b C Zb (by rw[n];rfl) t.clear (v:=Po (J (O bk 0 Q))) (λd=>X1 n e0) (λd=>I (_,w) (T 3 Za Za (λe=>by omega) (λe=>by omega) _ (f.put xt b Z)) d) d
  .obtain⟨o,b,n,C⟩:∃o,G9[4]?=J o/\o.op=.move (.tmp 1)/\o.guard=none:=⟨_,Z,Z,Z⟩;have e1:a.eval (.tmp 1)=Y U p:=f.base Zd b1;exact λd=>zZ b C Zb (by rw[n];rfl) t.clear (v:=Y U p) (λd=>X1 n e1) (λd=>I (_,w) (T 4 Za Za (λe=>by omega) (λe=>by omega) _ (f.put xt b Z)) d) d
  .obtain⟨o,b,n,C⟩:∃o,G9[5]?=J o/\o.op=.load 27 (.tmp 5)/\o.guard=none:=⟨_,Z,Z,Z⟩;have e5:a.eval (.tmp 5)=Po (J (O bx 0 Q)):=f.base Zd b5;exact λd=>zZ b C Zb (by rw[n];rfl) t.clear (v:=.agg #[Y U kd,Y U A,Y U B]) (λd=>by have z0:(w.at d).cell? (O bx 0 Q)=_:=y0;have z1:(w.at d).cell? (O bx 1 Q)=_:=y1;have z2:(w.at d).cell? (O bx 2 Q)=_:=y2;unfold Ex;simp only[n,e5];go_simp) (λd=>I (_,w) (T 5 Za Za (λe=>by omega) (λe=>by omega) _ (f.put xt b Z)) d) d
  .obtain⟨o,b,n,C⟩:∃o,G9[6]?=J o/\o.op=.build 92 #[(0,.tmp 13)]/\o.guard=none:=⟨_,Z,Z,Z⟩;have q':a.eval (.tmp 13)=.agg #[Y U kd,Y U A,Y U B]:=f.tmp (j:=5) Z Z (k9 s Z Zd) Za Z;exact λd=>zZ b C Zb (by rw[n];rfl) t.clear (v:=.agg #[Y U kd,Y U A,Y U B,Y U 0,Y U 0]) (λd=>by unfold Ex;simp only[n,du,cZ,eK,q'];go_simp) (λd=>I (_,w) (T 6 Za Za (λ_=>k9 s Z Zd) (λe=>by omega) _ (f.put xt b Z)) d) d
  .obtain⟨o,b,n,C⟩:∃o,G9[7]?=J o/\o.op=.build 141 #[(0,.tmp 8),(1,.tmp 9),(2,.tmp 10),(3,.tmp 11),(4,.tmp 12),(5,.tmp 14)]/\o.guard=none:=⟨_,Z,Z,Z⟩;have D:∀j,j<=6->listed.getD j false=true:=λj E=>by
    obtain rfl|rfl|rfl|rfl|rfl|rfl|rfl:j=5\/j=0\/j=1\/j=2\/j=3\/j=4\/j=6:=by omega
    .exact b' (k9 s Z Zd)
    all_goals exact k9 s Z Zd
   have e8:a.eval (.tmp 8)=.chan (J (c 0)):=f.tmp (j:=0) Z Z (D 0 Za) Za Z;have e9:a.eval (.tmp 9)=.chan (J (c 1)):=f.tmp (j:=1) Z Z (D 1 Za) Za Z;have r':a.eval (.tmp 10)=.chan (J (c 2)):=f.tmp (j:=2) Z Z (D 2 Za) Za Z;have s':a.eval (.tmp 11)=Po (J (O bk 0 Q)):=f.tmp (j:=3) Z Z (D 3 Za) Za Z;have t':a.eval (.tmp 12)=Y U p:=f.tmp (j:=4) Z Z (D 4 Za) Za Z;have u':a.eval (.tmp 14)=.agg #[Y U kd,Y U A,Y U B,Y U 0,Y U 0]:=f.tmp (j:=6) Z Z (D 6 Za) Za Z;exact λd=>zZ b C Zb (by rw[n];rfl) t.clear (v:=.agg (wB bk p kd A B c)) (λd=>by unfold Ex;simp only[n,du,cZ,eK,e8,e9,r',s',t',u'];go_simp;rfl) (λd=>I (_,w) (T 7 Za Za (λe=>by omega) (λ_=>D) _ (f.put xt b Z)) d) d
  .obtain⟨o,b,n,C⟩:∃o,G9[8]?=J o/\o.op=.box 141 (.tmp 15)/\o.guard=none:=⟨_,Z,Z,Z⟩;have l7:listed.getD 7 false=true:=k9 s Z Zd;have D:=h7 l7;have v':a.eval (.tmp 15)=.agg (wB bk p kd A B c):=f.tmp (j:=7) Z Z l7 Za Z;have w':w.heap.size=bo:=by
    rw[R,k'];unfold cnt
    grind
   have X:=OM t.clear (ob:=.cells (wB bk p kd A B c) 141 (0,0)) nQ;have i':∀d,(Ex a.eval o).run V (w.at d)=.ok (.value (Po (J (O bo 0 Q)))) ((w.at d).alloc (.cells (wB bk p kd A B c) 141 (0,0)))/\(Ex a.eval o).events V (w.at d) #[]=#[]:=λd=>by
    unfold Ex wB at *;simp only[n,v'];constructor
    .go_simp
    .simp[go_sem]
   have F:=f.put xt b (v:=Po (J (O bo 0 Q))) Z;refine λd=>IY b C Zb (λd=>(i' d).1) (λd=>(i' d).2) (λd=>?_) d;refine Ra j' X.clear k cs (l' c _ (t.trans X) (by simp;omega) (⟨λi s _=>?_,λi j s E d' _ _=>H.ne i j s E d' (D i Za) (D j Za)⟩) ?_) _ _ _ _ hO ⟨F,λj E=>?_⟩ d
   .exact(H.grow X).is i s (D i Za)
   .rw[←w'];exact cE w _
   .have x':j<=6\/j=7\/j=8:=by omega
    rcases x' with h|rfl|rfl
    .exact Z6 (D j h)
    .exact Z6 l7
    .exact zk s
  .exact(Ch s Z (j:=8) (S 8 Za) Zd).elim
 .let⟨a,w⟩:=u;let⟨c,f,t,R,H,b',h7,S⟩:=F;exact absurd (V0 Zd f.len z 8 (by show 8<10;omega)) (by grind)
end
section
open Go.Conc Go.RowKit
def HH:jx :=
 match Tryz.f49.body with
 | some (.seq c _)=>c
 | _=>.skip
def Ak:jx :=
 match Tryz.f49.body with
 | some (.seq _ (.seq _ c))=>c
 | _=>.skip
def Bf:jx:=(Tryz.f49.body).getD .skip
theorem RI(a x y:Vu):ay V 49 #[a,x,y] .normal=(aB 49).at ⟨#[a,x,y,Ud,Ud,Ud,Ud,Ud,Ud,Ud,Ud,Ud,Ud,Ud,Ud,Ud,Ud,Ud,Ud],[]⟩ [.code Bf]:=by
 rw[enter_at (c:=Bf) _ Tryz.func49 Z];refine congrArg (λt=>(aB 49).at ⟨t,[]⟩ [.code Bf]) ?_
 kernel_rfl
theorem Ur:Bf=.seq HH (.seq (.region 1 G9 true) Ak):=by
 unfold Bf HH G9 Ak;simp only[Tryz.f49,cW]
variable{a:Kb}{l:List nY}{K:aa}{L:Nat->Option Lv}{r:Nat}{g:Nat->Option ic}{b:Nat}{w:Wd}{f:fM->jD->Prop}
theorem RG(F:Co a l K L r g b w)(I:0<b)(N:c<K.nS)(h A i:Int)(t:Fm')(v:List Fm')(P:∀y (C:Ctx) H j,C.slot=(c:Int)->C.kd=h->C.A=A->C.B=i->uK a C->C.o.gid=b->Co a (C.o::l) K (aj L b (J ⟨C,m8 C c,[C.o.bo],H,[T4 C.o,bot]⟩)) r j (b+1) y->Kp a L w (aj L b (J ⟨C,m8 C c,[C.o.bo],H,[T4 C.o,bot]⟩)) y->X V f (C.o::l) j (b+1) 0 (G (t.finish (pO C.o)) v) y)(E:Grown w m)(n:x5 w.heap.size ⟨⟨b,d,B 0,B 1,B 2⟩,c,h,A,i,a.bk,a.bf,a.bs,a.bd⟩ m) :
  X V f (⟨b,d,B 0,B 1,B 2⟩::l) g b 0 (G ((aB 49).at ⟨#[Po (J (O a.bk 0 Q)),Y U c,.agg #[Y U h,Y U A,Y U i],Ud,Ud,u,Po Q,Po (J (O d 0 Q)),.chan (J (B 0)),.chan (J (B 1)),.chan (J (B 2)),Po (J (O a.bk 0 Q)),Y U c,.agg #[Y U h,Y U A,Y U i],.agg #[Y U h,Y U A,Y U i,Y U 0,Y U 0],.agg (wB a.bk c h A i B),Po (J (O d 0 Q)),Ud,Ud],[]⟩ [.code Ak]) (t::v)) m:=by
 have z:∀e H j,Co a (⟨b,d,B 0,B 1,B 2⟩::l) K (aj L b (J ⟨⟨⟨b,d,B 0,B 1,B 2⟩,c,h,A,i,a.bk,a.bf,a.bs,a.bd⟩,m8 ⟨⟨b,d,B 0,B 1,B 2⟩,c,h,A,i,a.bk,a.bf,a.bs,a.bd⟩ c,[d],H,[T4 ⟨b,d,B 0,B 1,B 2⟩,bot]⟩)) r j (b+1) (m.at e)->Kp a L w (aj L b (J ⟨⟨⟨b,d,B 0,B 1,B 2⟩,c,h,A,i,a.bk,a.bf,a.bs,a.bd⟩,m8 ⟨⟨b,d,B 0,B 1,B 2⟩,c,h,A,i,a.bk,a.bf,a.bs,a.bd⟩ c,[d],H,[T4 ⟨b,d,B 0,B 1,B 2⟩,bot]⟩)) (m.at e)->X V f (⟨b,d,B 0,B 1,B 2⟩::l) j (b+1) 0 (G (t.finish (Po (J (O d 0 Q)))) v) (m.at e):=λe H j o p=>P (m.at e) ⟨⟨b,d,B 0,B 1,B 2⟩,c,h,A,i,a.bk,a.bf,a.bs,a.bd⟩ H j Z Z Z Z ⟨Z,Z,Z,Z⟩ Z o p;have hc:=E.clear;unfold Ak;simp only[Tryz.f49,pO]at *;refine vp (st:=true) ?_;show l6 V true (DL true (fb (⟨b,d,B 0,B 1,B 2⟩::l))) _ _ (m.at m.drawn);generalize m.drawn=dz;refine B6 (λe=>?_) _;refine m9 (λe=>?_) _;simp only[rz,ix,Nat.reduceAdd];refine mo Z Z λe D q=>?_;go_simp;refine q _ _ ⟨Z,?_⟩;clear q D;refine .stop<|XG (C:=⟨⟨b,d,B 0,B 1,B 2⟩,c,h,A,i,a.bk,a.bf,a.bs,a.bd⟩) F (E.at e) ⟨n.bo,n.ch,n.row,n.chan,n.ne⟩ ⟨Z,Z,Z,Z⟩ Z I Z N Z (λx=>(stepG_spawn (d:=dcall 88 #[pO ⟨b,d,B 0,B 1,B 2⟩]) (w':=(m.at e).at x) Z Z Zb (by simp[go_sem,Ex,resolve,lQ,dcall,dp]) Z).trans (congrArg (λR=>GStep.spawn _ _ _ R) (listed_none (by simp[go_sem,Ex,resolve,lQ,dp])))) λx H j o p=>?_;have S:=z x H j o p;have T:∀e,X V f (⟨b,d,B 0,B 1,B 2⟩::l) j (b+1) 0 (G (t.finish (Po (J (O d 0 Q)))) v) (m.at e):=λe=>z e H j (o.at e) (λk W=>by let⟨s,M⟩:=p k W;exact⟨⟨s.lt,s.nf,s.ns,s.nd,s.own⟩,M⟩);clear z S o p;refine vp (st:=true) ?_;show l6 V true (DL true (fb (⟨b,d,B 0,B 1,B 2⟩::l))) _ _ (m.at x);simp only[dK];refine i8 (λe=>?_) _;refine B6 (λe=>?_) _;refine m9 (λe=>?_) _;simp only[rz,ix,Nat.reduceAdd];(iterate 2(refine mo Z Z λe D q=>?_;go_simp;refine q _ _ ⟨Z,?_⟩;clear q D));refine i8 (λe=>?_) _;refine uL (λe=>?_) _;exact X6 (v:=Po (J (O d 0 Q))) Z Z Tryz.func49 (kT (t:=6) Z _) (w:=m) (λe=>.stop (T e)) _
theorem Yj(p:Co a l K L r g b w)(h0:0<b)(hp:c<K.nS)(k m B:Int){z:Fm'}(E:∀F (C:Ctx) H T,C.slot=(c:Int)->C.kd=k->C.A=m->C.B=B->uK a C->C.o.gid=b->Co a (C.o::l) K (aj L b (J ⟨C,m8 C c,[C.o.bo],H,[T4 C.o,bot]⟩)) r T (b+1) F->Kp a L w (aj L b (J ⟨C,m8 C c,[C.o.bo],H,[T4 C.o,bot]⟩)) F->X V f (C.o::l) T (b+1) 0 (G (z.finish (pO C.o)) A) F) :
  X V f l g b 0 (G (ay V 49 #[Po (J (O a.bk 0 Q)),Y U c,.agg #[Y U k,Y U m,Y U B]] .normal) (z::A)) w:=by
 have c':∀W,Grown w W->W.heap[w.heap.size]?=J (.cells #[Y U k,Y U m,Y U B] 27 (0,0))->W.heap.size=w.heap.size+1->∀d,X V f l g b 0 (G ((aB 49).at ⟨#[Po (J (O a.bk 0 Q)),Y U c,.agg #[Y U k,Y U m,Y U B],Ud,Ud,Po (J (O w.heap.size 0 Q)),Po Q,Ud,Ud,Ud,Ud,Ud,Ud,Ud,Ud,Ud,Ud,Ud,Ud],[]⟩ [.code (.region 1 G9 true),.code Ak]) (z::A)) (W.at d):=by
  intro W v I M d;have N:∀(j:Nat) (x:Vu),(#[dO .i64 k,Y U m,Y U B]:Array Vu)[j]?=J x->W.cell? (O w.heap.size j Q)=J x:=λj x h=>by simp only[aD,I];simpa using h
  refine SL (W.heap.size+3) (by show W.heap.size<=_;omega)<|PB (st:=false) (λe=>by cases e) ?_;show l6 V true (DL false (fb l)) _ _ (W.at d);refine Bm (λt d=>?_) d;refine Ub (bk:=a.bk) (bx:=w.heap.size) (bo:=W.heap.size+3) (p:=c) (kd:=k) (A:=m) (B:=B) (W:=W) (tb:=#[Po (J (O a.bk 0 Q)),Y U c,.agg #[Y U k,Y U m,Y U B],Ud,Ud,Po (J (O w.heap.size 0 Q)),Po Q,Ud,Ud,Ud,Ud,Ud,Ud,Ud,Ud,Ud,Ud,Ud,Ud]) Z Z Z Z Z Za (N 0 _ Z) (N 1 _ Z) (N 2 _ Z) (λn w2 d' h' D f' d=>?_) _ _ (⟨#[Po (J (O a.bk 0 Q)),Y U c,.agg #[Y U k,Y U m,Y U B],Ud,Ud,Po (J (O w.heap.size 0 Q)),Po Q,Ud,Ud,Ud,Ud,Ud,Ud,Ud,Ud,Ud,Ud,Ud,Ud],[]⟩,W) _ (xT Zd G9 t) ⟨λ_=>0,pE.start _ _ _,Grown.refl v.clear,?_,⟨λi q h=>?_,λi j q hj i' h=>?_⟩,λh=>?_,λh=>?_,λj _=>V9 _ _⟩ d
  .generalize j':W.heap.size+3=o at *;rw[show fill G9 (xr a.bk c k m B n o) #[Po (J (O a.bk 0 Q)),Y U c,.agg #[Y U k,Y U m,Y U B],Ud,Ud,Po (J (O w.heap.size 0 Q)),Po Q,Ud,Ud,Ud,Ud,Ud,Ud,Ud,Ud,Ud,Ud,Ud,Ud]=#[Po (J (O a.bk 0 Q)),Y U c,.agg #[Y U k,Y U m,Y U B],Ud,Ud,Po (J (O w.heap.size 0 Q)),Po Q,Po (J (O o 0 Q)),.chan (J (n 0)),.chan (J (n 1)),.chan (J (n 2)),Po (J (O a.bk 0 Q)),Y U c,.agg #[Y U k,Y U m,Y U B],.agg #[Y U k,Y U m,Y U B,Y U 0,Y U 0],.agg (wB a.bk c k m B n),Po (J (O o 0 Q)),Ud,Ud] from by kernel_rfl];refine i8 (λd=>?_) _;refine .stop ?_;have g':w.heap.size<=o:=by omega
   have hN:x5 w.heap.size ⟨⟨b,o,n 0,n 1,n 2⟩,c,k,m,B,a.bk,a.bf,a.bs,a.bd⟩ (w2.at d):=by
    have P:=λi q=>D.is i q nQ;refine⟨g',⟨by grind,by grind,by grind⟩,⟨141,f'⟩,λx E=>?_,D.ne 0 1 Za Za Za nQ nQ,D.ne 0 2 Za Za Za nQ nQ,D.ne 1 2 Za Za Za nQ nQ⟩;rcases E with rfl|rfl|rfl
    .exact(P 0 Za).2.2
    .exact(P 1 Za).2.2
    .exact(P 2 Za).2.2
   refine Uc ⟨b,o,n 0,n 1,n 2⟩ hN.ko (λi s x q R e=>?_) (RG p h0 hp k m B z A E ((v.trans d').at d) hN)
   by_cases ei:i=0
   .subst ei;have:=p.qE s x q R
    grind
   .have e':o=x:=e;rcases p.CI ei q with⟨u,hu,rfl⟩|hf
    case inr=>have:=((p.sY i s hf).2.2.2 x R).1;omega
    have:=p.qk hu (c:=x) (by rcases X7 R with h|h;exact .inl h;exact .inr (.inr h));omega
  .show W.heap.size=W.heap.size+cnt _;unfold cnt;rw[V9,V9,V9];rfl
  .rw[V9]at h;cases h
  .rw[V9]at h;cases h
  .rw[V9]at h;cases h
  .rw[V9]at h;cases h
 rw[RI,Ur];unfold HH;simp only[Tryz.f49];refine vp (st:=true) ?_;show l6 V true (DL true (fb l)) _ _ (w.at w.drawn);generalize w.drawn=dz;have hc:=p.env.fit.clear;refine B6 (λd=>?_) _;refine m9 (λd=>?_) _;simp only[rz,ix,Nat.reduceAdd];refine C5 Z Z Zb (λd S y=>?_) _;go_simp;refine y _ _ ⟨y8 λe he=>?_,?_⟩
 .have hm:=aZ he;simp[go_sem]at hm
 clear y S;refine Nt nQ hc λW v I M d=>?_;have k':=v.clear;refine mo Z Z λd S y=>?_;go_simp;refine y _ _ ⟨Z,?_⟩;clear y S;refine i8 (λd=>?_) _;refine B6 (λd=>?_) _;exact .stop (c' W v I M _)
end
section
open Go.Conc Go.RowKit
attribute [local go_sem ↓] Go.wp_at_zero Go.wp_at_succ
structure Lb where
 bl:Nat
 bu:Nat
 bn:Nat
def sw:Option nY->Vu
 | none=>Po Q
 | some o=>pO o
def pR(w:Wd)(b n:Nat)(f:Nat->Vu):Prop:=∃c t,w.heap[b]?=J (.cells c t (0,0))/\c.size=n/\∀p,p<n->c[p]?=J (f p)
theorem pR.cell(h:pR l a b K){p:Nat}(e:p<b):l.cell? (O a p Q)=J (K p):=by
 let⟨c,t,d,f,g⟩:=h;simp only[aD,d]
 grind
theorem pR.of(h:pR l a b K)(e:m.heap[a]?=l.heap[a]?):pR m a b K:=by
 let⟨c,t,d,f,g⟩:=h;exact⟨c,t,by rw[e];exact d,f,g⟩
theorem pR.lt(h:pR l a b K):a<l.heap.size:=by
 let⟨c,t,d,e,f⟩:=h
 grind
structure rp (w:Wd) (b:Lb) (bk n B0:Nat) (U:Nat->Option nY) (V:Nat->Vu) (N:Nat->Nat) (Xs:Nat->List Vu):Prop where
 k0:w.cell? (O b.bl 0 Q)=J (Po (J (O bk 0 Q)))
 k1:w.cell? (O b.bl 1 Q)=J (Sc (J (O b.bu 0 Q)) n n)
 k2:w.cell? (O b.bl 2 Q)=J (Sc (J (O b.bn 0 Q)) n n)
 u:pR w b.bu n (λp=>sw (U p))
 d:pR w b.bn n V
 own:∀p,p<n->w.ownsRow B0 92 5 (V p) (N p) (Xs p)
 pX:∀p q,p<n->q<n->p≠q->(V p).ownBlock=Q\/(V p).ownBlock≠(V q).ownBlock
 ne:b.bl≠b.bu/\b.bl≠b.bn/\b.bu≠b.bn/\b.bl<B0/\b.bu<B0/\b.bn<B0
 small:n<=6
theorem KW(v:Wd)(a c n:Nat)(s:Int)(f:v.cell? (O a 1 Q)=J (Sc (J (O c 0 Q)) n n)) :
  aG V 48 #[Po (J (O a 0 Q)),Y U s] v λe d=>e=.returned (Bo (decide (0<=s)&&decide (s<n)))/\d=v:=by
 go_enter iW,Tryz.ntmps48
 by_cases b:0<=s
 .have e:(decide (0<=s)&&decide (s<(n:Int)))=decide (s<(n:Int)):=by simp[b]
  rw[e]
  go_wp2_with fail
  go_ret
  exact⟨Z,Z⟩
 .have e:(decide (0<=s)&&decide (s<(n:Int)))=false:=by simp[b]
  rw[e]
  go_wp2_with fail
  go_ret
  exact⟨Z,Z⟩
end
section
open Go.Conc Go.RowKit
def pc(a A B e x:Int):List dQ:=[Y U a,Y U A,Y U B,Y U e,Y U x]
structure Mw (kb:Kb) (l:List nY) (L:Nat->Option Lv) (w:Wd) (k:Nat):Prop where
 mn:Mn kb L w k
 bk:k≠kb.bk
 oT:k≠0
 rc:∀o∈l,o.bo≠k
variable{kb:Kb}{l:List nY}{K:aa}{L:Nat->Option Lv}{r:Nat}{z:Nat->Option ic}{y:Nat}{w w':Wd}
theorem Co.soft(a:Co kb l K L r z y w):∀k,w.heap.size<=k->fb l k=0:=λk c=>U7 λo b e=>by have:=KO.lt a.env.ko b;omega
theorem Co.wrote(a:Co kb l K L r z y w)(x:w.heap.size<=w'.heap.size)(D:Clear w')(b:∀k,k<w.heap.size->¬Mw kb l L w k->w'.heap[k]?=w.heap[k]?):Co kb l K L r z y w':=by
 have R:=a.env.rep;have S:w'.heap[kb.bk]?=w.heap[kb.bk]?:=b _ R.lk λh=>h.bk Z;have B:w'.heap[kb.bf]?=w.heap[kb.bf]?:=b _ R.lf λh=>h.mn.nf Z;have T:w'.heap[kb.bs]?=w.heap[kb.bs]?:=b _ R.ls λh=>h.mn.ns Z;have W:w'.heap[kb.bd]?=w.heap[kb.bd]?:=b _ R.ld λh=>h.mn.nd Z;have F:w'.heap[0]?=w.heap[0]?:=b _ a.env.oT.lt λh=>h.oT Z;have j:∀o∈l,w'.heap[o.bo]?=w.heap[o.bo]?:=λo j=>b _ (KO.lt a.env.ko j) λh=>h.rc o j Z
 have E:wV kb l K w':=⟨R.same x (λk _ h=>by rcases h with rfl|rfl|rfl|rfl<;>assumption),a.env.oT.same F,a.env.inv,⟨λi m=>by
  obtain⟨o,u,rfl⟩:=II m;let⟨c,t,h⟩:=a.env.fit.soft _ m
  exact⟨c,t,by rw[j o u];exact h⟩,D⟩,λo u=>by
  let⟨c,t,p,q⟩:=a.env.ko o u
  exact⟨c,t,by rw[j o u];exact p,q⟩,a.env.ap⟩
 refine⟨E,a.top,a.gid,a.rZ,λg v d=>?_,a.wait,a.qV,a.none,λs c p q=>Zg (a.qE s c p q) x,λg v d c e=>?_,a.qM,a.pZ,a.apart,λg s B=>by
  let⟨H,I,N,C⟩:=a.sY g s B
  exact⟨H,I,N,λc e=>⟨Zg (C c e).1 x,(C c e).2⟩⟩⟩
 .let⟨f,n,A⟩:=a.at_ g v d;exact⟨f,n,A.other ((a.rZ g v d).env E) λi m=>b i (A.lt m) λh=>(h.mn.own g v d).1 m⟩
 .let⟨⟨P,k,p⟩,q⟩:=a.chan g v d c e;exact⟨⟨P,k,by rw[b c (a.qk d e) λh=>(h.mn.own g v d).2 e];exact p⟩,q⟩
theorem Mn.grow(h:Mn kb L w a)(b:w.heap.size<=w'.heap.size):Mn kb L w' a:=⟨Zg h.lt b,h.nf,h.ns,h.nd,h.own⟩
theorem Mw.grow(h:Mw kb l L w a)(b:w.heap.size<=w'.heap.size):Mw kb l L w' a:=⟨h.mn.grow b,h.bk,h.oT,h.rc⟩
theorem Co.new(a:Co kb l K L r z y w){k:Nat}(i:w.heap.size<=k)(c:k<w'.heap.size):Mw kb l L w' k:=by
 have R:=a.env.rep;have j:kb.bk<w.heap.size:=R.lk;have m:kb.bf<w.heap.size:=R.lf;have n:kb.bs<w.heap.size:=R.ls;have p:kb.bd<w.heap.size:=R.ld;have q:0<w.heap.size:=a.env.oT.lt;exact⟨⟨c,by omega,by omega,by omega,λg v b=>⟨λd=>by have:=a.sO b d;omega,λf=>by have:=a.qk b f;omega⟩⟩,by omega,by omega,λo h e=>by have:=KO.lt a.env.ko h;omega⟩
theorem Mw.sf(h:Mw kb l L w a):fb l a=0:=U7 h.rc
theorem Hj(h:a<=4398046511104):aT (a+1) a*40<=281474976710656:=by
 have:aT (a+1) a<=7036874417766:=by
  unfold aT;split
  .omega
  .split
   .omega
   .rw[growBy_four]
    repeat' split
    all_goals omega
 omega
structure pA (kb:Kb) (l:List nY) (L:Nat->Option Lv) (w:Wd) (b:Lb) (n B0:Nat) (U:Nat->Option nY) (V:Nat->Vu) (N:Nat->Nat) (Xs:Nat->List Vu):Prop where
 is:rp w b kb.bk n B0 U V N Xs
 qS:Mw kb l L w b.bl
 qK:Mw kb l L w b.bu
 rO:Mw kb l L w b.bn
 ry:∀p,p<n->∀g,(V p).ownBlock=J g->Mw kb l L w g
 b0:B0<=b.bl+1
structure oY (kb:Kb) (l:List nY) (L:Nat->Option Lv) (w:Wd) (b:Lb) (n B0:Nat) (U:Nat->Option nY) (V:Nat->Vu) (N:Nat->Nat) (Xs:Nat->List Vu):Prop where
 m:pA kb l L w b n B0 U V N Xs
 live:∀p,p<n->∀o,U p=J o->∃v,L o.gid=J v/\v.C.o=o/\v.C.slot=p
theorem rp.same{w w':Wd}{f:Lb}{e:Nat->Option nY}{d:Nat->Vu}{j:Nat->List Vu}(h:rp w f a b c e d B j)(i:w'.heap[f.bl]?=w.heap[f.bl]?)(m:w'.heap[f.bu]?=w.heap[f.bu]?)(n:w'.heap[f.bn]?=w.heap[f.bn]?)(o:∀p,p<b->∀g,(d p).ownBlock=J g->w'.heap[g]?=w.heap[g]?):rp w' f a b c e d B j :=
 ⟨(Zf (w:=w) i).trans h.k0,(Zf (w:=w) i).trans h.k1,(Zf (w:=w) i).trans h.k2,h.u.of m,h.d.of n,λp k=>j5 (h.own p k) (o p k),h.pX,h.ne,h.small⟩
variable{b:Lb}{n I:Nat}{H:Nat->Option nY}{E:Nat->Vu}{N:Nat->Nat}{P:Nat->List Vu}
theorem pA.grown(h:pA kb l L w b n I H E N P)(g:Grown w w'):pA kb l L w' b n I H E N P :=
 ⟨h.is.same (g.old _ h.qS.mn.lt) (g.old _ h.qK.mn.lt) (g.old _ h.rO.mn.lt) λp a x c=>g.old _ (h.ry p a x c).mn.lt,h.qS.grow g.size,h.qK.grow g.size,h.rO.grow g.size,λp a x c=>(h.ry p a x c).grow g.size,h.b0⟩
theorem oY.grown(h:oY kb l L w b n I H E N P)(g:Grown w w'):oY kb l L w' b n I H E N P:=⟨h.m.grown g,h.live⟩
theorem Mw.kp{c:Nat->Option Lv}(h:Mw kb l L w a)(d:Kp kb L w c w'):Mw kb l c w' a:=⟨(d a h.mn).1,h.bk,h.oT,h.rc⟩
theorem pA.turn{e:Nat->Option Lv}(h:pA kb l L w b n I H E N P)(a:Kp kb L w e w'):pA kb l e w' b n I H E N P :=
 ⟨h.is.same (a _ h.qS.mn).2 (a _ h.qK.mn).2 (a _ h.rO.mn).2 λp c x d=>(a _ (h.ry p c x d).mn).2,h.qS.kp a,h.qK.kp a,h.rO.kp a,λp c x d=>(h.ry p c x d).kp a,h.b0⟩
def qt(H:Nat->Option nY)(p:Nat):Nat->Option nY:=λq=>if q=p then Q else H q
def qg{a:Type}(E:Nat->a)(p:Nat)(x:a):Nat->a:=λq=>if q=p then x else E q
def rY(b:Lb)(E:Nat->Vu)(p k:Nat):Prop:=k=b.bu\/k=b.bn\/(E p).ownBlock=J k
def rR(H:Nat->Option nY)(p:Nat)(o:nY):Nat->Option nY:=λq=>if q=p then J o else H q
theorem Mw.born{c:Nat->Option Lv}{C:Ctx}{d:Lv}(h:Mw kb l L w a)(g:Kp kb L w c w')(i:c y=J d)(j:C.o.bo∈d.pv):Mw kb (C.o::l) c w' a :=
 ⟨(g a h.mn).1,h.bk,h.oT,λo f e=>by
  rcases ae.1 f with rfl|f
  .exact((g a h.mn).1.own y d i).1 (e▸j)
  .exact h.rc o f e⟩
theorem pA.born{n:Nat}{e:Nat->Option Lv}{C:Ctx}{g:Lv}(h:pA kb l L w b n I H E N P)(a:Kp kb L w e w')(d:e y=J g)(c:C.o.bo∈g.pv):pA kb (C.o::l) e w' b n I H E N P :=
 ⟨h.is.same (a _ h.qS.mn).2 (a _ h.qK.mn).2 (a _ h.rO.mn).2 λp c x f=>(a _ (h.ry p c x f).mn).2,h.qS.born a d c,h.qK.born a d c,h.rO.born a d c,λp i x f=>(h.ry p i x f).born a d c,h.b0⟩
theorem pR.put{b n:Nat}{f:Nat->Vu}{w w':Wd}(h:pR w b n f)(i:∃c t,w'.heap[b]?=J (.cells c t (0,0))/\c.size=n)(j:w'.cell? (O b a Q)=J u)(k:∀q,q≠a->w'.cell? (O b q Q)=w.cell? (O b q Q)):pR w' b n (λq=>if q=a then u else f q):=by
 let⟨c,t,g,m⟩:=i;have e:∀q,w'.cell? (O b q Q)=c[q]?:=λq=>by simp[aD,g]
 refine⟨c,t,g,m,λq o=>?_⟩;rw[←e]
 by_cases d:q=a
 .subst d;simpa using j
 .simp only[nR d];rw[k q d];exact h.cell o
variable{C:Nat->Nat}{R:Bool}
theorem Dh(c:Fit C w)(d:∀k,w.heap.size<=k->C k=0):zt C [] 0 [] [] w:=⟨λe f=>(by cases f),λi a=>(by cases a),λi j a=>(by cases a),λi _ a=>(by cases a),c,d⟩
theorem LF{n:Nat}(j:Fit C w)(m:∀k,w.heap.size<=k->C k=0)(g:w.cell? (O a 1 Q)=J (Sc (J (O d 0 Q)) n n))(s:Int):py R C 48 #[Po (J (O a 0 Q)),Y U s] w λx w'=>x=Bo (decide (0<=s)&&decide (s<(n:Int)))/\oh C [] w w':=by
 have o:a<w.heap.size:=aL _ _ g;refine y7 (sz:=16) (ρ:=[]) (m:=[]) (W:=[]) (ro:=0) [.c (.v (Po (J (O a 0 Q)))),.c (.v (Y U s))] (Dh j m) (λs h=>?_) iW Z Z Z λStop u v A M i=>?_
 .simp only[ae,ai,or_false]at h;rcases h with rfl|rfl<;>trivial
 refine iN 9 0 [] M Z Z nQ λB D p=>?_;have f:=p.oV 0 [0,1,7] Z Z
 cases e:decide (0<=s) with
 | false =>
  rw[e]at f;refine iN 200 0 [] f Z Z nQ λq t c=>B3 c iW Z Z Z<|i _ _ ⟨by rw[e];rfl,c.hJ⟩
 | true =>
  rw[e]at f;refine iN 200 0 [[Sc (J (O d 0 Q)) n n]] f Z Z ⟨nQ,⟨o,by simp,g⟩⟩ λq t c=>B3 c iW Z Z Z<|i _ _ ⟨by rw[e];rfl,c.hJ⟩
variable{v:Lv}
theorem Tm{T:List Vu}(W:Co kb l K L r z y w)(f:pA kb l L w b n I H E N P)(s:a<n)(c':∀q,q<n->q≠a->∀o,H q=J o->∃v,L o.gid=J v/\v.C.o=o/\v.C.slot=q)(p:w.heap.size<=m.heap.size)(D:∀k,k<w.heap.size->k≠b.bu->k≠b.bn->(E a).ownBlock≠J k->m.heap[k]?=w.heap[k]?)(d':pR m b.bu n (λq=>if q=a then Po Q else sw (H q)))(f':pR m b.bn n (λq=>if q=a then Sc (J (O c 0 Q)) (N a+1) d else E q))(G:m.ownsRow I 92 5 (Sc (J (O c 0 Q)) (N a+1) d) (N a+1) (P a++T))(M:(E a).ownBlock=J c\/w.heap.size<=c) :
  Co kb l K L r z y m/\oY kb l L m b n I (qt H a) (qg E a (Sc (J (O c 0 Q)) (N a+1) d)) (qg N a (N a+1)) (qg P a (P a++T)):=by
 let⟨g',h',l',m',n',p'⟩:=f.is.ne;have F:∀q,q<n->∀x,(E q).ownBlock=J x->x≠b.bu/\x≠b.bn/\x≠b.bl:=λq g x i=>by have:=(j8 (f.is.own q g) i).1;exact⟨by omega,by omega,by omega⟩
 have i':Co kb l K L r z y m:=W.wrote p nQ λk h0 h=>D k h0 (λe=>h (e▸f.qK)) (λe=>h (e▸f.rO)) λe=>h (f.ry a s k e);have S:m.heap[b.bl]?=w.heap[b.bl]?:=D _ f.qS.mn.lt g' h' λe=>(F a s _ e).2.2 Z;have j':c<m.heap.size:=(j8 G Z).2;refine⟨i',?_⟩;refine⟨⟨⟨(Zf (w:=w) S).trans f.is.k0,(Zf (w:=w) S).trans f.is.k1,(Zf (w:=w) S).trans f.is.k2,?_,f',λq g=>?_,λq u g X a'=>?_,f.is.ne,f.is.small⟩,f.qS.grow p,f.qK.grow p,f.rO.grow p,λq g x i=>?_,f.b0⟩,λq g o' A=>?_⟩
 .let⟨k',t',a1,a2,a3⟩:=d';refine⟨k',t',a1,a2,λq g=>?_⟩;rw[a3 q g]
  by_cases e:q=a
  .simp only[qt,e,if_true];rfl
  .simp only[qt,e,if_false]
 .by_cases e:q=a
  .subst e;simp only[qg,if_true];exact G
  .simp only[qg,e,if_false];refine j5 (f.is.own q g) λx i=>D x (f.ry q g x i).mn.lt (F q g x i).1 (F q g x i).2.1 λh=>?_;rcases f.is.pX q a g s e with j|j
   .rw[i]at j;cases j
   .exact j (i.trans h.symm)
 .have b':∀q,q<n->q≠a->(E q).ownBlock≠J c:=λq g e h=>by
   rcases M with j|j
   .rcases f.is.pX q a g s e with B|B
    .rw[h]at B;cases B
    .exact B (h.trans j.symm)
   .have:=(f.ry q g c h).mn.lt;omega
  by_cases e:q=a
  .have t:u≠a:=λh=>a' (e.trans h.symm);simp only[qg,e,t,if_true,if_false];exact .inr (λh=>b' u X t h.symm)
  .by_cases t:u=a
   .simp only[qg,e,t,if_true,if_false];exact .inr (b' q g e)
   .simp only[qg,e,t,if_false];exact f.is.pX q u g X a'
 .by_cases e:q=a
  .simp only[qg,e,if_true]at i;obtain rfl:c=x:=Ze i;rcases M with h|h
   .exact(f.ry a s c h).grow p
   .exact W.new Za j'
  .simp only[qg,e,if_false]at i;exact(f.ry q g x i).grow p
 .by_cases e:q=a
  .simp only[qt,e,if_true]at A;cases A
  .simp only[qt,e,if_false]at A;exact c' q g e o' A
theorem CK:pH 88 92 5 40:=⟨by kernel_rfl,by kernel_rfl⟩
def piK:List bm:=match Tryz.f21.body with
 | some (.seq _ (.seq _ (.seq _ (.seq _ (.seq _ (.seq _ (.seq r e)))))))=>[.code r,.code e]
 | _=>[]
variable{S:Nat}{i:Fm'}{R:List Fm'}{Stop:Gr->Wd->Prop}
theorem Xr{b':db}{kd A B er va:Int}(X:a<n)(m:rp w b S n I H E N P)(hN:N a<=4398046511104)(sf:∀g,(g=b.bn\/(E a).ownBlock=J g)->C g=0)(hB:I<=w.heap.size)(l':w.rangeAt d 5 (pc kd A B er va))(u':(E a).ownBlock≠J d)(M:fx C [] 0 w [] [] 47 [(0,.c (.v (Po (J (O b.bl 0 Q))))),(1,.c (.v (Y U a))),(6,.c (.v (Po (J (O d 0 Q)))))] b' w)(hx:∀w' g c,w.heap.size<=w'.heap.size->Fit C w'->(∀k,k<w.heap.size->k≠b.bn->(E a).ownBlock≠J k->w'.heap[k]?=w.heap[k]?)->pR w' b.bn n (λq=>if q=a then Sc (J (O g 0 Q)) (N a+1) c else E q)->w'.ownsRow I 92 5 (Sc (J (O g 0 Q)) (N a+1) c) (N a+1) (P a++pc kd A B er va)->((E a).ownBlock=J g\/w.heap.size<=g)->iv V true true C Stop (G (i.finish (.tuple #[Bo true,Y U 0])) R) w'):iv V true true C Stop (G ((aB 21).at b' piK) (i::R)) w:=by
 have n6:=m.small;obtain⟨V',W',X',m',Y',v'⟩:=m.ne;have ol:∀g,(E a).ownBlock=J g->I<=g/\g<w.heap.size/\C g=0:=λg p=>⟨(j8 (m.own a X) p).1,(j8 (m.own a X) p).2,sf g (.inr p)⟩
 have x':d<w.heap.size:=aL _ _ (l' 0 _ Z);have n':b.bl<w.heap.size:=aL _ _ m.k2;have o':=m.d.lt;have j':∀k,k<I->k∉(E a).ownBlock.toList:=λk t D=>by
  cases e:(E a).ownBlock with
  | none=>rw[e]at D;cases D
  | some g=>rw[e]at D;obtain rfl:=Zi D;have:=(ol _ e).1;omega
 have Mr:=M.pI (W':=(E a).ownBlock.toList) Zc;generalize g':w.alloc (.cells (pc kd A B er va).toArray 92 (0,0))=W;have A1:oh C [] w W:=by rw[←g'];exact oh.alloc M.fit _
 have n1:W.heap[w.heap.size]?=J (.cells (pc kd A B er va).toArray 92 (0,0)):=by rw[←g'];exact cE _ _
 have s1:W.heap.size=w.heap.size+1:=by rw[←g'];simp
 have M1:=Mr.still A1;have M2:∀ {w':Wd} {g c:Nat},CD I C W w' (E a) (N a+1) (P a++pc kd A B er va) g c->fx C (E a).ownBlock.toList 0 w [] [] 47 _ b' w':=λ{w' g c} u=>M1.to u.size (λj hj=>(by cases hj)) (λk t hn=>u.old k Za λp=>hn (by rw[p];simp)) u.fit;refine vz (V:=(λF=>[J (.c (.v (Po (J (O b.bl 0 Q))))),J (.c (.v (Po (J (O b.bl 0 Q))))),J (.c (.v (Po (J (O b.bl 2 Q))))),J (.c (.v (Sc (J (O b.bn 0 Q)) n n))),J (.c (.v (Y U a))),J (.c (.v (Po (J (O b.bl 0 Q))))),J (.c (.v (Po (J (O b.bl 0 Q))))),J (.c (.v (Po (J (O b.bl 2 Q))))),J (.c (.v (Sc (J (O b.bn 0 Q)) n n))),J (.c (.v (Y U a))),J (.c (.v (Po (J (O b.bn (0+(a:Int).toNat*1) Q))))),J (.c (.v (E a))),J (.c (.v (Po (J (O d 0 Q))))),J (.c (.v (Po (J (O d 0 Q))))),J (.c (.v (Po (J (O d 5 Q))))),J (.g [.v (Y U kd),.v (Y U A),.v (Y U B),.v (Y U er),.v (Y U va)]),F 0,F 1,J (.c (.v (Po (J (O b.bn (0+(a:Int).toNat*1) Q))))),F 2])) (C':=(((((True/\sM w (E a).ownBlock.toList (O b.bl 2 Q) (Sc (J (O b.bn 0 Q)) n n))/\sM w (E a).ownBlock.toList (O b.bl 2 Q) (Sc (J (O b.bn 0 Q)) n n))/\(0<=(a:Int)/\(a:Int)<n))/\sM w (E a).ownBlock.toList (O b.bn (0+(a:Int).toNat*1) Q) (E a))/\vO w (E a).ownBlock.toList d 5 [Y U kd,Y U A,Y U B,Y U er,Y U va])/\(0<=(a:Int)/\(a:Int)<n)) [(16,Q),(17,Q),(19,Q)] [[Sc (J (O b.bn 0 Q)) n n],[Sc (J (O b.bn 0 Q)) n n],[E a],[Y U kd,Y U A,Y U B,Y U er,Y U va]] true (λs F y' w'=>y'=[]/\((s=0/\w'=w)\/(s=1/\w'=W/\F 0=J (.c (.v (Sc (J (O w.heap.size 0 Q)) 1 1))))\/(s=2/\∃g c,CD I C W w' (E a) (N a+1) (P a++pc kd A B er va) g c/\F 1=J (.c (.v (Sc (J (O g 0 Q)) (N a+1) c))))\/(s=3/\∃g c wm,CD I C W wm (E a) (N a+1) (P a++pc kd A B er va) g c/\oh C [b.bn] wm w'/\pR w' b.bn n (λq=>if q=a then Sc (J (O g 0 Q)) (N a+1) c else E q)))) Mr Z (λ_=>by kernel_rfl) (λ_=>by kernel_rfl) Z Zd ⟨⟨⟨⟨⟨⟨nQ,⟨n',j' _ m',m.k2⟩⟩,⟨n',j' _ m',m.k2⟩⟩,by omega⟩,⟨o',j' _ v',by simpa using m.d.cell X⟩⟩,⟨x',λD=>u' (by cases e:(E a).ownBlock with|none=>rw[e]at D;cases D|some g=>rw[e]at D;rw[Zi D]),l'⟩⟩,by omega⟩ (λs F p' w' a' z' f h1 h2=>?_) ⟨Z,.inl ⟨Z,Z⟩⟩ (λs j g T F o a' w' p' rest ho f Ma rd hn=>?_) λF p' a10 q' f A' B'=>?_
 .obtain⟨he,f⟩:=f;obtain rfl:=Zk he;rcases f with⟨_,rfl⟩|⟨_,rfl,_⟩|⟨_,g,c,u,_⟩|⟨rfl,_⟩
  .exact Mr.bare h1 h2
  .exact M1.bare h1 h2
  .exact(M2 u).bare h1 h2
  .exact absurd (z' Z) (iO 3)
 .obtain⟨he,f⟩:=f;obtain rfl:=Zk he
  match s,T with
  | 0,T =>
   obtain⟨rfl,rfl⟩:=ax (Ze T);rcases f with⟨_,rfl⟩|⟨h,_⟩|⟨h,_⟩|⟨h,_⟩
   case inr.inl=>cases h
   case inr.inr.inl=>cases h
   case inr.inr.inr=>cases h
   obtain rfl:=Ze ho;refine Ep (cells:=pc kd A B er va) CK ⟨by simp[pc],by simp[pc]⟩ Z Z Z (rd _ _ Z) Z ?_;rw[g'];exact hn [] W (J (.c (.v (Sc (J (O w'.heap.size 0 Q)) 1 1)))) ⟨by simp,.inr (.inl ⟨Z,Z,Z⟩)⟩ (.inl Z) (λsv h=>by obtain rfl:=Ze h;trivial)
  | 1,T =>
   obtain⟨rfl,rfl⟩:=ax (Ze T);rcases f with⟨h,_⟩|⟨_,rfl,hx0⟩|⟨h,_⟩|⟨h,_⟩
   case inl=>cases h
   case inr.inr.inl=>cases h
   case inr.inr.inr=>cases h
   obtain rfl:=Ze ho;refine Cs (V:=E a) (cells:=pc kd A B er va) CK Z (λu hu=>?_) Za (Hj hN) Z Z Z (rd (.tmp 39) (.c (.v (E a))) Z) (rd (.tmp 44) _ hx0) n1 (M.new _ M.size) (j5 (m.own a X) λg p=>A1.old g (ol g p).2.1 Zc) (λg p=>(ol g p).2.2) Za A1.fit (λk t=>M.new k Za) λg c w2 q1 q2 q3 q4 q5 q6=>?_
   .simp only[pc,ae,ai,or_false]at hu;rcases hu with rfl|rfl|rfl|rfl|rfl<;>rfl
   .exact hn [] w2 (J (.c (.v (Sc (J (O g 0 Q)) (N a+1) c)))) ⟨by simp,.inr (.inr (.inl ⟨Z,g,c,⟨q1,q2,q3,q4,q5.imp_right (·.1),q6⟩,Z⟩))⟩ (.inl Z) (λsv h=>by obtain rfl:=Ze h;trivial)
  | 2,T =>
   obtain⟨rfl,rfl⟩:=ax (Ze T);rcases f with⟨h,_⟩|⟨h,_⟩|⟨_,g,c,u,C'⟩|⟨h,_⟩
   case inl=>cases h
   case inr.inl=>cases h
   case inr.inr.inr=>cases h
   obtain rfl:=Ze ho;have D':(E a).ownBlock≠J b.bn:=λp=>by have:=(ol _ p).1;omega
   have r2:pR w' b.bn n E:=m.d.of ((u.old _ Za D').trans (A1.old _ o' Zc));obtain⟨c0,t0,r',F',G'⟩:=id r2;refine zi (b:=b.bn) (p:=a) (cells:=[Sc (J (O g 0 Q)) (N a+1) c]) Ma.lv Z Z Z Z r' (sf _ (.inl Z)) Ma.fit ((rd (.tmp 46) _ Z).trans (by simp[Sv.den,ou.den])) (rd (.tmp 45) _ C') Z Z (λv hv=>?_) (λq hq=>?_) λw2 s1 s2 s3 s4 s5 s6=>?_
   .obtain rfl:=Zi hv;rfl
   .obtain rfl:q=0:=Zm hq;simp[aD,r',G' a X]
   .obtain⟨c',O',P'⟩:=s3;exact hn [] w2 Q ⟨by simp,.inr (.inr (.inr ⟨Z,g,c,w',u,⟨by omega,λk _ t=>s2 k (by simpa using t),s6⟩,pR.put r2 ⟨c',t0,O',P'.trans F'⟩ (s4 0 _ Z) λq hq=>s5 q (by simp;omega)⟩))⟩ (.inl Z) (λsv h=>by cases h)
  | s+3,T=>simp at T
 .obtain⟨he,f⟩:=f;obtain rfl:=Zk he;rcases f with⟨h,_⟩|⟨h,_⟩|⟨h,_⟩|⟨_,g,c,wm,u,f',s'⟩
  .cases h
  .cases h
  .cases h
  have M3:=((M.re A' B').oV 0 [] Z Z).oO [] Z f'.fit λk t=>M.new k (by have:=u.size;have:=f'.size;omega);refine iN 200 0 [] M3 Z Z nQ λa12 t' h'=>?_;refine B3 h' iK Z Z Z ?_;have k':∀k,k<q'.heap.size->t'.heap[k]?=q'.heap[k]?:=λk t=>h'.old k t Zc;have us:=u.size;have ls:=f'.size;have gl:=(j8 u.row (g:=g) Z).2;have gb:=(j8 u.row (g:=g) Z).1;have z12:=h'.size;refine hx t' g c Za h'.fit (λk t h1 h2=>?_) (s'.of (k' _ s'.lt)) (j5 u.row λx hx=>?_) (u.og.imp_right λh=>by omega)
  .rw[k' k Za,f'.old k Za (by simpa using h1),u.old k Za h2,A1.old k t Zc]
  .obtain rfl:g=x:=Ze hx;rw[k' g Za,f'.old g gl (by simp;omega)]
variable{S:fM->jD->Prop}
theorem oh.grown{C:Nat->Nat}{w w':Wd}(F:oh C [] w w'):Grown w w':=⟨F.size,λk a=>F.old k a Zc,nQ⟩
theorem Ed(co:Co kb l K L (r+1) z y w){n:Nat}(hn:K.nS=n)(lm:oY kb l L w b n I H E N P)(hN:∀p,p<n->N p<=4398046511104)(hu1:∀p q o,p<n->q<n->H p=J o->H q=J o->p=q)(s:Int)(i:Fm')(R:List Fm')(P':(decide (0<=s)&&decide (s<(n:Int)))=false->∀w',Grown w w'->X V S l z y 0 (G (i.finish (.tuple #[Bo false,Y U 3])) R) w')(Q':∀p:Nat,s=p->p<n->H p=Q->∀w',Grown w w'->X V S l z y 0 (G (i.finish (.tuple #[Bo false,Y U 11])) R) w')(R':∀(p:Nat) (v:Lv),s=p->p<n->H p=J v.C.o->v.C.slot=p->L v.C.o.gid=J v->∀w' v' D,v'.C=v.C->v'.S=(λ_=>(v.turn K).2)->(∃n a b c,(v.turn K).2 []=.call n a b c)->Co kb l (v.turn K).1 (aj L v.C.o.gid (J v')) r D y w'->Kp kb L w (aj L v.C.o.gid (J v')) w'->oY kb l (aj L v.C.o.gid (J v')) w' b n I H E N P->X V S l D y 0 (G (i.finish (.tuple #[Bo false,Y U 0])) R) w')(S':∀(p:Nat) (v:Lv),s=p->p<n->H p=J v.C.o->v.C.slot=p->L v.C.o.gid=J v->∀w' D h' i' g q',(v.turn K).2 []=.done h' i'->(∀k,Mn kb L w k->¬rY b E p k->k≠g)->Co kb l (v.turn K).1 (aj L v.C.o.gid Q) r D y w'->(∀k,Mn kb L w k->¬rY b E p k->Mn kb (aj L v.C.o.gid Q) w' k/\w'.heap[k]?=w.heap[k]?)->oY kb l (aj L v.C.o.gid Q) w' b n I (qt H p) (qg E p (Sc (J (O g 0 Q)) (N p+1) q')) (qg N p (N p+1)) (qg P p (P p++pc v.C.kd v.C.A v.C.B i' h'))->X V S l D y 0 (G (i.finish (.tuple #[Bo true,Y U 0])) R) w') :
  X V S l z y 0 (G (ay V 21 #[Po (J (O b.bl 0 Q)),Y U s] .normal) (i::R)) w:=by
 subst hn;have A':b.bl<w.heap.size:=aL _ _ lm.m.is.k1;refine tH (zV (ρ:=[]) (W:=[]) (ro:=0) (m:=[]) (sz:=47) [.c (.v (Po (J (O b.bl 0 Q)))),.c (.v (Y U s))] (Dh co.env.fit co.soft) (λs hs=>?_) iK Z Z Z λa M=>?_)
 .simp only[ae,ai,or_false]at hs;rcases hs with rfl|rfl<;>trivial
 refine iN 200 0 [] M Z Z nQ λa1 w1 M1=>?_;have T':=lm.grown M1.hJ.grown;refine A4 M1 (LF M1.fit (co.grown M1.hJ.grown).soft T'.m.is.k1 s) Z Z Z iW Z Z Z Z Z λx w2 T=>?_;obtain⟨rfl,F2⟩:=T;refine E7 (M1.still F2) 0 (.c (.v (Bo (decide (0<=s)&&decide (s<(K.nS:Int)))))) Z Z Z Z Z λa3 M3=>iN 200 0 [] M3 Z Z nQ λa4 w4 M4=>?_
 cases hb:(decide (0<=s)&&decide (s<(K.nS:Int))) with
 | false =>
  refine oF M4 Z (by rw[hb];rfl)<|iN 200 0 [] M4 Z Z nQ λa5 w5 M5=>B3 M5 iK Z Z Z λd=>.stop (P' hb _ (M5.hJ.grown.at d))
 | true =>
  refine oC M4 Z (by rw[hb];rfl) ?_;simp only[aC,decide_eq_true_eq]at hb;obtain⟨p,rfl⟩:=cV hb.1;have hp:p<K.nS:=by omega
  have cu:=lm.m.is.u.cell hp
  cases hU:H p with
  | none =>
   rw[hU]at cu;refine iN 200 0 [[Sc (J (O b.bu 0 Q)) K.nS K.nS],[Po Q]] M4 Z Z ⟨⟨⟨nQ,⟨A',by simp,lm.m.is.k1⟩⟩,by omega⟩,⟨lm.m.is.u.lt,by simp,by simpa[sw] using cu⟩⟩ λa5 w5 M5=>uk (op:=.binOp .eql 133 (.tmp 18) (.const (Po Q)) 133) (.c (.v (Bo true))) M5 Z Z Z Zd Z Z Z nQ (λo u ho hu=>?_) λa6 M6=>?_
   .have e:=(M5.rd (x:=.tmp 18) (s:=.c (.v (Po Q))) Z).1;unfold Ex;simp only[ho,e];rfl
   refine iN 200 0 [] M6 Z Z nQ λa7 w7 M7=>oF M7 Z Z<|iN 200 0 [] M7 Z Z nQ λa8 w8 M8=>B3 M8 iK Z Z Z λd=>.stop (Q' p Z hp hU _ (M8.hJ.grown.at d))
  | some o =>
   obtain⟨v,hv,rfl,r'⟩:=lm.live p hp o hU;rw[hU]at cu;refine iN 200 0 [[Sc (J (O b.bu 0 Q)) K.nS K.nS],[Po (J (O v.C.o.bo 0 Q))]] M4 Z Z ⟨⟨⟨nQ,⟨A',by simp,lm.m.is.k1⟩⟩,by omega⟩,⟨lm.m.is.u.lt,by simp,by simpa[sw] using cu⟩⟩ λa5 w5 M5=>uk (op:=.binOp .eql 133 (.tmp 18) (.const (Po Q)) 133) (.c (.v (Bo false))) M5 Z Z Z Zd Z Z Z nQ (λo u ho hu=>?_) λa6 M6=>?_
   .have e:=(M5.rd (x:=.tmp 18) (s:=.c (.v (Po (J (O v.C.o.bo 0 Q))))) Z).1;unfold Ex;simp only[ho,e];rfl
   refine iN 200 0 [] M6 Z Z nQ λa7 w7 M7=>oC M7 Z Z<|iN 200 0 [] M7 Z Z nQ λa8 w8 M8=>?_;have g8:=M8.hJ.grown;have co8:=co.grown g8;have lm8:=lm.grown g8;have B':v.C.o∈l:=by let⟨f,m,A⟩:=co.at_ _ v hv;exact A.mem
   have kg:∀ {L' w'},Kp kb L w8 L' w'->Kp kb L w L' w':=λ{L' w'} kp k hm=>by
    let⟨m1,m2⟩:=kp k (hm.grow g8.size);exact⟨m1,m2.trans (g8.old k hm.lt)⟩
   refine xW (vs:=[Po (J (O v.C.o.bo 0 Q))]) (Post:=λx w' e=>(x=Bo true/\∃v' D,e=(fb l,X V S l D y 0)/\v'.C=v.C/\v'.S=(λ_=>(v.turn K).2)/\(∃n a b c,(v.turn K).2 []=.call n a b c)/\Co kb l (v.turn K).1 (aj L v.C.o.gid (J v')) r D y w'/\Kp kb L w8 (aj L v.C.o.gid (J v')) w')\/(x=Bo false/\∃D h' i',e=(fb l,X V S l D y 0)/\(v.turn K).2 []=.done h' i'/\Co kb l (v.turn K).1 (aj L v.C.o.gid Q) r D y w'/\Kp kb L w8 (aj L v.C.o.gid Q) w'/\∃t free un go,w'.heap[v.C.o.bo]?=J (.cells (S8 v.C i' h' free un go) t (0,0)))) M8 (λfr' cs' F=>λd=>.stop (Rg (co8.at d) hv fr' cs' (λw' v' D h1 h2 h3 h4 h5=>tH (F _ w' (fb l,X V S l D y 0) (.inl ⟨Z,v',D,Z,h1,h2,h3,h4,λk F=>h5 k ⟨F.lt,F.nf,F.ns,F.nd,F.own⟩⟩))) λw' D h' i' h1 h2 h3 h4=>tH (F _ w' (fb l,X V S l D y 0) (.inr ⟨Z,D,h',i',Z,h1,h2,λk F=>h3 k ⟨F.lt,F.nf,F.ns,F.nd,F.own⟩,h4⟩)))) Z Z Z mi Z Z Z Z λx w9 e T=>?_;rcases T with⟨rfl,v',D,rfl,h1,h2,h3,h4,h5⟩|⟨rfl,D,h',i',rfl,h1,co9,h5,row⟩
   .have M9:=(M8.got (D:=21) Z (.c (.v (Bo true))) nQ (x:=Bo true) Z Z).oO [21] Z h4.env.fit h4.soft;refine iN 200 0 [] M9 Z Z nQ λa10 w10 l'=>oF l' Z Z<|iN 200 0 [] l' Z Z nQ λa11 s' g'=>B3 g' iK Z Z Z λd=>.stop ?_;have u':=g'.hJ.grown.at d;have kp:Kp kb L w (aj L v.C.o.gid (J v')) (s'.at d):=λk hm=>by
     let⟨m1,m2⟩:=kg h5 k hm;exact⟨m1.grow u'.size,(u'.old k m1.lt).trans m2⟩
    refine R' p v Z hp hU r' hv _ v' D h1 h2 h3 (h4.grown u') kp ⟨lm.m.turn kp,λq T o' x'=>?_⟩;let⟨u,b1,b2,b3⟩:=lm.live q T o' x'
    by_cases eg:o'.gid=v.C.o.gid
    .rw[eg,hv]at b1;cases Ze b1;exact⟨v',by rw[eg,aH],by rw[h1];exact b2,by rw[h1];exact b3⟩
    .exact⟨u,by rw[az _ _ eg];exact b1,b2,b3⟩
   .have M9:=(M8.got (D:=21) Z (.c (.v (Bo false))) nQ (x:=Bo false) Z Z).oO [0,1,6,21] Z co9.env.fit co9.soft;have B:=lm8.m.turn h5;refine iN 200 0 [] M9 Z Z nQ λa10 w10 l'=>oC l' Z Z ?_;have D':b.bl<w9.heap.size:=aL _ _ B.is.k1;refine iN 200 0 [[Sc (J (O b.bu 0 Q)) K.nS K.nS]] l' Z Z ⟨⟨nQ,⟨D',by simp,B.is.k1⟩⟩,by omega⟩ λa11 s' g'=>?_;have n':=B.grown g'.hJ.grown;have e11:∀k,k<w9.heap.size->s'.heap[k]?=w9.heap[k]?:=λk F=>g'.old k F Zc;have z11:=g'.hJ.size;let⟨ne1,ne2,E',lb1,lb2,lb3⟩:=B.is.ne;have F':∀q,q<K.nS->∀x,(E q).ownBlock=J x->x≠b.bu/\x≠b.bn:=λq T x W=>by have:=(j8 (B.is.own q T) W).1;exact⟨by omega,by omega⟩
    let⟨c0,t0,G',hz0,hc0⟩:=id n'.is.u;refine zi (b:=b.bu) (p:=p) (cells:=[Po Q]) g'.lv Z Z Z Z G' n'.qK.sf g'.fit ((g'.rd (x:=.tmp 27) Z).1.trans (by simp[Sv.den,ou.den])) Z Z Z (λv hv=>?_) (λq T=>?_) λw12 s1 s2 s3 s4 s5 s6=>?_
    .cases Zi hv;rfl
    .obtain rfl:q=0:=Zm T;simp[aD,G',hc0 p hp]
    let⟨c',hb',hs'⟩:=s3;have u12:=pR.put n'.is.u ⟨c',t0,hb',hs'.trans hz0⟩ (s4 0 _ Z) λq T=>s5 q (by simp;omega);have M12:=g'.oO [0,1,6] Z s6 λk F=>g'.new k Za;refine iN 2 0 [] M12 Z Z nQ λa13 y' p'=>?_;have z13:=p'.hJ.size;have m':∀k,k<w9.heap.size->k≠b.bu->y'.heap[k]?=w9.heap[k]?:=λk F hn=>by rw[p'.old k Za Zc,s2 k hn,e11 k F]
    have H':=u12.of (p'.old _ (by have:=n'.is.u.lt;omega) Zc);have llu:=B.is.u.lt;have lln:=B.is.d.lt;have z':=λo=>Zf (w:=w9) (w':=y') (a:=(O b.bl o Q)) (m' _ D' ne1)
    have lis:rp y' b kb.bk K.nS I (qt H p) E N P:=⟨(z' 0).trans B.is.k0,(z' 1).trans B.is.k1,(z' 2).trans B.is.k2,by
     let⟨c,t',b1,b2,b3⟩:=H';refine⟨c,t',b1,b2,λq T=>(b3 q T).trans ?_⟩;unfold qt
     by_cases e:q=p
     .simp[e,sw]
     .simp[e],B.is.d.of (m' _ lln (aA E')),λq T=>j5 (B.is.own q T) λx W=>m' x (j8 (B.is.own q T) W).2 (F' q T x W).1,B.is.pX,B.is.ne,B.is.small⟩
    let⟨t,f1,f2,f3,I'⟩:=row;have lbo:v.C.o.bo<w9.heap.size:=(Zj I').1;refine Xr (B:=v.C.B) (er:=i') (va:=h') (A:=v.C.A) (kd:=v.C.kd) hp lis (hN p hp) (λg hg=>?_) (by have:=B.b0;omega) (λj x W=>?_) (λe=>(B.ry p hp _ e).rc _ B' Z) p'.oo λw' g q' q1 q2 q3 q4 q5 q6=>λd=>.stop ?_
    .rcases hg with rfl|hg
     .exact B.rO.sf
     .exact(B.ry p hp g hg).sf
    .rw[Zf (w:=w9) (m' _ lbo (B.qK.rc _ B'))];simp only[aD,I'];have hcs:j=0\/j=1\/j=2\/j=3\/j=4\/5<=j:=by omega
     rcases hcs with rfl|rfl|rfl|rfl|rfl|h
     .simpa[pc,S8] using W
     .simpa[pc,S8] using W
     .simpa[pc,S8] using W
     .simpa[pc,S8] using W
     .simpa[pc,S8] using W
     .rw[fh (by simp[pc];omega)]at W;cases W
    .have k2:∀k,k<w9.heap.size->k≠b.bu->k≠b.bn->(E p).ownBlock≠J k->w'.heap[k]?=w9.heap[k]?:=λk F h1 h2 h3=>(q3 k Za h2 h3).trans (m' k F h1);have hlv:∀q,q<K.nS->q≠p->∀o',H q=J o'->∃u,aj L v.C.o.gid Q o'.gid=J u/\u.C.o=o'/\u.C.slot=q:=λq T e o' x'=>by
      let⟨u,b1,b2,b3⟩:=lm.live q T o' x';have eg:o'.gid≠v.C.o.gid:=λeg=>by
       rw[eg,hv]at b1;cases Ze b1;rw[r']at b3;exact e (by exact_mod_cast b3.symm)
      exact⟨u,by rw[az _ _ eg];exact b1,b2,b3⟩
     let⟨coE,lmE⟩:=Tm co9 B hp hlv Za k2 (H'.of (q3 _ Za E' λe=>(F' p hp _ e).1 Z)) q4 q5 (q6.imp_right λh=>by omega)
     .have gd:Grown w' (w'.at d):=⟨af _,λ_ _=>rfl,nQ⟩;refine S' p v Z hp hU r' hv (w'.at d) D h' i' g q' h1 (λk hm W e=>?_) (coE.grown gd) (λk hm W=>?_) (lmE.grown gd)
      .subst e;rcases q6 with q|q
       .exact W (.inr (.inr q))
       .have:=(kg h5 k hm).1.lt;omega
      .let⟨m1,m2⟩:=kg h5 k hm;exact⟨m1.grow (by show w9.heap.size<=w'.heap.size;omega),(k2 k m1.lt (λe=>W (.inl e)) (λe=>W (.inr (.inl e))) λe=>W (.inr (.inr e))).trans m2⟩
end
section
theorem Og(a:List Int){i j:Nat}(b:i<a.length)(c:j<a.length)(k:Nat):(J5 a i j).getD k 0=if k=j then a.getD i 0 else if k=i then a.getD j 0 else a.getD k 0:=by
 unfold J5
 grind
theorem KL(a:List Int){i j:Nat}(b:i<a.length)(c:j<a.length):(J5 a i j).Perm a:=by
 unfold J5
 grind
theorem TQ(d:List Int)(e:c≠a)(f:c≠b):(J5 d a b)[c]?=d[c]?:=by
 unfold J5
 grind
theorem Md:∀(f:Nat) (a:List Int) (i n:Nat),n<=a.length->i<n\/n=0->(N4 f a i n).Perm a/\∀k,n<=k->(N4 f a i n)[k]?=a[k]?
 | 0,a,i,n,_,_=>⟨.refl _,λ_ _=>rfl⟩
 | f+1,a,i,n,hn,hi=>by
  unfold N4
  by_cases b:n<=2*i+1
  .grind
  rw[nR b];generalize l:(if 2*i+2<n/\a.getD (2*i+2) 0<a.getD (2*i+1) 0 then 2*i+2 else 2*i+1)=j;have c:j<n/\j≠i:=by
   grind
  simp only
  by_cases d:a.getD j 0<a.getD i 0
  .rw[nT d];let⟨e,g⟩:=Md f (J5 a i j) j n (by rw[yh];exact hn) (.inl c.1);refine⟨e.trans (KL a Za Za),λk h=>?_⟩;rw[g k h];exact TQ a Za Za
  grind
theorem PZ(x:Int)(r:List Int):(pQ (x::r)).Perm r:=by
 have b:(x::r).length - 1=r.length:=by simp
 unfold pQ;rw[b];have s0:(J5 (x::r) 0 r.length).length=r.length+1:=by rw[yh];rfl
 let⟨c,d⟩:=Md (x::r).length (J5 (x::r) 0 r.length) 0 r.length Za Za;have f:=c.trans (KL (x::r) (i:=0) (j:=r.length) Zc Zc);have h:(N4 (x::r).length (J5 (x::r) 0 r.length) 0 r.length)[r.length]?=J x:=by
  rw[d _ (af _)];unfold J5
  grind
 generalize N4 (x::r).length (J5 (x::r) 0 r.length) 0 r.length=a at *;have i:a.length=r.length+1:=by have:=f.length_eq;simpa using this
 have e:a=a.take r.length++[x]:=by
  apply jV
  grind
 have g:(x::a.take r.length).Perm (x::r):=by
  grind
 exact g.cons_inv
def yx(a:List Int)(n:Nat):Prop:=∀k,0<k->k<n->a.getD ((k - 1) / 2) 0<=a.getD k 0
theorem b7f:∀(f:Nat) (a:List Int) (i n:Nat),n<=a.length->n<=f+i->(∀k,0<k->k<n->(k - 1) / 2≠i->a.getD ((k - 1) / 2) 0<=a.getD k 0)->(∀k,0<i->0<k->k<n->(k - 1) / 2=i->a.getD ((i - 1) / 2) 0<=a.getD k 0)->yx (N4 f a i n) n:=by
 intro f
 induction f with
 | zero=>intro a i n l t e m k b c;exact e k b c Za
 | succ f u =>
  intro a i n l t e m;unfold N4
  by_cases o:n<=2*i+1
  .rw[nT o];intro k b c;exact e k b c Za
  rw[nR o];generalize d:(if 2*i+2<n/\a.getD (2*i+2) 0<a.getD (2*i+1) 0 then 2*i+2 else 2*i+1)=j;have v:(j=2*i+1\/j=2*i+2)/\j<n/\∀k,0<k->k<n->(k - 1) / 2=i->a.getD j 0<=a.getD k 0:=by
   split at d
   .rename_i h;subst d;refine⟨.inr Z,h.1,λk b c p=>?_⟩;obtain rfl|rfl:k=2*i+1\/k=2*i+2:=by omega
    .omega
    .omega
   .rename_i h;subst d;refine⟨.inl Z,by omega,λk b c p=>?_⟩;obtain rfl|rfl:k=2*i+1\/k=2*i+2:=by omega
    .omega
    .omega
  let⟨z,w,A⟩:=v;show yx (if a.getD j 0<a.getD i 0 then N4 f (J5 a i j) j n else a) n
  by_cases q:a.getD j 0<a.getD i 0
  .rw[nT q];have g:=Og a (i:=i) (j:=j) Za Za;refine u _ j n (by rw[yh];exact l) Za (λk b c x=>?_) λk d b c p=>?_
   .rw[g,g,nR x]
    by_cases r:k=j
    .subst r;rw[nT Z,nT Za];omega
    rw[nR r]
    by_cases s:(k - 1) / 2=i
    .rw[nT s,nR Za];grind
    rw[nR s]
    by_cases y:k=i
    .subst y;rw[nT Z];exact m j b Za w Za
    grind
   .rw[g,g,nR Za,nT Za,nR Za,nR Za]
    grind
  .rw[nR q];intro k b c
   grind
theorem ZQ(h:yx o o.length):yx (pQ o) (pQ o).length:=by
 cases o with
 | nil=>intro k a b;simp[pQ]at b
 | cons x r =>
  have c:(x::r).length - 1=r.length:=by simp
  rw[AV,c];have d:=b7f (x::r).length (J5 (x::r) 0 r.length) 0 r.length (by rw[yh];simp) Zc (λk a b e=>?_) λk a=>absurd a Za
  .intro k a b;have:=d k a b;unfold pQ
   grind
  .have g:=Og (x::r) (i:=0) (j:=r.length) Zc Zc;rw[g,g,nR Za,nR e,nR Za,nR Za];exact h k a (by simp;omega)
theorem QP(h:yx o o.length):∀(n k:Nat),k<=n->k<o.length->o.getD 0 0<=o.getD k 0:=by
 intro n
 induction n with
 | zero=>grind
 | succ n b =>
  intro k c a
  by_cases d:k=0
  .grind
  .have:=h k Za a
   grind
structure rI (xs ys:List Int):Prop where
 heap:yx xs xs.length
 perm:xs.Perm ys
 up:ys.Pairwise (· < ·)
theorem rI.head(a:rI (f::o) (h::p)):f=h:=by
 have b:h∈f::o:=a.perm.mem_iff.2 (ao ..);have c:f∈h::p:=a.perm.mem_iff.1 (ao ..);let⟨k,d,e⟩:=List.mem_iff_getElem.1 b;have g:=QP a.heap k k (af _) d;have i:(f::o).getD 0 0=f:=Z;have j:(f::o).getD k 0=h:=by grind
 rw[i,j]at g;rcases ae.1 c with e|e
 .exact e
 .have:=List.rel_of_pairwise_cons a.up e;omega
theorem rI.pop(a:rI (f::o) (h::p)):rI (pQ (f::o)) p:=by
 have e:=a.head;subst e;exact⟨ZQ a.heap,(PZ f o).trans a.perm.cons_inv,(List.pairwise_cons.1 a.up).2⟩
theorem rI.nil(h:rI [] (f::o)):False:=by have:=h.perm.length_eq;simp at this
theorem OA(K:aa)(n:Nat):rI (E9 K n) (E9 K n):=by
 have up:(E9 K n).Pairwise (· < ·):=by
  unfold E9;refine List.Pairwise.map _ (λa b h=>?_) (nz _ List.pairwise_lt_range)
  grind
 refine⟨λk d c=>?_,.refl _,up⟩;have:=List.pairwise_iff_getElem.1 up ((k - 1) / 2) k Za c Za
 grind
structure wC (num x e:Int):Prop where
 zero:e≠0->x=0
 yield:num=1->e=0\/e=3
 no:num=2\/num=13->x=0
def yb(s:j6)(h:List (Int×Int)):Prop:=∀d x e g,h=d++(x,e)::g->∀f a b c,s d=.call f a b c->wC f x e
def pV(h:List (Int×Int)):Prop:=∀x∈h,x.2≠3
def pY(s t:j6):Prop:=∀h,yb s h->pV h->s h=t h/\∀x d a b c,s h=.call d a b c->wC d x 3->s (h++[(x,3)])=.done 0 3
theorem vU{a c:Int×Int->Bool->j6}(s:a (0,3) true []=.done 0 3)(v:∀x e,wC f x e->e≠3->pY (a (x,e) false) (c (x,e) false)):pY ((E3 f h i j).then false a) ((E3 f h i j).then false c):=by
 intro w d g
 cases w with
 | nil =>
  refine⟨Z,λx l m n o p b=>?_⟩;cases b.zero Zb;exact s
 | cons z t =>
  let⟨x,e⟩:=z;have q:e≠3:=g _ (ao ..);have b:wC f x e:=d [] x e t Z f h i j Z;have A:∀(k:Int×Int->Bool->j6) u,((E3 f h i j).then false k) ((x,e)::u)=k (x,e) false u:=λk u=>by
   show k (x,e) (e==3) u=_;rw[show(e==3)=false by simpa using q]
  let⟨H,I⟩:=v x e b q t (λr B C D E l m n o p=>d ((x,e)::r) B C D (by rw[E];rfl) l m n o ((A a r).trans p)) λy F=>g y (ah _ F)
  grind
theorem uQ(v e:Int)(g:e≠0->v=0)(h:e=0->v=f):pY (λ_=>.done v e) (λ_=>.done (if e=0 then f else 0) e):=λi _ _=>⟨by
 grind,λx j a b c d=>by cases d⟩
theorem Eb{a:Int->Bool->j6}{b:Int×Int->Bool->j6}(c:a 3 true []=.done 0 3)(h:∀r,pY (a f false) (b (r,0) false)):pY ((sG f).then false a) ((E3 1 0 0 0).then false b):=by
 unfold sG;rw[M.fc];refine vU c λr e d g=>?_;obtain rfl:e=0:=(d.yield Z).resolve_right g;exact h r
def H6(e:Int)(d:Bool)(a b c:Int):List Int->M ((Int×Int)×List Int×List Int)
 | []=>(E3 1 0 0 0).bind λr=>M.pure ((r.1,10),[],[])
 | f::r=>(E3 e a (if d then b else f) (if d then f else c)).bind λz=>if z.2=5 then H6 e d a b c r else M.pure (z,r,f::r)
theorem rI.none(h:rI o []):o=[]:=dM h.perm.length_eq
variable{l a c:Int}{d:Int×List Int->Bool->j6}{m:(Int×Int)×List Int×List Int->Bool->j6}
theorem Fp(i:∀f,d (3,f) true []=.done 0 3)(h:∀x e f k n,e≠3->(e=10\/wC l x e)->(e=0->rI f k)->(e≠0->e≠10->rI f n)->pY (d (e,f) false) (m ((x,e),k,n) false)) :
  ∀(o f:List Int),rI f o->∀b g,pY ((wG l f.length a b c f).then false d) ((H6 l false a g c o).then false m)
 | [],f,hf,b,g=>by
  obtain rfl:=hf.none;unfold H6;show pY (((sG 10).bind _).then false d) _;rw[M.fc,M.fc];exact Eb (i _) λr=>h r 10 _ _ _ Zb (.inl Z) (λe=>absurd e Zb) (λ_ e=>absurd Z e)
 | y::t,f,hf,b,g=>by
  cases f with
  | nil=>exact hf.nil.elim
  | cons x r =>
   have p:=hf.pop;have s:=AV (x::r);obtain rfl:=hf.head;unfold H6;show pY (((E3 l a x c).bind _).then false d) (((E3 l a x c).bind _).then false m);rw[M.fc,M.fc];refine vU (i _) λz e u v=>?_
   by_cases q:e=5
   .subst q;have:=Fp i h t _ p x g;rw[s]at this;exact this
   .simp only[nR q];refine h z e _ t _ v (.inr u) (λj=>?_) λj _=>?_
    .rw[nT j];exact p
    .rw[nR j];exact hf
theorem LA{b:Int}(i:∀f,d (3,f) true []=.done 0 3)(h:∀x e f k n,e≠3->(e=10\/wC l x e)->(e=0->rI f k)->(e≠0->e≠10->rI f n)->pY (d (e,f) false) (m ((x,e),k,n) false)) :
  ∀(o f:List Int),rI f o->∀c g,pY ((Cc l f.length a b c f).then false d) ((H6 l true a b g o).then false m)
 | [],f,hf,c,g=>by
  obtain rfl:=hf.none;unfold H6;show pY (((sG 10).bind _).then false d) _;rw[M.fc,M.fc];exact Eb (i _) λr=>h r 10 _ _ _ Zb (.inl Z) (λe=>absurd e Zb) (λ_ e=>absurd Z e)
 | y::t,f,hf,c,g=>by
  cases f with
  | nil=>exact hf.nil.elim
  | cons x r =>
   have p:=hf.pop;have s:=AV (x::r);obtain rfl:=hf.head;unfold H6;show pY (((E3 l a b x).bind _).then false d) (((E3 l a b x).bind _).then false m);rw[M.fc,M.fc];refine vU (i _) λz e u v=>?_
   by_cases q:e=5
   .subst q;have:=LA (b:=b) i h t _ p x g;rw[s]at this;exact this
   .simp only[nR q];refine h z e _ t _ v (.inr u) (λj=>?_) λj _=>?_
    .rw[nT j];exact p
    .rw[nR j];exact hf
def tO(b:aa):Nat->Nat->List Int->M (Int×(Int×Int)×List Int)
 | 0,_,ys=>(E3 1 0 0 0).bind λr=>M.pure (0,(r.1,10),ys)
 | f+1,i,ys=>if b.S i 0=0 then(H6 5 false i 0 0 ys).bind λz=>if z.1.2=7 then tO b f (i+1) z.2.2 else M.pure ((i:Int),z.1,z.2.1) else tO b f (i+1) ys
theorem IW(j:aa){d:(Int×Int)×List Int->Bool->j6}{m:Int×(Int×Int)×List Int->Bool->j6}(k:∀x b,d ((x,3),b) true []=.done 0 3)(h:∀i x e b g,e≠3->(e=0->rI b g)->pY (d ((i,e),b) false) (m (i,(x,e),g) false)) :
  ∀(f i:Nat) (b g:List Int),rI b g->pY ((uy j f i b).then false d) ((tO j f i g).then false m)
 | 0,i,b,g,hf=>by
  unfold uy tO;rw[M.fc,M.fc];exact Eb (k _ _) λr=>h 0 r 10 _ _ Zb (λe=>absurd e Zb)
 | f+1,i,b,g,hf=>by
  unfold uy tO
  by_cases n:j.S i 0=0
  .rw[nT n,nT n,M.fc,M.fc];refine Fp (λb=>k _ _) (λx e t u v p w q s=>?_) g b hf _ _
   by_cases o:e=7
   .subst o;exact IW j k h f (i+1) _ _ (s Zb Zb)
   .simp only[nR o];exact h _ x e _ _ p q
  .rw[nR n,nR n];exact IW j k h f (i+1) _ _ hf
variable{child:Int}
theorem Bu:∀(b:List Int) (h:List (Int×Int)),rM l child b true h=.inr ((),true,h)
 | [],h=>rfl
 | p::b,h=>Bu b h
theorem RN(b e:List Int)(h:List (Int×Int)):J7 child b e true h=.inr ((0,3),true,h):=by
 unfold J7 M.bind;rw[Bu];simp only[Bu];rfl
theorem IM{d m:Unit->Bool->j6}(f:d () true []=.done 0 3)(h:pY (d () false) (m () false)):∀b:List Int,pY ((rM l child b).then false d) ((rM l child b).then false m)
 | []=>h
 | p::b=>by
  unfold rM;rw[M.fc,M.fc];refine vU ?_ λx e _ _=>IM f h b;show((rM l child b).then true d) []=_;unfold M.then;rw[Bu];exact f
theorem Nq{d m:Int×Int->Bool->j6}(f:d (0,3) true []=.done 0 3)(h:∀x e,wC 12 x e->e≠3->pY (d (x,e) false) (m (x,e) false))(g b:List Int):pY ((J7 child g b).then false d) ((J7 child g b).then false m):=by
 unfold J7;simp only[M.fc];refine IM ?_ (IM f (vU f h) b) g;show((rM 11 child b).then true _) []=_;unfold M.then;rw[Bu];exact f
def hF(f:Nat->Int):Nat->Nat->List Int
 | 0,_=>[]
 | n+1,j=>if f j=-1 then hF f n (j+1) else(j:Int)::hF f n (j+1)
theorem OC(f:Nat->Int):∀n j,hF f n j=((ie j n).filter λj=>f j != -1).map Int.ofNat
 | 0,j=>rfl
 | n+1,j=>by
  unfold hF;rw[OC f n (j+1),List.range'_succ]
  grind
theorem NC(f:Nat->Int)(n:Nat):I9 f n=hF f n 0:=by rw[OC,I9,List.range_eq_range']
def vd(child:Int)(f:Nat->Int):Nat->Nat->List Int->List Int->M (Int×List Int)
 | 0,_,_,acc=>M.pure (0,acc)
 | n+1,j,ys,acc=>if f j=-1 then vd child f n (j+1) ys acc else(H6 6 true child j 0 ys).bind λz=>if z.1.2=0 then vd child f n (j+1) z.2.1 (acc++[(j:Int)]) else M.pure (z.1.2,acc)
def uO(child:Int)(f:Nat->Int):Nat->Nat->List Int->M (Int×List Int)
 | 0,_,acc=>M.pure (0,acc)
 | n+1,j,acc=>if f j=-1 then uO child f n (j+1) acc else(E3 7 child j j).bind λz=>if z.2=0 then uO child f n (j+1) (acc++[(j:Int)]) else M.pure (z.2,acc)
theorem LB(h:o.drop b=f::p):o.take b++[f]=o.take (b+1)/\o.drop (b+1)=p:=by
 have g:b<o.length:=by
  rcases bU b o.length with e|e
  .exact e
  .rw[eS e]at h;cases h
 rw[dV g]at h;injection h with i j
 rw[←i];exact⟨by rw[List.take_add_one,br g];rfl,j⟩
theorem E4{child:Int}{f:Nat->Int}{P:List Int}{d:(Nat×Int)×List Int->Bool->j6}{m:Int×List Int->Bool->j6}(o:∀i b,d ((i,3),b) true []=.done 0 3)(h:∀i e b,e≠3->pY (d ((i,e),b) false) (m (e,P.take i) false)) :
  ∀(n j i:Nat) (b g:List Int),rI b g->P.drop i=hF f n j->pY ((xn child (hF f n j) i b).then false d) ((vd child f n j g (P.take i)).then false m)
 | 0,j,i,b,g,hf,hp=>h i 0 b Zb
 | n+1,j,i,b,g,hf,hp=>by
  unfold hF vd at *
  by_cases k:f j=-1
  .rw[nT k]at hp ⊢;rw[nT k];exact E4 o h n (j+1) i b g hf hp
  .rw[nR k]at hp ⊢;let⟨q,t2⟩:=LB hp;rw[nR k];unfold xn;rw[M.fc,M.fc];refine LA (λb=>o _ _) (λx e r s v t w u y=>?_) g b hf _ _
   by_cases p:e=0
   .subst p;have:=E4 (child:=child) o h n (j+1) (i+1) r s (u Z) t2;rw[←q]at this;exact this
   .simp only[nR p];exact h i e _ t
theorem IQ{child:Int}{f:Nat->Int}{P:List Int}{d:Nat×Int->Bool->j6}{m:Int×List Int->Bool->j6}(g:∀i,d (i,3) true []=.done 0 3)(h:∀i e,e≠3->pY (d (i,e) false) (m (e,P.take i) false)) :
  ∀(n j i:Nat),P.drop i=hF f n j->pY ((xq child (hF f n j) i).then false d) ((uO child f n j (P.take i)).then false m)
 | 0,j,i,hp=>h i 0 Zb
 | n+1,j,i,hp=>by
  unfold hF uO at *
  by_cases b:f j=-1
  .rw[nT b]at hp ⊢;rw[nT b];exact IQ g h n (j+1) i hp
  .rw[nR b]at hp ⊢;let⟨o,t2⟩:=LB hp;rw[nR b];unfold xq;rw[M.fc,M.fc];refine vU (g _) λx e q p=>?_
   by_cases k:e=0
   .subst k;have:=IQ (child:=child) g h n (j+1) (i+1) t2;rw[←o]at this;exact this
   .simp only[nR k];exact h i e p
def tT(child:Int)(b f:List Int)(e:Int):M (Int×Int) :=
 if e=0 then(E3 8 child 0 0).bind λz=>if z.2=0 then M.pure (child,0) else(J7 child b f).bind λ_=>M.pure (0,z.2) else(J7 child b f).bind λ_=>M.pure (0,e)
def Bv(b:aa)(p:Nat)(e:List Int):M (Int×Int):=(tO b b.nS 0 e).bind λq=>if q.2.1.2=0 then(vd q.1 (λj=>b.S p (3+j*2)) 4 0 q.2.2 []).bind λy=>if y.1=0 then(uO q.1 (λj=>b.S p (11+j*2)) 4 0 []).bind λg=>tT q.1 y.2 g.2 g.1 else tT q.1 y.2 [] y.1 else M.pure (0,q.2.1.2)
def vg(b:aa)(p:Int):Nat->Nat->M (Int×Int)
 | 0,_=>(E3 1 0 0 0).bind λ_=>M.pure (0,11)
 | f+1,i=>if (b.S i 1==p&&b.S i 0==3)=true then J7 i (vy b i) (uV b i) else vg b p f (i+1)
def rE(b:aa)(p:Nat)(f A B:Int):M (Int×Int) :=
 if f=1 then Bv b p (E9 b b.nF) else if f=2 then vg b p b.nS 0
 else if f=3 then(H6 13 false A 0 B (E9 b b.nF)).bind λz=>M.pure z.1
 else if f=4 then(J6 16 B 0 A).bind λe=>M.pure (0,e)
 else if f=5 then xV A B else if f=6 then E3 9 A 0 0
 else(H6 2 false A 0 0 (E9 b b.nF)).bind λz=>M.pure z.1
abbrev wD:Int×Int->Bool->j6:=λz _=>λ_=>.done z.1 z.2
abbrev ye:Int×Int->Bool->j6:=λz _=>λ_=>.done (if z.2=0 then z.1 else 0) z.2
theorem Nc{child:Int}(g:f≠0):pY (((xU child o p f).bind λb=>M.pure (0,b)).then false wD) (((J7 child o p).bind λ_=>M.pure (0,f)).then false ye):=by
 unfold xU;simp only[M.fc,M.oA];refine Nq Z (λx b _ e=>?_) o p;simp only[nR e];exact uQ 0 f (λ_=>rfl) λ_=>rfl
theorem Yp{child:Int}(e:Int)(h:List (Int×Int)):xU child o p e true h=.inr (3,true,h):=by
 unfold xU M.bind;rw[RN];rfl
theorem OJ{child:Int}:(xh child o p 3).then true wD []=.done 0 3:=by
 unfold xh M.then M.bind;rw[nR Zb,Yp];rfl
theorem MI{child:Int}(g i:List Int):pY ((xg child g i f).then false wD) ((tT child g i f).then false ye):=by
 unfold xg tT
 by_cases b:f=0
 .rw[nT b,nT b,M.fc,M.fc];refine vU OJ λx j _ k=>?_;unfold xh
  by_cases e:j=0
  .rw[nT e,nT e];exact uQ child 0 (λh=>absurd Z h) λ_=>rfl
  .rw[nR e,nR e];exact Nc e
 .rw[nR b,nR b];unfold xh;rw[nR b];exact Nc b
theorem RA(b:aa)(p:Nat):pY ((Cf b p (E9 b b.nF)).then false wD) ((Bv b p (E9 b b.nF)).then false ye):=by
 unfold Cf Bv;simp only[M.fc];have r:∀(child:Int) (f h:List Int),(xg child f h 3).then true wD []=.done 0 3:=λchild f h=>by
  unfold xg;rw[nR Zb];exact OJ
 have s:∀(child:Int) (f h:List Int),(Al child f h 3).then true wD []=.done 0 3:=λchild f h=>by
  unfold Al;grind
 refine IW b (λx k=>rfl) (λi x e k t n u=>?_) b.nS 0 _ _ (OA b b.nF)
 by_cases o:e=0
 .subst o;simp only[nT,M.fc];unfold vy uV;rw[NC,NC];refine E4 (P:=hF (λj=>b.S p (3+j*2)) 4 0) (λ_ _=>s _ _ _) (λc e k n=>?_) 4 0 0 k t (u Z) Z;unfold Al
  by_cases q:e=0
  .subst q;simp only[nT,M.fc];exact IQ (P:=hF (λj=>b.S p (11+j*2)) 4 0) (λ_=>r _ _ _) (λg e n=>MI _ _) 4 0 0 Z
  .simp only[nR q];exact MI _ _
 .simp only[nR o];exact uQ 0 e (λ_=>rfl) λ_=>rfl
theorem PM(b:aa)(p:Int):∀f i,pY ((uP b p f i).then false wD) ((vg b p f i).then false ye)
 | 0,i=>by
  unfold uP vg;simp only[M.fc];exact Eb Z (λr=>uQ 0 11 (λ_=>rfl) λ_=>rfl)
 | f+1,i=>by
  unfold uP vg
  by_cases h:(b.S i 1==p&&b.S i 0==3)=true
  .rw[nT h,nT h];exact Nq Z (λx e g _=>uQ x e g.zero λ_=>rfl) _ _
  .rw[nR h,nR h];exact PM b p f (i+1)
theorem OD{l a c:Int}{d m:Int->Bool->j6}(E:d 3 true []=.done 0 3)(h:∀e,e≠3->pY (d e false) (m e false)):pY ((J6 l a f c).then false d) ((J6 l a f c).then false m):=by
 intro F
 induction F with
 | nil=>exact λ_ _=>⟨Z,λx g i j n o q=>E⟩
 | cons z t H =>
  let⟨x,e⟩:=z;intro D r;have I:e≠3:=r _ (ao ..)
  by_cases K:e=11
  .subst K;have b:∀(k:Int->Bool->j6) u,((J6 l a f c).then false k) ((x,11)::u)=((J6 l a f c).then false k) u:=λk u=>rfl;rw[b,b];refine(H (λp s v w A g i j n o=>D ((x,11)::p) s v w (by rw[A];rfl) g i j n ((b d p).trans o)) λy B=>r y (ah _ B)).imp_right λC y g i j n o q=>(b d _).trans (C y g i j n o q)
  .have b:∀(k:Int->Bool->j6) u,((J6 l a f c).then false k) ((x,e)::u)=k e false u:=λk u=>by
    unfold M.then J6 yD
    grind
   rw[b,b];exact(h e I t (λp s v w A g i j n o=>D ((x,e)::p) s v w (by rw[A];rfl) g i j n ((b d p).trans o)) λy B=>r y (ah _ B)).imp_right λC y g i j n o q=>(b d _).trans (C y g i j n o q)
theorem MY(b:aa)(p:Nat)(f A B:Int)(s:1<=f/\f<=7):pY ((AQ b p f A B).then false wD) ((rE b p f A B).then false ye):=by
 have t:∀l,l=2\/l=13->∀c,pY (((wG l (E9 b b.nF).length A 0 c (E9 b b.nF)).bind λz=>M.pure ((0:Int),z.1)).then false wD) (((H6 l false A 0 c (E9 b b.nF)).bind λz=>M.pure z.1).then false ye):=λl r c=>by
  simp only[M.fc];refine Fp (λ_=>rfl) (λx e u v w n g _ _=>?_) _ _ (OA b b.nF) _ _;exact uQ 0 e (λ_=>rfl) λy=>((g.resolve_left Za).no r).symm
 unfold AQ rE
 by_cases h:f=1
 .rw[nT h,nT h];exact RA b p
 rw[nR h,nR h]
 by_cases i:f=2
 .rw[nT i,nT i];exact PM b p _ _
 rw[nR i,nR i]
 by_cases n:f=3
 .grind
 rw[nR n,nR n]
 by_cases j:f=4
 .rw[nT j,nT j];simp only[M.fc];exact OD Z λe _=>uQ 0 e (λ_=>rfl) λ_=>rfl
 rw[nR j,nR j]
 by_cases k:f=5
 .rw[nT k,nT k];unfold xV;simp only[M.fc];refine OD Z λe _=>?_
  by_cases o:e=0
  .subst o;simp only[ne_eq,not_true_eq_false,if_false];exact vU Z λx e g _=>uQ x e g.zero λ_=>rfl
  .simp only[ne_eq,o,not_false_eq_true,if_true];exact uQ 0 e (λ_=>rfl) λ_=>rfl
 rw[nR k,nR k]
 by_cases q:f=6
 .rw[nT q,nT q];exact vU Z λx e g _=>uQ x e g.zero λ_=>rfl
 grind
theorem c2W(K:aa)(e l a b c:Int):wC l (d8 K e l a b c).n (d8 K e l a b c).e:=by
 unfold d8;split
 .exact⟨λ_=>rfl,λh=>by grind,λ_=>rfl⟩
 split
 .exact⟨λ_=>rfl,λh=>.inr Z,λ_=>rfl⟩
 split
 .rename_i f;refine⟨λ_=>rfl,λh=>?_,λ_=>rfl⟩;subst h;simp[i7,A7]at f
 .rename_i h _ _;obtain⟨n,g⟩:∃n:Nat,l=n:=⟨l.toNat,by omega⟩;subst g;have i:n<20:=by omega
  rw[au];refine⟨?_,λh=>?_,λh=>?_⟩
  .unfold tK;split<;>simp only[qb,O0,B5,Z0,J2,C4,qy,N9,H9,Q5,F7,J0,Q4,R9,Y9,W7,W8,K6]
   all_goals grind
  .obtain rfl:n=1:=by omega
   exact .inl Z
  .obtain rfl|rfl:n=2\/n=13:=by omega
   .show(qb _ _ _ _).n=0;unfold qb;repeat' split
    all_goals rfl
   .show(C4 _ _ _ _ _).n=0;unfold C4;repeat' split
    all_goals rfl
end
section
open Go.Conc Go.RowKit
structure Tk where
 bt:Nat
 o:Nat
 kd:Int
 A:Int
 B:Int
 K:aa
 gF:Nat
 cF:Nat
 gS:Nat
 cS:Nat
 bL:Nat
 ad:Option cC
 cap:Nat
 Ls:List (Int×Int)
abbrev Tk.F(T:Tk):dQ:=Sc (J (O T.gF 0 Q)) T.K.nF T.cF
abbrev Tk.S(T:Tk):dQ:=Sc (J (O T.gS 0 Q)) T.K.nS T.cS
abbrev Tk.L(T:Tk):dQ:=.slice T.ad T.Ls.length T.cap
abbrev vi(x:Int):dQ:=Y U x
abbrev ci(x:Int):ou:=.v (Y U x)
structure qz (sft:Nat->Nat) (bW:Nat) (T:Tk) (w:Wd):Prop where
 blk:∃c t,w.heap[T.bt]?=J (.cells c t (0,0))
 sf:sft T.bt=0
 ne:T.bt≠bW
 c0:w.cell? (O T.bt T.o Q)=J (vi T.kd)
 c1:w.cell? (O T.bt (T.o+1) Q)=J (vi T.A)
 c2:w.cell? (O T.bt (T.o+2) Q)=J (vi T.B)
 c4:w.cell? (O T.bt (T.o+4) Q)=J T.F
 c5:w.cell? (O T.bt (T.o+5) Q)=J T.S
 c7:w.cell? (O T.bt (T.o+7) Q)=J T.L
 lt:T.Ls≠[]->T.ad=J (O T.bL 0 Q)/\T.bL<w.heap.size/\T.bL≠bW
 ls:∀j n e,T.Ls[j]?=J (n,e)->w.cell? (O T.bL (j*2) Q)=J (vi n)/\w.cell? (O T.bL (j*2+1) Q)=J (vi e)
 max:T.Ls.length<=7036874417568
 fl:T.gF<w.heap.size/\T.gF≠bW
 fs:∀i,i<T.K.nF->w.cell? (O T.gF (i*6) Q)=J (vi (T.K.F i 0))
 sl:T.gS<w.heap.size/\T.gS≠bW
 ss:∀i,i<T.K.nS->w.rangeAt T.gS (i*20) (P4 T.K i).toList
 mL:Good T.K
 nF:T.K.nF<=32
 nS:T.K.nS<=6
structure qQ (sft:Nat->Nat) (bW:Nat) (T:Tk) (u:Nat) (fv:Vu) (w:Wd):Prop where
 blk:∃c t,w.heap[bW]?=J (.cells c t (0,0))
 c0:w.cell? (O bW 0 Q)=J (Po (J (O T.bt T.o Q)))
 c1:w.cell? (O bW 1 Q)=J (vi u)
 c2:w.cell? (O bW 2 Q)=J fv
structure oU (sft:Nat->Nat) (bW:Nat) (T:Tk) (u:Nat) (fv:Vu) (w:Wd):Prop where
 tk:qz sft bW T w
 wk:qQ sft bW T u fv w
 sf:sft bW=0
 fit:Fit sft w
 new:∀k,w.heap.size<=k->sft k=0
abbrev wρ(a:Nat)(T:Tk):oN:=[(T.bt,T.o),(a,0)]
abbrev tW(T:Tk)(u:Nat)(a:Vu):Mem:=[(0,0,ci T.kd),(0,1,ci T.A),(0,2,ci T.B),(0,4,.v T.F),(0,5,.v T.S),(0,7,.v T.L),(1,0,.p 0 0),(1,1,ci u),(1,2,.v a)]
variable{d:Nat->Nat}{bW:Nat}{T:Tk}{u:Nat}{C:Vu}{w w':Wd}{main:Bool}
theorem oU.pc(h:oU d bW T u C w):zt d [bW] 1 (wρ bW T) (tW T u C) w:=by
 let⟨t,k,g,l,m⟩:=h;refine⟨λe b=>?_,λi a=>?_,λi j a c n=>?_,λi o f=>?_,l,m⟩
 .simp only[tW,ae,ai,or_false]at b;rcases b with rfl|rfl|rfl|rfl|rfl|rfl|rfl|rfl|rfl<;>refine⟨by grind,by first|trivial|exact Nat.zero_lt_two,?_⟩
  .exact t.c0
  .exact t.c1
  .exact t.c2
  .exact t.c4
  .exact t.c5
  .exact t.c7
  .exact k.c0
  .exact k.c1
  .exact k.c2
 .have a:i<2:=a;obtain rfl|rfl:i=0\/i=1:=by omega
  .exact⟨t.blk,t.sf⟩
  .exact⟨k.blk,g⟩
 .have a:i<2:=a;have c:j<2:=c;obtain⟨rfl,rfl⟩|⟨rfl,rfl⟩:(i=0/\j=1)\/(i=1/\j=0):=by omega
  .exact t.ne
  .exact t.ne.symm
 .have f:i<2:=f;obtain rfl:i=1:=by omega
  exact cD.2 Z
def Va(x:Node⊕((Int×Int)×Bool×List (Int×Int))):dQ:=match x with
 | .inr (r,_,_)=>.tuple #[.agg #[vi r.1,vi r.2],.agg #[i0,i0,i0,i0,b0,i0,i0],Bo true]
 | .inl (.call num a b c)=>.tuple #[.agg #[i0,i0],.agg #[vi num,vi a,vi b,vi c,b0,i0,i0],Bo false]
 | .inl (.done _ _)=>Bo false
theorem DV(h:oU d bW T u C w)(E:u<=T.Ls.length)(k a b c:Int):py main d 93 #[Po (J (O bW 0 Q)),vi k,vi a,vi b,vi c] w λx w'=>x=Va (E3 k a b c false (T.Ls.drop u))/\oh d [bW] w w'/\qQ d bW T (if u<T.Ls.length then u+1 else u) C w':=by
 have F:=h.tk.max;refine y7 (sz:=55) (ρ:=wρ bW T) [.c (.p 1 0),.c (ci k),.c (ci a),.c (ci b),.c (ci c)] h.pc (λs l=>?_) eY Z Z Z λStop X cs b' M m=>?_
 .simp only[ae,ai,or_false]at l;rcases l with rfl|rfl|rfl|rfl|rfl<;>first|trivial|exact dU
 refine qp 100 2 [] M Z Z ⟨⟨nQ,by kernel_rfl⟩,by kernel_rfl⟩ λa1 w1 r1 r2 i=>?_
 by_cases g:u<T.Ls.length
 .refine oF i Z (decide_eq_true Za) ?_;obtain⟨n,e,p⟩:∃n e,T.Ls[u]?=J (n,e):=⟨_,_,br g⟩;have q:T.Ls.drop u=(n,e)::T.Ls.drop (u+1):=by
   rw[dV g]
   grind
  let⟨r,t,y⟩:=h.tk.lt (by grind);let⟨H,I⟩:=h.tk.ls u n e p;have z:IntKind.i64.wrap ((u:Int)+1)=((u+1:Nat):Int):=by rw[show(u:Int)+1=((u+1:Nat):Int) by omega];exact I0 Za
  have L:IntKind.i64.wrap (((u+1:Nat):Int) - 1)=(u:Int):=by rw[show((u+1:Nat):Int) - 1=(u:Int) by omega];exact I0 Za
  let⟨bt,o,kd,A,B,K,gF,cF,gS,cS,N,ad,g',P⟩:=T;simp only at r t y H I g q F E p;subst r;have D:IntKind.i64.wrap (IntKind.i64.wrap ((u:Int)+1) - 1)=(u:Int):=by rw[z];exact L
  have R:0<=IntKind.i64.wrap (IntKind.i64.wrap ((u:Int)+1) - 1)/\IntKind.i64.wrap (IntKind.i64.wrap ((u:Int)+1) - 1)<(P.length:Int):=by rw[D];omega
  have S:vO w [bW] N (0+(IntKind.i64.wrap (IntKind.i64.wrap ((u:Int)+1) - 1)).toNat*2) [vi n,vi e]:=by
   rw[D,au,aE];refine⟨t,by simpa using y,λj v hv=>?_⟩
   grind
  refine iN 100 4 [[vi n,vi e]] i Z Z ⟨⟨⟨⟨nQ,R⟩,S⟩,by kernel_rfl⟩,by kernel_rfl⟩ λW G f=>B3 f eY Z Z Z<|m _ _ ⟨?_,f.hJ,?_⟩
  .rw[q];rfl
  .rw[nT g];exact⟨f.blk 1 Z,f.ld 1 0 Z,(f.ld 1 1 Z).trans (congrArg (λx=>J (vi x)) z),f.ld 1 2 Z⟩
 .refine oC i Z (decide_eq_false Za)<|iN 100 4 [] i Z Z nQ λW G f=>B3 f eY Z Z Z<|m _ _ ⟨?_,f.hJ,?_⟩
  .rw[eS Za];rfl
  .rw[nR g];exact⟨f.blk 1 Z,f.ld 1 0 Z,f.ld 1 1 Z,f.ld 1 2 Z⟩
def qf(bW:Nat)(C:Vu)(a:List Int)(w:Wd):Prop:=∃c e,C=.slice c a.length e/\a.length<=e/\(a≠[]->∃b o,c=J (O b o Q)/\b<w.heap.size/\b≠bW/\∀j x,a[j]?=J x->w.cell? (O b (o+j) Q)=J (vi x))
abbrev rh:List (Nat×Nat):=[(0,0),(0,1),(0,2),(0,4),(0,5),(0,7),(1,0),(1,1),(1,2)]
variable{ys:List Int}
theorem qf.hJ(h:qf bW C ys w)(L:oh d [bW] w w'):qf bW C ys w':=by
 let⟨e,f,g,i,k⟩:=h;refine⟨e,f,g,i,λl=>?_⟩;let⟨b,o,m,a,c,n⟩:=k l;exact⟨b,o,m,Zg a L.size,c,λj x p=>(Zf (w:=w) (L.old b a (by simpa using c))).trans (n j x p)⟩
theorem qz.hJ(h:qz d bW T w)(L:oh d [bW] w w'):qz d bW T w':=by
 let⟨c,t,g⟩:=h.blk;have e:=L.old T.bt (Zj g).1 (by simpa using h.ne);have k:=λo=>Zf (w:=w) (w':=w') (a:=(O T.bt o Q)) e;refine⟨⟨c,t,e.trans g⟩,h.sf,h.ne,(k _).trans h.c0,(k _).trans h.c1,(k _).trans h.c2,(k _).trans h.c4,(k _).trans h.c5,(k _).trans h.c7,λp=>?_,λj n x l=>?_,h.max,⟨Zg h.fl.1 L.size,h.fl.2⟩,λi a=>?_,⟨Zg h.sl.1 L.size,h.sl.2⟩,λi a j v q=>?_,h.mL,h.nF,h.nS⟩
 .let⟨m,b,f⟩:=h.lt p;exact⟨m,Zg b L.size,f⟩
 .let⟨m,b,f⟩:=h.lt (λe=>by grind);have e:=L.old T.bL b (by simpa using f);exact⟨(Zf (w:=w) e).trans (h.ls j n x l).1,(Zf (w:=w) e).trans (h.ls j n x l).2⟩
 .exact(Zf (w:=w) (L.old _ h.fl.1 (by simpa using h.fl.2))).trans (h.fs i a)
 .exact(Zf (w:=w) (L.old _ h.sl.1 (by simpa using h.sl.2))).trans (h.ss i a j v q)
theorem oU.hJ(h:oU d bW T u C w)(L:oh d [bW] w w')(b:qQ d bW T a v w'):oU d bW T a v w':=⟨h.tk.hJ L,b,h.sf,L.fit,λk b=>h.new k (Zh L.size b)⟩
theorem Q9{m:Mem}{c:oN}(M:fx d x 1 l (wρ bW T++c) m a N I w)(e:so 2 m [(1,0),(1,1),(1,2)]=J [(1,0,.p 0 0),(1,1,ci u),(1,2,.v C)]):qQ d bW T u C w:=by
 have b:=M.pC 2 [] [(1,0),(1,1),(1,2)] Z Z e;exact⟨b.blk 1 Z,b.ld 1 0 Z,b.ld 1 1 Z,b.ld 1 2 Z⟩
abbrev HK(u:Nat)(C:Vu):Mem:=[(1,0,.p 0 0),(1,1,ci u),(1,2,.v C)]
theorem fx.walked{m c:Mem}{g:oN}(M:fx d x 1 l (wρ bW T++g) m a N I w)(L:oh d [bW] w w')(k:qQ d bW T u C w')(n:Nat)(f:List (Nat×Nat))(A:n=(wρ bW T++g).length)(j:so n m f=J c)(o:(f.all λp=>!aI p.1 1)=true):fx d x 1 l (wρ bW T++g) (HK u C++c) a N I w':=by
 have B:(wρ bW T++g).length=g.length+2:=by simp
 refine M.upd L 1 (af _) Za (λi s t=>?_) (λq v=>by cases Zi v;exact M.own 1 (af _) Za) k.blk λe b=>?_
 .exact λh=>M.ij i 1 s Za t (Zi h)
 .rcases cz.1 b with b|b
  .simp only[ae,ai,or_false]at b;rcases b with rfl|rfl|rfl
   .exact .inr ⟨Z,(by show 0<_;omega),k.c0⟩
   .exact .inr ⟨Z,nQ,k.c1⟩
   .exact .inr ⟨Z,nQ,k.c2⟩
  .have y:∀(f:List (Nat×Nat)) (c:Mem),so n m f=J c->(f.all λp=>!aI p.1 1)=true->∀e∈c,e.1≠1:=by
    intro f
    induction f with
    | nil=>intro c h _ e b;cases Ze h;cases b
    | cons p r D =>
     intro c h z e b;simp only[List.all_cons,aC]at z;unfold so at h;split at h
     .split at h
      .split at h
       .next E F =>
        cases Ze h;rcases ae.1 b with rfl|b
        .intro H
         simp_all
        grind
       .cases h
      .cases h
     .cases h
   exact .inl ⟨(AE j e b).1,y f c j o e b⟩
theorem Ho{u:Nat}{z:Int×Int}(h:P.drop u=z::R):u<P.length/\z∈P/\P.drop (u+1)=R:=by
 have a:u<P.length:=by
  rcases bU u P.length with g|g
  .exact g
  .rw[eS g]at h;cases h
 rw[dV a]at h
 grind
def vm(d:Nat->Nat)(bW:Nat)(T:Tk)(u:Nat)(C:Vu)(ys:List Int)(w':Wd)(x:Vu):Node⊕(((Int×Int)×List Int×List Int)×Bool×List (Int×Int))->Prop
 | .inl (.call n a b c)=>(∃p q,x=.tuple #[.agg #[vi p,vi q],.agg #[vi n,vi a,vi b,vi c,b0,i0,i0],Bo false])/\∃e f,qQ d bW T e f w'
 | .inl (.done _ _)=>False
 | .inr ((z,lf,bk),go,rest)=>go=false/\x=.tuple #[.agg #[vi z.1,vi z.2],.agg #[i0,i0,i0,i0,b0,i0,i0],Bo true]/\∃e f,qQ d bW T e f w'/\rest=T.Ls.drop e/\u<e/\e<=T.Ls.length/\(∀v,qf bW C ys v->qf bW f lf v)/\bk=ys.drop (e - u - 1)
theorem vm.step{y:Int}{t:List Int}{x a:Vu}(b:∀v,qf bW C (y::t) v->qf bW a t v):∀ {r:Node⊕(((Int×Int)×List Int×List Int)×Bool×List (Int×Int))},vm d bW T (u+1) a t w' x r->vm d bW T u C (y::t) w' x r
 | .inl (.call _ _ _ _),h=>h
 | .inl (.done _ _),h=>h
 | .inr ((z,lf,bk),go,rest),⟨h1,h2,u',a,h3,h4,h5,h6,h7,h8⟩=>⟨h1,h2,u',a,h3,h4,by omega,h6,λv c=>h7 v (b v c),by rw[h8,show u' - u - 1=(u' - (u+1) - 1)+1 by omega];rfl⟩
theorem vm.here{e:Int}{y:Int}(a:e≠5)(b:vm d bW T u C (y::o) w' v (.inr (((k,e),o,y::o),e==3,P))):vm d bW T u C (y::o) w' v (H6 f s h i j (y::o) false ((k,e)::P)):=by
 unfold H6 M.bind E3;simp only[aJ,if_false,nR a];exact b
def Ru:List bm:=match Tryz.f92.body with
 | some (.seq _ (.seq (.block i (.loop (.seq (.seq x y) z))) r))=>[.code y,.code z,.inLoop (.seq (.seq x y) z),.inBlock i,.code r]
 | _=>[]
abbrev frE(e a b c:Int)(f n:Int):m7:=[(0,.c (.p 1 0)),(1,.c (ci e)),(2,.c (ci a)),(3,.c (ci b)),(4,.c (ci c)),(5,.c (ci f)),(12,.c (.p 2 0)),(13,.c (.p 3 0)),(14,.c (.v (Bo false))),(28,.c (.v (Bo (decide (0<n)))))]
abbrev CR:Mem:=[(2,0,.v i0),(2,1,.v i0),(3,0,.v i0),(3,1,.v i0),(3,2,.v i0),(3,3,.v i0),(3,4,.v b0),(3,5,.v i0),(3,6,.v i0)]
abbrev sD:List (Nat×Nat):=rh++[(2,0),(2,1),(3,0),(3,1),(3,2),(3,3),(3,4),(3,5),(3,6)]
theorem b7p{Stop:Gr->Wd->Prop}{fr:Fm'}(h:oU d bW T u C w)(h3:pV T.Ls)(E F a' c:Int)(R:Bool):∀(ys:List Int) (u:Nat) (C:Vu) (H:db) (w':Wd),u<=T.Ls.length->qf bW C ys w->ys.length<=32->fx d [bW] 1 w (wρ bW T++[(a,0),(b,0)]) (tW T u C++CR) 83 (frE E F a' c (if R then 2 else 1) ys.length) H w' ->
  (∀x B,oh d [bW] w B->vm d bW T u C ys B x (H6 E R F a' c ys false (T.Ls.drop u))->iv V main true d Stop (G (fr.finish x) A) B)->iv V main true d Stop (G ((aB 92).at H Ru) (fr::A)) w':=by
 intro ys
 induction ys with
 | nil =>
  intro u C H w' S hF hy M g;refine oC M Z Zb<|iN 200 4 [] M Z Z nQ λa1 w1 i=>A4 i (DV (h.hJ i.hJ (Q9 i Z)) S 1 0 0 0) Z Z Z eY Z Z Z Z Z λx w2 W=>?_;obtain⟨rfl,L,k⟩:=W;have m:=i.walked L k 4 [(2,0),(2,1),(3,0),(3,1),(3,2),(3,3),(3,4),(3,5),(3,6)] Z Z Z
  cases o:T.Ls.drop u with
  | nil =>
   rw[o]at g;refine E7 m 4 (.t [.g [ci 0,ci 0],.g [ci 1,ci 0,ci 0,ci 0,.v b0,.v i0,.v i0],.c (.v (Bo false))]) Z Z Z Z Z λX p=>qp 200 4 [] p Z Z ⟨⟨nQ,by kernel_rfl⟩,by kernel_rfl⟩ λa4 w4 I K f=>B3 f dR Z Z Z<|g _ _ f.hJ ⟨⟨0,10,Z⟩,_,_,Q9 f Z⟩
  | cons z s =>
   let⟨n,e⟩:=z;let⟨N,hz,P⟩:=Ho o;rw[o]at g;rw[nT N]at m;refine E7 m 4 (.t [.g [ci n,ci e],.g [.v i0,.v i0,.v i0,.v i0,.v b0,.v i0,.v i0],.c (.v (Bo true))]) Z Z Z Z Z λX p=>qp 200 4 [] p Z Z ⟨⟨nQ,by kernel_rfl⟩,by kernel_rfl⟩ λa4 w4 I K f=>B3 f dR Z Z Z<|g _ _ f.hJ ⟨?_,Z,u+1,C,Q9 f Z,P.symm,by omega,by omega,?_,?_⟩
   .simpa using h3 (n,e) hz
   all_goals grind
 | cons y t ih =>
  intro u C H w' S hF hy M g;refine oF M Z (decide_eq_true Zc) ?_;obtain⟨ad,D,rfl,d',h'⟩:=hF;obtain⟨q,r,rfl,g1,g2,g3⟩:=h' Zc;have hN:∀v,qf bW (Sc (J (O q r Q)) (y::t).length D) (y::t) v->qf bW (.slice (if D=jP 1 then J (O q r Q) else J (O q (r+jP 1*1) Q)) ((y::t).length - jP 1) (D - jP 1)) t v:=by
   rintro v ⟨ad,i',e,d',hq⟩;injection e with e _ e'
   subst e e';let⟨b2,o2,e,g1,g2,g3⟩:=hq Zc;injection e with e
   injection e with e e'
   subst e e';simp only[bQ]at d';refine⟨_,D - 1,Z,by omega,λht=>?_⟩;have:t.length≠0:=λe=>ht (dM e);exact⟨q,r+1,nR (by grind),g1,g2,λj x hj=>by rw[show r+1+j=r+(j+1) by omega];simp_all⟩
  have hc:sM w [bW] (O q (r+jP 0*1) Q) (vi y):=⟨g1,by simpa using g2,g3 0 y Z⟩;have q0:(0:Int)<=0/\(0:Int)<((y::t).length:Nat):=by rw[bQ];omega
  have q1:(0:Int)<=1/\(1:Int)<=((y::t).length:Nat):=by rw[bQ];omega
  have p0:(0:Int)<=0/\(0:Int)<(3:Nat):=by decide
  have p1:(0:Int)<=1/\(1:Int)<(3:Nat):=by decide
  have p2:(0:Int)<=2/\(2:Int)<(3:Nat):=by decide
  cases R
  all_goals
   refine sq 200 4 [[vi y]] M Z Z ⟨⟨⟨⟨⟨⟨⟨nQ,q0⟩,hc⟩,q1⟩,by grind⟩,p0⟩,p1⟩,p2⟩ λa1 w1 q i=>A4 i (DV (h.hJ i.hJ (Q9 i Z)) S E F _ _) Z Z Z eY Z Z Z Z Z λx w2 W=>?_;obtain⟨rfl,L,k⟩:=W;have m:=i.walked L k 5 [(0,0),(0,1),(0,2),(0,4),(0,5),(0,7),(2,0),(2,1),(3,0),(3,1),(3,2),(3,3),(3,4),(3,5),(3,6)] Z Z Z
   cases o:T.Ls.drop u with
   | nil =>
    rw[o]at g;refine E7 m 5 (.t [.g [ci 0,ci 0],.g [ci E,ci F,ci _,ci _,.v b0,.v i0,.v i0],.c (.v (Bo false))]) Z Z Z Z Z λX p=>qp 200 5 [] p Z Z nQ λa4 w4 I K f=>oF f Z Z<|iN 200 7 [] f Z Z ⟨⟨nQ,by kernel_rfl⟩,by kernel_rfl⟩ λa5 w5 l=>B3 l dR Z Z Z<|g _ _ l.hJ ⟨⟨0,0,Z⟩,_,_,Q9 l Z⟩
   | cons z s =>
    let⟨n,e⟩:=z;let⟨N,hz,P⟩:=Ho o;rw[o]at g;rw[nT N]at m;refine E7 m 5 (.t [.g [ci n,ci e],.g [.v i0,.v i0,.v i0,.v i0,.v b0,.v i0,.v i0],.c (.v (Bo true))]) Z Z Z Z Z λX p=>qp 200 5 [] p Z Z nQ λa4 w4 I K f=>?_
    by_cases he:e=5
    .subst he;refine oC f Z Z<|iN 200 7 [] f Z Z nQ λa5 w5 l=>ih (u+1) _ a5 w5 N (hN w ⟨_,D,Z,d',h'⟩) (by simp at hy;omega) (fx.pC (ρ:=wρ bW T++[(a,0),(b,0)]) (ρ2:=[(q,0),(I,0),(K,0)]) l 4 [0,1,2,3,4,5,12,13,14,28] sD Z Z Z) λx B h1 h2=>g x B h1 ?_;rw[P]at h2;exact vm.step hN h2
    .refine oF f Z (by simpa using he)<|iN 200 7 [] f Z Z ⟨⟨nQ,by kernel_rfl⟩,by kernel_rfl⟩ λa5 w5 l=>B3 l dR Z Z Z<|g _ _ l.hJ (vm.here he ⟨by simpa using h3 (n,e) hz,Z,u+1,_,Q9 l Z,P.symm,by omega,by omega,hN,by simp⟩)
theorem NU:∀ {ys:List Int} {hs:List (Int×Int)} {z:Int×Int} {c b:List Int} {g:Bool} {k:List (Int×Int)},H6 f s h i j ys false hs=.inr ((z,c,b),g,k)->z.2≠10->b≠[]
 | [],hs,z,c,b,g,k,a,h0=>by
  cases hs with
  | nil=>cases a
  | cons x l =>
   injection a with a
   grind
 | y::t,hs,z,c,b,g,k,a,h0=>by
  cases hs with
  | nil=>cases a
  | cons x l =>
   let⟨n,e⟩:=x
   by_cases m:e=5
   .subst m;exact NU (ys:=t) (hs:=l) a h0
   .have a:(if e=5 then H6 f s h i j t else M.pure ((n,e),t,y::t)) (e==3) l=.inr ((z,c,b),g,k):=a;rw[nR m]at a;injection a with a
    grind
theorem EH(h:oU d bW T u C w)(j:pV T.Ls)(k:u<=T.Ls.length)(hF:qf bW C ys w)(l:ys.length<=32)(e a b c:Int)(f:Bool):py main d 92 #[Po (J (O bW 0 Q)),vi e,vi a,vi b,vi c,vi (if f then 2 else 1)] w λx w'=>oh d [bW] w w'/\vm d bW T u C ys w' x (H6 e f a b c ys false (T.Ls.drop u)):=by
 obtain⟨m,n,rfl,o,p⟩:=hF;refine y7 (sz:=83) (ρ:=wρ bW T) [.c (.p 1 0),.c (ci e),.c (ci a),.c (ci b),.c (ci c),.c (ci (if f then 2 else 1))] h.pc (λs i=>?_) dR Z Z Z λStop A B D M q=>?_
 .simp only[ae,ai,or_false]at i;rcases i with rfl|rfl|rfl|rfl|rfl|rfl<;>first|trivial|exact dU
 refine qp 200 2 [] M Z Z nQ λr t E F g=>?_;have g:=g.oH 4 [0,1,2,3,4,5,12,13,14,28] sD Z Z Z;exact b7p h j e a b c f ys u _ r t k ⟨m,n,Z,o,p⟩ l g λx v y z=>q x v ⟨y,z⟩
abbrev Gs(e a b c:Int):Sv:=.t [.g [ci 0,ci 0],.g [ci e,ci a,ci b,ci c,.v b0,.v i0,.v i0],.c (.v (Bo false))]
abbrev we(n e:Int):Sv:=.t [.g [ci n,ci e],.g [.v i0,.v i0,.v i0,.v i0,.v b0,.v i0,.v i0],.c (.v (Bo true))]
variable{H:Wd}{ρ2:oN}{m N:Mem}{F:Nat}{I b':m7}{A:db}{P:Array aN}{Stop:Gr->Wd->Prop}{f:bF}{k:List bm}{E:List Fm'}{i D:Nat}{L:List Nat}{o:aN}{S:Array aU}{X:Array Ti}
theorem vq(h:oU d bW T u C w)(W:pV T.Ls)(M:fx d x 1 H (wρ bW T++ρ2) m F I A w)(hu:u<=T.Ls.length)(n:Nat)(r:List (Nat×Nat))(l a b c:Int){K:Int->Int->m7}(t:n=(wρ bW T++ρ2).length)(hm:so n m r=J N)(h1:(r.all λp=>!aI p.1 1)=true)(ho:P[i]?=J o)(hg:o.guard=Q)(e':o.op=.call { callee:=.value (.func 93),args:=S,argTypes:=X })(ha:(S.toList.map λj=>(ql I j).map (·.den (wρ bW T++ρ2)))=[J (Po (J (O bW 0 Q))),J (vi l),J (vi a),J (vi b),J (vi c)])(hd:o.dst=J D)(v:cJ D F=true)(hW:qU D (Gs l a b c) I=J b')(hA:∀n e,qU D (we n e) I=J (K n e))(f':T.Ls.drop u=[]->∀g w',oh d [bW] w w'->fx d x 1 H (wρ bW T++ρ2) (HK u C++N) F b' g w'->iv V main true d Stop (G ((aB f).at g (.inRegion P L::k)) E) w')(g':∀n e s,T.Ls.drop u=(n,e)::s->u<T.Ls.length->e≠3->T.Ls.drop (u+1)=s->∀g w',oh d [bW] w w'->fx d x 1 H (wρ bW T++ρ2) (HK (u+1) C++N) F (K n e) g w'->iv V main true d Stop (G ((aB f).at g (.inRegion P L::k)) E) w') :
  iv V main true d Stop (G ((aB f).at A (.inRegion P (i::L)::k)) E) w:=by
 refine A4 M (DV h hu l a b c) ho hg e' eY Z Z ha hd v λj w2 hp=>?_;obtain⟨rfl,y,k⟩:=hp;have q:=M.walked y k n r t hm h1
 cases B:T.Ls.drop u with
 | nil =>
  rw[nR (by simp_all)]at q;exact E7 q n (Gs l a b c) t Z v Z hW (λg=>f' B g _ y)
 | cons z s =>
  let⟨j,e⟩:=z;let⟨R,hz,hs⟩:=Ho B;rw[nT R]at q;exact E7 q n (we j e) t Z v Z (hA j e) λg=>g' j e s B R (W (j,e) hz) hs g _ y
def Ik(d:Nat->Nat)(bW:Nat)(T:Tk)(C:Vu)(w':Wd)(x:Vu):Node⊕((Int×Int)×Bool×List (Int×Int))->Prop
 | .inl (.call n a b c)=>(∃p q,x=.tuple #[.agg #[vi p,vi q],.agg #[vi n,vi a,vi b,vi c,b0,i0,i0],Bo false])/\∃e g,qQ d bW T e g w'
 | .inl (.done _ _)=>False
 | .inr (z,go,rest)=>go=false/\x=.tuple #[.agg #[vi z.1,vi z.2],.agg #[i0,i0,i0,i0,b0,i0,i0],Bo true]/\∃e,qQ d bW T e C w'/\rest=T.Ls.drop e/\e<=T.Ls.length
def So:List bm:=match Tryz.f109.body with
 | some (.seq _ (.seq (.seq _ (.block i (.loop (.seq (.seq x y) z)))) r))=>[.code y,.code z,.inLoop (.seq (.seq x y) z),.inBlock i,.code r]
 | _=>[]
def d1e:List bm:=match Tryz.f109.body with
 | some (.seq _ (.seq _ (.seq (.seq _ (.block i (.loop (.seq (.seq x y) z)))) r)))=>[.code y,.code z,.inLoop (.seq (.seq x y) z),.inBlock i,.code r]
 | _=>[]
abbrev KH(a:Int)(c e:Vu)(t b:Nat)(j n:Nat):m7:=[(0,.c (.p 1 0)),(1,.c (ci a)),(2,.c (.v c)),(3,.c (.v e)),(8,.c (.p 2 0)),(9,.c (.p 3 0)),(10,.c (.v (Bo false))),(t,.c (ci j)),(b,.c (.v (Bo (decide ((j:Int)<(n:Int))))))]
variable{pv fl:Vu}{b' c':List Int}{slot:Int}{fr:Fm'}{r1 r2:Nat}
theorem Pf{slot n e:Int}{f:Unit->M y}(a:e≠3):((rM h slot (j::p)).bind f) false ((n,e)::R)=((rM h slot p).bind f) false R:=by
 show((rM h slot p).bind f) (e==3) R=_
 grind
theorem Ot{t:List Int}(b:p.drop a=h::t):p[a]?=J h/\p.drop (a+1)=t:=by
 have c:a<p.length:=by
  rcases bU a p.length with g|g
  .exact g
  .rw[eS g]at b;cases b
 rw[dV c]at b
 grind
theorem qf.at(c:qf bW C b' w)(p:b'[a]?=J h):∃b o g,C=Sc (J (O b o Q)) b'.length g/\a<b'.length/\sM w [bW] (O b (o+(a:Int).toNat*1) Q) (vi h):=by
 obtain⟨q,g,rfl,r,c⟩:=c;have j:a<b'.length:=by
  grind
 obtain⟨b,o,rfl,l,n,s⟩:=c (λe=>by grind);exact⟨b,o,g,Z,j,l,by simpa using n,by grind⟩
theorem U2(h:oU d bW T u C w)(h3:pV T.Ls)(hF:qf bW fl c' w)(h4:c'.length<=4):∀(z:List Int) (j u:Nat) (A:db) (w':Wd),c'.drop j=z->u<=T.Ls.length->fx d [bW] 1 w (wρ bW T++[(r1,0),(r2,0)]) (tW T u C++CR) 69 (KH slot pv fl 15 44 j c'.length) A w' ->
  (∀x r,oh d [bW] w r->Ik d bW T C r x (((rM 11 slot z).bind λ_=>E3 12 slot 0 0) false (T.Ls.drop u))->iv V main true d Stop (G (fr.finish x) E) r)->iv V main true d Stop (G ((aB 109).at A d1e) (fr::E)) w':=by
 intro z
 induction z with
 | nil =>
  intro j u A w' B K M c;have hl:c'.length<=j:=by simpa using B
  refine oC M Z (decide_eq_false Za)<|iN 200 4 [] M Z Z nQ λa1 w1 g=>vq (h.hJ g.hJ (Q9 g Z)) h3 g K 4 (sD.filter λp=>!aI p.1 1) 12 slot 0 0 Z Z Z Z Z Z Z Z Z Z (λ_ _=>rfl) (λl R W _ q=>?_) λn e s l a' he hs R W _ q=>?_
  .rw[l]at c;refine iN 200 4 [] q Z Z nQ λa3 w3 a=>B3 a eR Z Z Z<|c _ _ a.hJ ⟨⟨0,0,Z⟩,_,_,Q9 a Z⟩
  .rw[l]at c;refine iN 200 4 [] q Z Z nQ λa3 w3 a=>B3 a eR Z Z Z<|c _ _ a.hJ ⟨by simpa using he,Z,u+1,Q9 a Z,hs.symm,a'⟩
 | cons y t ih =>
  intro j u A w' B K M c;let⟨hy,ht⟩:=Ot B;obtain⟨b,o,i',rfl,hl,hc⟩:=hF.at hy;have e1:=C9 (n:=j) Za;refine oF M Z (decide_eq_true Za)<|iN 200 4 [[vi y]] M Z Z ⟨⟨nQ,by omega⟩,hc⟩ λa1 w1 g=>vq (h.hJ g.hJ (Q9 g Z)) h3 g K 4 (sD.filter λp=>!aI p.1 1) 11 slot y 0 Z Z Z Z Z Z Z Z Z Z (λ_ _=>rfl) (λl R W _ q=>?_) λn e s l a' he hs R W _ q=>?_
  .rw[l]at c;refine qp 200 4 [] q Z Z nQ λa3 w3 b3 b4 a=>oF a Z Z<|iN 200 6 [] a Z Z ⟨⟨nQ,by kernel_rfl⟩,by kernel_rfl⟩ λa4 w4 v=>B3 v eR Z Z Z<|c _ _ v.hJ ⟨⟨0,0,Z⟩,_,_,Q9 v Z⟩
  .refine qp 200 4 [] q Z Z nQ λa3 w3 b3 b4 a=>oC a Z Z<|iN 200 6 [] a Z Z nQ λa4 w4 v=>?_;have M5:=fx.pC (ρ:=wρ bW T++[(r1,0),(r2,0)]) (ρ2:=[(b3,0),(b4,0)]) v 4 [0,1,2,3,8,9,10,15,44] sD Z Z Z;rw[e1]at M5;refine ih (j+1) (u+1) a4 w4 ht a' M5 λx r h1 h2=>c x r h1 ?_;rw[hs]at h2;rw[l,Pf he];exact h2
theorem Rd(h:oU d bW T u C w)(W:pV T.Ls)(hF:qf bW pv b' w)(h4:b'.length<=4)(i':qf bW fl c' w)(j':c'.length<=4):∀(r:List Int) (j u:Nat) (A:db) (w':Wd),b'.drop j=r->u<=T.Ls.length->fx d [bW] 1 w (wρ bW T++[(r1,0),(r2,0)]) (tW T u C++CR) 69 (KH slot pv fl 11 22 j b'.length) A w' ->
  (∀x a,oh d [bW] w a->Ik d bW T C a x (((rM 10 slot r).bind λ_=>(rM 11 slot c').bind λ_=>E3 12 slot 0 0) false (T.Ls.drop u))->iv V main true d Stop (G (fr.finish x) E) a)->iv V main true d Stop (G ((aB 109).at A So) (fr::E)) w':=by
 intro r
 induction r with
 | nil =>
  intro j u A w' v z M c;have hl:b'.length<=j:=by simpa using v
  obtain⟨ad,a',rfl,B,hq⟩:=i';refine oC M Z (decide_eq_false Za)<|iN 200 4 [] M Z Z nQ λa1 w1 g=>U2 h W ⟨ad,a',Z,B,hq⟩ j' c' 0 u a1 w1 Z z (g.oH 4 [0,1,2,3,8,9,10,15,44] sD Z Z Z) c
 | cons y t ih =>
  intro j u A w' v z M c;let⟨hy,ht⟩:=Ot v;obtain⟨b,o,a',rfl,hl,B⟩:=hF.at hy;have e1:=C9 (n:=j) Za;refine oF M Z (decide_eq_true Za)<|iN 200 4 [[vi y]] M Z Z ⟨⟨nQ,by omega⟩,B⟩ λa1 w1 g=>vq (h.hJ g.hJ (Q9 g Z)) W g z 4 (sD.filter λp=>!aI p.1 1) 10 slot y 0 Z Z Z Z Z Z Z Z Z Z (λ_ _=>rfl) (λK a2 w2 _ R=>?_) λn e s K k' he hs a2 w2 _ R=>?_
  .rw[K]at c;refine qp 200 4 [] R Z Z nQ λa3 w3 b3 b4 l=>oF l Z Z<|iN 200 6 [] l Z Z ⟨⟨nQ,by kernel_rfl⟩,by kernel_rfl⟩ λa4 w4 q=>B3 q eR Z Z Z<|c _ _ q.hJ ⟨⟨0,0,Z⟩,_,_,Q9 q Z⟩
  .refine qp 200 4 [] R Z Z nQ λa3 w3 b3 b4 l=>oC l Z Z<|iN 200 6 [] l Z Z nQ λa4 w4 q=>?_;have M5:=fx.pC (ρ:=wρ bW T++[(r1,0),(r2,0)]) (ρ2:=[(b3,0),(b4,0)]) q 4 [0,1,2,3,8,9,10,11,22] sD Z Z Z;rw[e1]at M5;refine ih (j+1) (u+1) a4 w4 ht k' M5 λx a h1 h2=>c x a h1 ?_;rw[hs]at h2;rw[K,Pf he];exact h2
theorem PW(h:oU d bW T u C w)(b:pV T.Ls)(c:u<=T.Ls.length)(hF:qf bW pv b' w)(e:b'.length<=4)(g:qf bW fl c' w)(j:c'.length<=4):py main d 109 #[Po (J (O bW 0 Q)),vi slot,pv,fl] w λx w'=>oh d [bW] w w'/\Ik d bW T C w' x (J7 slot b' c' false (T.Ls.drop u)):=by
 have l:=hF;obtain⟨n,p,rfl,K,R⟩:=hF;refine y7 (sz:=69) (ρ:=wρ bW T) [.c (.p 1 0),.c (ci slot),.c (.v (.slice n b'.length p)),.c (.v fl)] h.pc (λs a=>?_) eR Z Z Z λStop fr E A M q=>?_
 .simp only[ae,ai,or_false]at a;rcases a with rfl|rfl|rfl|rfl<;>first|trivial|exact dU
 refine qp 200 2 [] M Z Z nQ λr t r1 r2 v=>Rd h b l e g j b' 0 u r t Z c (v.oH 4 [0,1,2,3,8,9,10,11,22] sD Z Z Z) λx y z B=>q x y ⟨z,B⟩
def Ca(d:Nat->Nat)(bW:Nat)(T:Tk)(C:Vu)(ys:List Int)(w':Wd)(x:Vu):Node⊕((Int×(Int×Int)×List Int)×Bool×List (Int×Int))->Prop
 | .inl (.call n a b c)=>(∃r p q,x=.tuple #[vi r,.agg #[vi p,vi q],.agg #[vi n,vi a,vi b,vi c,b0,i0,i0],Bo false])/\∃e g,qQ d bW T e g w'
 | .inl (.done _ _)=>False
 | .inr ((i,z,lf),go,rest)=>go=false/\x=.tuple #[vi i,.agg #[vi z.1,vi z.2],.agg #[i0,i0,i0,i0,b0,i0,i0],Bo true]/\∃e g,qQ d bW T e g w'/\rest=T.Ls.drop e/\e<=T.Ls.length/\lf.length<=ys.length/\∀v,qf bW C ys v->qf bW g lf v
def Qz:List bm:=match Tryz.f108.body with
 | some (.seq _ (.seq (.seq _ (.block i (.loop (.seq (.seq x y) z)))) r))=>[.code y,.code z,.inLoop (.seq (.seq x y) z),.inBlock i,.code r]
 | _=>[]
abbrev QM(i n:Nat):m7:=[(0,.c (.p 1 0)),(2,.c (ci 0)),(3,.c (.p 2 0)),(4,.c (.p 3 0)),(5,.c (.v (Bo false))),(6,.c (ci i)),(25,.c (.v (Bo (decide ((i:Int)<(n:Int))))))]
theorem Q0(m:M y)(f:y->M z)(b:Bool)(h:List (Int×Int)):(m.bind f) b h=match m b h with
 | .inl x=>.inl x
 | .inr (a,go',h')=>f a go' h':=Z
theorem Ka{n:Int}(a:0<=n)(h:n<9223372036854775808):IntKind.i64.wrap n=n:=by
 simp[IntKind.wrap,IntKind.bits,IntKind.signed];omega
theorem Ya{b o cap:Nat}(g:a<ys.length)(v:Wd)(h:qf bW (Sc (J (O b o Q)) ys.length cap) ys v):qf bW (.slice (if cap=a then J (O b o Q) else J (O b (o+a*1) Q)) (ys.length - a) (cap - a)) (ys.drop a) v:=by
 let⟨n,p,e,r,h⟩:=h;injection e with e _ c
 subst e c;let⟨s,t,e,j,l,y⟩:=h (λe=>by rw[e]at g;cases g);injection e with e
 injection e with e c
 subst e c;refine⟨_,_,by rw[hY],by rw[hY];omega,λ_=>⟨b,o+a,by grind,j,l,λq x z=>?_⟩⟩
 grind
theorem Gi{b c:Int}:∀ {ys:List Int} {hs:List (Int×Int)} {z:Int×Int} {g l:List Int} {p:Bool} {q:List (Int×Int)},H6 h s j b c ys false hs=.inr ((z,g,l),p,q)->g.length<=ys.length
 | [],hs,z,g,l,p,q,a=>by
  cases hs with
  | nil=>cases a
  | cons x r =>
   injection a with a
   grind
 | y::t,hs,z,g,l,p,q,a=>by
  cases hs with
  | nil=>cases a
  | cons x r =>
   let⟨n,e⟩:=x
   by_cases v:e=5
   .subst v;exact Nat.le_succ_of_le (Gi (ys:=t) (hs:=r) a)
   .have a:(if e=5 then H6 h s j b c t else M.pure ((n,e),t,y::t)) (e==3) r=.inr ((z,g,l),p,q):=a;rw[nR v]at a;injection a with a
    grind
theorem Ca.mono{x:Vu}(b:p.length<=ys.length)(c:∀a,qf bW C ys a->qf bW v p a):∀ {r:Node⊕((Int×(Int×Int)×List Int)×Bool×List (Int×Int))},Ca d bW T v p w' x r->Ca d bW T C ys w' x r
 | .inl (.call _ _ _ _),h=>h
 | .inl (.done _ _),h=>h
 | .inr ((i,z,lf),go,rest),⟨h1,h2,u',v,h3,h4,h5,h6,h7⟩=>⟨h1,h2,u',v,h3,h4,h5,Zh h6 b,λa e=>h7 a (c a e)⟩
theorem qz.slo(h:qz d bW T w){i:Nat}(a:i<T.K.nS)(j:Nat)(b:(P4 T.K i).toList[j]?=J v):sM w [bW] (O T.gS (0+(i:Int).toNat*20+j) Q) v:=⟨h.sl.1,by simpa using h.sl.2,by rw[aE,au];exact h.ss i a j v b⟩
theorem Qe(h:oU d bW T u C w)(h3:pV T.Ls):∀(f i:Nat) (ys:List Int) (u:Nat) (C:Vu) (A:db) (w':Wd),i+f=T.K.nS->u<=T.Ls.length->qf bW C ys w->ys.length<=32->fx d [bW] 1 w (wρ bW T++[(r1,0),(r2,0)]) (tW T u C++CR) 89 (QM i T.K.nS) A w' ->
  (∀x K,oh d [bW] w K->Ca d bW T C ys K x (tO T.K f i ys false (T.Ls.drop u))->iv V main true d Stop (G (fr.finish x) E) K)->iv V main true d Stop (G ((aB 108).at A Qz) (fr::E)) w':=by
 have h6:=h.tk.nS;have r':=h.tk.max;intro f
 induction f with
 | zero =>
  intro i ys u C A w' hi R hF hy M g;refine oC M Z (decide_eq_false Za)<|iN 200 4 [] M Z Z nQ λa1 w1 t=>vq (h.hJ t.hJ (Q9 t Z)) h3 t R 4 (sD.filter λp=>!aI p.1 1) 1 0 0 0 Z Z Z Z Z Z Z Z Z Z (λ_ _=>rfl) (λhd W w2 _ l=>?_) λn e s hd j' he hs W w2 _ l=>?_
  .rw[hd]at g;refine qp 200 4 [] l Z Z ⟨⟨nQ,by kernel_rfl⟩,by kernel_rfl⟩ λa3 w3 b3 b4 j=>B3 j fI Z Z Z<|g _ _ j.hJ ⟨⟨0,0,10,Z⟩,_,_,Q9 j Z⟩
  .rw[hd]at g;refine qp 200 4 [] l Z Z ⟨⟨nQ,by kernel_rfl⟩,by kernel_rfl⟩ λa3 w3 b3 b4 j=>B3 j fI Z Z Z<|g _ _ j.hJ ⟨by simpa using he,Z,u+1,C,Q9 j Z,hs.symm,j',af _,λv hv=>hv⟩
 | succ f ih =>
  intro i ys u C A w' hi R hF hy M g;have hc:=h.tk.slo (i:=i) Za 0 Z;have e1:=C9 (n:=i) Za;refine oF M Z (decide_eq_true Za)<|iN 200 4 [[vi (T.K.S i 0)]] M Z Z ⟨⟨nQ,by omega⟩,hc⟩ λa1 w1 t=>?_;unfold tO at g
  by_cases h0:T.K.S i 0=0
  .rw[nT h0]at g;refine oF t Z (by simpa using h0) ?_;have k':=hF;obtain⟨ad,o',rfl,s',hq⟩:=hF;refine iN 200 4 [] t Z Z nQ λW w2 l=>A4 l (EH (h.hJ l.hJ (Q9 l Z)) h3 R (k'.hJ l.hJ) hy 5 i 0 0 false) Z Z Z dR Z Z Z Z Z λx w3 z=>?_;let⟨L,z⟩:=z;rw[Q0]at g;rcases hR:H6 5 false i 0 0 ys false (T.Ls.drop u) with nd|⟨⟨⟨zn,ze⟩,lf,bk⟩,go,y'⟩
   .rw[hR]at z g
    cases nd with
    | done _ _=>exact z.elim
    | call n a b c =>
     obtain⟨⟨p,q,rfl⟩,y,l',k⟩:=z;have j:=l.walked L k 4 (sD.filter λp=>!aI p.1 1) Z Z Z;refine E7 j 4 (.t [.g [ci p,ci q],.g [ci n,ci a,ci b,ci c,.v b0,.v i0,.v i0],.c (.v (Bo false))]) Z Z Z Z Z λa4 M4=>qp 200 4 [] M4 Z Z nQ λa5 w5 b5 b6 B=>oF B Z Z<|iN 200 6 [] B Z Z ⟨⟨nQ,by kernel_rfl⟩,by kernel_rfl⟩ λa6 w6 r=>B3 r fI Z Z Z<|g _ _ r.hJ ⟨⟨i,p,q,Z⟩,_,_,Q9 r Z⟩
   .rw[hR]at z g;obtain⟨rfl,rfl,y,l',k,hr,j',m',p',q'⟩:=z;have j:=l.walked L k 4 (sD.filter λp=>!aI p.1 1) Z Z Z;refine E7 j 4 (we zn ze) Z Z Z Z Z λa4 M4=>qp 200 4 [] M4 Z Z nQ λa5 w5 b5 b6 B=>?_
    by_cases h7:ze=7
    .subst h7;refine oC B Z Z ?_;have hj:y - u - 1<ys.length:=by
      have:=NU hR (show(7:Int)≠10 by decide)
      simp_all
     obtain⟨b,o,rfl,_⟩:=hq (λe=>by rw[e]at hj;cases hj);have n':=λv=>Ya (bW:=bW) (ys:=ys) (b:=b) (o:=o) (cap:=o') hj v;have e4:IntKind.i64.wrap (IntKind.i64.wrap ((y:Int) - (u:Int)) - 1)=((y - u - 1:Nat):Int):=by
      rw[Ka (n:=(y:Int) - u) Za Za,Ka Za Za];omega
     refine iN 200 6 [] B Z Z ⟨nQ,by rw[e4];omega⟩ λa6 w6 r=>?_;have M7:=fx.pC (ρ:=wρ bW T++[(r1,0),(r2,0)]) (ρ2:=[(b5,0),(b6,0)]) r 4 [0,2,3,4,5,6,25] sD Z Z Z;rw[e1,e4,au]at M7;refine ih (i+1) (ys.drop (y - u - 1)) y _ a6 w6 Za m' (n' w k') (by rw[hY];omega) M7 λx K h1 h2=>g x K h1 ?_;rw[q',hr];exact h2.mono (by rw[hY];omega) n'
    .refine oF B Z (by simpa using h7)<|iN 200 6 [] B Z Z ⟨⟨nQ,by kernel_rfl⟩,by kernel_rfl⟩ λa6 w6 r=>B3 r fI Z Z Z<|g _ _ r.hJ ?_;simp only[nR h7];exact⟨Z,Z,y,l',Q9 r Z,hr,m',Gi hR,p'⟩
  .rw[nR h0]at g;refine oC t Z (by simpa using h0)<|iN 200 4 [] t Z Z nQ λW w2 l=>?_;have j:=l.oH 4 [0,2,3,4,5,6,25] sD Z Z Z;rw[e1]at j;exact ih (i+1) ys u C W w2 Za R hF hy j g
theorem Ty(h:oU d bW T u C w)(a:pV T.Ls)(b:u<=T.Ls.length)(hF:qf bW C ys w)(c:ys.length<=32):py main d 108 #[Po (J (O bW 0 Q))] w λx w'=>oh d [bW] w w'/\Ca d bW T C ys w' x (tO T.K T.K.nS 0 ys false (T.Ls.drop u)):=by
 refine y7 (sz:=89) (ρ:=wρ bW T) [.c (.p 1 0)] h.pc (λs e=>?_) fI Z Z Z λStop fr E A M g=>?_
 .cases Zi e;exact dU
 refine qp 200 2 [] M Z Z nQ λj l r1 r2 n=>Qe h a T.K.nS 0 ys u C j l Za b hF c (n.oH 4 [0,2,3,4,5,6,25] sD Z Z Z) λx p q r=>g x p ⟨q,r⟩
def sI(x:Vu):Node⊕((Int×Int)×Bool×List (Int×Int))->Prop
 | .inl (.call n a b c)=>x=.agg #[vi n,vi a,vi b,vi c,b0,i0,i0]
 | .inl (.done _ _)=>False
 | .inr (z,go,rest)=>x=.agg #[i0,i0,i0,i0,Bo true,vi z.1,vi z.2]
abbrev Kf(v e:Int):List ou:=[.v i0,.v i0,.v i0,.v i0,.v (Bo true),ci v,ci e]
def wdK:List bm:=match Tryz.f91.body with
 | some (.seq _ (.seq _ (.seq _ (.block i (.loop c)))))=>[.code c,.inLoop c,.inBlock i]
 | _=>[]
theorem c0j(g:Fit d w)(h:∀k,w.heap.size<=k->d k=0)(v e:Int):py main d 94 #[vi v,vi e] w λx w'=>x=.agg #[i0,i0,i0,i0,Bo true,vi v,vi e]/\oh d [] w w':=by
 refine y7 (sz:=8) (ρ:=[]) (m:=[]) (W:=[]) (ro:=0) [.c (ci v),.c (ci e)] ⟨λe l=>(by cases l),λi a=>(by cases a),λi j a=>(by cases a),λi _ a=>(by cases a),g,h⟩ (λs b=>?_) lY Z Z Z λStop fr E A M n=>?_
 .simp only[ae,ai,or_false]at b;rcases b with rfl|rfl<;>trivial
 refine sq 100 0 [] M Z Z nQ λp q r c=>B3 c lY Z Z Z<|n _ _ ⟨Z,c.hJ⟩
theorem ui{H:Wd}{b:oN}{m:Mem}{F:Nat}{I g:m7}{A:db}{P:Array aN}{f:bF}{k:List bm}{i D:Nat}{L:List Nat}{o:aN}{S:Array aU}{X:Array Ti}(v e:Int)(M:fx d x a H b m F I A w)(l:P[i]?=J o)(n:o.guard=Q)(p:o.op=.call { callee:=.value (.func 94),args:=S,argTypes:=X })(q:(S.toList.map λh=>(ql I h).map (·.den b))=[J (vi v),J (vi e)])(r:o.dst=J D)(j:cJ D F=true)(s:qU D (.g (Kf v e)) I=J g)(t:∀c w',fx d x a H b m F g c w'->iv V main true d Stop (G ((aB f).at c (.inRegion P L::k)) E) w'):iv V main true d Stop (G ((aB f).at A (.inRegion P (i::L)::k)) E) w:=by
 refine A4 M (c0j M.fit (λk y=>M.new k (Zh M.size y)) v e) l n p lY Z Z q r j λh K z=>?_;obtain⟨rfl,B⟩:=z;exact E7 (M.still B) b.length (.g (Kf v e)) Z Z j Z s λc=>t c _
abbrev De(b a:Int)(e:Int):M (Int×Int):=if e≠0\/b=16 then M.pure (0,e) else E3 18 0 a 0
theorem YX{b c n e:Int}{f:Int->M y}(l:e≠3):((J6 h j b c).bind f) false ((n,e)::R)=if e=11 then((J6 h j b c).bind f) false R else f e false R:=by
 by_cases a:e=11
 .subst a;rfl
 .have g:J6 h j b c false ((n,e)::R)=.inr (e,false,R):=by
   show(if e=11 then yD h j b c R else .inr (e,e==3,R))=_
   grind
  rw[Q0,g,nR a]
theorem JR(h:oU d bW T a C w)(h3:pV T.Ls)(q B b:Int)(hn:q=16\/q=17):∀(n u:Nat) (A:db) (w':Wd),u+n=T.Ls.length->fx d [bW] 1 w (wρ bW T++[(r1,0)]) (tW T u C++[(2,0,.v i0),(2,1,.v i0),(2,2,.v i0),(2,3,.v i0),(2,4,.v b0),(2,5,.v i0),(2,6,.v i0)]) 60 [(0,.c (.p 1 0)),(1,.c (ci B)),(2,.c (ci b)),(6,.c (.p 2 0)),(7,.c (ci q))] A w' ->
  (∀x g',oh d [bW] w g'->sI x (((J6 q b 0 B).bind (De q B)) false (T.Ls.drop u))->iv V main true d Stop (G (fr.finish x) E) g')->iv V main true d Stop (G ((aB 91).at A wdK) (fr::E)) w':=by
 intro n
 induction n with
 | zero =>
  intro u A w' hu M c;refine iN 200 3 [] M Z Z nQ λa1 w1 r=>vq (h.hJ r.hJ (Q9 r Z)) h3 r Za 3 ((rh++[(2,0),(2,1),(2,2),(2,3),(2,4),(2,5),(2,6)]).filter λp=>!aI p.1 1) q b 0 B Z Z Z Z Z Z Z Z Z Z (λ_ _=>rfl) (λj a2 w2 _ R=>?_) λn e s j e' he hs a2 w2 _ R=>?_
  .rw[j]at c;refine qp 200 3 [] R Z Z nQ λa3 w3 b3 b4 W=>oF W Z Z<|iN 200 5 [] W Z Z nQ λa4 w4 t=>B3 t eZ Z Z Z<|c _ _ t.hJ Z
  .omega
 | succ n ih =>
  intro u A w' hu M c;refine iN 200 3 [] M Z Z nQ λa1 w1 r=>vq (h.hJ r.hJ (Q9 r Z)) h3 r Za 3 ((rh++[(2,0),(2,1),(2,2),(2,3),(2,4),(2,5),(2,6)]).filter λp=>!aI p.1 1) q b 0 B Z Z Z Z Z Z Z Z Z Z (λ_ _=>rfl) (λj a2 w2 _ R=>?_) λx e s j e' he hs a2 w2 _ R=>?_
  .have:=congrArg List.length j;simp at this;omega
  .rw[j,YX he]at c;refine qp 200 3 [] R Z Z nQ λa3 w3 b3 b4 W=>oC W Z Z<|iN 200 5 [] W Z Z nQ λa4 w4 t=>?_
   by_cases f':e=11
   .subst f';refine oF t Z Z<|iN 2 5 [] t Z Z nQ λa5 w5 K=>ih (u+1) a5 w5 Za (fx.pC (ρ:=wρ bW T++[(r1,0)]) (ρ2:=[(b3,0),(b4,0)]) K 3 [0,1,2,6,7] (rh++[(2,0),(2,1),(2,2),(2,3),(2,4),(2,5),(2,6)]) Z Z Z) ?_
    grind
   .rw[nR f']at c;refine oC t Z (by simpa using f')<|iN 8 5 [] t Z Z nQ λa5 w5 K=>?_
    by_cases h0:e=0
    .subst h0;rcases hn with rfl|rfl
     .refine iN 200 5 [] K Z Z nQ λa6 w6 l=>oF l Z Z<|iN 200 5 [] l Z Z nQ λa7 w7 v=>ui 0 0 v Z Z Z Z Z Z Z λa8 w8 z=>iN 200 5 [] z Z Z nQ λa9 w9 g=>B3 g eZ Z Z Z<|c _ _ g.hJ Z
     .refine iN 200 5 [] K Z Z nQ λa6 w6 l=>oC l Z Z<|iN 200 5 [] l Z Z nQ λa7 w7 v=>vq (h.hJ v.hJ (Q9 v Z)) h3 v e' 5 ((rh++[(2,0),(2,1),(2,2),(2,3),(2,4),(2,5),(2,6),(3,0),(3,1),(4,0),(4,1),(4,2),(4,3),(4,4),(4,5),(4,6)]).filter λp=>!aI p.1 1) 18 0 B 0 Z Z Z Z Z Z Z Z Z Z (λ_ _=>rfl) (λj a8 w8 _ z=>?_) λy e s' j e' he l' a8 w8 _ z=>?_
      .rw[←hs,j]at c;refine iN 200 5 [] z Z Z nQ λa9 w9 g=>oF g Z Z<|iN 200 5 [] g Z Z nQ λi' j' a'=>B3 a' eZ Z Z Z<|c _ _ a'.hJ Z
      .rw[←hs,j]at c;refine iN 200 5 [] z Z Z nQ λa9 w9 g=>oC g Z Z<|iN 200 5 [] g Z Z nQ λi' j' a'=>ui y e a' Z Z Z Z Z Z Z λm' n' k'=>iN 200 5 [] k' Z Z nQ λo' p' h'=>B3 h' eZ Z Z Z<|c _ _ h'.hJ Z
    .rw[show(e != 0)=true by simpa using h0]at K;refine iN 200 5 [] K Z Z nQ λa6 w6 l=>oF l Z Z<|iN 200 5 [] l Z Z nQ λa7 w7 v=>ui 0 e v Z Z Z Z Z Z Z λa8 w8 z=>iN 200 5 [] z Z Z nQ λa9 w9 g=>B3 g eZ Z Z Z<|c _ _ g.hJ ?_;unfold De;rw[nT (.inl h0)];rfl
theorem b8K(h:oU d bW T u C w)(t:pV T.Ls)(y:u<=T.Ls.length)(a b:Int):py main d 91 #[Po (J (O bW 0 Q)),vi a,vi b] w λx w'=>oh d [bW] w w'/\sI x (((J6 (if T.kd=5 then 17 else 16) b 0 a).bind (De (if T.kd=5 then 17 else 16) a)) false (T.Ls.drop u)):=by
 refine y7 (sz:=60) (ρ:=wρ bW T) [.c (.p 1 0),.c (ci a),.c (ci b)] h.pc (λs v=>?_) eZ Z Z Z λStop fr E A M c=>?_
 .simp only[ae,ai,or_false]at v;rcases v with rfl|rfl|rfl<;>first|trivial|exact dU
 refine sq 200 2 [] M Z Z nQ λz B r1 e=>?_
 by_cases g:T.kd=5
 .simp only[nT g]at c;refine oF e Z (by simpa using g)<|iN 5 3 [] e Z Z nQ λj l n=>JR h t 17 a b (.inr Z) (T.Ls.length - u) u j l Za (n.oH 3 [0,1,2,6,7] (rh++[(2,0),(2,1),(2,2),(2,3),(2,4),(2,5),(2,6)]) Z Z Z) λx p q r=>c x p ⟨q,r⟩
 .simp only[nR g]at c;refine oC e Z (by simpa using g)<|iN 3 3 [] e Z Z nQ λj l n=>JR h t 16 a b (.inl Z) (T.Ls.length - u) u j l Za (n.oH 3 [0,1,2,6,7] (rh++[(2,0),(2,1),(2,2),(2,3),(2,4),(2,5),(2,6)]) Z Z Z) λx p q r=>c x p ⟨q,r⟩
theorem JE:pH 103 3 1 8:=⟨by kernel_rfl,by kernel_rfl⟩
abbrev se(d:Nat->Nat)(bW:Nat)(H:Wd)(c:oN)(a:Vu)(b:List Int)(w:Wd):Prop:=pn d [bW] H c H.heap.size 3 1 a b.length (b.map vi) w
theorem yq(d:Nat->Nat)(bW:Nat)(H:Wd)(a:oN)(w:Wd):se d bW H a (Sc Q 0 0) [] w:=⟨⟨Z,.inl ⟨Z,Z⟩⟩,λg h=>(by cases h),λg h=>(by cases h),λg h=>(by cases h)⟩
def Kl:List bm:=match Tryz.f90.body with
 | some (.seq _ (.seq (.seq _ (.block i (.loop (.seq (.seq x y) z)))) r))=>[.code y,.code z,.inLoop (.seq (.seq x y) z),.inBlock i,.code r]
 | _=>[]
def PD:List bm:=match Tryz.f90.body with
 | some (.seq _ (.seq (.seq _ (.block i (.loop (.seq xy (.seq (.block i1 (.seq r4 (.seq r5 (.cond c (.seq r6 (.seq r7 (.seq (.seq r8 (.block i2 (.loop (.seq (.seq r9 c50) z9)))) tl))) sk)))) r3))))) r))=>[.code c50,.code z9,.inLoop (.seq (.seq r9 c50) z9),.inBlock i2,.code tl,.inBlock i1,.code r3,.inLoop (.seq xy (.seq (.block i1 (.seq r4 (.seq r5 (.cond c (.seq r6 (.seq r7 (.seq (.seq r8 (.block i2 (.loop (.seq (.seq r9 c50) z9)))) tl))) sk)))) r3)),.inBlock i,.code r]
 | _=>[]
def d1n:List bm:=match PD with
 | .code _::.code (.seq (.block i3 (.seq p1 p2)) r10)::rest=>.code p2::.inBlock i3::.code r10::rest
 | _=>[]
abbrev Ie(K:aa)(p q:Nat):Mem:=[(q,0,ci (K.S p 0)),(q,1,ci (K.S p 1)),(q,2,ci (K.S p 2)),(q,3,ci (K.S p 3)),(q,4,.v (Bo (K.B p 4))),(q,5,ci (K.S p 5)),(q,6,.v (Bo (K.B p 6))),(q,7,ci (K.S p 7)),(q,8,.v (Bo (K.B p 8))),(q,9,ci (K.S p 9)),(q,10,.v (Bo (K.B p 10))),(q,11,ci (K.S p 11)),(q,12,.v (Bo (K.B p 12))),(q,13,ci (K.S p 13)),(q,14,.v (Bo (K.B p 14))),(q,15,ci (K.S p 15)),(q,16,.v (Bo (K.B p 16))),(q,17,ci (K.S p 17)),(q,18,.v (Bo (K.B p 18))),(q,19,ci (K.S p 19))]
abbrev zN(q:Nat):List (Nat×Nat):=[(q,0),(q,1),(q,2),(q,3),(q,4),(q,5),(q,6),(q,7),(q,8),(q,9),(q,10),(q,11),(q,12),(q,13),(q,14),(q,15),(q,16),(q,17),(q,18),(q,19)]
abbrev Bn:Mem:=[(2,0,.v i0),(2,1,.v i0),(2,2,.v i0),(2,3,.v i0),(2,4,.v b0),(2,5,.v i0),(2,6,.v i0)]
abbrev sP:List (Nat×Nat):=[(2,0),(2,1),(2,2),(2,3),(2,4),(2,5),(2,6)]
theorem EA{H:Wd}{ρ2:oN}(a:se d bW H (wρ bW T++ρ2) v p w):qf bW v p w:=by
 let⟨⟨n,b⟩,_,_,l⟩:=a;rcases b with⟨rfl,b⟩|⟨g,cap,cur,rfl,g1,g2,g3,g4,g5,g6⟩
 .exact⟨Q,0,by rw[b],by omega,λh=>absurd (dM b) h⟩
 .refine⟨_,cap,Z,g3,λ_=>⟨g,0,Z,(Zj g2).1,λe=>l g Z 1 Zc e.symm,λj x q=>?_⟩⟩;have c:(p.map vi)[j]?=J (vi x):=by grind
  rw[←g6,eV]at c;split at c
  .simp only[aD,g2,aE];simpa using c
  .cases c
theorem Eo{H:Wd}{e:oN}{m:Mem}{F:Nat}{I v:m7}{e':Vu->m7}{A:db}{P:Array aN}{f:bF}{k:List bm}{i D:Nat}{L:List Nat}{o r:aN}{x y:aU}{b l:Vu}{qs:List Int}(hW:bW∈e.map (·.1))(M:fx d [bW] 1 H e m F I A w)(c:se d bW H e b p w)(z:se d bW H e l qs w)(p':∀g,b.ownBlock=J g->l.ownBlock≠J g)(h4:p.length<=32)(ho:P[i]?=J o)(hg:o.guard=Q)(h':o.op=.buildSlice 103 1 #[(0,y)])(hd:o.dst=J a)(i':P[i+1]?=J r)(j':r.guard=Q)(k':r.op=.call { callee:=.builtin .append,args:=#[x,.tmp a],argTypes:=#[103,103] })(l':r.dst=J D)(hy:ql I y=J (.c (ci h)))(B:(cJ a F&&cJ D F)=true)(K:tJ a I []=J v)(hx:ql v x=J (.c (.v b)))(hp:∀j,qU D (.c (.v j)) v=J (e' j))(m':∀s w' j,fx d [bW] 1 H e m F (e' j) s w'->se d bW H e j (p++[h]) w'->se d bW H e l qs w'->(∀g,j.ownBlock=J g->l.ownBlock≠J g)->iv V main true d Stop (G ((aB f).at s (.inRegion P L::k)) E) w') :
  iv V main true d Stop (G ((aB f).at A (.inRegion P (i::(i+1)::L)::k)) E) w:=by
 simp only[aC]at B;refine Gj JE M c (af _) Za Zb ho hg h' hd i' j' k' l' hy (l:=[ci h]) Z (by simp[uS,kE,B.1,B.2]) K hx λs w' g q' r' Lf M' f' O' R=>?_;rw[hp]at f';cases Ze f';have hb:∀n,l.ownBlock=J n->n∉[bW]++b.ownBlock.toList:=λn W t=>by
  rcases cz.1 t with t|t
  .cases Zi t;let⟨q,_,n',o'⟩:=vP (ρ:=e) (ro:=0) hW;exact z.ne _ W q n' o'
  grind
 refine m' s w' _ M' ?_ (z.hJ Lf λg K h2=>hb g K (cN _ h2)) λn W h2=>?_
 .have e1:(p++[h]).length=p.length+1:=by simp
  have e2:(p++[h]).map vi=p.map vi++[ci h].map (·.den e):=by simp[ou.den]
  grind
 .obtain rfl:g=n:=Ze W;rcases R with R|R
  .grind
  .have:=(j8 z.row h2).2;omega
theorem Zs(h:oU d bW T u C w)(h3:pV T.Ls)(hu:u<=T.Ls.length){i:Nat}(hi:i<T.K.nS):∀(n j:Nat) (pv fl:Vu) (A:db) (w':Wd),j+n=4->se d bW w (wρ bW T++[(r1,0),(r2,0)]) pv (I9 (λq=>T.K.S i (3+q*2)) j) w'->se d bW w (wρ bW T++[(r1,0),(r2,0)]) fl (I9 (λq=>T.K.S i (11+q*2)) j) w'->(∀g,pv.ownBlock=J g->fl.ownBlock≠J g)->fx d [bW] 1 w (wρ bW T++[(r1,0),(r2,0)]) (tW T u C++Bn++Ie T.K i 3) 100 [(0,.c (.p 1 0)),(1,.c (ci slot)),(4,.c (.p 2 0)),(5,.c (ci i)),(6,.c (.p 3 0)),(7,.c (.v pv)),(8,.c (.v fl)),(9,.c (ci j)),(50,.c (.v (Bo (decide ((j:Int)<4)))))] A w' ->
  (∀x h',oh d [bW] w h'->sI x (J7 i (vy T.K i) (uV T.K i) false (T.Ls.drop u))->iv V main true d Stop (G (fr.finish x) E) h')->iv V main true d Stop (G ((aB 90).at A PD) (fr::E)) w':=by
 intro n
 induction n with
 | zero =>
  intro j pv fl A w' hj Op B f' M z;obtain rfl:j=4:=by omega
  refine oC M Z Zb<|p8 200 4 [] M Z Z nQ λa1 w1 l s=>A4 l (PW (h.hJ l.hJ (Q9 l Z)) h3 hu (EA (Op.kq s)) (X4 _ _) (EA (B.kq s)) (X4 _ _)) Z Z Z eR Z Z Z Z Z λx w2 R=>?_;let⟨L,R⟩:=R;have z:∀x h',oh d [bW] w h'->sI x (J7 i (I9 (λq=>T.K.S i (3+q*2)) 4) (I9 (λq=>T.K.S i (11+q*2)) 4) false (T.Ls.drop u))->iv V main true d Stop (G (fr.finish x) E) h':=z;rcases hR:J7 i (I9 (λq=>T.K.S i (3+q*2)) 4) (I9 (λq=>T.K.S i (11+q*2)) 4) false (T.Ls.drop u) with nd|⟨⟨zn,ze⟩,go,l'⟩
  .rw[hR]at R z
   cases nd with
   | done _ _=>exact R.elim
   | call n a b c =>
    obtain⟨⟨p,q,rfl⟩,u',m',k⟩:=R;have y:=l.walked L k 4 ((rh++sP).filter λp=>!aI p.1 1) Z Z Z;refine E7 y 4 (.t [.g [ci p,ci q],.g [ci n,ci a,ci b,ci c,.v b0,.v i0,.v i0],.c (.v (Bo false))]) Z Z Z Z Z λa4 W=>qp 200 4 [] W Z Z nQ λa5 w5 b5 b6 K=>oF K Z Z<|iN 200 6 [] K Z Z nQ λa6 w6 M6=>B3 M6 fV Z Z Z<|z _ _ M6.hJ Z
  .rw[hR]at R z;obtain⟨rfl,rfl,u',k,_⟩:=R;have y:=l.walked L k 4 ((rh++sP).filter λp=>!aI p.1 1) Z Z Z;refine E7 y 4 (we zn ze) Z Z Z Z Z λa4 W=>qp 200 4 [] W Z Z nQ λa5 w5 b5 b6 K=>oC K Z Z<|iN 200 6 [] K Z Z nQ λa6 w6 M6=>ui zn ze M6 Z Z Z Z Z Z Z λa7 w7 M7=>iN 200 6 [] M7 Z Z nQ λa8 w8 M8=>B3 M8 fV Z Z Z<|z _ _ M8.hJ Z
 | succ n ih =>
  intro j pv fl A w' hj Op B f' M z;have hG:T.K.S i (3+j*2)=-1\/_:=h.tk.mL.dT i j hi Za;have i':T.K.S i (11+j*2)=-1\/_:=h.tk.mL.file i j hi Za;have e1:=C9 (n:=j) Za;have k':∀(pv fl:Vu) (A:db) (w':Wd),se d bW w (wρ bW T++[(r1,0),(r2,0)]) pv (I9 (λq=>T.K.S i (3+q*2)) (j+1)) w'->se d bW w (wρ bW T++[(r1,0),(r2,0)]) fl (I9 (λq=>T.K.S i (11+q*2)) j) w'->(∀g,pv.ownBlock=J g->fl.ownBlock≠J g)->fx d [bW] 1 w (wρ bW T++[(r1,0),(r2,0)]) (tW T u C++Bn++Ie T.K i 3) 100 [(0,.c (.p 1 0)),(1,.c (ci slot)),(4,.c (.p 2 0)),(5,.c (ci i)),(6,.c (.p 3 0)),(7,.c (.v pv)),(8,.c (.v fl)),(9,.c (ci j))] A w'->iv V main true d Stop (G ((aB 90).at A d1n) (fr::E)) w':=by
   intro pv fl A w' Op B f' M;have t:=DZ (λq=>T.K.S i (11+q*2)) j;have a':T.K.S i (11+j*2)=-1->¬0<=T.K.S i (11+j*2):=λe=>by omega
   have d':T.K.S i (11+j*2)≠-1->0<=T.K.S i (11+j*2):=λe=>(i'.resolve_left e).1;have hl:=X4 (λq=>T.K.S i (11+q*2)) j;clear hG i'
   by_cases r:T.K.S i (11+j*2)=-1
   .rw[nR (by simp[r]),cH]at t;rw[←t]at B;replace r:=a' r;clear a' d' t;cases j,(Za:j<4) using ep
    all_goals
     refine p8 200 4 [] M Z Z ⟨nQ,by decide⟩ λa1 w1 l s=>oC l Z (decide_eq_false r)<|p8 200 4 [] l Z Z nQ λa2 w2 M2 v=>?_;have y:=M2.oH 4 [0,1,4,5,6,7,8,9,50] (rh++sP++zN 3) Z Z Z;rw[e1]at y;exact ih _ pv fl a2 w2 Za ((Op.kq s).kq v) ((B.kq s).kq v) f' y z
   .rw[nT (by simpa using r)]at t;replace r:=d' r;clear a' d';cases j,(Za:j<4) using ep
    all_goals
     refine p8 200 4 [] M Z Z ⟨nQ,by decide⟩ λa1 w1 l s=>oF l Z (decide_eq_true r)<|p8 200 4 [] l Z Z nQ λa2 w2 M2 v=>Eo (ah _ (ao ..)) M2 ((B.kq s).kq v) ((Op.kq s).kq v) (λg h1 h2=>f' g h2 h1) Za Z Z Z Z Z Z Z Z Z Z Z Z (λ_=>rfl) λa3 w3 V' y O3 O4 j'=>p8 200 4 [] y Z Z nQ λa4 w4 W q4=>?_;have K:=W.oH 4 [0,1,4,5,6,7,8,9,50] (rh++sP++zN 3) Z Z Z;rw[e1]at K;exact ih _ pv V' a4 w4 Za (O4.kq q4) (by rw[t];exact O3.kq q4) (λg h1 h2=>j' g h2 h1) K z
  have t:=DZ (λq=>T.K.S i (3+q*2)) j;have a':T.K.S i (3+j*2)=-1->¬0<=T.K.S i (3+j*2):=λe=>by omega
  have d':T.K.S i (3+j*2)≠-1->0<=T.K.S i (3+j*2):=λe=>(hG.resolve_left e).1;have hl:=X4 (λq=>T.K.S i (3+q*2)) j;clear hG i' ih
  by_cases r:T.K.S i (3+j*2)=-1
  .rw[nR (by simp[r]),cH]at t;rw[←t]at Op;replace r:=a' r;clear a' d' t;cases j,(Za:j<4) using ep
   all_goals
    refine oF M Z Zb<|p8 200 4 [] M Z Z ⟨nQ,by decide⟩ λa1 w1 l s=>oC l Z (decide_eq_false r)<|p8 1 4 [] l Z Z nQ λa2 w2 M2 v=>k' pv fl a2 w2 ((Op.kq s).kq v) ((B.kq s).kq v) f' (M2.oH 4 [0,1,4,5,6,7,8,9] (rh++sP++zN 3) Z Z Z)
  .rw[nT (by simpa using r)]at t;replace r:=d' r;clear a' d';cases j,(Za:j<4) using ep
   all_goals
    refine oF M Z Zb<|p8 200 4 [] M Z Z ⟨nQ,by decide⟩ λa1 w1 l s=>oF l Z (decide_eq_true r)<|p8 200 4 [] l Z Z nQ λa2 w2 M2 v=>Eo (ah _ (ao ..)) M2 ((Op.kq s).kq v) ((B.kq s).kq v) f' Za Z Z Z Z Z Z Z Z Z Z Z Z (λ_=>rfl) λa3 w3 V' y O3 O4 j'=>p8 2 4 [] y Z Z nQ λa4 w4 W q4=>k' V' fl a4 w4 (by rw[t];exact O3.kq q4) (O4.kq q4) j' (W.oH 4 [0,1,4,5,6,7,8,9] (rh++sP++zN 3) Z Z Z)
abbrev Mb(slot:Int)(i n:Nat):m7:=[(0,.c (.p 1 0)),(1,.c (ci slot)),(4,.c (.p 2 0)),(5,.c (ci i)),(26,.c (.v (Bo (decide ((i:Int)<(n:Int))))))]
theorem TE(h:oU d bW T u C w)(K:pV T.Ls)(R:u<=T.Ls.length):∀(f i:Nat) (A:db) (w':Wd),i+f=T.K.nS->fx d [bW] 1 w (wρ bW T++[(r1,0)]) (tW T u C++Bn) 100 (Mb slot i T.K.nS) A w' ->
  (∀x W,oh d [bW] w W->sI x (vg T.K slot f i false (T.Ls.drop u))->iv V main true d Stop (G (fr.finish x) E) W)->iv V main true d Stop (G ((aB 90).at A Kl) (fr::E)) w':=by
 have h6:=h.tk.nS;intro f
 induction f with
 | zero =>
  intro i A w' hi M c;refine oC M Z (decide_eq_false Za)<|iN 200 3 [] M Z Z nQ λa1 w1 l=>vq (h.hJ l.hJ (Q9 l Z)) K l R 3 ((rh++sP).filter λp=>!aI p.1 1) 1 0 0 0 Z Z Z Z Z Z Z Z Z Z (λ_ _=>rfl) (λB q r _ a=>?_) λn e s B h' he hs q r _ a=>?_
  .rw[B]at c;refine qp 200 3 [] a Z Z nQ λt v b3 b4 b=>oF b Z Z<|iN 200 5 [] b Z Z nQ λa4 w4 j=>B3 j fV Z Z Z<|c _ _ j.hJ Z
  .rw[B]at c;refine qp 200 3 [] a Z Z nQ λt v b3 b4 b=>oC b Z Z<|iN 200 5 [] b Z Z nQ λa4 w4 j=>ui 0 11 j Z Z Z Z Z Z Z λa5 w5 M5=>iN 200 5 [] M5 Z Z nQ λa6 w6 M6=>B3 M6 fV Z Z Z<|c _ _ M6.hJ Z
 | succ f ih =>
  intro i A w' hi M c;have e1:=C9 (n:=i) Za;have hr:vO w [bW] T.gS (0+(i:Int).toNat*20) (P4 T.K i).toList:=⟨h.tk.sl.1,by simpa using h.tk.sl.2,by rw[aE,au];exact h.tk.ss i Za⟩;unfold vg at c;refine oF M Z (decide_eq_true Za)<|sq 25 3 [(P4 T.K i).toList] M Z Z ⟨⟨nQ,by omega⟩,hr⟩ λa1 w1 b1 l=>?_;have next:∀q r,fx d [bW] 1 w (wρ bW T++[(r1,0)]) (tW T u C++Bn) 100 (Mb slot (i+1) T.K.nS) q r->¬(T.K.S i 1==slot&&T.K.S i 0==3)=true->iv V main true d Stop (G ((aB 90).at q Kl) (fr::E)) r:=λq r a hn=>by
   rw[nR hn]at c;exact ih (i+1) q r Za a c
  by_cases y:T.K.S i 0=3
  .rw[show(T.K.S i 0==3)=true by simpa using y]at l;refine iN 200 4 [] l Z Z nQ λq r a=>?_
   by_cases z:T.K.S i 1=slot
   .rw[nT (by simp[y,z])]at c;refine oF a Z (by simpa using z)<|iN 200 4 [] a Z Z nQ λt v b=>Zs h K R Za 4 0 _ _ t v Z (yq ..) (yq ..) (λg hg=>(by cases hg)) (b.oH 4 [0,1,4,5,6,7,8,9,50] (rh++sP++zN 3) Z Z Z) c
   .refine oC a Z (by simpa using z)<|iN 200 4 [] a Z Z nQ λt v b=>?_;have j:=fx.pC (ρ:=wρ bW T++[(r1,0)]) (ρ2:=[(b1,0)]) b 3 [0,1,4,5,26] (rh++sP) Z Z Z;rw[e1]at j;exact next t v j (by simp[z])
  .rw[show(T.K.S i 0==3)=false by simpa using y]at l;refine iN 200 4 [] l Z Z nQ λq r a=>oC a Z Z<|iN 200 4 [] a Z Z nQ λt v b=>?_;have j:=fx.pC (ρ:=wρ bW T++[(r1,0)]) (ρ2:=[(b1,0)]) b 3 [0,1,4,5,26] (rh++sP) Z Z Z;rw[e1]at j;exact next t v j (by simp[y])
theorem RF(h:oU d bW T u C w)(b:pV T.Ls)(c:u<=T.Ls.length):py main d 90 #[Po (J (O bW 0 Q)),vi slot] w λx w'=>oh d [bW] w w'/\sI x (vg T.K slot T.K.nS 0 false (T.Ls.drop u)):=by
 refine y7 (sz:=100) (ρ:=wρ bW T) [.c (.p 1 0),.c (ci slot)] h.pc (λs a=>?_) fV Z Z Z λStop fr E A M e=>?_
 .simp only[ae,ai,or_false]at a;rcases a with rfl|rfl<;>first|trivial|exact dU
 refine sq 200 2 [] M Z Z nQ λg j r1 l=>TE h b c T.K.nS 0 g j Za (l.oH 3 [0,1,4,5,26] (rh++sP) Z Z Z) λx n p q=>e x n ⟨p,q⟩
def Ln:List bm:=match Tryz.f89.body with
 | some (.seq _ (.seq _ (.seq _ (.seq _ (.seq _ (.seq _ (.seq _ (.seq _ (.seq (.seq _ (.block i (.loop (.seq (.seq x y) z)))) r)))))))))=>[.code y,.code z,.inLoop (.seq (.seq x y) z),.inBlock i,.code r]
 | _=>[]
def d0y:List bm:=match Tryz.f89.body with
 | some (.seq _ (.seq _ (.seq _ (.seq _ (.seq _ (.seq _ (.seq _ (.seq (.seq _ (.block i (.loop (.seq (.seq x y) z)))) r))))))))=>[.code y,.code z,.inLoop (.seq (.seq x y) z),.inBlock i,.code r]
 | _=>[]
def Nw:List bm:=match Ln with
 | [_,_,_,_,.code (.seq (.seq _ c) r)]=>[.code c,.code r]
 | _=>[]
def d0x:List bm:=match Nw with
 | [_,r]=>[r]
 | _=>[]
abbrev DM(T:Tk)(u:Nat)(C:Vu)(p:Nat)(a e:Int):Mem:=tW T u C++Bn++[(3,0,ci a),(3,1,ci e),(4,0,.v i0),(4,1,.v i0),(4,2,.v i0),(4,3,.v i0),(4,4,.v b0),(4,5,.v i0),(4,6,.v i0)]++Ie T.K p 5
abbrev sa:List (Nat×Nat):=rh++sP++[(3,0),(3,1),(4,0),(4,1),(4,2),(4,3),(4,4),(4,5),(4,6)]++zN 5
abbrev Ll(e:Int):M (Int×Int):=M.pure (0,e)
abbrev Dc(a:Int)(pv fl:Vu):m7:=[(0,.c (.p 1 0)),(4,.c (.p 2 0)),(5,.c (ci a)),(6,.c (.p 3 0)),(7,.c (.p 4 0)),(9,.c (.p 5 0)),(10,.c (.v pv)),(11,.c (.v fl))]
variable{r3 r4 p:Nat}{child:Int}{ps fs:List Int}{l:Nat}{o:Vu}
abbrev fρ(bW:Nat)(T:Tk)(r1 r2 r3 r4:Nat):oN:=wρ bW T++[(r1,0),(r2,0),(r3,0),(r4,0)]
theorem MT(R:oU d bW T l o w)(W:pV T.Ls)(hu:u<=T.Ls.length)(Op:se d bW w (fρ bW T r1 r2 r3 r4) pv ps w')(Of:se d bW w (fρ bW T r1 r2 r3 r4) fl fs w')(h4:ps.length<=4)(f':fs.length<=4)(M:fx d [bW] 1 w (fρ bW T r1 r2 r3 r4) (DM T u C p h j) 141 (Dc child pv fl) A w')(g:∀x z,oh d [bW] w z->sI x (((J7 child ps fs).bind λ_=>Ll j) false (T.Ls.drop u))->iv V main true d Stop (G (fr.finish x) E) z):iv V main true d Stop (G ((aB 89).at A d0x) (fr::E)) w':=by
 refine p8 200 6 [] M Z Z nQ λa1 w1 r B=>A4 r (PW (R.hJ r.hJ (Q9 r Z)) W hu (EA (Op.kq B)) h4 (EA (Of.kq B)) f') Z Z Z eR Z Z Z Z Z λx w2 e=>?_;let⟨L,e⟩:=e;rw[Q0]at g;rcases hR:J7 child ps fs false (T.Ls.drop u) with nd|⟨⟨zn,ze⟩,go,h'⟩
 .rw[hR]at e g
  cases nd with
  | done _ _=>exact e.elim
  | call n a b c =>
   obtain⟨⟨p,q,rfl⟩,u',i',k⟩:=e;have v:=r.walked L k 6 (sa.filter λp=>!aI p.1 1) Z Z Z;refine E7 v 6 (.t [.g [ci p,ci q],.g [ci n,ci a,ci b,ci c,.v b0,.v i0,.v i0],.c (.v (Bo false))]) Z Z Z Z Z λa4 y=>iN 200 6 [] y Z Z nQ λa5 w5 s=>oF s Z Z<|iN 200 6 [] s Z Z nQ λa6 w6 t=>B3 t dG Z Z Z<|g _ _ t.hJ Z
 .rw[hR]at e g;obtain⟨rfl,rfl,u',k,_⟩:=e;have v:=r.walked L k 6 (sa.filter λp=>!aI p.1 1) Z Z Z;refine E7 v 6 (we zn ze) Z Z Z Z Z λa4 y=>iN 200 6 [] y Z Z nQ λa5 w5 s=>oC s Z Z<|iN 200 6 [] s Z Z nQ λa6 w6 t=>ui 0 j t Z Z Z Z Z Z Z λa7 w7 M7=>iN 200 6 [] M7 Z Z nQ λa8 w8 K=>B3 K dG Z Z Z<|g _ _ K.hJ Z
theorem EZ(t:oU d bW T l o w)(v:pV T.Ls)(hu:u<=T.Ls.length)(Op:se d bW w (fρ bW T r1 r2 r3 r4) pv ps w')(y:se d bW w (fρ bW T r1 r2 r3 r4) fl fs w')(h4:ps.length<=4)(d':fs.length<=4)(M:fx d [bW] 1 w (fρ bW T r1 r2 r3 r4) (DM T u C p h j) 141 (Dc child pv fl++[(110,.c (.v (Bo (j==0))))]) A w')(a:∀x e',oh d [bW] w e'->sI x (tT child ps fs j false (T.Ls.drop u))->iv V main true d Stop (G (fr.finish x) E) e'):iv V main true d Stop (G ((aB 89).at A Nw) (fr::E)) w':=by
 unfold tT at a
 by_cases b:j=0
 .rw[nT b]at a;subst b;refine oF M Z Z<|p8 200 6 [] M Z Z nQ λa1 w1 q c=>vq (t.hJ q.hJ (Q9 q Z)) v q hu 6 (sa.filter λp=>!aI p.1 1) 8 child 0 0 Z Z Z Z Z Z Z Z Z Z (λ_ _=>rfl) (λz a2 w2 B K=>?_) λn j s z f' he hs a2 w2 B K=>?_
  .rw[z]at a;refine iN 200 6 [] K Z Z nQ λa3 w3 r=>oF r Z Z<|iN 200 6 [] r Z Z nQ λa4 w4 e=>B3 e dG Z Z Z<|a _ _ e.hJ Z
  .have g':=(Op.kq c).hJ B λg R W=>(Op.kq c).ne g R 1 (by show 1<6;decide) (Zi W).symm;have h':=(y.kq c).hJ B λg R W=>(y.kq c).ne g R 1 (by show 1<6;decide) (Zi W).symm;rw[z,Q0]at a;have hc:E3 8 child 0 0 false ((n,j)::s)=.inr ((n,j),false,s):=by
    show Sum.inr ((n,j),j==3,s)=_
    grind
   rw[hc]at a;refine p8 200 6 [] K Z Z nQ λa3 w3 r q3=>oC r Z Z<|p8 200 6 [] r Z Z nQ λa4 w4 e q4=>?_
   by_cases b:j=0
   .subst b;refine oF e Z Z<|iN 200 6 [] e Z Z nQ λa5 w5 M5=>ui child 0 M5 Z Z Z Z Z Z Z λa7 w7 M7=>iN 200 6 [] M7 Z Z nQ λa8 w8 M8=>B3 M8 dG Z Z Z<|a _ _ M8.hJ Z
   .refine oC e Z (by simpa using b) ?_;simp only[nR b]at a;refine p8 1 6 [] e Z Z nQ λa5 w5 M5 q5=>MT t v f' (((g'.kq q3).kq q4).kq q5) (((h'.kq q3).kq q4).kq q5) h4 d' (M5.oH 6 [0,4,5,6,7,9,10,11] sa Z Z Z) (by rw[hs];exact a)
 .rw[nR b]at a;refine oC M Z (by simpa using b)<|p8 1 6 [] M Z Z nQ λa1 w1 q c=>MT t v hu (Op.kq c) (y.kq c) h4 d' (q.oH 6 [0,4,5,6,7,9,10,11] sa Z Z Z) a
def uG(child:Int)(f:Nat->Int)(ps:List Int)(n j:Nat)(fs:List Int):M (Int×Int):=(uO child f n j fs).bind λg=>tT child ps g.2 g.1
variable{n j:Nat}{x e:Int}{s h:List (Int×Int)}
section
variable{f:Nat->Int}
theorem VY(a:f j=-1):uG child f ps (n+1) j fs false h=uG child f ps n (j+1) fs false h:=by
 unfold uG;rw[uO,nT a]
theorem b7q(a:f j≠-1):uG child f ps (n+1) j fs false []=.inl (.call 7 child j j):=by
 unfold uG;rw[uO,nR a];rfl
theorem Yl(b:f j≠-1)(g:e≠3):uG child f ps (n+1) j fs false ((x,e)::s)=if e=0 then uG child f ps n (j+1) (fs++[(j:Int)]) false s else tT child ps fs e false s:=by
 unfold uG;rw[uO,nR b];have c:E3 7 child j j false ((x,e)::s)=.inr ((x,e),false,s):=by
  show Sum.inr ((x,e),e==3,s)=_
  grind
 rw[Q0,Q0,c]
 by_cases a:e=0
 .simp only[nT a];rfl
 .simp only[nR a];rfl
end
theorem XC(h:oU d bW T l o w)(h3:pV T.Ls)(hp:p<T.K.nS)(h4:ps.length<=4):∀(n j:Nat) (fs:List Int) (u:Nat) (fl:Vu) (W:Int) (A:db) (w':Wd),j+n=4->fs.length<=j->u<=T.Ls.length->se d bW w (fρ bW T r1 r2 r3 r4) pv ps w'->se d bW w (fρ bW T r1 r2 r3 r4) fl fs w'->(∀g,fl.ownBlock=J g->pv.ownBlock≠J g)->fx d [bW] 1 w (fρ bW T r1 r2 r3 r4) (DM T u C p W 0) 141 (Dc child pv fl++[(13,.c (ci j)),(80,.c (.v (Bo (decide ((j:Int)<4)))))]) A w' ->
  (∀x v,oh d [bW] w v->sI x (uG child (λq=>T.K.S p (11+q*2)) ps n j fs false (T.Ls.drop u))->iv V main true d Stop (G (fr.finish x) E) v)->iv V main true d Stop (G ((aB 89).at A Ln) (fr::E)) w':=by
 intro n
 induction n with
 | zero =>
  intro j fs u fl W A w' hj f' hu Op Of a' M a;obtain rfl:j=4:=by omega
  refine oC M Z Zb<|p8 200 6 [] M Z Z nQ λa1 w1 r c=>EZ h h3 hu (Op.kq c) (Of.kq c) h4 f' (r.oH 6 [0,4,5,6,7,9,10,11,110] sa Z Z Z) a
 | succ n ih =>
  intro j fs u fl W A w' hj f' hu Op Of a' M a;have g':T.K.S p (11+j*2)=-1\/_:=h.tk.mL.file p j hp Za;have e1:=C9 (n:=j) Za;have d':T.K.S p (11+j*2)=-1->¬0<=T.K.S p (11+j*2):=λe=>by omega
  have e':T.K.S p (11+j*2)≠-1->0<=T.K.S p (11+j*2):=λe=>(g'.resolve_left e).1;clear g'
  by_cases b:T.K.S p (11+j*2)=-1
  .have a:∀x v,oh d [bW] w v->sI x (uG child (λq=>T.K.S p (11+q*2)) ps n (j+1) fs false (T.Ls.drop u))->_:=λx v h1 h2=>a x v h1 (by rw[VY (f:=λq=>T.K.S p (11+q*2)) b];exact h2);replace b:=d' b;clear d' e';cases j,(Za:j<4) using ep
   all_goals
    refine oF M Z Zb<|p8 200 6 [] M Z Z ⟨nQ,by decide⟩ λa1 w1 r c=>oC r Z (decide_eq_false b)<|p8 200 6 [] r Z Z nQ λa2 w2 z B=>?_;have y:=z.oH 6 [0,4,5,6,7,9,10,11,13,80] sa Z Z Z;rw[e1]at y;exact ih _ fs u fl W a2 w2 Za Za hu ((Op.kq c).kq B) ((Of.kq c).kq B) a' y a
  .have hW:=b7q (child:=child) (f:=λq=>T.K.S p (11+q*2)) (ps:=ps) (fs:=fs) (n:=n) b;have hA:=λx e s he=>Yl (child:=child) (f:=λq=>T.K.S p (11+q*2)) (ps:=ps) (fs:=fs) (n:=n) (x:=x) (e:=e) (s:=s) b he;replace b:=e' b;clear d' e';cases j,(Za:j<4) using ep
   all_goals
    refine oF M Z Zb<|p8 200 6 [] M Z Z ⟨nQ,by decide⟩ λa1 w1 r c=>oF r Z (decide_eq_true b)<|p8 200 6 [] r Z Z nQ λa2 w2 z B=>?_;have h':=(Op.kq c).kq B;have i':=(Of.kq c).kq B;refine vq (h.hJ z.hJ (Q9 z Z)) h3 z hu 6 (sa.filter λp=>!aI p.1 1) 7 child _ _ Z Z Z Z Z Z Z Z Z Z (λ_ _=>rfl) (λhd a3 w3 L3 y=>?_) λnn e s hd j' he hs a3 w3 L3 y=>?_
    .rw[hd,hW]at a;refine iN 200 6 [] y Z Z nQ λa4 w4 K=>oF K Z Z<|iN 200 6 [] K Z Z nQ λa5 w5 t=>B3 t dG Z Z Z<|a _ _ t.hJ Z
    .rw[hd,hA nn e s he]at a;have k':=h'.hJ L3 λg hg hm=>h'.ne g hg 1 (by show 1<6;decide) (Zi hm).symm;have l':=i'.hJ L3 λg hg hm=>i'.ne g hg 1 (by show 1<6;decide) (Zi hm).symm;refine p8 200 6 [] y Z Z nQ λa4 w4 K q4=>oC K Z Z<|p8 200 6 [] K Z Z nQ λa5 w5 t q5=>?_
     by_cases h0:e=0
     .subst h0;rw[nT Z,←hs]at a;refine oF t Z Z<|p8 200 6 [] t Z Z nQ λa6 w6 M6 R=>Eo (ah _ (ao ..)) M6 (((l'.kq q4).kq q5).kq R) (((k'.kq q4).kq q5).kq R) a' Za Z Z Z Z Z Z Z Z Z Z Z Z (λ_=>rfl) λa7 w7 V' M7 O7 O8 r'=>p8 200 6 [] M7 Z Z nQ λa8 w8 M8 q8=>?_;have M9:=M8.oH 6 [0,4,5,6,7,9,10,11,13,80] sa Z Z Z;rw[e1]at M9;exact ih _ _ (u+1) V' nn a8 w8 Za (by grind) j' (O8.kq q8) (O7.kq q8) r' M9 a
     .rw[nR h0,←hs]at a;refine oC t Z (by simpa using h0)<|p8 200 6 [] t Z Z nQ λa6 w6 M6 R=>oC M6 Z (by grind)<|p8 200 6 [] M6 Z Z nQ λa7 w7 M7 q7=>EZ h h3 j' ((((k'.kq q4).kq q5).kq R).kq q7) ((((l'.kq q4).kq q5).kq R).kq q7) h4 Za (M7.oH 6 [0,4,5,6,7,9,10,11,110] sa Z Z Z) a
def vu(child:Int)(f g:Nat->Int)(n j:Nat)(ys ps:List Int):M (Int×Int):=(vd child f n j ys ps).bind λy=>if y.1=0 then uG child g y.2 4 0 [] else tT child y.2 [] y.1
variable{g:Nat->Int}{lf bk:List Int}{zn ze:Int}{nd:Node}
section
variable{f:Nat->Int}
theorem QH(a:f j=-1):vu child f g (n+1) j ys ps false h=vu child f g n (j+1) ys ps false h:=by
 unfold vu;rw[vd,nT a]
theorem Wl(a:f j≠-1)(b:H6 6 true child j 0 ys false h=.inl nd):vu child f g (n+1) j ys ps false h=.inl nd:=by
 unfold vu;rw[vd,nR a,Q0,Q0,b]
theorem UW(b:f j≠-1)(c:H6 6 true child j 0 ys false h=.inr (((zn,ze),lf,bk),false,s)):vu child f g (n+1) j ys ps false h=if ze=0 then vu child f g n (j+1) lf (ps++[(j:Int)]) false s else tT child ps [] ze false s:=by
 unfold vu;rw[vd,nR b,Q0,Q0,c]
 by_cases a:ze=0
 .simp only[nT a];rfl
 .simp only[nR a];show(if ze=0 then _ else tT child ps [] ze) false s=_;rw[nR a]
end
theorem Vy(h:oU d bW T l o w)(h3:pV T.Ls)(hp:p<T.K.nS):∀(n j:Nat) (ps ys:List Int) (u:Nat) (C pv:Vu) (rn:Int) (A:db) (w':Wd),j+n=4->ps.length<=j->u<=T.Ls.length->qf bW C ys w->ys.length<=32->se d bW w (fρ bW T r1 r2 r3 r4) pv ps w'->fx d [bW] 1 w (fρ bW T r1 r2 r3 r4) (DM T u C p rn 0) 141 (Dc child pv (Sc Q 0 0)++[(12,.c (ci j)),(47,.c (.v (Bo (decide ((j:Int)<4)))))]) A w' ->
  (∀x a',oh d [bW] w a'->sI x (vu child (λq=>T.K.S p (3+q*2)) (λq=>T.K.S p (11+q*2)) n j ys ps false (T.Ls.drop u))->iv V main true d Stop (G (fr.finish x) E) a')->iv V main true d Stop (G ((aB 89).at A d0y) (fr::E)) w':=by
 intro n
 induction n with
 | zero =>
  intro j ps ys u C pv rn A w' hj h' hu hF hy Op M r;obtain rfl:j=4:=by omega
  refine oC M Z Zb<|p8 200 6 [] M Z Z nQ λa1 w1 B q1=>XC h h3 hp h' 4 0 [] u _ rn a1 w1 Z (af _) hu (Op.kq q1) (yq ..) (λg hg=>(by cases hg)) (B.oH 6 [0,4,5,6,7,9,10,11,13,80] sa Z Z Z) r
 | succ n ih =>
  intro j ps ys u C pv rn A w' hj h' hu hF hy Op M r;have hG:T.K.S p (3+j*2)=-1\/_:=h.tk.mL.dT p j hp Za;have e1:=C9 (n:=j) Za;have f':T.K.S p (3+j*2)=-1->¬0<=T.K.S p (3+j*2):=λe=>by omega
  have g':T.K.S p (3+j*2)≠-1->0<=T.K.S p (3+j*2):=λe=>(hG.resolve_left e).1;clear hG
  by_cases t:T.K.S p (3+j*2)=-1
  .have r:∀x a',oh d [bW] w a'->sI x (vu child (λq=>T.K.S p (3+q*2)) (λq=>T.K.S p (11+q*2)) n (j+1) ys ps false (T.Ls.drop u))->_:=λx a' h1 h2=>r x a' h1 (by rw[QH (f:=λq=>T.K.S p (3+q*2)) t];exact h2);replace t:=f' t;clear f' g';cases j,(Za:j<4) using ep
   all_goals
    refine oF M Z Zb<|p8 200 6 [] M Z Z ⟨nQ,by decide⟩ λa1 w1 B q1=>oC B Z (decide_eq_false t)<|p8 200 6 [] B Z Z nQ λa2 w2 y q2=>?_;have z:=y.oH 6 [0,4,5,6,7,9,10,11,12,47] sa Z Z Z;rw[e1]at z;exact ih _ ps ys u C pv rn a2 w2 Za Za hu hF hy ((Op.kq q1).kq q2) z r
  .have hW:=λnd v=>Wl (child:=child) (f:=λq=>T.K.S p (3+q*2)) (g:=λq=>T.K.S p (11+q*2)) (ps:=ps) (ys:=ys) (n:=n) (h:=T.Ls.drop u) (nd:=nd) t v;have hA:=λzn ze lf bk s v=>UW (child:=child) (f:=λq=>T.K.S p (3+q*2)) (g:=λq=>T.K.S p (11+q*2)) (ps:=ps) (ys:=ys) (n:=n) (h:=T.Ls.drop u) (zn:=zn) (ze:=ze) (lf:=lf) (bk:=bk) (s:=s) t v;replace t:=g' t;clear f' g';cases j,(Za:j<4) using ep
   all_goals
    refine oF M Z Zb<|p8 200 6 [] M Z Z ⟨nQ,by decide⟩ λa1 w1 B q1=>oF B Z (decide_eq_true t)<|p8 200 6 [] B Z Z nQ λa2 w2 y q2=>?_;have i':=(Op.kq q1).kq q2;refine A4 y (EH (h.hJ y.hJ (Q9 y Z)) h3 hu (hF.hJ y.hJ) hy 6 child _ 0 true) Z Z Z dR Z Z Z Z Z λx w3 K=>?_;let⟨L3,K⟩:=K;have j':=i'.hJ L3 λg hg hm=>i'.ne g hg 1 (by grind) (Zi hm).symm;rcases v:H6 6 true child _ 0 ys false (T.Ls.drop u) with nd|⟨⟨⟨zn,ze⟩,lf,bk⟩,go,m'⟩
    .rw[v]at K;rw[hW nd v]at r
     cases nd with
     | done _ _=>exact K.elim
     | call n a b c =>
      obtain⟨⟨p,q,rfl⟩,u',k',k⟩:=K;have z:=y.walked L3 k 6 (sa.filter λp=>!aI p.1 1) Z Z Z;refine E7 z 6 (.t [.g [ci p,ci q],.g [ci n,ci a,ci b,ci c,.v b0,.v i0,.v i0],.c (.v (Bo false))]) Z Z Z Z Z λa4 M4=>iN 200 6 [] M4 Z Z nQ λa5 w5 R=>oF R Z Z<|iN 200 6 [] R Z Z nQ λa6 w6 W=>B3 W dG Z Z Z<|r _ _ W.hJ Z
    .rw[v]at K;obtain⟨rfl,rfl,u',k',k,hr,x',l',n',y'⟩:=K;rw[hA zn ze lf bk m' v,hr]at r;have hl:=Gi v;have z:=y.walked L3 k 6 (sa.filter λp=>!aI p.1 1) Z Z Z;refine E7 z 6 (we zn ze) Z Z Z Z Z λa3 z=>p8 200 6 [] z Z Z nQ λa4 w4 M4 q4=>oC M4 Z Z<|p8 200 6 [] M4 Z Z nQ λa5 w5 R q5=>?_
     by_cases h0:ze=0
     .subst h0;rw[nT Z]at r;refine oF R Z Z<|p8 200 6 [] R Z Z nQ λa6 w6 W q6=>Eo (ah _ (ao ..)) W (((j'.kq q4).kq q5).kq q6) (yq ..) (λg _ h=>(by cases h)) Za Z Z Z Z Z Z Z Z Z Z Z Z (λ_=>rfl) λa7 w7 V' M7 O7 O8 D'=>p8 200 6 [] M7 Z Z nQ λa8 w8 M8 q8=>?_;have M9:=M8.oH 6 [0,4,5,6,7,9,10,11,12,47] sa Z Z Z;rw[e1]at M9;exact ih _ _ lf u' k' V' zn a8 w8 Za (by grind) l' (n' w hF) Za (O7.kq q8) M9 r
     .rw[nR h0]at r;refine oC R Z (by simpa using h0)<|p8 200 6 [] R Z Z nQ λa6 w6 W q6=>oC W Z (by grind)<|p8 200 6 [] W Z Z nQ λa7 w7 M7 q7=>oC M7 Z (by simpa using h0)<|p8 200 6 [] M7 Z Z nQ λa8 w8 M8 q8=>EZ h h3 l' (((((j'.kq q4).kq q5).kq q6).kq q7).kq q8) (yq ..) Za Zb (M8.oH 6 [0,4,5,6,7,9,10,11,110] sa Z Z Z) r
theorem Xl(h:oU d bW T u C w)(h3:pV T.Ls)(hu:u<=T.Ls.length){ys:List Int}(hF:qf bW C ys w)(hy:ys.length<=32)(hp:p<T.K.nS):py main d 89 #[Po (J (O bW 0 Q)),vi p] w λx w'=>oh d [bW] w w'/\sI x (Bv T.K p ys false (T.Ls.drop u)):=by
 refine y7 (sz:=141) (ρ:=wρ bW T) [.c (.p 1 0),.c (ci p)] h.pc (λs hs=>?_) dG Z Z Z λStop fr E A M B=>?_
 .simp only[ae,ai,or_false]at hs;rcases hs with rfl|rfl<;>first|trivial|exact dU
 refine sq 200 2 [] M Z Z nQ λa1 w1 r1 y=>A4 y (Ty (h.hJ y.hJ (Q9 y Z)) h3 hu (hF.hJ y.hJ) hy) Z Z Z fI Z Z Z Z Z λx w2 t=>?_;let⟨L2,t⟩:=t;unfold Bv at B;rcases hR:tO T.K T.K.nS 0 ys false (T.Ls.drop u) with nd|⟨⟨i,⟨zn,ze⟩,lf⟩,go,m'⟩
 .rw[hR]at t
  cases nd with
  | done _ _=>exact t.elim
  | call n a b c =>
   obtain⟨⟨r,p,q,rfl⟩,u',h',k⟩:=t;have K:=y.walked L2 k 3 ((rh++sP).filter λp=>!aI p.1 1) Z Z Z;refine E7 K 3 (.t [.c (ci r),.g [ci p,ci q],.g [ci n,ci a,ci b,ci c,.v b0,.v i0,.v i0],.c (.v (Bo false))]) Z Z Z Z Z λa4 R=>qp 200 3 [] R Z Z nQ λa5 w5 b5 b6 z=>oF z Z Z<|iN 200 5 [] z Z Z nQ λa6 w6 v=>B3 v dG Z Z Z<|B _ _ ⟨v.hJ,?_⟩;rw[Q0,hR];rfl
 .rw[hR]at t;obtain⟨rfl,rfl,u',h',k,hr,i',n',j'⟩:=t;have K:=y.walked L2 k 3 ((rh++sP).filter λp=>!aI p.1 1) Z Z Z;refine E7 K 3 (.t [.c (ci i),.g [ci zn,ci ze],.g [.v i0,.v i0,.v i0,.v i0,.v b0,.v i0,.v i0],.c (.v (Bo true))]) Z Z Z Z Z λa4 R=>qp 200 3 [] R Z Z nQ λa5 w5 b5 b6 z=>oC z Z Z<|iN 200 5 [] z Z Z nQ λa6 w6 v=>?_
  by_cases W:ze=0
  .subst W;refine oC v Z Z ?_;have k':vO w [bW] T.gS (0+(p:Int).toNat*20) (P4 T.K p).toList:=⟨h.tk.sl.1,by simpa using h.tk.sl.2,by rw[aE,au];exact h.tk.ss p hp⟩;refine sq 200 5 [(P4 T.K p).toList] v Z Z ⟨⟨nQ,by omega⟩,k'⟩ λa7 w7 b7 G=>Vy (r1:=r1) (r2:=b5) (r3:=b6) (r4:=b7) h h3 hp 4 0 [] lf u' h' _ zn a7 w7 Z (af _) i' (j' w hF) Za (yq ..) (G.oH 6 [0,4,5,6,7,9,10,11,12,47] sa Z Z Z) λx l' h1 h2=>B x l' ⟨h1,?_⟩;rw[Q0,hR,hr];exact h2
  .refine oF v Z (by simpa using W)<|iN 200 5 [] v Z Z nQ λa7 w7 G=>ui 0 ze G Z Z Z Z Z Z Z λa8 w8 M8=>iN 200 5 [] M8 Z Z nQ λa9 w9 M9=>B3 M9 dG Z Z Z<|B _ _ ⟨M9.hJ,?_⟩;rw[Q0,hR];simp only[nR W];rfl
def L1:List bm:=match Tryz.f51.body with
 | some (.seq _ (.seq _ (.seq (.seq _ (.block i (.loop (.seq (.seq x y) z)))) r)))=>[.code y,.code z,.inLoop (.seq (.seq x y) z),.inBlock i,.code r]
 | _=>[]
def U4:List bm:=match Tryz.f51.body with
 | some (.seq _ (.seq _ (.seq _ (.seq _ (.seq _ (.seq (.seq _ (.block i (.seq _ (.cond _ _ (.seq _ (.cond _ _ (.seq _ c))))))) r))))))=>[.code c,.inBlock i,.code r]
 | _=>[]
abbrev FC(T:Tk)(C:Vu):Mem:=[(0,0,ci T.kd),(0,1,ci T.A),(0,2,ci T.B),(0,4,.v T.F),(0,5,.v T.S),(0,7,.v T.L),(1,0,.v i0),(1,1,.v i0),(1,2,.v i0),(1,3,.v i0),(1,4,.v b0),(1,5,.v i0),(1,6,.v i0),(2,0,.p 0 0),(2,1,ci 0),(2,2,.v C)]
abbrev wc:List (Nat×Nat):=[(0,0),(0,1),(0,2),(0,4),(0,5),(0,7),(1,0),(1,1),(1,2),(1,3),(1,4),(1,5),(1,6)]
abbrev BS:List (Nat×Nat):=wc++[(2,0),(2,1),(2,2)]
abbrev My(p:Nat)(i n:Nat):m7:=[(0,.c (.p 0 0)),(1,.c (ci p)),(4,.c (.p 1 0)),(5,.c (.p 2 0)),(6,.c (ci i)),(22,.c (.v (Bo (decide ((i:Int)<(n:Int))))))]
theorem Eh{d:Nat->Nat}{W:List Nat}{H w:Wd}{t:oN}{bW:Nat}{ps:List Int}(b:pn d W H t a 3 1 v ps.length (ps.map vi) w)(y:bW∈t.map (·.1)):qf bW v ps w:=by
 let⟨⟨R,c⟩,_,_,z⟩:=b;let⟨q,_,B,K⟩:=vP (ρ:=t) (ro:=0) y;rcases c with⟨rfl,c⟩|⟨g,cap,cur,rfl,g1,g2,g3,g4,g5,g6⟩
 .exact⟨Q,0,by rw[c],by omega,λh=>absurd (dM c) h⟩
 .refine⟨_,cap,Z,g3,λ_=>⟨g,0,Z,(Zj g2).1,λe=>z g Z q B (K.trans e.symm),λj x G=>?_⟩⟩;have r:(ps.map vi)[j]?=J (vi x):=by grind
  rw[←g6,eV]at r;split at r
  .simp only[aD,g2,aE];simpa using r
  .cases r
abbrev nρ(T:Tk)(r1 bW:Nat):oN:=[(T.bt,T.o),(r1,0),(bW,0)]
theorem yC{ρ2:oN}{m:Mem}{F:Nat}{I:m7}(q:∀b,w.heap.size<=b->qz d b T w)(M:fx d [] 1 w (nρ T r1 bW++ρ2) m F I A w')(r:so 3 m [(2,0),(2,1),(2,2)]=J [(2,0,.p 0 0),(2,1,ci 0),(2,2,.v C)]):oU d bW T 0 C w':=by
 have c:w.heap.size<=bW:=by
  rcases M.own 2 Zb Zc with h|h
  .cases h
  .exact h
 have a:=fx.pC (ρ:=nρ T r1 bW) (ρ2:=ρ2) M 3 [] [(2,0),(2,1),(2,2)] Z Z r;exact⟨(q bW c).hJ ⟨M.size,λk t _=>M.old k t Zc,M.fit⟩,⟨a.blk 2 Z,a.ld 2 0 Z,a.ld 2 1 Z,a.ld 2 2 Z⟩,M.new _ c,M.fit,λk v=>M.new k (Zh M.size v)⟩
theorem fx.left{m:Mem}{F:Nat}{I:m7}{a:oN}{b:Wd}(M:fx d [] 1 w a m F I A w')(L:oh d [bW] w' b)(r:w.heap.size<=bW)(t:∀i,i<a.length->(ox a i).1≠bW):fx d [] 1 w a m F I A b :=
 M.to L.size (λi c=>L.old _ (R7 M c) (by grind)) (λk q _=>L.old k (Zg q M.size) (by simp;omega)) L.fit
theorem XN(hT:∀b,w.heap.size<=b->qz d b T w):∀(f i:Nat) (C:Vu) (A:db) (w':Wd),i+f=T.K.nF->pn d [] w (nρ T r1 bW) w.heap.size 3 1 C (E9 T.K i).length ((E9 T.K i).map vi) w'->fx d [] 1 w (nρ T r1 bW) (FC T C) 116 (My p i T.K.nF) A w' ->
  (∀C A w',pn d [] w (nρ T r1 bW) w.heap.size 3 1 C (E9 T.K T.K.nF).length ((E9 T.K T.K.nF).map vi) w'->fx d [] 1 w (nρ T r1 bW) (FC T C) 116 (My p T.K.nF T.K.nF) A w'->iv V main true d Stop (G ((aB 51).at A L1) (fr::E)) w')->iv V main true d Stop (G ((aB 51).at A L1) (fr::E)) w':=by
 have v:=hT _ (af _);have d':=v.nF;intro f
 induction f with
 | zero =>
  grind
 | succ f B =>
  intro i C A w' hi a M K;have R:=C9 (n:=i) Za;have c:=Hh T.K i;have hl:=EB T.K i;have hc:sM w [] (O T.gF (0+(i:Int).toNat*6+0) Q) (vi (T.K.F i 0)):=⟨v.fl.1,by simp,by rw[aE,au];exact v.fs i Za⟩;refine oF M Z (decide_eq_true Za)<|p8 200 3 [[vi (T.K.F i 0)]] M Z Z ⟨⟨nQ,by omega⟩,M.BT hc⟩ λa1 w1 r q1=>?_;have W:=a.kq q1
  by_cases t:T.K.F i 0=0
  .rw[nT (by simpa using t)]at c;refine oF r Z (by simpa using t)<|p8 200 3 [] r Z Z nQ λa2 w2 y z=>Gj JE y (W.kq z) (af _) Za Zb Z Z Z Z Z Z Z Z Z Z Z Z Z λa3 w3 g e' f' L3 M3 hp O3 hg=>?_;cases Ze hp;refine p8 200 3 [] M3 Z Z nQ λa4 w4 M4 q4=>?_;have q:=M4.oH 3 [0,1,4,5,6,22] BS Z Z Z;rw[R]at q;refine B (i+1) _ a4 w4 Za ?_ q K;have e2:(E9 T.K (i+1)).length=(E9 T.K i).length+1:=by rw[c];simp
   have e3:(E9 T.K (i+1)).map vi=(E9 T.K i).map vi++[vi i]:=by rw[c];simp
   rw[e2,e3];exact O3.kq q4
  .rw[nR (by simpa using t),cH]at c;refine oC r Z (by simpa using t)<|p8 200 3 [] r Z Z nQ λa2 w2 y z=>?_;have q:=y.oH 3 [0,1,4,5,6,22] BS Z Z Z;rw[R]at q;exact B (i+1) C a2 w2 Za (by rw[c];exact W.kq z) q K
theorem PR{n:Nat}{m:Mem}:∀ {b:List (Nat×Nat)} {N:Mem},so n m b=J N->(b.all λp=>!aI p.1 a)=true->∀e∈N,e.1≠a
 | [],N,h,_,e,he=>by cases Ze h;cases he
 | p::r,N,h,ha,e,he=>by
  simp only[List.all_cons,aC]at ha;unfold so at h;split at h
  .split at h
   .split at h
    .next q c =>
     cases Ze h;rcases ae.1 he with rfl|he
     .intro t
      simp_all
     .exact PR c ha.2 e he
    .cases h
   .cases h
  .cases h
theorem fx.forget{W:List Nat}{H:Wd}{r:oN}{m N:Mem}{F:Nat}{I:m7}{v:Wd}(M:fx d W a H r m F I A w')(L:oh d [bW] w' v)(q n:Nat)(y:List (Nat×Nat))(z:(ox r q).1=bW)(R:∃c t,v.heap[bW]?=J (.cells c t (0,0)))(G:n=r.length)(b:(ga a q&&cJ q n)=true)(B:so n m y=J N)(h1:(y.all λp=>!aI p.1 q)=true):fx d W a H r N F I A v:=by
 simp only[aC,Nat.ble_eq,Nat.blt_eq]at b;subst G;refine M.upd L q b.1 b.2 (λi hi a' h=>M.ij i q hi b.2 a' (by grind)) (λx hx=>?_) (by rw[z];exact R) λe K=>.inl ⟨(AE B e K).1,PR B h1 e K⟩;cases Zi hx;rw[←z];exact M.own q b.1 b.2
theorem FO{x:Vu}:∀ {R:Node⊕((Int×Int)×Bool×List (Int×Int))},sI x R->∃n a b c q v e,x=.agg #[vi n,vi a,vi b,vi c,Bo q,vi v,vi e]
 | .inl (.call n a b c),h=>⟨n,a,b,c,false,0,0,h⟩
 | .inl (.done _ _),h=>h.elim
 | .inr (z,_,_),h=>⟨0,0,0,0,true,z.1,z.2,h⟩
theorem fx.over{m N:Mem}{F:Nat}{I a:m7}{b:Wd}(M:fx d [] 1 w (nρ T r1 bW) m F I A w')(L:oh d [bW] w' b)(q:vx 2 I [4]=J a)(r:so 2 m wc=J N):fx d [] 1 w [(T.bt,T.o),(r1,0)] N F a A b:=by
 have t:w.heap.size<=bW:=by
  rcases M.own 2 Zb Zc with h|h
  .cases h
  .exact h
 refine fx.left (fx.pC (ρ:=[(T.bt,T.o),(r1,0)]) (ρ2:=[(bW,0)]) M 2 [4] wc Z q r) L t λi c=>?_;have c:i<2:=c;have:=M.ij i 2 (show i<3 by omega) (show 2<3 by decide) Za;obtain rfl|rfl:i=0\/i=1:=by omega
 .exact this
 .exact this
theorem c6I{c a b:Int}(h:c=4\/c=5):((J6 (if c=5 then 17 else 16) b 0 a).bind (De (if c=5 then 17 else 16) a))=if c=4 then(J6 16 b 0 a).bind λe=>Ll e else xV a b:=by
 rcases h with rfl|rfl
 .grind
 .rw[nT Z,nR Zb];unfold xV
  grind
theorem NR(hT:∀b,w.heap.size<=b->qz d b T w)(h3:pV T.Ls)(s':Fit d w)(t':∀k,w.heap.size<=k->d k=0)(hp:p<T.K.nS)(hk:1<=T.kd/\T.kd<=7):py main d 51 #[Po (J (O T.bt T.o Q)),vi p] w λx w'=>oh d [] w w'/\sI x (rE T.K p T.kd T.A T.B false T.Ls):=by
 have t0:=hT _ (af _);have I':=EB T.K T.K.nF;have J':=t0.nF;refine y7 (sz:=116) (ρ:=[(T.bt,T.o)]) (W:=[]) (ro:=1) (m:=[(0,0,ci T.kd),(0,1,ci T.A),(0,2,ci T.B),(0,4,.v T.F),(0,5,.v T.S),(0,7,.v T.L)]) [.c (.p 0 0),.c (ci p)] ⟨λe he=>?_,λi hi=>?_,λi j hi hj L'=>?_,λi h1 h2=>?_,s',t'⟩ (λs hs=>?_) dB Z Z Z λStop fr E A M t=>?_
 .simp only[ae,ai,or_false]at he;rcases he with rfl|rfl|rfl|rfl|rfl|rfl<;>refine⟨cG,nQ,?_⟩
  .exact t0.c0
  .exact t0.c1
  .exact t0.c2
  .exact t0.c4
  .exact t0.c5
  .exact t0.c7
 .have hi:i<1:=hi;obtain rfl:i=0:=by omega
  exact⟨t0.blk,t0.sf⟩
 .grind
 .grind
 .simp only[ae,ai,or_false]at hs;rcases hs with rfl|rfl<;>first|trivial|exact cG
 refine qp 200 1 [] M Z Z nQ λa1 w1 r1 bW M1=>?_;refine XN (r1:=r1) (bW:=bW) hT T.K.nF 0 _ a1 w1 Za ⟨⟨Z,.inl ⟨Z,Z⟩⟩,λg h=>(by cases h),λg h=>(by cases h),λg h=>(by cases h)⟩ (M1.oH 3 [0,1,4,5,6,22] BS Z Z Z) λC a2 w2 O2 M2=>?_;clear M M1;refine oC M2 Z (decide_eq_false Za) ?_;refine p8 200 3 [] M2 Z Z nQ λa3 w3 K q3=>?_;have hF:=Eh (bW:=bW) (O2.kq q3) Zc;have hb:w.heap.size<=bW:=by
  rcases K.own 2 Zb Zc with h|h
  .cases h
  .exact h
 unfold rE at t
 by_cases k1:T.kd=1
 .rw[nT k1]at t;refine oF K Z (by simpa using k1) ?_;refine p8 200 3 [] K Z Z nQ λa4 w4 R q4=>?_;refine A4 R (Xl (yC hT R Z) h3 (bh _) (Eh (bW:=bW) ((O2.kq q3).kq q4) Zc) Za hp) Z Z Z dG Z Z Z Z Z λx w5 r=>?_;obtain⟨L,r⟩:=r;obtain⟨n,a,b,c,bo,v,e,rfl⟩:=FO r;refine E7 (R.over L Z Z) 2 (.g [ci n,ci a,ci b,ci c,.v (Bo bo),ci v,ci e]) Z Z Z Z Z λa6 y=>?_;refine iN 200 2 [] y Z Z nQ λa7 w7 B=>?_;refine B3 B dB Z Z Z ?_;exact t _ _ ⟨B.hJ,r⟩
 rw[nR k1]at t;refine oC K Z (by simpa using k1) ?_;refine p8 200 3 [] K Z Z nQ λa3 w3 K l'=>?_;have O3:=(O2.kq q3).kq l';clear hF q3 l'
 by_cases k2:T.kd=2
 .rw[nT k2]at t;refine oF K Z (by simpa using k2) ?_;refine iN 200 3 [] K Z Z nQ λa4 w4 R=>?_;refine A4 R (RF (slot:=p) (yC hT R Z) h3 (bh _)) Z Z Z fV Z Z Z Z Z λx w5 r=>?_;obtain⟨L,r⟩:=r;obtain⟨n,a,b,c,bo,v,e,rfl⟩:=FO r;refine E7 (R.over L Z Z) 2 (.g [ci n,ci a,ci b,ci c,.v (Bo bo),ci v,ci e]) Z Z Z Z Z λa6 y=>?_;refine iN 200 2 [] y Z Z nQ λa7 w7 B=>?_;refine B3 B dB Z Z Z ?_;exact t _ _ ⟨B.hJ,r⟩
 rw[nR k2]at t;refine oC K Z (by simpa using k2) ?_;refine p8 200 3 [] K Z Z nQ λa3 w3 K q3=>?_;replace O3:=O3.kq q3;have i':∀(A:db) (w':Wd) (K:fx d [] 1 w (nρ T r1 bW) (FC T C) 116 [(0,.c (.p 0 0)),(1,.c (ci p)),(4,.c (.p 1 0)),(5,.c (.p 2 0)),(7,.c (ci T.A)),(8,.c (ci T.B)),(70,.c (.v (Bo true)))] A w'),T.kd=4\/T.kd=5->iv V main true d Stop (G ((aB 51).at A U4) (fr::E)) w':=λA w' K m'=>by
  refine oF K Z Z ?_;refine iN 200 3 [] K Z Z nQ λa4 w4 R=>?_;refine A4 R (b8K (yC hT R Z) h3 (bh _) T.A T.B) Z Z Z eZ Z Z Z Z Z λx w5 r=>?_;rw[c6I m']at r;obtain⟨L,r⟩:=r;obtain⟨n,a,b,c,bo,v,e,rfl⟩:=FO r;refine E7 (R.over L Z Z) 2 (.g [ci n,ci a,ci b,ci c,.v (Bo bo),ci v,ci e]) Z Z Z Z Z λa6 y=>?_;refine iN 200 2 [] y Z Z nQ λa7 w7 B=>?_;refine B3 B dB Z Z Z ?_;refine t _ _ ⟨B.hJ,?_⟩;rcases m' with k|k
  .rw[nR Za,nT k];rw[nT k]at r;exact r
  .rw[nR Za,nR Za,nT k];rw[nR Za]at r;exact r
 by_cases k4:T.kd=4
 .refine oF K Z (by simpa using k4) ?_;refine iN 1 3 [] K Z Z nQ λa4 w4 R=>?_;have M5:=R.oH 3 [0,1,4,5,7,8,70] BS Z Z Z;rw[show(T.kd==4)=true by simpa using k4]at M5;exact i' a4 w4 M5 (.inl k4)
 refine oC K Z (by simpa using k4) ?_;refine p8 200 3 [] K Z Z nQ λa4 w4 R q4=>?_;replace O3:=O3.kq q4
 by_cases k5:T.kd=5
 .have M5:=R.oH 3 [0,1,4,5,7,8,70] BS Z Z Z;rw[show(T.kd==5)=true by simpa using k5]at M5;exact i' a4 w4 M5 (.inr k5)
 clear i';refine oC R Z (by simpa using k5) ?_;refine QX 200 3 [] R Z Z Z nQ λa5 w5 b9 j' M5 q5 f1 f2=>?_;have O5:=(O3.more f1 f2).to (w':=w5) λg hg=>q5.old g (j8 O3.row hg).2 λi hi=>O3.ne g hg i hi
 by_cases k7:T.kd=7
 .rw[nR Za,nR k4,nR k5,nR Za]at t;refine oF M5 Z (by simpa using k7) ?_;refine p8 200 5 [] M5 Z Z nQ λa6 w6 y q6=>?_;have hF:=Eh (bW:=bW) (O5.kq q6) Zc;refine A4 y (EH (yC (ρ2:=[(b9,0),(j',0)]) hT y Z) h3 (bh _) hF Za 2 T.A 0 0 false) Z Z Z dR Z Z Z Z Z λx w7 r=>?_;obtain⟨L,r⟩:=r;rcases hR:H6 2 false T.A 0 0 (E9 T.K T.K.nF) false T.Ls with nd|⟨⟨⟨zn,ze⟩,lf,bk⟩,go,E'⟩
  .rw[show T.Ls.drop 0=T.Ls from Z,hR]at r;rw[Q0,hR]at t
   cases nd with
   | done _ _=>exact r.elim
   | call n a b c =>
    obtain⟨⟨p,q,rfl⟩,u',k',kk⟩:=r;refine E7 (y.forget L 2 5 (wc++[(3,0),(3,1),(4,0),(4,1),(4,2),(4,3),(4,4),(4,5),(4,6)]) Z kk.blk Z Z Z Z) 5 (.t [.g [ci p,ci q],.g [ci n,ci a,ci b,ci c,.v b0,.v i0,.v i0],.c (.v (Bo false))]) Z Z Z Z Z λa7 B=>?_;refine iN 200 5 [] B Z Z nQ λa8 w8 W=>?_;refine oF W Z Z ?_;refine iN 200 5 [] W Z Z nQ λa9 w9 M9=>?_;refine B3 M9 dB Z Z Z ?_;exact t _ _ ⟨M9.hJ,Z⟩
  .rw[show T.Ls.drop 0=T.Ls from Z,hR]at r;rw[Q0,hR]at t;obtain⟨rfl,rfl,u',k',kk,_⟩:=r;refine E7 (y.forget L 2 5 (wc++[(3,0),(3,1),(4,0),(4,1),(4,2),(4,3),(4,4),(4,5),(4,6)]) Z kk.blk Z Z Z Z) 5 (we zn ze) Z Z Z Z Z λa7 B=>?_;refine iN 200 5 [] B Z Z nQ λa8 w8 W=>?_;refine oC W Z Z ?_;refine iN 200 5 [] W Z Z nQ λa9 w9 M9=>?_;refine ui zn ze M9 Z Z Z Z Z Z Z λn' o' h'=>?_;refine iN 200 5 [] h' Z Z nQ λp' q' g'=>?_;refine B3 g' dB Z Z Z ?_;exact t _ _ ⟨g'.hJ,Z⟩
 refine oC M5 Z (by simpa using k7) ?_;refine p8 200 5 [] M5 Z Z nQ λa5 w5 M5 F'=>?_
 by_cases kc:T.kd=3
 .rw[nT kc]at t;refine oF M5 Z (by simpa using kc) ?_;refine p8 200 5 [] M5 Z Z nQ λa6 w6 y q6=>?_;have hF:=Eh (bW:=bW) ((O5.kq F').kq q6) Zc;refine A4 y (EH (yC (ρ2:=[(b9,0),(j',0)]) hT y Z) h3 (bh _) hF Za 13 T.A 0 T.B false) Z Z Z dR Z Z Z Z Z λx w7 r=>?_;obtain⟨L,r⟩:=r;rcases hR:H6 13 false T.A 0 T.B (E9 T.K T.K.nF) false T.Ls with nd|⟨⟨⟨zn,ze⟩,lf,bk⟩,go,E'⟩
  .rw[show T.Ls.drop 0=T.Ls from Z,hR]at r;rw[Q0,hR]at t
   cases nd with
   | done _ _=>exact r.elim
   | call n a b c =>
    obtain⟨⟨p,q,rfl⟩,u',k',kk⟩:=r;refine E7 (y.forget L 2 5 (wc++[(3,0),(3,1),(4,0),(4,1),(4,2),(4,3),(4,4),(4,5),(4,6)]) Z kk.blk Z Z Z Z) 5 (.t [.g [ci p,ci q],.g [ci n,ci a,ci b,ci c,.v b0,.v i0,.v i0],.c (.v (Bo false))]) Z Z Z Z Z λa7 B=>?_;refine iN 200 5 [] B Z Z nQ λa8 w8 W=>?_;refine oF W Z Z ?_;refine iN 200 5 [] W Z Z nQ λa9 w9 M9=>?_;refine B3 M9 dB Z Z Z ?_;exact t _ _ ⟨M9.hJ,Z⟩
  .rw[show T.Ls.drop 0=T.Ls from Z,hR]at r;rw[Q0,hR]at t;obtain⟨rfl,rfl,u',k',kk,_⟩:=r;refine E7 (y.forget L 2 5 (wc++[(3,0),(3,1),(4,0),(4,1),(4,2),(4,3),(4,4),(4,5),(4,6)]) Z kk.blk Z Z Z Z) 5 (we zn ze) Z Z Z Z Z λa7 B=>?_;refine iN 200 5 [] B Z Z nQ λa8 w8 W=>?_;refine oC W Z Z ?_;refine iN 200 5 [] W Z Z nQ λa9 w9 M9=>?_;refine ui zn ze M9 Z Z Z Z Z Z Z λn' o' h'=>?_;refine iN 200 5 [] h' Z Z nQ λp' q' g'=>?_;refine B3 g' dB Z Z Z ?_;exact t _ _ ⟨g'.hJ,Z⟩
 rw[nR kc,nR k4,nR k5,nT Za]at t;refine oC M5 Z (by simpa using kc) ?_;refine iN 200 5 [] M5 Z Z nQ λa6 w6 y=>?_;refine A4 y (DV (yC (ρ2:=[(b9,0),(j',0)]) hT y Z) (bh _) 9 T.A 0 0) Z Z Z eY Z Z Z Z Z λx w7 r=>?_;obtain⟨rfl,L,kk⟩:=r
 cases hd:T.Ls with
 | nil =>
  rw[hd]at t;refine E7 (y.forget L 2 5 (wc++[(3,0),(3,1),(4,0),(4,1),(4,2),(4,3),(4,4),(4,5),(4,6)]) Z kk.blk Z Z Z Z) 5 (Gs 9 T.A 0 0) Z Z Z Z Z λa7 B=>?_;refine iN 200 5 [] B Z Z nQ λa8 w8 W=>?_;refine oF W Z Z ?_;refine iN 200 5 [] W Z Z nQ λa9 w9 M9=>?_;refine B3 M9 dB Z Z Z ?_;exact t _ _ ⟨M9.hJ,Z⟩
 | cons z s =>
  obtain⟨zn,ze⟩:=z;rw[hd]at t;refine E7 (y.forget L 2 5 (wc++[(3,0),(3,1),(4,0),(4,1),(4,2),(4,3),(4,4),(4,5),(4,6)]) Z kk.blk Z Z Z Z) 5 (we zn ze) Z Z Z Z Z λa7 B=>?_;refine iN 200 5 [] B Z Z nQ λa8 w8 W=>?_;refine oC W Z Z ?_;refine iN 200 5 [] W Z Z nQ λa9 w9 M9=>?_;refine ui zn ze M9 Z Z Z Z Z Z Z λn' o' h'=>?_;refine iN 200 5 [] h' Z Z nQ λp' q' g'=>?_;refine B3 g' dB Z Z Z ?_;exact t _ _ ⟨g'.hJ,Z⟩
end
section
open Go.RowKit
attribute [local go_sem ↓] Go.wp_at_zero Go.wp_at_succ
structure Rk where
 nF:Nat
 nS:Nat
 nD:Nat
 W:Nat->Nat->Int
 P:Nat->Nat->Int
 R:Nat->Nat->Int
def Rk.oG(r:Rk)(i c:Nat)(v:Int):Rk:={ r with W:=upd r.W i c v }
def Rk.nZ(r:Rk)(i c:Nat)(v:Int):Rk:={ r with P:=upd r.P i c v }
def Rk.pa(r:Rk)(i c:Nat)(v:Int):Rk:={ r with R:=upd r.R i c v }
structure RB where
 b:Nat
 bw:Nat
 bp:Nat
 bq:Nat->Nat
 cw:Nat
 cp:Nat
 aq:Nat->Option cC
 cq:Nat->Nat
structure ml (w:Wd) (B:RB) (r:Rk):Prop where
 k0:w.cell? (O B.b 0 Q)=J (Sc (J (O B.bw 0 Q)) r.nF B.cw)
 k1:w.cell? (O B.b 1 Q)=J (Sc (J (O B.bp 0 Q)) r.nS B.cp)
 k2:∀q,q<3->w.cell? (O B.b (2+q) Q)=J (.slice (B.aq q) r.nD (B.cq q))
 aq:∀q,q<3->0<r.nD->B.aq q=J (O (B.bq q) 0 Q)
 wd:∀f j,f<r.nF->j<4->w.cell? (O B.bw (f*4+j) Q)=J (Y U (r.W f j))
 pr:∀i c,i<r.nS->c<12->w.cell? (O B.bp (i*12+c) Q)=J (Y U (r.P i c))
 rg:∀d q,d<r.nD->q<3->w.cell? (O (B.bq q) d Q)=J (Y U (r.R d q))
 zw:∀o,w.frozen? (O B.bw o Q)=false
 zp:∀o,w.frozen? (O B.bp o Q)=false
 zq:∀q o,q<3->0<r.nD->w.frozen? (O (B.bq q) o Q)=false
 lb:B.b<w.heap.size
 lw:B.bw<w.heap.size
 lp:B.bp<w.heap.size
 lq:∀q,q<3->0<r.nD->B.bq q<w.heap.size
 bw:B.b≠B.bw
 bp:B.b≠B.bp
 bq:∀q,q<3->B.b≠B.bq q
 wp:B.bw≠B.bp
 wq:∀q,q<3->B.bw≠B.bq q
 pq:∀q,q<3->B.bp≠B.bq q
 qq:∀q q',q<3->q'<3->q≠q'->B.bq q≠B.bq q'
 hF:r.nF<=32
 hS:r.nS<=6
 hD:r.nD<=4
variable{w w':Wd}{B:RB}{r:Rk}
theorem ml.oG(M:ml w B r){i c o:Nat}(k:i<r.nF)(l:c<4)(m:o=i*4+c)(v:Int):ml (w.setCell (O B.bw o Q) (Y U v)) B (r.oG i c v):=by
 subst m;have n:=M.bw;have p:=M.wp;refine⟨?_,?_,?_,M.aq,?_,?_,?_,?_,?_,?_,?_,?_,?_,?_,M.bw,M.bp,M.bq,M.wp,M.wq,M.pq,M.qq,M.hF,M.hS,M.hD⟩
 .rw[d7 w Za];exact M.k0
 .rw[d7 w Za];exact M.k1
 .intro q f;rw[d7 w Za];exact M.k2 q f
 .intro a b h j
  by_cases e:a=i/\b=c
  .obtain⟨rfl,rfl⟩:=e;rw[R8 w (M.wd a b k l)];simp[Rk.oG,upd]
  .rw[d7 w Za,M.wd a b h j];simp[Rk.oG,upd,e]
 .intro a b h j;rw[d7 w Za];exact M.pr a b h j
 .intro d q g f;have:=M.wq q f;rw[d7 w Za];exact M.rg d q g f
 .intro o;rw[j7];exact M.zw o
 .intro o;rw[j7];exact M.zp o
 .intro q o f g;rw[j7];exact M.zq q o f g
 .rw[i6];exact M.lb
 .rw[i6];exact M.lw
 .rw[i6];exact M.lp
 .intro q f g;rw[i6];exact M.lq q f g
theorem ml.nZ(M:ml w B r){i c o:Nat}(k:i<r.nS)(l:c<12)(m:o=i*12+c)(v:Int):ml (w.setCell (O B.bp o Q) (Y U v)) B (r.nZ i c v):=by
 subst m;have n:=M.bp;have p:=M.wp;refine⟨?_,?_,?_,M.aq,?_,?_,?_,?_,?_,?_,?_,?_,?_,?_,M.bw,M.bp,M.bq,M.wp,M.wq,M.pq,M.qq,M.hF,M.hS,M.hD⟩
 .rw[d7 w Za];exact M.k0
 .rw[d7 w Za];exact M.k1
 .intro q f;rw[d7 w Za];exact M.k2 q f
 .intro a b h j;rw[d7 w Za];exact M.wd a b h j
 .intro a b h j
  by_cases e:a=i/\b=c
  .obtain⟨rfl,rfl⟩:=e;rw[R8 w (M.pr a b k l)];simp[Rk.nZ,upd]
  .rw[d7 w Za,M.pr a b h j];simp[Rk.nZ,upd,e]
 .intro d q g f;have:=M.pq q f;rw[d7 w Za];exact M.rg d q g f
 .intro o;rw[j7];exact M.zw o
 .intro o;rw[j7];exact M.zp o
 .intro q o f g;rw[j7];exact M.zq q o f g
 .rw[i6];exact M.lb
 .rw[i6];exact M.lw
 .rw[i6];exact M.lp
 .intro q f g;rw[i6];exact M.lq q f g
theorem ml.pa(M:ml w B r){d q:Nat}(g:d<r.nD)(c:q<3)(v:Int):ml (w.setCell (O (B.bq q) d Q) (Y U v)) B (r.pa d q v):=by
 have n:=M.bq q c;have p:=M.wq q c;have s:=M.pq q c;refine⟨?_,?_,?_,M.aq,?_,?_,?_,?_,?_,?_,?_,?_,?_,?_,M.bw,M.bp,M.bq,M.wp,M.wq,M.pq,M.qq,M.hF,M.hS,M.hD⟩
 .rw[d7 w Za];exact M.k0
 .rw[d7 w Za];exact M.k1
 .intro q c;rw[d7 w Za];exact M.k2 q c
 .intro a b h i;rw[d7 w Za];exact M.wd a b h i
 .intro a b h i;rw[d7 w Za];exact M.pr a b h i
 .intro e f l j
  by_cases k:e=d/\f=q
  .obtain⟨rfl,rfl⟩:=k;rw[R8 w (M.rg e f g c)];simp[Rk.pa,upd]
  .have:B.bq f≠B.bq q\/e≠d:=by
    by_cases m:f=q
    .grind
    .left;exact M.qq f q j c m
   rw[d7 w this,M.rg e f l j];simp[Rk.pa,upd,k]
 .intro o;rw[j7];exact M.zw o
 .intro o;rw[j7];exact M.zp o
 .intro q o c g;rw[j7];exact M.zq q o c g
 .rw[i6];exact M.lb
 .rw[i6];exact M.lw
 .rw[i6];exact M.lp
 .intro q c g;rw[i6];exact M.lq q c g
def RB.is(B:RB)(r:Rk)(k:Nat):Prop:=k=B.b\/k=B.bw\/k=B.bp\/(0<r.nD/\∃q,q<3/\k=B.bq q)
theorem G0{w w':Wd}(b:a<w.heap.size)(h:w'.heap[a]?=w.heap[a]?):a<w'.heap.size:=by
 grind
theorem ml.wL(M:ml w B r)(h:∀k,k<w.heap.size->B.is r k->w'.heap[k]?=w.heap[k]?):ml w' B r:=by
 have e:∀k,k<w.heap.size->B.is r k->k<w'.heap.size:=λk l m=>G0 l (h k l m);have g:∀o,w'.cell? (O B.b o Q)=w.cell? (O B.b o Q):=λo=>Zf (w:=w) (a:=(O B.b o Q)) (h _ M.lb (bT Z));have n:∀o,w'.cell? (O B.bw o Q)=w.cell? (O B.bw o Q):=λo=>Zf (w:=w) (a:=(O B.bw o Q)) (h _ M.lw (ba (bT Z)));have p:∀o,w'.cell? (O B.bp o Q)=w.cell? (O B.bp o Q):=λo=>Zf (w:=w) (a:=(O B.bp o Q)) (h _ M.lp (ba (ba (bT Z))));have s:∀q,q<3->0<r.nD->∀o,w'.cell? (O (B.bq q) o Q)=w.cell? (O (B.bq q) o Q):=λq a b o=>Zf (w:=w) (a:=(O (B.bq q) o Q)) (h _ (M.lq q a b) (ba (ba (ba ⟨b,q,a,Z⟩))))
 refine⟨(g _).trans M.k0,(g _).trans M.k1,λq a=>(g _).trans (M.k2 q a),M.aq,λf j t u=>(n _).trans (M.wd f j t u),λi c v x=>(p _).trans (M.pr i c v x),λd q b a=>(s q a Za _).trans (M.rg d q b a),
  λo=>(dL (w:=w) (a:=(O B.bw o Q)) (h _ M.lw (ba (bT Z)))).trans (M.zw o),λo=>(dL (w:=w) (a:=(O B.bp o Q)) (h _ M.lp (ba (ba (bT Z))))).trans (M.zp o),
  λq o a b=>(dL (w:=w) (a:=(O (B.bq q) o Q)) (h _ (M.lq q a b) (ba (ba (ba ⟨b,q,a,Z⟩))))).trans (M.zq q o a b),
  e _ M.lb (bT Z),e _ M.lw (ba (bT Z)),e _ M.lp (ba (ba (bT Z))),λq a b=>e _ (M.lq q a b) (ba (ba (ba ⟨b,q,a,Z⟩))),M.bw,M.bp,M.bq,M.wp,M.wq,M.pq,M.qq,M.hF,M.hS,M.hD⟩
theorem ml.same(M:ml w B r)(a:w.heap.size<=w'.heap.size)(h:∀k,k<w.heap.size->B.is r k->w'.heap[k]?=w.heap[k]?):ml w' B r:=M.wL h
theorem ml.alloc(M:ml w B r)(o:Obj):ml (w.alloc o) B r:=M.same Zc λk a _=>aK w o k a
theorem ml.drew(M:ml w B r):ml w.drew B r:=M.same (af _) λ_ _ _=>rfl
def qh(f:Int)(b:Bool):Int:=if f=-1 then 0 else 2*f+(if b then 2 else 1)
def qZ(K:aa)(i c:Nat):Int :=
 if c<3 then K.S i c else if c=3 then K.S i 19 else if c<8 then qh (K.dT i (c - 4)) (K.wr i (c - 4)) else qh (K.file i (c - 8)) (K.end i (c - 8))
structure Rel (K:aa) (r:Rk):Prop where
 f:r.nF=K.nF
 s:r.nS=K.nS
 d:r.nD=K.nD
 p:∀i c,i<K.nS->c<12->r.P i c=qZ K i c
 w:∀g j,g<K.nF->j<4->(K.F g 0=2\/K.F g 0=3)->r.W g j=K.F g (2+j)
 q:∀e q,e<K.nD->q<3->r.R e q=K.D e q
theorem G6(b:Bool):qh (-1) b=0:=by simp[qh]
theorem H8(n:Nat)(b:Bool):qh n b=2*(n:Int)+(if b then 2 else 1):=by unfold qh;grind
theorem Rel.kind{r:Rk}(b:Rel q r)(c:a<q.nS):r.P a 0=q.S a 0:=b.p a 0 c Za
theorem Rel.parent{r:Rk}(a:Rel q r){i:Nat}(b:i<q.nS):r.P i 1=q.S i 1:=a.p i 1 b Za
theorem Rel.table{r:Rk}(b:Rel q r)(c:a<q.nS):r.P a 2=q.S a 2:=b.p a 2 c Za
theorem Rel.code{r:Rk}(b:Rel q r)(c:a<q.nS):r.P a 3=q.S a 19:=b.p a 3 c Za
theorem Rel.dT{r:Rk}(c:Rel q r)(d:a<q.nS)(e:b<4):r.P a (4+b)=qh (q.dT a b) (q.wr a b):=by
 rw[c.p a (4+b) d Za];unfold qZ
 grind
theorem Rel.file{r:Rk}(c:Rel q r)(d:a<q.nS)(e:b<4):r.P a (8+b)=qh (q.file a b) (q.end a b):=by
 rw[c.p a (8+b) d Za];unfold qZ
 grind
theorem I7(n:Nat)(b:Bool):(2*(n:Int)+(if b then 2 else 1) - 1).tdiv 2=n:=by
 grind
theorem Li{w:Wd}{B:RB}{r:Rk}(M:ml w B r)(b:Rel q r)(c:Own q)(N:iP q)(G:Good q)(hf:a<q.nF) :
  aG V 81 #[Po (J (O B.b 0 Q)),Y U a] w λe w'=>e=.returned (.tuple #[Y U (q.F a 0),Y U (q.F a 1)])/\w'=w:=by
 have y:ar (ml w B r):=M;have z:ar (Rel q r):=b;have k1:=M.k1;have k2:=M.k2 0 Za;have hS:r.nS<=6:=M.hS;have hD:r.nD<=4:=M.hD;have hF:a<32:=by have:=M.hF;have:=b.f;omega
 have D:ar (r.nS=q.nS/\r.nD=q.nD):=⟨b.s,b.d⟩;clear M b
 go_enter Tryz.func81,Tryz.ntmps81
 go_wp2
 go_loop [6] (λi=>∃k:Nat,k<=r.nS/\i=Y U k/\∀i,i<k->q.loc (.oT i)≠a/\∀p,p<4->q.dT i p≠a) λi=>r.nS - (bM i).toNat
 case atStart=>grind
 case round =>
  obtain⟨k,hk,rfl,T⟩:=hrel;have H:ar (∀i,i<k->q.loc (.oT i)≠a/\∀p,p<4->q.dT i p≠a):=T;clear T
  by_cases W:k<r.nS
  .have l:ar (k<q.nS):=by unfold ar;have:=D.out;omega
   have i1:(0:Int)<=(k:Int):=by omega
   have i2:(k:Int)<(r.nS:Int):=by omega
   have t1:w.cell? (O B.bp (k*12+2) Q)=J (Y U (r.P k 2)):=y.out.pr k 2 W Za
   by_cases s:r.P k 2=a
   .have f:ar (q.F a 0=1/\q.F a 1=k):=by
     rw[z.out.table l.out]at s;have I:q.S k 0≠0:=λh=>by have:=N.table l.out h;omega
     have:q.loc (.oT k)=a:=by show(if q.S k 0=0 then(-1:Int) else q.S k 2)=a;grind
     exact c.what (.oT k) l.out a this
    rw[s]at t1;clear s
    go_wp2
    go_ret2
    exact⟨by rw[f.out.1,f.out.2];rfl,Z⟩
   .have e1:(r.P k 2==(a:Int))=false:=by simpa using s
    have HL:ar (q.loc (.oT k)≠a):=by
     show(if q.S k 0=0 then(-1:Int) else q.S k 2)≠a;split
     .omega
     .rw[←z.out.table l.out];exact s
    clear s;generalize r.P k 2=v2 at *
    go_wp2
    go_loop [7] (λj=>∃m:Nat,m<=4/\j=Y U m/\∀p,p<m->q.dT k p≠a) λj=>4 - (bM j).toNat
    case atStart=>exact⟨0,by omega,Z,λp E=>by omega⟩
    case round =>
     obtain⟨m,hm,rfl,A⟩:=hrel;have t:ar (∀p,p<m->q.dT k p≠a):=A;clear A
     by_cases K:m<4
     .have j1:(0:Int)<=(m:Int):=by omega
      have j2:(m:Int)<4:=by omega
      have o:w.cell? (O B.bp (k*12+4+m) Q)=J (Y U (r.P k (4+m))):=by rw[aS];exact y.out.pr k (4+m) W Za
      have g:=z.out.dT l.out K;have X:=G.dT k m l.out K
      by_cases L:q.dT k m=-1
      .rw[g,L,G6]at o;have C:ar (q.dT k m≠a):=by unfold ar;omega
       clear g L X
       go_wp2
       exact⟨⟨m+1,by omega,by go_num,λp E=>by by_cases e:p=m;rw[e];exact C.out;exact t.out p Za⟩,by simp[bM];omega⟩
      .obtain⟨n,P⟩:∃n:Nat,q.dT k m=n:=⟨(q.dT k m).toNat,by omega⟩;have e':n<32:=by have:=y.out.hF;have:=z.out.f;omega
       rw[g,P,H8]at o;have hq:=I7 n (q.wr k m);obtain⟨v,a',f',g'⟩:∃v:Int,v=2*(n:Int)+(if q.wr k m then 2 else 1)/\0<v/\v<100:=⟨_,Z,by split<;>omega,by split<;>omega⟩;rw[←a']at o hq;have Hn:ar (q.dT k m=n):=P;clear g L X P a'
       by_cases c':n=a
       .subst c';have f:ar (q.F n 0=2/\q.F n 1=k):=c.what (.dT k m) ⟨l.out,K⟩ n Hn.out
        go_wp2
        go_ret2
        exact⟨by rw[f.out.1,f.out.2];rfl,Z⟩
       .have e2:((n:Int)==(a:Int))=false:=by simp;omega
        have C:ar (q.dT k m≠a):=by unfold ar;rw[Hn.out];omega
        go_wp2
        exact⟨⟨m+1,by omega,by go_num,λp E=>by by_cases e:p=m;rw[e];exact C.out;exact t.out p Za⟩,by simp[bM];omega⟩
     .obtain rfl:m=4:=by omega
      go_wp2
      exact⟨⟨k+1,by omega,by go_num,λi hi=>by by_cases e:i=k;rw[e];exact⟨HL.out,t.out⟩;exact H.out i Za⟩,by simp[bM];omega⟩
  .obtain rfl:k=r.nS:=by omega
   go_wp2
   go_loop [8] (λj=>∃m:Nat,m<=r.nD/\j=Y U m/\∀d,d<m->q.D d 0≠a) λj=>r.nD - (bM j).toNat
   case atStart=>exact⟨0,by omega,Z,λp E=>by omega⟩
   case round =>
    obtain⟨m,hm,rfl,A⟩:=hrel;have t:ar (∀d,d<m->q.D d 0≠a):=A;clear A
    by_cases d':m<r.nD
    .have j1:(0:Int)<=(m:Int):=by omega
     have j2:(m:Int)<(r.nD:Int):=by omega
     have R:=y.out.aq 0 Za Za;have o:w.cell? (O (B.bq 0) m Q)=J (Y U (r.R m 0)):=y.out.rg m 0 d' Za;have g:r.R m 0=q.D m 0:=z.out.q m 0 (by have:=D.out;omega) Za;rw[g]at o;rw[R]at k2
     by_cases u:q.D m 0=a
     .have f:ar (q.F a 0=3/\q.F a 1=-1):=c.what (.ring m) (show m<q.nD by have:=D.out;omega) a u;rw[u]at o;clear u g R
      go_wp2
      go_ret2
      exact⟨by rw[f.out.1,f.out.2];rfl,Z⟩
     .have e2:(q.D m 0==(a:Int))=false:=by simpa using u
      have C:ar (q.D m 0≠a):=u;clear u g R;obtain⟨vv,b'⟩:∃vv,q.D m 0=vv:=⟨_,Z⟩;rw[b']at o e2;clear b'
      go_wp2
      exact⟨⟨m+1,by omega,by go_num,λp E=>by by_cases e:p=m;rw[e];exact C.out;exact t.out p Za⟩,by simp[bM];omega⟩
    .obtain rfl:m=r.nD:=by omega
     have f:ar (q.F a 0=0/\q.F a 1=-1):=by
      have I:q.F a 0=0:=by
       apply cO;intro h;let⟨x,F,S⟩:=c.all a hf h;have es:=D.out
       cases x with
       | oT i=>exact(H.out i (by have:i<q.nS:=F;omega)).1 S
       | dT i p=>exact(H.out i (by have:i<q.nS:=F.1;omega)).2 p F.2 S
       | ring d=>exact t.out d (by have:d<q.nD:=F;omega) S
      exact⟨I,N.uY a I⟩
     go_wp2
     go_ret2
     exact⟨by rw[f.out.1,f.out.2];rfl,Z⟩
theorem Y6{w:Wd}{B:RB}{r:Rk}(M:ml w B r)(b:Rel q r)(c:Own q)(N:iP q)(G:Good q)(d:a<q.nF) :
  aG V 78 #[Po (J (O B.b 0 Q)),Y U a] w λe w'=>e=.returned (Bo (q.F a 0==0))/\w'=w:=by
 go_enter Tryz.func78,Tryz.ntmps78
 go_wp2_with fail
 refine(Li M b c N G d).mono ?_;rintro e f ⟨rfl,rfl⟩
 go_wp2
 go_ret
 simp_all
theorem Ii{w:Wd}{B:RB}{r:Rk}(M:ml w B r)(N:r.nS=q.nS)(P:∀i x,i<q.nS->x<4->r.P i (8+x)=qh (q.file i x) (q.end i x))(gf:∀i x,i<q.nS->x<4->q.file i x=-1\/0<=q.file i x){d:Nat}(hd:d<4)(b:Bool) :
  aG V 80 #[Po (J (O B.b 0 Q)),Y U d,Bo b] w λe w'=>e=.returned (Y U (q.ends d b))/\w'=w:=by
 have R:ar (ml w B r):=M;have S:ar (∀i x,i<q.nS->x<4->r.P i (8+x)=qh (q.file i x) (q.end i x)):=P;have k1:=M.k1;have hS:r.nS<=6:=M.hS;have s:ar (r.nS=q.nS):=N;have z:ar (q.ends d b=E6 (q.oI d b) (q.nS*4)):=Z;have A:∀n,E6 (q.oI d b) n<=n:=AN _;have D:ar (∀k m,k<q.nS->m<4->E6 (q.oI d b) (k*4+m+1)=E6 (q.oI d b) (k*4+m)+(if q.file k m=d/\q.end k m=b then 1 else 0)):=λk m _ t=>by
  show E6 (q.oI d b) (k*4+m)+(if q.oI d b (k*4+m) then 1 else 0)=_
  congr 1
  unfold aa.oI;rw[show(k*4+m) / 4=k by omega,show(k*4+m)%4=m by omega]
  grind
 obtain⟨C,E⟩:∃C,C=E6 (q.oI d b):=⟨_,Z⟩;rw[←E]at z A D;have T:C 0=0:=by rw[E];rfl
 obtain⟨f,W⟩:∃f:Int,f=2*(d:Int)+(if b then 2 else 1):=⟨_,Z⟩;have u:ar (f=2*(d:Int)+(if b then 2 else 1)):=W;have X:ar (∀i x,i<q.nS->x<4->q.file i x=-1\/0<=q.file i x):=gf;clear M N P gf E W
 go_enter Tryz.func80,Tryz.ntmps80
 have G:∀k m:Nat,k<q.nS->m<4->(qh (q.file k m) (q.end k m)=f↔(q.file k m=d/\q.end k m=b)):=λk m F t=>by
  have hg:=X.out k m F t;rw[u.out]
  by_cases h:q.file k m=-1
  .rw[h,G6]
   grind
  .obtain⟨n,hn⟩:∃n:Nat,q.file k m=n:=⟨(q.file k m).toNat,by omega⟩;rw[hn,H8]
   grind
 have y:ar (∀k m:Nat,k<q.nS->m<4->(qh (q.file k m) (q.end k m)=f↔(q.file k m=d/\q.end k m=b))):=G;clear G;have W2:ar (f=2*(d:Int)+1\/f=2*(d:Int)+1+1):=by
  unfold ar;rw[u.out];grind
 cases b
 .have H:f=2*(d:Int)+1:=u.out;rw[H]at y
  go_wp2
  go_loop [8,9] (λa i=>∃k:Nat,k<=r.nS/\i=Y U k/\a=Y U (C (k*4))) λa i=>r.nS - (bM i).toNat
  case atStart=>exact⟨0,by omega,Z,by rw[Nat.zero_mul,T];rfl⟩
  case round =>
   obtain⟨k,F,rfl,rfl⟩:=hrel
   by_cases I:k<r.nS
   .have l:ar (k<q.nS):=by unfold ar;have:=s.out;omega
    have i1:(0:Int)<=(k:Int):=by omega
    have i2:(k:Int)<(r.nS:Int):=by omega
    go_wp2
    go_loop [8,10] (λa j=>∃m:Nat,m<=4/\j=Y U m/\a=Y U (C (k*4+m))) λa j=>4 - (bM j).toNat
    case atStart=>exact⟨0,by omega,Z,Z⟩
    case round =>
     obtain⟨m,t,rfl,rfl⟩:=hrel
     by_cases o:m<4
     .have j1:(0:Int)<=(m:Int):=by omega
      have j2:(m:Int)<4:=by omega
      have K:w.cell? (O B.bp (k*12+8+m) Q)=J (Y U (r.P k (8+m))):=by rw[aS];exact R.out.pr k (8+m) I Za
      rw[S.out k m l.out o]at K;have c:=D.out k m l.out o;have hb:=A (k*4+m);have g:=y.out k m l.out o;generalize qh (q.file k m) (q.end k m)=v at *
      by_cases h:v=2*(d:Int)+1
      .rw[nT (g.1 h)]at c;subst h;have p:ar (C (k*4+m+1)=C (k*4+m)+1):=c;clear c g;generalize C (k*4+m)=cc at *
       go_wp2
       exact⟨⟨m+1,by omega,by go_num,by rw[←aS,p.out];go_num⟩,by simp[bM];omega⟩
      .rw[nR λL=>h (g.2 L)]at c;have e1:(v==2*(d:Int)+1)=false:=by simpa using h
       have p:ar (C (k*4+m+1)=C (k*4+m)):=by unfold ar;omega
       clear c g h
       go_wp2
       exact⟨⟨m+1,by omega,by go_num,by rw[←aS,p.out]⟩,by simp[bM];omega⟩
     .obtain rfl:m=4:=by omega
      go_wp2
      exact⟨⟨k+1,by omega,by go_num,by rw[lL]⟩,by simp[bM];omega⟩
   .obtain rfl:k=r.nS:=by omega
    go_wp2
    go_ret
    exact⟨by rw[z.out,←s.out];rfl,Z⟩
 .have H:f=2*(d:Int)+1+1:=by have:=u.out;grind
  rw[H]at y
  go_wp2
  go_loop [8,9] (λa i=>∃k:Nat,k<=r.nS/\i=Y U k/\a=Y U (C (k*4))) λa i=>r.nS - (bM i).toNat
  case atStart=>exact⟨0,by omega,Z,by rw[Nat.zero_mul,T];rfl⟩
  case round =>
   obtain⟨k,F,rfl,rfl⟩:=hrel
   by_cases I:k<r.nS
   .have l:ar (k<q.nS):=by unfold ar;have:=s.out;omega
    have i1:(0:Int)<=(k:Int):=by omega
    have i2:(k:Int)<(r.nS:Int):=by omega
    go_wp2
    go_loop [8,10] (λa j=>∃m:Nat,m<=4/\j=Y U m/\a=Y U (C (k*4+m))) λa j=>4 - (bM j).toNat
    case atStart=>exact⟨0,by omega,Z,Z⟩
    case round =>
     obtain⟨m,t,rfl,rfl⟩:=hrel
     by_cases o:m<4
     .have j1:(0:Int)<=(m:Int):=by omega
      have j2:(m:Int)<4:=by omega
      have K:w.cell? (O B.bp (k*12+8+m) Q)=J (Y U (r.P k (8+m))):=by rw[aS];exact R.out.pr k (8+m) I Za
      rw[S.out k m l.out o]at K;have c:=D.out k m l.out o;have hb:=A (k*4+m);have g:=y.out k m l.out o;generalize qh (q.file k m) (q.end k m)=v at *
      by_cases h:v=2*(d:Int)+1+1
      .rw[nT (g.1 h)]at c;subst h;have p:ar (C (k*4+m+1)=C (k*4+m)+1):=c;clear c g;generalize C (k*4+m)=cc at *
       go_wp2
       exact⟨⟨m+1,by omega,by go_num,by rw[←aS,p.out];go_num⟩,by simp[bM];omega⟩
      .rw[nR λL=>h (g.2 L)]at c;have e1:(v==2*(d:Int)+1+1)=false:=by simpa using h
       have p:ar (C (k*4+m+1)=C (k*4+m)):=by unfold ar;omega
       clear c g h
       go_wp2
       exact⟨⟨m+1,by omega,by go_num,by rw[←aS,p.out]⟩,by simp[bM];omega⟩
     .obtain rfl:m=4:=by omega
      go_wp2
      exact⟨⟨k+1,by omega,by go_num,by rw[lL]⟩,by simp[bM];omega⟩
   .obtain rfl:k=r.nS:=by omega
    go_wp2
    go_ret
    exact⟨by rw[z.out,←s.out];rfl,Z⟩
theorem EN{w:Wd}{B:RB}{r:Rk}(M:ml w B r)(a:Rel q r)(G:Good q){d:Nat}(g:d<4)(b:Bool) :
  aG V 80 #[Po (J (O B.b 0 Q)),Y U d,Bo b] w λe w'=>e=.returned (Y U (q.ends d b))/\w'=w :=
 Ii M a.s (λi x c f=>a.file c f) (λi x c f=>by rcases G.file i x c f with h|h;all_goals grind) g b
def oZ(n m:Int):Bool:=decide (0<=n)&&decide (n<m)
theorem Y7{n m:Int}{w:Wd} :
  aG V 32 #[Y U n,Y U m] w λe w'=>e=.returned (Bo (oZ n m))/\w'=w:=by
 by_cases a:0<=n
 .by_cases b:n<m
  .have E:ar (oZ n m=true):=by unfold ar oZ;simp[a,b]
   go_enter gy,lC
   go_wp2
   go_ret
   exact⟨by rw[E.out];rfl,Z⟩
  .have E:ar (oZ n m=false):=by unfold ar oZ;simp[b]
   go_enter gy,lC
   go_wp2
   go_ret
   exact⟨by rw[E.out];rfl,Z⟩
 .have E:ar (oZ n m=false):=by unfold ar oZ;simp[a]
  go_enter gy,lC
  go_wp2
  go_ret
  exact⟨by rw[E.out];rfl,Z⟩
theorem DY:oZ f h=true↔0<=f/\f<h:=by unfold oZ;simp
def sB(t:Int):Int:=if t=1 then 102 else if t=2 then 115 else if t=3 then 99 else if t=4 then 112 else if t=5 then 100 else if t=6 then 119 else 45
variable{K:aa}
theorem OS(M:ml w B r)(a:Rel K r)(t:Int)(b:t=1\/t=2\/t=3\/t=4\/t=5\/t=6) :
  aG V 38 #[Po (J (O B.b 0 Q)),.int .u8 (sB t)] w λe w'=>e=.returned (Y U (j4 K t))/\w'=w:=by
 have c:=M.k0;have d:=M.k1;have f:w.cell? (O B.b 2 Q)=J (.slice (B.aq 0) r.nD (B.cq 0)):=M.k2 0 Za;have H:ar (r.nF=K.nF/\r.nS=K.nS/\r.nD=K.nD):=⟨a.f,a.s,a.d⟩;have hF:=M.hF;have g:=M.hS;have h:=M.hD;obtain rfl|rfl|rfl|rfl|rfl|rfl:=b
 .rw[show sB 1=102 from Z]
  go_enter fZ,fG
  go_wp2
  go_ret
  exact⟨by rw[yT,←H.out.1];rfl,Z⟩
 .rw[show sB 2=115 from Z]
  go_enter fZ,fG
  go_wp2
  go_ret
  exact⟨by rw[zo,←H.out.2.1];rfl,Z⟩
 .rw[show sB 3=99 from Z]
  go_enter fZ,fG
  go_wp2
  go_ret
  exact⟨by rw[Ah,←H.out.2.2];rfl,Z⟩
 .rw[show sB 4=112 from Z]
  go_enter fZ,fG
  go_wp2
  go_ret
  exact⟨by rw[zI];rfl,Z⟩
 .rw[show sB 5=100 from Z]
  go_enter fZ,fG
  go_wp2
  go_ret
  exact⟨by rw[Ai];rfl,Z⟩
 .rw[show sB 6=119 from Z]
  go_enter fZ,fG
  go_wp2
  go_ret
  exact⟨by rw[zA];rfl,Z⟩
def Aa:Nat->ByteArray
 | 2=>⟨#[112,102,45]⟩|3=>⟨#[112,45,45]⟩|4=>⟨#[112,45,45]⟩|5=>⟨#[115,102,45]⟩|6=>⟨#[115,112,102]⟩|7=>⟨#[115,100,100]⟩|8=>⟨#[115,45,45]⟩|10=>⟨#[115,112,45]⟩|11=>⟨#[115,100,45]⟩|12=>⟨#[115,45,45]⟩|13=>⟨#[99,102,100]⟩
 | 14=>⟨#[100,100,45]⟩|15=>⟨#[100,45,45]⟩|16=>⟨#[100,112,119]⟩|17=>⟨#[100,112,119]⟩|18=>⟨#[112,119,45]⟩|19=>⟨#[112,119,45]⟩|_=>⟨#[45,45,45]⟩
theorem RH(n:Nat)(a:n<20)(b:n≠0){w:Wd} :
  aG V 37 #[Y U n] w λe w'=>e=.returned (.string (Aa n))/\w'=w:=by
 obtain rfl|rfl|rfl|rfl|rfl|rfl|rfl|rfl|rfl|rfl|rfl|rfl|rfl|rfl|rfl|rfl|rfl|rfl|rfl:n=1\/n=2\/n=3\/n=4\/n=5\/n=6\/n=7\/n=8\/n=9\/n=10\/n=11\/n=12\/n=13\/n=14\/n=15\/n=16\/n=17\/n=18\/n=19:=by omega
 all_goals
  go_enter Tryz.func37,Tryz.ntmps37
  go_wp2
  go_ret
  exact⟨Z,Z⟩
def BW(x y z:Int):Prop:=(2<=x/\x<=32)/\(1<=y/\y<=6)/\(0<=z/\z<=4)
theorem Tn(x y z:Int)(h:¬BW x y z)(w:Wd) :
  aG V 12 #[.agg #[Y U x,Y U y,Y U z]] w λe w'=>e=.returned (.tuple #[Po Q,Y U 1])/\bG w.heap.size w w':=by
 have c:ar (∀o,bG w.heap.size w (w.alloc o)):=λo=>(bD _ _).alloc (af _) _
 by_cases g:2<=x/\x<=32
 .have b:G5 x 2 32=true:=by unfold G5;simp;omega
  by_cases i:1<=y/\y<=6
  .have d:G5 y 1 6=true:=by unfold G5;simp;omega
   have f:¬(0<=z/\z<=4):=λf=>h ⟨g,i,f⟩;have j:G5 z 0 4=false:=by unfold G5;simp;omega
   go_enter kF,lX
   go_wp2_with fail
   refine(W4).mono ?_;rintro e a ⟨rfl,rfl⟩;rw[b]
   go_wp2_with fail
   refine(W4).mono ?_;rintro e a ⟨rfl,rfl⟩;rw[d]
   go_wp2_with fail
   refine(W4).mono ?_;rintro e a ⟨rfl,rfl⟩;rw[j]
   go_wp2
   go_ret2
   exact⟨Z,c.out _⟩
  .have d:G5 y 1 6=false:=by unfold G5;simp;omega
   go_enter kF,lX
   go_wp2_with fail
   refine(W4).mono ?_;rintro e a ⟨rfl,rfl⟩;rw[b]
   go_wp2_with fail
   refine(W4).mono ?_;rintro e a ⟨rfl,rfl⟩;rw[d]
   go_wp2
   go_ret2
   exact⟨Z,c.out _⟩
 .have b:G5 x 2 32=false:=by unfold G5;simp;omega
  go_enter kF,lX
  go_wp2_with fail
  refine(W4).mono ?_;rintro e a ⟨rfl,rfl⟩;rw[b]
  go_wp2
  go_ret2
  exact⟨Z,c.out _⟩
theorem c5G(x y z:Int)(j:-9223372036854775808<=x/\x<9223372036854775808)(k:-9223372036854775808<=y/\y<9223372036854775808)(h:¬BW x y z)(w:Wd) :
  aG V 13 #[.agg #[Y U x,Y U y,Y U z]] w λe w'=>e=.returned (.tuple #[Po Q,Y U 1])/\bG w.heap.size w w':=by
 have l:ar (∀o,bG w.heap.size w (w.alloc o)):=λo=>(bD _ _).alloc (af _) _;have a:0<=iU (x - 2)/\iU (x - 2)<31->2<=x/\x<=32:=by unfold iU;omega
 have d:0<=iU (y - 1)/\iU (y - 1)<6->1<=y/\y<=6:=by unfold iU;omega
 have b:(oZ (iU (x - 2)) 31&&(oZ (iU (y - 1)) 6&&oZ z 5))=false:=by
  rw[gJ];intro c;simp only[aC,DY]at c;exact h ⟨a c.1,d c.2.1,by omega⟩
 clear a d j k h;generalize f:oZ (iU (x - 2)) 31=m at b;generalize g:oZ (iU (y - 1)) 6=n at b;generalize i:oZ z 5=p at b
 go_enter Tryz.func13,Tryz.ntmps13
 go_wp2_with fail
 refine(Y7).mono ?_;rintro e a ⟨rfl,rfl⟩;rw[f]
 go_wp2_with fail
 refine(Y7).mono ?_;rintro e a ⟨rfl,rfl⟩;rw[g]
 go_wp2_with fail
 refine(Y7).mono ?_;rintro e a ⟨rfl,rfl⟩;rw[i];clear f g i;cases m<;>cases n<;>cases p
 all_goals first|(exfalso;exact absurd b Zb)|skip
 all_goals
  clear b
  go_wp2
  go_ret2
  exact⟨Z,l.out _⟩
structure ej (B:RB) (w w':Wd):Prop where
 os:w'.os=w.os
 tape:w'.tape=w.tape
 output:w'.output=w.output
 size:w.heap.size<=w'.heap.size
 block:∀k,k<w.heap.size->k≠B.bw->k≠B.bp->(∀q,q<3->k≠B.bq q)->w'.heap[k]?=w.heap[k]?
variable{a:Wd}
theorem ej.refl(w:Wd):ej B w w:=⟨Z,Z,Z,af _,λ_ _ _ _ _=>rfl⟩
theorem ej.trans(h:ej B a w)(k:ej B w w'):ej B a w' :=
 ⟨k.os.trans h.os,k.tape.trans h.tape,k.output.trans h.output,Zh h.size k.size,λi b c d e=>(k.block i (Zg b h.size) c d e).trans (h.block i b c d e)⟩
theorem ej.alloc(h:ej B a w)(o:Obj):ej B a (w.alloc o):=h.trans ⟨Z,Z,Z,by simp,λk b _ _ _=>aK w o k b⟩
theorem ej.drew(h:ej B a w):ej B a w.drew:=⟨h.os,h.tape,h.output,h.size,h.block⟩
theorem ej.oG(h:ej B a w)(o:Nat)(u:Vu):ej B a (w.setCell (O B.bw o Q) u) :=
 ⟨h.os,h.tape,h.output,by rw[i6];exact h.size,λk c b d e=>by rw[eN w _ u k (by simpa using b)];exact h.block k c b d e⟩
theorem ej.nZ(h:ej B a w)(o:Nat)(u:Vu):ej B a (w.setCell (O B.bp o Q) u) :=
 ⟨h.os,h.tape,h.output,by rw[i6];exact h.size,λk c d b e=>by rw[eN w _ u k (by simpa using b)];exact h.block k c d b e⟩
theorem ej.pa(h:ej B a w){q:Nat}(c:q<3)(o:Nat)(u:Vu):ej B a (w.setCell (O (B.bq q) o Q) u) :=
 ⟨h.os,h.tape,h.output,by rw[i6];exact h.size,λk d e f b=>by rw[eN w _ u k (by simpa using b q c)];exact h.block k d e f b⟩
def oL(B:RB)(w:Wd)(o:Out)(e:Ending)(w':Wd):Prop :=
 e=.returned (.tuple #[Y U o.n,Y U o.e])/\(∃b,ml w' B b/\Rel o.K b)/\ej B w w'
theorem oL.mk{B:RB}{w w':Wd}{o:Out}{c:Rk}(E:ar (o=⟨q,f,h⟩))(M:ml w' B c)(b:Rel q c)(k:ej B w w'):oL B w o (.returned (.tuple #[Y U f,Y U h])) w':=by
 unfold oL;rw[E.out];exact⟨Z,⟨c,M,b⟩,k⟩
def Rk.zero(r:Rk)(b:Nat):Rk:=(((r.oG b 0 0).oG b 1 0).oG b 2 0).oG b 3 0
theorem Lm(r:Rk)(b g j:Nat)(c:j<4):(r.zero b).W g j=if g=b then 0 else r.W g j:=by
 unfold Rk.zero Rk.oG upd
 by_cases h:g=b
 .subst h;cases j,(Za:j<4) using ep
  all_goals simp
 .simp[h]
theorem WG(K:aa)(s p:Nat)(f:Int)(b:Bool)(n:p<4)(i c:Nat)(o:c<12):qZ (K.fi s p f b) i c=if i=s/\c=4+p then qh f b else qZ K i c:=by
 have k:∀j,j≠3+p*2->(K.fi s p f b).S i j=K.S i j:=λj q=>d6 _ Za;unfold qZ
 by_cases d:c<3
 .rw[nT d,nT d,k c Za,nR Za]
 rw[nR d,nR d]
 by_cases e:c=3
 .rw[nT e,nT e,k 19 Za,nR Za]
 rw[nR e,nR e]
 by_cases g:c<8
 .rw[nT g,nT g];have l:(K.fi s p f b).dT i (c - 4)=if i=s/\c=4+p then f else K.dT i (c - 4):=by
   show upd K.S s (3+p*2) f i (3+(c - 4)*2)=_
   by_cases h:i=s/\c=4+p
   .rw[nT h,h.1,show 3+(c - 4)*2=3+p*2 by omega,upd_same]
   .rw[nR h,d6 _ Za];rfl
  have m:(K.fi s p f b).wr i (c - 4)=if i=s/\c=4+p then b else K.wr i (c - 4):=by
   show upd K.B s (4+p*2) b i (4+(c - 4)*2)=_
   by_cases h:i=s/\c=4+p
   .rw[nT h,h.1,show 4+(c - 4)*2=4+p*2 by omega,upd_same]
   .rw[nR h,d6 _ Za];rfl
  rw[l,m];split<;>rfl
 .rw[nR g,nR g,nR Za];have l:(K.fi s p f b).file i (c - 8)=K.file i (c - 8):=k _ Za;have m:(K.fi s p f b).end i (c - 8)=K.end i (c - 8):=d6 _ Za;rw[l,m]
theorem JG{K:aa}(b:q.S=K.S)(d:q.B=K.B)(i c:Nat):qZ q i c=qZ K i c:=by
 unfold qZ aa.dT aa.wr aa.file aa.end;rw[b,d]
theorem Rel.frame{K K1:aa}{r:Rk}(b:Rel K r)(z:oD K K1)(p:K1.S=K.S)(s:K1.B=K.B)(t:K1.D=K.D){g:Nat}(hF:∀n c,n≠g->K1.F n c=K.F n c)(d:Rk)(f:d.nF=r.nF/\d.nS=r.nS/\d.nD=r.nD/\d.P=r.P/\d.R=r.R)(u:∀n j,j<4->n≠g->d.W n j=r.W n j)(v:∀j,j<4->g<K.nF->(K1.F g 0=2\/K1.F g 0=3)->d.W g j=K1.F g (2+j)):Rel K1 d:=by
 refine⟨by rw[f.1,z.f];exact b.f,by rw[f.2.1,z.s];exact b.s,by rw[f.2.2.1,z.d];exact b.d,λi c m x=>?_,λn j h k l=>?_,λe q o y=>?_⟩
 .rw[f.2.2.2.1,JG p s];rw[z.s]at m;exact b.p i c m x
 .rw[z.f]at h
  by_cases e:n=g
  .subst e;exact v j k h l
  .rw[hF n 0 e]at l;rw[hF n _ e,u n j k e];exact b.w n j h k l
 .rw[f.2.2.2.2,t];rw[z.d]at o;exact b.q e q o y
theorem Rel.fi{K:aa}{r:Rk}(d:Rel K r)(s p:Nat)(f:Int)(b:Bool)(g:p<4):Rel (K.fi s p f b) (r.nZ s (4+p) (qh f b)):=by
 refine⟨d.f,d.s,d.d,λi c j e=>?_,d.w,d.q⟩;rw[WG K s p f b g i c e];show upd r.P s (4+p) (qh f b) i c=_
 by_cases h:i=s/\c=4+p
 .rw[nT h,h.1,h.2,upd_same]
 .rw[nR h,d6 _ h];exact d.p i c j e
theorem Rel.an{K:aa}{r:Rk}(d:Rel K r)(f:Nat)(a b:Int):Rel (K.an f a b) (r.zero f) :=
 d.frame (K1:=K.an f a b) ⟨Z,Z,Z⟩ Z Z Z (g:=f) (λn c e=>aa.oB K f a b n c e) (r.zero f) ⟨Z,Z,Z,Z,Z⟩ (λn j g e=>by rw[Lm r f n j g,nR e])
  (λj g _ _=>by rw[Lm r f f j g,nT Z,Io,nR Za,nR Za,nT Za])
theorem Rel.rX{K:aa}{r:Rk}(d:Rel K r)(f:Nat)(a b:Int)(i:a≠2/\a≠3):Rel (K.an f a b) r :=
 d.frame (K1:=K.an f a b) ⟨Z,Z,Z⟩ Z Z Z (g:=f) (λn c e=>aa.oB K f a b n c e) r ⟨Z,Z,Z,Z,Z⟩ (λn j g e=>rfl)
  (λj g _ h=>by rw[(K7 K f a b).1]at h;omega)
theorem Rel.rJ{K:aa}{r:Rk}(b:Rel K r)(f j:Nat)(v:Int)(m:j<4):Rel (K.nU f (2+j) v) (r.oG f j v) :=
 b.frame (K1:=K.nU f (2+j) v) ⟨Z,Z,Z⟩ Z Z Z (g:=f) (λn c g=>d6 _ Za) (r.oG f j v) ⟨Z,Z,Z,Z,Z⟩ (λn i d g=>d6 _ Za)
  (λi d k h=>by
   have l:(K.nU f (2+j) v).F f 0=K.F f 0:=d6 _ Za;rw[l]at h;show upd r.W f j v f i=upd K.F f (2+j) v f (2+i)
   by_cases e:i=j
   .subst e;rw[upd_same,upd_same]
   .rw[d6 _ Za,d6 _ Za];exact b.w f i k d h)
theorem T9{K:aa}{r:Rk}(G:Good K)(d:Rel K r)(e:b<K.nS)(f:c<4)(hF:K.nF<=32) :
  (K.dT b c=-1/\K.wr b c=false/\r.P b (4+c)=0)\/∃n:Nat,K.dT b c=n/\n<K.nF/\((K.wr b c=false/\r.P b (4+c)=2*(n:Int)+1)\/(K.wr b c=true/\r.P b (4+c)=2*(n:Int)+2)):=by
 have k:=G.dT b c e f;have g:=d.dT e f
 by_cases h:K.dT b c=-1
 .left;refine⟨h,?_,by rw[g,h,G6]⟩;cases i:K.wr b c
  .rfl
  .exact absurd h (G.wr b c e f i)
 .right;obtain⟨n,j⟩:∃n:Nat,K.dT b c=n:=⟨(K.dT b c).toNat,by omega⟩;refine⟨n,j,by omega,?_⟩;rw[g,j,H8];cases i:K.wr b c
  .left;simp
  .right;simp
theorem b7I(M:ml w B r)(c:Rel K r)(f:Own K)(N:iP K)(G:Good K)(z:Int)(A:b<K.nS)(m:d<4)(o:e<K.nF) :
  aG V 39 #[Po (J (O B.b 0 Q)),Y U b,Y U 2,Y U d,Y U e,Y U z] w (oL B w (qb K b d e)):=by
 have g:ar (ml w B r):=M;have j:ar (Rel K r):=c;have T:=M.k0;have W:=M.k1;have hF:r.nF<=32:=M.hF;have p:ar (r.nF=K.nF/\r.nS=K.nS):=⟨c.f,c.s⟩;have q:b<r.nS:=by have:=c.s;omega
 have h:e<r.nF:=by have:=c.f;omega
 have X:(0:Int)<=(b:Int):=by omega
 have i2:(b:Int)<(r.nS:Int):=by omega
 have j1:(0:Int)<=(d:Int):=by omega
 have j2:(d:Int)<4:=by omega
 have l1:(0:Int)<=(e:Int):=by omega
 have l2:(e:Int)<(r.nF:Int):=by omega
 have s:w.cell? (O B.bp (b*12+4+d) Q)=J (Y U (r.P b (4+d))):=by rw[aS];exact M.pr b (4+d) q Za
 clear M c
 go_enter iy,gU
 rcases T9 G j.out A m (by have:=p.out;omega) with⟨C,D,k⟩|⟨n,C,D,k⟩
 .rw[k]at s
  by_cases t:K.F e 0=0
  .have E:ar (qb K b d e=⟨(K.an e 2 b).fi b d e true,0,0⟩):=by unfold qb ar;rw[nR Za,nR Za]
   have l:(K.F e 0==0)=true:=by simpa using t
   go_wp2_with fail
   refine(Y6 g.out j.out f N G o).mono ?_;rintro i u ⟨rfl,rfl⟩;rw[l];have zp:=g.out.zp;have zw:=g.out.zw;have n1:=g.out.wp;have n2:B.bp≠B.bw:=λi=>n1 i.symm;have d0:u.cell? (O B.bw (e*4) Q)=J (Y U (r.W e 0)):=g.out.wd e 0 h Za;have d1:=g.out.wd e 1 h Za;have d2:=g.out.wd e 2 h Za;have d3:=g.out.wd e 3 h Za;have F:=g.out.bw;have H:=g.out.bp;have b3:B.bw≠B.b:=λi=>F i.symm;have b4:B.bp≠B.b:=λi=>H i.symm
   go_wp2
   go_ret2
   have I:=g.out.nZ (i:=b) (c:=4+d) (o:=b*12+4+d) q Za Za (2*(e:Int)+2);have L:=I.oG (i:=e) (c:=0) (o:=e*4) h Za Za 0;have P:=L.oG (i:=e) (c:=1) (o:=e*4+1) h Za Za 0;have R:=P.oG (i:=e) (c:=2) (o:=e*4+2) h Za Za 0;have S:=R.oG (i:=e) (c:=3) (o:=e*4+3) h Za Za 0;refine oL.mk E S ?_ (((((ej.refl _).nZ _ _).oG _ _).oG _ _).oG _ _ |>.oG _ _);have x:=(j.out.an e 2 b).fi b d e true m;rw[H8]at x;exact x
  .have E:ar (qb K b d e=⟨K,0,5⟩):=by unfold qb ar;rw[nR Za,nT Za]
   have l:(K.F e 0==0)=false:=by simpa using t
   go_wp2_with fail
   refine(Y6 g.out j.out f N G o).mono ?_;rintro i u ⟨rfl,rfl⟩;rw[l]
   go_wp2
   go_ret2
   exact oL.mk E g.out j.out (ej.refl _)
 .have E:ar (qb K b d e=⟨K,0,6⟩):=by unfold qb ar;rw[nT Za]
  obtain⟨v,y,b',c'⟩:∃v,r.P b (4+d)=v/\0<v/\v<100:=⟨_,Z,by omega,by have:=p.out;omega⟩;rw[y]at s;clear k y
  go_wp2
  go_ret2
  exact oL.mk E g.out j.out (ej.refl _)
theorem U1(f:Nat->Nat->y)(i c:Nat)(x d:y):upd (upd f i c x) i c d=upd f i c d:=by
 funext a b;unfold upd
 by_cases h:a=i/\b=c
 .rw[nT h,nT h]
 .rw[nR h,nR h,nR h]
theorem XV(f:Nat->Nat->y)(i c:Nat):upd f i c (f i c)=f:=by
 funext a b;unfold upd
 by_cases h:a=i/\b=c
 .rw[nT h,h.1,h.2]
 .rw[nR h]
theorem c2e(r:Rk)(i c:Nat)(x y:Int):(r.nZ i c x).nZ i c y=r.nZ i c y:=by
 show { r with P:=upd (upd r.P i c x) i c y }={ r with P:=upd r.P i c y };rw[U1]
theorem Tc(K:aa)(s p:Nat)(b:Bool):K.fi s p (K.dT s p) b=K.oW s (4+p*2) b:=by
 show { K with S:=upd K.S s (3+p*2) (K.S s (3+p*2)),B:=upd K.B s (4+p*2) b }={ K with B:=upd K.B s (4+p*2) b };rw[XV]
theorem Yf(M:ml w B r)(c:Rel K r)(e:Own K)(N:iP K)(G:Good K)(y z:Int)(q:b<K.nS)(i:d<4) :
  aG V 39 #[Po (J (O B.b 0 Q)),Y U b,Y U 3,Y U d,Y U y,Y U z] w (oL B w (O0 K b d)):=by
 have j:ar (ml w B r):=M;have f:ar (Rel K r):=c;have u:=M.k1;have hF:r.nF<=32:=M.hF;have k:ar (r.nF=K.nF/\r.nS=K.nS):=⟨c.f,c.s⟩;have l:b<r.nS:=by have:=c.s;omega
 have x:(0:Int)<=(b:Int):=by omega
 have A:(b:Int)<(r.nS:Int):=by omega
 have C:(0:Int)<=(d:Int):=by omega
 have D:(d:Int)<4:=by omega
 have m:w.cell? (O B.bp (b*12+4+d) Q)=J (Y U (r.P b (4+d))):=by rw[aS];exact M.pr b (4+d) l Za
 have F:=M.zp;clear M c
 go_enter iy,gU
 rcases T9 G f.out q i (by have:=k.out;omega) with⟨g,s,h⟩|⟨n,g,s,h⟩
 .rw[h]at m;have E:ar (O0 K b d=⟨K,0,6⟩):=by unfold O0 ar;rw[nT g]
  go_wp2
  go_ret2
  exact oL.mk E j.out f.out (ej.refl _)
 .have E:ar (O0 K b d=⟨(K.an n 0 (-1)).fi b d (-1) false,0,0⟩):=by unfold O0 ar;rw[nR Za];unfold aa.oz;rw[g,au]
  obtain⟨v,o,H,I⟩:∃v,r.P b (4+d)=v/\0<v/\v<100:=⟨_,Z,by omega,by have:=k.out;omega⟩;have L:¬v=0:=by omega
  rw[o]at m;clear h o
  go_wp2
  go_ret2
  have t:=j.out.nZ (i:=b) (c:=4+d) (o:=b*12+4+d) l Za Za 0;refine oL.mk E t ?_ ((ej.refl _).nZ _ _);have p:=(f.out.rX n 0 (-1) Za).fi b d (-1) false i;rw[G6]at p;exact p
theorem a9t(M:ml w B r)(c:Rel K r)(f:Own K)(N:iP K)(G:Good K)(y z:Int)(A:b<K.nS)(s:d<4) :
  aG V 39 #[Po (J (O B.b 0 Q)),Y U b,Y U 4,Y U d,Y U y,Y U z] w (oL B w (B5 K b d y)):=by
 have k:ar (ml w B r):=M;have l:ar (Rel K r):=c;have I:=M.k1;have hF:r.nF<=32:=M.hF;have m:ar (r.nF=K.nF/\r.nS=K.nS):=⟨c.f,c.s⟩;have g:b<r.nS:=by have:=c.s;omega
 have L:(0:Int)<=(b:Int):=by omega
 have P:(b:Int)<(r.nS:Int):=by omega
 have R:(0:Int)<=(d:Int):=by omega
 have S:(d:Int)<4:=by omega
 have t:w.cell? (O B.bp (b*12+4+d) Q)=J (Y U (r.P b (4+d))):=by rw[aS];exact M.pr b (4+d) g Za
 have T:=M.zp;have C:=M.bp;have W:B.bp≠B.b:=λe=>C e.symm;clear M c
 go_enter iy,gU
 rcases T9 G l.out A s (by have:=m.out;omega) with⟨o,D,i⟩|⟨n,o,D,i⟩
 .rw[i]at t;have E:ar (B5 K b d y=⟨K,0,6⟩):=by unfold B5 ar;rw[nT o]
  go_wp2
  go_ret2
  exact oL.mk E k.out l.out (ej.refl _)
 .have X:n<32:=by have:=m.out;omega
  obtain⟨v,u,a',b',hq⟩:∃v,r.P b (4+d)=v/\0<v/\v<100/\(v - 1).tdiv 2=n:=⟨_,Z,by omega,by have:=m.out;omega,by
   rcases i with⟨_,h⟩|⟨_,h⟩
   .rw[h];exact I7 n false
   .rw[h];exact I7 n true⟩
  have ne:¬v=0:=by omega
  rw[u]at t;clear i u;have x:∀j,Rel (K.oW b (4+d*2) j) (r.nZ b (4+d) (qh n j)):=λj=>by
   have F:=l.out.fi b d n j s;rw[←Tc,o];exact F
  by_cases p:y=0
  .subst p;have E:ar (B5 K b d 0=⟨K.oW b (4+d*2) false,0,0⟩):=by unfold B5 ar;rw[nR Za];rfl
   go_wp2
   go_ret2
   have q:=k.out.nZ (i:=b) (c:=4+d) (o:=b*12+4+d) g Za Za (2*(n:Int)+1);refine oL.mk E q ?_ ((ej.refl _).nZ _ _);have:=x false;rw[H8]at this;exact this
  .have E:ar (B5 K b d y=⟨K.oW b (4+d*2) true,0,0⟩):=by unfold B5 ar;rw[nR Za,show(y != 0)=true from by simpa using p]
   have e0:(y != 0)=true:=by simpa using p
   go_wp2
   go_ret2
   have q:=k.out.nZ (i:=b) (c:=4+d) (o:=b*12+4+d) g Za Za (2*(n:Int)+1);have H:=q.nZ (i:=b) (c:=4+d) (o:=b*12+4+d) g Za Za (2*(n:Int)+2);refine oL.mk E H ?_ (((ej.refl _).nZ _ _).nZ _ _);rw[c2e];have:=x true;rw[H8]at this;exact this
theorem b5u(M:ml w B r)(e:Rel K r)(f:Own K)(N:iP K)(G:Good K)(z:Int)(m:b<K.nS)(o:c<4)(p:d<4) :
  aG V 39 #[Po (J (O B.b 0 Q)),Y U b,Y U 18,Y U c,Y U d,Y U z] w (oL B w (Z0 K b c d)):=by
 have l:ar (ml w B r):=M;have g:ar (Rel K r):=e;have y:=M.k0;have A:=M.k1;have hF:r.nF<=32:=M.hF;have i:ar (r.nF=K.nF/\r.nS=K.nS):=⟨e.f,e.s⟩;have u:b<r.nS:=by have:=e.s;omega
 have C:(0:Int)<=(b:Int):=by omega
 have D:(b:Int)<(r.nS:Int):=by omega
 have F:(0:Int)<=(c:Int):=by omega
 have H:(c:Int)<4:=by omega
 have I:(0:Int)<=(d:Int):=by omega
 have L:(d:Int)<4:=by omega
 have q:w.cell? (O B.bp (b*12+4+c) Q)=J (Y U (r.P b (4+c))):=by rw[aS];exact M.pr b (4+c) u Za
 clear M e
 go_enter iy,gU
 rcases T9 G g.out m o (by have:=i.out;omega) with⟨j,s,k⟩|⟨n,j,s,k⟩
 .rw[k]at q;have E:ar (Z0 K b c d=⟨K,0,6⟩):=by unfold Z0 ar;rw[nT j]
  go_wp2
  go_ret2
  exact oL.mk E l.out g.out (ej.refl _)
 .have P:n<32:=by have:=i.out;omega
  have x:n<r.nF:=by have:=i.out;omega
  have E:ar (Z0 K b c d=⟨K,r.W n d,0⟩):=by
   unfold Z0 ar;rw[nR Za,j,au,g.out.w n d s p (bT (f.what (.dT b c) ⟨m,o⟩ n j).1)]
  obtain⟨v,t,R,S,T⟩:∃v,r.P b (4+c)=v/\0<v/\v<100/\(v - 1).tdiv 2=n:=⟨_,Z,by omega,by have:=i.out;omega,by
   rcases k with⟨_,h⟩|⟨_,h⟩
   .rw[h];exact I7 n false
   .rw[h];exact I7 n true⟩
  have W:¬v=0:=by omega
  have X:(0:Int)<=(n:Int):=by omega
  have l2:(n:Int)<(r.nF:Int):=by omega
  have c2:=l.out.wd n d x p;rw[t]at q;clear k t
  go_wp2
  go_ret2
  exact oL.mk E l.out g.out (ej.refl _)
theorem Zw(M:ml w B r)(c:Rel K r)(f:Own K)(N:iP K)(G:Good K)(z:Int)(y:b<K.nS)(A:d<4)(k:e<4) :
  aG V 39 #[Po (J (O B.b 0 Q)),Y U b,Y U 19,Y U d,Y U e,Y U z] w (oL B w (J2 K b d e z)):=by
 have i:ar (ml w B r):=M;have j:ar (Rel K r):=c;have L:=M.k0;have P:=M.k1;have hF:r.nF<=32:=M.hF;have l:ar (r.nF=K.nF/\r.nS=K.nS):=⟨c.f,c.s⟩;have C:b<r.nS:=by have:=c.s;omega
 have R:(0:Int)<=(b:Int):=by omega
 have S:(b:Int)<(r.nS:Int):=by omega
 have T:(0:Int)<=(d:Int):=by omega
 have W:(d:Int)<4:=by omega
 have X:(0:Int)<=(e:Int):=by omega
 have x2:(e:Int)<4:=by omega
 have m:w.cell? (O B.bp (b*12+4+d) Q)=J (Y U (r.P b (4+d))):=by rw[aS];exact M.pr b (4+d) C Za
 have zw:=M.zw;clear M c
 go_enter iy,gU
 rcases T9 G j.out y A (by have:=l.out;omega) with⟨t,u,o⟩|⟨n,t,u,o⟩
 .rw[o]at m;have E:ar (J2 K b d e z=⟨K,0,6⟩):=by unfold J2 ar;rw[nT u]
  go_wp2
  go_ret2
  exact oL.mk E i.out j.out (ej.refl _)
 .have hn:n<32:=by have:=l.out;omega
  have x:n<r.nF:=by have:=l.out;omega
  rcases o with⟨p,h⟩|⟨p,h⟩
  .have E:ar (J2 K b d e z=⟨K,0,6⟩):=by unfold J2 ar;rw[nT p]
   have q:(2*(n:Int)+1).tmod 2=1:=by rw[show(2*(n:Int)+1)=((2*n+1:Nat):Int) by omega,show(2:Int)=((2:Nat):Int) by rfl,←gi];omega
   have s:(2*(n:Int)+1 - 1).tdiv 2=n:=I7 n false;obtain⟨v,g,D,F⟩:∃v,2*(n:Int)+1=v/\0<v/\v<100:=⟨_,Z,by omega,by omega⟩;have H:¬v=0:=by omega
   rw[h,g]at m;rw[g]at q s;clear h g
   go_wp2
   go_ret2
   exact oL.mk E i.out j.out (ej.refl _)
  .have E:ar (J2 K b d e z=⟨K.nU n (2+e) z,0,0⟩):=by unfold J2 ar;rw[nR (by simp[p]),t,au]
   have q:(2*(n:Int)+2).tmod 2=0:=by rw[show(2*(n:Int)+2)=((2*n+2:Nat):Int) by omega,show(2:Int)=((2:Nat):Int) by rfl,←gi];omega
   have s:(2*(n:Int)+2 - 1).tdiv 2=n:=I7 n true;obtain⟨v,g,D,F⟩:∃v,2*(n:Int)+2=v/\0<v/\v<100:=⟨_,Z,by omega,by omega⟩;have H:¬v=0:=by omega
   have l1:(0:Int)<=(n:Int):=by omega
   have l2:(n:Int)<(r.nF:Int):=by omega
   have c2:=i.out.wd n e x k;rw[h,g]at m;rw[g]at q s;clear h g
   go_wp2
   go_ret2
   have I:=i.out.oG (i:=n) (c:=e) (o:=n*4+e) x k Z z;exact oL.mk E I (j.out.rJ n e z k) ((ej.refl _).oG _ _)
theorem YU(K:aa)(s c:Nat)(v:Int)(m:c<3)(i d:Nat)(n:d<12):qZ (K.cf s c v) i d=if i=s/\d=c then v else qZ K i d:=by
 have b:∀j,¬(i=s/\j=c)->(K.cf s c v).S i j=K.S i j:=λj f=>d6 _ f;unfold qZ
 by_cases e:d<3
 .rw[nT e,nT e]
  by_cases h:i=s/\d=c
  .rw[nT h,h.1,h.2];exact upd_same _ _
  .rw[nR h];exact b d h
 rw[nR e,nR e,nR (show ¬(i=s/\d=c) by omega)];have g:(K.cf s c v).S i 19=K.S i 19:=b 19 Za;have k:(K.cf s c v).dT i (d - 4)=K.dT i (d - 4):=b _ Za;have l:(K.cf s c v).file i (d - 8)=K.file i (d - 8):=b _ Za;rw[g,k,l];rfl
theorem Td(K:aa)(s:Nat)(v:Int)(i d:Nat)(m:d<12):qZ (K.cf s 19 v) i d=if i=s/\d=3 then v else qZ K i d:=by
 have c:∀j,¬(i=s/\j=19)->(K.cf s 19 v).S i j=K.S i j:=λj g=>d6 _ g;unfold qZ
 by_cases e:d<3
 .rw[nT e,nT e,c d Za,nR Za]
 rw[nR e,nR e]
 by_cases b:d=3
 .rw[nT b,nT b]
  by_cases h:i=s
  .rw[nT ⟨h,b⟩,h];exact upd_same _ _
  .rw[nR Za];exact c 19 Za
 rw[nR b,nR b,nR (show ¬(i=s/\d=3) by omega)]
 by_cases f:d<8
 .have k:(K.cf s 19 v).dT i (d - 4)=K.dT i (d - 4):=c _ Za;rw[nT f,nT f,k];rfl
 .have l:(K.cf s 19 v).file i (d - 8)=K.file i (d - 8):=c _ Za;rw[nR f,nR f,l];rfl
theorem Rel.cf{K:aa}{r:Rk}(b:Rel K r)(s c:Nat)(v:Int)(f:c<3):Rel (K.cf s c v) (r.nZ s c v):=by
 refine⟨b.f,b.s,b.d,λi d g e=>?_,b.w,b.q⟩;rw[YU K s c v f i d e];show upd r.P s c v i d=_
 by_cases h:i=s/\d=c
 .rw[nT h,h.1,h.2,upd_same]
 .rw[nR h,d6 _ h];exact b.p i d g e
theorem Rel.vG{K:aa}{r:Rk}(b:Rel K r)(s:Nat)(v:Int):Rel (K.cf s 19 v) (r.nZ s 3 v):=by
 refine⟨b.f,b.s,b.d,λi d e c=>?_,b.w,b.q⟩;rw[Td K s v i d c];show upd r.P s 3 v i d=_
 by_cases h:i=s/\d=3
 .rw[nT h,h.1,h.2,upd_same]
 .rw[nR h,d6 _ h];exact b.p i d e c
def Rk.row(r:Rk)(s:Nat)(g:Nat->Int):Rk:={ r with P:=λi c=>if i=s then g c else r.P i c }
theorem ml.row{w:Wd}{B:RB}{r:Rk}(M:ml w B r)(x:b<r.nS)(k:List Vu)(g:Nat->Int)(y:k.length=12)(z:∀c,c<12->k[c]?=J (Y U (g c))):ml (w.setCells B.bp (b*12) k) B (r.row b g):=by
 have A:∀j,j<k.length->(w.cell? (O B.bp (b*12+j) Q)).isSome=true:=λj m=>by rw[M.pr b j x Za];rfl
 have n:∀p o,p≠B.bp->(w.setCells B.bp (b*12) k).cell? (O p o Q)=w.cell? (O p o Q):=λp o C=>dX B.bp k (b*12) w (O p o Q) λh=>absurd h C;have D:∀i j,i≠b->j<12->(w.setCells B.bp (b*12) k).cell? (O B.bp (i*12+j) Q)=w.cell? (O B.bp (i*12+j) Q):=λi j v m=>dX B.bp k (b*12) w (O B.bp (i*12+j) Q) (λ_ _=>by rw[y];show i*12+j<b*12\/b*12+12<=i*12+j;omega);have E:∀j (m:j<12),(w.setCells B.bp (b*12) k).cell? (O B.bp (b*12+j) Q)=J (k[j]' Za):=λj m=>kU B.bp k (b*12) w A j Za;have u:=M.bp;have F:=M.wp
 refine⟨by rw[n _ _ u];exact M.k0,by rw[n _ _ u];exact M.k1,λq l=>by rw[n _ _ u];exact M.k2 q l,M.aq,λf j H m=>by rw[n _ _ F];exact M.wd f j H m,?_,λd q s l=>by rw[n _ _ λe=>M.pq q l e.symm];exact M.rg d q s l,
  λo=>by rw[dH];exact M.zw o,λo=>by rw[dH];exact M.zp o,λq o l s=>by rw[dH];exact M.zq q o l s,by rw[l9];exact M.lb,by rw[l9];exact M.lw,by rw[l9];exact M.lp,λq l s=>by rw[l9];exact M.lq q l s,
  M.bw,M.bp,M.bq,M.wp,M.wq,M.pq,M.qq,M.hF,M.hS,M.hD⟩
 intro i c v t;show _=J (dO .i64 (if i=b then g c else r.P i c))
 by_cases e:i=b
 .subst e;rw[E c t,nT Z];have:=z c t;rw[br Za]at this;exact this
 .rw[D i c e t,nR e];exact M.pr i c v t
theorem ml.ud{w:Wd}{B:RB}{r:Rk}(M:ml w B r)(c:b<r.nS):w.there B.bp (b*12) 12:=λj d=>⟨by rw[M.pr b j c d];rfl,M.zp _⟩
theorem ej.row{B:RB}{a w:Wd}(h:ej B a w):∀(b:List Vu) (o:Nat),ej B a (w.setCells B.bp o b):=λb=>by
 induction b generalizing w with
 | nil=>intro o;exact h
 | cons v r c=>intro o;exact c (h.nZ o v) (o+1)
def I3(a b c d:Int):List dQ:=[Y U a,Y U b,Y U c,Y U d,Y U 0,Y U 0,Y U 0,Y U 0,Y U 0,Y U 0,Y U 0,Y U 0]
def J8(a b c d:Int)(i:Nat):Int:=if i=0 then a else if i=1 then b else if i=2 then c else if i=3 then d else 0
theorem OH(a b c d:Int)(i:Nat)(e:i<12):(I3 a b c d)[i]?=J (Y U (J8 a b c d i)):=by
 obtain rfl|rfl|rfl|rfl|rfl|rfl|rfl|rfl|rfl|rfl|rfl|rfl:i=0\/i=1\/i=2\/i=3\/i=4\/i=5\/i=6\/i=7\/i=8\/i=9\/i=10\/i=11:=by omega
 all_goals rfl
theorem WH{K:aa}{r:Rk}(e:Rel K r)(N:iP K)(g:c<K.nS)(k:K.S c 0=0):Rel ((((K.an d 1 c).cf c 0 1).cf c 1 b).cf c 2 d) (r.row c (J8 1 b d 0)):=by
 have l:Rel (K.an d 1 c) r:=e.rX d 1 c Za;have q:(K.an d 1 c).S=K.S:=Z;have s:(K.an d 1 c).B=K.B:=Z;have t:(K.an d 1 c).nS=K.nS:=Z;generalize K.an d 1 c=u at *;have j:=((l.cf c 0 1 Za).cf c 1 b Za).cf c 2 d Za;refine⟨j.f,j.s,j.d,λi f m n=>?_,j.w,j.q⟩;rw[←j.p i f m n];show(if i=c then J8 1 b d 0 f else r.P i f)=upd (upd (upd r.P c 0 1) c 1 b) c 2 d i f;unfold upd
 by_cases h:i=c
 .subst h;rw[nT Z];obtain rfl|rfl|rfl|rfl|⟨v,o⟩|o:f=0\/f=1\/f=2\/f=3\/(4<=f/\f<8)\/8<=f:=by omega
  .simp[J8]
  .simp[J8]
  .simp[J8]
  .simp[J8];rw[e.code g,N.code g k]
  .obtain⟨p,rfl⟩:∃p,f=4+p:=⟨f - 4,by omega⟩;rw[nR Za,nR Za,nR Za,e.dT g Za,N.dT g k Za,G6];unfold J8;rw[nR Za,nR Za,nR Za,nR Za]
  .obtain⟨p,rfl⟩:∃p,f=8+p:=⟨f - 8,by omega⟩;rw[nR Za,nR Za,nR Za,e.file g Za,N.file g k Za,G6];unfold J8;rw[nR Za,nR Za,nR Za,nR Za]
 .rw[nR h,nR Za,nR Za,nR Za]
theorem b7C(M:ml w B r)(f:Rel K r)(g:Own K)(N:iP K)(G:Good K)(u:b<K.nS)(n:c<K.nS)(o:d<K.nF) :
  aG V 40 #[Po (J (O B.b 0 Q)),Y U b,Y U 5,Y U c,Y U d] w (oL B w (F7 K b c d)):=by
 have h:ar (ml w B r):=M;have i:ar (Rel K r):=f;have x:=M.k1;have l:c<r.nS:=by have:=f.s;omega
 have y:(0:Int)<=(c:Int):=by omega
 have z:(c:Int)<(r.nS:Int):=by omega
 have A:r.nS<=6:=M.hS;have m:w.cell? (O B.bp (c*12) Q)=J (Y U (r.P c 0)):=M.pr c 0 l Za;rw[f.kind n]at m;clear M f
 go_enter Tryz.func40,Tryz.ntmps40
 by_cases k:K.S c 0=0
 .rw[k]at m
  by_cases p:K.F d 0=0
  .have E:ar (F7 K b c d=⟨(((K.an d 1 c).cf c 0 1).cf c 1 b).cf c 2 d,0,0⟩):=by unfold F7 ar;rw[nR Za,nR Za]
   have j:(K.F d 0==0)=true:=by simpa using p
   go_wp2_with fail
   refine(Y6 h.out i.out g N G o).mono ?_;rintro e q ⟨rfl,rfl⟩;rw[j];have t:ar (q.there B.bp (c*12) 12):=h.out.ud l
   go_wp2_with (refine eh Z 107 _ _ Z _ (c*12) (I3 1 b d 0).toArray Z Z t.out Zd Zd ?_)
   go_ret2
   exact oL.mk E (h.out.row l (I3 1 b d 0) (J8 1 b d 0) Z (OH 1 b d 0)) (WH i.out N n k) ((ej.refl _).row _ _)
  .have E:ar (F7 K b c d=⟨K,0,5⟩):=by unfold F7 ar;rw[nR Za,nT Za]
   have j:(K.F d 0==0)=false:=by simpa using p
   go_wp2_with fail
   refine(Y6 h.out i.out g N G o).mono ?_;rintro e q ⟨rfl,rfl⟩;rw[j]
   go_wp2
   go_ret2
   exact oL.mk E h.out i.out (ej.refl _)
 .have E:ar (F7 K b c d=⟨K,0,7⟩):=by unfold F7 ar;rw[nT Za]
  have j:(K.S c 0 != 0)=true:=by simpa using k
  obtain⟨v,s⟩:∃v,K.S c 0=v:=⟨_,Z⟩;rw[s]at m j;clear k s
  go_wp2
  go_ret2
  exact oL.mk E h.out i.out (ej.refl _)
theorem Xg:(V.info? 69).map (λi=>(i.zero,i.size,i.bytes))=J (J (.agg #[Y U 0,Y U 0,Y U 0,Y U 0]),4,32):=by kernel_rfl
theorem c0U(n:Nat)(k:n<=32)(w:Wd):∃C:Array Vu,C.size=n*4/\(∀j,j<n*4->C[j]?=J (Y U 0))/\(iB 101 (Y U n) (Y U n)).run V w=.ok (Sc (J (O w.heap.size 0 Q)) n n) (w.alloc (.cells C 69)):=by
 have b:=Xg
 cases c:V.info? 69 with
 | none=>rw[c]at b;cases b
 | some i =>
  rw[c]at b;simp only[aF,bz,cU]at b;let⟨d,f,g⟩:=b;have:=run_make (P:=V) w 101 69 i _ Tryz.underlying101 c d .i64 .i64 n n Za Za (by rw[g];omega) Za;rw[f]at this;refine⟨_,size_madeCells _ _,λj l=>?_,this⟩;have e:(eU (gv (.agg #[Y U 0,Y U 0,Y U 0,Y U 0])) (n*4))[j]?=J ((#[dO .i64 0,Y U 0,Y U 0,Y U 0]:Array Vu)[j%4]!):=by
   unfold eU;rw[Array.getElem?_map,Array.getElem?_range,nT Za];rfl
  rw[e];have h:j%4<4:=Nat.mod_lt _ Za;generalize j%4=m at h;cases m,(Za:m<4) using ep
  all_goals rfl
def sZ:Nat->List Vu
 | 0=>[]
 | k+1=>sZ k++I3 0 (-1) (-1) 0
theorem ET:∀k,(sZ k).length=k*12
 | 0=>rfl
 | k+1=>by unfold sZ;rw[jG,ET k];show k*12+12=_;omega
structure uC (w w':Wd) (nF nS nD k:Nat) (v p q s:Vu):Prop where
 oX:bG w.heap.size w w'
 size:w.heap.size+3<=w'.heap.size
 cfg:w'.heap[w.heap.size]?=J (.cells #[Y U nF,Y U nS,Y U nD] 23)
 Cj:w'.rowIs (w.heap.size+1) 69 (nF*4) (λ_=>Y U 0)
 str:∃f,w'.rowIs (w.heap.size+1+1) 105 5 f/\f 0=Sc (J (O (w.heap.size+1) 0 Q)) nF nF/\f 1=v/\f 2=p/\f 3=q/\f 4=s
 own:w'.ownsRow (w.heap.size+3) 107 12 v k (sZ k)
theorem Qb(b:Wd)(j:Nat)(u:Vu)(c:(I3 0 (-1) (-1) 0)[j]?=J u):(b.alloc (.cells (I3 0 (-1) (-1) 0).toArray 107)).cell? (((O b.heap.size 0 Q):cC).add j)=J u:=by
 have d:=cE b (.cells (I3 0 (-1) (-1) 0).toArray 107);rw[eO,aE,jR _ _ j _ _ _ d];simpa using c
theorem WC:∀u∈I3 0 (-1) (-1) 0,u.oneCell'=true:=by
 have h:(I3 0 (-1) (-1) 0).toArray.all (·.oneCell')=true:=by kernel_rfl
 exact λu b=>cR.1 h u (by simpa using b)
theorem uC.start(w:Wd)(b c d:Nat)(C:Array Vu)(f:C.size=b*4)(g:∀j,j<b*4->C[j]?=J (Y U 0)) :
  uC w (((w.alloc (.cells #[Y U b,Y U c,Y U d] 23)).alloc (.cells C 69)).alloc (.cells #[Sc (J (O (w.heap.size+1) 0 Q)) b b,Sc Q 0 0,Sc Q 0 0,Sc Q 0 0,Sc Q 0 0] 105)) b c d 0 (Sc Q 0 0) (Sc Q 0 0) (Sc Q 0 0) (Sc Q 0 0):=by
 refine⟨(((bD _ _).alloc (af _) _).alloc Zc _).alloc (by simp;omega) _,by simp,?_,?_,?_,dh _ _ _ _⟩
 .rw[aK _ _ _ (by simp;omega),aK _ _ _ Zc];exact cE w _
 .have h:=(yd w (.cells #[Y U b,Y U c,Y U d] 23) C 69).alloc (.cells #[Sc (J (O (w.heap.size+1) 0 Q)) b b,Sc Q 0 0,Sc Q 0 0,Sc Q 0 0,Sc Q 0 0] 105);rw[f]at h;refine h.congr λj i=>?_;rw[aY,g j i];rfl
 .have h:=K9 ((w.alloc (.cells #[Y U b,Y U c,Y U d] 23)).alloc (.cells C 69)) #[Sc (J (O (w.heap.size+1) 0 Q)) b b,Sc Q 0 0,Sc Q 0 0,Sc Q 0 0,Sc Q 0 0] 105;have e:((w.alloc (.cells #[Y U b,Y U c,Y U d] 23)).alloc (.cells C 69)).heap.size=w.heap.size+1+1:=by simp
  rw[e]at h;exact⟨_,h,Z,Z,Z,Z,Z⟩
theorem c4i:(V.info? 107).map (λi=>(i.zero,i.size,i.bytes))=J (J (.agg (I3 0 0 0 0).toArray),12,96):=by kernel_rfl
def Gt(c:Nat):TypeId:=if c=1 then 107 else 3
def Cy(c:Nat):Nat:=if c=1 then 12 else 1
def up(f:Nat->y)(c:Nat)(v:y):Nat->y:=λi=>if i=c then v else f i
theorem Y0{f:Nat->y}{v:y}:up f b v b=v:=by simp[up]
theorem D5{f:Nat->y}{v:y}(h:c≠b):up f b v c=f c:=by simp[up,h]
structure qW (w w':Wd) (nF nS nD:Nat) (V:Nat->Vu) (N:Nat->Nat) (X:Nat->List Vu):Prop where
 oX:bG w.heap.size w w'
 size:w.heap.size+3<=w'.heap.size
 cfg:w'.heap[w.heap.size]?=J (.cells #[Y U nF,Y U nS,Y U nD] 23)
 Cj:w'.rowIs (w.heap.size+1) 69 (nF*4) (λ_=>Y U 0)
 str:w'.rowIs (w.heap.size+1+1) 105 5 (λc=>if c=0 then Sc (J (O (w.heap.size+1) 0 Q)) nF nF else V c)
 own:∀c,1<=c->c<=4->w'.ownsRow (w.heap.size+3) (Gt c) (Cy c) (V c) (N c) (X c)
 apart:∀c c',1<=c->c<=4->1<=c'->c'<=4->c≠c'->(V c).ownBlock=Q\/(V c).ownBlock≠(V c').ownBlock
variable{w2:Wd}{p m l:Nat}{s:Nat->Vu}{N:Nat->Nat}{X:Nat->List Vu}
theorem qW.pX(G:qW w w' p m l s N X)(c:1<=b)(d:b<=4){o:Obj}(f:(w'.alloc o).grownBy w2 (s b).ownBlock)(i:Nat)(g:i<w.heap.size+3):w2.heap[i]?=w'.heap[i]?:=by
 have h:=G.size;rw[f.block i (by simp;omega) λe=>by have:=(G.own b c d).lt i e.symm;omega];exact aK w' o i Za
theorem qW.uq(G:qW w w' p m l s N X){c:Nat}(b:1<=c)(d:c<=4){o:Obj}(e:(w'.alloc o).grownBy w2 (s c).ownBlock):w2.rowIs (w.heap.size+1+1) 105 5 (λc=>if c=0 then Sc (J (O (w.heap.size+1) 0 Q)) p p else s c) :=
 G.str.of_block (G.pX b d e _ Za)
theorem qW.grown(G:qW w w' p m l s N X){c:Nat}(F:1<=c)(H:c<=4){o:Obj}(t:(w'.alloc o).grownBy w2 (s c).ownBlock){I:List Vu}(L:w2.ownsRow (w.heap.size+3) (Gt c) (Cy c) (Sc (J (O b 0 Q)) d e) d I)(g:(s c).ownBlock=J b\/b=w'.heap.size+1) :
  qW w (w2.setCell (O (w.heap.size+1+1) c Q) (Sc (J (O b 0 Q)) d e)) p m l (up s c (Sc (J (O b 0 Q)) d e)) (up N c d) (up X c I):=by
 have sz:=G.size;generalize M:dm (J (O b 0 Q)) d e=u at *;have P:u.ownBlock=J b:=by rw[←M];rfl
 have y:=G.pX F H t;have hz:w'.heap.size<=w2.heap.size:=by have:=t.size;simp at this;omega
 have z:∀i,i≠w.heap.size+1+1->(w2.setCell (O (w.heap.size+1+1) c Q) u).heap[i]?=w2.heap[i]?:=λi A=>eN w2 _ u i (by simpa using A);have gs:w2.grownBy (w2.setCell (O (w.heap.size+1+1) c Q) u) (J (w.heap.size+1+1)):=⟨Z,Z,Z,by rw[i6];exact af _,λi A a'=>z i λf=>a' (by rw[f])⟩;refine⟨⟨?_,?_,?_,?_,λi A=>?_⟩,?_,?_,?_,?_,?_,?_⟩
 .exact t.os.trans G.oX.os
 .exact t.tape.trans G.oX.tape
 .exact t.output.trans G.oX.output
 .rw[i6];have:=G.oX.size;omega
 .rw[z i Za,y i Za];exact G.oX.block i A
 .rw[i6];omega
 .rw[z _ Za,y _ Za];exact G.cfg
 .exact(G.Cj.of_block (y _ Za)).of_block (z _ Za)
 .refine((G.str.of_block (y _ Za)).set c u).congr λj hj=>?_;unfold up
  by_cases f:j=c
  .subst f;simp;omega
  .simp[f]
 .intro a n q
  by_cases f:a=c
  .subst f;rw[Y0,Y0,Y0];exact L.kept gs (ba λf=>by have:=L.lt _ f;omega)
  .rw[D5 f,D5 f,D5 f];have R:=((G.own a n q).alloc o).kept t (G.apart a c n q F H f);exact R.kept gs (ba λf=>by have:=R.lt _ f;omega)
 .intro a v n q C D E;have S:∀x,1<=x->x<=4->∀k,(s x).ownBlock=J k->k<w'.heap.size:=λx h h' k hk=>((G.own x h h').lt k hk).2
  by_cases T:a=c
  .subst T;rw[Y0,D5 (aA E),P];right;intro f;rcases g with g|g
   .rcases G.apart a v n q C D E with h|h
    .rw[h]at g;cases g
    .exact h (g.trans f)
   .have:=S v C D b f.symm;omega
  .rw[D5 T]
   by_cases W:v=c
   .subst W;rw[Y0,P];rcases G.apart a v n q C D E with h|h
    .exact bT h
    .rcases g with g|g
     .right;rw[←g];exact h
     .right;intro f;have:=S a n q b f;omega
   .rw[D5 W];exact G.apart a v n q C D E
theorem qW.cell(G:qW w w' p m l s N X)(c:1<=b)(d:b<=4):w'.cell? (O (w.heap.size+1+1) b Q)=J (s b):=by
 have:=G.str.cell (show b<5 by omega)
 rwa [nR Za]at this
theorem qW.BN(G:qW w w' p m l s N X):w'.cell? (O w.heap.size 1 Q)=J (Y U m)/\w'.cell? (O w.heap.size 2 Q)=J (Y U l):=by
 have h:=G.cfg;unfold aD;simp[h]
theorem uC.Xq{w w':Wd}{p m l:Nat}(G:uC w w' p m l 0 (Sc Q 0 0) (Sc Q 0 0) (Sc Q 0 0) (Sc Q 0 0)):qW w w' p m l (λ_=>Sc Q 0 0) (λ_=>0) (λ_=>[]):=by
 let⟨f,r,b,d,e,g,h⟩:=G.str;refine⟨G.oX,G.size,G.cfg,G.Cj,r.congr λj i=>?_,λc _ _=>dh _ _ _ _,λ_ _ _ _ _ _ _=>bT Z⟩;obtain rfl|rfl|rfl|rfl|rfl:j=0\/j=1\/j=2\/j=3\/j=4:=by omega
 .exact b
 .exact d
 .exact e
 .exact g
 .exact h
theorem LQ:∀(k i c:Nat),i<k->c<12->(sZ k)[i*12+c]?=J (Y U (if c=1\/c=2 then -1 else 0))
 | 0,i,c,h,_=>by omega
 | k+1,i,c,h,hc=>by
  unfold sZ
  by_cases e:i<k
  .rw[mQ (by rw[ET];omega)];exact LQ k i c e hc
  .obtain rfl:i=k:=by omega
   rw[lN (by rw[ET];omega),ET,show i*12+c - i*12=c by omega];obtain rfl|rfl|rfl|rfl|rfl|rfl|rfl|rfl|rfl|rfl|rfl|rfl:c=0\/c=1\/c=2\/c=3\/c=4\/c=5\/c=6\/c=7\/c=8\/c=9\/c=10\/c=11:=by omega
   all_goals rfl
def vS(k:Nat)(c:Nat):List dQ:=List.replicate k (Y U (if c=2 then -1 else 0))
theorem XX(k c:Nat):vS (k+1) c=vS k c++[Y U (if c=2 then -1 else 0)]:=List.replicate_succ'
theorem Uo(p m l:Nat){r:Rk}(t:r.nF=p)(u:r.nS=m)(v:r.nD=l)(x:∀i c,i<m->c<12->r.P i c=if c=1\/c=2 then -1 else 0)(y:∀e q,e<l->q<3->r.R e q=if q=0 then -1 else 0):Rel (K8 p m l) ((r.nZ 0 0 2).nZ 0 2 0):=by
 refine⟨t,u,v,λi c z A=>?_,λg j F H f=>?_,λe q C D=>?_⟩
 .have E:((r.nZ 0 0 2).nZ 0 2 0).P i c=if i=0/\c=2 then 0 else if i=0/\c=0 then 2 else r.P i c:=by
   show upd (upd r.P 0 0 2) 0 2 0 i c=_;unfold upd;rfl
  rw[E,x i c z A];unfold qZ
  by_cases k:c<3
  .rw[nT k,CV];cases c,(Za:c<3) using ia
   all_goals simp
  .rw[nR k,nR Za,nR Za,nR Za]
   by_cases h:c=3
   .rw[nT h,CV];simp
   .rw[nR h];have n:∀j,j≠0->j≠2->j≠19->(K8 p m l).S i j=-1:=λj a b d=>by rw[CV,nR Za,nR Za,nR Za]
    by_cases o:c<8
    .rw[nT o,show(K8 p m l).dT i (c - 4)=-1 from n _ Za Za Za,G6]
    .rw[nR o,show(K8 p m l).file i (c - 8)=-1 from n _ Za Za Za,G6]
 .exfalso;rw[IV]at f;split at f<;>simp at f
 .rw[show((r.nZ 0 0 2).nZ 0 2 0).R e q=r.R e q from Z,y e q C D,CM]
theorem c1G(k c j:Nat)(h:j<k):(vS k c)[j]?=J (Y U (if c=2 then -1 else 0)):=by unfold vS;rw[List.getElem?_replicate,nT h]
theorem qW.done{w w':Wd}{p m l:Nat}{s:Nat->Vu}{N:Nat->Nat}{X:Nat->List Vu}(G:qW w w' p m l s N X)(h1:1<=m)(hF:p<=32)(S:m<=6)(W:l<=4)(n1:N 1=m)(M:X 1=sZ m)(E:∀c,2<=c->c<=4->N c=l/\X c=vS l c) :
  ∃B r F,B.b=w.heap.size+1+1/\s 1=Sc (J (O B.bp 0 Q)) m F/\ml w' B r/\r.nS=m/\r.P 0 0=0/\r.P 0 2=-1/\Rel (K8 p m l) ((r.nZ 0 0 2).nZ 0 2 0)/\w.heap.size<=B.bw/\w.heap.size<=B.bp/\∀q,w.heap.size<=B.bq q:=by
 have sz:=G.size;have A:=G.own 1 Za Za;rw[n1,M]at A;let⟨g,F,I,hg,a'⟩:=A.form Za;have H:∀q,∃t:Option cC×Nat×Nat,q<3->s (2+q)=.slice t.1 l t.2.2/\w.heap.size+3<=t.2.1/\(0<l->t.1=J (O t.2.1 0 Q)/\t.2.1<w'.heap.size)/\(l=0->t.2.1=w'.heap.size+q):=λq=>by
  by_cases k:q<3
  .have x:=G.own (2+q) Za Za;rw[(E (2+q) Za Za).1]at x
   by_cases n:0<l
   .let⟨b,c,e,hb,hl⟩:=x.form n;exact⟨(J (O b 0 Q),b,c),λ_=>⟨e,hb,λ_=>⟨Z,hl⟩,λh=>by omega⟩⟩
   .obtain rfl:l=0:=by omega
    rcases x.2 with⟨e,_⟩|⟨b,c,g',e,_⟩
    .exact⟨(Q,w'.heap.size+q,0),λ_=>⟨e,by show _<=w'.heap.size+q;omega,λh=>by omega,λ_=>rfl⟩⟩
    .exact⟨(J (O b 0 Q),w'.heap.size+q,c),λ_=>⟨e,by show _<=w'.heap.size+q;omega,λh=>by omega,λ_=>rfl⟩⟩
  .exact⟨(Q,0,0),λh=>absurd h k⟩
 let⟨T,u⟩:=Classical.axiomOfChoice H;have b':∀q v,q<3->v<3->q≠v->(T q).2.1≠(T v).2.1:=λq v k L R e=>by
  let⟨y,P,z,C⟩:=u q k;let⟨b1,b2,b3,b4⟩:=u v L
  by_cases n:0<l
  .have D:=G.apart (2+q) (2+v) Za Za Za Za Za;rw[y,b1,(z n).1,(b3 n).1]at D;rcases D with h|h
   .cases h
   .exact h (by show J (T q).2.1=J (T v).2.1;rw[e])
  .have:=C Za;have:=b4 Za;omega
 have c':∀q,q<3->g≠(T q).2.1:=λq k e=>by
  let⟨y,P,z,C⟩:=u q k
  by_cases n:0<l
  .have D:=G.apart 1 (2+q) Za Za Za Za Za;rw[I,y,(z n).1]at D;rcases D with h|h
   .cases h
   .exact h (by show J g=J (T q).2.1;rw[e])
  .have:=C Za;omega
 rw[I]at A;refine⟨⟨w.heap.size+1+1,w.heap.size+1,g,λq=>if q<3 then(T q).2.1 else w.heap.size,p,F,λq=>(T q).1,λq=>(T q).2.2⟩,⟨p,m,l,λ_ _=>0,λ_ c=>if c=1\/c=2 then -1 else 0,λ_ q=>if q=0 then -1 else 0⟩,F,Z,I,?_,Z,Z,Z,Uo p m l Z Z Z (λ_ _ _ _=>rfl) λ_ _ _ _=>rfl,by show _<=w.heap.size+1;omega,by show _<=g;omega,λq=>?_⟩
 .refine⟨G.str.cell (show 0<5 by omega),?_,λq k=>?_,λq k n=>?_,λf j hf hj=>?_,λi c hi d'=>?_,λd q n k=>?_,λo=>G.Cj.frozen o,λo=>A.frozenAt o,λq o k n=>?_,by show w.heap.size+1+1<_;omega,by show w.heap.size+1<_;omega,a',λq k n=>?_,?_,?_,λq k=>?_,?_,λq k=>?_,λq k=>?_,λq v k L R=>?_,hF,S,W⟩
  .show w'.cell? (O (w.heap.size+1+1) 1 Q)=_;rw[G.cell Za Za,I]
  .show w'.cell? (O (w.heap.size+1+1) (2+q) Q)=_;rw[G.cell Za Za,(u q k).1]
  .show(T q).1=J (O (if q<3 then _ else _) 0 Q);rw[nT k];exact((u q k).2.2.1 n).1
  .have h':f<p:=hf;exact G.Cj.cell (show f*4+j<p*4 by omega)
  .have e':i<m:=hi;show w'.cell? (O g (i*12+c) Q)=_;rw[A.cellAt (i*12+c) (by show _<m*12;omega)];exact LQ m i c e' d'
  .have f':d<l:=n;let⟨y,P,z,C⟩:=u q k;have x:=G.own (2+q) Za Za;rw[(E (2+q) Za Za).1,(E (2+q) Za Za).2,y,(z Za).1]at x;show w'.cell? (O (if q<3 then _ else _) d Q)=_;rw[nT k,x.cellAt d (by rw[show Cy (2+q)=1 from nR Za];omega),c1G _ _ _ f']
   by_cases e:q=0
   .subst e;rfl
   .rw[nR Za];show _=J (dO .i64 (if q=0 then -1 else 0));rw[nR e]
  .let⟨y,P,z,C⟩:=u q k;have x:=G.own (2+q) Za Za;rw[(E (2+q) Za Za).1,y,(z n).1]at x;show w'.frozen? (O (if q<3 then _ else _) o Q)=_;rw[nT k];exact x.frozenAt o
  .show(if q<3 then _ else _)<_;rw[nT k];exact((u q k).2.2.1 n).2
  .show w.heap.size+1+1≠w.heap.size+1;omega
  .show w.heap.size+1+1≠g;omega
  .show w.heap.size+1+1≠(if q<3 then _ else _);rw[nT k];have:=(u q k).2.1;omega
  .show w.heap.size+1≠g;omega
  .show w.heap.size+1≠(if q<3 then _ else _);rw[nT k];have:=(u q k).2.1;omega
  .show g≠(if q<3 then _ else _);rw[nT k];exact c' q k
  .show(if q<3 then _ else _)≠(if v<3 then _ else _);rw[nT k,nT L];exact b' q v k L R
 .show _<=(if q<3 then _ else _);split
  .have:=(u q (by assumption)).2.1;omega
  .exact af _
end
end
end Go.Proofs.YtcgabodkegcpgaaGreatDoor