/- The kernel's memory as plain numbers: what its cells hold (Ker), that a world holds it (Rep), and that a step leaves all other memory as it was (Keeps). -/
import Derived.Test.YtcgabodkegcpgaaGreatDoorAaa
import Derived.WalkKit
import Derived.Below
import Derived.Deep.QuietTactic
import Derived.Test.YtcgabodkegcpgaaGreatDoorProg
import Derived.WalkSpells
import Derived.WalkLawsBesides
import Derived.BigQuiet
import Derived.BigRegion
import Derived.Deep.RegionWith
import Derived.Test.YtcgabodkegcpgaaGreatDoorRows
import Derived.ProofKit
import Derived.OpenShut
import Derived.Lib.LaidTab
import Derived.Conc.Holds
import Derived.SevenTiedAt
import Derived.LaidByTextLater
import Derived.Conc.LeavingOf
import Derived.Deep.DeepHandedRow
import Derived.JoinedCond
import Derived.Calls
import Derived.RunT
import Derived.Laws.Sem
import Derived.Conc.Own
import Derived.Conc.Machine
import Derived.Conc.Token
import Derived.Conc.TokenWalk
import Derived.Conc.CompanyCalls
import Derived.KernelRfl
import Derived.Conc.CompanyDraw
import Derived.Conc.SmallLaws
import Derived.Laws.AppendOwn
set_option linter.unusedVariables false
set_option linter.unusedSimpArgs false
set_option maxHeartbeats 20000000
set_option maxRecDepth 100000
open Option renaming some->J,none->Q,map_some->aF,bind_eq_some_iff->bO,getD_some->cW,elim_some->nj
open Go.Proofs.Tryz renaming prog->V,ntmps16->gW,func16->iM,underlying119->iV,ntmps60->lx,ntmps34->lB,func60->mh,func34->my
open Go renaming World->Wd,Value->Vu,undef->Ud,Frame->Fm',Goroutine->Gr,TypeId->Ti,execOp->Ex,Program->Pg,Calls->aG,Oper->aN,Operand->aU,Item->bm,FuncId->bF,stepG->bH,Addr->cC,Act->db,results->di,Event->dr,Value->dQ,Obj->eM,run_underlying->eT,yielded->fA,FloatKind->fB,Machine->fM,exitTo->fN,Sem->gG,commResult->ik,Question->im,BinOp->iC,TypeInfo->iD,IntKind->iR,Code->jx,Trace->jD,method->kY,Func->mR,choose->nI
open Go.Value renaming int->Y,pointer->Po,slice->Sc,bool->Bo
open Go.IntKind renaming i64->U
open Go.Addr renaming mk->O
open List renaming mem_cons->ae,mem_cons_of_mem->ah,not_mem_nil->ai,mem_cons_self->ao,range->aM,size_toArray->aR,all_eq_true->aV,getElem?_eq_getElem->br,length_cons->bQ,getElem?_map->bZ,cons_append->cy,mem_of_getElem?->cP,getElem?_range->cY,map_cons->cZ,mem_filter->dD,mem_toArray->dZ,map_nil->eK,getElem?_take->eV,mem_range->eX,mapM_cons->fT,range'->ie,mapM_nil->jc
open Nat renaming le_refl->af,zero_add->aE,beq->aI,add_assoc->aS,lt_or_ge->bU,le_of_eq->fJ
open Go.ConcN renaming upd->aj,upd_ne->az,upd_same->aH
open Go.RowKit renaming Hid->ar,Below->bG,intOf->bM
open Int renaming toNat_natCast->au,eq_ofNat_of_zero_le->cV
open Go.Frame renaming enter->ay,finish_at->bK,eval->gQ,pos->jw
open Ne renaming symm->aA
open Go.Conc renaming base->aB,served->bI,stepG_cond->fU,Seat->ic,closeEvents->il,stepG_region->iH,stepG_region_end->jd,rcase->mK,listed->mM
open Bool renaming and_eq_true->aC,false_eq_true->aJ,or_eq_true->da
open Go.World renaming cell?->aD,block_lt_of_cell?->aL,frozen?->bY,cell?_setCell_other->cI,setCell->cQ,setChan->dC,frozen?_of_block->dL,noCell->jb,viewStore->jK,viewLoad->jW,farStore->jX,farLoad->kD,seen->mN
open Go.RowKit.Below renaming heap_alloc->aK,heap_setCell->eN
open Go.Sem renaming runT->aP,runT_fst->jr
open Go.Region renaming ready->aW,wanted->bR,binds->cM,schedule->fg
open Array renaming getD_eq_getD_getElem?->aY,getElem?_eq_getElem->bE,replicate->cx,all_eq_true_iff_forall_mem->cR,getElem?_setIfInBounds_ne->cX,getElem?_eq_none->dJ,getElem?_setIfInBounds->fy,getElem?_replicate->gq,mapM_eq_mapM_toList->kB,mem_of_getElem?->lW,forIn_toList->mU,append_empty->mV
open Or renaming inr->ba,inl->bT
open Option.some renaming injEq->bz
open Classical renaming byContradiction->cO
open Prod.mk renaming injEq->cU
open Go.stepG renaming apply->dj,exec->eA
open Go.Op renaming equalIn->dq
open Go.Builtin renaming copy_->dt,ssaWrapNilChk_->kJ,len_->kK,firstCells->kV,unsafeAdd_->lU,holdsCells->lV,mayShare->mS,append_->mT,lenOf->nH
open Go.Region.linearise renaming go->dI
open Go.Act renaming put->dK
open Go.Proofs.YtcgabodkegcpgaaGreatDoor.Rows renaming uptoBulk->dY,laid_burrow_kernel_calls->fa,uptoBulkAll->jE
open Go.Stepped.next renaming inj->eF
open Go.GStep renaming after->fj
open List.cons renaming injEq->fK
open Except.error renaming inj->fL
open Go.Instr renaming indexAt->gj,index->gp,makeSlice->iB,sureAddr->iF,build->iG,sliceAt->iT,sliceBounds->ju,sliceBound->jJ,buildSlice->jQ,makeChan->kv,fieldAt->kI,slice->mG,makeInterface->mH
open MonadExceptOf renaming throw->gH
open Std.Legacy.Range renaming forIn_eq_forIn_range'->iX
open Go.DataW renaming trod->iZ,trod_int->ky,trod_array->nO
open Go.Op.Complex renaming corrected->kj,quotient->kG,product->kQ,arith->lK,conv->lR,cmp->mE
open Go.MemAct renaming touch?->kt
open Except renaming pure->lO,bind->lP
open Go.Deferred renaming ofValue->lQ
open Go.OpenClaim renaming world->mD
open Go.TypeDesc renaming struct->mO,array->mZ
open List.Pairwise renaming filter->nz
open Go.Frame.mk renaming injEq->nC
open Except.ok renaming inj->nE
open Go.Made renaming reckonStruct->nK
open Go.Extern renaming findNext->nN
open Go.Conv renaming floatToFloat->nP
namespace Go.Proofs.YtcgabodkegcpgaaGreatDoor
noncomputable section
variable{a b c d e:Nat}{f h:Type}{i j k l m:Wd}{n o:Ti}{p q r s:Bool}{t u v:Gr}{w x:cC}{y z:Vu}{A B:Fm'}{C D E:Int}{F:Array aN}{H:Pg}{I:Array Vu}{K:Array Bool}{L:Prop}{N P R:Array dr}{S:iC}{T:Nat->Nat}{W:jx}
section
open Go.RowKit
structure aa where
 nF:Nat
 nS:Nat
 nD:Nat
 F:Nat->Nat->Int
 S:Nat->Nat->Int
 B:Nat->Nat->Bool
 D:Nat->Nat->Int
def upd(d:Nat->Nat->f)(i c:Nat)(v:f):Nat->Nat->f:=λa b=>if a=i/\b=c then v else d a b
theorem upd_same{f:Nat->Nat->h}(i c:Nat){v:h}:upd f i c v i c=v:=by simp[upd]
theorem d6{f:Nat->Nat->h}{i c:Nat}{v:h}(a:Nat){b:Nat}(d:¬(a=i/\b=c)):upd f i c v a b=f a b:=by simp[upd,d]
def pF(c:Nat):Prop:=4<=c/\c<=18/\c%2=0
def aa.nU(K:aa)(i c:Nat)(v:Int):aa:={ K with F:=upd K.F i c v }
def aa.cf(K:aa)(i c:Nat)(v:Int):aa:={ K with S:=upd K.S i c v }
def aa.oW(K:aa)(i c:Nat)(v:Bool):aa:={ K with B:=upd K.B i c v }
def aa.nX(K:aa)(i c:Nat)(v:Int):aa:={ K with D:=upd K.D i c v }
structure js (w:Wd) (bk bf bs bd:Nat) (K:aa):Prop where
 k0:w.cell? (O bk 0 Q)=J (Sc (J (O bf 0 Q)) K.nF K.nF)
 k1:w.cell? (O bk 1 Q)=J (Sc (J (O bs 0 Q)) K.nS K.nS)
 k2:w.cell? (O bk 2 Q)=J (Sc (J (O bd 0 Q)) K.nD K.nD)
 f:∀i c,i<K.nF->c<6->w.cell? (O bf (i*6+c) Q)=J (Y U (K.F i c))
 s:∀i c,i<K.nS->c<20->¬pF c->w.cell? (O bs (i*20+c) Q)=J (Y U (K.S i c))
 b:∀i c,i<K.nS->pF c->w.cell? (O bs (i*20+c) Q)=J (Bo (K.B i c))
 d:∀i c,i<K.nD->c<5->w.cell? (O bd (i*5+c) Q)=J (Y U (K.D i c))
 zf:∀o,w.frozen? (O bf o Q)=false
 zs:∀o,w.frozen? (O bs o Q)=false
 zd:∀o,w.frozen? (O bd o Q)=false
 lk:bk<w.heap.size
 lf:bf<w.heap.size
 ls:bs<w.heap.size
 ld:bd<w.heap.size
 kf:bk≠bf
 ks:bk≠bs
 kd:bk≠bd
 fs:bf≠bs
 fd:bf≠bd
 sd:bs≠bd
 hF:K.nF<=32
 hS:K.nS<=6
 hD:K.nD<=4
variable{w:Wd}{d bf bs bd:Nat}{K:aa}
theorem i6{w:Wd}:(w.setCell x y).heap.size=w.heap.size:=by simp[cQ]
theorem j7(w:Wd)(a p:cC)(v:Vu):(w.setCell a v).frozen? p=w.frozen? p:=by
 simp_all
theorem d7(w:Wd)(h:c≠a\/e≠b):(w.setCell (O a b Q) y).cell? (O c e Q)=w.cell? (O c e Q):=by
 refine cI w (O a b Q) (O c e Q) y ?_
 grind
theorem R8(w:Wd)(h:w.cell? (O a b Q)=J y):(w.setCell (O a b Q) z).cell? (O a b Q)=J z:=World.cell?_setCell_same w _ z h
theorem js.nU(R:js w d bf bs bd K){c o:Nat}(i:a<K.nF)(j:c<6)(k:o=a*6+c)(v:Int):js (w.setCell (O bf o Q) (Y U v)) d bf bs bd (K.nU a c v):=by
 subst k;have:=R.kf;have:=R.ks;have:=R.kd;have:=R.fs;have:=R.fd;have:=R.sd;refine⟨?_,?_,?_,?_,?_,?_,?_,?_,?_,?_,?_,?_,?_,?_,R.kf,R.ks,R.kd,R.fs,R.fd,R.sd,R.hF,R.hS,R.hD⟩
 .rw[d7 w Za];exact R.k0
 .rw[d7 w Za];exact R.k1
 .rw[d7 w Za];exact R.k2
 .intro f b g h
  by_cases e:f=a/\b=c
  .obtain⟨rfl,rfl⟩:=e;rw[R8 w (R.f f b i j)];simp[aa.nU,upd]
  .rw[d7 w Za,R.f f b g h];simp[aa.nU,upd,e]
 .intro f b g h l;rw[d7 w Za];exact R.s f b g h l
 .intro f b g h;rw[d7 w Za];exact R.b f b g h
 .intro f b g h;rw[d7 w Za];exact R.d f b g h
 .intro o;rw[j7];exact R.zf o
 .intro o;rw[j7];exact R.zs o
 .intro o;rw[j7];exact R.zd o
 .rw[i6];exact R.lk
 .rw[i6];exact R.lf
 .rw[i6];exact R.ls
 .rw[i6];exact R.ld
theorem js.cf(R:js w d bf bs bd K){c o:Nat}(j:a<K.nS)(k:c<20)(h:¬pF c)(l:o=a*20+c)(v:Int):js (w.setCell (O bs o Q) (Y U v)) d bf bs bd (K.cf a c v):=by
 subst l;have:=R.kf;have:=R.ks;have:=R.kd;have:=R.fs;have:=R.fd;have:=R.sd;refine⟨?_,?_,?_,?_,?_,?_,?_,?_,?_,?_,?_,?_,?_,?_,R.kf,R.ks,R.kd,R.fs,R.fd,R.sd,R.hF,R.hS,R.hD⟩
 .rw[d7 w Za];exact R.k0
 .rw[d7 w Za];exact R.k1
 .rw[d7 w Za];exact R.k2
 .intro f b g h;rw[d7 w Za];exact R.f f b g h
 .intro f b g i m
  by_cases e:f=a/\b=c
  .obtain⟨rfl,rfl⟩:=e;rw[R8 w (R.s f b j k h)];simp[aa.cf,upd]
  .rw[d7 w Za,R.s f b g i m];simp[aa.cf,upd,e]
 .intro f b g i;have:b<20:=by unfold pF at i;omega
  have:b≠c:=by grind
  rw[d7 w Za];exact R.b f b g i
 .intro f b g h;rw[d7 w Za];exact R.d f b g h
 .intro o;rw[j7];exact R.zf o
 .intro o;rw[j7];exact R.zs o
 .intro o;rw[j7];exact R.zd o
 .rw[i6];exact R.lk
 .rw[i6];exact R.lf
 .rw[i6];exact R.ls
 .rw[i6];exact R.ld
theorem js.oW(R:js w d bf bs bd K){c o:Nat}(j:a<K.nS)(h:pF c)(k:o=a*20+c)(v:Bool):js (w.setCell (O bs o Q) (Bo v)) d bf bs bd (K.oW a c v):=by
 subst k;have:=R.kf;have:=R.ks;have:=R.kd;have:=R.fs;have:=R.fd;have:=R.sd;have m:c<20:=by unfold pF at h;omega
 refine⟨?_,?_,?_,?_,?_,?_,?_,?_,?_,?_,?_,?_,?_,?_,R.kf,R.ks,R.kd,R.fs,R.fd,R.sd,R.hF,R.hS,R.hD⟩
 .rw[d7 w Za];exact R.k0
 .rw[d7 w Za];exact R.k1
 .rw[d7 w Za];exact R.k2
 .intro f b g h;rw[d7 w Za];exact R.f f b g h
 .intro f b g i l;have:b≠c:=by grind
  rw[d7 w Za];exact R.s f b g i l
 .intro f b g i;have:b<20:=by unfold pF at i;omega
  by_cases e:f=a/\b=c
  .obtain⟨rfl,rfl⟩:=e;rw[R8 w (R.b f b j h)];simp[aa.oW,upd]
  .rw[d7 w Za,R.b f b g i];simp[aa.oW,upd,e]
 .intro f b g h;rw[d7 w Za];exact R.d f b g h
 .intro o;rw[j7];exact R.zf o
 .intro o;rw[j7];exact R.zs o
 .intro o;rw[j7];exact R.zd o
 .rw[i6];exact R.lk
 .rw[i6];exact R.lf
 .rw[i6];exact R.ls
 .rw[i6];exact R.ld
theorem js.nX(R:js w d bf bs bd K){c o:Nat}(i:a<K.nD)(j:c<5)(k:o=a*5+c)(v:Int):js (w.setCell (O bd o Q) (Y U v)) d bf bs bd (K.nX a c v):=by
 subst k;have:=R.kf;have:=R.ks;have:=R.kd;have:=R.fs;have:=R.fd;have:=R.sd;refine⟨?_,?_,?_,?_,?_,?_,?_,?_,?_,?_,?_,?_,?_,?_,R.kf,R.ks,R.kd,R.fs,R.fd,R.sd,R.hF,R.hS,R.hD⟩
 .rw[d7 w Za];exact R.k0
 .rw[d7 w Za];exact R.k1
 .rw[d7 w Za];exact R.k2
 .intro f b g h;rw[d7 w Za];exact R.f f b g h
 .intro f b g h l;rw[d7 w Za];exact R.s f b g h l
 .intro f b g h;rw[d7 w Za];exact R.b f b g h
 .intro f b g h
  by_cases e:f=a/\b=c
  .obtain⟨rfl,rfl⟩:=e;rw[R8 w (R.d f b i j)];simp[aa.nX,upd]
  .rw[d7 w Za,R.d f b g h];simp[aa.nX,upd,e]
 .intro o;rw[j7];exact R.zf o
 .intro o;rw[j7];exact R.zs o
 .intro o;rw[j7];exact R.zd o
 .rw[i6];exact R.lk
 .rw[i6];exact R.lf
 .rw[i6];exact R.ls
 .rw[i6];exact R.ld
theorem js.same{w':Wd}(R:js w d bf bs bd K)(f:w.heap.size<=w'.heap.size)(h:∀k,k<w.heap.size->(k=d\/k=bf\/k=bs\/k=bd)->w'.heap[k]?=w.heap[k]?):js w' d bf bs bd K:=by
 have g:∀o,w'.cell? (O d o Q)=w.cell? (O d o Q):=λo=>Zf (w:=w) (a:=(O d o Q)) (h d R.lk Zc);have l:∀o,w'.cell? (O bf o Q)=w.cell? (O bf o Q):=λo=>Zf (w:=w) (a:=(O bf o Q)) (h bf R.lf Zc);have j:∀o,w'.cell? (O bs o Q)=w.cell? (O bs o Q):=λo=>Zf (w:=w) (a:=(O bs o Q)) (h bs R.ls Zc);have m:∀o,w'.cell? (O bd o Q)=w.cell? (O bd o Q):=λo=>Zf (w:=w) (a:=(O bd o Q)) (h bd R.ld Zc);have n:∀o,w'.frozen? (O bf o Q)=w.frozen? (O bf o Q):=λo=>dL (w:=w) (a:=(O bf o Q)) (h bf R.lf Zc);have p:∀o,w'.frozen? (O bs o Q)=w.frozen? (O bs o Q):=λo=>dL (w:=w) (a:=(O bs o Q)) (h bs R.ls Zc);have q:∀o,w'.frozen? (O bd o Q)=w.frozen? (O bd o Q):=λo=>dL (w:=w) (a:=(O bd o Q)) (h bd R.ld Zc)
 exact⟨(g _).trans R.k0,(g _).trans R.k1,(g _).trans R.k2,λi c a b=>(l _).trans (R.f i c a b),λi c a b e=>(j _).trans (R.s i c a b e),λi c a b=>(j _).trans (R.b i c a b),λi c a b=>(m _).trans (R.d i c a b),
  λo=>(n o).trans (R.zf o),λo=>(p o).trans (R.zs o),λo=>(q o).trans (R.zd o),Zg R.lk f,Zg R.lf f,Zg R.ls f,Zg R.ld f,R.kf,R.ks,R.kd,R.fs,R.fd,R.sd,R.hF,R.hS,R.hD⟩
theorem js.alloc(R:js w d bf bs bd K)(o:Obj):js (w.alloc o) d bf bs bd K:=R.same Zc λk a _=>aK w o k a
theorem js.drew(R:js w d bf bs bd K):js w.drew d bf bs bd K:=R.same (af _) λ_ _ _=>rfl
theorem js.drewN(R:js w d bf bs bd K)(n:Nat):js (w.drewN n) d bf bs bd K:=R.same Zc λk _ _=>by simp
structure dy (bf bs bd:Nat) (w w':Wd):Prop where
 os:w'.os=w.os
 tape:w'.tape=w.tape
 output:w'.output=w.output
 size:w.heap.size<=w'.heap.size
 block:∀k,k<w.heap.size->k≠bf->k≠bs->k≠bd->w'.heap[k]?=w.heap[k]?
variable{a c:Wd}
theorem dy.refl(w:Wd):dy bf bs bd w w:=⟨Z,Z,Z,af _,λ_ _ _ _ _=>rfl⟩
theorem dy.trans(h:dy bf bs bd a w)(k:dy bf bs bd w c):dy bf bs bd a c :=
 ⟨k.os.trans h.os,k.tape.trans h.tape,k.output.trans h.output,Zh h.size k.size,λi b e f g=>(k.block i (Zg b h.size) e f g).trans (h.block i b e f g)⟩
theorem dy.drew(h:dy bf bs bd a w):dy bf bs bd a w.drew:=⟨h.os,h.tape,h.output,h.size,h.block⟩
theorem dy.drewN(h:dy bf bs bd a w)(n:Nat):dy bf bs bd a (w.drewN n):=⟨h.os,h.tape,h.output,h.size,h.block⟩
theorem dy.alloc(h:dy bf bs bd a w)(o:Obj):dy bf bs bd a (w.alloc o) :=
 h.trans ⟨Z,Z,Z,by simp,λk b _ _ _=>aK w o k b⟩
theorem dy.setCell(h:dy bf bs bd a w){p:cC}(i:p.block=bf\/p.block=bs\/p.block=bd\/a.heap.size<=p.block)(u:Vu):dy bf bs bd a (w.setCell p u) :=
 ⟨h.os,h.tape,h.output,by rw[i6];exact h.size,λk b e f g=>by rw[eN w p u k Za];exact h.block k b e f g⟩
theorem dy.nU(h:dy bf bs bd a w)(o:Nat)(u:Vu):dy bf bs bd a (w.setCell (O bf o Q) u):=h.setCell (p:=(O bf o Q)) (bT Z) u
theorem dy.cf(h:dy bf bs bd a w)(o:Nat)(u:Vu):dy bf bs bd a (w.setCell (O bs o Q) u):=h.setCell (p:=(O bs o Q)) (ba (bT Z)) u
theorem dy.nX(h:dy bf bs bd a w)(o:Nat)(u:Vu):dy bf bs bd a (w.setCell (O bd o Q) u):=h.setCell (p:=(O bd o Q)) (ba (ba (bT Z))) u
theorem dy.cell(h:dy bf bs bd w c)(f:b<w.heap.size)(g:b≠bf)(i:b≠bs)(j:b≠bd):c.cell? (O b e Q)=w.cell? (O b e Q):=Zf (w:=w) (a:=(O b e Q)) (h.block b f g i j)
theorem dy.below(h:dy bf bs bd w c)(e:b<=w.heap.size)(f:b<=bf)(g:b<=bs)(i:b<=bd):bG b w c :=
 ⟨h.os,h.tape,h.output,h.size,λk j=>h.block k Za Za Za Za⟩
end
def aa.an(K:aa)(i:Nat)(a b:Int):aa:=(((((K.nU i 0 a).nU i 1 b).nU i 2 0).nU i 3 0).nU i 4 0).nU i 5 0
structure Out where
 K:aa
 n:Int
 e:Int
def aa.dT(K:aa)(s p:Nat):Int:=K.S s (3+p*2)
def aa.wr(K:aa)(s p:Nat):Bool:=K.B s (4+p*2)
def aa.file(K:aa)(s x:Nat):Int:=K.S s (11+x*2)
def aa.end(K:aa)(s x:Nat):Bool:=K.B s (12+x*2)
def aa.fi(K:aa)(s p:Nat)(f:Int)(b:Bool):aa:=(K.cf s (3+p*2) f).oW s (4+p*2) b
def aa.av(K:aa)(s x:Nat)(d:Int)(b:Bool):aa:=(K.cf s (11+x*2) d).oW s (12+x*2) b
def aa.count(K:aa)(d:Nat)(b:Bool)(a:Int):aa:=if b then K.nX d 4 (K.D d 4+a) else K.nX d 3 (K.D d 3+a)
def aa.eL(K:aa)(s x:Nat)(d:Nat)(b:Bool):aa:=(K.av s x d b).count d b 1
def aa.oz(K:aa)(s p:Nat):aa:=(K.an (K.dT s p).toNat 0 (-1)).fi s p (-1) false
def aa.hZ(K:aa)(d:Nat)(f:Int):aa:=((((K.nX d 0 f).nX d 1 0).nX d 2 0).nX d 3 0).nX d 4 0
def aa.oa(K:aa)(s x:Nat):aa :=
 let d:=(K.file s x).toNat
 let a:=(K.av s x (-1) false).count d (K.end s x) (-1)
 if a.D d 3=0/\a.D d 4=0 then(a.an (a.D d 0).toNat 0 (-1)).hZ d (-1) else a
def qb(K:aa)(s p f:Nat):Out :=
 if K.dT s p≠-1 then⟨K,0,6⟩ else if K.F f 0≠0 then⟨K,0,5⟩ else⟨(K.an f 2 s).fi s p f true,0,0⟩
def O0(K:aa)(s p:Nat):Out :=
 if K.dT s p=-1 then⟨K,0,6⟩ else⟨K.oz s p,0,0⟩
def B5(K:aa)(s p:Nat)(v:Int):Out :=
 if K.dT s p=-1 then⟨K,0,6⟩ else⟨K.oW s (4+p*2) (v != 0),0,0⟩
def Z0(K:aa)(s p x:Nat):Out :=
 if K.dT s p=-1 then⟨K,0,6⟩ else⟨K,K.F (K.dT s p).toNat (2+x),0⟩
def J2(K:aa)(s p x:Nat)(v:Int):Out :=
 if K.wr s p=false then⟨K,0,6⟩ else⟨K.nU (K.dT s p).toNat (2+x) v,0,0⟩
def C4(K:aa)(s n f x:Nat):Out :=
 if K.D n 0≠-1 then⟨K,0,9⟩ else if K.F f 0≠0 then⟨K,0,5⟩
 else if x=3\/K.file s x≠-1\/K.file s (x+1)≠-1 then⟨K,0,8⟩
 else⟨(((K.an f 3 (-1)).hZ n f).eL s x n false).eL s (x+1) n true,0,0⟩
def qy(K:aa)(s x t:Nat):Out :=
 if K.file s x=-1\/K.file s t≠-1 then⟨K,0,8⟩ else⟨K.eL s t (K.file s x).toNat (K.end s x),0,0⟩
def N9(K:aa)(s x:Nat):Out :=
 if K.file s x=-1 then⟨K,0,8⟩ else⟨K.oa s x,0,0⟩
def H9(K:aa)(s x p j:Nat):Out :=
 if K.file s x=-1\/K.end s x=false then⟨K,0,8⟩ else if K.dT s p=-1 then⟨K,0,6⟩
 else if K.D (K.file s x).toNat 3=0 then⟨K,0,13⟩ else if K.D (K.file s x).toNat 2=4 then⟨K,0,11⟩
 else⟨(K.nU (K.D (K.file s x).toNat 0).toNat (2+((K.D (K.file s x).toNat 1+K.D (K.file s x).toNat 2)%4).toNat) (K.F (K.dT s p).toNat (2+j))).nX (K.file s x).toNat 2 (K.D (K.file s x).toNat 2+1),0,0⟩
def Q5(K:aa)(s x p j:Nat):Out :=
 if K.file s x=-1\/K.end s x=true then⟨K,0,8⟩ else if K.wr s p=false then⟨K,0,6⟩
 else if K.D (K.file s x).toNat 2=0/\K.D (K.file s x).toNat 4=0 then⟨K,0,12⟩ else if K.D (K.file s x).toNat 2=0 then⟨K,0,11⟩
 else⟨((K.nU (K.dT s p).toNat (2+j) (K.F (K.D (K.file s x).toNat 0).toNat (2+(K.D (K.file s x).toNat 1).toNat))).nX (K.file s x).toNat 1 ((K.D (K.file s x).toNat 1+1)%4)).nX (K.file s x).toNat 2 (K.D (K.file s x).toNat 2 - 1),0,0⟩
def F7(K:aa)(s c f:Nat):Out :=
 if K.S c 0≠0 then⟨K,0,7⟩ else if K.F f 0≠0 then⟨K,0,5⟩
 else⟨(((K.an f 1 c).cf c 0 1).cf c 1 s).cf c 2 f,0,0⟩
def aa.oJ(K:aa)(s c:Nat):Bool:=K.S c 1==(s:Int)&&K.S c 0==1
def aa.still(K:aa)(s c:Nat):Bool:=K.S c 1==(s:Int)&&(K.S c 0==1||K.S c 0==3)
def aa.nV(K:aa)(g h:Nat):aa:=(((K.nU g 2 (K.F h 2)).nU g 3 (K.F h 3)).nU g 4 (K.F h 4)).nU g 5 (K.F h 5)
def J0(K:aa)(s c p f:Nat):Out :=
 if K.oJ s c=false then⟨K,0,7⟩ else if K.dT s p=-1\/K.dT c p≠-1 then⟨K,0,6⟩ else if K.F f 0≠0 then⟨K,0,5⟩
 else⟨((K.an f 2 c).fi c p f (K.wr s p)).nV f (K.dT s p).toNat,0,0⟩
def Q4(K:aa)(s c x t:Nat):Out :=
 if K.oJ s c=false then⟨K,0,7⟩ else if K.file s x=-1\/K.file c t≠-1 then⟨K,0,8⟩
 else⟨K.eL c t (K.file s x).toNat (K.end s x),0,0⟩
def R9(K:aa)(s c:Nat):Out :=
 if K.oJ s c=false then⟨K,0,7⟩ else⟨K.cf c 0 2,0,0⟩
def aa.mg(K:aa)(s:Nat):Nat->aa
 | 0=>K
 | n+1=>if (K.mg s n).S n 1=s then(K.mg s n).cf n 1 0 else K.mg s n
def Y9(K:aa)(s:Nat)(a:Int):Out :=
 if s=0 then⟨K,0,7⟩ else⟨((K.cf s 0 3).cf s 19 a).mg s K.nS,0,0⟩
def W7(K:aa)(s c p:Nat):Out :=
 if K.still s c=false then⟨K,0,7⟩ else if K.dT c p=-1 then⟨K,0,6⟩ else⟨K.oz c p,0,0⟩
def W8(K:aa)(s c x:Nat):Out :=
 if K.still s c=false then⟨K,0,7⟩ else if K.file c x=-1 then⟨K,0,8⟩ else⟨K.oa c x,0,0⟩
def aa.oq(K:aa)(c:Nat):aa :=
 { K with S:=λi j=>if i=c then(if j=0\/j=19 then 0 else -1) else K.S i j,B:=λi j=>if i=c then false else K.B i j }
def K6(K:aa)(s c:Nat):Out :=
 if K.still s c=false then⟨K,0,7⟩
 else if K.dT c 0≠-1\/K.dT c 1≠-1\/K.dT c 2≠-1\/K.dT c 3≠-1 then⟨K,0,6⟩
 else if K.file c 0≠-1\/K.file c 1≠-1\/K.file c 2≠-1\/K.file c 3≠-1 then⟨K,0,8⟩
 else⟨(K.an (K.S c 2).toNat 0 (-1)).oq c,K.S c 19,0⟩
def there(a:Nat):Bool:=a != 0
def i7:Nat->List Int
 | 2=>[4,1,0]|3=>[4,0,0]|4=>[4,0,0]|5=>[2,1,0]|6=>[2,4,1]|7=>[2,5,5]|8=>[2,0,0]|10=>[2,4,0]|11=>[2,5,0]|12=>[2,0,0]|13=>[3,1,5]
 | 14=>[5,5,0]|15=>[5,0,0]|16=>[5,4,6]|17=>[5,4,6]|18=>[4,6,0]|19=>[4,6,0]|_=>[0,0,0]
def j4(K:aa)(t:Int):Int:=if t=1 then K.nF else if t=2 then K.nS else if t=3 then K.nD else if t=4 then 4 else if t=5 then 4 else if t=6 then 4 else 0
def A7(K:aa)(t a:Int):Bool:=t==0||(decide (0<=a)&&decide (a<j4 K t))
def tK(K:aa)(s d:Nat)(a b c:Int):Out :=
 match d with
 | 1=>⟨K,0,0⟩
 | 2=>qb K s a.toNat b.toNat
 | 3=>O0 K s a.toNat
 | 4=>B5 K s a.toNat b
 | 5=>F7 K s a.toNat b.toNat
 | 6=>J0 K s a.toNat b.toNat c.toNat
 | 7=>Q4 K s a.toNat b.toNat c.toNat
 | 8=>R9 K s a.toNat
 | 9=>Y9 K s a
 | 10=>W7 K s a.toNat b.toNat
 | 11=>W8 K s a.toNat b.toNat
 | 12=>K6 K s a.toNat
 | 13=>C4 K s a.toNat b.toNat c.toNat
 | 14=>qy K s a.toNat b.toNat
 | 15=>N9 K s a.toNat
 | 16=>H9 K s a.toNat b.toNat c.toNat
 | 17=>Q5 K s a.toNat b.toNat c.toNat
 | 18=>Z0 K s a.toNat b.toNat
 | 19=>J2 K s a.toNat b.toNat c
 | _=>⟨K,0,2⟩
def d8(K:aa)(e d a b c:Int):Out :=
 if ¬(0<=d/\d<20)\/d=0 then⟨K,0,2⟩
 else if ¬(0<=e/\e<K.nS)\/K.S e.toNat 0≠2 then⟨K,0,3⟩
 else if A7 K ((i7 d.toNat).getD 0 0) a=false\/A7 K ((i7 d.toNat).getD 1 0) b=false\/A7 K ((i7 d.toNat).getD 2 0) c=false then⟨K,0,4⟩
 else tK K e.toNat d.toNat a b c
structure Good (K:aa):Prop where
 dT:∀i p,i<K.nS->p<4->K.dT i p=-1\/(0<=K.dT i p/\K.dT i p<K.nF)
 wr:∀i p,i<K.nS->p<4->K.wr i p=true->K.dT i p≠-1
 file:∀i x,i<K.nS->x<4->K.file i x=-1\/(0<=K.file i x/\K.file i x<K.nD/\0<=K.D (K.file i x).toNat 0)
 pL:∀d,d<K.nD->K.D d 0=-1\/(0<=K.D d 0/\K.D d 0<K.nF)
 head:∀d,d<K.nD->0<=K.D d 1/\K.D d 1<4
 cnt:∀d,d<K.nD->0<=K.D d 2/\K.D d 2<=4
 rd:∀d,d<K.nD->0<=K.D d 3/\K.D d 3<=24
 wt:∀d,d<K.nD->0<=K.D d 4/\K.D d 4<=24
 oT:∀i,i<K.nS->K.S i 0≠0->0<=K.S i 2/\K.S i 2<K.nF
section
open Go.RowKit
variable{d u l x:Nat}{K:aa}{w:Wd}
theorem Bz:¬pF 0:=by unfold pF;omega
theorem IG:¬pF 1:=by unfold pF;omega
theorem FJ:¬pF 2:=by unfold pF;omega
theorem Kc:¬pF 19:=by unfold pF;omega
theorem Da(p:Nat):¬pF (3+p*2):=by unfold pF;omega
theorem Ff(p:Nat):¬pF (11+p*2):=by unfold pF;omega
theorem Ck(p:Nat)(h:p<4):pF (4+p*2):=by unfold pF;omega
theorem EX(p:Nat)(h:p<4):pF (12+p*2):=by unfold pF;omega
theorem js.fk(R:js w d u l x K)(b:a<K.nF):w.cell? (O u (a*6) Q)=J (Y U (K.F a 0)):=R.f a 0 b Za
theorem js.fo(R:js w d u l x K)(b:a<K.nF):w.cell? (O u (a*6+1) Q)=J (Y U (K.F a 1)):=R.f a 1 b Za
theorem js.fw(R:js w d u l x K){j:Nat}(b:a<K.nF)(c:j<4):w.cell? (O u (a*6+2+j) Q)=J (Y U (K.F a (2+j))):=by
 rw[aS];exact R.f a (2+j) b Za
theorem js.sk(R:js w d u l x K)(b:a<K.nS):w.cell? (O l (a*20) Q)=J (Y U (K.S a 0)):=R.s a 0 b Za Bz
theorem js.sp(R:js w d u l x K)(b:a<K.nS):w.cell? (O l (a*20+1) Q)=J (Y U (K.S a 1)):=R.s a 1 b Za IG
theorem js.st(R:js w d u l x K)(b:a<K.nS):w.cell? (O l (a*20+2) Q)=J (Y U (K.S a 2)):=R.s a 2 b Za FJ
theorem js.sc(R:js w d u l x K)(b:a<K.nS):w.cell? (O l (a*20+19) Q)=J (Y U (K.S a 19)):=R.s a 19 b Za Kc
theorem js.pf(R:js w d u l x K)(c:a<K.nS)(e:b<4):w.cell? (O l (a*20+3+b*2) Q)=J (Y U (K.S a (3+b*2))):=by
 rw[aS];exact R.s a _ c Za (Da b)
theorem js.pw(R:js w d u l x K)(c:a<K.nS)(e:b<4):w.cell? (O l (a*20+3+b*2+1) Q)=J (Bo (K.B a (4+b*2))):=by
 rw[show a*20+3+b*2+1=a*20+(4+b*2) by omega];exact R.b a _ c (Ck b e)
theorem js.ff(R:js w d u l x K)(c:a<K.nS)(e:b<4):w.cell? (O l (a*20+11+b*2) Q)=J (Y U (K.S a (11+b*2))):=by
 rw[aS];exact R.s a _ c Za (Ff b)
theorem js.fe(R:js w d u l x K)(c:a<K.nS)(e:b<4):w.cell? (O l (a*20+11+b*2+1) Q)=J (Bo (K.B a (12+b*2))):=by
 rw[show a*20+11+b*2+1=a*20+(12+b*2) by omega];exact R.b a _ c (EX b e)
theorem N7(R:js w d u l x K)(b:a<K.nF) :
  aG V 96 #[Po (J (O d 0 Q)),Y U a] w λe c=>e=.returned (Bo (K.F a 0==0))/\c=w:=by
 have f:=R.k0;have g:=R.fk b;have h:=R.hF;clear R
 go_enter Tryz.func96,Tryz.ntmps96
 go_wp2
 go_ret
 exact⟨Z,Z⟩
theorem l8(R:js w d u l x K)(c:a<K.nS)(f:b<4) :
  aG V 95 #[Po (J (O d 0 Q)),Y U a,Y U b] w λe g=>e=.returned (Bo (K.S a (3+b*2) != -1))/\g=w:=by
 have h:=R.k1;have i:=R.pf c f;have j:=R.hS;clear R
 go_enter Tryz.func95,Tryz.ntmps95
 go_wp2
 go_ret
 exact⟨Z,Z⟩
theorem V7(R:js w d u l x K)(c:a<K.nS)(f:b<4) :
  aG V 99 #[Po (J (O d 0 Q)),Y U a,Y U b] w λe g=>e=.returned (Bo (K.B a (4+b*2)))/\g=w:=by
 have h:=R.k1;have i:=R.pw c f;have j:=R.hS;clear R
 go_enter Tryz.func99,Tryz.ntmps99
 go_wp2
 go_ret
 exact⟨Z,Z⟩
theorem A0(R:js w d u l x K)(c:a<K.nS)(f:b<4) :
  aG V 101 #[Po (J (O d 0 Q)),Y U a,Y U b] w λe g=>e=.returned (Bo (K.S a (11+b*2) != -1))/\g=w:=by
 have h:=R.k1;have i:=R.ff c f;have j:=R.hS;clear R
 go_enter Tryz.func101,Tryz.ntmps101
 go_wp2
 go_ret
 exact⟨Z,Z⟩
theorem Y8(R:js w d u l x K)(q:Int)(b:a<K.nS) :
  aG V 103 #[Po (J (O d 0 Q)),Y U q,Y U a] w λe c=>e=.returned (Bo (K.S a 1==q))/\c=w:=by
 have f:=R.k1;have g:=R.sp b;have h:=R.hS;clear R
 go_enter Tryz.func103,Tryz.ntmps103
 go_wp2
 go_ret
 exact⟨Z,Z⟩
theorem zG(R:js w d u l x K)(g:a<K.nS)(h:b<4)(f:K.S a (3+b*2)=c)(k:c<K.nF) :
  aG V 100 #[Po (J (O d 0 Q)),Y U a,Y U b] w λe i=>e=.returned (Po (J (O u (c*6+2) Q)))/\∃n,i=w.drewN n:=by
 have m:=R.k0;have o:=R.k1;have j:=R.pf g h;have p:=R.hS;have q:=R.hF;rw[f]at j;clear R f
 go_enter Tryz.func100,Tryz.ntmps100
 go_wp2
 go_quiet (fail)
 go_wp2
 go_ret
 exact⟨Z,_,Z⟩
theorem Y4(R:js w d u l x K)(c f:Int)(b:a<K.nF) :
  aG V 31 #[Po (J (O d 0 Q)),Y U a,Y U c,Y U f] w λe g=>e=.returned (.tuple #[])/\js g d u l x (K.an a c f)/\dy u l x w g:=by
 have p:=R.k0;have q:=R.hF;have z:=R.zf;have r:=R.fk b;have s:=R.fo b;have t:=R.f a 2 b Za;have v:=R.f a 3 b Za;have y:=R.f a 4 b Za;have A:=R.f a 5 b Za;have h:ar (js w d u l x K):=R;clear R
 go_enter Tryz.func31,Tryz.ntmps31
 go_wp2
 go_end0
 have i:=h.out.nU (c:=0) (o:=a*6) b Za Z c;have j:=i.nU (c:=1) (o:=a*6+1) b Za Z f;have k:=j.nU (c:=2) (o:=a*6+2) b Za Z 0;have m:=k.nU (c:=3) (o:=a*6+3) b Za Z 0;have n:=m.nU (c:=4) (o:=a*6+4) b Za Z 0;have o:=n.nU (c:=5) (o:=a*6+5) b Za Z 0;exact⟨Z,o,((((((dy.refl w).nU _ _).nU _ _).nU _ _).nU _ _).nU _ _).nU _ _⟩
def qA(n m:Int):Bool:=decide (0<=n)&&decide (n<m)
theorem J1{w:Wd} :
  aG V 34 #[Y U C,Y U D] w λe a=>e=.returned (Bo (qA C D))/\a=w:=by
 by_cases b:0<=C
 .by_cases c:C<D
  .have E:ar (qA C D=true):=by unfold qA ar;simp[b,c]
   go_enter my,lB
   go_wp2
   go_ret
   rw[E.out];exact⟨Z,Z⟩
  .have E:ar (qA C D=false):=by unfold qA ar;simp;omega
   go_enter my,lB
   go_wp2
   go_ret
   rw[E.out];exact⟨Z,Z⟩
 .have E:ar (qA C D=false):=by unfold qA ar;simp;omega
  go_enter my,lB
  go_wp2
  go_ret
  rw[E.out];exact⟨Z,Z⟩
theorem Ag(R:js w d u l x K)(t:Int)(b:0<=t)(c:t<=6) :
  aG V 35 #[Po (J (O d 0 Q)),Y U t] w λe a=>e=.returned (Y U (j4 K t))/\a=w:=by
 have f:=R.k0;have g:=R.k1;have h:=R.k2;clear R;obtain rfl|rfl|rfl|rfl|rfl|rfl|rfl:t=0\/t=1\/t=2\/t=3\/t=4\/t=5\/t=6:=by omega
 all_goals
  go_enter Tryz.func35,Tryz.ntmps35
  go_wp2
  go_ret
  exact⟨Z,Z⟩
def Ends(d u l x:Nat)(w:Wd)(r:Out)(e:Ending)(a:Wd):Prop :=
 e=.returned (.tuple #[Y U r.n,Y U r.e])/\js a d u l x r.K/\dy u l x w a
theorem Ends.mk{r:Out}{a:aa}(E:ar (r=⟨a,C,D⟩))(R:js i d u l x a)(k:dy u l x w i) :
  Ends d u l x w r (.returned (.tuple #[Y U C,Y U D])) i:=by
 unfold Ends;rw[E.out];exact⟨Z,R,k⟩
theorem c7I(R:js w d u l x K)(z:Int)(f:a<K.nS)(i:b<4)(m:c<K.nF) :
  aG V 60 #[Po (J (O d 0 Q)),Y U a,.agg #[Y U b,Y U c,Y U z]] w (Ends d u l x w (qb K a b c)):=by
 have g:ar (js w d u l x K):=R;have p:=R.hF;have q:=R.hS;clear R
 by_cases h:K.dT a b=-1
 .have n:(K.S a (3+b*2) != -1)=false:=by simpa[aa.dT] using h
  by_cases j:K.F c 0=0
  .have o:(K.F c 0==0)=true:=by simpa using j
   have E:ar (qb K a b c=⟨(K.an c 2 a).fi a b c true,0,0⟩):=by unfold qb;simp[h,j,ar]
   clear h j
   go_enter mh,lx
   go_wp2
   go_quiet (fail)
   go_wp2_with fail
   refine(l8 ((g.out.alloc _).drewN _) f i).mono ?_;rintro e k ⟨rfl,rfl⟩
   go_wp2_with fail
   refine(N7 ((g.out.alloc _).drewN _) m).mono ?_;rintro e k ⟨rfl,rfl⟩
   go_wp2_with fail
   refine(Y4 ((g.out.alloc _).drewN _) _ _ m).mono ?_;rintro e k ⟨rfl,R1,k1⟩;have r:=R1.k1;have s:=R1.pf f i;have t:=R1.pw f i;have v:=R1.zs;have y:a<(K.an c 2 ↑a).nS:=f;have A:=R1.hS
   go_wp2
   go_ret2
   exact Ends.mk E ((R1.cf f Za (Da b) Za _).oW f (Ck b i) Za _) ((((((dy.refl w).alloc _).drewN _).trans k1).cf _ _).cf _ _)
  .have o:(K.F c 0==0)=false:=by simpa using j
   have E:ar (qb K a b c=⟨K,0,5⟩):=by unfold qb;simp[h,j,ar]
   clear h j
   go_enter mh,lx
   go_wp2
   go_quiet (fail)
   go_wp2_with fail
   refine(l8 ((g.out.alloc _).drewN _) f i).mono ?_;rintro e k ⟨rfl,rfl⟩
   go_wp2_with fail
   refine(N7 ((g.out.alloc _).drewN _) m).mono ?_;rintro e k ⟨rfl,rfl⟩
   go_wp2
   go_ret2
   exact Ends.mk E ((g.out.alloc _).drewN _) (((dy.refl w).alloc _).drewN _)
 .have n:(K.S a (3+b*2) != -1)=true:=by simpa[aa.dT] using h
  have E:ar (qb K a b c=⟨K,0,6⟩):=by unfold qb;simp[h,ar]
  clear h
  go_enter mh,lx
  go_wp2
  go_quiet (fail)
  go_wp2_with fail
  refine(l8 ((g.out.alloc _).drewN _) f i).mono ?_;rintro e k ⟨rfl,rfl⟩
  go_wp2
  go_ret2
  exact Ends.mk E ((g.out.alloc _).drewN _) (((dy.refl w).alloc _).drewN _)
theorem TU(R:js w d u l x K)(G:Good K)(z:Int)(j:a<K.nS)(k:b<4)(q:c<4) :
  aG V 76 #[Po (J (O d 0 Q)),Y U a,.agg #[Y U b,Y U c,Y U z]] w (Ends d u l x w (Z0 K a b c)):=by
 have i:ar (js w d u l x K):=R;have t:=R.hF;have v:=R.hS;clear R
 by_cases f:K.dT a b=-1
 .have r:(K.S a (3+b*2) != -1)=false:=by simpa[aa.dT] using f
  have E:ar (Z0 K a b c=⟨K,0,6⟩):=by unfold Z0;simp[f,ar]
  clear f
  go_enter Tryz.func76,Tryz.ntmps76
  go_wp2
  go_quiet (fail)
  go_wp2_with fail
  refine(l8 ((i.out.alloc _).drewN _) j k).mono ?_;rintro e n ⟨rfl,rfl⟩
  go_wp2
  go_ret2
  exact Ends.mk E ((i.out.alloc _).drewN _) (((dy.refl w).alloc _).drewN _)
 .have r:(K.S a (3+b*2) != -1)=true:=by simpa[aa.dT] using f
  obtain⟨g,m⟩:∃g:Nat,K.dT a b=g:=by rcases G.dT a b j k with h|h;exact absurd h f;exact⟨(K.dT a b).toNat,by omega⟩
  have p:g<K.nF:=by rcases G.dT a b j k with h|h;exact absurd h f;omega
  have E:ar (Z0 K a b c=⟨K,K.F g (2+c),0⟩):=by unfold Z0;rw[nR f,m];simp[ar]
  have s:ar (K.S a (3+b*2)=g):=m;clear f m;have y:=λo=>(i.out.alloc o).fw p q
  go_enter Tryz.func76,Tryz.ntmps76
  go_wp2
  go_quiet (fail)
  go_wp2_with fail
  refine(l8 ((i.out.alloc _).drewN _) j k).mono ?_;rintro e n ⟨rfl,rfl⟩
  go_wp2_with fail
  refine(zG ((i.out.alloc _).drewN _) j k s.out p).mono ?_;rintro e n ⟨rfl,nq',rfl⟩
  go_wp2
  go_ret2
  exact Ends.mk E ((i.out.alloc _).drewN _) (((dy.refl w).alloc _).drewN _)
theorem c2o(R:js w d u l x K)(G:Good K)(z:Int)(j:a<K.nS)(k:b<4)(r:c<4) :
  aG V 77 #[Po (J (O d 0 Q)),Y U a,.agg #[Y U b,Y U c,Y U z]] w (Ends d u l x w (J2 K a b c z)):=by
 have f:ar (js w d u l x K):=R;have v:=R.hF;have y:=R.hS;clear R
 by_cases i:K.wr a b=true
 .have s:K.B a (4+b*2)=true:=i;have m:=G.wr a b j k i;obtain⟨g,n⟩:∃g:Nat,K.dT a b=g:=by rcases G.dT a b j k with h|h;exact absurd h m;exact⟨(K.dT a b).toNat,by omega⟩
  have p:g<K.nF:=by rcases G.dT a b j k with h|h;exact absurd h m;omega
  have E:ar (J2 K a b c z=⟨K.nU g (2+c) z,0,0⟩):=by unfold J2;rw[nR (by simp[i]),n];simp[ar]
  have t:ar (K.S a (3+b*2)=g):=n;clear i n m;have A:=λo=>(f.out.alloc o).fw p r;have B:=λo=>(f.out.alloc o).zf
  go_enter Tryz.func77,Tryz.ntmps77
  go_wp2
  go_quiet (fail)
  go_wp2_with fail
  refine(V7 ((f.out.alloc _).drewN _) j k).mono ?_;rintro e q ⟨rfl,rfl⟩
  go_wp2_with fail
  go_region_with (go_at_call 100;refine(zG ((f.out.alloc _).drewN _) j k t.out p).mono ?_;rintro e q ⟨rfl,nq',rfl⟩)
  all_goals
   go_wp2
   go_ret2
   exact Ends.mk E (((f.out.alloc _).drewN _).nU p Za Za _) ((((dy.refl w).alloc _).drewN _).nU _ _)
 .have s:K.B a (4+b*2)=false:=by simpa[aa.wr] using i
  have E:ar (J2 K a b c z=⟨K,0,6⟩):=by unfold J2;simp[i,ar]
  clear i
  go_enter Tryz.func77,Tryz.ntmps77
  go_wp2
  go_quiet (fail)
  go_wp2_with fail
  refine(V7 ((f.out.alloc _).drewN _) j k).mono ?_;rintro e q ⟨rfl,rfl⟩
  go_wp2
  go_ret2
  exact Ends.mk E ((f.out.alloc _).drewN _) (((dy.refl w).alloc _).drewN _)
structure qJ (w:Wd):Prop where
 t:∀i,i<20->w.cell? (O 0 (i*4) Q)=J (Bo (there i))
 a:∀i j,i<20->j<3->w.cell? (O 0 (i*4+1+j) Q)=J (Y U ((i7 i).getD j 0))
theorem qJ.same{w w':Wd}(T:qJ w)(h:w'.heap[0]?=w.heap[0]?):qJ w' :=
 ⟨λi a=>(Zf (w:=w) (a:=(O 0 (i*4) Q)) h).trans (T.t i a),λi j a b=>(Zf (w:=w) (a:=(O 0 (i*4+1+j) Q)) h).trans (T.a i j a b)⟩
theorem qJ.lt{w:Wd}(T:qJ w):0<w.heap.size:=aL w (O 0 (0*4) Q) (T.t 0 Za)
theorem qJ.alloc{w:Wd}(T:qJ w)(o:Obj):qJ (w.alloc o):=T.same (aK w o 0 T.lt)
theorem Fs:∀i,i<20->∀j,j<3->0<=(i7 i).getD j 0/\(i7 i).getD j 0<=6:=by decide
theorem J3{f:bF}(h:aG H f I (i.drewN (a+b)) λe c=>e=.returned y/\c=i.drewN (a+b)) :
  aG H f I (i.drewN (a+b)) λe g=>e=.returned y/\∃m,g=i.drewN (a+m):=h.mono λ_ _ ⟨j,k⟩=>⟨j,b,k⟩
theorem c3d(R:js w d u l x K)(T:qJ w)(q r a b c:Int)(g':ar (∀s n:Nat,q=s->r=n->s<K.nS->n<20->(A7 K ((i7 n).getD 0 0) a=true/\A7 K ((i7 n).getD 1 0) b=true/\A7 K ((i7 n).getD 2 0) c=true) ->
   ∀p,js p d u l x K->aG V 36 #[Po (J (O d 0 Q)),Y U q,Y U r,.agg #[Y U a,Y U b,Y U c]] p (Ends d u l x p (tK K s n a b c)))) :
  aG V 16 #[Po (J (O d 0 Q)),Y U q,Y U r,.agg #[Y U a,Y U b,Y U c]] w (Ends d u l x w (d8 K q r a b c)):=by
 have g:ar (js w d u l x K):=R;have F:ar (qJ w):=T;have m2:=R.hS;have k1:=λo=>(g.out.alloc o).k1;clear R T
 by_cases A:0<=r/\r<20
 .obtain⟨n,rfl⟩:=cV A.1;have t:n<20:=by omega
  have e1:qA n 20=true:=by unfold qA;simp;omega
  have c1:=λo=>(F.out.alloc o).t n t
  by_cases L:n=0
  .have e2:there n=false:=by rw[L];rfl
   have E:ar (d8 K q n a b c=⟨K,0,2⟩):=by unfold d8 ar;grind
   clear A L
   go_enter iM,gW
   go_wp2_with fail
   refine(J1).mono ?_;rintro e p ⟨rfl,rfl⟩
   go_wp2
   go_ret2
   exact Ends.mk E (g.out.alloc _) ((dy.refl w).alloc _)
  .have e2:there n=true:=by unfold there;simpa using L
   by_cases H:0<=q/\q<K.nS
   .obtain⟨s,rfl⟩:=cV H.1;have S:s<K.nS:=by omega
    have e3:qA s K.nS=true:=by unfold qA;simp;omega
    have c2:=λo=>(g.out.alloc o).sk S
    by_cases I:K.S s 0=2
    .have e4:(K.S s 0 != 2)=false:=by simpa using I
     have N:ar (A7 K ((i7 n).getD 0 0) a=false\/A7 K ((i7 n).getD 1 0) b=false\/A7 K ((i7 n).getD 2 0) c=false->d8 K s n a b c=⟨K,0,4⟩):=by
      intro h;unfold d8;simp_all
     have E0:ar (A7 K ((i7 n).getD 0 0) a=true/\A7 K ((i7 n).getD 1 0) b=true/\A7 K ((i7 n).getD 2 0) c=true->d8 K s n a b c=tK K s n a b c):=by
      intro h;unfold d8;grind
     have g0:=Fs n t 0 Za;have g1:=Fs n t 1 Za;have g2:=Fs n t 2 Za;have q0:=λo=>(F.out.alloc o).a n 0 t Za;have W:=λo=>(F.out.alloc o).a n 1 t Za;have q2:=λo=>(F.out.alloc o).a n 2 t Za;generalize G:(i7 n).getD 0 0=j at *;generalize M:(i7 n).getD 1 0=m at *;generalize X:(i7 n).getD 2 0=t2 at *;have h':ar (_=_):=G;have i':ar (_=_):=M;have j':ar (_=_):=X;clear G M X A H I;have i0:∀w,(gp 120 (.agg #[Y U j,Y U m,Y U t2]) (Y U 0)).run V w=.ok (Y U j) w:=λ_=>by kernel_rfl
     have i1:∀w,(gp 120 (.agg #[Y U j,Y U m,Y U t2]) (Y U 1)).run V w=.ok (Y U m) w:=λ_=>by kernel_rfl
     have i2:∀w,(gp 120 (.agg #[Y U j,Y U m,Y U t2]) (Y U 2)).run V w=.ok (Y U t2) w:=λ_=>by kernel_rfl
     let⟨a',b'⟩:=g0;let⟨c',d'⟩:=g1;let⟨e',f'⟩:=g2
     go_enter iM,gW
     go_wp2_with fail
     refine(J1).mono ?_;rintro e p ⟨rfl,rfl⟩
     go_wp2_with fail
     refine(J1).mono ?_;rintro e p ⟨rfl,rfl⟩
     go_wp2_with fail
     go_loopw [45] (λi w'=>∃k:Nat,k<=3/\i=Y U k/\(1<=k->A7 K j a=true)/\(2<=k->A7 K m b=true)/\(3<=k->A7 K t2 c=true)/\∃nq,w'=(w.alloc (.cells #[Y U a,Y U b,Y U c] 25)).drewN nq) λi _=>3 - (bM i).toNat
     case atStart=>exact⟨0,by omega,Z,by omega,by omega,by omega,0,Z⟩
     case round =>
      obtain⟨k,hk,rfl,B,P,f2,nq,rfl⟩:=hrel;cases k,(Za:k<4) using ep
      .by_cases z:j=0
       .have y:A7 K j a=true:=by simp[A7,z]
        have C:(j != 0)=false:=by simpa using z
        have f:ar (A7 K j a=true):=y;clear z y
        go_wp2
        go_quiet (fail)
        go_wp2
        exact⟨⟨1,by omega,Z,λ_=>f.out,by omega,by omega,_,Z⟩,by simp[bM]⟩
       .have C:(j != 0)=true:=by simpa using z
        by_cases y:qA a (j4 K j)=true
        .have f:ar (A7 K j a=true):=by unfold A7 ar;unfold qA at y;rw[y];simp
         clear z
         go_wp2
         go_quiet ((first|(go_at_call 35;exact J3 (Ag ((g.out.alloc _).drewN _) j a' b'))|(go_at_call 34;exact J3 (J1))))
         go_wp2
         exact⟨⟨1,by omega,Z,λ_=>f.out,by omega,by omega,_,Z⟩,by simp[bM]⟩
        .have v:qA a (j4 K j)=false:=by simpa using y
         have f:ar (A7 K j a=false):=by unfold A7 ar;unfold qA at v;rw[v];simpa using z
         clear z y;have E:ar (d8 K s n a b c=⟨K,0,4⟩):=N.out (bT f.out)
         go_wp2
         go_quiet ((first|(go_at_call 35;exact J3 (Ag ((g.out.alloc _).drewN _) j a' b'))|(go_at_call 34;exact J3 (J1))))
         go_wp2
         go_ret2
         exact Ends.mk E (((g.out.alloc _).drewN _).drewN _) ((((dy.refl w).alloc _).drewN _).drewN _)
      .by_cases z:m=0
       .have y:A7 K m b=true:=by simp[A7,z]
        have C:(m != 0)=false:=by simpa using z
        have f:ar (A7 K m b=true):=y;clear z y
        go_wp2
        go_quiet (fail)
        go_wp2
        exact⟨⟨2,by omega,Z,λ_=>B Za,λ_=>f.out,by omega,_,Z⟩,by simp[bM]⟩
       .have C:(m != 0)=true:=by simpa using z
        by_cases y:qA b (j4 K m)=true
        .have f:ar (A7 K m b=true):=by unfold A7 ar;unfold qA at y;rw[y];simp
         clear z
         go_wp2
         go_quiet ((first|(go_at_call 35;exact J3 (Ag ((g.out.alloc _).drewN _) m c' d'))|(go_at_call 34;exact J3 (J1))))
         go_wp2
         exact⟨⟨2,by omega,Z,λ_=>B Za,λ_=>f.out,by omega,_,Z⟩,by simp[bM]⟩
        .have v:qA b (j4 K m)=false:=by simpa using y
         have f:ar (A7 K m b=false):=by unfold A7 ar;unfold qA at v;rw[v];simpa using z
         clear z y;have E:ar (d8 K s n a b c=⟨K,0,4⟩):=N.out (ba (bT f.out))
         go_wp2
         go_quiet ((first|(go_at_call 35;exact J3 (Ag ((g.out.alloc _).drewN _) m c' d'))|(go_at_call 34;exact J3 (J1))))
         go_wp2
         go_ret2
         exact Ends.mk E (((g.out.alloc _).drewN _).drewN _) ((((dy.refl w).alloc _).drewN _).drewN _)
      .by_cases z:t2=0
       .have y:A7 K t2 c=true:=by simp[A7,z]
        have C:(t2 != 0)=false:=by simpa using z
        have f:ar (A7 K t2 c=true):=y;clear z y
        go_wp2
        go_quiet (fail)
        go_wp2
        exact⟨⟨3,by omega,Z,λ_=>B Za,λ_=>P Za,λ_=>f.out,_,Z⟩,by simp[bM]⟩
       .have C:(t2 != 0)=true:=by simpa using z
        by_cases y:qA c (j4 K t2)=true
        .have f:ar (A7 K t2 c=true):=by unfold A7 ar;unfold qA at y;rw[y];simp
         clear z
         go_wp2
         go_quiet ((first|(go_at_call 35;exact J3 (Ag ((g.out.alloc _).drewN _) t2 e' f'))|(go_at_call 34;exact J3 (J1))))
         go_wp2
         exact⟨⟨3,by omega,Z,λ_=>B Za,λ_=>P Za,λ_=>f.out,_,Z⟩,by simp[bM]⟩
        .have v:qA c (j4 K t2)=false:=by simpa using y
         have f:ar (A7 K t2 c=false):=by unfold A7 ar;unfold qA at v;rw[v];simpa using z
         clear z y;have E:ar (d8 K s n a b c=⟨K,0,4⟩):=N.out (ba (ba f.out))
         go_wp2
         go_quiet ((first|(go_at_call 35;exact J3 (Ag ((g.out.alloc _).drewN _) t2 e' f'))|(go_at_call 34;exact J3 (J1))))
         go_wp2
         go_ret2
         exact Ends.mk E (((g.out.alloc _).drewN _).drewN _) ((((dy.refl w).alloc _).drewN _).drewN _)
      .have E:=E0.out ⟨B Za,P Za,f2 Za⟩;have D:=g'.out s n Z Z S t (by rw[h'.out,i'.out,j'.out];grind);have HE:ar _:=E;have HD:ar _:=D;clear E D
       go_wp2_with fail
       refine(HD.out _ ((g.out.alloc _).drewN _)).mono ?_;rintro e p ⟨rfl,R1,W⟩
       go_wp2
       go_ret2
       rw[HE.out];exact⟨Z,R1,(((dy.refl w).alloc _).drewN _).trans W⟩
    .have e4:(K.S s 0 != 2)=true:=by simpa using I
     have E:ar (d8 K s n a b c=⟨K,0,3⟩):=by unfold d8 ar;grind
     clear I A H
     go_enter iM,gW
     go_wp2_with fail
     refine(J1).mono ?_;rintro e p ⟨rfl,rfl⟩
     go_wp2_with fail
     refine(J1).mono ?_;rintro e p ⟨rfl,rfl⟩
     go_wp2
     go_ret2
     exact Ends.mk E (g.out.alloc _) ((dy.refl w).alloc _)
   .have e3:qA q K.nS=false:=by unfold qA;simp;omega
    have E:ar (d8 K q n a b c=⟨K,0,3⟩):=by unfold d8 ar;grind
    clear A H
    go_enter iM,gW
    go_wp2_with fail
    refine(J1).mono ?_;rintro e p ⟨rfl,rfl⟩
    go_wp2_with fail
    refine(J1).mono ?_;rintro e p ⟨rfl,rfl⟩
    go_wp2
    go_ret2
    exact Ends.mk E (g.out.alloc _) ((dy.refl w).alloc _)
 .have e1:qA r 20=false:=by unfold qA;simp;omega
  have E:ar (d8 K q r a b c=⟨K,0,2⟩):=by unfold d8 ar;grind
  clear A
  go_enter iM,gW
  go_wp2_with fail
  refine(J1).mono ?_;rintro e p ⟨rfl,rfl⟩
  go_wp2
  go_ret2
  exact Ends.mk E (g.out.alloc _) ((dy.refl w).alloc _)
end
section
open Go.ChangeShapes Go.WideShapes Go.ChangeAt Go.RowKit
theorem Jo:V.globalNamed "burrow/kernel.calls" = J 0:=by kernel_rfl
theorem Xy:(V.globals[0]?).map (·.type)=J 123:=by kernel_rfl
theorem KD:V.cellsOf 122=4:=by kernel_rfl
theorem Ui:V.cellsOf 4=1:=by kernel_rfl
theorem Sj:V.cellsOf 120=3:=by kernel_rfl
theorem QB:V.cellsOf 119=1:=by kernel_rfl
def Bi(i:Nat):DataW f:=.agg [.lit (.bool (there i)),.agg [.lit (.int .i64 ((i7 i).getD 0 0)),.lit (.int .i64 ((i7 i).getD 1 0)),.lit (.int .i64 ((i7 i).getD 2 0))]]
theorem Uq:(fa:DataW f)=.agg ((aM 20).map Bi):=rfl
theorem TJ{o:Ti×Vu->f}{base:Nat}{r:Nat->Bool}{b:List Vu}{s:List MemPlace}(h:iZ o V i base r p a 122 b=J (.agg [.lit (.bool q),.agg [.lit (.int .i64 C),.lit (.int .i64 D),.lit (.int .i64 E)]],s)) :
  b=[Bo q,Y U C,Y U D,Y U E]:=by
 let⟨K,L,n,k,l,t,u⟩:=trod_struct2 Tryz.underlying122 h;rw[KD]at l
 match b,l with
 | [c0,c1,c2,c3],_ =>
  let⟨N,c,v⟩:=DataW.trod_bool Tryz.underlying4 t;let⟨w,m,P,x,R,y,d⟩:=nO Tryz.underlying120 u;have z:=d 0 Za;have A:=d 1 Za;have B:=d 2 Za
  match w,y with
  | [d0,d1,d2],_ =>
   let⟨i0,e,F,_⟩:=ky iV z;let⟨S,g,H,_⟩:=ky iV A;let⟨T,j,I,_⟩:=ky iV B;subst v;subst F H I;subst x;simp only[cU,DataW.agg.injEq,fK,DataW.lit.injEq,Lit.bool.injEq,Lit.int.injEq,cZ,eK,and_true,true_and]at k;rw[Ui]at c;rw[QB,Sj]at e g j;simp at c e g j;obtain⟨⟨rfl,rfl,rfl,rfl⟩,_⟩:=k;simp[c,e,g,j]
theorem Wh{d:List (String×DataW Unit)}(o:d=[("burrow/kernel.calls",fa)])(h:laidMetH V d i):qJ i:=by
 subst o;have r:laidMet V [("burrow/kernel.calls",fa)] i:=h;let⟨C,⟨D,E,s,F,p,q,t,u,v,f,_,_⟩,_⟩:=r;cases Ze (Jo.symm.trans t);cases Ze (Xy.symm.trans u);rw[Uq]at f;let⟨c,m,H,w,I,K,x⟩:=nO Tryz.underlying123 f;have y:c.map (·.1)=(aM 20).map Bi:=by
  have:=congrArg Prod.fst w;simpa using this.symm
 have z:∀a,a<20->(s.toList.drop (a*4)).take 4=[Bo (there a),Y U ((i7 a).getD 0 0),Y U ((i7 a).getD 1 0),Y U ((i7 a).getD 2 0)]:=λa b=>by
  have e:=x a b;rw[KD]at e;have g:a<c.length:=by omega
  have k:(c.map (·.1))[a]?=J (Bi a):=by rw[y,bZ,cY b];rfl
  rw[bZ,br g]at k;rw[br g]at e;have A:c[a].1=Bi a:=by simpa using k
  have B:c[a]=(Bi a,c[a].2):=by rw[←A]
  rw[B]at e;exact TJ e
 have l:∀a j,a<20->j<4->i.cell? (O 0 (a*4+j) Q)=([Bo (there a),Y U ((i7 a).getD 0 0),Y U ((i7 a).getD 1 0),Y U ((i7 a).getD 2 0)]:List Vu)[j]?:=λa j b n=>by
  rw[World.var?_cell Jo v (a*4+j),←z a b,eV,nT n,List.getElem?_drop];simp
 refine⟨λa b=>?_,λa j b n=>?_⟩
 .exact l a 0 b Za
 .have:=l a (1+j) b Za;rw[aS,this];cases j,(Za:j<3) using ia
  all_goals rfl
end
section
open Go
theorem c2D(Lk:Looks){a:Pinned}{s:OpenSpec}{c:OpenClaim}{d:List LaidKind}{b:Bool×String}(g:c.holds a s)(i:c.wfByText s=true)(k:c.laidByTextAt Lk a d p)(l:c.start=.entering)(m:c.noBlocks=false/\c.again=false)(n:a.checked.prog.mainIs=J (b.1,b.2.toList))(o:(!b.1&&b.2.isEmpty&&!q)=false)(r:∀f e,a.checked.prog.funcNamed c.func=J f->a.checked.prog.funcs[f]?=J e->q=a.checked.prog.looks []/\∀(j:Nat) t,e.params[j]?=J t->a.checked.prog.wantsStandIn t=false)(u:true=c.goesBy a.checked.prog) :
  Claim7.holds a (.plain s) { stood:={ row:=c,standIns:=[],harness:=b,looks:=q },kinds:=[],alts:=[],goes:=true,laidByText:=true,laidKinds:=d,laidTests:=p,laidLooks:=Lk }:=by
 have v:Claim7.isSixth { stood:={ row:=c,standIns:=[],harness:=b,looks:=q },kinds:=[] }=false:=by simpa[Claim7.isSixth] using o
 exact⟨Claim7.tied_new_at Lk d p (Claim7.new_of_sixth g b q l m n v r) i,(λD w=>by cases w),k,(λh=>by cases h),u⟩
end
section
open Go Go.Conc
theorem Uk{g:Ti×Vu->f}{a:Assume}{C:Checked}{x:Os}{d:bF}{b:mR}{s:OpenSpec}{F:Stop.Interp}{B:List PathCond}{D:Bool}{y:List (String×DataW Unit)}(own:ownKnob C.prog.godebug=Q)(E:x.Started)(H:C.prog.funcs[d]?=J b)(I:∃(w:Wd) (c:Tape) (i:Input),w.os=x/\(w.forCall c i).Shaped C.prog/\i.vars=[]/\Input.okWide C.prog (w.forCall c i) .any w.heap.size d i /\
   s.preRow g C.prog b B p y (w.forCall c i).memory i.args/\a.holds C.prog (lone (ay C.prog d i.args .normal) [] (w.forCall c i)))(K:∀(W:Wd) (base:Nat) (h:Array Vu) (n gs:List (DataW f)) (z:List MemPlace),
   (∀(j:Nat) t v,b.params[j]?=J t->h[j]?=J v->Value.okWide C.prog W .any base t v) ->
   DataW.Whole g C.prog b.params.toList s.vars p W h.toList n gs z->(∀k,s.cond=J k->k f (n++gs)=true)->laidMetH C.prog y W ->
   ∃M l o m u,runNT C.prog (M+1) (solo (G (ay C.prog d h .normal) []) W) #[]=(.ended o m,u)/\runN C.prog M (solo (G (ay C.prog d h .normal) []) W)=.next l /\
    step C.prog l=.ended o m/\Conc.Good C.prog (λv L=>(s.at F).post g C.prog b p q r D W h v L) l o m u) :
  ReturnsInLeavingWide a C x d .any (s.preRow g C.prog b B p y) ((s.at F).post g C.prog b p q r D):=by
 refine returnsInLeavingWide_of_good own E I ?_;intro w c i _ b' _ N P c';let⟨_,_,_,R,S,_,_,_,_,T⟩:=N;have e:R=b:=Ze (S.symm.trans H);subst e;let⟨⟨A,X⟩,hz⟩:=P;let⟨n,gs,z,hw,hc,hk⟩:=OpenSpec.pre_parts A;have a':=DataW.Whole.of_heap (w':=w.forCall c i) (by rfl) hw;let⟨M,l,o,m,u,h1,h2,h3,h4⟩:=K (w.forCall c i) w.heap.size i.args n gs z T a' hk (X.of_heap (by rfl));exact⟨M,l,o,m,u,h1,h2,h3,h4.mono λv A=>ChangeSpec.post_blind A⟩
theorem YZ{p:Pinned}{s:OpenSpec}{c:OpenClaim}(f:bF)(d:mR)(l:c.program=p.name/\c.sum=p.sum/\c.spec=s.name)(i:c.start=.entering)(j:c.outside=[])(z:c.inits=[]/\c.under=Q/\(c.initsInPlace=[]/\c.initsUnfollowed=false/\c.initsRecurse=false/\c.initsNamed=[]/\c.initsPassed=[]))(r:c.noBlocks=false)(A:c.leaving=true)(m:c.followed=Q)(B:c.narrowed=s.cond.isSome)(C:c.still=false)(D:p.checked.prog.funcNamed c.func=J f)(E:p.checked.prog.funcs[f]?=J d)(t:joinedFacts p.checked.prog f d s.bare c=true)(I:d.isInstance p.checked.prog c.origin c.targs)(K:d.isWrapper p.checked.prog c.wrapper c.mainSum)(h:∀g:Os,g.Started->∀(H:Type) (e:Ti×Vu->H),(∀a b,e a=e b->a=b)->∀F:Stop.Interp,ReturnsInLeavingWide c.assume p.checked g f .any (c.pre e p.checked.prog d s) ((s.at F).post e p.checked.prog d c.apart c.fresh c.handsOn c.again)):c.holds p s:=by
 simp only[joinedFacts,aC,beq_iff_eq,cR,aV,decide_eq_true_eq]at t;let⟨⟨⟨⟨⟨⟨⟨⟨⟨⟨⟨⟨⟨⟨⟨⟨⟨⟨⟨⟨⟨⟨⟨⟨⟨⟨⟨⟨⟨⟨⟨L,N⟩,P⟩,R⟩,S⟩,u⟩,T⟩,W⟩,o⟩,G⟩,M⟩,X⟩,b4⟩,b5⟩,b6⟩,b7⟩,b8⟩,b9⟩,c1⟩,c2⟩,c3⟩,c4⟩,c5⟩,v⟩,c7⟩,w⟩,c9⟩,d1⟩,d2⟩,d3⟩,d4⟩,d5⟩:=t;have c':∀g:Os,Stop.quiet p.checked.prog g:=λg k x=>by rw[o]at x;cases x
 have d':c.shortTexts=none:=by
  cases hs:c.shortTexts with
  | none=>rfl
  | some _=>rw[hs]at v;cases v
 refine⟨L,l.1,l.2.1,l.2.2,N,P,?_,?_,f,d,D,E,⟨R,c2⟩,λy=>(by rw[r]at y;cases y),?_,I,K,u.trans T.symm,⟨W.trans o.symm,?_,c7⟩,G,M,X,b4,b5,⟨b6,d4,d5⟩,⟨b7,c3⟩,⟨b8,c4,d2,d3⟩,⟨c5,c9,d1,b9⟩,?_,λn hn=>varReadable_some (c1 n hn),⟨_,(by unfold mD;rw[j,i];exact WideRow.started_initial),c' _⟩,[],?_,λg q _ H e e'=>?_⟩
 .unfold OpenClaim.startFits;rw[i];exact w
 .unfold OpenClaim.startTold;rw[i];exact z
 .unfold OpenClaim.namedList;rw[m];exact S
 .unfold Program.envWorded;rw[o];rfl
 .rw[j,B,d'];simp
 .unfold OpenClaim.lists;rw[m]
 .have f':g.Started:=by unfold mD at q;rw[j,i]at q;exact q
  rw[OpenClaim.post_not_still C];unfold OpenClaim.form;rw[i,u];intro F;have:=h g f' H e e' F w;have e1:c.okInput=Input.okWide:=by unfold OpenClaim.okInput;rw[r]
  have e2:c.atReturn p.checked.prog=leavingAtReturn p.checked.prog:=by unfold OpenClaim.atReturn;rw[A]
  have e3:c.always p.checked.prog []=nothingAlways:=by unfold OpenClaim.always;rw[m]
  have e4:s.post e p.checked.prog d F c.outside c.apart c.fresh c.handsOn c.again=(s.at F).post e p.checked.prog d c.apart c.fresh c.handsOn c.again:=by rw[j];rfl
  rw[e1,e2,e3];show ReturnsInOpen _ _ _ _ _ _ _ _ (s.post e p.checked.prog d F c.outside c.apart c.fresh c.handsOn c.again) _ _;rw[e4];exact this
theorem YE(d:DataW f):1<=dY d:=by
 cases d with
 | lit l=>cases l<;>simp[dY]
 | _=>simp[dY]
theorem Ry(l:List (DataW f)):l.length<=jE l:=by
 induction l with
 | nil=>simp
 | cons x r a=>have:=YE x;simp only[jE,bQ];omega
theorem b6W{H:Type}(l r:List (DataW H)):l.length<=dY (.slice l r):=by
 have:=Ry l;simp only[dY];omega
theorem YJ{d e:DataW f}{r:List (DataW f)}(h:Rows.uptoSmall f (d::e::r)=true):dY d<=1048576/\dY e<=1048576:=by
 have:=of_decide_eq_true h;simp only[jE]at this;omega
end
section
def Obj.oc:Obj->Prop
 | .view _ _=>False
 | .pending _ _=>False
 | _=>True
def sr:eM:=.view ⟨0,0,J 0⟩ 0
def wA:Halt->Prop
 | .stuck _=>True
 | .unsupported (.initOrder _)=>False
 | .unsupported _=>True
 | _=>False
def sy(P:Pg):gG f->Prop
 | .pure _=>False
 | .load _ _ _=>False
 | .store _ _ _ _=>False
 | .new _ _=>False
 | .shape _ k=>∀s,sy P (k s)
 | .freeze _ _ _=>False
 | .frozen _ k=>∀b,sy P (k b)
 | .getObj _ _=>False
 | .setObj _ _ _=>False
 | .choose _ k=>∀n,sy P (k n)
 | .sys _ _=>False
 | .program k=>sy P (k P)
 | .mark m k=>(m=.noRoom\/∃a,m=.extern a)/\m≠.enable/\sy P k
 | .halt h=>wA h
theorem Pz{e:gG f}{i:f->gG h}:sy H e->sy H (e.bind i):=by
 intro d
 induction e with
 | pure a=>exact d.elim
 | load m a k g=>exact d.elim
 | store m a v k g=>exact d.elim
 | new o k g=>exact d.elim
 | shape r k g=>exact λs=>g s (d s)
 | freeze a n k g=>exact d.elim
 | frozen a k g=>exact λb=>g b (d b)
 | getObj r k g=>exact d.elim
 | setObj r o k g=>exact d.elim
 | choose q k g=>exact λn=>g n (d n)
 | sys c k g=>exact d.elim
 | program k g=>exact g H d
 | mark m k g=>exact⟨d.1,d.2.1,g d.2.2⟩
 | halt x=>exact d
def tF(P:Pg):gG f->Prop
 | .pure _=>True
 | .shape _ k=>∀s,tF P (k s)
 | .frozen _ k=>∀b,tF P (k b)
 | .choose _ k=>∀n,tF P (k n)
 | .program k=>tF P (k P)
 | .mark m k=>(m=.noRoom\/∃a,m=.extern a)/\m≠.enable/\tF P k
 | .halt h=>wA h
 | _=>False
theorem JV{e:gG f}{i:f->gG h}:tF H e->(∀a,tF H (i a))->tF H (e.bind i):=by
 intro g j
 induction e with
 | pure a=>exact j a
 | load m a k d=>exact g.elim
 | store m a v k d=>exact g.elim
 | new o k d=>exact g.elim
 | shape r k d=>exact λs=>d s (g s)
 | freeze a n k d=>exact g.elim
 | frozen a k d=>exact λb=>d b (g b)
 | getObj r k d=>exact g.elim
 | setObj r o k d=>exact g.elim
 | choose q k d=>exact λn=>d n (g n)
 | sys c k d=>exact g.elim
 | program k d=>exact d H g
 | mark m k d=>exact⟨g.1,g.2.1,d g.2.2⟩
 | halt x=>exact g
theorem b2T{e:gG f}{i:f->gG h}:tF H e->(∀a,sy H (i a))->sy H (e.bind i):=by
 intro g j
 induction e with
 | pure a=>exact j a
 | load m a k d=>exact g.elim
 | store m a v k d=>exact g.elim
 | new o k d=>exact g.elim
 | shape r k d=>exact λs=>d s (g s)
 | freeze a n k d=>exact g.elim
 | frozen a k d=>exact λb=>d b (g b)
 | getObj r k d=>exact g.elim
 | setObj r o k d=>exact g.elim
 | choose q k d=>exact λn=>d n (g n)
 | sys c k d=>exact g.elim
 | program k d=>exact d H g
 | mark m k d=>exact⟨g.1,g.2.1,d g.2.2⟩
 | halt x=>exact g
def Let(h:Halt):Prop:=wA h\/∃v,h=.panic v
def G8(P:Pg)(W:Prop)(c:f->Prop):gG f->Prop
 | .pure a=>c a
 | .load _ _ k=>∀v,G8 P W c (k v)
 | .store _ _ _ k=>W/\G8 P W c k
 | .new o k=>Obj.oc o/\∀r,G8 P W c (k r)
 | .shape _ k=>∀s,G8 P W c (k s)
 | .freeze _ _ _=>False
 | .frozen _ k=>∀b,sy P (k b)
 | .getObj _ k=>(∀o,G8 P W c (k o))/\∀o,¬Obj.oc o->k o=k sr\/sy P (k sr)
 | .setObj _ _ _=>False
 | .choose _ k=>∀n,G8 P W c (k n)
 | .sys _ _=>False
 | .program k=>G8 P W c (k P)
 | .mark m k=>(m=.noRoom\/∃d,m=.extern d)/\m≠.enable/\G8 P W c k
 | .halt h=>Let h
theorem zQ{i:f->Prop}{j:h->Prop}{e:gG f}{l:f->gG h}:G8 H L i e->(∀a,i a->G8 H L j (l a))->G8 H L j (e.bind l):=by
 intro d p
 induction e with
 | pure a=>exact p a d
 | load m a k g=>exact λv=>g v (d v)
 | store m a v k g=>exact⟨d.1,g d.2⟩
 | new o k g=>exact⟨d.1,λr=>g r (d.2 r)⟩
 | shape r k g=>exact λs=>g s (d s)
 | freeze a n k g=>exact d.elim
 | frozen a k g=>exact λb=>Pz (d b)
 | getObj r k g=>exact⟨λo=>g o (d.1 o),λo t=>(d.2 o t).imp (λe=>by grind) Pz⟩
 | setObj r o k g=>exact d.elim
 | choose q k g=>exact λn=>g n (d n)
 | sys c k g=>exact d.elim
 | program k g=>exact g H d
 | mark m k g=>exact⟨d.1,d.2.1,g d.2.2⟩
 | halt x=>exact d
theorem zh{d:f->Prop}{e:gG f}:sy H e->G8 H L d e:=by
 intro h
 induction e with
 | pure a=>exact h.elim
 | load m a k b=>exact h.elim
 | store m a v k b=>exact h.elim
 | new o k b=>exact h.elim
 | shape r k b=>exact λs=>b s (h s)
 | freeze a n k b=>exact h.elim
 | frozen a k b=>exact h
 | getObj r k b=>exact h.elim
 | setObj r o k b=>exact h.elim
 | choose q k b=>exact λn=>b n (h n)
 | sys c k b=>exact h.elim
 | program k b=>exact b H h
 | mark m k b=>exact⟨h.1,h.2.1,b h.2.2⟩
 | halt x=>exact .inl h
def fz(n:Nat):eM->eM
 | .cells c t f=>.cells c t (if n=0 then f else(0,n))
 | .view _ _=>sr
 | .pending _ _=>sr
 | o=>o
def Clear(_:Wd):Prop:=True
structure Lk (sft:Nat->Nat) (v w:Wd):Prop where
 heap:∀i:Nat,v.heap[i]?=(w.heap[i]?).map (fz (sft i))
 soft:∀i:Nat,sft i≠0->∃c t,w.heap[i]?=J (.cells c t (0,0))
 oc:Clear w
 os:v.os=w.os
 output:v.output=w.output
def Ab(N:Nat)(v w:Wd):Prop:=∀i q,i<N->v.tape (v.drawn+i) q=w.tape (w.drawn+i) q
def vT(n:Nat)(o b:eM):Prop :=
 match o with
 | .cells c t f=>∃a,b=.cells a t f/\a.size=c.size/\∀j<n,a[j]?=c[j]?
 | _=>b=o
theorem vT.refl(n:Nat)(o:eM):vT n o o:=by cases o<;>first|exact⟨_,Z,Z,λ_ _=>rfl⟩|rfl
theorem vT.trans{d b c:eM}(h:vT a d b)(e:vT a b c):vT a d c:=by
 cases d with
 | cells x t f =>
  obtain⟨y,rfl,i,k⟩:=h;obtain⟨z,rfl,l,m⟩:=e;exact⟨z,Z,l.trans i,λj g=>(m j g).trans (k j g)⟩
 | _=>(have h:b=_:=h;subst h;exact e)
structure oP (sft:Nat->Nat) (w w':Wd):Prop where
 same:∀(i:Nat) (o:eM),w.heap[i]?=J o->∃o',w'.heap[i]?=J o'/\vT (sft i) o o'
 size:w.heap.size<=w'.heap.size
 new:∀(i:Nat) (o:eM),w.heap.size<=i->w'.heap[i]?=J o->Obj.oc o
theorem vT.oc{o b:eM}(h:vT a o b):Obj.oc b↔Obj.oc o:=by
 cases o with
 | cells c t f=>obtain⟨d,rfl,_⟩:=h;exact Iff.rfl
 | _=>(have h:b=_:=h;rw[h])
theorem oP.of_heap(b:Nat->Nat){w':Wd}(h:w'.heap=i.heap):oP b i w':=⟨λ_ o a=>⟨o,by rw[h];exact a,.refl _ _⟩,by grind,λc o d a=>by
 grind⟩
theorem oP.refl(a:Nat->Nat)(w:Wd):oP a w w:=.of_heap a Z
theorem oP.trans(h:oP T i j)(b:oP T j k):oP T i k :=
 ⟨λa o c=>by let⟨f,d,e⟩:=h.same a o c;let⟨l,m,n⟩:=b.same a f d;exact⟨l,m,e.trans n⟩,Zh h.size b.size,λa o p c=>by
  rcases bU a j.heap.size with g|g
  .let⟨f,d,e⟩:=b.same a _ (bE g);rw[c]at d;cases Ze d;exact e.oc.2 (h.new a _ p (bE g))
  .exact b.new a o g c⟩
def uD(b:Nat->Nat)(W:Prop)(n:Nat)(e:dr):Prop :=
 match e.loc with
 | .cell a=>a.block<n/\(e.write=true->b a.block<=a.off/\W)
 | .obj r=>r<n/\e.write=false
 | .output=>False
 | .goroutines=>False
 | .mark m=>m=.noRoom\/∃f,m=.extern f
theorem uD.more{e:dr}(h:uD T L a e)(c:a<=b):uD T L b e:=by
 unfold uD at *
 grind
def qR(a:Nat->Nat)(W:Prop)(n:Nat)(b c:Array dr):Prop:=∀e∈c,e∈b\/uD a W n e
theorem qR.refl(b:Nat->Nat)(W:Prop)(n:Nat)(a:Array dr):qR b W n a a:=λ_ h=>.inl h
theorem qR.push{n:Nat}{e:dr}(h:uD T L n e):qR T L n N (N.push e):=λx a=>by
 grind
theorem qR.uj(h:w.block<a)(b:p=true->T w.block<=w.off/\L):qR T L a N (N.push ⟨.cell w,p,q⟩):=.push ⟨h,b⟩
theorem qR.sT(h:b<a):qR T L a N (N.push ⟨.obj b,false,p⟩):=.push ⟨h,Z⟩
theorem qR.wS{m:Mark}(h:m=.noRoom\/∃f,m=.extern f):qR T L a N (N.push ⟨.mark m,p,q⟩):=.push h
theorem qR.trans(h:qR T L a N P)(d:qR T L b P R)(e:a<=b):qR T L b N R:=λx c=>by
 rcases d x c with c|c
 .exact(h x c).imp id λz=>z.more e
 .exact .inr c
def _root_.Go.Result.world:Result f->Wd
 | .ok _ w=>w
 | .halt _ w=>w
structure qH (c:Nat) (v v' w w':Wd):Prop where
 tv:v'.tape=v.tape
 tw:w'.tape=w.tape
 dv:v'.drawn=v.drawn+c
 dw:w'.drawn=w.drawn+c
 ow:w'.os=w.os
 pw:w'.output=w.output
theorem qH.zero(v w:Wd):qH 0 v v w w:=⟨Z,Z,Z,Z,Z,Z⟩
theorem qH.all(h:qH a i j k l):(l.tape,l.os,l.output)=(k.tape,k.os,k.output):=by rw[h.tw,h.ow,h.pw]
theorem qH.trans{d:Wd}(h:qH a i j l m)(c:qH b j k m d):qH (a+b) i k l d :=
 ⟨c.tv.trans h.tv,c.tw.trans h.tw,by rw[c.dv,h.dv];omega,by rw[c.dw,h.dw];omega,c.ow.trans h.ow,c.pw.trans h.pw⟩
inductive qw {α:Type} (sft:Nat->Nat) (W:Prop) (Φ:α->Prop) (v w:Wd) (es:Array Event):Result α×Array Event->Result α×Array Event->Prop where
 | ok {a:α} {v' w':Wd} {es':Array Event} {c:Nat}:Φ a->Lk sft v' w'->oP sft w w'->qR sft W w'.heap.size es es'->qH c v v' w w'->qw sft W Φ v w es (.ok a v',es') (.ok a w',es')
 | panic {x:Vu} {v' w':Wd} {es':Array Event} {c:Nat}:Lk sft v' w'->oP sft w w'->qR sft W w'.heap.size es es'->qH c v v' w w'->qw sft W Φ v w es (.halt (.panic x) v',es') (.halt (.panic x) w',es')
 | lost {h:Halt} {v':Wd} {es':Array Event} {r:Result α×Array Event}:wA h->qw sft W Φ v w es (.halt h v',es') r
theorem qw.after{e:f->Prop}{v₁ w₁:Wd}{c:Nat}{es₁:Array dr}{r g:Result f×Array dr}(k:oP T j w₁)(l:qR T L w₁.heap.size N es₁)(m:qH c i v₁ j w₁)(h:qw T L e v₁ w₁ es₁ r g):qw T L e i j N r g:=by
 cases h with
 | ok p a b c d=>exact .ok p a (k.trans b) (l.trans c b.size) (m.trans d)
 | panic a b c d=>exact .panic a (k.trans b) (l.trans c b.size) (m.trans d)
 | lost b=>exact .lost b
variable{sft:Nat->Nat}{v w:Wd}
theorem Lk.cell(h:Lk sft v w)(a:cC):v.cell? a=w.cell? a:=by
 simp only[aD,h.heap]
 cases w.heap[a.block]? with
 | none=>rfl
 | some o =>
  cases o<;>rfl
theorem Lk.shape(h:Lk sft v w)(r:Nat):v.shape? r=w.shape? r:=by
 simp only[World.shape?,h.heap]
 cases w.heap[r]? with
 | none=>rfl
 | some o =>
  cases o<;>rfl
theorem Lk.size(h:Lk sft v w):v.heap.size=w.heap.size:=by
 have a:∀i,i<v.heap.size↔i<w.heap.size:=λi=>by
  have e:=h.heap i
  grind
 rcases Nat.lt_trichotomy v.heap.size w.heap.size with g|g|g
 all_goals grind
theorem B2{w:Wd}(h:w.cell? x=J y):x.block<w.heap.size:=by
 unfold aD at h
 grind
theorem Lk.thaw(h:Lk sft v w)(a:v.frozen? x=false):w.frozen? x=false/\(∀b,w.cell? x=J b->sft x.block<=x.off):=by
 by_cases e:sft x.block=0
 .constructor
  .have:=h.heap x.block;simp only[bY,this]at a ⊢
   cases b:w.heap[x.block]? with
   | none=>rfl
   | some o =>
    rw[b]at a;cases o<;>first|rfl|(simp only[aF,fz,e,if_true]at a;exact a)
  grind
 .let⟨c,t,d⟩:=h.soft _ e;constructor
  .simp[bY,d]
  .intro b _;have:=h.heap x.block;simp only[bY,this,d,aF,fz,nR e]at a
   grind
theorem LU(p:Pg)(w:Wd)(k:cC)(b:Bool):mN p w ⟨0,0,J 0⟩ 0 k b=.error "memory seen as another type: a place without cells" := by
 unfold mN;have h:(k.spot.isSome||(⟨0,0,J 0⟩:cC).spot.isSome)=true:=by simp
 rw[nT h];rfl
theorem Wu(p:Pg)(w:Wd)(k:cC)(b:Bool):∃s,jW p w ⟨0,0,J 0⟩ 0 k b=.error s:=by
 unfold jW;rw[LU];exact⟨_,Z⟩
theorem b6n(p:Pg)(w:Wd)(k:cC)(y:Vu)(b:Bool):∃s,jK p w ⟨0,0,J 0⟩ 0 k y b=.error s:=by
 unfold jK;rw[LU]
 by_cases h:(!tight p p.depth 0)=true
 .rw[nT h];exact⟨_,Z⟩
 .rw[nR h];exact⟨_,Z⟩
theorem Lk.farLoad(p:Pg)(h:Lk sft v w)(a:cC)(b:Bool):∃c,v.farLoad p a b=.error c/\wA c:=by
 unfold kD jb;rw[h.heap]
 cases x:w.heap[a.block]? with
 | none=>exact⟨_,Z,nQ⟩
 | some o =>
  cases o<;>first
   | exact⟨_,Z,nQ⟩
   | (let⟨s,d⟩:=Wu p v a b;simp only[aF,fz,sr,d];exact⟨_,Z,nQ⟩)
theorem Lk.farStore(p:Pg)(h:Lk sft v w)(a:cC)(y:Vu)(b:Bool):∃c,v.farStore p a y b=.error c/\wA c:=by
 unfold jX jb;rw[h.heap]
 cases x:w.heap[a.block]? with
 | none=>exact⟨_,Z,nQ⟩
 | some o =>
  cases o<;>first
   | exact⟨_,Z,nQ⟩
   | (let⟨s,d⟩:=b6n p v a y b;simp only[aF,fz,sr,d];exact⟨_,Z,nQ⟩)
theorem heap_setCell(w:Wd)(a:cC)(x:Vu)(i:Nat):(w.setCell a x).heap[i]?=if a.block=i then(w.heap[i]?).map (λo=>match o with|.cells c b frozen=>.cells (if a.spot.isSome then c else c.setIfInBounds a.off x) b frozen|o=>o) else w.heap[i]?:=by
 simp only[cQ,Array.getElem?_modify];rfl
theorem V6(h:Lk sft v w){a:cC}(k:sft a.block<=a.off){x:Vu}:Lk sft (v.setCell a x) (w.setCell a x)/\oP sft w (w.setCell a x):=by
 refine⟨⟨λi=>?_,λi d=>?_,nQ,h.os,h.output⟩,⟨λi o b=>?_,?_,λi o d b=>?_⟩⟩
 .rw[heap_setCell,heap_setCell,h.heap i];split
  .cases w.heap[i]? with
   | none=>rfl
   | some o =>
    cases o<;>rfl
  .rfl
 .let⟨c,t,g⟩:=h.soft i d;rw[heap_setCell,g]
  grind
 .rw[heap_setCell];split
  .rename_i e;rw[b,aF];refine⟨_,Z,?_⟩
   cases o with
   | cells c t f =>
    refine⟨_,Z,?_,λj l=>?_⟩
    all_goals grind
   | _=>rfl
  .exact⟨o,b,.refl _ _⟩
 .simp[cQ]
 .have:=(Zj b).1;simp[cQ]at this;omega
theorem qI(h:Lk sft v w){o:eM}(d:Obj.oc o):Lk sft { v with heap:=v.heap.push o } { w with heap:=w.heap.push o }/\oP sft w { w with heap:=w.heap.push o }:=by
 have f:sft w.heap.size=0:=by
  by_cases e:sft w.heap.size=0
  .exact e
  .let⟨c,t,g⟩:=h.soft _ e
   grind
 refine⟨⟨λi=>?_,λi a=>?_,nQ,h.os,h.output⟩,⟨λi b j=>⟨b,?_,.refl _ _⟩,by simp,λi b a j=>?_⟩⟩
 .simp only[Array.getElem?_push,h.size,h.heap i];split
  .rename_i e;subst e;rw[f,aF]
   congr 1
   cases o<;>first|rfl|exact d.elim|(simp[fz])
  .rfl
 .let⟨c,t,g⟩:=h.soft i a
  grind
 all_goals grind
theorem Hr(p:Pg)(e:gG f):∀ {v:Wd} (d:Array dr),sy p e->∃h g i,e.runT p v d=(.halt h g,i)/\wA h:=by
 induction e with
 | pure a=>intro v d h;exact h.elim
 | load m a k b=>intro v d h;exact h.elim
 | store m a x k b=>intro v d h;exact h.elim
 | new o k b=>intro v d h;exact h.elim
 | shape r k b=>intro v d h;simp only[aP];exact b _ _ (h _)
 | freeze a n k b=>intro v d h;exact h.elim
 | frozen a k b=>intro v d h;simp only[aP];exact b _ _ (h _)
 | getObj r k b=>intro v d h;exact h.elim
 | setObj r o k b=>intro v d h;exact h.elim
 | choose q k b =>
  intro v d h;simp only[aP];split
  .exact b _ _ (h _)
  .exact b _ _ (h _)
 | sys c k b=>intro v d h;exact h.elim
 | program k b=>intro v d h;simp only[aP];exact b _ _ h
 | mark m k b=>intro v d h;simp only[aP];exact b _ h.2.2
 | halt x=>intro v d h;exact⟨_,_,_,Z,h⟩
theorem yl{o:eM}(h:Obj.oc o):fz 0 o=o:=by cases o<;>first|rfl|exact h.elim
theorem Oj{o x:eM}(h:fz a o=x)(b:Obj.oc x):Obj.oc o:=by
 cases o<;>first|trivial|(rw[←h]at b;exact b.elim)
theorem Yh(n:Nat)(o:eM):fz 0 (fz n o)=fz n o:=by cases o<;>rfl
def Om(w:Wd):World:={ w with heap:=w.heap.map (fz 0) }
theorem Clear.lk{w:Wd}(_:Clear w):Lk (λ_=>0) (Om w) w :=
 ⟨λi=>by simp[Om],λ_ h=>absurd Z h,nQ,Z,Z⟩
theorem Qa{w:Wd}{k:cC}{r:Array Vu×Ti×(Nat×Nat)×Nat×Vu×List (Nat×Nat×List UInt8)}(h:w.seen H x n k p=.ok r):x.block<w.heap.size:=by
 rcases bU x.block w.heap.size with g|g
 .exact g
 .exfalso;have a:w.heap[x.block]?=none:=dJ g;unfold mN at h;simp only[a,bind,lP,pure,lO,throw,throwThe,gH]at h
  repeat' split at h
  all_goals cases h
theorem b7k{w:Wd}{t:List cC}(h:w.farLoad H x p=.ok (y,t)):∀c∈t,c.block<w.heap.size:=by
 unfold kD at h;split at h
 .split at h
  .rename_i _ d u e _ r a;cases nE h;unfold jW at a
   cases b:w.seen H d u x p with
   | error s=>rw[b]at a;cases a
   | ok q =>
    rw[b]at a;have f:=Qa b;let⟨g,i,j,k,l,m⟩:=q;simp only[bind,lP,pure,lO,throw,throwThe,gH]at a;split at a
    .grind
    .cases a
  .cases h
 .cases h
theorem Js{w:Wd}{t:List cC}(h:w.farStore H x y p=.ok (i,t)):i.drawn=w.drawn:=by
 unfold jX at h;split at h
 .split at h
  .rename_i _ b u c _ r a;cases nE h;unfold jK at a;simp only[bind,lP,pure,lO,throw,throwThe,gH]at a
   repeat' split at a
   all_goals first
    | (cases a;done)
    | (cases a;rfl)
  .cases h
 .cases h
def It(h:Halt):Prop:=wA h\/∃g,h=.unsupported (.initOrder g)
theorem b4P{w:Wd}{a:Halt}(h:w.farLoad H x p=.error a):It a:=by
 unfold kD at h;split at h
 .split at h
  .cases h
  .cases fL h;exact .inl nQ
 .cases fL h;unfold jb;split
  .exact .inr ⟨_,Z⟩
  .exact .inl nQ
  .exact .inl nQ
theorem b2Z{w:Wd}{a:Halt}(h:w.farStore H x y p=.error a):It a:=by
 unfold jX at h;split at h
 .split at h
  .cases h
  .cases fL h;exact .inl nQ
 .cases fL h;unfold jb;split
  .exact .inr ⟨_,Z⟩
  .exact .inl nQ
  .exact .inl nQ
theorem Xx(p:Pg)(e:gG f)(W:Prop)(i:f->Prop):∀(w:Wd) (g:Array dr),G8 p W i e->Clear w->w.drawn<=(e.runT p w g).1.world.drawn:=by
  induction e with
  | pure a=>intro w g _ _;exact af _
  | load m a k b =>
    intro w g h d;simp only[aP];split
    . exact b _ _ _ (h _) d
    . split
      . exact b _ _ _ (h _) d
      . exact af _
  | store m a x k b =>
    intro w g h d;cases x<;>simp only[aP]<;>first
      | exact af _
      | (split
         . split
           . exact af _
           . exact b (w.setCell _ _) _ h.2 d
         . split
           . rename_i j t l
             have e:=Js l;rw[←e];exact b j _ h.2 d
           . exact af _)
  | new o k b=>intro w g h d;simp only[aP];exact b _ { w with heap:=w.heap.push o } _ (h.2 _) d
  | shape r k b=>intro w g h d;simp only[aP];exact b _ _ _ (h _) d
  | freeze a n k b=>intro w g h;exact h.elim
  | frozen a k b =>
    intro w g h d;simp only[aP];exact b _ _ _ (zh (h _)) d
  | getObj r k b =>
    intro w g h d;simp only[aP];split
    . exact af _
    . exact b _ _ _ (h.1 _) d
    . exact af _
  | setObj r o k b=>intro w g h;exact h.elim
  | choose q k b =>
    intro w g h d;simp only[aP];split
    . exact b _ _ _ (h _) d
    . exact Zh (Nat.le_succ _) (b _ { w with drawn:=w.drawn+1 } _ (h _) d)
  | sys c k b=>intro w g h;exact h.elim
  | program k b=>intro w g h d;simp only[aP];exact b _ _ _ h d
  | mark m k b=>intro w g h d;simp only[aP];exact b _ _ h.2.2 d
  | halt x=>intro w g _ _;exact af _
theorem Ld(p:Pg)(e:gG f)(W:Prop){l:f->Prop}:∀(w:Wd) (d:Array dr),G8 p W l e ->
    (∃a g i,e.runT p w d=(.ok a g,i)/\l a)\/(∃x g i,e.runT p w d=(.halt (.panic x) g,i))\/∃x g i,e.runT p w d=(.halt x g,i)/\It x:=by
  induction e with
  | pure a=>intro w d h;exact .inl ⟨_,_,_,Z,h⟩
  | load m a k b =>
    intro w d h;simp only[aP];split
    . exact b _ _ _ (h _)
    . split
      . exact b _ _ _ (h _)
      . rename_i j;exact .inr (.inr ⟨_,_,_,Z,b4P j⟩)
  | store m a x k b =>
    intro w d h;cases x<;>simp only[aP]<;>first
      | exact .inr (.inr ⟨_,_,_,Z,.inl nQ⟩)
      | (split
         . split
           . exact .inr (.inr ⟨_,_,_,Z,.inl nQ⟩)
           . exact b (w.setCell _ _) _ h.2
         . split
           . rename_i g t j
             exact b g _ h.2
           . rename_i j;exact .inr (.inr ⟨_,_,_,Z,b2Z j⟩))
  | new o k b=>intro w d h;simp only[aP];exact b _ { w with heap:=w.heap.push o } _ (h.2 _)
  | shape r k b=>intro w d h;simp only[aP];exact b _ _ _ (h _)
  | freeze a n k b=>intro w d h;exact h.elim
  | frozen a k b =>
    intro w d h;simp only[aP];exact b _ _ _ (zh (h _))
  | getObj r k b =>
    intro w d h;simp only[aP];split
    . exact .inr (.inr ⟨_,_,_,Z,.inl nQ⟩)
    . exact b _ _ _ (h.1 _)
    . exact .inr (.inr ⟨_,_,_,Z,.inl nQ⟩)
  | setObj r o k b=>intro w d h;exact h.elim
  | choose q k b =>
    intro w d h;simp only[aP];split
    . exact b _ _ _ (h _)
    . exact b _ { w with drawn:=w.drawn+1 } _ (h _)
  | sys c k b=>intro w d h;exact h.elim
  | program k b=>intro w d h;simp only[aP];exact b _ _ _ h
  | mark m k b=>intro w d h;simp only[aP];exact b _ _ h.2.2
  | halt x=>intro w d h;rcases h with h|⟨v,rfl⟩;exact .inr (.inr ⟨_,_,_,Z,.inl h⟩);exact .inr (.inl ⟨_,_,_,Z⟩)
theorem DX{sft:Nat->Nat}(p:Pg)(e:gG f)(W:Prop){C:f->Prop}:∀ {v w:Wd} (g:Array dr) (N:Nat),G8 p W C e->Lk sft v w->Ab N v w->(e.runT p w g).1.world.drawn<=w.drawn+N->qw sft W C v w g (e.runT p v g) (e.runT p w g):=by
  induction e with
  | pure a=>intro v w g N j h _ _;exact .ok j h (.refl _ _) (.refl _ _ _ _) (.zero _ _)
  | load m a k l =>
    intro v w g N j h z d;simp only[aP,h.cell a]at d ⊢
    cases B:w.cell? a with
    | some x =>
      rw[B]at d;exact(l x _ N (j x) h z d).after (.refl _ _) (.uj (B2 B) Zc) (.zero _ _)
    | none =>
      let⟨s,F,A⟩:=h.farLoad p a (m==.atomic);simp only[F];exact .lost A
  | store m a x k l =>
    intro v w g N j h z d;let⟨s,F,A⟩:=h.farStore p a x (m==.atomic);have a':∀(y:Vu) (b:Bool),w.cell? a=J y->v.frozen? a=false->(k.runT p (w.setCell a x) (g.push ⟨.cell a,true,b⟩)).1.world.drawn<=w.drawn+N ->
        qw sft W C v w g (k.runT p (v.setCell a x) (g.push ⟨.cell a,true,b⟩)) (k.runT p (w.setCell a x) (g.push ⟨.cell a,true,b⟩)):=by
      intro y b B H d;let⟨t1,t2⟩:=h.thaw H;let⟨I,E⟩:=V6 h (t2 y B) (x:=x);exact qw.after (c:=0) (v₁:=v.setCell a x) (w₁:=w.setCell a x) E (.uj (Zg (B2 B) E.size) λ_=>⟨t2 y B,j.1⟩) ⟨Z,Z,Z,Z,Z,Z⟩ (l _ N j.2 I z d)
    cases x<;>first
      | exact .lost nQ
      | (simp only[aP,h.cell a,F]at d ⊢
         cases B:w.cell? a with
         | none=>exact .lost A
         | some y =>
           rw[B]at d;simp only at d ⊢
           cases H:v.frozen? a with
           | true=>simp only[if_true];exact .lost nQ
           | false =>
             rw[(h.thaw H).1]at d ⊢
             grind)
  | new o k l =>
    intro v w g N j h z d;let⟨I,E⟩:=qI h j.1;simp only[aP,h.size]at d ⊢;exact qw.after (c:=0) (v₁:={ v with heap:=v.heap.push o }) (w₁:={ w with heap:=w.heap.push o }) E (.refl _ _ _ _) ⟨Z,Z,Z,Z,Z,Z⟩ (l _ _ N (j.2 _) I z d)
  | shape r k l =>
    intro v w g N j h z d;simp only[aP,h.shape]at d ⊢;exact l _ _ N (j _) h z d
  | freeze a n k l=>intro v w g N j;exact j.elim
  | frozen a k l =>
    intro v w g N j h z d;let⟨K,R,S,D,A⟩:=Hr p (k (v.frozen? a)) (v:=v) g (j _);simp only[aP,D];exact .lost A
  | getObj r k l =>
    intro v w g N j h z d;simp only[aP,h.heap r]at d ⊢
    cases T:w.heap[r]? with
    | none=>exact .lost nQ
    | some o =>
      rw[T]at d;have L:=(Zj T).1
      cases o with
      | cells c t b'=>exact .lost nQ
      | view a u =>
        have d:(aP p (k (.view a u)) w (g.push ⟨.obj r,false,false⟩)).1.world.drawn<=w.drawn+N:=d;show qw sft W C v w g (aP p (k sr) v (g.push ⟨.obj r,false,false⟩)) (aP p (k (.view a u)) w (g.push ⟨.obj r,false,false⟩));rcases j.2 (.view a u) id with e|e
        . rw[e]at d ⊢
          exact(l _ _ N (j.1 _) h z d).after (.refl _ _) (.sT L) (.zero _ _)
        . let⟨K,R,S,D,A⟩:=Hr p (k sr) (v:=v) (g.push ⟨.obj r,false,false⟩) e
          rw[D];exact .lost A
      | pending c t =>
        have d:(aP p (k (.pending c t)) w (g.push ⟨.obj r,false,false⟩)).1.world.drawn<=w.drawn+N:=d;show qw sft W C v w g (aP p (k sr) v (g.push ⟨.obj r,false,false⟩)) (aP p (k (.pending c t)) w (g.push ⟨.obj r,false,false⟩));rcases j.2 (.pending c t) id with e|e
        . rw[e]at d ⊢
          exact(l _ _ N (j.1 _) h z d).after (.refl _ _) (.sT L) (.zero _ _)
        . let⟨K,R,S,D,A⟩:=Hr p (k sr) (v:=v) (g.push ⟨.obj r,false,false⟩) e
          rw[D];exact .lost A
      | _=>exact(l _ _ N (j.1 _) h z d).after (.refl _ _) (.sT L) (.zero _ _)
  | setObj r o k l=>intro v w g N j;exact j.elim
  | choose q k l =>
    intro v w g N j h z d;simp only[aP]at d ⊢;split
    . rename_i P
      simp only[P,if_true]at d;exact l _ _ N (j _) h z d
    . rename_i P
      simp only[P,if_false]at d;have hd:=Xx p (k (q.cut (w.tape w.drawn q))) W C { w with drawn:=w.drawn+1 } g (j _) h.oc;have G:0<N:=by
        grind
      have e:v.tape v.drawn q=w.tape w.drawn q:=z 0 q G;have M:Ab (N - 1) { v with drawn:=v.drawn+1 } { w with drawn:=w.drawn+1 }:=λi q hi=>by
        have:=z (i+1) q Za
        grind
      rw[e];have X:Lk sft { v with drawn:=v.drawn+1 } { w with drawn:=w.drawn+1 }:=⟨h.heap,h.soft,h.oc,h.os,h.output⟩;exact qw.after (v₁:={ v with drawn:=v.drawn+1 }) (w₁:={ w with drawn:=w.drawn+1 }) (es₁:=g) (c:=1) (.of_heap _ Z) (.refl _ _ _ _) ⟨Z,Z,Z,Z,Z,Z⟩
        (l (q.cut (w.tape w.drawn q)) g (N - 1) (j _) X M (by
          grind))
  | sys c k l=>intro v w g N j;exact j.elim
  | program k l=>intro v w g N j h z d;simp only[aP]at d ⊢;exact l _ _ N j h z d
  | mark m k l=>intro v w g N j h z d;simp only[aP]at d ⊢;exact(l _ N j.2.2 h z d).after (.refl _ _) (.wS j.1) (.zero _ _)
  | halt K =>
    intro v w g N j h _ _;rcases j with A|⟨x,rfl⟩
    . exact .lost A
    . exact .panic h (.refl _ _) (.refl _ _ _ _) (.zero _ _)
variable{P:Pg}{W:Prop}
abbrev TT(P:Pg)(W:Prop)(e:gG f):Prop:=G8 P W (λ_=>True) e
theorem te{a:f}:TT P W (pure a:gG f):=trivial
theorem j9{b:h->Prop}{e:gG f}{c:f->gG h}(d:TT P W e)(g:∀a,G8 P W b (c a)):G8 P W b (e >>= c):=zQ d λa _=>g a
theorem B8{Φ:f->Prop}{s:String}:G8 P W Φ (stuck s:gG f):=.inl nQ
theorem j0{a:f->Prop}(u:Unsupported)(h:wA (.unsupported u):=by trivial):G8 P W a (unsupported u:gG f):=.inl h
theorem ym{a:f->Prop}{v:Vu}:G8 P W a (goPanic v:gG f):=.inr ⟨v,Z⟩
theorem xf:TT P W program:=trivial
theorem Vq{a:f->Prop}{b:Pg->gG f}(h:G8 P W a (b P)):G8 P W a (program >>= b):=h
theorem S9:TT P W (typeInfo n):=by
 unfold typeInfo
 repeat' first|exact trivial|exact xf|exact te|exact B8|(refine j9 ?_ ?_)|(intro _)|split|dsimp only
theorem Q8:TT P W (underlying n):=by
 unfold underlying
 repeat' first|exact trivial|exact xf|exact S9|exact te|exact B8|(refine j9 ?_ ?_)|(intro _)|split|dsimp only
theorem wQ:TT P W (sizeOf n):=by
 unfold sizeOf
 repeat' first|exact trivial|exact xf|exact S9|exact te|exact B8|(refine j9 ?_ ?_)|(intro _)|split|dsimp only
theorem zH:TT P W (zeroValue n):=by
 unfold zeroValue
 repeat' first|exact trivial|exact xf|exact S9|exact te|exact B8|exact j0 _|(refine j9 ?_ ?_)|(intro _)|split|dsimp only
theorem G3:TT P W (isAgg n):=by
 unfold isAgg
 repeat' first|exact trivial|exact Q8|exact te|(refine j9 ?_ ?_)|(intro _)|split|dsimp only
theorem DR:TT P W (part n I a):=by
 unfold part
 repeat' first|exact trivial|exact G3|exact wQ|exact te|exact B8|(refine j9 ?_ ?_)|(intro _)|split|dsimp only
theorem yH:TT P W (askRoom a):=by
 unfold askRoom;split
 .exact⟨by simp,by simp,nQ⟩
 .exact trivial
theorem xX:TT P W (newRow n I):=by
 unfold newRow;refine j9 ?_ λ_=>trivial;exact⟨nQ,λ_=>trivial⟩
theorem ND{v:Vu}:TT P W (newVar n v):=xX
theorem Nd{v:Vu}:TT P W (iF v):=by
 unfold iF;split
 .exact trivial
 .exact B8
theorem c2v{v:Vu}:TT P W (Instr.extract v a):=by
 unfold Instr.extract
 repeat' first|exact trivial|exact B8|split
theorem Lx{m:Mode}:TT P W (load x m):=λ_=>trivial
theorem Qd(a:W){v:Vu}{m:Mode}:TT P W (store x v m):=⟨a,nQ⟩
theorem vX{q:im}:TT P W (nI q):=λ_=>trivial
theorem Su{d:f->Prop}{b:eM->gG f}(e:∀g t,b (.view g t)=b sr\/sy P (b sr))(i:∀c t,b (.pending c t)=b sr\/sy P (b sr))(h:∀o,G8 P W d (b o)):G8 P W d (getObj a >>= b) :=
 ⟨h,λo j=>by cases o<;>first|exact(j nQ).elim|exact e _ _|exact i _ _⟩
theorem pD{e:f->Prop}{b:eM->gG f}(h:∀o,G8 P W e (b o))(g:∀d t,b (.view d t)=b sr:=by with_unfolding_all exact λ_ _=>rfl)(i:∀c t,b (.pending c t)=b sr:=by with_unfolding_all exact λ_ _=>rfl):G8 P W e (getObj a >>= b):=Su (λd t=>.inl (g d t)) (λd t=>.inl (i d t)) h
theorem KS{c:f->Prop}{b:Option (cC×Ti)->gG f}(d:∀p,sy P (b (J p)))(h:G8 P W c (b Q)):G8 P W c (viewAt a >>= b):=by
 intro s
 cases s with
 | some s=>exact h
 | none =>
  refine⟨λo=>?_,λo _=>.inr (d _)⟩;cases o<;>first|exact zh (d _)|exact h
theorem a8a(a:cC)(n:Nat):∀(i:Nat) (b:Array Vu),TT P W (loadCellsFrom a i n b):=by
 induction n with
 | zero=>exact λ_ _=>trivial
 | succ n c=>exact λi b=>j9 (Lx) λ_=>c _ _
theorem Bx:TT P W (loadCells x a):=a8a x a 0 #[]
theorem GA(b:W){a:List Vu}:∀i,TT P W (storeCells x a i):=by
 induction a with
 | nil=>exact λ_=>trivial
 | cons v d c=>exact λi=>j9 (Qd b) λ_=>c _
theorem rA(h:L:=by first|exact trivial|exact te|exact B8|exact j0 _|exact ym|exact S9|exact Q8|exact wQ|exact zH|exact G3|exact DR|exact yH|exact xX|exact ND|exact Nd|fail):L:=h
theorem zT(h:L:=by repeat' first|exact rA|(refine j9 ?_ ?_)|(intro _)|split|dsimp only):L:=h
theorem Cb:TT P W (loadVar n x):=by
 unfold loadVar
 repeat' first|exact rA|exact Bx|exact Lx|(refine j9 ?_ ?_)|(intro _)|split|dsimp only
theorem Mi(a:W){v:Vu}:TT P W (storeVar n x v):=by
 unfold storeVar
 repeat' first|exact rA|exact GA a _|(refine j9 ?_ ?_)|(intro _)|split|dsimp only
theorem c6i:TT P W (elemOf n):=by
 unfold elemOf;exact zT
theorem p5{a:f->Prop}{e:RuntimeError}:G8 P W a (runtimePanic e:gG f):=by
 unfold runtimePanic
 repeat' first|exact rA|exact xf|exact c6i|(refine j9 ?_ ?_)|(intro _)|split|dsimp only
theorem yA{v:Vu}:TT P W (asIntOf v):=by
 unfold asIntOf;exact zT
theorem xZ{v:Vu}:TT P W (asInt v):=by
 unfold asInt
 repeat' first|exact rA|exact yA|(refine j9 ?_ ?_)|(intro _)|split|dsimp only
theorem Il{v:Vu}:TT P W (asBool v):=by
 unfold asBool;exact zT
theorem YK{v:Vu}:TT P W (asAgg v):=by
 unfold asAgg;exact zT
theorem CW{v:Vu}:TT P W (asAddr v):=by
 unfold asAddr
 repeat' first|exact rA|exact p5|(refine j9 ?_ ?_)|(intro _)|split|dsimp only
theorem JN{e:gG f}{a:f->h}(b:TT P W e):TT P W (a <$> e):=zQ b λ_ _=>trivial
theorem GX{a:f->Prop}{k:iR}(x y:Int){c:BoundsCode}:G8 P W a (boundsPanic k x y c:gG f):=by
 unfold boundsPanic
 repeat' first|exact rA|exact p5|exact JN (vX)|(refine j9 ?_ ?_)|(intro _)|split|dsimp only
theorem XH{v:Vu}:TT P W (Instr.loadAt n v):=by
 unfold Instr.loadAt
 repeat' first|exact rA|exact Cb|(refine j9 ?_ ?_)|(intro _)|split|dsimp only
theorem c2A(a:W)(v x:Vu):TT P W (Instr.storeAt n v x):=by
 unfold Instr.storeAt
 repeat' first|exact rA|exact Mi a|(refine j9 ?_ ?_)|(intro _)|split|dsimp only
theorem XW(x i:Vu):TT P W (gj n x i):=by
 unfold gj
 repeat' first|exact rA|exact yA|exact GX _ _|(refine j9 ?_ ?_)|(intro _)|split|dsimp only
theorem Wm{v:Vu}:TT P W (Instr.box n v):=by
 unfold Instr.box;exact zT
theorem QO(a:W){v:Vu}:TT P W (Instr.alloc n p v):=by
 unfold Instr.alloc
 repeat' first|exact rA|exact Mi a|(refine j9 ?_ ?_)|(intro _)|split|dsimp only
theorem Vv{v:Vu}:TT P W (Instr.field n v a):=by
 unfold Instr.field
 repeat' first|exact rA|exact YK|(refine j9 ?_ ?_)|(intro _)|split|dsimp only
theorem Sp(v i:Vu):TT P W (gp n v i):=by
 unfold gp
 repeat' first|exact rA|exact yA|exact GX _ _|(refine j9 ?_ ?_)|(intro _)|split|dsimp only
theorem D9{a:f->Prop}[Decidable L]{x y:gG f}(h:G8 P W a x)(b:G8 P W a y):G8 P W a (if L then x else y):=by
 grind
theorem CH{a:h->Prop}{m:String}{b:f->gG h}:G8 P W a ((runtimePanic (.error m):gG f) >>= b):=.inr ⟨_,Z⟩
theorem b6s(v i:Vu):TT P W (iB n v i):=by
 unfold iB
 repeat' first|exact CH|exact rA|exact xZ|exact p5|exact vX|(refine j9 ?_ ?_)|(intro _)|(refine D9 ?_ ?_)|split|dsimp only
theorem Wq{c:BoundsCode}:TT P W (jJ y a c):=by
 unfold jJ
 repeat' first|exact rA|exact yA|exact GX _ _|(refine j9 ?_ ?_)|(intro _)|split|dsimp only
theorem Jn(l c:Nat)(x y z:Option Vu):TT P W (ju p l c x y z):=by
 unfold ju
 repeat' first|exact rA|exact Wq|(refine j9 ?_ ?_)|(intro _)|split|dsimp only
theorem SJ{v:Vu}(x y z:Option Vu):TT P W (mG n v x y z):=by
 unfold mG
 repeat' first|exact rA|exact Jn _ _ _ _ _|exact CW|(refine j9 ?_ ?_)|(intro _)|split|dsimp only
theorem c2z{v:Vu}(x y z:Option Vu):TT P W (iT n v x y z):=by
 unfold iT
 repeat' first|exact rA|exact Jn _ _ _ _ _|exact SJ _ _ _|(refine j9 ?_ ?_)|(intro _)|split|dsimp only
theorem a8b{v:Vu}:TT P W (mH n v):=by
 unfold mH;exact zT
theorem RX{v:Vu}(t u:Ti):TT P W (Instr.typeAssert v t u p):=by
 unfold Instr.typeAssert
 repeat' first|exact rA|exact p5|(refine j9 ?_ ?_)|(intro _)|split|dsimp only
theorem ZV:tF P (lV x a):=by
 unfold lV;refine JV (λs=>trivial) λs=>?_;split<;>exact trivial
theorem b5v:tF P (frozen x):=λ_=>trivial
theorem b0K(a b n:Nat){base:Option cC}:tF P (mS a b n base y):=by
 unfold mS
 repeat' first|exact trivial|exact ZV|exact b5v|(refine JV ?_ ?_)|(intro _)|split|dsimp only
theorem Me{v:Vu}:TT P W (nH v):=by
 unfold nH
 repeat' first|exact trivial|exact te|exact B8|exact j0 _|exact ym|exact S9|exact Q8|exact wQ|exact zH|exact yH|exact xX|exact xZ|exact p5|exact vX|exact Bx  | (refine j9 ?_ ?_)|(intro _)|split|dsimp only
theorem NL(a n:Nat){v:Vu}:TT P W (kV a n v):=by
 unfold kV
 repeat' first|exact trivial|exact te|exact B8|exact j0 _|exact ym|exact S9|exact Q8|exact wQ|exact zH|exact yH|exact xX|exact xZ|exact p5|exact vX|exact Bx  | (refine j9 ?_ ?_)|(intro _)|split|dsimp only
theorem d0d(a:W){b:Array Ti}:TT P W (dt b n I):=by
 unfold dt
 repeat' first|exact trivial|exact te|exact B8|exact j0 _|exact ym|exact S9|exact Q8|exact wQ|exact zH|exact yH|exact xX|exact xZ|exact p5|exact vX|exact GA a _|exact Bx|exact Me|exact NL _ _|(refine j9 ?_ ?_)|(intro _)|split|dsimp only
theorem MS:TT P W (shape a):=λ_=>trivial
theorem NV(o:eM)(h:Obj.oc o:=by trivial):TT P W (newObj o):=⟨h,λ_=>trivial⟩
theorem KQ(b:f->gG h)(c:∀a,TT P W (b a)):∀l:List f,TT P W (l.mapM b)
 | []=>by simp;exact trivial
 | a::l=>by
  simp only[fT];exact j9 (c a) λ_=>j9 (KQ b c l) λ_=>trivial
theorem LC{b:f->gG h}(c:∀a,TT P W (b a)){d:Array f}:TT P W (d.mapM b):=by
 rw[kB];exact JN (KQ b c _)
theorem Hz(c:f->h->gG (ForInStep h))(d:∀a b,TT P W (c a b)):∀(l:List f) (b:h),TT P W (forIn l b c)
 | [],b=>by simp;exact trivial
 | a::l,b=>by
  simp;refine j9 (d a b) λs=>?_
  cases s with
  | done b=>exact trivial
  | yield b=>exact Hz c d l b
theorem Qs{c:f->h->gG (ForInStep h)}(d:∀a b,TT P W (c a b)){e:Array f}{b:h}:TT P W (forIn e b c):=by
 rw[←mU];exact Hz c d _ _
theorem Lw{c:Nat->f->gG (ForInStep f)}(h:∀a b,TT P W (c a b)){r:Std.Legacy.Range}{b:f}:TT P W (forIn r b c):=by
 rw[iX];exact Hz c h _ _
theorem qD(h:L:=by first|exact CH|exact trivial|exact te|exact B8|exact j0 _|exact ym|exact xf|exact S9|exact Q8|exact wQ|exact zH|exact G3|exact DR|exact yH|exact xX|exact ND|exact Nd|exact p5|exact xZ|exact yA|exact Il|exact CW|exact vX|exact Cb|exact MS|fail):L:=h
theorem tX(h:L:=by repeat' first|exact qD|(with_reducible refine pD ?_)|(refine j9 ?_ ?_)|(intro _)|(refine D9 ?_ ?_)|split|dsimp only):L:=h
theorem d0S{a:Array Ti}:TT P W (kK a n I):=by
 unfold kK;exact tX
theorem ZM{a:Array Ti}:TT P W (Builtin.cap_ a n I):=by
 unfold Builtin.cap_;exact tX
theorem Ja:TT P W (numberAt a):=by
 unfold numberAt;exact tX
theorem FP:TT P W (behindNumber x):=by
 unfold behindNumber
 repeat' first|exact qD|(with_reducible refine pD ?_)|exact Ja|(refine j9 ?_ ?_)|(intro _)|(refine D9 ?_ ?_)|split|dsimp only
theorem YA:TT P W (noView x):=by
 unfold noView
 repeat' first|exact qD|(with_reducible refine pD ?_)|((with_reducible refine KS ?_ ?_);(exact λ_=>trivial))|(refine j9 ?_ ?_)|(intro _)|(refine D9 ?_ ?_)|split|dsimp only
theorem CZ:TT P W (byteOf x):=by
 unfold byteOf
 repeat' first|exact qD|(with_reducible refine pD ?_)|exact YA|(refine j9 ?_ ?_)|(intro _)|(refine D9 ?_ ?_)|split|dsimp only
theorem UZ(c b:Nat):TT P W (partAt x c b):=by
 unfold partAt
 repeat' first|exact qD|(with_reducible refine pD ?_)|exact CZ|(refine j9 ?_ ?_)|(intro _)|(refine D9 ?_ ?_)|split|dsimp only
theorem Pc{f:Field}:TT P W (fieldPlace x f):=by
 unfold fieldPlace
 repeat' first|exact qD|(with_reducible refine pD ?_)|exact UZ _ _|(refine j9 ?_ ?_)|(intro _)|(refine D9 ?_ ?_)|split|dsimp only
theorem c2w{v:Vu}:TT P W (kI n v a):=by
 unfold kI
 repeat' first|exact qD|(with_reducible refine pD ?_)|exact Pc|(refine j9 ?_ ?_)|(intro _)|(refine D9 ?_ ?_)|split|dsimp only
theorem WZ{a:Array (Nat×Vu)}:TT P W (iG n a):=by
 unfold iG
 repeat' first|exact qD|(with_reducible refine pD ?_)|(refine LC ?_)|(refine j9 ?_ ?_)|(intro _)|(refine D9 ?_ ?_)|split|dsimp only
theorem Uw{b:Array (Nat×Vu)}:TT P W (jQ n a b):=by
 unfold jQ;exact tX
theorem LN{a:Array Ti}:TT P W (lU a n I):=by
 unfold lU;rcases I with⟨_|⟨x,_|⟨y,_|⟨z,l⟩⟩⟩⟩<;>first|exact B8|skip
 cases x<;>first|exact B8|skip
 dsimp only
 repeat' first|exact qD|(with_reducible refine pD ?_)|((with_reducible refine KS ?_ ?_);(exact λ_=>trivial))|(refine j9 ?_ ?_)|(intro _)|(refine D9 ?_ ?_)|split|dsimp only
theorem b8u:TT P W (asNumber x p):=by
 unfold asNumber
 repeat' first|exact qD|(with_reducible refine pD ?_)|exact NV _|(refine j9 ?_ ?_)|(intro _)|(refine D9 ?_ ?_)|split|dsimp only
theorem Qu(x y:Vu):TT P W (movedNumber n x y):=by
 unfold movedNumber
 repeat' first|exact qD|(with_reducible refine pD ?_)|exact LN|exact FP|exact b8u|(refine j9 ?_ ?_)|(intro _)|(refine D9 ?_ ?_)|split|dsimp only
theorem Yd(x y:Vu):TT P W (movedPointer n x y):=by
 unfold movedPointer
 repeat' first|exact qD|(with_reducible refine pD ?_)|exact LN|exact Ja|(refine j9 ?_ ?_)|(intro _)|(refine D9 ?_ ?_)|split|dsimp only
theorem LV(a b:cC):TT P W (Op.twoPlaces a b):=by
 unfold Op.twoPlaces
 repeat' first|exact qD|(with_reducible refine pD ?_)|exact CZ|(refine j9 ?_ ?_)|(intro _)|(refine D9 ?_ ?_)|split|dsimp only
theorem Uf{k:iR}(a b:cC):TT P W (Op.addrSub k a b):=by
 unfold Op.addrSub
 repeat' first|exact qD|(with_reducible refine pD ?_)|exact LV _ _|(refine j9 ?_ ?_)|(intro _)|(refine D9 ?_ ?_)|split|dsimp only
theorem c2r(a b:cC):TT P W (Op.addrCmp S a b):=by
 unfold Op.addrCmp
 repeat' first|exact qD|(with_reducible refine pD ?_)|exact LV _ _|(refine j9 ?_ ?_)|(intro _)|(refine D9 ?_ ?_)|split|dsimp only
theorem c2s{k:iR}:TT P W (Op.addrMod k x C):=by
 unfold Op.addrMod
 repeat' first|exact qD|(with_reducible refine pD ?_)|exact CZ|(refine j9 ?_ ?_)|(intro _)|(refine D9 ?_ ?_)|split|dsimp only
theorem PG{k:iR}(x y:Int):TT P W (Op.intArith S k x y):=by
 unfold Op.intArith;exact tX
theorem c6m{k:iR}(x y:Int):TT P W (Op.intDiv S k x y):=by
 unfold Op.intDiv;exact tX
theorem OV{k:iR}(x y:Int):TT P W (Op.intBits S k x y):=by
 unfold Op.intBits;exact tX
theorem SR(x y:Int):TT P W (Op.intCmp S x y):=by
 unfold Op.intCmp;exact tX
theorem UE{k:iR}{a:iR}:TT P W (Op.shift S k C a D):=by
 unfold Op.shift;exact tX
theorem KJ{k:fB}(x y:Nat):TT P W (Op.floatArith S k x y):=by
 unfold Op.floatArith;exact tX
theorem I4{k:fB}(x y:Nat):TT P W (Op.floatCmp S k x y):=by
 unfold Op.floatCmp;exact tX
theorem WI(x y:ByteArray):TT P W (Op.stringOp S x y):=by
 unfold Op.stringOp;exact tX
theorem Y3:TT P W (kv n y):=by
 unfold kv
 repeat' first|exact qD|(with_reducible refine pD ?_)|exact NV _|(refine j9 ?_ ?_)|(intro _)|(refine D9 ?_ ?_)|split|dsimp only
theorem c8N{a:UnOp}:TT P W (Op.unary a y):=by
 unfold Op.unary
 repeat' first|exact qD|(with_reducible refine pD ?_)|exact PG _ _|exact OV _ _|(refine j9 ?_ ?_)|(intro _)|(refine D9 ?_ ?_)|split|dsimp only
theorem Rw(a:W){c:Array Ti}:TT P W (mT c n I):=by
 unfold mT
 repeat' first|exact CH|exact te|exact B8|exact j0 _|exact ym|exact S9|exact Q8|exact wQ|exact zH|exact yH|exact xX|exact xZ|exact p5|exact vX|exact GA a _|exact Bx|exact Me|exact NL _ _|(refine zh (b2T (b0K _ _ _) λb=>?_);cases b<;>first|exact trivial|exact⟨by simp,by simp,nQ⟩)|(refine j9 ?_ ?_)|(intro _)|(refine D9 ?_ ?_)|split|dsimp only
theorem Ng{c:Type}(d:f->c->gG (ForInStep c)):∀(l:List f),(∀a∈l,∀b,TT P W (d a b))->∀(b:c),TT P W (forIn l b d)
 | [],_,b=>by simp only[List.forIn_nil];exact trivial
 | a::l,h,b=>by
  simp only[List.forIn_cons];refine j9 (h a (ao ..) b) λs=>?_
  cases s with
  | done b=>exact trivial
  | yield b=>exact Ng d l (λx e=>h x (ah _ e)) b
theorem Wo{c:f->h->gG (ForInStep h)}{d:Array f}(e:∀a∈d,∀b,TT P W (c a b)){b:h}:TT P W (forIn d b c):=by
 rw[←mU];exact Ng c _ (λa g=>e a (Array.mem_toList_iff.1 g)) _
theorem HS{a:f->Prop}{b:TypeDesc->gG f}(h:∀d,P.underlying n=J d->G8 P W a (b d)):G8 P W a (underlying n >>= b):=by
 show G8 P W a (((match P.underlying n with|some d=>pure d|none=>stuck "no such type"):gG TypeDesc) >>= b)
 cases e:P.underlying n with
 | none=>exact B8 (Φ:=a)
 | some d=>exact h d e
theorem d0e{a:f->Prop}{b:iD->gG f}(h:∀d,P.info? n=J d->G8 P W a (b d)):G8 P W a (typeInfo n >>= b):=by
 show G8 P W a (((match P.info? n with|some d=>pure d|none=>stuck "no such type"):gG iD) >>= b)
 cases e:P.info? n with
 | none=>exact B8 (Φ:=a)
 | some d=>exact h d e
def BQ(P:Pg):Nat->Ti->Bool
 | 0,_=>false
 | n+1,t=>match P.underlying t with
  | some .bool|some (.int _)|some (.float _)|some .string=>true
  | some (.struct fs)=>fs.all λf=>BQ P n f.type
  | some (.array _ e)=>BQ P n e
  | _=>false
theorem PQ:∀(d:Nat) (t:Ti) (x y:Vu),TT P W (Op.eqGuardIn d t x y)
 | 0,_,_,_=>j0 _
 | d+1,t,x,y=>by
  unfold Op.eqGuardIn
  repeat' first|exact qD|(with_reducible refine pD ?_)|exact PQ d _ _ _|(refine Qs ?_)|(refine Lw ?_)|(refine j9 ?_ ?_)|(intro _)|(refine D9 ?_ ?_)|split|dsimp only
theorem VG(x y:aU)(a b:Vu):TT P W (eqGuard S n x y a b):=by
 unfold eqGuard
 repeat' first|exact qD|(with_reducible refine pD ?_)|exact PQ _ _ _ _|(refine j9 ?_ ?_)|(intro _)|(refine D9 ?_ ?_)|split|dsimp only
theorem FN:∀(n:Nat) (t:Ti),BQ P n t=true->∀(d:Nat) (x y:Vu),TT P W (dq d t x y)
 | 0,_,h=>by cases h
 | n+1,t,h=>by
  intro d x y
  cases d with
  | zero=>exact j0 _
  | succ d =>
   unfold dq;refine HS λu i=>?_;unfold BQ at h;rw[i]at h
   cases u with
   | bool =>
    repeat' first|contradiction|exact qD|(with_reducible refine pD ?_)|(refine j9 ?_ ?_)|(intro _)|(refine D9 ?_ ?_)|split|dsimp only
   | int k =>
    repeat' first|contradiction|exact qD|(with_reducible refine pD ?_)|exact FP|exact CZ|(refine j9 ?_ ?_)|(intro _)|(refine D9 ?_ ?_)|split|dsimp only
   | float k =>
    repeat' first|contradiction|exact qD|(with_reducible refine pD ?_)|(refine j9 ?_ ?_)|(intro _)|(refine D9 ?_ ?_)|split|dsimp only
   | string =>
    repeat' first|contradiction|exact qD|(with_reducible refine pD ?_)|(refine j9 ?_ ?_)|(intro _)|(refine D9 ?_ ?_)|split|dsimp only
   | struct j =>
    have a:∀b,mO j=mO b->∀f:Field,f∈b->∀x y,TT P W (dq d f.type x y):=λb e f l x y=>by cases e;exact FN n f.type (by simp only[cR]at h;exact h f l) d x y
    repeat' first|contradiction|exact qD|(with_reducible refine pD ?_)|exact a _ (by assumption) _ (by assumption) _ _|(refine Wo ?_)|(refine j9 ?_ ?_)|(intro _)|(refine D9 ?_ ?_)|split|dsimp only
   | array m e =>
    have a:∀g c,mZ m e=mZ g c->∀x y,TT P W (dq d c x y):=λg c o x y=>by cases o;exact FN n e h d x y
    repeat' first|contradiction|exact qD|(with_reducible refine pD ?_)|exact a _ _ (by assumption) _ _|(refine Lw ?_)|(refine j9 ?_ ?_)|(intro _)|(refine D9 ?_ ?_)|split|dsimp only
   | _=>cases h
theorem b8A(t e:Ti)(h:P.underlying t=J (.pointer e)):TT P W (dq a t y (Po Q)):=by
 cases a with
 | zero=>exact j0 _
 | succ a =>
  unfold dq;refine HS λu b=>?_;rw[h]at b;cases Ze b
  cases y with
  | pointer c=>cases c<;>exact trivial
  | _=>exact B8
theorem sV(h:L:=by with_reducible first|exact CH|exact te|exact B8|exact j0 _|exact ym|exact xf|exact S9|exact Q8|exact wQ|exact p5|exact xZ|exact yA|exact Il|exact CW|exact vX|exact Cb|exact MS|fail):L:=h
theorem Bt{k:fB}:TT P W (lK S k a b):=by
 unfold lK
 repeat' first|(with_reducible first|exact sV|(refine pD ?_)|exact KJ _ _)|exact j0 _|(refine j9 ?_ ?_)|(intro _)|(refine D9 ?_ ?_)|split|dsimp only
theorem KU{k:fB}(a b:Nat):TT P W (mE S k a b):=by
 unfold mE
 repeat' first|(with_reducible first|exact sV|(refine pD ?_)|exact I4 _ _)|exact j0 _|(refine j9 ?_ ?_)|(intro _)|(refine D9 ?_ ?_)|split|dsimp only
theorem b0k{k:fB}{b:fB}:TT P W (nP k a b):=by
 unfold nP
 repeat' first|(with_reducible first|exact sV|(refine pD ?_))|exact j0 _|(refine j9 ?_ ?_)|(intro _)|(refine D9 ?_ ?_)|split|dsimp only
theorem c8G{k:fB}{b:fB}:TT P W (lR k a b):=by
 unfold lR
 repeat' first|(with_reducible first|exact sV|(refine pD ?_)|exact b0k)|exact j0 _|(refine j9 ?_ ?_)|(intro _)|(refine D9 ?_ ?_)|split|dsimp only
theorem GF(a b:Nat):TT P W (Op.Complex.add a b):=Bt
theorem Fj(a b:Nat):TT P W (Op.Complex.sub a b):=Bt
theorem HQ(a b:Nat):TT P W (Op.Complex.mul a b):=Bt
theorem HC(a b:Nat):TT P W (Op.Complex.quo a b):=Bt
theorem Vd(a b c d:Nat):TT P W (kQ a b c d):=by
 unfold kQ
 repeat' first|(with_reducible first|exact sV|(refine pD ?_)|exact GF _ _|exact Fj _ _|exact HQ _ _|exact HC _ _)|exact j0 _|(refine j9 ?_ ?_)|(intro _)|(refine D9 ?_ ?_)|split|dsimp only
theorem b3X(s a b c d:Nat):TT P W (kj s a b c d):=by
 unfold kj
 repeat' first|(with_reducible first|exact sV|(refine pD ?_)|exact GF _ _|exact Fj _ _|exact HQ _ _|exact HC _ _)|exact j0 _|(refine j9 ?_ ?_)|(intro _)|(refine D9 ?_ ?_)|split|dsimp only
theorem Wa(a b c d:Nat):TT P W (kG a b c d):=by
 unfold kG
 repeat' first|(with_reducible first|exact sV|(refine pD ?_)|exact GF _ _|exact Fj _ _|exact HQ _ _|exact HC _ _|exact KU _ _|exact b3X _ _ _ _ _)|exact j0 _|(refine j9 ?_ ?_)|(intro _)|(refine D9 ?_ ?_)|split|dsimp only
theorem VP{k:fB}(a b c d:Nat):TT P W (Op.complexOp S k a b c d):=by
 unfold Op.complexOp
 repeat' first|(with_reducible first|exact sV|(refine pD ?_)|exact Bt|exact KU _ _|exact c8G|exact Vd _ _ _ _|exact Wa _ _ _ _)|exact j0 _|(refine j9 ?_ ?_)|(intro _)|(refine D9 ?_ ?_)|split|dsimp only
theorem Xa(x y:Vu)(h:∀x,S=.eql\/S=.neq->TT P W (dq Op.maxDepth n x y)):TT P W (binOp S n x y):=by
 have a:∀x,S=.eql->TT P W (Op.equal n x y):=λx e=>h x (.inl e);have b:∀x,S=.neq->TT P W (Op.equal n x y):=λx e=>h x (.inr e);unfold binOp
 repeat' first|(with_reducible first|exact sV|(refine pD ?_)|exact UE|exact PG _ _|exact c6m _ _|exact OV _ _|exact SR _ _|exact KJ _ _|exact I4 _ _|exact VP _ _ _ _|exact WI _ _|exact a _ Z|exact b _ Z|exact Qu _ _|exact Yd _ _|exact FP|exact Uf _ _|exact c2r _ _|exact c2s)|exact j0 _|(refine j9 ?_ ?_)|(intro _)|(refine D9 ?_ ?_)|split|dsimp only
theorem GG{x:Place}:TT P W (x.get n):=by
 cases x with
 | val v=>exact trivial
 | var a=>exact Cb
theorem Lu:∀(l:List FieldStep) (t:Ti) (x:Place),TT P W (follow l t x)
 | [],_,_=>trivial
 | s::rest,t,x=>by
  unfold follow
  repeat' first|(with_reducible first|exact sV|(refine pD ?_)|exact GG|exact Lu rest _ _|exact Pc|exact DR)|exact j0 _|(refine j9 ?_ ?_)|(intro _)|(refine D9 ?_ ?_)|split|dsimp only
theorem VW{b:Array Ti}:TT P W (kJ b n I):=by
 unfold kJ;rcases I with⟨_|⟨x,_|⟨y,_|⟨z,_|⟨u,l⟩⟩⟩⟩⟩<;>first|exact B8|skip
 cases y<;>first|exact B8|skip
 cases z<;>first|exact B8|skip
 cases x<;>first|exact B8|skip
 rename_i a
 cases a with
 | some a=>exact te
 | none =>
 refine j9 (vX) λc=>?_
 repeat' first|(with_reducible first|exact sV|(refine pD ?_))|exact j0 _|(refine j9 ?_ ?_)|(intro _)|(refine D9 ?_ ?_)|split|dsimp only
theorem UH{x:Place}{a:Option String}:TT P W (receiverAt n x p a):=by
 unfold receiverAt
 repeat' first|(with_reducible first|exact sV|(refine pD ?_)|exact GG|exact VW)|exact j0 _|(refine j9 ?_ ?_)|(intro _)|(refine D9 ?_ ?_)|split|dsimp only
def AY(P:Pg)(C:bF->Prop)(a:String):Prop :=
 ∀t i m f b,P.info? t=J i->i.methods.find? (·.name==a)=J m->m.func=J (f,b)->C f
theorem On{C:bF->Prop}{a:String}(h:AY P C a):∀(n:Nat) (t:Ti) (v:Vu),G8 P W (λr=>C r.1) (kY n t v a)
 | 0,_,_=>j0 _
 | n+1,t,v=>by
  unfold kY;refine d0e λi c=>?_;split
  .rename_i m d;refine j9 (Lu _ _ _) λr=>?_;split
   split
   .refine j9 (GG) λy=>?_;split
    .exact On h n _ _
    .exact p5
    .exact B8
   .rename_i f b e;exact zQ (UH) λ_ _=>h t i m f b c d e
  .exact B8
def u0(S:bF->Prop):Next->Prop
 | .value _=>True
 | .skip=>True
 | .enter f _=>S f
 | _=>False
def wT(P:Pg)(S:bF->Prop)(f:bF):Prop :=
 ∃a,P.funcs[f]?=J a/\(a.name== "runtime.NumGoroutine")=false /\
  ((a.body.isNone=false/\S f)\/(a.body.isNone=true/\nN a=Q/\Extern.find a=Q/\(a.name.endsWith ".init"&&!a.name.startsWith "("&&!a.name.startsWith "gosem.")=false))
theorem OW{S:bF->Prop}{f:bF}(h:wT P S f):G8 P W (u0 S) (callFunc f I):=by
 let⟨c,d,e,h⟩:=h
 show G8 P W (u0 S) (match P.funcs[f]? with
  | none=>stuck "call: no such function"
  | some c=>_)
 rw[d];dsimp only;rw[e];simp only[aJ,if_false];rcases h with⟨a,b⟩|⟨a,b,g,i⟩
 .rw[a];simp only[aJ,if_false];exact b
 .rw[a];simp only[if_true];refine⟨by simp,by simp,?_⟩;rw[b,g];dsimp only;rw[i];exact j0 _
theorem Ys{S:bF->Prop}{a:String}(h:AY P (wT P S) a):G8 P W (u0 S) (callMethod y a I):=by
 unfold callMethod;split
 .exact Vq (zQ (On h _ _ _) λr b=>OW b)
 .exact p5
 .exact B8
theorem Ob:∀(l:List FieldStep) (t:Ti) (x:Option Vu),TT P W (followBlind l t x)
 | [],_,_=>trivial
 | s::rest,t,x=>by
  unfold followBlind
  repeat' first|(with_reducible first|exact sV|(refine pD ?_)|exact Ob rest _ _|exact DR)|exact j0 _|(refine j9 ?_ ?_)|(intro _)|(refine D9 ?_ ?_)|split|dsimp only
theorem Oc:∀(n:Nat) (t:Ti) (v:Vu) (a:String),TT P W (nilAhead n t v a)
 | 0,_,_,_=>trivial
 | n+1,t,v,a=>by
  unfold nilAhead
  repeat' first|(with_reducible first|exact sV|(refine pD ?_)|exact Ob _ _ _|exact Oc n _ _ _)|exact j0 _|(refine j9 ?_ ?_)|(intro _)|(refine D9 ?_ ?_)|split|dsimp only
theorem TB(t e:Ti)(h:P.underlying t=J (.slice e)):TT P W (dq a t y (Sc Q 0 0)):=by
 cases a with
 | zero=>exact j0 _
 | succ a =>
  unfold dq;refine HS λu b=>?_;rw[h]at b;cases Ze b
  cases y with
  | slice c _ _=>cases c<;>exact trivial
  | _=>exact B8
def qG(P:Pg)(S:bF->Bool)(c:List String)(a:Bool)(o:Op):Bool :=
 match o with
 | .alloc _|.store _ _ _=>a
 | .move _|.assign _|.pick _ _ _|.box _ _|.build _ _|.buildSlice _ _ _|.load _ _|.makeChan _ _|.unOp _ _ _|.makeInterface _ _|.makeSlice _ _ _|.slice _ _ _ _ _|.fieldAddr _ _ _|.field _ _ _|.indexAddr _ _ _|.index _ _ _|.typeAssert _ _ _ _|.extract _ _|.nilCheck _=>true
 | .binOp d t _ y _=>(match d with|.eql|.neq=>false|_=>true)||BQ P 10 t||((match P.underlying t with|some (.pointer _)=>true|_=>false)&&(match y with|.const (.pointer none)=>true|_=>false))||((match P.underlying t with|some (.slice _)=>true|_=>false)&&(match y with|.const (.slice none 0 0)=>true|_=>false))
 | .call { callee:=.builtin b,.. }=>(match b with|.len|.cap=>true|.append|.copy=>a|_=>false)
 | .call { callee:=.invoke _ m,.. }=>c.contains m
 | .call { callee:=.value (.func f),.. }=>S f
 | _=>false
theorem qX{a:bF->Prop}{s:gG Vu}(h:TT P W s):G8 P W (u0 a) (do pure (.value (←s))):=zQ h λ_ _=>trivial
theorem d0g{a:bF->Prop}{s:gG Unit}(h:TT P W s):G8 P W (u0 a) (do s;pure .skip):=zQ h λ_ _=>trivial
theorem Dd{S:bF->Bool}{meths:List String}{st:Bool}(j:st=true->W)(s:∀f,S f=true->wT P (λf=>S f=true) f)(z:∀m∈meths,AY P (wT P λf=>S f=true) m){ρ:aU->Vu}(q:∀v,ρ (.const v)=v)(A:∀f,ρ (.func f)=.func (.func f) #[] #[])(o:aN)(h:qG P S meths st o.op=true):G8 P W (u0 λf=>S f=true) (Ex ρ o):=by
 unfold Ex;cases e:o.op<;>rw[e]at h<;>first|cases h|dsimp only
 case move x=>exact trivial
 case assign x=>exact trivial
 case pick c a b=>exact j9 (Il) λ_=>trivial
 case alloc t=>exact qX (QO (j Z))
 case box t x=>exact qX (Wm)
 case build t ps=>exact qX (WZ)
 case buildSlice t n ps=>exact qX (Uw)
 case load t a=>exact qX (XH)
 case store t a x=>exact d0g (c2A (j Z) _ _)
 case makeChan t x=>exact qX (Y3)
 case nilCheck x =>
  dsimp only;split
  .exact p5
  .exact p5
  .exact p5
  .split
   .exact p5
   .refine j9 xf λp=>j9 (Oc _ _ _ _) λb=>?_;split
    .exact j0 _
    .exact trivial
   .exact trivial
  .exact trivial
 case binOp op t x y u =>
  refine qX (j9 (VG _ _ _ _) λ_=>Xa _ _ λI B=>?_);unfold qG at h;dsimp only at h;rw[da,da,da,aC,aC]at h;rcases h with((h|h)|⟨d,g⟩)|⟨d,g⟩
  .rcases B with rfl|rfl<;>cases h
  .exact FN 10 t h _ _ _
  .split at d
   .rename_i C k;split at g
    .rw[q];exact b8A _ _ k
    .cases g
   .cases d
  .split at d
   .rename_i C k;split at g
    .rw[q];exact TB _ _ k
    .cases g
   .cases d
 case unOp op t x=>exact qX (c8N)
 case makeInterface t x=>exact qX (a8b)
 case makeSlice t l c=>exact qX (b6s _ _)
 case slice t x a b c=>exact qX (c2z _ _ _)
 case fieldAddr t x i=>exact qX (c2w)
 case field t x i=>exact qX (Vv)
 case indexAddr t x i=>exact qX (XW _ _)
 case index t x i=>exact qX (Sp _ _)
 case typeAssert x t u b=>exact qX (RX _ _)
 case extract x i=>exact qX (c2v)
 case call c =>
  let⟨D,E,F⟩:=c
  cases D with
  | builtin b =>
   show G8 P W _ (builtin b F o.type _ _);cases b<;>first|cases h|skip
   .exact qX (Rw (j Z))
   .exact qX (ZM)
   .exact qX (d0d (j Z))
   .exact qX (d0S)
  | invoke r m =>
   have H:m∈meths:=by simpa[qG] using h
   show G8 P W _ (invoke (.fn (.method m) #[]) (#[ρ r]++E.map ρ));unfold invoke;dsimp only;split
   .exact Ys (z m H)
   .exact B8
  | value f =>
   cases f with
   | func f =>
    show G8 P W _ (lQ (ρ (.func f)) _ >>= _);rw[A];exact OW (s f h)
   | _=>cases h
variable{S:bF->Bool}{meths:List String}{st:Bool}
def Z4(P:Pg)(S:bF->Bool)(meths:List String)(st:Bool):jx->Bool
 | .skip|.exit _|.ret|.label _=>true
 | .region _ c _=>c.all λo=>qG P S meths st o.op
 | .seq a b=>Z4 P S meths st a&&Z4 P S meths st b
 | .cond _ a b=>Z4 P S meths st a&&Z4 P S meths st b
 | .block _ a=>Z4 P S meths st a
 | .loop a=>Z4 P S meths st a
 | _=>false
def vY(P:Pg)(S:bF->Bool)(meths:List String)(st:Bool):bm->Prop
 | .code c=>Z4 P S meths st c=true
 | .inBlock _=>True
 | .inLoop c=>Z4 P S meths st c=true
 | .inRegion a _=>(a.all λo=>qG P S meths st o.op)=true
 | _=>False
structure qm (P:Pg) (S:bF->Bool) (meths:List String) (st:Bool):Prop where
 body:∀f,S f=true->∃fn c,P.funcs[f]?=J fn/\(fn.name== "runtime.NumGoroutine")=false/\fn.body=J c/\Z4 P S meths st c=true
 Gz:∀m∈meths,AY P (wT P (λf=>S f=true)) m
theorem qm.call(h:qm P S meths st)(f:bF)(a:S f=true):wT P (λf=>S f=true) f:=by
 let⟨b,c,d,e,g,_⟩:=h.body f a;exact⟨b,d,e,.inl ⟨by rw[g];rfl,a⟩⟩
structure qP (P:Pg) (S:bF->Bool) (meths:List String) (st:Bool) (fr:Fm'):Prop where
 kind:fr.kind=.normal
 round:fr.roundOf=Q
 defers:fr.defers=[]
 fn:∃fn,P.funcs[fr.fn]?=J fn
 todo:∀x∈fr.todo,vY P S meths st x
theorem qP.enter(h:qm P S meths st){f:bF}(d:S f=true)(e:Array Vu):qP P S meths st (ay P f e .normal):=by
 let⟨g,c,a,_,i,j⟩:=h.body f d;refine⟨Z,Z,Z,⟨g,a⟩,λx b=>?_⟩;simp only[ay,a,Option.bind_some,i,cW,ae,ai,or_false]at b;subst b;exact j
theorem qP.raise(h:qP P S meths st A)(a:List PanicEntry):qP P S meths st (A.raise a):=by
 unfold Frame.raise;split<;>exact⟨h.kind,h.round,h.defers,h.fn,h.todo⟩
theorem qP.finish(h:qP P S meths st A)(v:Vu):qP P S meths st (A.finish v):=by
 have a:=h.todo;unfold Frame.finish;split
 .rename_i c i d k e;rw[e]at a;refine⟨h.kind,h.round,h.defers,h.fn,λx b=>?_⟩;rcases ae.1 b with rfl|b
  .exact a (.inRegion c (i::d)) (ao ..)
  grind
 .rename_i e;rw[e]at a;exact(a _ (ao ..)).elim
 .rename_i e;rw[e]at a;exact(a _ (ao ..)).elim
 .rename_i e;rw[e]at a;exact(a _ (ao ..)).elim
 .rename_i e;rw[e]at a;exact(a _ (ao ..)).elim
 .exact h
def _root_.Go.GStep.wd:GStep->Nat
 | .go _ w _=>w.drawn
 | .ended _ w _=>w.drawn
 | _=>0
theorem Be(a:Array dr)(s:GStep):(fj a s).wd=s.wd:=by cases s<;>rfl
theorem zJ{b:bF}{e:dr}(h:e∈seen P b N):e∈N:=by
 have c:∀(l:List dr) (x:Bool×Array dr),e∈(l.foldl (λ(x:Bool×Array dr) e =>
   match e.loc with
   | .mark (.extern f)=>((P.funcs[f]?).any (·.norace),x.2)
   | _=>(x.1,if x.1&&!e.sync then x.2 else x.2.push e)) x).2->e∈x.2\/e∈l:=by
  intro l
  induction l with
  | nil=>grind
  | cons a l d =>
   grind
 dsimp only[seen]at h;rw[←Array.foldl_toList]at h;rcases c N.toList _ h with h|h
 all_goals grind
structure tC (st:Bool) (sft:Nat->Nat) (v v' w w':Wd) (es:Array dr):Prop where
 lk:Lk sft v' w'
 kept:oP sft w w'
 off:∀e∈es,uD sft (st=true) w'.heap.size e
 drew:∃c,qH c v v' w w'
theorem tC.still{v w:Wd}(h:Lk sft v w):tC st sft v v w w #[]:=⟨h,.refl _ _,λe a=>by simp at a,0,.zero _ _⟩
theorem Z8{w:Wd}{q:im}(h:(nI q).run P w=.ok a i):w.drawn<=i.drawn:=by
 simp only[nI,Sem.run]at h
 grind
theorem SA{w:Wd}{q:im}{x:Halt}(h:(nI q).run P w=.halt x i):w.drawn<=i.drawn:=by
 simp only[nI,Sem.run]at h
 grind
theorem SM{c:List Fm'}{d:Option Dying}{w:Wd}:w.drawn<=(early P A c d a w).wd:=by
 unfold early;dsimp only
 repeat' split
 all_goals first
  | exact af _
  | (simp only[GStep.wd];exact Z8 (P:=P) (by assumption:(nI (.early a)).run P w=.ok _ _))
  | (simp only[GStep.wd];rename_i b;exact Z8 (P:=P) b)
  | (simp only[GStep.wd];rename_i b;exact SA (P:=P) b)
  | (simp only[GStep.wd];rename_i b _;exact Z8 (P:=P) b)
  | (simp only[GStep.wd];rename_i b _ _;exact Z8 (P:=P) b)
  | (simp only[GStep.wd];rename_i b _ _ _;exact Z8 (P:=P) b)
  | (simp only[GStep.wd];rename_i b _ _ _ _;exact Z8 (P:=P) b)
open Go.Conc (G)
def _root_.Go.Frame.app(a:Fm')(k:List bm):Frame:={ a with todo:=a.todo++k }
theorem VA(hF:qP P S meths st A){s:gG Next}(C:G8 P (st=true) (u0 λf=>S f=true) s){v w:Wd}(L:Lk sft v w)(N:Ab a v w){cs cs':List Fm'}{kk kk':List bm}(D:(dj P true (A.app kk) cs Q s w).wd<=w.drawn+a){l:List Nat}{k:List bm}(R:A.todo=.inRegion F l::k) :
    (∃o b j,dj P true (A.app kk') cs' Q s v=.ended o b j)\/∃b d j,tC st sft v b w d j /\
      ((∃x,dj P true (A.app kk') cs' Q s v=.go (G ((A.app kk').finish x) cs') b j/\dj P true (A.app kk) cs Q s w=.go (G ((A.app kk).finish x) cs) d j) \/
       (∃f q,S f=true/\dj P true (A.app kk') cs' Q s v=.go (G (ay P f q .normal) (A.app kk'::cs')) b j/\dj P true (A.app kk) cs Q s w=.go (G (ay P f q .normal) (A.app kk::cs)) d j) \/
       (∃E,dj P true (A.app kk') cs' Q s v=.go (G ((A.app kk').raise E) cs') b j/\dj P true (A.app kk) cs Q s w=.go (G ((A.app kk).raise E) cs) d j)):=by
  let⟨y,b',T,c',d',H,e'⟩:=A;obtain rfl:T=.inRegion F l::k:=R;dsimp only[Frame.app,cy]at D ⊢;have M:(H==CallKind.early)=false:=by rw[show H=.normal from hF.kind];rfl
  have X:(s.runT P w #[]).1.world.drawn<=w.drawn+a:=by
    revert D;unfold dj;rcases Ld P s (st=true) w #[] C with⟨z,d,i,e,t⟩|⟨x,d,i,e⟩|⟨x,d,i,e,p⟩
    . simp only[if_true,e,Be]
      cases z<;>first|exact t.elim|exact id
    . simp only[if_true,e,Be]
      exact id
    . simp only[if_true,e,Be]
      rcases p with p|⟨g,rfl⟩
      . cases x with
        | unsupported u=>cases u<;>first|exact p.elim|exact id
        | _=>first|exact p.elim|exact id
      . exact λh=>Zh SM h
  have B:=DX P s (st=true) (v:=v) (w:=w) #[] a C L N X;unfold dj;simp only[if_true,M,aJ,if_false];revert B;generalize s.runT P v #[]=rv;generalize s.runT P w #[]=f';intro B;have I:∀ {i:Array dr} {n:Nat},qR sft (st=true) n #[] i->∀e∈seen P y i++#[],uD sft (st=true) n e:=λa' e K=>by
    rw[mV]at K;rcases a' e (zJ K) with h|h
    all_goals grind
  cases B with
  | @ok z b d i c t h1 h2 h3 h4 =>
    refine .inr ⟨b,d,seen P y i++#[],⟨h1,h2,I h3,c,h4⟩,?_⟩
    cases z with
    | value x=>exact .inl ⟨x,Z,Z⟩
    | skip=>exact .inl ⟨Ud,Z,Z⟩
    | enter f q=>exact .inr (.inl ⟨f,q,t,Z,Z⟩)
    | _=>exact t.elim
  | @panic x b d i c h1 h2 h3 h4 =>
    exact .inr ⟨b,d,seen P y i++#[],⟨h1,h2,I h3,c,h4⟩,.inr (.inr ⟨_,Z,Z⟩)⟩
  | @lost x b i r p =>
    refine .inl ?_
    cases x with
    | unsupported u=>cases u<;>first|exact p.elim|exact⟨_,_,_,Z⟩
    | stuck m=>exact⟨_,_,_,Z⟩
    | _=>exact p.elim
open Go.Conc (G)
theorem HT(a:mR)(b:Array Vu):TT P (st=true) (di a b):=by
 unfold di;refine j9 (LC λr=>?_) λ_=>trivial;split
 .exact trivial
 .exact j9 (CW) λ_=>Cb
theorem wM(a:Fm'):a.app []=a:=by cases a;simp[Frame.app]
theorem Jd(a:Fm')(k:List bm):(a.app k).eval=a.eval:=by funext x;cases x<;>rfl
theorem DF(g:Fm')(k:List bm)(h:List PanicEntry):(g.app k).raise h=(g.raise h).app k:=by
 cases g with|mk a b c d m e f=>cases m<;>rfl
def Ez(a:Fm'):Prop:=∃b i c t,a.todo=.inRegion b (i::c)::t
theorem yP(h:Ez A)(k:List bm)(x:Vu):(A.app k).finish x=(A.finish x).app k:=by
 let⟨g,i,j,t,h⟩:=h
 cases A with
 | mk a b c d m e f =>
  obtain rfl:c=_:=h;rfl
theorem FU{id:Nat}:∀ {k a:List bm},(∀x∈k,vY P S meths st x)->fN id k=J a->∀x∈a,vY P S meths st x
 | [],_,_,h=>by cases h
 | y::k,a,hk,h=>by
  have b:∀x∈k,vY P S meths st x:=λx c=>hk x (ah _ c)
  cases y with
  | inBlock d =>
   unfold fN at h;split at h
   .grind
   .exact FU b h
  | _=>exact FU b h
theorem EM{id:Nat}{b:List bm}:∀ {k a:List bm},fN id k=J a->fN id (k++b)=J (a++b)
 | [],_,h=>by cases h
 | y::k,a,h=>by
  cases y with
  | inBlock c =>
   unfold fN at h;simp only[cy,fN];split at h
   .grind
   .rename_i e;simp only[e,if_false];exact EM h
  | _=>exact EM (k:=k) h
theorem Hw{id:Nat}{b:List bm}(a:fN id b=Q):∀ {k:List bm},fN id k=Q->fN id (k++b)=Q
 | [],_=>a
 | y::k,h=>by
  cases y with
  | inBlock c =>
   unfold fN at h;simp only[cy,fN];split at h
   .cases h
   .rename_i e;simp only[e,if_false];exact Hw a h
  | _=>exact Hw a (k:=k) h
def Lz(P:Pg)(S:bF->Bool)(meths:List String)(st:Bool)(sft:Nat->Nat)(c:Fm')(f g:List bm)(h i:List Fm')(v w:Wd)(s j:GStep):Prop :=
 ∃a d e b,tC st sft v d w e b/\qP P S meths st a /\
  ((j=.go (G (a.app g) i) d b/\s=.go (G (a.app f) h) e b)\/(Ez c/\j=.go (G a (c.app g::i)) d b/\s=.go (G a (c.app f::h)) e b))
theorem sR{b c:List bm}{d e:List Fm'}{v w:Wd}(f:Lk sft v w){s a:GStep}{fr':Fm'}(g:qP P S meths st fr')(h:s=.go (G (fr'.app b) d) w #[])(i:a=.go (G (fr'.app c) e) v #[]) :
  (∃o j k,a=.ended o j k)\/Lz P S meths st sft A b c d e v w s a :=
 .inr ⟨fr',v,w,#[],.still f,g,.inl ⟨i,h⟩⟩
theorem Pn(R:qm P S meths st)(hF:qP P S meths st A){kk kk':List bm}{cs cs':List Fm'}(hm:A.mode=.run)(c':A.todo≠[]\/kk=[]/\kk'=[])(i':∀id,fN id kk'=Q){v w:Wd}(q:Lk sft v w)(hw:Ab a v w){main main':Bool}(L:(bH P main (G (A.app kk) cs) w).wd<=w.drawn+a) :
  (∃o D E,bH P main' (G (A.app kk') cs') v=.ended o D E)\/Lz P S meths st sft A kk kk' cs cs' v w (bH P main (G (A.app kk) cs) w) (bH P main' (G (A.app kk') cs') v):=by
 have N:=hF;let⟨f,n,j',p',q',r',s'⟩:=A;let⟨d',f',g',⟨X,T⟩,F⟩:=hF;dsimp only at d' f' g' T F hm c';subst d' f' g' hm
 cases j' with
 | nil =>
  obtain⟨rfl,rfl⟩:kk=[]/\kk'=[]:=c'.elim (λh=>absurd Z h) id;exact sR q (fr':={ fn:=f,tmps:=n,todo:=[],defers:=[],mode:=.returning,kind:=.normal }) ⟨Z,Z,Z,⟨X,T⟩,F⟩ Z Z
 | cons x k =>
  have s:=F x (ao ..);have z:∀y∈k,vY P S meths st y:=λy j=>F y (ah _ j);have mk:∀ {todo':List bm},(∀y∈todo',vY P S meths st y)->qP P S meths st { fn:=f,tmps:=n,todo:=todo',defers:=[],mode:=.run,kind:=.normal }:=λh=>⟨Z,Z,Z,⟨X,T⟩,h⟩
  cases x with
  | code c =>
   cases c with
   | skip=>exact sR q (mk z) Z Z
   | label l=>exact sR q (mk z) Z Z
   | ret=>exact sR q (fr':={ fn:=f,tmps:=n,todo:=.code .ret::k,defers:=[],mode:=.returning,kind:=.normal }) ⟨Z,Z,Z,⟨X,T⟩,F⟩ Z Z
   | seq p b =>
    have H:Z4 P S meths st p=true/\Z4 P S meths st b=true:=by simpa[vY,Z4] using s
    refine sR q (mk (todo':=.code p::.code b::k) λy j=>?_) Z Z;rcases ae.1 j with rfl|j
    .exact H.1
    .rcases ae.1 j with rfl|j
     .exact H.2
     .exact z y j
   | block id p =>
    refine sR q (mk (todo':=.code p::.inBlock id::k) λy j=>?_) Z Z;rcases ae.1 j with rfl|j
    .exact s
    .rcases ae.1 j with rfl|j
     .exact trivial
     .exact z y j
   | loop p =>
    refine sR q (mk (todo':=.code p::.inLoop p::k) λy j=>?_) Z Z;rcases ae.1 j with rfl|j
    .exact s
    .rcases ae.1 j with rfl|j
     .exact s
     .exact z y j
   | cond c p b =>
    have H:Z4 P S meths st p=true/\Z4 P S meths st b=true:=by simpa[vY,Z4] using s
    cases e:gQ { fn:=f,tmps:=n,todo:=.code (.cond c p b)::k,defers:=[],mode:=.run,kind:=.normal } c with
    | bool t =>
     refine sR q (mk (todo':=.code (if t then p else b)::k) λy j=>?_) (by
      have B:gQ { fn:=f,tmps:=n,todo:=.code (.cond c p b)::(k++kk),defers:=[],mode:=.run,kind:=.normal } c=Bo t:=e;simp only[bH,G,eA,Frame.app,cy,B]) (by
      have B:gQ { fn:=f,tmps:=n,todo:=.code (.cond c p b)::(k++kk'),defers:=[],mode:=.run,kind:=.normal } c=Bo t:=e
      simp only[bH,G,eA,Frame.app,cy,B])
     rcases ae.1 j with rfl|j
     .cases t
      .exact H.2
      .exact H.1
     .exact z y j
    | _ =>
     refine .inl ⟨.stuck "cond: bool expected" (jw P (Frame.app { fn:=f,tmps:=n,todo:=.code (.cond c p b)::k,defers:=[],mode:=.run,kind:=.normal } kk')),v,#[],?_⟩;have B:=(congrFun (Jd { fn:=f,tmps:=n,todo:=.code (.cond c p b)::k,defers:=[],mode:=.run,kind:=.normal } kk') c).trans e;simp only[Frame.app,cy]at B;simp only[bH,G,eA,Frame.app,cy,B]
   | exit id =>
    cases e:fN id k with
    | none=>exact .inl ⟨_,_,_,by simp only[bH,G,eA,Frame.app,cy,Hw (i' id) e,Option.elim_none];rfl⟩
    | some k'=>exact sR q (mk (FU z e)) (by simp only[bH,G,eA,Frame.app,cy,EM e,nj]) (by simp only[bH,G,eA,Frame.app,cy,EM e,nj])
   | region id r l' =>
    have h':∀l,∀y∈Item.inRegion r l::k,vY P S meths st y:=λl y j=>by
     rcases ae.1 j with rfl|j
     .exact s
     .exact z y j
    cases l' with
    | false=>exact sR q (mk (h' _)) Z Z
    | true =>
     have M:∀(m:Bool) (cs:List Fm') (u:Wd) (k:List bm),bH P m (G { fn:=f,tmps:=n,todo:=.code (.region id r true)::k,defers:=[],mode:=.run,kind:=.normal } cs) u =
       .go (G { fn:=f,tmps:=n,todo:=.inRegion r (fg (P.follows .mixedOrders) r (u.tape u.drawn (.order f id)))::k,defers:=[],mode:=.run,kind:=.normal } cs) { u with drawn:=u.drawn+1 } #[]:=λm cs u k=>rfl
     have C:bH P main (G (Frame.app { fn:=f,tmps:=n,todo:=.code (.region id r true)::k,defers:=[],mode:=.run,kind:=.normal } kk) cs) w=_:=M main cs w (k++kk);rw[C]at L;have m':0<a:=by
      have:w.drawn+1<=w.drawn+a:=L;omega
     have et:v.tape v.drawn (.order f id)=w.tape w.drawn (.order f id):=hw 0 _ m';exact .inr ⟨_,{ v with drawn:=v.drawn+1 },{ w with drawn:=w.drawn+1 },#[],⟨⟨q.heap,q.soft,q.oc,q.os,q.output⟩,(.of_heap _ Z),λe he=>by simp at he,1,⟨Z,Z,Z,Z,Z,Z⟩⟩,mk (h' _),.inl ⟨M main' cs' v (k++kk'),by rw[C,et];rfl⟩⟩
   | rangeFunc p b c d=>cases s
   | scope p=>cases s
   | goto l=>cases s
   | refuse m=>cases s
  | inBlock id=>exact sR q (mk z) Z Z
  | inLoop p =>
   refine sR q (mk (todo':=.code p::.inLoop p::k) λy j=>?_) Z Z;rcases ae.1 j with rfl|j
   .exact s
   grind
  | inRegion r l =>
   cases l with
   | nil=>exact sR q (mk z) Z Z
   | cons i l =>
    cases e:((r[i]?).map (bR · (fA r n))).getD false with
    | false =>
     refine sR q (fr':=Frame.finish { fn:=f,tmps:=n,todo:=.inRegion r (i::l)::k,defers:=[],mode:=.run,kind:=.normal } Ud) (N.finish _) ?_ ?_
     .rw[←yP ⟨_,_,_,_,Z⟩];simp only[bH,G,eA,Frame.app,cy,e,aJ,if_false]
     .rw[←yP ⟨_,_,_,_,Z⟩];simp only[bH,G,eA,Frame.app,cy,e,aJ,if_false]
    | true =>
     cases ho:r[i]? with
     | none=>grind
     | some o =>
      have M:∀(m:Bool) (cs:List Fm') (u:Wd) (k:List bm),bH P m (G { fn:=f,tmps:=n,todo:=.inRegion r (i::l)::k,defers:=[],mode:=.run,kind:=.normal } cs) u =
        dj P true { fn:=f,tmps:=n,todo:=.inRegion r (i::l)::k,defers:=[],mode:=.run,kind:=.normal } cs Q (Ex (gQ { fn:=f,tmps:=n,todo:=.inRegion r (i::l)::k,defers:=[],mode:=.run,kind:=.normal }) o) u:=λm cs u k=>by
       have B:=e;rw[ho]at B;simp only[bH,G,eA,stepG.oper,Frame.oper?,ho,B,if_true]
      have C:∀(m:Bool) (cs:List Fm') (u:Wd) (kk:List bm),bH P m (G (Frame.app { fn:=f,tmps:=n,todo:=.inRegion r (i::l)::k,defers:=[],mode:=.run,kind:=.normal } kk) cs) u =
        dj P true (Frame.app { fn:=f,tmps:=n,todo:=.inRegion r (i::l)::k,defers:=[],mode:=.run,kind:=.normal } kk) cs Q (Ex (gQ { fn:=f,tmps:=n,todo:=.inRegion r (i::l)::k,defers:=[],mode:=.run,kind:=.normal }) o) u:=λm cs u kk=>by
       rw[←Jd _ kk];exact M m cs u (k++kk)
      rw[C]at L;have n':qG P S meths st o.op=true:=by
       have:r.all (λo=>qG P S meths st o.op)=true:=s
       grind
      have ht:=Dd (P:=P) (st:=st) id R.call R.Gz (ρ:=gQ { fn:=f,tmps:=n,todo:=.inRegion r (i::l)::k,defers:=[],mode:=.run,kind:=.normal }) (λ_=>rfl) (λ_=>rfl) o n';have hs:Ez { fn:=f,tmps:=n,todo:=.inRegion r (i::l)::k,defers:=[],mode:=.run,kind:=.normal }:=⟨_,_,_,_,Z⟩;rw[C,C];rcases VA (cs:=cs) (cs':=cs') (kk:=kk) (kk':=kk') N ht q hw L rfl with⟨p,b,c,h⟩|⟨D,w',E,hb,⟨x,I,K⟩|⟨g,o',hg,I,K⟩|⟨ch,I,K⟩⟩
      .grind
      .exact .inr ⟨_,D,w',E,hb,N.finish x,.inl ⟨by rw[I,yP hs],by rw[K,yP hs]⟩⟩
      .exact .inr ⟨_,D,w',E,hb,.enter R hg o',.inr ⟨hs,I,K⟩⟩
      .exact .inr ⟨_,D,w',E,hb,N.raise ch,.inl ⟨by rw[I,DF],by rw[K,DF]⟩⟩
  | _=>exact s.elim
structure yy (P:Pg) (fr:Fm'):Prop where
 kind:fr.kind=.normal
 round:fr.roundOf=Q
 defers:fr.defers=[]
 fn:∃fn,P.funcs[fr.fn]?=J fn
theorem qP.leaves(h:qP P S meths st A):yy P A:=⟨h.kind,h.round,h.defers,h.fn⟩
theorem yy.app(h:yy P A)(k:List bm):yy P (A.app k):=⟨h.kind,h.round,h.defers,h.fn⟩
theorem Dg{fr:Fm'}(hF:yy P fr)(H:fr.mode≠.run){c c':Fm'}{cs cs':List Fm'}{v w:Wd}(z:Lk sft v w){N:Nat}(I:Ab N v w){main main':Bool}(A:(bH P main (G fr (c::cs)) w).wd<=w.drawn+N) :
    (∃o d j,bH P main' (G fr (c'::cs')) v=.ended o d j)\/∃d g j,tC st sft v d w g j /\
      ((∃x,bH P main' (G fr (c'::cs')) v=.go (G (c'.finish x) cs') d j/\bH P main (G fr (c::cs)) w=.go (G (c.finish x) cs) g j) \/
       (∃k,bH P main' (G fr (c'::cs')) v=.go (G (c'.raise k) cs') d j/\bH P main (G fr (c::cs)) w=.go (G (c.raise k) cs) g j)):=by
  let⟨f,b,q,M,K,X,a'⟩:=fr;let⟨B,C,D,⟨i,t⟩⟩:=hF;dsimp only at B C D t H;subst B C D
  cases K with
  | run=>grind
  | panicking k =>
    have l:∀(m:Bool) (c:Fm') (cs:List Fm') (u:Wd),bH P m (G { fn:=f,tmps:=b,todo:=q,defers:=[],mode:=.panicking k,kind:=.normal } (c::cs)) u=.go (G (c.raise k) cs) u #[]:=λm c cs u=>by
      simp[bH,G,unwind,Frame.catches,t]
    exact .inr ⟨v,w,#[],.still z,.inr ⟨k,l _ _ _ _,l _ _ _ _⟩⟩
  | returning =>
    have l:∀(m:Bool) (c:Fm') (cs:List Fm') (u:Wd),bH P m (G { fn:=f,tmps:=b,todo:=q,defers:=[],mode:=.returning,kind:=.normal } (c::cs)) u =
        fj (seen P f ((di i b).runT P u #[]).2) (match ((di i b).runT P u #[]).1 with
          | .ok v w=>.go (G (c.finish v) cs) w
          | .halt (.stuck s) w=>.ended (.stuck s (jw P { fn:=f,tmps:=b,todo:=q,defers:=[],mode:=.returning,kind:=.normal })) w
          | .halt _ w=>.ended (.stuck "return: the result variables cannot be read" (jw P { fn:=f,tmps:=b,todo:=q,defers:=[],mode:=.returning,kind:=.normal })) w):=λm c cs u=>by
      simp only[bH,G,unwind,t,doReturn]
      grind
    have E:=HT (P:=P) (st:=st) i b;rw[l]at A;have L:((di i b).runT P w #[]).1.world.drawn<=w.drawn+N:=by
      revert A;rw[Be];rcases Ld P (di i b) (st=true) w #[] E with⟨a,g,p,e,R⟩|⟨x,g,p,e⟩|⟨x,g,p,e,T⟩
      . rw[e];exact id
      . rw[e];exact id
      . rw[e];cases x<;>exact id
    have y:=DX P (di i b) (st=true) (v:=v) (w:=w) #[] N E z I L;simp only[l];revert y;generalize (di i b).runT P v #[]=rv;generalize (di i b).runT P w #[]=b';intro y
    cases y with
    | @ok a d g p n R h1 h2 h3 h4 =>
      refine .inr ⟨d,g,seen P f p++#[],⟨h1,h2,λe F=>?_,n,h4⟩,.inl ⟨a,Z,Z⟩⟩;rw[mV]at F;rcases h3 e (zJ F) with h|h
      all_goals grind
    | panic _ _ _ _=>exact .inl ⟨_,_,_,Z⟩
    | @lost x d p r T=>cases x<;>exact .inl ⟨_,_,_,Z⟩
open Go.Conc (G)
inductive l6 (P:Pg) (main:Bool) (D:Wd->Wd->Array Event->Prop) (Stop:Gr->Wd->Prop):Gr->Wd->Prop where
 | stop {g:Gr} {w:Wd}:Stop g w->l6 P main D Stop g w
 | step {g:Gr} {w:Wd} (g':Nat->Gr) (w':Nat->Wd) (es:Nat->Array Event):g.status=.running->(∀d,stepG P main g (w.at d)=.go (g' d) (w' d) (es d))->(∀d,D (w.at d) (w' d) (es d)) ->
   (∀d,l6 P main D Stop (g' d) (w' d))->l6 P main D Stop g w
def DL(st:Bool)(sft:Nat->Nat)(w a:Wd)(b:Array dr):Prop:=oP sft w a/\(∀e∈b,uD sft (st=true) a.heap.size e)/\(a.tape,a.os,a.output)=(w.tape,w.os,w.output)
theorem l6.mono{D c:Wd->Wd->Array dr->Prop}{Stop e:Gr->Wd->Prop}{w:Wd}(h:l6 P p D Stop t w)(f:∀w a b,D w a b->c w a b)(g:∀t w,Stop t w->e t w):l6 P p c e t w:=by
 induction h with
 | stop h=>exact .stop (g _ _ h)
 | step i a b j k l _ m=>exact .step i a b j k (λd=>f _ _ _ (l d)) m
theorem l6.then{D:Wd->Wd->Array dr->Prop}{Stop a:Gr->Wd->Prop}{w:Wd}(h:l6 P p D Stop t w)(b:∀t w,Stop t w->l6 P p D a t w):l6 P p D a t w:=by
 induction h with
 | stop h=>exact b _ _ h
 | step c d e f g i _ j=>exact .step c d e f g i j
theorem l6.keep{Stop:Gr->Wd->Prop}{w:Wd}(h:l6 P p (DL st sft) Stop t w):l6 P p (DL st sft) (λb a=>Stop b a/\oP sft w a) t w:=by
 induction h with
 | stop h=>exact .stop ⟨h,.refl _ _⟩
 | @step t w b a es h1 h2 h3 _ ih =>
  refine .step b a es h1 h2 h3 λd=>(ih d).mono (λ_ _ _ x=>x) λe f x=>⟨x.1,?_⟩
  have c:oP sft w (w.at d):=.of_heap _ Z;exact c.trans ((h3 d).1.trans x.2)
def tl:List Fm'->List bm->List Fm'->List Fm'
 | [],_,aB=>aB
 | [c],k,aB=>c.app k::aB
 | c::d::l,k,aB=>c::tl (d::l) k aB
def real(a:Fm')(b:List Fm')(k:List bm)(base:List Fm'):Gr :=
 match b with
 | []=>G (a.app k) base
 | c::l=>G a (tl (c::l) k base)
theorem b3I{a:List Fm'}{k:List bm}{base:List Fm'}:(real A a k base).status=.running:=by cases a<;>rfl
structure Ip (P:Pg) (S:bF->Bool) (meths:List String) (st:Bool) (fr:Fm') (above:List Fm'):Prop where
 top:qP P S meths st fr
 rest:∀c∈above,qP P S meths st c/\Ez c
def Np(a:Fm')(b:List Fm')(k c:List bm):Prop:=b=[]/\(a.mode≠.run\/(a.todo=[]/\¬(k=[]/\c=[])))
theorem Tq(R:qm P S meths st){r:List Fm'}(m:Ip P S meths st A r){k i:List bm}{base base0:List Fm'}(L:∀id,fN id i=Q)(I:¬Np A r k i){v w:Wd}(C:Lk sft v w){N:Nat}(D:Ab N v w){main main':Bool}(t:(bH P main (real A r k base) w).wd<=w.drawn+N) :
  (∃o b a,bH P main' (real A r i base0) v=.ended o b a) \/
  ∃q E b j a,bH P main' (real A r i base0) v=.go (real q E i base0) b a/\bH P main (real A r k base) w=.go (real q E k base) j a/\tC st sft v b w j a/\Ip P S meths st q E:=by
 cases r with
 | nil =>
  have u:A.mode=.run:=cO λh=>I ⟨Z,.inl h⟩;have T:A.todo≠[]\/k=[]/\i=[]:=by
   by_cases h:A.todo=[]
   .exact .inr (cO λM=>I ⟨Z,.inr ⟨h,M⟩⟩)
   .exact .inl h
  rcases Pn (kk:=k) (kk':=i) (cs:=base) (cs':=base0) (main:=main) (main':=main') R m.top u T L C D t with h|⟨q,b,j,a,n,z,⟨f,g⟩|⟨F,f,g⟩⟩
  .exact .inl h
  .exact .inr ⟨q,[],b,j,a,f,g,n,z,λc p=>by cases p⟩
  .exact .inr ⟨q,[A],b,j,a,f,g,n,z,λc p=>by
    rcases ae.1 p with rfl|p
    .exact⟨m.top,F⟩
    .cases p⟩
 | cons c l =>
  let⟨p,K⟩:=m.rest c (ao ..)
  by_cases u:A.mode=.run
  .have e:∀k base,real A (c::l) k base=G (A.app []) (tl (c::l) k base):=λk base=>by rw[wM];rfl
   rw[e]at t;rw[e,e];rcases Pn (kk:=[]) (kk':=[]) (cs:=tl (c::l) k base) (cs':=tl (c::l) i base0) (main:=main) (main':=main') R m.top u (.inr ⟨rfl,rfl⟩) (λ_=>rfl) C D t with h|⟨q,b,j,a,n,z,⟨f,g⟩|⟨F,f,g⟩⟩
   .exact .inl h
   .exact .inr ⟨q,c::l,b,j,a,by rw[f,wM];rfl,by rw[g,wM];rfl,n,z,m.rest⟩
   .refine .inr ⟨q,A::c::l,b,j,a,by rw[f,wM];rfl,by rw[g,wM];rfl,n,z,λx s=>?_⟩;rcases ae.1 s with rfl|s
    .exact⟨m.top,F⟩
    .exact m.rest x s
  .cases l with
   | nil =>
    rcases Dg (c:=c.app k) (c':=c.app i) (cs:=base) (cs':=base0) (main:=main) (main':=main') m.top.leaves u C D t with h|⟨b,j,a,n,⟨x,f,g⟩|⟨B,f,g⟩⟩
    .exact .inl h
    .exact .inr ⟨c.finish x,[],b,j,a,by rw[show real A [c] i base0=G A (c.app i::base0) from Z,f,yP K];rfl,by rw[show real A [c] k base=G A (c.app k::base) from Z,g,yP K];rfl,n,p.finish x,λx s=>by cases s⟩
    .exact .inr ⟨c.raise B,[],b,j,a,by rw[show real A [c] i base0=G A (c.app i::base0) from Z,f,DF];rfl,by rw[show real A [c] k base=G A (c.app k::base) from Z,g,DF];rfl,n,p.raise B,λx s=>by cases s⟩
   | cons d l =>
    rcases Dg (c:=c) (c':=c) (cs:=tl (d::l) k base) (cs':=tl (d::l) i base0) (main:=main) (main':=main') m.top.leaves u C D t with h|⟨b,j,a,n,⟨x,f,g⟩|⟨B,f,g⟩⟩
    .exact .inl h
    .exact .inr ⟨c.finish x,d::l,b,j,a,f,g,n,p.finish x,λy H=>m.rest y (ah _ H)⟩
    .exact .inr ⟨c.raise B,d::l,b,j,a,f,g,n,p.raise B,λy H=>m.rest y (ah _ H)⟩
def X9:Frame:={ fn:=0,tmps:=#[],todo:=[.code (.refuse "")],defers:=[{ target:=.nil,args:=#[] }],mode:=.run,kind:=.normal }
theorem b3a(x:Vu)(v:Wd):∃o a b,bH P true (G (X9.finish x) []) v=.ended o a b:=⟨_,_,_,Z⟩
theorem VS(a:List PanicEntry)(v:Wd):∃o b c,bH P true (G (X9.raise a) []) v=.ended o b c:=⟨_,_,_,Z⟩
theorem NO(b:Fm')(a:List Fm')(d:List bm)(base:List Fm'):∃e f,real b a d base=G e f:=by
 cases a with
 | nil=>exact⟨_,_,Z⟩
 | cons c l=>exact⟨_,_,Z⟩
def sm(g:Gr)(w:Wd):fM:=lone g.frame g.callers w
theorem Gk{a b:List Fm'}{w:Wd}(c:t=G A a)(d:u=G B b)(h:bH P true t w=.go u i N):step P (sm t w)=.next (sm u i):=by
 subst c d;refine step_lone_go ?_;show(bH P true (G A a) w).bare=_;rw[h];rfl
theorem DN{a:List Fm'}{w:Wd}{o:Outcome}(b:t=G A a)(h:bH P true t w=.ended o i N):step P (sm t w)=.ended o i:=by
 subst b;refine step_lone_ended ?_;show(bH P true (G A a) w).bare=_;rw[h];rfl
theorem OK{m b:fM}(h:runN P (a+1) m=.next b):∃c,step P m=.next c/\runN P a c=.next b:=by
 simp only[runN]at h
 grind
theorem ZX{k:List bm}(h:A.app k=B.app k):A=B:=by
 cases A;cases B
 simp only[Frame.app,nC,List.append_cancel_right_eq]at h
 grind
theorem Lk.at{v w:Wd}(h:Lk sft v w)(d:Nat):Lk sft v (w.at d):=⟨h.heap,h.soft,h.oc,h.os,h.output⟩
def su(sft:Nat->Nat)(w:Wd)(a:Nat->im->Nat):World:={ w with heap:=w.heap.mapIdx λi o=>fz (sft i) o,tape:=a,drawn:=0 }
theorem EG{w:Wd}(a:∀i:Nat,sft i≠0->∃c t,w.heap[i]?=J (.cells c t (0,0)))(b:Clear w)(d:Nat->im->Nat):Lk sft (su sft w d) w :=
 ⟨λi=>by simp[su],a,b,Z,Z⟩
section tape
variable(c:Nat->Nat)(d:Nat->Nat->im->Nat)
open Classical in
def HU(x:Nat)(q:im):Nat :=
 if h:∃j,c j<=x/\x<c (j+1) then d h.choose (x - c h.choose) q else 0
theorem c3X(m:∀a,c a<=c (a+1))(k:c a+b<c (a+1))(q:im):HU c d (c a+b) q=d a b q:=by
 have h:∃j,c j<=c a+b/\c a+b<c (j+1):=⟨a,Nat.le_add_right _ _,k⟩;have n:∀f i,f<=i->c f<=c i:=λf i l=>by
  induction l with
  | refl=>grind
  | step _ o=>grind
 have e:h.choose=a:=by
  let⟨p,r⟩:=h.choose_spec;rcases Nat.lt_trichotomy h.choose a with g|g|g
  all_goals grind
 unfold HU
 simp_all
end tape
section chase
variable(P)(a:Bool)(D:Wd->Wd->Array dr->Prop)(Stop:Gr->Wd->Prop)
def sU(g:Gr)(w:Wd):Nat :=
 open Classical in if h:∃d,¬ ∃c b e,bH P a g (w.at d)=.go c b e/\D (w.at d) b e/\l6 P a D Stop c b then h.choose else 0
theorem RS{w:Wd}(g:t.status=.running)(h:¬l6 P a D Stop t w):¬ ∃c b e,bH P a t (w.at (sU P a D Stop t w))=.go c b e/\D (w.at (sU P a D Stop t w)) b e/\l6 P a D Stop c b:=by
 have i:∃d,¬ ∃c b e,bH P a t (w.at d)=.go c b e/\D (w.at d) b e/\l6 P a D Stop c b:=by
  refine cO λj=>h ?_;have f:∀d,∃c b e,bH P a t (w.at d)=.go c b e/\D (w.at d) b e/\l6 P a D Stop c b:=λd=>cO λk=>j ⟨d,k⟩;exact .step (λd=>(f d).choose) (λd=>(f d).choose_spec.choose) (λd=>(f d).choose_spec.choose_spec.choose) g (λd=>(f d).choose_spec.choose_spec.choose_spec.1) (λd=>(f d).choose_spec.choose_spec.choose_spec.2.1) λd=>(f d).choose_spec.choose_spec.choose_spec.2.2
 unfold sU;rw[dif_pos i]
 grind
def N3(g:Gr)(w:Wd):Nat->Gr×Wd
 | 0=>(g,w)
 | j+1=>match bH P a (N3 g w j).1 ((N3 g w j).2.at (sU P a D Stop (N3 g w j).1 (N3 g w j).2)) with
  | .go b c _=>(b,c)
  | _=>N3 g w j
def x9(g:Gr)(w:Wd)(j:Nat):Nat :=
 (bH P a (N3 P a D Stop g w j).1 ((N3 P a D Stop g w j).2.at (sU P a D Stop (N3 P a D Stop g w j).1 (N3 P a D Stop g w j).2))).wd - sU P a D Stop (N3 P a D Stop g w j).1 (N3 P a D Stop g w j).2
def places(g:Gr)(w:Wd):Nat->Nat
 | 0=>0
 | j+1=>places g w j+x9 P a D Stop g w j
end chase
theorem Jk(R:qm P S meths st)(h0:qP P S meths st A){k k0:List bm}(u':∀id,fN id k0=Q)(hk:k0=[]->k=[])(x':k0≠[]->k0=[.code (.refuse "")]){base:List Fm'}(hs:∀u:Nat,sft u≠0->∃c t,i.heap[u]?=J (.cells c t (0,0)))(hc:Clear i)(b:Bool){F:Fm'->Wd->Prop}(y':∀v,Lk sft v i->∃n p s,runN P n (sm (G (A.app k0) [X9]) v)=.next (sm (G p [X9]) s)/\F p s) :
  l6 P b (DL st sft) (λg w=>∃p v,g=G (p.app k) base/\Lk sft v w/\F (p.app k0) v/\qP P S meths st p) (G (A.app k) base) i:=by
 refine cO λn'=>?_;generalize O':(λg w=>∃p v,g=G (p.app k) base/\Lk sft v w/\F (p.app k0) v/\qP P S meths st p)=Stop at n';have z':∀g w,(∃p v,g=G (p.app k) base/\Lk sft v w/\F (p.app k0) v/\qP P S meths st p)->Stop g w:=λg w h=>by grind
 have A':∀j,places P b (DL st sft) Stop (G (A.app k) base) i j<=places P b (DL st sft) Stop (G (A.app k) base) i (j+1):=λj=>Nat.le_add_right _ _;generalize B':HU (places P b (DL st sft) Stop (G (A.app k) base) i) (λj u q=>(N3 P b (DL st sft) Stop (G (A.app k) base) i j).2.tape (sU P b (DL st sft) Stop (N3 P b (DL st sft) Stop (G (A.app k) base) i j).1 (N3 P b (DL st sft) Stop (G (A.app k) base) i j).2+u) q)=H;have C':∀j u q,u<x9 P b (DL st sft) Stop (G (A.app k) base) i j->H (places P b (DL st sft) Stop (G (A.app k) base) i j+u) q=(N3 P b (DL st sft) Stop (G (A.app k) base) i j).2.tape (sU P b (DL st sft) Stop (N3 P b (DL st sft) Stop (G (A.app k) base) i j).1 (N3 P b (DL st sft) Stop (G (A.app k) base) i j).2+u) q:=λj u q hi=>by
  rw[←B'];exact c3X _ _ A' (by show _<_+_;omega) q
 let⟨n,L,N,hn,hF⟩:=y' (su sft i H) (EG hs hc H);have D':∀(r j:Nat) (p:Fm') (B:List Fm') (v:Wd),(N3 P b (DL st sft) Stop (G (A.app k) base) i j).1=real p B k base->Ip P S meths st p B->Lk sft v (N3 P b (DL st sft) Stop (G (A.app k) base) i j).2->v.tape=H ->
   v.drawn=places P b (DL st sft) Stop (G (A.app k) base) i j->¬l6 P b (DL st sft) Stop (N3 P b (DL st sft) Stop (G (A.app k) base) i j).1 (N3 P b (DL st sft) Stop (G (A.app k) base) i j).2 ->
   runN P r (sm (real p B k0 [X9]) v)=.next (sm (G L [X9]) N)->False:=by
  intro r
  induction r with
  | zero =>
   intro j p B v T hO hl _ _ hM I;have e:=eF I;have e1:(sm (real p B k0 [X9]) v).gs=(sm (G L [X9]) N).gs:=by rw[e]
   have e2:(sm (real p B k0 [X9]) v).world=(sm (G L [X9]) N).world:=by rw[e]
   have e3:v=N:=e2
   cases B with
   | nil =>
    have e4:p.app k0=L:=by
     have:=congrArg (λa=>(a[0]?).map (·.frame)) e1;simpa[sm,lone,real,G] using this
    subst e4;refine hM (.stop ?_);exact z' _ _ ⟨p,v,T,hl,by rw[e3];exact hF,hO.top⟩
   | cons c l =>
    have:=congrArg (λa=>(a[0]?).map (·.callers.length)) e1
    cases l with
    | nil=>simp[sm,lone,real,G,tl]at this
    | cons d l =>
     have E':∀(d:Fm') (l:List Fm'),0<(tl (d::l) k0 [X9]).length:=λd l=>by cases l<;>simp[tl]
     have K:=E' d l;simp[sm,lone,real,G,tl]at this;simp[this]at K
  | succ r ih =>
   intro j p B v T hO hl ht hd hM I;let⟨m1,y,l'⟩:=OK I;let⟨Q',R',m'⟩:=NO p B k0 [X9]
   by_cases hR:Np p B k k0
   .
    obtain⟨rfl,hR⟩:=hR
    by_cases M:p.mode≠.run
    .have F':Lk (λ_=>0) v v:=⟨λu=>by
      rw[hl.heap u];generalize (N3 P b (DL st sft) Stop (G (A.app k) base) i j).2.heap[u]?=z
      cases z with
      | none=>rfl
      | some o=>simp[Yh],λ_ h=>absurd Z h,nQ,Z,Z⟩
     have G':=Dg (P:=P) (st:=st) (sft:=λ_=>0) (fr:=p.app k0) (c:=X9) (c':=X9) (cs:=[]) (cs':=[]) (v:=v) (w:=v) (main:=true) (main':=true) (N:=(bH P true (G (p.app k0) [X9]) v).wd) (hO.top.leaves.app k0) (by cases p;exact M) F' (λ_ _ _=>rfl) Za;have o':∀(g':Gr) (D:Fm') (s:Wd),g'=G D []->(∃o p' C,bH P true g' s=.ended o p' C)->runN P r (sm g' s)=.next (sm (G L [X9]) N)->False:=by
      intro g' D s q' ⟨o,p',C,X⟩ I
      cases r with
      | zero =>
       have:=congrArg (λm=>(m.gs[0]?).map (·.callers.length)) (eF I);subst q';simp[sm,lone,G]at this
      | succ r =>
       let⟨m2,K,_⟩:=OK I;rw[DN q' X]at K;cases K
     rcases G' with⟨o,s,C,h⟩|⟨s,w',C,E,⟨x,h1,_⟩|⟨ch,h1,_⟩⟩
     .rw[show real p [] k0 [X9]=G (p.app k0) [X9] from Z,DN Z h]at y;cases y
     .rw[show real p [] k0 [X9]=G (p.app k0) [X9] from Z,Gk Z Z h1]at y;cases eF y;exact o' _ _ _ Z (b3a x s) l'
     .rw[show real p [] k0 [X9]=G (p.app k0) [X9] from Z,Gk Z Z h1]at y;cases eF y;exact o' _ _ _ Z (VS ch s) l'
    .let⟨r',H'⟩:=hR.resolve_left M;have I':k0≠[]:=λe=>H' ⟨hk e,e⟩;have J':=x' I';have s':p.mode=.run:=cO M;have X:∃o s C,bH P true (real p [] k0 [X9]) v=.ended o s C:=by
      rw[J'];let⟨f,U',V',W',X',Y',Z'⟩:=p;dsimp only at s' r';subst s' r';exact⟨_,_,_,Z⟩
     let⟨o,s,C,X⟩:=X;rw[DN m' X]at y;cases y
   .have hN:(bH P b (real p B k base) ((N3 P b (DL st sft) Stop (G (A.app k) base) i j).2.at (sU P b (DL st sft) Stop (N3 P b (DL st sft) Stop (G (A.app k) base) i j).1 (N3 P b (DL st sft) Stop (G (A.app k) base) i j).2))).wd<=((N3 P b (DL st sft) Stop (G (A.app k) base) i j).2.at (sU P b (DL st sft) Stop (N3 P b (DL st sft) Stop (G (A.app k) base) i j).1 (N3 P b (DL st sft) Stop (G (A.app k) base) i j).2)).drawn+x9 P b (DL st sft) Stop (G (A.app k) base) i j:=by
     rw[←T];show _<=sU P b (DL st sft) Stop _ _+(_ - sU P b (DL st sft) Stop _ _);omega
    rcases Tq (base0:=[X9]) (main:=b) (main':=true) R hO u' hR (hl.at _) (N:=x9 P b (DL st sft) Stop (G (A.app k) base) i j) (λu q hi=>by rw[ht,hd];exact C' j u q hi) hN with⟨o,s,C,h⟩|⟨D,i',s,w',C,h1,K,E,K'⟩
    .rw[DN m' h]at y;cases y
    .let⟨fr2,cs2,L'⟩:=NO D i' k0 [X9];rw[Gk m' L' h1]at y;cases eF y;have M':(N3 P b (DL st sft) Stop (G (A.app k) base) i j).1.status=.running:=by rw[T];exact b3I
     have j':=K;rw[←T]at j';have t':N3 P b (DL st sft) Stop (G (A.app k) base) i (j+1)=(real D i' k base,w'):=by simp only[N3,j']
     let⟨c,k'⟩:=E.drew;have N':=RS P b (DL st sft) Stop M' hM;have hnm:¬l6 P b (DL st sft) Stop (real D i' k base) w':=λM=>N' ⟨_,_,_,j',⟨⟨E.kept.same,E.kept.size,E.kept.new⟩,E.off,k'.all⟩,M⟩;refine ih (j+1) D i' s (by rw[t']) K' (by rw[t'];exact E.lk) (k'.tv.trans ht) ?_ (by grind) l';show s.drawn=places P b (DL st sft) Stop (G (A.app k) base) i j+x9 P b (DL st sft) Stop (G (A.app k) base) i j;have:x9 P b (DL st sft) Stop (G (A.app k) base) i j=c:=by
      unfold x9;rw[j'];show w'.drawn - _=c;rw[k'.dw];show sU P b (DL st sft) Stop _ _+c - sU P b (DL st sft) Stop _ _=c;omega
     rw[k'.dv,hd,this]
 exact D' n 0 A [] (su sft i H) Z ⟨h0,λc hc=>by cases hc⟩ (EG hs hc H) Z Z n' hn
open Go.Conc (G)
def qB(P:Pg):gG f->Prop
 | .pure _=>True
 | .load _ _ k=>∀v,qB P (k v)
 | .store _ _ _ k=>qB P k
 | .new _ k=>∀r,qB P (k r)
 | .shape _ k=>∀s,qB P (k s)
 | .freeze _ _ k=>qB P k
 | .frozen _ k=>∀b,qB P (k b)
 | .getObj _ k=>∀o,qB P (k o)
 | .setObj _ _ k=>qB P k
 | .choose _ _=>False
 | .sys _ _=>False
 | .program k=>qB P (k P)
 | .mark _ k=>qB P k
 | .halt _=>True
theorem vC{e:gG f}{i:f->gG h}:qB P e->(∀a,qB P (i a))->qB P (e >>= i):=by
 intro g j;show qB P (e.bind i)
 induction e with
 | pure a=>exact j a
 | load m a k d=>exact λv=>d v (g v)
 | store m a v k d=>exact d g
 | new o k d=>exact λr=>d r (g r)
 | shape r k d=>exact λs=>d s (g s)
 | freeze a n k d=>exact d g
 | frozen a k d=>exact λb=>d b (g b)
 | getObj r k d=>exact λo=>d o (g o)
 | setObj r o k d=>exact d g
 | choose q k d=>exact g.elim
 | sys c k d=>exact g.elim
 | program k d=>exact d P g
 | mark m k d=>exact d g
 | halt x=>trivial
theorem RP(p:Pg)(e:gG f)(W:Prop){j:f->Prop}:∀(w:Wd) (i:Array dr),G8 p W j e->qB p e->Clear w->(e.runT p w i).1.world.drawn=w.drawn:=by
  induction e with
  | pure a=>intro w i _ _ _;rfl
  | load m a k b =>
    intro w i h d g;simp only[aP];split
    . exact b _ _ _ (h _) (d _) g
    . split
      . exact b _ _ _ (h _) (d _) g
      . rfl
  | store m a x k b =>
    intro w i h d g;cases x<;>simp only[aP]<;>first
      | rfl
      | (split
         . split
           . rfl
           . exact b (w.setCell _ _) _ h.2 d g
         . split
           . rename_i l t s
             rw[←Js s];exact b l _ h.2 d g
           . rfl)
  | new o k b=>intro w i h d g;simp only[aP];exact b _ { w with heap:=w.heap.push o } _ (h.2 _) (d _) g
  | shape r k b=>intro w i h d g;simp only[aP];exact b _ _ _ (h _) (d _) g
  | freeze a n k b=>intro w i h;exact h.elim
  | frozen a k b=>intro w i h d g;simp only[aP];exact b _ _ _ (zh (h _)) (d _) g
  | getObj r k b =>
    intro w i h d g;simp only[aP];split
    . rfl
    . exact b _ _ _ (h.1 _) (d _) g
    . rfl
  | setObj r o k b=>intro w i h;exact h.elim
  | choose q k b=>intro w i h d;exact d.elim
  | sys c k b=>intro w i h;exact h.elim
  | program k b=>intro w i h d g;simp only[aP];exact b _ _ _ h d g
  | mark m k b=>intro w i h d g;simp only[aP];exact b _ _ h.2.2 d g
  | halt x=>intro w i _ _ _;rfl
theorem NY(b:f->gG h)(c:∀a,qB P (b a)):∀l:List f,qB P (l.mapM b)
 | []=>by simp only[jc];exact trivial
 | a::l=>by
  simp only[fT];exact vC (c a) λ_=>vC (NY b c l) λ_=>trivial
theorem c3F{b:f->gG h}(c:∀a,qB P (b a)){d:Array f}:qB P (d.mapM b):=by
 rw[kB];exact vC (NY b c _) λ_=>trivial
theorem b2V:qB P (typeInfo n):=by
 show qB P ((match P.info? n with|some d=>pure d|none=>stuck "no such type"):gG iD);split<;>exact trivial
theorem a8P:qB P (underlying n):=by
 show qB P ((match P.underlying n with|some d=>pure d|none=>stuck "no such type"):gG TypeDesc);split<;>exact trivial
theorem a5T:∀(i:Nat) (b:Array Vu),qB P (loadCellsFrom x i a b):=by
 induction a with
 | zero=>exact λ_ _=>trivial
 | succ a c=>exact λi b v=>c _ _
theorem Qc:qB P (loadVar n x):=by
 unfold loadVar;refine vC ?_ λb=>?_
 .unfold isAgg;refine vC (a8P) λu=>?_;split<;>exact trivial
 .split
  .exact vC (vC (b2V) λ_=>trivial) λa=>vC (a5T _ _) λ_=>trivial
  .exact λ_=>trivial
theorem WV(a:mR)(b:Array Vu):qB P (di a b):=by
 unfold di;refine vC (c3F λr=>?_) λ_=>trivial;split
 .exact trivial
 .refine vC ?_ λ_=>Qc;unfold asAddr;split<;>exact trivial
structure Fit (sft:Nat->Nat) (w:Wd):Prop where
 soft:∀i:Nat,sft i≠0->∃c t,w.heap[i]?=J (.cells c t (0,0))
 clear:Clear w
theorem Lk.fit{v w:Wd}(h:Lk sft v w):Fit sft w:=⟨h.soft,h.oc⟩
theorem Pd(j:yy P A)(b:A.mode=.returning){a:mR}(d:P.funcs[A.fn]?=J a)(m:Bool)(c:Fm')(e:List Fm')(u:Wd):bH P m (G A (c::e)) u =
  fj (seen P A.fn ((di a A.tmps).runT P u #[]).2) (match ((di a A.tmps).runT P u #[]).1 with
   | .ok v w=>.go (G (c.finish v) e) w
   | .halt (.stuck s) w=>.ended (.stuck s (jw P A)) w
   | .halt _ w=>.ended (.stuck "return: the result variables cannot be read" (jw P A)) w):=by
 let⟨f,k,l,n,o,p,q⟩:=A;let⟨g,h,i,_⟩:=j;dsimp only at g h i b d;subst g h i b;simp only[bH,G,unwind,d,doReturn]
 grind
theorem xC(R:qm P S meths st){f:bF}(B:S f=true){w0:Wd}(L:Fit sft w0)(t:Bool){Q:Vu->Wd->Prop}(h:∀v,Lk sft v w0->aG P f I v (λe C=>match e with|.returned x=>Q x C|_=>False))(c:Fm')(k:List Fm') :
  l6 P t (DL st sft) (λg w=>∃x v,g=G (c.finish x) k/\Lk sft v w/\Q x v) (G (ay P f I .normal) (c::k)) w0:=by
 have h0:qP P S meths st (ay P f I .normal):=.enter R B I
 have N:=Jk (sft:=sft) (k:=[]) (k0:=[]) (base:=c::k) R h0 (λ_=>rfl) (λ_=>rfl) (λe=>absurd Z e) L.soft L.clear t (F:=λj v=>∃x,j.leaving P v (.returned x)/\Q x v) (λv u=>by
  obtain⟨e,s,j,D,hc,g',y⟩:=h v u [X9]
  cases e with
  | returned x =>
   obtain⟨n,hn⟩:=hc;exact⟨n,j,s,by rw[wM];exact hn,x,y,D⟩
  | panicked ch=>exact D.elim
  | outgrown=>exact D.elim)
 rw[wM]at N;refine N.then λg w ⟨j,v,T,M,⟨x,y,hQ⟩,E⟩=>?_;rw[wM]at T y;subst T;have e':j.mode≠.run:=by rw[y.1];simp
 obtain⟨X,hd,hk,z,B,hr⟩:=y;have A:∀d,∃s p,bH P t (G j (c::k)) (w.at d)=.go (G (c.finish x) k) s p/\DL st sft (w.at d) s p/\Lk sft v s:=by
  intro d;have f':(bH P t (G j (c::k)) (w.at d)).wd<=(w.at d).drawn+0:=by
   have e:bH P t (G j (c::k)) (w.at d)=_:=Pd (P:=P) E.leaves X B t c k (w.at d);rw[e,Be];have m:=RP P (di z j.tmps) (st=true) (w.at d) #[] (HT z j.tmps) (WV z j.tmps) M.oc;revert m;generalize (di z j.tmps).runT P (w.at d) #[]=r;intro m;rcases r with⟨r,p⟩
   cases r with
   | ok a b=>exact fJ m
   | halt a b=>cases a<;>exact fJ m
  have u:∃p,bH P true (G j (c::k)) v=.go (G (c.finish x) k) v p:=by
   have e:=Pd (P:=P) E.leaves X B true c k v;have F:((di z j.tmps).runT P v #[]).1=.ok x v:=by simp_all
   rw[e,F];exact⟨_,Z⟩
  obtain⟨h',u⟩:=u;rcases Dg (main':=true) (c':=c) (cs':=k) E.leaves e' (M.at d) (N:=0) (λi q hi=>by omega) f' with⟨o,C,p,h⟩|⟨C,s,p,l,⟨x',m,F⟩|⟨ch,m,F⟩⟩
  .grind
  .rw[u]at m;obtain⟨e1,H,_⟩:=GStep.go.inj m;obtain⟨n,K⟩:=l.drew;refine⟨s,p,?_,⟨⟨l.kept.same,l.kept.size,l.kept.new⟩,l.off,K.all⟩,by rw[H];exact l.lk⟩
   grind
  .rw[u]at m;obtain⟨e1,H,_⟩:=GStep.go.inj m;obtain⟨n,K⟩:=l.drew;refine⟨s,p,?_,⟨⟨l.kept.same,l.kept.size,l.kept.new⟩,l.off,K.all⟩,by rw[H];exact l.lk⟩
   grind
 exact .step (λ_=>G (c.finish x) k) (λd=>(A d).choose) (λd=>(A d).choose_spec.choose) Z (λd=>(A d).choose_spec.choose_spec.1) (λd=>(A d).choose_spec.choose_spec.2.1)
  (λd=>.stop ⟨x,v,Z,(A d).choose_spec.choose_spec.2.2,hQ⟩)
theorem SC(R:qm P S meths st){c:jx}(y:Z4 P S meths st c=true){a:db}(z:a.defers=[]){b:Fm'}(A:b.kind=.normal)(B:∃C,P.funcs[b.fn]?=J C){w0:Wd}(r:Fit sft w0)(s:Bool){Q:Exit->db->Wd->Prop}(D:∀e a w,Q e a w->e=.normal\/e=.ret)(h:∀v,Lk sft v w0->c.wp P Q a v)(k:List bm)(m:List Fm') :
  l6 P s (DL st sft) (λg w=>∃e d v,Q e d v/\Lk sft v w/\(e=.normal/\g=G (b.at d k) m\/e=.ret/\∃f,g=G { b.at d f with mode:=.returning } m)) (G (b.at a (.code c::k)) m) w0:=by
 have E:qP P S meths st (b.at a [.code c]):=⟨A,Z,z,B,λx o=>by
  rcases ae.1 o with rfl|o
  .exact y
  .cases o⟩
 have F:=Jk (sft:=sft) (k:=k) (k0:=[.code (.refuse "")]) (base:=m) R E (λ_=>rfl) (λe=>by cases e) (λ_=>rfl) r.soft r.clear s
  (F:=λi v=>∃e d,Q e d v/\(e=.normal/\i=b.at d [.code (.refuse "")]\/e=.ret/\∃f,i={ b.at d f with mode:=.returning })) (λv H=>by
  let⟨e,d,p,j,t⟩:=h v H b [.code (.refuse "")] [X9];rcases D e d p j with rfl|rfl
  .let⟨n,q⟩:=t;exact⟨n,b.at d [.code (.refuse "")],p,q,_,d,j,.inl ⟨Z,Z⟩⟩
  .let⟨f,n,q⟩:=t
   exact⟨n,_,p,q,_,d,j,.inr ⟨Z,f,Z⟩⟩)
 refine F.mono (λ_ _ _ h=>h) λg w ⟨i,v,u,I,⟨e,d,j,l⟩,K⟩=>⟨e,d,v,j,I,?_⟩
 rcases l with⟨rfl,l⟩|⟨rfl,f,l⟩
 .obtain rfl:i=b.at d []:=ZX (k:=[.code (.refuse "")]) l;exact .inl ⟨Z,u⟩
 .refine .inr ⟨Z,i.todo++k,?_⟩;rw[u];cases i
  simp only[Frame.app,Frame.at,nC]at l ⊢
  grind
end
section
open Go.Conc
variable{P:Pg}{E:Bool}{A:Nat->Nat}{K v:Wd->Prop}{j t:Loc->Prop}{B u:Nat}{Mem:Nat->Prop}{D:Nat->Option ic}{h:Nat}
theorem PV(b:∀l,j l->t l)(c:B<=u){e:dr}(h:EvC j B e):EvC t u e:=by
 let⟨a,d,f,g⟩:=h;exact⟨a,d,b _ f,Zg g c⟩
theorem KT(b:∀w,v w->K w)(c:∀l,j l->t l)(d:B<=u){s:ic}{g a:Gr}(h:AtIn P p K j B s g a):AtIn P p v t u s g a:=by
 let⟨f,i,k,m,n,o,q,r⟩:=h;exact⟨f,i,k,m,n,o,λe x=>PV c d (q e x),λw y=>r w (b w y)⟩
theorem I6(i:∀w,v w->K w)(m:∀l,j l->t l)(o:B<=u){Stop q:Gr->Wd->Prop}(k:∀g w,Stop g w->q g w):∀ {n:Nat} {g:Gr} {w:Wd},Goes P p (RK K) (DS j B) Stop n g w->Goes P p (RK v) (DS t u) q n g w
 | 0,_,_,h=>λd f=>k _ _ (h d (i _ f))
 | n+1,g,w,h=>by
  rcases h with h|⟨r,s⟩
  .exact .inl λd f=>k _ _ (h d (i _ f))
  .refine .inr ⟨r,λd f=>?_⟩;have:=s d (i _ f);revert this
   cases bH P p g d with
   | go y z C=>exact λ⟨⟨a,b⟩,c⟩=>⟨⟨a,λe x=>PV m o (b e x)⟩,I6 i m o k c⟩
   | _=>exact id
theorem Vx(b:∀w,v w->K w)(c:∀l,j l->t l)(d:B<=u){s:ic}{g:Gr}(h:Sits P p K j B s a g):Sits P p v t u s a g:=by
 rcases h with⟨k,w,e,f⟩|⟨e,m,i,f,n⟩
 .exact .inl ⟨k,w,e,I6 b c d (λg _ ⟨i,h⟩=>⟨i,KT b c d h⟩) f⟩
 .exact .inr ⟨e,m,i,f,KT b c d n⟩
theorem Jp(c:∀w,v w->K w)(d:∀l,j l->t l)(e:B<=u){T:jD}{g:Gr}{o:Option ic}(h:Idle P K j B T a b g o):Idle P v t u T a b g o:=by
 cases o with
 | none=>exact h
 | some s=>exact Vx c d e h
theorem ML{n:jD}{gs:Array Gr}(C:Ring P K j B Mem D h n gs i T)(L:∀i,v i->K i)(N:v i)(I:∀l,j l->t l)(R:∀l,t l->j l\/∃a:cC,l=.cell a/\B<=a.block)(r:B<=u):Ring P v t u Mem D h n gs i T:=by
 have S:PastG t Mem (λg=>g≠h/\(D g).isSome) u (Knows n h) n:=by
  have p:=C.past;refine⟨p.clean,λd a o W=>(p.known d a o W).imp id λ⟨x,y,z⟩=>⟨x,I _ y,z⟩,λd a o G w g F=>?_,p.hears,λM X=>MemAct.low_mono r (p.seen M X)⟩;rcases R _ w with w|⟨b,q,b'⟩
  .exact p.wrote d a o G w g F
  .
   let⟨x,hx,f⟩:=touch_of o;have k:=p.seen x (lW hx);exfalso
   cases H:x.act with
   | access e =>
    rw[H]at k f;simp only[kt,bz]at f;subst f;simp only[MemAct.low]at k;simp only at q;rw[q]at k;have:b.block<B:=k;omega
   | mark m =>
    rw[H]at k f;cases m<;>simp only[kt,bz,reduceCtorEq]at f
    all_goals
     subst f;simp only[Loc.cell.injEq]at q;subst q;have:_<B:=k;omega
   | _=>rw[H]at f;simp[kt]at f
 exact⟨λd g hi F=>Jp L I r (C.idle d g hi F),C.chans,C.wf,C.live,C.inj,C.above,λd s e=>⟨(C.mem d s e).1,λc hc=>Zg ((C.mem d s e).2 c hc) r⟩,C.nomem,C.lo,S,N⟩
def DK(A:Nat->Nat)(j:Loc->Prop):Prop:=∀l,j l->∃a:cC,l=.cell a/\a.off<A a.block
theorem QS{I:jD}{gs:Array Gr}(C:Ring P K j B Mem D h I gs i T)(L:∀i k N,DL E A i k N->K i->K k)(R:E=true->DK A j)(w:k.heap.size<=B)(p:DL E A i k N):DH K j B D i k N:=by
 refine⟨L i k N p,λS s c W G=>?_,λe M=>?_⟩
 .let⟨a',b',y⟩:=C.chans S s c (λz=>z) W G;let⟨o',o,q⟩:=p.1.same c _ y;rw[o,y];exact congrArg J q
 .have d:=p.2.1 e M;let⟨X,n,l⟩:=e;unfold uD at d
  cases X with
  | cell a =>
   dsimp only at d;refine⟨λx g F=>?_,by simp,by simp,Zg d.1 w⟩;have H:x=⟨.cell a,n,if l then .atomic else .plain⟩:=by
    have:MemAct.ofEvent ⟨.cell a,n,l⟩=.access ⟨.cell a,n,l⟩:=by cases n<;>cases l<;>rfl
    rw[this]at g;exact(Ze g).symm
   subst H
   cases n with
   | false=>rfl
   | true =>
    let⟨o,q⟩:=d.2 Z;let⟨b,hb,c'⟩:=R q _ F
    grind
  | obj r =>
   dsimp only at d;obtain⟨o,rfl⟩:=d;refine⟨λx g F=>?_,by simp,by simp,Zg o w⟩;have H:x=⟨.obj r,false,if l then .atomic else .plain⟩:=by
    have:MemAct.ofEvent ⟨.obj r,false,l⟩=.access ⟨.obj r,false,l⟩:=by cases l<;>rfl
    rw[this]at g;exact(Ze g).symm
   grind
  | output=>exact d.elim
  | goroutines=>exact d.elim
  | mark m =>
   dsimp only at d;rcases d with rfl|⟨f,rfl⟩
   .exact⟨λx g=>(by cases g),by simp,by simp,nQ⟩
   .exact⟨λx g=>(by cases g),by simp,by simp,nQ⟩
def tn(w a:Wd):Prop:=a.os=w.os/\a.output=w.output/\a.tape=w.tape
theorem tn.trans(h:tn i k)(a:tn k l):tn i l:=⟨a.1.trans h.1,a.2.1.trans h.2.1,a.2.2.trans h.2.2⟩
theorem DL.calm(h:DL E A i k N):tn i k:=⟨congrArg (λx=>x.2.1) h.2.2,congrArg (λx=>x.2.2) h.2.2,congrArg (λx=>x.1) h.2.2⟩
theorem Xn(z:∀i d,K i->K (i.at d))(F:∀i b p,DL E A i b p->K i->K b)(H:E=true->DK A j){Stop:Gr->Wd->Prop}{a:Gr}(I:l6 P (h==0) (DL E A) Stop a i) :
  ∀ {gs:Array Gr} {T:jD} {q:Nat->Nat} {sl:Option (Nat×Nat)},gs[h]?=J a->Ring P K j i.heap.size Mem D h T gs i q ->
  ∃(N:Nat) (e:Array Gr) (f:Gr) (b:Wd) (l:Option (Nat×Nat)) (k:jD) (m:Nat->Nat),
   runNT P N (crowd gs i sl) T=(.next (crowd e b l),k)/\e.size=gs.size/\e[h]?=J f/\Stop f b/\tn i b/\Ring P K j b.heap.size Mem D h k e b m:=by
 induction I with
 | stop L=>intro gs T q sl n C;exact⟨0,gs,_,_,sl,T,q,Z,Z,n,L,⟨Z,Z,Z⟩,C⟩
 | @step g i g' b p hrun hst hD _ ih =>
  intro gs T q sl n C;let⟨N,R,d,c,h',r,S,W,G,M,i',s,w⟩:=picked (sl:=sl) z n hrun C;have x:i.heap.size<=(b c).heap.size:=(hD c).1.size;have y:Ring P K j (b c).heap.size Mem D h S R (i.at c) W:=w.mono x λX g hi hg=>Jp (λ_ h=>h) (λ_ h=>h) x (w.idle X g hi hg);let⟨C3,b'⟩:=y.own (a':=g' c) s (QS y F H (af _) (hD c));have c':=runT_crowd_go (sl:=r) s (hst c);let⟨N2,e,f,w2,l,k,m,e',j',f',hS,o,C'⟩:=ih c (sl:=r) b' C3;exact⟨N+1+N2,e,f,w2,l,k,m,runNT_then (runNT_succ_of G (M.trans c')) e',by grind,f',hS,⟨o.1.trans (DL.calm (hD c)).1,o.2.1.trans (DL.calm (hD c)).2.1,o.2.2.trans (DL.calm (hD c)).2.2⟩,C'⟩
end
section
open Go.Conc
structure nY where
 gid:Nat
 bo:Nat
 tu:Nat
 to:Nat
 en:Nat
def KO(l:List nY)(w:Wd):Prop:=∀o∈l,∃c t,w.heap[o.bo]?=J (.cells c t (0,0))/\c[0]?=J (.chan (J o.tu))/\c[1]?=J (.chan (J o.to))/\c[2]?=J (.chan (J o.en))
def SO(l:List nY)(x:Loc):Prop:=∃o∈l,∃i,i<3/\x=.cell (O o.bo i Q)
open Classical in
def fb(l:List nY)(b:Nat):Nat:=if ∃o∈l,o.bo=b then 3 else 0
theorem Q7{l:List nY}{o:nY}(h:o∈l):fb l o.bo=3:=by unfold fb;rw[nT ⟨o,h,Z⟩]
theorem II{l:List nY}(h:fb l a≠0):∃o∈l,o.bo=a:=by
 unfold fb at h
 grind
theorem U7{l:List nY}(h:∀o∈l,o.bo≠a):fb l a=0:=by
 unfold fb
 grind
theorem c8V(l:List nY):DK (fb l) (SO l):=by
 rintro x ⟨o,a,i,b,rfl⟩;exact⟨_,Z,by rw[Q7 a];exact b⟩
theorem KO.at{l:List nY}(w:Wd)(d:Nat)(h:KO l w):KO l (w.at d):=h
theorem KO.dl{l:List nY}(w a:Wd)(d:Array dr)(e:DL p (fb l) w a d)(h:KO l w):KO l a:=by
 intro o b;let⟨c,t,f,j,k,m⟩:=h o b;let⟨n,q,g⟩:=e.1.same _ _ f;obtain⟨r,rfl,_,i⟩:=g;rw[Q7 b]at i
 grind
theorem KO.chan{l:List nY}(d:∀o∈l,o.bo≠a)(f:Nat)(g:Array Vu)(j:Bool)(k b:Nat)(m:Bool)(h:KO l i):KO l (i.setChan a f g j k b m):=by
 intro o c;let⟨x,t,n,p⟩:=h o c;exact⟨x,t,by rw[heap_setChan_ne _ _ _ _ _ _ _ λe=>d o c e.symm];exact n,p⟩
theorem KO.lt{l:List nY}(h:KO l i){o:nY}(a:o∈l):o.bo<i.heap.size:=by
 let⟨c,t,b,_⟩:=h o a
 grind
variable{st:Bool}{P:Pg}{p:fM->jD->Prop}{l:List nY}{f:Nat->Option ic}{n h:Nat}
def sW(P:Pg)(p:fM->jD->Prop)(m:fM)(T:jD):Prop:=∃N a b,runNT P N m T=(.next a,b)/\p a b/\tn m.world a.world
theorem sW.back{m b:fM}{T c:jD}(h:runNT P a m T=(.next b,c))(d:tn m.world b.world)(e:sW P p b c):sW P p m T:=by
 let⟨g,i,j,k,o,q⟩:=e;exact⟨a+g,i,j,runNT_then h k,o,d.trans q⟩
def SP(l:List nY)(a:Nat->Prop)(x:Loc):Prop:=SO l x\/∃b i,a b/\i<3/\x=.cell (O b i Q)
def no:Nat->Prop:=λ_=>False
theorem Wv(l:List nY):DK (fb l) (SP l no):=by
 rintro x (h|⟨_,_,h,_⟩)
 .exact c8V l x h
 .exact h.elim
def TX(P:Pg)(l:List nY)(a:Nat->Prop)(f:Nat->Option ic)(n h:Nat)(g:Gr)(w:Wd)(m:fM)(T:jD):Prop :=
 ∃gs b q Mem,m=crowd gs w b/\gs.size=n/\gs[h]?=J g/\Mem h/\(∀i s c,f i=J s->s.has c->∀o∈l,o.bo≠c)/\Ring P (KO l) (SP l a) w.heap.size Mem f h T gs w q
def XP(P:Pg)(p:fM->jD->Prop)(l:List nY)(a:Nat->Prop)(f:Nat->Option ic)(n h:Nat)(g:Gr)(w:Wd):Prop:=∀m T,TX P l a f n h g w m T->sW P p m T
abbrev X(P:Pg)(p:fM->jD->Prop)(l:List nY)(f:Nat->Option ic)(n h:Nat)(g:Gr)(w:Wd):Prop:=XP P p l no f n h g w
theorem PB{a:Nat->Prop}(c:st=true->a=no)(g:l6 P (h==0) (DL st (fb l)) (XP P p l a f n h) t i):XP P p l a f n h t i:=by
 rintro m T ⟨gs,j,q,Mem,rfl,hn,hg,hM,hdis,C⟩;let⟨N,k,B,b,o,D,r,s,u,v,w,x,y⟩:=Xn (sl:=j) (λi d=>KO.at i d) (λi b z A=>KO.dl i b z A) (λe=>by rw[c e];exact Wv l) g hg C;exact(w _ _ ⟨k,o,r,Mem,Z,u.trans hn,v,hM,hdis,y⟩).back s x
theorem vp(a:l6 P (h==0) (DL st (fb l)) (X P p l f n h) t i):X P p l f n h t i:=PB (λ_=>rfl) a
theorem JP{a₂:Gr}{j c kk nh:Nat}{s sh:ic}{v z z':Vu}(x:j≠h)(y:j<n)(w:f j=J s)(A:s.cases[kk]?=J (mK c z))(D:t.status=.running)(E:∀d,bH P (h==0) t (i.at d)=.comm a₂ #[scase c v z'] true .send (i.at d) #[])(F:f h=J sh)(H:∀B,(∀o∈l,o.bo<B)->Sits P (h==0) (KO l) (SP l no) B sh nh (bI a₂ Ud))(I:∀r d a k,s.home r->i.heap[c]?=J (.chan a #[] false k k false)->X P p l f n j (bI r (ik s.cases s.shape kk v true)) ((i.at d).setChan c a #[] false (k+1) (k+1) false)):X P p l f n h t i:=by
 rintro m T ⟨gs,K,q,Mem,rfl,hn,hg,hM,hdis,C⟩;obtain⟨N,m',L,R,S,r,d,k,a,W,G,rfl,M,a',b',u,C'⟩:=give (sl:=K) (λi d=>KO.at i d) (λi c' s c a e' cl t b tm hi u hK=>KO.chan (hdis c' s c hi u) a e' cl t b tm hK) x (hn▸y) w A hM hg D E (λe he=>by simp at he) C
  (Inb':=f) (λ_ _=>rfl) (.inl Z) (nh:=nh) λL _=>by rw[F];exact H _ λo ho=>C.keep.lt ho
 refine(I r d a k b' u _ _ ⟨S,W,G,λg=>Mem g/\(f g≠Q\/g=j),Z,M.trans hn,a',⟨(C.mem j s w).1,.inr Z⟩,hdis,?_⟩).back R ⟨Z,Z,Z⟩;have e:((i.at d).setChan c a #[] false (k+1) (k+1) false).heap.size=i.heap.size:=by simp[dC,World.at]
 rw[e];exact C'
theorem Vl{j kk:Nat}{z:Vu}{s D:ic}(y:j≠h)(F:j<n)(E:f j=J s)(H:s.cases[kk]?=J (mK b z))(I:t.status=.running)(K:mayWake P t=true)(L:u.status=.running)(A:i.heap[b]?=J (.chan c #[] false a a false))(R:∀k,bH P (h==0) t (i.at k)=.go u ((i.at k).setChan b c #[] true a a false) (il b))(S:f h=J D)(W:∀B,(∀o∈l,o.bo<B)->Sits P (h==0) (KO l) (SP l no) B D d u)(G:∀v k,s.home v->X P p l (aj f j Q) n j (bI v (ik s.cases s.shape kk z false)) ((i.at k).setChan b c #[] true a a false)):X P p l f n h t i:=by
 rintro m T ⟨gs,M,q,Mem,rfl,hn,hg,hM,hdis,C⟩;let⟨N,a',v,k,b',T',q',hr,g',h',i',C'⟩:=give_close (sl:=M) (λi k=>KO.at i k) (λi w s b c j' cl t d' tm r A hK=>KO.chan (hdis w s b r A) c j' cl t d' tm hK) y (hn▸F) E H hM hg I K L A R C
  (Inb':=aj f j Q) (λx _ hx=>az f _ hx) (.inl (az f _ (aA y))) (aH f j _) (nh:=d) λT' _=>by rw[az f _ (aA y),S];exact W _ λo ho=>C.keep.lt ho
 refine(G v k i' _ _ ⟨a',b',q',λg=>Mem g/\(aj f j Q g≠Q\/g=j),Z,g'.trans hn,h',⟨(C.mem j s E).1,.inr Z⟩,λw s' c' r=>?_,?_⟩).back hr ⟨Z,Z,Z⟩
 rotate_left
 .have e:((i.at k).setChan b c #[] true a a false).heap.size=i.heap.size:=by simp[dC,World.at]
  rw[e];exact C'
 .by_cases e:w=j
  .subst e;rw[aH]at r;cases r
  .rw[az f _ e]at r;exact hdis w s' c' r
theorem td{j c kk nh:Nat}{z:Vu}{s:ic}(B:0<h)(w:j≠h)(D:j<n)(y:f j=J s)(E:s.cases[kk]?=J (mK c z))(F:t.status=.running)(H:mayWake P t=true)(I:u.status=.running)(v:i.heap[c]?=J (.chan b #[] false a a false))(K:∀d,bH P (h==0) t (i.at d)=.go u ((i.at d).setChan c b #[] true a a false) (il c))(j':QuitsD P nh 0 u)(L:∀r d,s.home r->X P p l (aj (aj f j Q) h Q) n j (bI r (ik s.cases s.shape kk z false)) ((i.at d).setChan c b #[] true a a false)):X P p l f n h t i:=by
 rintro m T ⟨gs,R,q,Mem,rfl,hn,hg,hM,hdis,C⟩;let⟨N,S,r,d,W,G,M,hr,b',d',e',C'⟩:=give_close (sl:=R) (λi d=>KO.at i d) (λi o s c b g' cl t a' tm k v hK=>KO.chan (hdis o s c k v) b g' cl t a' tm hK) w (hn▸D) y E hM hg F H I v K C
  (Inb':=aj (aj f j Q) h Q) (λx i' hx=>by rw[az _ _ i',az f _ hx]) (.inr (aH _ h _)) (by rw[az _ _ w,aH]) (nh:=nh) λG hD=>by rw[aH];exact⟨B,by grind⟩
 refine(L r d e' _ _ ⟨S,W,M,λg=>Mem g/\(aj (aj f j Q) h Q g≠Q\/g=j),Z,b'.trans hn,d',⟨(C.mem j s y).1,.inr Z⟩,λo s' c' k=>?_,?_⟩).back hr ⟨Z,Z,Z⟩
 rotate_left
 .have e:((i.at d).setChan c b #[] true a a false).heap.size=i.heap.size:=by simp[dC,World.at]
  rw[e];exact C'
 .by_cases A:o=h
  .subst A;rw[aH]at k;cases k
  .rw[az _ _ A]at k
   by_cases e:o=j
   .subst e;rw[aH]at k;cases k
   .rw[az f _ e]at k;exact hdis o s' c' k
theorem Jl(s:ic)(g:s.Wf)(j:∀a b c,a≠h->f a=J b->b.has c->¬s.has c)(r:∀c,s.has c->∃u k,i.heap[c]?=J (.chan u #[] false k k false))(z:∀c,s.has c->∀o∈l,o.bo≠c)(v:X P p l (aj f h (J s)) n h t i):X P p l f n h t i:=by
 rintro m T ⟨gs,w,q,Mem,rfl,hn,hg,hM,hdis,C⟩;have x:∀c,s.has c->c<i.heap.size:=λc y=>by
  grind
 refine v _ _ ⟨gs,w,q,Mem,Z,hn,hg,hM,λa b c d y=>?_,C.reseat hM s g j r x⟩
 by_cases e:a=h
 .subst e;rw[aH]at d;grind
 .rw[az f _ e]at d;grind
theorem SL(b:Nat)(d:i.heap.size<=b)(a:XP P p l (·=b) f n h t i):X P p l f n h t i:=by
 rintro m T ⟨gs,c,q,Mem,rfl,hn,hg,hM,hdis,C⟩;refine a _ _ ⟨gs,c,q,Mem,Z,hn,hg,hM,hdis,ML C (λ_ h=>h) C.keep ?_ ?_ (af _)⟩
 .rintro x (h|⟨_,_,h,_⟩)
  .exact .inl h
  .exact h.elim
 .rintro x (h|⟨e,g,rfl,hi,rfl⟩)
  .exact .inl (.inl h)
  grind
theorem Uc(o:nY)(j:KO [o] i)(v:∀d s c,f d=J s->s.has c->o.bo≠c)(k:X P p (o::l) f n h t i):XP P p l (·=o.bo) f n h t i:=by
 rintro m T ⟨gs,r,q,Mem,rfl,hn,hg,hM,hd,C⟩;refine k _ _ ⟨gs,r,q,Mem,Z,hn,hg,hM,λd s c g w e a=>?_,ML C (λi u e a=>u e (ah _ a)) ?_ ?_ ?_ (af _)⟩
 .grind
 .intro e a;rcases ae.1 a with rfl|a
  .exact j _ (ao ..)
  .exact C.keep e a
 .rintro x (⟨e,a,d,g,rfl⟩|⟨b,d,rfl,g,rfl⟩)
  .exact .inl ⟨e,ah _ a,d,g,Z⟩
  .exact .inl ⟨o,ao ..,d,g,Z⟩
 .rintro x (⟨e,a,d,g,rfl⟩|⟨_,_,h,_⟩)
  .rcases ae.1 a with rfl|a
   .exact .inl (.inr ⟨_,d,Z,g,Z⟩)
   .exact .inl (.inl ⟨e,a,d,g,Z⟩)
  .exact h.elim
theorem US{nc:Nat}(w:t.status=.running)(x:∀d,bH P (h==0) t (i.at d)=.spawn u v (i.at d) #[])(a:ic)(y:a.Wf)(z:∀b s c,f b=J s->s.has c->¬a.has c)(A:∀c,a.has c->∃D k,i.heap[c]?=J (.chan D #[] false k k false))(j:∀c,a.has c->∀o∈l,o.bo≠c)(E:∀B,(∀o∈l,o.bo<B)->Sits P false (KO l) (SP l no) B a nc v)(F:∀d,X P p l (aj f n (J a)) (n+1) h u (i.at d)):X P p l f n h t i:=by
 rintro m T ⟨gs,H,q,Mem,rfl,hn,hg,hM,hdis,C⟩;subst hn
 let⟨N,I,d,K,T',L,R,S,W,G⟩:=hire (sl:=H) (λi d=>KO.at i d) hM hg w x (λe M=>by simp at M) C a y z A (λc r=>by
  grind) (E _ λo j=>C.keep.lt j)
 refine(F d _ _ ⟨I,K,L,_,Z,S,W,.inl hM,λb s c g r=>?_,G⟩).back R ⟨Z,Z,Z⟩
 by_cases e:b=gs.size
 .subst e;rw[aH]at g;cases Ze g;exact j c r
 .rw[az f _ e]at g;exact hdis b s c g r
end
section
open Go.Conc
variable{P:Pg}{s:Bool}{sft:Nat->Nat}{z:Bool}{Stop:Gr->Wd->Prop}{b:Fm'}{a:db}{k:List bm}{A:List Fm'}{w:Wd}{B:Array aN}{i:Nat}{C:List Nat}{o:aN}
def iv(P:Pg)(z:Bool)(s:Bool)(sft:Nat->Nat)(Stop:Gr->Wd->Prop)(g:Gr)(w:Wd):Prop:=∀d,l6 P z (DL s sft) Stop g (w.at d)
theorem Jf(h:iv P z s sft Stop t w):l6 P z (DL s sft) Stop t w:=h w.drawn
theorem NQ{Stop':Gr->Wd->Prop}(h:∀d,l6 P z (DL s sft) Stop' t (w.at d))(f:∀c e,Stop' c e->iv P z s sft Stop c e):iv P z s sft Stop t w :=
 λd=>(h d).then λc e g=>Jf (f c e g)
theorem XJ{w:Wd}:DL s sft w w #[]:=⟨.refl _ _,λe c=>by simp at c,Z⟩
theorem sA(f:t.status=.running)(h:∀e,bH P z t e=.go u e #[])(g:iv P z s sft Stop u w):iv P z s sft Stop t w:=λd =>
 .step (λ_=>u) (λc=>w.at c) (λ_=>#[]) f (λc=>h _) (λc=>XJ) λc=>g c
theorem DO(h:iv P z s sft Stop (G (b.at a k) A) w):iv P z s sft Stop (G (b.at a (.code .skip::k)) A) w:=sA Z (λ_=>stepG_skip) h
theorem b5j{id:Nat}(h:iv P z s sft Stop (G (b.at a k) A) w):iv P z s sft Stop (G (b.at a (.inBlock id::k)) A) w:=sA Z (λ_=>stepG_inBlock) h
theorem B6{y:jx}(h:iv P z s sft Stop (G (b.at a (.code W::.code y::k)) A) w):iv P z s sft Stop (G (b.at a (.code (.seq W y)::k)) A) w:=sA Z (λ_=>stepG_seq) h
theorem Nk{c:aU}{y:jx}{t:Bool}(d:a.eval c=Bo t)(h:iv P z s sft Stop (G (b.at a (.code (if t then W else y)::k)) A) w):iv P z s sft Stop (G (b.at a (.code (.cond c W y)::k)) A) w:=sA Z (λ_=>fU d) h
theorem c0T{id:Nat}(h:iv P z s sft Stop (G (b.at a (.code W::.inBlock id::k)) A) w):iv P z s sft Stop (G (b.at a (.code (.block id W)::k)) A) w:=sA Z (λ_=>stepG_block) h
theorem c4F(h:iv P z s sft Stop (G (b.at a (.code W::.inLoop W::k)) A) w):iv P z s sft Stop (G (b.at a (.code (.loop W)::k)) A) w:=sA Z (λ_=>stepG_loop) h
theorem QE(h:iv P z s sft Stop (G (b.at a (.code W::.inLoop W::k)) A) w):iv P z s sft Stop (G (b.at a (.inLoop W::k)) A) w:=sA Z (λ_=>stepG_inLoop) h
theorem c4E{id:Nat}{c:List bm}(d:fN id k=J c)(h:iv P z s sft Stop (G (b.at a c) A) w):iv P z s sft Stop (G (b.at a (.code (.exit id)::k)) A) w:=sA Z (λ_=>stepG_exit d) h
theorem uL(h:iv P z s sft Stop (G { b.at a (.code .ret::k) with mode:=.returning } A) w):iv P z s sft Stop (G (b.at a (.code .ret::k)) A) w:=sA Z (λ_=>stepG_ret') h
theorem c7C(h:iv P z s sft Stop (G { b.at a [] with mode:=.returning } A) w):iv P z s sft Stop (G (b.at a []) A) w:=sA Z (λ_=>stepG_end) h
theorem m9{id:Nat}(h:iv P z s sft Stop (G (b.at a (.inRegion B (aM B.size)::k)) A) w):iv P z s sft Stop (G (b.at a (.code (.region id B false)::k)) A) w:=sA Z (λ_=>iH) h
theorem i8(h:iv P z s sft Stop (G (b.at a k) A) w):iv P z s sft Stop (G (b.at a (.inRegion B []::k)) A) w:=sA Z (λ_=>jd) h
theorem Hk(c:B[i]?=J o)(d:bR o (fA B a.tmps)=false)(h:iv P z s sft Stop (G (b.at (a.put o.dst Ud) (.inRegion B C::k)) A) w):iv P z s sft Stop (G (b.at a (.inRegion B (i::C)::k)) A) w:=sA Z (λ_=>stepG_unwanted c d) h
theorem zb{f:bF}{c:mR}{d:Array aU}{m:Array Ti}(n:B[i]?=J o)(p:bR o (fA B a.tmps)=true)(q:b.kind≠.early)(e:o.op=.call { callee:=.value (.func f),args:=d,argTypes:=m })(g:P.funcs[f]?=J c)(j:(c.name== "runtime.NumGoroutine")=false)(r:c.body=J W)(h:iv P z s sft Stop (G (ay P f (d.map a.eval) .normal) (b.at a (.inRegion B (i::C)::k)::A)) w):iv P z s sft Stop (G (b.at a (.inRegion B (i::C)::k)) A) w:=by
 refine sA Z (λu=>?_) h;have l:c.body.isNone=false:=by rw[r];rfl
 rw[stepG_enter n p q (run_call_body e g j l)];have:mM P b.fn a o u=#[]:=by unfold mM;rw[events_call_body e g j l];exact seen_none P _
 rw[this]
theorem X6{d:mR}{todo:List bm}{c:Fm'}{v:Vu}(f:b.kind=.normal)(g:a.defers=[])(j:P.funcs[b.fn]?=J d)(e:ResultsC P d a.tmps v)(h:iv P z s sft Stop (G (c.finish v) A) w):iv P z s sft Stop (G { b.at a todo with mode:=.returning } (c::A)) w :=
 sA Z (λu=>stepG_leave f g j (e u).1 (e u).2) h
theorem Jx(p:Pg)(e:gG f)(W:Prop){F:f->Prop}:∀(w:Wd) (d:Array dr),G8 p False F e ->
  w.heap.size<=(e.runT p w d).1.world.heap.size/\qR sft W (e.runT p w d).1.world.heap.size d (e.runT p w d).2:=by
 have l:∀ {n m:Nat} {d D E:Array dr},qR sft W n d D->n<=m/\qR sft W m D E->n<=m/\qR sft W m d E:=λh u=>⟨u.1,h.trans u.2 u.1⟩
 induction e with
 | pure a=>intro w d h;exact⟨af _,.refl _ _ _ _⟩
 | load m a k g =>
  intro w d h;simp only[aP];split
  .rename_i H;exact l (.uj (B2 H) Zc) (g _ w _ (h _))
  .split
   .rename_i v t I;refine l (λx j=>?_) (g _ w _ (h _));rcases Array.mem_append.1 j with j|j
    .exact .inl j
    .obtain⟨y,K,rfl⟩:=Array.mem_map.1 j;exact .inr ⟨b7k I y (dZ.1 K),by simp⟩
   .exact⟨af _,.refl _ _ _ _⟩
 | store m a x k g=>intro w d h;exact h.1.elim
 | new o k g =>
  intro w d h;simp only[aP];have:=g _ { w with heap:=w.heap.push o } d (h.2 w.heap.size)
  grind
 | shape r k g=>intro w d h;simp only[aP];exact g _ _ _ (h _)
 | freeze a n k g=>intro w d h;exact h.elim
 | frozen a k g=>intro w d h;simp only[aP];exact g _ _ _ (zh (h _))
 | getObj r k g =>
  intro w d h;simp only[aP];split
  .exact⟨af _,.refl _ _ _ _⟩
  .rename_i L;exact l (.sT (Zj L).1) (g _ w _ (h.1 _))
  .exact⟨af _,.refl _ _ _ _⟩
 | setObj r o k g=>intro w d h;exact h.elim
 | choose q k g =>
  intro w d h;simp only[aP];split
  .exact g _ _ _ (h _)
  .exact g _ { w with drawn:=w.drawn+1 } _ (h _)
 | sys c k g=>intro w d h;exact h.elim
 | program k g=>intro w d h;simp only[aP];exact g _ _ _ h
 | mark m k g=>intro w d h;simp only[aP];exact l (.wS h.1) (g w _ h.2.2)
 | halt x=>intro w d h;exact⟨af _,.refl _ _ _ _⟩
theorem GD{u:Wd}{x:Next}(g:qG P (λ_=>false) [] false o.op=true)(_:Clear u)(t:(Ex a.eval o).run P u=.ok x j):∀e∈mM P b.fn a o u,uD sft (s=true) j.heap.size e:=by
 intro e l;have c:G8 P (false=true) (u0 λf=>(λ_=>false:bF->Bool) f=true) (Ex a.eval o):=Dd (P:=P) (S:=λ_=>false) (meths:=[]) (st:=false) id (λf n=>by cases n) (λm p=>by cases p) (λv=>rfl) (λf=>rfl) o g;rw[show(false=true)=False by simp]at c;have d:=(Jx (sft:=sft) P (Ex a.eval o) (s=true) u #[] c).2;have q:e∈((Ex a.eval o).runT P u #[]).2:=zJ l;have r:((Ex a.eval o).runT P u #[]).1=.ok x j:=by simp_all
 rw[r]at d;rcases d e q with h|h
 .simp at h
 .exact h
theorem Qp(f:B[i]?=J o)(g:bR o (fA B a.tmps)=true)(j:b.kind≠.early)(l:qG P (λ_=>false) [] false o.op=true)(m:Clear w)(e:∀d,(Ex a.eval o).run P (w.at d)=.ok (.value y) (w.at d))(h:iv P z s sft Stop (G (b.at (a.put o.dst y) (.inRegion B C::k)) A) w):iv P z s sft Stop (G (b.at a (.inRegion B (i::C)::k)) A) w:=λd =>
 .step (λ_=>G (b.at (a.put o.dst y) (.inRegion B C::k)) A) (λc=>w.at c) (λc=>mM P b.fn a o (w.at c)) Z (λc=>stepG_value f g j (e c))
  (λc=>⟨.refl _ _,GD l (u:=w.at c) m (e c),Z⟩) λc=>h c
theorem C5(g:B[i]?=J o)(j:bR o (fA B a.tmps)=true)(l:b.kind≠.early)(h:∀(d:Nat) (m:db->Wd->Prop),(∀f c,DL s sft (w.at d) c (mM P b.fn a o (w.at d))/\l6 P z (DL s sft) Stop (G (b.at f (.inRegion B C::k)) A) c->m f c)->uponK o a m ((Ex a.eval o).run P (w.at d)))(t:Nat) :
  l6 P z (DL s sft) Stop (G (b.at a (.inRegion B (i::C)::k)) A) (w.at t):=by
 have e:∀d,∃n c p,bH P z (G (b.at a (.inRegion B (i::C)::k)) A) (w.at d)=.go n c p/\DL s sft (w.at d) c p/\l6 P z (DL s sft) Stop n c:=by
  intro d;have:=h d (λf c=>DL s sft (w.at d) c (mM P b.fn a o (w.at d))/\l6 P z (DL s sft) Stop (G (b.at f (.inRegion B C::k)) A) c) λ_ _ x=>x;revert this;generalize q:(Ex a.eval o).run P (w.at d)=r
  cases r with
  | ok x c =>
   cases x with
   | value v=>exact λh=>⟨_,_,_,stepG_value g j l q,h.1,h.2⟩
   | skip=>exact λh=>⟨_,_,_,stepG_none g j l q,h.1,h.2⟩
   | _=>exact λh=>h.elim
  | halt _ _=>exact λh=>h.elim
 exact .step (λd=>(e d).choose) (λd=>(e d).choose_spec.choose) (λd=>(e d).choose_spec.choose_spec.choose) Z (λd=>(e d).choose_spec.choose_spec.choose_spec.1) (λd=>(e d).choose_spec.choose_spec.choose_spec.2.1) λd=>(e d).choose_spec.choose_spec.choose_spec.2.2
theorem Ic(p:B[i]?=J o)(q:bR o (fA B a.tmps)=true)(t:b.kind≠.early)(g:qG P (λ_=>false) [] false o.op=true)(j:Clear w)(h:∀(d:Nat) (f:db->Wd->Prop),(∀e c,c=w.at d/\l6 P z (DL s sft) Stop (G (b.at e (.inRegion B C::k)) A) (w.at d)->f e c)->uponK o a f ((Ex a.eval o).run P (w.at d)))(l:Nat) :
  l6 P z (DL s sft) Stop (G (b.at a (.inRegion B (i::C)::k)) A) (w.at l):=by
 refine C5 p q t (λd f m=>?_) l;have:=h d (λe c=>c=w.at d/\l6 P z (DL s sft) Stop (G (b.at e (.inRegion B C::k)) A) (w.at d)) λ_ _ x=>x;revert this;generalize n:(Ex a.eval o).run P (w.at d)=r
 cases r with
 | ok x c =>
  cases x with
  | value v =>
   rintro⟨rfl,hm⟩;exact m _ _ ⟨⟨.refl _ _,GD g (u:=w.at d) j n,Z⟩,hm⟩
  | skip =>
   rintro⟨rfl,hm⟩;exact m _ _ ⟨⟨.refl _ _,GD g (u:=w.at d) j n,Z⟩,hm⟩
  | _=>exact λh=>h.elim
 | halt _ _=>exact λh=>h.elim
theorem yf(l:sft x.block<=x.off)(q:x.block<j.heap.size)(m:∀e∈N,e=⟨.cell x,true,false⟩):DL true sft j (j.setCell x y) N:=by
 refine⟨⟨λn d g=>?_,by simp[cQ],λn d p g=>?_⟩,λe h=>?_,Z⟩
 .rw[heap_setCell];split
  .rename_i e;rw[g,aF];refine⟨_,Z,?_⟩
   cases d with
   | cells c t f =>
    refine⟨_,Z,?_,λr p=>?_⟩
    all_goals grind
   | _=>rfl
  .exact⟨d,g,.refl _ _⟩
 .simp_all
 .rw[m e h];exact⟨by simp_all,λ_=>⟨l,Z⟩⟩
theorem y8{x:eM}(g:∀e∈N,False)(l:Obj.oc x:=by trivial):DL s sft j (j.alloc x) N:=by
 refine⟨⟨λd f c=>⟨f,?_,.refl _ _⟩,by simp,λd f m c=>?_⟩,λe h=>(g e h).elim,Z⟩
 .have n:=(Zj c).1;show(j.heap.push x)[d]?=_
  grind
 .have c:(j.heap.push x)[d]?=J f:=c
  grind
theorem mc(e:t.status=.running)(h:∀c,bH P z t c=.go u c #[])(f:∀d,l6 P z (DL s sft) Stop u (w.at d)){d0:Nat}:l6 P z (DL s sft) Stop t (w.at d0):=sA e h f d0
theorem mo(j:B[i]?=J o)(l:bR o (fA B a.tmps)=true)(h:∀(d:Nat) (e:db->Wd->Prop),(∀f g,g=w.at d/\l6 P z (DL s sft) Stop (G (b.at f (.inRegion B C::k)) A) (w.at d)->e f g)->uponK o a e ((Ex a.eval o).run P (w.at d)))(m:b.kind≠.early:=by decide)(n:qG P (λ_=>false) [] false o.op=true:=by kernel_rfl):
  l6 P z (DL s sft) Stop (G (b.at a (.inRegion B (i::C)::k)) A) (w.at c):=Ic j l m n nQ h c
def ix:List f->Nat->List Nat
 | [],_=>[]
 | _::l,n=>n::ix l (n+1)
theorem KC:∀(l:List f) (n:Nat),ix l n=ie n l.length
 | [],_=>rfl
 | _::l,n=>by simp only[ix,bQ,List.range'_succ];rw[KC l (n+1)]
theorem rz(l:List f):aM l.toArray.size=ix l 0:=by rw[KC,aR,List.range_eq_range']
end
theorem QC{a:Ti->Option iD}{b:Array Field}{i:iD}(h:nK a b=J i):i.methods=#[]:=by
 unfold nK at h;simp only[bind,bO]at h;let⟨r,_,h⟩:=h;revert h
 repeat' split
 all_goals
  intro h
  first
   | (cases Ze h;rfl)
   | skip
theorem VJ{a:Ti->Option iD}{d:TypeDesc}{i:iD}(h:Made.reckon a d=J i):i.methods=#[]:=by
 unfold Made.reckon at h;split at h
 .simp only[bind,bO]at h;let⟨j,_,h⟩:=h;split at h
  .cases h
  .split at h
   .cases h
   .simp only[bind,bO]at h;let⟨s,_,h⟩:=h;cases Ze h;rfl
  .simp only[bind,bO]at h;let⟨s,_,h⟩:=h;cases Ze h;rfl
 .simp only[bind,bO]at h;let⟨j,_,s,_,h⟩:=h;cases Ze h;rfl
 .simp only[bind,bO]at h;let⟨j,_,s,_,b,_,c,_,h⟩:=h;cases Ze h;rfl
 .simp only[bind,bO]at h;let⟨j,_,s,_,h⟩:=h;cases Ze h;rfl
 .simp only[bind,bO]at h;let⟨s,_,h⟩:=h;cases Ze h;rfl
 .simp only[bind,bO]at h;let⟨j,_,s,_,h⟩:=h;cases Ze h;rfl
 .exact QC h
 .cases h
theorem b3t{T:Tables}{i:iD}(a:T.types.size<=n)(h:T.info? n=J i):i.methods=#[]:=by
 unfold Tables.info? at h;rw[nR (Nat.not_lt.2 a)]at h;unfold Made.depth at h;rw[show(100:Nat)=99+1 from Z,Made.infoAt,nR (Nat.not_lt.2 a)]at h;simp only[bO]at h;let⟨d,_,h⟩:=h;exact VJ h
def Ml:List bF:=[8,10,13,15,17,18,20,22,25,32,37,38,39,40,41,42,43,44,45,47,51,53,55,78,79,80,81,85,86,87,89,90,91,92,93,94,108,109,12,16,33,26,27,28,29,30,31,34,35,36,57,58,59,60,61,62,63,64,65,66,67,68,69,70,71,72,73,74,75,76,77,95,96,97,98,99,100,101,102,103,104,105,110,14,52,48,111,121,123,46,82,83,84,54,118,127,129,130,147,148,149,150,151]
def Sg(f:bF):Bool:=Ml.contains f
def ms:List String:=["Len", "Less", "Swap", "Push", "Pop"]
def LZ(P:Pg)(S:bF->Bool)(b:List String)(f:bF):Bool :=
 match P.funcs[f]? with
 | some a=>!(a.name== "runtime.NumGoroutine")&&(match a.body with|some c=>Z4 P S b true c|none=>false)
 | none=>false
def IP(P:Pg)(S:bF->Bool)(f:bF):Bool :=
 match P.funcs[f]? with
 | some a=>!(a.name== "runtime.NumGoroutine")&&((!a.body.isNone&&S f)||(a.body.isNone&&(nN a).isNone&&(Extern.find a).isNone&&!(a.name.endsWith ".init"&&!a.name.startsWith "("&&!a.name.startsWith "gosem.")))
 | none=>false
def EV(P:Pg)(S:bF->Bool)(a:List String):Bool :=
 P.types.all λi=>i.methods.all λm=>!a.contains m.name||(match m.func with|some (f,_)=>IP P S f|none=>true)
theorem UD{S:bF->Bool}{f:bF}(h:IP H S f=true):wT H (λf=>S f=true) f:=by
 unfold IP at h;split at h
 .rename_i e g;simp only[aC,da,Bool.not_eq_true',Option.isNone_iff_eq_none]at h;let⟨i,j⟩:=h;refine⟨e,g,i,?_⟩;rcases j with⟨a,b⟩|⟨⟨⟨a,b⟩,c⟩,d⟩
  .exact .inl ⟨a,b⟩
  .refine .inr ⟨by rw[a];rfl,b,c,?_⟩;exact d
 .cases h
theorem c0V{S:bF->Bool}{d:List String}(h:EV H S d=true):∀m∈d,AY H (wT H λf=>S f=true) m:=by
 intro g n t i m f b j a o
 by_cases k:t<H.types.size
 .have p:H.types[t]?=J i:=by
   have:H.info? t=_:=j;unfold Tables.info? at this;rw[nT k]at this;exact this
  unfold EV at h;rw[cR]at h;have l:=h i (lW p);rw[cR]at l;have q:m∈i.methods:=Array.mem_of_find?_eq_some a;have c:=l m q;have r:(m.name==g)=true:=by
   have:=Array.find?_some a;exact this
  rw[o]at c;have e:m.name=g:=by simpa using r
  rw[e]at c;have s:d.contains g=true:=by simpa using n
  rw[s]at c;exact UD (by simpa using c)
 .have:=b3t (T:=H.toTables) (Nat.le_of_not_lt k) j;rw[this]at a;simp at a
theorem Zq:Ml.all (LZ V Sg ms)=true:=by kernel_rfl
theorem TP:EV V Sg ms=true:=by kernel_rfl
theorem xa:qm V Sg ms true:=by
 refine⟨λf b=>?_,c0V TP⟩;have h:=aV.1 Zq f (by simpa[Sg] using b);unfold LZ at h;split at h
 .rename_i d e;rw[aC]at h;let⟨g,a⟩:=h;split at a
  .rename_i c i;exact⟨d,c,e,by simpa using g,i,a⟩
  .cases a
 .cases h
section
open Go.Conc Go.RowKit
structure qe (sz:Nat) (env:List (Nat×Vu)) (a:db):Prop where
 size:a.tmps.size=sz
 defers:a.defers=[]
 has:∀p∈env,a.tmps[p.1]?=J p.2
theorem LM:∀ {b:List (Nat×Vu)},b.lookup a=J y->(a,y)∈b
 | [],h=>by cases h
 | (s,x)::b,h=>by
  by_cases e:a=s
  .grind
  .have:(a==s)=false:=by simpa using e
   simp only[List.lookup,this]at h;exact ah _ (LM h)
variable{l:Nat}{j:List (Nat×Vu)}{a:db}
theorem qe.at(h:qe l j a){t:Nat}(b:j.lookup t=J y):a.tmps[t]?=J y:=h.has _ (LM b)
theorem qe.get(h:qe l j a){t:Nat}(b:j.lookup t=J y):a.eval (.tmp t)=y:=by
 show a.tmps.getD t Ud=y;rw[aY,h.at b];rfl
theorem qe.g(h:qe l j a)(t:Nat)(b:j.lookup t=J y):a.eval (.tmp t)=y:=h.get b
theorem qe.put(h:qe l j a)(e:b<l)(v:Vu):qe l ((b,v)::j.filter λp=>p.1 != b) (a.put (J b) v):=by
 refine⟨by simp[dK,h.size],h.defers,λp c=>?_⟩;rcases ae.1 c with rfl|c
 .simp[dK,h.size,e]
 .let⟨f,d⟩:=dD.1 c;have d:p.1≠b:=by simpa using d
  simp only[dK];rw[cX (aA d)];exact h.has p f
variable{l:Bool}{m:Nat->Nat}{Stop:Gr->Wd->Prop}{b:Fm'}{g:Array aN}{i:Nat}{o:aN}{s:List Nat}{k:List bm}{q:List Fm'}{w:Wd}{v:Vu}
theorem xm(c:g[i]?=J o)(e:bR o (fA g a.tmps)=true)(f:b.kind≠.early)(n:qG V (λ_=>false) [] false o.op=true)(p:∀d,(Ex a.eval o).run V (w.at d)=.ok (.value v) (w.at d))(h:iv V l true m Stop (G (b.at (a.put o.dst v) (.inRegion g s::k)) q) w):iv V l true m Stop (G (b.at a (.inRegion g (i::s)::k)) q) w:=Qp c e f n nQ p h
theorem B7{g:Array aN}{o:aN}{a:db}(c:o.guard=Q):bR o (fA g a.tmps)=true:=by unfold bR;rw[c]
theorem X1{o:aN}{a:db}{x:aU}{v:Vu}{w:Wd}(c:o.op=.move x)(d:a.eval x=v):(Ex a.eval o).run H w=.ok (.value v) w:=by
 unfold Ex;simp only[c,d];rfl
theorem zW{o:aN}{a:db}{x:aU}{v:Vu}{w:Wd}(c:o.op=.assign x)(d:a.eval x=v):(Ex a.eval o).run H w=.ok (.value v) w:=by
 unfold Ex;simp only[c,d];rfl
theorem FA{o:aN}{a:db}{x:aU}{i:Nat}{v:Vu}{w:Wd}(c:o.op=.extract x i)(d:a.eval x=.tuple I)(e:I[i]?=J v):(Ex a.eval o).run H w=.ok (.value v) w:=by
 unfold Ex;simp only[c,d,e];go_simp
theorem Ue{o:aN}{a:db}{x:aU}{e:Ti}{f:Option cC}{w:Wd}(h:o.op=.call { callee:=.builtin .len,args:=#[x],argTypes:=#[n] })(p:H.underlying n=J (.slice e))(r:a.eval x=.slice f c d):(Ex a.eval o).run H w=.ok (.value (Y U c)) w:=by
 simp[Ex,h,resolve,invoke,builtin,r,kK,goInt,Result.andThen,eT p]
def XB(j:List (Nat×Vu)):List (Nat×Vu)->Prop
 | []=>True
 | p::r=>j.lookup p.1=J p.2/\XB j r
def Bw(D:Nat):List (Nat×Vu)->Bool
 | []=>true
 | p::r=>!(aI p.1 D)&&Bw D r
theorem Mp:∀ {j:List (Nat×Vu)},Bw c j=true->j.filter (λp=>p.1 != c)=j
 | [],_=>rfl
 | p::r,h=>by
  simp only[Bw,aC,Bool.not_eq_true']at h;have d:(p.1 != c)=true:=by
   simp;exact λe=>by simp_all
  have f:=Mp h.2
  grind
abbrev Oi:=List (Nat×Vu)
def UI(t f d:Nat):Prop:=∀b o (w:Wd),(kI t (Po (J (O b o Q))) f).run V w=.ok (Po (J (O b (o+d) Q))) w
end
section
open Go.Conc
def uw(a:Array aN)(listed:Array Bool):List Nat:=(aM a.size).filter λi=>!listed.getD i true
def Ord(a:Array aN)(b:Nat)(listed:Array Bool)(c:List Nat):Prop:=(uw a listed).length<=b/\∃t,c=dI .any a b t listed []
theorem EW{listed:Array Bool}(h:a∈aW .any F listed):a∈uw F listed:=by
 unfold aW at h;unfold uw
 grind
theorem VV{listed:Array Bool}(h:a∈uw F listed):(uw F (listed.setIfInBounds a true)).length+1=(uw F listed).length:=by
 have c:listed.getD a true=false:=by
  have:=(dD.1 h).2;simpa using this
 have d:a<listed.size:=by
  grind
 have e:uw F (listed.setIfInBounds a true)=(uw F listed).erase a:=by
  have b:(uw F listed).Nodup:=nz _ List.nodup_range;rw[List.Nodup.erase_eq_filter b];unfold uw;rw[List.filter_filter];refine List.filter_congr λj _=>?_;rw[aY,aY,fy]
  grind
 grind
theorem Ord.next{listed:Array Bool}{d:List Nat}(h:Ord F a listed d) :
  (d=[]/\aW .any F listed=[])\/∃f i e,i∈aW .any F listed/\d=i::e/\a=f+1/\Ord F f (listed.setIfInBounds i true) e:=by
 obtain⟨m,t,rfl⟩:=h
 cases a with
 | zero =>
  refine .inl ⟨by simp[dI],?_⟩;rw[List.eq_nil_iff_forall_not_mem];intro i b;have:=List.length_pos_of_mem (EW b);omega
 | succ f =>
  simp only[dI]
  cases b:(aW .any F listed)[t%(aW .any F listed).length]? with
  | none =>
   have k:aW .any F listed=[]:=by
    cases l:aW .any F listed with
    | nil=>rfl
    | cons x g =>
     rw[l]at b;have n:t%(x::g).length<(x::g).length:=Nat.mod_lt _ Zc
     grind
   refine .inl ⟨?_,k⟩;have c:=b;unfold aW at c;rw[c];rfl
  | some i =>
   have j:i∈aW .any F listed:=cP b;have o:=VV (EW j);refine .inr ⟨f,i,dI .any F f (t / (aW .any F listed).length) (listed.setIfInBounds i true) [],j,?_,Z,by omega,_,Z⟩;have c:=b;unfold aW at c;rw[c];show dI .any F f (t / (aW .any F listed).length) (listed.setIfInBounds i true) [i]=_;rw[linearise_go_acc,List.reverse_singleton,List.singleton_append]
theorem BV{J:db->List Nat->Prop}{c:Array Bool->db->Prop}(k:∀f listed a i b,i∈aW .any F listed->c listed a->Ord F f (listed.setIfInBounds i true) b->(∀g,c (listed.setIfInBounds i true) g->J g b)->J a (i::b))(l:∀listed a,aW .any F listed=[]->c listed a->J a []) :
  ∀d listed a b,Ord F d listed b->c listed a->J a b:=by
 intro d
 induction d with
 | zero =>
  intro listed a b e j;rcases e.next with⟨rfl,h⟩|⟨f,i,rest',hi,rfl,hf,hO'⟩
  all_goals grind
 | succ f m =>
  intro listed a b e j;rcases e.next with⟨rfl,h⟩|⟨f',i,rest',hi,rfl,hf,hO'⟩
  all_goals grind
theorem xE{listed:Array Bool}(h:a∈aW .any F listed):a<F.size:=eX.1 (dD.1 h).1
theorem Ju{listed:Array Bool}(h:a∈aW .any F listed):listed.getD a true=false:=by
 have:=(dD.1 (EW h)).2;simpa using this
theorem k9{listed:Array Bool}{o:aN}(h:a∈aW .any F listed)(c:F[a]?=J o)(d:(o.after.any λe=>cM .any e&&e.on==b)=true):listed.getD b false=true:=by
 have:=(dD.1 h).2
 grind
theorem V0{listed:Array Bool}(a:(aM F.size).all (λi=>((F[i]?).map (·.after.all λe=>!cM .any e||decide (e.on<i))).getD true)=true)(g:listed.size=F.size)(h:aW .any F listed=[]):∀i,i<F.size->listed.getD i false=true:=by
 intro i
 induction i using Nat.strongRecOn with
 | _ i j =>
  intro b;rw[aV]at a;have c:=a i (eX.2 b);have d:F[i]?=J F[i]:=bE b;rw[d]at c;simp only[aF,cW,cR]at c;have f:i∉aW .any F listed:=by grind
  unfold aW at f
  grind
structure pE (ops:Array aN) (V:Nat->Vu) (base:Array Vu) (listed:Array Bool) (a:db):Prop where
 defs:a.defers=[]
 len:listed.size=ops.size
 size:a.tmps.size=base.size
 done:∀i o t,ops[i]?=J o->o.dst=J t->listed.getD i false=true->t<base.size->a.tmps[t]?=J (V i)
 still:∀t,(∀i o,ops[i]?=J o->o.dst=J t->listed.getD i false=false)->a.tmps[t]?=base[t]?
theorem pE.start(b:Array aN)(a:Nat->Vu)(base:Array Vu):pE b a base (cx b.size false) ⟨base,[]⟩:=by
 refine⟨Z,by simp,Z,λi o t d e c _=>?_,λ_ _=>rfl⟩;rw[aY,gq]at c
 grind
theorem pE.val{b V':Nat->Vu}{base:Array Vu}{listed:Array Bool}{a:db}(h:pE F b base listed a)(d:∀i,listed.getD i false=true->V' i=b i):pE F V' base listed a :=
 ⟨h.defs,h.len,h.size,λi o t e f c g=>by rw[d i c];exact h.done i o t e f c g,h.still⟩
def ux(a:Array aN):Bool:=(aM a.size).all λi=>(aM a.size).all λj=>i==j||(match a[i]?,a[j]? with|some oi,some oj=>(match oi.dst,oj.dst with|some s,some t=>s != t|_,_=>true)|_,_=>true)
theorem Tw(h:ux F=true){d e:aN}(f:F[a]?=J d)(g:F[b]?=J e)(j:d.dst=J c)(k:e.dst=J c):a=b:=by
 unfold ux at h;rw[aV]at h;have i:=(Zj f).1;have l:=(Zj g).1;have m:=h a (eX.2 i)
 grind
theorem pE.put{b:Nat->Vu}{base:Array Vu}{listed:Array Bool}{l:db}(h:pE F b base listed l)(p:ux F=true){o:aN}(m:F[a]?=J o){v:Vu}(q:b a=v):pE F b base (listed.setIfInBounds a true) (l.put o.dst v):=by
 subst q;have w:a<listed.size:=by rw[h.len];grind
 have r:∀j,(listed.setIfInBounds a true).getD j false=if a=j then true else listed.getD j false:=λj=>by
  rw[aY,fy]
  by_cases e:a=j
  all_goals simp_all
 refine⟨?_,by simp[h.len],?_,λj c t f g i n=>?_,λt x=>?_⟩
 .unfold dK;split<;>exact h.defs
 .unfold dK;split<;>simp[h.size]
 .rw[r]at i
  by_cases e:a=j
  .subst e;rw[m]at f;cases Ze f;unfold dK;rw[g];simp[h.size,n]
  .rw[nR e]at i;have k:=h.done j c t f g i n;unfold dK;split
   .rename_i d s;have:d≠t:=λu=>e (Tw p m f (u▸s) g)
    grind
   .exact k
 .have k:∀j c,F[j]?=J c->c.dst=J t->listed.getD j false=false:=λj c f g=>by
   grind
  have y:=h.still t k;unfold dK
  grind
theorem pE.tmp{b:Nat->Vu}{base:Array Vu}{listed:Array Bool}{c:db}(h:pE F b base listed c){j:Nat}{o:aN}(d:F[j]?=J o)(e:o.dst=J a)(f:listed.getD j false=true)(g:a<base.size)(i:b j=y):c.eval (.tmp a)=y:=by
 show c.tmps.getD a Ud=y;rw[aY,h.done j o a d e f g,←i];rfl
theorem pE.base{b:Nat->Vu}{base:Array Vu}{listed:Array Bool}{c:db}(h:pE F b base listed c)(e:((aM F.size).all λi=>((F[i]?).map λo=>o.dst != J a).getD true)=true)(d:base[a]?=J y):c.eval (.tmp a)=y:=by
 show c.tmps.getD a Ud=y;rw[aY,h.still a ?_,d];all_goals grind
def fill(b:Array aN)(a:Nat->Vu)(base:Array Vu):Array dQ:=(base.toList.zipIdx.map λ(x,t)=>match (aM b.size).find? (λi=>((b[i]?).map λo=>o.dst==J t).getD false) with|some i=>a i|none=>x).toArray
theorem pE.full{b:Nat->Vu}{base:Array Vu}{listed:Array Bool}{a:db}(h:pE F b base listed a)(j:∀i,i<F.size->listed.getD i false=true):a=⟨fill F b base,[]⟩:=by
 let⟨l,k⟩:=a;obtain rfl:k=[]:=h.defs;refine congrArg (λx=>(⟨x,[]⟩:db)) ?_;apply Array.ext_getElem?;intro t;rcases bU t base.size with c|c
 rotate_left
 .rw[dJ (by have:=h.size;grind),dJ (by simp[fill];omega)]
 .have e:(fill F b base)[t]?=J (match (aM F.size).find? (λi=>((F[i]?).map λo=>o.dst==J t).getD false) with|some i=>b i|none=>base[t]):=by
   simp only[fill,List.getElem?_toArray,bZ,List.getElem?_zipIdx,aE,Array.getElem?_toList,bE c,aF]
  rw[e]
  cases g:(aM F.size).find? (λi=>((F[i]?).map λo=>o.dst==J t).getD false) with
  | some i =>
   have d:=List.find?_some g;have f:=eX.1 (List.mem_of_find?_eq_some g);rw[bE f]at d;simp only[aF,cW,beq_iff_eq]at d;exact h.done i _ t (bE f) d (j i f) c
  | none =>
   have:=h.still t (λi o m n=>by
    grind)
   grind
theorem vB{listed:Array Bool}(h:a∈aW .any F listed)(b:listed.getD a false=true):False:=by
 have c:=Ju h
 grind
theorem Ch{listed:Array Bool}{o:aN}(h:a∈aW .any F listed)(c:F[a]?=J o){j:Nat}(b:listed.getD j false=false)(d:(o.after.any λe=>cM .any e&&e.on==j)=true):False:=by
 rw[k9 h c d]at b;cases b
theorem Z6{listed:Array Bool}(h:listed.getD b false=true):(listed.setIfInBounds a true).getD b false=true:=by
 rw[aY]at h ⊢
 grind
theorem yY{listed:Array Bool}(h:listed.getD b false=false)(e:a≠b):(listed.setIfInBounds a true).getD b false=false:=by
 simp_all
theorem zk{listed:Array Bool}(h:a∈aW .any F listed):(listed.setIfInBounds a true).getD a false=true:=by
 have b:=Ju h;rw[aY]at b ⊢
 grind
theorem xT(b:H.follows .mixedOrders=true)(a:Array aN)(t:Nat):Ord a a.size (cx a.size false) (fg (H.follows .mixedOrders) a t):=by
 refine⟨?_,t,?_⟩
 .unfold uw
  grind
 .simp only[fg,b,Bool.true_or,if_true];rfl
end
section
open Go.Conc Go.RowKit
theorem I0(h:a<9223372036854775808):IntKind.i64.wrap (a:Int)=a:=by
 simp[IntKind.wrap,IntKind.bits,IntKind.signed];omega
theorem C9{n:Nat}(h:n<9000000000000000000):IntKind.i64.wrap ((n:Int)+1)=((n+1:Nat):Int):=by
 rw[show(n:Int)+1=((n+1:Nat):Int) by omega];exact I0 Za
theorem V9(m j:Nat):(cx m false).getD j false=false:=by
 rw[aY,gq];split<;>rfl
theorem Ee{J:f->List Nat->Prop}{d:Array Bool->f->Prop}(m:∀c listed a i b,i∈aW .any F listed->d listed a->Ord F c (listed.setIfInBounds i true) b->(∀e,d (listed.setIfInBounds i true) e->J e b)->J a (i::b))(l:∀listed a,aW .any F listed=[]->d listed a->J a []) :
  ∀j listed a b,Ord F j listed b->d listed a->J a b:=by
 intro j
 induction j with
 | zero =>
  intro listed a b k g;rcases k.next with⟨rfl,h⟩|⟨c,i,rest',hi,rfl,hf,hO'⟩
  .exact l listed a h g
  .cases hf
 | succ c n =>
  intro listed a b k g;rcases k.next with⟨rfl,h⟩|⟨f',i,rest',hi,rfl,hf,hO'⟩
  .exact l listed a h g
  .obtain rfl:c=f':=by omega
   exact m c listed a i rest' hi g hO' λe o=>n _ e rest' hO' o
theorem vV{w:Wd}(h:Lk T i w)(d:T a=0)(j:(∃c t f,w.heap[a]?=J (.cells c t f))\/∃c t f,i.heap[a]?=J (.cells c t f)):i.heap[a]?=w.heap[a]?:=by
 rcases j with⟨c,t,f,e⟩|⟨c,t,f,e⟩
 .rw[h.heap,d,e];rfl
 .have b:=h.heap a;rw[e,d]at b
  cases g:w.heap[a]? with
  | none=>rw[g]at b;cases b
  | some o =>
   rw[g,aF]at b;rw[e,b,yl (Oj (Ze b).symm nQ)]
theorem j5{w':Wd}{base:Nat}{d:List Vu}(h:i.ownsRow base a b y c d)(e:∀g,y.ownBlock=J g->w'.heap[g]?=i.heap[g]?):w'.ownsRow base a b y c d:=by
 let⟨f,j⟩:=h;refine⟨f,j.imp id ?_⟩;rintro⟨g,k,l,rfl,a1,a2,a3⟩;exact⟨g,k,l,Z,a1,by rw[e g Z];exact a2,a3⟩
theorem j8{base:Nat}{e:List Vu}(h:i.ownsRow base a b y c e){g:Nat}(d:y.ownBlock=J g):base<=g/\g<i.heap.size:=by
 obtain⟨l,⟨rfl,_⟩|⟨f,m,n,rfl,j,k,o⟩⟩:=h
 .cases d
 .obtain rfl:f=g:=Ze d;exact⟨j,(Zj k).1⟩
theorem C7{w:Wd}(l:oP T w k)(h:Lk T i w)(m:Lk T j k)(e:j.heap[a]?=i.heap[a]?):k.heap[a]?=w.heap[a]?:=by
 rw[h.heap,m.heap]at e
 cases d:w.heap[a]? with
 | none =>
  rw[d]at e
  cases n:k.heap[a]? with
  | none=>rfl
  | some o=>rw[n]at e;cases e
 | some o =>
  let⟨p,g,b⟩:=l.same a o d;rw[d,g]at e;rw[g]
  cases o with
  | cells c t f =>
   obtain⟨q,rfl,_,_⟩:=b;simp only[aF,fz,bz,Obj.cells.injEq]at e;obtain⟨rfl,_⟩:=e;rfl
  | _=>(have b:p=_:=b;rw[b])
theorem IU{f:bF}{b:mR}{args:Array Vu}{env:Oi}(d:V.funcs[f]?=J b)(e:b.body=J W)(g:b.ntmps=a)(l:args.size<=a)(i:∀p∈env,args[p.1]?=J p.2):∃c,ay V f args .normal=(aB f).at c [.code W]/\qe a env c:=by
 refine⟨_,enter_at (c:=W) _ d e,?_⟩;refine⟨by simp[g];omega,Z,λp j=>?_⟩;have h:=i p j;have k:=(Zj h).1;simp only[Array.getElem?_append,k,if_true];exact h
theorem GR{base:Nat}{g:List Vu}(h:i.ownsRow base a b y c g)(e:y.ownBlock=J d):∃j t f,i.heap[d]?=J (.cells j t f):=by
 obtain⟨m,⟨rfl,_⟩|⟨k,n,o,rfl,p,l,q⟩⟩:=h
 .cases e
 .obtain rfl:k=d:=Ze e;exact⟨_,_,_,l⟩
variable{P:Pg}{l:List nY}{q s:Bool}{j:Nat->Nat}{Stop:Gr->Wd->Prop}{b:Fm'}{a:db}{n:Array aN}{i:Nat}{o:aN}{r:List Nat}{k:List bm}{p:List Fm'}{w:Wd}{v:Vu}
theorem IY{n:Array aN}{i:Nat}{o:aN}{a:db}{b:Fm'}{r:List Nat}{k:List bm}{p:List Fm'}{q:Bool}{j:Nat->Nat}{w:Wd}{v:Vu}{c:Obj}(g:n[i]?=J o)(m:o.guard=Q)(t:b.kind≠.early)(u:∀d,(Ex a.eval o).run V (w.at d)=.ok (.value v) ((w.at d).alloc c))(x:∀d,(Ex a.eval o).events V (w.at d) #[]=#[])(y:∀d,l6 V q (DL s j) Stop (G (b.at (a.put o.dst v) (.inRegion n r::k)) p) ((w.alloc c).at d))(f:Nat)(z:Obj.oc c:=by trivial) :
  l6 V q (DL s j) Stop (G (b.at a (.inRegion n (i::r)::k)) p) (w.at f) :=
 C5 g (by unfold bR;rw[m]) t (λd B A=>by
  rw[u d]
  exact A _ _ ⟨y8 (λe h=>by rw[listed_none (x d)]at h;simp at h) z,y d⟩) f
theorem OU{f:mR}{m:List bm}{v:Vu}(x:b.kind=.normal)(y:a.defers=[])(z:P.funcs[b.fn]?=J f)(t:∀d,(di f a.tmps).run P (w.at d)=.ok v (w.at d))(h:iv P q s j Stop (G (A.finish v) p) w):iv P q s j Stop (G { b.at a m with mode:=.returning } (A::p)) w:=λd=>by
 refine .step (λ_=>G (A.finish v) p) (λc=>w.at c) (λc=>seen P b.fn ((di f a.tmps).events P (w.at c) #[])) Z (λc=>?_) (λc=>⟨.refl _ _,λe B=>?_,Z⟩) λc=>h c
 .have C:=t c;show bH P q (G { b.at a m with mode:=.returning } (A::p)) (w.at c)=_;simp[G,bH,unwind,doReturn,Frame.at,x,y,z,C,fj]
 .have g:=HT (P:=P) (st:=false) f a.tmps;unfold TT at g;rw[show(false=true)=False by simp]at g;have u:=(Jx (sft:=j) P (di f a.tmps) (s=true) (w.at c) #[] g).2;have D:e∈((di f a.tmps).runT P (w.at c) #[]).2:=zJ B;have E:((di f a.tmps).runT P (w.at c) #[]).1=.ok v (w.at c):=by rw[jr];exact t c
  rw[E]at u;rcases u e D with h|h
  .simp at h
  .exact h
theorem Bm{q s:Bool}{j:Nat->Nat}{Stop:Gr->Wd->Prop}{id:Nat}{w:Wd}(h:∀t d,l6 V q (DL s j) Stop (G (b.at a (.inRegion n (fg (V.follows .mixedOrders) n t)::k)) p) (w.at d))(c:Nat) :
  l6 V q (DL s j) Stop (G (b.at a (.code (.region id n true)::k)) p) (w.at c) :=
 .step (λd=>G (b.at a (.inRegion n (fg (V.follows .mixedOrders) n ((w.at d).tape (w.at d).drawn (.order b.fn id)))::k)) p) (λd=>w.at ((w.at d).drawn+1)) (λ_=>#[]) Z (λd=>stepG_region_draw) (λd=>⟨.of_heap _ Z,λe f=>by simp at f,Z⟩) λd=>h _ _
theorem Dy{ob:Obj}(c:n[i]?=J o)(e:o.guard=Q)(f:b.kind≠.early)(g:∀d,(Ex a.eval o).run V (w.at d)=.ok (.value v) ((w.at d).alloc ob))(m:∀d,(Ex a.eval o).events V (w.at d) #[]=#[])(t:Obj.oc ob)(h:iv V q true j Stop (G (b.at (a.put o.dst v) (.inRegion n r::k)) p) (w.alloc ob)):iv V q true j Stop (G (b.at a (.inRegion n (i::r)::k)) p) w:=λd=>IY c e f g m (λd=>h d) d t
theorem SW{x:Next}{R:Wd->Wd->Prop}(L:n[i]?=J o)(N:o.guard=Q)(S:b.kind≠.early)(T:qG V (λ_=>false) [] true o.op=true)(W:x=.skip\/∃v,x=.value v)(M:Fit j w)(X:∀d v,Lk j v (w.at d)->∃t,(Ex a.eval o).run V v=.ok x t/\R v t)(h:∀d A v t,Lk j v (w.at d)->Lk j t A->oP j (w.at d) A->R v t->iv V q true j Stop (G (b.at (a.put o.dst (match x with|.value v=>v|_=>Ud)) (.inRegion n r::k)) p) A) :
  iv V q true j Stop (G (b.at a (.inRegion n (i::r)::k)) p) w:=λd0=>by
 refine C5 L (B7 N) S (λd K' F=>?_) d0;have ht:G8 V (true=true) (u0 λf=>(λ_=>false:bF->Bool) f=true) (Ex a.eval o):=Dd (P:=V) (S:=λ_=>false) (meths:=[]) (st:=true) id (λf hf=>by cases hf) (λm hm=>by cases hm) (λv=>rfl) (λf=>rfl) o T;have g:Lk j (su j (w.at d) (w.at d).tape) (w.at d):=EG (w:=w.at d) M.soft nQ _;let⟨t,hr,hR⟩:=X d { su j (w.at d) (w.at d).tape with drawn:=(w.at d).drawn } ⟨g.heap,g.soft,g.oc,g.os,g.output⟩;have H:Lk j { su j (w.at d) (w.at d).tape with drawn:=(w.at d).drawn } (w.at d):=⟨g.heap,g.soft,g.oc,g.os,g.output⟩;have B:=DX (sft:=j) V (Ex a.eval o) (true=true) (v:={ su j (w.at d) (w.at d).tape with drawn:=(w.at d).drawn }) (w:=w.at d) #[] ((Ex a.eval o).runT V (w.at d) #[]).1.world.drawn ht H (λ_ _ _=>rfl) Za;have u:((Ex a.eval o).runT V { su j (w.at d) (w.at d).tape with drawn:=(w.at d).drawn } #[]).1=.ok x t:=by rw[jr];exact hr
 have C:((Ex a.eval o).runT V (w.at d) #[]).1=(Ex a.eval o).run V (w.at d):=jr ..;have D:∀e∈mM V b.fn a o (w.at d),e∈((Ex a.eval o).runT V (w.at d) #[]).2:=λe E=>zJ E;revert B u C D;generalize (Ex a.eval o).runT V { su j (w.at d) (w.at d).tape with drawn:=(w.at d).drawn } #[]=rv;generalize (Ex a.eval o).runT V (w.at d) #[]=b';intro B u C D
 cases B with
 | @ok y v2 w2 es' c hp h1 h2 h3 h4 =>
  obtain⟨rfl,rfl⟩:=Result.ok.inj u
  have I:DL true j (w.at d) w2 (mM V b.fn a o (w.at d)):=⟨h2,λe E=>(by
   rcases h3 e (D e E) with h|h
   .simp at h
   .exact h),h4.all⟩
  rw[←C];have K:=(h d w2 _ _ H h1 h2 hR) w2.drawn;rcases W with rfl|⟨z,rfl⟩
  .exact F _ _ ⟨I,K⟩
  .exact F _ _ ⟨I,K⟩
 | panic _ _ _ _=>cases u
 | lost _=>cases u
theorem YG{g:List (Nat×Vu)}{q:Bool}{j:Nat->Nat}{Stop:Gr->Wd->Prop}{b:Fm'}{a:db}{n:Array aN}{i:Nat}{o:aN}{r:List Nat}{k:List bm}{p:List Fm'}{w:Wd}{R:Wd->Wd->Prop}(F:qe c g a)(m:n[i]?=J o)(t:o.guard=Q)(u:b.kind≠.early)(x:qG V (λ_=>false) [] true o.op=true)(y:o.dst=Q)(z:Fit j w)(A:∀d v,Lk j v (w.at d)->∃e,(Ex a.eval o).run V v=.ok .skip e/\R v e)(h:∀d f v e,Lk j v (w.at d)->Lk j e f->oP j (w.at d) f->R v e->iv V q true j Stop (G (b.at a (.inRegion n r::k)) p) f) :
  iv V q true j Stop (G (b.at a (.inRegion n (i::r)::k)) p) w :=
 SW m t u x (.inl Z) z A λd f v e B C D E=>by rw[y];exact h d f v e B C D E
theorem zC(c:n[i]?=J o)(x:Vu):(b.at a (.inRegion n (i::r)::k)).finish x=b.at (a.put o.dst x) (.inRegion n r::k):=by rw[bK,c];rfl
theorem NM{f:bF}{c:mR}{e:Array aU}{g:Array Ti}{vs:Array Vu}(h:n[i]?=J o)(m:o.guard=Q)(t:b.kind≠.early)(u:o.op=.call { callee:=.value (.func f),args:=e,argTypes:=g })(x:V.funcs[f]?=J c)(y:(c.name== "runtime.NumGoroutine")=false)(z:c.body=J W)(A:e.map a.eval=vs)(B:∀d,Stop (G (ay V f vs .normal) (b.at a (.inRegion n (i::r)::k)::p)) (w.at d)):iv V q true j Stop (G (b.at a (.inRegion n (i::r)::k)) p) w:=by
 refine zb h (B7 m) t u x y z ?_;rw[A];exact λd=>.stop (B d)
theorem tH{d:fM->jD->Prop}{e:Nat->Option ic}(h:iv V true true (fb l) (X V d l e c 0) t w):X V d l e c 0 t w:=vp (st:=true) (h w.drawn)
end
section
theorem aa.oB(K:aa)(i:Nat)(a b:Int)(j c:Nat)(h:j≠i):(K.an i a b).F j c=K.F j c:=by
 simp[aa.an,aa.nU,upd,h]
theorem Sq{K:aa}(G:Good K)(i c:Nat)(v:Int):Good (K.nU i c v):=⟨G.dT,G.wr,G.file,G.pL,G.head,G.cnt,G.rd,G.wt,G.oT⟩
theorem YF{K:aa}(G:Good K)(s p:Nat)(f:Int)(b:Bool)(l:p<4)(h:f=-1\/(0<=f/\f<K.nF))(j:b=true->f≠-1):Good (K.fi s p f b):=by
 refine⟨?_,?_,?_,G.pL,G.head,G.cnt,G.rd,G.wt,?_⟩
 .intro i q a d;show upd K.S s (3+p*2) f i (3+q*2)=-1\/_
  by_cases e:i=s/\q=p
  .obtain⟨rfl,rfl⟩:=e;simp only[aa.dT,aa.fi,aa.cf,aa.oW,upd_same];exact h
  .have c:¬(i=s/\3+q*2=3+p*2):=by omega
   simp only[aa.dT,aa.fi,aa.cf,aa.oW,d6 _ c];exact G.dT i q a d
 .intro i q a d
  by_cases e:i=s/\q=p
  .obtain⟨rfl,rfl⟩:=e;simp only[aa.wr,aa.dT,aa.fi,aa.cf,aa.oW,upd_same];exact j
  .have c:¬(i=s/\3+q*2=3+p*2):=by omega
   have g:¬(i=s/\4+q*2=4+p*2):=by omega
   simp only[aa.wr,aa.dT,aa.fi,aa.cf,aa.oW,d6 _ c,d6 _ g];exact G.wr i q a d
 .intro i x a k;have c:¬(i=s/\11+x*2=3+p*2):=by omega
  simp only[aa.file,aa.fi,aa.cf,aa.oW,d6 _ c];exact G.file i x a k
 .intro i a;have c:¬(i=s/\0=3+p*2):=by omega
  have g:¬(i=s/\2=3+p*2):=by omega
  simp only[aa.fi,aa.cf,aa.oW,d6 _ c,d6 _ g];exact G.oT i a
theorem yu(K:aa)(d c:Nat)(v:Int)(i k:Nat):(K.nX d c v).D i k=if i=d/\k=c then v else K.D i k:=rfl
theorem yj{K:aa}(G:Good K)(d c:Nat)(v:Int)(h:(c=0/\0<=v/\v<K.nF)\/(c=1/\0<=v/\v<4)\/(c=2/\0<=v/\v<=4)\/(c=3/\0<=v/\v<=24)\/(c=4/\0<=v/\v<=24)):Good (K.nX d c v):=by
 refine⟨G.dT,G.wr,?_,?_,?_,?_,?_,?_,G.oT⟩
 .intro i x a b;rw[yu];rcases G.file i x a b with k|⟨e,f,g⟩
  .exact bT k
  .refine ba ⟨e,f,?_⟩;split
   .omega
   .exact g
 .intro i a;rw[yu];have:=G.pL i a;split
  .right;show 0<=v/\v<K.nF;omega
  .exact this
 .intro i a;rw[yu];have:=G.head i a;split<;>omega
 .intro i a;rw[yu];have:=G.cnt i a;split<;>omega
 .intro i a;rw[yu];have:=G.rd i a;split<;>omega
 .intro i a;rw[yu];have:=G.wt i a;split<;>omega
theorem Gw{K:aa}(G:Good K)(s x:Nat)(d:Int)(b:Bool)(k:x<4)(h:d=-1\/(0<=d/\d<K.nD/\0<=K.D d.toNat 0)):Good (K.av s x d b):=by
 refine⟨?_,?_,?_,G.pL,G.head,G.cnt,G.rd,G.wt,?_⟩
 .intro i q a f;have c:¬(i=s/\3+q*2=11+x*2):=by omega
  simp only[aa.dT,aa.av,aa.cf,aa.oW,d6 _ c];exact G.dT i q a f
 .intro i q a f;have c:¬(i=s/\3+q*2=11+x*2):=by omega
  have g:¬(i=s/\4+q*2=12+x*2):=by omega
  simp only[aa.wr,aa.dT,aa.av,aa.cf,aa.oW,d6 _ c,d6 _ g];exact G.wr i q a f
 .intro i y a j
  by_cases e:i=s/\y=x
  .obtain⟨rfl,rfl⟩:=e;simp only[aa.file,aa.av,aa.cf,aa.oW,upd_same];exact h
  .have c:¬(i=s/\11+y*2=11+x*2):=by omega
   simp only[aa.file,aa.av,aa.cf,aa.oW,d6 _ c];exact G.file i y a j
 .intro i a;have c:¬(i=s/\0=11+x*2):=by omega
  have g:¬(i=s/\2=11+x*2):=by omega
  simp only[aa.av,aa.cf,aa.oW,d6 _ c,d6 _ g];exact G.oT i a
theorem Ql{K:aa}(G:Good K)(s x d:Nat)(b:Bool)(c:x<4)(f:d<K.nD)(e:0<=K.D d 0)(g:0<=K.D d 3/\K.D d 3<24)(h:0<=K.D d 4/\K.D d 4<24):Good (K.eL s x d b):=by
 have a:Good (K.av s x d b):=Gw G s x d b c (ba ⟨by omega,by omega,by simpa using e⟩);cases b
 .exact yj a d 3 (K.D d 3+1) Za
 .exact yj a d 4 (K.D d 4+1) Za
def rP(a b d:Nat):aa:={ nF:=a,nS:=b,nD:=d,F:=λ_ c=>if c=1 then -1 else 0,S:=λ_ c=>if c=0\/c=19 then 0 else -1,B:=λ_ _=>false,D:=λ_ c=>if c=0 then -1 else 0 }
def K8(a b c:Nat):aa:=(((rP a b c).an 0 1 0).cf 0 0 2).cf 0 2 0
theorem QG(f k l:Nat)(hF:2<=f):Good (K8 f k l):=by
 refine⟨?_,?_,?_,?_,?_,?_,?_,?_,?_⟩
 .intro i p g m;left;have a:¬(i=0/\3+p*2=0):=by omega
  have b:¬(i=0/\3+p*2=2):=by omega
  have j:¬(3+p*2=0\/3+p*2=19):=by omega
  simp only[aa.dT,K8,rP,aa.an,aa.cf,aa.nU,d6 _ a,d6 _ b,nR j]
 .intro i p g m h;cases h
 .intro i x g n;left;have a:¬(i=0/\11+x*2=0):=by omega
  have b:¬(i=0/\11+x*2=2):=by omega
  have j:¬(11+x*2=0\/11+x*2=19):=by omega
  simp only[aa.file,K8,rP,aa.an,aa.cf,aa.nU,d6 _ a,d6 _ b,nR j]
 .intro d c;left;rfl
 .intro d c;show(0:Int)<=0/\(0:Int)<4;omega
 .intro d c;show(0:Int)<=0/\(0:Int)<=4;omega
 .intro d c;show(0:Int)<=0/\(0:Int)<=24;omega
 .intro d c;show(0:Int)<=0/\(0:Int)<=24;omega
 .intro i g h
  by_cases e:i=0
  .subst e;show 0<=(0:Int)/\(0:Int)<f;omega
  .exfalso;apply h;have a:¬(i=0/\0=0):=by omega
   have b:¬(i=0/\0=2):=by omega
   simp only[K8,rP,aa.an,aa.cf,aa.nU,d6 _ a,d6 _ b];rfl
def E6(p:Nat->Bool):Nat->Nat
 | 0=>0
 | n+1=>E6 p n+if p n then 1 else 0
theorem AN(p:Nat->Bool):∀n,E6 p n<=n
 | 0=>af _
 | n+1=>by have:=AN p n;unfold E6;split<;>omega
theorem DE{p q:Nat->Bool}:∀n,(∀j,j<n->p j=q j)->E6 p n=E6 q n
 | 0,_=>rfl
 | n+1,h=>by unfold E6;rw[DE n λj a=>h j Za,h n Za]
theorem MQ{p q:Nat->Bool}(k:Nat):∀n,k<n->(∀j,j<n->j≠k->p j=q j)->E6 q n+(if p k then 1 else 0)=E6 p n+(if q k then 1 else 0)
 | 0,h,_=>by omega
 | n+1,h,e=>by
  unfold E6
  by_cases a:k=n
  .subst a;rw[DE k λj b=>e j Za Za];omega
  .have d:=MQ k n Za λj b c=>e j Za c
   grind
theorem Iv{p:Nat->Bool}:∀n,E6 p n=0->∀j,j<n->p j=false
 | 0,_,j,hj=>by omega
 | n+1,h,j,hj=>by
  unfold E6 at h
  by_cases e:j=n
  .grind
  .exact Iv n Za j Za
def aa.oI(K:aa)(d:Nat)(b:Bool)(j:Nat):Bool:=K.file (j / 4) (j%4)==(d:Int)&&K.end (j / 4) (j%4)==b
def aa.ends(K:aa)(d:Nat)(b:Bool):Nat:=E6 (K.oI d b) (K.nS*4)
structure Inv (K:aa):Prop where
 mL:Good K
 hS:K.nS<=6
 tD:∀d,d<K.nD->K.D d 3=K.ends d false
 tx:∀d,d<K.nD->K.D d 4=K.ends d true
theorem Jw{K a:aa}(c:a.nS=K.nS)(h:∀i x,i<K.nS->x<4->a.file i x=K.file i x/\a.end i x=K.end i x)(d:Nat)(b:Bool):a.ends d b=K.ends d b:=by
 unfold aa.ends;rw[c];refine DE _ λj e=>?_;unfold aa.oI
 grind
theorem Inv.of{K a:aa}(I:Inv K)(G:Good a)(c:a.nS=K.nS)(e:a.nD=K.nD)(h:∀i x,i<K.nS->x<4->a.file i x=K.file i x/\a.end i x=K.end i x)(f:∀d,d<K.nD->a.D d 3=K.D d 3/\a.D d 4=K.D d 4):Inv a:=by
 refine⟨G,by rw[c];exact I.hS,λd b=>?_,λd b=>?_⟩
 .rw[e]at b;rw[(f d b).1,I.tD d b,Jw c h]
 .rw[e]at b;rw[(f d b).2,I.tx d b,Jw c h]
theorem yK(K:aa)(s x:Nat)(d:Int)(b:Bool)(i y:Nat)(a:y<4)(c:x<4):(K.av s x d b).file i y=if i=s/\y=x then d else K.file i y:=by
 show upd K.S s (11+x*2) d i (11+y*2)=_;unfold upd aa.file
 by_cases e:i=s/\y=x
 .rw[nT e,nT Za]
 .rw[nR e,nR Za]
theorem CN(K:aa)(s x:Nat)(d:Int)(b:Bool)(i y:Nat)(a:y<4)(c:x<4):(K.av s x d b).end i y=if i=s/\y=x then b else K.end i y:=by
 show upd K.B s (12+x*2) b i (12+y*2)=_;unfold upd aa.end
 by_cases e:i=s/\y=x
 .rw[nT e,nT Za]
 .rw[nR e,nR Za]
theorem Dw(K:aa)(s x:Nat)(a:Int)(c:Bool)(p:s<K.nS)(i:x<4)(d:Nat)(b:Bool) :
  (K.av s x a c).ends d b+(if K.file s x=d/\K.end s x=b then 1 else 0)=K.ends d b+(if a=d/\c=b then 1 else 0):=by
 have h:=MQ (p:=K.oI d b) (q:=(K.av s x a c).oI d b) (s*4+x) (K.nS*4) Za (λj q r=>by
  unfold aa.oI;have e:¬(j / 4=s/\j%4=x):=by omega
  rw[yK K s x a c _ _ Za i,CN K s x a c _ _ Za i,nR e,nR e])
 have k:(s*4+x) / 4=s:=by omega
 have l:(s*4+x)%4=x:=by omega
 have m:∀(u v:Int) (f g:Bool),(u==v&&f==g)=decide (u=v/\f=g):=λu v f g=>by
  grind
 have n:K.oI d b (s*4+x)=decide (K.file s x=d/\K.end s x=b):=by
  unfold aa.oI;grind
 have o:(K.av s x a c).oI d b (s*4+x)=decide (a=d/\c=b):=by
  unfold aa.oI;rw[k,l,yK K s x a c _ _ i i,CN K s x a c _ _ i i,nT ⟨Z,Z⟩,nT ⟨Z,Z⟩];exact m _ _ _ _
 rw[n,o]at h;simp only[decide_eq_true_eq]at h;exact h
theorem Inv.bounds{K:aa}(I:Inv K){d:Nat}(b:Bool):K.ends d b<=24:=by
 have:=AN (K.oI d b) (K.nS*4);have:=I.hS;unfold aa.ends;omega
theorem Inv.room{K:aa}(I:Inv K)(f:a<K.nS)(g:b<4)(i:K.file a b=-1)(d:Nat)(c:Bool):K.ends d c<24:=by
 have h:=Dw K a b d c f g d c;rw[nR (by rw[i];omega),nT ⟨Z,Z⟩]at h;have:=AN ((K.av a b d c).oI d c) (K.nS*4);have e:(K.av a b d c).ends d c=E6 ((K.av a b d c).oI d c) (K.nS*4):=Z;have:=I.hS;omega
theorem uz(K:aa)(d:Nat)(b:Bool)(m:Int)(i:Nat):(K.count d b m).D i 3=(if i=d/\b=false then K.D d 3+m else K.D i 3)/\(K.count d b m).D i 4=(if i=d/\b=true then K.D d 4+m else K.D i 4):=by
 cases b
 .simp[aa.count,aa.nX,upd]
 .simp[aa.count,aa.nX,upd]
theorem Q2(K:aa)(d:Nat)(b:Bool)(m:Int):(K.count d b m).nF=K.nF/\(K.count d b m).nS=K.nS/\(K.count d b m).nD=K.nD/\(K.count d b m).S=K.S/\(K.count d b m).B=K.B/\(K.count d b m).F=K.F:=by
 cases b<;>exact⟨Z,Z,Z,Z,Z,Z⟩
theorem Er{K:aa}:(K.count a p C).ends b q=K.ends b q:=by
 cases p<;>rfl
theorem EL{K:aa}(I:Inv K)(e:Bool)(i:a<K.nS)(g:b<4)(j:c<K.nD)(o:0<=K.D c 0)(n:K.file a b=-1):Inv (K.eL a b c e):=by
 have p:=I.tD c j;have q:=I.tx c j;have r:=I.room i g n c false;have s:=I.room i g n c true;have G:=Ql I.mL a b c e g j o Za Za;have E:∀d f,(K.eL a b c e).ends d f=K.ends d f+(if c=d/\e=f then 1 else 0):=λd f=>by
  unfold aa.eL;rw[Er];have h:=Dw K a b c e i g d f
  grind
 have k:=Q2 (K.av a b c e) c e 1;refine⟨G,by show((K.av a b c e).count c e 1).nS<=6;rw[k.2.1];exact I.hS,λd l=>?_,λd l=>?_⟩
 .have m:d<K.nD:=by have:d<((K.av a b c e).count c e 1).nD:=l;rw[k.2.2.1]at this;exact this
  rw[E d false];show((K.av a b c e).count c e 1).D d 3=_;rw[(uz _ c e 1 d).1];have:=I.tD d m;show(if d=c/\e=false then K.D c 3+1 else K.D d 3)=_
  grind
 .have m:d<K.nD:=by have:d<((K.av a b c e).count c e 1).nD:=l;rw[k.2.2.1]at this;exact this
  rw[E d true];show((K.av a b c e).count c e 1).D d 4=_;rw[(uz _ c e 1 d).2];have:=I.tx d m;show(if d=c/\e=true then K.D c 4+1 else K.D d 4)=_
  grind
theorem U6{K:aa}(I:Inv K):Inv (K.nU a b C):=I.of (Sq I.mL a b C) Z Z (λ_ _ _ _=>⟨Z,Z⟩) λ_ _=>⟨Z,Z⟩
theorem xL{K:aa}(I:Inv K)(i:Nat)(a b:Int):Inv (K.an i a b) :=
 U6 (U6 (U6 (U6 (U6 (U6 I)))))
theorem SD{K:aa}(I:Inv K)(g h:Nat):Inv (K.nV g h):=U6 (U6 (U6 (U6 I)))
theorem GU{K:aa}(I:Inv K)(s p:Nat)(f:Int)(b:Bool)(a:p<4)(c:f=-1\/(0<=f/\f<K.nF))(d:b=true->f≠-1):Inv (K.fi s p f b) :=
 I.of (YF I.mL s p f b a c d) Z Z (λi x _ e=>⟨d6 (f:=K.S) (i:=s) (c:=3+p*2) (v:=f) i (b:=11+x*2) Za,d6 (f:=K.B) (i:=s) (c:=4+p*2) (v:=b) i (b:=12+x*2) Za⟩) λ_ _=>⟨Z,Z⟩
theorem FD{K:aa}(I:Inv K)(d c:Nat)(h:(c=1/\0<=C/\C<4)\/(c=2/\0<=C/\C<=4)):Inv (K.nX d c C) :=
 I.of (yj I.mL d c C Za) Z Z (λ_ _ _ _=>⟨Z,Z⟩) λi _=>⟨d6 (f:=K.D) (i:=d) (c:=c) (v:=C) i (b:=3) Za,d6 (f:=K.D) (i:=d) (c:=c) (v:=C) i (b:=4) Za⟩
theorem c0A{K:aa}(G:Good K)(i c:Nat)(v:Int)(k:c=0\/c=1\/c=2\/c=19)(f:∀j,j<K.nS->(K.cf i c v).S j 0≠0->0<=(K.cf i c v).S j 2/\(K.cf i c v).S j 2<K.nF):Good (K.cf i c v):=by
 have d:∀j p,p<4->(K.cf i c v).dT j p=K.dT j p:=λj p d=>d6 (f:=K.S) (i:=i) (c:=c) (v:=v) j (b:=3+p*2) Za;have g:∀j x,x<4->(K.cf i c v).file j x=K.file j x:=λj x e=>d6 (f:=K.S) (i:=i) (c:=c) (v:=v) j (b:=11+x*2) Za;exact⟨λj p a b=>by rw[d j p b];exact G.dT j p a b,λj p a b h=>by rw[d j p b];exact G.wr j p a b h,λj x a e=>by rw[g j x e];exact G.file j x a e,G.pL,G.head,G.cnt,G.rd,G.wt,f⟩
theorem Ct{K:aa}(I:Inv K)(i c:Nat)(v:Int)(a:c=0\/c=1\/c=2\/c=19)(b:∀j,j<K.nS->(K.cf i c v).S j 0≠0->0<=(K.cf i c v).S j 2/\(K.cf i c v).S j 2<K.nF):Inv (K.cf i c v) :=
 I.of (c0A I.mL i c v a b) Z Z (λj x _ d=>⟨d6 (f:=K.S) (i:=i) (c:=c) (v:=v) j (b:=11+x*2) Za,Z⟩) λ_ _=>⟨Z,Z⟩
theorem FV{K:aa}(I:Inv K)(i c:Nat)(v:Int)(e:c=1\/c=19):Inv (K.cf i c v) :=
 Ct I i c v Za (λj a h=>by
  have b:(K.cf i c v).S j 0=K.S j 0:=d6 (f:=K.S) (i:=i) (c:=c) (v:=v) j (b:=0) Za;have d:(K.cf i c v).S j 2=K.S j 2:=d6 (f:=K.S) (i:=i) (c:=c) (v:=v) j (b:=2) Za
  rw[b]at h;rw[d];exact I.mL.oT j a h)
theorem NN{K:aa}(I:Inv K)(i:Nat)(v:Int)(b:K.S i 0≠0):Inv (K.cf i 0 v) :=
 Ct I i 0 v Za (λj a h=>by
  have c:(K.cf i 0 v).S j 2=K.S j 2:=d6 (f:=K.S) (i:=i) (c:=0) (v:=v) j (b:=2) Za;rw[c]
  by_cases e:j=i
  .subst e;exact I.mL.oT j a b
  .have d:(K.cf i 0 v).S j 0=K.S j 0:=d6 (f:=K.S) (i:=i) (c:=0) (v:=v) j (b:=0) Za
   rw[d]at h;exact I.mL.oT j a h)
theorem TW{K:aa}(I:Inv K)(d:b<4)(e:c<K.nF):Inv (qb K a b c).K:=by
 unfold qb;split
 .exact I
 split
 .exact I
 exact GU (xL I c 2 a) a b c true d (ba ⟨by omega,by show(c:Int)<K.nF;omega⟩) Za
theorem Oa{K:aa}(I:Inv K)(c:b<4):Inv (K.oz a b):=by
 unfold aa.oz;exact GU (xL I _ 0 (-1)) a b (-1) false c (bT Z) (by intro h;cases h)
theorem YL{K:aa}(I:Inv K)(c:b<4):Inv (O0 K a b).K:=by
 unfold O0;split
 .exact I
 exact Oa I c
theorem SF{K:aa}(I:Inv K)(v:Int)(j:d<4):Inv (B5 K a d v).K:=by
 unfold B5;split
 .exact I
 rename_i h;have e:∀i q,q<4->¬(i=a/\q=d)->(K.oW a (4+d*2) (v != 0)).wr i q=K.wr i q:=λi q b e=>d6 (f:=K.B) (i:=a) (c:=4+d*2) i (b:=4+q*2) Za;refine I.of ⟨I.mL.dT,λi q g b c=>?_,I.mL.file,I.mL.pL,I.mL.head,I.mL.cnt,I.mL.rd,I.mL.wt,I.mL.oT⟩ Z Z (λi x _ k=>⟨Z,d6 (f:=K.B) (i:=a) (c:=4+d*2) i (b:=12+x*2) Za⟩) λ_ _=>⟨Z,Z⟩
 by_cases f:i=a/\q=d
 .obtain⟨rfl,rfl⟩:=f;exact h
 .rw[e i q b f]at c;exact I.mL.wr i q g b c
theorem c0N{K:aa}(I:Inv K)(s p x:Nat):Inv (J2 K s p x C).K:=by
 unfold J2;split
 .exact I
 .exact U6 I
theorem Vk{K:aa}(I:Inv K)(s p x:Nat):Inv (Z0 K s p x).K:=by
 unfold Z0;split<;>exact I
theorem c0P{K:aa}(I:Inv K)(e:a<K.nS)(f:b<4):Inv (H9 K a b c d).K:=by
 unfold H9;split
 .exact I
 rename_i h;split
 .exact I
 split
 .exact I
 split
 .exact I
 rename_i i j l;have g:(K.file a b).toNat<K.nD:=by rcases I.mL.file a b e f with k|k<;>omega
 have:=I.mL.cnt _ g;exact FD (U6 I) _ 2 Za
theorem c4r{K:aa}(I:Inv K)(f:a<K.nS)(g:b<4):Inv (Q5 K a b c d).K:=by
 unfold Q5;split
 .exact I
 rename_i h;split
 .exact I
 split
 .exact I
 split
 .exact I
 rename_i i j l;have e:(K.file a b).toNat<K.nD:=by rcases I.mL.file a b f g with k|k<;>omega
 have:=I.mL.cnt _ e;have:=I.mL.head _ e;exact FD (FD (U6 I) _ 1 Za) _ 2 Za
theorem YR{K:aa}(I:Inv K)(d:a<K.nS)(e:b<4)(f:c<4):Inv (qy K a b c).K:=by
 unfold qy;split
 .exact I
 rename_i h;have g:=I.mL.file a b d e;exact EL I _ d f Za Za Za
theorem Vn{K:aa}(I:Inv K)(e:a<K.nS)(f:b<K.nS)(g:c<4)(i:d<4):Inv (Q4 K a b c d).K:=by
 unfold Q4;split
 .exact I
 split
 .exact I
 rename_i h;have j:=I.mL.file a c e g;exact EL I _ f i Za Za Za
theorem PY{K:aa}(I:Inv K):Inv (R9 K a b).K:=by
 unfold R9;split
 .exact I
 rename_i h;refine NN I b 2 ?_;intro c;apply h;unfold aa.oJ;rw[c];simp
theorem YS{K:aa}(I:Inv K)(n:d<K.nF):Inv (F7 K a c d).K:=by
 unfold F7;split
 .exact I
 split
 .exact I
 rename_i o s;have k:Inv (K.an d 1 c):=xL I d 1 c;have hF:d<(K.an d 1 c).nF:=n;have l:K.S c 0=0:=by simpa using o
 have t:(K.an d 1 c).S c 0=0:=l;clear l;show Inv ((((K.an d 1 c).cf c 0 1).cf c 1 a).cf c 2 d);generalize K.an d 1 c=b at *;have p:((b.cf c 0 1).cf c 1 a).cf c 2 d=((b.cf c 2 d).cf c 0 1).cf c 1 a:=by
  unfold aa.cf
  congr 1
  funext i j;unfold upd
  grind
 rw[p]
 have m:Inv (b.cf c 2 d):=Ct k c 2 d Za (λj f h=>by
  have g:(b.cf c 2 d).S j 0=b.S j 0:=d6 (f:=b.S) (i:=c) (c:=2) (v:=d) j (b:=0) Za
  by_cases e:j=c
  .grind
  .rw[g]at h
   rw[show(b.cf c 2 d).S j 2=b.S j 2 from d6 (f:=b.S) (i:=c) (c:=2) (v:=d) j (b:=2) Za];exact k.mL.oT j f h)
 have q:Inv ((b.cf c 2 d).cf c 0 1):=Ct m c 0 1 Za (λj f h=>by
  have r:((b.cf c 2 d).cf c 0 1).S j 2=(b.cf c 2 d).S j 2:=d6 (f:=(b.cf c 2 d).S) (i:=c) (c:=0) (v:=1) j (b:=2) Za;rw[r]
  by_cases e:j=c
  .subst e;rw[show(b.cf j 2 d).S j 2=d from upd_same (f:=b.S) j 2 (v:=d)];show 0<=(d:Int)/\(d:Int)<b.nF;omega
  .have g:((b.cf c 2 d).cf c 0 1).S j 0=(b.cf c 2 d).S j 0:=d6 (f:=(b.cf c 2 d).S) (i:=c) (c:=0) (v:=1) j (b:=0) Za;rw[g]at h
   exact m.mL.oT j f h)
 exact FV q c 1 a Za
theorem c4l{K:aa}(I:Inv K)(e:c<4)(f:d<K.nF):Inv (J0 K a b c d).K:=by
 unfold J0;split
 .exact I
 split
 .exact I
 split
 .exact I
 exact SD (GU (xL I d 2 b) b c d _ e (ba ⟨by omega,by show(d:Int)<K.nF;omega⟩) Za) d _
theorem Fl{K:aa}(I:Inv K)(s:Nat):∀n,Inv (K.mg s n)
 | 0=>I
 | n+1=>by
  unfold aa.mg;split
  .exact FV (Fl I s n) n 1 0 Za
  .exact Fl I s n
theorem c4n{K:aa}(I:Inv K)(b:Int)(h:K.S a 0≠0):Inv (Y9 K a b).K:=by
 unfold Y9;split
 .exact I
 exact Fl (FV (NN I a 3 h) a 19 b Za) a K.nS
theorem VT{K:aa}(I:Inv K)(d:c<4):Inv (W7 K a b c).K:=by
 unfold W7;split
 .exact I
 split
 .exact I
 exact Oa I d
theorem Cv{K:aa}(d:Nat)(b:Bool)(h:∀i x,i<K.nS->x<4->K.file i x≠d):K.ends d b=0:=by
 unfold aa.ends;have:∀n,n<=K.nS*4->E6 (K.oI d b) n=0:=λn=>by
  induction n with
  | zero=>intro _;rfl
  | succ n a =>
   intro c;unfold E6;rw[a Za];have:K.oI d b n=false:=by
    unfold aa.oI
    grind
   rw[this];simp
 grind
theorem Rj{K:aa}(h:K.ends a false=0)(i:K.ends a true=0)(j:b<K.nS)(k:c<4):K.file b c≠a:=by
 intro d;have e:(b*4+c) / 4=b:=by omega
 have f:(b*4+c)%4=c:=by omega
 cases g:K.end b c
 .have:=Iv (p:=K.oI a false) (K.nS*4) h (b*4+c) Za;unfold aa.oI at this;rw[e,f,d,g]at this;simp at this
 .have:=Iv (p:=K.oI a true) (K.nS*4) i (b*4+c) Za;unfold aa.oI at this;rw[e,f,d,g]at this;simp at this
theorem Z3(K:aa)(d:Nat)(f:Int)(i c:Nat):(K.hZ d f).D i c=if i=d/\c<5 then(if c=0 then f else 0) else K.D i c:=by
 unfold aa.hZ aa.nX upd
 grind
theorem Qg{K:aa}(I:Inv K)(f:Int)(q:a<K.nD)(r:f=-1\/(0<=f/\f<K.nF))(h:∀i x,i<K.nS->x<4->K.file i x≠a)(j:Nat->Nat->Int)(d:Nat->Nat->Int)(g:∀i c,d i c=if i=a/\c<5 then(if c=0 then f else 0) else K.D i c):Inv { K with F:=j,D:=d }:=by
 have s:=Cv a false h;have t:=Cv a true h;have l:∀m b,aa.ends { K with F:=j,D:=d } m b=K.ends m b:=λ_ _=>rfl;refine⟨⟨I.mL.dT,I.mL.wr,?_,?_,?_,?_,?_,?_,I.mL.oT⟩,I.hS,?_,?_⟩
 .intro i x e n;have u:=h i x e n;rcases I.mL.file i x e n with k|⟨o,p,v⟩
  .exact bT k
  .refine ba ⟨o,p,?_⟩;show 0<=d (K.file i x).toNat 0
   grind
 .intro i e;show d i 0=-1\/(0<=d i 0/\d i 0<K.nF);rw[g];have:=I.mL.pL i e;grind
 .intro i e;show 0<=d i 1/\d i 1<4;rw[g];have:=I.mL.head i e;split
  .simp
  .exact this
 .intro i e;show 0<=d i 2/\d i 2<=4;rw[g];have:=I.mL.cnt i e;split
  .simp
  .exact this
 .intro i e;show 0<=d i 3/\d i 3<=24;rw[g];have:=I.mL.rd i e;split
  .simp
  .exact this
 .intro i e;show 0<=d i 4/\d i 4<=24;rw[g];have:=I.mL.wt i e;split
  .simp
  .exact this
 .intro i e;show d i 3=_;rw[g,l];have:=I.tD i e
  grind
 .intro i e;show d i 4=_;rw[g,l];have:=I.tx i e
  grind
theorem PS{K:aa}(I:Inv K)(f:Int)(b:a<K.nD)(c:f=-1\/(0<=f/\f<K.nF))(d:∀i x,i<K.nS->x<4->K.file i x≠a):Inv (K.hZ a f) :=
 Qg I f b c d K.F (K.hZ a f).D (Z3 K a f)
theorem ZK{K:aa}(I:Inv K)(o:a<K.nS)(p:b<K.nD)(q:c<K.nF)(C:d<4):Inv (C4 K a b c d).K:=by
 unfold C4;split
 .exact I
 rename_i r;split
 .exact I
 split
 .exact I
 rename_i s h;have g:Inv (K.an c 3 (-1)):=xL I c 3 (-1);have j:b<(K.an c 3 (-1)).nD:=p;have D:c<(K.an c 3 (-1)).nF:=q;have s0:a<(K.an c 3 (-1)).nS:=o;have E:d<3:=by omega
 have t:(K.an c 3 (-1)).file a d=-1:=by show K.file a d=-1;omega
 have u:(K.an c 3 (-1)).file a (d+1)=-1:=by show K.file a (d+1)=-1;omega
 have F:(K.an c 3 (-1)).D b 0=-1:=by show K.D b 0=-1;omega
 show Inv ((((K.an c 3 (-1)).hZ b c).eL a d b false).eL a (d+1) b true);clear r s h;generalize K.an c 3 (-1)=e at *
 have v:Inv (e.hZ b c):=PS g c j (ba ⟨by omega,by omega⟩) (λi y w x=>by
  rcases g.mL.file i y w x with k|⟨H,L,N⟩
  all_goals grind)
 have l:b<(e.hZ b c).nD:=j;have m:a<(e.hZ b c).nS:=s0;have z:(e.hZ b c).file a d=-1:=t;have A:(e.hZ b c).file a (d+1)=-1:=u;have n:0<=(e.hZ b c).D b 0:=by rw[Z3];simp
 generalize e.hZ b c=f at *;have B:Inv (f.eL a d b false):=EL v false m Za l n z;refine EL B true m Za l ?_ ?_
 .show 0<=upd f.D b 3 _ b 0;rw[d6 _ Za];exact n
 .show(f.av a d b false).file a (d+1)=-1;rw[yK f a d b false a (d+1) Za Za,nR Za];exact A
theorem Jq{K:aa}(I:Inv K)(p:a<K.nS)(m:b<4)(D:K.file a b≠-1):Inv (K.oa a b):=by
 have hF:=I.mL.file a b p m;obtain⟨d,q⟩:∃d:Nat,K.file a b=d:=⟨(K.file a b).toNat,by omega⟩;have n:d<K.nD:=by omega
 rw[q,au]at hF;unfold aa.oa;rw[q,au];generalize F:K.end a b=c;show Inv (if ((K.av a b (-1) false).count d c (-1)).D d 3=0/\((K.av a b (-1) false).count d c (-1)).D d 4=0 then(((K.av a b (-1) false).count d c (-1)).an (((K.av a b (-1) false).count d c (-1)).D d 0).toNat 0 (-1)).hZ d (-1) else(K.av a b (-1) false).count d c (-1));have g:=Q2 (K.av a b (-1) false) d c (-1);have E:∀f j,((K.av a b (-1) false).count d c (-1)).ends f j+(if d=f/\c=j then 1 else 0)=K.ends f j:=λf j=>by
  rw[Er];have h:=Dw K a b (-1) false p m f j
  grind
 have t:∀i,((K.av a b (-1) false).count d c (-1)).D i 3=if i=d/\c=false then K.D d 3 + -1 else K.D i 3:=λi=>(uz (K.av a b (-1) false) d c (-1) i).1
 have u:∀i,((K.av a b (-1) false).count d c (-1)).D i 4=if i=d/\c=true then K.D d 4 + -1 else K.D i 4:=λi=>(uz (K.av a b (-1) false) d c (-1) i).2
 have H:=I.tD d n;have L:=I.tx d n;have N:=I.bounds (d:=d) false;have P:=I.bounds (d:=d) true;have r:=E d c;rw[nT ⟨Z,Z⟩]at r;have G:Good ((K.av a b (-1) false).count d c (-1)):=by
  have s:Good (K.av a b (-1) false):=Gw I.mL a b (-1) false m (bT Z);cases c
  .exact yj s d 3 (K.D d 3 + -1) Za
  .exact yj s d 4 (K.D d 4 + -1) Za
 have l:Inv ((K.av a b (-1) false).count d c (-1)):=by
  refine⟨G,by rw[g.2.1];exact I.hS,λf k=>?_,λf k=>?_⟩
  .rw[g.2.2.1]at k;have:=E f false;have v:=I.tD f k
   grind
  .rw[g.2.2.1]at k;have:=E f true;have v:=I.tx f k
   grind
 have o:d<((K.av a b (-1) false).count d c (-1)).nD:=by rw[g.2.2.1];exact n
 clear E t u r G g;generalize (K.av a b (-1) false).count d c (-1)=e at *;split
 .rename_i R;have S:=l.tD d o;have T:=l.tx d o;have w:∀i y,i<e.nS->y<4->e.file i y≠d:=λi y x z=>Rj Za Za x z;have A:Inv (e.an (e.D d 0).toNat 0 (-1)):=xL l _ 0 (-1);have B:d<(e.an (e.D d 0).toNat 0 (-1)).nD:=o;have C:∀i y,i<(e.an (e.D d 0).toNat 0 (-1)).nS->y<4->(e.an (e.D d 0).toNat 0 (-1)).file i y≠d:=w;generalize e.an (e.D d 0).toNat 0 (-1)=W at *;exact PS A (-1) B (bT Z) C
 .exact l
theorem Qn{K:aa}(I:Inv K)(c:a<K.nS)(d:b<4):Inv (N9 K a b).K:=by
 unfold N9;split
 .exact I
 exact Jq I c d (by assumption)
theorem XM{K:aa}(I:Inv K)(d:b<K.nS)(e:c<4):Inv (W8 K a b c).K:=by
 unfold W8;split
 .exact I
 split
 .exact I
 exact Jq I d e (by assumption)
theorem c4s{K:aa}(I:Inv K)(t:b<K.nS):Inv (K6 K a b).K:=by
 unfold K6;split
 .exact I
 split
 .exact I
 split
 .exact I
 rename_i v w y;have f:Inv (K.an (K.S b 2).toNat 0 (-1)):=xL I _ 0 (-1);have z:b<(K.an (K.S b 2).toNat 0 (-1)).nS:=t;have A:∀x,x<4->(K.an (K.S b 2).toNat 0 (-1)).file b x=-1:=λx k=>by
  show K.file b x=-1
  grind
 show Inv ((K.an (K.S b 2).toNat 0 (-1)).oq b);generalize K.an (K.S b 2).toNat 0 (-1)=c at *;have m:∀i j,(c.oq b).S i j=if i=b then(if j=0\/j=19 then 0 else -1) else c.S i j:=λ_ _=>rfl
 have B:∀i j,(c.oq b).B i j=if i=b then false else c.B i j:=λ_ _=>rfl
 have q:∀i p,p<4->(c.oq b).dT i p=if i=b then -1 else c.dT i p:=λi p l=>by
  show(c.oq b).S i (3+p*2)=_;rw[m,nR (show ¬(3+p*2=0\/3+p*2=19) by omega)];rfl
 have C:∀i x,x<4->(c.oq b).file i x=if i=b then -1 else c.file i x:=λi x k=>by
  show(c.oq b).S i (11+x*2)=_;rw[m,nR (show ¬(11+x*2=0\/11+x*2=19) by omega)];rfl
 have r:∀i x,i<c.nS->x<4->(c.oq b).file i x=c.file i x:=λi x _ k=>by
  grind
 have G:Good (c.oq b):=by
  refine⟨λi p g l=>?_,λi p g l u=>?_,λi x g k=>?_,f.mL.pL,f.mL.head,f.mL.cnt,f.mL.rd,f.mL.wt,λi g h=>?_⟩
  .rw[q i p l];split
   .exact bT Z
   .exact f.mL.dT i p g l
  .have s:(if i=b then false else c.B i (4+p*2))=true:=u;rw[q i p l]
   by_cases e:i=b
   .grind
   .rw[nR e]at s;rw[nR e];exact f.mL.wr i p g l s
  .rw[r i x g k];exact f.mL.file i x g k
  .rw[m]at h
   by_cases e:i=b
   .grind
   .rw[nR e]at h;rw[m,nR e];exact f.mL.oT i g h
 have E:∀d n,(c.oq b).ends d n=c.ends d n:=λd n=>by
  unfold aa.ends;show E6 ((c.oq b).oI d n) (c.nS*4)=_;refine DE _ λj D=>?_;unfold aa.oI;have g:j / 4<c.nS:=by omega
  have k:j%4<4:=by omega
  by_cases e:j / 4=b
  .grind
  .rw[r _ _ g k,show(c.oq b).end (j / 4) (j%4)=c.end (j / 4) (j%4) from by show(if j / 4=b then false else c.B (j / 4) _)=_;rw[nR e];rfl]
 exact⟨G,f.hS,λd o=>by rw[E];exact f.tD d o,λd o=>by rw[E];exact f.tx d o⟩
theorem Wx(a b c:Nat)(hF:2<=a)(f:b<=6):Inv (K8 a b c):=by
 have G:=QG a b c hF;have e:∀d:Nat,∀i x,i<(K8 a b c).nS->x<4->(K8 a b c).file i x≠d:=λd i x l m=>by
  have g:¬(i=0/\11+x*2=0):=by omega
  have h:¬(i=0/\11+x*2=2):=by omega
  have j:¬(11+x*2=0\/11+x*2=19):=by omega
  simp only[aa.file,K8,rP,aa.an,aa.cf,aa.nU,d6 _ g,d6 _ h,nR j];omega
 exact⟨G,f,λd k=>by rw[Cv d false (e d)];rfl,λd k=>by rw[Cv d true (e d)];rfl⟩
theorem i5{K:aa}{t:Int}(h:A7 K t C=true)(a:t≠0):∃n:Nat,C=n/\(n:Int)<j4 K t:=by
 unfold A7 at h;simp[a]at h;exact⟨C.toNat,by omega,by omega⟩
theorem yT(K:aa):j4 K 1=K.nF:=rfl
theorem zo(K:aa):j4 K 2=K.nS:=rfl
theorem Ah(K:aa):j4 K 3=K.nD:=rfl
theorem zI(K:aa):j4 K 4=4:=rfl
theorem Ai(K:aa):j4 K 5=4:=rfl
theorem zA(K:aa):j4 K 6=4:=rfl
theorem c9J{K:aa}(I:Inv K)(s n:Nat)(a b c:Int)(j:s<K.nS)(o:K.S s 0≠0)(q:n<20)(p:A7 K ((i7 n).getD 0 0) a=true/\A7 K ((i7 n).getD 1 0) b=true/\A7 K ((i7 n).getD 2 0) c=true):Inv (tK K s n a b c).K:=by
 let⟨d,g,k⟩:=p;have r:=yT K;have t:=zo K;have u:=Ah K;have v:=zI K;have w:=Ai K;have x:=zA K;cases n,(Za:n<20) using oQ
 .exact I
 .exact I
 .obtain⟨e,rfl,f⟩:=i5 (t:=4) d Zb;obtain⟨h,rfl,i⟩:=i5 (t:=1) g Zb;exact TW I Za Za
 .obtain⟨e,rfl,f⟩:=i5 (t:=4) d Zb;exact YL I Za
 .obtain⟨e,rfl,f⟩:=i5 (t:=4) d Zb;exact SF I b Za
 .obtain⟨e,rfl,f⟩:=i5 (t:=2) d Zb;obtain⟨h,rfl,i⟩:=i5 (t:=1) g Zb;exact YS I Za
 .obtain⟨e,rfl,f⟩:=i5 (t:=2) d Zb;obtain⟨h,rfl,i⟩:=i5 (t:=4) g Zb;obtain⟨l,rfl,m⟩:=i5 (t:=1) k Zb;exact c4l I Za Za
 .obtain⟨e,rfl,f⟩:=i5 (t:=2) d Zb;obtain⟨h,rfl,i⟩:=i5 (t:=5) g Zb;obtain⟨l,rfl,m⟩:=i5 (t:=5) k Zb;exact Vn I j Za Za Za
 .exact PY I
 .exact c4n I a o
 .obtain⟨e,rfl,f⟩:=i5 (t:=2) d Zb;obtain⟨h,rfl,i⟩:=i5 (t:=4) g Zb;exact VT I Za
 .obtain⟨e,rfl,f⟩:=i5 (t:=2) d Zb;obtain⟨h,rfl,i⟩:=i5 (t:=5) g Zb;exact XM I Za Za
 .obtain⟨e,rfl,f⟩:=i5 (t:=2) d Zb;exact c4s I Za
 .obtain⟨e,rfl,f⟩:=i5 (t:=3) d Zb;obtain⟨h,rfl,i⟩:=i5 (t:=1) g Zb;obtain⟨l,rfl,m⟩:=i5 (t:=5) k Zb;exact ZK I j Za Za Za
 .obtain⟨e,rfl,f⟩:=i5 (t:=5) d Zb;obtain⟨h,rfl,i⟩:=i5 (t:=5) g Zb;exact YR I j Za Za
 .obtain⟨e,rfl,f⟩:=i5 (t:=5) d Zb;exact Qn I j Za
 .obtain⟨e,rfl,f⟩:=i5 (t:=5) d Zb;exact c0P I j Za
 .obtain⟨e,rfl,f⟩:=i5 (t:=5) d Zb;exact c4r I j Za
 .exact Vk I s _ _
 .exact c0N I s _ _
theorem Tl{K:aa}(I:Inv K)(e d a b c:Int):Inv (d8 K e d a b c).K:=by
 unfold d8
 by_cases f:¬(0<=d/\d<20)\/d=0
 .grind
 rw[nR f]
 by_cases g:¬(0<=e/\e<K.nS)\/K.S e.toNat 0≠2
 .grind
 rw[nR g]
 by_cases h:A7 K ((i7 d.toNat).getD 0 0) a=false\/A7 K ((i7 d.toNat).getD 1 0) b=false\/A7 K ((i7 d.toNat).getD 2 0) c=false
 .grind
 rw[nR h];have i:A7 K ((i7 d.toNat).getD 0 0) a=true:=by grind
 have j:A7 K ((i7 d.toNat).getD 1 0) b=true:=by grind
 have k:A7 K ((i7 d.toNat).getD 2 0) c=true:=by grind
 exact c9J I e.toNat d.toNat a b c Za Za Za ⟨i,j,k⟩
inductive Place where
 | oT (i:Nat)
 | dT (i p:Nat)
 | ring (d:Nat)
def Place.kind:Place->Int
 | .oT _=>1
 | .dT _ _=>2
 | .ring _=>3
def Place.owner:Place->Int
 | .oT i=>i
 | .dT i _=>i
 | .ring _=>-1
def aa.has(K:aa):Place->Prop
 | .oT i=>i<K.nS
 | .dT i p=>i<K.nS/\p<4
 | .ring d=>d<K.nD
def aa.loc(K:aa):Place->Int
 | .oT i=>if K.S i 0=0 then -1 else K.S i 2
 | .dT i p=>K.dT i p
 | .ring d=>K.D d 0
structure Own (K:aa):Prop where
 tR:∀x,K.has x->K.loc x=-1\/(0<=K.loc x/\K.loc x<K.nF)
 what:∀x,K.has x->∀n:Nat,K.loc x=n->K.F n 0=x.kind/\K.F n 1=x.owner
 one:∀x y,K.has x->K.has y->∀n:Nat,K.loc x=n->K.loc y=n->x=y
 all:∀n,n<K.nF->K.F n 0≠0->∃x,K.has x/\K.loc x=n
theorem Place.vI(x:Place):x.kind≠0:=by cases x<;>simp[Place.kind]
structure oD (K K':aa):Prop where
 f:K'.nF=K.nF
 s:K'.nS=K.nS
 d:K'.nD=K.nD
theorem oD.has{K a:aa}(h:oD K a)(x:Place):a.has x↔K.has x:=by
 cases x<;>simp only[aa.has,h.s,h.d]
theorem Own.same{K d:aa}(a:Own K)(z:oD K d)(f:∀y,K.has y->d.loc y=K.loc y)(hF:∀n,d.F n 0=K.F n 0/\d.F n 1=K.F n 1):Own d:=by
 refine⟨λx b=>?_,λx b n c=>?_,λx y b g n c h=>?_,λn c i=>?_⟩
 .have b:=(z.has x).1 b;rw[f x b,z.f];exact a.tR x b
 .have b:=(z.has x).1 b;rw[f x b]at c;rw[(hF n).1,(hF n).2];exact a.what x b n c
 .have b:=(z.has x).1 b;have g:=(z.has y).1 g;rw[f x b]at c;rw[f y g]at h;exact a.one x y b g n c h
 .rw[z.f]at c;rw[(hF n).1]at i;let⟨x,b,e⟩:=a.all n c i;exact⟨x,(z.has x).2 b,by grind⟩
theorem Own.take{K c:aa}(a:Own K)(z:oD K c)(x:Place)(m:K.has x)(f:Nat)(r:f<K.nF)(o:K.F f 0=0)(s:K.loc x=-1)(j:c.loc x=f)(g:∀y,K.has y->y≠x->c.loc y=K.loc y)(t:c.F f 0=x.kind/\c.F f 1=x.owner)(hF:∀n,n≠f->c.F n 0=K.F n 0/\c.F n 1=K.F n 1):Own c:=by
 have u:∀y,K.has y->K.loc y≠f:=λy b e=>Place.vI y ((a.what y b f e).1.symm.trans o);refine⟨λy b=>?_,λy b n d=>?_,λy h b i n d k=>?_,λn d l=>?_⟩
 .have b:=(z.has y).1 b
  by_cases e:y=x
  .subst e;rw[j,z.f];omega
  .rw[g y b e,z.f];exact a.tR y b
 .have b:=(z.has y).1 b
  by_cases e:y=x
  .grind
  .rw[g y b e]at d;have:n≠f:=by grind
   rw[(hF n this).1,(hF n this).2];exact a.what y b n d
 .have b:=(z.has y).1 b;have i:=(z.has h).1 i
  by_cases e:y=x
  .grind
  .by_cases p:h=x
   .grind
   .rw[g y b e]at d;rw[g h i p]at k;exact a.one y h b i n d k
 .rw[z.f]at d
  by_cases e:n=f
  .subst e;exact⟨x,(z.has x).2 m,j⟩
  .rw[(hF n e).1]at l;let⟨y,b,q⟩:=a.all n d l;refine⟨y,(z.has y).2 b,?_⟩;rw[g y b];exact q;rintro rfl;omega
theorem Own.free{K d:aa}(a:Own K)(z:oD K d)(x:Place)(m:K.has x)(f:Nat)(o:K.loc x=f)(j:d.loc x=-1)(g:∀y,K.has y->y≠x->d.loc y=K.loc y)(s:d.F f 0=0)(hF:∀n,n≠f->d.F n 0=K.F n 0/\d.F n 1=K.F n 1):Own d:=by
 have t:∀y,K.has y->y≠x->K.loc y≠f:=λy b p e=>p (a.one y x b m f e o);refine⟨λy b=>?_,λy b n c=>?_,λy h b i n c k=>?_,λn c l=>?_⟩
 .have b:=(z.has y).1 b
  by_cases e:y=x
  .grind
  .rw[g y b e,z.f];exact a.tR y b
 .have b:=(z.has y).1 b
  by_cases e:y=x
  .subst e;rw[j]at c;omega
  .rw[g y b e]at c;have:n≠f:=by grind
   rw[(hF n this).1,(hF n this).2];exact a.what y b n c
 .have b:=(z.has y).1 b;have i:=(z.has h).1 i
  by_cases e:y=x
  .subst e;rw[j]at c;omega
  .by_cases q:h=x
   .grind
   .rw[g y b e]at c;rw[g h i q]at k;exact a.one y h b i n c k
 .rw[z.f]at c
  by_cases e:n=f
  .grind
  .rw[(hF n e).1]at l;let⟨y,b,r⟩:=a.all n c l;refine⟨y,(z.has y).2 b,?_⟩;rw[g y b];exact r;rintro rfl;omega
theorem JK{K:aa}(s p:Nat)(f:Int)(b:Bool):(K.fi s p f b).loc (.dT s p)=f:=upd_same (f:=K.S) s (3+p*2) (v:=f)
theorem MX{K:aa}(s p:Nat)(f:Int)(b:Bool)(y:Place)(h:y≠.dT s p):(K.fi s p f b).loc y=K.loc y:=by
 cases y with
 | oT i =>
  show(if upd K.S s (3+p*2) f i 0=0 then -1 else upd K.S s (3+p*2) f i 2)=if K.S i 0=0 then -1 else K.S i 2
  rw[d6 _ Za,d6 _ Za]
 | dT i q =>
  show upd K.S s (3+p*2) f i (3+q*2)=K.S i (3+q*2);refine d6 _ ?_
  grind
 | ring d=>rfl
theorem Ox(K:aa)(s x:Nat)(d:Int)(b:Bool)(y:Place)(a:K.has y):(K.av s x d b).loc y=K.loc y:=by
 cases y with
 | oT i =>
  show(if upd K.S s (11+x*2) d i 0=0 then -1 else upd K.S s (11+x*2) d i 2)=if K.S i 0=0 then -1 else K.S i 2
  rw[d6 _ Za,d6 _ Za]
 | dT i q =>
  show upd K.S s (11+x*2) d i (3+q*2)=K.S i (3+q*2);have:q<4:=a.2;exact d6 _ Za
 | ring d=>rfl
theorem Fa(K:aa)(d c:Nat)(v:Int)(a:c≠0)(y:Place):(K.nX d c v).loc y=K.loc y:=by
 cases y with
 | oT i=>rfl
 | dT i q=>rfl
 | ring e=>exact d6 _ Za
theorem Pp{K:aa}(d:Nat)(b:Bool)(m:Int)(y:Place):(K.count d b m).loc y=K.loc y:=by
 cases b
 .exact Fa K d 3 _ Za y
 .exact Fa K d 4 _ Za y
theorem VX(K:aa)(s x d:Nat)(b:Bool)(y:Place)(a:K.has y):(K.eL s x d b).loc y=K.loc y:=by
 unfold aa.eL;rw[Pp,Ox K s x d b y a]
theorem WD(K:aa)(s x d:Nat)(b:Bool):(K.eL s x d b).F=K.F:=by
 unfold aa.eL;rw[(Q2 _ d b 1).2.2.2.2.2];rfl
theorem ZG(K:aa)(s x d:Nat)(b:Bool):oD K (K.eL s x d b):=by
 have h:=Q2 (K.av s x d b) d b 1;exact⟨h.1,h.2.1,h.2.2.1⟩
theorem MM{K:aa}(d:Nat)(f:Int):(K.hZ d f).loc (.ring d)=f:=by
 show(K.hZ d f).D d 0=f;rw[Z3];simp
theorem PA{K:aa}(d:Nat)(f:Int)(y:Place)(h:y≠.ring d):(K.hZ d f).loc y=K.loc y:=by
 cases y with
 | oT i=>rfl
 | dT i q=>rfl
 | ring e =>
  show(K.hZ d f).D e 0=K.D e 0;rw[Z3,nR]
  grind
theorem K7(K:aa)(i:Nat)(a b:Int):(K.an i a b).F i 0=a/\(K.an i a b).F i 1=b:=by
 simp[aa.an,aa.nU,upd]
theorem zU(K:aa)(i:Nat)(a b:Int)(y:Place):(K.an i a b).loc y=K.loc y:=by cases y<;>rfl
theorem UR(K:aa)(i c:Nat)(v:Int)(a:2<=c)(n:Nat):(K.nU i c v).F n 0=K.F n 0/\(K.nU i c v).F n 1=K.F n 1 :=
 ⟨d6 _ Za,d6 _ Za⟩
theorem c4K(K:aa)(i c:Nat)(v:Int)(y:Place):(K.nU i c v).loc y=K.loc y:=by cases y<;>rfl
theorem xK{K:aa}(c:Own K)(d:2<=b):Own (K.nU a b C):=c.same ⟨Z,Z,Z⟩ (λy _=>c4K K a b C y) (UR K a b C d)
theorem FF{K:aa}(a:Own K)(d c:Nat)(b:c≠0):Own (K.nX d c C):=a.same ⟨Z,Z,Z⟩ (λy _=>Fa K d c C b y) λ_=>⟨Z,Z⟩
theorem c4L(K:aa)(i c:Nat)(v:Int)(b:c=1\/c=19)(y:Place)(a:K.has y):(K.cf i c v).loc y=K.loc y:=by
 cases y with
 | oT j =>
  show(if upd K.S i c v j 0=0 then -1 else upd K.S i c v j 2)=if K.S j 0=0 then -1 else K.S j 2
  rw[d6 _ Za,d6 _ Za]
 | dT j q =>
  have:q<4:=a.2;exact d6 _ Za
 | ring e=>rfl
theorem Oe{K:aa}(a:Own K)(i c:Nat)(v:Int)(b:c=1\/c=19):Own (K.cf i c v):=a.same ⟨Z,Z,Z⟩ (λy d=>c4L K i c v b y d) λ_=>⟨Z,Z⟩
theorem ZA(K:aa)(i:Nat)(v:Int)(a:K.S i 0≠0)(b:v≠0)(y:Place)(c:K.has y):(K.cf i 0 v).loc y=K.loc y:=by
 cases y with
 | oT j =>
  show(if upd K.S i 0 v j 0=0 then -1 else upd K.S i 0 v j 2)=if K.S j 0=0 then -1 else K.S j 2
  rw[d6 j (b:=2) Za]
  by_cases e:j=i
  .subst e;rw[upd_same,nR b,nR a]
  .rw[d6 _ Za]
 | dT j q =>
  exact d6 _ Za
 | ring e=>rfl
theorem NZ{K:aa}(a:Own K)(i:Nat)(v:Int)(b:K.S i 0≠0)(c:v≠0):Own (K.cf i 0 v):=a.same ⟨Z,Z,Z⟩ (λy d=>ZA K i v b c y d) λ_=>⟨Z,Z⟩
theorem c1w{K e:aa}(d:Own K)(f:Bool)(g:a<K.nS)(h:b<4)(i:c<K.nF)(j:K.F c 0=0)(k:K.dT a b=-1)(z:oD K e)(l:∀y,e.loc y=K.loc y)(m:e.F c 0=2/\e.F c 1=a)(hF:∀n,n≠c->e.F n 0=K.F n 0/\e.F n 1=K.F n 1):Own (e.fi a b c f) :=
 d.take ⟨z.f,z.s,z.d⟩ (.dT a b) ⟨g,h⟩ c i j k (JK a b c f) (λy _ o=>(MX a b c f y o).trans (l y)) m hF
theorem Nn{K:aa}(d:Own K)(e:Bool)(g:a<K.nS)(h:b<4)(i:c<K.nF)(j:K.F c 0=0)(k:K.dT a b=-1):Own ((K.an c 2 a).fi a b c e) :=
 c1w d e g h i j k ⟨Z,Z,Z⟩ (zU K c 2 a) (K7 K c 2 a) λn f=>⟨aa.oB K c 2 a n 0 f,aa.oB K c 2 a n 1 f⟩
theorem UT{K e:aa}(d:Own K)(f:a<K.nS)(g:b<4)(h:K.dT a b=c)(z:oD K e)(i:∀y,e.loc y=K.loc y)(j:e.F c 0=0)(hF:∀n,n≠c->e.F n 0=K.F n 0/\e.F n 1=K.F n 1):Own (e.fi a b (-1) false) :=
 d.free ⟨z.f,z.s,z.d⟩ (.dT a b) ⟨f,g⟩ c h (JK a b (-1) false) (λy _ k=>(MX a b (-1) false y k).trans (i y)) j hF
theorem Jg{K:aa}(c:Own K)(d:a<K.nS)(e:b<4)(l:K.dT a b≠-1):Own (K.oz a b):=by
 have i:K.has (.dT a b):=⟨d,e⟩;have j:=c.tR _ i;have k:K.loc (.dT a b)=K.dT a b:=Z;rw[k]at j;obtain⟨f,g⟩:∃f:Nat,K.dT a b=f:=⟨(K.dT a b).toNat,by omega⟩;unfold aa.oz;rw[g,au];exact UT c d e g ⟨Z,Z,Z⟩ (zU K f 0 (-1)) (K7 K f 0 (-1)).1 λn h=>⟨aa.oB K f 0 (-1) n 0 h,aa.oB K f 0 (-1) n 1 h⟩
theorem Dk{K:aa}(a:Own K)(s x d:Nat)(b:Bool):Own (K.eL s x d b) :=
 a.same (ZG K s x d b) (λy c=>VX K s x d b y c) λn=>by rw[WD];exact⟨Z,Z⟩
theorem Te{K:aa}(d:Own K)(e:a<K.nS)(f:b<4)(g:c<K.nF):Own (qb K a b c).K:=by
 unfold qb;split
 .exact d
 split
 .exact d
 exact Nn d true e f g Za Za
theorem Ul{K:aa}(c:Own K)(d:a<K.nS)(e:b<4):Own (O0 K a b).K:=by
 unfold O0;split
 .exact c
 exact Jg c d e (by assumption)
theorem b5O{K:aa}(c:Own K)(v:Int):Own (B5 K a b v).K:=by
 unfold B5;split
 .exact c
 exact c.same ⟨Z,Z,Z⟩ (λy _=>by cases y<;>rfl) λ_=>⟨Z,Z⟩
theorem VZ{K:aa}(a:Own K)(s p x:Nat):Own (J2 K s p x C).K:=by
 unfold J2;split
 .exact a
 .exact xK a Za
theorem RE{K:aa}(a:Own K)(s p x:Nat):Own (Z0 K s p x).K:=by
 unfold Z0;split<;>exact a
theorem Yx{K:aa}(a:Own K)(s x p j:Nat):Own (H9 K s x p j).K:=by
 unfold H9;split
 .exact a
 split
 .exact a
 split
 .exact a
 split
 .exact a
 exact FF (xK a Za) _ 2 Za
theorem WY{K:aa}(a:Own K)(s x p j:Nat):Own (Q5 K s x p j).K:=by
 unfold Q5;split
 .exact a
 split
 .exact a
 split
 .exact a
 split
 .exact a
 exact FF (FF (xK a Za) _ 1 Za) _ 2 Za
theorem c7X{K:aa}(a:Own K)(s x t:Nat):Own (qy K s x t).K:=by
 unfold qy;split
 .exact a
 exact Dk a _ _ _ _
theorem ZO{K:aa}(a:Own K)(s c x t:Nat):Own (Q4 K s c x t).K:=by
 unfold Q4;split
 .exact a
 split
 .exact a
 exact Dk a _ _ _ _
theorem Em{K:aa}{s c:Nat}(h:¬K.oJ s c=false):K.S c 1=s/\K.S c 0=1:=by
 unfold aa.oJ at h;simpa using h
theorem K3{K:aa}{s c:Nat}(h:¬K.still s c=false):K.S c 1=s/\(K.S c 0=1\/K.S c 0=3):=by
 unfold aa.still at h
 grind
theorem Qw{K:aa}(a:Own K)(s c:Nat):Own (R9 K s c).K:=by
 unfold R9;split
 .exact a
 rename_i h;have:=Em h;exact NZ a c 2 Za Za
theorem F4{K:aa}(a:Own K)(s:Nat):∀n,Own (K.mg s n)
 | 0=>a
 | n+1=>by
  unfold aa.mg;split
  .exact Oe (F4 a s n) n 1 0 Za
  .exact F4 a s n
theorem QK{K:aa}(b:Own K)(c:Int)(h:K.S a 0≠0):Own (Y9 K a c).K:=by
 unfold Y9;split
 .exact b
 exact F4 (Oe (NZ b a 3 h Za) a 19 c Za) a K.nS
theorem TR{K:aa}(d:Own K)(e:b<K.nS)(f:c<4):Own (W7 K a b c).K:=by
 unfold W7;split
 .exact d
 split
 .exact d
 exact Jg d e f (by assumption)
theorem Sx{K:aa}(a:Own K)(g h:Nat):Own (K.nV g h):=xK (xK (xK (xK a Za) Za) Za) Za
theorem c5b{K:aa}(e:Own K)(f:b<K.nS)(g:c<4)(h:d<K.nF):Own (J0 K a b c d).K:=by
 unfold J0;split
 .exact e
 split
 .exact e
 split
 .exact e
 exact Sx (Nn e _ f g h Za Za) d _
theorem Qj{K f:aa}(e:Own K)(l:b<K.nS)(m:c<K.nF)(o:K.S b 0=0)(p:K.F c 0=0)(z:oD K f)(r:∀y,f.loc y=K.loc y)(s:f.F c 0=1/\f.F c 1=b)(hF:∀n,n≠c->f.F n 0=K.F n 0/\f.F n 1=K.F n 1):Own (((f.cf b 0 1).cf b 1 a).cf b 2 c):=by
 have h:∀i j,(((f.cf b 0 1).cf b 1 a).cf b 2 c).S i j=if i=b/\j=2 then(c:Int) else if i=b/\j=1 then(a:Int) else if i=b/\j=0 then 1 else f.S i j:=λ_ _=>rfl
 have k:(((f.cf b 0 1).cf b 1 a).cf b 2 c).F=f.F:=Z;have t:(((f.cf b 0 1).cf b 1 a).cf b 2 c).D=f.D:=Z;have u:oD K (((f.cf b 0 1).cf b 1 a).cf b 2 c):=⟨z.f,z.s,z.d⟩;generalize ((f.cf b 0 1).cf b 1 a).cf b 2 c=g at *;refine e.take u (.oT b) l c m p (by show(if K.S b 0=0 then(-1:Int) else _)=-1;rw[nT o]) ?_ ?_ (by rw[k];exact s) (by rw[k];exact hF)
 .show(if g.S b 0=0 then(-1:Int) else g.S b 2)=c;rw[h,h];simp
 .intro y w v;rw[←r y]
  cases y with
  | oT i =>
   have x:i≠b:=by rintro rfl;exact v Z
   show(if g.S i 0=0 then(-1:Int) else g.S i 2)=if f.S i 0=0 then -1 else f.S i 2
   grind
  | dT i q =>
   show g.S i (3+q*2)=f.S i (3+q*2)
   grind
  | ring d =>
   show g.D d 0=f.D d 0;rw[t]
theorem WK{K:aa}(d:Own K)(f:b<K.nS)(g:c<K.nF):Own (F7 K a b c).K:=by
 unfold F7;split
 .exact d
 split
 .exact d
 exact Qj d f g Za Za ⟨Z,Z,Z⟩ (zU K c 1 b) (K7 K c 1 b) λn e=>⟨aa.oB K c 1 b n 0 e,aa.oB K c 1 b n 1 e⟩
theorem QT{K f:aa}(c:Own K)(h:a<K.nS)(r:K.S a 0≠0)(s:K.S a 2=b)(j:∀p,p<4->K.dT a p=-1)(z:oD K f)(g:∀y,f.loc y=K.loc y)(k:f.F b 0=0)(hF:∀n,n≠b->f.F n 0=K.F n 0/\f.F n 1=K.F n 1):Own (f.oq a):=by
 refine c.free ⟨z.f,z.s,z.d⟩ (.oT a) h b (by show(if K.S a 0=0 then(-1:Int) else K.S a 2)=b;grind) ?_ ?_ k hF
 .show(if (if a=a then(if 0=0\/0=19 then(0:Int) else -1) else f.S a 0)=0 then(-1:Int) else _)=-1;simp
 .intro y l m;rw[←g y]
  cases y with
  | oT i =>
   have t:i≠a:=by rintro rfl;exact m Z
   show(if (if i=a then(if 0=0\/0=19 then(0:Int) else -1) else f.S i 0)=0 then(-1:Int) else(if i=a then(if 2=0\/2=19 then(0:Int) else -1) else f.S i 2))=if f.S i 0=0 then -1 else f.S i 2
   grind
  | dT i q =>
   have o:q<4:=l.2;show(if i=a then(if 3+q*2=0\/3+q*2=19 then(0:Int) else -1) else f.S i (3+q*2))=f.loc (.dT i q)
   by_cases e:i=a
   .subst e;rw[nT Z,nR Za,g];exact(j q o).symm
   .rw[nR e];rfl
  | ring d=>rfl
theorem Vo{K:aa}(c:Own K)(G:Good K)(d:b<K.nS):Own (K6 K a b).K:=by
 unfold K6;split
 .exact c
 split
 .exact c
 split
 .exact c
 rename_i i l m;have o:=K3 i;have j:=c.tR (.oT b) d;have e:K.loc (.oT b)=K.S b 2:=by show(if K.S b 0=0 then(-1:Int) else K.S b 2)=_;grind
 rw[e]at j;have g:∀p,p<4->K.dT b p=-1:=λp g=>by
  grind
 have q:∀f:Nat,K.S b 2=f->Own ((K.an f 0 (-1)).oq b):=λf k =>
  QT c d Za k g ⟨Z,Z,Z⟩ (zU K f 0 (-1)) (K7 K f 0 (-1)).1 λn h=>⟨aa.oB K f 0 (-1) n 0 h,aa.oB K f 0 (-1) n 1 h⟩
 have:=G.oT b d Za
 grind
theorem Tz{K d:aa}(c:Own K)(e:a<K.nD)(f:b<K.nF)(g:K.F b 0=0)(h:K.D a 0=-1)(z:oD K d)(i:∀y,d.loc y=K.loc y)(j:d.F b 0=3/\d.F b 1=-1)(hF:∀a,a≠b->d.F a 0=K.F a 0/\d.F a 1=K.F a 1):Own (d.hZ a b) :=
 c.take ⟨z.f,z.s,z.d⟩ (.ring a) e b f g h (MM a b) (λy _ k=>(PA a b y k).trans (i y)) j hF
theorem c5l{K:aa}(c:Own K)(d:a<K.nD)(e:b<K.nF)(f:K.F b 0=0)(g:K.D a 0=-1):Own ((K.an b 3 (-1)).hZ a b) :=
 Tz c d e f g ⟨Z,Z,Z⟩ (zU K b 3 (-1)) (K7 K b 3 (-1)) λa d=>⟨aa.oB K b 3 (-1) a 0 d,aa.oB K b 3 (-1) a 1 d⟩
theorem c5i{K:aa}(e:Own K)(g:b<K.nD)(h:c<K.nF):Own (C4 K a b c d).K:=by
 by_cases i:K.D b 0≠-1
 .unfold C4;grind
 by_cases j:K.F c 0≠0
 .unfold C4;grind
 have k:Own ((K.an c 3 (-1)).hZ b c):=c5l e g h Za Za;unfold C4;rw[nR i,nR j];generalize (K.an c 3 (-1)).hZ b c=f at *;split
 .exact e
 have l:Own (f.eL a d b false):=Dk k a d b false;show Own ((f.eL a d b false).eL a (d+1) b true);generalize f.eL a d b false=m at *;exact Dk l a (d+1) b true
theorem b5M{K d:aa}(c:Own K)(e:a<K.nD)(f:K.D a 0=b)(z:oD K d)(g:∀y,d.loc y=K.loc y)(h:d.F b 0=0)(hF:∀n,n≠b->d.F n 0=K.F n 0/\d.F n 1=K.F n 1):Own (d.hZ a (-1)) :=
 c.free ⟨z.f,z.s,z.d⟩ (.ring a) e b f (MM a (-1)) (λy _ i=>(PA a (-1) y i).trans (g y)) h hF
theorem b7U{K:aa}(c:Own K)(e:a<K.nD)(f:K.D a 0=b):Own ((K.an b 0 (-1)).hZ a (-1)) :=
 b5M c e f ⟨Z,Z,Z⟩ (zU K b 0 (-1)) (K7 K b 0 (-1)).1 λn d=>⟨aa.oB K b 0 (-1) n 0 d,aa.oB K b 0 (-1) n 1 d⟩
theorem Gc(K:aa)(d:Nat)(b:Bool)(m:Int)(i:Nat):(K.count d b m).D i 0=K.D i 0:=by
 cases b<;>exact d6 _ Za
theorem JL{K:aa}(c:Own K)(G:Good K)(l:a<K.nS)(m:b<4)(r:K.file a b≠-1):Own (K.oa a b):=by
 have hF:=G.file a b l m;obtain⟨d,h⟩:∃d:Nat,K.file a b=d:=⟨(K.file a b).toNat,by omega⟩;have o:d<K.nD:=by omega
 rw[h,au]at hF;unfold aa.oa;rw[h,au];generalize s:K.end a b=e;show Own (if ((K.av a b (-1) false).count d e (-1)).D d 3=0/\((K.av a b (-1) false).count d e (-1)).D d 4=0 then(((K.av a b (-1) false).count d e (-1)).an (((K.av a b (-1) false).count d e (-1)).D d 0).toNat 0 (-1)).hZ d (-1) else(K.av a b (-1) false).count d e (-1));have g:=Q2 (K.av a b (-1) false) d e (-1);have i:Own ((K.av a b (-1) false).count d e (-1)):=c.same ⟨g.1,g.2.1,g.2.2.1⟩ (λy p=>(Pp d e (-1) y).trans (Ox K a b (-1) false y p)) (λn=>by rw[g.2.2.2.2.2];exact⟨Z,Z⟩);have t:((K.av a b (-1) false).count d e (-1)).D d 0=K.D d 0:=Gc _ d e (-1) d;have q:d<((K.av a b (-1) false).count d e (-1)).nD:=by rw[g.2.2.1];exact o
 generalize (K.av a b (-1) false).count d e (-1)=j at *;split
 .obtain⟨f,k⟩:∃f:Nat,j.D d 0=f:=⟨(j.D d 0).toNat,by omega⟩;rw[k,au];exact b7U i q k
 .exact i
theorem c1v{K:aa}(c:Own K)(G:Good K)(d:a<K.nS)(e:b<4):Own (N9 K a b).K:=by
 unfold N9;split
 .exact c
 exact JL c G d e (by assumption)
theorem Rs{K:aa}(d:Own K)(G:Good K)(e:b<K.nS)(f:c<4):Own (W8 K a b c).K:=by
 unfold W8;split
 .exact d
 split
 .exact d
 exact JL d G e f (by assumption)
theorem c9W{K:aa}(d:Own K)(G:Good K)(s n:Nat)(a b c:Int)(k:s<K.nS)(l:K.S s 0≠0)(p:n<20)(m:A7 K ((i7 n).getD 0 0) a=true/\A7 K ((i7 n).getD 1 0) b=true/\A7 K ((i7 n).getD 2 0) c=true):Own (tK K s n a b c).K:=by
 let⟨e,h,o⟩:=m;have q:=yT K;have r:=zo K;have t:=Ah K;have u:=zI K;have v:=Ai K;have w:=zA K;cases n,(Za:n<20) using oQ
 .exact d
 .exact d
 .obtain⟨f,rfl,g⟩:=i5 (t:=4) e Zb;obtain⟨i,rfl,j⟩:=i5 (t:=1) h Zb;exact Te d k Za Za
 .obtain⟨f,rfl,g⟩:=i5 (t:=4) e Zb;exact Ul d k Za
 .exact b5O d b
 .obtain⟨f,rfl,g⟩:=i5 (t:=2) e Zb;obtain⟨i,rfl,j⟩:=i5 (t:=1) h Zb;exact WK d Za Za
 .obtain⟨f,rfl,g⟩:=i5 (t:=2) e Zb;obtain⟨i,rfl,j⟩:=i5 (t:=4) h Zb;obtain⟨x,rfl,y⟩:=i5 (t:=1) o Zb;exact c5b d Za Za Za
 .exact ZO d _ _ _ _
 .exact Qw d _ _
 .exact QK d a l
 .obtain⟨f,rfl,g⟩:=i5 (t:=2) e Zb;obtain⟨i,rfl,j⟩:=i5 (t:=4) h Zb;exact TR d Za Za
 .obtain⟨f,rfl,g⟩:=i5 (t:=2) e Zb;obtain⟨i,rfl,j⟩:=i5 (t:=5) h Zb;exact Rs d G Za Za
 .obtain⟨f,rfl,g⟩:=i5 (t:=2) e Zb;exact Vo d G Za
 .obtain⟨f,rfl,g⟩:=i5 (t:=3) e Zb;obtain⟨i,rfl,j⟩:=i5 (t:=1) h Zb;exact c5i d Za Za
 .exact c7X d _ _ _
 .obtain⟨f,rfl,g⟩:=i5 (t:=5) e Zb;exact c1v d G k Za
 .exact Yx d _ _ _ _
 .exact WY d _ _ _ _
 .exact RE d s _ _
 .exact VZ d s _ _
theorem Gq(K:aa)(d f a b c:Int)(P:Out->Prop)(g:∀e,P ⟨K,0,e⟩)(h:∀s n:Nat,d=s->s<K.nS->K.S s 0=2->n<20->A7 K ((i7 n).getD 0 0) a=true/\A7 K ((i7 n).getD 1 0) b=true/\A7 K ((i7 n).getD 2 0) c=true->P (tK K s n a b c)):P (d8 K d f a b c):=by
 unfold d8
 grind
theorem c5a{K:aa}(d:Own K)(G:Good K)(e f a b c:Int):Own (d8 K e f a b c).K :=
 Gq K e f a b c (λo=>Own o.K) (λ_=>d) λs n _ g j h i=>c9W d G s n a b c g Za h i
theorem c7Z(a b c:Nat)(hF:2<=a)(j:1<=b):Own (K8 a b c):=by
 have L:∀x,(K8 a b c).has x->(K8 a b c).loc x=-1\/(x=.oT 0/\(K8 a b c).loc x=0):=λx f=>by
  cases x with
  | oT i =>
   by_cases e:i=0
   .subst e;right;refine⟨Z,?_⟩;simp[aa.loc,K8,rP,aa.an,aa.cf,aa.nU,upd]
   .left;simp[aa.loc,K8,rP,aa.an,aa.cf,aa.nU,upd,e]
  | dT i p =>
   left;have k:¬(i=0/\3+p*2=0):=by omega
   have l:¬(i=0/\3+p*2=2):=by omega
   have q:p<4:=f.2;have m:¬(3+p*2=0\/3+p*2=19):=by omega
   simp only[aa.loc,aa.dT,K8,rP,aa.an,aa.cf,aa.nU,d6 _ k,d6 _ l,nR m]
  | ring d =>
   left;simp[aa.loc,K8,rP,aa.an,aa.cf,aa.nU]
 have o:(K8 a b c).F 0 0=1/\(K8 a b c).F 0 1=0:=by simp[K8,rP,aa.an,aa.cf,aa.nU,upd]
 have Fn:∀n,n≠0->(K8 a b c).F n 0=0:=λn g=>by simp[K8,rP,aa.an,aa.cf,aa.nU,upd,g]
 refine⟨λx f=>?_,λx f n g=>?_,λx y f r n g s=>?_,λn g t=>?_⟩
 .rcases L x f with h|⟨_,h⟩
  .exact bT h
  .right;rw[h];exact⟨by omega,by show(0:Int)<(a:Int);omega⟩
 .rcases L x f with h|⟨e,h⟩
  .omega
  .have:n=0:=by omega
   subst this;subst e;exact o
 .grind
 .by_cases e:n=0
  .subst e;refine⟨.oT 0,j,?_⟩;rcases L (.oT 0) j with h|⟨_,h⟩
   .have:(K8 a b c).loc (.oT 0)=0:=by simp[aa.loc,K8,rP,aa.an,aa.cf,aa.nU,upd]
    omega
   .exact h
  grind
structure iP (K:aa):Prop where
 vE:∀i x,x<4->K.file i x=-1->K.end i x=false
 ta:∀i j,i<K.nS->K.S i 0=0->0<j->j<20->¬pF j->K.S i j=if j=19 then 0 else -1
 uY:∀f,K.F f 0=0->K.F f 1=-1
 uN:∀f,K.F f 0=0\/K.F f 0=1->∀j,j<4->K.F f (2+j)=0
 tI:∀d,d<K.nD->K.D d 0=-1->K.D d 1=0/\K.D d 2=0
variable{K:aa}
theorem To(p:Nat):¬pF (3+p*2):=by unfold pF;omega
theorem Sd(x:Nat):¬pF (11+x*2):=by unfold pF;omega
theorem iP.dT(N:iP K)(c:a<K.nS)(d:K.S a 0=0)(e:b<4):K.dT a b=-1:=by
 have:=N.ta a (3+b*2) c d Za Za (To b);rw[nR Za]at this;exact this
theorem iP.file(N:iP K)(c:a<K.nS)(d:K.S a 0=0)(e:b<4):K.file a b=-1:=by
 have:=N.ta a (11+b*2) c d Za Za (Sd b);rw[nR Za]at this;exact this
theorem iP.parent(N:iP K){i:Nat}(a:i<K.nS)(b:K.S i 0=0):K.S i 1=-1:=by
 have:=N.ta i 1 a b Za Za (by unfold pF;omega);rw[nR Za]at this;exact this
theorem iP.table(N:iP K)(b:a<K.nS)(c:K.S a 0=0):K.S a 2=-1:=by
 have:=N.ta a 2 b c Za Za (by unfold pF;omega);rw[nR Za]at this;exact this
theorem iP.code(N:iP K)(b:a<K.nS)(c:K.S a 0=0):K.S a 19=0:=by
 have:=N.ta a 19 b c Za Za (by unfold pF;omega)
 grind
theorem yg(N:iP K)(f c:Nat)(v:Int)(i:2<=c)(h:K.F f 0≠0/\K.F f 0≠1):iP (K.nU f c v):=by
 have b:∀g,(K.nU f c v).F g 0=K.F g 0:=λg=>d6 _ Za;have d:∀g,(K.nU f c v).F g 1=K.F g 1:=λg=>d6 _ Za;refine⟨N.vE,N.ta,λg a=>?_,λg a j e=>?_,N.tI⟩
 .rw[b]at a;rw[d];exact N.uY g a
 .rw[b]at a;have:(K.nU f c v).F g (2+j)=K.F g (2+j):=d6 _ (by grind);rw[this];exact N.uN g a j e
theorem Io(K:aa)(i:Nat)(a b:Int)(c:Nat):(K.an i a b).F i c=if c=0 then a else if c=1 then b else if c<6 then 0 else K.F i c:=by
 unfold aa.an aa.nU upd
 grind
theorem U9(N:iP K)(f:Nat)(a b:Int)(h:a=0->b=-1):iP (K.an f a b):=by
 have A:=Io K f a b;have o:∀g c,g≠f->(K.an f a b).F g c=K.F g c:=λg c k=>aa.oB K f a b g c k;have p:(K.an f a b).S=K.S:=Z;have s:(K.an f a b).B=K.B:=Z;have t:(K.an f a b).D=K.D:=Z;have u:(K.an f a b).nS=K.nS:=Z;have v:(K.an f a b).nD=K.nD:=Z;generalize K.an f a b=B at *;refine⟨λi x w m=>?_,λi j q l n y z=>?_,λg k=>?_,λg k j n=>?_,λd r l=>?_⟩
 .unfold aa.file at m;unfold aa.end;rw[p]at m;rw[s];exact N.vE i x w m
 .rw[p]at l ⊢;rw[u]at q;exact N.ta i j q l n y z
 .by_cases e:g=f
  .grind
  .rw[o g _ e]at k ⊢;exact N.uY g k
 .by_cases e:g=f
  .grind
  .rw[o g _ e]at k ⊢;exact N.uN g k j n
 .rw[t]at l ⊢;rw[v]at r;exact N.tI d r l
theorem G1(N:iP K)(s p:Nat)(f:Int)(b:Bool)(r:p<4)(h:K.S s 0≠0\/f=-1):iP (K.fi s p f b):=by
 have d:∀i,(K.fi s p f b).S i 0=K.S i 0:=λi=>d6 (f:=K.S) (i:=s) (c:=3+p*2) (v:=f) i (b:=0) Za;refine⟨λi x g c=>?_,λi j k a l m n=>?_,N.uY,N.uN,N.tI⟩
 .have o:(K.fi s p f b).file i x=K.file i x:=d6 (f:=K.S) (i:=s) (c:=3+p*2) (v:=f) i (b:=11+x*2) Za;have q:(K.fi s p f b).end i x=K.end i x:=d6 (f:=K.B) (i:=s) (c:=4+p*2) (v:=b) i (b:=12+x*2) Za;rw[o]at c;rw[q];exact N.vE i x g c
 .rw[d]at a;show upd K.S s (3+p*2) f i j=_
  by_cases e:i=s/\j=3+p*2
  .obtain⟨rfl,rfl⟩:=e;rw[upd_same,nR Za];rcases h with h|h
   .exact absurd a h
   .exact h
  .rw[d6 _ e];exact N.ta i j k a l m n
theorem Kj(N:iP K)(s x:Nat)(d:Int)(b:Bool)(g:x<4)(h:K.S s 0≠0\/d=-1)(k:d=-1->b=false):iP (K.av s x d b):=by
 have l:∀i,(K.av s x d b).S i 0=K.S i 0:=λi=>d6 (f:=K.S) (i:=s) (c:=11+x*2) (v:=d) i (b:=0) Za;refine⟨λi y a c=>?_,λi j m f n o k=>?_,N.uY,N.uN,N.tI⟩
 .rw[yK K s x d b i y a g]at c;rw[CN K s x d b i y a g]
  by_cases e:i=s/\y=x
  .grind
  .rw[nR e]at c ⊢;exact N.vE i y a c
 .rw[l]at f;show upd K.S s (11+x*2) d i j=_
  by_cases e:i=s/\j=11+x*2
  .obtain⟨rfl,rfl⟩:=e;rw[upd_same,nR Za];rcases h with h|h
   .exact absurd f h
   .exact h
  .rw[d6 _ e];exact N.ta i j m f n o k
theorem AG(N:iP K)(d c:Nat)(h:3<=c\/(c≠0/\K.D d 0≠-1)):iP (K.nX d c C):=by
 refine⟨N.vE,N.ta,N.uY,N.uN,λe g a=>?_⟩;have i:(K.nX d c C).D e 0=K.D e 0:=d6 _ Za;rw[i]at a
 by_cases k:e=d
 .subst k;have j:3<=c:=by grind
  have b:(K.nX e c C).D e 1=K.D e 1:=d6 _ Za;have f:(K.nX e c C).D e 2=K.D e 2:=d6 _ Za;rw[b,f];exact N.tI e g a
 .have b:(K.nX d c C).D e 1=K.D e 1:=d6 _ Za;have f:(K.nX d c C).D e 2=K.D e 2:=d6 _ Za;rw[b,f];exact N.tI e g a
theorem PE(N:iP K)(d:Nat)(b:Bool)(m:Int):iP (K.count d b m):=by
 cases b
 .exact AG N d 3 Za
 .exact AG N d 4 Za
theorem CC(N:iP K)(s x d:Nat)(b:Bool)(a:x<4)(h:K.S s 0≠0):iP (K.eL s x d b) :=
 PE (Kj N s x d b a (bT h) Za) d b 1
theorem JH(N:iP K)(d:Nat)(f:Int):iP (K.hZ d f):=by
 refine⟨N.vE,N.ta,N.uY,N.uN,λe b a=>?_⟩;rw[Z3,Z3];rw[Z3]at a
 by_cases k:e=d
 .subst k;simp
 .rw[nR Za]at a;rw[nR Za,nR Za];exact N.tI e b a
theorem c1j(N:iP K)(s a:Nat)(d:a<4):iP (K.oW s (4+a*2) p) :=
 ⟨λi x b c=>by rw[show(K.oW s (4+a*2) p).end i x=K.end i x from d6 (f:=K.B) (i:=s) (c:=4+a*2) (v:=p) i (b:=12+x*2) Za];exact N.vE i x b c,N.ta,N.uY,N.uN,N.tI⟩
theorem xO(N:iP K)(s c:Nat)(v:Int)(o:c=0\/c=1\/c=2\/c=19)(h:(K.cf s c v).S s 0≠0):iP (K.cf s c v):=by
 refine⟨λi x d a=>?_,λi j f b g k l=>?_,N.uY,N.uN,N.tI⟩
 .have:(K.cf s c v).file i x=K.file i x:=d6 (f:=K.S) (i:=s) (c:=c) (v:=v) i (b:=11+x*2) Za;rw[this]at a;exact N.vE i x d a
 .by_cases e:i=s
  .grind
  .have m:(K.cf s c v).S i 0=K.S i 0:=d6 _ Za;have n:(K.cf s c v).S i j=K.S i j:=d6 _ Za;rw[m]at b;rw[n];exact N.ta i j f b g k l
theorem QJ(N:iP K)(g h:Nat)(e:K.F g 0=2):iP (K.nV g h):=by
 have k:∀(a:aa) c v,2<=c->a.F g 0=2->(a.nU g c v).F g 0=2:=λa c v l f=>(d6 (f:=a.F) (i:=g) (c:=c) (v:=v) g (b:=0) Za).trans f;unfold aa.nV;have i:=k K 2 (K.F h 2) Za e;have n1:=yg N g 2 (K.F h 2) Za Za;generalize K.nU g 2 (K.F h 2)=b at *;have j:=k b 3 (K.F h 3) Za i;have n2:=yg n1 g 3 (K.F h 3) Za Za;generalize b.nU g 3 (K.F h 3)=d at *;have m:=k d 4 (K.F h 4) Za j;have n3:=yg n2 g 4 (K.F h 4) Za Za;generalize d.nU g 4 (K.F h 4)=n at *;exact yg n3 g 5 (K.F h 5) Za Za
theorem b5y(N:iP K)(c:Nat):iP (K.oq c):=by
 have d:∀i j,(K.oq c).S i j=if i=c then(if j=0\/j=19 then 0 else -1) else K.S i j:=λ_ _=>rfl
 have f:∀i j,(K.oq c).B i j=if i=c then false else K.B i j:=λ_ _=>rfl
 refine⟨λi x g a=>?_,λi j h b k l m=>?_,N.uY,N.uN,N.tI⟩
 .unfold aa.end aa.file at *;rw[f];rw[d]at a
  by_cases e:i=c
  .rw[nT e]
  .rw[nR e]at a ⊢;exact N.vE i x g a
 .rw[d]at b ⊢
  by_cases e:i=c
  .grind
  .rw[nR e]at b ⊢;exact N.ta i j h b k l m
theorem Nj(N:iP K)(c:b<4):iP (K.oz a b):=by
 unfold aa.oz;have n1:iP (K.an (K.dT a b).toNat 0 (-1)):=U9 N _ 0 (-1) λ_=>rfl;generalize K.an (K.dT a b).toNat 0 (-1)=d at *;exact G1 n1 a b (-1) false c (ba Z)
theorem c4T(N:iP K)(f:b<4)(g:K.S a 0≠0):iP (qb K a b c).K:=by
 by_cases d:K.dT a b≠-1
 .unfold qb;rw[nT d];exact N
 by_cases e:K.F c 0≠0
 .unfold qb;rw[nR d,nT e];exact N
 unfold qb;rw[nR d,nR e];have n1:iP (K.an c 2 a):=U9 N c 2 a Za;have h:(K.an c 2 a).S a 0≠0:=g;show iP ((K.an c 2 a).fi a b c true);generalize K.an c 2 a=i at *;exact G1 n1 a b c true f (bT h)
theorem b7P(N:iP K)(c:b<4):iP (O0 K a b).K:=by
 unfold O0;split
 .exact N
 .exact Nj N c
theorem b3y(N:iP K)(v:Int)(c:b<4):iP (B5 K a b v).K:=by
 unfold B5;split
 .exact N
 .exact c1j N a b c
theorem c1f(N:iP K)(s p x:Nat):iP (Z0 K s p x).K:=by
 unfold Z0;split<;>exact N
theorem Vg(N:iP K)(d:Own K)(G:Good K)(v:Int)(e:a<K.nS)(g:b<4):iP (J2 K a b c v).K:=by
 unfold J2;split
 .exact N
 rename_i h;have j:=G.wr a b e g (by simpa using h);have k:=G.dT a b e g;obtain⟨f,i⟩:∃f:Nat,K.dT a b=f:=⟨(K.dT a b).toNat,by omega⟩;have l:K.F f 0=2:=(d.what (.dT a b) ⟨e,g⟩ f i).1;rw[i,au];exact yg N f _ v Za Za
theorem ZY(N:iP K)(e:Own K)(G:Good K)(k:a<K.nS)(l:b<4):iP (H9 K a b c d).K:=by
 unfold H9;split
 .exact N
 rename_i h;split
 .exact N
 split
 .exact N
 split
 .exact N
 have hF:=G.file a b k l;obtain⟨g,i⟩:∃g:Nat,K.file a b=g:=⟨(K.file a b).toNat,by omega⟩;rw[i,au]at hF;obtain⟨f,j⟩:∃f:Nat,K.D g 0=f:=⟨(K.D g 0).toNat,by omega⟩;have m:K.F f 0=3:=(e.what (.ring g) (show g<K.nD by omega) f j).1;rw[i,au,j,au];exact AG (yg N f _ _ Za Za) g 2 (ba ⟨by omega,by show K.D g 0≠-1;omega⟩)
theorem c1h(N:iP K)(e:Own K)(G:Good K)(i:a<K.nS)(o:b<4)(j:c<4):iP (Q5 K a b c d).K:=by
 unfold Q5;split
 .exact N
 rename_i h;split
 .exact N
 rename_i p;split
 .exact N
 split
 .exact N
 have hF:=G.file a b i o;obtain⟨g,l⟩:∃g:Nat,K.file a b=g:=⟨(K.file a b).toNat,by omega⟩;rw[l,au]at hF;have r:=G.wr a c i j (by simpa using p);have s:=G.dT a c i j;obtain⟨f,m⟩:∃f:Nat,K.dT a c=f:=⟨(K.dT a c).toNat,by omega⟩;have t:K.F f 0=2:=(e.what (.dT a c) ⟨i,j⟩ f m).1;rw[l,au,m,au];generalize K.F (K.D g 0).toNat (2+(K.D g 1).toNat)=v;have n1:iP (K.nU f (2+d) v):=yg N f _ v Za Za;have n:(K.nU f (2+d) v).D g 0≠-1:=by show K.D g 0≠-1;omega
 have q:(K.nU f (2+d) v).D=K.D:=Z;rw[←q];generalize K.nU f (2+d) v=k at *;have n2:iP (k.nX g 1 ((k.D g 1+1)%4)):=AG n1 g 1 (ba ⟨by omega,n⟩);refine AG n2 g 2 (ba ⟨by omega,?_⟩);show upd k.D g 1 _ g 0≠-1;rw[d6 _ Za];exact n
theorem Qm(N:iP K)(d:c<4)(e:K.S a 0≠0):iP (qy K a b c).K:=by
 unfold qy;split
 .exact N
 .exact CC N _ _ _ _ d e
theorem Zt(N:iP K)(e:d<4):iP (Q4 K a b c d).K:=by
 unfold Q4;split
 .exact N
 rename_i h;split
 .exact N
 have:=Em h;exact CC N _ _ _ _ e Za
theorem ZU(N:iP K):iP (R9 K a b).K:=by
 unfold R9;split
 .exact N
 exact xO N b 0 2 Za (by rw[show(K.cf b 0 2).S b 0=2 from upd_same _ _];omega)
theorem Dr(K:aa)(s:Nat):∀n,(K.mg s n).nS=K.nS
 | 0=>rfl
 | n+1=>by
  unfold aa.mg;split
  .exact Dr K s n
  .exact Dr K s n
theorem KR(N:iP K)(s:Nat):∀n,n<=K.nS->iP (K.mg s n)
 | 0,_=>N
 | n+1,hn=>by
  have a:=KR N s n Za;unfold aa.mg;split
  .rename_i h;refine xO a n 1 0 Za ?_;rw[show((K.mg s n).cf n 1 0).S n 0=(K.mg s n).S n 0 from d6 _ Za];intro b;have:=a.parent (i:=n) (by rw[Dr];omega) b;omega
  .exact a
theorem VH(N:iP K)(b:Int):iP (Y9 K a b).K:=by
 unfold Y9;split
 .exact N
 have n1:iP (K.cf a 0 3):=xO N a 0 3 Za (by rw[show(K.cf a 0 3).S a 0=3 from upd_same _ _];omega);have d:(K.cf a 0 3).S a 0≠0:=by rw[show(K.cf a 0 3).S a 0=3 from upd_same _ _];omega
 have e:(K.cf a 0 3).nS=K.nS:=Z;show iP (((K.cf a 0 3).cf a 19 b).mg a K.nS);generalize K.cf a 0 3=c at *;have n2:iP (c.cf a 19 b):=xO n1 a 19 b Za (by rw[show(c.cf a 19 b).S a 0=c.S a 0 from d6 _ Za];exact d);have f:(c.cf a 19 b).nS=K.nS:=e;generalize c.cf a 19 b=g at *;exact KR n2 a K.nS Za
theorem VU(N:iP K)(d:c<4):iP (W7 K a b c).K:=by
 unfold W7;split
 .exact N
 split
 .exact N
 exact Nj N d
theorem YM(N:iP K)(g:c<4):iP (J0 K a b c d).K:=by
 by_cases e:K.oJ a b=false
 .unfold J0;rw[nT e];exact N
 unfold J0;rw[nR e];split
 .exact N
 split
 .exact N
 have:=Em e;have n1:iP (K.an d 2 b):=U9 N d 2 b Za;have h:(K.an d 2 b).S b 0≠0:=by show K.S b 0≠0;omega
 have i:(K.an d 2 b).F d 0=2:=(K7 K d 2 b).1;show iP (((K.an d 2 b).fi b c d (K.wr a c)).nV d (K.dT a c).toNat);generalize K.an d 2 b=f at *;have n2:iP (f.fi b c d (K.wr a c)):=G1 n1 b c d _ g (bT h);have j:(f.fi b c d (K.wr a c)).F d 0=2:=i;generalize f.fi b c d (K.wr a c)=k at *;exact QJ n2 d _ j
theorem b7M(N:iP K):iP (F7 K a b c).K:=by
 by_cases f:K.S b 0≠0
 .unfold F7;rw[nT f];exact N
 by_cases g:K.F c 0≠0
 .unfold F7;rw[nR f,nT g];exact N
 unfold F7;rw[nR f,nR g];have n1:iP (K.an c 1 b):=U9 N c 1 b Za;show iP ((((K.an c 1 b).cf b 0 1).cf b 1 a).cf b 2 c);generalize K.an c 1 b=e at *;have n2:iP (e.cf b 0 1):=xO n1 b 0 1 Za (by rw[show(e.cf b 0 1).S b 0=1 from upd_same _ _];omega);have h:(e.cf b 0 1).S b 0≠0:=by rw[show(e.cf b 0 1).S b 0=1 from upd_same _ _];omega
 generalize e.cf b 0 1=d at *;have n3:iP (d.cf b 1 a):=xO n2 b 1 a Za (by rw[show(d.cf b 1 a).S b 0=d.S b 0 from d6 _ Za];exact h);have j:(d.cf b 1 a).S b 0≠0:=by rw[show(d.cf b 1 a).S b 0=d.S b 0 from d6 _ Za];exact h
 generalize d.cf b 1 (a:Int)=i at *;exact xO n3 b 2 c Za (by rw[show(i.cf b 2 c).S b 0=i.S b 0 from d6 _ Za];exact j)
theorem Ug(N:iP K):iP (K6 K a b).K:=by
 unfold K6;split
 .exact N
 split
 .exact N
 split
 .exact N
 have n1:iP (K.an (K.S b 2).toNat 0 (-1)):=U9 N _ 0 (-1) λ_=>rfl;show iP ((K.an (K.S b 2).toNat 0 (-1)).oq b);generalize K.an (K.S b 2).toNat 0 (-1)=c at *;exact b5y n1 b
theorem c1g(N:iP K)(k:d<4)(l:K.S a 0≠0):iP (C4 K a b c d).K:=by
 by_cases g:K.D b 0≠-1
 .unfold C4;rw[nT g];exact N
 by_cases i:K.F c 0≠0
 .unfold C4;rw[nR g,nT i];exact N
 have n1:iP ((K.an c 3 (-1)).hZ b c):=JH (U9 N c 3 (-1) Za) b c;have j:((K.an c 3 (-1)).hZ b c).S a 0≠0:=l;unfold C4;rw[nR g,nR i];generalize (K.an c 3 (-1)).hZ b c=f at *;split
 .exact N
 rename_i h;have n2:iP (f.eL a d b false):=CC n1 a d b false k j;have m:(f.eL a d b false).S a 0≠0:=by
  have e:(f.eL a d b false).S a 0=f.S a 0:=by
   show upd f.S a (11+d*2) b a 0=_;exact d6 _ Za
  rw[e];exact j
 show iP ((f.eL a d b false).eL a (d+1) b true);generalize f.eL a d b false=n at *;exact CC n2 a (d+1) b true Za m
theorem Pr(N:iP K)(f:b<4):iP (K.oa a b):=by
 unfold aa.oa;generalize (K.file a b).toNat=d;generalize K.end a b=c;show iP (if ((K.av a b (-1) false).count d c (-1)).D d 3=0/\((K.av a b (-1) false).count d c (-1)).D d 4=0 then(((K.av a b (-1) false).count d c (-1)).an (((K.av a b (-1) false).count d c (-1)).D d 0).toNat 0 (-1)).hZ d (-1) else(K.av a b (-1) false).count d c (-1));have n1:iP ((K.av a b (-1) false).count d c (-1)):=PE (Kj N a b (-1) false f (ba Z) λ_=>rfl) d c (-1);generalize (K.av a b (-1) false).count d c (-1)=e at *;split
 .have n2:iP (e.an (e.D d 0).toNat 0 (-1)):=U9 n1 _ 0 (-1) λ_=>rfl;generalize e.an (e.D d 0).toNat 0 (-1)=g at *;exact JH n2 d (-1)
 .exact n1
theorem b7L(N:iP K)(c:b<4):iP (N9 K a b).K:=by
 unfold N9;split
 .exact N
 .exact Pr N c
theorem ZN(N:iP K)(d:c<4):iP (W8 K a b c).K:=by
 unfold W8;split
 .exact N
 split
 .exact N
 .exact Pr N d
theorem c7N{K:aa}(N:iP K)(d:Own K)(G:Good K)(s n:Nat)(a b c:Int)(k:s<K.nS)(l:K.S s 0≠0)(r:n<20)(o:A7 K ((i7 n).getD 0 0) a=true/\A7 K ((i7 n).getD 1 0) b=true/\A7 K ((i7 n).getD 2 0) c=true):iP (tK K s n a b c).K:=by
 let⟨e,h,m⟩:=o;have t:=yT K;have u:=zo K;have v:=Ah K;have w:=zI K;have x:=Ai K;have y:=zA K;cases n,(Za:n<20) using oQ
 .exact N
 .exact N
 .obtain⟨f,rfl,g⟩:=i5 (t:=4) e Zb;exact c4T N Za l
 .obtain⟨f,rfl,g⟩:=i5 (t:=4) e Zb;exact b7P N Za
 .obtain⟨f,rfl,g⟩:=i5 (t:=4) e Zb;exact b3y N b Za
 .exact b7M N
 .obtain⟨i,rfl,j⟩:=i5 (t:=4) h Zb;exact YM N Za
 .obtain⟨p,rfl,q⟩:=i5 (t:=5) m Zb;exact Zt N Za
 .exact ZU N
 .exact VH N a
 .obtain⟨i,rfl,j⟩:=i5 (t:=4) h Zb;exact VU N Za
 .obtain⟨i,rfl,j⟩:=i5 (t:=5) h Zb;exact ZN N Za
 .exact Ug N
 .obtain⟨p,rfl,q⟩:=i5 (t:=5) m Zb;exact c1g N Za l
 .obtain⟨i,rfl,j⟩:=i5 (t:=5) h Zb;exact Qm N Za l
 .obtain⟨f,rfl,g⟩:=i5 (t:=5) e Zb;exact b7L N Za
 .obtain⟨f,rfl,g⟩:=i5 (t:=5) e Zb;exact ZY N d G k Za
 .obtain⟨f,rfl,g⟩:=i5 (t:=5) e Zb;obtain⟨i,rfl,j⟩:=i5 (t:=4) h Zb;exact c1h N d G k Za Za
 .exact c1f N s _ _
 .obtain⟨f,rfl,g⟩:=i5 (t:=4) e Zb;exact Vg N d G c k Za
theorem c1a{K:aa}(N:iP K)(d:Own K)(G:Good K)(e f a b c:Int):iP (d8 K e f a b c).K :=
 Gq K e f a b c (λo=>iP o.K) (λ_=>N) λs n _ g j h i=>c7N N d G s n a b c g Za h i
end
end
end Go.Proofs.YtcgabodkegcpgaaGreatDoor