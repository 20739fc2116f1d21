/- The kernel's memory as plain numbers: what its cells hold (Ker), that a world holds it (Rep), and that a step leaves all other memory as it was (Keeps). -/
import Derived.Test.YtcgabodkegcpgaaGreatDoorAaa
import Derived.WalkKit
import Derived.Below
import Derived.Deep.QuietTactic
import Derived.Test.YtcgabodkegcpgaaGreatDoorProg
import Derived.WalkSpells
import Derived.WalkLawsBesides
import Derived.BigQuiet
import Derived.BigRegion
import Derived.Deep.RegionWith
import Derived.Test.YtcgabodkegcpgaaGreatDoorRows
import Derived.ProofKit
import Derived.OpenShut
import Derived.Lib.LaidTab
import Derived.Conc.Holds
import Derived.SevenTiedAt
import Derived.LaidByTextLater
import Derived.Conc.LeavingOf
import Derived.Deep.DeepHandedRow
import Derived.JoinedCond
import Derived.Calls
import Derived.RunT
import Derived.Laws.Sem
import Derived.Conc.Own
import Derived.Conc.Machine
import Derived.Conc.Token
import Derived.Conc.TokenWalk
import Derived.Conc.CompanyCalls
import Derived.KernelRfl
import Derived.Conc.CompanyDraw
import Derived.Conc.SmallLaws
import Derived.Laws.AppendOwn
set_option linter.unusedVariables false
set_option linter.unusedSimpArgs false
set_option maxHeartbeats 20000000
set_option maxRecDepth 100000
open Option renaming some->J,none->Q,map_some->aD,bind_eq_some_iff->bJ,getD_some->cU,elim_some->mF
open Go.Proofs.Tryz renaming prog->V,underlying119->iE,ntmps60->kM,ntmps34->kQ,func60->lJ,func34->lQ
open Go renaming World->Wd,Value->Vu,undef->Ud,Frame->Fm',Goroutine->Gr,TypeId->Ti,execOp->Ex,Program->Pg,Calls->aF,Oper->aL,Operand->aS,Item->bh,FuncId->bC,stepG->bF,Addr->cx,Act->cZ,results->de,Event->dn,Value->dM,Obj->eF,yielded->fh,FloatKind->fq,exitTo->fI,Sem->gi,run_underlying->gQ,Question->gV,Machine->gW,BinOp->ie,TypeInfo->ig,IntKind->iB,Code->jj,commResult->km,method->kJ,Trace->lT,choose->mP
open Go.Value renaming int->Y,pointer->Po,slice->Sc,bool->Bo
open Go.IntKind renaming i64->U
open Go.Addr renaming mk->O
open List renaming mem_cons->ae,mem_cons_of_mem->ah,not_mem_nil->aj,mem_cons_self->ao,range->aO,all_eq_true->aT,size_toArray->aY,getElem?_eq_getElem->bj,getElem?_map->bO,cons_append->cj,length_cons->cI,mem_of_getElem?->cN,getElem?_range->cW,map_cons->cX,mem_filter->dx,mem_toArray->dU,map_nil->eE,getElem?_take->eO,mem_range->eQ,mapM_cons->fM,range'->gR,mapM_nil->iQ
open Nat renaming le_refl->af,zero_add->aE,beq->aG,add_assoc->aP,lt_or_ge->bQ,le_of_eq->fF
open Go.ConcN renaming upd->ai,upd_ne->az,upd_same->aH
open Go.RowKit renaming Hid->ar,Below->bE,intOf->bT
open Int renaming toNat_natCast->au,eq_ofNat_of_zero_le->cT
open Go.Frame renaming enter->ay,finish_at->bI,eval->gH,pos->ji
open Ne renaming symm->aA
open Bool renaming and_eq_true->aB,false_eq_true->aI,or_eq_true->cY
open Go.World renaming cell?->aC,block_lt_of_cell?->aK,frozen?->bR,cell?_setCell_other->cD,setCell->cO,setChan->dh,frozen?_of_block->dH,noCell->iO,viewStore->jw,viewLoad->jH,farStore->jI,farLoad->jU,seen->mf
open Go.RowKit.Below renaming heap_alloc->aJ,heap_setCell->dK
open Go.Sem renaming runT->aM,runT_fst->jf
open Go.Conc renaming base->aQ,served->bG,Seat->eZ,stepG_cond->fN,closeEvents->gU,listed->me
open Go.Region renaming ready->aU,wanted->bM,binds->cM,schedule->eU
open Array renaming getD_eq_getD_getElem?->aX,getElem?_eq_getElem->bg,replicate->bY,all_eq_true_iff_forall_mem->cP,getElem?_setIfInBounds_ne->cV,getElem?_eq_none->eM,getElem?_setIfInBounds->fg,getElem?_replicate->fX,mapM_eq_mapM_toList->jS,mem_of_getElem?->lC,forIn_toList->mq,append_empty->mr
open Or renaming inr->ba,inl->bP
open Option.some renaming injEq->bm
open Classical renaming byContradiction->cL
open Prod.mk renaming injEq->cR
open Go.stepG renaming apply->dg,exec->dW
open Go.Op renaming equalIn->dm
open Go.Builtin renaming copy_->dp,ssaWrapNilChk_->ki,len_->kj,firstCells->kH,unsafeAdd_->lA,holdsCells->lB,mayShare->mj,append_->mm,lenOf->mO
open Go.Region.linearise renaming go->dF
open Go.Act renaming put->dG
open Go.Stepped.next renaming inj->dX
open Go.Proofs.YtcgabodkegcpgaaGreatDoor.Rows renaming uptoBulk->dY,laid_burrow_kernel_calls->eT
open Go.GStep renaming after->eY
open List.cons renaming injEq->fG
open Except.error renaming inj->fH
open Go.Instr renaming indexAt->fV,index->fW,makeSlice->ic,sureAddr->il,build->im,sliceAt->iC,sliceBounds->jg,sliceBound->jv,buildSlice->jB,makeChan->jP,fieldAt->kh,slice->lX,makeInterface->lY
open MonadExceptOf renaming throw->gj
open Std.Legacy.Range renaming forIn_eq_forIn_range'->iG
open Go.DataW renaming trod->iJ,trod_int->jR,trod_array->mV
open Go.Op.Complex renaming corrected->jM,quotient->jX,product->kB,arith->kX,conv->ly,cmp->lV
open Go.MemAct renaming touch?->jO
open Except renaming pure->lh,bind->lr
open Go.Deferred renaming ofValue->lx
open Go.OpenClaim renaming world->lU
open Go.TypeDesc renaming struct->mh,array->mz
open List.Pairwise renaming filter->mK
open Go.Frame.mk renaming injEq->mM
open Except.ok renaming inj->mN
open Go.Made renaming reckonStruct->mS
open Go.Extern renaming findNext->mU
open Go.Conv renaming floatToFloat->mW
namespace Go.Proofs.YtcgabodkegcpgaaGreatDoor
noncomputable section
variable{a b c d e:Nat}{f h:Type}{i j k l m:Wd}{n o:Ti}{p q r s:Bool}{t u v:Gr}{w x:cx}{y z:Vu}{A B C:Int}{E F:Fm'}{H:Array aL}{I:Pg}{K:Array Vu}{L:Array Bool}{N:Prop}{P R S:Array dn}{T:ie}{W:Nat->Nat}
section
open Go.RowKit
structure aa where
 nF:Nat
 nS:Nat
 nD:Nat
 F:Nat->Nat->Int
 S:Nat->Nat->Int
 B:Nat->Nat->Bool
 D:Nat->Nat->Int
def upd(d:Nat->Nat->f)(i c:Nat)(v:f):Nat->Nat->f:=λa b=>if a=i/\b=c then v else d a b
theorem upd_same{f:Nat->Nat->h}(i c:Nat){v:h}:upd f i c v i c=v:=by simp[upd]
theorem d6{f:Nat->Nat->h}{i c:Nat}{v:h}(a:Nat){b:Nat}(d:¬(a=i/\b=c)):upd f i c v a b=f a b:=by simp[upd,d]
def oV(c:Nat):Prop:=4<=c/\c<=18/\c%2=0
def aa.ni(K:aa)(i c:Nat)(v:Int):aa:={ K with F:=upd K.F i c v }
def aa.cf(K:aa)(i c:Nat)(v:Int):aa:={ K with S:=upd K.S i c v }
def aa.oB(K:aa)(i c:Nat)(v:Bool):aa:={ K with B:=upd K.B i c v }
def aa.np(K:aa)(i c:Nat)(v:Int):aa:={ K with D:=upd K.D i c v }
structure js (w:Wd) (bk bf bs bd:Nat) (K:aa):Prop where
 k0:w.cell? (O bk 0 Q)=J (Sc (J (O bf 0 Q)) K.nF K.nF)
 k1:w.cell? (O bk 1 Q)=J (Sc (J (O bs 0 Q)) K.nS K.nS)
 k2:w.cell? (O bk 2 Q)=J (Sc (J (O bd 0 Q)) K.nD K.nD)
 f:∀i c,i<K.nF->c<6->w.cell? (O bf (i*6+c) Q)=J (Y U (K.F i c))
 s:∀i c,i<K.nS->c<20->¬oV c->w.cell? (O bs (i*20+c) Q)=J (Y U (K.S i c))
 b:∀i c,i<K.nS->oV c->w.cell? (O bs (i*20+c) Q)=J (Bo (K.B i c))
 d:∀i c,i<K.nD->c<5->w.cell? (O bd (i*5+c) Q)=J (Y U (K.D i c))
 zf:∀o,w.frozen? (O bf o Q)=false
 zs:∀o,w.frozen? (O bs o Q)=false
 zd:∀o,w.frozen? (O bd o Q)=false
 lk:bk<w.heap.size
 lf:bf<w.heap.size
 ls:bs<w.heap.size
 ld:bd<w.heap.size
 kf:bk≠bf
 ks:bk≠bs
 kd:bk≠bd
 fs:bf≠bs
 fd:bf≠bd
 sd:bs≠bd
 hF:K.nF<=32
 hS:K.nS<=6
 hD:K.nD<=4
variable{w:Wd}{d bf bs bd:Nat}{K:aa}
theorem i6{w:Wd}:(w.setCell x y).heap.size=w.heap.size:=by simp[cO]
theorem j7(w:Wd)(a p:cx)(v:Vu):(w.setCell a v).frozen? p=w.frozen? p:=by
 simp_all
theorem d7(w:Wd)(h:c≠a\/e≠b):(w.setCell (O a b Q) y).cell? (O c e Q)=w.cell? (O c e Q):=by
 refine cD w (O a b Q) (O c e Q) y ?_
 grind
theorem Q7(w:Wd)(h:w.cell? (O a b Q)=J y):(w.setCell (O a b Q) z).cell? (O a b Q)=J z:=World.cell?_setCell_same w _ z h
theorem js.ni(R:js w d bf bs bd K){c o:Nat}(i:a<K.nF)(j:c<6)(k:o=a*6+c)(v:Int):js (w.setCell (O bf o Q) (Y U v)) d bf bs bd (K.ni a c v):=by
 subst k;have:=R.kf;have:=R.ks;have:=R.kd;have:=R.fs;have:=R.fd;have:=R.sd;refine⟨?_,?_,?_,?_,?_,?_,?_,?_,?_,?_,?_,?_,?_,?_,R.kf,R.ks,R.kd,R.fs,R.fd,R.sd,R.hF,R.hS,R.hD⟩
 .rw[d7 w Za];exact R.k0
 .rw[d7 w Za];exact R.k1
 .rw[d7 w Za];exact R.k2
 .intro f b g h
  by_cases e:f=a/\b=c
  .obtain⟨rfl,rfl⟩:=e;rw[Q7 w (R.f f b i j)];simp[aa.ni,upd]
  .rw[d7 w Za,R.f f b g h];simp[aa.ni,upd,e]
 .intro f b g h l;rw[d7 w Za];exact R.s f b g h l
 .intro f b g h;rw[d7 w Za];exact R.b f b g h
 .intro f b g h;rw[d7 w Za];exact R.d f b g h
 .intro o;rw[j7];exact R.zf o
 .intro o;rw[j7];exact R.zs o
 .intro o;rw[j7];exact R.zd o
 .rw[i6];exact R.lk
 .rw[i6];exact R.lf
 .rw[i6];exact R.ls
 .rw[i6];exact R.ld
theorem js.cf(R:js w d bf bs bd K){c o:Nat}(j:a<K.nS)(k:c<20)(h:¬oV c)(l:o=a*20+c)(v:Int):js (w.setCell (O bs o Q) (Y U v)) d bf bs bd (K.cf a c v):=by
 subst l;have:=R.kf;have:=R.ks;have:=R.kd;have:=R.fs;have:=R.fd;have:=R.sd;refine⟨?_,?_,?_,?_,?_,?_,?_,?_,?_,?_,?_,?_,?_,?_,R.kf,R.ks,R.kd,R.fs,R.fd,R.sd,R.hF,R.hS,R.hD⟩
 .rw[d7 w Za];exact R.k0
 .rw[d7 w Za];exact R.k1
 .rw[d7 w Za];exact R.k2
 .intro f b g h;rw[d7 w Za];exact R.f f b g h
 .intro f b g i m
  by_cases e:f=a/\b=c
  .obtain⟨rfl,rfl⟩:=e;rw[Q7 w (R.s f b j k h)];simp[aa.cf,upd]
  .rw[d7 w Za,R.s f b g i m];simp[aa.cf,upd,e]
 .intro f b g i;have:b<20:=by unfold oV at i;omega
  have:b≠c:=by grind
  rw[d7 w Za];exact R.b f b g i
 .intro f b g h;rw[d7 w Za];exact R.d f b g h
 .intro o;rw[j7];exact R.zf o
 .intro o;rw[j7];exact R.zs o
 .intro o;rw[j7];exact R.zd o
 .rw[i6];exact R.lk
 .rw[i6];exact R.lf
 .rw[i6];exact R.ls
 .rw[i6];exact R.ld
theorem js.oB(R:js w d bf bs bd K){c o:Nat}(j:a<K.nS)(h:oV c)(k:o=a*20+c)(v:Bool):js (w.setCell (O bs o Q) (Bo v)) d bf bs bd (K.oB a c v):=by
 subst k;have:=R.kf;have:=R.ks;have:=R.kd;have:=R.fs;have:=R.fd;have:=R.sd;have m:c<20:=by unfold oV at h;omega
 refine⟨?_,?_,?_,?_,?_,?_,?_,?_,?_,?_,?_,?_,?_,?_,R.kf,R.ks,R.kd,R.fs,R.fd,R.sd,R.hF,R.hS,R.hD⟩
 .rw[d7 w Za];exact R.k0
 .rw[d7 w Za];exact R.k1
 .rw[d7 w Za];exact R.k2
 .intro f b g h;rw[d7 w Za];exact R.f f b g h
 .intro f b g i l;have:b≠c:=by grind
  rw[d7 w Za];exact R.s f b g i l
 .intro f b g i;have:b<20:=by unfold oV at i;omega
  by_cases e:f=a/\b=c
  .obtain⟨rfl,rfl⟩:=e;rw[Q7 w (R.b f b j h)];simp[aa.oB,upd]
  .rw[d7 w Za,R.b f b g i];simp[aa.oB,upd,e]
 .intro f b g h;rw[d7 w Za];exact R.d f b g h
 .intro o;rw[j7];exact R.zf o
 .intro o;rw[j7];exact R.zs o
 .intro o;rw[j7];exact R.zd o
 .rw[i6];exact R.lk
 .rw[i6];exact R.lf
 .rw[i6];exact R.ls
 .rw[i6];exact R.ld
theorem js.np(R:js w d bf bs bd K){c o:Nat}(i:a<K.nD)(j:c<5)(k:o=a*5+c)(v:Int):js (w.setCell (O bd o Q) (Y U v)) d bf bs bd (K.np a c v):=by
 subst k;have:=R.kf;have:=R.ks;have:=R.kd;have:=R.fs;have:=R.fd;have:=R.sd;refine⟨?_,?_,?_,?_,?_,?_,?_,?_,?_,?_,?_,?_,?_,?_,R.kf,R.ks,R.kd,R.fs,R.fd,R.sd,R.hF,R.hS,R.hD⟩
 .rw[d7 w Za];exact R.k0
 .rw[d7 w Za];exact R.k1
 .rw[d7 w Za];exact R.k2
 .intro f b g h;rw[d7 w Za];exact R.f f b g h
 .intro f b g h l;rw[d7 w Za];exact R.s f b g h l
 .intro f b g h;rw[d7 w Za];exact R.b f b g h
 .intro f b g h
  by_cases e:f=a/\b=c
  .obtain⟨rfl,rfl⟩:=e;rw[Q7 w (R.d f b i j)];simp[aa.np,upd]
  .rw[d7 w Za,R.d f b g h];simp[aa.np,upd,e]
 .intro o;rw[j7];exact R.zf o
 .intro o;rw[j7];exact R.zs o
 .intro o;rw[j7];exact R.zd o
 .rw[i6];exact R.lk
 .rw[i6];exact R.lf
 .rw[i6];exact R.ls
 .rw[i6];exact R.ld
theorem js.same{w':Wd}(R:js w d bf bs bd K)(f:w.heap.size<=w'.heap.size)(h:∀k,k<w.heap.size->(k=d\/k=bf\/k=bs\/k=bd)->w'.heap[k]?=w.heap[k]?):js w' d bf bs bd K:=by
 have g:∀o,w'.cell? (O d o Q)=w.cell? (O d o Q):=λo=>Zf (w:=w) (a:=(O d o Q)) (h d R.lk Zc);have l:∀o,w'.cell? (O bf o Q)=w.cell? (O bf o Q):=λo=>Zf (w:=w) (a:=(O bf o Q)) (h bf R.lf Zc);have j:∀o,w'.cell? (O bs o Q)=w.cell? (O bs o Q):=λo=>Zf (w:=w) (a:=(O bs o Q)) (h bs R.ls Zc);have m:∀o,w'.cell? (O bd o Q)=w.cell? (O bd o Q):=λo=>Zf (w:=w) (a:=(O bd o Q)) (h bd R.ld Zc);have n:∀o,w'.frozen? (O bf o Q)=w.frozen? (O bf o Q):=λo=>dH (w:=w) (a:=(O bf o Q)) (h bf R.lf Zc);have p:∀o,w'.frozen? (O bs o Q)=w.frozen? (O bs o Q):=λo=>dH (w:=w) (a:=(O bs o Q)) (h bs R.ls Zc);have q:∀o,w'.frozen? (O bd o Q)=w.frozen? (O bd o Q):=λo=>dH (w:=w) (a:=(O bd o Q)) (h bd R.ld Zc)
 exact⟨(g _).trans R.k0,(g _).trans R.k1,(g _).trans R.k2,λi c a b=>(l _).trans (R.f i c a b),λi c a b e=>(j _).trans (R.s i c a b e),λi c a b=>(j _).trans (R.b i c a b),λi c a b=>(m _).trans (R.d i c a b),
  λo=>(n o).trans (R.zf o),λo=>(p o).trans (R.zs o),λo=>(q o).trans (R.zd o),Zg R.lk f,Zg R.lf f,Zg R.ls f,Zg R.ld f,R.kf,R.ks,R.kd,R.fs,R.fd,R.sd,R.hF,R.hS,R.hD⟩
theorem js.alloc(R:js w d bf bs bd K)(o:Obj):js (w.alloc o) d bf bs bd K:=R.same Zc λk a _=>aJ w o k a
theorem js.drew(R:js w d bf bs bd K):js w.drew d bf bs bd K:=R.same (af _) λ_ _ _=>rfl
theorem js.drewN(R:js w d bf bs bd K)(n:Nat):js (w.drewN n) d bf bs bd K:=R.same Zc λk _ _=>by simp
structure dT (bf bs bd:Nat) (w w':Wd):Prop where
 os:w'.os=w.os
 tape:w'.tape=w.tape
 output:w'.output=w.output
 size:w.heap.size<=w'.heap.size
 block:∀k,k<w.heap.size->k≠bf->k≠bs->k≠bd->w'.heap[k]?=w.heap[k]?
variable{a c:Wd}
theorem dT.refl(w:Wd):dT bf bs bd w w:=⟨Z,Z,Z,af _,λ_ _ _ _ _=>rfl⟩
theorem dT.trans(h:dT bf bs bd a w)(k:dT bf bs bd w c):dT bf bs bd a c :=
 ⟨k.os.trans h.os,k.tape.trans h.tape,k.output.trans h.output,Zh h.size k.size,λi b e f g=>(k.block i (Zg b h.size) e f g).trans (h.block i b e f g)⟩
theorem dT.drew(h:dT bf bs bd a w):dT bf bs bd a w.drew:=⟨h.os,h.tape,h.output,h.size,h.block⟩
theorem dT.drewN(h:dT bf bs bd a w)(n:Nat):dT bf bs bd a (w.drewN n):=⟨h.os,h.tape,h.output,h.size,h.block⟩
theorem dT.alloc(h:dT bf bs bd a w)(o:Obj):dT bf bs bd a (w.alloc o) :=
 h.trans ⟨Z,Z,Z,by simp,λk b _ _ _=>aJ w o k b⟩
theorem dT.setCell(h:dT bf bs bd a w){p:cx}(i:p.block=bf\/p.block=bs\/p.block=bd\/a.heap.size<=p.block)(u:Vu):dT bf bs bd a (w.setCell p u) :=
 ⟨h.os,h.tape,h.output,by rw[i6];exact h.size,λk b e f g=>by rw[dK w p u k Za];exact h.block k b e f g⟩
theorem dT.ni(h:dT bf bs bd a w)(o:Nat)(u:Vu):dT bf bs bd a (w.setCell (O bf o Q) u):=h.setCell (p:=(O bf o Q)) (bP Z) u
theorem dT.cf(h:dT bf bs bd a w)(o:Nat)(u:Vu):dT bf bs bd a (w.setCell (O bs o Q) u):=h.setCell (p:=(O bs o Q)) (ba (bP Z)) u
theorem dT.np(h:dT bf bs bd a w)(o:Nat)(u:Vu):dT bf bs bd a (w.setCell (O bd o Q) u):=h.setCell (p:=(O bd o Q)) (ba (ba (bP Z))) u
theorem dT.cell(h:dT bf bs bd w c)(f:b<w.heap.size)(g:b≠bf)(i:b≠bs)(j:b≠bd):c.cell? (O b e Q)=w.cell? (O b e Q):=Zf (w:=w) (a:=(O b e Q)) (h.block b f g i j)
theorem dT.below(h:dT bf bs bd w c)(e:b<=w.heap.size)(f:b<=bf)(g:b<=bs)(i:b<=bd):bE b w c :=
 ⟨h.os,h.tape,h.output,h.size,λk j=>h.block k Za Za Za Za⟩
end
def aa.an(K:aa)(i:Nat)(a b:Int):aa:=(((((K.ni i 0 a).ni i 1 b).ni i 2 0).ni i 3 0).ni i 4 0).ni i 5 0
structure Out where
 K:aa
 n:Int
 e:Int
def aa.dy(K:aa)(s p:Nat):Int:=K.S s (3+p*2)
def aa.wr(K:aa)(s p:Nat):Bool:=K.B s (4+p*2)
def aa.file(K:aa)(s x:Nat):Int:=K.S s (11+x*2)
def aa.end(K:aa)(s x:Nat):Bool:=K.B s (12+x*2)
def aa.g9(K:aa)(s p:Nat)(f:Int)(b:Bool):aa:=(K.cf s (3+p*2) f).oB s (4+p*2) b
def aa.av(K:aa)(s x:Nat)(d:Int)(b:Bool):aa:=(K.cf s (11+x*2) d).oB s (12+x*2) b
def aa.count(K:aa)(d:Nat)(b:Bool)(a:Int):aa:=if b then K.np d 4 (K.D d 4+a) else K.np d 3 (K.D d 3+a)
def aa.fc(K:aa)(s x:Nat)(d:Nat)(b:Bool):aa:=(K.av s x d b).count d b 1
def aa.nN(K:aa)(s p:Nat):aa:=(K.an (K.dy s p).toNat 0 (-1)).g9 s p (-1) false
def aa.hZ(K:aa)(d:Nat)(f:Int):aa:=((((K.np d 0 f).np d 1 0).np d 2 0).np d 3 0).np d 4 0
def aa.nv(K:aa)(s x:Nat):aa :=
 let d:=(K.file s x).toNat
 let a:=(K.av s x (-1) false).count d (K.end s x) (-1)
 if a.D d 3=0/\a.D d 4=0 then(a.an (a.D d 0).toNat 0 (-1)).hZ d (-1) else a
def pH(K:aa)(s p f:Nat):Out :=
 if K.dy s p≠-1 then⟨K,0,6⟩ else if K.F f 0≠0 then⟨K,0,5⟩ else⟨(K.an f 2 s).g9 s p f true,0,0⟩
def N4(K:aa)(s p:Nat):Out :=
 if K.dy s p=-1 then⟨K,0,6⟩ else⟨K.nN s p,0,0⟩
def B3(K:aa)(s p:Nat)(v:Int):Out :=
 if K.dy s p=-1 then⟨K,0,6⟩ else⟨K.oB s (4+p*2) (v != 0),0,0⟩
def Z4(K:aa)(s p x:Nat):Out :=
 if K.dy s p=-1 then⟨K,0,6⟩ else⟨K,K.F (K.dy s p).toNat (2+x),0⟩
def J2(K:aa)(s p x:Nat)(v:Int):Out :=
 if K.wr s p=false then⟨K,0,6⟩ else⟨K.ni (K.dy s p).toNat (2+x) v,0,0⟩
def B8(K:aa)(s n f x:Nat):Out :=
 if K.D n 0≠-1 then⟨K,0,9⟩ else if K.F f 0≠0 then⟨K,0,5⟩
 else if x=3\/K.file s x≠-1\/K.file s (x+1)≠-1 then⟨K,0,8⟩
 else⟨(((K.an f 3 (-1)).hZ n f).fc s x n false).fc s (x+1) n true,0,0⟩
def pZ(K:aa)(s x t:Nat):Out :=
 if K.file s x=-1\/K.file s t≠-1 then⟨K,0,8⟩ else⟨K.fc s t (K.file s x).toNat (K.end s x),0,0⟩
def N3(K:aa)(s x:Nat):Out :=
 if K.file s x=-1 then⟨K,0,8⟩ else⟨K.nv s x,0,0⟩
def H8(K:aa)(s x p j:Nat):Out :=
 if K.file s x=-1\/K.end s x=false then⟨K,0,8⟩ else if K.dy s p=-1 then⟨K,0,6⟩
 else if K.D (K.file s x).toNat 3=0 then⟨K,0,13⟩ else if K.D (K.file s x).toNat 2=4 then⟨K,0,11⟩
 else⟨(K.ni (K.D (K.file s x).toNat 0).toNat (2+((K.D (K.file s x).toNat 1+K.D (K.file s x).toNat 2)%4).toNat) (K.F (K.dy s p).toNat (2+j))).np (K.file s x).toNat 2 (K.D (K.file s x).toNat 2+1),0,0⟩
def Q0(K:aa)(s x p j:Nat):Out :=
 if K.file s x=-1\/K.end s x=true then⟨K,0,8⟩ else if K.wr s p=false then⟨K,0,6⟩
 else if K.D (K.file s x).toNat 2=0/\K.D (K.file s x).toNat 4=0 then⟨K,0,12⟩ else if K.D (K.file s x).toNat 2=0 then⟨K,0,11⟩
 else⟨((K.ni (K.dy s p).toNat (2+j) (K.F (K.D (K.file s x).toNat 0).toNat (2+(K.D (K.file s x).toNat 1).toNat))).np (K.file s x).toNat 1 ((K.D (K.file s x).toNat 1+1)%4)).np (K.file s x).toNat 2 (K.D (K.file s x).toNat 2 - 1),0,0⟩
def G0(K:aa)(s c f:Nat):Out :=
 if K.S c 0≠0 then⟨K,0,7⟩ else if K.F f 0≠0 then⟨K,0,5⟩
 else⟨(((K.an f 1 c).cf c 0 1).cf c 1 s).cf c 2 f,0,0⟩
def aa.oa(K:aa)(s c:Nat):Bool:=K.S c 1==(s:Int)&&K.S c 0==1
def aa.still(K:aa)(s c:Nat):Bool:=K.S c 1==(s:Int)&&(K.S c 0==1||K.S c 0==3)
def aa.nj(K:aa)(g h:Nat):aa:=(((K.ni g 2 (K.F h 2)).ni g 3 (K.F h 3)).ni g 4 (K.F h 4)).ni g 5 (K.F h 5)
def I9(K:aa)(s c p f:Nat):Out :=
 if K.oa s c=false then⟨K,0,7⟩ else if K.dy s p=-1\/K.dy c p≠-1 then⟨K,0,6⟩ else if K.F f 0≠0 then⟨K,0,5⟩
 else⟨((K.an f 2 c).g9 c p f (K.wr s p)).nj f (K.dy s p).toNat,0,0⟩
def P9(K:aa)(s c x t:Nat):Out :=
 if K.oa s c=false then⟨K,0,7⟩ else if K.file s x=-1\/K.file c t≠-1 then⟨K,0,8⟩
 else⟨K.fc c t (K.file s x).toNat (K.end s x),0,0⟩
def Q8(K:aa)(s c:Nat):Out :=
 if K.oa s c=false then⟨K,0,7⟩ else⟨K.cf c 0 2,0,0⟩
def aa.mg(K:aa)(s:Nat):Nat->aa
 | 0=>K
 | n+1=>if (K.mg s n).S n 1=s then(K.mg s n).cf n 1 0 else K.mg s n
def Z3(K:aa)(s:Nat)(a:Int):Out :=
 if s=0 then⟨K,0,7⟩ else⟨((K.cf s 0 3).cf s 19 a).mg s K.nS,0,0⟩
def X0(K:aa)(s c p:Nat):Out :=
 if K.still s c=false then⟨K,0,7⟩ else if K.dy c p=-1 then⟨K,0,6⟩ else⟨K.nN c p,0,0⟩
def X1(K:aa)(s c x:Nat):Out :=
 if K.still s c=false then⟨K,0,7⟩ else if K.file c x=-1 then⟨K,0,8⟩ else⟨K.nv c x,0,0⟩
def aa.nH(K:aa)(c:Nat):aa :=
 { K with S:=λi j=>if i=c then(if j=0\/j=19 then 0 else -1) else K.S i j,B:=λi j=>if i=c then false else K.B i j }
def J9(K:aa)(s c:Nat):Out :=
 if K.still s c=false then⟨K,0,7⟩
 else if K.dy c 0≠-1\/K.dy c 1≠-1\/K.dy c 2≠-1\/K.dy c 3≠-1 then⟨K,0,6⟩
 else if K.file c 0≠-1\/K.file c 1≠-1\/K.file c 2≠-1\/K.file c 3≠-1 then⟨K,0,8⟩
 else⟨(K.an (K.S c 2).toNat 0 (-1)).nH c,K.S c 19,0⟩
def there(a:Nat):Bool:=a != 0
def i7:Nat->List Int
 | 2=>[4,1,0]|3=>[4,0,0]|4=>[4,0,0]|5=>[2,1,0]|6=>[2,4,1]|7=>[2,5,5]|8=>[2,0,0]|10=>[2,4,0]|11=>[2,5,0]|12=>[2,0,0]|13=>[3,1,5]
 | 14=>[5,5,0]|15=>[5,0,0]|16=>[5,4,6]|17=>[5,4,6]|18=>[4,6,0]|19=>[4,6,0]|_=>[0,0,0]
def j4(K:aa)(t:Int):Int:=if t=1 then K.nF else if t=2 then K.nS else if t=3 then K.nD else if t=4 then 4 else if t=5 then 4 else if t=6 then 4 else 0
def C8(K:aa)(t a:Int):Bool:=t==0||(decide (0<=a)&&decide (a<j4 K t))
def tr(K:aa)(s d:Nat)(a b c:Int):Out :=
 match d with
 | 1=>⟨K,0,0⟩
 | 2=>pH K s a.toNat b.toNat
 | 3=>N4 K s a.toNat
 | 4=>B3 K s a.toNat b
 | 5=>G0 K s a.toNat b.toNat
 | 6=>I9 K s a.toNat b.toNat c.toNat
 | 7=>P9 K s a.toNat b.toNat c.toNat
 | 8=>Q8 K s a.toNat
 | 9=>Z3 K s a
 | 10=>X0 K s a.toNat b.toNat
 | 11=>X1 K s a.toNat b.toNat
 | 12=>J9 K s a.toNat
 | 13=>B8 K s a.toNat b.toNat c.toNat
 | 14=>pZ K s a.toNat b.toNat
 | 15=>N3 K s a.toNat
 | 16=>H8 K s a.toNat b.toNat c.toNat
 | 17=>Q0 K s a.toNat b.toNat c.toNat
 | 18=>Z4 K s a.toNat b.toNat
 | 19=>J2 K s a.toNat b.toNat c
 | _=>⟨K,0,2⟩
def i5(K:aa)(e d a b c:Int):Out :=
 if ¬(0<=d/\d<20)\/d=0 then⟨K,0,2⟩
 else if ¬(0<=e/\e<K.nS)\/K.S e.toNat 0≠2 then⟨K,0,3⟩
 else if C8 K ((i7 d.toNat).getD 0 0) a=false\/C8 K ((i7 d.toNat).getD 1 0) b=false\/C8 K ((i7 d.toNat).getD 2 0) c=false then⟨K,0,4⟩
 else tr K e.toNat d.toNat a b c
structure Good (K:aa):Prop where
 dy:∀i p,i<K.nS->p<4->K.dy i p=-1\/(0<=K.dy i p/\K.dy i p<K.nF)
 wr:∀i p,i<K.nS->p<4->K.wr i p=true->K.dy i p≠-1
 file:∀i x,i<K.nS->x<4->K.file i x=-1\/(0<=K.file i x/\K.file i x<K.nD/\0<=K.D (K.file i x).toNat 0)
 pc:∀d,d<K.nD->K.D d 0=-1\/(0<=K.D d 0/\K.D d 0<K.nF)
 head:∀d,d<K.nD->0<=K.D d 1/\K.D d 1<4
 cnt:∀d,d<K.nD->0<=K.D d 2/\K.D d 2<=4
 rd:∀d,d<K.nD->0<=K.D d 3/\K.D d 3<=24
 wt:∀d,d<K.nD->0<=K.D d 4/\K.D d 4<=24
 oq:∀i,i<K.nS->K.S i 0≠0->0<=K.S i 2/\K.S i 2<K.nF
section
open Go.RowKit
variable{d u l A:Nat}{K:aa}{w:Wd}
theorem Aw:¬oV 0:=by unfold oV;omega
theorem FA:¬oV 1:=by unfold oV;omega
theorem Fu:¬oV 2:=by unfold oV;omega
theorem Lu:¬oV 19:=by unfold oV;omega
theorem CY(p:Nat):¬oV (3+p*2):=by unfold oV;omega
theorem FU(p:Nat):¬oV (11+p*2):=by unfold oV;omega
theorem Ao(p:Nat)(h:p<4):oV (4+p*2):=by unfold oV;omega
theorem FQ(p:Nat)(h:p<4):oV (12+p*2):=by unfold oV;omega
theorem js.fk(R:js w d u l A K)(b:a<K.nF):w.cell? (O u (a*6) Q)=J (Y U (K.F a 0)):=R.f a 0 b Za
theorem js.fo(R:js w d u l A K)(b:a<K.nF):w.cell? (O u (a*6+1) Q)=J (Y U (K.F a 1)):=R.f a 1 b Za
theorem js.fw(R:js w d u l A K){j:Nat}(b:a<K.nF)(c:j<4):w.cell? (O u (a*6+2+j) Q)=J (Y U (K.F a (2+j))):=by
 rw[aP];exact R.f a (2+j) b Za
theorem js.sk(R:js w d u l A K)(b:a<K.nS):w.cell? (O l (a*20) Q)=J (Y U (K.S a 0)):=R.s a 0 b Za Aw
theorem js.sp(R:js w d u l A K)(b:a<K.nS):w.cell? (O l (a*20+1) Q)=J (Y U (K.S a 1)):=R.s a 1 b Za FA
theorem js.st(R:js w d u l A K)(b:a<K.nS):w.cell? (O l (a*20+2) Q)=J (Y U (K.S a 2)):=R.s a 2 b Za Fu
theorem js.sc(R:js w d u l A K)(b:a<K.nS):w.cell? (O l (a*20+19) Q)=J (Y U (K.S a 19)):=R.s a 19 b Za Lu
theorem js.pf(R:js w d u l A K)(c:a<K.nS)(e:b<4):w.cell? (O l (a*20+3+b*2) Q)=J (Y U (K.S a (3+b*2))):=by
 rw[aP];exact R.s a _ c Za (CY b)
theorem js.pw(R:js w d u l A K)(c:a<K.nS)(e:b<4):w.cell? (O l (a*20+3+b*2+1) Q)=J (Bo (K.B a (4+b*2))):=by
 rw[show a*20+3+b*2+1=a*20+(4+b*2) by omega];exact R.b a _ c (Ao b e)
theorem js.ff(R:js w d u l A K)(c:a<K.nS)(e:b<4):w.cell? (O l (a*20+11+b*2) Q)=J (Y U (K.S a (11+b*2))):=by
 rw[aP];exact R.s a _ c Za (FU b)
theorem js.fe(R:js w d u l A K)(c:a<K.nS)(e:b<4):w.cell? (O l (a*20+11+b*2+1) Q)=J (Bo (K.B a (12+b*2))):=by
 rw[show a*20+11+b*2+1=a*20+(12+b*2) by omega];exact R.b a _ c (FQ b e)
theorem zj(R:js w d u l A K)(b:a<K.nF) :
  aF V 96 #[Po (J (O d 0 Q)),Y U a] w λe c=>e=.returned (Bo (K.F a 0==0))/\c=w:=by
 have f:=R.k0;have g:=R.fk b;have h:=R.hF;clear R
 go_enter Tryz.func96,Tryz.ntmps96
 go_wp2
 go_ret
 exact⟨Z,Z⟩
theorem p8(R:js w d u l A K)(c:a<K.nS)(f:b<4) :
  aF V 95 #[Po (J (O d 0 Q)),Y U a,Y U b] w λe g=>e=.returned (Bo (K.S a (3+b*2) != -1))/\g=w:=by
 have h:=R.k1;have i:=R.pf c f;have j:=R.hS;clear R
 go_enter Tryz.func95,Tryz.ntmps95
 go_wp2
 go_ret
 exact⟨Z,Z⟩
theorem V9(R:js w d u l A K)(c:a<K.nS)(f:b<4) :
  aF V 99 #[Po (J (O d 0 Q)),Y U a,Y U b] w λe g=>e=.returned (Bo (K.B a (4+b*2)))/\g=w:=by
 have h:=R.k1;have i:=R.pw c f;have j:=R.hS;clear R
 go_enter Tryz.func99,Tryz.ntmps99
 go_wp2
 go_ret
 exact⟨Z,Z⟩
theorem J1(R:js w d u l A K)(c:a<K.nS)(f:b<4) :
  aF V 101 #[Po (J (O d 0 Q)),Y U a,Y U b] w λe g=>e=.returned (Bo (K.S a (11+b*2) != -1))/\g=w:=by
 have h:=R.k1;have i:=R.ff c f;have j:=R.hS;clear R
 go_enter Tryz.func101,Tryz.ntmps101
 go_wp2
 go_ret
 exact⟨Z,Z⟩
theorem Z1(R:js w d u l A K)(q:Int)(b:a<K.nS) :
  aF V 103 #[Po (J (O d 0 Q)),Y U q,Y U a] w λe c=>e=.returned (Bo (K.S a 1==q))/\c=w:=by
 have f:=R.k1;have g:=R.sp b;have h:=R.hS;clear R
 go_enter Tryz.func103,Tryz.ntmps103
 go_wp2
 go_ret
 exact⟨Z,Z⟩
theorem zP(R:js w d u l A K)(g:a<K.nS)(h:b<4)(f:K.S a (3+b*2)=c)(k:c<K.nF) :
  aF V 100 #[Po (J (O d 0 Q)),Y U a,Y U b] w λe i=>e=.returned (Po (J (O u (c*6+2) Q)))/\∃n,i=w.drewN n:=by
 have m:=R.k0;have o:=R.k1;have j:=R.pf g h;have p:=R.hS;have q:=R.hF;rw[f]at j;clear R f
 go_enter Tryz.func100,Tryz.ntmps100
 go_wp2
 go_quiet (fail)
 go_wp2
 go_ret
 exact⟨Z,_,Z⟩
theorem Y8(R:js w d u l A K)(c f:Int)(b:a<K.nF) :
  aF V 31 #[Po (J (O d 0 Q)),Y U a,Y U c,Y U f] w λe g=>e=.returned (.tuple #[])/\js g d u l A (K.an a c f)/\dT u l A w g:=by
 have p:=R.k0;have q:=R.hF;have z:=R.zf;have r:=R.fk b;have s:=R.fo b;have t:=R.f a 2 b Za;have v:=R.f a 3 b Za;have x:=R.f a 4 b Za;have y:=R.f a 5 b Za;have h:ar (js w d u l A K):=R;clear R
 go_enter Tryz.func31,Tryz.ntmps31
 go_wp2
 go_end0
 have i:=h.out.ni (c:=0) (o:=a*6) b Za Z c;have j:=i.ni (c:=1) (o:=a*6+1) b Za Z f;have k:=j.ni (c:=2) (o:=a*6+2) b Za Z 0;have m:=k.ni (c:=3) (o:=a*6+3) b Za Z 0;have n:=m.ni (c:=4) (o:=a*6+4) b Za Z 0;have o:=n.ni (c:=5) (o:=a*6+5) b Za Z 0;exact⟨Z,o,((((((dT.refl w).ni _ _).ni _ _).ni _ _).ni _ _).ni _ _).ni _ _⟩
def qW(n m:Int):Bool:=decide (0<=n)&&decide (n<m)
theorem Dm{w:Wd} :
  aF V 34 #[Y U B,Y U C] w λe a=>e=.returned (Bo (qW B C))/\a=w:=by
 by_cases b:0<=B
 .by_cases c:B<C
  .have E:ar (qW B C=true):=by unfold qW ar;simp[b,c]
   go_enter lQ,kQ
   go_wp2
   go_ret
   rw[E.out];exact⟨Z,Z⟩
  .have E:ar (qW B C=false):=by unfold qW ar;simp;omega
   go_enter lQ,kQ
   go_wp2
   go_ret
   rw[E.out];exact⟨Z,Z⟩
 .have E:ar (qW B C=false):=by unfold qW ar;simp;omega
  go_enter lQ,kQ
  go_wp2
  go_ret
  rw[E.out];exact⟨Z,Z⟩
theorem Mc(R:js w d u l A K)(t:Int)(b:0<=t)(c:t<=6) :
  aF V 35 #[Po (J (O d 0 Q)),Y U t] w λe a=>e=.returned (Y U (j4 K t))/\a=w:=by
 have f:=R.k0;have g:=R.k1;have h:=R.k2;clear R;obtain rfl|rfl|rfl|rfl|rfl|rfl|rfl:t=0\/t=1\/t=2\/t=3\/t=4\/t=5\/t=6:=by omega
 all_goals
  go_enter Tryz.func35,Tryz.ntmps35
  go_wp2
  go_ret
  exact⟨Z,Z⟩
def Ends(d u l A:Nat)(w:Wd)(r:Out)(e:Ending)(a:Wd):Prop :=
 e=.returned (.tuple #[Y U r.n,Y U r.e])/\js a d u l A r.K/\dT u l A w a
theorem Ends.mk{r:Out}{a:aa}(E:ar (r=⟨a,B,C⟩))(R:js i d u l A a)(k:dT u l A w i) :
  Ends d u l A w r (.returned (.tuple #[Y U B,Y U C])) i:=by
 unfold Ends;rw[E.out];exact⟨Z,R,k⟩
theorem Tb(R:js w d u l A K)(z:Int)(f:a<K.nS)(i:b<4)(m:c<K.nF) :
  aF V 60 #[Po (J (O d 0 Q)),Y U a,.agg #[Y U b,Y U c,Y U z]] w (Ends d u l A w (pH K a b c)):=by
 have g:ar (js w d u l A K):=R;have p:=R.hF;have q:=R.hS;clear R
 by_cases h:K.dy a b=-1
 .have n:(K.S a (3+b*2) != -1)=false:=by simpa[aa.dy] using h
  by_cases j:K.F c 0=0
  .have o:(K.F c 0==0)=true:=by simpa using j
   have E:ar (pH K a b c=⟨(K.an c 2 a).g9 a b c true,0,0⟩):=by unfold pH;simp[h,j,ar]
   clear h j
   go_enter lJ,kM
   go_wp2
   go_quiet (fail)
   go_wp2_with fail
   refine(p8 ((g.out.alloc _).drewN _) f i).mono ?_;rintro e k ⟨rfl,rfl⟩
   go_wp2_with fail
   refine(zj ((g.out.alloc _).drewN _) m).mono ?_;rintro e k ⟨rfl,rfl⟩
   go_wp2_with fail
   refine(Y8 ((g.out.alloc _).drewN _) _ _ m).mono ?_;rintro e k ⟨rfl,R1,k1⟩;have r:=R1.k1;have s:=R1.pf f i;have t:=R1.pw f i;have v:=R1.zs;have x:a<(K.an c 2 ↑a).nS:=f;have y:=R1.hS
   go_wp2
   go_ret2
   exact Ends.mk E ((R1.cf f Za (CY b) Za _).oB f (Ao b i) Za _) ((((((dT.refl w).alloc _).drewN _).trans k1).cf _ _).cf _ _)
  .have o:(K.F c 0==0)=false:=by simpa using j
   have E:ar (pH K a b c=⟨K,0,5⟩):=by unfold pH;simp[h,j,ar]
   clear h j
   go_enter lJ,kM
   go_wp2
   go_quiet (fail)
   go_wp2_with fail
   refine(p8 ((g.out.alloc _).drewN _) f i).mono ?_;rintro e k ⟨rfl,rfl⟩
   go_wp2_with fail
   refine(zj ((g.out.alloc _).drewN _) m).mono ?_;rintro e k ⟨rfl,rfl⟩
   go_wp2
   go_ret2
   exact Ends.mk E ((g.out.alloc _).drewN _) (((dT.refl w).alloc _).drewN _)
 .have n:(K.S a (3+b*2) != -1)=true:=by simpa[aa.dy] using h
  have E:ar (pH K a b c=⟨K,0,6⟩):=by unfold pH;simp[h,ar]
  clear h
  go_enter lJ,kM
  go_wp2
  go_quiet (fail)
  go_wp2_with fail
  refine(p8 ((g.out.alloc _).drewN _) f i).mono ?_;rintro e k ⟨rfl,rfl⟩
  go_wp2
  go_ret2
  exact Ends.mk E ((g.out.alloc _).drewN _) (((dT.refl w).alloc _).drewN _)
theorem YF(R:js w d u l A K)(G:Good K)(z:Int)(j:a<K.nS)(k:b<4)(q:c<4) :
  aF V 76 #[Po (J (O d 0 Q)),Y U a,.agg #[Y U b,Y U c,Y U z]] w (Ends d u l A w (Z4 K a b c)):=by
 have i:ar (js w d u l A K):=R;have t:=R.hF;have v:=R.hS;clear R
 by_cases f:K.dy a b=-1
 .have r:(K.S a (3+b*2) != -1)=false:=by simpa[aa.dy] using f
  have E:ar (Z4 K a b c=⟨K,0,6⟩):=by unfold Z4;simp[f,ar]
  clear f
  go_enter Tryz.func76,Tryz.ntmps76
  go_wp2
  go_quiet (fail)
  go_wp2_with fail
  refine(p8 ((i.out.alloc _).drewN _) j k).mono ?_;rintro e n ⟨rfl,rfl⟩
  go_wp2
  go_ret2
  exact Ends.mk E ((i.out.alloc _).drewN _) (((dT.refl w).alloc _).drewN _)
 .have r:(K.S a (3+b*2) != -1)=true:=by simpa[aa.dy] using f
  obtain⟨g,m⟩:∃g:Nat,K.dy a b=g:=by rcases G.dy a b j k with h|h;exact absurd h f;exact⟨(K.dy a b).toNat,by omega⟩
  have p:g<K.nF:=by rcases G.dy a b j k with h|h;exact absurd h f;omega
  have E:ar (Z4 K a b c=⟨K,K.F g (2+c),0⟩):=by unfold Z4;rw[mY f,m];simp[ar]
  have s:ar (K.S a (3+b*2)=g):=m;clear f m;have x:=λo=>(i.out.alloc o).fw p q
  go_enter Tryz.func76,Tryz.ntmps76
  go_wp2
  go_quiet (fail)
  go_wp2_with fail
  refine(p8 ((i.out.alloc _).drewN _) j k).mono ?_;rintro e n ⟨rfl,rfl⟩
  go_wp2_with fail
  refine(zP ((i.out.alloc _).drewN _) j k s.out p).mono ?_;rintro e n ⟨rfl,nq',rfl⟩
  go_wp2
  go_ret2
  exact Ends.mk E ((i.out.alloc _).drewN _) (((dT.refl w).alloc _).drewN _)
theorem c2D(R:js w d u l A K)(G:Good K)(z:Int)(j:a<K.nS)(k:b<4)(r:c<4) :
  aF V 77 #[Po (J (O d 0 Q)),Y U a,.agg #[Y U b,Y U c,Y U z]] w (Ends d u l A w (J2 K a b c z)):=by
 have f:ar (js w d u l A K):=R;have v:=R.hF;have x:=R.hS;clear R
 by_cases i:K.wr a b=true
 .have s:K.B a (4+b*2)=true:=i;have m:=G.wr a b j k i;obtain⟨g,n⟩:∃g:Nat,K.dy a b=g:=by rcases G.dy a b j k with h|h;exact absurd h m;exact⟨(K.dy a b).toNat,by omega⟩
  have p:g<K.nF:=by rcases G.dy a b j k with h|h;exact absurd h m;omega
  have E:ar (J2 K a b c z=⟨K.ni g (2+c) z,0,0⟩):=by unfold J2;rw[mY (by simp[i]),n];simp[ar]
  have t:ar (K.S a (3+b*2)=g):=n;clear i n m;have y:=λo=>(f.out.alloc o).fw p r;have B:=λo=>(f.out.alloc o).zf
  go_enter Tryz.func77,Tryz.ntmps77
  go_wp2
  go_quiet (fail)
  go_wp2_with fail
  refine(V9 ((f.out.alloc _).drewN _) j k).mono ?_;rintro e q ⟨rfl,rfl⟩
  go_wp2_with fail
  go_region_with (go_at_call 100;refine(zP ((f.out.alloc _).drewN _) j k t.out p).mono ?_;rintro e q ⟨rfl,nq',rfl⟩)
  all_goals
   go_wp2
   go_ret2
   exact Ends.mk E (((f.out.alloc _).drewN _).ni p Za Za _) ((((dT.refl w).alloc _).drewN _).ni _ _)
 .have s:K.B a (4+b*2)=false:=by simpa[aa.wr] using i
  have E:ar (J2 K a b c z=⟨K,0,6⟩):=by unfold J2;simp[i,ar]
  clear i
  go_enter Tryz.func77,Tryz.ntmps77
  go_wp2
  go_quiet (fail)
  go_wp2_with fail
  refine(V9 ((f.out.alloc _).drewN _) j k).mono ?_;rintro e q ⟨rfl,rfl⟩
  go_wp2
  go_ret2
  exact Ends.mk E ((f.out.alloc _).drewN _) (((dT.refl w).alloc _).drewN _)
structure qn (w:Wd):Prop where
 t:∀i,i<20->w.cell? (O 0 (i*4) Q)=J (Bo (there i))
 a:∀i j,i<20->j<3->w.cell? (O 0 (i*4+1+j) Q)=J (Y U ((i7 i).getD j 0))
theorem qn.same{w w':Wd}(T:qn w)(h:w'.heap[0]?=w.heap[0]?):qn w' :=
 ⟨λi a=>(Zf (w:=w) (a:=(O 0 (i*4) Q)) h).trans (T.t i a),λi j a b=>(Zf (w:=w) (a:=(O 0 (i*4+1+j) Q)) h).trans (T.a i j a b)⟩
theorem qn.lt{w:Wd}(T:qn w):0<w.heap.size:=aK w (O 0 (0*4) Q) (T.t 0 Za)
theorem qn.alloc{w:Wd}(T:qn w)(o:Obj):qn (w.alloc o):=T.same (aJ w o 0 T.lt)
theorem FM:∀i,i<20->∀j,j<3->0<=(i7 i).getD j 0/\(i7 i).getD j 0<=6:=by decide
theorem Et{f:bC}{c:Array Vu}(h:aF I f c (i.drewN (a+b)) λe g=>e=.returned y/\g=i.drewN (a+b)) :
  aF I f c (i.drewN (a+b)) λe j=>e=.returned y/\∃m,j=i.drewN (a+m):=h.mono λ_ _ ⟨k,n⟩=>⟨k,b,n⟩
theorem c3r(R:js w d u l A K)(T:qn w)(f q a b c:Int)(g':ar (∀s n:Nat,f=s->q=n->s<K.nS->n<20->(C8 K ((i7 n).getD 0 0) a=true/\C8 K ((i7 n).getD 1 0) b=true/\C8 K ((i7 n).getD 2 0) c=true) ->
   ∀v,js v d u l A K->aF V 36 #[Po (J (O d 0 Q)),Y U f,Y U q,.agg #[Y U a,Y U b,Y U c]] v (Ends d u l A v (tr K s n a b c)))) :
  aF V 16 #[Po (J (O d 0 Q)),Y U f,Y U q,.agg #[Y U a,Y U b,Y U c]] w (Ends d u l A w (i5 K f q a b c)):=by
 have g:ar (js w d u l A K):=R;have I:ar (qn w):=T;have m2:=R.hS;have k1:=λo=>(g.out.alloc o).k1;clear R T
 go_enter Tryz.func16,Tryz.ntmps16
 go_wp2_with fail
 refine(Dm).mono ?_;rintro e v ⟨rfl,rfl⟩
 by_cases m:0<=q/\q<20
 .obtain⟨n,rfl⟩:=cT m.1;have r:n<20:=by omega
  have e1:qW n 20=true:=by unfold qW;simp;omega
  have c1:=λo=>(I.out.alloc o).t n r
  by_cases B:n=0
  .have e2:there n=false:=by rw[B];rfl
   have E:ar (i5 K f n a b c=⟨K,0,2⟩):=by unfold i5 ar;grind
   clear m B
   go_wp2
   go_ret2
   exact Ends.mk E (g.out.alloc _) ((dT.refl w).alloc _)
  .have e2:there n=true:=by unfold there;simpa using B
   have h':ar ((0<=(n:Int)/\(n:Int)<20)/\¬n=0):=⟨m,B⟩;clear m B
   go_wp2_with fail
   refine(Dm).mono ?_;rintro e v ⟨rfl,rfl⟩;let⟨m,B⟩:=h'.out
   by_cases L:0<=f/\f<K.nS
   .obtain⟨s,rfl⟩:=cT L.1;have hs:s<K.nS:=by omega
    have e3:qW s K.nS=true:=by unfold qW;simp;omega
    have c2:=λo=>(g.out.alloc o).sk hs
    by_cases N:K.S s 0=2
    .have e4:(K.S s 0 != 2)=false:=by simpa using N
     have E4:ar (C8 K ((i7 n).getD 0 0) a=false\/C8 K ((i7 n).getD 1 0) b=false\/C8 K ((i7 n).getD 2 0) c=false->i5 K s n a b c=⟨K,0,4⟩):=by
      intro h;unfold i5;simp_all
     have E0:ar (C8 K ((i7 n).getD 0 0) a=true/\C8 K ((i7 n).getD 1 0) b=true/\C8 K ((i7 n).getD 2 0) c=true->i5 K s n a b c=tr K s n a b c):=by
      intro h;unfold i5;grind
     have g0:=FM n r 0 Za;have g1:=FM n r 1 Za;have g2:=FM n r 2 Za;have q0:=λo=>(I.out.alloc o).a n 0 r Za;have q1:=λo=>(I.out.alloc o).a n 1 r Za;have q2:=λo=>(I.out.alloc o).a n 2 r Za;generalize c':(i7 n).getD 0 0=C at *;generalize d':(i7 n).getD 1 0=F at *;generalize f':(i7 n).getD 2 0=t2 at *;have i':ar (_=_):=c';have j':ar (_=_):=d';have k':ar (_=_):=f';clear c' d' f' m L N;have i0:∀w,(fW 120 (.agg #[Y U C,Y U F,Y U t2]) (Y U 0)).run V w=.ok (Y U C) w:=λ_=>by kernel_rfl
     have i1:∀w,(fW 120 (.agg #[Y U C,Y U F,Y U t2]) (Y U 1)).run V w=.ok (Y U F) w:=λ_=>by kernel_rfl
     have i2:∀w,(fW 120 (.agg #[Y U C,Y U F,Y U t2]) (Y U 2)).run V w=.ok (Y U t2) w:=λ_=>by kernel_rfl
     let⟨l',m'⟩:=g0;let⟨n',o'⟩:=g1;let⟨p',q'⟩:=g2
     go_wp2_with fail
     go_loopw [45] (λi w'=>∃k:Nat,k<=3/\i=Y U k/\(1<=k->C8 K C a=true)/\(2<=k->C8 K F b=true)/\(3<=k->C8 K t2 c=true)/\∃nq,w'=(w.alloc (.cells #[Y U a,Y U b,Y U c] 25)).drewN nq) λi _=>3 - (bT i).toNat
     case atStart=>exact⟨0,by omega,Z,by omega,by omega,by omega,0,Z⟩
     case round =>
      obtain⟨k,hk,rfl,G,M,f2,nq,rfl⟩:=hrel;cases k,(Za:k<4) using eL
      rotate_left 3
      .have E:=E0.out ⟨G Za,M Za,f2 Za⟩;have D:=g'.out s n Z Z hs r (by rw[i'.out,j'.out,k'.out];grind);have X:ar _:=E;have HD:ar _:=D;clear E D
       go_wp2_with fail
       refine(HD.out _ ((g.out.alloc _).drewN _)).mono ?_;rintro e v ⟨rfl,R1,q1⟩
       go_wp2
       go_ret2
       rw[X.out];exact⟨Z,R1,(((dT.refl w).alloc _).drewN _).trans q1⟩
      focus (obtain⟨t,e⟩:∃t,t=C:=⟨_,Z⟩;obtain⟨x,H⟩:∃x,x=a:=⟨_,Z⟩;obtain⟨j,P⟩:∃j:Nat,j=1:=⟨_,Z⟩;subst e H;have S:=l';have W:=m')
      rotate_left
      focus (obtain⟨t,e⟩:∃t,t=F:=⟨_,Z⟩;obtain⟨x,H⟩:∃x,x=b:=⟨_,Z⟩;obtain⟨j,P⟩:∃j:Nat,j=2:=⟨_,Z⟩;subst e H;have S:=n';have W:=o')
      rotate_left
      focus (obtain⟨t,e⟩:∃t,t=t2:=⟨_,Z⟩;obtain⟨x,H⟩:∃x,x=c:=⟨_,Z⟩;obtain⟨j,P⟩:∃j:Nat,j=3:=⟨_,Z⟩;subst e H;have S:=p';have W:=q')
      rotate_left
      all_goals
       by_cases z:t=0
       .have y:C8 K t x=true:=by simp[C8,z]
        have z':(t != 0)=false:=by simpa using z
        have p:ar (C8 K t x=true):=y;clear z y
        go_wp2
        go_quiet (fail)
        go_wp2
        exact⟨⟨j,by omega,by rw[P];rfl,λ_=>by first|exact p.out|exact G Za,λ_=>by first|exact p.out|exact M Za|omega,λ_=>by first|exact p.out|omega,_,Z⟩,by simp[bT]⟩
       .have z':(t != 0)=true:=by simpa using z
        by_cases y:qW x (j4 K t)=true
        .have p:ar (C8 K t x=true):=by unfold C8 ar;unfold qW at y;rw[y];simp
         clear z
         go_wp2
         go_quiet ((first|(go_at_call 35;exact Et (Mc ((g.out.alloc _).drewN _) t S W))|(go_at_call 34;exact Et (Dm))))
         go_wp2
         exact⟨⟨j,by omega,by rw[P];rfl,λ_=>by first|exact p.out|exact G Za,λ_=>by first|exact p.out|exact M Za|omega,λ_=>by first|exact p.out|omega,_,Z⟩,by simp[bT]⟩
        .have y':qW x (j4 K t)=false:=by simpa using y
         have p:ar (C8 K t x=false):=by unfold C8 ar;unfold qW at y';rw[y'];simpa using z
         clear z y;have E:=E4.out (by have:=p.out;grind);have X:ar _:=E;clear E
         go_wp2
         go_quiet ((first|(go_at_call 35;exact Et (Mc ((g.out.alloc _).drewN _) t S W))|(go_at_call 34;exact Et (Dm))))
         go_wp2
         go_ret2
         exact Ends.mk X.out (((g.out.alloc _).drewN _).drewN _) ((((dT.refl w).alloc _).drewN _).drewN _)
    .have e4:(K.S s 0 != 2)=true:=by simpa using N
     have E:ar (i5 K s n a b c=⟨K,0,3⟩):=by unfold i5 ar;grind
     clear N m L
     go_wp2
     go_ret2
     exact Ends.mk E (g.out.alloc _) ((dT.refl w).alloc _)
   .have e3:qW f K.nS=false:=by unfold qW;simp;omega
    have E:ar (i5 K f n a b c=⟨K,0,3⟩):=by unfold i5 ar;grind
    clear m L
    go_wp2
    go_ret2
    exact Ends.mk E (g.out.alloc _) ((dT.refl w).alloc _)
 .have e1:qW q 20=false:=by unfold qW;simp;omega
  have E:ar (i5 K f q a b c=⟨K,0,2⟩):=by unfold i5 ar;grind
  clear m
  go_wp2
  go_ret2
  exact Ends.mk E (g.out.alloc _) ((dT.refl w).alloc _)
end
section
open Go.ChangeShapes Go.WideShapes Go.ChangeAt Go.RowKit
theorem OB:V.globalNamed "burrow/kernel.calls" = J 0:=by kernel_rfl
theorem c9V:(V.globals[0]?).map (·.type)=J 123:=by kernel_rfl
theorem Jn:V.cellsOf 122=4:=by kernel_rfl
theorem RM:V.cellsOf 4=1:=by kernel_rfl
theorem Yl:V.cellsOf 120=3:=by kernel_rfl
theorem Zt:V.cellsOf 119=1:=by kernel_rfl
def BG(i:Nat):DataW f:=.agg [.lit (.bool (there i)),.agg [.lit (.int .i64 ((i7 i).getD 0 0)),.lit (.int .i64 ((i7 i).getD 1 0)),.lit (.int .i64 ((i7 i).getD 2 0))]]
theorem ZV:(eT:DataW f)=.agg ((aO 20).map BG):=rfl
theorem RO{o:Ti×Vu->f}{base:Nat}{r:Nat->Bool}{b:List Vu}{s:List MemPlace}(h:iJ o V i base r p a 122 b=J (.agg [.lit (.bool q),.agg [.lit (.int .i64 A),.lit (.int .i64 B),.lit (.int .i64 C)]],s)) :
  b=[Bo q,Y U A,Y U B,Y U C]:=by
 let⟨K,L,n,k,l,t,u⟩:=trod_struct2 Tryz.underlying122 h;rw[Jn]at l
 match b,l with
 | [c0,c1,c2,c3],_ =>
  let⟨N,c,v⟩:=DataW.trod_bool Tryz.underlying4 t;let⟨w,m,P,x,R,y,d⟩:=mV Tryz.underlying120 u;have z:=d 0 Za;have D:=d 1 Za;have E:=d 2 Za
  match w,y with
  | [d0,d1,d2],_ =>
   let⟨i0,e,F,_⟩:=jR iE z;let⟨S,g,H,_⟩:=jR iE D;let⟨T,j,I,_⟩:=jR iE E;subst v;subst F H I;subst x;simp only[cR,DataW.agg.injEq,fG,DataW.lit.injEq,Lit.bool.injEq,Lit.int.injEq,cX,eE,and_true,true_and]at k;rw[RM]at c;rw[Zt,Yl]at e g j;simp at c e g j;obtain⟨⟨rfl,rfl,rfl,rfl⟩,_⟩:=k;simp[c,e,g,j]
theorem Vm{d:List (String×DataW Unit)}(o:d=[("burrow/kernel.calls",eT)])(h:laidMetH V d i):qn i:=by
 subst o;have r:laidMet V [("burrow/kernel.calls",eT)] i:=h;let⟨C,⟨D,E,s,F,p,q,t,u,v,f,_,_⟩,_⟩:=r;cases Ze (OB.symm.trans t);cases Ze (c9V.symm.trans u);rw[ZV]at f;let⟨c,m,H,w,I,K,x⟩:=mV Tryz.underlying123 f;have y:c.map (·.1)=(aO 20).map BG:=by
  have:=congrArg Prod.fst w;simpa using this.symm
 have z:∀a,a<20->(s.toList.drop (a*4)).take 4=[Bo (there a),Y U ((i7 a).getD 0 0),Y U ((i7 a).getD 1 0),Y U ((i7 a).getD 2 0)]:=λa b=>by
  have e:=x a b;rw[Jn]at e;have g:a<c.length:=by omega
  have k:(c.map (·.1))[a]?=J (BG a):=by rw[y,bO,cW b];rfl
  rw[bO,bj g]at k;rw[bj g]at e;have A:c[a].1=BG a:=by simpa using k
  have B:c[a]=(BG a,c[a].2):=by rw[←A]
  rw[B]at e;exact RO e
 have l:∀a j,a<20->j<4->i.cell? (O 0 (a*4+j) Q)=([Bo (there a),Y U ((i7 a).getD 0 0),Y U ((i7 a).getD 1 0),Y U ((i7 a).getD 2 0)]:List Vu)[j]?:=λa j b n=>by
  rw[World.var?_cell OB v (a*4+j),←z a b,eO,mZ n,List.getElem?_drop];simp
 refine⟨λa b=>?_,λa j b n=>?_⟩
 .exact l a 0 b Za
 .have:=l a (1+j) b Za;rw[aP,this];cases j,(Za:j<3) using iN
  all_goals rfl
end
section
open Go
theorem Qo(Lk:Looks){a:Pinned}{s:OpenSpec}{c:OpenClaim}{d:List LaidKind}{b:Bool×String}(g:c.holds a s)(i:c.wfByText s=true)(k:c.laidByTextAt Lk a d p)(l:c.start=.entering)(m:c.noBlocks=false/\c.again=false)(n:a.checked.prog.mainIs=J (b.1,b.2.toList))(o:(!b.1&&b.2.isEmpty&&!q)=false)(r:∀f e,a.checked.prog.funcNamed c.func=J f->a.checked.prog.funcs[f]?=J e->q=a.checked.prog.looks []/\∀(j:Nat) t,e.params[j]?=J t->a.checked.prog.wantsStandIn t=false)(u:true=c.goesBy a.checked.prog) :
  Claim7.holds a (.plain s) { stood:={ row:=c,standIns:=[],harness:=b,looks:=q },kinds:=[],alts:=[],goes:=true,laidByText:=true,laidKinds:=d,laidTests:=p,laidLooks:=Lk }:=by
 have v:Claim7.isSixth { stood:={ row:=c,standIns:=[],harness:=b,looks:=q },kinds:=[] }=false:=by simpa[Claim7.isSixth] using o
 exact⟨Claim7.tied_new_at Lk d p (Claim7.new_of_sixth g b q l m n v r) i,(λD w=>by cases w),k,(λh=>by cases h),u⟩
end
section
open Go Go.Conc
theorem a8b{g:Ti×Vu->f}{a:Assume}{C:Checked}{x:Os}{d:bC}{b:Func}{s:OpenSpec}{F:Stop.Interp}{B:List PathCond}{D:Bool}{y:List (String×DataW Unit)}(own:ownKnob C.prog.godebug=Q)(E:x.Started)(H:C.prog.funcs[d]?=J b)(I:∃(w:Wd) (c:Tape) (i:Input),w.os=x/\(w.forCall c i).Shaped C.prog/\i.vars=[]/\Input.okWide C.prog (w.forCall c i) .any w.heap.size d i /\
   s.preRow g C.prog b B p y (w.forCall c i).memory i.args/\a.holds C.prog (lone (ay C.prog d i.args .normal) [] (w.forCall c i)))(K:∀(W:Wd) (base:Nat) (h:Array Vu) (n gs:List (DataW f)) (z:List MemPlace),
   (∀(j:Nat) t v,b.params[j]?=J t->h[j]?=J v->Value.okWide C.prog W .any base t v) ->
   DataW.Whole g C.prog b.params.toList s.vars p W h.toList n gs z->(∀k,s.cond=J k->k f (n++gs)=true)->laidMetH C.prog y W ->
   ∃M l o m u,runNT C.prog (M+1) (solo (G (ay C.prog d h .normal) []) W) #[]=(.ended o m,u)/\runN C.prog M (solo (G (ay C.prog d h .normal) []) W)=.next l /\
    step C.prog l=.ended o m/\Conc.Good C.prog (λv L=>(s.at F).post g C.prog b p q r D W h v L) l o m u) :
  ReturnsInLeavingWide a C x d .any (s.preRow g C.prog b B p y) ((s.at F).post g C.prog b p q r D):=by
 refine returnsInLeavingWide_of_good own E I ?_;intro w c i _ b' _ N P c';let⟨_,_,_,R,S,_,_,_,_,T⟩:=N;have e:R=b:=Ze (S.symm.trans H);subst e;let⟨⟨A,X⟩,hz⟩:=P;let⟨n,gs,z,hw,hc,hk⟩:=OpenSpec.pre_parts A;have a':=DataW.Whole.of_heap (w':=w.forCall c i) (by rfl) hw;let⟨M,l,o,m,u,h1,h2,h3,h4⟩:=K (w.forCall c i) w.heap.size i.args n gs z T a' hk (X.of_heap (by rfl));exact⟨M,l,o,m,u,h1,h2,h3,h4.mono λv A=>ChangeSpec.post_blind A⟩
theorem Yq{p:Pinned}{s:OpenSpec}{c:OpenClaim}(f:bC)(d:Func)(l:c.program=p.name/\c.sum=p.sum/\c.spec=s.name)(i:c.start=.entering)(j:c.outside=[])(z:c.inits=[]/\c.under=Q/\(c.initsInPlace=[]/\c.initsUnfollowed=false/\c.initsRecurse=false/\c.initsNamed=[]/\c.initsPassed=[]))(r:c.noBlocks=false)(A:c.leaving=true)(m:c.followed=Q)(B:c.narrowed=s.cond.isSome)(C:c.still=false)(D:p.checked.prog.funcNamed c.func=J f)(E:p.checked.prog.funcs[f]?=J d)(t:joinedFacts p.checked.prog f d s.bare c=true)(I:d.isInstance p.checked.prog c.origin c.targs)(K:d.isWrapper p.checked.prog c.wrapper c.mainSum)(h:∀g:Os,g.Started->∀(H:Type) (e:Ti×Vu->H),(∀a b,e a=e b->a=b)->∀F:Stop.Interp,ReturnsInLeavingWide c.assume p.checked g f .any (c.pre e p.checked.prog d s) ((s.at F).post e p.checked.prog d c.apart c.fresh c.handsOn c.again)):c.holds p s:=by
 simp only[joinedFacts,aB,beq_iff_eq,cP,aT,decide_eq_true_eq]at t;let⟨⟨⟨⟨⟨⟨⟨⟨⟨⟨⟨⟨⟨⟨⟨⟨⟨⟨⟨⟨⟨⟨⟨⟨⟨⟨⟨⟨⟨⟨⟨L,N⟩,P⟩,R⟩,S⟩,u⟩,T⟩,W⟩,o⟩,G⟩,M⟩,X⟩,b4⟩,b5⟩,b6⟩,b7⟩,b8⟩,b9⟩,c1⟩,c2⟩,c3⟩,c4⟩,c5⟩,v⟩,c7⟩,w⟩,c9⟩,d1⟩,d2⟩,d3⟩,d4⟩,d5⟩:=t;have c':∀g:Os,Stop.quiet p.checked.prog g:=λg k x=>by rw[o]at x;cases x
 have d':c.shortTexts=none:=by
  cases hs:c.shortTexts with
  | none=>rfl
  | some _=>rw[hs]at v;cases v
 refine⟨L,l.1,l.2.1,l.2.2,N,P,?_,?_,f,d,D,E,⟨R,c2⟩,λy=>(by rw[r]at y;cases y),?_,I,K,u.trans T.symm,⟨W.trans o.symm,?_,c7⟩,G,M,X,b4,b5,⟨b6,d4,d5⟩,⟨b7,c3⟩,⟨b8,c4,d2,d3⟩,⟨c5,c9,d1,b9⟩,?_,λn hn=>varReadable_some (c1 n hn),⟨_,(by unfold lU;rw[j,i];exact WideRow.started_initial),c' _⟩,[],?_,λg q _ H e e'=>?_⟩
 .unfold OpenClaim.startFits;rw[i];exact w
 .unfold OpenClaim.startTold;rw[i];exact z
 .unfold OpenClaim.namedList;rw[m];exact S
 .unfold Program.envWorded;rw[o];rfl
 .rw[j,B,d'];simp
 .unfold OpenClaim.lists;rw[m]
 .have f':g.Started:=by unfold lU at q;rw[j,i]at q;exact q
  rw[OpenClaim.post_not_still C];unfold OpenClaim.form;rw[i,u];intro F;have:=h g f' H e e' F w;have e1:c.okInput=Input.okWide:=by unfold OpenClaim.okInput;rw[r]
  have e2:c.atReturn p.checked.prog=leavingAtReturn p.checked.prog:=by unfold OpenClaim.atReturn;rw[A]
  have e3:c.always p.checked.prog []=nothingAlways:=by unfold OpenClaim.always;rw[m]
  have e4:s.post e p.checked.prog d F c.outside c.apart c.fresh c.handsOn c.again=(s.at F).post e p.checked.prog d c.apart c.fresh c.handsOn c.again:=by rw[j];rfl
  rw[e1,e2,e3];show ReturnsInOpen _ _ _ _ _ _ _ _ (s.post e p.checked.prog d F c.outside c.apart c.fresh c.handsOn c.again) _ _;rw[e4];exact this
theorem Qk(d:DataW f):1<=dY d:=by
 cases d with
 | lit l=>cases l<;>simp[dY]
 | _=>simp[dY]
theorem QG(l:List (DataW f)):l.length<=Rows.uptoBulkAll l:=by
 induction l with
 | nil=>simp
 | cons x r a=>have:=Qk x;simp only[Rows.uptoBulkAll,cI];omega
theorem b7g{H:Type}(l r:List (DataW H)):l.length<=dY (.slice l r):=by
 have:=QG l;simp only[dY];omega
end
section
def Obj.nz:Obj->Prop
 | .view _ _=>False
 | .pending _ _=>False
 | _=>True
def rT:eF:=.view ⟨0,0,J 0⟩ 0
def vX:Halt->Prop
 | .stuck _=>True
 | .unsupported (.initOrder _)=>False
 | .unsupported _=>True
 | _=>False
def rY(P:Pg):gi f->Prop
 | .pure _=>False
 | .load _ _ _=>False
 | .store _ _ _ _=>False
 | .new _ _=>False
 | .shape _ k=>∀s,rY P (k s)
 | .freeze _ _ _=>False
 | .frozen _ k=>∀b,rY P (k b)
 | .getObj _ _=>False
 | .setObj _ _ _=>False
 | .choose _ k=>∀n,rY P (k n)
 | .sys _ _=>False
 | .program k=>rY P (k P)
 | .mark m k=>(m=.noRoom\/∃a,m=.extern a)/\m≠.enable/\rY P k
 | .halt h=>vX h
theorem Py{e:gi f}{i:f->gi h}:rY I e->rY I (e.bind i):=by
 intro d
 induction e with
 | pure a=>exact d.elim
 | load m a k g=>exact d.elim
 | store m a v k g=>exact d.elim
 | new o k g=>exact d.elim
 | shape r k g=>exact λs=>g s (d s)
 | freeze a n k g=>exact d.elim
 | frozen a k g=>exact λb=>g b (d b)
 | getObj r k g=>exact d.elim
 | setObj r o k g=>exact d.elim
 | choose q k g=>exact λn=>g n (d n)
 | sys c k g=>exact d.elim
 | program k g=>exact g I d
 | mark m k g=>exact⟨d.1,d.2.1,g d.2.2⟩
 | halt x=>exact d
def tn(P:Pg):gi f->Prop
 | .pure _=>True
 | .shape _ k=>∀s,tn P (k s)
 | .frozen _ k=>∀b,tn P (k b)
 | .choose _ k=>∀n,tn P (k n)
 | .program k=>tn P (k P)
 | .mark m k=>(m=.noRoom\/∃a,m=.extern a)/\m≠.enable/\tn P k
 | .halt h=>vX h
 | _=>False
theorem IP{e:gi f}{i:f->gi h}:tn I e->(∀a,tn I (i a))->tn I (e.bind i):=by
 intro g j
 induction e with
 | pure a=>exact j a
 | load m a k d=>exact g.elim
 | store m a v k d=>exact g.elim
 | new o k d=>exact g.elim
 | shape r k d=>exact λs=>d s (g s)
 | freeze a n k d=>exact g.elim
 | frozen a k d=>exact λb=>d b (g b)
 | getObj r k d=>exact g.elim
 | setObj r o k d=>exact g.elim
 | choose q k d=>exact λn=>d n (g n)
 | sys c k d=>exact g.elim
 | program k d=>exact d I g
 | mark m k d=>exact⟨g.1,g.2.1,d g.2.2⟩
 | halt x=>exact g
theorem b3b{e:gi f}{i:f->gi h}:tn I e->(∀a,rY I (i a))->rY I (e.bind i):=by
 intro g j
 induction e with
 | pure a=>exact j a
 | load m a k d=>exact g.elim
 | store m a v k d=>exact g.elim
 | new o k d=>exact g.elim
 | shape r k d=>exact λs=>d s (g s)
 | freeze a n k d=>exact g.elim
 | frozen a k d=>exact λb=>d b (g b)
 | getObj r k d=>exact g.elim
 | setObj r o k d=>exact g.elim
 | choose q k d=>exact λn=>d n (g n)
 | sys c k d=>exact g.elim
 | program k d=>exact d I g
 | mark m k d=>exact⟨g.1,g.2.1,d g.2.2⟩
 | halt x=>exact g
def Let(h:Halt):Prop:=vX h\/∃v,h=.panic v
def G7(P:Pg)(W:Prop)(c:f->Prop):gi f->Prop
 | .pure a=>c a
 | .load _ _ k=>∀v,G7 P W c (k v)
 | .store _ _ _ k=>W/\G7 P W c k
 | .new o k=>Obj.nz o/\∀r,G7 P W c (k r)
 | .shape _ k=>∀s,G7 P W c (k s)
 | .freeze _ _ _=>False
 | .frozen _ k=>∀b,rY P (k b)
 | .getObj _ k=>(∀o,G7 P W c (k o))/\∀o,¬Obj.nz o->k o=k rT\/rY P (k rT)
 | .setObj _ _ _=>False
 | .choose _ k=>∀n,G7 P W c (k n)
 | .sys _ _=>False
 | .program k=>G7 P W c (k P)
 | .mark m k=>(m=.noRoom\/∃d,m=.extern d)/\m≠.enable/\G7 P W c k
 | .halt h=>Let h
theorem zk{i:f->Prop}{j:h->Prop}{e:gi f}{l:f->gi h}:G7 I N i e->(∀a,i a->G7 I N j (l a))->G7 I N j (e.bind l):=by
 intro d p
 induction e with
 | pure a=>exact p a d
 | load m a k g=>exact λv=>g v (d v)
 | store m a v k g=>exact⟨d.1,g d.2⟩
 | new o k g=>exact⟨d.1,λr=>g r (d.2 r)⟩
 | shape r k g=>exact λs=>g s (d s)
 | freeze a n k g=>exact d.elim
 | frozen a k g=>exact λb=>Py (d b)
 | getObj r k g=>exact⟨λo=>g o (d.1 o),λo t=>(d.2 o t).imp (λe=>by grind) Py⟩
 | setObj r o k g=>exact d.elim
 | choose q k g=>exact λn=>g n (d n)
 | sys c k g=>exact d.elim
 | program k g=>exact g I d
 | mark m k g=>exact⟨d.1,d.2.1,g d.2.2⟩
 | halt x=>exact d
theorem yP{d:f->Prop}{e:gi f}:rY I e->G7 I N d e:=by
 intro h
 induction e with
 | pure a=>exact h.elim
 | load m a k b=>exact h.elim
 | store m a v k b=>exact h.elim
 | new o k b=>exact h.elim
 | shape r k b=>exact λs=>b s (h s)
 | freeze a n k b=>exact h.elim
 | frozen a k b=>exact h
 | getObj r k b=>exact h.elim
 | setObj r o k b=>exact h.elim
 | choose q k b=>exact λn=>b n (h n)
 | sys c k b=>exact h.elim
 | program k b=>exact b I h
 | mark m k b=>exact⟨h.1,h.2.1,b h.2.2⟩
 | halt x=>exact .inl h
def fz(n:Nat):eF->eF
 | .cells c t f=>.cells c t (if n=0 then f else(0,n))
 | .view _ _=>rT
 | .pending _ _=>rT
 | o=>o
def Clear(_:Wd):Prop:=True
structure Lk (sft:Nat->Nat) (v w:Wd):Prop where
 heap:∀i:Nat,v.heap[i]?=(w.heap[i]?).map (fz (sft i))
 soft:∀i:Nat,sft i≠0->∃c t,w.heap[i]?=J (.cells c t (0,0))
 nz:Clear w
 os:v.os=w.os
 output:v.output=w.output
def zK(N:Nat)(v w:Wd):Prop:=∀i q,i<N->v.tape (v.drawn+i) q=w.tape (w.drawn+i) q
def vS(n:Nat)(o b:eF):Prop :=
 match o with
 | .cells c t f=>∃a,b=.cells a t f/\a.size=c.size/\∀j<n,a[j]?=c[j]?
 | _=>b=o
theorem vS.refl(n:Nat)(o:eF):vS n o o:=by cases o<;>first|exact⟨_,Z,Z,λ_ _=>rfl⟩|rfl
theorem vS.trans{d b c:eF}(h:vS a d b)(e:vS a b c):vS a d c:=by
 cases d with
 | cells x t f =>
  obtain⟨y,rfl,i,k⟩:=h;obtain⟨z,rfl,l,m⟩:=e;exact⟨z,Z,l.trans i,λj g=>(m j g).trans (k j g)⟩
 | _=>(have h:b=_:=h;subst h;exact e)
structure Kept (sft:Nat->Nat) (w w':Wd):Prop where
 same:∀(i:Nat) (o:eF),w.heap[i]?=J o->∃o',w'.heap[i]?=J o'/\vS (sft i) o o'
 size:w.heap.size<=w'.heap.size
 new:∀(i:Nat) (o:eF),w.heap.size<=i->w'.heap[i]?=J o->Obj.nz o
theorem vS.nz{o b:eF}(h:vS a o b):Obj.nz b↔Obj.nz o:=by
 cases o with
 | cells c t f=>obtain⟨d,rfl,_⟩:=h;exact Iff.rfl
 | _=>(have h:b=_:=h;rw[h])
theorem Kept.of_heap(b:Nat->Nat){w':Wd}(h:w'.heap=i.heap):Kept b i w':=⟨λ_ o a=>⟨o,by rw[h];exact a,.refl _ _⟩,by grind,λc o d a=>by
 grind⟩
theorem Kept.refl(a:Nat->Nat)(w:Wd):Kept a w w:=.of_heap a Z
theorem Kept.trans(h:Kept W i j)(b:Kept W j k):Kept W i k :=
 ⟨λa o c=>by let⟨f,d,e⟩:=h.same a o c;let⟨l,m,n⟩:=b.same a f d;exact⟨l,m,e.trans n⟩,Zh h.size b.size,λa o p c=>by
  rcases bQ a j.heap.size with g|g
  .let⟨f,d,e⟩:=b.same a _ (bg g);rw[c]at d;cases Ze d;exact e.nz.2 (h.new a _ p (bg g))
  .exact b.new a o g c⟩
def um(b:Nat->Nat)(W:Prop)(n:Nat)(e:dn):Prop :=
 match e.loc with
 | .cell a=>a.block<n/\(e.write=true->b a.block<=a.off/\W)
 | .obj r=>r<n/\e.write=false
 | .output=>False
 | .goroutines=>False
 | .mark m=>m=.noRoom\/∃f,m=.extern f
theorem um.more{e:dn}(h:um W N a e)(c:a<=b):um W N b e:=by
 unfold um at *
 grind
def qC(a:Nat->Nat)(W:Prop)(n:Nat)(b c:Array dn):Prop:=∀e∈c,e∈b\/um a W n e
theorem qC.refl(b:Nat->Nat)(W:Prop)(n:Nat)(a:Array dn):qC b W n a a:=λ_ h=>.inl h
theorem qC.push{n:Nat}{e:dn}(h:um W N n e):qC W N n P (P.push e):=λx a=>by
 grind
theorem qC.tU(h:w.block<a)(b:p=true->W w.block<=w.off/\N):qC W N a P (P.push ⟨.cell w,p,q⟩):=.push ⟨h,b⟩
theorem qC.sE(h:b<a):qC W N a P (P.push ⟨.obj b,false,p⟩):=.push ⟨h,Z⟩
theorem qC.wF{m:Mark}(h:m=.noRoom\/∃f,m=.extern f):qC W N a P (P.push ⟨.mark m,p,q⟩):=.push h
theorem qC.trans(h:qC W N a P R)(d:qC W N b R S)(e:a<=b):qC W N b P S:=λx c=>by
 rcases d x c with c|c
 .exact(h x c).imp id λz=>z.more e
 .exact .inr c
def _root_.Go.Result.world:Result f->Wd
 | .ok _ w=>w
 | .halt _ w=>w
structure qk (c:Nat) (v v' w w':Wd):Prop where
 tv:v'.tape=v.tape
 tw:w'.tape=w.tape
 dv:v'.drawn=v.drawn+c
 dw:w'.drawn=w.drawn+c
 ow:w'.os=w.os
 pw:w'.output=w.output
theorem qk.zero(v w:Wd):qk 0 v v w w:=⟨Z,Z,Z,Z,Z,Z⟩
theorem qk.all(h:qk a i j k l):(l.tape,l.os,l.output)=(k.tape,k.os,k.output):=by rw[h.tw,h.ow,h.pw]
theorem qk.trans{d:Wd}(h:qk a i j l m)(c:qk b j k m d):qk (a+b) i k l d :=
 ⟨c.tv.trans h.tv,c.tw.trans h.tw,by rw[c.dv,h.dv];omega,by rw[c.dw,h.dw];omega,c.ow.trans h.ow,c.pw.trans h.pw⟩
inductive qc {α:Type} (sft:Nat->Nat) (W:Prop) (Φ:α->Prop) (v w:Wd) (es:Array Event):Result α×Array Event->Result α×Array Event->Prop where
 | ok {a:α} {v' w':Wd} {es':Array Event} {c:Nat}:Φ a->Lk sft v' w'->Kept sft w w'->qC sft W w'.heap.size es es'->qk c v v' w w'->qc sft W Φ v w es (.ok a v',es') (.ok a w',es')
 | panic {x:Vu} {v' w':Wd} {es':Array Event} {c:Nat}:Lk sft v' w'->Kept sft w w'->qC sft W w'.heap.size es es'->qk c v v' w w'->qc sft W Φ v w es (.halt (.panic x) v',es') (.halt (.panic x) w',es')
 | lost {h:Halt} {v':Wd} {es':Array Event} {r:Result α×Array Event}:vX h->qc sft W Φ v w es (.halt h v',es') r
theorem qc.after{e:f->Prop}{v₁ w₁:Wd}{c:Nat}{es₁:Array dn}{r g:Result f×Array dn}(k:Kept W j w₁)(l:qC W N w₁.heap.size P es₁)(m:qk c i v₁ j w₁)(h:qc W N e v₁ w₁ es₁ r g):qc W N e i j P r g:=by
 cases h with
 | ok p a b c d=>exact .ok p a (k.trans b) (l.trans c b.size) (m.trans d)
 | panic a b c d=>exact .panic a (k.trans b) (l.trans c b.size) (m.trans d)
 | lost b=>exact .lost b
variable{sft:Nat->Nat}{v w:Wd}
theorem Lk.cell(h:Lk sft v w)(a:cx):v.cell? a=w.cell? a:=by
 simp only[aC,h.heap]
 cases w.heap[a.block]? with
 | none=>rfl
 | some o =>
  cases o<;>rfl
theorem Lk.shape(h:Lk sft v w)(r:Nat):v.shape? r=w.shape? r:=by
 simp only[World.shape?,h.heap]
 cases w.heap[r]? with
 | none=>rfl
 | some o =>
  cases o<;>rfl
theorem Lk.size(h:Lk sft v w):v.heap.size=w.heap.size:=by
 have a:∀i,i<v.heap.size↔i<w.heap.size:=λi=>by
  have e:=h.heap i
  grind
 rcases Nat.lt_trichotomy v.heap.size w.heap.size with g|g|g
 all_goals grind
theorem Bb{w:Wd}(h:w.cell? x=J y):x.block<w.heap.size:=by
 unfold aC at h
 grind
theorem Lk.thaw(h:Lk sft v w)(a:v.frozen? x=false):w.frozen? x=false/\(∀b,w.cell? x=J b->sft x.block<=x.off):=by
 by_cases e:sft x.block=0
 .constructor
  .have:=h.heap x.block;simp only[bR,this]at a ⊢
   cases b:w.heap[x.block]? with
   | none=>rfl
   | some o =>
    rw[b]at a;cases o<;>first|rfl|(simp only[aD,fz,e,if_true]at a;exact a)
  grind
 .let⟨c,t,d⟩:=h.soft _ e;constructor
  .simp[bR,d]
  .intro b _;have:=h.heap x.block;simp only[bR,this,d,aD,fz,mY e]at a
   grind
theorem Pz(p:Pg)(w:Wd)(k:cx)(b:Bool):mf p w ⟨0,0,J 0⟩ 0 k b=.error "memory seen as another type: a place without cells" := by
 unfold mf;have h:(k.spot.isSome||(⟨0,0,J 0⟩:cx).spot.isSome)=true:=by simp
 rw[mZ h];rfl
theorem ZF(p:Pg)(w:Wd)(k:cx)(b:Bool):∃s,jH p w ⟨0,0,J 0⟩ 0 k b=.error s:=by
 unfold jH;rw[Pz];exact⟨_,Z⟩
theorem b6x(p:Pg)(w:Wd)(k:cx)(y:Vu)(b:Bool):∃s,jw p w ⟨0,0,J 0⟩ 0 k y b=.error s:=by
 unfold jw;rw[Pz]
 by_cases h:(!tight p p.depth 0)=true
 .rw[mZ h];exact⟨_,Z⟩
 .rw[mY h];exact⟨_,Z⟩
theorem Lk.farLoad(p:Pg)(h:Lk sft v w)(a:cx)(b:Bool):∃c,v.farLoad p a b=.error c/\vX c:=by
 unfold jU iO;rw[h.heap]
 cases x:w.heap[a.block]? with
 | none=>exact⟨_,Z,mX⟩
 | some o =>
  cases o<;>first
   | exact⟨_,Z,mX⟩
   | (let⟨s,d⟩:=ZF p v a b;simp only[aD,fz,rT,d];exact⟨_,Z,mX⟩)
theorem Lk.farStore(p:Pg)(h:Lk sft v w)(a:cx)(y:Vu)(b:Bool):∃c,v.farStore p a y b=.error c/\vX c:=by
 unfold jI iO;rw[h.heap]
 cases x:w.heap[a.block]? with
 | none=>exact⟨_,Z,mX⟩
 | some o =>
  cases o<;>first
   | exact⟨_,Z,mX⟩
   | (let⟨s,d⟩:=b6x p v a y b;simp only[aD,fz,rT,d];exact⟨_,Z,mX⟩)
theorem heap_setCell(w:Wd)(a:cx)(x:Vu)(i:Nat):(w.setCell a x).heap[i]?=if a.block=i then(w.heap[i]?).map (λo=>match o with|.cells c b frozen=>.cells (if a.spot.isSome then c else c.setIfInBounds a.off x) b frozen|o=>o) else w.heap[i]?:=by
 simp only[cO,Array.getElem?_modify];rfl
theorem V7(h:Lk sft v w){a:cx}(k:sft a.block<=a.off){x:Vu}:Lk sft (v.setCell a x) (w.setCell a x)/\Kept sft w (w.setCell a x):=by
 refine⟨⟨λi=>?_,λi d=>?_,mX,h.os,h.output⟩,⟨λi o b=>?_,?_,λi o d b=>?_⟩⟩
 .rw[heap_setCell,heap_setCell,h.heap i];split
  .cases w.heap[i]? with
   | none=>rfl
   | some o =>
    cases o<;>rfl
  .rfl
 .let⟨c,t,g⟩:=h.soft i d;rw[heap_setCell,g]
  grind
 .rw[heap_setCell];split
  .rename_i e;rw[b,aD];refine⟨_,Z,?_⟩
   cases o with
   | cells c t f =>
    refine⟨_,Z,?_,λj l=>?_⟩
    all_goals grind
   | _=>rfl
  .exact⟨o,b,.refl _ _⟩
 .simp[cO]
 .have:=(Zj b).1;simp[cO]at this;omega
theorem qp(h:Lk sft v w){o:eF}(d:Obj.nz o):Lk sft { v with heap:=v.heap.push o } { w with heap:=w.heap.push o }/\Kept sft w { w with heap:=w.heap.push o }:=by
 have f:sft w.heap.size=0:=by
  by_cases e:sft w.heap.size=0
  .exact e
  .let⟨c,t,g⟩:=h.soft _ e
   grind
 refine⟨⟨λi=>?_,λi a=>?_,mX,h.os,h.output⟩,⟨λi b j=>⟨b,?_,.refl _ _⟩,by simp,λi b a j=>?_⟩⟩
 .simp only[Array.getElem?_push,h.size,h.heap i];split
  .rename_i e;subst e;rw[f,aD]
   congr 1
   cases o<;>first|rfl|exact d.elim|(simp[fz])
  .rfl
 .let⟨c,t,g⟩:=h.soft i a
  grind
 all_goals grind
theorem Fo(p:Pg)(e:gi f):∀ {v:Wd} (d:Array dn),rY p e->∃h g i,e.runT p v d=(.halt h g,i)/\vX h:=by
 induction e with
 | pure a=>intro v d h;exact h.elim
 | load m a k b=>intro v d h;exact h.elim
 | store m a x k b=>intro v d h;exact h.elim
 | new o k b=>intro v d h;exact h.elim
 | shape r k b=>intro v d h;simp only[aM];exact b _ _ (h _)
 | freeze a n k b=>intro v d h;exact h.elim
 | frozen a k b=>intro v d h;simp only[aM];exact b _ _ (h _)
 | getObj r k b=>intro v d h;exact h.elim
 | setObj r o k b=>intro v d h;exact h.elim
 | choose q k b =>
  intro v d h;simp only[aM];split
  .exact b _ _ (h _)
  .exact b _ _ (h _)
 | sys c k b=>intro v d h;exact h.elim
 | program k b=>intro v d h;simp only[aM];exact b _ _ h
 | mark m k b=>intro v d h;simp only[aM];exact b _ h.2.2
 | halt x=>intro v d h;exact⟨_,_,_,Z,h⟩
theorem xC{o:eF}(h:Obj.nz o):fz 0 o=o:=by cases o<;>first|rfl|exact h.elim
theorem JE{o x:eF}(h:fz a o=x)(b:Obj.nz x):Obj.nz o:=by
 cases o<;>first|trivial|(rw[←h]at b;exact b.elim)
theorem YN(n:Nat)(o:eF):fz 0 (fz n o)=fz n o:=by cases o<;>rfl
def KJ(w:Wd):World:={ w with heap:=w.heap.map (fz 0) }
theorem Clear.lk{w:Wd}(_:Clear w):Lk (λ_=>0) (KJ w) w :=
 ⟨λi=>by simp[KJ],λ_ h=>absurd Z h,mX,Z,Z⟩
theorem Sk{w:Wd}{k:cx}{r:Array Vu×Ti×(Nat×Nat)×Nat×Vu×List (Nat×Nat×List UInt8)}(h:w.seen I x n k p=.ok r):x.block<w.heap.size:=by
 rcases bQ x.block w.heap.size with g|g
 .exact g
 .exfalso;have a:w.heap[x.block]?=none:=eM g;unfold mf at h;simp only[a,bind,lr,pure,lh,throw,throwThe,gj]at h
  repeat' split at h
  all_goals cases h
theorem SV{w:Wd}{t:List cx}(h:w.farLoad I x p=.ok (y,t)):∀c∈t,c.block<w.heap.size:=by
 unfold jU at h;split at h
 .split at h
  .rename_i _ d u e _ r a;cases mN h;unfold jH at a
   cases b:w.seen I d u x p with
   | error s=>rw[b]at a;cases a
   | ok q =>
    rw[b]at a;have f:=Sk b;let⟨g,i,j,k,l,m⟩:=q;simp only[bind,lr,pure,lh,throw,throwThe,gj]at a;split at a
    .grind
    .cases a
  .cases h
 .cases h
theorem MY{w:Wd}{t:List cx}(h:w.farStore I x y p=.ok (i,t)):i.drawn=w.drawn:=by
 unfold jI at h;split at h
 .split at h
  .rename_i _ b u c _ r a;cases mN h;unfold jw at a;simp only[bind,lr,pure,lh,throw,throwThe,gj]at a
   repeat' split at a
   all_goals first
    | (cases a;done)
    | (cases a;rfl)
  .cases h
 .cases h
def Io(h:Halt):Prop:=vX h\/∃g,h=.unsupported (.initOrder g)
theorem XF{w:Wd}{a:Halt}(h:w.farLoad I x p=.error a):Io a:=by
 unfold jU at h;split at h
 .split at h
  .cases h
  .cases fH h;exact .inl mX
 .cases fH h;unfold iO;split
  .exact .inr ⟨_,Z⟩
  .exact .inl mX
  .exact .inl mX
theorem ZZ{w:Wd}{a:Halt}(h:w.farStore I x y p=.error a):Io a:=by
 unfold jI at h;split at h
 .split at h
  .cases h
  .cases fH h;exact .inl mX
 .cases fH h;unfold iO;split
  .exact .inr ⟨_,Z⟩
  .exact .inl mX
  .exact .inl mX
theorem Yy(p:Pg)(e:gi f)(W:Prop)(i:f->Prop):∀(w:Wd) (g:Array dn),G7 p W i e->Clear w->w.drawn<=(e.runT p w g).1.world.drawn:=by
  induction e with
  | pure a=>intro w g _ _;exact af _
  | load m a k b =>
    intro w g h d;simp only[aM];split
    . exact b _ _ _ (h _) d
    . split
      . exact b _ _ _ (h _) d
      . exact af _
  | store m a x k b =>
    intro w g h d;cases x<;>simp only[aM]<;>first
      | exact af _
      | (split
         . split
           . exact af _
           . exact b (w.setCell _ _) _ h.2 d
         . split
           . rename_i j t l
             have e:=MY l;rw[←e];exact b j _ h.2 d
           . exact af _)
  | new o k b=>intro w g h d;simp only[aM];exact b _ { w with heap:=w.heap.push o } _ (h.2 _) d
  | shape r k b=>intro w g h d;simp only[aM];exact b _ _ _ (h _) d
  | freeze a n k b=>intro w g h;exact h.elim
  | frozen a k b =>
    intro w g h d;simp only[aM];exact b _ _ _ (yP (h _)) d
  | getObj r k b =>
    intro w g h d;simp only[aM];split
    . exact af _
    . exact b _ _ _ (h.1 _) d
    . exact af _
  | setObj r o k b=>intro w g h;exact h.elim
  | choose q k b =>
    intro w g h d;simp only[aM];split
    . exact b _ _ _ (h _) d
    . exact Zh (Nat.le_succ _) (b _ { w with drawn:=w.drawn+1 } _ (h _) d)
  | sys c k b=>intro w g h;exact h.elim
  | program k b=>intro w g h d;simp only[aM];exact b _ _ _ h d
  | mark m k b=>intro w g h d;simp only[aM];exact b _ _ h.2.2 d
  | halt x=>intro w g _ _;exact af _
theorem KT(p:Pg)(e:gi f)(W:Prop){l:f->Prop}:∀(w:Wd) (d:Array dn),G7 p W l e ->
    (∃a g i,e.runT p w d=(.ok a g,i)/\l a)\/(∃x g i,e.runT p w d=(.halt (.panic x) g,i))\/∃x g i,e.runT p w d=(.halt x g,i)/\Io x:=by
  induction e with
  | pure a=>intro w d h;exact .inl ⟨_,_,_,Z,h⟩
  | load m a k b =>
    intro w d h;simp only[aM];split
    . exact b _ _ _ (h _)
    . split
      . exact b _ _ _ (h _)
      . rename_i j;exact .inr (.inr ⟨_,_,_,Z,XF j⟩)
  | store m a x k b =>
    intro w d h;cases x<;>simp only[aM]<;>first
      | exact .inr (.inr ⟨_,_,_,Z,.inl mX⟩)
      | (split
         . split
           . exact .inr (.inr ⟨_,_,_,Z,.inl mX⟩)
           . exact b (w.setCell _ _) _ h.2
         . split
           . rename_i g t j
             exact b g _ h.2
           . rename_i j;exact .inr (.inr ⟨_,_,_,Z,ZZ j⟩))
  | new o k b=>intro w d h;simp only[aM];exact b _ { w with heap:=w.heap.push o } _ (h.2 _)
  | shape r k b=>intro w d h;simp only[aM];exact b _ _ _ (h _)
  | freeze a n k b=>intro w d h;exact h.elim
  | frozen a k b =>
    intro w d h;simp only[aM];exact b _ _ _ (yP (h _))
  | getObj r k b =>
    intro w d h;simp only[aM];split
    . exact .inr (.inr ⟨_,_,_,Z,.inl mX⟩)
    . exact b _ _ _ (h.1 _)
    . exact .inr (.inr ⟨_,_,_,Z,.inl mX⟩)
  | setObj r o k b=>intro w d h;exact h.elim
  | choose q k b =>
    intro w d h;simp only[aM];split
    . exact b _ _ _ (h _)
    . exact b _ { w with drawn:=w.drawn+1 } _ (h _)
  | sys c k b=>intro w d h;exact h.elim
  | program k b=>intro w d h;simp only[aM];exact b _ _ _ h
  | mark m k b=>intro w d h;simp only[aM];exact b _ _ h.2.2
  | halt x=>intro w d h;rcases h with h|⟨v,rfl⟩;exact .inr (.inr ⟨_,_,_,Z,.inl h⟩);exact .inr (.inl ⟨_,_,_,Z⟩)
theorem D4{sft:Nat->Nat}(p:Pg)(e:gi f)(W:Prop){C:f->Prop}:∀ {v w:Wd} (g:Array dn) (N:Nat),G7 p W C e->Lk sft v w->zK N v w->(e.runT p w g).1.world.drawn<=w.drawn+N->qc sft W C v w g (e.runT p v g) (e.runT p w g):=by
  induction e with
  | pure a=>intro v w g N j h _ _;exact .ok j h (.refl _ _) (.refl _ _ _ _) (.zero _ _)
  | load m a k l =>
    intro v w g N j h z d;simp only[aM,h.cell a]at d ⊢
    cases B:w.cell? a with
    | some x =>
      rw[B]at d;exact(l x _ N (j x) h z d).after (.refl _ _) (.tU (Bb B) Zc) (.zero _ _)
    | none =>
      let⟨s,F,A⟩:=h.farLoad p a (m==.atomic);simp only[F];exact .lost A
  | store m a x k l =>
    intro v w g N j h z d;let⟨s,F,A⟩:=h.farStore p a x (m==.atomic);have a':∀(y:Vu) (b:Bool),w.cell? a=J y->v.frozen? a=false->(k.runT p (w.setCell a x) (g.push ⟨.cell a,true,b⟩)).1.world.drawn<=w.drawn+N ->
        qc sft W C v w g (k.runT p (v.setCell a x) (g.push ⟨.cell a,true,b⟩)) (k.runT p (w.setCell a x) (g.push ⟨.cell a,true,b⟩)):=by
      intro y b B H d;let⟨t1,t2⟩:=h.thaw H;let⟨I,E⟩:=V7 h (t2 y B) (x:=x);exact qc.after (c:=0) (v₁:=v.setCell a x) (w₁:=w.setCell a x) E (.tU (Zg (Bb B) E.size) λ_=>⟨t2 y B,j.1⟩) ⟨Z,Z,Z,Z,Z,Z⟩ (l _ N j.2 I z d)
    cases x<;>first
      | exact .lost mX
      | (simp only[aM,h.cell a,F]at d ⊢
         cases B:w.cell? a with
         | none=>exact .lost A
         | some y =>
           rw[B]at d;simp only at d ⊢
           cases H:v.frozen? a with
           | true=>simp only[if_true];exact .lost mX
           | false =>
             rw[(h.thaw H).1]at d ⊢
             grind)
  | new o k l =>
    intro v w g N j h z d;let⟨I,E⟩:=qp h j.1;simp only[aM,h.size]at d ⊢;exact qc.after (c:=0) (v₁:={ v with heap:=v.heap.push o }) (w₁:={ w with heap:=w.heap.push o }) E (.refl _ _ _ _) ⟨Z,Z,Z,Z,Z,Z⟩ (l _ _ N (j.2 _) I z d)
  | shape r k l =>
    intro v w g N j h z d;simp only[aM,h.shape]at d ⊢;exact l _ _ N (j _) h z d
  | freeze a n k l=>intro v w g N j;exact j.elim
  | frozen a k l =>
    intro v w g N j h z d;let⟨K,R,S,D,A⟩:=Fo p (k (v.frozen? a)) (v:=v) g (j _);simp only[aM,D];exact .lost A
  | getObj r k l =>
    intro v w g N j h z d;simp only[aM,h.heap r]at d ⊢
    cases T:w.heap[r]? with
    | none=>exact .lost mX
    | some o =>
      rw[T]at d;have L:=(Zj T).1
      cases o with
      | cells c t b'=>exact .lost mX
      | view a u =>
        have d:(aM p (k (.view a u)) w (g.push ⟨.obj r,false,false⟩)).1.world.drawn<=w.drawn+N:=d;show qc sft W C v w g (aM p (k rT) v (g.push ⟨.obj r,false,false⟩)) (aM p (k (.view a u)) w (g.push ⟨.obj r,false,false⟩));rcases j.2 (.view a u) id with e|e
        . rw[e]at d ⊢
          exact(l _ _ N (j.1 _) h z d).after (.refl _ _) (.sE L) (.zero _ _)
        . let⟨K,R,S,D,A⟩:=Fo p (k rT) (v:=v) (g.push ⟨.obj r,false,false⟩) e
          rw[D];exact .lost A
      | pending c t =>
        have d:(aM p (k (.pending c t)) w (g.push ⟨.obj r,false,false⟩)).1.world.drawn<=w.drawn+N:=d;show qc sft W C v w g (aM p (k rT) v (g.push ⟨.obj r,false,false⟩)) (aM p (k (.pending c t)) w (g.push ⟨.obj r,false,false⟩));rcases j.2 (.pending c t) id with e|e
        . rw[e]at d ⊢
          exact(l _ _ N (j.1 _) h z d).after (.refl _ _) (.sE L) (.zero _ _)
        . let⟨K,R,S,D,A⟩:=Fo p (k rT) (v:=v) (g.push ⟨.obj r,false,false⟩) e
          rw[D];exact .lost A
      | _=>exact(l _ _ N (j.1 _) h z d).after (.refl _ _) (.sE L) (.zero _ _)
  | setObj r o k l=>intro v w g N j;exact j.elim
  | choose q k l =>
    intro v w g N j h z d;simp only[aM]at d ⊢;split
    . rename_i P
      simp only[P,if_true]at d;exact l _ _ N (j _) h z d
    . rename_i P
      simp only[P,if_false]at d;have hd:=Yy p (k (q.cut (w.tape w.drawn q))) W C { w with drawn:=w.drawn+1 } g (j _) h.nz;have G:0<N:=by
        grind
      have e:v.tape v.drawn q=w.tape w.drawn q:=z 0 q G;have M:zK (N - 1) { v with drawn:=v.drawn+1 } { w with drawn:=w.drawn+1 }:=λi q hi=>by
        have:=z (i+1) q Za
        grind
      rw[e];have X:Lk sft { v with drawn:=v.drawn+1 } { w with drawn:=w.drawn+1 }:=⟨h.heap,h.soft,h.nz,h.os,h.output⟩;exact qc.after (v₁:={ v with drawn:=v.drawn+1 }) (w₁:={ w with drawn:=w.drawn+1 }) (es₁:=g) (c:=1) (.of_heap _ Z) (.refl _ _ _ _) ⟨Z,Z,Z,Z,Z,Z⟩
        (l (q.cut (w.tape w.drawn q)) g (N - 1) (j _) X M (by
          grind))
  | sys c k l=>intro v w g N j;exact j.elim
  | program k l=>intro v w g N j h z d;simp only[aM]at d ⊢;exact l _ _ N j h z d
  | mark m k l=>intro v w g N j h z d;simp only[aM]at d ⊢;exact(l _ N j.2.2 h z d).after (.refl _ _) (.wF j.1) (.zero _ _)
  | halt K =>
    intro v w g N j h _ _;rcases j with A|⟨x,rfl⟩
    . exact .lost A
    . exact .panic h (.refl _ _) (.refl _ _ _ _) (.zero _ _)
variable{P:Pg}{W:Prop}
abbrev TT(P:Pg)(W:Prop)(e:gi f):Prop:=G7 P W (λ_=>True) e
theorem sJ{a:f}:TT P W (pure a:gi f):=trivial
theorem j9{b:h->Prop}{e:gi f}{c:f->gi h}(d:TT P W e)(g:∀a,G7 P W b (c a)):G7 P W b (e >>= c):=zk d λa _=>g a
theorem B7{Φ:f->Prop}{s:String}:G7 P W Φ (stuck s:gi f):=.inl mX
theorem j0{a:f->Prop}(u:Unsupported)(h:vX (.unsupported u):=by trivial):G7 P W a (unsupported u:gi f):=.inl h
theorem xK{a:f->Prop}{v:Vu}:G7 P W a (goPanic v:gi f):=.inr ⟨v,Z⟩
theorem xa:TT P W program:=trivial
theorem WY{a:f->Prop}{b:Pg->gi f}(h:G7 P W a (b P)):G7 P W a (program >>= b):=h
theorem R7:TT P W (typeInfo n):=by
 unfold typeInfo
 repeat' first|exact trivial|exact xa|exact sJ|exact B7|(refine j9 ?_ ?_)|(intro _)|split|dsimp only
theorem Q3:TT P W (underlying n):=by
 unfold underlying
 repeat' first|exact trivial|exact xa|exact R7|exact sJ|exact B7|(refine j9 ?_ ?_)|(intro _)|split|dsimp only
theorem wv:TT P W (sizeOf n):=by
 unfold sizeOf
 repeat' first|exact trivial|exact xa|exact R7|exact sJ|exact B7|(refine j9 ?_ ?_)|(intro _)|split|dsimp only
theorem yT:TT P W (zeroValue n):=by
 unfold zeroValue
 repeat' first|exact trivial|exact xa|exact R7|exact sJ|exact B7|exact j0 _|(refine j9 ?_ ?_)|(intro _)|split|dsimp only
theorem Ia:TT P W (isAgg n):=by
 unfold isAgg
 repeat' first|exact trivial|exact Q3|exact sJ|(refine j9 ?_ ?_)|(intro _)|split|dsimp only
theorem Cg:TT P W (part n K a):=by
 unfold part
 repeat' first|exact trivial|exact Ia|exact wv|exact sJ|exact B7|(refine j9 ?_ ?_)|(intro _)|split|dsimp only
theorem zg:TT P W (askRoom a):=by
 unfold askRoom;split
 .exact⟨by simp,by simp,mX⟩
 .exact trivial
theorem xX:TT P W (newRow n K):=by
 unfold newRow;refine j9 ?_ λ_=>trivial;exact⟨mX,λ_=>trivial⟩
theorem PK{v:Vu}:TT P W (newVar n v):=xX
theorem OO{v:Vu}:TT P W (il v):=by
 unfold il;split
 .exact trivial
 .exact B7
theorem Rw{v:Vu}:TT P W (Instr.extract v a):=by
 unfold Instr.extract
 repeat' first|exact trivial|exact B7|split
theorem MQ{m:Mode}:TT P W (load x m):=λ_=>trivial
theorem VG(a:W){v:Vu}{m:Mode}:TT P W (store x v m):=⟨a,mX⟩
theorem vU{q:gV}:TT P W (mP q):=λ_=>trivial
theorem Vf{d:f->Prop}{b:eF->gi f}(e:∀g t,b (.view g t)=b rT\/rY P (b rT))(i:∀c t,b (.pending c t)=b rT\/rY P (b rT))(h:∀o,G7 P W d (b o)):G7 P W d (getObj a >>= b) :=
 ⟨h,λo j=>by cases o<;>first|exact(j mX).elim|exact e _ _|exact i _ _⟩
theorem oT{e:f->Prop}{b:eF->gi f}(h:∀o,G7 P W e (b o))(g:∀d t,b (.view d t)=b rT:=by with_unfolding_all exact λ_ _=>rfl)(i:∀c t,b (.pending c t)=b rT:=by with_unfolding_all exact λ_ _=>rfl):G7 P W e (getObj a >>= b):=Vf (λd t=>.inl (g d t)) (λd t=>.inl (i d t)) h
theorem JR{c:f->Prop}{b:Option (cx×Ti)->gi f}(d:∀p,rY P (b (J p)))(h:G7 P W c (b Q)):G7 P W c (viewAt a >>= b):=by
 intro s
 cases s with
 | some s=>exact h
 | none =>
  refine⟨λo=>?_,λo _=>.inr (d _)⟩;cases o<;>first|exact yP (d _)|exact h
theorem Tv(a:cx)(n:Nat):∀(i:Nat) (b:Array Vu),TT P W (loadCellsFrom a i n b):=by
 induction n with
 | zero=>exact λ_ _=>trivial
 | succ n c=>exact λi b=>j9 (MQ) λ_=>c _ _
theorem Am:TT P W (loadCells x a):=Tv x a 0 #[]
theorem Fl(b:W){a:List Vu}:∀i,TT P W (storeCells x a i):=by
 induction a with
 | nil=>exact λ_=>trivial
 | cons v d c=>exact λi=>j9 (VG b) λ_=>c _
theorem qP(h:N:=by first|exact trivial|exact sJ|exact B7|exact j0 _|exact xK|exact R7|exact Q3|exact wv|exact yT|exact Ia|exact Cg|exact zg|exact xX|exact PK|exact OO|fail):N:=h
theorem zy(h:N:=by repeat' first|exact qP|(refine j9 ?_ ?_)|(intro _)|split|dsimp only):N:=h
theorem AV:TT P W (loadVar n x):=by
 unfold loadVar
 repeat' first|exact qP|exact Am|exact MQ|(refine j9 ?_ ?_)|(intro _)|split|dsimp only
theorem MS(a:W){v:Vu}:TT P W (storeVar n x v):=by
 unfold storeVar
 repeat' first|exact qP|exact Fl a _|(refine j9 ?_ ?_)|(intro _)|split|dsimp only
theorem c6t:TT P W (elemOf n):=by
 unfold elemOf;exact zy
theorem m9{a:f->Prop}{e:RuntimeError}:G7 P W a (runtimePanic e:gi f):=by
 unfold runtimePanic
 repeat' first|exact qP|exact xa|exact c6t|(refine j9 ?_ ?_)|(intro _)|split|dsimp only
theorem yu{v:Vu}:TT P W (asIntOf v):=by
 unfold asIntOf;exact zy
theorem xw{v:Vu}:TT P W (asInt v):=by
 unfold asInt
 repeat' first|exact qP|exact yu|(refine j9 ?_ ?_)|(intro _)|split|dsimp only
theorem HQ{v:Vu}:TT P W (asBool v):=by
 unfold asBool;exact zy
theorem Rt{v:Vu}:TT P W (asAgg v):=by
 unfold asAgg;exact zy
theorem Ee{v:Vu}:TT P W (asAddr v):=by
 unfold asAddr
 repeat' first|exact qP|exact m9|(refine j9 ?_ ?_)|(intro _)|split|dsimp only
theorem Lm{e:gi f}{a:f->h}(b:TT P W e):TT P W (a <$> e):=zk b λ_ _=>trivial
theorem Gl{a:f->Prop}{k:iB}(x y:Int){c:BoundsCode}:G7 P W a (boundsPanic k x y c:gi f):=by
 unfold boundsPanic
 repeat' first|exact qP|exact m9|exact Lm (vU)|(refine j9 ?_ ?_)|(intro _)|split|dsimp only
theorem c6z{v:Vu}:TT P W (Instr.loadAt n v):=by
 unfold Instr.loadAt
 repeat' first|exact qP|exact AV|(refine j9 ?_ ?_)|(intro _)|split|dsimp only
theorem ZJ(a:W)(v x:Vu):TT P W (Instr.storeAt n v x):=by
 unfold Instr.storeAt
 repeat' first|exact qP|exact MS a|(refine j9 ?_ ?_)|(intro _)|split|dsimp only
theorem Rz(x i:Vu):TT P W (fV n x i):=by
 unfold fV
 repeat' first|exact qP|exact yu|exact Gl _ _|(refine j9 ?_ ?_)|(intro _)|split|dsimp only
theorem d1f{v:Vu}:TT P W (Instr.box n v):=by
 unfold Instr.box;exact zy
theorem UN(a:W){v:Vu}:TT P W (Instr.alloc n p v):=by
 unfold Instr.alloc
 repeat' first|exact qP|exact MS a|(refine j9 ?_ ?_)|(intro _)|split|dsimp only
theorem Wn{v:Vu}:TT P W (Instr.field n v a):=by
 unfold Instr.field
 repeat' first|exact qP|exact Rt|(refine j9 ?_ ?_)|(intro _)|split|dsimp only
theorem SR(v i:Vu):TT P W (fW n v i):=by
 unfold fW
 repeat' first|exact qP|exact yu|exact Gl _ _|(refine j9 ?_ ?_)|(intro _)|split|dsimp only
theorem D8{a:f->Prop}[Decidable N]{x y:gi f}(h:G7 P W a x)(b:G7 P W a y):G7 P W a (if N then x else y):=by
 grind
theorem Ci{a:h->Prop}{m:String}{b:f->gi h}:G7 P W a ((runtimePanic (.error m):gi f) >>= b):=.inr ⟨_,Z⟩
theorem RE(v i:Vu):TT P W (ic n v i):=by
 unfold ic
 repeat' first|exact Ci|exact qP|exact xw|exact m9|exact vU|(refine j9 ?_ ?_)|(intro _)|(refine D8 ?_ ?_)|split|dsimp only
theorem Qr{c:BoundsCode}:TT P W (jv y a c):=by
 unfold jv
 repeat' first|exact qP|exact yu|exact Gl _ _|(refine j9 ?_ ?_)|(intro _)|split|dsimp only
theorem NF(l c:Nat)(x y z:Option Vu):TT P W (jg p l c x y z):=by
 unfold jg
 repeat' first|exact qP|exact Qr|(refine j9 ?_ ?_)|(intro _)|split|dsimp only
theorem c9a{v:Vu}(x y z:Option Vu):TT P W (lX n v x y z):=by
 unfold lX
 repeat' first|exact qP|exact NF _ _ _ _ _|exact Ee|(refine j9 ?_ ?_)|(intro _)|split|dsimp only
theorem c2O{v:Vu}(x y z:Option Vu):TT P W (iC n v x y z):=by
 unfold iC
 repeat' first|exact qP|exact NF _ _ _ _ _|exact c9a _ _ _|(refine j9 ?_ ?_)|(intro _)|split|dsimp only
theorem a8e{v:Vu}:TT P W (lY n v):=by
 unfold lY;exact zy
theorem b4n{v:Vu}(t u:Ti):TT P W (Instr.typeAssert v t u p):=by
 unfold Instr.typeAssert
 repeat' first|exact qP|exact m9|(refine j9 ?_ ?_)|(intro _)|split|dsimp only
theorem VB:tn P (lB x a):=by
 unfold lB;refine IP (λs=>trivial) λs=>?_;split<;>exact trivial
theorem RF:tn P (frozen x):=λ_=>trivial
theorem Zo(a b n:Nat){base:Option cx}:tn P (mj a b n base y):=by
 unfold mj
 repeat' first|exact trivial|exact VB|exact RF|(refine IP ?_ ?_)|(intro _)|split|dsimp only
theorem Md{v:Vu}:TT P W (mO v):=by
 unfold mO
 repeat' first|exact trivial|exact sJ|exact B7|exact j0 _|exact xK|exact R7|exact Q3|exact wv|exact yT|exact zg|exact xX|exact xw|exact m9|exact vU|exact Am  | (refine j9 ?_ ?_)|(intro _)|split|dsimp only
theorem KI(a n:Nat){v:Vu}:TT P W (kH a n v):=by
 unfold kH
 repeat' first|exact trivial|exact sJ|exact B7|exact j0 _|exact xK|exact R7|exact Q3|exact wv|exact yT|exact zg|exact xX|exact xw|exact m9|exact vU|exact Am  | (refine j9 ?_ ?_)|(intro _)|split|dsimp only
theorem SX(a:W){b:Array Ti}:TT P W (dp b n K):=by
 unfold dp
 repeat' first|exact trivial|exact sJ|exact B7|exact j0 _|exact xK|exact R7|exact Q3|exact wv|exact yT|exact zg|exact xX|exact xw|exact m9|exact vU|exact Fl a _|exact Am|exact Md|exact KI _ _|(refine j9 ?_ ?_)|(intro _)|split|dsimp only
theorem Ml:TT P W (shape a):=λ_=>trivial
theorem Jh(o:eF)(h:Obj.nz o:=by trivial):TT P W (newObj o):=⟨h,λ_=>trivial⟩
theorem Ln(b:f->gi h)(c:∀a,TT P W (b a)):∀l:List f,TT P W (l.mapM b)
 | []=>by simp;exact trivial
 | a::l=>by
  simp only[fM];exact j9 (c a) λ_=>j9 (Ln b c l) λ_=>trivial
theorem LH{b:f->gi h}(c:∀a,TT P W (b a)){d:Array f}:TT P W (d.mapM b):=by
 rw[jS];exact Lm (Ln b c _)
theorem ES(c:f->h->gi (ForInStep h))(d:∀a b,TT P W (c a b)):∀(l:List f) (b:h),TT P W (forIn l b c)
 | [],b=>by simp;exact trivial
 | a::l,b=>by
  simp;refine j9 (d a b) λs=>?_
  cases s with
  | done b=>exact trivial
  | yield b=>exact ES c d l b
theorem b4e{c:f->h->gi (ForInStep h)}(d:∀a b,TT P W (c a b)){e:Array f}{b:h}:TT P W (forIn e b c):=by
 rw[←mq];exact ES c d _ _
theorem Ni{c:Nat->f->gi (ForInStep f)}(h:∀a b,TT P W (c a b)){r:Std.Legacy.Range}{b:f}:TT P W (forIn r b c):=by
 rw[iG];exact ES c h _ _
theorem qf(h:N:=by first|exact Ci|exact trivial|exact sJ|exact B7|exact j0 _|exact xK|exact xa|exact R7|exact Q3|exact wv|exact yT|exact Ia|exact Cg|exact zg|exact xX|exact PK|exact OO|exact m9|exact xw|exact yu|exact HQ|exact Ee|exact vU|exact AV|exact Ml|fail):N:=h
theorem tE(h:N:=by repeat' first|exact qf|(with_reducible refine oT ?_)|(refine j9 ?_ ?_)|(intro _)|(refine D8 ?_ ?_)|split|dsimp only):N:=h
theorem Ym{a:Array Ti}:TT P W (kj a n K):=by
 unfold kj;exact tE
theorem d1g{a:Array Ti}:TT P W (Builtin.cap_ a n K):=by
 unfold Builtin.cap_;exact tE
theorem PR:TT P W (numberAt a):=by
 unfold numberAt;exact tE
theorem GH:TT P W (behindNumber x):=by
 unfold behindNumber
 repeat' first|exact qf|(with_reducible refine oT ?_)|exact PR|(refine j9 ?_ ?_)|(intro _)|(refine D8 ?_ ?_)|split|dsimp only
theorem XJ:TT P W (noView x):=by
 unfold noView
 repeat' first|exact qf|(with_reducible refine oT ?_)|((with_reducible refine JR ?_ ?_);(exact λ_=>trivial))|(refine j9 ?_ ?_)|(intro _)|(refine D8 ?_ ?_)|split|dsimp only
theorem CG:TT P W (byteOf x):=by
 unfold byteOf
 repeat' first|exact qf|(with_reducible refine oT ?_)|exact XJ|(refine j9 ?_ ?_)|(intro _)|(refine D8 ?_ ?_)|split|dsimp only
theorem c6C(c b:Nat):TT P W (partAt x c b):=by
 unfold partAt
 repeat' first|exact qf|(with_reducible refine oT ?_)|exact CG|(refine j9 ?_ ?_)|(intro _)|(refine D8 ?_ ?_)|split|dsimp only
theorem La{f:Field}:TT P W (fieldPlace x f):=by
 unfold fieldPlace
 repeat' first|exact qf|(with_reducible refine oT ?_)|exact c6C _ _|(refine j9 ?_ ?_)|(intro _)|(refine D8 ?_ ?_)|split|dsimp only
theorem XH{v:Vu}:TT P W (kh n v a):=by
 unfold kh
 repeat' first|exact qf|(with_reducible refine oT ?_)|exact La|(refine j9 ?_ ?_)|(intro _)|(refine D8 ?_ ?_)|split|dsimp only
theorem TW{a:Array (Nat×Vu)}:TT P W (im n a):=by
 unfold im
 repeat' first|exact qf|(with_reducible refine oT ?_)|(refine LH ?_)|(refine j9 ?_ ?_)|(intro _)|(refine D8 ?_ ?_)|split|dsimp only
theorem Um{b:Array (Nat×Vu)}:TT P W (jB n a b):=by
 unfold jB;exact tE
theorem Jy{a:Array Ti}:TT P W (lA a n K):=by
 unfold lA;rcases K with⟨_|⟨x,_|⟨y,_|⟨z,l⟩⟩⟩⟩<;>first|exact B7|skip
 cases x<;>first|exact B7|skip
 dsimp only
 repeat' first|exact qf|(with_reducible refine oT ?_)|((with_reducible refine JR ?_ ?_);(exact λ_=>trivial))|(refine j9 ?_ ?_)|(intro _)|(refine D8 ?_ ?_)|split|dsimp only
theorem Rx:TT P W (asNumber x p):=by
 unfold asNumber
 repeat' first|exact qf|(with_reducible refine oT ?_)|exact Jh _|(refine j9 ?_ ?_)|(intro _)|(refine D8 ?_ ?_)|split|dsimp only
theorem Xi(x y:Vu):TT P W (movedNumber n x y):=by
 unfold movedNumber
 repeat' first|exact qf|(with_reducible refine oT ?_)|exact Jy|exact GH|exact Rx|(refine j9 ?_ ?_)|(intro _)|(refine D8 ?_ ?_)|split|dsimp only
theorem VQ(x y:Vu):TT P W (movedPointer n x y):=by
 unfold movedPointer
 repeat' first|exact qf|(with_reducible refine oT ?_)|exact Jy|exact PR|(refine j9 ?_ ?_)|(intro _)|(refine D8 ?_ ?_)|split|dsimp only
theorem JF(a b:cx):TT P W (Op.twoPlaces a b):=by
 unfold Op.twoPlaces
 repeat' first|exact qf|(with_reducible refine oT ?_)|exact CG|(refine j9 ?_ ?_)|(intro _)|(refine D8 ?_ ?_)|split|dsimp only
theorem UZ{k:iB}(a b:cx):TT P W (Op.addrSub k a b):=by
 unfold Op.addrSub
 repeat' first|exact qf|(with_reducible refine oT ?_)|exact JF _ _|(refine j9 ?_ ?_)|(intro _)|(refine D8 ?_ ?_)|split|dsimp only
theorem SN(a b:cx):TT P W (Op.addrCmp T a b):=by
 unfold Op.addrCmp
 repeat' first|exact qf|(with_reducible refine oT ?_)|exact JF _ _|(refine j9 ?_ ?_)|(intro _)|(refine D8 ?_ ?_)|split|dsimp only
theorem Tq{k:iB}:TT P W (Op.addrMod k x A):=by
 unfold Op.addrMod
 repeat' first|exact qf|(with_reducible refine oT ?_)|exact CG|(refine j9 ?_ ?_)|(intro _)|(refine D8 ?_ ?_)|split|dsimp only
theorem LC{k:iB}(x y:Int):TT P W (Op.intArith T k x y):=by
 unfold Op.intArith;exact tE
theorem c6x{k:iB}(x y:Int):TT P W (Op.intDiv T k x y):=by
 unfold Op.intDiv;exact tE
theorem OJ{k:iB}(x y:Int):TT P W (Op.intBits T k x y):=by
 unfold Op.intBits;exact tE
theorem Wu(x y:Int):TT P W (Op.intCmp T x y):=by
 unfold Op.intCmp;exact tE
theorem XC{k:iB}{a:iB}:TT P W (Op.shift T k A a B):=by
 unfold Op.shift;exact tE
theorem NG{k:fq}(x y:Nat):TT P W (Op.floatArith T k x y):=by
 unfold Op.floatArith;exact tE
theorem LR{k:fq}(x y:Nat):TT P W (Op.floatCmp T k x y):=by
 unfold Op.floatCmp;exact tE
theorem b8M(x y:ByteArray):TT P W (Op.stringOp T x y):=by
 unfold Op.stringOp;exact tE
theorem WM:TT P W (jP n y):=by
 unfold jP
 repeat' first|exact qf|(with_reducible refine oT ?_)|exact Jh _|(refine j9 ?_ ?_)|(intro _)|(refine D8 ?_ ?_)|split|dsimp only
theorem c9c{a:UnOp}:TT P W (Op.unary a y):=by
 unfold Op.unary
 repeat' first|exact qf|(with_reducible refine oT ?_)|exact LC _ _|exact OJ _ _|(refine j9 ?_ ?_)|(intro _)|(refine D8 ?_ ?_)|split|dsimp only
theorem UO(a:W){c:Array Ti}:TT P W (mm c n K):=by
 unfold mm
 repeat' first|exact Ci|exact sJ|exact B7|exact j0 _|exact xK|exact R7|exact Q3|exact wv|exact yT|exact zg|exact xX|exact xw|exact m9|exact vU|exact Fl a _|exact Am|exact Md|exact KI _ _|(refine yP (b3b (Zo _ _ _) λb=>?_);cases b<;>first|exact trivial|exact⟨by simp,by simp,mX⟩)|(refine j9 ?_ ?_)|(intro _)|(refine D8 ?_ ?_)|split|dsimp only
theorem Ny{c:Type}(d:f->c->gi (ForInStep c)):∀(l:List f),(∀a∈l,∀b,TT P W (d a b))->∀(b:c),TT P W (forIn l b d)
 | [],_,b=>by simp only[List.forIn_nil];exact trivial
 | a::l,h,b=>by
  simp only[List.forIn_cons];refine j9 (h a (ao ..) b) λs=>?_
  cases s with
  | done b=>exact trivial
  | yield b=>exact Ny d l (λx e=>h x (ah _ e)) b
theorem Zv{c:f->h->gi (ForInStep h)}{d:Array f}(e:∀a∈d,∀b,TT P W (c a b)){b:h}:TT P W (forIn d b c):=by
 rw[←mq];exact Ny c _ (λa g=>e a (Array.mem_toList_iff.1 g)) _
theorem Gm{a:f->Prop}{b:TypeDesc->gi f}(h:∀d,P.underlying n=J d->G7 P W a (b d)):G7 P W a (underlying n >>= b):=by
 show G7 P W a (((match P.underlying n with|some d=>pure d|none=>stuck "no such type"):gi TypeDesc) >>= b)
 cases e:P.underlying n with
 | none=>exact B7 (Φ:=a)
 | some d=>exact h d e
theorem TS{a:f->Prop}{b:ig->gi f}(h:∀d,P.info? n=J d->G7 P W a (b d)):G7 P W a (typeInfo n >>= b):=by
 show G7 P W a (((match P.info? n with|some d=>pure d|none=>stuck "no such type"):gi ig) >>= b)
 cases e:P.info? n with
 | none=>exact B7 (Φ:=a)
 | some d=>exact h d e
def BC(P:Pg):Nat->Ti->Bool
 | 0,_=>false
 | n+1,t=>match P.underlying t with
  | some .bool|some (.int _)|some (.float _)|some .string=>true
  | some (.struct fs)=>fs.all λf=>BC P n f.type
  | some (.array _ e)=>BC P n e
  | _=>false
theorem Jt:∀(d:Nat) (t:Ti) (x y:Vu),TT P W (Op.eqGuardIn d t x y)
 | 0,_,_,_=>j0 _
 | d+1,t,x,y=>by
  unfold Op.eqGuardIn
  repeat' first|exact qf|(with_reducible refine oT ?_)|exact Jt d _ _ _|(refine b4e ?_)|(refine Ni ?_)|(refine j9 ?_ ?_)|(intro _)|(refine D8 ?_ ?_)|split|dsimp only
theorem Xd(x y:aS)(a b:Vu):TT P W (eqGuard T n x y a b):=by
 unfold eqGuard
 repeat' first|exact qf|(with_reducible refine oT ?_)|exact Jt _ _ _ _|(refine j9 ?_ ?_)|(intro _)|(refine D8 ?_ ?_)|split|dsimp only
theorem GG:∀(n:Nat) (t:Ti),BC P n t=true->∀(d:Nat) (x y:Vu),TT P W (dm d t x y)
 | 0,_,h=>by cases h
 | n+1,t,h=>by
  intro d x y
  cases d with
  | zero=>exact j0 _
  | succ d =>
   unfold dm;refine Gm λu i=>?_;unfold BC at h;rw[i]at h
   cases u with
   | bool =>
    repeat' first|contradiction|exact qf|(with_reducible refine oT ?_)|(refine j9 ?_ ?_)|(intro _)|(refine D8 ?_ ?_)|split|dsimp only
   | int k =>
    repeat' first|contradiction|exact qf|(with_reducible refine oT ?_)|exact GH|exact CG|(refine j9 ?_ ?_)|(intro _)|(refine D8 ?_ ?_)|split|dsimp only
   | float k =>
    repeat' first|contradiction|exact qf|(with_reducible refine oT ?_)|(refine j9 ?_ ?_)|(intro _)|(refine D8 ?_ ?_)|split|dsimp only
   | string =>
    repeat' first|contradiction|exact qf|(with_reducible refine oT ?_)|(refine j9 ?_ ?_)|(intro _)|(refine D8 ?_ ?_)|split|dsimp only
   | struct j =>
    have a:∀b,mh j=mh b->∀f:Field,f∈b->∀x y,TT P W (dm d f.type x y):=λb e f l x y=>by cases e;exact GG n f.type (by simp only[cP]at h;exact h f l) d x y
    repeat' first|contradiction|exact qf|(with_reducible refine oT ?_)|exact a _ (by assumption) _ (by assumption) _ _|(refine Zv ?_)|(refine j9 ?_ ?_)|(intro _)|(refine D8 ?_ ?_)|split|dsimp only
   | array m e =>
    have a:∀g c,mz m e=mz g c->∀x y,TT P W (dm d c x y):=λg c o x y=>by cases o;exact GG n e h d x y
    repeat' first|contradiction|exact qf|(with_reducible refine oT ?_)|exact a _ _ (by assumption) _ _|(refine Ni ?_)|(refine j9 ?_ ?_)|(intro _)|(refine D8 ?_ ?_)|split|dsimp only
   | _=>cases h
theorem b8K(t e:Ti)(h:P.underlying t=J (.pointer e)):TT P W (dm a t y (Po Q)):=by
 cases a with
 | zero=>exact j0 _
 | succ a =>
  unfold dm;refine Gm λu b=>?_;rw[h]at b;cases Ze b
  cases y with
  | pointer c=>cases c<;>exact trivial
  | _=>exact B7
theorem sH(h:N:=by with_reducible first|exact Ci|exact sJ|exact B7|exact j0 _|exact xK|exact xa|exact R7|exact Q3|exact wv|exact m9|exact xw|exact yu|exact HQ|exact Ee|exact vU|exact AV|exact Ml|fail):N:=h
theorem AJ{k:fq}:TT P W (kX T k a b):=by
 unfold kX
 repeat' first|(with_reducible first|exact sH|(refine oT ?_)|exact NG _ _)|exact j0 _|(refine j9 ?_ ?_)|(intro _)|(refine D8 ?_ ?_)|split|dsimp only
theorem NX{k:fq}(a b:Nat):TT P W (lV T k a b):=by
 unfold lV
 repeat' first|(with_reducible first|exact sH|(refine oT ?_)|exact LR _ _)|exact j0 _|(refine j9 ?_ ?_)|(intro _)|(refine D8 ?_ ?_)|split|dsimp only
theorem ZH{k:fq}{b:fq}:TT P W (mW k a b):=by
 unfold mW
 repeat' first|(with_reducible first|exact sH|(refine oT ?_))|exact j0 _|(refine j9 ?_ ?_)|(intro _)|(refine D8 ?_ ?_)|split|dsimp only
theorem c8V{k:fq}{b:fq}:TT P W (ly k a b):=by
 unfold ly
 repeat' first|(with_reducible first|exact sH|(refine oT ?_)|exact ZH)|exact j0 _|(refine j9 ?_ ?_)|(intro _)|(refine D8 ?_ ?_)|split|dsimp only
theorem HS(a b:Nat):TT P W (Op.Complex.add a b):=AJ
theorem FE(a b:Nat):TT P W (Op.Complex.sub a b):=AJ
theorem Gx(a b:Nat):TT P W (Op.Complex.mul a b):=AJ
theorem FG(a b:Nat):TT P W (Op.Complex.quo a b):=AJ
theorem YR(a b c d:Nat):TT P W (kB a b c d):=by
 unfold kB
 repeat' first|(with_reducible first|exact sH|(refine oT ?_)|exact HS _ _|exact FE _ _|exact Gx _ _|exact FG _ _)|exact j0 _|(refine j9 ?_ ?_)|(intro _)|(refine D8 ?_ ?_)|split|dsimp only
theorem Ye(s a b c d:Nat):TT P W (jM s a b c d):=by
 unfold jM
 repeat' first|(with_reducible first|exact sH|(refine oT ?_)|exact HS _ _|exact FE _ _|exact Gx _ _|exact FG _ _)|exact j0 _|(refine j9 ?_ ?_)|(intro _)|(refine D8 ?_ ?_)|split|dsimp only
theorem b6z(a b c d:Nat):TT P W (jX a b c d):=by
 unfold jX
 repeat' first|(with_reducible first|exact sH|(refine oT ?_)|exact HS _ _|exact FE _ _|exact Gx _ _|exact FG _ _|exact NX _ _|exact Ye _ _ _ _ _)|exact j0 _|(refine j9 ?_ ?_)|(intro _)|(refine D8 ?_ ?_)|split|dsimp only
theorem QD{k:fq}(a b c d:Nat):TT P W (Op.complexOp T k a b c d):=by
 unfold Op.complexOp
 repeat' first|(with_reducible first|exact sH|(refine oT ?_)|exact AJ|exact NX _ _|exact c8V|exact YR _ _ _ _|exact b6z _ _ _ _)|exact j0 _|(refine j9 ?_ ?_)|(intro _)|(refine D8 ?_ ?_)|split|dsimp only
theorem Ss(x y:Vu)(h:∀x,T=.eql\/T=.neq->TT P W (dm Op.maxDepth n x y)):TT P W (binOp T n x y):=by
 have a:∀x,T=.eql->TT P W (Op.equal n x y):=λx e=>h x (.inl e);have b:∀x,T=.neq->TT P W (Op.equal n x y):=λx e=>h x (.inr e);unfold binOp
 repeat' first|(with_reducible first|exact sH|(refine oT ?_)|exact XC|exact LC _ _|exact c6x _ _|exact OJ _ _|exact Wu _ _|exact NG _ _|exact LR _ _|exact QD _ _ _ _|exact b8M _ _|exact a _ Z|exact b _ Z|exact Xi _ _|exact VQ _ _|exact GH|exact UZ _ _|exact SN _ _|exact Tq)|exact j0 _|(refine j9 ?_ ?_)|(intro _)|(refine D8 ?_ ?_)|split|dsimp only
theorem Gg{x:Place}:TT P W (x.get n):=by
 cases x with
 | val v=>exact trivial
 | var a=>exact AV
theorem LS:∀(l:List FieldStep) (t:Ti) (x:Place),TT P W (follow l t x)
 | [],_,_=>trivial
 | s::rest,t,x=>by
  unfold follow
  repeat' first|(with_reducible first|exact sH|(refine oT ?_)|exact Gg|exact LS rest _ _|exact La|exact Cg)|exact j0 _|(refine j9 ?_ ?_)|(intro _)|(refine D8 ?_ ?_)|split|dsimp only
theorem c2Q{b:Array Ti}:TT P W (ki b n K):=by
 unfold ki;rcases K with⟨_|⟨x,_|⟨y,_|⟨z,_|⟨u,l⟩⟩⟩⟩⟩<;>first|exact B7|skip
 cases y<;>first|exact B7|skip
 cases z<;>first|exact B7|skip
 cases x<;>first|exact B7|skip
 rename_i a
 cases a with
 | some a=>exact sJ
 | none =>
 refine j9 (vU) λc=>?_
 repeat' first|(with_reducible first|exact sH|(refine oT ?_))|exact j0 _|(refine j9 ?_ ?_)|(intro _)|(refine D8 ?_ ?_)|split|dsimp only
theorem RD{x:Place}{a:Option String}:TT P W (receiverAt n x p a):=by
 unfold receiverAt
 repeat' first|(with_reducible first|exact sH|(refine oT ?_)|exact Gg|exact c2Q)|exact j0 _|(refine j9 ?_ ?_)|(intro _)|(refine D8 ?_ ?_)|split|dsimp only
def AA(P:Pg)(C:bC->Prop)(a:String):Prop :=
 ∀t i m f b,P.info? t=J i->i.methods.find? (·.name==a)=J m->m.func=J (f,b)->C f
theorem OY{C:bC->Prop}{a:String}(h:AA P C a):∀(n:Nat) (t:Ti) (v:Vu),G7 P W (λr=>C r.1) (kJ n t v a)
 | 0,_,_=>j0 _
 | n+1,t,v=>by
  unfold kJ;refine TS λi c=>?_;split
  .rename_i m d;refine j9 (LS _ _ _) λr=>?_;split
   split
   .refine j9 (Gg) λy=>?_;split
    .exact OY h n _ _
    .exact m9
    .exact B7
   .rename_i f b e;exact zk (RD) λ_ _=>h t i m f b c d e
  .exact B7
def vk(S:bC->Prop):Next->Prop
 | .value _=>True
 | .skip=>True
 | .enter f _=>S f
 | _=>False
def xf(P:Pg)(S:bC->Prop)(f:bC):Prop :=
 ∃a,P.funcs[f]?=J a/\(a.name== "runtime.NumGoroutine")=false /\
  ((a.body.isNone=false/\S f)\/(a.body.isNone=true/\mU a=Q/\Extern.find a=Q/\(a.name.endsWith ".init"&&!a.name.startsWith "("&&!a.name.startsWith "gosem.")=false))
theorem IW{S:bC->Prop}{f:bC}(h:xf P S f):G7 P W (vk S) (callFunc f K):=by
 let⟨c,d,e,h⟩:=h
 show G7 P W (vk S) (match P.funcs[f]? with
  | none=>stuck "call: no such function"
  | some c=>_)
 rw[d];dsimp only;rw[e];simp only[aI,if_false];rcases h with⟨a,b⟩|⟨a,b,g,i⟩
 .rw[a];simp only[aI,if_false];exact b
 .rw[a];simp only[if_true];refine⟨by simp,by simp,?_⟩;rw[b,g];dsimp only;rw[i];exact j0 _
theorem WA{S:bC->Prop}{a:String}(h:AA P (xf P S) a):G7 P W (vk S) (callMethod y a K):=by
 unfold callMethod;split
 .exact WY (zk (OY h _ _ _) λr b=>IW b)
 .exact m9
 .exact B7
theorem OP:∀(l:List FieldStep) (t:Ti) (x:Option Vu),TT P W (followBlind l t x)
 | [],_,_=>trivial
 | s::rest,t,x=>by
  unfold followBlind
  repeat' first|(with_reducible first|exact sH|(refine oT ?_)|exact OP rest _ _|exact Cg)|exact j0 _|(refine j9 ?_ ?_)|(intro _)|(refine D8 ?_ ?_)|split|dsimp only
theorem Mp:∀(n:Nat) (t:Ti) (v:Vu) (a:String),TT P W (nilAhead n t v a)
 | 0,_,_,_=>trivial
 | n+1,t,v,a=>by
  unfold nilAhead
  repeat' first|(with_reducible first|exact sH|(refine oT ?_)|exact OP _ _ _|exact Mp n _ _ _)|exact j0 _|(refine j9 ?_ ?_)|(intro _)|(refine D8 ?_ ?_)|split|dsimp only
theorem Vi(t e:Ti)(h:P.underlying t=J (.slice e)):TT P W (dm a t y (Sc Q 0 0)):=by
 cases a with
 | zero=>exact j0 _
 | succ a =>
  unfold dm;refine Gm λu b=>?_;rw[h]at b;cases Ze b
  cases y with
  | slice c _ _=>cases c<;>exact trivial
  | _=>exact B7
def qm(P:Pg)(S:bC->Bool)(c:List String)(a:Bool)(o:Op):Bool :=
 match o with
 | .alloc _|.store _ _ _=>a
 | .move _|.assign _|.pick _ _ _|.box _ _|.build _ _|.buildSlice _ _ _|.load _ _|.makeChan _ _|.unOp _ _ _|.makeInterface _ _|.makeSlice _ _ _|.slice _ _ _ _ _|.fieldAddr _ _ _|.field _ _ _|.indexAddr _ _ _|.index _ _ _|.typeAssert _ _ _ _|.extract _ _|.nilCheck _=>true
 | .binOp d t _ y _=>(match d with|.eql|.neq=>false|_=>true)||BC P 10 t||((match P.underlying t with|some (.pointer _)=>true|_=>false)&&(match y with|.const (.pointer none)=>true|_=>false))||((match P.underlying t with|some (.slice _)=>true|_=>false)&&(match y with|.const (.slice none 0 0)=>true|_=>false))
 | .call { callee:=.builtin b,.. }=>(match b with|.len|.cap=>true|.append|.copy=>a|_=>false)
 | .call { callee:=.invoke _ m,.. }=>c.contains m
 | .call { callee:=.value (.func f),.. }=>S f
 | _=>false
theorem qI{a:bC->Prop}{s:gi Vu}(h:TT P W s):G7 P W (vk a) (do pure (.value (←s))):=zk h λ_ _=>trivial
theorem Tr{a:bC->Prop}{s:gi Unit}(h:TT P W s):G7 P W (vk a) (do s;pure .skip):=zk h λ_ _=>trivial
theorem DN{S:bC->Bool}{meths:List String}{st:Bool}(j:st=true->W)(s:∀f,S f=true->xf P (λf=>S f=true) f)(z:∀m∈meths,AA P (xf P λf=>S f=true) m){ρ:aS->Vu}(q:∀v,ρ (.const v)=v)(A:∀f,ρ (.func f)=.func (.func f) #[] #[])(o:aL)(h:qm P S meths st o.op=true):G7 P W (vk λf=>S f=true) (Ex ρ o):=by
 unfold Ex;cases e:o.op<;>rw[e]at h<;>first|cases h|dsimp only
 case move x=>exact trivial
 case assign x=>exact trivial
 case pick c a b=>exact j9 (HQ) λ_=>trivial
 case alloc t=>exact qI (UN (j Z))
 case box t x=>exact qI (d1f)
 case build t ps=>exact qI (TW)
 case buildSlice t n ps=>exact qI (Um)
 case load t a=>exact qI (c6z)
 case store t a x=>exact Tr (ZJ (j Z) _ _)
 case makeChan t x=>exact qI (WM)
 case nilCheck x =>
  dsimp only;split
  .exact m9
  .exact m9
  .exact m9
  .split
   .exact m9
   .refine j9 xa λp=>j9 (Mp _ _ _ _) λb=>?_;split
    .exact j0 _
    .exact trivial
   .exact trivial
  .exact trivial
 case binOp op t x y u =>
  refine qI (j9 (Xd _ _ _ _) λ_=>Ss _ _ λI B=>?_);unfold qm at h;dsimp only at h;rw[cY,cY,cY,aB,aB]at h;rcases h with((h|h)|⟨d,g⟩)|⟨d,g⟩
  .rcases B with rfl|rfl<;>cases h
  .exact GG 10 t h _ _ _
  .split at d
   .rename_i C k;split at g
    .rw[q];exact b8K _ _ k
    .cases g
   .cases d
  .split at d
   .rename_i C k;split at g
    .rw[q];exact Vi _ _ k
    .cases g
   .cases d
 case unOp op t x=>exact qI (c9c)
 case makeInterface t x=>exact qI (a8e)
 case makeSlice t l c=>exact qI (RE _ _)
 case slice t x a b c=>exact qI (c2O _ _ _)
 case fieldAddr t x i=>exact qI (XH)
 case field t x i=>exact qI (Wn)
 case indexAddr t x i=>exact qI (Rz _ _)
 case index t x i=>exact qI (SR _ _)
 case typeAssert x t u b=>exact qI (b4n _ _)
 case extract x i=>exact qI (Rw)
 case call c =>
  let⟨D,E,F⟩:=c
  cases D with
  | builtin b =>
   show G7 P W _ (builtin b F o.type _ _);cases b<;>first|cases h|skip
   .exact qI (UO (j Z))
   .exact qI (d1g)
   .exact qI (SX (j Z))
   .exact qI (Ym)
  | invoke r m =>
   have H:m∈meths:=by simpa[qm] using h
   show G7 P W _ (invoke (.fn (.method m) #[]) (#[ρ r]++E.map ρ));unfold invoke;dsimp only;split
   .exact WA (z m H)
   .exact B7
  | value f =>
   cases f with
   | func f =>
    show G7 P W _ (lx (ρ (.func f)) _ >>= _);rw[A];exact IW (s f h)
   | _=>cases h
variable{S:bC->Bool}{meths:List String}{st:Bool}
def Z6(P:Pg)(S:bC->Bool)(meths:List String)(st:Bool):jj->Bool
 | .skip|.exit _|.ret|.label _=>true
 | .region _ c _=>c.all λo=>qm P S meths st o.op
 | .seq a b=>Z6 P S meths st a&&Z6 P S meths st b
 | .cond _ a b=>Z6 P S meths st a&&Z6 P S meths st b
 | .block _ a=>Z6 P S meths st a
 | .loop a=>Z6 P S meths st a
 | _=>false
def vy(P:Pg)(S:bC->Bool)(meths:List String)(st:Bool):bh->Prop
 | .code c=>Z6 P S meths st c=true
 | .inBlock _=>True
 | .inLoop c=>Z6 P S meths st c=true
 | .inRegion a _=>(a.all λo=>qm P S meths st o.op)=true
 | _=>False
structure pU (P:Pg) (S:bC->Bool) (meths:List String) (st:Bool):Prop where
 body:∀f,S f=true->∃fn c,P.funcs[f]?=J fn/\(fn.name== "runtime.NumGoroutine")=false/\fn.body=J c/\Z6 P S meths st c=true
 GA:∀m∈meths,AA P (xf P (λf=>S f=true)) m
theorem pU.call(h:pU P S meths st)(f:bC)(a:S f=true):xf P (λf=>S f=true) f:=by
 let⟨b,c,d,e,g,_⟩:=h.body f a;exact⟨b,d,e,.inl ⟨by rw[g];rfl,a⟩⟩
structure qy (P:Pg) (S:bC->Bool) (meths:List String) (st:Bool) (fr:Fm'):Prop where
 kind:fr.kind=.normal
 round:fr.roundOf=Q
 defers:fr.defers=[]
 fn:∃fn,P.funcs[fr.fn]?=J fn
 todo:∀x∈fr.todo,vy P S meths st x
theorem qy.enter(h:pU P S meths st){f:bC}(d:S f=true)(e:Array Vu):qy P S meths st (ay P f e .normal):=by
 let⟨g,c,a,_,i,j⟩:=h.body f d;refine⟨Z,Z,Z,⟨g,a⟩,λx b=>?_⟩;simp only[ay,a,Option.bind_some,i,cU,ae,aj,or_false]at b;subst b;exact j
theorem qy.raise(h:qy P S meths st E)(a:List PanicEntry):qy P S meths st (E.raise a):=by
 unfold Frame.raise;split<;>exact⟨h.kind,h.round,h.defers,h.fn,h.todo⟩
theorem qy.finish(h:qy P S meths st E)(v:Vu):qy P S meths st (E.finish v):=by
 have a:=h.todo;unfold Frame.finish;split
 .rename_i c i d k e;rw[e]at a;refine⟨h.kind,h.round,h.defers,h.fn,λx b=>?_⟩;rcases ae.1 b with rfl|b
  .exact a (.inRegion c (i::d)) (ao ..)
  grind
 .rename_i e;rw[e]at a;exact(a _ (ao ..)).elim
 .rename_i e;rw[e]at a;exact(a _ (ao ..)).elim
 .rename_i e;rw[e]at a;exact(a _ (ao ..)).elim
 .rename_i e;rw[e]at a;exact(a _ (ao ..)).elim
 .exact h
def _root_.Go.GStep.wd:GStep->Nat
 | .go _ w _=>w.drawn
 | .ended _ w _=>w.drawn
 | _=>0
theorem Bi(a:Array dn)(s:GStep):(eY a s).wd=s.wd:=by cases s<;>rfl
theorem yo{b:bC}{e:dn}(h:e∈seen P b R):e∈R:=by
 have c:∀(l:List dn) (x:Bool×Array dn),e∈(l.foldl (λ(x:Bool×Array dn) e =>
   match e.loc with
   | .mark (.extern f)=>((P.funcs[f]?).any (·.norace),x.2)
   | _=>(x.1,if x.1&&!e.sync then x.2 else x.2.push e)) x).2->e∈x.2\/e∈l:=by
  intro l
  induction l with
  | nil=>grind
  | cons a l d =>
   grind
 dsimp only[seen]at h;rw[←Array.foldl_toList]at h;rcases c R.toList _ h with h|h
 all_goals grind
structure sZ (st:Bool) (sft:Nat->Nat) (v v' w w':Wd) (es:Array dn):Prop where
 lk:Lk sft v' w'
 kept:Kept sft w w'
 off:∀e∈es,um sft (st=true) w'.heap.size e
 drew:∃c,qk c v v' w w'
theorem sZ.still{v w:Wd}(h:Lk sft v w):sZ st sft v v w w #[]:=⟨h,.refl _ _,λe a=>by simp at a,0,.zero _ _⟩
theorem yx{w:Wd}{q:gV}(h:(mP q).run P w=.ok a i):w.drawn<=i.drawn:=by
 simp only[mP,Sem.run]at h
 grind
theorem b4E{w:Wd}{q:gV}{x:Halt}(h:(mP q).run P w=.halt x i):w.drawn<=i.drawn:=by
 simp only[mP,Sem.run]at h
 grind
theorem c3U{c:List Fm'}{d:Option Dying}{w:Wd}:w.drawn<=(early P E c d a w).wd:=by
 unfold early;dsimp only
 repeat' split
 all_goals first
  | exact af _
  | (simp only[GStep.wd];exact yx (P:=P) (by assumption:(mP (.early a)).run P w=.ok _ _))
  | (simp only[GStep.wd];rename_i b;exact yx (P:=P) b)
  | (simp only[GStep.wd];rename_i b;exact b4E (P:=P) b)
  | (simp only[GStep.wd];rename_i b _;exact yx (P:=P) b)
  | (simp only[GStep.wd];rename_i b _ _;exact yx (P:=P) b)
  | (simp only[GStep.wd];rename_i b _ _ _;exact yx (P:=P) b)
  | (simp only[GStep.wd];rename_i b _ _ _ _;exact yx (P:=P) b)
open Go.Conc (G)
def _root_.Go.Frame.app(a:Fm')(k:List bh):Frame:={ a with todo:=a.todo++k }
theorem c0b(hF:qy P S meths st E){s:gi Next}(B:G7 P (st=true) (vk λf=>S f=true) s){v w:Wd}(L:Lk sft v w)(N:zK a v w){cs cs':List Fm'}{kk kk':List bh}(C:(dg P true (E.app kk) cs Q s w).wd<=w.drawn+a){l:List Nat}{k:List bh}(R:E.todo=.inRegion H l::k) :
    (∃o b j,dg P true (E.app kk') cs' Q s v=.ended o b j)\/∃b d j,sZ st sft v b w d j /\
      ((∃x,dg P true (E.app kk') cs' Q s v=.go (G ((E.app kk').finish x) cs') b j/\dg P true (E.app kk) cs Q s w=.go (G ((E.app kk).finish x) cs) d j) \/
       (∃f q,S f=true/\dg P true (E.app kk') cs' Q s v=.go (G (ay P f q .normal) (E.app kk'::cs')) b j/\dg P true (E.app kk) cs Q s w=.go (G (ay P f q .normal) (E.app kk::cs)) d j) \/
       (∃D,dg P true (E.app kk') cs' Q s v=.go (G ((E.app kk').raise D) cs') b j/\dg P true (E.app kk) cs Q s w=.go (G ((E.app kk).raise D) cs) d j)):=by
  let⟨y,b',T,c',d',F,e'⟩:=E;obtain rfl:T=.inRegion H l::k:=R;dsimp only[Frame.app,cj]at C ⊢;have M:(F==CallKind.early)=false:=by rw[show F=.normal from hF.kind];rfl
  have X:(s.runT P w #[]).1.world.drawn<=w.drawn+a:=by
    revert C;unfold dg;rcases KT P s (st=true) w #[] B with⟨z,d,i,e,t⟩|⟨x,d,i,e⟩|⟨x,d,i,e,p⟩
    . simp only[if_true,e,Bi]
      cases z<;>first|exact t.elim|exact id
    . simp only[if_true,e,Bi]
      exact id
    . simp only[if_true,e,Bi]
      rcases p with p|⟨g,rfl⟩
      . cases x with
        | unsupported u=>cases u<;>first|exact p.elim|exact id
        | _=>first|exact p.elim|exact id
      . exact λh=>Zh c3U h
  have A:=D4 P s (st=true) (v:=v) (w:=w) #[] a B L N X;unfold dg;simp only[if_true,M,aI,if_false];revert A;generalize s.runT P v #[]=rv;generalize s.runT P w #[]=f';intro A;have I:∀ {i:Array dn} {n:Nat},qC sft (st=true) n #[] i->∀e∈seen P y i++#[],um sft (st=true) n e:=λa' e K=>by
    rw[mr]at K;rcases a' e (yo K) with h|h
    all_goals grind
  cases A with
  | @ok z b d i c t h1 h2 h3 h4 =>
    refine .inr ⟨b,d,seen P y i++#[],⟨h1,h2,I h3,c,h4⟩,?_⟩
    cases z with
    | value x=>exact .inl ⟨x,Z,Z⟩
    | skip=>exact .inl ⟨Ud,Z,Z⟩
    | enter f q=>exact .inr (.inl ⟨f,q,t,Z,Z⟩)
    | _=>exact t.elim
  | @panic x b d i c h1 h2 h3 h4 =>
    exact .inr ⟨b,d,seen P y i++#[],⟨h1,h2,I h3,c,h4⟩,.inr (.inr ⟨_,Z,Z⟩)⟩
  | @lost x b i r p =>
    refine .inl ?_
    cases x with
    | unsupported u=>cases u<;>first|exact p.elim|exact⟨_,_,_,Z⟩
    | stuck m=>exact⟨_,_,_,Z⟩
    | _=>exact p.elim
open Go.Conc (G)
theorem Il(a:Func)(b:Array Vu):TT P (st=true) (de a b):=by
 unfold de;refine j9 (LH λr=>?_) λ_=>trivial;split
 .exact trivial
 .exact j9 (Ee) λ_=>AV
theorem wL(a:Fm'):a.app []=a:=by cases a;simp[Frame.app]
theorem Jg(a:Fm')(k:List bh):(a.app k).eval=a.eval:=by funext x;cases x<;>rfl
theorem DM(g:Fm')(k:List bh)(h:List PanicEntry):(g.app k).raise h=(g.raise h).app k:=by
 cases g with|mk a b c d m e f=>cases m<;>rfl
def Dx(a:Fm'):Prop:=∃b i c t,a.todo=.inRegion b (i::c)::t
theorem zB(h:Dx E)(k:List bh)(x:Vu):(E.app k).finish x=(E.finish x).app k:=by
 let⟨g,i,j,t,h⟩:=h
 cases E with
 | mk a b c d m e f =>
  obtain rfl:c=_:=h;rfl
theorem Gw{id:Nat}:∀ {k a:List bh},(∀x∈k,vy P S meths st x)->fI id k=J a->∀x∈a,vy P S meths st x
 | [],_,_,h=>by cases h
 | y::k,a,hk,h=>by
  have b:∀x∈k,vy P S meths st x:=λx c=>hk x (ah _ c)
  cases y with
  | inBlock d =>
   unfold fI at h;split at h
   .grind
   .exact Gw b h
  | _=>exact Gw b h
theorem Df{id:Nat}{b:List bh}:∀ {k a:List bh},fI id k=J a->fI id (k++b)=J (a++b)
 | [],_,h=>by cases h
 | y::k,a,h=>by
  cases y with
  | inBlock c =>
   unfold fI at h;simp only[cj,fI];split at h
   .grind
   .rename_i e;simp only[e,if_false];exact Df h
  | _=>exact Df (k:=k) h
theorem EN{id:Nat}{b:List bh}(a:fI id b=Q):∀ {k:List bh},fI id k=Q->fI id (k++b)=Q
 | [],_=>a
 | y::k,h=>by
  cases y with
  | inBlock c =>
   unfold fI at h;simp only[cj,fI];split at h
   .cases h
   .rename_i e;simp only[e,if_false];exact EN a h
  | _=>exact EN a (k:=k) h
def JO(P:Pg)(S:bC->Bool)(meths:List String)(st:Bool)(sft:Nat->Nat)(c:Fm')(f g:List bh)(h i:List Fm')(v w:Wd)(s j:GStep):Prop :=
 ∃a d e b,sZ st sft v d w e b/\qy P S meths st a /\
  ((j=.go (G (a.app g) i) d b/\s=.go (G (a.app f) h) e b)\/(Dx c/\j=.go (G a (c.app g::i)) d b/\s=.go (G a (c.app f::h)) e b))
theorem sO{b c:List bh}{d e:List Fm'}{v w:Wd}(f:Lk sft v w){s a:GStep}{fr':Fm'}(g:qy P S meths st fr')(h:s=.go (G (fr'.app b) d) w #[])(i:a=.go (G (fr'.app c) e) v #[]) :
  (∃o j k,a=.ended o j k)\/JO P S meths st sft E b c d e v w s a :=
 .inr ⟨fr',v,w,#[],.still f,g,.inl ⟨i,h⟩⟩
theorem Pr(R:pU P S meths st)(hF:qy P S meths st E){kk kk':List bh}{cs cs':List Fm'}(hm:E.mode=.run)(c':E.todo≠[]\/kk=[]/\kk'=[])(i':∀id,fI id kk'=Q){v w:Wd}(q:Lk sft v w)(hw:zK a v w){main main':Bool}(L:(bF P main (G (E.app kk) cs) w).wd<=w.drawn+a) :
  (∃o C D,bF P main' (G (E.app kk') cs') v=.ended o C D)\/JO P S meths st sft E kk kk' cs cs' v w (bF P main (G (E.app kk) cs) w) (bF P main' (G (E.app kk') cs') v):=by
 have N:=hF;let⟨f,n,j',p',q',r',s'⟩:=E;let⟨d',f',g',⟨X,T⟩,F⟩:=hF;dsimp only at d' f' g' T F hm c';subst d' f' g' hm
 cases j' with
 | nil =>
  obtain⟨rfl,rfl⟩:kk=[]/\kk'=[]:=c'.elim (λh=>absurd Z h) id;exact sO q (fr':={ fn:=f,tmps:=n,todo:=[],defers:=[],mode:=.returning,kind:=.normal }) ⟨Z,Z,Z,⟨X,T⟩,F⟩ Z Z
 | cons x k =>
  have s:=F x (ao ..);have z:∀y∈k,vy P S meths st y:=λy j=>F y (ah _ j);have mk:∀ {todo':List bh},(∀y∈todo',vy P S meths st y)->qy P S meths st { fn:=f,tmps:=n,todo:=todo',defers:=[],mode:=.run,kind:=.normal }:=λh=>⟨Z,Z,Z,⟨X,T⟩,h⟩
  cases x with
  | code c =>
   cases c with
   | skip=>exact sO q (mk z) Z Z
   | label l=>exact sO q (mk z) Z Z
   | ret=>exact sO q (fr':={ fn:=f,tmps:=n,todo:=.code .ret::k,defers:=[],mode:=.returning,kind:=.normal }) ⟨Z,Z,Z,⟨X,T⟩,F⟩ Z Z
   | seq p b =>
    have H:Z6 P S meths st p=true/\Z6 P S meths st b=true:=by simpa[vy,Z6] using s
    refine sO q (mk (todo':=.code p::.code b::k) λy j=>?_) Z Z;rcases ae.1 j with rfl|j
    .exact H.1
    .rcases ae.1 j with rfl|j
     .exact H.2
     .exact z y j
   | block id p =>
    refine sO q (mk (todo':=.code p::.inBlock id::k) λy j=>?_) Z Z;rcases ae.1 j with rfl|j
    .exact s
    .rcases ae.1 j with rfl|j
     .exact trivial
     .exact z y j
   | loop p =>
    refine sO q (mk (todo':=.code p::.inLoop p::k) λy j=>?_) Z Z;rcases ae.1 j with rfl|j
    .exact s
    .rcases ae.1 j with rfl|j
     .exact s
     .exact z y j
   | cond c p b =>
    have H:Z6 P S meths st p=true/\Z6 P S meths st b=true:=by simpa[vy,Z6] using s
    cases e:gH { fn:=f,tmps:=n,todo:=.code (.cond c p b)::k,defers:=[],mode:=.run,kind:=.normal } c with
    | bool t =>
     refine sO q (mk (todo':=.code (if t then p else b)::k) λy j=>?_) (by
      have A:gH { fn:=f,tmps:=n,todo:=.code (.cond c p b)::(k++kk),defers:=[],mode:=.run,kind:=.normal } c=Bo t:=e;simp only[bF,G,dW,Frame.app,cj,A]) (by
      have A:gH { fn:=f,tmps:=n,todo:=.code (.cond c p b)::(k++kk'),defers:=[],mode:=.run,kind:=.normal } c=Bo t:=e
      simp only[bF,G,dW,Frame.app,cj,A])
     rcases ae.1 j with rfl|j
     .cases t
      .exact H.2
      .exact H.1
     .exact z y j
    | _ =>
     refine .inl ⟨.stuck "cond: bool expected" (ji P (Frame.app { fn:=f,tmps:=n,todo:=.code (.cond c p b)::k,defers:=[],mode:=.run,kind:=.normal } kk')),v,#[],?_⟩;have A:=(congrFun (Jg { fn:=f,tmps:=n,todo:=.code (.cond c p b)::k,defers:=[],mode:=.run,kind:=.normal } kk') c).trans e;simp only[Frame.app,cj]at A;simp only[bF,G,dW,Frame.app,cj,A]
   | exit id =>
    cases e:fI id k with
    | none=>exact .inl ⟨_,_,_,by simp only[bF,G,dW,Frame.app,cj,EN (i' id) e,Option.elim_none];rfl⟩
    | some k'=>exact sO q (mk (Gw z e)) (by simp only[bF,G,dW,Frame.app,cj,Df e,mF]) (by simp only[bF,G,dW,Frame.app,cj,Df e,mF])
   | region id r l' =>
    have h':∀l,∀y∈Item.inRegion r l::k,vy P S meths st y:=λl y j=>by
     rcases ae.1 j with rfl|j
     .exact s
     .exact z y j
    cases l' with
    | false=>exact sO q (mk (h' _)) Z Z
    | true =>
     have M:∀(m:Bool) (cs:List Fm') (u:Wd) (k:List bh),bF P m (G { fn:=f,tmps:=n,todo:=.code (.region id r true)::k,defers:=[],mode:=.run,kind:=.normal } cs) u =
       .go (G { fn:=f,tmps:=n,todo:=.inRegion r (eU (P.follows .mixedOrders) r (u.tape u.drawn (.order f id)))::k,defers:=[],mode:=.run,kind:=.normal } cs) { u with drawn:=u.drawn+1 } #[]:=λm cs u k=>rfl
     have B:bF P main (G (Frame.app { fn:=f,tmps:=n,todo:=.code (.region id r true)::k,defers:=[],mode:=.run,kind:=.normal } kk) cs) w=_:=M main cs w (k++kk);rw[B]at L;have m':0<a:=by
      have:w.drawn+1<=w.drawn+a:=L;omega
     have et:v.tape v.drawn (.order f id)=w.tape w.drawn (.order f id):=hw 0 _ m';exact .inr ⟨_,{ v with drawn:=v.drawn+1 },{ w with drawn:=w.drawn+1 },#[],⟨⟨q.heap,q.soft,q.nz,q.os,q.output⟩,(.of_heap _ Z),λe he=>by simp at he,1,⟨Z,Z,Z,Z,Z,Z⟩⟩,mk (h' _),.inl ⟨M main' cs' v (k++kk'),by rw[B,et];rfl⟩⟩
   | rangeFunc p b c d=>cases s
   | scope p=>cases s
   | goto l=>cases s
   | refuse m=>cases s
  | inBlock id=>exact sO q (mk z) Z Z
  | inLoop p =>
   refine sO q (mk (todo':=.code p::.inLoop p::k) λy j=>?_) Z Z;rcases ae.1 j with rfl|j
   .exact s
   grind
  | inRegion r l =>
   cases l with
   | nil=>exact sO q (mk z) Z Z
   | cons i l =>
    cases e:((r[i]?).map (bM · (fh r n))).getD false with
    | false =>
     refine sO q (fr':=Frame.finish { fn:=f,tmps:=n,todo:=.inRegion r (i::l)::k,defers:=[],mode:=.run,kind:=.normal } Ud) (N.finish _) ?_ ?_
     .rw[←zB ⟨_,_,_,_,Z⟩];simp only[bF,G,dW,Frame.app,cj,e,aI,if_false]
     .rw[←zB ⟨_,_,_,_,Z⟩];simp only[bF,G,dW,Frame.app,cj,e,aI,if_false]
    | true =>
     cases ho:r[i]? with
     | none=>grind
     | some o =>
      have M:∀(m:Bool) (cs:List Fm') (u:Wd) (k:List bh),bF P m (G { fn:=f,tmps:=n,todo:=.inRegion r (i::l)::k,defers:=[],mode:=.run,kind:=.normal } cs) u =
        dg P true { fn:=f,tmps:=n,todo:=.inRegion r (i::l)::k,defers:=[],mode:=.run,kind:=.normal } cs Q (Ex (gH { fn:=f,tmps:=n,todo:=.inRegion r (i::l)::k,defers:=[],mode:=.run,kind:=.normal }) o) u:=λm cs u k=>by
       have A:=e;rw[ho]at A;simp only[bF,G,dW,stepG.oper,Frame.oper?,ho,A,if_true]
      have B:∀(m:Bool) (cs:List Fm') (u:Wd) (kk:List bh),bF P m (G (Frame.app { fn:=f,tmps:=n,todo:=.inRegion r (i::l)::k,defers:=[],mode:=.run,kind:=.normal } kk) cs) u =
        dg P true (Frame.app { fn:=f,tmps:=n,todo:=.inRegion r (i::l)::k,defers:=[],mode:=.run,kind:=.normal } kk) cs Q (Ex (gH { fn:=f,tmps:=n,todo:=.inRegion r (i::l)::k,defers:=[],mode:=.run,kind:=.normal }) o) u:=λm cs u kk=>by
       rw[←Jg _ kk];exact M m cs u (k++kk)
      rw[B]at L;have n':qm P S meths st o.op=true:=by
       have:r.all (λo=>qm P S meths st o.op)=true:=s
       grind
      have ht:=DN (P:=P) (st:=st) id R.call R.GA (ρ:=gH { fn:=f,tmps:=n,todo:=.inRegion r (i::l)::k,defers:=[],mode:=.run,kind:=.normal }) (λ_=>rfl) (λ_=>rfl) o n';have hs:Dx { fn:=f,tmps:=n,todo:=.inRegion r (i::l)::k,defers:=[],mode:=.run,kind:=.normal }:=⟨_,_,_,_,Z⟩;rw[B,B];rcases c0b (cs:=cs) (cs':=cs') (kk:=kk) (kk':=kk') N ht q hw L rfl with⟨p,b,c,h⟩|⟨C,w',D,hb,⟨x,I,K⟩|⟨g,o',hg,I,K⟩|⟨ch,I,K⟩⟩
      .grind
      .exact .inr ⟨_,C,w',D,hb,N.finish x,.inl ⟨by rw[I,zB hs],by rw[K,zB hs]⟩⟩
      .exact .inr ⟨_,C,w',D,hb,.enter R hg o',.inr ⟨hs,I,K⟩⟩
      .exact .inr ⟨_,C,w',D,hb,N.raise ch,.inl ⟨by rw[I,DM],by rw[K,DM]⟩⟩
  | _=>exact s.elim
structure yk (P:Pg) (fr:Fm'):Prop where
 kind:fr.kind=.normal
 round:fr.roundOf=Q
 defers:fr.defers=[]
 fn:∃fn,P.funcs[fr.fn]?=J fn
theorem qy.leaves(h:qy P S meths st E):yk P E:=⟨h.kind,h.round,h.defers,h.fn⟩
theorem yk.app(h:yk P E)(k:List bh):yk P (E.app k):=⟨h.kind,h.round,h.defers,h.fn⟩
theorem Es{fr:Fm'}(hF:yk P fr)(H:fr.mode≠.run){c c':Fm'}{cs cs':List Fm'}{v w:Wd}(z:Lk sft v w){N:Nat}(I:zK N v w){main main':Bool}(A:(bF P main (G fr (c::cs)) w).wd<=w.drawn+N) :
    (∃o d j,bF P main' (G fr (c'::cs')) v=.ended o d j)\/∃d g j,sZ st sft v d w g j /\
      ((∃x,bF P main' (G fr (c'::cs')) v=.go (G (c'.finish x) cs') d j/\bF P main (G fr (c::cs)) w=.go (G (c.finish x) cs) g j) \/
       (∃k,bF P main' (G fr (c'::cs')) v=.go (G (c'.raise k) cs') d j/\bF P main (G fr (c::cs)) w=.go (G (c.raise k) cs) g j)):=by
  let⟨f,b,q,M,K,X,a'⟩:=fr;let⟨B,C,D,⟨i,t⟩⟩:=hF;dsimp only at B C D t H;subst B C D
  cases K with
  | run=>grind
  | panicking k =>
    have l:∀(m:Bool) (c:Fm') (cs:List Fm') (u:Wd),bF P m (G { fn:=f,tmps:=b,todo:=q,defers:=[],mode:=.panicking k,kind:=.normal } (c::cs)) u=.go (G (c.raise k) cs) u #[]:=λm c cs u=>by
      simp[bF,G,unwind,Frame.catches,t]
    exact .inr ⟨v,w,#[],.still z,.inr ⟨k,l _ _ _ _,l _ _ _ _⟩⟩
  | returning =>
    have l:∀(m:Bool) (c:Fm') (cs:List Fm') (u:Wd),bF P m (G { fn:=f,tmps:=b,todo:=q,defers:=[],mode:=.returning,kind:=.normal } (c::cs)) u =
        eY (seen P f ((de i b).runT P u #[]).2) (match ((de i b).runT P u #[]).1 with
          | .ok v w=>.go (G (c.finish v) cs) w
          | .halt (.stuck s) w=>.ended (.stuck s (ji P { fn:=f,tmps:=b,todo:=q,defers:=[],mode:=.returning,kind:=.normal })) w
          | .halt _ w=>.ended (.stuck "return: the result variables cannot be read" (ji P { fn:=f,tmps:=b,todo:=q,defers:=[],mode:=.returning,kind:=.normal })) w):=λm c cs u=>by
      simp only[bF,G,unwind,t,doReturn]
      grind
    have E:=Il (P:=P) (st:=st) i b;rw[l]at A;have L:((de i b).runT P w #[]).1.world.drawn<=w.drawn+N:=by
      revert A;rw[Bi];rcases KT P (de i b) (st=true) w #[] E with⟨a,g,p,e,R⟩|⟨x,g,p,e⟩|⟨x,g,p,e,T⟩
      . rw[e];exact id
      . rw[e];exact id
      . rw[e];cases x<;>exact id
    have y:=D4 P (de i b) (st=true) (v:=v) (w:=w) #[] N E z I L;simp only[l];revert y;generalize (de i b).runT P v #[]=rv;generalize (de i b).runT P w #[]=b';intro y
    cases y with
    | @ok a d g p n R h1 h2 h3 h4 =>
      refine .inr ⟨d,g,seen P f p++#[],⟨h1,h2,λe F=>?_,n,h4⟩,.inl ⟨a,Z,Z⟩⟩;rw[mr]at F;rcases h3 e (yo F) with h|h
      all_goals grind
    | panic _ _ _ _=>exact .inl ⟨_,_,_,Z⟩
    | @lost x d p r T=>cases x<;>exact .inl ⟨_,_,_,Z⟩
open Go.Conc (G)
inductive l6 (P:Pg) (main:Bool) (D:Wd->Wd->Array Event->Prop) (Stop:Gr->Wd->Prop):Gr->Wd->Prop where
 | stop {g:Gr} {w:Wd}:Stop g w->l6 P main D Stop g w
 | step {g:Gr} {w:Wd} (g':Nat->Gr) (w':Nat->Wd) (es:Nat->Array Event):g.status=.running->(∀d,stepG P main g (w.at d)=.go (g' d) (w' d) (es d))->(∀d,D (w.at d) (w' d) (es d)) ->
   (∀d,l6 P main D Stop (g' d) (w' d))->l6 P main D Stop g w
def DL(st:Bool)(sft:Nat->Nat)(w a:Wd)(b:Array dn):Prop:=Kept sft w a/\(∀e∈b,um sft (st=true) a.heap.size e)/\(a.tape,a.os,a.output)=(w.tape,w.os,w.output)
theorem l6.mono{D c:Wd->Wd->Array dn->Prop}{Stop e:Gr->Wd->Prop}{w:Wd}(h:l6 P p D Stop t w)(f:∀w a b,D w a b->c w a b)(g:∀t w,Stop t w->e t w):l6 P p c e t w:=by
 induction h with
 | stop h=>exact .stop (g _ _ h)
 | step i a b j k l _ m=>exact .step i a b j k (λd=>f _ _ _ (l d)) m
theorem l6.then{D:Wd->Wd->Array dn->Prop}{Stop a:Gr->Wd->Prop}{w:Wd}(h:l6 P p D Stop t w)(b:∀t w,Stop t w->l6 P p D a t w):l6 P p D a t w:=by
 induction h with
 | stop h=>exact b _ _ h
 | step c d e f g i _ j=>exact .step c d e f g i j
theorem l6.keep{Stop:Gr->Wd->Prop}{w:Wd}(h:l6 P p (DL st sft) Stop t w):l6 P p (DL st sft) (λb a=>Stop b a/\Kept sft w a) t w:=by
 induction h with
 | stop h=>exact .stop ⟨h,.refl _ _⟩
 | @step t w b a es h1 h2 h3 _ ih =>
  refine .step b a es h1 h2 h3 λd=>(ih d).mono (λ_ _ _ x=>x) λe f x=>⟨x.1,?_⟩
  have c:Kept sft w (w.at d):=.of_heap _ Z;exact c.trans ((h3 d).1.trans x.2)
def tl:List Fm'->List bh->List Fm'->List Fm'
 | [],_,aQ=>aQ
 | [c],k,aQ=>c.app k::aQ
 | c::d::l,k,aQ=>c::tl (d::l) k aQ
def real(a:Fm')(b:List Fm')(k:List bh)(base:List Fm'):Gr :=
 match b with
 | []=>G (a.app k) base
 | c::l=>G a (tl (c::l) k base)
theorem Wo{a:List Fm'}{k:List bh}{base:List Fm'}:(real E a k base).status=.running:=by cases a<;>rfl
structure Ig (P:Pg) (S:bC->Bool) (meths:List String) (st:Bool) (fr:Fm') (above:List Fm'):Prop where
 top:qy P S meths st fr
 rest:∀c∈above,qy P S meths st c/\Dx c
def OC(a:Fm')(b:List Fm')(k c:List bh):Prop:=b=[]/\(a.mode≠.run\/(a.todo=[]/\¬(k=[]/\c=[])))
theorem VD(R:pU P S meths st){r:List Fm'}(m:Ig P S meths st E r){k i:List bh}{base base0:List Fm'}(L:∀id,fI id i=Q)(I:¬OC E r k i){v w:Wd}(B:Lk sft v w){N:Nat}(C:zK N v w){main main':Bool}(t:(bF P main (real E r k base) w).wd<=w.drawn+N) :
  (∃o b a,bF P main' (real E r i base0) v=.ended o b a) \/
  ∃q D b j a,bF P main' (real E r i base0) v=.go (real q D i base0) b a/\bF P main (real E r k base) w=.go (real q D k base) j a/\sZ st sft v b w j a/\Ig P S meths st q D:=by
 cases r with
 | nil =>
  have u:E.mode=.run:=cL λh=>I ⟨Z,.inl h⟩;have T:E.todo≠[]\/k=[]/\i=[]:=by
   by_cases h:E.todo=[]
   .exact .inr (cL λM=>I ⟨Z,.inr ⟨h,M⟩⟩)
   .exact .inl h
  rcases Pr (kk:=k) (kk':=i) (cs:=base) (cs':=base0) (main:=main) (main':=main') R m.top u T L B C t with h|⟨q,b,j,a,n,z,⟨f,g⟩|⟨F,f,g⟩⟩
  .exact .inl h
  .exact .inr ⟨q,[],b,j,a,f,g,n,z,λc p=>by cases p⟩
  .exact .inr ⟨q,[E],b,j,a,f,g,n,z,λc p=>by
    rcases ae.1 p with rfl|p
    .exact⟨m.top,F⟩
    .cases p⟩
 | cons c l =>
  let⟨p,K⟩:=m.rest c (ao ..)
  by_cases u:E.mode=.run
  .have e:∀k base,real E (c::l) k base=G (E.app []) (tl (c::l) k base):=λk base=>by rw[wL];rfl
   rw[e]at t;rw[e,e];rcases Pr (kk:=[]) (kk':=[]) (cs:=tl (c::l) k base) (cs':=tl (c::l) i base0) (main:=main) (main':=main') R m.top u (.inr ⟨rfl,rfl⟩) (λ_=>rfl) B C t with h|⟨q,b,j,a,n,z,⟨f,g⟩|⟨F,f,g⟩⟩
   .exact .inl h
   .exact .inr ⟨q,c::l,b,j,a,by rw[f,wL];rfl,by rw[g,wL];rfl,n,z,m.rest⟩
   .refine .inr ⟨q,E::c::l,b,j,a,by rw[f,wL];rfl,by rw[g,wL];rfl,n,z,λx s=>?_⟩;rcases ae.1 s with rfl|s
    .exact⟨m.top,F⟩
    .exact m.rest x s
  .cases l with
   | nil =>
    rcases Es (c:=c.app k) (c':=c.app i) (cs:=base) (cs':=base0) (main:=main) (main':=main') m.top.leaves u B C t with h|⟨b,j,a,n,⟨x,f,g⟩|⟨A,f,g⟩⟩
    .exact .inl h
    .exact .inr ⟨c.finish x,[],b,j,a,by rw[show real E [c] i base0=G E (c.app i::base0) from Z,f,zB K];rfl,by rw[show real E [c] k base=G E (c.app k::base) from Z,g,zB K];rfl,n,p.finish x,λx s=>by cases s⟩
    .exact .inr ⟨c.raise A,[],b,j,a,by rw[show real E [c] i base0=G E (c.app i::base0) from Z,f,DM];rfl,by rw[show real E [c] k base=G E (c.app k::base) from Z,g,DM];rfl,n,p.raise A,λx s=>by cases s⟩
   | cons d l =>
    rcases Es (c:=c) (c':=c) (cs:=tl (d::l) k base) (cs':=tl (d::l) i base0) (main:=main) (main':=main') m.top.leaves u B C t with h|⟨b,j,a,n,⟨x,f,g⟩|⟨A,f,g⟩⟩
    .exact .inl h
    .exact .inr ⟨c.finish x,d::l,b,j,a,f,g,n,p.finish x,λy H=>m.rest y (ah _ H)⟩
    .exact .inr ⟨c.raise A,d::l,b,j,a,f,g,n,p.raise A,λy H=>m.rest y (ah _ H)⟩
def Y6:Frame:={ fn:=0,tmps:=#[],todo:=[.code (.refuse "")],defers:=[{ target:=.nil,args:=#[] }],mode:=.run,kind:=.normal }
theorem Qh(x:Vu)(v:Wd):∃o a b,bF P true (G (Y6.finish x) []) v=.ended o a b:=⟨_,_,_,Z⟩
theorem SD(a:List PanicEntry)(v:Wd):∃o b c,bF P true (G (Y6.raise a) []) v=.ended o b c:=⟨_,_,_,Z⟩
theorem MV(b:Fm')(a:List Fm')(d:List bh)(base:List Fm'):∃e f,real b a d base=G e f:=by
 cases a with
 | nil=>exact⟨_,_,Z⟩
 | cons c l=>exact⟨_,_,Z⟩
def rG(g:Gr)(w:Wd):gW:=lone g.frame g.callers w
theorem Ir{a b:List Fm'}{w:Wd}(c:t=G E a)(d:u=G F b)(h:bF P true t w=.go u i R):step P (rG t w)=.next (rG u i):=by
 subst c d;refine step_lone_go ?_;show(bF P true (G E a) w).bare=_;rw[h];rfl
theorem Dt{a:List Fm'}{w:Wd}{o:Outcome}(b:t=G E a)(h:bF P true t w=.ended o i R):step P (rG t w)=.ended o i:=by
 subst b;refine step_lone_ended ?_;show(bF P true (G E a) w).bare=_;rw[h];rfl
theorem NW{m b:gW}(h:runN P (a+1) m=.next b):∃c,step P m=.next c/\runN P a c=.next b:=by
 simp only[runN]at h
 grind
theorem b7c{k:List bh}(h:E.app k=F.app k):E=F:=by
 cases E;cases F
 simp only[Frame.app,mM,List.append_cancel_right_eq]at h
 grind
theorem Lk.at{v w:Wd}(h:Lk sft v w)(d:Nat):Lk sft v (w.at d):=⟨h.heap,h.soft,h.nz,h.os,h.output⟩
def rU(sft:Nat->Nat)(w:Wd)(a:Nat->gV->Nat):World:={ w with heap:=w.heap.mapIdx λi o=>fz (sft i) o,tape:=a,drawn:=0 }
theorem Dq{w:Wd}(a:∀i:Nat,sft i≠0->∃c t,w.heap[i]?=J (.cells c t (0,0)))(b:Clear w)(d:Nat->gV->Nat):Lk sft (rU sft w d) w :=
 ⟨λi=>by simp[rU],a,b,Z,Z⟩
section tape
variable(c:Nat->Nat)(d:Nat->Nat->gV->Nat)
open Classical in
def FB(x:Nat)(q:gV):Nat :=
 if h:∃j,c j<=x/\x<c (j+1) then d h.choose (x - c h.choose) q else 0
theorem c4l(m:∀a,c a<=c (a+1))(k:c a+b<c (a+1))(q:gV):FB c d (c a+b) q=d a b q:=by
 have h:∃j,c j<=c a+b/\c a+b<c (j+1):=⟨a,Nat.le_add_right _ _,k⟩;have n:∀f i,f<=i->c f<=c i:=λf i l=>by
  induction l with
  | refl=>grind
  | step _ o=>grind
 have e:h.choose=a:=by
  let⟨p,r⟩:=h.choose_spec;rcases Nat.lt_trichotomy h.choose a with g|g|g
  all_goals grind
 unfold FB
 simp_all
end tape
section chase
variable(P)(a:Bool)(D:Wd->Wd->Array dn->Prop)(Stop:Gr->Wd->Prop)
def sB(g:Gr)(w:Wd):Nat :=
 open Classical in if h:∃d,¬ ∃c b e,bF P a g (w.at d)=.go c b e/\D (w.at d) b e/\l6 P a D Stop c b then h.choose else 0
theorem c0A{w:Wd}(g:t.status=.running)(h:¬l6 P a D Stop t w):¬ ∃c b e,bF P a t (w.at (sB P a D Stop t w))=.go c b e/\D (w.at (sB P a D Stop t w)) b e/\l6 P a D Stop c b:=by
 have i:∃d,¬ ∃c b e,bF P a t (w.at d)=.go c b e/\D (w.at d) b e/\l6 P a D Stop c b:=by
  refine cL λj=>h ?_;have f:∀d,∃c b e,bF P a t (w.at d)=.go c b e/\D (w.at d) b e/\l6 P a D Stop c b:=λd=>cL λk=>j ⟨d,k⟩;exact .step (λd=>(f d).choose) (λd=>(f d).choose_spec.choose) (λd=>(f d).choose_spec.choose_spec.choose) g (λd=>(f d).choose_spec.choose_spec.choose_spec.1) (λd=>(f d).choose_spec.choose_spec.choose_spec.2.1) λd=>(f d).choose_spec.choose_spec.choose_spec.2.2
 unfold sB;rw[dif_pos i]
 grind
def K9(g:Gr)(w:Wd):Nat->Gr×Wd
 | 0=>(g,w)
 | j+1=>match bF P a (K9 g w j).1 ((K9 g w j).2.at (sB P a D Stop (K9 g w j).1 (K9 g w j).2)) with
  | .go b c _=>(b,c)
  | _=>K9 g w j
def xL(g:Gr)(w:Wd)(j:Nat):Nat :=
 (bF P a (K9 P a D Stop g w j).1 ((K9 P a D Stop g w j).2.at (sB P a D Stop (K9 P a D Stop g w j).1 (K9 P a D Stop g w j).2))).wd - sB P a D Stop (K9 P a D Stop g w j).1 (K9 P a D Stop g w j).2
def places(g:Gr)(w:Wd):Nat->Nat
 | 0=>0
 | j+1=>places g w j+xL P a D Stop g w j
end chase
theorem KF(R:pU P S meths st)(h0:qy P S meths st E){k k0:List bh}(u':∀id,fI id k0=Q)(hk:k0=[]->k=[])(x':k0≠[]->k0=[.code (.refuse "")]){base:List Fm'}(hs:∀u:Nat,sft u≠0->∃c t,i.heap[u]?=J (.cells c t (0,0)))(hc:Clear i)(b:Bool){F:Fm'->Wd->Prop}(y':∀v,Lk sft v i->∃n p s,runN P n (rG (G (E.app k0) [Y6]) v)=.next (rG (G p [Y6]) s)/\F p s) :
  l6 P b (DL st sft) (λg w=>∃p v,g=G (p.app k) base/\Lk sft v w/\F (p.app k0) v/\qy P S meths st p) (G (E.app k) base) i:=by
 refine cL λn'=>?_;generalize O':(λg w=>∃p v,g=G (p.app k) base/\Lk sft v w/\F (p.app k0) v/\qy P S meths st p)=Stop at n';have z':∀g w,(∃p v,g=G (p.app k) base/\Lk sft v w/\F (p.app k0) v/\qy P S meths st p)->Stop g w:=λg w h=>by grind
 have A':∀j,places P b (DL st sft) Stop (G (E.app k) base) i j<=places P b (DL st sft) Stop (G (E.app k) base) i (j+1):=λj=>Nat.le_add_right _ _;generalize B':FB (places P b (DL st sft) Stop (G (E.app k) base) i) (λj u q=>(K9 P b (DL st sft) Stop (G (E.app k) base) i j).2.tape (sB P b (DL st sft) Stop (K9 P b (DL st sft) Stop (G (E.app k) base) i j).1 (K9 P b (DL st sft) Stop (G (E.app k) base) i j).2+u) q)=H;have C':∀j u q,u<xL P b (DL st sft) Stop (G (E.app k) base) i j->H (places P b (DL st sft) Stop (G (E.app k) base) i j+u) q=(K9 P b (DL st sft) Stop (G (E.app k) base) i j).2.tape (sB P b (DL st sft) Stop (K9 P b (DL st sft) Stop (G (E.app k) base) i j).1 (K9 P b (DL st sft) Stop (G (E.app k) base) i j).2+u) q:=λj u q hi=>by
  rw[←B'];exact c4l _ _ A' (by show _<_+_;omega) q
 let⟨n,L,N,hn,hF⟩:=y' (rU sft i H) (Dq hs hc H);have D':∀(r j:Nat) (p:Fm') (A:List Fm') (v:Wd),(K9 P b (DL st sft) Stop (G (E.app k) base) i j).1=real p A k base->Ig P S meths st p A->Lk sft v (K9 P b (DL st sft) Stop (G (E.app k) base) i j).2->v.tape=H ->
   v.drawn=places P b (DL st sft) Stop (G (E.app k) base) i j->¬l6 P b (DL st sft) Stop (K9 P b (DL st sft) Stop (G (E.app k) base) i j).1 (K9 P b (DL st sft) Stop (G (E.app k) base) i j).2 ->
   runN P r (rG (real p A k0 [Y6]) v)=.next (rG (G L [Y6]) N)->False:=by
  intro r
  induction r with
  | zero =>
   intro j p A v T hO hl _ _ hM I;have e:=dX I;have e1:(rG (real p A k0 [Y6]) v).gs=(rG (G L [Y6]) N).gs:=by rw[e]
   have e2:(rG (real p A k0 [Y6]) v).world=(rG (G L [Y6]) N).world:=by rw[e]
   have e3:v=N:=e2
   cases A with
   | nil =>
    have e4:p.app k0=L:=by
     have:=congrArg (λa=>(a[0]?).map (·.frame)) e1;simpa[rG,lone,real,G] using this
    subst e4;refine hM (.stop ?_);exact z' _ _ ⟨p,v,T,hl,by rw[e3];exact hF,hO.top⟩
   | cons c l =>
    have:=congrArg (λa=>(a[0]?).map (·.callers.length)) e1
    cases l with
    | nil=>simp[rG,lone,real,G,tl]at this
    | cons d l =>
     have E':∀(d:Fm') (l:List Fm'),0<(tl (d::l) k0 [Y6]).length:=λd l=>by cases l<;>simp[tl]
     have K:=E' d l;simp[rG,lone,real,G,tl]at this;simp[this]at K
  | succ r ih =>
   intro j p A v T hO hl ht hd hM I;let⟨m1,y,l'⟩:=NW I;let⟨Q',R',m'⟩:=MV p A k0 [Y6]
   by_cases hR:OC p A k k0
   .
    obtain⟨rfl,hR⟩:=hR
    by_cases M:p.mode≠.run
    .have F':Lk (λ_=>0) v v:=⟨λu=>by
      rw[hl.heap u];generalize (K9 P b (DL st sft) Stop (G (E.app k) base) i j).2.heap[u]?=z
      cases z with
      | none=>rfl
      | some o=>simp[YN],λ_ h=>absurd Z h,mX,Z,Z⟩
     have G':=Es (P:=P) (st:=st) (sft:=λ_=>0) (fr:=p.app k0) (c:=Y6) (c':=Y6) (cs:=[]) (cs':=[]) (v:=v) (w:=v) (main:=true) (main':=true) (N:=(bF P true (G (p.app k0) [Y6]) v).wd) (hO.top.leaves.app k0) (by cases p;exact M) F' (λ_ _ _=>rfl) Za;have o':∀(g':Gr) (C:Fm') (s:Wd),g'=G C []->(∃o p' B,bF P true g' s=.ended o p' B)->runN P r (rG g' s)=.next (rG (G L [Y6]) N)->False:=by
      intro g' C s q' ⟨o,p',B,X⟩ I
      cases r with
      | zero =>
       have:=congrArg (λm=>(m.gs[0]?).map (·.callers.length)) (dX I);subst q';simp[rG,lone,G]at this
      | succ r =>
       let⟨m2,K,_⟩:=NW I;rw[Dt q' X]at K;cases K
     rcases G' with⟨o,s,B,h⟩|⟨s,w',B,D,⟨x,h1,_⟩|⟨ch,h1,_⟩⟩
     .rw[show real p [] k0 [Y6]=G (p.app k0) [Y6] from Z,Dt Z h]at y;cases y
     .rw[show real p [] k0 [Y6]=G (p.app k0) [Y6] from Z,Ir Z Z h1]at y;cases dX y;exact o' _ _ _ Z (Qh x s) l'
     .rw[show real p [] k0 [Y6]=G (p.app k0) [Y6] from Z,Ir Z Z h1]at y;cases dX y;exact o' _ _ _ Z (SD ch s) l'
    .let⟨r',H'⟩:=hR.resolve_left M;have I':k0≠[]:=λe=>H' ⟨hk e,e⟩;have J':=x' I';have s':p.mode=.run:=cL M;have X:∃o s B,bF P true (real p [] k0 [Y6]) v=.ended o s B:=by
      rw[J'];let⟨f,U',V',W',X',Y',Z'⟩:=p;dsimp only at s' r';subst s' r';exact⟨_,_,_,Z⟩
     let⟨o,s,B,X⟩:=X;rw[Dt m' X]at y;cases y
   .have hN:(bF P b (real p A k base) ((K9 P b (DL st sft) Stop (G (E.app k) base) i j).2.at (sB P b (DL st sft) Stop (K9 P b (DL st sft) Stop (G (E.app k) base) i j).1 (K9 P b (DL st sft) Stop (G (E.app k) base) i j).2))).wd<=((K9 P b (DL st sft) Stop (G (E.app k) base) i j).2.at (sB P b (DL st sft) Stop (K9 P b (DL st sft) Stop (G (E.app k) base) i j).1 (K9 P b (DL st sft) Stop (G (E.app k) base) i j).2)).drawn+xL P b (DL st sft) Stop (G (E.app k) base) i j:=by
     rw[←T];show _<=sB P b (DL st sft) Stop _ _+(_ - sB P b (DL st sft) Stop _ _);omega
    rcases VD (base0:=[Y6]) (main:=b) (main':=true) R hO u' hR (hl.at _) (N:=xL P b (DL st sft) Stop (G (E.app k) base) i j) (λu q hi=>by rw[ht,hd];exact C' j u q hi) hN with⟨o,s,B,h⟩|⟨C,i',s,w',B,h1,K,D,K'⟩
    .rw[Dt m' h]at y;cases y
    .let⟨fr2,cs2,L'⟩:=MV C i' k0 [Y6];rw[Ir m' L' h1]at y;cases dX y;have M':(K9 P b (DL st sft) Stop (G (E.app k) base) i j).1.status=.running:=by rw[T];exact Wo
     have j':=K;rw[←T]at j';have t':K9 P b (DL st sft) Stop (G (E.app k) base) i (j+1)=(real C i' k base,w'):=by simp only[K9,j']
     let⟨c,k'⟩:=D.drew;have N':=c0A P b (DL st sft) Stop M' hM;have hnm:¬l6 P b (DL st sft) Stop (real C i' k base) w':=λM=>N' ⟨_,_,_,j',⟨⟨D.kept.same,D.kept.size,D.kept.new⟩,D.off,k'.all⟩,M⟩;refine ih (j+1) C i' s (by rw[t']) K' (by rw[t'];exact D.lk) (k'.tv.trans ht) ?_ (by grind) l';show s.drawn=places P b (DL st sft) Stop (G (E.app k) base) i j+xL P b (DL st sft) Stop (G (E.app k) base) i j;have:xL P b (DL st sft) Stop (G (E.app k) base) i j=c:=by
      unfold xL;rw[j'];show w'.drawn - _=c;rw[k'.dw];show sB P b (DL st sft) Stop _ _+c - sB P b (DL st sft) Stop _ _=c;omega
     rw[k'.dv,hd,this]
 exact D' n 0 E [] (rU sft i H) Z ⟨h0,λc hc=>by cases hc⟩ (Dq hs hc H) Z Z n' hn
open Go.Conc (G)
def qe(P:Pg):gi f->Prop
 | .pure _=>True
 | .load _ _ k=>∀v,qe P (k v)
 | .store _ _ _ k=>qe P k
 | .new _ k=>∀r,qe P (k r)
 | .shape _ k=>∀s,qe P (k s)
 | .freeze _ _ k=>qe P k
 | .frozen _ k=>∀b,qe P (k b)
 | .getObj _ k=>∀o,qe P (k o)
 | .setObj _ _ k=>qe P k
 | .choose _ _=>False
 | .sys _ _=>False
 | .program k=>qe P (k P)
 | .mark _ k=>qe P k
 | .halt _=>True
theorem ur{e:gi f}{i:f->gi h}:qe P e->(∀a,qe P (i a))->qe P (e >>= i):=by
 intro g j;show qe P (e.bind i)
 induction e with
 | pure a=>exact j a
 | load m a k d=>exact λv=>d v (g v)
 | store m a v k d=>exact d g
 | new o k d=>exact λr=>d r (g r)
 | shape r k d=>exact λs=>d s (g s)
 | freeze a n k d=>exact d g
 | frozen a k d=>exact λb=>d b (g b)
 | getObj r k d=>exact λo=>d o (g o)
 | setObj r o k d=>exact d g
 | choose q k d=>exact g.elim
 | sys c k d=>exact g.elim
 | program k d=>exact d P g
 | mark m k d=>exact d g
 | halt x=>trivial
theorem S6(p:Pg)(e:gi f)(W:Prop){j:f->Prop}:∀(w:Wd) (i:Array dn),G7 p W j e->qe p e->Clear w->(e.runT p w i).1.world.drawn=w.drawn:=by
  induction e with
  | pure a=>intro w i _ _ _;rfl
  | load m a k b =>
    intro w i h d g;simp only[aM];split
    . exact b _ _ _ (h _) (d _) g
    . split
      . exact b _ _ _ (h _) (d _) g
      . rfl
  | store m a x k b =>
    intro w i h d g;cases x<;>simp only[aM]<;>first
      | rfl
      | (split
         . split
           . rfl
           . exact b (w.setCell _ _) _ h.2 d g
         . split
           . rename_i l t s
             rw[←MY s];exact b l _ h.2 d g
           . rfl)
  | new o k b=>intro w i h d g;simp only[aM];exact b _ { w with heap:=w.heap.push o } _ (h.2 _) (d _) g
  | shape r k b=>intro w i h d g;simp only[aM];exact b _ _ _ (h _) (d _) g
  | freeze a n k b=>intro w i h;exact h.elim
  | frozen a k b=>intro w i h d g;simp only[aM];exact b _ _ _ (yP (h _)) (d _) g
  | getObj r k b =>
    intro w i h d g;simp only[aM];split
    . rfl
    . exact b _ _ _ (h.1 _) (d _) g
    . rfl
  | setObj r o k b=>intro w i h;exact h.elim
  | choose q k b=>intro w i h d;exact d.elim
  | sys c k b=>intro w i h;exact h.elim
  | program k b=>intro w i h d g;simp only[aM];exact b _ _ _ h d g
  | mark m k b=>intro w i h d g;simp only[aM];exact b _ _ h.2.2 d g
  | halt x=>intro w i _ _ _;rfl
theorem ND(b:f->gi h)(c:∀a,qe P (b a)):∀l:List f,qe P (l.mapM b)
 | []=>by simp only[iQ];exact trivial
 | a::l=>by
  simp only[fM];exact ur (c a) λ_=>ur (ND b c l) λ_=>trivial
theorem VS{b:f->gi h}(c:∀a,qe P (b a)){d:Array f}:qe P (d.mapM b):=by
 rw[jS];exact ur (ND b c _) λ_=>trivial
theorem b3d:qe P (typeInfo n):=by
 show qe P ((match P.info? n with|some d=>pure d|none=>stuck "no such type"):gi ig);split<;>exact trivial
theorem WV:qe P (underlying n):=by
 show qe P ((match P.underlying n with|some d=>pure d|none=>stuck "no such type"):gi TypeDesc);split<;>exact trivial
theorem a5X:∀(i:Nat) (b:Array Vu),qe P (loadCellsFrom x i a b):=by
 induction a with
 | zero=>exact λ_ _=>trivial
 | succ a c=>exact λi b v=>c _ _
theorem b4Q:qe P (loadVar n x):=by
 unfold loadVar;refine ur ?_ λb=>?_
 .unfold isAgg;refine ur (WV) λu=>?_;split<;>exact trivial
 .split
  .exact ur (ur (b3d) λ_=>trivial) λa=>ur (a5X _ _) λ_=>trivial
  .exact λ_=>trivial
theorem VK(a:Func)(b:Array Vu):qe P (de a b):=by
 unfold de;refine ur (VS λr=>?_) λ_=>trivial;split
 .exact trivial
 .refine ur ?_ λ_=>b4Q;unfold asAddr;split<;>exact trivial
structure Fit (sft:Nat->Nat) (w:Wd):Prop where
 soft:∀i:Nat,sft i≠0->∃c t,w.heap[i]?=J (.cells c t (0,0))
 clear:Clear w
theorem Lk.fit{v w:Wd}(h:Lk sft v w):Fit sft w:=⟨h.soft,h.nz⟩
theorem Ox(j:yk P E)(b:E.mode=.returning){a:Func}(d:P.funcs[E.fn]?=J a)(m:Bool)(c:Fm')(e:List Fm')(u:Wd):bF P m (G E (c::e)) u =
  eY (seen P E.fn ((de a E.tmps).runT P u #[]).2) (match ((de a E.tmps).runT P u #[]).1 with
   | .ok v w=>.go (G (c.finish v) e) w
   | .halt (.stuck s) w=>.ended (.stuck s (ji P E)) w
   | .halt _ w=>.ended (.stuck "return: the result variables cannot be read" (ji P E)) w):=by
 let⟨f,k,l,n,o,p,q⟩:=E;let⟨g,h,i,_⟩:=j;dsimp only at g h i b d;subst g h i b;simp only[bF,G,unwind,d,doReturn]
 grind
theorem xU(R:pU P S meths st){f:bC}(B:S f=true){w0:Wd}(L:Fit sft w0)(t:Bool){Q:Vu->Wd->Prop}(h:∀v,Lk sft v w0->aF P f K v (λe C=>match e with|.returned x=>Q x C|_=>False))(c:Fm')(k:List Fm') :
  l6 P t (DL st sft) (λg w=>∃x v,g=G (c.finish x) k/\Lk sft v w/\Q x v) (G (ay P f K .normal) (c::k)) w0:=by
 have h0:qy P S meths st (ay P f K .normal):=.enter R B K
 have N:=KF (sft:=sft) (k:=[]) (k0:=[]) (base:=c::k) R h0 (λ_=>rfl) (λ_=>rfl) (λe=>absurd Z e) L.soft L.clear t (F:=λj v=>∃x,j.leaving P v (.returned x)/\Q x v) (λv u=>by
  obtain⟨e,s,j,D,hc,g',y⟩:=h v u [Y6]
  cases e with
  | returned x =>
   obtain⟨n,hn⟩:=hc;exact⟨n,j,s,by rw[wL];exact hn,x,y,D⟩
  | panicked ch=>exact D.elim
  | outgrown=>exact D.elim)
 rw[wL]at N;refine N.then λg w ⟨j,v,T,M,⟨x,y,hQ⟩,E⟩=>?_;rw[wL]at T y;subst T;have e':j.mode≠.run:=by rw[y.1];simp
 obtain⟨X,hd,hk,z,B,hr⟩:=y;have A:∀d,∃s p,bF P t (G j (c::k)) (w.at d)=.go (G (c.finish x) k) s p/\DL st sft (w.at d) s p/\Lk sft v s:=by
  intro d;have f':(bF P t (G j (c::k)) (w.at d)).wd<=(w.at d).drawn+0:=by
   have e:bF P t (G j (c::k)) (w.at d)=_:=Ox (P:=P) E.leaves X B t c k (w.at d);rw[e,Bi];have m:=S6 P (de z j.tmps) (st=true) (w.at d) #[] (Il z j.tmps) (VK z j.tmps) M.nz;revert m;generalize (de z j.tmps).runT P (w.at d) #[]=r;intro m;rcases r with⟨r,p⟩
   cases r with
   | ok a b=>exact fF m
   | halt a b=>cases a<;>exact fF m
  have u:∃p,bF P true (G j (c::k)) v=.go (G (c.finish x) k) v p:=by
   have e:=Ox (P:=P) E.leaves X B true c k v;have F:((de z j.tmps).runT P v #[]).1=.ok x v:=by simp_all
   rw[e,F];exact⟨_,Z⟩
  obtain⟨h',u⟩:=u;rcases Es (main':=true) (c':=c) (cs':=k) E.leaves e' (M.at d) (N:=0) (λi q hi=>by omega) f' with⟨o,C,p,h⟩|⟨C,s,p,l,⟨x',m,F⟩|⟨ch,m,F⟩⟩
  .grind
  .rw[u]at m;obtain⟨e1,H,_⟩:=GStep.go.inj m;obtain⟨n,I⟩:=l.drew;refine⟨s,p,?_,⟨⟨l.kept.same,l.kept.size,l.kept.new⟩,l.off,I.all⟩,by rw[H];exact l.lk⟩
   grind
  .rw[u]at m;obtain⟨e1,H,_⟩:=GStep.go.inj m;obtain⟨n,I⟩:=l.drew;refine⟨s,p,?_,⟨⟨l.kept.same,l.kept.size,l.kept.new⟩,l.off,I.all⟩,by rw[H];exact l.lk⟩
   grind
 exact .step (λ_=>G (c.finish x) k) (λd=>(A d).choose) (λd=>(A d).choose_spec.choose) Z (λd=>(A d).choose_spec.choose_spec.1) (λd=>(A d).choose_spec.choose_spec.2.1)
  (λd=>.stop ⟨x,v,Z,(A d).choose_spec.choose_spec.2.2,hQ⟩)
theorem QU(R:pU P S meths st){c:jj}(y:Z6 P S meths st c=true){a:cZ}(z:a.defers=[]){b:Fm'}(A:b.kind=.normal)(B:∃C,P.funcs[b.fn]?=J C){w0:Wd}(r:Fit sft w0)(s:Bool){Q:Exit->cZ->Wd->Prop}(D:∀e a w,Q e a w->e=.normal\/e=.ret)(h:∀v,Lk sft v w0->c.wp P Q a v)(k:List bh)(m:List Fm') :
  l6 P s (DL st sft) (λg w=>∃e d v,Q e d v/\Lk sft v w/\(e=.normal/\g=G (b.at d k) m\/e=.ret/\∃f,g=G { b.at d f with mode:=.returning } m)) (G (b.at a (.code c::k)) m) w0:=by
 have E:qy P S meths st (b.at a [.code c]):=⟨A,Z,z,B,λx o=>by
  rcases ae.1 o with rfl|o
  .exact y
  .cases o⟩
 have F:=KF (sft:=sft) (k:=k) (k0:=[.code (.refuse "")]) (base:=m) R E (λ_=>rfl) (λe=>by cases e) (λ_=>rfl) r.soft r.clear s
  (F:=λi v=>∃e d,Q e d v/\(e=.normal/\i=b.at d [.code (.refuse "")]\/e=.ret/\∃f,i={ b.at d f with mode:=.returning })) (λv H=>by
  let⟨e,d,p,j,t⟩:=h v H b [.code (.refuse "")] [Y6];rcases D e d p j with rfl|rfl
  .let⟨n,q⟩:=t;exact⟨n,b.at d [.code (.refuse "")],p,q,_,d,j,.inl ⟨Z,Z⟩⟩
  .let⟨f,n,q⟩:=t
   exact⟨n,_,p,q,_,d,j,.inr ⟨Z,f,Z⟩⟩)
 refine F.mono (λ_ _ _ h=>h) λg w ⟨i,v,u,I,⟨e,d,j,l⟩,K⟩=>⟨e,d,v,j,I,?_⟩
 rcases l with⟨rfl,l⟩|⟨rfl,f,l⟩
 .obtain rfl:i=b.at d []:=b7c (k:=[.code (.refuse "")]) l;exact .inl ⟨Z,u⟩
 .refine .inr ⟨Z,i.todo++k,?_⟩;rw[u];cases i
  simp only[Frame.app,Frame.at,mM]at l ⊢
  grind
end
section
open Go.Conc
variable{P:Pg}{E:Bool}{A:Nat->Nat}{K v:Wd->Prop}{j t:Loc->Prop}{B u:Nat}{Mem:Nat->Prop}{D:Nat->Option eZ}{h:Nat}
theorem OA(b:∀l,j l->t l)(c:B<=u){e:dn}(h:EvC j B e):EvC t u e:=by
 let⟨a,d,f,g⟩:=h;exact⟨a,d,b _ f,Zg g c⟩
theorem Kr(b:∀w,v w->K w)(c:∀l,j l->t l)(d:B<=u){s:eZ}{g a:Gr}(h:AtIn P p K j B s g a):AtIn P p v t u s g a:=by
 let⟨f,i,k,m,n,o,q,r⟩:=h;exact⟨f,i,k,m,n,o,λe x=>OA c d (q e x),λw y=>r w (b w y)⟩
theorem Pe(i:∀w,v w->K w)(m:∀l,j l->t l)(o:B<=u){Stop q:Gr->Wd->Prop}(k:∀g w,Stop g w->q g w):∀ {n:Nat} {g:Gr} {w:Wd},Goes P p (RK K) (DS j B) Stop n g w->Goes P p (RK v) (DS t u) q n g w
 | 0,_,_,h=>λd f=>k _ _ (h d (i _ f))
 | n+1,g,w,h=>by
  rcases h with h|⟨r,s⟩
  .exact .inl λd f=>k _ _ (h d (i _ f))
  .refine .inr ⟨r,λd f=>?_⟩;have:=s d (i _ f);revert this
   cases bF P p g d with
   | go y z C=>exact λ⟨⟨a,b⟩,c⟩=>⟨⟨a,λe x=>OA m o (b e x)⟩,Pe i m o k c⟩
   | _=>exact id
theorem c2v(b:∀w,v w->K w)(c:∀l,j l->t l)(d:B<=u){s:eZ}{g:Gr}(h:Sits P p K j B s a g):Sits P p v t u s a g:=by
 rcases h with⟨k,w,e,f⟩|⟨e,m,i,f,n⟩
 .exact .inl ⟨k,w,e,Pe b c d (λg _ ⟨i,h⟩=>⟨i,Kr b c d h⟩) f⟩
 .exact .inr ⟨e,m,i,f,Kr b c d n⟩
theorem Jq(c:∀w,v w->K w)(d:∀l,j l->t l)(e:B<=u){T:lT}{g:Gr}{o:Option eZ}(h:Idle P K j B T a b g o):Idle P v t u T a b g o:=by
 cases o with
 | none=>exact h
 | some s=>exact c2v c d e h
theorem KR{T:lT}{gs:Array Gr}(C:Ring P K j B Mem D h T gs i W)(I:∀i,v i->K i)(L:v i)(H:∀l,j l->t l)(N:∀l,t l->j l\/∃a:cx,l=.cell a/\B<=a.block)(q:B<=u):Ring P v t u Mem D h T gs i W:=by
 have R:PastG t Mem (λg=>g≠h/\(D g).isSome) u (Knows T h) T:=by
  have p:=C.past;refine⟨p.clean,λd a n S=>(p.known d a n S).imp id λ⟨x,y,z⟩=>⟨x,H _ y,z⟩,λd a n G r g w=>?_,p.hears,λM X=>MemAct.low_mono q (p.seen M X)⟩;rcases N _ r with r|⟨b,o,b'⟩
  .exact p.wrote d a n G r g w
  .
   let⟨x,hx,f⟩:=touch_of n;have k:=p.seen x (lC hx);exfalso
   cases F:x.act with
   | access e =>
    rw[F]at k f;simp only[jO,bm]at f;subst f;simp only[MemAct.low]at k;simp only at o;rw[o]at k;have:b.block<B:=k;omega
   | mark m =>
    rw[F]at k f;cases m<;>simp only[jO,bm,reduceCtorEq]at f
    all_goals
     subst f;simp only[Loc.cell.injEq]at o;subst o;have:_<B:=k;omega
   | _=>rw[F]at f;simp[jO]at f
 exact⟨λd g hi w=>Jq I H q (C.idle d g hi w),C.chans,C.wf,C.live,C.inj,C.above,λd s e=>⟨(C.mem d s e).1,λc hc=>Zg ((C.mem d s e).2 c hc) q⟩,C.nomem,C.lo,R,L⟩
def B2(A:Nat->Nat)(j:Loc->Prop):Prop:=∀l,j l->∃a:cx,l=.cell a/\a.off<A a.block
theorem RU{T:lT}{gs:Array Gr}(C:Ring P K j B Mem D h T gs i W)(I:∀i k R,DL E A i k R->K i->K k)(L:E=true->B2 A j)(w:k.heap.size<=B)(p:DL E A i k R):DH K j B D i k R:=by
 refine⟨I i k R p,λN s c S G=>?_,λe M=>?_⟩
 .let⟨a',b',y⟩:=C.chans N s c (λz=>z) S G;let⟨o',o,q⟩:=p.1.same c _ y;rw[o,y];exact congrArg J q
 .have d:=p.2.1 e M;let⟨X,n,l⟩:=e;unfold um at d
  cases X with
  | cell a =>
   dsimp only at d;refine⟨λx g F=>?_,by simp,by simp,Zg d.1 w⟩;have H:x=⟨.cell a,n,if l then .atomic else .plain⟩:=by
    have:MemAct.ofEvent ⟨.cell a,n,l⟩=.access ⟨.cell a,n,l⟩:=by cases n<;>cases l<;>rfl
    rw[this]at g;exact(Ze g).symm
   subst H
   cases n with
   | false=>rfl
   | true =>
    let⟨o,q⟩:=d.2 Z;let⟨b,hb,c'⟩:=L q _ F
    grind
  | obj r =>
   dsimp only at d;obtain⟨o,rfl⟩:=d;refine⟨λx g F=>?_,by simp,by simp,Zg o w⟩;have H:x=⟨.obj r,false,if l then .atomic else .plain⟩:=by
    have:MemAct.ofEvent ⟨.obj r,false,l⟩=.access ⟨.obj r,false,l⟩:=by cases l<;>rfl
    rw[this]at g;exact(Ze g).symm
   grind
  | output=>exact d.elim
  | goroutines=>exact d.elim
  | mark m =>
   dsimp only at d;rcases d with rfl|⟨f,rfl⟩
   .exact⟨λx g=>(by cases g),by simp,by simp,mX⟩
   .exact⟨λx g=>(by cases g),by simp,by simp,mX⟩
def ta(w a:Wd):Prop:=a.os=w.os/\a.output=w.output/\a.tape=w.tape
theorem ta.trans(h:ta i k)(a:ta k l):ta i l:=⟨a.1.trans h.1,a.2.1.trans h.2.1,a.2.2.trans h.2.2⟩
theorem DL.calm(h:DL E A i k R):ta i k:=⟨congrArg (λx=>x.2.1) h.2.2,congrArg (λx=>x.2.2) h.2.2,congrArg (λx=>x.1) h.2.2⟩
theorem UR(z:∀i d,K i->K (i.at d))(F:∀i b p,DL E A i b p->K i->K b)(H:E=true->B2 A j){Stop:Gr->Wd->Prop}{a:Gr}(I:l6 P (h==0) (DL E A) Stop a i) :
  ∀ {gs:Array Gr} {T:lT} {q:Nat->Nat} {sl:Option (Nat×Nat)},gs[h]?=J a->Ring P K j i.heap.size Mem D h T gs i q ->
  ∃(N:Nat) (e:Array Gr) (f:Gr) (b:Wd) (l:Option (Nat×Nat)) (k:lT) (m:Nat->Nat),
   runNT P N (crowd gs i sl) T=(.next (crowd e b l),k)/\e.size=gs.size/\e[h]?=J f/\Stop f b/\ta i b/\Ring P K j b.heap.size Mem D h k e b m:=by
 induction I with
 | stop L=>intro gs T q sl n C;exact⟨0,gs,_,_,sl,T,q,Z,Z,n,L,⟨Z,Z,Z⟩,C⟩
 | @step g i g' b p hrun hst hD _ ih =>
  intro gs T q sl n C;let⟨N,R,d,c,h',r,S,W,G,M,i',s,w⟩:=picked (sl:=sl) z n hrun C;have x:i.heap.size<=(b c).heap.size:=(hD c).1.size;have y:Ring P K j (b c).heap.size Mem D h S R (i.at c) W:=w.mono x λX g hi hg=>Jq (λ_ h=>h) (λ_ h=>h) x (w.idle X g hi hg);let⟨C3,b'⟩:=y.own (a':=g' c) s (RU y F H (af _) (hD c));have c':=runT_crowd_go (sl:=r) s (hst c);let⟨N2,e,f,w2,l,k,m,e',j',f',hS,o,C'⟩:=ih c (sl:=r) b' C3;exact⟨N+1+N2,e,f,w2,l,k,m,runNT_then (runNT_succ_of G (M.trans c')) e',by grind,f',hS,⟨o.1.trans (DL.calm (hD c)).1,o.2.1.trans (DL.calm (hD c)).2.1,o.2.2.trans (DL.calm (hD c)).2.2⟩,C'⟩
end
section
open Go.Conc
structure ng where
 gid:Nat
 bo:Nat
 tu:Nat
 to:Nat
 en:Nat
def KO(l:List ng)(w:Wd):Prop:=∀o∈l,∃c t,w.heap[o.bo]?=J (.cells c t (0,0))/\c[0]?=J (.chan (J o.tu))/\c[1]?=J (.chan (J o.to))/\c[2]?=J (.chan (J o.en))
def SO(l:List ng)(x:Loc):Prop:=∃o∈l,∃i,i<3/\x=.cell (O o.bo i Q)
open Classical in
def ep(l:List ng)(b:Nat):Nat:=if ∃o∈l,o.bo=b then 3 else 0
theorem Q2{l:List ng}{o:ng}(h:o∈l):ep l o.bo=3:=by unfold ep;rw[mZ ⟨o,h,Z⟩]
theorem GJ{l:List ng}(h:ep l a≠0):∃o∈l,o.bo=a:=by
 unfold ep at h
 grind
theorem U7{l:List ng}(h:∀o∈l,o.bo≠a):ep l a=0:=by
 unfold ep
 grind
theorem c9k(l:List ng):B2 (ep l) (SO l):=by
 rintro x ⟨o,a,i,b,rfl⟩;exact⟨_,Z,by rw[Q2 a];exact b⟩
theorem KO.at{l:List ng}(w:Wd)(d:Nat)(h:KO l w):KO l (w.at d):=h
theorem KO.dl{l:List ng}(w a:Wd)(d:Array dn)(e:DL p (ep l) w a d)(h:KO l w):KO l a:=by
 intro o b;let⟨c,t,f,j,k,m⟩:=h o b;let⟨n,q,g⟩:=e.1.same _ _ f;obtain⟨r,rfl,_,i⟩:=g;rw[Q2 b]at i
 grind
theorem KO.chan{l:List ng}(d:∀o∈l,o.bo≠a)(f:Nat)(g:Array Vu)(j:Bool)(k b:Nat)(m:Bool)(h:KO l i):KO l (i.setChan a f g j k b m):=by
 intro o c;let⟨x,t,n,p⟩:=h o c;exact⟨x,t,by rw[heap_setChan_ne _ _ _ _ _ _ _ λe=>d o c e.symm];exact n,p⟩
theorem KO.lt{l:List ng}(h:KO l i){o:ng}(a:o∈l):o.bo<i.heap.size:=by
 let⟨c,t,b,_⟩:=h o a
 grind
variable{st:Bool}{P:Pg}{p:gW->lT->Prop}{l:List ng}{f:Nat->Option eZ}{n h:Nat}
def sI(P:Pg)(p:gW->lT->Prop)(m:gW)(T:lT):Prop:=∃N a b,runNT P N m T=(.next a,b)/\p a b/\ta m.world a.world
theorem sI.back{m b:gW}{T c:lT}(h:runNT P a m T=(.next b,c))(d:ta m.world b.world)(e:sI P p b c):sI P p m T:=by
 let⟨g,i,j,k,o,q⟩:=e;exact⟨a+g,i,j,runNT_then h k,o,d.trans q⟩
def SP(l:List ng)(a:Nat->Prop)(x:Loc):Prop:=SO l x\/∃b i,a b/\i<3/\x=.cell (O b i Q)
def no:Nat->Prop:=λ_=>False
theorem UW(l:List ng):B2 (ep l) (SP l no):=by
 rintro x (h|⟨_,_,h,_⟩)
 .exact c9k l x h
 .exact h.elim
def TU(P:Pg)(l:List ng)(a:Nat->Prop)(f:Nat->Option eZ)(n h:Nat)(g:Gr)(w:Wd)(m:gW)(T:lT):Prop :=
 ∃gs b q Mem,m=crowd gs w b/\gs.size=n/\gs[h]?=J g/\Mem h/\(∀i s c,f i=J s->s.has c->∀o∈l,o.bo≠c)/\Ring P (KO l) (SP l a) w.heap.size Mem f h T gs w q
def XP(P:Pg)(p:gW->lT->Prop)(l:List ng)(a:Nat->Prop)(f:Nat->Option eZ)(n h:Nat)(g:Gr)(w:Wd):Prop:=∀m T,TU P l a f n h g w m T->sI P p m T
abbrev X(P:Pg)(p:gW->lT->Prop)(l:List ng)(f:Nat->Option eZ)(n h:Nat)(g:Gr)(w:Wd):Prop:=XP P p l no f n h g w
theorem Mi{a:Nat->Prop}(c:st=true->a=no)(g:l6 P (h==0) (DL st (ep l)) (XP P p l a f n h) t i):XP P p l a f n h t i:=by
 rintro m T ⟨gs,j,q,Mem,rfl,hn,hg,hM,hdis,C⟩;let⟨N,k,B,b,o,D,r,s,u,v,w,x,y⟩:=UR (sl:=j) (λi d=>KO.at i d) (λi b z A=>KO.dl i b z A) (λe=>by rw[c e];exact UW l) g hg C;exact(w _ _ ⟨k,o,r,Mem,Z,u.trans hn,v,hM,hdis,y⟩).back s x
theorem u0(a:l6 P (h==0) (DL st (ep l)) (X P p l f n h) t i):X P p l f n h t i:=Mi (λ_=>rfl) a
theorem LQ{a₂:Gr}{j c kk nh:Nat}{s sh:eZ}{v z z':Vu}(x:j≠h)(y:j<n)(w:f j=J s)(A:s.cases[kk]?=J (rcase c z))(D:t.status=.running)(E:∀d,bF P (h==0) t (i.at d)=.comm a₂ #[scase c v z'] true .send (i.at d) #[])(F:f h=J sh)(H:∀B,(∀o∈l,o.bo<B)->Sits P (h==0) (KO l) (SP l no) B sh nh (bG a₂ Ud))(I:∀r d a k,s.home r->i.heap[c]?=J (.chan a #[] false k k false)->X P p l f n j (bG r (km s.cases s.shape kk v true)) ((i.at d).setChan c a #[] false (k+1) (k+1) false)):X P p l f n h t i:=by
 rintro m T ⟨gs,K,q,Mem,rfl,hn,hg,hM,hdis,C⟩;obtain⟨N,m',L,R,S,r,d,k,a,W,G,rfl,M,a',b',u,C'⟩:=give (sl:=K) (λi d=>KO.at i d) (λi c' s c a e' cl t b tm hi u hK=>KO.chan (hdis c' s c hi u) a e' cl t b tm hK) x (hn▸y) w A hM hg D E (λe he=>by simp at he) C
  (Inb':=f) (λ_ _=>rfl) (.inl Z) (nh:=nh) λL _=>by rw[F];exact H _ λo ho=>C.keep.lt ho
 refine(I r d a k b' u _ _ ⟨S,W,G,λg=>Mem g/\(f g≠Q\/g=j),Z,M.trans hn,a',⟨(C.mem j s w).1,.inr Z⟩,hdis,?_⟩).back R ⟨Z,Z,Z⟩;have e:((i.at d).setChan c a #[] false (k+1) (k+1) false).heap.size=i.heap.size:=by simp[dh,World.at]
 rw[e];exact C'
theorem Ui{j kk:Nat}{z:Vu}{s D:eZ}(y:j≠h)(F:j<n)(E:f j=J s)(H:s.cases[kk]?=J (rcase b z))(I:t.status=.running)(K:mayWake P t=true)(L:u.status=.running)(A:i.heap[b]?=J (.chan c #[] false a a false))(R:∀k,bF P (h==0) t (i.at k)=.go u ((i.at k).setChan b c #[] true a a false) (gU b))(S:f h=J D)(W:∀B,(∀o∈l,o.bo<B)->Sits P (h==0) (KO l) (SP l no) B D d u)(G:∀v k,s.home v->X P p l (ai f j Q) n j (bG v (km s.cases s.shape kk z false)) ((i.at k).setChan b c #[] true a a false)):X P p l f n h t i:=by
 rintro m T ⟨gs,M,q,Mem,rfl,hn,hg,hM,hdis,C⟩;let⟨N,a',v,k,b',T',q',hr,g',h',i',C'⟩:=give_close (sl:=M) (λi k=>KO.at i k) (λi w s b c j' cl t d' tm r A hK=>KO.chan (hdis w s b r A) c j' cl t d' tm hK) y (hn▸F) E H hM hg I K L A R C
  (Inb':=ai f j Q) (λx _ hx=>az f _ hx) (.inl (az f _ (aA y))) (aH f j _) (nh:=d) λT' _=>by rw[az f _ (aA y),S];exact W _ λo ho=>C.keep.lt ho
 refine(G v k i' _ _ ⟨a',b',q',λg=>Mem g/\(ai f j Q g≠Q\/g=j),Z,g'.trans hn,h',⟨(C.mem j s E).1,.inr Z⟩,λw s' c' r=>?_,?_⟩).back hr ⟨Z,Z,Z⟩
 rotate_left
 .have e:((i.at k).setChan b c #[] true a a false).heap.size=i.heap.size:=by simp[dh,World.at]
  rw[e];exact C'
 .by_cases e:w=j
  .subst e;rw[aH]at r;cases r
  .rw[az f _ e]at r;exact hdis w s' c' r
theorem sN{j c kk nh:Nat}{z:Vu}{s:eZ}(B:0<h)(w:j≠h)(D:j<n)(y:f j=J s)(E:s.cases[kk]?=J (rcase c z))(F:t.status=.running)(H:mayWake P t=true)(I:u.status=.running)(v:i.heap[c]?=J (.chan b #[] false a a false))(K:∀d,bF P (h==0) t (i.at d)=.go u ((i.at d).setChan c b #[] true a a false) (gU c))(j':QuitsD P nh 0 u)(L:∀r d,s.home r->X P p l (ai (ai f j Q) h Q) n j (bG r (km s.cases s.shape kk z false)) ((i.at d).setChan c b #[] true a a false)):X P p l f n h t i:=by
 rintro m T ⟨gs,R,q,Mem,rfl,hn,hg,hM,hdis,C⟩;let⟨N,S,r,d,W,G,M,hr,b',d',e',C'⟩:=give_close (sl:=R) (λi d=>KO.at i d) (λi o s c b g' cl t a' tm k v hK=>KO.chan (hdis o s c k v) b g' cl t a' tm hK) w (hn▸D) y E hM hg F H I v K C
  (Inb':=ai (ai f j Q) h Q) (λx i' hx=>by rw[az _ _ i',az f _ hx]) (.inr (aH _ h _)) (by rw[az _ _ w,aH]) (nh:=nh) λG hD=>by rw[aH];exact⟨B,by grind⟩
 refine(L r d e' _ _ ⟨S,W,M,λg=>Mem g/\(ai (ai f j Q) h Q g≠Q\/g=j),Z,b'.trans hn,d',⟨(C.mem j s y).1,.inr Z⟩,λo s' c' k=>?_,?_⟩).back hr ⟨Z,Z,Z⟩
 rotate_left
 .have e:((i.at d).setChan c b #[] true a a false).heap.size=i.heap.size:=by simp[dh,World.at]
  rw[e];exact C'
 .by_cases A:o=h
  .subst A;rw[aH]at k;cases k
  .rw[az _ _ A]at k
   by_cases e:o=j
   .subst e;rw[aH]at k;cases k
   .rw[az f _ e]at k;exact hdis o s' c' k
theorem NH(s:eZ)(g:s.Wf)(j:∀a b c,a≠h->f a=J b->b.has c->¬s.has c)(r:∀c,s.has c->∃u k,i.heap[c]?=J (.chan u #[] false k k false))(z:∀c,s.has c->∀o∈l,o.bo≠c)(v:X P p l (ai f h (J s)) n h t i):X P p l f n h t i:=by
 rintro m T ⟨gs,w,q,Mem,rfl,hn,hg,hM,hdis,C⟩;have x:∀c,s.has c->c<i.heap.size:=λc y=>by
  grind
 refine v _ _ ⟨gs,w,q,Mem,Z,hn,hg,hM,λa b c d y=>?_,C.reseat hM s g j r x⟩
 by_cases e:a=h
 .subst e;rw[aH]at d;grind
 .rw[az f _ e]at d;grind
theorem d1n(b:Nat)(d:i.heap.size<=b)(a:XP P p l (·=b) f n h t i):X P p l f n h t i:=by
 rintro m T ⟨gs,c,q,Mem,rfl,hn,hg,hM,hdis,C⟩;refine a _ _ ⟨gs,c,q,Mem,Z,hn,hg,hM,hdis,KR C (λ_ h=>h) C.keep ?_ ?_ (af _)⟩
 .rintro x (h|⟨_,_,h,_⟩)
  .exact .inl h
  .exact h.elim
 .rintro x (h|⟨e,g,rfl,hi,rfl⟩)
  .exact .inl (.inl h)
  grind
theorem d0y(o:ng)(j:KO [o] i)(v:∀d s c,f d=J s->s.has c->o.bo≠c)(k:X P p (o::l) f n h t i):XP P p l (·=o.bo) f n h t i:=by
 rintro m T ⟨gs,r,q,Mem,rfl,hn,hg,hM,hd,C⟩;refine k _ _ ⟨gs,r,q,Mem,Z,hn,hg,hM,λd s c g w e a=>?_,KR C (λi u e a=>u e (ah _ a)) ?_ ?_ ?_ (af _)⟩
 .grind
 .intro e a;rcases ae.1 a with rfl|a
  .exact j _ (ao ..)
  .exact C.keep e a
 .rintro x (⟨e,a,d,g,rfl⟩|⟨b,d,rfl,g,rfl⟩)
  .exact .inl ⟨e,ah _ a,d,g,Z⟩
  .exact .inl ⟨o,ao ..,d,g,Z⟩
 .rintro x (⟨e,a,d,g,rfl⟩|⟨_,_,h,_⟩)
  .rcases ae.1 a with rfl|a
   .exact .inl (.inr ⟨_,d,Z,g,Z⟩)
   .exact .inl (.inl ⟨e,a,d,g,Z⟩)
  .exact h.elim
theorem XS{nc:Nat}(w:t.status=.running)(x:∀d,bF P (h==0) t (i.at d)=.spawn u v (i.at d) #[])(a:eZ)(y:a.Wf)(z:∀b s c,f b=J s->s.has c->¬a.has c)(A:∀c,a.has c->∃D k,i.heap[c]?=J (.chan D #[] false k k false))(j:∀c,a.has c->∀o∈l,o.bo≠c)(E:∀B,(∀o∈l,o.bo<B)->Sits P false (KO l) (SP l no) B a nc v)(F:∀d,X P p l (ai f n (J a)) (n+1) h u (i.at d)):X P p l f n h t i:=by
 rintro m T ⟨gs,H,q,Mem,rfl,hn,hg,hM,hdis,C⟩;subst hn
 let⟨N,I,d,K,T',L,R,S,W,G⟩:=hire (sl:=H) (λi d=>KO.at i d) hM hg w x (λe M=>by simp at M) C a y z A (λc r=>by
  grind) (E _ λo j=>C.keep.lt j)
 refine(F d _ _ ⟨I,K,L,_,Z,S,W,.inl hM,λb s c g r=>?_,G⟩).back R ⟨Z,Z,Z⟩
 by_cases e:b=gs.size
 .subst e;rw[aH]at g;cases Ze g;exact j c r
 .rw[az f _ e]at g;exact hdis b s c g r
end
section
open Go.Conc
variable{P:Pg}{s:Bool}{sft:Nat->Nat}{z:Bool}{Stop:Gr->Wd->Prop}{b:Fm'}{a:cZ}{k:List bh}{A:List Fm'}{w:Wd}{B:Array aL}{i:Nat}{C:List Nat}{o:aL}
def iv(P:Pg)(z:Bool)(s:Bool)(sft:Nat->Nat)(Stop:Gr->Wd->Prop)(g:Gr)(w:Wd):Prop:=∀d,l6 P z (DL s sft) Stop g (w.at d)
theorem Pf(h:iv P z s sft Stop t w):l6 P z (DL s sft) Stop t w:=h w.drawn
theorem Nh{Stop':Gr->Wd->Prop}(h:∀d,l6 P z (DL s sft) Stop' t (w.at d))(f:∀c e,Stop' c e->iv P z s sft Stop c e):iv P z s sft Stop t w :=
 λd=>(h d).then λc e g=>Pf (f c e g)
theorem YB{w:Wd}:DL s sft w w #[]:=⟨.refl _ _,λe c=>by simp at c,Z⟩
theorem rR(f:t.status=.running)(h:∀e,bF P z t e=.go u e #[])(g:iv P z s sft Stop u w):iv P z s sft Stop t w:=λd =>
 .step (λ_=>u) (λc=>w.at c) (λ_=>#[]) f (λc=>h _) (λc=>YB) λc=>g c
theorem Cz(h:iv P z s sft Stop (G (b.at a k) A) w):iv P z s sft Stop (G (b.at a (.code .skip::k)) A) w:=rR Z (λ_=>stepG_skip) h
theorem Ux{id:Nat}(h:iv P z s sft Stop (G (b.at a k) A) w):iv P z s sft Stop (G (b.at a (.inBlock id::k)) A) w:=rR Z (λ_=>stepG_inBlock) h
theorem B5{x y:jj}(h:iv P z s sft Stop (G (b.at a (.code x::.code y::k)) A) w):iv P z s sft Stop (G (b.at a (.code (.seq x y)::k)) A) w:=rR Z (λ_=>stepG_seq) h
theorem KV{c:aS}{x y:jj}{t:Bool}(d:a.eval c=Bo t)(h:iv P z s sft Stop (G (b.at a (.code (if t then x else y)::k)) A) w):iv P z s sft Stop (G (b.at a (.code (.cond c x y)::k)) A) w:=rR Z (λ_=>fN d) h
theorem Ub{id:Nat}{c:jj}(h:iv P z s sft Stop (G (b.at a (.code c::.inBlock id::k)) A) w):iv P z s sft Stop (G (b.at a (.code (.block id c)::k)) A) w:=rR Z (λ_=>stepG_block) h
theorem Qi{c:jj}(h:iv P z s sft Stop (G (b.at a (.code c::.inLoop c::k)) A) w):iv P z s sft Stop (G (b.at a (.code (.loop c)::k)) A) w:=rR Z (λ_=>stepG_loop) h
theorem b7M{c:jj}(h:iv P z s sft Stop (G (b.at a (.code c::.inLoop c::k)) A) w):iv P z s sft Stop (G (b.at a (.inLoop c::k)) A) w:=rR Z (λ_=>stepG_inLoop) h
theorem WD{id:Nat}{c:List bh}(d:fI id k=J c)(h:iv P z s sft Stop (G (b.at a c) A) w):iv P z s sft Stop (G (b.at a (.code (.exit id)::k)) A) w:=rR Z (λ_=>stepG_exit d) h
theorem ux(h:iv P z s sft Stop (G { b.at a (.code .ret::k) with mode:=.returning } A) w):iv P z s sft Stop (G (b.at a (.code .ret::k)) A) w:=rR Z (λ_=>stepG_ret') h
theorem YP(h:iv P z s sft Stop (G { b.at a [] with mode:=.returning } A) w):iv P z s sft Stop (G (b.at a []) A) w:=rR Z (λ_=>stepG_end) h
theorem m8{id:Nat}(h:iv P z s sft Stop (G (b.at a (.inRegion B (aO B.size)::k)) A) w):iv P z s sft Stop (G (b.at a (.code (.region id B false)::k)) A) w:=rR Z (λ_=>stepG_region) h
theorem i8(h:iv P z s sft Stop (G (b.at a k) A) w):iv P z s sft Stop (G (b.at a (.inRegion B []::k)) A) w:=rR Z (λ_=>stepG_region_end) h
theorem G1(c:B[i]?=J o)(d:bM o (fh B a.tmps)=false)(h:iv P z s sft Stop (G (b.at (a.put o.dst Ud) (.inRegion B C::k)) A) w):iv P z s sft Stop (G (b.at a (.inRegion B (i::C)::k)) A) w:=rR Z (λ_=>stepG_unwanted c d) h
theorem yg{f:bC}{d:Func}{c:jj}{e:Array aS}{n:Array Ti}(p:B[i]?=J o)(q:bM o (fh B a.tmps)=true)(r:b.kind≠.early)(g:o.op=.call { callee:=.value (.func f),args:=e,argTypes:=n })(j:P.funcs[f]?=J d)(l:(d.name== "runtime.NumGoroutine")=false)(t:d.body=J c)(h:iv P z s sft Stop (G (ay P f (e.map a.eval) .normal) (b.at a (.inRegion B (i::C)::k)::A)) w):iv P z s sft Stop (G (b.at a (.inRegion B (i::C)::k)) A) w:=by
 refine rR Z (λu=>?_) h;have m:d.body.isNone=false:=by rw[t];rfl
 rw[stepG_enter p q r (run_call_body g j l m)];have:me P b.fn a o u=#[]:=by unfold me;rw[events_call_body g j l m];exact seen_none P _
 rw[this]
theorem Y4{c:Func}{todo:List bh}{v:Vu}(e:b.kind=.normal)(f:a.defers=[])(g:P.funcs[b.fn]?=J c)(d:ResultsC P c a.tmps v)(h:iv P z s sft Stop (G (E.finish v) A) w):iv P z s sft Stop (G { b.at a todo with mode:=.returning } (E::A)) w :=
 rR Z (λu=>stepG_leave e f g (d u).1 (d u).2) h
theorem KW(p:Pg)(e:gi f)(W:Prop){F:f->Prop}:∀(w:Wd) (d:Array dn),G7 p False F e ->
  w.heap.size<=(e.runT p w d).1.world.heap.size/\qC sft W (e.runT p w d).1.world.heap.size d (e.runT p w d).2:=by
 have l:∀ {n m:Nat} {d D E:Array dn},qC sft W n d D->n<=m/\qC sft W m D E->n<=m/\qC sft W m d E:=λh u=>⟨u.1,h.trans u.2 u.1⟩
 induction e with
 | pure a=>intro w d h;exact⟨af _,.refl _ _ _ _⟩
 | load m a k g =>
  intro w d h;simp only[aM];split
  .rename_i H;exact l (.tU (Bb H) Zc) (g _ w _ (h _))
  .split
   .rename_i v t I;refine l (λx j=>?_) (g _ w _ (h _));rcases Array.mem_append.1 j with j|j
    .exact .inl j
    .obtain⟨y,K,rfl⟩:=Array.mem_map.1 j;exact .inr ⟨SV I y (dU.1 K),by simp⟩
   .exact⟨af _,.refl _ _ _ _⟩
 | store m a x k g=>intro w d h;exact h.1.elim
 | new o k g =>
  intro w d h;simp only[aM];have:=g _ { w with heap:=w.heap.push o } d (h.2 w.heap.size)
  grind
 | shape r k g=>intro w d h;simp only[aM];exact g _ _ _ (h _)
 | freeze a n k g=>intro w d h;exact h.elim
 | frozen a k g=>intro w d h;simp only[aM];exact g _ _ _ (yP (h _))
 | getObj r k g =>
  intro w d h;simp only[aM];split
  .exact⟨af _,.refl _ _ _ _⟩
  .rename_i L;exact l (.sE (Zj L).1) (g _ w _ (h.1 _))
  .exact⟨af _,.refl _ _ _ _⟩
 | setObj r o k g=>intro w d h;exact h.elim
 | choose q k g =>
  intro w d h;simp only[aM];split
  .exact g _ _ _ (h _)
  .exact g _ { w with drawn:=w.drawn+1 } _ (h _)
 | sys c k g=>intro w d h;exact h.elim
 | program k g=>intro w d h;simp only[aM];exact g _ _ _ h
 | mark m k g=>intro w d h;simp only[aM];exact l (.wF h.1) (g w _ h.2.2)
 | halt x=>intro w d h;exact⟨af _,.refl _ _ _ _⟩
theorem Fx{u:Wd}{x:Next}(g:qm P (λ_=>false) [] false o.op=true)(_:Clear u)(t:(Ex a.eval o).run P u=.ok x j):∀e∈me P b.fn a o u,um sft (s=true) j.heap.size e:=by
 intro e l;have c:G7 P (false=true) (vk λf=>(λ_=>false:bC->Bool) f=true) (Ex a.eval o):=DN (P:=P) (S:=λ_=>false) (meths:=[]) (st:=false) id (λf n=>by cases n) (λm p=>by cases p) (λv=>rfl) (λf=>rfl) o g;rw[show(false=true)=False by simp]at c;have d:=(KW (sft:=sft) P (Ex a.eval o) (s=true) u #[] c).2;have q:e∈((Ex a.eval o).runT P u #[]).2:=yo l;have r:((Ex a.eval o).runT P u #[]).1=.ok x j:=by simp_all
 rw[r]at d;rcases d e q with h|h
 .simp at h
 .exact h
theorem UM(f:B[i]?=J o)(g:bM o (fh B a.tmps)=true)(j:b.kind≠.early)(l:qm P (λ_=>false) [] false o.op=true)(m:Clear w)(e:∀d,(Ex a.eval o).run P (w.at d)=.ok (.value y) (w.at d))(h:iv P z s sft Stop (G (b.at (a.put o.dst y) (.inRegion B C::k)) A) w):iv P z s sft Stop (G (b.at a (.inRegion B (i::C)::k)) A) w:=λd =>
 .step (λ_=>G (b.at (a.put o.dst y) (.inRegion B C::k)) A) (λc=>w.at c) (λc=>me P b.fn a o (w.at c)) Z (λc=>stepG_value f g j (e c))
  (λc=>⟨.refl _ _,Fx l (u:=w.at c) m (e c),Z⟩) λc=>h c
theorem B9(g:B[i]?=J o)(j:bM o (fh B a.tmps)=true)(l:b.kind≠.early)(h:∀(d:Nat) (m:cZ->Wd->Prop),(∀f c,DL s sft (w.at d) c (me P b.fn a o (w.at d))/\l6 P z (DL s sft) Stop (G (b.at f (.inRegion B C::k)) A) c->m f c)->uponK o a m ((Ex a.eval o).run P (w.at d)))(t:Nat) :
  l6 P z (DL s sft) Stop (G (b.at a (.inRegion B (i::C)::k)) A) (w.at t):=by
 have e:∀d,∃n c p,bF P z (G (b.at a (.inRegion B (i::C)::k)) A) (w.at d)=.go n c p/\DL s sft (w.at d) c p/\l6 P z (DL s sft) Stop n c:=by
  intro d;have:=h d (λf c=>DL s sft (w.at d) c (me P b.fn a o (w.at d))/\l6 P z (DL s sft) Stop (G (b.at f (.inRegion B C::k)) A) c) λ_ _ x=>x;revert this;generalize q:(Ex a.eval o).run P (w.at d)=r
  cases r with
  | ok x c =>
   cases x with
   | value v=>exact λh=>⟨_,_,_,stepG_value g j l q,h.1,h.2⟩
   | skip=>exact λh=>⟨_,_,_,stepG_none g j l q,h.1,h.2⟩
   | _=>exact λh=>h.elim
  | halt _ _=>exact λh=>h.elim
 exact .step (λd=>(e d).choose) (λd=>(e d).choose_spec.choose) (λd=>(e d).choose_spec.choose_spec.choose) Z (λd=>(e d).choose_spec.choose_spec.choose_spec.1) (λd=>(e d).choose_spec.choose_spec.choose_spec.2.1) λd=>(e d).choose_spec.choose_spec.choose_spec.2.2
theorem Gn(p:B[i]?=J o)(q:bM o (fh B a.tmps)=true)(t:b.kind≠.early)(g:qm P (λ_=>false) [] false o.op=true)(j:Clear w)(h:∀(d:Nat) (f:cZ->Wd->Prop),(∀e c,c=w.at d/\l6 P z (DL s sft) Stop (G (b.at e (.inRegion B C::k)) A) (w.at d)->f e c)->uponK o a f ((Ex a.eval o).run P (w.at d)))(l:Nat) :
  l6 P z (DL s sft) Stop (G (b.at a (.inRegion B (i::C)::k)) A) (w.at l):=by
 refine B9 p q t (λd f m=>?_) l;have:=h d (λe c=>c=w.at d/\l6 P z (DL s sft) Stop (G (b.at e (.inRegion B C::k)) A) (w.at d)) λ_ _ x=>x;revert this;generalize n:(Ex a.eval o).run P (w.at d)=r
 cases r with
 | ok x c =>
  cases x with
  | value v =>
   rintro⟨rfl,hm⟩;exact m _ _ ⟨⟨.refl _ _,Fx g (u:=w.at d) j n,Z⟩,hm⟩
  | skip =>
   rintro⟨rfl,hm⟩;exact m _ _ ⟨⟨.refl _ _,Fx g (u:=w.at d) j n,Z⟩,hm⟩
  | _=>exact λh=>h.elim
 | halt _ _=>exact λh=>h.elim
theorem xx(l:sft x.block<=x.off)(q:x.block<j.heap.size)(m:∀e∈R,e=⟨.cell x,true,false⟩):DL true sft j (j.setCell x y) R:=by
 refine⟨⟨λn d g=>?_,by simp[cO],λn d p g=>?_⟩,λe h=>?_,Z⟩
 .rw[heap_setCell];split
  .rename_i e;rw[g,aD];refine⟨_,Z,?_⟩
   cases d with
   | cells c t f =>
    refine⟨_,Z,?_,λr p=>?_⟩
    all_goals grind
   | _=>rfl
  .exact⟨d,g,.refl _ _⟩
 .simp_all
 .rw[m e h];exact⟨by simp_all,λ_=>⟨l,Z⟩⟩
theorem zh{x:eF}(g:∀e∈R,False)(l:Obj.nz x:=by trivial):DL s sft j (j.alloc x) R:=by
 refine⟨⟨λd f c=>⟨f,?_,.refl _ _⟩,by simp,λd f m c=>?_⟩,λe h=>(g e h).elim,Z⟩
 .have n:=(Zj c).1;show(j.heap.push x)[d]?=_
  grind
 .have c:(j.heap.push x)[d]?=J f:=c
  grind
theorem mc(e:t.status=.running)(h:∀c,bF P z t c=.go u c #[])(f:∀d,l6 P z (DL s sft) Stop u (w.at d)){d0:Nat}:l6 P z (DL s sft) Stop t (w.at d0):=rR e h f d0
theorem mo(j:B[i]?=J o)(l:bM o (fh B a.tmps)=true)(h:∀(d:Nat) (e:cZ->Wd->Prop),(∀f g,g=w.at d/\l6 P z (DL s sft) Stop (G (b.at f (.inRegion B C::k)) A) (w.at d)->e f g)->uponK o a e ((Ex a.eval o).run P (w.at d)))(m:b.kind≠.early:=by decide)(n:qm P (λ_=>false) [] false o.op=true:=by kernel_rfl):
  l6 P z (DL s sft) Stop (G (b.at a (.inRegion B (i::C)::k)) A) (w.at c):=Gn j l m n mX h c
def ix:List f->Nat->List Nat
 | [],_=>[]
 | _::l,n=>n::ix l (n+1)
theorem OZ:∀(l:List f) (n:Nat),ix l n=gR n l.length
 | [],_=>rfl
 | _::l,n=>by simp only[ix,cI,List.range'_succ];rw[OZ l (n+1)]
theorem rz(l:List f):aO l.toArray.size=ix l 0:=by rw[OZ,aY,List.range_eq_range']
end
theorem SE{a:Ti->Option ig}{b:Array Field}{i:ig}(h:mS a b=J i):i.methods=#[]:=by
 unfold mS at h;simp only[bind,bJ]at h;let⟨r,_,h⟩:=h;revert h
 repeat' split
 all_goals
  intro h
  first
   | (cases Ze h;rfl)
   | skip
theorem a9Q{a:Ti->Option ig}{d:TypeDesc}{i:ig}(h:Made.reckon a d=J i):i.methods=#[]:=by
 unfold Made.reckon at h;split at h
 .simp only[bind,bJ]at h;let⟨j,_,h⟩:=h;split at h
  .cases h
  .split at h
   .cases h
   .simp only[bind,bJ]at h;let⟨s,_,h⟩:=h;cases Ze h;rfl
  .simp only[bind,bJ]at h;let⟨s,_,h⟩:=h;cases Ze h;rfl
 .simp only[bind,bJ]at h;let⟨j,_,s,_,h⟩:=h;cases Ze h;rfl
 .simp only[bind,bJ]at h;let⟨j,_,s,_,b,_,c,_,h⟩:=h;cases Ze h;rfl
 .simp only[bind,bJ]at h;let⟨j,_,s,_,h⟩:=h;cases Ze h;rfl
 .simp only[bind,bJ]at h;let⟨s,_,h⟩:=h;cases Ze h;rfl
 .simp only[bind,bJ]at h;let⟨j,_,s,_,h⟩:=h;cases Ze h;rfl
 .exact SE h
 .cases h
theorem Tz{T:Tables}{i:ig}(a:T.types.size<=n)(h:T.info? n=J i):i.methods=#[]:=by
 unfold Tables.info? at h;rw[mY (Nat.not_lt.2 a)]at h;unfold Made.depth at h;rw[show(100:Nat)=99+1 from Z,Made.infoAt,mY (Nat.not_lt.2 a)]at h;simp only[bJ]at h;let⟨d,_,h⟩:=h;exact a9Q h
def Nk:List bC:=[8,10,13,15,17,18,20,22,25,32,37,38,39,40,41,42,43,44,45,47,51,53,55,78,79,80,81,85,86,87,89,90,91,92,93,94,108,109,12,16,33,26,27,28,29,30,31,34,35,36,57,58,59,60,61,62,63,64,65,66,67,68,69,70,71,72,73,74,75,76,77,95,96,97,98,99,100,101,102,103,104,105,110,14,52,48,111,121,123,46,82,83,84,54,118,127,129,130,147,148,149,150,151]
def Sg(f:bC):Bool:=Nk.contains f
def ms:List String:=["Len", "Less", "Swap", "Push", "Pop"]
def OQ(P:Pg)(S:bC->Bool)(b:List String)(f:bC):Bool :=
 match P.funcs[f]? with
 | some a=>!(a.name== "runtime.NumGoroutine")&&(match a.body with|some c=>Z6 P S b true c|none=>false)
 | none=>false
def Hl(P:Pg)(S:bC->Bool)(f:bC):Bool :=
 match P.funcs[f]? with
 | some a=>!(a.name== "runtime.NumGoroutine")&&((!a.body.isNone&&S f)||(a.body.isNone&&(mU a).isNone&&(Extern.find a).isNone&&!(a.name.endsWith ".init"&&!a.name.startsWith "("&&!a.name.startsWith "gosem.")))
 | none=>false
def Iy(P:Pg)(S:bC->Bool)(a:List String):Bool :=
 P.types.all λi=>i.methods.all λm=>!a.contains m.name||(match m.func with|some (f,_)=>Hl P S f|none=>true)
theorem c0g{S:bC->Bool}{f:bC}(h:Hl I S f=true):xf I (λf=>S f=true) f:=by
 unfold Hl at h;split at h
 .rename_i e g;simp only[aB,cY,Bool.not_eq_true',Option.isNone_iff_eq_none]at h;let⟨i,j⟩:=h;refine⟨e,g,i,?_⟩;rcases j with⟨a,b⟩|⟨⟨⟨a,b⟩,c⟩,d⟩
  .exact .inl ⟨a,b⟩
  .refine .inr ⟨by rw[a];rfl,b,c,?_⟩;exact d
 .cases h
theorem Zw{S:bC->Bool}{d:List String}(h:Iy I S d=true):∀m∈d,AA I (xf I λf=>S f=true) m:=by
 intro g n t i m f b j a o
 by_cases k:t<I.types.size
 .have p:I.types[t]?=J i:=by
   have:I.info? t=_:=j;unfold Tables.info? at this;rw[mZ k]at this;exact this
  unfold Iy at h;rw[cP]at h;have l:=h i (lC p);rw[cP]at l;have q:m∈i.methods:=Array.mem_of_find?_eq_some a;have c:=l m q;have r:(m.name==g)=true:=by
   have:=Array.find?_some a;exact this
  rw[o]at c;have e:m.name=g:=by simpa using r
  rw[e]at c;have s:d.contains g=true:=by simpa using n
  rw[s]at c;exact c0g (by simpa using c)
 .have:=Tz (T:=I.toTables) (Nat.le_of_not_lt k) j;rw[this]at a;simp at a
theorem XB:Nk.all (OQ V Sg ms)=true:=by kernel_rfl
theorem TM:Iy V Sg ms=true:=by kernel_rfl
theorem xn:pU V Sg ms true:=by
 refine⟨λf b=>?_,Zw TM⟩;have h:=aT.1 XB f (by simpa[Sg] using b);unfold OQ at h;split at h
 .rename_i d e;rw[aB]at h;let⟨g,a⟩:=h;split at a
  .rename_i c i;exact⟨d,c,e,by simpa using g,i,a⟩
  .cases a
 .cases h
section
open Go.Conc Go.RowKit
structure pK (sz:Nat) (env:List (Nat×Vu)) (a:cZ):Prop where
 size:a.tmps.size=sz
 defers:a.defers=[]
 has:∀p∈env,a.tmps[p.1]?=J p.2
theorem MT:∀ {b:List (Nat×Vu)},b.lookup a=J y->(a,y)∈b
 | [],h=>by cases h
 | (s,x)::b,h=>by
  by_cases e:a=s
  .grind
  .have:(a==s)=false:=by simpa using e
   simp only[List.lookup,this]at h;exact ah _ (MT h)
variable{l:Nat}{j:List (Nat×Vu)}{a:cZ}
theorem pK.at(h:pK l j a){t:Nat}(b:j.lookup t=J y):a.tmps[t]?=J y:=h.has _ (MT b)
theorem pK.get(h:pK l j a){t:Nat}(b:j.lookup t=J y):a.eval (.tmp t)=y:=by
 show a.tmps.getD t Ud=y;rw[aX,h.at b];rfl
theorem pK.g(h:pK l j a)(t:Nat)(b:j.lookup t=J y):a.eval (.tmp t)=y:=h.get b
theorem pK.put(h:pK l j a)(e:b<l)(v:Vu):pK l ((b,v)::j.filter λp=>p.1 != b) (a.put (J b) v):=by
 refine⟨by simp[dG,h.size],h.defers,λp c=>?_⟩;rcases ae.1 c with rfl|c
 .simp[dG,h.size,e]
 .let⟨f,d⟩:=dx.1 c;have d:p.1≠b:=by simpa using d
  simp only[dG];rw[cV (aA d)];exact h.has p f
variable{l:Bool}{m:Nat->Nat}{Stop:Gr->Wd->Prop}{b:Fm'}{g:Array aL}{i:Nat}{o:aL}{s:List Nat}{k:List bh}{q:List Fm'}{w:Wd}{v:Vu}
theorem wQ(c:g[i]?=J o)(e:bM o (fh g a.tmps)=true)(f:b.kind≠.early)(n:qm V (λ_=>false) [] false o.op=true)(p:∀d,(Ex a.eval o).run V (w.at d)=.ok (.value v) (w.at d))(h:iv V l true m Stop (G (b.at (a.put o.dst v) (.inRegion g s::k)) q) w):iv V l true m Stop (G (b.at a (.inRegion g (i::s)::k)) q) w:=UM c e f n mX p h
theorem B6{g:Array aL}{o:aL}{a:cZ}(c:o.guard=Q):bM o (fh g a.tmps)=true:=by unfold bM;rw[c]
theorem X6{o:aL}{a:cZ}{x:aS}{v:Vu}{w:Wd}(c:o.op=.move x)(d:a.eval x=v):(Ex a.eval o).run I w=.ok (.value v) w:=by
 unfold Ex;simp only[c,d];rfl
theorem zN{o:aL}{a:cZ}{x:aS}{v:Vu}{w:Wd}(c:o.op=.assign x)(d:a.eval x=v):(Ex a.eval o).run I w=.ok (.value v) w:=by
 unfold Ex;simp only[c,d];rfl
theorem Iw{o:aL}{a:cZ}{x:aS}{i:Nat}{v:Vu}{w:Wd}(c:o.op=.extract x i)(d:a.eval x=.tuple K)(e:K[i]?=J v):(Ex a.eval o).run I w=.ok (.value v) w:=by
 unfold Ex;simp only[c,d,e];go_simp
theorem c8G{o:aL}{a:cZ}{x:aS}{e:Ti}{f:Option cx}{w:Wd}(h:o.op=.call { callee:=.builtin .len,args:=#[x],argTypes:=#[n] })(p:I.underlying n=J (.slice e))(r:a.eval x=.slice f c d):(Ex a.eval o).run I w=.ok (.value (Y U c)) w:=by
 simp[Ex,h,resolve,invoke,builtin,r,kj,goInt,Result.andThen,gQ p]
def Xt(j:List (Nat×Vu)):List (Nat×Vu)->Prop
 | []=>True
 | p::r=>j.lookup p.1=J p.2/\Xt j r
def Ak(D:Nat):List (Nat×Vu)->Bool
 | []=>true
 | p::r=>!(aG p.1 D)&&Ak D r
theorem LY:∀ {j:List (Nat×Vu)},Ak c j=true->j.filter (λp=>p.1 != c)=j
 | [],_=>rfl
 | p::r,h=>by
  simp only[Ak,aB,Bool.not_eq_true']at h;have d:(p.1 != c)=true:=by
   simp;exact λe=>by simp_all
  have f:=LY h.2
  grind
abbrev Nc:=List (Nat×Vu)
def c7c(t f d:Nat):Prop:=∀b o (w:Wd),(kh t (Po (J (O b o Q))) f).run V w=.ok (Po (J (O b (o+d) Q))) w
end
section
open Go.Conc
def ue(a:Array aL)(listed:Array Bool):List Nat:=(aO a.size).filter λi=>!listed.getD i true
def Ord(a:Array aL)(b:Nat)(listed:Array Bool)(c:List Nat):Prop:=(ue a listed).length<=b/\∃t,c=dF .any a b t listed []
theorem GQ{listed:Array Bool}(h:a∈aU .any H listed):a∈ue H listed:=by
 unfold aU at h;unfold ue
 grind
theorem Vr{listed:Array Bool}(h:a∈ue H listed):(ue H (listed.setIfInBounds a true)).length+1=(ue H listed).length:=by
 have c:listed.getD a true=false:=by
  have:=(dx.1 h).2;simpa using this
 have d:a<listed.size:=by
  grind
 have e:ue H (listed.setIfInBounds a true)=(ue H listed).erase a:=by
  have b:(ue H listed).Nodup:=mK _ List.nodup_range;rw[List.Nodup.erase_eq_filter b];unfold ue;rw[List.filter_filter];refine List.filter_congr λj _=>?_;rw[aX,aX,fg]
  grind
 grind
theorem Ord.next{listed:Array Bool}{d:List Nat}(h:Ord H a listed d) :
  (d=[]/\aU .any H listed=[])\/∃f i e,i∈aU .any H listed/\d=i::e/\a=f+1/\Ord H f (listed.setIfInBounds i true) e:=by
 obtain⟨m,t,rfl⟩:=h
 cases a with
 | zero =>
  refine .inl ⟨by simp[dF],?_⟩;rw[List.eq_nil_iff_forall_not_mem];intro i b;have:=List.length_pos_of_mem (GQ b);omega
 | succ f =>
  simp only[dF]
  cases b:(aU .any H listed)[t%(aU .any H listed).length]? with
  | none =>
   have k:aU .any H listed=[]:=by
    cases l:aU .any H listed with
    | nil=>rfl
    | cons x g =>
     rw[l]at b;have n:t%(x::g).length<(x::g).length:=Nat.mod_lt _ Zc
     grind
   refine .inl ⟨?_,k⟩;have c:=b;unfold aU at c;rw[c];rfl
  | some i =>
   have j:i∈aU .any H listed:=cN b;have o:=Vr (GQ j);refine .inr ⟨f,i,dF .any H f (t / (aU .any H listed).length) (listed.setIfInBounds i true) [],j,?_,Z,by omega,_,Z⟩;have c:=b;unfold aU at c;rw[c];show dF .any H f (t / (aU .any H listed).length) (listed.setIfInBounds i true) [i]=_;rw[linearise_go_acc,List.reverse_singleton,List.singleton_append]
theorem As{J:cZ->List Nat->Prop}{c:Array Bool->cZ->Prop}(k:∀f listed a i b,i∈aU .any H listed->c listed a->Ord H f (listed.setIfInBounds i true) b->(∀g,c (listed.setIfInBounds i true) g->J g b)->J a (i::b))(l:∀listed a,aU .any H listed=[]->c listed a->J a []) :
  ∀d listed a b,Ord H d listed b->c listed a->J a b:=by
 intro d
 induction d with
 | zero =>
  intro listed a b e j;rcases e.next with⟨rfl,h⟩|⟨f,i,rest',hi,rfl,hf,hO'⟩
  all_goals grind
 | succ f m =>
  intro listed a b e j;rcases e.next with⟨rfl,h⟩|⟨f',i,rest',hi,rfl,hf,hO'⟩
  all_goals grind
theorem x9{listed:Array Bool}(h:a∈aU .any H listed):a<H.size:=eQ.1 (dx.1 h).1
theorem Nw{listed:Array Bool}(h:a∈aU .any H listed):listed.getD a true=false:=by
 have:=(dx.1 (GQ h)).2;simpa using this
theorem k9{listed:Array Bool}{o:aL}(h:a∈aU .any H listed)(c:H[a]?=J o)(d:(o.after.any λe=>cM .any e&&e.on==b)=true):listed.getD b false=true:=by
 have:=(dx.1 h).2
 grind
theorem V6{listed:Array Bool}(a:(aO H.size).all (λi=>((H[i]?).map (·.after.all λe=>!cM .any e||decide (e.on<i))).getD true)=true)(g:listed.size=H.size)(h:aU .any H listed=[]):∀i,i<H.size->listed.getD i false=true:=by
 intro i
 induction i using Nat.strongRecOn with
 | _ i j =>
  intro b;rw[aT]at a;have c:=a i (eQ.2 b);have d:H[i]?=J H[i]:=bg b;rw[d]at c;simp only[aD,cU,cP]at c;have f:i∉aU .any H listed:=by grind
  unfold aU at f
  grind
structure oU (ops:Array aL) (V:Nat->Vu) (base:Array Vu) (listed:Array Bool) (a:cZ):Prop where
 defs:a.defers=[]
 len:listed.size=ops.size
 size:a.tmps.size=base.size
 done:∀i o t,ops[i]?=J o->o.dst=J t->listed.getD i false=true->t<base.size->a.tmps[t]?=J (V i)
 still:∀t,(∀i o,ops[i]?=J o->o.dst=J t->listed.getD i false=false)->a.tmps[t]?=base[t]?
theorem oU.start(b:Array aL)(a:Nat->Vu)(base:Array Vu):oU b a base (bY b.size false) ⟨base,[]⟩:=by
 refine⟨Z,by simp,Z,λi o t d e c _=>?_,λ_ _=>rfl⟩;rw[aX,fX]at c
 grind
theorem oU.val{b V':Nat->Vu}{base:Array Vu}{listed:Array Bool}{a:cZ}(h:oU H b base listed a)(d:∀i,listed.getD i false=true->V' i=b i):oU H V' base listed a :=
 ⟨h.defs,h.len,h.size,λi o t e f c g=>by rw[d i c];exact h.done i o t e f c g,h.still⟩
def tW(a:Array aL):Bool:=(aO a.size).all λi=>(aO a.size).all λj=>i==j||(match a[i]?,a[j]? with|some oi,some oj=>(match oi.dst,oj.dst with|some s,some t=>s != t|_,_=>true)|_,_=>true)
theorem RQ(h:tW H=true){d e:aL}(f:H[a]?=J d)(g:H[b]?=J e)(j:d.dst=J c)(k:e.dst=J c):a=b:=by
 unfold tW at h;rw[aT]at h;have i:=(Zj f).1;have l:=(Zj g).1;have m:=h a (eQ.2 i)
 grind
theorem oU.put{b:Nat->Vu}{base:Array Vu}{listed:Array Bool}{l:cZ}(h:oU H b base listed l)(p:tW H=true){o:aL}(m:H[a]?=J o){v:Vu}(q:b a=v):oU H b base (listed.setIfInBounds a true) (l.put o.dst v):=by
 subst q;have w:a<listed.size:=by rw[h.len];grind
 have r:∀j,(listed.setIfInBounds a true).getD j false=if a=j then true else listed.getD j false:=λj=>by
  rw[aX,fg]
  by_cases e:a=j
  all_goals simp_all
 refine⟨?_,by simp[h.len],?_,λj c t f g i n=>?_,λt x=>?_⟩
 .unfold dG;split<;>exact h.defs
 .unfold dG;split<;>simp[h.size]
 .rw[r]at i
  by_cases e:a=j
  .subst e;rw[m]at f;cases Ze f;unfold dG;rw[g];simp[h.size,n]
  .rw[mY e]at i;have k:=h.done j c t f g i n;unfold dG;split
   .rename_i d s;have:d≠t:=λu=>e (RQ p m f (u▸s) g)
    grind
   .exact k
 .have k:∀j c,H[j]?=J c->c.dst=J t->listed.getD j false=false:=λj c f g=>by
   grind
  have y:=h.still t k;unfold dG
  grind
theorem oU.tmp{b:Nat->Vu}{base:Array Vu}{listed:Array Bool}{c:cZ}(h:oU H b base listed c){j:Nat}{o:aL}(d:H[j]?=J o)(e:o.dst=J a)(f:listed.getD j false=true)(g:a<base.size)(i:b j=y):c.eval (.tmp a)=y:=by
 show c.tmps.getD a Ud=y;rw[aX,h.done j o a d e f g,←i];rfl
theorem oU.base{b:Nat->Vu}{base:Array Vu}{listed:Array Bool}{c:cZ}(h:oU H b base listed c)(e:((aO H.size).all λi=>((H[i]?).map λo=>o.dst != J a).getD true)=true)(d:base[a]?=J y):c.eval (.tmp a)=y:=by
 show c.tmps.getD a Ud=y;rw[aX,h.still a ?_,d];all_goals grind
def fill(b:Array aL)(a:Nat->Vu)(base:Array Vu):Array dM:=(base.toList.zipIdx.map λ(x,t)=>match (aO b.size).find? (λi=>((b[i]?).map λo=>o.dst==J t).getD false) with|some i=>a i|none=>x).toArray
theorem oU.full{b:Nat->Vu}{base:Array Vu}{listed:Array Bool}{a:cZ}(h:oU H b base listed a)(j:∀i,i<H.size->listed.getD i false=true):a=⟨fill H b base,[]⟩:=by
 let⟨l,k⟩:=a;obtain rfl:k=[]:=h.defs;refine congrArg (λx=>(⟨x,[]⟩:cZ)) ?_;apply Array.ext_getElem?;intro t;rcases bQ t base.size with c|c
 rotate_left
 .rw[eM (by have:=h.size;grind),eM (by simp[fill];omega)]
 .have e:(fill H b base)[t]?=J (match (aO H.size).find? (λi=>((H[i]?).map λo=>o.dst==J t).getD false) with|some i=>b i|none=>base[t]):=by
   simp only[fill,List.getElem?_toArray,bO,List.getElem?_zipIdx,aE,Array.getElem?_toList,bg c,aD]
  rw[e]
  cases g:(aO H.size).find? (λi=>((H[i]?).map λo=>o.dst==J t).getD false) with
  | some i =>
   have d:=List.find?_some g;have f:=eQ.1 (List.mem_of_find?_eq_some g);rw[bg f]at d;simp only[aD,cU,beq_iff_eq]at d;exact h.done i _ t (bg f) d (j i f) c
  | none =>
   have:=h.still t (λi o m n=>by
    grind)
   grind
theorem uR{listed:Array Bool}(h:a∈aU .any H listed)(b:listed.getD a false=true):False:=by
 have c:=Nw h
 grind
theorem BW{listed:Array Bool}{o:aL}(h:a∈aU .any H listed)(c:H[a]?=J o){j:Nat}(b:listed.getD j false=false)(d:(o.after.any λe=>cM .any e&&e.on==j)=true):False:=by
 rw[k9 h c d]at b;cases b
theorem Z8{listed:Array Bool}(h:listed.getD b false=true):(listed.setIfInBounds a true).getD b false=true:=by
 rw[aX]at h ⊢
 grind
theorem za{listed:Array Bool}(h:listed.getD b false=false)(e:a≠b):(listed.setIfInBounds a true).getD b false=false:=by
 simp_all
theorem zT{listed:Array Bool}(h:a∈aU .any H listed):(listed.setIfInBounds a true).getD a false=true:=by
 have b:=Nw h;rw[aX]at b ⊢
 grind
theorem xZ(b:I.follows .mixedOrders=true)(a:Array aL)(t:Nat):Ord a a.size (bY a.size false) (eU (I.follows .mixedOrders) a t):=by
 refine⟨?_,t,?_⟩
 .unfold ue
  grind
 .simp only[eU,b,Bool.true_or,if_true];rfl
end
section
open Go.Conc Go.RowKit
theorem FK(h:a<9223372036854775808):IntKind.i64.wrap (a:Int)=a:=by
 simp[IntKind.wrap,IntKind.bits,IntKind.signed];omega
theorem C7{n:Nat}(h:n<9000000000000000000):IntKind.i64.wrap ((n:Int)+1)=((n+1:Nat):Int):=by
 rw[show(n:Int)+1=((n+1:Nat):Int) by omega];exact FK Za
theorem W4(m j:Nat):(bY m false).getD j false=false:=by
 rw[aX,fX];split<;>rfl
theorem Cp{J:f->List Nat->Prop}{d:Array Bool->f->Prop}(m:∀c listed a i b,i∈aU .any H listed->d listed a->Ord H c (listed.setIfInBounds i true) b->(∀e,d (listed.setIfInBounds i true) e->J e b)->J a (i::b))(l:∀listed a,aU .any H listed=[]->d listed a->J a []) :
  ∀j listed a b,Ord H j listed b->d listed a->J a b:=by
 intro j
 induction j with
 | zero =>
  intro listed a b k g;rcases k.next with⟨rfl,h⟩|⟨c,i,rest',hi,rfl,hf,hO'⟩
  .exact l listed a h g
  .cases hf
 | succ c n =>
  intro listed a b k g;rcases k.next with⟨rfl,h⟩|⟨f',i,rest',hi,rfl,hf,hO'⟩
  .exact l listed a h g
  .obtain rfl:c=f':=by omega
   exact m c listed a i rest' hi g hO' λe o=>n _ e rest' hO' o
theorem vI{w:Wd}(h:Lk W i w)(d:W a=0)(j:(∃c t f,w.heap[a]?=J (.cells c t f))\/∃c t f,i.heap[a]?=J (.cells c t f)):i.heap[a]?=w.heap[a]?:=by
 rcases j with⟨c,t,f,e⟩|⟨c,t,f,e⟩
 .rw[h.heap,d,e];rfl
 .have b:=h.heap a;rw[e,d]at b
  cases g:w.heap[a]? with
  | none=>rw[g]at b;cases b
  | some o =>
   rw[g,aD]at b;rw[e,b,xC (JE (Ze b).symm mX)]
theorem j5{w':Wd}{base:Nat}{d:List Vu}(h:i.ownsRow base a b y c d)(e:∀g,y.ownBlock=J g->w'.heap[g]?=i.heap[g]?):w'.ownsRow base a b y c d:=by
 let⟨f,j⟩:=h;refine⟨f,j.imp id ?_⟩;rintro⟨g,k,l,rfl,a1,a2,a3⟩;exact⟨g,k,l,Z,a1,by rw[e g Z];exact a2,a3⟩
theorem j8{base:Nat}{e:List Vu}(h:i.ownsRow base a b y c e){g:Nat}(d:y.ownBlock=J g):base<=g/\g<i.heap.size:=by
 obtain⟨l,⟨rfl,_⟩|⟨f,m,n,rfl,j,k,o⟩⟩:=h
 .cases d
 .obtain rfl:f=g:=Ze d;exact⟨j,(Zj k).1⟩
theorem C5{w:Wd}(l:Kept W w k)(h:Lk W i w)(m:Lk W j k)(e:j.heap[a]?=i.heap[a]?):k.heap[a]?=w.heap[a]?:=by
 rw[h.heap,m.heap]at e
 cases d:w.heap[a]? with
 | none =>
  rw[d]at e
  cases n:k.heap[a]? with
  | none=>rfl
  | some o=>rw[n]at e;cases e
 | some o =>
  let⟨p,g,b⟩:=l.same a o d;rw[d,g]at e;rw[g]
  cases o with
  | cells c t f =>
   obtain⟨q,rfl,_,_⟩:=b;simp only[aD,fz,bm,Obj.cells.injEq]at e;obtain⟨rfl,_⟩:=e;rfl
  | _=>(have b:p=_:=b;rw[b])
theorem Hh{f:bC}{b:Func}{c:jj}{args:Array Vu}{env:Nc}(e:V.funcs[f]?=J b)(g:b.body=J c)(i:b.ntmps=a)(m:args.size<=a)(j:∀p∈env,args[p.1]?=J p.2):∃d,ay V f args .normal=(aQ f).at d [.code c]/\pK a env d:=by
 refine⟨_,enter_at (c:=c) _ e g,?_⟩;refine⟨by simp[i];omega,Z,λp k=>?_⟩;have h:=j p k;have l:=(Zj h).1;simp only[Array.getElem?_append,l,if_true];exact h
theorem FO{base:Nat}{g:List Vu}(h:i.ownsRow base a b y c g)(e:y.ownBlock=J d):∃j t f,i.heap[d]?=J (.cells j t f):=by
 obtain⟨m,⟨rfl,_⟩|⟨k,n,o,rfl,p,l,q⟩⟩:=h
 .cases e
 .obtain rfl:k=d:=Ze e;exact⟨_,_,_,l⟩
variable{P:Pg}{l:List ng}{q s:Bool}{j:Nat->Nat}{Stop:Gr->Wd->Prop}{b:Fm'}{a:cZ}{n:Array aL}{i:Nat}{o:aL}{r:List Nat}{k:List bh}{p:List Fm'}{w:Wd}{v:Vu}
theorem GD{n:Array aL}{i:Nat}{o:aL}{a:cZ}{b:Fm'}{r:List Nat}{k:List bh}{p:List Fm'}{q:Bool}{j:Nat->Nat}{w:Wd}{v:Vu}{c:Obj}(g:n[i]?=J o)(m:o.guard=Q)(t:b.kind≠.early)(u:∀d,(Ex a.eval o).run V (w.at d)=.ok (.value v) ((w.at d).alloc c))(x:∀d,(Ex a.eval o).events V (w.at d) #[]=#[])(y:∀d,l6 V q (DL s j) Stop (G (b.at (a.put o.dst v) (.inRegion n r::k)) p) ((w.alloc c).at d))(f:Nat)(z:Obj.nz c:=by trivial) :
  l6 V q (DL s j) Stop (G (b.at a (.inRegion n (i::r)::k)) p) (w.at f) :=
 B9 g (by unfold bM;rw[m]) t (λd B A=>by
  rw[u d]
  exact A _ _ ⟨zh (λe h=>by rw[listed_none (x d)]at h;simp at h) z,y d⟩) f
theorem Lj{f:Func}{m:List bh}{v:Vu}(x:b.kind=.normal)(y:a.defers=[])(z:P.funcs[b.fn]?=J f)(t:∀d,(de f a.tmps).run P (w.at d)=.ok v (w.at d))(h:iv P q s j Stop (G (E.finish v) p) w):iv P q s j Stop (G { b.at a m with mode:=.returning } (E::p)) w:=λd=>by
 refine .step (λ_=>G (E.finish v) p) (λc=>w.at c) (λc=>seen P b.fn ((de f a.tmps).events P (w.at c) #[])) Z (λc=>?_) (λc=>⟨.refl _ _,λe A=>?_,Z⟩) λc=>h c
 .have B:=t c;show bF P q (G { b.at a m with mode:=.returning } (E::p)) (w.at c)=_;simp[G,bF,unwind,doReturn,Frame.at,x,y,z,B,eY]
 .have g:=Il (P:=P) (st:=false) f a.tmps;unfold TT at g;rw[show(false=true)=False by simp]at g;have u:=(KW (sft:=j) P (de f a.tmps) (s=true) (w.at c) #[] g).2;have C:e∈((de f a.tmps).runT P (w.at c) #[]).2:=yo A;have D:((de f a.tmps).runT P (w.at c) #[]).1=.ok v (w.at c):=by rw[jf];exact t c
  rw[D]at u;rcases u e C with h|h
  .simp at h
  .exact h
theorem BO{q s:Bool}{j:Nat->Nat}{Stop:Gr->Wd->Prop}{id:Nat}{w:Wd}(h:∀t d,l6 V q (DL s j) Stop (G (b.at a (.inRegion n (eU (V.follows .mixedOrders) n t)::k)) p) (w.at d))(c:Nat) :
  l6 V q (DL s j) Stop (G (b.at a (.code (.region id n true)::k)) p) (w.at c) :=
 .step (λd=>G (b.at a (.inRegion n (eU (V.follows .mixedOrders) n ((w.at d).tape (w.at d).drawn (.order b.fn id)))::k)) p) (λd=>w.at ((w.at d).drawn+1)) (λ_=>#[]) Z (λd=>stepG_region_draw) (λd=>⟨.of_heap _ Z,λe f=>by simp at f,Z⟩) λd=>h _ _
theorem CV{ob:Obj}(c:n[i]?=J o)(e:o.guard=Q)(f:b.kind≠.early)(g:∀d,(Ex a.eval o).run V (w.at d)=.ok (.value v) ((w.at d).alloc ob))(m:∀d,(Ex a.eval o).events V (w.at d) #[]=#[])(t:Obj.nz ob)(h:iv V q true j Stop (G (b.at (a.put o.dst v) (.inRegion n r::k)) p) (w.alloc ob)):iv V q true j Stop (G (b.at a (.inRegion n (i::r)::k)) p) w:=λd=>GD c e f g m (λd=>h d) d t
theorem Xc{x:Next}{R:Wd->Wd->Prop}(L:n[i]?=J o)(N:o.guard=Q)(S:b.kind≠.early)(T:qm V (λ_=>false) [] true o.op=true)(W:x=.skip\/∃v,x=.value v)(M:Fit j w)(X:∀d v,Lk j v (w.at d)->∃t,(Ex a.eval o).run V v=.ok x t/\R v t)(h:∀d A v t,Lk j v (w.at d)->Lk j t A->Kept j (w.at d) A->R v t->iv V q true j Stop (G (b.at (a.put o.dst (match x with|.value v=>v|_=>Ud)) (.inRegion n r::k)) p) A) :
  iv V q true j Stop (G (b.at a (.inRegion n (i::r)::k)) p) w:=λd0=>by
 refine B9 L (B6 N) S (λd K' F=>?_) d0;have ht:G7 V (true=true) (vk λf=>(λ_=>false:bC->Bool) f=true) (Ex a.eval o):=DN (P:=V) (S:=λ_=>false) (meths:=[]) (st:=true) id (λf hf=>by cases hf) (λm hm=>by cases hm) (λv=>rfl) (λf=>rfl) o T;have g:Lk j (rU j (w.at d) (w.at d).tape) (w.at d):=Dq (w:=w.at d) M.soft mX _;let⟨t,hr,hR⟩:=X d { rU j (w.at d) (w.at d).tape with drawn:=(w.at d).drawn } ⟨g.heap,g.soft,g.nz,g.os,g.output⟩;have H:Lk j { rU j (w.at d) (w.at d).tape with drawn:=(w.at d).drawn } (w.at d):=⟨g.heap,g.soft,g.nz,g.os,g.output⟩;have B:=D4 (sft:=j) V (Ex a.eval o) (true=true) (v:={ rU j (w.at d) (w.at d).tape with drawn:=(w.at d).drawn }) (w:=w.at d) #[] ((Ex a.eval o).runT V (w.at d) #[]).1.world.drawn ht H (λ_ _ _=>rfl) Za;have u:((Ex a.eval o).runT V { rU j (w.at d) (w.at d).tape with drawn:=(w.at d).drawn } #[]).1=.ok x t:=by rw[jf];exact hr
 have C:((Ex a.eval o).runT V (w.at d) #[]).1=(Ex a.eval o).run V (w.at d):=jf ..;have D:∀e∈me V b.fn a o (w.at d),e∈((Ex a.eval o).runT V (w.at d) #[]).2:=λe E=>yo E;revert B u C D;generalize (Ex a.eval o).runT V { rU j (w.at d) (w.at d).tape with drawn:=(w.at d).drawn } #[]=rv;generalize (Ex a.eval o).runT V (w.at d) #[]=b';intro B u C D
 cases B with
 | @ok y v2 w2 es' c hp h1 h2 h3 h4 =>
  obtain⟨rfl,rfl⟩:=Result.ok.inj u
  have I:DL true j (w.at d) w2 (me V b.fn a o (w.at d)):=⟨h2,λe E=>(by
   rcases h3 e (D e E) with h|h
   .simp at h
   .exact h),h4.all⟩
  rw[←C];have K:=(h d w2 _ _ H h1 h2 hR) w2.drawn;rcases W with rfl|⟨z,rfl⟩
  .exact F _ _ ⟨I,K⟩
  .exact F _ _ ⟨I,K⟩
 | panic _ _ _ _=>cases u
 | lost _=>cases u
theorem U3{g:List (Nat×Vu)}{q:Bool}{j:Nat->Nat}{Stop:Gr->Wd->Prop}{b:Fm'}{a:cZ}{n:Array aL}{i:Nat}{o:aL}{r:List Nat}{k:List bh}{p:List Fm'}{w:Wd}{R:Wd->Wd->Prop}(F:pK c g a)(m:n[i]?=J o)(t:o.guard=Q)(u:b.kind≠.early)(x:qm V (λ_=>false) [] true o.op=true)(y:o.dst=Q)(z:Fit j w)(A:∀d v,Lk j v (w.at d)->∃e,(Ex a.eval o).run V v=.ok .skip e/\R v e)(h:∀d f v e,Lk j v (w.at d)->Lk j e f->Kept j (w.at d) f->R v e->iv V q true j Stop (G (b.at a (.inRegion n r::k)) p) f) :
  iv V q true j Stop (G (b.at a (.inRegion n (i::r)::k)) p) w :=
 Xc m t u x (.inl Z) z A λd f v e B C D E=>by rw[y];exact h d f v e B C D E
theorem yp(c:n[i]?=J o)(x:Vu):(b.at a (.inRegion n (i::r)::k)).finish x=b.at (a.put o.dst x) (.inRegion n r::k):=by rw[bI,c];rfl
theorem MD{f:bC}{e:Func}{c:jj}{g:Array aS}{h:Array Ti}{vs:Array Vu}(m:n[i]?=J o)(t:o.guard=Q)(u:b.kind≠.early)(x:o.op=.call { callee:=.value (.func f),args:=g,argTypes:=h })(y:V.funcs[f]?=J e)(z:(e.name== "runtime.NumGoroutine")=false)(A:e.body=J c)(B:g.map a.eval=vs)(C:∀d,Stop (G (ay V f vs .normal) (b.at a (.inRegion n (i::r)::k)::p)) (w.at d)):iv V q true j Stop (G (b.at a (.inRegion n (i::r)::k)) p) w:=by
 refine yg m (B6 t) u x y z A ?_;rw[B];exact λd=>.stop (C d)
theorem tF{d:gW->lT->Prop}{e:Nat->Option eZ}(h:iv V true true (ep l) (X V d l e c 0) t w):X V d l e c 0 t w:=u0 (st:=true) (h w.drawn)
end
section
theorem aa.nP(K:aa)(i:Nat)(a b:Int)(j c:Nat)(h:j≠i):(K.an i a b).F j c=K.F j c:=by
 simp[aa.an,aa.ni,upd,h]
theorem c0N{K:aa}(G:Good K)(i c:Nat)(v:Int):Good (K.ni i c v):=⟨G.dy,G.wr,G.file,G.pc,G.head,G.cnt,G.rd,G.wt,G.oq⟩
theorem ZD{K:aa}(G:Good K)(s p:Nat)(f:Int)(b:Bool)(l:p<4)(h:f=-1\/(0<=f/\f<K.nF))(j:b=true->f≠-1):Good (K.g9 s p f b):=by
 refine⟨?_,?_,?_,G.pc,G.head,G.cnt,G.rd,G.wt,?_⟩
 .intro i q a d;show upd K.S s (3+p*2) f i (3+q*2)=-1\/_
  by_cases e:i=s/\q=p
  .obtain⟨rfl,rfl⟩:=e;simp only[aa.dy,aa.g9,aa.cf,aa.oB,upd_same];exact h
  .have c:¬(i=s/\3+q*2=3+p*2):=by omega
   simp only[aa.dy,aa.g9,aa.cf,aa.oB,d6 _ c];exact G.dy i q a d
 .intro i q a d
  by_cases e:i=s/\q=p
  .obtain⟨rfl,rfl⟩:=e;simp only[aa.wr,aa.dy,aa.g9,aa.cf,aa.oB,upd_same];exact j
  .have c:¬(i=s/\3+q*2=3+p*2):=by omega
   have g:¬(i=s/\4+q*2=4+p*2):=by omega
   simp only[aa.wr,aa.dy,aa.g9,aa.cf,aa.oB,d6 _ c,d6 _ g];exact G.wr i q a d
 .intro i x a k;have c:¬(i=s/\11+x*2=3+p*2):=by omega
  simp only[aa.file,aa.g9,aa.cf,aa.oB,d6 _ c];exact G.file i x a k
 .intro i a;have c:¬(i=s/\0=3+p*2):=by omega
  have g:¬(i=s/\2=3+p*2):=by omega
  simp only[aa.g9,aa.cf,aa.oB,d6 _ c,d6 _ g];exact G.oq i a
theorem zO(K:aa)(d c:Nat)(v:Int)(i k:Nat):(K.np d c v).D i k=if i=d/\k=c then v else K.D i k:=rfl
theorem xR{K:aa}(G:Good K)(d c:Nat)(v:Int)(h:(c=0/\0<=v/\v<K.nF)\/(c=1/\0<=v/\v<4)\/(c=2/\0<=v/\v<=4)\/(c=3/\0<=v/\v<=24)\/(c=4/\0<=v/\v<=24)):Good (K.np d c v):=by
 refine⟨G.dy,G.wr,?_,?_,?_,?_,?_,?_,G.oq⟩
 .intro i x a b;rw[zO];rcases G.file i x a b with k|⟨e,f,g⟩
  .exact bP k
  .refine ba ⟨e,f,?_⟩;split
   .omega
   .exact g
 .intro i a;rw[zO];have:=G.pc i a;split
  .right;show 0<=v/\v<K.nF;omega
  .exact this
 .intro i a;rw[zO];have:=G.head i a;split<;>omega
 .intro i a;rw[zO];have:=G.cnt i a;split<;>omega
 .intro i a;rw[zO];have:=G.rd i a;split<;>omega
 .intro i a;rw[zO];have:=G.wt i a;split<;>omega
theorem FL{K:aa}(G:Good K)(s x:Nat)(d:Int)(b:Bool)(k:x<4)(h:d=-1\/(0<=d/\d<K.nD/\0<=K.D d.toNat 0)):Good (K.av s x d b):=by
 refine⟨?_,?_,?_,G.pc,G.head,G.cnt,G.rd,G.wt,?_⟩
 .intro i q a f;have c:¬(i=s/\3+q*2=11+x*2):=by omega
  simp only[aa.dy,aa.av,aa.cf,aa.oB,d6 _ c];exact G.dy i q a f
 .intro i q a f;have c:¬(i=s/\3+q*2=11+x*2):=by omega
  have g:¬(i=s/\4+q*2=12+x*2):=by omega
  simp only[aa.wr,aa.dy,aa.av,aa.cf,aa.oB,d6 _ c,d6 _ g];exact G.wr i q a f
 .intro i y a j
  by_cases e:i=s/\y=x
  .obtain⟨rfl,rfl⟩:=e;simp only[aa.file,aa.av,aa.cf,aa.oB,upd_same];exact h
  .have c:¬(i=s/\11+y*2=11+x*2):=by omega
   simp only[aa.file,aa.av,aa.cf,aa.oB,d6 _ c];exact G.file i y a j
 .intro i a;have c:¬(i=s/\0=11+x*2):=by omega
  have g:¬(i=s/\2=11+x*2):=by omega
  simp only[aa.av,aa.cf,aa.oB,d6 _ c,d6 _ g];exact G.oq i a
theorem Tu{K:aa}(G:Good K)(s x d:Nat)(b:Bool)(c:x<4)(f:d<K.nD)(e:0<=K.D d 0)(g:0<=K.D d 3/\K.D d 3<24)(h:0<=K.D d 4/\K.D d 4<24):Good (K.fc s x d b):=by
 have a:Good (K.av s x d b):=FL G s x d b c (ba ⟨by omega,by omega,by simpa using e⟩);cases b
 .exact xR a d 3 (K.D d 3+1) Za
 .exact xR a d 4 (K.D d 4+1) Za
def rp(a b d:Nat):aa:={ nF:=a,nS:=b,nD:=d,F:=λ_ c=>if c=1 then -1 else 0,S:=λ_ c=>if c=0\/c=19 then 0 else -1,B:=λ_ _=>false,D:=λ_ c=>if c=0 then -1 else 0 }
def K6(a b c:Nat):aa:=(((rp a b c).an 0 1 0).cf 0 0 2).cf 0 2 0
theorem Ve(f k l:Nat)(hF:2<=f):Good (K6 f k l):=by
 refine⟨?_,?_,?_,?_,?_,?_,?_,?_,?_⟩
 .intro i p g m;left;have a:¬(i=0/\3+p*2=0):=by omega
  have b:¬(i=0/\3+p*2=2):=by omega
  have j:¬(3+p*2=0\/3+p*2=19):=by omega
  simp only[aa.dy,K6,rp,aa.an,aa.cf,aa.ni,d6 _ a,d6 _ b,mY j]
 .intro i p g m h;cases h
 .intro i x g n;left;have a:¬(i=0/\11+x*2=0):=by omega
  have b:¬(i=0/\11+x*2=2):=by omega
  have j:¬(11+x*2=0\/11+x*2=19):=by omega
  simp only[aa.file,K6,rp,aa.an,aa.cf,aa.ni,d6 _ a,d6 _ b,mY j]
 .intro d c;left;rfl
 .intro d c;show(0:Int)<=0/\(0:Int)<4;omega
 .intro d c;show(0:Int)<=0/\(0:Int)<=4;omega
 .intro d c;show(0:Int)<=0/\(0:Int)<=24;omega
 .intro d c;show(0:Int)<=0/\(0:Int)<=24;omega
 .intro i g h
  by_cases e:i=0
  .subst e;show 0<=(0:Int)/\(0:Int)<f;omega
  .exfalso;apply h;have a:¬(i=0/\0=0):=by omega
   have b:¬(i=0/\0=2):=by omega
   simp only[K6,rp,aa.an,aa.cf,aa.ni,d6 _ a,d6 _ b];rfl
def E7(p:Nat->Bool):Nat->Nat
 | 0=>0
 | n+1=>E7 p n+if p n then 1 else 0
theorem Bw(p:Nat->Bool):∀n,E7 p n<=n
 | 0=>af _
 | n+1=>by have:=Bw p n;unfold E7;split<;>omega
theorem CX{p q:Nat->Bool}:∀n,(∀j,j<n->p j=q j)->E7 p n=E7 q n
 | 0,_=>rfl
 | n+1,h=>by unfold E7;rw[CX n λj a=>h j Za,h n Za]
theorem Pk{p q:Nat->Bool}(k:Nat):∀n,k<n->(∀j,j<n->j≠k->p j=q j)->E7 q n+(if p k then 1 else 0)=E7 p n+(if q k then 1 else 0)
 | 0,h,_=>by omega
 | n+1,h,e=>by
  unfold E7
  by_cases a:k=n
  .subst a;rw[CX k λj b=>e j Za Za];omega
  .have d:=Pk k n Za λj b c=>e j Za c
   grind
theorem HH{p:Nat->Bool}:∀n,E7 p n=0->∀j,j<n->p j=false
 | 0,_,j,hj=>by omega
 | n+1,h,j,hj=>by
  unfold E7 at h
  by_cases e:j=n
  .grind
  .exact HH n Za j Za
def aa.nZ(K:aa)(d:Nat)(b:Bool)(j:Nat):Bool:=K.file (j / 4) (j%4)==(d:Int)&&K.end (j / 4) (j%4)==b
def aa.ends(K:aa)(d:Nat)(b:Bool):Nat:=E7 (K.nZ d b) (K.nS*4)
structure Inv (K:aa):Prop where
 mL:Good K
 hS:K.nS<=6
 tc:∀d,d<K.nD->K.D d 3=K.ends d false
 sW:∀d,d<K.nD->K.D d 4=K.ends d true
theorem Ob{K a:aa}(c:a.nS=K.nS)(h:∀i x,i<K.nS->x<4->a.file i x=K.file i x/\a.end i x=K.end i x)(d:Nat)(b:Bool):a.ends d b=K.ends d b:=by
 unfold aa.ends;rw[c];refine CX _ λj e=>?_;unfold aa.nZ
 grind
theorem Inv.of{K a:aa}(I:Inv K)(G:Good a)(c:a.nS=K.nS)(e:a.nD=K.nD)(h:∀i x,i<K.nS->x<4->a.file i x=K.file i x/\a.end i x=K.end i x)(f:∀d,d<K.nD->a.D d 3=K.D d 3/\a.D d 4=K.D d 4):Inv a:=by
 refine⟨G,by rw[c];exact I.hS,λd b=>?_,λd b=>?_⟩
 .rw[e]at b;rw[(f d b).1,I.tc d b,Ob c h]
 .rw[e]at b;rw[(f d b).2,I.sW d b,Ob c h]
theorem zI(K:aa)(s x:Nat)(d:Int)(b:Bool)(i y:Nat)(a:y<4)(c:x<4):(K.av s x d b).file i y=if i=s/\y=x then d else K.file i y:=by
 show upd K.S s (11+x*2) d i (11+y*2)=_;unfold upd aa.file
 by_cases e:i=s/\y=x
 .rw[mZ e,mZ Za]
 .rw[mY e,mY Za]
theorem Cb(K:aa)(s x:Nat)(d:Int)(b:Bool)(i y:Nat)(a:y<4)(c:x<4):(K.av s x d b).end i y=if i=s/\y=x then b else K.end i y:=by
 show upd K.B s (12+x*2) b i (12+y*2)=_;unfold upd aa.end
 by_cases e:i=s/\y=x
 .rw[mZ e,mZ Za]
 .rw[mY e,mY Za]
theorem Ez(K:aa)(s x:Nat)(a:Int)(c:Bool)(p:s<K.nS)(i:x<4)(d:Nat)(b:Bool) :
  (K.av s x a c).ends d b+(if K.file s x=d/\K.end s x=b then 1 else 0)=K.ends d b+(if a=d/\c=b then 1 else 0):=by
 have h:=Pk (p:=K.nZ d b) (q:=(K.av s x a c).nZ d b) (s*4+x) (K.nS*4) Za (λj q r=>by
  unfold aa.nZ;have e:¬(j / 4=s/\j%4=x):=by omega
  rw[zI K s x a c _ _ Za i,Cb K s x a c _ _ Za i,mY e,mY e])
 have k:(s*4+x) / 4=s:=by omega
 have l:(s*4+x)%4=x:=by omega
 have m:∀(u v:Int) (f g:Bool),(u==v&&f==g)=decide (u=v/\f=g):=λu v f g=>by
  grind
 have n:K.nZ d b (s*4+x)=decide (K.file s x=d/\K.end s x=b):=by
  unfold aa.nZ;grind
 have o:(K.av s x a c).nZ d b (s*4+x)=decide (a=d/\c=b):=by
  unfold aa.nZ;rw[k,l,zI K s x a c _ _ i i,Cb K s x a c _ _ i i,mZ ⟨Z,Z⟩,mZ ⟨Z,Z⟩];exact m _ _ _ _
 rw[n,o]at h;simp only[decide_eq_true_eq]at h;exact h
theorem Inv.bounds{K:aa}(I:Inv K){d:Nat}(b:Bool):K.ends d b<=24:=by
 have:=Bw (K.nZ d b) (K.nS*4);have:=I.hS;unfold aa.ends;omega
theorem Inv.room{K:aa}(I:Inv K)(f:a<K.nS)(g:b<4)(i:K.file a b=-1)(d:Nat)(c:Bool):K.ends d c<24:=by
 have h:=Ez K a b d c f g d c;rw[mY (by rw[i];omega),mZ ⟨Z,Z⟩]at h;have:=Bw ((K.av a b d c).nZ d c) (K.nS*4);have e:(K.av a b d c).ends d c=E7 ((K.av a b d c).nZ d c) (K.nS*4):=Z;have:=I.hS;omega
theorem tO(K:aa)(d:Nat)(b:Bool)(m:Int)(i:Nat):(K.count d b m).D i 3=(if i=d/\b=false then K.D d 3+m else K.D i 3)/\(K.count d b m).D i 4=(if i=d/\b=true then K.D d 4+m else K.D i 4):=by
 cases b
 .simp[aa.count,aa.np,upd]
 .simp[aa.count,aa.np,upd]
theorem P4(K:aa)(d:Nat)(b:Bool)(m:Int):(K.count d b m).nF=K.nF/\(K.count d b m).nS=K.nS/\(K.count d b m).nD=K.nD/\(K.count d b m).S=K.S/\(K.count d b m).B=K.B/\(K.count d b m).F=K.F:=by
 cases b<;>exact⟨Z,Z,Z,Z,Z,Z⟩
theorem Ew{K:aa}:(K.count a p A).ends b q=K.ends b q:=by
 cases p<;>rfl
theorem CU{K:aa}(I:Inv K)(e:Bool)(i:a<K.nS)(g:b<4)(j:c<K.nD)(o:0<=K.D c 0)(n:K.file a b=-1):Inv (K.fc a b c e):=by
 have p:=I.tc c j;have q:=I.sW c j;have r:=I.room i g n c false;have s:=I.room i g n c true;have G:=Tu I.mL a b c e g j o Za Za;have E:∀d f,(K.fc a b c e).ends d f=K.ends d f+(if c=d/\e=f then 1 else 0):=λd f=>by
  unfold aa.fc;rw[Ew];have h:=Ez K a b c e i g d f
  grind
 have k:=P4 (K.av a b c e) c e 1;refine⟨G,by show((K.av a b c e).count c e 1).nS<=6;rw[k.2.1];exact I.hS,λd l=>?_,λd l=>?_⟩
 .have m:d<K.nD:=by have:d<((K.av a b c e).count c e 1).nD:=l;rw[k.2.2.1]at this;exact this
  rw[E d false];show((K.av a b c e).count c e 1).D d 3=_;rw[(tO _ c e 1 d).1];have:=I.tc d m;show(if d=c/\e=false then K.D c 3+1 else K.D d 3)=_
  grind
 .have m:d<K.nD:=by have:d<((K.av a b c e).count c e 1).nD:=l;rw[k.2.2.1]at this;exact this
  rw[E d true];show((K.av a b c e).count c e 1).D d 4=_;rw[(tO _ c e 1 d).2];have:=I.sW d m;show(if d=c/\e=true then K.D c 4+1 else K.D d 4)=_
  grind
theorem U5{K:aa}(I:Inv K):Inv (K.ni a b A):=I.of (c0N I.mL a b A) Z Z (λ_ _ _ _=>⟨Z,Z⟩) λ_ _=>⟨Z,Z⟩
theorem xq{K:aa}(I:Inv K)(i:Nat)(a b:Int):Inv (K.an i a b) :=
 U5 (U5 (U5 (U5 (U5 (U5 I)))))
theorem UD{K:aa}(I:Inv K)(g h:Nat):Inv (K.nj g h):=U5 (U5 (U5 (U5 I)))
theorem Iz{K:aa}(I:Inv K)(s p:Nat)(f:Int)(b:Bool)(a:p<4)(c:f=-1\/(0<=f/\f<K.nF))(d:b=true->f≠-1):Inv (K.g9 s p f b) :=
 I.of (ZD I.mL s p f b a c d) Z Z (λi x _ e=>⟨d6 (f:=K.S) (i:=s) (c:=3+p*2) (v:=f) i (b:=11+x*2) Za,d6 (f:=K.B) (i:=s) (c:=4+p*2) (v:=b) i (b:=12+x*2) Za⟩) λ_ _=>⟨Z,Z⟩
theorem GX{K:aa}(I:Inv K)(d c:Nat)(h:(c=1/\0<=A/\A<4)\/(c=2/\0<=A/\A<=4)):Inv (K.np d c A) :=
 I.of (xR I.mL d c A Za) Z Z (λ_ _ _ _=>⟨Z,Z⟩) λi _=>⟨d6 (f:=K.D) (i:=d) (c:=c) (v:=A) i (b:=3) Za,d6 (f:=K.D) (i:=d) (c:=c) (v:=A) i (b:=4) Za⟩
theorem Yw{K:aa}(G:Good K)(i c:Nat)(v:Int)(k:c=0\/c=1\/c=2\/c=19)(f:∀j,j<K.nS->(K.cf i c v).S j 0≠0->0<=(K.cf i c v).S j 2/\(K.cf i c v).S j 2<K.nF):Good (K.cf i c v):=by
 have d:∀j p,p<4->(K.cf i c v).dy j p=K.dy j p:=λj p d=>d6 (f:=K.S) (i:=i) (c:=c) (v:=v) j (b:=3+p*2) Za;have g:∀j x,x<4->(K.cf i c v).file j x=K.file j x:=λj x e=>d6 (f:=K.S) (i:=i) (c:=c) (v:=v) j (b:=11+x*2) Za;exact⟨λj p a b=>by rw[d j p b];exact G.dy j p a b,λj p a b h=>by rw[d j p b];exact G.wr j p a b h,λj x a e=>by rw[g j x e];exact G.file j x a e,G.pc,G.head,G.cnt,G.rd,G.wt,f⟩
theorem Cf{K:aa}(I:Inv K)(i c:Nat)(v:Int)(a:c=0\/c=1\/c=2\/c=19)(b:∀j,j<K.nS->(K.cf i c v).S j 0≠0->0<=(K.cf i c v).S j 2/\(K.cf i c v).S j 2<K.nF):Inv (K.cf i c v) :=
 I.of (Yw I.mL i c v a b) Z Z (λj x _ d=>⟨d6 (f:=K.S) (i:=i) (c:=c) (v:=v) j (b:=11+x*2) Za,Z⟩) λ_ _=>⟨Z,Z⟩
theorem Ft{K:aa}(I:Inv K)(i c:Nat)(v:Int)(e:c=1\/c=19):Inv (K.cf i c v) :=
 Cf I i c v Za (λj a h=>by
  have b:(K.cf i c v).S j 0=K.S j 0:=d6 (f:=K.S) (i:=i) (c:=c) (v:=v) j (b:=0) Za;have d:(K.cf i c v).S j 2=K.S j 2:=d6 (f:=K.S) (i:=i) (c:=c) (v:=v) j (b:=2) Za
  rw[b]at h;rw[d];exact I.mL.oq j a h)
theorem MP{K:aa}(I:Inv K)(i:Nat)(v:Int)(b:K.S i 0≠0):Inv (K.cf i 0 v) :=
 Cf I i 0 v Za (λj a h=>by
  have c:(K.cf i 0 v).S j 2=K.S j 2:=d6 (f:=K.S) (i:=i) (c:=0) (v:=v) j (b:=2) Za;rw[c]
  by_cases e:j=i
  .subst e;exact I.mL.oq j a b
  .have d:(K.cf i 0 v).S j 0=K.S j 0:=d6 (f:=K.S) (i:=i) (c:=0) (v:=v) j (b:=0) Za
   rw[d]at h;exact I.mL.oq j a h)
theorem Ut{K:aa}(I:Inv K)(d:b<4)(e:c<K.nF):Inv (pH K a b c).K:=by
 unfold pH;split
 .exact I
 split
 .exact I
 exact Iz (xq I c 2 a) a b c true d (ba ⟨by omega,by show(c:Int)<K.nF;omega⟩) Za
theorem Ow{K:aa}(I:Inv K)(c:b<4):Inv (K.nN a b):=by
 unfold aa.nN;exact Iz (xq I _ 0 (-1)) a b (-1) false c (bP Z) (by intro h;cases h)
theorem VM{K:aa}(I:Inv K)(c:b<4):Inv (N4 K a b).K:=by
 unfold N4;split
 .exact I
 exact Ow I c
theorem TQ{K:aa}(I:Inv K)(v:Int)(j:d<4):Inv (B3 K a d v).K:=by
 unfold B3;split
 .exact I
 rename_i h;have e:∀i q,q<4->¬(i=a/\q=d)->(K.oB a (4+d*2) (v != 0)).wr i q=K.wr i q:=λi q b e=>d6 (f:=K.B) (i:=a) (c:=4+d*2) i (b:=4+q*2) Za;refine I.of ⟨I.mL.dy,λi q g b c=>?_,I.mL.file,I.mL.pc,I.mL.head,I.mL.cnt,I.mL.rd,I.mL.wt,I.mL.oq⟩ Z Z (λi x _ k=>⟨Z,d6 (f:=K.B) (i:=a) (c:=4+d*2) i (b:=12+x*2) Za⟩) λ_ _=>⟨Z,Z⟩
 by_cases f:i=a/\q=d
 .obtain⟨rfl,rfl⟩:=f;exact h
 .rw[e i q b f]at c;exact I.mL.wr i q g b c
theorem Yx{K:aa}(I:Inv K)(s p x:Nat):Inv (J2 K s p x A).K:=by
 unfold J2;split
 .exact I
 .exact U5 I
theorem XY{K:aa}(I:Inv K)(s p x:Nat):Inv (Z4 K s p x).K:=by
 unfold Z4;split<;>exact I
theorem VC{K:aa}(I:Inv K)(e:a<K.nS)(f:b<4):Inv (H8 K a b c d).K:=by
 unfold H8;split
 .exact I
 rename_i h;split
 .exact I
 split
 .exact I
 split
 .exact I
 rename_i i j l;have g:(K.file a b).toNat<K.nD:=by rcases I.mL.file a b e f with k|k<;>omega
 have:=I.mL.cnt _ g;exact GX (U5 I) _ 2 Za
theorem c4F{K:aa}(I:Inv K)(f:a<K.nS)(g:b<4):Inv (Q0 K a b c d).K:=by
 unfold Q0;split
 .exact I
 rename_i h;split
 .exact I
 split
 .exact I
 split
 .exact I
 rename_i i j l;have e:(K.file a b).toNat<K.nD:=by rcases I.mL.file a b f g with k|k<;>omega
 have:=I.mL.cnt _ e;have:=I.mL.head _ e;exact GX (GX (U5 I) _ 1 Za) _ 2 Za
theorem c7O{K:aa}(I:Inv K)(d:a<K.nS)(e:b<4)(f:c<4):Inv (pZ K a b c).K:=by
 unfold pZ;split
 .exact I
 rename_i h;have g:=I.mL.file a b d e;exact CU I _ d f Za Za Za
theorem Qf{K:aa}(I:Inv K)(e:a<K.nS)(f:b<K.nS)(g:c<4)(i:d<4):Inv (P9 K a b c d).K:=by
 unfold P9;split
 .exact I
 split
 .exact I
 rename_i h;have j:=I.mL.file a c e g;exact CU I _ f i Za Za Za
theorem c1a{K:aa}(I:Inv K):Inv (Q8 K a b).K:=by
 unfold Q8;split
 .exact I
 rename_i h;refine MP I b 2 ?_;intro c;apply h;unfold aa.oa;rw[c];simp
theorem Uq{K:aa}(I:Inv K)(n:d<K.nF):Inv (G0 K a c d).K:=by
 unfold G0;split
 .exact I
 split
 .exact I
 rename_i o s;have k:Inv (K.an d 1 c):=xq I d 1 c;have hF:d<(K.an d 1 c).nF:=n;have l:K.S c 0=0:=by simpa using o
 have t:(K.an d 1 c).S c 0=0:=l;clear l;show Inv ((((K.an d 1 c).cf c 0 1).cf c 1 a).cf c 2 d);generalize K.an d 1 c=b at *;have p:((b.cf c 0 1).cf c 1 a).cf c 2 d=((b.cf c 2 d).cf c 0 1).cf c 1 a:=by
  unfold aa.cf
  congr 1
  funext i j;unfold upd
  grind
 rw[p]
 have m:Inv (b.cf c 2 d):=Cf k c 2 d Za (λj f h=>by
  have g:(b.cf c 2 d).S j 0=b.S j 0:=d6 (f:=b.S) (i:=c) (c:=2) (v:=d) j (b:=0) Za
  by_cases e:j=c
  .grind
  .rw[g]at h
   rw[show(b.cf c 2 d).S j 2=b.S j 2 from d6 (f:=b.S) (i:=c) (c:=2) (v:=d) j (b:=2) Za];exact k.mL.oq j f h)
 have q:Inv ((b.cf c 2 d).cf c 0 1):=Cf m c 0 1 Za (λj f h=>by
  have r:((b.cf c 2 d).cf c 0 1).S j 2=(b.cf c 2 d).S j 2:=d6 (f:=(b.cf c 2 d).S) (i:=c) (c:=0) (v:=1) j (b:=2) Za;rw[r]
  by_cases e:j=c
  .subst e;rw[show(b.cf j 2 d).S j 2=d from upd_same (f:=b.S) j 2 (v:=d)];show 0<=(d:Int)/\(d:Int)<b.nF;omega
  .have g:((b.cf c 2 d).cf c 0 1).S j 0=(b.cf c 2 d).S j 0:=d6 (f:=(b.cf c 2 d).S) (i:=c) (c:=0) (v:=1) j (b:=0) Za;rw[g]at h
   exact m.mL.oq j f h)
 exact Ft q c 1 a Za
theorem c4z{K:aa}(I:Inv K)(e:c<4)(f:d<K.nF):Inv (I9 K a b c d).K:=by
 unfold I9;split
 .exact I
 split
 .exact I
 split
 .exact I
 exact UD (Iz (xq I d 2 b) b c d _ e (ba ⟨by omega,by show(d:Int)<K.nF;omega⟩) Za) d _
theorem Hm{K:aa}(I:Inv K)(s:Nat):∀n,Inv (K.mg s n)
 | 0=>I
 | n+1=>by
  unfold aa.mg;split
  .exact Ft (Hm I s n) n 1 0 Za
  .exact Hm I s n
theorem Tg{K:aa}(I:Inv K)(b:Int)(h:K.S a 0≠0):Inv (Z3 K a b).K:=by
 unfold Z3;split
 .exact I
 exact Hm (Ft (MP I a 3 h) a 19 b Za) a K.nS
theorem ZG{K:aa}(I:Inv K)(d:c<4):Inv (X0 K a b c).K:=by
 unfold X0;split
 .exact I
 split
 .exact I
 exact Ow I d
theorem Er{K:aa}(d:Nat)(b:Bool)(h:∀i x,i<K.nS->x<4->K.file i x≠d):K.ends d b=0:=by
 unfold aa.ends;have:∀n,n<=K.nS*4->E7 (K.nZ d b) n=0:=λn=>by
  induction n with
  | zero=>intro _;rfl
  | succ n a =>
   intro c;unfold E7;rw[a Za];have:K.nZ d b n=false:=by
    unfold aa.nZ
    grind
   rw[this];simp
 grind
theorem So{K:aa}(h:K.ends a false=0)(i:K.ends a true=0)(j:b<K.nS)(k:c<4):K.file b c≠a:=by
 intro d;have e:(b*4+c) / 4=b:=by omega
 have f:(b*4+c)%4=c:=by omega
 cases g:K.end b c
 .have:=HH (p:=K.nZ a false) (K.nS*4) h (b*4+c) Za;unfold aa.nZ at this;rw[e,f,d,g]at this;simp at this
 .have:=HH (p:=K.nZ a true) (K.nS*4) i (b*4+c) Za;unfold aa.nZ at this;rw[e,f,d,g]at this;simp at this
theorem Z5(K:aa)(d:Nat)(f:Int)(i c:Nat):(K.hZ d f).D i c=if i=d/\c<5 then(if c=0 then f else 0) else K.D i c:=by
 unfold aa.hZ aa.np upd
 grind
theorem Vd{K:aa}(I:Inv K)(f:Int)(q:a<K.nD)(r:f=-1\/(0<=f/\f<K.nF))(h:∀i x,i<K.nS->x<4->K.file i x≠a)(j:Nat->Nat->Int)(d:Nat->Nat->Int)(g:∀i c,d i c=if i=a/\c<5 then(if c=0 then f else 0) else K.D i c):Inv { K with F:=j,D:=d }:=by
 have s:=Er a false h;have t:=Er a true h;have l:∀m b,aa.ends { K with F:=j,D:=d } m b=K.ends m b:=λ_ _=>rfl;refine⟨⟨I.mL.dy,I.mL.wr,?_,?_,?_,?_,?_,?_,I.mL.oq⟩,I.hS,?_,?_⟩
 .intro i x e n;have u:=h i x e n;rcases I.mL.file i x e n with k|⟨o,p,v⟩
  .exact bP k
  .refine ba ⟨o,p,?_⟩;show 0<=d (K.file i x).toNat 0
   grind
 .intro i e;show d i 0=-1\/(0<=d i 0/\d i 0<K.nF);rw[g];have:=I.mL.pc i e;grind
 .intro i e;show 0<=d i 1/\d i 1<4;rw[g];have:=I.mL.head i e;split
  .simp
  .exact this
 .intro i e;show 0<=d i 2/\d i 2<=4;rw[g];have:=I.mL.cnt i e;split
  .simp
  .exact this
 .intro i e;show 0<=d i 3/\d i 3<=24;rw[g];have:=I.mL.rd i e;split
  .simp
  .exact this
 .intro i e;show 0<=d i 4/\d i 4<=24;rw[g];have:=I.mL.wt i e;split
  .simp
  .exact this
 .intro i e;show d i 3=_;rw[g,l];have:=I.tc i e
  grind
 .intro i e;show d i 4=_;rw[g,l];have:=I.sW i e
  grind
theorem OV{K:aa}(I:Inv K)(f:Int)(b:a<K.nD)(c:f=-1\/(0<=f/\f<K.nF))(d:∀i x,i<K.nS->x<4->K.file i x≠a):Inv (K.hZ a f) :=
 Vd I f b c d K.F (K.hZ a f).D (Z5 K a f)
theorem ZP{K:aa}(I:Inv K)(o:a<K.nS)(p:b<K.nD)(q:c<K.nF)(C:d<4):Inv (B8 K a b c d).K:=by
 unfold B8;split
 .exact I
 rename_i r;split
 .exact I
 split
 .exact I
 rename_i s h;have g:Inv (K.an c 3 (-1)):=xq I c 3 (-1);have j:b<(K.an c 3 (-1)).nD:=p;have D:c<(K.an c 3 (-1)).nF:=q;have s0:a<(K.an c 3 (-1)).nS:=o;have E:d<3:=by omega
 have t:(K.an c 3 (-1)).file a d=-1:=by show K.file a d=-1;omega
 have u:(K.an c 3 (-1)).file a (d+1)=-1:=by show K.file a (d+1)=-1;omega
 have F:(K.an c 3 (-1)).D b 0=-1:=by show K.D b 0=-1;omega
 show Inv ((((K.an c 3 (-1)).hZ b c).fc a d b false).fc a (d+1) b true);clear r s h;generalize K.an c 3 (-1)=e at *
 have v:Inv (e.hZ b c):=OV g c j (ba ⟨by omega,by omega⟩) (λi y w x=>by
  rcases g.mL.file i y w x with k|⟨H,L,N⟩
  all_goals grind)
 have l:b<(e.hZ b c).nD:=j;have m:a<(e.hZ b c).nS:=s0;have z:(e.hZ b c).file a d=-1:=t;have A:(e.hZ b c).file a (d+1)=-1:=u;have n:0<=(e.hZ b c).D b 0:=by rw[Z5];simp
 generalize e.hZ b c=f at *;have B:Inv (f.fc a d b false):=CU v false m Za l n z;refine CU B true m Za l ?_ ?_
 .show 0<=upd f.D b 3 _ b 0;rw[d6 _ Za];exact n
 .show(f.av a d b false).file a (d+1)=-1;rw[zI f a d b false a (d+1) Za Za,mY Za];exact A
theorem Ng{K:aa}(I:Inv K)(p:a<K.nS)(m:b<4)(D:K.file a b≠-1):Inv (K.nv a b):=by
 have hF:=I.mL.file a b p m;obtain⟨d,q⟩:∃d:Nat,K.file a b=d:=⟨(K.file a b).toNat,by omega⟩;have n:d<K.nD:=by omega
 rw[q,au]at hF;unfold aa.nv;rw[q,au];generalize F:K.end a b=c;show Inv (if ((K.av a b (-1) false).count d c (-1)).D d 3=0/\((K.av a b (-1) false).count d c (-1)).D d 4=0 then(((K.av a b (-1) false).count d c (-1)).an (((K.av a b (-1) false).count d c (-1)).D d 0).toNat 0 (-1)).hZ d (-1) else(K.av a b (-1) false).count d c (-1));have g:=P4 (K.av a b (-1) false) d c (-1);have E:∀f j,((K.av a b (-1) false).count d c (-1)).ends f j+(if d=f/\c=j then 1 else 0)=K.ends f j:=λf j=>by
  rw[Ew];have h:=Ez K a b (-1) false p m f j
  grind
 have t:∀i,((K.av a b (-1) false).count d c (-1)).D i 3=if i=d/\c=false then K.D d 3 + -1 else K.D i 3:=λi=>(tO (K.av a b (-1) false) d c (-1) i).1
 have u:∀i,((K.av a b (-1) false).count d c (-1)).D i 4=if i=d/\c=true then K.D d 4 + -1 else K.D i 4:=λi=>(tO (K.av a b (-1) false) d c (-1) i).2
 have H:=I.tc d n;have L:=I.sW d n;have N:=I.bounds (d:=d) false;have P:=I.bounds (d:=d) true;have r:=E d c;rw[mZ ⟨Z,Z⟩]at r;have G:Good ((K.av a b (-1) false).count d c (-1)):=by
  have s:Good (K.av a b (-1) false):=FL I.mL a b (-1) false m (bP Z);cases c
  .exact xR s d 3 (K.D d 3 + -1) Za
  .exact xR s d 4 (K.D d 4 + -1) Za
 have l:Inv ((K.av a b (-1) false).count d c (-1)):=by
  refine⟨G,by rw[g.2.1];exact I.hS,λf k=>?_,λf k=>?_⟩
  .rw[g.2.2.1]at k;have:=E f false;have v:=I.tc f k
   grind
  .rw[g.2.2.1]at k;have:=E f true;have v:=I.sW f k
   grind
 have o:d<((K.av a b (-1) false).count d c (-1)).nD:=by rw[g.2.2.1];exact n
 clear E t u r G g;generalize (K.av a b (-1) false).count d c (-1)=e at *;split
 .rename_i R;have S:=l.tc d o;have T:=l.sW d o;have w:∀i y,i<e.nS->y<4->e.file i y≠d:=λi y x z=>So Za Za x z;have A:Inv (e.an (e.D d 0).toNat 0 (-1)):=xq l _ 0 (-1);have B:d<(e.an (e.D d 0).toNat 0 (-1)).nD:=o;have C:∀i y,i<(e.an (e.D d 0).toNat 0 (-1)).nS->y<4->(e.an (e.D d 0).toNat 0 (-1)).file i y≠d:=w;generalize e.an (e.D d 0).toNat 0 (-1)=W at *;exact OV A (-1) B (bP Z) C
 .exact l
theorem XA{K:aa}(I:Inv K)(c:a<K.nS)(d:b<4):Inv (N3 K a b).K:=by
 unfold N3;split
 .exact I
 exact Ng I c d (by assumption)
theorem c4H{K:aa}(I:Inv K)(d:b<K.nS)(e:c<4):Inv (X1 K a b c).K:=by
 unfold X1;split
 .exact I
 split
 .exact I
 exact Ng I d e (by assumption)
theorem c4G{K:aa}(I:Inv K)(t:b<K.nS):Inv (J9 K a b).K:=by
 unfold J9;split
 .exact I
 split
 .exact I
 split
 .exact I
 rename_i v w y;have f:Inv (K.an (K.S b 2).toNat 0 (-1)):=xq I _ 0 (-1);have z:b<(K.an (K.S b 2).toNat 0 (-1)).nS:=t;have A:∀x,x<4->(K.an (K.S b 2).toNat 0 (-1)).file b x=-1:=λx k=>by
  show K.file b x=-1
  grind
 show Inv ((K.an (K.S b 2).toNat 0 (-1)).nH b);generalize K.an (K.S b 2).toNat 0 (-1)=c at *;have m:∀i j,(c.nH b).S i j=if i=b then(if j=0\/j=19 then 0 else -1) else c.S i j:=λ_ _=>rfl
 have B:∀i j,(c.nH b).B i j=if i=b then false else c.B i j:=λ_ _=>rfl
 have q:∀i p,p<4->(c.nH b).dy i p=if i=b then -1 else c.dy i p:=λi p l=>by
  show(c.nH b).S i (3+p*2)=_;rw[m,mY (show ¬(3+p*2=0\/3+p*2=19) by omega)];rfl
 have C:∀i x,x<4->(c.nH b).file i x=if i=b then -1 else c.file i x:=λi x k=>by
  show(c.nH b).S i (11+x*2)=_;rw[m,mY (show ¬(11+x*2=0\/11+x*2=19) by omega)];rfl
 have r:∀i x,i<c.nS->x<4->(c.nH b).file i x=c.file i x:=λi x _ k=>by
  grind
 have G:Good (c.nH b):=by
  refine⟨λi p g l=>?_,λi p g l u=>?_,λi x g k=>?_,f.mL.pc,f.mL.head,f.mL.cnt,f.mL.rd,f.mL.wt,λi g h=>?_⟩
  .rw[q i p l];split
   .exact bP Z
   .exact f.mL.dy i p g l
  .have s:(if i=b then false else c.B i (4+p*2))=true:=u;rw[q i p l]
   by_cases e:i=b
   .grind
   .rw[mY e]at s;rw[mY e];exact f.mL.wr i p g l s
  .rw[r i x g k];exact f.mL.file i x g k
  .rw[m]at h
   by_cases e:i=b
   .grind
   .rw[mY e]at h;rw[m,mY e];exact f.mL.oq i g h
 have E:∀d n,(c.nH b).ends d n=c.ends d n:=λd n=>by
  unfold aa.ends;show E7 ((c.nH b).nZ d n) (c.nS*4)=_;refine CX _ λj D=>?_;unfold aa.nZ;have g:j / 4<c.nS:=by omega
  have k:j%4<4:=by omega
  by_cases e:j / 4=b
  .grind
  .rw[r _ _ g k,show(c.nH b).end (j / 4) (j%4)=c.end (j / 4) (j%4) from by show(if j / 4=b then false else c.B (j / 4) _)=_;rw[mY e];rfl]
 exact⟨G,f.hS,λd o=>by rw[E];exact f.tc d o,λd o=>by rw[E];exact f.sW d o⟩
theorem Th(a b c:Nat)(hF:2<=a)(f:b<=6):Inv (K6 a b c):=by
 have G:=Ve a b c hF;have e:∀d:Nat,∀i x,i<(K6 a b c).nS->x<4->(K6 a b c).file i x≠d:=λd i x l m=>by
  have g:¬(i=0/\11+x*2=0):=by omega
  have h:¬(i=0/\11+x*2=2):=by omega
  have j:¬(11+x*2=0\/11+x*2=19):=by omega
  simp only[aa.file,K6,rp,aa.an,aa.cf,aa.ni,d6 _ g,d6 _ h,mY j];omega
 exact⟨G,f,λd k=>by rw[Er d false (e d)];rfl,λd k=>by rw[Er d true (e d)];rfl⟩
theorem d8{K:aa}{t:Int}(h:C8 K t A=true)(a:t≠0):∃n:Nat,A=n/\(n:Int)<j4 K t:=by
 unfold C8 at h;simp[a]at h;exact⟨A.toNat,by omega,by omega⟩
theorem zG(K:aa):j4 K 1=K.nF:=rfl
theorem yi(K:aa):j4 K 2=K.nS:=rfl
theorem yN(K:aa):j4 K 3=K.nD:=rfl
theorem yz(K:aa):j4 K 4=4:=rfl
theorem yl(K:aa):j4 K 5=4:=rfl
theorem yH(K:aa):j4 K 6=4:=rfl
theorem RV{K:aa}(I:Inv K)(s n:Nat)(a b c:Int)(j:s<K.nS)(o:K.S s 0≠0)(q:n<20)(p:C8 K ((i7 n).getD 0 0) a=true/\C8 K ((i7 n).getD 1 0) b=true/\C8 K ((i7 n).getD 2 0) c=true):Inv (tr K s n a b c).K:=by
 let⟨d,g,k⟩:=p;have r:=zG K;have t:=yi K;have u:=yN K;have v:=yz K;have w:=yl K;have x:=yH K;cases n,(Za:n<20) using ox
 .exact I
 .exact I
 .obtain⟨e,rfl,f⟩:=d8 (t:=4) d Zb;obtain⟨h,rfl,i⟩:=d8 (t:=1) g Zb;exact Ut I Za Za
 .obtain⟨e,rfl,f⟩:=d8 (t:=4) d Zb;exact VM I Za
 .obtain⟨e,rfl,f⟩:=d8 (t:=4) d Zb;exact TQ I b Za
 .obtain⟨e,rfl,f⟩:=d8 (t:=2) d Zb;obtain⟨h,rfl,i⟩:=d8 (t:=1) g Zb;exact Uq I Za
 .obtain⟨e,rfl,f⟩:=d8 (t:=2) d Zb;obtain⟨h,rfl,i⟩:=d8 (t:=4) g Zb;obtain⟨l,rfl,m⟩:=d8 (t:=1) k Zb;exact c4z I Za Za
 .obtain⟨e,rfl,f⟩:=d8 (t:=2) d Zb;obtain⟨h,rfl,i⟩:=d8 (t:=5) g Zb;obtain⟨l,rfl,m⟩:=d8 (t:=5) k Zb;exact Qf I j Za Za Za
 .exact c1a I
 .exact Tg I a o
 .obtain⟨e,rfl,f⟩:=d8 (t:=2) d Zb;obtain⟨h,rfl,i⟩:=d8 (t:=4) g Zb;exact ZG I Za
 .obtain⟨e,rfl,f⟩:=d8 (t:=2) d Zb;obtain⟨h,rfl,i⟩:=d8 (t:=5) g Zb;exact c4H I Za Za
 .obtain⟨e,rfl,f⟩:=d8 (t:=2) d Zb;exact c4G I Za
 .obtain⟨e,rfl,f⟩:=d8 (t:=3) d Zb;obtain⟨h,rfl,i⟩:=d8 (t:=1) g Zb;obtain⟨l,rfl,m⟩:=d8 (t:=5) k Zb;exact ZP I j Za Za Za
 .obtain⟨e,rfl,f⟩:=d8 (t:=5) d Zb;obtain⟨h,rfl,i⟩:=d8 (t:=5) g Zb;exact c7O I j Za Za
 .obtain⟨e,rfl,f⟩:=d8 (t:=5) d Zb;exact XA I j Za
 .obtain⟨e,rfl,f⟩:=d8 (t:=5) d Zb;exact VC I j Za
 .obtain⟨e,rfl,f⟩:=d8 (t:=5) d Zb;exact c4F I j Za
 .exact XY I s _ _
 .exact Yx I s _ _
theorem c4y{K:aa}(I:Inv K)(e d a b c:Int):Inv (i5 K e d a b c).K:=by
 unfold i5
 by_cases f:¬(0<=d/\d<20)\/d=0
 .grind
 rw[mY f]
 by_cases g:¬(0<=e/\e<K.nS)\/K.S e.toNat 0≠2
 .grind
 rw[mY g]
 by_cases h:C8 K ((i7 d.toNat).getD 0 0) a=false\/C8 K ((i7 d.toNat).getD 1 0) b=false\/C8 K ((i7 d.toNat).getD 2 0) c=false
 .grind
 rw[mY h];have i:C8 K ((i7 d.toNat).getD 0 0) a=true:=by grind
 have j:C8 K ((i7 d.toNat).getD 1 0) b=true:=by grind
 have k:C8 K ((i7 d.toNat).getD 2 0) c=true:=by grind
 exact RV I e.toNat d.toNat a b c Za Za Za ⟨i,j,k⟩
inductive Place where
 | oq (i:Nat)
 | dy (i p:Nat)
 | ring (d:Nat)
def Place.kind:Place->Int
 | .oq _=>1
 | .dy _ _=>2
 | .ring _=>3
def Place.owner:Place->Int
 | .oq i=>i
 | .dy i _=>i
 | .ring _=>-1
def aa.has(K:aa):Place->Prop
 | .oq i=>i<K.nS
 | .dy i p=>i<K.nS/\p<4
 | .ring d=>d<K.nD
def aa.loc(K:aa):Place->Int
 | .oq i=>if K.S i 0=0 then -1 else K.S i 2
 | .dy i p=>K.dy i p
 | .ring d=>K.D d 0
structure Own (K:aa):Prop where
 tx:∀x,K.has x->K.loc x=-1\/(0<=K.loc x/\K.loc x<K.nF)
 what:∀x,K.has x->∀n:Nat,K.loc x=n->K.F n 0=x.kind/\K.F n 1=x.owner
 one:∀x y,K.has x->K.has y->∀n:Nat,K.loc x=n->K.loc y=n->x=y
 all:∀n,n<K.nF->K.F n 0≠0->∃x,K.has x/\K.loc x=n
theorem Place.vt(x:Place):x.kind≠0:=by cases x<;>simp[Place.kind]
structure nT (K K':aa):Prop where
 f:K'.nF=K.nF
 s:K'.nS=K.nS
 d:K'.nD=K.nD
theorem nT.has{K a:aa}(h:nT K a)(x:Place):a.has x↔K.has x:=by
 cases x<;>simp only[aa.has,h.s,h.d]
theorem Own.same{K d:aa}(a:Own K)(z:nT K d)(f:∀y,K.has y->d.loc y=K.loc y)(hF:∀n,d.F n 0=K.F n 0/\d.F n 1=K.F n 1):Own d:=by
 refine⟨λx b=>?_,λx b n c=>?_,λx y b g n c h=>?_,λn c i=>?_⟩
 .have b:=(z.has x).1 b;rw[f x b,z.f];exact a.tx x b
 .have b:=(z.has x).1 b;rw[f x b]at c;rw[(hF n).1,(hF n).2];exact a.what x b n c
 .have b:=(z.has x).1 b;have g:=(z.has y).1 g;rw[f x b]at c;rw[f y g]at h;exact a.one x y b g n c h
 .rw[z.f]at c;rw[(hF n).1]at i;let⟨x,b,e⟩:=a.all n c i;exact⟨x,(z.has x).2 b,by grind⟩
theorem Own.take{K c:aa}(a:Own K)(z:nT K c)(x:Place)(m:K.has x)(f:Nat)(r:f<K.nF)(o:K.F f 0=0)(s:K.loc x=-1)(j:c.loc x=f)(g:∀y,K.has y->y≠x->c.loc y=K.loc y)(t:c.F f 0=x.kind/\c.F f 1=x.owner)(hF:∀n,n≠f->c.F n 0=K.F n 0/\c.F n 1=K.F n 1):Own c:=by
 have u:∀y,K.has y->K.loc y≠f:=λy b e=>Place.vt y ((a.what y b f e).1.symm.trans o);refine⟨λy b=>?_,λy b n d=>?_,λy h b i n d k=>?_,λn d l=>?_⟩
 .have b:=(z.has y).1 b
  by_cases e:y=x
  .subst e;rw[j,z.f];omega
  .rw[g y b e,z.f];exact a.tx y b
 .have b:=(z.has y).1 b
  by_cases e:y=x
  .grind
  .rw[g y b e]at d;have:n≠f:=by grind
   rw[(hF n this).1,(hF n this).2];exact a.what y b n d
 .have b:=(z.has y).1 b;have i:=(z.has h).1 i
  by_cases e:y=x
  .grind
  .by_cases p:h=x
   .grind
   .rw[g y b e]at d;rw[g h i p]at k;exact a.one y h b i n d k
 .rw[z.f]at d
  by_cases e:n=f
  .subst e;exact⟨x,(z.has x).2 m,j⟩
  .rw[(hF n e).1]at l;let⟨y,b,q⟩:=a.all n d l;refine⟨y,(z.has y).2 b,?_⟩;rw[g y b];exact q;rintro rfl;omega
theorem Own.free{K d:aa}(a:Own K)(z:nT K d)(x:Place)(m:K.has x)(f:Nat)(o:K.loc x=f)(j:d.loc x=-1)(g:∀y,K.has y->y≠x->d.loc y=K.loc y)(s:d.F f 0=0)(hF:∀n,n≠f->d.F n 0=K.F n 0/\d.F n 1=K.F n 1):Own d:=by
 have t:∀y,K.has y->y≠x->K.loc y≠f:=λy b p e=>p (a.one y x b m f e o);refine⟨λy b=>?_,λy b n c=>?_,λy h b i n c k=>?_,λn c l=>?_⟩
 .have b:=(z.has y).1 b
  by_cases e:y=x
  .grind
  .rw[g y b e,z.f];exact a.tx y b
 .have b:=(z.has y).1 b
  by_cases e:y=x
  .subst e;rw[j]at c;omega
  .rw[g y b e]at c;have:n≠f:=by grind
   rw[(hF n this).1,(hF n this).2];exact a.what y b n c
 .have b:=(z.has y).1 b;have i:=(z.has h).1 i
  by_cases e:y=x
  .subst e;rw[j]at c;omega
  .by_cases q:h=x
   .grind
   .rw[g y b e]at c;rw[g h i q]at k;exact a.one y h b i n c k
 .rw[z.f]at c
  by_cases e:n=f
  .grind
  .rw[(hF n e).1]at l;let⟨y,b,r⟩:=a.all n c l;refine⟨y,(z.has y).2 b,?_⟩;rw[g y b];exact r;rintro rfl;omega
theorem Mb{K:aa}(s p:Nat)(f:Int)(b:Bool):(K.g9 s p f b).loc (.dy s p)=f:=upd_same (f:=K.S) s (3+p*2) (v:=f)
theorem MF{K:aa}(s p:Nat)(f:Int)(b:Bool)(y:Place)(h:y≠.dy s p):(K.g9 s p f b).loc y=K.loc y:=by
 cases y with
 | oq i =>
  show(if upd K.S s (3+p*2) f i 0=0 then -1 else upd K.S s (3+p*2) f i 2)=if K.S i 0=0 then -1 else K.S i 2
  rw[d6 _ Za,d6 _ Za]
 | dy i q =>
  show upd K.S s (3+p*2) f i (3+q*2)=K.S i (3+q*2);refine d6 _ ?_
  grind
 | ring d=>rfl
theorem JG(K:aa)(s x:Nat)(d:Int)(b:Bool)(y:Place)(a:K.has y):(K.av s x d b).loc y=K.loc y:=by
 cases y with
 | oq i =>
  show(if upd K.S s (11+x*2) d i 0=0 then -1 else upd K.S s (11+x*2) d i 2)=if K.S i 0=0 then -1 else K.S i 2
  rw[d6 _ Za,d6 _ Za]
 | dy i q =>
  show upd K.S s (11+x*2) d i (3+q*2)=K.S i (3+q*2);have:q<4:=a.2;exact d6 _ Za
 | ring d=>rfl
theorem Ii(K:aa)(d c:Nat)(v:Int)(a:c≠0)(y:Place):(K.np d c v).loc y=K.loc y:=by
 cases y with
 | oq i=>rfl
 | dy i q=>rfl
 | ring e=>exact d6 _ Za
theorem LF{K:aa}(d:Nat)(b:Bool)(m:Int)(y:Place):(K.count d b m).loc y=K.loc y:=by
 cases b
 .exact Ii K d 3 _ Za y
 .exact Ii K d 4 _ Za y
theorem Sx(K:aa)(s x d:Nat)(b:Bool)(y:Place)(a:K.has y):(K.fc s x d b).loc y=K.loc y:=by
 unfold aa.fc;rw[LF,JG K s x d b y a]
theorem ZB(K:aa)(s x d:Nat)(b:Bool):(K.fc s x d b).F=K.F:=by
 unfold aa.fc;rw[(P4 _ d b 1).2.2.2.2.2];rfl
theorem Wg(K:aa)(s x d:Nat)(b:Bool):nT K (K.fc s x d b):=by
 have h:=P4 (K.av s x d b) d b 1;exact⟨h.1,h.2.1,h.2.2.1⟩
theorem Ms{K:aa}(d:Nat)(f:Int):(K.hZ d f).loc (.ring d)=f:=by
 show(K.hZ d f).D d 0=f;rw[Z5];simp
theorem OI{K:aa}(d:Nat)(f:Int)(y:Place)(h:y≠.ring d):(K.hZ d f).loc y=K.loc y:=by
 cases y with
 | oq i=>rfl
 | dy i q=>rfl
 | ring e =>
  show(K.hZ d f).D e 0=K.D e 0;rw[Z5,mY]
  grind
theorem K5(K:aa)(i:Nat)(a b:Int):(K.an i a b).F i 0=a/\(K.an i a b).F i 1=b:=by
 simp[aa.an,aa.ni,upd]
theorem zM(K:aa)(i:Nat)(a b:Int)(y:Place):(K.an i a b).loc y=K.loc y:=by cases y<;>rfl
theorem c2s(K:aa)(i c:Nat)(v:Int)(a:2<=c)(n:Nat):(K.ni i c v).F n 0=K.F n 0/\(K.ni i c v).F n 1=K.F n 1 :=
 ⟨d6 _ Za,d6 _ Za⟩
theorem Ww(K:aa)(i c:Nat)(v:Int)(y:Place):(K.ni i c v).loc y=K.loc y:=by cases y<;>rfl
theorem xN{K:aa}(c:Own K)(d:2<=b):Own (K.ni a b A):=c.same ⟨Z,Z,Z⟩ (λy _=>Ww K a b A y) (c2s K a b A d)
theorem Is{K:aa}(a:Own K)(d c:Nat)(b:c≠0):Own (K.np d c A):=a.same ⟨Z,Z,Z⟩ (λy _=>Ii K d c A b y) λ_=>⟨Z,Z⟩
theorem c4Y(K:aa)(i c:Nat)(v:Int)(b:c=1\/c=19)(y:Place)(a:K.has y):(K.cf i c v).loc y=K.loc y:=by
 cases y with
 | oq j =>
  show(if upd K.S i c v j 0=0 then -1 else upd K.S i c v j 2)=if K.S j 0=0 then -1 else K.S j 2
  rw[d6 _ Za,d6 _ Za]
 | dy j q =>
  have:q<4:=a.2;exact d6 _ Za
 | ring e=>rfl
theorem IV{K:aa}(a:Own K)(i c:Nat)(v:Int)(b:c=1\/c=19):Own (K.cf i c v):=a.same ⟨Z,Z,Z⟩ (λy d=>c4Y K i c v b y d) λ_=>⟨Z,Z⟩
theorem c4W(K:aa)(i:Nat)(v:Int)(a:K.S i 0≠0)(b:v≠0)(y:Place)(c:K.has y):(K.cf i 0 v).loc y=K.loc y:=by
 cases y with
 | oq j =>
  show(if upd K.S i 0 v j 0=0 then -1 else upd K.S i 0 v j 2)=if K.S j 0=0 then -1 else K.S j 2
  rw[d6 j (b:=2) Za]
  by_cases e:j=i
  .subst e;rw[upd_same,mY b,mY a]
  .rw[d6 _ Za]
 | dy j q =>
  exact d6 _ Za
 | ring e=>rfl
theorem Mu{K:aa}(a:Own K)(i:Nat)(v:Int)(b:K.S i 0≠0)(c:v≠0):Own (K.cf i 0 v):=a.same ⟨Z,Z,Z⟩ (λy d=>c4W K i v b c y d) λ_=>⟨Z,Z⟩
theorem Ri{K e:aa}(d:Own K)(f:Bool)(g:a<K.nS)(h:b<4)(i:c<K.nF)(j:K.F c 0=0)(k:K.dy a b=-1)(z:nT K e)(l:∀y,e.loc y=K.loc y)(m:e.F c 0=2/\e.F c 1=a)(hF:∀n,n≠c->e.F n 0=K.F n 0/\e.F n 1=K.F n 1):Own (e.g9 a b c f) :=
 d.take ⟨z.f,z.s,z.d⟩ (.dy a b) ⟨g,h⟩ c i j k (Mb a b c f) (λy _ o=>(MF a b c f y o).trans (l y)) m hF
theorem KY{K:aa}(d:Own K)(e:Bool)(g:a<K.nS)(h:b<4)(i:c<K.nF)(j:K.F c 0=0)(k:K.dy a b=-1):Own ((K.an c 2 a).g9 a b c e) :=
 Ri d e g h i j k ⟨Z,Z,Z⟩ (zM K c 2 a) (K5 K c 2 a) λn f=>⟨aa.nP K c 2 a n 0 f,aa.nP K c 2 a n 1 f⟩
theorem b1a{K e:aa}(d:Own K)(f:a<K.nS)(g:b<4)(h:K.dy a b=c)(z:nT K e)(i:∀y,e.loc y=K.loc y)(j:e.F c 0=0)(hF:∀n,n≠c->e.F n 0=K.F n 0/\e.F n 1=K.F n 1):Own (e.g9 a b (-1) false) :=
 d.free ⟨z.f,z.s,z.d⟩ (.dy a b) ⟨f,g⟩ c h (Mb a b (-1) false) (λy _ k=>(MF a b (-1) false y k).trans (i y)) j hF
theorem OU{K:aa}(c:Own K)(d:a<K.nS)(e:b<4)(l:K.dy a b≠-1):Own (K.nN a b):=by
 have i:K.has (.dy a b):=⟨d,e⟩;have j:=c.tx _ i;have k:K.loc (.dy a b)=K.dy a b:=Z;rw[k]at j;obtain⟨f,g⟩:∃f:Nat,K.dy a b=f:=⟨(K.dy a b).toNat,by omega⟩;unfold aa.nN;rw[g,au];exact b1a c d e g ⟨Z,Z,Z⟩ (zM K f 0 (-1)) (K5 K f 0 (-1)).1 λn h=>⟨aa.nP K f 0 (-1) n 0 h,aa.nP K f 0 (-1) n 1 h⟩
theorem Dh{K:aa}(a:Own K)(s x d:Nat)(b:Bool):Own (K.fc s x d b) :=
 a.same (Wg K s x d b) (λy c=>Sx K s x d b y c) λn=>by rw[ZB];exact⟨Z,Z⟩
theorem c8o{K:aa}(d:Own K)(e:a<K.nS)(f:b<4)(g:c<K.nF):Own (pH K a b c).K:=by
 unfold pH;split
 .exact d
 split
 .exact d
 exact KY d true e f g Za Za
theorem Xw{K:aa}(c:Own K)(d:a<K.nS)(e:b<4):Own (N4 K a b).K:=by
 unfold N4;split
 .exact c
 exact OU c d e (by assumption)
theorem U2{K:aa}(c:Own K)(v:Int):Own (B3 K a b v).K:=by
 unfold B3;split
 .exact c
 exact c.same ⟨Z,Z,Z⟩ (λy _=>by cases y<;>rfl) λ_=>⟨Z,Z⟩
theorem ZO{K:aa}(a:Own K)(s p x:Nat):Own (J2 K s p x A).K:=by
 unfold J2;split
 .exact a
 .exact xN a Za
theorem c5s{K:aa}(a:Own K)(s p x:Nat):Own (Z4 K s p x).K:=by
 unfold Z4;split<;>exact a
theorem Yu{K:aa}(a:Own K)(s x p j:Nat):Own (H8 K s x p j).K:=by
 unfold H8;split
 .exact a
 split
 .exact a
 split
 .exact a
 split
 .exact a
 exact Is (xN a Za) _ 2 Za
theorem ZL{K:aa}(a:Own K)(s x p j:Nat):Own (Q0 K s x p j).K:=by
 unfold Q0;split
 .exact a
 split
 .exact a
 split
 .exact a
 split
 .exact a
 exact Is (Is (xN a Za) _ 1 Za) _ 2 Za
theorem Sq{K:aa}(a:Own K)(s x t:Nat):Own (pZ K s x t).K:=by
 unfold pZ;split
 .exact a
 exact Dh a _ _ _ _
theorem QB{K:aa}(a:Own K)(s c x t:Nat):Own (P9 K s c x t).K:=by
 unfold P9;split
 .exact a
 split
 .exact a
 exact Dh a _ _ _ _
theorem Dw{K:aa}{s c:Nat}(h:¬K.oa s c=false):K.S c 1=s/\K.S c 0=1:=by
 unfold aa.oa at h;simpa using h
theorem Np{K:aa}{s c:Nat}(h:¬K.still s c=false):K.S c 1=s/\(K.S c 0=1\/K.S c 0=3):=by
 unfold aa.still at h
 grind
theorem WB{K:aa}(a:Own K)(s c:Nat):Own (Q8 K s c).K:=by
 unfold Q8;split
 .exact a
 rename_i h;have:=Dw h;exact Mu a c 2 Za Za
theorem Ix{K:aa}(a:Own K)(s:Nat):∀n,Own (K.mg s n)
 | 0=>a
 | n+1=>by
  unfold aa.mg;split
  .exact IV (Ix a s n) n 1 0 Za
  .exact Ix a s n
theorem WS{K:aa}(b:Own K)(c:Int)(h:K.S a 0≠0):Own (Z3 K a c).K:=by
 unfold Z3;split
 .exact b
 exact Ix (IV (Mu b a 3 h Za) a 19 c Za) a K.nS
theorem Xh{K:aa}(d:Own K)(e:b<K.nS)(f:c<4):Own (X0 K a b c).K:=by
 unfold X0;split
 .exact d
 split
 .exact d
 exact OU d e f (by assumption)
theorem Qt{K:aa}(a:Own K)(g h:Nat):Own (K.nj g h):=xN (xN (xN (xN a Za) Za) Za) Za
theorem Se{K:aa}(e:Own K)(f:b<K.nS)(g:c<4)(h:d<K.nF):Own (I9 K a b c d).K:=by
 unfold I9;split
 .exact e
 split
 .exact e
 split
 .exact e
 exact Qt (KY e _ f g h Za Za) d _
theorem Yd{K f:aa}(e:Own K)(l:b<K.nS)(m:c<K.nF)(o:K.S b 0=0)(p:K.F c 0=0)(z:nT K f)(r:∀y,f.loc y=K.loc y)(s:f.F c 0=1/\f.F c 1=b)(hF:∀n,n≠c->f.F n 0=K.F n 0/\f.F n 1=K.F n 1):Own (((f.cf b 0 1).cf b 1 a).cf b 2 c):=by
 have h:∀i j,(((f.cf b 0 1).cf b 1 a).cf b 2 c).S i j=if i=b/\j=2 then(c:Int) else if i=b/\j=1 then(a:Int) else if i=b/\j=0 then 1 else f.S i j:=λ_ _=>rfl
 have k:(((f.cf b 0 1).cf b 1 a).cf b 2 c).F=f.F:=Z;have t:(((f.cf b 0 1).cf b 1 a).cf b 2 c).D=f.D:=Z;have u:nT K (((f.cf b 0 1).cf b 1 a).cf b 2 c):=⟨z.f,z.s,z.d⟩;generalize ((f.cf b 0 1).cf b 1 a).cf b 2 c=g at *;refine e.take u (.oq b) l c m p (by show(if K.S b 0=0 then(-1:Int) else _)=-1;rw[mZ o]) ?_ ?_ (by rw[k];exact s) (by rw[k];exact hF)
 .show(if g.S b 0=0 then(-1:Int) else g.S b 2)=c;rw[h,h];simp
 .intro y w v;rw[←r y]
  cases y with
  | oq i =>
   have x:i≠b:=by rintro rfl;exact v Z
   show(if g.S i 0=0 then(-1:Int) else g.S i 2)=if f.S i 0=0 then -1 else f.S i 2
   grind
  | dy i q =>
   show g.S i (3+q*2)=f.S i (3+q*2)
   grind
  | ring d =>
   show g.D d 0=f.D d 0;rw[t]
theorem c1O{K:aa}(d:Own K)(f:b<K.nS)(g:c<K.nF):Own (G0 K a b c).K:=by
 unfold G0;split
 .exact d
 split
 .exact d
 exact Yd d f g Za Za ⟨Z,Z,Z⟩ (zM K c 1 b) (K5 K c 1 b) λn e=>⟨aa.nP K c 1 b n 0 e,aa.nP K c 1 b n 1 e⟩
theorem Us{K f:aa}(c:Own K)(h:a<K.nS)(r:K.S a 0≠0)(s:K.S a 2=b)(j:∀p,p<4->K.dy a p=-1)(z:nT K f)(g:∀y,f.loc y=K.loc y)(k:f.F b 0=0)(hF:∀n,n≠b->f.F n 0=K.F n 0/\f.F n 1=K.F n 1):Own (f.nH a):=by
 refine c.free ⟨z.f,z.s,z.d⟩ (.oq a) h b (by show(if K.S a 0=0 then(-1:Int) else K.S a 2)=b;grind) ?_ ?_ k hF
 .show(if (if a=a then(if 0=0\/0=19 then(0:Int) else -1) else f.S a 0)=0 then(-1:Int) else _)=-1;simp
 .intro y l m;rw[←g y]
  cases y with
  | oq i =>
   have t:i≠a:=by rintro rfl;exact m Z
   show(if (if i=a then(if 0=0\/0=19 then(0:Int) else -1) else f.S i 0)=0 then(-1:Int) else(if i=a then(if 2=0\/2=19 then(0:Int) else -1) else f.S i 2))=if f.S i 0=0 then -1 else f.S i 2
   grind
  | dy i q =>
   have o:q<4:=l.2;show(if i=a then(if 3+q*2=0\/3+q*2=19 then(0:Int) else -1) else f.S i (3+q*2))=f.loc (.dy i q)
   by_cases e:i=a
   .subst e;rw[mZ Z,mY Za,g];exact(j q o).symm
   .rw[mY e];rfl
  | ring d=>rfl
theorem RX{K:aa}(c:Own K)(G:Good K)(d:b<K.nS):Own (J9 K a b).K:=by
 unfold J9;split
 .exact c
 split
 .exact c
 split
 .exact c
 rename_i i l m;have o:=Np i;have j:=c.tx (.oq b) d;have e:K.loc (.oq b)=K.S b 2:=by show(if K.S b 0=0 then(-1:Int) else K.S b 2)=_;grind
 rw[e]at j;have g:∀p,p<4->K.dy b p=-1:=λp g=>by
  grind
 have q:∀f:Nat,K.S b 2=f->Own ((K.an f 0 (-1)).nH b):=λf k =>
  Us c d Za k g ⟨Z,Z,Z⟩ (zM K f 0 (-1)) (K5 K f 0 (-1)).1 λn h=>⟨aa.nP K f 0 (-1) n 0 h,aa.nP K f 0 (-1) n 1 h⟩
 have:=G.oq b d Za
 grind
theorem WZ{K d:aa}(c:Own K)(e:a<K.nD)(f:b<K.nF)(g:K.F b 0=0)(h:K.D a 0=-1)(z:nT K d)(i:∀y,d.loc y=K.loc y)(j:d.F b 0=3/\d.F b 1=-1)(hF:∀a,a≠b->d.F a 0=K.F a 0/\d.F a 1=K.F a 1):Own (d.hZ a b) :=
 c.take ⟨z.f,z.s,z.d⟩ (.ring a) e b f g h (Ms a b) (λy _ k=>(OI a b y k).trans (i y)) j hF
theorem c5x{K:aa}(c:Own K)(d:a<K.nD)(e:b<K.nF)(f:K.F b 0=0)(g:K.D a 0=-1):Own ((K.an b 3 (-1)).hZ a b) :=
 WZ c d e f g ⟨Z,Z,Z⟩ (zM K b 3 (-1)) (K5 K b 3 (-1)) λa d=>⟨aa.nP K b 3 (-1) a 0 d,aa.nP K b 3 (-1) a 1 d⟩
theorem SF{K:aa}(e:Own K)(g:b<K.nD)(h:c<K.nF):Own (B8 K a b c d).K:=by
 by_cases i:K.D b 0≠-1
 .unfold B8;grind
 by_cases j:K.F c 0≠0
 .unfold B8;grind
 have k:Own ((K.an c 3 (-1)).hZ b c):=c5x e g h Za Za;unfold B8;rw[mY i,mY j];generalize (K.an c 3 (-1)).hZ b c=f at *;split
 .exact e
 have l:Own (f.fc a d b false):=Dh k a d b false;show Own ((f.fc a d b false).fc a (d+1) b true);generalize f.fc a d b false=m at *;exact Dh l a (d+1) b true
theorem b5W{K d:aa}(c:Own K)(e:a<K.nD)(f:K.D a 0=b)(z:nT K d)(g:∀y,d.loc y=K.loc y)(h:d.F b 0=0)(hF:∀n,n≠b->d.F n 0=K.F n 0/\d.F n 1=K.F n 1):Own (d.hZ a (-1)) :=
 c.free ⟨z.f,z.s,z.d⟩ (.ring a) e b f (Ms a (-1)) (λy _ i=>(OI a (-1) y i).trans (g y)) h hF
theorem Vw{K:aa}(c:Own K)(e:a<K.nD)(f:K.D a 0=b):Own ((K.an b 0 (-1)).hZ a (-1)) :=
 b5W c e f ⟨Z,Z,Z⟩ (zM K b 0 (-1)) (K5 K b 0 (-1)).1 λn d=>⟨aa.nP K b 0 (-1) n 0 d,aa.nP K b 0 (-1) n 1 d⟩
theorem GW(K:aa)(d:Nat)(b:Bool)(m:Int)(i:Nat):(K.count d b m).D i 0=K.D i 0:=by
 cases b<;>exact d6 _ Za
theorem Lr{K:aa}(c:Own K)(G:Good K)(l:a<K.nS)(m:b<4)(r:K.file a b≠-1):Own (K.nv a b):=by
 have hF:=G.file a b l m;obtain⟨d,h⟩:∃d:Nat,K.file a b=d:=⟨(K.file a b).toNat,by omega⟩;have o:d<K.nD:=by omega
 rw[h,au]at hF;unfold aa.nv;rw[h,au];generalize s:K.end a b=e;show Own (if ((K.av a b (-1) false).count d e (-1)).D d 3=0/\((K.av a b (-1) false).count d e (-1)).D d 4=0 then(((K.av a b (-1) false).count d e (-1)).an (((K.av a b (-1) false).count d e (-1)).D d 0).toNat 0 (-1)).hZ d (-1) else(K.av a b (-1) false).count d e (-1));have g:=P4 (K.av a b (-1) false) d e (-1);have i:Own ((K.av a b (-1) false).count d e (-1)):=c.same ⟨g.1,g.2.1,g.2.2.1⟩ (λy p=>(LF d e (-1) y).trans (JG K a b (-1) false y p)) (λn=>by rw[g.2.2.2.2.2];exact⟨Z,Z⟩);have t:((K.av a b (-1) false).count d e (-1)).D d 0=K.D d 0:=GW _ d e (-1) d;have q:d<((K.av a b (-1) false).count d e (-1)).nD:=by rw[g.2.2.1];exact o
 generalize (K.av a b (-1) false).count d e (-1)=j at *;split
 .obtain⟨f,k⟩:∃f:Nat,j.D d 0=f:=⟨(j.D d 0).toNat,by omega⟩;rw[k,au];exact Vw i q k
 .exact i
theorem Yf{K:aa}(c:Own K)(G:Good K)(d:a<K.nS)(e:b<4):Own (N3 K a b).K:=by
 unfold N3;split
 .exact c
 exact Lr c G d e (by assumption)
theorem Wv{K:aa}(d:Own K)(G:Good K)(e:b<K.nS)(f:c<4):Own (X1 K a b c).K:=by
 unfold X1;split
 .exact d
 split
 .exact d
 exact Lr d G e f (by assumption)
theorem UK{K:aa}(d:Own K)(G:Good K)(s n:Nat)(a b c:Int)(k:s<K.nS)(l:K.S s 0≠0)(p:n<20)(m:C8 K ((i7 n).getD 0 0) a=true/\C8 K ((i7 n).getD 1 0) b=true/\C8 K ((i7 n).getD 2 0) c=true):Own (tr K s n a b c).K:=by
 let⟨e,h,o⟩:=m;have q:=zG K;have r:=yi K;have t:=yN K;have u:=yz K;have v:=yl K;have w:=yH K;cases n,(Za:n<20) using ox
 .exact d
 .exact d
 .obtain⟨f,rfl,g⟩:=d8 (t:=4) e Zb;obtain⟨i,rfl,j⟩:=d8 (t:=1) h Zb;exact c8o d k Za Za
 .obtain⟨f,rfl,g⟩:=d8 (t:=4) e Zb;exact Xw d k Za
 .exact U2 d b
 .obtain⟨f,rfl,g⟩:=d8 (t:=2) e Zb;obtain⟨i,rfl,j⟩:=d8 (t:=1) h Zb;exact c1O d Za Za
 .obtain⟨f,rfl,g⟩:=d8 (t:=2) e Zb;obtain⟨i,rfl,j⟩:=d8 (t:=4) h Zb;obtain⟨x,rfl,y⟩:=d8 (t:=1) o Zb;exact Se d Za Za Za
 .exact QB d _ _ _ _
 .exact WB d _ _
 .exact WS d a l
 .obtain⟨f,rfl,g⟩:=d8 (t:=2) e Zb;obtain⟨i,rfl,j⟩:=d8 (t:=4) h Zb;exact Xh d Za Za
 .obtain⟨f,rfl,g⟩:=d8 (t:=2) e Zb;obtain⟨i,rfl,j⟩:=d8 (t:=5) h Zb;exact Wv d G Za Za
 .obtain⟨f,rfl,g⟩:=d8 (t:=2) e Zb;exact RX d G Za
 .obtain⟨f,rfl,g⟩:=d8 (t:=3) e Zb;obtain⟨i,rfl,j⟩:=d8 (t:=1) h Zb;exact SF d Za Za
 .exact Sq d _ _ _
 .obtain⟨f,rfl,g⟩:=d8 (t:=5) e Zb;exact Yf d G k Za
 .exact Yu d _ _ _ _
 .exact ZL d _ _ _ _
 .exact c5s d s _ _
 .exact ZO d s _ _
theorem Hq(K:aa)(d f a b c:Int)(P:Out->Prop)(g:∀e,P ⟨K,0,e⟩)(h:∀s n:Nat,d=s->s<K.nS->K.S s 0=2->n<20->C8 K ((i7 n).getD 0 0) a=true/\C8 K ((i7 n).getD 1 0) b=true/\C8 K ((i7 n).getD 2 0) c=true->P (tr K s n a b c)):P (i5 K d f a b c):=by
 unfold i5
 grind
theorem Rj{K:aa}(d:Own K)(G:Good K)(e f a b c:Int):Own (i5 K e f a b c).K :=
 Hq K e f a b c (λo=>Own o.K) (λ_=>d) λs n _ g j h i=>UK d G s n a b c g Za h i
theorem T4(a b c:Nat)(hF:2<=a)(j:1<=b):Own (K6 a b c):=by
 have L:∀x,(K6 a b c).has x->(K6 a b c).loc x=-1\/(x=.oq 0/\(K6 a b c).loc x=0):=λx f=>by
  cases x with
  | oq i =>
   by_cases e:i=0
   .subst e;right;refine⟨Z,?_⟩;simp[aa.loc,K6,rp,aa.an,aa.cf,aa.ni,upd]
   .left;simp[aa.loc,K6,rp,aa.an,aa.cf,aa.ni,upd,e]
  | dy i p =>
   left;have k:¬(i=0/\3+p*2=0):=by omega
   have l:¬(i=0/\3+p*2=2):=by omega
   have q:p<4:=f.2;have m:¬(3+p*2=0\/3+p*2=19):=by omega
   simp only[aa.loc,aa.dy,K6,rp,aa.an,aa.cf,aa.ni,d6 _ k,d6 _ l,mY m]
  | ring d =>
   left;simp[aa.loc,K6,rp,aa.an,aa.cf,aa.ni]
 have o:(K6 a b c).F 0 0=1/\(K6 a b c).F 0 1=0:=by simp[K6,rp,aa.an,aa.cf,aa.ni,upd]
 have Fn:∀n,n≠0->(K6 a b c).F n 0=0:=λn g=>by simp[K6,rp,aa.an,aa.cf,aa.ni,upd,g]
 refine⟨λx f=>?_,λx f n g=>?_,λx y f r n g s=>?_,λn g t=>?_⟩
 .rcases L x f with h|⟨_,h⟩
  .exact bP h
  .right;rw[h];exact⟨by omega,by show(0:Int)<(a:Int);omega⟩
 .rcases L x f with h|⟨e,h⟩
  .omega
  .have:n=0:=by omega
   subst this;subst e;exact o
 .grind
 .by_cases e:n=0
  .subst e;refine⟨.oq 0,j,?_⟩;rcases L (.oq 0) j with h|⟨_,h⟩
   .have:(K6 a b c).loc (.oq 0)=0:=by simp[aa.loc,K6,rp,aa.an,aa.cf,aa.ni,upd]
    omega
   .exact h
  grind
structure iP (K:aa):Prop where
 vm:∀i x,x<4->K.file i x=-1->K.end i x=false
 sK:∀i j,i<K.nS->K.S i 0=0->0<j->j<20->¬oV j->K.S i j=if j=19 then 0 else -1
 uG:∀f,K.F f 0=0->K.F f 1=-1
 uu:∀f,K.F f 0=0\/K.F f 0=1->∀j,j<4->K.F f (2+j)=0
 th:∀d,d<K.nD->K.D d 0=-1->K.D d 1=0/\K.D d 2=0
variable{K:aa}
theorem Rm(p:Nat):¬oV (3+p*2):=by unfold oV;omega
theorem c1G(x:Nat):¬oV (11+x*2):=by unfold oV;omega
theorem iP.dy(N:iP K)(c:a<K.nS)(d:K.S a 0=0)(e:b<4):K.dy a b=-1:=by
 have:=N.sK a (3+b*2) c d Za Za (Rm b);rw[mY Za]at this;exact this
theorem iP.file(N:iP K)(c:a<K.nS)(d:K.S a 0=0)(e:b<4):K.file a b=-1:=by
 have:=N.sK a (11+b*2) c d Za Za (c1G b);rw[mY Za]at this;exact this
theorem iP.parent(N:iP K){i:Nat}(a:i<K.nS)(b:K.S i 0=0):K.S i 1=-1:=by
 have:=N.sK i 1 a b Za Za (by unfold oV;omega);rw[mY Za]at this;exact this
theorem iP.table(N:iP K)(b:a<K.nS)(c:K.S a 0=0):K.S a 2=-1:=by
 have:=N.sK a 2 b c Za Za (by unfold oV;omega);rw[mY Za]at this;exact this
theorem iP.code(N:iP K)(b:a<K.nS)(c:K.S a 0=0):K.S a 19=0:=by
 have:=N.sK a 19 b c Za Za (by unfold oV;omega)
 grind
theorem x8(N:iP K)(f c:Nat)(v:Int)(i:2<=c)(h:K.F f 0≠0/\K.F f 0≠1):iP (K.ni f c v):=by
 have b:∀g,(K.ni f c v).F g 0=K.F g 0:=λg=>d6 _ Za;have d:∀g,(K.ni f c v).F g 1=K.F g 1:=λg=>d6 _ Za;refine⟨N.vm,N.sK,λg a=>?_,λg a j e=>?_,N.th⟩
 .rw[b]at a;rw[d];exact N.uG g a
 .rw[b]at a;have:(K.ni f c v).F g (2+j)=K.F g (2+j):=d6 _ (by grind);rw[this];exact N.uu g a j e
theorem Hp(K:aa)(i:Nat)(a b:Int)(c:Nat):(K.an i a b).F i c=if c=0 then a else if c=1 then b else if c<6 then 0 else K.F i c:=by
 unfold aa.an aa.ni upd
 grind
theorem V0(N:iP K)(f:Nat)(a b:Int)(h:a=0->b=-1):iP (K.an f a b):=by
 have A:=Hp K f a b;have o:∀g c,g≠f->(K.an f a b).F g c=K.F g c:=λg c k=>aa.nP K f a b g c k;have p:(K.an f a b).S=K.S:=Z;have s:(K.an f a b).B=K.B:=Z;have t:(K.an f a b).D=K.D:=Z;have u:(K.an f a b).nS=K.nS:=Z;have v:(K.an f a b).nD=K.nD:=Z;generalize K.an f a b=B at *;refine⟨λi x w m=>?_,λi j q l n y z=>?_,λg k=>?_,λg k j n=>?_,λd r l=>?_⟩
 .unfold aa.file at m;unfold aa.end;rw[p]at m;rw[s];exact N.vm i x w m
 .rw[p]at l ⊢;rw[u]at q;exact N.sK i j q l n y z
 .by_cases e:g=f
  .grind
  .rw[o g _ e]at k ⊢;exact N.uG g k
 .by_cases e:g=f
  .grind
  .rw[o g _ e]at k ⊢;exact N.uu g k j n
 .rw[t]at l ⊢;rw[v]at r;exact N.th d r l
theorem GV(N:iP K)(s p:Nat)(f:Int)(b:Bool)(r:p<4)(h:K.S s 0≠0\/f=-1):iP (K.g9 s p f b):=by
 have d:∀i,(K.g9 s p f b).S i 0=K.S i 0:=λi=>d6 (f:=K.S) (i:=s) (c:=3+p*2) (v:=f) i (b:=0) Za;refine⟨λi x g c=>?_,λi j k a l m n=>?_,N.uG,N.uu,N.th⟩
 .have o:(K.g9 s p f b).file i x=K.file i x:=d6 (f:=K.S) (i:=s) (c:=3+p*2) (v:=f) i (b:=11+x*2) Za;have q:(K.g9 s p f b).end i x=K.end i x:=d6 (f:=K.B) (i:=s) (c:=4+p*2) (v:=b) i (b:=12+x*2) Za;rw[o]at c;rw[q];exact N.vm i x g c
 .rw[d]at a;show upd K.S s (3+p*2) f i j=_
  by_cases e:i=s/\j=3+p*2
  .obtain⟨rfl,rfl⟩:=e;rw[upd_same,mY Za];rcases h with h|h
   .exact absurd a h
   .exact h
  .rw[d6 _ e];exact N.sK i j k a l m n
theorem Nq(N:iP K)(s x:Nat)(d:Int)(b:Bool)(g:x<4)(h:K.S s 0≠0\/d=-1)(k:d=-1->b=false):iP (K.av s x d b):=by
 have l:∀i,(K.av s x d b).S i 0=K.S i 0:=λi=>d6 (f:=K.S) (i:=s) (c:=11+x*2) (v:=d) i (b:=0) Za;refine⟨λi y a c=>?_,λi j m f n o k=>?_,N.uG,N.uu,N.th⟩
 .rw[zI K s x d b i y a g]at c;rw[Cb K s x d b i y a g]
  by_cases e:i=s/\y=x
  .grind
  .rw[mY e]at c ⊢;exact N.vm i y a c
 .rw[l]at f;show upd K.S s (11+x*2) d i j=_
  by_cases e:i=s/\j=11+x*2
  .obtain⟨rfl,rfl⟩:=e;rw[upd_same,mY Za];rcases h with h|h
   .exact absurd f h
   .exact h
  .rw[d6 _ e];exact N.sK i j m f n o k
theorem Al(N:iP K)(d c:Nat)(h:3<=c\/(c≠0/\K.D d 0≠-1)):iP (K.np d c A):=by
 refine⟨N.vm,N.sK,N.uG,N.uu,λe g a=>?_⟩;have i:(K.np d c A).D e 0=K.D e 0:=d6 _ Za;rw[i]at a
 by_cases k:e=d
 .subst k;have j:3<=c:=by grind
  have b:(K.np e c A).D e 1=K.D e 1:=d6 _ Za;have f:(K.np e c A).D e 2=K.D e 2:=d6 _ Za;rw[b,f];exact N.th e g a
 .have b:(K.np d c A).D e 1=K.D e 1:=d6 _ Za;have f:(K.np d c A).D e 2=K.D e 2:=d6 _ Za;rw[b,f];exact N.th e g a
theorem Kd(N:iP K)(d:Nat)(b:Bool)(m:Int):iP (K.count d b m):=by
 cases b
 .exact Al N d 3 Za
 .exact Al N d 4 Za
theorem CS(N:iP K)(s x d:Nat)(b:Bool)(a:x<4)(h:K.S s 0≠0):iP (K.fc s x d b) :=
 Kd (Nq N s x d b a (bP h) Za) d b 1
theorem KX(N:iP K)(d:Nat)(f:Int):iP (K.hZ d f):=by
 refine⟨N.vm,N.sK,N.uG,N.uu,λe b a=>?_⟩;rw[Z5,Z5];rw[Z5]at a
 by_cases k:e=d
 .subst k;simp
 .rw[mY Za]at a;rw[mY Za,mY Za];exact N.th e b a
theorem Ts(N:iP K)(s a:Nat)(d:a<4):iP (K.oB s (4+a*2) p) :=
 ⟨λi x b c=>by rw[show(K.oB s (4+a*2) p).end i x=K.end i x from d6 (f:=K.B) (i:=s) (c:=4+a*2) (v:=p) i (b:=12+x*2) Za];exact N.vm i x b c,N.sK,N.uG,N.uu,N.th⟩
theorem xH(N:iP K)(s c:Nat)(v:Int)(o:c=0\/c=1\/c=2\/c=19)(h:(K.cf s c v).S s 0≠0):iP (K.cf s c v):=by
 refine⟨λi x d a=>?_,λi j f b g k l=>?_,N.uG,N.uu,N.th⟩
 .have:(K.cf s c v).file i x=K.file i x:=d6 (f:=K.S) (i:=s) (c:=c) (v:=v) i (b:=11+x*2) Za;rw[this]at a;exact N.vm i x d a
 .by_cases e:i=s
  .grind
  .have m:(K.cf s c v).S i 0=K.S i 0:=d6 _ Za;have n:(K.cf s c v).S i j=K.S i j:=d6 _ Za;rw[m]at b;rw[n];exact N.sK i j f b g k l
theorem a9C(N:iP K)(g h:Nat)(e:K.F g 0=2):iP (K.nj g h):=by
 have k:∀(a:aa) c v,2<=c->a.F g 0=2->(a.ni g c v).F g 0=2:=λa c v l f=>(d6 (f:=a.F) (i:=g) (c:=c) (v:=v) g (b:=0) Za).trans f;unfold aa.nj;have i:=k K 2 (K.F h 2) Za e;have n1:=x8 N g 2 (K.F h 2) Za Za;generalize K.ni g 2 (K.F h 2)=b at *;have j:=k b 3 (K.F h 3) Za i;have n2:=x8 n1 g 3 (K.F h 3) Za Za;generalize b.ni g 3 (K.F h 3)=d at *;have m:=k d 4 (K.F h 4) Za j;have n3:=x8 n2 g 4 (K.F h 4) Za Za;generalize d.ni g 4 (K.F h 4)=n at *;exact x8 n3 g 5 (K.F h 5) Za Za
theorem YC(N:iP K)(c:Nat):iP (K.nH c):=by
 have d:∀i j,(K.nH c).S i j=if i=c then(if j=0\/j=19 then 0 else -1) else K.S i j:=λ_ _=>rfl
 have f:∀i j,(K.nH c).B i j=if i=c then false else K.B i j:=λ_ _=>rfl
 refine⟨λi x g a=>?_,λi j h b k l m=>?_,N.uG,N.uu,N.th⟩
 .unfold aa.end aa.file at *;rw[f];rw[d]at a
  by_cases e:i=c
  .rw[mZ e]
  .rw[mY e]at a ⊢;exact N.vm i x g a
 .rw[d]at b ⊢
  by_cases e:i=c
  .grind
  .rw[mY e]at b ⊢;exact N.sK i j h b k l m
theorem Jb(N:iP K)(c:b<4):iP (K.nN a b):=by
 unfold aa.nN;have n1:iP (K.an (K.dy a b).toNat 0 (-1)):=V0 N _ 0 (-1) λ_=>rfl;generalize K.an (K.dy a b).toNat 0 (-1)=d at *;exact GV n1 a b (-1) false c (ba Z)
theorem Zx(N:iP K)(f:b<4)(g:K.S a 0≠0):iP (pH K a b c).K:=by
 by_cases d:K.dy a b≠-1
 .unfold pH;rw[mZ d];exact N
 by_cases e:K.F c 0≠0
 .unfold pH;rw[mY d,mZ e];exact N
 unfold pH;rw[mY d,mY e];have n1:iP (K.an c 2 a):=V0 N c 2 a Za;have h:(K.an c 2 a).S a 0≠0:=g;show iP ((K.an c 2 a).g9 a b c true);generalize K.an c 2 a=i at *;exact GV n1 a b c true f (bP h)
theorem Sy(N:iP K)(c:b<4):iP (N4 K a b).K:=by
 unfold N4;split
 .exact N
 .exact Jb N c
theorem b3I(N:iP K)(v:Int)(c:b<4):iP (B3 K a b v).K:=by
 unfold B3;split
 .exact N
 .exact Ts N a b c
theorem TB(N:iP K)(s p x:Nat):iP (Z4 K s p x).K:=by
 unfold Z4;split<;>exact N
theorem Yz(N:iP K)(d:Own K)(G:Good K)(v:Int)(e:a<K.nS)(g:b<4):iP (J2 K a b c v).K:=by
 unfold J2;split
 .exact N
 rename_i h;have j:=G.wr a b e g (by simpa using h);have k:=G.dy a b e g;obtain⟨f,i⟩:∃f:Nat,K.dy a b=f:=⟨(K.dy a b).toNat,by omega⟩;have l:K.F f 0=2:=(d.what (.dy a b) ⟨e,g⟩ f i).1;rw[i,au];exact x8 N f _ v Za Za
theorem UL(N:iP K)(e:Own K)(G:Good K)(k:a<K.nS)(l:b<4):iP (H8 K a b c d).K:=by
 unfold H8;split
 .exact N
 rename_i h;split
 .exact N
 split
 .exact N
 split
 .exact N
 have hF:=G.file a b k l;obtain⟨g,i⟩:∃g:Nat,K.file a b=g:=⟨(K.file a b).toNat,by omega⟩;rw[i,au]at hF;obtain⟨f,j⟩:∃f:Nat,K.D g 0=f:=⟨(K.D g 0).toNat,by omega⟩;have m:K.F f 0=3:=(e.what (.ring g) (show g<K.nD by omega) f j).1;rw[i,au,j,au];exact Al (x8 N f _ _ Za Za) g 2 (ba ⟨by omega,by show K.D g 0≠-1;omega⟩)
theorem c1w(N:iP K)(e:Own K)(G:Good K)(i:a<K.nS)(o:b<4)(j:c<4):iP (Q0 K a b c d).K:=by
 unfold Q0;split
 .exact N
 rename_i h;split
 .exact N
 rename_i p;split
 .exact N
 split
 .exact N
 have hF:=G.file a b i o;obtain⟨g,l⟩:∃g:Nat,K.file a b=g:=⟨(K.file a b).toNat,by omega⟩;rw[l,au]at hF;have r:=G.wr a c i j (by simpa using p);have s:=G.dy a c i j;obtain⟨f,m⟩:∃f:Nat,K.dy a c=f:=⟨(K.dy a c).toNat,by omega⟩;have t:K.F f 0=2:=(e.what (.dy a c) ⟨i,j⟩ f m).1;rw[l,au,m,au];generalize K.F (K.D g 0).toNat (2+(K.D g 1).toNat)=v;have n1:iP (K.ni f (2+d) v):=x8 N f _ v Za Za;have n:(K.ni f (2+d) v).D g 0≠-1:=by show K.D g 0≠-1;omega
 have q:(K.ni f (2+d) v).D=K.D:=Z;rw[←q];generalize K.ni f (2+d) v=k at *;have n2:iP (k.np g 1 ((k.D g 1+1)%4)):=Al n1 g 1 (ba ⟨by omega,n⟩);refine Al n2 g 2 (ba ⟨by omega,?_⟩);show upd k.D g 1 _ g 0≠-1;rw[d6 _ Za];exact n
theorem c5e(N:iP K)(d:c<4)(e:K.S a 0≠0):iP (pZ K a b c).K:=by
 unfold pZ;split
 .exact N
 .exact CS N _ _ _ _ d e
theorem c1t(N:iP K)(e:d<4):iP (P9 K a b c d).K:=by
 unfold P9;split
 .exact N
 rename_i h;split
 .exact N
 have:=Dw h;exact CS N _ _ _ _ e Za
theorem XK(N:iP K):iP (Q8 K a b).K:=by
 unfold Q8;split
 .exact N
 exact xH N b 0 2 Za (by rw[show(K.cf b 0 2).S b 0=2 from upd_same _ _];omega)
theorem Di(K:aa)(s:Nat):∀n,(K.mg s n).nS=K.nS
 | 0=>rfl
 | n+1=>by
  unfold aa.mg;split
  .exact Di K s n
  .exact Di K s n
theorem Oq(N:iP K)(s:Nat):∀n,n<=K.nS->iP (K.mg s n)
 | 0,_=>N
 | n+1,hn=>by
  have a:=Oq N s n Za;unfold aa.mg;split
  .rename_i h;refine xH a n 1 0 Za ?_;rw[show((K.mg s n).cf n 1 0).S n 0=(K.mg s n).S n 0 from d6 _ Za];intro b;have:=a.parent (i:=n) (by rw[Di];omega) b;omega
  .exact a
theorem Tj(N:iP K)(b:Int):iP (Z3 K a b).K:=by
 unfold Z3;split
 .exact N
 have n1:iP (K.cf a 0 3):=xH N a 0 3 Za (by rw[show(K.cf a 0 3).S a 0=3 from upd_same _ _];omega);have d:(K.cf a 0 3).S a 0≠0:=by rw[show(K.cf a 0 3).S a 0=3 from upd_same _ _];omega
 have e:(K.cf a 0 3).nS=K.nS:=Z;show iP (((K.cf a 0 3).cf a 19 b).mg a K.nS);generalize K.cf a 0 3=c at *;have n2:iP (c.cf a 19 b):=xH n1 a 19 b Za (by rw[show(c.cf a 19 b).S a 0=c.S a 0 from d6 _ Za];exact d);have f:(c.cf a 19 b).nS=K.nS:=e;generalize c.cf a 19 b=g at *;exact Oq n2 a K.nS Za
theorem RZ(N:iP K)(d:c<4):iP (X0 K a b c).K:=by
 unfold X0;split
 .exact N
 split
 .exact N
 exact Jb N d
theorem PV(N:iP K)(g:c<4):iP (I9 K a b c d).K:=by
 by_cases e:K.oa a b=false
 .unfold I9;rw[mZ e];exact N
 unfold I9;rw[mY e];split
 .exact N
 split
 .exact N
 have:=Dw e;have n1:iP (K.an d 2 b):=V0 N d 2 b Za;have h:(K.an d 2 b).S b 0≠0:=by show K.S b 0≠0;omega
 have i:(K.an d 2 b).F d 0=2:=(K5 K d 2 b).1;show iP (((K.an d 2 b).g9 b c d (K.wr a c)).nj d (K.dy a c).toNat);generalize K.an d 2 b=f at *;have n2:iP (f.g9 b c d (K.wr a c)):=GV n1 b c d _ g (bP h);have j:(f.g9 b c d (K.wr a c)).F d 0=2:=i;generalize f.g9 b c d (K.wr a c)=k at *;exact a9C n2 d _ j
theorem b7W(N:iP K):iP (G0 K a b c).K:=by
 by_cases f:K.S b 0≠0
 .unfold G0;rw[mZ f];exact N
 by_cases g:K.F c 0≠0
 .unfold G0;rw[mY f,mZ g];exact N
 unfold G0;rw[mY f,mY g];have n1:iP (K.an c 1 b):=V0 N c 1 b Za;show iP ((((K.an c 1 b).cf b 0 1).cf b 1 a).cf b 2 c);generalize K.an c 1 b=e at *;have n2:iP (e.cf b 0 1):=xH n1 b 0 1 Za (by rw[show(e.cf b 0 1).S b 0=1 from upd_same _ _];omega);have h:(e.cf b 0 1).S b 0≠0:=by rw[show(e.cf b 0 1).S b 0=1 from upd_same _ _];omega
 generalize e.cf b 0 1=d at *;have n3:iP (d.cf b 1 a):=xH n2 b 1 a Za (by rw[show(d.cf b 1 a).S b 0=d.S b 0 from d6 _ Za];exact h);have j:(d.cf b 1 a).S b 0≠0:=by rw[show(d.cf b 1 a).S b 0=d.S b 0 from d6 _ Za];exact h
 generalize d.cf b 1 (a:Int)=i at *;exact xH n3 b 2 c Za (by rw[show(i.cf b 2 c).S b 0=i.S b 0 from d6 _ Za];exact j)
theorem QQ(N:iP K):iP (J9 K a b).K:=by
 unfold J9;split
 .exact N
 split
 .exact N
 split
 .exact N
 have n1:iP (K.an (K.S b 2).toNat 0 (-1)):=V0 N _ 0 (-1) λ_=>rfl;show iP ((K.an (K.S b 2).toNat 0 (-1)).nH b);generalize K.an (K.S b 2).toNat 0 (-1)=c at *;exact YC n1 b
theorem c1v(N:iP K)(k:d<4)(l:K.S a 0≠0):iP (B8 K a b c d).K:=by
 by_cases g:K.D b 0≠-1
 .unfold B8;rw[mZ g];exact N
 by_cases i:K.F c 0≠0
 .unfold B8;rw[mY g,mZ i];exact N
 have n1:iP ((K.an c 3 (-1)).hZ b c):=KX (V0 N c 3 (-1) Za) b c;have j:((K.an c 3 (-1)).hZ b c).S a 0≠0:=l;unfold B8;rw[mY g,mY i];generalize (K.an c 3 (-1)).hZ b c=f at *;split
 .exact N
 rename_i h;have n2:iP (f.fc a d b false):=CS n1 a d b false k j;have m:(f.fc a d b false).S a 0≠0:=by
  have e:(f.fc a d b false).S a 0=f.S a 0:=by
   show upd f.S a (11+d*2) b a 0=_;exact d6 _ Za
  rw[e];exact j
 show iP ((f.fc a d b false).fc a (d+1) b true);generalize f.fc a d b false=n at *;exact CS n2 a (d+1) b true Za m
theorem KQ(N:iP K)(f:b<4):iP (K.nv a b):=by
 unfold aa.nv;generalize (K.file a b).toNat=d;generalize K.end a b=c;show iP (if ((K.av a b (-1) false).count d c (-1)).D d 3=0/\((K.av a b (-1) false).count d c (-1)).D d 4=0 then(((K.av a b (-1) false).count d c (-1)).an (((K.av a b (-1) false).count d c (-1)).D d 0).toNat 0 (-1)).hZ d (-1) else(K.av a b (-1) false).count d c (-1));have n1:iP ((K.av a b (-1) false).count d c (-1)):=Kd (Nq N a b (-1) false f (ba Z) λ_=>rfl) d c (-1);generalize (K.av a b (-1) false).count d c (-1)=e at *;split
 .have n2:iP (e.an (e.D d 0).toNat 0 (-1)):=V0 n1 _ 0 (-1) λ_=>rfl;generalize e.an (e.D d 0).toNat 0 (-1)=g at *;exact KX n2 d (-1)
 .exact n1
theorem Qe(N:iP K)(c:b<4):iP (N3 K a b).K:=by
 unfold N3;split
 .exact N
 .exact KQ N c
theorem WH(N:iP K)(d:c<4):iP (X1 K a b c).K:=by
 unfold X1;split
 .exact N
 split
 .exact N
 .exact KQ N d
theorem Wc{K:aa}(N:iP K)(d:Own K)(G:Good K)(s n:Nat)(a b c:Int)(k:s<K.nS)(l:K.S s 0≠0)(r:n<20)(o:C8 K ((i7 n).getD 0 0) a=true/\C8 K ((i7 n).getD 1 0) b=true/\C8 K ((i7 n).getD 2 0) c=true):iP (tr K s n a b c).K:=by
 let⟨e,h,m⟩:=o;have t:=zG K;have u:=yi K;have v:=yN K;have w:=yz K;have x:=yl K;have y:=yH K;cases n,(Za:n<20) using ox
 .exact N
 .exact N
 .obtain⟨f,rfl,g⟩:=d8 (t:=4) e Zb;exact Zx N Za l
 .obtain⟨f,rfl,g⟩:=d8 (t:=4) e Zb;exact Sy N Za
 .obtain⟨f,rfl,g⟩:=d8 (t:=4) e Zb;exact b3I N b Za
 .exact b7W N
 .obtain⟨i,rfl,j⟩:=d8 (t:=4) h Zb;exact PV N Za
 .obtain⟨p,rfl,q⟩:=d8 (t:=5) m Zb;exact c1t N Za
 .exact XK N
 .exact Tj N a
 .obtain⟨i,rfl,j⟩:=d8 (t:=4) h Zb;exact RZ N Za
 .obtain⟨i,rfl,j⟩:=d8 (t:=5) h Zb;exact WH N Za
 .exact QQ N
 .obtain⟨p,rfl,q⟩:=d8 (t:=5) m Zb;exact c1v N Za l
 .obtain⟨i,rfl,j⟩:=d8 (t:=5) h Zb;exact c5e N Za l
 .obtain⟨f,rfl,g⟩:=d8 (t:=5) e Zb;exact Qe N Za
 .obtain⟨f,rfl,g⟩:=d8 (t:=5) e Zb;exact UL N d G k Za
 .obtain⟨f,rfl,g⟩:=d8 (t:=5) e Zb;obtain⟨i,rfl,j⟩:=d8 (t:=4) h Zb;exact c1w N d G k Za Za
 .exact TB N s _ _
 .obtain⟨f,rfl,g⟩:=d8 (t:=4) e Zb;exact Yz N d G c k Za
theorem c1p{K:aa}(N:iP K)(d:Own K)(G:Good K)(e f a b c:Int):iP (i5 K e f a b c).K :=
 Hq K e f a b c (λo=>iP o.K) (λ_=>N) λs n _ g j h i=>Wc N d G s n a b c g Za h i
structure nE (K:aa):Prop where
 h:∀d,d<K.nD->0<=K.D d 0->¬(K.D d 3=0/\K.D d 4=0)
theorem nE.same{K a:aa}(E:nE K)(z:a.nD=K.nD)(h:∀d,a.D d 0=K.D d 0/\a.D d 3=K.D d 3/\a.D d 4=K.D d 4):nE a:=⟨λd b c=>by
 rw[z]at b;rw[(h d).1]at c;rw[(h d).2.1,(h d).2.2];exact E.h d b c⟩
theorem nE.D{K a:aa}(E:nE K)(e:a.D=K.D)(f:a.nD=K.nD):nE a:=⟨λd b c=>by rw[e]at c ⊢;rw[f]at b;exact E.h d b c⟩
theorem ZN{K:aa}(n:Nat)(E:∀d,d<K.nD->d≠n->0<=K.D d 0->¬(K.D d 3=0/\K.D d 4=0))(b:Bool)(a:0<=K.D n 3)(e:0<=K.D n 4):nE (K.count n b 1):=by
 refine⟨λd f g=>?_⟩;have c:=tO K n b 1 d;have z:=GW K n b 1 d;have h:=P4 K n b 1
 grind
theorem IG{K:aa}(n:Nat)(E:∀d,d<K.nD->d≠n->0<=K.D d 0->¬(K.D d 3=0/\K.D d 4=0))(s x:Nat)(b:Bool)(a:0<=K.D n 3)(c:0<=K.D n 4):nE (K.fc s x n b) :=
 ZN (K:=K.av s x n b) n E b a c
theorem Yc{K:aa}(E:nE K):nE (B8 K a b c d).K:=by
 by_cases n:K.D b 0≠-1
 .unfold B8;grind
 by_cases o:K.F c 0≠0
 .unfold B8;grind
 have p:(K.an c 3 (-1)).D=K.D:=Z;have q:(K.an c 3 (-1)).nD=K.nD:=Z;unfold B8;rw[mY n,mY o];generalize K.an c 3 (-1)=k at *;have g:∀i h,(k.hZ b c).D i h=if i=b/\h<5 then(if h=0 then(c:Int) else 0) else K.D i h:=λi h=>by rw[Z5,p]
 have w:(k.hZ b c).nD=K.nD:=q;generalize k.hZ b c=e at *;split
 .exact E
 have r:∀f,f<e.nD->f≠b->0<=e.D f 0->¬(e.D f 3=0/\e.D f 4=0):=λf l x j=>by
  rw[g,mY Za]at j;rw[g,g,mY Za,mY Za];exact E.h f Za j
 have s:0<=e.D b 3:=by rw[g];simp
 have m:0<=e.D b 4:=by rw[g];simp
 have t:nE (e.fc a d b false):=IG b r a d false s m;have u:0<=(e.fc a d b false).D b 3:=by
  show 0<=((e.av a d b false).count b false 1).D b 3;rw[(tO _ b false 1 b).1,mZ ⟨Z,Z⟩];show 0<=e.D b 3+1;omega
 have v:0<=(e.fc a d b false).D b 4:=by
  show 0<=((e.av a d b false).count b false 1).D b 4;rw[(tO _ b false 1 b).2,mY Zc];exact m
 show nE ((e.fc a d b false).fc a (d+1) b true);generalize e.fc a d b false=y at *;exact IG b (λf l _ j=>t.h f l j) a (d+1) true u v
theorem MC{K:aa}(E:nE K):nE (K.nv a b):=by
 unfold aa.nv;generalize (K.file a b).toNat=d;generalize K.end a b=f;show nE (if ((K.av a b (-1) false).count d f (-1)).D d 3=0/\((K.av a b (-1) false).count d f (-1)).D d 4=0 then(((K.av a b (-1) false).count d f (-1)).an (((K.av a b (-1) false).count d f (-1)).D d 0).toNat 0 (-1)).hZ d (-1) else(K.av a b (-1) false).count d f (-1));have o:∀e,e<((K.av a b (-1) false).count d f (-1)).nD->e≠d->0<=((K.av a b (-1) false).count d f (-1)).D e 0->¬(((K.av a b (-1) false).count d f (-1)).D e 3=0/\((K.av a b (-1) false).count d f (-1)).D e 4=0):=λe h p j=>by
  have c:=tO (K.av a b (-1) false) d f (-1) e;have z:=GW (K.av a b (-1) false) d f (-1) e;have l:=P4 (K.av a b (-1) false) d f (-1);rw[l.2.2.1]at h;rw[z]at j;rw[c.1,c.2,mY Za,mY Za];exact E.h e h j
 generalize (K.av a b (-1) false).count d f (-1)=g at *;split
 .have m:(g.an (g.D d 0).toNat 0 (-1)).D=g.D:=Z;have n:(g.an (g.D d 0).toNat 0 (-1)).nD=g.nD:=Z;generalize g.an (g.D d 0).toNat 0 (-1)=k at *;have q:∀i c,(k.hZ d (-1)).D i c=if i=d/\c<5 then(if c=0 then(-1:Int) else 0) else g.D i c:=λi c=>by rw[Z5,m]
  have r:(k.hZ d (-1)).nD=g.nD:=n;generalize k.hZ d (-1)=s at *;refine⟨λe h j=>?_⟩
  grind
 .rename_i t;refine⟨λe h j=>?_⟩
  grind
theorem uT(K:aa)(i c:Nat)(v:Int):(K.ni i c v).D=K.D/\(K.ni i c v).nD=K.nD:=⟨Z,Z⟩
theorem uB(K:aa)(i c:Nat)(v:Int):(K.cf i c v).D=K.D/\(K.cf i c v).nD=K.nD:=⟨Z,Z⟩
theorem uy(K:aa)(i c:Nat)(v:Bool):(K.oB i c v).D=K.D/\(K.oB i c v).nD=K.nD:=⟨Z,Z⟩
theorem O0{K:aa}(s a:Nat):(K.g9 s a A p).D=K.D/\(K.g9 s a A p).nD=K.nD:=⟨Z,Z⟩
theorem J3(K:aa)(f:Nat)(a b:Int):(K.an f a b).D=K.D/\(K.an f a b).nD=K.nD:=⟨Z,Z⟩
theorem J8(K:aa)(g h:Nat):(K.nj g h).D=K.D/\(K.nj g h).nD=K.nD:=⟨Z,Z⟩
theorem vf(K:aa)(c:Nat):(K.nH c).D=K.D/\(K.nH c).nD=K.nD:=⟨Z,Z⟩
theorem Q5(K:aa)(s p:Nat):(K.nN s p).D=K.D/\(K.nN s p).nD=K.nD:=by
 unfold aa.nN;exact⟨(O0 _ _).1.trans (J3 _ _ _ _).1,(O0 _ _).2.trans (J3 _ _ _ _).2⟩
theorem c3V{K:aa}(E:nE K)(G:Good K)(s n:Nat)(a b c:Int)(w:s<K.nS)(x:n<20)(k:C8 K ((i7 n).getD 0 0) a=true/\C8 K ((i7 n).getD 1 0) b=true/\C8 K ((i7 n).getD 2 0) c=true):nE (tr K s n a b c).K:=by
 let⟨l,m,y⟩:=k;have z:=zG K;have A:=yi K;have B:=yN K;have C:=yz K;have D:=yl K;have F:=yH K;have H:∀(e f h i:Nat),e<K.nS->f<4->K.file e f≠-1->nE (K.fc h i (K.file e f).toNat (K.end e f)):=λe f h i o p I=>by
  have L:=G.file e f o p;exact IG _ (λd q _ r=>E.h d q r) _ _ _ (G.rd _ Za).1 (G.wt _ Za).1
 cases n,(Za:n<20) using ox
 .exact E
 .exact E
 .show nE (pH K s a.toNat b.toNat).K;unfold pH;split
  .exact E
  split
  .exact E
  .refine E.D ?_ ?_<;>simp only[uT,uB,uy,O0,J3,J8,vf,Q5]
 .show nE (N4 K s a.toNat).K;unfold N4;split
  .exact E
  .refine E.D ?_ ?_<;>simp only[uT,uB,uy,O0,J3,J8,vf,Q5]
 .show nE (B3 K s a.toNat b).K;unfold B3;split
  .exact E
  .refine E.D ?_ ?_<;>simp only[uT,uB,uy,O0,J3,J8,vf,Q5]
 .show nE (G0 K s a.toNat b.toNat).K;unfold G0;split
  .exact E
  split
  .exact E
  .refine E.D ?_ ?_<;>simp only[uT,uB,uy,O0,J3,J8,vf,Q5]
 .show nE (I9 K s a.toNat b.toNat c.toNat).K;unfold I9;split
  .exact E
  split
  .exact E
  split
  .exact E
  .refine E.D ?_ ?_<;>simp only[uT,uB,uy,O0,J3,J8,vf,Q5]
 .obtain⟨t,rfl,N⟩:=d8 (t:=5) m Zb;show nE (P9 K s a.toNat (t:Int).toNat c.toNat).K;rw[au];unfold P9;grind
 .show nE (Q8 K s a.toNat).K;unfold Q8;split
  .exact E
  .refine E.D ?_ ?_<;>simp only[uT,uB,uy,O0,J3,J8,vf,Q5]
 .show nE (Z3 K s a).K;unfold Z3;split
  .exact E
  .have j:∀(g:aa) n,(g.mg s n).D=g.D/\(g.mg s n).nD=g.nD:=λg n=>by
    induction n with
    | zero=>exact⟨Z,Z⟩
    | succ n u=>unfold aa.mg;split<;>exact u
   refine E.same ?_ λd=>?_
   .exact(j _ _).2
   .show(((K.cf s 0 3).cf s 19 a).mg s K.nS).D d 0=_/\(((K.cf s 0 3).cf s 19 a).mg s K.nS).D d 3=_/\(((K.cf s 0 3).cf s 19 a).mg s K.nS).D d 4=_;rw[(j _ _).1];exact⟨Z,Z,Z⟩
 .show nE (X0 K s a.toNat b.toNat).K;unfold X0;split
  .exact E
  split
  .exact E
  .refine E.D ?_ ?_<;>simp only[uT,uB,uy,O0,J3,J8,vf,Q5]
 .show nE (X1 K s a.toNat b.toNat).K;unfold X1;split
  .exact E
  split
  .exact E
  .exact MC E
 .show nE (J9 K s a.toNat).K;unfold J9;split
  .exact E
  split
  .exact E
  split
  .exact E
  .refine E.D ?_ ?_<;>simp only[uT,uB,uy,O0,J3,J8,vf,Q5]
 .exact Yc E
 .obtain⟨v,rfl,P⟩:=d8 (t:=5) l Zb;show nE (pZ K s (v:Int).toNat b.toNat).K;rw[au];unfold pZ;grind
 .show nE (N3 K s a.toNat).K;unfold N3;split
  .exact E
  .exact MC E
 .show nE (H8 K s a.toNat b.toNat c.toNat).K;unfold H8;split
  .exact E
  split
  .exact E
  split
  .exact E
  split
  .exact E
  .exact E.same Z λd=>⟨d6 _ Za,d6 _ Za,d6 _ Za⟩
 .show nE (Q0 K s a.toNat b.toNat c.toNat).K;unfold Q0;split
  .exact E
  split
  .exact E
  split
  .exact E
  split
  .exact E
  .refine nE.same (K:=K) E Z λd=>⟨?_,?_,?_⟩
   all_goals exact(d6 _ Za).trans (d6 _ Za)
 .show nE (Z4 K s a.toNat b.toNat).K;unfold Z4;split
  .exact E
  .refine E.D ?_ ?_<;>simp only[uT,uB,uy,O0,J3,J8,vf,Q5]
 .show nE (J2 K s a.toNat b.toNat c).K;unfold J2;split
  .exact E
  .refine E.D ?_ ?_<;>simp only[uT,uB,uy,O0,J3,J8,vf,Q5]
theorem b7u{K:aa}(E:nE K)(G:Good K)(d e a b c:Int):nE (i5 K d e a b c).K :=
 Hq K d e a b c (λo=>nE o.K) (λ_=>E) λs n _ f _ g h=>c3V E G s n a b c f g h
theorem Ya{K:aa}(I:Inv K)(m:a<K.nS)(j:b<4)(p:K.file a b=c):Inv ((K.av a b (-1) false).count c (K.end a b) (-1)):=by
 have hF:=I.mL.file a b m j;have n:c<K.nD:=by omega
 rw[p,au]at hF;generalize s:K.end a b=d;have k:=P4 (K.av a b (-1) false) c d (-1);have l:∀e f,((K.av a b (-1) false).count c d (-1)).ends e f+(if c=e/\d=f then 1 else 0)=K.ends e f:=λe f=>by
  rw[Ew];have h:=Ez K a b (-1) false m j e f
  grind
 have t:∀i,((K.av a b (-1) false).count c d (-1)).D i 3=if i=c/\d=false then K.D c 3 + -1 else K.D i 3:=λi=>(tO (K.av a b (-1) false) c d (-1) i).1
 have u:∀i,((K.av a b (-1) false).count c d (-1)).D i 4=if i=c/\d=true then K.D c 4 + -1 else K.D i 4:=λi=>(tO (K.av a b (-1) false) c d (-1) i).2
 have v:=I.tc c n;have w:=I.sW c n;have x:=I.bounds (d:=c) false;have y:=I.bounds (d:=c) true;have q:=l c d;rw[mZ ⟨Z,Z⟩]at q;have G:Good ((K.av a b (-1) false).count c d (-1)):=by
  have o:Good (K.av a b (-1) false):=FL I.mL a b (-1) false j (bP Z);cases d
  .exact xR o c 3 (K.D c 3 + -1) Za
  .exact xR o c 4 (K.D c 4 + -1) Za
 refine⟨G,by rw[k.2.1];exact I.hS,λe g=>?_,λe g=>?_⟩
 .rw[k.2.2.1]at g;have:=l e false;have r:=I.tc e g
  grind
 .rw[k.2.2.1]at g;have:=l e true;have r:=I.sW e g
  grind
theorem Cu(a b d i j:Nat):(K6 a b d).S i j=if i=0/\j=2 then 0 else if i=0/\j=0 then 2 else if j=0\/j=19 then 0 else -1:=by
 show upd (upd (λ_ c=>if c=0\/c=19 then(0:Int) else -1) 0 0 2) 0 2 0 i j=_;unfold upd;rfl
theorem WK(a b c i j:Nat):(K6 a b c).B i j=false:=rfl
theorem EC(a b c i j:Nat):(K6 a b c).D i j=if j=0 then -1 else 0:=rfl
theorem HV(b c d i j:Nat):(K6 b c d).F i j=if i=0 then(if j=0 then 1 else 0) else if j=1 then -1 else 0:=by
 show((rp b c d).an 0 1 0).F i j=_
 by_cases h:i=0
 .subst h;rw[Hp,mZ Z]
  by_cases e:j=0
  .grind
  .rw[mY e,mY e]
   by_cases a:j=1
   .rw[mZ a]
   .rw[mY a];split
    .rfl
    .show(if j=1 then(-1:Int) else 0)=0;rw[mY a]
 .rw[aa.nP _ _ _ _ _ _ h,mY h];rfl
theorem Rv(c e g:Nat):iP (K6 c e g):=by
 refine⟨λi x k a=>WK _ _ _ _ _,λi j l b h m n=>?_,λf a=>?_,λf a j h=>?_,λd o b=>⟨EC _ _ _ _ _,EC _ _ _ _ _⟩⟩
 .rw[Cu]at b ⊢
  grind
 .rw[HV]at a ⊢
  grind
 .rw[HV]
  grind
theorem Zy(b c e:Nat):nE (K6 b c e):=⟨λd f a=>by rw[EC]at a;simp at a⟩
end
end
end Go.Proofs.YtcgabodkegcpgaaGreatDoor