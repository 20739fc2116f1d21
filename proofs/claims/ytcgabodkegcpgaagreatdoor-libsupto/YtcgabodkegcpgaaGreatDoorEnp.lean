/- Plain facts on the kernel's numbers: a pipe that is there has an end (Ended); every call keeps that. And the books behind the first half of closing a file. -/
import Derived.Test.YtcgabodkegcpgaaGreatDoorAaa
import Derived.Test.YtcgabodkegcpgaaGreatDoorKer
import Derived.Deep.RegionHeld3
import Derived.Deep.DrawnRows
import Derived.Deep.OwnRows
import Derived.Deep.MidRow
import Derived.Handy
import Derived.Conc.TokenWords
set_option linter.unusedVariables false
set_option linter.unusedSimpArgs false
set_option maxHeartbeats 20000000
set_option maxRecDepth 100000
open Option renaming some->J,none->Q,none->G',map_some->aF,getD_some->cW
open Go.Proofs.Tryz renaming prog->V,ntmps36->bP,func36->cj,func117->cT,ntmps75->fD,ntmps74->fE,ntmps71->fF,func75->fW,func74->fX,func71->fY,f117->gL,ntmps64->gT,func64->iu,ntmps65->jf,func128->jg,underlying72->jz,func106->jA,f128->jB,f106->jC,func65->jL,underlying82->jS,func12->kF,sizeOf79->kL,sizeOf76->kM,ntmps104->kN,ntmps72->kZ,ntmps69->la,ntmps68->lh,ntmps63->lr,ntmps26->lE,func104->lI,ntmps12->lX,func72->lZ,func69->ma,func68->me,func63->mf,func26->mz
open Go renaming World->Wd,Value->Vu,undef->Ud,Frame->Fm',Goroutine->Gr,TypeId->Ti,execOp->Ex,Program->Pg,Calls->aG,Oper->aN,Operand->aU,Item->bm,FuncId->bF,stepG->bH,Addr->cC,heap_alloc_new->cE,Act->db,results->di,Event->dr,Value->dQ,wpList_store_mid->eh,run_underlying->eT,yielded->fA,wpList_load_mid->fR,wpList->gN,commResult->ik,BinOp->iC,IntKind->iR,Code->jx,events_store->jy,cell_of_row->jR,run_storeCells_cells->jZ,Func->mR
open Go.Value renaming int->Y,pointer->Po,slice->Sc,bool->Bo,slice->dm,int->dO,cells->gv
open Go.IntKind renaming i64->U
open Go.Addr renaming mk->O,add_mid->eO,add->kS
open List renaming mem_cons->ae,mem_cons_of_mem->ah,not_mem_nil->ai,mem_cons_self->ao,range->aM,size_toArray->aR,all_eq_true->aV,getElem?_eq_some_iff->bj,length_map->bC,length_cons->bQ,getElem?_map->bZ,mem_append->cz,getD_eq_getElem?_getD->cK,mem_of_getElem?->cP,getElem?_range->cY,map_cons->cZ,mem_map->dn,mem_map_of_mem->dE,length_nil->dP,nil_append->dS,mem_toArray->dZ,mem_append_left->fP,push_toArray->gI,range'->ie,forall_mem_cons->iA,map_congr_left->iY,zipIdx_cons->jU,map_id'->lM,map_map->mF
open Nat renaming le_refl->af,zero_add->aE,beq->aI,add_assoc->aS,zero_le->bh,blt->cJ,ne_of_lt->dA,le_of_eq->fJ,ble->ga,sub_zero->iQ,add_zero->kH,lt_of_succ_lt_succ->np
open Go.RowKit renaming Hid->ar,Below->bG,intOf->bM
open Int renaming toNat_natCast->au,tmod_eq_emod_of_nonneg->bg
open Prod.mk renaming inj->ax,injEq->cU
open Go.Frame renaming enter->ay,finish_at->bK
open Ne renaming symm->aA
open Bool renaming and_eq_true->aC,false_eq_true->aJ,or_eq_true->da
open Go.World renaming cell?->aD,block_lt_of_cell?->aL,frozen?->bY,cell?_setCell_other->cI,setCell->cQ,frozen?_setCells->dH,frozen?_of_block->dL,cell?_setCells_out->dX,rangeAt_setCells_same->fC,cell?_setCells_in->kU
open Go.RowKit.Below renaming heap_alloc->aK,refl->bD,heap_setCell->eN
open Go.Conc renaming base->aB,mem_listed->aZ,served->bI,goes_oper_k->cA,goes_go->dc,ds_none->de,stepG_cond->fU,Seat->ic,closeEvents->il,stepG_region->iH,stepG_region_end->jd,resultsC_tmp->kT,resultsC_tmp2->mJ,rcase->mK,listed->mM,served_fr->mX
open Go.Conc.Goes renaming step->aO
open Go.Sem renaming runT->aP,run_bind->bJ,run_pure->eH,runT_fst->jr
open Go.Result renaming andThen_ok->aQ
open Go.CallKind renaming normal->aX
open Or renaming inr->ba,inl->bT
open Option.some renaming injEq->bz
open Go.Region renaming wanted->bR
open Array renaming all_eq_true_iff_forall_mem->cR,getElem?_setIfInBounds_ne->cX,toList_map->gM,getElem?_extract->kW
open And renaming intro->dg
open Go.Act renaming eval->dp,put->dK
open Go.Op renaming equalIn->dq,eqFields->nm
open Go.Builtin renaming copy_->dt,firstCells->kV,lenOf->nH
open Go.Instr renaming fill->dN,indexAt->gj,makeSlice->iB,sureAddr->iF,build->iG,sliceAt->iT,sliceBounds->ju,sliceBound->jJ,slice->mG
open Inhabited renaming default->dW
open Go.IntWalk renaming i64_in->ib
open Std.Legacy.Range renaming forIn_eq_forIn_range'->iX,size->kO
namespace Go.Proofs.YtcgabodkegcpgaaGreatDoor
noncomputable section
section
variable{a b c d e:Nat}{f g h:Wd}{i j:Array Vu}{k l m n o:Int}{p q:Vu}{r s t u:Bool}{v w:aN}{x y:Ti}{z A:aU}{B C:List Nat}{E:Gr->Wd->Prop}{F:List Fm'}{H:List nY}{I:Obj}{K L:Type}{N:List Vu}{P:Array aN}{R:db}{S:Nat->Nat}
structure oe (K:aa):Prop where
 h:∀d,d<K.nD->0<=K.D d 0->¬(K.D d 3=0/\K.D d 4=0)
theorem oe.same{K a:aa}(E:oe K)(z:a.nD=K.nD)(h:∀d,a.D d 0=K.D d 0/\a.D d 3=K.D d 3/\a.D d 4=K.D d 4):oe a:=⟨λd b c=>by
 rw[z]at b;rw[(h d).1]at c;rw[(h d).2.1,(h d).2.2];exact E.h d b c⟩
theorem oe.D{K a:aa}(E:oe K)(e:a.D=K.D)(f:a.nD=K.nD):oe a:=⟨λd b c=>by rw[e]at c ⊢;rw[f]at b;exact E.h d b c⟩
theorem TG{K:aa}(n:Nat)(E:∀d,d<K.nD->d≠n->0<=K.D d 0->¬(K.D d 3=0/\K.D d 4=0))(b:Bool)(a:0<=K.D n 3)(e:0<=K.D n 4):oe (K.count n b 1):=by
 refine⟨λd f g=>?_⟩;have c:=uz K n b 1 d;have z:=Gc K n b 1 d;have h:=Q2 K n b 1
 grind
theorem FI{K:aa}(n:Nat)(E:∀d,d<K.nD->d≠n->0<=K.D d 0->¬(K.D d 3=0/\K.D d 4=0))(s x:Nat)(b:Bool)(a:0<=K.D n 3)(c:0<=K.D n 4):oe (K.eL s x n b) :=
 TG (K:=K.av s x n b) n E b a c
theorem b7j{K:aa}(E:oe K):oe (C4 K a b c d).K:=by
 by_cases n:K.D b 0≠-1
 .unfold C4;grind
 by_cases o:K.F c 0≠0
 .unfold C4;grind
 have p:(K.an c 3 (-1)).D=K.D:=Z;have q:(K.an c 3 (-1)).nD=K.nD:=Z;unfold C4;rw[nR n,nR o];generalize K.an c 3 (-1)=k at *;have g:∀i h,(k.hZ b c).D i h=if i=b/\h<5 then(if h=0 then(c:Int) else 0) else K.D i h:=λi h=>by rw[Z3,p]
 have w:(k.hZ b c).nD=K.nD:=q;generalize k.hZ b c=e at *;split
 .exact E
 have r:∀f,f<e.nD->f≠b->0<=e.D f 0->¬(e.D f 3=0/\e.D f 4=0):=λf l x j=>by
  rw[g,nR Za]at j;rw[g,g,nR Za,nR Za];exact E.h f Za j
 have s:0<=e.D b 3:=by rw[g];simp
 have m:0<=e.D b 4:=by rw[g];simp
 have t:oe (e.eL a d b false):=FI b r a d false s m;have u:0<=(e.eL a d b false).D b 3:=by
  show 0<=((e.av a d b false).count b false 1).D b 3;rw[(uz _ b false 1 b).1,nT ⟨Z,Z⟩];show 0<=e.D b 3+1;omega
 have v:0<=(e.eL a d b false).D b 4:=by
  show 0<=((e.av a d b false).count b false 1).D b 4;rw[(uz _ b false 1 b).2,nR Zc];exact m
 show oe ((e.eL a d b false).eL a (d+1) b true);generalize e.eL a d b false=y at *;exact FI b (λf l _ j=>t.h f l j) a (d+1) true u v
theorem JW{K:aa}(E:oe K):oe (K.oa a b):=by
 unfold aa.oa;generalize (K.file a b).toNat=d;generalize K.end a b=f;show oe (if ((K.av a b (-1) false).count d f (-1)).D d 3=0/\((K.av a b (-1) false).count d f (-1)).D d 4=0 then(((K.av a b (-1) false).count d f (-1)).an (((K.av a b (-1) false).count d f (-1)).D d 0).toNat 0 (-1)).hZ d (-1) else(K.av a b (-1) false).count d f (-1));have o:∀e,e<((K.av a b (-1) false).count d f (-1)).nD->e≠d->0<=((K.av a b (-1) false).count d f (-1)).D e 0->¬(((K.av a b (-1) false).count d f (-1)).D e 3=0/\((K.av a b (-1) false).count d f (-1)).D e 4=0):=λe h p j=>by
  have c:=uz (K.av a b (-1) false) d f (-1) e;have z:=Gc (K.av a b (-1) false) d f (-1) e;have l:=Q2 (K.av a b (-1) false) d f (-1);rw[l.2.2.1]at h;rw[z]at j;rw[c.1,c.2,nR Za,nR Za];exact E.h e h j
 generalize (K.av a b (-1) false).count d f (-1)=g at *;split
 .have m:(g.an (g.D d 0).toNat 0 (-1)).D=g.D:=Z;have n:(g.an (g.D d 0).toNat 0 (-1)).nD=g.nD:=Z;generalize g.an (g.D d 0).toNat 0 (-1)=k at *;have q:∀i c,(k.hZ d (-1)).D i c=if i=d/\c<5 then(if c=0 then(-1:Int) else 0) else g.D i c:=λi c=>by rw[Z3,m]
  have r:(k.hZ d (-1)).nD=g.nD:=n;generalize k.hZ d (-1)=s at *;refine⟨λe h j=>?_⟩
  grind
 .rename_i t;refine⟨λe h j=>?_⟩
  grind
theorem uM(K:aa)(i c:Nat)(v:Int):(K.nU i c v).D=K.D/\(K.nU i c v).nD=K.nD:=⟨Z,Z⟩
theorem uR(K:aa)(i c:Nat)(v:Int):(K.cf i c v).D=K.D/\(K.cf i c v).nD=K.nD:=⟨Z,Z⟩
theorem vk(K:aa)(i c:Nat)(v:Bool):(K.oW i c v).D=K.D/\(K.oW i c v).nD=K.nD:=⟨Z,Z⟩
theorem P9{K:aa}(s p:Nat):(K.fi s p k r).D=K.D/\(K.fi s p k r).nD=K.nD:=⟨Z,Z⟩
theorem J4(K:aa)(f:Nat)(a b:Int):(K.an f a b).D=K.D/\(K.an f a b).nD=K.nD:=⟨Z,Z⟩
theorem K4(K:aa)(g h:Nat):(K.nV g h).D=K.D/\(K.nV g h).nD=K.nD:=⟨Z,Z⟩
theorem uT(K:aa)(c:Nat):(K.oq c).D=K.D/\(K.oq c).nD=K.nD:=⟨Z,Z⟩
theorem R0(K:aa)(s p:Nat):(K.oz s p).D=K.D/\(K.oz s p).nD=K.nD:=by
 unfold aa.oz;exact⟨(P9 _ _).1.trans (J4 _ _ _ _).1,(P9 _ _).2.trans (J4 _ _ _ _).2⟩
theorem c3H{K:aa}(E:oe K)(G:Good K)(s n:Nat)(a b c:Int)(w:s<K.nS)(x:n<20)(k:A7 K ((i7 n).getD 0 0) a=true/\A7 K ((i7 n).getD 1 0) b=true/\A7 K ((i7 n).getD 2 0) c=true):oe (tK K s n a b c).K:=by
 let⟨l,m,y⟩:=k;have z:=yT K;have A:=zo K;have B:=Ah K;have C:=zI K;have D:=Ai K;have F:=zA K;have H:∀(e f h i:Nat),e<K.nS->f<4->K.file e f≠-1->oe (K.eL h i (K.file e f).toNat (K.end e f)):=λe f h i o p I=>by
  have L:=G.file e f o p;exact FI _ (λd q _ r=>E.h d q r) _ _ _ (G.rd _ Za).1 (G.wt _ Za).1
 cases n,(Za:n<20) using oQ
 .exact E
 .exact E
 .show oe (qb K s a.toNat b.toNat).K;unfold qb;split
  .exact E
  split
  .exact E
  .refine E.D ?_ ?_<;>simp only[uM,uR,vk,P9,J4,K4,uT,R0]
 .show oe (O0 K s a.toNat).K;unfold O0;split
  .exact E
  .refine E.D ?_ ?_<;>simp only[uM,uR,vk,P9,J4,K4,uT,R0]
 .show oe (B5 K s a.toNat b).K;unfold B5;split
  .exact E
  .refine E.D ?_ ?_<;>simp only[uM,uR,vk,P9,J4,K4,uT,R0]
 .show oe (F7 K s a.toNat b.toNat).K;unfold F7;split
  .exact E
  split
  .exact E
  .refine E.D ?_ ?_<;>simp only[uM,uR,vk,P9,J4,K4,uT,R0]
 .show oe (J0 K s a.toNat b.toNat c.toNat).K;unfold J0;split
  .exact E
  split
  .exact E
  split
  .exact E
  .refine E.D ?_ ?_<;>simp only[uM,uR,vk,P9,J4,K4,uT,R0]
 .obtain⟨t,rfl,N⟩:=i5 (t:=5) m Zb;show oe (Q4 K s a.toNat (t:Int).toNat c.toNat).K;rw[au];unfold Q4;grind
 .show oe (R9 K s a.toNat).K;unfold R9;split
  .exact E
  .refine E.D ?_ ?_<;>simp only[uM,uR,vk,P9,J4,K4,uT,R0]
 .show oe (Y9 K s a).K;unfold Y9;split
  .exact E
  .have j:∀(g:aa) n,(g.mg s n).D=g.D/\(g.mg s n).nD=g.nD:=λg n=>by
    induction n with
    | zero=>exact⟨Z,Z⟩
    | succ n u=>unfold aa.mg;split<;>exact u
   refine E.same ?_ λd=>?_
   .exact(j _ _).2
   .show(((K.cf s 0 3).cf s 19 a).mg s K.nS).D d 0=_/\(((K.cf s 0 3).cf s 19 a).mg s K.nS).D d 3=_/\(((K.cf s 0 3).cf s 19 a).mg s K.nS).D d 4=_;rw[(j _ _).1];exact⟨Z,Z,Z⟩
 .show oe (W7 K s a.toNat b.toNat).K;unfold W7;split
  .exact E
  split
  .exact E
  .refine E.D ?_ ?_<;>simp only[uM,uR,vk,P9,J4,K4,uT,R0]
 .show oe (W8 K s a.toNat b.toNat).K;unfold W8;split
  .exact E
  split
  .exact E
  .exact JW E
 .show oe (K6 K s a.toNat).K;unfold K6;split
  .exact E
  split
  .exact E
  split
  .exact E
  .refine E.D ?_ ?_<;>simp only[uM,uR,vk,P9,J4,K4,uT,R0]
 .exact b7j E
 .obtain⟨v,rfl,P⟩:=i5 (t:=5) l Zb;show oe (qy K s (v:Int).toNat b.toNat).K;rw[au];unfold qy;grind
 .show oe (N9 K s a.toNat).K;unfold N9;split
  .exact E
  .exact JW E
 .show oe (H9 K s a.toNat b.toNat c.toNat).K;unfold H9;split
  .exact E
  split
  .exact E
  split
  .exact E
  split
  .exact E
  .exact E.same Z λd=>⟨d6 _ Za,d6 _ Za,d6 _ Za⟩
 .show oe (Q5 K s a.toNat b.toNat c.toNat).K;unfold Q5;split
  .exact E
  split
  .exact E
  split
  .exact E
  split
  .exact E
  .refine oe.same (K:=K) E Z λd=>⟨?_,?_,?_⟩
   all_goals exact(d6 _ Za).trans (d6 _ Za)
 .show oe (Z0 K s a.toNat b.toNat).K;unfold Z0;split
  .exact E
  .refine E.D ?_ ?_<;>simp only[uM,uR,vk,P9,J4,K4,uT,R0]
 .show oe (J2 K s a.toNat b.toNat c).K;unfold J2;split
  .exact E
  .refine E.D ?_ ?_<;>simp only[uM,uR,vk,P9,J4,K4,uT,R0]
theorem ZL{K:aa}(E:oe K)(G:Good K)(d e a b c:Int):oe (d8 K d e a b c).K :=
 Gq K d e a b c (λo=>oe o.K) (λ_=>E) λs n _ f _ g h=>c3H E G s n a b c f g h
theorem XA{K:aa}(I:Inv K)(m:a<K.nS)(j:b<4)(p:K.file a b=c):Inv ((K.av a b (-1) false).count c (K.end a b) (-1)):=by
 have hF:=I.mL.file a b m j;have n:c<K.nD:=by omega
 rw[p,au]at hF;generalize s:K.end a b=d;have k:=Q2 (K.av a b (-1) false) c d (-1);have l:∀e f,((K.av a b (-1) false).count c d (-1)).ends e f+(if c=e/\d=f then 1 else 0)=K.ends e f:=λe f=>by
  rw[Er];have h:=Dw K a b (-1) false m j e f
  grind
 have t:∀i,((K.av a b (-1) false).count c d (-1)).D i 3=if i=c/\d=false then K.D c 3 + -1 else K.D i 3:=λi=>(uz (K.av a b (-1) false) c d (-1) i).1
 have u:∀i,((K.av a b (-1) false).count c d (-1)).D i 4=if i=c/\d=true then K.D c 4 + -1 else K.D i 4:=λi=>(uz (K.av a b (-1) false) c d (-1) i).2
 have v:=I.tD c n;have w:=I.tx c n;have x:=I.bounds (d:=c) false;have y:=I.bounds (d:=c) true;have q:=l c d;rw[nT ⟨Z,Z⟩]at q;have G:Good ((K.av a b (-1) false).count c d (-1)):=by
  have o:Good (K.av a b (-1) false):=Gw I.mL a b (-1) false j (bT Z);cases d
  .exact yj o c 3 (K.D c 3 + -1) Za
  .exact yj o c 4 (K.D c 4 + -1) Za
 refine⟨G,by rw[k.2.1];exact I.hS,λe g=>?_,λe g=>?_⟩
 .rw[k.2.2.1]at g;have:=l e false;have r:=I.tD e g
  grind
 .rw[k.2.2.1]at g;have:=l e true;have r:=I.tx e g
  grind
theorem CV(a b d i j:Nat):(K8 a b d).S i j=if i=0/\j=2 then 0 else if i=0/\j=0 then 2 else if j=0\/j=19 then 0 else -1:=by
 show upd (upd (λ_ c=>if c=0\/c=19 then(0:Int) else -1) 0 0 2) 0 2 0 i j=_;unfold upd;rfl
theorem XD(a b c i j:Nat):(K8 a b c).B i j=false:=rfl
theorem CM(a b c i j:Nat):(K8 a b c).D i j=if j=0 then -1 else 0:=rfl
theorem IV(b c d i j:Nat):(K8 b c d).F i j=if i=0 then(if j=0 then 1 else 0) else if j=1 then -1 else 0:=by
 show((rP b c d).an 0 1 0).F i j=_
 by_cases h:i=0
 .subst h;rw[Io,nT Z]
  by_cases e:j=0
  .grind
  .rw[nR e,nR e]
   by_cases a:j=1
   .rw[nT a]
   .rw[nR a];split
    .rfl
    .show(if j=1 then(-1:Int) else 0)=0;rw[nR a]
 .rw[aa.oB _ _ _ _ _ _ h,nR h];rfl
theorem c4U(c e g:Nat):iP (K8 c e g):=by
 refine⟨λi x k a=>XD _ _ _ _ _,λi j l b h m n=>?_,λf a=>?_,λf a j h=>?_,λd o b=>⟨CM _ _ _ _ _,CM _ _ _ _ _⟩⟩
 .rw[CV]at b ⊢
  grind
 .rw[IV]at a ⊢
  grind
 .rw[IV]
  grind
theorem XO(b c e:Nat):oe (K8 b c e):=⟨λd f a=>by rw[CM]at a;simp at a⟩
structure rS (K:aa):Prop extends Inv K where
 own:Own K
 xP:iP K
 ended:oe K
theorem Ac{K:aa}(I:rS K)(d e a b c:Int):rS (d8 K d e a b c).K :=
 ⟨Tl I.toInv d e a b c,c5a I.own I.mL d e a b c,c1a I.xP I.own I.mL d e a b c,ZL I.ended I.mL d e a b c⟩
theorem Kt(b a c:Nat)(hF:2<=b)(d:1<=a)(e:a<=6):rS (K8 b a c):=⟨Wx b a c hF e,c7Z b a c hF d,c4U b a c,XO b a c⟩
end
section
open Go.RowKit
variable{a b c d e:Nat}{f g h:Wd}{i j:Array Vu}{k l m n o:Int}{p q:Vu}{r s t u:Bool}{v w:aN}{x y:Ti}{z A:aU}{B C:List Nat}{E:Gr->Wd->Prop}{F:List Fm'}{H:List nY}{I:Obj}{K L:Type}{N:List Vu}{P:Array aN}{R:db}{S:Nat->Nat}
variable{l F A D:Nat}{K:aa}{w:Wd}
theorem js.d0(R:js w l F A D K)(b:a<K.nD):w.cell? (O D (a*5) Q)=J (Y U (K.D a 0)):=R.d a 0 b Za
theorem js.d1(R:js w l F A D K)(b:a<K.nD):w.cell? (O D (a*5+1) Q)=J (Y U (K.D a 1)):=R.d a 1 b Za
theorem js.d2(R:js w l F A D K)(b:a<K.nD):w.cell? (O D (a*5+2) Q)=J (Y U (K.D a 2)):=R.d a 2 b Za
theorem js.d3(R:js w l F A D K)(b:a<K.nD):w.cell? (O D (a*5+3) Q)=J (Y U (K.D a 3)):=R.d a 3 b Za
theorem js.d4(R:js w l F A D K)(b:a<K.nD):w.cell? (O D (a*5+4) Q)=J (Y U (K.D a 4)):=R.d a 4 b Za
theorem js.hZ(R:js w l F A D K)(b:a<K.nD)(f:Int) :
  js (((((w.setCell (O D (a*5) Q) (Y U f)).setCell (O D (a*5+1) Q) (Y U 0)).setCell (O D (a*5+2) Q) (Y U 0)).setCell (O D (a*5+3) Q) (Y U 0)).setCell (O D (a*5+4) Q) (Y U 0)) l F A D (K.hZ a f):=by
 have g:=R.nX (c:=0) (o:=a*5) b Za Z f;have c:a<(K.nX a 0 f).nD:=b;have h:=g.nX (c:=1) (o:=a*5+1) c Za Z 0;have d:a<((K.nX a 0 f).nX a 1 0).nD:=c;have i:=h.nX (c:=2) (o:=a*5+2) d Za Z 0;have e:a<(((K.nX a 0 f).nX a 1 0).nX a 2 0).nD:=d;have j:=i.nX (c:=3) (o:=a*5+3) e Za Z 0;have k:a<((((K.nX a 0 f).nX a 1 0).nX a 2 0).nX a 3 0).nD:=e;exact j.nX (c:=4) (o:=a*5+4) k Za Z 0
theorem NA(R:js w l F A D K)(b:Bool)(m:Int)(d:a<K.nD)(g:-1<=m/\m<=1)(h:0<=K.D a 3/\K.D a 3<=24)(i:0<=K.D a 4/\K.D a 4<=24) :
  aG V 110 #[Po (J (O l 0 Q)),.agg #[Y U a,Bo b],Y U m] w λe f=>e=.returned (.tuple #[])/\js f l F A D (K.count a b m)/\dy F A D w f:=by
 have c:ar (js w l F A D K):=R;have j:=R.hD;have k:=λo=>(c.out.alloc o).k2;have n:=λo=>(c.out.alloc o).d3 d;have p:=λo=>(c.out.alloc o).d4 d;have z:=λo=>(c.out.alloc o).zd;clear R;let⟨q,r⟩:=g;let⟨s,t⟩:=h;let⟨u,v⟩:=i;cases b
 .go_enter Tryz.func110,Tryz.ntmps110
  go_wp2
  go_region
  all_goals
   go_wp2
   go_end0
   exact⟨Z,(c.out.alloc _).drew.nX d Za Z _,((dy.refl w).alloc _).drew.nX _ _⟩
 .go_enter Tryz.func110,Tryz.ntmps110
  go_wp2
  go_region
  all_goals
   go_wp2
   go_end0
   exact⟨Z,(c.out.alloc _).drew.nX d Za Z _,((dy.refl w).alloc _).drew.nX _ _⟩
theorem Du(R:js w l F A D K)(f:Bool)(g:a<K.nS)(h:b<4)(j:d<K.nD)(k:0<=K.D d 3/\K.D d 3<=24)(m:0<=K.D d 4/\K.D d 4<=24) :
  aG V 102 #[Po (J (O l 0 Q)),Y U a,Y U b,.agg #[Y U d,Bo f]] w λe i=>e=.returned (.tuple #[])/\js i l F A D (K.eL a b d f)/\dy F A D w i:=by
 have c:ar (js w l F A D K):=R;have r:=R.hS;have s:=λo=>(c.out.alloc o).k1;have t:=λo=>(c.out.alloc o).ff g h;have u:=λo=>(c.out.alloc o).fe g h;have z:=λo=>(c.out.alloc o).zs;have n:A≠w.heap.size:=dA R.ls;have v:w.heap.size≠A:=λe=>n e.symm;have p:=k;have q:=m;clear R
 go_enter Tryz.func102,Tryz.ntmps102
 go_wp2
 go_region
 all_goals
  go_wp2_with fail
  refine(NA (K:=K.av a b d f) (((c.out.alloc _).cf (c:=11+b*2) g Za (Ff b) Za _).oW (c:=12+b*2) g (EX b h) Za _).drew f 1 j Za p q).mono ?_;rintro e x ⟨rfl,R1,q1⟩
  go_wp2
  go_end0
  exact⟨Z,R1,((((dy.refl w).alloc _).cf _ _).cf _ _).drew.trans q1⟩
theorem Oo(R:js w l F A D K){p:Nat}(b:a<K.nS)(c:k=p)(d:p<4) :
  aG V 101 #[Po (J (O l 0 Q)),Y U a,Y U k] w λe f=>e=.returned (Bo (K.S a (11+p*2) != -1))/\f=w:=by
 subst c;exact A0 R b d
theorem QQ(R:js w l F A D K){x:Nat}(c:Bool)(f:a<K.nS)(g:k=x)(h:x<4)(i:b<K.nD)(j:0<=K.D b 3/\K.D b 3<=24)(m:0<=K.D b 4/\K.D b 4<=24) :
  aG V 102 #[Po (J (O l 0 Q)),Y U a,Y U k,.agg #[Y U b,Bo c]] w λe d=>e=.returned (.tuple #[])/\js d l F A D (K.eL a x b c)/\dy F A D w d:=by
 subst g;exact Du R c f h i j m
theorem b0L(K:aa)(n:Nat)(f:Int):(0<=(K.hZ n f).D n 3/\(K.hZ n f).D n 3<=24)/\(0<=(K.hZ n f).D n 4/\(K.hZ n f).D n 4<=24):=by
 simp[aa.hZ,aa.nX,upd]
theorem ZZ(K:aa)(n:Nat)(f:Int)(s x:Nat):(0<=((K.hZ n f).eL s x n false).D n 3/\((K.hZ n f).eL s x n false).D n 3<=24)/\(0<=((K.hZ n f).eL s x n false).D n 4/\((K.hZ n f).eL s x n false).D n 4<=24):=by
 simp[aa.hZ,aa.eL,aa.count,aa.av,aa.cf,aa.oW,aa.nX,upd]
theorem Xc(R:js w l F A D K)(G:Good K)(m:a<K.nS)(k:b<K.nD)(n:c<K.nF)(r:d<4) :
  aG V 71 #[Po (J (O l 0 Q)),Y U a,.agg #[Y U b,Y U c,Y U d]] w (Ends l F A D w (C4 K a b c d)):=by
 have f:ar (js w l F A D K):=R;have m1:=R.hF;have m2:=R.hS;have C:=R.hD;have k2:=λo=>(f.out.alloc o).k2;have c0:=λo=>(f.out.alloc o).d0 k;clear R
 by_cases g:K.D b 0=-1
 .have H:(K.D b 0 != -1)=false:=by simpa using g
  by_cases h:K.F c 0=0
  .have I:(K.F c 0==0)=true:=by simpa using h
   by_cases s:d=3
   .subst s;have E:ar (C4 K a b c 3=⟨K,0,8⟩):=by unfold C4;simp[g,h,ar]
    clear g h
    go_enter fY,fF
    go_wp2
    go_quiet (fail)
    go_wp2_with fail
    refine(N7 ((f.out.alloc _).drewN _) n).mono ?_;rintro e i ⟨rfl,rfl⟩
    go_wp2
    go_ret2
    exact Ends.mk E ((f.out.alloc _).drewN _) (((dy.refl w).alloc _).drewN _)
   .have e3:((d:Int)+1==4)=false:=by grind
    by_cases j:K.file a d=-1
    .have L:(K.S a (11+d*2) != -1)=false:=by simpa[aa.file] using j
     by_cases p:K.file a (d+1)=-1
     .have N:(K.S a (11+(d+1)*2) != -1)=false:=by simpa[aa.file] using p
      have E:ar (C4 K a b c d=⟨(((K.an c 3 (-1)).hZ b c).eL a d b false).eL a (d+1) b true,0,0⟩):=by unfold C4;simp[g,h,s,j,p,ar]
      clear g h j p
      go_enter fY,fF
      go_wp2
      go_quiet (fail)
      go_wp2_with fail
      refine(N7 ((f.out.alloc _).drewN _) n).mono ?_;rintro e i ⟨rfl,rfl⟩
      go_wp2_with fail
      refine(A0 ((f.out.alloc _).drewN _) m r).mono ?_;rintro e i ⟨rfl,rfl⟩
      go_wp2_with fail
      refine(Oo (p:=d+1) ((f.out.alloc _).drewN _) m Za Za).mono ?_;rintro e i ⟨rfl,rfl⟩
      go_wp2_with fail
      refine(Y4 ((f.out.alloc _).drewN _) _ _ n).mono ?_;rintro e i ⟨rfl,R1,q1⟩;have r0:=R1.k2;have r1:=R1.d0 k;have r2:=R1.d1 k;have r3:=R1.d2 k;have r4:=R1.d3 k;have r5:=R1.d4 k;have r6:=R1.zd;have t:b<(K.an c 3 (-1)).nD:=k;have r8:(K.an c 3 (-1)).nD<=4:=C;have P:a<(K.an c 3 (-1)).nS:=m;generalize K.an c 3 (-1)=q at *;have u:b<(q.hZ b c).nD:=t;have t2:a<(q.hZ b c).nS:=P;have v:=b0L q b c;have x:=ZZ q b c a d;have y:=R1.hZ t c;have S:ar _:=y;clear y;have T:b<((q.hZ b c).eL a d b false).nD:=u;have W:a<((q.hZ b c).eL a d b false).nS:=t2;have z:ar _:=v;have B:ar _:=x;clear v x;have M:ar _:=q1;have d':ar _:=R1;clear q1 R1
      go_wp2_with fail
      refine(Du S.out false t2 r u z.out.1 z.out.2).mono ?_;rintro e w2 ⟨rfl,R3,q3⟩;have X:ar _:=R3;have a':ar _:=q3;clear R3 q3
      go_wp2_with fail
      refine(QQ (x:=d+1) X.out true W Za Za T B.out.1 B.out.2).mono ?_;rintro e w3 ⟨rfl,R4,q4⟩;have b':ar _:=R4;have c':ar _:=q4;clear R4 q4
      go_wp2
      go_ret2
      exact Ends.mk E b'.out (((((((((((dy.refl w).alloc _).drewN _).trans M.out).nX _ _).nX _ _).nX _ _).nX _ _).nX _ _).trans a'.out).trans c'.out)
     .have N:(K.S a (11+(d+1)*2) != -1)=true:=by simpa[aa.file] using p
      have E:ar (C4 K a b c d=⟨K,0,8⟩):=by unfold C4;simp[g,h,s,j,p,ar]
      clear g h j p
      go_enter fY,fF
      go_wp2
      go_quiet (fail)
      go_wp2_with fail
      refine(N7 ((f.out.alloc _).drewN _) n).mono ?_;rintro e i ⟨rfl,rfl⟩
      go_wp2_with fail
      refine(A0 ((f.out.alloc _).drewN _) m r).mono ?_;rintro e i ⟨rfl,rfl⟩
      go_wp2_with fail
      refine(Oo (p:=d+1) ((f.out.alloc _).drewN _) m Za Za).mono ?_;rintro e i ⟨rfl,rfl⟩
      go_wp2
      go_ret2
      exact Ends.mk E ((f.out.alloc _).drewN _) (((dy.refl w).alloc _).drewN _)
    .have L:(K.S a (11+d*2) != -1)=true:=by simpa[aa.file] using j
     have E:ar (C4 K a b c d=⟨K,0,8⟩):=by unfold C4;simp[g,h,s,j,ar]
     clear g h j
     go_enter fY,fF
     go_wp2
     go_quiet (fail)
     go_wp2_with fail
     refine(N7 ((f.out.alloc _).drewN _) n).mono ?_;rintro e i ⟨rfl,rfl⟩
     go_wp2_with fail
     refine(A0 ((f.out.alloc _).drewN _) m r).mono ?_;rintro e i ⟨rfl,rfl⟩
     go_wp2
     go_ret2
     exact Ends.mk E ((f.out.alloc _).drewN _) (((dy.refl w).alloc _).drewN _)
  .have I:(K.F c 0==0)=false:=by simpa using h
   have E:ar (C4 K a b c d=⟨K,0,5⟩):=by unfold C4;simp[g,h,ar]
   clear g h
   go_enter fY,fF
   go_wp2
   go_quiet (fail)
   go_wp2_with fail
   refine(N7 ((f.out.alloc _).drewN _) n).mono ?_;rintro e i ⟨rfl,rfl⟩
   go_wp2
   go_ret2
   exact Ends.mk E ((f.out.alloc _).drewN _) (((dy.refl w).alloc _).drewN _)
 .have H:(K.D b 0 != -1)=true:=by simpa using g
  have E:ar (C4 K a b c d=⟨K,0,9⟩):=by unfold C4;simp[g,ar]
  clear g
  go_enter fY,fF
  go_wp2
  go_quiet (fail)
  go_wp2
  go_ret2
  exact Ends.mk E ((f.out.alloc _).drewN _) (((dy.refl w).alloc _).drewN _)
attribute [local go_sem ↓] Go.wp_at_zero Go.wp_at_succ
theorem zg{a b:cC}(h:f.cell? a=J p):(f.setCell b p).cell? a=J p:=by
 by_cases e:a=b
 .subst e;exact World.cell?_setCell_same f _ p h
 .rw[cI f b a p λh=>e h.symm];exact h
theorem XZ(R:js w l F A D K){g h j q r:Nat}(s:a<K.nS)(t:b<4)(u:c<4)(z:d<4)(B:ar (K.S a (11+b*2)=e))(k:e<K.nD)(C:K.B a (12+b*2)=true)(v:ar (K.S a (3+c*2)=g))(x:g<K.nF)(E:ar (K.D e 0=h))(y:h<K.nF)(H:ar (K.D e 1=q))(N:q<4)(I:ar (K.D e 2=j))(P:j<4)(S:(K.D e 3==0)=false)(m:ar (r=(q+j)%4)) :
  aG V 74 #[Po (J (O l 0 Q)),Y U a,.agg #[Y U b,Y U c,Y U d]] w
   (Ends l F A D w ⟨(K.nU h (2+r) (K.F g (2+d))).nX e 2 (j+1),0,0⟩):=by
 have i:ar (js w l F A D K):=R;have T:=R.hF;have W:=R.hS;have G:=R.hD;have M:=λo f=>((i.out.alloc o).alloc f).k0;have X:=λo=>(i.out.alloc o).k1;have k2:=λo f=>((i.out.alloc o).alloc f).k2;have c1:∀o,(w.alloc o).cell? (O A (a*20+11+b*2) Q)=J (Y U e):=λo=>by rw[(i.out.alloc o).ff s t,B.out]
 have c2:∀o,(w.alloc o).cell? (O A (a*20+11+b*2+1) Q)=J (Bo true):=λo=>by rw[(i.out.alloc o).fe s t,C]
 have c3:∀o f,((w.alloc o).alloc f).cell? (O D (e*5) Q)=J (Y U h):=λo f=>by rw[((i.out.alloc o).alloc f).d0 k,E.out]
 have c4:∀o f,((w.alloc o).alloc f).cell? (O D (e*5+1) Q)=J (Y U q):=λo f=>by rw[((i.out.alloc o).alloc f).d1 k,H.out]
 have c5:∀o f,((w.alloc o).alloc f).cell? (O D (e*5+2) Q)=J (Y U j):=λo f=>by rw[((i.out.alloc o).alloc f).d2 k,I.out]
 have c6:=λo f=>((i.out.alloc o).alloc f).d3 k;have c7:=λo f=>((i.out.alloc o).alloc f).fw x z;have c8:=λo f=>((i.out.alloc o).alloc f).fw (j:=r) y (by have:=m.out;omega);have z1:=λo f=>((i.out.alloc o).alloc f).zf;have z2:=λo f=>((i.out.alloc o).alloc f).zd;have n1:=R.fd;have n2:=R.kf;have n3:F≠l:=λn=>n2 n.symm;have n4:D≠F:=λn=>n1 n.symm;clear R;have b1:(0:Int)<=(d:Int):=by omega
 have b2:(d:Int)<4:=by omega
 have b3:(0:Int)<=(h:Int):=by omega
 have b4:(h:Int)<(K.nF:Int):=by omega
 have b5:(0:Int)<=(r:Int):=by omega
 have b6:(r:Int)<4:=by have:=m.out;omega
 have a1:IntKind.i64.wrap ((q:Int)+(j:Int))=(q:Int)+(j:Int):=ib _ Za;have a2:((q:Int)+(j:Int)).tmod 4=(r:Int):=by rw[bg Za];have:=m.out;omega
 have a3:((q:Int)+(j:Int))%4=(r:Int):=by have:=m.out;omega
 have e1:((e:Int)==-1)=false:=by rw[beq_eq_false_iff_ne];omega
 have e2:((j:Int)==4)=false:=by rw[beq_eq_false_iff_ne];omega
 have e3:(K.S a (3+c*2) != -1)=true:=by rw[v.out,bne_iff_ne];omega
 go_enter fX,fE
 go_wp2
 go_quiet (fail)
 go_wp2_with fail
 refine(l8 (((i.out.alloc _).alloc _).drewN _) s u).mono ?_;rintro n L ⟨rfl,rfl⟩
 go_wp2
 go_quiet (fail)
 go_wp2_with fail
 go_region_held3 (λp=>p.cell? (O l 0 Q)=J (Sc (J (O F 0 Q)) K.nF K.nF)/\p.cell? (O D (e*5) Q)=J (Y U h)/\p.cell? (O D (e*5+1) Q)=J (Y U q)/\p.cell? (O D (e*5+2) Q)=J (Y U j)/\p.cell? (O F (g*6+2+d) Q)=J (Y U (K.F g (2+d)))) ((repeat' apply dg)<;>(first|(go_keep;done)|(refine zg ?_;go_keep)))
  (first|(go_at_call 100;refine(zG (((i.out.alloc _).alloc _).drewN _) s u v.out x).mono ?_;rintro n L ⟨rfl,nq',rfl⟩))
 all_goals go_wp2
 all_goals
  go_ret2
  exact Ends.mk (show ar _ from Z) (((((i.out.alloc _).alloc _).drewN _).nU y (by have:=m.out;omega) Za _).nX k Za Za _) ((((((dy.refl w).alloc _).alloc _).drewN _).nU _ _).nX _ _)
theorem SE(R:js w l F A D K)(f:a<K.nS)(g:b<4)(h:ar (K.S a (11+b*2)=-1)) :
  aG V 74 #[Po (J (O l 0 Q)),Y U a,.agg #[Y U b,Y U c,Y U d]] w (Ends l F A D w ⟨K,0,8⟩):=by
 have e:ar (js w l F A D K):=R;have i:=R.hS;have j:=λo=>(e.out.alloc o).k1;have k:∀o,(w.alloc o).cell? (O A (a*20+11+b*2) Q)=J (Y U (-1)):=λo=>by rw[(e.out.alloc o).ff f g,h.out]
 have m:=λo=>(e.out.alloc o).fe f g;clear R
 go_enter fX,fE
 go_wp2
 go_quiet (fail)
 go_wp2
 go_ret2
 exact Ends.mk (show ar _ from Z) (((e.out.alloc _).alloc _).drewN _) ((((dy.refl w).alloc _).alloc _).drewN _)
theorem UL(R:js w l F A D K)(g:a<K.nS)(h:b<4)(i:ar (K.S a (11+b*2)=e))(j:K.B a (12+b*2)=false) :
  aG V 74 #[Po (J (O l 0 Q)),Y U a,.agg #[Y U b,Y U c,Y U d]] w (Ends l F A D w ⟨K,0,8⟩):=by
 have f:ar (js w l F A D K):=R;have k:=R.hS;have m:=λo=>(f.out.alloc o).k1;have n:∀o,(w.alloc o).cell? (O A (a*20+11+b*2) Q)=J (Y U e):=λo=>by rw[(f.out.alloc o).ff g h,i.out]
 have p:∀o,(w.alloc o).cell? (O A (a*20+11+b*2+1) Q)=J (Bo false):=λo=>by rw[(f.out.alloc o).fe g h,j]
 have q:((e:Int)==-1)=false:=by rw[beq_eq_false_iff_ne];omega
 clear R
 go_enter fX,fE
 go_wp2
 go_quiet (fail)
 go_wp2
 go_ret2
 exact Ends.mk (show ar _ from Z) (((f.out.alloc _).alloc _).drewN _) ((((dy.refl w).alloc _).alloc _).drewN _)
theorem c6M(R:js w l F A D K)(g:a<K.nS)(h:b<4)(i:c<4)(j:ar (K.S a (11+b*2)=e))(k:K.B a (12+b*2)=true)(m:ar (K.S a (3+c*2)=-1)) :
  aG V 74 #[Po (J (O l 0 Q)),Y U a,.agg #[Y U b,Y U c,Y U d]] w (Ends l F A D w ⟨K,0,6⟩):=by
 have f:ar (js w l F A D K):=R;have n:=R.hS;have p:=λo=>(f.out.alloc o).k1;have q:∀o,(w.alloc o).cell? (O A (a*20+11+b*2) Q)=J (Y U e):=λo=>by rw[(f.out.alloc o).ff g h,j.out]
 have r:∀o,(w.alloc o).cell? (O A (a*20+11+b*2+1) Q)=J (Bo true):=λo=>by rw[(f.out.alloc o).fe g h,k]
 have s:((e:Int)==-1)=false:=by rw[beq_eq_false_iff_ne];omega
 have t:(K.S a (3+c*2) != -1)=false:=by rw[m.out];rfl
 clear R
 go_enter fX,fE
 go_wp2
 go_quiet (fail)
 go_wp2_with fail
 refine(l8 (((f.out.alloc _).alloc _).drewN _) g i).mono ?_;rintro u v ⟨rfl,rfl⟩
 go_wp2
 go_ret2
 exact Ends.mk (show ar _ from Z) (((f.out.alloc _).alloc _).drewN _) ((((dy.refl w).alloc _).alloc _).drewN _)
theorem Mz(R:js w l F A D K)(i:Int)(h:a<K.nS)(m:b<4)(n:c<4)(q:ar (K.S a (11+b*2)=e))(p:e<K.nD)(r:K.B a (12+b*2)=true)(s:ar (K.S a (3+c*2)≠-1))(t:(ar (K.D e 3=0)/\ar (i=13))\/(ar (K.D e 3≠0)/\ar (K.D e 2=4)/\ar (i=11))) :
  aG V 74 #[Po (J (O l 0 Q)),Y U a,.agg #[Y U b,Y U c,Y U d]] w (Ends l F A D w ⟨K,0,i⟩):=by
 have f:ar (js w l F A D K):=R;have z:=R.hS;have B:=R.hD;have C:=λo=>(f.out.alloc o).k1;have E:=λo g=>((f.out.alloc o).alloc g).k2;have H:∀o,(w.alloc o).cell? (O A (a*20+11+b*2) Q)=J (Y U e):=λo=>by rw[(f.out.alloc o).ff h m,q.out]
 have I:∀o,(w.alloc o).cell? (O A (a*20+11+b*2+1) Q)=J (Bo true):=λo=>by rw[(f.out.alloc o).fe h m,r]
 have L:=λo g=>((f.out.alloc o).alloc g).d2 p;have N:=λo g=>((f.out.alloc o).alloc g).d3 p;have P:((e:Int)==-1)=false:=by rw[beq_eq_false_iff_ne];omega
 have S:(K.S a (3+c*2) != -1)=true:=by rw[bne_iff_ne];exact s.out
 clear R;rcases t with⟨j,k⟩|⟨j,u,k⟩
 .have v:(K.D e 3==0)=true:=by rw[j.out];rfl
  go_enter fX,fE
  go_wp2
  go_quiet (fail)
  go_wp2_with fail
  refine(l8 (((f.out.alloc _).alloc _).drewN _) h n).mono ?_;rintro x y ⟨rfl,rfl⟩
  go_wp2
  go_quiet (fail)
  go_wp2
  go_ret2
  rw[k.out];exact Ends.mk (show ar _ from Z) (((f.out.alloc _).alloc _).drewN _) ((((dy.refl w).alloc _).alloc _).drewN _)
 .have v:(K.D e 3==0)=false:=by rw[beq_eq_false_iff_ne];exact j.out
  have T:(K.D e 2==4)=true:=by rw[u.out];rfl
  go_enter fX,fE
  go_wp2
  go_quiet (fail)
  go_wp2_with fail
  refine(l8 (((f.out.alloc _).alloc _).drewN _) h n).mono ?_;rintro x y ⟨rfl,rfl⟩
  go_wp2
  go_quiet (fail)
  go_wp2
  go_ret2
  rw[k.out];exact Ends.mk (show ar _ from Z) (((f.out.alloc _).alloc _).drewN _) ((((dy.refl w).alloc _).alloc _).drewN _)
theorem Vm(R:js w l F A D K)(G:Good K)(f:a<K.nS)(i:b<4)(m:c<4)(x:d<4) :
  aG V 74 #[Po (J (O l 0 Q)),Y U a,.agg #[Y U b,Y U c,Y U d]] w (Ends l F A D w (H9 K a b c d)):=by
 unfold H9;rcases G.file a b f i with s|⟨s,I,v⟩
 .rw[nT (bT s)];exact SE R f i s
 obtain⟨e,n⟩:∃e:Nat,K.file a b=e:=⟨(K.file a b).toNat,by omega⟩;have o:e<K.nD:=by omega
 rw[n]at v ⊢;simp only[au]at v ⊢
 by_cases j:K.end a b=true
 .rw[nR (by rw[j];simp)]
  by_cases p:K.dT a c=-1
  .rw[nT p];exact c6M R f i m n j p
  rw[nR p]
  by_cases r:K.D e 3=0
  .rw[nT r];exact Mz R 13 f i m n o j p (bT ⟨r,Z⟩)
  rw[nR r]
  by_cases t:K.D e 2=4
  .rw[nT t];exact Mz R 11 f i m n o j p (ba ⟨r,t,Z⟩)
  rw[nR t];have L:=G.head e o;have N:=G.cnt e o;obtain⟨g,y⟩:∃g:Nat,K.dT a c=g:=by rcases G.dT a c f m with h|h;exact absurd h p;exact⟨(K.dT a c).toNat,by omega⟩
  have z:g<K.nF:=by rcases G.dT a c f m with h|h;all_goals grind
  obtain⟨h,B⟩:∃h:Nat,K.D e 0=h:=⟨(K.D e 0).toNat,by omega⟩;have C:h<K.nF:=by rcases G.pL e o with k|k<;>omega
  obtain⟨q,E⟩:∃q:Nat,K.D e 1=q:=⟨(K.D e 1).toNat,by omega⟩;obtain⟨u,H⟩:∃u:Nat,K.D e 2=u:=⟨(K.D e 2).toNat,by omega⟩;have:=XZ (r:=(q+u)%4) R f i m x n o j y z B C E Za H Za (by grind) Z
  grind
 .rw[nT (ba (by simpa using j))];exact UL R f i n (by simpa[aa.end] using j)
theorem c8j(R:js w l F A D K){g h j q r:Nat}(n:a<K.nS)(t:b<4)(u:c<4)(v:d<4)(x:ar (K.S a (11+b*2)=e))(k:e<K.nD)(y:K.B a (12+b*2)=false)(P:K.B a (4+c*2)=true)(z:ar (K.S a (3+c*2)=g))(s:g<K.nF)(B:ar (K.D e 0=h))(C:h<K.nF)(E:ar (K.D e 1=q))(H:q<4)(I:ar (K.D e 2=(j+1:Nat)))(S:j<4)(L:ar (r=(q+1)%4)) :
  aG V 75 #[Po (J (O l 0 Q)),Y U a,.agg #[Y U b,Y U c,Y U d]] w
   (Ends l F A D w ⟨((K.nU g (2+d) (K.F h (2+q))).nX e 1 r).nX e 2 j,0,0⟩):=by
 have i:ar (js w l F A D K):=R;have T:=R.hF;have W:=R.hS;have G:=R.hD;have M:=λo f=>((i.out.alloc o).alloc f).k0;have X:=λo=>(i.out.alloc o).k1;have k2:=λo f=>((i.out.alloc o).alloc f).k2;have c1:∀o,(w.alloc o).cell? (O A (a*20+11+b*2) Q)=J (Y U e):=λo=>by rw[(i.out.alloc o).ff n t,x.out]
 have c2:∀o,(w.alloc o).cell? (O A (a*20+11+b*2+1) Q)=J (Bo false):=λo=>by rw[(i.out.alloc o).fe n t,y]
 have c3:∀o f,((w.alloc o).alloc f).cell? (O D (e*5) Q)=J (Y U h):=λo f=>by rw[((i.out.alloc o).alloc f).d0 k,B.out]
 have c4:∀o f,((w.alloc o).alloc f).cell? (O D (e*5+1) Q)=J (Y U q):=λo f=>by rw[((i.out.alloc o).alloc f).d1 k,E.out]
 have c5:∀o f,((w.alloc o).alloc f).cell? (O D (e*5+2) Q)=J (Y U (j+1:Int)):=λo f=>by rw[((i.out.alloc o).alloc f).d2 k,I.out];rfl
 have c7:=λo f=>((i.out.alloc o).alloc f).fw s v;have c8:=λo f=>((i.out.alloc o).alloc f).fw (j:=q) C H;have z1:=λo f=>((i.out.alloc o).alloc f).zf;have z2:=λo f=>((i.out.alloc o).alloc f).zd;have n1:=R.fd;have n2:=R.kf;have n3:F≠l:=λm=>n2 m.symm;have n4:D≠F:=λm=>n1 m.symm;clear R;have b1:(0:Int)<=(d:Int):=by omega
 have b2:(d:Int)<4:=by omega
 have b3:(0:Int)<=(h:Int):=by omega
 have b4:(h:Int)<(K.nF:Int):=by omega
 have b5:(0:Int)<=(q:Int):=by omega
 have b6:(q:Int)<4:=by omega
 have a3:((q:Int)+1)%4=(r:Int):=by have:=L.out;omega
 have e1:((e:Int)==-1)=false:=by rw[beq_eq_false_iff_ne];omega
 have e2:((j:Int)+1==0)=false:=by rw[beq_eq_false_iff_ne];omega
 go_enter fW,fD
 go_wp2
 go_quiet (fail)
 go_wp2_with fail
 refine(V7 (((i.out.alloc _).alloc _).drewN _) n u).mono ?_;rintro m N ⟨rfl,rfl⟩
 go_wp2
 go_quiet (fail)
 go_wp2_with fail
 go_region_held3 (λp=>p.cell? (O l 0 Q)=J (Sc (J (O F 0 Q)) K.nF K.nF)/\p.cell? (O D (e*5) Q)=J (Y U h)/\p.cell? (O D (e*5+1) Q)=J (Y U q)/\p.cell? (O F (h*6+2+q) Q)=J (Y U (K.F h (2+q)))) ((repeat' apply dg)<;>(first|(go_keep;done)|(refine zg ?_;go_keep)))
  (first|(go_at_call 100;refine(zG (((i.out.alloc _).alloc _).drewN _) n u z.out s).mono ?_;rintro m N ⟨rfl,nq',rfl⟩))
 all_goals go_wp2
 all_goals
  go_ret2
  exact Ends.mk (show ar _ from Z) ((((((i.out.alloc _).alloc _).drewN _).nU s Za Za _).nX k Za Za _).nX k Za Za _) (((((((dy.refl w).alloc _).alloc _).drewN _).nU _ _).nX _ _).nX _ _)
theorem TM(R:js w l F A D K)(f:a<K.nS)(g:b<4)(h:ar (K.S a (11+b*2)=-1)) :
  aG V 75 #[Po (J (O l 0 Q)),Y U a,.agg #[Y U b,Y U c,Y U d]] w (Ends l F A D w ⟨K,0,8⟩):=by
 have e:ar (js w l F A D K):=R;have i:=R.hS;have j:=λo=>(e.out.alloc o).k1;have k:∀o,(w.alloc o).cell? (O A (a*20+11+b*2) Q)=J (Y U (-1)):=λo=>by rw[(e.out.alloc o).ff f g,h.out]
 have m:=λo=>(e.out.alloc o).fe f g;clear R
 go_enter fW,fD
 go_wp2
 go_quiet (fail)
 go_wp2
 go_ret2
 exact Ends.mk (show ar _ from Z) (((e.out.alloc _).alloc _).drewN _) ((((dy.refl w).alloc _).alloc _).drewN _)
theorem c8h(R:js w l F A D K)(g:a<K.nS)(h:b<4)(i:ar (K.S a (11+b*2)=e))(j:K.B a (12+b*2)=true) :
  aG V 75 #[Po (J (O l 0 Q)),Y U a,.agg #[Y U b,Y U c,Y U d]] w (Ends l F A D w ⟨K,0,8⟩):=by
 have f:ar (js w l F A D K):=R;have k:=R.hS;have m:=λo=>(f.out.alloc o).k1;have n:∀o,(w.alloc o).cell? (O A (a*20+11+b*2) Q)=J (Y U e):=λo=>by rw[(f.out.alloc o).ff g h,i.out]
 have p:∀o,(w.alloc o).cell? (O A (a*20+11+b*2+1) Q)=J (Bo true):=λo=>by rw[(f.out.alloc o).fe g h,j]
 have q:((e:Int)==-1)=false:=by rw[beq_eq_false_iff_ne];omega
 clear R
 go_enter fW,fD
 go_wp2
 go_quiet (fail)
 go_wp2
 go_ret2
 exact Ends.mk (show ar _ from Z) (((f.out.alloc _).alloc _).drewN _) ((((dy.refl w).alloc _).alloc _).drewN _)
theorem c8i(R:js w l F A D K)(g:a<K.nS)(h:b<4)(i:c<4)(j:ar (K.S a (11+b*2)=e))(k:K.B a (12+b*2)=false)(m:K.B a (4+c*2)=false) :
  aG V 75 #[Po (J (O l 0 Q)),Y U a,.agg #[Y U b,Y U c,Y U d]] w (Ends l F A D w ⟨K,0,6⟩):=by
 have f:ar (js w l F A D K):=R;have n:=R.hS;have p:=λo=>(f.out.alloc o).k1;have q:∀o,(w.alloc o).cell? (O A (a*20+11+b*2) Q)=J (Y U e):=λo=>by rw[(f.out.alloc o).ff g h,j.out]
 have r:∀o,(w.alloc o).cell? (O A (a*20+11+b*2+1) Q)=J (Bo false):=λo=>by rw[(f.out.alloc o).fe g h,k]
 have s:((e:Int)==-1)=false:=by rw[beq_eq_false_iff_ne];omega
 clear R
 go_enter fW,fD
 go_wp2
 go_quiet (fail)
 go_wp2_with fail
 refine(V7 (((f.out.alloc _).alloc _).drewN _) g i).mono ?_;rintro t u ⟨rfl,rfl⟩
 go_wp2
 go_ret2
 exact Ends.mk (show ar _ from Z) (((f.out.alloc _).alloc _).drewN _) ((((dy.refl w).alloc _).alloc _).drewN _)
theorem Od(R:js w l F A D K)(i:Int)(h:a<K.nS)(m:b<4)(n:c<4)(q:ar (K.S a (11+b*2)=e))(p:e<K.nD)(r:K.B a (12+b*2)=false)(y:K.B a (4+c*2)=true)(s:ar (K.D e 2=0))(t:(ar (K.D e 4=0)/\ar (i=12))\/(ar (K.D e 4≠0)/\ar (i=11))) :
  aG V 75 #[Po (J (O l 0 Q)),Y U a,.agg #[Y U b,Y U c,Y U d]] w (Ends l F A D w ⟨K,0,i⟩):=by
 have f:ar (js w l F A D K):=R;have z:=R.hS;have B:=R.hD;have C:=λo=>(f.out.alloc o).k1;have E:=λo g=>((f.out.alloc o).alloc g).k2;have H:∀o,(w.alloc o).cell? (O A (a*20+11+b*2) Q)=J (Y U e):=λo=>by rw[(f.out.alloc o).ff h m,q.out]
 have I:∀o,(w.alloc o).cell? (O A (a*20+11+b*2+1) Q)=J (Bo false):=λo=>by rw[(f.out.alloc o).fe h m,r]
 have L:∀o g,((w.alloc o).alloc g).cell? (O D (e*5+2) Q)=J (Y U 0):=λo g=>by rw[((f.out.alloc o).alloc g).d2 p,s.out]
 have N:=λo g=>((f.out.alloc o).alloc g).d4 p;have P:((e:Int)==-1)=false:=by rw[beq_eq_false_iff_ne];omega
 clear R;rcases t with⟨j,k⟩|⟨j,k⟩
 .have u:(K.D e 4==0)=true:=by rw[j.out];rfl
  go_enter fW,fD
  go_wp2
  go_quiet (fail)
  go_wp2_with fail
  refine(V7 (((f.out.alloc _).alloc _).drewN _) h n).mono ?_;rintro v x ⟨rfl,rfl⟩
  go_wp2
  go_quiet (fail)
  go_wp2
  go_ret2
  rw[k.out];exact Ends.mk (show ar _ from Z) (((f.out.alloc _).alloc _).drewN _) ((((dy.refl w).alloc _).alloc _).drewN _)
 .have u:(K.D e 4==0)=false:=by rw[beq_eq_false_iff_ne];exact j.out
  go_enter fW,fD
  go_wp2
  go_quiet (fail)
  go_wp2_with fail
  refine(V7 (((f.out.alloc _).alloc _).drewN _) h n).mono ?_;rintro v x ⟨rfl,rfl⟩
  go_wp2
  go_quiet (fail)
  go_wp2
  go_ret2
  rw[k.out];exact Ends.mk (show ar _ from Z) (((f.out.alloc _).alloc _).drewN _) ((((dy.refl w).alloc _).alloc _).drewN _)
theorem Sa(R:js w l F A D K)(G:Good K)(f:a<K.nS)(i:b<4)(j:c<4)(z:d<4) :
  aG V 75 #[Po (J (O l 0 Q)),Y U a,.agg #[Y U b,Y U c,Y U d]] w (Ends l F A D w (Q5 K a b c d)):=by
 unfold Q5;rcases G.file a b f i with t|⟨t,P,v⟩
 .rw[nT (bT t)];exact TM R f i t
 obtain⟨e,m⟩:∃e:Nat,K.file a b=e:=⟨(K.file a b).toNat,by omega⟩;have n:e<K.nD:=by omega
 rw[m]at v ⊢;simp only[au]at v ⊢
 by_cases u:K.end a b=true
 .rw[nT (ba u)];exact c8h R f i m u
 have r:K.end a b=false:=by simpa using u
 rw[nR (by rw[r];simp)]
 by_cases o:K.wr a c=true
 .rw[nR (by rw[o];simp)];have S:=G.head e n;have T:=G.cnt e n
  by_cases p:K.D e 2=0
  .by_cases s:K.D e 4=0
   .rw[nT ⟨p,s⟩];exact Od R 12 f i j m n r o p (bT ⟨s,Z⟩)
   .rw[nR λh=>s h.2,nT p];exact Od R 11 f i j m n r o p (ba ⟨s,Z⟩)
  .rw[nR λh=>p h.1,nR p];have B:=G.wr a c f j o;obtain⟨g,C⟩:∃g:Nat,K.dT a c=g:=by rcases G.dT a c f j with h|h;exact absurd h B;exact⟨(K.dT a c).toNat,by omega⟩
   have E:g<K.nF:=by rcases G.dT a c f j with h|h;all_goals grind
   obtain⟨h,H⟩:∃h:Nat,K.D e 0=h:=⟨(K.D e 0).toNat,by omega⟩;have I:h<K.nF:=by rcases G.pL e n with k|k<;>omega
   obtain⟨q,L⟩:∃q:Nat,K.D e 1=q:=⟨(K.D e 1).toNat,by omega⟩;obtain⟨x,N⟩:∃x:Nat,K.D e 2=(x+1:Nat):=⟨(K.D e 2 - 1).toNat,by omega⟩;have:=c8j (r:=(q+1)%4) R f i j z m n r o C E H I L Za N Za Z
   grind
 .have y:K.wr a c=false:=by simpa using o
  rw[nT y];exact c8i R f i j m r y
variable{s:Nat}
theorem c9E(R:js w l F A D K)(c:Int)(d:s<K.nS)(f:a<4)(g:b<K.nF) :
  aG V 36 #[Po (J (O l 0 Q)),Y U s,Y U 2,.agg #[Y U a,Y U b,Y U c]] w (Ends l F A D w (qb K s a b)):=by
 have h:ar (js w l F A D K):=R;clear R
 go_enter cj,bP
 go_wp2_with fail
 refine(c7I (h.out.alloc _) c d f g).mono ?_;rintro e i ⟨rfl,R1,q1⟩
 go_wp2
 go_ret2
 exact⟨Z,R1,((dy.refl w).alloc _).trans q1⟩
theorem Wj(R:js w l F A D K)(G:Good K)(d:s<K.nS)(f:a<K.nD)(g:b<K.nF)(h:c<4) :
  aG V 36 #[Po (J (O l 0 Q)),Y U s,Y U 13,.agg #[Y U a,Y U b,Y U c]] w (Ends l F A D w (C4 K s a b c)):=by
 have i:ar (js w l F A D K):=R;clear R
 go_enter cj,bP
 go_wp2_with fail
 refine(Xc (i.out.alloc _) G d f g h).mono ?_;rintro e j ⟨rfl,R1,q1⟩
 go_wp2
 go_ret2
 exact⟨Z,R1,((dy.refl w).alloc _).trans q1⟩
theorem UK(R:js w l F A D K)(G:Good K)(d:s<K.nS)(f:a<4)(g:b<4)(h:c<4) :
  aG V 36 #[Po (J (O l 0 Q)),Y U s,Y U 16,.agg #[Y U a,Y U b,Y U c]] w (Ends l F A D w (H9 K s a b c)):=by
 have i:ar (js w l F A D K):=R;clear R
 go_enter cj,bP
 go_wp2_with fail
 refine(Vm (i.out.alloc _) G d f g h).mono ?_;rintro e j ⟨rfl,R1,q1⟩
 go_wp2
 go_ret2
 exact⟨Z,R1,((dy.refl w).alloc _).trans q1⟩
theorem Rv(R:js w l F A D K)(G:Good K)(d:s<K.nS)(f:a<4)(g:b<4)(h:c<4) :
  aG V 36 #[Po (J (O l 0 Q)),Y U s,Y U 17,.agg #[Y U a,Y U b,Y U c]] w (Ends l F A D w (Q5 K s a b c)):=by
 have i:ar (js w l F A D K):=R;clear R
 go_enter cj,bP
 go_wp2_with fail
 refine(Sa (i.out.alloc _) G d f g h).mono ?_;rintro e j ⟨rfl,R1,q1⟩
 go_wp2
 go_ret2
 exact⟨Z,R1,((dy.refl w).alloc _).trans q1⟩
theorem c7n(R:js w l F A D K)(G:Good K)(c:Int)(d:s<K.nS)(f:a<4)(g:b<4) :
  aG V 36 #[Po (J (O l 0 Q)),Y U s,Y U 18,.agg #[Y U a,Y U b,Y U c]] w (Ends l F A D w (Z0 K s a b)):=by
 have h:ar (js w l F A D K):=R;clear R
 go_enter cj,bP
 go_wp2_with fail
 refine(TU (h.out.alloc _) G c d f g).mono ?_;rintro e i ⟨rfl,R1,q1⟩
 go_wp2
 go_ret2
 exact⟨Z,R1,((dy.refl w).alloc _).trans q1⟩
theorem ZI(R:js w l F A D K)(G:Good K)(c:Int)(d:s<K.nS)(f:a<4)(g:b<4) :
  aG V 36 #[Po (J (O l 0 Q)),Y U s,Y U 19,.agg #[Y U a,Y U b,Y U c]] w (Ends l F A D w (J2 K s a b c)):=by
 have h:ar (js w l F A D K):=R;clear R
 go_enter cj,bP
 go_wp2_with fail
 refine(c2o (h.out.alloc _) G c d f g).mono ?_;rintro e i ⟨rfl,R1,q1⟩
 go_wp2
 go_ret2
 exact⟨Z,R1,((dy.refl w).alloc _).trans q1⟩
theorem C6:∀(d:List Vu) (o:Nat) {w:Wd} {f:Nat->Vu} (h:w.rowIs a b c f),(w.setCells a o d).rowIs a b c (λj=>if o<=j/\j<o+d.length then d.getD (j - o) (Bo false) else f j)
 | [],o,w,f,h=>by
  show w.rowIs a b c _;refine h.congr λj i=>?_;rw[nR Zc]
 | v::r,o,w,f,h=>by
  show((w.setCell (O a o Q) v).setCells a (o+1) r).rowIs a b c _;refine(C6 r (o+1) (h.set o v)).congr λj i=>?_
  by_cases e:j=o
  .subst e;rw[nR Za];simp
  .by_cases g:o+1<=j/\j<o+1+r.length
   .rw[nT g,nT (by simp;omega)];obtain⟨m,k⟩:∃m,j=o+1+m:=⟨j - (o+1),by omega⟩;subst k;rw[show o+1+m - (o+1)=m by omega,show o+1+m - o=m+1 by omega];rfl
   .rw[nR g,nR e,nR (by simp only[bQ];omega)]
theorem l9:∀(b:List Vu) (o:Nat) (w:Wd),(w.setCells a o b).heap.size=w.heap.size
 | [],_,_=>rfl
 | v::r,o,w=>by show((w.setCell (O a o Q) v).setCells a (o+1) r).heap.size=_;rw[l9 r];exact i6
theorem p9(c:a<=b):∀(d:List Vu) (o:Nat) {w:Wd} (h:bG a f w),bG a f (w.setCells b o d)
 | [],_,_,h=>h
 | v::r,o,w,h=>p9 c r (o+1) (h.setCell c v)
theorem I5(c:b≠a):∀(d:List Vu) (o:Nat) (w:Wd),(w.setCells a o d).heap[b]?=w.heap[b]?
 | [],_,_=>rfl
 | v::r,o,w=>by show((w.setCell (O a o Q) v).setCells a (o+1) r).heap[b]?=_;rw[I5 c r];exact eN _ _ _ _ c
theorem D6{w:Wd}{f:Nat->Vu}(h:w.rowIs a b c f){o m:Nat}(d:o+m<=c):w.there a o m:=λj e =>
 ⟨by rw[h.cell Za];rfl,h.frozen _⟩
theorem Hu{w:Wd}{f:Nat->Vu}(h:w.rowIs a b c f){o m:Nat}(g:o+m<=c):w.rangeAt a o ((aM m).map λj=>f (o+j)):=λj v d=>by
 have e:j<m:=by have:=(bj.1 d).1;simpa using this
 rw[bZ,cY e]at d;rw[h.cell Za];exact d
theorem K9(w:Wd)(c:Array Vu)(t:Ti):(w.alloc (.cells c t)).rowIs w.heap.size t c.size (λj=>c.getD j (Bo false)) :=
 World.rowIs_alloc w c t _ λi a=>by simp[a]
theorem yd(w:Wd)(o:Obj)(c:Array Vu)(t:Ti):((w.alloc o).alloc (.cells c t)).rowIs (w.heap.size+1) t c.size (λj=>c.getD j (Bo false)):=by
 have h:=K9 (w.alloc o) c t;have e:(w.alloc o).heap.size=w.heap.size+1:=by simp
 rw[e]at h;exact h
theorem Gy{P:Pg}{c:mR}{p:Tmp}(h:c.results=#[.cell p x])(w:Wd)(b:Nat)(a:List Vu){d:TypeDesc}(e:i.getD p Ud=Po (J (O b 0 Q)))(f:w.rangeAt b 0 a)(g:P.underlying x=J d)(j:d.isRow=true)(k:(P.info? x).map (·.size)=J a.length) :
  (di c i).run P w=.ok (.agg a.toArray) w:=by
 have m:i[p]?.getD Ud=Po (J (O b 0 Q)):=by simpa using e
 simp[di,h,m,asAddr,run_loadVar_mid w b 0 x a d f g j k]
def G5(n a b:Int):Bool:=decide (a<=n)&&decide (n<=b)
theorem W4{w:Wd} :
  aG V 26 #[Y U k,Y U m,Y U n] w λe a=>e=.returned (Bo (G5 k m n))/\a=w:=by
 by_cases b:m<=k
 .by_cases c:k<=n
  .have E:ar (G5 k m n=true):=by unfold ar G5;simp[b,c]
   go_enter mz,lE
   go_wp2
   go_ret
   rw[E.out];exact⟨Z,Z⟩
  .have E:ar (G5 k m n=false):=by unfold ar G5;simp;omega
   go_enter mz,lE
   go_wp2
   go_ret
   rw[E.out];exact⟨Z,Z⟩
 .have E:ar (G5 k m n=false):=by unfold ar G5;simp;omega
  go_enter mz,lE
  go_wp2
  go_ret
  rw[E.out];exact⟨Z,Z⟩
def P0(a b j:Nat):Vu :=
 if j=1\/j=2 then Y U (-1) else if 3<=j/\j<=10 then(if j%2=0 then Bo false else if j<3+a*2 then Y U (-1) else Y U 0)
 else if 11<=j/\j<=18 then(if j%2=0 then Bo false else if j<11+b*2 then Y U (-1) else Y U 0) else Y U 0
theorem YW(a j:Nat)(g:a<4):(if j=3+a*2 then Y U (-1) else P0 a 0 j)=P0 (a+1) 0 j:=by
 unfold P0
 by_cases e:j=3+a*2
 .rw[nT e,nR Za,nT Za,nR Za,nT Za]
 .rw[nR e]
  by_cases b:j=1\/j=2
  .rw[nT b,nT b]
  rw[nR b,nR b]
  by_cases c:3<=j/\j<=10
  .rw[nT c,nT c]
   by_cases d:j%2=0
   .rw[nT d,nT d]
   rw[nR d,nR d]
   by_cases f:j<3+a*2
   .rw[nT f,nT Za]
   .rw[nR f,nR Za]
  .rw[nR c,nR c]
theorem Zn(b j:Nat)(h:b<4):(if j=11+b*2 then Y U (-1) else P0 4 b j)=P0 4 (b+1) j:=by
 unfold P0
 by_cases e:j=11+b*2
 .rw[nT e,nR Za,nR Za,nT Za,nR Za,nT Za]
 .rw[nR e]
  by_cases a:j=1\/j=2
  .rw[nT a,nT a]
  rw[nR a,nR a]
  by_cases c:3<=j/\j<=10
  .rw[nT c,nT c]
  rw[nR c,nR c]
  by_cases d:11<=j/\j<=18
  .rw[nT d,nT d]
   by_cases f:j%2=0
   .rw[nT f,nT f]
   rw[nR f,nR f]
   by_cases g:j<11+b*2
   .rw[nT g,nT Za]
   .rw[nR g,nR Za]
  .rw[nR d,nR d]
def sL:List dQ:=(aM 20).map (P0 4 4)
theorem S4:sL.length=20:=rfl
theorem MZ:sL.toArray.all (·.oneCell')=true:=by kernel_rfl
theorem Kg(w:Wd) :
  aG V 29 #[] w λe c=>e=.returned (.agg sL.toArray)/\bG w.heap.size w c:=by
 go_enter Tryz.func29,Tryz.ntmps29
 go_wp2_with (refine eh Z 82 _ _ Z (w.heap.size+1) 0 _ Z Z ?_ Zd Zd ?_)
 .exact D6 (yd w _ _ _) Zc
 go_loopw [5] (λi c=>∃k:Nat,k<=4/\i=Y U k/\bG w.heap.size w c/\c.heap.size=w.heap.size+2/\(∃f,c.rowIs w.heap.size 82 20 f)/\c.rowIs (w.heap.size+1) 82 20 (P0 k 0)) λi _=>4 - (bM i).toNat
 case atStart =>
  refine⟨0,by omega,Z,?_,?_,?_,?_⟩
  .exact p9 Za _ _ (((bD _ _).alloc (af _) _).alloc Zc _)
  .rw[l9];simp
  .refine⟨_,World.rowIs.of_block (World.rowIs.alloc (K9 w _ _) _) (I5 Za _ _ _)⟩
  .refine(C6 _ 0 (yd w _ _ _)).congr λj u=>?_;have P:j<20:=u;cases j,(Za:j<20) using oQ
   all_goals rfl
 case round =>
  obtain⟨k,y,rfl,d,m,⟨p,g⟩,b⟩:=hrel
  by_cases v:k<4
  .have z:=b.cell (i:=3+k*2) Za;have B:=b.frozen;have n:ar (bG w.heap.size w wr):=d;have h:ar (wr.rowIs w.heap.size 82 20 p):=g;have o:ar (wr.rowIs (w.heap.size+1) 82 20 (P0 k 0)):=b;have q:ar (wr.heap.size=w.heap.size+2):=m;clear d g b m
   go_wp2
   refine⟨⟨k+1,by omega,by go_num,n.out.setCell Zc _,by rw[i6];exact q.out,⟨p,h.out.setOther Zc _⟩,(o.out.set _ _).congr λj u=>YW k j v⟩,by simp[bM];omega⟩
  .obtain rfl:k=4:=by omega
   have n:ar (bG w.heap.size w wr):=d;have h:ar (wr.rowIs w.heap.size 82 20 p):=g;have o:ar (wr.rowIs (w.heap.size+1) 82 20 (P0 4 0)):=b;have q:ar (wr.heap.size=w.heap.size+2):=m;clear d g b m
   go_wp2
   go_loopw [13] (λi c=>∃k:Nat,k<=4/\i=Y U k/\bG w.heap.size w c/\c.heap.size=w.heap.size+2/\(∃f,c.rowIs w.heap.size 82 20 f)/\c.rowIs (w.heap.size+1) 82 20 (P0 4 k)) λi _=>4 - (bM i).toNat
   case atStart=>exact⟨0,by omega,Z,n.out,q.out,⟨_,h.out⟩,o.out⟩
   case round =>
    clear n h o q;obtain⟨k,y,rfl,d,m,⟨p,g⟩,b⟩:=hrel
    by_cases v:k<4
    .have z:=b.cell (i:=11+k*2) Za;have B:=b.frozen;have n:ar (bG w.heap.size w wr):=d;have h:ar (wr.rowIs w.heap.size 82 20 p):=g;have o:ar (wr.rowIs (w.heap.size+1) 82 20 (P0 4 k)):=b;have q:ar (wr.heap.size=w.heap.size+2):=m;clear d g b m
     go_wp2
     refine⟨⟨k+1,by omega,by go_num,n.out.setCell Zc _,by rw[i6];exact q.out,⟨p,h.out.setOther Zc _⟩,(o.out.set _ _).congr λj u=>Zn k j v⟩,by simp[bM];omega⟩
    .obtain rfl:k=4:=by omega
     have n:ar (bG w.heap.size w wr):=d;have h:ar (wr.rowIs w.heap.size 82 20 p):=g;have o:ar (wr.rowIs (w.heap.size+1) 82 20 (P0 4 4)):=b;clear d g b m;obtain⟨a,r⟩:∃a,a=(aM 20).map (P0 4 4):=⟨_,Z⟩;have C:ar (a=(aM 20).map (P0 4 4)):=r;have t:a.length=20:=by rw[r];rfl
     have E:ar (wr.rangeAt (w.heap.size+1) 0 a):=by
      have:=Hu o.out (o:=0) (m:=20) Za;simp only[aE]at this;unfold ar;rw[r];exact this
     have H:ar (wr.there w.heap.size 0 a.toArray.size):=D6 h.out (by simp[t]);have x:ar ((V.info? 82).map (·.size)=J a.length):=by unfold ar;rw[t];kernel_rfl
     have I:ar ((V.info? 82).map (·.size)=J a.toArray.size):=by unfold ar;rw[aR,t];kernel_rfl
     have L:ar (a.toArray.all (·.oneCell')=true):=by unfold ar;rw[r];kernel_rfl
     have N:ar ((wr.setCells w.heap.size 0 a).rangeAt w.heap.size 0 a):=fC wr w.heap.size 0 a (by rw[t];exact D6 h.out Za);clear r t
     go_wp2_with (first|(refine fR Z 82 _ Z (w.heap.size+1) 0 Z a _ E.out jS Z x.out ?_)|(refine eh Z 82 _ _ Z w.heap.size 0 a.toArray Z Z H.out I.out L.out ?_))
     refine bodyPost_ret (v:=.agg a.toArray) (Gy Tryz.results29 _ w.heap.size a Z N.out jS Z x.out) Z ⟨by rw[C.out];rfl,p9 (af _) _ _ n.out⟩
theorem GW{w:Wd}(h:w.heap[a]?=J (.cells N.toArray b (0,0))):w.rangeAt a 0 N:=λj v c=>by
 rw[jR w a (0+j) N.toArray b (0,0) h];simpa using c
theorem Tf:(V.info? 71).map (λi=>(i.zero,i.size,i.bytes))=J (J (.agg #[Y U 0,Y U 0,Y U 0,Y U 0,Y U 0,Y U 0]),6,48):=by kernel_rfl
theorem MB(n:Nat)(f:n<=32)(w:Wd):∃C:Array Vu,C.size=n*6/\(iB 66 (Y U n) (Y U n)).run V w=.ok (Sc (J (O w.heap.size 0 Q)) n n) (w.alloc (.cells C 71)):=by
 have a:=Tf
 cases b:V.info? 71 with
 | none=>rw[b]at a;cases a
 | some i =>
  rw[b]at a;simp only[aF,bz,cU]at a;let⟨c,d,e⟩:=a;have:=run_make (P:=V) w 66 71 i _ Tryz.underlying66 b c .i64 .i64 n n Za Za (by rw[e];omega) Za;rw[d]at this;exact⟨_,size_madeCells _ _,this⟩
theorem TC(n:Nat)(E:n<=32)(a:List Vu)(c:a.length=6)(h:a.toArray.all (·.oneCell')=true){w:Wd} :
  aG V 27 #[Y U n,.agg a.toArray] w λe b=>e=.returned (Sc (J (O (w.heap.size+1) 0 Q)) n n)/\bG w.heap.size w b/\b.heap.size=w.heap.size+2/\b.rowIs (w.heap.size+1) 71 (n*6) (λj=>a.getD (j%6) (Bo false)):=by
 have m:ar (a.length=6):=c;have H:ar ((V.info? 71).map (·.size)=J a.length):=by unfold ar;rw[c];kernel_rfl
 have I:ar ((V.info? 71).map (·.size)=J a.toArray.size):=by unfold ar;rw[aR,c];kernel_rfl
 have L:ar (a.toArray.all (·.oneCell')=true):=h;let⟨C,o,N⟩:=MB n E (w.alloc (.cells a.toArray 71));have p:(w.alloc (.cells a.toArray 71)).heap.size=w.heap.size+1:=by simp
 rw[p]at N;have P:ar (C.size=n*6):=o;clear c h o p
 go_enter Tryz.func27,Tryz.ntmps27
 go_wp2
 go_loopw [11] (λi b=>∃k:Nat,k<=n/\i=Y U k/\bG w.heap.size w b/\b.heap.size=w.heap.size+2/\b.heap[w.heap.size]?=J (.cells a.toArray 71 (0,0))/\∃f,b.rowIs (w.heap.size+1) 71 (n*6) f/\∀j,j<k*6->f j=a.getD (j%6) (Bo false)) λi _=>n - (bM i).toNat
 case atStart =>
  refine⟨0,by omega,Z,((bD _ _).alloc (af _) _).alloc Zc _,by simp,?_,(λj=>C.getD j (Bo false)),?_,λj d=>by omega⟩
  .rw[aK _ _ _ Zc];exact cE w _
  .have:=yd w (.cells a.toArray 71) C 71;rw[P.out]at this;exact this
 case round =>
  obtain⟨k,T,rfl,q,r,t,f,u,v⟩:=hrel;have x:ar (bG w.heap.size w wr):=q;have y:ar (wr.heap.size=w.heap.size+2):=r;have z:ar (wr.heap[w.heap.size]?=J (.cells a.toArray 71 (0,0))):=t;have g:ar (wr.rowIs (w.heap.size+1) 71 (n*6) f):=u;have B:ar (∀j,j<k*6->f j=a.getD (j%6) (Bo false)):=v;clear q r t u v
  by_cases W:k<n
  .have R:ar (wr.rangeAt w.heap.size 0 a):=GW z.out;have S:ar (wr.there (w.heap.size+1) (k*6) a.toArray.size):=D6 g.out (by rw[aR,m.out];omega)
   go_wp2_with (first|(refine fR Z 71 _ Z w.heap.size 0 Z a _ R.out Tryz.underlying71 Z H.out ?_)|(refine eh Z 71 _ _ Z (w.heap.size+1) (k*6) a.toArray Z Z S.out I.out L.out ?_))
   refine⟨⟨k+1,by omega,by go_num,p9 Za _ _ x.out,by rw[l9];exact y.out,by rw[I5 Za];exact z.out,_,C6 _ _ g.out,λj d=>?_⟩,by simp[bM];omega⟩;have G:=m.out
   by_cases e:k*6<=j/\j<k*6+a.length
   .grind
   .rw[nR (by simpa using e)];exact B.out j Za
  .obtain rfl:k=n:=by omega
   go_wp2
   go_ret
   exact⟨Z,x.out,y.out,g.out.congr λj d=>B.out j d⟩
theorem Wg:(V.info? 82).map (λi=>(i.zero,i.size,i.bytes))=J (J (.agg #[Y U 0,Y U 0,Y U 0,Y U 0,Bo false,Y U 0,Bo false,Y U 0,Bo false,Y U 0,Bo false,Y U 0,Bo false,Y U 0,Bo false,Y U 0,Bo false,Y U 0,Bo false,Y U 0]),20,160):=by kernel_rfl
theorem MH(n:Nat)(f:n<=32)(w:Wd):∃C:Array Vu,C.size=n*20/\(iB 72 (Y U n) (Y U n)).run V w=.ok (Sc (J (O w.heap.size 0 Q)) n n) (w.alloc (.cells C 82)):=by
 have a:=Wg
 cases b:V.info? 82 with
 | none=>rw[b]at a;cases a
 | some i =>
  rw[b]at a;simp only[aF,bz,cU]at a;let⟨c,d,e⟩:=a;have:=run_make (P:=V) w 72 82 i _ jz b c .i64 .i64 n n Za Za (by rw[e];omega) Za;rw[d]at this;exact⟨_,size_madeCells _ _,this⟩
theorem Tp(n:Nat)(E:n<=32)(a:List Vu)(c:a.length=20)(h:a.toArray.all (·.oneCell')=true){w:Wd} :
  aG V 28 #[Y U n,.agg a.toArray] w λe b=>e=.returned (Sc (J (O (w.heap.size+1) 0 Q)) n n)/\bG w.heap.size w b/\b.heap.size=w.heap.size+2/\b.rowIs (w.heap.size+1) 82 (n*20) (λj=>a.getD (j%20) (Bo false)):=by
 have m:ar (a.length=20):=c;have H:ar ((V.info? 82).map (·.size)=J a.length):=by unfold ar;rw[c];kernel_rfl
 have I:ar ((V.info? 82).map (·.size)=J a.toArray.size):=by unfold ar;rw[aR,c];kernel_rfl
 have L:ar (a.toArray.all (·.oneCell')=true):=h;let⟨C,o,N⟩:=MH n E (w.alloc (.cells a.toArray 82));have p:(w.alloc (.cells a.toArray 82)).heap.size=w.heap.size+1:=by simp
 rw[p]at N;have P:ar (C.size=n*20):=o;clear c h o p
 go_enter Tryz.func28,Tryz.ntmps28
 go_wp2
 go_loopw [11] (λi b=>∃k:Nat,k<=n/\i=Y U k/\bG w.heap.size w b/\b.heap.size=w.heap.size+2/\b.heap[w.heap.size]?=J (.cells a.toArray 82 (0,0))/\∃f,b.rowIs (w.heap.size+1) 82 (n*20) f/\∀j,j<k*20->f j=a.getD (j%20) (Bo false)) λi _=>n - (bM i).toNat
 case atStart =>
  refine⟨0,by omega,Z,((bD _ _).alloc (af _) _).alloc Zc _,by simp,?_,(λj=>C.getD j (Bo false)),?_,λj d=>by omega⟩
  .rw[aK _ _ _ Zc];exact cE w _
  .have:=yd w (.cells a.toArray 82) C 82;rw[P.out]at this;exact this
 case round =>
  obtain⟨k,T,rfl,q,r,t,f,u,v⟩:=hrel;have x:ar (bG w.heap.size w wr):=q;have y:ar (wr.heap.size=w.heap.size+2):=r;have z:ar (wr.heap[w.heap.size]?=J (.cells a.toArray 82 (0,0))):=t;have g:ar (wr.rowIs (w.heap.size+1) 82 (n*20) f):=u;have B:ar (∀j,j<k*20->f j=a.getD (j%20) (Bo false)):=v;clear q r t u v
  by_cases W:k<n
  .have R:ar (wr.rangeAt w.heap.size 0 a):=GW z.out;have S:ar (wr.there (w.heap.size+1) (k*20) a.toArray.size):=D6 g.out (by rw[aR,m.out];omega)
   go_wp2_with (first|(refine fR Z 82 _ Z w.heap.size 0 Z a _ R.out jS Z H.out ?_)|(refine eh Z 82 _ _ Z (w.heap.size+1) (k*20) a.toArray Z Z S.out I.out L.out ?_))
   refine⟨⟨k+1,by omega,by go_num,p9 Za _ _ x.out,by rw[l9];exact y.out,by rw[I5 Za];exact z.out,_,C6 _ _ g.out,λj d=>?_⟩,by simp[bM];omega⟩;have G:=m.out
   by_cases e:k*20<=j/\j<k*20+a.length
   .grind
   .rw[nR (by simpa using e)];exact B.out j Za
  .obtain rfl:k=n:=by omega
   go_wp2
   go_ret
   exact⟨Z,x.out,y.out,g.out.congr λj d=>B.out j d⟩
theorem c4h:(V.info? 87).map (λi=>(i.zero,i.size,i.bytes))=J (J (.agg #[Y U 0,Y U 0,Y U 0,Y U 0,Y U 0]),5,40):=by kernel_rfl
theorem JJ(n:Nat)(f:n<=32)(w:Wd):∃C:Array Vu,C.size=n*5/\(iB 83 (Y U n) (Y U n)).run V w=.ok (Sc (J (O w.heap.size 0 Q)) n n) (w.alloc (.cells C 87)):=by
 have a:=c4h
 cases b:V.info? 87 with
 | none=>rw[b]at a;cases a
 | some i =>
  rw[b]at a;simp only[aF,bz,cU]at a;let⟨c,d,e⟩:=a;have:=run_make (P:=V) w 83 87 i _ Tryz.underlying83 b c .i64 .i64 n n Za Za (by rw[e];omega) Za;rw[d]at this;exact⟨_,size_madeCells _ _,this⟩
theorem a8V(n:Nat)(E:n<=32)(a:List Vu)(c:a.length=5)(h:a.toArray.all (·.oneCell')=true){w:Wd} :
  aG V 30 #[Y U n,.agg a.toArray] w λe b=>e=.returned (Sc (J (O (w.heap.size+1) 0 Q)) n n)/\bG w.heap.size w b/\b.heap.size=w.heap.size+2/\b.rowIs (w.heap.size+1) 87 (n*5) (λj=>a.getD (j%5) (Bo false)):=by
 have m:ar (a.length=5):=c;have H:ar ((V.info? 87).map (·.size)=J a.length):=by unfold ar;rw[c];kernel_rfl
 have I:ar ((V.info? 87).map (·.size)=J a.toArray.size):=by unfold ar;rw[aR,c];kernel_rfl
 have L:ar (a.toArray.all (·.oneCell')=true):=h;let⟨C,o,N⟩:=JJ n E (w.alloc (.cells a.toArray 87));have p:(w.alloc (.cells a.toArray 87)).heap.size=w.heap.size+1:=by simp
 rw[p]at N;have P:ar (C.size=n*5):=o;clear c h o p
 go_enter Tryz.func30,Tryz.ntmps30
 go_wp2
 go_loopw [11] (λi b=>∃k:Nat,k<=n/\i=Y U k/\bG w.heap.size w b/\b.heap.size=w.heap.size+2/\b.heap[w.heap.size]?=J (.cells a.toArray 87 (0,0))/\∃f,b.rowIs (w.heap.size+1) 87 (n*5) f/\∀j,j<k*5->f j=a.getD (j%5) (Bo false)) λi _=>n - (bM i).toNat
 case atStart =>
  refine⟨0,by omega,Z,((bD _ _).alloc (af _) _).alloc Zc _,by simp,?_,(λj=>C.getD j (Bo false)),?_,λj d=>by omega⟩
  .rw[aK _ _ _ Zc];exact cE w _
  .have:=yd w (.cells a.toArray 87) C 87;rw[P.out]at this;exact this
 case round =>
  obtain⟨k,T,rfl,q,r,t,f,u,v⟩:=hrel;have x:ar (bG w.heap.size w wr):=q;have y:ar (wr.heap.size=w.heap.size+2):=r;have z:ar (wr.heap[w.heap.size]?=J (.cells a.toArray 87 (0,0))):=t;have g:ar (wr.rowIs (w.heap.size+1) 87 (n*5) f):=u;have B:ar (∀j,j<k*5->f j=a.getD (j%5) (Bo false)):=v;clear q r t u v
  by_cases W:k<n
  .have R:ar (wr.rangeAt w.heap.size 0 a):=GW z.out;have S:ar (wr.there (w.heap.size+1) (k*5) a.toArray.size):=D6 g.out (by rw[aR,m.out];omega)
   go_wp2_with (first|(refine fR Z 87 _ Z w.heap.size 0 Z a _ R.out Tryz.underlying87 Z H.out ?_)|(refine eh Z 87 _ _ Z (w.heap.size+1) (k*5) a.toArray Z Z S.out I.out L.out ?_))
   refine⟨⟨k+1,by omega,by go_num,p9 Za _ _ x.out,by rw[l9];exact y.out,by rw[I5 Za];exact z.out,_,C6 _ _ g.out,λj d=>?_⟩,by simp[bM];omega⟩;have G:=m.out
   by_cases e:k*5<=j/\j<k*5+a.length
   .grind
   .rw[nR (by simpa using e)];exact B.out j Za
  .obtain rfl:k=n:=by omega
   go_wp2
   go_ret
   exact⟨Z,x.out,y.out,g.out.congr λj d=>B.out j d⟩
theorem Qi{w:Wd}{l F A D g k:Nat}(m:w.heap[l]?=J (.cells #[Sc (J (O F 0 Q)) e e,Sc (J (O A 0 Q)) g g,Sc (J (O D 0 Q)) k k] a (0,0)))(p:w.rowIs F b (e*6) λj=>([Y U 0,Y U (-1),Y U 0,Y U 0,Y U 0,Y U 0]:List Vu).getD (j%6) (Bo false))(n:w.rowIs A c (g*20) λj=>sL.getD (j%20) (Bo false))(q:w.rowIs D d (k*5) λj=>([Y U (-1),Y U 0,Y U 0,Y U 0,Y U 0]:List Vu).getD (j%5) (Bo false))(u:l≠F)(v:l≠A)(x:l≠D)(y:F≠A)(z:F≠D)(B:A≠D)(hF:e<=32)(C:g<=6)(E:k<=4):js w l F A D (rP e g k):=by
 have H:l<w.heap.size:=(Zj m).1;refine⟨?_,?_,?_,?_,?_,?_,?_,p.frozen,n.frozen,q.frozen,H,p.lt,n.lt,q.lt,u,v,x,y,z,B,hF,C,E⟩
 .rw[jR w l 0 _ _ _ m];rfl
 .rw[jR w l 1 _ _ _ m];rfl
 .rw[jR w l 2 _ _ _ m];rfl
 .intro i f h r;have t:i<e:=h;rw[p.cell Za,show(i*6+f)%6=f by omega];obtain rfl|rfl|rfl|rfl|rfl|rfl:f=0\/f=1\/f=2\/f=3\/f=4\/f=5:=by omega
  all_goals rfl
 .intro i f h r o;have t:i<g:=h;rw[n.cell Za,show(i*20+f)%20=f by omega];obtain rfl|rfl|rfl|rfl|rfl|rfl|rfl|rfl|rfl|rfl|rfl|rfl:f=0\/f=1\/f=2\/f=3\/f=5\/f=7\/f=9\/f=11\/f=13\/f=15\/f=17\/f=19:=by unfold pF at o;omega
  all_goals rfl
 .intro i f h o;have t:i<g:=h;have r:f<20:=by unfold pF at o;omega
  rw[n.cell Za,show(i*20+f)%20=f by omega];obtain rfl|rfl|rfl|rfl|rfl|rfl|rfl|rfl:f=4\/f=6\/f=8\/f=10\/f=12\/f=14\/f=16\/f=18:=by unfold pF at o;omega
  all_goals rfl
 .intro i f h r;have t:i<k:=h;rw[q.cell Za,show(i*5+f)%5=f by omega];obtain rfl|rfl|rfl|rfl|rfl:f=0\/f=1\/f=2\/f=3\/f=4:=by omega
  all_goals rfl
theorem Sf{w:Wd}{l F A D:Nat}{K:aa}(R:js w l F A D K){i:Nat}(a b:Int)(d:k=i)(f:i<K.nF) :
  aG V 31 #[Po (J (O l 0 Q)),Y U k,Y U a,Y U b] w λe c=>e=.returned (.tuple #[])/\js c l F A D (K.an i a b)/\dy F A D w c:=by
 subst d;exact Y4 R a b f
theorem Uz(a b c:Nat)(h1:2<=a)(p:a<=32)(h3:1<=b)(q:b<=6)(y:c<=4)(w:Wd) :
  aG V 12 #[.agg #[Y U a,Y U b,Y U c]] w λe f=>∃l F A D,e=.returned (.tuple #[Po (J (O l 0 Q)),Y U 0])/\js f l F A D (K8 a b c)/\bG w.heap.size w f/\w.heap.size<=l/\w.heap.size<=F/\w.heap.size<=A/\w.heap.size<=D:=by
 have e1:G5 a 2 32=true:=by unfold G5;simp;omega
 have e2:G5 b 1 6=true:=by unfold G5;simp;omega
 have e3:G5 c 0 4=true:=by unfold G5;simp;omega
 go_enter kF,lX
 go_wp2_with fail
 refine(W4).mono ?_;rintro e j ⟨rfl,rfl⟩
 go_wp2_with fail
 refine(W4).mono ?_;rintro e j ⟨rfl,rfl⟩
 go_wp2_with fail
 refine(W4).mono ?_;rintro e j ⟨rfl,rfl⟩
 go_wp2_with fail
 go_region_held3 (λf=>f.cell? (O w.heap.size 0 Q)=J (Y U a)/\f.cell? (O w.heap.size 1 Q)=J (Y U b)/\f.cell? (O w.heap.size 2 Q)=J (Y U c)) (go_keep)
  (first|(go_at_call 27;go_must (refine(TC a p [Y U 0,Y U (-1),Y U 0,Y U 0,Y U 0,Y U 0] Z Zd).mono ?_);rintro e j ⟨rfl,b1,z1,r1⟩;go_must (have z:=λo=>b1.cell (p:=(O w.heap.size o Q)) Zc))|(go_at_call 29;refine(Kg _).mono ?_;rintro e d ⟨rfl,b2⟩;have B:=λo=>b2.cell (p:=(O w.heap.size o Q)) (by rw[z1];simp;omega);have i:=b2.size)|(go_at_call 28;refine(Tp b Za sL S4 MZ).mono ?_;rintro e C ⟨rfl,b3,z3,r3⟩;have E:=λo=>b3.cell (p:=(O w.heap.size o Q)) (by rw[z1]at i;simp at i;show w.heap.size<_;omega))|(go_at_call 30;refine(a8V c Za [Y U (-1),Y U 0,Y U 0,Y U 0,Y U 0] Z Zd).mono ?_;rintro e g ⟨rfl,b4,z4,r4⟩;have H:=λo=>b4.cell (p:=(O w.heap.size o Q)) (by rw[z1]at i;simp at i;show w.heap.size<_;omega)))
 have I:j.heap.size=w.heap.size+3:=by rw[z1];show(w.alloc _).heap.size+2=_;simp
 have r:w.heap.size+3<=d.heap.size:=by omega
 have k:=r1;rw[show((w.alloc (.cells #[Y U a,Y U b,Y U c] 23)).drew.heap.size+1)=w.heap.size+2 from by show(w.alloc _).heap.size+1=_;simp]at k;have t:=((k.of_block (b2.block _ Za)).of_block (b3.block _ Za)).of_block (b4.block _ Za);have u:=r3.of_block (b4.block _ Za);have L:ar (bG w.heap.size w g):=by
  have b0:bG w.heap.size w (w.alloc (.cells #[Y U a,Y U b,Y U c] 23)).drew:=((bD _ _).alloc (af _) _).drew;exact(((b0.trans (b1.mono (by show _<=(w.alloc _).heap.size;simp))).trans (b2.mono Za)).trans (b3.mono Za)).trans (b4.mono Za)
 have v:g.heap.size=d.heap.size+2+2:=by omega
 have m:=r4;rw[show C.heap.size+1=d.heap.size+2+1 by omega]at m;have n:=cE g (.cells #[Sc (J (O (w.heap.size+1+1) 0 Q)) a a,Sc (J (O (d.heap.size+1) 0 Q)) b b,Sc (J (O (d.heap.size+2+1) 0 Q)) c c] 99);rw[v]at n;have N:ar (js (g.alloc (.cells #[Sc (J (O (w.heap.size+1+1) 0 Q)) a a,Sc (J (O (d.heap.size+1) 0 Q)) b b,Sc (J (O (d.heap.size+2+1) 0 Q)) c c] 99)) (d.heap.size+2+2) (w.heap.size+1+1) (d.heap.size+1) (d.heap.size+2+1) (rP a b c)) :=
  Qi n (t.alloc _) (u.alloc _) (m.alloc _) Za Za Za Za Za Za p q y
 have P:ar (bG w.heap.size w (g.alloc (.cells #[Sc (J (O (w.heap.size+1+1) 0 Q)) a a,Sc (J (O (d.heap.size+1) 0 Q)) b b,Sc (J (O (d.heap.size+2+1) 0 Q)) c c] 99))):=L.out.alloc Za _;have R:ar (w.heap.size+1+1<g.heap.size):=by unfold ar;omega
 have S:ar (w.heap.size+3<=d.heap.size):=r;clear b1 z1 r1 z b2 B i b3 z3 r3 E b4 z4 r4 H I r k t u v m n
 go_wp2_with fail
 refine(Sf (i:=0) N.out 1 0 Z (show 0<a by omega)).mono ?_;rintro e w5 ⟨rfl,R5,k5⟩;have s0:0<((rP a b c).an 0 1 0).nS:=by show 0<b;omega
 have s1:((rP a b c).an 0 1 0).nS<=6:=q;have p1:=R5.k1;have T:=R5.sk s0;have W:=R5.st s0;simp only[Nat.zero_mul,aE]at T W;have p4:=R5.zs;have G:ar _:=R5;have M:ar _:=k5;clear R5 k5;generalize x:(rP a b c).an 0 1 0=X at *;have a':ar (_=X):=x;clear x
 go_wp2
 go_ret2
 have h:=S.out;have h':=R.out;refine⟨d.heap.size+2+2,w.heap.size+1+1,d.heap.size+1,d.heap.size+2+1,Z,?_,?_,?_,?_,?_,?_⟩
 .unfold K8;rw[a'.out];exact(G.out.cf (c:=0) s0 Za Bz Z 2).cf (c:=2) s0 Za FJ Z 0
 .exact((P.out.trans (M.out.below (by simp;omega) Za Za Za)).setCell (by show w.heap.size<=d.heap.size+1;omega) _).setCell (by show w.heap.size<=d.heap.size+1;omega) _
 all_goals omega
theorem y9{K:aa}{t:Int}(h:A7 K t k=true)(a:t≠0):∃n:Nat,k=n/\(n:Int)<j4 K t:=by
 unfold A7 at h;simp[a]at h;exact⟨k.toNat,by omega,by omega⟩
def IK(n:Int):Prop:=n=2\/n=13\/n=16\/n=17\/n=18\/n=19
theorem Ym(R:js w l F A D K)(G:Good K)(r p a b c:Int)(v:IK p)(s n:Nat)(x:r=s)(e:p=n)(f:s<K.nS)(y:A7 K ((i7 n).getD 0 0) a=true/\A7 K ((i7 n).getD 1 0) b=true/\A7 K ((i7 n).getD 2 0) c=true) :
  aG V 36 #[Po (J (O l 0 Q)),Y U r,Y U p,.agg #[Y U a,Y U b,Y U c]] w (Ends l F A D w (tK K s n a b c)):=by
 let⟨g,i,q⟩:=y;subst x;rcases v with h|h|h|h|h|h
 .obtain rfl:n=2:=by omega
  subst e;obtain⟨j,rfl,k⟩:=y9 (t:=4) g Zb;obtain⟨m,rfl,o⟩:=y9 (t:=1) i Zb;exact c9E R c f (by have d:j4 K 4=4:=Z;omega) (by have d:j4 K 1=K.nF:=Z;omega)
 .obtain rfl:n=13:=by omega
  subst e;obtain⟨j,rfl,k⟩:=y9 (t:=3) g Zb;obtain⟨m,rfl,o⟩:=y9 (t:=1) i Zb;obtain⟨t,rfl,u⟩:=y9 (t:=5) q Zb;exact Wj R G f (by have d:j4 K 3=K.nD:=Z;omega) (by have d:j4 K 1=K.nF:=Z;omega) (by have d:j4 K 5=4:=Z;omega)
 .obtain rfl:n=16:=by omega
  subst e;obtain⟨j,rfl,k⟩:=y9 (t:=5) g Zb;obtain⟨m,rfl,o⟩:=y9 (t:=4) i Zb;obtain⟨t,rfl,u⟩:=y9 (t:=6) q Zb;exact UK R G f (by have d:j4 K 5=4:=Z;omega) (by have d:j4 K 4=4:=Z;omega) (by have d:j4 K 6=4:=Z;omega)
 .obtain rfl:n=17:=by omega
  subst e;obtain⟨j,rfl,k⟩:=y9 (t:=5) g Zb;obtain⟨m,rfl,o⟩:=y9 (t:=4) i Zb;obtain⟨t,rfl,u⟩:=y9 (t:=6) q Zb;exact Rv R G f (by have d:j4 K 5=4:=Z;omega) (by have d:j4 K 4=4:=Z;omega) (by have d:j4 K 6=4:=Z;omega)
 .obtain rfl:n=18:=by omega
  subst e;obtain⟨j,rfl,k⟩:=y9 (t:=4) g Zb;obtain⟨m,rfl,o⟩:=y9 (t:=6) i Zb;exact c7n R G c f (by have d:j4 K 4=4:=Z;omega) (by have d:j4 K 6=4:=Z;omega)
 .obtain rfl:n=19:=by omega
  subst e;obtain⟨j,rfl,k⟩:=y9 (t:=4) g Zb;obtain⟨m,rfl,o⟩:=y9 (t:=6) i Zb;exact ZI R G c f (by have d:j4 K 4=4:=Z;omega) (by have d:j4 K 6=4:=Z;omega)
theorem B9(R:js w l F A D K){s:Nat}(b:a<K.nS) :
  aG V 98 #[Po (J (O l 0 Q)),Y U s,Y U a] w λe g=>e=.returned (Bo (K.oJ s a))/\g=w:=by
 have d:ar (js w l F A D K):=R;have i:=R.k1;have j:=R.hS;have k:=R.sk b;clear R
 by_cases f:K.S a 1=s
 .have c:(K.S a 1==(s:Int))=true:=by simpa using f
  have E:ar (K.oJ s a=(K.S a 0==1)):=by unfold aa.oJ ar;rw[c];simp
  go_enter Tryz.func98,Tryz.ntmps98
  go_wp2_with fail
  refine(Y8 d.out s b).mono ?_;rintro e h ⟨rfl,rfl⟩
  go_wp2
  go_ret
  rw[E.out];exact⟨Z,Z⟩
 .have c:(K.S a 1==(s:Int))=false:=by simpa using f
  have E:ar (K.oJ s a=false):=by unfold aa.oJ ar;rw[c];simp
  go_enter Tryz.func98,Tryz.ntmps98
  go_wp2_with fail
  refine(Y8 d.out s b).mono ?_;rintro e h ⟨rfl,rfl⟩
  go_wp2
  go_ret
  rw[E.out];exact⟨Z,Z⟩
theorem K5(R:js w l F A D K){s:Nat}(c:a<K.nS) :
  aG V 104 #[Po (J (O l 0 Q)),Y U s,Y U a] w λe j=>e=.returned (Bo (K.still s a))/\j=w:=by
 have g:ar (js w l F A D K):=R;have k:=R.k1;have m:=R.hS;have n:=R.sk c;clear R
 by_cases b:K.S a 1=s
 .have d:(K.S a 1==(s:Int))=true:=by simpa using b
  by_cases f:K.S a 0=1
  .have h:(K.S a 0==1)=true:=by simpa using f
   have E:ar (K.still s a=true):=by unfold aa.still ar;rw[d,h];simp
   clear b f
   go_enter lI,kN
   go_wp2_with fail
   refine(Y8 g.out s c).mono ?_;rintro e i ⟨rfl,rfl⟩
   go_wp2
   go_ret
   rw[E.out];exact⟨Z,Z⟩
  .have h:(K.S a 0==1)=false:=by simpa using f
   have E:ar (K.still s a=(K.S a 0==3)):=by unfold aa.still ar;rw[d,h];simp
   clear b f
   go_enter lI,kN
   go_wp2_with fail
   refine(Y8 g.out s c).mono ?_;rintro e i ⟨rfl,rfl⟩
   go_wp2
   go_ret
   rw[E.out];exact⟨Z,Z⟩
 .have d:(K.S a 1==(s:Int))=false:=by simpa using b
  have E:ar (K.still s a=false):=by unfold aa.still ar;rw[d];simp
  clear b
  go_enter lI,kN
  go_wp2_with fail
  refine(Y8 g.out s c).mono ?_;rintro e i ⟨rfl,rfl⟩
  go_wp2
  go_ret
  rw[E.out];exact⟨Z,Z⟩
theorem Mt(R:js w l F A D K){s:Nat}(c:s<K.nS)(d:a<4)(f:K.dT s a=b)(j:b<K.nF) :
  aG V 97 #[Po (J (O l 0 Q)),Y U s,Y U a] w λe g=>e=.returned (.tuple #[])/\js g l F A D (K.oz s a)/\dy F A D w g:=by
 have E:ar (K.oz s a=(K.an b 0 (-1)).fi s a (-1) false):=by unfold aa.oz ar;rw[f,au]
 have k:ar (js w l F A D K):=R;have p:=R.k1;have q:=R.hS;have m:=R.pf c d;have r:=R.hF;have h:K.S s (3+a*2)=b:=f;rw[h]at m;clear R f h
 go_enter Tryz.func97,Tryz.ntmps97
 go_wp2_with fail
 refine(Y4 k.out 0 (-1) j).mono ?_;rintro e t ⟨rfl,R1,q1⟩;have u:=R1.k1;have v:=R1.pf c d;have x:=R1.pw c d;have y:=R1.zs;have i:s<(K.an b 0 (-1)).nS:=c;have z:=R1.hS;have n:ar _:=R1;have o:ar _:=q1;clear R1 q1;generalize K.an b 0 (-1)=B at *
 go_wp2
 go_end0
 refine⟨Z,?_,((o.out.cf _ _).cf _ _)⟩;rw[E.out];exact(n.out.cf i Za (Da a) Za _).oW i (Ck a d) Za _
theorem SN(R:js w l F A D K)(G:Good K){s:Nat}(y z:Int)(c:s<K.nS)(d:a<4) :
  aG V 61 #[Po (J (O l 0 Q)),Y U s,.agg #[Y U a,Y U y,Y U z]] w (Ends l F A D w (O0 K s a)):=by
 have f:ar (js w l F A D K):=R;clear R
 by_cases b:K.dT s a=-1
 .have k:(K.S s (3+a*2) != -1)=false:=by simpa[aa.dT] using b
  have E:ar (O0 K s a=⟨K,0,6⟩):=by unfold O0;simp[b,ar]
  clear b
  go_enter Tryz.func61,Tryz.ntmps61
  go_wp2_with fail
  refine(l8 (f.out.alloc _) c d).mono ?_;rintro e i ⟨rfl,rfl⟩
  go_wp2
  go_ret2
  exact Ends.mk E (f.out.alloc _) ((dy.refl w).alloc _)
 .have k:(K.S s (3+a*2) != -1)=true:=by simpa[aa.dT] using b
  obtain⟨g,j⟩:∃g:Nat,K.dT s a=g:=by rcases G.dT s a c d with h|h;exact absurd h b;exact⟨(K.dT s a).toNat,by omega⟩
  have m:g<K.nF:=by rcases G.dT s a c d with h|h;exact absurd h b;omega
  have E:ar (O0 K s a=⟨K.oz s a,0,0⟩):=by unfold O0;simp[b,ar]
  have n:ar (K.dT s a=g):=j;clear b j
  go_enter Tryz.func61,Tryz.ntmps61
  go_wp2_with fail
  refine(l8 (f.out.alloc _) c d).mono ?_;rintro e i ⟨rfl,rfl⟩
  go_wp2_with fail
  refine(Mt (f.out.alloc _) c d n.out m).mono ?_;rintro e i ⟨rfl,R1,q1⟩
  go_wp2
  go_ret2
  exact Ends.mk E R1 (((dy.refl w).alloc _).trans q1)
theorem YT(R:js w l F A D K){s:Nat}(y z:Int)(d:s<K.nS)(f:a<4) :
  aG V 62 #[Po (J (O l 0 Q)),Y U s,.agg #[Y U a,Y U y,Y U z]] w (Ends l F A D w (B5 K s a y)):=by
 have b:ar (js w l F A D K):=R;have i:=R.hS;have j:=λo=>(b.out.alloc o).k1;have k:=λo=>(b.out.alloc o).pw d f;have m:=λo=>(b.out.alloc o).zs;clear R
 by_cases c:K.dT s a=-1
 .have g:(K.S s (3+a*2) != -1)=false:=by simpa[aa.dT] using c
  have E:ar (B5 K s a y=⟨K,0,6⟩):=by unfold B5;simp[c,ar]
  clear c
  go_enter Tryz.func62,Tryz.ntmps62
  go_wp2_with fail
  refine(l8 (b.out.alloc _) d f).mono ?_;rintro e h ⟨rfl,rfl⟩
  go_wp2
  go_ret2
  exact Ends.mk E (b.out.alloc _) ((dy.refl w).alloc _)
 .have g:(K.S s (3+a*2) != -1)=true:=by simpa[aa.dT] using c
  have E:ar (B5 K s a y=⟨K.oW s (4+a*2) (y != 0),0,0⟩):=by unfold B5;simp[c,ar]
  clear c
  go_enter Tryz.func62,Tryz.ntmps62
  go_wp2_with fail
  refine(l8 (b.out.alloc _) d f).mono ?_;rintro e h ⟨rfl,rfl⟩
  go_wp2
  all_goals(try go_region)
  all_goals(try go_wp2)
  all_goals
   go_ret2
   exact Ends.mk E ((b.out.alloc _).drew.oW d (Ck a f) Za _) ((((dy.refl w).alloc _).drew).cf _ _)
theorem Tu(R:js w l F A D K){s:Nat}(y z:Int)(h:s<K.nS)(c:a<K.nS) :
  aG V 66 #[Po (J (O l 0 Q)),Y U s,.agg #[Y U a,Y U y,Y U z]] w (Ends l F A D w (R9 K s a)):=by
 have b:ar (js w l F A D K):=R;have i:=R.hS;have j:=λo=>(b.out.alloc o).k1;have k:=λo=>(b.out.alloc o).sk c;have m:=λo=>(b.out.alloc o).zs;clear R
 by_cases d:K.oJ s a=true
 .have E:ar (R9 K s a=⟨K.cf a 0 2,0,0⟩):=by unfold R9;simp[d,ar]
  go_enter Tryz.func66,Tryz.ntmps66
  go_wp2_with fail
  refine(B9 (b.out.alloc _) c).mono ?_;rintro e f ⟨rfl,rfl⟩
  go_wp2
  go_ret2
  exact Ends.mk E ((b.out.alloc _).cf c Za Bz Z _) (((dy.refl w).alloc _).cf _ _)
 .have g:K.oJ s a=false:=by simpa using d
  have E:ar (R9 K s a=⟨K,0,7⟩):=by unfold R9;simp[g,ar]
  clear d
  go_enter Tryz.func66,Tryz.ntmps66
  go_wp2_with fail
  refine(B9 (b.out.alloc _) c).mono ?_;rintro e f ⟨rfl,rfl⟩
  go_wp2
  go_ret2
  exact Ends.mk E (b.out.alloc _) ((dy.refl w).alloc _)
theorem TK(R:js w l F A D K){s:Nat}(z:Int)(u:s<K.nS)(g:a<K.nS)(h:b<K.nF) :
  aG V 63 #[Po (J (O l 0 Q)),Y U s,.agg #[Y U a,Y U b,Y U z]] w (Ends l F A D w (F7 K s a b)):=by
 have d:ar (js w l F A D K):=R;have v:=R.hS;have x:=R.hF;have y:=λo=>(d.out.alloc o).k1;have B:=λo=>(d.out.alloc o).sk g;clear R
 by_cases c:K.S a 0=0
 .have k:(K.S a 0 != 0)=false:=by simpa using c
  by_cases f:K.F b 0=0
  .have m:(K.F b 0==0)=true:=by simpa using f
   have E:ar (F7 K s a b=⟨(((K.an b 1 a).cf a 0 1).cf a 1 s).cf a 2 b,0,0⟩):=by unfold F7;simp[c,f,ar]
   clear c f
   go_enter mf,lr
   go_wp2
   go_quiet (fail)
   go_wp2_with fail
   refine(N7 ((d.out.alloc _).drewN _) h).mono ?_;rintro e j ⟨rfl,rfl⟩
   go_wp2_with fail
   refine(Y4 ((d.out.alloc _).drewN _) 1 _ h).mono ?_;rintro e j ⟨rfl,R1,q1⟩;have C:=R1.k1;have H:=R1.sk g;have I:=R1.sp g;have L:=R1.st g;have N:=R1.zs;have i:a<(K.an b 1 a).nS:=g;have n1:=R1.ks;have n2:A≠l:=λe=>n1 e.symm;have P:=R1.hS;have n:ar _:=R1;have p:ar _:=q1;clear R1 q1;generalize K.an b 1 a=S at *
   go_wp2
   go_ret2
   have q:=n.out.cf (c:=0) (o:=a*20) i Za Bz Z 1;have r:=q.cf (c:=1) (o:=a*20+1) i Za IG Z s;have t:=r.cf (c:=2) (o:=a*20+2) i Za FJ Z b;exact Ends.mk E t (((((((dy.refl w).alloc _).drewN _).trans p.out).cf _ _).cf _ _).cf _ _)
  .have m:(K.F b 0==0)=false:=by simpa using f
   have E:ar (F7 K s a b=⟨K,0,5⟩):=by unfold F7;simp[c,f,ar]
   clear c f
   go_enter mf,lr
   go_wp2
   go_quiet (fail)
   go_wp2_with fail
   refine(N7 ((d.out.alloc _).drewN _) h).mono ?_;rintro e j ⟨rfl,rfl⟩
   go_wp2
   go_ret2
   exact Ends.mk E ((d.out.alloc _).drewN _) (((dy.refl w).alloc _).drewN _)
 .have k:(K.S a 0 != 0)=true:=by simpa using c
  have E:ar (F7 K s a b=⟨K,0,7⟩):=by unfold F7;simp[c,ar]
  clear c
  go_enter mf,lr
  go_wp2
  go_quiet (fail)
  go_wp2
  go_ret2
  exact Ends.mk E ((d.out.alloc _).drewN _) (((dy.refl w).alloc _).drewN _)
theorem WE(R:js w l F A D K)(G:Good K){s:Nat}(z:Int)(r:s<K.nS)(c:a<K.nS)(i:b<4) :
  aG V 68 #[Po (J (O l 0 Q)),Y U s,.agg #[Y U a,Y U b,Y U z]] w (Ends l F A D w (W7 K s a b)):=by
 have d:ar (js w l F A D K):=R;clear R
 by_cases k:K.still s a=true
 .by_cases f:K.dT a b=-1
  .have n:(K.S a (3+b*2) != -1)=false:=by simpa[aa.dT] using f
   have E:ar (W7 K s a b=⟨K,0,6⟩):=by unfold W7;simp[k,f,ar]
   clear f
   go_enter me,lh
   go_wp2
   go_quiet (fail)
   go_wp2_with fail
   refine(K5 ((d.out.alloc _).drewN _) c).mono ?_;rintro e j ⟨rfl,rfl⟩
   go_wp2_with fail
   refine(l8 ((d.out.alloc _).drewN _) c i).mono ?_;rintro e j ⟨rfl,rfl⟩
   go_wp2
   go_ret2
   exact Ends.mk E ((d.out.alloc _).drewN _) (((dy.refl w).alloc _).drewN _)
  .have n:(K.S a (3+b*2) != -1)=true:=by simpa[aa.dT] using f
   obtain⟨g,m⟩:∃g:Nat,K.dT a b=g:=by rcases G.dT a b c i with h|h;exact absurd h f;exact⟨(K.dT a b).toNat,by omega⟩
   have o:g<K.nF:=by rcases G.dT a b c i with h|h;exact absurd h f;omega
   have E:ar (W7 K s a b=⟨K.oz a b,0,0⟩):=by unfold W7;simp[k,f,ar]
   have p:ar (K.dT a b=g):=m;clear f m
   go_enter me,lh
   go_wp2
   go_quiet (fail)
   go_wp2_with fail
   refine(K5 ((d.out.alloc _).drewN _) c).mono ?_;rintro e j ⟨rfl,rfl⟩
   go_wp2_with fail
   refine(l8 ((d.out.alloc _).drewN _) c i).mono ?_;rintro e j ⟨rfl,rfl⟩
   go_wp2_with fail
   refine(Mt ((d.out.alloc _).drewN _) c i p.out o).mono ?_;rintro e j ⟨rfl,R1,q1⟩
   go_wp2
   go_ret2
   exact Ends.mk E R1 ((((dy.refl w).alloc _).drewN _).trans q1)
 .have q:K.still s a=false:=by simpa using k
  have E:ar (W7 K s a b=⟨K,0,7⟩):=by unfold W7;simp[q,ar]
  clear k
  go_enter me,lh
  go_wp2
  go_quiet (fail)
  go_wp2_with fail
  refine(K5 ((d.out.alloc _).drewN _) c).mono ?_;rintro e j ⟨rfl,rfl⟩
  go_wp2
  go_ret2
  exact Ends.mk E ((d.out.alloc _).drewN _) (((dy.refl w).alloc _).drewN _)
theorem ZF(R:js w l F A D K)(G:Good K){s:Nat}(z:Int)(f:s<K.nS)(i:a<4)(m:b<4) :
  aG V 72 #[Po (J (O l 0 Q)),Y U s,.agg #[Y U a,Y U b,Y U z]] w (Ends l F A D w (qy K s a b)):=by
 have c:ar (js w l F A D K):=R;have C:=R.hS;have H:=λo=>(c.out.alloc o).k1;clear R
 by_cases g:K.file s a=-1
 .have u:(K.S s (11+a*2) != -1)=false:=by simpa[aa.file] using g
  have E:ar (qy K s a b=⟨K,0,8⟩):=by unfold qy;simp[g,ar]
  clear g
  go_enter lZ,kZ
  go_wp2
  go_quiet (fail)
  go_wp2_with fail
  refine(A0 ((c.out.alloc _).drewN _) f i).mono ?_;rintro e k ⟨rfl,rfl⟩
  go_wp2
  go_ret2
  exact Ends.mk E ((c.out.alloc _).drewN _) (((dy.refl w).alloc _).drewN _)
 .have u:(K.S s (11+a*2) != -1)=true:=by simpa[aa.file] using g
  by_cases j:K.file s b=-1
  .have v:(K.S s (11+b*2) != -1)=false:=by simpa[aa.file] using j
   obtain⟨d,n⟩:∃d:Nat,K.file s a=d:=by rcases G.file s a f i with h|h;exact absurd h g;exact⟨(K.file s a).toNat,by omega⟩
   have p:d<K.nD:=by rcases G.file s a f i with h|h;exact absurd h g;omega
   have E:ar (qy K s a b=⟨K.eL s b d (K.end s a),0,0⟩):=by unfold qy;simp[j,n,ar]
   have I:∀o,(w.alloc o).cell? (O A (s*20+11+a*2) Q)=J (Y U d):=λo=>by rw[(c.out.alloc o).ff f i];exact congrArg (λq=>J (dO .i64 q)) n
   have L:∀o,(w.alloc o).cell? (O A (s*20+11+a*2+1) Q)=J (Bo (K.end s a)):=λo=>(c.out.alloc o).fe f i;have r:=G.rd d p;have t:=G.wt d p;have x:ar _:=r;have y:ar _:=t;clear g j n r t;generalize K.end s a=B at *
   go_enter lZ,kZ
   go_wp2
   go_quiet (fail)
   go_wp2_with fail
   refine(A0 ((c.out.alloc _).drewN _) f i).mono ?_;rintro e k ⟨rfl,rfl⟩
   go_wp2_with fail
   refine(A0 ((c.out.alloc _).drewN _) f m).mono ?_;rintro e k ⟨rfl,rfl⟩
   go_wp2_with fail
   refine(Du ((c.out.alloc _).drewN _) B f m p x.out y.out).mono ?_;rintro e k ⟨rfl,R1,q1⟩
   go_wp2
   go_ret2
   exact Ends.mk E R1 ((((dy.refl w).alloc _).drewN _).trans q1)
  .have v:(K.S s (11+b*2) != -1)=true:=by simpa[aa.file] using j
   have E:ar (qy K s a b=⟨K,0,8⟩):=by unfold qy;simp[j,ar]
   clear g j
   go_enter lZ,kZ
   go_wp2
   go_quiet (fail)
   go_wp2_with fail
   refine(A0 ((c.out.alloc _).drewN _) f i).mono ?_;rintro e k ⟨rfl,rfl⟩
   go_wp2_with fail
   refine(A0 ((c.out.alloc _).drewN _) f m).mono ?_;rintro e k ⟨rfl,rfl⟩
   go_wp2
   go_ret2
   exact Ends.mk E ((c.out.alloc _).drewN _) (((dy.refl w).alloc _).drewN _)
theorem c3V(R:js w l F A D K)(G:Good K){s:Nat}(j:s<K.nS)(k:a<K.nS)(m:b<4)(r:c<4) :
  aG V 65 #[Po (J (O l 0 Q)),Y U s,.agg #[Y U a,Y U b,Y U c]] w (Ends l F A D w (Q4 K s a b c)):=by
 have f:ar (js w l F A D K):=R;have L:=R.hS;have N:=λo=>(f.out.alloc o).k1;clear R
 by_cases p:K.oJ s a=true
 .by_cases i:K.file s b=-1
  .have y:(K.S s (11+b*2) != -1)=false:=by simpa[aa.file] using i
   have E:ar (Q4 K s a b c=⟨K,0,8⟩):=by unfold Q4;simp[p,i,ar]
   clear i
   go_enter jL,jf
   go_wp2
   go_quiet (fail)
   go_wp2_with fail
   refine(B9 ((f.out.alloc _).drewN _) k).mono ?_;rintro e g ⟨rfl,rfl⟩
   go_wp2_with fail
   refine(A0 ((f.out.alloc _).drewN _) j m).mono ?_;rintro e g ⟨rfl,rfl⟩
   go_wp2
   go_ret2
   exact Ends.mk E ((f.out.alloc _).drewN _) (((dy.refl w).alloc _).drewN _)
  .have y:(K.S s (11+b*2) != -1)=true:=by simpa[aa.file] using i
   by_cases n:K.file a c=-1
   .have z:(K.S a (11+c*2) != -1)=false:=by simpa[aa.file] using n
    obtain⟨d,t⟩:∃d:Nat,K.file s b=d:=by rcases G.file s b j m with h|h;exact absurd h i;exact⟨(K.file s b).toNat,by omega⟩
    have u:d<K.nD:=by rcases G.file s b j m with h|h;exact absurd h i;omega
    have E:ar (Q4 K s a b c=⟨K.eL a c d (K.end s b),0,0⟩):=by unfold Q4;simp[p,n,t,ar]
    have P:∀o,(w.alloc o).cell? (O A (s*20+11+b*2) Q)=J (Y U d):=λo=>by rw[(f.out.alloc o).ff j m];exact congrArg (λq=>J (dO .i64 q)) t
    have S:∀o,(w.alloc o).cell? (O A (s*20+11+b*2+1) Q)=J (Bo (K.end s b)):=λo=>(f.out.alloc o).fe j m;have v:=G.rd d u;have x:=G.wt d u;have B:ar _:=v;have C:ar _:=x;clear i n t v x;generalize K.end s b=H at *
    go_enter jL,jf
    go_wp2
    go_quiet (fail)
    go_wp2_with fail
    refine(B9 ((f.out.alloc _).drewN _) k).mono ?_;rintro e g ⟨rfl,rfl⟩
    go_wp2_with fail
    refine(A0 ((f.out.alloc _).drewN _) j m).mono ?_;rintro e g ⟨rfl,rfl⟩
    go_wp2_with fail
    refine(A0 ((f.out.alloc _).drewN _) k r).mono ?_;rintro e g ⟨rfl,rfl⟩
    go_wp2_with fail
    refine(Du ((f.out.alloc _).drewN _) H k r u B.out C.out).mono ?_;rintro e g ⟨rfl,R1,q1⟩
    go_wp2
    go_ret2
    exact Ends.mk E R1 ((((dy.refl w).alloc _).drewN _).trans q1)
   .have z:(K.S a (11+c*2) != -1)=true:=by simpa[aa.file] using n
    have E:ar (Q4 K s a b c=⟨K,0,8⟩):=by unfold Q4;simp[p,n,ar]
    clear i n
    go_enter jL,jf
    go_wp2
    go_quiet (fail)
    go_wp2_with fail
    refine(B9 ((f.out.alloc _).drewN _) k).mono ?_;rintro e g ⟨rfl,rfl⟩
    go_wp2_with fail
    refine(A0 ((f.out.alloc _).drewN _) j m).mono ?_;rintro e g ⟨rfl,rfl⟩
    go_wp2_with fail
    refine(A0 ((f.out.alloc _).drewN _) k r).mono ?_;rintro e g ⟨rfl,rfl⟩
    go_wp2
    go_ret2
    exact Ends.mk E ((f.out.alloc _).drewN _) (((dy.refl w).alloc _).drewN _)
 .have I:K.oJ s a=false:=by simpa using p
  have E:ar (Q4 K s a b c=⟨K,0,7⟩):=by unfold Q4;simp[I,ar]
  clear p
  go_enter jL,jf
  go_wp2
  go_quiet (fail)
  go_wp2_with fail
  refine(B9 ((f.out.alloc _).drewN _) k).mono ?_;rintro e g ⟨rfl,rfl⟩
  go_wp2
  go_ret2
  exact Ends.mk E ((f.out.alloc _).drewN _) (((dy.refl w).alloc _).drewN _)
def aa.oR(K:aa)(s x d:Nat)(b:Bool):aa:=(K.av s x (-1) false).count d b (-1)
theorem b2O(K:aa)(s x d:Nat)(a:K.file s x=d) :
  K.oa s x=if (K.oR s x d (K.end s x)).D d 3=0/\(K.oR s x d (K.end s x)).D d 4=0 then((K.oR s x d (K.end s x)).an ((K.oR s x d (K.end s x)).D d 0).toNat 0 (-1)).hZ d (-1) else K.oR s x d (K.end s x):=by
 unfold aa.oa;rw[a,au];rfl
theorem b0X(K:aa)(s x d:Nat)(b:Bool):(K.oR s x d b).nF=K.nF/\(K.oR s x d b).nS=K.nS/\(K.oR s x d b).nD=K.nD:=by
 cases b<;>exact⟨Z,Z,Z⟩
theorem Tj(K:aa)(s x d:Nat)(b:Bool):(K.oR s x d b).D d 0=K.D d 0:=by
 cases b<;>simp[aa.oR,aa.count,aa.av,aa.cf,aa.oW,aa.nX,upd]
theorem PU(R:js w l F A D K){s:Nat}(n:s<K.nS)(x:b<4)(z:K.file s b=d)(H:d<K.nD)(I:0<=K.D d 3/\K.D d 3<=24)(L:0<=K.D d 4/\K.D d 4<=24)(N:K.D d 0=e)(b':e<K.nF) :
  aG V 105 #[Po (J (O l 0 Q)),Y U s,Y U b] w λc f=>c=.returned (.tuple #[])/\js f l F A D (K.oa s b)/\dy F A D w f:=by
 have E:=b2O K s b d z;have P:=b0X K s b d (K.end s b);have S:=Tj K s b d (K.end s b);have k:ar (js w l F A D K):=R;have hn:=R.hS;have hm:=R.hD;have hf:=R.hF;have k1:=R.k1;have c':=λo=>(k.out.alloc o).k1;have c1:w.cell? (O A (s*20+11+b*2) Q)=J (Y U d):=by rw[k.out.ff n x];exact congrArg (λq=>J (dO .i64 q)) z
 have c2:w.cell? (O A (s*20+11+b*2+1) Q)=J (Bo (K.end s b)):=k.out.fe n x;have d':∀o,(w.alloc o).cell? (O A (s*20+11+b*2) Q)=J (Y U d):=λo=>by rw[(k.out.alloc o).ff n x];exact congrArg (λq=>J (dO .i64 q)) z
 have e':∀o,(w.alloc o).cell? (O A (s*20+11+b*2+1) Q)=J (Bo (K.end s b)):=λo=>(k.out.alloc o).fe n x;have zz:=λo=>(k.out.alloc o).zs;have n1:A≠w.heap.size:=dA R.ls;have n2:w.heap.size≠A:=λc=>n1 c.symm;have n3:w.heap.size≠F:=λc=>dA R.lf c.symm;have n4:w.heap.size≠D:=λc=>dA R.ld c.symm;have n5:l≠w.heap.size:=dA R.lk;have T:ar _:=I;have W:ar _:=L;have j:ar (w.heap.size≠F/\w.heap.size≠A/\w.heap.size≠D):=⟨n3,n2,n4⟩;clear R I L z;generalize hb:K.end s b=p at *;clear hb;have r:ar _:=E;have G:ar _:=P;have M:ar (_=(e:Int)):=S.trans N;clear E P S N
 go_enter Tryz.func105,Tryz.ntmps105
 go_wp2_with fail
 refine(NA (K:=K.av s b (-1) false) (((k.out.alloc _).cf (c:=11+b*2) n Za (Ff b) Za _).oW (c:=12+b*2) n (EX b x) Za _) p (-1) H Za T.out W.out).mono ?_;rintro c g ⟨rfl,R2,q2⟩;have h:ar (js g l F A D (K.oR s b d p)):=R2;have b0:g.cell? (O w.heap.size 0 Q)=J (Y U d):=by
  rw[q2.cell Zc j.out.1 j.out.2.1 j.out.2.2,d7 _ (bT j.out.2.1),d7 _ (bT j.out.2.1)];exact jR _ _ 0 _ _ _ (cE w _)
 have B:ar (dy F A D w g):=((((dy.refl w).alloc _).cf _ _).cf _ _).trans q2;have lb:w.heap.size<g.heap.size:=by have:=q2.size;simp at this;omega
 clear R2 q2 c1 c2 d' e' zz k1 c';let⟨X,y2,y3⟩:=G.out;have t:d<(K.oR s b d p).nD:=by rw[y3];exact H
 have f':e<(K.oR s b d p).nF:=by rw[X];exact b'
 have D0:(K.oR s b d p).D d 0=e:=M.out;have a':ar _:=D0;clear X y2 y3 D0 G M;generalize g':K.oR s b d p=a at *;clear g' T W;have r2:=h.out.k2;have d0:g.cell? (O D (d*5) Q)=J (Y U e):=by rw[h.out.d0 t,a'.out]
 have d1:=h.out.d1 t;have d2:=h.out.d2 t;have d3:=h.out.d3 t;have d4:=h.out.d4 t;have m1:=h.out.hD;have lk:g.heap.size≠l:=λc=>dA h.out.lk c.symm;have ld:g.heap.size≠D:=λc=>dA h.out.ld c.symm;have lw:g.heap.size≠w.heap.size:=by omega
 go_wp2_with fail
 go_region_held3 (λf=>f.cell? (O l 2 Q)=J (Sc (J (O D 0 Q)) a.nD a.nD)/\f.cell? (O w.heap.size 0 Q)=J (Y U d)/\f.cell? (O D (d*5) Q)=J (Y U e)/\f.cell? (O D (d*5+1) Q)=J (Y U (a.D d 1))/\f.cell? (O D (d*5+2) Q)=J (Y U (a.D d 2))/\f.cell? (O D (d*5+3) Q)=J (Y U (a.D d 3))/\f.cell? (O D (d*5+4) Q)=J (Y U (a.D d 4))) (go_keep) (fail)
 by_cases m:a.D d 3=0
 .have e3:(a.D d 3==0)=true:=by simpa using m
  by_cases u:a.D d 4=0
  .have e4:(a.D d 4==0)=true:=by simpa using u
   have y:ar (K.oa s b=(a.an e 0 (-1)).hZ d (-1)):=by unfold ar;rw[r.out,nT ⟨m,u⟩,a'.out,au]
   clear m u r
   go_wp2_with fail
   refine(Y4 ((h.out.alloc _).drew) 0 (-1) f').mono ?_;rintro c C ⟨rfl,R3,q3⟩;have b3:C.cell? (O w.heap.size 0 Q)=J (Y U d):=by
    rw[q3.cell (by show w.heap.size<(g.alloc _).heap.size;simp;omega) j.out.1 j.out.2.1 j.out.2.2];rw[show ∀o:Obj,(g.alloc o).drew.cell? (O w.heap.size 0 Q)=g.cell? (O w.heap.size 0 Q) from λo=>Zf (w:=g) (a:=(O w.heap.size 0 Q)) (aK g o _ lb)];exact b0
   have h':ar (dy F A D w C):=((B.out.alloc _).drew).trans q3;have i:ar (js C l F A D (a.an e 0 (-1))):=R3;have v:d<(a.an e 0 (-1)).nD:=t;clear R3 q3 d0 d1 d2 d3 d4 r2 b0;generalize a.an e 0 (-1)=K2 at *;have r2:=i.out.k2;have d0:=i.out.d0 v;have d1:=i.out.d1 v;have d2:=i.out.d2 v;have d3:=i.out.d3 v;have d4:=i.out.d4 v;have zd:=i.out.zd;have m2:=i.out.hD;have kd:=i.out.kd;have dk:D≠l:=λc=>kd c.symm;have wd:D≠w.heap.size:=λc=>j.out.2.2 c.symm
   go_wp2_with fail
   go_region_held3 (λf=>f.cell? (O l 2 Q)=J (Sc (J (O D 0 Q)) K2.nD K2.nD)/\f.cell? (O w.heap.size 0 Q)=J (Y U d)) (go_keep) (fail)
   go_wp2
   go_end0
   refine⟨Z,?_,((((((h'.out.nX _ _).nX _ _).nX _ _).nX _ _).nX _ _).drew)⟩;rw[y.out];exact(i.out.hZ v (-1)).drew
  .have e4:(a.D d 4==0)=false:=by simpa using u
   have y:ar (K.oa s b=a):=by unfold ar;rw[r.out,nR λe=>u e.2]
   clear m u r
   go_wp2
   go_end0
   refine⟨Z,?_,(B.out.alloc _).drew⟩;rw[y.out];exact(h.out.alloc _).drew
 .have e3:(a.D d 3==0)=false:=by simpa using m
  have y:ar (K.oa s b=a):=by unfold ar;rw[r.out,nR λe=>m e.1]
  clear m r
  go_wp2
  go_end0
  refine⟨Z,?_,(B.out.alloc _).drew⟩;rw[y.out];exact(h.out.alloc _).drew
theorem Wk(R:js w l F A D K)(G:Good K){s:Nat}(y z:Int)(c:s<K.nS)(f:a<4) :
  aG V 73 #[Po (J (O l 0 Q)),Y U s,.agg #[Y U a,Y U y,Y U z]] w (Ends l F A D w (N9 K s a)):=by
 have g:ar (js w l F A D K):=R;clear R
 by_cases b:K.file s a=-1
 .have p:(K.S s (11+a*2) != -1)=false:=by simpa[aa.file] using b
  have E:ar (N9 K s a=⟨K,0,8⟩):=by unfold N9;simp[b,ar]
  clear b
  go_enter Tryz.func73,Tryz.ntmps73
  go_wp2_with fail
  refine(A0 (g.out.alloc _) c f).mono ?_;rintro e m ⟨rfl,rfl⟩
  go_wp2
  go_ret2
  exact Ends.mk E (g.out.alloc _) ((dy.refl w).alloc _)
 .have p:(K.S s (11+a*2) != -1)=true:=by simpa[aa.file] using b
  have hF:=G.file s a c f;obtain⟨d,j⟩:∃d:Nat,K.file s a=d:=⟨(K.file s a).toNat,by omega⟩;have i:d<K.nD:=by omega
  rw[j,au]at hF;obtain⟨h,n⟩:∃h:Nat,K.D d 0=h:=⟨(K.D d 0).toNat,by omega⟩;have q:h<K.nF:=by rcases G.pL d i with k|k<;>omega
  have E:ar (N9 K s a=⟨K.oa s a,0,0⟩):=by unfold N9;simp[b,ar]
  have o:ar (K.file s a=d/\K.D d 0=h):=⟨j,n⟩;have r:ar _:=G.rd d i;have t:ar _:=G.wt d i;clear b hF j n
  go_enter Tryz.func73,Tryz.ntmps73
  go_wp2_with fail
  refine(A0 (g.out.alloc _) c f).mono ?_;rintro e m ⟨rfl,rfl⟩
  go_wp2_with fail
  refine(PU (g.out.alloc _) c f o.out.1 i r.out t.out o.out.2 q).mono ?_;rintro e m ⟨rfl,R1,q1⟩
  go_wp2
  go_ret2
  exact Ends.mk E R1 (((dy.refl w).alloc _).trans q1)
theorem c5W(R:js w l F A D K)(G:Good K){s:Nat}(z:Int)(y:s<K.nS)(f:a<K.nS)(j:b<4) :
  aG V 69 #[Po (J (O l 0 Q)),Y U s,.agg #[Y U a,Y U b,Y U z]] w (Ends l F A D w (W8 K s a b)):=by
 have c:ar (js w l F A D K):=R;clear R
 by_cases m:K.still s a=true
 .by_cases g:K.file a b=-1
  .have r:(K.S a (11+b*2) != -1)=false:=by simpa[aa.file] using g
   have E:ar (W8 K s a b=⟨K,0,8⟩):=by unfold W8;simp[m,g,ar]
   clear g
   go_enter ma,la
   go_wp2
   go_quiet (fail)
   go_wp2_with fail
   refine(K5 ((c.out.alloc _).drewN _) f).mono ?_;rintro e i ⟨rfl,rfl⟩
   go_wp2_with fail
   refine(A0 ((c.out.alloc _).drewN _) f j).mono ?_;rintro e i ⟨rfl,rfl⟩
   go_wp2
   go_ret2
   exact Ends.mk E ((c.out.alloc _).drewN _) (((dy.refl w).alloc _).drewN _)
  .have r:(K.S a (11+b*2) != -1)=true:=by simpa[aa.file] using g
   have hF:=G.file a b f j;obtain⟨d,o⟩:∃d:Nat,K.file a b=d:=⟨(K.file a b).toNat,by omega⟩;have n:d<K.nD:=by omega
   rw[o,au]at hF;obtain⟨h,p⟩:∃h:Nat,K.D d 0=h:=⟨(K.D d 0).toNat,by omega⟩;have t:h<K.nF:=by rcases G.pL d n with k|k<;>omega
   have E:ar (W8 K s a b=⟨K.oa a b,0,0⟩):=by unfold W8;simp[m,g,ar]
   have q:ar (K.file a b=d/\K.D d 0=h):=⟨o,p⟩;have u:ar _:=G.rd d n;have v:ar _:=G.wt d n;clear g hF o p
   go_enter ma,la
   go_wp2
   go_quiet (fail)
   go_wp2_with fail
   refine(K5 ((c.out.alloc _).drewN _) f).mono ?_;rintro e i ⟨rfl,rfl⟩
   go_wp2_with fail
   refine(A0 ((c.out.alloc _).drewN _) f j).mono ?_;rintro e i ⟨rfl,rfl⟩
   go_wp2_with fail
   refine(PU ((c.out.alloc _).drewN _) f j q.out.1 n u.out v.out q.out.2 t).mono ?_;rintro e i ⟨rfl,R1,q1⟩
   go_wp2
   go_ret2
   exact Ends.mk E R1 ((((dy.refl w).alloc _).drewN _).trans q1)
 .have x:K.still s a=false:=by simpa using m
  have E:ar (W8 K s a b=⟨K,0,7⟩):=by unfold W8;simp[x,ar]
  clear m
  go_enter ma,la
  go_wp2
  go_quiet (fail)
  go_wp2_with fail
  refine(K5 ((c.out.alloc _).drewN _) f).mono ?_;rintro e i ⟨rfl,rfl⟩
  go_wp2
  go_ret2
  exact Ends.mk E ((c.out.alloc _).drewN _) (((dy.refl w).alloc _).drewN _)
theorem Iq(K:aa)(s:Nat):∀n,(K.mg s n).nF=K.nF/\(K.mg s n).nS=K.nS/\(K.mg s n).nD=K.nD
 | 0=>⟨Z,Z,Z⟩
 | n+1=>by
  unfold aa.mg;split
  .exact Iq K s n
  .exact Iq K s n
theorem R6(R:js w l F A D K){s:Nat}(a y z:Int)(h:s<K.nS) :
  aG V 67 #[Po (J (O l 0 Q)),Y U s,.agg #[Y U a,Y U y,Y U z]] w (Ends l F A D w (Y9 K s a)):=by
 have b:ar (js w l F A D K):=R;have x:=R.hS
 by_cases n:s=0
 .subst n;have E:ar (Y9 K 0 a=⟨K,0,7⟩):=by unfold Y9;simp[ar]
  clear R
  go_enter Tryz.func67,Tryz.ntmps67
  go_wp2
  go_ret2
  exact Ends.mk E (b.out.alloc _) ((dy.refl w).alloc _)
 .have E:ar (Y9 K s a=⟨((K.cf s 0 3).cf s 19 a).mg s K.nS,0,0⟩):=by unfold Y9;simp[n,ar]
  have N:((s:Int)==0)=false:=by rw[beq_eq_false_iff_ne];omega
  have P:=λo=>(b.out.alloc o).k1;have S:=λo=>(b.out.alloc o).sk h;have T:=λo=>(b.out.alloc o).sc h;have W:=λo=>(b.out.alloc o).zs;have n1:=R.ks;have n2:A≠l:=λe=>n1 e.symm;have n3:A≠w.heap.size:=dA R.ls;have G:w.heap.size≠A:=λe=>n3 e.symm;clear R n
  go_enter Tryz.func67,Tryz.ntmps67
  go_wp2
  go_region
  all_goals
   go_wp2
   go_loopw [32] (λi u=>∃k:Nat,k<=K.nS/\i=Y U k/\js u l F A D (((K.cf s 0 3).cf s 19 a).mg s k)/\dy F A D w u) λi _=>K.nS - (bM i).toNat
   case atStart =>
    exact⟨0,by omega,Z,(((b.out.alloc _).cf (c:=0) h Za Bz Z 3).cf (c:=19) h Za Kc Z a).drew,((((dy.refl w).alloc _).cf _ _).cf _ _).drew⟩
   case round =>
    obtain⟨k,M,rfl,c,p⟩:=hrel;have g:ar _:=c;have q:ar _:=p;have r:=Iq ((K.cf s 0 3).cf s 19 a) s k;have j:(((K.cf s 0 3).cf s 19 a).mg s k).nS=K.nS:=r.2.1;have B:ar _:=j
    by_cases C:k<K.nS
    .have m:k<(((K.cf s 0 3).cf s 19 a).mg s k).nS:=by rw[j];exact C
     have p0:=c.k1;have X:=c.sp m;have p2:=c.zs;have v:ar (((K.cf s 0 3).cf s 19 a).mg s (k+1)=if (((K.cf s 0 3).cf s 19 a).mg s k).S k 1=s then(((K.cf s 0 3).cf s 19 a).mg s k).cf k 1 0 else((K.cf s 0 3).cf s 19 a).mg s k):=Z;clear c p r j;generalize H:((K.cf s 0 3).cf s 19 a).mg s k=d at *;clear H
     by_cases f:d.S k 1=s
     .have I:(d.S k 1==(s:Int))=true:=by simpa using f
      have t:ar (((K.cf s 0 3).cf s 19 a).mg s (k+1)=d.cf k 1 0):=by unfold ar;rw[v.out,nT f]
      have m1:d.nS<=6:=by rw[B.out];exact x
      clear f
      go_wp2_with fail
      refine(Y8 g.out s m).mono ?_;rintro e L ⟨rfl,rfl⟩
      go_wp2
      refine⟨⟨k+1,by omega,by go_num,?_,q.out.cf _ _⟩,by simp[bM];omega⟩;rw[t.out];exact g.out.cf (c:=1) m Za IG Z 0
     .have I:(d.S k 1==(s:Int))=false:=by simpa using f
      have t:ar (((K.cf s 0 3).cf s 19 a).mg s (k+1)=d):=by unfold ar;rw[v.out,nR f]
      clear f
      go_wp2_with fail
      refine(Y8 g.out s m).mono ?_;rintro e L ⟨rfl,rfl⟩
      go_wp2
      refine⟨⟨k+1,by omega,by go_num,?_,q.out⟩,by simp[bM];omega⟩;rw[t.out];exact g.out
    .obtain rfl:k=K.nS:=by omega
     clear c p r j
     go_wp2
     go_ret2
     exact Ends.mk E g.out q.out
theorem js.nV(R:js w l F A D K){g h:Nat}(a:g<K.nF) :
  js ((((w.setCell (O F (g*6+2) Q) (Y U (K.F h 2))).setCell (O F (g*6+2+1) Q) (Y U (K.F h 3))).setCell (O F (g*6+2+2) Q) (Y U (K.F h 4))).setCell (O F (g*6+2+3) Q) (Y U (K.F h 5))) l F A D (K.nV g h):=by
 have d:=R.nU (c:=2) (o:=g*6+2) a Za Z (K.F h 2);have b:g<(K.nU g 2 (K.F h 2)).nF:=a;have e:=d.nU (c:=3) (o:=g*6+2+1) b Za Za (K.F h 3);have c:g<((K.nU g 2 (K.F h 2)).nU g 3 (K.F h 3)).nF:=b;have f:=e.nU (c:=4) (o:=g*6+2+2) c Za Za (K.F h 4);have i:g<(((K.nU g 2 (K.F h 2)).nU g 3 (K.F h 3)).nU g 4 (K.F h 4)).nF:=c;exact f.nU (c:=5) (o:=g*6+2+3) i Za Za (K.F h 5)
theorem c3r(R:js w l F A D K)(G:Good K){s:Nat}(q:s<K.nS)(m:a<K.nS)(j:c<4)(y:d<K.nF) :
  aG V 64 #[Po (J (O l 0 Q)),Y U s,.agg #[Y U a,Y U c,Y U d]] w (Ends l F A D w (J0 K s a c d)):=by
 have f:ar (js w l F A D K):=R;have hn:=R.hS;have hm:=R.hF;clear R
 by_cases r:K.oJ s a=true
 .by_cases n:K.dT s c=-1
  .have S:(K.S s (3+c*2) != -1)=false:=by simpa[aa.dT] using n
   have E:ar (J0 K s a c d=⟨K,0,6⟩):=by unfold J0;simp[r,n,ar]
   clear n
   go_enter iu,gT
   go_wp2
   go_quiet (fail)
   go_wp2_with fail
   refine(B9 ((f.out.alloc _).drewN _) m).mono ?_;rintro e i ⟨rfl,rfl⟩
   go_wp2_with fail
   refine(l8 ((f.out.alloc _).drewN _) q j).mono ?_;rintro e i ⟨rfl,rfl⟩
   go_wp2
   go_ret2
   exact Ends.mk E ((f.out.alloc _).drewN _) (((dy.refl w).alloc _).drewN _)
  .have S:(K.S s (3+c*2) != -1)=true:=by simpa[aa.dT] using n
   by_cases p:K.dT a c=-1
   .have T:(K.S a (3+c*2) != -1)=false:=by simpa[aa.dT] using p
    by_cases t:K.F d 0=0
    .have M:(K.F d 0==0)=true:=by simpa using t
     obtain⟨g,z⟩:∃g:Nat,K.dT s c=g:=by rcases G.dT s c q j with h|h;exact absurd h n;exact⟨(K.dT s c).toNat,by omega⟩
     have X:g<K.nF:=by rcases G.dT s c q j with h|h;all_goals grind
     have B:s≠a:=by grind
     have E:ar (J0 K s a c d=⟨((K.an d 2 a).fi a c d (K.wr s c)).nV d g,0,0⟩):=by unfold J0;simp[r,p,t,z,ar]
     have Hg:ar (K.S s (3+c*2)=g):=z;have h':ar (s≠a):=B;clear n p t z B
     go_enter iu,gT
     go_wp2
     go_quiet (fail)
     go_wp2_with fail
     refine(B9 ((f.out.alloc _).drewN _) m).mono ?_;rintro e i ⟨rfl,rfl⟩
     go_wp2_with fail
     refine(l8 ((f.out.alloc _).drewN _) q j).mono ?_;rintro e i ⟨rfl,rfl⟩
     go_wp2_with fail
     refine(l8 ((f.out.alloc _).drewN _) m j).mono ?_;rintro e i ⟨rfl,rfl⟩
     go_wp2_with fail
     refine(N7 ((f.out.alloc _).drewN _) y).mono ?_;rintro e i ⟨rfl,rfl⟩
     go_wp2_with fail
     refine(Y4 ((f.out.alloc _).drewN _) 2 _ y).mono ?_;rintro e i ⟨rfl,R1,q1⟩;have o:ar (js i l F A D (K.an d 2 a)):=R1;have C:ar (dy F A D w i):=(((dy.refl w).alloc _).drewN _).trans q1;have v:a<(K.an d 2 a).nS:=m;have t2:s<(K.an d 2 a).nS:=q;have t3:d<(K.an d 2 a).nF:=y;have t4:g<(K.an d 2 a).nF:=X;have H:(K.an d 2 a).S s (3+c*2)=g:=Hg.out;have t6:K.wr s c=(K.an d 2 a).B s (4+c*2):=Z;have b':ar _:=H;have HE:ar (J0 K s a c d=⟨((K.an d 2 a).fi a c d ((K.an d 2 a).B s (4+c*2))).nV d g,0,0⟩):=E;clear R1 q1 H t6 E;generalize K.an d 2 a=b at *;have r0:=o.out.k1;have r1:=o.out.pf v j;have r2:=o.out.pw v j;have r3:=o.out.zs;have r4:=o.out.hS;have n1:=o.out.ks;have n2:A≠l:=λe=>n1 e.symm;have i1:(0:Int)<=(a:Int):=by omega
     have i2:(a:Int)<(b.nS:Int):=by omega
     have i3:(0:Int)<=(c:Int):=by omega
     have i4:(c:Int)<4:=by omega
     go_wp2_with fail
     go_region_held3 (λw'=>w'.cell? (O l 1 Q)=J (Sc (J (O A 0 Q)) b.nS b.nS)) (go_keep) (first|(go_at_call 99;refine(V7 o.out.drew t2 j).mono ?_;rintro e I ⟨rfl,rfl⟩))
     have k:ar (js _ l F A D (b.fi a c d (b.B s (4+c*2)))):=((o.out.cf (c:=3+c*2) (o:=a*20+3+c*2) v Za (Da c) Za d).oW (c:=4+c*2) (o:=a*20+3+c*2+1) v (Ck c j) Za (b.B s (4+c*2)));have L:ar (dy F A D w _):=((C.out.cf (a*20+3+c*2) (Y U d)).cf (a*20+3+c*2+1) (Bo (b.B s (4+c*2))));have u1:a<(b.fi a c d (b.B s (4+c*2))).nS:=v;have u2:s<(b.fi a c d (b.B s (4+c*2))).nS:=t2;have u:d<(b.fi a c d (b.B s (4+c*2))).nF:=t3;have x:g<(b.fi a c d (b.B s (4+c*2))).nF:=t4;have N:(b.fi a c d (b.B s (4+c*2))).S a (3+c*2)=d:=upd_same _ _;have P:(b.fi a c d (b.B s (4+c*2))).S s (3+c*2)=g:=(d6 (f:=b.S) (i:=a) (c:=3+c*2) (v:=d) s (b:=3+c*2) (by grind)).trans b'.out;have c':ar _:=N;have d':ar _:=P;clear N P r0 r1 r2
     go_wp2_with fail
     refine(zG k.out.drew u1 j c'.out u).mono ?_;rintro e I ⟨rfl,nq1,rfl⟩
     go_wp2_with fail
     refine(zG (k.out.drewN _) u2 j d'.out x).mono ?_;rintro e I ⟨rfl,nq2,rfl⟩;have v0:=k.out.f g 2 x Za;have v1:=k.out.f g 3 x Za;have v2:=k.out.f g 4 x Za;have v3:=k.out.f g 5 x Za;have x0:=k.out.f d 2 u Za;have x1:=k.out.f d 3 u Za;have x2:=k.out.f d 4 u Za;have x3:=k.out.f d 5 u Za;have zf:=k.out.zf;have e':ar _:=k.out.nV (g:=d) (h:=g) u;have f':ar (dy F A D w _):=(((L.out.nU (d*6+2) (Y U ((b.fi a c d (b.B s (4+c*2))).F g 2))).nU (d*6+2+1) (Y U ((b.fi a c d (b.B s (4+c*2))).F g 3))).nU (d*6+2+2) (Y U ((b.fi a c d (b.B s (4+c*2))).F g 4))).nU (d*6+2+3) (Y U ((b.fi a c d (b.B s (4+c*2))).F g 5));generalize hW:((i.setCell (O A (a*20+3+c*2) Q) (Y U d)).setCell (O A (a*20+3+c*2+1) Q) (Bo (b.B s (4+c*2))))=W at *;clear hW o C k L
     go_wp2
     go_ret2
     exact Ends.mk HE (e'.out.drewN _) (f'.out.drewN _)
    .have M:(K.F d 0==0)=false:=by simpa using t
     have E:ar (J0 K s a c d=⟨K,0,5⟩):=by unfold J0;simp[r,n,p,t,ar]
     clear n p t
     go_enter iu,gT
     go_wp2
     go_quiet (fail)
     go_wp2_with fail
     refine(B9 ((f.out.alloc _).drewN _) m).mono ?_;rintro e i ⟨rfl,rfl⟩
     go_wp2_with fail
     refine(l8 ((f.out.alloc _).drewN _) q j).mono ?_;rintro e i ⟨rfl,rfl⟩
     go_wp2_with fail
     refine(l8 ((f.out.alloc _).drewN _) m j).mono ?_;rintro e i ⟨rfl,rfl⟩
     go_wp2_with fail
     refine(N7 ((f.out.alloc _).drewN _) y).mono ?_;rintro e i ⟨rfl,rfl⟩
     go_wp2
     go_ret2
     exact Ends.mk E ((f.out.alloc _).drewN _) (((dy.refl w).alloc _).drewN _)
   .have T:(K.S a (3+c*2) != -1)=true:=by simpa[aa.dT] using p
    have E:ar (J0 K s a c d=⟨K,0,6⟩):=by unfold J0;simp[r,p,ar]
    clear n p
    go_enter iu,gT
    go_wp2
    go_quiet (fail)
    go_wp2_with fail
    refine(B9 ((f.out.alloc _).drewN _) m).mono ?_;rintro e i ⟨rfl,rfl⟩
    go_wp2_with fail
    refine(l8 ((f.out.alloc _).drewN _) q j).mono ?_;rintro e i ⟨rfl,rfl⟩
    go_wp2_with fail
    refine(l8 ((f.out.alloc _).drewN _) m j).mono ?_;rintro e i ⟨rfl,rfl⟩
    go_wp2
    go_ret2
    exact Ends.mk E ((f.out.alloc _).drewN _) (((dy.refl w).alloc _).drewN _)
 .have g':K.oJ s a=false:=by simpa using r
  have E:ar (J0 K s a c d=⟨K,0,7⟩):=by unfold J0;simp[g',ar]
  clear r
  go_enter iu,gT
  go_wp2
  go_quiet (fail)
  go_wp2_with fail
  refine(B9 ((f.out.alloc _).drewN _) m).mono ?_;rintro e i ⟨rfl,rfl⟩
  go_wp2
  go_ret2
  exact Ends.mk E ((f.out.alloc _).drewN _) (((dy.refl w).alloc _).drewN _)
theorem js.oq(R:js w l F A D K)(k:a<K.nS):js (w.setCells A (a*20) sL) l F A D (K.oq a):=by
 have p:∀j,j<sL.length->(w.cell? (O A (a*20+j) Q)).isSome=true:=λj c=>by
  rw[S4]at c
  by_cases d:pF j
  .rw[R.b a j k d];rfl
  .rw[R.s a j k c d];rfl
 have g:∀b o,b≠A->(w.setCells A (a*20) sL).cell? (O b o Q)=w.cell? (O b o Q):=λb o d=>dX A sL (a*20) w (O b o Q) λh=>absurd h d;have m:∀i j,i≠a->j<20->(w.setCells A (a*20) sL).cell? (O A (i*20+j) Q)=w.cell? (O A (i*20+j) Q):=λi j f c=>dX A sL (a*20) w (O A (i*20+j) Q) (λ_ _=>by rw[S4];grind);have n:∀j (c:j<20),(w.setCells A (a*20) sL).cell? (O A (a*20+j) Q)=J (sL[j]'(by rw[S4];exact c)):=λj c=>kU A sL (a*20) w p j (by rw[S4];exact c);refine⟨by rw[g _ _ R.ks];exact R.k0,by rw[g _ _ R.ks];exact R.k1,by rw[g _ _ R.ks];exact R.k2,λi j f c=>by rw[g _ _ R.fs];exact R.f i j f c,?_,?_,λi j f c=>by rw[g _ _ λe=>R.sd e.symm];exact R.d i j f c,λo=>by rw[dH];exact R.zf o,λo=>by rw[dH];exact R.zs o,λo=>by rw[dH];exact R.zd o,by rw[l9];exact R.lk,by rw[l9];exact R.lf,by rw[l9];exact R.ls,by rw[l9];exact R.ld,R.kf,R.ks,R.kd,R.fs,R.fd,R.sd,R.hF,R.hS,R.hD⟩
 .intro i j f c d
  by_cases e:i=a
  .subst e;rw[n j c];show J _=J (dO .i64 (if i=i then(if j=0\/j=19 then 0 else -1) else K.S i j));rw[nT Z];obtain rfl|rfl|rfl|rfl|rfl|rfl|rfl|rfl|rfl|rfl|rfl|rfl:j=0\/j=1\/j=2\/j=3\/j=5\/j=7\/j=9\/j=11\/j=13\/j=15\/j=17\/j=19:=by unfold pF at d;omega
   all_goals rfl
  .rw[m i j e c,R.s i j f c d];show _=J (dO .i64 (if i=a then(if j=0\/j=19 then 0 else -1) else K.S i j));rw[nR e]
 .intro i j f d;have c:j<20:=by unfold pF at d;omega
  by_cases e:i=a
  .subst e;rw[n j c];show J _=J (Value.bool (if i=i then false else K.B i j));rw[nT Z];obtain rfl|rfl|rfl|rfl|rfl|rfl|rfl|rfl:j=4\/j=6\/j=8\/j=10\/j=12\/j=14\/j=16\/j=18:=by unfold pF at d;omega
   all_goals rfl
  .rw[m i j e c,R.b i j f d];show _=J (Value.bool (if i=a then false else K.B i j));rw[nR e]
theorem dy.setCells(h:dy F A D f w):∀(a:List Vu) (o:Nat),dy F A D f (w.setCells A o a):=λa=>by
 induction a generalizing w with
 | nil=>intro o;exact h
 | cons v r b=>intro o;exact b (h.cf o v) (o+1)
theorem Xi(K:aa)(s c:Nat)(a:K.still s c=true)(p:Nat)(b:p<4)(h:K.dT c p≠-1):K6 K s c=⟨K,0,6⟩:=by
 unfold K6
 grind
theorem Uy(K:aa)(s c:Nat)(a:K.still s c=true)(b:∀p,p<4->K.dT c p=-1)(x:Nat)(d:x<4)(h:K.file c x≠-1):K6 K s c=⟨K,0,8⟩:=by
 unfold K6
 grind
theorem Rq(K:aa)(s c:Nat)(a:K.still s c=true)(b:∀p,p<4->K.dT c p=-1)(d:∀x,x<4->K.file c x=-1):K6 K s c=⟨(K.an (K.S c 2).toNat 0 (-1)).oq c,K.S c 19,0⟩:=by
 unfold K6
 grind
theorem js.there(R:js w l F A D K)(b:a<K.nS):w.there A (a*20) 20:=λj d=>by
 refine⟨?_,R.zs _⟩
 by_cases c:pF j
 .rw[R.b a j b c];rfl
 .rw[R.s a j b d c];rfl
theorem js.wh(R:js w l F A D K)(b:bG w.heap.size w f):js f l F A D K:=R.same b.size λk a _=>b.block k a
theorem b6m{P:Pg}{w:Wd}{b o:Nat}{cs:List Vu}(c:w.there b o cs.length)(d:∀v∈cs,v.oneCell'=true):Sem.run P (storeCells (O b o Q) cs) w=.ok () (w.setCells b o cs):=by
 have:=jZ (P:=P) b o cs 0 w (λj a=>by simpa using(c j a).1) (λj a=>by simpa using(c j a).2) d;simpa using this
theorem c5x(R:js w l F A D K)(G:Good K){s:Nat}(y z:Int)(hs:s<K.nS)(d:a<K.nS) :
  aG V 70 #[Po (J (O l 0 Q)),Y U s,.agg #[Y U a,Y U y,Y U z]] w (Ends l F A D w (K6 K s a)):=by
 have c:ar (js w l F A D K):=R;have hn:=R.hS;have hm:=R.hF;clear R
 by_cases n:K.still s a=true
 .have C:K.S a 0≠0:=by intro h;unfold aa.still at n;grind
  obtain⟨t,T⟩:∃t:Nat,K.S a 2=t:=⟨(K.S a 2).toNat,by have:=G.oT a d C;omega⟩;have d':t<K.nF:=by have:=G.oT a d C;omega
  have W:ar (K.S a 2=t):=T;clear C T
  go_enter Tryz.func70,Tryz.ntmps70
  go_wp2_with fail
  refine(K5 (c.out.alloc _) d).mono ?_;rintro e r ⟨rfl,rfl⟩
  go_wp2
  go_loop [19] (λi=>∃k:Nat,k<=4/\i=Y U k/\∀p,p<k->K.dT a p=-1) λi=>4 - (bM i).toNat
  case atStart=>exact⟨0,by omega,Z,λp H=>by omega⟩
  case round =>
   obtain⟨k,hk,rfl,M⟩:=hrel;have I:ar (∀p,p<k->K.dT a p=-1):=M;clear M
   by_cases m:k<4
   .by_cases b:K.dT a k=-1
    .have L:(K.S a (3+k*2) != -1)=false:=by simpa[aa.dT] using b
     have N:ar (K.dT a k=-1):=b;clear b
     go_wp2_with fail
     refine(l8 (c.out.alloc _) d m).mono ?_;rintro e r ⟨rfl,rfl⟩
     go_wp2
     exact⟨⟨k+1,by omega,by go_num,λp H=>by by_cases e:p=k;rw[e];exact N.out;exact I.out p Za⟩,by simp[bM];omega⟩
    .have L:(K.S a (3+k*2) != -1)=true:=by simpa[aa.dT] using b
     have E:ar (K6 K s a=⟨K,0,6⟩):=Xi K s a n k m b;clear b
     go_wp2_with fail
     refine(l8 (c.out.alloc _) d m).mono ?_;rintro e r ⟨rfl,rfl⟩
     go_wp2
     go_ret2
     exact Ends.mk E (c.out.alloc _) ((dy.refl w).alloc _)
   .obtain rfl:k=4:=by omega
    go_wp2
    go_loop [27] (λi=>∃k:Nat,k<=4/\i=Y U k/\∀x,x<k->K.file a x=-1) λi=>4 - (bM i).toNat
    case atStart=>exact⟨0,by omega,Z,λp H=>by omega⟩
    case round =>
     obtain⟨k,hk,rfl,X⟩:=hrel;have Hf:ar (∀x,x<k->K.file a x=-1):=X;clear X
     by_cases m:k<4
     .by_cases b:K.file a k=-1
      .have L:(K.S a (11+k*2) != -1)=false:=by simpa[aa.file] using b
       have N:ar (K.file a k=-1):=b;clear b
       go_wp2_with fail
       refine(A0 (c.out.alloc _) d m).mono ?_;rintro e r ⟨rfl,rfl⟩
       go_wp2
       exact⟨⟨k+1,by omega,by go_num,λp H=>by by_cases e:p=k;rw[e];exact N.out;exact Hf.out p Za⟩,by simp[bM];omega⟩
      .have L:(K.S a (11+k*2) != -1)=true:=by simpa[aa.file] using b
       have E:ar (K6 K s a=⟨K,0,8⟩):=Uy K s a n I.out k m b;clear b
       go_wp2_with fail
       refine(A0 (c.out.alloc _) d m).mono ?_;rintro e r ⟨rfl,rfl⟩
       go_wp2
       go_ret2
       exact Ends.mk E (c.out.alloc _) ((dy.refl w).alloc _)
     .obtain rfl:k=4:=by omega
      have E:ar (K6 K s a=⟨(K.an t 0 (-1)).oq a,K.S a 19,0⟩):=by unfold ar;rw[Rq K s a n I.out Hf.out,W.out,au]
      have k1:=λo=>(c.out.alloc o).k1;have c1:=λo=>(c.out.alloc o).sc d;have c2:∀o,(w.alloc o).cell? (O A (a*20+2) Q)=J (Y U t):=λo=>by rw[(c.out.alloc o).st d,W.out]
      go_wp2_with fail
      refine(Y4 (c.out.alloc _) 0 (-1) d').mono ?_;rintro e w2 ⟨rfl,R2,q2⟩;have u:ar (js w2 l F A D (K.an t 0 (-1))):=R2;have e':ar (dy F A D w w2):=((dy.refl w).alloc _).trans q2;have P:a<(K.an t 0 (-1)).nS:=d;clear R2 q2 k1 c1 c2;generalize K.an t 0 (-1)=g at *;have r1:=u.out.k1;have r2:=u.out.hS;have i1:(0:Int)<=(a:Int):=by omega
      have i2:(a:Int)<(g.nS:Int):=by omega
      obtain⟨f,q⟩:∃f,f=sL:=⟨_,Z⟩;have hl:ar (f.length=20):=by unfold ar;rw[q];exact S4
      have i':ar ((V.info? 82).map (·.size)=J f.toArray.size):=by unfold ar;rw[q,aR,S4];kernel_rfl
      have f':ar (∀v∈f,v.oneCell'=true):=by unfold ar;rw[q];exact λv hv=>cR.1 MZ v (by simpa using hv)
      have n1:=u.out.ks;have n2:A≠l:=λe=>n1 e.symm;have CE:ar (∀w,aG V 29 #[] w λe S=>e=.returned (.agg f.toArray)/\bG w.heap.size w S):=by unfold ar;rw[q];exact Kg
      have HN:ar (∀j,js j l F A D g->js (j.setCells A (a*20) f) l F A D (g.oq a)):=by unfold ar;rw[q];exact λj R3=>R3.oq P
      clear q;have j':a<(g.oq a).nS:=P
      go_wp2_with fail
      go_region_held3 (λS=>S.cell? (O l 1 Q)=J (Sc (J (O A 0 Q)) g.nS g.nS)) (go_keep) (first|(go_at_call 29;refine(CE.out _).mono ?_;rintro e j ⟨rfl,b3⟩;have B:ar (js j l F A D g):=u.out.drew.wh b3;have g':ar (dy F A D w j):=e'.out.drew.trans ⟨b3.os,b3.tape,b3.output,b3.size,λk b _ _ _=>b3.block k b⟩;have t4:=B.out.k1;have t6:(j.setCells A (a*20) f).cell? (O l 1 Q)=J (Sc (J (O A 0 Q)) g.nS g.nS):=(HN.out j B.out).k1;have st:=b6m (P:=V) (w:=j) (b:=A) (o:=a*20) (cs:=f) (by rw[hl.out];exact B.out.there P) f'.out;clear b3))
      go_wp2
      go_ret2
      exact Ends.mk E (HN.out _ B.out) (g'.out.setCells f (a*20))
 .have h':K.still s a=false:=by simpa using n
  have E:ar (K6 K s a=⟨K,0,7⟩):=by unfold K6;simp[h',ar]
  clear n
  go_enter Tryz.func70,Tryz.ntmps70
  go_wp2_with fail
  refine(K5 (c.out.alloc _) d).mono ?_;rintro e r ⟨rfl,rfl⟩
  go_wp2
  go_ret2
  exact Ends.mk E (c.out.alloc _) ((dy.refl w).alloc _)
theorem UC(R:js w l F A D K)(a b c:Int) :
  aG V 36 #[Po (J (O l 0 Q)),Y U s,Y U 1,.agg #[Y U a,Y U b,Y U c]] w (Ends l F A D w ⟨K,0,0⟩):=by
 have d:ar (js w l F A D K):=R;clear R
 go_enter cj,bP
 go_wp2
 go_ret2
 exact Ends.mk (show ar _ from Z) (d.out.alloc _) ((dy.refl w).alloc _)
theorem Xf(R:js w l F A D K)(a b c:Int) :
  aG V 36 #[Po (J (O l 0 Q)),Y U s,Y U 0,.agg #[Y U a,Y U b,Y U c]] w (Ends l F A D w ⟨K,0,2⟩):=by
 have d:ar (js w l F A D K):=R;clear R
 go_enter cj,bP
 go_wp2
 go_ret2
 exact Ends.mk (show ar _ from Z) (d.out.alloc _) ((dy.refl w).alloc _)
theorem c3z(R:js w l F A D K)(G:Good K)(b c:Int)(d:s<K.nS)(f:a<4) :
  aG V 36 #[Po (J (O l 0 Q)),Y U s,Y U 3,.agg #[Y U a,Y U b,Y U c]] w (Ends l F A D w (O0 K s a)):=by
 have g:ar (js w l F A D K):=R;clear R
 go_enter cj,bP
 go_wp2_with fail
 refine(SN (g.out.alloc _) G b c d f).mono ?_;rintro e h ⟨rfl,R1,q1⟩
 go_wp2
 go_ret2
 exact⟨Z,R1,((dy.refl w).alloc _).trans q1⟩
theorem b7e(R:js w l F A D K)(b c:Int)(d:s<K.nS)(f:a<4) :
  aG V 36 #[Po (J (O l 0 Q)),Y U s,Y U 4,.agg #[Y U a,Y U b,Y U c]] w (Ends l F A D w (B5 K s a b)):=by
 have g:ar (js w l F A D K):=R;clear R
 go_enter cj,bP
 go_wp2_with fail
 refine(YT (g.out.alloc _) b c d f).mono ?_;rintro e h ⟨rfl,R1,q1⟩
 go_wp2
 go_ret2
 exact⟨Z,R1,((dy.refl w).alloc _).trans q1⟩
theorem Wc(R:js w l F A D K)(c:Int)(d:s<K.nS)(f:a<K.nS)(g:b<K.nF) :
  aG V 36 #[Po (J (O l 0 Q)),Y U s,Y U 5,.agg #[Y U a,Y U b,Y U c]] w (Ends l F A D w (F7 K s a b)):=by
 have h:ar (js w l F A D K):=R;clear R
 go_enter cj,bP
 go_wp2_with fail
 refine(TK (h.out.alloc _) c d f g).mono ?_;rintro e i ⟨rfl,R1,q1⟩
 go_wp2
 go_ret2
 exact⟨Z,R1,((dy.refl w).alloc _).trans q1⟩
theorem RU(R:js w l F A D K)(G:Good K)(d:s<K.nS)(f:a<K.nS)(g:b<4)(h:c<K.nF) :
  aG V 36 #[Po (J (O l 0 Q)),Y U s,Y U 6,.agg #[Y U a,Y U b,Y U c]] w (Ends l F A D w (J0 K s a b c)):=by
 have i:ar (js w l F A D K):=R;clear R
 go_enter cj,bP
 go_wp2_with fail
 refine(c3r (i.out.alloc _) G d f g h).mono ?_;rintro e j ⟨rfl,R1,q1⟩
 go_wp2
 go_ret2
 exact⟨Z,R1,((dy.refl w).alloc _).trans q1⟩
theorem c7m(R:js w l F A D K)(G:Good K)(d:s<K.nS)(f:a<K.nS)(g:b<4)(h:c<4) :
  aG V 36 #[Po (J (O l 0 Q)),Y U s,Y U 7,.agg #[Y U a,Y U b,Y U c]] w (Ends l F A D w (Q4 K s a b c)):=by
 have i:ar (js w l F A D K):=R;clear R
 go_enter cj,bP
 go_wp2_with fail
 refine(c3V (i.out.alloc _) G d f g h).mono ?_;rintro e j ⟨rfl,R1,q1⟩
 go_wp2
 go_ret2
 exact⟨Z,R1,((dy.refl w).alloc _).trans q1⟩
theorem Rx(R:js w l F A D K)(b c:Int)(d:s<K.nS)(f:a<K.nS) :
  aG V 36 #[Po (J (O l 0 Q)),Y U s,Y U 8,.agg #[Y U a,Y U b,Y U c]] w (Ends l F A D w (R9 K s a)):=by
 have g:ar (js w l F A D K):=R;clear R
 go_enter cj,bP
 go_wp2_with fail
 refine(Tu (g.out.alloc _) b c d f).mono ?_;rintro e h ⟨rfl,R1,q1⟩
 go_wp2
 go_ret2
 exact⟨Z,R1,((dy.refl w).alloc _).trans q1⟩
theorem ZD(R:js w l F A D K)(a b c:Int)(d:s<K.nS) :
  aG V 36 #[Po (J (O l 0 Q)),Y U s,Y U 9,.agg #[Y U a,Y U b,Y U c]] w (Ends l F A D w (Y9 K s a)):=by
 have f:ar (js w l F A D K):=R;clear R
 go_enter cj,bP
 go_wp2_with fail
 refine(R6 (f.out.alloc _) a b c d).mono ?_;rintro e g ⟨rfl,R1,q1⟩
 go_wp2
 go_ret2
 exact⟨Z,R1,((dy.refl w).alloc _).trans q1⟩
theorem Ux(R:js w l F A D K)(G:Good K)(c:Int)(d:s<K.nS)(f:a<K.nS)(g:b<4) :
  aG V 36 #[Po (J (O l 0 Q)),Y U s,Y U 10,.agg #[Y U a,Y U b,Y U c]] w (Ends l F A D w (W7 K s a b)):=by
 have h:ar (js w l F A D K):=R;clear R
 go_enter cj,bP
 go_wp2_with fail
 refine(WE (h.out.alloc _) G c d f g).mono ?_;rintro e i ⟨rfl,R1,q1⟩
 go_wp2
 go_ret2
 exact⟨Z,R1,((dy.refl w).alloc _).trans q1⟩
theorem c7s(R:js w l F A D K)(G:Good K)(c:Int)(d:s<K.nS)(f:a<K.nS)(g:b<4) :
  aG V 36 #[Po (J (O l 0 Q)),Y U s,Y U 11,.agg #[Y U a,Y U b,Y U c]] w (Ends l F A D w (W8 K s a b)):=by
 have h:ar (js w l F A D K):=R;clear R
 go_enter cj,bP
 go_wp2_with fail
 refine(c5W (h.out.alloc _) G c d f g).mono ?_;rintro e i ⟨rfl,R1,q1⟩
 go_wp2
 go_ret2
 exact⟨Z,R1,((dy.refl w).alloc _).trans q1⟩
theorem VN(R:js w l F A D K)(G:Good K)(b c:Int)(d:s<K.nS)(f:a<K.nS) :
  aG V 36 #[Po (J (O l 0 Q)),Y U s,Y U 12,.agg #[Y U a,Y U b,Y U c]] w (Ends l F A D w (K6 K s a)):=by
 have g:ar (js w l F A D K):=R;clear R
 go_enter cj,bP
 go_wp2_with fail
 refine(c5x (g.out.alloc _) G b c d f).mono ?_;rintro e h ⟨rfl,R1,q1⟩
 go_wp2
 go_ret2
 exact⟨Z,R1,((dy.refl w).alloc _).trans q1⟩
theorem Wb(R:js w l F A D K)(G:Good K)(c:Int)(d:s<K.nS)(f:a<4)(g:b<4) :
  aG V 36 #[Po (J (O l 0 Q)),Y U s,Y U 14,.agg #[Y U a,Y U b,Y U c]] w (Ends l F A D w (qy K s a b)):=by
 have h:ar (js w l F A D K):=R;clear R
 go_enter cj,bP
 go_wp2_with fail
 refine(ZF (h.out.alloc _) G c d f g).mono ?_;rintro e i ⟨rfl,R1,q1⟩
 go_wp2
 go_ret2
 exact⟨Z,R1,((dy.refl w).alloc _).trans q1⟩
theorem Zu(R:js w l F A D K)(G:Good K)(b c:Int)(d:s<K.nS)(f:a<4) :
  aG V 36 #[Po (J (O l 0 Q)),Y U s,Y U 15,.agg #[Y U a,Y U b,Y U c]] w (Ends l F A D w (N9 K s a)):=by
 have g:ar (js w l F A D K):=R;clear R
 go_enter cj,bP
 go_wp2_with fail
 refine(Wk (g.out.alloc _) G b c d f).mono ?_;rintro e h ⟨rfl,R1,q1⟩
 go_wp2
 go_ret2
 exact⟨Z,R1,((dy.refl w).alloc _).trans q1⟩
theorem c9C(R:js w l F A D K)(G:Good K)(o m a b c:Int)(s n:Nat)(p:o=s)(q:m=n)(e:s<K.nS)(y:n<20)(r:A7 K ((i7 n).getD 0 0) a=true/\A7 K ((i7 n).getD 1 0) b=true/\A7 K ((i7 n).getD 2 0) c=true) :
  aG V 36 #[Po (J (O l 0 Q)),Y U o,Y U m,.agg #[Y U a,Y U b,Y U c]] w (Ends l F A D w (tK K s n a b c)):=by
 by_cases t:IK m
 .exact Ym R G o m a b c t s n p q e r
 let⟨f,i,u⟩:=r;subst p;unfold IK at t;obtain rfl|rfl|rfl|rfl|rfl|rfl|rfl|rfl|rfl|rfl|rfl|rfl|rfl|rfl:n=0\/n=1\/n=3\/n=4\/n=5\/n=6\/n=7\/n=8\/n=9\/n=10\/n=11\/n=12\/n=14\/n=15:=by omega
 all_goals subst q
 .exact Xf R a b c
 .exact UC R a b c
 .obtain⟨g,rfl,h⟩:=y9 (t:=4) f Zb;exact c3z R G b c e (by have d:j4 K 4=4:=Z;omega)
 .obtain⟨g,rfl,h⟩:=y9 (t:=4) f Zb;exact b7e R b c e (by have d:j4 K 4=4:=Z;omega)
 .obtain⟨g,rfl,h⟩:=y9 (t:=2) f Zb;obtain⟨j,rfl,k⟩:=y9 (t:=1) i Zb;exact Wc R c e (by have d:j4 K 2=K.nS:=Z;omega) (by have d:j4 K 1=K.nF:=Z;omega)
 .obtain⟨g,rfl,h⟩:=y9 (t:=2) f Zb;obtain⟨j,rfl,k⟩:=y9 (t:=4) i Zb;obtain⟨v,rfl,x⟩:=y9 (t:=1) u Zb;exact RU R G e (by have d:j4 K 2=K.nS:=Z;omega) (by have d:j4 K 4=4:=Z;omega) (by have d:j4 K 1=K.nF:=Z;omega)
 .obtain⟨g,rfl,h⟩:=y9 (t:=2) f Zb;obtain⟨j,rfl,k⟩:=y9 (t:=5) i Zb;obtain⟨v,rfl,x⟩:=y9 (t:=5) u Zb;exact c7m R G e (by have d:j4 K 2=K.nS:=Z;omega) (by have d:j4 K 5=4:=Z;omega) (by have d:j4 K 5=4:=Z;omega)
 .obtain⟨g,rfl,h⟩:=y9 (t:=2) f Zb;exact Rx R b c e (by have d:j4 K 2=K.nS:=Z;omega)
 .exact ZD R a b c e
 .obtain⟨g,rfl,h⟩:=y9 (t:=2) f Zb;obtain⟨j,rfl,k⟩:=y9 (t:=4) i Zb;exact Ux R G c e (by have d:j4 K 2=K.nS:=Z;omega) (by have d:j4 K 4=4:=Z;omega)
 .obtain⟨g,rfl,h⟩:=y9 (t:=2) f Zb;obtain⟨j,rfl,k⟩:=y9 (t:=5) i Zb;exact c7s R G c e (by have d:j4 K 2=K.nS:=Z;omega) (by have d:j4 K 5=4:=Z;omega)
 .obtain⟨g,rfl,h⟩:=y9 (t:=2) f Zb;exact VN R G b c e (by have d:j4 K 2=K.nS:=Z;omega)
 .obtain⟨g,rfl,h⟩:=y9 (t:=5) f Zb;obtain⟨j,rfl,k⟩:=y9 (t:=5) i Zb;exact Wb R G c e (by have d:j4 K 5=4:=Z;omega) (by have d:j4 K 5=4:=Z;omega)
 .obtain⟨g,rfl,h⟩:=y9 (t:=5) f Zb;exact Zu R G b c e (by have d:j4 K 5=4:=Z;omega)
theorem PF(R:js w l F A D K)(T:qJ w)(G:Good K)(d e a b c:Int) :
  aG V 16 #[Po (J (O l 0 Q)),Y U d,Y U e,.agg #[Y U a,Y U b,Y U c]] w (Ends l F A D w (d8 K d e a b c)) :=
 c3d R T d e a b c λs n f g h i j m k=>c9C k G d e a b c s n f g h i j
theorem FW{P:Pg}{w:Wd}(a o c:Ti)(b g n m:Nat)(p:P.underlying a=J (.slice c))(q:(P.info? c).map (·.size)=J m)(r:N.length=n*m)(t:∀j v,N[j]?=J v->w.cell? (((O g 0 Q):cC).add j)=J v)(e:w.there b 0 N.length)(u:∀v∈N,v.oneCell'=true) :
  (dt #[a,a] o #[Sc (J (O b 0 Q)) n n,Sc (J (O g 0 Q)) n n]).run P w=.ok (goInt n) (w.setCells b 0 N):=by
 have f:=run_loadCells_list (P:=P) w (O g 0 Q) N t;have h:=jZ (P:=P) b 0 N 0 w (λj d=>by simpa using(e j d).1) (λj d=>by simpa using(e j d).2) u
 cases k:P.info? c with
 | none=>simp[k]at q
 | some i =>
  have x:i.size=m:=by grind
  rw[r]at f;simp only[kH]at h;simp[dt,eT p,nH,kV,sizeOf,typeInfo,k,x,f,h]
theorem CX{a:Pg}{w:Wd}{b:List aN}{Q:Exit->db->Wd->Prop}(e:v.guard=G')(s x:aU)(t:Ti)(g:v.op=Op.call { callee:=Callee.builtin Builtin.copy,args:=#[s,x],argTypes:=#[t,t] })(c u d:Vu)(i:R.eval s=c)(j:R.eval x=u)(k:(dt #[t,t] v.type #[c,u]).run a w=.ok d f)(h:gN a P Q b (R.put v.dst d) f):gN a P Q (v::b) R w:=by
 refine wpList_plain e λK m=>?_;unfold Oper.wp;simp[Ex,g,resolve,invoke,builtin,i,j,k,Result.andThen];exact m _ _ h
def U8(K:aa)(j:Nat):dQ:=Y U (K.F (j / 6) (j%6))
def A6(K:aa)(j:Nat):dQ:=if 4<=j%20/\j%20<=18/\(j%20)%2=0 then Bo (K.B (j / 20) (j%20)) else Y U (K.S (j / 20) (j%20))
def tA(K:aa)(j:Nat):dQ:=Y U (K.D (j / 5) (j%5))
theorem js.A3(R:js w l F A D K)(b:a<K.nF*6):w.cell? (O F a Q)=J (U8 K a):=by
 have:=R.f (a / 6) (a%6) Za Za;rw[show a / 6*6+a%6=a by omega]at this;exact this
theorem js.Bs(R:js w l F A D K)(b:a<K.nS*20):w.cell? (O A a Q)=J (A6 K a):=by
 unfold A6;split
 .have:=R.b (a / 20) (a%20) Za (by assumption);rw[show a / 20*20+a%20=a by omega]at this;exact this
 .have:=R.s (a / 20) (a%20) Za Za (by assumption);rw[show a / 20*20+a%20=a by omega]at this;exact this
theorem js.BI(R:js w l F A D K)(b:a<K.nD*5):w.cell? (O D a Q)=J (tA K a):=by
 have:=R.d (a / 5) (a%5) Za Za;rw[show a / 5*5+a%5=a by omega]at this;exact this
theorem a7V(g n:Nat)(p:n<=32)(f:Nat->Vu){w:Wd}(q:g<w.heap.size)(i:∀j,j<n*6->w.cell? (O g j Q)=J (f j))(k:∀j,(f j).oneCell'=true) :
  aG V 57 #[Sc (J (O g 0 Q)) n n] w λe d=>e=.returned (Sc (J (O w.heap.size 0 Q)) n n)/\bG w.heap.size w d/\d.heap.size=w.heap.size+1/\d.rowIs w.heap.size 71 (n*6) f:=by
 let⟨C,m,u⟩:=MB n p w;have c:=K9 w C 71;rw[m]at c;have o:∀h,(dt #[66,66] h #[Sc (J (O w.heap.size 0 Q)) n n,Sc (J (O g 0 Q)) n n]).run V (w.alloc (.cells C 71))=.ok (goInt n) ((w.alloc (.cells C 71)).setCells w.heap.size 0 ((aM (n*6)).map f)) :=
  λh=>FW _ _ 71 _ _ n 6 Tryz.underlying66 Zd Zc (λj v a=>by
   have b:j<n*6:=by have:=(bj.1 a).1;simpa using this
   rw[eO,aE,Zf (w:=w) (a:=(O g j Q)) (aK _ _ _ q),i j b,←a,bZ,cY b];rfl) (by simpa using D6 c Za) λv a=>by simp at a;obtain⟨j,_,rfl⟩:=a;exact k j
 have r:ar (∀h,_):=o;have t:ar _:=c;clear o m c i k
 go_enter Tryz.func57,Tryz.ntmps57
 go_wp2_with (refine CX Z _ _ 66 Z (Sc (J (O w.heap.size 0 Q)) n n) (Sc (J (O g 0 Q)) n n) (goInt n) Z Z (r.out _) ?_)
 go_ret
 refine⟨Z,p9 (af _) _ _ ((bD _ _).alloc (af _) _),by rw[l9];simp,(C6 _ 0 t.out).congr λj b=>?_⟩;rw[nT (by simp;exact b),iQ,cK,bZ,cY b];rfl
theorem TV(g n:Nat)(p:n<=32)(f:Nat->Vu){w:Wd}(q:g<w.heap.size)(i:∀j,j<n*20->w.cell? (O g j Q)=J (f j))(k:∀j,(f j).oneCell'=true) :
  aG V 58 #[Sc (J (O g 0 Q)) n n] w λe d=>e=.returned (Sc (J (O w.heap.size 0 Q)) n n)/\bG w.heap.size w d/\d.heap.size=w.heap.size+1/\d.rowIs w.heap.size 82 (n*20) f:=by
 let⟨C,m,u⟩:=MH n p w;have c:=K9 w C 82;rw[m]at c;have o:∀h,(dt #[72,72] h #[Sc (J (O w.heap.size 0 Q)) n n,Sc (J (O g 0 Q)) n n]).run V (w.alloc (.cells C 82))=.ok (goInt n) ((w.alloc (.cells C 82)).setCells w.heap.size 0 ((aM (n*20)).map f)) :=
  λh=>FW _ _ 82 _ _ n 20 jz Zd Zc (λj v a=>by
   have b:j<n*20:=by have:=(bj.1 a).1;simpa using this
   rw[eO,aE,Zf (w:=w) (a:=(O g j Q)) (aK _ _ _ q),i j b,←a,bZ,cY b];rfl) (by simpa using D6 c Za) λv a=>by simp at a;obtain⟨j,_,rfl⟩:=a;exact k j
 have r:ar (∀h,_):=o;have t:ar _:=c;clear o m c i k
 go_enter Tryz.func58,Tryz.ntmps58
 go_wp2_with (refine CX Z _ _ 72 Z (Sc (J (O w.heap.size 0 Q)) n n) (Sc (J (O g 0 Q)) n n) (goInt n) Z Z (r.out _) ?_)
 go_ret
 refine⟨Z,p9 (af _) _ _ ((bD _ _).alloc (af _) _),by rw[l9];simp,(C6 _ 0 t.out).congr λj b=>?_⟩;rw[nT (by simp;exact b),iQ,cK,bZ,cY b];rfl
theorem UQ(g n:Nat)(p:n<=32)(f:Nat->Vu){w:Wd}(q:g<w.heap.size)(i:∀j,j<n*5->w.cell? (O g j Q)=J (f j))(k:∀j,(f j).oneCell'=true) :
  aG V 59 #[Sc (J (O g 0 Q)) n n] w λe d=>e=.returned (Sc (J (O w.heap.size 0 Q)) n n)/\bG w.heap.size w d/\d.heap.size=w.heap.size+1/\d.rowIs w.heap.size 87 (n*5) f:=by
 let⟨C,m,u⟩:=JJ n p w;have c:=K9 w C 87;rw[m]at c;have o:∀h,(dt #[83,83] h #[Sc (J (O w.heap.size 0 Q)) n n,Sc (J (O g 0 Q)) n n]).run V (w.alloc (.cells C 87))=.ok (goInt n) ((w.alloc (.cells C 87)).setCells w.heap.size 0 ((aM (n*5)).map f)) :=
  λh=>FW _ _ 87 _ _ n 5 Tryz.underlying83 Zd Zc (λj v a=>by
   have b:j<n*5:=by have:=(bj.1 a).1;simpa using this
   rw[eO,aE,Zf (w:=w) (a:=(O g j Q)) (aK _ _ _ q),i j b,←a,bZ,cY b];rfl) (by simpa using D6 c Za) λv a=>by simp at a;obtain⟨j,_,rfl⟩:=a;exact k j
 have r:ar (∀h,_):=o;have t:ar _:=c;clear o m c i k
 go_enter Tryz.func59,Tryz.ntmps59
 go_wp2_with (refine CX Z _ _ 83 Z (Sc (J (O w.heap.size 0 Q)) n n) (Sc (J (O g 0 Q)) n n) (goInt n) Z Z (r.out _) ?_)
 go_ret
 refine⟨Z,p9 (af _) _ _ ((bD _ _).alloc (af _) _),by rw[l9];simp,(C6 _ 0 t.out).congr λj b=>?_⟩;rw[nT (by simp;exact b),iQ,cK,bZ,cY b];rfl
structure qu (w:Wd) (gF gS gD:Nat) (K:aa):Prop where
 f:w.rowIs gF 71 (K.nF*6) (U8 K)
 s:w.rowIs gS 82 (K.nS*20) (A6 K)
 d:w.rowIs gD 87 (K.nD*5) (tA K)
theorem qu.same{w w':Wd}{K:aa}(S:qu w a b c K)(h:∀k,k=a\/k=b\/k=c->w'.heap[k]?=w.heap[k]?):qu w' a b c K :=
 ⟨S.f.of_block (h _ Zc),S.s.of_block (h _ Zc),S.d.of_block (h _ Zc)⟩
theorem Nx(K:aa)(j:Nat):(U8 K j).oneCell'=true:=rfl
theorem KX(K:aa)(j:Nat):(tA K j).oneCell'=true:=rfl
theorem OI(K:aa)(j:Nat):(A6 K j).oneCell'=true:=by unfold A6;split<;>rfl
theorem Ny{w:Wd}(b:bG (w.alloc (.cells i x)).drew.heap.size (w.alloc (.cells i x)).drew f)(c:bG f.heap.size f g)(k:bG g.heap.size g h) :
  (∀a,h.cell? (O w.heap.size a Q)=i[a]?)/\(∀a,h.frozen? (O w.heap.size a Q)=false):=by
 have d:w.heap.size<(w.alloc (.cells i x)).drew.heap.size:=by show w.heap.size<(w.alloc (.cells i x)).heap.size;simp
 have j:=Zg d b.size;have m:=Zg j c.size;have e:h.heap[w.heap.size]?=(w.alloc (.cells i x)).heap[w.heap.size]?:=(k.block _ m).trans ((c.block _ j).trans (b.block _ d));exact⟨λa=>(Zf (w:=w.alloc (.cells i x)) (a:=(O w.heap.size a Q)) e).trans (World.cell?_alloc_at _ _ _ _ Z),λa=>(dL (w:=w.alloc (.cells i x)) (a:=(O w.heap.size a Q)) e).trans (World.frozen?_alloc_at _ _ _ _ Z)⟩
def rW(K:aa)(a b c:Nat):dQ:=.agg #[Sc (J (O a 0 Q)) K.nF K.nF,Sc (J (O b 0 Q)) K.nS K.nS,Sc (J (O c 0 Q)) K.nD K.nD]
def vW(K:aa)(g:Nat):List dQ:=[Sc (J (O (g+1) 0 Q)) K.nF K.nF,Sc (J (O (g+1+1) 0 Q)) K.nS K.nS,Sc (J (O (g+1+1+1) 0 Q)) K.nD K.nD]
theorem c1Q{K:aa}(c:∀i,f.cell? (O a i Q)=(#[dm Q 0 0,dm Q 0 0,dm Q 0 0]:Array Vu)[i]?)(d:∀i,f.frozen? (O a i Q)=false):f.there a 0 (vW K b).length:=λj e=>by
 have g:j<3:=e;refine⟨?_,?_⟩
 .rw[c];match j,g with|0,_=>rfl|1,_=>rfl|2,_=>rfl
 .exact d _
theorem RJ{w:Wd}{K:aa}(c:bG (w.alloc (.cells i x)).drew.heap.size (w.alloc (.cells i x)).drew f)(b:bG f.heap.size f g)(a:bG g.heap.size g h)(n:f.heap.size=(w.alloc (.cells i x)).drew.heap.size+1)(o:g.heap.size=f.heap.size+1)(p:f.rowIs (w.alloc (.cells i x)).drew.heap.size 71 (K.nF*6) (U8 K))(q:g.rowIs f.heap.size 82 (K.nS*20) (A6 K))(r:h.rowIs g.heap.size 87 (K.nD*5) (tA K)) :
  ∃e j m,Ending.returned (.agg (vW K w.heap.size).toArray)=.returned (rW K e j m)/\bG w.heap.size w (h.setCells w.heap.size 0 (vW K w.heap.size))/\qu (h.setCells w.heap.size 0 (vW K w.heap.size)) e j m K/\w.heap.size<=e/\w.heap.size<=j/\w.heap.size<=m:=by
 have t:(w.alloc (.cells i x)).drew.heap.size=w.heap.size+1:=by show(w.alloc (.cells i x)).heap.size=_;simp
 rw[t]at n p;rw[n]at o q;rw[o]at r;refine⟨w.heap.size+1,w.heap.size+1+1,w.heap.size+1+1+1,Z,p9 (af _) _ _ ?_,?_,by omega,by omega,by omega⟩
 .have d:bG w.heap.size w (w.alloc (.cells i x)):=(bD _ _).alloc (af _) _;refine⟨?_,?_,?_,?_,λk u=>?_⟩
  .rw[a.os,b.os,c.os];exact d.os
  .rw[a.tape,b.tape,c.tape];exact d.tape
  .rw[a.output,b.output,c.output];exact d.output
  .have:=a.size;omega
  .exact(a.block k Za).trans ((b.block k Za).trans ((c.block k Za).trans (d.block k u)))
 .refine qu.same (w:=h) ⟨(p.of_block (b.block _ Za)).of_block (a.block _ Za),q.of_block (a.block _ Za),r⟩ ?_;rintro k (rfl|rfl|rfl)<;>exact I5 Za _ _ _
theorem OQ(R:js w l F A D K) :
  aG V 33 #[Po (J (O l 0 Q))] w λe b=>∃n p q,e=.returned (rW K n p q)/\bG w.heap.size w b/\qu b n p q K/\w.heap.size<=n/\w.heap.size<=p/\w.heap.size<=q:=by
 have c:ar (js w l F A D K):=R;have C:=λo=>(c.out.alloc o).k0;have E:=λo=>(c.out.alloc o).k1;have H:=λo=>(c.out.alloc o).k2;have r:ar (K.nF<=32/\K.nS<=6/\K.nD<=4):=⟨R.hF,R.hS,R.hD⟩;have u:w.heap.size≠l:=World.new_ne w (O l 0 Q) R.k0;have I:l≠w.heap.size:=aA u;clear R
 go_enter Tryz.func33,Tryz.ntmps33
 go_wp2_with fail
 go_region_held3 (λb=>b.cell? (O l 0 Q)=J (Sc (J (O F 0 Q)) K.nF K.nF)/\b.cell? (O l 1 Q)=J (Sc (J (O A 0 Q)) K.nS K.nS)/\b.cell? (O l 2 Q)=J (Sc (J (O D 0 Q)) K.nD K.nD)) ((repeat' apply dg)<;>(first|assumption|(go_keep;done)))
  (first|(go_at_call 57;refine(a7V F K.nF r.out.1 (U8 K) (c.out.alloc _).drew.lf (λj g=>(c.out.alloc _).drew.A3 g) (Nx K)).mono ?_;rintro e v ⟨rfl,b1,z1,r1⟩;have d:ar (js v l F A D K):=(c.out.alloc _).drew.same b1.size λk h _=>b1.block k h;have L:=d.out.k0;have N:=d.out.k1;have P:=d.out.k2)|(go_at_call 58;refine(TV A K.nS (by have:=r.out;omega) (A6 K) d.out.ls (λj g=>d.out.Bs g) (OI K)).mono ?_;rintro e x ⟨rfl,b2,z2,r2⟩;have f:ar (js x l F A D K):=d.out.same b2.size λk h _=>b2.block k h;have S:=f.out.k0;have T:=f.out.k1;have W:=f.out.k2)|(go_at_call 59;refine(UQ D K.nD (by have:=r.out;omega) (tA K) f.out.ld (λj g=>f.out.BI g) (KX K)).mono ?_;rintro e a ⟨rfl,b3,z3,r3⟩;have t:ar (js a l F A D K):=f.out.same b3.size λk h _=>b3.block k h;have G:=t.out.k0;have M:=t.out.k1;have X:=t.out.k2;have i:=(Ny b1 b2 b3).1;have m:=(Ny b1 b2 b3).2;have y0:a.cell? (O w.heap.size 0 Q)=J (Sc Q 0 0):=i 0;have y1:a.cell? (O w.heap.size 1 Q)=J (Sc Q 0 0):=i 1;have y2:a.cell? (O w.heap.size 2 Q)=J (Sc Q 0 0):=i 2;have f0:=m 0;have f1:=m 1;have f2:=m 2;have y:ar (a.there w.heap.size 0 (vW K w.heap.size).length):=c1Q i m))
 rename_i z K1 B hH;refine B _ _ ?_;subst z;refine wp_ret ?_;show bodyPost _ _ _ _ _ (a.setCells w.heap.size 0 (vW K w.heap.size));refine bodyPost_ret (v:=.agg (vW K w.heap.size).toArray) (Gy Tryz.results33 (a.setCells w.heap.size 0 (vW K w.heap.size)) w.heap.size (vW K w.heap.size) Z (fC a w.heap.size 0 _ y.out) Tryz.underlying109 Z Zd) Z<|RJ b1 b2 b3 z1 z2 r1 r2 r3
end
section
open Go.Conc (G)
variable{a b c d e:Nat}{f g h:Wd}{i j:Array Vu}{k l m n o:Int}{p q:Vu}{r s t u:Bool}{v w:aN}{x y:Ti}{z A:aU}{B C:List Nat}{E:Gr->Wd->Prop}{F:List Fm'}{H:List nY}{I:Obj}{K L:Type}{N:List Vu}{P:Array aN}{R:db}{S:Nat->Nat}
structure Ctx where
 o:nY
 slot:Int
 kd:Int
 A:Int
 B:Int
 bk:Nat
 bf:Nat
 bs:Nat
 bd:Nat
structure Env (C:Ctx) (l:List nY) (K:aa) (w:Wd):Prop where
 rep:js w C.bk C.bf C.bs C.bd K
 oT:qJ w
 inv:rS K
 fit:Fit (fb l) w
 ko:KO l w
 ap:∀o∈l,o.bo≠C.bk/\o.bo≠C.bf/\o.bo≠C.bs/\o.bo≠C.bd/\o.bo≠0
theorem Af(h:Lk S f g){a:cC}(b:S a.block=0):f.frozen? a=g.frozen? a:=by
 simp only[bY,h.heap,b]
 cases g.heap[a.block]? with
 | none=>rfl
 | some o=>cases o<;>rfl
theorem EC{w:Wd}{K:aa}(h:Lk S f w)(k:S b=0)(l:S c=0)(m:S d=0)(R:js w a b c d K):js f a b c d K :=
 ⟨by rw[h.cell];exact R.k0,by rw[h.cell];exact R.k1,by rw[h.cell];exact R.k2,λi e g j=>by rw[h.cell];exact R.f i e g j,λi e g j n=>by rw[h.cell];exact R.s i e g j n,λi e g j=>by rw[h.cell];exact R.b i e g j,
  λi e g j=>by rw[h.cell];exact R.d i e g j,λo=>by rw[Af h k];exact R.zf o,λo=>by rw[Af h l];exact R.zs o,λo=>by rw[Af h m];exact R.zd o,
  by rw[h.size];exact R.lk,by rw[h.size];exact R.lf,by rw[h.size];exact R.ls,by rw[h.size];exact R.ld,R.kf,R.ks,R.kd,R.fs,R.fd,R.sd,R.hF,R.hS,R.hD⟩
theorem IE{K:aa}(h:Lk S f g)(l:S b=0)(m:S c=0)(n:S d=0)(R:js f a b c d K):js g a b c d K :=
 ⟨by rw[←h.cell];exact R.k0,by rw[←h.cell];exact R.k1,by rw[←h.cell];exact R.k2,λi e j k=>by rw[←h.cell];exact R.f i e j k,λi e j k p=>by rw[←h.cell];exact R.s i e j k p,λi e j k=>by rw[←h.cell];exact R.b i e j k,
  λi e j k=>by rw[←h.cell];exact R.d i e j k,λo=>by rw[←Af h l];exact R.zf o,λo=>by rw[←Af h m];exact R.zs o,λo=>by rw[←Af h n];exact R.zd o,
  by rw[←h.size];exact R.lk,by rw[←h.size];exact R.lf,by rw[←h.size];exact R.ls,by rw[←h.size];exact R.ld,R.kf,R.ks,R.kd,R.fs,R.fd,R.sd,R.hF,R.hS,R.hD⟩
theorem Lh(h:Lk S f g)(T:qJ g):qJ f:=⟨λi a=>by rw[h.cell];exact T.t i a,λi j a b=>by rw[h.cell];exact T.a i j a b⟩
structure Alike (C:Ctx) (w w':Wd):Prop where
 size:w.heap.size<=w'.heap.size
 block:∀k,k<w.heap.size->k≠C.bf->k≠C.bs->k≠C.bd->w'.heap[k]?=w.heap[k]?
theorem Env.zero{C:Ctx}{K:aa}(E:Env C H K f):fb H C.bf=0/\fb H C.bs=0/\fb H C.bd=0 :=
 ⟨U7 λo a=>(E.ap o a).2.1,U7 λo a=>(E.ap o a).2.2.1,U7 λo a=>(E.ap o a).2.2.2.1⟩
theorem c4x{C:Ctx}(h:KO H f)(b:∀o∈H,o.bo≠C.bk/\o.bo≠C.bf/\o.bo≠C.bs/\o.bo≠C.bd/\o.bo≠0)(A:Alike C f g):KO H g:=by
 intro o a;let⟨c,t,d,e⟩:=h o a;let⟨_,i,j,k,_⟩:=b o a;exact⟨c,t,by rw[A.block _ (KO.lt h a) i j k];exact d,e⟩
theorem Yr{C:Ctx}{K:aa}(E:Env C H K f)(n:0≠C.bf/\0≠C.bs/\0≠C.bd)(s:Bool)(d i a b c:Int)(o:Fm')(p:List Fm') :
  l6 V s (DL true (fb H)) (λg l=>g=G (o.finish (.tuple #[Y U (d8 K d i a b c).n,Y U (d8 K d i a b c).e])) p/\Env C H (d8 K d i a b c).K l/\Alike C f l)
   (G (ay V 16 #[Po (J (O C.bk 0 Q)),Y U d,Y U i,.agg #[Y U a,Y U b,Y U c]] .normal) (o::p)) f:=by
 let⟨t,u,w⟩:=E.zero;have y:=λv (j:Lk (fb H) v f)=>PF (EC j t u w E.rep) (Lh j E.oT) E.inv.mL d i a b c
 refine(xC xa Zd E.fit s (Q:=λx m=>x=.tuple #[Y U (d8 K d i a b c).n,Y U (d8 K d i a b c).e]/\js m C.bk C.bf C.bs C.bd (d8 K d i a b c).K/\∃v,Lk (fb H) v f/\dy C.bf C.bs C.bd v m)
  (λv j=>(y v j).mono λe m z=>by
   obtain⟨rfl,q,r⟩:=z
   exact⟨Z,q,v,j,r⟩) o p).keep.mono (λ_ _ _ h=>h) ?_
 rintro g l ⟨⟨x,m,rfl,hl',rfl,hR,v,hl,hk⟩,hkp⟩;have A:Alike C f l:=⟨by rw[←hl.size,←hl'.size];exact hk.size,λk B q r D=>C7 hkp hl hl' (hk.block k (by rw[hl.size];exact B) q r D)⟩;exact⟨Z,⟨IE hl' t u w hR,E.oT.same (A.block 0 E.oT.lt n.1 n.2.1 n.2.2),Ac E.inv _ _ _ _ _,hl'.fit,c4x E.ko E.ap A,E.ap⟩,A⟩
end
section
open Go.Conc
variable{a b c d e:Nat}{f g h:Wd}{i j:Array Vu}{k l m n o:Int}{p q:Vu}{r s t u:Bool}{v w:aN}{x y:Ti}{z A:aU}{B C:List Nat}{E:Gr->Wd->Prop}{F:List Fm'}{H:List nY}{I:Obj}{K L:Type}{N:List Vu}{P:Array aN}{R:db}{S:Nat->Nat}
abbrev pO(o:nY):dQ:=Po (J (O o.bo 0 Q))
def BX:List bm :=
 match Tryz.f106.body with
 | some (.seq _ (.seq _ (.seq (.region _ ops _) c)))=>[.inRegion ops [0,1,2,3],.code c]
 | _=>[]
def P8(o:nY)(a:List Fm'):Gr :=
 G ((aB 106).at ⟨#[pO o,Ud,Bo false,pO o,pO o,pO o,.chan (J o.tu),pO o,pO o,Po (J (O o.bo 2 Q)),.chan (J o.en),Ud,Ud,Ud,Ud,Ud,Ud,Ud],[]⟩ BX) a
def Q6(o:nY)(a:List Fm'):ic:={ cases:=#[mK o.tu (.agg #[]),mK o.en (.agg #[])],shape:=.select,home:=λg=>g=P8 o a }
theorem Z1(h:KO H f){o:nY}(b:o∈H):f.cell? (O o.bo 0 Q)=J (.chan (J o.tu))/\f.cell? (O o.bo 1 Q)=J (.chan (J o.to))/\f.cell? (O o.bo 2 Q)=J (.chan (J o.en))/\(∀i,f.frozen? (O o.bo i Q)=false):=by
 let⟨c,t,a,d,e,g⟩:=h o b;refine⟨by simp[aD,a,d],by simp[aD,a,e],by simp[aD,a,g],λi=>by simp[bY,a]⟩
theorem Rz(o:nY)(l:List nY)(B:Nat)(a:List Fm'):AtIn V false (KO l) (SP l no) B (Q6 o a) (P8 o a) (P8 o a):=by
 unfold P8 BX;simp only[jC]
 exact atIn_of (s:=Q6 o a) Z Z Zb (λw=>by simp[go_sem,Ex,mK,dp,Q6]) (λw=>by simp[go_sem,Ex,dp]) (by
  simp only[Q6,P8,BX,jC])
def GH:jx:=(Tryz.f106.body).getD .skip
theorem b8F(o:nY):ay V 106 #[pO o] .normal=(aB 106).at ⟨#[pO o,Ud,Ud,Ud,Ud,Ud,Ud,Ud,Ud,Ud,Ud,Ud,Ud,Ud,Ud,Ud,Ud,Ud],[]⟩ [.code GH]:=by
 rw[enter_at (c:=GH) _ jA Z];rfl
theorem ME(o:nY)(l:List nY)(i:o∈l)(B:Nat)(q:∀o∈l,o.bo<B)(j:List Fm')(w:Wd) :
  Goes V false (RK (KO l)) (DS (SP l no) B) (λg _=>∃r,AtIn V false (KO l) (SP l no) B (Q6 o j) g r) 20 (G (ay V 106 #[pO o] .normal) j) w:=by
 rw[b8F];simp only[GH,jC,cW,pO];refine aO Z λc a=>?_;rw[stepG_seq];simp only[dc];refine⟨de _,?_⟩;clear a;refine aO Z λc a=>?_;rw[iH];simp only[dc,aR,bQ,dP,Nat.reduceAdd,aE,aM,List.range.loop];refine⟨de _,?_⟩;clear a;refine aO Z λc a=>cA Z Z Zb λK b=>?_;go_simp;refine b _ _ ⟨⟨Z,λe f=>by(have d:=aZ f;simp[go_sem]at d)⟩,?_⟩;clear b K a;refine aO Z λc a=>?_;rw[jd];simp only[dc];refine⟨de _,?_⟩;clear a;refine aO Z λc a=>?_;rw[stepG_seq];simp only[dc];refine⟨de _,?_⟩;clear a;refine aO Z λc a=>?_;rw[stepG_seq];simp only[dc];refine⟨de _,?_⟩;clear a;refine aO Z λc a=>?_;rw[iH];simp only[dc,aR,bQ,dP,Nat.reduceAdd,aE,aM,List.range.loop];refine⟨de _,?_⟩;clear a;refine aO Z λc a=>cA Z Z Zb λK b=>?_;go_simp;refine b _ _ ⟨⟨Z,λe f=>by(have d:=aZ f;simp[go_sem]at d)⟩,?_⟩;clear b K a;refine aO Z λc a=>cA Z Z Zb λK b=>?_;go_simp;refine b _ _ ⟨⟨Z,λe f=>by(have d:=aZ f;simp[go_sem]at d)⟩,?_⟩;clear b K a;refine aO Z λc a=>cA Z Z Zb λK b=>?_;go_simp;refine b _ _ ⟨⟨Z,λe f=>by(have d:=aZ f;simp[go_sem]at d)⟩,?_⟩;clear b K a;refine aO Z λc a=>cA Z Z Zb λK b=>?_;have h:=Z1 a i;have k:=h.1;have m:=h.2.1;have n:=h.2.2.1;have p:=h.2.2.2;go_simp;refine b _ _ ⟨⟨Z,λe f=>by(have d:=aZ f;simp[go_sem, *]at d;subst d;exact evC_read _ (.inl ⟨o,i,0,by omega,Z⟩) (q o i))⟩,?_⟩;clear b K h k m n p a;refine aO Z λc a=>?_;rw[jd];simp only[dc];refine⟨de _,?_⟩;clear a;refine aO Z λc a=>?_;rw[iH];simp only[dc,aR,bQ,dP,Nat.reduceAdd,aE,aM,List.range.loop];refine⟨de _,?_⟩;clear a;refine aO Z λc a=>cA Z Z Zb λK b=>?_;go_simp;refine b _ _ ⟨⟨Z,λe f=>by(have d:=aZ f;simp[go_sem]at d)⟩,?_⟩;clear b K a;refine aO Z λc a=>cA Z Z Zb λK b=>?_;go_simp;refine b _ _ ⟨⟨Z,λe f=>by(have d:=aZ f;simp[go_sem]at d)⟩,?_⟩;clear b K a;refine aO Z λc a=>cA Z Z Zb λK b=>?_;go_simp;refine b _ _ ⟨⟨Z,λe f=>by(have d:=aZ f;simp[go_sem]at d)⟩,?_⟩;clear b K a;refine aO Z λc a=>cA Z Z Zb λK b=>?_;have h:=Z1 a i;have k:=h.1;have m:=h.2.1;have n:=h.2.2.1;have p:=h.2.2.2
 go_simp;refine b _ _ ⟨⟨Z,λe f=>by(have d:=aZ f;simp[go_sem, *]at d;subst d;exact evC_read _ (.inl ⟨o,i,2,by omega,Z⟩) (q o i))⟩,?_⟩;clear b K h k m n p a;refine aO Z λc a=>?_;rw[jd];simp only[dc];refine⟨de _,?_⟩;clear a;refine aO Z λc a=>?_;rw[stepG_seq];simp only[dc];refine⟨de _,?_⟩;clear a;refine aO Z λc a=>?_;rw[iH];simp only[dc,aR,bQ,dP,Nat.reduceAdd,aE,aM,List.range.loop];refine⟨de _,?_⟩;clear a;exact Goes.stop λc a=>⟨P8 o j,Rz o l B j⟩
theorem Z7{d:Pg}{b:Fm'}{k:List bm}{f:bF}{e:mR}{c:jx}{g:Array aU}{m:Array Ti}(n:P[a]?=J v)(o:bR v (fA P R.tmps)=true)(p:b.kind≠.early)(h:v.op=.call { callee:=.value (.func f),args:=g,argTypes:=m })(i:d.funcs[f]?=J e)(j:(e.name== "runtime.NumGoroutine")=false)(q:e.body=J c){vs:Array Vu}(s:g.map R.eval=vs)(u:Wd) :
  bH d r (G (b.at R (.inRegion P (a::B)::k)) F) u=.go (G (ay d f vs .normal) (b.at R (.inRegion P (a::B)::k)::F)) u #[]:=by
 subst s;have l:e.body.isNone=false:=by rw[q];rfl
 rw[stepG_enter n o p (run_call_body h i j l)];have:mM d b.fn R v u=#[]:=by unfold mM;rw[events_call_body h i j l];exact seen_none d _
 rw[this]
def CQ:jx:=(Tryz.f128.body).getD .skip
def ua(o:nY):Fm' :=
 match Tryz.f128.body with
 | some (.seq _ (.seq _ (.seq _ (.seq (.region _ ops _) c))))=>(aB 128).at ⟨#[pO o,Ud,Bo false,pO o,pO o,Po (J (O o.bo 11 Q)),Bo false,pO o,pO o,Po (J (O o.bo 1 Q)),.chan (J o.to),.agg #[],pO o,Ud],[]⟩ [.inRegion ops [1,2],.code c]
 | _=>dW
def vZ(o:nY)(a:List Fm'):Gr :=
 match Tryz.f128.body with
 | some (.seq _ (.seq _ (.seq (.region _ ops _) c)))=>G ((aB 128).at ⟨#[pO o,Ud,Bo false,pO o,pO o,Po (J (O o.bo 11 Q)),Bo false,pO o,pO o,Po (J (O o.bo 1 Q)),.chan (J o.to),.agg #[],Ud,Ud],[]⟩ [.inRegion ops [5],.code c]) a
 | _=>dW
theorem Yc{o:nY}:bH V false (vZ o F) f=.comm (vZ o F) #[scase o.to (.agg #[]) (.tuple #[])] true .send f #[]:=by
 unfold vZ;simp only[jB];rw[stepG_comm (cases:=#[scase o.to (.agg #[]) (.tuple #[])]) (blocking:=true) (shape:=.send) (w':=f) Z Z Zb (by simp[go_sem,Ex,dp,scase]),listed_none (by simp[go_sem,Ex,dp])]
theorem Sz(o:nY)(l:List nY)(f:o∈l)(B:Nat)(g:∀o∈l,o.bo<B)(c:List Fm'):Sits V false (KO l) (SP l no) B (Q6 o (ua o::c)) 26 (bI (vZ o c) Ud):=by
 have h:=ME o l f B g (ua o::c);refine .inl ⟨25,dW,Z,?_⟩;unfold vZ ua at *;simp only[jB,mX]at *;rw[bK];refine aO Z λb a=>?_;rw[jd];simp only[dc];refine⟨de _,?_⟩;clear a;refine aO Z λb a=>?_;rw[stepG_seq];simp only[dc];refine⟨de _,?_⟩;clear a;refine aO Z λb a=>?_;rw[iH];simp only[dc,aR,bQ,dP,Nat.reduceAdd,aE,aM,List.range.loop];refine⟨de _,?_⟩;clear a;refine aO Z λb a=>cA Z Z Zb λK d=>?_;go_simp;refine d _ _ ⟨⟨Z,λe i=>by(have j:=aZ i;simp[go_sem]at j)⟩,?_⟩;clear d K a;refine aO Z λb a=>?_;rw[Z7 Z Z Zb Z jA Z Z (vs:=#[pO o]) (by simp[dp])];simp only[dc];exact⟨de _,h b⟩
abbrev BM:dQ:=.tuple #[Y U 0,Bo true,.agg #[],.agg #[]]
abbrev BU:dQ:=.tuple #[Y U 1,Bo false,.agg #[],.agg #[]]
theorem c5E(o:nY)(a:List Fm'):ik (Q6 o a).cases (Q6 o a).shape ((0:Nat):Int) (.agg #[]) true=BM:=by
 simp[Q6,ik,mK,jU,goInt]
theorem c8l(o:nY)(a:List Fm'):ik (Q6 o a).cases (Q6 o a).shape ((1:Nat):Int) (.agg #[]) false=BU:=by
 simp[Q6,ik,mK,jU,goInt]
theorem NJ{o:nY}(h:o.tu≠o.en):(Q6 o F).Wf:=by
 refine⟨λd h=>?_,λk m c z e a b=>?_⟩
 .simp only[Q6,dZ,ae,ai,or_false]at h;rcases h with rfl|rfl
  .exact⟨_,_,Z⟩
  .exact⟨_,_,Z⟩
 .rcases k with _|_|k<;>rcases m with _|_|m<;>simp[Q6,mK]at a b ⊢<;>omega
theorem X7{o:nY}(h:(Q6 o F).has a):a=o.tu\/a=o.en:=by
 let⟨k,z,b⟩:=h;rcases k with _|_|k<;>simp[Q6,mK]at b<;>omega
theorem Ni{o:nY}(g:o∈H)(h:Clear f)(k:KO H f)(l:f.cell? (O o.bo 11 Q)=J p){i:Fm'}{Stop:Gr->Wd->Prop}(m:∀d,l6 V false (DL true (fb H)) Stop (G (i.finish (Bo true)) F) ((f.setCell (O o.bo 11 Q) (Bo true)).at d))(n:Nat) :
  l6 V false (DL true (fb H)) Stop (bI (P8 o (i::F)) BM) (f.at n):=by
 have q:=Z1 k g;have r:=q.2.2.2 11;unfold P8 BX;simp only[jC,mX,pO];rw[bK];go_simp;(iterate 3(refine mo Z Z λd K a=>?_;go_simp;refine a _ _ ⟨Z,?_⟩;clear a K));refine i8 (λd=>?_) _;refine mc Z (λu=>stepG_block) λd=>mc Z (λu=>fU (t:=true) Z) λd=>?_;simp only[if_true,if_false,aJ,↓reduceIte];refine B6 (λd=>?_) _;refine m9 (λd=>?_) _;simp only[rz,ix,Nat.reduceAdd];(iterate 3(refine mo Z Z λd K a=>?_;go_simp;refine a _ _ ⟨Z,?_⟩;clear a K));refine C5 Z Z Zb (λd K a=>?_) _;have c:(f.at d).cell? (O o.bo 11 Q)=J p:=l;have j:(f.at d).frozen? (O o.bo 11 Q)=false:=r;go_simp;refine a _ _ ⟨yf (by rw[Q7 g];show 3<=11;omega) (aL _ _ c) λe s=>?_,?_⟩
 .have b:=aZ s;simp only[go_sem]at b;simp[go_sem]at b;rw[jy _ _ _ _ _ _ Z,c]at b;rw[j]at b;simp only[aJ,if_false,gI,dS,dZ,ae,ai,or_false]at b;exact b
 clear a K c j;rw[show(f.at d).setCell (O o.bo 11 Q) (Bo true)=(f.setCell (O o.bo 11 Q) (Bo true)).at d from Z];have h:Clear (f.setCell (O o.bo 11 Q) (Bo true)):=(V6 h.lk (bh _)).1.oc;refine i8 (λd=>?_) _;refine B6 (λd=>?_) _;refine m9 (λd=>?_) _;simp only[rz,ix,Nat.reduceAdd];refine mo Z Z λd K a=>?_;go_simp;refine a _ _ ⟨Z,?_⟩;clear a K;refine i8 (λd=>?_) _;refine uL (λd=>?_) _;exact X6 (v:=Bo true) Z Z jA (kT (t:=2) Z _) (w:=f.setCell (O o.bo 11 Q) (Bo true)) m _
theorem Pa{o:nY}(g:o∈H)(h:Clear f){b:Fm'}{Stop:Gr->Wd->Prop}(c:∀d,l6 V false (DL true (fb H)) Stop (G (b.finish (Bo false)) F) (f.at d))(e:Nat) :
  l6 V false (DL true (fb H)) Stop (bI (P8 o (b::F)) BU) (f.at e):=by
 unfold P8 BX;simp only[jC,mX,pO];rw[bK];go_simp;(iterate 3(refine mo Z Z λd K a=>?_;go_simp;refine a _ _ ⟨Z,?_⟩;clear a K));refine i8 (λd=>?_) _;refine mc Z (λu=>stepG_block) λd=>mc Z (λu=>fU (t:=false) Z) λd=>?_;simp only[if_true,if_false,aJ,↓reduceIte];refine mc Z (λu=>fU (t:=true) Z) λd=>?_;simp only[if_true,if_false,aJ,↓reduceIte];refine B6 (λd=>?_) _;refine m9 (λd=>?_) _;simp only[rz,ix,Nat.reduceAdd];refine mo Z Z λd K a=>?_;go_simp;refine a _ _ ⟨Z,?_⟩;clear a K;refine i8 (λd=>?_) _;refine uL (λd=>?_) _;exact X6 (v:=Bo false) Z Z jA (kT (t:=2) Z _) c _
theorem OP(o:nY):ay V 128 #[pO o] .normal=(aB 128).at ⟨#[pO o,Ud,Ud,Ud,Ud,Ud,Ud,Ud,Ud,Ud,Ud,Ud,Ud,Ud],[]⟩ [.code CQ]:=by
 rw[enter_at (c:=CQ) _ jg Z];rfl
variable{o:nY}{l:List nY}{w:Wd}{b:Fm'}{a:List Fm'}{Stop:Gr->Wd->Prop}
theorem SI(h:Clear w)(e:w.cell? (O o.bo 11 Q)=J (Bo true))(f:∀d,l6 V false (DL true (fb l)) Stop (G (b.finish (Bo true)) a) (w.at d))(g:Nat) :
  l6 V false (DL true (fb l)) Stop (G (ay V 128 #[pO o] .normal) (b::a)) (w.at g):=by
 rw[OP];simp only[CQ,jB,cW,pO];refine B6 (λd=>?_) _;refine m9 (λd=>?_) _;simp only[rz,ix,Nat.reduceAdd];refine mo Z Z λd K c=>?_;go_simp;refine c _ _ ⟨Z,?_⟩;clear c K;refine i8 (λd=>?_) _;refine B6 (λd=>?_) _;refine B6 (λd=>?_) _;refine m9 (λd=>?_) _;simp only[rz,ix,Nat.reduceAdd];(iterate 3(refine mo Z Z λd K c=>?_;go_simp;refine c _ _ ⟨Z,?_⟩;clear c K));refine mo Z Z λd K c=>?_;have i:(w.at d).cell? (O o.bo 11 Q)=J (Bo true):=e;go_simp;refine c _ _ ⟨Z,?_⟩;clear c K;refine i8 (λd=>?_) _;refine mc Z (λu=>fU (t:=true) Z) λd=>?_;simp only[if_true,if_false,aJ,↓reduceIte];refine B6 (λd=>?_) _;refine m9 (λd=>?_) _;simp only[rz,ix,Nat.reduceAdd];refine mo Z Z λd K c=>?_;go_simp;refine c _ _ ⟨Z,?_⟩;clear c K;refine i8 (λd=>?_) _;refine uL (λd=>?_) _;exact X6 (v:=Bo true) Z Z jg (kT (t:=2) Z _) f _
theorem c1n(f:o∈l)(k:Clear w)(g:KO l w)(h:w.cell? (O o.bo 11 Q)=J (Bo false))(e:∀d,l6 V false (DL true (fb l)) Stop (vZ o (b::a)) (w.at d))(i:Nat) :
  l6 V false (DL true (fb l)) Stop (G (ay V 128 #[pO o] .normal) (b::a)) (w.at i):=by
 have j:=(Z1 g f).2.1;rw[OP];unfold vZ at e;simp only[CQ,jB,cW,pO]at *;refine B6 (λd=>?_) _;refine m9 (λd=>?_) _;simp only[rz,ix,Nat.reduceAdd];refine mo Z Z λd K c=>?_;go_simp;refine c _ _ ⟨Z,?_⟩;clear c K;refine i8 (λd=>?_) _;refine B6 (λd=>?_) _;refine B6 (λd=>?_) _;refine m9 (λd=>?_) _;simp only[rz,ix,Nat.reduceAdd];(iterate 3(refine mo Z Z λd K c=>?_;go_simp;refine c _ _ ⟨Z,?_⟩;clear c K));refine mo Z Z λd K c=>?_;have m:(w.at d).cell? (O o.bo 11 Q)=J (Bo false):=h;go_simp;refine c _ _ ⟨Z,?_⟩;clear c K;refine i8 (λd=>?_) _;refine mc Z (λu=>fU (t:=false) Z) λd=>?_;simp only[if_true,if_false,aJ,↓reduceIte];refine DO (λd=>?_) _;refine B6 (λd=>?_) _;refine m9 (λd=>?_) _;simp only[rz,ix,Nat.reduceAdd];(iterate 3(refine mo Z Z λd K c=>?_;go_simp;refine c _ _ ⟨Z,?_⟩;clear c K));refine mo Z Z λd K c=>?_;have n:(w.at d).cell? (O o.bo 1 Q)=J (.chan (J o.to)):=j;go_simp;refine c _ _ ⟨Z,?_⟩;clear c K;refine mo Z Z λd K c=>?_;go_simp;refine c _ _ ⟨Z,?_⟩;clear c K;exact e _
theorem MG(g:Clear w)(t:Bool)(e:∀d,l6 V false (DL true (fb l)) Stop (G (b.finish (Bo t)) a) (w.at d))(f:Nat) :
  l6 V false (DL true (fb l)) Stop (G ((ua o).finish (Bo t)) (b::a)) (w.at f):=by
 unfold ua;simp only[jB,pO];rw[bK];go_simp;refine mo Z Z λd K c=>?_;go_simp;refine c _ _ ⟨Z,?_⟩;clear c K;refine i8 (λd=>?_) _;refine uL (λd=>?_) _;exact X6 (v:=Bo t) Z Z jg (kT (t:=2) Z _) e _
end
section
open Go.RowKit
variable{a b c d e:Nat}{f g h:Wd}{i j:Array Vu}{k l m n o:Int}{p q:Vu}{r s t u:Bool}{v w:aN}{x y:Ti}{z A:aU}{B C:List Nat}{E:Gr->Wd->Prop}{F:List Fm'}{H:List nY}{I:Obj}{K L:Type}{N:List Vu}{P:Array aN}{R:db}{S:Nat->Nat}
def qY(P:Pg)(d:Nat)(t:Ti)(x y:Vu):Prop:=∃r,(∀w,(dq d t x y).run P w=.ok r w)/\(x=y->r=true)
def Pt(P:Pg)(t:Ti)(b:Array Vu)(o:Nat)(a:Vu):Prop:=∀w,(part t b o).run P w=.ok a w
variable{P:Pg}{d:Nat}{t:Ti}
theorem Pt.same(h:Pt P t i a p)(b:Pt P t i a q):p=q:=by
 have:=(h dW).symm.trans (b dW);injection this
theorem tS(h:∀w,(isAgg t).run P w=.ok true w)(c:∀w,(sizeOf t).run P w=.ok b w):Pt P t i a (.agg (i.extract a (a+b))):=λw=>by
 simp[part,h,c]
theorem sQ(h:∀w,(isAgg t).run P w=.ok false w)(b:i[a]?=J p):Pt P t i a p:=λw=>by
 simp[part,h,b]
theorem LR{k:IntKind}(h:P.underlying t=some (.int .i64))(a b:Int):qY P (d+1) t (.int .i64 a) (.int .i64 b) :=
 ⟨a==b,λw=>run_equalIn_int w d t .i64 .i64 a b h,λe=>by grind⟩
theorem TA(h:P.underlying t=J .bool)(a b:Bool):qY P (d+1) t (Bo a) (Bo b) :=
 ⟨a==b,λw=>run_equalIn_bool' w d t a b h,λe=>by grind⟩
theorem Jb:∀(c:List Field),(∀f∈c,f.name≠ "_" /\ ∃a b,Pt P f.type i f.offset a/\Pt P f.type j f.offset b/\qY P d f.type a b) ->
  ∃r,(∀w,(nm d i j c).run P w=.ok r w)/\(i=j->r=true)
 | [],_=>⟨true,λw=>by simp[nm],λ_=>rfl⟩
 | f::c,h=>by
  let⟨r,m,n⟩:=Jb c λg o=>h g (by simp[o]);let⟨p,a,b,k,l,q,s,u⟩:=h f Zc;refine⟨q&&r,λw=>?_,λe=>?_⟩
  .rw[nm,nT p];cases q<;>simp[k w,l w,s w,m w]
  .rw[n e,u (by subst e;exact k.same l)];rfl
theorem Z5(c:P.underlying t=J (.struct (P.fieldsOf t)))(g:P.stoodInHeld t=false)(h:∀f∈(P.fieldsOf t).toList,f.name≠ "_" /\ ∃a b,Pt P f.type i f.offset a/\Pt P f.type j f.offset b/\qY P d f.type a b):qY P (d+1) t (.agg i) (.agg j):=by
 let⟨r,k,l⟩:=Jb (P:=P) (d:=d) _ h;exact⟨r,λw=>(run_equalIn_agg w d t i j c g).trans (k w),λe=>l (by injection e)⟩
theorem Hi(u:P.underlying t=J (.array a x))(v:∀w,(sizeOf x).run P w=.ok b w)(h:∀c,c<a->∃e f,Pt P x i (c*b) e/\Pt P x j (c*b) f/\qY P d x e f):qY P (d+1) t (.agg i) (.agg j):=by
 have H:∀c,∃q:Bool,c<a->∃e f,Pt P x i (c*b) e/\Pt P x j (c*b) f/\(∀w,(dq d x e f).run P w=.ok q w)/\(e=f->q=true):=λc=>by
  by_cases g:c<a
  .let⟨e,f,k,m,q,n,o⟩:=h c g;exact⟨q,λ_=>⟨e,f,k,m,n,o⟩⟩
  .exact⟨true,λh=>absurd h g⟩
 let⟨q,n⟩:=Classical.axiomOfChoice H;refine⟨(ie 0 a 1).all q,λw=>?_,λp=>?_⟩
 .rw[dq];simp only[bJ,eT u,aQ,v,iX,kO,iQ,Nat.add_sub_cancel,Nat.div_one];have r:∀c∈ie 0 a 1,c<a:=λc g=>by simpa using(List.mem_range'_1.1 g).2
  generalize ie 0 a 1=l at r ⊢
  induction l with
  | nil=>simp
  | cons c l y =>
   let⟨e,f,k,m,s,o⟩:=n c (r c Zc);simp only[List.forIn_cons,bJ,k w,m w,s w,aQ,List.all_cons];cases q c
   all_goals simp_all
 .rw[aV];intro c g;let⟨e,f,k,m,s,o⟩:=n c (by simpa using(List.mem_range'_1.1 g).2);injection p with p
  subst p;exact o (k.same m)
def KE(t:Ti)(a b:List Vu)(r:Bool):Prop:=∀w,(binOp .neq t (.agg a.toArray) (.agg b.toArray)).run V w=.ok (Bo (!r)) w
theorem c9A{t:Ti}{a b:List Vu}(h:qY V 10000 t (.agg a.toArray) (.agg b.toArray)):∃r,KE t a b r/\(a=b->r=true):=by
 let⟨r,c,f⟩:=h;exact⟨r,λw=>by rw[run_neq_struct,c w];rfl,λe=>f (by rw[e])⟩
def W6(a:Array Vu)(o:Nat):Prop:=∃v,a[o]?=J (Y U v)
def xx(a:Array Vu)(o:Nat):Prop:=∃v,a[o]?=J (Bo v)
theorem W6.cut{a:Nat}(h:W6 i (a+c))(f:a+c<b):W6 (i.extract a b) c:=by
 let⟨v,e⟩:=h;have:=(Zj e).1;exact⟨v,by rw[kW,nT Za];exact e⟩
theorem xx.cut{a:Nat}(h:xx i (a+c))(f:a+c<b):xx (i.extract a b) c:=by
 let⟨v,e⟩:=h;have:=(Zj e).1;exact⟨v,by rw[kW,nT Za];exact e⟩
theorem X0{d:Nat}{xs ys:Array Value}{o:Nat}(hx:W6 xs o)(hy:W6 ys o):∃a b,Pt Tryz.prog 3 xs o a/\Pt Tryz.prog 3 ys o b/\qY Tryz.prog (d+1) 3 a b:=by
 obtain⟨v,hv⟩:=hx;obtain⟨u,hu⟩:=hy;exact⟨_,_,sQ Tryz.isAgg3 hv,sQ Tryz.isAgg3 hu,LR (k:=.i64) Tryz.underlying3 v u⟩
theorem I1{d:Nat}(e:xx i a)(f:xx j a):∃c b,Pt V 4 i a c/\Pt V 4 j a b/\qY V (d+1) 4 c b:=by
 let⟨v,g⟩:=e;let⟨u,h⟩:=f;exact⟨_,_,sQ Tryz.isAgg4 g,sQ Tryz.isAgg4 h,TA Tryz.underlying4 v u⟩
theorem Xd{d:Nat}(c:∀a,a<5->W6 i a)(g:∀a,a<5->W6 j a):qY V (d+2) 87 (.agg i) (.agg j):=by
 refine Z5 Zd Zd ?_;have e:(V.fieldsOf 87).toList.map (λf=>(f.name != "_",f.type,f.offset))=[(true,3,0),(true,3,1),(true,3,2),(true,3,3),(true,3,4)]:=by kernel_rfl
 intro f h;have b:=dE (f:=λf:Field=>(f.name != "_",f.type,f.offset)) h;rw[e]at b;generalize k:(f.name != "_")=n at b;generalize f.type=l at *;generalize f.offset=m at *;simp at b;rcases b with⟨rfl,rfl,rfl⟩|⟨rfl,rfl,rfl⟩|⟨rfl,rfl,rfl⟩|⟨rfl,rfl,rfl⟩|⟨rfl,rfl,rfl⟩
 all_goals exact⟨by simpa using k,X0 (c _ Za) (g _ Za)⟩
theorem Vi{d:Nat}(b:∀a,a<4->W6 i a)(c:∀a,a<4->W6 j a):qY V (d+2) 69 (.agg i) (.agg j) :=
 Hi Tryz.underlying69 Tryz.sizeOf3 λe f=>X0 (b _ Za) (c _ Za)
theorem WN{d:Nat}(c:∀a,a<6->W6 i a)(g:∀a,a<6->W6 j a):qY V (d+3) 71 (.agg i) (.agg j):=by
 refine Z5 Zd Zd ?_;have e:(V.fieldsOf 71).toList.map (λf=>(f.name != "_",f.type,f.offset))=[(true,3,0),(true,3,1),(true,69,2)]:=by kernel_rfl
 intro f k;have b:=dE (f:=λf:Field=>(f.name != "_",f.type,f.offset)) k;rw[e]at b;generalize h:(f.name != "_")=n at b;generalize f.type=m at *;generalize f.offset=o at *;simp at b;rcases b with⟨rfl,rfl,rfl⟩|⟨rfl,rfl,rfl⟩|⟨rfl,rfl,rfl⟩
 .exact⟨by simpa using h,X0 (c _ Za) (g _ Za)⟩
 .exact⟨by simpa using h,X0 (c _ Za) (g _ Za)⟩
 .exact⟨by simpa using h,_,_,tS Tryz.isAgg69 Tryz.sizeOf69,tS Tryz.isAgg69 Tryz.sizeOf69,Vi (λa l=>(c (2+a) Za).cut Za) λa l=>(g (2+a) Za).cut Za⟩
def ri(n:Nat)(a:Array Vu)(o:Nat):Prop:=∀i,i<n->W6 a (o+i*2)/\xx a (o+i*2+1)
theorem ri.cut(h:ri a i b)(g:b+a*2<=c):ri a (i.extract b c) 0:=λe f =>
 ⟨(show W6 i (b+(0+e*2)) by rw[aE];exact(h e f).1).cut Za,(show xx i (b+(0+e*2+1)) by rw[aE,←aS];exact(h e f).2).cut Za⟩
theorem ri.one(h:ri a i b)(e:c<a):ri 1 i (b+c*2):=λj f=>by
 obtain rfl:j=0:=by omega
 simpa using h c e
theorem b8g{d:Nat}(b:ri 1 i 0)(c:ri 1 j 0):qY V (d+2) 76 (.agg i) (.agg j):=by
 refine Z5 Zd Zd ?_;have e:(V.fieldsOf 76).toList.map (λf=>(f.name != "_",f.type,f.offset))=[(true,3,0),(true,4,1)]:=by kernel_rfl
 intro f h;have a:=dE (f:=λf:Field=>(f.name != "_",f.type,f.offset)) h;rw[e]at a;generalize g:(f.name != "_")=n at a;generalize f.type=k at *;generalize f.offset=l at *;simp at a;rcases a with⟨rfl,rfl,rfl⟩|⟨rfl,rfl,rfl⟩
 .exact⟨by simpa using g,X0 (b 0 Za).1 (c 0 Za).1⟩
 .exact⟨by simpa using g,I1 (b 0 Za).2 (c 0 Za).2⟩
theorem Qf{d:Nat}(b:ri 1 i 0)(c:ri 1 j 0):qY V (d+2) 79 (.agg i) (.agg j):=by
 refine Z5 Zd Zd ?_;have e:(V.fieldsOf 79).toList.map (λf=>(f.name != "_",f.type,f.offset))=[(true,3,0),(true,4,1)]:=by kernel_rfl
 intro f h;have a:=dE (f:=λf:Field=>(f.name != "_",f.type,f.offset)) h;rw[e]at a;generalize g:(f.name != "_")=n at a;generalize f.type=k at *;generalize f.offset=l at *;simp at a;rcases a with⟨rfl,rfl,rfl⟩|⟨rfl,rfl,rfl⟩
 .exact⟨by simpa using g,X0 (b 0 Za).1 (c 0 Za).1⟩
 .exact⟨by simpa using g,I1 (b 0 Za).2 (c 0 Za).2⟩
theorem b8j{d:Nat}(c:ri 4 i 0)(e:ri 4 j 0):qY V (d+3) 77 (.agg i) (.agg j) :=
 Hi Tryz.underlying77 kM λa b=>⟨_,_,tS Tryz.isAgg76 kM,tS Tryz.isAgg76 kM,b8g ((show ri 1 i (a*2) by simpa using c.one b).cut Za) ((show ri 1 j (a*2) by simpa using e.one b).cut Za)⟩
theorem QL{d:Nat}(c:ri 4 i 0)(e:ri 4 j 0):qY V (d+3) 80 (.agg i) (.agg j) :=
 Hi Tryz.underlying80 kL λa b=>⟨_,_,tS Tryz.isAgg79 kL,tS Tryz.isAgg79 kL,Qf ((show ri 1 i (a*2) by simpa using c.one b).cut Za) ((show ri 1 j (a*2) by simpa using e.one b).cut Za)⟩
structure sC (xs:Array Vu):Prop where
 kind:W6 xs 0
 parent:W6 xs 1
 table:W6 xs 2
 wK:ri 4 xs 3
 files:ri 4 xs 11
 code:W6 xs 19
theorem Zp{d:Nat}(a:sC i)(b:sC j):qY V (d+4) 82 (.agg i) (.agg j):=by
 refine Z5 Zd Zd ?_;have e:(V.fieldsOf 82).toList.map (λf=>(f.name != "_",f.type,f.offset))=[(true,3,0),(true,3,1),(true,3,2),(true,77,3),(true,80,11),(true,3,19)]:=by kernel_rfl
 intro f h;have g:=dE (f:=λf:Field=>(f.name != "_",f.type,f.offset)) h;rw[e]at g;generalize c:(f.name != "_")=n at g;generalize f.type=k at *;generalize f.offset=l at *;simp at g;rcases g with⟨rfl,rfl,rfl⟩|⟨rfl,rfl,rfl⟩|⟨rfl,rfl,rfl⟩|⟨rfl,rfl,rfl⟩|⟨rfl,rfl,rfl⟩|⟨rfl,rfl,rfl⟩
 .exact⟨by simpa using c,X0 a.kind b.kind⟩
 .exact⟨by simpa using c,X0 a.parent b.parent⟩
 .exact⟨by simpa using c,X0 a.table b.table⟩
 .exact⟨by simpa using c,_,_,tS Tryz.isAgg77 Tryz.sizeOf77,tS Tryz.isAgg77 Tryz.sizeOf77,b8j (a.wK.cut Za) (b.wK.cut Za)⟩
 .exact⟨by simpa using c,_,_,tS Tryz.isAgg80 Tryz.sizeOf80,tS Tryz.isAgg80 Tryz.sizeOf80,QL (a.files.cut Za) (b.files.cut Za)⟩
 .exact⟨by simpa using c,X0 a.code b.code⟩
attribute [local go_sem ↓] Go.wp_at_zero Go.wp_at_succ
def cut(f:Nat->Vu)(o m:Nat):List dQ:=(aM m).map λj=>f (o+j)
theorem wW(f:Nat->Vu)(o m j:Nat)(h:j<m):(cut f o m).toArray[j]?=J (f (o+j)):=by simp[cut,h]
theorem Yq(h:bG a f g):bG a f g.drew:=⟨h.os,h.tape,h.output,h.size,h.block⟩
theorem xS(f:Nat->Vu)(o m:Nat):(cut f o m).length=m:=by simp[cut]
theorem FL(c:bG a f g)(k:bG b g h)(e:a<=b):bG a f h :=
 c.trans ⟨k.os,k.tape,k.output,k.size,λi j=>k.block i (Zg j e)⟩
theorem b6U(a:bG b f g)(i:c<b)(h:f.cell? (O c e Q)=J p):g.cell? (O c e Q)=J p :=
 (Zf (w:=f) (a:=(O c e Q)) (a.block c i)).trans h
structure Kept (K K':aa) (p:Nat):Prop where
 kind:K'.S p 0=K.S p 0
 table:K'.S p 2=K.S p 2
 AB:∀j,3<=j->j<19->A6 K' (p*20+j)=A6 K (p*20+j)
 words:∀j,j<4->K.S p (3+j*2)<0\/∃n:Nat,K.S p (3+j*2)=n/\n<K.nF/\∀i,i<6->K'.F n i=K.F n i
theorem KN{P:Pg}{e:Array aN}{g:List aN}{Q:Exit->db->Wd->Prop}(j:v.guard=G')(c:Ti)(x y:aU)(l:v.op=.store c x y)(b o:Nat)(a:Array Vu)(m:R.eval x=Po (J (O b o G')))(n:R.eval y=.agg a)(i:f.there b o a.size)(p:(P.info? c).map (·.size)=J a.size)(q:a.all (·.oneCell')=true)(h:∀W,W.rangeAt b o a.toList->(∀k,k≠b->W.heap[k]?=f.heap[k]?)->W.heap.size=f.heap.size->(∀B R,bG B R f->B<=b->bG B R W)->gN P e Q g (R.put v.dst Ud) W):gN P e Q (v::g) R f :=
 eh j c x y l b o a m n i p q (h _ (fC f b o _ (by rw[Array.length_toList];exact i)) (λk r=>I5 r _ _ _) (l9 _ _ _) λB R s u=>p9 u _ _ s)
theorem L9(K:aa)(p j:Nat)(a:j<20)(h:¬(4<=j/\j<=18/\j%2=0)):A6 K (p*20+j)=Y U (K.S p j):=by
 unfold A6;rw[nR Za,show(p*20+j) / 20=p by omega,show(p*20+j)%20=j by omega]
theorem HJ{w:Wd}{b:Nat}{f:Nat->Vu}{o m:Nat}(h:w.rangeAt b 0 (cut f o m)){j:Nat}(a:j<m):w.cell? (O b j Q)=J (f (o+j)):=by
 have e:=h j (f (o+j)) (by simp[cut,a]);rw[aE]at e;exact e
theorem d0i(w:Wd)(A B:Obj)(c:Array Vu)(t:Ti)(m:Nat)(h:c.size=m):(((w.alloc A).alloc B).alloc (.cells c t)).there (w.heap.size+2) 0 m:=by
 have:=D6 (K9 ((w.alloc A).alloc B) c t) (o:=0) (m:=m) Za;simpa using this
theorem LI{t:Ti}(h:i.size=a):(f.alloc (.cells i t)).there f.heap.size 0 a :=
 D6 (K9 f i t) (o:=0) (m:=a) Za
end
section
open Go.RowKit
variable{a b c d e:Nat}{f g h:Wd}{i j:Array Vu}{k l m n o:Int}{p q:Vu}{r s t u:Bool}{v w:aN}{x y:Ti}{z A:aU}{B C:List Nat}{E:Gr->Wd->Prop}{F:List Fm'}{H:List nY}{I:Obj}{K L:Type}{N:List Vu}{P:Array aN}{R:db}{S:Nat->Nat}
def BA:jx :=
 match Tryz.f117.body with
 | some (.seq _ (.seq _ c))=>c
 | _=>.skip
def xo(d e:Nat)(f a b c:Int)(g h i:Vu):Array Vu :=
 #[Po (J (O d 0 Q)),Y U f,.agg #[Y U a,Y U b,Y U c],Ud,Ud,Po (J (O e 0 Q)),Y U 0,Y U 0,Ud,Ud,Po (J (O d 0 Q)),Po (J (O d 0 Q)),Po (J (O d 12 Q)),Bo false,Bo false,Po (J (O d 0 Q)),g,h,i,
  Ud,Ud,Ud,Ud,Ud,Ud,Ud,Ud,Ud,Ud,Ud,Ud,Ud,Ud,Ud,Ud,Ud,Ud,Ud,Ud,Ud,Ud,Ud,Ud,Ud,Ud,Ud]
theorem WL{bo bx:Nat}{K:aa}(R:js f a b c d K)(T:qJ f)(E:Good K)(n o i l m:Int){x11 x12:Vu}(r:f.cell? (O bo 3 Q)=J (Po (J (O a 0 Q))))(F:f.cell? (O bo 4 Q)=J (Y U n))(b':f.cell? (O bo 11 Q)=J x11)(H:f.cell? (O bo 12 Q)=J x12)(c':f.frozen? (O bo 11 Q)=false)(I:f.frozen? (O bo 12 Q)=false)(b0:f.cell? (O bx 0 Q)=J (Y U i))(L:f.cell? (O bx 1 Q)=J (Y U l))(N:f.cell? (O bx 2 Q)=J (Y U m))(y:bx≠bo)(h:bo≠a/\bo≠b/\bo≠c/\bo≠d/\bo≠0)(z:bx≠b/\bx≠c/\bx≠d) :
  BA.wp V (λe A B=>e=.ret/\A.defers=[]/\A.tmps.getD 6 Ud=Y U (d8 K n o i l m).n/\A.tmps.getD 7 Ud=Y U (d8 K n o i l m).e/\js B a b c d (d8 K n o i l m).K/\f.heap.size<=B.heap.size /\
   (∀k,k<f.heap.size->k≠b->k≠c->k≠d->B.heap[k]?=((f.setCell (O bo 11 Q) (Bo false)).setCell (O bo 12 Q) (Bo ((d8 K n o i l m).e==3))).heap[k]?)) ⟨xo bo bx o i l m (Bo true) (Bo false) (Bo false),[]⟩ f:=by
 have C:∀x:Vu,(f.setCell (O bo 11 Q) x).heap.size=f.heap.size:=λx=>by simp[cQ]
 have v:∀(u:Wd) (j:Nat) (x:Vu) (k:Nat),k≠bo->(u.setCell (O bo j Q) x).heap[k]?=u.heap[k]?:=λu j x k q=>by rw[heap_setCell,nR λe=>q e.symm]
 generalize P:d8 K n o i l m=g;have HO:ar (d8 K n o i l m=g):=P;have D:ar (js (f.setCell (O bo 11 Q) (Bo false)) a b c d K/\qJ (f.setCell (O bo 11 Q) (Bo false))/\Good K):=⟨R.same (fJ (C _).symm) λk _ q=>v _ _ _ _ (by rcases q with rfl|rfl|rfl|rfl<;>first|exact aA h.1|exact aA h.2.1|exact aA h.2.2.1|exact aA h.2.2.2.1),T.same (v _ _ _ _ (aA h.2.2.2.2)),E⟩;have S:(f.setCell (O bo 11 Q) (Bo false)).cell? (O bo 3 Q)=J (Po (J (O a 0 Q))):=(cI f (O bo 11 Q) (O bo 3 Q) (Bo false) Zc).trans r;have c4:(f.setCell (O bo 11 Q) (Bo false)).cell? (O bo 4 Q)=J (Y U n):=(cI f (O bo 11 Q) (O bo 4 Q) (Bo false) Zc).trans F;have d':(f.setCell (O bo 11 Q) (Bo false)).cell? (O bo 12 Q)=J x12:=(cI f (O bo 11 Q) (O bo 12 Q) (Bo false) Zc).trans H;have G:(f.setCell (O bo 11 Q) (Bo false)).cell? (O bx 0 Q)=J (Y U i):=(cI f (O bo 11 Q) (O bx 0 Q) (Bo false) (by simp[aA y])).trans b0;have d1:(f.setCell (O bo 11 Q) (Bo false)).cell? (O bx 1 Q)=J (Y U l):=(cI f (O bo 11 Q) (O bx 1 Q) (Bo false) (by simp[aA y])).trans L;have d2:(f.setCell (O bo 11 Q) (Bo false)).cell? (O bx 2 Q)=J (Y U m):=(cI f (O bo 11 Q) (O bx 2 Q) (Bo false) (by simp[aA y])).trans N;have e':(f.setCell (O bo 11 Q) (Bo false)).frozen? (O bo 12 Q)=false:=by rw[j7];exact I
 have M:ar (bo<f.heap.size/\(∀(u:Wd) (j:Nat) (x:Vu) (k:Nat),k≠bo->(u.setCell (O bo j Q) x).heap[k]?=u.heap[k]?)/\(∀x:Vu,(f.setCell (O bo 11 Q) x).heap.size=f.heap.size)):=⟨aL _ _ r,v,C⟩;clear P R T E v C;unfold BA xo;simp only[gL]
 go_wp2_with fail
 generalize hW:f.setCell (O bo 11 Q) (Bo false)=W at *;clear r F b' H c' I b0 L N
 go_region_held3 (λs=>s.cell? (O bo 3 Q)=J (Po (J (O a 0 Q)))/\s.cell? (O bo 4 Q)=J (Y U n)/\s.cell? (O bx 0 Q)=J (Y U i)/\s.cell? (O bx 1 Q)=J (Y U l)/\s.cell? (O bx 2 Q)=J (Y U m)) ((repeat' apply dg)<;>(first|assumption|(go_keep;done)))
  (first|(go_at_call 16;refine(PF D.out.1.drew (D.out.2.1.same (w':=W.drew) Z) D.out.2.2 n o i l m).mono ?_;rintro e p ⟨rfl,R4,q4⟩;rw[HO.out]at R4 ⊢;have t:p.heap[bo]?=W.heap[bo]?:=q4.block bo (aL W _ S) h.2.1 h.2.2.1 h.2.2.2.1;have w:p.heap[bx]?=W.heap[bx]?:=q4.block bx (aL W _ G) z.1 z.2.1 z.2.2;have f3:=(Zf (w:=W) (a:=(O bo 3 Q)) t).trans S;have f4:=(Zf (w:=W) (a:=(O bo 4 Q)) t).trans c4;have g':=(Zf (w:=W) (a:=(O bo 12 Q)) t).trans d';have g0:=(Zf (w:=W) (a:=(O bx 0 Q)) w).trans G;have g1:=(Zf (w:=W) (a:=(O bx 1 Q)) w).trans d1;have g2:=(Zf (w:=W) (a:=(O bx 2 Q)) w).trans d2;have h':p.frozen? (O bo 12 Q)=false:=(by simp only[bY,t];exact e');have X:ar (js p a b c d g.K/\dy b c d W.drew p):=⟨R4,q4⟩;clear t w R4 q4))
 go_wp2
 have f':W.heap.size=f.heap.size:=by rw[←hW];exact M.out.2.2 _
 have hq:=X.out.2;refine⟨X.out.1.same (by simp[cQ]) λk _ q=>M.out.2.1 p 12 _ k (by rcases q with rfl|rfl|rfl|rfl<;>first|exact aA h.1|exact aA h.2.1|exact aA h.2.2.1|exact aA h.2.2.2.1),Zh (fJ f'.symm) hq.size,λk q h1 h2 r=>?_⟩;have e:p.heap[k]?=W.heap[k]?:=hq.block k (by show k<W.heap.size;omega) h1 h2 r;rw[heap_setCell,heap_setCell,e]
end
section
open Go.Conc
variable{a b c d e:Nat}{f g h:Wd}{i j:Array Vu}{k l m n o:Int}{p q:Vu}{r s t u:Bool}{v w:aN}{x y:Ti}{z A:aU}{B C:List Nat}{E:Gr->Wd->Prop}{F:List Fm'}{H:List nY}{I:Obj}{K L:Type}{N:List Vu}{P:Array aN}{R:db}{S:Nat->Nat}
def S8(C:Ctx)(a b:Int)(c:Vu)(d e:Bool):Array Vu :=
 #[.chan (J C.o.tu),.chan (J C.o.to),.chan (J C.o.en),Po (J (O C.bk 0 Q)),Y U C.slot,Y U C.kd,Y U C.A,Y U C.B,Y U a,Y U b,c,Bo d,Bo e]
abbrev y6:=Nat->Obj
def y6.set(H:y6)(b:Nat)(x:Obj):y6:=λi=>if i=b then x else H i
theorem y6.nv{H:y6}:H.set a I a=I:=by simp[y6.set]
theorem y6.lj{H:y6}(h:b≠a):H.set a I b=H b:=by simp[y6.set,h]
def Has(a:List Nat)(H:y6)(w:Wd):Prop:=∀i∈a,w.heap[i]?=J (H i)
structure Pv (C:Ctx) (pv:List Nat):Prop where
 rc:C.o.bo∈pv
 ap:∀i∈pv,i≠C.bk/\i≠C.bf/\i≠C.bs/\i≠C.bd/\i≠0
structure oS (C:Ctx) (pv:List Nat) (w w':Wd):Prop where
 size:w.heap.size<=w'.heap.size
 block:∀k,k<w.heap.size->k∉pv->k≠C.bf->k≠C.bs->k≠C.bd->w'.heap[k]?=w.heap[k]?
theorem oS.refl(C:Ctx)(a:List Nat)(w:Wd):oS C a w w:=⟨af _,λ_ _ _ _ _ _=>rfl⟩
theorem oS.trans{a:Ctx}(b:oS a B f g)(k:oS a C g h)(m:∀i∈C,i∈B\/f.heap.size<=i):oS a B f h :=
 ⟨Zh b.size k.size,λi c d e j l=>(k.block i (Zg c b.size) (λn=>(m i n).elim d λz=>by omega) e j l).trans (b.block i c d e j l)⟩
structure At (C:Ctx) (l:List nY) (K:aa) (pv:List Nat) (H:y6) (free:Vu) (un go:Bool) (w:Wd):Prop where
 env:Env C l K w
 mem:C.o∈l
 own:Pv C pv
 has:Has pv H w
 row:∃t,H C.o.bo=.cells (S8 C 0 0 free un go) t (0,0)
 top:0≠C.bf/\0≠C.bs/\0≠C.bd
 pX:∀i∈pv,i≠C.o.bo->∀o∈l,o.bo≠i
variable{C:Ctx}{l:List nY}{K:aa}{n:List Nat}{H:y6}{f:Vu}{m p:Bool}{w:Wd}
theorem At.blk(A:At C l K n H f m p w):∃t,w.heap[C.o.bo]?=J (.cells (S8 C 0 0 f m p) t (0,0)):=by
 let⟨t,h⟩:=A.row;exact⟨t,by rw[A.has _ A.own.rc,h]⟩
theorem At.cell(A:At C l K n H f m p w){j:Nat}(h:(S8 C 0 0 f m p)[j]?=J q):w.cell? (O C.o.bo j Q)=J q:=by
 let⟨t,a⟩:=A.blk;simp only[aD,a];simpa using h
theorem At.clear(A:At C l K n H f m p w):Clear w:=A.env.fit.clear
theorem EF(r:Array Vu)(t:Ti)(j:Nat)(x:Vu)(w:Wd)(a:Nat)(h:w.heap[a]?=J (.cells r t (0,0))):(w.setCell (O a j Q) x).heap[a]?=J (.cells (r.setIfInBounds j x) t (0,0)):=by
 rw[heap_setCell,nT Z,h];rfl
theorem At.turn(A:At C l K n H f m p w){h:aa}(B:js g C.bk C.bf C.bs C.bd h)(D:rS h)(hF:Fit (fb l) g)(M:oS C [C.o.bo] w g)(t:g.heap[C.o.bo]?=J (.cells (S8 C 0 0 q r s) x (0,0))) :
  At C l h n (H.set C.o.bo (.cells (S8 C 0 0 q r s) x (0,0))) q r s g:=by
 have d:∀k,k<w.heap.size->k≠C.o.bo->k≠C.bf->k≠C.bs->k≠C.bd->g.heap[k]?=w.heap[k]?:=λk d a=>M.block k d (by simpa using a);have E:∀i∈n,i<w.heap.size:=λi b=>(Zj (A.has i b)).1;refine⟨⟨B,A.env.oT.same (d 0 A.env.oT.lt (aA (A.env.ap _ A.mem).2.2.2.2) A.top.1 A.top.2.1 A.top.2.2),D,hF,λo j=>?_,A.env.ap⟩,A.mem,A.own,λi b=>?_,⟨x,y6.nv⟩,A.top,A.pX⟩
 .by_cases e:o.bo=C.o.bo
  .let⟨c,F,a,u,I,L⟩:=A.env.ko o j;let⟨t2,N⟩:=A.blk;rw[e,N]at a;obtain⟨rfl,rfl,_⟩:=Obj.cells.inj (Ze a);exact⟨S8 C 0 0 q r s,x,by rw[e];exact t,u,I,L⟩
  .let⟨c,F,a,u⟩:=A.env.ko o j;let⟨_,v,y,z,_⟩:=A.env.ap o j
   grind
 .by_cases e:i=C.o.bo
  .subst e;rw[y6.nv];exact t
  .rw[y6.lj e];let⟨_,v,y,z,_⟩:=A.own.ap i b;rw[d i (E i b) e v y z];exact A.has i b
theorem ZC(A:At C l K n H f m false w)(q o b c:Int)(z:a∈n)(X:a≠C.o.bo){L:Nat×Nat}(hH:H a=.cells #[Y U o,Y U b,Y U c] x L)(D:Fm')(E:List Fm'){Stop:Gr->Wd->Prop}(hn:∀(t:Ti) (s:Wd),At C l (d8 K C.slot q o b c).K n (H.set C.o.bo (.cells (S8 C 0 0 f false ((d8 K C.slot q o b c).e==3)) t (0,0))) f false ((d8 K C.slot q o b c).e==3) s->oS C [C.o.bo] w s ->
   ∀d,l6 V false (DL true (fb l)) Stop (G (D.finish (.tuple #[Y U (d8 K C.slot q o b c).n,Y U (d8 K C.slot q o b c).e])) E) (s.at d))(r:Nat) :
  l6 V false (DL true (fb l)) Stop (G ((aB 117).at ⟨xo C.o.bo a q o b c (Bo true) (Bo false) (Bo false),[]⟩ [.code BA]) (D::E)) (w.at r):=by
 let⟨N,P,R⟩:=A.env.zero;let⟨t,F⟩:=A.blk;have I:w.heap[a]?=J (.cells #[Y U o,Y U b,Y U c] x L):=by rw[A.has a z,hH]
 have S:∀v,Lk (fb l) v (w.at r)->∀j,3<=j->v.frozen? (O C.o.bo j Q)=false:=λv i j hj=>by
  have:=i.heap C.o.bo;rw[show(w.at r).heap=w.heap from Z,F,Q7 A.mem]at this;simp only[bY,this,aF,fz];simp;omega
 have e':=λv (i:Lk (fb l) v (w.at r))=>WL (bo:=C.o.bo) (bx:=a) (x11:=Bo m) (x12:=Bo false) (EC i N P R (A.env.rep.same (w':=w.at r) (af _) λ_ _ _=>rfl)) (Lh i (A.env.oT.same (w':=w.at r) Z)) A.env.inv.mL C.slot q o b c
  (by rw[i.cell];exact A.cell Z) (by rw[i.cell];exact A.cell Z) (by rw[i.cell];exact A.cell Z) (by rw[i.cell];exact A.cell Z) (S v i 11 Za) (S v i 12 Za)
  (by rw[i.cell];show(w.at r).cell? _=_;simp[aD,World.at,I]) (by rw[i.cell];show(w.at r).cell? _=_;simp[aD,World.at,I]) (by rw[i.cell];show(w.at r).cell? _=_;simp[aD,World.at,I])
  X (A.env.ap _ A.mem) ⟨(A.own.ap a z).2.1,(A.own.ap a z).2.2.1,(A.own.ap a z).2.2.2.1⟩
 refine(SC xa (sft:=fb l) (b:=aB 117) (w0:=w.at r) Zd Z Z ⟨_,cT⟩ ⟨A.env.fit.soft,A.env.fit.clear⟩ false (Q:=λe u y=>(e=.ret/\u.defers=[]/\u.tmps.getD 6 Ud=Y U (d8 K C.slot q o b c).n/\u.tmps.getD 7 Ud=Y U (d8 K C.slot q o b c).e/\js y C.bk C.bf C.bs C.bd (d8 K C.slot q o b c).K)/\∃v,Lk (fb l) v (w.at r)/\v.heap.size<=y.heap.size /\
   (∀k,k<v.heap.size->k≠C.bf->k≠C.bs->k≠C.bd->y.heap[k]?=((v.setCell (O C.o.bo 11 Q) (Bo false)).setCell (O C.o.bo 12 Q) (Bo ((d8 K C.slot q o b c).e==3))).heap[k]?)) (λe o w h=>.inr h.1.1)
  (λv i=>Code.wp_mono (λe u y h=>⟨⟨h.1,h.2.1,h.2.2.1,h.2.2.2.1,h.2.2.2.2.1⟩,v,i,h.2.2.2.2.2.1,h.2.2.2.2.2.2⟩) (e' v i)) [] (D::E)).keep.then ?_
 rintro g s ⟨⟨e,u,y,⟨⟨rfl,hd,h6,h7,hR⟩,v,i,hsz,hblk⟩,hl',hg⟩,hkp⟩;have f':w.heap.size<=s.heap.size:=by rw[←hl'.size];exact Zh (fJ i.size.symm) hsz
 have k':v.heap.size=w.heap.size:=i.size;have M:oS C [C.o.bo] w s:=by
  refine⟨f',λk hk h0 h1 h2 h3=>?_⟩;have T:C.o.bo≠k:=λe=>h0 (by simp[e]);refine C7 (w:=w.at r) hkp i hl' ?_;rw[hblk k Za h1 h2 h3,heap_setCell,nR T,heap_setCell,nR T]
 have l':C.o.bo<w.heap.size:=(Zj F).1;let⟨_,a1,a2,a3,_⟩:=A.env.ap _ A.mem;have g':s.heap[C.o.bo]?=J (.cells (S8 C 0 0 f false ((d8 K C.slot q o b c).e==3)) t (0,0)):=by
  have W:=hblk C.o.bo Za a1 a2 a3;have e2:v.heap[C.o.bo]?=J (.cells (S8 C 0 0 f m false) t (0,3)):=by
   rw[i.heap,show(w.at r).heap=w.heap from Z,F,Q7 A.mem];rfl
  rw[heap_setCell,nT Z,heap_setCell,nT Z,e2]at W;have B:=hl'.heap C.o.bo;rw[W,Q7 A.mem]at B;let⟨c',t',h'⟩:=hl'.soft C.o.bo (by rw[Q7 A.mem];omega);rw[h']at B ⊢;simp only[aF,fz,bz,Obj.cells.injEq]at B;let⟨e4,e5,_⟩:=B;rw[←e4,←e5];rfl
 have A':=A.turn (IE hl' N P R hR) (Ac A.env.inv C.slot q o b c) hl'.fit M g';rcases hg with⟨h,_⟩|⟨_,i',rfl⟩
 .cases h
 .have j':Go.Conc.ResultsC V gL u.tmps (.tuple #[Y U (d8 K C.slot q o b c).n,Y U (d8 K C.slot q o b c).e]):=by
   have:=mJ (P:=V) (fn:=gL) (t:=6) (u:=7) Z u.tmps
   grind
  exact Jf (X6 (b:=aB 117) (todo:=i') Z hd cT j' (hn t s A' M))
end
section
open Go.Conc Go.RowKit
variable{a b c d e:Nat}{f g h:Wd}{i j:Array Vu}{k l m n o:Int}{p q:Vu}{r s t u:Bool}{v w:aN}{x y:Ti}{z A:aU}{B C:List Nat}{E:Gr->Wd->Prop}{F:List Fm'}{H:List nY}{I:Obj}{K L:Type}{N:List Vu}{P:Array aN}{R:db}{S:Nat->Nat}
variable{C:Ctx}{l:List nY}{K:aa}{B:List Nat}{H:y6}{F:Vu}{un I:Bool}{w:Wd}
theorem At.alloc(A:At C l K B H F un I w){x:Obj}(j:Obj.oc x):At C l K (w.heap.size::B) (H.set w.heap.size x) F un I (w.alloc x):=by
 have g:∀i∈B,i<w.heap.size:=λi a=>(Zj (A.has i a)).1;have e:∀k,k<w.heap.size->(w.alloc x).heap[k]?=w.heap[k]?:=λk m=>aK w x k m;have b:=A.env.rep;have n:=qI A.env.fit.clear.lk j;refine⟨⟨b.alloc x,A.env.oT.alloc x,A.env.inv,⟨λi a=>?_,n.1.oc⟩,λo d=>?_,A.env.ap⟩,A.mem,⟨ah _ A.own.rc,λi a=>?_⟩,λi a=>?_,?_,A.top,λi a f o d=>?_⟩
 .let⟨c,t,h⟩:=A.env.fit.soft i a;exact⟨c,t,by rw[e i (Zj h).1];exact h⟩
 .let⟨c,t,f,p⟩:=A.env.ko o d;exact⟨c,t,by rw[e _ (KO.lt A.env.ko d)];exact f,p⟩
 .rcases ae.1 a with rfl|a
  .have:=b.lk;have:=b.lf;have:=b.ls;have:=b.ld;have:=A.env.oT.lt;refine⟨?_,?_,?_,?_,?_⟩<;>omega
  .exact A.own.ap i a
 .rcases ae.1 a with rfl|a
  .rw[y6.nv];show(w.heap.push x)[w.heap.size]?=_;simp
  .have:=g i a;rw[y6.lj Za,e i this];exact A.has i a
 .let⟨t,h⟩:=A.row;have:=g _ A.own.rc;exact⟨t,by rw[y6.lj Za];exact h⟩
 .rcases ae.1 a with rfl|a
  .exact dA (KO.lt A.env.ko d)
  .exact A.pX i a f o d
theorem Hy(B:List Nat){x:Obj}:oS C B w (w.alloc x):=⟨by simp,λk a _ _ _ _=>aK w x k a⟩
def xd(d e:Nat)(f a b c:Int):Fm' :=
 match Tryz.f117.body with
 | some (.seq _ (.seq (.seq (.region _ ops _) k) t))=>(aB 117).at ⟨xo d e f a b c Ud Ud Ud,[]⟩ [.inRegion ops [6,7,8],.code k,.code t]
 | _=>dW
def BP:jx:=(Tryz.f117.body).getD .skip
abbrev wU(o:nY)(d a b c:Int):Array dQ:=#[pO o,Y U d,.agg #[Y U a,Y U b,Y U c]]
abbrev rF(a b c:Int):Obj:=.cells #[Y U a,Y U b,Y U c] 25 (0,0)
theorem Ns(o:nY)(d a b c:Int):ay V 117 (wU o d a b c) .normal=(aB 117).at ⟨#[pO o,Y U d,.agg #[Y U a,Y U b,Y U c],Ud,Ud,Ud,Ud,Ud,Ud,Ud,Ud,Ud,Ud,Ud,Ud,Ud,Ud,Ud,Ud,
  Ud,Ud,Ud,Ud,Ud,Ud,Ud,Ud,Ud,Ud,Ud,Ud,Ud,Ud,Ud,Ud,Ud,Ud,Ud,Ud,Ud,Ud,Ud,Ud,Ud,Ud,Ud],[]⟩ [.code BP]:=by
 rw[enter_at (c:=BP) _ cT Z];refine congrArg (λt=>(aB 117).at ⟨t,[]⟩ [.code BP]) ?_
 kernel_rfl
theorem b9V(A:At C l K B H F un false w)(g a b c:Int)(h:Fm')(i:List Fm'){Stop:Gr->Wd->Prop}(j:∀d,l6 V false (DL true (fb l)) Stop (G (ay V 128 #[pO C.o] .normal) (xd C.o.bo w.heap.size g a b c::h::i)) ((w.alloc (rF a b c)).at d))(k:Nat) :
  l6 V false (DL true (fb l)) Stop (G (ay V 117 (wU C.o g a b c) .normal) (h::i)) (w.at k):=by
 have o:=A.clear;rw[Ns];unfold xd xo at j;simp only[BP,gL,cW,pO]at *;refine B6 (λd=>?_) _;refine m9 (λd=>?_) _;simp only[rz,ix,Nat.reduceAdd];refine C5 Z Z Zb (λd K f=>?_) _;go_simp;refine f _ _ ⟨y8 λe m=>?_,?_⟩
 .have n:=aZ m;simp[go_sem]at n
 clear f K;rw[show(w.at d).alloc (rF a b c)=(w.alloc (rF a b c)).at d from Z];have A:At C l _ _ _ F un false (w.alloc (rF a b c)):=A.alloc nQ;generalize w.alloc (rF a b c)=W at *;have p:=A.clear;(iterate 2(refine mo Z Z λd K f=>?_;go_simp;refine f _ _ ⟨Z,?_⟩;clear f K));refine i8 (λd=>?_) _;refine B6 (λd=>?_) _;refine B6 (λd=>?_) _;refine m9 (λd=>?_) _;simp only[rz,ix,Nat.reduceAdd];(iterate 3(refine mo Z Z λd K f=>?_;go_simp;refine f _ _ ⟨Z,?_⟩;clear f K));refine mo Z Z λd K f=>?_;have q:(W.at d).cell? (O C.o.bo 12 Q)=J (Bo false):=A.cell Z;go_simp;refine f _ _ ⟨Z,?_⟩;clear f K;(iterate 2(refine mo Z Z λd K f=>?_;go_simp;refine f _ _ ⟨Z,?_⟩;clear f K));refine mc Z (λu=>Z7 Z Z Zb Z jg Z Z (vs:=#[pO C.o]) (by simp[dp]) u) λd=>j d
theorem VL(e f b c:Int)(m:Clear w)(g:Fm')(h:List Fm'){Stop:Gr->Wd->Prop}(j:∀d,l6 V false (DL true (fb l)) Stop (G ((aB 117).at ⟨xo C.o.bo a e f b c (Bo true) (Bo false) (Bo false),[]⟩ [.code BA]) (g::h)) (w.at d))(k:Nat) :
  l6 V false (DL true (fb l)) Stop (G ((xd C.o.bo a e f b c).finish (Bo true)) (g::h)) (w.at k):=by
 unfold xd xo BA at *;simp only[gL]at *;rw[bK];go_simp;(iterate 2(refine mo Z Z λd K i=>?_;go_simp;refine i _ _ ⟨Z,?_⟩;clear i K));refine i8 (λd=>?_) _;refine mc Z (λu=>fU (t:=false) Z) λd=>?_;simp only[if_true,if_false,aJ,↓reduceIte];refine DO (λd=>?_) _;exact j _
theorem We(A:At C l K B H F un I f)(o p b c:Int)(j:Fm')(k:List Fm'){Stop:Gr->Wd->Prop}(q:∀d,l6 V false (DL true (fb l)) Stop (G (j.finish (.tuple #[Y U 0,Y U 3])) k) ((f.setCell (O C.o.bo 12 Q) (Bo true)).at d))(r:Nat) :
  l6 V false (DL true (fb l)) Stop (G ((xd C.o.bo a o p b c).finish (Bo false)) (j::k)) (f.at r):=by
 have m:=A.clear;unfold xd xo;simp only[gL];rw[bK];go_simp;(iterate 2(refine mo Z Z λd K g=>?_;go_simp;refine g _ _ ⟨Z,?_⟩;clear g K));refine i8 (λd=>?_) _;refine mc Z (λu=>fU (t:=true) Z) λd=>?_;simp only[if_true,if_false,aJ,↓reduceIte];refine B6 (λd=>?_) _;refine m9 (λd=>?_) _;simp only[rz,ix,Nat.reduceAdd];(iterate 3(refine mo Z Z λd K g=>?_;go_simp;refine g _ _ ⟨Z,?_⟩;clear g K));refine C5 Z Z Zb (λd K g=>?_) _;have i:(f.at d).cell? (O C.o.bo 12 Q)=J (Bo I):=A.cell Z;have n:(f.at d).frozen? (O C.o.bo 12 Q)=false:=(Z1 A.env.ko A.mem).2.2.2 12;go_simp;refine g _ _ ⟨yf (by rw[Q7 A.mem];show 3<=12;omega) (aL _ _ i) λe s=>?_,?_⟩
 .have h:=aZ s;simp only[go_sem]at h;simp[go_sem]at h;rw[jy _ _ _ _ _ _ Z,i]at h;rw[n]at h;simp only[aJ,if_false,gI,dS,dZ,ae,ai,or_false]at h;exact h
 clear g K i n;rw[show(f.at d).setCell (O C.o.bo 12 Q) (Bo true)=(f.setCell (O C.o.bo 12 Q) (Bo true)).at d from Z];have m:Clear (f.setCell (O C.o.bo 12 Q) (Bo true)):=(V6 m.lk (bh _)).1.oc;refine i8 (λd=>?_) _;refine B6 (λd=>?_) _;refine m9 (λd=>?_) _;simp only[rz,ix,Nat.reduceAdd];(iterate 2(refine mo Z Z λd K g=>?_;go_simp;refine g _ _ ⟨Z,?_⟩;clear g K));refine i8 (λd=>?_) _;refine uL (λd=>?_) _;exact X6 (v:=.tuple #[Y U 0,Y U 3]) Z Z cT (mJ (t:=6) (u:=7) Z _) (w:=f.setCell (O C.o.bo 12 Q) (Bo true)) q _
theorem Yg(A:At C l K B H F un true w)(o a b c:Int)(j:Fm')(k:List Fm'){Stop:Gr->Wd->Prop}(p:∀d,l6 V false (DL true (fb l)) Stop (G (j.finish (.tuple #[Y U 0,Y U 3])) k) (((w.alloc (rF a b c)).setCell (O C.o.bo 12 Q) (Bo true)).at d))(q:Nat) :
  l6 V false (DL true (fb l)) Stop (G (ay V 117 (wU C.o o a b c) .normal) (j::k)) (w.at q):=by
 have r:=A.clear;rw[Ns];simp only[BP,gL,cW,pO]at *;refine B6 (λd=>?_) _;refine m9 (λd=>?_) _;simp only[rz,ix,Nat.reduceAdd];refine C5 Z Z Zb (λd K f=>?_) _;go_simp;refine f _ _ ⟨y8 λe i=>?_,?_⟩
 .have g:=aZ i;simp[go_sem]at g
 clear f K;rw[show(w.at d).alloc (rF a b c)=(w.alloc (rF a b c)).at d from Z];have A:At C l _ _ _ F un true (w.alloc (rF a b c)):=A.alloc nQ;generalize w.alloc (rF a b c)=W at *;have m:=A.clear;(iterate 2(refine mo Z Z λd K f=>?_;go_simp;refine f _ _ ⟨Z,?_⟩;clear f K));refine i8 (λd=>?_) _;refine B6 (λd=>?_) _;refine B6 (λd=>?_) _;refine m9 (λd=>?_) _;simp only[rz,ix,Nat.reduceAdd];(iterate 3(refine mo Z Z λd K f=>?_;go_simp;refine f _ _ ⟨Z,?_⟩;clear f K));refine mo Z Z λd K f=>?_;have h:(W.at d).cell? (O C.o.bo 12 Q)=J (Bo true):=A.cell Z;go_simp;refine f _ _ ⟨Z,?_⟩;clear f K;refine mo Z Z λd K f=>?_;go_simp;refine f _ _ ⟨Z,?_⟩;clear f K;refine mc Z (λu=>stepG_unwanted Z Z) λd=>?_;go_simp;refine mc Z (λu=>stepG_unwanted Z Z) λd=>?_;go_simp;refine mc Z (λu=>stepG_unwanted Z Z) λd=>?_;go_simp;refine mo Z Z λd K f=>?_;go_simp;refine f _ _ ⟨Z,?_⟩;clear f K;refine i8 (λd=>?_) _;refine mc Z (λu=>fU (t:=true) Z) λd=>?_;simp only[if_true,if_false,aJ,↓reduceIte];refine B6 (λd=>?_) _;refine m9 (λd=>?_) _;simp only[rz,ix,Nat.reduceAdd];(iterate 3(refine mo Z Z λd K f=>?_;go_simp;refine f _ _ ⟨Z,?_⟩;clear f K));refine C5 Z Z Zb (λd K f=>?_) _;have h:(W.at d).cell? (O C.o.bo 12 Q)=J (Bo true):=A.cell Z;have n:(W.at d).frozen? (O C.o.bo 12 Q)=false:=(Z1 A.env.ko A.mem).2.2.2 12;go_simp;refine f _ _ ⟨yf (by rw[Q7 A.mem];show 3<=12;omega) (aL _ _ h) λe i=>?_,?_⟩
 .have g:=aZ i;simp only[go_sem]at g;simp[go_sem]at g;rw[jy _ _ _ _ _ _ Z,h]at g;rw[n]at g;simp only[aJ,if_false,gI,dS,dZ,ae,ai,or_false]at g;exact g
 clear f K h n;rw[show(W.at d).setCell (O C.o.bo 12 Q) (Bo true)=(W.setCell (O C.o.bo 12 Q) (Bo true)).at d from Z];have m:Clear (W.setCell (O C.o.bo 12 Q) (Bo true)):=(V6 m.lk (bh _)).1.oc;refine i8 (λd=>?_) _;refine B6 (λd=>?_) _;refine m9 (λd=>?_) _;simp only[rz,ix,Nat.reduceAdd];(iterate 2(refine mo Z Z λd K f=>?_;go_simp;refine f _ _ ⟨Z,?_⟩;clear f K));refine i8 (λd=>?_) _;refine uL (λd=>?_) _;exact X6 (v:=.tuple #[Y U 0,Y U 3]) Z Z cT (mJ (t:=6) (u:=7) Z _) (w:=W.setCell (O C.o.bo 12 Q) (Bo true)) p _
inductive Node where
 | call (num a b c:Int)
 | done (val err:Int)
abbrev j6:=List (Int×Int)->Node
def j6.after(s:j6)(x e:Int):j6:=λh=>s ((x,e)::h)
def tf(d:Int)(s:j6)(K:aa):aa×j6 :=
 match s [] with
 | .call e a b c=>((d8 K d e a b c).K,s.after (d8 K d e a b c).n (d8 K d e a b c).e)
 | .done _ _=>(K,s)
theorem GY{s:j6}{K:aa}{b c:Int}(h:s []=.call m o b c):tf k s K=((d8 K k m o b c).K,s.after (d8 K k m o b c).n (d8 K k m o b c).e):=by
 unfold tf;rw[h]
def Fg(C:Ctx)(g:Gr):Prop :=
 g.status=.running/\mayWake V g=true/\∃a:Gr,a.status=.running/\(∀b k (u:Wd),u.heap[C.o.to]?=J (.chan b #[] false k k false)->bH V false g u=.go a (u.setChan C.o.to b #[] true k k false) (il C.o.to))/\∃c,QuitsD V c 0 a
def tP(C:Ctx)(d:j6->List Nat->y6->List Fm'->Prop)(l:List nY)(a:Wd)(b:List Nat)(T:aa×j6)(g:Gr)(w:Wd):Prop :=
 Env C l T.1 w/\oS C b a w /\
 match T.2 [] with
 | .call _ _ _ _=>∃c B H F,g=vZ C.o c/\At C l T.1 B H F false false w/\(∀i∈B,i∈b\/a.heap.size<=i)/\d T.2 B H (ua C.o::c)
 | .done e f=>Fg C g/\∃t F un I,w.heap[C.o.bo]?=J (.cells (S8 C f e F un I) t (0,0))
def zj(C:Ctx)(l:List nY)(K:aa)(a:Wd)(b:List Nat)(g:Gr)(w:Wd):Prop:=Env C l K w/\oS C b a w/\Fg C g
def tz(C:Ctx):Nat->j6->List Nat->y6->List Fm'->Prop
 | 0,_,_,_,_=>True
 | n+1,s,B,H,cs =>
  (∀l K F un w d,At C l K B H F un false w->l6 V false (DL true (fb l)) (tP C (tz C n) l w B (tf C.slot s K)) (bI (P8 C.o cs) BM) (w.at d)) /\
  (∀l K F un w d,At C l K B H F un false w->l6 V false (DL true (fb l)) (zj C l K w B) (bI (P8 C.o cs) BU) (w.at d))
theorem Env.at(E:Env C l K w)(d:Nat):Env C l K (w.at d):=⟨E.rep.same (af _) λ_ _ _=>rfl,E.oT.same Z,E.inv,⟨E.fit.soft,E.fit.clear⟩,E.ko,E.ap⟩
theorem At.at(A:At C l K B H F un I w)(d:Nat):At C l K B H F un I (w.at d):=⟨A.env.at d,A.mem,A.own,A.has,A.row,A.top,A.pX⟩
theorem oS.at{a:List Nat}(M:oS C a f w)(d:Nat):oS C a f (w.at d):=⟨M.size,M.block⟩
theorem c4Y(h:S8 C k m p r t=S8 C n o q s u):p=q/\r=s/\t=u:=by
 have b:=congrArg (λa:Array Vu=>a[10]?) h;have c:=congrArg (λa:Array Vu=>a[11]?) h;have d:=congrArg (λa:Array Vu=>a[12]?) h;simp[S8]at b c d
 grind
theorem At.rV{g:List nY}{i:aa}(A:At C l K B H F un I w)(j:At C g i B H p r s f):p=F/\r=un/\s=I:=by
 let⟨t,h⟩:=A.row;let⟨k,d⟩:=j.row;rw[h]at d;let⟨e,_,_⟩:=Obj.cells.inj d;let⟨a,b,c⟩:=c4Y e
 grind
theorem At.fewer(A:At C l K B H F un I w){pv':List Nat}{c:y6}(b:∀i∈pv',i∈B)(d:C.o.bo∈pv')(e:∀i∈pv',c i=H i):At C l K pv' c F un I w :=
 ⟨A.env,A.mem,⟨d,λi a=>A.own.ap i (b i a)⟩,λi a=>by rw[e i a];exact A.has i (b i a),by let⟨t,h⟩:=A.row;grind,A.top,λi a=>A.pX i (b i a)⟩
theorem At.set(A:At C l K B H F un I w){j:Nat}{x:Vu}{un' go':Bool}{free':Vu}(n:3<=j)(d:(S8 C 0 0 F un I).setIfInBounds j x=S8 C 0 0 free' un' go') :
  ∃t,At C l K B (H.set C.o.bo (.cells (S8 C 0 0 free' un' go') t (0,0))) free' un' go' (w.setCell (O C.o.bo j Q) x)/\oS C [C.o.bo] w (w.setCell (O C.o.bo j Q) x):=by
 let⟨t,f⟩:=A.blk;have b:=EF _ t j x w C.o.bo f;rw[d]at b;have a:∀k,k≠C.o.bo->(w.setCell (O C.o.bo j Q) x).heap[k]?=w.heap[k]?:=λk a=>by rw[heap_setCell,nR λe=>a e.symm]
 have M:oS C [C.o.bo] w (w.setCell (O C.o.bo j Q) x):=⟨by simp[cQ],λk _ g _ _ _=>a k (by simpa using g)⟩;let⟨o,p,q,r,_⟩:=A.env.ap _ A.mem;refine⟨t,A.turn (A.env.rep.same (by simp[cQ]) λk _ h=>a k (by grind)) A.env.inv ⟨λi m=>?_,(V6 A.clear.lk (bh _)).1.oc⟩ M b,M⟩
 by_cases e:i=C.o.bo
 .grind
 .let⟨c,s,h⟩:=A.env.fit.soft i m
  grind
theorem JD(A:At C l K B H F un true w)(k a b c:Int)(g:Fm')(h:List Fm'){Stop:Gr->Wd->Prop}(n:∀t j,At C l K B (H.set C.o.bo (.cells (S8 C 0 0 F un true) t (0,0))) F un true j->oS C [C.o.bo] w j->∀d,l6 V false (DL true (fb l)) Stop (G (g.finish (.tuple #[Y U 0,Y U 3])) h) (j.at d))(m:Nat) :
  l6 V false (DL true (fb l)) Stop (G (ay V 117 (wU C.o k a b c) .normal) (g::h)) (w.at m):=by
 refine Yg A k a b c g h (λd=>?_) m;have o:∀i∈B,i<w.heap.size:=λi f=>(Zj (A.has i f)).1;have p:At C l K (w.heap.size::B) (H.set w.heap.size (rF a b c)) F un true (w.alloc (rF a b c)):=A.alloc nQ;let⟨t,q,r⟩:=p.set (j:=12) (x:=Bo true) (free':=F) (un':=un) (go':=true) Za Z;refine n t _ (q.fewer (λi f=>ah _ f) A.own.rc λi f=>?_) ((Hy [C.o.bo]).trans r λi f=>.inl f) d
 by_cases e:i=C.o.bo
 .subst e;rw[y6.nv,y6.nv]
 .have:=o i f;rw[y6.lj e,y6.lj e,y6.lj Za]
theorem b9U(s:j6)(j a b c:Int)(P:s []=.call j a b c)(r:Fm')(u:List Fm')(B:List Nat)(H:y6)(F:Vu)(n:Nat){un:Bool}(hB:∀m,m<=n->(un=false->m<n)->∀l f o K t w,At C l (d8 K C.slot j a b c).K B (H.set C.o.bo (.cells (S8 C 0 0 F false ((d8 K C.slot j a b c).e==3)) t (0,0))) F false ((d8 K C.slot j a b c).e==3) w->oS C o f w->(∀i∈B,i∈o\/f.heap.size<=i) ->
   ∀d,l6 V false (DL true (fb l)) (tP C (tz C m) l f o ((d8 K C.slot j a b c).K,s.after (d8 K C.slot j a b c).n (d8 K C.slot j a b c).e)) (G (r.finish (.tuple #[Y U (d8 K C.slot j a b c).n,Y U (d8 K C.slot j a b c).e])) u) (w.at d))(hE:∀l f o K t w,At C l K B (H.set C.o.bo (.cells (S8 C 0 0 F false true) t (0,0))) F false true w->oS C o f w->(∀i∈B,i∈o\/f.heap.size<=i) ->
   ∀d,l6 V false (DL true (fb l)) (zj C l K f o) (G (r.finish (.tuple #[Y U 0,Y U 3])) u) (w.at d)){l:List nY}{o:List Nat}{K:aa}{w:Wd}{T:aa×j6}(A:At C l K B H F un false w)(M:oS C o f w)(hp:∀i∈B,i∈o\/f.heap.size<=i)(hT:(un=true/\T=tf C.slot s K)\/(un=false/\T=(K,s)))(d0:Nat) :
  l6 V false (DL true (fb l)) (tP C (tz C n) l f o T) (G (ay V 117 (wU C.o j a b c) .normal) (r::u)) (w.at d0):=by
 have E:∀i∈B,i<w.heap.size:=λi g=>(Zj (A.has i g)).1;have a':w.heap.size≠C.o.bo:=λe=>by have:=E _ A.own.rc;omega
 have b':∀m,m<=n->(un=false->m<n)->∀l f o K z v,At C l K (w.heap.size::B) (H.set w.heap.size (rF a b c)) F z false v\/(∃t,At C l K (w.heap.size::B) ((H.set w.heap.size (rF a b c)).set C.o.bo (.cells (S8 C 0 0 F z false) t (0,0))) F z false v)->oS C o f v->(∀i∈B,i∈o\/f.heap.size<=i) ->
   ∀d,l6 V false (DL true (fb l)) (tP C (tz C m) l f o ((d8 K C.slot j a b c).K,s.after (d8 K C.slot j a b c).n (d8 K C.slot j a b c).e)) (G ((xd C.o.bo w.heap.size j a b c).finish (Bo true)) (r::u)) (v.at d):=by
  intro m hm d' l f o K z v hA L c' d;have I:∀N,At C l K (w.heap.size::B) N F z false v->N w.heap.size=rF a b c->(∀i∈B,i≠C.o.bo->N i=H i) ->
    l6 V false (DL true (fb l)) (tP C (tz C m) l f o ((d8 K C.slot j a b c).K,s.after (d8 K C.slot j a b c).n (d8 K C.slot j a b c).e)) (G ((xd C.o.bo w.heap.size j a b c).finish (Bo true)) (r::u)) (v.at d):=by
   intro N p hb hH;refine VL (C:=C) j a b c p.clear r u (λd=>?_) d;refine ZC p j a b c (ao ..) a' hb r u (λt D x y=>?_) d;refine hB m hm d' l f o K t D (x.fewer (λi g=>ah _ g) A.own.rc λi g=>?_) (L.trans y λi g=>by cases Zi g;exact c' _ A.own.rc) c'
   by_cases e:i=C.o.bo
   .subst e;rw[y6.nv,y6.nv]
   .rw[y6.lj e,y6.lj e];grind
  rcases hA with p|⟨t,p⟩
  .exact I _ p (y6.nv) λi g _=>by have:=E i g;rw[y6.lj Za]
  .exact I _ p (by rw[y6.lj a',y6.nv]) λi g e=>by have:=E i g;rw[y6.lj e,y6.lj Za]
 have p:At C l K (w.heap.size::B) (H.set w.heap.size (rF a b c)) F un false (w.alloc (rF a b c)):=A.alloc nQ;have L:oS C o f (w.alloc (rF a b c)):=M.trans (Hy []) (λi g=>by cases g);refine b9V A j a b c r u (λd=>?_) d0;rcases hT with⟨rfl,rfl⟩|⟨rfl,rfl⟩
 .rw[GY P];exact SI (o:=C.o) p.clear (p.cell Z) (b' n (af _) (λh=>by cases h) l f o K true _ (.inl p) L hp) d
 .refine c1n (o:=C.o) p.mem p.clear p.env.ko (p.cell Z) (λd=>.stop ?_) d;refine⟨p.env.at d,L.at d,?_⟩;show match s [] with|.call _ _ _ _=>_|.done _ _=>_
  rw[P];refine⟨_,w.heap.size::B,H.set w.heap.size (rF a b c),F,Z,?_,λi g=>?_,?_⟩
  .exact p.at d
  .rcases ae.1 g with rfl|g
   .exact .inr M.size
   .exact hp i g
  .cases n with
   | zero=>exact trivial
   | succ m =>
    refine⟨λR S W e' D d q=>?_,λR S W e' D d q=>?_⟩
    .obtain⟨rfl,rfl,_⟩:=p.rV q;rw[GY P];let⟨t,x,y⟩:=q.set (j:=11) (x:=Bo true) (free':=W) (un':=true) (go':=false) Za Z;refine Ni (o:=C.o) q.mem q.clear q.env.ko (q.cell (j:=11) Z) (λd=>?_) d;refine MG (o:=C.o) x.clear true (λd=>?_) d;exact b' m (Nat.le_succ _) (λ_=>Nat.lt_succ_self _) R D _ S true _ (.inr ⟨t,x⟩) (y.trans (oS.refl _ [] _) (λi g=>by cases g) |> λh=>⟨h.size,λk X h0 h1 h2 h3=>h.block k X (λe=>h0 (by cases Zi e;exact ah _ A.own.rc)) h1 h2 h3⟩) (λi g=>.inl (ah _ g)) d
    .obtain⟨rfl,rfl,_⟩:=p.rV q;refine Pa (o:=C.o) q.mem q.clear (λd=>?_) d;refine MG (o:=C.o) q.clear false (λd=>?_) d;refine We q j a b c r u (λd=>?_) d;let⟨t,x,y⟩:=q.set (j:=12) (x:=Bo true) (free':=W) (un':=false) (go':=true) Za Z;refine hE R D _ S t _ (x.fewer (λi g=>ah _ g) A.own.rc λi g=>?_) (⟨y.size,λk X h0 h1 h2 h3=>y.block k X (λe=>h0 (by cases Zi e;exact ah _ A.own.rc)) h1 h2 h3⟩) (λi g=>.inl (ah _ g)) d
     by_cases e:i=C.o.bo
     .subst e;rw[y6.nv,y6.nv]
     .have:=E i g;rw[y6.lj e,y6.lj e,y6.lj Za]
def pk(C:Ctx)(l:List nY)(K:aa)(B:List Nat)(H:y6)(F:Vu)(un I:Bool)(w:Wd):Prop:=∃a,At C l K (C.o.bo::B) a F un I w/\∀i∈B,i≠C.o.bo/\a i=H i
def Sub(B a:List Nat)(b:Wd):Prop:=∀i∈B,i∈a\/b.heap.size<=i
def Ph(C:Ctx)(un:Bool)(T:aa×j6)(s:j6)(K:aa):Prop:=(un=true/\T=tf C.slot s K)\/(un=false/\T=(K,s))
def CS(m:Nat)(un:Bool):Nat:=2*m+(if un then 1 else 0)
def RO(C:Ctx)(n:Nat)(s:j6)(B:List Nat)(H:y6)(F:Vu)(I:Bool)(g:Gr):Prop :=
 ∀m l a b T K un w,CS m un<=n->pk C l K B H F un I w->oS C b a w->Sub (C.o.bo::B) b a->Ph C un T s K->∀d,l6 V false (DL true (fb l)) (tP C (tz C m) l a b T) g (w.at d)
def Lo(C:Ctx)(B:List Nat)(H:y6)(F:Vu)(g:Gr):Prop :=
 ∀l a b K un w,pk C l K B H F un true w->oS C b a w->Sub (C.o.bo::B) b a->∀d,l6 V false (DL true (fb l)) (zj C l K a b) g (w.at d)
def i9(C:Ctx)(n:Nat)(s:j6)(B:List Nat)(H:y6)(F:Vu)(I:Bool)(g:Gr):Prop:=RO C n s B H F I g/\(I=true->Lo C B H F g)
abbrev M(a:Type):=Bool->List (Int×Int)->Node⊕(a×Bool×List (Int×Int))
def M.pure(a:L):M L:=λI h=>.inr (a,I,h)
def M.bind{b:Type}(m:M L)(f:L->M b):M b:=λI h=>match m I h with
 | .inl x=>.inl x
 | .inr (a,go',h')=>f a go' h'
def M.then(m:M L)(I:Bool)(k:L->Bool->j6):j6:=λh=>match m I h with
 | .inl x=>x
 | .inr (a,go',h')=>k a go' h'
theorem M.fc{b:Type}(m:M L)(f:L->M b)(I:Bool)(k:b->Bool->j6):(m.bind f).then I k=m.then I (λa c=>(f a).then c k):=by
 funext h;unfold M.then M.bind
 cases m I h with
 | inl x=>rfl
 | inr r=>rfl
theorem M.oA(a:L)(I:Bool)(k:L->Bool->j6):(M.pure a).then I k=k a I:=rfl
def E3(d a b c:Int):M (Int×Int):=λI h=>if I then .inr ((0,3),true,h) else match h with
 | []=>.inl (.call d a b c)
 | (x,e)::h'=>.inr ((x,e),e==3,h')
variable{n:Nat}{s:j6}{g:Gr}
theorem pk.of{l:List nY}{K:aa}{un:Bool}{w:Wd}{a:y6}(A:At C l K (C.o.bo::B) a F un I w)(h:∀i∈B,i≠C.o.bo/\a i=H i):pk C l K B H F un I w:=⟨a,A,h⟩
theorem Ce{H b:y6}{x:Obj}(h:∀i∈B,i≠C.o.bo/\b i=H i):∀i∈B,i≠C.o.bo/\(b.set C.o.bo x) i=H i:=λi a=>⟨(h i a).1,by rw[y6.lj (h i a).1];exact(h i a).2⟩
theorem i9.less(h:i9 C n s B H F I g)(b:a<=n):i9 C a s B H F I g :=
 ⟨λm l c d T K un w e=>h.1 m l c d T K un w (Zh e b),h.2⟩
theorem OZ(f a b c:Int)(p:Fm')(q:List Fm')(k:(Int×Int)->Bool->j6)(X:I=true->i9 C n (k (0,3) true) B H F true (G (p.finish (.tuple #[Y U 0,Y U 3])) q))(h2:I=false->∀R,R<n->∀x e y,y=(e==3)->i9 C R (k (x,e) y) B H F y (G (p.finish (.tuple #[Y U x,Y U e])) q))(v:I=false->Lo C B H F (G (p.finish (.tuple #[Y U 0,Y U 3])) q)) :
  i9 C n ((E3 f a b c).then I k) B H F I (G (ay V 117 (wU C.o f a b c) .normal) (p::q)):=by
 cases I with
 | true =>
  have v:=X Z;refine⟨λm l j o T K un w u ⟨z,A,r⟩ M S P d=>?_,λ_ l j o K un w ⟨z,A,r⟩ M S d=>?_⟩
  .refine JD A f a b c p q (λt D E L=>?_) d;exact v.1 m l j o T K un D u (.of E (Ce r)) (M.trans L λi N=>by cases Zi N;exact S _ (ao ..)) S P
  .refine JD A f a b c p q (λt D E L=>?_) d;exact v.2 Z l j o K un D (.of E (Ce r)) (M.trans L λi N=>by cases Zi N;exact S _ (ao ..)) S
 | false =>
  refine⟨λm l j o T K un w u ⟨z,A,r⟩ M S P d=>?_,λh=>by cases h⟩;refine b9U ((E3 f a b c).then false k) f a b c Z p q (C.o.bo::B) z F m (un:=un) (λW c' b' l j o K t w A M S d=>?_) (λl j o K t w A M S d=>?_) A M S P d
  .have hr:CS W false<n:=by
    unfold CS at u ⊢
    cases un with
    | false=>have:=b' Z;simp at u ⊢;omega
    | true=>simp at u ⊢;omega
   exact(h2 Z _ hr (d8 K C.slot f a b c).n (d8 K C.slot f a b c).e _ Z).1 W l j o _ _ false w (af _) (.of A (Ce r)) M S (.inr ⟨Z,Z⟩) d
  .exact v Z l j o K false w (.of A (Ce r)) M S d
theorem xu(f a b c:Int){h:Fm'}{i:List Fm'}{k:(Int×Int)->Bool->j6}(j:∀x e d,d=(e==3)->i9 C n (k (x,e) d) B H F d (G (h.finish (.tuple #[Y U x,Y U e])) i)) :
  i9 C n ((E3 f a b c).then I k) B H F I (G (ay V 117 (wU C.o f a b c) .normal) (h::i)) :=
 OZ f a b c h i k (λ_=>j 0 3 true Z) (λ_ p m x e d o=>(j x e d o).less (Nat.le_of_lt m)) λ_=>(j 0 3 true Z).2 Z
theorem X3{R:List Nat->y6->Vu->Gr->Prop}(u:∀l K un w (Stop:Gr->Wd->Prop),pk C l K B H F un I w->(∀a b c e f,R a b c e->pk C l K a b c un I f->oS C (C.o.bo::B) w f->Sub (C.o.bo::a) (C.o.bo::B) w->∀d,l6 V false (DL true (fb l)) Stop e (f.at d))->∀d,l6 V false (DL true (fb l)) Stop g (w.at d))(v:∀a b c e,R a b c e->i9 C n s a b c I e):i9 C n s B H F I g:=by
 have x:∀ {a k:List Nat} {j w:Wd},Sub (C.o.bo::B) k j->Sub (C.o.bo::a) (C.o.bo::B) w->j.heap.size<=w.heap.size->Sub (C.o.bo::a) k j:=λy z A i D=>by
  rcases z i D with h|h
  .exact y i h
  .exact .inr (Zh A h)
 refine⟨λm l j k T K un w E o M S P d=>?_,λL l j k K un w o M S d=>?_⟩
 .exact u l K un w _ o (λa b c e f p q r t=>(v a b c e p).1 m l j k T K un f E q (M.trans r S) (x S t M.size) P) d
 .subst L;exact u l K un w _ o (λa b c e f p q r t=>(v a b c e p).2 Z l j k K un f q (M.trans r S) (x S t M.size)) d
theorem Ae{a:Gr}(k:∀l K un w (Stop:Gr->Wd->Prop),pk C l K B H F un I w->(∀d,l6 V false (DL true (fb l)) Stop a (w.at d))->∀d,l6 V false (DL true (fb l)) Stop g (w.at d))(m:i9 C n s B H F I a):i9 C n s B H F I g :=
 X3 (R:=λb c e f=>b=B/\c=H/\e=F/\f=a) (λl K un w Stop j h d=>k l K un w Stop j (h B H F a w ⟨Z,Z,Z,Z⟩ j (.refl _ _ _) λi o=>.inl o) d)
  (λb c e f ⟨p,q,r,t⟩=>by subst p q r t;exact m)
theorem GP{a:Gr}(b:g.status=.running)(h:∀u,bH V false g u=.go a u #[])(c:i9 C n s B H F I a):i9 C n s B H F I g :=
 Ae (λl K un w Stop f e d=>mc b h e (d0:=d)) c
theorem pk.clear{l:List nY}{K:aa}{un:Bool}{w:Wd}(h:pk C l K B H F un I w):Clear w:=by let⟨a,A,_⟩:=h;exact A.clear
theorem pk.blk{l:List nY}{K:aa}{un:Bool}{w:Wd}(h:pk C l K B H F un I w)(b:a∈B):w.heap[a]?=J (H a):=by
 let⟨d,A,c⟩:=h;rw[A.has a (ah _ b),(c a b).2]
theorem pk.cell{l:List nY}{K:aa}{un:Bool}{w:Wd}(h:pk C l K B H F un I w){i:Nat}(b:i∈B){c:Array Vu}{f:Nat×Nat}(d:H i=.cells c x f){j:Nat}(e:c[j]?=J p):(w.at a).cell? (O i j Q)=J p:=by
 have:=h.blk b;show w.cell? _=_;simp only[aD,this,d];simpa using e
theorem pk.xj{l:List nY}{K:aa}{un:Bool}{w:Wd}{d:Nat}(h:pk C l K B H F un I w)(b:(S8 C 0 0 F un I)[a]?=J p):(w.at d).cell? (O C.o.bo a Q)=J p:=by
 let⟨c,A,e⟩:=h;exact A.cell b
theorem c3Y{g':Nat->Gr}{X:Obj}(t:Obj.oc X)(u:∀l K un w b (Stop:Gr->Wd->Prop),b=w.heap.size->pk C l K B H F un I w->(∀d,l6 V false (DL true (fb l)) Stop (g' b) ((w.alloc X).at d))->∀d,l6 V false (DL true (fb l)) Stop g (w.at d))(v:∀b,b∉B->b≠C.o.bo->i9 C n s (b::B) (H.set b X) F I (g' b)):i9 C n s B H F I g:=by
 refine X3 (R:=λj c k m=>∃b,b∉B/\b≠C.o.bo/\j=b::B/\c=H.set b X/\k=F/\m=g' b) (λl K un w Stop x h d=>?_) (λj c k m ⟨b,y,z,D,E,L,N⟩=>by subst D E L N;exact v b y z);let⟨c,A,f⟩:=x;have o:∀i∈C.o.bo::B,i<w.heap.size:=λi a=>(Zj (A.has i a)).1;have p:w.heap.size∉B:=λa=>by have:=o _ (ah _ a);omega
 have q:w.heap.size≠C.o.bo:=λe=>by have:=o _ (ao ..);omega
 refine u l K un w _ Stop Z ⟨c,A,f⟩ (h _ _ _ _ _ ⟨w.heap.size,p,q,Z,Z,Z,Z⟩ ?_ (Hy _) λi a=>?_) d
 .refine⟨c.set w.heap.size X,(A.alloc t).fewer (λi a=>?_) (ao ..) λ_ _=>rfl,λi a=>?_⟩
  .rcases ae.1 a with rfl|a
   .exact ah _ (ao ..)
   .rcases ae.1 a with rfl|a
    .exact ao ..
    .exact ah _ (ah _ a)
  .rcases ae.1 a with rfl|a
   .exact⟨q,by rw[y6.nv,y6.nv]⟩
   .have r:i≠w.heap.size:=λe=>p (e▸a);exact⟨(f i a).1,by rw[y6.lj r,y6.lj r];exact(f i a).2⟩
 .rcases ae.1 a with rfl|a
  .exact .inl (ao ..)
  .rcases ae.1 a with rfl|a
   .exact .inr (af _)
   .exact .inl (ah _ a)
theorem xB{X:Obj}(p:a∉B)(h:i9 C n s B H F I g):i9 C n s (a::B) (H.set a X) F I g:=by
 have k:∀ {l K un I w},pk C l K (a::B) (H.set a X) F un I w->pk C l K B H F un I w:=by
  rintro l K un I w ⟨q,A,r⟩;refine⟨q,A.fewer (λi b=>?_) (ao ..) λ_ _=>rfl,λi b=>?_⟩
  .rcases ae.1 b with rfl|b
   .exact ao ..
   .exact ah _ (ah _ b)
  .let⟨t,u⟩:=r i (ah _ b);have v:i≠a:=λe=>p (e▸b);exact⟨t,by rw[u,y6.lj v]⟩
 have o:∀ {c f},Sub (C.o.bo::a::B) c f->Sub (C.o.bo::B) c f:=λh i b=>by
  rcases ae.1 b with rfl|b
  .exact h _ (ao ..)
  .exact h i (ah _ (ah _ b))
 exact⟨λm l f c T K un w x j M S P d=>h.1 m l f c T K un w x (k j) M (o S) P d,λy l f c K un w j M S d=>h.2 y l f c K un w (k j) M (o S) d⟩
theorem At.qv{l:List nY}{K:aa}{un:Bool}{w:Wd}(A:At C l K B H F un I w)(q:Fit (fb l) f)(r:w.heap.size<=f.heap.size)(j:∀k,k<w.heap.size->f.heap[k]?=w.heap[k]?){bs:List Nat}{Hn:y6}(u:∀b∈bs,w.heap.size<=b/\f.heap[b]?=J (Hn b)) :
  At C l K (B++bs) (λi=>if i<w.heap.size then H i else Hn i) F un I f:=by
 have m:∀i∈B,i<w.heap.size:=λi a=>(Zj (A.has i a)).1;have d:=A.env.rep;refine⟨⟨d.same r λk h _=>j k h,A.env.oT.same (j 0 A.env.oT.lt),A.env.inv,q,λo e=>?_,A.env.ap⟩,A.mem,⟨fP _ A.own.rc,λi a=>?_⟩,λi a=>?_,?_,A.top,λi a p o e=>?_⟩
 .let⟨c,t,p,v⟩:=A.env.ko o e
  grind
 .rcases cz.1 a with a|a
  .exact A.own.ap i a
  .have:=(u i a).1;have:=d.lk;have:=d.lf;have:=d.ls;have:=d.ld;grind
 .rcases cz.1 a with a|a
  .have:=m i a;simp only[this,if_true];rw[j i this];exact A.has i a
  grind
 .let⟨t,h⟩:=A.row;have:=m _ A.own.rc
  grind
 .rcases cz.1 a with a|a
  .exact A.pX i a p o e
  .have:=KO.lt A.env.ko e;grind
theorem pk.more{l:List nY}{K:aa}{un:Bool}{w:Wd}(m:pk C l K B H F un I w)(o:Fit (fb l) f)(c:w.heap.size<=f.heap.size)(d:∀k,k<w.heap.size->f.heap[k]?=w.heap[k]?){bs:List Nat}{Hn:y6}(p:∀b∈bs,w.heap.size<=b/\f.heap[b]?=J (Hn b))(q:∀i∈B,Hn i=H i) :
  pk C l K (bs++B) Hn F un I f/\oS C (C.o.bo::B) w f/\Sub (C.o.bo::(bs++B)) (C.o.bo::B) w/\∀b∈bs,b∉B/\b≠C.o.bo:=by
 let⟨u,A,j⟩:=m;have r:∀i∈C.o.bo::B,i<w.heap.size:=λi a=>(Zj (A.has i a)).1;have t:∀b∈bs,b∉B/\b≠C.o.bo:=λb v=>⟨λh=>by grind,λe=>by grind⟩
 refine⟨⟨_,(A.qv o c d p).fewer (pv':=C.o.bo::(bs++B)) (λi a=>?_) (ao ..) λ_ _=>rfl,λi a=>?_⟩,⟨c,λk h _ _ _ _=>d k h⟩,λi a=>?_,t⟩
 .grind
 .rcases cz.1 a with a|a
  .grind
  .refine⟨(j i a).1,?_⟩;have:=r i (ah _ a);simp only[this,if_true];rw[(j i a).2,q i a]
 grind
inductive ou where
 | v (x:Vu)
 | p (i o:Nat)
inductive qc where
 | c (x:ou)
 | g (l:List ou)
inductive Sv where
 | c (x:ou)
 | g (l:List ou)
 | t (l:List qc)
abbrev oN:=List (Nat×Nat)
def ox:oN->Nat->Nat×Nat
 | [],_=>(0,0)
 | x::_,0=>x
 | _::r,n+1=>ox r n
def ou.den(a:oN):ou->Vu
 | .v x=>x
 | .p i o=>Po (J (O ((ox a i).1) ((ox a i).2+o) Q))
def qc.den(a:oN):qc->Vu
 | .c x=>x.den a
 | .g l=>.agg (l.map (·.den a)).toArray
def Sv.den(a:oN):Sv->Vu
 | .c x=>x.den a
 | .g l=>.agg (l.map (·.den a)).toArray
 | .t l=>.tuple (l.map (·.den a)).toArray
abbrev m7:=List (Nat×Sv)
abbrev Mem:=List (Nat×Nat×ou)
def qC(a:oN):m7->List (Nat×Vu)
 | []=>[]
 | p::r=>(p.1,p.2.den a)::qC a r
def ou.ok(n:Nat):ou->Prop
 | .v _=>True
 | .p i _=>i<n
def qc.ok(n:Nat):qc->Prop
 | .c x=>x.ok n
 | .g l=>∀x∈l,x.ok n
def Sv.ok(n:Nat):Sv->Prop
 | .c x=>x.ok n
 | .g l=>∀x∈l,x.ok n
 | .t l=>∀x∈l,x.ok n
theorem T6:∀(a q:oN) (i:Nat),i<a.length->ox (a++q) i=ox a i
 | _::_,_,0,_=>rfl
 | _::r,q,i+1,h=>T6 r q i (np h)
theorem tM:∀(a:oN) (x:Nat×Nat),ox (a++[x]) a.length=x
 | [],x=>rfl
 | _::r,x=>tM r x
theorem ou.oK{ρ:oN}(q:oN){x:ou}(h:x.ok ρ.length):x.den (ρ++q)=x.den ρ:=by
 cases x with
 | v x=>rfl
 | p i o=>simp only[ou.den,T6 ρ q i h]
theorem qc.oK{ρ:oN}(q:oN){x:qc}(h:x.ok ρ.length):x.den (ρ++q)=x.den ρ:=by
 cases x with
 | c x=>exact ou.oK q h
 | g l=>simp only[qc.den,iY λx a=>ou.oK q (h x a)]
theorem Sv.oK{ρ:oN}(q:oN){x:Sv}(h:x.ok ρ.length):x.den (ρ++q)=x.den ρ:=by
 cases x with
 | c x=>exact ou.oK q h
 | g l=>simp only[Sv.den,iY λx a=>ou.oK q (h x a)]
 | t l=>simp only[Sv.den,iY λx a=>qc.oK q (h x a)]
theorem ou.pB{n:Nat}(b:n<=a){x:ou}(h:x.ok n):x.ok a:=by
 cases x with
 | v x=>trivial
 | p i o=>exact Zg h b
theorem qc.pB{n:Nat}(b:n<=a){x:qc}(h:x.ok n):x.ok a:=by
 cases x with
 | c x=>exact ou.pB b h
 | g l=>exact λx d=>ou.pB b (h x d)
theorem Sv.pB{n:Nat}(b:n<=a){x:Sv}(h:x.ok n):x.ok a:=by
 cases x with
 | c x=>exact ou.pB b h
 | g l=>exact λx d=>ou.pB b (h x d)
 | t l=>exact λx d=>qc.pB b (h x d)
theorem s7{b:oN}:∀ {env:m7},(a,p)∈qC b env↔∃s,(a,s)∈env/\p=s.den b
 | []=>by simp[qC]
 | (u,s)::r=>by
  simp only[qC,ae,cU,s7 (env:=r)]
  grind
theorem NF{a:oN}(q:oN):∀ {b:m7},(∀p∈b,p.2.ok a.length)->qC (a++q) b=qC a b
 | [],_=>rfl
 | p::r,h=>by
  simp only[qC];rw[Sv.oK q (h p (ao ..)),NF q λx c=>h x (ah _ c)]
structure fx (sft:Nat->Nat) (W:List Nat) (ro:Nat) (w0:Wd) (ρ:oN) (m:Mem) (sz:Nat) (env:m7) (a:db) (w:Wd):Prop where
 lv:qe sz (qC ρ env) a
 ce:∀e∈m,e.1<ρ.length/\e.2.2.ok ρ.length/\w.cell? (O ((ox ρ e.1).1) ((ox ρ e.1).2+e.2.1) Q)=J (e.2.2.den ρ)
 wf:∀p∈env,p.2.ok ρ.length
 bl:∀i,i<ρ.length->(∃c t,w.heap[(ox ρ i).1]?=J (.cells c t (0,0)))/\sft (ox ρ i).1=0
 ij:∀i j,i<ρ.length->j<ρ.length->i≠j->(ox ρ i).1≠(ox ρ j).1
 own:∀i,ro<=i->i<ρ.length->(ox ρ i).1∈W\/w0.heap.size<=(ox ρ i).1
 size:w0.heap.size<=w.heap.size
 old:∀k,k<w0.heap.size->k∉W->w.heap[k]?=w0.heap[k]?
 fit:Fit sft w
 new:∀k,w0.heap.size<=k->sft k=0
abbrev i0:dQ:=Y U 0
abbrev b0:dQ:=Bo false
abbrev s0:dQ:=Sc Q 0 0
abbrev p0:dQ:=Po Q
def tj:List (Nat×Bool×List Vu):=[(3,false,[i0]),(45,false,[i0]),(4,false,[b0]),(103,false,[s0]),(139,false,[s0]),(135,false,[s0]),(115,false,[s0]),(116,false,[s0]),(112,false,[s0]),(88,false,[s0]),(66,false,[s0]),(72,false,[s0]),(83,false,[s0]),(38,false,[s0]),(39,false,[s0]),(142,false,[p0]),(167,false,[p0]),(37,false,[p0]),(58,false,[p0]),(56,false,[p0]),(36,false,[p0]),(40,false,[p0]),(32,false,[p0]),(111,false,[s0]),(133,false,[p0]),(25,true,[i0,i0,i0]),(147,true,[i0,i0]),(144,true,[i0,i0,i0,i0,b0,i0,i0]),(137,true,[i0,i0,i0,b0,s0,s0,s0,s0]),(169,true,[p0,i0,s0]),(27,true,[i0,i0,i0]),(92,true,[i0,i0,i0,i0,i0]),(109,true,[s0,s0,s0]),(118,true,[p0,s0,s0,s0]),(42,true,[p0,p0,s0,s0,p0]),(29,true,[i0,i0,i0,i0,i0,i0,i0,i0,i0,b0]),(23,true,[i0,i0,i0]),(55,true,[s0,s0,s0,s0]),(82,true,[i0,i0,i0,i0,b0,i0,b0,i0,b0,i0,b0,i0,b0,i0,b0,i0,b0,i0,b0,i0]),(71,true,[i0,i0,i0,i0,i0,i0]),(87,true,[i0,i0,i0,i0,i0]),(24,false,[s0]),(68,true,[s0,i0]),(50,false,[s0]),(74,true,[s0,i0]),(51,false,[s0]),(85,true,[s0,i0]),(52,false,[s0]),(90,true,[s0,i0]),(53,false,[s0])]
def GI(t:Nat)(a:Bool)(z:List Vu):Prop:=(V.info? t).map (·.size)=J z.length/\(V.info? t).bind (·.zero)=J (match a with|true=>.agg z.toArray|false=>z.headD Ud)/\(V.underlying t).map (·.isRow)=J a
def sX(t:Nat):List (Nat×Bool×List Vu)->Option (Bool×List Vu)
 | []=>Q
 | (t',x)::r=>match aI t t' with
  | true=>J x
  | false=>sX t r
theorem Jv{x:Bool×List Vu}:∀ {l:List (Nat×Bool×List Vu)},sX a l=J x->(a,x)∈l
 | (t',y)::r,h=>by
  unfold sX at h;split at h
  .simp_all
  .exact ah _ (Jv h)
theorem ZJ:∀p∈tj,GI p.1 p.2.1 p.2.2:=by
 unfold tj
 repeat(refine iA.2 ⟨⟨by kernel_rfl,by kernel_rfl,by kernel_rfl⟩,?_⟩)
 exact λ_ h=>nomatch h
theorem W9{t:Nat}{row:Bool}{z:List Vu}(h:sX t tj=J (row,z)):GI t row z:=ZJ (t,row,z) (Jv h)
def AR:List (Nat×Nat×Nat×Nat):=[(114,0,0,1),(114,1,1,1),(114,2,2,1),(141,3,3,1),(141,4,4,1),(141,5,5,5),(141,6,10,1),(141,7,11,1),(141,8,12,1),(169,0,0,1),(169,1,1,1),(169,2,2,1),(137,0,0,3),(137,1,3,1),(137,2,4,3),(137,3,7,1),(144,0,0,1),(144,1,1,3),(144,2,4,1),(144,3,5,1),(144,4,6,1),(147,0,0,1),(147,1,1,1),(118,0,0,1),(118,1,1,1),(118,2,2,1),(118,3,3,1),(42,0,0,1),(42,1,1,1),(42,2,2,1),(42,3,3,1),(42,4,4,1),(29,0,0,1),(29,1,1,1),(29,2,2,1),(29,3,3,3),(29,4,6,3),(29,5,9,1),(27,0,0,1),(27,1,1,1),(27,2,2,1),(92,0,0,3),(92,1,3,1),(92,2,4,1),(109,0,0,1),(109,1,1,1),(109,2,2,1),(23,0,0,1),(23,1,1,1),(23,2,2,1),(82,0,0,1),(82,1,1,1),(82,2,2,1),(82,3,3,8),(82,4,11,8),(82,5,19,1),(76,0,0,1),(76,1,1,1),(79,0,0,1),(79,1,1,1),(71,0,0,1),(71,1,1,1),(71,2,2,4),(55,0,0,1),(55,1,1,1),(55,2,2,1),(55,3,3,1),(87,0,0,1),(87,1,1,1),(87,2,2,1),(87,3,3,1),(87,4,4,1),(68,0,0,1),(68,1,1,1),(74,0,0,1),(74,1,1,1),(85,0,0,1),(85,1,1,1),(90,0,0,1),(90,1,1,1)]
def yv(t f:Nat):List (Nat×Nat×Nat×Nat)->Option (Nat×Nat)
 | []=>Q
 | (t',f',x)::r=>match aI t t'&&aI f f' with
  | true=>J x
  | false=>yv t f r
theorem IL{x:Nat×Nat}:∀ {l:List (Nat×Nat×Nat×Nat)},yv a b l=J x->(a,b,x)∈l
 | (t',f',y)::r,h=>by
  unfold yv at h;split at h
  .simp_all
  .exact ah _ (IL h)
theorem Mm:∀p∈AR,UI p.1 p.2.1 p.2.2.1:=by
 unfold AR
 repeat(refine iA.2 ⟨λb o w=>(by go_simp),?_⟩)
 exact λ_ h=>nomatch h
def rf:Mem->Nat->Nat->Option ou
 | [],_,_=>Q
 | (i',o',c)::r,i,o=>match aI i i'&&aI o o' with
  | true=>J c
  | false=>rf r i o
def Ao(m:Mem)(i:Nat):Nat->Nat->Option (List ou)
 | 0,_=>J []
 | n+1,o=>match rf m i o with
  | some c=>match Ao m i n (o+1) with
   | some l=>J (c::l)
   | none=>Q
  | none=>Q
def BL(i o:Nat):Mem->Mem->Option Mem
 | [],acc=>J acc
 | (i',o',x)::r,acc=>match aI i i'&&aI o o' with
  | true=>BL i o r acc
  | false=>BL i o r ((i',o',x)::acc)
def stM(i o:Nat)(c:ou)(m:Mem):Option Mem:=match rf m i o with
 | some _=>match BL i o m [] with
  | some a=>J ((i,o,c)::a)
  | none=>Q
 | none=>Q
def zY(i:Nat):Nat->List ou->Mem->Option Mem
 | _,[],m=>J m
 | o,c::l,m=>match stM i o c m with
  | some a=>zY i (o+1) l a
  | none=>Q
def uS:ou->Bool
 | .v x=>x.oneCell'
 | .p _ _=>true
def Is:List qc->Nat->Option Sv
 | [],_=>Q
 | .c x::_,0=>J (.c x)
 | .g l::_,0=>J (.g l)
 | _::r,n+1=>Is r n
def um:Sv->Option (List ou)
 | .c x=>match uS x with
  | true=>J [x]
  | false=>Q
 | .g l=>J l
 | .t _=>Q
def xI:List ou->Nat->List ou->Option (List ou)
 | z,0,[]=>J z
 | _::z,0,c::l=>match xI z 0 l with
  | some a=>J (c::a)
  | none=>Q
 | x::z,n+1,l=>match xI z n l with
  | some a=>J (x::a)
  | none=>Q
 | _,_,_=>Q
def yU(t k:Nat):Option (Nat×Nat):=match aI t 25 with
 | true=>match k with
  | 0=>J (0,1)
  | 1=>J (1,1)
  | 2=>J (2,1)
  | _=>Q
 | false=>yv t k AR
def Ds(t:Nat):List ou->List (Nat×Sv)->Option (List ou)
 | z,[]=>J z
 | z,(k,s)::r=>match yU t k with
  | some (off,n)=>match um s with
   | some l=>match aI l.length n with
    | true=>match xI z off l with
     | some a=>Ds t a r
     | none=>Q
    | false=>Q
   | none=>Q
  | none=>Q
def CB(a:aU->Option Sv):List (Nat×aU)->Option (List (Nat×Sv))
 | []=>J []
 | (k,x)::r=>match a x with
  | some s=>match CB a r with
   | some l=>J ((k,s)::l)
   | none=>Q
  | none=>Q
def Hp:iC->Int->Int->Option Vu
 | .lss,a,b=>J (Bo (decide (a<b)))
 | .leq,a,b=>J (Bo (decide (a<=b)))
 | .gtr,a,b=>J (Bo (decide (b<a)))
 | .geq,a,b=>J (Bo (decide (b<=a)))
 | .eql,a,b=>J (Bo (a==b))
 | .neq,a,b=>J (Bo (a != b))
 | .add,a,b=>J (Y U (IntKind.i64.wrap (a+b)))
 | .sub,a,b=>J (Y U (IntKind.i64.wrap (a - b)))
 | _,_,_=>Q
def IH:iC->Bool->Bool->Option Vu
 | .eql,a,b=>J (Bo (a==b))
 | .neq,a,b=>J (Bo (a != b))
 | _,_,_=>Q
inductive Ef where
 | val (s:Sv)
 | st (i o:Nat) (l:List ou)
 | new (t:Nat) (l:List ou)
def wZ:Option Sv->Option Ef
 | some s=>J (.val s)
 | none=>Q
def Iy:List Nat:=[139,111,103,135,115,116,88,66,72,38,24,83,39,50,51,52,53]
def BO(t:Nat):List Nat->Bool
 | []=>false
 | x::r=>aI t x||BO t r
theorem Ig:∀ {l:List Nat},BO a l=true->a∈l
 | x::r,h=>by
  simp only[BO,da]at h;rcases h with h|h
  .simp_all
  .exact ah _ (Ig h)
theorem RV:∀t∈Iy,∃e,V.underlying t=J (.slice e):=by
 intro t a;simp only[Iy,ae,ai,or_false]at a;rcases a with rfl|rfl|rfl|rfl|rfl|rfl|rfl|rfl|rfl|rfl|rfl|rfl|rfl|rfl|rfl|rfl|rfl<;>exact⟨_,Z⟩
def FR:List Nat:=[25,169,137,144,147,118,42,55,92,71,82,87,68,74,85,90]
def Ih(z:List Vu):Bool:=match z with
 | [.int _ _]=>true
 | [Bo _]=>true
 | [.slice _ _ _]=>true
 | [.pointer _]=>true
 | _=>false
def qN(m:Mem)(e:aU->Option Sv):Op->Option Ef
 | .move x=>wZ (e x)
 | .assign x=>wZ (e x)
 | .pick c x y=>match e c with
  | some (.c (.v (.bool true)))=>wZ (e x)
  | some (.c (.v (Bo false)))=>wZ (e y)
  | _=>Q
 | .unOp .not _ x=>match e x with
  | some (.c (.v (.bool b)))=>J (.val (.c (.v (Bo (!b)))))
  | _=>Q
 | .extract x n=>match e x with
  | some (.t l)=>wZ (Is l n)
  | _=>Q
 | .nilCheck x=>match e x with
  | some (.c (.p i o))=>J (.val (.c (.p i o)))
  | some (.c (.v (Po (J p))))=>J (.val (.c (.v (Po (J p)))))
  | _=>Q
 | .fieldAddr t x f=>match e x with
  | some (.c (.p i o))=>match yv t f AR with
   | some (d,_)=>J (.val (.c (.p i (o+d))))
   | none=>Q
  | some (.c (.v (Po (J (O b o Q)))))=>match yv t f AR with
   | some (d,_)=>J (.val (.c (.v (Po (J (O b (o+d) Q))))))
   | none=>Q
  | _=>Q
 | .load t x=>match e x with
  | some (.c (.p i o))=>match sX t tj with
   | some (false,_)=>match rf m i o with
    | some c=>J (.val (.c c))
    | none=>Q
   | some (true,z)=>match Ao m i z.length o with
    | some l=>J (.val (.g l))
    | none=>Q
   | none=>Q
  | _=>Q
 | .store t x y=>match e x with
  | some (.c (.p i o))=>match sX t tj with
   | some (_,z)=>match e y with
    | some s=>match um s with
     | some l=>match aI l.length z.length&&l.all uS with
      | true=>J (.st i o l)
      | false=>Q
     | none=>Q
    | none=>Q
   | none=>Q
  | _=>Q
 | .alloc t=>match sX t tj with
  | some (true,z)=>J (.new t (z.map .v))
  | some (false,z)=>match Ih z with
   | true=>J (.new t (z.map .v))
   | false=>Q
  | none=>Q
 | .box t x=>match e x with
  | some s=>match um s with
   | some l=>J (.new t l)
   | none=>Q
  | none=>Q
 | .build t j=>match sX t tj with
  | some (true,z)=>match CB e j.toList with
   | some l=>match Ds t (z.map .v) l with
    | some c=>match BO t FR with
     | true=>J (.val (.g c))
     | false=>Q
    | none=>Q
   | none=>Q
  | _=>Q
 | .binOp h t x y _=>match e x,e y with
  | some (.c (.v (.int .i64 a))),some (.c (.v (.int .i64 b)))=>match aI t 3||Nat.beq t 45 with
   | true=>match Hp h a b with
    | some v=>J (.val (.c (.v v)))
    | none=>Q
   | false=>Q
  | some (.c (.v (Bo a))),J (.c (.v (Bo b)))=>match aI t 4 with
   | true=>match IH h a b with
    | some v=>J (.val (.c (.v v)))
    | none=>Q
   | false=>Q
  | _,_=>Q
 | .call c=>match c.callee,c.args.toList,c.argTypes.toList with
  | .builtin .len,[x],[t]=>match e x,BO t Iy with
   | some (.c (.v (.slice _ n _))),true=>J (.val (.c (.v (Y U n))))
   | _,_=>Q
  | _,_,_=>Q
 | _=>Q
def yJ(a:oN)(m:Mem)(w:Wd):Prop:=∀e∈m,e.1<a.length/\e.2.2.ok a.length/\w.cell? (O ((ox a e.1).1) ((ox a e.1).2+e.2.1) Q)=J (e.2.2.den a)
theorem xM{c:ou}:∀ {m:Mem},rf m a b=J c->(a,b,c)∈m
 | (i',o',x)::r,h=>by
  unfold rf at h;split at h
  .simp_all
  .exact ah _ (xM h)
variable{ρ:oN}{m:Mem}
theorem GL(d:yJ ρ m w):∀ {n o:Nat} {l:List ou},Ao m a n o=J l->l.length=n/\(∀x∈l,x.ok ρ.length)/\w.rangeAt (ox ρ a).1 ((ox ρ a).2+o) (l.map (·.den ρ))
 | 0,o,l,h=>by
  cases Ze h;exact⟨Z,λ_ h=>(by cases h),λj v b=>(by cases b)⟩
 | n+1,o,l,h=>by
  unfold Ao at h;split at h
  .next c e =>
   split at h
   .next k f =>
    cases Ze h;let⟨p,q,i⟩:=GL d f;let⟨r,t,u⟩:=d _ (xM e);refine⟨by grind,λx y=>?_,λj v b=>?_⟩
    .grind
    .cases j with
     | zero =>
      grind
     | succ j =>
      have:=i j v b
      grind
   .cases h
  .cases h
theorem FB:∀ {l:List qc} {n:Nat} {s:Sv},Is l n=J s->(∀k,(∀x∈l,x.ok k)->s.ok k)/\(l.map (·.den ρ))[n]?=J (s.den ρ)
 | .c x::r,0,s,h=>by cases Ze h;exact⟨λk h=>h _ (ao ..),Z⟩
 | .g l::r,0,s,h=>by cases Ze h;exact⟨λk h=>h (.g l) (ao ..),Z⟩
 | .c x::r,n+1,s,h=>by
  let⟨a,b⟩:=FB (l:=r) (n:=n) h;exact⟨λk h=>a k λx c=>h x (ah _ c),b⟩
 | .g x::r,n+1,s,h=>by
  let⟨a,b⟩:=FB (l:=r) (n:=n) h;exact⟨λk h=>a k λx c=>h x (ah _ c),b⟩
theorem zM{x:ou}(h:uS x=true):(x.den ρ).oneCell'=true:=by
 cases x with
 | v x=>exact h
 | p i o=>rfl
theorem Xp(h:p.oneCell'=true):p.cells=#[p]:=by cases p<;>first|rfl|cases h
theorem xD{s:Sv}{l:List ou}(h:um s=J l):(s.den ρ).cells=(l.map (·.den ρ)).toArray/\∀k,s.ok k->∀x∈l,x.ok k:=by
 cases s with
 | c x =>
  unfold um at h;simp only at h;split at h
  .next a =>
   cases Ze h;exact⟨Xp (zM a),λk h x a=>by cases Zi a;exact h⟩
  .cases h
 | g b =>
  cases Ze h;exact⟨Z,λk h=>h⟩
 | t l=>cases h
theorem Es:∀ {z:List ou} {b:Nat} {l a:List ou},xI z b l=J a->b+l.length<=z.length/\a.length=z.length/\(∀k,(∀x∈z,x.ok k)->(∀x∈l,x.ok k)->∀x∈a,x.ok k)/\∀j,a[j]?=if b<=j/\j<b+l.length then l[j - b]? else z[j]?
 | z,0,[],a,h=>by
  have h:J z=J a:=by cases z<;>exact h
  grind
 | [],0,c::l,a,h=>by cases h
 | y::z,0,c::l,a,h=>by
  unfold xI at h;split at h
  .next e d =>
   cases Ze h;let⟨f,i,o,p⟩:=Es d
   grind
  .cases h
 | [],n+1,l,a,h=>by cases l<;>cases h
 | y::z,n+1,l,a,h=>by
  have h:(match xI z n l with|some a=>J (y::a)|none=>Q)=J a:=by cases l<;>exact h
  split at h
  .next e d =>
   cases Ze h;let⟨f,i,o,p⟩:=Es d
   grind
  .cases h
theorem FG(b:Nat):∀(l:List Vu) (n:Nat) (a:Array Vu),((l.zipIdx n).foldl (λa (x:Vu×Nat)=>a.setIfInBounds (b+x.2) x.1) a).size=a.size/\∀j,((l.zipIdx n).foldl (λa (x:Vu×Nat)=>a.setIfInBounds (b+x.2) x.1) a)[j]?=if b+n<=j/\j<b+n+l.length/\j<a.size then l[j - b - n]? else a[j]?
 | [],n,a=>⟨Z,λj=>by rw[nR (by simp;omega)];rfl⟩
 | v::l,n,a=>by
  let⟨c,d⟩:=FG b l (n+1) (a.setIfInBounds (b+n) v);rw[jU,List.foldl_cons]
  grind
theorem c9Z{ρ:oN}{z l b:List ou}(h:xI z a l=J b):((l.map (·.den ρ)).toArray.zipIdx.foldl (λc (x:Vu×Nat)=>c.setIfInBounds (a+x.2) x.1) (z.map (·.den ρ)).toArray)=(b.map (·.den ρ)).toArray:=by
 let⟨d,e,_,f⟩:=Es h;rw[Array.zipIdx_toArray,List.foldl_toArray']
 .apply Array.ext_getElem?;intro j;let⟨i,k⟩:=FG a (l.map (·.den ρ)) 0 (z.map (·.den ρ)).toArray
  grind
 .simp
theorem Mg{ρ:oN}:∀ {b:List (Nat×Sv)} {z c:List ou},Ds a z b=J c->(∀k,(∀x∈z,x.ok k)->(∀p∈b,p.2.ok k)->∀x∈c,x.ok k)/\dN (yU a) (z.map (·.den ρ)).toArray (b.map λp=>(p.1,p.2.den ρ))=J (c.map (·.den ρ)).toArray
 | [],z,c,h=>by
  cases Ze h;exact⟨λk d _=>d,Z⟩
 | (k,s)::b,z,c,h=>by
  unfold Ds at h;split at h
  .next v n e =>
   split at h
   .next l o =>
    split at h
    .next f =>
     split at h
     .next y i =>
      let⟨q,r⟩:=xD (ρ:=ρ) o;let⟨A,D,t,E⟩:=Es i;let⟨u,L⟩:=Mg (ρ:=ρ) h;have f:=Zl f;refine⟨λk d j=>u k (t k d (r k (j _ (ao ..)))) λp e=>j p (ah _ e),?_⟩;rw[cZ];unfold dN;simp only[e,q,aR,bC];rw[nR (by simp[f];omega)];have:=c9Z (ρ:=ρ) i
      grind
     .cases h
    .cases h
   .cases h
  .cases h
theorem MF{f:Nat->Option (Nat×Nat)}(h:∀k x,yU a k=J x->f k=J x):∀ {b:List (Nat×Vu)} {z:Array Vu},dN (yU a) z b=J i->dN f z b=J i
 | [],z,hf=>hf
 | (k,v)::r,z,hf=>by
  unfold dN at hf ⊢
  cases c:yU a k with
  | none=>grind
  | some x =>
   rw[c]at hf;rw[h k x c];simp only at hf ⊢;split at hf
   .cases hf
   .next d=>rw[nR d];exact MF h hf
theorem Xm:∀t∈FR,∀z,sX t tj=J (true,z)->∀(a:Array (Nat×Vu)) (b:Array Vu) (w:Wd),dN (yU t) z.toArray a.toList=J b->(iG t a).run V w=.ok (.agg b) w:=by
 intro t c z d a b w e;simp only[FR,ae,ai,or_false]at c;rcases c with rfl|rfl|rfl|rfl|rfl|rfl|rfl|rfl|rfl|rfl|rfl|rfl|rfl|rfl|rfl|rfl <;>
 .obtain⟨_,rfl⟩:=ax (Ze d);unfold iG;go_simp;rw[MF (λk x h=>by rcases k with _|_|_|_|_|_|k<;>first|exact h|cases h) e];rfl
theorem Lg{a:cC}{w:Wd}(e:v.op=.load x z)(f:R.eval z=Po (J a))(b:(V.underlying x).map (·.isRow)=J false)(j:w.cell? a=J p):(Ex R.eval v).run V w=.ok (.value p) w:=by
 unfold Ex
 cases c:V.underlying x with
 | none=>grind
 | some d =>
  rw[c]at b;have h:d.isRow=false:=Ze b;have i:(isAgg x).run V w=.ok false w:=by
   unfold isAgg;simp only[bJ,eT c,aQ];cases d<;>first|rfl|cases h
  simp only[e,f,Instr.loadAt,iF,loadVar,bJ,eH,aQ,i]
  simp_all
theorem Q1{a:iC}{w:Wd}(b:v.op=.binOp a x z A y)(e:(aI x 3||Nat.beq x 45)=true)(c:R.eval z=Y U k)(d:R.eval A=Y U o)(h:Hp a k o=J p) :
  (Ex R.eval v).run V w=.ok (.value p) w/\qG V (λ_=>false) [] false (.binOp a x z A y)=true:=by
 obtain rfl|rfl:x=3\/x=45:=by
  simp_all
 all_goals
  unfold Ex;simp only[b,c,d];unfold Hp at h;split at h<;>first|(cases Ze h;exact⟨by go_simp,by kernel_rfl⟩)|cases h
theorem Qq{a:iC}{w:Wd}(b:v.op=.binOp a x z A y)(c:aI x 4=true)(d:R.eval z=Bo r)(e:R.eval A=Bo t)(h:IH a r t=J p) :
  (Ex R.eval v).run V w=.ok (.value p) w/\qG V (λ_=>false) [] false (.binOp a x z A y)=true:=by
 cases Zl c;unfold Ex;simp only[b,d,e];unfold IH at h;split at h<;>first|(cases Ze h;exact⟨by go_simp<;>cases r<;>cases t<;>rfl,by kernel_rfl⟩)|cases h
theorem AO{x:Option Sv}{s:Sv}(h:wZ x=J (.val s)):x=J s:=by
 cases x with
 | none=>cases h
 | some y =>
  injection h with h
  grind
variable{a:db}{g:aU->Option Sv}
theorem Jy(c:∀x s,g x=J s->a.eval x=s.den ρ/\s.ok ρ.length):∀ {b:List (Nat×aU)} {l:List (Nat×Sv)},CB g b=J l->b.map (λp=>(p.1,a.eval p.2))=l.map (λp=>(p.1,p.2.den ρ))/\∀p∈l,p.2.ok ρ.length
 | [],l,h=>by cases Ze h;grind
 | (k,x)::r,l,h=>by
  unfold CB at h;split at h
  .next s e =>
   split at h
   .next f d =>
    cases Ze h;let⟨i,j⟩:=Jy c d
    grind
   .cases h
  .cases h
theorem Ji(k:∀x s,g x=J s->a.eval x=s.den ρ/\s.ok ρ.length)(hm:yJ ρ m w){s:Sv}(h:qN m g v.op=J (.val s)):((Ex a.eval v).run V w=.ok (.value (s.den ρ)) w/\qG V (λ_=>false) [] false v.op=true)/\s.ok ρ.length:=by
 generalize A:v.op=op at h
 cases op with
 | move x =>
  have o:=k _ _ (AO h);exact⟨⟨X1 A o.1,Z⟩,o.2⟩
 | assign x =>
  have o:=k _ _ (AO h);exact⟨⟨zW A o.1,Z⟩,o.2⟩
 | pick c x y =>
  unfold qN at h;simp only at h;split at h
  .next r =>
   have j:=(k _ _ r).1;have o:=k _ _ (AO h);refine⟨⟨?_,Z⟩,o.2⟩;unfold Ex;simp only[A,j,o.1,Sv.den,ou.den];go_simp
  .next r =>
   have j:=(k _ _ r).1;have o:=k _ _ (AO h);refine⟨⟨?_,Z⟩,o.2⟩;unfold Ex;simp only[A,j,o.1,Sv.den,ou.den];go_simp
  .cases h
 | unOp u t x =>
  unfold qN at h
  cases u with
  | not =>
   simp only at h;split at h
   .next b r =>
    have j:=(k _ _ r).1;injection h with h
    injection h with h
    subst h;refine⟨⟨?_,Z⟩,nQ⟩;unfold Ex;simp only[A,j,Sv.den,ou.den];go_simp
   .cases h
  | _=>cases h
 | extract x n =>
  unfold qN at h;simp only at h;split at h
  .next l r =>
   let⟨j,D⟩:=k _ _ r;let⟨R,N⟩:=FB (ρ:=ρ) (AO h);exact⟨⟨FA A j (by simpa using N),Z⟩,R _ D⟩
  .cases h
 | nilCheck x =>
  unfold qN at h;simp only at h;split at h
  .next i L r =>
   let⟨j,D⟩:=k _ _ r;injection h with h
   injection h with h
   subst h;refine⟨⟨?_,Z⟩,D⟩;unfold Ex;simp only[A,j,Sv.den,ou.den];rfl
  .next p r =>
   let⟨j,D⟩:=k _ _ r;injection h with h
   injection h with h
   subst h;refine⟨⟨?_,Z⟩,D⟩;unfold Ex;simp only[A,j,Sv.den,ou.den];rfl
  .cases h
 | fieldAddr t x f =>
  unfold qN at h;simp only at h;split at h
  .next i L r =>
   let⟨j,D⟩:=k _ _ r;split at h
   .next d n S =>
    injection h with h
    injection h with h
    subst h;refine⟨⟨?_,Z⟩,D⟩;have:=Mm (t,f,d,n) (IL S) (ox ρ i).1 ((ox ρ i).2+L) w;unfold Ex;simp only[A,j,Sv.den,ou.den,bJ,this,aQ]
    simp_all
   .cases h
  .next b L r =>
   let⟨j,D⟩:=k _ _ r;split at h
   .next d n S =>
    injection h with h
    injection h with h
    subst h;refine⟨⟨?_,Z⟩,D⟩;have:=Mm (t,f,d,n) (IL S) b L w;unfold Ex;simp only[A,j,Sv.den,ou.den,bJ,this,aQ];rfl
   .cases h
  .cases h
 | load t x =>
  unfold qN at h;simp only at h;split at h
  .next i L r =>
   let⟨j,D⟩:=k _ _ r;split at h
   .next z E =>
    let⟨t1,t2,P⟩:=W9 E;split at h
    .next c T =>
     injection h with h
     injection h with h
     subst h;let⟨R,N,W⟩:=hm _ (xM T);exact⟨⟨Lg A j P W,Z⟩,N⟩
    .cases h
   .next z E =>
    let⟨t1,t2,P⟩:=W9 E;split at h
    .next l G =>
     injection h with h
     injection h with h
     subst h;let⟨R,N,W⟩:=GL hm G;refine⟨⟨?_,Z⟩,N⟩
     cases hd:V.underlying t with
     | none=>grind
     | some d =>
      rw[hd]at P;have:=run_loadAt_mid (P:=V) w (ox ρ i).1 ((ox ρ i).2+L) t (l.map (·.den ρ)) d W hd (Ze P) (by grind);unfold Ex;simp only[A,j,Sv.den,ou.den,bJ,this,aQ];rfl
    .cases h
   .cases h
  .cases h
 | store t x y =>
  unfold qN at h;simp only at h
  repeat(split at h<;>first|cases h|skip)
 | alloc t =>
  unfold qN at h;simp only at h
  repeat' split at h
  all_goals cases h
 | box t x =>
  unfold qN at h;simp only at h
  repeat' split at h
  all_goals cases h
 | build t ps =>
  unfold qN at h;simp only at h;split at h
  .next z E =>
   split at h
   .next l G =>
    split at h
    .next c T =>
     split at h
     .next r =>
      injection h with h
      injection h with h
      subst h;let⟨p1,p2⟩:=Jy k G;let⟨f1,f2⟩:=Mg (ρ:=ρ) T;refine⟨⟨?_,Z⟩,f1 _ (λx o=>by obtain⟨y,_,rfl⟩:=dn.1 o;trivial) p2⟩;have j:(z.map ou.v).map (·.den ρ)=z:=by rw[mF];exact lM _
      rw[j]at f2;have:=Xm t (Ig r) z E (ps.map λp=>(p.1,a.eval p.2)) _ w (by rw[gM,p1];exact f2);unfold Ex;simp only[A,Sv.den,bJ];have D:(iG t (ps.map λ(x:Nat×aU)=>(x.1,a.eval x.2))).run V w=_:=this;simp only[D,aQ];rfl
     .cases h
    .cases h
   .cases h
  .cases h
 | binOp op t x y u =>
  unfold qN at h;simp only at h;split at h
  .next p q o M =>
   split at h
   .next E =>
    split at h
    .next a' X =>
     injection h with h
     injection h with h
     subst h;exact⟨Q1 A E (k _ _ o).1 (k _ _ M).1 X,nQ⟩
    .cases h
   .cases h
  .next p q o M =>
   split at h
   .next E =>
    split at h
    .next a' X =>
     injection h with h
     injection h with h
     subst h;exact⟨Qq A E (k _ _ o).1 (k _ _ M).1 X,nQ⟩
    .cases h
   .cases h
  .cases h
 | call c =>
  let⟨f',d',e'⟩:=c;unfold qN at h;simp only at h;split at h
  .next x t ha hs =>
   split at h
   .next ad n cp o E =>
    injection h with h
    injection h with h
    subst h;let⟨e,hu⟩:=RV t (Ig E);have ea:d'=#[x]:=by grind
    have es:e'=#[t]:=by grind
    subst ea es;exact⟨⟨Ue A hu (k _ _ o).1,Z⟩,nQ⟩
   .cases h
  .cases h
 | _=>cases h
def sM(b:Wd)(W:List Nat)(p:cC)(v:Vu):Prop:=p.block<b.heap.size/\p.block∉W/\b.cell? p=J v
def vO(c:Wd)(W:List Nat)(b o:Nat)(l:List Vu):Prop:=b<c.heap.size/\b∉W/\c.rangeAt b o l
def CO:List (Nat×Nat):=[(139,1),(111,1),(103,1),(135,2),(115,8),(116,1),(112,1),(88,5),(66,6),(72,20),(38,1),(39,1),(24,10),(83,5),(50,2),(51,2),(52,2),(53,2)]
def AM(t:Nat):List (Nat×Nat)->Option Nat
 | []=>Q
 | (t',z)::r=>match aI t t' with
  | true=>J z
  | false=>AM t r
theorem GB:∀ {l:List (Nat×Nat)},AM b l=J c->(b,c)∈l
 | (t',z')::r,h=>by
  unfold AM at h;split at h
  .simp_all
  .exact ah _ (GB h)
def Gu(t z:Nat):Prop:=∃e,V.underlying t=J (.slice e)/\(V.info? e).map (·.size)=J z
theorem Nb:∀p∈CO,Gu p.1 p.2:=by
 unfold CO
 repeat(refine iA.2 ⟨⟨_,Z,by kernel_rfl⟩,?_⟩)
 exact λ_ h=>nomatch h
theorem Fi(h:(V.info? b).map (·.size)=J c)(w:Wd):(sizeOf b).run V w=.ok c w:=by
 cases d:V.info? b with
 | none=>grind
 | some i =>
  rw[d]at h;have:i.size=c:=Ze h;simp[sizeOf,typeInfo,d,this]
theorem c0G(h:Gu d e){b o n c:Nat}{k:iR}{j:Int}(f:0<=j)(i:j<n)(w:Wd):(gj d (Sc (J (O b o Q)) n c) (.int k j)).run V w=.ok (Po (J (O b (o+j.toNat*e) Q))) w:=by
 let⟨t,p,q⟩:=h;have r:=Fi q w;simp[gj,eT p,asIntOf,f,i,r,kS]
def zc(t n z:Nat):Prop:=∃e,V.underlying t=J (.array n e)/\(V.info? e).map (·.size)=J z
theorem Yn:zc 25 3 1:=⟨3,by kernel_rfl,by kernel_rfl⟩
theorem Kh:zc 77 4 2:=⟨76,by kernel_rfl,by kernel_rfl⟩
theorem Le:zc 80 4 2:=⟨79,by kernel_rfl,by kernel_rfl⟩
theorem IA{n:Nat}(h:zc c n d){b o:Nat}{k:iR}{j:Int}(f:0<=j)(i:j<n)(w:Wd):(gj c (Po (J (O b o Q))) (.int k j)).run V w=.ok (Po (J (O b (o+j.toNat*d) Q))) w:=by
 let⟨e,p,q⟩:=h;have r:=Fi q w;simp[gj,iF,eT p,asIntOf,f,i,r,kS]
theorem QR(h:Gu d e){b o n c:Nat}{k:iR}{j:Int}(f:0<=j)(i:j<=n)(w:Wd):(iT d (Sc (J (O b o Q)) n c) (J (.int k j)) Q Q).run V w=.ok (.slice (if c=j.toNat then J (O b o Q) else J (O b (o+j.toNat*e) Q)) (n - j.toNat) (c - j.toNat)) w:=by
 let⟨u,p,t⟩:=h;have q:=Fi t w
 by_cases r:c=j.toNat
 .simp[iT,mG,ju,jJ,eT p,asIntOf,f,i,q,r]
 .simp[iT,mG,ju,jJ,eT p,asIntOf,f,i,q,r,kS]
theorem Ej{o:aN}{a:db}(j:o.op=.alloc b)(h:GI b r N)(d:r=false->(N.headD Ud).cells=N.toArray)(w:Wd)(f:Array dr) :
  (Ex a.eval o).runT V w f=(.ok (.value (Po (J (O w.heap.size 0 Q)))) (w.alloc (.cells N.toArray b (0,0))),f):=by
 let⟨k,c,_⟩:=h
 cases e:V.info? b with
 | none=>grind
 | some i =>
  rw[e]at c;have c:i.zero=J _:=c;unfold Ex;simp only[j,Instr.alloc,zeroValue,typeInfo]
  cases r with
  | true =>
   simp[aP,e,c,newVar,newRow,newObj,gv];exact⟨Z,Z⟩
  | false =>
   have d:=d Z;rw[List.headD_eq_head?_getD]at d;simp[aP,e,c,newVar,newRow,newObj,d];exact⟨Z,Z⟩
theorem ZB{a:db}(d:v.op=.box b z)(e:a.eval z=p)(w:Wd)(c:Array dr):(Ex a.eval v).runT V w c=(.ok (.value (Po (J (O w.heap.size 0 Q)))) (w.alloc (.cells p.cells b (0,0))),c):=by
 unfold Ex;simp only[d,e,Instr.box];simp[aP,newVar,newRow,newObj];exact⟨Z,Z⟩
theorem Um(h:Ih N=true):(N.headD Ud).cells=N.toArray:=by
 unfold Ih at h;split at h<;>first|rfl|cases h
theorem Yv{a:db}{w:Wd}(o:v.op=.store b z A)(q:a.eval z=Po (J (O c d Q)))(r:a.eval A=p)(t:p.cells=N.toArray)(f:w.there c d N.length)(h:(V.info? b).map (·.size)=J N.length)(u:∀x∈N,x.oneCell'=true) :
  (Ex a.eval v).run V w=.ok .skip (w.setCells c d N):=by
 have:=jZ (P:=V) c d N 0 w (λj e=>by simpa using(f j e).1) (λj e=>by simpa using(f j e).2) u;simp only[kH]at this
 cases k:V.info? b with
 | none=>grind
 | some i =>
  rw[k]at h;have y:i.size=N.length:=Ze h;unfold Ex;simp only[o,q,r,Instr.storeAt,iF,bJ,eH,aQ];simp[storeVar,sizeOf,typeInfo,k,t,y,this]
def tV:m7->Nat->Option Sv
 | [],_=>Q
 | (u,s)::r,t=>match aI t u with
  | true=>J s
  | false=>tV r t
def ql(b:m7):aU->Option Sv
 | .tmp t=>tV b t
 | .const c=>J (.c (.v c))
 | _=>Q
def Ev(D:Nat):m7->Bool
 | []=>true
 | p::r=>!(aI p.1 D)&&Ev D r
def tJ(D:Nat):m7->m7->Option m7
 | [],acc=>J acc
 | (t,v)::r,acc=>match aI t D with
  | true=>tJ D r acc
  | false=>tJ D r ((t,v)::acc)
def qU(D:Nat)(v:Sv)(b:m7):Option m7:=match Ev D b with
 | true=>J ((D,v)::b)
 | false=>match tJ D b [] with
  | some e=>J ((D,v)::e)
  | none=>Q
theorem xe{s:Sv}:∀ {c:m7},tV c b=J s->(b,s)∈c
 | (u,x)::r,h=>by
  unfold tV at h;split at h
  .simp_all
  .exact ah _ (xe h)
theorem Lj:∀ {c:m7},Ev b c=true->∀p∈c,p.1≠b
 | p::r,h,q,hq=>by
  simp only[Ev,aC,Bool.not_eq_true']at h;rcases ae.1 hq with rfl|hq
  .exact λe=>by simp_all
  .exact Lj h.2 q hq
theorem BG:∀ {f c d:m7},tJ b f c=J d->∀p∈d,(p∈f/\p.1≠b)\/p∈c
 | [],c,d,h,p,hp=>by
  cases Ze h;exact .inr hp
 | (t,v)::r,c,d,h,p,hp=>by
  unfold tJ at h;split at h
  .rcases BG h p hp with h|h
   .exact .inl ⟨ah _ h.1,h.2⟩
   .exact .inr h
  .next i =>
   rcases BG h p hp with h|h
   .exact .inl ⟨ah _ h.1,h.2⟩
   .rcases ae.1 h with rfl|h
    .exact .inl ⟨ao ..,λe=>by simp_all⟩
    .exact .inr h
theorem Cg{v:Sv}{d f:m7}(h:qU b v d=J f):∀p∈f,p=(b,v)\/(p∈d/\p.1≠b):=by
 unfold qU at h;split at h
 .next i =>
  cases Ze h;intro p c;rcases ae.1 c with rfl|c
  .exact .inl Z
  .exact .inr ⟨c,Lj i p c⟩
 .split at h
  .next e j =>
   cases Ze h;intro p c;rcases ae.1 c with rfl|c
   .exact .inl Z
   .exact .inr ((BG j p c).resolve_right Zc)
  .cases h
theorem GQ:∀ {m d f:Mem},BL b c m d=J f->∀e∈f,(e∈m/\¬(e.1=b/\e.2.1=c))\/e∈d
 | [],d,f,h,p,hp=>by
  cases Ze h;exact .inr hp
 | (i',o',x)::r,d,f,h,p,hp=>by
  unfold BL at h;split at h
  .rcases GQ h p hp with h|h
   .exact .inl ⟨ah _ h.1,h.2⟩
   .exact .inr h
  .next i =>
   rcases GQ h p hp with h|h
   .exact .inl ⟨ah _ h.1,h.2⟩
   .rcases ae.1 h with rfl|h
    .refine .inl ⟨ao ..,λe=>?_⟩
     simp_all
    .exact .inr h
theorem Gg:∀ {l:List ou} {o:Nat} {m i:Mem},zY b o l m=J i->(∀j,j<l.length->∃c,(b,o+j,c)∈m)/\∀e∈i,(e.1=b/\∃j,e.2.1=o+j/\l[j]?=J e.2.2)\/(e∈m/\¬(e.1=b/\o<=e.2.1/\e.2.1<o+l.length))
 | [],o,m,i,h=>by
  cases Ze h
  grind
 | c::l,o,m,i,h=>by
  unfold zY at h;split at h
  .next D f =>
   unfold stM at f;split at f
   .next p q =>
    split at f
    .next E r =>
     cases Ze f;have d:=GQ r;let⟨t,u⟩:=Gg h;refine⟨λj v=>?_,λe y=>?_⟩
     .cases j with
      | zero=>exact⟨p,xM q⟩
      | succ j =>
       let⟨x,L⟩:=t j (by simpa using v)
       grind
     .rcases u e y with⟨k,j,z,A⟩|⟨k,z⟩
      .exact .inl ⟨k,j+1,by omega,A⟩
      .rcases ae.1 k with rfl|k
       all_goals grind
    .cases f
   .cases f
  .cases h
variable{u:Nat->Nat}{W:List Nat}{B:Nat}{A:Wd}{sz:Nat}{env:m7}
theorem fx.rd(M:fx u W B A ρ m sz env a w){x:aU}{s:Sv}(h:ql env x=J s):a.eval x=s.den ρ/\s.ok ρ.length:=by
 unfold ql at h;split at h
 .next t =>
  have b:=xe h;refine⟨?_,M.wf _ b⟩;have:=M.lv.has _ (s7.2 ⟨s,b,Z⟩);show a.tmps.getD t Ud=_
  simp_all
 .cases Ze h;exact⟨Z,nQ⟩
 .cases h
theorem fx.put(M:fx u W B A ρ m sz env a w)(j:b<sz){s:Sv}(k:s.ok ρ.length){f:m7}(h:qU b s env=J f):fx u W B A ρ m sz f (a.put (J b) (s.den ρ)) w:=by
 have i:=Cg h;refine⟨⟨by simp[dK,M.lv.size],M.lv.defers,λp c=>?_⟩,M.ce,λp c=>?_,M.bl,M.ij,M.own,M.size,M.old,M.fit,M.new⟩
 .let⟨t,v⟩:=p;obtain⟨o,q,rfl⟩:=s7.1 c;rcases i _ q with e|⟨d,r⟩
  .injection e with x y
   subst x y;simp[dK,M.lv.size,j]
  .simp only[dK];rw[cX (aA r)];exact M.lv.has _ (s7.2 ⟨o,d,Z⟩)
 .rcases i _ c with rfl|⟨d,_⟩
  .exact k
  .exact M.wf _ d
theorem fx.store(M:fx u W B A ρ m sz env a w){l:List ou}{p:Mem}(y:B<=b)(d:b<ρ.length)(h:zY b c l m=J p)(a':∀x∈l,x.ok ρ.length)(z:f.heap.size=w.heap.size)(i:∀k,k≠(ox ρ b).1->f.heap[k]?=w.heap[k]?)(D:∃E t,f.heap[(ox ρ b).1]?=J (.cells E t (0,0)))(h1:∀j x,l[j]?=J x->f.cell? (O ((ox ρ b).1) ((ox ρ b).2+(c+j)) Q)=J (x.den ρ))(h2:∀q,q<(ox ρ b).2+c\/(ox ρ b).2+c+l.length<=q->f.cell? (O ((ox ρ b).1) q Q)=w.cell? (O ((ox ρ b).1) q Q))(L:Fit u f):fx u W B A ρ p sz env a f:=by
 let⟨g1,N⟩:=Gg h;refine⟨M.lv,λe P=>?_,M.wf,λj o=>⟨?_,(M.bl j o).2⟩,M.ij,M.own,by rw[z];exact M.size,λk R S=>?_,L,M.new⟩
 .rcases N e P with⟨r,j,T,e3⟩|⟨r,T⟩
  .grind
  .let⟨v,G,X⟩:=M.ce e r;refine⟨v,G,?_⟩
   by_cases e4:e.1=b
   .grind
   .rw[←X];exact Zf (w:=w) (i _ (M.ij _ _ v d e4))
 .by_cases e:j=b
  .subst e;exact D
  .rw[i _ (M.ij _ _ o d e)];exact(M.bl j o).1
 .rw[i k λe=>?_]
  .exact M.old k R S
  .rcases M.own b y d with q|q
   all_goals grind
abbrev pW:=List (List Vu)
abbrev Au:Option Prop->Prop
 | none=>True
 | some c=>c
def Aq(C:Prop):Option Prop->Prop
 | none=>C
 | some c=>C/\c
theorem yN{C:Prop}{c:Option Prop}(h:Aq C c):C/\Au c:=by
 cases c with
 | none=>exact⟨h,nQ⟩
 | some c=>exact h
def d0E:Op->Bool
 | .binOp ..=>true
 | _=>false
def IC:Ef->pW->Option (Bool×pW×Bool)
 | .val (.c (.v (Bo z))),[Bo b,Bo _]::r=>J (b,r,z)
 | _,_=>Q
theorem c7h{b c:pW}{e:Ef}(h:IC e b=J (r,c,t)):e=.val (.c (.v (Bo t))):=by
 unfold IC at h;split at h
 .grind
 .cases h
def zE(A:Wd)(W:List Nat)(m:Mem)(g:aU->Option Sv)(d:pW)(f:Op):Option (Ef×pW×Option Prop):=match qN m g f with
 | some e=>match d0E f with
  | true=>match IC e d with
   | some (b,r,z)=>J (.val (.c (.v (Bo b))),r,J (z=b))
   | none=>J (e,d,Q)
  | false=>J (e,d,Q)
 | none=>match f with
  | .indexAddr t x ix=>match g x,g ix with
   | some (.c (.v (.slice (some ⟨b,o,none⟩) n _))),some (.c (.v (.int _ j)))=>match AM t CO with
    | some z=>J (.val (.c (.v (Po (J (O b (o+j.toNat*z) Q))))),d,J (0<=j/\j<n))
    | none=>Q
   | some (.c (.p i o)),J (.c (.v (.int _ j)))=>match aI t 25 with
    | true=>J (.val (.c (.p i (o+j.toNat*1))),d,J (0<=j/\j<(3:Nat)))
    | false=>match aI t 77||Nat.beq t 80 with
     | true=>J (.val (.c (.p i (o+j.toNat*2))),d,J (0<=j/\j<(4:Nat)))
     | false=>Q
   | some (.c (.v (Po (J (O b o Q))))),J (.c (.v (.int _ j)))=>match aI t 77||Nat.beq t 80 with
    | true=>J (.val (.c (.v (Po (J (O b (o+j.toNat*2) Q))))),d,J (0<=j/\j<(4:Nat)))
    | false=>Q
   | _,_=>Q
  | .load t x=>match g x,d with
   | some (.c (.v (.pointer (some ⟨b,o,none⟩)))),l::r=>match sX t tj with
    | some (false,_)=>match l with
     | [v]=>J (.val (.c (.v v)),r,J (sM A W (O b o Q) v))
     | _=>Q
    | some (true,z)=>match aI l.length z.length with
     | true=>J (.val (.g (l.map .v)),r,J (vO A W b o l))
     | false=>Q
    | none=>Q
   | _,_=>Q
  | .slice t x (J lo) Q Q=>match g x,g lo with
   | some (.c (.v (.slice (some ⟨b,o,none⟩) n c))),some (.c (.v (.int _ j)))=>match AM t CO with
    | some z=>J (.val (.c (.v (.slice (if c=j.toNat then J (O b o Q) else J (O b (o+j.toNat*z) Q)) (n - j.toNat) (c - j.toNat)))),d,J (0<=j/\j<=n))
    | none=>Q
   | _,_=>Q
  | _=>Q
theorem HP{A:Wd}{W:List Nat}{m:Mem}{g:aU->Option Sv}{c d:pW}{b:Op}{e:Ef}{C:Option Prop}(h:zE A W m g c b=J (e,d,C)):qN m g b=J e\/∃s,e=.val s:=by
 unfold zE at h;split at h
 .repeat' split at h
  all_goals grind
 .right
  repeat' split at h
  all_goals grind
theorem FM{A w:Wd}{W:List Nat}{ρ:oN}{m:Mem}{a:db}{g:aU->Option Sv}{X a':pW}{s:Sv}{C:Option Prop}(E:∀x s,g x=J s->a.eval x=s.den ρ/\s.ok ρ.length)(hm:yJ ρ m w)(c':∀k,k<A.heap.size->k∉W->w.heap[k]?=A.heap[k]?)(h:zE A W m g X v.op=J (.val s,a',C))(o:Au C) :
  ((Ex a.eval v).run V w=.ok (.value (s.den ρ)) w/\qG V (λ_=>false) [] false v.op=true)/\s.ok ρ.length:=by
 unfold zE at h;split at h
 .next e G =>
  have no:J (e,X,Q)=J (Ef.val s,a',C)->_:=λh=>by
   obtain⟨rfl,_⟩:=ax (Ze h);exact Ji E hm G
  split at h
  .split at h
   .next b r z T =>
    let⟨f,q⟩:=ax (Ze h);obtain⟨_,rfl⟩:=ax q;injection f with f
    subst f;have o:z=b:=o;subst o;rw[c7h T]at G;exact Ji E hm G
   .exact no h
  .exact no h
 generalize S:v.op=op at h
 cases op with
 | indexAddr t x ix =>
  simp only at h;split at h
  .next b D n c k j L R =>
   let⟨N,_⟩:=E _ _ L;let⟨P,_⟩:=E _ _ R;split at h
   .next z T =>
    let⟨f,q⟩:=ax (Ze h);obtain⟨_,rfl⟩:=ax q;injection f with f
    subst f;refine⟨⟨?_,Z⟩,nQ⟩;have:=c0G (Nb (t,z) (GB T)) (b:=b) (o:=D) (c:=c) (k:=k) o.1 o.2 w;unfold Ex;simp only[S,N,P,Sv.den,ou.den,bJ,this,aQ];rfl
   .cases h
  .next i D k j L R =>
   let⟨N,d'⟩:=E _ _ L;let⟨P,_⟩:=E _ _ R;split at h
   .next p =>
    cases Zl p;let⟨f,q⟩:=ax (Ze h);obtain⟨_,rfl⟩:=ax q;injection f with f
    subst f;refine⟨⟨?_,Z⟩,d'⟩;have:=IA Yn (b:=(ox ρ i).1) (o:=(ox ρ i).2+D) (k:=k) o.1 o.2 w;unfold Ex;simp only[S,N,P,Sv.den,ou.den,bJ,this,aQ]
    simp_all
   .split at h
    .next p =>
     have M:zc t 4 2:=by
      simp only[da]at p;rcases p with p|p
      .rw[Zl p];exact Kh
      .rw[Zl p];exact Le
     let⟨f,q⟩:=ax (Ze h);obtain⟨_,rfl⟩:=ax q;injection f with f
     subst f;refine⟨⟨?_,Z⟩,d'⟩;have:=IA M (b:=(ox ρ i).1) (o:=(ox ρ i).2+D) (k:=k) o.1 o.2 w;unfold Ex;simp only[S,N,P,Sv.den,ou.den,bJ,this,aQ]
     simp_all
    .cases h
  .next b D k j L R =>
   let⟨N,_⟩:=E _ _ L;let⟨P,_⟩:=E _ _ R;split at h
   .next p =>
    have M:zc t 4 2:=by
     simp only[da]at p;rcases p with p|p
     .rw[Zl p];exact Kh
     .rw[Zl p];exact Le
    let⟨f,q⟩:=ax (Ze h);obtain⟨_,rfl⟩:=ax q;injection f with f
    subst f;refine⟨⟨?_,Z⟩,nQ⟩;have:=IA M (b:=b) (o:=D) (k:=k) o.1 o.2 w;unfold Ex;simp only[S,N,P,Sv.den,ou.den,bJ,this,aQ];rfl
   .cases h
  .cases h
 | load t x =>
  simp only at h;split at h
  .next b D l r L =>
   let⟨N,_⟩:=E _ _ L;split at h
   .next z p =>
    split at h
    .next b' =>
     let⟨f,q⟩:=ax (Ze h);obtain⟨_,rfl⟩:=ax q;injection f with f
     subst f;exact⟨⟨Lg S N (W9 p).2.2 ((Zf (w:=A) (c' _ o.1 o.2.1)).trans o.2.2),Z⟩,nQ⟩
    .cases h
   .next z p =>
    split at h
    .next hl =>
     let⟨f,q⟩:=ax (Ze h);obtain⟨_,rfl⟩:=ax q;injection f with f
     subst f;let⟨t1,t2,t3⟩:=W9 p;refine⟨⟨?_,Z⟩,λx L=>by obtain⟨y,_,rfl⟩:=dn.1 L;trivial⟩
     cases hd:V.underlying t with
     | none=>grind
     | some d =>
      rw[hd]at t3;have:=run_loadAt_mid (P:=V) w b D t l d (λj b' hv=>(Zf (w:=A) (a:=(O b (D+j) Q)) (c' _ o.1 o.2.1)).trans (o.2.2 j b' hv)) hd (Ze t3) (by simp_all);have e3:(l.map ou.v).map (·.den ρ)=l:=by rw[mF];exact lM _
      have e4:(Sv.g (l.map ou.v)).den ρ=.agg l.toArray:=by simp only[Sv.den,e3]
      rw[e4];have e5:a.eval x=Po (J (O b D Q)):=N;unfold Ex
      simp_all
    .cases h
   .cases h
  .cases h
 | slice t x lo R mx =>
  cases lo with
  | none=>cases h
  | some lo =>
  cases R with
  | some _=>cases h
  | none =>
  cases mx with
  | some _=>cases h
  | none =>
  simp only at h;split at h
  .next b D n c k j L hl =>
   let⟨N,_⟩:=E _ _ L;let⟨P,_⟩:=E _ _ hl;split at h
   .next z T =>
    let⟨f,q⟩:=ax (Ze h);obtain⟨_,rfl⟩:=ax q;injection f with f
    subst f;refine⟨⟨?_,Z⟩,nQ⟩;have:=QR (Nb (t,z) (GB T)) (b:=b) (o:=D) (c:=c) (k:=k) o.1 o.2 w;unfold Ex;simp only[S,N,P,aF,Option.map_none,Sv.den,ou.den,bJ,this,aQ];rfl
   .cases h
  .cases h
 | _=>grind
def yw(n:Nat):Nat->List ou->Mem->Mem
 | _,[],m=>m
 | j,v::r,m=>(n,j,v)::yw n (j+1) r m
theorem MP{n:Nat}:∀ {z:List ou} {j:Nat} {m:Mem} {e:Nat×Nat×ou},e∈yw n j z m->e∈m\/∃i v,z[i]?=J v/\e=(n,j+i,v)
 | [],j,m,e,h=>.inl h
 | v::r,j,m,e,h=>by
  rcases ae.1 h with rfl|h
  .simp_all
  .rcases MP h with h|⟨i,x,b,rfl⟩
   .exact .inl h
   .exact .inr ⟨i+1,x,b,by grind⟩
theorem R7(M:fx u W B A ρ m sz env a w){i:Nat}(h:i<ρ.length):(ox ρ i).1<w.heap.size:=by
 let⟨⟨c,t,b⟩,_⟩:=M.bl i h
 grind
theorem fx.alloc(M:fx u W B A ρ m sz env a w)(l:List ou)(R:∀x∈l,x.ok ρ.length)(t:Nat):fx u W B A (ρ++[(w.heap.size,0)]) (yw ρ.length 0 l m) sz env a (w.alloc (.cells (l.map (·.den ρ)).toArray t (0,0))):=by
 generalize hz:l.map (·.den ρ)=z;have r:∀k,k<w.heap.size->(w.alloc (.cells z.toArray t (0,0))).heap[k]?=w.heap[k]?:=λk d=>aK w _ k d;have E:=cE w (.cells z.toArray t (0,0));have b':(w.alloc (.cells z.toArray t (0,0))).heap.size=w.heap.size+1:=by simp
 have y:(ρ++[(w.heap.size,0)]).length=ρ.length+1:=by simp
 have f:∀i,i<ρ.length+1->i<ρ.length\/i=ρ.length:=λi h=>by omega
 refine⟨by rw[NF _ M.wf];exact M.lv,λe D=>?_,λp S=>Sv.pB Za (M.wf p S),λi b=>?_,λi j b o T=>?_,λi G b=>?_,by have:=M.size;omega,λk L X=>?_,⟨λj o=>?_,nQ⟩,M.new⟩
 .rcases MP D with D|⟨j,v,hv,rfl⟩
  .let⟨N,P,c3⟩:=M.ce e D;rw[T6 _ _ _ N,ou.oK _ P];exact⟨by omega,ou.pB Za P,(Zf (w:=w) (r _ (R7 M N))).trans c3⟩
  .have d:=R v (cP hv);refine⟨by simp,ou.pB Zc d,?_⟩;show aD _ (O ((ox _ ρ.length).1) ((ox _ ρ.length).2+(0+j)) Q)=_;rw[tM,aE,aE,ou.oK _ d];simp only[aD,E]
   grind
 .rw[y]at b;rcases f i b with h|rfl
  .rw[T6 _ _ _ h,r _ (R7 M h)];exact M.bl i h
  .rw[tM];exact⟨⟨_,_,E⟩,M.new _ M.size⟩
 .rw[y]at b o;rcases f i b with h|rfl<;>rcases f j o with q|rfl
  .rw[T6 _ _ _ h,T6 _ _ _ q];exact M.ij i j h q T
  .rw[T6 _ _ _ h,tM];exact dA (R7 M h)
  .rw[T6 _ _ _ q,tM];exact Nat.ne_of_gt (R7 M q)
  grind
 .rw[y]at b;rcases f i b with h|rfl
  .rw[T6 _ _ _ h];exact M.own i G h
  .rw[tM];exact .inr M.size
 .rw[r k (Zg L M.size)];exact M.old k L X
 .let⟨c,t,hc⟩:=M.fit.soft j o
  grind
structure Sm where
 m:Mem
 env:m7
 n:Nat
 qL:pW
 cond:Prop
def Cx(b:Array aN)(env:m7)(o:aN):Option Bool:=match o.guard with
 | none=>J true
 | some (j,y)=>match b[j]? with
  | some c=>match c.dst with
   | some t=>match tV env t with
    | some (.c (.v (.bool x)))=>J (x==y)
    | _=>Q
   | none=>Q
  | none=>Q
def wI:Sm->Nat->Nat->Sv->Option Sm
 | ⟨m,env,n,qL,C⟩,sz,D,v=>match cJ D sz with
  | true=>match qU D v env with
   | some e=>J ⟨m,e,n,qL,C⟩
   | none=>Q
  | false=>Q
def Az(A:Wd)(W:List Nat)(B:Nat)(b:Array aN)(sz i:Nat):Sm->Option Sm
 | ⟨m,env,n,qL,cond⟩=>match b[i]? with
 | some o=>match Cx b env o with
  | some true=>match zE A W m (ql env) qL o.op with
   | some (.val v,orc',C)=>match o.dst with
    | some D=>wI ⟨m,env,n,orc',Aq cond C⟩ sz D v
    | none=>Q
   | some (.st j off l,_,_)=>match o.dst,o.guard with
    | none,none=>match ga B j&&cJ j n with
     | true=>match zY j off l m with
      | some c=>J ⟨c,env,n,qL,cond⟩
      | none=>Q
     | false=>Q
    | _,_=>Q
   | some (.new t z,_,_)=>match o.dst,o.guard with
    | some D,none=>wI ⟨yw n 0 z m,env,n+1,qL,cond⟩ sz D (.c (.p n 0))
    | _,_=>Q
   | none=>Q
  | some false=>match o.dst with
   | some D=>wI ⟨m,env,n,qL,cond⟩ sz D (.c (.v Ud))
   | none=>Q
  | none=>Q
 | none=>Q
theorem Iz{a:db}{d:aN}(e:v.guard=J (b,t))(f:P[b]?=J d)(h:d.dst=J c)(i:a.tmps[c]?=J (Bo r)):bR v (fA P a.tmps)=(r==t):=by
 unfold bR;rw[e];simp only[fA,f,Option.bind_some,h,i]
 grind
theorem zi{u:Nat->Nat}{w:Wd}{a:db}{Stop:Gr->Wd->Prop}{f:bF}{k:List bm}{M:List Fm'}{sz:Nat}{E:List (Nat×Vu)}{b p:Nat}{L:List Nat}{y:aU}{cells:List Vu}(hA:qe sz E a)(ho:P[c]?=J v)(hg:v.guard=Q)(X:v.op=.store d z y)(hd:v.dst=Q)(hb:w.heap[b]?=J (.cells i x (0,0)))(b':u b=0)(f':Fit u w)(ex:a.eval z=Po (J (O b p Q)))(ey:a.eval y=q)(hc:q.cells=cells.toArray)(hi:(V.info? d).map (·.size)=J cells.length)(h1:∀o∈cells,o.oneCell'=true)(g':∀e,e<cells.length->(w.cell? (O b (p+e) Q)).isSome=true)(h:∀N,N.heap.size=w.heap.size->(∀k,k≠b->N.heap[k]?=w.heap[k]?)->(∃a',N.heap[b]?=J (.cells a' x (0,0))/\a'.size=i.size)->(∀e o,cells[e]?=J o->N.cell? (O b (p+e) Q)=J o)->(∀e,e<p\/p+cells.length<=e->N.cell? (O b e Q)=w.cell? (O b e Q))->Fit u N->iv V r true u Stop (G ((aB f).at a (.inRegion P L::k)) M) N) :
  iv V r true u Stop (G ((aB f).at a (.inRegion P (c::L)::k)) M) w:=by
 have d':∀t o,Lk u o (w.at t)->o.heap[b]?=J (.cells i x (0,0)):=λt o D=>by
  rw[vV (w:=w.at t) D b' (.inl ⟨_,_,_,hb⟩)];exact hb
 have e':∀t o,Lk u o (w.at t)->∀e,o.cell? (O b e Q)=w.cell? (O b e Q):=λt o D e=>Zf (w:=w) (by grind);refine YG (R:=λo v'=>v'=o.setCells b p cells) hA ho hg (by show aX≠.early;decide) (by rw[X];rfl) hd f' (λt o D=>⟨_,?_,Z⟩) λt S o v' D T h' hR=>?_
 .refine Yv X ex ey hc (λe R=>?_) hi h1;rw[e' t o D];exact⟨g' e R,by simp[bY,d' t o D]⟩
 .subst hR;have i':=T.size;rw[l9]at i';have j':S.heap.size=w.heap.size:=by have:o.heap.size=w.heap.size:=D.size;omega
  obtain⟨c3,h3,z3,_⟩:(o.setCells b p cells).rowIs b x i.size _:=C6 cells p (f:=λj=>i.getD j (Bo false)) ⟨i,d' t o D,Z,λe R=>by simp_all⟩;have e3:S.heap[b]?=_:=(vV T b' (.inr ⟨_,_,_,h3⟩)).symm;have c2:∀e,S.cell? (O b e Q)=(o.setCells b p cells).cell? (O b e Q):=λe=>Zf e3;refine h S j' (λk hk=>C7 (w:=w.at t) h' D T (I5 hk _ _ _)) ⟨_,e3.trans h3,z3⟩ (λe z hx=>?_) (λe R=>?_) T.fit
  .rw[c2];have R:e<cells.length:=by
    grind
   rw[kU b cells p o (λp' hp=>by grind) e R]
   grind
  .rw[c2,dX _ _ _ _ _ (λ_ _=>by simpa using R),e' t o D]
theorem wN{u:Nat->Nat}{w:Wd}{a:db}{Stop:Gr->Wd->Prop}{f:bF}{k:List bm}{D:List Fm'}{sz:Nat}{E:List (Nat×Vu)}{b p:Nat}{L:List Nat}{y:aU}{cells:List Vu}(N:qe sz E a)(R:P[c]?=J v)(S:v.guard=Q)(T:v.op=.store d z y)(M:v.dst=Q)(X:w.heap[b]?=J (.cells i x (0,0)))(a':u b=0)(b':Fit u w)(ex:a.eval z=Po (J (O b p Q)))(ey:a.eval y=q)(hc:q.cells=cells.toArray)(hi:(V.info? d).map (·.size)=J cells.length)(t:∀o∈cells,o.oneCell'=true)(c':∀e,e<cells.length->(w.cell? (O b (p+e) Q)).isSome=true)(h:∀j,j.heap.size=w.heap.size->(∀k,k≠b->j.heap[k]?=w.heap[k]?)->(∃d' d,j.heap[b]?=J (.cells d' d (0,0)))->(∀e o,cells[e]?=J o->j.cell? (O b (p+e) Q)=J o)->(∀e,e<p\/p+cells.length<=e->j.cell? (O b e Q)=w.cell? (O b e Q))->Fit u j->iv V r true u Stop (G ((aB f).at a (.inRegion P L::k)) D) j) :
  iv V r true u Stop (G ((aB f).at a (.inRegion P (c::L)::k)) D) w :=
 zi N R S T M X a' b' ex ey hc hi t c' λj t h2 h3=>h j t h2 ⟨_,_,h3.choose_spec.1⟩
variable{p:Array aN}{E:Bool}{Stop:Gr->Wd->Prop}{f:bF}{k:List bm}{r:List Fm'}
section
variable{s:Sm}
theorem Ha(M:fx u W B A ρ s.m sz s.env a w)(h:Cx p s.env v=J t):bR v (fA p a.tmps)=t:=by
 unfold Cx at h;split at h
 .next b=>rw[B7 b];exact Ze h
 .next j y b =>
  split at h
  .next i c =>
   split at h
   .next o d =>
    split at h
    .next x e =>
     rw[Iz b c d (M.lv.has _ (s7.2 ⟨_,xe e,Z⟩))];exact Ze h
    .cases h
   .cases h
  .cases h
theorem Fv(M:fx u W B A ρ s.m sz s.env a w){v:Sv}(d:v.ok ρ.length){c:Sm}(h:wI s sz b v=J c):fx u W B A ρ c.m sz c.env (a.put (J b) (v.den ρ)) w/\c.n=s.n/\c.cond=s.cond:=by
 let⟨m,env,n,o,C⟩:=s;unfold wI at h;simp only at h;split at h
 .next i =>
  split at h
  .next e j =>
   cases Ze h;exact⟨M.put (by simpa using i) d j,Z,Z⟩
  .cases h
 .cases h
theorem fx.mem(M:fx u W B A ρ s.m sz s.env a w)(d:Nat):yJ ρ s.m (w.at d):=M.ce
theorem Gd(M:fx u W B A ρ s.m sz s.env a w)(j:s.n=ρ.length){L:List Nat}{o:aN}{l:List ou}{i:Sm}(N:p[b]?=J o)(P:o.guard=Q)(R:o.dst=J e)(S:∀x∈l,x.ok ρ.length)(T:∀(w:Wd) (q:Array dr),(Ex a.eval o).runT V w q=(.ok (.value (Po (J (O w.heap.size 0 Q)))) (w.alloc (.cells (l.map (·.den ρ)).toArray d (0,0))),q))(h:wI ⟨yw s.n 0 l s.m,s.env,s.n+1,s.qL,s.cond⟩ sz e (.c (.p s.n 0))=J i)(X:∀t v y,i.n=(ρ++[(y,0)]).length->fx u W B A (ρ++[(y,0)]) i.m sz i.env t v->iv V E true u Stop (G ((aB f).at t (.inRegion p L::k)) r) v) :
  iv V E true u Stop (G ((aB f).at a (.inRegion p (b::L)::k)) r) w:=by
 have z:=λc=>T (w.at c) #[];refine Dy (ob:=.cells (l.map (·.den ρ)).toArray d (0,0)) (v:=Po (J (O w.heap.size 0 Q))) N P (by show aX≠.early;decide) (λc=>?_) (λc=>congrArg Prod.snd (z c)) nQ ?_
 .have:=congrArg Prod.fst (z c);rw[jr]at this;exact this
 .have D:=M.alloc l S d;rw[←j]at D;let⟨M2,e2,_⟩:=Fv (s:=⟨yw s.n 0 l s.m,s.env,s.n+1,s.qL,s.cond⟩) D (v:=.c (.p s.n 0)) (by show s.n<_;simp;omega) h;rw[R];have e3:(Sv.c (.p s.n 0)).den (ρ++[(w.heap.size,0)])=Po (J (O w.heap.size 0 Q)):=by
   simp only[Sv.den,ou.den,j,tM]
  grind
theorem Rn(M:fx u W B A ρ s.m sz s.env a w)(T:s.n=ρ.length){L:List Nat}{y:aU}{sv:Sv}{l:List ou}{x:Mem}(X:p[b]?=J v)(hg:v.guard=Q)(a':v.op=.store c z y)(hd:v.dst=Q)(i:ql s.env z=J (.c (.p d e)))(ht:sX c tj=J (t,N))(hy:ql s.env y=J sv)(hl:um sv=J l)(j:(aI l.length N.length&&l.all uS)=true)(D:(ga B d&&cJ d s.n)=true)(h:zY d e l s.m=J x)(b':∀P,fx u W B A ρ x sz s.env a P->iv V E true u Stop (G ((aB f).at a (.inRegion p L::k)) r) P) :
  iv V E true u Stop (G ((aB f).at a (.inRegion p (b::L)::k)) r) w:=by
 simp only[aC,Nat.ble_eq,Nat.blt_eq]at D j;let⟨c',o⟩:=D;rw[T]at o;have d':l.length=N.length:=Zl j.1;let⟨ex,_⟩:=M.rd i;let⟨ey,e'⟩:=M.rd hy;let⟨ec,f'⟩:=xD (ρ:=ρ) hl;let⟨⟨c0,t0,hb⟩,g'⟩:=M.bl d o;have h':=(Gg h).1;refine wN M.lv X hg a' hd hb g' M.fit ex ey ec (by rw[bC,d'];exact(W9 ht).1) (λi' hv=>?_) (λq R=>?_) λw2 s1 s2 s3 s4 S s6=>?_
 .obtain⟨z,i,rfl⟩:=dn.1 hv;exact zM (aV.1 j.2 z i)
 .rw[bC]at R;let⟨j',hc⟩:=h' q R;rw[aS,(M.ce _ hc).2.2];rfl
 .rw[bC]at S;exact b' w2 (M.store c' o h (f' _ e') s1 s2 s3 (λq z i=>by grind) S s6)
theorem c9V{m:Mem}{g:aU->Option Sv}{d:Op}{l:List ou}(j:∀t x y,d≠.store t x y):qN m g d≠J (.st b c l):=by
 intro h;have i:∀x:Option Sv,wZ x≠J (.st b c l):=λx e=>by cases x<;>cases e
 cases d with
 | store t x y=>grind
 | move x=>exact i _ h
 | assign x=>exact i _ h
 | _ =>
  unfold qN at h
  try simp only at h
  repeat' split at h
  all_goals first|(cases h;done)|exact i _ h|(rename_i e;cases e;done)|(simp_all;done)
theorem Xk{m:Mem}{g:aU->Option Sv}{c:Op}{z:List ou}(i:∀b,c≠.alloc b)(j:∀b x,c≠.box b x):qN m g c≠J (.new b z):=by
 intro h;have d:∀x:Option Sv,wZ x≠J (.new b z):=λx e=>by cases x<;>cases e
 cases c with
 | alloc b=>exact i b Z
 | box b x=>grind
 | move x=>exact d _ h
 | assign x=>exact d _ h
 | _ =>
  unfold qN at h
  try simp only at h
  repeat' split at h
  all_goals first|(cases h;done)|exact d _ h|(rename_i e;cases e;done)|(simp_all;done)
theorem Mh{m:Mem}{g:aU->Option Sv}{c:Op}{l:List ou}(h:qN m g c=J (.st b d l)):∃t x y i z sv,c=.store t x y/\g x=J (.c (.p b d))/\sX t tj=J (i,z)/\g y=J sv/\um sv=J l/\l.length=z.length/\l.all uS=true:=by
 by_cases o:∃t x y,c=.store t x y
 .obtain⟨t,x,y,rfl⟩:=o;unfold qN at h;simp only at h;split at h
  .next S T q =>
   split at h
   .next i z v =>
    split at h
    .next sv D =>
     split at h
     .next G L =>
      split at h
      .next j =>
       injection h with h
       injection h with N P R
       subst N P R;simp only[aC]at j;exact⟨t,x,y,i,z,sv,Z,q,v,D,L,Zl j.1,j.2⟩
      .cases h
     .cases h
    .cases h
   .cases h
  .cases h
 .exact absurd h (c9V λt x y e=>o ⟨t,x,y,e⟩)
theorem IZ{v:Sv}{c:Sm}(h:wI s sz b v=J c):c.cond=s.cond:=by
 let⟨m,env,n,d,C⟩:=s;unfold wI at h
 grind
theorem Rf(M:fx u W B A ρ s.m sz s.env a w)(hn:s.n=ρ.length){L:List Nat}{T:Sm}(h:Az A W B p sz b s=J T)(hC:T.cond)(R:s.cond->∀i P (bs:List Nat),T.n=(ρ++bs.map λS=>(S,0)).length->fx u W B A (ρ++bs.map λS=>(S,0)) T.m sz T.env i P->iv V E true u Stop (G ((aB f).at i (.inRegion p L::k)) r) P) :
  iv V E true u Stop (G ((aB f).at a (.inRegion p (b::L)::k)) r) w:=by
 have k':s.cond->∀i,T.n=ρ.length->fx u W B A ρ T.m sz T.env i w->iv V E true u Stop (G ((aB f).at i (.inRegion p L::k)) r) w:=λhc i q N=>R hc i w [] (by simpa using q) (by simpa using N);let⟨m,env,n,l',cond⟩:=s;unfold Az at h;simp only at h;split at h
 .next o ho =>
  split at h
  .next hw =>
   have hw:=Ha M hw;split at h
   .next v n' C c =>
    split at h
    .next D X =>
     have hc:=IZ h;rw[hc]at hC;let⟨x',o'⟩:=yN hC;have ov:=λd=>FM (w:=w.at d) (λx s hs=>M.rd hs) (M.mem d) M.old c o';refine xm ho hw (by show aX≠.early;decide) (ov 0).1.2 (λd=>(ov d).1.1) ?_;let⟨M2,e2,_⟩:=Fv (s:=⟨m,env,n,n',Aq cond C⟩) M (ov 0).2 h
     grind
    .cases h
   .next j y' l _ _ c =>
    have c:=(HP c).resolve_right (λ⟨s,e⟩=>by cases e);split at h
    .next X hg =>
     split at h
     .next hj =>
      split at h
      .next m' hm =>
       cases Ze h;let⟨t,x,y,A',z,sv,h',p',ht,hy,hl,q',r'⟩:=Mh c;exact Rn M hn ho hg h' X p' ht hy hl (by simp[q',r']) hj hm λP M'=>R hC a P [] (by simpa using hn) (by simpa using M')
      .cases h
     .cases h
    .cases h
   .next t z _ _ c =>
    have c:=(HP c).resolve_right (λ⟨s,e⟩=>by cases e);split at h
    case h_2=>cases h
    case h_1 D X hg =>
    have hc:=IZ h;rw[hc]at hC;generalize h':o.op=op at c
    cases op with
    | alloc t' =>
     unfold qN at c;simp only at c;have e0:∀z:List Vu,(z.map ou.v).map (·.den ρ)=z:=λz=>by rw[mF];exact lM _
     split at c
     .next z' ht =>
      injection c with c
      injection c with q N
      subst q N;exact Gd M hn ho hg X (λx R=>by obtain⟨y,_,rfl⟩:=dn.1 R;trivial) (λw es=>by rw[e0];exact Ej h' (W9 ht) (λe=>by cases e) w es) h λi P S q N=>R hC i P [S] q N
     .next z' ht =>
      split at c
      .next hh =>
       injection c with c
       injection c with q N
       subst q N;exact Gd M hn ho hg X (λx R=>by obtain⟨y,_,rfl⟩:=dn.1 R;trivial) (λw es=>by rw[e0];exact Ej h' (W9 ht) (λ_=>Um hh) w es) h λi P S q N=>R hC i P [S] q N
      .cases c
     .cases c
    | box t' x =>
     unfold qN at c;simp only at c;split at c
     .next sv hs =>
      split at c
      .next l hl =>
       injection c with c
       injection c with q N
       subst q N;let⟨ex,u'⟩:=M.rd hs;let⟨ec,v'⟩:=xD (ρ:=ρ) hl;exact Gd M hn ho hg X (v' _ u') (λw es=>by rw[←ec];exact ZB h' ex w es) h λi P S q N=>R hC i P [S] q N
      .cases c
     .cases c
    | _=>exact absurd c (Xk (by grind) (by grind))
   .cases h
  .next hw =>
   have hw:=Ha M hw;split at h
   .next D X =>
    refine Hk ho hw ?_;let⟨M2,e2,e3⟩:=Fv (s:=⟨m,env,n,l',cond⟩) M (v:=.c (.v Ud)) nQ h;rw[X];exact k' (by grind) _ (e2.trans hn) M2
   .cases h
  .cases h
 .cases h
end
end
end
end Go.Proofs.YtcgabodkegcpgaaGreatDoor