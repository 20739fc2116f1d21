/- The reference's Exit, Start and Give. -/
import Derived.Test.YtcgabodkegcpgaaGreatDoorAaa
import Derived.Test.YtcgabodkegcpgaaGreatDoorMcd
import Derived.Test.YtcgabodkegcpgaaGreatDoorIvb
import Derived.Test.YtcgabodkegcpgaaGreatDoorKer
import Derived.Test.YtcgabodkegcpgaaGreatDoorMxj
import Derived.Deep.RegionLaw
set_option linter.unusedVariables false
set_option linter.unusedSimpArgs false
set_option maxHeartbeats 20000000
set_option maxRecDepth 100000
open Option renaming some->J,none->Q,none->G',map_some->aD,isSome_iff_exists->cH,getD_some->cU
open Go.Proofs.Tryz renaming prog->V,prog->J',func51->du,isAgg3->dZ,func32->fZ,func19->ga,func17->gh,underlying3->gI,ntmps17->gK,func22->iw,func20->iz,func48->iF,underlying82->jD,func53->jJ,ntmps43->kN,ntmps42->kO,ntmps41->kP,func43->lN,func42->lO,func41->lP,underlying112->mC,func24->mD
open Go renaming World->Wd,Value->Vu,undef->Ud,Frame->Fm',Goroutine->Gr,TypeId->Ti,execOp->Ex,Program->Pg,Calls->aF,Oper->aL,Operand->aS,Item->bh,FuncId->bC,Addr->cx,heap_alloc_new->cC,Act->cZ,Value->dM,wpList_store_mid->dV,madeCells->eN,wpList_load_mid->fL,run_underlying->gQ,Machine->gW,run_equalIn_int->iu,wpList->iR,maxLen->iT,Act->jh,cell_of_row->jC,Trace->lT
open Go.Value renaming int->Y,pointer->Po,slice->Sc,bool->Bo,slice->di,int->dL,cells->fY,oneCell'->jV
open Go.IntKind renaming i64->U
open Go.Addr renaming mk->O,add_mid->eG
open List renaming mem_cons->ae,not_mem_nil->aj,range->aO,all_eq_true->aT,size_toArray->aY,getElem?_eq_some_iff->bD,getElem?_map->bO,mem_append->bZ,cons_append->cj,mem_singleton->cz,getElem?_range->cW,map_cons->cX,mem_append_right->da,map_toArray->dq,mem_map->dA,append_cancel_left->eC,map_nil->eE,nil_append->eP,mem_range->eQ,mem_append_left->fK,getElem?_append_left->gC,range'->gR,getElem?_append_right->la
open Nat renaming le_refl->af,zero_add->aE,beq->aG,add_assoc->aP,zero_le->aW,lt_or_ge->bQ,zero_lt_one->eH,ble->fS,lt_irrefl->iA,mul_le_mul_right->jF,add_zero->jZ,sub_zero->kY,mod_one->mi,succ_mul->mH,le_of_ble_eq_true->mQ
open Go.ConcN renaming upd->ai,upd_ne->az,upd_same->aH
open Go.RowKit renaming Hid->ar,Below->bE,intOf->bT,wrap64->iD
open Int renaming toNat_natCast->au,tmod_eq_emod_of_nonneg->aZ,eq_ofNat_of_zero_le->cT,ofNat_tmod->fU
open Prod.mk renaming inj->ax,injEq->cR
open Go.Frame renaming enter->ay
open Ne renaming symm->aA
open Bool renaming and_eq_true->aB,false_eq_true->aI,or_eq_true->cY,eq_false_iff->gq
open Go.World renaming cell?->aC,ownsRow_nil->dc,rangeAt_setCells_same->fy
open Go.RowKit.Below renaming heap_alloc->aJ,refl->bz
open Go.Result renaming andThen_ok->aN
open Go.Conc renaming base->aQ,Seat->eZ
open Go.CallKind renaming normal->aV
open Array renaming getD_eq_getD_getElem?->aX,getElem?_eq_getElem->bg,replicate->bY,getElem?_eq_none->eM,getElem?_replicate->fX,any_eq_true'->mu
open Or renaming inr->ba,inl->bP
open Option.some renaming injEq->bm
open Go.Sem renaming run_bind->bH,run_pure->eh,runT_fst->jf
open Go.Region renaming wanted->bM,binds->cM
open And renaming intro->db
open Go.Op renaming equalIn->dm
open Go.Instr renaming index->fW,makeSlice->ic,build->im
open Go.IntWalk renaming i64_in->gP
open Go.Value.slice renaming inj->gT
open Std.Legacy.Range renaming forIn_eq_forIn_range'->iG,size->ky
open Go.Next renaming value->jN
open Go.Calls renaming quiet_of_same->fa
namespace Go.Proofs.YtcgabodkegcpgaaGreatDoor
noncomputable section
open Go.RowKit
variable{a b c d e:Nat}{f g:Wd}{h i j:Int}{k l:Vu}{m n:Nat->Nat}{o:aa}{p q:Ti}{r s:Nat->Vu}
section
attribute [local go_sem ↓] Go.wp_at_zero Go.wp_at_succ
theorem WN(K:aa)(s x:Nat)(d:Int)(b:Bool)(k:x<4)(i c:Nat)(n:c<12):qF (K.av s x d b) i c=if i=s/\c=8+x then pT d b else qF K i c:=by
 have g:∀j,j≠11+x*2->(K.av s x d b).S i j=K.S i j:=λj o=>d6 _ Za;unfold qF
 by_cases a:c<3
 .rw[mZ a,mZ a,g c Za,mY Za]
 rw[mY a,mY a]
 by_cases e:c=3
 .rw[mZ e,mZ e,g 19 Za,mY Za]
 rw[mY e,mY e]
 by_cases f:c<8
 .rw[mZ f,mZ f,mY Za];have l:(K.av s x d b).dy i (c - 4)=K.dy i (c - 4):=g _ Za;have m:(K.av s x d b).wr i (c - 4)=K.wr i (c - 4):=d6 _ Za;rw[l,m]
 .rw[mY f,mY f,zI K s x d b i (c - 8) Za k,Cb K s x d b i (c - 8) Za k]
  by_cases h:i=s/\c=8+x
  .rw[mZ h,mZ Za,mZ Za]
  .rw[mY h,mY Za,mY Za]
theorem Rel.av{r:Rk}(a:Rel o r)(s x:Nat)(d:Int)(b:Bool)(f:x<4):Rel (o.av s x d b) (r.nt s (8+x) (pT d b)):=by
 refine⟨a.f,a.s,a.d,λi c g e=>?_,a.w,a.q⟩;rw[WN o s x d b f i c e];show upd r.P s (8+x) (pT d b) i c=_
 by_cases h:i=s/\c=8+x
 .rw[mZ h,h.1,h.2,upd_same]
 .rw[mY h,d6 _ h];exact a.p i c g e
theorem Rel.ua{r:Rk}(a:Rel o r)(d c:Nat)(v:Int)(g:3<=c):Rel (o.np d c v) r :=
 ⟨a.f,a.s,a.d,a.p,a.w,λe q b f=>by rw[show(o.np d c v).D e q=o.D e q from d6 _ Za];exact a.q e q b f⟩
theorem Rel.count{r:Rk}(a:Rel o r)(d:Nat)(b:Bool)(m:Int):Rel (o.count d b m) r:=by
 cases b
 .exact a.ua d 3 _ Za
 .exact a.ua d 4 _ Za
theorem Rel.fc{r:Rk}(a:Rel o r)(s x d:Nat)(b:Bool)(c:x<4):Rel (o.fc s x d b) (r.nt s (8+x) (pT d b)):=(a.av s x d b c).count d b 1
theorem L9{r:Rk}(G:Good o)(c:Rel o r)(f:a<o.nS)(g:b<4)(j:o.nD<=4) :
  (o.file a b=-1/\r.P a (8+b)=0)\/∃n:Nat,o.file a b=n/\n<o.nD/\0<=o.D n 0/\r.P a (8+b)=pT n (o.end a b)/\0<r.P a (8+b)/\r.P a (8+b)<100:=by
 have i:=G.file a b f g;have d:=c.file f g
 by_cases h:o.file a b=-1
 .exact bP ⟨h,by rw[d,h,G6]⟩
 .right;obtain⟨n,e⟩:∃n:Nat,o.file a b=n:=⟨(o.file a b).toNat,by omega⟩;rw[e,au]at i;rw[e]at d;refine⟨n,e,by omega,by omega,d,?_,?_⟩
  .rw[d,H7];split<;>omega
  .rw[d,H7];split<;>omega
variable{w:Wd}{B:RB}{r:Rk}{K:aa}
theorem c1g(M:ml w B r)(b:Rel K r)(f y:Int)(X:a<K.nS) :
  aF V 40 #[Po (J (O B.b 0 Q)),Y U a,Y U 9,Y U f,Y U y] w (oe B w (Z3 K a f)):=by
 have t:ar (ml w B r):=M;have u:ar (Rel K r):=b;have n:=M.k1;have h:a<r.nS:=by have:=b.s;omega
 have i1:(0:Int)<=(a:Int):=by omega
 have i2:(a:Int)<(r.nS:Int):=by omega
 have hS:r.nS<=6:=M.hS;have v:ar (r.nS=K.nS):=b.s;have L:w.cell? (O B.bp (a*12) Q)=J (Y U (r.P a 0)):=M.pr a 0 h Za;have N:=M.pr a 3 h Za;have x:=M.zp;have P:=M.bp;have b4:B.bp≠B.b:=λe=>P e.symm;clear M b
 go_enter Tryz.func40,Tryz.ntmps40
 by_cases z:a=0
 .subst z;have E:ar (Z3 K 0 f=⟨K,0,7⟩):=by unfold Z3 ar;rw[mZ Z]
  go_wp2
  go_ret2
  exact oe.mk E t.out u.out (ej.refl _)
 .have e0:((a:Int)==0)=false:=by simp;omega
  obtain⟨c,j⟩:∃c,c=(K.cf a 0 3).cf a 19 f:=⟨_,Z⟩;have E:ar (Z3 K a f=⟨c.mg a K.nS,0,0⟩):=by unfold Z3 ar;rw[mY z,j]
  have R:ar (Rel c ((r.nt a 0 3).nt a 3 f)):=by unfold ar;rw[j];exact(u.out.cf a 0 3 Za).vo a f
  have S:ar (c.nS=r.nS):=by unfold ar;rw[j,v.out];rfl
  have T:ar (ml ((w.setCell (O B.bp (a*12) Q) (Y U 3)).setCell (O B.bp (a*12+3) Q) (Y U f)) B ((r.nt a 0 3).nt a 3 f)):=(t.out.nt (i:=a) (c:=0) (o:=a*12) h Za Za 3).nt (i:=a) (c:=3) h Za Z f;have W:ar (ej B w ((w.setCell (O B.bp (a*12) Q) (Y U 3)).setCell (O B.bp (a*12+3) Q) (Y U f))):=((ej.refl _).nt _ _).nt _ _;clear j
  go_wp2
  clear L N x n
  go_loopw [13] (λi A=>∃(k:Nat) (d:Rk),k<=r.nS/\i=Y U k/\ml A B d/\Rel (c.mg a k) d/\ej B w A/\d.nS=r.nS) λi _=>r.nS - (bT i).toNat
  case atStart=>exact⟨0,_,by omega,Z,T.out,R.out,W.out,Z⟩
  case round =>
   obtain⟨k,d,hk,rfl,o,C,D,n1⟩:=hrel;have g:ar (ml wr B d):=o;have l:ar (Rel (c.mg a k) d):=C;have p:ar (ej B w wr):=D;have q:ar (d.nS=r.nS):=n1;have n:=o.k1;rw[n1]at n;clear o C D n1
   by_cases F:k<r.nS
   .have j1:(0:Int)<=(k:Int):=by omega
    have j2:(k:Int)<(r.nS:Int):=by omega
    have H:k<d.nS:=by rw[q.out];exact F
    have G:=g.out.pr k 1 H Za;have I:d.P k 1=(c.mg a k).S k 1:=l.out.parent (by rw[Di,S.out];exact F)
    by_cases m:d.P k 1=a
    .have s:ar (c.mg a (k+1)=(c.mg a k).cf k 1 0):=by unfold ar;rw[aa.mg,mZ Za]
     rw[m]at G;have x:=g.out.zp;clear I m
     go_wp2
     exact⟨⟨k+1,_,by omega,by go_num,g.out.nt (i:=k) (c:=1) H Za Z 0,by rw[s.out];exact l.out.cf k 1 0 Za,p.out.nt _ _,q.out⟩,by simp[bT];omega⟩
    .have s:ar (c.mg a (k+1)=c.mg a k):=by unfold ar;rw[aa.mg,mY Za]
     have e1:(d.P k 1==(a:Int))=false:=by simpa using m
     clear I m
     go_wp2
     exact⟨⟨k+1,d,by omega,by go_num,g.out,by rw[s.out];exact l.out,p.out,q.out⟩,by simp[bT];omega⟩
   .obtain rfl:k=r.nS:=by omega
    go_wp2
    go_ret2
    exact oe.mk E g.out (by rw[←v.out];exact l.out) p.out
theorem b3f(M:ml w B r)(c:Rel K r)(y z:Int)(h:a<K.nS)(i:b<K.nS)(e:K.oa a b=true) :
  aF V 41 #[Po (J (O B.b 0 Q)),Y U a,Y U 8,Y U b,Y U y,Y U z] w (oe B w (Q8 K a b)):=by
 have f:ar (ml w B r):=M;have g:ar (Rel K r):=c;have j:=M.k1;have d:b<r.nS:=by have:=c.s;omega
 have k:(0:Int)<=(b:Int):=by omega
 have l:(b:Int)<(r.nS:Int):=by omega
 have m:w.cell? (O B.bp (b*12) Q)=J (Y U (r.P b 0)):=M.pr b 0 d Za;have n:=M.zp;have E:ar (Q8 K a b=⟨K.cf b 0 2,0,0⟩):=by unfold Q8 ar;rw[mY (by simp[e])]
 clear M c
 go_enter lP,kP
 go_wp2
 go_ret2
 exact oe.mk E (f.out.nt (i:=b) (c:=0) (o:=b*12) d Za Za 2) (g.out.cf b 0 2 Za) ((ej.refl _).nt _ _)
theorem b4U(M:ml w B r)(f:Rel K r)(G:Good K)(F:a<K.nS)(H:b<K.nS)(I:c<4)(p:d<4)(j:K.oa a b=true) :
  aF V 41 #[Po (J (O B.b 0 Q)),Y U a,Y U 7,Y U b,Y U c,Y U d] w (oe B w (P9 K a b c d)):=by
 have h:ar (ml w B r):=M;have i:ar (Rel K r):=f;have k1:=M.k1;have q:b<r.nS:=by have:=f.s;omega
 have L:a<r.nS:=by have:=f.s;omega
 have i1:(0:Int)<=(b:Int):=by omega
 have i2:(b:Int)<(r.nS:Int):=by omega
 have l1:(0:Int)<=(a:Int):=by omega
 have l2:(a:Int)<(r.nS:Int):=by omega
 have x1:(0:Int)<=(c:Int):=by omega
 have x2:(c:Int)<4:=by omega
 have t1:(0:Int)<=(d:Int):=by omega
 have t2:(d:Int)<4:=by omega
 have k:w.cell? (O B.bp (a*12+8+c) Q)=J (Y U (r.P a (8+c))):=by rw[aP];exact M.pr a (8+c) L Za
 have s:w.cell? (O B.bp (b*12+8+d) Q)=J (Y U (r.P b (8+d))):=by rw[aP];exact M.pr b (8+d) q Za
 have zp:=M.zp;have t:K.nD<=4:=by have:=M.hD;have:=f.d;omega
 clear M f
 go_enter lP,kP
 rcases L9 G i.out F I t with⟨l,x⟩|⟨n,l,x,h3,o,y,z⟩
 .have E:ar (P9 K a b c d=⟨K,0,8⟩):=by unfold P9 ar;rw[mY (by simp[j]),mZ (bP l)]
  rw[x]at k
  go_wp2
  go_ret2
  exact oe.mk E h.out i.out (ej.refl _)
 .rcases L9 G i.out H p t with⟨N,A⟩|⟨m,N,A,g3,P,R,S⟩
  .have E:ar (P9 K a b c d=⟨K.fc b d n (K.end a c),0,0⟩):=by unfold P9 ar;rw[mY (by simp[j]),mY Za,l,au]
   have T:ar (r.P a (8+c)=pT n (K.end a c)):=o;obtain⟨v,g⟩:∃v,r.P a (8+c)=v:=⟨_,Z⟩;have W:ar (r.P a (8+c)=v):=g;rw[g]at k y z;rw[A]at s;have X:¬v=0:=by omega
   have b4:B.bp≠B.b:=λe=>h.out.bp e.symm;have b5:B.b≠B.bp:=h.out.bp;clear o g
   go_wp2_with fail
   go_region_held3 (λC=>C.cell? (O B.b 1 Q)=J (Sc (J (O B.bp 0 Q)) r.nS B.cp)/\C.cell? (O B.bp (a*12+8+c) Q)=J (Y U v)) ((repeat' apply db)<;>(first|(go_keep;done)|(refine zH ?_;go_keep)|(refine keep_same_drew ?_;go_keep))) (fail)
   go_wp2
   go_ret2
   refine oe.mk E (h.out.drew.nt (i:=b) (c:=8+d) (o:=b*12+8+d) q Za Za v) ?_ ((ej.refl _).drew.nt _ _);rw[←W.out,T.out];exact i.out.fc b d n _ p
  .have E:ar (P9 K a b c d=⟨K,0,8⟩):=by unfold P9 ar;rw[mY (by simp[j]),mZ (ba Za)]
   obtain⟨v,g⟩:∃v,r.P a (8+c)=v:=⟨_,Z⟩;obtain⟨u,D⟩:∃u,r.P b (8+d)=u:=⟨_,Z⟩;rw[g]at k y z;rw[D]at s R S;have X:¬v=0:=by omega
   clear o g P D
   go_wp2
   go_ret2
   exact oe.mk E h.out i.out (ej.refl _)
theorem Ed(h:c≠b)(d:f.cell? (O a c Q)=J l):(f.setCell (O a b Q) k).cell? (O a c Q)=J l:=by rw[d7 f (ba h)];exact d
theorem VI{a:cx}(h:f.cell? a=J k):f.drew.cell? a=J k:=h
def Rk.words(r:Rk)(f n:Nat):Rk:=(((r.nX f 0 (r.W n 0)).nX f 1 (r.W n 1)).nX f 2 (r.W n 2)).nX f 3 (r.W n 3)
theorem KD(r:Rk)(f n g j:Nat)(a:j<4):(r.words f n).W g j=if g=f then r.W n j else r.W g j:=by
 unfold Rk.words Rk.nX upd
 by_cases h:g=f
 .subst h;cases j,(Za:j<4) using eL
  all_goals simp
 .simp[h]
theorem b4N(K:aa)(g h:Nat)(a:g≠h)(n c:Nat):(K.nj g h).F n c=if n=g/\2<=c/\c<6 then K.F h c else K.F n c:=by
 have b:¬h=g:=λe=>a e.symm;unfold aa.nj aa.ni upd
 by_cases e:n=g
 .subst e
  by_cases k:2<=c/\c<6
  .rw[mZ ⟨Z,k⟩];obtain rfl|rfl|rfl|rfl:c=2\/c=3\/c=4\/c=5:=by omega
   all_goals simp[b]
  .rw[mY Za];have:c≠2/\c≠3/\c≠4/\c≠5:=by omega
   simp[this]
 .rw[mY Za];simp[e]
theorem Xq{K:aa}{r:Rk}(f:Rel K r)(i:Bool)(q:b<4)(s:d<K.nF)(t:K.F d 0=2)(H:K.F c 0=0) :
  Rel (((K.an c 2 a).g9 a b c i).nj c d) ((r.words c d).nt a (4+b) (pT c i)):=by
 have n:c≠d:=by rintro rfl;omega
 have o:∀g x,g≠c->(K.an c 2 a).F g x=K.F g x:=λg x k=>aa.nP K c 2 a g x k;have m:nT K (K.an c 2 a):=⟨Z,Z,Z⟩;have s0:(K.an c 2 a).S=K.S:=Z;have u:(K.an c 2 a).B=K.B:=Z;have v:(K.an c 2 a).D=K.D:=Z;generalize K.an c 2 a=h at *;have y:Rel (h.nj c d) (r.words c d):=by
  have p:=b4N h c d n;have z:nT K (h.nj c d):=⟨m.f,m.s,m.d⟩;have A:(h.nj c d).S=K.S:=s0;have C:(h.nj c d).B=K.B:=u;have D:(h.nj c d).D=K.D:=v;generalize h.nj c d=I at *;refine f.frame z A C D (g:=c) (λg x k=>?_) _ ⟨Z,Z,Z,Z,Z⟩ (λg j l k=>?_) λj l _ _=>?_
  .rw[p,mY Za];exact o g x k
  .rw[KD r c d g j l,mY k]
  .rw[KD r c d c j l,mZ Z,p,mZ ⟨Z,by omega,by omega⟩,o d _ λe=>n e.symm];exact f.w d j s l (bP t)
 have E:=y.g9 a b c i q;have F:(h.g9 a b c i).nj c d=(h.nj c d).g9 a b c i:=Z;rw[F];exact E
theorem Qm(M:ml w B r)(f:Rel K r)(g:Own K)(N:iP K)(G:Good K)(H:a<K.nS)(X:b<K.nS)(s:c<4)(I:d<K.nF)(t:K.oa a b=true) :
  aF V 41 #[Po (J (O B.b 0 Q)),Y U a,Y U 6,Y U b,Y U c,Y U d] w (oe B w (I9 K a b c d)):=by
 have i:ar (ml w B r):=M;have j:ar (Rel K r):=f;have k0:=M.k0;have k1:=M.k1;have hF:r.nF<=32:=M.hF;have l:ar (r.nF=K.nF/\r.nS=K.nS):=⟨f.f,f.s⟩;have L:b<r.nS:=by have:=f.s;omega
 have a':a<r.nS:=by have:=f.s;omega
 have k:d<r.nF:=by have:=f.f;omega
 have i1:(0:Int)<=(b:Int):=by omega
 have i2:(b:Int)<(r.nS:Int):=by omega
 have l1:(0:Int)<=(a:Int):=by omega
 have l2:(a:Int)<(r.nS:Int):=by omega
 have j1:(0:Int)<=(c:Int):=by omega
 have j2:(c:Int)<4:=by omega
 have f1:(0:Int)<=(d:Int):=by omega
 have f2:(d:Int)<(r.nF:Int):=by omega
 have P:w.cell? (O B.bp (a*12+4+c) Q)=J (Y U (r.P a (4+c))):=by rw[aP];exact M.pr a (4+c) a' Za
 have R:w.cell? (O B.bp (b*12+4+c) Q)=J (Y U (r.P b (4+c))):=by rw[aP];exact M.pr b (4+c) L Za
 clear M f
 go_enter lP,kP
 rcases T8 G j.out H s (by have:=l.out;omega) with⟨x,S,p⟩|⟨n,x,S,p⟩
 .have E:ar (I9 K a b c d=⟨K,0,6⟩):=by unfold I9 ar;rw[mY (by simp[t]),mZ (bP x)]
  rw[p]at P
  go_wp2
  go_ret2
  exact oe.mk E i.out j.out (ej.refl _)
 .have hn:n<32:=by have:=l.out;omega
  have y:n<r.nF:=by have:=l.out;omega
  obtain⟨v,T,c',d',hq,z⟩:∃v,r.P a (4+c)=v/\0<v/\v<100/\(v - 1).tdiv 2=n/\v.tmod 2=(if K.wr a c then 0 else 1):=⟨_,Z,by omega,by have:=l.out;omega,by
    rcases p with⟨_,h⟩|⟨_,h⟩
    .rw[h];exact I5 n false
    .rw[h];exact I5 n true,by
    rcases p with⟨A,h⟩|⟨A,h⟩
    .rw[h,A,show(2*(n:Int)+1)=((2*n+1:Nat):Int) by omega,show(2:Int)=((2:Nat):Int) by rfl,←fU];simp
    .rw[h,A,show(2*(n:Int)+2)=((2*n+2:Nat):Int) by omega,show(2:Int)=((2:Nat):Int) by rfl,←fU];simp⟩
  have ne:¬v=0:=by omega
  rw[T]at P;clear p T;rcases T8 G j.out X s (by have:=l.out;omega) with⟨g1,g2,C⟩|⟨m,g1,g2,C⟩
  .rw[C]at R
   by_cases D:K.F d 0=0
   .have E:ar (I9 K a b c d=⟨((K.an d 2 b).g9 b c d (K.wr a c)).nj d n,0,0⟩):=by unfold I9 ar;rw[mY (by simp[t]),mY Za,mY Za,x,au]
    have F:(K.F d 0==0)=true:=by simpa using D
    go_wp2_with fail
    refine(Y9 i.out j.out g N G I).mono ?_;rintro e o ⟨rfl,rfl⟩;rw[F];have hk:K.F n 0=2:=(g.what (.dy a c) ⟨H,s⟩ n x).1;have b':n≠d:=by rintro rfl;omega
    have n1:(0:Int)<=(n:Int):=by omega
    have n2:(n:Int)<(r.nF:Int):=by omega
    have d0:o.cell? (O B.bw (n*4) Q)=J (Y U (r.W n 0)):=i.out.wd n 0 y Za;have d1:=i.out.wd n 1 y Za;have d2:=i.out.wd n 2 y Za;have d3:=i.out.wd n 3 y Za;have o0:o.cell? (O B.bw (d*4) Q)=J (Y U (r.W d 0)):=i.out.wd d 0 k Za;have o1:=i.out.wd d 1 k Za;have o2:=i.out.wd d 2 k Za;have o3:=i.out.wd d 3 k Za;have zw:=i.out.zw;have zp:=i.out.zp;have b1:=i.out.bw;have b2:=i.out.bp;have b3:B.bw≠B.b:=λe=>b1 e.symm;have b4:B.bp≠B.b:=λe=>b2 e.symm;have b5:=i.out.wp;have b6:B.bp≠B.bw:=λe=>b5 e.symm;have q0:n*4≠d*4:=by omega
    have q1:n*4≠d*4+1:=by omega
    have q2:n*4≠d*4+2:=by omega
    have q3:n*4≠d*4+3:=by omega
    have q4:n*4+1≠d*4:=by omega
    have q5:n*4+2≠d*4:=by omega
    have q6:n*4+3≠d*4:=by omega
    have q7:n≠d:=b';have a1:IntKind.i64.wrap (v - 1)=v - 1:=gP _ Za;have a2:IntKind.i64.wrap (n:Int)=n:=gP _ Za;have M1:ar (ml ((((o.setCell (O B.bw (d*4) Q) (Y U (r.W n 0))).setCell (O B.bw (d*4+1) Q) (Y U (r.W n 1))).setCell (O B.bw (d*4+2) Q) (Y U (r.W n 2))).setCell (O B.bw (d*4+3) Q) (Y U (r.W n 3))) B (r.words d n)) :=
     (((i.out.nX (i:=d) (c:=0) (o:=d*4) k Za Za (r.W n 0)).nX (i:=d) (c:=1) k Za Z (r.W n 1)).nX (i:=d) (c:=2) k Za Z (r.W n 2)).nX (i:=d) (c:=3) k Za Z (r.W n 3)
    have KP:ar (ej B o ((((o.setCell (O B.bw (d*4) Q) (Y U (r.W n 0))).setCell (O B.bw (d*4+1) Q) (Y U (r.W n 1))).setCell (O B.bw (d*4+2) Q) (Y U (r.W n 2))).setCell (O B.bw (d*4+3) Q) (Y U (r.W n 3)))):=((((ej.refl _).nX _ _).nX _ _).nX _ _).nX _ _;generalize r.W n 0=x0 at *;generalize r.W n 1=x1 at *;generalize r.W n 2=x2 at *;generalize r.W n 3=x3 at *
    go_wp2_with fail
    go_region_held3 (λq=>q.cell? (O B.b 0 Q)=J (Sc (J (O B.bw 0 Q)) r.nF B.cw)/\q.cell? (O B.bw (n*4) Q)=J (Y U x0)/\q.cell? (O B.bw (n*4+1) Q)=J (Y U x1)/\q.cell? (O B.bw (n*4+2) Q)=J (Y U x2)/\q.cell? (O B.bw (n*4+3) Q)=J (Y U x3)) ((repeat' apply db)<;>(first|(go_keep;done)|(refine VI<|Ed Za<|Ed Za<|Ed Za<|Ed Za ?_;assumption))) (fail)
    have W2:ar (2*(d:Int)+2 - v%2=pT d (K.wr a c)):=by
     unfold ar;rw[aZ Za]at z;rw[z,H7];split<;>omega
    clear z
    go_wp2
    go_ret2
    refine oe.mk E (M1.out.nt (i:=b) (c:=4+c) (o:=b*12+4+c) L Za Za (2*(d:Int)+2 - v%2)).drew ?_ (KP.out.nt _ _).drew;rw[W2.out];exact Xq j.out (K.wr a c) s S hk D
   .have E:ar (I9 K a b c d=⟨K,0,5⟩):=by unfold I9 ar;rw[mY (by simp[t]),mY Za,mZ Za]
    have F:(K.F d 0==0)=false:=by simpa using D
    go_wp2_with fail
    refine(Y9 i.out j.out g N G I).mono ?_;rintro e o ⟨rfl,rfl⟩;rw[F]
    go_wp2
    go_ret2
    exact oe.mk E i.out j.out (ej.refl _)
  .have E:ar (I9 K a b c d=⟨K,0,6⟩):=by unfold I9 ar;rw[mY (by simp[t]),mZ (ba Za)]
   obtain⟨u,W,l',m'⟩:∃u,r.P b (4+c)=u/\0<u/\u<100:=⟨_,Z,by omega,by have:=l.out;omega⟩;rw[W]at R;clear C W
   go_wp2
   go_ret2
   exact oe.mk E i.out j.out (ej.refl _)
theorem QY(M:ml w B r)(d:Rel K r)(G:Good K)(q:b<K.nS)(h:c<4)(i:K.still a b=true) :
  aF V 42 #[Po (J (O B.b 0 Q)),Y U 10,Y U b,Y U c] w (oe B w (X0 K a b c)):=by
 have j:ar (ml w B r):=M;have e:ar (Rel K r):=d;have u:=M.k1;have hF:r.nF<=32:=M.hF;have k:ar (r.nF=K.nF/\r.nS=K.nS):=⟨d.f,d.s⟩;have l:b<r.nS:=by have:=d.s;omega
 have x:(0:Int)<=(b:Int):=by omega
 have y:(b:Int)<(r.nS:Int):=by omega
 have z:(0:Int)<=(c:Int):=by omega
 have A:(c:Int)<4:=by omega
 have m:w.cell? (O B.bp (b*12+4+c) Q)=J (Y U (r.P b (4+c))):=by rw[aP];exact M.pr b (4+c) l Za
 have C:=M.zp;clear M d
 go_enter lO,kO
 rcases T8 G e.out q h (by have:=k.out;omega) with⟨f,s,g⟩|⟨n,f,s,g⟩
 .rw[g]at m;have E:ar (X0 K a b c=⟨K,0,6⟩):=by unfold X0 ar;rw[mY (by simp[i]),mZ f]
  go_wp2
  go_ret2
  exact oe.mk E j.out e.out (ej.refl _)
 .have E:ar (X0 K a b c=⟨(K.an n 0 (-1)).g9 b c (-1) false,0,0⟩):=by unfold X0 ar;rw[mY (by simp[i]),mY Za];unfold aa.nN;rw[f,au]
  obtain⟨v,o,D,F⟩:∃v,r.P b (4+c)=v/\0<v/\v<100:=⟨_,Z,by omega,by have:=k.out;omega⟩;have H:¬v=0:=by omega
  rw[o]at m;clear g o
  go_wp2
  go_ret2
  have t:=j.out.nt (i:=b) (c:=4+c) (o:=b*12+4+c) l Za Za 0;refine oe.mk E t ?_ ((ej.refl _).nt _ _);have p:=(e.out.rI n 0 (-1) Za).g9 b c (-1) false h;rw[G6]at p;exact p
theorem Jl(K:aa)(k:Nat):cut (qi K 0) (k*6) 6=[Y U (K.F k 0),Y U (K.F k 1),Y U (K.F k 2),Y U (K.F k 3),Y U (K.F k 4),Y U (K.F k 5)]:=by
 have h:∀j,j<6->U9 K (k*6+j)=Y U (K.F k j):=λj a=>by
  unfold U9;rw[show(k*6+j) / 6=k by omega,show(k*6+j)%6=j by omega]
 show [U9 K (k*6+0),U9 K (k*6+1),U9 K (k*6+2),U9 K (k*6+3),U9 K (k*6+4),U9 K (k*6+5)]=_;rw[h 0 Za,h 1 Za,h 2 Za,h 3 Za,h 4 Za,h 5 Za]
theorem Ok(K:aa)(k:Nat):cut (qi K 2) (k*5) 5=[Y U (K.D k 0),Y U (K.D k 1),Y U (K.D k 2),Y U (K.D k 3),Y U (K.D k 4)]:=by
 have h:∀j,j<5->sX K (k*5+j)=Y U (K.D k j):=λj a=>by
  unfold sX;rw[show(k*5+j) / 5=k by omega,show(k*5+j)%5=j by omega]
 show [sX K (k*5+0),sX K (k*5+1),sX K (k*5+2),sX K (k*5+3),sX K (k*5+4)]=_;rw[h 0 Za,h 1 Za,h 2 Za,h 3 Za,h 4 Za]
theorem JK{w:Wd}{o:Obj}{C:List Vu}(j:Nat)(u:Vu)(a:C[j]?=J u):((w.alloc o).alloc (.cells C.toArray p)).cell? (((O (w.heap.size+1) 0 Q):cx).add j)=J u:=by
 have:=Ec (w:=w.alloc o) (t:=p) j u a
 rwa [show(w.alloc o).heap.size=w.heap.size+1 by simp]at this
theorem NZ{f:Nat->Bool}:∀n,(∀j,j<n->f j=false)->E7 f n=0
 | 0,_=>rfl
 | n+1,h=>by
  show E7 f n+(if f n then 1 else 0)=0;rw[NZ n λj a=>h j Za,h n Za];rfl
theorem NS{K:aa}(G:Good K)(d:a<K.nD)(h:K.D a 0<0){b:Bool}:K.ends a b=0:=by
 refine NZ _ λj f=>?_;unfold aa.nZ;have c:=G.file (j / 4) (j%4) Za Za
 by_cases e:K.file (j / 4) (j%4)=a
 .exfalso;rw[e,au]at c;omega
 .simp[e]
theorem Uo{K:aa}(b:Own K)(c:a<K.nF):K.F a 0=0\/K.F a 0=1\/K.F a 0=2\/K.F a 0=3:=by
 by_cases h:K.F a 0=0
 .exact bP h
 .let⟨x,d,e⟩:=b.all a c h;have:=(b.what x d a e).1;cases x<;>simp[Place.kind]at this<;>omega
def xD(a b c d:Int):List dM:=[Y U a,Y U b,Y U c,Y U 0,Bo false,Y U 0,Bo false,Y U 0,Bo false,Y U 0,Bo false,Y U 0,Bo false,Y U 0,Bo false,Y U 0,Bo false,Y U 0,Bo false,Y U d]
theorem Om(a b c d:Int):(xD a b c d).toArray.size=20:=rfl
theorem b8w(a b c d:Int):(V.info? 82).map (·.size)=J (xD a b c d).toArray.size:=by rw[Om];kernel_rfl
theorem XL(a b c d:Int):(xD a b c d).toArray.all (·.oneCell')=true:=by simp[xD,jV]
def E8(K:aa)(i m c:Nat):Vu :=
 if (3+m*2<=c/\c<11)\/(11+m*2<=c/\c<19) then(if c%2=0 then Bo false else Y U 0) else A7 K (i*20+c)
theorem G3(K:aa)(i c:Nat)(a:c<20)(h:¬(4<=c/\c<=18/\c%2=0)):A7 K (i*20+c)=Y U (K.S i c):=by
 unfold A7;rw[show(i*20+c) / 20=i by omega,show(i*20+c)%20=c by omega,mY h]
theorem Oi(K:aa)(i c:Nat)(a:c<20)(h:4<=c/\c<=18/\c%2=0):A7 K (i*20+c)=Bo (K.B i c):=by
 unfold A7;rw[show(i*20+c) / 20=i by omega,show(i*20+c)%20=c by omega,mZ h]
theorem Vz(K:aa)(i m j:Nat)(g:m<4)(a:j<20):E8 K i (m+1) j=if j=3+m*2 then Y U (K.dy i m) else if j=3+m*2+1 then Bo (K.wr i m) else if j=11+m*2 then Y U (K.file i m) else if j=11+m*2+1 then Bo (K.end i m) else E8 K i m j:=by
 by_cases b:j=3+m*2
 .rw[mZ b];unfold E8;rw[mY Za,G3 K i j a Za,b];rfl
 rw[mY b]
 by_cases c:j=3+m*2+1
 .rw[mZ c];unfold E8;rw[mY Za,Oi K i j a Za,c,show 3+m*2+1=4+m*2 by omega];rfl
 rw[mY c]
 by_cases d:j=11+m*2
 .rw[mZ d];unfold E8;rw[mY Za,G3 K i j a Za,d];rfl
 rw[mY d]
 by_cases e:j=11+m*2+1
 .rw[mZ e];unfold E8;rw[mY Za,Oi K i j a Za,e,show 11+m*2+1=12+m*2 by omega];rfl
 rw[mY e];unfold E8
 by_cases f:(3+m*2<=j/\j<11)\/(11+m*2<=j/\j<19)
 .rw[mZ f,mZ Za]
 .rw[mY f,mY Za]
theorem b6s(K:aa)(i m j:Nat)(a:m<4)(h:j=3+m*2+1\/j=11+m*2+1):E8 K i m j=Bo false:=by
 unfold E8;rw[mZ Za,mZ Za]
theorem UY(K:aa)(i j:Nat):E8 K i 4 j=A7 K (i*20+j):=by unfold E8;rw[mY Za]
structure uc (w w':Wd) (r:Rk) (i:Nat) (f:Nat->Vu):Prop where
 oC:bE w.heap.size w w'
 size:w'.heap.size=w.heap.size+2
 p:w'.rowIs w.heap.size 107 12 (λc=>Y U (r.P i c))
 x:w'.rowIs (w.heap.size+1) 82 20 f
theorem uc.set{w:Wd}{r:Rk}(h:uc w f r a s)(c:Nat)(u:Vu):uc w (f.setCell (O (w.heap.size+1) c Q) u) r a (λj=>if j=c then u else s j) :=
 ⟨h.oC.setCell (by show w.heap.size<=w.heap.size+1;omega) u,by rw[i6];exact h.size,h.p.setOther (by show w.heap.size≠w.heap.size+1;omega) u,h.x.set c u⟩
theorem uc.congr{w:Wd}{r:Rk}{g:Nat->Vu}(h:uc w f r a s)(e:∀j,j<20->s j=g j):uc w f r a g:=⟨h.oC,h.size,h.p,h.x.congr e⟩
theorem QT{K:aa}{r:Rk}(G:Good K)(c:Rel K r)(d:a<K.nS)(e:b<4)(hF:K.nF<=32) :
  ∃v,r.P a (4+b)=v/\((v=0/\K.dy a b=-1/\K.wr a b=false)\/∃n:Nat,0<v/\v<100/\(v - 1).tdiv 2=n/\n<32/\K.dy a b=n/\(v%2==0)=K.wr a b):=by
 refine⟨_,Z,?_⟩;have f:=c.dy d e;rw[f];rcases G.dy a b d e with h|⟨j,k⟩
 .left;refine⟨by rw[h,G6],h,?_⟩
  cases g:K.wr a b with
  | false=>rfl
  | true=>exact absurd h (G.wr a b d e g)
 .right;obtain⟨n,i⟩:∃n:Nat,K.dy a b=n:=⟨(K.dy a b).toNat,by omega⟩;rw[i,H7];refine⟨n,by split<;>omega,by split<;>omega,I5 n _,by omega,Z,?_⟩;cases K.wr a b
  .simp
  .simp
theorem c3Y{K:aa}{r:Rk}(G:Good K)(N:iP K)(c:Rel K r)(e:a<K.nS)(d:b<4)(i:K.nD<=4) :
  ∃v,r.P a (8+b)=v/\((v=0/\K.file a b=-1/\K.end a b=false)\/∃n:Nat,0<v/\v<100/\(v - 1).tdiv 2=n/\n<32/\K.file a b=n/\(v%2==0)=K.end a b):=by
 refine⟨_,Z,?_⟩;have f:=c.file e d;rw[f];rcases G.file a b e d with h|⟨j,k,_⟩
 .left;exact⟨by rw[h,G6],h,N.vm a b d h⟩
 .right;obtain⟨n,g⟩:∃n:Nat,K.file a b=n:=⟨(K.file a b).toNat,by omega⟩;rw[g,H7];refine⟨n,by split<;>omega,by split<;>omega,I5 n _,by omega,Z,?_⟩;cases K.end a b
  .simp
  .simp
theorem UU{K:aa}{w:Wd}{r:Rk}{C:Array Vu}(m:f.rowIs w.heap.size 107 12 λc=>Y U (r.P a c))(k:bE w.heap.size w f)(i:f.heap.size=w.heap.size+1)(d:Rel K r)(e:a<K.nS)(n:C.size=20) :
  uc w ((f.alloc (.cells C 82)).setCells f.heap.size 0 (xD (r.P a 0) (r.P a 1) (r.P a 2) (r.P a 3)).toArray.toList) r a (E8 K a 0):=by
 let⟨l,b,c⟩:=Jr f C 82 (xD (r.P a 0) (r.P a 1) (r.P a 2) (r.P a 3)) 20 n Z (E8 K a 0) (λj q=>by
  have g:∀c,c<3\/c=19->E8 K a 0 c=Y U (K.S a c):=λc s=>by unfold E8;rw[mY Za,G3 K a c Za Za]
  have o:∀c,3<=c->c<19->E8 K a 0 c=if c%2=0 then Bo false else Y U 0:=λc h t=>by unfold E8;rw[mZ Za]
  rw[d.kind e,d.parent e,d.table e,d.code e];obtain rfl|rfl|rfl|rfl|⟨i,p⟩:j=0\/j=1\/j=2\/j=19\/(3<=j/\j<19):=by omega
  .rw[g 0 Za];rfl
  .rw[g 1 Za];rfl
  .rw[g 2 Za];rfl
  .rw[g 19 Za];rfl
  .rw[o j i p];obtain rfl|rfl|rfl|rfl|rfl|rfl|rfl|rfl|rfl|rfl|rfl|rfl|rfl|rfl|rfl|rfl:j=3\/j=4\/j=5\/j=6\/j=7\/j=8\/j=9\/j=10\/j=11\/j=12\/j=13\/j=14\/j=15\/j=16\/j=17\/j=18:=by omega
   all_goals rfl)
 exact⟨Ha k b k.size,by omega,m.of_block (b.block _ Za),by rw[i]at l ⊢;exact l⟩
theorem On:(V.info? 109).map (·.size)=J 3:=by kernel_rfl
theorem VN(a b c:Option cx)(n m o x y z:Nat):(#[.slice a n x,.slice b m y,.slice c o z]:Array Vu).all (·.oneCell')=true:=by simp[jV]
theorem Ar{K:aa}{w:Wd}{c:Nat}{l:Array aL}{n:List aL}{o:aL}{a:jh}{Q:Exit->jh->Wd->Prop}(q:o.guard=G')(d x:aS)(t:o.op=.call { callee:=.builtin .append,args:=#[d,x],argTypes:=#[yw c,yw c] })(T:Told K w f s m)(v:bE f.heap.size f g)(y:c<3)(z:m c<=32)(e:cx)(p:Nat)(h:List Vu)(A:h=cut (qi K c) (m c*pn c) (pn c))(C:∀j u,h[j]?=J u->g.cell? (e.add j)=J u)(D:a.eval d=s c)(E:a.eval x=Sc (J e) 1 p)(F:∀i k b,Told K w (b.setCell (O (w.heap.size+1) c G') (Sc (J (O i 0 G')) (m c+1) k)) (up s c (Sc (J (O i 0 G')) (m c+1) k)) (up m c (m c+1))->b.cell? (O (w.heap.size+1) c G')=J (s c)->b.frozen? (O (w.heap.size+1) c G')=false->iR V l Q n (a.put o.dst (Sc (J (O i 0 G')) (m c+1) k)) b) :
  iR V l Q (o::n) a g:=Re T v y z e p h A C q d x t D E F
def n1(k:Nat)(c:Nat):Nat:=if c=0 then k else 0
def n2(f k:Nat)(c:Nat):Nat:=if c=0 then f else if c=1 then k else 0
def n3(f s k:Nat)(c:Nat):Nat:=if c=0 then f else if c=1 then s else k
theorem MI(k c:Nat):n1 (k+1) c=up (n1 k) 0 (n1 k 0+1) c:=by unfold n1 up;split<;>simp_all
theorem UE(f k c:Nat):n2 f (k+1) c=up (n2 f k) 1 (n2 f k 1+1) c:=by unfold n2 up;split<;>simp_all
theorem Pc(f s k c:Nat)(h:c<3):n3 f s (k+1) c=up (n3 f s k) 2 (n3 f s k 2+1) c:=by
 cases c,(Za:c<3) using iN
 all_goals rfl
theorem Told.mem(T:Told K w f s m)(M:ml w B r):ml f B r:=M.same T.oC.size λj a _=>T.oC.block j a
theorem YU(M:ml w B r)(b:Rel K r)(d:Own K)(N:iP K)(G:Good K)(I:Inv K) :
  aF V 45 #[Po (J (O B.b 0 Q))] w λe y=>∃(f:Nat->Option cx) (g s:Nat->Nat),e=.returned (DE K f s)/\vx y K f g/\bE w.heap.size w y/\∀c,c<3->0<qx K c->w.heap.size<=g c:=by
 have HM:ar (ml w B r):=M;have L:ar (Rel K r):=b;have HB:ar (r.nF=K.nF/\r.nS=K.nS/\r.nD=K.nD):=⟨b.f,b.s,b.d⟩;have hF:r.nF<=32:=M.hF;have hS:r.nS<=6:=M.hS;have hD:r.nD<=4:=M.hD;clear M b
 go_enter Tryz.func45,Tryz.ntmps45
 go_wp2
 go_loopw [4] (λi y=>∃(k:Nat) (a:Nat->Vu),k<=r.nF/\i=Y U k/\Told K w y a (n1 k)) λi _=>r.nF - (bT i).toNat
 case atStart=>exact⟨0,_,by omega,Z,(Told.start K w).pP λc A=>by unfold n1;split<;>rfl⟩
 case round =>
  obtain⟨k,a,hk,rfl,H⟩:=hrel;have t:ar (Told K w wr a (n1 k)):=H;have l:ar (ml wr B r):=H.mem HM.out;have k0:=l.out.k0;clear H
  by_cases P:k<r.nF
  .have q':k<K.nF:=by have:=HB.out;omega
   go_wp2_with fail
   refine(I4 l.out L.out d N G q').mono ?_;rintro e z ⟨rfl,rfl⟩;have s0:∀o o',((z.alloc o).alloc o').cell? (O (w.heap.size+1) 0 Q)=J (a 0):=λo o'=>((t.out.lists.alloc o).alloc o').cell (by show 0<3;omega);have s1:∀o,(z.alloc o).cell? (O (w.heap.size+1) 0 Q)=J (a 0):=λo=>(t.out.lists.alloc o).cell (by show 0<3;omega);have kk:∀o,(z.alloc o).cell? (O B.b 0 Q)=J (Sc (J (O B.bw 0 Q)) r.nF B.cw):=λo=>(l.out.alloc o).k0;have HW:ar (K.F k 0=2\/K.F k 0=3->∀j,j<4->r.W k j=K.F k (2+j)):=λh j p=>L.out.w k j q' p h;have HZ:ar (¬(K.F k 0=2\/K.F k 0=3)->∀j,j<4->K.F k (2+j)=0):=λh j p=>N.uu k (by have:=Uo d q';omega) j p;obtain⟨kd,ek⟩:∃x,K.F k 0=x:=⟨_,Z⟩;obtain⟨ow,eo⟩:∃x,K.F k 1=x:=⟨_,Z⟩;rw[ek,eo];have EK:ar (K.F k 0=kd/\K.F k 1=ow):=⟨ek,eo⟩;clear ek eo
   by_cases j':kd=2\/kd=3
   .obtain⟨x0,y0⟩:∃x,r.W k 0=x:=⟨_,Z⟩;obtain⟨x1,y1⟩:∃x,r.W k 1=x:=⟨_,Z⟩;obtain⟨x2,y2⟩:∃x,r.W k 2=x:=⟨_,Z⟩;obtain⟨x3,y3⟩:∃x,r.W k 3=x:=⟨_,Z⟩;have c0:∀o,(z.alloc o).cell? (O B.bw (k*4) Q)=J (Y U x0):=λo=>by have:=(l.out.alloc o).wd k 0 P Za;rw[y0]at this;exact this
    have c1:∀o,(z.alloc o).cell? (O B.bw (k*4+1) Q)=J (Y U x1):=λo=>by have:=(l.out.alloc o).wd k 1 P Za;rw[y1]at this;exact this
    have c2:∀o,(z.alloc o).cell? (O B.bw (k*4+2) Q)=J (Y U x2):=λo=>by have:=(l.out.alloc o).wd k 2 P Za;rw[y2]at this;exact this
    have c3:∀o,(z.alloc o).cell? (O B.bw (k*4+3) Q)=J (Y U x3):=λo=>by have:=(l.out.alloc o).wd k 3 P Za;rw[y3]at this;exact this
    have S:ar ([Y U kd,Y U ow,Y U x0,Y U x1,Y U x2,Y U x3]=cut (qi K 0) (n1 k 0*pn 0) (pn 0)):=by
     have D:=HW.out (by rw[EK.out.1];exact j');show _=cut (qi K 0) (k*6) 6;rw[Jl,EK.out.1,EK.out.2,←y0,←y1,←y2,←y3,D 0 Za,D 1 Za,D 2 Za,D 3 Za]
    have j1:(0:Int)<=(k:Int):=by omega
    have j2:(k:Int)<(r.nF:Int):=by omega
    clear y0 y1 y2 y3;rcases j' with rfl|rfl
    all_goals go_wp2_with (refine Ar (c:=0) Z _ _ Z t.out (((bz _ _).alloc (af _) _).alloc Zc _) Za (by show k<=32;omega) (O (z.heap.size+1) 0 Q) 1 _ S.out (JK) Z Z ?_;intro g k' w2 t2 c2 z2;have T:ar _:=t2;clear t2)
    all_goals exact⟨⟨k+1,_,by omega,by go_num,T.out.pP λc A=>MI k c⟩,by simp[bT];omega⟩
   .have e2:(kd==2)=false:=by simp;omega
    have e3:(kd==3)=false:=by simp;omega
    have S:ar ([Y U kd,Y U ow,Y U 0,Y U 0,Y U 0,Y U 0]=cut (qi K 0) (n1 k 0*pn 0) (pn 0)):=by
     have D:=HZ.out (by rw[EK.out.1];exact j');show _=cut (qi K 0) (k*6) 6;rw[Jl,EK.out.1,EK.out.2,D 0 Za,D 1 Za,D 2 Za,D 3 Za]
    clear j'
    go_wp2_with (refine Ar (c:=0) Z _ _ Z t.out (((bz _ _).alloc (af _) _).alloc Zc _) Za (by show k<=32;omega) (O (z.heap.size+1) 0 Q) 1 _ S.out (JK) Z Z ?_;intro g k' w2 t2 c2 z2;have T:ar _:=t2;clear t2)
    exact⟨⟨k+1,_,by omega,by go_num,T.out.pP λc A=>MI k c⟩,by simp[bT];omega⟩
  .obtain rfl:k=r.nF:=by omega
   have T2:ar (Told K w wr a (n2 r.nF 0)):=t.out.pP λc A=>by unfold n2 n1;split<;>simp
   clear t
   go_wp2
   clear k0
   go_loopw [8] (λi y=>∃(k:Nat) (a:Nat->Vu),k<=r.nS/\i=Y U k/\Told K w y a (n2 r.nF k)) λi _=>r.nS - (bT i).toNat
   case atStart=>exact⟨0,_,by omega,Z,T2.out⟩
   case round =>
    clear l T2;obtain⟨i,a,hi,rfl,H⟩:=hrel;have t:ar (Told K w wr a (n2 r.nF i)):=H;have l:ar (ml wr B r):=H.mem HM.out;have k1:=l.out.k1;clear H
    by_cases P:i<r.nS
    .have t':i<K.nS:=by have:=HB.out;omega
     have j1:(0:Int)<=(i:Int):=by omega
     have j2:(i:Int)<(r.nS:Int):=by omega
     obtain⟨E,i'⟩:∃E,E=(aO 12).map (λc=>dL .i64 (r.P i c)):=⟨_,Z⟩;have LP:ar (wr.rangeAt B.bp (i*12) E):=λj v X=>by
      rw[i']at X;have p:j<12:=by have:=(bD.1 X).1;simpa using this
      rw[bO,cW p]at X;rw[l.out.pr i j P p];exact X
     have l':ar (E.length=12):=by unfold ar;rw[i'];simp
     have ei:ar ((V.info? 107).map (·.size)=J E.length):=by unfold ar;rw[l'.out];kernel_rfl
     have Q':ar ((V.info? 107).map (·.size)=J E.toArray.size):=by unfold ar;rw[aY];exact ei.out
     have q1:ar (E.toArray.all (·.oneCell')=true):=all_oneCell_toArray λv X=>by rw[i',dA]at X;obtain⟨j,_,rfl⟩:=X;rfl
     have z1:ar (E.toArray.size=12):=by unfold ar;rw[aY];exact l'.out
     have S':ar (E=(aO 12).map λc=>dL .i64 (r.P i c)):=i';clear i'
     go_wp2_with (first|(refine fL Z 107 _ Z B.bp (i*12) Z E _ LP.out Tryz.underlying107 Z ei.out ?_)|(refine Ie Z 107 _ _ Z wr.heap.size 0 E.toArray Z Z (by rw[z1.out];exact Kl (by rfl)) Q'.out q1.out ?_;intro W1 T';have F1:ar (W1.rowIs wr.heap.size 107 12 (λc=>Y U (r.P i c))/\bE wr.heap.size wr W1/\W1.heap.size=wr.heap.size+1):=(by unfold ar;rw[T'];exact Jr _ _ _ E 12 Z l'.out _ λj p=>by rw[S'.out,bO,cW p];rfl);clear T';have p0:W1.cell? (O wr.heap.size 0 Q)=J (Y U (r.P i 0)):=F1.out.1.cell (i:=0) Za;have p1:W1.cell? (O wr.heap.size 1 Q)=J (Y U (r.P i 1)):=F1.out.1.cell (i:=1) Za;have p2:W1.cell? (O wr.heap.size 2 Q)=J (Y U (r.P i 2)):=F1.out.1.cell (i:=2) Za;have p3:W1.cell? (O wr.heap.size 3 Q)=J (Y U (r.P i 3)):=F1.out.1.cell (i:=3) Za)|(refine Ie Z 82 _ _ Z W1.heap.size 0 (xD (r.P i 0) (r.P i 1) (r.P i 2) (r.P i 3)).toArray Z Z (by rw[Om];exact Kl (by rfl)) (b8w _ _ _ _) (XL _ _ _ _) ?_;intro W2 U';have F2:ar (uc wr W2 r i (E8 K i 0)):=(by unfold ar;rw[U'];exact UU F1.out.1 F1.out.2.1 F1.out.2.2 L.out t' Z);clear U'))
     rw[F1.out.2.2];obtain⟨F,rfl⟩:∃x,x=wr:=⟨wr,Z⟩;clear p0 p1 p2 p3 F1 LP ei Q' q1 z1 S' l'
     go_loopw [11] (λj y=>∃m:Nat,m<=4/\j=Y U m/\uc F y r i (E8 K i m)) λj _=>4 - (bT j).toNat
     case atStart=>exact⟨0,by omega,Z,F2.out⟩
     case round =>
      obtain⟨m,hm,rfl,s1⟩:=hrel;have C:ar (uc F wr r i (E8 K i m)):=s1;clear s1 F2
      by_cases m':m<4
      .have b1:(0:Int)<=(m:Int):=by omega
       have b2:(m:Int)<4:=by omega
       have x1:wr.cell? (O (F.heap.size+1) (3+m*2) Q)=J (E8 K i m (3+m*2)):=C.out.x.cell Za;have x2:wr.cell? (O (F.heap.size+1) (3+m*2+1) Q)=J (E8 K i m (3+m*2+1)):=C.out.x.cell Za;have x3:wr.cell? (O (F.heap.size+1) (11+m*2) Q)=J (E8 K i m (11+m*2)):=C.out.x.cell Za;have x4:wr.cell? (O (F.heap.size+1) (11+m*2+1) Q)=J (E8 K i m (11+m*2+1)):=C.out.x.cell Za;have zx:∀o,wr.frozen? (O (F.heap.size+1) o Q)=false:=λo=>C.out.x.frozen o;have y1:wr.cell? (O F.heap.size (4+m) Q)=J (Y U (r.P i (4+m))):=C.out.p.cell Za;have y2:wr.cell? (O F.heap.size (8+m) Q)=J (Y U (r.P i (8+m))):=C.out.p.cell Za;have HN:ar (∀j,j<20->E8 K i (m+1) j=_):=λj p=>Vz K i m j m' p;have HZ:ar (∀j,j=3+m*2+1\/j=11+m*2+1->E8 K i m j=Bo false):=λj p=>b6s K i m j m' p;let⟨v,ev,X⟩:=QT G L.out t' m' (by have:=HB.out;omega);let⟨u,eu,hu⟩:=c3Y G N L.out t' m' (by have:=HB.out;omega);rw[ev]at y1;rw[eu]at y2;clear ev eu;generalize E8 K i m (3+m*2)=z1 at *;generalize E8 K i m (3+m*2+1)=z2 at *;generalize E8 K i m (11+m*2)=z3 at *;generalize E8 K i m (11+m*2+1)=z4 at *;rcases X with⟨rfl,hv1,hv2⟩|⟨n,hv0,hv1,hv2,hv3,hv4,hv5⟩
       .rcases hu with⟨rfl,hu1,hu2⟩|⟨n',hu0,hu1,hu2,hu3,hu4,hu5⟩
        .have q:ar (K.dy i m=-1/\K.wr i m=false/\K.file i m=-1/\K.end i m=false):=⟨hv1,hv2,hu1,hu2⟩;clear hv1 hv2 hu1 hu2
         go_wp2
         exact⟨⟨m+1,by omega,by go_num,((C.out.set _ _).set _ _).congr λj p=>by(rw[HN.out j p,q.out.1,q.out.2.1,q.out.2.2.1,q.out.2.2.2];repeat' split)<;>first|rfl|(exfalso;omega)|exact HZ.out j Za⟩,by simp[bT];omega⟩
        .have q:ar (K.dy i m=-1/\K.wr i m=false/\K.file i m=n'/\(u%2==0)=K.end i m):=⟨hv1,hv2,hu4,hu5⟩;clear hv1 hv2 hu4 hu5
         go_wp2
         exact⟨⟨m+1,by omega,by go_num,((((C.out.set _ _).set _ _).set _ _).set _ _).congr λj p=>by(rw[HN.out j p,q.out.1,q.out.2.1,q.out.2.2.1,←q.out.2.2.2];repeat' split)<;>first|rfl|(exfalso;omega)|exact HZ.out j Za⟩,by simp[bT];omega⟩
       .rcases hu with⟨rfl,hu1,hu2⟩|⟨n',hu0,hu1,hu2,hu3,hu4,hu5⟩
        .have q:ar (K.dy i m=n/\(v%2==0)=K.wr i m/\K.file i m=-1/\K.end i m=false):=⟨hv4,hv5,hu1,hu2⟩;clear hv4 hv5 hu1 hu2
         go_wp2
         exact⟨⟨m+1,by omega,by go_num,((((C.out.set _ _).set _ _).set _ _).set _ _).congr λj p=>by(rw[HN.out j p,q.out.1,←q.out.2.1,q.out.2.2.1,q.out.2.2.2];repeat' split)<;>first|rfl|(exfalso;omega)|exact HZ.out j Za⟩,by simp[bT];omega⟩
        .have q:ar (K.dy i m=n/\(v%2==0)=K.wr i m/\K.file i m=n'/\(u%2==0)=K.end i m):=⟨hv4,hv5,hu4,hu5⟩;clear hv4 hv5 hu4 hu5
         go_wp2
         exact⟨⟨m+1,by omega,by go_num,((((((C.out.set _ _).set _ _).set _ _).set _ _).set _ _).set _ _).congr λj p=>by(rw[HN.out j p,q.out.1,←q.out.2.1,q.out.2.2.1,←q.out.2.2.2];repeat' split)<;>first|rfl|(exfalso;omega)|exact HZ.out j Za⟩,by simp[bT];omega⟩
      .obtain rfl:m=4:=by omega
       have HS4:ar (uc F wr r i λj=>A7 K (i*20+j)):=C.out.congr λj _=>UY K i j;obtain⟨cs,p'⟩:∃cs,cs=cut (A7 K) (i*20) 20:=⟨_,Z⟩;have LX:ar (wr.rangeAt (F.heap.size+1) 0 cs):=by
        unfold ar;rw[p'];have h:=EP HS4.out.x (o:=0) (m:=20) Za;simpa[cut] using h
       have ez:ar (cs.length=20):=by unfold ar;rw[p',x7]
       have ei:ar ((V.info? 82).map (·.size)=J cs.length):=by unfold ar;rw[ez.out];kernel_rfl
       have S:ar (cs=cut (qi K 1) (n2 r.nF i 1*pn 1) (pn 1)):=p';have T3:ar (Told K w wr a (n2 r.nF i)):=t.out.step C.out.oC;have s0:wr.cell? (O (w.heap.size+1) 1 Q)=J (a 1):=T3.out.cell Za;have s1:∀o,(wr.alloc o).cell? (O (w.heap.size+1) 1 Q)=J (a 1):=λo=>(T3.out.lists.alloc o).cell (by show 1<3;omega);let⟨iS,zS,bS,_,u2,u3,u4,u5,u6,u7⟩:=JS 1 Za;have HI:ar (V.info? 82=J iS/\iS.zero=J zS/\iS.size=20/\zS.cells.size=20):=⟨u2,u3,u4,u6⟩;clear u2 u3 u4 u5 u6 u7 p' C HS4
       go_wp2_with (first|(refine fL Z 82 _ Z (F.heap.size+1) 0 Z cs _ LX.out jD Z ei.out ?_)|(refine Rb Z 72 82 Z iS zS cs 20 Z Tryz.underlying72 HI.out.1 HI.out.2.1 HI.out.2.2.1 ez.out HI.out.2.2.2 Za Za ?_)|(refine Ar (c:=1) Z _ _ Z T3.out ((bz _ _).alloc (af _) _) Za (by show i<=32;omega) (O wr.heap.size 0 Q) 1 cs S.out (λj u hu=>Ec j u hu) Z Z ?_;intro g k' w2 t2 c2 z2;have T:ar _:=t2;clear t2))
       exact⟨⟨i+1,_,by omega,by go_num,T.out.pP λc A=>UE r.nF i c⟩,by simp[bT];omega⟩
    .obtain rfl:i=r.nS:=by omega
     have T3:ar (Told K w wr a (n3 r.nF r.nS 0)):=t.out.pP λc A=>rfl;clear t
     go_wp2
     clear k1
     go_loopw [12] (λi y=>∃(k:Nat) (a:Nat->Vu),k<=r.nD/\i=Y U k/\Told K w y a (n3 r.nF r.nS k)) λi _=>r.nD - (bT i).toNat
     case atStart=>exact⟨0,_,by omega,Z,T3.out⟩
     case round =>
      clear l T3;obtain⟨k,a,hk,rfl,H⟩:=hrel;have t:ar (Told K w wr a (n3 r.nF r.nS k)):=H;have l:ar (ml wr B r):=H.mem HM.out;have k2:wr.cell? (O B.b 2 Q)=J (.slice (B.aq 0) r.nD (B.cq 0)):=l.out.k2 0 Za;clear H
      by_cases P:k<r.nD
      .have f':k<K.nD:=by have:=HB.out;omega
       have k3:wr.cell? (O B.b 3 Q)=J (.slice (B.aq 1) r.nD (B.cq 1)):=l.out.k2 1 Za;have k4:wr.cell? (O B.b 4 Q)=J (.slice (B.aq 2) r.nD (B.cq 2)):=l.out.k2 2 Za;rw[l.out.aq 0 Za Za]at k2;rw[l.out.aq 1 Za Za]at k3;rw[l.out.aq 2 Za Za]at k4;have g0:wr.cell? (O (B.bq 0) k Q)=J (Y U (K.D k 0)):=by rw[←L.out.q k 0 f' Za];exact l.out.rg k 0 P Za
       have g1:wr.cell? (O (B.bq 1) k Q)=J (Y U (K.D k 1)):=by rw[←L.out.q k 1 f' Za];exact l.out.rg k 1 P Za
       have g2:wr.cell? (O (B.bq 2) k Q)=J (Y U (K.D k 2)):=by rw[←L.out.q k 2 f' Za];exact l.out.rg k 2 P Za
       have j1:(0:Int)<=(k:Int):=by omega
       have j2:(k:Int)<(r.nD:Int):=by omega
       have h0:=G.pc k f';have q:ar (K.D k 3=K.ends k false/\K.D k 4=K.ends k true):=⟨I.tc k f',I.sW k f'⟩;have HZ:ar (K.D k 0<0->K.D k 3=0/\K.D k 4=0):=λh=>by rw[q.out.1,q.out.2,NS G f' h,NS G f' h];exact⟨Z,Z⟩
       obtain⟨d0,e0⟩:∃x,K.D k 0=x:=⟨_,Z⟩;obtain⟨d1,e1⟩:∃x,K.D k 1=x:=⟨_,Z⟩;obtain⟨d2,e2⟩:∃x,K.D k 2=x:=⟨_,Z⟩;have EE:ar (K.D k 0=d0/\K.D k 1=d1/\K.D k 2=d2):=⟨e0,e1,e2⟩;rw[e0]at g0 h0;rw[e1]at g1;rw[e2]at g2;clear e0 e1 e2
       go_wp2_with fail
       go_region_held3 (λy=>y.cell? (O B.b 2 Q)=J (Sc (J (O (B.bq 0) 0 Q)) r.nD (B.cq 0))/\y.cell? (O B.b 3 Q)=J (Sc (J (O (B.bq 1) 0 Q)) r.nD (B.cq 1))/\y.cell? (O B.b 4 Q)=J (Sc (J (O (B.bq 2) 0 Q)) r.nD (B.cq 2))/\y.cell? (O (B.bq 0) k Q)=J (Y U d0)/\y.cell? (O (B.bq 1) k Q)=J (Y U d1)/\y.cell? (O (B.bq 2) k Q)=J (Y U d2)) ((repeat' apply db)<;>(go_keep;done)) (fail)
       obtain⟨W,eW⟩:∃W,W=(wr.alloc (.cells #[Y U d0,Y U d1,Y U d2,Y U 0,Y U 0] 87)).drew:=⟨_,Z⟩;have HX:ar (W.rowIs wr.heap.size 87 5 λj=>(#[Y U d0,Y U d1,Y U d2,Y U 0,Y U 0]:Array Vu).getD j (Bo false)):=by unfold ar;rw[eW];exact(K7 wr #[Y U d0,Y U d1,Y U d2,Y U 0,Y U 0] 87).drew
       have x0:W.cell? (O wr.heap.size 0 Q)=J (Y U d0):=HX.out.cell (i:=0) Za;have x1:W.cell? (O wr.heap.size 1 Q)=J (Y U d1):=HX.out.cell (i:=1) Za;have x2:W.cell? (O wr.heap.size 2 Q)=J (Y U d2):=HX.out.cell (i:=2) Za;have x3:W.cell? (O wr.heap.size 3 Q)=J (Y U 0):=HX.out.cell (i:=3) Za;have x4:W.cell? (O wr.heap.size 4 Q)=J (Y U 0):=HX.out.cell (i:=4) Za;have zx:∀o,W.frozen? (O wr.heap.size o Q)=false:=λo=>HX.out.frozen o;have h':ar (bE wr.heap.size wr W/\W.heap.size=wr.heap.size+1):=by unfold ar;rw[eW];exact⟨b7f ((bz _ _).alloc (af _) _),by show(wr.alloc _).heap.size=_;simp⟩
       rw[←eW];have s0:W.cell? (O (w.heap.size+1) 2 Q)=J (a 2):=(t.out.step h'.out.1).cell Za;have s1:∀o,(W.alloc o).cell? (O (w.heap.size+1) 2 Q)=J (a 2):=λo=>((t.out.step h'.out.1).lists.alloc o).cell (by show 2<3;omega);have ne:w.heap.size+1≠wr.heap.size:=by have:=t.out.size;omega
       have ne':wr.heap.size≠w.heap.size+1:=aA ne;clear eW k2 k3 k4 g0 g1 g2;rcases h0 with rfl|⟨h0,h0'⟩
       .have S:ar ([Y U (-1),Y U d1,Y U d2,Y U 0,Y U 0]=cut (qi K 2) (n3 r.nF r.nS k 2*pn 2) (pn 2)):=by
         show _=cut (qi K 2) (k*5) 5;have D:=HZ.out (by rw[EE.out.1];omega);rw[Ok,EE.out.1,EE.out.2.1,EE.out.2.2,D.1,D.2]
        go_wp2_with (refine Ar (c:=2) Z _ _ Z t.out (h'.out.1.alloc (by have:=h'.out.2;omega) _) Za (by show k<=32;omega) (O W.heap.size 0 Q) 1 _ S.out (λj u hu=>Ec j u hu) Z Z ?_;intro g k' w2 t2 c2 z2;have T:ar _:=t2;clear t2)
        exact⟨⟨k+1,_,by omega,by go_num,T.out.pP λc A=>Pc r.nF r.nS k c A⟩,by simp[bT];omega⟩
       .go_wp2_with fail
        refine(CK (l.out.same h'.out.1.size λj p _=>h'.out.1.block j p) L.out G (d:=k) Za false).mono ?_;rintro e z ⟨rfl,rfl⟩;obtain⟨r1,A'⟩:∃x:Int,x=K.ends k false:=⟨_,Z⟩;rw[←A'];have ER1:ar (r1=(K.ends k false:Int)):=A';clear A';have B':ar (bE wr.heap.size wr (z.setCell (O wr.heap.size 3 Q) (Y U r1))):=h'.out.1.setCell (af _) _
        go_wp2_with fail
        refine(CK (l.out.same B'.out.size λj p _=>B'.out.block j p) L.out G (d:=k) Za true).mono ?_;rintro e w3 ⟨rfl,rfl⟩;obtain⟨r2,C'⟩:∃x:Int,x=K.ends k true:=⟨_,Z⟩;rw[←C'];have ER2:ar (r2=(K.ends k true:Int)):=C';clear C';have S:ar ([Y U d0,Y U d1,Y U d2,Y U r1,Y U r2]=cut (qi K 2) (n3 r.nF r.nS k 2*pn 2) (pn 2)):=by
         show _=cut (qi K 2) (k*5) 5;rw[Ok,EE.out.1,EE.out.2.1,EE.out.2.2,q.out.1,q.out.2,ER1.out,ER2.out]
        have D':ar (bE wr.heap.size wr ((z.setCell (O wr.heap.size 3 Q) (Y U r1)).setCell (O wr.heap.size 4 Q) (Y U r2))/\((z.setCell (O wr.heap.size 3 Q) (Y U r1)).setCell (O wr.heap.size 4 Q) (Y U r2)).heap.size=wr.heap.size+1):=⟨B'.out.setCell (af _) _,by rw[i6,i6];exact h'.out.2⟩;have s2:∀o,(((z.setCell (O wr.heap.size 3 Q) (Y U r1)).setCell (O wr.heap.size 4 Q) (Y U r2)).alloc o).cell? (O (w.heap.size+1) 2 Q)=J (a 2):=λo=>((t.out.step D'.out.1).lists.alloc o).cell (by show 2<3;omega)
        go_wp2_with (refine Ar (c:=2) Z _ _ Z t.out (D'.out.1.alloc (by have:=D'.out.2;omega) _) Za (by show k<=32;omega) (O z.heap.size 0 Q) 1 _ S.out (λj u hu=>by have:=Ec (w:=(z.setCell (O wr.heap.size 3 Q) (Y U r1)).setCell (O wr.heap.size 4 Q) (Y U r2)) (t:=87) j u hu;rw[i6,i6]at this;exact this) Z (by first|rfl|(simp only[i6];rfl)) ?_;intro g k' w2 t2 c2 z2;have T:ar _:=t2;clear t2)
        exact⟨⟨k+1,_,by omega,by go_num,T.out.pP λc A=>Pc r.nF r.nS k c A⟩,by simp[bT];omega⟩
      .obtain rfl:k=r.nD:=by omega
       have R:ar (Told K w wr a (qx K)):=t.out.pP λc A=>by
        have hb:=HB.out;cases c,(Za:c<3) using iN
        .exact hb.1.symm
        .exact hb.2.1.symm
        .exact hb.2.2.symm
       let⟨f,g,s,hV,tl,hg⟩:=R.out.tell;have v0:wr.cell? (O (w.heap.size+1) 0 Q)=J (.slice (f 0) K.nF (s 0)):=by rw[←show a 0=.slice (f 0) K.nF (s 0) from hV 0 Za];exact R.out.cell Za
       have v1:wr.cell? (O (w.heap.size+1) 1 Q)=J (.slice (f 1) K.nS (s 1)):=by rw[←show a 1=.slice (f 1) K.nS (s 1) from hV 1 Za];exact R.out.cell Za
       have v2:wr.cell? (O (w.heap.size+1) 2 Q)=J (.slice (f 2) K.nD (s 2)):=by rw[←show a 2=.slice (f 2) K.nD (s 2) from hV 2 Za];exact R.out.cell Za
       have TL:ar (vx wr K f g/\∀c,c<3->0<qx K c->w.heap.size+2<=g c):=⟨tl,hg⟩;have TH:ar (wr.there w.heap.size 0 3):=D5 R.out.res (o:=0) (m:=3) Za;have r0:wr.cell? (O w.heap.size 0 Q)=J (Sc Q 0 0):=R.out.res.cell Za;have r1:wr.cell? (O w.heap.size 1 Q)=J (Sc Q 0 0):=R.out.res.cell Za;have r2:wr.cell? (O w.heap.size 2 Q)=J (Sc Q 0 0):=R.out.res.cell Za;have zr:∀o,wr.frozen? (O w.heap.size o Q)=false:=λo=>R.out.res.frozen o;clear hV tl hg t
       go_wp2_with (refine Ie Z 109 _ _ Z w.heap.size 0 #[.slice (f 0) K.nF (s 0),.slice (f 1) K.nS (s 1),.slice (f 2) K.nD (s 2)] Z Z TH.out On (VN _ _ _ _ _ _ _ _ _) ?_;intro W eW)
       clear eW;refine bodyPost_ret (v:=DE K f s) (EZ Tryz.results45 (wr.setCells w.heap.size 0 [.slice (f 0) K.nF (s 0),.slice (f 1) K.nS (s 1),.slice (f 2) K.nD (s 2)]) w.heap.size [.slice (f 0) K.nF (s 0),.slice (f 1) K.nS (s 1),.slice (f 2) K.nD (s 2)] Z (fy wr w.heap.size 0 _ TH.out) Tryz.underlying109 Z On) Z ?_;have Hb:bE w.heap.size w (wr.setCells w.heap.size 0 [.slice (f 0) K.nF (s 0),.slice (f 1) K.nS (s 1),.slice (f 2) K.nD (s 2)]):=p9 (af _) _ _ R.out.oC;exact⟨f,⟨s,Z⟩,g,TL.out.1.same (by rw[l8];exact af _) λc A hn=>I3 (by have:=TL.out.2 c A hn;omega) _ _ _,Hb,λc A hn=>by have:=TL.out.2 c A hn;omega⟩
def Rk.oH(r:Rk)(K:aa)(n:Nat):Rk:={ r with R:=λi q=>if i<n/\K.ends i false=0/\K.ends i true=0 then(if q=0 then -1 else 0) else r.R i q }
theorem TX(r:Rk)(K:aa):r.oH K 0=r:=by
 unfold Rk.oH;have:(λi q=>if i<0/\K.ends i false=0/\K.ends i true=0 then(if q=0 then(-1:Int) else 0) else r.R i q)=r.R:=by
  funext i q;rw[mY Za]
 rw[this]
theorem WC(r:Rk)(K:aa)(k:Nat)(h:¬(K.ends k false=0/\K.ends k true=0)):r.oH K (k+1)=r.oH K k:=by
 unfold Rk.oH
 congr 1
 funext i q
 by_cases e:i<k/\K.ends i false=0/\K.ends i true=0
 .rw[mZ e,mZ ⟨by omega,e.2⟩]
 .rw[mY e,mY];intro a
  by_cases b:i=k
  .subst b;exact h a.2
  .exact e ⟨by omega,a.2⟩
theorem Sz(r:Rk)(K:aa)(k:Nat)(h:K.ends k false=0/\K.ends k true=0)(B:RB){w:Wd}(M:ml w B (((r.oH K k).oF k 0 (-1)).oF k 1 0 |>.oF k 2 0)):ml w B (r.oH K (k+1)):=by
 refine⟨M.k0,M.k1,M.k2,M.aq,M.wd,M.pr,λd q b c=>?_,M.zw,M.zp,M.zq,M.lb,M.lw,M.lp,M.lq,M.bw,M.bp,M.bq,M.wp,M.wq,M.pq,M.qq,M.hF,M.hS,M.hD⟩;rw[M.rg d q b c]
 congr 2
 show upd (upd (upd (r.oH K k).R k 0 (-1)) k 1 0) k 2 0 d q=if d<k+1/\K.ends d false=0/\K.ends d true=0 then(if q=0 then(-1:Int) else 0) else r.R d q
 unfold upd Rk.oH
 by_cases e:d=k
 .subst e;rw[mZ (show d<d+1/\_/\_ from⟨by omega,h⟩)];cases q,(Za:q<3) using iN
  all_goals simp
 .rw[mY Za,mY Za,mY Za];show(if d<k/\K.ends d false=0/\K.ends d true=0 then(if q=0 then(-1:Int) else 0) else r.R d q)=_
  by_cases a:d<k/\K.ends d false=0/\K.ends d true=0
  .rw[mZ a,mZ (show d<k+1/\K.ends d false=0/\K.ends d true=0 from⟨by omega,a.2⟩)]
  .rw[mY a,mY λf=>a ⟨by omega,f.2⟩]
theorem XQ(M:ml w B r)(l:r.nS=K.nS)(m:∀i x,i<K.nS->x<4->r.P i (8+x)=pT (K.file i x) (K.end i x))(gf:∀i x,i<K.nS->x<4->K.file i x=-1\/0<=K.file i x) :
  aF V 79 #[Po (J (O B.b 0 Q))] w λe f=>e=.returned (.tuple #[])/\ml f B (r.oH K r.nD)/\ej B w f:=by
 have n:ar (ml w B r):=M;have p:ar (r.nS=K.nS):=l;have q:ar (∀i x,i<K.nS->x<4->r.P i (8+x)=pT (K.file i x) (K.end i x)):=m;have s:ar (∀i x,i<K.nS->x<4->K.file i x=-1\/0<=K.file i x):=gf;have N:r.nD<=4:=M.hD;have P:r.nS<=6:=M.hS;have t:ar (∀k b,K.ends k b<=24):=λk b=>by
  have:=Bw (K.nZ k b) (K.nS*4);unfold aa.ends;omega
 clear M l m gf
 go_enter Tryz.func79,Tryz.ntmps79
 go_wp2
 go_loopw [2] (λi f=>∃k:Nat,k<=r.nD/\i=Y U k/\ml f B (r.oH K k)/\ej B w f) λi _=>r.nD - (bT i).toNat
 case atStart=>exact⟨0,by omega,Z,by rw[TX];exact n.out,ej.refl _⟩
 case round =>
  clear n;obtain⟨k,R,rfl,g,u⟩:=hrel;have a:ar (ml wr B (r.oH K k)):=g;have h:ar (ej B w wr):=u;have A:wr.cell? (O B.b 2 Q)=J (.slice (B.aq 0) r.nD (B.cq 0)):=g.k2 0 Za;have C:wr.cell? (O B.b 3 Q)=J (.slice (B.aq 1) r.nD (B.cq 1)):=g.k2 1 Za;have D:wr.cell? (O B.b 4 Q)=J (.slice (B.aq 2) r.nD (B.cq 2)):=g.k2 2 Za;clear g u
  by_cases c:k<r.nD
  .have S:(0:Int)<=(k:Int):=by omega
   have T:(k:Int)<(r.nD:Int):=by omega
   have v:=a.out.aq 0 Za (show 0<r.nD by omega);have y:=a.out.aq 1 Za (show 0<r.nD by omega);have z:=a.out.aq 2 Za (show 0<r.nD by omega);rw[v]at A;rw[y]at C;rw[z]at D;clear v y z
   go_wp2_with fail
   refine(HR a.out p.out q.out s.out (d:=k) Za false).mono ?_;rintro e W ⟨rfl,rfl⟩;have E:=t.out k false;have F:=t.out k true
   go_wp2_with fail
   refine(HR a.out p.out q.out s.out (d:=k) Za true).mono ?_;rintro e G ⟨rfl,rfl⟩
   by_cases d:K.ends k false=0/\K.ends k true=0
   .rw[d.1,d.2];have j:ar (K.ends k false=0/\K.ends k true=0):=d;have X:=a.out.rg k 0 c Za;have r1:=a.out.rg k 1 c Za;have r2:=a.out.rg k 2 c Za;have z0:=λo=>a.out.zq 0 o Za (show 0<r.nD by omega);have z1:=λo=>a.out.zq 1 o Za (show 0<r.nD by omega);have z2:=λo=>a.out.zq 2 o Za (show 0<r.nD by omega);have H:=a.out.bq 0 Za;have n1:=a.out.bq 1 Za;have n2:=a.out.bq 2 Za;have n3:=a.out.qq 0 1 Za Za Za;have I:=a.out.qq 0 2 Za Za Za;have L:=a.out.qq 1 2 Za Za Za;have n6:=aA H;have n7:=aA n1;have n8:=aA n2;have n9:=aA n3;have a':=aA I;have b':=aA L;clear d E F
    go_wp2
    refine⟨⟨k+1,by omega,by go_num,Sz r K k j.out B (((a.out.oF (d:=k) (q:=0) c Za (-1)).oF (d:=k) (q:=1) c Za 0).oF (d:=k) (q:=2) c Za 0),((h.out.oF (q:=0) Za _ _).oF (q:=1) Za _ _).oF (q:=2) Za _ _⟩,by simp[bT];omega⟩
   .have j:ar (r.oH K (k+1)=r.oH K k):=WC r K k d;have e0:(((K.ends k false:Nat):Int)+((K.ends k true:Nat):Int)==0)=false:=by simp;omega
    clear d;generalize K.ends k false=a1 at *;generalize K.ends k true=a2 at *
    go_wp2
    exact⟨⟨k+1,by omega,by go_num,by rw[j.out];exact a.out,h.out⟩,by simp[bT];omega⟩
  .obtain rfl:k=r.nD:=by omega
   go_wp2
   go_end0
   exact⟨Z,a.out,h.out⟩
theorem c0t{K:aa}{b:Bool}(i q:Nat)(c:q<3):(K.count a b h).D i q=K.D i q:=by
 cases b<;>exact d6 _ Za
theorem OH{K:aa}{r:Rk}(f:Rel K r)(I:Inv K)(N:iP K)(E:nE K)(F:a<K.nS)(v:b<4)(hf:K.file a b≠-1) :
  Rel (K.nv a b) ((r.nt a (8+b) 0).oH (K.av a b (-1) false) r.nD):=by
 have hF:=I.mL.file a b F v;obtain⟨d,H⟩:∃d:Nat,K.file a b=d:=⟨(K.file a b).toNat,by omega⟩;have d':d<K.nD:=by omega
 have p:Rel ((K.av a b (-1) false).count d (K.end a b) (-1)) (r.nt a (8+b) 0):=by
  have:=(f.av a b (-1) false v).count d (K.end a b) (-1);rw[G6]at this;exact this
 have L:=Ya I F v H;have P:∀i x,((K.av a b (-1) false).count d (K.end a b) (-1)).ends i x=(K.av a b (-1) false).ends i x:=λi x=>Ew;have R:∀i,i≠d->((K.av a b (-1) false).count d (K.end a b) (-1)).D i 3=K.D i 3/\((K.av a b (-1) false).count d (K.end a b) (-1)).D i 4=K.D i 4:=λi s=>by
  have c:=tO (K.av a b (-1) false) d (K.end a b) (-1) i;rw[c.1,c.2,mY Za,mY Za];exact⟨Z,Z⟩
 have c':∀i q,q<3->((K.av a b (-1) false).count d (K.end a b) (-1)).D i q=K.D i q:=λi q m=>c0t _ _ m;have sz:=P4 (K.av a b (-1) false) d (K.end a b) (-1);have zD:((K.av a b (-1) false).count d (K.end a b) (-1)).nD=K.nD:=sz.2.2.1;unfold aa.nv;rw[H,au];show Rel (if ((K.av a b (-1) false).count d (K.end a b) (-1)).D d 3=0/\((K.av a b (-1) false).count d (K.end a b) (-1)).D d 4=0 then(((K.av a b (-1) false).count d (K.end a b) (-1)).an (((K.av a b (-1) false).count d (K.end a b) (-1)).D d 0).toNat 0 (-1)).hZ d (-1) else(K.av a b (-1) false).count d (K.end a b) (-1)) _;generalize (K.av a b (-1) false).count d (K.end a b) (-1)=l at *;have S:∀i,i<K.nD->(((K.av a b (-1) false).ends i false=0/\(K.av a b (-1) false).ends i true=0)↔(l.D i 3=0/\l.D i 4=0)):=λi s=>by
  rw[←P,←P,L.tc i Za,L.sW i Za];constructor
  .intro h;rw[h.1,h.2];exact⟨Z,Z⟩
  .intro h;exact⟨by omega,by omega⟩
 have e':r.nD=K.nD:=f.d;have T:∀e q,e<K.nD->q<3->((r.nt a (8+b) 0).oH (K.av a b (-1) false) r.nD).R e q=if l.D e 3=0/\l.D e 4=0 then(if q=0 then -1 else 0) else l.D e q:=λe q o m=>by
  show(if e<r.nD/\(K.av a b (-1) false).ends e false=0/\(K.av a b (-1) false).ends e true=0 then(if q=0 then(-1:Int) else 0) else r.R e q)=_
  by_cases h:l.D e 3=0/\l.D e 4=0
  .rw[mZ h,mZ ⟨by omega,(S e o).2 h⟩]
  .rw[mY h,mY λh'=>h ((S e o).1 h'.2)];have:=p.q e q Za m;exact this
 have W:∀e q,e<K.nD->e≠d->q<3->(if l.D e 3=0/\l.D e 4=0 then(if q=0 then(-1:Int) else 0) else l.D e q)=l.D e q:=λe q o G m=>by
  by_cases h:l.D e 3=0/\l.D e 4=0
  .rw[mZ h];rw[(R e G).1,(R e G).2]at h;have M:K.D e 0=-1:=by
    rcases I.mL.pc e o with k|k
    .exact k
    .exact absurd h (E.h e o k.1)
   have:=N.th e o M;rw[c' e q m];cases q,(Za:q<3) using iN
   .simp[M]
   .simp[this.1]
   .simp[this.2]
  .rw[mY h]
 generalize X:(r.nt a (8+b) 0).oH (K.av a b (-1) false) r.nD=t at *;have n:t.nF=(r.nt a (8+b) 0).nF/\t.nS=(r.nt a (8+b) 0).nS/\t.nD=(r.nt a (8+b) 0).nD/\t.P=(r.nt a (8+b) 0).P/\t.W=(r.nt a (8+b) 0).W:=by rw[←X];exact⟨Z,Z,Z,Z,Z⟩
 generalize r.nt a (8+b) 0=r0 at *;clear X;split
 .rename_i y;have u:=p.rI (l.D d 0).toNat 0 (-1) Za;have e0:=(J3 l (l.D d 0).toNat 0 (-1)).1;have z0:=(J3 l (l.D d 0).toNat 0 (-1)).2;generalize l.an (l.D d 0).toNat 0 (-1)=K2 at *;refine⟨n.1.trans u.f,n.2.1.trans u.s,n.2.2.1.trans u.d,λi c s z=>?_,λg j A C D=>?_,λe q o m=>?_⟩
  .rw[n.2.2.2.1];exact u.p i c s z
  .rw[n.2.2.2.2];exact u.w g j A C D
  .have a':e<K.nD:=by have:e<K2.nD:=o;omega
   rw[T e q a' m,Z5]
   by_cases k:e=d
   .subst k;rw[mZ y,mZ (show e=e/\q<5 from⟨Z,by omega⟩)]
   .rw[W e q a' k m,mY Za,e0]
 .rename_i y;refine⟨n.1.trans p.f,n.2.1.trans p.s,n.2.2.1.trans p.d,λi c s z=>?_,λg j A C D=>?_,λe q o m=>?_⟩
  .rw[n.2.2.2.1];exact p.p i c s z
  .rw[n.2.2.2.2];exact p.w g j A C D
  .rw[T e q Za m]
   by_cases k:e=d
   .subst k;rw[mY y]
   .exact W e q Za k m
theorem Lx(M:ml w B r)(c:Rel K r)(I:Inv K)(n:a<K.nS)(k:b<4)(o:d=a*12+8+b) :
  aF V 79 #[Po (J (O B.b 0 Q))] (w.setCell (O B.bp d Q) (Y U 0)) λe g=>e=.returned (.tuple #[])/\ml g B ((r.nt a (8+b) 0).oH (K.av a b (-1) false) r.nD)/\ej B w g:=by
 have m:ml (w.setCell (O B.bp d Q) (Y U 0)) B (r.nt a (8+b) 0):=M.nt (i:=a) (c:=8+b) (o:=d) (by have:=c.s;omega) Za Za 0;have l:=c.av a b (-1) false k;rw[G6]at l;refine(XQ (K:=K.av a b (-1) false) m c.s (λi y j f=>l.file j f) λi y j f=>?_).mono ?_
 .rw[zI K a b (-1) false i y f k];split
  .exact bP Z
  .rcases I.mL.file i y j f with h|h
   .exact bP h
   .exact ba h.1
 .rintro e g ⟨rfl,h1,h2⟩;exact⟨Z,h1,((ej.refl w).nt _ _).trans h2⟩
theorem b5a(M:ml w B r)(c:Rel K r)(I:Inv K)(N:iP K)(m:nE K)(y z:Int)(f:a<K.nS)(g:b<4) :
  aF V 43 #[Po (J (O B.b 0 Q)),Y U a,Y U 15,Y U b,Y U y,Y U z] w (oe B w (N3 K a b)):=by
 have h:ar (ml w B r):=M;have d:ar (Rel K r):=c;have x:=M.k1;have o:a<r.nS:=by have:=c.s;omega
 have A:(0:Int)<=(a:Int):=by omega
 have C:(a:Int)<(r.nS:Int):=by omega
 have D:(0:Int)<=(b:Int):=by omega
 have F:(b:Int)<4:=by omega
 have i:w.cell? (O B.bp (a*12+8+b) Q)=J (Y U (r.P a (8+b))):=by rw[aP];exact M.pr a (8+b) o Za
 have H:=M.zp;have p:K.nD<=4:=by have:=M.hD;have:=c.d;omega
 clear M c
 go_enter lN,kN
 rcases L9 I.mL d.out f g p with⟨j,k⟩|⟨n,j,k,L,q,s,t⟩
 .have E:ar (N3 K a b=⟨K,0,8⟩):=by unfold N3 ar;rw[mZ j]
  rw[k]at i
  go_wp2
  go_ret2
  exact oe.mk E h.out d.out (ej.refl _)
 .have E:ar (N3 K a b=⟨K.nv a b,0,0⟩):=by unfold N3 ar;rw[mY Za]
  obtain⟨v,l⟩:∃v,r.P a (8+b)=v:=⟨_,Z⟩;rw[l]at i s t;have P:¬v=0:=by omega
  have u:ar (K.file a b≠-1):=by unfold ar;omega
  clear q l
  go_wp2_with fail
  refine(Lx h.out d.out I f g Za).mono ?_;rintro e R ⟨rfl,m1,p1⟩
  go_wp2
  go_ret2
  exact oe.mk E m1 (OH d.out I N m f g u.out) p1
theorem Yj(M:ml w B r)(d:Rel K r)(I:Inv K)(N:iP K)(p:nE K)(g:b<K.nS)(h:c<4)(i:K.still a b=true) :
  aF V 42 #[Po (J (O B.b 0 Q)),Y U 11,Y U b,Y U c] w (oe B w (X1 K a b c)):=by
 have j:ar (ml w B r):=M;have f:ar (Rel K r):=d;have z:=M.k1;have q:b<r.nS:=by have:=d.s;omega
 have A:(0:Int)<=(b:Int):=by omega
 have C:(b:Int)<(r.nS:Int):=by omega
 have D:(0:Int)<=(c:Int):=by omega
 have F:(c:Int)<4:=by omega
 have k:w.cell? (O B.bp (b*12+8+c) Q)=J (Y U (r.P b (8+c))):=by rw[aP];exact M.pr b (8+c) q Za
 have H:=M.zp;have s:K.nD<=4:=by have:=M.hD;have:=d.d;omega
 clear M d
 go_enter lO,kO
 rcases L9 I.mL f.out g h s with⟨l,m⟩|⟨n,l,m,L,t,u,x⟩
 .have E:ar (X1 K a b c=⟨K,0,8⟩):=by unfold X1 ar;rw[mY (by simp[i]),mZ l]
  rw[m]at k
  go_wp2
  go_ret2
  exact oe.mk E j.out f.out (ej.refl _)
 .have E:ar (X1 K a b c=⟨K.nv b c,0,0⟩):=by unfold X1 ar;rw[mY (by simp[i]),mY Za]
  obtain⟨v,o⟩:∃v,r.P b (8+c)=v:=⟨_,Z⟩;rw[o]at k u x;have P:¬v=0:=by omega
  have y:ar (K.file b c≠-1):=by unfold ar;omega
  clear t o
  go_wp2_with fail
  refine(Lx j.out f.out I g h Za).mono ?_;rintro e R ⟨rfl,m1,p1⟩
  go_wp2
  go_ret2
  exact oe.mk E m1 (OH f.out I N p g h y.out) p1
theorem c0C(M:ml w B r)(c:Rel K r)(I:Inv K)(z:Int)(o:a<K.nS)(F:b<4)(p:d<4) :
  aF V 43 #[Po (J (O B.b 0 Q)),Y U a,Y U 14,Y U b,Y U d,Y U z] w (oe B w (pZ K a b d)):=by
 have g:ar (ml w B r):=M;have h:ar (Rel K r):=c;have W:=M.k1;have i:a<r.nS:=by have:=c.s;omega
 have G:(0:Int)<=(a:Int):=by omega
 have X:(a:Int)<(r.nS:Int):=by omega
 have x1:(0:Int)<=(b:Int):=by omega
 have x2:(b:Int)<4:=by omega
 have t1:(0:Int)<=(d:Int):=by omega
 have t2:(d:Int)<4:=by omega
 have j:w.cell? (O B.bp (a*12+8+b) Q)=J (Y U (r.P a (8+b))):=by rw[aP];exact M.pr a (8+b) i Za
 have q:w.cell? (O B.bp (a*12+8+d) Q)=J (Y U (r.P a (8+d))):=by rw[aP];exact M.pr a (8+d) i Za
 have zp:=M.zp;have s:K.nD<=4:=by have:=M.hD;have:=c.d;omega
 clear M c
 go_enter lN,kN
 rcases L9 I.mL h.out o F s with⟨k,t⟩|⟨n,k,t,h3,l,x,y⟩
 .have E:ar (pZ K a b d=⟨K,0,8⟩):=by unfold pZ ar;rw[mZ (bP k)]
  rw[t]at j
  go_wp2
  go_ret2
  exact oe.mk E g.out h.out (ej.refl _)
 .rcases L9 I.mL h.out o p s with⟨H,A⟩|⟨m,H,A,g3,L,N,P⟩
  .have E:ar (pZ K a b d=⟨K.fc a d n (K.end a b),0,0⟩):=by unfold pZ ar;rw[mY Za,k,au]
   have R:ar (r.P a (8+b)=pT n (K.end a b)):=l;obtain⟨v,f⟩:∃v,r.P a (8+b)=v:=⟨_,Z⟩;have S:ar (r.P a (8+b)=v):=f;rw[f]at j x y;rw[A]at q;have T:¬v=0:=by omega
   have b4:B.bp≠B.b:=λe=>g.out.bp e.symm;have b5:B.b≠B.bp:=g.out.bp;clear l f
   go_wp2_with fail
   go_region_held3 (λC=>C.cell? (O B.b 1 Q)=J (Sc (J (O B.bp 0 Q)) r.nS B.cp)/\C.cell? (O B.bp (a*12+8+b) Q)=J (Y U v)) ((repeat' apply db)<;>(first|(go_keep;done)|(refine zH ?_;go_keep)|(refine keep_same_drew ?_;go_keep))) (fail)
   go_wp2
   go_ret2
   refine oe.mk E (g.out.drew.nt (i:=a) (c:=8+d) (o:=a*12+8+d) i Za Za v) ?_ ((ej.refl _).drew.nt _ _);rw[←S.out,R.out];exact h.out.fc a d n _ p
  .have E:ar (pZ K a b d=⟨K,0,8⟩):=by unfold pZ ar;rw[mZ (ba Za)]
   obtain⟨v,f⟩:∃v,r.P a (8+b)=v:=⟨_,Z⟩;obtain⟨u,D⟩:∃u,r.P a (8+d)=u:=⟨_,Z⟩;rw[f]at j x y;rw[D]at q N P;have T:¬v=0:=by omega
   clear l f L D
   go_wp2
   go_ret2
   exact oe.mk E g.out h.out (ej.refl _)
theorem c2r(K:aa)(d c:Nat)(v:Int):(K.np d c v).nF=K.nF/\(K.np d c v).nS=K.nS/\(K.np d c v).nD=K.nD/\(K.np d c v).S=K.S/\(K.np d c v).B=K.B/\(K.np d c v).F=K.F:=⟨Z,Z,Z,Z,Z,Z⟩
theorem b5N(K:aa)(n:Nat)(f:Int):(K.hZ n f).nF=K.nF/\(K.hZ n f).nS=K.nS/\(K.hZ n f).nD=K.nD/\(K.hZ n f).S=K.S/\(K.hZ n f).B=K.B/\(K.hZ n f).F=K.F:=by
 unfold aa.hZ;simp only[c2r,and_self]
theorem Rel.ring{K:aa}{r:Rk}(b:Rel K r)(N:iP K)(f:Int)(d:a<K.nD)(t:K.D a 0=-1):Rel (K.hZ a f) (r.oF a 0 f):=by
 let⟨h,l,m,u,v,x⟩:=b5N K a f;have y:=Z5 K a f;generalize K.hZ a f=D at *;refine⟨by rw[h];exact b.f,by rw[l];exact b.s,by rw[m];exact b.d,λi c n z=>?_,λg j o A p=>?_,λe q s C=>?_⟩
 .rw[NL u v];rw[l]at n;exact b.p i c n z
 .rw[x]at p ⊢;rw[h]at o;exact b.w g j o A p
 .rw[m]at s;rw[y];show upd r.R a 0 f e q=_;unfold upd
  by_cases k:e=a
  .subst k;rw[mZ (show e=e/\q<5 from⟨Z,by omega⟩)];have:=N.th e d t;cases q,(Za:q<3) using iN
   .simp
   .simp;rw[b.q e 1 d Za];exact this.1
   .simp;rw[b.q e 2 d Za];exact this.2
  .rw[mY Za,mY Za];exact b.q e q s C
theorem Wi{K:aa}{r:Rk}(e:Rel K r)(N:iP K)(o:b<K.nD)(g:K.D b 0=-1)(p:d<3) :
  Rel ((((K.an c 3 (-1)).hZ b c).fc a d b false).fc a (d+1) b true) ((((r.oF b 0 c).zero c).nt a (8+d) (2*(b:Int)+1)).nt a (8+(d+1)) (2*(b:Int)+2)):=by
 have h:=e.an c 3 (-1);have i:=V0 N c 3 (-1) Za;have j:(K.an c 3 (-1)).D b 0=-1:=by rw[(J3 K c 3 (-1)).1];exact g
 have q:=(J3 K c 3 (-1)).2;generalize K.an c 3 (-1)=k at *;have l:=h.ring i (c:Int) Za j;generalize k.hZ b c=m at *;have n:=l.fc a d b false Za;generalize m.fc a d b false=s at *;have f:=n.fc a (d+1) b true Za;rw[H7,H7]at f;exact f
theorem b7y(M:ml w B r)(c:Rel K r)(d:Own K)(I:Inv K)(N:iP K){x:Nat}(y:a<K.nS)(q:b<K.nD)(k:e<K.nF)(L:x<4) :
  aF V 43 #[Po (J (O B.b 0 Q)),Y U a,Y U 13,Y U b,Y U e,Y U x] w (oe B w (B8 K a b e x)):=by
 have f:ar (ml w B r):=M;have g:ar (Rel K r):=c;have k0:=M.k0;have k1:=M.k1;have z:K.nD<=4:=by have:=M.hD;have:=c.d;omega
 have A:b<r.nD:=by have:=c.d;omega
 have n:a<r.nS:=by have:=c.s;omega
 have h:e<r.nF:=by have:=c.f;omega
 have hF:r.nF<=32:=M.hF;have P:w.cell? (O B.b 2 Q)=J (.slice (B.aq 0) r.nD (B.cq 0)):=M.k2 0 Za;rw[M.aq 0 Za Za]at P;have l1:(0:Int)<=(a:Int):=by omega
 have l2:(a:Int)<(r.nS:Int):=by omega
 have m1:(0:Int)<=(b:Int):=by omega
 have m2:(b:Int)<(r.nD:Int):=by omega
 have m3:(b:Int)<4:=by omega
 have f1:(0:Int)<=(e:Int):=by omega
 have f2:(e:Int)<(r.nF:Int):=by omega
 have x1:(0:Int)<=(x:Int):=by omega
 have x2:(x:Int)<4:=by omega
 have s:=M.rg b 0 A Za;rw[c.q b 0 q Za]at s;have C:w.cell? (O B.bp (a*12+8+x) Q)=J (Y U (r.P a (8+x))):=by rw[aP];exact M.pr a (8+x) n Za
 clear M c
 go_enter lN,kN
 by_cases t:K.D b 0=-1
 .rw[t]at s
  by_cases D:K.F e 0=0
  .have j:(K.F e 0==0)=true:=by simpa using D
   by_cases R:x=3
   .subst R;have E:ar (B8 K a b e 3=⟨K,0,8⟩):=by unfold B8 ar;rw[mY Za,mY Za,mZ (bP Z)]
    go_wp2_with fail
    refine(Y9 f.out g.out d N I.mL k).mono ?_;rintro p l ⟨rfl,rfl⟩;rw[j]
    go_wp2
    go_ret2
    exact oe.mk E f.out g.out (ej.refl _)
   .have e3:((x:Int)==3)=false:=by simp;omega
    have y1:(0:Int)<=(x:Int)+1:=by omega
    have y2:(x:Int)+1<4:=by omega
    have u:w.cell? (O B.bp (a*12+8+(x+1)) Q)=J (Y U (r.P a (8+(x+1)))):=by rw[aP];exact f.out.pr a (8+(x+1)) n Za
    rcases L9 I.mL g.out y L z with⟨S,F⟩|⟨m,S,F,g3,T,W,G⟩
    .rw[F]at C;rcases L9 I.mL g.out y (show x+1<4 by omega) z with⟨X,H⟩|⟨m,X,H,q3,q4,q5,q6⟩
     .rw[H]at u;have E:ar (B8 K a b e x=⟨(((K.an e 3 (-1)).hZ b e).fc a x b false).fc a (x+1) b true,0,0⟩):=by unfold B8 ar;rw[mY Za,mY Za,mY Za]
      go_wp2_with fail
      refine(Y9 f.out g.out d N I.mL k).mono ?_;rintro p l ⟨rfl,rfl⟩;rw[j];have zp:=f.out.zp;have zw:=f.out.zw;have zq:=λo=>f.out.zq 0 o Za (show 0<r.nD by omega);have d0:l.cell? (O B.bw (e*4) Q)=J (Y U (r.W e 0)):=f.out.wd e 0 h Za;have d1:=f.out.wd e 1 h Za;have d2:=f.out.wd e 2 h Za;have d3:=f.out.wd e 3 h Za;have b1:=f.out.bw;have b2:=f.out.bp;have b3:=f.out.bq 0 Za;have b4:=f.out.wp;have b5:=f.out.wq 0 Za;have b6:=f.out.pq 0 Za;have b7:=aA b1;have b8:=aA b2;have b9:=aA b3;have b':=aA b4;have c':=aA b5;have d':=aA b6
      go_wp2
      go_ret2
      have M1:=f.out.oF (d:=b) (q:=0) A Za (e:Int);have M2:=(((M1.nX (i:=e) (c:=0) (o:=e*4) h Za Za 0).nX (i:=e) (c:=1) (o:=e*4+1) h Za Za 0).nX (i:=e) (c:=2) (o:=e*4+2) h Za Za 0).nX (i:=e) (c:=3) (o:=e*4+3) h Za Za 0;have M3:=(M2.nt (i:=a) (c:=8+x) (o:=a*12+8+x) n Za Za (2*(b:Int)+1)).nt (i:=a) (c:=8+(x+1)) (o:=a*12+8+(x+1)) n Za Za (2*(b:Int)+2);exact oe.mk E M3 (Wi g.out N q t Za) (((((((ej.refl _).oF (q:=0) Za _ _).nX _ _).nX _ _).nX _ _).nX _ _).nt _ _ |>.nt _ _)
     .have E:ar (B8 K a b e x=⟨K,0,8⟩):=by unfold B8 ar;rw[mY Za,mY Za,mZ (ba (ba Za))]
      obtain⟨v,i⟩:∃v,r.P a (8+(x+1))=v:=⟨_,Z⟩;rw[i]at u q5 q6;clear q4 i
      go_wp2_with fail
      refine(Y9 f.out g.out d N I.mL k).mono ?_;rintro p l ⟨rfl,rfl⟩;rw[j]
      go_wp2
      go_ret2
      exact oe.mk E f.out g.out (ej.refl _)
    .have E:ar (B8 K a b e x=⟨K,0,8⟩):=by unfold B8 ar;rw[mY Za,mY Za,mZ (ba (bP Za))]
     obtain⟨v,i⟩:∃v,r.P a (8+x)=v:=⟨_,Z⟩;rw[i]at C W G;clear T i u
     go_wp2_with fail
     refine(Y9 f.out g.out d N I.mL k).mono ?_;rintro p l ⟨rfl,rfl⟩;rw[j]
     go_wp2
     go_ret2
     exact oe.mk E f.out g.out (ej.refl _)
  .have E:ar (B8 K a b e x=⟨K,0,5⟩):=by unfold B8 ar;rw[mY Za,mZ Za]
   have j:(K.F e 0==0)=false:=by simpa using D
   go_wp2_with fail
   refine(Y9 f.out g.out d N I.mL k).mono ?_;rintro p l ⟨rfl,rfl⟩;rw[j]
   go_wp2
   go_ret2
   exact oe.mk E f.out g.out (ej.refl _)
 .have E:ar (B8 K a b e x=⟨K,0,9⟩):=by unfold B8 ar;rw[mZ Za]
  obtain⟨v,i,e'⟩:∃v,K.D b 0=v/\0<=v:=⟨_,Z,by have:=I.mL.pc b q;omega⟩;rw[i]at s;clear t i
  go_wp2
  go_ret2
  exact oe.mk E f.out g.out (ej.refl _)
theorem Rel.oF{K:aa}{r:Rk}(a:Rel K r)(d q:Nat)(v:Int)(g:q<3):Rel (K.np d q v) (r.oF d q v):=by
 refine⟨a.f,a.s,a.d,a.p,a.w,λe c b f=>?_⟩;show upd r.R d q v e c=upd K.D d q v e c;unfold upd;split
 .rfl
 .exact a.q e c b f
theorem Ce(n:Nat)(b:Bool):(2*(n:Int)+(if b then 2 else 1)).tmod 2=if b then 0 else 1:=by
 cases b
 .simp only[aI,if_false];rw[show(2*(n:Int)+1)=((2*n+1:Nat):Int) by omega,show(2:Int)=((2:Nat):Int) by rfl,←fU];omega
 .simp only[if_true];rw[show(2*(n:Int)+2)=((2*n+2:Nat):Int) by omega,show(2:Int)=((2:Nat):Int) by rfl,←fU];omega
theorem RG(M:ml w B r)(f:Rel K r)(i:Own K)(I:Inv K)(N:a<K.nS)(hx:b<4)(hp:c<4)(hj:d<4) :
  aF V 44 #[Po (J (O B.b 0 Q)),Y U a,Y U 16,Y U b,Y U c,Y U d] w (oe B w (H8 K a b c d)):=by
 have k:ar (ml w B r):=M;have m:ar (Rel K r):=f;have k0:=M.k0;have k1:=M.k1;have hD:K.nD<=4:=by have:=M.hD;have:=f.d;omega
 have hF:r.nF<=32:=M.hF;have x:ar (r.nF=K.nF/\r.nD=K.nD):=⟨f.f,f.d⟩;have c':a<r.nS:=by have:=f.s;omega
 have k2:w.cell? (O B.b 2 Q)=J (.slice (B.aq 0) r.nD (B.cq 0)):=M.k2 0 Za;have k3:w.cell? (O B.b 3 Q)=J (.slice (B.aq 1) r.nD (B.cq 1)):=M.k2 1 Za;have k4:w.cell? (O B.b 4 Q)=J (.slice (B.aq 2) r.nD (B.cq 2)):=M.k2 2 Za;have l1:(0:Int)<=(a:Int):=by omega
 have l2:(a:Int)<(r.nS:Int):=by omega
 have x1:(0:Int)<=(b:Int):=by omega
 have x2:(b:Int)<4:=by omega
 have p1:(0:Int)<=(c:Int):=by omega
 have p2:(c:Int)<4:=by omega
 have j1:(0:Int)<=(d:Int):=by omega
 have j2:(d:Int)<4:=by omega
 have c1:w.cell? (O B.bp (a*12+8+b) Q)=J (Y U (r.P a (8+b))):=by rw[aP];exact M.pr a (8+b) c' Za
 have c2:w.cell? (O B.bp (a*12+4+c) Q)=J (Y U (r.P a (4+c))):=by rw[aP];exact M.pr a (4+c) c' Za
 clear M f
 go_enter Tryz.func44,Tryz.ntmps44
 rcases L9 I.mL m.out N hx hD with⟨P,s⟩|⟨j,P,s,h3,z,h5,h6⟩
 .have E:ar (H8 K a b c d=⟨K,0,8⟩):=by unfold H8 ar;rw[mZ (bP P)]
  rw[s]at c1
  go_wp2
  go_ret2
  exact oe.mk E k.out m.out (ej.refl _)
 .rw[H7]at z;have p:=Ce j (K.end a b);have hq:=I5 j (K.end a b);rw[←z]at p hq;obtain⟨v,hv⟩:∃v,r.P a (8+b)=v:=⟨_,Z⟩;rw[hv]at c1 h5 h6 p hq;have ne:¬v=0:=by omega
  clear z hv;rw[aZ Za]at p
  cases t:K.end a b with
  | false =>
   have E:ar (H8 K a b c d=⟨K,0,8⟩):=by unfold H8 ar;rw[mZ (ba t)]
   rw[t]at p;simp only[aI,if_false]at p;have f':v.tmod 2=1:=by rw[aZ Za];exact p
   clear t
   go_wp2
   go_ret2
   exact oe.mk E k.out m.out (ej.refl _)
  | true =>
   rw[t]at p;simp only[if_true]at p;have f':v.tmod 2=0:=by rw[aZ Za];exact p
   rcases T8 I.mL m.out N hp (by have:=x.out;omega) with⟨F,g2,H⟩|⟨g,F,g2,H⟩
   .have E:ar (H8 K a b c d=⟨K,0,6⟩):=by unfold H8 ar;rw[mY (by simp[t];omega),mZ F]
    rw[H]at c2;clear t
    go_wp2
    go_ret2
    exact oe.mk E k.out m.out (ej.refl _)
   .have m':g<32:=by have:=x.out;omega
    have g':g<r.nF:=by have:=x.out;omega
    have L:j<r.nD:=by have:=x.out;omega
    have hk:K.F g 0=2:=(i.what (.dy a c) ⟨N,hp⟩ g F).1
    obtain⟨u,hu,n',o',p'⟩:∃u,r.P a (4+c)=u/\0<u/\u<100/\(u - 1).tdiv 2=g:=⟨_,Z,by omega,by have:=x.out;omega,by
     rcases H with⟨_,h⟩|⟨_,h⟩
     .rw[h];exact I5 g false
     .rw[h];exact I5 g true⟩
    have q':¬u=0:=by omega
    rw[hu]at c2;clear H hu;rw[k.out.aq 0 Za Za]at k2;rw[k.out.aq 1 Za Za]at k3;rw[k.out.aq 2 Za Za]at k4;have D1:=I.mL.head j s;have D2:=I.mL.cnt j s;have D0:=I.mL.pc j s;obtain⟨h,R⟩:∃h:Nat,K.D j 0=h:=⟨(K.D j 0).toNat,by omega⟩;obtain⟨q,S⟩:∃q:Nat,K.D j 1=q:=⟨(K.D j 1).toNat,by omega⟩;obtain⟨l,T⟩:∃l:Nat,K.D j 2=l:=⟨(K.D j 2).toNat,by omega⟩;have c5:=k.out.rg j 0 L Za;have c6:=k.out.rg j 1 L Za;have c7:=k.out.rg j 2 L Za;rw[m.out.q j 0 s Za,R]at c5;rw[m.out.q j 1 s Za,S]at c6;rw[m.out.q j 2 s Za,T]at c7;have d':h<r.nF:=by have:=x.out;omega
    have r':q<4:=by omega
    have s':l<=4:=by omega
    have m1:(0:Int)<=(j:Int):=by omega
    have m2:(j:Int)<(r.nD:Int):=by omega
    have o1:(0:Int)<=(g:Int):=by omega
    have o2:(g:Int)<(r.nF:Int):=by omega
    have o3:(0:Int)<=(h:Int):=by omega
    have o4:(h:Int)<(r.nF:Int):=by omega
    have W:ar (K.D j 3=K.ends j false):=I.tc j s;have G:ar (K.file a b=j/\K.end a b=true/\K.dy a c=g/\K.D j 0=h/\K.D j 1=q/\K.D j 2=l):=⟨P,t,F,R,S,T⟩;have CL:K.ends j false<=24:=I.bounds false;clear t p D0 D1 D2 R S T
    go_wp2_with fail
    refine(CK k.out m.out I.mL (d:=j) Za false).mono ?_;rintro e w1 ⟨rfl,rfl⟩;have A:∀o,(if K.D j 3=0 then(⟨K,0,13⟩:Out) else if K.D j 2=4 then⟨K,0,11⟩ else⟨(K.ni h (2+((q+l)%4)) (K.F g (2+d))).np j 2 (l+1),0,0⟩)=o->H8 K a b c d=o:=λo ho=>by
     let⟨f1,f2,f3,f4,f5,f6⟩:=G.out;unfold H8;rw[mY (by rw[f1,f2];simp),mY Za,f1,au,f3,au,f4,au,f5,f6,←ho,f6];have:(((q:Int)+(l:Int))%4).toNat=(q+l)%4:=by omega
     rw[this]
    by_cases D:K.ends j false=0
    .have E:ar (H8 K a b c d=⟨K,0,13⟩):=A _ (by rw[mZ (by rw[W.out,D];rfl)]);rw[D];clear A D
     go_wp2
     go_ret2
     exact oe.mk E k.out m.out (ej.refl _)
    .have ez:(((K.ends j false:Nat):Int)==0)=false:=by simp;omega
     by_cases z:l=4
     .have E:ar (H8 K a b c d=⟨K,0,11⟩):=A _ (by rw[mY (by rw[W.out];omega),mZ (by rw[G.out.2.2.2.2.2,z];rfl)]);subst z;clear A D;generalize K.ends j false=en at *
      go_wp2
      go_ret2
      exact oe.mk E k.out m.out (ej.refl _)
     .have E:ar (H8 K a b c d=⟨(K.ni h (2+((q+l)%4)) (K.F g (2+d))).np j 2 (l+1),0,0⟩):=A _ (by rw[mY (by rw[W.out];omega),mY (by rw[G.out.2.2.2.2.2];omega)]);have e4:((l:Int)==4)=false:=by simp;omega
      obtain⟨y,X⟩:∃y,r.W g d=y:=⟨_,Z⟩;have HY:ar (K.F g (2+d)=y):=by unfold ar;rw[←X,m.out.w g d g2 hj (bP hk)]
      have cg:=k.out.wd g d g' hj;rw[X]at cg;obtain⟨n,e'⟩:∃n,n=(q+l)%4:=⟨_,Z⟩;have h':ar (n=(q+l)%4):=e';have r4:n<4:=by omega
      have a1:IntKind.i64.wrap ((q:Int)+(l:Int))=(q:Int)+(l:Int):=gP _ Za;have a2:((q:Int)+(l:Int)).tmod 4=(n:Int):=by rw[aZ Za];omega
      have a3:((q:Int)+(l:Int))%4=(n:Int):=by omega
      have b5:(0:Int)<=(n:Int):=by omega
      have b6:(n:Int)<4:=by omega
      have cs:=k.out.wd h n d' r4;have zw:=k.out.zw;have zq:=λo=>k.out.zq 2 o Za (show 0<r.nD by omega);have n1:=k.out.bw;have n2:=k.out.wq 1 Za;have n3:=k.out.wq 2 Za;have n4:=k.out.bq 2 Za;have n5:=aA n1;have n6:=aA n2;have n7:=aA n3;have n8:=aA n4;clear A D e' X;generalize K.ends j false=en at *
      go_wp2_with fail
      go_region_held3 (λC=>C.cell? (O B.b 0 Q)=J (Sc (J (O B.bw 0 Q)) r.nF B.cw)/\C.cell? (O B.b 3 Q)=J (Sc (J (O (B.bq 1) 0 Q)) r.nD (B.cq 1))/\C.cell? (O B.b 4 Q)=J (Sc (J (O (B.bq 2) 0 Q)) r.nD (B.cq 2))/\C.cell? (O (B.bq 1) j Q)=J (Y U q)/\C.cell? (O (B.bq 2) j Q)=J (Y U l)/\C.cell? (O B.bw (g*4+d) Q)=J (Y U y)) ((repeat' apply db)<;>(first|(go_keep;done)|(refine zH ?_;go_keep)|(refine keep_same_drew ?_;go_keep))) (fail)
      go_wp2
      go_ret2
      refine oe.mk E ((k.out.drew.nX (i:=h) (c:=n) (o:=h*4+n) d' r4 Z y).oF (d:=j) (q:=2) L Za ((l:Int)+1)) ?_ (((ej.refl _).drew.nX _ _).oF (q:=2) Za _ _);rw[←h'.out,HY.out];exact(m.out.rf h n y r4).oF j 2 _ Za
theorem SL(M:ml w B r)(f:Rel K r)(i:Own K)(I:Inv K)(W:a<K.nS)(hx:b<4)(hp:c<4)(G:d<4) :
  aF V 44 #[Po (J (O B.b 0 Q)),Y U a,Y U 17,Y U b,Y U c,Y U d] w (oe B w (Q0 K a b c d)):=by
 have k:ar (ml w B r):=M;have l:ar (Rel K r):=f;have k0:=M.k0;have k1:=M.k1;have hD:K.nD<=4:=by have:=M.hD;have:=f.d;omega
 have hF:r.nF<=32:=M.hF;have A:ar (r.nF=K.nF/\r.nD=K.nD):=⟨f.f,f.d⟩;have d':a<r.nS:=by have:=f.s;omega
 have k2:w.cell? (O B.b 2 Q)=J (.slice (B.aq 0) r.nD (B.cq 0)):=M.k2 0 Za;have k3:w.cell? (O B.b 3 Q)=J (.slice (B.aq 1) r.nD (B.cq 1)):=M.k2 1 Za;have k4:w.cell? (O B.b 4 Q)=J (.slice (B.aq 2) r.nD (B.cq 2)):=M.k2 2 Za;have l1:(0:Int)<=(a:Int):=by omega
 have l2:(a:Int)<(r.nS:Int):=by omega
 have x1:(0:Int)<=(b:Int):=by omega
 have x2:(b:Int)<4:=by omega
 have p1:(0:Int)<=(c:Int):=by omega
 have p2:(c:Int)<4:=by omega
 have j1:(0:Int)<=(d:Int):=by omega
 have j2:(d:Int)<4:=by omega
 have c1:w.cell? (O B.bp (a*12+8+b) Q)=J (Y U (r.P a (8+b))):=by rw[aP];exact M.pr a (8+b) d' Za
 have X:w.cell? (O B.bp (a*12+4+c) Q)=J (Y U (r.P a (4+c))):=by rw[aP];exact M.pr a (4+c) d' Za
 clear M f
 go_enter Tryz.func44,Tryz.ntmps44
 rcases L9 I.mL l.out W hx hD with⟨C,m⟩|⟨j,C,m,h3,h4,h5,h6⟩
 .have E:ar (Q0 K a b c d=⟨K,0,8⟩):=by unfold Q0 ar;rw[mZ (bP C)]
  rw[m]at c1
  go_wp2
  go_ret2
  exact oe.mk E k.out l.out (ej.refl _)
 .rw[H7]at h4;have n:=Ce j (K.end a b);have hq:=I5 j (K.end a b);rw[←h4]at n hq;obtain⟨v,hv⟩:∃v,r.P a (8+b)=v:=⟨_,Z⟩;rw[hv]at c1 h5 h6 n hq;have ne:¬v=0:=by omega
  clear h4 hv;rw[aZ Za]at n
  cases p:K.end a b with
  | true =>
   have E:ar (Q0 K a b c d=⟨K,0,8⟩):=by unfold Q0 ar;rw[mZ (ba p)]
   rw[p]at n;simp only[if_true]at n;have g':v.tmod 2=0:=by rw[aZ Za];exact n
   clear p
   go_wp2
   go_ret2
   exact oe.mk E k.out l.out (ej.refl _)
  | false =>
   rw[p]at n;simp only[aI,if_false]at n;have g':v.tmod 2=1:=by rw[aZ Za];exact n
   rcases T8 I.mL l.out W hp (by have:=A.out;omega) with⟨g1,g2,s⟩|⟨g,g1,g2,s⟩
   .have E:ar (Q0 K a b c d=⟨K,0,6⟩):=by unfold Q0 ar;rw[mY (by rw[C,p];simp),mZ g2]
    rw[s]at X;clear p
    go_wp2
    go_ret2
    exact oe.mk E k.out l.out (ej.refl _)
   .have v':g<32:=by have:=A.out;omega
    have e':g<r.nF:=by have:=A.out;omega
    have F:j<r.nD:=by have:=A.out;omega
    have hk:K.F g 0=2:=(i.what (.dy a c) ⟨W,hp⟩ g g1).1;rcases s with⟨L,s⟩|⟨L,s⟩
    .have E:ar (Q0 K a b c d=⟨K,0,6⟩):=by unfold Q0 ar;rw[mY (by rw[C,p];simp),mZ L]
     have x:=Ce g false;have H:=I5 g false;simp only[aI,if_false]at x H;obtain⟨u,z,h',i'⟩:∃u,2*(g:Int)+1=u/\0<u/\u<100:=⟨_,Z,by omega,by omega⟩;rw[s,z]at X;rw[z]at x H;have j':u%2=1:=by rw[←aZ Za];exact x
     have k':¬u=0:=by omega
     clear p z s
     go_wp2
     go_ret2
     exact oe.mk E k.out l.out (ej.refl _)
    .have x:=Ce g true;have H:=I5 g true;simp only[if_true]at x H;obtain⟨u,z,h',i'⟩:∃u,2*(g:Int)+2=u/\0<u/\u<100:=⟨_,Z,by omega,by omega⟩;rw[s,z]at X;rw[z]at x H;have j':u%2=0:=by rw[←aZ Za];exact x
     have k':¬u=0:=by omega
     rw[k.out.aq 0 Za Za]at k2;rw[k.out.aq 1 Za Za]at k3;rw[k.out.aq 2 Za Za]at k4;have D1:=I.mL.head j m;have D2:=I.mL.cnt j m;have D0:=I.mL.pc j m;obtain⟨h,N⟩:∃h:Nat,K.D j 0=h:=⟨(K.D j 0).toNat,by omega⟩;obtain⟨q,c'⟩:∃q:Nat,K.D j 1=q:=⟨(K.D j 1).toNat,by omega⟩;obtain⟨t,P⟩:∃t:Nat,K.D j 2=t:=⟨(K.D j 2).toNat,by omega⟩;have c5:=k.out.rg j 0 F Za;have c6:=k.out.rg j 1 F Za;have c7:=k.out.rg j 2 F Za;rw[l.out.q j 0 m Za,N]at c5;rw[l.out.q j 1 m Za,c']at c6;rw[l.out.q j 2 m Za,P]at c7;have l':h<r.nF:=by have:=A.out;omega
     have m':h<K.nF:=by have:=A.out;omega
     have f':q<4:=by omega
     have y':t<=4:=by omega
     have m1:(0:Int)<=(j:Int):=by omega
     have m2:(j:Int)<(r.nD:Int):=by omega
     have o1:(0:Int)<=(g:Int):=by omega
     have o2:(g:Int)<(r.nF:Int):=by omega
     have o3:(0:Int)<=(h:Int):=by omega
     have o4:(h:Int)<(r.nF:Int):=by omega
     have o5:(0:Int)<=(q:Int):=by omega
     have o6:(q:Int)<4:=by omega
     have HI:ar (K.D j 4=K.ends j true):=I.sW j m;have n':K.F h 0=3:=(i.what (.ring j) m h N).1;have CL:K.ends j true<=24:=I.bounds true;have D:ar (∀o,(if K.D j 2=0/\K.D j 4=0 then(⟨K,0,12⟩:Out) else if K.D j 2=0 then⟨K,0,11⟩ else⟨((K.ni g (2+d) (K.F h (2+q))).np j 1 (((q:Int)+1)%4)).np j 2 ((t:Int) - 1),0,0⟩)=o->Q0 K a b c d=o):=λo ho=>by
      unfold Q0;rw[mY (by rw[C,p];simp),mY (by simp[L]),C,au,g1,au,N,au,c',au,←ho,P]
     have R:ar (K.D j 2=t):=P;clear p n D0 D1 D2 N c' P z s L
     by_cases o':t=0
     .subst o';have L':w.cell? (O (B.bq 2) j Q)=J (Y U 0):=c7;clear c7
      go_wp2_with fail
      refine(CK k.out l.out I.mL (d:=j) Za true).mono ?_;rintro e w1 ⟨rfl,rfl⟩
      by_cases S:K.ends j true=0
      .have E:ar (Q0 K a b c d=⟨K,0,12⟩):=D.out _ (by rw[mZ ⟨by rw[R.out];rfl,by rw[HI.out,S];rfl⟩]);rw[S];clear D S
       go_wp2
       go_ret2
       exact oe.mk E k.out l.out (ej.refl _)
      .have E:ar (Q0 K a b c d=⟨K,0,11⟩):=D.out _ (by rw[mY (by rw[HI.out];omega),mZ (by rw[R.out];rfl)]);have ez:(((K.ends j true:Nat):Int)==0)=false:=by simp;omega
       clear D S;generalize K.ends j true=en at *
       go_wp2
       go_ret2
       exact oe.mk E k.out l.out (ej.refl _)
     .have E:ar (Q0 K a b c d=⟨((K.ni g (2+d) (K.F h (2+q))).np j 1 (((q:Int)+1)%4)).np j 2 ((t:Int) - 1),0,0⟩):=D.out _ (by rw[mY (by rw[R.out];omega),mY (by rw[R.out];omega)]);have e4:((t:Int)==0)=false:=by simp;omega
      obtain⟨y,hy⟩:∃y,r.W h q=y:=⟨_,Z⟩;have HY:ar (K.F h (2+q)=y):=by unfold ar;rw[←hy,l.out.w h q m' f' (ba n')]
      have ch:=k.out.wd h q l' f';rw[hy]at ch;have S':=k.out.wd g d e' G;have zw:=k.out.zw;have U':=λo=>k.out.zq 1 o Za (show 0<r.nD by omega);have V':=λo=>k.out.zq 2 o Za (show 0<r.nD by omega);have a1:IntKind.i64.wrap ((q:Int)+1)=(q:Int)+1:=gP _ Za;have a2:((q:Int)+1).tmod 4=((q:Int)+1)%4:=aZ Za;have n1:=k.out.bw;have n2:=k.out.wq 1 Za;have n3:=k.out.wq 2 Za;have n4:=k.out.bq 2 Za;have n9:=k.out.bq 1 Za;have p':=k.out.qq 1 2 Za Za Za;have n5:=aA n1;have n6:=aA n2;have n7:=aA n3;have n8:=aA n4;have n11:=aA n9;have n12:=aA p';clear D hy
      go_wp2_with fail
      go_region_held3 (λT=>T.cell? (O B.b 0 Q)=J (Sc (J (O B.bw 0 Q)) r.nF B.cw)/\T.cell? (O B.b 3 Q)=J (Sc (J (O (B.bq 1) 0 Q)) r.nD (B.cq 1))/\T.cell? (O (B.bq 1) j Q)=J (Y U q)/\T.cell? (O B.bw (h*4+q) Q)=J (Y U y)) ((repeat' apply db)<;>(first|(go_keep;done)|(refine zH ?_;go_keep)|(refine keep_same_drew ?_;go_keep))) (fail)
      go_wp2_with fail
      go_region
      all_goals go_wp2
      all_goals
       go_ret2
       refine oe.mk E ((((k.out.nX (i:=g) (c:=d) (o:=g*4+d) e' G Z y).oF (d:=j) (q:=1) F Za (((q:Int)+1)%4)).oF (d:=j) (q:=2) F Za ((t:Int) - 1)).drew.drew) ?_ (((((ej.refl _).nX _ _).oF (q:=1) Za _ _).oF (q:=2) Za _ _).drew.drew);rw[HY.out];exact((l.out.rf g d y G).oF j 1 _ Za).oF j 2 _ Za
theorem TN{K:aa}{r:Rk}(c:Rel K r)(p:a<K.nS):Rel ((K.an b 0 (-1)).nH a) (r.row a (J6 0 (-1) (-1) 0)):=by
 have f:Rel (K.an b 0 (-1)) r:=c.rI b 0 (-1) Za;generalize K.an b 0 (-1)=g at *;refine⟨f.f,f.s,f.d,λi d m n=>?_,f.w,f.q⟩;show(if i=a then J6 0 (-1) (-1) 0 d else r.P i d)=_;have e:∀i j,(g.nH a).S i j=if i=a then(if j=0\/j=19 then 0 else -1) else g.S i j:=λ_ _=>rfl
 have k:∀i j,(g.nH a).B i j=if i=a then false else g.B i j:=λ_ _=>rfl
 by_cases h:i=a
 .subst h;rw[mZ Z];unfold qF aa.dy aa.wr aa.file aa.end;rw[e,e,e,e,k,k,mZ Z,mZ Z,mZ Z,mZ Z,mZ Z,mZ Z];obtain rfl|rfl|rfl|rfl|⟨q,l⟩|l:d=0\/d=1\/d=2\/d=3\/(4<=d/\d<8)\/8<=d:=by omega
  .simp[J6]
  .simp[J6]
  .simp[J6]
  .simp[J6]
  .rw[mY Za,mY Za,mZ l,mY Za,G6];unfold J6;rw[mY Za,mY Za,mY Za,mY Za]
  .rw[mY Za,mY Za,mY Za,mY Za,G6];unfold J6;rw[mY Za,mY Za,mY Za,mY Za]
 .rw[mY h];have o:i<g.nS:=m;rw[f.p i d o n];unfold qF aa.dy aa.wr aa.file aa.end;rw[e,e,e,e,k,k,mY h,mY h,mY h,mY h,mY h,mY h]
theorem Zn{P:Pg}{t:Ti}{d:Nat}{xs ys:Array Vu}(g:P.underlying t=J (.array a p))(k:∀w,(sizeOf p).run P w=.ok b w)(q:Nat->Bool)(h:∀i,i<a->∃c e,Pt P p xs (i*b) c/\Pt P p ys (i*b) e/\∀w,(dm d p c e).run P w=.ok (q i) w)(w:Wd):(dm (d+1) t (.agg xs) (.agg ys)).run P w=.ok ((gR 0 a 1).all q) w:=by
 rw[dm];simp only[bH,gQ g,aN,k,iG,ky,kY,Nat.add_sub_cancel,Nat.div_one];have f:∀i∈gR 0 a 1,i<a:=λi m=>by simpa using(List.mem_range'_1.1 m).2
 generalize gR 0 a 1=l at f ⊢
 induction l with
 | nil=>simp
 | cons i l n =>
  let⟨c,e,o,s,u⟩:=h i (f i Zc);simp only[List.forIn_cons,bH,o w,s w,u w,aN,List.all_cons];cases q i
  .simp
  .simp only[Bool.not_true,aI,if_false,eh,aN,Bool.true_and];exact n λj v=>f j (by simp[v])
theorem JL(a b c d:Int)(w:Wd):(dm 10000 69 (.agg #[Y U a,Y U b,Y U c,Y U d]) (.agg #[Y U 0,Y U 0,Y U 0,Y U 0])).run V w=.ok (a==0&&(b==0&&(c==0&&d==0))) w:=by
 have h:=Zn (P:=V) (t:=69) (d:=9999) (xs:=#[Y U a,Y U b,Y U c,Y U d]) (ys:=#[Y U 0,Y U 0,Y U 0,Y U 0]) Tryz.underlying69 Tryz.sizeOf3 (λi=>if i=0 then a==0 else if i=1 then b==0 else if i=2 then c==0 else d==0) (λi f=>by
  cases i,(Za:i<4) using eL
  .exact⟨_,_,sG dZ Z,sG dZ Z,λw=>iu w _ _ .i64 .i64 _ _ gI⟩
  .exact⟨_,_,sG dZ Z,sG dZ Z,λw=>iu w _ _ .i64 .i64 _ _ gI⟩
  .exact⟨_,_,sG dZ Z,sG dZ Z,λw=>iu w _ _ .i64 .i64 _ _ gI⟩
  .exact⟨_,_,sG dZ Z,sG dZ Z,λw=>iu w _ _ .i64 .i64 _ _ gI⟩) w
 refine h.trans ?_;have e:(gR 0 4 1).all (λi=>if i=0 then a==0 else if i=1 then b==0 else if i=2 then c==0 else d==0)=(a==0&&(b==0&&(c==0&&d==0))):=by
  show((a==0)&&((b==0)&&((c==0)&&((d==0)&&true))))=_;rw[Bool.and_true]
 rw[e]
theorem Tf(M:ml w B r)(c:Rel K r)(I:Inv K)(y:Int)(l:b<K.nS)(q:K.still a b=true) :
  aF V 42 #[Po (J (O B.b 0 Q)),Y U 12,Y U b,Y U y] w (oe B w (J9 K a b)):=by
 have m:ar (ml w B r):=M;have s:ar (Rel K r):=c;have k1:=M.k1;have f:b<r.nS:=by have:=c.s;omega
 have i1:(0:Int)<=(b:Int):=by omega
 have i2:(b:Int)<(r.nS:Int):=by omega
 have P:w.cell? (O B.bp (b*12+4) Q)=J (Y U (r.P b 4)):=M.pr b 4 f Za;have R:w.cell? (O B.bp (b*12+4+1) Q)=J (Y U (r.P b 5)):=M.pr b 5 f Za;have S:w.cell? (O B.bp (b*12+4+2) Q)=J (Y U (r.P b 6)):=M.pr b 6 f Za;have T:w.cell? (O B.bp (b*12+4+3) Q)=J (Y U (r.P b 7)):=M.pr b 7 f Za;have W:w.cell? (O B.bp (b*12+8) Q)=J (Y U (r.P b 8)):=M.pr b 8 f Za;have G:w.cell? (O B.bp (b*12+8+1) Q)=J (Y U (r.P b 9)):=M.pr b 9 f Za;have X:w.cell? (O B.bp (b*12+8+2) Q)=J (Y U (r.P b 10)):=M.pr b 10 f Za;have a':w.cell? (O B.bp (b*12+8+3) Q)=J (Y U (r.P b 11)):=M.pr b 11 f Za;have g3:=M.pr b 3 f Za;rw[c.code l]at g3;have hD:K.nD<=4:=by have:=M.hD;have:=c.d;omega
 have hF:K.nF<=32:=by have:=M.hF;have:=c.f;omega
 have i:∀p,p<4->(r.P b (4+p)=0↔K.dy b p=-1):=λp g=>by
  rcases T8 I.mL c l g hF with⟨j,_,D⟩|⟨n,j,_,D⟩
  .exact⟨λ_=>j,λ_=>D⟩
  .constructor
   .intro h;omega
   .intro h;omega
 have k:∀x,x<4->(r.P b (8+x)=0↔K.file b x=-1):=λx hx=>by
  rcases L9 I.mL c l hx hD with⟨j,h2⟩|⟨n,j,_,_,_,h5,_⟩
  .exact⟨λ_=>j,λ_=>h2⟩
  .constructor
   .intro h;omega
   .intro h;omega
 have F:ar ((r.P b 4=0/\r.P b 5=0/\r.P b 6=0/\r.P b 7=0)↔(K.dy b 0=-1/\K.dy b 1=-1/\K.dy b 2=-1/\K.dy b 3=-1)):=by
  have t:=i 0 Za;have u:=i 1 Za;have v:=i 2 Za;have z:=i 3 Za;unfold ar;exact and_congr t (and_congr u (and_congr v z))
 have H:ar ((r.P b 8=0/\r.P b 9=0/\r.P b 10=0/\r.P b 11=0)↔(K.file b 0=-1/\K.file b 1=-1/\K.file b 2=-1/\K.file b 3=-1)):=by
  have t:=k 0 Za;have u:=k 1 Za;have v:=k 2 Za;have z:=k 3 Za;unfold ar;exact and_congr t (and_congr u (and_congr v z))
 clear M c i k;have A:=JL (r.P b 4) (r.P b 5) (r.P b 6) (r.P b 7);have o:=JL (r.P b 8) (r.P b 9) (r.P b 10) (r.P b 11)
 go_enter lO,kO
 by_cases d:r.P b 4=0/\r.P b 5=0/\r.P b 6=0/\r.P b 7=0
 .have g:=F.out.1 d;rw[d.1,d.2.1,d.2.2.1,d.2.2.2]at A;rw[d.1]at P;rw[d.2.1]at R;rw[d.2.2.1]at S;rw[d.2.2.2]at T;simp only[beq_self_eq_true,Bool.and_self]at A
  by_cases e:r.P b 8=0/\r.P b 9=0/\r.P b 10=0/\r.P b 11=0
  .have C:=H.out.1 e;rw[e.1,e.2.1,e.2.2.1,e.2.2.2]at o;rw[e.1]at W;rw[e.2.1]at G;rw[e.2.2.1]at X;rw[e.2.2.2]at a';have E:ar (J9 K a b=⟨(K.an (K.S b 2).toNat 0 (-1)).nH b,K.S b 19,0⟩):=by
    unfold J9 ar;rw[mY (by simp[q]),mY Za,mY Za]
   have TH:ar (w.there B.bp (b*12) 12):=m.out.tK f;clear d e g C o
   go_wp2_with (refine dV Z 107 _ _ Z _ (b*12) (H9 0 (-1) (-1) 0).toArray Z Z TH.out Zd Zd ?_)
   go_ret2
   exact oe.mk E (m.out.row f (H9 0 (-1) (-1) 0) (J6 0 (-1) (-1) 0) Z (Lp 0 (-1) (-1) 0)) (TN s.out l) ((ej.refl _).row _ _)
  .have C:¬(K.file b 0=-1/\K.file b 1=-1/\K.file b 2=-1/\K.file b 3=-1):=λh=>e (H.out.2 h);have E:ar (J9 K a b=⟨K,0,8⟩):=by
    unfold J9 ar;rw[mY (by simp[q]),mY Za,mZ Za]
   have L:(r.P b 8==0&&(r.P b 9==0&&(r.P b 10==0&&r.P b 11==0)))=false:=by
    rw[gq];intro h;simp at h;exact e h
   simp only[L]at o;clear d e g C L;generalize r.P b 8=v8 at *;generalize r.P b 9=v9 at *;generalize r.P b 10=b' at *;generalize r.P b 11=c' at *
   go_wp2
   go_ret2
   exact oe.mk E m.out s.out (ej.refl _)
 .have g:¬(K.dy b 0=-1/\K.dy b 1=-1/\K.dy b 2=-1/\K.dy b 3=-1):=λh=>d (F.out.2 h);have E:ar (J9 K a b=⟨K,0,6⟩):=by
   unfold J9 ar;rw[mY (by simp[q]),mZ Za]
  have N:(r.P b 4==0&&(r.P b 5==0&&(r.P b 6==0&&r.P b 7==0)))=false:=by
   rw[gq];intro h;simp at h;exact d h
  simp only[N]at A;clear d g N o;generalize r.P b 4=v4 at *;generalize r.P b 5=v5 at *;generalize r.P b 6=v6 at *;generalize r.P b 7=v7 at *
  go_wp2
  go_ret2
  exact oe.mk E m.out s.out (ej.refl _)
theorem Wt(n i:Nat)(a:n<20)(b:i<3):∃h:i<(yq n).size,((((yq n)[i]'h).toNat:Nat):Int)=rW ((i7 n).getD i 0):=by
 cases i,(Za:i<3) using iN
 all_goals
  cases n,(Za:n<20) using ox
  all_goals exact⟨by decide,Z⟩
theorem VR{P:Pg}{t:Ti}(d:P.underlying t=J .string){b:ByteArray}(c:∃c:a<b.size,(((b[a]'c).toNat:Nat):Int)=h)(w:Wd):(fW t (.string b) (Y U (a:Int))).run P w=.ok (.int .u8 h) w:=by
 obtain⟨g,f⟩:=c;rw[run_index_string w t b .i64 _ d,dif_pos ⟨by omega,by omega⟩,←f];have e:((a:Int)).toNat=a:=by omega
 simp only[e]
theorem c4K(n i:Nat)(a:n<20)(b:i<3):(i7 n).getD i 0=0\/(i7 n).getD i 0=1\/(i7 n).getD i 0=2\/(i7 n).getD i 0=3\/(i7 n).getD i 0=4\/(i7 n).getD i 0=5\/(i7 n).getD i 0=6:=by
 cases i,(Za:i<3) using iN
 all_goals
  cases n,(Za:n<20) using ox
  all_goals decide
theorem S0{K:aa}(a:h≠0):C8 K h i=oE i (j4 K h):=by unfold C8 oE;simp[a]
theorem ml.drewN{w:Wd}{B:RB}{r:Rk}(M:ml w B r)(n:Nat):ml (w.drewN n) B r:=M.same Zc λk _ _=>by simp
theorem DF:oE h i=true↔0<=h/\h<i:=by unfold oE;simp
theorem Km(M:ml w B r)(l:Rel K r)(g:Own K)(I:Inv K)(N:iP K)(E':nE K)(W R a b c:Int)(hl:-9223372036854775808<=R/\R<9223372036854775808) :
  aF V 17 #[Po (J (O B.b 0 Q)),Y U W,Y U R,.agg #[Y U a,Y U b,Y U c]] w (oe B w (i5 K W R a b c)):=by
 have X:ar (ml w B r):=M;have u:ar (Rel K r):=l;have k1:=λo=>(X.out.alloc o).k1;have D:ar (r.nS=K.nS):=l.s;clear M l
 by_cases hc:1<=R/\R<=19
 .obtain⟨n,rfl⟩:∃n:Nat,R=n:=⟨R.toNat,by omega⟩;have hn:n<20:=by omega
  have C':n≠0:=by omega
  have h':oE ((n:Int) - 1) 19=true:=DF.2 ⟨by omega,by omega⟩;clear hl
  by_cases hs:0<=W/\W<K.nS
  .obtain⟨s,rfl⟩:∃s:Nat,W=s:=⟨W.toNat,by omega⟩;have F':s<r.nS:=by have:=D.out;omega
   have l':oE (s:Int) (r.nS:Int)=true:=DF.2 ⟨by omega,by omega⟩;have l1:(0:Int)<=(s:Int):=by omega
   have l2:(s:Int)<(r.nS:Int):=by omega
   have c0:∀o,(w.alloc o).cell? (O B.bp (s*12) Q)=J (Y U (K.S s 0)):=λo=>by
    have:=(X.out.alloc o).pr s 0 F' Za;rw[u.out.kind Za]at this;exact this
   by_cases hk:K.S s 0=2
   .rw[hk]at c0
    go_enter gh,gK
    go_wp2_with fail
    refine(Z0).mono ?_;rintro e w1 ⟨rfl,rfl⟩;rw[h']
    go_wp2_with fail
    refine(Z0).mono ?_;rintro e w1 ⟨rfl,rfl⟩;rw[l']
    go_wp2_with fail
    refine(Xb n hn C').mono ?_;rintro e w1 ⟨rfl,rfl⟩;have TL:ar (∀i,i<3->∃h:i<(yq n).size,((((yq n)[i]'h).toNat:Nat):Int)=rW ((i7 n).getD i 0)):=λi L=>Wt n i hn L;generalize yq n=ts at *
    go_wp2
    obtain⟨W0,eW⟩:∃W0,W0=w.alloc (.cells #[Y U a,Y U b,Y U c] 25):=⟨_,Z⟩;have y0:W0.cell? (O w.heap.size 0 Q)=J (Y U a):=by rw[eW];simp
    have y1:W0.cell? (O w.heap.size 1 Q)=J (Y U b):=by rw[eW];simp
    have y2:W0.cell? (O w.heap.size 2 Q)=J (Y U c):=by rw[eW];simp
    have q':ar (ml W0 B r):=by rw[eW];exact X.out.alloc _
    have r':ar (ej B w W0):=by rw[eW];exact(ej.refl w).alloc _
    rw[←eW];obtain⟨z,n'⟩:∃z:Nat->Int,z=λi=>if i=0 then a else if i=1 then b else c:=⟨_,Z⟩
    have HA:ar (∀i,i<3->W0.cell? (O w.heap.size i Q)=J (Y U (z i))):=λi L=>by
     rw[n'];cases i,(Za:i<3) using iN
     .exact y0
     .exact y1
     .exact y2
    have i':ar (z 0=a/\z 1=b/\z 2=c):=by unfold ar;rw[n'];exact⟨Z,Z,Z⟩
    clear eW n' y0 y1 y2 c0 k1
    go_loopw [11] (λi T=>∃k:Nat,k<=3/\i=Y U k/\ml T B r/\ej B w T/\(∀i,i<3->T.cell? (O w.heap.size i Q)=J (Y U (z i)))/\∀i,i<k->C8 K ((i7 n).getD i 0) (z i)=true) λi _=>3 - (bT i).toNat
    case atStart=>exact⟨0,by omega,Z,q'.out,r'.out,HA.out,λi L=>by omega⟩
    case round =>
     clear q' r' HA X;obtain⟨k,hk3,rfl,m1,p1,a1,f1⟩:=hrel;have v:ar (ml wr B r):=m1;have S:ar (ej B w wr):=p1;have f':ar (∀i,i<3->wr.cell? (O w.heap.size i Q)=J (Y U (z i))):=a1;have j':ar (∀i,i<k->C8 K ((i7 n).getD i 0) (z i)=true):=f1;clear m1 p1 a1 f1
     by_cases o':k<3
     .have c1:=f'.out k o';have ix:=VR (P:=V) (t:=9) Tryz.underlying9 (TL.out k o');have i1:(0:Int)<=(k:Int):=by omega
      have i2:(k:Int)<3:=by omega
      have s':=c4K n k hn o';have t':ar (∀i,i<k+1->C8 K ((i7 n).getD k 0) (z k)=true->C8 K ((i7 n).getD i 0) (z i)=true):=λi L P=>by
       by_cases e:i=k
       .rw[e];exact P
       .exact j'.out i Za
      have u':ar (C8 K ((i7 n).getD k 0) (z k)=false->i5 K s n a b c=⟨K,0,4⟩):=λP=>by
       unfold i5;rw[mY Za,mY (by rw[au];omega),mZ];rw[au];let⟨e0,e1,e2⟩:=i'.out;cases k,(Za:k<3) using iN
       .rw[e0]at P;exact bP P
       .rw[e1]at P;exact ba (bP P)
       .rw[e2]at P;exact ba (ba P)
      generalize (i7 n).getD k 0=C at *
      by_cases p':C=0
      .subst p';rw[show rW 0=45 from Z]at ix;clear s' u'
       go_wp2_with fail
       go_quiet (fail)
       go_wp2
       exact⟨⟨k+1,by omega,by go_num,v.out.drewN _,S.out.trans ⟨Z,Z,Z,by simp,λk _ _ _ _=>by simp⟩,λi L=>f'.out i L,λi L=>t'.out i L (by simp[C8])⟩,by simp[bT];omega⟩
      .have v':C8 K C (z k)=oE (z k) (j4 K C):=S0 p'
       have MR:ar (∀m,aF V 38 #[Po (J (O B.b 0 Q)),.int .u8 (rW C)] (wr.drewN m) λe T=>e=.returned (Y U (j4 K C))/\T=wr.drewN m):=λm=>NO (v.out.drewN m) u.out C Za;have nl:(rW C != 45)=true:=by
        obtain rfl|rfl|rfl|rfl|rfl|rfl:C=1\/C=2\/C=3\/C=4\/C=5\/C=6:=by omega
        all_goals decide
       have IN:ar (∀T,aF V 32 #[Y U (z k),Y U (j4 K C)] T λe N'=>e=.returned (Bo (C8 K C (z k)))/\N'=T):=λT=>by
        rw[v'];exact Z0 (n:=z k) (m:=j4 K C) (w:=T)
       obtain⟨fb,ef⟩:∃fb,C8 K C (z k)=fb:=⟨_,Z⟩
       have x':ar (C8 K C (z k)=fb):=ef;rw[ef]at IN;clear s' v' p' ef;generalize rW C=lt at *;generalize j4 K C=hm at *;generalize z k=ak at *
       cases fb
       all_goals
        go_wp2_with fail
        go_quiet (first|(go_at_call 38;exact fa (MR.out _))|(go_at_call 32;exact fa (IN.out _)))
        go_wp2
       .go_ret2
        exact oe.mk (u'.out x'.out) (v.out.drewN _) u.out (S.out.trans ⟨Z,Z,Z,by simp,λk _ _ _ _=>by simp⟩)
       .exact⟨⟨k+1,by omega,by go_num,v.out.drewN _,S.out.trans ⟨Z,Z,Z,by simp,λk _ _ _ _=>by simp⟩,λi L=>f'.out i L,λi L=>t'.out i L x'.out⟩,by simp[bT];omega⟩
     .obtain rfl:k=3:=by omega
      have F0:=j'.out 0 Za;have F1:=j'.out 1 Za;have F2:=j'.out 2 Za;have C0:=f'.out 0 Za;have C1:=f'.out 1 Za;have C2:=f'.out 2 Za;rw[i'.out.1]at F0 C0;rw[i'.out.2.1]at F1 C1;rw[i'.out.2.2]at F2 C2;have A:ar (i5 K s n a b c=tr K s n a b c):=by
       unfold i5 ar;rw[mY Za,mY (by rw[au];omega),mY]
       .rw[au,au]
       .rw[au,F0,F1,F2];simp
      have y:ar (C8 K ((i7 n).getD 0 0) a=true/\C8 K ((i7 n).getD 1 0) b=true/\C8 K ((i7 n).getD 2 0) c=true):=⟨F0,F1,F2⟩;have m1:=zG K;have m2:=yi K;have m3:=yN K;have m4:=yz K;have m5:=yl K;have m6:=yH K;clear F0 F1 F2 j' f' i' TL;obtain h1|h1|h1:(n=6\/n=7\/n=8)\/(n=10\/n=11\/n=12)\/n=1\/n=2\/n=3\/n=4\/n=5\/n=9\/n=13\/n=14\/n=15\/n=16\/n=17\/n=18\/n=19:=by omega
      .rcases h1 with rfl|rfl|rfl
       all_goals
        obtain⟨q,rfl,hq⟩:=d8 (t:=2) y.out.1 Zb;have k':q<r.nS:=by have:=D.out;omega
        have q1:(0:Int)<=(q:Int):=by omega
        have q2:(q:Int)<(r.nS:Int):=by omega
        have z0:wr.cell? (O B.bp (q*12) Q)=J (Y U (r.P q 0)):=v.out.pr q 0 k' Za;have z1:=v.out.pr q 1 k' Za;rw[u.out.kind Za]at z0;rw[u.out.parent Za]at z1;have k1:=v.out.k1;cases F:K.oa s q
        .have E:ar (_=Out.mk K 0 7):=A.out.trans (mZ F)
         by_cases G:K.S q 1=s
         .have m':¬K.S q 0=1:=λh=>by unfold aa.oa at F;simp[G,h]at F
          have U':(K.S q 0 != 1)=true:=by simpa using m'
          rw[G]at z1;clear m' F;generalize K.S q 0=kq at *
          go_wp2
          go_ret2
          exact oe.mk E v.out u.out S.out
         .have W':(K.S q 1 != (s:Int))=true:=by simpa using G
          clear G F;generalize K.S q 1=pq at *
          go_wp2
          go_ret2
          exact oe.mk E v.out u.out S.out
        have g':=Dw (K:=K) (s:=s) (c:=q) (by simp[F]);rw[g'.2]at z0;rw[g'.1]at z1
       focus
        obtain⟨p,rfl,hp⟩:=d8 (t:=4) y.out.2.1 Zb;obtain⟨f,rfl,P⟩:=d8 (t:=1) y.out.2.2 Zb;have E:ar (_=I9 K s q p f):=A
        go_wp2_with fail
        refine(Qm v.out u.out g N I.mL (by have:=D.out;omega) Za Za Za F).mono ?_;generalize I9 K s q p f=H at *
       rotate_left
       focus
        obtain⟨x,rfl,hx⟩:=d8 (t:=5) y.out.2.1 Zb;obtain⟨t,rfl,ht⟩:=d8 (t:=5) y.out.2.2 Zb;have E:ar (_=P9 K s q x t):=A
        go_wp2_with fail
        refine(b4U v.out u.out I.mL (by have:=D.out;omega) Za Za Za F).mono ?_;generalize P9 K s q x t=H at *
       rotate_left
       focus
        have E:ar (_=Q8 K s q):=A
        go_wp2_with fail
        refine(b3f v.out u.out b c (by have:=D.out;omega) Za F).mono ?_;generalize Q8 K s q=H at *
       rotate_left
       all_goals
        rintro e w2 ⟨rfl,⟨r2,m2',u2⟩,p2⟩
        go_wp2
        go_ret2
        exact oe.mk E m2' u2 (S.out.trans p2)
      .rcases h1 with rfl|rfl|rfl
       all_goals
        obtain⟨q,rfl,hq⟩:=d8 (t:=2) y.out.1 Zb;have k':q<r.nS:=by have:=D.out;omega
        have q1:(0:Int)<=(q:Int):=by omega
        have q2:(q:Int)<(r.nS:Int):=by omega
        have z0:wr.cell? (O B.bp (q*12) Q)=J (Y U (r.P q 0)):=v.out.pr q 0 k' Za;have z1:=v.out.pr q 1 k' Za;rw[u.out.kind Za]at z0;rw[u.out.parent Za]at z1;have k1:=v.out.k1;cases F:K.still s q
        .have E:ar (_=Out.mk K 0 7):=A.out.trans (mZ F)
         by_cases G:K.S q 1=s
         .have m':¬(K.S q 0=1\/K.S q 0=3):=λh=>by unfold aa.still at F;rcases h with h|h<;>simp[G,h]at F
          have U':(K.S q 0 != 1)=true:=by simp;omega
          have ekj:(K.S q 0 != 3)=true:=by simp;omega
          rw[G]at z1;clear m' F;generalize K.S q 0=kq at *
          go_wp2
          go_ret2
          exact oe.mk E v.out u.out S.out
         .have W':(K.S q 1 != (s:Int))=true:=by simpa using G
          clear G F;generalize K.S q 1=pq at *
          go_wp2
          go_ret2
          exact oe.mk E v.out u.out S.out
        have g':=Np (K:=K) (s:=s) (c:=q) (by simp[F]);rw[g'.1]at z1
       focus
        obtain⟨p,rfl,hp⟩:=d8 (t:=4) y.out.2.1 Zb;have E:ar (_=X0 K s q p):=A;rcases g'.2 with d'|d'
        all_goals
         rw[d']at z0
         go_wp2_with fail
         refine(QY v.out u.out I.mL Za Za F).mono ?_;generalize X0 K s q p=H at *
       rotate_left 2
       focus
        obtain⟨x,rfl,hx⟩:=d8 (t:=5) y.out.2.1 Zb;have E:ar (_=X1 K s q x):=A;rcases g'.2 with d'|d'
        all_goals
         rw[d']at z0
         go_wp2_with fail
         refine(Yj v.out u.out I N E' Za Za F).mono ?_;generalize X1 K s q x=H at *
       rotate_left 2
       focus
        have E:ar (_=J9 K s q):=A;rcases g'.2 with d'|d'
        all_goals
         rw[d']at z0
         go_wp2_with fail
         refine(Tf v.out u.out I b Za F).mono ?_;generalize J9 K s q=H at *
       rotate_left 2
       all_goals
        rintro e w2 ⟨rfl,⟨r2,m2',u2⟩,p2⟩
        go_wp2
        go_ret2
        exact oe.mk E m2' u2 (S.out.trans p2)
      .rcases h1 with rfl|rfl|rfl|rfl|rfl|rfl|rfl|rfl|rfl|rfl|rfl|rfl|rfl
       .have E:ar (i5 K s (1:Nat) a b c=⟨K,0,0⟩):=A.out
        go_wp2
        go_ret2
        exact oe.mk E v.out u.out S.out
       focus
        obtain⟨p,rfl,hp⟩:=d8 (t:=4) y.out.1 Zb;obtain⟨f,rfl,P⟩:=d8 (t:=1) y.out.2.1 Zb;have E:ar (_=pH K s p f):=A
        go_wp2_with fail
        refine(Wx v.out u.out g N I.mL c (by have:=D.out;omega) Za Za).mono ?_;generalize pH K s p f=H at *
       rotate_left
       focus
        obtain⟨p,rfl,hp⟩:=d8 (t:=4) y.out.1 Zb;have E:ar (_=N4 K s p):=A
        go_wp2_with fail
        refine(Sf v.out u.out g N I.mL b c (by have:=D.out;omega) Za).mono ?_;generalize N4 K s p=H at *
       rotate_left
       focus
        obtain⟨p,rfl,hp⟩:=d8 (t:=4) y.out.1 Zb;have E:ar (_=B3 K s p b):=A
        go_wp2_with fail
        refine(QI v.out u.out g N I.mL b c (by have:=D.out;omega) Za).mono ?_;generalize B3 K s p b=H at *
       rotate_left
       focus
        obtain⟨q,rfl,hq⟩:=d8 (t:=2) y.out.1 Zb;obtain⟨f,rfl,P⟩:=d8 (t:=1) y.out.2.1 Zb;have E:ar (_=G0 K s q f):=A
        go_wp2_with fail
        refine(b7L v.out u.out g N I.mL (by have:=D.out;omega) Za Za).mono ?_;generalize G0 K s q f=H at *
       rotate_left
       focus
        have E:ar (_=Z3 K s a):=A
        go_wp2_with fail
        refine(c1g v.out u.out a b (by have:=D.out;omega)).mono ?_;generalize Z3 K s a=H at *
       rotate_left
       focus
        obtain⟨d,rfl,hd⟩:=d8 (t:=3) y.out.1 Zb;obtain⟨f,rfl,P⟩:=d8 (t:=1) y.out.2.1 Zb;obtain⟨x,rfl,hx⟩:=d8 (t:=5) y.out.2.2 Zb;have E:ar (_=B8 K s d f x):=A
        go_wp2_with fail
        refine(b7y v.out u.out g I N (by have:=D.out;omega) Za Za Za).mono ?_;generalize B8 K s d f x=H at *
       rotate_left
       focus
        obtain⟨x,rfl,hx⟩:=d8 (t:=5) y.out.1 Zb;obtain⟨t,rfl,ht⟩:=d8 (t:=5) y.out.2.1 Zb;have E:ar (_=pZ K s x t):=A
        go_wp2_with fail
        refine(c0C v.out u.out I c (by have:=D.out;omega) Za Za).mono ?_;generalize pZ K s x t=H at *
       rotate_left
       focus
        obtain⟨x,rfl,hx⟩:=d8 (t:=5) y.out.1 Zb;have E:ar (_=N3 K s x):=A
        go_wp2_with fail
        refine(b5a v.out u.out I N E' b c (by have:=D.out;omega) Za).mono ?_;generalize N3 K s x=H at *
       rotate_left
       focus
        obtain⟨x,rfl,hx⟩:=d8 (t:=5) y.out.1 Zb;obtain⟨p,rfl,hp⟩:=d8 (t:=4) y.out.2.1 Zb;obtain⟨j,rfl,hj⟩:=d8 (t:=6) y.out.2.2 Zb;have E:ar (_=H8 K s x p j):=A
        go_wp2_with fail
        refine(RG v.out u.out g I (by have:=D.out;omega) Za Za Za).mono ?_;generalize H8 K s x p j=H at *
       rotate_left
       focus
        obtain⟨x,rfl,hx⟩:=d8 (t:=5) y.out.1 Zb;obtain⟨p,rfl,hp⟩:=d8 (t:=4) y.out.2.1 Zb;obtain⟨j,rfl,hj⟩:=d8 (t:=6) y.out.2.2 Zb;have E:ar (_=Q0 K s x p j):=A
        go_wp2_with fail
        refine(SL v.out u.out g I (by have:=D.out;omega) Za Za Za).mono ?_;generalize Q0 K s x p j=H at *
       rotate_left
       focus
        obtain⟨p,rfl,hp⟩:=d8 (t:=4) y.out.1 Zb;obtain⟨j,rfl,hj⟩:=d8 (t:=6) y.out.2.1 Zb;have E:ar (_=Z4 K s p j):=A
        go_wp2_with fail
        refine(Wj v.out u.out g N I.mL c (by have:=D.out;omega) Za Za).mono ?_;generalize Z4 K s p j=H at *
       rotate_left
       focus
        obtain⟨p,rfl,hp⟩:=d8 (t:=4) y.out.1 Zb;obtain⟨j,rfl,hj⟩:=d8 (t:=6) y.out.2.1 Zb;have E:ar (_=J2 K s p j c):=A
        go_wp2_with fail
        refine(Wz v.out u.out g N I.mL c (by have:=D.out;omega) Za Za).mono ?_;generalize J2 K s p j c=H at *
       rotate_left
       all_goals
        rintro e w2 ⟨rfl,⟨r2,m2',u2⟩,p2⟩
        go_wp2
        go_ret2
        exact oe.mk E m2' u2 (S.out.trans p2)
   .have E:ar (i5 K s n a b c=⟨K,0,3⟩):=by
     unfold i5 ar;rw[mY Za,mZ (ba (by rw[au];exact hk))]
    have ek:(K.S s 0 != 2)=true:=by simpa using hk
    clear hk;generalize K.S s 0=kk at *
    go_enter gh,gK
    go_wp2_with fail
    refine(Z0).mono ?_;rintro e w1 ⟨rfl,rfl⟩;rw[h']
    go_wp2_with fail
    refine(Z0).mono ?_;rintro e w1 ⟨rfl,rfl⟩;rw[l']
    go_wp2
    go_ret2
    exact oe.mk E (X.out.alloc _) u.out ((ej.refl w).alloc _)
  .have E:ar (i5 K W n a b c=⟨K,0,3⟩):=by
    unfold i5 ar;rw[mY Za,mZ (bP hs)]
   have l':oE W (r.nS:Int)=false:=by
    rw[gq];intro h;have:=DF.1 h;have:=D.out;omega
   go_enter gh,gK
   go_wp2_with fail
   refine(Z0).mono ?_;rintro e w1 ⟨rfl,rfl⟩;rw[h']
   go_wp2_with fail
   refine(Z0).mono ?_;rintro e w1 ⟨rfl,rfl⟩;rw[l']
   go_wp2
   go_ret2
   exact oe.mk E (X.out.alloc _) u.out ((ej.refl w).alloc _)
 .have E:ar (i5 K W R a b c=⟨K,0,2⟩):=by
   unfold i5 ar;rw[mZ Za]
  by_cases hmin:R=-9223372036854775808
  .subst hmin
   go_enter gh,gK
   go_wp2_with fail
   refine(Z0).mono ?_;rintro e w1 ⟨rfl,rfl⟩;rw[show oE (iD (-9223372036854775809)) 19=false from by rw[show iD (-9223372036854775809)=9223372036854775807 from by unfold iD;omega];decide]
   go_wp2
   go_ret2
   exact oe.mk E (X.out.alloc _) u.out ((ej.refl w).alloc _)
  .have h':oE (R - 1) 19=false:=by
    rw[gq];intro h;have:=DF.1 h;omega
   go_enter gh,gK
   go_wp2_with fail
   refine(Z0).mono ?_;rintro e w1 ⟨rfl,rfl⟩;rw[h']
   go_wp2
   go_ret2
   exact oe.mk E (X.out.alloc _) u.out ((ej.refl w).alloc _)
theorem I0:(V.info? 3).map (λi=>(i.zero,i.size,i.bytes))=J (J (Y U 0),1,8):=by kernel_rfl
theorem c5l(j:Nat)(u:Vu)(a:[k][j]?=J u):(f.alloc (.cells #[k] 3)).cell? (((O f.heap.size 0 Q):cx).add j)=J u:=by
 have b:=cC f (.cells #[k] 3);rw[eG,aE,jC _ _ j _ _ _ b];simpa using a
theorem c8j:∀u∈[dL .i64 h],u.oneCell'=true:=by simp[jV]
theorem c4s{X:Nat->List Vu}(h:∀c,2<=c->c<=4->m c=a/\X c=vM a c):∀c,2<=c->c<=4->up (up (up m 2 (m 2+1)) 3 (m 3+1)) 4 (m 4+1) c=a+1/\up (up (up X 2 (X 2++[Y U (-1)])) 3 (X 3++[Y U 0])) 4 (X 4++[Y U 0]) c=vM (a+1) c:=λc b d=>by
 obtain rfl|rfl|rfl:c=2\/c=3\/c=4:=by omega
 all_goals
  rw[QK];simp[up,h]
theorem Ij{w:Wd}{X:Nat->List Vu}{c:Nat}(P:2<=c)(n:c<=4)(G:qD w f a b d s m X)(R:m c<=4)(p:Int){u:Array aL}{v:List aL}{o:aL}{l:jh}{Q:Exit->jh->Wd->Prop}(D:o.guard=G')(q x:aS)(E:o.op=.call { callee:=.builtin .append,args:=#[q,x],argTypes:=#[103,103] })(F:l.eval q=s c)(H:Nat)(I:f.heap.size=H)(L:l.eval x=Sc (J (O H 0 G')) 1 1)(h:∀g j k,qD w (k.setCell (O (w.heap.size+1+1) c G') (Sc (J (O g 0 G')) (m c+1) j)) a b d (up s c (Sc (J (O g 0 G')) (m c+1) j)) (up m c (m c+1)) (up X c (X c++[Y U p]))->k.rowIs (w.heap.size+1+1) 105 5 (λc=>if c=0 then Sc (J (O (w.heap.size+1) 0 G')) a a else s c)->iR V u Q v (l.put o.dst (Sc (J (O g 0 G')) (m c+1) j)) k) :
  iR V u Q (o::v) l (f.alloc (.cells #[Y U p] 3)):=by
 subst I;have e:=I0
 cases t:V.info? 3 with
 | none=>rw[t]at e;cases e
 | some i =>
  rw[t]at e;simp only[aD,bm,cR]at e;have y:=G.own c Za n;have z:Gv c=3:=mY Za;have A:Cj c=1:=mY Za;rw[z,A]at y;refine wpList_append_lies _ D q x 103 E (w.heap.size+3) 3 i _ 1 8 Tryz.underlying103 t e.1 e.2.1 e.2.2 (by rfl) Za (s c) (m c) (X c) F (y.alloc _) (O f.heap.size 0 G') 1 1 [Y U p] L Z (c5l) (c8j) Za (by simp[iT];omega) Za (by have:=G.size;simp;omega) (f.heap.size+1) Zc ?_;intro g j k N C nJ S;exact h g j k (G.grown Za n C (by rw[z,A];exact N) nJ) (G.tZ Za n C)
theorem c5R(f m l:Nat)(h1:2<=f)(h2:f<=32)(h3:1<=m)(h4:m<=6)(h5:l<=4)(w:Wd) :
  aF V 13 #[.agg #[Y U f,Y U m,Y U l]] w λe u=>∃B r,e=.returned (.tuple #[Po (J (O B.b 0 Q)),Y U 0])/\ml u B r/\Rel (K6 f m l) r/\bE w.heap.size w u/\w.heap.size<=B.b/\w.heap.size<=B.bw/\w.heap.size<=B.bp/\∀q,w.heap.size<=B.bq q:=by
 have e1:oE ((f:Int) - 2) 31=true:=EI.2 ⟨by omega,by omega⟩;have e2:oE ((m:Int) - 1) 6=true:=EI.2 ⟨by omega,by omega⟩;have e3:oE (l:Int) 5=true:=EI.2 ⟨by omega,by omega⟩;let⟨C,hC,c',d'⟩:=c1j f h2 (w.alloc (.cells #[Y U f,Y U m,Y U l] 23));have e':(w.alloc (.cells #[Y U f,Y U m,Y U l] 23)).heap.size=w.heap.size+1:=by simp
 rw[e']at d';have S:ar (C.size=f*4/\∀j,j<f*4->C[j]?=J (Y U 0)):=⟨hC,c'⟩;clear hC c' e'
 go_enter Tryz.func13,Tryz.ntmps13
 go_wp2_with fail
 refine(Z0).mono ?_;rintro e w1 ⟨rfl,rfl⟩;rw[e1]
 go_wp2_with fail
 refine(Z0).mono ?_;rintro e w1 ⟨rfl,rfl⟩;rw[e2]
 go_wp2_with fail
 refine(Z0).mono ?_;rintro e w1 ⟨rfl,rfl⟩;rw[e3];obtain⟨y,f',g',i',j'⟩:∃i,V.info? 107=J i/\i.zero=J (.agg (H9 0 0 0 0).toArray)/\i.size=12/\i.bytes=96:=by
  have n:=c4w
  cases z:V.info? 107 with
  | none=>rw[z]at n;cases n
  | some i =>
   rw[z]at n;simp only[aD,bm,cR]at n;exact⟨i,Z,n.1,n.2.1,n.2.2⟩
 have A:ar (V.info? 107=J y/\y.zero=J (.agg (H9 0 0 0 0).toArray)/\y.size=12/\y.bytes=96):=⟨f',g',i',j'⟩;clear f' g' i' j';obtain⟨H,k',l',m',n'⟩:∃i,V.info? 3=J i/\i.zero=J (Y U 0)/\i.size=1/\i.bytes=8:=by
  have n:=I0
  cases z:V.info? 3 with
  | none=>rw[z]at n;cases n
  | some i =>
   rw[z]at n;simp only[aD,bm,cR]at n;exact⟨i,Z,n.1,n.2.1,n.2.2⟩
 have p':ar (V.info? 3=J H/\H.zero=J (Y U 0)/\H.size=1/\H.bytes=8):=⟨k',l',m',n'⟩;clear k' l' m' n'
 go_wp2
 go_loopw [8] (λi u=>∃(k:Nat) (a:Nat->Vu) (N:Nat->Nat) (X:Nat->List Vu),k<=m/\i=Y U k/\qD w u f m l a N X/\N 1=k/\X 1=sC k/\∀c,2<=c->c<=4->N c=0/\X c=[]) λi _=>m - (bT i).toNat
 case atStart=>exact⟨0,_,_,_,by omega,Z,(uk.start w f m l C S.out.1 S.out.2).Xg,Z,Z,λ_ _ _=>⟨Z,Z⟩⟩
 case round =>
  obtain⟨k,a,N,X,hk,rfl,p,n1,v,D⟩:=hrel;have d:ar (qD w wr f m l a N X/\N 1=k/\X 1=sC k/\∀c,2<=c->c<=4->N c=0/\X c=[]):=⟨p,n1,v,D⟩;have HO:ar (wr.ownsRow (w.heap.size+3) 107 12 (a 1) k (sC k)):=by have:=p.own 1 Za Za;rw[n1,v]at this;exact this
  have c1:=p.Bz.1;have I:∀o,(wr.alloc o).cell? (O (w.heap.size+1+1) 1 Q)=J (a 1):=λo=>by have h:=(p.str.alloc o).cell (show 1<5 by omega);rwa [mY Za]at h
  have s0:wr.cell? (O (w.heap.size+1+1) 1 Q)=J (a 1):=p.cell Za Za;clear p n1 v D
  by_cases o':k<m
  .go_wp2_with (refine wpList_append_lies _ Z _ _ 102 Z (w.heap.size+3) 107 y _ 12 96 Tryz.underlying102 A.out.1 A.out.2.1 A.out.2.2.1 A.out.2.2.2 (by rfl) Za (a 1) k (sC k) Z (HO.out.alloc _) (O wr.heap.size 0 Q) 1 1 (H9 0 (-1) (-1) 0) Z Z (c1F wr) WQ Za (by simp[iT];omega) Za (by have:=d.out.1.size;simp;omega) (wr.heap.size+1) Zc ?_;intro g L t o2 x nJ D';have HN:ar (qD w (t.setCell (O (w.heap.size+1+1) 1 Q) (Sc (J (O g 0 Q)) (k+1) L)) f m l (up a 1 (Sc (J (O g 0 Q)) (k+1) L)) (up N 1 (k+1)) (up X 1 (sC (k+1)))):=d.out.1.grown (c:=1) Za Za x o2 nJ;have s2:t.cell? (O (w.heap.size+1+1) 1 Q)=J (a 1):=(d.out.1.tZ (c:=1) Za Za x).cell (show 1<5 by omega);have z2:t.frozen? (O (w.heap.size+1+1) 1 Q)=false:=(d.out.1.tZ (c:=1) Za Za x).frozen 1;clear o2 x nJ)
   exact⟨⟨k+1,_,_,_,by omega,by go_num,HN.out,Y7,Y7,λc h E=>by rw[C9 Za,C9 Za];exact d.out.2.2.2 c h E⟩,by simp[bT];omega⟩
  .obtain rfl:k=m:=by omega
   clear I s0 o'
   go_wp2
   go_loopw [9] (λi u=>∃(j:Nat) (a:Nat->Vu) (N:Nat->Nat) (X:Nat->List Vu),j<=l/\i=Y U j/\qD w u f k l a N X/\N 1=k/\X 1=sC k/\∀c,2<=c->c<=4->N c=j/\X c=vM j c) λi _=>l - (bT i).toNat
   case atStart=>exact⟨0,a,N,X,by omega,Z,d.out.1,d.out.2.1,d.out.2.2.1,λc h E=>d.out.2.2.2 c h E⟩
   case round =>
    clear d HO c1 d' e1 e2 e3 S A p';obtain⟨j,a,N,X,hj,rfl,p,n1,v,D⟩:=hrel;have d:ar (qD w wr f k l a N X/\N 1=k/\X 1=sC k/\∀c,2<=c->c<=4->N c=j/\X c=vM j c):=⟨p,n1,v,D⟩;have c1:=p.Bz.2;have I:∀o,(wr.alloc o).cell? (O (w.heap.size+1+1) 2 Q)=J (a 2):=λo=>by have h:=(p.str.alloc o).cell (show 2<5 by omega);rwa [mY Za]at h
    have s0:wr.cell? (O (w.heap.size+1+1) 2 Q)=J (a 2):=p.cell Za Za;clear p n1 v D
    by_cases o':j<l
    .have q':ar (N 2<=4):=by unfold ar;have:=(d.out.2.2.2 2 Za Za).1;omega
     have r':ar (N 3<=4):=by unfold ar;have:=(d.out.2.2.2 3 Za Za).1;omega
     have s':ar (N 4<=4):=by unfold ar;have:=(d.out.2.2.2 4 Za Za).1;omega
     have t':ar True:=trivial
     go_wp2_with (first|(clear t';refine Ij (c:=2) Za Za d.out.1 q'.out (-1) Z _ _ Z Z (wr.heap.size) Zc Z ?_;intro x u' t T P;have H2:ar _:=T;have s2:t.cell? (O (w.heap.size+1+1) 2 Q)=J (a 2):=P.cell (show 2<5 by omega);have z2:t.frozen? (O (w.heap.size+1+1) 2 Q)=false:=P.frozen 2;have t2:t.cell? (O (w.heap.size+1+1) 3 Q)=J (a 3):=P.cell (show 3<5 by omega);have v2:∀o,((t.setCell (O (w.heap.size+1+1) 2 Q) (Sc (J (O x 0 Q)) (N 2+1) u')).alloc o).cell? (O (w.heap.size+1+1) 3 Q)=J (a 3):=λo=>(T.str.alloc o).cell (show 3<5 by omega);clear T P I s0;have v':ar True:=trivial)|(clear v';refine Ij (c:=3) Za Za H2.out r'.out (0) Z _ _ Z Z (t.heap.size) Zc Z ?_;intro g3 x' F W R;have H3:ar _:=W;have s3:F.cell? (O (w.heap.size+1+1) 3 Q)=J (a 3):=R.cell (show 3<5 by omega);have z3:F.frozen? (O (w.heap.size+1+1) 3 Q)=false:=R.frozen 3;have t3:F.cell? (O (w.heap.size+1+1) 4 Q)=J (a 4):=R.cell (show 4<5 by omega);have v3:∀o,((F.setCell (O (w.heap.size+1+1) 3 Q) (Sc (J (O g3 0 Q)) (N 3+1) x')).alloc o).cell? (O (w.heap.size+1+1) 4 Q)=J (a 4):=λo=>(W.str.alloc o).cell (show 4<5 by omega);clear W R s2 z2 t2 v2;have z':ar True:=trivial)|(clear z';refine Ij (c:=4) Za Za H3.out s'.out (0) Z _ _ Z Z (F.heap.size) Zc Z ?_;intro g4 N' w4 G4 G;have H4:ar _:=G4;have s4:w4.cell? (O (w.heap.size+1+1) 4 Q)=J (a 4):=G.cell (show 4<5 by omega);have z4:w4.frozen? (O (w.heap.size+1+1) 4 Q)=false:=G.frozen 4;clear G4 G))
     exact⟨⟨j+1,_,_,_,by omega,by go_num,H4.out,by rw[C9 Za,C9 Za,C9 Za];exact d.out.2.1,by rw[C9 Za,C9 Za,C9 Za];exact d.out.2.2.1,λc h E=>c4s d.out.2.2.2 c h E⟩,by simp[bT];omega⟩
    .obtain rfl:j=l:=by omega
     let⟨B,r,L,eb,ev,M,es,p0,p2,b,y1,y2,y3⟩:=d.out.1.done h3 h2 h4 h5 d.out.2.1 d.out.2.2.1 d.out.2.2.2;have s:ar (B.b=w.heap.size+1+1/\ml wr B r/\r.nS=k/\Rel (K6 f k j) ((r.nt 0 0 2).nt 0 2 0)/\w.heap.size<=B.bw/\w.heap.size<=B.bp/\∀q,w.heap.size<=B.bq q):=⟨eb,M,es,b,y1,y2,y3⟩;have q1:wr.cell? (O (w.heap.size+1+1) 1 Q)=J (Sc (J (O B.bp 0 Q)) k L):=by rw[←ev];exact d.out.1.cell Za Za
     have q0:wr.cell? (O B.bp 0 Q)=J (Y U 0):=by have:=M.pr 0 0 Za Za;rw[p0]at this;exact this
     have q2:wr.cell? (O B.bp 2 Q)=J (Y U (-1)):=by have:=M.pr 0 2 Za Za;rw[p2]at this;exact this
     have f0:wr.frozen? (O B.bp 0 Q)=false:=M.zp 0;have f2:wr.frozen? (O B.bp 2 Q)=false:=M.zp 2;have n1:w.heap.size+1+1≠B.bp:=by rw[←eb];exact M.bp
     have n2:B.bp≠w.heap.size+1+1:=aA n1;have i1:(0:Int)<(k:Int):=by omega
     clear I s0 M b es eb ev y1 y2 y3 p0 p2
     go_wp2
     go_ret2
     exact⟨B,(r.nt 0 0 2).nt 0 2 0,by rw[s.out.1];rfl,(s.out.2.1.nt (i:=0) (c:=0) (by have:=s.out.2.2.1;omega) Za Z 2).nt (i:=0) (c:=2) (show 0<r.nS by have:=s.out.2.2.1;omega) Za Z 0,s.out.2.2.2.1,(d.out.1.oC.setCell (by show _<=B.bp;have:=s.out.2.2.2.2.2.1;omega) _).setCell (by show _<=B.bp;have:=s.out.2.2.2.2.2.1;omega) _,by have:=s.out.1;omega,s.out.2.2.2.2.1,s.out.2.2.2.2.2.1,s.out.2.2.2.2.2.2⟩
theorem ml.rings(M:ml w B r)(i:r.nD=0)(f:Nat->Nat)(b:∀q,q<3->B.b≠f q)(c:∀q,q<3->B.bw≠f q)(e:∀q,q<3->B.bp≠f q)(g:∀q a,q<3->a<3->q≠a->f q≠f a):ml w { B with bq:=f } r :=
 ⟨M.k0,M.k1,M.k2,λq _ h=>by omega,M.wd,M.pr,λd q j _=>by omega,M.zw,M.zp,λq o _ h=>by omega,M.lb,M.lw,M.lp,λq _ h=>by omega,M.bw,M.bp,b,M.wp,c,e,g,M.hF,M.hS,M.hD⟩
theorem Lq{c:Rk}(M:ml w B r)(d:ml f B c)(h:f.heap[B.b]?=w.heap[B.b]?):c.nD=r.nD:=by
 have e:=(Zf (w:=w) (w':=f) (a:=(O B.b 2 Q)) h);have a:=M.k2 0 Za;have b:=d.k2 0 Za
 grind
def RK(B:RB)(r:Rk)(w:Wd)(a:Out)(e:Ending)(c:Wd):Prop :=
 e=.returned (.tuple #[Y U a.n,Y U a.e])/\(∃b,ml c B b/\Rel a.K b/\b.nD=r.nD)/\Qq (B.is r) w c
theorem b8l(M:ml w B r)(d:Rel K r)(f:Own K)(I:Inv K)(N:iP K)(n:nE K)(l g a b c:Int)(o:-9223372036854775808<=g/\g<9223372036854775808) :
  aF V 17 #[Po (J (O B.b 0 Q)),Y U l,Y U g,.agg #[Y U a,Y U b,Y U c]] w (RK B r w (i5 K l g a b c)):=by
 by_cases u:0<r.nD
 .refine(Km M d f I N n l g a b c o).mono ?_;rintro e v ⟨rfl,⟨r',m1,u1⟩,h2⟩;exact⟨Z,⟨r',m1,u1,Lq M m1 (h2.block _ M.lb M.bw M.bp M.bq)⟩,⟨h2.os,h2.tape,h2.output,h2.size,λk m i=>h2.block k m (λe=>i (ba (bP e))) (λe=>i (ba (ba (bP e)))) λq p e=>i (ba (ba (ba ⟨u,q,p,e⟩)))⟩⟩
 .have s:r.nD=0:=by omega
  have j:=M.rings s (λq=>w.heap.size+q) (λq _=>by have:=M.lb;grind) (λq _=>by have:=M.lw;grind) (λq _=>by have:=M.lp;grind) (λq y _ _ h=>by grind);refine(Km j d f I N n l g a b c o).mono ?_;rintro e v ⟨rfl,⟨r',m1,u1⟩,h2⟩;have t:r'.nD=r.nD:=Lq j m1 (h2.block _ j.lb j.bw j.bp j.bq);have x:r'.nD=0:=t.trans s;refine⟨Z,⟨r',?_,u1,t⟩,⟨h2.os,h2.tape,h2.output,h2.size,λk m i=>h2.block k m (λe=>i (ba (bP e))) (λe=>i (ba (ba (bP e)))) λq p e=>?_⟩⟩
  .exact m1.rings x B.bq M.bq M.wq M.pq M.qq
  grind
end
section
open Go.Conc
variable{sft:Nat->Nat}{w w':Wd}{main:Bool}{B:RB}{r E:Rk}{K:aa}
structure pt (sft:Nat->Nat) (w:Wd) (B:RB) (r:Rk):Prop where
 mem:ml w B r
 row:∀k,B.is r k->(∃c t f,w.heap[k]?=J (.cells c t f))/\sft k=0
theorem pt.lk(h:pt sft w B r)(b:Lk sft f (w.at a)):ml f B r:=by
 have e:f.heap.size=w.heap.size:=b.size;refine h.mem.same Za λk j d=>?_;let⟨⟨c,t,l,g⟩,i⟩:=h.row k d;exact vI (w:=w.at a) b i (.inl ⟨c,t,_,g⟩)
theorem pt.kl(h:pt sft w B r)(m:Kept sft (w.at a) w')(i:Lk sft f w')(n:ml f B E)(o:E.nD=r.nD):pt sft w' B E:=by
 have e:f.heap.size=w'.heap.size:=i.size;have j:∀k,B.is E k->(∃c t b,w'.heap[k]?=J (.cells c t b))/\sft k=0:=λk d=>by
  let⟨⟨c,t,b,g⟩,l⟩:=h.row k (by unfold RB.is at d ⊢;grind);let⟨p,q⟩:=m.cells (k:=k) g
  grind
 refine⟨n.same Za λk _ d=>?_,j⟩;let⟨⟨c,t,b,g⟩,l⟩:=j k d;exact(vI i l (.inl ⟨c,t,_,g⟩)).symm
structure wo (K:aa) (r:Rk):Prop where
 u:Rel K r
 i:rC K
theorem Kz(q:Fit sft w)(h:pt sft w B r)(k:wo K r)(g f a b c:Int)(s:-9223372036854775808<=f/\f<9223372036854775808) :
  oL main sft 17 #[Po (J (O B.b 0 Q)),vi g,vi f,.agg #[vi a,vi b,vi c]] w λx w'=>x=.tuple #[vi (i5 K g f a b c).n,vi (i5 K g f a b c).e]/\(∃E,pt sft w' B E/\Rel (i5 K g f a b c).K E/\E.nD=r.nD)/\Fit sft w'/\w.heap.size<=w'.heap.size/\∀j,j<w.heap.size->¬B.is r j->w'.heap[j]?=w.heap[j]?:=by
 refine xA q Zd (R:=λx v l=>RK B r v (i5 K g f a b c) (.returned x) l) (λd v i=>(b8l (h.lk i) k.u k.i.own k.i.toInv k.i.xG k.i.ended g f a b c s).mono λe l p=>⟨_,p.1,Z,p.2⟩) ?_;rintro d x v l w' i m n ⟨o,⟨E,t,u,n1⟩,y⟩;injection o with o
 have A:v.heap.size=w.heap.size:=i.size;refine⟨o,⟨E,h.kl n m t n1,u,n1⟩,m.fit,n.size,λj C z=>C5 (w:=w.at d) n i m (y.block j Za z)⟩
def oN(a:Nat->Nat)(n:Nat)(P:Nat->Bool):List Nat:=(aO n).filter λk=>P (a k)
theorem A6{P:Nat->Bool}:b∈oN m a P↔b<a/\P (m b)=true:=by simp[oN]
structure Rl where
 bl:Nat
 bt:Nat
 bu:Nat
 bd:Nat
inductive py where
 | fresh (kd A B:Int)
 | begun (T:Tk)
abbrev cB(i j:Nat):Nat:=100+100*i+j
def oW(i c:Nat):Prop:=100+100*i<=c/\c<200+100*i
theorem rD(h:b<100):oW a (cB a b):=by unfold oW cB;omega
def AN(sft c:Nat->Nat)(i:Nat)(w:Wd)(a p:Nat):py->Prop
 | .fresh d A B=>(1<=d/\d<=7)/\w.rangeAt a (p*8) [vi d,vi A,vi B,b0,s0,s0,s0,s0]
 | .begun T=>(1<=T.kd/\T.kd<=7)/\T.bt=a/\T.o=p*8/\w.cell? (O a (p*8+3) Q)=J (Bo true)/\(w.cell? (O a (p*8+6) Q)).isSome=true/\(∀b,w.heap.size<=b->qd sft b T w)/\w.ownsRow 0 147 2 T.L T.Ls.length (T.Ls.flatMap λx=>[vi x.1,vi x.2])/\c T.gF=cB i (30+p)/\c T.gS=cB i (30+p)/\(∀g,T.L.ownBlock=J g->c g=cB i (20+p)/\sft g=0)
structure oh (sft κ:Nat->Nat) (i:Nat) (w:Wd) (b:Rl) (bk n:Nat) (ts:Nat->Option py) (D:Nat->Vu) (N:Nat->Nat) (Xs:Nat->List Vu):Prop where
 k0:w.cell? (O b.bl 0 Q)=J (Po (J (O bk 0 Q)))
 k1:w.cell? (O b.bl 1 Q)=J (Sc (J (O b.bt 0 Q)) n n)
 k2:w.cell? (O b.bl 2 Q)=J (Sc (J (O b.bu 0 Q)) n n)
 k3:w.cell? (O b.bl 3 Q)=J (Sc (J (O b.bd 0 Q)) n n)
 u:∀p,p<n->w.cell? (O b.bu p Q)=J (Bo (ts p).isSome)
 d:∀p,p<n->w.cell? (O b.bd p Q)=J (D p)
 t:∀p j,p<n->j<8->(w.cell? (O b.bt (p*8+j) Q)).isSome=true
 tk:∀p s,p<n->ts p=J s->AN sft κ i w b.bt p s
 own:∀p,p<n->w.ownsRow 0 92 5 (D p) (N p) (Xs p)
 od:∀p g,p<n->(D p).ownBlock=J g->κ g=cB i (10+p)/\sft g=0
 rl:F7 sft w b.bl/\κ b.bl=cB i 0
 rt:F7 sft w b.bt/\κ b.bt=cB i 1
 ru:F7 sft w b.bu/\κ b.bu=cB i 2
 rd:F7 sft w b.bd/\κ b.bd=cB i 3
 n6:n<=6
variable{κ:Nat->Nat}{i:Nat}{b:Rl}{I n:Nat}{F:Nat->Option py}{D:Nat->Vu}{N:Nat->Nat}{H:Nat->List Vu}
theorem DO(l:Fit sft w)(a m:Int):oL main sft 32 #[vi a,vi m] w λx w'=>x=Bo (oE a m)/\nC sft [] w w':=by
 refine xA l Zd (R:=λx v c=>x=Bo (oE a m)/\c=v) (λd v f=>(Z0 (n:=a) (m:=m) (w:=v)).mono λe c h=>?_) ?_
 .grind
 .rintro d x v c w' f g j ⟨rfl,rfl⟩;exact⟨Z,j.size,λk _ _=>C5 (w:=w.at d) j f g Z,g.fit⟩
theorem c9m(a:-9223372036854775808<=h/\h<9223372036854775808):IntKind.i64.wrap h=h:=by
 simp[IntKind.wrap,IntKind.bits,IntKind.signed];omega
theorem YZ(c:-9223372036854775808<=h/\h<9223372036854775808):oE (IntKind.i64.wrap (h - 1)) 7=decide (1<=h/\h<=7):=by
 by_cases a:h=-9223372036854775808
 .subst a;decide
 .rw[c9m Za];unfold oE
  grind
theorem AN.keep{s:py}(h:AN sft κ i w c d s)(S:∀j,j<8->w'.cell? (O c (d*8+j) Q)=w.cell? (O c (d*8+j) Q))(hb:∃a' t,w'.heap[c]?=J (.cells a' t (0,0)))(x:∀k,k<w.heap.size->κ k=cB i (20+d)\/κ k=cB i (30+d)->m k=κ k/\w'.heap[k]?=w.heap[k]?):AN sft m i w' c d s:=by
 cases s with
 | fresh kd A B=>exact⟨h.1,λj v y=>(S j (by grind)).trans (h.2 j v y)⟩
 | begun T =>
  let⟨q1,z,q3,q4,q5,W,G,M,X,C⟩:=h;have q:=W _ (af _);have L:=x T.gF q.fl.1 (.inr M);have P:=x T.gS q.sl.1 (.inr X);have u:∀g,T.L.ownBlock=J g->m g=κ g/\w'.heap[g]?=w.heap[g]?:=λg l=>x g (j8 G l).2 (.inl (C g l).1);have p:∀j,j<8->w'.cell? (O T.bt (T.o+j) Q)=w.cell? (O T.bt (T.o+j) Q):=λj o=>by grind
  have R:T.Ls≠[]->T.L.ownBlock=J T.bL:=λf=>by
   let⟨e,_⟩:=q.lt f;show(di T.ad _ _).ownBlock=_;rw[e];rfl
  refine⟨q1,z,q3,(S 3 Za).trans q4,by grind,λbW c'=>?_,j5 G λg l=>(u g l).2,L.1.trans M,P.1.trans X,λg l=>⟨(u g l).1.trans (C g l).1,(C g l).2⟩⟩;have a:=W (max bW w.heap.size) (Nat.le_max_right _ _);have lf:=D9 q.fl.1 L.2;have ls:=D9 q.sl.1 P.2;have lb:c<w'.heap.size:=by grind
  exact⟨by rw[z];exact hb,a.sf,by rw[z];omega,(p 0 Za).trans a.c0,(p 1 Za).trans a.c1,(p 2 Za).trans a.c2,(p 4 Za).trans a.c4,(p 5 Za).trans a.c5,(p 7 Za).trans a.c7,λf=>⟨(a.lt f).1,D9 (a.lt f).2.1 (u _ (R f)).2,by have:=D9 (a.lt f).2.1 (u _ (R f)).2;omega⟩,λj n e o=>by
   have f:T.Ls≠[]:=λe'=>by grind
   have:=(u _ (R f)).2
   exact⟨(Zf (w:=w) (a:=(O T.bL _ Q)) this).trans (a.ls j n e o).1,(Zf (w:=w) (a:=(O T.bL _ Q)) this).trans (a.ls j n e o).2⟩,a.max,⟨lf,by omega⟩,λj o=>(Zf (w:=w) (a:=(O T.gF _ Q)) L.2).trans (a.fs j o),⟨ls,by omega⟩,λj o d v y=>(Zf (w:=w) (a:=(O T.gS _ Q)) P.2).trans (a.ss j o d v y),a.mL,a.nF,a.nS⟩
theorem oh.next{C:Nat->Option py}{T:Nat->Nat}{W:Nat->List Vu}{p:Nat}(h:oh sft κ i w b I n F D N H)(c':p<=6)(A:∀k,k<w.heap.size->oW i (κ k)->κ k≠cB i 1->κ k≠cB i 2->κ k≠cB i 3->κ k≠cB i (10+p)->κ k≠cB i (20+p)->κ k≠cB i (30+p)->m k=κ k/\w'.heap[k]?=w.heap[k]?)(M:F7 sft w' b.bt/\m b.bt=cB i 1)(ru:F7 sft w' b.bu/\m b.bu=cB i 2)(rd:F7 sft w' b.bd/\m b.bd=cB i 3)(u:∀q,q<n->w'.cell? (O b.bu q Q)=J (Bo (C q).isSome))(d:∀q,q<n->w'.cell? (O b.bd q Q)=J (s q))(t:∀q j,q<n->j<8->q≠p->w'.cell? (O b.bt (q*8+j) Q)=w.cell? (O b.bt (q*8+j) Q))(tp:∀j,p<n->j<8->(w'.cell? (O b.bt (p*8+j) Q)).isSome=true)(e:∀q,q<n->q≠p->C q=F q/\s q=D q/\T q=N q/\W q=H q)(tk:∀L,p<n->C p=J L->AN sft m i w' b.bt p L)(own:p<n->w'.ownsRow 0 92 5 (s p) (T p) (W p))(od:∀g,p<n->(s p).ownBlock=J g->m g=cB i (10+p)/\sft g=0):oh sft m i w' b I n C s T W:=by
 have n6:=h.n6;have c:∀ {x y:Nat},x≠y->cB i x≠cB i y:=λ{x y} h e=>h (by grind);have G:=A _ h.rl.1.lt (by rw[h.rl.2];exact rD Za) (by rw[h.rl.2];exact c Za) (by rw[h.rl.2];exact c Za) (by rw[h.rl.2];exact c Za) (by rw[h.rl.2];exact c Za) (by rw[h.rl.2];exact c Za) (by rw[h.rl.2];exact c Za);have P:=λo=>Zf (w:=w) (w':=w') (a:=(O b.bl o Q)) G.2;have R:∀k x q,q<n->q≠p->k<w.heap.size->κ k=cB i x->x=10+q\/x=20+q\/x=30+q->m k=κ k/\w'.heap[k]?=w.heap[k]?:=λk x q a d' hl v z=>A k hl (by rw[v];exact rD Za) (by rw[v];exact c Za) (by rw[v];exact c Za) (by rw[v];exact c Za) (by rw[v];exact c Za) (by rw[v];exact c Za) (by rw[v];exact c Za);refine⟨(P 0).trans h.k0,(P 1).trans h.k1,(P 2).trans h.k2,(P 3).trans h.k3,u,d,λq j a S=>?_,λq L a X=>?_,λq a=>?_,λq g a l=>?_,⟨h.rl.1.of G.2,G.1.trans h.rl.2⟩,M,ru,rd,h.n6⟩
 .by_cases f:q=p
  .grind
  .rw[t q j a S f];exact h.t q j a S
 .by_cases f:q=p
  .grind
  .rw[(e q a f).1]at X
   exact(h.tk q L a X).keep (λj S=>t q j a S f) M.1.1 (λk A z=>by
    rcases z with z|z
    .exact R k _ q a f A z Za
    .exact R k _ q a f A z Za)
 .by_cases f:q=p
  .grind
  .let⟨_,e2,e3,e4⟩:=e q a f;rw[e2,e3,e4];exact j5 (h.own q a) λg l=>(R g _ q a f (j8 (h.own q a) l).2 (h.od q g a l).1 Za).2
 .by_cases f:q=p
  .grind
  .rw[(e q a f).2.1]at l;have:=R g _ q a f (j8 (h.own q a) l).2 (h.od q g a l).1 Za;exact⟨this.1.trans (h.od q g a l).1,(h.od q g a l).2⟩
theorem oh.same{κ':Nat->Nat}(h:oh sft κ i w b I n F D N H)(c:∀k,k<w.heap.size->oW i (κ k)->κ' k=κ k/\w'.heap[k]?=w.heap[k]?):oh sft κ' i w' b I n F D N H:=by
 have l:=h.n6;have d:=c _ h.rt.1.lt (by rw[h.rt.2];exact rD Za);have e:=c _ h.ru.1.lt (by rw[h.ru.2];exact rD Za);have f:=c _ h.rd.1.lt (by rw[h.rd.2];exact rD Za);have m:=λo=>Zf (w:=w) (w':=w') (a:=(O b.bt o Q)) d.2;exact h.next (p:=n) l (λk p s _ _ _ _ _ _=>c k p s) ⟨h.rt.1.of d.2,d.1.trans h.rt.2⟩ ⟨h.ru.1.of e.2,e.1.trans h.ru.2⟩ ⟨h.rd.1.of f.2,f.1.trans h.rd.2⟩ (λq g=>(Zf (w:=w) (a:=(O b.bu q Q)) e.2).trans (h.u q g)) (λq g=>(Zf (w:=w) (a:=(O b.bd q Q)) f.2).trans (h.d q g)) (λq j _ _ _=>m _) (λ_ a=>absurd a (iA n)) (λ_ _ _=>⟨Z,Z,Z,Z⟩) (λ_ a=>absurd a (iA n)) (λa=>absurd a (iA n)) λ_ a=>absurd a (iA n)
abbrev sR(b:Rl)(I n:Nat):Mem:=[(0,0,.v (Po (J (O I 0 Q)))),(0,1,.v (Sc (J (O b.bt 0 Q)) n n)),(0,2,.v (Sc (J (O b.bu 0 Q)) n n)),(0,3,.v (Sc (J (O b.bd 0 Q)) n n))]
theorem oh.oG(h:oh sft κ i w b I n F D N H)(d:Fit sft w)(f:∀k,w.heap.size<=k->sft k=0)(W:List Nat):yX sft W 1 [(b.bl,0)] (sR b I n) w:=by
 refine⟨λe a=>?_,λj c=>?_,λj q c g l=>?_,λj m o=>?_,d,f⟩
 .simp only[sR,ae,aj,or_false]at a;rcases a with rfl|rfl|rfl|rfl<;>refine⟨eH,mX,?_⟩
  .exact h.k0
  .exact h.k1
  .exact h.k2
  .exact h.k3
 .obtain rfl:j=0:=Zm c;exact h.rl.1
 all_goals grind
theorem LI(h:oh sft κ i w b I n F D N H)(l:Fit sft w)(m:∀k,w.heap.size<=k->sft k=0)(s:Int):oL main sft 53 #[Po (J (O b.bl 0 Q)),vi s] w λx w'=>nC sft [] w w'/\((oE s n=false/\x=.tuple #[Sc Q 0 0,vi 3])\/∃p:Nat,s=p/\p<n/\x=.tuple #[D p,vi 0]):=by
 refine y7 (sz:=21) (ρ:=[(b.bl,0)]) [.c (.p 0 0),.c (ci s)] (h.oG l m []) (λs f=>?_) jJ Z Z Z λStop y z A M g=>?_
 .simp only[ae,aj,or_false]at f;rcases f with rfl|rfl<;>first|trivial|exact eH
 refine ia 100 1 [] M Z Z mX λC L e=>A4 e (DO e.fit s n) Z Z Z fZ Z Z Z Z Z λx P o=>?_;obtain⟨rfl,q⟩:=o;refine E3 (e.still q) 1 (.c (.v (Bo (oE s n)))) Z Z Z Z Z λR t=>ia 100 1 [] t Z Z mX λS T d=>?_
 cases a:oE s n with
 | false =>
  refine nV d Z (by rw[a];rfl)<|ia 100 1 [] d Z Z mX λu v c=>A9 c jJ Z Z Z<|g _ _ ⟨c.hJ,.inl ⟨a,Z⟩⟩
 | true =>
  refine nR d Z (by rw[a];rfl) ?_;simp only[oE,aB,decide_eq_true_eq]at a;obtain⟨p,rfl⟩:=cT a.1;have j:p<n:=by omega
  refine ia 100 1 [[D p]] d Z Z ⟨⟨mX,by omega⟩,⟨h.rd.1.lt,by simp,by simpa using h.d p j⟩⟩ λu v c=>A9 c jJ Z Z Z<|g _ _ ⟨c.hJ,.inr ⟨p,Z,j,Z⟩⟩
theorem p5(f:κ a=cB i d)(g:κ c=cB i e)(h:d≠e):a≠c:=λj=>by
 grind
def pd(F:Nat->Option py)(p:Nat)(x:Option py)(q:Nat):Option py:=if q=p then x else F q
theorem LJ(h:oh sft κ i w b I n F D N H)(y':Fit sft w)(z':∀k,w.heap.size<=k->sft k=0)(s d A B:Int)(a:-9223372036854775808<=d/\d<9223372036854775808):oL main sft 20 #[Po (J (O b.bl 0 Q)),vi s,.agg #[vi d,vi A,vi B]] w λx w'=>((d<1\/7<d)/\x=vi 2/\nC sft [] w w')\/(1<=d/\d<=7/\((oE s n=false/\x=vi 3/\nC sft [] w w')\/∃p:Nat,s=p/\p<n/\(((F p).isSome=true/\x=vi 14/\nC sft [] w w')\/(F p=Q/\x=vi 0/\nC sft [b.bu,b.bt] w w'/\oh sft κ i w' b I n (pd F p (J (.fresh d A B))) D N H)))):=by
 refine y7 (sz:=41) (ρ:=[(b.bl,0)]) [.c (.p 0 0),.c (ci s),.g [ci d,ci A,ci B]] (h.oG y' z' []) (λs y=>?_) iz Z Z Z λStop fr cs act M P=>?_
 .simp only[ae,aj,or_false]at y;rcases y with rfl|rfl|rfl<;>first|trivial|exact eH|(intro x P;simp only[ae,aj,or_false]at P;rcases P with rfl|rfl|rfl<;>trivial)
 refine sw 100 1 [] M Z Z mX λa1 w1 bo M1=>?_;refine A4 M1 (DO M1.fit (IntKind.i64.wrap (d - 1)) 7) Z Z Z fZ Z Z Z Z Z λx w2 f=>?_;obtain⟨rfl,L2⟩:=f;refine E3 (M1.still L2) 2 (.c (.v (Bo (oE (IntKind.i64.wrap (d - 1)) 7)))) Z Z Z Z Z λa3 M3=>?_;refine ia 100 2 [] M3 Z Z mX λa4 w4 M4=>?_;have hkd:=YZ a
 by_cases R:1<=d/\d<=7
 .refine nR M4 Z (by grind) ?_;refine ia 100 2 [] M4 Z Z mX λa5 w5 T=>?_;refine A4 T (DO T.fit s n) Z Z Z fZ Z Z Z Z Z λx w6 f=>?_;obtain⟨rfl,L6⟩:=f;refine E3 (T.still L6) 2 (.c (.v (Bo (oE s n)))) Z Z Z Z Z λa7 M7=>?_;refine ia 100 2 [] M7 Z Z mX λa8 w8 M8=>?_
  cases hb:oE s n with
  | false =>
   refine nV M8 Z (by rw[hb];rfl) ?_;refine ia 100 2 [] M8 Z Z mX λa9 w9 S=>?_;refine A9 S iz Z Z Z ?_;exact P _ _ (.inr ⟨R.1,R.2,.inl ⟨hb,Z,S.hJ⟩⟩)
  | true =>
   refine nR M8 Z (by rw[hb];rfl) ?_;simp only[oE,aB,decide_eq_true_eq]at hb;obtain⟨p,rfl⟩:=cT hb.1;have m:p<n:=by omega
   refine ia 100 2 [[Bo (F p).isSome]] M8 Z Z ⟨⟨mX,by omega⟩,⟨h.ru.1.lt,by simp,by simpa using h.u p m⟩⟩ λa9 w9 S=>?_
   cases ht:F p with
   | some x =>
    refine nV S Z (by rw[ht];rfl) ?_;refine ia 100 2 [] S Z Z mX λA' i' C=>?_;refine A9 C iz Z Z Z ?_;exact P _ _ (.inr ⟨R.1,R.2,.inr ⟨p,Z,m,.inl ⟨by rw[ht];rfl,Z,C.hJ⟩⟩⟩)
   | none =>
    refine nR S Z (by rw[ht];rfl) ?_;refine ia 100 2 [] S Z Z ⟨mX,by omega⟩ λA' i' C=>?_;have f':∀k,k<w.heap.size->i'.heap[k]?=w.heap[k]?:=λk a=>C.old k a Zc;have C:=C.oZ (W':=[b.bu,b.bt]) Zc;have B':=p5 h.rl.2 h.ru.2 Za;have g':∀k,k<w.heap.size->bo≠k:=λk a=>by
     rcases M1.own 1 (af _) Zc with e|e
     .cases e
     .have e:w.heap.size<=bo:=e;omega
    refine zl C Z Z Z Z Z Z Z Z Z (h.ru.1.of (f' _ h.ru.1.lt)) (.inl Zc) (λj u=>?_) (λq f=>?_) λj' C' o' D' E' p'=>?_
    .have u:j<2:=u;obtain rfl|rfl:j=0\/j=1:=by omega
     .exact B'
     .exact g' _ h.ru.1.lt
    .obtain rfl:q=0:=Zm f;rw[Zf (w:=w) (f' _ h.ru.1.lt)];simp[h.u p m]
    .refine p7 100 2 [] p' Z Z mX λa12 W d' h'=>?_;have q':∀j,j<2->(nJ [(b.bl,0),(bo,0)] j).1≠b.bt:=λj u=>by
      obtain rfl|rfl:j=0\/j=1:=by omega
      .exact p5 h.rl.2 h.rt.2 Za
      .exact g' _ h.rt.1.lt
     have lt12:∀k,k<w.heap.size->k<W.heap.size:=λk a=>Zg a d'.size;have F':∀k,k<w.heap.size->k≠b.bl->k≠b.bu->W.heap[k]?=w.heap[k]?:=λk a h1 h2=>by
      rw[h'.old k (Zg a p'.size) λj u=>?_,C'.old k (Zg a C.size) (by simpa using h2),f' k a];have u:j<2:=u;obtain rfl|rfl:j=0\/j=1:=by omega
      .exact aA h1
      .exact g' k a
     have k':=F' _ h.rt.1.lt (p5 h.rt.2 h.rl.2 Za) (p5 h.rt.2 h.ru.2 Za);refine uU [(8,Q)] [] false (λs xs H' w'=>H'=[(b.bl,0),(bo,0)]/\((s=0/\w'=W)\/(s=1/\nC sft [b.bt] W w'/\F7 sft w' b.bt/\w'.rangeAt b.bt (p*8) [vi d,vi A,vi B,b0,s0,s0,s0,s0]/\∀q,q<p*8\/p*8+8<=q->w'.cell? (O b.bt q Q)=W.cell? (O b.bt q Q)))) d' Z (λ_=>rfl) (λ_=>rfl) Z Zd ⟨mX,by omega⟩ (λs xs r' w' a' _ l h1 h2=>?_) ⟨Z,.inl ⟨Z,Z⟩⟩ (λs j g y xs o a' w' r' rest ho l Ma rd hn=>?_) λxs r' a13 l' l N' O'=>?_
     .obtain⟨e,l⟩:=l;obtain rfl:=Zk e;rcases l with⟨_,rfl⟩|⟨_,L,_⟩
      .exact d'.bare h1 h2
      .exact(d'.wrote L (.inl Zc) q').bare h1 h2
     .obtain⟨e,l⟩:=l;obtain rfl:=Zk e
      cases s with
      | succ s=>simp at y
      | zero =>
       obtain⟨rfl,rfl⟩:=ax (Ze y);rcases l with⟨_,rfl⟩|⟨h,_⟩
       case inr=>cases h
       obtain rfl:=Ze ho;obtain⟨c0,t0,Q'⟩:∃c t,w'.heap[b.bt]?=J (.cells c t (0,0)):=by rw[k'];exact h.rt.1.1
       refine wS (b:=b.bt) (p:=p*8) (cells:=[vi d,vi A,vi B,b0,s0,s0,s0,s0]) Ma.lv Z Z Z Z Q' h.rt.1.2 Ma.fit ((rd _ _ Z).trans ?_) (rd _ _ Z) Z Z (λv G=>?_) (λq f=>?_) λw2 s1 s2 s3 s4 s5 s6=>?_
       .simp[Sv.den,nI.den]
       .simp only[ae,aj,or_false]at G;rcases G with rfl|rfl|rfl|rfl|rfl|rfl|rfl|rfl<;>rfl
       .rw[Zf (w:=w) k'];exact h.t p q m f
       .refine hn [] w2 Q ⟨by simp,.inr ⟨Z,⟨by omega,λk _ a=>s2 k (by simpa using a),s6⟩,⟨s3,h.rt.1.2⟩,λq v G=>s4 q v G,λq f=>s5 q f⟩⟩ (.inl Z) λsv h=>by cases h
     .obtain⟨e,l⟩:=l;obtain rfl:=Zk e;rcases l with⟨h0,_⟩|⟨_,m',s',c13,o13⟩
      .cases h0
      have M13:=(d'.wrote m' (.inl Zc) q').re N' O';refine p7 100 2 [] M13 Z Z mX λa14 e' X t'=>?_;refine A9 X iz Z Z Z ?_;have u':∀k,k<w.heap.size->k≠b.bl->∀j,j<2->(nJ [(b.bl,0),(bo,0)] j).1≠k:=λk a hl j u=>by
       obtain rfl|rfl:j=0\/j=1:=by omega
       .exact aA hl
       .exact g' k a
      have ltt:b.bt<l'.heap.size:=s'.lt;have n':b.bu<j'.heap.size:=o'.lt;have v':e'.heap[b.bt]?=l'.heap[b.bt]?:=t'.old _ ltt (u' _ h.rt.1.lt (p5 h.rt.2 h.rl.2 Za));have eu:e'.heap[b.bu]?=j'.heap[b.bu]?:=by
       have nu:=u' _ h.ru.1.lt (p5 h.ru.2 h.rl.2 Za);rw[t'.old _ (Zg n' (Zh h'.size m'.size)) nu,m'.old _ (Zg n' h'.size) (by simpa using p5 h.ru.2 h.rt.2 Za),h'.old _ n' nu]
      have ct:=λo=>Zf (w:=l') (w':=e') (a:=(O b.bt o Q)) v';have c12:=λo=>Zf (w:=w) (w':=W) (a:=(O b.bt o Q)) k';have cu:=λo=>Zf (w:=j') (w':=e') (a:=(O b.bu o Q)) eu;have c1:=λo=>Zf (w:=w) (w':=i') (a:=(O b.bu o Q)) (f' _ h.ru.1.lt);have n6:=h.n6;have z:∀j v,[vi d,vi A,vi B,b0,s0,s0,s0,s0][j]?=J v->e'.cell? (O b.bt (p*8+j) Q)=J v:=λj v G=>(ct _).trans (c13 j v G);refine P _ _ (.inr ⟨R.1,R.2,.inr ⟨p,Z,m,.inr ⟨ht,Z,X.hJ,h.next (p:=p) Za (λk a _ k1 k2 _ _ _ _=>⟨Z,X.old k a ?_⟩) ⟨s'.of v',h.rt.2⟩ ⟨o'.of eu,h.ru.2⟩ ⟨h.rd.1.of (X.old _ h.rd.1.lt ?_),h.rd.2⟩ (λq f=>?_) (λq f=>(Zf (w:=w) (a:=(O b.bd q Q)) (X.old _ h.rd.1.lt ?_)).trans (h.d q f)) (λq j f u x'=>?_) (λj _ u=>?_) (λq f x'=>⟨mY x',Z,Z,Z⟩) (λs _ y=>?_) (λ_=>j5 (h.own p m) λg hg=>X.old g (j8 (h.own p m) hg).2 ?_) λg _ hg=>h.od p g m hg⟩⟩⟩)
      .simp only[ae,aj,or_false];rintro(rfl|rfl)
       .exact k2 h.ru.2
       .exact k1 h.rt.2
      .simp only[ae,aj,or_false];rintro(e|e)
       .exact p5 h.rd.2 h.ru.2 Za e
       .exact p5 h.rd.2 h.rt.2 Za e
      .rw[cu];unfold pd;split
       .next e=>subst e;simpa[nI.den] using D' 0 _ Z
       .next e=>rw[E' q (by simp;omega),c1];exact h.u q f
      .simp only[ae,aj,or_false];rintro(e|e)
       .exact p5 h.rd.2 h.ru.2 Za e
       .exact p5 h.rd.2 h.rt.2 Za e
      .grind
      .match j,u with
       | 0,_=>rw[z 0 _ Z];rfl
       | 1,_=>rw[z 1 _ Z];rfl
       | 2,_=>rw[z 2 _ Z];rfl
       | 3,_=>rw[z 3 _ Z];rfl
       | 4,_=>rw[z 4 _ Z];rfl
       | 5,_=>rw[z 5 _ Z];rfl
       | 6,_=>rw[z 6 _ Z];rfl
       | 7,_=>rw[z 7 _ Z];rfl
      .unfold pd at y;rw[mZ Z]at y;obtain rfl:=Ze y;exact⟨R,z⟩
      .simp only[ae,aj,or_false];rintro(e|e)
       .exact p5 (h.od p g m hg).1 h.ru.2 Za e
       .exact p5 (h.od p g m hg).1 h.rt.2 Za e
 .refine nV M4 Z (by grind) ?_;refine ia 100 2 [] M4 Z Z mX λa5 w5 T=>?_;refine A9 T iz Z Z Z ?_;exact P _ _ (.inl ⟨by omega,Z,T.hJ⟩)
def Qw:List bh:=match Tryz.f25.body with
 | some (.seq _ (.block i (.loop (.seq (.seq x y) z))))=>[.code y,.code z,.inLoop (.seq (.seq x y) z),.inBlock i]
 | _=>[]
variable{Stop:Gr->Wd->Prop}{fr:Fm'}{S:List Fm'}
abbrev Tx(j n:Nat):l9:=[(0,.c (.p 0 0)),(2,.c (ci j)),(9,.c (.v (Bo (decide ((j:Int)<n)))))]
theorem ZQ(h:oh sft κ i w b I n F D N H)(T:∀w',nC sft [b.bu] w w'->F7 sft w' b.bu->(∀q,q<n->w'.cell? (O b.bu q Q)=J (Bo false))->iv V main true sft Stop (G (fr.finish (.tuple #[])) S) w'):∀f j d w',j+f=n->F7 sft w' b.bu->(∀q,q<j->w'.cell? (O b.bu q Q)=J (Bo false))->(∀q,q<n->(w'.cell? (O b.bu q Q)).isSome=true)->fx sft [b.bu] 1 w [(b.bl,0)] (sR b I n) 18 (Tx j n) d w'->iv V main true sft Stop (G ((aQ 25).at d Qw) (fr::S)) w':=by
 have n6:=h.n6;have g:=p5 h.rl.2 h.ru.2 Za;intro f
 induction f with
 | zero =>
  intro j d w' W R p s M;obtain rfl:j=n:=by omega
  refine nR M Z (decide_eq_false Za)<|p7 200 1 [] M Z Z mX λX u k m=>EH k Tryz.func25 Z Z Z ?_;have e:=m.old _ R.lt (λt a=>by cases Zm a;exact g);exact T _ k.hJ (R.of e) (λq c=>(Zf (w:=w') (a:=(O b.bu q Q)) e).trans (p q c))
 | succ f ih =>
  intro j d w' W R p s M;refine nV M Z (decide_eq_true Za)<|p7 200 1 [] M Z Z ⟨mX,by omega⟩ λX u k m=>?_;have v:=m.old _ R.lt (λt a=>by cases Zm a;exact g);have x:=λo=>Zf (w:=w') (w':=u) (a:=(O b.bu o Q)) v;refine zl k Z Z Z Z Z Z Z Z Z (R.of v) (.inl Zc) (λt a=>by cases Zm a;exact g) (λq c=>?_) λw2 L2 y z A M2=>?_
  .obtain rfl:q=0:=Zm c;rw[x];simpa using s j Za
  have e2:=C7 (n:=j) Za;refine p7 200 1 [] M2 Z Z mX λa3 l M3 q3=>?_;have C:=M3.nY 1 [0,2,9] [(0,0),(0,1),(0,2),(0,3)] Z Z Z;rw[e2]at C;have L:=q3.old _ y.lt (λt a=>by cases Zm a;exact g);have P:=λo=>Zf (w:=w2) (w':=l) (a:=(O b.bu o Q)) L;have A:∀q,q≠j->l.cell? (O b.bu q Q)=w'.cell? (O b.bu q Q):=λq c=>by rw[P,A q (by simp;omega),x]
  have z:l.cell? (O b.bu j Q)=J (Bo false):=by rw[P];simpa[nI.den] using z 0 _ Z
  refine ih (j+1) a3 l Za (y.of L) (λq c=>?_) (λq c=>?_) C
  .by_cases e:q=j
   all_goals grind
  .by_cases e:q=j
   all_goals grind
theorem Vt(h:oh sft κ i w b I n F D N H)(P:Fit sft w)(R:∀k,w.heap.size<=k->sft k=0):oL main sft 25 #[Po (J (O b.bl 0 Q))] w λx w'=>x=.tuple #[]/\nC sft [b.bu] w w'/\oh sft κ i w' b I n (λ_=>Q) D N H:=by
 refine y7 (sz:=18) (ρ:=[(b.bl,0)]) [.c (.p 0 0)] (h.oG P R [b.bu]) (λs d=>?_) Tryz.func25 Z Z Z λStop fr S e' M T=>?_
 .simp only[ae,aj,or_false]at d;rcases d with rfl;exact eH
 have n6:=h.n6;have W:=p5 h.rl.2 h.ru.2 Za;refine p7 200 1 [] M Z Z mX λG X M1 q1=>?_;have M2:=M1.nY 1 [0,2,9] [(0,0),(0,1),(0,2),(0,3)] Z Z Z;have u:=q1.old _ h.ru.1.lt (λt ht=>by cases Zm ht;exact W);refine ZQ h (λw' L r c=>T _ _ ⟨Z,L,?_⟩) n 0 G X Za (h.ru.1.of u) (λq v=>by omega) (λq v=>by rw[Zf (w:=w) u,h.u q v];rfl) M2
 have f:∀k,k<w.heap.size->κ k≠cB i 2->w'.heap[k]?=w.heap[k]?:=λk hk hn=>L.old k hk (by
  simp only[cz];rintro rfl
  exact hn h.ru.2)
 have l:∀ {x:Nat},x≠2->cB i x≠cB i 2:=λ{x} h e=>h (by grind);have y:=f _ h.rt.1.lt (by rw[h.rt.2];exact l Za);have z:=f _ h.rd.1.lt (by rw[h.rd.2];exact l Za);have A:=f _ h.rl.1.lt (by rw[h.rl.2];exact l Za);have m:=λo=>Zf (w:=w) (w':=w') (a:=(O b.bl o Q)) A;exact⟨(m 0).trans h.k0,(m 1).trans h.k1,(m 2).trans h.k2,(m 3).trans h.k3,c,λp a=>(Zf (w:=w) (a:=(O b.bd p Q)) z).trans (h.d p a),λp j a hj=>by rw[Zf (w:=w) y];exact h.t p j a hj,λp s _ d=>(by cases d),λp a=>j5 (h.own p a) λg C=>f g (j8 (h.own p a) C).2 (by rw[(h.od p g a C).1];exact l Za),h.od,⟨h.rl.1.of A,h.rl.2⟩,⟨h.rt.1.of y,h.rt.2⟩,⟨r,h.ru.2⟩,⟨h.rd.1.of z,h.rd.2⟩,h.n6⟩
theorem uq(d:Kept sft (w.at a) w')(g:Lk sft f w')(j:∀c,w.heap.size<=c->sft c=0)(h:w.heap.size<=c):w'.heap[c]?=f.heap[c]?:=by
 rw[g.heap,j c h]
 cases e:w'.heap[c]? with
 | none=>rfl
 | some o=>rw[aD,xC (d.new c o h e)]
theorem Mz(t:Fit sft w)(u:∀k,w.heap.size<=k->sft k=0)(h:pt sft w B r)(k:wo K r):oL main sft 45 #[Po (J (O B.b 0 Q))] w λx w'=>nC sft [] w w'/\∃(a:Nat->Option cx) (g f:Nat->Nat),x=DE K a f/\vx w' K a g/\∀c,c<3->0<qx K c->w.heap.size<=g c:=by
 refine xA t Zd (R:=λx v l=>∃(a:Nat->Option cx) (g f:Nat->Nat),x=DE K a f/\vx l K a g/\bE v.heap.size v l/\∀c,c<3->0<qx K c->v.heap.size<=g c) (λd v m=>(YU (h.lk m) k.u k.i.own k.i.xG k.i.mL k.i.toInv).mono λe l y=>?_) ?_
 .grind
 .rintro d x v l w' m o p ⟨a,g,f,rfl,hT,hB,hg⟩;have z:v.heap.size=w.heap.size:=m.size;have A:l.heap.size=w'.heap.size:=o.size;refine⟨⟨p.size,λj C _=>C5 (w:=w.at d) p m o (hB.block j Za),o.fit⟩,a,g,f,Z,hT.same Za λc q s=>uq p o u ?_,λc q s=>?_⟩<;>have:=hg c q s<;>omega
variable{W:List Nat}{ro:Nat}{w0:Wd}{ρ:ou}{sz:Nat}{a:cZ}{m m':Mem}{b' c':l9}
theorem fx.alias(M:fx sft W ro w0 ρ m sz b' a w)(t:Nat)(v d:Sv){n:Nat}(j:n=ρ.length)(h:tC b' t=J v)(l:v.den ρ=d.den ρ)(k:tt n d=true)(g:qA t d b'=J c'):fx sft W ro w0 ρ m sz c' a w :=
 M.re ⟨M.lv.size,M.lv.defers,λp f=>by
  let⟨q,x⟩:=p;obtain⟨s,c,rfl⟩:=s7.1 f;rcases BQ g _ c with e|⟨c,_⟩
  .obtain⟨rfl,rfl⟩:=ax e;have:=M.lv.has _ (s7.2 ⟨v,wH h,Z⟩)
   grind
  .exact M.lv.has _ (s7.2 ⟨s,c,Z⟩)⟩ λp f=>by
  rcases BQ g p f with rfl|⟨c,_⟩
  .rw[←j];exact uO k
  .exact M.wf p c
theorem fx.xu(M:fx sft W ro w0 ρ m sz b' a w)(c:∀e∈m',e∈m\/(e.1<ρ.length/\e.2.2.ok ρ.length/\w.cell? (O ((nJ ρ e.1).1) ((nJ ρ e.1).2+e.2.1) Q)=J (e.2.2.den ρ))):fx sft W ro w0 ρ m' sz b' a w:=⟨M.lv,λe d=>(c e d).elim (M.ce e) id,M.wf,M.bl,M.ij,M.own,M.size,M.old,M.fit,M.new⟩
def F4:List bh:=match Tryz.f22.body with
 | some (.seq _ (.seq _ (.seq _ (.seq _ (.seq _ c)))))=>[.code c]
 | _=>[]
def pe(i p c:Nat):Bool:=aG c 1||Nat.beq c (cB i 1)||Nat.beq c (cB i 2)||Nat.beq c (cB i 3)||Nat.beq c (cB i (10+p))||Nat.beq c (cB i (20+p))
def ug(l:List (Int×Int)):List dM:=l.flatMap λx=>[vi x.1,vi x.2]
theorem c7h:oY 135 147 2 16:=⟨by kernel_rfl,by kernel_rfl⟩
def yt(c:aa)(p:Nat)(d A B:Int):j6:=(qR c p d A B).then false xY
def rH(c:aa)(p:Nat)(d A B:Int)(f:List (Int×Int))(e:Int):Option (Int×Int):=if e=3 then J (0,3) else match yt c p d A B f with
 | .call _ _ _ _=>Q
 | .done v e=>J (v,e)
def nM{c:Type}(f:Nat->c)(p:Nat)(x:c)(q:Nat):c:=if q=p then x else f q
variable{w1:Wd}{p:Nat}{T:Tk}{x6:Vu}
def zF(sft κ:Nat->Nat)(i:Nat)(w:Wd)(b:Rl)(B:RB)(r:Rk)(n:Nat)(F:Nat->Option py)(D:Nat->Vu)(N:Nat->Nat)(H:Nat->List Vu)(p:Nat)(g A h:Int)(j:aa)(l:List (Int×Int))(c:Out)(x:Vu)(w':Wd):Prop :=
 nC sft (oN κ w.heap.size (pe i p)) w w'/\∃f E,(∀k,k<w.heap.size->f k=κ k)/\(∀k,w.heap.size<=k->f k=0\/k<w'.heap.size/\oW i (f k))/\pt sft w' B E/\Rel c.K E/\E.nD=r.nD /\
  match rH j p g A h (l++[(c.n,c.e)]) c.e with
  | none=>x=.tuple #[Bo false,vi 0]/\∃T:Tk,oh sft f i w' b B.b n (pd F p (J (.begun T))) D N H/\T.K=j/\T.kd=g/\T.A=A/\T.B=h/\T.Ls=l++[(c.n,c.e)]
  | some (v,e)=>x=.tuple #[Bo true,vi 0]/\∃d,oh sft f i w' b B.b n (pd F p Q) (nM D p d) (nM N p (N p+1)) (nM H p (H p++oG g A h e v))
def Sn(κ:Nat->Nat)(i p:Nat)(w w1:Wd)(k:Nat):Prop:=(k<w.heap.size/\κ k=cB i (30+p))\/(w.heap.size<=k/\k<w1.heap.size)
abbrev sP(p:Nat)(c:Nat):l9:=[(0,.c (.p 0 0)),(1,.c (ci p)),(6,.c (.v (Po (J (O c (p*8) Q)))))]
structure oI (sft κ:Nat->Nat) (i p:Nat) (w w1:Wd) (b:Rl) (B:RB) (r:Rk) (K:aa) (T:Tk) (x6:Vu):Prop where
 tk:∀bb,w1.heap.size<=bb->qd sft bb T w1
 tb:T.bt=b.bt/\T.o=p*8
 kd:1<=T.kd/\T.kd<=7
 c3:w1.cell? (O b.bt (p*8+3) Q)=J (Bo true)
 c6:w1.cell? (O b.bt (p*8+6) Q)=J x6
 ot:∀q,q<p*8\/p*8+8<=q->w1.cell? (O b.bt q Q)=w.cell? (O b.bt q Q)
 rt:F7 sft w1 b.bt/\κ b.bt=cB i 1/\b.bt<w.heap.size
 old:∀k,k<w.heap.size->κ k≠1->κ k≠cB i 1->κ k≠cB i (20+p)->w1.heap[k]?=w.heap[k]?
 L:w1.ownsRow 0 147 2 T.L T.Ls.length (ug T.Ls)
 Lc:∀g,T.L.ownBlock=J g->sft g=0/\((g<w.heap.size/\κ g=cB i (20+p))\/w.heap.size<=g)/\g≠T.gF/\g≠T.gS
 sF:Sn κ i p w w1 T.gF
 sS:Sn κ i p w w1 T.gS
 pS:p<T.K.nS
 p6:p<6
 sz:w.heap.size<=w1.heap.size
 R:pt sft w1 B r
 Rc:∀j,B.is r j->κ j=1/\j<w.heap.size
 k:wo K r
theorem pI{κ:Nat->Nat}{i y:Nat}(h:κ c=cB i d)(f:d≠y):κ c≠cB i y:=λe=>f (by rw[h]at e;unfold cB at e;omega)
theorem sm{κ:Nat->Nat}{i:Nat}(h:κ c=cB i d):κ c≠1:=λe=>by rw[h]at e;unfold cB at e;omega
theorem HC(t:∀h,w1.heap.size<=h->qd sft h T w1)(k:w1.heap.size<=f.heap.size)(s:f.heap[T.bt]?=w1.heap[T.bt]?)(u:f.heap[T.gF]?=w1.heap[T.gF]?)(x:f.heap[T.gS]?=w1.heap[T.gS]?)(y:T.Ls≠[]->f.heap[T.bL]?=w1.heap[T.bL]?):∀h,f.heap.size<=h->qd sft h T f:=λz C=>by
 have c:=t z Za;have d:=λo=>Zf (w:=w1) (w':=f) (a:=(O T.bt o Q)) s
 exact⟨by rw[s];exact c.blk,c.sf,c.ne,(d _).trans c.c0,(d _).trans c.c1,(d _).trans c.c2,(d _).trans c.c4,(d _).trans c.c5,(d _).trans c.c7,λl=>⟨(c.lt l).1,Zg (c.lt l).2.1 k,(c.lt l).2.2⟩,λj n e g=>by
  have:=y λL=>by grind
  exact⟨(Zf (w:=w1) (a:=(O T.bL _ Q)) this).trans (c.ls j n e g).1,(Zf (w:=w1) (a:=(O T.bL _ Q)) this).trans (c.ls j n e g).2⟩,c.max,⟨Zg c.fl.1 k,c.fl.2⟩,λj g=>(Zf (w:=w1) (a:=(O T.gF _ Q)) u).trans (c.fs j g),⟨Zg c.sl.1 k,c.sl.2⟩,λj g q v A=>(Zf (w:=w1) (a:=(O T.gS _ Q)) x).trans (c.ss j g q v A),c.mL,c.nF,c.nS⟩
theorem oI.own(P:oI sft κ i p w w1 b B r K T x6)(c:T.Ls≠[]):T.L.ownBlock=J T.bL:=by
 let⟨e,_⟩:=(P.tk _ (af _)).lt c;show(di T.ad _ _).ownBlock=_;rw[e];rfl
def sY(w:Wd)(T:Tk)(X:List Nat):Prop:=∀x∈X,w.heap.size<=x/\x≠T.gF/\x≠T.gS/\T.L.ownBlock≠J x
theorem oI.move(P:oI sft κ i p w w1 b B r K T x6)(X:List Nat)(j:sY w T X)(G:κ b.bl=cB i 0)(d:w1.heap.size<=f.heap.size)(e:∀k,k<w1.heap.size->k≠b.bl->k∉X->f.heap[k]?=w1.heap[k]?)(M:f.heap[b.bl]?=w1.heap[b.bl]?):oI sft κ i p w f b B r K T x6:=by
 have e:∀k,k<w1.heap.size->k∉X->f.heap[k]?=w1.heap[k]?:=λk c hx=>by
  grind
 have l:∀k,k<w.heap.size->f.heap[k]?=w1.heap[k]?:=λk c=>e k (Zg c P.sz) λh=>by have:=(j k h).1;omega
 have u:=P.tk _ (af _);have s:=l _ P.rt.2.2;have v:∀g,T.L.ownBlock=J g->f.heap[g]?=w1.heap[g]?:=λg x=>e g (j8 P.L x).2 λh=>(j g h).2.2.2 x;have t:=λo=>Zf (w:=w1) (w':=f) (a:=(O b.bt o Q)) s;exact⟨HC P.tk d (by rw[P.tb.1];exact s) (e _ u.fl.1 λh=>(j _ h).2.1 Z) (e _ u.sl.1 λh=>(j _ h).2.2.1 Z) λz=>v _ (P.own z),P.tb,P.kd,(t _).trans P.c3,(t _).trans P.c6,λq A=>(t _).trans (P.ot q A),⟨P.rt.1.of s,P.rt.2⟩,λk y C L R=>(l k y).trans (P.old k y C L R),j5 P.L v,P.Lc,P.sF.imp id λh=>⟨h.1,Zg h.2 d⟩,P.sS.imp id λh=>⟨h.1,Zg h.2 d⟩,P.pS,P.p6,Zh P.sz d,⟨P.R.mem.same d λk _ c=>l k (P.Rc k c).2,λk c=>⟨by rw[l k (P.Rc k c).2];exact(P.R.row k c).1,(P.R.row k c).2⟩⟩,P.Rc,P.k⟩
theorem oI.call{E:Rk}(P:oI sft κ i p w w1 b B r K T x6)(d:w1.heap.size<=f.heap.size)(c:∀k,k<w1.heap.size->¬B.is r k->f.heap[k]?=w1.heap[k]?)(A:pt sft f B E)(C:wo o E)(hn:E.nD=r.nD):oI sft κ i p w f b B E o T x6:=by
 have c:∀k,k<w1.heap.size->(κ k≠1\/w.heap.size<=k)->f.heap[k]?=w1.heap[k]?:=λk L hc=>c k L λR=>by
  have:=P.Rc k R
  grind
 have l:=P.tk _ (af _);have s:=c _ P.rt.1.lt (.inl (sm P.rt.2.1));have u:∀k,Sn κ i p w w1 k->κ k≠1\/w.heap.size<=k:=λk h=>h.imp (λh=>sm h.2) (·.1);have v:∀g,T.L.ownBlock=J g->κ g≠1\/w.heap.size<=g:=λg e=>(P.Lc g e).2.1.imp (λh=>sm h.2) id;have t:=λG=>Zf (w:=w1) (w':=f) (a:=(O b.bt G Q)) s;exact⟨HC P.tk d (by rw[P.tb.1];exact s) (c _ l.fl.1 (u _ P.sF)) (c _ l.sl.1 (u _ P.sS)) λx=>c _ (l.lt x).2.1 (v _ (P.own x)),P.tb,P.kd,(t _).trans P.c3,(t _).trans P.c6,λq M=>(t _).trans (P.ot q M),⟨P.rt.1.of s,P.rt.2⟩,λk y z X h4=>(c k (Zg y P.sz) (.inl z)).trans (P.old k y z X h4),j5 P.L λg e=>c g (j8 P.L e).2 (v g e),P.Lc,P.sF.imp id λh=>⟨h.1,Zg h.2 d⟩,P.sS.imp id λh=>⟨h.1,Zg h.2 d⟩,P.pS,P.p6,Zh P.sz d,A,λj hj=>P.Rc j (by unfold RB.is at hj ⊢;grind),C⟩
theorem Jz:∀ {l:List (Int×Int)} {j:Nat} {x e:Int},l[j]?=J (x,e)->(ug l)[j*2]?=J (vi x)/\(ug l)[j*2+1]?=J (vi e)
 | y::l,0,x,e,h=>by cases Ze h;exact⟨Z,Z⟩
 | y::l,j+1,x,e,h=>by
  have:=Jz (l:=l) (j:=j) h;rw[show(j+1)*2=j*2+1+1 by omega];exact this
theorem PH{l:List (Int×Int)}(x e:Int):ug (l++[(x,e)])=ug l++[vi x,vi e]:=by simp[ug]
def Tk.more(T:Tk)(g c:Nat)(x e:Int):Tk:={ T with bL:=g,ad:=J (O g 0 Q),cap:=c,Ls:=T.Ls++[(x,e)] }
theorem oI.app{w2 w3:Wd}{g cap:Nat}{x e:Int}(P:oI sft κ i p w w1 b B r K T x6)(X:List Nat)(hX:sY w T X)(hm:T.Ls.length<7036874417568)(d:w2.ownsRow 0 147 2 (Sc (J (O g 0 Q)) (T.Ls.length+1) cap) (T.Ls.length+1) (ug T.Ls++[vi x,vi e]))(hz:w1.heap.size<=w2.heap.size)(hs:∀k,k<w1.heap.size->T.L.ownBlock≠J k->k≠b.bl->k∉X->w2.heap[k]?=w1.heap[k]?)(ho:w2.heap[b.bl]?=w1.heap[b.bl]?)(hg:T.L.ownBlock=J g\/w1.heap.size<=g)(p':sft g=0)(A:nC sft [b.bt] w2 w3)(r3:F7 sft w3 b.bt)(c3:w3.cell? (O b.bt (p*8+7) Q)=J (Sc (J (O g 0 Q)) (T.Ls.length+1) cap))(o3:∀q,q<p*8+7\/p*8+8<=q->w3.cell? (O b.bt q Q)=w2.cell? (O b.bt q Q)):oI sft κ i p w w3 b B r K (T.more g cap x e) x6:=by
 have hs:∀k,k<w1.heap.size->T.L.ownBlock≠J k->k∉X->w2.heap[k]?=w1.heap[k]?:=λk l hn hx=>by
  grind
 have h':∀k,k<w.heap.size->k∉X:=λk l h=>by have:=(hX k h).1;omega
 have t0:=P.tk _ (af _);have j':∀k,Sn κ i p w w1 k->k≠b.bt:=λk h e=>by
  subst e;rcases h with h|h
  .exact pI h.2 Za P.rt.2.1
  .have:=P.rt.2.2;omega
 have q':T.L.ownBlock≠J b.bt:=λh=>by
  rcases(P.Lc _ h).2.1 with q|q
  .exact pI q.2 Za P.rt.2.1
  .have:=P.rt.2.2;omega
 have r':g≠b.bt:=λe=>by
  rcases hg with h|h
  .grind
  .have:=P.rt.2.2;have:=P.sz;omega
 have et:=hs _ P.rt.1.lt q' (h' _ P.rt.2.2);have C:∀k,k<w1.heap.size->k≠b.bt->T.L.ownBlock≠J k->k∉X->w3.heap[k]?=w1.heap[k]?:=λk l y h2 L=>(A.old k (Zg l hz) (by simpa using y)).trans (hs k l h2 L);have k':=(j8 d (g:=g) Z).2;have eg:w3.heap[g]?=w2.heap[g]?:=A.old g k' (by simpa using r');have O3:w3.ownsRow 0 147 2 (Sc (J (O g 0 Q)) (T.Ls.length+1) cap) (T.Ls.length+1) (ug T.Ls++[vi x,vi e]):=j5 d λg' i'=>by
  obtain rfl:g=g':=Ze i';exact eg
 have s:w1.heap.size<=w3.heap.size:=Zh hz A.size;have ct:∀o,o<p*8+7\/p*8+8<=o->w3.cell? (O b.bt o Q)=w1.cell? (O b.bt o Q):=λo ho=>(o3 o ho).trans (Zf (w:=w1) (a:=(O b.bt o Q)) et);have l':∀k,Sn κ i p w w1 k->(k=T.gF\/k=T.gS)->T.L.ownBlock≠J k:=λk _ l h=>by
  have:=(P.Lc k h).2.2
  grind
 have ef:=C _ t0.fl.1 (j' _ P.sF) (l' _ P.sF (.inl Z)) λh=>(hX _ h).2.1 Z;have es:=C _ t0.sl.1 (j' _ P.sS) (l' _ P.sS (.inr Z)) λh=>(hX _ h).2.2.1 Z;have hL:T.Ls.length+1=(T.Ls++[(x,e)]).length:=by simp
 have o':∀k,Sn κ i p w w1 k->(k=T.gF\/k=T.gS)->g≠k:=λk l ho h=>by
  grind
 refine⟨λbW hb=>?_,P.tb,P.kd,(ct _ Za).trans P.c3,(ct _ Za).trans P.c6,λq hq=>(ct q Za).trans (P.ot q hq),⟨r3,P.rt.2⟩,λk y h2 L h4=>?_,?_,λg' i'=>?_,P.sF.imp id λh=>⟨h.1,Zg h.2 s⟩,P.sS.imp id λh=>⟨h.1,Zg h.2 s⟩,P.pS,P.p6,Zh P.sz s,⟨P.R.mem.same s λk l R=>?_,λk R=>?_⟩,P.Rc,P.k⟩
 .have f:=P.tk bW Za;let⟨q1,q2⟩:=P.tb;have z:∀j,j<7->w3.cell? (O T.bt (T.o+j) Q)=w1.cell? (O T.bt (T.o+j) Q):=λj u=>by grind
  refine⟨by show ∃c t,w3.heap[T.bt]?=_;rw[q1];exact r3.1,f.sf,f.ne,(z 0 Za).trans f.c0,(z 1 Za).trans f.c1,(z 2 Za).trans f.c2,(z 4 Za).trans f.c4,(z 5 Za).trans f.c5,?_,λ_=>⟨Z,Zg k' A.size,?_⟩,λj n' e' u=>?_,?_,⟨Zg f.fl.1 s,f.fl.2⟩,λj u=>(Zf (w:=w1) (a:=(O T.gF _ Q)) ef).trans (f.fs j u),⟨Zg f.sl.1 s,f.sl.2⟩,λj u q v hv=>(Zf (w:=w1) (a:=(O T.gS _ Q)) es).trans (f.ss j u q v hv),f.mL,f.nF,f.nS⟩
  .show w3.cell? (O T.bt (T.o+7) Q)=J (Sc (J (O g 0 Q)) (T.Ls++[(x,e)]).length cap)
   grind
  .show g≠bW
   grind
  .have hr:=Jz u;have G:ug (T.more g cap x e).Ls=ug T.Ls++[vi x,vi e]:=PH _ _;rw[G]at hr;have k1:=O3.cells (g:=g) Z _ _ hr.1;have k2:=O3.cells (g:=g) Z _ _ hr.2;rw[eG,aE]at k1 k2;exact⟨k1,k2⟩
  .show(T.Ls++[(x,e)]).length<=_
   grind
 .rw[C k (Zg y P.sz) (λe=>L (e▸P.rt.2.1)) (λh=>?_) (h' k y)]
  .exact P.old k y h2 L h4
  .rcases(P.Lc _ h).2.1 with q|q
   all_goals grind
 .show w3.ownsRow 0 _ 2 (Sc (J (O g 0 Q)) (T.Ls++[(x,e)]).length cap) (T.Ls++[(x,e)]).length (ug (T.Ls++[(x,e)]));rw[PH,←hL];exact O3
 .obtain rfl:g=g':=Ze i';refine⟨p',?_,o' _ P.sF (.inl Z),o' _ P.sS (.inr Z)⟩;rcases hg with h|h
  .exact(P.Lc _ h).2.1
  .exact .inr (Zh P.sz h)
 all_goals
  have M:=P.Rc k R
  have G:=C k (Zg M.2 P.sz) (λe=>by rw[e]at M;exact sm P.rt.2.1 M.1) (λh=>by
   rcases(P.Lc _ h).2.1 with q|q
   all_goals grind) (h' k M.2)
 .exact G
 .exact⟨by rw[G];exact(P.R.row k R).1,(P.R.row k R).2⟩
variable{f:bC}{k l:List bh}{C:Prop}
theorem zY(n N:Nat)(e:pB)(M:fx sft W ro w0 ρ m sz b' a w)(g:N=ρ.length)(o:fS ro N=true)(h:sr w ((ρ.drop ro).map (·.1)) ro sz n k ⟨m,b',N,e,True⟩=(l,⟨m',c',N+1,[],C⟩))(q:C)(s:∀c w' b,fx sft W ro w0 (ρ++[(b,0)]) m' sz c' c w'->Kq ρ w w'->w.heap.size<=b->iv V main true sft Stop (G ((aQ f).at c l) S) w'):iv V main true sft Stop (G ((aQ f).at a k) S) w :=
 sw n N e M.nm g h q λc w' b d=>by
  have j:=d.fresh (i:=ρ.length) (by rw[←g];exact mQ o) (af _) Zc;have t:nJ (ρ++[(b,0)]) ρ.length=(b,0):=ti ρ (b,0);rw[t]at j;exact s c w' b (M.rh d) d.kq j
theorem rS{i p:Nat}:pe i p c=true↔c=1\/c=cB i 1\/c=cB i 2\/c=cB i 3\/c=cB i (10+p)\/c=cB i (20+p):=by
 simp only[pe,cY,Nat.beq_eq,or_assoc]
def OE:List bh:=match Tryz.f22.body with
 | some (.seq _ (.seq _ (.seq _ (.seq _ (.seq _ (.seq _ (.seq _ (.seq _ (.seq _ (.seq (.seq _ c) d))))))))))=>[.code c,.code d]
 | _=>[]
variable{l c d:Int}
section
variable{a:Int}
theorem c1W(h:oh sft κ i w b B.b n F D N H)(hp:p<n)(P:oI sft κ i p w w1 b B r K T x6)(n3:pz T.Ls)(hm:T.Ls.length<7036874417568)(hc:qR T.K p T.kd T.A T.B false T.Ls=.inl (.call l a c d))(hl:-9223372036854775808<=l/\l<9223372036854775808){i':cZ}(M:fx sft (oN κ w.heap.size (pe i p)) 1 w [(b.bl,0)] (sR b B.b n) 123 (sP p b.bt) i' w1)(hx:∀i' L u g k' E,E.nD=r.nD->sY w (T.more g k' (i5 K p l a c d).n (i5 K p l a c d).e) [u]->oI sft κ i p w L b B E (i5 K p l a c d).K (T.more g k' (i5 K p l a c d).n (i5 K p l a c d).e) x6->fx sft (oN κ w.heap.size (pe i p)) 1 w [(b.bl,0),(u,0)] (sR b B.b n++[(1,0,.v i0),(1,1,.v i0),(1,2,.v i0),(1,3,.v i0),(1,4,.v (Bo true)),(1,5,.v i0),(1,6,ci (i5 K p l a c d).e)]) 123 ([(7,.c (.p 1 0)),(80,.c (.v (Bo ((i5 K p l a c d).e != 3))))]++sP p b.bt) i' L->iv V main true sft Stop (G ((aQ 22).at i' OE) (fr::S)) L):iv V main true sft Stop (G ((aQ 22).at i' F4) (fr::S)) w1:=by
 have n6:=h.n6;have K':b.bl∉oN κ w.heap.size (pe i p):=λhm=>by
  have:=rS.1 (A6.1 hm).2;rw[h.rl.2]at this;unfold cB at this;omega
 have X:∀ {ρ:ou} {m:Mem} {b':l9} {a:cZ} {wi:Wd},fx sft (oN κ w.heap.size (pe i p)) 1 w ρ m 123 b' a wi->wi.heap[b.bl]?=w.heap[b.bl]?:=λM=>M.old _ h.rl.1.lt K';have nl:∀k:Nat,k≠b.bl->∀j,j < [(b.bl,0)].length->(nJ [(b.bl,0)] j).1≠k:=λk v j A=>by
  obtain rfl:j=0:=Zm A;exact aA v
 refine p7 200 1 [] M Z Z mX λa2 w2 M2 q2=>?_;have P2:=P.move [] (by simp[sY]) h.rl.2 q2.size (λk v hn _=>q2.old k v (nl k hn)) ((X M2).trans (X M).symm);have hn:=N1 (main:=main) P2.tk n3 M2.fit (λk v=>M2.new k (Zh M2.size v)) P2.pS P2.kd;rw[P2.tb.1,P2.tb.2,hc]at hn;refine A4 M2 hn Z Z Z du Z Z Z Z Z λx w3 hq=>?_;obtain⟨L3,rfl⟩:=hq;have P3:=P2.move [] (by simp[sY]) h.rl.2 L3.size (λk v _ _=>L3.old k v Zc) (L3.old _ (Zg h.rl.1.lt M2.size) Zc);refine E3 (M2.still L3) 1 (.g [ci l,ci a,ci c,ci d,.v b0,.v i0,.v i0]) Z Z Z Z Z λa4 M4=>?_;refine zY 200 1 [] M4 Z Z Z mX λa5 L u M5 q5 f5=>?_;have P5:=P3.move [] (by simp[sY]) h.rl.2 q5.size (λk v hn _=>q5.old k v (nl k hn)) ((X M5).trans (X M4).symm);have M':w.heap.size<=u:=Zh P3.sz f5;have r':∀k,k<w.heap.size->k≠b.bl->∀j,j < [(b.bl,0),(u,0)].length->(nJ [(b.bl,0),(u,0)] j).1≠k:=λk v hn j A=>by
  have A:j<2:=A;obtain rfl|rfl:j=0\/j=1:=by omega
  .exact aA hn
  .show u≠k;omega
 have N':∀k,B.is r k->k≠b.bl:=λk v e=>by
  have:=(P.Rc k v).1;rw[e]at this;exact sm h.rl.2 this
 have s':∀ {w':Wd} {b':l9} {i':cZ},fx sft (oN κ w.heap.size (pe i p)) 1 w [(b.bl,0),(u,0)] (sR b B.b n++[(1,0,ci l),(1,1,ci a),(1,2,ci c),(1,3,ci d),(1,4,.v b0),(1,5,.v i0),(1,6,.v i0)]) 123 b' i' L->Fit sft w'->L.heap.size<=w'.heap.size->(∀j,j<L.heap.size->¬B.is r j->w'.heap[j]?=L.heap[j]?)->fx sft (oN κ w.heap.size (pe i p)) 1 w [(b.bl,0),(u,0)] (sR b B.b n++[(1,0,ci l),(1,1,ci a),(1,2,ci c),(1,3,ci d),(1,4,.v b0),(1,5,.v i0),(1,6,.v i0)]) 123 b' i' w':=λ{w' b' i'} M hf hz hs=>M.to hz (λj A=>hs _ (Q6 M A) λhB=>r' _ (P.Rc _ hB).2 (N' _ hB) j A Z) (λk h1 h2=>hs k (Zg h1 M.size) λhB=>h2 (A6.2 ⟨h1,rS.2 (.inl (P.Rc k hB).1)⟩)) hf;have l':=M5.nY 2 [0,1,6,7] [(0,0),(0,1),(0,2),(0,3),(1,0),(1,1),(1,2),(1,3),(1,4),(1,5),(1,6)] Z Z Z;refine uU [(9,J (.t [.c (ci (i5 K p l a c d).n),.c (ci (i5 K p l a c d).e)]))] [] false (λs xs R' w'=>R'=[(b.bl,0),(u,0)]/\((s=0/\w'=L)\/(s=1/\Fit sft w'/\L.heap.size<=w'.heap.size/\(∀j,j<L.heap.size->¬B.is r j->w'.heap[j]?=L.heap[j]?)/\∃E,pt sft w' B E/\Rel (i5 K p l a c d).K E/\E.nD=r.nD))) l' Z (λ_=>rfl) (λ_=>rfl) Z Zd mX (λs xs t' w' a' _ R h1 h2=>?_) ⟨Z,.inl ⟨Z,Z⟩⟩ (λs j g hs xs o a' w' t' rest ho R Ma rd hn=>?_) λxs t' a6 w6 R W' X'=>?_
 .obtain⟨e,R⟩:=R;obtain rfl:=Zk e;rcases R with⟨_,rfl⟩|⟨_,q1,q2,q3,_⟩
  .exact l'.bare h1 h2
  .exact(s' l' q1 q2 q3).bare h1 h2
 .obtain⟨e,R⟩:=R;obtain rfl:=Zk e
  cases s with
  | succ s=>simp at hs
  | zero =>
   obtain⟨rfl,rfl⟩:=ax (Ze hs);rcases R with⟨_,rfl⟩|⟨h,_⟩
   case inr=>cases h
   obtain rfl:=Ze ho;refine Cd (Kz Ma.fit P5.R P5.k p l a c d hl) Z Z Z gh Z Z ?_ λx w2 hq=>?_
   .have e1:=rd (.tmp 56) _ Z;have e2:=rd (.tmp 57) _ Z;have e3:=rd (.tmp 59) _ Z;have e4:=rd (.tmp 61) _ Z;simp only[dq,cX,eE,e1,e2,e3,e4];rfl
   .obtain⟨rfl,q1,q2,q3,q4⟩:=hq;exact hn [] w2 (J (.t [.c (ci (i5 K p l a c d).n),.c (ci (i5 K p l a c d).e)])) ⟨by simp,.inr ⟨Z,q2,q3,q4,q1⟩⟩ (.inr Z) (λsv h=>by obtain rfl:=Ze h;intro x hx;simp only[ae,aj,or_false]at hx;rcases hx with rfl|rfl<;>trivial)
 obtain⟨e,R⟩:=R;obtain rfl:=Zk e;rcases R with⟨h0,_⟩|⟨_,q1,q2,q3,E,q4,q5',q6⟩
 .cases h0
 have M6:=(s' l' q1 q2 q3).re W' X';have P6:=P5.call q2 q3 q4 ⟨q5',yQ P5.k.i p l a c d⟩ q6;generalize i5 K p l a c d=t at *;have n':u≠b.bt:=by have:=P.rt.2.2;omega
 have c7:w6.cell? (O b.bt (p*8+7) Q)=J T.L:=by
  have:=(P6.tk _ (af _)).c7;rw[P6.tb.1,P6.tb.2]at this;exact this
 refine p7 200 2 [[T.L]] M6 Z Z ⟨mX,⟨P6.rt.1.lt,by simp;exact λe=>n' e.symm,c7⟩⟩ λa7 w7 M7 q7=>?_;have mv:∀ {wi wj:Wd},Kq [(b.bl,0),(u,0)] wi wj->∀k,k<wi.heap.size->k≠b.bl->k∉[u]->wj.heap[k]?=wi.heap[k]?:=λq k v h1 h2=>q.old k v λj A=>by
  have A:j<2:=A;obtain rfl|rfl:j=0\/j=1:=by omega
  .exact aA h1
  .exact λe=>h2 (by simp;exact e.symm)
 have t3:=P3.tk _ (af _);have aw:sY w T [u]:=λx hx=>by
  obtain rfl:=Zi hx;have:=t3.fl.1;have:=t3.sl.1;exact⟨M',by omega,by omega,λh=>by have:=(j8 P3.L h).2;omega⟩
 have y:=P6.move [u] aw h.rl.2 q7.size (mv q7) ((X M7).trans (X M6).symm);have tcol:∀g,T.L.ownBlock=J g->g∈oN κ w.heap.size (pe i p)\/w.heap.size<=g:=λg z=>by
  rcases(y.Lc g z).2.1 with q|q
  .exact .inl (A6.2 ⟨q.1,rS.2 (by rw[q.2];simp)⟩)
  .exact .inr q
 refine Hv c7h M7 ⟨y.L,λg z=>(y.Lc g z).1,tcol,λg z j A=>?_⟩ (aW _) Za Zb Z Z Z Z Z Z Z Z Z Z Z Z Z λa8 w8 g k' c' L8 M8 hp8 O8 z=>?_
 .have A:j<2:=A;obtain rfl|rfl:j=0\/j=1:=by omega
  .intro e;have e:b.bl=g:=e;subst e;rcases(y.Lc _ z).2.1 with q|q
   .exact pI h.rl.2 Za q.2
   .have:=h.rl.1.lt;omega
  .exact λe=>(aw u Zc).2.2.2 (by rw[z];exact congrArg J e.symm)
 obtain rfl:=Ze hp8;refine p7 200 2 [] M8 Z Z mX λa9 w9 M9 q9=>?_;have o':T.L.ownBlock≠J b.bt:=λh'=>by
  rcases(y.Lc _ h').2.1 with q|q
  .exact pI q.2 Za P.rt.2.1
  .have:=P.rt.2.2;omega
 have p':∀k,k<w7.heap.size->T.L.ownBlock≠J k->k≠b.bl->k∉[u]->w9.heap[k]?=w7.heap[k]?:=λk v h1 h2 h3=>(mv q9 k (Zg v L8.size) h2 h3).trans (L8.old k v (by
  cases e:T.L.ownBlock with
  | none=>simp
  | some g=>rw[e]at h1;simp only[Option.toList_some,cz];exact λe'=>h1 (by rw[e'])))
 have q':g≠b.bl/\g≠u/\g≠b.bt:=by
  rcases z with z|z
  .refine⟨λe=>?_,λe=>(aw u Zc).2.2.2 (by rw[z,e]),λe=>o' (by rw[z,e])⟩;subst e;rcases(y.Lc _ z).2.1 with q|q
   .exact pI h.rl.2 Za q.2
   .have:=h.rl.1.lt;omega
  .have:=h.rl.1.lt;have:=y.sz;have:=P.rt.2.2;have:=Zg (Q6 M7 (i:=1) Zc) (af _);exact⟨by omega,λe=>by have:u<w7.heap.size:=this;omega,by omega⟩
 have gsz:=(j8 O8.row (g:=g) Z).2
 have O9:=j5 O8.row (w':=w9) (λg' hg'=>by
  obtain rfl:g=g':=Ze hg'
  exact mv q9 g gsz q'.1 (by simpa using q'.2.1))
 have rt9:=y.rt.1.of (p' _ y.rt.1.lt o' (p5 P.rt.2.1 h.rl.2 Za) (by simpa using aA n'));refine zl M9 Z Z Z Z Z Z Z Z Z rt9 (.inl (A6.2 ⟨P.rt.2.2,rS.2 (.inr (.inl P.rt.2.1))⟩)) (r' _ P.rt.2.2 (p5 P.rt.2.1 h.rl.2 Za)) (λq hq=>?_) λw10 L10 r10 c10 o10 B'=>?_
 .obtain rfl:q=0:=Zm hq;rw[Zf (w:=w7) (p' _ y.rt.1.lt o' (p5 P.rt.2.1 h.rl.2 Za) (by simpa using aA n'))];have:=(y.tk _ (af _)).c7;rw[y.tb.1,y.tb.2]at this;rw[jZ,this];rfl
 have P10:=y.app (w2:=w9) (w3:=w10) (g:=g) (cap:=k') (x:=t.n) (e:=t.e) [u] aw hm O9 (Zh L8.size q9.size) p' ((X M9).trans (X M7).symm) z (O8.sf g Z) L10 r10 (c10 0 _ Z) λq hq=>o10 q hq;refine p7 200 2 [] B' Z Z mX λa11 w11 C' D'=>?_;have E':sY w (T.more g k' t.n t.e) [u]:=λx hx=>by
  obtain rfl:=Zi hx;have:=aw x Zc;exact⟨this.1,this.2.1,this.2.2.1,λe=>q'.2.1 (Ze e)⟩
 have P11:=P10.move [u] E' h.rl.2 D'.size (mv D') ((X C').trans (X B').symm);exact hx a11 w11 u g k' E q6 E' P11 (C'.nY 2 [7,80,0,1,6] [(0,0),(0,1),(0,2),(0,3),(1,0),(1,1),(1,2),(1,3),(1,4),(1,5),(1,6)] Z Z Z)
end
def EX:List bh:=match Tryz.f22.body with
 | some (.seq _ (.seq _ (.seq _ (.seq _ (.seq _ (.seq _ (.seq _ (.seq _ (.seq _ (.seq _ (.seq (.seq _ c) d)))))))))))=>[.code c,.code d]
 | _=>[]
def Fc:List bh:=match Tryz.f22.body with
 | some (.seq _ (.seq _ (.seq _ (.seq _ (.seq _ (.seq _ (.seq _ (.seq _ (.seq _ (.seq _ (.seq (.seq _ (.cond _ (.seq _ (.seq _ (.seq _ e))) _)) d)))))))))))=>[.code e,.code d]
 | _=>[]
variable{W:Wd}{v e:Int}{C:Nat}{X:cZ}
abbrev tG(b:Rl)(I n:Nat)(v e:Int):Mem:=sR b I n++[(1,4,.v (Bo true)),(1,5,ci v),(1,6,ci e)]
theorem c5E(h:oh sft κ i w b B.b n F D N H)(hp:p<n)(P:oI sft κ i p w W b B r K T x6)(h7:sY w T [C])(M:fx sft (oN κ w.heap.size (pe i p)) 1 w [(b.bl,0),(C,0)] (tG b B.b n v e) 123 ([(7,.c (.p 1 0)),(85,.c (.v (Bo true)))]++sP p b.bt) X W)(hx:∀X A y',W.heap.size<=y'->W.heap.size<=A.heap.size->(∀k,k<W.heap.size->k≠b.bl->k≠b.bu->k≠C->A.heap[k]?=W.heap[k]?)->F7 sft A b.bu->(∀q,q<n->A.cell? (O b.bu q Q)=J (Bo (pd F p Q q).isSome))->fx sft (oN κ w.heap.size (pe i p)) 1 w [(b.bl,0),(C,0),(y',0)] (tG b B.b n v e++[(2,0,ci T.kd),(2,1,ci T.A),(2,2,ci T.B),(2,3,ci e),(2,4,ci (if e=0 then v else 0))]) 123 ([(7,.c (.p 1 0)),(10,.c (.p 2 0))]++sP p b.bt) X A->iv V main true sft Stop (G ((aQ 22).at X Fc) (fr::S)) A):iv V main true sft Stop (G ((aQ 22).at X EX) (fr::S)) W:=by
 have n6:=h.n6;have b7w:=(h7 C Zc).1;have h':=h.ru.1.lt;have S':∀k,k<w.heap.size->k≠b.bl->∀j,j < [(b.bl,0),(C,0)].length->(nJ [(b.bl,0),(C,0)] j).1≠k:=λk u hn j hj=>by
  have hj:j<2:=hj;obtain rfl|rfl:j=0\/j=1:=by omega
  .exact aA hn
  .show C≠k;omega
 have mv:∀ {wi wj:Wd},Kq [(b.bl,0),(C,0)] wi wj->∀k,k<wi.heap.size->k≠b.bl->k≠C->wj.heap[k]?=wi.heap[k]?:=λq k u y z=>q.old k u λj hj=>by
  have hj:j<2:=hj;obtain rfl|rfl:j=0\/j=1:=by omega
  .exact aA y
  .exact aA z
 have ul:=p5 h.ru.2 h.rl.2 Za;have s':b.bu≠C:=by omega
 have u5:W.heap[b.bu]?=w.heap[b.bu]?:=P.old _ h' (sm h.ru.2) (pI h.ru.2 Za) (pI h.ru.2 Za);refine nV M Z Z<|p7 200 2 [] M Z Z ⟨mX,by omega⟩ λa6 w6 M6 q6=>?_;have u6:w6.heap[b.bu]?=w.heap[b.bu]?:=(mv q6 _ (Zg h' P.sz) ul s').trans u5;have cu:=λo=>Zf (w:=w) (w':=w6) (a:=(O b.bu o Q)) u6;refine zl M6 Z Z Z Z Z Z Z Z Z (h.ru.1.of u6) (.inl (A6.2 ⟨h',rS.2 (by rw[h.ru.2];simp)⟩)) (S' _ h' ul) (λq hq=>?_) λw7 L7 r7 c7 o7 M7=>?_
 .obtain rfl:q=0:=Zm hq;rw[cu];simp[h.u p hp]
 refine p7 200 2 [] M7 Z Z mX λa8 t M8 q8=>?_;have i':∀k,k<W.heap.size->k<t.heap.size:=λk u=>by have:=q6.size;have:=L7.size;have:=q8.size;omega
 have o8:∀k,k<W.heap.size->k≠b.bl->k≠b.bu->k≠C->t.heap[k]?=W.heap[k]?:=λk u y z R=>by
  rw[mv q8 k (by have:=q6.size;have:=L7.size;omega) y R,L7.old k (by grind) (by simpa using z),mv q6 k u y R]
 have t8:t.heap[b.bt]?=W.heap[b.bt]?:=o8 _ P.rt.1.lt (p5 P.rt.2.1 h.rl.2 Za) (p5 P.rt.2.1 h.ru.2 Za) (by have:=P.rt.2.2;omega);have u8:t.heap[b.bu]?=w7.heap[b.bu]?:=mv q8 _ r7.lt ul s';have b7l:C<t.heap.size:=Q6 M8 (i:=1) Zc;have tk:=P.tk _ (af _);have kc:∀j v,[vi T.kd,vi T.A,vi T.B][j]?=J v->t.cell? (O b.bt (p*8+0+j) Q)=J v:=λj v hv=>by
  rw[Zf (w:=W) t8,jZ];have e0:=tk.c0;have e1:=tk.c1;have e2:=tk.c2;rw[P.tb.1,P.tb.2]at e0 e1 e2
  match j,hv with
  | 0,hv=>grind
  | 1,hv=>grind
  | 2,hv=>grind
 have t':=(M8.nY 2 [7,0,1,6] [(0,0),(0,1),(0,2),(0,3),(1,4),(1,5),(1,6)] Z Z Z).nm;generalize k':t.alloc (.cells #[i0,i0,i0,i0,i0] 92 (0,0))=A;have M9:∀ {a':cZ},a'.tmps.size=123->a'.defers=[]->fx sft [C] 1 t ([(b.bl,0),(C,0)]++[(t.heap.size,0)]) (tG b B.b n v e) 123 [] a' A:=λy z=>by
  rw[←k'];exact((t'.bare y z).alloc [.v i0,.v i0,.v i0,.v i0,.v i0] (by simp[nI.ok]) 92).fewer (λ_ h=>h) λe he=>.tail _ (.tail _ (.tail _ (.tail _ (.tail _ he))))
 have n9:A.heap[t.heap.size]?=J (.cells #[i0,i0,i0,i0,i0] 92 (0,0)):=by rw[←k'];exact cC _ _
 have s9:A.heap.size=t.heap.size+1:=by rw[←k'];simp
 have o9:∀k,k<t.heap.size->A.heap[k]?=t.heap[k]?:=λk u=>by rw[←k'];exact aJ _ _ k u
 have z9:sft t.heap.size=0:=M8.new _ M8.size;have E':∀ {w':Wd} {a':cZ},nC sft [t.heap.size] A w'->F7 sft w' t.heap.size->a'.tmps.size=123->a'.defers=[]->fx sft [C] 1 t ([(b.bl,0),(C,0)]++[(t.heap.size,0)]) (tG b B.b n v e) 123 [] a' w':=λ{w' a'} L hr y z=>by
  refine(M9 y z).upd L 2 Zb Zc (λj hj hne=>?_) (λk u=>.inr (by cases Zi u;grind)) hr.1 λe he=>.inl ⟨he,?_⟩
  .have hj:j<3:=hj;obtain rfl|rfl:j=0\/j=1:=by omega
   .show b.bl∉[t.heap.size];have:=i' _ (Zg h.rl.1.lt P.sz);simp;omega
   .show C∉[t.heap.size];simp;omega
  .simp only[tG,sR,cj,eP,ae,aj,or_false]at he;rcases he with rfl|rfl|rfl|rfl|rfl|rfl|rfl<;>simp
 refine uU [(7,J (.c (.p 2 0))),(8,Q)] [[vi T.kd,vi T.A,vi T.B]] false (λs xs u' w'=>(s=0/\u'=[(b.bl,0),(C,0)]/\w'=t)\/(s=1/\u'=[(b.bl,0),(C,0)]++[(t.heap.size,0)]/\w'=A)\/(s=2/\u'=[(b.bl,0),(C,0)]++[(t.heap.size,0)]/\nC sft [t.heap.size] A w'/\F7 sft w' t.heap.size/\w'.rangeAt t.heap.size 0 [vi T.kd,vi T.A,vi T.B,vi e,i0])) t' Z (λ_=>rfl) (λ_=>rfl) Z Zd ⟨mX,⟨by show b.bt<_;exact i' _ P.rt.1.lt,by show b.bt∉[C];have:=P.rt.2.2;simp;omega,kc⟩⟩ (λs xs F' w' a' _ hP y z=>?_) (.inl ⟨Z,Z,Z⟩) (λs j g hs xs o a' w' F' rest ho hP Ma rd hn=>?_) λxs F' a10 l' hP v' wf10=>?_
 .rcases hP with⟨_,e,rfl⟩|⟨_,e,rfl⟩|⟨_,e,L,hr,_⟩
  .cases Zk e;exact t'.bare y z
  .cases eC e;exact M9 y z
  .cases eC e;exact E' L hr y z
 .cases s with
  | zero =>
   obtain⟨rfl,rfl⟩:=ax (Ze hs);rcases hP with⟨_,e,rfl⟩|⟨h,_⟩|⟨h,_⟩
   case inr.inl=>cases h
   case inr.inr=>cases h
   cases Zk e;have hq:=Ze ho;have ra:=λd=>Dz (a:=a') (o:=o) (by rw[←hq];rfl) (X3 (t:=92) (row:=true) (z:=[i0,i0,i0,i0,i0]) Z) (λe=>by cases e) (w'.at d) #[];refine CV (ob:=.cells #[i0,i0,i0,i0,i0] 92 (0,0)) (v:=Po (J (O w'.heap.size 0 Q))) ho (by rw[←hq];rfl) (by show aV≠.early;decide) (λd=>?_) (λd=>congrArg Prod.snd (ra d)) mX ?_
   .have:=congrArg Prod.fst (ra d);rw[jf]at this;exact this
   .rw[k'];exact hn [(w'.heap.size,0)] A (J (.c (.p 2 0))) (.inr (.inl ⟨Z,by simp,Z⟩)) (.inr Z) (λsv h=>by cases Ze h;show 2<_;simp)
  | succ s =>
   cases s with
   | succ s=>simp at hs
   | zero =>
    obtain⟨rfl,rfl⟩:=ax (Ze hs);rcases hP with⟨h,_⟩|⟨_,he,rfl⟩|⟨h,_⟩
    case inl=>cases h
    case inr.inr=>cases h
    cases eC he;cases Ze ho;refine wS (b:=t.heap.size) (p:=0) (cells:=[vi T.kd,vi T.A,vi T.B,vi e,i0]) Ma.lv Z Z Z Z n9 z9 Ma.fit ((rd (.tmp 10) (.c (.p 2 0)) Z).trans Z) (rd _ _ Z) Z Z (λv hv=>?_) (λq hq=>?_) λw2 s1 s2 s3 s4 s5 s6=>?_
    .simp only[ae,aj,or_false]at hv;rcases hv with rfl|rfl|rfl|rfl|rfl<;>rfl
    .simp only[aC,n9]
     match q,hq with
     | 0,_=>rfl
     | 1,_=>rfl
     | 2,_=>rfl
     | 3,_=>rfl
     | 4,_=>rfl
    .exact hn [] w2 Q (.inr (.inr ⟨Z,by simp,⟨by omega,λk _ u=>s2 k (by simpa using u),s6⟩,⟨s3,z9⟩,λq v hv=>s4 q v hv⟩)) (.inl Z) λsv h=>by cases h
 .rcases hP with⟨h,_⟩|⟨h,_⟩|⟨_,he,p',r10,n'⟩
  .cases h
  .cases h
  cases eC he;have M11:=(E' p' r10 v'.size v'.defers).re v' wf10
  have M12:=M8.rh (M11.xu (m':=tG b B.b n v e++[(2,0,ci T.kd),(2,1,ci T.A),(2,2,ci T.B),(2,3,ci e),(2,4,.v i0)]) λx hm=>(by
   rcases bZ.1 hm with hm|hm
   .exact .inl hm
   .refine .inr ?_;simp only[ae,aj,or_false]at hm;rcases hm with rfl|rfl|rfl|rfl|rfl<;>refine⟨by simp,mX,?_⟩
    .exact n' 0 _ Z
    .exact n' 1 _ Z
    .exact n' 2 _ Z
    .exact n' 3 _ Z
    .exact n' 4 _ Z))
  have z10:=p'.size;have o10:∀k,k<W.heap.size->k≠b.bl->k≠b.bu->k≠C->l'.heap[k]?=W.heap[k]?:=λk u y z R=>by
   have:=i' k u;rw[p'.old k Za (by simp;omega),o9 k this,o8 k u y z R]
  have u10:l'.heap[b.bu]?=w7.heap[b.bu]?:=by
   have:=i' _ (Zg h' P.sz);rw[p'.old _ Za (by simp;omega),o9 _ this,u8]
  have q':∀ {wi wj:Wd},Kq [(b.bl,0),(C,0),(t.heap.size,0)] wi wj->∀k,k<wi.heap.size->k≠b.bl->k≠C->k≠t.heap.size->wj.heap[k]?=wi.heap[k]?:=λq k u y z R=>q.old k u λj hj=>by
   have hj:j<3:=hj;cases j,(Za:j<3) using iN
   .exact aA y
   .exact aA z
   .exact aA R
  have l5:W.heap.size<=t.heap.size:=by have:=q6.size;have:=L7.size;have:=q8.size;omega
  have M':∀ {X:cZ} {wf:Wd},l'.heap.size<=wf.heap.size->(∀k,k<l'.heap.size->k≠b.bl->k≠C->k≠t.heap.size->wf.heap[k]?=l'.heap[k]?)->fx sft (oN κ w.heap.size (pe i p)) 1 w [(b.bl,0),(C,0),(t.heap.size,0)] (tG b B.b n v e++[(2,0,ci T.kd),(2,1,ci T.A),(2,2,ci T.B),(2,3,ci e),(2,4,ci (if e=0 then v else 0))]) 123 ([(7,.c (.p 1 0)),(10,.c (.p 2 0))]++sP p b.bt) X wf->iv V main true sft Stop (G ((aQ 22).at X Fc) (fr::S)) wf:=λ{X wf} hz hs Mf=>by
   have uf:wf.heap[b.bu]?=w7.heap[b.bu]?:=(hs _ (by have:=i' _ (Zg h' P.sz);omega) ul s' (by have:=i' _ (Zg h' P.sz);omega)).trans u10;refine hx X wf t.heap.size l5 Za (λk u y z R=>?_) (r7.of uf) (λq hq=>?_) Mf
   .have:=i' k u;rw[hs k Za y R Za,o10 k u y z R]
   .rw[Zf (w:=w7) uf];unfold pd;split
    .next e=>subst e;simpa[nI.den] using c7 0 _ Z
    .next e=>rw[o7 q (by simp;omega),cu];exact h.u q hq
  refine p7 200 3 [] M12 Z Z mX λa13 w13 r' j'=>?_
  by_cases h0:e=0
  .refine nV r' Z (by simpa using h0)<|p7 200 3 [] r' Z Z mX λa14 w14 x' o'=>M' (Zh j'.size o'.size) (λk u y z R=>(q' o' k (Zg u j'.size) y z R).trans (q' j' k u y z R)) ?_;rw[mZ h0];exact x'.nY 3 [7,10,0,1,6] [(0,0),(0,1),(0,2),(0,3),(1,4),(1,5),(1,6),(2,0),(2,1),(2,2),(2,3),(2,4)] Z Z Z
  .refine nR r' Z (by simpa using h0)<|p7 200 3 [] r' Z Z mX λa14 w14 x' o'=>M' (Zh j'.size o'.size) (λk u y z R=>(q' o' k (Zg u j'.size) y z R).trans (q' j' k u y z R)) ?_;rw[mY h0];exact x'.nY 3 [7,10,0,1,6] [(0,0),(0,1),(0,2),(0,3),(1,4),(1,5),(1,6),(2,0),(2,1),(2,2),(2,3),(2,4)] Z Z Z
variable{I:Wd}{v1:Int}{d':Nat}
def Sj:List bh:=match Tryz.f22.body with
 | some (.seq _ (.seq _ (.seq _ (.seq _ (.seq _ (.seq _ (.seq _ (.seq _ (.seq _ (.seq _ (.seq _ d)))))))))))=>[.code d]
 | _=>[]
theorem WJ{L:Wd}{u o':Nat}{i':l9}{p':cZ}(h:oh sft κ i w b B.b n F D N H)(hp:p<n)(P:oI sft κ i p w W b B r K T x6)(b7w:w.heap.size<=C)(b10w:W.heap.size<=d')(z9:W.heap.size<=I.heap.size)(o9:∀k,k<W.heap.size->k≠b.bl->k≠b.bu->k≠C->I.heap[k]?=W.heap[k]?)(r9:F7 sft I b.bu)(u9:∀q,q<n->I.cell? (O b.bu q Q)=J (Bo (pd F p Q q).isSome))(M:fx sft (oN κ w.heap.size (pe i p)) 1 w [(b.bl,0),(C,0),(d',0)] (tG b B.b n v e++[(2,0,ci T.kd),(2,1,ci T.A),(2,2,ci T.B),(2,3,ci e),(2,4,ci v1)]) 123 ([(7,.c (.p 1 0)),(10,.c (.p 2 0))]++sP p b.bt) X I)(d9:I.heap[b.bd]?=w.heap[b.bd]?)(ol:∀u,(D p).ownBlock=J u->u<w.heap.size/\κ u=cB i (10+p)/\sft u=0)(om:∀k,k<I.heap.size->(D p).ownBlock≠J k->g.heap[k]?=I.heap[k]?)(t':g.ownsRow 0 92 5 (Sc (J (O u 0 Q)) (N p+1) o') (N p+1) (H p++oG T.kd T.A T.B e v1))(zm:I.heap.size<=g.heap.size)(og:(D p).ownBlock=J u\/I.heap.size<=u)(g0:sft u=0)(j':nC sft [b.bd] g L)(E':F7 sft L b.bd)(c11:L.cell? (O b.bd p Q)=J (Sc (J (O u 0 Q)) (N p+1) o'))(F':∀q,q≠p->L.cell? (O b.bd q Q)=g.cell? (O b.bd q Q))(lv:pK 123 (qh [(b.bl,0),(C,0),(d',0)] i') p')(wf:∀x∈i',x.2.ok 3)(h7:tC i' 7=J (.c (.p 1 0)))(hx:∀w' k' t,nC sft (oN κ w.heap.size (pe i p)) w w'->(∀k,k<w.heap.size->k' k=κ k)->(∀k,w.heap.size<=k->k' k=0\/k<w'.heap.size/\oW i (k' k))->pt sft w' B r->oh sft k' i w' b B.b n (pd F p Q) (nM D p t) (nM N p (N p+1)) (nM H p (H p++oG T.kd T.A T.B e v1))->iv V main true sft Stop (G (fr.finish (.tuple #[Bo true,vi 0])) S) w'):iv V main true sft Stop (G ((aQ 22).at p' Sj) (fr::S)) L:=by
 have n6:=h.n6;have P5:=P.sz;have q':=h.rd.1.lt;have u':(D p).ownBlock≠J b.bd:=λA=>pI (ol _ A).2.1 Za h.rd.2;have v':∀k,k<w.heap.size->k≠b.bl->∀j,j < [(b.bl,0),(C,0),(d',0)].length->(nJ [(b.bl,0),(C,0),(d',0)] j).1≠k:=λk z hn j R=>by
  have R:j<3:=R;cases j,(Za:j<3) using iN
  .exact aA hn
  .show C≠k;omega
  .show d'≠k;omega
 have s11:=j'.size;have s9:=M.size;have o:∀k,k<I.heap.size->(D p).ownBlock≠J k->k≠b.bd->L.heap[k]?=I.heap[k]?:=λk z h1 h2=>(j'.old k Za (by simpa using h2)).trans (om k z h1);have dl:=p5 h.rd.2 h.rl.2 Za;have x':∀k,(D p).ownBlock=J k->k≠b.bl:=λk A e=>pI (ol k A).2.1 (y:=0) Za (by rw[e];exact h.rl.2);have M':fx sft (oN κ w.heap.size (pe i p)) 1 w [(b.bl,0),(C,0),(d',0)] (tG b B.b n v e++[(2,0,ci T.kd),(2,1,ci T.A),(2,2,ci T.B),(2,3,ci e),(2,4,ci v1)]) 123 i' p' L:=(M.to Za (λj R=>o _ (Q6 M R) (λA=>v' _ (ol _ A).1 (x' _ A) j R Z) λe=>v' _ q' dl j R e) (λk z hn=>o k Za (λA=>hn (A6.2 ⟨z,rS.2 (by grind)⟩)) λe=>hn (A6.2 ⟨z,rS.2 (by rw[e,h.rd.2];simp)⟩)) j'.fit).re lv wf;have N':=M'.fewer (env':=[(7,.c (.p 1 0))]) (m':=[(1,4,.v (Bo true))]) (λx hx=>by cases Zi hx;exact wH h7) (λx hx=>by grind);refine p7 200 3 [] N' Z Z mX λa13 a' r' y'=>A9 r' iw Z Z Z ?_;have mv:∀k,k<L.heap.size->k≠b.bl->k≠C->k≠d'->a'.heap[k]?=L.heap[k]?:=λk z h1 h2 h3=>y'.old k z λj R=>by
  have R:j<3:=R;cases j,(Za:j<3) using iN
  .exact aA h1
  .exact aA h2
  .exact aA h3
 have l':∀k,k<w.heap.size->k≠b.bl->a'.heap[k]?=L.heap[k]?:=λk z h1=>mv k Za h1 Za Za;have Q':=(j8 t' (g:=u) Z).2;have s':u≠b.bl/\u≠C/\u≠d'/\u≠b.bd:=by
  have l7:C<I.heap.size:=Q6 M (i:=1) Zc;have l10:d'<I.heap.size:=Q6 M (i:=2) Zc;have ll:=h.rl.1.lt;rcases og with A|A
  .have:=(ol u A).1;exact⟨x' u A,by omega,by omega,λe=>u' (by rw[A,e])⟩
  .exact⟨by omega,by omega,by omega,by omega⟩
 have eg:a'.heap[u]?=g.heap[u]?:=(mv u Za s'.1 s'.2.1 s'.2.2.1).trans (j'.old u Q' (by grind));have z':=P.rt.2.2;have et:a'.heap[b.bt]?=W.heap[b.bt]?:=by
  have tl:=p5 P.rt.2.1 h.rl.2 Za;rw[l' _ z' tl,o _ Za (λA=>pI (ol _ A).2.1 Za P.rt.2.1) (p5 P.rt.2.1 h.rd.2 Za),o9 _ Za tl (p5 P.rt.2.1 h.ru.2 Za) Za]
 have ct:=λo=>Zf (w:=W) (w':=a') (a:=(O b.bt o Q)) et;have eu:a'.heap[b.bu]?=I.heap[b.bu]?:=by
  have:=h.ru.1.lt;rw[l' _ this (p5 h.ru.2 h.rl.2 Za),o _ Za (λA=>pI (ol _ A).2.1 Za h.ru.2) (p5 h.ru.2 h.rd.2 Za)]
 have ed:a'.heap[b.bd]?=L.heap[b.bd]?:=l' _ q' dl;have cd:=λo=>Zf (w:=L) (w':=a') (a:=(O b.bd o Q)) ed;have em:g.heap[b.bd]?=w.heap[b.bd]?:=(om _ Za u').trans d9;have tk:=P.tk _ (af _);have hB:∀k,B.is r k->a'.heap[k]?=W.heap[k]?:=λk z=>by
  let⟨c1,lt⟩:=P.Rc k z;have nl:∀ {y x:Nat},κ y=cB i x->k≠y:=λhy e=>sm hy (by grind);rw[l' k lt (nl h.rl.2),o k Za (λA=>sm (ol k A).2.1 c1) (nl h.rd.2),o9 k Za (nl h.rl.2) (nl h.ru.2) Za]
 have kk:∀k,k<w.heap.size->(if k<w.heap.size then κ k else if k=u then cB i (10+p) else 0)=κ k:=λk z=>mZ z
 refine hx a' (λk=>if k<w.heap.size then κ k else if k=u then cB i (10+p) else 0) (Sc (J (O u 0 Q)) (N p+1) o') r'.hJ kk (λk z=>(by
  show(if k<w.heap.size then κ k else if k=u then cB i (10+p) else 0)=0\/_/\oW i (if k<w.heap.size then κ k else if k=u then cB i (10+p) else 0);rw[mY Za]
  by_cases e:k=u
  .rw[mZ e];exact .inr ⟨by grind,rD Za⟩
  grind)) ⟨P.R.mem.same (by have:=y'.size;omega) λk _ z=>hB k z,λk z=>⟨by rw[hB k z];exact(P.R.row k z).1,(P.R.row k z).2⟩⟩ ?_
 refine h.next (p:=p) Za (λk z hI k1 k2 k3 k4 k5 _=>⟨kk k z,r'.old k z λhm=>?_⟩) ⟨P.rt.1.of et,(kk _ z').trans P.rt.2.1⟩ ⟨r9.of eu,(kk _ h.ru.1.lt).trans h.ru.2⟩ ⟨E'.of ed,(kk _ q').trans h.rd.2⟩ (λq hq=>(Zf (w:=I) (a:=(O b.bu q Q)) eu).trans (u9 q hq)) (λq hq=>?_) (λq j hq R h'=>(ct _).trans (P.ot _ Za)) (λj _ R=>?_) (λq hq h'=>⟨mY h',mY h',mY h',mY h'⟩) (λs _ hs=>?_) (λ_=>?_) λg' _ n'=>?_
 .have:=rS.1 (A6.1 hm).2;unfold oW at hI
  grind
 .rw[cd];unfold nM;split
  .grind
  .next e=>rw[F' q e,Zf (w:=w) em];exact h.d q hq
 .rw[ct];have e0:=tk.c0;have e1:=tk.c1;have e2:=tk.c2;have e4:=tk.c4;have e5:=tk.c5;have e7:=tk.c7;rw[P.tb.1,P.tb.2]at e0 e1 e2 e4 e5 e7
  match j,R with
  | 0,_=>grind
  | 1,_=>rw[e1];rfl
  | 2,_=>rw[e2];rfl
  | 3,_=>rw[P.c3];rfl
  | 4,_=>rw[e4];rfl
  | 5,_=>rw[e5];rfl
  | 6,_=>rw[P.c6];rfl
  | 7,_=>rw[e7];rfl
 .unfold pd at hs
  grind
 .simp only[nM,if_true];exact j5 t' λg' n'=>by obtain rfl:u=g':=Ze n';exact eg
 .simp only[nM,if_true]at n';obtain rfl:u=g':=Ze n';refine⟨?_,g0⟩;rcases og with A|A
  all_goals grind
theorem d0m(h:oh sft κ i w b B.b n F D N H)(hp:p<n)(hN:N p<=4398046511104)(P:oI sft κ i p w W b B r K T x6)(o':w.heap.size<=C)(p':W.heap.size<=d')(z9:W.heap.size<=I.heap.size)(o9:∀k,k<W.heap.size->k≠b.bl->k≠b.bu->k≠C->I.heap[k]?=W.heap[k]?)(r9:F7 sft I b.bu)(u9:∀q,q<n->I.cell? (O b.bu q Q)=J (Bo (pd F p Q q).isSome))(M:fx sft (oN κ w.heap.size (pe i p)) 1 w [(b.bl,0),(C,0),(d',0)] (tG b B.b n v e++[(2,0,ci T.kd),(2,1,ci T.A),(2,2,ci T.B),(2,3,ci e),(2,4,ci v1)]) 123 ([(7,.c (.p 1 0)),(10,.c (.p 2 0))]++sP p b.bt) X I)(hx:∀w' i' t,nC sft (oN κ w.heap.size (pe i p)) w w'->(∀k,k<w.heap.size->i' k=κ k)->(∀k,w.heap.size<=k->i' k=0\/k<w'.heap.size/\oW i (i' k))->pt sft w' B r->oh sft i' i w' b B.b n (pd F p Q) (nM D p t) (nM N p (N p+1)) (nM H p (H p++oG T.kd T.A T.B e v1))->iv V main true sft Stop (G (fr.finish (.tuple #[Bo true,vi 0])) S) w'):iv V main true sft Stop (G ((aQ 22).at X Fc) (fr::S)) I:=by
 have n6:=h.n6;have q':=h.rd.1.lt;have l':∀k,k<w.heap.size->κ k≠1->κ k≠cB i 0->κ k≠cB i 1->κ k≠cB i 2->κ k≠cB i (20+p)->I.heap[k]?=w.heap[k]?:=λk A h1 h0 h2 h3 h4=>by
  rw[o9 k (Zg A P.sz) (λe=>h0 (by rw[e];exact h.rl.2)) (λe=>h3 (by rw[e];exact h.ru.2)) Za,P.old k A h1 h2 h4]
 have d9:I.heap[b.bd]?=w.heap[b.bd]?:=l' _ q' (sm h.rd.2) (pI h.rd.2 Za) (pI h.rd.2 Za) (pI h.rd.2 Za) (pI h.rd.2 Za);have cd:=λo=>Zf (w:=w) (w':=I) (a:=(O b.bd o Q)) d9;have r':I.ownsRow 0 92 5 (D p) (N p) (H p):=j5 (h.own p hp) λg x=>by
  have hc:=(h.od p g hp x).1;exact l' g (j8 (h.own p hp) x).2 (sm hc) (pI hc Za) (pI hc Za) (pI hc Za) (pI hc Za)
 have ol:∀g,(D p).ownBlock=J g->g<w.heap.size/\κ g=cB i (10+p)/\sft g=0:=λg x=>⟨(j8 (h.own p hp) x).2,h.od p g hp x⟩
 have s':∀k,k<w.heap.size->k≠b.bl->∀j,j < [(b.bl,0),(C,0),(d',0)].length->(nJ [(b.bl,0),(C,0),(d',0)] j).1≠k:=λk A L j hj=>by
  have hj:j<3:=hj;have:=P.sz;cases j,(Za:j<3) using iN
  .exact aA L
  .show C≠k;omega
  .show d'≠k;omega
 have Mr:=M.nm.oZ (W':=[C,d']++(D p).ownBlock.toList) λk A=>fK _ A;generalize j':I.alloc (.cells (oG T.kd T.A T.B e v1).toArray 92 (0,0))=f';have h':nC sft [] I f':=by rw[←j'];exact nC.alloc M.fit _
 have t':f'.heap[I.heap.size]?=J (.cells (oG T.kd T.A T.B e v1).toArray 92 (0,0)):=by rw[←j'];exact cC _ _
 have s10:f'.heap.size=I.heap.size+1:=by rw[←j'];simp
 have k':=Mr.still h';have u':∀ {w':Wd} {g y:Nat},Pu sft f' w' (D p) (N p+1) (H p++oG T.kd T.A T.B e v1) g y->fx sft ([C,d']++(D p).ownBlock.toList) 1 I [(b.bl,0),(C,0),(d',0)] (tG b B.b n v e++[(2,0,ci T.kd),(2,1,ci T.A),(2,2,ci T.B),(2,3,ci e),(2,4,ci v1)]) 123 ([(7,.c (.p 1 0)),(10,.c (.p 2 0))]++sP p b.bt) X w':=λ{w' g y} u=>k'.to u.size (λj hj=>u.old _ (Q6 k' hj) λx=>s' _ (ol _ x).1 (λe=>pI (ol _ x).2.1 (y:=0) Za (by rw[e];exact h.rl.2)) j hj Z) (λk A L=>u.old k (Zg A k'.size) λx=>L (da _ (by rw[x];simp))) u.fit;refine uU [(13,Q),(14,Q),(16,Q)] [[D p]] true (λs xs v' w'=>v'=[(b.bl,0),(C,0),(d',0)]/\((s=0/\w'=I)\/(s=1/\w'=f'/\xs 0=J (.c (.v (Sc (J (O I.heap.size 0 Q)) 1 1))))\/(s=2/\∃g y,Pu sft f' w' (D p) (N p+1) (H p++oG T.kd T.A T.B e v1) g y/\xs 1=J (.c (.v (Sc (J (O g 0 Q)) (N p+1) y))))\/(s=3/\∃g y wm,Pu sft f' wm (D p) (N p+1) (H p++oG T.kd T.A T.B e v1) g y/\nC sft [b.bd] wm w'/\F7 sft w' b.bd/\w'.cell? (O b.bd p Q)=J (Sc (J (O g 0 Q)) (N p+1) y)/\∀q,q≠p->w'.cell? (O b.bd q Q)=wm.cell? (O b.bd q Q)))) Mr Z (λ_=>rfl) (λ_=>by kernel_rfl) Z Zd ⟨⟨⟨mX,by omega⟩,?_⟩,by omega⟩ (λs xs n' w' a' hls z h1 h2=>?_) ⟨Z,.inl ⟨Z,Z⟩⟩ (λs j g R xs o a' w' n' rest ho z Ma rd L=>?_) λxs n' a10 w11 z y' z'=>?_
 .refine⟨by grind,?_,by simpa using(cd p).trans (h.d p hp)⟩;show b.bd∉[C,d']++(D p).ownBlock.toList;have:=P.sz;intro hm;rcases bZ.1 hm with hm|hm
  .grind
  .cases ho:(D p).ownBlock with
   | none=>grind
   | some g =>
    rw[ho]at hm;obtain rfl:=Zi hm;exact pI (ol _ ho).2.1 Za h.rd.2
 .obtain⟨he,z⟩:=z;obtain rfl:=Zk he;rcases z with⟨_,rfl⟩|⟨_,rfl,_⟩|⟨_,g,y,u,_⟩|⟨rfl,_⟩
  .exact Mr.bare h1 h2
  .exact k'.bare h1 h2
  .exact(u' u).bare h1 h2
  grind
 .obtain⟨he,z⟩:=z;obtain rfl:=Zk he;have tw:w.heap.size<=I.heap.size:=M.size
  match s,R with
  | 0,R =>
   obtain⟨rfl,rfl⟩:=ax (Ze R);rcases z with⟨_,rfl⟩|⟨h,_⟩|⟨h,_⟩|⟨h,_⟩
   case inr.inl=>cases h
   case inr.inr.inl=>cases h
   case inr.inr.inr=>cases h
   obtain rfl:=Ze ho;refine Cx (cells:=oG T.kd T.A T.B e v1) DJ ⟨by simp[oG],by simp[oG]⟩ Z Z Z (rd _ _ Z) Z ?_;rw[j'];exact L [] f' (J (.c (.v (Sc (J (O w'.heap.size 0 Q)) 1 1)))) ⟨by simp,.inr (.inl ⟨Z,Z,Z⟩)⟩ (.inl Z) (λsv h=>by obtain rfl:=Ze h;trivial)
  | 1,R =>
   obtain⟨rfl,rfl⟩:=ax (Ze R);rcases z with⟨h,_⟩|⟨_,rfl,hx0⟩|⟨h,_⟩|⟨h,_⟩
   case inl=>cases h
   case inr.inr.inl=>cases h
   case inr.inr.inr=>cases h
   obtain rfl:=Ze ho;have A':∀g,(D p).ownBlock=J g->w'.heap[g]?=I.heap[g]?:=λg x=>h'.old g (by have:=(ol g x).1;omega) Zc;refine Ek (V:=D p) (cells:=oG T.kd T.A T.B e v1) DJ Z (λu hu=>?_) Za (Hi hN) Z Z Z (rd (.tmp 116) (.c (.v (D p))) Z) (rd (.tmp 118) _ hx0) t' (M.new _ M.size) (j5 r' A') (λg x=>(ol g x).2.2) (aW _) h'.fit (λk A=>M.new k Za) λg y w2 q1 q2 q3 q4 q5 q6=>?_
   .simp only[oG,ae,aj,or_false]at hu;rcases hu with rfl|rfl|rfl|rfl|rfl<;>rfl
   .exact L [] w2 (J (.c (.v (Sc (J (O g 0 Q)) (N p+1) y)))) ⟨by simp,.inr (.inr (.inl ⟨Z,g,y,⟨q1,q2,q3,q4,q5.imp_right (·.1),q6⟩,Z⟩))⟩ (.inl Z) (λsv h=>by obtain rfl:=Ze h;trivial)
  | 2,R =>
   obtain⟨rfl,rfl⟩:=ax (Ze R);rcases z with⟨h,_⟩|⟨h,_⟩|⟨_,g,y,u,K'⟩|⟨h,_⟩
   case inl=>cases h
   case inr.inl=>cases h
   case inr.inr.inr=>cases h
   obtain rfl:=Ze ho;have L':(D p).ownBlock≠J b.bd:=λx=>pI (ol _ x).2.1 Za h.rd.2;have dw:w'.heap[b.bd]?=w.heap[b.bd]?:=by rw[u.old _ Za L',h'.old _ Za Zc,d9]
   obtain⟨c0,t0,M'⟩:=(h.rd.1.of dw).1;refine wS (b:=b.bd) (p:=p) (cells:=[Sc (J (O g 0 Q)) (N p+1) y]) Ma.lv Z Z Z Z M' h.rd.1.2 Ma.fit ((rd (.tmp 120) _ Z).trans (by simp[Sv.den,nI.den])) (rd (.tmp 119) _ K') Z Z (λv hv=>?_) (λq hq=>?_) λw2 s1 s2 s3 s4 s5 s6=>?_
   .obtain rfl:=Zi hv;rfl
   .obtain rfl:q=0:=Zm hq;rw[Zf (w:=w) dw,jZ,h.d p hp];rfl
   .exact L [] w2 Q ⟨by simp,.inr (.inr (.inr ⟨Z,g,y,w',u,⟨by omega,λk _ A=>s2 k (by simpa using A),s6⟩,⟨s3,h.rd.1.2⟩,s4 0 _ Z,λq hq=>s5 q (by simp;omega)⟩))⟩ (.inl Z) (λsv h=>by cases h)
  | s+3,R=>simp at R
 .obtain⟨he,z⟩:=z;obtain rfl:=Zk he;rcases z with⟨h,_⟩|⟨h,_⟩|⟨h,_⟩|⟨_,g,y,wm,u,U',V',W',X'⟩
  .cases h
  .cases h
  .cases h
  exact WJ h hp P o' p' z9 o9 r9 u9 M d9 ol (λk A L=>by rw[u.old k Za L,h'.old k A Zc]) u.row (by have:=u.size;omega) (u.og.imp_right λh=>by omega) u.g0 U' V' W' X' y' z' Z hx
theorem Dk(h:oh sft κ i w b B.b n F D N H){ρ:ou}{m:Mem}{b':l9}(o:p<n)(M:fx sft (oN κ w.heap.size (pe i p)) 1 w ρ m 123 b' X g):g.heap[b.bl]?=w.heap[b.bl]?:=M.old _ h.rl.1.lt λj=>by
 have:=rS.1 (A6.1 j).2;rw[h.rl.2]at this
 grind
theorem oI.tp(P:oI sft κ i p w W b B r K T x6){j:Nat}(u:j<8):(W.cell? (O b.bt (p*8+j) Q)).isSome=true:=by
 have g:=P.tk _ (af _);have x:=g.c0;have h:=g.c1;have o:=g.c2;have q:=g.c4;have s:=g.c5;have t:=g.c7;rw[P.tb.1,P.tb.2]at x h o q s t
 match j,u with
 | 0,_=>grind
 | 1,_=>rw[h];rfl
 | 2,_=>rw[o];rfl
 | 3,_=>rw[P.c3];rfl
 | 4,_=>rw[q];rfl
 | 5,_=>rw[s];rfl
 | 6,_=>rw[P.c6];rfl
 | 7,_=>rw[t];rfl
theorem oI.step{g:Wd}(h:oh sft κ i w b B.b n F D N H)(o:p<n)(P:oI sft κ i p w W b B r K T x6)(t:sY w T [C]){m m':Mem}{b' c':l9}{u:cZ}{ρ x:ou}(M:fx sft (oN κ w.heap.size (pe i p)) 1 w ρ m 123 b' X W)(y:fx sft (oN κ w.heap.size (pe i p)) 1 w x m' 123 c' u g)(q:Kq [(b.bl,0),(C,0)] W g):oI sft κ i p w g b B r K T x6 :=
 P.move [C] t h.rl.2 q.size (λk z A L=>q.old k z λj s=>by
  have s:j<2:=s;obtain rfl|rfl:j=0\/j=1:=by omega
  .exact aA A
  .show C≠k
   grind) ((Dk h o y).trans (Dk h o M).symm)
theorem d1e(h:oh sft κ i w b B.b n F D N H)(y:p<n)(i':(F p).isSome=true)(P:oI sft κ i p w W b B r K T x6)(h7:sY w T [C])(M:fx sft (oN κ w.heap.size (pe i p)) 1 w [(b.bl,0),(C,0)] (sR b B.b n++[(1,4,.v b0)]) 123 ([(7,.c (.p 1 0)),(85,.c (.v (Bo false)))]++sP p b.bt) X W)(hx:∀w' x,nC sft (oN κ w.heap.size (pe i p)) w w'->(∀k,k<w.heap.size->x k=κ k)->(∀k,w.heap.size<=k->x k=0\/k<w'.heap.size/\oW i (x k))->pt sft w' B r->oh sft x i w' b B.b n (pd F p (J (.begun T))) D N H->iv V main true sft Stop (G (fr.finish (.tuple #[Bo false,vi 0])) S) w'):iv V main true sft Stop (G ((aQ 22).at X EX) (fr::S)) W:=by
 have n6:=h.n6;refine nR M Z Z<|p7 200 2 [] M Z Z mX λa6 A M6 q6=>?_;have o:=P.step h y h7 M M6 q6;refine A9 M6 iw Z Z Z ?_;generalize L:(λk=>if k<w.heap.size then κ k else if k=T.gF\/k=T.gS then cB i (30+p) else if T.L.ownBlock=J k then cB i (20+p) else 0)=x;have z:∀k,k<w.heap.size->x k=κ k:=λk h=>by grind
 have eu:A.heap[b.bu]?=w.heap[b.bu]?:=o.old _ h.ru.1.lt (sm h.ru.2) (pI h.ru.2 Za) (pI h.ru.2 Za);have ed:A.heap[b.bd]?=w.heap[b.bd]?:=o.old _ h.rd.1.lt (sm h.rd.2) (pI h.rd.2 Za) (pI h.rd.2 Za);have sn:∀k,Sn κ i p w A k->k=T.gF\/k=T.gS->x k=cB i (30+p):=λk R ho=>by
  rcases R with⟨lt,e⟩|⟨ge,_⟩
  all_goals grind
 have nk:∀k,w.heap.size<=k->x k=0\/k<A.heap.size/\oW i (x k):=λk h0=>by
  rw[←L];show(if _ then _ else _)=_\/_/\oW i (if _ then _ else _);rw[mY Za]
  by_cases e:k=T.gF\/k=T.gS
  .rw[mZ e];refine .inr ⟨?_,rD Za⟩;have t:=o.tk _ (af _);rcases e with e|e
   .rw[e];exact t.fl.1
   .rw[e];exact t.sl.1
  .rw[mY e]
   by_cases e2:T.L.ownBlock=J k
   .rw[mZ e2];exact .inr ⟨(j8 o.L e2).2,rD Za⟩
   grind
 refine hx A x M6.hJ z nk o.R (h.next (p:=p) Za (λk L hI k1 _ _ _ k5 _=>⟨z k L,o.old k L (λe=>by unfold oW at hI;omega) k1 k5⟩) ⟨o.rt.1,(z _ o.rt.2.2).trans o.rt.2.1⟩ ⟨h.ru.1.of eu,(z _ h.ru.1.lt).trans h.ru.2⟩ ⟨h.rd.1.of ed,(z _ h.rd.1.lt).trans h.rd.2⟩ (λq hq=>?_) (λq hq=>(Zf (w:=w) (a:=(O b.bd q Q)) ed).trans (h.d q hq)) (λq j hq hj h'=>o.ot _ Za) (λj _ hj=>o.tp hj) (λq hq h'=>⟨mY h',Z,Z,Z⟩) (λs _ R=>?_) (λ_=>j5 (h.own p y) λg u=>o.old g (j8 (h.own p y) u).2 (sm (h.od p g y u).1) (pI (h.od p g y u).1 Za) (pI (h.od p g y u).1 Za)) λg _ u=>⟨(z g (j8 (h.own p y) u).2).trans (h.od p g y u).1,(h.od p g y u).2⟩)
 .rw[Zf (w:=w) eu,h.u q hq];unfold pd
  grind
 .unfold pd at R;rw[mZ Z]at R;cases Ze R;refine⟨o.kd,o.tb.1,o.tb.2,o.c3,by rw[o.c6];rfl,o.tk,o.L,sn _ o.sF (.inl Z),sn _ o.sS (.inr Z),λg u=>⟨?_,(o.Lc g u).1⟩⟩;rcases(o.Lc g u).2.1 with⟨lt,e⟩|ge
  .exact(z _ lt).trans e
  .rw[←L];show(if _ then _ else _)=_;rw[mY Za,mY λh=>h.elim (o.Lc g u).2.2.1 (o.Lc g u).2.2.2,mZ u]
theorem Y1{g:Out}{Ls:List (Int×Int)}(h:oh sft κ i w b B.b n F D N H)(s:p<n)(j':(F p).isSome=true)(hN:N p<=4398046511104)(P:oI sft κ i p w W b B E g.K T x6)(hr:E.nD=r.nD)(hL:T.Ls=Ls++[(g.n,g.e)])(n3:pz Ls)(t:sY w T [C])(M:fx sft (oN κ w.heap.size (pe i p)) 1 w [(b.bl,0),(C,0)] (sR b B.b n++[(1,0,.v i0),(1,1,.v i0),(1,2,.v i0),(1,3,.v i0),(1,4,.v (Bo true)),(1,5,.v i0),(1,6,ci g.e)]) 123 ([(7,.c (.p 1 0)),(80,.c (.v (Bo (g.e != 3))))]++sP p b.bt) X W)(q:∀x w',zF sft κ i w b B r n F D N H p T.kd T.A T.B T.K Ls g x w'->iv V main true sft Stop (G (fr.finish x) S) w'):iv V main true sft Stop (G ((aQ 22).at X OE) (fr::S)) W:=by
 have k':=(t C Zc).1;have i':∀ {v e:Int} {X:cZ} {A:Wd},rH T.K p T.kd T.A T.B T.Ls g.e=J (if e=0 then v else 0,e)->oI sft κ i p w A b B E g.K T x6->fx sft (oN κ w.heap.size (pe i p)) 1 w [(b.bl,0),(C,0)] (tG b B.b n v e) 123 ([(7,.c (.p 1 0)),(85,.c (.v (Bo true)))]++sP p b.bt) X A->iv V main true sft Stop (G ((aQ 22).at X EX) (fr::S)) A:=λ{v e X A} ho P M =>
  c5E h s P t M λX I d' l' z9 o9 r9 u9 u=>d0m h s hN P k' l' z9 o9 r9 u9 u λw' h' j L k nk R RL=>q _ _ ⟨L,h',E,k,nk,R,P.k.u,hr,by
   grind⟩
 by_cases h3:g.e=3
 .refine nR M Z (by simp[h3])<|p7 200 2 [] M Z Z mX λa6 A o q6=>i' (v:=0) (e:=g.e) ?_ (P.step h s t M o q6) (o.nY 2 [7,85,0,1,6] [(0,0),(0,1),(0,2),(0,3),(1,4),(1,5),(1,6)] Z Z Z);unfold rH
  grind
 .refine nV M Z (by simp[h3])<|p7 200 2 [] M Z Z mX λa6 A o q6=>?_;have P6:=P.step h s t M o q6;have n':pz T.Ls:=λx q=>by
   rw[hL]at q;rcases bZ.1 q with q|q
   .exact n3 x q
   grind
  have hn:=N1 (main:=main) P6.tk n' o.fit (λk hk=>o.new k (Zh o.size hk)) P6.pS P6.kd;rw[P6.tb.1,P6.tb.2]at hn;refine A4 o hn Z Z Z du Z Z Z Z Z λx w7 y=>?_;let⟨L7,y⟩:=y;have P7:=P6.move [] (by simp[sY]) h.rl.2 L7.size (λk hk _ _=>L7.old k hk Zc) (L7.old _ (Zg h.rl.1.lt o.size) Zc);rcases hR:qR T.K p T.kd T.A T.B false T.Ls with nd|⟨z,go,o'⟩
  .rw[hR]at y
   cases nd with
   | done _ _=>exact y.elim
   | call l a c d =>
    cases y;refine E3 (o.still L7) 2 (.g [ci l,ci a,ci c,ci d,.v b0,.v i0,.v i0]) Z Z Z Z Z λa8 M8=>p7 200 2 [] M8 Z Z mX λa9 I u q9=>d1e h s j' (P7.step h s t M8 u q9) t (u.nY 2 [7,85,0,1,6] [(0,0),(0,1),(0,2),(0,3),(1,4)] Z Z Z) λw' h' L k nk R RL=>q _ _ ⟨L,h',E,k,nk,R,P.k.u,hr,?_⟩;have ho:rH T.K p T.kd T.A T.B T.Ls g.e=none:=by
     unfold rH yt Go.Proofs.YtcgabodkegcpgaaGreatDoor.M.then;rw[mY h3,hR]
    grind
  .rw[hR]at y;cases y;refine E3 (o.still L7) 2 (.g [.v i0,.v i0,.v i0,.v i0,.v (Bo true),ci z.1,ci z.2]) Z Z Z Z Z λa8 M8=>p7 200 2 [] M8 Z Z mX λa9 I u q9=>i' (v:=z.1) (e:=z.2) ?_ (P7.step h s t M8 u q9) (u.nY 2 [7,85,0,1,6] [(0,0),(0,1),(0,2),(0,3),(1,4),(1,5),(1,6)] Z Z Z);unfold rH yt Go.Proofs.YtcgabodkegcpgaaGreatDoor.M.then;rw[mY h3,hR]
def py.K0(K:aa):py->aa
 | .fresh _ _ _=>K
 | .begun T=>T.K
def py.kd:py->Int
 | .fresh k _ _=>k
 | .begun T=>T.kd
def py.A:py->Int
 | .fresh _ a _=>a
 | .begun T=>T.A
def py.nK:py->Int
 | .fresh _ _ b=>b
 | .begun T=>T.B
def py.Ls:py->List (Int×Int)
 | .fresh _ _ _=>[]
 | .begun T=>T.Ls
def Su:List bh:=match Tryz.f22.body with
 | some (.seq _ (.seq _ (.seq _ (.seq _ (.seq (.seq _ c) d)))))=>[.code c,.code d]
 | _=>[]
theorem pt.keep(R:pt sft w B r)(h:∀k,B.is r k->w'.heap[k]?=w.heap[k]?):pt sft w' B r:=⟨R.mem.wy λk _ g=>h k g,λk g=>⟨by rw[h k g];exact(R.row k g).1,(R.row k g).2⟩⟩
theorem pt.lt(R:pt sft w B r){k:Nat}(g:B.is r k):k<w.heap.size:=by
 let⟨⟨c,t,f,h⟩,_⟩:=R.row k g
 grind
theorem c5F{Bq:Int}(u:oh sft κ i w b B.b n F D N H)(hp:p<n)(ht:F p=J (.fresh h j Bq))(R:pt sft w B r)(Rc:∀s,B.is r s->κ s=1)(k:wo K r)(hF:1<=K.nF/\K.nF<=32)(hS:p<K.nS)(ew:∀k,k<w.heap.size->w1.heap[k]?=w.heap[k]?)(M:fx sft (oN κ w.heap.size (pe i p)) 1 w [(b.bl,0)] (sR b B.b n) 123 (sP p b.bt++[(37,.c (.v (Bo true)))]) X w1)(hx:∀X I T x6,T.K=K->T.kd=h->T.A=j->T.B=Bq->T.Ls=[]->oI sft κ i p w I b B r K T x6->fx sft (oN κ w.heap.size (pe i p)) 1 w [(b.bl,0)] (sR b B.b n) 123 (sP p b.bt) X I->iv V main true sft Stop (G ((aQ 22).at X F4) (fr::S)) I):iv V main true sft Stop (G ((aQ 22).at X Su) (fr::S)) w1:=by
 have n6:=u.n6;have h':=u.rt.1.lt;have tl:=p5 u.rt.2 u.rl.2 Za;have y:∀k:Nat,k≠b.bl->∀s,s < [(b.bl,0)].length->(nJ [(b.bl,0)] s).1≠k:=λk t s z=>by
  obtain rfl:s=0:=Zm z;exact aA t
 have tm:b.bt∈oN κ w.heap.size (pe i p):=A6.2 ⟨h',rS.2 (.inr (.inl u.rt.2))⟩;let⟨x',n'⟩:=u.tk p _ hp ht;refine nV M Z Z<|p7 200 1 [] M Z Z mX λa2 w2 M2 q2=>?_;have e2:∀k,k<w.heap.size->k≠b.bl->w2.heap[k]?=w.heap[k]?:=λk t hn=>(q2.old k (Zg t M.size) (y k hn)).trans (ew k t);have t2:=e2 _ h' tl;refine zl M2 Z Z Z Z Z Z Z Z Z (u.rt.1.of t2) (.inl tm) (y _ tl) (λq P=>?_) λw3 L3 r3 c3 o3 M3=>?_
 .obtain rfl:q=0:=Zm P;rw[Zf (w:=w) t2,n' 3 _ Z];rfl
 refine p7 200 1 [] M3 Z Z mX λa4 w4 L q4=>?_;have e4:∀k,k<w.heap.size->k≠b.bl->k≠b.bt->w4.heap[k]?=w.heap[k]?:=λk t hn ht=>by
  rw[q4.old k (Zg t M3.size) (y k hn),L3.old k (Zg t M2.size) (by simpa using ht),e2 k t hn]
 have eB:∀k,B.is r k->k≠b.bl/\k≠b.bt:=λk t=>⟨λe=>sm u.rl.2 (by rw[←e];exact Rc k t),λe=>sm u.rt.2 (by rw[←e];exact Rc k t)⟩
 have R4:pt sft w4 B r:=R.keep λk t=>e4 k (R.lt t) (eB k t).1 (eB k t).2;refine A4 L (Mz L.fit (λk t=>L.new k (Zh L.size t)) R4 k) Z Z Z Tryz.func45 Z Z Z Z Z λx W P=>?_;obtain⟨L5,bo,g,A,rfl,T5,g5⟩:=P;refine E3 (L.still L5) 1 (.g [.v (.slice (bo 0) K.nF (A 0)),.v (.slice (bo 1) K.nS (A 1)),.v (.slice (bo 2) K.nD (A 2))]) Z Z Z Z Z λa6 M6=>p7 200 1 [] M6 Z Z mX λa7 w7 M7 q7=>?_;have t4:w4.heap[b.bt]?=w3.heap[b.bt]?:=q4.old _ r3.lt (y _ tl);have t7:w7.heap[b.bt]?=w3.heap[b.bt]?:=by
  have:=Zg h' L.size;rw[q7.old _ (Zg this L5.size) (y _ tl),L5.old _ this Zc,t4]
 have j':=λo=>Zf (w:=w3) (w':=w7) (a:=(O b.bt o Q)) t7;have o':=λo=>Zf (w:=w) (w':=w2) (a:=(O b.bt o Q)) t2;have k':∀s v,s≠3->[vi h,vi j,vi Bq,b0,s0,s0,s0,s0][s]?=J v->w7.cell? (O b.bt (p*8+s) Q)=J v:=λs v z hv=>by
  rw[j',o3 _ (by simp;omega),o'];exact n' s v hv
 refine zl M7 Z Z Z Z Z Z Z Z Z (r3.of t7) (.inl tm) (y _ tl) (λq P=>?_) λw8 L8 r8 c8 o8 M8=>?_
 .have P:q<3:=P;cases q,(Za:q<3) using iN
  .rw[k' 4 _ Za Z];rfl
  .rw[show p*8+4+1=p*8+5 by omega,k' 5 _ Za Z];rfl
  .rw[show p*8+4+2=p*8+6 by omega,k' 6 _ Za Z];rfl
 refine p7 1 1 [] M8 Z Z mX λa9 I M9 q9=>?_;have t9:I.heap[b.bt]?=w8.heap[b.bt]?:=q9.old _ r8.lt (y _ tl);have l':=λo=>Zf (w:=w8) (w':=I) (a:=(O b.bt o Q)) t9;have i':∀s v,s≠3->s≠4->s≠5->s≠6->[vi h,vi j,vi Bq,b0,s0,s0,s0,s0][s]?=J v->I.cell? (O b.bt (p*8+s) Q)=J v:=λs v h3 h4 h5 h6 hv=>by
  grind
 let⟨K',f0,x0⟩:=T5 0 Za (by simp[qx];omega);let⟨N',f1,x1⟩:=T5 1 Za (by simp[qx];omega);have g0w:=g5 0 Za (by simp[qx];omega);have g1w:=g5 1 Za (by simp[qx];omega);have s5:=Zh L.size L5.size;have s9:W.heap.size<=I.heap.size:=by have:=q7.size;have:=L8.size;have:=q9.size;omega
 have q':∀k,w.heap.size<=k->k<W.heap.size->I.heap[k]?=W.heap[k]?:=λk h1 h2=>by
  have hl:=u.rl.1.lt;rw[q9.old k (by have:=q7.size;have:=L8.size;omega) (y k Za),L8.old k (by have:=q7.size;omega) (by simp;omega),q7.old k h2 (y k Za)]
 have w04:=L.size;have R':=q' (g 0) Za f0;have S':=q' (g 1) Za f1;have cc:∀q c,[nI.v (.slice (bo 0) K.nF (A 0)),.v (.slice (bo 1) K.nS (A 1)),.v (.slice (bo 2) K.nD (A 2))][q]?=J c->I.cell? (O b.bt (p*8+4+q) Q)=J (c.den [(b.bl,0)]):=λq c hc=>(l' _).trans (c8 q c hc);refine hx a9 I ⟨b.bt,p*8,h,j,Bq,K,g 0,A 0,g 1,A 1,0,Q,0,[]⟩ (.slice (bo 2) K.nD (A 2)) Z Z Z Z Z ⟨λbb hb=>?_,⟨Z,Z⟩,x',?_,?_,λq P=>?_,⟨r8.of t9,u.rt.2,h'⟩,λk h1 h2 h3 h4=>?_,?_,λg' U'=>(by cases U'),.inr ⟨by grind,by show g 0<_;omega⟩,.inr ⟨by grind,by show g 1<_;omega⟩,hS,by omega,M9.size,?_,λs z=>⟨Rc s z,R.lt z⟩,k⟩ (M9.nY 1 [0,1,6] [(0,0),(0,1),(0,2),(0,3)] Z Z Z)
 .refine⟨(r8.of t9).1,u.rt.1.2,by grind,i' 0 _ Za Za Za Za Z,i' 1 _ Za Za Za Za Z,i' 2 _ Za Za Za Za Z,?_,?_,i' 7 _ Za Za Za Za Z,λV'=>absurd Z V',λs n e z=>(by cases z),by simp,⟨by show g 0<_;omega,by grind⟩,λs z=>?_,⟨by show g 1<_;omega,by grind⟩,λs z q v hv=>?_,k.i.mL,hF.2,k.i.hS⟩
  .have:=cc 0 _ Z;rw[K']at this;exact this
  .have:=cc 1 _ Z;rw[N']at this;exact this
  .refine(Zf (w:=W) R').trans ((x0 s z 0 (U9 K (s*6+0)) Z).trans ?_);unfold U9;rw[show(s*6+0) / 6=s by omega,show(s*6+0)%6=0 by omega]
  .refine(Zf (w:=W) S').trans (x1 s z q v ?_);rw[←EF]at hv;exact hv
 .rw[l',o8 _ Zc,j'];simpa[nI.den] using c3 0 _ Z
 .exact cc 2 _ Z
 .rw[l',o8 q (by simp;omega),j',o3 q (by simp;omega),o']
 .by_cases e:k=b.bl
  .subst e;exact Dk u hp M9
  .rw[q9.old k (by have:=L8.size;have:=M7.size;omega) (y k e),L8.old k (by have:=M7.size;omega) (by simp;exact λe=>h3 (e▸u.rt.2)),q7.old k Za (y k e),L5.old k Za Zc,e4 k h1 e λe=>h3 (e▸u.rt.2)]
 .exact dc _ _ _ _
 .refine R4.keep λk t=>?_;have lt:=R.lt t;rw[q9.old k (by have:=L8.size;have:=M7.size;omega) (y k (eB k t).1),L8.old k (by have:=M7.size;omega) (by grind),q7.old k Za (y k (eB k t).1),L5.old k Za Zc]
theorem FN(h:oh sft κ i w b B.b n F D N H)(l':Fit sft w)(n':∀k,w.heap.size<=k->sft k=0)(R:pt sft w B r)(Rc:∀j,B.is r j->κ j=1)(k:wo K r)(hF:1<=K.nF/\K.nF<=32)(s:Int)(hc:∀(p:Nat) t,s=p->p<n->F p=J t->p<(t.K0 K).nS/\N p<=4398046511104/\pz t.Ls/\t.Ls.length<7036874417568/\∃l a c d,qR (t.K0 K) p t.kd t.A t.nK false t.Ls=.inl (.call l a c d)/\-9223372036854775808<=l/\l<9223372036854775808) :
  oL main sft 22 #[Po (J (O b.bl 0 Q)),vi s] w λx w'=>(oE s n=false/\x=.tuple #[Bo false,vi 3]/\nC sft [] w w')\/∃p:Nat,s=p/\p<n/\((F p=Q/\x=.tuple #[Bo false,vi 11]/\nC sft [] w w')\/∃t l a c d,F p=J t/\qR (t.K0 K) p t.kd t.A t.nK false t.Ls=.inl (.call l a c d)/\zF sft κ i w b B r n F D N H p t.kd t.A t.nK (t.K0 K) t.Ls (i5 K p l a c d) x w'):=by
 refine y7 (sz:=123) (ρ:=[(b.bl,0)]) [.c (.p 0 0),.c (ci s)] (h.oG l' n' []) (λs hs=>?_) iw Z Z Z λStop fr S X M hx=>?_
 .simp only[ae,aj,or_false]at hs;rcases hs with rfl|rfl<;>first|trivial|exact eH
 refine ia 100 1 [] M Z Z mX λa1 w1 M1=>A4 M1 (DO M1.fit s n) Z Z Z fZ Z Z Z Z Z λx w2 hq=>?_;obtain⟨rfl,L2⟩:=hq;refine E3 (M1.still L2) 1 (.c (.v (Bo (oE s n)))) Z Z Z Z Z λa3 M3=>ia 100 1 [] M3 Z Z mX λa4 w4 M4=>?_
 cases hb:oE s n with
 | false =>
  refine nV M4 Z (by rw[hb];rfl)<|ia 100 1 [] M4 Z Z mX λa5 W M5=>A9 M5 iw Z Z Z<|hx _ _ (.inl ⟨hb,Z,M5.hJ⟩)
 | true =>
  refine nR M4 Z (by rw[hb];rfl) ?_;simp only[oE,aB,decide_eq_true_eq]at hb;obtain⟨p,rfl⟩:=cT hb.1;have u:p<n:=by omega
  refine ia 100 1 [[Bo (F p).isSome]] M4 Z Z ⟨⟨mX,by omega⟩,⟨h.ru.1.lt,by simp,by simpa using h.u p u⟩⟩ λa5 W M5=>?_
  cases y:F p with
  | none =>
   refine nV M5 Z (by rw[y];rfl)<|ia 100 1 [] M5 Z Z mX λa6 w6 z=>A9 z iw Z Z Z<|hx _ _ (.inr ⟨p,Z,u,.inl ⟨y,Z,z.hJ⟩⟩)
  | some t =>
   let⟨hS,hN,n3,hm,l,a,c,d,j',hl⟩:=hc p t Z u y;have o':(F p).isSome=true:=by rw[y];rfl
   refine nR M5 Z (by rw[y];rfl) ?_;have k':∀ {X:cZ} {I:Wd} {T:Tk} {x6:Vu},T.K=t.K0 K->T.kd=t.kd->T.A=t.A->T.B=t.nK->T.Ls=t.Ls->oI sft κ i p w I b B r K T x6->fx sft (oN κ w.heap.size (pe i p)) 1 w [(b.bl,0)] (sR b B.b n) 123 (sP p b.bt) X I->iv V main true sft Stop (G ((aQ 22).at X F4) (fr::S)) I:=λ{X I T x6} e1 e2 e3 e4 e5 P M=>by
    refine c1W h u P (by rw[e5];exact n3) (by rw[e5];exact hm) (by rw[e1,e2,e3,e4,e5];exact j') hl M λX W C g L' E hr aw P M=>Y1 (Ls:=t.Ls) h u o' hN P hr (by show T.Ls++_=_;rw[e5]) n3 aw M λx w' hP=>hx _ _ (.inr ⟨p,Z,u,.inr ⟨t,l,a,c,d,y,j',?_⟩⟩);rw[←e1,←e2,←e3,←e4];exact hP
   cases t with
   | fresh kd A Bq =>
    have r':=(h.tk p _ u y).2;refine ia 100 1 [[b0]] M5 Z Z ⟨⟨mX,by omega⟩,⟨h.rt.1.lt,by simp,by simpa using r' 3 _ Z⟩⟩ λa6 w6 z=>?_;have M7:=(z.alias 6 _ (.c (.v (Po (J (O b.bt (p*8) Q))))) Z Z (by simp[Sv.den,nI.den]) Z Z).oZ (W':=oN κ w.heap.size (pe i p)) Zc;exact c5F h u y R Rc k hF hS (λk hk=>z.old k hk Zc) (M7.nY 1 [0,1,6,37] [(0,0),(0,1),(0,2),(0,3)] Z Z Z) λX I T x6 e1 e2 e3 e4 e5 P M=>k' e1 e2 e3 e4 e5 P M
   | begun T =>
    let⟨q1,q2,q3,q4,q5,q6,q7,q8,q9,i'⟩:=h.tk p _ u y;refine ia 100 1 [[Bo true]] M5 Z Z ⟨⟨mX,by omega⟩,⟨h.rt.1.lt,by simp,by simpa using q4⟩⟩ λa6 w6 z=>?_;have M7:=(z.alias 6 _ (.c (.v (Po (J (O b.bt (p*8) Q))))) Z Z (by simp[Sv.den,nI.den]) Z Z).oZ (W':=oN κ w.heap.size (pe i p)) Zc;refine nR M7 Z Z<|p7 1 1 [] M7 Z Z mX λa8 w8 M8 v'=>?_;have L:∀k,k<w.heap.size->w8.heap[k]?=w.heap[k]?:=λk hk=>by
     by_cases e:k=b.bl
     .subst e;exact Dk h u M8
     .rw[v'.old k (Zg hk z.size) (λj hj=>by obtain rfl:j=0:=Zm hj;exact aA e),z.old k hk Zc]
    let⟨x6,x'⟩:=cH.1 q5;have t0:=q6 _ (af _);have ct:=λo=>Zf (w:=w) (w':=w8) (a:=(O b.bt o Q)) (L _ h.rt.1.lt);have nL:∀g,T.L.ownBlock=J g->g≠T.gF/\g≠T.gS:=λg hg=>⟨λe=>pI (i' g hg).1 (y:=30+p) (by have:=h.n6;omega) (by rw[e];exact q8),λe=>pI (i' g hg).1 (y:=30+p) (by have:=h.n6;omega) (by rw[e];exact q9)⟩
    refine k' (T:=T) (x6:=x6) Z Z Z Z Z ⟨HC q6 M8.size (by rw[q2];exact L _ h.rt.1.lt) (L _ t0.fl.1) (L _ t0.sl.1) λA'=>L _ (t0.lt A').2.1,⟨q2,q3⟩,q1,(ct _).trans q4,(ct _).trans x',λq _=>ct q,⟨h.rt.1.of (L _ h.rt.1.lt),h.rt.2,h.rt.1.lt⟩,λk h1 _ _ _=>L k h1,j5 q7 λg hg=>L g (j8 q7 hg).2,λg hg=>⟨(i' g hg).2,.inl ⟨(j8 q7 hg).2,(i' g hg).1⟩,nL g hg⟩,.inl ⟨t0.fl.1,q8⟩,.inl ⟨t0.sl.1,q9⟩,hS,by have:=h.n6;omega,M8.size,R.keep λk hk=>L k (R.lt hk),λj hj=>⟨Rc j hj,R.lt hj⟩,k⟩ (M8.nY 1 [0,1,6] [(0,0),(0,1),(0,2),(0,3)] Z Z Z)
end
section
open Go.Conc
def Yh:List bh:=match Tryz.f24.body with
 | some (.seq _ (.block b (.loop (.seq x (.seq y z)))))=>[.code y,.code z,.inLoop (.seq x (.seq y z)),.inBlock b]
 | _=>[]
variable{kb:Kb}{l:List ng}{K:aa}{L:Nat->Option Lv}{r:Nat}{F:Nat->Option eZ}{nG:Nat}{w w':Wd}{Final:gW->lT->Prop}{b:Lb}{n P:Nat}{y U':Nat->Option ng}{I:Nat->Vu}{N:Nat->Nat}{R:Nat->List Vu}
theorem Mt(j:Co kb l K L r F nG w)(a:oQ kb l L w b n P y I N R)(d:w.heap.size<=w'.heap.size)(g:∀k,k<w.heap.size->k≠b.bu->w'.heap[k]?=w.heap[k]?)(m:px w' b.bu n λq=>rQ (U' q))(p:∀q,q<n->∀o,U' q=J o->∃v,L o.gid=J v/\v.C.o=o/\v.C.slot=q):Co kb l K L r F nG w'/\oD kb l L w' b n P U' I N R:=by
 let⟨s,z,t,A,B,C⟩:=a.is.ne;have c:=λo=>Zf (w:=w) (w':=w') (a:=(O b.bl o Q)) (g _ a.qt.mn.lt s);exact⟨j.wrote d mX λk u h=>g k u λe=>h (e▸a.qo),⟨⟨⟨(c 0).trans a.is.k0,(c 1).trans a.is.k1,(c 2).trans a.is.k2,m,a.is.d.of (g _ a.is.d.lt (aA t)),λq f=>j5 (a.is.own q f) λx i=>g x (j8 (a.is.own q f) i).2 (by have:=(j8 (a.is.own q f) i).1;omega),a.is.pC,a.is.ne,a.is.small⟩,a.qt.grow d,a.qo.grow d,a.qU.grow d,λq f x i=>(a.qJ q f x i).grow d,a.b0⟩,p⟩⟩
abbrev Xy(a c n i:Nat):l9:=[(0,.c (.v (Po (J (O a 0 Q))))),(7,.c (.v (Sc (J (O c 0 Q)) n n))),(8,.c (.v (Y U n))),(9,.c (.v (Y U i))),(10,.c (.v (Bo (decide ((i:Int)<n)))))]
theorem Rp(h:px w b.bu n (λq=>if q=a then Po Q else rQ (y q))):px w b.bu n (λq=>rQ (pW y a q)):=by
 let⟨c,t,d,f,g⟩:=h;refine⟨c,t,d,f,λq i=>(g q i).trans ?_⟩;unfold pW
 by_cases e:q=a
 .simp[e,rQ]
 .simp[e]
theorem b4B(fr:Fm')(cs:List Fm')(L0:Nat->Option Lv)(U0:Nat->Option ng)(w0:Wd)(hx:∀L' z w',Co kb l K L' r z nG w'->oD kb l L' w' b n P (λ_=>Q) I N R->(∀k,Mn kb L0 w0 k->k≠b.bu->Mn kb L' w' k/\w'.heap[k]?=w0.heap[k]?)->((∀g v,L' g=J v->L0 g=J v/\∀p,p<n->U0 p≠J v.C.o)/\(∀g v,L0 g=J v->(∀p,p<n->U0 p≠J v.C.o)->L' g=J v))->X V Final l z nG 0 (G (fr.finish (.tuple #[])) cs) w') :
  ∀(f i:Nat),i+f=n->∀(y:Nat->Option ng) (L:Nat->Option Lv) (F:Nat->Option eZ) (w:Wd) (a:cZ),Co kb l K L r F nG w->oD kb l L w b n P y I N R->(∀q,q<i->y q=Q)->(∀q,i<=q->y q=U0 q)->(∀k,Mn kb L0 w0 k->k≠b.bu->Mn kb L w k/\w.heap[k]?=w0.heap[k]?)->((∀g v,L g=J v->L0 g=J v/\∀p,p<i->U0 p≠J v.C.o)/\∀g v,L0 g=J v->(∀p,p<i->U0 p≠J v.C.o)->L g=J v)->fx (ep l) [] 0 w [] [] 25 (Xy b.bl b.bu n i) a w ->
  iv V true true (ep l) (X V Final l F nG 0) (G ((aQ 24).at a Yh) (fr::cs)) w:=by
 intro f
 induction f with
 | zero =>
  intro i hi y L F w a co A k' e' j H M;obtain rfl:i=n:=by omega
  refine nR M Z (decide_eq_false Za)<|ia 200 0 [] M Z Z mX λa1 w1 S=>EH S mD Z Z Z λd=>.stop ?_;have g:=S.hJ.grown.at d;have m:=A.grown g;refine hx L F _ (co.grown g) ⟨⟨⟨m.m.is.k0,m.m.is.k1,m.m.is.k2,?_,m.m.is.d,m.m.is.own,m.m.is.pC,m.m.is.ne,m.m.is.small⟩,m.m.qt,m.m.qo,m.m.qU,m.m.qJ,m.m.b0⟩,λq _ o h=>by cases h⟩ (λk h1 T=>?_) H
  .let⟨c,t,a1,a2,a3⟩:=m.m.is.u;exact⟨c,t,a1,a2,λq s=>by rw[a3 q s];simp only[k' q s]⟩
  .let⟨W,m2⟩:=j k h1 T;exact⟨W.grow g.size,(g.old k W.lt).trans m2⟩
 | succ f ih =>
  intro i hi y L F w a co A k' e' j H M;have m':i<n:=by omega
  have nsm:=A.m.is.small;have cu:=A.m.is.u.cell m';have e2:=C7 (n:=i) Za;refine nV M Z (decide_eq_true Za) ?_
  cases hU:y i with
  | none =>
   rw[hU]at cu;refine ia 200 0 [[Po Q]] M Z Z ⟨⟨mX,by omega⟩,⟨A.m.is.u.lt,by simp,by simpa[rQ] using cu⟩⟩ λa1 w1 S=>vD (op:=.binOp .neq 133 (.tmp 14) (.const (Po Q)) 133) (.c (.v (Bo false))) S Z Z Z Zd Z Z Z mX (λo u ho B=>?_) λa2 M2=>?_
   .have e:=(S.rd (x:=.tmp 14) (s:=.c (.v (Po Q))) Z).1;unfold Ex;simp only[ho,e];rfl
   refine ia 200 0 [] M2 Z Z mX λa3 w3 M3=>nR M3 Z Z<|ia 200 0 [] M3 Z Z mX λa4 w4 M4=>?_;have M5:=M4.nm.oo 0 [0,7,8,9,10] Z Z;rw[e2]at M5;have g:=M4.hJ.grown;refine ih (i+1) Za y L F w4 a4 (co.grown g) (A.grown g) (λq s=>?_) (λq s=>e' q Za) (λk h1 T=>?_) ⟨λg v C=>⟨(H.1 g v C).1,λp hp=>?_⟩,λg v C hp=>H.2 g v C λp h=>hp p Za⟩ M5
   .rcases bQ q i with h|h
    .exact k' q h
    .obtain rfl:q=i:=by omega
     exact hU
   .let⟨W,m2⟩:=j k h1 T;exact⟨W.grow g.size,(g.old k W.lt).trans m2⟩
   .rcases bQ p i with h|h
    .exact(H.1 g v C).2 p h
    .obtain rfl:p=i:=by omega
     rw[←e' p (af _),hU];exact λh=>by cases h
  | some o =>
   obtain⟨v,C,rfl,v'⟩:=A.live i m' o hU;rw[hU]at cu;refine ia 200 0 [[Po (J (O v.C.o.bo 0 Q))]] M Z Z ⟨⟨mX,by omega⟩,⟨A.m.is.u.lt,by simp,by simpa[rQ] using cu⟩⟩ λa1 w1 S=>vD (op:=.binOp .neq 133 (.tmp 14) (.const (Po Q)) 133) (.c (.v (Bo true))) S Z Z Z Zd Z Z Z mX (λo u ho B=>?_) λa2 M2=>?_
   .have e:=(S.rd (x:=.tmp 14) (s:=.c (.v (Po (J (O v.C.o.bo 0 Q))))) Z).1;unfold Ex;simp only[ho,e];rfl
   refine ia 200 0 [] M2 Z Z mX λa3 w3 M3=>nV M3 Z Z<|ia 200 0 [] M3 Z Z mX λa4 w4 M4=>?_;have g4:=M4.hJ.grown;refine wX (vs:=[Po (J (O v.C.o.bo 0 Q))]) (Post:=λx w' e=>x=.tuple #[]/\∃z,e=(ep l,X V Final l z nG 0)/\Co kb l K (ai L v.C.o.gid Q) r z nG w'/\Kp kb L w4 (ai L v.C.o.gid Q) w') M4 (λx' y' j=>λd=>.stop (b5x ((co.grown g4).at d) C x' y' λw' z h1 T=>tF (j _ w' (ep l,X V Final l z nG 0) ⟨Z,z,Z,h1,λk j=>T k ⟨j.lt,j.nf,j.ns,j.nd,j.own⟩⟩))) Z Z Z Tryz.func56 Z Z Z Z λx w5 e s=>?_;obtain⟨rfl,z,rfl,n',kp⟩:=s;have j':=(A.grown g4).m.turn kp;have M5:=(M4.got (D:=17) Z (.t []) (λx hx=>(by cases hx)) (x:=.tuple #[]) Z Z).nQ [0,2,7,8,9] Z n'.env.fit n'.soft;refine ia 200 0 [[Sc (J (O b.bu 0 Q)) n n]] M5 Z Z ⟨⟨mX,⟨j'.qt.mn.lt,by simp,j'.is.k1⟩⟩,by omega⟩ λa6 w6 D=>?_;have p':=j'.grown D.hJ.grown;let⟨c0,t0,q',A',B'⟩:=id p'.is.u;refine zu (b:=b.bu) (p:=i) (cells:=[Po Q]) D.lv Z Z Z Z q' p'.qo.sf D.fit ((D.rd (x:=.tmp 23) Z).1.trans (by simp[Sv.den,nI.den])) Z Z Z (λv C=>?_) (λq s=>?_) λw7 s1 s2 s3 s4 s5 s6=>?_
   .cases Zi C;rfl
   .obtain rfl:q=0:=Zm s;simp[aC,q',B' i m']
   let⟨c',M',N'⟩:=s3;have u7:=Rp (px.put p'.is.u ⟨c',t0,M',N'.trans A'⟩ (s4 0 _ Z) λq s=>s5 q (by simp;omega));have M7:=D.nQ [0,2,7,8,9] Z s6 λk j=>D.new k (by have:=D.size;omega);refine ia 200 0 [] M7 Z Z mX λa8 w8 M8=>?_;have M9:=M8.nm.oo 0 [0,7,8,9,10] Z Z;rw[e2]at M9;have z6:=D.size;have z8:=M8.size;have lu:=j'.is.u.lt;have e8:∀k,k<w5.heap.size->k≠b.bu->w8.heap[k]?=w5.heap[k]?:=λk j hn=>by rw[M8.old k Za Zc,s2 k hn,D.old k j Zc]
   let⟨T',V'⟩:=Mt (U':=pW y i) n' j' Za e8 (u7.of (M8.old _ Za Zc)) (λq s o' l'=>by
    unfold pW at l';split at l'
    .cases l'
    .next e =>
     let⟨u,b1,b2,b3⟩:=A.live q s o' l';have E:o'.gid≠v.C.o.gid:=λE=>by
      rw[E,C]at b1;cases Ze b1;rw[v']at b3;exact e (by exact_mod_cast b3.symm)
     exact⟨u,by rw[az _ _ E];exact b1,b2,b3⟩)
   refine ih (i+1) Za (pW y i) _ z w8 a8 T' V' (λq s=>?_) (λq s=>?_) (λk h1 T=>?_) ⟨λg u B=>?_,λg u B hp=>?_⟩ M9
   .unfold pW;split
    .rfl
    .exact k' q Za
   .unfold pW;rw[mY Za];exact e' q Za
   .let⟨W,m2⟩:=j k h1 T;let⟨m3,m4⟩:=kp k (W.grow g4.size);exact⟨m3.grow Za,(e8 k m3.lt T).trans (m4.trans ((g4.old k W.lt).trans m2))⟩
   .by_cases E:g=v.C.o.gid
    .rw[E,aH]at B;cases B
    .rw[az _ _ E]at B;refine⟨(H.1 g u B).1,λp hp=>?_⟩;rcases bQ p i with h|h
     .exact(H.1 g u B).2 p h
     .obtain rfl:p=i:=by omega
      rw[←e' p (af _),hU];intro h;have h':=Ze h;exact E (by rw[h'];exact((co.gid g u B).1).symm)
   .have h0:=H.2 g u B λp h=>hp p Za;rw[az _ _ λE=>?_]
    .exact h0
    .rw[E,C]at h0;cases Ze h0;exact hp i Za ((e' i (af _)).symm.trans hU)
theorem Kf(d:Co kb l K L r F nG w)(e:oD kb l L w b n P y I N R)(f:Fm')(i:List Fm')(t:∀c m w',Co kb l K c r m nG w'->oD kb l c w' b n P (λ_=>Q) I N R->(∀k,Mn kb L w k->k≠b.bu->Mn kb c w' k/\w'.heap[k]?=w.heap[k]?)->((∀g v,c g=J v->L g=J v/\∀p,p<n->y p≠J v.C.o)/\∀g v,L g=J v->(∀p,p<n->y p≠J v.C.o)->c g=J v)->X V Final l m nG 0 (G (f.finish (.tuple #[])) i) w') :
  X V Final l F nG 0 (G (ay V 24 #[Po (J (O b.bl 0 Q))] .normal) (f::i)) w:=by
 refine tF (AX (ρ:=[]) (W:=[]) (ro:=0) (m:=[]) (sz:=25) [.c (.v (Po (J (O b.bl 0 Q))))] (Dr d.env.fit d.soft) (λs u=>?_) mD Z Z Z λa M=>?_)
 .cases Zi u;trivial
 refine ia 200 0 [[Sc (J (O b.bu 0 Q)) n n]] M Z Z ⟨mX,⟨e.m.qt.mn.lt,by simp,e.m.is.k1⟩⟩ λx z o=>?_;have g:=o.hJ.grown;refine b4B f i L y w t n 0 Za y L F z x (d.grown g) (e.grown g) (λq A=>by omega) (λ_ _=>rfl) (λk h _=>⟨h.grow g.size,g.old k h.lt⟩) ⟨λg v j=>⟨j,λp B=>by omega⟩,λg v j _=>j⟩ (o.nm.oo 0 [0,7,8,9,10] Z Z)
def beK:List bh:=match Tryz.f19.body with
 | some (.seq _ (.seq _ (.seq _ (.seq _ (.seq r e)))))=>[.code r,.code e]
 | _=>[]
variable{f:Fm'}{D:List Fm'}
structure xt (kb:Kb) (l:List ng) (K:aa) (L:Nat->Option Lv) (r nG:Nat) (w:Wd) (p:Nat) (kd A B:Int) (C:Ctx) (H:y6) (Inb':Nat->Option eZ) (w':Wd):Prop where
 s:C.slot=(p:Int)
 k:C.kd=kd
 a:C.A=A
 b:C.B=B
 o:tI kb C
 g:C.o.gid=nG
 co:Co kb (C.o::l) K (ai L nG (J ⟨C,m7 C p,[C.o.bo],H,[R8 C.o,bot]⟩)) r Inb' (nG+1) w'
 kp:Kp kb L w (ai L nG (J ⟨C,m7 C p,[C.o.bo],H,[R8 C.o,bot]⟩)) w'
theorem c9I{b':cZ}(h0:0<nG)(T:a<K.nS)(co:Co kb l K L r F nG w)(B:oD kb l L w b K.nS P y I N R)(hU:y a=Q)(mx:Mn kb L w d)(M:fx (ep l) [] 1 w [(d,0)] [(0,0,.v (Y U h)),(0,1,.v (Y U i)),(0,2,.v (Y U j))] 40 [(0,.c (.v (Po (J (O b.bl 0 Q))))),(1,.c (.v (Y U a))),(5,.c (.p 0 0))] b' w)(hx:∀C H c t w',xt kb l K L r nG w a h i j C H c t->t.heap.size<=w'.heap.size->(∀k,k<t.heap.size->k≠b.bu->w'.heap[k]?=t.heap[k]?)->px w' b.bu K.nS (λq=>if q=a then Po (J (O C.o.bo 0 Q)) else rQ (y q))->iv V true true (ep (C.o::l)) (X V Final (C.o::l) c (nG+1) 0) (G (f.finish (Y U 0)) D) w'):iv V true true (ep l) (X V Final l F nG 0) (G ((aQ 19).at b' beK) (f::D)) w:=by
 have MW:=M.oZ (W':=xS w [b.bl]) Zc;have h':=B.m.qt.mn.lt;have n6:=B.m.is.small;refine BV (V:=λx=>[J (.c (.v (Po (J (O b.bl 0 Q))))),J (.c (.v (Po (J (O b.bl 0 Q))))),J (.c (.v (Po (J (O b.bl 1 Q))))),J (.c (.v (Sc (J (O b.bu 0 Q)) K.nS K.nS))),J (.c (.v (Y U a))),J (.c (.v (Po (J (O b.bl 0 Q))))),J (.c (.v (Po (J (O b.bl 0 Q))))),J (.c (.v (Po (J (O b.bl 0 Q))))),J (.c (.v (Po (J (O kb.bk 0 Q))))),J (.c (.v (Y U a))),J (.g [.v (Y U h),.v (Y U i),.v (Y U j)]),x 0,J (.c (.v (Po (J (O b.bu (0+(a:Int).toNat*1) Q))))),x 1]) (C':=((True/\so w (xS w [b.bl]) (O b.bl 1 Q) (Sc (J (O b.bu 0 Q)) K.nS K.nS))/\so w (xS w [b.bl]) (O b.bl 0 Q) (Po (J (O kb.bk 0 Q))))/\(0<=(a:Int)/\(a:Int)<K.nS)) [(11,Q),(13,Q)] [[Sc (J (O b.bu 0 Q)) K.nS K.nS],[Po (J (O kb.bk 0 Q))]] true (λs x k' w' e=>k'=[(d,0)]/\((s=0/\w'=w/\e=(ep l,X V Final l F nG 0))\/(s=1/\∃C H c,x 0=J (.c (.v (Po (J (O C.o.bo 0 Q)))))/\e=(ep (C.o::l),X V Final (C.o::l) c (nG+1) 0)/\xt kb l K L r nG w a h i j C H c w')\/(s=2/\∃C H c t,e=(ep (C.o::l),X V Final (C.o::l) c (nG+1) 0)/\xt kb l K L r nG w a h i j C H c t/\t.heap.size=w'.heap.size/\(∀k,k≠b.bu->w'.heap[k]?=t.heap[k]?)/\px w' b.bu K.nS (λq=>if q=a then Po (J (O C.o.bo 0 Q)) else rQ (y q))/\Fit (ep (C.o::l)) w'))) MW Z (λ_=>by kernel_rfl) (λ_=>by kernel_rfl) Z Zd ⟨⟨⟨mX,⟨h',Eo Zc,B.m.is.k1⟩⟩,⟨h',Eo Zc,B.m.is.k0⟩⟩,by omega⟩ (λs x i' w' e l' p=>?_) ⟨Z,.inl ⟨Z,Z,Z⟩⟩ (λs e' g hs x o a' w' i' A' e W p h1 h2 S E=>?_) λx i' a3 w3 e p m' n'=>?_
 .obtain⟨A,p⟩:=p;obtain rfl:=Zk A;rcases p with⟨_,rfl,_⟩|⟨_,C,H,c,_,_,j⟩|⟨rfl,_⟩
  .exact⟨MW.ce,λ_ _ _=>rfl⟩
  .refine⟨λe A=>?_,λk u E=>?_⟩
   .obtain⟨c1,c2,c3⟩:=M.ce e A;have c0:e.1=0:=Zm c1;refine⟨c1,c2,(Zf (w:=w) ?_).trans c3⟩;rw[c0];exact(j.kp d mx).2
   .obtain rfl:=Zi (Oe u E);exact(j.kp _ B.m.qt.mn).2
  .exact absurd (l' Z) (iA 2)
 .obtain⟨A,p⟩:=p;obtain rfl:=Zk A;rcases s with _|_|s
  case zero =>
   obtain⟨rfl,rfl⟩:=ax (Ze hs);rcases p with⟨_,rfl,rfl⟩|⟨m,_⟩|⟨m,_⟩
   case inr.inl=>cases m
   case inr.inr=>cases m
   obtain rfl:=Ze W;refine MD W Z (by show aV≠.early;decide) Z Tryz.func49 Z Z (vs:=#[Po (J (O kb.bk 0 Q)),Y U a,.agg #[Y U h,Y U i,Y U j]]) ?_ λd'=>RA (co.at d') h0 T h i j λw2 C H c c1 c2 c3 c4 c5 c6 c7 c8=>?_
   .simp only[dq,cX,eE,S (.tmp 35) (.c (.v (Po (J (O kb.bk 0 Q))))) Z,S (.tmp 36) (.c (.v (Y U a))) Z,S (.tmp 37) (.g [.v (Y U h),.v (Y U i),.v (Y U j)]) Z];rfl
   .rw[yp W];exact tF (E (ep (C.o::l),X V Final (C.o::l) c (nG+1) 0) [] w2 (J (.c (.v (Po (J (O C.o.bo 0 Q)))))) ⟨by simp,.inr (.inl ⟨Z,C,H,c,Z,Z,c1,c2,c3,c4,c5,c6,c7,λk u=>c8 k ⟨u.lt,u.nf,u.ns,u.nd,u.own⟩⟩)⟩ (.inl Z) λsv m=>by obtain rfl:=Ze m;trivial)
  case succ.zero =>
   obtain⟨rfl,rfl⟩:=ax (Ze hs);rcases p with⟨m,_⟩|⟨_,C,H,c,p',rfl,j⟩|⟨m,_⟩
   case inl=>cases m
   case inr.inr=>cases m
   obtain rfl:=Ze W;have f':=B.m.born j.kp (aH _ _ _) (C:=C) (cz.2 Z);obtain⟨c0,t0,j',q',r'⟩:=id f'.is.u;refine zu (E:=[]) (sz:=40) (b:=b.bu) (p:=a) (cells:=[Po (J (O C.o.bo 0 Q))]) ⟨h1,h2,λa T=>(by cases T)⟩ Z Z Z Z j' f'.qo.sf j.co.env.fit ((S (.tmp 39) _ Z).trans (by simp[Sv.den,nI.den])) (S (.tmp 38) _ p') Z Z (λv hv=>?_) (λq hq=>?_) λw2 s1 s2 s3 s4 s5 s6=>?_
   .obtain rfl:=Zi hv;rfl
   .obtain rfl:q=0:=Zm hq;simp[aC,j',r' a T]
   .obtain⟨c',s',t'⟩:=s3;exact E (ep (C.o::l),X V Final (C.o::l) c (nG+1) 0) [] w2 Q ⟨by simp,.inr (.inr ⟨Z,C,H,c,w',Z,j,s1.symm,s2,px.put f'.is.u ⟨c',t0,s',t'.trans q'⟩ (s4 0 _ Z) λq hq=>s5 q (by simp;omega),s6⟩)⟩ (.inl Z) λsv m=>by cases m
  case succ.succ=>simp at hs
 .obtain⟨A,p⟩:=p;obtain rfl:=Zk A;rcases p with⟨m,_⟩|⟨m,_⟩|⟨_,C,H,c,t,rfl,j,z,old,ru,ft⟩
  .cases m
  .cases m
  have M3:=((M.re m' n').oo 1 [] Z Z).nQ [] Z ft λk u=>j.co.soft k Za;refine ia 200 0 [] M3 Z Z mX λa4 w4 M4=>A9 M4 ga Z Z Z ?_;have z4:=M4.size;exact hx C H c t w4 j Za (λk u E=>(M4.old k Za Zc).trans (old k E)) (ru.of (M4.old _ ru.lt Zc))
theorem ZK(W:Co kb l K L r F nG w){n:Nat}(hn:K.nS=n)(v:oD kb l L w b n P y I N R)(h0:0<nG)(s h A B:Int)(f:Fm')(D:List Fm')(k':(h<1\/7<h)->∀w',Grown w w'->X V Final l F nG 0 (G (f.finish (Y U 2)) D) w')(p':1<=h->h<=7->(decide (0<=s)&&decide (s<(n:Int)))=false->∀w',Grown w w'->X V Final l F nG 0 (G (f.finish (Y U 3)) D) w')(q':1<=h->h<=7->∀(p:Nat) o,s=p->p<n->y p=J o->∀w',Grown w w'->X V Final l F nG 0 (G (f.finish (Y U 14)) D) w')(r':1<=h->h<=7->∀p:Nat,s=p->p<n->y p=Q->∀w' (C:Ctx) H g',C.slot=(p:Int)->C.kd=h->C.A=A->C.B=B->tI kb C->C.o.gid=nG->Co kb (C.o::l) K (ai L nG (J ⟨C,m7 C p,[C.o.bo],H,[R8 C.o,bot]⟩)) r g' (nG+1) w'->(∀k,Mn kb L w k->k≠b.bu->Mn kb (ai L nG (J ⟨C,m7 C p,[C.o.bo],H,[R8 C.o,bot]⟩)) w' k/\w'.heap[k]?=w.heap[k]?)->oD kb (C.o::l) (ai L nG (J ⟨C,m7 C p,[C.o.bo],H,[R8 C.o,bot]⟩)) w' b n P (rO y p C.o) I N R->X V Final (C.o::l) g' (nG+1) 0 (G (f.finish (Y U 0)) D) w') :
  X V Final l F nG 0 (G (ay V 19 #[Po (J (O b.bl 0 Q)),Y U s,.agg #[Y U h,Y U A,Y U B]] .normal) (f::D)) w:=by
 subst hn;have l':=v.m.qt.mn.lt;refine tF (AX (ρ:=[]) (W:=[]) (ro:=0) (m:=[]) (sz:=40) [.c (.v (Po (J (O b.bl 0 Q)))),.c (.v (Y U s)),.g [.v (Y U h),.v (Y U A),.v (Y U B)]] (Dr W.env.fit W.soft) (λs hs=>?_) ga Z Z Z λa M=>?_)
 .simp only[ae,aj,or_false]at hs;rcases hs with rfl|rfl|rfl<;>first|trivial|(intro x hx;simp only[ae,aj,or_false]at hx;rcases hx with rfl|rfl|rfl<;>trivial)
 refine sw 12 0 [] M Z Z mX λa1 w1 bx M1=>?_;have M2:=M1.nY 1 [0,1,5,10] [(0,0),(0,1),(0,2)] Z Z Z
 by_cases k1:h<1
 .rw[decide_eq_true k1]at M2;refine ia 200 1 [] M2 Z Z mX λa3 w3 M3=>nV M3 Z Z<|ia 200 1 [] M3 Z Z mX λa4 w4 E=>A9 E ga Z Z Z λd=>.stop (k' (.inl k1) _ (E.hJ.grown.at d))
 rw[decide_eq_false k1]at M2;refine ia 200 1 [] M2 Z Z mX λa3 w3 M3=>?_
 by_cases k7:7<h
 .refine nV M3 Z (decide_eq_true k7)<|ia 200 1 [] M3 Z Z mX λa4 w4 E=>A9 E ga Z Z Z λd=>.stop (k' (.inr k7) _ (E.hJ.grown.at d))
 refine nR M3 Z (decide_eq_false k7)<|ia 200 1 [] M3 Z Z mX λa4 w4 E=>?_;have g4:=E.hJ.grown;refine A4 E (Ki E.fit (W.grown g4).soft (v.grown g4).m.is.k1 s) Z Z Z iF Z Z Z Z Z λx w5 hq=>?_;obtain⟨rfl,F5⟩:=hq;refine E3 (E.still F5) 1 (.c (.v (Bo (decide (0<=s)&&decide (s<(K.nS:Int)))))) Z Z Z Z Z λa6 M6=>ia 200 1 [] M6 Z Z mX λa7 w7 M7=>?_
 cases hb:(decide (0<=s)&&decide (s<(K.nS:Int))) with
 | false =>
  refine nV M7 Z (by rw[hb];rfl)<|ia 200 1 [] M7 Z Z mX λa8 w8 S=>A9 S ga Z Z Z λd=>.stop (p' Za Za hb _ (S.hJ.grown.at d))
 | true =>
  refine nR M7 Z (by rw[hb];rfl) ?_;simp only[aB,decide_eq_true_eq]at hb;obtain⟨p,rfl⟩:=cT hb.1;have hp:p<K.nS:=by omega
  have cu:=v.m.is.u.cell hp
  cases hU:y p with
  | some o =>
   rw[hU]at cu;refine ia 200 1 [[Sc (J (O b.bu 0 Q)) K.nS K.nS],[Po (J (O o.bo 0 Q))]] M7 Z Z ⟨⟨⟨mX,⟨l',by simp,v.m.is.k1⟩⟩,by omega⟩,⟨v.m.is.u.lt,by simp,by simpa[rQ] using cu⟩⟩ λa8 w8 S=>vD (op:=.binOp .neq 133 (.tmp 25) (.const (Po Q)) 133) (.c (.v (Bo true))) S Z Z Z Zd Z Z Z mX (λo' u T hu=>?_) λa9 M9=>?_
   .have e:=(S.rd (x:=.tmp 25) (s:=.c (.v (Po (J (O o.bo 0 Q))))) Z).1;unfold Ex;simp only[T,e];rfl
   refine ia 200 1 [] M9 Z Z mX λs' t' f'=>nV f' Z Z<|ia 200 1 [] f' Z Z mX λu' m' j=>A9 j ga Z Z Z λd=>.stop (q' Za Za p o Z hp hU _ (j.hJ.grown.at d))
  | none =>
   rw[hU]at cu;refine ia 200 1 [[Sc (J (O b.bu 0 Q)) K.nS K.nS],[Po Q]] M7 Z Z ⟨⟨⟨mX,⟨l',by simp,v.m.is.k1⟩⟩,by omega⟩,⟨v.m.is.u.lt,by simp,by simpa[rQ] using cu⟩⟩ λa8 w8 S=>vD (op:=.binOp .neq 133 (.tmp 25) (.const (Po Q)) 133) (.c (.v (Bo false))) S Z Z Z Zd Z Z Z mX (λo' u T hu=>?_) λa9 M9=>?_
   .have e:=(S.rd (x:=.tmp 25) (s:=.c (.v (Po Q))) Z).1;unfold Ex;simp only[T,e];rfl
   refine ia 200 1 [] M9 Z Z mX λs' t' f'=>nR f' Z Z<|ia 2 1 [] f' Z Z mX λu' m' j=>?_;have g:=j.hJ.grown;have v':w.heap.size<=bx:=(j.own 0 (af _) Zc).resolve_left Zc;have x':bx<m'.heap.size:=F7.lt (j.bl 0 Zc);have y':=(j.next j.fit (W.grown g).soft (λi hi=>⟨(j.bl i hi).2,Z⟩) j.lv j.wf).nY 1 [0,1,5] [(0,0),(0,1),(0,2)] Z Z Z;refine c9I h0 hp (W.grown g) (v.grown g) hU (W.new v' x').mn y' λC H g' wm w' m z n' ru=>λd=>.stop ?_;have C':=(v.grown g).m.born m.kp (aH _ _ _) (C:=C) (cz.2 Z)
   let⟨D',E'⟩:=Mt (U':=rO y p C.o) m.co C' z n' (by
    let⟨c,t,b1,b2,b3⟩:=ru;refine⟨c,t,b1,b2,λq hq=>(b3 q hq).trans ?_⟩;unfold rO
    by_cases e:q=p
    .simp[e,rQ]
    .simp[e]) (λq hq o T=>by
    unfold rO at T;split at T
    .next e =>
     cases Ze T;exact⟨_,by rw[m.g,aH],Z,by rw[e];exact m.s⟩
    .let⟨u,b1,b2,b3⟩:=v.live q hq o T
     exact⟨u,by rw[az _ _ (by have:=(W.gid _ u b1).2.2;omega)];exact b1,b2,b3⟩)
   have gd:Grown w' (w'.at d):=⟨af _,λ_ _=>rfl,mX⟩;refine r' Za Za p Z hp hU (w'.at d) C H g' m.s m.k m.a m.b m.o m.g (D'.grown gd) (λk hm hk=>?_) (E'.grown gd);let⟨m1,m2⟩:=m.kp k (hm.grow g.size);exact⟨m1.grow z,(n' k m1.lt hk).trans (m2.trans (g.old k hm.lt))⟩
end
section
open Go.Conc
variable{P:Pg}{Q:Exit->cZ->Wd->Prop}{ops:Array aL}{i:Nat}{o:aL}{a:cZ}{g:List Nat}{w w':Wd}{v:Vu}
theorem Je(b:ops[i]?=J o)(c:o.guard=G')(d:(Ex a.eval o).run P w=.ok (.value v) w')(h:wpOps P ops Q g (a.put o.dst v) w'):wpOps P ops Q (i::g) a w:=by
 rw[wpOps_cons];unfold wpOp;simp only[b];rw[mZ (by unfold bM;rw[c])];refine .inl ?_;unfold Oper.wp;rw[d];exact h
variable{r:Array Vu}{V:(Nat->Nat)->Nat->Vu}{ob:(Nat->Nat)->Nat->Option Obj}{dep:Nat->List Nat}
section
variable{v:Wd}
def LZ(o:aL)(p:Nat):Bool:=o.after.any λe=>cM .any e&&e.on==p
structure Mk (V:(Nat->Nat)->Nat->Vu) (ob:(Nat->Nat)->Nat->Option Obj) (dep:Nat->List Nat) (v:Wd) (listed:Array Bool) (c:Nat->Nat) (w:Wd):Prop where
 oC:bE v.heap.size v w
 made:∀i x,listed.getD i false=true->ob c i=J x->v.heap.size<=c i/\c i<w.heap.size/\w.heap[c i]?=J x
 apart:∀i j,listed.getD i false=true->listed.getD j false=true->(ob c i).isSome=true->(ob c j).isSome=true->i≠j->c i≠c j
 wc:∀j q,listed.getD j false=true->q∈dep j->listed.getD q false=true
 ord:∀i q,listed.getD i false=true->q∈dep i->q≠i->(ob c i).isSome=true->(ob c q).isSome=true->c q<c i
theorem Oh(E:tW ops=true)(hd:∀c q x j,q∉dep j->V (ai c q x) j=V c j/\ob (ai c q x) j=ob c j)(S:((aO ops.size).all λi=>(dep i).all λq=>aG q i||((ops[i]?).map λo=>o.after.any λe=>cM .any e&&(dep e.on).contains q).getD false)=true)(a':((aO ops.size).all λi=>((ops[i]?).map (·.after.all λe=>!cM .any e||decide (e.on<i))).getD true)=true)(hs:∀i o,ops[i]?=J o->o.guard=G'/\∀c a w listed,oU ops (V c) r listed a->(∀p,LZ o p=true->listed.getD p false=true)->(ob c i=G'/\(Ex a.eval o).run P w=.ok (.value (V c i)) w)\/∃x,ob (ai c i w.heap.size) i=J x/\(Ex a.eval o).run P w=.ok (.value (V (ai c i w.heap.size) i)) (w.alloc x))(b':∀c w,Mk V ob dep v (bY ops.size true) c w->Q .normal ⟨fill ops (V c) r,[]⟩ w) :
  ∀c' listed (m:cZ×Wd) g,Ord ops c' listed g->(∃c,oU ops (V c) r listed m.1/\Mk V ob dep v listed c m.2)->wpOps P ops Q g m.1 m.2:=by
 refine Cp (J:=λ(m:cZ×Wd) g=>wpOps P ops Q g m.1 m.2) (λf0 listed m i g K L hO T=>?_) λlisted m C L=>?_
 .let⟨a,w⟩:=m;let⟨c,n,d⟩:=L;simp only at n d;have W:=x9 K;obtain⟨o,z⟩:∃o,ops[i]?=J o:=⟨_,bg W⟩;have G:=IY K;let⟨M,d'⟩:=hs i o z;have X:∀p,LZ o p=true->listed.getD p false=true:=λp hp=>k9 K z hp;have e':∀ {j},listed.getD j false=true->j≠i:=λ{j} b e=>by grind
  have N:∀j q,(listed.setIfInBounds i true).getD j false=true->q∈dep j->(listed.setIfInBounds i true).getD q false=true:=λj q b t=>by
   by_cases e:j=i
   .subst e;rw[aT]at S;have:=S j (eQ.2 W);rw[aT]at this;have:=this q t;simp only[cY,Nat.beq_eq,z,aD,cU]at this;rcases this with rfl|h
    .grind
    .let⟨x,hx,h⟩:=mu.1 h;simp only[aB]at h;exact Z8 (d.wc x.on q (X _ (mu.2 ⟨x,hx,by simp[h.1]⟩)) (by simpa using h.2))
   .rw[D6 (aA e)]at b;exact Z8 (d.wc j q b t)
  have f:∀ {j},(listed.setIfInBounds i true).getD j false=true->j≠i->listed.getD j false=true:=λ{j} b e=>by rw[D6 (aA e)]at b;exact b
  rcases d' c a w listed n X with⟨hn,C⟩|⟨x,hx,C⟩
  .refine Je z M C (T (_,w) ⟨c,n.put E z Z,d.oC,λj y b u=>?_,λj k b F l sk e=>?_,N,λj q b t e l B=>?_⟩)
   .exact d.made j y (f b λe=>by grind) u
   .exact d.apart j k (f b λe=>by rw[e,hn]at l;cases l) (f F λe=>by grind) l sk e
   .exact d.ord j q (f b λe=>by rw[e,hn]at l;cases l) t e l B
  .have s:∀ {j},listed.getD j false=true->V (ai c i w.heap.size) j=V c j/\ob (ai c i w.heap.size) j=ob c j/\ai c i w.heap.size j=c j:=λ{j} b=>by
    have:=hd c i w.heap.size j λh=>by rw[d.wc j i b h]at G;cases G
    exact⟨this.1,this.2,az _ _ (e' b)⟩
   have own:ai c i w.heap.size i=w.heap.size:=by simp[ai]
   have hz:=d.oC.size;refine Je z M C (T (_,_) ⟨ai c i w.heap.size,(n.val λj b=>(s b).1).put E z Z,d.oC.alloc hz _,λj y b u=>?_,λj k b F l sk e=>?_,N,λj q b t e l B=>?_⟩)
   .by_cases e:j=i
    .grind
    .let⟨s1,R,s3⟩:=s (f b e);rw[R]at u;let⟨q1,q2,q3⟩:=d.made j y (f b e) u
     grind
   rotate_left
   .have A:=N j q b t
    by_cases D:j=i
    .have A:=f A λH=>e (H.trans D.symm);let⟨s1,R,s3⟩:=s A;rw[R]at B;let⟨y,u⟩:=cH.1 B;have:=(d.made q y A u).2.1
     grind
    .have I:=f b D;have A:=d.wc j q I t;rw[(s I).2.1]at l;rw[(s A).2.1]at B;rw[(s I).2.2,(s A).2.2];exact d.ord j q I t e l B
   .have f':∀j,(listed.setIfInBounds i true).getD j false=true->j≠i->(ob (ai c i w.heap.size) j).isSome=true->c j<w.heap.size:=λj b e l=>by
     rw[(s (f b e)).2.1]at l;let⟨y,u⟩:=cH.1 l;exact(d.made j y (f b e) u).2.1
    by_cases D:j=i
    .grind
    .have E:=s (f b D)
     by_cases H:k=i
     .grind
     .have h2:=s (f F H);rw[E.2.2,h2.2.2];exact d.apart j k (f b D) (f F H) (by grind) (by grind) e
 .let⟨a,w⟩:=m;let⟨c,n,d⟩:=L;simp only at n d;have hl:=V6 a' n.len C;cases n.full hl;have e:listed=bY ops.size true:=by
   apply Array.ext_getElem?;intro j;rw[fX]
   by_cases h:j<ops.size
   .have:=hl j h;rw[aX,bg (by rw[n.len];exact h)]at this
    grind
   .rw[mY h,eM (by rw[n.len];omega)]
  exact b' c w (by grind)
theorem Mk.start:Mk V ob dep v (bY ops.size false) (λ_=>0) v:=by
 have f:∀j,(bY ops.size false).getD j false=false:=λj=>by
  rw[aX,fX];split<;>rfl
 exact⟨.refl _ _,λi _ h=>(by rw[f]at h;cases h),λi j h=>(by rw[f]at h;cases h),λj q h=>(by rw[f]at h;cases h),λi q h=>(by rw[f]at h;cases h)⟩
theorem c7X(f:P.underlying p=J (.slice q))(d:(P.info? q).map (λi=>(i.zero,i.size,i.bytes))=J (J k,b,c))(n:Nat)(h:n<=32)(j:c<=1000)(w:Wd):(ic p (Y U n) (Y U n)).run P w=.ok (Sc (J (O w.heap.size 0 G')) n n) (w.alloc (.cells (eN k.cells (n*b)) q)):=by
 cases e:P.info? q with
 | none=>grind
 | some i =>
  rw[e]at d;simp only[aD,bm,cR]at d;let⟨l,s,m⟩:=d;have t:c*n<=1000*32:=Nat.mul_le_mul j h;have:=run_make (P:=P) w p q i _ f e l .i64 .i64 n n Za Za (by rw[m];omega) Za
  grind
theorem Av{a:cZ}{o:aL}{x:aS}(l:o.op=.makeSlice p x x)(m:a.eval x=Y U d)(e:P.underlying p=J (.slice q))(f:(P.info? q).map (λi=>(i.zero,i.size,i.bytes))=J (J k,b,c))(h:d<=32)(j:c<=1000)(w:Wd):(Ex a.eval o).run P w=.ok (.value (Sc (J (O w.heap.size 0 G')) d d)) (w.alloc (.cells (eN k.cells (d*b)) q)):=by
 have:=c7X e f d h j w;unfold Ex
 simp_all
theorem Ej{z:Array Vu}(h:c<b)(d:0<z.size):(eN z b)[c]?=z[c%z.size]?:=by
 unfold eN;rw[Array.getElem?_map,Array.getElem?_range,mZ h,aD,bg (Nat.mod_lt _ d),getElem!_pos z _ (Nat.mod_lt _ d)]
end
attribute [local go_sem ↓] Go.wp_at_zero Go.wp_at_succ
def vp:Array aL :=
 match Tryz.f14.body with
 | some (.seq _ (.seq _ (.seq (.region _ ops _) _)))=>ops
 | _=>#[]
theorem d0S:(J'.info? 133).map (λi=>(i.zero,i.size,i.bytes))=J (J (Po G'),1,8):=by kernel_rfl
theorem Js:(J'.info? 88).map (λi=>(i.zero,i.size,i.bytes))=J (J (Sc G' 0 0),1,24):=by kernel_rfl
theorem VY:tW vp=true:=by kernel_rfl
def vl(b n c d:Nat):Array dM:=#[Po (J (O b 0 G')),Sc (J (O c 0 G')) n n,Sc (J (O d 0 G')) n n]
def vO(b n:Nat)(c:Nat->Nat):Nat->Vu
 | 0=>Po (J (O b 0 G'))|1=>Y U n|2=>Sc (J (O (c 2) 0 G')) n n|3=>Y U n|4=>Sc (J (O (c 4) 0 G')) n n
 | 5=>.agg (vl b n (c 2) (c 4))|6=>Po (J (O (c 6) 0 G'))|7=>Po (J (O (c 6) 0 G'))|_=>Ud
def GP(b n:Nat)(c:Nat->Nat):Nat->Option Obj
 | 2=>J (.cells (eN #[Po G'] (n*1)) 133)
 | 4=>J (.cells (eN #[Sc G' 0 0] (n*1)) 88)
 | 6=>J (.cells (vl b n (c 2) (c 4)) 114 (0,0))
 | _=>G'
def Ga:Nat->List Nat
 | 2=>[2]|4=>[4]|5=>[2,4]|6=>[2,4,6]|7=>[2,4,6]|_=>[]
theorem Kn{w:Wd}(h:w.heap[b]?=J (.cells (eN #[k] (c*1)) p)):px w b c λ_=>k :=
 ⟨_,_,h,by rw[size_madeCells,Nat.mul_one],λj d=>by rw[Ej Za Zc];simp[mi]⟩
theorem YH{bk n:Nat}(f:n<=32){r:Array Vu}(D:r.size=15)(b0:r[0]?=J (Po (J (O bk 0 G'))))(k:r[3]?=J (Y U n)){v:Wd}{Q:Exit->cZ->Wd->Prop}(m:∀c w,Mk (vO bk n) (GP bk n) Ga v (bY 8 true) c w->Q .normal ⟨fill vp (vO bk n c) r,[]⟩ w) :
  ∀p listed (e:cZ×Wd) g,Ord vp p listed g->(∃c,oU vp (vO bk n c) r listed e.1/\Mk (vO bk n) (GP bk n) Ga v listed c e.2)->wpOps J' vp Q g e.1 e.2:=by
 refine Oh VY (λc q x j h=>?_) Zd Zd (λi o l=>?_) m
 .match j with
  | 0|1|3|(_+8)=>exact⟨Z,Z⟩
  | 2|4|5|6|7=>simp only[Ga,ae,aj,or_false,not_or]at h;simp[vO,GP,ai,h,aA];try simp[aA,eq_comm,h]
 .have s:=(Zj l).1;have t:vp.size=8:=by kernel_rfl
  rw[t]at s;have u:i=0\/i=1\/i=2\/i=3\/i=4\/i=5\/i=6\/i=7:=by omega
  rcases u with rfl|rfl|rfl|rfl|rfl|rfl|rfl|rfl<;>cases Ze l<;>refine⟨Z,λc a w listed b d=>?_⟩
  .exact .inl ⟨Z,X6 Z (b.base Zd b0)⟩
  .exact .inl ⟨Z,X6 Z (b.base Zd k)⟩
  .refine .inr ⟨_,Z,(Av Z (b.tmp (j:=1) Z Z (d _ Zd) Za Z) Tryz.underlying111 d0S f Za w).trans ?_⟩;simp[vO,ai,fY]
  .exact .inl ⟨Z,X6 Z (b.base Zd k)⟩
  .refine .inr ⟨_,Z,(Av Z (b.tmp (j:=3) Z Z (d _ Zd) Za Z) mC Js f Za w).trans ?_⟩;simp[vO,ai,fY]
  .have y:a.eval (.tmp 8)=Po (J (O bk 0 G')):=b.tmp (j:=0) Z Z (d _ Zd) Za Z;have z:a.eval (.tmp 10)=Sc (J (O (c 2) 0 G')) n n:=b.tmp (j:=2) Z Z (d _ Zd) Za Z;have A:a.eval (.tmp 12)=Sc (J (O (c 4) 0 G')) n n:=b.tmp (j:=4) Z Z (d _ Zd) Za Z;refine .inl ⟨Z,?_⟩;unfold Ex;show Sem.run _ (do let x ←im 114 (#[(0,Operand.tmp 8),(1,.tmp 10),(2,.tmp 12)].map λx=>(x.fst,a.eval x.snd));pure (jN x)) _=_;simp only[dq,cX,eE,y,z,A];kernel_rfl
  .have B:a.eval (.tmp 13)=.agg (vl bk n (c 2) (c 4)):=b.tmp (j:=5) Z Z (d _ Zd) Za Z;refine .inr ⟨_,Z,?_⟩;unfold Ex;show Sem.run _ (do let x ←Instr.box 114 (a.eval (.tmp 13));pure (jN x)) _=_;simp only[B,vO,ai];kernel_rfl
  .have C:a.eval (.tmp 14)=Po (J (O (c 6) 0 G')):=b.tmp (j:=6) Z Z (d _ Zd) Za Z;exact .inl ⟨Z,zN Z C⟩
structure It (w w':Wd) (bk n bl bu bn:Nat):Prop where
 oC:bE w.heap.size w w'
 gl:w.heap.size<=bl
 gu:w.heap.size<=bu
 gn:w.heap.size<=bn
 lu:bu<bl
 ln:bn<bl
 un:bu≠bn
 l:w'.heap[bl]?=J (.cells (vl bk n bu bn) 114 (0,0))
 u:px w' bu n (λ_=>Po G')
 d:px w' bn n (λ_=>Sc G' 0 0)
theorem c4U{w:Wd}{K:aa}(R:js w b c d e K) :
  aF J' 14 #[Po (J (O b 0 G'))] w λn w'=>∃p,n=.returned (Po (J (O p 0 G')))/\∃z A,It w w' b K.nS p z A:=by
 go_enter Tryz.func14,Tryz.ntmps14
 have B:ar (K.nS<=6):=R.hS
 go_wp2_with fail
 refine(Nf R).mono ?_;rintro n h ⟨l,j,m,rfl,b1,S1,l1,l2,l3⟩;unfold rN;have C:∀w:Wd,(Instr.field 109 (.agg #[di (J (O l 0 G')) K.nF K.nF,Sc (J (O j 0 G')) K.nS K.nS,Sc (J (O m 0 G')) K.nD K.nD]) 1).run J' w=.ok (Sc (J (O j 0 G')) K.nS K.nS) w:=λ_=>by kernel_rfl
 go_wp2_with fail
 clear C;refine wp_region_draw (ops:=vp) λt=>?_;have D:bE w.heap.size w { h with drawn:=h.drawn+1 }:=b1.drew;refine YH (v:={ h with drawn:=h.drawn+1 }) (bk:=b) (n:=K.nS) (by have:=B.out;omega) Z Z Z ?_ _ _ (_,_) _ (xZ Zd vp t) ⟨_,oU.start _ _ _,Mk.start⟩
 .intro f N I;rename_i S T q;refine q _ _ ?_;have s:fill vp (vO b K.nS f) #[Po (J (O b 0 G')),Ud,Po G',Y U K.nS,Po (J (O b 0 G')),.agg #[Sc (J (O l 0 G')) K.nF K.nF,Sc (J (O j 0 G')) K.nS K.nS,Sc (J (O m 0 G')) K.nD K.nD],Sc (J (O j 0 G')) K.nS K.nS,Y U K.nS,Ud,Ud,Ud,Ud,Ud,Ud,Ud]
    = #[Po (J (O b 0 G')),Ud,Po (J (O (f 6) 0 G')),Y U K.nS,Po (J (O b 0 G')),.agg #[Sc (J (O l 0 G')) K.nF K.nF,Sc (J (O j 0 G')) K.nS K.nS,Sc (J (O m 0 G')) K.nD K.nD],Sc (J (O j 0 G')) K.nS K.nS,Y U K.nS,Po (J (O b 0 G')),Y U K.nS,Sc (J (O (f 2) 0 G')) K.nS K.nS,Y U K.nS,Sc (J (O (f 4) 0 G')) K.nS K.nS,.agg (vl b K.nS (f 2) (f 4)),Po (J (O (f 6) 0 G'))]:=by kernel_rfl
  rw[s];have u:=I.made 2 _ Z Z;have x:=I.made 4 _ Z Z;have y:=I.made 6 _ Z Z;have E:=I.apart 2 4 Z Z Z Z Zb;have F:=I.ord 6 2 Z Zb Zb Z Z;have H:=I.ord 6 4 Z Zb Zb Z Z;have L:=I.oC;have k:w.heap.size<=({ h with drawn:=h.drawn+1 }:Wd).heap.size:=b1.size;clear I s q
  go_wp2_with fail
  go_ret
  exact⟨f 6,Z,f 2,f 4,Ha D L k,Zh k y.1,Zh k u.1,Zh k x.1,F,H,E,y.2.2,Kn u.2.2,Kn x.2.2⟩
end
section
open Go.Conc
attribute [local go_sem ↓] Go.wp_at_zero Go.wp_at_succ
def wJ:Array aL :=
 match Tryz.f15.body with
 | some (.seq _ (.seq _ (.seq (.region _ ops _) _)))=>ops
 | _=>#[]
def wW(a n b c d:Nat):Array dM:=#[Po (J (O a 0 Q)),Sc (J (O b 0 Q)) n n,Sc (J (O c 0 Q)) n n,Sc (J (O d 0 Q)) n n]
def tf(a n:Nat)(c:Nat->Nat):Nat->Vu
 | 0=>Po (J (O a 0 Q))|1=>vi n|2=>Sc (J (O (c 2) 0 Q)) n n|3=>vi n|4=>Sc (J (O (c 4) 0 Q)) n n|5=>vi n|6=>Sc (J (O (c 6) 0 Q)) n n
 | 7=>.agg (wW a n (c 2) (c 4) (c 6))|8=>Po (J (O (c 8) 0 Q))|9=>Po (J (O (c 8) 0 Q))|_=>Ud
abbrev Gb:dM:=.agg #[i0,i0,i0,b0,s0,s0,s0,s0]
def xr(a n:Nat)(c:Nat->Nat):Nat->Option Obj
 | 2=>J (.cells (eN Gb.cells (n*8)) 137)
 | 4=>J (.cells (eN #[b0] (n*1)) 4)
 | 6=>J (.cells (eN #[s0] (n*1)) 88)
 | 8=>J (.cells (wW a n (c 2) (c 4) (c 6)) 118 (0,0))
 | _=>Q
def Bg:Nat->List Nat
 | 2=>[2]|4=>[4]|6=>[6]|7=>[2,4,6]|8=>[2,4,6,8]|9=>[2,4,6,8]|_=>[]
theorem Zu:(V.info? 137).map (λi=>(i.zero,i.size,i.bytes))=J (J Gb,8,128):=by kernel_rfl
theorem We:(V.info? 4).map (λi=>(i.zero,i.size,i.bytes))=J (J b0,1,1):=by kernel_rfl
theorem QP{bk n:Nat}(g:n<=32){e:Array Vu}(E:e.size=18)(r:e[0]?=J (Po (J (O bk 0 G'))))(k:e[3]?=J (vi n)){v:Wd}{Q:Exit->cZ->Wd->Prop}(s:∀c w,Mk (tf bk n) (xr bk n) Bg v (bY 10 true) c w->Q .normal ⟨fill wJ (tf bk n c) e,[]⟩ w) :
  ∀t listed (f:cZ×Wd) m,Ord wJ t listed m->(∃c,oU wJ (tf bk n c) e listed f.1/\Mk (tf bk n) (xr bk n) Bg v listed c f.2)->wpOps V wJ Q m f.1 f.2:=by
 refine Oh Zd (λc q x j h=>?_) Zd Zd (λi o p=>?_) s
 .match j with
  | 0|1|3|5|(_+10)=>exact⟨Z,Z⟩
  | 2|4|6|7|8|9=>simp only[Bg,ae,aj,or_false,not_or]at h;simp[tf,xr,ai,h,aA];try simp[aA,eq_comm,h]
 .have u:=(Zj p).1;have y:wJ.size=10:=by kernel_rfl
  rw[y]at u;have z:i=0\/i=1\/i=2\/i=3\/i=4\/i=5\/i=6\/i=7\/i=8\/i=9:=by omega
  rcases z with rfl|rfl|rfl|rfl|rfl|rfl|rfl|rfl|rfl|rfl<;>cases Ze p<;>refine⟨Z,λc a w listed b d=>?_⟩
  .exact .inl ⟨Z,X6 Z (b.base Zd r)⟩
  .exact .inl ⟨Z,X6 Z (b.base Zd k)⟩
  .refine .inr ⟨_,Z,(Av Z (b.tmp (j:=1) Z Z (d _ Zd) Za Z) Tryz.underlying115 Zu g Za w).trans ?_⟩;simp[tf,ai]
  .exact .inl ⟨Z,X6 Z (b.base Zd k)⟩
  .refine .inr ⟨_,Z,(Av Z (b.tmp (j:=3) Z Z (d _ Zd) Za Z) Tryz.underlying116 We g Za w).trans ?_⟩;simp[tf,ai,fY]
  .exact .inl ⟨Z,X6 Z (b.base Zd k)⟩
  .refine .inr ⟨_,Z,(Av Z (b.tmp (j:=5) Z Z (d _ Zd) Za Z) mC Js g Za w).trans ?_⟩;simp[tf,ai,fY]
  .have A:a.eval (.tmp 9)=Po (J (O bk 0 G')):=b.tmp (j:=0) Z Z (d _ Zd) Za Z;have B:a.eval (.tmp 11)=Sc (J (O (c 2) 0 G')) n n:=b.tmp (j:=2) Z Z (d _ Zd) Za Z;have C:a.eval (.tmp 13)=Sc (J (O (c 4) 0 G')) n n:=b.tmp (j:=4) Z Z (d _ Zd) Za Z;have l:a.eval (.tmp 15)=Sc (J (O (c 6) 0 G')) n n:=b.tmp (j:=6) Z Z (d _ Zd) Za Z;refine .inl ⟨Z,?_⟩;unfold Ex;show Sem.run _ (do let x ←im 118 (#[(0,Operand.tmp 9),(1,.tmp 11),(2,.tmp 13),(3,.tmp 15)].map λx=>(x.fst,a.eval x.snd));pure (jN x)) _=_;simp only[dq,cX,eE,A,B,C,l];kernel_rfl
  .have D:a.eval (.tmp 16)=.agg (wW bk n (c 2) (c 4) (c 6)):=b.tmp (j:=7) Z Z (d _ Zd) Za Z;refine .inr ⟨_,Z,?_⟩;unfold Ex;show Sem.run _ (do let x ←Instr.box 118 (a.eval (.tmp 16));pure (jN x)) _=_;simp only[D,tf,ai];kernel_rfl
  .have l:a.eval (.tmp 17)=Po (J (O (c 8) 0 G')):=b.tmp (j:=8) Z Z (d _ Zd) Za Z;exact .inl ⟨Z,zN Z l⟩
theorem c5T{B:RB}{r:Rk}(R:ml f B r)(g:r.nS<=6) :
  aF V 15 #[Po (J (O B.b 0 Q))] f λe a=>∃c,e=.returned (Po (J (O (c 8) 0 Q)))/\f.heap.size<=a.heap.size/\(∀k,k<f.heap.size->a.heap[k]?=f.heap[k]?)/\∃v:Wd,v.heap.size=f.heap.size/\Mk (tf B.b r.nS) (xr B.b r.nS) Bg v (bY 10 true) c a:=by
 go_enter Tryz.func15,Tryz.ntmps15
 have h:=R.k1
 go_wp2_with fail
 refine wp_region_draw (ops:=wJ) λt=>QP (v:={ f with drawn:=f.drawn+1 }) (bk:=B.b) (n:=r.nS) Za Z Z Z ?_ _ _ (_,_) _ (xZ Zd wJ t) ⟨_,oU.start _ _ _,Mk.start⟩;intro c i I;rename_i j l b;refine b _ _ ?_;have d:fill wJ (tf B.b r.nS c) #[Po (J (O B.b 0 Q)),Ud,Po Q,vi r.nS,Po (J (O B.b 0 Q)),Po (J (O B.b 0 Q)),Po (J (O B.b 1 Q)),Sc (J (O B.bp 0 Q)) r.nS B.cp,vi r.nS,Ud,Ud,Ud,Ud,Ud,Ud,Ud,Ud,Ud]
   = #[Po (J (O B.b 0 Q)),Ud,Po (J (O (c 8) 0 Q)),vi r.nS,Po (J (O B.b 0 Q)),Po (J (O B.b 0 Q)),Po (J (O B.b 1 Q)),Sc (J (O B.bp 0 Q)) r.nS B.cp,vi r.nS,Po (J (O B.b 0 Q)),vi r.nS,Sc (J (O (c 2) 0 Q)) r.nS r.nS,vi r.nS,Sc (J (O (c 4) 0 Q)) r.nS r.nS,vi r.nS,Sc (J (O (c 6) 0 Q)) r.nS r.nS,.agg (wW B.b r.nS (c 2) (c 4) (c 6)),Po (J (O (c 8) 0 Q))]:=by kernel_rfl
 rw[d];clear d b
 go_wp2_with fail
 go_ret
 exact⟨c,Z,I.oC.size,I.oC.block,{ f with drawn:=f.drawn+1 },Z,I⟩
variable{sft κ:Nat->Nat}{w w':Wd}{main:Bool}{B:RB}{r:Rk}
theorem d0p(i:Nat)(T:Fit sft w)(H:∀k,w.heap.size<=k->sft k=0)(R:pt sft w B r)(o:r.nS<=6):oL main sft 15 #[Po (J (O B.b 0 Q))] w λx w'=>nC sft [] w w'/\∃(b:Rl) (t:Nat->Nat),x=Po (J (O b.bl 0 Q))/\(∀k,k<w.heap.size->t k=κ k)/\(∀k,w.heap.size<=k->t k=0\/k<w'.heap.size/\oW i (t k))/\oh sft t i w' b B.b r.nS (λ_=>Q) (λ_=>s0) (λ_=>0) (λ_=>[]):=by
 refine xA T Zd (R:=λx v l=>∃c,x=Po (J (O (c 8) 0 Q))/\(∀k,k<v.heap.size->l.heap[k]?=v.heap[k]?)/\∃u:Wd,u.heap.size=v.heap.size/\Mk (tf B.b r.nS) (xr B.b r.nS) Bg u (bY 10 true) c l) (λd v A=>(c5T (R.lk A) o).mono λe l he=>?_) ?_
 .grind
 rintro d x v l w' A C a ⟨c,rfl,hB,u,hu,I⟩;have W:v.heap.size=w.heap.size:=A.size;have e2:l.heap.size=w'.heap.size:=C.size;have m:∀q y,(bY 10 true).getD q false=true->xr B.b r.nS c q=J y->w.heap.size<=c q/\c q<w'.heap.size/\w'.heap[c q]?=J y:=λq y E f=>by
  let⟨F,q2,G⟩:=I.made q y E f;rw[hu,W]at F;exact⟨F,by omega,(uq a C H F).trans G⟩
 have K:=m 2 _ Z Z;have L:=m 4 _ Z Z;have N:=m 6 _ Z Z;have n:=m 8 _ Z Z;have c':=I.apart 2 4 Z Z Z Z Zb;have d':=I.apart 2 6 Z Z Z Z Zb;have e':=I.apart 4 6 Z Z Z Z Zb;have f':=I.apart 8 2 Z Z Z Z Zb;have g':=I.apart 8 4 Z Z Z Z Zb;have h':=I.apart 8 6 Z Z Z Z Zb;have M:∀k,w.heap.size<=k->(if k<w.heap.size then κ k else if k=c 8 then cB i 0 else if k=c 2 then cB i 1 else if k=c 4 then cB i 2 else if k=c 6 then cB i 3 else 0)=if k=c 8 then cB i 0 else if k=c 2 then cB i 1 else if k=c 4 then cB i 2 else if k=c 6 then cB i 3 else 0:=λk a=>mY Za
 refine⟨⟨a.size,λj X _=>C5 (w:=w.at d) a A C (hB j Za),C.fit⟩,⟨c 8,c 2,c 4,c 6⟩,λk=>if k<w.heap.size then κ k else if k=c 8 then cB i 0 else if k=c 2 then cB i 1 else if k=c 4 then cB i 2 else if k=c 6 then cB i 3 else 0,Z,λk a=>mZ a,λk a=>?_,?_⟩
 .simp only[M k a]
  by_cases D:k=c 8
  .rw[mZ D];exact .inr ⟨by omega,rD Za⟩
  by_cases f:k=c 2
  .rw[mY D,mZ f];exact .inr ⟨by omega,rD Za⟩
  by_cases P:k=c 4
  .rw[mY D,mY f,mZ P];exact .inr ⟨by omega,rD Za⟩
  by_cases o:k=c 6
  .rw[mY D,mY f,mY P,mZ o];exact .inr ⟨by omega,rD Za⟩
  grind
 .have z:∀q y,(bY 10 true).getD q false=true->xr B.b r.nS c q=J y->sft (c q)=0:=λq y E f=>H _ (m q y E f).1;refine⟨by simp[aC,n.2.2,wW],by simp[aC,n.2.2,wW],by simp[aC,n.2.2,wW],by simp[aC,n.2.2,wW],λp S=>?_,λp S=>?_,λp j S X=>?_,λp s _ h=>(by cases h),λp _=>dc _ _ _ _,λp g _ h=>(by cases h),⟨⟨⟨_,_,n.2.2⟩,z 8 _ Z Z⟩,?_⟩,⟨⟨⟨_,_,K.2.2⟩,z 2 _ Z Z⟩,?_⟩,⟨⟨⟨_,_,L.2.2⟩,z 4 _ Z Z⟩,?_⟩,⟨⟨⟨_,_,N.2.2⟩,z 6 _ Z Z⟩,?_⟩,o⟩
  .simp only[aC,L.2.2];rw[Ej Za Zc];simp[mi]
  .simp only[aC,N.2.2];rw[Ej Za Zc];simp[mi]
  .simp only[aC,K.2.2];rw[Ej Za (by simp[fY])];simp only[Gb,fY];rw[bg (Nat.mod_lt _ Zc)];rfl
  all_goals grind
def yF:Nat->Nat
 | 0=>85|1=>86|2=>87|_=>55
def yE:Nat->Nat
 | 0=>71|1=>82|2=>87|_=>92
def yS:Nat->Nat
 | 0=>66|1=>72|2=>83|_=>88
def yO:Nat->Nat
 | 0=>68|1=>74|2=>85|_=>90
def yL:Nat->Nat
 | 0=>50|1=>51|2=>52|_=>53
def yZ:Nat->Nat
 | 0=>6|1=>20|2=>5|_=>5
def yB:Nat->Nat
 | 0=>48|1=>160|2=>40|_=>40
def yM(k:Nat):Int:=IntKind.i64.wrap (-9 - (k:Int))
def yV(c:Nat)(x:Int):List dM:=match c with
 | 0=>[i0,vi x,i0,i0,i0,i0]
 | 1=>[i0,vi x,i0,i0,b0,i0,b0,i0,b0,i0,b0,i0,b0,i0,b0,i0,b0,i0,b0,i0]
 | 2=>[vi x,i0,i0,i0,i0]
 | _=>[i0,i0,i0,i0,vi x]
theorem EG(c:Nat)(x:Int):(yV c x).length=yZ c:=by
 match c with
 | 0|1|2|(_+3)=>rfl
theorem d0B(c:Nat):0<yZ c:=by
 match c with
 | 0|1|2|(_+3)=>simp[yZ]
def yR(c:Nat)(x:Int)(m:Nat):List dM:=(List.replicate m (yV c x)).flatten
theorem Fb(c:Nat)(x:Int)(m:Nat):yR c x (m+1)=yR c x m++yV c x:=by
 unfold yR;rw[List.replicate_succ',List.flatten_append];simp
theorem zb(c:Nat)(x:Int):∀m,(yR c x m).length=m*yZ c
 | 0=>by simp[yR]
 | m+1=>by rw[Fb,List.length_append,zb c x m,EG,mH]
theorem GB(c:Nat)(x:Int):∀ {m j i:Nat},j<m->(yV c x)[i]?=J k->(yR c x m)[j*yZ c+i]?=J k
 | m+1,j,i,hj,hv=>by
  have a:i<yZ c:=by rw[←EG c x];grind
  rw[Fb]
  by_cases e:j=m
  .subst e;rw[la (by rw[zb];omega),zb]
   grind
  .have:(j+1)*yZ c<=m*yZ c:=jF _ Za;rw[mH]at this;rw[gC (by rw[zb];omega)];exact GB c x Za hv
theorem DZ{w:Wd}{base:Nat}{f:List Vu}(h:w.ownsRow base a b k c f)(e:k.ownBlock=J d):∃g t,w.heap[d]?=J (.cells g t (0,0)):=by
 obtain⟨j,⟨rfl,_⟩|⟨i,l,m,rfl,n,o,p⟩⟩:=h
 .cases e
 .obtain rfl:i=d:=Ze e
  grind
inductive BkB where
 | hd
 | ls (c:Nat)
 | mk (c k L:Nat)
def qL(κ:Nat->Nat)(A:Nat->Option BkB)(k:Nat):Nat:=if (A k).isSome then 6 else κ k
structure pG (sft κ:Nat->Nat) (w:Wd) (bb:Nat) (V:Nat->Vu) (N:Nat->Nat) (X:Nat->List Vu) (A:Nat->Option BkB):Prop where
 xO:∀c,c<4->w.cell? (O bb c Q)=J (V c)
 own:∀c,c<4->w.ownsRow 0 (yO c) 2 (V c) (N c) (X c)
 hd:A bb=J .hd
 ls:∀c g,c<4->(V c).ownBlock=J g->A g=J (.ls c)
 blk:∀g x,A g=J x->κ g=6/\F7 sft w g
 Az:∀g c k L,A g=J (.mk c k L)->∀j,j<L->w.rangeAt g (j*yZ c) (yV c (yM k))
 oG:∀c i,c<4->i<N c->∃a n cap k,(X c)[i*2]?=J (.slice a n cap)/\(X c)[i*2+1]?=J (vi (k:Nat))/\n<=8000000000000/\k<=8000000000000/\(0<n->∃g L,a=J (O g 0 Q)/\A g=J (.mk c k L)/\n<=L)
variable{bb:Nat}{V:Nat->Vu}{N:Nat->Nat}{A:Nat->Option BkB}{c k n m g cap:Nat}
section
variable{X:Nat->List Vu}
theorem pG.bl(B:pG sft κ w bb V N X A):F7 sft w bb/\κ bb=6:=⟨(B.blk _ _ B.hd).2,(B.blk _ _ B.hd).1⟩
theorem pG.form(B:pG sft κ w bb V N X A)(b:c<4):∃a p,V c=.slice a (N c) p:=by
 rcases(B.own c b).2 with⟨h,e⟩|⟨g,cap,d,h,_⟩
 all_goals grind
theorem pG.to{κ':Nat->Nat}(B:pG sft κ w bb V N X A)(l:F7 sft w' bb)(o:∀c,c<4->w'.cell? (O bb c Q)=J (V c))(p:∀g x,A g=J x->κ' g=κ g)(h:∀g x,A g=J x->g≠bb->w'.heap[g]?=w.heap[g]?):pG sft κ' w' bb V N X A:=by
 have d:∀ {g x},A g=J x->x≠.hd->g≠bb:=λ{g x} f q e=>q (by rw[e,B.hd]at f;exact(Ze f).symm);refine⟨o,λc b=>j5 (B.own c b) λg a=>h g _ (B.ls c g b a) (d (B.ls c g b a) Zc),B.hd,B.ls,λg x a=>⟨(p g x a).trans (B.blk g x a).1,?_⟩,λg c k L a j s i v t=>?_,B.oG⟩
 .by_cases e:g=bb
  .subst e;exact l
  .exact(B.blk g x a).2.of (h g x a e)
 .rw[Zf (w:=w) (h g _ a (d a Zc))];exact B.Az g c k L a j s i v t
theorem pG.same{κ':Nat->Nat}(B:pG sft κ w bb V N X A)(a:∀g x,A g=J x->κ' g=κ g)(h:∀g x,A g=J x->w'.heap[g]?=w.heap[g]?):pG sft κ' w' bb V N X A :=
 B.to (B.bl.1.of (h _ _ B.hd)) (λc b=>(Zf (w:=w) (a:=(O bb c Q)) (h _ _ B.hd)).trans (B.xO c b)) a λg x d _=>h g x d
theorem pG.mark(B:pG sft κ w bb V N X A)(H:A g=Q\/∃L,A g=J (.mk c k L)/\L<=m)(C:F7 sft w' bb)(D:∀c,c<4->w'.cell? (O bb c Q)=J (V c))(E:F7 sft w' g)(h:∀q x,A q=J x->q≠bb->q≠g->w'.heap[q]?=w.heap[q]?)(I:∀j,j<m->w'.rangeAt g (j*yZ c) (yV c (yM k))):pG sft (qL κ (ai A g (J (.mk c k m)))) w' bb V N X (ai A g (J (.mk c k m))):=by
 have gx:∀ {q x},A q=J x->q=g->∃L,x=.mk c k L/\L<=m:=λ{q x} l e=>by
  grind
 have K:ai A g (J (BkB.mk c k m)) g=J (.mk c k m):=by simp[ai]
 have o:∀ {q},q≠g->ai A g (J (BkB.mk c k m)) q=A q:=λh=>az _ _ h;have t:∀ {q x},A q=J x->x≠.hd->q≠bb:=λ{q x} l u e=>u (by rw[e,B.hd]at l;exact(Ze l).symm);have y:∀ {q d},A q=J (.ls d)->q≠g:=λl e=>by grind
 refine⟨D,λd f=>j5 (B.own d f) λq b=>h q _ (B.ls d q f b) (t (B.ls d q f b) Zc) (y (B.ls d q f b)),?_,λd q f b=>by rw[o (y (B.ls d q f b))];exact B.ls d q f b,λq x b=>⟨by unfold qL;rw[b];rfl,?_⟩,λq d j L b i s=>?_,λd i f s=>?_⟩
 .rw[o λe=>by let⟨L,e,_⟩:=gx B.hd e;cases e];exact B.hd
 .by_cases e:q=g
  .subst e;exact E
  .rw[o e]at b
   by_cases z:q=bb
   .subst z;exact C
   .exact(B.blk q x b).2.of (h q x b z e)
 .by_cases e:q=g
  .grind
  .rw[o e]at b;intro p v F;rw[Zf (w:=w) (h q _ b (t b Zc) e)];exact B.Az q d j L b i s p v F
 .let⟨a,P,R,S,l,u,T,W,G⟩:=B.oG d i f s
  grind
theorem pG.push{a:Option cx}{cp:Nat}(B:pG sft κ w bb V N X A)(u:c<4)(b:w'.ownsRow 0 (yO c) 2 (Sc (J (O g 0 Q)) (N c+1) cap) (N c+1) (X c++[.slice a n cp,vi k]))(H:(V c).ownBlock=J g\/w.heap.size<=g)(I:sft g=0)(K:F7 sft w' bb)(P:∀d,d<4->w'.cell? (O bb d Q)=J (nM V c (Sc (J (O g 0 Q)) (N c+1) cap) d))(h:∀q x,A q=J x->q≠bb->q≠g->w'.heap[q]?=w.heap[q]?)(l:n<=8000000000000/\k<=8000000000000)(G:0<n->∃g L,a=J (O g 0 Q)/\A g=J (.mk c k L)/\n<=L):pG sft (qL κ (ai A g (J (.ls c)))) w' bb (nM V c (Sc (J (O g 0 Q)) (N c+1) cap)) (nM N c (N c+1)) (nM X c (X c++[.slice a n cp,vi k])) (ai A g (J (.ls c))):=by
 have gx:∀ {q x},A q=J x->q=g->x=.ls c:=λ{q x} l e=>by
  subst e;rcases H with e|e
  .rw[B.ls c q u e]at l;exact(Ze l).symm
  .have:=(B.blk _ _ l).2.lt;omega
 have R:ai A g (J (BkB.ls c)) g=J (.ls c):=by simp[ai]
 have t:∀ {q},q≠g->ai A g (J (BkB.ls c)) q=A q:=λh=>az _ _ h;have y:∀ {q x},A q=J x->x≠.hd->q≠bb:=λ{q x} l z e=>z (by rw[e,B.hd]at l;exact(Ze l).symm);have M:∀ {q d k L},A q=J (.mk d k L)->q≠g:=λl e=>by cases gx l e
 have C:∀ {q d},A q=J (.ls d)->d≠c->q≠g:=λl o e=>o (BkB.ls.inj (gx l e));have xl:(X c).length=N c*2:=(B.own c u).1;refine⟨P,λd o=>?_,?_,λd q o f=>?_,λq x f=>⟨by unfold qL;rw[f];rfl,?_⟩,λq d j L f i s p v S=>?_,λd i o s=>?_⟩
 .unfold nM;split
  .grind
  .next e=>exact j5 (B.own d o) λq f=>h q _ (B.ls d q o f) (y (B.ls d q o f) Zc) (C (B.ls d q o f) e)
 .rw[t λe=>by cases gx B.hd e];exact B.hd
 .unfold nM at f;split at f
  .next e=>subst e;obtain rfl:g=q:=Ze f;exact R
  .next e=>rw[t (C (B.ls d q o f) e)];exact B.ls d q o f
 .by_cases e:q=g
  .subst e;exact⟨DZ b Z,I⟩
  .rw[t e]at f
   by_cases D:q=bb
   .subst D;exact K
   .exact(B.blk q x f).2.of (h q x f D e)
 .by_cases e:q=g
  .grind
  .rw[t e]at f;rw[Zf (w:=w) (h q _ f (y f Zc) e)];exact B.Az q d j L f i s p v S
 .have E:∀d i,d<4->i<N d->∃a n cap k,(X d)[i*2]?=J (.slice a n cap)/\(X d)[i*2+1]?=J (vi (k:Nat))/\n<=8000000000000/\k<=8000000000000/\(0<n->∃F L,a=J (O F 0 Q)/\ai A g (J (BkB.ls c)) F=J (.mk d k L)/\n<=L):=λd i o s=>by
   let⟨a,T,cp,W,l,z,h3,b',h4⟩:=B.oG d i o s
   grind
  unfold nM at s ⊢;split
  .next e =>
   subst e;rw[mZ Z]at s
   by_cases e:i=N d
   .subst e;refine⟨a,n,cp,k,?_,?_,l.1,l.2,λh0=>?_⟩
    .grind
    all_goals grind
   .let⟨a',T,c',W,q1,q2,q3⟩:=E d i o Za
    grind
  .next e=>rw[mY e]at s;exact E d i o s
end
theorem QR{c:Nat}(a:c<4):oY (yS c) (yE c) (yZ c) (yB c):=by
 cases c,(Za:c<4) using eL
 all_goals exact⟨by kernel_rfl,by kernel_rfl⟩
theorem MJ{c:Nat}(a:c<4):oY (yL c) (yO c) 2 32:=by
 cases c,(Za:c<4) using eL
 all_goals exact⟨by kernel_rfl,by kernel_rfl⟩
def Bf:Nat->Func
 | 0=>Tryz.f85|1=>Tryz.f86|2=>Tryz.f87|_=>Tryz.f55
theorem yn{c:Nat}(a:c<4):J'.funcs[yF c]?=J (Bf c):=by
 cases c,(Za:c<4) using eL
 .exact Tryz.func85
 .exact Tryz.func86
 .exact Tryz.func87
 .exact Tryz.func55
def yK1(c:Nat):List bh:=match (Bf c).body with
 | some (.seq _ (.seq _ (.seq (.seq _ (.block i (.loop (.seq (.seq x y) z)))) r)))=>[.code y,.code z,.inLoop (.seq (.seq x y) z),.inBlock i,.code r]
 | _=>[]
def OX(c:Nat):List bh:=match (Bf c).body with
 | some (.seq _ (.seq _ (.seq _ r)))=>[.code r]
 | _=>[]
def Te(c:Nat):List bh:=match (Bf c).body with
 | some (.seq _ (.seq _ (.seq _ (.seq _ (.seq _ (.block i (.loop (.seq (.seq x y) z))))))))=>[.code y,.code z,.inLoop (.seq (.seq x y) z),.inBlock i]
 | _=>[]
def FX:List Vu->Nat->Mem
 | [],_=>[]
 | v::r,i=>(1,i,.v v)::FX r (i+1)
abbrev EA(c:Nat)(V:Nat->Vu)(x:Int):Mem:=[(0,0,.v (V 0)),(0,1,.v (V 1)),(0,2,.v (V 2)),(0,3,.v (V 3))]++FX (yV c x) 0
abbrev Ey(l:Vu)(k:Nat):l9:=[(0,.c (.p 0 0)),(1,.c (.v l)),(4,.c (ci k)),(5,.c (.p 1 0))]
variable{b5:Nat}{W:List Nat}{Stop:Gr->Wd->Prop}{y:Fm'}{u:List Fm'}{w1 r t:Wd}{N0:Nat->Nat}{l0:Vu}{j:Nat}{s:Option cx}
section
variable{X:Nat->List Vu}
theorem Rq(hc:c<4)(e':g∈W)(H:g≠bb)(gw:g<w.heap.size)(f':sft g=0)(hn:n<=8000000000000)(h5:w.heap.size<=b5):∀(f i:Nat) (x:cZ) (w':Wd) (C:Array Vu),i+f=n->w'.heap[g]?=J (.cells C (yE c) (0,0))->n*yZ c<=C.size->(∀j,j<i->w'.rangeAt g (j*yZ c) (yV c (yM k))) ->
  fx sft W 0 w [(bb,0),(b5,0)] (EA c V (yM k)) 58 (Ey (Sc (J (O g 0 Q)) n cap) k++[(6,.c (ci i)),(19,.c (.v (Bo (decide ((i:Int)<n)))))]) x w' ->
  (∀(x:cZ) (r:Wd) (I:Array Vu),w'.heap.size<=r.heap.size->(∀q,q<w'.heap.size->q≠g->q≠bb->q≠b5->r.heap[q]?=w'.heap[q]?)->r.heap[g]?=J (.cells I (yE c) (0,0))->I.size=C.size->(∀j,j<n->r.rangeAt g (j*yZ c) (yV c (yM k)))->fx sft W 0 w [(bb,0),(b5,0)] (EA c V (yM k)) 58 (Ey (Sc (J (O g 0 Q)) n cap) k) x r->iv J' main true sft Stop (G ((aQ (yF c)).at x (OX c)) (y::u)) r)->iv J' main true sft Stop (G ((aQ (yF c)).at x (yK1 c)) (y::u)) w':=by
 intro f
 induction f with
 | zero =>
  intro i x w' C hi D hz S M T;obtain rfl:i=n:=by omega
  cases c,(Za:c<4) using eL
  all_goals
   refine nR M Z Zc<|p7 1 2 [] M Z Z mX λa2 r M2 l=>?_;have z:∀q,q<w'.heap.size->q≠bb->q≠b5->r.heap[q]?=w'.heap[q]?:=λq a b d=>l.old q a λj h=>by
    have h:j<2:=h;obtain rfl|rfl:j=0\/j=1:=by omega
    .exact aA b
    .exact aA d
   have lg:=(Zj D).1;have E:=z g lg H Za;exact T a2 r C l.size (λq a _ b d=>z q a b d) (E.trans D) Z (λj h p v F=>(Zf (w:=w') (a:=(O g _ Q)) E).trans (S j h p v F)) (M2.oo 2 [0,1,4,5] Z Z)
 | succ f ih =>
  intro i x w' C hi D hz S M T;have e1:=C7 (n:=i) Za;have c':(i+1)*yZ c<=n*yZ c:=jF _ Za;rw[mH]at c';cases c,(Za:c<4) using eL
  all_goals
   refine nV M Z (decide_eq_true Za)<|p7 200 2 [] M Z Z ⟨mX,by omega⟩ λa2 r M2 l=>?_;have z:∀ {wi wj:Wd},Kq [(bb,0),(b5,0)] wi wj->∀q,q<wi.heap.size->q≠bb->q≠b5->wj.heap[q]?=wi.heap[q]?:=λl q a b d=>l.old q a λj h=>by
    have h:j<2:=h;obtain rfl|rfl:j=0\/j=1:=by omega
    .exact aA b
    .exact aA d
   have lg:=(Zj D).1;have E:=z l g lg H Za;refine Qp M2 Z Z Z Z Z Z Z Z Z (E.trans D) f' (.inl e') (λj h=>?_) (λq a=>?_) λt c3 K h3 z3 g' o3 M3=>?_
   .have h:j<2:=h;obtain rfl|rfl:j=0\/j=1:=by omega
    .exact aA H
    .show b5≠g;omega
   .rw[Zf (w:=w') (a:=(O g _ Q)) E];simp only[aC,D];rw[bg (by simp[yZ]at a c' hz ⊢;omega)];rfl
   .refine p7 200 2 [] M3 Z Z mX λa4 w4 M4 L=>?_;have l3:=(Zj h3).1;have e4:=z L g l3 H Za;have ce:=λo=>Zf (w:=t) (w':=w4) (a:=(O g o Q)) e4;have P:=M4.oo 2 [0,1,4,5,6,19] Z Z;rw[e1]at P;have h':∀q,q<w'.heap.size->q≠g->q≠bb->q≠b5->w4.heap[q]?=w'.heap[q]?:=λq a R b d=>by
     have:=l.size;have:=K.size;rw[z L q Za b d,K.old q Za (by simpa using R),z l q a b d]
    refine ih (i+1) a4 w4 c3 Za (e4.trans h3) Za (λj h p v F=>?_) P λx w5 I l' h5 i' j' k' P=>T x w5 I (by have:=l.size;have:=K.size;have:=L.size;omega) (λq a R b d=>(h5 q (by have:=l.size;have:=K.size;have:=L.size;omega) R b d).trans (h' q a R b d)) i' (j'.trans z3) k' P;rw[ce];have hp:=(bD.1 F).1;rw[EG]at hp
    by_cases e:j=i
    .subst e;have d':=congrArg (Option.map nI.v) F;rw[←bO]at d';have:=g' p (.v v) d';simpa[yZ,nI.den] using this
    .rw[o3 _ (.inl (by simp only[yZ]at hp ⊢;omega)),Zf (w:=w') (a:=(O g _ Q)) E];exact S j Za p v F
structure Yo (sft κ:Nat->Nat) (w:Wd) (bb b5 c k:Nat) (N0:Nat->Nat) (l0:Vu) (V:Nat->Vu) (N:Nat->Nat) (X:Nat->List Vu) (A:Nat->Option BkB) (l:Vu) (n j:Nat) (w':Wd):Prop where
 b:pG sft (qL κ A) w' bb V N X A
 row:w'.ownsRow 0 (yE c) (yZ c) l n (yR c (yM k) n)
 lb:∀g,l.ownBlock=J g->A g=J (.mk c k n)
 nc:N c=k+j
 nd:∀d,d≠c->N d=N0 d
 old:∀q,q<w.heap.size->(A q).isSome=true->κ q=6\/l0.ownBlock=J q
 wP:A b5=Q/\w.heap.size<=b5
abbrev yW(κ:Nat->Nat)(w:Wd)(l0:Vu):List Nat:=oN κ w.heap.size (λx=>aG x 6)++l0.ownBlock.toList
theorem Hj{A a:Nat->Option BkB}(h:∀q,(A q).isSome=true->(a q).isSome=true):qL (qL κ A) a=qL κ a:=by
 funext q;unfold qL
 grind
theorem Yo.wr(b:Yo sft κ w bb b5 c k N0 l0 V N X A (.slice s n cap) n j w1){x:BkB}(h:A a=J x):a∈yW κ w l0\/w.heap.size<=a:=by
 rcases bQ a w.heap.size with d|d
 .refine .inl ?_;rcases b.old a d (by rw[h];rfl) with e|e
  .exact fK _ (A6.2 ⟨d,by rw[e];rfl⟩)
  grind
 .exact .inr d
theorem Yo.ne(b:Yo sft κ w bb b5 c k N0 l0 V N X A (.slice s n cap) n j w1){x:BkB}(h:A a=J x)(d:x≠.hd):a≠bb/\a≠b5:=⟨λe=>d (by rw[e,b.b.hd]at h;grind),λe=>by rw[e,b.wP.1]at h;cases h⟩
theorem Iq{P:Nat->Prop}(b:P bb)(d:P b5):∀i,i < [(bb,0),(b5,0)].length->P (nJ [(bb,0),(b5,0)] i).1:=λi a=>by
 have a:i<2:=a;obtain rfl|rfl:i=0\/i=1:=by omega
 .exact b
 .exact d
theorem Em(q:Kq [(bb,0),(b5,0)] w1 r){k:Nat}(h:k<w1.heap.size)(a:k≠bb)(b:k≠b5):r.heap[k]?=w1.heap[k]?:=q.old k h (Iq (P:=λx=>x≠k) (aA a) (aA b))
theorem Yo.kq(a:Yo sft κ w bb b5 c k N0 l0 V N X A (.slice s n cap) n j w1)(q:Kq [(bb,0),(b5,0)] w1 r)(d:F7 sft r bb)(f:∀c,c<4->r.cell? (O bb c Q)=J (V c)):Yo sft κ w bb b5 c k N0 l0 V N X A (.slice s n cap) n j r :=
 ⟨a.b.to d f (λ_ _ _=>rfl) λg x b h=>Em q (a.b.blk g x b).2.lt h (λe=>by rw[e,a.wP.1]at b;cases b),j5 a.row λg b=>Em q (j8 a.row b).2 (a.ne (a.lb g b) Zc).1 (a.ne (a.lb g b) Zc).2,a.lb,a.nc,a.nd,a.old,a.wP⟩
theorem Yo.Be(a:Yo sft κ w bb b5 c k N0 l0 V N X A (.slice s n cap) n j w1)(d:c<4):oM sft (yW κ w l0) w [(bb,0),(b5,0)] 0 (yO c) 2 (V c) (N c) (X c) w1 :=
 ⟨a.b.own c d,λg b=>(a.b.blk g _ (a.b.ls c g d b)).2.2,λg b=>a.wr (a.b.ls c g d b),λg b=>Iq (P:=λx=>x≠g) (aA (a.ne (a.b.ls c g d b) Zc).1) (aA (a.ne (a.b.ls c g d b) Zc).2)⟩
theorem Yo.FF(a:Yo sft κ w bb b5 c k N0 l0 V N X A (.slice s n cap) n j w1):oM sft (yW κ w l0) w [(bb,0),(b5,0)] 0 (yE c) (yZ c) (.slice s n cap) n (yR c (yM k) n) w1 :=
 ⟨a.row,λg b=>(a.b.blk g _ (a.lb g b)).2.2,λg b=>a.wr (a.lb g b),λg b=>Iq (P:=λx=>x≠g) (aA (a.ne (a.lb g b) Zc).1) (aA (a.ne (a.lb g b) Zc).2)⟩
theorem Yo.push{g cp:Nat}(a:Yo sft κ w bb b5 c k N0 l0 V N X A (.slice s n cap) n j w1)(p:c<4)(K:n<=8000000000000)(L:k<=8000000000000)(z:nC sft (V c).ownBlock.toList w1 r)(f:oM sft (yW κ w l0) w [(bb,0),(b5,0)] 0 (yO c) 2 (Sc (J (O g 0 Q)) (N c+1) cp) (N c+1) (X c++[.slice s n cap,vi k]) r)(l:(V c).ownBlock=J g\/w1.heap.size<=g/\nC sft [] w1 r)(C:Kq [(bb,0),(b5,0)] r t)(R:F7 sft t bb)(S:∀d,d<4->t.cell? (O bb d Q)=J (nM V c (Sc (J (O g 0 Q)) (N c+1) cp) d)) :
  Yo sft κ w bb b5 c k N0 l0 (nM V c (Sc (J (O g 0 Q)) (N c+1) cp)) (nM N c (N c+1)) (nM X c (X c++[.slice s n cap,vi k])) (ai A g (J (.ls c))) (.slice s n cap) n (j+1) t:=by
 have gn:g≠bb/\g≠b5:=⟨aA (f.ne g Z 0 Zc),aA (f.ne g Z 1 Zc)⟩;have T:=(j8 f.row (g:=g) Z).2;have D:∀q,q<w1.heap.size->q≠bb->q≠b5->q≠g->t.heap[q]?=w1.heap[q]?:=λq b i v G=>by
  rw[Em C (Zg b z.size) i v];rcases l with e|⟨_,e⟩
  .exact z.old q b (by rw[e];simpa using G)
  .exact e.old q b Zc
 have up:∀q,(A q).isSome=true->(ai A g (J (BkB.ls c)) q).isSome=true:=λq b=>by
  by_cases e:q=g
  .subst e;simp[ai]
  .rw[az _ _ e];exact b
 have E:∀ {q x},A q=J x->q=g->x=.ls c:=λ{q x} i e=>by
  subst e;rcases l with e|⟨e,_⟩
  .rw[a.b.ls c q p e]at i;grind
  .have:=(a.b.blk _ _ i).2.lt;omega
 have P:=a.b.push (w':=t) (g:=g) (cap:=cp) (a:=s) (n:=n) (cp:=cap) (k:=k) p (j5 f.row λo M=>by obtain rfl:g=o:=Ze M;exact Em C T gn.1 gn.2) (l.imp_right (·.1)) (f.sf g Z) R S (λq x b i v=>D q (a.b.blk q x b).2.lt i (λe=>by rw[e,a.wP.1]at b;cases b) v) ⟨K,L⟩ (λh0=>by
  rcases a.row.2 with⟨_,e⟩|⟨o,_,_,e,_⟩
  .omega
  .let⟨e,_,_⟩:=gT e;subst e
   exact⟨o,n,Z,a.lb o Z,af _⟩)
 rw[Hj up]at P;refine⟨P,j5 a.row λq b=>?_,λq b=>?_,by simp only[nM,if_true];rw[a.nc];omega,λd F=>by unfold nM;rw[mY F];exact a.nd d F,λq b H=>?_,?_,a.wP.2⟩
 .have I:=a.ne (a.lb q b) Zc;exact D q (j8 a.row b).2 I.1 I.2 λe=>by cases E (a.lb q b) e
 .rw[az _ _ λe=>by cases E (a.lb q b) e];exact a.lb q b
 .by_cases e:q=g
  .subst e;rcases l with e|⟨e,_⟩
   .exact a.old q b (by rw[a.b.ls c q p e];rfl)
   .have:=f.wr q Z;rcases this with h|h
    .rcases bZ.1 h with h|h
     .exact .inl (Zl (A6.1 h).2)
     grind
    .omega
  .rw[az _ _ e]at H;exact a.old q b H
 .rw[az _ _ (aA gn.2)];exact a.wP.1
theorem Yo.more{g:Nat}(b:Yo sft κ w bb b5 c k N0 l0 V N X A (.slice s n cap) n j w1)(C:nC sft (di s n cap).ownBlock.toList w1 r)(l:oM sft (yW κ w l0) w [(bb,0),(b5,0)] 0 (yE c) (yZ c) (Sc (J (O g 0 Q)) (n+1) a) (n+1) (yR c (yM k) (n+1)) r)(o:(di s n cap).ownBlock=J g\/w1.heap.size<=g/\nC sft [] w1 r)(D:F7 sft r bb)(E:∀d,d<4->r.cell? (O bb d Q)=J (V d)) :
  Yo sft κ w bb b5 c k N0 l0 V N X (ai A g (J (.mk c k (n+1)))) (Sc (J (O g 0 Q)) (n+1) a) (n+1) j r:=by
 have gn:g≠bb/\g≠b5:=⟨aA (l.ne g Z 0 Zc),aA (l.ne g Z 1 Zc)⟩;have F:∀q,q<w1.heap.size->q≠g->r.heap[q]?=w1.heap[q]?:=λq f H=>by
  rcases o with e|⟨_,e⟩
  .exact C.old q f (by rw[e];simpa using H)
  .exact e.old q f Zc
 have up:∀q,(A q).isSome=true->(ai A g (J (BkB.mk c k (n+1))) q).isSome=true:=λq f=>by
  by_cases e:q=g
  .subst e;simp[ai]
  .rw[az _ _ e];exact f
 have P:=b.b.mark (w':=r) (g:=g) (c:=c) (k:=k) (m:=n+1) (by
  rcases o with e|⟨e,_⟩
  .exact .inr ⟨n,b.lb g e,by omega⟩
  .cases h:A g with
   | none=>exact .inl Z
   | some x=>have:=(b.b.blk g x h).2.lt;omega) D E ⟨DZ l.row Z,l.sf g Z⟩ (λq x f _ I=>F q (b.b.blk q x f).2.lt I) (λi K p v L=>by
  have:=l.row.cells (g:=g) Z _ _ (GB c (yM k) K L);rw[eG,aE]at this
  exact this)
 rw[Hj up]at P;refine⟨P,l.row,λq f=>by obtain rfl:g=q:=Ze f;simp[ai],b.nc,b.nd,λq f z=>?_,?_,b.wP.2⟩
 .by_cases e:q=g
  .subst e;rcases l.wr q rfl with h|h
   .rcases bZ.1 h with h|h
    .exact .inl (Zl (A6.1 h).2)
    grind
   .omega
  .rw[az _ _ e]at z;exact b.old q f z
 .rw[az _ _ (aA gn.2)];exact b.wP.1
end
end
end
end Go.Proofs.YtcgabodkegcpgaaGreatDoor