/- A struct of lists that grow by append, each in a block of its own. -/
import Derived.Test.YtcgabodkegcpgaaGreatDoorAaa
import Derived.Test.YtcgabodkegcpgaaGreatDoorMca
import Derived.Test.YtcgabodkegcpgaaGreatDoorEnp
import Derived.Laws.OwnMore
import Derived.Test.YtcgabodkegcpgaaGreatDoorMxg
import Derived.Deep.RegionLaw
set_option linter.unusedVariables false
set_option linter.unusedSimpArgs false
set_option maxHeartbeats 20000000
set_option maxRecDepth 100000
open Option renaming some->J,none->Q,none->G',map_some->aF,isSome_iff_exists->cL,getD_some->cW
open Go.Proofs.Tryz renaming prog->V,prog->J',func51->dB,isAgg3->eG,func32->gy,func19->gC,func17->gE,underlying3->gR,ntmps17->gV,func22->iJ,func20->iL,func48->iW,underlying72->jz,underlying82->jS,func53->jY,ntmps43->ly,ntmps42->lz,ntmps41->lA,func43->mq,func42->mr,func41->mu,underlying112->ng,func24->ni
open Go renaming World->Wd,Value->Vu,undef->Ud,Frame->Fm',Goroutine->Gr,TypeId->Ti,execOp->Ex,Program->Pg,Calls->aG,Oper->aN,Operand->aU,Item->bm,FuncId->bF,Addr->cC,heap_alloc_new->cE,Act->db,Value->dQ,wpList_store_mid->eh,run_underlying->eT,madeCells->eU,Machine->fM,wpList_load_mid->fR,wpList->gN,maxLen->gO,Act->ig,TypeInfo->iD,run_equalIn_int->iI,Trace->jD,cell_of_row->jR,wpList_append_lies->kX
open Go.Value renaming int->Y,pointer->Po,slice->Sc,bool->Bo,slice->dm,int->dO,cells->gv,oneCell'->kE
open Go.IntKind renaming i64->U,i64->J'
open Go.Addr renaming mk->O,add_mid->eO
open List renaming mem_cons->ae,not_mem_nil->ai,range->aM,size_toArray->aR,all_eq_true->aV,getElem?_eq_some_iff->bj,getElem?_map->bZ,cons_append->cy,mem_append->cz,mem_singleton->cD,append_nil->cH,getD_eq_getElem?_getD->cK,mem_append_right->cN,getElem?_range->cY,map_cons->cZ,mem_map->dn,map_toArray->du,nil_append->dS,append_cancel_left->eJ,map_nil->eK,mem_range->eX,mem_append_left->fP,range'->ie,zipIdx_cons->jU,map_map->mF,getElem?_append_left->mQ
open Nat renaming le_refl->af,zero_add->aE,beq->aI,add_assoc->aS,zero_le->bh,lt_or_ge->bU,zero_lt_one->eP,mul_le_mul_right->fQ,ble->ga,lt_irrefl->iO,sub_zero->iQ,add_zero->kH,add_mul->lL,mod_one->mP,le_of_ble_eq_true->nJ
open Go.ConcN renaming upd->aj,upd_ne->az,upd_same->aH
open Go.RowKit renaming Hid->ar,Below->bG,intOf->bM,wrap64->iU
open Int renaming toNat_natCast->au,tmod_eq_emod_of_nonneg->bg,eq_ofNat_of_zero_le->cV,ofNat_tmod->gi
open Prod.mk renaming inj->ax,injEq->cU
open Go.Frame renaming enter->ay
open Ne renaming symm->aA
open Bool renaming and_eq_true->aC,false_eq_true->aJ,or_eq_true->da,eq_false_iff->gJ
open Go.World renaming cell?->aD,ownsRow_nil->dh,rangeAt_setCells_same->fC
open Go.RowKit.Below renaming heap_alloc->aK,refl->bD,heap_setCell->eN
open Go.Result renaming andThen_ok->aQ
open Go.CallKind renaming normal->aX
open Array renaming getD_eq_getD_getElem?->aY,getElem?_eq_getElem->bE,replicate->cx,getElem?_setIfInBounds_ne->cX,getElem?_eq_none->dJ,getElem?_replicate->gq,any_eq_true'->mW
open Or renaming inr->ba,inl->bT
open Option.some renaming injEq->bz
open Go.Sem renaming run_bind->bJ,run_pure->eH,runT_fst->jr
open Go.Region renaming wanted->bR,binds->cM
open And renaming intro->dg
open Go.Op renaming equalIn->dq
open Go.Instr renaming fill->dN,index->gp,makeSlice->iB,build->iG,buildSlice->jQ
open Go.Calls renaming quiet_of_same->fq
open Go.IntWalk renaming i64_in->ib
open Go.Conc renaming Seat->ic
open Std.Legacy.Range renaming forIn_eq_forIn_range'->iX,size->kO
open Go.Next renaming value->km
namespace Go.Proofs.YtcgabodkegcpgaaGreatDoor
noncomputable section
open Go.RowKit
variable{a b c d:Nat}{e f:Wd}{g h i:Int}{j k:Vu}{l m:Ti}{n:Array aN}{o:List aN}{p:aN}{q r:Nat->Nat}{s t:Nat->Vu}{u:db}{v:Array Vu}
section
structure yQ where
 T:Ti
 m:Nat
 ty:Nat->Ti
 sz:Nat->Nat
structure T8 (L:yQ) (w:Wd) (b base:Nat) (V:Nat->Vu) (N:Nat->Nat) (X:Nat->List Vu):Prop where
 str:w.rowIs b L.T L.m V
 own:∀c,c<L.m->w.ownsRow base (L.ty c) (L.sz c) (V c) (N c) (X c)
 apart:∀c c',c<L.m->c'<L.m->c≠c'->(V c).ownBlock=Q\/(V c).ownBlock≠(V c').ownBlock
 pX:∀c,c<L.m->(V c).ownBlock≠J b
variable{L:yQ}{w w2:Wd}{b base:Nat}{V:Nat->Vu}{N:Nat->Nat}{X:Nat->List Vu}
def yQ.is(L:yQ)(b:Nat)(V:Nat->Vu)(k:Nat):Prop:=k=b\/∃c,c<L.m/\(V c).ownBlock=J k
theorem T8.same(h:T8 L w b base V N X)(d:∀k,k<w.heap.size->L.is b V k->w2.heap[k]?=w.heap[k]?):T8 L w2 b base V N X:=by
 refine⟨h.str.of_block (d _ h.str.lt (bT Z)),λc a=>⟨(h.own c a).1,?_⟩,h.apart,h.pX⟩;rcases(h.own c a).2 with i|⟨g,j,l,e,m,f,n⟩
 .exact bT i
 .exact ba ⟨g,j,l,e,m,by rw[d g (Zj f).1 (ba ⟨c,a,by rw[e];rfl⟩)];exact f,n⟩
theorem T8.alloc(h:T8 L w b base V N X)(o:Obj):T8 L (w.alloc o) b base V N X:=h.same λk a _=>aK w o k a
theorem T8.cell(h:T8 L w b base V N X)(c:a<L.m):w.cell? (O b a Q)=J (V a):=h.str.cell c
theorem T8.grown(h:T8 L w b base V N X){c:Nat}(r:c<L.m)(v:w.grownBy w2 (V c).ownBlock){m:Nat}{x:List Vu}(B:w2.ownsRow base (L.ty c) (L.sz c) (Sc (J (O a 0 Q)) d m) d x)(l:(V c).ownBlock=J a\/a=w.heap.size) :
  T8 L (w2.setCell (O b c Q) (Sc (J (O a 0 Q)) d m)) b base (up V c (Sc (J (O a 0 Q)) d m)) (up N c d) (up X c x):=by
 generalize C:dm (J (O a 0 Q)) d m=u at *;have s:u.ownBlock=J a:=by rw[←C];rfl
 have D:a≠b:=by
  rcases l with l|l
  .intro e;exact h.pX c r (by rw[l,e])
  .have:=h.str.lt;omega
 have E:w2.heap[b]?=w.heap[b]?:=v.block b h.str.lt λe=>h.pX c r e.symm;have F:∀i,i≠b->(w2.setCell (O b c Q) u).heap[i]?=w2.heap[i]?:=λi y=>eN w2 _ u i (by simpa using y);have gs:w2.grownBy (w2.setCell (O b c Q) u) (J b):=⟨Z,Z,Z,by simp_all,λi y H=>F i λe=>H (by rw[e])⟩;refine⟨?_,?_,?_,?_⟩
 .refine((h.str.of_block E).set c u).congr λj R=>?_;unfold up
  grind
 .intro f g
  by_cases e:f=c
  .subst e;rw[Y0,Y0,Y0];exact B.kept gs (ba (by grind))
  .rw[D5 e,D5 e,D5 e];have I:=(h.own f g).kept v (h.apart f c g r e);exact I.kept gs (ba (h.pX f g))
 .intro f n g t o;have S:∀p,p<L.m->∀k,(V p).ownBlock=J k->k<w.heap.size:=λp K k P=>((h.own p K).lt k P).2
  by_cases z:f=c
  .subst z;rw[Y0,D5 (aA o),s];right;intro e;rcases l with l|l
   .rcases h.apart f n g t o with q|q
    all_goals grind
   grind
  .rw[D5 z]
   by_cases A:n=c
   .subst A;rw[Y0,s];rcases h.apart f n g t o with q|q
    all_goals grind
   .rw[D5 A];exact h.apart f n g t o
 .intro f g
  by_cases e:f=c
  .subst e;rw[Y0,s];intro e;injection e with e;exact D e
  .rw[D5 e];exact h.pX f g
structure GS (L:yQ) (w w2:Wd) (b base:Nat) (V:Nat->Vu) (N:Nat->Nat) (X:Nat->List Vu) (c g cap:Nat) (news:List Vu):Prop where
 lists:T8 L (w2.setCell (O b c Q) (Sc (J (O g 0 Q)) (N c+1) cap)) b base (up V c (Sc (J (O g 0 Q)) (N c+1) cap)) (up N c (N c+1)) (up X c (X c++news))
 row:w2.rowIs b L.T L.m V
 grown:w.grownBy w2 (V c).ownBlock
 YY:(V c).ownBlock=J g\/g=w.heap.size
theorem Se{P:Pg}(h:T8 L w b base V N X){c:Nat}(l:c<L.m){i:iD}(t:Ti)(y:P.underlying t=J (.slice (L.ty c)))(z:P.info? (L.ty c)=J i)(A:i.zero=J j)(B:i.size=L.sz c)(C:i.bytes=a)(D:j.cells.size=L.sz c)(E:0<L.sz c)(m:cC)(r:Nat)(d:List Vu)(hl:d.length=L.sz c)(F:∀v u,d[v]?=J u->w.cell? (m.add v)=J u)(H:∀u∈d,u.oneCell'=true)(I:N c+1<=gO)(K:(N c+1)*a<=140737488355328)(R:base<=w.heap.size){f:ig}{Q:Exit->ig->Wd->Prop}(S:p.guard=G')(s x:aU)(T:p.op=.call { callee:=.builtin .append,args:=#[s,x],argTypes:=#[t,t] })(W:f.eval s=V c)(G:f.eval x=Sc (J m) 1 r)(M:∀g k w2,GS L w w2 b base V N X c g k d->gN P n Q o (f.put p.dst (Sc (J (O g 0 G')) (N c+1) k)) w2) :
  gN P n Q (p::o) f w:=by
 refine kX _ S s x t T base (L.ty c) i j (L.sz c) a y z A B C D E (V c) (N c) (X c) W (h.own c l) m 1 r d G (by grind) F H Za I K R w.heap.size Z ?_;intro g k w2 o2 q ox b';exact M g k w2 ⟨h.grown l q o2 ox,h.str.of_block (q.block b h.str.lt λe=>h.pX c l e.symm),q,ox⟩
theorem Dt{w:Wd}{C:List Vu}{t:Ti}(j:Nat)(u:Vu)(a:C[j]?=J u):(w.alloc (.cells C.toArray t)).cell? (((O w.heap.size 0 Q):cC).add j)=J u:=by
 have c:=cE w (.cells C.toArray t);rw[eO,aE,jR _ _ j _ _ _ c];simpa using a
def tR(f:Nat->Vu)(n:Nat):List dQ:=(aM n).map f
theorem c8o(n j:Nat)(h:j<n):(tR s n)[j]?=J (s j):=by unfold tR;grind
theorem Ss(f:Nat->Vu)(n m:Nat):tR f (n+m)=tR f n++(aM m).map (λj=>f (n+j)):=by
 unfold tR;rw[List.range_add,List.map_append,mF];rfl
theorem b4S(f:List Vu):∀(k:Nat) (d:List Vu) (z:Array Vu),z.size=k+f.length->d.length=k->(∀j,j<k->z[j]?=d[j]?) ->
  (f.zipIdx k).foldl (λ(a:Array Vu) (x:Vu×Nat)=>a.setIfInBounds x.2 x.1) z=(d++f).toArray:=by
 induction f with
 | nil =>
  intro k d z g m l;simp only[List.zipIdx_nil,List.foldl_nil,cH];apply Array.ext_getElem?;intro i
  by_cases h:i<k
  .rw[l i h];simp
  .simp at g;rw[dJ Za,dJ (by simp;omega)]
 | cons c f n =>
  intro k d z g m l;simp only[jU,List.foldl_cons];rw[n (k+1) (d++[c]) _ (by simp at g ⊢;omega) (by simp;omega) ?_]
  .simp
  .intro j o
   by_cases e:j=k
   .subst e;rw[Array.getElem?_setIfInBounds_self,nT (by simp at g;omega),←m];simp
   .rw[cX Za,l j Za,mQ Za]
theorem SQ{P:Pg}(w:Wd)(t c:Ti)(i:iD)(z:Vu)(a:List Vu)(m:Nat)(e:P.underlying t=J (.slice c))(f:P.info? c=J i)(g:i.zero=J z)(h:i.size=m)(n:a.length=m)(o:z.cells.size=m)(p:0<m)(k:m<=16777216) :
  (jQ t 1 #[(0,.agg a.toArray)]).run P w=.ok (Sc (J (O w.heap.size 0 Q)) 1 1) (w.alloc (.cells a.toArray c)):=by
 have d:dN (λi=>J (i*m,m)) ((Array.range (1*m)).map (z.cells[·%z.cells.size]!)) [(0,.agg a.toArray)]=J a.toArray:=by
  unfold dN;have l:(Value.agg a.toArray).cells=a.toArray:=Z;simp only[Nat.zero_mul,aE,l];rw[nR (by simp;omega)];unfold dN
  congr 1
  have:=b4S a 0 [] ((Array.range (1*m)).map (z.cells[·%z.cells.size]!)) (by simp;omega) Z (λj q=>by omega);simp only[dS]at this;rw[←Array.foldl_toList];simpa using this
 simp only[Nat.one_mul]at d;simp[jQ,eT e,sizeOf,typeInfo,zeroValue,f,g,h,newRow,Nat.not_lt.2 k,show m≠0 by omega,d]
theorem Un{P:Pg}{w:Wd}{Q:Exit->db->Wd->Prop}(d:p.guard=G'){x:aU}(t a:Ti)(e:p.op=.buildSlice t 1 #[(0,x)])(i:iD)(z:Vu)(c:List Vu)(m:Nat)(f:u.eval x=.agg c.toArray)(g:P.underlying t=J (.slice a))(j:P.info? a=J i)(k:i.zero=J z)(l:i.size=m)(q:c.length=m)(r:z.cells.size=m)(s:0<m)(v:m<=16777216)(h:gN P n Q o (u.put p.dst (Sc (J (O w.heap.size 0 G')) 1 1)) (w.alloc (.cells c.toArray a))):gN P n Q (p::o) u w:=by
 refine wpList_plain d λK y=>?_;unfold Oper.wp;simp[Ex,e,f,SQ w t a i z c m g j k l q r s v,Result.andThen];exact y _ _ h
theorem Fb{P:Pg}{w:Wd}{Q:Exit->db->Wd->Prop}(e:p.guard=G')(d:Ti)(x y:aU)(f:p.op=.store d x y)(b c:Nat)(a:Array Vu)(g:u.eval x=Po (J (O b c G')))(i:u.eval y=.agg a)(j:w.there b c a.size)(k:(P.info? d).map (·.size)=J a.size)(l:a.all (·.oneCell')=true)(h:∀W,W=w.setCells b c a.toList->gN P n Q o (u.put p.dst Ud) W):gN P n Q (p::o) u w :=
 eh e d x y f b c a g i j k l (h _ Z)
theorem MC(w:Wd)(C:Array Vu)(t:Ti)(a:List Vu)(m:Nat)(c:C.size=m)(g:a.length=m)(f:Nat->Vu)(d:∀j,j<m->a[j]?=J (f j)) :
  ((w.alloc (.cells C t)).setCells w.heap.size 0 a.toArray.toList).rowIs w.heap.size t m f/\bG w.heap.size w ((w.alloc (.cells C t)).setCells w.heap.size 0 a.toArray.toList)/\((w.alloc (.cells C t)).setCells w.heap.size 0 a.toArray.toList).heap.size=w.heap.size+1:=by
 have h:=C6 a.toArray.toList 0 (K9 w C t);rw[c]at h;refine⟨h.congr λj e=>?_,p9 (af _) _ _ ((bD _ _).alloc (af _) _),by rw[l9];simp⟩;rw[nT ⟨bh _,by simp;omega⟩,iQ,cK];simp[d j e]
theorem LG{w:Wd}(h:v.size=a):(w.alloc (.cells v l)).there w.heap.size 0 a :=
 D6 (K9 w v l) (o:=0) (m:=a) Za
attribute [local go_sem ↓] Go.wp_at_zero Go.wp_at_succ
def qO(K:aa)(c:Nat):Nat:=if c=0 then K.nF else if c=1 then K.nS else K.nD
def pJ(c:Nat):Nat:=if c=0 then 6 else if c=1 then 20 else 5
def qF(K:aa)(c:Nat):Nat->dQ:=if c=0 then U8 K else if c=1 then A6 K else tA K
def vJ(w:Wd)(K:aa)(a:Nat->Option cC)(g:Nat->Nat):Prop :=
 ∀c,c<3->0<qO K c->a c=J (O (g c) 0 Q)/\g c<w.heap.size/\∀k,k<qO K c->w.rangeAt (g c) (k*pJ c) (cut (qF K c) (k*pJ c) (pJ c))
def Cw(K:aa)(a:Nat->Option cC)(c:Nat->Nat):dQ:=.agg #[.slice (a 0) K.nF (c 0),.slice (a 1) K.nS (c 1),.slice (a 2) K.nD (c 2)]
theorem vJ.same{w w':Wd}{K:aa}{e:Nat->Option cC}(T:vJ w K e q)(m:w.heap.size<=w'.heap.size)(h:∀c,c<3->0<qO K c->w'.heap[q c]?=w.heap[q c]?):vJ w' K e q:=λc f g=>by
 let⟨a,b,d⟩:=T c f g;exact⟨a,by omega,λk i j v l=>(Zf (w:=w) (a:=(O (q c) (k*pJ c+j) Q)) (h c f g)).trans (d k i j v l)⟩
def BF(c:Nat):TypeId:=if c=0 then 71 else if c=1 then 82 else 87
def zR(c:Nat):TypeId:=if c=0 then 66 else if c=1 then 72 else 83
def Wi:yQ:=⟨109,3,BF,pJ⟩
theorem Fx{P:Pg}{t:Ti}{n b:Nat}(h:(P.info? t).map (λi=>(i.zero.map (·.cells.size),i.size,i.bytes))=J (J n,n,b)):∃i z,P.info? t=J i/\i.zero=J z/\i.size=n/\i.bytes=b/\z.cells.size=n:=by
 cases a:P.info? t with
 | none=>grind
 | some i =>
  simp_all
theorem Mu(c:Nat)(h:c<3):∃i z b,J'.underlying (zR c)=J (.slice (BF c))/\J'.info? (BF c)=J i/\i.zero=J z/\i.size=pJ c/\i.bytes=b/\z.cells.size=pJ c/\b<=1000:=by
 cases c,(Za:c<3) using ia
 .let⟨i,z,a,d,e,f,g⟩:=Fx (P:=J') (t:=71) (n:=6) (b:=48) Zd;exact⟨i,z,48,Tryz.underlying66,a,d,e,f,g,by omega⟩
 .let⟨i,z,a,d,e,f,g⟩:=Fx (P:=J') (t:=82) (n:=20) (b:=160) Zd;exact⟨i,z,160,jz,a,d,e,f,g,by omega⟩
 .let⟨i,z,a,d,e,f,g⟩:=Fx (P:=J') (t:=87) (n:=5) (b:=40) Zd;exact⟨i,z,40,Tryz.underlying83,a,d,e,f,g,by omega⟩
theorem c8z(c:Nat):0<pJ c:=by unfold pJ;grind
theorem SY(K:aa)(c j:Nat):(qF K c j).oneCell'=true:=by
 unfold qF;split
 .exact Nx K j
 .split
  .exact OI K j
  .exact KX K j
structure Told (K:aa) (w w':Wd) (V:Nat->Vu) (n:Nat->Nat):Prop where
 lists:T8 Wi w' (w.heap.size+1) (w.heap.size+2) V n (λc=>tR (qF K c) (n c*pJ c))
 oX:bG w.heap.size w w'
 size:w.heap.size+2<=w'.heap.size
 res:w'.rowIs w.heap.size 109 3 (λ_=>Sc Q 0 0)
variable{K:aa}{w' A:Wd}{n:Nat->Nat}
theorem Told.step(T:Told K w w' V n)(b:bG w'.heap.size w' A):Told K w A V n :=
 ⟨T.lists.same λk a _=>b.block k a,FL T.oX b T.oX.size,Zh T.size b.size,T.res.of_block (b.block _ (by have:=T.size;omega))⟩
theorem Told.start(K:aa)(w:Wd):Told K w ((w.alloc (.cells #[Sc Q 0 0,Sc Q 0 0,Sc Q 0 0] 109)).alloc (.cells #[Sc Q 0 0,Sc Q 0 0,Sc Q 0 0] 109)) (λ_=>Sc Q 0 0) (λ_=>0):=by
 refine⟨⟨?_,λc e=>?_,λ_ _ _ _ _=>bT Z,λ_ _=>by simp[Value.ownBlock]⟩,((bD _ _).alloc (af _) _).alloc Zc _,by simp,?_⟩
 .have h:=yd w (.cells #[Sc Q 0 0,Sc Q 0 0,Sc Q 0 0] 109) #[Sc Q 0 0,Sc Q 0 0,Sc Q 0 0] 109;refine h.congr λj a=>?_;have d:j<3:=a;cases j,(Za:j<3) using ia
  all_goals rfl
 .rw[Nat.zero_mul];exact dh _ _ _ _
 .have h:=(K9 w #[Sc Q 0 0,Sc Q 0 0,Sc Q 0 0] 109).alloc (.cells #[Sc Q 0 0,Sc Q 0 0,Sc Q 0 0] 109);refine h.congr λj a=>?_;have d:j<3:=a;cases j,(Za:j<3) using ia
  all_goals rfl
theorem Told.cell(T:Told K w w' V n)(c:a<3):w'.cell? (O (w.heap.size+1) a Q)=J (V a):=T.lists.cell c
theorem Told.qj(T:Told K w w' V n)(h:∀c,c<3->q c=n c):Told K w w' V q:=by
 refine⟨⟨T.lists.str,λc a=>?_,T.lists.apart,T.lists.pX⟩,T.oX,T.size,T.res⟩;rw[h c a];exact T.lists.own c a
theorem WA(T:Told K w w' V n)(D:bG w'.heap.size w' A)(f:a<3)(hn:n a<=32)(t:cC)(B:Nat)(m:List Vu)(v:m=cut (qF K a) (n a*pJ a) (pJ a))(E:∀j u,m[j]?=J u->A.cell? (t.add j)=J u){C:Array aN}{q:ig}{Q:Exit->ig->Wd->Prop}(F:p.guard=G')(s x:aU)(H:p.op=.call { callee:=.builtin .append,args:=#[s,x],argTypes:=#[zR a,zR a] })(I:q.eval s=V a)(P:q.eval x=Sc (J t) 1 B)(y:∀g h w2,Told K w (w2.setCell (O (w.heap.size+1) a G') (Sc (J (O g 0 G')) (n a+1) h)) (up V a (Sc (J (O g 0 G')) (n a+1) h)) (up n a (n a+1))->w2.cell? (O (w.heap.size+1) a G')=J (V a)->w2.frozen? (O (w.heap.size+1) a G')=false->gN J' C Q o (q.put p.dst (Sc (J (O g 0 G')) (n a+1) h)) w2) :
  gN J' C Q (p::o) q A:=by
 let⟨i,z,c',R,S,W,M,u5,u6,u7⟩:=Mu a f;have c:=T.step D;have hl:m.length=pJ a:=by rw[v,xS]
 refine Se c.lists (c:=a) f (zR a) R S W M u5 u6 (c8z a) t B m hl E (λu r=>?_) (by simp[gO];omega) (Zh (Nat.mul_le_mul (show n a+1<=33 by omega) u7) Za) c.size F s x H I P ?_
 .rw[v]at r;unfold cut at r;rw[dn]at r;obtain⟨j,_,rfl⟩:=r;exact SY K a _
 .intro g h w2 G;refine y g h w2 ⟨?_,?_,?_,?_⟩ (G.row.cell f) (G.row.frozen a)
  .refine⟨G.lists.str,λd hd=>?_,G.lists.apart,G.lists.pX⟩;have:=G.lists.own d hd
   by_cases e:d=a
   .subst e;simp only[Y0]at this ⊢;rw[show(n d+1)*pJ d=n d*pJ d+pJ d by rw[lL,Nat.one_mul],Ss];rw[v]at this;exact this
   .simp only[D5 e]at this ⊢;exact this
  .have l:=G.grown;refine⟨l.os.trans c.oX.os,l.tape.trans c.oX.tape,l.output.trans c.oX.output,?_,λk y=>?_⟩
   .rw[i6];have:=c.oX.size;have:=l.size;omega
   .rw[eN w2 _ _ k (by grind),l.block k (by have:=c.size;omega) λe=>by have:=((c.lists.own a f).lt k e.symm).1;omega];exact c.oX.block k y
  .rw[i6];have:=c.size;have:=G.grown.size;omega
  .refine(c.res.of_block (G.grown.block _ (by have:=c.size;omega) λe=>?_)).setOther (by grind) _;have:=((c.lists.own a f).lt _ e.symm).1;omega
theorem Told.tell(T:Told K w w' V (qO K)):∃(m:Nat->Option cC) (g q:Nat->Nat),(∀c,c<3->V c=.slice (m c) (qO K c) (q c))/\vJ w' K m g/\∀c,c<3->0<qO K c->w.heap.size+2<=g c:=by
 have H:∀c,∃t:Option cC×Nat×Nat,c<3->V c=.slice t.1 (qO K c) t.2.2/\(0<qO K c->t.1=J (O t.2.1 0 Q)/\w.heap.size+2<=t.2.1):=λc=>by
  by_cases a:c<3
  .have d:=T.lists.own c a
   by_cases r:0<qO K c
   .let⟨b,s,e,u,x⟩:=d.form r
    simp_all
   .have y:qO K c=0:=by omega
    rcases d.2 with⟨e,z⟩|⟨b,s,B,e,_⟩
    all_goals simp_all
  .exact⟨(Q,0,0),λh=>absurd h a⟩
 let⟨t,l⟩:=Classical.axiomOfChoice H;refine⟨λc=>(t c).1,λc=>(t c).2.1,λc=>(t c).2.2,λc a=>(l c a).1,λc a i=>?_,λc a i=>((l c a).2 i).2⟩;let⟨e,f⟩:=l c a;have d:=T.lists.own c a;rw[e,(f i).1]at d;refine⟨(f i).1,(d.lt _ Z).2,λk C j v o=>?_⟩;have D:j<pJ c:=by have:=(bj.1 o).1;rwa [xS]at this
 have p:k*pJ c+j<qO K c*pJ c:=by
  have:=fQ (pJ c) (show k+1<=qO K c by omega)
  grind
 rw[d.cellAt (k*pJ c+j) (by exact p),c8o _ _ p];unfold cut at o
 grind
def KA(c:Nat)(k:Int)(j:Nat):Vu :=
 if c=0 then Y U (if j=1 then -9 - k else 0)
 else if c=1 then(if 4<=j/\j<=18/\j%2=0 then Bo false else Y U (if j=1 then -9 - k else 0))
 else Y U (if j=0 then -9 - k else 0)
structure Jc (P:Nat->Prop) (w w':Wd):Prop where
 os:w'.os=w.os
 tape:w'.tape=w.tape
 output:w'.output=w.output
 size:w.heap.size<=w'.heap.size
 block:∀k,k<w.heap.size->¬P k->w'.heap[k]?=w.heap[k]?
structure sE (w w':Wd) (c g n k m:Nat) (h:Nat->Vu):Prop where
 Ia:Jc (λq=>q=g) w w'
 size:w'.heap.size=w.heap.size+1
 mb:w'.rowIs w.heap.size (BF c) (pJ c) (KA c k)
 row:w'.rowIs g (BF c) (n*pJ c) h
 full:∀j,j<m*pJ c->h j=KA c k (j%pJ c)
theorem S0(K:aa)(s x:Nat)(d:Int)(b:Bool)(k:x<4)(i c:Nat)(o:c<12):qZ (K.av s x d b) i c=if i=s/\c=8+x then qh d b else qZ K i c:=by
 have g:∀j,j≠11+x*2->(K.av s x d b).S i j=K.S i j:=λj p=>d6 _ Za;unfold qZ
 by_cases a:c<3
 .rw[nT a,nT a,g c Za,nR Za]
 rw[nR a,nR a]
 by_cases e:c=3
 .rw[nT e,nT e,g 19 Za,nR Za]
 rw[nR e,nR e]
 by_cases f:c<8
 .rw[nT f,nT f,nR Za];have l:(K.av s x d b).dT i (c - 4)=K.dT i (c - 4):=g _ Za;have m:(K.av s x d b).wr i (c - 4)=K.wr i (c - 4):=d6 _ Za;rw[l,m]
 .rw[nR f,nR f,yK K s x d b i (c - 8) Za k,CN K s x d b i (c - 8) Za k]
  by_cases h:i=s/\c=8+x
  .rw[nT h,nT Za,nT Za]
  .rw[nR h,nR Za,nR Za]
theorem Rel.av{K:aa}{r:Rk}(a:Rel K r)(s x:Nat)(d:Int)(b:Bool)(f:x<4):Rel (K.av s x d b) (r.nZ s (8+x) (qh d b)):=by
 refine⟨a.f,a.s,a.d,λi c g e=>?_,a.w,a.q⟩;rw[S0 K s x d b f i c e];show upd r.P s (8+x) (qh d b) i c=_
 by_cases h:i=s/\c=8+x
 .rw[nT h,h.1,h.2,upd_same]
 .rw[nR h,d6 _ h];exact a.p i c g e
theorem Rel.ur{K:aa}{r:Rk}(a:Rel K r)(d c:Nat)(v:Int)(h:3<=c):Rel (K.nX d c v) r :=
 ⟨a.f,a.s,a.d,a.p,a.w,λe q f g=>by rw[show(K.nX d c v).D e q=K.D e q from d6 _ Za];exact a.q e q f g⟩
theorem Rel.count{K:aa}{r:Rk}(a:Rel K r)(d:Nat)(b:Bool)(m:Int):Rel (K.count d b m) r:=by
 cases b
 .exact a.ur d 3 _ Za
 .exact a.ur d 4 _ Za
theorem Rel.eL{K:aa}{r:Rk}(a:Rel K r)(s x d:Nat)(b:Bool)(c:x<4):Rel (K.eL s x d b) (r.nZ s (8+x) (qh d b)):=(a.av s x d b c).count d b 1
theorem N6{K:aa}{r:Rk}(G:Good K)(d:Rel K r)(g:a<K.nS)(i:c<4)(k:K.nD<=4) :
  (K.file a c=-1/\r.P a (8+c)=0)\/∃n:Nat,K.file a c=n/\n<K.nD/\0<=K.D n 0/\r.P a (8+c)=qh n (K.end a c)/\0<r.P a (8+c)/\r.P a (8+c)<100:=by
 have j:=G.file a c g i;have e:=d.file g i
 by_cases h:K.file a c=-1
 .exact bT ⟨h,by rw[e,h,G6]⟩
 .right;obtain⟨n,f⟩:∃n:Nat,K.file a c=n:=⟨(K.file a c).toNat,by omega⟩;rw[f,au]at j;rw[f]at e;refine⟨n,f,by omega,by omega,e,?_,?_⟩
  .rw[e,H8];split<;>omega
  .rw[e,H8];split<;>omega
variable{B:RB}{r:Rk}
theorem U3(M:ml w B r)(c:Rel K r)(g y:Int)(hs:a<K.nS) :
  aG J' 40 #[Po (J (O B.b 0 Q)),Y U a,Y U 9,Y U g,Y U y] w (oL B w (Y9 K a g)):=by
 have v:ar (ml w B r):=M;have x:ar (Rel K r):=c;have p:=M.k1;have j:a<r.nS:=by have:=c.s;omega
 have i1:(0:Int)<=(a:Int):=by omega
 have i2:(a:Int)<(r.nS:Int):=by omega
 have hS:r.nS<=6:=M.hS;have z:ar (r.nS=K.nS):=c.s;have S:w.cell? (O B.bp (a*12) Q)=J (Y U (r.P a 0)):=M.pr a 0 j Za;have T:=M.pr a 3 j Za;have C:=M.zp;have W:=M.bp;have b4:B.bp≠B.b:=λe=>W e.symm;clear M c
 go_enter Tryz.func40,Tryz.ntmps40
 by_cases D:a=0
 .subst D;have E:ar (Y9 K 0 g=⟨K,0,7⟩):=by unfold Y9 ar;rw[nT Z]
  go_wp2
  go_ret2
  exact oL.mk E v.out x.out (ej.refl _)
 .have e0:((a:Int)==0)=false:=by simp;omega
  obtain⟨d,l⟩:∃d,d=(K.cf a 0 3).cf a 19 g:=⟨_,Z⟩;have E:ar (Y9 K a g=⟨d.mg a K.nS,0,0⟩):=by unfold Y9 ar;rw[nR D,l]
  have G:ar (Rel d ((r.nZ a 0 3).nZ a 3 g)):=by unfold ar;rw[l];exact(x.out.cf a 0 3 Za).vG a g
  have Z2:ar (d.nS=r.nS):=by unfold ar;rw[l,z.out];rfl
  have M2:ar (ml ((w.setCell (O B.bp (a*12) Q) (Y U 3)).setCell (O B.bp (a*12+3) Q) (Y U g)) B ((r.nZ a 0 3).nZ a 3 g)):=(v.out.nZ (i:=a) (c:=0) (o:=a*12) j Za Za 3).nZ (i:=a) (c:=3) j Za Z g;have KP:ar (ej B w ((w.setCell (O B.bp (a*12) Q) (Y U 3)).setCell (O B.bp (a*12+3) Q) (Y U g))):=((ej.refl _).nZ _ _).nZ _ _;clear l
  go_wp2
  clear S T C p
  go_loopw [13] (λi w'=>∃(k:Nat) (f:Rk),k<=r.nS/\i=Y U k/\ml w' B f/\Rel (d.mg a k) f/\ej B w w'/\f.nS=r.nS) λi _=>r.nS - (bM i).toNat
  case atStart=>exact⟨0,_,by omega,Z,M2.out,G.out,KP.out,Z⟩
  case round =>
   obtain⟨k,f,hk,rfl,q,F,H,n1⟩:=hrel;have h:ar (ml wr B f):=q;have m:ar (Rel (d.mg a k) f):=F;have s:ar (ej B w wr):=H;have t:ar (f.nS=r.nS):=n1;have p:=q.k1;rw[n1]at p;clear q F H n1
   by_cases I:k<r.nS
   .have j1:(0:Int)<=(k:Int):=by omega
    have j2:(k:Int)<(r.nS:Int):=by omega
    have P:k<f.nS:=by rw[t.out];exact I
    have c1:=h.out.pr k 1 P Za;have R:f.P k 1=(d.mg a k).S k 1:=m.out.parent (by rw[Dr,Z2.out];exact I)
    by_cases o:f.P k 1=a
    .have u:ar (d.mg a (k+1)=(d.mg a k).cf k 1 0):=by unfold ar;rw[aa.mg,nT Za]
     rw[o]at c1;have C:=h.out.zp;clear R o
     go_wp2
     exact⟨⟨k+1,_,by omega,by go_num,h.out.nZ (i:=k) (c:=1) P Za Z 0,by rw[u.out];exact m.out.cf k 1 0 Za,s.out.nZ _ _,t.out⟩,by simp[bM];omega⟩
    .have u:ar (d.mg a (k+1)=d.mg a k):=by unfold ar;rw[aa.mg,nR Za]
     have e1:(f.P k 1==(a:Int))=false:=by simpa using o
     clear R o
     go_wp2
     exact⟨⟨k+1,f,by omega,by go_num,h.out,by rw[u.out];exact m.out,s.out,t.out⟩,by simp[bM];omega⟩
   .obtain rfl:k=r.nS:=by omega
    go_wp2
    go_ret2
    exact oL.mk E h.out (by rw[←z.out];exact m.out) s.out
theorem WW(M:ml w B r)(d:Rel K r)(y z:Int)(i:a<K.nS)(j:c<K.nS)(f:K.oJ a c=true) :
  aG J' 41 #[Po (J (O B.b 0 Q)),Y U a,Y U 8,Y U c,Y U y,Y U z] w (oL B w (R9 K a c)):=by
 have g:ar (ml w B r):=M;have h:ar (Rel K r):=d;have k:=M.k1;have e:c<r.nS:=by have:=d.s;omega
 have l:(0:Int)<=(c:Int):=by omega
 have m:(c:Int)<(r.nS:Int):=by omega
 have o:w.cell? (O B.bp (c*12) Q)=J (Y U (r.P c 0)):=M.pr c 0 e Za;have p:=M.zp;have E:ar (R9 K a c=⟨K.cf c 0 2,0,0⟩):=by unfold R9 ar;rw[nR (by simp[f])]
 clear M d
 go_enter mu,lA
 go_wp2
 go_ret2
 exact oL.mk E (g.out.nZ (i:=c) (c:=0) (o:=c*12) e Za Za 2) (h.out.cf c 0 2 Za) ((ej.refl _).nZ _ _)
theorem Zz(M:ml w B r)(f:Rel K r)(G:Good K){t:Nat}(H:a<K.nS)(I:c<K.nS)(P:d<4)(p:t<4)(j:K.oJ a c=true) :
  aG J' 41 #[Po (J (O B.b 0 Q)),Y U a,Y U 7,Y U c,Y U d,Y U t] w (oL B w (Q4 K a c d t)):=by
 have h:ar (ml w B r):=M;have i:ar (Rel K r):=f;have k1:=M.k1;have q:c<r.nS:=by have:=f.s;omega
 have R:a<r.nS:=by have:=f.s;omega
 have i1:(0:Int)<=(c:Int):=by omega
 have i2:(c:Int)<(r.nS:Int):=by omega
 have l1:(0:Int)<=(a:Int):=by omega
 have l2:(a:Int)<(r.nS:Int):=by omega
 have x1:(0:Int)<=(d:Int):=by omega
 have x2:(d:Int)<4:=by omega
 have t1:(0:Int)<=(t:Int):=by omega
 have t2:(t:Int)<4:=by omega
 have k:w.cell? (O B.bp (a*12+8+d) Q)=J (Y U (r.P a (8+d))):=by rw[aS];exact M.pr a (8+d) R Za
 have s:w.cell? (O B.bp (c*12+8+t) Q)=J (Y U (r.P c (8+t))):=by rw[aS];exact M.pr c (8+t) q Za
 have zp:=M.zp;have x:K.nD<=4:=by have:=M.hD;have:=f.d;omega
 clear M f
 go_enter mu,lA
 rcases N6 G i.out H P x with⟨l,y⟩|⟨n,l,y,h3,o,z,C⟩
 .have E:ar (Q4 K a c d t=⟨K,0,8⟩):=by unfold Q4 ar;rw[nR (by simp[j]),nT (bT l)]
  rw[y]at k
  go_wp2
  go_ret2
  exact oL.mk E h.out i.out (ej.refl _)
 .rcases N6 G i.out I p x with⟨S,D⟩|⟨m,S,D,g3,T,W,g6⟩
  .have E:ar (Q4 K a c d t=⟨K.eL c t n (K.end a d),0,0⟩):=by unfold Q4 ar;rw[nR (by simp[j]),nR Za,l,au]
   have HV:ar (r.P a (8+d)=qh n (K.end a d)):=o;obtain⟨v,g⟩:∃v,r.P a (8+d)=v:=⟨_,Z⟩;have Hv:ar (r.P a (8+d)=v):=g;rw[g]at k z C;rw[D]at s;have ne:¬v=0:=by omega
   have b4:B.bp≠B.b:=λe=>h.out.bp e.symm;have b5:B.b≠B.bp:=h.out.bp;clear o g
   go_wp2_with fail
   go_region_held3 (λw'=>w'.cell? (O B.b 1 Q)=J (Sc (J (O B.bp 0 Q)) r.nS B.cp)/\w'.cell? (O B.bp (a*12+8+d) Q)=J (Y U v)) ((repeat' apply dg)<;>(first|(go_keep;done)|(refine zg ?_;go_keep)|(refine keep_same_drew ?_;go_keep))) (fail)
   go_wp2
   go_ret2
   refine oL.mk E (h.out.drew.nZ (i:=c) (c:=8+t) (o:=c*12+8+t) q Za Za v) ?_ ((ej.refl _).drew.nZ _ _);rw[←Hv.out,HV.out];exact i.out.eL c t n _ p
  .have E:ar (Q4 K a c d t=⟨K,0,8⟩):=by unfold Q4 ar;rw[nR (by simp[j]),nT (ba Za)]
   obtain⟨v,g⟩:∃v,r.P a (8+d)=v:=⟨_,Z⟩;obtain⟨u,F⟩:∃u,r.P c (8+t)=u:=⟨_,Z⟩;rw[g]at k z C;rw[F]at s W g6;have ne:¬v=0:=by omega
   clear o g T F
   go_wp2
   go_ret2
   exact oL.mk E h.out i.out (ej.refl _)
theorem DC{b:Nat}(h:c≠a)(d:e.cell? (O b c Q)=J k):(e.setCell (O b a Q) j).cell? (O b c Q)=J k:=by rw[d7 e (ba h)];exact d
theorem Yi{a:cC}(h:e.cell? a=J j):e.drew.cell? a=J j:=h
def Rk.words(r:Rk)(f n:Nat):Rk:=(((r.oG f 0 (r.W n 0)).oG f 1 (r.W n 1)).oG f 2 (r.W n 2)).oG f 3 (r.W n 3)
theorem LY(r:Rk)(f n g j:Nat)(a:j<4):(r.words f n).W g j=if g=f then r.W n j else r.W g j:=by
 unfold Rk.words Rk.oG upd
 by_cases h:g=f
 .subst h;cases j,(Za:j<4) using ep
  all_goals simp
 .simp[h]
theorem YB(K:aa)(g h:Nat)(a:g≠h)(n c:Nat):(K.nV g h).F n c=if n=g/\2<=c/\c<6 then K.F h c else K.F n c:=by
 have d:¬h=g:=λe=>a e.symm;unfold aa.nV aa.nU upd
 by_cases e:n=g
 .subst e
  by_cases k:2<=c/\c<6
  .rw[nT ⟨Z,k⟩];obtain rfl|rfl|rfl|rfl:c=2\/c=3\/c=4\/c=5:=by omega
   all_goals simp[d]
  .rw[nR Za];have:c≠2/\c≠3/\c≠4/\c≠5:=by omega
   simp[this]
 .rw[nR Za];simp[e]
theorem WB{K:aa}{r:Rk}(f:Rel K r){n:Nat}(b:Bool)(q:c<4)(s:n<K.nF)(t:K.F n 0=2)(I:K.F d 0=0) :
  Rel (((K.an d 2 a).fi a c d b).nV d n) ((r.words d n).nZ a (4+c) (qh d b)):=by
 have m:d≠n:=by rintro rfl;omega
 have o:∀g x,g≠d->(K.an d 2 a).F g x=K.F g x:=λg x i=>aa.oB K d 2 a g x i;have l:oD K (K.an d 2 a):=⟨Z,Z,Z⟩;have s0:(K.an d 2 a).S=K.S:=Z;have u:(K.an d 2 a).B=K.B:=Z;have v:(K.an d 2 a).D=K.D:=Z;generalize K.an d 2 a=h at *;have y:Rel (h.nV d n) (r.words d n):=by
  have p:=YB h d n m;have z:oD K (h.nV d n):=⟨l.f,l.s,l.d⟩;have C:(h.nV d n).S=K.S:=s0;have D:(h.nV d n).B=K.B:=u;have E:(h.nV d n).D=K.D:=v;generalize h.nV d n=P at *;refine f.frame z C D E (g:=d) (λg x i=>?_) _ ⟨Z,Z,Z,Z,Z⟩ (λg j k i=>?_) λj k _ _=>?_
  .rw[p,nR Za];exact o g x i
  .rw[LY r d n g j k,nR i]
  .rw[LY r d n d j k,nT Z,p,nT ⟨Z,by omega,by omega⟩,o n _ λe=>m e.symm];exact f.w n j s k (bT t)
 have F:=y.fi a c d b q;have H:(h.fi a c d b).nV d n=(h.nV d n).fi a c d b:=Z;rw[H];exact F
theorem TY(M:ml w B r)(g:Rel K r)(i:Own K)(N:iP K)(G:Good K){f:Nat}(H:a<K.nS)(hc:c<K.nS)(q:d<4)(I:f<K.nF)(s:K.oJ a c=true) :
  aG J' 41 #[Po (J (O B.b 0 Q)),Y U a,Y U 6,Y U c,Y U d,Y U f] w (oL B w (J0 K a c d f)):=by
 have j:ar (ml w B r):=M;have k:ar (Rel K r):=g;have k0:=M.k0;have k1:=M.k1;have hF:r.nF<=32:=M.hF;have o:ar (r.nF=K.nF/\r.nS=K.nS):=⟨g.f,g.s⟩;have P:c<r.nS:=by have:=g.s;omega
 have b':a<r.nS:=by have:=g.s;omega
 have l:f<r.nF:=by have:=g.f;omega
 have i1:(0:Int)<=(c:Int):=by omega
 have i2:(c:Int)<(r.nS:Int):=by omega
 have l1:(0:Int)<=(a:Int):=by omega
 have l2:(a:Int)<(r.nS:Int):=by omega
 have j1:(0:Int)<=(d:Int):=by omega
 have j2:(d:Int)<4:=by omega
 have f1:(0:Int)<=(f:Int):=by omega
 have f2:(f:Int)<(r.nF:Int):=by omega
 have R:w.cell? (O B.bp (a*12+4+d) Q)=J (Y U (r.P a (4+d))):=by rw[aS];exact M.pr a (4+d) b' Za
 have S:w.cell? (O B.bp (c*12+4+d) Q)=J (Y U (r.P c (4+d))):=by rw[aS];exact M.pr c (4+d) P Za
 clear M g
 go_enter mu,lA
 rcases T9 G k.out H q (by have:=o.out;omega) with⟨t,T,p⟩|⟨n,t,T,p⟩
 .have E:ar (J0 K a c d f=⟨K,0,6⟩):=by unfold J0 ar;rw[nR (by simp[s]),nT (bT t)]
  rw[p]at R
  go_wp2
  go_ret2
  exact oL.mk E j.out k.out (ej.refl _)
 .have hn:n<32:=by have:=o.out;omega
  have x:n<r.nF:=by have:=o.out;omega
  obtain⟨v,W,d',e',hq,y⟩:∃v,r.P a (4+d)=v/\0<v/\v<100/\(v - 1).tdiv 2=n/\v.tmod 2=(if K.wr a d then 0 else 1):=⟨_,Z,by omega,by have:=o.out;omega,by
    rcases p with⟨_,h⟩|⟨_,h⟩
    .rw[h];exact I7 n false
    .rw[h];exact I7 n true,by
    rcases p with⟨z,h⟩|⟨z,h⟩
    .rw[h,z,show(2*(n:Int)+1)=((2*n+1:Nat):Int) by omega,show(2:Int)=((2:Nat):Int) by rfl,←gi];simp
    .rw[h,z,show(2*(n:Int)+2)=((2*n+2:Nat):Int) by omega,show(2:Int)=((2:Nat):Int) by rfl,←gi];simp⟩
  have ne:¬v=0:=by omega
  rw[W]at R;clear p W;rcases T9 G k.out hc q (by have:=o.out;omega) with⟨g1,g2,C⟩|⟨m,g1,g2,C⟩
  .rw[C]at S
   by_cases D:K.F f 0=0
   .have E:ar (J0 K a c d f=⟨((K.an f 2 c).fi c d f (K.wr a d)).nV f n,0,0⟩):=by unfold J0 ar;rw[nR (by simp[s]),nR Za,nR Za,t,au]
    have F:(K.F f 0==0)=true:=by simpa using D
    go_wp2_with fail
    refine(Y6 j.out k.out i N G I).mono ?_;rintro e A ⟨rfl,rfl⟩;rw[F];have hk:K.F n 0=2:=(i.what (.dT a d) ⟨H,q⟩ n t).1;have c':n≠f:=by rintro rfl;omega
    have n1:(0:Int)<=(n:Int):=by omega
    have n2:(n:Int)<(r.nF:Int):=by omega
    have d0:A.cell? (O B.bw (n*4) Q)=J (Y U (r.W n 0)):=j.out.wd n 0 x Za;have d1:=j.out.wd n 1 x Za;have d2:=j.out.wd n 2 x Za;have d3:=j.out.wd n 3 x Za;have o0:A.cell? (O B.bw (f*4) Q)=J (Y U (r.W f 0)):=j.out.wd f 0 l Za;have o1:=j.out.wd f 1 l Za;have o2:=j.out.wd f 2 l Za;have o3:=j.out.wd f 3 l Za;have zw:=j.out.zw;have zp:=j.out.zp;have b1:=j.out.bw;have b2:=j.out.bp;have b3:B.bw≠B.b:=λe=>b1 e.symm;have b4:B.bp≠B.b:=λe=>b2 e.symm;have b5:=j.out.wp;have b6:B.bp≠B.bw:=λe=>b5 e.symm;have q0:n*4≠f*4:=by omega
    have q1:n*4≠f*4+1:=by omega
    have q2:n*4≠f*4+2:=by omega
    have q3:n*4≠f*4+3:=by omega
    have q4:n*4+1≠f*4:=by omega
    have q5:n*4+2≠f*4:=by omega
    have q6:n*4+3≠f*4:=by omega
    have q7:n≠f:=c';have a1:IntKind.i64.wrap (v - 1)=v - 1:=ib _ Za;have a2:IntKind.i64.wrap (n:Int)=n:=ib _ Za;have M1:ar (ml ((((A.setCell (O B.bw (f*4) Q) (Y U (r.W n 0))).setCell (O B.bw (f*4+1) Q) (Y U (r.W n 1))).setCell (O B.bw (f*4+2) Q) (Y U (r.W n 2))).setCell (O B.bw (f*4+3) Q) (Y U (r.W n 3))) B (r.words f n)) :=
     (((j.out.oG (i:=f) (c:=0) (o:=f*4) l Za Za (r.W n 0)).oG (i:=f) (c:=1) l Za Z (r.W n 1)).oG (i:=f) (c:=2) l Za Z (r.W n 2)).oG (i:=f) (c:=3) l Za Z (r.W n 3)
    have KP:ar (ej B A ((((A.setCell (O B.bw (f*4) Q) (Y U (r.W n 0))).setCell (O B.bw (f*4+1) Q) (Y U (r.W n 1))).setCell (O B.bw (f*4+2) Q) (Y U (r.W n 2))).setCell (O B.bw (f*4+3) Q) (Y U (r.W n 3)))):=((((ej.refl _).oG _ _).oG _ _).oG _ _).oG _ _;generalize r.W n 0=x0 at *;generalize r.W n 1=x1 at *;generalize r.W n 2=x2 at *;generalize r.W n 3=x3 at *
    go_wp2_with fail
    go_region_held3 (λw'=>w'.cell? (O B.b 0 Q)=J (Sc (J (O B.bw 0 Q)) r.nF B.cw)/\w'.cell? (O B.bw (n*4) Q)=J (Y U x0)/\w'.cell? (O B.bw (n*4+1) Q)=J (Y U x1)/\w'.cell? (O B.bw (n*4+2) Q)=J (Y U x2)/\w'.cell? (O B.bw (n*4+3) Q)=J (Y U x3)) ((repeat' apply dg)<;>(first|(go_keep;done)|(refine Yi<|DC Za<|DC Za<|DC Za<|DC Za ?_;assumption))) (fail)
    have W2:ar (2*(f:Int)+2 - v%2=qh f (K.wr a d)):=by
     unfold ar;rw[bg Za]at y;rw[y,H8];split<;>omega
    clear y
    go_wp2
    go_ret2
    refine oL.mk E (M1.out.nZ (i:=c) (c:=4+d) (o:=c*12+4+d) P Za Za (2*(f:Int)+2 - v%2)).drew ?_ (KP.out.nZ _ _).drew;rw[W2.out];exact WB k.out (K.wr a d) q T hk D
   .have E:ar (J0 K a c d f=⟨K,0,5⟩):=by unfold J0 ar;rw[nR (by simp[s]),nR Za,nT Za]
    have F:(K.F f 0==0)=false:=by simpa using D
    go_wp2_with fail
    refine(Y6 j.out k.out i N G I).mono ?_;rintro e A ⟨rfl,rfl⟩;rw[F]
    go_wp2
    go_ret2
    exact oL.mk E j.out k.out (ej.refl _)
  .have E:ar (J0 K a c d f=⟨K,0,6⟩):=by unfold J0 ar;rw[nR (by simp[s]),nT (ba Za)]
   obtain⟨u,hu,k',l'⟩:∃u,r.P c (4+d)=u/\0<u/\u<100:=⟨_,Z,by omega,by have:=o.out;omega⟩;rw[hu]at S;clear C hu
   go_wp2
   go_ret2
   exact oL.mk E j.out k.out (ej.refl _)
theorem b6x(M:ml w B r)(e:Rel K r)(G:Good K)(s:c<K.nS)(i:d<4)(j:K.still a c=true) :
  aG J' 42 #[Po (J (O B.b 0 Q)),Y U 10,Y U c,Y U d] w (oL B w (W7 K a c d)):=by
 have k:ar (ml w B r):=M;have f:ar (Rel K r):=e;have x:=M.k1;have hF:r.nF<=32:=M.hF;have l:ar (r.nF=K.nF/\r.nS=K.nS):=⟨e.f,e.s⟩;have m:c<r.nS:=by have:=e.s;omega
 have y:(0:Int)<=(c:Int):=by omega
 have z:(c:Int)<(r.nS:Int):=by omega
 have C:(0:Int)<=(d:Int):=by omega
 have D:(d:Int)<4:=by omega
 have o:w.cell? (O B.bp (c*12+4+d) Q)=J (Y U (r.P c (4+d))):=by rw[aS];exact M.pr c (4+d) m Za
 have F:=M.zp;clear M e
 go_enter mr,lz
 rcases T9 G f.out s i (by have:=l.out;omega) with⟨g,t,h⟩|⟨n,g,t,h⟩
 .rw[h]at o;have E:ar (W7 K a c d=⟨K,0,6⟩):=by unfold W7 ar;rw[nR (by simp[j]),nT g]
  go_wp2
  go_ret2
  exact oL.mk E k.out f.out (ej.refl _)
 .have E:ar (W7 K a c d=⟨(K.an n 0 (-1)).fi c d (-1) false,0,0⟩):=by unfold W7 ar;rw[nR (by simp[j]),nR Za];unfold aa.oz;rw[g,au]
  obtain⟨v,p,H,I⟩:∃v,r.P c (4+d)=v/\0<v/\v<100:=⟨_,Z,by omega,by have:=l.out;omega⟩;have P:¬v=0:=by omega
  rw[p]at o;clear h p
  go_wp2
  go_ret2
  have u:=k.out.nZ (i:=c) (c:=4+d) (o:=c*12+4+d) m Za Za 0;refine oL.mk E u ?_ ((ej.refl _).nZ _ _);have q:=(f.out.rX n 0 (-1) Za).fi c d (-1) false i;rw[G6]at q;exact q
theorem LS(K:aa)(k:Nat):cut (qF K 0) (k*6) 6=[Y U (K.F k 0),Y U (K.F k 1),Y U (K.F k 2),Y U (K.F k 3),Y U (K.F k 4),Y U (K.F k 5)]:=by
 have h:∀j,j<6->U8 K (k*6+j)=Y U (K.F k j):=λj a=>by
  unfold U8;rw[show(k*6+j) / 6=k by omega,show(k*6+j)%6=j by omega]
 show [U8 K (k*6+0),U8 K (k*6+1),U8 K (k*6+2),U8 K (k*6+3),U8 K (k*6+4),U8 K (k*6+5)]=_;rw[h 0 Za,h 1 Za,h 2 Za,h 3 Za,h 4 Za,h 5 Za]
theorem Kr(K:aa)(k:Nat):cut (qF K 2) (k*5) 5=[Y U (K.D k 0),Y U (K.D k 1),Y U (K.D k 2),Y U (K.D k 3),Y U (K.D k 4)]:=by
 have h:∀j,j<5->tA K (k*5+j)=Y U (K.D k j):=λj a=>by
  unfold tA;rw[show(k*5+j) / 5=k by omega,show(k*5+j)%5=j by omega]
 show [tA K (k*5+0),tA K (k*5+1),tA K (k*5+2),tA K (k*5+3),tA K (k*5+4)]=_;rw[h 0 Za,h 1 Za,h 2 Za,h 3 Za,h 4 Za]
theorem MU{w:Wd}{o:Obj}{C:List Vu}(j:Nat)(u:Vu)(a:C[j]?=J u):((w.alloc o).alloc (.cells C.toArray l)).cell? (((O (w.heap.size+1) 0 Q):cC).add j)=J u:=by
 have:=Dt (w:=w.alloc o) (t:=l) j u a
 rwa [show(w.alloc o).heap.size=w.heap.size+1 by simp]at this
theorem Ps{f:Nat->Bool}:∀n,(∀j,j<n->f j=false)->E6 f n=0
 | 0,_=>rfl
 | n+1,h=>by
  show E6 f n+(if f n then 1 else 0)=0;rw[Ps n λj a=>h j Za,h n Za];rfl
theorem Ol{K:aa}(G:Good K)(d:a<K.nD)(h:K.D a 0<0){b:Bool}:K.ends a b=0:=by
 refine Ps _ λj f=>?_;unfold aa.oI;have c:=G.file (j / 4) (j%4) Za Za
 by_cases e:K.file (j / 4) (j%4)=a
 .exfalso;rw[e,au]at c;omega
 .simp[e]
theorem c7B{K:aa}(c:Own K)(d:a<K.nF):K.F a 0=0\/K.F a 0=1\/K.F a 0=2\/K.F a 0=3:=by
 by_cases h:K.F a 0=0
 .exact bT h
 .let⟨x,e,f⟩:=c.all a d h;have:=(c.what x e a f).1;cases x<;>simp[Place.kind]at this<;>omega
def yc(a b c d:Int):List dQ:=[Y U a,Y U b,Y U c,Y U 0,Bo false,Y U 0,Bo false,Y U 0,Bo false,Y U 0,Bo false,Y U 0,Bo false,Y U 0,Bo false,Y U 0,Bo false,Y U 0,Bo false,Y U d]
theorem JF(a b c d:Int):(yc a b c d).toArray.size=20:=rfl
theorem Zv(a b c d:Int):(J'.info? 82).map (·.size)=J (yc a b c d).toArray.size:=by rw[JF];kernel_rfl
theorem ZE(a b c d:Int):(yc a b c d).toArray.all (·.oneCell')=true:=by simp[yc,kE]
def E8(K:aa)(i m c:Nat):Vu :=
 if (3+m*2<=c/\c<11)\/(11+m*2<=c/\c<19) then(if c%2=0 then Bo false else Y U 0) else A6 K (i*20+c)
theorem GZ(K:aa)(i c:Nat)(a:c<20)(h:¬(4<=c/\c<=18/\c%2=0)):A6 K (i*20+c)=Y U (K.S i c):=by
 unfold A6;rw[show(i*20+c) / 20=i by omega,show(i*20+c)%20=c by omega,nR h]
theorem JS(K:aa)(i c:Nat)(a:c<20)(h:4<=c/\c<=18/\c%2=0):A6 K (i*20+c)=Bo (K.B i c):=by
 unfold A6;rw[show(i*20+c) / 20=i by omega,show(i*20+c)%20=c by omega,nT h]
theorem Xt(K:aa)(i m j:Nat)(h:m<4)(a:j<20):E8 K i (m+1) j=if j=3+m*2 then Y U (K.dT i m) else if j=3+m*2+1 then Bo (K.wr i m) else if j=11+m*2 then Y U (K.file i m) else if j=11+m*2+1 then Bo (K.end i m) else E8 K i m j:=by
 by_cases c:j=3+m*2
 .rw[nT c];unfold E8;rw[nR Za,GZ K i j a Za,c];rfl
 rw[nR c]
 by_cases d:j=3+m*2+1
 .rw[nT d];unfold E8;rw[nR Za,JS K i j a Za,d,show 3+m*2+1=4+m*2 by omega];rfl
 rw[nR d]
 by_cases e:j=11+m*2
 .rw[nT e];unfold E8;rw[nR Za,GZ K i j a Za,e];rfl
 rw[nR e]
 by_cases f:j=11+m*2+1
 .rw[nT f];unfold E8;rw[nR Za,JS K i j a Za,f,show 11+m*2+1=12+m*2 by omega];rfl
 rw[nR f];unfold E8
 by_cases g:(3+m*2<=j/\j<11)\/(11+m*2<=j/\j<19)
 .rw[nT g,nT Za]
 .rw[nR g,nR Za]
theorem UU(K:aa)(i m j:Nat)(a:m<4)(h:j=3+m*2+1\/j=11+m*2+1):E8 K i m j=Bo false:=by
 unfold E8;rw[nT Za,nT Za]
theorem YO(K:aa)(i j:Nat):E8 K i 4 j=A6 K (i*20+j):=by unfold E8;rw[nR Za]
structure uu (w w':Wd) (r:Rk) (i:Nat) (f:Nat->Vu):Prop where
 oX:bG w.heap.size w w'
 size:w'.heap.size=w.heap.size+2
 p:w'.rowIs w.heap.size 107 12 (λc=>Y U (r.P i c))
 x:w'.rowIs (w.heap.size+1) 82 20 f
theorem uu.set{w w':Wd}{r:Rk}(h:uu w w' r a s)(c:Nat)(u:Vu):uu w (w'.setCell (O (w.heap.size+1) c Q) u) r a (λj=>if j=c then u else s j) :=
 ⟨h.oX.setCell (by show w.heap.size<=w.heap.size+1;omega) u,by rw[i6];exact h.size,h.p.setOther (by show w.heap.size≠w.heap.size+1;omega) u,h.x.set c u⟩
theorem uu.congr{w w':Wd}{r:Rk}(h:uu w w' r a s)(e:∀j,j<20->s j=t j):uu w w' r a t:=⟨h.oX,h.size,h.p,h.x.congr e⟩
theorem Si{K:aa}{r:Rk}(G:Good K)(d:Rel K r)(e:a<K.nS)(f:c<4)(hF:K.nF<=32) :
  ∃v,r.P a (4+c)=v/\((v=0/\K.dT a c=-1/\K.wr a c=false)\/∃n:Nat,0<v/\v<100/\(v - 1).tdiv 2=n/\n<32/\K.dT a c=n/\(v%2==0)=K.wr a c):=by
 refine⟨_,Z,?_⟩;have g:=d.dT e f;rw[g];rcases G.dT a c e f with h|⟨k,l⟩
 .left;refine⟨by rw[h,G6],h,?_⟩
  cases i:K.wr a c with
  | false=>rfl
  | true=>exact absurd h (G.wr a c e f i)
 .right;obtain⟨n,j⟩:∃n:Nat,K.dT a c=n:=⟨(K.dT a c).toNat,by omega⟩;rw[j,H8];refine⟨n,by split<;>omega,by split<;>omega,I7 n _,by omega,Z,?_⟩;cases K.wr a c
  .simp
  .simp
theorem c3K{K:aa}{r:Rk}(G:Good K)(N:iP K)(d:Rel K r)(f:a<K.nS)(e:c<4)(j:K.nD<=4) :
  ∃v,r.P a (8+c)=v/\((v=0/\K.file a c=-1/\K.end a c=false)\/∃n:Nat,0<v/\v<100/\(v - 1).tdiv 2=n/\n<32/\K.file a c=n/\(v%2==0)=K.end a c):=by
 refine⟨_,Z,?_⟩;have g:=d.file f e;rw[g];rcases G.file a c f e with h|⟨k,l,_⟩
 .left;exact⟨by rw[h,G6],h,N.vE a c e h⟩
 .right;obtain⟨n,i⟩:∃n:Nat,K.file a c=n:=⟨(K.file a c).toNat,by omega⟩;rw[i,H8];refine⟨n,by split<;>omega,by split<;>omega,I7 n _,by omega,Z,?_⟩;cases K.end a c
  .simp
  .simp
theorem ZW{K:aa}{w A:Wd}{r:Rk}(l:A.rowIs w.heap.size 107 12 λc=>Y U (r.P a c))(i:bG w.heap.size w A)(g:A.heap.size=w.heap.size+1)(d:Rel K r)(e:a<K.nS)(m:v.size=20) :
  uu w ((A.alloc (.cells v 82)).setCells A.heap.size 0 (yc (r.P a 0) (r.P a 1) (r.P a 2) (r.P a 3)).toArray.toList) r a (E8 K a 0):=by
 let⟨k,b,c⟩:=MC A v 82 (yc (r.P a 0) (r.P a 1) (r.P a 2) (r.P a 3)) 20 m Z (E8 K a 0) (λj q=>by
  have f:∀c,c<3\/c=19->E8 K a 0 c=Y U (K.S a c):=λc s=>by unfold E8;rw[nR Za,GZ K a c Za Za]
  have o:∀c,3<=c->c<19->E8 K a 0 c=if c%2=0 then Bo false else Y U 0:=λc h t=>by unfold E8;rw[nT Za]
  rw[d.kind e,d.parent e,d.table e,d.code e];obtain rfl|rfl|rfl|rfl|⟨g,p⟩:j=0\/j=1\/j=2\/j=19\/(3<=j/\j<19):=by omega
  .rw[f 0 Za];rfl
  .rw[f 1 Za];rfl
  .rw[f 2 Za];rfl
  .rw[f 19 Za];rfl
  .rw[o j g p];obtain rfl|rfl|rfl|rfl|rfl|rfl|rfl|rfl|rfl|rfl|rfl|rfl|rfl|rfl|rfl|rfl:j=3\/j=4\/j=5\/j=6\/j=7\/j=8\/j=9\/j=10\/j=11\/j=12\/j=13\/j=14\/j=15\/j=16\/j=17\/j=18:=by omega
   all_goals rfl)
 exact⟨FL i b i.size,by omega,l.of_block (b.block _ Za),by rw[g]at k ⊢;exact k⟩
theorem Ku:(J'.info? 109).map (·.size)=J 3:=by kernel_rfl
theorem c8A(a b c:Option cC)(n m o x y z:Nat):(#[.slice a n x,.slice b m y,.slice c o z]:Array Vu).all (·.oneCell')=true:=by simp[kE]
theorem AU{K:aa}{w w' A:Wd}{V:Nat->Vu}{n:Nat->Nat}{c:Nat}{h:Array aN}{a:ig}{Q:Exit->ig->Wd->Prop}(k:p.guard=G')(s x:aU)(l:p.op=.call { callee:=.builtin .append,args:=#[s,x],argTypes:=#[zR c,zR c] })(T:Told K w w' V n)(m:bG w'.heap.size w' A)(q:c<3)(t:n c<=32)(d:cC)(i:Nat)(e:List Vu)(v:e=cut (qF K c) (n c*pJ c) (pJ c))(y:∀j u,e[j]?=J u->A.cell? (d.add j)=J u)(z:a.eval s=V c)(C:a.eval x=Sc (J d) 1 i)(D:∀g f w2,Told K w (w2.setCell (O (w.heap.size+1) c G') (Sc (J (O g 0 G')) (n c+1) f)) (up V c (Sc (J (O g 0 G')) (n c+1) f)) (up n c (n c+1))->w2.cell? (O (w.heap.size+1) c G')=J (V c)->w2.frozen? (O (w.heap.size+1) c G')=false->gN J' h Q o (a.put p.dst (Sc (J (O g 0 G')) (n c+1) f)) w2) :
  gN J' h Q (p::o) a A:=WA T m q t d i e v y k s x l z C D
def n1(k:Nat)(c:Nat):Nat:=if c=0 then k else 0
def n2(f k:Nat)(c:Nat):Nat:=if c=0 then f else if c=1 then k else 0
def n3(f s k:Nat)(c:Nat):Nat:=if c=0 then f else if c=1 then s else k
theorem JZ(k c:Nat):n1 (k+1) c=up (n1 k) 0 (n1 k 0+1) c:=by unfold n1 up;split<;>simp_all
theorem VD(f k c:Nat):n2 f (k+1) c=up (n2 f k) 1 (n2 f k 1+1) c:=by unfold n2 up;split<;>simp_all
theorem NI(f s k c:Nat)(h:c<3):n3 f s (k+1) c=up (n3 f s k) 2 (n3 f s k 2+1) c:=by
 cases c,(Za:c<3) using ia
 all_goals rfl
theorem Told.mem{V:Nat->Vu}{n:Nat->Nat}{w':Wd}(T:Told K w w' V n)(M:ml w B r):ml w' B r:=M.same T.oX.size λj a _=>T.oX.block j a
theorem ZR(M:ml w B r)(a:Rel K r)(d:Own K)(N:iP K)(G:Good K)(I:Inv K) :
  aG J' 45 #[Po (J (O B.b 0 Q))] w λe w'=>∃(f:Nat->Option cC) (g s:Nat->Nat),e=.returned (Cw K f s)/\vJ w' K f g/\bG w.heap.size w w'/\∀c,c<3->0<qO K c->w.heap.size<=g c:=by
 have HM:ar (ml w B r):=M;have H:ar (Rel K r):=a;have HB:ar (r.nF=K.nF/\r.nS=K.nS/\r.nD=K.nD):=⟨a.f,a.s,a.d⟩;have hF:r.nF<=32:=M.hF;have hS:r.nS<=6:=M.hS;have hD:r.nD<=4:=M.hD;clear M a
 go_enter Tryz.func45,Tryz.ntmps45
 go_wp2
 go_loopw [4] (λi w'=>∃(k:Nat) (V:Nat->Vu),k<=r.nF/\i=Y U k/\Told K w w' V (n1 k)) λi _=>r.nF - (bM i).toNat
 case atStart=>exact⟨0,_,by omega,Z,(Told.start K w).qj λc y=>by unfold n1;split<;>rfl⟩
 case round =>
  obtain⟨k,V,hk,rfl,F⟩:=hrel;have t:ar (Told K w wr V (n1 k)):=F;have l:ar (ml wr B r):=F.mem HM.out;have k0:=l.out.k0;clear F
  by_cases P:k<r.nF
  .have q':k<K.nF:=by have:=HB.out;omega
   go_wp2_with fail
   refine(Li l.out H.out d N G q').mono ?_;rintro e A ⟨rfl,rfl⟩;have s0:∀o o',((A.alloc o).alloc o').cell? (O (w.heap.size+1) 0 Q)=J (V 0):=λo o'=>((t.out.lists.alloc o).alloc o').cell (by show 0<3;omega);have s1:∀o,(A.alloc o).cell? (O (w.heap.size+1) 0 Q)=J (V 0):=λo=>(t.out.lists.alloc o).cell (by show 0<3;omega);have kk:∀o,(A.alloc o).cell? (O B.b 0 Q)=J (Sc (J (O B.bw 0 Q)) r.nF B.cw):=λo=>(l.out.alloc o).k0;have HW:ar (K.F k 0=2\/K.F k 0=3->∀j,j<4->r.W k j=K.F k (2+j)):=λh j p=>H.out.w k j q' p h;have HZ:ar (¬(K.F k 0=2\/K.F k 0=3)->∀j,j<4->K.F k (2+j)=0):=λh j p=>N.uN k (by have:=c7B d q';omega) j p;obtain⟨kd,ek⟩:∃x,K.F k 0=x:=⟨_,Z⟩;obtain⟨ow,eo⟩:∃x,K.F k 1=x:=⟨_,Z⟩;rw[ek,eo];have EK:ar (K.F k 0=kd/\K.F k 1=ow):=⟨ek,eo⟩;clear ek eo
   by_cases j':kd=2\/kd=3
   .obtain⟨x0,y0⟩:∃x,r.W k 0=x:=⟨_,Z⟩;obtain⟨x1,y1⟩:∃x,r.W k 1=x:=⟨_,Z⟩;obtain⟨x2,y2⟩:∃x,r.W k 2=x:=⟨_,Z⟩;obtain⟨x3,y3⟩:∃x,r.W k 3=x:=⟨_,Z⟩;have c0:∀o,(A.alloc o).cell? (O B.bw (k*4) Q)=J (Y U x0):=λo=>by have:=(l.out.alloc o).wd k 0 P Za;rw[y0]at this;exact this
    have c1:∀o,(A.alloc o).cell? (O B.bw (k*4+1) Q)=J (Y U x1):=λo=>by have:=(l.out.alloc o).wd k 1 P Za;rw[y1]at this;exact this
    have c2:∀o,(A.alloc o).cell? (O B.bw (k*4+2) Q)=J (Y U x2):=λo=>by have:=(l.out.alloc o).wd k 2 P Za;rw[y2]at this;exact this
    have c3:∀o,(A.alloc o).cell? (O B.bw (k*4+3) Q)=J (Y U x3):=λo=>by have:=(l.out.alloc o).wd k 3 P Za;rw[y3]at this;exact this
    have S:ar ([Y U kd,Y U ow,Y U x0,Y U x1,Y U x2,Y U x3]=cut (qF K 0) (n1 k 0*pJ 0) (pJ 0)):=by
     have C:=HW.out (by rw[EK.out.1];exact j');show _=cut (qF K 0) (k*6) 6;rw[LS,EK.out.1,EK.out.2,←y0,←y1,←y2,←y3,C 0 Za,C 1 Za,C 2 Za,C 3 Za]
    have j1:(0:Int)<=(k:Int):=by omega
    have j2:(k:Int)<(r.nF:Int):=by omega
    clear y0 y1 y2 y3;rcases j' with rfl|rfl
    all_goals go_wp2_with (refine AU (c:=0) Z _ _ Z t.out (((bD _ _).alloc (af _) _).alloc Zc _) Za (by show k<=32;omega) (O (A.heap.size+1) 0 Q) 1 _ S.out (MU) Z Z ?_;intro g k' w2 t2 c2 z2;have T:ar _:=t2;clear t2)
    all_goals exact⟨⟨k+1,_,by omega,by go_num,T.out.qj λc y=>JZ k c⟩,by simp[bM];omega⟩
   .have e2:(kd==2)=false:=by simp;omega
    have e3:(kd==3)=false:=by simp;omega
    have S:ar ([Y U kd,Y U ow,Y U 0,Y U 0,Y U 0,Y U 0]=cut (qF K 0) (n1 k 0*pJ 0) (pJ 0)):=by
     have C:=HZ.out (by rw[EK.out.1];exact j');show _=cut (qF K 0) (k*6) 6;rw[LS,EK.out.1,EK.out.2,C 0 Za,C 1 Za,C 2 Za,C 3 Za]
    clear j'
    go_wp2_with (refine AU (c:=0) Z _ _ Z t.out (((bD _ _).alloc (af _) _).alloc Zc _) Za (by show k<=32;omega) (O (A.heap.size+1) 0 Q) 1 _ S.out (MU) Z Z ?_;intro g k' w2 t2 c2 z2;have T:ar _:=t2;clear t2)
    exact⟨⟨k+1,_,by omega,by go_num,T.out.qj λc y=>JZ k c⟩,by simp[bM];omega⟩
  .obtain rfl:k=r.nF:=by omega
   have T2:ar (Told K w wr V (n2 r.nF 0)):=t.out.qj λc y=>by unfold n2 n1;split<;>simp
   clear t
   go_wp2
   clear k0
   go_loopw [8] (λi w'=>∃(k:Nat) (V:Nat->Vu),k<=r.nS/\i=Y U k/\Told K w w' V (n2 r.nF k)) λi _=>r.nS - (bM i).toNat
   case atStart=>exact⟨0,_,by omega,Z,T2.out⟩
   case round =>
    clear l T2;obtain⟨i,V,hi,rfl,F⟩:=hrel;have t:ar (Told K w wr V (n2 r.nF i)):=F;have l:ar (ml wr B r):=F.mem HM.out;have k1:=l.out.k1;clear F
    by_cases P:i<r.nS
    .have r':i<K.nS:=by have:=HB.out;omega
     have j1:(0:Int)<=(i:Int):=by omega
     have j2:(i:Int)<(r.nS:Int):=by omega
     obtain⟨D,i'⟩:∃D,D=(aM 12).map (λc=>dO .i64 (r.P i c)):=⟨_,Z⟩;have LP:ar (wr.rangeAt B.bp (i*12) D):=λj v hv=>by
      rw[i']at hv;have p:j<12:=by have:=(bj.1 hv).1;simpa using this
      rw[bZ,cY p]at hv;rw[l.out.pr i j P p];exact hv
     have l':ar (D.length=12):=by unfold ar;rw[i'];simp
     have ei:ar ((J'.info? 107).map (·.size)=J D.length):=by unfold ar;rw[l'.out];kernel_rfl
     have K':ar ((J'.info? 107).map (·.size)=J D.toArray.size):=by unfold ar;rw[aR];exact ei.out
     have q1:ar (D.toArray.all (·.oneCell')=true):=all_oneCell_toArray λv hv=>by rw[i',dn]at hv;obtain⟨j,_,rfl⟩:=hv;rfl
     have z1:ar (D.toArray.size=12):=by unfold ar;rw[aR];exact l'.out
     have M':ar (D=(aM 12).map λc=>dO .i64 (r.P i c)):=i';clear i'
     go_wp2_with (first|(refine fR Z 107 _ Z B.bp (i*12) Z D _ LP.out Tryz.underlying107 Z ei.out ?_)|(refine Fb Z 107 _ _ Z wr.heap.size 0 D.toArray Z Z (by rw[z1.out];exact LG (by rfl)) K'.out q1.out ?_;intro W1 N';have F1:ar (W1.rowIs wr.heap.size 107 12 (λc=>Y U (r.P i c))/\bG wr.heap.size wr W1/\W1.heap.size=wr.heap.size+1):=(by unfold ar;rw[N'];exact MC _ _ _ D 12 Z l'.out _ λj p=>by rw[M'.out,bZ,cY p];rfl);clear N';have p0:W1.cell? (O wr.heap.size 0 Q)=J (Y U (r.P i 0)):=F1.out.1.cell (i:=0) Za;have p1:W1.cell? (O wr.heap.size 1 Q)=J (Y U (r.P i 1)):=F1.out.1.cell (i:=1) Za;have p2:W1.cell? (O wr.heap.size 2 Q)=J (Y U (r.P i 2)):=F1.out.1.cell (i:=2) Za;have p3:W1.cell? (O wr.heap.size 3 Q)=J (Y U (r.P i 3)):=F1.out.1.cell (i:=3) Za)|(refine Fb Z 82 _ _ Z W1.heap.size 0 (yc (r.P i 0) (r.P i 1) (r.P i 2) (r.P i 3)).toArray Z Z (by rw[JF];exact LG (by rfl)) (Zv _ _ _ _) (ZE _ _ _ _) ?_;intro W2 O';have F2:ar (uu wr W2 r i (E8 K i 0)):=(by unfold ar;rw[O'];exact ZW F1.out.1 F1.out.2.1 F1.out.2.2 H.out r' Z);clear O'))
     rw[F1.out.2.2];obtain⟨E,rfl⟩:∃x,x=wr:=⟨wr,Z⟩;clear p0 p1 p2 p3 F1 LP ei K' q1 z1 M' l'
     go_loopw [11] (λj w'=>∃m:Nat,m<=4/\j=Y U m/\uu E w' r i (E8 K i m)) λj _=>4 - (bM j).toNat
     case atStart=>exact⟨0,by omega,Z,F2.out⟩
     case round =>
      obtain⟨m,hm,rfl,s1⟩:=hrel;have z:ar (uu E wr r i (E8 K i m)):=s1;clear s1 F2
      by_cases m':m<4
      .have b1:(0:Int)<=(m:Int):=by omega
       have b2:(m:Int)<4:=by omega
       have x1:wr.cell? (O (E.heap.size+1) (3+m*2) Q)=J (E8 K i m (3+m*2)):=z.out.x.cell Za;have x2:wr.cell? (O (E.heap.size+1) (3+m*2+1) Q)=J (E8 K i m (3+m*2+1)):=z.out.x.cell Za;have x3:wr.cell? (O (E.heap.size+1) (11+m*2) Q)=J (E8 K i m (11+m*2)):=z.out.x.cell Za;have x4:wr.cell? (O (E.heap.size+1) (11+m*2+1) Q)=J (E8 K i m (11+m*2+1)):=z.out.x.cell Za;have zx:∀o,wr.frozen? (O (E.heap.size+1) o Q)=false:=λo=>z.out.x.frozen o;have y1:wr.cell? (O E.heap.size (4+m) Q)=J (Y U (r.P i (4+m))):=z.out.p.cell Za;have y2:wr.cell? (O E.heap.size (8+m) Q)=J (Y U (r.P i (8+m))):=z.out.p.cell Za;have HN:ar (∀j,j<20->E8 K i (m+1) j=_):=λj p=>Xt K i m j m' p;have HZ:ar (∀j,j=3+m*2+1\/j=11+m*2+1->E8 K i m j=Bo false):=λj p=>UU K i m j m' p;let⟨v,ev,hv⟩:=Si G H.out r' m' (by have:=HB.out;omega);let⟨u,eu,hu⟩:=c3K G N H.out r' m' (by have:=HB.out;omega);rw[ev]at y1;rw[eu]at y2;clear ev eu;generalize E8 K i m (3+m*2)=z1 at *;generalize E8 K i m (3+m*2+1)=z2 at *;generalize E8 K i m (11+m*2)=z3 at *;generalize E8 K i m (11+m*2+1)=z4 at *;rcases hv with⟨rfl,hv1,hv2⟩|⟨n,hv0,hv1,hv2,hv3,hv4,hv5⟩
       .rcases hu with⟨rfl,hu1,hu2⟩|⟨n',hu0,hu1,hu2,hu3,hu4,hu5⟩
        .have q:ar (K.dT i m=-1/\K.wr i m=false/\K.file i m=-1/\K.end i m=false):=⟨hv1,hv2,hu1,hu2⟩;clear hv1 hv2 hu1 hu2
         go_wp2
         exact⟨⟨m+1,by omega,by go_num,((z.out.set _ _).set _ _).congr λj p=>by(rw[HN.out j p,q.out.1,q.out.2.1,q.out.2.2.1,q.out.2.2.2];repeat' split)<;>first|rfl|(exfalso;omega)|exact HZ.out j Za⟩,by simp[bM];omega⟩
        .have q:ar (K.dT i m=-1/\K.wr i m=false/\K.file i m=n'/\(u%2==0)=K.end i m):=⟨hv1,hv2,hu4,hu5⟩;clear hv1 hv2 hu4 hu5
         go_wp2
         exact⟨⟨m+1,by omega,by go_num,((((z.out.set _ _).set _ _).set _ _).set _ _).congr λj p=>by(rw[HN.out j p,q.out.1,q.out.2.1,q.out.2.2.1,←q.out.2.2.2];repeat' split)<;>first|rfl|(exfalso;omega)|exact HZ.out j Za⟩,by simp[bM];omega⟩
       .rcases hu with⟨rfl,hu1,hu2⟩|⟨n',hu0,hu1,hu2,hu3,hu4,hu5⟩
        .have q:ar (K.dT i m=n/\(v%2==0)=K.wr i m/\K.file i m=-1/\K.end i m=false):=⟨hv4,hv5,hu1,hu2⟩;clear hv4 hv5 hu1 hu2
         go_wp2
         exact⟨⟨m+1,by omega,by go_num,((((z.out.set _ _).set _ _).set _ _).set _ _).congr λj p=>by(rw[HN.out j p,q.out.1,←q.out.2.1,q.out.2.2.1,q.out.2.2.2];repeat' split)<;>first|rfl|(exfalso;omega)|exact HZ.out j Za⟩,by simp[bM];omega⟩
        .have q:ar (K.dT i m=n/\(v%2==0)=K.wr i m/\K.file i m=n'/\(u%2==0)=K.end i m):=⟨hv4,hv5,hu4,hu5⟩;clear hv4 hv5 hu4 hu5
         go_wp2
         exact⟨⟨m+1,by omega,by go_num,((((((z.out.set _ _).set _ _).set _ _).set _ _).set _ _).set _ _).congr λj p=>by(rw[HN.out j p,q.out.1,←q.out.2.1,q.out.2.2.1,←q.out.2.2.2];repeat' split)<;>first|rfl|(exfalso;omega)|exact HZ.out j Za⟩,by simp[bM];omega⟩
      .obtain rfl:m=4:=by omega
       have S':ar (uu E wr r i λj=>A6 K (i*20+j)):=z.out.congr λj _=>YO K i j;obtain⟨cs,p'⟩:∃cs,cs=cut (A6 K) (i*20) 20:=⟨_,Z⟩;have LX:ar (wr.rangeAt (E.heap.size+1) 0 cs):=by
        unfold ar;rw[p'];have h:=Hu S'.out.x (o:=0) (m:=20) Za;simpa[cut] using h
       have ez:ar (cs.length=20):=by unfold ar;rw[p',xS]
       have ei:ar ((J'.info? 82).map (·.size)=J cs.length):=by unfold ar;rw[ez.out];kernel_rfl
       have S:ar (cs=cut (qF K 1) (n2 r.nF i 1*pJ 1) (pJ 1)):=p';have T3:ar (Told K w wr V (n2 r.nF i)):=t.out.step z.out.oX;have s0:wr.cell? (O (w.heap.size+1) 1 Q)=J (V 1):=T3.out.cell Za;have s1:∀o,(wr.alloc o).cell? (O (w.heap.size+1) 1 Q)=J (V 1):=λo=>(T3.out.lists.alloc o).cell (by show 1<3;omega);let⟨iS,zS,bS,_,u2,u3,u4,u5,u6,u7⟩:=Mu 1 Za;have HI:ar (J'.info? 82=J iS/\iS.zero=J zS/\iS.size=20/\zS.cells.size=20):=⟨u2,u3,u4,u6⟩;clear u2 u3 u4 u5 u6 u7 p' z S'
       go_wp2_with (first|(refine fR Z 82 _ Z (E.heap.size+1) 0 Z cs _ LX.out jS Z ei.out ?_)|(refine Un Z 72 82 Z iS zS cs 20 Z jz HI.out.1 HI.out.2.1 HI.out.2.2.1 ez.out HI.out.2.2.2 Za Za ?_)|(refine AU (c:=1) Z _ _ Z T3.out ((bD _ _).alloc (af _) _) Za (by show i<=32;omega) (O wr.heap.size 0 Q) 1 cs S.out (λj u hu=>Dt j u hu) Z Z ?_;intro g k' w2 t2 c2 z2;have T:ar _:=t2;clear t2))
       exact⟨⟨i+1,_,by omega,by go_num,T.out.qj λc y=>VD r.nF i c⟩,by simp[bM];omega⟩
    .obtain rfl:i=r.nS:=by omega
     have T3:ar (Told K w wr V (n3 r.nF r.nS 0)):=t.out.qj λc y=>rfl;clear t
     go_wp2
     clear k1
     go_loopw [12] (λi w'=>∃(k:Nat) (V:Nat->Vu),k<=r.nD/\i=Y U k/\Told K w w' V (n3 r.nF r.nS k)) λi _=>r.nD - (bM i).toNat
     case atStart=>exact⟨0,_,by omega,Z,T3.out⟩
     case round =>
      clear l T3;obtain⟨k,V,hk,rfl,F⟩:=hrel;have t:ar (Told K w wr V (n3 r.nF r.nS k)):=F;have l:ar (ml wr B r):=F.mem HM.out;have k2:wr.cell? (O B.b 2 Q)=J (.slice (B.aq 0) r.nD (B.cq 0)):=l.out.k2 0 Za;clear F
      by_cases P:k<r.nD
      .have g':k<K.nD:=by have:=HB.out;omega
       have k3:wr.cell? (O B.b 3 Q)=J (.slice (B.aq 1) r.nD (B.cq 1)):=l.out.k2 1 Za;have k4:wr.cell? (O B.b 4 Q)=J (.slice (B.aq 2) r.nD (B.cq 2)):=l.out.k2 2 Za;rw[l.out.aq 0 Za Za]at k2;rw[l.out.aq 1 Za Za]at k3;rw[l.out.aq 2 Za Za]at k4;have g0:wr.cell? (O (B.bq 0) k Q)=J (Y U (K.D k 0)):=by rw[←H.out.q k 0 g' Za];exact l.out.rg k 0 P Za
       have g1:wr.cell? (O (B.bq 1) k Q)=J (Y U (K.D k 1)):=by rw[←H.out.q k 1 g' Za];exact l.out.rg k 1 P Za
       have g2:wr.cell? (O (B.bq 2) k Q)=J (Y U (K.D k 2)):=by rw[←H.out.q k 2 g' Za];exact l.out.rg k 2 P Za
       have j1:(0:Int)<=(k:Int):=by omega
       have j2:(k:Int)<(r.nD:Int):=by omega
       have h0:=G.pL k g';have q:ar (K.D k 3=K.ends k false/\K.D k 4=K.ends k true):=⟨I.tD k g',I.tx k g'⟩;have HZ:ar (K.D k 0<0->K.D k 3=0/\K.D k 4=0):=λh=>by rw[q.out.1,q.out.2,Ol G g' h,Ol G g' h];exact⟨Z,Z⟩
       obtain⟨d0,e0⟩:∃x,K.D k 0=x:=⟨_,Z⟩;obtain⟨d1,e1⟩:∃x,K.D k 1=x:=⟨_,Z⟩;obtain⟨d2,e2⟩:∃x,K.D k 2=x:=⟨_,Z⟩;have EE:ar (K.D k 0=d0/\K.D k 1=d1/\K.D k 2=d2):=⟨e0,e1,e2⟩;rw[e0]at g0 h0;rw[e1]at g1;rw[e2]at g2;clear e0 e1 e2
       go_wp2_with fail
       go_region_held3 (λw'=>w'.cell? (O B.b 2 Q)=J (Sc (J (O (B.bq 0) 0 Q)) r.nD (B.cq 0))/\w'.cell? (O B.b 3 Q)=J (Sc (J (O (B.bq 1) 0 Q)) r.nD (B.cq 1))/\w'.cell? (O B.b 4 Q)=J (Sc (J (O (B.bq 2) 0 Q)) r.nD (B.cq 2))/\w'.cell? (O (B.bq 0) k Q)=J (Y U d0)/\w'.cell? (O (B.bq 1) k Q)=J (Y U d1)/\w'.cell? (O (B.bq 2) k Q)=J (Y U d2)) ((repeat' apply dg)<;>(go_keep;done)) (fail)
       obtain⟨W,eW⟩:∃W,W=(wr.alloc (.cells #[Y U d0,Y U d1,Y U d2,Y U 0,Y U 0] 87)).drew:=⟨_,Z⟩;have HX:ar (W.rowIs wr.heap.size 87 5 λj=>(#[Y U d0,Y U d1,Y U d2,Y U 0,Y U 0]:Array Vu).getD j (Bo false)):=by unfold ar;rw[eW];exact(K9 wr #[Y U d0,Y U d1,Y U d2,Y U 0,Y U 0] 87).drew
       have x0:W.cell? (O wr.heap.size 0 Q)=J (Y U d0):=HX.out.cell (i:=0) Za;have x1:W.cell? (O wr.heap.size 1 Q)=J (Y U d1):=HX.out.cell (i:=1) Za;have x2:W.cell? (O wr.heap.size 2 Q)=J (Y U d2):=HX.out.cell (i:=2) Za;have x3:W.cell? (O wr.heap.size 3 Q)=J (Y U 0):=HX.out.cell (i:=3) Za;have x4:W.cell? (O wr.heap.size 4 Q)=J (Y U 0):=HX.out.cell (i:=4) Za;have zx:∀o,W.frozen? (O wr.heap.size o Q)=false:=λo=>HX.out.frozen o;have h':ar (bG wr.heap.size wr W/\W.heap.size=wr.heap.size+1):=by unfold ar;rw[eW];exact⟨Yq ((bD _ _).alloc (af _) _),by show(wr.alloc _).heap.size=_;simp⟩
       rw[←eW];have s0:W.cell? (O (w.heap.size+1) 2 Q)=J (V 2):=(t.out.step h'.out.1).cell Za;have s1:∀o,(W.alloc o).cell? (O (w.heap.size+1) 2 Q)=J (V 2):=λo=>((t.out.step h'.out.1).lists.alloc o).cell (by show 2<3;omega);have ne:w.heap.size+1≠wr.heap.size:=by have:=t.out.size;omega
       have ne':wr.heap.size≠w.heap.size+1:=aA ne;clear eW k2 k3 k4 g0 g1 g2;rcases h0 with rfl|⟨h0,h0'⟩
       .have S:ar ([Y U (-1),Y U d1,Y U d2,Y U 0,Y U 0]=cut (qF K 2) (n3 r.nF r.nS k 2*pJ 2) (pJ 2)):=by
         show _=cut (qF K 2) (k*5) 5;have C:=HZ.out (by rw[EE.out.1];omega);rw[Kr,EE.out.1,EE.out.2.1,EE.out.2.2,C.1,C.2]
        go_wp2_with (refine AU (c:=2) Z _ _ Z t.out (h'.out.1.alloc (by have:=h'.out.2;omega) _) Za (by show k<=32;omega) (O W.heap.size 0 Q) 1 _ S.out (λj u hu=>Dt j u hu) Z Z ?_;intro g k' w2 t2 c2 z2;have T:ar _:=t2;clear t2)
        exact⟨⟨k+1,_,by omega,by go_num,T.out.qj λc y=>NI r.nF r.nS k c y⟩,by simp[bM];omega⟩
       .go_wp2_with fail
        refine(EN (l.out.same h'.out.1.size λj p _=>h'.out.1.block j p) H.out G (d:=k) Za false).mono ?_;rintro e A ⟨rfl,rfl⟩;obtain⟨r1,x'⟩:∃x:Int,x=K.ends k false:=⟨_,Z⟩;rw[←x'];have ER1:ar (r1=(K.ends k false:Int)):=x';clear x';have y':ar (bG wr.heap.size wr (A.setCell (O wr.heap.size 3 Q) (Y U r1))):=h'.out.1.setCell (af _) _
        go_wp2_with fail
        refine(EN (l.out.same y'.out.size λj p _=>y'.out.block j p) H.out G (d:=k) Za true).mono ?_;rintro e w3 ⟨rfl,rfl⟩;obtain⟨r2,z'⟩:∃x:Int,x=K.ends k true:=⟨_,Z⟩;rw[←z'];have ER2:ar (r2=(K.ends k true:Int)):=z';clear z';have S:ar ([Y U d0,Y U d1,Y U d2,Y U r1,Y U r2]=cut (qF K 2) (n3 r.nF r.nS k 2*pJ 2) (pJ 2)):=by
         show _=cut (qF K 2) (k*5) 5;rw[Kr,EE.out.1,EE.out.2.1,EE.out.2.2,q.out.1,q.out.2,ER1.out,ER2.out]
        have A':ar (bG wr.heap.size wr ((A.setCell (O wr.heap.size 3 Q) (Y U r1)).setCell (O wr.heap.size 4 Q) (Y U r2))/\((A.setCell (O wr.heap.size 3 Q) (Y U r1)).setCell (O wr.heap.size 4 Q) (Y U r2)).heap.size=wr.heap.size+1):=⟨y'.out.setCell (af _) _,by rw[i6,i6];exact h'.out.2⟩;have s2:∀o,(((A.setCell (O wr.heap.size 3 Q) (Y U r1)).setCell (O wr.heap.size 4 Q) (Y U r2)).alloc o).cell? (O (w.heap.size+1) 2 Q)=J (V 2):=λo=>((t.out.step A'.out.1).lists.alloc o).cell (by show 2<3;omega)
        go_wp2_with (refine AU (c:=2) Z _ _ Z t.out (A'.out.1.alloc (by have:=A'.out.2;omega) _) Za (by show k<=32;omega) (O A.heap.size 0 Q) 1 _ S.out (λj u hu=>by have:=Dt (w:=(A.setCell (O wr.heap.size 3 Q) (Y U r1)).setCell (O wr.heap.size 4 Q) (Y U r2)) (t:=87) j u hu;rw[i6,i6]at this;exact this) Z (by first|rfl|(simp only[i6];rfl)) ?_;intro g k' w2 t2 c2 z2;have T:ar _:=t2;clear t2)
        exact⟨⟨k+1,_,by omega,by go_num,T.out.qj λc y=>NI r.nF r.nS k c y⟩,by simp[bM];omega⟩
      .obtain rfl:k=r.nD:=by omega
       have R:ar (Told K w wr V (qO K)):=t.out.qj λc y=>by
        have hb:=HB.out;cases c,(Za:c<3) using ia
        .exact hb.1.symm
        .exact hb.2.1.symm
        .exact hb.2.2.symm
       let⟨f,g,s,hV,tl,hg⟩:=R.out.tell;have v0:wr.cell? (O (w.heap.size+1) 0 Q)=J (.slice (f 0) K.nF (s 0)):=by rw[←show V 0=.slice (f 0) K.nF (s 0) from hV 0 Za];exact R.out.cell Za
       have v1:wr.cell? (O (w.heap.size+1) 1 Q)=J (.slice (f 1) K.nS (s 1)):=by rw[←show V 1=.slice (f 1) K.nS (s 1) from hV 1 Za];exact R.out.cell Za
       have v2:wr.cell? (O (w.heap.size+1) 2 Q)=J (.slice (f 2) K.nD (s 2)):=by rw[←show V 2=.slice (f 2) K.nD (s 2) from hV 2 Za];exact R.out.cell Za
       have TL:ar (vJ wr K f g/\∀c,c<3->0<qO K c->w.heap.size+2<=g c):=⟨tl,hg⟩;have TH:ar (wr.there w.heap.size 0 3):=D6 R.out.res (o:=0) (m:=3) Za;have r0:wr.cell? (O w.heap.size 0 Q)=J (Sc Q 0 0):=R.out.res.cell Za;have r1:wr.cell? (O w.heap.size 1 Q)=J (Sc Q 0 0):=R.out.res.cell Za;have r2:wr.cell? (O w.heap.size 2 Q)=J (Sc Q 0 0):=R.out.res.cell Za;have zr:∀o,wr.frozen? (O w.heap.size o Q)=false:=λo=>R.out.res.frozen o;clear hV tl hg t
       go_wp2_with (refine Fb Z 109 _ _ Z w.heap.size 0 #[.slice (f 0) K.nF (s 0),.slice (f 1) K.nS (s 1),.slice (f 2) K.nD (s 2)] Z Z TH.out Ku (c8A _ _ _ _ _ _ _ _ _) ?_;intro W eW)
       clear eW;refine bodyPost_ret (v:=Cw K f s) (Gy Tryz.results45 (wr.setCells w.heap.size 0 [.slice (f 0) K.nF (s 0),.slice (f 1) K.nS (s 1),.slice (f 2) K.nD (s 2)]) w.heap.size [.slice (f 0) K.nF (s 0),.slice (f 1) K.nS (s 1),.slice (f 2) K.nD (s 2)] Z (fC wr w.heap.size 0 _ TH.out) Tryz.underlying109 Z Ku) Z ?_;have Hb:bG w.heap.size w (wr.setCells w.heap.size 0 [.slice (f 0) K.nF (s 0),.slice (f 1) K.nS (s 1),.slice (f 2) K.nD (s 2)]):=p9 (af _) _ _ R.out.oX;exact⟨f,⟨s,Z⟩,g,TL.out.1.same (by rw[l9];exact af _) λc y hn=>I5 (by have:=TL.out.2 c y hn;omega) _ _ _,Hb,λc y hn=>by have:=TL.out.2 c y hn;omega⟩
def Rk.pd(r:Rk)(K:aa)(n:Nat):Rk:={ r with R:=λi q=>if i<n/\K.ends i false=0/\K.ends i true=0 then(if q=0 then -1 else 0) else r.R i q }
theorem b8t(r:Rk)(K:aa):r.pd K 0=r:=by
 unfold Rk.pd;have:(λi q=>if i<0/\K.ends i false=0/\K.ends i true=0 then(if q=0 then(-1:Int) else 0) else r.R i q)=r.R:=by
  funext i q;rw[nR Za]
 rw[this]
theorem ZT(r:Rk)(K:aa)(k:Nat)(h:¬(K.ends k false=0/\K.ends k true=0)):r.pd K (k+1)=r.pd K k:=by
 unfold Rk.pd
 congr 1
 funext i q
 by_cases e:i<k/\K.ends i false=0/\K.ends i true=0
 .rw[nT e,nT ⟨by omega,e.2⟩]
 .rw[nR e,nR];intro a
  by_cases c:i=k
  .subst c;exact h a.2
  .exact e ⟨by omega,a.2⟩
theorem Ri(r:Rk)(K:aa)(k:Nat)(h:K.ends k false=0/\K.ends k true=0)(B:RB){w:Wd}(M:ml w B (((r.pd K k).pa k 0 (-1)).pa k 1 0 |>.pa k 2 0)):ml w B (r.pd K (k+1)):=by
 refine⟨M.k0,M.k1,M.k2,M.aq,M.wd,M.pr,λd q c f=>?_,M.zw,M.zp,M.zq,M.lb,M.lw,M.lp,M.lq,M.bw,M.bp,M.bq,M.wp,M.wq,M.pq,M.qq,M.hF,M.hS,M.hD⟩;rw[M.rg d q c f]
 congr 2
 show upd (upd (upd (r.pd K k).R k 0 (-1)) k 1 0) k 2 0 d q=if d<k+1/\K.ends d false=0/\K.ends d true=0 then(if q=0 then(-1:Int) else 0) else r.R d q
 unfold upd Rk.pd
 by_cases e:d=k
 .subst e;rw[nT (show d<d+1/\_/\_ from⟨by omega,h⟩)];cases q,(Za:q<3) using ia
  all_goals simp
 .rw[nR Za,nR Za,nR Za];show(if d<k/\K.ends d false=0/\K.ends d true=0 then(if q=0 then(-1:Int) else 0) else r.R d q)=_
  by_cases a:d<k/\K.ends d false=0/\K.ends d true=0
  .rw[nT a,nT (show d<k+1/\K.ends d false=0/\K.ends d true=0 from⟨by omega,a.2⟩)]
  .rw[nR a,nR λg=>a ⟨by omega,g.2⟩]
theorem VM(M:ml w B r)(j:r.nS=K.nS)(l:∀i x,i<K.nS->x<4->r.P i (8+x)=qh (K.file i x) (K.end i x))(gf:∀i x,i<K.nS->x<4->K.file i x=-1\/0<=K.file i x) :
  aG J' 79 #[Po (J (O B.b 0 Q))] w λe w'=>e=.returned (.tuple #[])/\ml w' B (r.pd K r.nD)/\ej B w w':=by
 have m:ar (ml w B r):=M;have p:ar (r.nS=K.nS):=j;have q:ar (∀i x,i<K.nS->x<4->r.P i (8+x)=qh (K.file i x) (K.end i x)):=l;have s:ar (∀i x,i<K.nS->x<4->K.file i x=-1\/0<=K.file i x):=gf;have S:r.nD<=4:=M.hD;have T:r.nS<=6:=M.hS;have t:ar (∀k b,K.ends k b<=24):=λk b=>by
  have:=AN (K.oI k b) (K.nS*4);unfold aa.ends;omega
 clear M j l gf
 go_enter Tryz.func79,Tryz.ntmps79
 go_wp2
 go_loopw [2] (λi w'=>∃k:Nat,k<=r.nD/\i=Y U k/\ml w' B (r.pd K k)/\ej B w w') λi _=>r.nD - (bM i).toNat
 case atStart=>exact⟨0,by omega,Z,by rw[b8t];exact m.out,ej.refl _⟩
 case round =>
  clear m;obtain⟨k,W,rfl,f,u⟩:=hrel;have a:ar (ml wr B (r.pd K k)):=f;have g:ar (ej B w wr):=u;have C:wr.cell? (O B.b 2 Q)=J (.slice (B.aq 0) r.nD (B.cq 0)):=f.k2 0 Za;have D:wr.cell? (O B.b 3 Q)=J (.slice (B.aq 1) r.nD (B.cq 1)):=f.k2 1 Za;have E:wr.cell? (O B.b 4 Q)=J (.slice (B.aq 2) r.nD (B.cq 2)):=f.k2 2 Za;clear f u
  by_cases c:k<r.nD
  .have G:(0:Int)<=(k:Int):=by omega
   have j2:(k:Int)<(r.nD:Int):=by omega
   have v:=a.out.aq 0 Za (show 0<r.nD by omega);have y:=a.out.aq 1 Za (show 0<r.nD by omega);have z:=a.out.aq 2 Za (show 0<r.nD by omega);rw[v]at C;rw[y]at D;rw[z]at E;clear v y z
   go_wp2_with fail
   refine(Ii a.out p.out q.out s.out (d:=k) Za false).mono ?_;rintro e A ⟨rfl,rfl⟩;have F:=t.out k false;have H:=t.out k true
   go_wp2_with fail
   refine(Ii a.out p.out q.out s.out (d:=k) Za true).mono ?_;rintro e w2 ⟨rfl,rfl⟩
   by_cases d:K.ends k false=0/\K.ends k true=0
   .rw[d.1,d.2];have h:ar (K.ends k false=0/\K.ends k true=0):=d;have r0:=a.out.rg k 0 c Za;have r1:=a.out.rg k 1 c Za;have r2:=a.out.rg k 2 c Za;have z0:=λo=>a.out.zq 0 o Za (show 0<r.nD by omega);have z1:=λo=>a.out.zq 1 o Za (show 0<r.nD by omega);have z2:=λo=>a.out.zq 2 o Za (show 0<r.nD by omega);have I:=a.out.bq 0 Za;have n1:=a.out.bq 1 Za;have n2:=a.out.bq 2 Za;have n3:=a.out.qq 0 1 Za Za Za;have P:=a.out.qq 0 2 Za Za Za;have R:=a.out.qq 1 2 Za Za Za;have n6:=aA I;have n7:=aA n1;have n8:=aA n2;have n9:=aA n3;have a':=aA P;have b':=aA R;clear d F H
    go_wp2
    refine⟨⟨k+1,by omega,by go_num,Ri r K k h.out B (((a.out.pa (d:=k) (q:=0) c Za (-1)).pa (d:=k) (q:=1) c Za 0).pa (d:=k) (q:=2) c Za 0),((g.out.pa (q:=0) Za _ _).pa (q:=1) Za _ _).pa (q:=2) Za _ _⟩,by simp[bM];omega⟩
   .have h:ar (r.pd K (k+1)=r.pd K k):=ZT r K k d;have e0:(((K.ends k false:Nat):Int)+((K.ends k true:Nat):Int)==0)=false:=by simp;omega
    clear d;generalize K.ends k false=a1 at *;generalize K.ends k true=a2 at *
    go_wp2
    exact⟨⟨k+1,by omega,by go_num,by rw[h.out];exact a.out,g.out⟩,by simp[bM];omega⟩
  .obtain rfl:k=r.nD:=by omega
   go_wp2
   go_end0
   exact⟨Z,a.out,g.out⟩
theorem Wr{K:aa}{b:Bool}(i q:Nat)(c:q<3):(K.count a b g).D i q=K.D i q:=by
 cases b<;>exact d6 _ Za
theorem NP{K:aa}{r:Rk}(f:Rel K r)(I:Inv K)(N:iP K)(E:oe K)(R:a<K.nS)(y:c<4)(hf:K.file a c≠-1) :
  Rel (K.oa a c) ((r.nZ a (8+c) 0).pd (K.av a c (-1) false) r.nD):=by
 have hF:=I.mL.file a c R y;obtain⟨d,S⟩:∃d:Nat,K.file a c=d:=⟨(K.file a c).toNat,by omega⟩;have g':d<K.nD:=by omega
 have s:Rel ((K.av a c (-1) false).count d (K.end a c) (-1)) (r.nZ a (8+c) 0):=by
  have:=(f.av a c (-1) false y).count d (K.end a c) (-1);rw[G6]at this;exact this
 have T:=XA I R y S;have W:∀i z,((K.av a c (-1) false).count d (K.end a c) (-1)).ends i z=(K.av a c (-1) false).ends i z:=λi z=>Er;have G:∀i,i≠d->((K.av a c (-1) false).count d (K.end a c) (-1)).D i 3=K.D i 3/\((K.av a c (-1) false).count d (K.end a c) (-1)).D i 4=K.D i 4:=λi u=>by
  have t:=uz (K.av a c (-1) false) d (K.end a c) (-1) i;rw[t.1,t.2,nR Za,nR Za];exact⟨Z,Z⟩
 have f':∀i q,q<3->((K.av a c (-1) false).count d (K.end a c) (-1)).D i q=K.D i q:=λi q m=>Wr _ _ m;have sz:=Q2 (K.av a c (-1) false) d (K.end a c) (-1);have zD:((K.av a c (-1) false).count d (K.end a c) (-1)).nD=K.nD:=sz.2.2.1;unfold aa.oa;rw[S,au];show Rel (if ((K.av a c (-1) false).count d (K.end a c) (-1)).D d 3=0/\((K.av a c (-1) false).count d (K.end a c) (-1)).D d 4=0 then(((K.av a c (-1) false).count d (K.end a c) (-1)).an (((K.av a c (-1) false).count d (K.end a c) (-1)).D d 0).toNat 0 (-1)).hZ d (-1) else(K.av a c (-1) false).count d (K.end a c) (-1)) _;generalize (K.av a c (-1) false).count d (K.end a c) (-1)=l at *;have M:∀i,i<K.nD->(((K.av a c (-1) false).ends i false=0/\(K.av a c (-1) false).ends i true=0)↔(l.D i 3=0/\l.D i 4=0)):=λi u=>by
  rw[←W,←W,T.tD i Za,T.tx i Za];constructor
  .intro h;rw[h.1,h.2];exact⟨Z,Z⟩
  .intro h;exact⟨by omega,by omega⟩
 have i':r.nD=K.nD:=f.d;have RR:∀e q,e<K.nD->q<3->((r.nZ a (8+c) 0).pd (K.av a c (-1) false) r.nD).R e q=if l.D e 3=0/\l.D e 4=0 then(if q=0 then -1 else 0) else l.D e q:=λe q p m=>by
  show(if e<r.nD/\(K.av a c (-1) false).ends e false=0/\(K.av a c (-1) false).ends e true=0 then(if q=0 then(-1:Int) else 0) else r.R e q)=_
  by_cases h:l.D e 3=0/\l.D e 4=0
  .rw[nT h,nT ⟨by omega,(M e p).2 h⟩]
  .rw[nR h,nR λh'=>h ((M e p).1 h'.2)];have:=s.q e q Za m;exact this
 have OT:∀e q,e<K.nD->e≠d->q<3->(if l.D e 3=0/\l.D e 4=0 then(if q=0 then(-1:Int) else 0) else l.D e q)=l.D e q:=λe q p c' m=>by
  by_cases h:l.D e 3=0/\l.D e 4=0
  .rw[nT h];rw[(G e c').1,(G e c').2]at h;have h0:K.D e 0=-1:=by
    rcases I.mL.pL e p with k|k
    .exact k
    .exact absurd h (E.h e p k.1)
   have:=N.tI e p h0;rw[f' e q m];cases q,(Za:q<3) using ia
   .simp[h0]
   .simp[this.1]
   .simp[this.2]
  .rw[nR h]
 generalize d':(r.nZ a (8+c) 0).pd (K.av a c (-1) false) r.nD=v at *;have o:v.nF=(r.nZ a (8+c) 0).nF/\v.nS=(r.nZ a (8+c) 0).nS/\v.nD=(r.nZ a (8+c) 0).nD/\v.P=(r.nZ a (8+c) 0).P/\v.W=(r.nZ a (8+c) 0).W:=by rw[←d'];exact⟨Z,Z,Z,Z,Z⟩
 generalize r.nZ a (8+c) 0=r0 at *;clear d';split
 .rename_i C;have x:=s.rX (l.D d 0).toNat 0 (-1) Za;have e0:=(J4 l (l.D d 0).toNat 0 (-1)).1;have z0:=(J4 l (l.D d 0).toNat 0 (-1)).2;generalize l.an (l.D d 0).toNat 0 (-1)=K2 at *;refine⟨o.1.trans x.f,o.2.1.trans x.s,o.2.2.1.trans x.d,λi t u D=>?_,λg j F H P=>?_,λe q p m=>?_⟩
  .rw[o.2.2.2.1];exact x.p i t u D
  .rw[o.2.2.2.2];exact x.w g j F H P
  .have e':e<K.nD:=by have:e<K2.nD:=p;omega
   rw[RR e q e' m,Z3]
   by_cases k:e=d
   .subst k;rw[nT C,nT (show e=e/\q<5 from⟨Z,by omega⟩)]
   .rw[OT e q e' k m,nR Za,e0]
 .rename_i C;refine⟨o.1.trans s.f,o.2.1.trans s.s,o.2.2.1.trans s.d,λi t u D=>?_,λg j F H P=>?_,λe q p m=>?_⟩
  .rw[o.2.2.2.1];exact s.p i t u D
  .rw[o.2.2.2.2];exact s.w g j F H P
  .rw[RR e q Za m]
   by_cases k:e=d
   .subst k;rw[nR C]
   .exact OT e q Za k m
theorem Jh(M:ml w B r)(c:Rel K r)(I:Inv K)(m:a<K.nS)(j:d<4){o:Nat}(p:o=a*12+8+d) :
  aG J' 79 #[Po (J (O B.b 0 Q))] (w.setCell (O B.bp o Q) (Y U 0)) λe w'=>e=.returned (.tuple #[])/\ml w' B ((r.nZ a (8+d) 0).pd (K.av a d (-1) false) r.nD)/\ej B w w':=by
 have l:ml (w.setCell (O B.bp o Q) (Y U 0)) B (r.nZ a (8+d) 0):=M.nZ (i:=a) (c:=8+d) (o:=o) (by have:=c.s;omega) Za Za 0;have k:=c.av a d (-1) false j;rw[G6]at k;refine(VM (K:=K.av a d (-1) false) l c.s (λi y g f=>k.file g f) λi y g f=>?_).mono ?_
 .rw[yK K a d (-1) false i y f j];split
  .exact bT Z
  .rcases I.mL.file i y g f with h|h
   .exact bT h
   .exact ba h.1
 .rintro e w' ⟨rfl,h1,h2⟩;exact⟨Z,h1,((ej.refl w).nZ _ _).trans h2⟩
theorem b4Q(M:ml w B r)(d:Rel K r)(I:Inv K)(N:iP K)(o:oe K)(y z:Int)(g:a<K.nS)(h:c<4) :
  aG J' 43 #[Po (J (O B.b 0 Q)),Y U a,Y U 15,Y U c,Y U y,Y U z] w (oL B w (N9 K a c)):=by
 have i:ar (ml w B r):=M;have f:ar (Rel K r):=d;have C:=M.k1;have p:a<r.nS:=by have:=d.s;omega
 have D:(0:Int)<=(a:Int):=by omega
 have F:(a:Int)<(r.nS:Int):=by omega
 have H:(0:Int)<=(c:Int):=by omega
 have P:(c:Int)<4:=by omega
 have j:w.cell? (O B.bp (a*12+8+c) Q)=J (Y U (r.P a (8+c))):=by rw[aS];exact M.pr a (8+c) p Za
 have R:=M.zp;have q:K.nD<=4:=by have:=M.hD;have:=d.d;omega
 clear M d
 go_enter mq,ly
 rcases N6 I.mL f.out g h q with⟨k,l⟩|⟨n,k,l,S,s,t,u⟩
 .have E:ar (N9 K a c=⟨K,0,8⟩):=by unfold N9 ar;rw[nT k]
  rw[l]at j
  go_wp2
  go_ret2
  exact oL.mk E i.out f.out (ej.refl _)
 .have E:ar (N9 K a c=⟨K.oa a c,0,0⟩):=by unfold N9 ar;rw[nR Za]
  obtain⟨v,m⟩:∃v,r.P a (8+c)=v:=⟨_,Z⟩;rw[m]at j t u;have T:¬v=0:=by omega
  have x:ar (K.file a c≠-1):=by unfold ar;omega
  clear s m
  go_wp2_with fail
  refine(Jh i.out f.out I g h Za).mono ?_;rintro e A ⟨rfl,m1,p1⟩
  go_wp2
  go_ret2
  exact oL.mk E m1 (NP f.out I N o g h x.out) p1
theorem b6z(M:ml w B r)(f:Rel K r)(I:Inv K)(N:iP K)(q:oe K)(h:c<K.nS)(i:d<4)(j:K.still a c=true) :
  aG J' 42 #[Po (J (O B.b 0 Q)),Y U 11,Y U c,Y U d] w (oL B w (W8 K a c d)):=by
 have k:ar (ml w B r):=M;have g:ar (Rel K r):=f;have C:=M.k1;have s:c<r.nS:=by have:=f.s;omega
 have D:(0:Int)<=(c:Int):=by omega
 have F:(c:Int)<(r.nS:Int):=by omega
 have H:(0:Int)<=(d:Int):=by omega
 have P:(d:Int)<4:=by omega
 have l:w.cell? (O B.bp (c*12+8+d) Q)=J (Y U (r.P c (8+d))):=by rw[aS];exact M.pr c (8+d) s Za
 have R:=M.zp;have t:K.nD<=4:=by have:=M.hD;have:=f.d;omega
 clear M f
 go_enter mr,lz
 rcases N6 I.mL g.out h i t with⟨m,o⟩|⟨n,m,o,S,u,x,y⟩
 .have E:ar (W8 K a c d=⟨K,0,8⟩):=by unfold W8 ar;rw[nR (by simp[j]),nT m]
  rw[o]at l
  go_wp2
  go_ret2
  exact oL.mk E k.out g.out (ej.refl _)
 .have E:ar (W8 K a c d=⟨K.oa c d,0,0⟩):=by unfold W8 ar;rw[nR (by simp[j]),nR Za]
  obtain⟨v,p⟩:∃v,r.P c (8+d)=v:=⟨_,Z⟩;rw[p]at l x y;have T:¬v=0:=by omega
  have z:ar (K.file c d≠-1):=by unfold ar;omega
  clear u p
  go_wp2_with fail
  refine(Jh k.out g.out I h i Za).mono ?_;rintro e A ⟨rfl,m1,p1⟩
  go_wp2
  go_ret2
  exact oL.mk E m1 (NP g.out I N q h i z.out) p1
theorem Uu(M:ml w B r)(c:Rel K r)(I:Inv K){t:Nat}(z:Int)(o:a<K.nS)(H:d<4)(p:t<4) :
  aG J' 43 #[Po (J (O B.b 0 Q)),Y U a,Y U 14,Y U d,Y U t,Y U z] w (oL B w (qy K a d t)):=by
 have g:ar (ml w B r):=M;have h:ar (Rel K r):=c;have k1:=M.k1;have i:a<r.nS:=by have:=c.s;omega
 have l1:(0:Int)<=(a:Int):=by omega
 have l2:(a:Int)<(r.nS:Int):=by omega
 have x1:(0:Int)<=(d:Int):=by omega
 have x2:(d:Int)<4:=by omega
 have t1:(0:Int)<=(t:Int):=by omega
 have t2:(t:Int)<4:=by omega
 have j:w.cell? (O B.bp (a*12+8+d) Q)=J (Y U (r.P a (8+d))):=by rw[aS];exact M.pr a (8+d) i Za
 have q:w.cell? (O B.bp (a*12+8+t) Q)=J (Y U (r.P a (8+t))):=by rw[aS];exact M.pr a (8+t) i Za
 have zp:=M.zp;have s:K.nD<=4:=by have:=M.hD;have:=c.d;omega
 clear M c
 go_enter mq,ly
 rcases N6 I.mL h.out o H s with⟨k,x⟩|⟨n,k,x,h3,l,y,C⟩
 .have E:ar (qy K a d t=⟨K,0,8⟩):=by unfold qy ar;rw[nT (bT k)]
  rw[x]at j
  go_wp2
  go_ret2
  exact oL.mk E g.out h.out (ej.refl _)
 .rcases N6 I.mL h.out o p s with⟨P,D⟩|⟨m,P,D,g3,R,S,T⟩
  .have E:ar (qy K a d t=⟨K.eL a t n (K.end a d),0,0⟩):=by unfold qy ar;rw[nR Za,k,au]
   have W:ar (r.P a (8+d)=qh n (K.end a d)):=l;obtain⟨v,f⟩:∃v,r.P a (8+d)=v:=⟨_,Z⟩;have G:ar (r.P a (8+d)=v):=f;rw[f]at j y C;rw[D]at q;have ne:¬v=0:=by omega
   have b4:B.bp≠B.b:=λe=>g.out.bp e.symm;have b5:B.b≠B.bp:=g.out.bp;clear l f
   go_wp2_with fail
   go_region_held3 (λw'=>w'.cell? (O B.b 1 Q)=J (Sc (J (O B.bp 0 Q)) r.nS B.cp)/\w'.cell? (O B.bp (a*12+8+d) Q)=J (Y U v)) ((repeat' apply dg)<;>(first|(go_keep;done)|(refine zg ?_;go_keep)|(refine keep_same_drew ?_;go_keep))) (fail)
   go_wp2
   go_ret2
   refine oL.mk E (g.out.drew.nZ (i:=a) (c:=8+t) (o:=a*12+8+t) i Za Za v) ?_ ((ej.refl _).drew.nZ _ _);rw[←G.out,W.out];exact h.out.eL a t n _ p
  .have E:ar (qy K a d t=⟨K,0,8⟩):=by unfold qy ar;rw[nT (ba Za)]
   obtain⟨v,f⟩:∃v,r.P a (8+d)=v:=⟨_,Z⟩;obtain⟨u,F⟩:∃u,r.P a (8+t)=u:=⟨_,Z⟩;rw[f]at j y C;rw[F]at q S T;have ne:¬v=0:=by omega
   clear l f R F
   go_wp2
   go_ret2
   exact oL.mk E g.out h.out (ej.refl _)
theorem TN(K:aa)(d c:Nat)(v:Int):(K.nX d c v).nF=K.nF/\(K.nX d c v).nS=K.nS/\(K.nX d c v).nD=K.nD/\(K.nX d c v).S=K.S/\(K.nX d c v).B=K.B/\(K.nX d c v).F=K.F:=⟨Z,Z,Z,Z,Z,Z⟩
theorem Sb(K:aa)(n:Nat)(f:Int):(K.hZ n f).nF=K.nF/\(K.hZ n f).nS=K.nS/\(K.hZ n f).nD=K.nD/\(K.hZ n f).S=K.S/\(K.hZ n f).B=K.B/\(K.hZ n f).F=K.F:=by
 unfold aa.hZ;simp only[TN,and_self]
theorem Rel.ring{K:aa}{r:Rk}(a:Rel K r)(N:iP K){n:Nat}(f:Int)(d:n<K.nD)(u:K.D n 0=-1):Rel (K.hZ n f) (r.pa n 0 f):=by
 let⟨h,l,m,v,x,y⟩:=Sb K n f;have z:=Z3 K n f;generalize K.hZ n f=F at *;refine⟨by rw[h];exact a.f,by rw[l];exact a.s,by rw[m];exact a.d,λi c o C=>?_,λg j p D s=>?_,λe q t E=>?_⟩
 .rw[JG v x];rw[l]at o;exact a.p i c o C
 .rw[y]at s ⊢;rw[h]at p;exact a.w g j p D s
 .rw[m]at t;rw[z];show upd r.R n 0 f e q=_;unfold upd
  by_cases k:e=n
  .subst k;rw[nT (show e=e/\q<5 from⟨Z,by omega⟩)];have:=N.tI e d u;cases q,(Za:q<3) using ia
   .simp
   .simp;rw[a.q e 1 d Za];exact this.1
   .simp;rw[a.q e 2 d Za];exact this.2
  .rw[nR Za,nR Za];exact a.q e q t E
theorem QV{K:aa}{r:Rk}(e:Rel K r)(N:iP K){n:Nat}(p:n<K.nD)(g:K.D n 0=-1)(q:d<3) :
  Rel ((((K.an c 3 (-1)).hZ n c).eL a d n false).eL a (d+1) n true) ((((r.pa n 0 c).zero c).nZ a (8+d) (2*(n:Int)+1)).nZ a (8+(d+1)) (2*(n:Int)+2)):=by
 have h:=e.an c 3 (-1);have i:=U9 N c 3 (-1) Za;have j:(K.an c 3 (-1)).D n 0=-1:=by rw[(J4 K c 3 (-1)).1];exact g
 have s:=(J4 K c 3 (-1)).2;generalize K.an c 3 (-1)=k at *;have l:=h.ring i (c:Int) Za j;generalize k.hZ n c=m at *;have o:=l.eL a d n false Za;generalize m.eL a d n false=t at *;have f:=o.eL a (d+1) n true Za;rw[H8,H8]at f;exact f
theorem Xw(M:ml w B r)(c:Rel K r)(d:Own K)(I:Inv K)(N:iP K){n f x:Nat}(y:a<K.nS)(q:n<K.nD)(l:f<K.nF)(R:x<4) :
  aG J' 43 #[Po (J (O B.b 0 Q)),Y U a,Y U 13,Y U n,Y U f,Y U x] w (oL B w (C4 K a n f x)):=by
 have g:ar (ml w B r):=M;have h:ar (Rel K r):=c;have k0:=M.k0;have k1:=M.k1;have z:K.nD<=4:=by have:=M.hD;have:=c.d;omega
 have C:n<r.nD:=by have:=c.d;omega
 have p:a<r.nS:=by have:=c.s;omega
 have i:f<r.nF:=by have:=c.f;omega
 have hF:r.nF<=32:=M.hF;have S:w.cell? (O B.b 2 Q)=J (.slice (B.aq 0) r.nD (B.cq 0)):=M.k2 0 Za;rw[M.aq 0 Za Za]at S;have l1:(0:Int)<=(a:Int):=by omega
 have l2:(a:Int)<(r.nS:Int):=by omega
 have m1:(0:Int)<=(n:Int):=by omega
 have m2:(n:Int)<(r.nD:Int):=by omega
 have m3:(n:Int)<4:=by omega
 have f1:(0:Int)<=(f:Int):=by omega
 have f2:(f:Int)<(r.nF:Int):=by omega
 have x1:(0:Int)<=(x:Int):=by omega
 have x2:(x:Int)<4:=by omega
 have s:=M.rg n 0 C Za;rw[c.q n 0 q Za]at s;have D:w.cell? (O B.bp (a*12+8+x) Q)=J (Y U (r.P a (8+x))):=by rw[aS];exact M.pr a (8+x) p Za
 clear M c
 go_enter mq,ly
 by_cases t:K.D n 0=-1
 .rw[t]at s
  by_cases F:K.F f 0=0
  .have k:(K.F f 0==0)=true:=by simpa using F
   by_cases T:x=3
   .subst T;have E:ar (C4 K a n f 3=⟨K,0,8⟩):=by unfold C4 ar;rw[nR Za,nR Za,nT (bT Z)]
    go_wp2_with fail
    refine(Y6 g.out h.out d N I.mL l).mono ?_;rintro e A ⟨rfl,rfl⟩;rw[k]
    go_wp2
    go_ret2
    exact oL.mk E g.out h.out (ej.refl _)
   .have e3:((x:Int)==3)=false:=by simp;omega
    have y1:(0:Int)<=(x:Int)+1:=by omega
    have y2:(x:Int)+1<4:=by omega
    have u:w.cell? (O B.bp (a*12+8+(x+1)) Q)=J (Y U (r.P a (8+(x+1)))):=by rw[aS];exact g.out.pr a (8+(x+1)) p Za
    rcases N6 I.mL h.out y R z with⟨W,H⟩|⟨m,W,H,g3,G,g5,g6⟩
    .rw[H]at D;rcases N6 I.mL h.out y (show x+1<4 by omega) z with⟨q1,P⟩|⟨m,q1,P,q3,q4,q5,q6⟩
     .rw[P]at u;have E:ar (C4 K a n f x=⟨(((K.an f 3 (-1)).hZ n f).eL a x n false).eL a (x+1) n true,0,0⟩):=by unfold C4 ar;rw[nR Za,nR Za,nR Za]
      go_wp2_with fail
      refine(Y6 g.out h.out d N I.mL l).mono ?_;rintro e A ⟨rfl,rfl⟩;rw[k];have zp:=g.out.zp;have zw:=g.out.zw;have zq:=λo=>g.out.zq 0 o Za (show 0<r.nD by omega);have d0:A.cell? (O B.bw (f*4) Q)=J (Y U (r.W f 0)):=g.out.wd f 0 i Za;have d1:=g.out.wd f 1 i Za;have d2:=g.out.wd f 2 i Za;have d3:=g.out.wd f 3 i Za;have b1:=g.out.bw;have b2:=g.out.bp;have b3:=g.out.bq 0 Za;have b4:=g.out.wp;have b5:=g.out.wq 0 Za;have b6:=g.out.pq 0 Za;have b7:=aA b1;have b8:=aA b2;have b9:=aA b3;have b':=aA b4;have c':=aA b5;have d':=aA b6
      go_wp2
      go_ret2
      have M1:=g.out.pa (d:=n) (q:=0) C Za (f:Int);have M2:=(((M1.oG (i:=f) (c:=0) (o:=f*4) i Za Za 0).oG (i:=f) (c:=1) (o:=f*4+1) i Za Za 0).oG (i:=f) (c:=2) (o:=f*4+2) i Za Za 0).oG (i:=f) (c:=3) (o:=f*4+3) i Za Za 0;have M3:=(M2.nZ (i:=a) (c:=8+x) (o:=a*12+8+x) p Za Za (2*(n:Int)+1)).nZ (i:=a) (c:=8+(x+1)) (o:=a*12+8+(x+1)) p Za Za (2*(n:Int)+2);exact oL.mk E M3 (QV h.out N q t Za) (((((((ej.refl _).pa (q:=0) Za _ _).oG _ _).oG _ _).oG _ _).oG _ _).nZ _ _ |>.nZ _ _)
     .have E:ar (C4 K a n f x=⟨K,0,8⟩):=by unfold C4 ar;rw[nR Za,nR Za,nT (ba (ba Za))]
      obtain⟨v,j⟩:∃v,r.P a (8+(x+1))=v:=⟨_,Z⟩;rw[j]at u q5 q6;clear q4 j
      go_wp2_with fail
      refine(Y6 g.out h.out d N I.mL l).mono ?_;rintro e A ⟨rfl,rfl⟩;rw[k]
      go_wp2
      go_ret2
      exact oL.mk E g.out h.out (ej.refl _)
    .have E:ar (C4 K a n f x=⟨K,0,8⟩):=by unfold C4 ar;rw[nR Za,nR Za,nT (ba (bT Za))]
     obtain⟨v,j⟩:∃v,r.P a (8+x)=v:=⟨_,Z⟩;rw[j]at D g5 g6;clear G j u
     go_wp2_with fail
     refine(Y6 g.out h.out d N I.mL l).mono ?_;rintro e A ⟨rfl,rfl⟩;rw[k]
     go_wp2
     go_ret2
     exact oL.mk E g.out h.out (ej.refl _)
  .have E:ar (C4 K a n f x=⟨K,0,5⟩):=by unfold C4 ar;rw[nR Za,nT Za]
   have k:(K.F f 0==0)=false:=by simpa using F
   go_wp2_with fail
   refine(Y6 g.out h.out d N I.mL l).mono ?_;rintro e A ⟨rfl,rfl⟩;rw[k]
   go_wp2
   go_ret2
   exact oL.mk E g.out h.out (ej.refl _)
 .have E:ar (C4 K a n f x=⟨K,0,9⟩):=by unfold C4 ar;rw[nT Za]
  obtain⟨v,j,e'⟩:∃v,K.D n 0=v/\0<=v:=⟨_,Z,by have:=I.mL.pL n q;omega⟩;rw[j]at s;clear t j
  go_wp2
  go_ret2
  exact oL.mk E g.out h.out (ej.refl _)
theorem Rel.pa{K:aa}{r:Rk}(a:Rel K r)(d q:Nat)(v:Int)(h:q<3):Rel (K.nX d q v) (r.pa d q v):=by
 refine⟨a.f,a.s,a.d,a.p,a.w,λe c f g=>?_⟩;show upd r.R d q v e c=upd K.D d q v e c;unfold upd;split
 .rfl
 .exact a.q e c f g
theorem EI(n:Nat)(b:Bool):(2*(n:Int)+(if b then 2 else 1)).tmod 2=if b then 0 else 1:=by
 cases b
 .simp only[aJ,if_false];rw[show(2*(n:Int)+1)=((2*n+1:Nat):Int) by omega,show(2:Int)=((2:Nat):Int) by rfl,←gi];omega
 .simp only[if_true];rw[show(2*(n:Int)+2)=((2*n+2:Nat):Int) by omega,show(2:Int)=((2:Nat):Int) by rfl,←gi];omega
theorem Rb(M:ml w B r)(f:Rel K r)(i:Own K)(I:Inv K){j:Nat}(T:a<K.nS)(hx:c<4)(hp:d<4)(hj:j<4) :
  aG J' 44 #[Po (J (O B.b 0 Q)),Y U a,Y U 16,Y U c,Y U d,Y U j] w (oL B w (H9 K a c d j)):=by
 have l:ar (ml w B r):=M;have p:ar (Rel K r):=f;have k0:=M.k0;have k1:=M.k1;have hD:K.nD<=4:=by have:=M.hD;have:=f.d;omega
 have hF:r.nF<=32:=M.hF;have C:ar (r.nF=K.nF/\r.nD=K.nD):=⟨f.f,f.d⟩;have d':a<r.nS:=by have:=f.s;omega
 have k2:w.cell? (O B.b 2 Q)=J (.slice (B.aq 0) r.nD (B.cq 0)):=M.k2 0 Za;have k3:w.cell? (O B.b 3 Q)=J (.slice (B.aq 1) r.nD (B.cq 1)):=M.k2 1 Za;have k4:w.cell? (O B.b 4 Q)=J (.slice (B.aq 2) r.nD (B.cq 2)):=M.k2 2 Za;have l1:(0:Int)<=(a:Int):=by omega
 have l2:(a:Int)<(r.nS:Int):=by omega
 have x1:(0:Int)<=(c:Int):=by omega
 have x2:(c:Int)<4:=by omega
 have p1:(0:Int)<=(d:Int):=by omega
 have p2:(d:Int)<4:=by omega
 have j1:(0:Int)<=(j:Int):=by omega
 have j2:(j:Int)<4:=by omega
 have c1:w.cell? (O B.bp (a*12+8+c) Q)=J (Y U (r.P a (8+c))):=by rw[aS];exact M.pr a (8+c) d' Za
 have c2:w.cell? (O B.bp (a*12+4+d) Q)=J (Y U (r.P a (4+d))):=by rw[aS];exact M.pr a (4+d) d' Za
 clear M f
 go_enter Tryz.func44,Tryz.ntmps44
 rcases N6 I.mL p.out T hx hD with⟨W,x⟩|⟨k,W,x,h3,D,h5,h6⟩
 .have E:ar (H9 K a c d j=⟨K,0,8⟩):=by unfold H9 ar;rw[nT (bT W)]
  rw[x]at c1
  go_wp2
  go_ret2
  exact oL.mk E l.out p.out (ej.refl _)
 .rw[H8]at D;have t:=EI k (K.end a c);have hq:=I7 k (K.end a c);rw[←D]at t hq;obtain⟨v,hv⟩:∃v,r.P a (8+c)=v:=⟨_,Z⟩;rw[hv]at c1 h5 h6 t hq;have ne:¬v=0:=by omega
  clear D hv;rw[bg Za]at t
  cases z:K.end a c with
  | false =>
   have E:ar (H9 K a c d j=⟨K,0,8⟩):=by unfold H9 ar;rw[nT (ba z)]
   rw[z]at t;simp only[aJ,if_false]at t;have g':v.tmod 2=1:=by rw[bg Za];exact t
   clear z
   go_wp2
   go_ret2
   exact oL.mk E l.out p.out (ej.refl _)
  | true =>
   rw[z]at t;simp only[if_true]at t;have g':v.tmod 2=0:=by rw[bg Za];exact t
   rcases T9 I.mL p.out T hp (by have:=C.out;omega) with⟨P,g2,R⟩|⟨g,P,g2,R⟩
   .have E:ar (H9 K a c d j=⟨K,0,6⟩):=by unfold H9 ar;rw[nR (by simp[z];omega),nT P]
    rw[R]at c2;clear z
    go_wp2
    go_ret2
    exact oL.mk E l.out p.out (ej.refl _)
   .have o':g<32:=by have:=C.out;omega
    have h':g<r.nF:=by have:=C.out;omega
    have S:k<r.nD:=by have:=C.out;omega
    have hk:K.F g 0=2:=(i.what (.dT a d) ⟨T,hp⟩ g P).1
    obtain⟨u,hu,p',q',r'⟩:∃u,r.P a (4+d)=u/\0<u/\u<100/\(u - 1).tdiv 2=g:=⟨_,Z,by omega,by have:=C.out;omega,by
     rcases R with⟨_,h⟩|⟨_,h⟩
     .rw[h];exact I7 g false
     .rw[h];exact I7 g true⟩
    have s':¬u=0:=by omega
    rw[hu]at c2;clear R hu;rw[l.out.aq 0 Za Za]at k2;rw[l.out.aq 1 Za Za]at k3;rw[l.out.aq 2 Za Za]at k4;have D1:=I.mL.head k x;have D2:=I.mL.cnt k x;have D0:=I.mL.pL k x;obtain⟨h,G⟩:∃h:Nat,K.D k 0=h:=⟨(K.D k 0).toNat,by omega⟩;obtain⟨q,a'⟩:∃q:Nat,K.D k 1=q:=⟨(K.D k 1).toNat,by omega⟩;obtain⟨m,hc⟩:∃m:Nat,K.D k 2=m:=⟨(K.D k 2).toNat,by omega⟩;have c5:=l.out.rg k 0 S Za;have c6:=l.out.rg k 1 S Za;have c7:=l.out.rg k 2 S Za;rw[p.out.q k 0 x Za,G]at c5;rw[p.out.q k 1 x Za,a']at c6;rw[p.out.q k 2 x Za,hc]at c7;have e':h<r.nF:=by have:=C.out;omega
    have t':q<4:=by omega
    have u':m<=4:=by omega
    have m1:(0:Int)<=(k:Int):=by omega
    have m2:(k:Int)<(r.nD:Int):=by omega
    have o1:(0:Int)<=(g:Int):=by omega
    have o2:(g:Int)<(r.nF:Int):=by omega
    have o3:(0:Int)<=(h:Int):=by omega
    have o4:(h:Int)<(r.nF:Int):=by omega
    have HI:ar (K.D k 3=K.ends k false):=I.tD k x;have c':ar (K.file a c=k/\K.end a c=true/\K.dT a d=g/\K.D k 0=h/\K.D k 1=q/\K.D k 2=m):=⟨W,z,P,G,a',hc⟩;have CL:K.ends k false<=24:=I.bounds false;clear z t D0 D1 D2 G a' hc
    go_wp2_with fail
    refine(EN l.out p.out I.mL (d:=k) Za false).mono ?_;rintro e A ⟨rfl,rfl⟩;have F:∀o,(if K.D k 3=0 then(⟨K,0,13⟩:Out) else if K.D k 2=4 then⟨K,0,11⟩ else⟨(K.nU h (2+((q+m)%4)) (K.F g (2+j))).nX k 2 (m+1),0,0⟩)=o->H9 K a c d j=o:=λo ho=>by
     let⟨f1,f2,f3,f4,f5,f6⟩:=c'.out;unfold H9;rw[nR (by rw[f1,f2];simp),nR Za,f1,au,f3,au,f4,au,f5,f6,←ho,f6];have:(((q:Int)+(m:Int))%4).toNat=(q+m)%4:=by omega
     rw[this]
    by_cases H:K.ends k false=0
    .have E:ar (H9 K a c d j=⟨K,0,13⟩):=F _ (by rw[nT (by rw[HI.out,H];rfl)]);rw[H];clear F H
     go_wp2
     go_ret2
     exact oL.mk E l.out p.out (ej.refl _)
    .have ez:(((K.ends k false:Nat):Int)==0)=false:=by simp;omega
     by_cases D:m=4
     .have E:ar (H9 K a c d j=⟨K,0,11⟩):=F _ (by rw[nR (by rw[HI.out];omega),nT (by rw[c'.out.2.2.2.2.2,D];rfl)]);subst D;clear F H;generalize K.ends k false=en at *
      go_wp2
      go_ret2
      exact oL.mk E l.out p.out (ej.refl _)
     .have E:ar (H9 K a c d j=⟨(K.nU h (2+((q+m)%4)) (K.F g (2+j))).nX k 2 (m+1),0,0⟩):=F _ (by rw[nR (by rw[HI.out];omega),nR (by rw[c'.out.2.2.2.2.2];omega)]);have e4:((m:Int)==4)=false:=by simp;omega
      obtain⟨y,hy⟩:∃y,r.W g j=y:=⟨_,Z⟩;have HY:ar (K.F g (2+j)=y):=by unfold ar;rw[←hy,p.out.w g j g2 hj (bT hk)]
      have cg:=l.out.wd g j h' hj;rw[hy]at cg;obtain⟨s,f'⟩:∃s,s=(q+m)%4:=⟨_,Z⟩;have i':ar (s=(q+m)%4):=f';have r4:s<4:=by omega
      have a1:IntKind.i64.wrap ((q:Int)+(m:Int))=(q:Int)+(m:Int):=ib _ Za;have a2:((q:Int)+(m:Int)).tmod 4=(s:Int):=by rw[bg Za];omega
      have a3:((q:Int)+(m:Int))%4=(s:Int):=by omega
      have b5:(0:Int)<=(s:Int):=by omega
      have b6:(s:Int)<4:=by omega
      have cs:=l.out.wd h s e' r4;have zw:=l.out.zw;have zq:=λo=>l.out.zq 2 o Za (show 0<r.nD by omega);have n1:=l.out.bw;have n2:=l.out.wq 1 Za;have n3:=l.out.wq 2 Za;have n4:=l.out.bq 2 Za;have n5:=aA n1;have n6:=aA n2;have n7:=aA n3;have n8:=aA n4;clear F H f' hy;generalize K.ends k false=en at *
      go_wp2_with fail
      go_region_held3 (λw'=>w'.cell? (O B.b 0 Q)=J (Sc (J (O B.bw 0 Q)) r.nF B.cw)/\w'.cell? (O B.b 3 Q)=J (Sc (J (O (B.bq 1) 0 Q)) r.nD (B.cq 1))/\w'.cell? (O B.b 4 Q)=J (Sc (J (O (B.bq 2) 0 Q)) r.nD (B.cq 2))/\w'.cell? (O (B.bq 1) k Q)=J (Y U q)/\w'.cell? (O (B.bq 2) k Q)=J (Y U m)/\w'.cell? (O B.bw (g*4+j) Q)=J (Y U y)) ((repeat' apply dg)<;>(first|(go_keep;done)|(refine zg ?_;go_keep)|(refine keep_same_drew ?_;go_keep))) (fail)
      go_wp2
      go_ret2
      refine oL.mk E ((l.out.drew.oG (i:=h) (c:=s) (o:=h*4+s) e' r4 Z y).pa (d:=k) (q:=2) S Za ((m:Int)+1)) ?_ (((ej.refl _).drew.oG _ _).pa (q:=2) Za _ _);rw[←i'.out,HY.out];exact(p.out.rJ h s y r4).pa k 2 _ Za
theorem b8M(M:ml w B r)(f:Rel K r)(i:Own K)(I:Inv K){j:Nat}(hs:a<K.nS)(hx:c<4)(hp:d<4)(hj:j<4) :
  aG J' 44 #[Po (J (O B.b 0 Q)),Y U a,Y U 17,Y U c,Y U d,Y U j] w (oL B w (Q5 K a c d j)):=by
 have l:ar (ml w B r):=M;have m:ar (Rel K r):=f;have k0:=M.k0;have k1:=M.k1;have hD:K.nD<=4:=by have:=M.hD;have:=f.d;omega
 have hF:r.nF<=32:=M.hF;have F:ar (r.nF=K.nF/\r.nD=K.nD):=⟨f.f,f.d⟩;have d':a<r.nS:=by have:=f.s;omega
 have k2:w.cell? (O B.b 2 Q)=J (.slice (B.aq 0) r.nD (B.cq 0)):=M.k2 0 Za;have k3:w.cell? (O B.b 3 Q)=J (.slice (B.aq 1) r.nD (B.cq 1)):=M.k2 1 Za;have k4:w.cell? (O B.b 4 Q)=J (.slice (B.aq 2) r.nD (B.cq 2)):=M.k2 2 Za;have l1:(0:Int)<=(a:Int):=by omega
 have l2:(a:Int)<(r.nS:Int):=by omega
 have x1:(0:Int)<=(c:Int):=by omega
 have x2:(c:Int)<4:=by omega
 have p1:(0:Int)<=(d:Int):=by omega
 have p2:(d:Int)<4:=by omega
 have j1:(0:Int)<=(j:Int):=by omega
 have j2:(j:Int)<4:=by omega
 have c1:w.cell? (O B.bp (a*12+8+c) Q)=J (Y U (r.P a (8+c))):=by rw[aS];exact M.pr a (8+c) d' Za
 have c2:w.cell? (O B.bp (a*12+4+d) Q)=J (Y U (r.P a (4+d))):=by rw[aS];exact M.pr a (4+d) d' Za
 clear M f
 go_enter Tryz.func44,Tryz.ntmps44
 rcases N6 I.mL m.out hs hx hD with⟨H,p⟩|⟨k,H,p,h3,h4,h5,h6⟩
 .have E:ar (Q5 K a c d j=⟨K,0,8⟩):=by unfold Q5 ar;rw[nT (bT H)]
  rw[p]at c1
  go_wp2
  go_ret2
  exact oL.mk E l.out m.out (ej.refl _)
 .rw[H8]at h4;have s:=EI k (K.end a c);have hq:=I7 k (K.end a c);rw[←h4]at s hq;obtain⟨v,hv⟩:∃v,r.P a (8+c)=v:=⟨_,Z⟩;rw[hv]at c1 h5 h6 s hq;have ne:¬v=0:=by omega
  clear h4 hv;rw[bg Za]at s
  cases t:K.end a c with
  | true =>
   have E:ar (Q5 K a c d j=⟨K,0,8⟩):=by unfold Q5 ar;rw[nT (ba t)]
   rw[t]at s;simp only[if_true]at s;have g':v.tmod 2=0:=by rw[bg Za];exact s
   clear t
   go_wp2
   go_ret2
   exact oL.mk E l.out m.out (ej.refl _)
  | false =>
   rw[t]at s;simp only[aJ,if_false]at s;have g':v.tmod 2=1:=by rw[bg Za];exact s
   rcases T9 I.mL m.out hs hp (by have:=F.out;omega) with⟨g1,g2,x⟩|⟨g,g1,g2,x⟩
   .have E:ar (Q5 K a c d j=⟨K,0,6⟩):=by unfold Q5 ar;rw[nR (by rw[H,t];simp),nT g2]
    rw[x]at c2;clear t
    go_wp2
    go_ret2
    exact oL.mk E l.out m.out (ej.refl _)
   .have x':g<32:=by have:=F.out;omega
    have e':g<r.nF:=by have:=F.out;omega
    have R:k<r.nD:=by have:=F.out;omega
    have hk:K.F g 0=2:=(i.what (.dT a d) ⟨hs,hp⟩ g g1).1;rcases x with⟨T,x⟩|⟨T,x⟩
    .have E:ar (Q5 K a c d j=⟨K,0,6⟩):=by unfold Q5 ar;rw[nR (by rw[H,t];simp),nT T]
     have C:=EI g false;have S:=I7 g false;simp only[aJ,if_false]at C S;obtain⟨u,D,h',i'⟩:∃u,2*(g:Int)+1=u/\0<u/\u<100:=⟨_,Z,by omega,by omega⟩;rw[x,D]at c2;rw[D]at C S;have j':u%2=1:=by rw[←bg Za];exact C
     have k':¬u=0:=by omega
     clear t D x
     go_wp2
     go_ret2
     exact oL.mk E l.out m.out (ej.refl _)
    .have C:=EI g true;have S:=I7 g true;simp only[if_true]at C S;obtain⟨u,D,h',i'⟩:∃u,2*(g:Int)+2=u/\0<u/\u<100:=⟨_,Z,by omega,by omega⟩;rw[x,D]at c2;rw[D]at C S;have j':u%2=0:=by rw[←bg Za];exact C
     have k':¬u=0:=by omega
     rw[l.out.aq 0 Za Za]at k2;rw[l.out.aq 1 Za Za]at k3;rw[l.out.aq 2 Za Za]at k4;have D1:=I.mL.head k p;have D2:=I.mL.cnt k p;have D0:=I.mL.pL k p;obtain⟨h,W⟩:∃h:Nat,K.D k 0=h:=⟨(K.D k 0).toNat,by omega⟩;obtain⟨q,c'⟩:∃q:Nat,K.D k 1=q:=⟨(K.D k 1).toNat,by omega⟩;obtain⟨z,G⟩:∃z:Nat,K.D k 2=z:=⟨(K.D k 2).toNat,by omega⟩;have c5:=l.out.rg k 0 R Za;have c6:=l.out.rg k 1 R Za;have c7:=l.out.rg k 2 R Za;rw[m.out.q k 0 p Za,W]at c5;rw[m.out.q k 1 p Za,c']at c6;rw[m.out.q k 2 p Za,G]at c7;have l':h<r.nF:=by have:=F.out;omega
     have m':h<K.nF:=by have:=F.out;omega
     have f':q<4:=by omega
     have z':z<=4:=by omega
     have m1:(0:Int)<=(k:Int):=by omega
     have m2:(k:Int)<(r.nD:Int):=by omega
     have o1:(0:Int)<=(g:Int):=by omega
     have o2:(g:Int)<(r.nF:Int):=by omega
     have o3:(0:Int)<=(h:Int):=by omega
     have o4:(h:Int)<(r.nF:Int):=by omega
     have o5:(0:Int)<=(q:Int):=by omega
     have o6:(q:Int)<4:=by omega
     have HI:ar (K.D k 4=K.ends k true):=I.tx k p;have n':K.F h 0=3:=(i.what (.ring k) p h W).1;have CL:K.ends k true<=24:=I.bounds true;have P:ar (∀o,(if K.D k 2=0/\K.D k 4=0 then(⟨K,0,12⟩:Out) else if K.D k 2=0 then⟨K,0,11⟩ else⟨((K.nU g (2+j) (K.F h (2+q))).nX k 1 (((q:Int)+1)%4)).nX k 2 ((z:Int) - 1),0,0⟩)=o->Q5 K a c d j=o):=λo ho=>by
      unfold Q5;rw[nR (by rw[H,t];simp),nR (by simp[T]),H,au,g1,au,W,au,c',au,←ho,G]
     have Hc:ar (K.D k 2=z):=G;clear t s D0 D1 D2 W c' G D x T
     by_cases o':z=0
     .subst o';have K':w.cell? (O (B.bq 2) k Q)=J (Y U 0):=c7;clear c7
      go_wp2_with fail
      refine(EN l.out m.out I.mL (d:=k) Za true).mono ?_;rintro e A ⟨rfl,rfl⟩
      by_cases hz:K.ends k true=0
      .have E:ar (Q5 K a c d j=⟨K,0,12⟩):=P.out _ (by rw[nT ⟨by rw[Hc.out];rfl,by rw[HI.out,hz];rfl⟩]);rw[hz];clear P hz
       go_wp2
       go_ret2
       exact oL.mk E l.out m.out (ej.refl _)
      .have E:ar (Q5 K a c d j=⟨K,0,11⟩):=P.out _ (by rw[nR (by rw[HI.out];omega),nT (by rw[Hc.out];rfl)]);have ez:(((K.ends k true:Nat):Int)==0)=false:=by simp;omega
       clear P hz;generalize K.ends k true=en at *
       go_wp2
       go_ret2
       exact oL.mk E l.out m.out (ej.refl _)
     .have E:ar (Q5 K a c d j=⟨((K.nU g (2+j) (K.F h (2+q))).nX k 1 (((q:Int)+1)%4)).nX k 2 ((z:Int) - 1),0,0⟩):=P.out _ (by rw[nR (by rw[Hc.out];omega),nR (by rw[Hc.out];omega)]);have e4:((z:Int)==0)=false:=by simp;omega
      obtain⟨y,hy⟩:∃y,r.W h q=y:=⟨_,Z⟩;have HY:ar (K.F h (2+q)=y):=by unfold ar;rw[←hy,m.out.w h q m' f' (ba n')]
      have ch:=l.out.wd h q l' f';rw[hy]at ch;have P':=l.out.wd g j e' hj;have zw:=l.out.zw;have R':=λo=>l.out.zq 1 o Za (show 0<r.nD by omega);have S':=λo=>l.out.zq 2 o Za (show 0<r.nD by omega);have a1:IntKind.i64.wrap ((q:Int)+1)=(q:Int)+1:=ib _ Za;have a2:((q:Int)+1).tmod 4=((q:Int)+1)%4:=bg Za;have n1:=l.out.bw;have n2:=l.out.wq 1 Za;have n3:=l.out.wq 2 Za;have n4:=l.out.bq 2 Za;have n9:=l.out.bq 1 Za;have p':=l.out.qq 1 2 Za Za Za;have n5:=aA n1;have n6:=aA n2;have n7:=aA n3;have n8:=aA n4;have Z':=aA n9;have n12:=aA p';clear P hy
      go_wp2_with fail
      go_region_held3 (λw'=>w'.cell? (O B.b 0 Q)=J (Sc (J (O B.bw 0 Q)) r.nF B.cw)/\w'.cell? (O B.b 3 Q)=J (Sc (J (O (B.bq 1) 0 Q)) r.nD (B.cq 1))/\w'.cell? (O (B.bq 1) k Q)=J (Y U q)/\w'.cell? (O B.bw (h*4+q) Q)=J (Y U y)) ((repeat' apply dg)<;>(first|(go_keep;done)|(refine zg ?_;go_keep)|(refine keep_same_drew ?_;go_keep))) (fail)
      go_wp2_with fail
      go_region
      all_goals go_wp2
      all_goals
       go_ret2
       refine oL.mk E ((((l.out.oG (i:=g) (c:=j) (o:=g*4+j) e' hj Z y).pa (d:=k) (q:=1) R Za (((q:Int)+1)%4)).pa (d:=k) (q:=2) R Za ((z:Int) - 1)).drew.drew) ?_ (((((ej.refl _).oG _ _).pa (q:=1) Za _ _).pa (q:=2) Za _ _).drew.drew);rw[HY.out];exact((m.out.rJ g j y hj).pa k 1 _ Za).pa k 2 _ Za
theorem c5A{K:aa}{r:Rk}(e:Rel K r)(s:a<K.nS):Rel ((K.an c 0 (-1)).oq a) (r.row a (J8 0 (-1) (-1) 0)):=by
 have g:Rel (K.an c 0 (-1)) r:=e.rX c 0 (-1) Za;generalize K.an c 0 (-1)=k at *;refine⟨g.f,g.s,g.d,λi d o p=>?_,g.w,g.q⟩;show(if i=a then J8 0 (-1) (-1) 0 d else r.P i d)=_;have f:∀i j,(k.oq a).S i j=if i=a then(if j=0\/j=19 then 0 else -1) else k.S i j:=λ_ _=>rfl
 have l:∀i j,(k.oq a).B i j=if i=a then false else k.B i j:=λ_ _=>rfl
 by_cases h:i=a
 .subst h;rw[nT Z];unfold qZ aa.dT aa.wr aa.file aa.end;rw[f,f,f,f,l,l,nT Z,nT Z,nT Z,nT Z,nT Z,nT Z];obtain rfl|rfl|rfl|rfl|⟨t,m⟩|m:d=0\/d=1\/d=2\/d=3\/(4<=d/\d<8)\/8<=d:=by omega
  .simp[J8]
  .simp[J8]
  .simp[J8]
  .simp[J8]
  .rw[nR Za,nR Za,nT m,nR Za,G6];unfold J8;rw[nR Za,nR Za,nR Za,nR Za]
  .rw[nR Za,nR Za,nR Za,nR Za,G6];unfold J8;rw[nR Za,nR Za,nR Za,nR Za]
 .rw[nR h];have q:i<k.nS:=o;rw[g.p i d q p];unfold qZ aa.dT aa.wr aa.file aa.end;rw[f,f,f,f,l,l,nR h,nR h,nR h,nR h,nR h,nR h]
theorem Yz{P:Pg}{t:Ti}{d:Nat}{xs ys:Array Vu}{n:Nat}(g:P.underlying t=J (.array n l))(k:∀w,(sizeOf l).run P w=.ok a w)(q:Nat->Bool)(h:∀i,i<n->∃c b,Pt P l xs (i*a) c/\Pt P l ys (i*a) b/\∀w,(dq d l c b).run P w=.ok (q i) w)(w:Wd):(dq (d+1) t (.agg xs) (.agg ys)).run P w=.ok ((ie 0 n 1).all q) w:=by
 rw[dq];simp only[bJ,eT g,aQ,k,iX,kO,iQ,Nat.add_sub_cancel,Nat.div_one];have e:∀i∈ie 0 n 1,i<n:=λi m=>by simpa using(List.mem_range'_1.1 m).2
 generalize ie 0 n 1=f at e ⊢
 induction f with
 | nil=>simp
 | cons i f o =>
  let⟨c,b,p,s,u⟩:=h i (e i Zc);simp only[List.forIn_cons,bJ,p w,s w,u w,aQ,List.all_cons];cases q i
  .simp
  .simp only[Bool.not_true,aJ,if_false,eH,aQ,Bool.true_and];exact o λj v=>e j (by simp[v])
theorem Ou(a b c d:Int)(w:Wd):(dq 10000 69 (.agg #[Y U a,Y U b,Y U c,Y U d]) (.agg #[Y U 0,Y U 0,Y U 0,Y U 0])).run J' w=.ok (a==0&&(b==0&&(c==0&&d==0))) w:=by
 have h:=Yz (P:=J') (t:=69) (d:=9999) (xs:=#[Y U a,Y U b,Y U c,Y U d]) (ys:=#[Y U 0,Y U 0,Y U 0,Y U 0]) Tryz.underlying69 Tryz.sizeOf3 (λi=>if i=0 then a==0 else if i=1 then b==0 else if i=2 then c==0 else d==0) (λi f=>by
  cases i,(Za:i<4) using ep
  .exact⟨_,_,sQ eG Z,sQ eG Z,λw=>iI w _ _ .i64 .i64 _ _ gR⟩
  .exact⟨_,_,sQ eG Z,sQ eG Z,λw=>iI w _ _ .i64 .i64 _ _ gR⟩
  .exact⟨_,_,sQ eG Z,sQ eG Z,λw=>iI w _ _ .i64 .i64 _ _ gR⟩
  .exact⟨_,_,sQ eG Z,sQ eG Z,λw=>iI w _ _ .i64 .i64 _ _ gR⟩) w
 refine h.trans ?_;have e:(ie 0 4 1).all (λi=>if i=0 then a==0 else if i=1 then b==0 else if i=2 then c==0 else d==0)=(a==0&&(b==0&&(c==0&&d==0))):=by
  show((a==0)&&((b==0)&&((c==0)&&((d==0)&&true))))=_;rw[Bool.and_true]
 rw[e]
theorem QF(M:ml w B r)(d:Rel K r)(I:Inv K)(y:Int)(m:c<K.nS)(s:K.still a c=true) :
  aG J' 42 #[Po (J (O B.b 0 Q)),Y U 12,Y U c,Y U y] w (oL B w (K6 K a c)):=by
 have o:ar (ml w B r):=M;have t:ar (Rel K r):=d;have k1:=M.k1;have g:c<r.nS:=by have:=d.s;omega
 have i1:(0:Int)<=(c:Int):=by omega
 have i2:(c:Int)<(r.nS:Int):=by omega
 have W:w.cell? (O B.bp (c*12+4) Q)=J (Y U (r.P c 4)):=M.pr c 4 g Za;have G:w.cell? (O B.bp (c*12+4+1) Q)=J (Y U (r.P c 5)):=M.pr c 5 g Za;have g6:w.cell? (O B.bp (c*12+4+2) Q)=J (Y U (r.P c 6)):=M.pr c 6 g Za;have g7:w.cell? (O B.bp (c*12+4+3) Q)=J (Y U (r.P c 7)):=M.pr c 7 g Za;have g8:w.cell? (O B.bp (c*12+8) Q)=J (Y U (r.P c 8)):=M.pr c 8 g Za;have g9:w.cell? (O B.bp (c*12+8+1) Q)=J (Y U (r.P c 9)):=M.pr c 9 g Za;have a':w.cell? (O B.bp (c*12+8+2) Q)=J (Y U (r.P c 10)):=M.pr c 10 g Za;have b':w.cell? (O B.bp (c*12+8+3) Q)=J (Y U (r.P c 11)):=M.pr c 11 g Za;have g3:=M.pr c 3 g Za;rw[d.code m]at g3;have hD:K.nD<=4:=by have:=M.hD;have:=d.d;omega
 have hF:K.nF<=32:=by have:=M.hF;have:=d.f;omega
 have j:∀p,p<4->(r.P c (4+p)=0↔K.dT c p=-1):=λp i=>by
  rcases T9 I.mL d m i hF with⟨k,_,H⟩|⟨n,k,_,H⟩
  .exact⟨λ_=>k,λ_=>H⟩
  .constructor
   .intro h;omega
   .intro h;omega
 have l:∀x,x<4->(r.P c (8+x)=0↔K.file c x=-1):=λx hx=>by
  rcases N6 I.mL d m hx hD with⟨k,h2⟩|⟨n,k,_,_,_,h5,_⟩
  .exact⟨λ_=>k,λ_=>h2⟩
  .constructor
   .intro h;omega
   .intro h;omega
 have P:ar ((r.P c 4=0/\r.P c 5=0/\r.P c 6=0/\r.P c 7=0)↔(K.dT c 0=-1/\K.dT c 1=-1/\K.dT c 2=-1/\K.dT c 3=-1)):=by
  have u:=j 0 Za;have v:=j 1 Za;have z:=j 2 Za;have C:=j 3 Za;unfold ar;exact and_congr u (and_congr v (and_congr z C))
 have R:ar ((r.P c 8=0/\r.P c 9=0/\r.P c 10=0/\r.P c 11=0)↔(K.file c 0=-1/\K.file c 1=-1/\K.file c 2=-1/\K.file c 3=-1)):=by
  have u:=l 0 Za;have v:=l 1 Za;have z:=l 2 Za;have C:=l 3 Za;unfold ar;exact and_congr u (and_congr v (and_congr z C))
 clear M d j l;have D:=Ou (r.P c 4) (r.P c 5) (r.P c 6) (r.P c 7);have q:=Ou (r.P c 8) (r.P c 9) (r.P c 10) (r.P c 11)
 go_enter mr,lz
 by_cases e:r.P c 4=0/\r.P c 5=0/\r.P c 6=0/\r.P c 7=0
 .have i:=P.out.1 e;rw[e.1,e.2.1,e.2.2.1,e.2.2.2]at D;rw[e.1]at W;rw[e.2.1]at G;rw[e.2.2.1]at g6;rw[e.2.2.2]at g7;simp only[beq_self_eq_true,Bool.and_self]at D
  by_cases f:r.P c 8=0/\r.P c 9=0/\r.P c 10=0/\r.P c 11=0
  .have F:=R.out.1 f;rw[f.1,f.2.1,f.2.2.1,f.2.2.2]at q;rw[f.1]at g8;rw[f.2.1]at g9;rw[f.2.2.1]at a';rw[f.2.2.2]at b';have E:ar (K6 K a c=⟨(K.an (K.S c 2).toNat 0 (-1)).oq c,K.S c 19,0⟩):=by
    unfold K6 ar;rw[nR (by simp[s]),nR Za,nR Za]
   have TH:ar (w.there B.bp (c*12) 12):=o.out.ud g;clear e f i F q
   go_wp2_with (refine eh Z 107 _ _ Z _ (c*12) (I3 0 (-1) (-1) 0).toArray Z Z TH.out Zd Zd ?_)
   go_ret2
   exact oL.mk E (o.out.row g (I3 0 (-1) (-1) 0) (J8 0 (-1) (-1) 0) Z (OH 0 (-1) (-1) 0)) (c5A t.out m) ((ej.refl _).row _ _)
  .have F:¬(K.file c 0=-1/\K.file c 1=-1/\K.file c 2=-1/\K.file c 3=-1):=λh=>f (R.out.2 h);have E:ar (K6 K a c=⟨K,0,8⟩):=by
    unfold K6 ar;rw[nR (by simp[s]),nR Za,nT Za]
   have S:(r.P c 8==0&&(r.P c 9==0&&(r.P c 10==0&&r.P c 11==0)))=false:=by
    rw[gJ];intro h;simp at h;exact f h
   simp only[S]at q;clear e f i F S;generalize r.P c 8=v8 at *;generalize r.P c 9=v9 at *;generalize r.P c 10=c' at *;generalize r.P c 11=d' at *
   go_wp2
   go_ret2
   exact oL.mk E o.out t.out (ej.refl _)
 .have i:¬(K.dT c 0=-1/\K.dT c 1=-1/\K.dT c 2=-1/\K.dT c 3=-1):=λh=>e (P.out.2 h);have E:ar (K6 K a c=⟨K,0,6⟩):=by
   unfold K6 ar;rw[nR (by simp[s]),nT Za]
  have T:(r.P c 4==0&&(r.P c 5==0&&(r.P c 6==0&&r.P c 7==0)))=false:=by
   rw[gJ];intro h;simp at h;exact e h
  simp only[T]at D;clear e i T q;generalize r.P c 4=v4 at *;generalize r.P c 5=v5 at *;generalize r.P c 6=v6 at *;generalize r.P c 7=v7 at *
  go_wp2
  go_ret2
  exact oL.mk E o.out t.out (ej.refl _)
theorem b1a(n i:Nat)(a:n<20)(c:i<3):∃h:i<(Aa n).size,((((Aa n)[i]'h).toNat:Nat):Int)=sB ((i7 n).getD i 0):=by
 cases i,(Za:i<3) using ia
 all_goals
  cases n,(Za:n<20) using oQ
  all_goals exact⟨by decide,Z⟩
theorem b3h{P:Pg}{t:Ti}(d:P.underlying t=J .string){c:ByteArray}(h:∃h:a<c.size,(((c[a]'h).toNat:Nat):Int)=g)(w:Wd):(gp t (.string c) (Y U (a:Int))).run P w=.ok (.int .u8 g) w:=by
 obtain⟨i,f⟩:=h;rw[run_index_string w t c .i64 _ d,dif_pos ⟨by omega,by omega⟩,←f];have e:((a:Int)).toNat=a:=by omega
 simp only[e]
theorem c4w(n i:Nat)(a:n<20)(c:i<3):(i7 n).getD i 0=0\/(i7 n).getD i 0=1\/(i7 n).getD i 0=2\/(i7 n).getD i 0=3\/(i7 n).getD i 0=4\/(i7 n).getD i 0=5\/(i7 n).getD i 0=6:=by
 cases i,(Za:i<3) using ia
 all_goals
  cases n,(Za:n<20) using oQ
  all_goals decide
theorem UP{K:aa}(a:g≠0):A7 K g h=oZ h (j4 K g):=by unfold A7 oZ;simp[a]
theorem ml.drewN{w:Wd}{B:RB}{r:Rk}(M:ml w B r)(n:Nat):ml (w.drewN n) B r:=M.same Zc λk _ _=>by simp
theorem Db{n:Int}:oZ n g=true↔0<=n/\n<g:=by unfold oZ;simp
theorem LL(M:ml w B r)(l:Rel K r)(g:Own K)(I:Inv K)(N:iP K)(E':oe K)(G T a b c:Int)(hl:-9223372036854775808<=T/\T<9223372036854775808) :
  aG J' 17 #[Po (J (O B.b 0 Q)),Y U G,Y U T,.agg #[Y U a,Y U b,Y U c]] w (oL B w (d8 K G T a b c)):=by
 have HM:ar (ml w B r):=M;have u:ar (Rel K r):=l;have k1:=λo=>(HM.out.alloc o).k1;have F:ar (r.nS=K.nS):=l.s;clear M l
 by_cases hc:1<=T/\T<=19
 .obtain⟨n,rfl⟩:∃n:Nat,T=n:=⟨T.toNat,by omega⟩;have hn:n<20:=by omega
  have C':n≠0:=by omega
  have j':oZ ((n:Int) - 1) 19=true:=Db.2 ⟨by omega,by omega⟩;clear hl
  by_cases hs:0<=G/\G<K.nS
  .obtain⟨s,rfl⟩:∃s:Nat,G=s:=⟨G.toNat,by omega⟩;have F':s<r.nS:=by have:=F.out;omega
   have m':oZ (s:Int) (r.nS:Int)=true:=Db.2 ⟨by omega,by omega⟩;have l1:(0:Int)<=(s:Int):=by omega
   have l2:(s:Int)<(r.nS:Int):=by omega
   have c0:∀o,(w.alloc o).cell? (O B.bp (s*12) Q)=J (Y U (K.S s 0)):=λo=>by
    have:=(HM.out.alloc o).pr s 0 F' Za;rw[u.out.kind Za]at this;exact this
   by_cases hk:K.S s 0=2
   .rw[hk]at c0
    go_enter gE,gV
    go_wp2_with fail
    refine(Y7).mono ?_;rintro e A ⟨rfl,rfl⟩;rw[j']
    go_wp2_with fail
    refine(Y7).mono ?_;rintro e A ⟨rfl,rfl⟩;rw[m']
    go_wp2_with fail
    refine(RH n hn C').mono ?_;rintro e A ⟨rfl,rfl⟩;have TL:ar (∀i,i<3->∃h:i<(Aa n).size,((((Aa n)[i]'h).toNat:Nat):Int)=sB ((i7 n).getD i 0)):=λi R=>b1a n i hn R;generalize Aa n=ts at *
    go_wp2
    obtain⟨W0,eW⟩:∃W0,W0=w.alloc (.cells #[Y U a,Y U b,Y U c] 25):=⟨_,Z⟩;have y0:W0.cell? (O w.heap.size 0 Q)=J (Y U a):=by rw[eW];simp
    have y1:W0.cell? (O w.heap.size 1 Q)=J (Y U b):=by rw[eW];simp
    have y2:W0.cell? (O w.heap.size 2 Q)=J (Y U c):=by rw[eW];simp
    have x':ar (ml W0 B r):=by rw[eW];exact HM.out.alloc _
    have y':ar (ej B w W0):=by rw[eW];exact(ej.refl w).alloc _
    rw[←eW];obtain⟨C,r'⟩:∃C:Nat->Int,C=λi=>if i=0 then a else if i=1 then b else c:=⟨_,Z⟩
    have HA:ar (∀i,i<3->W0.cell? (O w.heap.size i Q)=J (Y U (C i))):=λi R=>by
     rw[r'];cases i,(Za:i<3) using ia
     .exact y0
     .exact y1
     .exact y2
    have k':ar (C 0=a/\C 1=b/\C 2=c):=by unfold ar;rw[r'];exact⟨Z,Z,Z⟩
    clear eW r' y0 y1 y2 c0 k1
    go_loopw [11] (λi w'=>∃k:Nat,k<=3/\i=Y U k/\ml w' B r/\ej B w w'/\(∀i,i<3->w'.cell? (O w.heap.size i Q)=J (Y U (C i)))/\∀i,i<k->A7 K ((i7 n).getD i 0) (C i)=true) λi _=>3 - (bM i).toNat
    case atStart=>exact⟨0,by omega,Z,x'.out,y'.out,HA.out,λi R=>by omega⟩
    case round =>
     clear x' y' HA HM;obtain⟨k,hk3,rfl,m1,p1,a1,f1⟩:=hrel;have v:ar (ml wr B r):=m1;have W:ar (ej B w wr):=p1;have f':ar (∀i,i<3->wr.cell? (O w.heap.size i Q)=J (Y U (C i))):=a1;have i':ar (∀i,i<k->A7 K ((i7 n).getD i 0) (C i)=true):=f1;clear m1 p1 a1 f1
     by_cases s':k<3
     .have c1:=f'.out k s';have ix:=b3h (P:=J') (t:=9) Tryz.underlying9 (TL.out k s');have i1:(0:Int)<=(k:Int):=by omega
      have i2:(k:Int)<3:=by omega
      have t':=c4w n k hn s';have u':ar (∀i,i<k+1->A7 K ((i7 n).getD k 0) (C k)=true->A7 K ((i7 n).getD i 0) (C i)=true):=λi R S=>by
       by_cases e:i=k
       .rw[e];exact S
       .exact i'.out i Za
      have n':ar (A7 K ((i7 n).getD k 0) (C k)=false->d8 K s n a b c=⟨K,0,4⟩):=λS=>by
       unfold d8;rw[nR Za,nR (by rw[au];omega),nT];rw[au];let⟨e0,e1,e2⟩:=k'.out;cases k,(Za:k<3) using ia
       .rw[e0]at S;exact bT S
       .rw[e1]at S;exact ba (bT S)
       .rw[e2]at S;exact ba (ba S)
      generalize (i7 n).getD k 0=y at *
      by_cases o':y=0
      .subst o';rw[show sB 0=45 from Z]at ix;clear t' n'
       go_wp2_with fail
       go_quiet (fail)
       go_wp2
       exact⟨⟨k+1,by omega,by go_num,v.out.drewN _,W.out.trans ⟨Z,Z,Z,by simp,λk _ _ _ _=>by simp⟩,λi R=>f'.out i R,λi R=>u'.out i R (by simp[A7])⟩,by simp[bM];omega⟩
      .have p':A7 K y (C k)=oZ (C k) (j4 K y):=UP o'
       by_cases g':A7 K y (C k)=true
       .have K':ar (A7 K y (C k)=true):=g';rw[p']at g';have MR:ar (∀m,aG J' 38 #[Po (J (O B.b 0 Q)),.int .u8 (sB y)] (wr.drewN m) λe w'=>e=.returned (Y U (j4 K y))/\w'=wr.drewN m):=λm=>OS (v.out.drewN m) u.out y Za;have nl:(sB y != 45)=true:=by
         obtain rfl|rfl|rfl|rfl|rfl|rfl:y=1\/y=2\/y=3\/y=4\/y=5\/y=6:=by omega
         all_goals decide
        have IN:ar (∀w',aG J' 32 #[Y U (C k),Y U (j4 K y)] w' λe v'=>e=.returned (Bo true)/\v'=w'):=λw'=>by
         have:=Y7 (n:=C k) (m:=j4 K y) (w:=w');rw[g']at this;exact this
        clear t' n' p' g' o';generalize sB y=lt at *;generalize j4 K y=hm at *;generalize C k=ak at *
        go_wp2_with fail
        go_quiet (first|(go_at_call 38;exact fq (MR.out _))|(go_at_call 32;exact fq (IN.out _)))
        go_wp2
        exact⟨⟨k+1,by omega,by go_num,v.out.drewN _,W.out.trans ⟨Z,Z,Z,by simp,λk _ _ _ _=>by simp⟩,λi R=>f'.out i R,λi R=>u'.out i R K'.out⟩,by simp[bM];omega⟩
       .have E:ar (d8 K s n a b c=⟨K,0,4⟩):=n'.out (by simpa using g');have z':oZ (C k) (j4 K y)=false:=by rw[←p'];simpa using g'
        have MR:ar (∀m,aG J' 38 #[Po (J (O B.b 0 Q)),.int .u8 (sB y)] (wr.drewN m) λe w'=>e=.returned (Y U (j4 K y))/\w'=wr.drewN m):=λm=>OS (v.out.drewN m) u.out y Za;have nl:(sB y != 45)=true:=by
         obtain rfl|rfl|rfl|rfl|rfl|rfl:y=1\/y=2\/y=3\/y=4\/y=5\/y=6:=by omega
         all_goals decide
        have IN:ar (∀w',aG J' 32 #[Y U (C k),Y U (j4 K y)] w' λe v'=>e=.returned (Bo false)/\v'=w'):=λw'=>by
         have:=Y7 (n:=C k) (m:=j4 K y) (w:=w');rw[z']at this;exact this
        clear t' n' p' g' o' u' i' z';generalize sB y=lt at *;generalize j4 K y=hm at *;generalize C k=ak at *
        go_wp2_with fail
        go_quiet (first|(go_at_call 38;exact fq (MR.out _))|(go_at_call 32;exact fq (IN.out _)))
        go_wp2
        go_ret2
        exact oL.mk E (v.out.drewN _) u.out (W.out.trans ⟨Z,Z,Z,by simp,λk _ _ _ _=>by simp⟩)
     .obtain rfl:k=3:=by omega
      have F0:=i'.out 0 Za;have F1:=i'.out 1 Za;have F2:=i'.out 2 Za;have C0:=f'.out 0 Za;have C1:=f'.out 1 Za;have C2:=f'.out 2 Za;rw[k'.out.1]at F0 C0;rw[k'.out.2.1]at F1 C1;rw[k'.out.2.2]at F2 C2;have D:ar (d8 K s n a b c=tK K s n a b c):=by
       unfold d8 ar;rw[nR Za,nR (by rw[au];omega),nR]
       .rw[au,au]
       .rw[au,F0,F1,F2];simp
      have z:ar (A7 K ((i7 n).getD 0 0) a=true/\A7 K ((i7 n).getD 1 0) b=true/\A7 K ((i7 n).getD 2 0) c=true):=⟨F0,F1,F2⟩;have m1:=yT K;have m2:=zo K;have m3:=Ah K;have m4:=zI K;have m5:=Ai K;have m6:=zA K;clear F0 F1 F2 i' f' k' TL;obtain h1|h1|h1:(n=6\/n=7\/n=8)\/(n=10\/n=11\/n=12)\/n=1\/n=2\/n=3\/n=4\/n=5\/n=9\/n=13\/n=14\/n=15\/n=16\/n=17\/n=18\/n=19:=by omega
      .rcases h1 with rfl|rfl|rfl
       all_goals
        obtain⟨q,rfl,hq⟩:=i5 (t:=2) z.out.1 Zb;have l':q<r.nS:=by have:=F.out;omega
        have q1:(0:Int)<=(q:Int):=by omega
        have q2:(q:Int)<(r.nS:Int):=by omega
        have z0:wr.cell? (O B.bp (q*12) Q)=J (Y U (r.P q 0)):=v.out.pr q 0 l' Za;have z1:=v.out.pr q 1 l' Za;rw[u.out.kind Za]at z0;rw[u.out.parent Za]at z1;have k1:=v.out.k1;cases H:K.oJ s q
        .have E:ar (_=Out.mk K 0 7):=D.out.trans (nT H)
         by_cases a':K.S q 1=s
         .have q':¬K.S q 0=1:=λh=>by unfold aa.oJ at H;simp[a',h]at H
          have U':(K.S q 0 != 1)=true:=by simpa using q'
          rw[a']at z1;clear q' H;generalize K.S q 0=kq at *
          go_wp2
          go_ret2
          exact oL.mk E v.out u.out W.out
         .have W':(K.S q 1 != (s:Int))=true:=by simpa using a'
          clear a' H;generalize K.S q 1=pq at *
          go_wp2
          go_ret2
          exact oL.mk E v.out u.out W.out
        have h':=Em (K:=K) (s:=s) (c:=q) (by simp[H]);rw[h'.2]at z0;rw[h'.1]at z1
       focus
        obtain⟨p,rfl,hp⟩:=i5 (t:=4) z.out.2.1 Zb;obtain⟨f,rfl,S⟩:=i5 (t:=1) z.out.2.2 Zb;have E:ar (_=J0 K s q p f):=D
        go_wp2_with fail
        refine(TY v.out u.out g N I.mL (by have:=F.out;omega) Za Za Za H).mono ?_;generalize J0 K s q p f=P at *
       rotate_left
       focus
        obtain⟨x,rfl,hx⟩:=i5 (t:=5) z.out.2.1 Zb;obtain⟨t,rfl,ht⟩:=i5 (t:=5) z.out.2.2 Zb;have E:ar (_=Q4 K s q x t):=D
        go_wp2_with fail
        refine(Zz v.out u.out I.mL (by have:=F.out;omega) Za Za Za H).mono ?_;generalize Q4 K s q x t=P at *
       rotate_left
       focus
        have E:ar (_=R9 K s q):=D
        go_wp2_with fail
        refine(WW v.out u.out b c (by have:=F.out;omega) Za H).mono ?_;generalize R9 K s q=P at *
       rotate_left
       all_goals
        rintro e w2 ⟨rfl,⟨r2,m2',u2⟩,p2⟩
        go_wp2
        go_ret2
        exact oL.mk E m2' u2 (W.out.trans p2)
      .rcases h1 with rfl|rfl|rfl
       all_goals
        obtain⟨q,rfl,hq⟩:=i5 (t:=2) z.out.1 Zb;have l':q<r.nS:=by have:=F.out;omega
        have q1:(0:Int)<=(q:Int):=by omega
        have q2:(q:Int)<(r.nS:Int):=by omega
        have z0:wr.cell? (O B.bp (q*12) Q)=J (Y U (r.P q 0)):=v.out.pr q 0 l' Za;have z1:=v.out.pr q 1 l' Za;rw[u.out.kind Za]at z0;rw[u.out.parent Za]at z1;have k1:=v.out.k1;cases H:K.still s q
        .have E:ar (_=Out.mk K 0 7):=D.out.trans (nT H)
         by_cases a':K.S q 1=s
         .have q':¬(K.S q 0=1\/K.S q 0=3):=λh=>by unfold aa.still at H;rcases h with h|h<;>simp[a',h]at H
          have U':(K.S q 0 != 1)=true:=by simp;omega
          have ekj:(K.S q 0 != 3)=true:=by simp;omega
          rw[a']at z1;clear q' H;generalize K.S q 0=kq at *
          go_wp2
          go_ret2
          exact oL.mk E v.out u.out W.out
         .have W':(K.S q 1 != (s:Int))=true:=by simpa using a'
          clear a' H;generalize K.S q 1=pq at *
          go_wp2
          go_ret2
          exact oL.mk E v.out u.out W.out
        have h':=K3 (K:=K) (s:=s) (c:=q) (by simp[H]);rw[h'.1]at z1
       focus
        obtain⟨p,rfl,hp⟩:=i5 (t:=4) z.out.2.1 Zb;have E:ar (_=W7 K s q p):=D;rcases h'.2 with e'|e'
        all_goals
         rw[e']at z0
         go_wp2_with fail
         refine(b6x v.out u.out I.mL Za Za H).mono ?_;generalize W7 K s q p=P at *
       rotate_left 2
       focus
        obtain⟨x,rfl,hx⟩:=i5 (t:=5) z.out.2.1 Zb;have E:ar (_=W8 K s q x):=D;rcases h'.2 with e'|e'
        all_goals
         rw[e']at z0
         go_wp2_with fail
         refine(b6z v.out u.out I N E' Za Za H).mono ?_;generalize W8 K s q x=P at *
       rotate_left 2
       focus
        have E:ar (_=K6 K s q):=D;rcases h'.2 with e'|e'
        all_goals
         rw[e']at z0
         go_wp2_with fail
         refine(QF v.out u.out I b Za H).mono ?_;generalize K6 K s q=P at *
       rotate_left 2
       all_goals
        rintro e w2 ⟨rfl,⟨r2,m2',u2⟩,p2⟩
        go_wp2
        go_ret2
        exact oL.mk E m2' u2 (W.out.trans p2)
      .rcases h1 with rfl|rfl|rfl|rfl|rfl|rfl|rfl|rfl|rfl|rfl|rfl|rfl|rfl
       .have E:ar (d8 K s (1:Nat) a b c=⟨K,0,0⟩):=D.out
        go_wp2
        go_ret2
        exact oL.mk E v.out u.out W.out
       focus
        obtain⟨p,rfl,hp⟩:=i5 (t:=4) z.out.1 Zb;obtain⟨f,rfl,S⟩:=i5 (t:=1) z.out.2.1 Zb;have E:ar (_=qb K s p f):=D
        go_wp2_with fail
        refine(b7I v.out u.out g N I.mL c (by have:=F.out;omega) Za Za).mono ?_;generalize qb K s p f=P at *
       rotate_left
       focus
        obtain⟨p,rfl,hp⟩:=i5 (t:=4) z.out.1 Zb;have E:ar (_=O0 K s p):=D
        go_wp2_with fail
        refine(Yf v.out u.out g N I.mL b c (by have:=F.out;omega) Za).mono ?_;generalize O0 K s p=P at *
       rotate_left
       focus
        obtain⟨p,rfl,hp⟩:=i5 (t:=4) z.out.1 Zb;have E:ar (_=B5 K s p b):=D
        go_wp2_with fail
        refine(a9t v.out u.out g N I.mL b c (by have:=F.out;omega) Za).mono ?_;generalize B5 K s p b=P at *
       rotate_left
       focus
        obtain⟨q,rfl,hq⟩:=i5 (t:=2) z.out.1 Zb;obtain⟨f,rfl,S⟩:=i5 (t:=1) z.out.2.1 Zb;have E:ar (_=F7 K s q f):=D
        go_wp2_with fail
        refine(b7C v.out u.out g N I.mL (by have:=F.out;omega) Za Za).mono ?_;generalize F7 K s q f=P at *
       rotate_left
       focus
        have E:ar (_=Y9 K s a):=D
        go_wp2_with fail
        refine(U3 v.out u.out a b (by have:=F.out;omega)).mono ?_;generalize Y9 K s a=P at *
       rotate_left
       focus
        obtain⟨d,rfl,hd⟩:=i5 (t:=3) z.out.1 Zb;obtain⟨f,rfl,S⟩:=i5 (t:=1) z.out.2.1 Zb;obtain⟨x,rfl,hx⟩:=i5 (t:=5) z.out.2.2 Zb;have E:ar (_=C4 K s d f x):=D
        go_wp2_with fail
        refine(Xw v.out u.out g I N (by have:=F.out;omega) Za Za Za).mono ?_;generalize C4 K s d f x=P at *
       rotate_left
       focus
        obtain⟨x,rfl,hx⟩:=i5 (t:=5) z.out.1 Zb;obtain⟨t,rfl,ht⟩:=i5 (t:=5) z.out.2.1 Zb;have E:ar (_=qy K s x t):=D
        go_wp2_with fail
        refine(Uu v.out u.out I c (by have:=F.out;omega) Za Za).mono ?_;generalize qy K s x t=P at *
       rotate_left
       focus
        obtain⟨x,rfl,hx⟩:=i5 (t:=5) z.out.1 Zb;have E:ar (_=N9 K s x):=D
        go_wp2_with fail
        refine(b4Q v.out u.out I N E' b c (by have:=F.out;omega) Za).mono ?_;generalize N9 K s x=P at *
       rotate_left
       focus
        obtain⟨x,rfl,hx⟩:=i5 (t:=5) z.out.1 Zb;obtain⟨p,rfl,hp⟩:=i5 (t:=4) z.out.2.1 Zb;obtain⟨j,rfl,hj⟩:=i5 (t:=6) z.out.2.2 Zb;have E:ar (_=H9 K s x p j):=D
        go_wp2_with fail
        refine(Rb v.out u.out g I (by have:=F.out;omega) Za Za Za).mono ?_;generalize H9 K s x p j=P at *
       rotate_left
       focus
        obtain⟨x,rfl,hx⟩:=i5 (t:=5) z.out.1 Zb;obtain⟨p,rfl,hp⟩:=i5 (t:=4) z.out.2.1 Zb;obtain⟨j,rfl,hj⟩:=i5 (t:=6) z.out.2.2 Zb;have E:ar (_=Q5 K s x p j):=D
        go_wp2_with fail
        refine(b8M v.out u.out g I (by have:=F.out;omega) Za Za Za).mono ?_;generalize Q5 K s x p j=P at *
       rotate_left
       focus
        obtain⟨p,rfl,hp⟩:=i5 (t:=4) z.out.1 Zb;obtain⟨j,rfl,hj⟩:=i5 (t:=6) z.out.2.1 Zb;have E:ar (_=Z0 K s p j):=D
        go_wp2_with fail
        refine(b5u v.out u.out g N I.mL c (by have:=F.out;omega) Za Za).mono ?_;generalize Z0 K s p j=P at *
       rotate_left
       focus
        obtain⟨p,rfl,hp⟩:=i5 (t:=4) z.out.1 Zb;obtain⟨j,rfl,hj⟩:=i5 (t:=6) z.out.2.1 Zb;have E:ar (_=J2 K s p j c):=D
        go_wp2_with fail
        refine(Zw v.out u.out g N I.mL c (by have:=F.out;omega) Za Za).mono ?_;generalize J2 K s p j c=P at *
       rotate_left
       all_goals
        rintro e w2 ⟨rfl,⟨r2,m2',u2⟩,p2⟩
        go_wp2
        go_ret2
        exact oL.mk E m2' u2 (W.out.trans p2)
   .have E:ar (d8 K s n a b c=⟨K,0,3⟩):=by
     unfold d8 ar;rw[nR Za,nT (ba (by rw[au];exact hk))]
    have ek:(K.S s 0 != 2)=true:=by simpa using hk
    clear hk;generalize K.S s 0=kk at *
    go_enter gE,gV
    go_wp2_with fail
    refine(Y7).mono ?_;rintro e A ⟨rfl,rfl⟩;rw[j']
    go_wp2_with fail
    refine(Y7).mono ?_;rintro e A ⟨rfl,rfl⟩;rw[m']
    go_wp2
    go_ret2
    exact oL.mk E (HM.out.alloc _) u.out ((ej.refl w).alloc _)
  .have E:ar (d8 K G n a b c=⟨K,0,3⟩):=by
    unfold d8 ar;rw[nR Za,nT (bT hs)]
   have m':oZ G (r.nS:Int)=false:=by
    rw[gJ];intro h;have:=Db.1 h;have:=F.out;omega
   go_enter gE,gV
   go_wp2_with fail
   refine(Y7).mono ?_;rintro e A ⟨rfl,rfl⟩;rw[j']
   go_wp2_with fail
   refine(Y7).mono ?_;rintro e A ⟨rfl,rfl⟩;rw[m']
   go_wp2
   go_ret2
   exact oL.mk E (HM.out.alloc _) u.out ((ej.refl w).alloc _)
 .have E:ar (d8 K G T a b c=⟨K,0,2⟩):=by
   unfold d8 ar;rw[nT Za]
  by_cases Z':T=-9223372036854775808
  .subst Z'
   go_enter gE,gV
   go_wp2_with fail
   refine(Y7).mono ?_;rintro e A ⟨rfl,rfl⟩;rw[show oZ (iU (-9223372036854775809)) 19=false from by rw[show iU (-9223372036854775809)=9223372036854775807 from by unfold iU;omega];decide]
   go_wp2
   go_ret2
   exact oL.mk E (HM.out.alloc _) u.out ((ej.refl w).alloc _)
  .have j':oZ (T - 1) 19=false:=by
    rw[gJ];intro h;have:=Db.1 h;omega
   go_enter gE,gV
   go_wp2_with fail
   refine(Y7).mono ?_;rintro e A ⟨rfl,rfl⟩;rw[j']
   go_wp2
   go_ret2
   exact oL.mk E (HM.out.alloc _) u.out ((ej.refl w).alloc _)
theorem MN:(J'.info? 3).map (λi=>(i.zero,i.size,i.bytes))=J (J (Y U 0),1,8):=by kernel_rfl
theorem Xe(a:Nat)(u:Vu)(c:[j][a]?=J u):(e.alloc (.cells #[j] 3)).cell? (((O e.heap.size 0 Q):cC).add a)=J u:=by
 have d:=cE e (.cells #[j] 3);rw[eO,aE,jR _ _ a _ _ _ d];simpa using c
theorem UF:∀u∈[dO .i64 g],u.oneCell'=true:=by simp[kE]
theorem c4e{N:Nat->Nat}{X:Nat->List Vu}(h:∀c,2<=c->c<=4->N c=a/\X c=vS a c):∀c,2<=c->c<=4->up (up (up N 2 (N 2+1)) 3 (N 3+1)) 4 (N 4+1) c=a+1/\up (up (up X 2 (X 2++[Y U (-1)])) 3 (X 3++[Y U 0])) 4 (X 4++[Y U 0]) c=vS (a+1) c:=λc d e=>by
 obtain rfl|rfl|rfl:c=2\/c=3\/c=4:=by omega
 all_goals
  rw[XX];simp[up,h]
theorem Hx{w:Wd}{t:Nat}{V:Nat->Vu}{N:Nat->Nat}{X:Nat->List Vu}{c:Nat}(S:2<=c)(l:c<=4)(G:qW w e a d t V N X)(T:N c<=4)(m:Int){u:Array aN}{k:ig}{Q:Exit->ig->Wd->Prop}(D:p.guard=G')(s x:aU)(E:p.op=.call { callee:=.builtin .append,args:=#[s,x],argTypes:=#[103,103] })(F:k.eval s=V c)(H:Nat)(I:e.heap.size=H)(P:k.eval x=Sc (J (O H 0 G')) 1 1)(h:∀g j w2,qW w (w2.setCell (O (w.heap.size+1+1) c G') (Sc (J (O g 0 G')) (N c+1) j)) a d t (up V c (Sc (J (O g 0 G')) (N c+1) j)) (up N c (N c+1)) (up X c (X c++[Y U m]))->w2.rowIs (w.heap.size+1+1) 105 5 (λc=>if c=0 then Sc (J (O (w.heap.size+1) 0 G')) a a else V c)->gN J' u Q o (k.put p.dst (Sc (J (O g 0 G')) (N c+1) j)) w2) :
  gN J' u Q (p::o) k (e.alloc (.cells #[Y U m] 3)):=by
 subst I;have f:=MN
 cases q:J'.info? 3 with
 | none=>rw[q]at f;cases f
 | some i =>
  rw[q]at f;simp only[aF,bz,cU]at f;have v:=G.own c Za l;have y:Gt c=3:=nR Za;have z:Cy c=1:=nR Za;rw[y,z]at v;refine kX _ D s x 103 E (w.heap.size+3) 3 i _ 1 8 Tryz.underlying103 q f.1 f.2.1 f.2.2 (by rfl) Za (V c) (N c) (X c) F (v.alloc _) (O e.heap.size 0 G') 1 1 [Y U m] P Z (Xe) (UF) Za (by simp[gO];omega) Za (by have:=G.size;simp;omega) (e.heap.size+1) Zc ?_;intro g j w2 R C ox W;exact h g j w2 (G.grown Za l C (by rw[y,z];exact R) ox) (G.uq Za l C)
theorem c5F(f m l:Nat)(h1:2<=f)(h2:f<=32)(h3:1<=m)(h4:m<=6)(h5:l<=4)(w:Wd) :
  aG J' 13 #[.agg #[Y U f,Y U m,Y U l]] w λe w'=>∃B r,e=.returned (.tuple #[Po (J (O B.b 0 Q)),Y U 0])/\ml w' B r/\Rel (K8 f m l) r/\bG w.heap.size w w'/\w.heap.size<=B.b/\w.heap.size<=B.bw/\w.heap.size<=B.bp/\∀q,w.heap.size<=B.bq q:=by
 have e1:oZ ((f:Int) - 2) 31=true:=DY.2 ⟨by omega,by omega⟩;have e2:oZ ((m:Int) - 1) 6=true:=DY.2 ⟨by omega,by omega⟩;have e3:oZ (l:Int) 5=true:=DY.2 ⟨by omega,by omega⟩;let⟨C,hC,c',d'⟩:=c0U f h2 (w.alloc (.cells #[Y U f,Y U m,Y U l] 23));have e':(w.alloc (.cells #[Y U f,Y U m,Y U l] 23)).heap.size=w.heap.size+1:=by simp
 rw[e']at d';have T:ar (C.size=f*4/\∀j,j<f*4->C[j]?=J (Y U 0)):=⟨hC,c'⟩;clear hC c' e'
 go_enter Tryz.func13,Tryz.ntmps13
 go_wp2_with fail
 refine(Y7).mono ?_;rintro e A ⟨rfl,rfl⟩;rw[e1]
 go_wp2_with fail
 refine(Y7).mono ?_;rintro e A ⟨rfl,rfl⟩;rw[e2]
 go_wp2_with fail
 refine(Y7).mono ?_;rintro e A ⟨rfl,rfl⟩;rw[e3];obtain⟨x,f',g',i',j'⟩:∃i,J'.info? 107=J i/\i.zero=J (.agg (I3 0 0 0 0).toArray)/\i.size=12/\i.bytes=96:=by
  have p:=c4i
  cases y:J'.info? 107 with
  | none=>rw[y]at p;cases p
  | some i =>
   rw[y]at p;simp only[aF,bz,cU]at p;exact⟨i,Z,p.1,p.2.1,p.2.2⟩
 have z:ar (J'.info? 107=J x/\x.zero=J (.agg (I3 0 0 0 0).toArray)/\x.size=12/\x.bytes=96):=⟨f',g',i',j'⟩;clear f' g' i' j';obtain⟨H,k',l',m',n'⟩:∃i,J'.info? 3=J i/\i.zero=J (Y U 0)/\i.size=1/\i.bytes=8:=by
  have p:=MN
  cases y:J'.info? 3 with
  | none=>rw[y]at p;cases p
  | some i =>
   rw[y]at p;simp only[aF,bz,cU]at p;exact⟨i,Z,p.1,p.2.1,p.2.2⟩
 have p':ar (J'.info? 3=J H/\H.zero=J (Y U 0)/\H.size=1/\H.bytes=8):=⟨k',l',m',n'⟩;clear k' l' m' n'
 go_wp2
 go_loopw [8] (λi w'=>∃(k:Nat) (V:Nat->Vu) (N:Nat->Nat) (X:Nat->List Vu),k<=m/\i=Y U k/\qW w w' f m l V N X/\N 1=k/\X 1=sZ k/\∀c,2<=c->c<=4->N c=0/\X c=[]) λi _=>m - (bM i).toNat
 case atStart=>exact⟨0,_,_,_,by omega,Z,(uC.start w f m l C T.out.1 T.out.2).Xq,Z,Z,λ_ _ _=>⟨Z,Z⟩⟩
 case round =>
  obtain⟨k,V,N,X,hk,rfl,s,n1,u,D⟩:=hrel;have d:ar (qW w wr f m l V N X/\N 1=k/\X 1=sZ k/\∀c,2<=c->c<=4->N c=0/\X c=[]):=⟨s,n1,u,D⟩;have HO:ar (wr.ownsRow (w.heap.size+3) 107 12 (V 1) k (sZ k)):=by have:=s.own 1 Za Za;rw[n1,u]at this;exact this
  have c1:=s.BN.1;have I:∀o,(wr.alloc o).cell? (O (w.heap.size+1+1) 1 Q)=J (V 1):=λo=>by have h:=(s.str.alloc o).cell (show 1<5 by omega);rwa [nR Za]at h
  have s0:wr.cell? (O (w.heap.size+1+1) 1 Q)=J (V 1):=s.cell Za Za;clear s n1 u D
  by_cases o':k<m
  .go_wp2_with (refine kX _ Z _ _ 102 Z (w.heap.size+3) 107 x _ 12 96 Tryz.underlying102 z.out.1 z.out.2.1 z.out.2.2.1 z.out.2.2.2 (by rfl) Za (V 1) k (sZ k) Z (HO.out.alloc _) (O wr.heap.size 0 Q) 1 1 (I3 0 (-1) (-1) 0) Z Z (Qb wr) WC Za (by simp[gO];omega) Za (by have:=d.out.1.size;simp;omega) (wr.heap.size+1) Zc ?_;intro g P w2 o2 v ox B';have HN:ar (qW w (w2.setCell (O (w.heap.size+1+1) 1 Q) (Sc (J (O g 0 Q)) (k+1) P)) f m l (up V 1 (Sc (J (O g 0 Q)) (k+1) P)) (up N 1 (k+1)) (up X 1 (sZ (k+1)))):=d.out.1.grown (c:=1) Za Za v o2 ox;have s2:w2.cell? (O (w.heap.size+1+1) 1 Q)=J (V 1):=(d.out.1.uq (c:=1) Za Za v).cell (show 1<5 by omega);have z2:w2.frozen? (O (w.heap.size+1+1) 1 Q)=false:=(d.out.1.uq (c:=1) Za Za v).frozen 1;clear o2 v ox)
   exact⟨⟨k+1,_,_,_,by omega,by go_num,HN.out,Y0,Y0,λc h E=>by rw[D5 Za,D5 Za];exact d.out.2.2.2 c h E⟩,by simp[bM];omega⟩
  .obtain rfl:k=m:=by omega
   clear I s0 o'
   go_wp2
   go_loopw [9] (λi w'=>∃(j:Nat) (V:Nat->Vu) (N:Nat->Nat) (X:Nat->List Vu),j<=l/\i=Y U j/\qW w w' f k l V N X/\N 1=k/\X 1=sZ k/\∀c,2<=c->c<=4->N c=j/\X c=vS j c) λi _=>l - (bM i).toNat
   case atStart=>exact⟨0,V,N,X,by omega,Z,d.out.1,d.out.2.1,d.out.2.2.1,λc h E=>d.out.2.2.2 c h E⟩
   case round =>
    clear d HO c1 d' e1 e2 e3 T z p';obtain⟨j,V,N,X,hj,rfl,s,n1,u,D⟩:=hrel;have d:ar (qW w wr f k l V N X/\N 1=k/\X 1=sZ k/\∀c,2<=c->c<=4->N c=j/\X c=vS j c):=⟨s,n1,u,D⟩;have c1:=s.BN.2;have I:∀o,(wr.alloc o).cell? (O (w.heap.size+1+1) 2 Q)=J (V 2):=λo=>by have h:=(s.str.alloc o).cell (show 2<5 by omega);rwa [nR Za]at h
    have s0:wr.cell? (O (w.heap.size+1+1) 2 Q)=J (V 2):=s.cell Za Za;clear s n1 u D
    by_cases o':j<l
    .have q':ar (N 2<=4):=by unfold ar;have:=(d.out.2.2.2 2 Za Za).1;omega
     have r':ar (N 3<=4):=by unfold ar;have:=(d.out.2.2.2 3 Za Za).1;omega
     have s':ar (N 4<=4):=by unfold ar;have:=(d.out.2.2.2 4 Za Za).1;omega
     have t':ar True:=trivial
     go_wp2_with (first|(clear t';refine Hx (c:=2) Za Za d.out.1 q'.out (-1) Z _ _ Z Z (wr.heap.size) Zc Z ?_;intro v u' w2 W R;have H2:ar _:=W;have s2:w2.cell? (O (w.heap.size+1+1) 2 Q)=J (V 2):=R.cell (show 2<5 by omega);have z2:w2.frozen? (O (w.heap.size+1+1) 2 Q)=false:=R.frozen 2;have t2:w2.cell? (O (w.heap.size+1+1) 3 Q)=J (V 3):=R.cell (show 3<5 by omega);have v2:∀o,((w2.setCell (O (w.heap.size+1+1) 2 Q) (Sc (J (O v 0 Q)) (N 2+1) u')).alloc o).cell? (O (w.heap.size+1+1) 3 Q)=J (V 3):=λo=>(W.str.alloc o).cell (show 3<5 by omega);clear W R I s0;have v':ar True:=trivial)|(clear v';refine Hx (c:=3) Za Za H2.out r'.out (0) Z _ _ Z Z (w2.heap.size) Zc Z ?_;intro g3 x' F G S;have H3:ar _:=G;have s3:F.cell? (O (w.heap.size+1+1) 3 Q)=J (V 3):=S.cell (show 3<5 by omega);have z3:F.frozen? (O (w.heap.size+1+1) 3 Q)=false:=S.frozen 3;have t3:F.cell? (O (w.heap.size+1+1) 4 Q)=J (V 4):=S.cell (show 4<5 by omega);have v3:∀o,((F.setCell (O (w.heap.size+1+1) 3 Q) (Sc (J (O g3 0 Q)) (N 3+1) x')).alloc o).cell? (O (w.heap.size+1+1) 4 Q)=J (V 4):=λo=>(G.str.alloc o).cell (show 4<5 by omega);clear G S s2 z2 t2 v2;have y':ar True:=trivial)|(clear y';refine Hx (c:=4) Za Za H3.out s'.out (0) Z _ _ Z Z (F.heap.size) Zc Z ?_;intro g4 I' w4 G4 R4;have H4:ar _:=G4;have s4:w4.cell? (O (w.heap.size+1+1) 4 Q)=J (V 4):=R4.cell (show 4<5 by omega);have z4:w4.frozen? (O (w.heap.size+1+1) 4 Q)=false:=R4.frozen 4;clear G4 R4))
     exact⟨⟨j+1,_,_,_,by omega,by go_num,H4.out,by rw[D5 Za,D5 Za,D5 Za];exact d.out.2.1,by rw[D5 Za,D5 Za,D5 Za];exact d.out.2.2.1,λc h E=>c4e d.out.2.2.2 c h E⟩,by simp[bM];omega⟩
    .obtain rfl:j=l:=by omega
     let⟨B,r,P,eb,ev,M,es,p0,p2,a,y1,y2,y3⟩:=d.out.1.done h3 h2 h4 h5 d.out.2.1 d.out.2.2.1 d.out.2.2.2;have t:ar (B.b=w.heap.size+1+1/\ml wr B r/\r.nS=k/\Rel (K8 f k j) ((r.nZ 0 0 2).nZ 0 2 0)/\w.heap.size<=B.bw/\w.heap.size<=B.bp/\∀q,w.heap.size<=B.bq q):=⟨eb,M,es,a,y1,y2,y3⟩;have q1:wr.cell? (O (w.heap.size+1+1) 1 Q)=J (Sc (J (O B.bp 0 Q)) k P):=by rw[←ev];exact d.out.1.cell Za Za
     have q0:wr.cell? (O B.bp 0 Q)=J (Y U 0):=by have:=M.pr 0 0 Za Za;rw[p0]at this;exact this
     have q2:wr.cell? (O B.bp 2 Q)=J (Y U (-1)):=by have:=M.pr 0 2 Za Za;rw[p2]at this;exact this
     have f0:wr.frozen? (O B.bp 0 Q)=false:=M.zp 0;have f2:wr.frozen? (O B.bp 2 Q)=false:=M.zp 2;have n1:w.heap.size+1+1≠B.bp:=by rw[←eb];exact M.bp
     have n2:B.bp≠w.heap.size+1+1:=aA n1;have i1:(0:Int)<(k:Int):=by omega
     clear I s0 M a es eb ev y1 y2 y3 p0 p2
     go_wp2
     go_ret2
     exact⟨B,(r.nZ 0 0 2).nZ 0 2 0,by rw[t.out.1];rfl,(t.out.2.1.nZ (i:=0) (c:=0) (by have:=t.out.2.2.1;omega) Za Z 2).nZ (i:=0) (c:=2) (show 0<r.nS by have:=t.out.2.2.1;omega) Za Z 0,t.out.2.2.2.1,(d.out.1.oX.setCell (by show _<=B.bp;have:=t.out.2.2.2.2.2.1;omega) _).setCell (by show _<=B.bp;have:=t.out.2.2.2.2.2.1;omega) _,by have:=t.out.1;omega,t.out.2.2.2.2.1,t.out.2.2.2.2.2.1,t.out.2.2.2.2.2.2⟩
theorem ml.rings(M:ml w B r)(j:r.nD=0)(f:Nat->Nat)(c:∀q,q<3->B.b≠f q)(e:∀q,q<3->B.bw≠f q)(g:∀q,q<3->B.bp≠f q)(i:∀q a,q<3->a<3->q≠a->f q≠f a):ml w { B with bq:=f } r :=
 ⟨M.k0,M.k1,M.k2,λq _ h=>by omega,M.wd,M.pr,λd q k _=>by omega,M.zw,M.zp,λq o _ h=>by omega,M.lb,M.lw,M.lp,λq _ h=>by omega,M.bw,M.bp,c,M.wp,e,g,i,M.hF,M.hS,M.hD⟩
theorem LD{w':Wd}{c:Rk}(M:ml w B r)(d:ml w' B c)(h:w'.heap[B.b]?=w.heap[B.b]?):c.nD=r.nD:=by
 have e:=(Zf (w:=w) (w':=w') (a:=(O B.b 2 Q)) h);have a:=M.k2 0 Za;have b:=d.k2 0 Za
 grind
def RK(B:RB)(r:Rk)(w:Wd)(a:Out)(e:Ending)(w':Wd):Prop :=
 e=.returned (.tuple #[Y U a.n,Y U a.e])/\(∃c,ml w' B c/\Rel a.K c/\c.nD=r.nD)/\Jc (B.is r) w w'
theorem b8b(M:ml w B r)(d:Rel K r)(f:Own K)(I:Inv K)(N:iP K)(o:oe K)(l g a b c:Int)(p:-9223372036854775808<=g/\g<9223372036854775808) :
  aG J' 17 #[Po (J (O B.b 0 Q)),Y U l,Y U g,.agg #[Y U a,Y U b,Y U c]] w (RK B r w (d8 K l g a b c)):=by
 by_cases v:0<r.nD
 .refine(LL M d f I N o l g a b c p).mono ?_;rintro e w' ⟨rfl,⟨r',m1,u1⟩,h2⟩;exact⟨Z,⟨r',m1,u1,LD M m1 (h2.block _ M.lb M.bw M.bp M.bq)⟩,⟨h2.os,h2.tape,h2.output,h2.size,λk m i=>h2.block k m (λe=>i (ba (bT e))) (λe=>i (ba (ba (bT e)))) λq s e=>i (ba (ba (ba ⟨v,q,s,e⟩)))⟩⟩
 .have t:r.nD=0:=by omega
  have j:=M.rings t (λq=>w.heap.size+q) (λq _=>by have:=M.lb;grind) (λq _=>by have:=M.lw;grind) (λq _=>by have:=M.lp;grind) (λq y _ _ h=>by grind);refine(LL j d f I N o l g a b c p).mono ?_;rintro e w' ⟨rfl,⟨r',m1,u1⟩,h2⟩;have u:r'.nD=r.nD:=LD j m1 (h2.block _ j.lb j.bw j.bp j.bq);have x:r'.nD=0:=u.trans t;refine⟨Z,⟨r',?_,u1,u⟩,⟨h2.os,h2.tape,h2.output,h2.size,λk m i=>h2.block k m (λe=>i (ba (bT e))) (λe=>i (ba (ba (bT e)))) λq s e=>?_⟩⟩
  .exact m1.rings x B.bq M.bq M.wq M.pq M.qq
  grind
structure Bl where
 bk:Nat
 bf:Nat
 bs:Nat
 bd:Nat
 B:RB
 bw:Nat
 bb:Nat
 H:Nat
 h1:Nat
 h2:Nat
end
section
open Go.Conc
variable{sft:Nat->Nat}{w w':Wd}{main:Bool}{B:RB}{r E:Rk}{K:aa}
structure pT (sft:Nat->Nat) (w:Wd) (B:RB) (r:Rk):Prop where
 mem:ml w B r
 row:∀k,B.is r k->(∃c t f,w.heap[k]?=J (.cells c t f))/\sft k=0
theorem pT.lk(h:pT sft w B r)(b:Lk sft e (w.at a)):ml e B r:=by
 have j:e.heap.size=w.heap.size:=b.size;refine h.mem.same Za λk l d=>?_;let⟨⟨c,t,f,g⟩,i⟩:=h.row k d;exact vV (w:=w.at a) b i (.inl ⟨c,t,_,g⟩)
theorem pT.kl(h:pT sft w B r)(l:oP sft (w.at a) w')(g:Lk sft e w')(m:ml e B E)(n:E.nD=r.nD):pT sft w' B E:=by
 have o:e.heap.size=w'.heap.size:=g.size;have i:∀k,B.is E k->(∃c t f,w'.heap[k]?=J (.cells c t f))/\sft k=0:=λk b=>by
  let⟨⟨c,t,f,d⟩,j⟩:=h.row k (by unfold RB.is at b ⊢;grind);let⟨p,q⟩:=l.cells (k:=k) d
  grind
 refine⟨m.same Za λk _ b=>?_,i⟩;let⟨⟨c,t,f,d⟩,j⟩:=i k b;exact(vV g j (.inl ⟨c,t,_,d⟩)).symm
structure wH (K:aa) (r:Rk):Prop where
 u:Rel K r
 i:rS K
theorem Kv(q:Fit sft w)(h:pT sft w B r)(k:wH K r)(g f a b c:Int)(s:-9223372036854775808<=f/\f<9223372036854775808) :
  py main sft 17 #[Po (J (O B.b 0 Q)),vi g,vi f,.agg #[vi a,vi b,vi c]] w λx w'=>x=.tuple #[vi (d8 K g f a b c).n,vi (d8 K g f a b c).e]/\(∃E,pT sft w' B E/\Rel (d8 K g f a b c).K E/\E.nD=r.nD)/\Fit sft w'/\w.heap.size<=w'.heap.size/\∀j,j<w.heap.size->¬B.is r j->w'.heap[j]?=w.heap[j]?:=by
 refine xQ q Zd (R:=λx v l=>RK B r v (d8 K g f a b c) (.returned x) l) (λd v i=>(b8b (h.lk i) k.u k.i.own k.i.toInv k.i.xP k.i.ended g f a b c s).mono λe l p=>⟨_,p.1,Z,p.2⟩) ?_;rintro d x v l w' i m n ⟨o,⟨E,t,u,n1⟩,y⟩;injection o with o
 have A:v.heap.size=w.heap.size:=i.size;refine⟨o,⟨E,h.kl n m t n1,u,n1⟩,m.fit,n.size,λj C z=>C7 (w:=w.at d) n i m (y.block j Za z)⟩
def pt(a:Nat->Nat)(n:Nat)(P:Nat->Bool):List Nat:=(aM n).filter λk=>P (a k)
theorem A9{P:Nat->Bool}:b∈pt q a P↔b<a/\P (q b)=true:=by simp[pt]
structure Rl where
 bl:Nat
 bt:Nat
 bu:Nat
 bd:Nat
inductive pU where
 | fresh (kd A B:Int)
 | begun (T:Tk)
abbrev cB(i j:Nat):Nat:=100+100*i+j
def pG(i c:Nat):Prop:=100+100*i<=c/\c<200+100*i
theorem rT(h:b<100):pG a (cB a b):=by unfold pG cB;omega
def AH(sft c:Nat->Nat)(i:Nat)(w:Wd)(a p:Nat):pU->Prop
 | .fresh d A B=>(1<=d/\d<=7)/\w.rangeAt a (p*8) [vi d,vi A,vi B,b0,s0,s0,s0,s0]
 | .begun T=>(1<=T.kd/\T.kd<=7)/\T.bt=a/\T.o=p*8/\w.cell? (O a (p*8+3) Q)=J (Bo true)/\(w.cell? (O a (p*8+6) Q)).isSome=true/\(∀b,w.heap.size<=b->qz sft b T w)/\w.ownsRow 0 147 2 T.L T.Ls.length (T.Ls.flatMap λx=>[vi x.1,vi x.2])/\c T.gF=cB i (30+p)/\c T.gS=cB i (30+p)/\(∀g,T.L.ownBlock=J g->c g=cB i (20+p)/\sft g=0)
structure oM (sft κ:Nat->Nat) (i:Nat) (w:Wd) (b:Rl) (bk n:Nat) (ts:Nat->Option pU) (D:Nat->Vu) (N:Nat->Nat) (Xs:Nat->List Vu):Prop where
 k0:w.cell? (O b.bl 0 Q)=J (Po (J (O bk 0 Q)))
 k1:w.cell? (O b.bl 1 Q)=J (Sc (J (O b.bt 0 Q)) n n)
 k2:w.cell? (O b.bl 2 Q)=J (Sc (J (O b.bu 0 Q)) n n)
 k3:w.cell? (O b.bl 3 Q)=J (Sc (J (O b.bd 0 Q)) n n)
 u:∀p,p<n->w.cell? (O b.bu p Q)=J (Bo (ts p).isSome)
 d:∀p,p<n->w.cell? (O b.bd p Q)=J (D p)
 t:∀p j,p<n->j<8->(w.cell? (O b.bt (p*8+j) Q)).isSome=true
 tk:∀p s,p<n->ts p=J s->AH sft κ i w b.bt p s
 own:∀p,p<n->w.ownsRow 0 92 5 (D p) (N p) (Xs p)
 od:∀p g,p<n->(D p).ownBlock=J g->κ g=cB i (10+p)/\sft g=0
 rl:F3 sft w b.bl/\κ b.bl=cB i 0
 rt:F3 sft w b.bt/\κ b.bt=cB i 1
 ru:F3 sft w b.bu/\κ b.bu=cB i 2
 rd:F3 sft w b.bd/\κ b.bd=cB i 3
 n6:n<=6
variable{κ:Nat->Nat}{i:Nat}{b:Rl}{I n:Nat}{F:Nat->Option pU}{D:Nat->Vu}{N:Nat->Nat}{H:Nat->List Vu}
theorem En(l:Fit sft w)(a m:Int):py main sft 32 #[vi a,vi m] w λx w'=>x=Bo (oZ a m)/\oh sft [] w w':=by
 refine xQ l Zd (R:=λx v c=>x=Bo (oZ a m)/\c=v) (λd v f=>(Y7 (n:=a) (m:=m) (w:=v)).mono λe c h=>?_) ?_
 .grind
 .rintro d x v c w' f g j ⟨rfl,rfl⟩;exact⟨Z,j.size,λk _ _=>C7 (w:=w.at d) j f g Z,g.fit⟩
theorem SV(h:-9223372036854775808<=g/\g<9223372036854775808):IntKind.i64.wrap g=g:=by
 simp[IntKind.wrap,IntKind.bits,IntKind.signed];omega
theorem UN(h:-9223372036854775808<=g/\g<9223372036854775808):oZ (IntKind.i64.wrap (g - 1)) 7=decide (1<=g/\g<=7):=by
 by_cases a:g=-9223372036854775808
 .subst a;decide
 .rw[SV Za];unfold oZ
  grind
theorem AH.keep{s:pU}(h:AH sft κ i w c d s)(S:∀j,j<8->w'.cell? (O c (d*8+j) Q)=w.cell? (O c (d*8+j) Q))(hb:∃a' t,w'.heap[c]?=J (.cells a' t (0,0)))(x:∀k,k<w.heap.size->κ k=cB i (20+d)\/κ k=cB i (30+d)->q k=κ k/\w'.heap[k]?=w.heap[k]?):AH sft q i w' c d s:=by
 cases s with
 | fresh kd A B=>exact⟨h.1,λj v y=>(S j (by grind)).trans (h.2 j v y)⟩
 | begun T =>
  let⟨q1,z,q3,q4,q5,W,G,M,X,C⟩:=h;have p:=W _ (af _);have L:=x T.gF p.fl.1 (.inr M);have P:=x T.gS p.sl.1 (.inr X);have u:∀g,T.L.ownBlock=J g->q g=κ g/\w'.heap[g]?=w.heap[g]?:=λg l=>x g (j8 G l).2 (.inl (C g l).1);have o:∀j,j<8->w'.cell? (O T.bt (T.o+j) Q)=w.cell? (O T.bt (T.o+j) Q):=λj m=>by grind
  have R:T.Ls≠[]->T.L.ownBlock=J T.bL:=λf=>by
   let⟨e,_⟩:=p.lt f;show(dm T.ad _ _).ownBlock=_;rw[e];rfl
  refine⟨q1,z,q3,(S 3 Za).trans q4,by grind,λbW c'=>?_,j5 G λg l=>(u g l).2,L.1.trans M,P.1.trans X,λg l=>⟨(u g l).1.trans (C g l).1,(C g l).2⟩⟩;have a:=W (max bW w.heap.size) (Nat.le_max_right _ _);have lf:=G0 p.fl.1 L.2;have ls:=G0 p.sl.1 P.2;have lb:c<w'.heap.size:=by grind
  exact⟨by rw[z];exact hb,a.sf,by rw[z];omega,(o 0 Za).trans a.c0,(o 1 Za).trans a.c1,(o 2 Za).trans a.c2,(o 4 Za).trans a.c4,(o 5 Za).trans a.c5,(o 7 Za).trans a.c7,λf=>⟨(a.lt f).1,G0 (a.lt f).2.1 (u _ (R f)).2,by have:=G0 (a.lt f).2.1 (u _ (R f)).2;omega⟩,λj n e m=>by
   have f:T.Ls≠[]:=λe'=>by grind
   have:=(u _ (R f)).2
   exact⟨(Zf (w:=w) (a:=(O T.bL _ Q)) this).trans (a.ls j n e m).1,(Zf (w:=w) (a:=(O T.bL _ Q)) this).trans (a.ls j n e m).2⟩,a.max,⟨lf,by omega⟩,λj m=>(Zf (w:=w) (a:=(O T.gF _ Q)) L.2).trans (a.fs j m),⟨ls,by omega⟩,λj m d v y=>(Zf (w:=w) (a:=(O T.gS _ Q)) P.2).trans (a.ss j m d v y),a.mL,a.nF,a.nS⟩
theorem oM.next{C:Nat->Option pU}{T:Nat->Nat}{W:Nat->List Vu}{p:Nat}(h:oM sft κ i w b I n F D N H)(c':p<=6)(A:∀k,k<w.heap.size->pG i (κ k)->κ k≠cB i 1->κ k≠cB i 2->κ k≠cB i 3->κ k≠cB i (10+p)->κ k≠cB i (20+p)->κ k≠cB i (30+p)->q k=κ k/\w'.heap[k]?=w.heap[k]?)(M:F3 sft w' b.bt/\q b.bt=cB i 1)(ru:F3 sft w' b.bu/\q b.bu=cB i 2)(rd:F3 sft w' b.bd/\q b.bd=cB i 3)(u:∀a,a<n->w'.cell? (O b.bu a Q)=J (Bo (C a).isSome))(d:∀a,a<n->w'.cell? (O b.bd a Q)=J (s a))(t:∀a j,a<n->j<8->a≠p->w'.cell? (O b.bt (a*8+j) Q)=w.cell? (O b.bt (a*8+j) Q))(tp:∀j,p<n->j<8->(w'.cell? (O b.bt (p*8+j) Q)).isSome=true)(e:∀a,a<n->a≠p->C a=F a/\s a=D a/\T a=N a/\W a=H a)(tk:∀L,p<n->C p=J L->AH sft q i w' b.bt p L)(own:p<n->w'.ownsRow 0 92 5 (s p) (T p) (W p))(od:∀g,p<n->(s p).ownBlock=J g->q g=cB i (10+p)/\sft g=0):oM sft q i w' b I n C s T W:=by
 have n6:=h.n6;have c:∀ {x y:Nat},x≠y->cB i x≠cB i y:=λ{x y} h e=>h (by grind);have G:=A _ h.rl.1.lt (by rw[h.rl.2];exact rT Za) (by rw[h.rl.2];exact c Za) (by rw[h.rl.2];exact c Za) (by rw[h.rl.2];exact c Za) (by rw[h.rl.2];exact c Za) (by rw[h.rl.2];exact c Za) (by rw[h.rl.2];exact c Za);have P:=λo=>Zf (w:=w) (w':=w') (a:=(O b.bl o Q)) G.2;have R:∀k x a,a<n->a≠p->k<w.heap.size->κ k=cB i x->x=10+a\/x=20+a\/x=30+a->q k=κ k/\w'.heap[k]?=w.heap[k]?:=λk x a f d' hl v z=>A k hl (by rw[v];exact rT Za) (by rw[v];exact c Za) (by rw[v];exact c Za) (by rw[v];exact c Za) (by rw[v];exact c Za) (by rw[v];exact c Za) (by rw[v];exact c Za);refine⟨(P 0).trans h.k0,(P 1).trans h.k1,(P 2).trans h.k2,(P 3).trans h.k3,u,d,λa j f S=>?_,λa L f X=>?_,λa f=>?_,λa g f m=>?_,⟨h.rl.1.of G.2,G.1.trans h.rl.2⟩,M,ru,rd,h.n6⟩
 .by_cases l:a=p
  .grind
  .rw[t a j f S l];exact h.t a j f S
 .by_cases l:a=p
  .grind
  .rw[(e a f l).1]at X
   exact(h.tk a L f X).keep (λj S=>t a j f S l) M.1.1 (λk A z=>by
    rcases z with z|z
    .exact R k _ a f l A z Za
    .exact R k _ a f l A z Za)
 .by_cases l:a=p
  .grind
  .let⟨_,e2,e3,e4⟩:=e a f l;rw[e2,e3,e4];exact j5 (h.own a f) λg m=>(R g _ a f l (j8 (h.own a f) m).2 (h.od a g f m).1 Za).2
 .by_cases l:a=p
  .grind
  .rw[(e a f l).2.1]at m;have:=R g _ a f l (j8 (h.own a f) m).2 (h.od a g f m).1 Za;exact⟨this.1.trans (h.od a g f m).1,(h.od a g f m).2⟩
theorem oM.same{κ':Nat->Nat}(h:oM sft κ i w b I n F D N H)(c:∀k,k<w.heap.size->pG i (κ k)->κ' k=κ k/\w'.heap[k]?=w.heap[k]?):oM sft κ' i w' b I n F D N H:=by
 have l:=h.n6;have d:=c _ h.rt.1.lt (by rw[h.rt.2];exact rT Za);have e:=c _ h.ru.1.lt (by rw[h.ru.2];exact rT Za);have f:=c _ h.rd.1.lt (by rw[h.rd.2];exact rT Za);have m:=λo=>Zf (w:=w) (w':=w') (a:=(O b.bt o Q)) d.2;exact h.next (p:=n) l (λk p s _ _ _ _ _ _=>c k p s) ⟨h.rt.1.of d.2,d.1.trans h.rt.2⟩ ⟨h.ru.1.of e.2,e.1.trans h.ru.2⟩ ⟨h.rd.1.of f.2,f.1.trans h.rd.2⟩ (λq g=>(Zf (w:=w) (a:=(O b.bu q Q)) e.2).trans (h.u q g)) (λq g=>(Zf (w:=w) (a:=(O b.bd q Q)) f.2).trans (h.d q g)) (λq j _ _ _=>m _) (λ_ a=>absurd a (iO n)) (λ_ _ _=>⟨Z,Z,Z,Z⟩) (λ_ a=>absurd a (iO n)) (λa=>absurd a (iO n)) λ_ a=>absurd a (iO n)
abbrev ti(b:Rl)(I n:Nat):Mem:=[(0,0,.v (Po (J (O I 0 Q)))),(0,1,.v (Sc (J (O b.bt 0 Q)) n n)),(0,2,.v (Sc (J (O b.bu 0 Q)) n n)),(0,3,.v (Sc (J (O b.bd 0 Q)) n n))]
theorem oM.pc(h:oM sft κ i w b I n F D N H)(d:Fit sft w)(f:∀k,w.heap.size<=k->sft k=0)(W:List Nat):zt sft W 1 [(b.bl,0)] (ti b I n) w:=by
 refine⟨λe a=>?_,λj c=>?_,λj q c g l=>?_,λj m o=>?_,d,f⟩
 .simp only[ti,ae,ai,or_false]at a;rcases a with rfl|rfl|rfl|rfl<;>refine⟨eP,nQ,?_⟩
  .exact h.k0
  .exact h.k1
  .exact h.k2
  .exact h.k3
 .obtain rfl:j=0:=Zm c;exact h.rl.1
 all_goals grind
theorem JQ(h:oM sft κ i w b I n F D N H)(l:Fit sft w)(m:∀k,w.heap.size<=k->sft k=0)(s:Int):py main sft 53 #[Po (J (O b.bl 0 Q)),vi s] w λx w'=>oh sft [] w w'/\((oZ s n=false/\x=.tuple #[Sc Q 0 0,vi 3])\/∃p:Nat,s=p/\p<n/\x=.tuple #[D p,vi 0]):=by
 refine y7 (sz:=21) (ρ:=[(b.bl,0)]) [.c (.p 0 0),.c (ci s)] (h.pc l m []) (λs f=>?_) jY Z Z Z λStop y z A M g=>?_
 .simp only[ae,ai,or_false]at f;rcases f with rfl|rfl<;>first|trivial|exact eP
 refine iN 100 1 [] M Z Z nQ λC L e=>A4 e (En e.fit s n) Z Z Z gy Z Z Z Z Z λx P o=>?_;obtain⟨rfl,q⟩:=o;refine E7 (e.still q) 1 (.c (.v (Bo (oZ s n)))) Z Z Z Z Z λR t=>iN 100 1 [] t Z Z nQ λS T d=>?_
 cases a:oZ s n with
 | false =>
  refine oF d Z (by rw[a];rfl)<|iN 100 1 [] d Z Z nQ λu v c=>B3 c jY Z Z Z<|g _ _ ⟨c.hJ,.inl ⟨a,Z⟩⟩
 | true =>
  refine oC d Z (by rw[a];rfl) ?_;simp only[oZ,aC,decide_eq_true_eq]at a;obtain⟨p,rfl⟩:=cV a.1;have j:p<n:=by omega
  refine iN 100 1 [[D p]] d Z Z ⟨⟨nQ,by omega⟩,⟨h.rd.1.lt,by simp,by simpa using h.d p j⟩⟩ λu v c=>B3 c jY Z Z Z<|g _ _ ⟨c.hJ,.inr ⟨p,Z,j,Z⟩⟩
theorem p7{q:Nat}(f:κ a=cB i d)(g:κ c=cB i q)(h:d≠q):a≠c:=λe=>by
 grind
def pM(F:Nat->Option pU)(p:Nat)(x:Option pU)(q:Nat):Option pU:=if q=p then x else F q
theorem Lt(h:oM sft κ i w b I n F D N H)(y':Fit sft w)(z':∀k,w.heap.size<=k->sft k=0)(s d A B:Int)(a:-9223372036854775808<=d/\d<9223372036854775808):py main sft 20 #[Po (J (O b.bl 0 Q)),vi s,.agg #[vi d,vi A,vi B]] w λx w'=>((d<1\/7<d)/\x=vi 2/\oh sft [] w w')\/(1<=d/\d<=7/\((oZ s n=false/\x=vi 3/\oh sft [] w w')\/∃p:Nat,s=p/\p<n/\(((F p).isSome=true/\x=vi 14/\oh sft [] w w')\/(F p=Q/\x=vi 0/\oh sft [b.bu,b.bt] w w'/\oM sft κ i w' b I n (pM F p (J (.fresh d A B))) D N H)))):=by
 refine y7 (sz:=41) (ρ:=[(b.bl,0)]) [.c (.p 0 0),.c (ci s),.g [ci d,ci A,ci B]] (h.pc y' z' []) (λs y=>?_) iL Z Z Z λStop fr cs act M P=>?_
 .simp only[ae,ai,or_false]at y;rcases y with rfl|rfl|rfl<;>first|trivial|exact eP|(intro x P;simp only[ae,ai,or_false]at P;rcases P with rfl|rfl|rfl<;>trivial)
 refine sq 100 1 [] M Z Z nQ λa1 w1 bo M1=>?_;refine A4 M1 (En M1.fit (IntKind.i64.wrap (d - 1)) 7) Z Z Z gy Z Z Z Z Z λx w2 f=>?_;obtain⟨rfl,L2⟩:=f;refine E7 (M1.still L2) 2 (.c (.v (Bo (oZ (IntKind.i64.wrap (d - 1)) 7)))) Z Z Z Z Z λa3 M3=>?_;refine iN 100 2 [] M3 Z Z nQ λa4 w4 M4=>?_;have hkd:=UN a
 by_cases R:1<=d/\d<=7
 .refine oC M4 Z (by grind) ?_;refine iN 100 2 [] M4 Z Z nQ λa5 w5 T=>?_;refine A4 T (En T.fit s n) Z Z Z gy Z Z Z Z Z λx w6 f=>?_;obtain⟨rfl,L6⟩:=f;refine E7 (T.still L6) 2 (.c (.v (Bo (oZ s n)))) Z Z Z Z Z λa7 M7=>?_;refine iN 100 2 [] M7 Z Z nQ λa8 w8 M8=>?_
  cases hb:oZ s n with
  | false =>
   refine oF M8 Z (by rw[hb];rfl) ?_;refine iN 100 2 [] M8 Z Z nQ λa9 w9 S=>?_;refine B3 S iL Z Z Z ?_;exact P _ _ (.inr ⟨R.1,R.2,.inl ⟨hb,Z,S.hJ⟩⟩)
  | true =>
   refine oC M8 Z (by rw[hb];rfl) ?_;simp only[oZ,aC,decide_eq_true_eq]at hb;obtain⟨p,rfl⟩:=cV hb.1;have m:p<n:=by omega
   refine iN 100 2 [[Bo (F p).isSome]] M8 Z Z ⟨⟨nQ,by omega⟩,⟨h.ru.1.lt,by simp,by simpa using h.u p m⟩⟩ λa9 w9 S=>?_
   cases ht:F p with
   | some x =>
    refine oF S Z (by rw[ht];rfl) ?_;refine iN 100 2 [] S Z Z nQ λA' i' C=>?_;refine B3 C iL Z Z Z ?_;exact P _ _ (.inr ⟨R.1,R.2,.inr ⟨p,Z,m,.inl ⟨by rw[ht];rfl,Z,C.hJ⟩⟩⟩)
   | none =>
    refine oC S Z (by rw[ht];rfl) ?_;refine iN 100 2 [] S Z Z ⟨nQ,by omega⟩ λA' i' C=>?_;have f':∀k,k<w.heap.size->i'.heap[k]?=w.heap[k]?:=λk a=>C.old k a Zc;have C:=C.pI (W':=[b.bu,b.bt]) Zc;have B':=p7 h.rl.2 h.ru.2 Za;have g':∀k,k<w.heap.size->bo≠k:=λk a=>by
     rcases M1.own 1 (af _) Zc with e|e
     .cases e
     .have e:w.heap.size<=bo:=e;omega
    refine yI C Z Z Z Z Z Z Z Z Z (h.ru.1.of (f' _ h.ru.1.lt)) (.inl Zc) (λj u=>?_) (λq f=>?_) λj' C' o' D' E' p'=>?_
    .have u:j<2:=u;obtain rfl|rfl:j=0\/j=1:=by omega
     .exact B'
     .exact g' _ h.ru.1.lt
    .obtain rfl:q=0:=Zm f;rw[Zf (w:=w) (f' _ h.ru.1.lt)];simp[h.u p m]
    .refine p8 100 2 [] p' Z Z nQ λa12 W d' h'=>?_;have q':∀j,j<2->(ox [(b.bl,0),(bo,0)] j).1≠b.bt:=λj u=>by
      obtain rfl|rfl:j=0\/j=1:=by omega
      .exact p7 h.rl.2 h.rt.2 Za
      .exact g' _ h.rt.1.lt
     have lt12:∀k,k<w.heap.size->k<W.heap.size:=λk a=>Zg a d'.size;have F':∀k,k<w.heap.size->k≠b.bl->k≠b.bu->W.heap[k]?=w.heap[k]?:=λk a h1 h2=>by
      rw[h'.old k (Zg a p'.size) λj u=>?_,C'.old k (Zg a C.size) (by simpa using h2),f' k a];have u:j<2:=u;obtain rfl|rfl:j=0\/j=1:=by omega
      .exact aA h1
      .exact g' k a
     have k':=F' _ h.rt.1.lt (p7 h.rt.2 h.rl.2 Za) (p7 h.rt.2 h.ru.2 Za);refine vz [(8,Q)] [] false (λs xs G' w'=>G'=[(b.bl,0),(bo,0)]/\((s=0/\w'=W)\/(s=1/\oh sft [b.bt] W w'/\F3 sft w' b.bt/\w'.rangeAt b.bt (p*8) [vi d,vi A,vi B,b0,s0,s0,s0,s0]/\∀q,q<p*8\/p*8+8<=q->w'.cell? (O b.bt q Q)=W.cell? (O b.bt q Q)))) d' Z (λ_=>rfl) (λ_=>rfl) Z Zd ⟨nQ,by omega⟩ (λs xs r' w' a' _ l h1 h2=>?_) ⟨Z,.inl ⟨Z,Z⟩⟩ (λs j g y xs o a' w' r' rest ho l Ma rd hn=>?_) λxs r' a13 l' l J' K'=>?_
     .obtain⟨e,l⟩:=l;obtain rfl:=Zk e;rcases l with⟨_,rfl⟩|⟨_,L,_⟩
      .exact d'.bare h1 h2
      .exact(d'.wrote L (.inl Zc) q').bare h1 h2
     .obtain⟨e,l⟩:=l;obtain rfl:=Zk e
      cases s with
      | succ s=>simp at y
      | zero =>
       obtain⟨rfl,rfl⟩:=ax (Ze y);rcases l with⟨_,rfl⟩|⟨h,_⟩
       case inr=>cases h
       obtain rfl:=Ze ho;obtain⟨c0,t0,L'⟩:∃c t,w'.heap[b.bt]?=J (.cells c t (0,0)):=by rw[k'];exact h.rt.1.1
       refine wN (b:=b.bt) (p:=p*8) (cells:=[vi d,vi A,vi B,b0,s0,s0,s0,s0]) Ma.lv Z Z Z Z L' h.rt.1.2 Ma.fit ((rd _ _ Z).trans ?_) (rd _ _ Z) Z Z (λv G=>?_) (λq f=>?_) λw2 s1 s2 s3 s4 s5 s6=>?_
       .simp[Sv.den,ou.den]
       .simp only[ae,ai,or_false]at G;rcases G with rfl|rfl|rfl|rfl|rfl|rfl|rfl|rfl<;>rfl
       .rw[Zf (w:=w) k'];exact h.t p q m f
       .refine hn [] w2 Q ⟨by simp,.inr ⟨Z,⟨by omega,λk _ a=>s2 k (by simpa using a),s6⟩,⟨s3,h.rt.1.2⟩,λq v G=>s4 q v G,λq f=>s5 q f⟩⟩ (.inl Z) λsv h=>by cases h
     .obtain⟨e,l⟩:=l;obtain rfl:=Zk e;rcases l with⟨h0,_⟩|⟨_,m',s',U',o13⟩
      .cases h0
      have V':=(d'.wrote m' (.inl Zc) q').re J' K';refine p8 100 2 [] V' Z Z nQ λa14 e' X t'=>?_;refine B3 X iL Z Z Z ?_;have u':∀k,k<w.heap.size->k≠b.bl->∀j,j<2->(ox [(b.bl,0),(bo,0)] j).1≠k:=λk a hl j u=>by
       obtain rfl|rfl:j=0\/j=1:=by omega
       .exact aA hl
       .exact g' k a
      have X':b.bt<l'.heap.size:=s'.lt;have n':b.bu<j'.heap.size:=o'.lt;have v':e'.heap[b.bt]?=l'.heap[b.bt]?:=t'.old _ X' (u' _ h.rt.1.lt (p7 h.rt.2 h.rl.2 Za));have eu:e'.heap[b.bu]?=j'.heap[b.bu]?:=by
       have nu:=u' _ h.ru.1.lt (p7 h.ru.2 h.rl.2 Za);rw[t'.old _ (Zg n' (Zh h'.size m'.size)) nu,m'.old _ (Zg n' h'.size) (by simpa using p7 h.ru.2 h.rt.2 Za),h'.old _ n' nu]
      have ct:=λo=>Zf (w:=l') (w':=e') (a:=(O b.bt o Q)) v';have c12:=λo=>Zf (w:=w) (w':=W) (a:=(O b.bt o Q)) k';have cu:=λo=>Zf (w:=j') (w':=e') (a:=(O b.bu o Q)) eu;have c1:=λo=>Zf (w:=w) (w':=i') (a:=(O b.bu o Q)) (f' _ h.ru.1.lt);have n6:=h.n6;have z:∀j v,[vi d,vi A,vi B,b0,s0,s0,s0,s0][j]?=J v->e'.cell? (O b.bt (p*8+j) Q)=J v:=λj v G=>(ct _).trans (U' j v G);refine P _ _ (.inr ⟨R.1,R.2,.inr ⟨p,Z,m,.inr ⟨ht,Z,X.hJ,h.next (p:=p) Za (λk a _ k1 k2 _ _ _ _=>⟨Z,X.old k a ?_⟩) ⟨s'.of v',h.rt.2⟩ ⟨o'.of eu,h.ru.2⟩ ⟨h.rd.1.of (X.old _ h.rd.1.lt ?_),h.rd.2⟩ (λq f=>?_) (λq f=>(Zf (w:=w) (a:=(O b.bd q Q)) (X.old _ h.rd.1.lt ?_)).trans (h.d q f)) (λq j f u x'=>?_) (λj _ u=>?_) (λq f x'=>⟨nR x',Z,Z,Z⟩) (λs _ y=>?_) (λ_=>j5 (h.own p m) λg hg=>X.old g (j8 (h.own p m) hg).2 ?_) λg _ hg=>h.od p g m hg⟩⟩⟩)
      .simp only[ae,ai,or_false];rintro(rfl|rfl)
       .exact k2 h.ru.2
       .exact k1 h.rt.2
      .simp only[ae,ai,or_false];rintro(e|e)
       .exact p7 h.rd.2 h.ru.2 Za e
       .exact p7 h.rd.2 h.rt.2 Za e
      .rw[cu];unfold pM;split
       .next e=>subst e;simpa[ou.den] using D' 0 _ Z
       .next e=>rw[E' q (by simp;omega),c1];exact h.u q f
      .simp only[ae,ai,or_false];rintro(e|e)
       .exact p7 h.rd.2 h.ru.2 Za e
       .exact p7 h.rd.2 h.rt.2 Za e
      .grind
      .match j,u with
       | 0,_=>rw[z 0 _ Z];rfl
       | 1,_=>rw[z 1 _ Z];rfl
       | 2,_=>rw[z 2 _ Z];rfl
       | 3,_=>rw[z 3 _ Z];rfl
       | 4,_=>rw[z 4 _ Z];rfl
       | 5,_=>rw[z 5 _ Z];rfl
       | 6,_=>rw[z 6 _ Z];rfl
       | 7,_=>rw[z 7 _ Z];rfl
      .unfold pM at y;rw[nT Z]at y;obtain rfl:=Ze y;exact⟨R,z⟩
      .simp only[ae,ai,or_false];rintro(e|e)
       .exact p7 (h.od p g m hg).1 h.ru.2 Za e
       .exact p7 (h.od p g m hg).1 h.rt.2 Za e
 .refine oF M4 Z (by grind) ?_;refine iN 100 2 [] M4 Z Z nQ λa5 w5 T=>?_;refine B3 T iL Z Z Z ?_;exact P _ _ (.inl ⟨by omega,Z,T.hJ⟩)
def Qy:List bm:=match Tryz.f25.body with
 | some (.seq _ (.block i (.loop (.seq (.seq x y) z))))=>[.code y,.code z,.inLoop (.seq (.seq x y) z),.inBlock i]
 | _=>[]
variable{Stop:Gr->Wd->Prop}{fr:Fm'}{S:List Fm'}
abbrev TD(j n:Nat):m7:=[(0,.c (.p 0 0)),(2,.c (ci j)),(9,.c (.v (Bo (decide ((j:Int)<n)))))]
theorem RY(h:oM sft κ i w b I n F D N H)(T:∀w',oh sft [b.bu] w w'->F3 sft w' b.bu->(∀q,q<n->w'.cell? (O b.bu q Q)=J (Bo false))->iv V main true sft Stop (G (fr.finish (.tuple #[])) S) w'):∀f j d w',j+f=n->F3 sft w' b.bu->(∀q,q<j->w'.cell? (O b.bu q Q)=J (Bo false))->(∀q,q<n->(w'.cell? (O b.bu q Q)).isSome=true)->fx sft [b.bu] 1 w [(b.bl,0)] (ti b I n) 18 (TD j n) d w'->iv V main true sft Stop (G ((base 25).at d Qy) (fr::S)) w':=by
 have n6:=h.n6;have g:=p7 h.rl.2 h.ru.2 Za;intro f
 induction f with
 | zero =>
  intro j d w' W R p s M;obtain rfl:j=n:=by omega
  refine oC M Z (decide_eq_false Za)<|p8 200 1 [] M Z Z nQ λX u k m=>Cr k Tryz.func25 Z Z Z ?_;have e:=m.old _ R.lt (λt a=>by cases Zm a;exact g);exact T _ k.hJ (R.of e) (λq c=>(Zf (w:=w') (a:=(O b.bu q Q)) e).trans (p q c))
 | succ f ih =>
  intro j d w' W R p s M;refine oF M Z (decide_eq_true Za)<|p8 200 1 [] M Z Z ⟨nQ,by omega⟩ λX u k m=>?_;have v:=m.old _ R.lt (λt a=>by cases Zm a;exact g);have x:=λo=>Zf (w:=w') (w':=u) (a:=(O b.bu o Q)) v;refine yI k Z Z Z Z Z Z Z Z Z (R.of v) (.inl Zc) (λt a=>by cases Zm a;exact g) (λq c=>?_) λw2 L2 y z A M2=>?_
  .obtain rfl:q=0:=Zm c;rw[x];simpa using s j Za
  have e2:=C9 (n:=j) Za;refine p8 200 1 [] M2 Z Z nQ λa3 l M3 q3=>?_;have C:=M3.oH 1 [0,2,9] [(0,0),(0,1),(0,2),(0,3)] Z Z Z;rw[e2]at C;have L:=q3.old _ y.lt (λt a=>by cases Zm a;exact g);have P:=λo=>Zf (w:=w2) (w':=l) (a:=(O b.bu o Q)) L;have A:∀q,q≠j->l.cell? (O b.bu q Q)=w'.cell? (O b.bu q Q):=λq c=>by rw[P,A q (by simp;omega),x]
  have z:l.cell? (O b.bu j Q)=J (Bo false):=by rw[P];simpa[ou.den] using z 0 _ Z
  refine ih (j+1) a3 l Za (y.of L) (λq c=>?_) (λq c=>?_) C
  .by_cases e:q=j
   all_goals grind
  .by_cases e:q=j
   all_goals grind
theorem XF(h:oM sft κ i w b I n F D N H)(P:Fit sft w)(R:∀k,w.heap.size<=k->sft k=0):py main sft 25 #[Po (J (O b.bl 0 Q))] w λx w'=>x=.tuple #[]/\oh sft [b.bu] w w'/\oM sft κ i w' b I n (λ_=>Q) D N H:=by
 refine y7 (sz:=18) (ρ:=[(b.bl,0)]) [.c (.p 0 0)] (h.pc P R [b.bu]) (λs d=>?_) Tryz.func25 Z Z Z λStop fr S e' M T=>?_
 .simp only[ae,ai,or_false]at d;rcases d with rfl;exact eP
 have n6:=h.n6;have W:=p7 h.rl.2 h.ru.2 Za;refine p8 200 1 [] M Z Z nQ λG X M1 q1=>?_;have M2:=M1.oH 1 [0,2,9] [(0,0),(0,1),(0,2),(0,3)] Z Z Z;have u:=q1.old _ h.ru.1.lt (λt ht=>by cases Zm ht;exact W);refine RY h (λw' L r c=>T _ _ ⟨Z,L,?_⟩) n 0 G X Za (h.ru.1.of u) (λq v=>by omega) (λq v=>by rw[Zf (w:=w) u,h.u q v];rfl) M2
 have f:∀k,k<w.heap.size->κ k≠cB i 2->w'.heap[k]?=w.heap[k]?:=λk hk hn=>L.old k hk (by
  simp only[cD];rintro rfl
  exact hn h.ru.2)
 have l:∀ {x:Nat},x≠2->cB i x≠cB i 2:=λ{x} h e=>h (by grind);have y:=f _ h.rt.1.lt (by rw[h.rt.2];exact l Za);have z:=f _ h.rd.1.lt (by rw[h.rd.2];exact l Za);have A:=f _ h.rl.1.lt (by rw[h.rl.2];exact l Za);have m:=λo=>Zf (w:=w) (w':=w') (a:=(O b.bl o Q)) A;exact⟨(m 0).trans h.k0,(m 1).trans h.k1,(m 2).trans h.k2,(m 3).trans h.k3,c,λp a=>(Zf (w:=w) (a:=(O b.bd p Q)) z).trans (h.d p a),λp j a hj=>by rw[Zf (w:=w) y];exact h.t p j a hj,λp s _ d=>(by cases d),λp a=>j5 (h.own p a) λg C=>f g (j8 (h.own p a) C).2 (by rw[(h.od p g a C).1];exact l Za),h.od,⟨h.rl.1.of A,h.rl.2⟩,⟨h.rt.1.of y,h.rt.2⟩,⟨r,h.ru.2⟩,⟨h.rd.1.of z,h.rd.2⟩,h.n6⟩
theorem uH(d:oP sft (w.at a) w')(f:Lk sft e w')(g:∀c,w.heap.size<=c->sft c=0)(h:w.heap.size<=c):w'.heap[c]?=e.heap[c]?:=by
 rw[f.heap,g c h]
 cases j:w'.heap[c]? with
 | none=>rfl
 | some o=>rw[aF,yl (d.new c o h j)]
theorem Py(t:Fit sft w)(u:∀k,w.heap.size<=k->sft k=0)(h:pT sft w B r)(k:wH K r):py main sft 45 #[Po (J (O B.b 0 Q))] w λx w'=>oh sft [] w w'/\∃(a:Nat->Option cC) (g f:Nat->Nat),x=Cw K a f/\vJ w' K a g/\∀c,c<3->0<qO K c->w.heap.size<=g c:=by
 refine xQ t Zd (R:=λx v l=>∃(a:Nat->Option cC) (g f:Nat->Nat),x=Cw K a f/\vJ l K a g/\bG v.heap.size v l/\∀c,c<3->0<qO K c->v.heap.size<=g c) (λd v m=>(ZR (h.lk m) k.u k.i.own k.i.xP k.i.mL k.i.toInv).mono λe l y=>?_) ?_
 .grind
 .rintro d x v l w' m o p ⟨a,g,f,rfl,hT,hB,hg⟩;have z:v.heap.size=w.heap.size:=m.size;have A:l.heap.size=w'.heap.size:=o.size;refine⟨⟨p.size,λj C _=>C7 (w:=w.at d) p m o (hB.block j Za),o.fit⟩,a,g,f,Z,hT.same Za λc q s=>uH p o u ?_,λc q s=>?_⟩<;>have:=hg c q s<;>omega
variable{W:List Nat}{ro:Nat}{w0:Wd}{ρ:oN}{sz:Nat}{a:db}{m m':Mem}{b' c':m7}
theorem fx.alias(M:fx sft W ro w0 ρ m sz b' a w)(t:Nat)(v d:Sv){n:Nat}(j:n=ρ.length)(h:tV b' t=J v)(l:v.den ρ=d.den ρ)(k:tQ n d=true)(g:qU t d b'=J c'):fx sft W ro w0 ρ m sz c' a w :=
 M.re ⟨M.lv.size,M.lv.defers,λp f=>by
  let⟨q,x⟩:=p;obtain⟨s,c,rfl⟩:=s7.1 f;rcases Cg g _ c with e|⟨c,_⟩
  .obtain⟨rfl,rfl⟩:=ax e;have:=M.lv.has _ (s7.2 ⟨v,xe h,Z⟩)
   grind
  .exact M.lv.has _ (s7.2 ⟨s,c,Z⟩)⟩ λp f=>by
  rcases Cg g p f with rfl|⟨c,_⟩
  .rw[←j];exact vo k
  .exact M.wf p c
theorem fx.xH(M:fx sft W ro w0 ρ m sz b' a w)(c:∀e∈m',e∈m\/(e.1<ρ.length/\e.2.2.ok ρ.length/\w.cell? (O ((ox ρ e.1).1) ((ox ρ e.1).2+e.2.1) Q)=J (e.2.2.den ρ))):fx sft W ro w0 ρ m' sz b' a w:=⟨M.lv,λe d=>(c e d).elim (M.ce e) id,M.wf,M.bl,M.ij,M.own,M.size,M.old,M.fit,M.new⟩
def Fq:List bm:=match Tryz.f22.body with
 | some (.seq _ (.seq _ (.seq _ (.seq _ (.seq _ c)))))=>[.code c]
 | _=>[]
def pN(i p c:Nat):Bool:=aI c 1||Nat.beq c (cB i 1)||Nat.beq c (cB i 2)||Nat.beq c (cB i 3)||Nat.beq c (cB i (10+p))||Nat.beq c (cB i (20+p))
def uB(l:List (Int×Int)):List dQ:=l.flatMap λx=>[vi x.1,vi x.2]
theorem c6S:pH 135 147 2 16:=⟨by kernel_rfl,by kernel_rfl⟩
def Ad(c:aa)(p:Nat)(d A B:Int):j6:=(rE c p d A B).then false ye
def sj(c:aa)(p:Nat)(d A B:Int)(f:List (Int×Int))(e:Int):Option (Int×Int):=if e=3 then J (0,3) else match Ad c p d A B f with
 | .call _ _ _ _=>Q
 | .done v e=>J (v,e)
def oy{c:Type}(f:Nat->c)(p:Nat)(x:c)(q:Nat):c:=if q=p then x else f q
variable{w1:Wd}{p:Nat}{T:Tk}{x6:Vu}
def zB(sft κ:Nat->Nat)(i:Nat)(w:Wd)(b:Rl)(B:RB)(r:Rk)(n:Nat)(F:Nat->Option pU)(D:Nat->Vu)(N:Nat->Nat)(H:Nat->List Vu)(p:Nat)(g A h:Int)(j:aa)(l:List (Int×Int))(c:Out)(x:Vu)(w':Wd):Prop :=
 oh sft (pt κ w.heap.size (pN i p)) w w'/\∃f E,(∀k,k<w.heap.size->f k=κ k)/\(∀k,w.heap.size<=k->f k=0\/k<w'.heap.size/\pG i (f k))/\pT sft w' B E/\Rel c.K E/\E.nD=r.nD /\
  match sj j p g A h (l++[(c.n,c.e)]) c.e with
  | none=>x=.tuple #[Bo false,vi 0]/\∃T:Tk,oM sft f i w' b B.b n (pM F p (J (.begun T))) D N H/\T.K=j/\T.kd=g/\T.A=A/\T.B=h/\T.Ls=l++[(c.n,c.e)]
  | some (v,e)=>x=.tuple #[Bo true,vi 0]/\∃d,oM sft f i w' b B.b n (pM F p Q) (oy D p d) (oy N p (N p+1)) (oy H p (H p++pc g A h e v))
def Sn(κ:Nat->Nat)(i p:Nat)(w w1:Wd)(k:Nat):Prop:=(k<w.heap.size/\κ k=cB i (30+p))\/(w.heap.size<=k/\k<w1.heap.size)
abbrev tg(p:Nat)(c:Nat):m7:=[(0,.c (.p 0 0)),(1,.c (ci p)),(6,.c (.v (Po (J (O c (p*8) Q)))))]
structure pe (sft κ:Nat->Nat) (i p:Nat) (w w1:Wd) (b:Rl) (B:RB) (r:Rk) (K:aa) (T:Tk) (x6:Vu):Prop where
 tk:∀bb,w1.heap.size<=bb->qz sft bb T w1
 tb:T.bt=b.bt/\T.o=p*8
 kd:1<=T.kd/\T.kd<=7
 c3:w1.cell? (O b.bt (p*8+3) Q)=J (Bo true)
 c6:w1.cell? (O b.bt (p*8+6) Q)=J x6
 ot:∀q,q<p*8\/p*8+8<=q->w1.cell? (O b.bt q Q)=w.cell? (O b.bt q Q)
 rt:F3 sft w1 b.bt/\κ b.bt=cB i 1/\b.bt<w.heap.size
 old:∀k,k<w.heap.size->κ k≠1->κ k≠cB i 1->κ k≠cB i (20+p)->w1.heap[k]?=w.heap[k]?
 L:w1.ownsRow 0 147 2 T.L T.Ls.length (uB T.Ls)
 Lc:∀g,T.L.ownBlock=J g->sft g=0/\((g<w.heap.size/\κ g=cB i (20+p))\/w.heap.size<=g)/\g≠T.gF/\g≠T.gS
 sF:Sn κ i p w w1 T.gF
 sS:Sn κ i p w w1 T.gS
 pS:p<T.K.nS
 p6:p<6
 sz:w.heap.size<=w1.heap.size
 R:pT sft w1 B r
 Rc:∀j,B.is r j->κ j=1/\j<w.heap.size
 k:wH K r
theorem qd{κ:Nat->Nat}{i y:Nat}(h:κ c=cB i d)(f:d≠y):κ c≠cB i y:=λe=>f (by rw[h]at e;unfold cB at e;omega)
theorem sK{κ:Nat->Nat}{i:Nat}(h:κ c=cB i d):κ c≠1:=λe=>by rw[h]at e;unfold cB at e;omega
theorem Ix(t:∀g,w1.heap.size<=g->qz sft g T w1)(h:w1.heap.size<=e.heap.size)(l:e.heap[T.bt]?=w1.heap[T.bt]?)(u:e.heap[T.gF]?=w1.heap[T.gF]?)(x:e.heap[T.gS]?=w1.heap[T.gS]?)(y:T.Ls≠[]->e.heap[T.bL]?=w1.heap[T.bL]?):∀g,e.heap.size<=g->qz sft g T e:=λz C=>by
 have c:=t z Za;have d:=λo=>Zf (w:=w1) (w':=e) (a:=(O T.bt o Q)) l
 exact⟨by rw[l];exact c.blk,c.sf,c.ne,(d _).trans c.c0,(d _).trans c.c1,(d _).trans c.c2,(d _).trans c.c4,(d _).trans c.c5,(d _).trans c.c7,λk=>⟨(c.lt k).1,Zg (c.lt k).2.1 h,(c.lt k).2.2⟩,λj n s f=>by
  have:=y λL=>by grind
  exact⟨(Zf (w:=w1) (a:=(O T.bL _ Q)) this).trans (c.ls j n s f).1,(Zf (w:=w1) (a:=(O T.bL _ Q)) this).trans (c.ls j n s f).2⟩,c.max,⟨Zg c.fl.1 h,c.fl.2⟩,λj f=>(Zf (w:=w1) (a:=(O T.gF _ Q)) u).trans (c.fs j f),⟨Zg c.sl.1 h,c.sl.2⟩,λj f q v A=>(Zf (w:=w1) (a:=(O T.gS _ Q)) x).trans (c.ss j f q v A),c.mL,c.nF,c.nS⟩
theorem pe.own(P:pe sft κ i p w w1 b B r K T x6)(c:T.Ls≠[]):T.L.ownBlock=J T.bL:=by
 let⟨e,_⟩:=(P.tk _ (af _)).lt c;show(dm T.ad _ _).ownBlock=_;rw[e];rfl
def tt(w:Wd)(T:Tk)(X:List Nat):Prop:=∀x∈X,w.heap.size<=x/\x≠T.gF/\x≠T.gS/\T.L.ownBlock≠J x
theorem pe.move(P:pe sft κ i p w w1 b B r K T x6)(X:List Nat)(j:tt w T X)(G:κ b.bl=cB i 0)(d:w1.heap.size<=e.heap.size)(f:∀k,k<w1.heap.size->k≠b.bl->k∉X->e.heap[k]?=w1.heap[k]?)(M:e.heap[b.bl]?=w1.heap[b.bl]?):pe sft κ i p w e b B r K T x6:=by
 have f:∀k,k<w1.heap.size->k∉X->e.heap[k]?=w1.heap[k]?:=λk c hx=>by
  grind
 have l:∀k,k<w.heap.size->e.heap[k]?=w1.heap[k]?:=λk c=>f k (Zg c P.sz) λh=>by have:=(j k h).1;omega
 have u:=P.tk _ (af _);have s:=l _ P.rt.2.2;have v:∀g,T.L.ownBlock=J g->e.heap[g]?=w1.heap[g]?:=λg x=>f g (j8 P.L x).2 λh=>(j g h).2.2.2 x;have t:=λo=>Zf (w:=w1) (w':=e) (a:=(O b.bt o Q)) s;exact⟨Ix P.tk d (by rw[P.tb.1];exact s) (f _ u.fl.1 λh=>(j _ h).2.1 Z) (f _ u.sl.1 λh=>(j _ h).2.2.1 Z) λz=>v _ (P.own z),P.tb,P.kd,(t _).trans P.c3,(t _).trans P.c6,λq A=>(t _).trans (P.ot q A),⟨P.rt.1.of s,P.rt.2⟩,λk y C L R=>(l k y).trans (P.old k y C L R),j5 P.L v,P.Lc,P.sF.imp id λh=>⟨h.1,Zg h.2 d⟩,P.sS.imp id λh=>⟨h.1,Zg h.2 d⟩,P.pS,P.p6,Zh P.sz d,⟨P.R.mem.same d λk _ c=>l k (P.Rc k c).2,λk c=>⟨by rw[l k (P.Rc k c).2];exact(P.R.row k c).1,(P.R.row k c).2⟩⟩,P.Rc,P.k⟩
theorem pe.call{u:aa}{E:Rk}(P:pe sft κ i p w w1 b B r K T x6)(d:w1.heap.size<=e.heap.size)(c:∀k,k<w1.heap.size->¬B.is r k->e.heap[k]?=w1.heap[k]?)(C:pT sft e B E)(L:wH u E)(hn:E.nD=r.nD):pe sft κ i p w e b B E u T x6:=by
 have c:∀k,k<w1.heap.size->(κ k≠1\/w.heap.size<=k)->e.heap[k]?=w1.heap[k]?:=λk R hc=>c k R λG=>by
  have:=P.Rc k G
  grind
 have l:=P.tk _ (af _);have s:=c _ P.rt.1.lt (.inl (sK P.rt.2.1));have v:∀k,Sn κ i p w w1 k->κ k≠1\/w.heap.size<=k:=λk h=>h.imp (λh=>sK h.2) (·.1);have x:∀g,T.L.ownBlock=J g->κ g≠1\/w.heap.size<=g:=λg f=>(P.Lc g f).2.1.imp (λh=>sK h.2) id;have t:=λo=>Zf (w:=w1) (w':=e) (a:=(O b.bt o Q)) s;exact⟨Ix P.tk d (by rw[P.tb.1];exact s) (c _ l.fl.1 (v _ P.sF)) (c _ l.sl.1 (v _ P.sS)) λy=>c _ (l.lt y).2.1 (x _ (P.own y)),P.tb,P.kd,(t _).trans P.c3,(t _).trans P.c6,λq M=>(t _).trans (P.ot q M),⟨P.rt.1.of s,P.rt.2⟩,λk z A X h4=>(c k (Zg z P.sz) (.inl A)).trans (P.old k z A X h4),j5 P.L λg f=>c g (j8 P.L f).2 (x g f),P.Lc,P.sF.imp id λh=>⟨h.1,Zg h.2 d⟩,P.sS.imp id λh=>⟨h.1,Zg h.2 d⟩,P.pS,P.p6,Zh P.sz d,C,λj hj=>P.Rc j (by unfold RB.is at hj ⊢;grind),L⟩
theorem KY:∀ {l:List (Int×Int)} {j:Nat} {x e:Int},l[j]?=J (x,e)->(uB l)[j*2]?=J (vi x)/\(uB l)[j*2+1]?=J (vi e)
 | y::l,0,x,e,h=>by cases Ze h;exact⟨Z,Z⟩
 | y::l,j+1,x,e,h=>by
  have:=KY (l:=l) (j:=j) h;rw[show(j+1)*2=j*2+1+1 by omega];exact this
theorem OR{l:List (Int×Int)}(x e:Int):uB (l++[(x,e)])=uB l++[vi x,vi e]:=by simp[uB]
def Tk.more(T:Tk)(g c:Nat)(x e:Int):Tk:={ T with bL:=g,ad:=J (O g 0 Q),cap:=c,Ls:=T.Ls++[(x,e)] }
theorem pe.app{w2 w3:Wd}{g cap:Nat}{x e:Int}(P:pe sft κ i p w w1 b B r K T x6)(X:List Nat)(hX:tt w T X)(hm:T.Ls.length<7036874417568)(d:w2.ownsRow 0 147 2 (Sc (J (O g 0 Q)) (T.Ls.length+1) cap) (T.Ls.length+1) (uB T.Ls++[vi x,vi e]))(hz:w1.heap.size<=w2.heap.size)(hs:∀k,k<w1.heap.size->T.L.ownBlock≠J k->k≠b.bl->k∉X->w2.heap[k]?=w1.heap[k]?)(ho:w2.heap[b.bl]?=w1.heap[b.bl]?)(hg:T.L.ownBlock=J g\/w1.heap.size<=g)(p':sft g=0)(A:oh sft [b.bt] w2 w3)(r3:F3 sft w3 b.bt)(c3:w3.cell? (O b.bt (p*8+7) Q)=J (Sc (J (O g 0 Q)) (T.Ls.length+1) cap))(o3:∀q,q<p*8+7\/p*8+8<=q->w3.cell? (O b.bt q Q)=w2.cell? (O b.bt q Q)):pe sft κ i p w w3 b B r K (T.more g cap x e) x6:=by
 have hs:∀k,k<w1.heap.size->T.L.ownBlock≠J k->k∉X->w2.heap[k]?=w1.heap[k]?:=λk l hn hx=>by
  grind
 have h':∀k,k<w.heap.size->k∉X:=λk l h=>by have:=(hX k h).1;omega
 have t0:=P.tk _ (af _);have j':∀k,Sn κ i p w w1 k->k≠b.bt:=λk h e=>by
  subst e;rcases h with h|h
  .exact qd h.2 Za P.rt.2.1
  .have:=P.rt.2.2;omega
 have q':T.L.ownBlock≠J b.bt:=λh=>by
  rcases(P.Lc _ h).2.1 with q|q
  .exact qd q.2 Za P.rt.2.1
  .have:=P.rt.2.2;omega
 have r':g≠b.bt:=λe=>by
  rcases hg with h|h
  .grind
  .have:=P.rt.2.2;have:=P.sz;omega
 have et:=hs _ P.rt.1.lt q' (h' _ P.rt.2.2);have C:∀k,k<w1.heap.size->k≠b.bt->T.L.ownBlock≠J k->k∉X->w3.heap[k]?=w1.heap[k]?:=λk l y h2 L=>(A.old k (Zg l hz) (by simpa using y)).trans (hs k l h2 L);have k':=(j8 d (g:=g) Z).2;have eg:w3.heap[g]?=w2.heap[g]?:=A.old g k' (by simpa using r');have O3:w3.ownsRow 0 147 2 (Sc (J (O g 0 Q)) (T.Ls.length+1) cap) (T.Ls.length+1) (uB T.Ls++[vi x,vi e]):=j5 d λg' i'=>by
  obtain rfl:g=g':=Ze i';exact eg
 have s:w1.heap.size<=w3.heap.size:=Zh hz A.size;have ct:∀o,o<p*8+7\/p*8+8<=o->w3.cell? (O b.bt o Q)=w1.cell? (O b.bt o Q):=λo ho=>(o3 o ho).trans (Zf (w:=w1) (a:=(O b.bt o Q)) et);have l':∀k,Sn κ i p w w1 k->(k=T.gF\/k=T.gS)->T.L.ownBlock≠J k:=λk _ l h=>by
  have:=(P.Lc k h).2.2
  grind
 have ef:=C _ t0.fl.1 (j' _ P.sF) (l' _ P.sF (.inl Z)) λh=>(hX _ h).2.1 Z;have es:=C _ t0.sl.1 (j' _ P.sS) (l' _ P.sS (.inr Z)) λh=>(hX _ h).2.2.1 Z;have hL:T.Ls.length+1=(T.Ls++[(x,e)]).length:=by simp
 have o':∀k,Sn κ i p w w1 k->(k=T.gF\/k=T.gS)->g≠k:=λk l ho h=>by
  grind
 refine⟨λbW hb=>?_,P.tb,P.kd,(ct _ Za).trans P.c3,(ct _ Za).trans P.c6,λq hq=>(ct q Za).trans (P.ot q hq),⟨r3,P.rt.2⟩,λk y h2 L h4=>?_,?_,λg' i'=>?_,P.sF.imp id λh=>⟨h.1,Zg h.2 s⟩,P.sS.imp id λh=>⟨h.1,Zg h.2 s⟩,P.pS,P.p6,Zh P.sz s,⟨P.R.mem.same s λk l R=>?_,λk R=>?_⟩,P.Rc,P.k⟩
 .have f:=P.tk bW Za;let⟨q1,q2⟩:=P.tb;have z:∀j,j<7->w3.cell? (O T.bt (T.o+j) Q)=w1.cell? (O T.bt (T.o+j) Q):=λj u=>by grind
  refine⟨by show ∃c t,w3.heap[T.bt]?=_;rw[q1];exact r3.1,f.sf,f.ne,(z 0 Za).trans f.c0,(z 1 Za).trans f.c1,(z 2 Za).trans f.c2,(z 4 Za).trans f.c4,(z 5 Za).trans f.c5,?_,λ_=>⟨Z,Zg k' A.size,?_⟩,λj n' e' u=>?_,?_,⟨Zg f.fl.1 s,f.fl.2⟩,λj u=>(Zf (w:=w1) (a:=(O T.gF _ Q)) ef).trans (f.fs j u),⟨Zg f.sl.1 s,f.sl.2⟩,λj u q v hv=>(Zf (w:=w1) (a:=(O T.gS _ Q)) es).trans (f.ss j u q v hv),f.mL,f.nF,f.nS⟩
  .show w3.cell? (O T.bt (T.o+7) Q)=J (Sc (J (O g 0 Q)) (T.Ls++[(x,e)]).length cap)
   grind
  .show g≠bW
   grind
  .have hr:=KY u;have G:uB (T.more g cap x e).Ls=uB T.Ls++[vi x,vi e]:=OR _ _;rw[G]at hr;have k1:=O3.cells (g:=g) Z _ _ hr.1;have k2:=O3.cells (g:=g) Z _ _ hr.2;rw[eO,aE]at k1 k2;exact⟨k1,k2⟩
  .show(T.Ls++[(x,e)]).length<=_
   grind
 .rw[C k (Zg y P.sz) (λe=>L (e▸P.rt.2.1)) (λh=>?_) (h' k y)]
  .exact P.old k y h2 L h4
  .rcases(P.Lc _ h).2.1 with q|q
   all_goals grind
 .show w3.ownsRow 0 _ 2 (Sc (J (O g 0 Q)) (T.Ls++[(x,e)]).length cap) (T.Ls++[(x,e)]).length (uB (T.Ls++[(x,e)]));rw[OR,←hL];exact O3
 .obtain rfl:g=g':=Ze i';refine⟨p',?_,o' _ P.sF (.inl Z),o' _ P.sS (.inr Z)⟩;rcases hg with h|h
  .exact(P.Lc _ h).2.1
  .exact .inr (Zh P.sz h)
 all_goals
  have M:=P.Rc k R
  have G:=C k (Zg M.2 P.sz) (λe=>by rw[e]at M;exact sK P.rt.2.1 M.1) (λh=>by
   rcases(P.Lc _ h).2.1 with q|q
   all_goals grind) (h' k M.2)
 .exact G
 .exact⟨by rw[G];exact(P.R.row k R).1,(P.R.row k R).2⟩
variable{f:bF}{k l:List bm}{C:Prop}
theorem Bg(n N:Nat)(e:pW)(M:fx sft W ro w0 ρ m sz b' a w)(g:N=ρ.length)(o:ga ro N=true)(h:sH w ((ρ.drop ro).map (·.1)) ro sz n k ⟨m,b',N,e,True⟩=(l,⟨m',c',N+1,[],C⟩))(q:C)(s:∀c w' b,fx sft W ro w0 (ρ++[(b,0)]) m' sz c' c w'->Kq ρ w w'->w.heap.size<=b->iv V main true sft Stop (G ((base f).at c l) S) w'):iv V main true sft Stop (G ((base f).at a k) S) w :=
 sq n N e M.oo g h q λc w' b d=>by
  have j:=d.fresh (i:=ρ.length) (by rw[←g];exact nJ o) (af _) Zc;have t:ox (ρ++[(b,0)]) ρ.length=(b,0):=tM ρ (b,0);rw[t]at j;exact s c w' b (M.rK d) d.kq j
theorem sx{i p:Nat}:pN i p c=true↔c=1\/c=cB i 1\/c=cB i 2\/c=cB i 3\/c=cB i (10+p)\/c=cB i (20+p):=by
 simp only[pN,da,Nat.beq_eq,or_assoc]
def OY:List bm:=match Tryz.f22.body with
 | some (.seq _ (.seq _ (.seq _ (.seq _ (.seq _ (.seq _ (.seq _ (.seq _ (.seq _ (.seq (.seq _ c) d))))))))))=>[.code c,.code d]
 | _=>[]
variable{l c d:Int}
section
variable{a:Int}
theorem Rt(h:oM sft κ i w b B.b n F D N H)(hp:p<n)(P:pe sft κ i p w w1 b B r K T x6)(n3:pV T.Ls)(hm:T.Ls.length<7036874417568)(hc:rE T.K p T.kd T.A T.B false T.Ls=.inl (.call l a c d))(hl:-9223372036854775808<=l/\l<9223372036854775808)(M:fx sft (pt κ w.heap.size (pN i p)) 1 w [(b.bl,0)] (ti b B.b n) 123 (tg p b.bt) u w1)(hx:∀u R v g k' E,E.nD=r.nD->tt w (T.more g k' (d8 K p l a c d).n (d8 K p l a c d).e) [v]->pe sft κ i p w R b B E (d8 K p l a c d).K (T.more g k' (d8 K p l a c d).n (d8 K p l a c d).e) x6->fx sft (pt κ w.heap.size (pN i p)) 1 w [(b.bl,0),(v,0)] (ti b B.b n++[(1,0,.v i0),(1,1,.v i0),(1,2,.v i0),(1,3,.v i0),(1,4,.v (Bo true)),(1,5,.v i0),(1,6,ci (d8 K p l a c d).e)]) 123 ([(7,.c (.p 1 0)),(80,.c (.v (Bo ((d8 K p l a c d).e != 3))))]++tg p b.bt) u R->iv V main true sft Stop (G ((base 22).at u OY) (fr::S)) R):iv V main true sft Stop (G ((base 22).at u Fq) (fr::S)) w1:=by
 have n6:=h.n6;have C':b.bl∉pt κ w.heap.size (pN i p):=λhm=>by
  have:=sx.1 (A9.1 hm).2;rw[h.rl.2]at this;unfold cB at this;omega
 have d':∀ {ρ:oN} {m:Mem} {b':m7} {a:db} {wi:Wd},fx sft (pt κ w.heap.size (pN i p)) 1 w ρ m 123 b' a wi->wi.heap[b.bl]?=w.heap[b.bl]?:=λM=>M.old _ h.rl.1.lt C';have nl:∀k:Nat,k≠b.bl->∀j,j < [(b.bl,0)].length->(ox [(b.bl,0)] j).1≠k:=λk y j L=>by
  obtain rfl:j=0:=Zm L;exact aA y
 refine p8 200 1 [] M Z Z nQ λa2 w2 M2 q2=>?_;have P2:=P.move [] (by simp[tt]) h.rl.2 q2.size (λk y hn _=>q2.old k y (nl k hn)) ((d' M2).trans (d' M).symm);have hn:=NR (main:=main) P2.tk n3 M2.fit (λk y=>M2.new k (Zh M2.size y)) P2.pS P2.kd;rw[P2.tb.1,P2.tb.2,hc]at hn;refine A4 M2 hn Z Z Z dB Z Z Z Z Z λx w3 hq=>?_;obtain⟨L3,rfl⟩:=hq;have P3:=P2.move [] (by simp[tt]) h.rl.2 L3.size (λk y _ _=>L3.old k y Zc) (L3.old _ (Zg h.rl.1.lt M2.size) Zc);refine E7 (M2.still L3) 1 (.g [ci l,ci a,ci c,ci d,.v b0,.v i0,.v i0]) Z Z Z Z Z λa4 M4=>?_;refine Bg 200 1 [] M4 Z Z Z nQ λa5 R v M5 q5 f5=>?_;have P5:=P3.move [] (by simp[tt]) h.rl.2 q5.size (λk y hn _=>q5.old k y (nl k hn)) ((d' M5).trans (d' M4).symm);have E':w.heap.size<=v:=Zh P3.sz f5;have r':∀k,k<w.heap.size->k≠b.bl->∀j,j < [(b.bl,0),(v,0)].length->(ox [(b.bl,0),(v,0)] j).1≠k:=λk y hn j L=>by
  have L:j<2:=L;obtain rfl|rfl:j=0\/j=1:=by omega
  .exact aA hn
  .show v≠k;omega
 have F':∀k,B.is r k->k≠b.bl:=λk y e=>by
  have:=(P.Rc k y).1;rw[e]at this;exact sK h.rl.2 this
 have s':∀ {w':Wd} {b':m7} {u:db},fx sft (pt κ w.heap.size (pN i p)) 1 w [(b.bl,0),(v,0)] (ti b B.b n++[(1,0,ci l),(1,1,ci a),(1,2,ci c),(1,3,ci d),(1,4,.v b0),(1,5,.v i0),(1,6,.v i0)]) 123 b' u R->Fit sft w'->R.heap.size<=w'.heap.size->(∀j,j<R.heap.size->¬B.is r j->w'.heap[j]?=R.heap[j]?)->fx sft (pt κ w.heap.size (pN i p)) 1 w [(b.bl,0),(v,0)] (ti b B.b n++[(1,0,ci l),(1,1,ci a),(1,2,ci c),(1,3,ci d),(1,4,.v b0),(1,5,.v i0),(1,6,.v i0)]) 123 b' u w':=λ{w' b' u} M hf hz hs=>M.to hz (λj L=>hs _ (R7 M L) λhB=>r' _ (P.Rc _ hB).2 (F' _ hB) j L Z) (λk h1 h2=>hs k (Zg h1 M.size) λhB=>h2 (A9.2 ⟨h1,sx.2 (.inl (P.Rc k hB).1)⟩)) hf;have l':=M5.oH 2 [0,1,6,7] [(0,0),(0,1),(0,2),(0,3),(1,0),(1,1),(1,2),(1,3),(1,4),(1,5),(1,6)] Z Z Z;refine vz [(9,J (.t [.c (ci (d8 K p l a c d).n),.c (ci (d8 K p l a c d).e)]))] [] false (λs xs I' w'=>I'=[(b.bl,0),(v,0)]/\((s=0/\w'=R)\/(s=1/\Fit sft w'/\R.heap.size<=w'.heap.size/\(∀j,j<R.heap.size->¬B.is r j->w'.heap[j]?=R.heap[j]?)/\∃E,pT sft w' B E/\Rel (d8 K p l a c d).K E/\E.nD=r.nD))) l' Z (λ_=>rfl) (λ_=>rfl) Z Zd nQ (λs xs t' w' a' _ X h1 h2=>?_) ⟨Z,.inl ⟨Z,Z⟩⟩ (λs j g hs xs o a' w' t' rest ho X Ma rd hn=>?_) λxs t' a6 w6 X N' O'=>?_
 .obtain⟨e,X⟩:=X;obtain rfl:=Zk e;rcases X with⟨_,rfl⟩|⟨_,q1,q2,q3,_⟩
  .exact l'.bare h1 h2
  .exact(s' l' q1 q2 q3).bare h1 h2
 .obtain⟨e,X⟩:=X;obtain rfl:=Zk e
  cases s with
  | succ s=>simp at hs
  | zero =>
   obtain⟨rfl,rfl⟩:=ax (Ze hs);rcases X with⟨_,rfl⟩|⟨h,_⟩
   case inr=>cases h
   obtain rfl:=Ze ho;refine CF (Kv Ma.fit P5.R P5.k p l a c d hl) Z Z Z gE Z Z ?_ λx w2 hq=>?_
   .have e1:=rd (.tmp 56) _ Z;have e2:=rd (.tmp 57) _ Z;have e3:=rd (.tmp 59) _ Z;have e4:=rd (.tmp 61) _ Z;simp only[du,cZ,eK,e1,e2,e3,e4];rfl
   .obtain⟨rfl,q1,q2,q3,q4⟩:=hq;exact hn [] w2 (J (.t [.c (ci (d8 K p l a c d).n),.c (ci (d8 K p l a c d).e)])) ⟨by simp,.inr ⟨Z,q2,q3,q4,q1⟩⟩ (.inr Z) (λsv h=>by obtain rfl:=Ze h;intro x hx;simp only[ae,ai,or_false]at hx;rcases hx with rfl|rfl<;>trivial)
 obtain⟨e,X⟩:=X;obtain rfl:=Zk e;rcases X with⟨h0,_⟩|⟨_,q1,q2,q3,E,q4,U',q6⟩
 .cases h0
 have M6:=(s' l' q1 q2 q3).re N' O';have P6:=P5.call q2 q3 q4 ⟨U',Ac P5.k.i p l a c d⟩ q6;generalize d8 K p l a c d=t at *;have n':v≠b.bt:=by have:=P.rt.2.2;omega
 have c7:w6.cell? (O b.bt (p*8+7) Q)=J T.L:=by
  have:=(P6.tk _ (af _)).c7;rw[P6.tb.1,P6.tb.2]at this;exact this
 refine p8 200 2 [[T.L]] M6 Z Z ⟨nQ,⟨P6.rt.1.lt,by simp;exact λe=>n' e.symm,c7⟩⟩ λa7 w7 M7 q7=>?_;have mv:∀ {wi wj:Wd},Kq [(b.bl,0),(v,0)] wi wj->∀k,k<wi.heap.size->k≠b.bl->k∉[v]->wj.heap[k]?=wi.heap[k]?:=λq k y h1 h2=>q.old k y λj L=>by
  have L:j<2:=L;obtain rfl|rfl:j=0\/j=1:=by omega
  .exact aA h1
  .exact λe=>h2 (by simp;exact e.symm)
 have t3:=P3.tk _ (af _);have aw:tt w T [v]:=λx hx=>by
  obtain rfl:=Zi hx;have:=t3.fl.1;have:=t3.sl.1;exact⟨E',by omega,by omega,λh=>by have:=(j8 P3.L h).2;omega⟩
 have z:=P6.move [v] aw h.rl.2 q7.size (mv q7) ((d' M7).trans (d' M6).symm);have W':∀g,T.L.ownBlock=J g->g∈pt κ w.heap.size (pN i p)\/w.heap.size<=g:=λg A=>by
  rcases(z.Lc g A).2.1 with q|q
  .exact .inl (A9.2 ⟨q.1,sx.2 (by rw[q.2];simp)⟩)
  .exact .inr q
 refine Gj c6S M7 ⟨z.L,λg A=>(z.Lc g A).1,W',λg A j L=>?_⟩ (bh _) Za Zb Z Z Z Z Z Z Z Z Z Z Z Z Z λa8 w8 g k' c' L8 M8 Y' O8 A=>?_
 .have L:j<2:=L;obtain rfl|rfl:j=0\/j=1:=by omega
  .intro e;have e:b.bl=g:=e;subst e;rcases(z.Lc _ A).2.1 with q|q
   .exact qd h.rl.2 Za q.2
   .have:=h.rl.1.lt;omega
  .exact λe=>(aw v Zc).2.2.2 (by rw[A];exact congrArg J e.symm)
 obtain rfl:=Ze Y';refine p8 200 2 [] M8 Z Z nQ λa9 w9 M9 q9=>?_;have o':T.L.ownBlock≠J b.bt:=λh'=>by
  rcases(z.Lc _ h').2.1 with q|q
  .exact qd q.2 Za P.rt.2.1
  .have:=P.rt.2.2;omega
 have p':∀k,k<w7.heap.size->T.L.ownBlock≠J k->k≠b.bl->k∉[v]->w9.heap[k]?=w7.heap[k]?:=λk y h1 h2 h3=>(mv q9 k (Zg y L8.size) h2 h3).trans (L8.old k y (by
  cases e:T.L.ownBlock with
  | none=>simp
  | some g=>rw[e]at h1;simp only[Option.toList_some,cD];exact λe'=>h1 (by rw[e'])))
 have q':g≠b.bl/\g≠v/\g≠b.bt:=by
  rcases A with A|A
  .refine⟨λe=>?_,λe=>(aw v Zc).2.2.2 (by rw[A,e]),λe=>o' (by rw[A,e])⟩;subst e;rcases(z.Lc _ A).2.1 with q|q
   .exact qd h.rl.2 Za q.2
   .have:=h.rl.1.lt;omega
  .have:=h.rl.1.lt;have:=z.sz;have:=P.rt.2.2;have:=Zg (R7 M7 (i:=1) Zc) (af _);exact⟨by omega,λe=>by have:v<w7.heap.size:=this;omega,by omega⟩
 have gsz:=(j8 O8.row (g:=g) Z).2
 have O9:=j5 O8.row (w':=w9) (λg' hg'=>by
  obtain rfl:g=g':=Ze hg'
  exact mv q9 g gsz q'.1 (by simpa using q'.2.1))
 have rt9:=z.rt.1.of (p' _ z.rt.1.lt o' (p7 P.rt.2.1 h.rl.2 Za) (by simpa using aA n'));refine yI M9 Z Z Z Z Z Z Z Z Z rt9 (.inl (A9.2 ⟨P.rt.2.2,sx.2 (.inr (.inl P.rt.2.1))⟩)) (r' _ P.rt.2.2 (p7 P.rt.2.1 h.rl.2 Za)) (λq hq=>?_) λw10 L10 r10 c10 o10 v'=>?_
 .obtain rfl:q=0:=Zm hq;rw[Zf (w:=w7) (p' _ z.rt.1.lt o' (p7 P.rt.2.1 h.rl.2 Za) (by simpa using aA n'))];have:=(z.tk _ (af _)).c7;rw[z.tb.1,z.tb.2]at this;rw[kH,this];rfl
 have P10:=z.app (w2:=w9) (w3:=w10) (g:=g) (cap:=k') (x:=t.n) (e:=t.e) [v] aw hm O9 (Zh L8.size q9.size) p' ((d' M9).trans (d' M7).symm) A (O8.sf g Z) L10 r10 (c10 0 _ Z) λq hq=>o10 q hq;refine p8 200 2 [] v' Z Z nQ λa11 w11 x' y'=>?_;have z':tt w (T.more g k' t.n t.e) [v]:=λx hx=>by
  obtain rfl:=Zi hx;have:=aw x Zc;exact⟨this.1,this.2.1,this.2.2.1,λe=>q'.2.1 (Ze e)⟩
 have P11:=P10.move [v] z' h.rl.2 y'.size (mv y') ((d' x').trans (d' v').symm);exact hx a11 w11 v g k' E q6 z' P11 (x'.oH 2 [7,80,0,1,6] [(0,0),(0,1),(0,2),(0,3),(1,0),(1,1),(1,2),(1,3),(1,4),(1,5),(1,6)] Z Z Z)
end
def Fc:List bm:=match Tryz.f22.body with
 | some (.seq _ (.seq _ (.seq _ (.seq _ (.seq _ (.seq _ (.seq _ (.seq _ (.seq _ (.seq _ (.seq (.seq _ c) d)))))))))))=>[.code c,.code d]
 | _=>[]
def EY:List bm:=match Tryz.f22.body with
 | some (.seq _ (.seq _ (.seq _ (.seq _ (.seq _ (.seq _ (.seq _ (.seq _ (.seq _ (.seq _ (.seq (.seq _ (.cond _ (.seq _ (.seq _ (.seq _ e))) _)) d)))))))))))=>[.code e,.code d]
 | _=>[]
variable{W:Wd}{v e:Int}{C:Nat}{X:db}
abbrev tZ(b:Rl)(I n:Nat)(v e:Int):Mem:=ti b I n++[(1,4,.v (Bo true)),(1,5,ci v),(1,6,ci e)]
theorem c5s(h:oM sft κ i w b B.b n F D N H)(hp:p<n)(P:pe sft κ i p w W b B r K T x6)(h7:tt w T [C])(M:fx sft (pt κ w.heap.size (pN i p)) 1 w [(b.bl,0),(C,0)] (tZ b B.b n v e) 123 ([(7,.c (.p 1 0)),(85,.c (.v (Bo true)))]++tg p b.bt) X W)(hx:∀X A y',W.heap.size<=y'->W.heap.size<=A.heap.size->(∀k,k<W.heap.size->k≠b.bl->k≠b.bu->k≠C->A.heap[k]?=W.heap[k]?)->F3 sft A b.bu->(∀q,q<n->A.cell? (O b.bu q Q)=J (Bo (pM F p Q q).isSome))->fx sft (pt κ w.heap.size (pN i p)) 1 w [(b.bl,0),(C,0),(y',0)] (tZ b B.b n v e++[(2,0,ci T.kd),(2,1,ci T.A),(2,2,ci T.B),(2,3,ci e),(2,4,ci (if e=0 then v else 0))]) 123 ([(7,.c (.p 1 0)),(10,.c (.p 2 0))]++tg p b.bt) X A->iv V main true sft Stop (G ((base 22).at X EY) (fr::S)) A):iv V main true sft Stop (G ((base 22).at X Fc) (fr::S)) W:=by
 have n6:=h.n6;have b7w:=(h7 C Zc).1;have h':=h.ru.1.lt;have J':∀k,k<w.heap.size->k≠b.bl->∀j,j < [(b.bl,0),(C,0)].length->(ox [(b.bl,0),(C,0)] j).1≠k:=λk u hn j hj=>by
  have hj:j<2:=hj;obtain rfl|rfl:j=0\/j=1:=by omega
  .exact aA hn
  .show C≠k;omega
 have mv:∀ {wi wj:Wd},Kq [(b.bl,0),(C,0)] wi wj->∀k,k<wi.heap.size->k≠b.bl->k≠C->wj.heap[k]?=wi.heap[k]?:=λq k u y z=>q.old k u λj hj=>by
  have hj:j<2:=hj;obtain rfl|rfl:j=0\/j=1:=by omega
  .exact aA y
  .exact aA z
 have ul:=p7 h.ru.2 h.rl.2 Za;have s':b.bu≠C:=by omega
 have u5:W.heap[b.bu]?=w.heap[b.bu]?:=P.old _ h' (sK h.ru.2) (qd h.ru.2 Za) (qd h.ru.2 Za);refine oF M Z Z<|p8 200 2 [] M Z Z ⟨nQ,by omega⟩ λa6 w6 M6 q6=>?_;have u6:w6.heap[b.bu]?=w.heap[b.bu]?:=(mv q6 _ (Zg h' P.sz) ul s').trans u5;have cu:=λo=>Zf (w:=w) (w':=w6) (a:=(O b.bu o Q)) u6;refine yI M6 Z Z Z Z Z Z Z Z Z (h.ru.1.of u6) (.inl (A9.2 ⟨h',sx.2 (by rw[h.ru.2];simp)⟩)) (J' _ h' ul) (λq hq=>?_) λw7 L7 r7 c7 o7 M7=>?_
 .obtain rfl:q=0:=Zm hq;rw[cu];simp[h.u p hp]
 refine p8 200 2 [] M7 Z Z nQ λa8 t M8 q8=>?_;have i':∀k,k<W.heap.size->k<t.heap.size:=λk u=>by have:=q6.size;have:=L7.size;have:=q8.size;omega
 have o8:∀k,k<W.heap.size->k≠b.bl->k≠b.bu->k≠C->t.heap[k]?=W.heap[k]?:=λk u y z R=>by
  rw[mv q8 k (by have:=q6.size;have:=L7.size;omega) y R,L7.old k (by grind) (by simpa using z),mv q6 k u y R]
 have t8:t.heap[b.bt]?=W.heap[b.bt]?:=o8 _ P.rt.1.lt (p7 P.rt.2.1 h.rl.2 Za) (p7 P.rt.2.1 h.ru.2 Za) (by have:=P.rt.2.2;omega);have u8:t.heap[b.bu]?=w7.heap[b.bu]?:=mv q8 _ r7.lt ul s';have b7l:C<t.heap.size:=R7 M8 (i:=1) Zc;have tk:=P.tk _ (af _);have kc:∀j v,[vi T.kd,vi T.A,vi T.B][j]?=J v->t.cell? (O b.bt (p*8+0+j) Q)=J v:=λj v hv=>by
  rw[Zf (w:=W) t8,kH];have e0:=tk.c0;have e1:=tk.c1;have e2:=tk.c2;rw[P.tb.1,P.tb.2]at e0 e1 e2
  match j,hv with
  | 0,hv=>grind
  | 1,hv=>grind
  | 2,hv=>grind
 have t':=(M8.oH 2 [7,0,1,6] [(0,0),(0,1),(0,2),(0,3),(1,4),(1,5),(1,6)] Z Z Z).oo;generalize k':t.alloc (.cells #[i0,i0,i0,i0,i0] 92 (0,0))=A;have M9:∀ {a':db},a'.tmps.size=123->a'.defers=[]->fx sft [C] 1 t ([(b.bl,0),(C,0)]++[(t.heap.size,0)]) (tZ b B.b n v e) 123 [] a' A:=λy z=>by
  rw[←k'];exact((t'.bare y z).alloc [.v i0,.v i0,.v i0,.v i0,.v i0] (by simp[ou.ok]) 92).fewer (λ_ h=>h) λe he=>.tail _ (.tail _ (.tail _ (.tail _ (.tail _ he))))
 have n9:A.heap[t.heap.size]?=J (.cells #[i0,i0,i0,i0,i0] 92 (0,0)):=by rw[←k'];exact cE _ _
 have s9:A.heap.size=t.heap.size+1:=by rw[←k'];simp
 have o9:∀k,k<t.heap.size->A.heap[k]?=t.heap[k]?:=λk u=>by rw[←k'];exact aK _ _ k u
 have z9:sft t.heap.size=0:=M8.new _ M8.size;have z':∀ {w':Wd} {a':db},oh sft [t.heap.size] A w'->F3 sft w' t.heap.size->a'.tmps.size=123->a'.defers=[]->fx sft [C] 1 t ([(b.bl,0),(C,0)]++[(t.heap.size,0)]) (tZ b B.b n v e) 123 [] a' w':=λ{w' a'} L hr y z=>by
  refine(M9 y z).upd L 2 Zb Zc (λj hj hne=>?_) (λk u=>.inr (by cases Zi u;grind)) hr.1 λe he=>.inl ⟨he,?_⟩
  .have hj:j<3:=hj;obtain rfl|rfl:j=0\/j=1:=by omega
   .show b.bl∉[t.heap.size];have:=i' _ (Zg h.rl.1.lt P.sz);simp;omega
   .show C∉[t.heap.size];simp;omega
  .simp only[tZ,ti,cy,dS,ae,ai,or_false]at he;rcases he with rfl|rfl|rfl|rfl|rfl|rfl|rfl<;>simp
 refine vz [(7,J (.c (.p 2 0))),(8,Q)] [[vi T.kd,vi T.A,vi T.B]] false (λs xs u' w'=>(s=0/\u'=[(b.bl,0),(C,0)]/\w'=t)\/(s=1/\u'=[(b.bl,0),(C,0)]++[(t.heap.size,0)]/\w'=A)\/(s=2/\u'=[(b.bl,0),(C,0)]++[(t.heap.size,0)]/\oh sft [t.heap.size] A w'/\F3 sft w' t.heap.size/\w'.rangeAt t.heap.size 0 [vi T.kd,vi T.A,vi T.B,vi e,i0])) t' Z (λ_=>rfl) (λ_=>rfl) Z Zd ⟨nQ,⟨by show b.bt<_;exact i' _ P.rt.1.lt,by show b.bt∉[C];have:=P.rt.2.2;simp;omega,kc⟩⟩ (λs xs A' w' a' _ hP y z=>?_) (.inl ⟨Z,Z,Z⟩) (λs j g hs xs o a' w' A' rest ho hP Ma rd hn=>?_) λxs A' a10 l' hP v' U'=>?_
 .rcases hP with⟨_,e,rfl⟩|⟨_,e,rfl⟩|⟨_,e,L,hr,_⟩
  .cases Zk e;exact t'.bare y z
  .cases eJ e;exact M9 y z
  .cases eJ e;exact z' L hr y z
 .cases s with
  | zero =>
   obtain⟨rfl,rfl⟩:=ax (Ze hs);rcases hP with⟨_,e,rfl⟩|⟨h,_⟩|⟨h,_⟩
   case inr.inl=>cases h
   case inr.inr=>cases h
   cases Zk e;have hq:=Ze ho;have ra:=λd=>Ej (a:=a') (o:=o) (by rw[←hq];rfl) (W9 (t:=92) (row:=true) (z:=[i0,i0,i0,i0,i0]) Z) (λe=>by cases e) (w'.at d) #[];refine Dy (ob:=.cells #[i0,i0,i0,i0,i0] 92 (0,0)) (v:=Po (J (O w'.heap.size 0 Q))) ho (by rw[←hq];rfl) (by show aX≠.early;decide) (λd=>?_) (λd=>congrArg Prod.snd (ra d)) nQ ?_
   .have:=congrArg Prod.fst (ra d);rw[jr]at this;exact this
   .rw[k'];exact hn [(w'.heap.size,0)] A (J (.c (.p 2 0))) (.inr (.inl ⟨Z,by simp,Z⟩)) (.inr Z) (λsv h=>by cases Ze h;show 2<_;simp)
  | succ s =>
   cases s with
   | succ s=>simp at hs
   | zero =>
    obtain⟨rfl,rfl⟩:=ax (Ze hs);rcases hP with⟨h,_⟩|⟨_,he,rfl⟩|⟨h,_⟩
    case inl=>cases h
    case inr.inr=>cases h
    cases eJ he;cases Ze ho;refine wN (b:=t.heap.size) (p:=0) (cells:=[vi T.kd,vi T.A,vi T.B,vi e,i0]) Ma.lv Z Z Z Z n9 z9 Ma.fit ((rd (.tmp 10) (.c (.p 2 0)) Z).trans Z) (rd _ _ Z) Z Z (λv hv=>?_) (λq hq=>?_) λw2 s1 s2 s3 s4 s5 s6=>?_
    .simp only[ae,ai,or_false]at hv;rcases hv with rfl|rfl|rfl|rfl|rfl<;>rfl
    .simp only[aD,n9]
     match q,hq with
     | 0,_=>rfl
     | 1,_=>rfl
     | 2,_=>rfl
     | 3,_=>rfl
     | 4,_=>rfl
    .exact hn [] w2 Q (.inr (.inr ⟨Z,by simp,⟨by omega,λk _ u=>s2 k (by simpa using u),s6⟩,⟨s3,z9⟩,λq v hv=>s4 q v hv⟩)) (.inl Z) λsv h=>by cases h
 .rcases hP with⟨h,_⟩|⟨h,_⟩|⟨_,he,p',r10,n'⟩
  .cases h
  .cases h
  cases eJ he;have M11:=(z' p' r10 v'.size v'.defers).re v' U'
  have M12:=M8.rK (M11.xH (m':=tZ b B.b n v e++[(2,0,ci T.kd),(2,1,ci T.A),(2,2,ci T.B),(2,3,ci e),(2,4,.v i0)]) λx hm=>(by
   rcases cz.1 hm with hm|hm
   .exact .inl hm
   .refine .inr ?_;simp only[ae,ai,or_false]at hm;rcases hm with rfl|rfl|rfl|rfl|rfl<;>refine⟨by simp,nQ,?_⟩
    .exact n' 0 _ Z
    .exact n' 1 _ Z
    .exact n' 2 _ Z
    .exact n' 3 _ Z
    .exact n' 4 _ Z))
  have z10:=p'.size;have o10:∀k,k<W.heap.size->k≠b.bl->k≠b.bu->k≠C->l'.heap[k]?=W.heap[k]?:=λk u y z R=>by
   have:=i' k u;rw[p'.old k Za (by simp;omega),o9 k this,o8 k u y z R]
  have u10:l'.heap[b.bu]?=w7.heap[b.bu]?:=by
   have:=i' _ (Zg h' P.sz);rw[p'.old _ Za (by simp;omega),o9 _ this,u8]
  have q':∀ {wi wj:Wd},Kq [(b.bl,0),(C,0),(t.heap.size,0)] wi wj->∀k,k<wi.heap.size->k≠b.bl->k≠C->k≠t.heap.size->wj.heap[k]?=wi.heap[k]?:=λq k u y z R=>q.old k u λj hj=>by
   have hj:j<3:=hj;cases j,(Za:j<3) using ia
   .exact aA y
   .exact aA z
   .exact aA R
  have l5:W.heap.size<=t.heap.size:=by have:=q6.size;have:=L7.size;have:=q8.size;omega
  have E':∀ {X:db} {wf:Wd},l'.heap.size<=wf.heap.size->(∀k,k<l'.heap.size->k≠b.bl->k≠C->k≠t.heap.size->wf.heap[k]?=l'.heap[k]?)->fx sft (pt κ w.heap.size (pN i p)) 1 w [(b.bl,0),(C,0),(t.heap.size,0)] (tZ b B.b n v e++[(2,0,ci T.kd),(2,1,ci T.A),(2,2,ci T.B),(2,3,ci e),(2,4,ci (if e=0 then v else 0))]) 123 ([(7,.c (.p 1 0)),(10,.c (.p 2 0))]++tg p b.bt) X wf->iv V main true sft Stop (G ((base 22).at X EY) (fr::S)) wf:=λ{X wf} hz hs Mf=>by
   have uf:wf.heap[b.bu]?=w7.heap[b.bu]?:=(hs _ (by have:=i' _ (Zg h' P.sz);omega) ul s' (by have:=i' _ (Zg h' P.sz);omega)).trans u10;refine hx X wf t.heap.size l5 Za (λk u y z R=>?_) (r7.of uf) (λq hq=>?_) Mf
   .have:=i' k u;rw[hs k Za y R Za,o10 k u y z R]
   .rw[Zf (w:=w7) uf];unfold pM;split
    .next e=>subst e;simpa[ou.den] using c7 0 _ Z
    .next e=>rw[o7 q (by simp;omega),cu];exact h.u q hq
  refine p8 200 3 [] M12 Z Z nQ λa13 w13 r' j'=>?_
  by_cases h0:e=0
  .refine oF r' Z (by simpa using h0)<|p8 200 3 [] r' Z Z nQ λa14 w14 x' o'=>E' (Zh j'.size o'.size) (λk u y z R=>(q' o' k (Zg u j'.size) y z R).trans (q' j' k u y z R)) ?_;rw[nT h0];exact x'.oH 3 [7,10,0,1,6] [(0,0),(0,1),(0,2),(0,3),(1,4),(1,5),(1,6),(2,0),(2,1),(2,2),(2,3),(2,4)] Z Z Z
  .refine oC r' Z (by simpa using h0)<|p8 200 3 [] r' Z Z nQ λa14 w14 x' o'=>E' (Zh j'.size o'.size) (λk u y z R=>(q' o' k (Zg u j'.size) y z R).trans (q' j' k u y z R)) ?_;rw[nR h0];exact x'.oH 3 [7,10,0,1,6] [(0,0),(0,1),(0,2),(0,3),(1,4),(1,5),(1,6),(2,0),(2,1),(2,2),(2,3),(2,4)] Z Z Z
variable{I:Wd}{v1:Int}{d':Nat}
def Zo:List bm:=match Tryz.f22.body with
 | some (.seq _ (.seq _ (.seq _ (.seq _ (.seq _ (.seq _ (.seq _ (.seq _ (.seq _ (.seq _ (.seq _ d)))))))))))=>[.code d]
 | _=>[]
theorem YP{wm L:Wd}{g p':Nat}{j':m7}(h:oM sft κ i w b B.b n F D N H)(hp:p<n)(P:pe sft κ i p w W b B r K T x6)(U':w.heap.size<=C)(V':W.heap.size<=d')(z9:W.heap.size<=I.heap.size)(o9:∀k,k<W.heap.size->k≠b.bl->k≠b.bu->k≠C->I.heap[k]?=W.heap[k]?)(r9:F3 sft I b.bu)(u9:∀q,q<n->I.cell? (O b.bu q Q)=J (Bo (pM F p Q q).isSome))(M:fx sft (pt κ w.heap.size (pN i p)) 1 w [(b.bl,0),(C,0),(d',0)] (tZ b B.b n v e++[(2,0,ci T.kd),(2,1,ci T.A),(2,2,ci T.B),(2,3,ci e),(2,4,ci v1)]) 123 ([(7,.c (.p 1 0)),(10,.c (.p 2 0))]++tg p b.bt) X I)(d9:I.heap[b.bd]?=w.heap[b.bd]?)(ol:∀g,(D p).ownBlock=J g->g<w.heap.size/\κ g=cB i (10+p)/\sft g=0)(om:∀k,k<I.heap.size->(D p).ownBlock≠J k->wm.heap[k]?=I.heap[k]?)(t':wm.ownsRow 0 92 5 (Sc (J (O g 0 Q)) (N p+1) p') (N p+1) (H p++pc T.kd T.A T.B e v1))(zm:I.heap.size<=wm.heap.size)(og:(D p).ownBlock=J g\/I.heap.size<=g)(g0:sft g=0)(k':oh sft [b.bd] wm L)(A':F3 sft L b.bd)(Y':L.cell? (O b.bd p Q)=J (Sc (J (O g 0 Q)) (N p+1) p'))(B':∀q,q≠p->L.cell? (O b.bd q Q)=wm.cell? (O b.bd q Q))(lv:qe 123 (qC [(b.bl,0),(C,0),(d',0)] j') u)(wf:∀x∈j',x.2.ok 3)(h7:tV j' 7=J (.c (.p 1 0)))(hx:∀w' l' t,oh sft (pt κ w.heap.size (pN i p)) w w'->(∀k,k<w.heap.size->l' k=κ k)->(∀k,w.heap.size<=k->l' k=0\/k<w'.heap.size/\pG i (l' k))->pT sft w' B r->oM sft l' i w' b B.b n (pM F p Q) (oy D p t) (oy N p (N p+1)) (oy H p (H p++pc T.kd T.A T.B e v1))->iv V main true sft Stop (G (fr.finish (.tuple #[Bo true,vi 0])) S) w'):iv V main true sft Stop (G ((base 22).at u Zo) (fr::S)) L:=by
 have n6:=h.n6;have P5:=P.sz;have q':=h.rd.1.lt;have u':(D p).ownBlock≠J b.bd:=λA=>qd (ol _ A).2.1 Za h.rd.2;have v':∀k,k<w.heap.size->k≠b.bl->∀j,j < [(b.bl,0),(C,0),(d',0)].length->(ox [(b.bl,0),(C,0),(d',0)] j).1≠k:=λk z hn j R=>by
  have R:j<3:=R;cases j,(Za:j<3) using ia
  .exact aA hn
  .show C≠k;omega
  .show d'≠k;omega
 have s11:=k'.size;have s9:=M.size;have o:∀k,k<I.heap.size->(D p).ownBlock≠J k->k≠b.bd->L.heap[k]?=I.heap[k]?:=λk z h1 h2=>(k'.old k Za (by simpa using h2)).trans (om k z h1);have dl:=p7 h.rd.2 h.rl.2 Za;have x':∀k,(D p).ownBlock=J k->k≠b.bl:=λk A e=>qd (ol k A).2.1 (y:=0) Za (by rw[e];exact h.rl.2);have F':fx sft (pt κ w.heap.size (pN i p)) 1 w [(b.bl,0),(C,0),(d',0)] (tZ b B.b n v e++[(2,0,ci T.kd),(2,1,ci T.A),(2,2,ci T.B),(2,3,ci e),(2,4,ci v1)]) 123 j' u L:=(M.to Za (λj R=>o _ (R7 M R) (λA=>v' _ (ol _ A).1 (x' _ A) j R Z) λe=>v' _ q' dl j R e) (λk z hn=>o k Za (λA=>hn (A9.2 ⟨z,sx.2 (by grind)⟩)) λe=>hn (A9.2 ⟨z,sx.2 (by rw[e,h.rd.2];simp)⟩)) k'.fit).re lv wf;have G':=F'.fewer (env':=[(7,.c (.p 1 0))]) (m':=[(1,4,.v (Bo true))]) (λx hx=>by cases Zi hx;exact xe h7) (λx hx=>by grind);refine p8 200 3 [] G' Z Z nQ λa13 a' r' y'=>B3 r' iJ Z Z Z ?_;have mv:∀k,k<L.heap.size->k≠b.bl->k≠C->k≠d'->a'.heap[k]?=L.heap[k]?:=λk z h1 h2 h3=>y'.old k z λj R=>by
  have R:j<3:=R;cases j,(Za:j<3) using ia
  .exact aA h1
  .exact aA h2
  .exact aA h3
 have n':∀k,k<w.heap.size->k≠b.bl->a'.heap[k]?=L.heap[k]?:=λk z h1=>mv k Za h1 Za Za;have I':=(j8 t' (g:=g) Z).2;have s':g≠b.bl/\g≠C/\g≠d'/\g≠b.bd:=by
  have l7:C<I.heap.size:=R7 M (i:=1) Zc;have l10:d'<I.heap.size:=R7 M (i:=2) Zc;have ll:=h.rl.1.lt;rcases og with A|A
  .have:=(ol g A).1;exact⟨x' g A,by omega,by omega,λe=>u' (by rw[A,e])⟩
  .exact⟨by omega,by omega,by omega,by omega⟩
 have eg:a'.heap[g]?=wm.heap[g]?:=(mv g Za s'.1 s'.2.1 s'.2.2.1).trans (k'.old g I' (by grind));have z':=P.rt.2.2;have et:a'.heap[b.bt]?=W.heap[b.bt]?:=by
  have tl:=p7 P.rt.2.1 h.rl.2 Za;rw[n' _ z' tl,o _ Za (λA=>qd (ol _ A).2.1 Za P.rt.2.1) (p7 P.rt.2.1 h.rd.2 Za),o9 _ Za tl (p7 P.rt.2.1 h.ru.2 Za) Za]
 have ct:=λo=>Zf (w:=W) (w':=a') (a:=(O b.bt o Q)) et;have eu:a'.heap[b.bu]?=I.heap[b.bu]?:=by
  have:=h.ru.1.lt;rw[n' _ this (p7 h.ru.2 h.rl.2 Za),o _ Za (λA=>qd (ol _ A).2.1 Za h.ru.2) (p7 h.ru.2 h.rd.2 Za)]
 have ed:a'.heap[b.bd]?=L.heap[b.bd]?:=n' _ q' dl;have cd:=λo=>Zf (w:=L) (w':=a') (a:=(O b.bd o Q)) ed;have em:wm.heap[b.bd]?=w.heap[b.bd]?:=(om _ Za u').trans d9;have tk:=P.tk _ (af _);have hB:∀k,B.is r k->a'.heap[k]?=W.heap[k]?:=λk z=>by
  let⟨c1,lt⟩:=P.Rc k z;have nl:∀ {y x:Nat},κ y=cB i x->k≠y:=λhy e=>sK hy (by grind);rw[n' k lt (nl h.rl.2),o k Za (λA=>sK (ol k A).2.1 c1) (nl h.rd.2),o9 k Za (nl h.rl.2) (nl h.ru.2) Za]
 have kk:∀k,k<w.heap.size->(if k<w.heap.size then κ k else if k=g then cB i (10+p) else 0)=κ k:=λk z=>nT z
 refine hx a' (λk=>if k<w.heap.size then κ k else if k=g then cB i (10+p) else 0) (Sc (J (O g 0 Q)) (N p+1) p') r'.hJ kk (λk z=>(by
  show(if k<w.heap.size then κ k else if k=g then cB i (10+p) else 0)=0\/_/\pG i (if k<w.heap.size then κ k else if k=g then cB i (10+p) else 0);rw[nR Za]
  by_cases e:k=g
  .rw[nT e];exact .inr ⟨by grind,rT Za⟩
  grind)) ⟨P.R.mem.same (by have:=y'.size;omega) λk _ z=>hB k z,λk z=>⟨by rw[hB k z];exact(P.R.row k z).1,(P.R.row k z).2⟩⟩ ?_
 refine h.next (p:=p) Za (λk z hI k1 k2 k3 k4 k5 _=>⟨kk k z,r'.old k z λhm=>?_⟩) ⟨P.rt.1.of et,(kk _ z').trans P.rt.2.1⟩ ⟨r9.of eu,(kk _ h.ru.1.lt).trans h.ru.2⟩ ⟨A'.of ed,(kk _ q').trans h.rd.2⟩ (λq hq=>(Zf (w:=I) (a:=(O b.bu q Q)) eu).trans (u9 q hq)) (λq hq=>?_) (λq j hq R i'=>(ct _).trans (P.ot _ Za)) (λj _ R=>?_) (λq hq i'=>⟨nR i',nR i',nR i',nR i'⟩) (λs _ hs=>?_) (λ_=>?_) λg' _ o'=>?_
 .have:=sx.1 (A9.1 hm).2;unfold pG at hI
  grind
 .rw[cd];unfold oy;split
  .grind
  .next e=>rw[B' q e,Zf (w:=w) em];exact h.d q hq
 .rw[ct];have e0:=tk.c0;have e1:=tk.c1;have e2:=tk.c2;have e4:=tk.c4;have e5:=tk.c5;have e7:=tk.c7;rw[P.tb.1,P.tb.2]at e0 e1 e2 e4 e5 e7
  match j,R with
  | 0,_=>grind
  | 1,_=>rw[e1];rfl
  | 2,_=>rw[e2];rfl
  | 3,_=>rw[P.c3];rfl
  | 4,_=>rw[e4];rfl
  | 5,_=>rw[e5];rfl
  | 6,_=>rw[P.c6];rfl
  | 7,_=>rw[e7];rfl
 .unfold pM at hs
  grind
 .simp only[oy,if_true];exact j5 t' λg' o'=>by obtain rfl:g=g':=Ze o';exact eg
 .simp only[oy,if_true]at o';obtain rfl:g=g':=Ze o';refine⟨?_,g0⟩;rcases og with A|A
  all_goals grind
theorem UJ(h:oM sft κ i w b B.b n F D N H)(hp:p<n)(hN:N p<=4398046511104)(P:pe sft κ i p w W b B r K T x6)(o':w.heap.size<=C)(p':W.heap.size<=d')(z9:W.heap.size<=I.heap.size)(o9:∀k,k<W.heap.size->k≠b.bl->k≠b.bu->k≠C->I.heap[k]?=W.heap[k]?)(r9:F3 sft I b.bu)(u9:∀q,q<n->I.cell? (O b.bu q Q)=J (Bo (pM F p Q q).isSome))(M:fx sft (pt κ w.heap.size (pN i p)) 1 w [(b.bl,0),(C,0),(d',0)] (tZ b B.b n v e++[(2,0,ci T.kd),(2,1,ci T.A),(2,2,ci T.B),(2,3,ci e),(2,4,ci v1)]) 123 ([(7,.c (.p 1 0)),(10,.c (.p 2 0))]++tg p b.bt) X I)(hx:∀w' i' t,oh sft (pt κ w.heap.size (pN i p)) w w'->(∀k,k<w.heap.size->i' k=κ k)->(∀k,w.heap.size<=k->i' k=0\/k<w'.heap.size/\pG i (i' k))->pT sft w' B r->oM sft i' i w' b B.b n (pM F p Q) (oy D p t) (oy N p (N p+1)) (oy H p (H p++pc T.kd T.A T.B e v1))->iv V main true sft Stop (G (fr.finish (.tuple #[Bo true,vi 0])) S) w'):iv V main true sft Stop (G ((base 22).at X EY) (fr::S)) I:=by
 have n6:=h.n6;have q':=h.rd.1.lt;have l':∀k,k<w.heap.size->κ k≠1->κ k≠cB i 0->κ k≠cB i 1->κ k≠cB i 2->κ k≠cB i (20+p)->I.heap[k]?=w.heap[k]?:=λk A h1 h0 h2 h3 h4=>by
  rw[o9 k (Zg A P.sz) (λe=>h0 (by rw[e];exact h.rl.2)) (λe=>h3 (by rw[e];exact h.ru.2)) Za,P.old k A h1 h2 h4]
 have d9:I.heap[b.bd]?=w.heap[b.bd]?:=l' _ q' (sK h.rd.2) (qd h.rd.2 Za) (qd h.rd.2 Za) (qd h.rd.2 Za) (qd h.rd.2 Za);have cd:=λo=>Zf (w:=w) (w':=I) (a:=(O b.bd o Q)) d9;have r':I.ownsRow 0 92 5 (D p) (N p) (H p):=j5 (h.own p hp) λg x=>by
  have hc:=(h.od p g hp x).1;exact l' g (j8 (h.own p hp) x).2 (sK hc) (qd hc Za) (qd hc Za) (qd hc Za) (qd hc Za)
 have ol:∀g,(D p).ownBlock=J g->g<w.heap.size/\κ g=cB i (10+p)/\sft g=0:=λg x=>⟨(j8 (h.own p hp) x).2,h.od p g hp x⟩
 have s':∀k,k<w.heap.size->k≠b.bl->∀j,j < [(b.bl,0),(C,0),(d',0)].length->(ox [(b.bl,0),(C,0),(d',0)] j).1≠k:=λk A L j hj=>by
  have hj:j<3:=hj;have:=P.sz;cases j,(Za:j<3) using ia
  .exact aA L
  .show C≠k;omega
  .show d'≠k;omega
 have Mr:=M.oo.pI (W':=[C,d']++(D p).ownBlock.toList) λk A=>fP _ A;generalize j':I.alloc (.cells (pc T.kd T.A T.B e v1).toArray 92 (0,0))=f';have h':oh sft [] I f':=by rw[←j'];exact oh.alloc M.fit _
 have t':f'.heap[I.heap.size]?=J (.cells (pc T.kd T.A T.B e v1).toArray 92 (0,0)):=by rw[←j'];exact cE _ _
 have U':f'.heap.size=I.heap.size+1:=by rw[←j'];simp
 have k':=Mr.still h';have u':∀ {w':Wd} {g y:Nat},Pu sft f' w' (D p) (N p+1) (H p++pc T.kd T.A T.B e v1) g y->fx sft ([C,d']++(D p).ownBlock.toList) 1 I [(b.bl,0),(C,0),(d',0)] (tZ b B.b n v e++[(2,0,ci T.kd),(2,1,ci T.A),(2,2,ci T.B),(2,3,ci e),(2,4,ci v1)]) 123 ([(7,.c (.p 1 0)),(10,.c (.p 2 0))]++tg p b.bt) X w':=λ{w' g y} u=>k'.to u.size (λj hj=>u.old _ (R7 k' hj) λx=>s' _ (ol _ x).1 (λe=>qd (ol _ x).2.1 (y:=0) Za (by rw[e];exact h.rl.2)) j hj Z) (λk A L=>u.old k (Zg A k'.size) λx=>L (cN _ (by rw[x];simp))) u.fit;refine vz [(13,Q),(14,Q),(16,Q)] [[D p]] true (λs xs v' w'=>v'=[(b.bl,0),(C,0),(d',0)]/\((s=0/\w'=I)\/(s=1/\w'=f'/\xs 0=J (.c (.v (Sc (J (O I.heap.size 0 Q)) 1 1))))\/(s=2/\∃g y,Pu sft f' w' (D p) (N p+1) (H p++pc T.kd T.A T.B e v1) g y/\xs 1=J (.c (.v (Sc (J (O g 0 Q)) (N p+1) y))))\/(s=3/\∃g y wm,Pu sft f' wm (D p) (N p+1) (H p++pc T.kd T.A T.B e v1) g y/\oh sft [b.bd] wm w'/\F3 sft w' b.bd/\w'.cell? (O b.bd p Q)=J (Sc (J (O g 0 Q)) (N p+1) y)/\∀q,q≠p->w'.cell? (O b.bd q Q)=wm.cell? (O b.bd q Q)))) Mr Z (λ_=>rfl) (λ_=>by kernel_rfl) Z Zd ⟨⟨⟨nQ,by omega⟩,?_⟩,by omega⟩ (λs xs n' w' a' V' z h1 h2=>?_) ⟨Z,.inl ⟨Z,Z⟩⟩ (λs j g R xs o a' w' n' W' ho z Ma rd L=>?_) λxs n' X' Y' z x' y'=>?_
 .refine⟨by grind,?_,by simpa using(cd p).trans (h.d p hp)⟩;show b.bd∉[C,d']++(D p).ownBlock.toList;have:=P.sz;intro hm;rcases cz.1 hm with hm|hm
  .grind
  .cases ho:(D p).ownBlock with
   | none=>grind
   | some g =>
    rw[ho]at hm;obtain rfl:=Zi hm;exact qd (ol _ ho).2.1 Za h.rd.2
 .obtain⟨he,z⟩:=z;obtain rfl:=Zk he;rcases z with⟨_,rfl⟩|⟨_,rfl,_⟩|⟨_,g,y,u,_⟩|⟨rfl,_⟩
  .exact Mr.bare h1 h2
  .exact k'.bare h1 h2
  .exact(u' u).bare h1 h2
  grind
 .obtain⟨he,z⟩:=z;obtain rfl:=Zk he;have tw:w.heap.size<=I.heap.size:=M.size
  match s,R with
  | 0,R =>
   obtain⟨rfl,rfl⟩:=ax (Ze R);rcases z with⟨_,rfl⟩|⟨h,_⟩|⟨h,_⟩|⟨h,_⟩
   case inr.inl=>cases h
   case inr.inr.inl=>cases h
   case inr.inr.inr=>cases h
   obtain rfl:=Ze ho;refine Ep (cells:=pc T.kd T.A T.B e v1) CK ⟨by simp[pc],by simp[pc]⟩ Z Z Z (rd _ _ Z) Z ?_;rw[j'];exact L [] f' (J (.c (.v (Sc (J (O w'.heap.size 0 Q)) 1 1)))) ⟨by simp,.inr (.inl ⟨Z,Z,Z⟩)⟩ (.inl Z) (λsv h=>by obtain rfl:=Ze h;trivial)
  | 1,R =>
   obtain⟨rfl,rfl⟩:=ax (Ze R);rcases z with⟨h,_⟩|⟨_,rfl,hx0⟩|⟨h,_⟩|⟨h,_⟩
   case inl=>cases h
   case inr.inr.inl=>cases h
   case inr.inr.inr=>cases h
   obtain rfl:=Ze ho;have z':∀g,(D p).ownBlock=J g->w'.heap[g]?=I.heap[g]?:=λg x=>h'.old g (by have:=(ol g x).1;omega) Zc;refine Cs (V:=D p) (cells:=pc T.kd T.A T.B e v1) CK Z (λu hu=>?_) Za (Hj hN) Z Z Z (rd (.tmp 116) (.c (.v (D p))) Z) (rd (.tmp 118) _ hx0) t' (M.new _ M.size) (j5 r' z') (λg x=>(ol g x).2.2) (bh _) h'.fit (λk A=>M.new k Za) λg y w2 q1 q2 q3 q4 q5 q6=>?_
   .simp only[pc,ae,ai,or_false]at hu;rcases hu with rfl|rfl|rfl|rfl|rfl<;>rfl
   .exact L [] w2 (J (.c (.v (Sc (J (O g 0 Q)) (N p+1) y)))) ⟨by simp,.inr (.inr (.inl ⟨Z,g,y,⟨q1,q2,q3,q4,q5.imp_right (·.1),q6⟩,Z⟩))⟩ (.inl Z) (λsv h=>by obtain rfl:=Ze h;trivial)
  | 2,R =>
   obtain⟨rfl,rfl⟩:=ax (Ze R);rcases z with⟨h,_⟩|⟨h,_⟩|⟨_,g,y,u,G'⟩|⟨h,_⟩
   case inl=>cases h
   case inr.inl=>cases h
   case inr.inr.inr=>cases h
   obtain rfl:=Ze ho;have H':(D p).ownBlock≠J b.bd:=λx=>qd (ol _ x).2.1 Za h.rd.2;have dw:w'.heap[b.bd]?=w.heap[b.bd]?:=by rw[u.old _ Za H',h'.old _ Za Zc,d9]
   obtain⟨c0,t0,I'⟩:=(h.rd.1.of dw).1;refine wN (b:=b.bd) (p:=p) (cells:=[Sc (J (O g 0 Q)) (N p+1) y]) Ma.lv Z Z Z Z I' h.rd.1.2 Ma.fit ((rd (.tmp 120) _ Z).trans (by simp[Sv.den,ou.den])) (rd (.tmp 119) _ G') Z Z (λv hv=>?_) (λq hq=>?_) λw2 s1 s2 s3 s4 s5 s6=>?_
   .obtain rfl:=Zi hv;rfl
   .obtain rfl:q=0:=Zm hq;rw[Zf (w:=w) dw,kH,h.d p hp];rfl
   .exact L [] w2 Q ⟨by simp,.inr (.inr (.inr ⟨Z,g,y,w',u,⟨by omega,λk _ A=>s2 k (by simpa using A),s6⟩,⟨s3,h.rd.1.2⟩,s4 0 _ Z,λq hq=>s5 q (by simp;omega)⟩))⟩ (.inl Z) (λsv h=>by cases h)
  | s+3,R=>simp at R
 .obtain⟨he,z⟩:=z;obtain rfl:=Zk he;rcases z with⟨h,_⟩|⟨h,_⟩|⟨h,_⟩|⟨_,g,y,wm,u,P',Q',R',S'⟩
  .cases h
  .cases h
  .cases h
  exact YP h hp P o' p' z9 o9 r9 u9 M d9 ol (λk A L=>by rw[u.old k Za L,h'.old k A Zc]) u.row (by have:=u.size;omega) (u.og.imp_right λh=>by omega) u.g0 P' Q' R' S' x' y' Z hx
theorem Dz(h:oM sft κ i w b B.b n F D N H){ρ:oN}{m:Mem}{b':m7}{g:Wd}(o:p<n)(M:fx sft (pt κ w.heap.size (pN i p)) 1 w ρ m 123 b' X g):g.heap[b.bl]?=w.heap[b.bl]?:=M.old _ h.rl.1.lt λj=>by
 have:=sx.1 (A9.1 j).2;rw[h.rl.2]at this
 grind
theorem pe.tp(P:pe sft κ i p w W b B r K T x6){j:Nat}(u:j<8):(W.cell? (O b.bt (p*8+j) Q)).isSome=true:=by
 have g:=P.tk _ (af _);have x:=g.c0;have h:=g.c1;have o:=g.c2;have q:=g.c4;have s:=g.c5;have t:=g.c7;rw[P.tb.1,P.tb.2]at x h o q s t
 match j,u with
 | 0,_=>grind
 | 1,_=>rw[h];rfl
 | 2,_=>rw[o];rfl
 | 3,_=>rw[P.c3];rfl
 | 4,_=>rw[q];rfl
 | 5,_=>rw[s];rfl
 | 6,_=>rw[P.c6];rfl
 | 7,_=>rw[t];rfl
theorem pe.step{g:Wd}(h:oM sft κ i w b B.b n F D N H)(o:p<n)(P:pe sft κ i p w W b B r K T x6)(t:tt w T [C]){m m':Mem}{b' c':m7}{u:db}{ρ x:oN}(M:fx sft (pt κ w.heap.size (pN i p)) 1 w ρ m 123 b' X W)(y:fx sft (pt κ w.heap.size (pN i p)) 1 w x m' 123 c' u g)(q:Kq [(b.bl,0),(C,0)] W g):pe sft κ i p w g b B r K T x6 :=
 P.move [C] t h.rl.2 q.size (λk z A L=>q.old k z λj s=>by
  have s:j<2:=s;obtain rfl|rfl:j=0\/j=1:=by omega
  .exact aA A
  .show C≠k
   grind) ((Dz h o y).trans (Dz h o M).symm)
theorem YV(h:oM sft κ i w b B.b n F D N H)(y:p<n)(i':(F p).isSome=true)(P:pe sft κ i p w W b B r K T x6)(h7:tt w T [C])(M:fx sft (pt κ w.heap.size (pN i p)) 1 w [(b.bl,0),(C,0)] (ti b B.b n++[(1,4,.v b0)]) 123 ([(7,.c (.p 1 0)),(85,.c (.v (Bo false)))]++tg p b.bt) X W)(hx:∀w' x,oh sft (pt κ w.heap.size (pN i p)) w w'->(∀k,k<w.heap.size->x k=κ k)->(∀k,w.heap.size<=k->x k=0\/k<w'.heap.size/\pG i (x k))->pT sft w' B r->oM sft x i w' b B.b n (pM F p (J (.begun T))) D N H->iv V main true sft Stop (G (fr.finish (.tuple #[Bo false,vi 0])) S) w'):iv V main true sft Stop (G ((base 22).at X Fc) (fr::S)) W:=by
 have n6:=h.n6;refine oC M Z Z<|p8 200 2 [] M Z Z nQ λa6 A M6 q6=>?_;have o:=P.step h y h7 M M6 q6;refine B3 M6 iJ Z Z Z ?_;generalize L:(λk=>if k<w.heap.size then κ k else if k=T.gF\/k=T.gS then cB i (30+p) else if T.L.ownBlock=J k then cB i (20+p) else 0)=x;have z:∀k,k<w.heap.size->x k=κ k:=λk h=>by grind
 have eu:A.heap[b.bu]?=w.heap[b.bu]?:=o.old _ h.ru.1.lt (sK h.ru.2) (qd h.ru.2 Za) (qd h.ru.2 Za);have ed:A.heap[b.bd]?=w.heap[b.bd]?:=o.old _ h.rd.1.lt (sK h.rd.2) (qd h.rd.2 Za) (qd h.rd.2 Za);have sn:∀k,Sn κ i p w A k->k=T.gF\/k=T.gS->x k=cB i (30+p):=λk R ho=>by
  rcases R with⟨lt,e⟩|⟨ge,_⟩
  all_goals grind
 have nk:∀k,w.heap.size<=k->x k=0\/k<A.heap.size/\pG i (x k):=λk h0=>by
  rw[←L];show(if _ then _ else _)=_\/_/\pG i (if _ then _ else _);rw[nR Za]
  by_cases e:k=T.gF\/k=T.gS
  .rw[nT e];refine .inr ⟨?_,rT Za⟩;have t:=o.tk _ (af _);rcases e with e|e
   .rw[e];exact t.fl.1
   .rw[e];exact t.sl.1
  .rw[nR e]
   by_cases e2:T.L.ownBlock=J k
   .rw[nT e2];exact .inr ⟨(j8 o.L e2).2,rT Za⟩
   grind
 refine hx A x M6.hJ z nk o.R (h.next (p:=p) Za (λk L hI k1 _ _ _ k5 _=>⟨z k L,o.old k L (λe=>by unfold pG at hI;omega) k1 k5⟩) ⟨o.rt.1,(z _ o.rt.2.2).trans o.rt.2.1⟩ ⟨h.ru.1.of eu,(z _ h.ru.1.lt).trans h.ru.2⟩ ⟨h.rd.1.of ed,(z _ h.rd.1.lt).trans h.rd.2⟩ (λq hq=>?_) (λq hq=>(Zf (w:=w) (a:=(O b.bd q Q)) ed).trans (h.d q hq)) (λq j hq hj h'=>o.ot _ Za) (λj _ hj=>o.tp hj) (λq hq h'=>⟨nR h',Z,Z,Z⟩) (λs _ R=>?_) (λ_=>j5 (h.own p y) λg u=>o.old g (j8 (h.own p y) u).2 (sK (h.od p g y u).1) (qd (h.od p g y u).1 Za) (qd (h.od p g y u).1 Za)) λg _ u=>⟨(z g (j8 (h.own p y) u).2).trans (h.od p g y u).1,(h.od p g y u).2⟩)
 .rw[Zf (w:=w) eu,h.u q hq];unfold pM
  grind
 .unfold pM at R;rw[nT Z]at R;cases Ze R;refine⟨o.kd,o.tb.1,o.tb.2,o.c3,by rw[o.c6];rfl,o.tk,o.L,sn _ o.sF (.inl Z),sn _ o.sS (.inr Z),λg u=>⟨?_,(o.Lc g u).1⟩⟩;rcases(o.Lc g u).2.1 with⟨lt,e⟩|ge
  .exact(z _ lt).trans e
  .rw[←L];show(if _ then _ else _)=_;rw[nR Za,nR λh=>h.elim (o.Lc g u).2.2.1 (o.Lc g u).2.2.2,nT u]
theorem VC{g:Out}{Ls:List (Int×Int)}(h:oM sft κ i w b B.b n F D N H)(s:p<n)(j':(F p).isSome=true)(hN:N p<=4398046511104)(P:pe sft κ i p w W b B E g.K T x6)(hr:E.nD=r.nD)(hL:T.Ls=Ls++[(g.n,g.e)])(n3:pV Ls)(t:tt w T [C])(M:fx sft (pt κ w.heap.size (pN i p)) 1 w [(b.bl,0),(C,0)] (ti b B.b n++[(1,0,.v i0),(1,1,.v i0),(1,2,.v i0),(1,3,.v i0),(1,4,.v (Bo true)),(1,5,.v i0),(1,6,ci g.e)]) 123 ([(7,.c (.p 1 0)),(80,.c (.v (Bo (g.e != 3))))]++tg p b.bt) X W)(q:∀x w',zB sft κ i w b B r n F D N H p T.kd T.A T.B T.K Ls g x w'->iv V main true sft Stop (G (fr.finish x) S) w'):iv V main true sft Stop (G ((base 22).at X OY) (fr::S)) W:=by
 have k':=(t C Zc).1;have i':∀ {v e:Int} {X:db} {A:Wd},sj T.K p T.kd T.A T.B T.Ls g.e=J (if e=0 then v else 0,e)->pe sft κ i p w A b B E g.K T x6->fx sft (pt κ w.heap.size (pN i p)) 1 w [(b.bl,0),(C,0)] (tZ b B.b n v e) 123 ([(7,.c (.p 1 0)),(85,.c (.v (Bo true)))]++tg p b.bt) X A->iv V main true sft Stop (G ((base 22).at X Fc) (fr::S)) A:=λ{v e X A} ho P M =>
  c5s h s P t M λX I d' l' z9 o9 r9 u9 u=>UJ h s hN P k' l' z9 o9 r9 u9 u λw' h' j L k nk R RL=>q _ _ ⟨L,h',E,k,nk,R,P.k.u,hr,by
   grind⟩
 by_cases h3:g.e=3
 .refine oC M Z (by simp[h3])<|p8 200 2 [] M Z Z nQ λa6 A o q6=>i' (v:=0) (e:=g.e) ?_ (P.step h s t M o q6) (o.oH 2 [7,85,0,1,6] [(0,0),(0,1),(0,2),(0,3),(1,4),(1,5),(1,6)] Z Z Z);unfold sj
  grind
 .refine oF M Z (by simp[h3])<|p8 200 2 [] M Z Z nQ λa6 A o q6=>?_;have P6:=P.step h s t M o q6;have n':pV T.Ls:=λx q=>by
   rw[hL]at q;rcases cz.1 q with q|q
   .exact n3 x q
   grind
  have hn:=NR (main:=main) P6.tk n' o.fit (λk hk=>o.new k (Zh o.size hk)) P6.pS P6.kd;rw[P6.tb.1,P6.tb.2]at hn;refine A4 o hn Z Z Z dB Z Z Z Z Z λx w7 y=>?_;let⟨L7,y⟩:=y;have P7:=P6.move [] (by simp[tt]) h.rl.2 L7.size (λk hk _ _=>L7.old k hk Zc) (L7.old _ (Zg h.rl.1.lt o.size) Zc);rcases hR:rE T.K p T.kd T.A T.B false T.Ls with nd|⟨z,go,o'⟩
  .rw[hR]at y
   cases nd with
   | done _ _=>exact y.elim
   | call l a c d =>
    cases y;refine E7 (o.still L7) 2 (.g [ci l,ci a,ci c,ci d,.v b0,.v i0,.v i0]) Z Z Z Z Z λa8 M8=>p8 200 2 [] M8 Z Z nQ λa9 I u q9=>YV h s j' (P7.step h s t M8 u q9) t (u.oH 2 [7,85,0,1,6] [(0,0),(0,1),(0,2),(0,3),(1,4)] Z Z Z) λw' h' L k nk R RL=>q _ _ ⟨L,h',E,k,nk,R,P.k.u,hr,?_⟩;have ho:sj T.K p T.kd T.A T.B T.Ls g.e=none:=by
     unfold sj Ad Go.Proofs.YtcgabodkegcpgaaGreatDoor.M.then;rw[nR h3,hR]
    grind
  .rw[hR]at y;cases y;refine E7 (o.still L7) 2 (.g [.v i0,.v i0,.v i0,.v i0,.v (Bo true),ci z.1,ci z.2]) Z Z Z Z Z λa8 M8=>p8 200 2 [] M8 Z Z nQ λa9 I u q9=>i' (v:=z.1) (e:=z.2) ?_ (P7.step h s t M8 u q9) (u.oH 2 [7,85,0,1,6] [(0,0),(0,1),(0,2),(0,3),(1,4),(1,5),(1,6)] Z Z Z);unfold sj Ad Go.Proofs.YtcgabodkegcpgaaGreatDoor.M.then;rw[nR h3,hR]
def pU.K0(K:aa):pU->aa
 | .fresh _ _ _=>K
 | .begun T=>T.K
def pU.kd:pU->Int
 | .fresh k _ _=>k
 | .begun T=>T.kd
def pU.A:pU->Int
 | .fresh _ a _=>a
 | .begun T=>T.A
def pU.Bb:pU->Int
 | .fresh _ _ b=>b
 | .begun T=>T.B
def pU.Ls:pU->List (Int×Int)
 | .fresh _ _ _=>[]
 | .begun T=>T.Ls
def d1j:List bm:=match Tryz.f22.body with
 | some (.seq _ (.seq _ (.seq _ (.seq _ (.seq (.seq _ c) d)))))=>[.code c,.code d]
 | _=>[]
theorem pT.keep(R:pT sft w B r)(h:∀k,B.is r k->w'.heap[k]?=w.heap[k]?):pT sft w' B r:=⟨R.mem.wL λk _ g=>h k g,λk g=>⟨by rw[h k g];exact(R.row k g).1,(R.row k g).2⟩⟩
theorem pT.lt(R:pT sft w B r){k:Nat}(g:B.is r k):k<w.heap.size:=by
 let⟨⟨c,t,f,h⟩,_⟩:=R.row k g
 grind
theorem TS{Bq:Int}(t:oM sft κ i w b B.b n F D N H)(hp:p<n)(ht:F p=J (.fresh g h Bq))(R:pT sft w B r)(Rc:∀j,B.is r j->κ j=1)(k:wH K r)(hF:1<=K.nF/\K.nF<=32)(hS:p<K.nS)(ew:∀k,k<w.heap.size->w1.heap[k]?=w.heap[k]?)(M:fx sft (pt κ w.heap.size (pN i p)) 1 w [(b.bl,0)] (ti b B.b n) 123 (tg p b.bt++[(37,.c (.v (Bo true)))]) X w1)(hx:∀X I T x6,T.K=K->T.kd=g->T.A=h->T.B=Bq->T.Ls=[]->pe sft κ i p w I b B r K T x6->fx sft (pt κ w.heap.size (pN i p)) 1 w [(b.bl,0)] (ti b B.b n) 123 (tg p b.bt) X I->iv V main true sft Stop (G ((base 22).at X Fq) (fr::S)) I):iv V main true sft Stop (G ((base 22).at X d1j) (fr::S)) w1:=by
 have n6:=t.n6;have h':=t.rt.1.lt;have tl:=p7 t.rt.2 t.rl.2 Za;have u:∀k:Nat,k≠b.bl->∀j,j < [(b.bl,0)].length->(ox [(b.bl,0)] j).1≠k:=λk s j y=>by
  obtain rfl:j=0:=Zm y;exact aA s
 have tm:b.bt∈pt κ w.heap.size (pN i p):=A9.2 ⟨h',sx.2 (.inr (.inl t.rt.2))⟩;let⟨r',n'⟩:=t.tk p _ hp ht;refine oF M Z Z<|p8 200 1 [] M Z Z nQ λa2 w2 M2 q2=>?_;have e2:∀k,k<w.heap.size->k≠b.bl->w2.heap[k]?=w.heap[k]?:=λk s hn=>(q2.old k (Zg s M.size) (u k hn)).trans (ew k s);have t2:=e2 _ h' tl;refine yI M2 Z Z Z Z Z Z Z Z Z (t.rt.1.of t2) (.inl tm) (u _ tl) (λq P=>?_) λw3 L3 r3 c3 o3 M3=>?_
 .obtain rfl:q=0:=Zm P;rw[Zf (w:=w) t2,n' 3 _ Z];rfl
 refine p8 200 1 [] M3 Z Z nQ λa4 w4 A q4=>?_;have e4:∀k,k<w.heap.size->k≠b.bl->k≠b.bt->w4.heap[k]?=w.heap[k]?:=λk s hn ht=>by
  rw[q4.old k (Zg s M3.size) (u k hn),L3.old k (Zg s M2.size) (by simpa using ht),e2 k s hn]
 have eB:∀k,B.is r k->k≠b.bl/\k≠b.bt:=λk s=>⟨λe=>sK t.rl.2 (by rw[←e];exact Rc k s),λe=>sK t.rt.2 (by rw[←e];exact Rc k s)⟩
 have R4:pT sft w4 B r:=R.keep λk s=>e4 k (R.lt s) (eB k s).1 (eB k s).2;refine A4 A (Py A.fit (λk s=>A.new k (Zh A.size s)) R4 k) Z Z Z Tryz.func45 Z Z Z Z Z λx W P=>?_;obtain⟨L5,bo,L,z,rfl,T5,g5⟩:=P;refine E7 (A.still L5) 1 (.g [.v (.slice (bo 0) K.nF (z 0)),.v (.slice (bo 1) K.nS (z 1)),.v (.slice (bo 2) K.nD (z 2))]) Z Z Z Z Z λa6 M6=>p8 200 1 [] M6 Z Z nQ λa7 w7 M7 q7=>?_;have t4:w4.heap[b.bt]?=w3.heap[b.bt]?:=q4.old _ r3.lt (u _ tl);have t7:w7.heap[b.bt]?=w3.heap[b.bt]?:=by
  have:=Zg h' A.size;rw[q7.old _ (Zg this L5.size) (u _ tl),L5.old _ this Zc,t4]
 have j':=λo=>Zf (w:=w3) (w':=w7) (a:=(O b.bt o Q)) t7;have o':=λo=>Zf (w:=w) (w':=w2) (a:=(O b.bt o Q)) t2;have k':∀j v,j≠3->[vi g,vi h,vi Bq,b0,s0,s0,s0,s0][j]?=J v->w7.cell? (O b.bt (p*8+j) Q)=J v:=λj v y hv=>by
  rw[j',o3 _ (by simp;omega),o'];exact n' j v hv
 refine yI M7 Z Z Z Z Z Z Z Z Z (r3.of t7) (.inl tm) (u _ tl) (λq P=>?_) λw8 L8 r8 c8 o8 M8=>?_
 .have P:q<3:=P;cases q,(Za:q<3) using ia
  .rw[k' 4 _ Za Z];rfl
  .rw[show p*8+4+1=p*8+5 by omega,k' 5 _ Za Z];rfl
  .rw[show p*8+4+2=p*8+6 by omega,k' 6 _ Za Z];rfl
 refine p8 1 1 [] M8 Z Z nQ λa9 I M9 q9=>?_;have t9:I.heap[b.bt]?=w8.heap[b.bt]?:=q9.old _ r8.lt (u _ tl);have l':=λo=>Zf (w:=w8) (w':=I) (a:=(O b.bt o Q)) t9;have i':∀j v,j≠3->j≠4->j≠5->j≠6->[vi g,vi h,vi Bq,b0,s0,s0,s0,s0][j]?=J v->I.cell? (O b.bt (p*8+j) Q)=J v:=λj v h3 h4 h5 h6 hv=>by
  grind
 let⟨C',f0,x0⟩:=T5 0 Za (by simp[qO];omega);let⟨F',f1,x1⟩:=T5 1 Za (by simp[qO];omega);have V':=g5 0 Za (by simp[qO];omega);have W':=g5 1 Za (by simp[qO];omega);have s5:=Zh A.size L5.size;have s9:W.heap.size<=I.heap.size:=by have:=q7.size;have:=L8.size;have:=q9.size;omega
 have p':∀k,w.heap.size<=k->k<W.heap.size->I.heap[k]?=W.heap[k]?:=λk h1 h2=>by
  have hl:=t.rl.1.lt;rw[q9.old k (by have:=q7.size;have:=L8.size;omega) (u k Za),L8.old k (by have:=q7.size;omega) (by simp;omega),q7.old k h2 (u k Za)]
 have w04:=A.size;have I':=p' (L 0) Za f0;have J':=p' (L 1) Za f1;have cc:∀q c,[ou.v (.slice (bo 0) K.nF (z 0)),.v (.slice (bo 1) K.nS (z 1)),.v (.slice (bo 2) K.nD (z 2))][q]?=J c->I.cell? (O b.bt (p*8+4+q) Q)=J (c.den [(b.bl,0)]):=λq c hc=>(l' _).trans (c8 q c hc);refine hx a9 I ⟨b.bt,p*8,g,h,Bq,K,L 0,z 0,L 1,z 1,0,Q,0,[]⟩ (.slice (bo 2) K.nD (z 2)) Z Z Z Z Z ⟨λbb hb=>?_,⟨Z,Z⟩,r',?_,?_,λq P=>?_,⟨r8.of t9,t.rt.2,h'⟩,λk h1 h2 h3 h4=>?_,?_,λg' L'=>(by cases L'),.inr ⟨by grind,by show L 0<_;omega⟩,.inr ⟨by grind,by show L 1<_;omega⟩,hS,by omega,M9.size,?_,λj y=>⟨Rc j y,R.lt y⟩,k⟩ (M9.oH 1 [0,1,6] [(0,0),(0,1),(0,2),(0,3)] Z Z Z)
 .refine⟨(r8.of t9).1,t.rt.1.2,by grind,i' 0 _ Za Za Za Za Z,i' 1 _ Za Za Za Za Z,i' 2 _ Za Za Za Za Z,?_,?_,i' 7 _ Za Za Za Za Z,λM'=>absurd Z M',λj n e y=>(by cases y),by simp,⟨by show L 0<_;omega,by grind⟩,λj y=>?_,⟨by show L 1<_;omega,by grind⟩,λj y q v hv=>?_,k.i.mL,hF.2,k.i.hS⟩
  .have:=cc 0 _ Z;rw[C']at this;exact this
  .have:=cc 1 _ Z;rw[F']at this;exact this
  .refine(Zf (w:=W) I').trans ((x0 j y 0 (U8 K (j*6+0)) Z).trans ?_);unfold U8;rw[show(j*6+0) / 6=j by omega,show(j*6+0)%6=0 by omega]
  .refine(Zf (w:=W) J').trans (x1 j y q v ?_);rw[←DW]at hv;exact hv
 .rw[l',o8 _ Zc,j'];simpa[ou.den] using c3 0 _ Z
 .exact cc 2 _ Z
 .rw[l',o8 q (by simp;omega),j',o3 q (by simp;omega),o']
 .by_cases e:k=b.bl
  .subst e;exact Dz t hp M9
  .rw[q9.old k (by have:=L8.size;have:=M7.size;omega) (u k e),L8.old k (by have:=M7.size;omega) (by simp;exact λe=>h3 (e▸t.rt.2)),q7.old k Za (u k e),L5.old k Za Zc,e4 k h1 e λe=>h3 (e▸t.rt.2)]
 .exact dh _ _ _ _
 .refine R4.keep λk s=>?_;have lt:=R.lt s;rw[q9.old k (by have:=L8.size;have:=M7.size;omega) (u k (eB k s).1),L8.old k (by have:=M7.size;omega) (by grind),q7.old k Za (u k (eB k s).1),L5.old k Za Zc]
theorem FH(h:oM sft κ i w b B.b n F D N H)(l':Fit sft w)(n':∀k,w.heap.size<=k->sft k=0)(R:pT sft w B r)(Rc:∀j,B.is r j->κ j=1)(k:wH K r)(hF:1<=K.nF/\K.nF<=32)(s:Int)(hc:∀(p:Nat) t,s=p->p<n->F p=J t->p<(t.K0 K).nS/\N p<=4398046511104/\pV t.Ls/\t.Ls.length<7036874417568/\∃l a c d,rE (t.K0 K) p t.kd t.A t.Bb false t.Ls=.inl (.call l a c d)/\-9223372036854775808<=l/\l<9223372036854775808) :
  py main sft 22 #[Po (J (O b.bl 0 Q)),vi s] w λx w'=>(oZ s n=false/\x=.tuple #[Bo false,vi 3]/\oh sft [] w w')\/∃p:Nat,s=p/\p<n/\((F p=Q/\x=.tuple #[Bo false,vi 11]/\oh sft [] w w')\/∃t l a c d,F p=J t/\rE (t.K0 K) p t.kd t.A t.Bb false t.Ls=.inl (.call l a c d)/\zB sft κ i w b B r n F D N H p t.kd t.A t.Bb (t.K0 K) t.Ls (d8 K p l a c d) x w'):=by
 refine y7 (sz:=123) (ρ:=[(b.bl,0)]) [.c (.p 0 0),.c (ci s)] (h.pc l' n' []) (λs hs=>?_) iJ Z Z Z λStop fr S X M hx=>?_
 .simp only[ae,ai,or_false]at hs;rcases hs with rfl|rfl<;>first|trivial|exact eP
 refine iN 100 1 [] M Z Z nQ λa1 w1 M1=>A4 M1 (En M1.fit s n) Z Z Z gy Z Z Z Z Z λx w2 hq=>?_;obtain⟨rfl,L2⟩:=hq;refine E7 (M1.still L2) 1 (.c (.v (Bo (oZ s n)))) Z Z Z Z Z λa3 M3=>iN 100 1 [] M3 Z Z nQ λa4 w4 M4=>?_
 cases hb:oZ s n with
 | false =>
  refine oF M4 Z (by rw[hb];rfl)<|iN 100 1 [] M4 Z Z nQ λa5 W M5=>B3 M5 iJ Z Z Z<|hx _ _ (.inl ⟨hb,Z,M5.hJ⟩)
 | true =>
  refine oC M4 Z (by rw[hb];rfl) ?_;simp only[oZ,aC,decide_eq_true_eq]at hb;obtain⟨p,rfl⟩:=cV hb.1;have u:p<n:=by omega
  refine iN 100 1 [[Bo (F p).isSome]] M4 Z Z ⟨⟨nQ,by omega⟩,⟨h.ru.1.lt,by simp,by simpa using h.u p u⟩⟩ λa5 W M5=>?_
  cases y:F p with
  | none =>
   refine oF M5 Z (by rw[y];rfl)<|iN 100 1 [] M5 Z Z nQ λa6 w6 z=>B3 z iJ Z Z Z<|hx _ _ (.inr ⟨p,Z,u,.inl ⟨y,Z,z.hJ⟩⟩)
  | some t =>
   let⟨hS,hN,n3,hm,l,a,c,d,j',hl⟩:=hc p t Z u y;have o':(F p).isSome=true:=by rw[y];rfl
   refine oC M5 Z (by rw[y];rfl) ?_;have k':∀ {X:db} {I:Wd} {T:Tk} {x6:Vu},T.K=t.K0 K->T.kd=t.kd->T.A=t.A->T.B=t.Bb->T.Ls=t.Ls->pe sft κ i p w I b B r K T x6->fx sft (pt κ w.heap.size (pN i p)) 1 w [(b.bl,0)] (ti b B.b n) 123 (tg p b.bt) X I->iv V main true sft Stop (G ((base 22).at X Fq) (fr::S)) I:=λ{X I T x6} e1 e2 e3 e4 e5 P M=>by
    refine Rt h u P (by rw[e5];exact n3) (by rw[e5];exact hm) (by rw[e1,e2,e3,e4,e5];exact j') hl M λX W C g D' E hr aw P M=>VC (Ls:=t.Ls) h u o' hN P hr (by show T.Ls++_=_;rw[e5]) n3 aw M λx w' hP=>hx _ _ (.inr ⟨p,Z,u,.inr ⟨t,l,a,c,d,y,j',?_⟩⟩);rw[←e1,←e2,←e3,←e4];exact hP
   cases t with
   | fresh kd A Bq =>
    have p':=(h.tk p _ u y).2;refine iN 100 1 [[b0]] M5 Z Z ⟨⟨nQ,by omega⟩,⟨h.rt.1.lt,by simp,by simpa using p' 3 _ Z⟩⟩ λa6 w6 z=>?_;have M7:=(z.alias 6 _ (.c (.v (Po (J (O b.bt (p*8) Q))))) Z Z (by simp[Sv.den,ou.den]) Z Z).pI (W':=pt κ w.heap.size (pN i p)) Zc;exact TS h u y R Rc k hF hS (λk hk=>z.old k hk Zc) (M7.oH 1 [0,1,6,37] [(0,0),(0,1),(0,2),(0,3)] Z Z Z) λX I T x6 e1 e2 e3 e4 e5 P M=>k' e1 e2 e3 e4 e5 P M
   | begun T =>
    let⟨q1,q2,q3,q4,q5,q6,q7,q8,q9,i'⟩:=h.tk p _ u y;refine iN 100 1 [[Bo true]] M5 Z Z ⟨⟨nQ,by omega⟩,⟨h.rt.1.lt,by simp,by simpa using q4⟩⟩ λa6 w6 z=>?_;have M7:=(z.alias 6 _ (.c (.v (Po (J (O b.bt (p*8) Q))))) Z Z (by simp[Sv.den,ou.den]) Z Z).pI (W':=pt κ w.heap.size (pN i p)) Zc;refine oC M7 Z Z<|p8 1 1 [] M7 Z Z nQ λa8 w8 M8 q'=>?_;have L:∀k,k<w.heap.size->w8.heap[k]?=w.heap[k]?:=λk hk=>by
     by_cases e:k=b.bl
     .subst e;exact Dz h u M8
     .rw[q'.old k (Zg hk z.size) (λj hj=>by obtain rfl:j=0:=Zm hj;exact aA e),z.old k hk Zc]
    let⟨x6,r'⟩:=cL.1 q5;have t0:=q6 _ (af _);have ct:=λo=>Zf (w:=w) (w':=w8) (a:=(O b.bt o Q)) (L _ h.rt.1.lt);have nL:∀g,T.L.ownBlock=J g->g≠T.gF/\g≠T.gS:=λg hg=>⟨λe=>qd (i' g hg).1 (y:=30+p) (by have:=h.n6;omega) (by rw[e];exact q8),λe=>qd (i' g hg).1 (y:=30+p) (by have:=h.n6;omega) (by rw[e];exact q9)⟩
    refine k' (T:=T) (x6:=x6) Z Z Z Z Z ⟨Ix q6 M8.size (by rw[q2];exact L _ h.rt.1.lt) (L _ t0.fl.1) (L _ t0.sl.1) λu'=>L _ (t0.lt u').2.1,⟨q2,q3⟩,q1,(ct _).trans q4,(ct _).trans r',λq _=>ct q,⟨h.rt.1.of (L _ h.rt.1.lt),h.rt.2,h.rt.1.lt⟩,λk h1 _ _ _=>L k h1,j5 q7 λg hg=>L g (j8 q7 hg).2,λg hg=>⟨(i' g hg).2,.inl ⟨(j8 q7 hg).2,(i' g hg).1⟩,nL g hg⟩,.inl ⟨t0.fl.1,q8⟩,.inl ⟨t0.sl.1,q9⟩,hS,by have:=h.n6;omega,M8.size,R.keep λk hk=>L k (R.lt hk),λj hj=>⟨Rc j hj,R.lt hj⟩,k⟩ (M8.oH 1 [0,1,6] [(0,0),(0,1),(0,2),(0,3)] Z Z Z)
end
section
open Go.Conc
def Yy:List bm:=match Tryz.f24.body with
 | some (.seq _ (.block b (.loop (.seq x (.seq y z)))))=>[.code y,.code z,.inLoop (.seq x (.seq y z)),.inBlock b]
 | _=>[]
variable{kb:Kb}{l:List nY}{K:aa}{L:Nat->Option Lv}{r:Nat}{F:Nat->Option ic}{nG:Nat}{w w':Wd}{Final:fM->jD->Prop}{b:Lb}{n P:Nat}{y U':Nat->Option nY}{I:Nat->Vu}{N:Nat->Nat}{R:Nat->List Vu}
theorem NX(j:Co kb l K L r F nG w)(a:pA kb l L w b n P y I N R)(d:w.heap.size<=w'.heap.size)(g:∀k,k<w.heap.size->k≠b.bu->w'.heap[k]?=w.heap[k]?)(m:pR w' b.bu n λq=>sw (U' q))(p:∀q,q<n->∀o,U' q=J o->∃v,L o.gid=J v/\v.C.o=o/\v.C.slot=q):Co kb l K L r F nG w'/\oY kb l L w' b n P U' I N R:=by
 let⟨s,z,t,A,B,C⟩:=a.is.ne;have c:=λo=>Zf (w:=w) (w':=w') (a:=(O b.bl o Q)) (g _ a.qS.mn.lt s);exact⟨j.wrote d nQ λk u h=>g k u λe=>h (e▸a.qK),⟨⟨⟨(c 0).trans a.is.k0,(c 1).trans a.is.k1,(c 2).trans a.is.k2,m,a.is.d.of (g _ a.is.d.lt (aA t)),λq f=>j5 (a.is.own q f) λx i=>g x (j8 (a.is.own q f) i).2 (by have:=(j8 (a.is.own q f) i).1;omega),a.is.pX,a.is.ne,a.is.small⟩,a.qS.grow d,a.qK.grow d,a.rO.grow d,λq f x i=>(a.ry q f x i).grow d,a.b0⟩,p⟩⟩
abbrev XI(a c n i:Nat):m7:=[(0,.c (.v (Po (J (O a 0 Q))))),(7,.c (.v (Sc (J (O c 0 Q)) n n))),(8,.c (.v (Y U n))),(9,.c (.v (Y U i))),(10,.c (.v (Bo (decide ((i:Int)<n)))))]
theorem Vh(h:pR w b.bu n (λq=>if q=a then Po Q else sw (y q))):pR w b.bu n (λq=>sw (qt y a q)):=by
 let⟨c,t,d,f,g⟩:=h;refine⟨c,t,d,f,λq i=>(g q i).trans ?_⟩;unfold qt
 by_cases e:q=a
 .simp[e,sw]
 .simp[e]
theorem b4r(fr:Fm')(cs:List Fm')(L0:Nat->Option Lv)(U0:Nat->Option nY)(w0:Wd)(hx:∀L' z w',Co kb l K L' r z nG w'->oY kb l L' w' b n P (λ_=>Q) I N R->(∀k,Mn kb L0 w0 k->k≠b.bu->Mn kb L' w' k/\w'.heap[k]?=w0.heap[k]?)->((∀g v,L' g=J v->L0 g=J v/\∀p,p<n->U0 p≠J v.C.o)/\(∀g v,L0 g=J v->(∀p,p<n->U0 p≠J v.C.o)->L' g=J v))->X V Final l z nG 0 (G (fr.finish (.tuple #[])) cs) w') :
  ∀(f i:Nat),i+f=n->∀(y:Nat->Option nY) (L:Nat->Option Lv) (F:Nat->Option ic) (w:Wd) (a:db),Co kb l K L r F nG w->oY kb l L w b n P y I N R->(∀q,q<i->y q=Q)->(∀q,i<=q->y q=U0 q)->(∀k,Mn kb L0 w0 k->k≠b.bu->Mn kb L w k/\w.heap[k]?=w0.heap[k]?)->((∀g v,L g=J v->L0 g=J v/\∀p,p<i->U0 p≠J v.C.o)/\∀g v,L0 g=J v->(∀p,p<i->U0 p≠J v.C.o)->L g=J v)->fx (fb l) [] 0 w [] [] 25 (XI b.bl b.bu n i) a w ->
  iv V true true (fb l) (X V Final l F nG 0) (G ((base 24).at a Yy) (fr::cs)) w:=by
 intro f
 induction f with
 | zero =>
  intro i hi y L F w a co A k' e' j H M;obtain rfl:i=n:=by omega
  refine oC M Z (decide_eq_false Za)<|iN 200 0 [] M Z Z nQ λa1 w1 S=>Cr S ni Z Z Z λd=>.stop ?_;have g:=S.hJ.grown.at d;have m:=A.grown g;refine hx L F _ (co.grown g) ⟨⟨⟨m.m.is.k0,m.m.is.k1,m.m.is.k2,?_,m.m.is.d,m.m.is.own,m.m.is.pX,m.m.is.ne,m.m.is.small⟩,m.m.qS,m.m.qK,m.m.rO,m.m.ry,m.m.b0⟩,λq _ o h=>by cases h⟩ (λk h1 T=>?_) H
  .let⟨c,t,a1,a2,a3⟩:=m.m.is.u;exact⟨c,t,a1,a2,λq s=>by rw[a3 q s];simp only[k' q s]⟩
  .let⟨W,m2⟩:=j k h1 T;exact⟨W.grow g.size,(g.old k W.lt).trans m2⟩
 | succ f ih =>
  intro i hi y L F w a co A k' e' j H M;have m':i<n:=by omega
  have Q':=A.m.is.small;have cu:=A.m.is.u.cell m';have e2:=C9 (n:=i) Za;refine oF M Z (decide_eq_true Za) ?_
  cases hU:y i with
  | none =>
   rw[hU]at cu;refine iN 200 0 [[Po Q]] M Z Z ⟨⟨nQ,by omega⟩,⟨A.m.is.u.lt,by simp,by simpa[sw] using cu⟩⟩ λa1 w1 S=>uk (op:=.binOp .neq 133 (.tmp 14) (.const (Po Q)) 133) (.c (.v (Bo false))) S Z Z Z Zd Z Z Z nQ (λo u ho B=>?_) λa2 M2=>?_
   .have e:=(S.rd (x:=.tmp 14) (s:=.c (.v (Po Q))) Z).1;unfold Ex;simp only[ho,e];rfl
   refine iN 200 0 [] M2 Z Z nQ λa3 w3 M3=>oC M3 Z Z<|iN 200 0 [] M3 Z Z nQ λa4 w4 M4=>?_;have M5:=M4.oo.oV 0 [0,7,8,9,10] Z Z;rw[e2]at M5;have g:=M4.hJ.grown;refine ih (i+1) Za y L F w4 a4 (co.grown g) (A.grown g) (λq s=>?_) (λq s=>e' q Za) (λk h1 T=>?_) ⟨λg v C=>⟨(H.1 g v C).1,λp hp=>?_⟩,λg v C hp=>H.2 g v C λp h=>hp p Za⟩ M5
   .rcases bU q i with h|h
    .exact k' q h
    .obtain rfl:q=i:=by omega
     exact hU
   .let⟨W,m2⟩:=j k h1 T;exact⟨W.grow g.size,(g.old k W.lt).trans m2⟩
   .rcases bU p i with h|h
    .exact(H.1 g v C).2 p h
    .obtain rfl:p=i:=by omega
     rw[←e' p (af _),hU];exact λh=>by cases h
  | some o =>
   obtain⟨v,C,rfl,r'⟩:=A.live i m' o hU;rw[hU]at cu;refine iN 200 0 [[Po (J (O v.C.o.bo 0 Q))]] M Z Z ⟨⟨nQ,by omega⟩,⟨A.m.is.u.lt,by simp,by simpa[sw] using cu⟩⟩ λa1 w1 S=>uk (op:=.binOp .neq 133 (.tmp 14) (.const (Po Q)) 133) (.c (.v (Bo true))) S Z Z Z Zd Z Z Z nQ (λo u ho B=>?_) λa2 M2=>?_
   .have e:=(S.rd (x:=.tmp 14) (s:=.c (.v (Po (J (O v.C.o.bo 0 Q))))) Z).1;unfold Ex;simp only[ho,e];rfl
   refine iN 200 0 [] M2 Z Z nQ λa3 w3 M3=>oF M3 Z Z<|iN 200 0 [] M3 Z Z nQ λa4 w4 M4=>?_;have g4:=M4.hJ.grown;refine xW (vs:=[Po (J (O v.C.o.bo 0 Q))]) (Post:=λx w' e=>x=.tuple #[]/\∃z,e=(fb l,X V Final l z nG 0)/\Co kb l K (aj L v.C.o.gid Q) r z nG w'/\Kp kb L w4 (aj L v.C.o.gid Q) w') M4 (λs' t' j=>λd=>.stop (b5n ((co.grown g4).at d) C s' t' λw' z h1 T=>tH (j _ w' (fb l,X V Final l z nG 0) ⟨Z,z,Z,h1,λk j=>T k ⟨j.lt,j.nf,j.ns,j.nd,j.own⟩⟩))) Z Z Z Tryz.func56 Z Z Z Z λx w5 e s=>?_;obtain⟨rfl,z,rfl,n',kp⟩:=s;have j':=(A.grown g4).m.turn kp;have M5:=(M4.got (D:=17) Z (.t []) (λx hx=>(by cases hx)) (x:=.tuple #[]) Z Z).oO [0,2,7,8,9] Z n'.env.fit n'.soft;refine iN 200 0 [[Sc (J (O b.bu 0 Q)) n n]] M5 Z Z ⟨⟨nQ,⟨j'.qS.mn.lt,by simp,j'.is.k1⟩⟩,by omega⟩ λa6 w6 D=>?_;have p':=j'.grown D.hJ.grown;let⟨c0,t0,q',v',x'⟩:=id p'.is.u;refine zi (b:=b.bu) (p:=i) (cells:=[Po Q]) D.lv Z Z Z Z q' p'.qK.sf D.fit ((D.rd (x:=.tmp 23) Z).1.trans (by simp[Sv.den,ou.den])) Z Z Z (λv C=>?_) (λq s=>?_) λw7 s1 s2 s3 s4 s5 s6=>?_
   .cases Zi C;rfl
   .obtain rfl:q=0:=Zm s;simp[aD,q',x' i m']
   let⟨c',E',F'⟩:=s3;have u7:=Vh (pR.put p'.is.u ⟨c',t0,E',F'.trans v'⟩ (s4 0 _ Z) λq s=>s5 q (by simp;omega));have M7:=D.oO [0,2,7,8,9] Z s6 λk j=>D.new k (by have:=D.size;omega);refine iN 200 0 [] M7 Z Z nQ λa8 w8 M8=>?_;have M9:=M8.oo.oV 0 [0,7,8,9,10] Z Z;rw[e2]at M9;have z6:=D.size;have z8:=M8.size;have lu:=j'.is.u.lt;have e8:∀k,k<w5.heap.size->k≠b.bu->w8.heap[k]?=w5.heap[k]?:=λk j hn=>by rw[M8.old k Za Zc,s2 k hn,D.old k j Zc]
   let⟨K',M'⟩:=NX (U':=qt y i) n' j' Za e8 (u7.of (M8.old _ Za Zc)) (λq s o' l'=>by
    unfold qt at l';split at l'
    .cases l'
    .next e =>
     let⟨u,b1,b2,b3⟩:=A.live q s o' l';have E:o'.gid≠v.C.o.gid:=λE=>by
      rw[E,C]at b1;cases Ze b1;rw[r']at b3;exact e (by exact_mod_cast b3.symm)
     exact⟨u,by rw[az _ _ E];exact b1,b2,b3⟩)
   refine ih (i+1) Za (qt y i) _ z w8 a8 K' M' (λq s=>?_) (λq s=>?_) (λk h1 T=>?_) ⟨λg u B=>?_,λg u B hp=>?_⟩ M9
   .unfold qt;split
    .rfl
    .exact k' q Za
   .unfold qt;rw[nR Za];exact e' q Za
   .let⟨W,m2⟩:=j k h1 T;let⟨m3,m4⟩:=kp k (W.grow g4.size);exact⟨m3.grow Za,(e8 k m3.lt T).trans (m4.trans ((g4.old k W.lt).trans m2))⟩
   .by_cases E:g=v.C.o.gid
    .rw[E,aH]at B;cases B
    .rw[az _ _ E]at B;refine⟨(H.1 g u B).1,λp hp=>?_⟩;rcases bU p i with h|h
     .exact(H.1 g u B).2 p h
     .obtain rfl:p=i:=by omega
      rw[←e' p (af _),hU];intro h;have h':=Ze h;exact E (by rw[h'];exact((co.gid g u B).1).symm)
   .have h0:=H.2 g u B λp h=>hp p Za;rw[az _ _ λE=>?_]
    .exact h0
    .rw[E,C]at h0;cases Ze h0;exact hp i Za ((e' i (af _)).symm.trans hU)
theorem Ow(d:Co kb l K L r F nG w)(e:oY kb l L w b n P y I N R)(f:Fm')(i:List Fm')(t:∀c m w',Co kb l K c r m nG w'->oY kb l c w' b n P (λ_=>Q) I N R->(∀k,Mn kb L w k->k≠b.bu->Mn kb c w' k/\w'.heap[k]?=w.heap[k]?)->((∀g v,c g=J v->L g=J v/\∀p,p<n->y p≠J v.C.o)/\∀g v,L g=J v->(∀p,p<n->y p≠J v.C.o)->c g=J v)->X V Final l m nG 0 (G (f.finish (.tuple #[])) i) w') :
  X V Final l F nG 0 (G (ay V 24 #[Po (J (O b.bl 0 Q))] .normal) (f::i)) w:=by
 refine tH (zV (ρ:=[]) (W:=[]) (ro:=0) (m:=[]) (sz:=25) [.c (.v (Po (J (O b.bl 0 Q))))] (Dh d.env.fit d.soft) (λs u=>?_) ni Z Z Z λa M=>?_)
 .cases Zi u;trivial
 refine iN 200 0 [[Sc (J (O b.bu 0 Q)) n n]] M Z Z ⟨nQ,⟨e.m.qS.mn.lt,by simp,e.m.is.k1⟩⟩ λx z o=>?_;have g:=o.hJ.grown;refine b4r f i L y w t n 0 Za y L F z x (d.grown g) (e.grown g) (λq A=>by omega) (λ_ _=>rfl) (λk h _=>⟨h.grow g.size,g.old k h.lt⟩) ⟨λg v j=>⟨j,λp B=>by omega⟩,λg v j _=>j⟩ (o.oo.oV 0 [0,7,8,9,10] Z Z)
def beK:List bm:=match Tryz.f19.body with
 | some (.seq _ (.seq _ (.seq _ (.seq _ (.seq r e)))))=>[.code r,.code e]
 | _=>[]
variable{f:Fm'}{D:List Fm'}
structure xG (kb:Kb) (l:List nY) (K:aa) (L:Nat->Option Lv) (r nG:Nat) (w:Wd) (p:Nat) (kd A B:Int) (C:Ctx) (H:y6) (Inb':Nat->Option ic) (w':Wd):Prop where
 s:C.slot=(p:Int)
 k:C.kd=kd
 a:C.A=A
 b:C.B=B
 o:uK kb C
 g:C.o.gid=nG
 co:Co kb (C.o::l) K (aj L nG (J ⟨C,m8 C p,[C.o.bo],H,[T4 C.o,bot]⟩)) r Inb' (nG+1) w'
 kp:Kp kb L w (aj L nG (J ⟨C,m8 C p,[C.o.bo],H,[T4 C.o,bot]⟩)) w'
theorem c9u(h0:0<nG)(W:a<K.nS)(co:Co kb l K L r F nG w)(E:oY kb l L w b K.nS P y I N R)(hU:y a=Q)(mx:Mn kb L w d)(M:fx (fb l) [] 1 w [(d,0)] [(0,0,.v (Y U g)),(0,1,.v (Y U h)),(0,2,.v (Y U i))] 40 [(0,.c (.v (Po (J (O b.bl 0 Q))))),(1,.c (.v (Y U a))),(5,.c (.p 0 0))] u w)(hx:∀C H c t w',xG kb l K L r nG w a g h i C H c t->t.heap.size<=w'.heap.size->(∀k,k<t.heap.size->k≠b.bu->w'.heap[k]?=t.heap[k]?)->pR w' b.bu K.nS (λq=>if q=a then Po (J (O C.o.bo 0 Q)) else sw (y q))->iv V true true (fb (C.o::l)) (X V Final (C.o::l) c (nG+1) 0) (G (f.finish (Y U 0)) D) w'):iv V true true (fb l) (X V Final l F nG 0) (G ((base 19).at u beK) (f::D)) w:=by
 have MW:=M.pI (W':=yo w [b.bl]) Zc;have g':=E.m.qS.mn.lt;have n6:=E.m.is.small;refine BZ (V:=λA=>[J (.c (.v (Po (J (O b.bl 0 Q))))),J (.c (.v (Po (J (O b.bl 0 Q))))),J (.c (.v (Po (J (O b.bl 1 Q))))),J (.c (.v (Sc (J (O b.bu 0 Q)) K.nS K.nS))),J (.c (.v (Y U a))),J (.c (.v (Po (J (O b.bl 0 Q))))),J (.c (.v (Po (J (O b.bl 0 Q))))),J (.c (.v (Po (J (O b.bl 0 Q))))),J (.c (.v (Po (J (O kb.bk 0 Q))))),J (.c (.v (Y U a))),J (.g [.v (Y U g),.v (Y U h),.v (Y U i)]),A 0,J (.c (.v (Po (J (O b.bu (0+(a:Int).toNat*1) Q))))),A 1]) (C':=((True/\sM w (yo w [b.bl]) (O b.bl 1 Q) (Sc (J (O b.bu 0 Q)) K.nS K.nS))/\sM w (yo w [b.bl]) (O b.bl 0 Q) (Po (J (O kb.bk 0 Q))))/\(0<=(a:Int)/\(a:Int)<K.nS)) [(11,Q),(13,Q)] [[Sc (J (O b.bu 0 Q)) K.nS K.nS],[Po (J (O kb.bk 0 Q))]] true (λs A j' w' e=>j'=[(d,0)]/\((s=0/\w'=w/\e=(fb l,X V Final l F nG 0))\/(s=1/\∃C H c,A 0=J (.c (.v (Po (J (O C.o.bo 0 Q)))))/\e=(fb (C.o::l),X V Final (C.o::l) c (nG+1) 0)/\xG kb l K L r nG w a g h i C H c w')\/(s=2/\∃C H c t,e=(fb (C.o::l),X V Final (C.o::l) c (nG+1) 0)/\xG kb l K L r nG w a g h i C H c t/\t.heap.size=w'.heap.size/\(∀k,k≠b.bu->w'.heap[k]?=t.heap[k]?)/\pR w' b.bu K.nS (λq=>if q=a then Po (J (O C.o.bo 0 Q)) else sw (y q))/\Fit (fb (C.o::l)) w'))) MW Z (λ_=>by kernel_rfl) (λ_=>by kernel_rfl) Z Zd ⟨⟨⟨nQ,⟨g',Df Zc,E.m.is.k1⟩⟩,⟨g',Df Zc,E.m.is.k0⟩⟩,by omega⟩ (λs A h' w' e k' p=>?_) ⟨Z,.inl ⟨Z,Z,Z⟩⟩ (λs j d' hs A o a' w' h' u' e ho p h1 h2 T S=>?_) λA h' a3 w3 e p l' m'=>?_
 .obtain⟨B,p⟩:=p;obtain rfl:=Zk B;rcases p with⟨_,rfl,_⟩|⟨_,C,H,c,_,_,i⟩|⟨rfl,_⟩
  .exact⟨MW.ce,λ_ _ _=>rfl⟩
  .refine⟨λe B=>?_,λk x S=>?_⟩
   .obtain⟨c1,c2,c3⟩:=M.ce e B;have c0:e.1=0:=Zm c1;refine⟨c1,c2,(Zf (w:=w) ?_).trans c3⟩;rw[c0];exact(i.kp d mx).2
   .obtain rfl:=Zi (Px x S);exact(i.kp _ E.m.qS.mn).2
  .exact absurd (k' Z) (iO 2)
 .obtain⟨B,p⟩:=p;obtain rfl:=Zk B;rcases s with _|_|s
  case zero =>
   obtain⟨rfl,rfl⟩:=ax (Ze hs);rcases p with⟨_,rfl,rfl⟩|⟨m,_⟩|⟨m,_⟩
   case inr.inl=>cases m
   case inr.inr=>cases m
   obtain rfl:=Ze ho;refine NM ho Z (by show aX≠.early;decide) Z Tryz.func49 Z Z (vs:=#[Po (J (O kb.bk 0 Q)),Y U a,.agg #[Y U g,Y U h,Y U i]]) ?_ λb'=>Yj (co.at b') h0 W g h i λw2 C H c c1 c2 c3 c4 c5 c6 c7 c8=>?_
   .simp only[du,cZ,eK,T (.tmp 35) (.c (.v (Po (J (O kb.bk 0 Q))))) Z,T (.tmp 36) (.c (.v (Y U a))) Z,T (.tmp 37) (.g [.v (Y U g),.v (Y U h),.v (Y U i)]) Z];rfl
   .rw[zC ho];exact tH (S (fb (C.o::l),X V Final (C.o::l) c (nG+1) 0) [] w2 (J (.c (.v (Po (J (O C.o.bo 0 Q)))))) ⟨by simp,.inr (.inl ⟨Z,C,H,c,Z,Z,c1,c2,c3,c4,c5,c6,c7,λk x=>c8 k ⟨x.lt,x.nf,x.ns,x.nd,x.own⟩⟩)⟩ (.inl Z) λsv m=>by obtain rfl:=Ze m;trivial)
  case succ.zero =>
   obtain⟨rfl,rfl⟩:=ax (Ze hs);rcases p with⟨m,_⟩|⟨_,C,H,c,o',rfl,i⟩|⟨m,_⟩
   case inl=>cases m
   case inr.inr=>cases m
   obtain rfl:=Ze ho;have f':=E.m.born i.kp (aH _ _ _) (C:=C) (cD.2 Z);obtain⟨c0,t0,i',p',q'⟩:=id f'.is.u;refine zi (E:=[]) (sz:=40) (b:=b.bu) (p:=a) (cells:=[Po (J (O C.o.bo 0 Q))]) ⟨h1,h2,λa W=>(by cases W)⟩ Z Z Z Z i' f'.qK.sf i.co.env.fit ((T (.tmp 39) _ Z).trans (by simp[Sv.den,ou.den])) (T (.tmp 38) _ o') Z Z (λv hv=>?_) (λq hq=>?_) λw2 s1 s2 s3 s4 s5 s6=>?_
   .obtain rfl:=Zi hv;rfl
   .obtain rfl:q=0:=Zm hq;simp[aD,i',q' a W]
   .obtain⟨c',r',s'⟩:=s3;exact S (fb (C.o::l),X V Final (C.o::l) c (nG+1) 0) [] w2 Q ⟨by simp,.inr (.inr ⟨Z,C,H,c,w',Z,i,s1.symm,s2,pR.put f'.is.u ⟨c',t0,r',s'.trans p'⟩ (s4 0 _ Z) λq hq=>s5 q (by simp;omega),s6⟩)⟩ (.inl Z) λsv m=>by cases m
  case succ.succ=>simp at hs
 .obtain⟨B,p⟩:=p;obtain rfl:=Zk B;rcases p with⟨m,_⟩|⟨m,_⟩|⟨_,C,H,c,t,rfl,i,z,old,ru,ft⟩
  .cases m
  .cases m
  have M3:=((M.re l' m').oV 1 [] Z Z).oO [] Z ft λk x=>i.co.soft k Za;refine iN 200 0 [] M3 Z Z nQ λa4 w4 M4=>B3 M4 gC Z Z Z ?_;have z4:=M4.size;exact hx C H c t w4 i Za (λk x S=>(M4.old k Za Zc).trans (old k S)) (ru.of (M4.old _ ru.lt Zc))
theorem Sr(W:Co kb l K L r F nG w){n:Nat}(hn:K.nS=n)(v:oY kb l L w b n P y I N R)(h0:0<nG)(s h A B:Int)(f:Fm')(D:List Fm')(k':(h<1\/7<h)->∀w',Grown w w'->X V Final l F nG 0 (G (f.finish (Y U 2)) D) w')(p':1<=h->h<=7->(decide (0<=s)&&decide (s<(n:Int)))=false->∀w',Grown w w'->X V Final l F nG 0 (G (f.finish (Y U 3)) D) w')(q':1<=h->h<=7->∀(p:Nat) o,s=p->p<n->y p=J o->∀w',Grown w w'->X V Final l F nG 0 (G (f.finish (Y U 14)) D) w')(r':1<=h->h<=7->∀p:Nat,s=p->p<n->y p=Q->∀w' (C:Ctx) H g',C.slot=(p:Int)->C.kd=h->C.A=A->C.B=B->uK kb C->C.o.gid=nG->Co kb (C.o::l) K (aj L nG (J ⟨C,m8 C p,[C.o.bo],H,[T4 C.o,bot]⟩)) r g' (nG+1) w'->(∀k,Mn kb L w k->k≠b.bu->Mn kb (aj L nG (J ⟨C,m8 C p,[C.o.bo],H,[T4 C.o,bot]⟩)) w' k/\w'.heap[k]?=w.heap[k]?)->oY kb (C.o::l) (aj L nG (J ⟨C,m8 C p,[C.o.bo],H,[T4 C.o,bot]⟩)) w' b n P (rR y p C.o) I N R->X V Final (C.o::l) g' (nG+1) 0 (G (f.finish (Y U 0)) D) w') :
  X V Final l F nG 0 (G (ay V 19 #[Po (J (O b.bl 0 Q)),Y U s,.agg #[Y U h,Y U A,Y U B]] .normal) (f::D)) w:=by
 subst hn;have l':=v.m.qS.mn.lt;refine tH (zV (ρ:=[]) (W:=[]) (ro:=0) (m:=[]) (sz:=40) [.c (.v (Po (J (O b.bl 0 Q)))),.c (.v (Y U s)),.g [.v (Y U h),.v (Y U A),.v (Y U B)]] (Dh W.env.fit W.soft) (λs hs=>?_) gC Z Z Z λa M=>?_)
 .simp only[ae,ai,or_false]at hs;rcases hs with rfl|rfl|rfl<;>first|trivial|(intro x hx;simp only[ae,ai,or_false]at hx;rcases hx with rfl|rfl|rfl<;>trivial)
 refine sq 12 0 [] M Z Z nQ λa1 w1 bx M1=>?_;have M2:=M1.oH 1 [0,1,5,10] [(0,0),(0,1),(0,2)] Z Z Z
 by_cases k1:h<1
 .rw[decide_eq_true k1]at M2;refine iN 200 1 [] M2 Z Z nQ λa3 w3 M3=>oF M3 Z Z<|iN 200 1 [] M3 Z Z nQ λa4 w4 E=>B3 E gC Z Z Z λd=>.stop (k' (.inl k1) _ (E.hJ.grown.at d))
 rw[decide_eq_false k1]at M2;refine iN 200 1 [] M2 Z Z nQ λa3 w3 M3=>?_
 by_cases k7:7<h
 .refine oF M3 Z (decide_eq_true k7)<|iN 200 1 [] M3 Z Z nQ λa4 w4 E=>B3 E gC Z Z Z λd=>.stop (k' (.inr k7) _ (E.hJ.grown.at d))
 refine oC M3 Z (decide_eq_false k7)<|iN 200 1 [] M3 Z Z nQ λa4 w4 E=>?_;have g4:=E.hJ.grown;refine A4 E (LF E.fit (W.grown g4).soft (v.grown g4).m.is.k1 s) Z Z Z iW Z Z Z Z Z λx w5 hq=>?_;obtain⟨rfl,F5⟩:=hq;refine E7 (E.still F5) 1 (.c (.v (Bo (decide (0<=s)&&decide (s<(K.nS:Int)))))) Z Z Z Z Z λa6 M6=>iN 200 1 [] M6 Z Z nQ λa7 w7 M7=>?_
 cases hb:(decide (0<=s)&&decide (s<(K.nS:Int))) with
 | false =>
  refine oF M7 Z (by rw[hb];rfl)<|iN 200 1 [] M7 Z Z nQ λa8 w8 S=>B3 S gC Z Z Z λd=>.stop (p' Za Za hb _ (S.hJ.grown.at d))
 | true =>
  refine oC M7 Z (by rw[hb];rfl) ?_;simp only[aC,decide_eq_true_eq]at hb;obtain⟨p,rfl⟩:=cV hb.1;have hp:p<K.nS:=by omega
  have cu:=v.m.is.u.cell hp
  cases hU:y p with
  | some o =>
   rw[hU]at cu;refine iN 200 1 [[Sc (J (O b.bu 0 Q)) K.nS K.nS],[Po (J (O o.bo 0 Q))]] M7 Z Z ⟨⟨⟨nQ,⟨l',by simp,v.m.is.k1⟩⟩,by omega⟩,⟨v.m.is.u.lt,by simp,by simpa[sw] using cu⟩⟩ λa8 w8 S=>uk (op:=.binOp .neq 133 (.tmp 25) (.const (Po Q)) 133) (.c (.v (Bo true))) S Z Z Z Zd Z Z Z nQ (λo' u T hu=>?_) λa9 M9=>?_
   .have e:=(S.rd (x:=.tmp 25) (s:=.c (.v (Po (J (O o.bo 0 Q))))) Z).1;unfold Ex;simp only[T,e];rfl
   refine iN 200 1 [] M9 Z Z nQ λs' t' f'=>oF f' Z Z<|iN 200 1 [] f' Z Z nQ λu' m' j=>B3 j gC Z Z Z λd=>.stop (q' Za Za p o Z hp hU _ (j.hJ.grown.at d))
  | none =>
   rw[hU]at cu;refine iN 200 1 [[Sc (J (O b.bu 0 Q)) K.nS K.nS],[Po Q]] M7 Z Z ⟨⟨⟨nQ,⟨l',by simp,v.m.is.k1⟩⟩,by omega⟩,⟨v.m.is.u.lt,by simp,by simpa[sw] using cu⟩⟩ λa8 w8 S=>uk (op:=.binOp .neq 133 (.tmp 25) (.const (Po Q)) 133) (.c (.v (Bo false))) S Z Z Z Zd Z Z Z nQ (λo' u T hu=>?_) λa9 M9=>?_
   .have e:=(S.rd (x:=.tmp 25) (s:=.c (.v (Po Q))) Z).1;unfold Ex;simp only[T,e];rfl
   refine iN 200 1 [] M9 Z Z nQ λs' t' f'=>oC f' Z Z<|iN 2 1 [] f' Z Z nQ λu' m' j=>?_;have g:=j.hJ.grown;have v':w.heap.size<=bx:=(j.own 0 (af _) Zc).resolve_left Zc;have x':bx<m'.heap.size:=F3.lt (j.bl 0 Zc);have y':=(j.next j.fit (W.grown g).soft (λi hi=>⟨(j.bl i hi).2,Z⟩) j.lv j.wf).oH 1 [0,1,5] [(0,0),(0,1),(0,2)] Z Z Z;refine c9u h0 hp (W.grown g) (v.grown g) hU (W.new v' x').mn y' λC H g' wm w' m z n' ru=>λd=>.stop ?_;have z':=(v.grown g).m.born m.kp (aH _ _ _) (C:=C) (cD.2 Z)
   let⟨A',B'⟩:=NX (U':=rR y p C.o) m.co z' z n' (by
    let⟨c,t,b1,b2,b3⟩:=ru;refine⟨c,t,b1,b2,λq hq=>(b3 q hq).trans ?_⟩;unfold rR
    by_cases e:q=p
    .simp[e,sw]
    .simp[e]) (λq hq o T=>by
    unfold rR at T;split at T
    .next e =>
     cases Ze T;exact⟨_,by rw[m.g,aH],Z,by rw[e];exact m.s⟩
    .let⟨u,b1,b2,b3⟩:=v.live q hq o T
     exact⟨u,by rw[az _ _ (by have:=(W.gid _ u b1).2.2;omega)];exact b1,b2,b3⟩)
   have gd:Grown w' (w'.at d):=⟨af _,λ_ _=>rfl,nQ⟩;refine r' Za Za p Z hp hU (w'.at d) C H g' m.s m.k m.a m.b m.o m.g (A'.grown gd) (λk hm hk=>?_) (B'.grown gd);let⟨m1,m2⟩:=m.kp k (hm.grow g.size);exact⟨m1.grow z,(n' k m1.lt hk).trans (m2.trans (g.old k hm.lt))⟩
end
section
open Go.Conc
variable{P:Pg}{Q:Exit->db->Wd->Prop}{ops:Array aN}{i:Nat}{o:aN}{a:db}{g:List Nat}{w w':Wd}{v:Vu}
theorem Pk(b:ops[i]?=J o)(c:o.guard=G')(d:(Ex a.eval o).run P w=.ok (.value v) w')(h:wpOps P ops Q g (a.put o.dst v) w'):wpOps P ops Q (i::g) a w:=by
 rw[wpOps_cons];unfold wpOp;simp only[b];rw[nT (by unfold bR;rw[c])];refine .inl ?_;unfold Oper.wp;rw[d];exact h
variable{r:Array Vu}{V:(Nat->Nat)->Nat->Vu}{ob:(Nat->Nat)->Nat->Option Obj}{dep:Nat->List Nat}
section
variable{v:Wd}
def JO(o:aN)(p:Nat):Bool:=o.after.any λe=>cM .any e&&e.on==p
structure Mk (V:(Nat->Nat)->Nat->Vu) (ob:(Nat->Nat)->Nat->Option Obj) (dep:Nat->List Nat) (v:Wd) (listed:Array Bool) (c:Nat->Nat) (w:Wd):Prop where
 oX:bG v.heap.size v w
 made:∀i x,listed.getD i false=true->ob c i=J x->v.heap.size<=c i/\c i<w.heap.size/\w.heap[c i]?=J x
 apart:∀i j,listed.getD i false=true->listed.getD j false=true->(ob c i).isSome=true->(ob c j).isSome=true->i≠j->c i≠c j
 wE:∀j q,listed.getD j false=true->q∈dep j->listed.getD q false=true
 ord:∀i q,listed.getD i false=true->q∈dep i->q≠i->(ob c i).isSome=true->(ob c q).isSome=true->c q<c i
theorem Mq(E:ux ops=true)(hd:∀c q x j,q∉dep j->V (aj c q x) j=V c j/\ob (aj c q x) j=ob c j)(S:((aM ops.size).all λi=>(dep i).all λq=>aI q i||((ops[i]?).map λo=>o.after.any λe=>cM .any e&&(dep e.on).contains q).getD false)=true)(a':((aM ops.size).all λi=>((ops[i]?).map (·.after.all λe=>!cM .any e||decide (e.on<i))).getD true)=true)(hs:∀i o,ops[i]?=J o->o.guard=G'/\∀c a w listed,pE ops (V c) r listed a->(∀p,JO o p=true->listed.getD p false=true)->(ob c i=G'/\(Ex a.eval o).run P w=.ok (.value (V c i)) w)\/∃x,ob (aj c i w.heap.size) i=J x/\(Ex a.eval o).run P w=.ok (.value (V (aj c i w.heap.size) i)) (w.alloc x))(b':∀c w,Mk V ob dep v (cx ops.size true) c w->Q .normal ⟨fill ops (V c) r,[]⟩ w) :
  ∀c' listed (m:db×Wd) g,Ord ops c' listed g->(∃c,pE ops (V c) r listed m.1/\Mk V ob dep v listed c m.2)->wpOps P ops Q g m.1 m.2:=by
 refine Ee (J:=λ(m:db×Wd) g=>wpOps P ops Q g m.1 m.2) (λf0 listed m i g K L hO T=>?_) λlisted m C L=>?_
 .let⟨a,w⟩:=m;let⟨c,n,d⟩:=L;simp only at n d;have W:=xE K;obtain⟨o,z⟩:∃o,ops[i]?=J o:=⟨_,bE W⟩;have G:=Lr K;let⟨M,d'⟩:=hs i o z;have X:∀p,JO o p=true->listed.getD p false=true:=λp hp=>k9 K z hp;have e':∀ {j},listed.getD j false=true->j≠i:=λ{j} b e=>by grind
  have N:∀j q,(listed.setIfInBounds i true).getD j false=true->q∈dep j->(listed.setIfInBounds i true).getD q false=true:=λj q b t=>by
   by_cases e:j=i
   .subst e;rw[aV]at S;have:=S j (eX.2 W);rw[aV]at this;have:=this q t;simp only[da,Nat.beq_eq,z,aF,cW]at this;rcases this with rfl|h
    .grind
    .let⟨x,hx,h⟩:=mW.1 h;simp only[aC]at h;exact Z6 (d.wE x.on q (X _ (mW.2 ⟨x,hx,by simp[h.1]⟩)) (by simpa using h.2))
   .rw[D7 (aA e)]at b;exact Z6 (d.wE j q b t)
  have f:∀ {j},(listed.setIfInBounds i true).getD j false=true->j≠i->listed.getD j false=true:=λ{j} b e=>by rw[D7 (aA e)]at b;exact b
  rcases d' c a w listed n X with⟨hn,C⟩|⟨x,hx,C⟩
  .refine Pk z M C (T (_,w) ⟨c,n.put E z Z,d.oX,λj y b u=>?_,λj k b F l sk e=>?_,N,λj q b t e l B=>?_⟩)
   .exact d.made j y (f b λe=>by grind) u
   .exact d.apart j k (f b λe=>by rw[e,hn]at l;cases l) (f F λe=>by grind) l sk e
   .exact d.ord j q (f b λe=>by rw[e,hn]at l;cases l) t e l B
  .have s:∀ {j},listed.getD j false=true->V (aj c i w.heap.size) j=V c j/\ob (aj c i w.heap.size) j=ob c j/\aj c i w.heap.size j=c j:=λ{j} b=>by
    have:=hd c i w.heap.size j λh=>by rw[d.wE j i b h]at G;cases G
    exact⟨this.1,this.2,az _ _ (e' b)⟩
   have own:aj c i w.heap.size i=w.heap.size:=by simp[aj]
   have hz:=d.oX.size;refine Pk z M C (T (_,_) ⟨aj c i w.heap.size,(n.val λj b=>(s b).1).put E z Z,d.oX.alloc hz _,λj y b u=>?_,λj k b F l sk e=>?_,N,λj q b t e l B=>?_⟩)
   .by_cases e:j=i
    .grind
    .let⟨s1,R,s3⟩:=s (f b e);rw[R]at u;let⟨q1,q2,q3⟩:=d.made j y (f b e) u
     grind
   rotate_left
   .have A:=N j q b t
    by_cases D:j=i
    .have A:=f A λH=>e (H.trans D.symm);let⟨s1,R,s3⟩:=s A;rw[R]at B;let⟨y,u⟩:=cL.1 B;have:=(d.made q y A u).2.1
     grind
    .have I:=f b D;have A:=d.wE j q I t;rw[(s I).2.1]at l;rw[(s A).2.1]at B;rw[(s I).2.2,(s A).2.2];exact d.ord j q I t e l B
   .have f':∀j,(listed.setIfInBounds i true).getD j false=true->j≠i->(ob (aj c i w.heap.size) j).isSome=true->c j<w.heap.size:=λj b e l=>by
     rw[(s (f b e)).2.1]at l;let⟨y,u⟩:=cL.1 l;exact(d.made j y (f b e) u).2.1
    by_cases D:j=i
    .grind
    .have E:=s (f b D)
     by_cases H:k=i
     .grind
     .have h2:=s (f F H);rw[E.2.2,h2.2.2];exact d.apart j k (f b D) (f F H) (by grind) (by grind) e
 .let⟨a,w⟩:=m;let⟨c,n,d⟩:=L;simp only at n d;have hl:=V0 a' n.len C;cases n.full hl;have e:listed=cx ops.size true:=by
   apply Array.ext_getElem?;intro j;rw[gq]
   by_cases h:j<ops.size
   .have:=hl j h;rw[aY,bE (by rw[n.len];exact h)]at this
    grind
   .rw[nR h,dJ (by rw[n.len];omega)]
  exact b' c w (by grind)
theorem Mk.start:Mk V ob dep v (cx ops.size false) (λ_=>0) v:=by
 have f:∀j,(cx ops.size false).getD j false=false:=λj=>by
  rw[aY,gq];split<;>rfl
 exact⟨.refl _ _,λi _ h=>(by rw[f]at h;cases h),λi j h=>(by rw[f]at h;cases h),λj q h=>(by rw[f]at h;cases h),λi q h=>(by rw[f]at h;cases h)⟩
theorem XT(f:P.underlying l=J (.slice m))(d:(P.info? m).map (λi=>(i.zero,i.size,i.bytes))=J (J j,b,c))(n:Nat)(h:n<=32)(k:c<=1000)(w:Wd):(iB l (Y U n) (Y U n)).run P w=.ok (Sc (J (O w.heap.size 0 G')) n n) (w.alloc (.cells (eU j.cells (n*b)) m)):=by
 cases e:P.info? m with
 | none=>grind
 | some i =>
  rw[e]at d;simp only[aF,bz,cU]at d;let⟨p,s,q⟩:=d;have t:c*n<=1000*32:=Nat.mul_le_mul k h;have:=run_make (P:=P) w l m i _ f e p .i64 .i64 n n Za Za (by rw[q];omega) Za
  grind
theorem BH{a:db}{o:aN}{x:aU}(n:o.op=.makeSlice l x x)(p:a.eval x=Y U d)(e:P.underlying l=J (.slice m))(f:(P.info? m).map (λi=>(i.zero,i.size,i.bytes))=J (J j,b,c))(h:d<=32)(k:c<=1000)(w:Wd):(Ex a.eval o).run P w=.ok (.value (Sc (J (O w.heap.size 0 G')) d d)) (w.alloc (.cells (eU j.cells (d*b)) m)):=by
 have:=XT e f d h k w;unfold Ex
 simp_all
theorem Di{z:Array Vu}(h:c<b)(d:0<z.size):(eU z b)[c]?=z[c%z.size]?:=by
 unfold eU;rw[Array.getElem?_map,Array.getElem?_range,nT h,aF,bE (Nat.mod_lt _ d),getElem!_pos z _ (Nat.mod_lt _ d)]
end
attribute [local go_sem ↓] Go.wp_at_zero Go.wp_at_succ
def wu:Array aN :=
 match Tryz.f14.body with
 | some (.seq _ (.seq _ (.seq (.region _ ops _) _)))=>ops
 | _=>#[]
theorem d0D:(J'.info? 133).map (λi=>(i.zero,i.size,i.bytes))=J (J (Po G'),1,8):=by kernel_rfl
theorem Oy:(J'.info? 88).map (λi=>(i.zero,i.size,i.bytes))=J (J (Sc G' 0 0),1,24):=by kernel_rfl
theorem c9T:ux wu=true:=by kernel_rfl
def vD(b n c d:Nat):Array dQ:=#[Po (J (O b 0 G')),Sc (J (O c 0 G')) n n,Sc (J (O d 0 G')) n n]
def wb(b n:Nat)(c:Nat->Nat):Nat->Vu
 | 0=>Po (J (O b 0 G'))|1=>Y U n|2=>Sc (J (O (c 2) 0 G')) n n|3=>Y U n|4=>Sc (J (O (c 4) 0 G')) n n
 | 5=>.agg (vD b n (c 2) (c 4))|6=>Po (J (O (c 6) 0 G'))|7=>Po (J (O (c 6) 0 G'))|_=>Ud
def GN(b n:Nat)(c:Nat->Nat):Nat->Option Obj
 | 2=>J (.cells (eU #[Po G'] (n*1)) 133)
 | 4=>J (.cells (eU #[Sc G' 0 0] (n*1)) 88)
 | 6=>J (.cells (vD b n (c 2) (c 4)) 114 (0,0))
 | _=>G'
def Ge:Nat->List Nat
 | 2=>[2]|4=>[4]|5=>[2,4]|6=>[2,4,6]|7=>[2,4,6]|_=>[]
theorem Kw{w:Wd}(h:w.heap[b]?=J (.cells (eU #[j] (c*1)) l)):pR w b c λ_=>j :=
 ⟨_,_,h,by rw[size_madeCells,Nat.mul_one],λd e=>by rw[Di Za Zc];simp[mP]⟩
theorem c1p{bk n:Nat}(f:n<=32){r:Array Vu}(D:r.size=15)(b0:r[0]?=J (Po (J (O bk 0 G'))))(k:r[3]?=J (Y U n)){v:Wd}{Q:Exit->db->Wd->Prop}(m:∀c w,Mk (wb bk n) (GN bk n) Ge v (cx 8 true) c w->Q .normal ⟨fill wu (wb bk n c) r,[]⟩ w) :
  ∀p listed (e:db×Wd) g,Ord wu p listed g->(∃c,pE wu (wb bk n c) r listed e.1/\Mk (wb bk n) (GN bk n) Ge v listed c e.2)->wpOps J' wu Q g e.1 e.2:=by
 refine Mq c9T (λc q x j h=>?_) Zd Zd (λi o l=>?_) m
 .match j with
  | 0|1|3|(_+8)=>exact⟨Z,Z⟩
  | 2|4|5|6|7=>simp only[Ge,ae,ai,or_false,not_or]at h;simp[wb,GN,aj,h,aA];try simp[aA,eq_comm,h]
 .have s:=(Zj l).1;have t:wu.size=8:=by kernel_rfl
  rw[t]at s;have u:i=0\/i=1\/i=2\/i=3\/i=4\/i=5\/i=6\/i=7:=by omega
  rcases u with rfl|rfl|rfl|rfl|rfl|rfl|rfl|rfl<;>cases Ze l<;>refine⟨Z,λc a w listed b d=>?_⟩
  .exact .inl ⟨Z,X1 Z (b.base Zd b0)⟩
  .exact .inl ⟨Z,X1 Z (b.base Zd k)⟩
  .refine .inr ⟨_,Z,(BH Z (b.tmp (j:=1) Z Z (d _ Zd) Za Z) Tryz.underlying111 d0D f Za w).trans ?_⟩;simp[wb,aj,gv]
  .exact .inl ⟨Z,X1 Z (b.base Zd k)⟩
  .refine .inr ⟨_,Z,(BH Z (b.tmp (j:=3) Z Z (d _ Zd) Za Z) ng Oy f Za w).trans ?_⟩;simp[wb,aj,gv]
  .have y:a.eval (.tmp 8)=Po (J (O bk 0 G')):=b.tmp (j:=0) Z Z (d _ Zd) Za Z;have z:a.eval (.tmp 10)=Sc (J (O (c 2) 0 G')) n n:=b.tmp (j:=2) Z Z (d _ Zd) Za Z;have A:a.eval (.tmp 12)=Sc (J (O (c 4) 0 G')) n n:=b.tmp (j:=4) Z Z (d _ Zd) Za Z;refine .inl ⟨Z,?_⟩;unfold Ex;show Sem.run _ (do let x ←iG 114 (#[(0,Operand.tmp 8),(1,.tmp 10),(2,.tmp 12)].map λx=>(x.fst,a.eval x.snd));pure (km x)) _=_;simp only[du,cZ,eK,y,z,A];kernel_rfl
  .have B:a.eval (.tmp 13)=.agg (vD bk n (c 2) (c 4)):=b.tmp (j:=5) Z Z (d _ Zd) Za Z;refine .inr ⟨_,Z,?_⟩;unfold Ex;show Sem.run _ (do let x ←Instr.box 114 (a.eval (.tmp 13));pure (km x)) _=_;simp only[B,wb,aj];kernel_rfl
  .have C:a.eval (.tmp 14)=Po (J (O (c 6) 0 G')):=b.tmp (j:=6) Z Z (d _ Zd) Za Z;exact .inl ⟨Z,zW Z C⟩
structure IF (w w':Wd) (bk n bl bu bn:Nat):Prop where
 oX:bG w.heap.size w w'
 gl:w.heap.size<=bl
 gu:w.heap.size<=bu
 gn:w.heap.size<=bn
 lu:bu<bl
 ln:bn<bl
 un:bu≠bn
 l:w'.heap[bl]?=J (.cells (vD bk n bu bn) 114 (0,0))
 u:pR w' bu n (λ_=>Po G')
 d:pR w' bn n (λ_=>Sc G' 0 0)
theorem c4H{w:Wd}{y:Nat}{K:aa}(R:js w b c d y K) :
  aG J' 14 #[Po (J (O b 0 G'))] w λe w'=>∃n,e=.returned (Po (J (O n 0 G')))/\∃z A,IF w w' b K.nS n z A:=by
 go_enter Tryz.func14,Tryz.ntmps14
 have B:ar (K.nS<=6):=R.hS
 go_wp2_with fail
 refine(OQ R).mono ?_;rintro e h ⟨l,j,m,rfl,b1,S1,l1,l2,l3⟩;unfold rW;have C:∀w:Wd,(Instr.field 109 (.agg #[dm (J (O l 0 G')) K.nF K.nF,Sc (J (O j 0 G')) K.nS K.nS,Sc (J (O m 0 G')) K.nD K.nD]) 1).run J' w=.ok (Sc (J (O j 0 G')) K.nS K.nS) w:=λ_=>by kernel_rfl
 go_wp2_with fail
 clear C;refine wp_region_draw (ops:=wu) λt=>?_;have D:bG w.heap.size w { h with drawn:=h.drawn+1 }:=b1.drew;refine c1p (v:={ h with drawn:=h.drawn+1 }) (bk:=b) (n:=K.nS) (by have:=B.out;omega) Z Z Z ?_ _ _ (_,_) _ (xT Zd wu t) ⟨_,pE.start _ _ _,Mk.start⟩
 .intro f N I;rename_i S T p;refine p _ _ ?_;have q:fill wu (wb b K.nS f) #[Po (J (O b 0 G')),Ud,Po G',Y U K.nS,Po (J (O b 0 G')),.agg #[Sc (J (O l 0 G')) K.nF K.nF,Sc (J (O j 0 G')) K.nS K.nS,Sc (J (O m 0 G')) K.nD K.nD],Sc (J (O j 0 G')) K.nS K.nS,Y U K.nS,Ud,Ud,Ud,Ud,Ud,Ud,Ud]
    = #[Po (J (O b 0 G')),Ud,Po (J (O (f 6) 0 G')),Y U K.nS,Po (J (O b 0 G')),.agg #[Sc (J (O l 0 G')) K.nF K.nF,Sc (J (O j 0 G')) K.nS K.nS,Sc (J (O m 0 G')) K.nD K.nD],Sc (J (O j 0 G')) K.nS K.nS,Y U K.nS,Po (J (O b 0 G')),Y U K.nS,Sc (J (O (f 2) 0 G')) K.nS K.nS,Y U K.nS,Sc (J (O (f 4) 0 G')) K.nS K.nS,.agg (vD b K.nS (f 2) (f 4)),Po (J (O (f 6) 0 G'))]:=by kernel_rfl
  rw[q];have s:=I.made 2 _ Z Z;have u:=I.made 4 _ Z Z;have x:=I.made 6 _ Z Z;have E:=I.apart 2 4 Z Z Z Z Zb;have F:=I.ord 6 2 Z Zb Zb Z Z;have H:=I.ord 6 4 Z Zb Zb Z Z;have L:=I.oX;have k:w.heap.size<=({ h with drawn:=h.drawn+1 }:Wd).heap.size:=b1.size;clear I q p
  go_wp2_with fail
  go_ret
  exact⟨f 6,Z,f 2,f 4,FL D L k,Zh k x.1,Zh k s.1,Zh k u.1,F,H,E,x.2.2,Kw s.2.2,Kw u.2.2⟩
end
section
open Go.Conc
attribute [local go_sem ↓] Go.wp_at_zero Go.wp_at_succ
def wO:Array aN :=
 match Tryz.f15.body with
 | some (.seq _ (.seq _ (.seq (.region _ ops _) _)))=>ops
 | _=>#[]
def xk(a n b c d:Nat):Array dQ:=#[Po (J (O a 0 Q)),Sc (J (O b 0 Q)) n n,Sc (J (O c 0 Q)) n n,Sc (J (O d 0 Q)) n n]
def tG(a n:Nat)(c:Nat->Nat):Nat->Vu
 | 0=>Po (J (O a 0 Q))|1=>vi n|2=>Sc (J (O (c 2) 0 Q)) n n|3=>vi n|4=>Sc (J (O (c 4) 0 Q)) n n|5=>vi n|6=>Sc (J (O (c 6) 0 Q)) n n
 | 7=>.agg (xk a n (c 2) (c 4) (c 6))|8=>Po (J (O (c 8) 0 Q))|9=>Po (J (O (c 8) 0 Q))|_=>Ud
abbrev Gf:dQ:=.agg #[i0,i0,i0,b0,s0,s0,s0,s0]
def xF(a n:Nat)(c:Nat->Nat):Nat->Option Obj
 | 2=>J (.cells (eU Gf.cells (n*8)) 137)
 | 4=>J (.cells (eU #[b0] (n*1)) 4)
 | 6=>J (.cells (eU #[s0] (n*1)) 88)
 | 8=>J (.cells (xk a n (c 2) (c 4) (c 6)) 118 (0,0))
 | _=>Q
def BE:Nat->List Nat
 | 2=>[2]|4=>[4]|6=>[6]|7=>[2,4,6]|8=>[2,4,6,8]|9=>[2,4,6,8]|_=>[]
theorem QZ:(V.info? 137).map (λi=>(i.zero,i.size,i.bytes))=J (J Gf,8,128):=by kernel_rfl
theorem d0B:(V.info? 4).map (λi=>(i.zero,i.size,i.bytes))=J (J b0,1,1):=by kernel_rfl
theorem YI{bk n:Nat}(g:n<=32){e:Array Vu}(E:e.size=18)(r:e[0]?=J (Po (J (O bk 0 G'))))(k:e[3]?=J (vi n)){v:Wd}{Q:Exit->db->Wd->Prop}(s:∀c w,Mk (tG bk n) (xF bk n) BE v (cx 10 true) c w->Q .normal ⟨fill wO (tG bk n c) e,[]⟩ w) :
  ∀t listed (f:db×Wd) m,Ord wO t listed m->(∃c,pE wO (tG bk n c) e listed f.1/\Mk (tG bk n) (xF bk n) BE v listed c f.2)->wpOps V wO Q m f.1 f.2:=by
 refine Mq Zd (λc q x j h=>?_) Zd Zd (λi o p=>?_) s
 .match j with
  | 0|1|3|5|(_+10)=>exact⟨Z,Z⟩
  | 2|4|6|7|8|9=>simp only[BE,ae,ai,or_false,not_or]at h;simp[tG,xF,aj,h,aA];try simp[aA,eq_comm,h]
 .have u:=(Zj p).1;have y:wO.size=10:=by kernel_rfl
  rw[y]at u;have z:i=0\/i=1\/i=2\/i=3\/i=4\/i=5\/i=6\/i=7\/i=8\/i=9:=by omega
  rcases z with rfl|rfl|rfl|rfl|rfl|rfl|rfl|rfl|rfl|rfl<;>cases Ze p<;>refine⟨Z,λc a w listed b d=>?_⟩
  .exact .inl ⟨Z,X1 Z (b.base Zd r)⟩
  .exact .inl ⟨Z,X1 Z (b.base Zd k)⟩
  .refine .inr ⟨_,Z,(BH Z (b.tmp (j:=1) Z Z (d _ Zd) Za Z) Tryz.underlying115 QZ g Za w).trans ?_⟩;simp[tG,aj]
  .exact .inl ⟨Z,X1 Z (b.base Zd k)⟩
  .refine .inr ⟨_,Z,(BH Z (b.tmp (j:=3) Z Z (d _ Zd) Za Z) Tryz.underlying116 d0B g Za w).trans ?_⟩;simp[tG,aj,gv]
  .exact .inl ⟨Z,X1 Z (b.base Zd k)⟩
  .refine .inr ⟨_,Z,(BH Z (b.tmp (j:=5) Z Z (d _ Zd) Za Z) ng Oy g Za w).trans ?_⟩;simp[tG,aj,gv]
  .have A:a.eval (.tmp 9)=Po (J (O bk 0 G')):=b.tmp (j:=0) Z Z (d _ Zd) Za Z;have B:a.eval (.tmp 11)=Sc (J (O (c 2) 0 G')) n n:=b.tmp (j:=2) Z Z (d _ Zd) Za Z;have C:a.eval (.tmp 13)=Sc (J (O (c 4) 0 G')) n n:=b.tmp (j:=4) Z Z (d _ Zd) Za Z;have l:a.eval (.tmp 15)=Sc (J (O (c 6) 0 G')) n n:=b.tmp (j:=6) Z Z (d _ Zd) Za Z;refine .inl ⟨Z,?_⟩;unfold Ex;show Sem.run _ (do let x ←iG 118 (#[(0,Operand.tmp 9),(1,.tmp 11),(2,.tmp 13),(3,.tmp 15)].map λx=>(x.fst,a.eval x.snd));pure (km x)) _=_;simp only[du,cZ,eK,A,B,C,l];kernel_rfl
  .have D:a.eval (.tmp 16)=.agg (xk bk n (c 2) (c 4) (c 6)):=b.tmp (j:=7) Z Z (d _ Zd) Za Z;refine .inr ⟨_,Z,?_⟩;unfold Ex;show Sem.run _ (do let x ←Instr.box 118 (a.eval (.tmp 16));pure (km x)) _=_;simp only[D,tG,aj];kernel_rfl
  .have l:a.eval (.tmp 17)=Po (J (O (c 8) 0 G')):=b.tmp (j:=8) Z Z (d _ Zd) Za Z;exact .inl ⟨Z,zW Z l⟩
theorem c5H{B:RB}{r:Rk}(R:ml e B r)(g:r.nS<=6) :
  aG V 15 #[Po (J (O B.b 0 Q))] e λf a=>∃c,f=.returned (Po (J (O (c 8) 0 Q)))/\e.heap.size<=a.heap.size/\(∀k,k<e.heap.size->a.heap[k]?=e.heap[k]?)/\∃v:Wd,v.heap.size=e.heap.size/\Mk (tG B.b r.nS) (xF B.b r.nS) BE v (cx 10 true) c a:=by
 go_enter Tryz.func15,Tryz.ntmps15
 have h:=R.k1
 go_wp2_with fail
 refine wp_region_draw (ops:=wO) λt=>YI (v:={ e with drawn:=e.drawn+1 }) (bk:=B.b) (n:=r.nS) Za Z Z Z ?_ _ _ (_,_) _ (xT Zd wO t) ⟨_,pE.start _ _ _,Mk.start⟩;intro c i I;rename_i j l b;refine b _ _ ?_;have d:fill wO (tG B.b r.nS c) #[Po (J (O B.b 0 Q)),Ud,Po Q,vi r.nS,Po (J (O B.b 0 Q)),Po (J (O B.b 0 Q)),Po (J (O B.b 1 Q)),Sc (J (O B.bp 0 Q)) r.nS B.cp,vi r.nS,Ud,Ud,Ud,Ud,Ud,Ud,Ud,Ud,Ud]
   = #[Po (J (O B.b 0 Q)),Ud,Po (J (O (c 8) 0 Q)),vi r.nS,Po (J (O B.b 0 Q)),Po (J (O B.b 0 Q)),Po (J (O B.b 1 Q)),Sc (J (O B.bp 0 Q)) r.nS B.cp,vi r.nS,Po (J (O B.b 0 Q)),vi r.nS,Sc (J (O (c 2) 0 Q)) r.nS r.nS,vi r.nS,Sc (J (O (c 4) 0 Q)) r.nS r.nS,vi r.nS,Sc (J (O (c 6) 0 Q)) r.nS r.nS,.agg (xk B.b r.nS (c 2) (c 4) (c 6)),Po (J (O (c 8) 0 Q))]:=by kernel_rfl
 rw[d];clear d b
 go_wp2_with fail
 go_ret
 exact⟨c,Z,I.oX.size,I.oX.block,{ e with drawn:=e.drawn+1 },Z,I⟩
variable{f κ:Nat->Nat}{w a:Wd}{main:Bool}{B:RB}{r:Rk}
theorem d0b(i:Nat)(G:Fit f w)(L:∀k,w.heap.size<=k->f k=0)(R:pT f w B r)(A:r.nS<=6):py main f 15 #[Po (J (O B.b 0 Q))] w λx a=>oh f [] w a/\∃(b:Rl) (C:Nat->Nat),x=Po (J (O b.bl 0 Q))/\(∀k,k<w.heap.size->C k=κ k)/\(∀k,w.heap.size<=k->C k=0\/k<a.heap.size/\pG i (C k))/\oM f C i a b B.b r.nS (λ_=>Q) (λ_=>s0) (λ_=>0) (λ_=>[]):=by
 refine xQ G Zd (R:=λx v n=>∃c,x=Po (J (O (c 8) 0 Q))/\(∀k,k<v.heap.size->n.heap[k]?=v.heap[k]?)/\∃u:Wd,u.heap.size=v.heap.size/\Mk (tG B.b r.nS) (xF B.b r.nS) BE u (cx 10 true) c n) (λd v D=>(c5H (R.lk D) A).mono λe n he=>?_) ?_
 .grind
 rintro d x v n a D E l ⟨c,rfl,hB,u,hu,I⟩;have M:v.heap.size=w.heap.size:=D.size;have e2:n.heap.size=a.heap.size:=E.size;have o:∀q y,(cx 10 true).getD q false=true->xF B.b r.nS c q=J y->w.heap.size<=c q/\c q<a.heap.size/\a.heap[c q]?=J y:=λq y H m=>by
  let⟨K,q2,X⟩:=I.made q y H m;rw[hu,M]at K;exact⟨K,by omega,(uH l E L K).trans X⟩
 have N:=o 2 _ Z Z;have P:=o 4 _ Z Z;have S:=o 6 _ Z Z;have t:=o 8 _ Z Z;have c':=I.apart 2 4 Z Z Z Z Zb;have d':=I.apart 2 6 Z Z Z Z Zb;have e':=I.apart 4 6 Z Z Z Z Zb;have f':=I.apart 8 2 Z Z Z Z Zb;have g':=I.apart 8 4 Z Z Z Z Zb;have h':=I.apart 8 6 Z Z Z Z Zb;have a':∀k,w.heap.size<=k->(if k<w.heap.size then κ k else if k=c 8 then cB i 0 else if k=c 2 then cB i 1 else if k=c 4 then cB i 2 else if k=c 6 then cB i 3 else 0)=if k=c 8 then cB i 0 else if k=c 2 then cB i 1 else if k=c 4 then cB i 2 else if k=c 6 then cB i 3 else 0:=λk l=>nR Za
 refine⟨⟨l.size,λj hj _=>C7 (w:=w.at d) l D E (hB j Za),E.fit⟩,⟨c 8,c 2,c 4,c 6⟩,λk=>if k<w.heap.size then κ k else if k=c 8 then cB i 0 else if k=c 2 then cB i 1 else if k=c 4 then cB i 2 else if k=c 6 then cB i 3 else 0,Z,λk l=>nT l,λk l=>?_,?_⟩
 .simp only[a' k l]
  by_cases F:k=c 8
  .rw[nT F];exact .inr ⟨by omega,rT Za⟩
  by_cases m:k=c 2
  .rw[nR F,nT m];exact .inr ⟨by omega,rT Za⟩
  by_cases T:k=c 4
  .rw[nR F,nR m,nT T];exact .inr ⟨by omega,rT Za⟩
  by_cases A:k=c 6
  .rw[nR F,nR m,nR T,nT A];exact .inr ⟨by omega,rT Za⟩
  grind
 .have z:∀q y,(cx 10 true).getD q false=true->xF B.b r.nS c q=J y->f (c q)=0:=λq y H m=>L _ (o q y H m).1;refine⟨by simp[aD,t.2.2,xk],by simp[aD,t.2.2,xk],by simp[aD,t.2.2,xk],by simp[aD,t.2.2,xk],λp W=>?_,λp W=>?_,λp j W hj=>?_,λp s _ h=>(by cases h),λp _=>dh _ _ _ _,λp g _ h=>(by cases h),⟨⟨⟨_,_,t.2.2⟩,z 8 _ Z Z⟩,?_⟩,⟨⟨⟨_,_,N.2.2⟩,z 2 _ Z Z⟩,?_⟩,⟨⟨⟨_,_,P.2.2⟩,z 4 _ Z Z⟩,?_⟩,⟨⟨⟨_,_,S.2.2⟩,z 6 _ Z Z⟩,?_⟩,A⟩
  .simp only[aD,P.2.2];rw[Di Za Zc];simp[mP]
  .simp only[aD,S.2.2];rw[Di Za Zc];simp[mP]
  .simp only[aD,N.2.2];rw[Di Za (by simp[gv])];simp only[Gf,gv];rw[bE (Nat.mod_lt _ Zc)];rfl
  all_goals grind
end
end
end Go.Proofs.YtcgabodkegcpgaaGreatDoor